import PyProof.Rows.All
import Wide.All
import OpenK.AllK
import Wide.FinOn
import Lean
import PyProof.EqAt
import PyProof.EqKinds
import PyProof.TupleCall
import PyProof.NeData
import KE.KSortTup
import PyProof.Rows.FStr
import PyProof.AutoIntG2
import PyProof.DictTruth
import PyProof.Rows.CountFlat
import PyProof.Rows.SeqMore
import PyProof.DictWalks
import KE.KItemsList
import PyProof.ReprRoads
import PyProof.ReprLen
import PyProof.Rows.ReprOcc
import KE.KRevIter
import KE.KRevSl
import PyProof.Rows.Range3
import PyProof.DictCompW
import KE.KSortAsk
import PySem.Challenge.RW_brimyard_k30_whole_sums_known_at_once
set_option Elab.async false
set_option compiler.extract_closed false
set_option linter.all false
set_option maxRecDepth 100000
namespace L2
open PySem PySem.Spec PyProof.Rows
abbrev Key:=Sum Int Str
def keyIs:Key->Value->Bool
 | .inl k,v=>Value.isInt k v
 | .inr x,v=>Value.isStrOf x v
def keyH (w:World):Key->Int
 | .inl k=>hashInt k
 | .inr x=>hashStr w x
theorem keyIs_shape:∀ {k:Key}{v:Value},keyIs k v = true->(∃ i t,k = Sum.inl i/\v = Value.int i t)\/(∃ x t,k = Sum.inr x/\v = Value.str x t)
 | .inl i,v,h=>by
  obtain⟨t,e⟩:=Value.isInt_shape h
  exact .inl ⟨i,t,rfl,e⟩
 | .inr x,v,h=>by
  obtain⟨t,e⟩:=Value.isStrOf_shape h
  exact .inr ⟨x,t,rfl,e⟩
theorem keyIs_int (i:Int) (t:Tok):keyIs (.inl i) (.int i t) = true:=by simp [keyIs,Value.isInt]
theorem keyIs_str (x:Str) (t:Tok):keyIs (.inr x) (.str x t) = true:=by simp [keyIs,Value.isStrOf]
theorem key_ll (a b:Int):decide ((Sum.inl a:Key) = Sum.inl b) = (a == b):=by
 by_cases e:a = b
 · simp_all
 simp_all
theorem key_rr (a b:Str):decide ((Sum.inr a:Key) = Sum.inr b) = decide (a = b):=by simp
theorem key_lr (a:Int) (b:Str):decide ((Sum.inl a:Key) = Sum.inr b) = false:=rfl
theorem key_rl (a:Str) (b:Int):decide ((Sum.inr a:Key) = Sum.inl b) = false:=rfl
def mixKind (prog:Program) (w:World):PySem.KeyKind prog w Key where
 is:=keyIs
 hash:=keyH w
 inj:=fun v a b ha hb=>by
  rcases keyIs_shape ha with ⟨i,t,rfl,rfl⟩ | ⟨x,t,rfl,rfl⟩
  · rcases keyIs_shape hb with ⟨j,u,rfl,e⟩ | ⟨y,u,rfl,e⟩
    · injection e with e1 _;rw [e1]
    · exact nomatch e
  · rcases keyIs_shape hb with ⟨j,u,rfl,e⟩ | ⟨y,u,rfl,e⟩
    · exact nomatch e
    · injection e with e1 _;rw [e1]
 byValue:=fun k v h=>by
  rcases keyIs_shape h with ⟨i,t,rfl,rfl⟩ | ⟨x,t,rfl,rfl⟩ <;> rfl
 pyHash:=fun hv h=>by
  rcases keyIs_shape hv with ⟨i,t,rfl,rfl⟩ | ⟨x,t,rfl,rfl⟩
  · exact wpAny_pyHash_int h
  · exact wpAny_pyHash_str h
 eqBool:=fun hu hv h=>by
  rcases keyIs_shape hu with ⟨i,t,rfl,rfl⟩ | ⟨x,t,rfl,rfl⟩
  · rcases keyIs_shape hv with ⟨j,u,rfl,rfl⟩ | ⟨y,u,rfl,rfl⟩
    · rw [key_ll] at h;exact wpAny_eqBool_int h
    · rw [key_lr] at h;exact SeqAt.EqAt.int_str i t y u _ _ _ _ h
  · rcases keyIs_shape hv with ⟨j,u,rfl,rfl⟩ | ⟨y,u,rfl,rfl⟩
    · rw [key_rl] at h;exact SeqAt.EqAt.str_int x t j u _ _ _ _ h
    · rw [key_rr] at h;exact wpAny_eqBool_str h
 «strs»:=fun k x t v h=>by
  rcases keyIs_shape h with ⟨i,u,rfl,e⟩ | ⟨y,u,rfl,e⟩
  · exact nomatch e
  · injection e with e1 _
    subst e1
    cases v <;> rfl
theorem mixKind_int (prog:Program) (w:World) (i:Int) (t:Tok):(mixKind prog w).is (.inl i) (.int i t) = true:=keyIs_int i t
theorem mixKind_str (prog:Program) (w:World) (x:Str) (t:Tok):(mixKind prog w).is (.inr x) (.str x t) = true:=keyIs_str x t
inductive V where
 | non | bl (b:Bool) | int (i:Int) | str (x:Str) | byt (b:Array UInt8) | flt (b:UInt64) | ref (a:Addr) | ty (n:String)
 deriving DecidableEq
def RelV:V->Value->Prop
 | .non,u=>u = Value.none
 | .bl b,u=>u = Value.bool b
 | .int i,u=>∃ t,u = Value.int i t
 | .str x,u=>∃ t,u = Value.str x t
 | .byt b,u=>∃ t,u = Value.bytes b t
 | .flt b,u=>∃ t,u = Value.float b t
 | .ref a,u=>u = Value.ref a
 | .ty n,u=>u = Value.type n
abbrev Vals:List V->List Value->Prop:=Paired RelV
theorem Vals.length (r:Vals xs us):xs.length = us.length:=Paired.length r
theorem Vals.get:∀ {xs:List V}{us:List Value}{i:Nat}{x:V},Vals xs us->xs[i]? = some x->∃ u,us[i]? = some u/\RelV x u
 | _,_,_,_,.nil,e=>by simp_all
 | _,_,0,_,.cons r _,e=>by simp_all
 | _,_,i + 1,x,.cons _ t,e=>by
  obtain⟨u,h1,h2⟩:=Vals.get t (by assumption)
  simp_all
theorem Vals.set (r:RelV x u):∀ {xs:List V}{us:List Value} (i:Nat),Vals xs us->Vals (xs.set i x) (us.set i u)
 | _,_,_,.nil=>.nil
 | _,_,0,.cons _ t=>.cons r t
 | _,_,i + 1,.cons q t=>.cons q (Vals.set r i t)
theorem Vals.append:∀ {xs ys:List V}{us ws:List Value},Vals xs us->Vals ys ws->Vals (xs ++ ys) (us ++ ws)
 | _,_,_,_,.nil,s=>s
 | _,_,_,_,.cons r t,s=>.cons r (Vals.append t s)
theorem Vals.take:∀ {xs:List V}{us:List Value} (n:Nat),Vals xs us->Vals (xs.take n) (us.take n)
 | _,_,0,_=>.nil
 | _,_,_ + 1,.nil=>.nil
 | _,_,n + 1,.cons r t=>.cons r (Vals.take n t)
theorem Vals.drop:∀ {xs:List V}{us:List Value} (n:Nat),Vals xs us->Vals (xs.drop n) (us.drop n)
 | _,_,0,r=>r
 | _,_,_ + 1,.nil=>.nil
 | _,_,n + 1,.cons _ t=>Vals.drop n t
def RelO:Option V->Option Value->Prop
 | some v,some u=>RelV v u
 | none,none=>True
 | _,_=>False
def KV {κ:Type}:List (κ×V)->List (κ×Value)->Prop:=Paired fun (p:κ×V) (q:κ×Value)=>p.1 = q.1/\RelV p.2 q.2
def kV:Key->V
 | .inl i=>.int i
 | .inr x=>.str x
inductive HO where
 | lst (xs:List V)
 | tup (xs:List V)
 | dK (kvs:List (Key×V)) | dT (kvs:List (List Key×V))
 | set (S:Int->Bool) (n:Nat)
 | ins (C dx:Addr) (fs:List (Str×V))
 | own (x:Addr)
 | xd (fs:List (Str×V))
 | met (f x:Addr)
 | rng (lo hi:Int)
 | frz (o:Obj) (u:HO)
 | tbl (ps:Array Value)
 | ext (φ:Heap->Prop)
abbrev Hp:=Addr->Option HO
def upd (H:Hp) (a:Addr) (o:HO):Hp:=fun b=>if b = a then some o else H b
theorem upd_same:upd H a o a = some o:=by unfold upd;simp
theorem upd_ne (h:b≠a):upd H a o b = H b:=by unfold upd;simp_all
theorem upd_upd:upd (upd H a o) a u = upd H a u:=by
 unfold upd;simp_all
theorem ne_of {H:Hp}{a b:Addr}{o u:HO} (h:H a = some o) (h':H b = some u) (d:o≠u):a≠b:=by
 intro e;subst e;rw [h] at h';exact d (Option.some.inj h')
theorem ne_of_none {H:Hp} (h:H a = some o) (h':H b = none):a≠b:=by grind
def IsTupB (h:Heap) (a:Addr) (items:Array Value):Prop:=∃ o,h.get? a = some o/\o.cls = .type "tuple"/\o.dict = none/\∃ n,o.data = .seq items n
theorem IsTupB.tup {h:Heap}{a:Addr}{items:Array Value} (x:IsTupB h a items):IsTup h a items:=let ⟨o,e,c,_,n⟩:=x;⟨o,e,c,n⟩
theorem IsTupB.lt {h:Heap}{a:Addr}{items:Array Value} (x:IsTupB h a items):a < h.objs.size:=x.tup.lt
theorem IsTupB.new (h:Heap) (items:Array Value):IsTupB (h.push { cls:=.type "tuple",data:=.seq items }) h.objs.size items:=⟨_,Heap.get?_push_size _ rfl,rfl,rfl,_,rfl⟩
section
variable (P:Program) (w:World)
def ObjOk (H:Hp) (h:Heap) (a:Addr):HO->Prop
 | .lst xs=>xs.length<=sizeLine/\∃ (its:List Value) (n:Nat),Vals xs its/\h.get? a = some { cls:=.type "list",data:=.seq its.toArray n }
 | .tup xs=>xs.length<=sizeLine/\∃ its:List Value,Vals xs its/\IsTupB h a its.toArray
 | .dK kvs=>kvs.length<=sizeLine/\(a == sysModules) = false/\∃ vs,KV kvs vs/\h.DictOf (mixKind P w) a vs
 | .dT kvs=>kvs.length<=sizeLine/\(a == sysModules) = false/\∃ xs:List (List Key×Addr×Value),
  Paired (fun (p:List Key×V) (q:List Key×Addr×Value)=>p.1 = q.1/\H q.2.1 = some (.tup (p.1.map kV))/\RelV p.2 q.2.2) kvs xs/\
  ∃ o es ep,h.get? a = some o/\o.ExactDict/\o.data = .dict es ep/\es.toList = xs.map (entryOfKey (tupleKind (mixKind P w)))/\(xs.map (·.1)).Nodup
 | .set S n=>h.SetOf (intKind P w) a S n
 | .ins C dx fs=>H dx = some (.own a)/\fs.length<=1000/\dx≠a/\h.get? a = some (PySem.W.instObj C dx)/\
  ∃ mA,h.Ns1 dx mA/\(∀ f,RelO (fs.lookup f) (mA f))/\PySem.Within mA (fs.map (·.1))
 | .own _=>∃ o,h.get? a = some o
 | .xd fs=>∃ mA,h.Ns1 a mA/\∀ f,RelO (fs.lookup f) (mA f)
 | .rng lo hi=>∃ t u v,h.get? a = some { cls:=.type "range",data:=.fields #[.int lo t,.int hi u,.int 1 v] }
 | .frz o u=>h.get? a = some o/\ObjOk H h a u
 | .tbl ps=>h.get? a = some { cls:=.none,data:=.fields ps }
 | .met f x=>h.get? a = some (PySem.W.methodObj (.ref f) (.ref x))
 | .ext φ=>φ h/\(∃ o,h.get? a = some o)/\∀ h1 h2:Heap,φ h1->(∀ o,h1.get? a = some o->h2.get? a = some o)->φ h2
def HOk (H:Hp) (h:Heap):Prop:=∀ a o,H a = some o->ObjOk P w H h a o
end
section
variable {a:Addr}
theorem ObjOk.lt (x:ObjOk P w H h a o):a < h.objs.size:=by
 cases o with
 | lst xs=>obtain⟨_,_,_,_,e⟩:=x;exact Heap.lt_size e
 | tup xs=>obtain⟨_,_,_,p⟩:=x;exact p.lt
 | dK kvs=>obtain⟨_,_,_,_,o,_,_,e,_⟩:=x;exact Heap.lt_size e
 | dT kvs=>obtain⟨_,_,_,_,o,_,_,e,_⟩:=x;exact Heap.lt_size e
 | set S n=>obtain⟨o,_,_,_,e,_⟩:=x;exact Heap.lt_size e
 | ins C dx fs=>obtain⟨_,_,_,e,_⟩:=x;exact Heap.lt_size e
 | own y=>obtain⟨_,e⟩:=x;exact Heap.lt_size e
 | xd fs=>obtain⟨_,⟨_,_,_,e,_⟩,_⟩:=x;exact Heap.lt_size e
 | rng lo hi=>obtain⟨_,_,_,e⟩:=x;exact Heap.lt_size e
 | frz ob u=>obtain⟨e,_⟩:=x;exact Heap.lt_size e
 | tbl ps=>exact Heap.lt_size (x)
 | met f y=>exact Heap.lt_size (x)
 | ext φ=>obtain⟨_,⟨_,e⟩,_⟩:=x;exact Heap.lt_size e
theorem Paired.mapP:∀ {l₁:List α}{l₂:List β},Paired F l₁ l₂->(∀ a b,F a b->G a b)->Paired G l₁ l₂
 | _,_,.nil,_=>.nil
 | _,_,.cons r t,f=>.cons (f _ _ r) (Paired.mapP t f)
theorem ObjOk.stay (x:ObjOk P w H h a o) (k:∀ b u,(b = a\/H b = some (.own a))->h.get? b = some u->h'.get? b = some u)
 (ho:∀ b,H b = some (.own a)->H' b = some (.own a)) (ht:∀ b xs,H b = some (.tup xs)->H' b = some (.tup xs)):ObjOk P w H' h' a o:=by
 induction o with
 | lst xs=>obtain⟨z,its,n,r,e⟩:=x;exact⟨z,its,n,r,k _ _ (.inl rfl) e⟩
 | tup xs=>obtain⟨z,its,r,ob,e,c⟩:=x;exact⟨z,its,r,ob,k _ _ (.inl rfl) e,c⟩
 | dK kvs=>obtain⟨z,y,vs,r,ob,es,ep,e,c⟩:=x;exact⟨z,y,vs,r,ob,es,ep,k _ _ (.inl rfl) e,c⟩
 | dT kvs=>
  obtain⟨z,y,xs,r,ob,es,ep,e,c⟩:=x
  exact⟨z,y,xs,Paired.mapP r fun p q z=>⟨z.1,ht _ _ z.2.1,z.2.2⟩,ob,es,ep,k _ _ (.inl rfl) e,c⟩
 | set S n=>obtain⟨ob,es,ep,t,e,c⟩:=x;exact⟨ob,es,ep,t,k _ _ (.inl rfl) e,c⟩
 | ins C dx fs=>
  obtain⟨d,z,ne,e,mA,⟨od,es,ep,e2,c⟩,r⟩:=x
  exact⟨ho _ d,z,ne,k _ _ (.inl rfl) e,mA,⟨od,es,ep,k _ _ (.inr d) e2,c⟩,r⟩
 | own y=>obtain⟨ob,e⟩:=x;exact⟨ob,k _ _ (.inl rfl) e⟩
 | xd fs=>obtain⟨mA,⟨od,es,ep,e,c⟩,r⟩:=x;exact⟨mA,⟨od,es,ep,k _ _ (.inl rfl) e,c⟩,r⟩
 | rng lo hi=>obtain⟨t,u,v,e⟩:=x;exact⟨t,u,v,k _ _ (.inl rfl) e⟩
 | frz ob u ih=>obtain⟨e,q⟩:=x;exact⟨k _ _ (.inl rfl) e,ih q⟩
 | tbl ps=>
  have e:h.get? a = some { cls:=.none,data:=.fields ps }:=x
  show h'.get? a = some { cls:=.none,data:=.fields ps }
  exact k a _ (.inl rfl) e
 | met f y=>
  have e:h.get? a = some (PySem.W.methodObj (.ref f) (.ref y)):=x
  show h'.get? a = some (PySem.W.methodObj (.ref f) (.ref y))
  exact k a _ (.inl rfl) e
 | ext φ=>obtain⟨p,⟨o,e⟩,st⟩:=x;exact⟨st _ _ p fun o q=>k _ _ (.inl rfl) q,⟨o,k _ _ (.inl rfl) e⟩,st⟩
theorem HOk.lt (x:HOk P w H h) (e:H a = some o):a < h.objs.size:=(x a o e).lt
theorem HOk.fresh (x:HOk P w H h) (e:h.objs.size<=a):H a = none:=by
 cases q:H a with
 | none=>rfl
 | some u=>exact absurd (Nat.lt_of_lt_of_le (x.lt q) e) (Nat.lt_irrefl _)
theorem HOk.kept (x:HOk P w H h) (k:∀ b u,h.get? b = some u->h'.get? b = some u):HOk P w H h':=fun a o e=>
 (x a o e).stay (fun b u _ q=>k b u q) (fun _ q=>q) fun _ _ q=>q
theorem HOk.laid (x:HOk P w H h) (k:∀ b u,h.get? b = some u->h'.get? b = some u) (hp:h.objs.size<=a) (new:ObjOk P w (upd H a o) h' a o):HOk P w (upd H a o) h':=fun b u e=>by
 have hn:=x.fresh hp
 by_cases hb:b = a
 · subst hb;rw [upd_same] at e;cases e;exact new
 · rw [upd_ne hb] at e
   exact (x b u e).stay (fun c v _ q=>k c v q) (fun c q=>by rw [upd_ne (ne_of_none q hn)];exact q) fun c xs q=>by rw [upd_ne (ne_of_none q hn)];exact q
end
def Rd (H:Hp) (a:Addr) (u:HO):Prop:=H a = some u\/∃ o,H a = some (.frz o u)
theorem Rd.ok (r:Rd H a u) (x:HOk P w H h):ObjOk P w H h a u:=by
 rcases r with r | ⟨o,r⟩
 · exact x a u r
 · obtain⟨_,q⟩:=x a _ r
   omega
def Mut:Option HO->Prop
 | some (.lst _)=>True
 | some (.dK _)=>True
 | some (.dT _)=>True
 | some (.set _ _)=>True
 | some (.ins _ _ _)=>True
 | some (.ext _)=>True
 | _=>False
section
theorem HOk.write (ok:HOk P w H h) (mu:Mut (H x)) (he:e = x\/H e = some (.own x)) (k:∀ b u,b≠e->h.get? b = some u->h'.get? b = some u) (heo:∃ u,h'.get? e = some u)
 (new:ObjOk P w (upd H x o') h' x o'):HOk P w (upd H x o') h':=fun b u q=>by
 have nown:∀ c y,H c = some (.own y)->c≠x:=fun c y r z=>by subst z;rw [r] at mu;exact mu
 have ntup:∀ c xs,H c = some (.tup xs)->c≠x:=fun c xs r z=>by subst z;rw [r] at mu;exact mu
 by_cases hb:b = x
 · subst hb;rw [upd_same] at q;cases q;exact new
 · rw [upd_ne hb] at q
   by_cases hbe:b = e
   · have q':H b = some (.own x):=by
      rcases he with z | z
      · exact absurd (hbe.trans z) hb
      · rw [hbe];exact z
     rw [q] at q';cases q'
     obtain⟨v,hv⟩:=heo
     exact⟨v,by rw [hbe];exact hv⟩
   · refine (ok b u q).stay (fun c v hc r=>k c v ?_ r) (fun c r=>by rw [upd_ne (nown c b r)];exact r) fun c xs r=>by rw [upd_ne (ntup c xs r)];exact r
     rcases hc with rfl | hc
     · exact hbe
     · rintro rfl
       rcases he with z | z
       · exact nown c b hc z
       · rw [hc] at z;cases z;exact hb rfl
end
structure Un (fs ex:List Addr) (H H':Hp) (h h':Heap):Prop where
 keep:∀ b o,h.get? b = some o->H b = none->b∉fs->b∉ex->h'.get? b = some o
 slot:∀ b o,h.get? b = some o->H b = none->b∈fs->b∉ex->∃ sl,h'.get? b = some { o with slots:=sl }
 free:∀ b o,h.get? b = some o->H b = none->b∉ex->H' b = none
 there:∀ b o,h.get? b = some o->b∉ex->∃ o',h'.get? b = some o'
 tups:∀ b xs,H b = some (.tup xs)->H' b = some (.tup xs)
 frzs:∀ b o u,H b = some (.frz o u)->H' b = some (.frz o u)
 tbls:∀ b ps,H b = some (.tbl ps)->∃ more,H' b = some (.tbl (ps ++ more))
section
variable {h h1 h2 h':Heap}{a x e:Addr}
theorem Un.any (u:Un fs ex H H1 h h1) (q:h.get? b = some ob) (n:H b = none) (hx:b∉ex):∃ sl,h1.get? b = some { ob with slots:=sl }:=by
 by_cases hb:b∈fs
 · exact u.slot b ob q n hb hx
 · exact⟨ob.slots,u.keep b ob q n hb hx⟩
theorem Un.kept (k:∀ b u,h.get? b = some u->h'.get? b = some u):Un fs ex H H h h':=
 ⟨fun b ob q _ _ _=>k b ob q,fun b ob q _ _ _=>⟨ob.slots,k b ob q⟩,fun _ _ _ n _=>n,fun b ob q _=>⟨ob,k b ob q⟩,fun _ _ q=>q,fun _ _ _ q=>q,fun _ ps q=>⟨#[],by simp_all⟩⟩
theorem Un.refl:Un fs ex H H h h:=Un.kept fun _ _ q=>q
theorem Un.laid (k:∀ b u,h.get? b = some u->h'.get? b = some u) (hp:h.objs.size<=a) (hn:H a = none):Un fs ex H (upd H a o) h h' where
 keep:=fun b u q _ _ _=>k b u q
 slot:=fun b u q _ _ _=>⟨u.slots,k b u q⟩
 free:=fun b u q n _=>by rw [upd_ne (Nat.ne_of_lt (Nat.lt_of_lt_of_le (Heap.lt_size q) hp))];omega
 there:=fun b u q _=>⟨u,k b u q⟩
 tups:=fun b xs q=>by rw [upd_ne (ne_of_none q hn)];omega
 frzs:=fun b u xs q=>by rw [upd_ne (ne_of_none q hn)];omega
 tbls:=fun b ps q=>⟨#[],by rw [upd_ne (ne_of_none q hn),q];simp⟩
theorem Un.write (mu:Mut (H x)) (he:e = x\/H e = some (.own x)) (k:∀ b u,b≠e->h.get? b = some u->h'.get? b = some u) (heo:∃ u,h'.get? e = some u):Un fs ex H (upd H x o) h h':=by
 have hx:∀ b,H b = none->b≠x:=fun b n z=>by subst z;rw [n] at mu;exact mu
 have hb:∀ b,H b = none->b≠e:=fun b n z=>by simp_all
 have hm:∀ b u,H b = some u->¬ Mut (some u)->b≠x:=fun b u q nm z=>by grind
 refine⟨fun b u q n _ _=>k b u (hb b n) q,fun b u q n _ _=>⟨u.slots,k b u (hb b n) q⟩,fun b u q n _=>by rw [upd_ne (hx b n)];exact n,fun b u q _=>?_,
  fun b xs q=>by rw [upd_ne (hm b _ q fun z=>z)];exact q,fun b u xs q=>by rw [upd_ne (hm b _ q fun z=>z)];exact q,fun b ps q=>⟨#[],by rw [upd_ne (hm b _ q fun z=>z),q];simp⟩⟩
 by_cases hbe:b = e
 · simp_all
 · exact⟨u,k b u hbe q⟩
end
def trk (h:Heap) (H:Hp):List Addr:=(List.range h.objs.size).filter fun a=>(H a).isSome
def hidT (h:Heap) (H:Hp):Heap:=PySem.W.hideAll h (trk h H)
theorem hidT_size (h:Heap) (H:Hp):(hidT h H).objs.size = h.objs.size:=PySem.W.hideAll_size _ _
theorem hidT_get (e:h.get? b = some o) (n:H b = none):(hidT h H).get? b = some o:=
 PySem.W.hideAll_get _ e fun hm=>by
  have q:=(List.mem_filter.mp hm).2
  simp_all
theorem of_hidT (e:(hidT h H).get? b = some o):h.get? b = some o/\H b = none:=by
 have e':=PySem.W.of_hideAll _ e
 refine⟨e',?_⟩
 cases q:H b with
 | none=>rfl
 | some x=>
  have hm:b∈trk h H:=List.mem_filter.mpr ⟨List.mem_range.mpr (Heap.lt_size e'),by simp [q]⟩
  have z:(hidT h H).get? b = none:=PySem.W.hideAll_none _ hm
  grind
def allNews (g h:Heap) (L:Addr):List (Addr×Obj):=(List.range h.objs.size).filterMap fun a=>if a = L\/(g.get? a).isSome = true then none else (h.get? a).map fun o=>(a,o)
def rest (g h:Heap) (L d:Addr):List (Addr×Obj):=(allNews g h L).filter fun p=>decide (p.1≠d)
structure Mod (K:PySem.W.Frag) (mg:Str->Option Value) (base:Heap):Prop where
 kin:K.In base
 glob:base.Ns mainGlobals mg
 blt:∃ mb,base.Ns builtinsNs mb/\∀ x:Str,x≠"__name__"->mb x = bootBuiltins x
 nolimit:base.NoLimit
structure Cx where
 prog:Program
 w:World
 K:PySem.W.Frag
 mg:Str->Option Value
 base:Heap
 A:Around
 N:List Str
 s₀:Shared
 H₀:Hp
 env:Env
 outer:List Env
 stack:List Env
 ex:List Addr
 fn:Str->Bool
 calm:Bool
 pn:List (Addr×Obj)
 xe:Value->Shared->Prop
def frs (l:List Env):List Addr:=l.filterMap (·.frame)
abbrev Cx.fs (X:Cx):List Addr:=frs X.outer
def Vis (sc:Scope) (x:Str):Prop:=sc.names.lookup x = some .local\/sc.names.lookup x = some .cell\/sc.names.lookup x = some .free
def Loc (sc:Scope) (x:Str):Prop:=sc.names.lookup x = some .local\/sc.names.lookup x = some .cell
def Look (env:Env) (h:Heap) (m:Str->Option Value) (x:Str) (u:Value):Prop:=
 (env.kindOf x = some .local/\m x = some u)\/((env.kindOf x = some .cell\/env.kindOf x = some .free)/\∃ c,env.cells.lookup x = some c/\h.IsCell c (some u))
structure Cx.Ok (X:Cx):Prop where
 mod:Mod X.K X.mg X.base
 kind:X.env.scope.kind = .function
 glob:X.env.globals = mainGlobals
 blt:X.env.builtins = builtinsNs
 above:X.s₀.heap.objs.size<=X.env.locals
 inj:∀ x y c,X.env.cells.lookup x = some c->X.env.cells.lookup y = some c->x = y
 has:∀ x,(X.env.kindOf x = some .cell\/X.env.kindOf x = some .free)->∃ c,X.env.cells.lookup x = some c
 cab:∀ x c,X.fn x = true->X.env.cells.lookup x = some c->X.s₀.heap.objs.size<=c
 hd:X.calm = true->X.A.handled = none
 frames:X.A.frames = some X.stack
 stk:X.stack = X.outer\/(X.stack = X.env :: X.outer/\X.env.frame = some X.env.locals)
 exf:∀ b∈X.ex,b≠X.env.locals/\∀ x c,X.env.cells.lookup x = some c->c≠b
 bs:∀ b o,X.base.get? b = some o->X.s₀.heap.get? b = some o/\X.H₀ b = none
 bsz:X.base.objs.size<=X.s₀.heap.objs.size
 noex:∀ b o,X.base.get? b = some o->b∉X.ex
 exfs:∀ b∈X.ex,b∉X.fs
 funs:X.s₀.heap.FunFrames X.base X.outer
 frf:∀ b∈X.fs,X.H₀ b = none
structure Inv (X:Cx) (pins:List (Addr×Obj)) (σ:List (Option V)) (H:Hp) (s:Shared):Prop where
 ok:X.Ok
 os:s.os = X.s₀.os
 bare:AllBare s.gens
 base:Un X.fs X.ex X.H₀ H X.s₀.heap s.heap
 loc:∃ m,s.heap.Ns X.env.locals m/\∀ (i:Nat) (x:Str) (v:V),X.N[i]? = some x->σ[i]? = some (some v)->Vis X.env.scope x->∃ u,RelV v u/\Look X.env s.heap m x u
 cell:∀ x c,X.env.cells.lookup x = some c->∃ v,s.heap.IsCell c v
 free:H X.env.locals = none
 freeC:∀ x c,X.env.cells.lookup x = some c->H c = none
 pin:∀ p∈X.pn ++ pins,s.heap.get? p.1 = some p.2/\H p.1 = none/\p.1≠X.env.locals/\p.1∉X.fs/\∀ v,p.2.data≠.cell v
 hok:HOk X.prog X.w H s.heap
 len:σ.length = X.N.length
section
variable {X:Cx}
theorem Cx.Ok.nofr (ok:X.Ok) (e:X.base.get? b = some o):b∉X.fs:=fun hb=>by
 have:=(ok.funs.mem hb).1
 grind
theorem Inv.bs (I:Inv X pins σ H s):∀ b o,X.base.get? b = some o->s.heap.get? b = some o/\H b = none:=fun b o e=>
 ⟨I.base.keep b o (I.ok.bs b o e).1 (I.ok.bs b o e).2 (I.ok.nofr e) (I.ok.noex b o e),I.base.free b o (I.ok.bs b o e).1 (I.ok.bs b o e).2 (I.ok.noex b o e)⟩
theorem Inv.bk (I:Inv X pins σ H s):∀ b o,X.base.get? b = some o->s.heap.get? b = some o:=fun b o e=>(I.bs b o e).1
theorem Inv.mod (I:Inv X pins σ H s):Mod X.K X.mg X.base:=I.ok.mod
theorem Inv.kIn (I:Inv X pins σ H s):X.K.In s.heap:=I.ok.mod.kin.keeps I.bk
theorem Inv.lt (I:Inv X pins σ H s):X.env.locals < s.heap.objs.size:=let ⟨_,hn,_⟩:=I.loc;hn.lt
theorem Inv.sz (I:Inv X pins σ H s):X.s₀.heap.objs.size<=s.heap.objs.size:=Nat.le_trans I.ok.above (Nat.le_of_lt I.lt)
theorem Inv.nofs (I:Inv X pins σ H s) {a:Addr} (h:s.heap.objs.size<=a):a∉X.fs:=fun hb=>by
 obtain⟨_,o,ho,_⟩:=I.ok.funs.mem hb
 exact absurd (Nat.lt_of_lt_of_le (Heap.lt_size ho) (Nat.le_trans I.sz h)) (Nat.lt_irrefl _)
theorem Inv.cne (I:Inv X pins σ H s):∀ x c,X.env.cells.lookup x = some c->c≠X.env.locals:=fun x c e z=>by
 obtain⟨v,o,ho,hd⟩:=I.cell x c e
 obtain⟨m,⟨o',es,ep,ho',hd',_⟩,_⟩:=I.loc
 grind
theorem Inv.funs (I:Inv X pins σ H s):s.heap.FunFrames X.base X.outer:=by
 have all:∀ (l:List Env),(∀ b∈frs l,b∈X.fs)->X.s₀.heap.FunFrames X.base l->s.heap.FunFrames X.base l:=by
  intro l
  induction l with
  | nil=>intro _ _;trivial
  | cons env r ih=>
   intro hs hl
   obtain⟨hk,⟨L,o,hf,hn,ho,hd⟩,hr⟩:=hl
   have hL:=hs L (by unfold frs;simp_all)
   obtain⟨sl,e⟩:=I.base.slot L o ho (I.ok.frf L hL) hL fun z=>I.ok.exfs L z hL
   exact⟨hk,⟨L,_,hf,hn,e,hd⟩,ih (fun b hb=>hs b (by unfold frs;rw [List.filterMap_cons,hf];exact List.mem_cons_of_mem _ hb)) hr⟩
 exact all X.outer (fun _ hb=>hb) I.ok.funs
theorem Inv.stack (I:Inv X pins σ H s):s.heap.FunFrames X.base X.stack:=by
 rcases I.ok.stk with e | ⟨e,hf⟩
 · rw [e];exact I.funs
 · rw [e]
   obtain⟨m,hn,_⟩:=I.loc
   refine .cons (by rw [I.ok.kind];decide) hf hn ?_ I.funs
   exact Heap.get?_none_of_le (Nat.le_trans I.ok.bsz I.ok.above)
theorem Inv.stkSub (I:Inv X pins σ H s):∀ b∈frs X.stack,b∈X.env.locals :: X.fs:=fun b hb=>by
 rcases I.ok.stk with e | ⟨e,hf⟩
 · simp_all
 · rw [e] at hb
   unfold frs at hb
   rw [List.filterMap_cons,hf] at hb
   exact hb
theorem Inv.stkFree (I:Inv X pins σ H s):∀ b∈frs X.stack,H b = none:=fun b hb=>by
 rcases List.mem_cons.mp (I.stkSub b hb) with e | hb
 · rw [e];exact I.free
 · obtain⟨_,o,ho,_⟩:=I.ok.funs.mem hb
   exact I.base.free b o ho (I.ok.frf b hb) fun z=>I.ok.exfs b z hb
theorem Inv.step {g':Array GenState}{t':Nat}{d':Drawn}{ch:List Addr} (I:Inv X pins σ H s)
 (hch:∀ b∈ch,(b∈X.ex\/X.s₀.heap.objs.size<=b)/\b≠X.env.locals/\(∀ x c,X.env.cells.lookup x = some c->c≠b)/\∀ p∈X.pn ++ pins,p.1≠b)
 (keep:∀ b o,b≠X.env.locals->b∉X.fs->b∉ch->s.heap.get? b = some o->H b = none->h'.get? b = some o)
 (slot:∀ b o,b≠X.env.locals->b∈X.fs->b∉ch->s.heap.get? b = some o->H b = none->∃ sl,h'.get? b = some { o with slots:=sl }) (free:∀ b o,b∉ch->s.heap.get? b = some o->H b = none->H' b = none)
 (there:∀ b o,b∉ch->s.heap.get? b = some o->∃ o',h'.get? b = some o')
 (tups:∀ b xs,H b = some (.tup xs)->H' b = some (.tup xs)) (frzs:∀ b o u,H b = some (.frz o u)->H' b = some (.frz o u)) (tbls:∀ b ps,H b = some (.tbl ps)->∃ more,H' b = some (.tbl (ps ++ more)))
 (ns:∀ m,s.heap.Ns X.env.locals m->h'.Ns X.env.locals m) (hok:HOk X.prog X.w H' h') (hg:AllBare g'):
 Inv X pins σ H' { s with heap:=h',gens:=g',drawn:=d',toks:=t' }:=by
 have neL:∀ b o,X.s₀.heap.get? b = some o->b≠X.env.locals:=fun b o e=>Nat.ne_of_lt (Nat.lt_of_lt_of_le (Heap.lt_size e) I.ok.above)
 have neC:∀ b o,X.s₀.heap.get? b = some o->b∉X.ex->b∉ch:=fun b o e hx hb=>by
  rcases (hch b hb).1 with z | z
  · exact hx z
  · exact absurd (Nat.lt_of_lt_of_le (Heap.lt_size e) z) (Nat.lt_irrefl _)
 have cellK:∀ x c,X.env.cells.lookup x = some c->∀ v,s.heap.IsCell c v->h'.IsCell c v:=fun x c e v ⟨o,ho,hd⟩=>by
  have nch:c∉ch:=fun z=>(hch c z).2.2.1 x c e rfl
  by_cases hc:c∈X.fs
  · obtain⟨sl,q⟩:=slot c o (I.cne x c e) hc nch ho (I.freeC x c e)
    exact⟨_,q,hd⟩
  · exact⟨o,keep c o (I.cne x c e) hc nch ho (I.freeC x c e),hd⟩
 refine⟨I.ok,I.os,hg,⟨fun b o e n hb hx=>?_,fun b o e n hb hx=>?_,fun b o e n hx=>?_,fun b o e hx=>?_,fun b xs e=>tups b xs (I.base.tups b xs e),fun b o xs e=>frzs b o xs (I.base.frzs b o xs e),fun b ps e=>?_⟩,?_,fun x c e=>?_,?_,fun x c e=>?_,fun p hp=>?_,hok,I.len⟩
 · exact keep b o (neL b o e) hb (neC b o e hx) (I.base.keep b o e n hb hx) (I.base.free b o e n hx)
 · obtain⟨sl,e1⟩:=I.base.slot b o e n hb hx
   obtain⟨sl',e2⟩:=slot b _ (neL b o e) hb (neC b o e hx) e1 (I.base.free b o e n hx)
   exact⟨sl',e2⟩
 · obtain⟨o',e1⟩:=I.base.there b o e hx
   exact free b o' (neC b o e hx) e1 (I.base.free b o e n hx)
 · obtain⟨o',e1⟩:=I.base.there b o e hx
   exact there b o' (neC b o e hx) e1
 · obtain⟨m1,e1⟩:=I.base.tbls b ps e
   obtain⟨m2,e2⟩:=tbls b _ e1
   exact⟨m1 ++ m2,by rw [e2,Array.append_assoc]⟩
 · obtain⟨m,hn,hl⟩:=I.loc
   refine⟨m,ns m hn,fun i x v e1 e2 e3=>?_⟩
   obtain⟨u,r,l⟩:=hl i x v e1 e2 e3
   refine⟨u,r,?_⟩
   rcases l with l | ⟨k,c,e,z⟩
   · exact .inl l
   · exact .inr ⟨k,c,e,cellK x c e _ z⟩
 · obtain⟨v,z⟩:=I.cell x c e
   exact⟨v,cellK x c e v z⟩
 · obtain⟨m,⟨o,_,_,ho,_⟩,_⟩:=I.loc
   exact free _ o (fun z=>(hch _ z).2.1 rfl) ho I.free
 · obtain⟨v,o,ho,hd⟩:=I.cell x c e
   exact free c o (fun z=>(hch c z).2.2.1 x c e rfl) ho (I.freeC x c e)
 · obtain⟨e,n,ne,nf,d⟩:=I.pin p hp
   have nch:p.1∉ch:=fun z=>(hch p.1 z).2.2.2 p hp rfl
   exact⟨keep p.1 p.2 ne nf nch e n,free p.1 p.2 nch e n,ne,nf,d⟩
theorem Inv.un {t':Nat} (I:Inv X pins σ H s) (u:Un X.fs [] H H' s.heap h') (hok:HOk X.prog X.w H' h'):Inv X pins σ H' { s with heap:=h',toks:=t' }:=by
 obtain⟨m,⟨o,es,ep,ho,r⟩,_⟩:=id I.loc
 obtain⟨sl,hL⟩:=u.any ho I.free (by simp)
 exact I.step (g':=s.gens) (d':=s.drawn) (ch:=[]) (fun _ z=>nomatch z) (fun b o _ hb _ e n=>u.keep b o e n hb (by simp)) (fun b o _ hb _ e n=>u.slot b o e n hb (by simp)) (fun b o _ e n=>u.free b o e n (by simp)) (fun b o _ e=>u.there b o e (by simp)) u.tups u.frzs u.tbls (fun m' hm=>by
  obtain⟨o',es',ep',ho',r'⟩:=hm
  rw [ho] at ho';cases ho'
  exact⟨_,es',ep',hL,r'⟩) hok I.bare
theorem Inv.call {g':Array GenState}{t':Nat}{d':Drawn}{ch:List Addr} (I:Inv X pins σ H s) (u:Un (frs X.stack) ch H H' s.heap h') (hok:HOk X.prog X.w H' h') (hg:AllBare g')
 (hch:∀ b∈ch,(b∈X.ex\/X.s₀.heap.objs.size<=b)/\b≠X.env.locals/\(∀ x c,X.env.cells.lookup x = some c->c≠b)/\∀ p∈X.pn ++ pins,p.1≠b):
 Inv X pins σ H' { s with heap:=h',gens:=g',drawn:=d',toks:=t' }:=by
 obtain⟨m,⟨o,es,ep,ho,r⟩,_⟩:=id I.loc
 obtain⟨sl,hL⟩:=u.any ho I.free fun z=>(hch _ z).2.1 rfl
 exact I.step (ch:=ch) hch (fun b o hL hb hc e n=>u.keep b o e n (fun z=>(List.mem_cons.mp (I.stkSub b z)).elim hL hb) hc) (fun b o _ _ hc e n=>u.any e n hc) (fun b o hc e n=>u.free b o e n hc) (fun b o hc e=>u.there b o e hc) u.tups u.frzs u.tbls (fun m' hm=>by
  obtain⟨o',es',ep',ho',r'⟩:=hm
  rw [ho] at ho';cases ho'
  exact⟨_,es',ep',hL,r'⟩) hok hg
theorem Inv.turned {t':Nat}{it:Addr} (I:Inv X pins σ H s) (k:∀ b o,b≠it->s.heap.get? b = some o->h'.get? b = some o) (hn:H it = none) (hL:it≠X.env.locals)
 (h1:it∈X.ex\/X.s₀.heap.objs.size<=it) (h2:∀ x c,X.env.cells.lookup x = some c->c≠it) (h3:∀ p∈X.pn ++ pins,p.1≠it):Inv X pins σ H { s with heap:=h',toks:=t' }:=by
 have nit:∀ b u,H b = some u->b≠it:=fun b u e z=>by rw [z,hn] at e;cases e
 refine I.step (g':=s.gens) (d':=s.drawn) (ch:=[it]) (fun b hb=>?_) (fun b o _ _ hc e _=>k b o (fun z=>hc (by simp [z])) e) (fun b o _ _ hc e _=>⟨o.slots,k b o (fun z=>hc (by simp [z])) e⟩) (fun _ _ _ _ n=>n)
  (fun b o hc e=>⟨o,k b o (fun z=>hc (by simp [z])) e⟩) (fun _ _ e=>e) (fun _ _ _ e=>e) (fun b ps e=>⟨#[],by rw [e];simp⟩) (fun m hm=>?_) (fun b u e=>?_) I.bare
 · have e:b = it:=by simpa using hb
   subst e
   exact⟨h1,hL,h2,h3⟩
 · obtain⟨o,es,ep,ho,r⟩:=hm
   exact⟨o,es,ep,k _ o (Ne.symm hL) ho,r⟩
 · refine (I.hok b u e).stay (fun c v hc q=>k c v ?_ q) (fun _ q=>q) fun _ _ q=>q
   rcases hc with z | z
   · rw [z];exact nit b u e
   · exact nit c _ z
theorem Inv.tok (I:Inv X pins σ H s) (t:Nat):Inv X pins σ H { s with toks:=t }:=I.un Un.refl I.hok
theorem Inv.kept {t':Nat} (I:Inv X pins σ H s) (k:∀ b u,s.heap.get? b = some u->h'.get? b = some u):Inv X pins σ H { s with heap:=h',toks:=t' }:=I.un (Un.kept k) (I.hok.kept k)
theorem Inv.laid {a:Addr}{o:HO}{t':Nat} (I:Inv X pins σ H s) (k:∀ b u,s.heap.get? b = some u->h'.get? b = some u) (hp:s.heap.objs.size<=a) (new:ObjOk X.prog X.w (upd H a o) h' a o):
 Inv X pins σ (upd H a o) { s with heap:=h',toks:=t' }:=I.un (Un.laid k hp (I.hok.fresh hp)) (I.hok.laid k hp new)
theorem Inv.write {x e:Addr}{o:HO}{t':Nat} (I:Inv X pins σ H s) (mu:Mut (H x)) (he:e = x\/H e = some (.own x)) (k:∀ b u,b≠e->s.heap.get? b = some u->h'.get? b = some u) (heo:∃ u,h'.get? e = some u)
 (new:ObjOk X.prog X.w (upd H x o) h' x o):Inv X pins σ (upd H x o) { s with heap:=h',toks:=t' }:=I.un (Un.write mu he k heo) (I.hok.write mu he k heo new)
theorem Inv.pins_of (I:Inv X pins σ H s) (h:∀ p∈pins',s.heap.get? p.1 = some p.2/\H p.1 = none/\p.1≠X.env.locals/\p.1∉X.fs/\∀ v,p.2.data≠.cell v):Inv X pins' σ H s:=
 ⟨I.ok,I.os,I.bare,I.base,I.loc,I.cell,I.free,I.freeC,fun p hp=>(List.mem_append.mp hp).elim (fun z=>I.pin p (List.mem_append_left _ z)) (h p),I.hok,I.len⟩
theorem nodup_ix {N:List Str} (hN:N.Nodup) {i j:Nat} (a:N[i]? = some x) (b:N[j]? = some x):i = j:=by
 obtain⟨h1,e1⟩:=List.getElem?_eq_some_iff.mp a
 obtain⟨h2,e2⟩:=List.getElem?_eq_some_iff.mp b
 exact (List.getElem_inj hN).mp (e1.trans e2.symm)
theorem store_ok2 {M:Model}{A:Around}{E:Value->Shared->Prop}{i:Nat}{x:Str}{v:V}{u:Value}{Q:Unit->Shared->Prop} (I:Inv X pins σ H s) (hN:X.N.Nodup) (hi:X.N[i]? = some x) (hx:Loc X.env.scope x) (r:RelV v u)
 (h:∀ s',Inv X pins (σ.set i (some v)) H s'->(∃ a,Heap.SameBut a s.heap s'.heap/\(a = X.env.locals\/X.env.cells.lookup x = some a))->Q () s') (hf:X.fn x = true\/X.env.scope.names.lookup x = some .local:=by first | exact .inl rfl | exact .inr rfl | assumption):wpAny M A (storeName X.env x u) Q E s:=by
 obtain⟨m,hn,hl⟩:=id I.loc
 have hcls:(X.env.scope.kind == .class || (X.env.scope.kind == .module && X.env.locals != X.env.globals)) = false:=by rw [I.ok.kind];rfl
 have hiσ:i < σ.length:=by rw [I.len];exact (List.getElem?_eq_some_iff.mp hi).1
 have cne:=I.cne
 have tracked:∀ {a:Addr}{h':Heap},(∃ o,s.heap.get? a = some o/\H a = none)->Heap.SameBut a s.heap h'->HOk X.prog X.w H h':=fun {a h'} ha hs b ob e=>by
  obtain⟨_,_,hfree⟩:=ha
  refine (I.hok b ob e).stay (fun c w' hc q=>(hs.2 c ?_).trans q) (fun _ q=>q) fun _ _ q=>q
  rintro rfl
  rcases hc with rfl | hc
  · rw [hfree] at e;cases e
  · rw [hfree] at hc;cases hc
 rcases hx with hk | hk
 · refine wpAny_storeName_local hk hn (fun h' hn' hs=>?_) hcls
   obtain⟨oL,_,_,hoL,_⟩:=id hn
   refine h _ ⟨I.ok,I.os,I.bare,⟨fun b o e n hb hx=>?_,fun b o e n hb hx=>?_,I.base.free,fun b o e hx=>?_,I.base.tups,I.base.frzs,I.base.tbls⟩,⟨_,hn',fun j y v' e1 e2 e3=>?_⟩,fun y c e=>?_,I.free,I.freeC,fun p hp=>?_,tracked ⟨oL,hoL,I.free⟩ hs,by simpa using I.len⟩ ⟨_,hs,.inl rfl⟩
   · exact (hs.2 b (Nat.ne_of_lt (Nat.lt_of_lt_of_le (Heap.lt_size e) I.ok.above))).trans (I.base.keep b o e n hb hx)
   · obtain⟨sl,e1⟩:=I.base.slot b o e n hb hx
     exact⟨sl,(hs.2 b (Nat.ne_of_lt (Nat.lt_of_lt_of_le (Heap.lt_size e) I.ok.above))).trans e1⟩
   · obtain⟨o',e1⟩:=I.base.there b o e hx
     exact⟨o',(hs.2 b (Nat.ne_of_lt (Nat.lt_of_lt_of_le (Heap.lt_size e) I.ok.above))).trans e1⟩
   · by_cases hj:j = i
     · subst hj
       rw [hi] at e1;cases e1
       rw [List.getElem?_set_self hiσ] at e2
       cases e2
       exact⟨u,r,.inl ⟨hk,by simp⟩⟩
     · rw [List.getElem?_set_ne (Ne.symm hj)] at e2
       obtain⟨u',r',q⟩:=hl j y v' e1 e2 e3
       refine⟨u',r',?_⟩
       rcases q with ⟨k,e⟩ | ⟨k,c,e,z⟩
       · refine .inl ⟨k,?_⟩
         have:y≠x:=fun e=>hj (nodup_ix hN e1 (e▸hi))
         simp [this,e]
       · exact .inr ⟨k,c,e,z.sameBut hs (cne y c e)⟩
   · obtain⟨w',z⟩:=I.cell y c e
     exact⟨w',z.sameBut hs (cne y c e)⟩
   · obtain⟨e,n,ne,nf,d⟩:=I.pin p hp
     exact⟨(hs.2 p.1 ne).trans e,n,ne,nf,d⟩
 · have hfn:X.fn x = true:=by
    rcases hf with z | z
    · exact z
    · rw [z] at hk;cases hk
   obtain⟨c,hc⟩:=I.ok.has x (.inl hk)
   obtain⟨w',z⟩:=I.cell x c hc
   refine wpAny_storeName_cell I.ok.kind hk hc z (fun h' hc' hs=>?_)
   obtain⟨oc,hoc,hocd⟩:=id z
   refine h { s with heap:=h' } ⟨I.ok,I.os,I.bare,⟨fun b o e n hb hx=>?_,fun b o e n hb hx=>?_,I.base.free,fun b o e hx=>?_,I.base.tups,I.base.frzs,I.base.tbls⟩,⟨m,hn.sameBut hs (Ne.symm (cne x c hc)),fun j y v' e1 e2 e3=>?_⟩,fun y c' e=>?_,I.free,I.freeC,fun p hp=>?_,tracked ⟨oc,hoc,I.freeC x c hc⟩ hs,by simpa using I.len⟩ ⟨c,hs,.inr hc⟩
   · exact (hs.2 b (Nat.ne_of_lt (Nat.lt_of_lt_of_le (Heap.lt_size e) (I.ok.cab x c hfn hc)))).trans (I.base.keep b o e n hb hx)
   · obtain⟨sl,e1⟩:=I.base.slot b o e n hb hx
     exact⟨sl,(hs.2 b (Nat.ne_of_lt (Nat.lt_of_lt_of_le (Heap.lt_size e) (I.ok.cab x c hfn hc)))).trans e1⟩
   · obtain⟨o',e1⟩:=I.base.there b o e hx
     exact⟨o',(hs.2 b (Nat.ne_of_lt (Nat.lt_of_lt_of_le (Heap.lt_size e) (I.ok.cab x c hfn hc)))).trans e1⟩
   · by_cases hj:j = i
     · subst hj
       rw [hi] at e1;cases e1
       rw [List.getElem?_set_self hiσ] at e2
       cases e2
       exact⟨u,r,.inr ⟨.inl hk,c,hc,hc'⟩⟩
     · rw [List.getElem?_set_ne (Ne.symm hj)] at e2
       obtain⟨u',r',q⟩:=hl j y v' e1 e2 e3
       refine⟨u',r',?_⟩
       rcases q with q | ⟨k,c',e,z'⟩
       · exact .inl q
       · refine .inr ⟨k,c',e,z'.sameBut hs ?_⟩
         rintro rfl
         exact hj (nodup_ix hN e1 (I.ok.inj _ _ _ e hc▸hi))
   · by_cases hcc:c' = c
     · subst hcc;exact⟨_,hc'⟩
     · obtain⟨w2,z2⟩:=I.cell y c' e
       exact⟨w2,z2.sameBut hs hcc⟩
   · obtain⟨e,n,ne,nf,d⟩:=I.pin p hp
     refine⟨(hs.2 p.1 ?_).trans e,n,ne,nf,d⟩
     intro q
     rw [q,hoc] at e
     have q':oc = p.2:=Option.some.inj e
     exact d w' (by rw [<- q'];exact hocd)
theorem store_ok (I:Inv X pins σ H s) (hN:X.N.Nodup) (hi:X.N[i]? = some x) (hx:Loc X.env.scope x) (r:RelV v u)
 (h:∀ s',Inv X pins (σ.set i (some v)) H s'->Q () s') (hf:X.fn x = true\/X.env.scope.names.lookup x = some .local:=by first | exact .inl rfl | exact .inr rfl | assumption):wpAny M A (storeName X.env x u) Q E s:=
 store_ok2 I hN hi hx r (fun s' I' _=>h s' I') hf
theorem Inv.call' {s':Shared}{ch:List Addr} (I:Inv X pins σ H s) (ho:s'.os = s.os) (u:Un (frs X.stack) ch H H' s.heap s'.heap) (hok:HOk X.prog X.w H' s'.heap) (hg:AllBare s'.gens)
 (hch:∀ b∈ch,(b∈X.ex\/X.s₀.heap.objs.size<=b)/\b≠X.env.locals/\(∀ x c,X.env.cells.lookup x = some c->c≠b)/\∀ p∈X.pn ++ pins,p.1≠b):Inv X pins σ H' s':=by
 obtain⟨h',g',d',t',o'⟩:=s'
 have e:o' = s.os:=ho
 subst e
 exact I.call (g':=g') (t':=t') (d':=d') u hok hg hch
end
abbrev XK:=Value->Option Addr->Hp->Prop
abbrev St:=List (Option V)
abbrev VK:=V->Hp->Prop
abbrev TE:=St->Hp->VK->Prop
abbrev TT:=St->Hp->(Bool->Hp->Prop)->Prop
abbrev TA:=St->Hp->(List V->Hp->Prop)->Prop
structure Ends where
 nx:St->Hp->Prop
 rt:VK
 bk:St->Hp->Prop:=fun _ _=>False
 ct:St->Hp->Prop:=fun _ _=>False
abbrev TS:=Ends->St->Hp->Prop
def EP (X:Cx) (pins:List (Addr×Obj)) (σ:St) (Q:VK) (u:Value) (s':Shared):Prop:=∃ v H',Inv X pins σ H' s'/\RelV v u/\Q v H'
def TP (X:Cx) (pins:List (Addr×Obj)) (σ:St) (Q:Bool->Hp->Prop) (b:Bool) (s':Shared):Prop:=∃ H',Inv X pins σ H' s'/\Q b H'
def AP (X:Cx) (pins:List (Addr×Obj)) (σ:St) (Q:List V->Hp->Prop) (us:List Value) (s':Shared):Prop:=∃ vs H',Inv X pins σ H' s'/\Vals vs us/\Q vs H'
def SP (X:Cx) (pins:List (Addr×Obj)) (D:Ends) (f:Flow) (s':Shared):Prop:=
 match f with
 | .next=>∃ σ' H',Inv X pins σ' H' s'/\D.nx σ' H'
 | .brk=>∃ σ' H',Inv X pins σ' H' s'/\D.bk σ' H'
 | .cont=>∃ σ' H',Inv X pins σ' H' s'/\D.ct σ' H'
 | .ret u=>∃ v σ' H',Inv X pins σ' H' s'/\RelV v u/\D.rt v H'
def PE (X:Cx) (e:Expr) (t:TE):Prop:=
 ∀ (pins:List (Addr×Obj)) (s:Shared) (σ:St) (H:Hp) (Q:VK),Inv X pins σ H s->t σ H Q->wpAny (model X.prog X.w) X.A (eval e X.env) (EP X pins σ Q) X.xe s
def PT (X:Cx) (e:Expr) (t:TT):Prop:=
 ∀ (pins:List (Addr×Obj)) (s:Shared) (σ:St) (H:Hp) (Q:Bool->Hp->Prop),Inv X pins σ H s->t σ H Q->wpAny (model X.prog X.w) X.A (isTrue e X.env (eval e X.env)) (TP X pins σ Q) X.xe s
def PW (X:Cx) (e:Expr) (t:TT):Prop:=
 ∀ (whole:Sem Value) (pins:List (Addr×Obj)) (s:Shared) (σ:St) (H:Hp) (Q:Bool->Hp->Prop),Inv X pins σ H s->t σ H Q->wpAny (model X.prog X.w) X.A (isTrue e X.env whole) (TP X pins σ Q) X.xe s
theorem PW.pt (h:PW X e t):PT X e t:=h _
def PA (X:Cx) (es:List Expr) (t:TA):Prop:=
 ∀ (pos:Pos) (pins:List (Addr×Obj)) (s:Shared) (σ:St) (H:Hp) (Q:List V->Hp->Prop),Inv X pins σ H s->t σ H Q->wpAny (model X.prog X.w) X.A (spliced (backTo pos (starEach es X.env))) (AP X pins σ Q) X.xe s
def PS (X:Cx) (st:Stmt) (t:TS):Prop:=
 ∀ (pins:List (Addr×Obj)) (s:Shared) (σ:St) (H:Hp) (D:Ends),Inv X pins σ H s->t D σ H->wpAny (model X.prog X.w) X.A (exec st X.env) (SP X pins D) X.xe s
def PSs (X:Cx) (st:List Stmt) (t:TS):Prop:=
 ∀ (pins:List (Addr×Obj)) (s:Shared) (σ:St) (H:Hp) (D:Ends),Inv X pins σ H s->t D σ H->wpAny (model X.prog X.w) X.A (execs st X.env) (SP X pins D) X.xe s
theorem thn {α:Type}{t:Sem α}{Q Q':α->Shared->Prop}{M:Model}{A:Around}{E:Value->Shared->Prop}{s:Shared} (h:wpAny M A t Q E s) (hQ:∀ a s,Q a s->Q' a s):wpAny M A t Q' E s:=wpAny_mono h hQ fun _ _ x=>x
section
variable {X:Cx}
theorem bin {a b:Expr}{ta tb:TE} (ha:PE X a ta) (hb:PE X b tb) {pins:List (Addr×Obj)}{s:Shared}{σ:St}{H:Hp}{R:V->V->Hp->Prop} (I:Inv X pins σ H s) (h:ta σ H fun x H1=>tb σ H1 fun y H2=>R x y H2)
 {α:Type}{Q:α->Shared->Prop}{f:Value->Value->Sem α}
 (hf:∀ v u s2 x y H2,Inv X pins σ H2 s2->RelV x v->RelV y u->R x y H2->wpAny (model X.prog X.w) X.A (f v u) Q X.xe s2):
 wpAny (model X.prog X.w) X.A (eval a X.env) (fun v s₁=>wpAny (model X.prog X.w) X.A (eval b X.env) (fun u s₂=>wpAny (model X.prog X.w) X.A (f v u) Q X.xe s₂) X.xe s₁) X.xe s:=by
 refine thn (ha pins s σ H _ I h) fun v s1 ⟨x,H1,I1,r1,q1⟩=>?_
 refine thn (hb pins s1 σ H1 _ I1 q1) fun u s2 ⟨y,H2,I2,r2,q2⟩=>?_
 exact hf v u s2 x y H2 I2 r1 r2 q2
def tVar (i:Nat):TE:=fun σ H Q=>∃ v,σ[i]? = some (some v)/\Q v H
def tC (v:V):TE:=fun _ H Q=>Q v H
theorem pe_var {pos:Pos} (hN:X.N[i]? = some x) (hv:Vis X.env.scope x) (hd:(x == ("__debug__" : Str)) = false:=by decide) (hcd:(x == ("__classdict__" : Str)) = false:=by decide):PE X (.Name x pos) (tVar i):=by
 intro pins s σ H Q I h
 obtain⟨v,e,h⟩:=h
 obtain⟨m,hn,hl⟩:=I.loc
 obtain⟨u,r,l⟩:=hl i x v hN e hv
 have fin:EP X pins σ Q u s:=⟨v,H,I,r,h⟩
 rcases l with ⟨hk,hm⟩ | ⟨hk,c,hc,hcell⟩
 · exact wpAny_Name (wpAny_loadName_local I.ok.kind hk hn hm fin) hd
 · rcases hk with hk | hk
   · exact wpAny_Name (wpAny_loadName_cell I.ok.kind hk hc hcell fin) hd
   · exact wpAny_Name (wpAny_loadName_free I.ok.kind hk hc hcell fin hcd) hd
theorem pe_int:PE X (.Constant (.int i) j pos) (tC (.int i)):=fun _ _ _ H _ I h=>wpAny_Constant_int ⟨.int i,H,I.tok _,⟨_,rfl⟩,h⟩
theorem pe_bl:PE X (.Constant (.bool b) j pos) (tC (.bl b)):=fun _ _ _ H _ I h=>Constant_bool ⟨.bl b,H,I,rfl,h⟩
theorem pe_non:PE X (.Constant .none j pos) (tC .non):=fun _ _ _ H _ I h=>Constant_none ⟨.non,H,I,rfl,h⟩
theorem pe_str:PE X (.Constant (.str x) j pos) (tC (.str x)):=fun _ _ _ H _ I h=>Calls.Constant_str ⟨.str x,H,I.tok _,⟨_,rfl⟩,h⟩
def Gl (X:Cx) (x:Str):Prop:=X.env.kindOf x = some .globalImplicit
theorem ld_glob {σ:St} (I:Inv X pins σ H s) (hg:Gl X x) (hm:X.mg x = some u) (h:Q u s)
 (hd:(x == ("__debug__" : Str)) = false:=by decide):wpAny (model X.prog X.w) X.A (eval (.Name x pos) X.env) Q E s:=
 Calls.Name_function_global I.ok.kind hg (Calls.loadGlobal_global (by rw [I.ok.glob];exact I.mod.glob.keeps I.bk) hm h) hd
theorem ld_blt {E:Value->Shared->Prop}{σ:St}{pos:Pos} (I:Inv X pins σ H s) (hg:Gl X x) (hm:X.mg x = none) (hv:bootBuiltins x = some u) (h:Q u s)
 (hn:x≠"__name__":=by decide) (hd:(x == ("__debug__" : Str)) = false:=by decide):wpAny (model X.prog X.w) X.A (eval (.Name x pos) X.env) Q E s:=by
 obtain⟨mb,h1,h2⟩:=I.mod.blt
 exact Calls.Name_function_global I.ok.kind hg (Calls.loadGlobal_builtin (by rw [I.ok.glob];exact I.mod.glob.keeps I.bk) hm (by rw [I.ok.blt];exact h1.keeps I.bk) ((h2 x hn).trans hv) h) hd
theorem pe_glob {x:Str}{v:V}{u:Value}{pos:Pos} (hg:Gl X x) (hm:X.mg x = some u) (r:RelV v u) (hd:(x == ("__debug__" : Str)) = false:=by decide):PE X (.Name x pos) (tC v):=
 fun _ _ _ H _ I h=>ld_glob I hg hm ⟨v,H,I,r,h⟩ hd
theorem pe_bltn {pos:Pos} (hg:Gl X x) (hm:X.mg x = none) (hv:bootBuiltins x = some u) (r:RelV v u) (hn:x≠"__name__":=by decide) (hd:(x == ("__debug__" : Str)) = false:=by decide):PE X (.Name x pos) (tC v):=
 fun _ _ _ H _ I h=>ld_blt I hg hm hv ⟨v,H,I,r,h⟩ hn hd
def PC (X:Cx) (op:CmpOp) (a b:Expr) (t:TE):Prop:=
 ∀ (pins:List (Addr×Obj)) (s:Shared) (σ:St) (H:Hp) (Q:VK),Inv X pins σ H s->t σ H Q->
  wpAny (model X.prog X.w) X.A (eval a X.env) (fun v s₁=>wpAny (model X.prog X.w) X.A (eval b X.env) (fun u s₂=>wpAny (model X.prog X.w) X.A (compareOp op v u) (EP X pins σ Q) X.xe s₂) X.xe s₁) X.xe s
def tB (t:TE):TT:=fun σ H Q=>t σ H fun x H1=>∃ c,x = .bl c/\Q c H1
theorem pt_cmp (h:PC X op a b t) (h1:behindInMarks op b = false:=by first | exact nobehind _ (by decide) (by decide) | rfl):PT X (.Compare a [op] [b] pos) (tB t):=by
 intro pins s σ H Q I hw
 refine wpAny_isTrue_Compare1 (thn (h pins s σ H _ I hw) fun v s1 h1=>thn h1 fun u s2 h2=>thn h2 fun c s3 ⟨x,H1,I1,r1,q1⟩=>?_) h1
 obtain⟨d,rfl,q⟩:=q1
 cases r1
 exact wpAny_truthy_bool ⟨H1,I1,q⟩
theorem pt_val {e:Expr}{t:TE} (h:PE X e t) (he:∀ whole,isTrue e X.env whole = (do let v <- whole;standAt e.pos;holding [v] (truthy v)):=by intro _;rfl):PT X e (tB t):=by
 intro pins s σ H Q I hw
 refine isTrue_plain (thn (h pins s σ H _ I hw) fun v s1 ⟨x,H1,I1,r1,q1⟩=>?_) (he _)
 obtain⟨d,rfl,q⟩:=q1
 cases r1
 exact wpAny_truthy_bool ⟨H1,I1,q⟩
variable {rest:List Expr}
def tAnd (t u:TT):TT:=fun σ H Q=>t σ H fun c H1=>if c = true then u σ H1 Q else Q false H1
def tOr (t u:TT):TT:=fun σ H Q=>t σ H fun c H1=>if c = true then Q true H1 else u σ H1 Q
def tNot (t:TT):TT:=fun σ H Q=>t σ H fun c H1=>Q (!c) H1
theorem pw_and1 (ha:PT X a tA):PW X (.BoolOp .And [a] pos) tA:=by
 intro wh pins s σ H Q I h
 refine isTrue_and (thn (ha pins s σ H Q I h) fun c s1 e=>?_)
 cases c with
 | true=>exact isTrue_and_nil e
 | false=>exact e
theorem pw_or1 (ha:PT X a tA):PW X (.BoolOp .Or [a] pos) tA:=by
 intro wh pins s σ H Q I h
 refine isTrue_or (thn (ha pins s σ H Q I h) fun c s1 e=>?_)
 cases c with
 | false=>exact isTrue_or_nil e
 | true=>exact e
theorem pw_and (ha:PT X a tA) (hb:PW X (.BoolOp .And (b :: rest) pos) tB'):PW X (.BoolOp .And (a :: b :: rest) pos) (tAnd tA tB'):=by
 intro wh pins s σ H Q I h
 refine isTrue_and (thn (ha pins s σ H _ I h) fun c s1 ⟨H1,I1,q1⟩=>?_)
 cases c with
 | true=>exact hb wh pins s1 σ H1 Q I1 q1
 | false=>assumption
theorem pw_or (ha:PT X a tA) (hb:PW X (.BoolOp .Or (b :: rest) pos) tB'):PW X (.BoolOp .Or (a :: b :: rest) pos) (tOr tA tB'):=by
 intro wh pins s σ H Q I h
 refine isTrue_or (thn (ha pins s σ H _ I h) fun c s1 ⟨H1,I1,q1⟩=>?_)
 cases c with
 | true=>assumption
 | false=>exact hb wh pins s1 σ H1 Q I1 q1
theorem pt_not (ha:PT X a tA):PT X (.UnaryOp .Not a pos) (tNot tA):=by
 intro pins s σ H Q I h
 exact isTrue_not (ha pins s σ H _ I h)
def tAndV (ta tb:TE):TE:=fun σ H Q=>ta σ H fun x H1=>∃ c,x = .bl c/\if c = true then tb σ H1 Q else Q (.bl false) H1
def tOrV (ta tb:TE):TE:=fun σ H Q=>ta σ H fun x H1=>∃ c,x = .bl c/\if c = true then Q (.bl true) H1 else tb σ H1 Q
def tNotV (ta:TE):TE:=fun σ H Q=>ta σ H fun x H1=>∃ c,x = .bl c/\Q (.bl (!c)) H1
theorem pe_one (h:PE X a t):PE X (.BoolOp op [a] pos) t:=fun pins s σ H Q I hw=>BoolOp_one (h pins s σ H Q I hw)
theorem pe_and (ha:PE X a ta) (hb:PE X (.BoolOp .And (b :: rest) pos) tb):PE X (.BoolOp .And (a :: b :: rest) pos) (tAndV ta tb):=by
 intro pins s σ H Q I h
 refine BoolOp_and (thn (ha pins s σ H _ I h) fun v s1 ⟨x,H1,I1,r1,q1⟩=>?_)
 obtain⟨c,rfl,q1⟩:=q1
 cases r1
 refine wpAny_truthy_bool ?_
 cases c with
 | true=>exact hb pins s1 σ H1 Q I1 q1
 | false=>exact⟨.bl false,H1,I1,rfl,q1⟩
theorem pe_or (ha:PE X a ta) (hb:PE X (.BoolOp .Or (b :: rest) pos) tb):PE X (.BoolOp .Or (a :: b :: rest) pos) (tOrV ta tb):=by
 intro pins s σ H Q I h
 refine BoolOp_or (thn (ha pins s σ H _ I h) fun v s1 ⟨x,H1,I1,r1,q1⟩=>?_)
 obtain⟨c,rfl,q1⟩:=q1
 cases r1
 refine wpAny_truthy_bool ?_
 cases c with
 | false=>exact hb pins s1 σ H1 Q I1 q1
 | true=>exact⟨.bl true,H1,I1,rfl,q1⟩
theorem pe_not (ha:PE X a ta):PE X (.UnaryOp .Not a pos) (tNotV ta):=by
 intro pins s σ H Q I h
 refine UnaryOp_ (thn (ha pins s σ H _ I h) fun v s1 ⟨x,H1,I1,r1,q1⟩=>?_)
 obtain⟨c,rfl,q1⟩:=q1
 cases r1
 exact not_of (wpAny_truthy_bool ⟨.bl (!c),H1,I1,rfl,q1⟩)
end
def SqL (K:PySem.W.Frag) (H:Hp) (a:Addr) (xs:List V):Prop:=
 Rd H a (.lst xs)\/
  ∃ (o:Obj) (its:Array Value) (n:Nat),K.lookup a = some o/\o.cls = .type "list"/\o.dict = none/\o.data = .seq its n/\its.size<=sizeLine/\Vals xs its.toList
def SqT (K:PySem.W.Frag) (H:Hp) (a:Addr) (xs:List V):Prop:=
 Rd H a (.tup xs)\/
  ∃ (o:Obj) (its:Array Value) (n:Nat),K.lookup a = some o/\o.cls = .type "tuple"/\o.data = .seq its n/\its.size<=sizeLine/\Vals xs its.toList
def absV:Value->Option V
 | .none=>some .non
 | .bool b=>some (.bl b)
 | .int i _=>some (.int i)
 | .str x _=>some (.str x)
 | .bytes b _=>some (.byt b)
 | .float b _=>some (.flt b)
 | .ref a=>some (.ref a)
 | .type n=>some (.ty n)
 | _=>none
theorem RelV.abs (r:RelV x u):absV u = some x:=by
 cases x with
 | non=>cases r;rfl
 | bl _=>cases r;rfl
 | int _=>obtain⟨t,rfl⟩:=r;rfl
 | str _=>obtain⟨t,rfl⟩:=r;rfl
 | byt _=>obtain⟨t,rfl⟩:=r;rfl
 | flt _=>obtain⟨t,rfl⟩:=r;rfl
 | ref _=>cases r;rfl
 | ty _=>cases r;rfl
theorem RelV.inj (r:RelV x u) (q:RelV y u):x = y:=Option.some.inj (r.abs.symm.trans q.abs)
theorem Vals.inj:∀ {xs ys:List V}{us:List Value},Vals xs us->Vals ys us->xs = ys
 | _,_,_,.nil,.nil=>rfl
 | _,_,_,.cons r t,.cons r' t'=>by rw [r.inj r',Vals.inj t t']
section
variable {σ:St}
theorem SqL.of {K:PySem.W.Frag} (h:H a = some (.lst xs)):SqL K H a xs:=.inl (.inl h)
theorem SqT.of {K:PySem.W.Frag} (h:H a = some (.tup xs)):SqT K H a xs:=.inl (.inl h)
theorem Inv.list (I:Inv X pins σ H s) (h:SqL X.K H a xs):∃ its:List Value,Vals xs its/\PlainL s.heap a its.toArray/\xs.length<=sizeLine:=by
 rcases h with h | ⟨o,its,n,hk,hc,hd,hs,hz,r⟩
 · obtain⟨z,its,n,r,e⟩:=h.ok I.hok
   exact⟨its,r,⟨_,n,e,rfl,rfl,rfl⟩,z⟩
 · refine⟨its.toList,r,⟨o,n,I.kIn a o hk,hc,hd,by omega⟩,?_⟩
   have e:=r.length
   grind
theorem Inv.tuple (I:Inv X pins σ H s) (h:SqT X.K H a xs):∃ its:List Value,Vals xs its/\IsTup s.heap a its.toArray/\xs.length<=sizeLine:=by
 rcases h with h | ⟨o,its,n,hk,hc,hs,hz,r⟩
 · obtain⟨z,its,r,p⟩:=h.ok I.hok
   exact⟨its,r,p.tup,z⟩
 · refine⟨its.toList,r,⟨o,I.kIn a o hk,hc,n,by simpa using hs⟩,?_⟩
   have e:=r.length
   simp only [Array.length_toList] at e
   omega
theorem Inv.list_inj (I:Inv X pins σ H s) (h:SqL X.K H a xs) (h':SqL X.K H a ys):xs = ys:=by
 obtain⟨its,r,⟨o,n,e,_,_,d⟩,_⟩:=I.list h
 obtain⟨its',r',⟨o',n',e',_,_,d'⟩,_⟩:=I.list h'
 have:its = its':=by grind
 subst this
 exact r.inj r'
theorem Inv.tuple_inj (I:Inv X pins σ H s) (h:SqT X.K H a xs) (h':SqT X.K H a ys):xs = ys:=by
 obtain⟨its,r,⟨o,e,_,n,d⟩,_⟩:=I.tuple h
 obtain⟨its',r',⟨o',e',_,n',d'⟩,_⟩:=I.tuple h'
 rw [e] at e';cases e'
 rw [d] at d'
 injection d' with d1 _
 have:its = its':=by grind
 subst this
 exact r.inj r'
end
abbrev Cx.wish (X:Cx) (E:Value->Shared->Prop):Cx:={ X with xe:=E }
abbrev Cx.nox (X:Cx):Cx:=X.wish fun _ _=>False
theorem Cx.Ok.wish {X:Cx} (ok:X.Ok) (E:Value->Shared->Prop):(X.wish E).Ok:=
 ⟨ok.mod,ok.kind,ok.glob,ok.blt,ok.above,ok.inj,ok.has,ok.cab,ok.hd,ok.frames,ok.stk,ok.exf,ok.bs,ok.bsz,ok.noex,ok.exfs,ok.funs,ok.frf⟩
theorem Cx.Ok.unwish {X:Cx} (ok:(X.wish E).Ok):X.Ok:=
 ⟨ok.mod,ok.kind,ok.glob,ok.blt,ok.above,ok.inj,ok.has,ok.cab,ok.hd,ok.frames,ok.stk,ok.exf,ok.bs,ok.bsz,ok.noex,ok.exfs,ok.funs,ok.frf⟩
section
variable {σ:St}
theorem Inv.wish (I:Inv X pins σ H s) (E:Value->Shared->Prop):Inv (X.wish E) pins σ H s:=⟨I.ok.wish E,I.os,I.bare,I.base,I.loc,I.cell,I.free,I.freeC,I.pin,I.hok,I.len⟩
theorem Inv.unwish (I:Inv (X.wish E) pins σ H s):Inv X pins σ H s:=⟨I.ok.unwish,I.os,I.bare,I.base,I.loc,I.cell,I.free,I.freeC,I.pin,I.hok,I.len⟩
theorem SP.unwish (h:SP (X.wish E) pins D f s'):SP X pins D f s':=by
 cases f with
 | next=>obtain⟨σ',H',I,q⟩:=h;exact⟨σ',H',I.unwish,q⟩
 | brk=>obtain⟨σ',H',I,q⟩:=h;exact⟨σ',H',I.unwish,q⟩
 | cont=>obtain⟨σ',H',I,q⟩:=h;exact⟨σ',H',I.unwish,q⟩
 | ret u=>obtain⟨v,σ',H',I,r,q⟩:=h;exact⟨v,σ',H',I.unwish,r,q⟩
theorem PSs.nox {st:List Stmt} (h:PSs X.nox st t):PSs X st t:=fun pins s σ H D I hw=>
 wpAny_mono (h pins s σ H D (I.wish _) hw) (fun _ _ q=>q.unwish) fun _ _ z=>False.elim z
end
section
variable {st:Stmt}{rest:List Stmt}
def tNext:TS:=fun D σ H=>D.nx σ H
def tSeq (t u:TS):TS:=fun D σ H=>t { D with nx:=u D } σ H
theorem pss_nil:PSs X [] tNext:=fun _ _ σ H _ I h=>wpAny_execs_nil ⟨σ,H,I,h⟩
theorem pss_cons (h1:PS X st t) (h2:PSs X rest u):PSs X (st :: rest) (tSeq t u):=by
 intro pins s σ H D I h
 refine wpAny_execs_cons (thn (h1 pins s σ H { D with nx:=u D } I h) fun f s1 q=>?_)
 cases f with
 | next=>
  obtain⟨σ',H',I',q⟩:=q
  exact h2 pins s1 σ' H' D I' q
 | ret v=>exact q
 | brk=>exact q
 | cont=>exact q
theorem Inv.quiet {pins:List (Addr×Obj)}{σ:St}{H:Hp}{s:Shared} (I:Inv X pins σ H s):interactive X.env = false:=by simp [interactive,I.ok.kind]
def tDrop (te:TE):TS:=fun D σ H=>te σ H fun _ H1=>D.nx σ H1
theorem ps_expr (he:PE X e te) (hs:swapsWith e none pos.line X.env = pure false:=by rfl):PS X (.Expr e pos) (tDrop te):=by
 intro pins s σ H D I h
 exact wpAny_Expr_any (thn (he pins s σ H _ I h) fun v s1 ⟨x,H1,I1,r1,q1⟩=>⟨σ,H1,I1,q1⟩) I.quiet hs
def tRet (te:TE):TS:=fun D σ H=>te σ H D.rt
theorem ps_ret (he:PE X e te):PS X (.Return (some e) pos) (tRet te):=by
 intro pins s σ H D I h
 exact wpAny_Return_some (thn (he pins s σ H _ I h) fun v s1 ⟨x,H1,I1,r1,q1⟩=>⟨x,σ,H1,I1,r1,q1⟩)
def tIfS (c:TT) (t u:TS):TS:=fun D σ H=>c σ H fun b H1=>if b = true then t D σ H1 else u D σ H1
theorem ps_if (hc:PT X c tc) (ha:PSs X a t) (hb:PSs X b u):PS X (.If c a b pos) (tIfS tc t u):=by
 intro pins s σ H D I h
 refine wpAny_If (thn (hc pins s σ H _ I h) fun d s1 ⟨H1,I1,q1⟩=>?_)
 cases d with
 | true=>exact ha pins s1 σ H1 D I1 q1
 | false=>exact hb pins s1 σ H1 D I1 q1
end
abbrev TG:=V->St->Hp->(St->Hp->Prop)->Prop
abbrev TGs:=List V->St->Hp->(St->Hp->Prop)->Prop
def PG (X:Cx) (target:Expr) (t:TG):Prop:=
 ∀ (pins:List (Addr×Obj)) (s:Shared) (σ:St) (H:Hp) (v:V) (u:Value) (Q:St->Hp->Prop),Inv X pins σ H s->RelV v u->t v σ H Q->
  wpAny (model X.prog X.w) X.A (assign target X.env u) (fun _ s'=>∃ σ' H',Inv X pins σ' H' s'/\Q σ' H') X.xe s
def PGs (X:Cx) (ts:List Expr) (t:TGs):Prop:=
 ∀ (pins:List (Addr×Obj)) (s:Shared) (σ:St) (H:Hp) (vs:List V) (us:List Value) (Q:St->Hp->Prop),Inv X pins σ H s->Vals vs us->t vs σ H Q->
  wpAny (model X.prog X.w) X.A (assignInOrder ((assignEach ts X.env).map (·.2)) us) (fun _ s'=>∃ σ' H',Inv X pins σ' H' s'/\Q σ' H') X.xe s
abbrev TSet:=V->V->V->Hp->(Hp->Prop)->Prop
def PSet (X:Cx) (t:TSet):Prop:=
 ∀ (pins:List (Addr×Obj)) (s:Shared) (σ:St) (H:Hp) (o i v:V) (ov iv u:Value) (Q:Hp->Prop),Inv X pins σ H s->RelV o ov->RelV i iv->RelV v u->t o i v H Q->
  wpAny (model X.prog X.w) X.A (setItem ov iv u) (fun _ s'=>∃ H',Inv X pins σ H' s'/\Q H') X.xe s
abbrev TIp:=V->V->Hp->VK->Prop
def PIp (X:Cx) (op:Operator) (t:TIp):Prop:=
 ∀ (pins:List (Addr×Obj)) (s:Shared) (σ:St) (H:Hp) (x y:V) (v u:Value) (Q:VK),Inv X pins σ H s->RelV x v->RelV y u->t x y H Q->
  wpAny (model X.prog X.w) X.A (inplaceOp op v u) (EP X pins σ Q) X.xe s
section
variable {pos:Pos}
def gName (i:Nat):TG:=fun v σ H Q=>Q (σ.set i (some v)) H
theorem pg_name (hN:X.N.Nodup) (hi:X.N[i]? = some x) (hx:Loc X.env.scope x) (hf:X.fn x = true\/X.env.scope.names.lookup x = some .local:=by first | exact .inl rfl | exact .inr rfl | assumption):PG X (.Name x pos) (gName i):=by
 intro pins s σ H v u Q I r h
 exact wpAny_assign_Name (store_ok I hN hi hx r (fun s' I'=>⟨_,H,I',h⟩) hf)
def gNil:TGs:=fun vs σ H Q=>vs = []/\Q σ H
def gCons (t:TG) (u:TGs):TGs:=fun vs σ H Q=>∃ v r,vs = v :: r/\t v σ H fun σ' H'=>u r σ' H' Q
theorem pgs_nil:PGs X [] gNil:=by
 intro pins s σ H vs us Q I r h
 obtain⟨e,h⟩:=h
 exact assignInOrder_nil ⟨σ,H,I,h⟩
theorem pgs_cons (h1:PG X e t) (h2:PGs X es u)
 (hs:(assignEach (e :: es) X.env).map (·.2) = assign e X.env :: (assignEach es X.env).map (·.2):=by rfl):PGs X (e :: es) (gCons t u):=by
 intro pins s σ H vs us Q I r h
 obtain⟨v,vr,e1,h⟩:=h
 subst e1
 cases r with
 | cons r rr=>
  rw [hs]
  refine assignInOrder_cons (thn (h1 pins s σ H _ _ _ I r h) fun _ s1 ⟨σ1,H1,I1,q1⟩=>?_)
  exact h2 pins s1 σ1 H1 _ _ Q I1 rr q1
def gTup (K:PySem.W.Frag) (n:Nat) (t:TGs):TG:=fun v σ H Q=>∃ a xs,v = .ref a/\SqT K H a xs/\xs.length = n/\t xs σ H Q
theorem pg_tup {k:Nat} (hc:X.calm = true) (h:PGs X es t)
 (hn:(assignEach es X.env).length = n:=by rfl) (hst:(assignEach es X.env).findIdx? (·.1) = none:=by rfl):PG X (.Tuple es k pos) (gTup X.K n t):=by
 intro pins s σ H v u Q I r hw
 obtain⟨a,xs,e1,hq,hl,hw⟩:=hw
 subst e1
 cases r
 obtain⟨its,rv,ht,hz⟩:=I.tuple hq
 refine assign_Tuple_tuple (I.ok.hd hc) ht (by simp [hn,<- hl,rv.length]) hst fun h' hx=>?_
 have I1:=I.kept (t':=s.toks) fun b o e=>hx b o (Nat.ne_of_lt (Heap.lt_size e)) e
 exact h pins _ σ H xs _ Q I1 (by omega) hw
def gSub (to ti:TE) (t:TSet):TG:=fun v σ H Q=>to σ H fun o H1=>ti σ H1 fun i H2=>t o i v H2 fun H3=>Q σ H3
theorem pg_sub (ho:PE X o to) (hi:PE X i ti) (hs:PSet X t)
 (ha:∀ v,assign (.Subscript o i pos) X.env v = (do
  let ov <- holding [v] (eval o X.env)
  let iv <- holding [v,ov] (eval i X.env)
  standAt pos
  holding [v,ov,iv] (setItem ov iv v)
  release [v,ov,iv] []):=by intro _;rfl):PG X (.Subscript o i pos) (gSub to ti t):=by
 intro pins s σ H v u Q I r h
 refine wpAny_bind (wpAny_holding (thn (ho pins s σ H _ I h) fun ov s1 ⟨x,H1,I1,r1,q1⟩=>?_))
 refine wpAny_bind (wpAny_holding (thn (hi pins s1 σ H1 _ I1 q1) fun iv s2 ⟨y,H2,I2,r2,q2⟩=>?_))
 refine wpAny_bind (wpAny_standAt (wpAny_bind (wpAny_holding (thn (hs pins s2 σ H2 x y v ov iv u _ I2 r1 r2 r q2) fun _ s3 ⟨H3,I3,q3⟩=>?_))))
 exact wpAny_release ⟨σ,H3,I3,q3⟩
def tAsg (te:TE) (g:TG):TS:=fun D σ H=>te σ H fun x H1=>g x σ H1 D.nx
theorem ps_asg (he:PE X e te) (hg:PG X tg g) (hs:swapsWithSole [tg] e pos.line X.env = pure false:=by rfl) (hw:swappedStores [tg] e X.env = pure none:=by rfl)
 (h1:(assignEach [tg] X.env).map (·.2) = [assign tg X.env]:=by rfl):PS X (.Assign [tg] e pos) (tAsg te g):=by
 intro pins s σ H D I h
 refine wpAny_Assign_stores (thn (he pins s σ H _ I h) fun v s1 ⟨x,H1,I1,r1,q1⟩=>?_) hs hw
 rw [h1]
 exact thn (hg pins s1 σ H1 x v _ I1 r1 q1) fun _ s2 q=>q
theorem ps_set {i:Nat}{x:Str}{e:Expr}{te:TE}{pos':Pos} (hN:X.N.Nodup) (hi:X.N[i]? = some x) (hx:Loc X.env.scope x) (he:PE X e te) (hs:swapsWith e (some (.Name x pos')) pos.line X.env = pure false:=by rfl) (hf:X.fn x = true\/X.env.scope.names.lookup x = some .local:=by first | exact .inl rfl | exact .inr rfl | assumption):
 PS X (.Assign [.Name x pos'] e pos) (tAsg te (gName i)):=by
 intro pins s σ H D I h
 refine wpAny_Assign_Name (thn (he pins s σ H _ I h) fun v s1 ⟨y,H1,I1,r1,q1⟩=>?_) hs
 exact store_ok I1 hN hi hx r1 (fun s2 I2=>⟨_,H1,I2,q1⟩) hf
def tPar (i j:Nat) (ta:TA):TS:=fun D σ H=>ta σ H fun vs H1=>∃ v w,vs = [v,w]/\D.nx ((σ.set i (some v)).set j (some w)) H1
theorem ps_par {i j:Nat}{x y:Str}{a b:Expr}{ta:TA}{px py pt:Pos}{kt k2 pt2} (hc:X.calm = true) (hN:X.N.Nodup) (hi:X.N[i]? = some x) (hj:X.N[j]? = some y) (hij:i≠j)
 (hx:X.env.scope.names.lookup x = some .local) (hy:X.env.scope.names.lookup y = some .local) (ha:PA X [a,b] ta)
 (hw:swappedStores [.Tuple [.Name x px,.Name y py] kt pt] (.Tuple [a,b] k2 pt2) X.env = pure (some [x,y]))
 (hs:swapsWithSole [.Tuple [.Name x px,.Name y py] kt pt] (.Tuple [a,b] k2 pt2) pos.line X.env = pure false:=by rfl):
 PS X (.Assign [.Tuple [.Name x px,.Name y py] kt pt] (.Tuple [a,b] k2 pt2) pos) (tPar i j ta):=by
 intro pins s σ H D I h
 rw [exec_Assign_arm]
 refine wpAny_bind (wpAny_standAt ?_)
 rw [hs]
 refine wpAny_bind (wpAny_pure ?_)
 rw [if_neg (by decide)]
 refine wpAny_bind (Tuple_ (thn (ha _ pins s σ H _ I h) fun us s1 ⟨vs,H1,I1,r1,q1⟩=>?_))
 obtain⟨v,w,e1,q1⟩:=q1
 subst e1
 obtain⟨u1,u2,rfl,rv,rw'⟩:∃ u1 u2,us = [u1,u2]/\RelV v u1/\RelV w u2:=by
  cases r1 with
  | cons p q=>
   cases q with
   | cons p' q'=>
    cases q'
    exact⟨_,_,rfl,p,p'⟩
 refine wpAny_newObj_type ?_ (by show 2<=sizeLine;decide)
 have I2:Inv X pins σ H1 { s1 with heap:=s1.heap.push { cls:=.type "tuple",data:=.seq [u1,u2].toArray } }:=I1.kept (t':=s1.toks) fun b o e=>Heap.get?_push_of_some _ e
 rw [hw]
 refine wpAny_bind (wpAny_pure ?_)
 show wpAny (model X.prog X.w) X.A (do rule "assign.swapped-stores";let items <- unpackItems (.ref s1.heap.objs.size) 2 none;assignInOrder [fun v=>bindName X.env y v,fun v=>bindName X.env x v] items.reverse;pure Flow.next) _ _ _
 refine wpAny_bind (wpAny_rule (wpAny_bind (unpackItems_tuple (items:=#[u1,u2]) (I.ok.hd hc) (IsTup.new s1.heap _) fun h' hx'=>?_)))
 have I3:=I2.kept (h':=h') (t':=s1.toks) fun b o e=>hx' b o (Nat.ne_of_lt (Heap.lt_size e)) e
 show wpAny _ _ (assignInOrder [fun v=>bindName X.env y v,fun v=>bindName X.env x v] [u2,u1] >>= fun _=>pure Flow.next) _ _ _
 refine wpAny_bind (assignInOrder_cons (wpAny_bindName (store_ok I3 hN hj (.inl hy) rw' (fun s2 I4=>?_) (.inr hy))))
 refine assignInOrder_cons (wpAny_bindName (store_ok I4 hN hi (.inl hx) rv (fun s3 I5=>assignInOrder_nil (wpAny_pure ?_)) (.inr hx)))
 rw [List.set_comm _ _ (Ne.symm hij)] at I5
 exact⟨_,H1,I5,q1⟩
def tAug (i:Nat) (te:TE) (ti:TIp):TS:=fun D σ H=>∃ x,σ[i]? = some (some x)/\te σ H fun y H1=>ti x y H1 fun z H2=>D.nx (σ.set i (some z)) H2
theorem ps_aug (hN:X.N.Nodup) (hi:X.N[i]? = some x) (hx:Loc X.env.scope x) (he:PE X e te) (ho:PIp X op ti) (hf:X.fn x = true\/X.env.scope.names.lookup x = some .local:=by first | exact .inl rfl | exact .inr rfl | assumption):
 PS X (.AugAssign (.Name x pos') op e pos) (tAug i te ti):=by
 intro pins s σ H D I h
 obtain⟨v,e1,h⟩:=h
 obtain⟨m,hn,hl⟩:=I.loc
 have vis:Vis X.env.scope x:=by rcases hx with k | k;exact .inl k;exact .inr (.inl k)
 obtain⟨u,r,l⟩:=hl i x v hi e1 vis
 refine wpAny_AugAssign_Name ?_
 have go:wpAny (model X.prog X.w) X.A (eval e X.env) (fun w s₂=>wpAny (model X.prog X.w) X.A (inplaceOp op u w) (fun r s₃=>wpAny (model X.prog X.w) X.A (storeName X.env x r) (fun _=>SP X pins D .next) X.xe s₃) X.xe s₂) X.xe s:=by
  refine thn (he pins s σ H _ I h) fun w s1 ⟨y,H1,I1,r1,q1⟩=>?_
  refine thn (ho pins s1 σ H1 v y u w _ I1 r r1 q1) fun z s2 ⟨zv,H2,I2,r2,q2⟩=>?_
  exact store_ok I2 hN hi hx r2 (fun s3 I3=>⟨_,H2,I3,q2⟩) hf
 rcases l with ⟨hk,hm⟩ | ⟨hk,c,hc,hcell⟩
 · exact wpAny_loadName_local I.ok.kind hk hn hm go
 · rcases hk with hk | hk
   · exact wpAny_loadName_cell I.ok.kind hk hc hcell go
   · rcases hx with k | k
     · have:X.env.scope.names.lookup x = some .free:=hk
       rw [k] at this;cases this
     · have:X.env.scope.names.lookup x = some .free:=hk
       rw [k] at this;cases this
def ipI (f:Int->Int->Int):TIp:=fun x y H Q=>∃ i j,x = .int i/\y = .int j/\Q (.int (f i j)) H
theorem ip_sub:PIp X .Sub (ipI fun i j=>i - j):=by
 intro pins s σ H x y v u Q I r1 r2 h
 obtain⟨i,j,e1,e2,q⟩:=h
 subst e1;subst e2
 obtain⟨t,rfl⟩:=r1
 obtain⟨t',rfl⟩:=r2
 exact isub_int ⟨.int _,H,I.tok _,⟨_,rfl⟩,q⟩
end
section
def tWhile (c:TT) (tb:TS):TS:=fun D σ H=>∃ W:Nat->St->Hp->Prop,(∃ m,W m σ H)/\∀ m σ H,W m σ H->
 c σ H fun b H1=>if b = true then ∃ N:St->Hp->Prop,(∀ σ' H',N σ' H'->∃ m',m' < m/\W m' σ' H')/\tb { D with nx:=N,ct:=N,bk:=D.nx } σ H1 else D.nx σ H1
theorem ps_while (hp:PassesOwn (model X.prog X.w) X.A X.env X.xe) (hc:PT X c tc) (hb:PSs X body tb):PS X (.While c body [] pos) (tWhile tc tb):=by
 intro pins s σ H D I h
 obtain⟨W,⟨m0,w0⟩,turn⟩:=h
 refine wpAny_While (codeAny_whileLoop (fun n s'=>∃ σ' H',Inv X pins σ' H' s'/\W n σ' H') ?_ m0 ⟨σ,H,I,w0⟩)
 rintro n s1 ⟨σ1,H1,I1,w1⟩
 refine wpAny_passesOwn hp (thn (hc pins s1 σ1 H1 _ I1 (turn n σ1 H1 w1)) fun b s2 ⟨H2,I2,q2⟩=>?_)
 cases b with
 | true=>
  obtain⟨N,hN,q2⟩:=q2
  refine wpAny_passesOwn hp (thn (hb pins s2 σ1 H2 _ I2 q2) fun f s3 q3=>?_)
  cases f with
  | next=>
   obtain⟨σ3,H3,I3,n3⟩:=q3
   obtain⟨m',hm,w3⟩:=hN σ3 H3 n3
   exact⟨m',hm,σ3,H3,I3,w3⟩
  | cont=>
   obtain⟨σ3,H3,I3,n3⟩:=q3
   obtain⟨m',hm,w3⟩:=hN σ3 H3 n3
   exact⟨m',hm,σ3,H3,I3,w3⟩
  | brk=>exact q3
  | ret v=>exact q3
 | false=>
  exact wpAny_execs_nil ⟨σ1,H2,I2,q2⟩
end
structure It where
 go:Nat->Hp->Prop
 yld:Nat->Hp->V->Hp->Prop
 stop:Nat->Hp->Prop
def FpOk (X:Cx) (pins:List (Addr×Obj)) (H:Hp) (b:Addr):Prop:=
 H b = none/\b≠X.env.locals/\b∉X.fs/\(b∈X.ex\/X.s₀.heap.objs.size<=b)/\(∀ x c,X.env.cells.lookup x = some c->c≠b)/\∀ p∈X.pn ++ pins,p.1≠b
theorem Inv.fpOk {σ:St}{b:Addr} (I:Inv X pins σ H s) (hb:s.heap.objs.size<=b) (hn:H' b = none):FpOk X pins H' b:=by
 refine⟨hn,Nat.ne_of_gt (Nat.lt_of_lt_of_le I.lt hb),I.nofs hb,.inr (Nat.le_trans I.sz hb),fun x c e z=>?_,fun p hp z=>?_⟩
 · obtain⟨v,q⟩:=I.cell x c e
   exact absurd (Nat.lt_of_lt_of_le q.lt (by simp_all)) (Nat.lt_irrefl _)
 · exact absurd (Nat.lt_of_lt_of_le (Heap.lt_size (I.pin p hp).1) (by simp_all)) (Nat.lt_irrefl _)
structure Turn (P:Program) (w:World) (K:PySem.W.Frag) (tg:Expr) (J:It) (fp:List Addr) (it:Addr) (tn:Nat->Heap->Prop):Prop where
 mem:it∈fp
 obj:∀ i h,tn i h->∀ b∈fp,∃ o,h.get? b = some o/\∀ v,o.data≠.cell v
 keep:∀ i h h',tn i h->(∀ b∈fp,∀ o,h.get? b = some o->h'.get? b = some o)->tn i h'
 item:∀ (X:Cx),X.prog = P->X.w = w->X.K = K->X.calm = true->∀ (i:Nat) (pins:List (Addr×Obj)) (s:Shared) (σ:St) (H:Hp) (E:Value->Shared->Prop),Inv X pins σ H s->(∀ b∈fp,FpOk X pins H b)->tn i s.heap->J.go i H->
  wpAny (model P w) X.A (pyNext (.ref it)) (fun r s1=>∃ u,r = some u/\
   wpAny (model P w) X.A (letOwnedTupleGo tg (.ref it) u) (fun _ s2=>∃ x H',Inv X pins σ H' s2/\RelV x u/\J.yld i H x H'/\tn (i + 1) s2.heap/\∀ b∈fp,H' b = none) E s1) E s
 done:∀ (X:Cx),X.prog = P->X.w = w->X.K = K->X.calm = true->∀ (i:Nat) (pins:List (Addr×Obj)) (s:Shared) (σ:St) (H:Hp) (E:Value->Shared->Prop),Inv X pins σ H s->(∀ b∈fp,FpOk X pins H b)->tn i s.heap->J.stop i H->
  wpAny (model P w) X.A (pyNext (.ref it)) (fun r s1=>r = none/\Inv X pins σ H s1) E s
 self:∀ (A:Around) (i:Nat) (s:Shared) (Q:Value->Shared->Prop) (E:Value->Shared->Prop),tn i s.heap->Q (.ref it) s->wpAny (model P w) A (pyIter (.ref it)) Q E s
abbrev TI:=St->Hp->(It->Hp->Prop)->Prop
def PIE (X:Cx) (pins:List (Addr×Obj)) (σ:St) (tg:Expr) (R:It->Hp->Prop) (itv:Value) (s2:Shared):Prop:=
 ∃ (it:Addr) (fp:List Addr) (tn:Nat->Heap->Prop) (J:It) (H':Hp),itv = .ref it/\Inv X pins σ H' s2/\Turn X.prog X.w X.K tg J fp it tn/\tn 0 s2.heap/\(∀ b∈fp,FpOk X pins H' b)/\R J H'
def PI (X:Cx) (tg iter:Expr) (wi:TI):Prop:=
 ∀ (pins:List (Addr×Obj)) (s:Shared) (σ:St) (H:Hp) (R:It->Hp->Prop),Inv X pins σ H s->wi σ H R->
  wpAny (model X.prog X.w) X.A (eval iter X.env) (fun v s1=>wpAny (model X.prog X.w) X.A (pyIter v) (PIE X pins σ tg R) X.xe s1) X.xe s
theorem go_of {M:Model}{A:Around}{E:Value->Shared->Prop}{s:Shared}{tg:Expr}{it:Addr}{u:Value}{o:Obj}{n:String}{vs:Array Value}{Q:Unit->Shared->Prop} (ho:s.heap.get? it = some o) (hc:o.cls = .type n) (hd:o.data = .fields vs)
 (hn:["enumerate","zip","dict_itemiterator","dict_reverseitemiterator","odict_iterator","itertools.zip_longest","itertools.pairwise"].contains n = false) (hQ:Q () s):wpAny M A (letOwnedTupleGo tg (.ref it) u) Q E s:=by
 unfold letOwnedTupleGo
 cases tg <;> first
  | exact wpAny_pure hQ
  | (cases u <;> first
   | exact wpAny_pure hQ
   | (refine wpAny_bind (wpAny_load ho ?_)
      rw [hc,hd]
      show wpAny M A (if (["enumerate","zip","dict_itemiterator","dict_reverseitemiterator","odict_iterator","itertools.zip_longest","itertools.pairwise"].contains n && vs[0]? == some (rawInt _)) = true then _ else _) Q E s
      rw [if_neg (by intro h;rw [hn,Bool.false_and] at h;cases h)]
      exact wpAny_pure hQ))
def Itl (K:PySem.W.Frag) (a:Addr):It:=
 ⟨fun i H=>∃ xs x,SqL K H a xs/\xs[i]? = some x,fun i H x H'=>H' = H/\∀ xs,SqL K H a xs->xs[i]? = some x,fun i H=>∃ xs,SqL K H a xs/\xs.length<=i⟩
def Itt (K:PySem.W.Frag) (a:Addr):It:=
 ⟨fun i H=>∃ xs x,SqT K H a xs/\xs[i]? = some x,fun i H x H'=>H' = H/\∀ xs,SqT K H a xs->xs[i]? = some x,fun i H=>∃ xs,SqT K H a xs/\xs.length<=i⟩
def Itr (lo:Int) (n:Nat):It:=⟨fun i _=>i < n,fun i H x H'=>H' = H/\x = .int (lo + i),fun i _=>n<=i⟩
theorem turn_list {P:Program}{w:World}{K:PySem.W.Frag}{tg:Expr} (a it:Addr):Turn P w K tg (Itl K a) [it] it (fun i h=>h.IsListIter it a i) where
 mem:=by simp
 obj:=fun i h st b hb=>by
  have e:b = it:=by simpa using hb
  subst e
  obtain⟨o,e,c,d⟩:=st
  exact⟨o,e,fun v z=>by rw [d] at z;cases z⟩
 keep:=fun i h h' st k=>st.at fun o e=>k it (by simp) o e
 item:=by
  intro X hP hw hK hc i pins s σ H E I hf st hg
  subst hP hw hK
  obtain⟨xs,x,hq,hx⟩:=hg
  obtain⟨its,rv,p,hz⟩:=I.list hq
  obtain⟨u,hu,ru⟩:=rv.get hx
  obtain⟨f0,f1,f2,f3,f4,f5⟩:=hf it (by simp)
  refine wpAny_pyNext_list_item st p.isList (x:=u) (by simpa using hu) fun h' st' sb=>?_
  have I1:Inv X pins σ H { s with heap:=h' }:=I.turned (t':=s.toks) (fun b o hb e=>(sb.2 b hb).trans e) f0 f1 f3 f4 f5
  obtain⟨o,e,c,d⟩:=id st'
  exact⟨u,rfl,go_of (s:={ s with heap:=h' }) e c d (by decide) ⟨x,H,I1,ru,⟨rfl,fun ys hy=>by rw [I.list_inj hy hq];exact hx⟩,st',fun b hb=>(hf b hb).1⟩⟩
 done:=by
  intro X hP hw hK hc i pins s σ H E I hf st hg
  subst hP hw hK
  obtain⟨xs,hq,hx⟩:=hg
  obtain⟨its,rv,p,hz⟩:=I.list hq
  obtain⟨f0,f1,f2,f3,f4,f5⟩:=hf it (by simp)
  have hl:=rv.length
  exact wpAny_pyNext_list_end (I.ok.hd hc) st p.isList (by simp;omega) fun h' eb=>⟨rfl,I.turned (t':=s.toks) (fun b o hb e=>eb b o hb e) f0 f1 f3 f4 f5⟩
 self:=fun _ _ _ _ _ st h=>wpAny_pyIter_listiter st h
theorem turn_tuple {P:Program}{w:World}{K:PySem.W.Frag}{tg:Expr} (a it:Addr):Turn P w K tg (Itt K a) [it] it (fun i h=>h.IsTupleIter it a i) where
 mem:=by simp
 obj:=fun i h st b hb=>by
  have e:b = it:=by simpa using hb
  subst e
  obtain⟨o,e,c,d⟩:=st
  exact⟨o,e,fun v z=>by rw [d] at z;cases z⟩
 keep:=fun i h h' st k=>st.at fun o e=>k it (by simp) o e
 item:=by
  intro X hP hw hK hc i pins s σ H E I hf st hg
  subst hP hw hK
  obtain⟨xs,x,hq,hx⟩:=hg
  obtain⟨its,rv,p,hz⟩:=I.tuple hq
  obtain⟨u,hu,ru⟩:=rv.get hx
  obtain⟨f0,f1,f2,f3,f4,f5⟩:=hf it (by simp)
  refine wpAny_pyNext_tuple_item st (show s.heap.IsTuple a its.toArray from p) (x:=u) (by simpa using hu) fun h' st' sb=>?_
  have I1:Inv X pins σ H { s with heap:=h' }:=I.turned (t':=s.toks) (fun b o hb e=>(sb.2 b hb).trans e) f0 f1 f3 f4 f5
  obtain⟨o,e,c,d⟩:=id st'
  exact⟨u,rfl,go_of (s:={ s with heap:=h' }) e c d (by decide) ⟨x,H,I1,ru,⟨rfl,fun ys hy=>by rw [I.tuple_inj hy hq];exact hx⟩,st',fun b hb=>(hf b hb).1⟩⟩
 done:=by
  intro X hP hw hK hc i pins s σ H E I hf st hg
  subst hP hw hK
  obtain⟨xs,hq,hx⟩:=hg
  obtain⟨its,rv,p,hz⟩:=I.tuple hq
  obtain⟨f0,f1,f2,f3,f4,f5⟩:=hf it (by simp)
  have hl:=rv.length
  exact wpAny_pyNext_tuple_end (I.ok.hd hc) st (show s.heap.IsTuple a its.toArray from p) (by simp;omega) fun h' eb=>⟨rfl,I.turned (t':=s.toks) (fun b o hb e=>eb b o hb e) f0 f1 f3 f4 f5⟩
 self:=fun _ _ _ _ _ st h=>wpAny_pyIter_tupleiter st h
theorem turn_range {P:Program}{w:World}{K:PySem.W.Frag}{tg:Expr} (it:Addr) (lo:Int) (n:Nat):Turn P w K tg (Itr lo n) [it] it (fun i h=>IsRangeIter h it (lo + (i:Nat) * 1) ((n:Int) - (i:Nat)) 1) where
 mem:=by simp
 obj:=fun i h st b hb=>by simp_all
 keep:=fun i h h' st k=>k it (by simp) _ st
 item:=by
  intro X hP hw hK hc i pins s σ H E I hf st hg
  subst hP hw hK
  obtain⟨f0,f1,f2,f3,f4,f5⟩:=hf it (by simp)
  have W:=Walks.range (prog:=X.prog) (w:=X.w) (I.ok.hd hc) it lo 1 n
  refine W.item i s _ _ hg st fun v h' tk hv st' kk=>?_
  obtain⟨t,rfl⟩:=hv
  have I1:Inv X pins σ H { s with heap:=h',toks:=tk }:=I.turned (fun b o hb e=>kk b o (by simpa using hb) e) f0 f1 f3 f4 f5
  refine⟨_,rfl,go_of (s:={ s with heap:=h',toks:=tk }) (n:="range_iterator") st' rfl rfl (by decide) ⟨.int (lo + i),H,I1,⟨t,?_⟩,⟨rfl,rfl⟩,st',fun b hb=>(hf b hb).1⟩⟩
  rw [Int.mul_one]
 done:=by
  intro X hP hw hK hc i pins s σ H E I hf st hg
  subst hP hw hK
  obtain⟨f0,f1,f2,f3,f4,f5⟩:=hf it (by simp)
  exact wpAny_pyNext_range_end (I.ok.hd hc) st (by have:n<=i:=hg;omega) fun h' eb=>⟨rfl,I.turned (t':=s.toks) (fun b o hb e=>eb b o hb e) f0 f1 f3 f4 f5⟩
 self:=fun _ _ _ _ _ st h=>wpAny_pyIter_rangeiter st h
section
variable {tg:Expr}
theorem range_it {pins:List (Addr×Obj)}{σ:St}{H:Hp}{s:Shared}{R:It->Hp->Prop}{E:Value->Shared->Prop}{lo hi:Int}{t u v:Tok}{tk:Nat} (I:Inv X pins σ H s) (h1:-(2 ^ 62)<=lo) (h2:lo < 2 ^ 62) (h3:-(2 ^ 62)<=hi) (h4:hi < 2 ^ 62)
 (q:R (Itr lo (hi - lo).toNat) H):wpAny (model X.prog X.w) X.A (pyIter (.ref s.heap.objs.size)) (PIE X pins σ tg R) E { s with heap:=s.heap.push { cls:=.type "range",data:=.fields #[.int lo t,.int hi u,.int 1 v] },toks:=tk }:=by
 refine wpAny_pyIter_range (IsRange.new ..) (small_one h1 h2 h3 h4) ?_
 have I1:Inv X pins σ H { s with heap:=s.heap.push { cls:=.type "range",data:=.fields #[.int lo t,.int hi u,.int 1 v] },toks:=tk }:=I.kept fun b o e=>Heap.get?_push_of_some _ e
 refine⟨(s.heap.push { cls:=.type "range",data:=.fields #[.int lo t,.int hi u,.int 1 v] }).objs.size,[(s.heap.push { cls:=.type "range",data:=.fields #[.int lo t,.int hi u,.int 1 v] }).objs.size],_,_,H,rfl,
  I1.kept (t':=tk) fun b o e=>Heap.get?_push_of_some _ e,turn_range _ lo (hi - lo).toNat,?_,fun b hb=>?_,q⟩
 · have e1:lo + ((0:Nat):Int) * 1 = lo:=by simp
   have e2:(((hi - lo).toNat:Nat):Int) - ((0:Nat):Int) = Builtin.Range.rangeSize lo hi 1:=by rw [rangeSize_one];split <;> omega
   show IsRangeIter _ _ (lo + ((0:Nat):Int) * 1) ((((hi - lo).toNat:Nat):Int) - ((0:Nat):Int)) 1
   rw [e1,e2]
   exact Heap.get?_push_size _ rfl
 · have e:b = (s.heap.push { cls:=.type "range",data:=.fields #[.int lo t,.int hi u,.int 1 v] }).objs.size:=by simpa using hb
   subst e
   exact I1.fpOk (Nat.le_refl _) (I1.hok.fresh (Nat.le_refl _))
def iRng1 (ta:TA):TI:=fun σ H R=>ta σ H fun vs H1=>∃ j:Int,vs = [.int j]/\-(2 ^ 62)<=j/\j < 2 ^ 62/\R (Itr 0 j.toNat) H1
def iRng2 (ta:TA):TI:=fun σ H R=>ta σ H fun vs H1=>∃ i j:Int,vs = [.int i,.int j]/\(-(2 ^ 62)<=i/\i < 2 ^ 62/\-(2 ^ 62)<=j/\j < 2 ^ 62)/\R (Itr i (j - i).toNat) H1
theorem pi_range1 (hg:Gl X "range") (hm:X.mg "range" = none) (ha:PA X [a] ta) (hs:starEach [a] X.env = [(false,eval a X.env)]:=by rfl):PI X tg (.Call (.Name "range" p) [a] [] pos) (iRng1 ta):=by
 intro pins s σ H R I h
 refine Call_ (ld_blt I hg hm boot_range (PyProof.Rows.callWith_type1 (thn (ha pos pins s σ H _ I h) fun us s1 ⟨vs,H1,I1,r1,q1⟩=>?_) hs rfl))
 obtain⟨j,e,q1,q2,q⟩:=q1
 subst e
 cases r1 with
 | cons r rr=>
  cases rr
  obtain⟨t,rfl⟩:=r
  exact call_range_1 (range_it I1 (by omega) (by omega) q1 q2 (by grind))
theorem pi_range2 {p pos:Pos} (hg:Gl X "range") (hm:X.mg "range" = none) (ha:PA X [a,b] ta) (hs:starEach [a,b] X.env = [(false,eval a X.env),(false,eval b X.env)]:=by rfl) (hs2:starEach [b] X.env = [(false,eval b X.env)]:=by rfl):
 PI X tg (.Call (.Name "range" p) [a,b] [] pos) (iRng2 ta):=by
 intro pins s σ H R I h
 refine Call_ (ld_blt I hg hm boot_range (PyProof.Rows.callWith_type1 (thn (ha pos pins s σ H _ I h) fun us s1 ⟨vs,H1,I1,r1,q1⟩=>?_) (by grind) (by rw [hs2];rfl)))
 obtain⟨i,j,e,⟨q1,q2,q3,q4⟩,q⟩:=q1
 subst e
 cases r1 with
 | cons r rr=>
  cases rr with
  | cons r' rr=>
   cases rr
   obtain⟨t,rfl⟩:=r
   obtain⟨t',rfl⟩:=r'
   exact call_range_2 (range_it I1 q1 q2 q3 q4 q)
def tFor (wi:TI) (g:TG) (tb:TS):TS:=fun D σ H=>wi σ H fun J H1=>∃ W:Nat->Nat->St->Hp->Prop,(∃ m,W 0 m σ H1)/\∀ i m σ H,W i m σ H->
 (J.stop i H/\D.nx σ H)\/(J.go i H/\∃ N:St->Hp->Prop,(∀ σ' H',N σ' H'->∃ m',m' < m/\W (i + 1) m' σ' H')/\∀ x H',J.yld i H x H'->g x σ H' fun σ2 H2=>tb { D with nx:=N,ct:=N,bk:=D.nx } σ2 H2)
def pinsAt (fp:List Addr) (h:Heap):List (Addr×Obj):=fp.filterMap fun b=>(h.get? b).map fun o=>(b,o)
theorem mem_pinsAt (hb:b∈fp) (e:h.get? b = some o):(b,o)∈pinsAt fp h:=List.mem_filterMap.mpr ⟨b,hb,by simp_all⟩
theorem of_pinsAt (hp:p∈pinsAt fp h):p.1∈fp/\h.get? p.1 = some p.2:=by
 obtain⟨b,hb,e⟩:=List.mem_filterMap.mp hp
 cases q:h.get? b with
 | none=>simp_all
 | some o=>
  rw [q] at e
  have e':=Option.some.inj e
  subst e'
  simp_all
theorem Inv.pinned {σ:St} (I:Inv X pins σ H s) (hf:∀ b∈fp,FpOk X pins H b) (ho:∀ b∈fp,∃ o,s.heap.get? b = some o/\∀ v,o.data≠.cell v):Inv X (pins ++ pinsAt fp s.heap) σ H s:=
 I.pins_of fun p hp=>(List.mem_append.mp hp).elim (fun z=>I.pin p (List.mem_append_right _ z)) fun z=>by
  obtain⟨hb,e⟩:=of_pinsAt z
  obtain⟨f0,f1,f2,_⟩:=hf p.1 hb
  obtain⟨o,e',d⟩:=ho p.1 hb
  simp_all
theorem Inv.unpinned {σ:St} (I:Inv X (pins ++ pl) σ H s):Inv X pins σ H s:=I.pins_of fun p hp=>I.pin p (List.mem_append_right _ (List.mem_append_left _ hp))
theorem ps_for (hp:PassesOwn (model X.prog X.w) X.A X.env X.xe) (hc:X.calm = true) (hi:PI X tg iter wi) (hg:PG X tg g) (hb:PSs X body tb)
 (hs:∀ x,foldedSetIterable iter X.env x = pure x:=by intro _;rfl):PS X (.For tg iter body [] pos) (tFor wi g tb):=by
 intro pins s σ H D I h
 refine wpAny_For (thn (hi pins s σ H _ I h) fun v s1 h1=>thn h1 fun itv s2 h2=>?_) hs
 obtain⟨it,fp,tn,J,H2,e,I2,T,st2,f2,W,⟨m0,w0⟩,turn⟩:=h2
 subst e
 -- what stays true of the iterator's objects through the loop
 have stat:∀ {H':Hp},(∀ b∈fp,H' b = none)->∀ b∈fp,FpOk X pins H' b:=fun hn b hb=>⟨hn b hb,(f2 b hb).2⟩
 refine codeAny_forLoop_any (fun n s'=>∃ i σ' H',Inv X pins σ' H' s'/\tn i s'.heap/\(∀ b∈fp,H' b = none)/\W i n σ' H') ?_ m0 ⟨0,σ,H2,I2,st2,fun b hb=>(f2 b hb).1,w0⟩
 rintro n s3 ⟨i,σ3,H3,I3,st3,fr3,w3⟩
 rcases turn i n σ3 H3 w3 with ⟨stop,qn⟩ | ⟨go,N,hN,step⟩
 · refine wpAny_passesOwn hp (thn (T.done X rfl rfl rfl hc i pins s3 σ3 H3 X.xe I3 (stat fr3) st3 stop) fun r s4 ⟨hr,I4⟩=>?_)
   subst hr
   exact wpAny_execs_nil ⟨σ3,H3,I4,qn⟩
 · refine wpAny_passesOwn hp (thn (T.item X rfl rfl rfl hc i pins s3 σ3 H3 X.xe I3 (stat fr3) st3 go) fun r s4 ⟨u,hr,h4⟩=>?_)
   subst hr
   refine wpAny_passesOwn hp (thn h4 fun _ s5 ⟨x,H5,I5,r5,y5,st5,fr5⟩=>?_)
   have I5':=I5.pinned (stat fr5) (T.obj _ _ st5)
   refine wpAny_passesOwn hp (thn (hg _ s5 σ3 H5 x u _ I5' r5 (step x H5 y5)) fun _ s6 ⟨σ6,H6,I6,q6⟩=>?_)
   refine wpAny_passesOwn hp (thn (hb _ s6 σ6 H6 _ I6 q6) fun f s7 q7=>?_)
   have again:∀ {σ7:St}{H7:Hp},Inv X (pins ++ pinsAt fp s5.heap) σ7 H7 s7->N σ7 H7->∃ m,m < n/\∃ i σ' H',Inv X pins σ' H' s7/\tn i s7.heap/\(∀ b∈fp,H' b = none)/\W i m σ' H':=fun {σ7 H7} I7 n7=>by
    obtain⟨m',hm,w7⟩:=hN σ7 H7 n7
    refine⟨m',hm,i + 1,σ7,H7,I7.unpinned,T.keep _ _ _ st5 fun b hb o e=>(I7.pin (b,o) (List.mem_append_right _ (List.mem_append_right _ (mem_pinsAt hb e)))).1,fun b hb=>?_,w7⟩
    obtain⟨o,e,d⟩:=T.obj _ _ st5 b hb
    exact (I7.pin (b,o) (List.mem_append_right _ (List.mem_append_right _ (mem_pinsAt hb e)))).2.1
   cases f with
   | next=>obtain⟨σ7,H7,I7,n7⟩:=q7;exact again I7 n7
   | cont=>obtain⟨σ7,H7,I7,n7⟩:=q7;exact again I7 n7
   | brk=>obtain⟨σ7,H7,I7,q7⟩:=q7;exact⟨σ7,H7,I7.unpinned,q7⟩
   | ret v=>obtain⟨x7,σ7,H7,I7,r7,q7⟩:=q7;exact⟨x7,σ7,H7,I7.unpinned,r7,q7⟩
end
theorem for_list {K:PySem.W.Frag}{a:Addr}{xs:List V}{g:TG}{tb:TS}{D:Ends}{σ:St}{H:Hp} (Pv:Nat->St->Hp->Prop) (h0:Pv 0 σ H) (hl:∀ i σ H,i<=xs.length->Pv i σ H->SqL K H a xs)
 (hs:∀ i x σ H,xs[i]? = some x->Pv i σ H->g x σ H fun σ2 H2=>tb { D with nx:=Pv (i + 1),ct:=Pv (i + 1),bk:=D.nx } σ2 H2) (hd:∀ σ H,Pv xs.length σ H->D.nx σ H):
 ∃ W:Nat->Nat->St->Hp->Prop,(∃ m,W 0 m σ H)/\∀ i m σ H,W i m σ H->
  ((Itl K a).stop i H/\D.nx σ H)\/((Itl K a).go i H/\∃ N:St->Hp->Prop,(∀ σ' H',N σ' H'->∃ m',m' < m/\W (i + 1) m' σ' H')/\∀ x H',(Itl K a).yld i H x H'->g x σ H' fun σ2 H2=>tb { D with nx:=N,ct:=N,bk:=D.nx } σ2 H2):=by
 refine⟨fun i m σ H=>m = xs.length - i/\i<=xs.length/\Pv i σ H,⟨xs.length,by simp,Nat.zero_le _,h0⟩,?_⟩
 rintro i m σ H ⟨rfl,hi,p⟩
 have q:=hl i σ H hi p
 by_cases hlt:i < xs.length
 · refine .inr ⟨⟨xs,xs[i],q,by simp [hlt]⟩,Pv (i + 1),fun σ' H' p'=>⟨xs.length - (i + 1),by omega,rfl,hlt,p'⟩,fun x H' y=>?_⟩
   obtain⟨e,y⟩:=y
   subst e
   exact hs i x σ _ (y xs q) p
 · have e:i = xs.length:=by omega
   subst e
   exact .inl ⟨⟨xs,q,Nat.le_refl _⟩,hd σ H p⟩
theorem for_tup {K:PySem.W.Frag}{g:TG}{tb:TS}{D:Ends}{H:Hp} (Pv:Nat->St->Hp->Prop) (h0:Pv 0 σ H) (hl:∀ i σ H,i<=xs.length->Pv i σ H->SqT K H a xs)
 (hs:∀ i x σ H,xs[i]? = some x->Pv i σ H->g x σ H fun σ2 H2=>tb { D with nx:=Pv (i + 1),ct:=Pv (i + 1),bk:=D.nx } σ2 H2) (hd:∀ σ H,Pv xs.length σ H->D.nx σ H):
 ∃ W:Nat->Nat->St->Hp->Prop,(∃ m,W 0 m σ H)/\∀ i m σ H,W i m σ H->
  ((Itt K a).stop i H/\D.nx σ H)\/((Itt K a).go i H/\∃ N:St->Hp->Prop,(∀ σ' H',N σ' H'->∃ m',m' < m/\W (i + 1) m' σ' H')/\∀ x H',(Itt K a).yld i H x H'->g x σ H' fun σ2 H2=>tb { D with nx:=N,ct:=N,bk:=D.nx } σ2 H2):=by
 refine⟨fun i m σ H=>m = xs.length - i/\i<=xs.length/\Pv i σ H,⟨xs.length,by simp,Nat.zero_le _,h0⟩,?_⟩
 rintro i m σ H ⟨rfl,hi,p⟩
 have q:=hl i σ H hi p
 by_cases hlt:i < xs.length
 · refine .inr ⟨⟨xs,xs[i],q,by simp [hlt]⟩,Pv (i + 1),fun σ' H' p'=>⟨xs.length - (i + 1),by omega,rfl,hlt,p'⟩,fun x H' y=>?_⟩
   obtain⟨e,y⟩:=y
   subst e
   exact hs i x σ _ (y xs q) p
 · have e:i = xs.length:=by omega
   subst e
   exact .inl ⟨⟨xs,q,Nat.le_refl _⟩,hd σ H p⟩
theorem for_range {lo:Int}{g:TG}{tb:TS}{D:Ends}{H:Hp} (Pv:Nat->St->Hp->Prop) (h0:Pv 0 σ H)
 (hs:∀ i σ H,i < n->Pv i σ H->g (.int (lo + i)) σ H fun σ2 H2=>tb { D with nx:=Pv (i + 1),ct:=Pv (i + 1),bk:=D.nx } σ2 H2) (hd:∀ σ H,Pv n σ H->D.nx σ H):
 ∃ W:Nat->Nat->St->Hp->Prop,(∃ m,W 0 m σ H)/\∀ i m σ H,W i m σ H->
  ((Itr lo n).stop i H/\D.nx σ H)\/((Itr lo n).go i H/\∃ N:St->Hp->Prop,(∀ σ' H',N σ' H'->∃ m',m' < m/\W (i + 1) m' σ' H')/\∀ x H',(Itr lo n).yld i H x H'->g x σ H' fun σ2 H2=>tb { D with nx:=N,ct:=N,bk:=D.nx } σ2 H2):=by
 refine⟨fun i m σ H=>m = n - i/\i<=n/\Pv i σ H,⟨n,by simp,Nat.zero_le _,h0⟩,?_⟩
 rintro i m σ H ⟨rfl,hi,p⟩
 by_cases hlt:i < n
 · refine .inr ⟨hlt,Pv (i + 1),fun σ' H' p'=>⟨n - (i + 1),by omega,rfl,hlt,p'⟩,fun x H' y=>?_⟩
   obtain⟨e,y⟩:=y
   simp_all
 · have e:i = n:=by omega
   subst e
   exact .inl ⟨Nat.le_refl _,hd σ H p⟩
abbrev R2:=V->V->Hp->VK->Prop
def OpR (X:Cx) (f:Value->Value->Sem Value) (r:R2):Prop:=
 ∀ (pins:List (Addr×Obj)) (s:Shared) (σ:St) (H:Hp) (x y:V) (v u:Value) (Q:VK),Inv X pins σ H s->RelV x v->RelV y u->r x y H Q->
  wpAny (model X.prog X.w) X.A (f v u) (EP X pins σ Q) X.xe s
def UnR (X:Cx) (f:Value->Sem Value) (r:V->Hp->VK->Prop):Prop:=
 ∀ (pins:List (Addr×Obj)) (s:Shared) (σ:St) (H:Hp) (x:V) (v:Value) (Q:VK),Inv X pins σ H s->RelV x v->r x H Q->
  wpAny (model X.prog X.w) X.A (f v) (EP X pins σ Q) X.xe s
def CallR (X:Cx) (f:Value) (r:List V->Hp->VK->Prop):Prop:=
 ∀ (pins:List (Addr×Obj)) (s:Shared) (σ:St) (H:Hp) (xs:List V) (us:List Value) (Q:VK),Inv X pins σ H s->Vals xs us->r xs H Q->
  wpAny (model X.prog X.w) X.A (call f us) (EP X pins σ Q) X.xe s
def tOp (r:R2) (ta tb:TE):TE:=fun σ H Q=>ta σ H fun x H1=>tb σ H1 fun y H2=>r x y H2 Q
def tUn (r:V->Hp->VK->Prop) (ta:TE):TE:=fun σ H Q=>ta σ H fun x H1=>r x H1 Q
def rI (C:Int->Int->Prop) (g:Int->Int->V):R2:=fun x y H Q=>∃ i j,x = .int i/\y = .int j/\C i j/\Q (g i j) H
def rI0 (g:Int->Int->V):R2:=fun x y H Q=>∃ i j,x = .int i/\y = .int j/\Q (g i j) H
def rU (g:Int->V):V->Hp->VK->Prop:=fun x H Q=>∃ i,x = .int i/\Q (g i) H
section
theorem binT (ha:PE X a ta) (hb:PE X b tb) {σ:St}{R:V->V->Hp->Prop} (I:Inv X pins σ H s)
 (h:ta σ H fun x H1=>tb σ H1 fun y H2=>R x y H2) {f:Value->Value->Sem Value}
 (hf:∀ v u s2 x y H2,Inv X pins σ H2 s2->RelV x v->RelV y u->R x y H2->wpAny (model X.prog X.w) X.A (f v u) Q X.xe s2):
 wpAny (model X.prog X.w) X.A (eval a X.env) (fun v s₁=>wpAny (model X.prog X.w) X.A (eval b X.env) (fun u s₂=>wpAny (model X.prog X.w) X.A (f v u) Q X.xe s₂) X.xe s₁) X.xe s:=by
 refine thn (ha pins s σ H _ I h) fun v s1 ⟨x,H1,I1,r1,q1⟩=>?_
 refine thn (hb pins s1 σ H1 _ I1 q1) fun u s2 ⟨y,H2,I2,r2,q2⟩=>?_
 exact hf v u s2 x y H2 I2 r1 r2 q2
theorem pe_op (ho:OpR X (binaryOp op) r) (ha:PE X a ta) (hb:PE X b tb):PE X (.BinOp a op b pos) (tOp r ta tb):=by
 intro pins s σ H Q I h
 exact wpAny_BinOp (binT ha hb I h fun v u s2 x y H2 I2 rx ry q=>ho pins s2 σ H2 x y v u Q I2 rx ry q)
theorem pe_un (ho:UnR X (unaryOp op) r) (ha:PE X a ta):PE X (.UnaryOp op a pos) (tUn r ta):=by
 intro pins s σ H Q I h
 exact UnaryOp_ (thn (ha pins s σ H _ I h) fun v s1 ⟨x,H1,I1,r1,q1⟩=>ho pins s1 σ H1 x v Q I1 r1 q1)
theorem opI {g:Int->Int->Int}
 (rule:∀ (i j:Int) (t u:Tok) (s:Shared) (Q:Value->Shared->Prop) (E:Value->Shared->Prop),C i j->Q (.int (g i j) s.toks) { s with toks:=s.toks + 1 }->wpAny (model X.prog X.w) X.A (f (.int i t) (.int j u)) Q E s):
 OpR X f (rI C fun i j=>.int (g i j)):=by
 intro pins s σ H x y v u Q I rx ry h
 obtain⟨i,j,rfl,rfl,hc,q⟩:=h
 obtain⟨t,rfl⟩:=rx
 obtain⟨t',rfl⟩:=ry
 exact rule i j t t' s _ _ hc ⟨.int _,H,I.tok _,⟨_,rfl⟩,q⟩
theorem opI0 {g:Int->Int->Int}
 (rule:∀ (i j:Int) (t u:Tok) (s:Shared) (Q:Value->Shared->Prop) (E:Value->Shared->Prop),Q (.int (g i j) s.toks) { s with toks:=s.toks + 1 }->wpAny (model X.prog X.w) X.A (f (.int i t) (.int j u)) Q E s):
 OpR X f (rI0 fun i j=>.int (g i j)):=by
 intro pins s σ H x y v u Q I rx ry h
 obtain⟨i,j,rfl,rfl,q⟩:=h
 obtain⟨t,rfl⟩:=rx
 obtain⟨t',rfl⟩:=ry
 exact rule i j t t' s _ _ ⟨.int _,H,I.tok _,⟨_,rfl⟩,q⟩
theorem opB0 {g:Int->Int->Bool}
 (rule:∀ (i j:Int) (t u:Tok) (s:Shared) (Q:Value->Shared->Prop) (E:Value->Shared->Prop),Q (.bool (g i j)) s->wpAny (model X.prog X.w) X.A (f (.int i t) (.int j u)) Q E s):
 OpR X f (rI0 fun i j=>.bl (g i j)):=by
 intro pins s σ H x y v u Q I rx ry h
 obtain⟨i,j,rfl,rfl,q⟩:=h
 obtain⟨t,rfl⟩:=rx
 obtain⟨t',rfl⟩:=ry
 exact rule i j t t' s _ _ ⟨.bl _,H,I,rfl,q⟩
def CPow (i j:Int):Prop:=0<=j/\j<=1000000/\i.natAbs < 2 ^ 64
theorem op_add:OpR X (binaryOp .Add) (rI0 fun i j=>.int (i + j)):=opI0 fun _ _ _ _ _ _ _ q=>add_int q
theorem op_sub:OpR X (binaryOp .Sub) (rI0 fun i j=>.int (i - j)):=opI0 fun _ _ _ _ _ _ _ q=>sub_int q
theorem op_mod:OpR X (binaryOp .Mod) (rI (fun _ j=>0 < j) fun i j=>.int (i % j)):=opI fun i j _ _ _ _ _ hc q=>by
 have h1:(0:Int) < j:=hc
 exact mod_int' (by omega) (by rw [Int.fmod_eq_emod_of_nonneg i (by omega)];exact q)
theorem op_pow:OpR X (binaryOp .Pow) (rI CPow fun i j=>.int (i ^ j.toNat)):=opI fun _ _ _ _ _ _ _ hc q=>pow_int_small hc.1 hc.2.1 hc.2.2 q
theorem unI {g:Int->Int}
 (rule:∀ (i:Int) (t:Tok) (s:Shared) (Q:Value->Shared->Prop) (E:Value->Shared->Prop),Q (.int (g i) s.toks) { s with toks:=s.toks + 1 }->wpAny (model X.prog X.w) X.A (f (.int i t)) Q E s):
 UnR X f (rU fun i=>.int (g i)):=by
 intro pins s σ H x v Q I rx h
 obtain⟨i,rfl,q⟩:=h
 obtain⟨t,rfl⟩:=rx
 exact rule i t s _ _ ⟨.int _,H,I.tok _,⟨_,rfl⟩,q⟩
theorem un_neg:UnR X (unaryOp .USub) (rU fun i=>.int (-i)):=unI fun _ _ _ _ _ q=>neg_int q
end
def scal:V->V->Bool
 | .non,.non=>true | .non,.int _=>true | .int _,.non=>true | .non,.bl _=>true | .bl _,.non=>true | .non,.str _=>true | .str _,.non=>true
 | .int _,.int _=>true | .bl _,.bl _=>true | .str _,.str _=>true | .byt _,.byt _=>true
 | .int _,.str _=>true | .str _,.int _=>true | .bl _,.str _=>true | .str _,.bl _=>true
 | _,_=>false
def rEq:R2:=fun x y H Q=>scal x y = true/\Q (.bl (decide (x = y))) H
def rNe:R2:=fun x y H Q=>scal x y = true/\Q (.bl (!decide (x = y))) H
theorem dec_int:decide (V.int i = V.int j) = (i == j):=by
 rw [Bool.eq_iff_iff]
 simp
theorem dec_bl:decide (V.bl i = V.bl j) = (i == j):=by
 rw [Bool.eq_iff_iff]
 simp
theorem dec_str:decide (V.str i = V.str j) = (i == j):=by
 rw [Bool.eq_iff_iff]
 simp
theorem dec_byt:decide (V.byt i = V.byt j) = (i.toList == j.toList):=by
 rw [Bool.eq_iff_iff]
 simp
section
theorem fin_bl {σ:St} (I:Inv X pins σ H s) (q:Q (.bl k) H) (e:k = k'):EP X pins σ Q (.bool k') s:=by
 subst e
 exact⟨.bl k,H,I,rfl,q⟩
theorem op_eq:OpR X (compareOp .Eq) rEq:=by
 intro pins s σ H x y v u Q I rx ry h
 obtain⟨hs,q⟩:=h
 cases x with
 | non=>
  cases rx
  cases y with
  | non=>cases ry;exact PySem.EqNone.eq_none_none (fin_bl I q (by simp))
  | bl j=>cases ry;exact PySem.EqNone.eq_none_bool (fin_bl I q (by simp))
  | int j=>obtain⟨t',rfl⟩:=ry;exact PySem.EqNone.eq_none_int (fin_bl I q (by simp))
  | str j=>obtain⟨t',rfl⟩:=ry;exact PySem.EqNone.eq_none_str (fin_bl I q (by simp))
  | _=>exact absurd (show false = true from hs) Bool.false_ne_true
 | bl i=>
  cases rx
  cases y with
  | non=>cases ry;exact PySem.EqNone.eq_bool_none (fin_bl I q (by simp))
  | bl j=>cases ry;exact eq_bool (fin_bl I q dec_bl)
  | str j=>obtain⟨t',rfl⟩:=ry;exact PySem.EqMixed.eq_bool_str (fin_bl I q (by simp))
  | _=>exact absurd (show false = true from hs) Bool.false_ne_true
 | int i=>
  obtain⟨t,rfl⟩:=rx
  cases y with
  | non=>cases ry;exact PySem.EqNone.eq_int_none (fin_bl I q (by simp))
  | int j=>obtain⟨t',rfl⟩:=ry;exact eq_int (fin_bl I q dec_int)
  | str j=>obtain⟨t',rfl⟩:=ry;exact PySem.EqMixed.eq_int_str (fin_bl I q (by simp))
  | _=>exact absurd (show false = true from hs) Bool.false_ne_true
 | str i=>
  obtain⟨t,rfl⟩:=rx
  cases y with
  | non=>cases ry;exact PySem.EqNone.eq_str_none (fin_bl I q (by simp))
  | bl j=>cases ry;exact PySem.EqMixed.eq_str_bool (fin_bl I q (by simp))
  | int j=>obtain⟨t',rfl⟩:=ry;exact PySem.EqMixed.eq_str_int (fin_bl I q (by simp))
  | str j=>obtain⟨t',rfl⟩:=ry;exact eq_str (fin_bl I q dec_str)
  | _=>exact absurd (show false = true from hs) Bool.false_ne_true
 | byt i=>
  obtain⟨t,rfl⟩:=rx
  cases y with
  | byt j=>obtain⟨t',rfl⟩:=ry;exact PySem.W.eq_bytes (fin_bl I q dec_byt)
  | _=>exact absurd (show false = true from hs) Bool.false_ne_true
 | _=>cases y <;> exact absurd (show false = true from hs) Bool.false_ne_true
theorem op_ne:OpR X (compareOp .NotEq) rNe:=by
 intro pins s σ H x y v u Q I rx ry h
 obtain⟨hs,q⟩:=h
 cases x with
 | non=>
  cases rx
  cases y with
  | non=>cases ry;exact PySem.EqNone.ne_none_none (fin_bl I q (by simp))
  | bl j=>cases ry;exact PySem.EqNone.ne_none_bool (fin_bl I q (by simp))
  | int j=>obtain⟨t',rfl⟩:=ry;exact PySem.EqNone.ne_none_int (fin_bl I q (by simp))
  | str j=>obtain⟨t',rfl⟩:=ry;exact PySem.EqNone.ne_none_str (fin_bl I q (by simp))
  | _=>exact absurd (show false = true from hs) Bool.false_ne_true
 | bl i=>
  cases rx
  cases y with
  | non=>cases ry;exact PySem.EqNone.ne_bool_none (fin_bl I q (by simp))
  | bl j=>cases ry;exact ne_bool (fin_bl I q (congrArg not dec_bl))
  | str j=>obtain⟨t',rfl⟩:=ry;exact PySem.EqMixed.ne_bool_str (fin_bl I q (by simp))
  | _=>exact absurd (show false = true from hs) Bool.false_ne_true
 | int i=>
  obtain⟨t,rfl⟩:=rx
  cases y with
  | non=>cases ry;exact PySem.EqNone.ne_int_none (fin_bl I q (by simp))
  | int j=>obtain⟨t',rfl⟩:=ry;exact ne_int (fin_bl I q (congrArg not dec_int))
  | str j=>obtain⟨t',rfl⟩:=ry;exact PySem.EqMixed.ne_int_str (fin_bl I q (by simp))
  | _=>exact absurd (show false = true from hs) Bool.false_ne_true
 | str i=>
  obtain⟨t,rfl⟩:=rx
  cases y with
  | non=>cases ry;exact PySem.EqNone.ne_str_none (fin_bl I q (by simp))
  | bl j=>cases ry;exact PySem.EqMixed.ne_str_bool (fin_bl I q (by simp))
  | int j=>obtain⟨t',rfl⟩:=ry;exact PySem.EqMixed.ne_str_int (fin_bl I q (by simp))
  | str j=>obtain⟨t',rfl⟩:=ry;exact ne_str (fin_bl I q (congrArg not dec_str))
  | _=>exact absurd (show false = true from hs) Bool.false_ne_true
 | byt i=>
  obtain⟨t,rfl⟩:=rx
  cases y with
  | byt j=>obtain⟨t',rfl⟩:=ry;exact PySem.W.ne_bytes (fin_bl I q (congrArg not dec_byt))
  | _=>exact absurd (show false = true from hs) Bool.false_ne_true
 | _=>cases y <;> exact absurd (show false = true from hs) Bool.false_ne_true
theorem op_lt:OpR X (compareOp .Lt) (rI0 fun i j=>.bl (decide (i < j))):=opB0 fun _ _ _ _ _ _ _ q=>lt_int q
theorem op_gt:OpR X (compareOp .Gt) (rI0 fun i j=>.bl (decide (j < i))):=opB0 fun _ _ _ _ _ _ _ q=>gt_int q
theorem op_ge:OpR X (compareOp .GtE) (rI0 fun i j=>.bl (decide (j<=i))):=opB0 fun _ _ _ _ _ _ _ q=>ge_int q
theorem op_isN:OpR X (compareOp .Is) (fun x y H Q=>y = .non/\Q (.bl (decide (x = .non))) H):=by
 intro pins s σ H x y v u Q I rx ry h
 obtain⟨rfl,q⟩:=h
 cases ry
 refine is_none_gen (fin_bl I q ?_)
 cases x <;> first
  | (cases rx;rfl)
  | (obtain⟨t,rfl⟩:=rx;rfl)
theorem op_notN:OpR X (compareOp .IsNot) (fun x y H Q=>y = .non/\Q (.bl (!decide (x = .non))) H):=by
 intro pins s σ H x y v u Q I rx ry h
 obtain⟨rfl,q⟩:=h
 cases ry
 refine isnot_none_gen (fin_bl I q ?_)
 cases x <;> first
  | rfl
  | (obtain⟨t,rfl⟩:=rx;rfl)
theorem OpR.or {f:Value->Value->Sem Value}{r r':R2} (h:OpR X f r) (h':OpR X f r'):OpR X f (fun x y H Q=>r x y H Q\/r' x y H Q):=by
 intro pins s σ H x y v u Q I rx ry q
 rcases q with q | q
 · exact h pins s σ H x y v u Q I rx ry q
 · exact h' pins s σ H x y v u Q I rx ry q
theorem nomark (b:Expr) (h:op≠.In:=by decide) (h2:op≠.NotIn:=by decide):behindInMarks op b = false:=by
 have e1:(op == CmpOp.In) = false:=by grind
 have e2:(op == CmpOp.NotIn) = false:=by grind
 cases b <;> simp [behindInMarks,e1,e2]
theorem pe_cmpR {op:CmpOp}{r:R2} (ho:OpR X (compareOp op) r) (ha:PE X a ta) (hb:PE X b tb) (hm:behindInMarks op b = false):PE X (.Compare a [op] [b] pos) (tOp r ta tb):=by
 intro pins s σ H Q I h
 exact wpAny_Compare1 (binT ha hb I h fun v u s2 x y H2 I2 rx ry q=>ho pins s2 σ H2 x y v u Q I2 rx ry q) hm
def tTest (t:TE):TT:=fun σ H Q=>t σ H fun x H'=>∃ k,x = .bl k/\Q k H'
theorem pt_cmpR (ho:OpR X (compareOp op) r) (ha:PE X a ta) (hb:PE X b tb) (hm:behindInMarks op b = false):PT X (.Compare a [op] [b] pos) (tTest (tOp r ta tb)):=by
 intro pins s σ H Q I h
 refine wpAny_isTrue_Compare1 (thn (ha pins s σ H _ I h) fun v s1 ⟨x,H1,I1,r1,q1⟩=>thn (hb pins s1 σ H1 _ I1 q1) fun u s2 ⟨y,H2,I2,r2,q2⟩=>
  thn (ho pins s2 σ H2 x y v u _ I2 r1 r2 q2) fun c s3 ⟨z,H3,I3,r3,k,e,q3⟩=>?_) hm
 subst e
 cases r3
 exact wpAny_truthy_bool ⟨H3,I3,q3⟩
theorem line63:(sizeLine:Nat) < 2 ^ 63:=by decide
theorem vals1 (r:Vals [x] us):∃ u,us = [u]/\RelV x u:=by
 cases r with
 | cons r1 r2=>cases r2;simp_all
theorem vals2 (r:Vals [x,y] us):∃ u w',us = [u,w']/\RelV x u/\RelV y w':=by
 cases r with
 | cons r1 r2=>
  cases r2 with
  | cons r3 r4=>cases r4;exact⟨_,_,rfl,r1,r3⟩
theorem call_abs:CallR X (.builtin "abs") (fun xs H Q=>∃ i,xs = [.int i]/\Q (.int (if i < 0 then -i else i)) H):=by
 intro pins s σ H xs us Q I r h
 obtain⟨i,rfl,q⟩:=h
 obtain⟨u,rfl,t,rfl⟩:=vals1 r
 exact call_abs_int fun u tk=>⟨.int _,H,I.tok _,⟨_,rfl⟩,q⟩
theorem call_max2 (hc:X.calm = true):CallR X (.builtin "max") (fun xs H Q=>∃ i j,xs = [.int i,.int j]/\Q (.int (if j > i then j else i)) H):=by
 intro pins s σ H xs us Q I r h
 obtain⟨i,j,rfl,q⟩:=h
 obtain⟨u,w',rfl,⟨t,rfl⟩,⟨t',rfl⟩⟩:=vals2 r
 refine max_two_ints (I.ok.hd hc) fun h' tk k=>⟨_,H,I.kept k,?_,q⟩
 by_cases hj:j > i
 · rw [if_pos hj,if_pos hj];exact⟨_,rfl⟩
 · rw [if_neg hj,if_neg hj];exact⟨_,rfl⟩
theorem call_min2 (hc:X.calm = true):CallR X (.builtin "min") (fun xs H Q=>∃ i j,xs = [.int i,.int j]/\Q (.int (if j < i then j else i)) H):=by
 intro pins s σ H xs us Q I r h
 obtain⟨i,j,rfl,q⟩:=h
 obtain⟨u,w',rfl,⟨t,rfl⟩,⟨t',rfl⟩⟩:=vals2 r
 refine min_two_ints (I.ok.hd hc) fun h' tk k=>⟨_,H,I.kept k,?_,q⟩
 by_cases hj:j < i
 · rw [if_pos hj,if_pos hj];exact⟨_,rfl⟩
 · rw [if_neg hj,if_neg hj];exact⟨_,rfl⟩
theorem call_int1:CallR X (.type "int") (fun xs H Q=>(∃ i,xs = [.int i]/\Q (.int i) H)\/∃ k,xs = [.bl k]/\Q (.int (if k then 1 else 0)) H):=by
 intro pins s σ H xs us Q I r h
 rcases h with ⟨i,rfl,q⟩ | ⟨k,rfl,q⟩
 · obtain⟨u,rfl,t,rfl⟩:=vals1 r
   exact call_int_int ⟨.int i,H,I,⟨_,rfl⟩,q⟩
 · obtain⟨u,rfl,r1⟩:=vals1 r
   cases r1
   exact call_int_bool ⟨.int _,H,I.tok _,⟨_,rfl⟩,q⟩
end
structure ObjM (h:Heap) (x dx C:Addr) (mA:Str->Option Value):Prop where
 obj:h.get? x = some (PySem.W.instObj C dx)
 ns:h.Ns1 dx mA
 ne:dx≠x
theorem lookIn_ns {h:Heap}{dx:Addr} (n:h.Ns1 dx mA):∃ od,h.get? dx = some od/\∀ name,PySem.W.lookIn name od = some (mA name):=by
 obtain⟨o,es,ep,ho,hd,hk,_,hm⟩:=n
 refine⟨o,ho,fun name=>?_⟩
 have e:=hm name
 unfold nsFind findBy at e
 rw [<- Array.find?_toList] at e
 unfold PySem.W.lookIn
 rw [hd]
 dsimp only
 split
 · simp_all
 · have a:es.toList.any (·.refKey) = false:=by
    rw [List.any_eq_false]
    intro y hy
    obtain⟨z,t,hkey⟩:=hk y (Array.mem_toList_iff.mp hy)
    simp [DictEntry.refKey,hkey]
   have a':¬ es.toList.any (·.refKey) = true:=by grind
   rw [if_neg a']
   simp_all
theorem ObjM.look (I:ObjM h x dx C mA):∃ od,PySem.W.InstAt h x (PySem.W.instObj C dx) C (some od)/\∀ name,PySem.W.lookIn name od = some (mA name):=
 let ⟨od,ho,hl⟩:=lookIn_ns I.ns
 ⟨od,⟨I.obj,rfl,rfl,ho⟩,hl⟩
theorem RelO.some_of (r:RelO (some v) o):∃ u,o = some u/\RelV v u:=by
 cases o with
 | none=>exact (r).elim
 | some u=>exact⟨u,rfl,r⟩
section
theorem ins_get (hok:HOk P w H h) (e:H a = some (.ins C dx fs)):∃ mA,ObjM h a dx C mA/\(∀ f,RelO (fs.lookup f) (mA f))/\PySem.Within mA (fs.map (·.1))/\fs.length<=1000/\H dx = some (.own a):=by
 obtain⟨d,z,ne,ob,mA,n,r,q⟩:=(hok a _ e)
 exact⟨mA,⟨ob,n,ne⟩,r,q,z,d⟩
end
structure Cls (K:PySem.W.Frag) (C:Addr):Prop where
 pg:PySem.W.plainGet K C Str.empty = true
 hd:PySem.W.hasDictIn K C = true
 po:PySem.W.plainOver K C = true
 sa:PySem.W.findIn K (.ref C) "__setattr__" = some (some (.builtin "object.__setattr__"))
theorem Cls.get {K:PySem.W.Frag} (c:Cls K C) (f:Str):PySem.W.plainGet K C f = true:=c.pg
section
variable {σ:St}
inductive TyOf (K:PySem.W.Frag) (H:Hp):V->Value->Prop where
 | non:TyOf K H .non (.type "NoneType")
 | bl (x:Bool):TyOf K H (.bl x) (.type "bool")
 | int (i:Int):TyOf K H (.int i) (.type "int")
 | str (x:Str):TyOf K H (.str x) (.type "str")
 | flt (x:UInt64):TyOf K H (.flt x) (.type "float")
 | lst {a:Addr}{xs:List V} (e:H a = some (.lst xs)):TyOf K H (.ref a) (.type "list")
 | frz {a:Addr}{o:Obj}{xs:List V} (e:H a = some (.frz o (.lst xs))):TyOf K H (.ref a) (.type "list")
 | tup {a:Addr}{xs:List V} (e:H a = some (.tup xs)):TyOf K H (.ref a) (.type "tuple")
 | dK {a:Addr}{kvs:List (Key×V)} (e:H a = some (.dK kvs)):TyOf K H (.ref a) (.type "dict")
 | dT {a:Addr}{kvs:List (List Key×V)} (e:H a = some (.dT kvs)):TyOf K H (.ref a) (.type "dict")
 | ins {a C dx:Addr}{fs:List (Str×V)} (e:H a = some (.ins C dx fs)) (cl:Cls K C) (ha:PySem.W.findIn K (.ref C) "__class__" = some (some (.builtin "object.__class__")))
  (hn:PySem.W.specialIn K (.builtin "object.__class__") "__get__" = some (some (.builtin "getset_descriptor.__get__"))) (htk:PySem.W.takesIn K (.builtin "object.__class__") = some true)
  (hm:PySem.W.mroIn K C (.type "object") = some true):TyOf K H (.ref a) (.ref C)
theorem isinst_ok {x:V}{u t:Value} (I:Inv X pins σ H s) (rx:RelV x u) (ty:TyOf X.K H x t) (e:PySem.W.kitOne X.K t c = some b) (h:∀ tk,Q (.bool b) { s with toks:=tk }):
 wpAny (model X.prog X.w) A (call (.builtin "isinstance") [u,c]) Q E s:=by
 cases ty with
 | non=>cases (show u = Value.none from rx);exact PySem.W.kia_one PySem.W.kitx_none I.kIn True.intro e (fun z=>nomatch z) h
 | bl y=>cases (show u = Value.bool y from rx);exact PySem.W.kia_one PySem.W.kitx_bool I.kIn True.intro e (fun z=>nomatch z) h
 | int i=>obtain⟨t,q⟩:=(show ∃ t,u = Value.int i t from rx);cases q;exact PySem.W.kia_one PySem.W.kitx_int I.kIn True.intro e (fun z=>nomatch z) h
 | str y=>obtain⟨t,q⟩:=(show ∃ t,u = Value.str y t from rx);cases q;exact PySem.W.kia_one PySem.W.kitx_str I.kIn True.intro e (fun z=>nomatch z) h
 | flt y=>obtain⟨t,q⟩:=(show ∃ t,u = Value.float y t from rx);cases q;exact PySem.W.kia_one PySem.W.kitx_float I.kIn True.intro e (fun z=>nomatch z) h
 | @lst a xs ea=>
  cases (show u = Value.ref a from rx)
  obtain⟨_,_,n,_,h1⟩:=(show ObjOk X.prog X.w H s.heap a (.lst xs) from I.hok a _ ea)
  exact PySem.W.kia_one PySem.W.kitx_list I.kIn ⟨_,h1,rfl⟩ e (fun z=>nomatch z) h
 | @frz a ob xs ea=>
  cases (show u = Value.ref a from rx)
  obtain⟨_,_,_,n,_,h1⟩:=(show ObjOk X.prog X.w H s.heap a (.frz ob (.lst xs)) from I.hok a _ ea)
  exact PySem.W.kia_one PySem.W.kitx_list I.kIn ⟨_,h1,rfl⟩ e (fun z=>nomatch z) h
 | @tup a xs ea=>
  cases (show u = Value.ref a from rx)
  obtain⟨_,_,_,p⟩:=(show ObjOk X.prog X.w H s.heap a (.tup xs) from I.hok a _ ea)
  obtain⟨o,h1,h2,_⟩:=p
  exact PySem.W.kia_one PySem.W.kitx_tuple I.kIn ⟨o,h1,h2⟩ e (fun z=>nomatch z) h
 | @dK a kvs ea=>
  cases (show u = Value.ref a from rx)
  obtain⟨_,_,vs,_,p⟩:=(show ObjOk X.prog X.w H s.heap a (.dK kvs) from I.hok a _ ea)
  obtain⟨o,es,ep,h1,h2,_⟩:=p
  exact PySem.W.kia_one PySem.W.kitx_dict I.kIn ⟨o,h1,h2.1⟩ e (fun z=>nomatch z) h
 | @dT a kvs ea=>
  cases (show u = Value.ref a from rx)
  obtain⟨_,_,xs,_,o,es,ep,h1,h2,_⟩:=(show ObjOk X.prog X.w H s.heap a (.dT kvs) from I.hok a _ ea)
  exact PySem.W.kia_one PySem.W.kitx_dict I.kIn ⟨o,h1,h2.1⟩ e (fun z=>nomatch z) h
 | @ins a C dx fs ea cl ha hn htk hm=>
  cases (show u = Value.ref a from rx)
  obtain⟨mA,O,_⟩:=ins_get I.hok ea
  obtain⟨od,J,_⟩:=O.look
  exact PySem.W.kia_one (PySem.W.kitx_own (cl.get _) cl.hd ha hn htk hm) I.kIn J e (fun z=>nomatch z) h
end
structure Room (k:Nat) (A:Around):Prop where
 hd:A.handled = none
 dp:A.depth + 3 * k + 5 < recursionLimit
 un:A.units + 16 * k + 200 < cLine
 gd:A.guards = some []
theorem Room.mono (r:Room k A) (h:j<=k):Room j A:=⟨r.hd,by have:=r.dp;omega,by have:=r.un;omega,r.gd⟩
theorem Room.deeper (r:Room (k + 1) A) (env:Env):Room k (A.deeper env):=
 ⟨r.hd,by have:=r.dp;show A.depth + 1 + 3 * k + 5 < _;omega,by have:=r.un;simp;omega,r.gd⟩
theorem Room.depth (r:Room k A):A.depth < recursionLimit:=by have:=r.dp;omega
def tNil:TA:=fun _ H Q=>Q [] H
def tCons (ta:TE) (tr:TA):TA:=fun σ H Q=>ta σ H fun x H1=>tr σ H1 fun xs H2=>Q (x :: xs) H2
section
theorem pa_nil:PA X [] tNil:=fun _ _ _ _ H Q I h=>Calls.spliced_nil ⟨[],H,I,.nil,h⟩
theorem pa_cons (ha:PE X e te) (hr:PA X es t) (hs:starEach (e :: es) X.env = (false,eval e X.env) :: starEach es X.env:=by rfl):PA X (e :: es) (tCons te t):=by
 intro pos pins s σ H Q I h
 rw [hs]
 refine Calls.spliced_cons (thn (ha pins s σ H _ I h) fun u s1 ⟨x,H1,I1,r1,q1⟩=>?_)
 exact thn (hr pos pins s1 σ H1 _ I1 q1) fun us s2 ⟨xs,H2,I2,r2,q2⟩=>⟨x :: xs,H2,I2,.cons r1 r2,q2⟩
end
abbrev Sp:=List V->Hp->VK->XK->Prop
abbrev CXT:=List Env->Hp->Shared->XK->Value->Shared->Prop
structure Env0 (P:Program) (w:World) (K:PySem.W.Frag) (mg:Str->Option Value) (base:Heap) (A:Around) (outer:List Env) (s:Shared) (H:Hp):Prop where
 frames:A.frames = some outer
 mod:Mod K mg base
 bs:∀ b o,base.get? b = some o->s.heap.get? b = some o/\H b = none
 bsz:base.objs.size<=s.heap.objs.size
 funs:s.heap.FunFrames base outer
 frf:∀ b∈frs outer,H b = none
 hok:HOk P w H s.heap
 bare:AllBare s.gens
def CE (outer:List Env) (P:Program) (w:World) (H:Hp) (s:Shared) (Q:VK) (u:Value) (s':Shared):Prop:=
 ∃ v H',s'.os = s.os/\AllBare s'.gens/\Un (frs outer) [] H H' s.heap s'.heap/\HOk P w H' s'.heap/\RelV v u/\Q v H'
def CR (CX:CXT) (outer:List Env) (P:Program) (w:World) (H:Hp) (s:Shared) (Q:VK) (E:XK) (r:Result) (s':Shared):Prop:=
 match r with
 | .ok (.ret u)=>CE outer P w H s Q u s'
 | .ok _=>False
 | .error e=>CX outer H s E e s'
structure FnOk (P:Program) (w:World) (K:PySem.W.Frag) (mg:Str->Option Value) (base:Heap) (CX:CXT) (k:Nat) (f:Addr) (fd:FuncData) (ps:List Str) (sp:Sp):Prop where
 len:∀ vs H Q E,sp vs H Q E->vs.length = ps.length
 run:∀ (A:Around) (outer:List Env) (s:Shared) (H:Hp) (args:Args) (us:List Value) (vs:List V) (Q:VK) (E:XK),Room k A->Env0 P w K mg base A outer s H->BindsTo s fd args (ps.zip us)->Vals vs us->sp vs H Q E->
  codeAny (model P w) A (.call (.ref f) args) (CR CX outer P w H s Q E) s
theorem FnOk.imp {P:Program}{w:World}{K:PySem.W.Frag}{mg:Str->Option Value}{base:Heap}{CX:CXT}{k:Nat}{f:Addr}{fd:FuncData}{ps:List Str}{sp sp':Sp} (F:FnOk P w K mg base CX k f fd ps sp)
 (h:∀ vs H Q E,sp' vs H Q E->sp vs H Q E):FnOk P w K mg base CX k f fd ps sp':=
 ⟨fun vs H Q E q=>F.len vs H Q E (h _ _ _ _ q),fun A outer s H args us vs Q E hr he hb hv hs=>F.run A outer s H args us vs Q E hr he hb hv (h _ _ _ _ hs)⟩
section
variable {σ:St}
theorem Inv.env0 (I:Inv X pins σ H s):Env0 X.prog X.w X.K X.mg X.base X.A X.stack s H:=
 ⟨I.ok.frames,I.ok.mod,I.bs,Nat.le_trans I.ok.bsz I.sz,I.stack,I.stkFree,I.hok,I.bare⟩
theorem Inv.after {Q:VK}{u:Value} (I:Inv X pins σ H s) (h:CE X.stack X.prog X.w H s Q u s'):EP X pins σ Q u s':=by
 obtain⟨v,H',os,bare,un,hok,r,q⟩:=h
 obtain⟨hh,g,d,t,os'⟩:=s'
 obtain rfl:os' = s.os:=os
 exact⟨v,H',I.call (h':=hh) (g':=g) (d':=d) (t':=t) (ch:=[]) un hok bare (fun b z=>absurd z (by simp)),r,q⟩
end
def tCall (sp:Sp) (dvs:List V) (E:XK) (t:TA):TE:=fun σ H Q=>t σ H fun vs H1=>sp (vs ++ dvs) H1 Q E
def Binds (K:PySem.W.Frag) (fd:FuncData) (ps:List Str) (ds:List Value):Prop:=
 ∀ (s:Shared) (us:List Value),K.In s.heap->(us ++ ds).length = ps.length->BindsTo s fd ⟨us,[]⟩ (ps.zip (us ++ ds))
theorem Binds.all {K:PySem.W.Frag}{fd:FuncData}{ps:List Str} (h:∀ us:List Value,us.length = ps.length->bindArgs fd ⟨us,[]⟩ = pure (ps.zip us)):Binds K fd ps []:=fun s us _ hl=>by
 rw [List.append_nil] at hl ⊢
 exact .of_eq (h us hl)
def Passes (CX:CXT) (X:Cx) (E:XK):Prop:=∀ (pins:List (Addr×Obj)) (σ:St) (H:Hp) (s:Shared) (e:Value) (s':Shared),Inv X pins σ H s->CX X.stack H s E e s'->X.xe e s'
section
variable {p pos apos:Pos}
theorem run_fn {pins:List (Addr×Obj)}{σ:St}{H:Hp}{s:Shared}{Q:VK}{us:List Value}{vs:List V} (F:FnOk X.prog X.w X.K X.mg X.base CX k f fd ps sp) (hr:Room k X.A) (hb:Binds X.K fd ps ds) (hd:Vals dvs ds) (hx:Passes CX X E)
 (I:Inv X pins σ H s) (r:Vals vs us) (h:sp (vs ++ dvs) H Q E):wpAny (model X.prog X.w) X.A (call (.ref f) us) (EP X pins σ Q) X.xe s:=by
 have r2:Vals (vs ++ dvs) (us ++ ds):=r.append hd
 have hl:(us ++ ds).length = ps.length:=by rw [<- r2.length];exact F.len _ _ _ _ h
 refine wpAny_call (codeAny_mono (F.run X.A X.stack s H ⟨us,[]⟩ (us ++ ds) (vs ++ dvs) Q E hr I.env0 (hb s us I.kIn hl) r2 h) fun r s' hq=>?_)
 cases r with
 | error e=>exact hx pins σ H s e s' I hq
 | ok fl=>
  cases fl with
  | ret u=>exact I.after hq
  | next=>exact False.elim hq
  | brk=>exact False.elim hq
  | cont=>exact False.elim hq
theorem pe_call (F:FnOk X.prog X.w X.K X.mg X.base CX k f fd ps sp) (hr:Room k X.A) (hg:Gl X x) (hm:X.mg x = some (.ref f)) (hk:PySem.W.keepIn X.K (.ref f) = true) (hb:Binds X.K fd ps ds) (hd:Vals dvs ds) (hx:Passes CX X E)
 (ha:PA X (e :: es) t) (hdb:(x == ("__debug__" : Str)) = false:=by decide) (he:starEach (e :: es) X.env = (false,eval e X.env) :: starEach es X.env:=by rfl) (hpl:(backTo pos (starEach es X.env)).any (·.1) = false:=by rfl):
 PE X (.Call (.Name x p) (e :: es) [] pos) (tCall sp dvs E t):=by
 intro pins s σ H Q I h
 refine wpAny_Call_Name_kw (ld_glob I hg hm ?_ hdb)
 refine PySem.W.callWith_K I.ok.mod.kin hk (thn (ha pos pins s σ H _ I h) fun us s1 ⟨vs,H1,I1,r,q⟩=>⟨I1.kIn,?_⟩) he hpl
 exact run_fn F hr hb hd hx I1 r q
end
structure FnScope (N P:List Str) (sc:Scope):Prop where
 kind:sc.kind = .function
 co:sc.isCoroutine = false
 gen:sc.isGenerator = false
 nd:N.Nodup
 pre:N.take P.length = P
 par:∀ x∈P,sc.names.lookup x = some .local\/sc.names.lookup x = some .cell
 nofree:∀ y∈sc.names,y.2≠.free
theorem bindL_out {kindOf:Str->Option NameKind}:∀ {binds:List (Str×Value)}{m:Str->Option Value},(∀ v,(x,v)∉binds)->bindL kindOf binds m x = m x
 | [],_,_=>rfl
 | (n,v) :: r,m,h=>by
  unfold bindL
  rw [bindL_out fun w hw=>h w (List.mem_cons_of_mem _ hw)]
  split
  · have:x≠n:=by grind
    simp_all
  · rfl
theorem bindC_out {kindOf:Str->Option NameKind}:∀ {binds:List (Str×Value)}{m:Str->Option Value},(∀ v,(x,v)∉binds)->bindC kindOf binds m x = m x
 | [],_,_=>rfl
 | (n,v) :: r,m,h=>by
  unfold bindC
  rw [bindC_out fun w hw=>h w (List.mem_cons_of_mem _ hw)]
  split
  · rfl
  · have:x≠n:=by grind
    grind
theorem bindL_get {kindOf:Str->Option NameKind}:∀ {P:List Str}{vs:List Value}{i:Nat}{m:Str->Option Value},P.Nodup->P[i]? = some x->vs[i]? = some v->kindOf x = some .local->
 bindL kindOf (P.zip vs) m x = some v
 | [],_,_,_,_,h,_,_=>by simp at h
 | _ :: _,[],_,_,_,_,h,_=>by simp at h
 | p :: P,w :: vs,0,m,nd,h1,h2,hk=>by
  simp at h1 h2;subst h1;subst h2
  show bindL kindOf ((p,w) :: P.zip vs) m p = _
  unfold bindL
  rw [bindL_out fun v hv=>(List.nodup_cons.mp nd).1 (List.of_mem_zip hv).1,if_pos hk]
  simp
 | p :: P,w :: vs,i + 1,m,nd,h1,h2,hk=>by
  unfold bindL
  exact bindL_get (i:=i) (List.nodup_cons.mp nd).2 (by simpa using h1) (by simpa using h2) hk
theorem bindC_get {kindOf:Str->Option NameKind}:∀ {P:List Str}{vs:List Value}{i:Nat}{m:Str->Option Value},P.Nodup->P[i]? = some x->vs[i]? = some v->kindOf x≠some .local->
 bindC kindOf (P.zip vs) m x = some v
 | [],_,_,_,_,h,_,_=>by simp at h
 | _ :: _,[],_,_,_,_,h,_=>by simp at h
 | p :: P,w :: vs,0,m,nd,h1,h2,hk=>by
  simp at h1 h2;subst h1;subst h2
  show bindC kindOf ((p,w) :: P.zip vs) m p = _
  unfold bindC
  rw [bindC_out fun v hv=>(List.nodup_cons.mp nd).1 (List.of_mem_zip hv).1,if_neg hk]
  simp
 | p :: P,w :: vs,i + 1,m,nd,h1,h2,hk=>by
  unfold bindC
  exact bindC_get (i:=i) (List.nodup_cons.mp nd).2 (by simpa using h1) (by simpa using h2) hk
def start (N:List Str) (vs:List V):St:=vs.map some ++ List.replicate (N.length - vs.length) none
def cxOf (CX:CXT) (P:Program) (w:World) (K:PySem.W.Frag) (mg:Str->Option Value) (base:Heap) (N:List Str) (qual:Str) (scope:Scope) (f:Addr) (cd:Value) (A:Around) (outer:List Env) (s:Shared) (H:Hp) (E:XK):Cx where
 prog:=P
 w:=w
 K:=K
 mg:=mg
 base:=base
 A:=A.deeper (envOfC qual scope s.heap.objs.size f cd)
 N:=N
 s₀:=s
 H₀:=H
 env:=envOfC qual scope s.heap.objs.size f cd
 outer:=outer
 stack:=envOfC qual scope s.heap.objs.size f cd :: outer
 ex:=[]
 calm:=true
 fn:=fun _=>true
 pn:=[]
 xe:=fun e s'=>wpAny (model P w) (A.deeper (envOfC qual scope s.heap.objs.size f cd)) (leaving (envOfC qual scope s.heap.objs.size f cd) e) (fun _ s''=>CX outer H s E e s'') (fun e' s''=>CX outer H s E e' s'') s'
theorem cell_has {sc:Scope} (h:sc.names.lookup x = some .cell):∃ c,(cellsFrom n sc.names []).lookup x = some c:=by
 have q:=PySem.W.cellsFrom_some sc.names n [] (.inl h)
 exact Option.isSome_iff_exists.mp q
theorem inv_start {CX:CXT}{P:Program}{w:World}{K:PySem.W.Frag}{mg:Str->Option Value}{base:Heap}{N ps:List Str}{qual:Str}{scope:Scope}{f:Addr}{cd:Value}{A:Around}{outer:List Env}{s s1:Shared}{H:Hp}{E:XK}{us:List Value}{vs:List V}
 (S:FnScope N ps scope) (hd:A.handled = none) (e0:Env0 P w K mg base A outer s H) (hl:vs.length = ps.length) (r:Vals vs us)
 (x:InCallC s s.heap.objs.size (bindL (envOfC qual scope s.heap.objs.size f cd).kindOf (ps.zip us) fun _=>none) (cellsFrom (s.heap.objs.size + 1) scope.names []) (bindC (envOfC qual scope s.heap.objs.size f cd).kindOf (ps.zip us) fun _=>none) s1):
 Inv (cxOf CX P w K mg base N qual scope f cd A outer s H E) [] (start N vs) H s1:=by
 have hpl:ps.length<=N.length:=by have:=congrArg List.length S.pre;rw [List.length_take] at this;omega
 obtain⟨h1,tk,rfl,hk⟩:=x.done
 have noA:∀ b:Addr,b∉(cxOf CX P w K mg base N qual scope f cd A outer s H E).ex:=fun b z=>absurd (show b∈([]:List Addr) from z) (by simp)
 refine⟨⟨e0.mod,S.kind,rfl,rfl,Nat.le_refl _,fun y z c h1 h2=>?_,fun y hy=>?_,fun y c _ h=>?_,fun _=>hd,Around.frames_deeper e0.frames,.inr ⟨rfl,rfl⟩,fun b z=>absurd z (noA b),e0.bs,e0.bsz,fun b _ _=>noA b,fun b z=>absurd z (noA b),e0.funs,e0.frf⟩,
  rfl,e0.bare,Un.kept hk,⟨_,x.toInCall.ns,fun i y v h1 h2 h3=>?_⟩,fun y c h=>⟨_,x.cell y c h⟩,e0.hok.fresh (Nat.le_refl _),fun y c h=>?_,fun p hp=>absurd (show p∈([]:List (Addr×Obj)) from hp) (by simp),e0.hok.kept hk,?_⟩
 · exact name_of_addr x.apart (PySem.mem_of_lookup h1) (PySem.mem_of_lookup h2)
 · have hy:scope.names.lookup y = some .cell\/scope.names.lookup y = some .free:=hy
   rcases hy with hy | hy
   · exact cell_has hy
   · exact absurd rfl (S.nofree _ (PySem.mem_of_lookup hy))
 · exact Nat.le_of_lt (x.above y c (PySem.mem_of_lookup h))
 · have hi:i < vs.length:=by
    unfold start at h2
    by_cases hi:i < vs.length
    · exact hi
    · rw [List.getElem?_append_right (by simpa using hi)] at h2
      rw [List.getElem?_replicate] at h2
      split at h2 <;> cases h2
   have ha:vs[i]? = some v:=by
    unfold start at h2
    rw [List.getElem?_append_left (by simpa using hi),List.getElem?_map] at h2
    cases e:vs[i]? with
    | none=>rw [e] at h2;cases h2
    | some a=>rw [e] at h2;cases h2;rfl
   obtain⟨u,hu,rv⟩:=r.get ha
   have hp:ps[i]? = some y:=by
    rw [<- S.pre,List.getElem?_take_of_lt (by omega)];exact h1
   have ndP:ps.Nodup:=by rw [<- S.pre];exact S.nd.sublist (List.take_sublist _ _)
   refine⟨u,rv,?_⟩
   rcases S.par y (List.mem_of_getElem? hp) with k | k
   · exact .inl ⟨k,bindL_get ndP hp hu k⟩
   · obtain⟨c,e⟩:=cell_has (n:=s.heap.objs.size + 1) k
     refine .inr ⟨.inl k,c,e,?_⟩
     have q:=x.cell y c e
     rw [bindC_get ndP hp hu (by show scope.names.lookup y≠_;rw [k];decide)] at q
     exact q
 · exact e0.hok.fresh (Nat.le_of_lt (x.above y c (PySem.mem_of_lookup h)))
 · unfold start
   show _ = N.length
   rw [List.length_append,List.length_map,List.length_replicate]
   omega
theorem fn_of {CX:CXT}{P:Program}{w:World}{K:PySem.W.Frag}{mg:Str->Option Value}{base:Heap}{k:Nat}{f:Addr}{name qual:Str}{params:Arguments}{body:List Stmt}{scope:Scope}{dV kV doc pm cdv ct oc:Value}{an od:Option Addr}
 {osl:Array (Option Value)}{N ps:List Str}{sp:Sp} (lk:K.lookup f = some ⟨oc,od,.func (PySem.W.fnOf name qual params body scope dV kV doc pm an cdv ct),osl⟩) (hcd:PySem.W.codeIn K cdv qual = true) (S:FnScope N ps scope)
 (len:∀ vs H Q E,sp vs H Q E->vs.length = ps.length)
 (hbody:∀ (A:Around) (outer:List Env) (s:Shared) (H:Hp) (vs:List V) (Q:VK) (E:XK),Room k (A.deeper (envOfC qual scope s.heap.objs.size f cdv))->sp vs H Q E->
  ∃ t,PSs (cxOf CX P w K mg base N qual scope f cdv A outer s H E) body t/\t { nx:=fun _ H'=>Q .non H',rt:=Q } (start N vs) H):
 FnOk P w K mg base CX (k + 1) f (PySem.W.fnOf name qual params body scope dV kV doc pm an cdv ct) ps sp:=by
 refine⟨len,fun A outer s H args us vs Q E hr e0 hb r hsp=>?_⟩
 have hl:=len _ _ _ _ hsp
 have KX:K.In s.heap:=e0.mod.kin.keeps fun b o e=>(e0.bs b o e).1
 have lim:s.heap.NoLimit:=e0.mod.nolimit.keeps fun b o e=>(e0.bs b o e).1
 have hkind:∀ y∈ps.zip us,scope.names.lookup y.1 = some .local\/(scope.names.lookup y.1 = some .cell/\((cellsFrom (s.heap.objs.size + 1) scope.names []).lookup y.1).isSome = true):=fun⟨n,v⟩ hy=>by
  rcases S.par n (List.of_mem_zip hy).1 with q | q
  · exact .inl q
  · exact .inr ⟨q,PySem.W.cellsFrom_some _ _ _ (.inl q)⟩
 refine codeAny_call_function hr.depth (KX _ _ lk) rfl S.co S.gen rfl (PySem.W.codeRec_of KX hcd) (hb _ _ _ _ ?_)
 refine wpAny_newFunctionEnv_cells S.kind hkind fun env he s1 x=>?_
 subst he
 refine⟨lim.keeps x.toInCall.keep,codeAny_func ?_⟩
 obtain⟨t,ht,hq⟩:=hbody A outer s H vs Q E (hr.deeper _) hsp
 have I:Inv (cxOf CX P w K mg base N qual scope f cdv A outer s H E) [] (start N vs) H s1:=inv_start S hr.hd e0 hl r x
 refine wpAny_mono (ht [] s1 (start N vs) H _ I hq) (fun fl s' hs=>?_) fun e s' hs=>hs
 have fin:∀ {σ':St}{H':Hp}{v:V}{u:Value},Inv (cxOf CX P w K mg base N qual scope f cdv A outer s H E) [] σ' H' s'->RelV v u->Q v H'->CE outer P w H s Q u s':=
  fun {σ' H' v u} J rv q=>⟨v,H',J.os,J.bare,J.base,J.hok,rv,q⟩
 cases fl with
 | ret u=>
  obtain⟨v,σ',H',J,rv,q⟩:=hs
  exact fin J rv q
 | next=>
  obtain⟨σ',H',J,q⟩:=hs
  exact fin (v:=V.non) (u:=Value.none) J rfl q
 | brk=>
  obtain⟨_,_,_,q⟩:=hs
  exact False.elim q
 | cont=>
  obtain⟨_,_,_,q⟩:=hs
  exact False.elim q
section
variable {p pos:Pos}{id T:String}
def tCB (r:List V->Hp->VK->Prop) (t:TA):TE:=fun σ H Q=>t σ H fun vs H1=>r vs H1 Q
theorem pe_callB (hc:CallR X (.builtin id) r) (hg:Gl X x) (hm:X.mg x = none) (hv:bootBuiltins x = some (.builtin id)) (ha:PA X (e :: es) t) (hn:x≠"__name__":=by decide) (hdb:(x == ("__debug__" : Str)) = false:=by decide)
 (he:starEach (e :: es) X.env = (false,eval e X.env) :: starEach es X.env:=by rfl) (hpl:(backTo pos (starEach es X.env)).any (·.1) = false:=by rfl):PE X (.Call (.Name x p) (e :: es) [] pos) (tCB r t):=by
 intro pins s σ H Q I h
 refine wpAny_Call_Name_kw (ld_blt I hg hm hv ?_ hn hdb)
 exact PyProof.Rows.callWith_builtin1 (thn (ha pos pins s σ H _ I h) fun us s1 ⟨vs,H1,I1,r1,q1⟩=>hc pins s1 σ H1 vs us Q I1 r1 q1) he hpl
theorem pe_callTy (hc:CallR X (.type T) r) (hg:Gl X x) (hm:X.mg x = none) (hv:bootBuiltins x = some (.type T)) (ha:PA X (e :: es) t) (hn:x≠"__name__":=by decide) (hdb:(x == ("__debug__" : Str)) = false:=by decide)
 (he:starEach (e :: es) X.env = (false,eval e X.env) :: starEach es X.env:=by rfl) (hpl:(backTo pos (starEach es X.env)).any (·.1) = false:=by rfl):PE X (.Call (.Name x p) (e :: es) [] pos) (tCB r t):=by
 intro pins s σ H Q I h
 refine wpAny_Call_Name_kw (ld_blt I hg hm hv ?_ hn hdb)
 exact PyProof.Rows.callWith_type1 (thn (ha pos pins s σ H _ I h) fun us s1 ⟨vs,H1,I1,r1,q1⟩=>hc pins s1 σ H1 vs us Q I1 r1 q1) he hpl
end
end L2
namespace HT
open PySem PyProof.Rows
def lexLt:List Int->List Int->Bool
 | [],[]=>false
 | [],_ :: _=>true
 | _ :: _,[]=>false
 | x :: xs,y :: ys=>if x = y then lexLt xs ys else decide (x < y)
theorem lexLt_cons (x y:Int) (xs ys:List Int):lexLt (x :: xs) (y :: ys) = if x = y then lexLt xs ys else decide (x < y):=rfl
theorem lexLt_nil_nil:lexLt [] [] = false:=rfl
theorem lexLt_nil_cons (y:Int) (ys:List Int):lexLt [] (y :: ys) = true:=rfl
theorem lexLt_cons_nil (x:Int) (xs:List Int):lexLt (x :: xs) [] = false:=rfl
theorem eqAt_int (A:Around) (s:Shared) (a:Int) (t:Tok) (c:Int) (u:Tok):∃ e,SeqAt.EqAt A s (.int a t) (.int c u) e/\(e = true↔a = c):=
 ⟨_,SeqAt.EqAt.int_int a t c u,by simp⟩
theorem rcLt_int (A:Around) (s:Shared) (a:Int) (t:Tok) (c:Int) (u:Tok) (prog:Program) (w:World) (E:Value->Shared->Prop) (Q:Value->Shared->Prop) (h:Q (.bool (decide (a < c))) s):
 wpAny (model prog w) A (richCompare .Lt (.int a t) (.int c u)) Q E s:=
 (PyProof.Rows.lt_int h:wpAny _ A _ Q E s)
section
open PySem.SeqAt
open PySem.AutoSeq1 (wpAny_loadPart')
open PySem.MeetsSeq PySem.MeetsSeq2 PySem.MeetsSeq3
theorem tuple_lt_ints (l b:Addr) (items items2:Array Value) (n n2:Nat) (dd dd2:Option Addr) (sl sl2:Array (Option Value)) (ns ms:List Int) (hi:IntsAre items.toList ns) (hj:IntsAre items2.toList ms):
 Meets (Builtin.«tuple.__lt__» ⟨[.ref l,.ref b],[]⟩)
  (fun _ R s=>s.heap.get? l = some { cls:=.type "tuple",dict:=dd,data:=.seq items n,slots:=sl }/\s.heap.get? b = some { cls:=.type "tuple",dict:=dd2,data:=.seq items2 n2,slots:=sl2 }/\
   R (.ok (.ret (.bool (lexLt ns ms)))) s):=
 .of_wp fun prog w A R s h=>by
  obtain⟨hp,g,d,tk,os⟩:=s;obtain⟨hl,hb,h⟩:=h
  have f2:=AutoSeq1.sub_tuple_tuple
  have z1:items.size = ns.length:=by rw [<- hi.length];simp
  have z2:items2.size = ms.length:=by rw [<- hj.length];simp
  wp_walk using wpAny_loadPart' hl,wpAny_loadPart' hb,wpAny_forIn_list _ (fun rest b s'=>b.1 = none/\s' = ⟨hp,g,d,tk,os⟩/\∃ (vs ws:List Value) (ns' ms':List Int),rest = vs.zip ws/\
   IntsAre vs ns'/\IntsAre ws ms'/\ns'.length + items2.size = ms'.length + items.size/\R (.ok (.ret (.bool (lexLt ns' ms')))) ⟨hp,g,d,tk,os⟩) _
  case turn=>
   rintro⟨y,x⟩ rest b s' ⟨hb',rfl,vs,ws,ns',ms',hz,hvi,hwi,hlen,hR⟩
   cases hvi with
   | nil=>rw [List.zip_nil_left] at hz;cases hz
   | cons a t hvi'=>
    cases hwi with
    | nil=>rw [List.zip_nil_right] at hz;cases hz
    | cons c u hwi'=>
     rw [List.zip_cons_cons] at hz
     injection hz with hyx hrest
     injection hyx with hy hx
     subst hy hx
     rw [lexLt_cons] at hR
     simp only [List.length_cons] at hlen
     obtain⟨e,he,hiff⟩:=eqAt_int A.in1 ⟨hp,g,d,tk,os⟩ a t c u
     refine wpAny_bind (he prog w _ _ ?_)
     cases e with
     | true=>
      rw [if_pos (hiff.mp rfl)] at hR
      wp_walk
      exact⟨rfl,rfl,_,_,_,_,hrest,hvi',hwi',by omega,hR⟩
     | false=>
      rw [if_neg (fun q=>absurd (hiff.mpr q) Bool.false_ne_true)] at hR
      have hri:=rcLt_int A.in1 ⟨hp,g,d,tk,os⟩ a t c u prog w
      wp_walk using hri
      exact⟨_,rfl,by simpa using hR⟩
  case fin=>
   rintro⟨b1,b2⟩ s' ⟨hb',rfl,vs,ws,ns',ms',hz,hvi,hwi,hlen,hR⟩
   simp only at hb'
   subst hb'
   have hv:lexLt ns' ms' = decide (items.size < items2.size):=by
    cases hvi with
    | nil=>
     cases hwi with
     | nil=>
      simp only [List.length_nil] at hlen
      rw [lexLt_nil_nil]
      exact (decide_eq_false (by omega)).symm
     | cons c u hw=>
      simp only [List.length_nil,List.length_cons] at hlen
      rw [lexLt_nil_cons]
      exact (decide_eq_true (by omega)).symm
    | cons a t hv=>
     cases hwi with
     | nil=>
      simp only [List.length_nil,List.length_cons] at hlen
      rw [lexLt_cons_nil]
      exact (decide_eq_false (by omega)).symm
     | cons c u hw=>
      rw [List.zip_cons_cons] at hz
      cases hz
   rw [hv] at hR
   wp_walk
   exact⟨_,rfl,by simpa [Builtin.Tuple.tupleCompareSizes] using hR⟩
  case h=>
   exact⟨rfl,rfl,items.toList,items2.toList,ns,ms,rfl,hi,hj,by omega,h⟩
end
section
theorem lt_tupInts (hl:IsTup s.heap l items) (hb:IsTup s.heap b items2) (hi:IntsAre items.toList ns) (hj:IntsAre items2.toList ms)
 (hu:A.units < cLine) (h:Q (.bool (lexLt ns ms)) s):wpAny (model prog w) A (compareOp .Lt (.ref l) (.ref b)) Q E s:=by
 obtain⟨⟨cls,dd,data,sl⟩,ho,hc,n,hd⟩:=id hl
 obtain⟨⟨cls2,dd2,data2,sl2⟩,ho2,hc2,n2,hd2⟩:=id hb
 subst hc hd hc2 hd2
 exact richCompare_meets_room (op:=.Lt) ⟨_,ho,rfl⟩ ⟨_,ho2,rfl⟩ PySem.F.slot_tuple_lt PySem.F.entry_tuple_lt (PySem.F.args_tuple_lt_2 _ _) (tuple_lt_ints l b items items2 n n2 dd dd2 sl sl2 ns ms hi hj)
  ⟨ho,ho2,⟨(fun x=>nomatch x),h⟩⟩ hu
theorem cat_tup {t b:Addr}{vs ws:List Value}{Q:Value->Shared->Prop} (ht:IsTup s.heap t vs.toArray) (hb:IsTup s.heap b ws.toArray) (hv:vs≠[])
 (h1:ws = []->Q (.ref t) s) (h2:ws≠[]->Q (.ref s.heap.objs.size) { s with heap:=s.heap.push { cls:=.type "tuple",data:=.seq (vs ++ ws).toArray } })
 (hsz:vs.length + ws.length<=sizeLine):wpAny (model prog w) A (binaryOp .Add (.ref t) (.ref b)) Q E s:=by
 obtain⟨⟨cls,dd,data,sl⟩,ho,hc,n,hd⟩:=id ht
 obtain⟨⟨cls2,dd2,data2,sl2⟩,ho2,hc2,n2,hd2⟩:=id hb
 simp only at hc hd hc2 hd2
 subst hc hd hc2 hd2
 have e:vs.toArray ++ ws.toArray = (vs ++ ws).toArray:=by simp
 by_cases hw:ws = []
 · exact concat_meets ⟨_,ho,rfl⟩ ⟨_,ho2,rfl⟩ noFill_tuple_add seq_tuple_add PySem.F.slot_tuple_add PySem.F.entry_tuple_add (PySem.F.args_tuple_add_2 _ _)
    (tuple_addW1 t b vs.toArray ws.toArray n n2 dd dd2 sl sl2 (by simpa using hv) (by simp [hw])) ⟨ho,ho2,h1 hw⟩
 · refine concat_meets ⟨_,ho,rfl⟩ ⟨_,ho2,rfl⟩ noFill_tuple_add seq_tuple_add PySem.F.slot_tuple_add PySem.F.entry_tuple_add (PySem.F.args_tuple_add_2 _ _)
    (tuple_addW2 t b vs.toArray ws.toArray n n2 dd dd2 sl sl2 (by simpa using hv) (by simpa using hw) (by rw [List.size_toArray,List.size_toArray];exact hsz)) ⟨ho,ho2,?_⟩
   rw [e]
   exact h2 hw
def sIx (n d:Nat):Option Int->Nat
 | none=>d
 | some v=>if v < 0 then (v + (n:Int)).toNat else min v.toNat n
theorem sIx_none (n d:Nat):sIx n d none = d:=rfl
theorem sIx_nat (n d k:Nat):sIx n d (some (k:Int)) = min k n:=rfl
theorem sIx_le (n d:Nat) (hd:d<=n) (o:Option Int):sIx n d o<=n:=by
 cases o with
 | none=>exact hd
 | some v=>
  show (if v < 0 then (v + (n:Int)).toNat else min v.toNat n)<=n
  grind
theorem clip_eq (v:Int) (n d:Nat):(if v < 0 then max (v + (n:Int)) 0 else min v (n:Int)) = ((sIx n d (some v):Nat):Int):=by
 show _ = (((if v < 0 then (v + (n:Int)).toNat else min v.toNat n):Nat):Int)
 grind
theorem adjust_gen (lo hi:Option Int) (n:Nat):Builtin.Slice.sliceAdjust lo hi 1 (n:Int) = (((sIx n 0 lo:Nat):Int),((sIx n n hi:Nat):Int)):=by
 refine Prod.ext ?_ ?_
 · cases lo with
   | none=>rfl
   | some v=>exact clip_eq v n 0
 · cases hi with
   | none=>rfl
   | some v=>exact clip_eq v n n
theorem places_gen (i j:Nat):Builtin.Slice.slicePlaces (i:Int) (j:Int) 1 = j - i:=by
 unfold Builtin.Slice.slicePlaces
 grind
theorem slicePart_ (p:IsPart v o) (h:Q o s):wpAny (model prog w) A (Builtin.Slice.slicePartIndex v) Q E s:=by
 cases p with
 | none=>exact slicePart_none h
 | int i t=>exact slicePart_int h
theorem sliceApplied_gen {sl:Addr}{lo hi:Option Int}{n:Nat} (hs:s.heap.IsSliceOf sl vl vu .none) (pl:IsPart vl lo) (pu:IsPart vu hi)
 (h:Q (((sIx n 0 lo:Nat):Int),1,sIx n n hi - sIx n 0 lo) s):wpAny (model prog w) A (Builtin.Slice.sliceApplied (.ref sl) (pure (n:Int))) Q E s:=by
 obtain⟨os,hos,hcs,hds⟩:=id hs
 refine wpAny_bind (wpAny_bind (wpAny_field hos hds (x:=vl) rfl (wpAny_bind (wpAny_field hos hds (x:=vu) rfl (wpAny_bind (wpAny_field hos hds (x:=.none) rfl (wpAny_pure ?_)))))))
 refine wpAny_bind (slicePart_none ?_)
 refine wpAny_bind (slicePart_ pl (wpAny_bind (slicePart_ pu (wpAny_bind (wpAny_pure ?_)))))
 show wpAny _ _ (match Builtin.Slice.sliceAdjust lo hi 1 (n:Int) with | (lo,hi)=>pure (lo,(1:Int),Builtin.Slice.slicePlaces lo hi 1)) _ _ s
 rw [adjust_gen lo hi n]
 show wpAny _ _ (pure (((sIx n 0 lo:Nat):Int),(1:Int),Builtin.Slice.slicePlaces ((sIx n 0 lo:Nat):Int) ((sIx n n hi:Nat):Int) 1)) _ _ s
 rw [places_gen]
 exact wpAny_pure h
theorem pick_gen (xs:Array Value) (i k:Nat):((List.range k).filterMap fun (m:Nat)=>xs[((i:Int) + (m:Int) * 1).toNat]?).toArray = ((xs.toList.drop i).take k).toArray:=by
 have e:(fun (m:Nat)=>xs[((i:Int) + (m:Int) * 1).toNat]?) = fun m=>xs[i + m]?:=by grind
 have:=pick_run xs i k
 have e2:(_ ∘ fun x=>i + x) = fun m=>xs[i + m]?:=rfl
 simp_all
theorem getItem_tuple_cut {t sl:Addr}{items:Array Value}{vl vu:Value}{lo hi:Option Int}{Q:Value->Shared->Prop} (ht:IsTup s.heap t items) (hs:s.heap.IsSliceOf sl vl vu .none) (pl:IsPart vl lo) (pu:IsPart vu hi)
 (hw:¬ (sIx items.size 0 lo = 0/\sIx items.size items.size hi = items.size))
 (h:Q (.ref s.heap.objs.size) { s with heap:=s.heap.push { cls:=.type "tuple",data:=.seq ((items.toList.drop (sIx items.size 0 lo)).take (sIx items.size items.size hi - sIx items.size 0 lo)).toArray } })
 (hsz:items.size<=sizeLine):wpAny (model prog w) A (getItem (.ref t) (.ref sl)) Q E s:=by
 have htake:sizeOk (.seq ((items.toList.drop (sIx items.size 0 lo)).take (sIx items.size items.size hi - sIx items.size 0 lo)).toArray):=by
  show ((items.toList.drop (sIx items.size 0 lo)).take (sIx items.size items.size hi - sIx items.size 0 lo)).toArray.size<=sizeLine
  rw [List.size_toArray,List.length_take,List.length_drop,Array.length_toList]
  omega
 have hj:sIx items.size items.size hi<=items.size:=sIx_le _ _ (Nat.le_refl _) hi
 obtain⟨os,hos,hcs,hds⟩:=id hs
 have hTs:s.TypeIs (.ref sl) "slice":=⟨os,hos,hcs⟩
 unfold getItem
 try with_reducible refine wpAny_holding ?_
 first | refine wpAny_bind (wpAny_pure ?_) | skip
 refine wpAny_bind (wpAny_sequenceKey ht.typeIs (by decide) ?_)
 refine wpAny_bind (wpAny_callSpecial?_slot (name:=Str.ofString "__getitem__") ht.typeIs PyProof.Rows.slot_tuple_getitem
  (wpAny_call_entry PyProof.Rows.slot_tuple_getitem ht.typeIs entry_tuple_getitem ?_ (args_tuple_getitem _ _)))
 show wpAny _ _ (Builtin.Tuple.tupleItemsOf (.ref t) >>= _) _ _ s
 refine wpAny_bind (tupleItemsOf_ ht ?_)
 refine wpAny_bind (wpAny_typeOf hTs ?_)
 rw [if_pos (by decide)]
 refine wpAny_bind (sliceApplied_gen hs pl pu ?_)
 have hno:¬ ((((sIx items.size 0 lo:Nat):Int) == 0 && (1:Int) == 1 && (sIx items.size items.size hi - sIx items.size 0 lo) == items.size) = true):=by grind
 show wpAny _ _ (if (((sIx items.size 0 lo:Nat):Int) == 0 && (1:Int) == 1 && (sIx items.size items.size hi - sIx items.size 0 lo) == items.size) = true then _ else _) _ _ s
 rw [if_neg hno,pick_gen]
 first
  | exact wpAny_bind (m:=Builtin.Tuple.tupleExact _) (wpAny_newObj_type (wpAny_pure ⟨_,rfl,wpAny_pure h⟩) htake)
  | exact wpAny_bind (m:=Builtin.Tuple.tupleExact _) (wpAny_newObj_type (wpAny_bind (wpAny_pure (wpAny_pure ⟨_,rfl,wpAny_pure h⟩))) htake)
  | exact wpAny_bind (wpAny_bind (m:=Builtin.Tuple.tupleExact _) (wpAny_newObj_type (wpAny_pure (wpAny_pure ⟨_,rfl,wpAny_pure h⟩)) htake))
  | exact wpAny_bind (wpAny_bind (m:=Builtin.Tuple.tupleExact _) (wpAny_newObj_type (wpAny_pure ⟨_,rfl,wpAny_pure h⟩) htake))
end
end HT
namespace L2
open PySem PySem.Spec PyProof.Rows
abbrev TO:=St->Hp->(Option Int->Hp->Prop)->Prop
def PO (X:Cx) (e:Option Expr) (t:TO):Prop:=
 ∀ (pins:List (Addr×Obj)) (s:Shared) (σ:St) (H:Hp) (Q:Option Int->Hp->Prop),Inv X pins σ H s->t σ H Q->
  wpAny (model X.prog X.w) X.A (evalPart e X.env) (fun u s'=>∃ o H',Inv X pins σ H' s'/\IsPart u o/\Q o H') X.xe s
def tNoPart:TO:=fun _ H Q=>Q none H
def tPart (t:TE):TO:=fun σ H Q=>t σ H fun x H1=>∃ i,x = .int i/\Q (some i) H1
theorem intsAre_of:∀ {us:List Value},Vals (ns.map V.int) us->IntsAre us ns:=by
 induction ns with
 | nil=>intro us r;cases r;exact .nil
 | cons n ns ih=>
  intro us r
  cases r with
  | cons r1 r2=>
   obtain⟨t,e⟩:=r1
   subst e
   exact .cons n t (ih r2)
section
variable {lo hi:Option Expr}
theorem po_none:PO X none tNoPart:=by
 intro pins s σ H Q I h
 exact wpAny_pure ⟨none,H,I,.none,h⟩
theorem po_some (h:PE X e te):PO X (some e) (tPart te):=by
 intro pins s σ H Q I hw
 refine thn (h pins s σ H _ I hw) fun u s1 ⟨x,H1,I1,r1,q1⟩=>?_
 obtain⟨i,rfl,q⟩:=q1
 obtain⟨t,rfl⟩:=r1
 exact⟨some i,H1,I1,.int i t,q⟩
def SlR (X:Cx) (r:V->Option Int->Option Int->Hp->VK->Prop):Prop:=
 ∀ (pins:List (Addr×Obj)) (s:Shared) (σ:St) (H:Hp) (x:V) (v vl vu:Value) (lo hi:Option Int) (sl:Addr) (Q:VK),Inv X pins σ H s->RelV x v->s.heap.IsSliceOf sl vl vu .none->IsPart vl lo->IsPart vu hi->r x lo hi H Q->
  ∃ T id,typeLookup (.type T) "__getitem__" = pure (some (.builtin id))/\s.TypeIs v T/\wpAny (model X.prog X.w) X.A (getItem v (.ref sl)) (EP X pins σ Q) X.xe s
def tSl (r:V->Option Int->Option Int->Hp->VK->Prop) (te:TE) (tl th:TO):TE:=fun σ H Q=>te σ H fun x H1=>tl σ H1 fun l H2=>th σ H2 fun u H3=>r x l u H3 Q
theorem pe_slice {r:V->Option Int->Option Int->Hp->VK->Prop} (hr:SlR X r) (he:PE X e te) (hl:PO X lo tl) (hu:PO X hi th):PE X (.Subscript e (.Slice lo hi none p2) pos) (tSl r te tl th):=by
 intro pins s σ H Q I h
 refine Subscript_ (thn (he pins s σ H _ I h) fun v s1 ⟨x,H1,I1,r1,q1⟩=>?_)
 refine wpAny_Slice (thn (hl pins s1 σ H1 _ I1 q1) fun vl s2 ⟨l,H2,I2,pl,q2⟩=>thn (hu pins s2 σ H2 _ I2 q2) fun vu s3 ⟨u,H3,I3,pu,q3⟩=>?_)
 rw [evalPart_none]
 refine wpAny_pure ?_
 have I4:Inv X pins σ H3 { s3 with heap:=s3.heap.push { cls:=.type "slice",data:=.fields #[vl,vu,.none] } }:=I3.kept (t':=s3.toks) fun b ob q=>Heap.get?_push_of_some _ q
 obtain⟨T,id,hT,ht,hg⟩:=hr pins { s3 with heap:=s3.heap.push { cls:=.type "slice",data:=.fields #[vl,vu,.none] } } σ H3 x v vl vu l u s3.heap.objs.size Q I4 r1 (Heap.IsSliceOf.new ..) pl pu q3
 show wpAny (model X.prog X.w) X.A (subscriptTail e (.Slice lo hi none p2) v (.ref s3.heap.objs.size)) (EP X pins σ Q) X.xe { s3 with heap:=s3.heap.push { cls:=.type "slice",data:=.fields #[vl,vu,.none] } }
 exact tail_any (ops:=[.ref s3.heap.objs.size,v]) ht hT hg (by with_unfolding_all rfl)
def cutV (xs:List V) (lo hi:Option Int):List V:=(xs.drop (HT.sIx xs.length 0 lo)).take (HT.sIx xs.length xs.length hi - HT.sIx xs.length 0 lo)
theorem cutV_length (xs:List V) (lo hi:Option Int):(cutV xs lo hi).length<=xs.length:=by
 unfold cutV
 simp;omega
def rSlT (K:PySem.W.Frag):V->Option Int->Option Int->Hp->VK->Prop:=fun x lo hi H Q=>∃ a xs,x = .ref a/\SqT K H a xs/\
 ¬ (HT.sIx xs.length 0 lo = 0/\HT.sIx xs.length xs.length hi = xs.length)/\∀ p,H p = none->Q (.ref p) (upd H p (.tup (cutV xs lo hi)))
theorem sl_tup:SlR X (rSlT X.K):=by
 intro pins s σ H x v vl vu lo hi sl Q I rx hs pl pu h
 obtain⟨a,xs,rfl,hx,hw,q⟩:=h
 cases rx
 obtain⟨its,r,ht,hz⟩:=I.tuple hx
 have hlen:its.toArray.size = xs.length:=by rw [List.size_toArray];exact r.length.symm
 refine⟨"tuple",_,PyProof.Rows.slot_tuple_getitem.lookup,ht.typeIs,?_⟩
 refine HT.getItem_tuple_cut ht hs pl pu (by rw [hlen];exact hw) ?_ (by rw [hlen];exact hz)
 rw [hlen]
 refine⟨.ref s.heap.objs.size,_,I.laid (t':=s.toks) (o:=.tup (cutV xs lo hi)) (fun b ob q=>Heap.get?_push_of_some _ q) (Nat.le_refl _) ?_,rfl,q _ (I.hok.fresh (Nat.le_refl _))⟩
 exact⟨Nat.le_trans (cutV_length xs lo hi) hz,_,(r.drop (HT.sIx xs.length 0 lo)).take (HT.sIx xs.length xs.length hi - HT.sIx xs.length 0 lo),IsTupB.new _ _⟩
def rCatT (K:PySem.W.Frag):R2:=fun x y H Q=>∃ a b xs ys,x = .ref a/\y = .ref b/\SqT K H a xs/\SqT K H b ys/\xs≠[]/\xs.length + ys.length<=sizeLine/\
 (ys = []->Q (.ref a) H)/\(ys≠[]->∀ p,H p = none->Q (.ref p) (upd H p (.tup (xs ++ ys))))
theorem Vals.nil_iff (r:Vals xs us):us = []↔xs = []:=by
 cases r with
 | nil=>simp
 | cons _ _=>simp
theorem op_catT:OpR X (binaryOp .Add) (rCatT X.K):=by
 intro pins s σ H x y v u Q I rx ry h
 obtain⟨a,b,xs,ys,rfl,rfl,ha,hb,hx,hz,q1,q2⟩:=h
 cases rx
 cases ry
 obtain⟨its,r1,p1,_⟩:=I.tuple ha
 obtain⟨its2,r2,p2,_⟩:=I.tuple hb
 refine HT.cat_tup p1 p2 (fun z=>hx (r1.nil_iff.mp z)) (fun z=>⟨.ref a,H,I,rfl,q1 (r2.nil_iff.mp z)⟩) (fun z=>?_) (by rw [<- r1.length,<- r2.length];exact hz)
 refine⟨.ref s.heap.objs.size,_,I.laid (t':=s.toks) (o:=.tup (xs ++ ys)) (fun b ob q=>Heap.get?_push_of_some _ q) (Nat.le_refl _) ?_,rfl,q2 (fun w=>z (r2.nil_iff.mpr w)) _ (I.hok.fresh (Nat.le_refl _))⟩
 exact⟨by rw [List.length_append];exact hz,_,r1.append r2,IsTupB.new _ _⟩
end
def ixN (n:Nat) (i:Int):Option Nat:=if 0<=i then (if i < n then some i.toNat else none) else if -(n:Int)<=i then some (i + n).toNat else none
def atI {α:Type} (xs:List α) (i:Int):Option α:=(ixN xs.length i).bind fun j=>xs[j]?
theorem ixN_seq (h:ixN n i = some j):seqIndex? i n = some j/\j < n/\-(n:Int)<=i/\i < n:=by
 unfold ixN at h
 by_cases h0:0<=i
 · rw [if_pos h0] at h
   by_cases h1:i < n
   · rw [if_pos h1] at h
     have e:i.toNat = j:=Option.some.inj h
     exact⟨by rw [seqIndex_of h0 h1,e],by omega,by omega,h1⟩
   simp_all
 · rw [if_neg h0] at h
   by_cases h1:-(n:Int)<=i
   · rw [if_pos h1] at h
     have e:=Option.some.inj h
     exact⟨by rw [seqIndex_neg (by omega) h1,e],by omega,h1,by omega⟩
   grind
theorem atI_get {v:α} (h:atI xs i = some v):∃ j,seqIndex? i xs.length = some j/\xs[j]? = some v/\j < xs.length/\-(xs.length:Int)<=i/\i < xs.length:=by
 unfold atI at h
 cases e:ixN xs.length i with
 | none=>simp_all
 | some j=>
  obtain⟨h1,h2,h3,h4⟩:=ixN_seq e
  simp_all
theorem atI_nat {j:Nat}{v:α} (h:xs[j]? = some v):atI xs (j:Int) = some v:=by
 have hj:=(List.getElem?_eq_some_iff.mp h).1
 have e:ixN xs.length (j:Int) = some j:=by
  unfold ixN
  simp_all
 unfold atI;grind
def PlainIx (b:Expr):Prop:=∀ o i,subscripted b false o i = operate [o,i] (getItem o i)
def IxR (X:Cx) (r:R2):Prop:=
 ∀ (value slice:Expr) (pins:List (Addr×Obj)) (s:Shared) (σ:St) (H:Hp) (x y:V) (v u:Value) (Q:VK),Inv X pins σ H s->RelV x v->RelV y u->r x y H Q->
  subscripted slice false v u = operate [v,u] (getItem v u)->wpAny (model X.prog X.w) X.A (subscriptTail value slice v u) (EP X pins σ Q) X.xe s
def MtR (X:Cx) (id:String) (r:V->List V->Hp->VK->Prop):Prop:=
 ∀ (pins:List (Addr×Obj)) (s:Shared) (σ:St) (H:Hp) (x:V) (xs:List V) (v:Value) (us:List Value) (Q:VK),Inv X pins σ H s->RelV x v->Vals xs us->r x xs H Q->
  wpAny (model X.prog X.w) X.A (call (.builtin id) (v :: us)) (EP X pins σ Q) X.xe s
section
theorem IxR.or (h:IxR X r) (h':IxR X r'):IxR X (fun x y H Q=>r x y H Q\/r' x y H Q):=by
 intro value slice pins s σ H x y v u Q I rx ry q hs
 rcases q with q | q
 · exact h value slice pins s σ H x y v u Q I rx ry q hs
 · exact h' value slice pins s σ H x y v u Q I rx ry q hs
theorem pe_ix {r:R2} (hr:IxR X r) (ha:PE X a ta) (hb:PE X b tb) (hs:PlainIx b):PE X (.Subscript a b pos) (tOp r ta tb):=by
 intro pins s σ H Q I h
 exact Subscript_ (binT ha hb I h fun v u s2 x y H2 I2 rx ry q=>hr a b pins s2 σ H2 x y v u Q I2 rx ry q (hs _ _))
def rIxL (K:PySem.W.Frag):R2:=fun x y H Q=>∃ p xs i v,x = .ref p/\y = .int i/\SqL K H p xs/\atI xs i = some v/\Q v H
def rIxT (K:PySem.W.Frag):R2:=fun x y H Q=>∃ p xs i v,x = .ref p/\y = .int i/\SqT K H p xs/\atI xs i = some v/\Q v H
def rIxS:R2:=fun x y H Q=>∃ z i c,x = .str z/\y = .int i/\z.length<=sizeLine/\atI z.cps.toList i = some c/\Q (.str ⟨#[c]⟩) H
theorem ix_list:IxR X (rIxL X.K):=by
 intro value slice pins s σ H x y v u Q I rx ry h hs
 obtain⟨p,xs,i,z,rfl,rfl,hq,he,q⟩:=h
 cases rx
 obtain⟨t,rfl⟩:=ry
 obtain⟨its,r,pl,hz⟩:=I.list hq
 obtain⟨j,h1,h2,h3,h4,h5⟩:=atI_get he
 obtain⟨w,ew,rw'⟩:=r.get h2
 have hl:=r.length
 have hn:=line63
 have fin:EP X pins σ Q w s:=⟨z,H,I,rw',q⟩
 by_cases h0:0<=i
 · have hj:i.toNat = j:=by
    rw [seqIndex_of h0 h5] at h1
    exact Option.some.inj h1
   exact item_listR pl.isList h0 (by omega) (by rw [hj];simpa using ew) fin hs
 · have hj:(i + (its.toArray.size:Int)).toNat = j:=by
    rw [seqIndex_neg (by omega) h4] at h1
    simp_all
   exact subscriptTail_builtinR (x:=w) pl.isList.typeIs slot_list_getitem.lookup
    (wpAny_getItem_list_neg pl.isList (by omega) (by rw [List.size_toArray] <;> omega) (by omega) (by rw [hj];simpa using ew) ⟨rfl,fin⟩) hs
theorem ix_tup:IxR X (rIxT X.K):=by
 intro value slice pins s σ H x y v u Q I rx ry h hs
 obtain⟨p,xs,i,z,rfl,rfl,hq,he,q⟩:=h
 cases rx
 obtain⟨t,rfl⟩:=ry
 obtain⟨its,r,pl,hz⟩:=I.tuple hq
 obtain⟨j,h1,h2,h3,h4,h5⟩:=atI_get he
 obtain⟨w,ew,rw'⟩:=r.get h2
 have hl:=r.length
 have hn:=line63
 have fin:EP X pins σ Q w s:=⟨z,H,I,rw',q⟩
 exact subscriptTail_builtinR pl.typeIs slot_tuple_getitem.lookup
  (getItem_tuple (j:=j) pl (by omega) (by omega) (by simp_all) (by simp_all) ⟨rfl,fin⟩) hs
theorem ix_str:IxR X rIxS:=by
 intro value slice pins s σ H x y v u Q I rx ry h hs
 obtain⟨z,i,c,rfl,rfl,hz,he,q⟩:=h
 obtain⟨t,rfl⟩:=rx
 obtain⟨t',rfl⟩:=ry
 obtain⟨j,h1,h2,h3,h4,h5⟩:=atI_get he
 have hl:z.cps.toList.length = z.length:=by rfl
 have hn:=line63
 exact tail_any (typeIs_str s z t) slot_str_getitem.lookup (getItem_str (by grind) (by grind) ⟨.str _,H,I.tok _,⟨_,rfl⟩,q⟩) hs
def rIx (K:PySem.W.Frag):R2:=fun x y H Q=>rIxL K x y H Q\/rIxT K x y H Q\/rIxS x y H Q
theorem ix_seq:IxR X (rIx X.K):=ix_list.or (ix_tup.or ix_str)
theorem mapSeq_set (its:List Value) (n j:Nat) (u:Value):Obj.mapSeq (·.setIfInBounds j u) { cls:=.type "list",data:=.seq its.toArray n } = { cls:=.type "list",data:=.seq (its.set j u).toArray n }:=by
 simp [Obj.mapSeq]
theorem Inv.lst {σ:St} (I:Inv X pins σ H s) (h:H p = some (.lst xs)):
 ∃ (its:List Value) (n:Nat),Vals xs its/\s.heap.get? p = some { cls:=.type "list",data:=.seq its.toArray n }/\xs.length<=sizeLine:=by
 obtain⟨z,its,n,r,e⟩:=I.hok p _ h
 exact⟨its,n,r,e,z⟩
theorem Inv.lstUpd {pins:List (Addr×Obj)}{σ:St}{H:Hp}{s:Shared}{p:Addr}{xs ys:List V}{its its':List Value}{n n':Nat}{f:Obj->Obj} (I:Inv X pins σ H s) (h:H p = some (.lst xs))
 (ho:s.heap.get? p = some { cls:=.type "list",data:=.seq its.toArray n }) (hf:f { cls:=.type "list",data:=.seq its.toArray n } = { cls:=.type "list",data:=.seq its'.toArray n' }) (r:Vals ys its') (hz:ys.length<=sizeLine) (t:Nat):
 Inv X pins σ (upd H p (.lst ys)) { s with heap:=s.heap.update p f,toks:=t }:=by
 have e:(s.heap.update p f).get? p = some { cls:=.type "list",data:=.seq its'.toArray n' }:=by
  rw [Heap.get?_update_self f ho (by rw [hf] <;> rfl),hf]
 refine I.write (x:=p) (e:=p) (by rw [h];trivial) (.inl rfl) (fun b u hb q=>(Heap.get?_update_other _ _ (Ne.symm hb)).trans q) ⟨_,e⟩ ?_
 exact⟨hz,its',n',r,e⟩
def rSetL:V->V->V->Hp->(Hp->Prop)->Prop:=fun o i v H Q=>∃ p xs k j,o = .ref p/\i = .int k/\H p = some (.lst xs)/\ixN xs.length k = some j/\Q (upd H p (.lst (xs.set j v)))
theorem set_list:PSet X rSetL:=by
 intro pins s σ H o i v ov iv u Q I ro ri rv h
 obtain⟨p,xs,k,j,rfl,rfl,hp,hj,q⟩:=h
 cases ro
 obtain⟨t,rfl⟩:=ri
 obtain⟨its,n,r,ho,hz⟩:=I.lst hp
 obtain⟨h1,h2,h3,h4⟩:=ixN_seq hj
 have hl:=r.length
 have hn:=line63
 have I':=
  I.lstUpd hp ho (mapSeq_set its n j u) (r.set rv j) (by rw [List.length_set];exact hz) s.toks
 by_cases h0:0<=k
 · have hk:k.toNat = j:=by
    rw [seqIndex_of h0 h4] at h1
    exact Option.some.inj h1
   exact PySem.W.ki_setAt ho h0 (by omega) (by simp_all) (by rw [hk];exact⟨_,I',q⟩)
 · have hk:(k + (its.toArray.size:Int)).toNat = j:=by
    rw [seqIndex_neg (by omega) h3] at h1
    grind
   exact PySem.W.ki_setBack ho (by omega) (by rw [List.size_toArray,<- hl];exact h3) (by omega) (by rw [hk];exact⟨_,I',q⟩)
theorem slice_bounds (lo hi:Option Int) (n:Nat):(sliceBounds lo hi none n).1 = ((HT.sIx n 0 lo:Nat):Int)/\(sliceBounds lo hi none n).2.1 = ((HT.sIx n n hi:Nat):Int)/\(sliceBounds lo hi none n).2.2 = 1:=by
 refine⟨?_,?_,rfl⟩
 · cases lo with
   | none=>rfl
   | some i=>
    simp only [sliceBounds,HT.sIx,Option.getD_none,show (1:Int) > 0 by decide,if_true]
    by_cases h:i < 0
    · simp only [h,if_true] <;> omega
    · simp only [h,if_false] <;> omega
 · cases hi with
   | none=>simp [sliceBounds,HT.sIx]
   | some i=>
    simp only [sliceBounds,HT.sIx,Option.getD_none,show (1:Int) > 0 by decide,if_true]
    by_cases h:i < 0
    · simp only [h,if_true] <;> omega
    · simp only [h,if_false] <;> omega
theorem slicePick_cut (its:List Value) (lo hi:Option Int):slicePick its.toArray lo hi none = ((its.drop (HT.sIx its.length 0 lo)).take (HT.sIx its.length its.length hi - HT.sIx its.length 0 lo)).toArray:=by
 obtain⟨h1,h2,h3⟩:=slice_bounds lo hi its.toArray.size
 unfold slicePick
 rw [h1,h2,h3]
 simp only [sliceRange_one,pick_run,List.size_toArray] <;> rfl
def rSlL (K:PySem.W.Frag):V->Option Int->Option Int->Hp->VK->Prop:=fun x lo hi H Q=>∃ a xs,x = .ref a/\SqL K H a xs/\∀ p,H p = none->Q (.ref p) (upd H p (.lst (cutV xs lo hi)))
theorem sl_list:SlR X (rSlL X.K):=by
 intro pins s σ H x v vl vu lo hi sl Q I rx hs pl pu h
 obtain⟨a,xs,rfl,hx,q⟩:=h
 cases rx
 obtain⟨its,r,ht,hz⟩:=I.list hx
 have hlen:=r.length
 refine⟨"list",_,slot_list_getitem.lookup,ht.isList.typeIs,?_⟩
 refine wpAny_getItem_list_slice ht.isList hs pl pu .none (by simp) ?_ (by grind)
 rw [slicePick_cut,<- hlen]
 refine⟨.ref s.heap.objs.size,_,I.laid (fun b ob q=>Heap.get?_push_of_some _ q) (Nat.le_refl _) ?_,rfl,q _ (I.hok.fresh (Nat.le_refl _))⟩
 exact⟨Nat.le_trans (cutV_length xs lo hi) hz,_,0,(r.drop _).take _,Heap.get?_push_size _ rfl⟩
theorem call_len_seq:CallR X (.builtin "len") (fun xs H Q=>∃ p ys,xs = [.ref p]/\(SqL X.K H p ys\/SqT X.K H p ys)/\Q (.int ys.length) H):=by
 intro pins s σ H xs us Q I r h
 obtain⟨p,ys,rfl,hq,q⟩:=h
 obtain⟨u,rfl,rx⟩:=vals1 r
 cases rx
 have hn:=line63
 rcases hq with hq | hq
 · obtain⟨its,r',pl,hz⟩:=I.list hq
   have hlen:=r'.length
   exact Calls.call_len_list pl.isList (by simp only [List.size_toArray] <;> omega) ⟨.int ys.length,H,I.tok _,⟨s.toks + 1,by grind⟩,q⟩
 · obtain⟨its,r',pl,hz⟩:=I.tuple hq
   have hlen:=r'.length
   exact len_tuple pl (by simp only [List.size_toArray] <;> omega) ⟨.int ys.length,H,I.tok _,⟨s.toks + 1,by grind⟩,q⟩
theorem call_len_str:CallR X (.builtin "len") (fun xs H Q=>∃ z,xs = [.str z]/\z.length<=sizeLine/\Q (.int z.length) H):=by
 intro pins s σ H xs us Q I r h
 obtain⟨z,rfl,hz,q⟩:=h
 obtain⟨u,rfl,t,rfl⟩:=vals1 r
 have hn:=line63
 exact len_str (by omega) ⟨.int z.length,H,I.tok _,⟨_,rfl⟩,q⟩
theorem call_tuple_of:CallR X (.type "tuple") (fun xs H Q=>∃ p ys,xs = [.ref p]/\((SqL X.K H p ys/\∀ l,H l = none->Q (.ref l) (upd H l (.tup ys)))\/(SqT X.K H p ys/\Q (.ref p) H))):=by
 intro pins s σ H xs us Q I r h
 obtain⟨p,ys,rfl,h⟩:=h
 obtain⟨u,rfl,rx⟩:=vals1 r
 cases rx
 rcases h with ⟨hq,q⟩ | ⟨hq,q⟩
 · obtain⟨its,r',pl,hz⟩:=I.list hq
   have hlen:=r'.length
   refine call_tuple_list pl.isList (fun h' kp=>?_) (by simp only [List.size_toArray] <;> omega)
   have I1:Inv X pins σ H { s with heap:=h' }:=I.kept (t':=s.toks) kp
   have I2:Inv X pins σ (upd H h'.objs.size (.tup ys)) { s with heap:=h'.push { cls:=.type "tuple",data:=.seq its.toArray } }:=
    I1.laid (t':=s.toks) (fun b o e=>Heap.get?_push_of_some _ e) (Nat.le_refl _) (show ObjOk X.prog X.w _ _ _ (.tup ys) from ⟨hz,its,r',IsTupB.new _ _⟩)
   exact⟨.ref h'.objs.size,_,I2,rfl,q _ (I1.hok.fresh (Nat.le_refl _))⟩
 · obtain⟨its,r',pl,hz⟩:=I.tuple hq
   exact call_tuple_same pl ⟨.ref p,H,I,rfl,q⟩
def tyV (K:PySem.W.Frag) (T:String) (x:V) (H:Hp):Prop:=match x with
 | .str _=>T = "str"
 | .int _=>T = "int"
 | .ref p=>(T = "list"/\∃ xs,SqL K H p xs)\/(T = "tuple"/\∃ o,K.lookup p = some o/\o.cls = .type "tuple"/\o.dict = none)\/
  (T = "dict"/\((∃ kvs,H p = some (.dK kvs))\/∃ kvs,H p = some (.dT kvs)))\/(T = "set"/\∃ S n,H p = some (.set S n))
 | _=>False
theorem tyV_is {σ:St}{H:Hp}{s:Shared}{T:String}{x:V}{v:Value} (I:Inv X pins σ H s) (r:RelV x v) (ty:tyV X.K T x H):
 s.TypeIs v T/\∀ a,v = .ref a->∃ ob,s.heap.get? a = some ob/\ob.dict = none:=by
 cases x with
 | str z=>
  obtain⟨t,rfl⟩:=r
  cases (show T = "str" from ty)
  exact⟨typeIs_str s z t,fun _ e=>nomatch e⟩
 | int i=>
  obtain⟨t,rfl⟩:=r
  cases (show T = "int" from ty)
  exact⟨typeIs_int s i t,fun _ e=>nomatch e⟩
 | ref p=>
  cases r
  rcases ty with ⟨rfl,xs,hq⟩ | ⟨rfl,o,hk,hc,hd⟩ | ⟨rfl,hk⟩ | ⟨rfl,S,n,hk⟩
  · obtain⟨its,_,pl,_⟩:=I.list hq
    refine⟨pl.isList.typeIs,fun a e=>?_⟩
    cases e
    obtain⟨o,n,e,c,hd,_⟩:=pl
    exact⟨o,e,hd⟩
  · refine⟨⟨o,I.kIn p o hk,hc⟩,fun a e=>?_⟩
    cases e
    exact⟨o,I.kIn _ o hk,hd⟩
  · have z:∃ o,s.heap.get? p = some o/\o.ExactDict:=by
     rcases hk with ⟨kvs,hk⟩ | ⟨kvs,hk⟩
     · obtain⟨_,_,_,_,o,_,_,e,ex,_⟩:=I.hok p _ hk
       exact⟨o,e,ex⟩
     · obtain⟨_,_,_,_,o,_,_,e,ex,_⟩:=I.hok p _ hk
       exact⟨o,e,ex⟩
    obtain⟨o,e,ex⟩:=z
    refine⟨⟨o,e,ex.1⟩,fun a e2=>?_⟩
    cases e2
    exact⟨o,e,ex.2.1⟩
  · obtain⟨o,_,_,_,e,ex,_⟩:=I.hok p _ hk
    refine⟨⟨o,e,ex.1⟩,fun a e2=>?_⟩
    cases e2
    exact⟨o,e,ex.2.1⟩
 | _=>exact False.elim ty
def tBM (K:PySem.W.Frag) (T:String) (r:V->List V->Hp->VK->Prop) (to:TE) (t:TA):TE:=fun σ H Q=>to σ H fun x H1=>tyV K T x H1/\t σ H1 fun xs H2=>r x xs H2 Q
variable {apos cpos:Pos}{T id:String}
theorem pe_bm (pa:PlainAttrs T) (slot:Slot T name id) (hty:typeOf (.builtin id) = pure (.type "method_descriptor")) (hm:MtR X id r) (ho:PE X o to) (ha:PA X (e :: es) t)
 (hbase:attributeBase o name X.env (eval o X.env) = eval o X.env:=by rfl)
 (hfew:((backTo cpos (starEach (e :: es) X.env)).all (fun x=>!x.1) && (backToKw cpos (keywordEach [] X.env)).all (fun x=>x.1.isSome)
  && decide ((e :: es).length + ([]:List Keyword).length + (if ([]:List Keyword).isEmpty then 0 else 1) < 30)) = true:=by rfl)
 (hline:(apos.endLine == cpos.line) = true:=by rfl) (hs:starEach (e :: es) X.env = (false,eval e X.env) :: starEach es X.env:=by rfl) (hplain:(backTo cpos (starEach es X.env)).any (·.1) = false:=by rfl):
 PE X (.Call (.Attribute o name apos) (e :: es) [] cpos) (tBM X.K T r to t):=by
 intro pins s σ H Q I h
 refine wpAny_Call_method_late hbase hfew hline rfl (thn (ho pins s σ H _ I h) fun v s1 ⟨x,H1,I1,r1,ty,q1⟩=>?_)
 obtain⟨h1,h2⟩:=tyV_is I1 r1 ty
 refine⟨T,id,pa,slot,hty,h1,h2,?_⟩
 have hA:=ha cpos pins s1 σ H1 _ I1 q1
 rw [hs] at hA ⊢
 refine Calls.callWith_builtin (by show (false || (backTo cpos (starEach es X.env)).any (·.1)) = false;rw [hplain] <;> rfl) (Calls.evalArgs_plain ?_)
 exact thn hA fun us s2 ⟨vs,H2,I2,r2,q2⟩=>hm pins s2 σ H2 x vs v us Q I2 r1 r2 q2
end
def MtM (X:Cx) (id:String) (r:V->List V->Hp->VK->Prop):Prop:=
 ∀ (pins:List (Addr×Obj)) (s:Shared) (σ:St) (H:Hp) (x:V) (xs:List V) (v:Value) (us:List Value) (Q:VK),Inv X pins σ H s->RelV x v->Vals xs us->r x xs H Q->
  wpAny (model X.prog X.w) X.A (call (.builtin id) (v :: us)) (EP X pins σ Q) X.xe s
theorem Vals.one:∀ {x:V}{us:List Value},Vals [x] us->∃ u,us = [u]/\RelV x u
 | _,_,.cons r .nil=>⟨_,rfl,r⟩
theorem Vals.rep (h:Vals xs us):∀ k:Nat,Vals (List.replicate k xs).flatten (List.replicate k us).flatten
 | 0=>.nil
 | k + 1=>by
  exact Vals.append h (Vals.rep h k)
theorem foldl_rep (its:List Value):∀ (k:Nat) (acc:List Value),
 List.foldl (fun x1 x2=>x1 ++ x2) acc.toArray (List.replicate k its.toArray) = (acc ++ (List.replicate k its).flatten).toArray
 | 0,acc=>by simp
 | k + 1,acc=>by
  have e:acc.toArray ++ its.toArray = (acc ++ its).toArray:=by simp
  have e2:(acc ++ its) ++ (List.replicate k its).flatten = acc ++ (List.replicate (k + 1) its).flatten:=by
   rw [List.replicate_succ,List.flatten_cons,List.append_assoc]
  rw [<- e2,<- foldl_rep its k _,<- e,List.replicate_succ,List.foldl_cons]
section
variable {σ:St}
theorem Inv.lset {its its':List Value} (I:Inv X pins σ H s) (hH:H l = some (.lst xs))
 (e:s.heap.get? l = some { cls:=.type "list",data:=.seq its.toArray n }) (hf:f its.toArray = its'.toArray) (hv:Vals ys its') (hz:ys.length<=sizeLine):
 Inv X pins σ (upd H l (.lst ys)) { s with heap:=s.heap.update l (Obj.mapSeq f),toks:=t' }:=by
 have q:=PySem.IsL.update e f
 rw [hf] at q
 refine I.write (by rw [hH];exact trivial) (.inl rfl) (fun b' u hb hu=>(Heap.get?_update_other s.heap _ (Ne.symm hb)).trans hu) ⟨_,q⟩ ?_
 exact⟨hz,its',_,hv,q⟩
theorem Inv.lnew (I:Inv X pins σ H s) (hv:Vals ys its) (hz:ys.length<=sizeLine):
 Inv X pins σ (upd H s.heap.objs.size (.lst ys)) { s with heap:=s.heap.push { cls:=.type "list",data:=.seq its.toArray },toks:=t' }:=
 I.laid (fun _ _ q=>Heap.get?_push_of_some _ q) (Nat.le_refl _) ⟨hz,its,0,hv,Heap.get?_push_size _ rfl⟩
theorem Inv.fresh (I:Inv X pins σ H s):H s.heap.objs.size = none:=I.hok.fresh (Nat.le_refl _)
theorem Inv.lstM (I:Inv X pins σ H s) (hH:H l = some (.lst xs)):xs.length<=sizeLine/\∃ (its:List Value) (n:Nat),Vals xs its/\xs.length = its.length/\s.heap.get? l = some { cls:=.type "list",data:=.seq its.toArray n }:=by
 obtain⟨z,its,n,r,e⟩:=I.hok l _ hH
 exact⟨z,its,n,r,r.length,e⟩
theorem notLongL (h:n<=sizeLine):Builtin.List.listTooLong n = false:=by
 exact decide_eq_false (by omega)
end
section
def rAppend:V->List V->Hp->VK->Prop:=fun x vs H Q=>∃ l xs y,x = .ref l/\vs = [y]/\H l = some (.lst xs)/\xs.length < sizeLine/\Q .non (upd H l (.lst (xs ++ [y])))
theorem mt_append:MtM X "list.append" rAppend:=by
 intro pins s σ H x vs v us Q I rx rv h
 obtain⟨l,xs,y,rfl,rfl,hH,hz,q⟩:=h
 cases rx
 obtain⟨u,rfl,ru⟩:=rv.one
 obtain⟨z,its,n,r,hl,e⟩:=I.lstM hH
 refine call_meets F.slot_list_append ⟨_,e,rfl⟩ F.entry_list_append (F.args_list_append_2 _ _) (PySem.list_append l its.toArray n u (by grind)) ⟨e,?_⟩
 refine⟨.non,_,I.lset hH e (by simp) (r.append (.cons ru .nil)) ?_,rfl,q⟩
 grind
def rExtend:V->List V->Hp->VK->Prop:=fun x vs H Q=>∃ l b xs zs,x = .ref l/\vs = [.ref b]/\H l = some (.lst xs)/\H b = some (.lst zs)/\xs.length + zs.length<=sizeLine/\Q .non (upd H l (.lst (xs ++ zs)))
theorem mt_extend:MtM X "list.extend" rExtend:=by
 intro pins s σ H x vs v us Q I rx rv h
 obtain⟨l,b,xs,zs,rfl,rfl,hH,hB,hz,q⟩:=h
 cases rx
 obtain⟨u,rfl,ru⟩:=rv.one
 cases ru
 obtain⟨z,its,n,r,hl,e⟩:=I.lstM hH
 obtain⟨z2,its2,n2,r2,hl2,e2⟩:=I.lstM hB
 have hsz:its.toArray.size + its2.toArray.size<=sizeLine:=by grind
 have hlong:¬ (!its.toArray.isEmpty && Builtin.List.listTooLong (its.toArray.size + its2.toArray.size)) = true:=by
  rw [notLongL hsz,Bool.and_false]
  simp
 refine call_meets F.slot_list_extend ⟨_,e,rfl⟩ F.entry_list_extend (F.args_list_extend_2 _ _)
  (AutoSeq1.list_extend_list_list_0 l its.toArray n b its2.toArray n2 hlong (by omega) (by omega)) ⟨e,e2,?_⟩
 refine⟨.non,_,I.lset hH e (by simp) (r.append r2) ?_,rfl,q⟩
 grind
def rCat:R2:=fun x y H Q=>∃ l b xs zs,x = .ref l/\y = .ref b/\H l = some (.lst xs)/\H b = some (.lst zs)/\xs.length + zs.length<=sizeLine/\∀ p,H p = none->Q (.ref p) (upd H p (.lst (xs ++ zs)))
theorem op_cat:OpR X (binaryOp .Add) rCat:=by
 intro pins s σ H x y v u Q I rx ry h
 obtain⟨l,b,xs,zs,rfl,rfl,hH,hB,hz,q⟩:=h
 cases rx
 cases ry
 obtain⟨z,its,n,r,hl,e⟩:=I.lstM hH
 obtain⟨z2,its2,n2,r2,hl2,e2⟩:=I.lstM hB
 refine PySem.P.add_list e e2 ?_ (by simp_all)
 have ea:its.toArray ++ its2.toArray = (its ++ its2).toArray:=by simp
 rw [ea]
 exact⟨.ref _,_,I.lnew (r.append r2) (by simp_all),rfl,q _ I.fresh⟩
def rRep:R2:=fun x y H Q=>∃ l k xs,x = .ref l/\y = .int k/\H l = some (.lst xs)/\-(2 ^ 63)<=k/\k < 2 ^ 63/\xs.length * k.toNat<=sizeLine/\
 ∀ p,H p = none->Q (.ref p) (upd H p (.lst (List.replicate k.toNat xs).flatten))
theorem len_rep {α:Type} (xs:List α) (k:Nat):(List.replicate k xs).flatten.length = k * xs.length:=by simp
theorem op_rep:OpR X (binaryOp .Mult) rRep:=by
 intro pins s σ H x y v u Q I rx ry h
 obtain⟨l,k,xs,rfl,rfl,hH,h1,h2,hz,q⟩:=h
 cases rx
 obtain⟨t,rfl⟩:=ry
 obtain⟨z,its,n,r,hl,e⟩:=I.lstM hH
 have hlen:its.toArray.size * k.toNat<=sizeLine:=by simp_all
 have hcap:¬ its.toArray.size * k.toNat > (2 ^ 63 - 1) / 8:=by
  have:(sizeLine:Nat)<=(2 ^ 63 - 1) / 8:=by decide
  omega
 have hfit:¬ (!Builtin.List.listFitsIndex k) = true:=by
  rw [fitsIndex_both h1 h2]
  exact Bool.false_ne_true
 have hlong:¬ Builtin.List.listTooLong (its.toArray.size * k.toNat) = true:=by
  rw [notLongL hlen]
  exact Bool.false_ne_true
 have hnew:List.foldl (fun x1 x2=>x1 ++ x2) #[] (List.replicate (if its.toArray.isEmpty = true then 0 else k.toNat) its.toArray) = (List.replicate k.toNat its).flatten.toArray:=by
  have f0:=fun m=>by
   have:=foldl_rep its m []
   rw [List.nil_append] at this
   exact this
  rw [f0]
  cases its with
  | nil=>simp
  | cons a r'=>rw [if_neg (by simp)]
 refine wpAny_binaryOp_repeat_ref (T:="list") (U:="int") (by decide) ⟨_,e,rfl⟩ (fun s'=>typeIs_int s' k t) noFill_list_mul F.fills_int_mul F.slot_int_rmul repeat_list F.slot_int_index.lookup
  (call_meets F.slot_int_rmul (typeIs_int s k t) F.entry_int_rmul (F.args_int_rmul_2 _ _) (int___rmul___int_list k t l its.toArray n)
   ⟨e,rfl,⟨_,e,rfl⟩,call_meets F.slot_list_mul ⟨_,e,rfl⟩ F.entry_list_mul (F.args_list_mul_2 _ _) (AutoListH.list___mul___list_int_3 l its.toArray n k t hfit hcap hlong) ⟨e,?_⟩⟩)
 rw [hnew]
 exact⟨.ref _,_,I.lnew (t':=s.toks) (r.rep k.toNat) (by rw [len_rep,Nat.mul_comm];exact hz),rfl,q _ I.fresh⟩
end
end L2
namespace Att
open PySem PySem.W PySem.Calls PyProof.Rows
theorem ints_of_wellAll:∀ (ns:List Int) (vs:List Value),WellAll P h vs (ns.map WData.int)->IntsAre vs ns:=by
 intro ns
 induction ns with
 | nil=>
  intro vs w
  cases w
  exact .nil
 | cons n ns ih=>
  intro vs w
  cases w with
  | cons a b=>
   cases a
   exact .cons _ _ (ih _ b)
theorem script_of {l:OpenLaw}{n:Nat} (hn:l.most = some n) {P:Params}{h:Heap}{args:List WData}{vals:List Value}
 (hpre:l.row.toRowW.claim.pre args = true) (hwl:WellAll P h vals args):
 ∃ a vs ns,vals = [Value.ref a]/\args = [WData.list (ns.map WData.int)]/\h.get? a = some { cls:=.type "list",data:=.seq vs.toArray }/\IntsAre vs ns/\ns.length<=n:=by
 have hsh:=(pre_splitW hpre).1
 have hc:=(pre_splitW hpre).2
 obtain⟨d,r,rfl,h1,h2⟩:=hasAllW_cons hsh
 obtain rfl:=hasAllW_nil h2
 obtain⟨xs,rfl,h3⟩:=hasW_list h1
 obtain⟨ns,rfl⟩:=items_int h3
 have hlen:ns.length<=n:=by
  have h4:=by
   have h4:=(holds_andW hc).1
   rw [hn] at h4
   exact h4
  have h5:=condW_of h4 (w_not (w_lt w_lit (w_len_list (w_arg rfl))))
  simp_all
 cases hwl with
 | cons w1 w2=>
  cases w2
  cases w1 with
  | list ho hall=>exact⟨_,_,ns,rfl,rfl,ho,ints_of_wellAll ns _ hall,hlen⟩
theorem post_true (l:OpenLaw) (args:List WData):l.row.toRowW.claim.post args (.bool true) args = true:=
 postW_of
  (by rfl)
  (w_eq_bool (w_res rfl) w_lit) rfl
theorem attach_call {l:OpenLaw}{n:Nat}{q:Program}{loose:List Str}{XP:(Str->Option Value)->Heap->Prop}{YP:World->Heap->Prop}{d:DefRec}
 (hn:l.most = some n) (hdf:d.params.defaults = [])
 (call:∀ (w:World) (s₀ s₁:Shared) (mg mb:Str->Option Value) (fa:Addr) (o:Obj) (pm cd doc:Value) (a:Addr) (vs:List Value) (ns:List Int),
  Ground q loose [] XP w s₀ mg mb s₁.heap->YP w s₁.heap->
  s₁.heap.get? fa = some o->o.data = .func (docDef d.name d.params d.body d.scope pm cd doc)->s₁.heap.CodeRec cd d.name->mg d.name = some (.ref fa)->
  s₁.heap.get? a = some { cls:=.type "list",data:=.seq vs.toArray }->IntsAre vs ns->ns.length<=n->s₁.gens = #[]->
  codeAny (model l.prog w) callerA (.call (.ref fa) ⟨[.ref a],[]⟩) (fun r s'=>r = .ok (.ret (.bool true))/\OldK s₁.heap s'.heap/\s'.os = s₁.os/\AllBare s'.gens) s₁):
 WalkO q loose XP YP l.row.toRowW d [] (fun f vs=>PySem.call f vs):=by
 intro w s₀ s₁ mg mb G Y fa o pm cd doc dV kV ho hd hcd hD hmg hg args vals as hpre hlay hrd hwl hlo
 obtain rfl:dV = .none:=Dflts.none hD hdf
 obtain rfl:kV = .none:=Dflts.noKw hD
 obtain⟨a,vs,ns,rfl,rfl,hobj,hints,hlen⟩:=script_of hn hpre hwl
 refine enter_call (codeAny_mono (call w s₀ s₁ mg mb fa o pm cd doc a vs ns G Y ho (fd_plain hd) hcd hmg hobj hints hlen hg) fun r s' hq=>?_)
 obtain⟨rfl,h2,h3,h4⟩:=hq
 exact⟨.inl ⟨.bool true,.bool true,[],rfl,fun _=>rfl,.bool true,post_true l _,fun _=>⟨List.Pairwise.nil,fun _ hm=>(nomatch hm)⟩⟩,h2,h3,h4⟩
end Att
namespace L2
open PySem PySem.Spec PyProof.Rows
theorem vals_ints:∀ {vs:List Value}{ns:List Int},IntsAre vs ns->Vals (ns.map V.int) vs
 | _,_,.nil=>.nil
 | _,_,.cons n t h=>.cons ⟨t,rfl⟩ (vals_ints h)
def Only (H:Hp):Prop:=∀ b,H b = none\/∃ o xs,H b = some (.frz o (.lst xs))
theorem law_call {P:Program}{w:World}{K:PySem.W.Frag}{mg mb:Str->Option Value}{CX:CXT}{k:Nat}{fa a:Addr}{fd:FuncData}{x:Str}{sp:Sp}{s₁:Shared}{vs:List Value}{ns:List Int}
 (KX:K.In s₁.heap) (hns:s₁.heap.Ns mainGlobals mg) (hb:s₁.heap.Ns builtinsNs mb) (hbb:∀ x:Str,x≠"__name__"->mb x = bootBuiltins x) (hlim:s₁.heap.NoLimit) (hg:s₁.gens = #[])
 (ha:s₁.heap.get? a = some { cls:=.type "list",data:=.seq vs.toArray }) (hi:IntsAre vs ns) (hl:ns.length<=sizeLine) (hr:Room k callerA)
 (F:∀ base:Heap,K.In base->base.Ns mainGlobals mg->FnOk P w K mg base CX k fa fd [x] sp) (hbind:∀ (s:Shared) (u:Value),BindsTo s fd ⟨[u],[]⟩ [(x,u)])
 (hsp:∀ H:Hp,Only H->SqL K H a (ns.map V.int)->sp [.ref a] H (fun v _=>v = .bl true) fun _ _ _=>False)
 (hCX:∀ H e s',CX [] H s₁ (fun _ _ _=>False) e s'->False):
 codeAny (model P w) callerA (.call (.ref fa) ⟨[.ref a],[]⟩) (fun r s'=>r = .ok (.ret (.bool true))/\OldK s₁.heap s'.heap/\s'.os = s₁.os/\AllBare s'.gens) s₁:=by
 have rv:=vals_ints hi
 have lenV:=hi.length
 -- from an abstract heap in which nothing but the script may be tracked
 have core:∀ H:Hp,Only H->SqL K H a (ns.map V.int)->HOk P w H s₁.heap->(∀ b,H b≠none->b = a)->(H a≠none->K.lookup a = none)->
  codeAny (model P w) callerA (.call (.ref fa) ⟨[.ref a],[]⟩) (fun r s'=>r = .ok (.ret (.bool true))/\OldK s₁.heap s'.heap/\s'.os = s₁.os/\AllBare s'.gens) s₁:=by
  intro H hO hS hok hA hK
  have base_of:∀ {b:Addr}{o:Obj},s₁.heap.get? b = some o->H b = none->(hidT s₁.heap H).get? b = some o:=fun e n=>hidT_get e n
  have noA:∀ {b:Addr}{o:Obj}{es:Array DictEntry}{ep:Nat},s₁.heap.get? b = some o->o.data = .dict es ep->H b = none:=fun {b o es ep} e d=>by
   cases q:H b with
   | none=>rfl
   | some u=>
    have e':b = a:=hA b (by rw [q];simp)
    subst e'
    rw [ha] at e;cases e
    have d':Data.seq vs.toArray _ = Data.dict es ep:=d
    cases d'
  have nsK:∀ {b:Addr}{m:Str->Option Value},s₁.heap.Ns b m->(hidT s₁.heap H).Ns b m:=fun {b m} ⟨o,es,ep,e,d,r⟩=>⟨o,es,ep,base_of e (noA e d),d,r⟩
  have hKb:K.In (hidT s₁.heap H):=fun b o e=>base_of (KX b o e) (by
   cases q:H b with
   | none=>rfl
   | some u=>
    have e':b = a:=hA b (by rw [q];simp)
    subst e'
    rw [hK (by rw [q];simp)] at e;cases e)
  have hM:Mod K mg (hidT s₁.heap H):=⟨hKb,nsK hns,⟨mb,nsK hb,hbb⟩,let ⟨mc,h1,h2⟩:=hlim;⟨mc,nsK h1,h2⟩⟩
  have e0:Env0 P w K mg (hidT s₁.heap H) callerA [] s₁ H:=⟨rfl,hM,fun b o e=>of_hidT e,Nat.le_of_eq (hidT_size _ _),trivial,fun b hb=>absurd (show b∈([]:List Addr) from hb) (by simp),hok,.of_eq hg⟩
  refine codeAny_mono ((F _ hKb (nsK hns)).run callerA [] s₁ H ⟨[.ref a],[]⟩ [.ref a] [.ref a] _ _ hr e0 (hbind s₁ (.ref a)) (.cons rfl .nil) (hsp H hO hS)) fun r s' h=>?_
  cases r with
  | error e=>exact (hCX H e s' h).elim
  | ok fl=>
   cases fl with
   | next=>exact False.elim h
   | brk=>exact False.elim h
   | cont=>exact False.elim h
   | ret u=>
    obtain⟨v,H',os,bare,un,hok',r',q⟩:=h
    have q':v = .bl true:=q
    subst q'
    obtain rfl:u = Value.bool true:=r'
    refine⟨rfl,OldK.of_keep fun b o e=>?_,os,bare⟩
    cases q:H b with
    | none=>exact un.keep b o e q (by intro z;exact absurd (show b∈([]:List Addr) from z) (by simp)) (by simp)
    | some u=>
     rcases hO b with z | ⟨ob,xs,z⟩
     · rw [q] at z;cases z
     · have z2:=un.frzs b ob _ z
       obtain⟨e1,_⟩:=hok b _ z
       obtain⟨e2,_⟩:=hok' b _ z2
       rw [e] at e1;cases e1
       exact e2
 cases hk:K.lookup a with
 | some o=>
  -- the script is one of the module's own objects
  have e:=KX a o hk
  rw [ha] at e
  cases e
  refine core (fun _=>none) (fun _=>.inl rfl) (.inr ⟨_,vs.toArray,_,hk,rfl,rfl,rfl,by rw [List.size_toArray,lenV];exact hl,by simpa using rv⟩) (fun b u z=>by have z':(none:Option HO) = some u:=z;cases z') (fun b z=>absurd rfl z) fun z=>absurd rfl z
 | none=>
  refine core (fun b=>if b = a then some (.frz { cls:=.type "list",data:=.seq vs.toArray } (.lst (ns.map V.int))) else none) (fun b=>?_) (.inl (.inr ⟨{ cls:=.type "list",data:=.seq vs.toArray },if_pos rfl⟩)) (fun b u z=>?_) (fun b z=>?_) fun _=>hk
  · by_cases hb:b = a
    · exact .inr ⟨_,_,if_pos hb⟩
    · exact .inl (if_neg hb)
  · by_cases hb:b = a
    · have z':=(if_pos hb).symm.trans z
      cases z'
      subst hb
      exact⟨ha,by rw [List.length_map];exact hl,vs,_,rv,ha⟩
    · have z':=(if_neg hb).symm.trans z
      cases z'
  · by_cases hb:b = a
    · exact hb
    · exact absurd (if_neg hb) z
theorem walk_of {l:PySem.W.OpenLaw}{n k:Nat}{q:Program}{loose:List Str}{XP:(Str->Option Value)->Heap->Prop}{YP:World->Heap->Prop}{d:DefRec}{K:Params->PySem.W.Frag}{CX:World->CXT}{sp:World->Sp}{x:Str}
 (hn:l.most = some n) (hn2:n<=sizeLine) (hdf:d.params.defaults = []) (hr:Room k callerA)
 (hY:∀ (w:World) (h:Heap),YP w h->(K w.params).In h)
 (F:∀ (w:World) (mg:Str->Option Value) (fa:Addr) (h:Heap),(K w.params).In h->h.Ns mainGlobals mg->mg d.name = some (.ref fa)->
  ∃ fd:FuncData,(∀ (s:Shared) (u:Value),BindsTo s fd ⟨[u],[]⟩ [(x,u)])/\
   ∀ base:Heap,(K w.params).In base->base.Ns mainGlobals mg->FnOk l.prog w (K w.params) mg base (CX w) k fa fd [x] (sp w))
 (hsp:∀ (w:World) (H:Hp) (a:Addr) (ns:List Int),ns.length<=n->Only H->SqL (K w.params) H a (ns.map V.int)->sp w [.ref a] H (fun v _=>v = .bl true) fun _ _ _=>False)
 (hCX:∀ (w:World) (H:Hp) (s:Shared) (e:Value) (s':Shared),CX w [] H s (fun _ _ _=>False) e s'->False):
 PySem.W.WalkO q loose XP YP l.row.toRowW d [] (fun f vs=>PySem.call f vs):=by
 refine Att.attach_call hn hdf fun w s₀ s₁ mg mb fa o pm cd doc a vs ns G Y ho hd hcd hmg hobj hints hlen hg=>?_
 have KX:=hY w _ Y
 obtain⟨fd,hb,hF⟩:=F w mg fa _ KX G.T.g hmg
 exact law_call KX G.T.g G.T.b G.T.builtins G.T.nolimit hg hobj hints (Nat.le_trans hlen hn2) hr hF hb (fun H hO hS=>hsp w H a ns hlen hO hS) fun H e s'=>hCX w H s₁ e s'
def defArgs (s:Stmt):Arguments:=match s with
 | .FunctionDef _ a _ _ _ _ _ _ _ _=>a
 | _=>{ posonlyargs:=[],args:=[],vararg:=none,kwonlyargs:=[],kw_defaults:=[],kwarg:=none,defaults:=[] }
def defBody (s:Stmt):List Stmt:=match s with
 | .FunctionDef _ _ b _ _ _ _ _ _ _=>b
 | _=>[]
def defScope (s:Stmt):Scope:=match s with
 | .FunctionDef _ _ _ _ _ _ sc _ _ _=>sc
 | _=>{ kind:=.function,names:=[],isGenerator:=false,isCoroutine:=false }
abbrev CX0:CXT:=fun _ _ _ _ _ _=>False
abbrev E0:XK:=fun _ _ _=>False
theorem pass0:Passes CX0 X E0:=fun _ _ _ _ _ _ _ h=>h.elim
structure Fun (K:PySem.W.Frag) (x qual:Str) (st:Stmt) (f:Addr) (fd:FuncData):Prop where
 ex:∃ (oc:Value) (od:Option Addr) (kV doc pm:Value) (an:Option Addr) (cdv ct:Value) (osl:Array (Option Value)),
  fd = PySem.W.fnOf x qual (defArgs st) (defBody st) (defScope st) .none kV doc pm an cdv ct/\K.lookup f = some ⟨oc,od,.func fd,osl⟩/\PySem.W.codeIn K cdv qual = true
 kp:PySem.W.keepIn K (.ref f) = true
section
variable {K:PySem.W.Frag}
theorem Fun.ok {x qual:Str}{st:Stmt}{f:Addr}{fd:FuncData}{N ps:List Str}{k:Nat}{sp:Sp} (F:Fun K x qual st f fd) (S:FnScope N ps (defScope st)) (len:∀ vs H Q E,sp vs H Q E->vs.length = ps.length)
 (hbody:∀ (cdv:Value) (A:Around) (outer:List Env) (s:Shared) (H:Hp) (vs:List V) (Q:VK) (E:XK),Room k (A.deeper (envOfC qual (defScope st) s.heap.objs.size f cdv))->sp vs H Q E->
  ∃ t,PSs (cxOf CX0 P w K mg base N qual (defScope st) f cdv A outer s H E).nox (defBody st) t/\t { nx:=fun _ H'=>Q .non H',rt:=Q } (start N vs) H):FnOk P w K mg base CX0 (k + 1) f fd ps sp:=by
 obtain⟨oc,od,kV,doc,pm,an,cdv,ct,osl,rfl,lk,hcd⟩:=F.ex
 refine fn_of lk hcd S len fun A outer s H vs Q E hr hsp=>?_
 obtain⟨t,h,q⟩:=hbody cdv A outer s H vs Q E hr hsp
 exact⟨t,h.nox,q⟩
theorem Fun.binds {x qual:Str}{st:Stmt}{f:Addr}{fd:FuncData}{ps:List Str} (F:Fun K x qual st f fd)
 (h:∀ (kV doc pm:Value) (an:Option Addr) (cdv ct:Value) (us:List Value),us.length = ps.length->bindArgs (PySem.W.fnOf x qual (defArgs st) (defBody st) (defScope st) .none kV doc pm an cdv ct) ⟨us,[]⟩ = pure (ps.zip us)):Binds K fd ps []:=by
 obtain⟨oc,od,kV,doc,pm,an,cdv,ct,osl,rfl,lk,hcd⟩:=F.ex
 exact .all (h kV doc pm an cdv ct)
theorem fun_mk {st:Stmt}{kV doc pm cdv ct:Value} (l:K.lookup f = some ⟨oc,od,.func (PySem.W.fnOf x qual (defArgs st) (defBody st) (defScope st) .none kV doc pm an cdv ct),osl⟩)
 (c:PySem.W.codeIn K cdv qual = true) (k:PySem.W.keepIn K (.ref f) = true):Fun K x qual st f (PySem.W.fnOf x qual (defArgs st) (defBody st) (defScope st) .none kV doc pm an cdv ct):=⟨⟨oc,od,kV,doc,pm,an,cdv,ct,osl,rfl,l,c⟩,k⟩
end
theorem iteF {A B:Prop} (h:B):if false = true then A else B:=by simp_all
theorem iteT {A B:Prop} (h:A):if true = true then A else B:=by simp_all
theorem ite2 {c A B:Prop} [Decidable c] (h1:c->A) (h2:¬ c->B):if c then A else B:=by simp_all
theorem iteNS {c A B:Prop} [Decidable c] (hc:c) (h:B):if (!decide c) = true then A else B:=by
 rw [decide_eq_true hc]
 exact iteF h
def Same (H H':Hp):Prop:=∀ b o,H b = some o->H' b = some o
theorem Same.refl (H:Hp):Same H H:=fun _ _ h=>h
theorem Same.trans (a:Same H H1) (b:Same H1 H2):Same H H2:=fun c o h=>b c o (a c o h)
theorem Same.seq {K:PySem.W.Frag} (e:Same H H') (h:SqL K H a xs):SqL K H' a xs:=by
 rcases h with (h | ⟨o,h⟩) | h
 · exact .inl (.inl (e _ _ h))
 · exact .inl (.inr ⟨o,e _ _ h⟩)
 · exact .inr h
section
variable {κ:Type} [DecidableEq κ]
def valV (kvs:List (κ×V)) (k:κ):Option V:=(kvs.find? fun kv=>decide (kv.1 = k)).map (·.2)
def putK (kvs:List (κ×V)) (k:κ) (v:V):List (κ×V):=
 if (kvs.any fun kv=>decide (kv.1 = k)) = true then kvs.map (fun kv=>if kv.1 = k then (kv.1,v) else kv) else kvs ++ [(k,v)]
theorem valV_nil:valV ([]:List (κ×V)) k = none:=rfl
theorem valV_pos {k:κ} (e:p.1 = k):valV (p :: r) k = some p.2:=by simp [valV,List.find?_cons,e]
theorem valV_neg {k:κ} (e:¬ p.1 = k):valV (p :: r) k = valV r k:=by simp [valV,List.find?_cons,e]
theorem valV_any (k:κ):∀ kvs:List (κ×V),(kvs.any fun kv=>decide (kv.1 = k)) = (valV kvs k).isSome
 | []=>rfl
 | p :: r=>by
  rw [List.any_cons]
  by_cases e:p.1 = k
  · simp only [valV_pos e,decide_eq_true e,Bool.true_or,Option.isSome_some]
  · rw [valV_neg e,decide_eq_false e,Bool.false_or];exact valV_any k r
theorem valV_map (k j:κ) (y:V):∀ kvs:List (κ×V),valV (kvs.map fun kv=>if kv.1 = k then (kv.1,y) else kv) j = (valV kvs j).map fun x=>if j = k then y else x
 | []=>rfl
 | p :: r=>by
  have ih:=valV_map k j y r
  rw [List.map_cons]
  by_cases h:p.1 = k
  · rw [if_pos h]
    by_cases e:p.1 = j
    · rw [valV_pos (p:=(p.1,y)) e,valV_pos e,Option.map_some,if_pos (e.symm.trans h)]
    · rw [valV_neg (p:=(p.1,y)) e,valV_neg e,ih]
  · rw [if_neg h]
    by_cases e:p.1 = j
    · rw [valV_pos e,valV_pos e,Option.map_some,if_neg (fun z=>h (e.trans z))]
    · rw [valV_neg e,valV_neg e,ih]
theorem valV_snoc (k j:κ) (y:V):∀ kvs:List (κ×V),valV kvs k = none->valV (kvs ++ [(k,y)]) j = if j = k then some y else valV kvs j
 | [],_=>by
  by_cases e:k = j
  · rw [if_pos e.symm];exact valV_pos e
  · rw [if_neg (fun z=>e z.symm)];exact valV_neg e
 | p :: r,hn=>by
  rw [List.cons_append]
  have hk:¬ p.1 = k:=fun z=>by rw [valV_pos z] at hn;grind
  rw [valV_neg hk] at hn
  have ih:=valV_snoc k j y r hn
  by_cases e:p.1 = j
  · rw [valV_pos e,valV_pos e,if_neg (fun z=>hk (e.trans z))]
  · rw [valV_neg e,valV_neg e,ih]
theorem valV_put (kvs:List (κ×V)) (k j:κ) (y:V):valV (putK kvs k y) j = if j = k then some y else valV kvs j:=by
 unfold putK
 by_cases a:(kvs.any fun kv=>decide (kv.1 = k)) = true
 · rw [if_pos a,valV_map]
   rw [valV_any] at a
   by_cases e:j = k
   · obtain⟨x,hx⟩:=Option.isSome_iff_exists.mp a
     grind
   simp_all
 · rw [if_neg a]
   refine valV_snoc k j y kvs ?_
   rw [valV_any] at a
   simp_all
theorem length_putK (kvs:List (κ×V)) (k:κ) (v:V):(putK kvs k v).length<=kvs.length + 1:=by
 unfold putK
 grind
theorem RelO.isSome_eq (r:RelO o u):o.isSome = u.isSome:=by
 cases o with
 | none=>cases u with
  | none=>rfl
  | some _=>exact (r).elim
 | some _=>cases u with
  | none=>exact (r).elim
  | some _=>rfl
theorem KV.val {kvs:List (κ×V)}{vs:List (κ×Value)} (r:KV kvs vs) (k:κ):RelO (valV kvs k) (valueAt vs k):=by
 unfold KV at r
 induction r with
 | nil=>exact True.intro
 | @cons p q ps qs h t ih=>
  obtain⟨h1,h2⟩:=h
  by_cases e:p.1 = k
  · have e':q.1 = k:=h1.symm.trans e
    have b:valueAt (q :: qs) k = some q.2:=by simp [valueAt,List.find?_cons,e']
    rw [valV_pos e,b];exact h2
  · have e':¬ q.1 = k:=fun z=>e (h1.trans z)
    have b:valueAt (q :: qs) k = valueAt qs k:=by simp [valueAt,List.find?_cons,e']
    rw [valV_neg e,b];exact ih
theorem KV.any (r:KV kvs vs) (k:κ):(kvs.any fun kv=>decide (kv.1 = k)) = vs.any fun kv=>decide (kv.1 = k):=by
 induction r with
 | nil=>rfl
 | cons h t ih=>simp_all
theorem KV.repl (r:KV kvs vs) (k:κ) (ry:RelV y u):
 KV (kvs.map fun kv=>if kv.1 = k then (kv.1,y) else kv) (vs.map fun kv=>if kv.1 = k then (kv.1,u) else kv):=by
 induction r with
 | nil=>exact .nil
 | @cons p q ps qs h t ih=>
  refine .cons ?_ ih
  by_cases e:p.1 = k
  · simp_all
  simp_all
theorem KV.put (r:KV kvs vs) (k:κ) (ry:RelV y u):KV (putK kvs k y) (stored vs k u):=by
 unfold putK stored
 rw [r.any k]
 by_cases e:(vs.any fun kv=>decide (kv.1 = k)) = true
 · rw [if_pos e,if_pos e];exact r.repl k ry
 · rw [if_neg e,if_neg e];exact Paired.snoc r ⟨rfl,ry⟩
theorem KV.length {kvs:List (κ×V)} (r:KV kvs vs):kvs.length = vs.length:=Paired.length r
end
theorem kV_is (r:RelV (kV k) u):(mixKind P w).is k u = true:=by
 cases k with
 | inl i=>obtain⟨t,e⟩:=(r);subst e;exact mixKind_int P w i t
 | inr x=>obtain⟨t,e⟩:=(r);subst e;exact mixKind_str P w x t
theorem items_are:∀ {ks:List Key}{us:List Value},Vals (ks.map kV) us->ItemsAre (mixKind P w) ks us
 | [],_,r=>by cases r;exact .nil
 | k :: ks,_,r=>by
  cases r with
  | cons h t=>exact .cons (kV_is h) (items_are t)
abbrev KT (H:Hp):List (List Key×V)->List (List Key×Addr×Value)->Prop:=Paired fun p q=>p.1 = q.1/\H q.2.1 = some (.tup (p.1.map kV))/\RelV p.2 q.2.2
theorem KT.val (r:KT H kvs xs) (k:List Key):RelO (valV kvs k) ((atKey xs k).map (·.2)):=by
 induction r with
 | nil=>exact True.intro
 | @cons p q ps qs h t ih=>
  obtain⟨h1,_,h2⟩:=h
  by_cases e:p.1 = k
  · have e':=h1.symm.trans e
    have b:atKey (q :: qs) k = some q.2:=by simp [atKey,List.find?_cons,e']
    rw [valV_pos e,b];exact h2
  · have e':¬ q.1 = k:=fun z=>e (h1.trans z)
    have b:atKey (q :: qs) k = atKey qs k:=by simp [atKey,List.find?_cons,e']
    rw [valV_neg e,b];omega
theorem KT.repl (r:KT H kvs xs) (k:List Key) (ry:RelV y u):
 KT H (kvs.map fun kv=>if kv.1 = k then (kv.1,y) else kv) (xs.map (putAt k u)):=by
 induction r with
 | nil=>exact .nil
 | @cons p q ps qs h t ih=>
  rw [List.map_cons,List.map_cons]
  refine .cons ?_ ih
  obtain⟨h1,h2,h3⟩:=h
  unfold putAt
  by_cases e:p.1 = k
  · rw [if_pos e,if_pos (h1.symm.trans e)];exact⟨h1,h2,ry⟩
  · rw [if_neg e,if_neg (fun z=>e (h1.trans z))];simp_all
theorem KT.put (r:KT H kvs xs) (k:List Key) (hb:H b = some (.tup (k.map kV))) (ry:RelV y u):
 KT H (putK kvs k y) (storedH xs k b u):=by
 have e:(kvs.any fun kv=>decide (kv.1 = k)) = (atKey xs k).isSome:=by
  rw [valV_any,(r.val k).isSome_eq,Option.isSome_map]
 unfold putK storedH
 rw [e]
 by_cases q:(atKey xs k).isSome = true
 · rw [if_pos q,if_pos q];exact r.repl k ry
 · rw [if_neg q,if_neg q];exact Paired.snoc r ⟨rfl,hb,ry⟩
theorem KT.keeps (r:KT H kvs xs) (ht:∀ b ys,H b = some (.tup ys)->H' b = some (.tup ys)):KT H' kvs xs:=
 Paired.mapP r fun _ _ z=>⟨z.1,ht _ _ z.2.1,z.2.2⟩
section
theorem rd_of (ok:HOk P w H h) (e:Rd H a u):ObjOk P w H h a u:=e.ok ok
theorem dk_rd (ok:HOk P w H h) (e:Rd H a (.dK kvs)):kvs.length<=sizeLine/\(a == sysModules) = false/\∃ vs,KV kvs vs/\h.DictOf (mixKind P w) a vs:=
 rd_of ok e
theorem dk_of (ok:HOk P w H h) (e:H a = some (.dK kvs)):kvs.length<=sizeLine/\(a == sysModules) = false/\∃ vs,KV kvs vs/\h.DictOf (mixKind P w) a vs:=dk_rd ok (.inl e)
theorem key_of {ks:List Key} (ok:HOk P w H h) (e:H a = some (.tup (ks.map kV))):(tupleKind (mixKind P w)).is h ks a:=by
 obtain⟨_,its,r,o,h1,h2,_,n,h3⟩:=(show ObjOk P w H h a (.tup (ks.map kV)) from ok a _ e)
 exact⟨o,its.toArray,n,h1,h2,h3,by simpa using items_are r⟩
theorem dt_rd (ok:HOk P w H h) (e:Rd H a (.dT kvs)):kvs.length<=sizeLine/\(a == sysModules) = false/\
 ∃ xs,KT H kvs xs/\h.DictOfH (tupleKind (mixKind P w)) a xs:=by
 obtain⟨z,y,xs,r,o,es,ep,h1,h2,h3,h4,h5⟩:=(rd_of ok e)
 refine⟨z,y,xs,r,o,es,ep,h1,h2,h3,h4,fun x hx=>?_,h5⟩
 have all:∀ {l:List _}{m:List _},KT H l m->∀ x∈m,(tupleKind (mixKind P w)).is h x.1 x.2.1:=by
  intro l m q
  induction q with
  | nil=>simp
  | @cons p q ps qs hq t ih=>
   intro x hx
   rcases List.mem_cons.mp hx with e | hx
   · subst e
     exact key_of ok (by grind)
   · exact ih x hx
 exact all r x hx
theorem dt_of (ok:HOk P w H h) (e:H a = some (.dT kvs)):kvs.length<=sizeLine/\(a == sysModules) = false/\
 ∃ xs,KT H kvs xs/\h.DictOfH (tupleKind (mixKind P w)) a xs:=dt_rd ok (.inl e)
end
def DGet (H:Hp) (a:Addr) (y:V) (r:Option V):Prop:=
 (∃ kvs k,Rd H a (.dK kvs)/\y = kV k/\r = valV kvs k)\/∃ kvs k b,Rd H a (.dT kvs)/\y = .ref b/\H b = some (.tup (k.map kV))/\r = valV kvs k
def DPut (H:Hp) (a:Addr) (y v:V) (H':Hp):Prop:=
 (∃ kvs k,H a = some (.dK kvs)/\y = kV k/\kvs.length < sizeLine/\H' = upd H a (.dK (putK kvs k v)))\/
 ∃ kvs k b,H a = some (.dT kvs)/\y = .ref b/\H b = some (.tup (k.map kV))/\kvs.length < sizeLine/\H' = upd H a (.dT (putK kvs k v))
theorem DGet.k {k:Key} (e:H a = some (.dK kvs)):DGet H a (kV k) (valV kvs k):=.inl ⟨kvs,k,.inl e,rfl,rfl⟩
theorem DGet.t {k:List Key} (e:H a = some (.dT kvs)) (eb:H b = some (.tup (k.map kV))):DGet H a (.ref b) (valV kvs k):=.inr ⟨kvs,k,b,.inl e,rfl,eb,rfl⟩
theorem DPut.k {k:Key} (e:H a = some (.dK kvs)) (hl:kvs.length < sizeLine):DPut H a (kV k) v (upd H a (.dK (putK kvs k v))):=.inl ⟨kvs,k,e,rfl,hl,rfl⟩
section
variable {σ:St}
theorem Inv.big (I:Inv X pins σ H s):sysModules < s.heap.objs.size:=by
 have h:=(I.mod.glob.keeps I.bk).lt
 exact Nat.lt_trans (by decide) h
theorem d_getItem {Q:Value->Shared->Prop} (hu:A.units + 1 < cLine) (I:Inv X pins σ H s) (g:DGet H a y (some v)) (ry:RelV y u) (h:∀ w' s',Inv X pins σ H s'->RelV v w'->Q w' s'):
 wpAny (model X.prog X.w) A (getItem (.ref a) u) Q E s:=by
 rcases g with ⟨kvs,k,e,ey,l⟩ | ⟨kvs,k,b,e,ey,eb,l⟩
 · subst ey
   obtain⟨z,hd,vs,rel,dd⟩:=dk_rd I.hok e
   obtain⟨w',hw,rw'⟩:=RelO.some_of (v:=v) (o:=valueAt vs k) (by rw [l];exact rel.val k)
   exact wpAny_getItem_of (kV_is ry) dd.mapOf hw (h w' _ (I.tok _) rw')
 · subst ey
   cases (show u = Value.ref b from ry)
   obtain⟨z,hd,xs,rel,dd⟩:=dt_rd I.hok e
   obtain⟨w',hw,rw'⟩:=RelO.some_of (v:=v) (o:=(atKey xs k).map (·.2)) (by rw [l];exact rel.val k)
   obtain⟨p,hp,hp2⟩:=Option.map_eq_some_iff.mp hw
   refine wpAny_getItem_heap (tupleKind_room_in1 hu) (key_of I.hok eb) dd hp ?_
   rw [hp2]
   exact h w' _ (I.tok _) rw'
theorem d_in {Q:Value->Shared->Prop} (hu:A.units + 1 < cLine) (I:Inv X pins σ H s) (g:DGet H a y o) (ry:RelV y u) (h:∀ s',Inv X pins σ H s'->Q (.bool o.isSome) s'):
 wpAny (model X.prog X.w) A (compareOp .In u (.ref a)) Q E s:=by
 rcases g with ⟨kvs,k,e,ey,l⟩ | ⟨kvs,k,b,e,ey,eb,l⟩
 · subst ey
   obtain⟨z,hd,vs,rel,dd⟩:=dk_rd I.hok e
   refine wpAny_in_of (kV_is ry) hd dd.mapOf ?_
   rw [<- (rel.val k).isSome_eq,<- l]
   exact h _ (I.tok _)
 · subst ey
   cases (show u = Value.ref b from ry)
   obtain⟨z,hd,xs,rel,dd⟩:=dt_rd I.hok e
   refine wpAny_in_heap (tupleKind_room_in1 hu) (key_of I.hok eb) hd dd ?_
   have q:=(rel.val k).isSome_eq
   rw [Option.isSome_map] at q
   rw [<- q,<- l]
   exact h _ (I.tok _)
theorem d_notIn (hu:A.units + 1 < cLine) (I:Inv X pins σ H s) (g:DGet H a y o) (ry:RelV y u) (h:∀ s',Inv X pins σ H s'->Q (.bool (!o.isSome)) s'):
 wpAny (model X.prog X.w) A (compareOp .NotIn u (.ref a)) Q E s:=by
 rcases g with ⟨kvs,k,e,ey,l⟩ | ⟨kvs,k,b,e,ey,eb,l⟩
 · subst ey
   obtain⟨z,hd,vs,rel,dd⟩:=dk_rd I.hok e
   refine wpAny_notIn_of (kV_is ry) hd dd.mapOf ?_
   rw [<- (rel.val k).isSome_eq,<- l]
   exact h _ (I.tok _)
 · subst ey
   cases (ry)
   obtain⟨z,hd,xs,rel,dd⟩:=dt_rd I.hok e
   refine wpAny_notIn_heap (tupleKind_room_in1 hu) (key_of I.hok eb) hd dd ?_
   have q:=(rel.val k).isSome_eq
   rw [Option.isSome_map] at q
   rw [<- q,<- l]
   exact h _ (I.tok _)
theorem d_write {h':Heap}{t':Nat}{ob:HO} (I:Inv X pins σ H s) (mu:Mut (H a)) (hs:Heap.SameBut a s.heap h') (he:∃ q,h'.get? a = some q) (new:ObjOk X.prog X.w (upd H a ob) h' a ob):
 Inv X pins σ (upd H a ob) { s with heap:=h',toks:=t' }:=
 I.write (x:=a) (e:=a) mu (.inl rfl) (fun b q hb z=>(hs.2 b hb).trans z) he new
theorem dk_new (z:kvs.length<=sizeLine) (hd:(a == sysModules) = false) (rel:KV kvs vs) (dd:h'.DictOf (mixKind P w) a vs):
 ObjOk P w H' h' a (.dK kvs):=⟨z,hd,vs,rel,dd⟩
theorem d_setItem {H':Hp}{Q:Unit->Shared->Prop} (hu:A.units + 1 < cLine) (I:Inv X pins σ H s) (g:DPut H a y v H') (ry:RelV y u) (rv:RelV v r) (h:∀ s',Inv X pins σ H' s'->Q () s'):
 wpAny (model X.prog X.w) A (setItem (.ref a) u r) Q E s:=by
 rcases g with ⟨kvs,k,e,ey,l,eH⟩ | ⟨kvs,k,b,e,ey,eb,l,eH⟩
 · subst ey eH
   obtain⟨z,hd,vs,rel,dd⟩:=dk_of I.hok e
   have hz:vs.length<=sizeLine:=by rw [<- rel.length];exact z
   have hl:(putK kvs k v).length<=sizeLine:=by have:=length_putK kvs k v;omega
   refine wpAny_setItem_pairs (hsz:=hz) (kV_is ry) dd fun h' dd' hs=>h _ ?_
   have he:∃ q,h'.get? a = some q:=let ⟨q,_,_,hq,_⟩:=dd';⟨q,hq⟩
   exact d_write I (by rw [e];exact True.intro) hs he (dk_new hl hd (rel.put k rv) dd')
 · subst ey eH
   cases (show u = Value.ref b from ry)
   obtain⟨z,hd,xs,rel,dd⟩:=dt_of I.hok e
   have hz:xs.length<=sizeLine:=by rw [<- Paired.length rel];exact z
   have hl:(putK kvs k v).length<=sizeLine:=by have:=length_putK kvs k v;omega
   refine wpAny_setItem_heap (hsz:=hz) (tupleKind_room_in1 hu) (key_of I.hok eb) dd fun h' dd' hs=>h _ ?_
   obtain⟨q,es,ep,hq,h2,h3,h4,_,h5⟩:=dd'
   refine d_write I (by rw [e];exact True.intro) hs ⟨q,hq⟩ ⟨hl,hd,_,(rel.put k eb rv).keeps fun c ys ec=>?_,q,es,ep,hq,h2,h3,h4,h5⟩
   rw [upd_ne (ne_of ec e (fun z=>nomatch z))]
   exact ec
end
def NoSl (i:Expr):Prop:=∀ ov iv,subscripted i false ov iv = operate [ov,iv] (getItem ov iv)
theorem subD_of {w:World}{A:Around}{s:Shared}{env:Env}{pos:Pos}{T id:String}
 (hl:typeLookup (.type T) "__getitem__" = pure (some (.builtin id))) (hs:NoSl slice)
 (h:wpAny (model prog w) A (eval value env) (fun o s₁=>wpAny (model prog w) A (eval slice env) (fun i s₂=>s₂.TypeIs o T/\wpAny (model prog w) A (getItem o i) Q E s₂) E s₁) E s):
 wpAny (model prog w) A (eval (.Subscript value slice pos) env) Q E s:=by
 refine Subscript_ (wpAny_mono h (fun o s₁ h₁=>wpAny_mono h₁ (fun i s₂ h₂=>?_) fun _ _ x=>x) fun _ _ x=>x)
 obtain⟨hT,h₂⟩:=h₂
 refine wpAny_bind ?_
 refine wpAny_bind (wpAny_specialOf hT hl ?_)
 have fin:wpAny (model prog w) A (subscripted slice false o i) (fun r s₃=>wpAny (model prog w) A (letTemporaryGo value o r >>= fun _=>pure r) Q E s₃) E s₂:=by
  rw [hs o i]
  exact wpAny_operating (wpAny_mono h₂ (fun r s₃ h₃=>wpAny_bind (wpAny_letTemporaryGo (wpAny_pure h₃))) fun _ _ x=>x)
 first
  | exact wpAny_pure (wpAny_bind fin)
  | rfl
  | exact wpAny_bind fin
theorem dict_typeIs {σ:St} (I:Inv X pins σ H s) (g:DGet H a y o):s.TypeIs (.ref a) "dict":=by
 rcases g with ⟨kvs,k,e,_,_⟩ | ⟨kvs,k,b,e,_,_,_⟩
 · obtain⟨_,_,vs,_,dd⟩:=dk_rd I.hok e
   exact dd.typeIs
 · obtain⟨_,_,xs,_,dd⟩:=dt_rd I.hok e
   exact dd.typeIs
def tDGet (td ty:TE):TE:=fun σ H Q=>td σ H fun x H1=>ty σ H1 fun y H2=>∃ a v,x = .ref a/\DGet H2 a y (some v)/\Q v H2
def sDPut (td ty tv:TE):TS:=fun D σ H=>tv σ H fun v H1=>td σ H1 fun x H2=>ty σ H2 fun y H3=>∃ a H4,x = .ref a/\DPut H3 a y v H4/\D.nx σ H4
section
theorem pe_dget (hu:X.A.units + 1 < cLine) (ho:PE X o td) (hi:PE X i ty) (hs:NoSl i):PE X (.Subscript o i pos) (tDGet td ty):=by
 intro pins s σ H Q I h
 refine subD_of PySem.F.slot_dict_getitem.lookup hs (thn (ho pins s σ H _ I h) fun u s1 ⟨x,H1,I1,rx,q1⟩=>thn (hi pins s1 σ H1 _ I1 q1) fun iv s2 ⟨y,H2,I2,ry,a,v,ex,g,q2⟩=>?_)
 subst ex
 obtain rfl:u = Value.ref a:=rx
 exact⟨dict_typeIs I2 g,d_getItem hu I2 g ry fun w' s3 I3 rw'=>⟨v,H2,I3,rw',q2⟩⟩
theorem ps_dput (hu:X.A.units + 1 < cLine) (ho:PE X o td) (hi:PE X i ty) (hv:PE X value tv) (hs:swapsWith value (some (.Subscript o i pos')) pos.line X.env = pure false):
 PS X (.Assign [.Subscript o i pos'] value pos) (sDPut td ty tv):=by
 intro pins s σ H D I h
 refine wpAny_Assign_Subscript (thn (hv pins s σ H _ I h) fun r s1 ⟨v,H1,I1,rv,q1⟩=>thn (ho pins s1 σ H1 _ I1 q1) fun u s2 ⟨x,H2,I2,rx,q2⟩=>thn (hi pins s2 σ H2 _ I2 q2) fun iv s3 ⟨y,H3,I3,ry,a,H4,ex,g,q3⟩=>?_) hs
 subst ex
 obtain rfl:u = Value.ref a:=rx
 exact d_setItem hu I3 g ry rv fun s4 I4=>⟨σ,H4,I4,q3⟩
end
theorem dk_empty (h:Heap) (hb:sysModules < h.objs.size):ObjOk P w H (h.push { cls:=.type "dict",data:=.dict #[] }) h.objs.size (.dK []):=
 ⟨Nat.zero_le _,beq_eq_false_iff_ne.mpr (Ne.symm (Nat.ne_of_lt hb)),[],.nil,Heap.DictOf.new h⟩
def tDNewK:TE:=fun _ H Q=>∀ p,H p = none->Q (.ref p) (upd H p (.dK []))
section
theorem pe_dnewK:PE X (.Dict [] [] pos) tDNewK:=fun pins s σ H Q I h=>
 wpAny_Dict_empty ⟨.ref s.heap.objs.size,_,I.laid (fun _ _ q=>Heap.get?_push_of_some _ q) (Nat.le_refl _) (dk_empty s.heap I.big),rfl,h _ (I.hok.fresh (Nat.le_refl _))⟩
end
def mergeK (kvs more:List (Key×V)):List (Key×V):=more.foldl (fun acc kv=>putK acc kv.1 kv.2) kvs
theorem KV.merge:∀ {more:List (Key×V)}{rs:List (Key×Value)}{kvs:List (Key×V)}{vs:List (Key×Value)},KV more rs->KV kvs vs->KV (mergeK kvs more) (merged vs rs):=by
 intro more rs kvs vs r
 induction r generalizing kvs vs with
 | nil=>intro q;exact q
 | @cons p q ps qs h t ih=>
  intro r0
  have e:KV (putK kvs p.1 p.2) (stored vs q.1 q.2):=by
   have:=r0.put p.1 h.2
   simp_all
  exact ih e
theorem length_mergeK:∀ (more kvs:List (Key×V)),(mergeK kvs more).length<=kvs.length + more.length
 | [],kvs=>by show kvs.length<=kvs.length + 0;omega
 | p :: r,kvs=>by
  have h1:=length_mergeK r (putK kvs p.1 p.2)
  have h2:=length_putK kvs p.1 p.2
  show (mergeK _ r).length<=_
  grind
end L2
set_option maxHeartbeats 4000000
namespace Br
open PySem PySem.Spec PyProof.Rows L2
structure Callee (CX:CXT) (P:Program) (w:World) (K:PySem.W.Frag) (mg:Str->Option Value) (base:Heap) (x:Str) (k:Nat) (ps:List Str) (sp:Sp):Prop where
 ex:∃ f fd,FnOk P w K mg base CX k f fd ps sp/\mg x = some (.ref f)/\PySem.W.keepIn K (.ref f) = true/\Binds K fd ps []
section
variable {p pos:Pos}
theorem pe_callS (c:Callee CX0 X.prog X.w X.K X.mg X.base x k ps sp) (hr:Room k X.A) (hg:Gl X x) (ha:PA X (e :: es) t) (hdb:(x == ("__debug__" : Str)) = false:=by decide)
 (he:starEach (e :: es) X.env = (false,eval e X.env) :: starEach es X.env:=by rfl) (hpl:(backTo pos (starEach es X.env)).any (·.1) = false:=by rfl):
 PE X (.Call (.Name x p) (e :: es) [] pos) (tCall sp [] E0 t):=by
 obtain⟨f,fd,F,hm,hk,hb⟩:=c.ex
 exact pe_call F hr hg hm hk hb .nil pass0 ha hdb he hpl
end
section
def CDivB (i j:Int):Prop:=0 < j/\j < 2 ^ 8000
theorem log2_of {y:Int} (h0:0 < y) (h1:y < 2 ^ 8000):y.natAbs.log2 < 9000:=by
 have h:y.natAbs < 2 ^ 8000:=by omega
 have h2:=(Nat.log2_lt (by omega)).mpr h
 omega
theorem op_fdivB:OpR X (binaryOp .FloorDiv) (rI CDivB fun i j=>.int (i / j)):=opI fun i j _ _ _ _ _ hc q=>by
 have e:i / j = i.fdiv j:=(Int.fdiv_eq_ediv_of_nonneg _ (Int.le_of_lt hc.1)).symm
 rw [e] at q
 exact floordiv_int (Int.ne_of_gt hc.1) q (.inl (PyProof.noPylong_of_log2 (log2_of hc.1 hc.2)))
def CMulB (i j:Int):Prop:=i.natAbs < 2 ^ 8000/\j.natAbs < 2 ^ 8000
theorem bits_of (h:i.natAbs < 2 ^ 8000):Builtin.Int.intBits i<=2 ^ 20:=Nat.le_trans (intBits_le h) (by decide)
end
inductive At:List Str->Nat->Str->Prop where
 | here {x:Str}{l:List Str}:At (x :: l) 0 x
 | there {x y:Str}{l:List Str}{i:Nat}:At l i x->At (y :: l) (i + 1) x
theorem At.get:∀ {l:List Str}{i:Nat}{x:Str},At l i x->l[i]? = some x
 | _,_,_,.here=>rfl
 | _,_,_,.there h=>by simpa using h.get
section
variable {x:Str}
theorem r_name (h:At X.N i x) (hk:X.env.scope.names.lookup x = some .local) (hd:(x == ("__debug__" : Str)) = false) (hcd:(x == ("__classdict__" : Str)) = false):PE X (.Name x pos) (tVar i):=pe_var h.get (.inl hk) hd hcd
theorem r_bin (ho:OpR X (binaryOp op) r) (ha:PE X a ta) (hb:PE X b tb):PE X (.BinOp a op b pos) (tOp r ta tb):=pe_op ho ha hb
theorem r_cmp (h1:op≠.In) (h2:op≠.NotIn) (ho:OpR X (compareOp op) r) (ha:PE X a ta) (hb:PE X b tb):PE X (.Compare a [op] [b] pos) (tOp r ta tb):=pe_cmpR ho ha hb (nomark _ h1 h2)
theorem t_cmp (h1:op≠.In) (h2:op≠.NotIn) (ho:OpR X (compareOp op) r) (ha:PE X a ta) (hb:PE X b tb):PT X (.Compare a [op] [b] pos) (tTest (tOp r ta tb)):=pt_cmpR ho ha hb (nomark _ h1 h2)
theorem r_neg (ha:PE X a ta):PE X (.UnaryOp .USub a pos) (tUn (rU fun i=>.int (-i)) ta):=pe_un un_neg ha
theorem t_call (h:PE X (.Call f es ks pos) te):PT X (.Call f es ks pos) (tB te):=pt_val h (fun _=>rfl)
theorem r_ix (hs:PlainIx b) (ha:PE X a ta) (hb:PE X b tb):PE X (.Subscript a b pos) (tOp (rIx X.K) ta tb):=pe_ix ix_seq ha hb hs
theorem r_acons (hs:starEach (e :: es) X.env = (false,eval e X.env) :: starEach es X.env) (ha:PE X e te) (hr:PA X es t):PA X (e :: es) (tCons te t):=pa_cons ha hr hs
theorem r_call (c:Callee CX0 X.prog X.w X.K X.mg X.base x k ps sp) (hr:Room k X.A) (hg:Gl X x) (hdb:(x == ("__debug__" : Str)) = false)
 (he:starEach (e :: es) X.env = (false,eval e X.env) :: starEach es X.env) (hpl:(backTo pos (starEach es X.env)).any (·.1) = false) (ha:PA X (e :: es) t):PE X (.Call (.Name x p) (e :: es) [] pos) (tCall sp [] E0 t):=pe_callS c hr hg ha hdb he hpl
def rLen (K:PySem.W.Frag):List V->Hp->VK->Prop:=fun xs H Q=>(∃ p ys,xs = [.ref p]/\(SqL K H p ys\/SqT K H p ys)/\Q (.int ys.length) H)\/∃ z,xs = [.str z]/\z.length<=sizeLine/\Q (.int z.length) H
theorem call_lenA:CallR X (.builtin "len") (rLen X.K):=by
 intro pins s σ H xs us Q I r h
 rcases h with h | h
 · exact call_len_seq pins s σ H xs us Q I r h
 · exact call_len_str pins s σ H xs us Q I r h
section
variable (hg:Gl X x) (he:starEach (e :: es) X.env = (false,eval e X.env) :: starEach es X.env) (hpl:(backTo pos (starEach es X.env)).any (·.1) = false)
include hg he hpl
theorem r_len (hx:x = "len") (hm:X.mg x = none) (ha:PA X (e :: es) t):PE X (.Call (.Name x p) (e :: es) [] pos) (tCB (rLen X.K) t):=by subst hx;exact pe_callB call_lenA hg hm PySem.boot_len ha (by decide) (by decide) he hpl
theorem r_abs (hx:x = "abs") (hm:X.mg x = none) (ha:PA X (e :: es) t):PE X (.Call (.Name x p) (e :: es) [] pos) (tCB (fun xs H Q=>∃ i,xs = [.int i]/\Q (.int (if i < 0 then -i else i)) H) t):=by subst hx;exact pe_callB call_abs hg hm boot_abs ha (by decide) (by decide) he hpl
theorem r_max (hx:x = "max") (hc:X.calm = true) (hm:X.mg x = none) (ha:PA X (e :: es) t):PE X (.Call (.Name x p) (e :: es) [] pos) (tCB (fun xs H Q=>∃ i j,xs = [.int i,.int j]/\Q (.int (if j > i then j else i)) H) t):=by subst hx;exact pe_callB (call_max2 hc) hg hm boot_max ha (by decide) (by decide) he hpl
theorem r_min (hx:x = "min") (hc:X.calm = true) (hm:X.mg x = none) (ha:PA X (e :: es) t):PE X (.Call (.Name x p) (e :: es) [] pos) (tCB (fun xs H Q=>∃ i j,xs = [.int i,.int j]/\Q (.int (if j < i then j else i)) H) t):=by subst hx;exact pe_callB (call_min2 hc) hg hm boot_min ha (by decide) (by decide) he hpl
theorem r_intc (hx:x = "int") (hm:X.mg x = none) (ha:PA X (e :: es) t):PE X (.Call (.Name x p) (e :: es) [] pos) (tCB (fun xs H Q=>(∃ i,xs = [.int i]/\Q (.int i) H)\/∃ k,xs = [.bl k]/\Q (.int (if k then 1 else 0)) H) t):=by subst hx;exact pe_callTy call_int1 hg hm PyProof.Rows.boot_int ha (by decide) (by decide) he hpl
end
theorem r_ret (he:PE X e te):PS X (.Return (some e) pos) (tRet te):=ps_ret he
theorem r_set (h:At X.N i x) (hN:X.N.Nodup) (hk:X.env.scope.names.lookup x = some .local) (hs:swapsWith e (some (.Name x p)) pos.line X.env = pure false) (he:PE X e te):PS X (.Assign [.Name x p] e pos) (tAsg te (gName i)):=
 ps_set hN h.get (.inl hk) he hs (.inr hk)
theorem r_expr (hs:swapsWith e none pos.line X.env = pure false) (he:PE X e te):PS X (.Expr e pos) (tDrop te):=ps_expr he hs
theorem r_for {tb:TS} (hp:PassesOwn (model X.prog X.w) X.A X.env X.xe) (hc:X.calm = true) (hs:∀ x,foldedSetIterable iter X.env x = pure x) (hi:PI X tg iter wi) (hg:PG X tg g) (hb:PSs X body tb):PS X (.For tg iter body [] pos) (tFor wi g tb):=ps_for hp hc hi hg hb hs
theorem r_while {tb:TS} (hp:PassesOwn (model X.prog X.w) X.A X.env X.xe) (hc:PT X c tA) (hb:PSs X body tb):PS X (.While c body [] pos) (tWhile tA tb):=ps_while hp hc hb
theorem r_gname (h:At X.N i x) (hN:X.N.Nodup) (hk:X.env.scope.names.lookup x = some .local):PG X (.Name x pos) (gName i):=pg_name hN h.get (.inl hk) (.inr hk)
theorem r_par {j:Nat}{y:Str}{px py pt pt2:Pos}{kt k2:Nat} (hi:At X.N i x) (hj:At X.N j y) (hij:i≠j) (hc:X.calm = true) (hN:X.N.Nodup)
 (hx:X.env.scope.names.lookup x = some .local) (hy:X.env.scope.names.lookup y = some .local) (hw:swappedStores [.Tuple [.Name x px,.Name y py] kt pt] (.Tuple [a,b] k2 pt2) X.env = pure (some [x,y]))
 (hs:swapsWithSole [.Tuple [.Name x px,.Name y py] kt pt] (.Tuple [a,b] k2 pt2) pos.line X.env = pure false) (ha:PA X [a,b] t):
 PS X (.Assign [.Tuple [.Name x px,.Name y py] kt pt] (.Tuple [a,b] k2 pt2) pos) (tPar i j t):=ps_par hc hN hi.get hj.get hij hx hy ha hw hs
theorem r_irange1 (hx:x = "range") (hg:Gl X x) (hm:X.mg x = none) (hs:starEach [a] X.env = [(false,eval a X.env)]) (ha:PA X [a] t):PI X tg (.Call (.Name x p) [a] [] pos) (iRng1 t):=by subst hx;exact pi_range1 hg hm ha hs
theorem r_irange2 (hx:x = "range") (hg:Gl X x) (hm:X.mg x = none) (hs:starEach [a,b] X.env = [(false,eval a X.env),(false,eval b X.env)]) (hs2:starEach [b] X.env = [(false,eval b X.env)]) (ha:PA X [a,b] t):PI X tg (.Call (.Name x p) [a,b] [] pos) (iRng2 t):=by subst hx;exact pi_range2 hg hm ha hs hs2
theorem r_append (hbase:attributeBase o "append" X.env (eval o X.env) = eval o X.env) (hfew:((backTo cpos (starEach [e] X.env)).all (fun x=>!x.1) && (backToKw cpos (keywordEach [] X.env)).all (fun x=>x.1.isSome)
 && decide (([e]:List Expr).length + ([]:List Keyword).length + (if ([]:List Keyword).isEmpty then 0 else 1) < 30)) = true) (hline:(apos.endLine == cpos.line) = true) (hs:starEach [e] X.env = (false,eval e X.env) :: starEach [] X.env)
 (hpl:(backTo cpos (starEach [] X.env)).any (·.1) = false) (ho:PE X o to) (ha:PA X [e] t):PE X (.Call (.Attribute o "append" apos) [e] [] cpos) (tBM X.K "list" rAppend to t):=
 pe_bm PySem.F.plainAttrs_list PySem.F.slot_list_append PySem.F.type_list_append mt_append ho ha hbase hfew hline hs hpl
end
def tMid (t:TS):TS:=fun D σ H=>∃ M:L2.St->Hp->Prop,t { D with nx:=M } σ H/\∀ σ' H',M σ' H'->D.nx σ' H'
theorem ps_mid {st:Stmt} (h:PS X st t):PS X st (tMid t):=by
 intro pins s σ H D I hq
 obtain⟨M,h1,h2⟩:=hq
 refine thn (h pins s σ H { D with nx:=M } I h1) fun f s1 q=>?_
 cases f with
 | next=>
  obtain⟨σ',H',I',q⟩:=q
  exact⟨σ',H',I',h2 _ _ q⟩
 | ret v=>exact q
 | brk=>exact q
 | cont=>exact q
theorem r_ifM (hc:PT X c tA) (ha:PSs X aa t1) (hb:PSs X bb t2):PS X (.If c aa bb pos) (tMid (tIfS tA t1 t2)):=ps_mid (ps_if hc ha hb)
theorem atI_ints {zs:List Int}{i:Int} (h0:0<=i) (h1:i < zs.length):∃ z,z∈zs/\zs[i.toNat]? = some z/\atI (zs.map V.int) i = some (V.int z):=by
 have e1:(zs.map V.int)[i.toNat]? = some (V.int zs[i.toNat]):=by simp
 have e2:=atI_nat e1
 rw [Int.toNat_of_nonneg h0] at e2
 simp_all
theorem Same.upd (h:H p = none):L2.Same H (upd H p o):=fun b u e=>by rw [upd_ne (ne_of_none e h)];omega
theorem lenLe {xs:List V} (h:xs.length = n) (h2:n<=1000):xs.length<=sizeLine:=by rw [h];exact Nat.le_trans h2 (by decide)
theorem lt250 (h:n < 2 ^ 250):n < 2 ^ 8000:=Nat.lt_of_lt_of_le h (Nat.pow_le_pow_right (by decide) (by decide))
theorem ilt250 {n:Int} (h:n < 2 ^ 250):n < 2 ^ 8000:=by
 exact Int.lt_of_lt_of_le h (Int.ofNat_le.mpr (Nat.pow_le_pow_right (by decide) (by decide)))
theorem mulB (h1:i.natAbs < 2 ^ 250) (h2:j.natAbs < 2 ^ 250):CMulB i j:=⟨lt250 h1,lt250 h2⟩
theorem divB (h1:0 < j) (h2:j < 2 ^ 250):CDivB i j:=⟨h1,ilt250 h2⟩
section
theorem op_isnotB:OpR X (compareOp .IsNot) (fun x y H Q=>∃ a b:Bool,x = .bl a/\y = .bl b/\Q (.bl (!decide (a = b))) H):=by
 intro pins s σ H x y v u Q I rx ry h
 obtain⟨a,b,rfl,rfl,q⟩:=h
 cases rx
 cases ry
 exact wpAny_isNot_plain rfl (fin_bl I q (by cases a <;> cases b <;> rfl))
theorem r_unpack2 (hi:At X.N i x) (hj:At X.N j y) (hc:X.calm = true) (hN:X.N.Nodup) (hx:X.env.scope.names.lookup x = some .local) (hy:X.env.scope.names.lookup y = some .local)
 (h1:(assignEach [.Name x px,.Name y py] X.env).map (·.2) = assign (.Name x px) X.env :: (assignEach [.Name y py] X.env).map (·.2))
 (h2:(assignEach [.Name y py] X.env).map (·.2) = assign (.Name y py) X.env :: (assignEach [] X.env).map (·.2))
 (hn:(assignEach [.Name x px,.Name y py] X.env).length = 2) (hst:(assignEach [.Name x px,.Name y py] X.env).findIdx? (·.1) = none)
 (hs:swapsWithSole [.Tuple [.Name x px,.Name y py] kt pt] e pos.line X.env = pure false) (hw:swappedStores [.Tuple [.Name x px,.Name y py] kt pt] e X.env = pure none)
 (h3:(assignEach [.Tuple [.Name x px,.Name y py] kt pt] X.env).map (·.2) = [assign (.Tuple [.Name x px,.Name y py] kt pt) X.env]) (he:PE X e te):
 PS X (.Assign [.Tuple [.Name x px,.Name y py] kt pt] e pos) (tAsg te (gTup X.K 2 (gCons (gName i) (gCons (gName j) gNil)))):=
 ps_asg he (pg_tup hc (pgs_cons (pg_name hN hi.get (.inl hx) (.inr hx)) (pgs_cons (pg_name hN hj.get (.inl hy) (.inr hy)) pgs_nil h2) h1) hn hst) hs hw h3
def tTupS (t:TA):TE:=fun σ H Q=>t σ H fun xs H1=>xs.length<=sizeLine/\∀ p H2,H1 p = none->L2.Same H1 H2->H2 p = some (.tup xs)->Q (.ref p) H2
def tLstS (t:TA):TE:=fun σ H Q=>t σ H fun xs H1=>xs.length<=sizeLine/\∀ p H2,H1 p = none->L2.Same H1 H2->H2 p = some (.lst xs)->Q (.ref p) H2
def rCatS:R2:=fun x y H Q=>∃ l b xs zs,x = .ref l/\y = .ref b/\H l = some (.lst xs)/\H b = some (.lst zs)/\xs.length + zs.length<=sizeLine/\∀ p H2,H p = none->L2.Same H H2->H2 p = some (.lst (xs ++ zs))->Q (.ref p) H2
def tDNewS:TE:=fun _ H Q=>∀ p H2,H p = none->L2.Same H H2->H2 p = some (.dK [])->Q (.ref p) H2
theorem r_tupS {k:Nat} (h:PA X es t):PE X (.Tuple es k pos) (tTupS t):=fun pins s σ H Q I q=>wpAny_Tuple_spliced (thn (h pos pins s σ H _ I q) fun us s1 ⟨xs,H1,I1,r,z,q⟩=>⟨by rw [<- r.length];exact z,by
 have hf:H1 s1.heap.objs.size = none:=I1.hok.fresh (Nat.le_refl _)
 refine⟨.ref s1.heap.objs.size,upd H1 s1.heap.objs.size (.tup xs),I1.laid (t':=s1.toks) (fun b u e=>Heap.get?_push_of_some _ e) (Nat.le_refl _) ?_,rfl,q _ _ hf (Br.Same.upd hf) upd_same⟩
 exact⟨z,us,r,⟨_,Heap.get?_push_size _ rfl,rfl,rfl,_,rfl⟩⟩⟩)
theorem r_lstS (h:PA X es t):PE X (.List es pos) (tLstS t):=fun pins s σ H Q I q=>wpAny_List_spliced (thn (h pos pins s σ H _ I q) fun us s1 ⟨xs,H1,I1,r,z,q⟩=>⟨by rw [<- r.length];omega,by
 have hf:=I1.hok.fresh (Nat.le_refl _)
 refine⟨.ref s1.heap.objs.size,upd H1 s1.heap.objs.size _,I1.laid (fun b u e=>Heap.get?_push_of_some _ e) (Nat.le_refl _) ?_,rfl,q _ _ hf (Br.Same.upd hf) upd_same⟩
 exact⟨z,us,0,r,Heap.get?_push_size _ rfl⟩⟩)
theorem op_catS:OpR X (binaryOp .Add) rCatS:=fun pins s σ H x y v u Q I rx ry h=>by
 obtain⟨l,b,xs,zs,e1,e2,h1,h2,hz,q⟩:=h
 exact op_cat pins s σ H x y v u Q I rx ry ⟨l,b,xs,zs,e1,e2,h1,h2,hz,fun p hp=>q p _ hp (Br.Same.upd hp) upd_same⟩
theorem r_dict0S:PE X (.Dict [] [] pos) tDNewS:=fun pins s σ H Q I q=>pe_dnewK pins s σ H Q I fun p hp=>q p _ hp (Br.Same.upd hp) upd_same
end
end Br
namespace Br
open PySem PySem.Spec PySem.Calls PyProof.Rows L2 PySem.W PySem.Builtin.Getset_descriptor
structure ExcC (K:Frag) (C:Addr):Prop where
 ga:findIn K (.ref C) "__getattribute__" = some (some (.builtin "BaseException.__getattribute__"))
 hk:findIn K (.ref C) "__getattr__" = some none
 ha:findIn K (.ref C) "__class__" = some (some (.builtin "object.__class__"))
 hn:specialIn K (.builtin "object.__class__") "__get__" = some (some (.builtin "getset_descriptor.__get__"))
 htk:takesIn K (.builtin "object.__class__") = some true
 hm:mroIn K C (.type "object") = some true
 hb:mroIn K C (.type "BaseException") = some true
def ExcAt (e C:Addr) (h:Heap):Prop:=∃ o,h.get? e = some o/\o.cls = .ref C
theorem ExcAt.ty (x:ExcAt e C h):Looks M h (typeOf (.ref e)) (.ref C):=by
 obtain⟨o,h1,h2⟩:=x
 rw [<- h2]
 exact (Looks.ld h1).andThen .now
section
variable {K:Frag}
theorem ExcC.finds (T:ExcC K C) (X:K.In h):Looks M h (Builtin.ObjectAttr.find (.ref x) (.ref C) "__class__") (.bind (.builtin "getset_descriptor.__get__") (.builtin "object.__class__")):=by
 have d:Looks M h (Builtin.ObjectAttr.dataDescriptor? (some _) (some (.builtin "getset_descriptor.__get__"))) _:=
  (looks_takesIn X T.htk).andThen .now
 exact (looks_findIn X T.ha).andThen (Looks.andThen (looks_specialIn X T.hn) (d.andThen (Looks.tag .now)))
theorem exc_get {R:Result->Shared->Prop}{tp:Value} (X:K.In s.heap) (I:ExcAt x C s.heap) (hm:mroIn K C (.type "object") = some true) (h:R (.ok (.ret (.ref C))) s):
 codeAny (model prog w) A (.call (.builtin "getset_descriptor.__get__") ⟨[.builtin "object.__class__",.ref x,tp],[]⟩) R s:=by
 have ob:=fun {Q':Value->Shared->Prop}{E':Value->Shared->Prop}{A':Around}=>(fun q:Q' (.ref C) s=>I.ty (M:=model prog w) A' Q' E' s (fun _ _ e=>e) q)
 have mr:=fun {Q':Bool->Shared->Prop}{E':Value->Shared->Prop}{A':Around}=>(fun q:Q' true s=>looks_mroIn (M:=model prog w) X hm A' Q' E' s (fun _ _ e=>e) q)
 apply codeAny_call_builtin KF.slot_gs.plain KF.entry_gs
 refine KF.slot_gs.check _ _ _ _ _ _ _ _ KF.type_class (KF.args_gs _ _ _) ?_
 wp_walk using ob,mr
 rw [show (".".intercalate ("object.__class__".cutAt '.').dropLast) = "object" from by decide +kernel]
 wp_walk using mr
 refine⟨Code.quiet_builtin _ (by decide +kernel),codeAny_builtin KF.entry_class ?_⟩
 wp_walk using ob
 exact h
theorem exc_cls {Q:Option Value->Shared->Prop} (T:ExcC K C) (X:K.In s.heap) (I:ExcAt x C s.heap) (h:Q (some (.ref C)) { s with toks:=s.toks + 1 }):wpAny (model prog w) A (getAttr? (.ref x) "__class__") Q E s:=by
 have L0:=I.ty (M:=model prog w)
 have L1:=looks_findIn (M:=model prog w) X T.ga
 have L2:=looks_findIn (M:=model prog w) X T.hk
 have L3:=T.finds (M:=model prog w) (x:=x) X
 have L4:=looks_mroIn (M:=model prog w) X T.hb
 obtain⟨hh,g,d,t,os⟩:=s
 unfold getAttr? getAttrBy? getAttrBy
 refine wpAny_bind (wpAny_mkText (wpAny_bind (wpAny_attempt (wpAny_holding ?_))))
 refine wpAny_bind (L0.at (wpAny_bind (L1.at ?_)))
 show wpAny _ _ (getAttrByItsOwn _ _ _ _ _ _) _ _ _
 unfold getAttrByItsOwn hookBefore
 rw [if_pos (show onTheHeap (Value.ref C) = true from rfl)]
 refine wpAny_bind (L2.at (wpAny_bind (wpAny_attempt (wpAny_holding ?_))))
 show wpAny _ _ (boundAndCalled _ _ _) _ _ _
 unfold boundAndCalled
 rw [F.attr_ValueError.ga.bind]
 refine wpAny_bind (wpAny_pure ?_)
 show wpAny _ _ (call (.builtin "BaseException.__getattribute__") [.ref x,.str "__class__" t]) _ _ _
 have hsp:splitId "BaseException.__getattribute__" = some ("BaseException","__getattribute__"):=by decide +kernel
 have hkk:builtinKind "BaseException.__getattribute__" = some .slot:=by decide +kernel
 have ha:=F.args_bexc_ga (.ref x) (.str "__class__" t)
 refine wpAny_call (codeAny_call_builtin F.attr_ValueError.ga.plain F.entry_bexc_ga ?_)
 simp only [checkBuiltinCall,hkk,hsp]
 refine wpAny_bind ?_
 · unfold isInstance
   refine wpAny_bind (L0.at (L4.at ?_))
   simp only [Bool.not_true,Bool.false_eq_true,if_false]
   repeat (any_goals (first | assumption | wp_step))
   obtain⟨oe,he,hce⟩:=id I
   refine wpAny_loadPart_at he ?_
   rw [hce]
   refine wpAny_pure (wpAny_bind (L3.at ?_))
   show wpAny _ _ (do ret (<- holding [_] (call _ [_,_,_]))) _ _ _
   refine wpAny_bind (wpAny_holding (wpAny_call (exc_get X I T.hm (wpAny_pure ?_))))
   exact handed_on rfl (wpAny_pure h)
theorem ExcC.cls (T:ExcC K C) (X:K.In h):∃ (c:Value) (d:Option Addr) (cd:ClassData) (sl:Array (Option Value)),h.get? C = some ⟨c,d,.cls cd,sl⟩:=by
 obtain⟨cd,q,_⟩:=Option.bind_eq_some_iff.mp T.hm
 unfold clsIn at q
 split at q
 · rename_i ho
   exact⟨_,_,_,_,X _ _ ho⟩
 grind
theorem ExcC.isType (T:ExcC K C) (X:K.In h):Looks M h (isType (.ref C)) true:=fun A Q E s k z=>by
 obtain⟨c,d,cd,sl,ho⟩:=T.cls X
 exact wpAny_bind (wpAny_loadPart (k _ _ ho) (wpAny_pure z))
theorem kitx_exc (T:ExcC K C):KitX K (.ref x) (.ref C) (ExcAt x C) where
 ty:=fun _ _ _ p=>p.ty
 it:=fun _ _ X _=>T.isType X
 ne:=fun h tp dd its n sl X htp=>by
  obtain⟨c,d,cd,sl',hc⟩:=T.cls X
  grind
 ca:=fun X p k=>exc_cls T X p k
end
end Br
namespace Br
open PySem PySem.Spec PySem.Calls PyProof.Rows L2
section
theorem objGot (x:ObjOk P w H h a o):∃ ob,h.get? a = some ob:=by
 cases o with
 | lst xs=>obtain⟨_,_,_,_,e⟩:=x;exact⟨_,e⟩
 | tup xs=>obtain⟨_,_,_,ob,e,_⟩:=x;grind
 | dK kvs=>obtain⟨_,_,_,_,o,_,_,e,_⟩:=x;grind
 | dT kvs=>obtain⟨_,_,_,_,o,_,_,e,_⟩:=x;exact⟨_,e⟩
 | set S n=>obtain⟨o,_,_,_,e,_⟩:=x;exact⟨_,e⟩
 | ins C dx fs=>obtain⟨_,_,_,e,_⟩:=x;exact⟨_,e⟩
 | own y=>assumption
 | xd fs=>obtain⟨_,⟨_,_,_,e,_⟩,_⟩:=x;exact⟨_,e⟩
 | rng lo hi=>obtain⟨_,_,_,e⟩:=x;exact⟨_,e⟩
 | frz ob u=>obtain⟨e,_⟩:=x;grind
 | tbl ps=>exact⟨_,(x)⟩
 | met f y=>exact⟨_,(x)⟩
 | ext φ=>obtain⟨_,⟨_,e⟩,_⟩:=x;exact⟨_,e⟩
theorem hokNone (x:HOk P w H h) (e:h.get? a = none):H a = none:=by
 cases q:H a with
 | none=>rfl
 | some o=>
  obtain⟨ob,z⟩:=objGot (x a o q)
  grind
end
def FrOk (l:List Env) (h:Heap):Prop:=∀ env∈l,env.scope.kind≠.module/\∃ L o,env.frame = some L/\h.get? L = some o/\∀ vs,o.data≠.fields vs
structure Fly (l:List Env) (e T:Addr) (cls:Value) (h:Heap):Prop where
 fr:FrOk l h
 ne:T≠e
 at_:∃ oe vs oT ts a0,h.get? e = some oe/\oe.cls = cls/\oe.data = .fields vs/\vs[0]? = some a0/\vs[1]? = some (.ref T)/\h.get? T = some oT/\oT.data = .fields ts/\ts[3]? = some .none
theorem funFr:FrOk l h->(∀ b∈frs l,B.get? b = none)->h.FunFrames B l:=by
 induction l with
 | nil=>intro _ _;trivial
 | cons env r ih=>
  intro f hB
  obtain⟨hk,L,o,hf,ho,hd⟩:=f env (.head _)
  refine⟨hk,⟨L,o,hf,hB L (List.mem_filterMap.mpr ⟨env,.head _,hf⟩),ho,hd⟩,ih (fun e he=>f e (.tail _ he)) fun b hb=>hB b ?_⟩
  obtain⟨e,he,h2⟩:=List.mem_filterMap.mp hb
  exact List.mem_filterMap.mpr ⟨e,.tail _ he,h2⟩
theorem frOf:h.FunFrames B l->FrOk l h:=by
 induction l with
 | nil=>intro _ _ z;cases z
 | cons env r ih=>
  rintro⟨hk,⟨L,o,hf,_,ho,hd⟩,hr⟩ e he
  rcases List.mem_cons.mp he with rfl | he
  · exact⟨hk,L,o,hf,ho,hd⟩
  · exact ih hr e he
theorem FrOk.mem (f:FrOk l h) (hb:b∈frs l):∃ o,h.get? b = some o/\∀ vs,o.data≠.fields vs:=by
 obtain⟨e,he,h2⟩:=List.mem_filterMap.mp hb
 obtain⟨_,L,o,hf,ho,hd⟩:=f e he
 simp_all
def grd (l:List Env) (e T:Addr) (h:Heap):Heap:=PySem.W.hideAll h (e :: T :: frs l)
theorem grd_of (q:(grd l e T h).get? b = some o):h.get? b = some o:=PySem.W.of_hideAll _ q
theorem grd_none (q:b = e\/b = T\/b∈frs l):(grd l e T h).get? b = none:=by
 refine PySem.W.hideAll_none _ ?_
 simp_all
theorem grd_get (q:h.get? b = some o) (h1:b≠e) (h2:b≠T) (h3:b∉frs l):(grd l e T h).get? b = some o:=by
 refine PySem.W.hideAll_get _ q fun z=>?_
 simp_all
theorem Fly.flying (f:Fly l e T cls h):∃ a0,Heap.FlyingW (grd l e T h) l e cls a0 h:=by
 obtain⟨oe,vs,oT,ts,a0,h1,h2,h3,h4,h5,h6,h7,h8⟩:=f.at_
 exact⟨a0,fun b o q=>grd_of q,grd_none (.inl rfl),funFr f.fr fun b hb=>grd_none (.inr (.inr hb)),oe,vs,T,oT,ts,h1,⟨h2,h4⟩,h3,h5,grd_none (.inr (.inl rfl)),f.ne,h6,h7,h8⟩
structure Past (l:List Env) (e T:Addr) (h h':Heap):Prop where
 keep:∀ b o,h.get? b = some o->b≠e->b≠T->b∉frs l->h'.get? b = some o
 slot:∀ b o,h.get? b = some o->b∈frs l->∃ sl,h'.get? b = some { o with slots:=sl }
 there:∀ b o,h.get? b = some o->b≠T->∃ o',h'.get? b = some o'
theorem Past.of {l l':List Env}{e T:Addr}{cls a0:Value}{h h2:Heap} (f:FrOk l h) (hf:Heap.FlyingW (grd l e T h) l' e cls a0 h2) (u:h.UpToSlots h2):
 ∃ T',Fly l' e T' cls h2/\Past l e T h h2/\(T' = T\/h.get? T' = none):=by
 obtain⟨st,ne,ff,oe,vs,T',oT,ts,h1,⟨h2',h4⟩,h3,h5,hb,hne,h6,h7,h8⟩:=hf
 have hs:∀ b o,h.get? b = some o->b∈frs l->∃ sl,h2.get? b = some { o with slots:=sl }:=fun b o q hb=>by
  obtain⟨o',q',hd⟩:=f.mem hb
  rw [q] at q';cases q'
  exact u b o q hd
 refine⟨T',⟨frOf ff,hne,oe,vs,oT,ts,a0,h1,h2',h3,h4,h5,h6,h7,h8⟩,⟨fun b o q n1 n2 n3=>st b o (grd_get q n1 n2 n3),hs,fun b o q n2=>?_⟩,?_⟩
 · by_cases n1:b = e
   · subst n1;exact⟨_,h1⟩
   · by_cases n3:b∈frs l
     · obtain⟨sl,z⟩:=hs b o q n3
       exact⟨_,z⟩
     · exact⟨o,st b o (grd_get q n1 n2 n3)⟩
 · cases q:h.get? T' with
   | none=>exact .inr rfl
   | some o=>
    by_cases n2:T' = T
    · exact .inl n2
    · by_cases n3:T'∈frs l
      · obtain⟨o',q',hd⟩:=f.mem n3
        obtain⟨sl,z⟩:=hs T' o' q' n3
        rw [h6] at z;cases z
        exact absurd h7 (hd ts)
      · rw [grd_get q hne n2 n3] at hb;cases hb
section
theorem fly_leave (hfr:A.frames = some (env :: outer)) (hf:env.frame.isSome = true) (f:Fly (env :: outer) e T cls s.heap)
 (k:∀ h' T',Fly outer e T' cls h'->Past (env :: outer) e T s.heap h'->(T' = T\/s.heap.get? T' = none)->Q () { s with heap:=h' }):wpAny M A (leaving env (.ref e)) Q E s:=by
 obtain⟨L,hf⟩:=Option.isSome_iff_exists.mp hf
 obtain⟨a0,F⟩:=f.flying
 refine wpAny_leaves_onW hfr hf F fun h' F' u=>?_
 obtain⟨T',x,y,z⟩:=Past.of f.fr F' u
 exact k h' T' x y z
theorem fly_begin {h:Heap}{args:List Value} (hfr:A.frames = some (env :: outer)) (hf:env.frame.isSome = true) (f:FrOk (env :: outer) h) (hx:Heap.MadeExcOf h s.heap e cls args)
 (k:∀ h' T',Fly outer e T' cls h'->(∀ b o,h.get? b = some o->b∉frs (env :: outer)->h'.get? b = some o)->(∀ b o,h.get? b = some o->b∈frs (env :: outer)->∃ sl,h'.get? b = some { o with slots:=sl })->h.get? T' = none->Q () { s with heap:=h' }):
 wpAny M A (leaving env (.ref e)) Q E s:=by
 obtain⟨L,hf⟩:=Option.isSome_iff_exists.mp hf
 have hb:∀ b∈frs (env :: outer),(PySem.W.hideAll h (frs (env :: outer))).get? b = none:=fun b hb=>PySem.W.hideAll_none _ hb
 refine wpAny_leaves_madeW (base:=PySem.W.hideAll h (frs (env :: outer))) hfr hf (fun b o q=>PySem.W.of_hideAll _ q) (funFr f hb) hx fun h' t F _ _ u=>?_
 obtain⟨st,ne,ff,oe,vs,T',oT,ts,h1,⟨h2',h4⟩,h3,h5,hbT,hne,h6,h7,h8⟩:=F
 have hs:∀ b o,h.get? b = some o->b∈frs (env :: outer)->∃ sl,h'.get? b = some { o with slots:=sl }:=fun b o q hb=>by
  obtain⟨o',q',hd⟩:=f.mem hb
  rw [q] at q';cases q'
  exact u b o (hx.keeps b o q) hd
 refine k h' T' ⟨frOf ff,hne,oe,vs,oT,ts,_,h1,h2',h3,h4,h5,h6,h7,h8⟩ (fun b o q n=>st b o (PySem.W.hideAll_get _ q n)) hs ?_
 cases q:h.get? T' with
 | none=>rfl
 | some o=>
  by_cases n3:T'∈frs (env :: outer)
  · obtain⟨o',q',hd⟩:=f.mem n3
    obtain⟨sl,z⟩:=hs T' o' q' n3
    rw [h6] at z;cases z
    exact absurd h7 (hd ts)
  · rw [PySem.W.hideAll_get _ q n3] at hbT;cases hbT
end
def CXF (P:Program) (w:World):CXT:=fun outer H s E e s'=>∃ (ea T:Addr) (cls:Value) (H':Hp),e = .ref ea/\s'.os = s.os/\AllBare s'.gens/\Un (frs outer) [] H H' s.heap s'.heap/\HOk P w H' s'.heap/\
 s.heap.get? ea = none/\s.heap.get? T = none/\H' ea = none/\H' T = none/\Fly outer ea T cls s'.heap/\E cls none H'
section
theorem Past.hok (p:Past l e T h h') (ok:HOk P w H h) (he:H e = none) (hT:H T = none) (hf:∀ b∈frs l,H b = none):HOk P w H h':=fun a o q=>by
 refine (ok a o q).stay (fun b u hb z=>p.keep b u z ?_ ?_ ?_) (fun _ z=>z) fun _ _ z=>z
 · rintro rfl
   grind
 · rintro rfl
   grind
 · intro hm
   simp_all
theorem Past.un (p:Past l e T h h') (u:Un fs [] H0 H h0 h) (h1:h0.get? e = none) (h2:h0.get? T = none) (hl:∀ b∈frs l,b∈fs\/h0.get? b = none):Un fs [] H0 H h0 h':=by
 have n1:∀ {b o},h0.get? b = some o->b≠e:=fun q z=>by grind
 have n2:∀ {b o},h0.get? b = some o->b≠T:=fun q z=>by grind
 have n3:∀ {b o},h0.get? b = some o->b∈frs l->b∈fs:=fun {b o} q z=>by grind
 refine⟨fun b o q n hb _=>?_,fun b o q n hb _=>?_,u.free,fun b o q _=>?_,u.tups,u.frzs,u.tbls⟩
 · exact p.keep b o (u.keep b o q n hb (by simp)) (n1 q) (n2 q) fun z=>hb (n3 q z)
 · obtain⟨sl,q1⟩:=u.slot b o q n hb (by simp)
   by_cases z:b∈frs l
   · obtain⟨sl',q2⟩:=p.slot b _ q1 z
     exact⟨sl',q2⟩
   · exact⟨sl,p.keep b _ q1 (n1 q) (n2 q) z⟩
 · obtain⟨o',q1⟩:=u.there b o q (by simp)
   exact p.there b o' q1 (n2 q)
end
section
variable {K:PySem.W.Frag}
theorem passF:Passes (CXF P w) (cxOf (CXF P w) P w K mg base N qual scope f cd A outer s H E) E:=by
 intro pins σ H1 s1 e s2 I h
 obtain⟨ea,T,cls,H2,rfl,os,bare,un,hok,he,hT,he2,hT2,fly,hE⟩:=h
 have J:=I.call' os un hok bare (fun _ z=>nomatch z)
 have b0:∀ b o,s.heap.get? b = some o->∃ o',s1.heap.get? b = some o':=fun b o q=>I.base.there b o q (by show b∉([]:List Addr);simp)
 have n0:∀ b,s1.heap.get? b = none->s.heap.get? b = none:=fun b q=>by
  cases z:s.heap.get? b with
  | none=>rfl
  | some o=>obtain⟨o',y⟩:=b0 b o z;rw [q] at y;cases y
 refine fly_leave (env:=envOfC qual scope s.heap.objs.size f cd) (outer:=outer) I.ok.frames rfl fly fun h' T' f' p hT'=>?_
 have hT3:s.heap.get? T' = none:=by
  rcases hT' with rfl | z
  · exact n0 _ hT
  · cases y:s.heap.get? T' with
    | none=>rfl
    | some o=>
     obtain⟨o',x⟩:=J.base.there T' o y (by show T'∉([]:List Addr);simp)
     rw [z] at x;cases x
 have hT4:H2 T' = none:=by
  rcases hT' with rfl | z
  · exact hT2
  · exact hokNone hok z
 refine⟨ea,T',cls,H2,rfl,J.os,bare,p.un J.base (n0 _ he) (n0 _ hT) fun b hb=>?_,p.hok hok he2 hT2 J.stkFree,n0 _ he,hT3,he2,hT4,f',hE⟩
 have hb':b∈s.heap.objs.size :: frs outer:=J.stkSub b hb
 rcases List.mem_cons.mp hb' with z | z
 · exact .inr (by rw [z];exact Heap.get?_none_of_le (Nat.le_refl _))
 · exact .inl z
def Throws (X:Cx) (E:XK):Prop:=∀ (pins:List (Addr×Obj)) (σ:L2.St) (H:Hp) (s:Shared) (h':Heap) (e:Addr) (cls:Value) (args:List Value),Inv X pins σ H s->Heap.MadeExcOf s.heap h' e cls args->E cls none H->X.xe (.ref e) { s with heap:=h' }
theorem throwF:Throws (cxOf (CXF P w) P w K mg base N qual scope f cd A outer s H E) E:=by
 intro pins σ H1 s1 h1 e cls args I hx hE
 have fr:FrOk (envOfC qual scope s.heap.objs.size f cd :: outer) s1.heap:=frOf I.stack
 have hb0:∀ b,s1.heap.get? b = none->s.heap.get? b = none:=fun b q=>by
  cases z:s.heap.get? b with
  | none=>rfl
  | some o=>obtain⟨o',y⟩:=I.base.there b o z (by show b∉([]:List Addr);simp);rw [q] at y;cases y
 refine fly_begin (env:=envOfC qual scope s.heap.objs.size f cd) (outer:=outer) (h:=s1.heap) I.ok.frames rfl fr hx fun h' T' f' keep slot hT=>?_
 have hl:∀ b∈frs (envOfC qual scope s.heap.objs.size f cd :: outer),b∈frs outer\/s.heap.get? b = none:=fun b hb=>by
  have hb':b∈s.heap.objs.size :: frs outer:=I.stkSub b hb
  rcases List.mem_cons.mp hb' with z | z
  · exact .inr (by rw [z];exact Heap.get?_none_of_le (Nat.le_refl _))
  · exact .inl z
 have hfree:∀ b∈frs (envOfC qual scope s.heap.objs.size f cd :: outer),H1 b = none:=I.stkFree
 have un:Un (frs outer) [] H H1 s.heap h':=by
  have u:=I.base
  refine⟨fun b o q n hb _=>?_,fun b o q n hb _=>?_,fun b o q n _=>u.free b o q n (by show b∉([]:List Addr);simp),fun b o q _=>?_,u.tups,u.frzs,u.tbls⟩
  · refine keep b o (u.keep b o q n hb (by show b∉([]:List Addr);simp)) fun z=>?_
    rcases hl b z with y | y
    · exact hb y
    · rw [y] at q;cases q
  · obtain⟨sl,q1⟩:=u.slot b o q n hb (by show b∉([]:List Addr);simp)
    by_cases z:b∈frs (envOfC qual scope s.heap.objs.size f cd :: outer)
    · obtain⟨sl',q2⟩:=slot b _ q1 z
      exact⟨sl',q2⟩
    · exact⟨sl,keep b _ q1 z⟩
  · obtain⟨o',q1⟩:=u.there b o q (by show b∉([]:List Addr);simp)
    by_cases z:b∈frs (envOfC qual scope s.heap.objs.size f cd :: outer)
    · obtain⟨sl',q2⟩:=slot b _ q1 z
      exact⟨_,q2⟩
    · exact⟨_,keep b _ q1 z⟩
 have hok:HOk P w H1 h':=fun a o q=>by
  refine (I.hok a o q).stay (fun b u hb z=>keep b u z fun hm=>?_) (fun _ z=>z) fun _ _ z=>z
  simp_all
 exact⟨e,T',cls,H1,rfl,I.os,I.bare,un,hok,hb0 e hx.new,hb0 T' hT,hokNone I.hok hx.new,hokNone I.hok hT,f',hE⟩
end
structure OwnE (K:PySem.W.Frag) (C:Addr):Prop where
 q:PySem.W.excIn K C [.type "ValueError",.type "Exception",.type "BaseException",.type "object"] "ValueError.__new__" = true
theorem OwnE.obj {K:PySem.W.Frag}{C:Addr}{h:Heap} (O:OwnE K C) (X:K.In h):∃ bm N nm q bs hdct sn sub ab col dd k0 k1 k2 k3 k5 mN,h.get? C = some (excClassObj nm q C N bs bm hdct sn sub ab col dd k0 k1 k2 k3 k5 "ValueError.__new__")/\h.Ns N mN/\mN "__init__" = none/\
 OwnTail h [.type "ValueError",.type "Exception",.type "BaseException",.type "object"] bm:=by
 have q:=O.q
 unfold PySem.W.excIn at q
 split at q
 · rename_i dd cl sl lk
   split at q
   · rename_i C1 bm a0 a1 a2 a3 n a5 em es
     simp only [Bool.and_eq_true,beq_iff_eq,Bool.not_eq_true'] at q
     obtain⟨⟨⟨⟨⟨e1,e2⟩,e3⟩,e4⟩,e5⟩,e6⟩:=q
     subst e1;subst e2
     obtain⟨c1,c2,c3,c4,c5,c6,c7,c8,c9,c10,c11⟩:=cl
     dsimp only at em e3 e5 e6
     subst em;subst e3
     have hsl:sl = #[a0,a1,a2,a3,some (.builtin "ValueError.__new__"),a5]:=by
      cases sl with
      | mk l=>simp only at es;rw [es]
     subst hsl
     exact⟨bm,c4,c1,c5,c2,c6,c7,c8,c9,c10,dd,a0,a1,a2,a3,a5,_,X _ _ lk,.of_isNs (PySem.W.isNs_of_in X e5),PySem.W.nsMap_none_of_in X e5 e6,PySem.W.tail_of_in X e4⟩
   · cases q
 · cases q
section
variable {np cpos pos:Pos}
def tRaise (C:Addr) (E:XK) (te:TE):TS:=fun _ σ H=>te σ H fun _ H1=>E (.ref C) none H1
theorem ps_raise (O:OwnE X.K C) (hm:X.mg x = some (.ref C)) (hg:Gl X x) (hc:X.calm = true) (ht:Throws X E) (he:PE X e0 te) (hdb:(x == ("__debug__" : Str)) = false:=by decide)
 (hst:starEach [e0] X.env = [(false,eval e0 X.env)]:=by rfl):PS X (.Raise (some (.Call (.Name x np) [e0] [] cpos)) none pos) (tRaise C E te):=by
 intro pins s σ H D I h
 obtain⟨bm,N,nm,q,bs,hdct,sn,sub,ab,col,dd,k0,k1,k2,k3,k5,mN,hC,hN,hni,T⟩:=O.obj I.ok.mod.kin
 refine wpAny_Raise_call_subT (nm:=nm) (q:=q) (N:=N) (bs:=bs) (hdct:=hdct) (sn:=sn) (sub:=sub) (ab:=ab) (col:=col) (dd:=dd) (k0:=k0) (k1:=k1) (k2:=k2) (k3:=k3) (k5:=k5)
  F.excBase_ValueError (T.hasType F.excBase_ValueError.hasBase) (I.ok.hd hc) (by rw [hst];rfl) hni (ld_glob I hg hm ⟨rfl,?_⟩ hdb)
 rw [hst]
 refine Calls.evalArgs_plain (Calls.spliced_cons (thn (he pins s σ H _ I h) fun u s1 ⟨v,H1,I1,r1,q1⟩=>Calls.spliced_nil ?_))
 exact⟨rfl,by show 1<=sizeLine;decide,I1.bk _ _ hC,hN.keeps I1.bk,T.keeps I1.bk,fun h' e hx=>ht pins σ H1 s1 h' e _ _ I1 hx q1⟩
def ExcO (e C:Addr):HO:=.ext (ExcAt e C)
inductive TyX (K:PySem.W.Frag) (H:Hp):V->Value->Prop where
 | of {v:V}{t:Value} (h:TyOf K H v t):TyX K H v t
 | exc {e C:Addr} (h:H e = some (ExcO e C)) (T:ExcC K C):TyX K H (.ref e) (.ref C)
theorem isinstX {σ:L2.St} (I:Inv X pins σ H s) (rx:RelV y u) (ty:TyX X.K H y t) (hk:PySem.W.kitOne X.K t c = some b)
 (h:∀ tk,Q (.bool b) { s with toks:=tk }):wpAny (model X.prog X.w) A (call (.builtin "isinstance") [u,c]) Q Eo s:=by
 cases ty with
 | of z=>exact isinst_ok I rx z hk h
 | @exc e C z T=>
  cases (rx)
  obtain⟨p,_⟩:=(I.hok e _ z)
  exact PySem.W.kia_one (kitx_exc T) I.kIn p hk (fun z=>nomatch z) h
theorem isinstXs {σ:L2.St}{H:Hp}{u:Value} (I:Inv X pins σ H s) (z:H e = some (ExcO e C)) (T:ExcC X.K C)
 (htp:IsTup s.heap tp its.toArray) (hk:PySem.W.kitAny X.K (.ref C) its = some b) (h:∀ tk,Q (.bool b) { s with toks:=tk }):wpAny (model X.prog X.w) A (call (.builtin "isinstance") [.ref e,.ref tp]) Q Eo s:=by
 obtain⟨p,_⟩:=(I.hok e _ z)
 obtain⟨⟨oc,od,odt,osl⟩,h1,h2,n,h3⟩:=htp
 have e1:=h2
 have e2:=h3
 subst e1;subst e2
 exact PySem.W.kia_tup (kitx_exc T) I.kIn p h1 hk (fun z=>nomatch z) h
end
section
variable {σ:L2.St}
structure Apart (X:Cx) (pins:List (Addr×Obj)) (H:Hp) (ea T:Addr):Prop where
 pin:∀ p∈X.pn ++ pins,p.1≠ea/\p.1≠T
 s0:X.s₀.heap.get? ea = none
 t0:X.s₀.heap.get? T = none
 he:H ea = none
 hT:H T = none
end
abbrev XS:=Value->L2.St->Hp->Prop
def XP (X:Cx) (pins:List (Addr×Obj)) (E:XS) (e:Value) (s':Shared):Prop:=∃ (ea T:Addr) (cls:Value) (σ':L2.St) (H':Hp),e = .ref ea/\Inv X pins σ' H' s'/\Apart X pins H' ea T/\Fly X.stack ea T cls s'.heap/\E cls σ' H'
def mroE (C B:Addr):List Value:=[.ref C,.ref B,.type "ValueError",.type "Exception",.type "BaseException",.type "object"]
def eclsIn (K:PySem.W.Frag) (C B:Addr):Bool:=
 PySem.W.excIn K C [.type "ValueError",.type "Exception",.type "BaseException",.type "object"] "ValueError.__new__" &&
 (PySem.W.findIn K (.ref C) "__getattribute__" == some (some (.builtin "BaseException.__getattribute__"))) && (PySem.W.findIn K (.ref C) "__getattr__" == some none) &&
 (PySem.W.findIn K (.ref C) "__class__" == some (some (.builtin "object.__class__"))) && (PySem.W.specialIn K (.builtin "object.__class__") "__get__" == some (some (.builtin "getset_descriptor.__get__"))) &&
 (PySem.W.takesIn K (.builtin "object.__class__") == some true) && ((PySem.W.clsIn K C).map (·.mro) == some (mroE C B)) && (PySem.W.typeIn K (.ref C) == some (.type "type"))
structure ECls (K:PySem.W.Frag) (mg:Str->Option Value) (x:Str) (C B:Addr):Prop where
 mgx:mg x = some (.ref C)
 inK:eclsIn K C B = true
section
variable {K:PySem.W.Frag}
theorem eclsIn_all (h:eclsIn K C B = true):OwnE K C/\ExcC K C/\(∃ cd,PySem.W.clsIn K C = some cd/\cd.mro = mroE C B)/\PySem.W.typeIn K (.ref C) = some (.type "type"):=by
 unfold eclsIn at h
 simp only [Bool.and_eq_true,beq_iff_eq] at h
 obtain⟨⟨⟨⟨⟨⟨⟨h1,h2⟩,h3⟩,h4⟩,h5⟩,h6⟩,h7⟩,h8⟩:=h
 obtain⟨cd,q1,q2⟩:=Option.map_eq_some_iff.mp h7
 have mro:∀ b,PySem.W.mroIn K C b = some _:=fun b=>by
  unfold PySem.W.mroIn
  rw [q1,Option.bind_some,q2]
  rfl
 refine⟨⟨h1⟩,⟨h2,h3,h4,h5,h6,?_,?_⟩,⟨cd,q1,q2⟩,h8⟩
 · rw [mro];rfl
 · rw [mro];rfl
theorem ECls.own (e:ECls K mg x C B):OwnE K C:=(eclsIn_all e.inK).1
structure BCls (K:PySem.W.Frag) (mg:Str->Option Value) (x:Str) (B:Addr):Prop where
 mgx:mg x = some (.ref B)
 cls:(PySem.W.clsIn K B).isSome = true
 ty:PySem.W.typeIn K (.ref B) = some (.type "type")
 exc:PySem.W.mroIn K B (.type "BaseException") = some true
theorem Fun.okX {st:Stmt} (F:Fun K x qual st f fd) (S:FnScope N ps (defScope st)) (len:∀ vs H Q E,sp vs H Q E->vs.length = ps.length)
 (hbody:∀ (cdv:Value) (A:Around) (outer:List Env) (s:Shared) (H:Hp) (vs:List V) (Q:VK) (E:XK),Room k (A.deeper (envOfC qual (defScope st) s.heap.objs.size f cdv))->sp vs H Q E->
  ∃ t,PSs (cxOf (CXF P w) P w K mg base N qual (defScope st) f cdv A outer s H E) (defBody st) t/\t { nx:=fun _ H'=>Q .non H',rt:=Q } (start N vs) H):FnOk P w K mg base (CXF P w) (k + 1) f fd ps sp:=by
 obtain⟨oc,od,kV,doc,pm,an,cdv,ct,osl,rfl,lk,hcd⟩:=F.ex
 exact fn_of lk hcd S len fun A outer s H vs Q E hr hsp=>hbody cdv A outer s H vs Q E hr hsp
end
section
variable {x n:Str}
theorem r_raise (ec:ECls X.K X.mg x C B) (hg:Gl X x) (hc:X.calm = true) (ht:Throws X E) (hdb:(x == ("__debug__" : Str)) = false) (hst:starEach [e0] X.env = [(false,eval e0 X.env)]) (he:PE X e0 te):
 PS X (.Raise (some (.Call (.Name x np) [e0] [] cpos)) none pos) (tRaise C E te):=ps_raise ec.own ec.mgx hg hc ht he hdb hst
theorem r_bty (hg:Gl X x) (hm:X.mg x = none) (hv:bootBuiltins x = some (.type T)) (hn:x≠"__name__") (hdb:(x == ("__debug__" : Str)) = false):PE X (.Name x pos) (tC (.ty T)):=pe_bltn hg hm hv rfl hn hdb
def rIsi (K:PySem.W.Frag):List V->Hp->VK->Prop:=fun xs H Q=>(∃ z ty c b,xs = [z,.ty c]/\TyX K H z ty/\PySem.W.kitOne K ty (.type c) = some b/\Q (.bl b) H)\/
 (∃ z ty C b,xs = [z,.ref C]/\TyX K H z ty/\PySem.W.kitOne K ty (.ref C) = some b/\Q (.bl b) H)\/
 ∃ (e C tp:Addr) (Cs:List Addr) (b:Bool),xs = [.ref e,.ref tp]/\H e = some (ExcO e C)/\ExcC K C/\H tp = some (.tup (Cs.map V.ref))/\PySem.W.kitAny K (.ref C) (Cs.map Value.ref) = some b/\Q (.bl b) H
theorem valsRef:∀ {Cs:List Addr}{us:List Value},Vals (Cs.map V.ref) us->us = Cs.map Value.ref
 | [],_,.nil=>rfl
 | _ :: _,_,.cons r t=>by rw [List.map_cons,<- valsRef t];cases r;rfl
theorem call_isiX:CallR X (.builtin "isinstance") (rIsi X.K):=by
 intro pins s σ H xs us Q I r h
 rcases h with ⟨z,ty,c,b,rfl,ht,hk,q⟩ | ⟨z,ty,C,b,rfl,ht,hk,q⟩ | ⟨e,C,tp,Cs,b,rfl,he,T,htp,hk,q⟩
 · obtain⟨u,w',rfl,r1,r2⟩:=vals2 r
   cases r2
   exact isinstX I r1 ht hk fun tk=>⟨.bl b,H,I.tok _,rfl,q⟩
 · obtain⟨u,w',rfl,r1,r2⟩:=vals2 r
   cases r2
   exact isinstX I r1 ht hk fun tk=>⟨.bl b,H,I.tok _,rfl,q⟩
 · obtain⟨u,w',rfl,r1,r2⟩:=vals2 r
   cases r1
   cases r2
   obtain⟨its,rv,hT,_⟩:=I.tuple (SqT.of htp)
   rw [valsRef rv] at hT
   exact isinstXs (u:=.none) I he T hT hk fun tk=>⟨.bl b,H,I.tok _,rfl,q⟩
theorem r_isiX (hx:x = "isinstance") (hg:Gl X x) (he:starEach (e :: es) X.env = (false,eval e X.env) :: starEach es X.env) (hpl:(backTo pos (starEach es X.env)).any (·.1) = false) (hm:X.mg x = none) (ha:PA X (e :: es) t):
 PE X (.Call (.Name x p) (e :: es) [] pos) (tCB (rIsi X.K) t):=by subst hx;exact pe_callB call_isiX hg hm boot_isinstance ha (by decide) (by decide) he hpl
theorem r_callX {k:Nat}{ps:List Str}{sp:Sp} (c:Callee (CXF X.prog X.w) X.prog X.w X.K X.mg X.base x k ps sp) (hx:Passes (CXF X.prog X.w) X E) (hr:Room k X.A) (hg:Gl X x) (hdb:(x == ("__debug__" : Str)) = false)
 (he:starEach (e :: es) X.env = (false,eval e X.env) :: starEach es X.env) (hpl:(backTo pos (starEach es X.env)).any (·.1) = false) (ha:PA X (e :: es) t):PE X (.Call (.Name x p) (e :: es) [] pos) (tCall sp [] E t):=by
 obtain⟨f,fd,F,hm,hk,hb⟩:=c.ex
 exact pe_call F hr hg hm hk hb .nil hx ha hdb he hpl
end
def Bd (n:Nat) (i:Int):Prop:=i.natAbs < 2 ^ n
theorem Bd.mono (h:Bd m i) (hm:m<=n):Bd n i:=Nat.lt_of_lt_of_le h (Nat.pow_le_pow_right (by decide) hm)
theorem Bd.mul (h1:Bd m i) (h2:Bd n j):Bd (m + n) (i * j):=by
 unfold Bd at *
 rw [Int.natAbs_mul,Nat.pow_add]
 exact Nat.mul_lt_mul'' h1 h2
theorem Bd.le (h:Bd n i) (hj:j.natAbs<=i.natAbs):Bd n j:=Nat.lt_of_le_of_lt hj h
theorem Bd.pos (h:Bd n i) (hp:0 < i) (hn:n<=8000:=by decide):CDivB 0 i:=by
 refine⟨hp,?_⟩
 have q:=h.mono hn
 unfold Bd at q
 grind
def CDivX (i j:Int):Prop:=j≠0/\j.natAbs < 2 ^ 8000
theorem op_fdivX {X:Cx}:OpR X (binaryOp .FloorDiv) (rI CDivX fun i j=>.int (i.fdiv j)):=opI fun i j _ _ _ _ _ hc q=>by
 refine floordiv_int hc.1 q (.inl (PyProof.noPylong_of_log2 ?_))
 have h0:j.natAbs≠0:=by have:=hc.1;omega
 have h2:j.natAbs.log2 < 8000:=(Nat.log2_lt h0).mpr hc.2
 omega
structure JE (X:Cx) (e:Expr) (t:TE):Prop where h:PE X e t
structure JT (X:Cx) (e:Expr) (t:TT):Prop where h:PT X e t
structure JW (X:Cx) (e:Expr) (t:TT):Prop where h:PW X e t
structure JA (X:Cx) (es:List Expr) (t:TA):Prop where h:PA X es t
structure JO (X:Cx) (e:Option Expr) (t:TO):Prop where h:PO X e t
structure JI (X:Cx) (tg it:Expr) (t:TI):Prop where h:PI X tg it t
structure JG (X:Cx) (tg:Expr) (t:TG):Prop where h:PG X tg t
structure JS (X:Cx) (st:Stmt) (t:TS):Prop where h:PS X st t
structure JSs (X:Cx) (st:List Stmt) (t:TS):Prop where h:PSs X st t
structure JOp (X:Cx) (op:Operator) (r:R2):Prop where h:OpR X (binaryOp op) r
structure JCop (X:Cx) (op:CmpOp) (r:R2):Prop where h:OpR X (compareOp op) r
section
variable {es rest:List Expr}{x n:Str}
theorem j_int:JE X (.Constant (.int k) q pos) (tC (.int k)):=⟨pe_int⟩
theorem j_bl:JE X (.Constant (.bool k) q pos) (tC (.bl k)):=⟨pe_bl⟩
theorem j_non:JE X (.Constant .none q pos) (tC .non):=⟨pe_non⟩
theorem j_str:JE X (.Constant (.str k) q pos) (tC (.str k)):=⟨pe_str⟩
theorem j_name (h:At X.N i x) (hk:X.env.scope.names.lookup x = some .local) (hd:(x == ("__debug__" : Str)) = false) (hcd:(x == ("__classdict__" : Str)) = false):JE X (.Name x pos) (tVar i):=⟨r_name h hk hd hcd⟩
theorem j_bin (ho:JOp X op r) (ha:JE X a ta) (hb:JE X b tb):JE X (.BinOp a op b pos) (tOp r ta tb):=⟨r_bin ho.h ha.h hb.h⟩
theorem o_add:JOp X .Add (fun x y H Q=>rI0 (fun i j=>.int (i + j)) x y H Q\/rCatS x y H Q):=⟨op_add.or op_catS⟩
theorem o_sub:JOp X .Sub (rI0 fun i j=>.int (i - j)):=⟨op_sub⟩
theorem o_mod:JOp X .Mod (rI (fun _ j=>0 < j) fun i j=>.int (i % j)):=⟨op_mod⟩
theorem o_fdiv:JOp X .FloorDiv (rI CDivB fun i j=>.int (i / j)):=⟨op_fdivB⟩
theorem o_fdivX:JOp X .FloorDiv (rI CDivX fun i j=>.int (i.fdiv j)):=⟨op_fdivX⟩
theorem o_pow:JOp X .Pow (rI CPow fun i j=>.int (i ^ j.toNat)):=⟨op_pow⟩
theorem c_eq:JCop X .Eq rEq:=⟨op_eq⟩
theorem c_ne:JCop X .NotEq rNe:=⟨op_ne⟩
theorem c_lt:JCop X .Lt (rI0 fun i j=>.bl (decide (i < j))):=⟨op_lt⟩
theorem c_gt:JCop X .Gt (rI0 fun i j=>.bl (decide (j < i))):=⟨op_gt⟩
theorem c_ge:JCop X .GtE (rI0 fun i j=>.bl (decide (j<=i))):=⟨op_ge⟩
theorem c_isnot:JCop X .IsNot (fun x y H Q=>∃ a b:Bool,x = .bl a/\y = .bl b/\Q (.bl (!decide (a = b))) H):=⟨op_isnotB⟩
theorem j_ix (hs:PlainIx b) (ha:JE X a ta) (hb:JE X b tb):JE X (.Subscript a b pos) (tOp (rIx X.K) ta tb):=⟨r_ix hs ha.h hb.h⟩
theorem j_onone:JO X none tNoPart:=⟨po_none⟩
theorem j_osome (h:JE X e te):JO X (some e) (tPart te):=⟨po_some h.h⟩
theorem j_tup (h:JA X es t):JE X (.Tuple es k pos) (tTupS t):=⟨r_tupS h.h⟩
theorem j_lst (h:JA X es t):JE X (.List es pos) (tLstS t):=⟨r_lstS h.h⟩
theorem j_dict0:JE X (.Dict [] [] pos) tDNewS:=⟨r_dict0S⟩
theorem j_cmp (h1:op≠.In) (h2:op≠.NotIn) (ho:JCop X op r) (ha:JE X a ta) (hb:JE X b tb):JE X (.Compare a [op] [b] pos) (tOp r ta tb):=⟨r_cmp h1 h2 ho.h ha.h hb.h⟩
theorem j_neg (ha:JE X a ta):JE X (.UnaryOp .USub a pos) (tUn (rU fun i=>.int (-i)) ta):=⟨r_neg ha.h⟩
theorem j_not (ha:JE X a ta):JE X (.UnaryOp .Not a pos) (tNotV ta):=⟨pe_not ha.h⟩
theorem j_and (ha:JE X a ta) (hb:JE X (.BoolOp .And (b :: rest) pos) tb):JE X (.BoolOp .And (a :: b :: rest) pos) (tAndV ta tb):=⟨pe_and ha.h hb.h⟩
theorem j_or (ha:JE X a ta) (hb:JE X (.BoolOp .Or (b :: rest) pos) tb):JE X (.BoolOp .Or (a :: b :: rest) pos) (tOrV ta tb):=⟨pe_or ha.h hb.h⟩
theorem j_one (h:JE X a ta):JE X (.BoolOp op [a] pos) ta:=⟨pe_one h.h⟩
theorem j_bty (hg:Gl X x) (hm:X.mg x = none) (hv:bootBuiltins x = some (.type T)) (hn:x≠"__name__") (hdb:(x == ("__debug__" : Str)) = false):JE X (.Name x pos) (tC (.ty T)):=⟨r_bty hg hm hv hn hdb⟩
theorem j_append (hbase:attributeBase o "append" X.env (eval o X.env) = eval o X.env) (hfew:((backTo cpos (starEach [e] X.env)).all (fun x=>!x.1) && (backToKw cpos (keywordEach [] X.env)).all (fun x=>x.1.isSome)
 && decide (([e]:List Expr).length + ([]:List Keyword).length + (if ([]:List Keyword).isEmpty then 0 else 1) < 30)) = true) (hline:(apos.endLine == cpos.line) = true) (hs:starEach [e] X.env = (false,eval e X.env) :: starEach [] X.env)
 (hpl:(backTo cpos (starEach [] X.env)).any (·.1) = false) (ho:JE X o to) (ha:JA X [e] t):JE X (.Call (.Attribute o "append" apos) [e] [] cpos) (tBM X.K "list" rAppend to t):=⟨r_append hbase hfew hline hs hpl ho.h ha.h⟩
theorem j_call (c:Callee CX0 X.prog X.w X.K X.mg X.base x k ps sp) (hr:Room k X.A) (hg:Gl X x) (hdb:(x == ("__debug__" : Str)) = false)
 (he:starEach (e :: es) X.env = (false,eval e X.env) :: starEach es X.env) (hpl:(backTo pos (starEach es X.env)).any (·.1) = false) (ha:JA X (e :: es) t):JE X (.Call (.Name x p) (e :: es) [] pos) (tCall sp [] E0 t):=⟨r_call c hr hg hdb he hpl ha.h⟩
theorem j_callX (c:Callee (CXF X.prog X.w) X.prog X.w X.K X.mg X.base x k ps sp) (hx:Passes (CXF X.prog X.w) X E) (hr:Room k X.A) (hg:Gl X x) (hdb:(x == ("__debug__" : Str)) = false)
 (he:starEach (e :: es) X.env = (false,eval e X.env) :: starEach es X.env) (hpl:(backTo pos (starEach es X.env)).any (·.1) = false) (ha:JA X (e :: es) t):JE X (.Call (.Name x p) (e :: es) [] pos) (tCall sp [] E t):=⟨r_callX c hx hr hg hdb he hpl ha.h⟩
section
variable (hg:Gl X x) (he:starEach (e :: es) X.env = (false,eval e X.env) :: starEach es X.env) (hpl:(backTo pos (starEach es X.env)).any (·.1) = false)
include hg he hpl
theorem j_isi (hx:x = "isinstance") (hm:X.mg x = none) (ha:JA X (e :: es) t):JE X (.Call (.Name x p) (e :: es) [] pos) (tCB (rIsi X.K) t):=⟨r_isiX hx hg he hpl hm ha.h⟩
theorem j_len (hx:x = "len") (hm:X.mg x = none) (ha:JA X (e :: es) t):JE X (.Call (.Name x p) (e :: es) [] pos) (tCB (rLen X.K) t):=⟨r_len hg he hpl hx hm ha.h⟩
theorem j_abs (hx:x = "abs") (hm:X.mg x = none) (ha:JA X (e :: es) t):JE X (.Call (.Name x p) (e :: es) [] pos) (tCB (fun xs H Q=>∃ i,xs = [.int i]/\Q (.int (if i < 0 then -i else i)) H) t):=⟨r_abs hg he hpl hx hm ha.h⟩
theorem j_max (hx:x = "max") (hc:X.calm = true) (hm:X.mg x = none) (ha:JA X (e :: es) t):JE X (.Call (.Name x p) (e :: es) [] pos) (tCB (fun xs H Q=>∃ i j,xs = [.int i,.int j]/\Q (.int (if j > i then j else i)) H) t):=⟨r_max hg he hpl hx hc hm ha.h⟩
theorem j_min (hx:x = "min") (hc:X.calm = true) (hm:X.mg x = none) (ha:JA X (e :: es) t):JE X (.Call (.Name x p) (e :: es) [] pos) (tCB (fun xs H Q=>∃ i j,xs = [.int i,.int j]/\Q (.int (if j < i then j else i)) H) t):=⟨r_min hg he hpl hx hc hm ha.h⟩
theorem j_intc (hx:x = "int") (hm:X.mg x = none) (ha:JA X (e :: es) t):JE X (.Call (.Name x p) (e :: es) [] pos) (tCB (fun xs H Q=>(∃ i,xs = [.int i]/\Q (.int i) H)\/∃ k,xs = [.bl k]/\Q (.int (if k then 1 else 0)) H) t):=⟨r_intc hg he hpl hx hm ha.h⟩
end
theorem j_nil:JA X [] tNil:=⟨pa_nil⟩
theorem j_cons (hs:starEach (e :: es) X.env = (false,eval e X.env) :: starEach es X.env) (ha:JE X e te) (hr:JA X es t):JA X (e :: es) (tCons te t):=⟨r_acons hs ha.h hr.h⟩
theorem u_cmp (h1:op≠.In) (h2:op≠.NotIn) (ho:JCop X op r) (ha:JE X a ta) (hb:JE X b tb):JT X (.Compare a [op] [b] pos) (tTest (tOp r ta tb)):=⟨t_cmp h1 h2 ho.h ha.h hb.h⟩
theorem u_or (h:JW X (.BoolOp .Or es pos) tA):JT X (.BoolOp .Or es pos) tA:=⟨h.h.pt⟩
theorem u_and (h:JW X (.BoolOp .And es pos) tA):JT X (.BoolOp .And es pos) tA:=⟨h.h.pt⟩
theorem u_not (ha:JT X a tA):JT X (.UnaryOp .Not a pos) (tNot tA):=⟨pt_not ha.h⟩
theorem u_call (h:JE X (.Call f es ks pos) te):JT X (.Call f es ks pos) (tB te):=⟨t_call h.h⟩
theorem w_and1 (ha:JT X a tA):JW X (.BoolOp .And [a] pos) tA:=⟨pw_and1 ha.h⟩
theorem w_or1 (ha:JT X a tA):JW X (.BoolOp .Or [a] pos) tA:=⟨pw_or1 ha.h⟩
theorem w_and (ha:JT X a tA) (hb:JW X (.BoolOp .And (b :: rest) pos) tB'):JW X (.BoolOp .And (a :: b :: rest) pos) (tAnd tA tB'):=⟨pw_and ha.h hb.h⟩
theorem w_or (ha:JT X a tA) (hb:JW X (.BoolOp .Or (b :: rest) pos) tB'):JW X (.BoolOp .Or (a :: b :: rest) pos) (tOr tA tB'):=⟨pw_or ha.h hb.h⟩
theorem i_range1 (hx:x = "range") (hg:Gl X x) (hm:X.mg x = none) (hs:starEach [a] X.env = [(false,eval a X.env)]) (ha:JA X [a] t):JI X tg (.Call (.Name x p) [a] [] pos) (iRng1 t):=⟨r_irange1 hx hg hm hs ha.h⟩
theorem i_range2 (hx:x = "range") (hg:Gl X x) (hm:X.mg x = none) (hs:starEach [a,b] X.env = [(false,eval a X.env),(false,eval b X.env)]) (hs2:starEach [b] X.env = [(false,eval b X.env)]) (ha:JA X [a,b] t):JI X tg (.Call (.Name x p) [a,b] [] pos) (iRng2 t):=⟨r_irange2 hx hg hm hs hs2 ha.h⟩
theorem g_name (h:At X.N i x) (hN:X.N.Nodup) (hk:X.env.scope.names.lookup x = some .local):JG X (.Name x pos) (gName i):=⟨r_gname h hN hk⟩
variable {st:Stmt}
theorem s_ret (he:JE X e te):JS X (.Return (some e) pos) (tRet te):=⟨r_ret he.h⟩
theorem s_set (h:At X.N i x) (hN:X.N.Nodup) (hk:X.env.scope.names.lookup x = some .local) (hs:swapsWith e (some (.Name x p)) pos.line X.env = pure false) (he:JE X e te):JS X (.Assign [.Name x p] e pos) (tAsg te (gName i)):=⟨r_set h hN hk hs he.h⟩
theorem s_expr (hs:swapsWith e none pos.line X.env = pure false) (he:JE X e te):JS X (.Expr e pos) (tDrop te):=⟨r_expr hs he.h⟩
theorem s_if (hc:JT X c tA) (ha:JSs X aa t1) (hb:JSs X bb t2):JS X (.If c aa bb pos) (tMid (tIfS tA t1 t2)):=⟨r_ifM hc.h ha.h hb.h⟩
theorem s_for {tb:TS} (hp:PassesOwn (model X.prog X.w) X.A X.env X.xe) (hc:X.calm = true) (hs:∀ x,foldedSetIterable iter X.env x = pure x) (hi:JI X tg iter wi) (hg:JG X tg g) (hb:JSs X body tb):JS X (.For tg iter body [] pos) (tFor wi g tb):=⟨r_for hp hc hs hi.h hg.h hb.h⟩
theorem s_while {tb:TS} (hp:PassesOwn (model X.prog X.w) X.A X.env X.xe) (hc:JT X c tA) (hb:JSs X body tb):JS X (.While c body [] pos) (tWhile tA tb):=⟨r_while hp hc.h hb.h⟩
theorem s_par {y:Str}{px py pt pt2:Pos}{kt k2:Nat} (hi:At X.N i x) (hj:At X.N j y) (hij:i≠j) (hc:X.calm = true) (hN:X.N.Nodup)
 (hx:X.env.scope.names.lookup x = some .local) (hy:X.env.scope.names.lookup y = some .local) (hw:swappedStores [.Tuple [.Name x px,.Name y py] kt pt] (.Tuple [a,b] k2 pt2) X.env = pure (some [x,y]))
 (hs:swapsWithSole [.Tuple [.Name x px,.Name y py] kt pt] (.Tuple [a,b] k2 pt2) pos.line X.env = pure false) (ha:JA X [a,b] t):
 JS X (.Assign [.Tuple [.Name x px,.Name y py] kt pt] (.Tuple [a,b] k2 pt2) pos) (tPar i j t):=⟨r_par hi hj hij hc hN hx hy hw hs ha.h⟩
theorem s_unpack2 (hi:At X.N i x) (hj:At X.N j y) (hc:X.calm = true) (hN:X.N.Nodup) (hx:X.env.scope.names.lookup x = some .local) (hy:X.env.scope.names.lookup y = some .local)
 (h1:(assignEach [.Name x px,.Name y py] X.env).map (·.2) = assign (.Name x px) X.env :: (assignEach [.Name y py] X.env).map (·.2))
 (h2:(assignEach [.Name y py] X.env).map (·.2) = assign (.Name y py) X.env :: (assignEach [] X.env).map (·.2))
 (hn:(assignEach [.Name x px,.Name y py] X.env).length = 2) (hst:(assignEach [.Name x px,.Name y py] X.env).findIdx? (·.1) = none)
 (hs:swapsWithSole [.Tuple [.Name x px,.Name y py] kt pt] e pos.line X.env = pure false) (hw:swappedStores [.Tuple [.Name x px,.Name y py] kt pt] e X.env = pure none)
 (h3:(assignEach [.Tuple [.Name x px,.Name y py] kt pt] X.env).map (·.2) = [assign (.Tuple [.Name x px,.Name y py] kt pt) X.env]) (he:JE X e te):
 JS X (.Assign [.Tuple [.Name x px,.Name y py] kt pt] e pos) (tAsg te (gTup X.K 2 (gCons (gName i) (gCons (gName j) gNil)))):=⟨r_unpack2 hi hj hc hN hx hy h1 h2 hn hst hs hw h3 he.h⟩
theorem s_raise (ec:ECls X.K X.mg x C B) (hg:Gl X x) (hc:X.calm = true) (ht:Throws X E) (hdb:(x == ("__debug__" : Str)) = false) (hst:starEach [e0] X.env = [(false,eval e0 X.env)]) (he:JE X e0 te):
 JS X (.Raise (some (.Call (.Name x np) [e0] [] cpos)) none pos) (tRaise C E te):=⟨r_raise ec hg hc ht hdb hst he.h⟩
theorem ss_nil:JSs X [] tNext:=⟨pss_nil⟩
theorem ss_cons (h1:JS X st t1) (h2:JSs X sts t2):JSs X (st :: sts) (tSeq t1 t2):=⟨pss_cons h1.h h2.h⟩
end
section
variable {K:PySem.W.Frag}{st:Stmt}
theorem Fun.j (F:Fun K x qual st f fd) (S:FnScope N ps (defScope st)) (len:∀ vs H Q E,sp vs H Q E->vs.length = ps.length)
 (hbody:∀ (cdv:Value) (A:Around) (outer:List Env) (s:Shared) (H:Hp) (vs:List V) (Q:VK) (E:XK),Room k (A.deeper (envOfC qual (defScope st) s.heap.objs.size f cdv))->sp vs H Q E->
  ∃ t,JSs (cxOf CX0 P w K mg base N qual (defScope st) f cdv A outer s H E).nox (defBody st) t/\t { nx:=fun _ H'=>Q .non H',rt:=Q } (start N vs) H):FnOk P w K mg base CX0 (k + 1) f fd ps sp:=
 L2.Fun.ok F S len fun cdv A outer s H vs Q E hr h=>let ⟨t,a,b⟩:=hbody cdv A outer s H vs Q E hr h;⟨t,a.h,b⟩
theorem Fun.jX (F:Fun K x qual st f fd) (S:FnScope N ps (defScope st)) (len:∀ vs H Q E,sp vs H Q E->vs.length = ps.length)
 (hbody:∀ (cdv:Value) (A:Around) (outer:List Env) (s:Shared) (H:Hp) (vs:List V) (Q:VK) (E:XK),Room k (A.deeper (envOfC qual (defScope st) s.heap.objs.size f cdv))->sp vs H Q E->
  ∃ t,JSs (cxOf (CXF P w) P w K mg base N qual (defScope st) f cdv A outer s H E) (defBody st) t/\t { nx:=fun _ H'=>Q .non H',rt:=Q } (start N vs) H):FnOk P w K mg base (CXF P w) (k + 1) f fd ps sp:=
 Br.Fun.okX F S len fun cdv A outer s H vs Q E hr h=>let ⟨t,a,b⟩:=hbody cdv A outer s H vs Q E hr h;⟨t,a.h,b⟩
end
theorem upd_eta {H:Hp}{p:Addr}{o:HO} (h:H p = some o):upd H p o = H:=by
 funext b;unfold upd;split
 · rename_i e;rw [e,h]
 · rfl
end Br
namespace Br
def rg (t b:Int):Int:=if b < 0 then -(Int.gcd t b:Int) else (Int.gcd t b:Int)
def rN (t b:Int):Int:=t / rg t b
def rD (t b:Int):Int:=b / rg t b
theorem rg_natAbs (t b:Int):(rg t b).natAbs = Int.gcd t b:=by unfold rg;split <;> omega
theorem rg_t (t b:Int):rg t b ∣ t:=by
 unfold rg;split
 · exact Int.neg_dvd.mpr (Int.gcd_dvd_left t b)
 · exact Int.gcd_dvd_left t b
theorem rg_b (t b:Int):rg t b ∣ b:=by
 unfold rg;split
 · exact Int.neg_dvd.mpr (Int.gcd_dvd_right t b)
 · exact Int.gcd_dvd_right t b
theorem gcd_pos' {t b:Int} (hb:b≠0):0 < Int.gcd t b:=Nat.pos_of_ne_zero fun e=>hb (Int.gcd_eq_zero_iff.mp e).2
theorem rg_ne {t b:Int} (hb:b≠0):rg t b≠0:=by
 have h:=gcd_pos' (t:=t) hb
 unfold rg;split <;> omega
theorem rN_mul (t b:Int):rN t b * rg t b = t:=Int.ediv_mul_cancel (rg_t t b)
theorem rD_mul (t b:Int):rD t b * rg t b = b:=Int.ediv_mul_cancel (rg_b t b)
theorem rD_pos {t b:Int} (hb:b≠0):0 < rD t b:=by
 have h:=gcd_pos' (t:=t) hb
 have hd:=Int.gcd_dvd_right t b
 unfold rD rg
 split
 · rename_i h1
   rw [Int.ediv_neg,<- Int.neg_ediv_of_dvd hd]
   exact Int.ediv_pos_of_pos_of_dvd (by omega) (by omega) (Int.dvd_neg.mpr hd)
 · rename_i h1
   exact Int.ediv_pos_of_pos_of_dvd (by omega) (by omega) hd
theorem r_low {t b:Int} (hb:b≠0):Int.gcd (rN t b) (rD t b) = 1:=by
 unfold rN rD
 rw [Int.gcd_ediv (rg_t t b) (rg_b t b),rg_natAbs]
 exact Nat.div_self (gcd_pos' hb)
theorem r_across (t b:Int):rN t b * b = t * rD t b:=by
 have h1:=rN_mul t b
 have h2:=rD_mul t b
 calc rN t b * b = rN t b * (rD t b * rg t b):=by rw [h2]
  _ = (rN t b * rg t b) * rD t b:=by rw [Int.mul_comm (rD t b),Int.mul_assoc]
  _ = t * rD t b:=by rw [h1]
theorem rN_zero (b:Int):rN 0 b = 0:=by unfold rN;exact Int.zero_ediv _
theorem rD_zero {b:Int} (hb:b≠0):rD 0 b = 1:=by
 have e:rg 0 b = b:=by unfold rg;rw [Int.gcd_zero_left];split <;> omega
 unfold rD;rw [e];exact Int.ediv_self hb
theorem rN_le (t b:Int):(rN t b).natAbs<=t.natAbs:=Int.natAbs_ediv_le_natAbs _ _
theorem rD_le (t b:Int):(rD t b).natAbs<=b.natAbs:=Int.natAbs_ediv_le_natAbs _ _
end Br
namespace Br
open PySem PySem.Spec PySem.Calls PyProof.Rows L2
mutual
inductive Rep (H:Hp):V->PyData->Prop
 | non:Rep H .non .none
 | bl (b:Bool):Rep H (.bl b) (.bool b)
 | int (i:Int):Rep H (.int i) (.int i)
 | str (x:Str):Rep H (.str x) (.str x)
 | tup {a:Addr}{xs:List V}{ds:List PyData} (h:H a = some (.tup xs)) (r:Reps H xs ds):Rep H (.ref a) (.tuple ds)
 | lst {a:Addr}{xs:List V}{ds:List PyData} (h:H a = some (.lst xs)) (r:Reps H xs ds):Rep H (.ref a) (.list ds)
inductive Reps (H:Hp):List V->List PyData->Prop
 | nil:Reps H [] []
 | cons {x:V}{xs:List V}{d:PyData}{ds:List PyData} (h:Rep H x d) (r:Reps H xs ds):Reps H (x :: xs) (d :: ds)
end
section
mutual
theorem Rep.reads (ok:HOk P w H h):∀ {v:V}{d:PyData}{u:Value},Rep H v d->RelV v u->∃ as,Reads h u d as
 | _,_,_,.non,r=>by cases (show _ = Value.none from r);exact⟨_,.none⟩
 | _,_,_,.bl b,r=>by cases (show _ = Value.bool b from r);exact⟨_,.bool b⟩
 | _,_,_,.int i,r=>by obtain⟨t,e⟩:=(show ∃ t,_ = Value.int i t from r);subst e;exact⟨_,.int i t⟩
 | _,_,_,.str x,r=>by obtain⟨t,e⟩:=(show ∃ t,_ = Value.str x t from r);subst e;exact⟨_,.str x t⟩
 | _,_,_,.tup (a:=a) (xs:=xs) q rs,r=>by
  cases (show _ = Value.ref a from r)
  obtain⟨_,its,rv,o,h1,h2,_,n,h3⟩:=(show ObjOk P w H h a (.tup xs) from ok a _ q)
  obtain⟨as,z⟩:=Reps.reads ok rs rv
  exact⟨_,.tuple h1 h2 h3 (by simpa using z)⟩
 | _,_,_,.lst (a:=a) (xs:=xs) q rs,r=>by
  cases (show _ = Value.ref a from r)
  obtain⟨_,its,n,rv,h1⟩:=(show ObjOk P w H h a (.lst xs) from ok a _ q)
  obtain⟨as,z⟩:=Reps.reads ok rs rv
  exact⟨_,.list h1 rfl rfl (by simpa using z)⟩
theorem Reps.reads (ok:HOk P w H h):∀ {vs:List V}{ds:List PyData}{us:List Value},Reps H vs ds->Vals vs us->∃ as,ReadsAll h us ds as
 | _,_,_,.nil,.nil=>⟨_,.nil⟩
 | _,_,_,.cons q rs,.cons r t=>by
  obtain⟨as,z⟩:=Rep.reads ok q r
  obtain⟨bs,y⟩:=Reps.reads ok rs t
  exact⟨_,.cons z y⟩
end
end
def Pl (d:PyData):Prop:=d.canLay0 = true/\d.depth<=60
section
def rEqD:R2:=fun x y H Q=>∃ d d',Rep H x d/\Rep H y d'/\Pl d/\Pl d'/\Q (.bl (PyData.eqv d d')) H
def rNeD:R2:=fun x y H Q=>∃ d d',Rep H x d/\Rep H y d'/\Pl d/\Pl d'/\Q (.bl (!PyData.eqv d d')) H
theorem op_eqD (hr:Room k X.A):OpR X (compareOp .Eq) rEqD:=by
 intro pins s σ H x y v u Q I rx ry h
 obtain⟨d,d',h1,h2,p1,p2,q⟩:=h
 obtain⟨as,r1⟩:=h1.reads I.hok rx
 obtain⟨bs,r2⟩:=h2.reads I.hok ry
 have hu:=hr.un
 exact SeqAt.compareEq_reads r1 r2 p1.1 p2.1 (by have:=p1.2;omega) ⟨.bl _,H,I,rfl,q⟩
theorem op_neD (hr:Room k X.A):OpR X (compareOp .NotEq) rNeD:=by
 intro pins s σ H x y v u Q I rx ry h
 obtain⟨d,d',h1,h2,p1,p2,q⟩:=h
 obtain⟨as,r1⟩:=h1.reads I.hok rx
 obtain⟨bs,r2⟩:=h2.reads I.hok ry
 have hu:=hr.un
 exact SeqAt.compareNe_reads r1 r2 p1.1 p2.1 (by have:=p1.2;omega) ⟨.bl _,H,I,rfl,q⟩
theorem c_eqD (hr:Room k X.A):JCop X .Eq (fun x y H Q=>rEq x y H Q\/rEqD x y H Q):=⟨op_eq.or (op_eqD hr)⟩
theorem c_neD (hr:Room k X.A):JCop X .NotEq (fun x y H Q=>rNe x y H Q\/rNeD x y H Q):=⟨op_ne.or (op_neD hr)⟩
end
theorem pl_ints2 (i j:Int):Pl (.tuple [.int i,.int j]):=⟨rfl,by simp [PyData.depth,PyData.depthAll]⟩
section
abbrev testsOf (ifs:List Expr) (env:Env):Sem Bool:=forIn ifs true fun c r=>if r = true then do let ok <- isTrue c env (eval c env);pure (ForInStep.yield ok) else pure (ForInStep.yield r)
theorem compLoop_go (I:Nat->Shared->Prop)
 (turn:∀ n s,I n s->wpAny (model prog w) A (pyNext it) (fun r s₁=>match r with
  | none=>R (.ok .next) s₁
  | some v=>wpAny (model prog w) A (letOwnedTupleGo target it v) (fun _ s₁=>wpAny (model prog w) A (assign target env v) (fun _ s₂=>
   wpAny (model prog w) A (testsOf ifs env) (fun ok s₃=>
    if ok = true then wpAny (model prog w) A (eval elt env) (fun x s₄=>
     wpAny (model prog w) A (call (.builtin "list.append") [acc,x]) (fun _ s₅=>∃ m,m < n/\I m s₅) (fun _ _=>False) s₄) (fun _ _=>False) s₃
    else ∃ m,m < n/\I m s₃) (fun _ _=>False) s₂) (fun _ _=>False) s₁) (fun _ _=>False) s₁) (fun _ _=>False) s)
 (n:Nat) (h:I n s):
 codeAny (model prog w) A (.compLoop (.ListComp elt [⟨target,iter,ifs,0⟩] scope pos) 0 it acc env) R s:=by
 refine codeAny_loop rfl I (fun n s hI=>?_) n h
 refine wpAny_noted (wpAny_mono (E:=fun _ _=>False) ?_ (fun _ _ q=>q) fun _ _ f=>f.elim)
 rw [compTurn_list]
 refine wpAny_bind (wpAny_standAt (wpAny_bind (thn (turn n s hI) fun r s₁ h₁=>?_)))
 cases r with
 | none=>exact wpAny_pure h₁
 | some v=>
  refine wpAny_bind (thn h₁ fun _ s₁ h₁=>wpAny_bind (thn h₁ fun _ s₂ h₂=>wpAny_bind (thn h₂ fun ok s₃ h₃=>?_)))
  cases ok with
  | false=>exact wpAny_pure ⟨rfl,h₃⟩
  | true=>exact wpAny_bind (wpAny_bind (thn h₃ fun x s₄ h₄=>wpAny_bind (thn h₄ fun _ s₅ h₅=>wpAny_pure (wpAny_pure ⟨rfl,h₅⟩))))
end
def clOf (scope:Scope) (env:Env):List (Str×Addr):=(scope.names.filter fun x=>x.2 == NameKind.free).reverse.map fun x=>(x.1,(env.cells.lookup x.1).getD 0)
theorem closure_go:∀ (l:List (Str×NameKind)) (cs:List (Str×Addr)),(∀ y∈l,y.2 = .free->∃ c,env.cells.lookup y.1 = some c)->
 (forIn l cs fun (x:Str×NameKind) cs=>(do
  if x.2 == .free then do let c <- cellOf env x.1;pure (ForInStep.yield ((x.1,c) :: cs)) else pure (ForInStep.yield cs):Sem _)) =
  pure (((l.filter fun x=>x.2 == NameKind.free).reverse.map fun x=>(x.1,(env.cells.lookup x.1).getD 0)) ++ cs)
 | [],cs,_=>rfl
 | (n,k) :: r,cs,h=>by
  have ih:=fun cs=>closure_go r cs fun y hy=>h y (.tail _ hy)
  by_cases hk:k = .free
  · subst hk
    obtain⟨c,hc⟩:=h (n,.free) (.head _) rfl
    have e1:cellOf env n = pure c:=by unfold cellOf;rw [hc]
    simp_all
  simp_all
theorem closure_of (h:∀ y∈scope.names,y.2 = .free->∃ c,env.cells.lookup y.1 = some c):closureFor scope env = pure (clOf scope env):=by
 have q:=closure_go scope.names [] h
 rw [List.append_nil] at q
 exact (congrArg (fun t=>t >>= fun a=>pure a) q).trans rfl
theorem clOf_sub (h:∀ y∈scope.names,y.2 = .free->∃ c,env.cells.lookup y.1 = some c) (e:(clOf scope env).lookup x = some c):env.cells.lookup x = some c/\(x,NameKind.free)∈scope.names:=by
 have hm:=PySem.mem_of_lookup e
 obtain⟨⟨n,k⟩,hy,e2⟩:=List.mem_map.mp hm
 have hf:=List.mem_filter.mp (List.mem_reverse.mp hy)
 grind
theorem lookup_some_of_mem {l:List (Str×Addr)} (h:(x,c)∈l):∃ c',l.lookup x = some c':=by
 induction l with
 | nil=>grind
 | cons a r ih=>
  obtain⟨n,d⟩:=a
  rw [List.lookup_cons]
  cases e:x == n with
  | true=>simp
  | false=>
   simp_all
theorem clOf_has (h:∀ y∈scope.names,y.2 = .free->∃ c,env.cells.lookup y.1 = some c) (hx:(x,NameKind.free)∈scope.names):∃ c,(clOf scope env).lookup x = some c:=
 lookup_some_of_mem (List.mem_map.mpr ⟨(x,.free),List.mem_reverse.mpr (List.mem_filter.mpr ⟨hx,rfl⟩),rfl⟩)
theorem relabel_mem {env:Env}:∀ {names:List (Str×NameKind)}{x:Str}{k:NameKind},(names.map fun (n,k)=>if (k == NameKind.free && env.scope.kind == .function && env.kindOf n == some .cell) then (n,NameKind.cell) else (n,k)).lookup x = some k->
 ∃ k0,names.lookup x = some k0/\(k0 = k\/(k0 = .free/\k = .cell))
 | [],_,_,h=>by simp at h
 | (n,k0) :: r,x,k,h=>by
  have ih:=@relabel_mem env r x k
  have h:List.lookup x ((if _ = true then (n,NameKind.cell) else (n,k0)) :: _) = _:=h
  rw [List.lookup_cons]
  by_cases hc:(k0 == NameKind.free && env.scope.kind == .function && env.kindOf n == some .cell) = true
  · rw [if_pos hc,List.lookup_cons] at h
    cases e:x == n with
    | true=>
     simp_all
    | false=>rw [e] at h;exact ih h
  · rw [if_neg hc,List.lookup_cons] at h
    cases e:x == n with
    | true=>grind
    | false=>rw [e] at h;exact ih h
def dotS (y:Str):Str:=⟨(33 :: y.cps.toList).toArray⟩
def hid (scope:Scope) (y:Str):Str:=match scope.names.lookup y with
 | some .local=>dotS y
 | _=>y
theorem hid_cases (scope:Scope) (y:Str):(scope.names.lookup y = some .local/\hid scope y = dotS y)\/(scope.names.lookup y≠some .local/\hid scope y = y):=by
 unfold hid
 split
 · simp_all
 simp_all
def cxC (X:Cx) (Nc:List Str) (scope:Scope) (C:Addr) (s:Shared) (H:Hp) (fp:List Addr):Cx:=
 { X with N:=Nc ++ X.N.map (hid scope),s₀:=s,H₀:=H,env:=compEnvC scope (clOf scope X.env) C X.env,outer:=X.stack,ex:=fp,fn:=fun _=>false,pn:=[],xe:=fun _ _=>False }
structure CompS (X:Cx) (scope:Scope):Prop where
 kind:scope.kind = .function
 nocell:∀ y∈scope.names,y.2≠.cell
 names:∀ y∈scope.names,y.2 = .local->scope.names.lookup y.1 = some .local
 free:∀ y∈scope.names,y.2 = .free->X.env.kindOf y.1 = some .cell\/X.env.kindOf y.1 = some .free
 dot:∀ y,scope.names.lookup (dotS y) = none
 nd:(X.N.map (hid scope)).Nodup
def PIfs (X:Cx) (ifs:List Expr) (t:TT):Prop:=
 ∀ (pins:List (Addr×Obj)) (s:Shared) (σ:L2.St) (H:Hp) (Q:Bool->Hp->Prop),Inv X pins σ H s->t σ H Q->wpAny (model X.prog X.w) X.A (testsOf ifs X.env) (TP X pins σ Q) X.xe s
def tYes:TT:=fun _ H Q=>Q true H
section
theorem pifs_nil:PIfs X [] tYes:=fun pins s σ H Q I h=>wpAny_tests_nil ⟨H,I,h⟩
theorem pifs_one (h:PT X c tt):PIfs X [c] tt:=fun pins s σ H Q I q=>wpAny_tests_one (h pins s σ H Q I q)
end
section
variable {σ:L2.St}
def Cmp (J:It) (g:TG) (tt:TT) (te:TE) (σ0:L2.St) (H0:Hp) (Z:List V->Hp->Prop):Prop:=
 ∃ W:Nat->Nat->List V->L2.St->Hp->Prop,(∃ m,W 0 m [] σ0 H0)/\∀ i m ys σ' H',W i m ys σ' H'->ys.length<=sizeLine/\
  ((J.stop i H'/\Z ys H')\/
   (J.go i H'/\∀ x H2,J.yld i H' x H2->g x σ' H2 fun σ3 H3=>tt σ3 H3 fun b H4=>if b = true then te σ3 H4 fun y H5=>∃ m',m' < m/\W (i + 1) m' (ys ++ [y]) σ3 H5 else ∃ m',m' < m/\W (i + 1) m' ys σ3 H4))
theorem inv_block {Nc:List Str}{scope:Scope}{fp:List Addr}{h1:Heap}{D C:Addr}{t':Nat} (I:Inv X pins σ H s) (S:CompS X scope) (hf:∀ b∈fp,FpOk X pins H b) (hob:∀ b∈fp,∃ o,s.heap.get? b = some o)
 (hC:s.heap.objs.size<=C) (old:∀ b o,s.heap.get? b = some o->h1.get? b = some o) (hn:h1.Ns C fun _=>none):
 Inv (cxC X Nc scope C s H fp) [] (List.replicate Nc.length none ++ σ) H { s with heap:=h1,toks:=t' }:=by
 have hcells:∀ y∈scope.names,y.2 = .free->∃ c,X.env.cells.lookup y.1 = some c:=fun y hy e=>I.ok.has y.1 (S.free y hy e)
 have hsub:∀ {x:Str}{c:Addr},(clOf scope X.env).lookup x = some c->X.env.cells.lookup x = some c:=fun e=>(clOf_sub hcells e).1
 have hlt:∀ x c,X.env.cells.lookup x = some c->c < s.heap.objs.size:=fun x c e=>let ⟨v,q⟩:=I.cell x c e;q.lt
 refine⟨⟨I.ok.mod,S.kind,I.ok.glob,I.ok.blt,hC,fun x y c e1 e2=>I.ok.inj x y c (hsub e1) (hsub e2),fun x hx=>?_,fun x c z _=>?_,I.ok.hd,I.ok.frames,.inl rfl,fun b hb=>⟨?_,fun x c e=>(hf b hb).2.2.2.2.1 x c (hsub e)⟩,I.bs,?_,?_,?_,I.stack,I.stkFree⟩,
  rfl,I.bare,Un.kept old,⟨_,hn,fun i x v e1 e2 e3=>?_⟩,fun x c e=>?_,I.hok.fresh hC,fun x c e=>I.freeC x c (hsub e),fun p hp=>absurd (show p∈([]:List (Addr×Obj)) from hp) (by simp),I.hok.kept old,?_⟩
 · have hx:(relabel scope X.env).names.lookup x = some .cell\/(relabel scope X.env).names.lookup x = some .free:=hx
   have go:∀ k,(k = .cell\/k = .free)->(relabel scope X.env).names.lookup x = some k->∃ c,(clOf scope X.env).lookup x = some c:=fun k hk e=>by
    obtain⟨k0,e0,h0⟩:=relabel_mem (env:=X.env) (names:=scope.names) e
    have hm:=PySem.mem_of_lookup e0
    have:k0 = .free:=by
     rcases h0 with h0 | h0
     · subst h0
       rcases hk with hk | hk
       · exact absurd hk (S.nocell _ hm)
       · exact hk
     · exact h0.1
    subst this
    exact clOf_has hcells hm
   rcases hx with e | e
   · exact go _ (.inl rfl) e
   · exact go _ (.inr rfl) e
 · have z:false = true:=z
   cases z
 · obtain⟨o,e⟩:=hob b hb
   exact Nat.ne_of_lt (Nat.lt_of_lt_of_le (Heap.lt_size e) hC)
 · exact Nat.le_trans I.ok.bsz I.sz
 · intro b o e hb
   rcases (hf b hb).2.2.2.1 with z | z
   · exact I.ok.noex b o e z
   · exact absurd (Nat.lt_of_lt_of_le (Heap.lt_size e) (Nat.le_trans I.ok.bsz z)) (Nat.lt_irrefl _)
 · intro b hb hm
   rcases List.mem_cons.mp (I.stkSub b hm) with z | z
   · exact (hf b hb).2.1 z
   · exact (hf b hb).2.2.1 z
 · have e1:(Nc ++ X.N.map (hid scope))[i]? = some x:=e1
   have e3:Vis (relabel scope X.env) x:=e3
   have hi:Nc.length<=i:=by
    refine Nat.not_lt.mp fun z=>?_
    rw [List.getElem?_append_left (by simpa using z),List.getElem?_replicate] at e2
    split at e2 <;> cases e2
   rw [List.getElem?_append_right hi] at e1
   rw [List.getElem?_append_right (by simpa using hi),List.length_replicate] at e2
   rw [List.getElem?_map] at e1
   obtain⟨x0,ex0,hx0⟩:=Option.map_eq_some_iff.mp e1
   have dotn:∀ y k,(relabel scope X.env).names.lookup (dotS y)≠some k:=fun y k e=>by
    obtain⟨k0,e0,_⟩:=relabel_mem (env:=X.env) (names:=scope.names) e
    rw [S.dot] at e0;cases e0
   have hxx:x0 = x/\scope.names.lookup x≠some .local:=by
    rcases hid_cases scope x0 with ⟨_,h2⟩ | ⟨h1,h2⟩
    · rw [h2] at hx0
      subst hx0
      rcases e3 with e | e | e <;> exact absurd e (dotn _ _)
    · rw [h2] at hx0
      subst hx0
      exact⟨rfl,h1⟩
   obtain⟨hx1,hnl⟩:=hxx
   rw [hx1] at ex0
   have e1:=ex0
   have hfree:(x,NameKind.free)∈scope.names/\(relabel scope X.env).names.lookup x≠some .local:=by
    have go:∀ k,(relabel scope X.env).names.lookup x = some k->(k = .local\/k = .cell\/k = .free)->(x,NameKind.free)∈scope.names/\k≠.local:=fun k e hk=>by
     obtain⟨k0,e0,h0⟩:=relabel_mem (env:=X.env) (names:=scope.names) e
     have hm:=PySem.mem_of_lookup e0
     rcases h0 with h0 | h0
     · subst h0
       rcases hk with hk | hk | hk
       · subst hk;exact absurd e0 hnl
       · exact absurd hk (S.nocell _ hm)
       · subst hk;exact⟨hm,by decide⟩
     · obtain⟨a,b⟩:=h0
       subst a;subst b
       exact⟨hm,by decide⟩
    rcases e3 with e | e | e
    · exact absurd rfl (go _ e (.inl rfl)).2
    · exact⟨(go _ e (.inr (.inl rfl))).1,by rw [e];decide⟩
    · exact⟨(go _ e (.inr (.inr rfl))).1,by rw [e];decide⟩
   have hk:=S.free _ hfree.1 rfl
   obtain⟨m,hm,hl⟩:=I.loc
   obtain⟨u,r,l⟩:=hl (i - Nc.length) x v e1 e2 (.inr hk)
   refine⟨u,r,?_⟩
   rcases l with ⟨z,_⟩ | ⟨_,c,hc,z⟩
   · have z:X.env.kindOf x = some .local:=z
     rcases hk with hk | hk
     · have hk:X.env.kindOf x = some .cell:=hk
       rw [hk] at z;cases z
     · have hk:X.env.kindOf x = some .free:=hk
       rw [hk] at z;cases z
   · obtain⟨c',hc'⟩:=clOf_has hcells hfree.1
     have q:=hsub hc'
     rw [hc] at q;cases q
     obtain⟨o,ho,hd⟩:=z
     refine .inr ⟨?_,c,hc',o,old _ _ ho,hd⟩
     rcases e3 with e | e | e
     · exact absurd e hfree.2
     · exact .inl e
     · exact .inr e
 · obtain⟨v,o,ho,hd⟩:=I.cell x c (hsub e)
   exact⟨v,o,old _ _ ho,hd⟩
 · show (List.replicate Nc.length none ++ σ).length = (Nc ++ X.N.map (hid scope)).length
   rw [List.length_append,List.length_append,List.length_replicate,List.length_map,I.len]
end
section
variable {σ:L2.St}
theorem comp_block {it:Addr}{fp:List Addr}{tn:Nat->Heap->Prop}{J:It}{Z:List V->Hp->Prop}{E:Value->Shared->Prop}{RR:Value->Addr->Result->Shared->Prop}
 (hc:X.calm = true) (S:CompS X scope) (I2:Inv X pins σ H2 s2) (T:Turn X.prog X.w X.K tg J fp it tn) (st2:tn 0 s2.heap) (f2:∀ b∈fp,FpOk X pins H2 b)
 (hg:∀ C s H fp,PG (cxC X Nc scope C s H fp) tg g) (ht:∀ C s H fp,PIfs (cxC X Nc scope C s H fp) ifs tt) (he:∀ C s H fp,PE (cxC X Nc scope C s H fp) elt te)
 (h:Cmp J g tt te (List.replicate Nc.length none ++ σ) H2 Z)
 (hRR:∀ D C s' H3 ys,Inv X pins σ (upd H3 D (.lst ys)) s'->H3 D = none->Z ys H3->(∃ m,s'.heap.Ns C m)->FpOk X pins (upd H3 D (.lst ys)) C->RR (.ref D) C (.ok .next) s'):
 wpAny (model X.prog X.w) X.A (newList []) (fun acc s₃=>wpAny (model X.prog X.w) X.A (newFunctionEnv scope X.env.globals (clOf scope X.env) [] X.env.qual none .none (some X.env)) (fun cenv s₄=>
  codeAny (model X.prog X.w) X.A (.compStart (.ListComp elt [⟨tg,iter,ifs,0⟩] scope pos) 0 (.ref it) acc { cenv with scope:=relabel scope X.env }) (RR acc cenv.locals) s₄) E s₃) E s2:=by
 refine wpAny_newObj_type (wpAny_newFunctionEnv S.nocell (by intro y hy;simp at hy) (fun h₁ hns₁ hsb₁=>?_) S.kind)
 dsimp only at hns₁ hsb₁ ⊢
 generalize hH2:s2.heap.push { cls:=.type "list",dict:=none,data:=.seq ([]:List Value).toArray } = G at hns₁ hsb₁ ⊢
 have hC:G.objs.size = s2.heap.objs.size + 1:=by rw [<- hH2,Heap.size_push]
 generalize hD0:s2.heap.objs.size = D at *
 generalize hC0:G.objs.size = C at *
 have hDC:D≠C:=by omega
 have below:∀ (b:Nat) o,s2.heap.get? b = some o->b < D:=fun b o e=>hD0▸Heap.lt_size e
 have belC:∀ (b:Nat) o,s2.heap.get? b = some o->b≠C:=fun b o e=>by have:=below b o e;omega
 have belD:∀ (b:Nat) o,s2.heap.get? b = some o->b≠D:=fun b o e=>by have:=below b o e;omega
 have old:∀ b o,s2.heap.get? b = some o->h₁.get? b = some o:=fun b o e=>hsb₁.extBut b o (belC b o e) (by
  have q:=Heap.get?_push_of_some { cls:=.type (if (some X.env).isSome then "dict" else "frame"),data:=.dict #[] } (hH2▸Heap.get?_push_of_some _ e:G.get? b = some o)
  exact q)
 have hacc:h₁.PlainList D #[]:=⟨_,hsb₁.extBut _ _ hDC (Heap.get?_push_of_some _ (by rw [<- hH2,<- hD0];exact Heap.get?_push_size _ rfl))⟩
 obtain⟨W,⟨m0,w0⟩,turn⟩:=h
 have hob:∀ b∈fp,∃ o,s2.heap.get? b = some o:=fun b hb=>let ⟨o,e,_⟩:=T.obj _ _ st2 b hb;⟨o,e⟩
 have hfpD:∀ b:Nat,b∈fp->b < D:=fun b hb=>let ⟨o,e⟩:=hob b hb;below b o e
 have hfpN:∀ b:Nat,b∈fp->b≠D:=fun b hb=>Nat.ne_of_lt (hfpD b hb)
 have hcells:∀ y∈scope.names,y.2 = .free->∃ c,X.env.cells.lookup y.1 = some c:=fun y hy e=>I2.ok.has y.1 (S.free y hy e)
 have hsub:∀ {x:Str}{c:Addr},(clOf scope X.env).lookup x = some c->X.env.cells.lookup x = some c:=fun e=>(clOf_sub hcells e).1
 have hclt:∀ x c,(clOf scope X.env).lookup x = some c->c < D:=fun x c e=>let ⟨v,q⟩:=I2.cell x c (hsub e);hD0▸q.lt
 have hn0:h₁.Ns C fun _=>none:=hns₁
 have IB:Inv (cxC X Nc scope C s2 H2 fp) [] (List.replicate Nc.length none ++ σ) H2 { s2 with heap:=h₁,toks:=s2.toks + ([]:List (Str×Value)).length }:=
  inv_block (D:=D) I2 S f2 hob (by omega) old hn0
 have hfs:∀ b:Nat,D<=b->b∉(cxC X Nc scope C s2 H2 fp).fs:=fun b hb hm=>by
  obtain⟨_,o,ho,_⟩:=IB.ok.funs.mem hm
  exact absurd (Nat.lt_of_lt_of_le (below b o ho) hb) (Nat.lt_irrefl _)
 have stat:∀ {H':Hp}{ps:List (Addr×Obj)},(∀ p∈ps,Nat.le D p.1)->(∀ b∈fp,H' b = none)->∀ b∈fp,FpOk (cxC X Nc scope C s2 H2 fp) ps H' b:=fun {H' ps} hps hn b hb=>
  ⟨hn b hb,(let ⟨o,e⟩:=hob b hb;belC b o e),IB.ok.exfs b hb,.inl hb,fun x c e=>(f2 b hb).2.2.2.2.1 x c (hsub e),fun p hp=>Nat.ne_of_gt (Nat.lt_of_lt_of_le (hfpD b hb) (hps p hp))⟩
 have loop:∀ s₃:Shared,s₃ = { s2 with heap:=h₁,toks:=s2.toks + ([]:List (Str×Value)).length }->
  codeAny (model X.prog X.w) X.A (.compLoop (.ListComp elt [⟨tg,iter,ifs,0⟩] scope pos) 0 (.ref it) (.ref D) (compEnvC scope (clOf scope X.env) C X.env)) (RR (.ref D) C) s₃:=by
  rintro s₃ rfl
  refine compLoop_go (fun n s'=>∃ i ys σ' H' us k,Inv (cxC X Nc scope C s2 H2 fp) [(D,{ cls:=.type "list",data:=.seq (us:List Value).toArray k })] σ' H' s'/\Vals ys us/\tn i s'.heap/\(∀ b∈fp,H' b = none)/\W i n ys σ' H') ?_ m0 ?_
  · rintro n s3 ⟨i,ys,σ3,H3,us,k,I3,rv,st3,fr3,w3⟩
    obtain⟨hz,tu⟩:=turn i n ys σ3 H3 w3
    have hps:∀ p∈[((D:Addr),({ cls:=.type "list",data:=.seq (us:List Value).toArray k }:Obj))],Nat.le D p.1:=fun p hp=>by
     rcases List.mem_singleton.mp hp with rfl
     exact Nat.le_refl _
    rcases tu with ⟨stop,z⟩ | ⟨go,step⟩
    · refine thn (T.done (cxC X Nc scope C s2 H2 fp) rfl rfl rfl hc i _ s3 σ3 H3 (fun _ _=>False) I3 (stat hps fr3) st3 stop) fun r s4 ⟨hr,I4⟩=>?_
      subst hr
      obtain⟨eD,nD,_,_,_⟩:=I4.pin (D,{ cls:=.type "list",data:=.seq (us:List Value).toArray k }) (List.mem_append_right _ (List.mem_singleton.mpr rfl))
      have eD:s4.heap.get? D = _:=eD
      have nD:H3 D = none:=nD
      have u4:Un (frs X.stack) fp H2 H3 s2.heap s4.heap:=I4.base
      have hH2D:H2 D = none:=I2.hok.fresh (by omega)
      have u5:Un (frs X.stack) fp H2 (upd H3 D (.lst ys)) s2.heap s4.heap:=
       ⟨u4.keep,u4.slot,fun b o e n x=>by rw [upd_ne (belD b o e)];exact u4.free b o e n x,u4.there,fun b xs e=>by rw [upd_ne (ne_of_none e hH2D)];exact u4.tups b xs e,
        fun b o u e=>by rw [upd_ne (ne_of_none e hH2D)];exact u4.frzs b o u e,fun b ps e=>by rw [upd_ne (ne_of_none e hH2D)];exact u4.tbls b ps e⟩
      have hok:HOk X.prog X.w (upd H3 D (.lst ys)) s4.heap:=fun b o e=>by
       by_cases hb:b = D
       · subst hb;rw [upd_same] at e;cases e
         exact⟨hz,us,k,rv,eD⟩
       · rw [upd_ne hb] at e
         exact (I4.hok b o e).stay (fun _ _ _ q=>q) (fun c q=>by rw [upd_ne (ne_of_none q nD)];exact q) fun c xs q=>by rw [upd_ne (ne_of_none q nD)];exact q
      have I5:Inv X pins σ (upd H3 D (.lst ys)) s4:=I2.call' (ch:=fp) I4.os u5 hok I4.bare fun b hb=>let ⟨a0,a1,a2,a3,a4,a5⟩:=f2 b hb;⟨a3,a1,a4,a5⟩
      obtain⟨m,hm,_⟩:=I4.loc
      refine hRR D C s4 H3 ys I5 nD z ⟨m,hm⟩ (I2.fpOk (by omega) ?_)
      rw [upd_ne (Ne.symm hDC)];exact I4.free
    · refine thn (T.item (cxC X Nc scope C s2 H2 fp) rfl rfl rfl hc i _ s3 σ3 H3 (fun _ _=>False) I3 (stat hps fr3) st3 go) fun r s4 ⟨u,hr,h4⟩=>?_
      subst hr
      refine thn h4 fun _ s5 ⟨x,H5,I5,r5,y5,st5,fr5⟩=>?_
      have I5':=I5.pinned (stat hps fr5) (T.obj _ _ st5)
      refine thn (hg C s2 H2 fp _ s5 σ3 H5 x u _ I5' r5 (step x H5 y5)) fun _ s6 ⟨σ6,H6,I6,q6⟩=>?_
      refine thn (ht C s2 H2 fp _ s6 σ6 H6 _ I6 q6) fun ok s7 ⟨H7,I7,q7⟩=>?_
      have tnK:∀ {σ':L2.St}{H':Hp}{s':Shared},Inv (cxC X Nc scope C s2 H2 fp) ([(D,{ cls:=.type "list",data:=.seq (us:List Value).toArray k })] ++ pinsAt fp s5.heap) σ' H' s'->tn (i + 1) s'.heap/\(∀ b∈fp,H' b = none)/\(∀ b∈fp,∀ o,s5.heap.get? b = some o->s'.heap.get? b = some o):=fun {σ' H' s'} I'=>
       ⟨T.keep _ _ _ st5 fun b hb o e=>(I'.pin (b,o) (List.mem_append_right _ (List.mem_append_right _ (mem_pinsAt hb e)))).1,fun b hb=>by
        obtain⟨o,e,d⟩:=T.obj _ _ st5 b hb
        exact (I'.pin (b,o) (List.mem_append_right _ (List.mem_append_right _ (mem_pinsAt hb e)))).2.1,fun b hb o e=>(I'.pin (b,o) (List.mem_append_right _ (List.mem_append_right _ (mem_pinsAt hb e)))).1⟩
      cases ok with
      | false=>
       have q7:∃ m',m' < n/\W (i + 1) m' ys σ6 H7:=q7
       obtain⟨m',hm,w7⟩:=q7
       obtain⟨k1,k2,_⟩:=tnK I7
       exact⟨m',hm,i + 1,ys,σ6,H7,us,k,I7.unpinned,rv,k1,k2,w7⟩
      | true=>
       have q7:te σ6 H7 fun y H5=>∃ m',m' < n/\W (i + 1) m' (ys ++ [y]) σ6 H5:=q7
       refine thn (he C s2 H2 fp _ s7 σ6 H7 _ I7 q7) fun y s8 ⟨yv,H8,I8,r8,m',hm,w8⟩=>?_
       obtain⟨k1,k2,k3⟩:=tnK I8
       obtain⟨eD,nD,_,nfD,_⟩:=I8.pin (D,{ cls:=.type "list",data:=.seq (us:List Value).toArray k }) (List.mem_append_right _ (List.mem_append_left _ (List.mem_singleton.mpr rfl)))
       have eD:s8.heap.get? D = _:=eD
       have pl:s8.heap.PlainList D us.toArray:=⟨k,eD⟩
       refine wpAny_list_append_plain (hsz:=by have:=rv.length;simp;omega) pl fun h₉ hl₉ hs₉=>?_
       obtain⟨k9,e9⟩:=hl₉
       have I9:Inv (cxC X Nc scope C s2 H2 fp) [] σ6 H8 { s8 with heap:=h₉ }:=(I8.pins_of (pins':=[]) (fun p hp=>nomatch hp)).turned (t':=s8.toks) (it:=D) (fun b o hb e=>(hs₉.2 b hb).trans e) nD hDC (.inr (by show s2.heap.objs.size<=D;omega))
        (fun x c e=>Nat.ne_of_lt (hclt x c e)) (fun p hp=>absurd (show p∈([]:List (Addr×Obj)) from hp) (by simp))
       refine⟨m',hm,i + 1,ys ++ [yv],σ6,H8,us ++ [y],k9,I9.pins_of fun p hp=>?_,rv.append (.cons r8 .nil),T.keep _ _ _ k1 fun b hb o e=>(hs₉.2 b (hfpN b hb)).trans e,k2,w8⟩
       rcases List.mem_singleton.mp hp with rfl
       refine⟨?_,nD,hDC,nfD,fun v z=>by cases z⟩
       show h₉.get? D = _
       rw [e9];simp
  · obtain⟨k,e⟩:=hacc
    refine⟨0,[],_,H2,[],k,IB.pins_of fun p hp=>?_,.nil,T.keep _ _ _ st2 fun b hb o e=>old b o e,fun b hb=>(f2 b hb).1,w0⟩
    rcases List.mem_singleton.mp hp with rfl
    exact⟨e,I2.hok.fresh (by omega),hDC,hfs D (Nat.le_refl _),fun v z=>by cases z⟩
 exact codeAny_compStart_list (loop _ rfl) (T.self _ 0 _ _ _ (T.keep _ _ _ st2 fun b hb o e=>old b o e) (loop _ rfl))
def tComp (n:Nat) (wi:TI) (g:TG) (tt:TT) (te:TE):TE:=fun σ H Q=>wi σ H fun J H1=>Cmp J g tt te (List.replicate n none ++ σ) H1 fun ys H'=>∀ p H2,H' p = none->L2.Same H' H2->H2 p = some (.lst ys)->Q (.ref p) H2
theorem pe_comp (hc:X.calm = true) (S:CompS X scope) (hs:∀ x,foldedSetIterable iter X.env x = pure x) (hi:PI X tg iter wi)
 (hg:∀ C s H fp,PG (cxC X Nc scope C s H fp) tg g) (ht:∀ C s H fp,PIfs (cxC X Nc scope C s H fp) ifs tt) (he:∀ C s H fp,PE (cxC X Nc scope C s H fp) elt te):
 PE X (.ListComp elt [⟨tg,iter,ifs,0⟩] scope pos) (tComp Nc.length wi g tt te):=by
 intro pins s σ H Q I h
 have hcells:=fun y hy e=>I.ok.has y.1 (S.free y hy e)
 refine wpAny_comprehension_free rfl hs (closure_of hcells) S.kind S.names (thn (hi pins s σ H _ I h) fun v s1 h1=>thn h1 fun itv s2 h2=>?_)
 obtain⟨it,fp,tn,J,H2,e,I2,T,st2,f2,z⟩:=h2
 subst e
 refine comp_block hc S I2 T st2 f2 hg ht he z fun D C s' H3 ys I' hD hz hm hf=>?_
 obtain⟨m,hm⟩:=hm
 exact⟨m,hm,fun h' sb=>⟨.ref D,_,I'.turned (fun b o hb e=>(sb.2 b hb).trans e) hf.1 hf.2.1 hf.2.2.2.1 hf.2.2.2.2.1 hf.2.2.2.2.2,rfl,hz D _ hD (Br.Same.upd hD) upd_same⟩⟩
theorem ps_setComp {wi:TI}{i:Nat}{y:Str}{py spos:Pos} (hc:X.calm = true) (S:CompS X scope) (hs:∀ x,foldedSetIterable iter X.env x = pure x) (hN:X.N.Nodup) (hy:X.N[i]? = some y) (hl:Loc X.env.scope y) (hf:X.fn y = true\/X.env.scope.names.lookup y = some .local)
 (hsw:swapsWith (.ListComp elt [⟨tg,iter,ifs,0⟩] scope pos) (some (.Name y py)) spos.line X.env = pure true) (hi:PI X tg iter wi)
 (hg:∀ C s H fp,PG (cxC X Nc scope C s H fp) tg g) (ht:∀ C s H fp,PIfs (cxC X Nc scope C s H fp) ifs tt) (he:∀ C s H fp,PE (cxC X Nc scope C s H fp) elt te):
 PS X (.Assign [.Name y py] (.ListComp elt [⟨tg,iter,ifs,0⟩] scope pos) spos) (tAsg (tComp Nc.length wi g tt te) (gName i)):=by
 intro pins s σ H D I h
 have hcells:∀ y∈scope.names,y.2 = .free->∃ c,X.env.cells.lookup y.1 = some c:=fun y hy e=>I.ok.has y.1 (S.free y hy e)
 rw [exec_Assign_Name_used _ _ _ _ hsw]
 refine wpAny_bind (wpAny_standAt (wpAny_bind ?_))
 show wpAny _ X.A (do let _ <- comprehension (.ListComp elt [⟨tg,iter,ifs,0⟩] scope pos) scope X.env _ (newList []) false (eval iter X.env) (some (assign (.Name y py) X.env))) _ _ s
 refine wpAny_bind (wpAny_mono (wpAny_comprehension_free (use:=some (assign (.Name y py) X.env)) (Q:=fun _ s'=>SP X pins D .next s') rfl hs (closure_of hcells) S.kind S.names
  (thn (hi pins s σ H _ I h) fun v s1 h1=>thn h1 fun itv s2 h2=>?_)) (fun _ s' hq=>wpAny_pure (wpAny_pure hq)) fun _ _ e=>e)
 obtain⟨it,fp,tn,J,H2,e,I2,T,st2,f2,z⟩:=h2
 subst e
 refine comp_block (RR:=fun acc C=>compPost (model X.prog X.w) X.A X.xe (some (assign (.Name y py) X.env)) (fun _ s'=>SP X pins D .next s') acc C) hc S I2 T st2 f2 hg ht he z fun Dd C s' H3 ys I' hD hz hm hf'=>?_
 obtain⟨m,hm⟩:=hm
 show wpAny _ X.A (assign (.Name y py) X.env (.ref Dd)) _ _ _
 refine wpAny_assign_Name (store_ok2 (v:=.ref Dd) I' hN hy hl rfl (fun s'' I'' ch=>?_) hf)
 obtain⟨a,sb,ha⟩:=ch
 have hCa:C≠a:=by
  rcases ha with rfl | ha
  · exact hf'.2.1
  · exact fun z=>hf'.2.2.2.2.1 _ _ ha z.symm
 refine⟨m,hm.sameBut sb hCa,fun h' sb'=>?_⟩
 exact⟨_,_,I''.turned (t':=s''.toks) (it:=C) (fun b o hb e=>(sb'.2 b hb).trans e) hf'.1 hf'.2.1 hf'.2.2.2.1 hf'.2.2.2.2.1 hf'.2.2.2.2.2,hz Dd _ hD (Br.Same.upd hD) upd_same⟩
end
section
theorem vals_bl:∀ {bs:List Bool}{its:List Value}{i:Nat}{v:Value},Vals (bs.map V.bl) its->its[i]? = some v->∃ b,bs[i]? = some b/\v = .bool b
 | [],_,i,v,r,e=>by cases r;simp_all
 | b :: bs,_,i,v,r,e=>by
  cases r with
  | cons r rr=>
   cases i with
   | zero=>simp at e;subst e;exact⟨b,rfl,r⟩
   | succ i=>
    obtain⟨b',h1,h2⟩:=vals_bl rr (by assumption)
    simp_all
theorem range_all {bs:List Bool}:((List.range bs.length).all fun i=>bs.getD i false) = bs.all id:=by
 rw [Bool.eq_iff_iff]
 simp only [List.all_eq_true,List.mem_range,id]
 constructor
 · intro h b hb
   obtain⟨i,hi,e⟩:=List.getElem_of_mem hb
   simp_all
 · intro h i hi
   rw [List.getD_eq_getElem?_getD,List.getElem?_eq_getElem hi]
   exact h _ (List.getElem_mem hi)
def rAll (K:PySem.W.Frag) (f:List Bool->Bool):List V->Hp->VK->Prop:=fun xs H Q=>∃ p bs,xs = [.ref p]/\SqL K H p (bs.map V.bl)/\Q (.bl (f bs)) H
theorem truth_bl {bs:List Bool} (r:Vals (bs.map V.bl) its):TruthOf prog w A (fun i v=>its.toArray[i]? = some v) fun i=>bs.getD i false:=by
 intro i v s Q E e q
 obtain⟨b,hb,rfl⟩:=vals_bl r (by simpa using e)
 have q:Q (bs.getD i false) s:=q
 rw [List.getD_eq_getElem?_getD,hb] at q
 exact wpAny_truthy_bool q
theorem call_all (hc:X.calm = true):CallR X (.builtin "all") (rAll X.K fun bs=>bs.all id):=by
 intro pins s σ H xs us Q I r h
 obtain⟨p,bs,rfl,hq,q⟩:=h
 obtain⟨u,rfl,rx⟩:=vals1 r
 cases rx
 obtain⟨its,r',pl,hz⟩:=I.list hq
 have hp:p < s.heap.objs.size:=by obtain⟨_,_,e,_⟩:=pl;exact Heap.lt_size e
 have hl:its.length = bs.length:=by rw [<- r'.length,List.length_map]
 refine call_all_walk (wpAny_pyIter_list pl.isList ⟨s.heap.objs.size,_,_,_,_,_,fun i=>bs.getD i false,rfl,Walks.list (A:=X.A.in1) (I.ok.hd hc) s.heap.objs.size p (Nat.ne_of_lt hp) its.toArray,⟨⟨_,Heap.get?_push_size _ rfl,rfl,rfl⟩,pl.isList.at fun o e=>Heap.get?_push_of_some _ e⟩,truth_bl r',fun h' tk hk=>?_⟩)
 rw [List.size_toArray,hl,range_all]
 exact⟨.bl _,H,I.kept fun b o e=>hk b o (fun z=>absurd (Heap.lt_size e) (by simp_all)) (Heap.get?_push_of_some _ e),rfl,q⟩
theorem boot_all:bootBuiltins "all" = some (.builtin "all"):=by decide
end
structure JIfs (X:Cx) (es:List Expr) (t:TT):Prop where h:PIfs X es t
def nodupB:List Str->Bool
 | []=>true
 | x :: r=>!(r.any fun y=>x == y) && nodupB r
theorem nodupB_of:∀ {l:List Str},nodupB l = true->l.Nodup
 | [],_=>List.nodup_nil
 | x :: r,h=>by
  unfold nodupB at h
  simp at h
  refine List.nodup_cons.mpr ⟨fun hm=>?_,nodupB_of h.2⟩
  grind
def compB (names0:List (Str×NameKind)) (N:List Str) (scope:Scope):Bool:=
 scope.kind == .function && scope.names.all (fun y=>y.2 != .cell) && scope.names.all (fun y=>y.2 != .local || scope.names.lookup y.1 == some .local) && scope.names.all (fun y=>y.2 != .free || names0.lookup y.1 == some .cell || names0.lookup y.1 == some .free) && scope.names.all (fun y=>y.1.cps.toList.head? != some 33) && nodupB (N.map (hid scope))
theorem kind_eq {a b:NameKind} (h:(a == b) = true):a = b:=by grind
theorem okind_eq {a b:Option NameKind} (h:(a == b) = true):a = b:=by grind
theorem CompS.of (h:compB X.env.scope.names X.N scope = true):CompS X scope:=by
 unfold compB at h
 simp only [Bool.and_eq_true,List.all_eq_true,Bool.or_eq_true] at h
 obtain⟨⟨⟨⟨⟨h1,h2⟩,h3⟩,h4⟩,h5⟩,h6⟩:=h
 refine⟨?_,fun y hy z=>?_,fun y hy z=>?_,fun y hy z=>?_,?_,nodupB_of h6⟩
 · grind
 · have q:=h2 y hy;rw [z] at q;cases q
 · rcases h3 y hy with q | q
   · rw [z] at q;cases q
   · exact okind_eq q
 · rcases h4 y hy with (q | q) | q
   · rw [z] at q;cases q
   · exact .inl (okind_eq q)
   · exact .inr (okind_eq q)
 · intro y
   cases e:scope.names.lookup (dotS y) with
   | none=>rfl
   | some k=>
    have hm:=PySem.mem_of_lookup e
    have:=h5 _ hm
    have hd:(dotS y).cps.toList.head? = some 33:=rfl
    grind
section
theorem f_nil:JIfs X [] tYes:=⟨pifs_nil⟩
theorem f_one (h:JT X c tt):JIfs X [c] tt:=⟨pifs_one h.h⟩
theorem j_cell (h:At X.N i x) (hk:X.env.scope.names.lookup x = some .cell) (hd:(x == ("__debug__" : Str)) = false) (hcd:(x == ("__classdict__" : Str)) = false):JE X (.Name x pos) (tVar i):=⟨pe_var h.get (.inr (.inl hk)) hd hcd⟩
theorem s_setC (h:At X.N i x) (hN:X.N.Nodup) (hk:X.env.scope.names.lookup x = some .cell) (hf:X.fn x = true) (hs:swapsWith e (some (.Name x p)) pos.line X.env = pure false) (he:JE X e te):JS X (.Assign [.Name x p] e pos) (tAsg te (gName i)):=⟨ps_set hN h.get (.inr hk) he.h hs (.inl hf)⟩
section
variable (hg:Gl X x) (he:starEach (e :: es) X.env = (false,eval e X.env) :: starEach es X.env) (hpl:(backTo pos (starEach es X.env)).any (·.1) = false)
include hg he hpl
theorem j_all (hx:x = "all") (hc:X.calm = true) (hm:X.mg x = none) (ha:JA X (e :: es) t):JE X (.Call (.Name x p) (e :: es) [] pos) (tCB (rAll X.K fun bs=>bs.all id) t):=⟨by subst hx;exact pe_callB (call_all hc) hg hm boot_all ha.h (by decide) (by decide) he hpl⟩
end
end
section
variable {K:PySem.W.Frag}
theorem cmp_list (Pv:Nat->List V->L2.St->Hp->Prop) (h0:Pv 0 [] σ0 H0) (hz:xs.length<=sizeLine) (hl:∀ i ys σ H,i<=xs.length->Pv i ys σ H->SqL K H a xs/\ys.length<=i)
 (hs:∀ i x ys σ H (N:List V->L2.St->Hp->Prop),xs[i]? = some x->Pv i ys σ H->(∀ ys' σ' H',Pv (i + 1) ys' σ' H'->N ys' σ' H')->
  g x σ H fun σ3 H3=>tt σ3 H3 fun b H4=>if b = true then te σ3 H4 fun y H5=>N (ys ++ [y]) σ3 H5 else N ys σ3 H4)
 (hd:∀ ys σ H,Pv xs.length ys σ H->Z ys H):Cmp (Itl K a) g tt te σ0 H0 Z:=by
 refine⟨fun i m ys σ H=>m = xs.length - i/\i<=xs.length/\Pv i ys σ H,⟨xs.length,by simp,Nat.zero_le _,h0⟩,?_⟩
 rintro i m ys σ H ⟨rfl,hi,p⟩
 obtain⟨q,hy⟩:=hl i ys σ H hi p
 refine⟨by omega,?_⟩
 by_cases hlt:i < xs.length
 · refine .inr ⟨⟨xs,xs[i],q,by simp⟩,fun x H' y=>?_⟩
   obtain⟨e,y⟩:=y
   subst e
   exact hs i x ys σ _ (fun ys' σ' H'=>∃ m',m' < xs.length - i/\m' = xs.length - (i + 1)/\i + 1<=xs.length/\Pv _ ys' σ' H') (y xs q) p fun ys' σ' H' p'=>⟨xs.length - _,by omega,rfl,hlt,p'⟩
 · have e:i = xs.length:=by omega
   subst e
   exact .inl ⟨⟨xs,q,Nat.le_refl _⟩,hd ys σ H p⟩
theorem cmp_range {lo:Int} (Pv:Nat->List V->L2.St->Hp->Prop) (h0:Pv 0 [] σ0 H0) (hz:n<=sizeLine) (hl:∀ i ys σ H,i<=n->Pv i ys σ H->ys.length<=i)
 (hs:∀ i ys σ H (N:List V->L2.St->Hp->Prop),i < n->Pv i ys σ H->(∀ ys' σ' H',Pv (i + 1) ys' σ' H'->N ys' σ' H')->
  g (.int (lo + i)) σ H fun σ3 H3=>tt σ3 H3 fun b H4=>if b = true then te σ3 H4 fun y H5=>N (ys ++ [y]) σ3 H5 else N ys σ3 H4)
 (hd:∀ ys σ H,Pv n ys σ H->Z ys H):Cmp (Itr lo n) g tt te σ0 H0 Z:=by
 refine⟨fun i m ys σ H=>m = n - i/\i<=n/\Pv i ys σ H,⟨n,by simp,Nat.zero_le _,h0⟩,?_⟩
 rintro i m ys σ H ⟨rfl,hi,p⟩
 have hy:=hl i ys σ H hi p
 refine⟨by omega,?_⟩
 by_cases hlt:i < n
 · refine .inr ⟨hlt,fun x H' y=>?_⟩
   obtain⟨e,y⟩:=y
   subst e;subst y
   exact hs i ys σ _ (fun ys' σ' H'=>∃ m',m' < n - i/\m' = n - _/\i + 1<=n/\Pv (i + 1) ys' σ' H') hlt p fun ys' σ' H' p'=>⟨n - (i + 1),by omega,rfl,hlt,p'⟩
 · have e:i = n:=by omega
   subst e
   exact .inl ⟨Nat.le_refl _,hd ys σ H p⟩
end
section
theorem loc_C (hk:scope.names.lookup x = some .local):(cxC X Nc scope C s H fp).env.scope.names.lookup x = some .local:=lookup_relabel_local hk
theorem not_mem_of (S:CompS X scope) (hk:scope.names.lookup x = some .local):x∉X.N.map (hid scope):=fun h=>by
 obtain⟨y,_,e⟩:=List.mem_map.mp h
 rcases hid_cases scope y with ⟨_,h2⟩ | ⟨h1,h2⟩
 · rw [h2] at e;rw [<- e,S.dot] at hk;grind
 simp_all
theorem g_C1 (S:CompS X scope) (hN:X.N.Nodup) (hk:scope.names.lookup x = some .local) (C:Addr) (s:Shared) (H:Hp) (fp:List Addr):PG (cxC X [x] scope C s H fp) (.Name x px) (gName 0):=
 pg_name (List.nodup_cons.mpr ⟨not_mem_of S hk,S.nd⟩) rfl (.inl (loc_C hk)) (.inr (loc_C hk))
theorem g_C2 (hc:X.calm = true) (S:CompS X scope) (hN:X.N.Nodup) (hxy:x≠y) (hx:scope.names.lookup x = some .local) (hy:scope.names.lookup y = some .local) (C:Addr) (s:Shared) (H:Hp) (fp:List Addr):
 PG (cxC X [x,y] scope C s H fp) (.Tuple [.Name x px,.Name y py] k pt) (gTup X.K 2 (gCons (gName 0) (gCons (gName 1) gNil))):=by
 have nd:=List.nodup_cons.mpr ⟨fun h=>by
  rcases List.mem_cons.mp h with h | h
  · exact hxy h
  · exact not_mem_of S hx h,List.nodup_cons.mpr ⟨not_mem_of S hy,S.nd⟩⟩
 exact pg_tup hc (pgs_cons (pg_name nd rfl (.inl (loc_C hx)) (.inr (loc_C hx))) (pgs_cons (pg_name nd rfl (.inl (loc_C hy)) (.inr (loc_C hy))) pgs_nil))
theorem j_comp1 (hc:X.calm = true) (S:compB X.env.scope.names X.N scope = true) (hs:∀ x,foldedSetIterable iter X.env x = pure x) (hN:X.N.Nodup) (hk:scope.names.lookup x = some .local) (hi:JI X (.Name x px) iter wi)
 (ht:∀ C s H fp,JIfs (cxC X [x] scope C s H fp) ifs tt) (he:∀ C s H fp,JE (cxC X [x] scope C s H fp) elt te):JE X (.ListComp elt [⟨.Name x px,iter,ifs,0⟩] scope pos) (tComp 1 wi (gName 0) tt te):=
 ⟨pe_comp hc (.of S) hs hi.h (g_C1 (.of S) hN hk) (fun C s H fp=>(ht C s H fp).h) fun C s H fp=>(he C s H fp).h⟩
theorem j_comp2 (hc:X.calm = true) (S:compB X.env.scope.names X.N scope = true) (hs:∀ x,foldedSetIterable iter X.env x = pure x) (hN:X.N.Nodup) (hxy:x≠y) (hx:scope.names.lookup x = some .local) (hy:scope.names.lookup y = some .local)
 (hi:JI X (.Tuple [.Name x px,.Name y py] k pt) iter wi) (ht:∀ C s H fp,JIfs (cxC X [x,y] scope C s H fp) ifs tt) (he:∀ C s H fp,JE (cxC X [x,y] scope C s H fp) elt te):
 JE X (.ListComp elt [⟨.Tuple [.Name x px,.Name y py] k pt,iter,ifs,0⟩] scope pos) (tComp 2 wi (gTup X.K 2 (gCons (gName 0) (gCons (gName 1) gNil))) tt te):=
 ⟨pe_comp hc (.of S) hs hi.h (g_C2 hc (.of S) hN hxy hx hy) (fun C s H fp=>(ht C s H fp).h) fun C s H fp=>(he C s H fp).h⟩
theorem s_comp1 (hc:X.calm = true) (S:compB X.env.scope.names X.N scope = true) (hs:∀ x,foldedSetIterable iter X.env x = pure x) (hN:X.N.Nodup) (hk:scope.names.lookup x = some .local) (h:At X.N i z) (hz:X.env.scope.names.lookup z = some .local)
 (hsw:swapsWith (.ListComp elt [⟨.Name x px,iter,ifs,0⟩] scope pos) (some (.Name z p)) spos.line X.env = pure true) (hi:JI X (.Name x px) iter wi)
 (ht:∀ C s H fp,JIfs (cxC X [x] scope C s H fp) ifs tt) (he:∀ C s H fp,JE (cxC X [x] scope C s H fp) elt te):
 JS X (.Assign [.Name z p] (.ListComp elt [⟨.Name x px,iter,ifs,0⟩] scope pos) spos) (tAsg (tComp 1 wi (gName 0) tt te) (gName i)):=
 ⟨ps_setComp (Nc:=[x]) hc (.of S) hs hN h.get (.inl hz) (.inr hz) hsw hi.h (g_C1 (.of S) hN hk) (fun C s H fp=>(ht C s H fp).h) fun C s H fp=>(he C s H fp).h⟩
theorem s_comp2 (hc:X.calm = true) (S:compB X.env.scope.names X.N scope = true) (hs:∀ x,foldedSetIterable iter X.env x = pure x) (hN:X.N.Nodup) (hxy:x≠y) (hx:scope.names.lookup x = some .local) (hy:scope.names.lookup y = some .local) (h:At X.N i z) (hz:X.env.scope.names.lookup z = some .local)
 (hsw:swapsWith (.ListComp elt [⟨.Tuple [.Name x px,.Name y py] k pt,iter,ifs,0⟩] scope pos) (some (.Name z p)) spos.line X.env = pure true) (hi:JI X (.Tuple [.Name x px,.Name y py] k pt) iter wi)
 (ht:∀ C s H fp,JIfs (cxC X [x,y] scope C s H fp) ifs tt) (he:∀ C s H fp,JE (cxC X [x,y] scope C s H fp) elt te):
 JS X (.Assign [.Name z p] (.ListComp elt [⟨.Tuple [.Name x px,.Name y py] k pt,iter,ifs,0⟩] scope pos) spos) (tAsg (tComp 2 wi (gTup X.K 2 (gCons (gName 0) (gCons (gName 1) gNil))) tt te) (gName i)):=
 ⟨ps_setComp hc (.of S) hs hN h.get (.inl hz) (.inr hz) hsw hi.h (g_C2 hc (.of S) hN hxy hx hy) (fun C s H fp=>(ht C s H fp).h) fun C s H fp=>(he C s H fp).h⟩
end
theorem cxC_K:(cxC X Nc scope C s H fp).K = X.K:=rfl
section
variable {X:Cx}{K:PySem.W.Frag} (hK:X.K = K)
include hK
theorem k_ix (hs:PlainIx b) (ha:JE X a ta) (hb:JE X b tb):JE X (.Subscript a b pos) (tOp (rIx K) ta tb):=hK▸j_ix hs ha hb
theorem k_append (hbase:attributeBase o "append" X.env (eval o X.env) = eval o X.env) (hfew:((backTo cpos (starEach [e] X.env)).all (fun x=>!x.1) && (backToKw cpos (keywordEach [] X.env)).all (fun x=>x.1.isSome)
 && decide (([e]:List Expr).length + ([]:List Keyword).length + (if ([]:List Keyword).isEmpty then 0 else 1) < 30)) = true) (hline:(apos.endLine == cpos.line) = true) (hs:starEach [e] X.env = (false,eval e X.env) :: starEach [] X.env)
 (hpl:(backTo cpos (starEach [] X.env)).any (·.1) = false) (ho:JE X o to) (ha:JA X [e] t):JE X (.Call (.Attribute o "append" apos) [e] [] cpos) (tBM K "list" rAppend to t):=hK▸j_append hbase hfew hline hs hpl ho ha
theorem k_comp2 (hc:X.calm = true) (S:compB X.env.scope.names X.N scope = true) (hs:∀ x,foldedSetIterable iter X.env x = pure x) (hN:X.N.Nodup) (hxy:x≠y) (hx:scope.names.lookup x = some .local) (hy:scope.names.lookup y = some .local)
 (hi:JI X (.Tuple [.Name x px,.Name y py] k pt) iter wi) (ht:∀ C s H fp,JIfs (cxC X [x,y] scope C s H fp) ifs tt) (he:∀ C s H fp,JE (cxC X [x,y] scope C s H fp) elt te):
 JE X (.ListComp elt [⟨.Tuple [.Name x px,.Name y py] k pt,iter,ifs,0⟩] scope pos) (tComp 2 wi (gTup K 2 (gCons (gName 0) (gCons (gName 1) gNil))) tt te):=hK▸j_comp2 hc S hs hN hxy hx hy hi ht he
section
variable (hg:Gl X x) (he:starEach (e :: es) X.env = (false,eval e X.env) :: starEach es X.env) (hpl:(backTo pos (starEach es X.env)).any (·.1) = false)
include hg he hpl
theorem k_isi (hx:x = "isinstance") (hm:X.mg x = none) (ha:JA X (e :: es) t):JE X (.Call (.Name x p) (e :: es) [] pos) (tCB (rIsi K) t):=hK▸j_isi hg he hpl hx hm ha
theorem k_len (hx:x = "len") (hm:X.mg x = none) (ha:JA X (e :: es) t):JE X (.Call (.Name x p) (e :: es) [] pos) (tCB (rLen K) t):=hK▸j_len hg he hpl hx hm ha
theorem k_all (hx:x = "all") (hc:X.calm = true) (hm:X.mg x = none) (ha:JA X (e :: es) t):JE X (.Call (.Name x p) (e :: es) [] pos) (tCB (rAll K fun bs=>bs.all id) t):=hK▸j_all hg he hpl hx hc hm ha
end
end
def ikv (ks:List (Int×V)):List (Key×V):=ks.map fun q=>(.inl q.1,q.2)
def rSortD:List V->Hp->VK->Prop:=fun xs H Q=>∃ (p:Addr) (ks:List (Int×V)),xs = [.ref p]/\H p = some (.dK (ikv ks))/\ks.length < 64/\
 ∀ (l:Addr) (ns:List Int) (H':Hp),H l = none->L2.Same H H'->H' l = some (.lst (ns.map V.int))->ns.Perm (ks.map (·.1))->ns.Pairwise (·<=·)->Q (.ref l) H'
theorem ints_vals:∀ {vs:List Value}{ns:List Int},IntsAre vs ns->Vals (ns.map V.int) vs
 | _,_,.nil=>.nil
 | _,_,.cons n t r=>.cons ⟨t,rfl⟩ (ints_vals r)
theorem kv_get:∀ {ks:List (Int×V)}{vs:List (Key×Value)}{i:Nat}{k:Key}{x:Value},KV (ikv ks) vs->vs[i]? = some (k,x)->∃ q,ks[i]? = some q/\k = .inl q.1
 | [],_,i,k,x,r,e=>by cases r;simp_all
 | q :: ks,_,i,k,x,r,e=>by
  cases r with
  | cons r rr=>
   cases i with
   | zero=>simp_all
   | succ i=>
    obtain⟨q',h1,h2⟩:=kv_get rr (by assumption)
    simp_all
theorem ints_of_get:∀ {vs:List Value}{ns:List Int},vs.length = ns.length->(∀ (j:Nat) (v:Value),vs[j]? = some v->∃ n t,ns[j]? = some n/\v = .int n t)->IntsAre vs ns
 | [],[],_,_=>.nil
 | [],_ :: _,h,_=>by simp_all
 | _ :: _,[],h,_=>by simp_all
 | v :: vs,n :: ns,h,g=>by
  obtain⟨n',t,e1,e2⟩:=g 0 v rfl
  simp at e1;subst e1;subst e2
  exact .cons n t (ints_of_get (by simpa using h) fun j u e=>by
   obtain⟨n',t',e1,e2⟩:=g (j + 1) u (by simp_all)
   simp_all)
section
theorem call_sortD (hc:X.calm = true):CallR X (.builtin "sorted") rSortD:=by
 intro pins s σ H xs us Q I r h
 obtain⟨p,ks,rfl,hq,h64,q⟩:=h
 obtain⟨u,rfl,rx⟩:=vals1 r
 cases rx
 obtain⟨hz,lo,vs,kv,dd⟩:=(show ObjOk X.prog X.w H s.heap p (.dK (ikv ks)) from I.hok p _ hq)
 obtain⟨ep,hat⟩:=dd.dictAt
 have hl:vs.length = ks.length:=by
  have:=Paired.length kv
  rw [<- this];unfold ikv;rw [List.length_map]
 have hsz:(sizeLine:Nat) = 16777216:=sizeLine_eq
 refine Calls.call_function_entry kind_sorted plain_sorted entry_sorted (args_sorted1 _) ?_
 unfold Builtin.«sorted»
 refine wpAny_bind (m:=checkCount "sorted" 1 1 _) (wpAny_pure ?_)
 refine wpAny_bind (PySem.W.kdu_collect (A:=X.A.in1) (PySem.W.kdl_dict (knd:=mixKind X.prog X.w) (kvs:=vs) (ep:=ep) lo) (I.ok.hd hc) hat (by omega) fun h' tk acc hk hacc=>?_)
 have hI:IntsAre acc.toList (ks.map (·.1)):=ints_of_get (by rw [Array.length_toList,List.length_map,hacc.1,hl]) fun j v e=>by
  obtain⟨k,x,e1,e2⟩:=hacc.2 j v (by rw [<- Array.getElem?_toList];exact e)
  obtain⟨q',h1,h2⟩:=kv_get kv e1
  subst h2
  have e2:keyIs (.inl q'.1) v = true:=e2
  rcases keyIs_shape e2 with ⟨i,t,ek,e3⟩ | ⟨y,t,ek,e3⟩
  · subst e3
    injection ek with ek
    exact⟨_,t,by rw [List.getElem?_map,h1];rfl,by show Value.int i t = Value.int q'.1 t;rw [ek]⟩
  · cases ek
 have hal:acc.toList.length = ks.length:=by rw [Array.length_toList,hacc.1,hl]
 refine wpAny_bind (wpAny_newList ?_ (by rw [hal];omega))
 have hoL:(h'.push (seqObj "list" acc.toList.toArray 0)).get? h'.objs.size = some (seqObj "list" acc.toList.toArray 0):=Heap.get?_push_size _ rfl
 refine wpAny_bind (wpAny_holding (wpAny_call_entry slot_list_sort ⟨_,hoL,rfl⟩ entry_list_sort (list_sort_tree hoL hI (by omega) fun out ns' a1 a2 a3=>⟨_,rfl,?_⟩) (args_list_sort _)))
 refine wpAny_pure ⟨_,rfl,?_⟩
 obtain⟨n',e'⟩:∃ n',(sortedHeap (h'.push (seqObj "list" acc.toList.toArray 0)) h'.objs.size acc.toList out).get? h'.objs.size = some (seqObj "list" out n'):=sortedHeap_at hoL
 have I1:Inv X pins σ H { s with heap:=h',toks:=tk }:=I.kept hk
 have hfr:H h'.objs.size = none:=I1.hok.fresh (Nat.le_refl _)
 have keep:∀ b o,h'.get? b = some o->(sortedHeap (h'.push (seqObj "list" acc.toList.toArray 0)) h'.objs.size acc.toList out).get? b = some o:=fun b o e=>by
  have hb:=Heap.lt_size e
  rw [sortedHeap_old (Nat.ne_of_lt hb) (by rw [Heap.size_push];exact Nat.lt_succ_of_lt hb)]
  exact Heap.get?_push_of_some _ e
 have hlen:ns'.length<=sizeLine:=by rw [a2.length_eq,List.length_map];omega
 have I2:=
  I1.laid (t':=tk) keep (Nat.le_refl _) (show ObjOk X.prog X.w _ _ _ (.lst (ns'.map V.int)) from ⟨by rw [List.length_map];exact hlen,out.toList,n',ints_vals a1,by simpa using e'⟩)
 exact⟨.ref h'.objs.size,_,I2,rfl,q _ _ _ hfr (Br.Same.upd hfr) upd_same a2 a3⟩
theorem boot_sorted:bootBuiltins "sorted" = some (.builtin "sorted"):=by rfl
def iSeq (K:PySem.W.Frag) (tl:TE):TI:=fun σ H R=>tl σ H fun x H1=>∃ a,x = .ref a/\(((∃ xs,SqL K H1 a xs)/\R (Itl K a) H1)\/((∃ xs,SqT K H1 a xs)/\R (Itt K a) H1))
theorem pi_seq (hl:PE X l tl):PI X tg l (iSeq X.K tl):=by
 intro pins s σ H R I h
 refine thn (hl pins s σ H _ I h) fun v s1 ⟨x,H1,I1,r1,q1⟩=>?_
 obtain⟨a,e,q1⟩:=q1
 subst e
 cases r1
 rcases q1 with ⟨⟨xs,hq⟩,q⟩ | ⟨⟨xs,hq⟩,q⟩
 · obtain⟨its,rv,p,hz⟩:=I1.list hq
   refine wpAny_pyIter_list p.isList ?_
   refine⟨s1.heap.objs.size,[s1.heap.objs.size],_,_,H1,rfl,I1.kept (t':=s1.toks) fun b o e=>Heap.get?_push_of_some _ e,turn_list a _,⟨_,Heap.get?_push_size _ rfl,rfl,rfl⟩,fun b hb=>?_,q⟩
   have e:=by simpa using hb
   subst e
   exact I1.fpOk (Nat.le_refl _) (I1.hok.fresh (Nat.le_refl _))
 · obtain⟨its,rv,p,hz⟩:=I1.tuple hq
   refine wpAny_pyIter_tuple (p) ?_
   refine⟨s1.heap.objs.size,[s1.heap.objs.size],_,_,H1,rfl,I1.kept fun b o e=>Heap.get?_push_of_some _ e,turn_tuple a _,⟨_,Heap.get?_push_size _ rfl,rfl,rfl⟩,fun b hb=>?_,q⟩
   have e:=by simpa using hb
   subst e
   exact I1.fpOk (Nat.le_refl _) (I1.hok.fresh (Nat.le_refl _))
def rSlS (K:PySem.W.Frag):V->Option Int->Option Int->Hp->VK->Prop:=fun x lo hi H Q=>∃ a xs,x = .ref a/\((SqL K H a xs/\∀ p H2,H p = none->L2.Same H H2->H2 p = some (.lst (cutV xs lo hi))->Q (.ref p) H2)\/
 (SqT K H a xs/\¬ (HT.sIx xs.length 0 lo = 0/\HT.sIx xs.length xs.length hi = xs.length)/\∀ p H2,H p = none->L2.Same H H2->H2 p = some (.tup (cutV xs lo hi))->Q (.ref p) H2))
theorem sl_S:SlR X (rSlS X.K):=by
 intro pins s σ H x v vl vu lo hi sl Q I rx hs pl pu h
 obtain⟨a,xs,rfl,h⟩:=h
 rcases h with ⟨hx,q⟩ | ⟨hx,hn,q⟩
 · exact sl_list pins s σ H _ v vl vu lo hi sl Q I rx hs pl pu ⟨a,xs,rfl,hx,fun p hp=>q p _ hp (Br.Same.upd hp) upd_same⟩
 · exact sl_tup pins s σ H _ v vl vu lo hi sl Q I rx hs pl pu ⟨a,xs,rfl,hx,hn,fun p hp=>q p _ hp (Br.Same.upd hp) upd_same⟩
def rCatTS (K:PySem.W.Frag):R2:=fun x y H Q=>∃ a b xs ys,x = .ref a/\y = .ref b/\SqT K H a xs/\SqT K H b ys/\xs≠[]/\xs.length + ys.length<=sizeLine/\∀ p H2,L2.Same H H2->SqT K H2 p (xs ++ ys)->Q (.ref p) H2
theorem op_catTS:OpR X (binaryOp .Add) (rCatTS X.K):=fun pins s σ H x y v u Q I rx ry h=>by
 obtain⟨a,b,xs,ys,e1,e2,h1,h2,hx,hz,q⟩:=h
 refine op_catT pins s σ H x y v u Q I rx ry ⟨a,b,xs,ys,e1,e2,h1,h2,hx,hz,fun e=>?_,fun _ p hp=>q p _ (Br.Same.upd hp) (SqT.of upd_same)⟩
 exact q a H (L2.Same.refl _) (by simp_all)
def rTupOf (K:PySem.W.Frag):List V->Hp->VK->Prop:=fun xs H Q=>∃ p ys,xs = [.ref p]/\SqL K H p ys/\∀ l H2,H l = none->L2.Same H H2->H2 l = some (.tup ys)->Q (.ref l) H2
theorem call_tupS:CallR X (.type "tuple") (rTupOf X.K):=fun pins s σ H xs us Q I r h=>by
 obtain⟨p,ys,e,hq,q⟩:=h
 exact call_tuple_of pins s σ H xs us Q I r ⟨p,ys,e,.inl ⟨hq,fun l hl=>q l _ hl (Br.Same.upd hl) upd_same⟩⟩
theorem op_mulI:OpR X (binaryOp .Mult) (rI IntMulOk fun i j=>.int (i * j)):=opI fun _ _ _ _ _ _ _ hc q=>mul_int q hc
theorem CMulB.ok (h:CMulB i j):IntMulOk i j:=IntMulOk.of_bits (bits_of h.1) (bits_of h.2)
theorem boot_tuple':bootBuiltins "tuple" = some (.type "tuple"):=by decide
end
section
variable {X:Cx}{K:PySem.W.Frag} (hK:X.K = K)
theorem o_mulI:JOp X .Mult (rI IntMulOk fun i j=>.int (i * j)):=⟨op_mulI⟩
theorem k_seq (hK:X.K = K) (hl:JE X l tl):JI X tg l (iSeq K tl):=hK▸⟨pi_seq hl.h⟩
theorem k_slS (hK:X.K = K) {lo hi:Option Expr} (he:JE X e te) (hl:JO X lo tl) (hu:JO X hi th):JE X (.Subscript e (.Slice lo hi none p2) pos) (tSl (rSlS K) te tl th):=hK▸⟨pe_slice sl_S he.h hl.h hu.h⟩
theorem s_ixset (hs:swapsWithSole [.Subscript o b pos'] value pos.line X.env = pure false) (hw:swappedStores [.Subscript o b pos'] value X.env = pure none) (h1:(assignEach [.Subscript o b pos'] X.env).map (·.2) = [assign (.Subscript o b pos') X.env])
 (ha:∀ v,assign (.Subscript o b pos') X.env v = (do
  let ov <- holding [v] (eval o X.env)
  let iv <- holding [v,ov] (eval b X.env)
  standAt pos'
  holding [v,ov,iv] (setItem ov iv v)
  release [v,ov,iv] [])) (ho:JE X o to) (hi:JE X b tb) (hv:JE X value tv):JS X (.Assign [.Subscript o b pos'] value pos) (tAsg tv (gSub to tb rSetL)):=⟨ps_asg hv.h (pg_sub ho.h hi.h set_list ha) hs hw h1⟩
theorem s_unpackC (hi:At X.N i x) (hj:At X.N j y) (hc:X.calm = true) (hN:X.N.Nodup) (hx:Loc X.env.scope x) (hy:Loc X.env.scope y) (hfx:X.fn x = true) (hfy:X.fn y = true)
 (h1:(assignEach [.Name x px,.Name y py] X.env).map (·.2) = assign (.Name x px) X.env :: (assignEach [.Name y py] X.env).map (·.2))
 (h2:(assignEach [.Name y py] X.env).map (·.2) = assign (.Name y py) X.env :: (assignEach [] X.env).map (·.2))
 (hn:(assignEach [.Name x px,.Name y py] X.env).length = 2) (hst:(assignEach [.Name x px,.Name y py] X.env).findIdx? (·.1) = none)
 (hs:swapsWithSole [.Tuple [.Name x px,.Name y py] kt pt] e pos.line X.env = pure false) (hw:swappedStores [.Tuple [.Name x px,.Name y py] kt pt] e X.env = pure none)
 (h3:(assignEach [.Tuple [.Name x px,.Name y py] kt pt] X.env).map (·.2) = [assign (.Tuple [.Name x px,.Name y py] kt pt) X.env]) (he:JE X e te):
 JS X (.Assign [.Tuple [.Name x px,.Name y py] kt pt] e pos) (tAsg te (gTup X.K 2 (gCons (gName i) (gCons (gName j) gNil)))):=
 ⟨ps_asg he.h (pg_tup hc (pgs_cons (pg_name hN hi.get hx (.inl hfx)) (pgs_cons (pg_name hN hj.get hy (.inl hfy)) pgs_nil h2) h1) hn hst) hs hw h3⟩
section
variable (hg:Gl X x) (he:starEach (e :: es) X.env = (false,eval e X.env) :: starEach es X.env) (hpl:(backTo pos (starEach es X.env)).any (·.1) = false)
include hg he hpl
theorem j_sorted (hx:x = "sorted") (hc:X.calm = true) (hm:X.mg x = none) (ha:JA X (e :: es) t):JE X (.Call (.Name x p) (e :: es) [] pos) (tCB rSortD t):=⟨by subst hx;exact pe_callB (call_sortD hc) hg hm boot_sorted ha.h (by decide) (by decide) he hpl⟩
theorem k_tuple (hK:X.K = K) (hx:x = "tuple") (hm:X.mg x = none) (ha:JA X (e :: es) t):JE X (.Call (.Name x p) (e :: es) [] pos) (tCB (rTupOf K) t):=hK▸⟨by subst hx;exact pe_callTy call_tupS hg hm boot_tuple' ha.h (by decide) (by decide) he hpl⟩
end
end
section
variable {K:PySem.W.Frag}
theorem cmp_tup (Pv:Nat->List V->L2.St->Hp->Prop) (h0:Pv 0 [] σ0 H0) (hz:xs.length<=sizeLine) (hl:∀ i ys σ H,i<=xs.length->Pv i ys σ H->SqT K H a xs/\ys.length<=i)
 (hs:∀ i x ys σ H (N:List V->L2.St->Hp->Prop),xs[i]? = some x->Pv i ys σ H->(∀ ys' σ' H',Pv (i + 1) ys' σ' H'->N ys' σ' H')->
  g x σ H fun σ3 H3=>tt σ3 H3 fun b H4=>if b = true then te σ3 H4 fun y H5=>N (ys ++ [y]) σ3 H5 else N ys σ3 H4)
 (hd:∀ ys σ H,Pv xs.length ys σ H->Z ys H):Cmp (Itt K a) g tt te σ0 H0 Z:=by
 refine⟨fun i m ys σ H=>m = xs.length - i/\i<=xs.length/\Pv i ys σ H,⟨xs.length,by simp,Nat.zero_le _,h0⟩,?_⟩
 rintro i m ys σ H ⟨rfl,hi,p⟩
 obtain⟨q,hy⟩:=hl i ys σ H hi p
 refine⟨by omega,?_⟩
 by_cases hlt:i < xs.length
 · refine .inr ⟨⟨xs,xs[i],q,by simp⟩,fun x H' y=>?_⟩
   obtain⟨e,y⟩:=y
   subst e
   exact hs i x ys σ _ (fun ys' σ' H'=>∃ m',m' < xs.length - i/\m' = xs.length - (i + 1)/\i + 1<=xs.length/\Pv _ ys' σ' H') (y xs q) p fun ys' σ' H' p'=>⟨xs.length - _,by omega,rfl,hlt,p'⟩
 · have e:i = xs.length:=by omega
   subst e
   exact .inl ⟨⟨xs,q,Nat.le_refl _⟩,hd ys σ H p⟩
end
section
theorem tsetAt {c:Addr}{o:Obj}{fs:Array Value}{i:Nat}{x:Value}{Q:Unit->Shared->Prop} (e1:s.heap.get? c = some o) (e2:o.data = .fields fs) (hi:i < fs.size)
 (go:∀ g o',g.get? c = some o'->o'.cls = o.cls->o'.data = .fields (fs.set! i x)->Heap.SameBut c s.heap g->Q () { s with heap:=g }):wpAny (model prog w) A (setField (.ref c) i x) Q E s:=by
 refine wpAny_setField e1 e2 hi ?_
 have f:(o.mapFields fun a=>a.set! i x).data = .fields (fs.set! i x):=Obj.data_mapFields e2 _
 exact go _ _ (Heap.get?_update_self _ e1 (Obj.isFreed_of_fields f)) (Obj.cls_mapFields ..) f (Heap.SameBut.update ..)
theorem tstep {c d:Addr}{k:Nat}{zs:Array Value}{v:Value}{Q:Value->Shared->Prop} (hI:s.heap.IsTupleIter c d k) (hT:s.heap.IsTuple d zs) (hv:zs[k]? = some v)
 (go:∀ g,g.IsTupleIter c d (k + 1)->Heap.SameBut c s.heap g->Q v { s with heap:=g }):wpAny (model prog w) A (Builtin.«tuple_iterator.__next__» ⟨[.ref c],[]⟩) (fun fin s'=>∃ u,fin = .done (.ret u)/\Q u s') E s:=by
 have hI':=hI
 obtain⟨oc,q1,q2,q3⟩:=hI'
 have hT':=hT
 obtain⟨od,p1,_,nd,p3⟩:=hT'
 have at_:zs[((k:Nat):Int).toNat]? = some v:=by simpa using hv
 wp_walk using wpAny_field q1 q3 (x:=.ref d) rfl,wpAny_field q1 q3 (x:=.int k 0) rfl,wpAny_seqItems p1 p3
 rw [at_]
 refine wpAny_bind (tsetAt q1 q3 (by simp) fun g o' a1 a2 a3 sb=>?_)
 wp_walk
 exact⟨_,rfl,go g ⟨o',a1,a2.trans q2,by rw [a3];simp [rawInt]⟩ sb⟩
theorem tstop {c d:Addr}{k:Nat}{zs:Array Value}{Q:PySem.Fin->Shared->Prop} (hh:A.handled = none) (hI:s.heap.IsTupleIter c d k) (hT:s.heap.IsTuple d zs) (hv:zs[k]? = none)
 (go:∀ g e,Heap.ExtBut c s.heap g->(∃ o,g.get? e = some o/\o.cls = .type "StopIteration")->E (.ref e) { s with heap:=g }):wpAny (model prog w) A (Builtin.«tuple_iterator.__next__» ⟨[.ref c],[]⟩) Q E s:=by
 have hI':=hI
 obtain⟨oc,q1,q2,q3⟩:=hI'
 have hT':=hT
 obtain⟨od,p1,_,nd,p3⟩:=hT'
 have at_:zs[((k:Nat):Int).toNat]? = none:=by simpa using hv
 wp_walk using wpAny_field q1 q3 (x:=.ref d) rfl,wpAny_field q1 q3 (x:=.int k 0) rfl,wpAny_seqItems p1 p3
 rw [at_]
 refine wpAny_bind (wpAny_rule (wpAny_bind (tsetAt q1 q3 (by simp) fun g o' a1 a2 a3 sb=>?_)))
 wp_walk
 unfold raiseNew
 wp_walk using wpAny_handled
 rw [hh]
 wp_walk
 exact go _ _ ((sb.extBut.push _).push _) ⟨_,Heap.get?_push_size _ rfl,rfl⟩
theorem tnext {c d:Addr}{k:Nat}{zs:Array Value}{v:Value}{Q:Value->Shared->Prop} (hI:s.heap.IsTupleIter c d k) (hT:s.heap.IsTuple d zs) (hv:zs[k]? = some v)
 (go:∀ g,g.IsTupleIter c d (k + 1)->Heap.SameBut c s.heap g->Q v { s with heap:=g }):wpAny (model prog w) A (Builtin.SmallTypes.nextOf (.ref c)) Q E s:=by
 have sl:=F.slot_tuple_iterator_next
 unfold Builtin.SmallTypes.nextOf
 refine wpAny_bind (wpAny_callSpecial?_slot (name:=Str.ofString "__next__") hI.typeIs sl (wpAny_call_entry sl hI.typeIs F.entry_tuple_iterator_next ?_ (F.args_tuple_iterator_next_1 _)))
 exact wpAny_mono (tstep (Q:=fun u s'=>u = v/\Q v s') hI hT hv fun g a b=>⟨rfl,go g a b⟩) (fun fin s' ⟨u,e,e2,q⟩=>⟨u,e,wpAny_pure (e2▸q)⟩) fun _ _ z=>z
theorem tnone {c d:Addr}{k:Nat}{zs:Array Value}{Q:Value->Shared->Prop} (hh:A.handled = none) (hI:s.heap.IsTupleIter c d k) (hT:s.heap.IsTuple d zs) (hv:zs[k]? = none)
 (go:∀ g e,Heap.ExtBut c s.heap g->(∃ o,g.get? e = some o/\o.cls = .type "StopIteration")->E (.ref e) { s with heap:=g }):wpAny (model prog w) A (Builtin.SmallTypes.nextOf (.ref c)) Q E s:=by
 have sl:=F.slot_tuple_iterator_next
 unfold Builtin.SmallTypes.nextOf
 refine wpAny_bind (wpAny_callSpecial?_slot (name:=Str.ofString "__next__") hI.typeIs sl (wpAny_call_entry sl hI.typeIs F.entry_tuple_iterator_next ?_ (F.args_tuple_iterator_next_1 _)))
 exact tstop hh hI hT hv go
structure Zp (h:Heap) (z u o c1 c2 d e:Addr) (xs ys:Array Value) (k:Nat):Prop where
 zip:IsZip h z u o .none
 its:IsPair h u (.ref c1) (.ref c2)
 own:∃ a b,IsPair h o a b
 i1:h.IsTupleIter c1 d k
 i2:h.IsTupleIter c2 e k
 t1:h.IsTuple d xs
 t2:h.IsTuple e ys
structure Ap (z u o c1 c2 d e:Addr):Prop where
 ne:[z,u,o,c1,c2].Nodup
 nd:∀ b∈[z,u,o,c1,c2],d≠b/\e≠b
theorem Ap.all {z u o c1 c2 d e:Addr} (P:Ap z u o c1 c2 d e):z≠u/\z≠o/\z≠c1/\z≠c2/\u≠o/\u≠c1/\u≠c2/\o≠c1/\o≠c2/\c1≠c2:=by
 have h:=P.ne
 simp only [List.nodup_cons,List.mem_cons,List.mem_nil_iff,or_false,not_or] at h
 exact⟨h.1.1,h.1.2.1,h.1.2.2.1,h.1.2.2.2,h.2.1.1,h.2.1.2.1,h.2.1.2.2,h.2.2.1.1,h.2.2.1.2,h.2.2.2.1⟩
theorem zdraw {z u o c1 c2:Addr}{x y:Value}{J1 J2:Heap->Prop}{Q:Value->Shared->Prop} (ne:[z,u,o,c1,c2].Nodup) (hz:IsZip s.heap z u o .none) (hu:IsPair s.heap u (.ref c1) (.ref c2)) (ho:∃ a b,IsPair s.heap o a b)
 (s1:∀ g,Heap.SameBut z s.heap g->∀ {R:Value->Shared->Prop}{E':Value->Shared->Prop},(∀ g',J1 g'->Heap.SameBut c1 g g'->R x { s with heap:=g' })->wpAny (model prog w) A (Builtin.SmallTypes.nextOf (.ref c1)) R E' { s with heap:=g })
 (s2:∀ g,(∀ q ob,q≠z->q≠c1->q≠o->s.heap.get? q = some ob->g.get? q = some ob)->∀ {R:Value->Shared->Prop}{E':Value->Shared->Prop},(∀ g',J2 g'->Heap.SameBut c2 g g'->R y { s with heap:=g' })->wpAny (model prog w) A (Builtin.SmallTypes.nextOf (.ref c2)) R E' { s with heap:=g })
 (m1:∀ g g',J1 g->(∀ ob,g.get? c1 = some ob->g'.get? c1 = some ob)->J1 g') (m2:∀ g g',J2 g->(∀ ob,g.get? c2 = some ob->g'.get? c2 = some ob)->J2 g')
 (go:∀ g,IsZip g z u o (rawInt s.heap.objs.size)->IsPair g o x y->J1 g->J2 g->IsPair g s.heap.objs.size x y->g.objs.size = s.heap.objs.size + 1->
  (∀ b ob,b≠z->b≠o->b≠c1->b≠c2->s.heap.get? b = some ob->g.get? b = some ob)->Q (.ref s.heap.objs.size) { s with heap:=g }):
 wpAny (model prog w) A (Builtin.«zip.__next__» ⟨[.ref z],[]⟩) (fun fin s'=>∃ v,fin = .done (.ret v)/\Q v s') E s:=by
 simp only [List.nodup_cons,List.mem_cons,List.mem_nil_iff,or_false,not_or] at ne
 obtain⟨⟨n1,n2,n3,n4⟩,⟨n5,n6,n7⟩,⟨n8,n9⟩,n10,_⟩:=ne
 obtain⟨a,b,hO⟩:=ho
 have w0:=fun {R:Unit->Shared->Prop}=>wpAny_setField_rec (prog:=prog) (w:=w) (A:=A) (E:=E) (k:=0) (x:=.ellipsis) (Q:=R) hz (by simp)
 wp_walk using wpAny_field hz rfl (x:=.bool false) rfl,wpAny_field hz rfl (x:=.ref u) rfl,wpAny_field hz rfl (x:=.none) rfl,wpAny_field hz rfl (x:=.ref o) rfl,wpAny_seqItems hu rfl,w0
 intro g1 zz k1
 have z1:IsZip g1 z u o .ellipsis:=zz
 simp only [List.zipIdx_cons,List.zipIdx_nil,List.forIn_cons,List.forIn_nil]
 refine wpAny_bind (wpAny_bind (wpAny_bind (wpAny_onRaise ?_)))
 have d1:=fun {E':Value->Shared->Prop}{R:Value->Shared->Prop}=>s1 g1 k1 (R:=R) (E':=E')
 wp_walk using d1
 intro g2 j2 k2
 have b2:∀ q ob,q≠z->q≠c1->s.heap.get? q = some ob->g2.get? q = some ob:=fun q ob m1 m2 e=>k2.extBut _ _ m2 (k1.extBut _ _ m1 e)
 have o2:IsPair g2 o a b:=b2 _ _ (Ne.symm n2) n8 hO
 have up1:=fun {R:Unit->Shared->Prop}=>wpAny_updateSeq_pair (prog:=prog) (w:=w) (A:=A) (E:=E) (s:={ s with heap:=g2 }) (k:=0) (x:=x) (Q:=R) o2
 wp_walk using wpAny_seqItems o2 rfl,up1,wpAny_letGo
 intro g3 zo k3
 have o3:IsPair g3 o x b:=zo
 have b3:∀ q ob,q≠z->q≠c1->q≠o->s.heap.get? q = some ob->g3.get? q = some ob:=fun q ob m1 m2 m3 e=>k3.extBut _ _ m3 (b2 q ob m1 m2 e)
 have d2:=fun {E':Value->Shared->Prop}{R:Value->Shared->Prop}=>s2 g3 b3 (R:=R) (E':=E')
 refine wpAny_bind (wpAny_letGo (wpAny_pure (wpAny_bind (wpAny_bind (wpAny_onRaise ?_)))))
 wp_walk using d2
 intro g4 j4 k4
 have o4:IsPair g4 o x b:=k4.extBut _ _ n9 o3
 have up2:=fun {R:Unit->Shared->Prop}=>wpAny_updateSeq_pair (prog:=prog) (w:=w) (A:=A) (E:=E) (s:={ s with heap:=g4 }) (k:=1) (x:=y) (Q:=R) o4
 wp_walk using wpAny_seqItems o4 rfl,up2,wpAny_letGo
 intro g5 zo5 k5
 have o5:IsPair g5 o x y:=zo5
 have z5:IsZip g5 z u o .ellipsis:=k5.extBut _ _ n2 (k4.extBut _ _ n4 (k3.extBut _ _ n2 (k2.extBut _ _ n3 z1)))
 have len5:g5.objs.size = s.heap.objs.size:=by rw [k5.1,k4.1,k3.1,k2.1,k1.1]
 have zlt:z < g5.objs.size:=Heap.lt_size z5
 have z6:IsZip (g5.push { cls:=.type "tuple",data:=.seq #[x,y] }) z u o .ellipsis:=Heap.get?_push_of_some _ z5
 have w6:=fun {R:Unit->Shared->Prop}=>wpAny_setField_rec (prog:=prog) (w:=w) (A:=A) (E:=E) (s:={ s with heap:=g5.push { cls:=.type "tuple",data:=.seq #[x,y] } }) (k:=0) (x:=rawInt g5.objs.size) (Q:=R) z6 (by simp)
 wp_walk using wpAny_letGo,wpAny_seqItems o5 rfl,w6
 intro g7 zz7 k7
 have z7:IsZip g7 z u o (rawInt g5.objs.size):=zz7
 have w7:=fun {R:Unit->Shared->Prop}=>wpAny_setField_rec (prog:=prog) (w:=w) (A:=A) (E:=E) (s:={ s with heap:=g7 }) (k:=1) (x:=.bool false) (Q:=R) z7 (by simp)
 wp_walk using w7
 intro g8 zz8 k8
 have z8:IsZip g8 z u o (rawInt g5.objs.size):=zz8
 have on:∀ q ob,q≠z->g5.get? q = some ob->g8.get? q = some ob:=fun q ob m e=>k8.extBut _ _ m (k7.extBut _ _ m (Heap.get?_push_of_some _ e))
 have p8:IsPair g8 g5.objs.size x y:=k8.extBut _ _ (Nat.ne_of_gt zlt) (k7.extBut _ _ (Nat.ne_of_gt zlt) (Heap.get?_push_size _ rfl))
 have len8:g8.objs.size = g5.objs.size + 1:=by rw [k8.1,k7.1,Heap.size_push]
 rw [len5] at z8 p8 len8
 wp_walk
 refine⟨_,rfl,?_⟩
 rw [len5]
 exact go g8 z8 (on _ _ (Ne.symm n2) o5) (m1 _ _ j2 fun ob q=>on _ ob (Ne.symm n3) (k5.extBut _ _ (Ne.symm n8) (k4.extBut _ _ n10 (k3.extBut _ _ (Ne.symm n8) q)))) (m2 _ _ j4 fun ob q=>on _ ob (Ne.symm n4) (k5.extBut _ _ (Ne.symm n9) q))
  p8 len8 fun q ob m1 m2 m3 m4 e=>on q ob m1 (k5.extBut _ _ m2 (k4.extBut _ _ m4 (b3 q ob m1 m3 m2 e)))
theorem zdrawNo {z u o c1 c2:Addr}{Q:PySem.Fin->Shared->Prop} (ne:[z,u,o,c1,c2].Nodup) (hz:IsZip s.heap z u o .none) (hu:IsPair s.heap u (.ref c1) (.ref c2)) (ho:∃ a b,IsPair s.heap o a b)
 (src:(∀ g,Heap.SameBut z s.heap g->∀ {R:Value->Shared->Prop}{E':Value->Shared->Prop},(∀ g' f,Heap.ExtBut c1 g g'->(∃ ob,g'.get? f = some ob/\ob.cls = .type "StopIteration")->E' (.ref f) { s with heap:=g' })->wpAny (model prog w) A (Builtin.SmallTypes.nextOf (.ref c1)) R E' { s with heap:=g })\/
  ∃ x,(∀ g,Heap.SameBut z s.heap g->∀ {R:Value->Shared->Prop}{E':Value->Shared->Prop},(∀ g',Heap.SameBut c1 g g'->R x { s with heap:=g' })->wpAny (model prog w) A (Builtin.SmallTypes.nextOf (.ref c1)) R E' { s with heap:=g })/\
   ∀ g,(∀ q ob,q≠z->q≠c1->q≠o->s.heap.get? q = some ob->g.get? q = some ob)->∀ {R:Value->Shared->Prop}{E':Value->Shared->Prop},(∀ g' f,Heap.ExtBut c2 g g'->(∃ ob,g'.get? f = some ob/\ob.cls = .type "StopIteration")->E' (.ref f) { s with heap:=g' })->wpAny (model prog w) A (Builtin.SmallTypes.nextOf (.ref c2)) R E' { s with heap:=g })
 (go:∀ g x,(∀ b ob,b≠z->b≠o->b≠c1->b≠c2->s.heap.get? b = some ob->g.get? b = some ob)->(∃ ob,g.get? x = some ob/\ob.cls = .type "StopIteration")->E (.ref x) { s with heap:=g }):
 wpAny (model prog w) A (Builtin.«zip.__next__» ⟨[.ref z],[]⟩) Q E s:=by
 simp only [List.nodup_cons,List.mem_cons,List.mem_nil_iff,or_false,not_or] at ne
 obtain⟨⟨n1,n2,n3,n4⟩,⟨n5,n6,n7⟩,⟨n8,n9⟩,n10,_⟩:=ne
 obtain⟨a,b,hO⟩:=ho
 have w0:=fun {R:Unit->Shared->Prop}=>wpAny_setField_rec (prog:=prog) (w:=w) (A:=A) (E:=E) (k:=0) (x:=.ellipsis) (Q:=R) hz (by simp)
 wp_walk using wpAny_field hz rfl (x:=.bool false) rfl,wpAny_field hz rfl (x:=.ref u) rfl,wpAny_field hz rfl (x:=.none) rfl,wpAny_field hz rfl (x:=.ref o) rfl,wpAny_seqItems hu rfl,w0
 intro g1 zz k1
 have z1:IsZip g1 z u o .ellipsis:=zz
 have off:∀ (g:Heap) (f:Addr),IsZip g z u o .ellipsis->(∃ ob,g.get? f = some ob/\ob.cls = .type "StopIteration")->(∀ q ob,q≠z->q≠o->q≠c1->q≠c2->s.heap.get? q = some ob->g.get? q = some ob)->
  wpAny (model prog w) A (setField (.ref z) 0 .none) (fun _ s'=>E (.ref f) s') E { s with heap:=g }:=fun g f zg ⟨ob,e1,e2⟩ al=>by
  have fz:f≠z:=fun q=>by
   rw [q,zg] at e1;cases e1;simp at e2
  exact wpAny_setField_rec zg (by simp) fun g' _ kk=>go g' f (fun q oq m1 m2 m3 m4 e=>kk.extBut _ _ m1 (al q oq m1 m2 m3 m4 e)) ⟨ob,kk.extBut _ _ fz e1,e2⟩
 simp only [List.zipIdx_cons,List.zipIdx_nil,List.forIn_cons,List.forIn_nil]
 refine wpAny_bind (wpAny_bind (wpAny_bind (wpAny_onRaise ?_)))
 rcases src with s1 | ⟨x1,s1,s2⟩
 · have d1:=fun {E':Value->Shared->Prop}{R:Value->Shared->Prop}=>s1 g1 k1 (R:=R) (E':=E')
   wp_walk using d1
   intro g2 f kk st
   exact off g2 f (kk _ _ n3 z1) st fun q ob m1 _ m3 _ e=>kk _ _ m3 (k1.extBut _ _ m1 e)
 · have d1:=fun {E':Value->Shared->Prop}{R:Value->Shared->Prop}=>s1 g1 k1 (R:=R) (E':=E')
   wp_walk using d1
   intro g2 k2
   have o2:IsPair g2 o a b:=k2.extBut _ _ n8 (k1.extBut _ _ (Ne.symm n2) hO)
   have up1:=fun {R:Unit->Shared->Prop}=>wpAny_updateSeq_pair (prog:=prog) (w:=w) (A:=A) (E:=E) (s:={ s with heap:=g2 }) (k:=0) (x:=x1) (Q:=R) o2
   wp_walk using wpAny_seqItems o2 rfl,up1,wpAny_letGo
   intro g3 zo k3
   have b3:∀ q ob,q≠z->q≠c1->q≠o->s.heap.get? q = some ob->g3.get? q = some ob:=fun q ob m1 m2 m3 e=>k3.extBut _ _ m3 (k2.extBut _ _ m2 (k1.extBut _ _ m1 e))
   refine wpAny_bind (wpAny_letGo (wpAny_pure (wpAny_bind (wpAny_bind (wpAny_onRaise ?_)))))
   have d2:=fun {E':Value->Shared->Prop}{R:Value->Shared->Prop}=>s2 g3 b3 (R:=R) (E':=E')
   wp_walk using d2
   intro g4 f kk st
   exact off g4 f (kk _ _ n4 (k3.extBut _ _ n2 (k2.extBut _ _ n3 z1))) st fun q ob m1 m2 m3 m4 e=>kk _ _ m4 (b3 q ob m1 m3 m2 e)
end
theorem sqT_apart {X:Cx}{pins:List (Addr×Obj)}{σ:L2.St}{H:Hp}{s:Shared}{d b:Addr}{xs:List V} (I:Inv X pins σ H s) (h:SqT X.K H d xs) (f:FpOk X pins H b):d≠b:=fun z=>by
 subst z
 rcases h with h | ⟨o,its,n,hk,_⟩
 · rcases h with h | ⟨o,h⟩
   · rw [f.1] at h;cases h
   · rw [f.1] at h;cases h
 · have e:=I.ok.mod.kin d o hk
   rcases f.2.2.2.1 with z | z
   · exact I.ok.noex d o e z
   · exact absurd (Nat.lt_of_lt_of_le (Heap.lt_size e) (Nat.le_trans I.ok.bsz z)) (Nat.lt_irrefl _)
theorem boot_zip:bootBuiltins "zip" = some (.type "zip"):=by decide +kernel
theorem preSum_take (ns:List Int):∀ n,n<=ns.length->preSum (fun i=>ns.getD i 0) n = (ns.take n).sum
 | 0,_=>rfl
 | n + 1,h=>by
  show preSum _ n + ns.getD n 0 = _
  rw [preSum_take ns n (by omega),List.take_add_one,List.sum_append,List.getD_eq_getElem?_getD,List.getElem?_eq_getElem (by omega)]
  simp
theorem vals_int:∀ {ns:List Int}{its:List Value}{i:Nat}{v:Value},Vals (ns.map V.int) its->its[i]? = some v->∃ n t,ns[i]? = some n/\v = .int n t
 | [],_,i,v,r,e=>by cases r;simp_all
 | n :: ns,_,i,v,r,e=>by
  cases r with
  | cons r rr=>
   cases i with
   | zero=>simp at e;subst e;obtain⟨t,rfl⟩:=r;simp
   | succ i=>
    obtain⟨n',t,h1,h2⟩:=vals_int rr (by assumption)
    simp_all
theorem boot_sum':bootBuiltins "sum" = some (.builtin "sum"):=by rfl
section
variable {K:PySem.W.Frag}
theorem g_tup2 (hi:At X.N i x) (hj:At X.N j y) (hc:X.calm = true) (hN:X.N.Nodup) (hx:X.env.scope.names.lookup x = some .local) (hy:X.env.scope.names.lookup y = some .local)
 (h1:(assignEach [.Name x px,.Name y py] X.env).map (·.2) = assign (.Name x px) X.env :: (assignEach [.Name y py] X.env).map (·.2))
 (h2:(assignEach [.Name y py] X.env).map (·.2) = assign (.Name y py) X.env :: (assignEach [] X.env).map (·.2))
 (hn:(assignEach [.Name x px,.Name y py] X.env).length = 2) (hst:(assignEach [.Name x px,.Name y py] X.env).findIdx? (·.1) = none):JG X (.Tuple [.Name x px,.Name y py] kt pt) (gTup X.K 2 (gCons (gName i) (gCons (gName j) gNil))):=
 ⟨pg_tup hc (pgs_cons (pg_name hN hi.get (.inl hx) (.inr hx)) (pgs_cons (pg_name hN hj.get (.inl hy) (.inr hy)) pgs_nil h2) h1) hn hst⟩
theorem s_unpack3 (hi:At X.N i x) (hj:At X.N j y) (hk:At X.N k z) (hc:X.calm = true) (hN:X.N.Nodup) (hx:X.env.scope.names.lookup x = some .local) (hy:X.env.scope.names.lookup y = some .local) (hz:X.env.scope.names.lookup z = some .local)
 (h1:(assignEach [.Name x px,.Name y py,.Name z pz] X.env).map (·.2) = assign (.Name x px) X.env :: (assignEach [.Name y py,.Name z pz] X.env).map (·.2))
 (h2:(assignEach [.Name y py,.Name z pz] X.env).map (·.2) = assign (.Name y py) X.env :: (assignEach [.Name z pz] X.env).map (·.2))
 (h3:(assignEach [.Name z pz] X.env).map (·.2) = assign (.Name z pz) X.env :: (assignEach [] X.env).map (·.2))
 (hn:(assignEach [.Name x px,.Name y py,.Name z pz] X.env).length = 3) (hst:(assignEach [.Name x px,.Name y py,.Name z pz] X.env).findIdx? (·.1) = none)
 (hs:swapsWithSole [.Tuple [.Name x px,.Name y py,.Name z pz] kt pt] e pos.line X.env = pure false) (hw:swappedStores [.Tuple [.Name x px,.Name y py,.Name z pz] kt pt] e X.env = pure none)
 (h4:(assignEach [.Tuple [.Name x px,.Name y py,.Name z pz] kt pt] X.env).map (·.2) = [assign (.Tuple [.Name x px,.Name y py,.Name z pz] kt pt) X.env]) (he:JE X e te):
 JS X (.Assign [.Tuple [.Name x px,.Name y py,.Name z pz] kt pt] e pos) (tAsg te (gTup X.K 3 (gCons (gName i) (gCons (gName j) (gCons (gName k) gNil))))):=
 ⟨ps_asg he.h (pg_tup hc (pgs_cons (pg_name hN hi.get (.inl hx) (.inr hx)) (pgs_cons (pg_name hN hj.get (.inl hy) (.inr hy)) (pgs_cons (pg_name hN hk.get (.inl hz) (.inr hz)) pgs_nil h3) h2) h1) hn hst) hs hw h4⟩
theorem k_comp21 (hK:X.K = K) (hc:X.calm = true) (S:compB X.env.scope.names X.N scope = true) (hs:∀ x,foldedSetIterable iter X.env x = pure x) (hxy:[x,y,z].Nodup) (hx:scope.names.lookup x = some .local) (hy:scope.names.lookup y = some .local) (hz:scope.names.lookup z = some .local)
 (hi:JI X (.Tuple [.Tuple [.Name x px,.Name y py] kt2 pt2,.Name z pz] kt pt) iter wi) (ht:∀ C s H fp,JIfs (cxC X [x,y,z] scope C s H fp) ifs tt) (he:∀ C s H fp,JE (cxC X [x,y,z] scope C s H fp) elt te):
 JE X (.ListComp elt [⟨.Tuple [.Tuple [.Name x px,.Name y py] kt2 pt2,.Name z pz] kt pt,iter,ifs,0⟩] scope pos) (tComp 3 wi (gTup K 2 (gCons (gTup K 2 (gCons (gName 0) (gCons (gName 1) gNil))) (gCons (gName 2) gNil))) tt te):=by
 subst hK
 refine⟨pe_comp (Nc:=[x,y,z]) hc (.of S) hs hi.h (fun C s H fp=>?_) (fun C s H fp=>(ht C s H fp).h) fun C s H fp=>(he C s H fp).h⟩
 have nd:(cxC X [x,y,z] scope C s H fp).N.Nodup:=by
  show ([x,y,z] ++ X.N.map (hid scope)).Nodup
  refine List.nodup_append.mpr ⟨hxy,(CompS.of S).nd,fun a ha b hb e=>?_⟩
  subst e
  simp only [List.mem_cons,List.mem_nil_iff,or_false] at ha
  rcases ha with rfl | rfl | rfl
  · exact not_mem_of (CompS.of S) hx hb
  · exact not_mem_of (CompS.of S) hy hb
  · exact not_mem_of (CompS.of S) hz hb
 exact pg_tup (X:=cxC X [x,y,z] scope C s H fp) hc (pgs_cons (pg_tup (X:=cxC X [x,y,z] scope C s H fp) hc (pgs_cons (pg_name nd rfl (.inl (loc_C hx)) (.inr (loc_C hx))) (pgs_cons (pg_name nd rfl (.inl (loc_C hy)) (.inr (loc_C hy))) pgs_nil))) (pgs_cons (pg_name nd rfl (.inl (loc_C hz)) (.inr (loc_C hz))) pgs_nil))
end
structure GInt (mg:Str->Option Value) (x:Str) (n:Int):Prop where
 is:∃ t,mg x = some (.int n t)
section
variable {K:PySem.W.Frag}
theorem j_const (g:GInt X.mg x n) (hg:Gl X x) (hd:(x == ("__debug__" : Str)) = false):JE X (.Name x pos) (tC (.int n)):=⟨let ⟨t,h⟩:=g.is;pe_glob hg h ⟨t,rfl⟩ hd⟩
end
end Br
namespace Br
end Br
namespace Br
open PySem PySem.Spec PySem.Calls PyProof.Rows L2
section
variable {K:PySem.W.Frag}
theorem c_isN:JCop X .Is (fun x y H Q=>y = .non/\Q (.bl (decide (x = .non))) H):=⟨op_isN⟩
end
section
variable {K:PySem.W.Frag}{pos p kp:Pos}{x nm:Str}{id:String}
theorem vals_ints:∀ {ns:List Int}{vs:List Value},Vals (ns.map V.int) vs->IntsAre vs ns
 | [],_,r=>by cases r;exact .nil
 | n :: ns,_,r=>by
  cases r with
  | cons r rr=>
   obtain⟨t,rfl⟩:=r
   exact .cons n t (vals_ints rr)
end
end Br
namespace Br
open PySem PySem.Spec PyProof.Rows L2
end Br
namespace Br
open PySem PySem.Spec PySem.Calls PyProof.Rows L2
section
theorem iter_seq {pins:List (Addr×Obj)}{s:Shared}{σ:L2.St}{H:Hp}{p:Addr}{ns:List Int} (hc:X.calm = true) (I:Inv X pins σ H s) (hq:SqL X.K H p (ns.map V.int)\/SqT X.K H p (ns.map V.int)) {Q:Value->Shared->Prop}{E:Value->Shared->Prop}
 (h:∀ (T:String) (its:List Value) (St:Nat->Heap->Prop),its.length = ns.length->(∀ (i:Nat) (v:Value),its.toArray[i]? = some v->∃ t,v = Value.int (ns.getD i 0) t)->
  Walks X.prog X.w X.A.in1 s.heap.objs.size [s.heap.objs.size,p] [s.heap.objs.size] its.toArray.size (fun i v=>its.toArray[i]? = some v) St->St 0 (s.heap.push { cls:=.type T,data:=.fields #[.ref p,.int 0 0] })->p < s.heap.objs.size->
  Q (.ref s.heap.objs.size) { s with heap:=s.heap.push { cls:=.type T,data:=.fields #[.ref p,.int 0 0] } }):wpAny (model X.prog X.w) X.A.in1 (pyIter (.ref p)) Q E s:=by
 rcases hq with hq | hq
 · obtain⟨its,r',pl,hz⟩:=I.list hq
   have hp:p < s.heap.objs.size:=by obtain⟨_,_,e,_⟩:=pl;exact Heap.lt_size e
   have hl:its.length = ns.length:=by rw [<- r'.length,List.length_map]
   exact wpAny_pyIter_list pl.isList (h "list_iterator" its _ hl (fun i v e=>by
    obtain⟨n,t,h1,h2⟩:=vals_int r' (by simpa using e)
    exact⟨t,by rw [h2,List.getD_eq_getElem?_getD,h1];rfl⟩) (Walks.list (A:=X.A.in1) (I.ok.hd hc) s.heap.objs.size p (Nat.ne_of_lt hp) its.toArray) ⟨⟨_,Heap.get?_push_size _ rfl,rfl,rfl⟩,pl.isList.at fun o e=>Heap.get?_push_of_some _ e⟩ hp)
 · obtain⟨its,r',pl,hz⟩:=I.tuple hq
   have pl':s.heap.IsTuple p its.toArray:=pl
   have hp:p < s.heap.objs.size:=by obtain⟨_,e,_⟩:=pl;exact Heap.lt_size e
   have hl:its.length = ns.length:=by rw [<- r'.length,List.length_map]
   exact wpAny_pyIter_tuple pl' (h "tuple_iterator" its _ hl (fun i v e=>by
    obtain⟨n,t,h1,h2⟩:=vals_int r' (by simpa using e)
    exact⟨t,by rw [h2,List.getD_eq_getElem?_getD,h1];rfl⟩) (Walks.tuple (A:=X.A.in1) (I.ok.hd hc) s.heap.objs.size p (Nat.ne_of_lt hp) its.toArray) ⟨⟨_,Heap.get?_push_size _ rfl,rfl,rfl⟩,pl'.at fun o e=>Heap.get?_push_of_some _ e⟩ hp)
theorem fp_lt {s:Shared}{p:Addr} (hp:p < s.heap.objs.size):∀ b∈[s.heap.objs.size,p],b < (s.heap.push o).objs.size:=fun b hb=>by
 rw [Heap.size_push]
 rcases List.mem_cons.mp hb with e | hb
 · simp_all
 · rw [List.mem_singleton.mp hb];exact Nat.lt_succ_of_lt hp
def rSumS (K:PySem.W.Frag):List V->Hp->VK->Prop:=fun xs H Q=>∃ (p:Addr) (ns:List Int),xs = [.ref p]/\(SqL K H p (ns.map V.int)\/SqT K H p (ns.map V.int))/\Q (.int ns.sum) H
theorem call_sumS (hc:X.calm = true):CallR X (.builtin "sum") (rSumS X.K):=by
 intro pins s σ H xs us Q I r h
 obtain⟨p,ns,rfl,hq,q⟩:=h
 obtain⟨u,rfl,rx⟩:=vals1 r
 cases rx
 refine call_sum_walkAnyS (iter_seq hc I hq fun T its St hl hval W st hp=>⟨s.heap.objs.size,_,_,_,_,_,_,fun i=>ns.getD i 0,rfl,W.toS,st,fp_lt hp,fun i v e=>hval i v e,fun s' t' hm=>?_⟩)
 rw [List.size_toArray,hl,preSum_take ns _ (Nat.le_refl _),List.take_length]
 have hk:=fun b o e=>hm.heap b o (fun hI=>absurd (Heap.lt_size e) (by simp_all)) (Heap.get?_push_of_some _ e)
 rw [Moved.eq_with hm]
 exact⟨.int ns.sum,H,I.kept hk,⟨t',rfl⟩,q⟩
def rCatTA (K:PySem.W.Frag):R2:=fun x y H Q=>∃ a b xs ys,x = .ref a/\y = .ref b/\SqT K H a xs/\SqT K H b ys/\xs.length + ys.length<=sizeLine/\∀ p H2,L2.Same H H2->SqT K H2 p (xs ++ ys)->Q (.ref p) H2
theorem op_catTA:OpR X (binaryOp .Add) (rCatTA X.K):=fun pins s σ H x y v u Q I rx ry h=>by
 obtain⟨a,b,xs,ys,e1,e2,h1,h2,hz,q⟩:=h
 by_cases hx:xs = []
 · subst e1;subst e2;subst hx
   cases rx;cases ry
   obtain⟨its,r1,p1,_⟩:=I.tuple h1
   obtain⟨its2,r2,p2,_⟩:=I.tuple h2
   have hv:=r1.nil_iff.mpr rfl
   obtain⟨⟨cls,dd,data,sl⟩,ho,hc,n,hd⟩:=id p1
   obtain⟨⟨cls2,dd2,data2,sl2⟩,ho2,hc2,n2,hd2⟩:=id p2
   subst hc hd hc2 hd2
   exact concat_meets ⟨_,ho,rfl⟩ ⟨_,ho2,rfl⟩ noFill_tuple_add seq_tuple_add PySem.F.slot_tuple_add PySem.F.entry_tuple_add (PySem.F.args_tuple_add_2 _ _)
    (tuple_addW0 a b its.toArray its2.toArray n n2 dd dd2 sl sl2 (by grind)) ⟨ho,ho2,⟨.ref b,H,I,rfl,q b H (L2.Same.refl _) h2⟩⟩
 · exact op_catTS pins s σ H x y v u Q I rx ry ⟨a,b,xs,ys,e1,e2,h1,h2,hx,hz,q⟩
end
section
variable {K:PySem.W.Frag}
theorem k_addA (hK:X.K = K):JOp X .Add (fun x y H Q=>rI0 (fun i j=>.int (i + j)) x y H Q\/rCatS x y H Q\/rCatTA K x y H Q):=hK▸⟨op_add.or (op_catS.or op_catTA)⟩
section
variable (hg:Gl X x) (he:starEach (e :: es) X.env = (false,eval e X.env) :: starEach es X.env) (hpl:(backTo pos (starEach es X.env)).any (·.1) = false)
include hg he hpl
theorem k_sumS (hK:X.K = K) (hx:x = "sum") (hc:X.calm = true) (hm:X.mg x = none) (ha:JA X (e :: es) t):JE X (.Call (.Name x p) (e :: es) [] pos) (tCB (rSumS K) t):=hK▸⟨by subst hx;exact pe_callB (call_sumS hc) hg hm boot_sum' ha.h (by decide) (by decide) he hpl⟩
end
def rRepS:R2:=fun x y H Q=>∃ l k xs,x = .ref l/\y = .int k/\H l = some (.lst xs)/\-(2 ^ 63)<=k/\k < 2 ^ 63/\xs.length * k.toNat<=sizeLine/\∀ p H2,H p = none->L2.Same H H2->H2 p = some (.lst (List.replicate k.toNat xs).flatten)->Q (.ref p) H2
theorem op_repS:OpR X (binaryOp .Mult) rRepS:=fun pins s σ H x y v u Q I rx ry h=>by
 obtain⟨l,k,xs,e1,e2,h1,h2,h3,h4,q⟩:=h
 exact op_rep pins s σ H x y v u Q I rx ry ⟨l,k,xs,e1,e2,h1,h2,h3,h4,fun p hp=>q p _ hp (Br.Same.upd hp) upd_same⟩
theorem j_repL (ha:JE X (.List es p) ta) (hb:JE X b tb):JE X (.BinOp (.List es p) .Mult b pos) (tOp rRepS ta tb):=⟨r_bin op_repS ha.h hb.h⟩
theorem u_cmpM (hm:lastMarks [op] [b] = false) (ho:JCop X op r) (ha:JE X a ta) (hb:JE X b tb):JT X (.Compare a [op] [b] pos) (tTest (tOp r ta tb)):=⟨pt_cmpR ho.h ha.h hb.h hm⟩
theorem j_cmpM (hm:lastMarks [op] [b] = false) (ho:JCop X op r) (ha:JE X a ta) (hb:JE X b tb):JE X (.Compare a [op] [b] pos) (tOp r ta tb):=⟨pe_cmpR ho.h ha.h hb.h hm⟩
theorem k_extend (hK:X.K = K) (hbase:attributeBase o "extend" X.env (eval o X.env) = eval o X.env) (hfew:((backTo cpos (starEach [e] X.env)).all (fun x=>!x.1) && (backToKw cpos (keywordEach [] X.env)).all (fun x=>x.1.isSome)
 && decide (([e]:List Expr).length + ([]:List Keyword).length + (if ([]:List Keyword).isEmpty then 0 else 1) < 30)) = true) (hline:(apos.endLine == cpos.line) = true) (hs:starEach [e] X.env = (false,eval e X.env) :: starEach [] X.env)
 (hpl:(backTo cpos (starEach [] X.env)).any (·.1) = false) (ho:JE X o to) (ha:JA X [e] t):JE X (.Call (.Attribute o "extend" apos) [e] [] cpos) (tBM K "list" rExtend to t):=
 hK▸⟨pe_bm PySem.F.plainAttrs_list PySem.F.slot_list_extend PySem.F.type_list_extend mt_extend ho.h ha.h hbase hfew hline hs hpl⟩
end
end Br
namespace Br
end Br
namespace Br
open PySem PySem.Spec PySem.Calls PyProof.Rows L2
structure RoomH (k:Nat) (A:Around):Prop where
 dp:A.depth + 3 * k + 5 < recursionLimit
 un:A.units + 16 * k + 200 < cLine
section
theorem c_isnotN:JCop X .IsNot (fun x y H Q=>y = .non/\Q (.bl (!decide (x = .non))) H):=⟨op_notN⟩
end
theorem fillT:fillsNumberSlot (.type "tuple") "mul" = pure false:=PySem.fillsNumberSlot_seq (id:="tuple.__mul__") (r:=some (.builtin "tuple.__rmul__")) PySem.F.slot_tuple_mul.lookup (by decide +kernel) PySem.F.slot_tuple_rmul.lookup (by decide +kernel)
theorem repT:seqRepeat? (.type "tuple") = pure (some (.builtin "tuple.__mul__")):=by
 unfold seqRepeat?
 rw [PySem.seqSlot_of (T:="tuple") (name:="__mul__") (id:="tuple.__mul__") PySem.F.slot_tuple_mul.lookup (by decide +kernel),PySem.seqSlot_of (T:="tuple") (name:="__rmul__") (id:="tuple.__rmul__") PySem.F.slot_tuple_rmul.lookup (by decide +kernel)]
 rfl
theorem rmulT (k:Int) (t:Tok) (a:Addr) (its:Array Value) (c:Nat) (dd:Option Addr) (sl:Array (Option Value)):
 Meets (Builtin.«int.__rmul__» ⟨[.int k t,.ref a],[]⟩) (fun _ R s=>s.heap.get? a = some { cls:=.type "tuple",dict:=dd,data:=.seq its c,slots:=sl }/\R (.ok (.ret Value.notImplemented)) s):=
 .of_wp fun pr ww Ar Rr st hy=>by
  obtain⟨h1,h2,h3,h4,h5⟩:=st
  obtain⟨q1,q2⟩:=hy
  wp_walk
  exact⟨_,rfl,q2⟩
theorem mulT1 (t:Tok) (a:Addr) (its:Array Value) (c:Nat) (dd:Option Addr) (sl:Array (Option Value)):
 Meets (Builtin.«tuple.__mul__» ⟨[.ref a,.int 1 t],[]⟩) (fun _ R s=>s.heap.get? a = some { cls:=.type "tuple",dict:=dd,data:=.seq its c,slots:=sl }/\R (.ok (.ret (.ref a))) s):=
 .of_wp fun pr ww Ar Rr st hy=>by
  obtain⟨h1,h2,h3,h4,h5⟩:=st
  obtain⟨q1,q2⟩:=hy
  have f1:=AutoSeq1.idx_int
  wp_walk using wpAny_loadPart' q1
  exact⟨_,rfl,q2⟩
theorem joinT (vs:List Value) (m:Nat):List.foldl (fun x1 x2=>x1 ++ x2) #[] (List.replicate m vs.toArray) = (List.replicate m vs).flatten.toArray:=by
 have:=foldl_rep vs m []
 rw [List.nil_append] at this
 exact this
theorem mulTn (k:Int) (t:Tok) (a:Addr) (vs:List Value) (c:Nat) (dd:Option Addr) (sl:Array (Option Value)) (h1:2<=k) (h2:k < 2 ^ 63) (h0:vs≠[]) (hz:vs.length * k.toNat<=sizeLine):
 Meets (Builtin.«tuple.__mul__» ⟨[.ref a,.int k t],[]⟩) (fun _ R s=>s.heap.get? a = some { cls:=.type "tuple",dict:=dd,data:=.seq vs.toArray c,slots:=sl }/\R (.ok (.ret (.ref s.heap.objs.size))) { s with heap:=s.heap.push { cls:=.type "tuple",data:=.seq (List.replicate k.toNat vs).flatten.toArray } }):=
 .of_wp fun pr ww Ar Rr st hy=>by
  obtain⟨g1,g2,g3,g4,g5⟩:=st
  obtain⟨q1,q2⟩:=hy
  have f1:=AutoSeq1.idx_int
  have e0:vs.toArray.isEmpty = false:=by cases vs with
   | nil=>exact absurd rfl h0
   | cons _ _=>rfl
  have hs:(sizeLine:Nat) = 16777216:=sizeLine_eq
  have hzi:(vs.toArray.size:Int) * k<=16777216:=by
   rw [List.size_toArray]
   have:((vs.length * k.toNat:Nat):Int)<=16777216:=by omega
   rw [Int.natCast_mul,Int.toNat_of_nonneg (by omega)] at this
   exact this
  have c1:¬ (k < -(2 ^ 63) || k >= 2 ^ 63) = true:=by simp;omega
  have c2:¬ (vs.toArray.isEmpty || k == 1) = true:=by rw [e0];simp;omega
  have c3:¬ (decide (k<=0) || vs.toArray.isEmpty) = true:=by rw [e0];simp;omega
  have c4:¬ (vs.toArray.size:Int) * k > (2 ^ 63 - 1) / 8:=by omega
  have c5:¬ Builtin.Tuple.tupleTooMany ((vs.toArray.size:Int) * k) = true:=by unfold Builtin.Tuple.tupleTooMany;rw [hs];simp only [decide_eq_true_eq];omega
  have c6:¬ (List.replicate k.toNat vs).flatten.toArray.size > sizeLine:=by rw [List.size_toArray,len_rep,Nat.mul_comm];omega
  wp_walk using wpAny_loadPart' q1
  rw [if_neg c1]
  wp_walk using wpAny_loadPart' q1
  rw [if_neg c2]
  rw [if_neg c3]
  rw [if_neg c4]
  rw [if_neg c5]
  rw [joinT]
  wp_walk using wpAny_loadPart' q1
  rw [if_neg c6]
  wp_walk using wpAny_loadPart' q1
  exact⟨_,rfl,q2⟩
section
def rRepT (K:PySem.W.Frag):R2:=fun x y H Q=>∃ a k xs,x = .ref a/\y = .int k/\H a = some (.tup xs)/\xs≠[]/\1<=k/\k < 2 ^ 63/\xs.length * k.toNat<=sizeLine/\∀ p H2,L2.Same H H2->H2 p = some (.tup (List.replicate k.toNat xs).flatten)->Q (.ref p) H2
theorem op_repT:OpR X (binaryOp .Mult) (rRepT X.K):=by
 intro pins s σ H x y v u Q I rx ry h
 obtain⟨a,k,xs,rfl,rfl,hH,hne,h1,h2,hz,q⟩:=h
 cases rx
 obtain⟨t,rfl⟩:=ry
 obtain⟨its,r,pt,_⟩:=I.tuple (SqT.of (K:=X.K) hH)
 have hl:=r.length
 obtain⟨⟨cls,dd,data,sl⟩,ho,hc,n,hd⟩:=id pt
 simp only at hc hd
 subst hc hd
 have hits:its≠[]:=fun z=>hne (r.nil_iff.mp z)
 refine wpAny_binaryOp_repeat_ref (T:="tuple") (U:="int") (by decide) ⟨_,ho,rfl⟩ (fun s'=>typeIs_int s' k t) fillT F.fills_int_mul F.slot_int_rmul repT F.slot_int_index.lookup
  (call_meets F.slot_int_rmul (typeIs_int s k t) F.entry_int_rmul (F.args_int_rmul_2 _ _) (rmulT k t a its.toArray n dd sl) ⟨ho,rfl,⟨_,ho,rfl⟩,?_⟩)
 by_cases k1:k = 1
 · subst k1
   refine call_meets PySem.F.slot_tuple_mul ⟨_,ho,rfl⟩ PySem.F.entry_tuple_mul (PySem.F.args_tuple_mul_2 _ _) (mulT1 t a its.toArray n dd sl) ⟨ho,?_⟩
   refine⟨.ref a,H,I,rfl,q a H (L2.Same.refl _) ?_⟩
   have:(List.replicate (1:Int).toNat xs).flatten = xs:=by simp
   rw [this];exact hH
 · refine call_meets PySem.F.slot_tuple_mul ⟨_,ho,rfl⟩ PySem.F.entry_tuple_mul (PySem.F.args_tuple_mul_2 _ _) (mulTn k t a its n dd sl (by omega) h2 hits (by rw [<- hl];exact hz)) ⟨ho,?_⟩
   have hn:H s.heap.objs.size = none:=I.hok.fresh (Nat.le_refl _)
   refine⟨.ref s.heap.objs.size,_,I.laid (t':=s.toks) (o:=.tup (List.replicate k.toNat xs).flatten) (fun b ob e=>Heap.get?_push_of_some _ e) (Nat.le_refl _) ?_,rfl,q _ _ (Br.Same.upd hn) upd_same⟩
   exact⟨by rw [len_rep,Nat.mul_comm];exact hz,_,r.rep k.toNat,IsTupB.new _ _⟩
end
theorem seqT {K:PySem.W.Frag} (e:L2.Same H H') (h:SqT K H a xs):SqT K H' a xs:=by
 rcases h with (h | ⟨o,h⟩) | h
 · exact .inl (.inl (e _ _ h))
 · exact .inl (.inr ⟨o,e _ _ h⟩)
 · exact .inr h
section
def PureLt (prog:Program) (w:World) (A:Around) (s:Shared) (κ:SortKind) (kz:Array Keyed) (lt:Keyed->Keyed->Bool):Prop:=
 ∀ x y:Keyed,x∈kz.toList->y∈kz.toList->∀ (Q:Bool->Shared->Prop) (E:Value->Shared->Prop),Q (lt x y) s->wpAny (model prog w) A (keyLt' κ x.1 y.1) Q E s
theorem sort_any {a:Addr}{vs:List Value}{c:Nat}{R:Array Value->Prop}{P:Fin->Shared->Prop} (at_:s.heap.get? a = some (seqObj "list" vs.toArray c)) (hz:vs.length<=sizeLine) (h1:vs.length < 2->R vs.toArray)
 (hr:2<=vs.length->∀ h6:Heap,(∀ b o,b≠a->s.heap.get? b = some o->h6.get? b = some o)->wpAny (model prog w) A (keyKind' vs.toArray) (fun κ s7=>s7 = { s with heap:=h6 }/\
  wpS (model prog w) A E { s with heap:=h6 } sortRuns' (fun _ v=>failedOf v = none/\(arrOf v).size = vs.length/\R ((arrOf v).map (·.2))) (SortSt.mk' κ (pairsOf vs) #[] 7 none)) E { s with heap:=h6 })
 (q:∀ out:Array Value,out.size = vs.length->R out->P (.done (.ret .none)) { s with heap:=sortedHeap s.heap a vs out }):wpAny (model prog w) A (Builtin.«list.sort» ⟨[.ref a],[]⟩) P E s:=by
 rw [list_sort_plain]
 have la:a < s.heap.objs.size:=Heap.lt_size at_
 refine wpAny_bind (listItems_at at_ rfl (wpAny_bind (listUpdate_at at_ rfl ?_)))
 obtain⟨c1,at1⟩:∃ c1,(s.heap.update a (Obj.mapSeq fun _=>#[])).get? a = some (seqObj "list" #[] c1):=⟨_,get?_update_seq at_ (fun _=>#[])⟩
 refine wpAny_bind (seqEpoch_at at1 rfl (wpAny_bind (wpAny_newTuple (wpAny_bind (wpAny_newList (wpAny_holding ?_))) (by show vs.toArray.toList.length<=_;simpa using hz))))
 have at2:(((s.heap.update a (Obj.mapSeq fun _=>#[])).push (seqObj "tuple" vs.toArray 0)).push (seqObj "list" #[] 0)).get? a = some (seqObj "list" #[] c1):=by
  rw [Heap.get?_push_ne,Heap.get?_push_ne]
  · exact at1
  · rw [Heap.size_update];exact Nat.ne_of_lt la
  · rw [size_push',Heap.size_update];exact Nat.ne_of_lt (Nat.lt_succ_of_lt la)
 have old:∀ b o,b≠a->s.heap.get? b = some o->(((s.heap.update a (Obj.mapSeq fun _=>#[])).push (seqObj "tuple" vs.toArray 0)).push (seqObj "list" #[] 0)).get? b = some o:=fun b o hb e=>
  Heap.get?_push_of_some _ (Heap.get?_push_of_some _ ((Heap.get?_update_other _ _ (Ne.symm hb)).trans e))
 show wpAny (model prog w) A _ P E { s with heap:=((s.heap.update a (Obj.mapSeq fun _=>#[])).push (seqObj "tuple" vs.toArray 0)).push (seqObj "list" #[] 0) }
 dsimp only
 by_cases few:vs.toArray.size < 2
 · rw [if_pos few,if_pos few]
   refine wpAny_bind (wpAny_pure ?_)
   rw [StateT.run_pure]
   refine wpAny_bind (wpAny_pure ?_)
   dsimp only
   refine wpAny_bind (seqEpoch_at at2 rfl (wpAny_bind (listUpdate_at at2 rfl ?_ (hsz2:=by rw [Array.size_map];show (pairsOf vs).size<=_;rw [pairsOf_size];omega))))
   simp only [bne_self_eq_false,Bool.false_eq_true,if_false]
   have e2:(vs.toArray.zip vs.toArray).map (·.2) = vs.toArray:=by
    have:((vs.zip vs).map (·.2)) = vs:=List.map_snd_zip (Nat.le_refl _)
    apply Array.toList_inj.mp
    simpa using this
   refine wpAny_pure ?_
   have:=q vs.toArray (by simp) (h1 (by simpa using few))
   rw [<- e2] at this
   exact this
 · rw [if_neg few,if_neg few]
   refine wpAny_bind (wpAny_mono (hr (by simp at few;omega) _ old) ?_ fun _ _ e=>e)
   rintro κ s' ⟨rfl,hw⟩
   refine wpAny_bind (wpAny_mono hw ?_ fun _ _ e=>e)
   rintro⟨⟨⟩,v⟩ s' ⟨rfl,y1,y2,y3⟩
   dsimp only
   refine wpAny_bind (seqEpoch_at at2 rfl (wpAny_bind (listUpdate_at at2 rfl ?_ (hsz2:=Nat.le_trans (Nat.le_of_eq ((Array.size_map ..).trans y2)) (by omega)))))
   rw [y1]
   simp only [bne_self_eq_false,Bool.false_eq_true,if_false]
   exact wpAny_pure (q _ ((Array.size_map ..).trans y2) y3)
end
section
theorem katLex_ints {fin:Bool}{X Y:Nat} (hf:fin = decide (X < Y)):∀ {vs ws:List Value}{ns ms:List Int}{i:Nat}{Q:Bool->Shared->Prop},IntsAre vs ns->IntsAre ws ms->ns.length + Y = ms.length + X->Q (HT.lexLt ns ms) s->PySem.W.KatLex prog w A true fin Q (vs.zip ws) i s
 | _,_,_,_,i,Q,.nil,.nil,hl,h=>by
  have:fin = false:=by rw [hf];exact decide_eq_false (by simp at hl;omega)
  rw [HT.lexLt_nil_nil,<- this] at h
  exact PySem.W.kat_nil h
 | _,_,_,_,i,Q,.nil,.cons c u r,hl,h=>by
  have:fin = true:=by rw [hf];exact decide_eq_true (by simp at hl;omega)
  rw [HT.lexLt_nil_cons,<- this] at h
  exact PySem.W.kat_nil h
 | _,_,_,_,i,Q,.cons c u r,.nil,hl,h=>by
  have:fin = false:=by rw [hf];exact decide_eq_false (by simp at hl;omega)
  rw [HT.lexLt_cons_nil,<- this] at h
  exact PySem.W.kat_nil h
 | _,_,_,_,i,Q,.cons a t r,.cons c u r',hl,h=>by
  rw [HT.lexLt_cons] at h
  refine PySem.W.kat_cons (wpAny_eqBool_int ?_)
  by_cases e:a = c
  · rw [if_pos e] at h
    subst e
    rw [show (a == a) = true by simp]
    exact PySem.W.kat_yes (katLex_ints hf r r' (by simp at hl;omega) h)
  · rw [if_neg e] at h
    rw [show (a == c) = false by simpa using e]
    refine PySem.W.kat_no ?_
    cases (true && i == 0) with
    | true=>exact oneLt_int h
    | false=>exact PySem.W.kat_one _ _ (HT.rcLt_int A s a t c u prog w _ _ h)
end
def tkey (H:Hp):Value->List Int
 | .ref a=>match H a with
  | some (.tup xs)=>xs.map fun v=>match v with | .int i=>i | _=>0
  | _=>[]
 | _=>[]
theorem tkey_of (h:H a = some (.tup (w.map V.int))):tkey H (.ref a) = w:=by
 show (match H a with | some (.tup xs)=>xs.map _ | _=>[]) = w
 rw [h]
 show ((w.map V.int).map _) = w
 rw [List.map_map]
 exact (List.map_congr_left fun x _=>rfl).trans (List.map_id _)
section
theorem vals_refs:∀ {as:List Addr}{its:List Value},Vals (as.map V.ref) its->its = as.map Value.ref
 | [],_,r=>by cases r;rfl
 | a :: as,_,r=>by
  cases r with
  | cons r rr=>rw [vals_refs rr];cases r;rfl
end
namespace Tim
structure Ord (lt:Keyed->Keyed->Bool):Prop where
 irr:∀ a,lt a a = false
 asy:∀ a b,lt a b = true->lt b a = false
 tr:∀ a b c,lt b a = false->lt c b = false->lt c a = false
section
variable {lt:Keyed->Keyed->Bool}{a b o:List Keyed}{p q:Nat}
abbrev Le (lt:Keyed->Keyed->Bool) (x y:Keyed):Prop:=lt y x = false
end
def Sm (u v:SortSt):Prop:=kindOf v = kindOf u/\arrOf v = arrOf u/\pendingOf v = pendingOf u/\failedOf v = failedOf u
section
variable {prog:Program}{w:World}{A:Around}{E:Value->Shared->Prop}{s:Shared}{κ:SortKind}{kz:Array Keyed}{lt:Keyed->Keyed->Bool}{st:SortSt}
structure Bs (κ:SortKind) (kz:Array Keyed) (st:SortSt):Prop where
 kind:kindOf st = κ
 failed:failedOf st = none
 perm:(arrOf st).toList.Perm kz.toList
end
def PO:Nat->List (Nat×Nat×Nat)->List (List Keyed)->Prop
 | _,[],[]=>True
 | s,e :: P,C :: RS=>e.1 = s/\e.2.1 = C.length/\PO (s + C.length) P RS
 | _,_,_=>False
end Tim
theorem perm_lift {α β:Type} (f:α->β) {l m:List β} (h:l.Perm m):∀ {zs:List α},zs.map f = m->∃ zs':List α,zs'.Perm zs/\zs'.map f = l:=by
 induction h with
 | nil=>simp
 | cons x _ ih=>
  intro zs e
  cases zs with
  | nil=>cases e
  | cons z zs=>
   injection e with e1 e2
   obtain⟨zs',h1,h2⟩:=ih e2
   exact⟨z :: zs',h1.cons z,by simp_all⟩
 | swap x y l=>
  intro zs e
  cases zs with
  | nil=>cases e
  | cons a zs=>
   cases zs with
   | nil=>cases e
   | cons b zs=>
    exact⟨b :: a :: zs,List.Perm.swap a b zs,by simp_all⟩
 | trans _ _ i1 i2=>
  intro zs e
  obtain⟨z1,h1,h2⟩:=i2 e
  obtain⟨z2,h3,h4⟩:=i1 h2
  exact⟨z2,h3.trans h1,h4⟩
theorem lexLt_total:∀ a b:List Int,HT.lexLt a b = true\/a = b\/HT.lexLt b a = true
 | [],[]=>.inr (.inl rfl)
 | [],_ :: _=>.inl rfl
 | _ :: _,[]=>.inr (.inr rfl)
 | x :: a,y :: b=>by
  rw [HT.lexLt_cons,HT.lexLt_cons]
  by_cases e:x = y
  · subst e
    rw [if_pos rfl,if_pos rfl]
    rcases lexLt_total a b with h | h | h
    · exact .inl h
    · exact .inr (.inl (by rw [h]))
    · exact .inr (.inr h)
  · rw [if_neg e,if_neg (fun z=>e z.symm)]
    rcases Int.lt_or_lt_of_ne e with h | h
    · exact .inl (decide_eq_true h)
    simp_all
theorem lexLt_tr:∀ {a b c:List Int},HT.lexLt a b = true->HT.lexLt b c = true->HT.lexLt a c = true
 | [],[],_,h,_=>by omega
 | [],_ :: _,[],_,h=>by cases h
 | [],_ :: _,_ :: _,_,_=>rfl
 | _ :: _,[],_,h,_=>by cases h
 | _ :: _,_ :: _,[],_,h=>by cases h
 | x :: a,y :: b,z :: c,h1,h2=>by
  rw [HT.lexLt_cons] at h1 h2 ⊢
  by_cases e1:x = y
  · rw [if_pos e1] at h1
    by_cases e2:y = z
    · rw [if_pos e2] at h2
      rw [if_pos (e1.trans e2)];exact lexLt_tr h1 h2
    grind
  grind
theorem lexLt_irr:∀ a:List Int,HT.lexLt a a = false
 | []=>rfl
 | x :: a=>by rw [HT.lexLt_cons,if_pos rfl];exact lexLt_irr a
theorem lexLt_asy (h:HT.lexLt a b = true):HT.lexLt b a = false:=by
 cases e:HT.lexLt b a with
 | false=>rfl
 | true=>have:=lexLt_tr h e;rw [lexLt_irr] at this;grind
theorem ord_lex (key:Keyed->List Int):Tim.Ord fun x y=>HT.lexLt (key x) (key y):=
 ⟨fun a=>lexLt_irr _,fun a b h=>lexLt_asy h,fun a b c h1 h2=>by
  cases e:HT.lexLt _ _ with
  | false=>rfl
  | true=>
   rcases lexLt_total _ (key b) with h | h | h
   · have:=lexLt_tr e h;simp_all
   · grind
   grind⟩
theorem pairs_map {α:Type} (g:α->Value):∀ l:List α,(pairsOf (l.map g)).toList = l.map fun z=>((g z,g z):Keyed)
 | []=>by rw [pairsOf_toList];rfl
 | z :: l=>by
  have ih:=pairs_map g l
  rw [pairsOf_toList] at ih ⊢
  grind
section
theorem seq_obj {σ:L2.St} (I:Inv X pins σ H s) (hq:SqL X.K H p xs\/SqT X.K H p xs):∃ (its:List Value) (o:Obj) (T:String) (cn:Nat),Vals xs its/\(T = "list"\/T = "tuple")/\s.heap.get? p = some o/\o.cls = .type T/\o.data = .seq its.toArray cn/\xs.length<=sizeLine:=by
 rcases hq with hq | hq
 · obtain⟨its,r',pl,hz⟩:=I.list hq
   obtain⟨o,ho,hc,n,hd⟩:=pl.isList
   exact⟨its,o,"list",n,r',.inl rfl,ho,hc,hd,hz⟩
 · obtain⟨its,r',⟨o,ho,hc,n,hd⟩,hz⟩:=I.tuple hq
   exact⟨its,o,"tuple",n,r',.inr rfl,ho,hc,hd,hz⟩
end
def rCatLS (K:PySem.W.Frag):R2:=fun x y H Q=>∃ a b xs ys,x = .ref a/\y = .ref b/\SqL K H a xs/\SqL K H b ys/\xs.length + ys.length<=sizeLine/\∀ p H2,H p = none->L2.Same H H2->H2 p = some (.lst (xs ++ ys))->Q (.ref p) H2
theorem op_catLS {X:Cx}:OpR X (binaryOp .Add) (rCatLS X.K):=fun pins s σ H x y v u Q I rx ry h=>by
 obtain⟨a,b,xs,ys,rfl,rfl,h1,h2,hz,q⟩:=h
 cases rx
 cases ry
 obtain⟨vs,rv,⟨⟨cls,dd,data,sl⟩,n,ho,hc,hdd,hd⟩,_⟩:=I.list h1
 obtain⟨ws,rw',⟨⟨cls2,dd2,data2,sl2⟩,n2,ho2,hc2,hdd2,hd2⟩,_⟩:=I.list h2
 simp only at hc hd hc2 hd2 hdd hdd2
 subst hc hd hc2 hd2 hdd hdd2
 have e1:=rv.length
 have e2:=rw'.length
 have e:vs.toArray ++ ws.toArray = (vs ++ ws).toArray:=by simp
 refine concat_meets ⟨_,ho,rfl⟩ ⟨_,ho2,rfl⟩ noFill_list_add seq_list_add PySem.F.slot_list_add PySem.F.entry_list_add (PySem.F.args_list_add_2 _ _)
  (list_addW a b vs.toArray ws.toArray n n2 none none sl sl2 (by rw [List.size_toArray,List.size_toArray];omega)) ⟨ho,ho2,?_⟩
 rw [e]
 exact⟨.ref _,_,I.lnew (t':=s.toks) (rv.append rw') (by rw [List.length_append];omega),rfl,q _ _ I.fresh (Br.Same.upd I.fresh) upd_same⟩
theorem k_addB {X:Cx}{K:PySem.W.Frag} (hK:X.K = K):JOp X .Add (fun x y H Q=>rI0 (fun i j=>.int (i + j)) x y H Q\/rCatLS K x y H Q\/rCatTA K x y H Q):=hK▸⟨op_add.or (op_catLS.or op_catTA)⟩
end Br
namespace Br
namespace ZL
open PySem PySem.Spec PySem.Calls PyProof.Rows L2
theorem entry_li:entryFor table "list_iterator.__next__" = some Builtin.«list_iterator.__next__»:=by rfl
theorem args_li (a:Value):argsOk "list_iterator.__next__" { pos:=[a] }:=by first | rfl | decide +kernel | exact⟨rfl⟩ | (constructor <;> rfl)
theorem slot_li:Slot "list_iterator" (Str.ofString "__next__") "list_iterator.__next__":=Slot.of (by rw [typeLookup_type,builtinLookup_eq_fast];rfl) (by rfl) (by rfl) (by rfl) (.inl (by rfl)) (by rw [isSubtype_type];rfl)
section
theorem tstep {c d:Addr}{k:Nat}{zs:Array Value}{v:Value}{Q:Value->Shared->Prop} (hI:s.heap.IsListIter c d k) (hT:s.heap.IsList d zs) (hv:zs[k]? = some v)
 (go:∀ g,g.IsListIter c d (k + 1)->Heap.SameBut c s.heap g->Q v { s with heap:=g }):wpAny (model prog w) A (Builtin.«list_iterator.__next__» ⟨[.ref c],[]⟩) (fun fin s'=>∃ u,fin = .done (.ret u)/\Q u s') E s:=by
 have hI':=hI
 obtain⟨oc,q1,q2,q3⟩:=hI'
 have hT':=hT
 obtain⟨od,p1,_,nd,p3⟩:=hT'
 have at_:zs[((k:Nat):Int).toNat]? = some v:=by simpa using hv
 wp_walk using wpAny_field q1 q3 (x:=.ref d) rfl,wpAny_field q1 q3 (x:=.int k 0) rfl,wpAny_seqItems p1 p3
 rw [at_]
 refine wpAny_bind (tsetAt q1 q3 (by simp) fun g o' a1 a2 a3 sb=>?_)
 wp_walk
 exact⟨_,rfl,go g ⟨o',a1,a2.trans q2,by rw [a3];simp [rawInt]⟩ sb⟩
theorem tstop {c d:Addr}{k:Nat}{zs:Array Value}{Q:PySem.Fin->Shared->Prop} (hh:A.handled = none) (hI:s.heap.IsListIter c d k) (hT:s.heap.IsList d zs) (hv:zs[k]? = none)
 (go:∀ g e,Heap.ExtBut c s.heap g->(∃ o,g.get? e = some o/\o.cls = .type "StopIteration")->E (.ref e) { s with heap:=g }):wpAny (model prog w) A (Builtin.«list_iterator.__next__» ⟨[.ref c],[]⟩) Q E s:=by
 have hI':=hI
 obtain⟨oc,q1,q2,q3⟩:=hI'
 have hT':=hT
 obtain⟨od,p1,_,nd,p3⟩:=hT'
 have at_:zs[((k:Nat):Int).toNat]? = none:=by simpa using hv
 wp_walk using wpAny_field q1 q3 (x:=.ref d) rfl,wpAny_field q1 q3 (x:=.int k 0) rfl,wpAny_seqItems p1 p3
 rw [at_]
 refine wpAny_bind (wpAny_rule (wpAny_bind (tsetAt q1 q3 (by simp) fun g o' a1 a2 a3 sb=>?_)))
 wp_walk
 unfold raiseNew
 wp_walk using wpAny_handled
 rw [hh]
 wp_walk
 exact go _ _ ((sb.extBut.push _).push _) ⟨_,Heap.get?_push_size _ rfl,rfl⟩
theorem tnext {c d:Addr}{k:Nat}{zs:Array Value}{v:Value}{Q:Value->Shared->Prop} (hI:s.heap.IsListIter c d k) (hT:s.heap.IsList d zs) (hv:zs[k]? = some v)
 (go:∀ g,g.IsListIter c d (k + 1)->Heap.SameBut c s.heap g->Q v { s with heap:=g }):wpAny (model prog w) A (Builtin.SmallTypes.nextOf (.ref c)) Q E s:=by
 have sl:=slot_li
 unfold Builtin.SmallTypes.nextOf
 refine wpAny_bind (wpAny_callSpecial?_slot (name:=Str.ofString "__next__") hI.typeIs sl (wpAny_call_entry sl hI.typeIs entry_li ?_ (args_li _)))
 exact wpAny_mono (tstep (Q:=fun u s'=>u = v/\Q v s') hI hT hv fun g a b=>⟨rfl,go g a b⟩) (fun fin s' ⟨u,e,e2,q⟩=>⟨u,e,wpAny_pure (e2▸q)⟩) fun _ _ z=>z
theorem tnone {c d:Addr}{k:Nat}{zs:Array Value}{Q:Value->Shared->Prop} (hh:A.handled = none) (hI:s.heap.IsListIter c d k) (hT:s.heap.IsList d zs) (hv:zs[k]? = none)
 (go:∀ g e,Heap.ExtBut c s.heap g->(∃ o,g.get? e = some o/\o.cls = .type "StopIteration")->E (.ref e) { s with heap:=g }):wpAny (model prog w) A (Builtin.SmallTypes.nextOf (.ref c)) Q E s:=by
 have sl:=slot_li
 unfold Builtin.SmallTypes.nextOf
 refine wpAny_bind (wpAny_callSpecial?_slot (name:=Str.ofString "__next__") hI.typeIs sl (wpAny_call_entry sl hI.typeIs entry_li ?_ (args_li _)))
 exact tstop hh hI hT hv go
structure Zp (h:Heap) (z u o c1 c2 d e:Addr) (xs ys:Array Value) (k:Nat):Prop where
 zip:IsZip h z u o .none
 its:IsPair h u (.ref c1) (.ref c2)
 own:∃ a b,IsPair h o a b
 i1:h.IsListIter c1 d k
 i2:h.IsListIter c2 e k
 t1:h.IsList d xs
 t2:h.IsList e ys
structure Ap (z u o c1 c2 d e:Addr):Prop where
 ne:[z,u,o,c1,c2].Nodup
 nd:∀ b∈[z,u,o,c1,c2],d≠b/\e≠b
end
theorem sqL_apart {X:Cx}{pins:List (Addr×Obj)}{σ:L2.St}{H:Hp}{s:Shared}{d b:Addr}{xs:List V} (I:Inv X pins σ H s) (h:SqL X.K H d xs) (f:FpOk X pins H b):d≠b:=fun z=>by
 subst z
 rcases h with h | ⟨o,its,n,hk,_⟩
 · rcases h with h | ⟨o,h⟩
   · rw [f.1] at h;cases h
   · rw [f.1] at h;cases h
 · have e:=I.ok.mod.kin d o hk
   rcases f.2.2.2.1 with z | z
   · exact I.ok.noex d o e z
   · exact absurd (Nat.lt_of_lt_of_le (Heap.lt_size e) (Nat.le_trans I.ok.bsz z)) (Nat.lt_irrefl _)
end ZL
end Br
namespace Br
open PySem PySem.Spec PySem.Calls PyProof.Rows L2
def rDNotIn:R2:=fun y x H Q=>∃ a o,x = .ref a/\DGet H a y o/\Q (.bl (!o.isSome)) H
section
theorem c_dnotin (hr:Room k X.A):JCop X .NotIn rDNotIn:=⟨fun pins s σ H x y v u Q I rx ry h=>by
 obtain⟨a,o,rfl,g,q⟩:=h
 obtain rfl:u = Value.ref a:=ry
 exact d_notIn (by have:=hr.un;omega) I g rx fun s3 I3=>⟨.bl _,H,I3,rfl,q⟩⟩
end
theorem tl_keys:typeLookup (.type "tuple") (Str.ofString "keys") = pure none:=by rw [typeLookup_type,builtinLookup_eq_fast];rfl
theorem ti_ga {s:Shared}:s.TypeIs (.builtin "tuple.__getattribute__") "wrapper_descriptor":=by rfl
theorem noKeys {prog:Program}{w:World}{A:Around}{E:Value->Shared->Prop}{s:Shared}{t:Addr}{xs:Array Value}{n:Nat}{Q:Option Value->Shared->Prop} (hh:A.handled = none) (ho:s.heap.get? t = some { cls:=.type "tuple",data:=.seq xs n })
 (go:∀ h' tk,(∀ b o,s.heap.get? b = some o->h'.get? b = some o)->Q none { s with heap:=h',toks:=tk }):wpAny (model prog w) A (getAttr? (.ref t) (Str.ofString "keys")) Q E s:=by
 obtain⟨hp,g,dr,tk,os⟩:=s
 have ho:hp.get? t = some { cls:=.type "tuple",data:=.seq xs n }:=ho
 unfold getAttr?
 refine wpAny_bind (wpAny_mkText ?_)
 unfold getAttrBy?
 refine wpAny_bind (wpAny_attempt ?_)
 unfold getAttrBy
 refine wpAny_holding ?_
 refine wpAny_bind (wpAny_typeOf (T:="tuple") ⟨_,ho,rfl⟩ ?_)
 rw [F.slot_tuple_getattribute.lookup]
 refine wpAny_bind (wpAny_pure ?_)
 show wpAny _ _ (if _ then _ else _) _ _ _
 rw [if_neg (by decide)]
 unfold getAttrByItsOwn
 wp_walk
 unfold bindSpecial
 refine wpAny_bind (wpAny_typeOf (T:="wrapper_descriptor") ti_ga ?_)
 show wpAny _ _ (if _ then _ else _) _ _ _
 rw [if_pos (by decide)]
 refine wpAny_pure ?_
 show wpAny _ _ (call (.builtin "tuple.__getattribute__") [.ref t,_]) _ _ _
 refine wpAny_call_entry F.slot_tuple_getattribute ⟨_,ho,rfl⟩ am_entry_tuple_getattribute ?_ (F.args_tuple_getattribute_2 _ _)
 show wpAny _ _ (Builtin.ObjectAttr.attrName _ >>= _) _ _ _
 refine wpAny_bind ?_
 wp_walk
 rw [tl_keys]
 wp_walk
 refine wpAny_raiseAttrError (A:=A.in1) hh fun h' tk' e ne=>?_
 have hT:∃ ob,h'.get? e = some ob/\ob.cls = .type "AttributeError":=let ⟨_,_,a⟩:=ne.there;⟨_,a,rfl⟩
 show wpAny _ _ (getattributeRaised _ _ _ _ _ _ _) _ _ _
 unfold getattributeRaised
 refine wpAny_bind (wpAny_isInstance (T:="AttributeError") (b:=true) hT (by rw [isSubtype_type];rfl) ?_)
 rw [if_pos rfl]
 unfold hookBehind
 rw [if_neg (by decide),F.plainAttrs_tuple.noGetattr]
 refine wpAny_bind (wpAny_pure ?_)
 unfold hookOrError
 unfold attributeErrorLeaves
 show wpAny _ _ (if (!false) = true then throw _ >>= _ else _) _ _ _
 rw [if_pos (show (!false) = true from rfl)]
 refine wpAny_bind (wpAny_throw ?_)
 refine wpAny_bind (wpAny_isInstance (T:="AttributeError") (b:=true) hT (by rw [isSubtype_type];rfl) ?_)
 rw [if_pos rfl]
 exact wpAny_pure (go h' tk' ne.keeps)
theorem entry_dul:entryFor table "dict.update.loop" = some Builtin.«dict.update.loop»:=by rfl
theorem plain_dul:plainId "dict.update.loop" = true:=by decide +kernel
def bareT (o:Obj):Prop:=∃ its n,o = { cls:=.type "tuple",data:=.seq its n }
def tTupF (t:TA):TE:=fun σ H Q=>t σ H fun xs H1=>xs.length<=sizeLine/\∀ p o H2,H1 p = none->bareT o->L2.Same H1 H2->H2 p = some (.frz o (.tup xs))->Q (.ref p) H2
section
variable {σ:L2.St}
theorem raw_pairs (I:Inv X pins σ H s):∀ (as:List Addr) (kvs:List (Key×V)),as.length = kvs.length->(∀ (i:Nat) a kv,as[i]? = some a->kvs[i]? = some kv->Rd H a (.tup [kV kv.1,kv.2]))->
 ∃ ps:List (Addr×Value×Key×Value),ps.map (fun p=>Value.ref p.1) = as.map Value.ref/\(∀ p∈ps,s.heap.IsTuple p.1 #[p.2.1,p.2.2.2])/\(∀ p∈ps,(mixKind X.prog X.w).is p.2.2.1 p.2.1 = true)/\KV kvs (ps.map fun p=>(p.2.2.1,p.2.2.2))
 | [],[],_,_=>⟨[],rfl,fun p hp=>(nomatch hp),fun p hp=>(nomatch hp),.nil⟩
 | a :: as,kv :: kvs,hl,h=>by
  obtain⟨ps,e1,e2,e3,e4⟩:=raw_pairs I as kvs (by simpa using hl) fun i a kv q1 q2=>h (i + 1) a kv (by simpa using q1) (by simpa using q2)
  have ha:=h 0 a kv rfl rfl
  obtain⟨its,rv,p,_⟩:=I.tuple (show SqT X.K H a _ from .inl ha)
  cases rv with
  | @cons _ ku _ _ rk rr=>
   cases rr with
   | @cons _ vu _ _ rv rr=>
    cases rr
    refine⟨(a,ku,kv.1,vu) :: ps,by grind,fun q hq=>?_,fun q hq=>?_,?_⟩
    · rcases List.mem_cons.mp hq with rfl | hq
      · exact p
      · exact e2 q hq
    · rcases List.mem_cons.mp hq with rfl | hq
      · exact kV_is rk
      · exact e3 q hq
    · exact .cons ⟨rfl,rv⟩ e4
theorem fold_merge:∀ (ps:List (Addr×Value×Key×Value)) (vs:List (Key×Value)),ps.foldl (fun a p=>stored a p.2.2.1 p.2.2.2) vs = merged vs (ps.map fun p=>(p.2.2.1,p.2.2.2))
 | [],vs=>rfl
 | p :: ps,vs=>by rw [List.foldl_cons,fold_merge ps];rfl
theorem boot_dict':bootBuiltins "dict" = some (.type "dict"):=by rfl
end
section
theorem j_tupF {k:Nat} (h:JA X es t):JE X (.Tuple es k pos) (tTupF t):=⟨fun pins s σ H Q I q=>wpAny_Tuple_spliced (thn (h.h pos pins s σ H _ I q) fun us s1 ⟨xs,H1,I1,r,z,q⟩=>⟨by rw [<- r.length];exact z,by
 have hf:H1 s1.heap.objs.size = none:=I1.hok.fresh (Nat.le_refl _)
 refine⟨.ref s1.heap.objs.size,upd H1 s1.heap.objs.size (.frz { cls:=.type "tuple",data:=.seq us.toArray 0 } (.tup xs)),I1.laid (t':=s1.toks) (fun b u e=>Heap.get?_push_of_some _ e) (Nat.le_refl _) ?_,rfl,q _ _ _ hf ⟨_,_,rfl⟩ (Br.Same.upd hf) upd_same⟩
 exact⟨Heap.get?_push_size _ rfl,z,us,r,⟨_,Heap.get?_push_size _ rfl,rfl,rfl,_,rfl⟩⟩⟩)⟩
end
theorem kvGet (r:KV kvs vs):∀ {i:Nat}{kv:Key×V},kvs[i]? = some kv->∃ v,vs[i]? = some (kv.1,v)/\RelV kv.2 v:=by
 induction r with
 | nil=>intro i kv h;simp_all
 | @cons p q ps qs h t ih=>
  intro i kv e
  cases i with
  | zero=>
   simp at e;subst e
   obtain⟨q1,q2⟩:=q
   simp_all
  | succ i=>
   simp_all
theorem is_rel (h:(mixKind P w).is k u = true):RelV (kV k) u:=by
 rcases keyIs_shape h with ⟨i,t,rfl,rfl⟩ | ⟨x,t,rfl,rfl⟩
 · exact⟨t,rfl⟩
 · exact⟨t,rfl⟩
theorem frz_at (he:o.data = .dict es ep) (ok:HOk P w H h) (e:H a = some (.frz o (.dK kvs))):∃ vs,KV kvs vs/\h.DictAt (mixKind P w) a vs ep:=by
 obtain⟨g,_,_,vs,r,o',es',ep',q,ex,dt,rest⟩:=(ok a _ e)
 rw [g] at q;cases q
 have e2:=dt
 rw [he] at e2
 injection e2 with _ e2
 subst e2
 exact⟨vs,r,o,es',g,ex,dt,rest⟩
end Br
namespace Br
namespace ZM
open PySem PySem.Spec PySem.Calls PyProof.Rows L2
section
structure Zp (h:Heap) (z u o c1 c2 d e:Addr) (xs ys:Array Value) (k:Nat):Prop where
 zip:IsZip h z u o .none
 its:IsPair h u (.ref c1) (.ref c2)
 own:∃ a b,IsPair h o a b
 i1:h.IsListIter c1 d k
 i2:h.IsTupleIter c2 e k
 t1:h.IsList d xs
 t2:h.IsTuple e ys
structure Ap (z u o c1 c2 d e:Addr):Prop where
 ne:[z,u,o,c1,c2].Nodup
 nd:∀ b∈[z,u,o,c1,c2],d≠b/\e≠b
end
end ZM
end Br
namespace Br
open PySem PySem.Spec PySem.Calls PyProof.Rows L2
def rCatTB:R2:=fun x y H Q=>∃ a b xs ys,x = .ref a/\y = .ref b/\H a = some (.tup xs)/\H b = some (.tup ys)/\xs.length + ys.length<=sizeLine/\∀ p H2,L2.Same H H2->H2 p = some (.tup (xs ++ ys))->Q (.ref p) H2
section
theorem op_catTB:OpR X (binaryOp .Add) rCatTB:=fun pins s σ H x y v u Q I rx ry h=>by
 obtain⟨a,b,xs,ys,e1,e2,t1,t2,hz,q⟩:=h
 have h1:SqT X.K H a xs:=SqT.of t1
 have h2:SqT X.K H b ys:=SqT.of t2
 by_cases hx:xs = []
 · subst e1;subst e2;subst hx
   cases rx;cases ry
   obtain⟨its,r1,p1,_⟩:=I.tuple h1
   obtain⟨its2,r2,p2,_⟩:=I.tuple h2
   have hv:=r1.nil_iff.mpr rfl
   obtain⟨⟨cls,dd,data,sl⟩,ho,hc,n,hd⟩:=id p1
   obtain⟨⟨cls2,dd2,data2,sl2⟩,ho2,hc2,n2,hd2⟩:=id p2
   subst hc hd hc2 hd2
   exact concat_meets ⟨_,ho,rfl⟩ ⟨_,ho2,rfl⟩ noFill_tuple_add seq_tuple_add PySem.F.slot_tuple_add PySem.F.entry_tuple_add (PySem.F.args_tuple_add_2 _ _)
    (tuple_addW0 a b its.toArray its2.toArray n n2 dd dd2 sl sl2 (by simp [hv])) ⟨ho,ho2,⟨.ref b,H,I,rfl,q b H (L2.Same.refl _) t2⟩⟩
 · refine op_catT pins s σ H x y v u Q I rx ry ⟨a,b,xs,ys,e1,e2,h1,h2,hx,hz,fun e=>?_,fun _ p hp=>q p _ (Br.Same.upd hp) upd_same⟩
   exact q a H (L2.Same.refl _) (by simp_all)
theorem o_addB:JOp X .Add (fun x y H Q=>rI0 (fun i j=>.int (i + j)) x y H Q\/rCatTB x y H Q):=⟨op_add.or op_catTB⟩
end
def Itk (o:Obj) (a:Addr) (kvs:List (Key×V)):It:=
 ⟨fun i H=>H a = some (.frz o (.dK kvs))/\i < kvs.length,
  fun i H v H'=>H' = H/\∃ kv:Key×V,kvs[i]? = some kv/\v = kV kv.1,
  fun i H=>H a = some (.frz o (.dK kvs))/\kvs.length<=i⟩
theorem turn_keys {P:Program}{w:World}{K:PySem.W.Frag}{tg:Expr}{it a:Addr}{o:Obj}{kvs:List (Key×V)}{ds:Array DictEntry}{ep:Nat} (he:o.data = .dict ds ep):
 Turn P w K tg (Itk o a kvs) [it] it (fun i h=>h.IsKeyIter it a i kvs.length ep) where
 mem:=by simp
 obj:=fun i h st b hb=>by
  have e:b = it:=by simpa using hb
  subst e
  obtain⟨o,e,c,d⟩:=st
  exact⟨o,e,fun v z=>by rw [d] at z;cases z⟩
 keep:=fun i h h' st k=>st.at fun o e=>k it (by simp) o e
 item:=by
  intro X hP hw hK hc i pins s σ H E I hf st hg
  subst hP hw hK
  obtain⟨hg,hi⟩:=hg
  obtain⟨vs,rel,da⟩:=frz_at he I.hok hg
  obtain⟨kv,hkv⟩:∃ kv,kvs[i]? = some kv:=⟨_,List.getElem?_eq_getElem hi⟩
  obtain⟨v',hv',rx⟩:=kvGet rel hkv
  obtain⟨f0,f1,f2,f3,f4,f5⟩:=hf it (by simp)
  rw [rel.length] at st
  refine wpAny_pyNext_dict_item (knd:=mixKind X.prog X.w) st da hv' fun key h' hkey st' sb=>?_
  have I1:Inv X pins σ H { s with heap:=h' }:=I.turned (t':=s.toks) (fun b o hb e=>(sb.2 b hb).trans e) f0 f1 f3 f4 f5
  obtain⟨o',e,c,d⟩:=id st'
  exact⟨key,rfl,go_of (s:={ s with heap:=h' }) e c d (by decide) ⟨kV kv.1,H,I1,is_rel hkey,⟨rfl,kv,hkv,rfl⟩,by rw [rel.length];exact st',fun b hb=>(hf b hb).1⟩⟩
 done:=by
  intro X hP hw hK hc i pins s σ H E I hf st hg
  subst hP hw hK
  obtain⟨hg,hi⟩:=hg
  obtain⟨vs,rel,da⟩:=frz_at he I.hok hg
  obtain⟨f0,f1,f2,f3,f4,f5⟩:=hf it (by simp)
  have hl:=rel.length
  rw [rel.length] at st
  exact wpAny_pyNext_dict_end (I.ok.hd hc) st da (List.getElem?_eq_none (by omega)) fun h' eb=>⟨rfl,I.turned (t':=s.toks) (fun b o hb e=>eb b o hb e) f0 f1 f3 f4 f5⟩
 self:=fun _ _ _ _ _ st h=>wpAny_pyIter_keyiter st h
def iKeys (td:TE):TI:=fun σ H R=>td σ H fun x H1=>∃ a kvs,x = .ref a/\H1 a = some (.dK kvs)/\∀ o H2,H2 = upd H1 a (.frz o (.dK kvs))->R (Itk o a kvs) H2
theorem pi_keys (ho:PE X o td):PI X tg o (iKeys td):=by
 intro pins s σ H R I h
 refine thn (ho pins s σ H _ I h) fun u s1 ⟨x,H1,I1,rx,a,kvs,ex,e,q1⟩=>?_
 subst ex
 obtain rfl:u = Value.ref a:=rx
 obtain⟨z,hd,vs,rel,dd⟩:=dk_of I1.hok e
 obtain⟨ob,ds,ep,g,ex,dt,rest⟩:=dd
 have gp:∀ (h:Heap) b o',h.get? b = some o'->∀ n,(h.push n).get? b = some o':=fun h b o' q n=>Heap.get?_push_of_some _ q
 have al:=Heap.lt_size g
 refine wpAny_pyIter_dict hd ⟨ob,ds,g,ex,dt,rest⟩ ?_
 have I2:=I1.kept (t':=s1.toks) (h':=(s1.heap.push { cls:=.type "dict_keyiterator",data:=.fields #[.ref a,.int 0 0,.int vs.length 0,.int ep 0] })) fun b o' q=>gp _ _ _ q _
 have I3:=I2.write (x:=a) (e:=a) (o:=.frz ob (.dK kvs)) (t':=s1.toks) (by rw [e];exact True.intro) (.inl rfl) (fun b u _ q=>q) ⟨ob,gp _ _ _ g _⟩ ⟨gp _ _ _ g _,z,hd,vs,rel,ob,ds,ep,gp _ _ _ g _,ex,dt,rest⟩
 refine⟨s1.heap.objs.size,[_],_,_,_,rfl,I3,turn_keys dt,⟨_,Heap.get?_push_size _ rfl,rfl,by rw [rel.length];rfl⟩,fun c hc=>?_,q1 ob _ rfl⟩
 have hc:=List.mem_singleton.mp hc
 subst hc
 have f:=I1.fpOk (Nat.le_refl _) (I1.hok.fresh (Nat.le_refl _))
 refine⟨?_,f.2⟩
 rw [upd_ne (Nat.ne_of_gt al)];exact f.1
theorem thaw {X:Cx}{pins:List (Addr×Obj)}{σ σ':L2.St}{H H':Hp}{s s':Shared}{a:Addr}{ob:Obj}{kvs kvs0:List (Key×V)} (I0:Inv X pins σ H s) (e0:H a = some (.dK kvs0)) (I1:Inv X pins σ' H' s') (e1:H' a = some (.frz ob (.dK kvs))):Inv X pins σ' (upd H' a (.dK kvs)) s':=by
 have none_ne:∀ {b:Addr},H' b = none->upd H' a (.dK kvs) b = none:=fun h=>by rw [upd_ne (fun z=>by rw [z,e1] at h;cases h)];exact h
 have ne:∀ {b:Addr}{o:HO},H' b = some o->(∀ ob u,o≠.frz ob u)->upd H' a (.dK kvs) b = some o:=fun h n=>by
  rw [upd_ne (fun z=>by grind)];exact h
 refine⟨I1.ok,I1.os,I1.bare,⟨I1.base.keep,I1.base.slot,fun b o q n hx=>none_ne (I1.base.free b o q n hx),I1.base.there,fun b xs q=>ne (I1.base.tups b xs q) (fun _ _ z=>by cases z),fun b o u q=>?_,fun b ps q=>?_⟩,I1.loc,I1.cell,none_ne I1.free,fun x c h=>none_ne (I1.freeC x c h),fun p hp=>?_,fun b o q=>?_,I1.len⟩
 · have h0:=I0.base.frzs b o u q
   have h1:=I1.base.frzs b o u q
   rw [upd_ne (fun z=>by rw [z,e0] at h0;cases h0)];exact h1
 · obtain⟨more,h⟩:=I1.base.tbls b ps q
   exact⟨more,ne h (fun _ _ z=>by cases z)⟩
 · obtain⟨h1,h2,h3⟩:=I1.pin p hp
   exact⟨h1,none_ne h2,h3⟩
 · by_cases hb:b = a
   · subst hb
     rw [upd_same] at q;cases q
     obtain⟨_,k⟩:=(I1.hok b _ e1)
     exact k
   · rw [upd_ne hb] at q
     exact (I1.hok b o q).stay (fun c u hc r=>r) (fun c r=>ne r (fun _ _ z=>by cases z)) fun c xs r=>ne r (fun _ _ z=>by cases z)
theorem pe_thaw {X:Cx}{e:Expr}{t:TE} (h:PE X e t):PE X e (fun σ H Q=>t σ H fun v H1=>Q v H1\/∃ a ob kvs kvs0,H a = some (.dK kvs0)/\H1 a = some (.frz ob (.dK kvs))/\Q v (upd H1 a (.dK kvs))):=by
 intro pins s σ H Q I k
 refine wpAny_mono (h pins s σ H _ I k) (fun v s1 r=>?_) fun _ _ e=>e
 obtain⟨x,H1,I1,r,q⟩:=r
 rcases q with q | ⟨a,ob,kvs,kvs0,e0,e1,q⟩
 · exact⟨x,H1,I1,r,q⟩
 · exact⟨x,_,thaw I e0 I1 e1,r,q⟩
theorem j_thaw (h:JE X e t):JE X e (fun σ H Q=>t σ H fun v H1=>Q v H1\/∃ a ob kvs kvs0,H a = some (.dK kvs0)/\H1 a = some (.frz ob (.dK kvs))/\Q v (upd H1 a (.dK kvs))):=⟨pe_thaw h.h⟩
theorem k_keys (ho:JE X o td):JI X tg o (iKeys td):=⟨pi_keys ho.h⟩
section
theorem cmp_keys (hn:kvs.length<=1000) (Pv:Nat->List V->L2.St->Hp->Prop) (h0:Pv 0 [] σ0 H0) (hl:∀ i ys σ H,i<=kvs.length->Pv i ys σ H->H a = some (.frz ob (.dK kvs))/\ys.length<=i)
 (hs:∀ i kv ys σ H (N:List V->L2.St->Hp->Prop),kvs[i]? = some kv->Pv i ys σ H->(∀ ys' σ' H',Pv (i + 1) ys' σ' H'->N ys' σ' H')->
  g (kV kv.1) σ H fun σ3 H3=>tt σ3 H3 fun b H4=>if b = true then te σ3 H4 fun y H5=>N (ys ++ [y]) σ3 H5 else N ys σ3 H4)
 (hd:∀ ys σ H,Pv kvs.length ys σ H->Z ys H):Cmp (Itk ob a kvs) g tt te σ0 H0 Z:=by
 have hsz:=sizeLine_eq
 refine⟨fun i m ys σ H=>m = kvs.length - i/\i<=kvs.length/\Pv i ys σ H,⟨kvs.length,by simp,Nat.zero_le _,h0⟩,?_⟩
 rintro i m ys σ H ⟨rfl,hi,p⟩
 obtain⟨q1,hy⟩:=hl i ys σ H hi p
 refine⟨by omega,?_⟩
 by_cases hlt:i < kvs.length
 · refine .inr ⟨⟨q1,hlt⟩,fun v H' yl=>?_⟩
   obtain⟨rfl,kv,e,rfl⟩:=yl
   exact hs i kv ys σ _ (fun ys' σ' H'=>∃ m',m' < kvs.length - i/\m' = kvs.length - (i + 1)/\i + 1<=kvs.length/\Pv (i + 1) ys' σ' H') e p fun ys' σ' H' p'=>⟨kvs.length - (i + 1),by omega,rfl,hlt,p'⟩
 · have e:i = kvs.length:=by omega
   subst e
   exact .inl ⟨⟨q1,Nat.le_refl _⟩,hd ys σ H p⟩
end
section
theorem g_tup2C (hi:At X.N i x) (hj:At X.N j y) (hc:X.calm = true) (hN:X.N.Nodup) (hx:Loc X.env.scope x) (hy:Loc X.env.scope y) (hfx:X.fn x = true) (hfy:X.fn y = true)
 (h1:(assignEach [.Name x px,.Name y py] X.env).map (·.2) = assign (.Name x px) X.env :: (assignEach [.Name y py] X.env).map (·.2))
 (h2:(assignEach [.Name y py] X.env).map (·.2) = assign (.Name y py) X.env :: (assignEach [] X.env).map (·.2))
 (hn:(assignEach [.Name x px,.Name y py] X.env).length = 2) (hst:(assignEach [.Name x px,.Name y py] X.env).findIdx? (·.1) = none):JG X (.Tuple [.Name x px,.Name y py] kt pt) (gTup X.K 2 (gCons (gName i) (gCons (gName j) gNil))):=
 ⟨pg_tup hc (pgs_cons (pg_name hN hi.get hx (.inl hfx)) (pgs_cons (pg_name hN hj.get hy (.inl hfy)) pgs_nil h2) h1) hn hst⟩
end
end Br
namespace Br
namespace ZT
open PySem PySem.Spec PySem.Calls PyProof.Rows L2
section
structure Zp (h:Heap) (z u o c1 c2 d e:Addr) (xs ys:Array Value) (k:Nat):Prop where
 zip:IsZip h z u o .none
 its:IsPair h u (.ref c1) (.ref c2)
 own:∃ a b,IsPair h o a b
 i1:h.IsTupleIter c1 d k
 i2:h.IsListIter c2 e k
 t1:h.IsTuple d xs
 t2:h.IsList e ys
structure Ap (z u o c1 c2 d e:Addr):Prop where
 ne:[z,u,o,c1,c2].Nodup
 nd:∀ b∈[z,u,o,c1,c2],d≠b/\e≠b
end
end ZT
namespace EL
open PySem PySem.Spec PySem.Calls PyProof.Rows L2
end EL
end Br
namespace Br
open PySem PySem.Spec PySem.Calls PyProof.Rows L2
section
variable {K:PySem.W.Frag}{x nm:Str}
theorem j_dgetA (x:Str) (hr:Room k X.A) (hs:NoSl b) (ho:JE X (.Name x p) td) (hi:JE X b ty):JE X (.Subscript (.Name x p) b pos) (tDGet td ty):=⟨pe_dget (by have:=hr.un;omega) ho.h hi.h hs⟩
theorem s_dputA (x:Str) (hr:Room k X.A) (hs:swapsWith value (some (.Subscript (.Name x p) b pos')) pos.line X.env = pure false) (ho:JE X (.Name x p) td) (hi:JE X b ty) (hv:JE X value tv):JS X (.Assign [.Subscript (.Name x p) b pos'] value pos) (sDPut td ty tv):=
 ⟨ps_dput (by have:=hr.un;omega) ho.h hi.h hv.h hs⟩
end
section
variable {K:PySem.W.Frag}
theorem k_comp12 (hK:X.K = K) (hc:X.calm = true) (S:compB X.env.scope.names X.N scope = true) (hs:∀ x,foldedSetIterable iter X.env x = pure x) (hxy:[x,y,z].Nodup) (hx:scope.names.lookup x = some .local) (hy:scope.names.lookup y = some .local) (hz:scope.names.lookup z = some .local)
 (hi:JI X (.Tuple [.Name x px,.Tuple [.Name y py,.Name z pz] kt2 pt2] kt pt) iter wi) (ht:∀ C s H fp,JIfs (cxC X [x,y,z] scope C s H fp) ifs tt) (he:∀ C s H fp,JE (cxC X [x,y,z] scope C s H fp) elt te):
 JE X (.ListComp elt [⟨.Tuple [.Name x px,.Tuple [.Name y py,.Name z pz] kt2 pt2] kt pt,iter,ifs,0⟩] scope pos) (tComp 3 wi (gTup K 2 (gCons (gName 0) (gCons (gTup K 2 (gCons (gName 1) (gCons (gName 2) gNil))) gNil))) tt te):=by
 subst hK
 refine⟨pe_comp (Nc:=[x,y,z]) hc (.of S) hs hi.h (fun C s H fp=>?_) (fun C s H fp=>(ht C s H fp).h) fun C s H fp=>(he C s H fp).h⟩
 have nd:(cxC X [x,y,z] scope C s H fp).N.Nodup:=by
  show ([x,y,z] ++ X.N.map (hid scope)).Nodup
  refine List.nodup_append.mpr ⟨hxy,(CompS.of S).nd,fun a ha b hb e=>?_⟩
  subst e
  simp only [List.mem_cons,List.mem_nil_iff,or_false] at ha
  rcases ha with rfl | rfl | rfl
  · exact not_mem_of (CompS.of S) hx hb
  · exact not_mem_of (CompS.of S) hy hb
  · exact not_mem_of (CompS.of S) hz hb
 exact pg_tup (X:=cxC X [x,y,z] scope C s H fp) hc (pgs_cons (pg_name nd rfl (.inl (loc_C hx)) (.inr (loc_C hx))) (pgs_cons (pg_tup (X:=cxC X [x,y,z] scope C s H fp) hc (pgs_cons (pg_name nd rfl (.inl (loc_C hy)) (.inr (loc_C hy))) (pgs_cons (pg_name nd rfl (.inl (loc_C hz)) (.inr (loc_C hz))) pgs_nil))) pgs_nil))
end
def rLtT (K:PySem.W.Frag):R2:=fun x y H Q=>∃ a b ns ms,x = .ref a/\y = .ref b/\SqT K H a (ns.map V.int)/\SqT K H b (ms.map V.int)/\Q (.bl (HT.lexLt ns ms)) H
section
variable {K:PySem.W.Frag}
theorem op_ltT (hr:Room k X.A):OpR X (compareOp .Lt) (rLtT X.K):=fun pins s σ H x y v u Q I rx ry h=>by
 obtain⟨a,b,ns,ms,rfl,rfl,h1,h2,q⟩:=h
 cases rx;cases ry
 obtain⟨its,r1,p1,_⟩:=I.tuple h1
 obtain⟨its2,r2,p2,_⟩:=I.tuple h2
 have hu:X.A.units < cLine:=by have:=hr.un;omega
 exact HT.lt_tupInts p1 p2 (intsAre_of r1) (intsAre_of r2) hu ⟨.bl _,H,I,rfl,q⟩
theorem c_ltT (hK:X.K = K) (hr:Room k X.A):JCop X .Lt (fun x y H Q=>rI0 (fun i j=>.bl (decide (i < j))) x y H Q\/rLtT K x y H Q):=hK▸⟨op_lt.or (op_ltT hr)⟩
end
section
def vv2 (ks:List (Int×Int)):List (Key×V):=ks.map fun q=>(.inl q.1,.int q.2)
end
def dlook:List (Int×Int)->Int->Option Int
 | [],_=>none
 | q :: ks,n=>if q.1 = n then some q.2 else dlook ks n
theorem dlook_cons (q:Int×Int) (ks:List (Int×Int)) (n:Int):dlook (q :: ks) n = if q.1 = n then some q.2 else dlook ks n:=rfl
theorem val_vv2:∀ (ks:List (Int×Int)) (n:Int),valV (vv2 ks) (.inl n) = (dlook ks n).map V.int
 | [],_=>rfl
 | q :: ks,n=>by
  by_cases e:q.1 = n
  · rw [show vv2 _ = ((Sum.inl q.1:Key),V.int q.2) :: vv2 ks from rfl,valV_pos (by grind)]
    rw [dlook_cons,if_pos e];rfl
  · rw [show vv2 _ = ((Sum.inl q.1:Key),V.int q.2) :: vv2 ks from rfl,valV_neg (fun z=>e (by simp_all)),val_vv2 ks n]
    rw [dlook_cons,if_neg e]
theorem dlook_none:∀ {ks:List (Int×Int)}{n:Int},n∉ks.map (·.1)->dlook ks n = none
 | [],_,_=>rfl
 | q :: ks,n,h=>by
  rw [dlook_cons,if_neg (fun e=>h (by rw [<- e];exact .head _)),dlook_none fun z=>h (.tail _ z)]
theorem dlook_some:∀ {ks:List (Int×Int)}{n c:Int},dlook ks n = some c->(n,c)∈ks
 | q :: ks,n,c,h=>by
  rw [dlook_cons] at h
  by_cases e:q.1 = n
  · grind
  · rw [if_neg e] at h;exact .tail _ (dlook_some h)
theorem dlook_key (h:n∈ks.map (·.1)):∃ c,dlook ks n = some c:=by
 induction ks with
 | nil=>simp_all
 | cons q ks ih=>
  rw [dlook_cons]
  by_cases e:q.1 = n
  · simp_all
  · rw [if_neg e]
    rcases List.mem_cons.mp h with z | z
    · simp_all
    · exact ih z
theorem dlook_mem (nd:(ks.map (·.1)).Nodup) (q:Int×Int):q∈ks↔dlook ks q.1 = some q.2:=by
 refine⟨fun h=>?_,fun h=>dlook_some h⟩
 induction ks with
 | nil=>cases h
 | cons r ks ih=>
  rw [List.map_cons,List.nodup_cons] at nd
  rw [dlook_cons]
  rcases List.mem_cons.mp h with z | z
  · simp_all
  · rw [if_neg (fun e=>nd.1 (by rw [e];exact List.mem_map.mpr ⟨q,z,rfl⟩))]
    simp_all
def dput (ks:List (Int×Int)) (n m:Int):List (Int×Int):=if n∈ks.map (·.1) then ks.map (fun q=>if q.1 = n then (q.1,m) else q) else ks ++ [(n,m)]
theorem vv2_keys (ks:List (Int×Int)) (n:Int):((vv2 ks).any fun p=>decide (p.1 = (Sum.inl n:Key))) = decide (n∈ks.map (·.1)):=by
 induction ks with
 | nil=>rfl
 | cons q ks ih=>
  show (decide ((Sum.inl q.1:Key) = Sum.inl n) || (vv2 ks).any fun p=>decide _) = _
  rw [ih]
  by_cases e:q.1 = n
  · rw [decide_eq_true (by rw [e]),decide_eq_true (show n∈(q :: ks).map _ by rw [<- e];exact .head _)];rfl
  · rw [decide_eq_false (fun z=>e (by injection z))]
    show decide _ = decide _
    by_cases h:n∈ks.map (·.1)
    · rw [decide_eq_true h,decide_eq_true (.tail _ h)]
    · rw [decide_eq_false h,decide_eq_false (fun z=>by
       rcases List.mem_cons.mp z with z | z
       · grind
       · exact h z)]
theorem put_vv2 (ks:List (Int×Int)) (n m:Int):putK (vv2 ks) (.inl n) (.int m) = vv2 (dput ks n m):=by
 unfold putK dput
 rw [vv2_keys]
 by_cases h:n∈ks.map (·.1)
 · rw [if_pos (decide_eq_true h),if_pos h]
   unfold vv2
   rw [List.map_map,List.map_map]
   refine List.map_congr_left fun q _=>?_
   by_cases e:q.1 = n
   · simp [e]
   simp_all
 · rw [if_neg (fun z=>h (of_decide_eq_true z)),if_neg h]
   unfold vv2
   simp
def Ris (qs:List (Int×Int)):Prop:=qs.Pairwise fun a b=>a.1 < b.1
theorem Ris.nodup (h:Ris qs):(qs.map (·.1)).Nodup:=by
 unfold List.Nodup
 rw [List.pairwise_map]
 exact h.imp fun z e=>by omega
def rTupF (K:PySem.W.Frag):List V->Hp->VK->Prop:=fun xs H Q=>∃ p ys,xs = [.ref p]/\SqL K H p ys/\∀ l o H2,H l = none->bareT o->L2.Same H H2->H2 l = some (.frz o (.tup ys))->Q (.ref l) H2
section
variable {K:PySem.W.Frag}
theorem call_tupF:CallR X (.type "tuple") (rTupF X.K):=by
 intro pins s σ H xs us Q I r h
 obtain⟨p,ys,rfl,hq,q⟩:=h
 obtain⟨u,rfl,rx⟩:=vals1 r
 cases rx
 obtain⟨its,r',pl,hz⟩:=I.list hq
 have hlen:=r'.length
 refine call_tuple_list pl.isList (fun h' kp=>?_) (by simp only [List.size_toArray] <;> omega)
 have I1:Inv X pins σ H { s with heap:=h' }:=I.kept (t':=s.toks) kp
 have hf:=I1.hok.fresh (Nat.le_refl h'.objs.size)
 have I2:Inv X pins σ (upd H h'.objs.size (.frz { cls:=.type "tuple",data:=.seq its.toArray } (.tup ys))) { s with heap:=h'.push { cls:=.type "tuple",data:=.seq its.toArray } }:=
  I1.laid (t':=s.toks) (fun b o e=>Heap.get?_push_of_some _ e) (Nat.le_refl _) ⟨Heap.get?_push_size _ rfl,hz,its,r',IsTupB.new _ _⟩
 exact⟨.ref h'.objs.size,_,I2,rfl,q _ _ _ hf ⟨_,_,rfl⟩ (Br.Same.upd hf) upd_same⟩
theorem k_tupleF (hg:Gl X x) (he:starEach (e :: es) X.env = (false,eval e X.env) :: starEach es X.env) (hpl:(backTo pos (starEach es X.env)).any (·.1) = false) (hK:X.K = K) (hx:x = "tuple") (hm:X.mg x = none) (ha:JA X (e :: es) t):
 JE X (.Call (.Name x p) (e :: es) [] pos) (tCB (rTupF K) t):=hK▸⟨by subst hx;exact pe_callTy call_tupF hg hm boot_tuple' ha.h (by decide) (by decide) he hpl⟩
end
mutual
inductive RepF (H:Hp):V->PyData->Prop
 | non:RepF H .non .none
 | bl (b:Bool):RepF H (.bl b) (.bool b)
 | int (i:Int):RepF H (.int i) (.int i)
 | str (x:Str):RepF H (.str x) (.str x)
 | tup {a:Addr}{xs:List V}{ds:List PyData} (h:Rd H a (.tup xs)) (r:RepsF H xs ds):RepF H (.ref a) (.tuple ds)
 | lst {a:Addr}{xs:List V}{ds:List PyData} (h:H a = some (.lst xs)) (r:RepsF H xs ds):RepF H (.ref a) (.list ds)
inductive RepsF (H:Hp):List V->List PyData->Prop
 | nil:RepsF H [] []
 | cons {x:V}{xs:List V}{d:PyData}{ds:List PyData} (h:RepF H x d) (r:RepsF H xs ds):RepsF H (x :: xs) (d :: ds)
end
structure Sm (dp wt:Nat) (d:PyData):Prop where
 sh:d.showable = true
 lay:d.canLay0 = true
 lv:d.leavesShort 60 = true
 dep:d.depth<=dp
 wgt:d.weight<=wt
theorem boot_reversed:bootBuiltins "reversed" = some (.type "reversed"):=by decide +kernel
end Br
namespace Br
open PySem PySem.Spec PySem.Calls PyProof.Rows L2 HT
end Br
namespace Br
namespace DZ
open PySem PySem.Spec PySem.Calls PyProof.Rows L2 Br.ZM
end DZ
namespace DZ
open PySem PySem.Spec PySem.Calls PyProof.Rows L2
end DZ
end Br
namespace Br
open PySem PySem.Spec PySem.Calls PyProof.Rows L2
end Br
namespace Br
namespace ZL
open PySem PySem.Spec PySem.Calls PyProof.Rows L2
end ZL
end Br
namespace Br
open PySem PySem.Spec PyProof.Rows L2
end Br
namespace Br
open PySem PySem.Spec PySem.Calls PyProof.Rows L2
theorem mulT0 (k:Int) (t:Tok) (a:Addr) (vs:List Value) (c:Nat) (dd:Option Addr) (sl:Array (Option Value)) (h1:k = 0) (h0:vs≠[]):
 Meets (Builtin.«tuple.__mul__» ⟨[.ref a,.int k t],[]⟩) (fun _ R s=>s.heap.get? a = some { cls:=.type "tuple",dict:=dd,data:=.seq vs.toArray c,slots:=sl }/\R (.ok (.ret (.ref s.heap.objs.size))) { s with heap:=s.heap.push { cls:=.type "tuple",data:=.seq #[] } }):=
 .of_wp fun pr ww Ar Rr st hy=>by
  obtain⟨g1,g2,g3,g4,g5⟩:=st
  obtain⟨q1,q2⟩:=hy
  subst h1
  have f1:=AutoSeq1.idx_int
  have e0:vs.toArray.isEmpty = false:=by cases vs with
   | nil=>exact absurd rfl h0
   | cons _ _=>rfl
  have c1:¬ ((0:Int) < -(2 ^ 63) || (0:Int) >= 2 ^ 63) = true:=by simp
  have c2:¬ (vs.toArray.isEmpty || (0:Int) == 1) = true:=by rw [e0];simp
  have c3:(decide ((0:Int)<=0) || vs.toArray.isEmpty) = true:=by rw [e0];simp
  wp_walk using wpAny_loadPart' q1
  exact⟨_,rfl,q2⟩
section
def rRepT0 (K:PySem.W.Frag):R2:=fun x y H Q=>∃ a k xs,x = .ref a/\y = .int k/\H a = some (.tup xs)/\xs≠[]/\0<=k/\k < 2 ^ 63/\xs.length * k.toNat<=sizeLine/\∀ p H2,L2.Same H H2->H2 p = some (.tup (List.replicate k.toNat xs).flatten)->Q (.ref p) H2
theorem op_repT0:OpR X (binaryOp .Mult) (rRepT0 X.K):=by
 intro pins s σ H x y v u Q I rx ry h
 obtain⟨a,k,xs,rfl,rfl,hH,hne,h1,h2,hz,q⟩:=h
 by_cases k0:k = 0
 · cases rx
   obtain⟨t,rfl⟩:=ry
   obtain⟨its,r,pt,_⟩:=I.tuple (SqT.of (K:=X.K) hH)
   obtain⟨⟨cls,dd,data,sl⟩,ho,hc,n,hd⟩:=id pt
   simp only at hc hd
   subst hc hd
   have hits:its≠[]:=fun z=>hne (r.nil_iff.mp z)
   refine wpAny_binaryOp_repeat_ref (T:="tuple") (U:="int") (by decide) ⟨_,ho,rfl⟩ (fun s'=>typeIs_int s' k t) fillT F.fills_int_mul F.slot_int_rmul repT F.slot_int_index.lookup
    (call_meets F.slot_int_rmul (typeIs_int s k t) F.entry_int_rmul (F.args_int_rmul_2 _ _) (rmulT k t a its.toArray n dd sl) ⟨ho,rfl,⟨_,ho,rfl⟩,?_⟩)
   refine call_meets PySem.F.slot_tuple_mul ⟨_,ho,rfl⟩ PySem.F.entry_tuple_mul (PySem.F.args_tuple_mul_2 _ _) (mulT0 k t a its n dd sl k0 hits) ⟨ho,?_⟩
   have hn:H s.heap.objs.size = none:=I.hok.fresh (Nat.le_refl _)
   refine⟨.ref s.heap.objs.size,_,I.laid (t':=s.toks) (o:=.tup (List.replicate k.toNat xs).flatten) (fun b ob e=>Heap.get?_push_of_some _ e) (Nat.le_refl _) ?_,rfl,q _ _ (Br.Same.upd hn) upd_same⟩
   subst k0
   exact⟨Nat.zero_le _,[],.nil,IsTupB.new _ _⟩
 · exact op_repT pins s σ H _ _ v u Q I rx ry ⟨a,k,xs,rfl,rfl,hH,hne,by omega,h2,hz,q⟩
end
section
variable {K:PySem.W.Frag}
theorem k_repT0 (hK:X.K = K) (ha:JE X (.Tuple es kk p) ta) (hb:JE X b tb):JE X (.BinOp (.Tuple es kk p) .Mult b pos) (tOp (rRepT0 K) ta tb):=hK▸⟨r_bin op_repT0 ha.h hb.h⟩
end
end Br
namespace Br
def upD (t b:Int):Int:=-(-t / b)
theorem upD_le {t b n:Int} (hb:0 < b):upD t b<=n↔t<=n * b:=by
 unfold upD
 constructor
 · intro h
   have h1:-n<=-t / b:=by omega
   have h2:=(Int.le_ediv_iff_mul_le hb).mp h1
   rw [Int.neg_mul] at h2;omega
 · intro h
   have h1:-n<=-t / b:=(Int.le_ediv_iff_mul_le hb).mpr (by rw [Int.neg_mul];omega)
   omega
theorem upD_eq {t b:Int} (hb:0 < b):(t + b - 1) / b = upD t b:=by
 have e:∀ n:Int,(t + b - 1) / b<=n↔t<=n * b:=fun n=>by
  rw [<- Int.lt_add_one_iff,Int.ediv_lt_iff_lt_mul hb,Int.add_mul,Int.one_mul];omega
 apply Int.le_antisymm
 · exact (e _).mpr ((upD_le hb).mp (Int.le_refl _))
 · exact (upD_le hb).mpr ((e _).mp (Int.le_refl _))
def mostN (need s m:Int) (zs:List Int):Int:=min m (upD (need - zs.sum) s)
def fewN (need below s:Int) (zs:List Int):Int:=max 0 (upD (need - zs.sum - below) s)
def addN (s:Int) (zs:List Int) (n:Nat):List Int:=List.replicate n s ++ zs
theorem sum_repl (s:Int):∀ n:Nat,(List.replicate n s).sum = (n:Int) * s
 | 0=>by simp
 | n + 1=>by rw [List.replicate_succ,List.sum_cons,sum_repl s n,Int.natCast_add,Int.add_mul];simp;omega
theorem addN_sum {s:Int}{zs:List Int}{n:Nat}:(addN s zs n).sum = (n:Int) * s + zs.sum:=by
 unfold addN;rw [List.sum_append,sum_repl]
def growP (need s m below:Int) (zs:List Int):List (List Int):=(List.range (mostN need s m zs + 1 - fewN need below s zs).toNat).map fun i:Nat=>addN s zs (fewN need below s zs + i).toNat
theorem few_le {need below s:Int}{zs:List Int} (hs:0 < s) (i:Nat):fewN need below s zs<=(i:Int)↔need<=(addN s zs i).sum + below:=by
 unfold fewN
 rw [addN_sum]
 have h:=upD_le (t:=need - zs.sum - below) (b:=s) (n:=(i:Int)) hs
 constructor
 · intro h1
   have h2:upD (need - zs.sum - below) s<=(i:Int):=Int.le_trans (Int.le_max_right _ _) h1
   have:=h.mp h2;omega
 · intro h1
   have:=h.mpr (by omega)
   exact Int.max_le.mpr ⟨by omega,this⟩
theorem few0 {need below s:Int}{zs:List Int}:0<=fewN need below s zs:=Int.le_max_left _ _
theorem most0 {need s m:Int}{zs:List Int} (hs:0 < s) (hm:0<=m) (hz:zs.sum < need):0<=mostN need s m zs:=by
 unfold mostN
 have:¬ upD (need - zs.sum) s<=-1:=fun z=>by have:=(upD_le hs).mp z;omega
 exact Int.le_min.mpr ⟨hm,by omega⟩
theorem few_most {need s m below:Int}{zs:List Int} (hs:0 < s) (hm:0<=m) (hz:zs.sum < need) (hb:0<=below):fewN need below s zs<=mostN need s m zs↔need<=zs.sum + (below + s * m):=by
 have m0:=most0 (m:=m) hs hm hz
 unfold fewN
 rw [Int.max_le]
 have a1:upD (need - zs.sum - below) s<=upD (need - zs.sum) s:=(upD_le hs).mpr (by have:=(upD_le (t:=need - zs.sum) (b:=s) hs).mp (Int.le_refl _);omega)
 have a2:=upD_le (t:=need - zs.sum - below) (b:=s) (n:=m) hs
 rw [Int.mul_comm m s] at a2
 constructor
 · rintro⟨_,h⟩
   have:=a2.mp (Int.le_trans h (Int.min_le_left _ _));omega
 · intro h
   exact⟨m0,Int.le_min.mpr ⟨a2.mpr (by omega),a1⟩⟩
def fullB (need:Int) (zs:List Int):Bool:=decide (need<=zs.sum)
def rowsTo (need s m more:Int) (rows:List (List Int)):List (List Int):=rows.filter (fullB need) ++ (rows.filter fun r=>!fullB need r).flatMap (growP need s m (more - s * m))
def tooLong (need s m more:Int) (rows:List (List Int)):Prop:=∃ r∈rows,r.sum < need/\need<=r.sum + more/\60 < (r.length:Int) + mostN need s m r
instance (need s m more:Int) (rows:List (List Int)):Decidable (tooLong need s m more rows):=by unfold tooLong;exact inferInstance
def leansOf (need:Int):List (Int×Int)->Int->List (List Int)->Option (List (List Int))
 | [],_,rows=>some (rows.filter (fullB need))
 | q :: ks,more,rows=>if tooLong need q.1 q.2 more rows then none else if 300 < (rowsTo need q.1 q.2 more rows).length then none else leansOf need ks (more - q.1 * q.2) (rowsTo need q.1 q.2 more rows)
theorem rows_full {need s m more:Int}{rows:List (List Int)}:(rowsTo need s m more rows).filter (fullB need) = rows.filter (fullB need) ++ ((rows.filter fun r=>!fullB need r).flatMap (growP need s m (more - s * m))).filter (fullB need):=by
 unfold rowsTo;rw [List.filter_append,List.filter_filter];simp
theorem rows_not {need s m more:Int}{rows:List (List Int)}:((rowsTo need s m more rows).filter fun r=>!fullB need r) = ((rows.filter fun r=>!fullB need r).flatMap (growP need s m (more - s * m))).filter fun r=>!fullB need r:=by
 unfold rowsTo;rw [List.filter_append,List.filter_filter]
 have:(rows.filter fun a=>!fullB need a && fullB need a) = []:=by rw [List.filter_eq_nil_iff];intro a _;cases fullB need a <;> simp
 rw [this,List.nil_append]
theorem split_len {p:List Int->Bool}:∀ l:List (List Int),l.length = (l.filter p).length + (l.filter fun r=>!p r).length
 | []=>rfl
 | x :: l=>by
  have:=split_len (p:=p) l
  cases h:p x <;> simp [h] <;> omega
end Br
namespace Br
open PySem PySem.Spec PySem.Calls PyProof.Rows L2
theorem slot_rvt:Slot "reversed" (Str.ofString "__next__") "reversed.__next__":=.of (owner:="reversed") (n:="__next__") (by rw [typeLookup_type,builtinLookup_eq_fast];kernel_rfl) (by decide +kernel) (by decide +kernel) (by decide +kernel) (by first | exact .inl (by decide +kernel) | exact .inr (by decide +kernel)) (by rw [isSubtype_type];kernel_rfl)
theorem entry_rvt:entryFor table "reversed.__next__" = some Builtin.«reversed.__next__»:=entryFor_of_tree (by kernel_rfl)
theorem args_rvt (a:Value):argsOk "reversed.__next__" ⟨[a],[]⟩:=by unfold argsOk;kernel_rfl
abbrev IsRvT (h:Heap) (it t:Addr) (i:Int):Prop:=h.get? it = some { cls:=.type "reversed",dict:=none,data:=.fields #[.ref t,rawInt i],slots:=#[] }
section
theorem rvt_item {it t:Addr}{k:Nat}{items:Array Value}{x:Value}{Q:Value->Shared->Prop} (hI:IsRvT s.heap it t k) (hT:IsTup s.heap t items) (hx:items[k]? = some x) (hz:items.size<=sizeLine)
 (go:∀ g tk,IsRvT g it t ((k:Int) - 1)->Heap.SameBut it s.heap g->Q x { s with heap:=g,toks:=tk }):wpAny (model prog w) A (Builtin.«reversed.__next__» ⟨[.ref it],[]⟩) (fun fin s'=>∃ u,fin = .done (.ret u)/\Q u s') E s:=by
 have f0:=fun {R:Value->Shared->Prop}=>wpAny_field (M:=model prog w) (A:=A) (E:=E) (Q:=R) (i:=0) hI rfl (x:=.ref t) rfl
 have f1:=fun {R:Value->Shared->Prop}=>wpAny_field (M:=model prog w) (A:=A) (E:=E) (Q:=R) (i:=1) hI rfl (x:=rawInt k) rfl
 have hs:items.size<=sizeLine:=hz
 have hsz:(sizeLine:Nat) = 16777216:=sizeLine_eq
 have hk:k < items.size:=by
  by_cases c:k < items.size
  · exact c
  · rw [Array.getElem?_eq_none (by omega)] at hx;cases hx
 have sp:=fun {R:Option Value->Shared->Prop}=>wpAny_specialOf (M:=model prog w) (A:=A) (E:=E) (Q:=R) (name:=Str.ofString "__getitem__") hT.typeIs F.slot_tuple_getitem.lookup
 have f1':=fun {R:Value->Shared->Prop}=>wpAny_field (M:=model prog w) (A:=A) (E:=E) (s:={ s with toks:=s.toks + 1 }) (Q:=R) (i:=1) hI rfl (x:=rawInt k) rfl
 have gi:=fun {R:Value->Shared->Prop}{E':Value->Shared->Prop}=>getItem_tuple (prog:=prog) (w:=w) (A:=A) (E:=E') (s:={ s with toks:=s.toks + 1 }) (Q:=R) (u:=s.toks) (k:=(k:Int)) (j:=k) hT (by omega) (by omega) (by unfold seqIndex?;simp;omega) hx
 have w1:=fun {R:Unit->Shared->Prop}=>wpAny_setField_rec (prog:=prog) (w:=w) (A:=A) (E:=E) (s:={ s with toks:=s.toks + 1 }) (k:=1) (x:=rawInt ((k:Int) - 1)) (Q:=R) hI (by simp)
 wp_walk using f0,f1,sp,gi,f1',w1
 intro g hg sb
 wp_walk
 exact⟨_,rfl,go g _ hg sb⟩
theorem rvt_stop {it t:Addr}{Q:PySem.Fin->Shared->Prop} (hh:A.handled = none) (hI:IsRvT s.heap it t (-1))
 (go:∀ g e,Heap.ExtBut it s.heap g->(∃ o,g.get? e = some o/\o.cls = .type "StopIteration")->E (.ref e) { s with heap:=g }):wpAny (model prog w) A (Builtin.«reversed.__next__» ⟨[.ref it],[]⟩) Q E s:=by
 have f0:=fun {R:Value->Shared->Prop}=>wpAny_field (M:=model prog w) (A:=A) (E:=E) (Q:=R) (i:=0) hI rfl (x:=.ref t) rfl
 have f1:=fun {R:Value->Shared->Prop}=>wpAny_field (M:=model prog w) (A:=A) (E:=E) (Q:=R) (i:=1) hI rfl (x:=rawInt (-1)) rfl
 have w1:=fun {R:Unit->Shared->Prop}=>wpAny_setField_rec (prog:=prog) (w:=w) (A:=A) (E:=E) (k:=1) (x:=rawInt (-1)) (Q:=R) hI (by simp)
 wp_walk using f0,f1,w1
 intro g1 hg1 k1
 have w0:=fun {R:Unit->Shared->Prop}=>wpAny_setField_rec (prog:=prog) (w:=w) (A:=A) (E:=E) (s:={ s with heap:=g1 }) (k:=0) (x:=.none) (Q:=R) hg1 (by simp)
 wp_walk using w0
 intro g2 hg2 k2
 wp_walk
 unfold raiseNew
 wp_walk using wpAny_handled
 rw [hh]
 wp_walk
 exact go _ _ (((k1.trans k2).extBut.push _).push _) ⟨_,Heap.get?_push_size _ rfl,rfl⟩
theorem rvt_next {it t:Addr}{k:Nat}{items:Array Value}{x:Value}{Q:Option Value->Shared->Prop} (hI:IsRvT s.heap it t k) (hT:IsTup s.heap t items) (hx:items[k]? = some x) (hz:items.size<=sizeLine)
 (go:∀ g tk,IsRvT g it t ((k:Int) - 1)->Heap.SameBut it s.heap g->Q (some x) { s with heap:=g,toks:=tk }):wpAny (model prog w) A (pyNext (.ref it)) Q E s:=by
 have ty:s.TypeIs (.ref it) "reversed":=⟨_,hI,rfl⟩
 unfold pyNext
 exact wpAny_bind (wpAny_attempt (wpAny_callSpecial?_slot (name:=Str.ofString "__next__") ty slot_rvt (wpAny_call_entry slot_rvt ty entry_rvt (rvt_item hI hT hx hz fun g tk a1 a2=>wpAny_pure (go g tk a1 a2)) (args_rvt _))))
theorem rvt_end {it t:Addr}{Q:Option Value->Shared->Prop} (hh:A.handled = none) (hI:IsRvT s.heap it t (-1)) (go:∀ g,Heap.ExtBut it s.heap g->Q none { s with heap:=g }):wpAny (model prog w) A (pyNext (.ref it)) Q E s:=by
 have ty:s.TypeIs (.ref it) "reversed":=⟨_,hI,rfl⟩
 unfold pyNext
 refine wpAny_bind (wpAny_attempt (wpAny_callSpecial?_slot (name:=Str.ofString "__next__") ty slot_rvt (wpAny_call_entry slot_rvt ty entry_rvt (rvt_stop hh hI fun g e x he=>?_) (args_rvt _))))
 obtain⟨ob,a,b⟩:=he
 exact wpAny_bind (wpAny_isInstance (T:="StopIteration") (b:=true) ⟨ob,a,b⟩ isSubtype_stop (wpAny_pure (go _ x)))
theorem slot_rvt_init:Slot "reversed" (Str.ofString "__init__") "object.__init__":=.of (owner:="object") (n:="__init__") (by rw [typeLookup_type,builtinLookup_eq_fast];kernel_rfl) (by decide +kernel) (by decide +kernel) (by decide +kernel) (by first | exact .inl (by decide +kernel) | exact .inr (by decide +kernel)) (by rw [isSubtype_type];kernel_rfl)
theorem called_rvt:TypeCalled "reversed" "reversed.__new__" "object.__init__":=⟨by decide +kernel,by decide +kernel,⟨_,_,F.mro_reversed⟩,F.made_reversed,by decide +kernel,by rw [isSubtype_type];kernel_rfl,slot_rvt_init⟩
theorem tuple_norev:typeLookup (.type "tuple") (Str.ofString "__reversed__") = pure none:=by rw [typeLookup_type,builtinLookup_eq_fast];kernel_rfl
theorem rvt_meets (t:Addr) (items:Array Value):Meets (Builtin.«reversed.__new__» ⟨[.type "reversed",.ref t],[]⟩) (fun A R s=>IsTup s.heap t items/\items.size<=sizeLine/\∀ tk,R (.ok (.ret (.ref s.heap.objs.size))) { s with heap:=s.heap.push { cls:=.type "reversed",data:=.fields #[.ref t,rawInt ((items.size:Int) - 1)] },toks:=tk }):=
 .of_wp fun prog w A R s h=>by
  obtain⟨hT,hz,h⟩:=h
  have hsz:(sizeLine:Nat) = 16777216:=sizeLine_eq
  have sp:=fun {R:Option Value->Shared->Prop}{E:Value->Shared->Prop}=>wpAny_specialOf (M:=model prog w) (A:=A.in1) (E:=E) (Q:=R) (name:=Str.ofString "__reversed__") hT.typeIs tuple_norev
  have sp2:=fun {R:Option Value->Shared->Prop}{E:Value->Shared->Prop}=>wpAny_specialOf (M:=model prog w) (A:=A.in1) (E:=E) (Q:=R) (name:=Str.ofString "__getitem__") hT.typeIs F.slot_tuple_getitem.lookup
  have hsub:=F.sub_reversed_self
  have nd:=fun {R:Bool->Shared->Prop}{E:Value->Shared->Prop}=>wpAny_isInstance (M:=model prog w) (A:=A.in1) (E:=E) (Q:=R) (T:="tuple") (b:=false) (U:="dict") hT.typeIs (by rw [isSubtype_type];kernel_rfl)
  have ln:=fun {R:Value->Shared->Prop}{E:Value->Shared->Prop}=>len_tuple (prog:=prog) (w:=w) (A:=A.in1) (E:=E) (Q:=R) hT (by omega)
  wp_walk using sp,sp2,nd,ln
  exact⟨_,rfl,h _⟩
theorem rvt_make {t:Addr}{items:Array Value}{Q:Value->Shared->Prop} (hT:IsTup s.heap t items) (hz:items.size<=sizeLine)
 (go:∀ tk,Q (.ref s.heap.objs.size) { s with heap:=s.heap.push { cls:=.type "reversed",data:=.fields #[.ref t,rawInt ((items.size:Int) - 1)] },toks:=tk }):wpAny (model prog w) A (call (.type "reversed") [.ref t]) Q E s:=by
 refine callType_new called_rvt (by decide) (F.typeCall_reversed_1 _) (F.newCall_reversed_1 _) (fun obj=>F.args_object_init_2 obj _) F.entry_reversed_new (rvt_meets t items) ⟨hT,hz,fun tk=>?_⟩
 exact⟨⟨_,Heap.get?_push_size _ rfl,rfl⟩,go tk⟩
end
theorem slot_rvt_iter:Slot "reversed" (Str.ofString "__iter__") "reversed.__iter__":=.of (owner:="reversed") (n:="__iter__") (by rw [typeLookup_type,builtinLookup_eq_fast];kernel_rfl) (by decide +kernel) (by decide +kernel) (by decide +kernel) (by first | exact .inl (by decide +kernel) | exact .inr (by decide +kernel)) (by rw [isSubtype_type];kernel_rfl)
theorem entry_rvt_iter:entryFor table "reversed.__iter__" = some Builtin.«dict_keyiterator.__iter__»:=entryFor_alias (id':="dict_keyiterator.__iter__") (by kernel_rfl) (by first | rfl | decide +kernel | (unfold String.splitOn;simp +decide [String.splitOnAux])) (by decide +kernel) (by kernel_rfl)
theorem args_rvt_iter (a:Value):argsOk "reversed.__iter__" ⟨[a],[]⟩:=by unfold argsOk;kernel_rfl
theorem rvt_self {prog:Program}{w:World}{A:Around}{E:Value->Shared->Prop}{s:Shared}{it t:Addr}{i:Int}{Q:Value->Shared->Prop} (hI:IsRvT s.heap it t i) (h:Q (.ref it) s):wpAny (model prog w) A (pyIter (.ref it)) Q E s:=by
 have ty:s.TypeIs (.ref it) "reversed":=⟨_,hI,rfl⟩
 refine wpAny_pyIter_slot ty slot_rvt_iter (wpAny_call_entry slot_rvt_iter ty entry_rvt_iter ?_ (args_rvt_iter _))
 wp_walk
 exact⟨_,rfl,"reversed",_,ty,slot_rvt.lookup,h⟩
def ItRt (K:PySem.W.Frag) (a:Addr) (n:Nat):It:=⟨fun i H=>i < n/\∃ xs x,SqT K H a xs/\xs[n - 1 - i]? = some x,fun i H x H'=>H' = H/\∀ xs,SqT K H a xs->xs[n - 1 - i]? = some x,fun i H=>n<=i⟩
theorem turn_rvt {P:Program}{w:World}{K:PySem.W.Frag}{tg:Expr} (a it:Addr) (n:Nat):Turn P w K tg (ItRt K a n) [it] it (fun i h=>i<=n/\IsRvT h it a ((n:Int) - 1 - i)) where
 mem:=by simp
 obj:=fun i h st b hb=>by
  have e:b = it:=by simpa using hb
  subst e
  exact⟨_,st.2,fun v z=>by cases z⟩
 keep:=fun i h h' st k=>⟨st.1,k it (by simp) _ st.2⟩
 item:=by
  intro X hP hw hK hc i pins s σ H E I hf st hg
  subst hP hw hK
  obtain⟨hi,xs,x,q,hx⟩:=hg
  obtain⟨hle,st⟩:=st
  obtain⟨its,rv,p,hz⟩:=I.tuple q
  obtain⟨u,hu,ru⟩:=rv.get hx
  obtain⟨f0,f1,f2,f3,f4,f5⟩:=hf it (by simp)
  have hl:=rv.length
  rw [show (n:Int) - 1 - i = ((n - 1 - i:Nat):Int) by omega] at st
  refine rvt_next st p (x:=u) (by simpa using hu) (by rw [List.size_toArray];omega) fun h' tk st' sb=>?_
  have I1:Inv X pins σ H { s with heap:=h',toks:=tk }:=I.turned (t':=tk) (fun b o hb e=>(sb.2 b hb).trans e) f0 f1 f3 f4 f5
  refine⟨u,rfl,go_of (s:={ s with heap:=h',toks:=tk }) st' rfl rfl (by decide) ⟨x,H,I1,ru,⟨rfl,fun ys hy=>by rw [I.tuple_inj hy q];exact hx⟩,⟨by omega,?_⟩,fun b hb=>(hf b hb).1⟩⟩
  rw [show (n:Int) - 1 - ((i + 1:Nat):Int) = ((n - 1 - i:Nat):Int) - 1 by omega]
  exact st'
 done:=by
  intro X hP hw hK hc i pins s σ H E I hf st hg
  subst hP hw hK
  obtain⟨hle,st⟩:=st
  have hg:n<=i:=hg
  obtain⟨f0,f1,f2,f3,f4,f5⟩:=hf it (by simp)
  rw [show (n:Int) - 1 - i = -1 by omega] at st
  exact rvt_end (I.ok.hd hc) st fun h' eb=>⟨rfl,I.turned (t':=s.toks) (fun b o hb e=>eb b o hb e) f0 f1 f3 f4 f5⟩
 self:=fun _ _ _ _ _ st h=>rvt_self st.2 h
def iRvT (K:PySem.W.Frag) (ta:TA):TI:=fun σ H R=>ta σ H fun vs H1=>∃ a xs,vs = [.ref a]/\SqT K H1 a xs/\R (ItRt K a xs.length) H1
section
variable {K:PySem.W.Frag}
theorem pi_rvt {a:Expr}{ta:TA}{p pos:Pos} (hg:Gl X "reversed") (hm:X.mg "reversed" = none) (ha:PA X [a] ta) (hs:starEach [a] X.env = [(false,eval a X.env)]):PI X tg (.Call (.Name "reversed" p) [a] [] pos) (iRvT X.K ta):=by
 intro pins s σ H R I h
 refine Call_ (ld_blt I hg hm boot_reversed (PyProof.Rows.callWith_type1 (thn (ha pos pins s σ H _ I h) fun us s1 ⟨vs,H1,I1,r1,q1⟩=>?_) hs rfl))
 obtain⟨a,xs,e,q1,q⟩:=q1
 subst e
 cases r1 with
 | cons r rr=>
  cases rr
  cases r
  obtain⟨its,rv,p,hz⟩:=I1.tuple q1
  have hl:its.toArray.size = xs.length:=by rw [List.size_toArray];exact rv.length.symm
  refine rvt_make p (by omega) fun tk=>?_
  have hst:IsRvT (s1.heap.push { cls:=.type "reversed",data:=.fields #[.ref a,rawInt ((its.toArray.size:Int) - 1)] }) s1.heap.objs.size a ((its.toArray.size:Int) - 1):=Heap.get?_push_size _ rfl
  refine rvt_self (s:={ s1 with heap:=s1.heap.push { cls:=.type "reversed",data:=.fields #[.ref a,rawInt ((its.toArray.size:Int) - 1)] },toks:=tk }) hst ?_
  refine⟨s1.heap.objs.size,[s1.heap.objs.size],_,_,H1,rfl,I1.kept (t':=tk) fun b o e=>Heap.get?_push_of_some _ e,turn_rvt a _ xs.length,⟨Nat.zero_le _,?_⟩,fun b hb=>?_,q⟩
  · rw [hl] at hst
    rw [hl]
    simpa using hst
  · have e:b = s1.heap.objs.size:=by simpa using hb
    subst e
    exact I1.fpOk (Nat.le_refl _) (I1.hok.fresh (Nat.le_refl _))
theorem k_rvt (hK:X.K = K) {x:Str}{a:Expr}{t:TA}{p pos:Pos} (hx:x = "reversed") (hg:Gl X x) (hm:X.mg x = none) (hs:starEach [a] X.env = [(false,eval a X.env)]) (ha:JA X [a] t):JI X tg (.Call (.Name x p) [a] [] pos) (iRvT K t):=hK▸⟨by subst hx;exact pi_rvt hg hm ha.h hs⟩
end
theorem for_rvt {K:PySem.W.Frag}{a:Addr}{xs:List V}{g:TG}{tb:TS}{D:Ends}{σ:L2.St}{H:Hp} (Pv:Nat->L2.St->Hp->Prop) (h0:Pv 0 σ H) (hl:∀ i σ H,i<=xs.length->Pv i σ H->SqT K H a xs)
 (hs:∀ i x σ H,xs.reverse[i]? = some x->Pv i σ H->g x σ H fun σ2 H2=>tb { D with nx:=Pv (i + 1),ct:=Pv (i + 1),bk:=D.nx } σ2 H2) (hd:∀ σ H,Pv xs.length σ H->D.nx σ H):
 ∃ W:Nat->Nat->L2.St->Hp->Prop,(∃ m,W 0 m σ H)/\∀ i m σ H,W i m σ H->
  ((ItRt K a xs.length).stop i H/\D.nx σ H)\/((ItRt K a xs.length).go i H/\∃ N:L2.St->Hp->Prop,(∀ σ' H',N σ' H'->∃ m',m' < m/\W (i + 1) m' σ' H')/\∀ x H',(ItRt K a xs.length).yld i H x H'->g x σ H' fun σ2 H2=>tb { D with nx:=N,ct:=N,bk:=D.nx } σ2 H2):=by
 refine⟨fun i m σ H=>m = xs.length - i/\i<=xs.length/\Pv i σ H,⟨xs.length,by simp,Nat.zero_le _,h0⟩,?_⟩
 rintro i m σ H ⟨rfl,hi,p⟩
 have q:=hl i σ H hi p
 by_cases hlt:i < xs.length
 · have e:xs[xs.length - 1 - i]? = some xs[xs.length - 1 - i]:=List.getElem?_eq_getElem (by omega)
   refine .inr ⟨⟨hlt,xs,_,q,e⟩,Pv (i + 1),fun σ' H' p'=>⟨xs.length - (i + 1),by omega,rfl,hlt,p'⟩,fun x H' ⟨e1,e2⟩=>?_⟩
   subst e1
   exact hs i x σ _ (by rw [List.getElem?_reverse hlt];exact e2 xs q) p
 · have e:i = xs.length:=by omega
   subst e
   exact .inl ⟨Nat.le_refl _,hd σ H p⟩
section
theorem s_augSub {i:Nat}{x:Str}{e:Expr}{te:TE}{pos pos':Pos} (hi:At X.N i x) (hN:X.N.Nodup) (hx:Loc X.env.scope x) (hf:X.fn x = true) (he:JE X e te):JS X (.AugAssign (.Name x pos') .Sub e pos) (tAug i te (ipI fun i j=>i - j)):=
 ⟨ps_aug hN hi.get hx he.h ip_sub (.inl hf)⟩
end
def Dk (P:Program) (w:World) (D:Addr) (o:Obj) (vs:List (Key×Value)):Prop:=(∀ h:Heap,h.get? D = some o->h.DictOf (mixKind P w) D vs)/\∀ v,o.data≠.cell v
theorem Dk.of {h:Heap} (x:h.DictOf (mixKind P w) D vs):∃ o,h.get? D = some o/\Dk P w D o vs:=by
 obtain⟨o,es,ep,ho,hc,hd,hr⟩:=x
 exact⟨o,ho,fun h' e=>⟨o,es,ep,e,hc,hd,hr⟩,fun v z=>by grind⟩
theorem Dk.nil (D:Addr):Dk P w D { cls:=.type "dict",dict:=none,data:=.dict #[] } []:=by
 refine⟨fun h e=>?_,fun v z=>by grind⟩
 have n:Heap.DictOf (mixKind P w) _ h.objs.size []:=Heap.DictOf.new h
 obtain⟨o,es,ep,ho,hr⟩:=n
 rw [Heap.get?_push_size _ rfl] at ho
 cases ho
 exact⟨_,es,ep,e,hr⟩
theorem key_is (r:RelV (kV k) u):(mixKind P w).is k u = true:=by
 cases k with
 | inl i=>obtain⟨t,rfl⟩:=r;simp [mixKind,keyIs,Value.isInt]
 | inr x=>obtain⟨t,rfl⟩:=r;simp [mixKind,keyIs,Value.isStrOf]
def CmpD (J:It) (g:TG) (tt:TT) (tk tv:TE) (σ0:L2.St) (H0:Hp) (Z:List (Key×V)->Hp->Prop):Prop:=
 ∃ W:Nat->Nat->List (Key×V)->L2.St->Hp->Prop,(∃ m,W 0 m [] σ0 H0)/\∀ i m ys σ' H',W i m ys σ' H'->ys.length < sizeLine/\
  ((J.stop i H'/\Z ys H')\/
   (J.go i H'/\∀ x H2,J.yld i H' x H2->g x σ' H2 fun σ3 H3=>tt σ3 H3 fun b H4=>if b = true then tk σ3 H4 fun y H5=>∃ k,y = kV k/\tv σ3 H5 fun z H6=>∃ m',m' < m/\W (i + 1) m' (putK ys k z) σ3 H6 else ∃ m',m' < m/\W (i + 1) m' ys σ3 H4))
section
theorem compLoop_goD (I:Nat->Shared->Prop)
 (turn:∀ n s,I n s->wpAny (model prog w) A (pyNext it) (fun r s1=>match r with
  | none=>R (.ok .next) s1
  | some v=>wpAny (model prog w) A (letOwnedTupleGo target it v) (fun _ s1=>wpAny (model prog w) A (assign target env v) (fun _ s2=>
   wpAny (model prog w) A (testsOf ifs env) (fun ok s3=>
    if ok = true then wpAny (model prog w) A (eval kx env) (fun kv s4=>wpAny (model prog w) A (eval vx env) (fun vv s5=>
     wpAny (model prog w) A (dictSet D kv vv) (fun _ s6=>∃ m,m < n/\I m s6) (fun _ _=>False) s5) (fun _ _=>False) s4) (fun _ _=>False) s3
    else ∃ m,m < n/\I m s3) (fun _ _=>False) s2) (fun _ _=>False) s1) (fun _ _=>False) s1) (fun _ _=>False) s)
 (n:Nat) (h:I n s):codeAny (model prog w) A (.compLoop (.DictComp kx vx [⟨target,iter,ifs,0⟩] scope pos) 0 it (.ref D) env) R s:=by
 apply codeAny_loop rfl I _ n h
 intro k s hI
 apply wpAny_noted
 apply wpAny_mono (E:=fun _ _=>False) _ (fun _ _ q=>q) fun _ _ f=>f.elim
 rw [compTurn_dict]
 refine wpAny_bind (wpAny_standAt (wpAny_bind (thn (turn k s hI) fun r s1 q1=>?_)))
 rcases r with _ | v
 · exact wpAny_pure q1
 refine wpAny_bind (thn q1 fun _ s2 q2=>wpAny_bind (thn q2 fun _ s3 q3=>wpAny_bind (thn q3 fun ok s4 q4=>?_)))
 cases ok
 · exact wpAny_pure ⟨rfl,q4⟩
 · exact wpAny_bind (wpAny_bind (thn q4 fun kv s5 q5=>wpAny_bind (wpAny_holding (thn q5 fun vv s6 q6=>wpAny_bind (wpAny_standAt (wpAny_holding (thn q6 fun _ s7 q7=>wpAny_pure ⟨rfl,q7⟩)))))))
end
section
variable {σ:L2.St}
theorem dcomp_block {it:Addr}{fp:List Addr}{tn:Nat->Heap->Prop}{J:It}{Z:List (Key×V)->Hp->Prop}{E:Value->Shared->Prop}{RR:Value->Addr->Result->Shared->Prop}
 (hc:X.calm = true) (S:CompS X scope) (I2:Inv X pins σ H2 s2) (T:Turn X.prog X.w X.K tg J fp it tn) (st2:tn 0 s2.heap) (f2:∀ b∈fp,FpOk X pins H2 b)
 (hg:∀ C s H fp,PG (cxC X Nc scope C s H fp) tg g) (ht:∀ C s H fp,PIfs (cxC X Nc scope C s H fp) ifs tt) (hk:∀ C s H fp,PE (cxC X Nc scope C s H fp) kx tk) (hv:∀ C s H fp,PE (cxC X Nc scope C s H fp) vx tv)
 (h:CmpD J g tt tk tv (List.replicate Nc.length none ++ σ) H2 Z)
 (hRR:∀ D C s' H3 ys,Inv X pins σ (upd H3 D (.dK ys)) s'->H3 D = none->Z ys H3->(∃ m,s'.heap.Ns C m)->FpOk X pins (upd H3 D (.dK ys)) C->RR (.ref D) C (.ok .next) s'):
 wpAny (model X.prog X.w) X.A (newDict) (fun acc s₃=>wpAny (model X.prog X.w) X.A (newFunctionEnv scope X.env.globals (clOf scope X.env) [] X.env.qual none .none (some X.env)) (fun cenv s₄=>
  codeAny (model X.prog X.w) X.A (.compStart (.DictComp kx vx [⟨tg,iter,ifs,0⟩] scope pos) 0 (.ref it) acc { cenv with scope:=relabel scope X.env }) (RR acc cenv.locals) s₄) E s₃) E s2:=by
 refine wpAny_newObj_type (wpAny_newFunctionEnv S.nocell (by intro y hy;simp at hy) (fun h₁ hns₁ hsb₁=>?_) S.kind)
 dsimp only at hns₁ hsb₁ ⊢
 have big:=I2.big
 generalize hH2:s2.heap.push { cls:=.type "dict",dict:=none,data:=.dict #[] } = G at hns₁ hsb₁ ⊢
 have hC:G.objs.size = s2.heap.objs.size + 1:=by rw [<- hH2,Heap.size_push]
 generalize hD0:s2.heap.objs.size = D at *
 generalize hC0:G.objs.size = C at *
 have hDC:D≠C:=by omega
 have below:∀ (b:Nat) o,s2.heap.get? b = some o->b < D:=fun b o e=>hD0▸Heap.lt_size e
 have belC:∀ (b:Nat) o,s2.heap.get? b = some o->b≠C:=fun b o e=>by have:=below b o e;omega
 have belD:∀ (b:Nat) o,s2.heap.get? b = some o->b≠D:=fun b o e=>by have:=below b o e;omega
 have old:∀ b o,s2.heap.get? b = some o->h₁.get? b = some o:=fun b o e=>hsb₁.extBut b o (belC b o e) (by
  have q:=Heap.get?_push_of_some { cls:=.type (if (some X.env).isSome then "dict" else "frame"),data:=.dict #[] } (hH2▸Heap.get?_push_of_some _ e:G.get? b = some o)
  exact q)
 have hacc:h₁.get? D = some { cls:=.type "dict",dict:=none,data:=.dict #[] }:=hsb₁.extBut _ _ hDC (Heap.get?_push_of_some _ (by rw [<- hH2,<- hD0];exact Heap.get?_push_size _ rfl))
 have hsys:(D == sysModules) = false:=by
  rw [beq_eq_false_iff_ne];intro z;rw [z] at big;exact Nat.lt_irrefl _ big
 obtain⟨W,⟨m0,w0⟩,turn⟩:=h
 have hob:∀ b∈fp,∃ o,s2.heap.get? b = some o:=fun b hb=>let ⟨o,e,_⟩:=T.obj _ _ st2 b hb;⟨o,e⟩
 have hfpD:∀ b:Nat,b∈fp->b < D:=fun b hb=>let ⟨o,e⟩:=hob b hb;below b o e
 have hfpN:∀ b:Nat,b∈fp->b≠D:=fun b hb=>Nat.ne_of_lt (hfpD b hb)
 have hcells:∀ y∈scope.names,y.2 = .free->∃ c,X.env.cells.lookup y.1 = some c:=fun y hy e=>I2.ok.has y.1 (S.free y hy e)
 have hsub:∀ {x:Str}{c:Addr},(clOf scope X.env).lookup x = some c->X.env.cells.lookup x = some c:=fun e=>(clOf_sub hcells e).1
 have hclt:∀ x c,(clOf scope X.env).lookup x = some c->c < D:=fun x c e=>let ⟨v,q⟩:=I2.cell x c (hsub e);hD0▸q.lt
 have hn0:h₁.Ns C fun _=>none:=hns₁
 have IB:Inv (cxC X Nc scope C s2 H2 fp) [] (List.replicate Nc.length none ++ σ) H2 { s2 with heap:=h₁,toks:=s2.toks + ([]:List (Str×Value)).length }:=
  inv_block (D:=D) I2 S f2 hob (by omega) old hn0
 have hfs:∀ b:Nat,D<=b->b∉(cxC X Nc scope C s2 H2 fp).fs:=fun b hb hm=>by
  obtain⟨_,o,ho,_⟩:=IB.ok.funs.mem hm
  exact absurd (Nat.lt_of_lt_of_le (below b o ho) hb) (Nat.lt_irrefl _)
 have stat:∀ {H':Hp}{ps:List (Addr×Obj)},(∀ p∈ps,Nat.le D p.1)->(∀ b∈fp,H' b = none)->∀ b∈fp,FpOk (cxC X Nc scope C s2 H2 fp) ps H' b:=fun {H' ps} hps hn b hb=>
  ⟨hn b hb,(let ⟨o,e⟩:=hob b hb;belC b o e),IB.ok.exfs b hb,.inl hb,fun x c e=>(f2 b hb).2.2.2.2.1 x c (hsub e),fun p hp=>Nat.ne_of_gt (Nat.lt_of_lt_of_le (hfpD b hb) (hps p hp))⟩
 have loop:∀ s₃:Shared,s₃ = { s2 with heap:=h₁,toks:=s2.toks + ([]:List (Str×Value)).length }->
  codeAny (model X.prog X.w) X.A (.compLoop (.DictComp kx vx [⟨tg,iter,ifs,0⟩] scope pos) 0 (.ref it) (.ref D) (compEnvC scope (clOf scope X.env) C X.env)) (RR (.ref D) C) s₃:=by
  rintro s₃ rfl
  refine compLoop_goD (fun n s'=>∃ i ys σ' H' vs ob,Inv (cxC X Nc scope C s2 H2 fp) [(D,ob)] σ' H' s'/\KV ys vs/\Dk X.prog X.w D ob vs/\tn i s'.heap/\(∀ b∈fp,H' b = none)/\W i n ys σ' H') ?_ m0 ?_
  · rintro n s3 ⟨i,ys,σ3,H3,vs,ob,I3,rv,dk,st3,fr3,w3⟩
    obtain⟨hz,tu⟩:=turn i n ys σ3 H3 w3
    have hps:∀ p∈[((D:Addr),ob)],Nat.le D p.1:=fun p hp=>by
     rcases List.mem_singleton.mp hp with rfl
     exact Nat.le_refl _
    rcases tu with ⟨stop,z⟩ | ⟨go,step⟩
    · refine thn (T.done (cxC X Nc scope C s2 H2 fp) rfl rfl rfl hc i _ s3 σ3 H3 (fun _ _=>False) I3 (stat hps fr3) st3 stop) fun r s4 ⟨hr,I4⟩=>?_
      subst hr
      obtain⟨eD,nD,_,_,_⟩:=I4.pin (D,ob) (List.mem_append_right _ (List.mem_singleton.mpr rfl))
      have eD:s4.heap.get? D = _:=eD
      have nD:H3 D = none:=nD
      have u4:Un (frs X.stack) fp H2 H3 s2.heap s4.heap:=I4.base
      have hH2D:H2 D = none:=I2.hok.fresh (by omega)
      have u5:Un (frs X.stack) fp H2 (upd H3 D (.dK ys)) s2.heap s4.heap:=
       ⟨u4.keep,u4.slot,fun b o e n x=>by rw [upd_ne (belD b o e)];exact u4.free b o e n x,u4.there,fun b xs e=>by rw [upd_ne (ne_of_none e hH2D)];exact u4.tups b xs e,
        fun b o u e=>by rw [upd_ne (ne_of_none e hH2D)];exact u4.frzs b o u e,fun b ps e=>by rw [upd_ne (ne_of_none e hH2D)];exact u4.tbls b ps e⟩
      have hok:HOk X.prog X.w (upd H3 D (.dK ys)) s4.heap:=fun b o e=>by
       by_cases hb:b = D
       · subst hb;rw [upd_same] at e;cases e
         exact⟨Nat.le_of_lt hz,hsys,vs,rv,dk.1 _ eD⟩
       · rw [upd_ne hb] at e
         exact (I4.hok b o e).stay (fun _ _ _ q=>q) (fun c q=>by rw [upd_ne (ne_of_none q nD)];exact q) fun c xs q=>by rw [upd_ne (ne_of_none q nD)];exact q
      have I5:Inv X pins σ (upd H3 D (.dK ys)) s4:=I2.call' (ch:=fp) I4.os u5 hok I4.bare fun b hb=>let ⟨a0,a1,a2,a3,a4,a5⟩:=f2 b hb;⟨a3,a1,a4,a5⟩
      obtain⟨m,hm,_⟩:=I4.loc
      refine hRR D C s4 H3 ys I5 nD z ⟨m,hm⟩ (I2.fpOk (by omega) ?_)
      rw [upd_ne (Ne.symm hDC)];exact I4.free
    · refine thn (T.item (cxC X Nc scope C s2 H2 fp) rfl rfl rfl hc i _ s3 σ3 H3 (fun _ _=>False) I3 (stat hps fr3) st3 go) fun r s4 ⟨u,hr,h4⟩=>?_
      subst hr
      refine thn h4 fun _ s5 ⟨x,H5,I5,r5,y5,st5,fr5⟩=>?_
      have I5':=I5.pinned (stat hps fr5) (T.obj _ _ st5)
      refine thn (hg C s2 H2 fp _ s5 σ3 H5 x u _ I5' r5 (step x H5 y5)) fun _ s6 ⟨σ6,H6,I6,q6⟩=>?_
      refine thn (ht C s2 H2 fp _ s6 σ6 H6 _ I6 q6) fun ok s7 ⟨H7,I7,q7⟩=>?_
      have tnK:∀ {σ':L2.St}{H':Hp}{s':Shared},Inv (cxC X Nc scope C s2 H2 fp) ([(D,ob)] ++ pinsAt fp s5.heap) σ' H' s'->tn (i + 1) s'.heap/\(∀ b∈fp,H' b = none)/\(∀ b∈fp,∀ o,s5.heap.get? b = some o->s'.heap.get? b = some o):=fun {σ' H' s'} I'=>
       ⟨T.keep _ _ _ st5 fun b hb o e=>(I'.pin (b,o) (List.mem_append_right _ (List.mem_append_right _ (mem_pinsAt hb e)))).1,fun b hb=>by
        obtain⟨o,e,d⟩:=T.obj _ _ st5 b hb
        exact (I'.pin (b,o) (List.mem_append_right _ (List.mem_append_right _ (mem_pinsAt hb e)))).2.1,fun b hb o e=>(I'.pin (b,o) (List.mem_append_right _ (List.mem_append_right _ (mem_pinsAt hb e)))).1⟩
      cases ok with
      | false=>
       have q7:∃ m',m' < n/\W (i + 1) m' ys σ6 H7:=q7
       obtain⟨m',hm,w7⟩:=q7
       obtain⟨k1,k2,_⟩:=tnK I7
       exact⟨m',hm,i + 1,ys,σ6,H7,vs,ob,I7.unpinned,rv,dk,k1,k2,w7⟩
      | true=>
       have q7:tk σ6 H7 fun y H5=>∃ k,y = kV k/\tv σ6 H5 fun z H6=>∃ m',m' < n/\W (i + 1) m' (putK ys k z) σ6 H6:=q7
       refine thn (hk C s2 H2 fp _ s7 σ6 H7 _ I7 q7) fun yk s8 ⟨ykv,H8,I8,r8,ke,eke,q8⟩=>?_
       subst eke
       refine thn (hv C s2 H2 fp _ s8 σ6 H8 _ I8 q8) fun y s9 ⟨yv,H9,I9,r9,m',hm,w9⟩=>?_
       obtain⟨k1,k2,k3⟩:=tnK I9
       obtain⟨eD,nD,_,nfD,_⟩:=I9.pin (D,ob) (List.mem_append_right _ (List.mem_append_left _ (List.mem_singleton.mpr rfl)))
       have eD:s9.heap.get? D = _:=eD
       refine wpAny_dictSet_pairs (knd:=mixKind X.prog X.w) (k:=ke) (key_is r8) (dk.1 _ eD) (fun h' hm' sb=>?_) (by rw [<- KV.length rv];omega)
       obtain⟨ob',eo,dk'⟩:=Dk.of hm'
       have I10:Inv (cxC X Nc scope C s2 H2 fp) [] σ6 H9 { s9 with heap:=h',toks:=s9.toks + 1 }:=(I9.pins_of (pins':=[]) (fun p hp=>nomatch hp)).turned (t':=s9.toks + 1) (it:=D) (fun b o hb e=>(sb.2 b hb).trans e) nD hDC (.inr (by show s2.heap.objs.size<=D;omega))
        (fun x c e=>Nat.ne_of_lt (hclt x c e)) (fun p hp=>absurd (show p∈([]:List (Addr×Obj)) from hp) (by simp))
       refine⟨m',hm,i + 1,putK ys ke yv,σ6,H9,_,ob',I10.pins_of fun p hp=>?_,rv.put ke r9,dk',T.keep _ _ _ k1 fun b hb o e=>(sb.2 b (hfpN b hb)).trans e,k2,w9⟩
       rcases List.mem_singleton.mp hp with rfl
       exact⟨eo,nD,hDC,nfD,dk'.2⟩
  · refine⟨0,[],_,H2,[],_,IB.pins_of fun p hp=>?_,.nil,Dk.nil D,T.keep _ _ _ st2 fun b hb o e=>old b o e,fun b hb=>(f2 b hb).1,w0⟩
    rcases List.mem_singleton.mp hp with rfl
    exact⟨hacc,I2.hok.fresh (by omega),hDC,hfs D (Nat.le_refl _),fun v z=>by cases z⟩
 exact codeAny_compStart_dict (loop _ rfl) (T.self _ 0 _ _ _ (T.keep _ _ _ st2 fun b hb o e=>old b o e) (loop _ rfl))
def tDComp (n:Nat) (wi:TI) (g:TG) (tt:TT) (tk tv:TE):TE:=fun σ H Q=>wi σ H fun J H1=>CmpD J g tt tk tv (List.replicate n none ++ σ) H1 fun ys H'=>∀ p H2,H' p = none->L2.Same H' H2->H2 p = some (.dK ys)->Q (.ref p) H2
theorem pe_dcomp (hc:X.calm = true) (S:CompS X scope) (hs:∀ x,foldedSetIterable iter X.env x = pure x) (hi:PI X tg iter wi)
 (hg:∀ C s H fp,PG (cxC X Nc scope C s H fp) tg g) (ht:∀ C s H fp,PIfs (cxC X Nc scope C s H fp) ifs tt) (hk:∀ C s H fp,PE (cxC X Nc scope C s H fp) kx tk) (hv:∀ C s H fp,PE (cxC X Nc scope C s H fp) vx tv):
 PE X (.DictComp kx vx [⟨tg,iter,ifs,0⟩] scope pos) (tDComp Nc.length wi g tt tk tv):=by
 intro pins s σ H Q I h
 have hcells:=fun y hy e=>I.ok.has y.1 (S.free y hy e)
 refine wpAny_comprehension_free rfl hs (closure_of hcells) S.kind S.names (thn (hi pins s σ H _ I h) fun v s1 h1=>thn h1 fun itv s2 h2=>?_)
 obtain⟨it,fp,tn,J,H2,e,I2,T,st2,f2,z⟩:=h2
 subst e
 refine dcomp_block hc S I2 T st2 f2 hg ht hk hv z fun D C s' H3 ys I' hD hz hm hf=>?_
 obtain⟨m,hm⟩:=hm
 exact⟨m,hm,fun h' sb=>⟨.ref D,_,I'.turned (fun b o hb e=>(sb.2 b hb).trans e) hf.1 hf.2.1 hf.2.2.2.1 hf.2.2.2.2.1 hf.2.2.2.2.2,rfl,hz D _ hD (Br.Same.upd hD) upd_same⟩⟩
end
end Br
namespace Br
open PySem PySem.Spec PyProof.Rows L2
end Br
namespace Br
open PySem PySem.Spec PySem.Calls PyProof.Rows L2
section
variable {K:PySem.W.Frag}
def rCountT (K:PySem.W.Frag):V->List V->Hp->VK->Prop:=fun x xs H Q=>∃ (l:Addr) (ns:List Int) (k:Int),x = .ref l/\xs = [.int k]/\SqT K H l (ns.map V.int)/\Q (.int ((ns.count k:Nat):Int)) H
theorem mt_countT:MtR X "tuple.count" (rCountT X.K):=by
 intro pins s σ H x vs v us Q I rx rv h
 obtain⟨l,ns,k,rfl,rfl,hq,q⟩:=h
 cases rx
 obtain⟨u,rfl,ru⟩:=rv.one
 obtain⟨tk,rfl⟩:=ru
 obtain⟨its,r',⟨⟨cls,dd,data,sl⟩,ho,hc,n,hd⟩,hz⟩:=I.tuple hq
 subst hc hd
 have hi:=intsAre_of r'
 refine call_meets PySem.F.slot_tuple_count ⟨_,ho,rfl⟩ PySem.F.entry_tuple_count (PySem.F.args_tuple_count_2 _ _) (PySem.SeqAt.tuple_countAt l its.toArray n dd sl _ _) ⟨ho,fun y hy=>(eq_isInt k tk hi y (by grind)).at _ _,?_⟩
 rw [show its.toArray.toList = its from rfl,countP_isInt k hi]
 exact⟨.int _,H,I.tok _,⟨_,rfl⟩,q⟩
end
end Br
namespace Br
namespace DK
open PySem PySem.Spec PySem.Calls PyProof.Rows L2
theorem vals_refs:∀ (as:List Addr) (l:List Value),Vals (as.map V.ref) l->l = as.map Value.ref
 | [],l,r=>by cases r;rfl
 | a :: as,l,r=>by
  cases r with
  | cons h t=>rw [vals_refs as _ t,List.map_cons];cases h;rfl
end DK
open PySem PySem.Spec PySem.Calls PyProof.Rows L2
end Br
namespace Br
namespace Kas
open PySem PySem.Spec PySem.Calls PyProof.Rows L2
open PySem.W
structure Rel (rel:Nat->Nat->Bool):Prop where
 irr:∀ a,rel a a = false
 asy:∀ a b,rel a b = true->rel b a = false
 tr:∀ a b c,rel b a = false->rel c b = false->rel c a = false
section
abbrev g (p:Array Nat) (k:Nat):Nat:=p.getD k 0
def Up (rel:Nat->Nat->Bool) (p:Array Nat) (m:Nat):Prop:=∀ i j,i<=j->j < m->rel (g p j) (g p i) = false
def Dn (rel:Nat->Nat->Bool) (p:Array Nat) (m:Nat):Prop:=∀ i j,i<=j->j < m->rel (g p i) (g p j) = false
theorem Up.one (R:Rel rel):Up rel p 1:=fun i j a b=>by
 obtain rfl:i = 0:=by omega
 obtain rfl:j = 0:=by omega
 exact R.irr _
theorem Up.more (R:Rel rel) (h:Up rel p m) (m1:1<=m) (e:rel (g p m) (g p (m - 1)) = false):Up rel p (m + 1):=fun i j a b=>by
 by_cases z:j < m
 · exact h i j a z
 obtain rfl:j = m:=by omega
 by_cases y:i = j
 · rw [y];exact R.irr _
 · exact R.tr _ _ _ (h i _ (by omega) (by omega)) e
theorem Dn.more (R:Rel rel) (h:Dn rel p m) (m1:1<=m) (e:rel (g p (m - 1)) (g p m) = false):Dn rel p (m + 1):=fun i j a b=>by
 by_cases z:j < m
 · exact h i j a z
 obtain rfl:j = m:=by omega
 by_cases y:i = j
 · rw [y];exact R.irr _
 · exact R.tr _ _ _ e (h i _ (by omega) (by omega))
theorem g_rev (hj:j<=p.size) (k:Nat):g (kas_rev p i j) k = if i<=k/\k < j then g p (i + j - 1 - k) else g p k:=by
 have h:=getElem?_mirror_all (i:=i) hj k
 unfold g kas_rev
 rw [Array.getD_eq_getD_getElem?,h]
 split <;> rw [Array.getD_eq_getD_getElem?]
theorem Dn.up (h:Dn rel p m) (hm:m<=p.size):Up rel (kas_rev p 0 m) m:=fun i j a b=>by
 rw [g_rev hm,g_rev hm,if_pos (by omega),if_pos (by omega)]
 exact h _ _ (by omega) (by omega)
theorem Up.dn (h:Up rel p m) (hm:m<=p.size):Dn rel (kas_rev p 0 m) m:=fun i j a b=>by
 rw [g_rev hm,g_rev hm,if_pos (by omega),if_pos (by omega)]
 exact h _ _ (by omega) (by omega)
theorem Dn.rev (h:Dn rel p m) (hm:m<=p.size) (he:∀ i j,a<=i->i < m->a<=j->j < m->rel (g p i) (g p j) = false):Dn rel (kas_rev p a m) m:=fun i j x y=>by
 rw [g_rev hm,g_rev hm]
 split <;> split
 · exact he _ _ (by omega) (by omega) (by omega) (by omega)
 · omega
 · exact h _ _ (by omega) (by omega)
 · exact h _ _ x y
structure Z where
 prog:Program
 w:World
 A:Around
 s:Shared
 κ:SortKind
 it:Array Keyed
abbrev Z.cmp (z:Z):Nat->Nat->(Bool->Shared->Prop)->Shared->Prop:=kas_cmp z.prog z.w z.A z.κ z.it
structure T (z:Z) (t:KasT α) (G:α->Prop):Prop where
 h:KasT.kasWp z.cmp t (fun a s'=>s' = z.s/\G a) z.s
theorem T.ret {a:α} (h:G a):T z (.ret a) G:=⟨⟨rfl,h⟩⟩
theorem T.bind {t:KasT α}{R:β->Prop} (h:T z t G) (k:∀ a,G a->T z (f a) R):T z (t.bind f) R:=⟨by
 rw [KasT.kasWp_bind]
 exact kas_wp_mono h.h fun a s' ⟨e,g⟩=>e▸(k a g).h⟩
structure Ok (z:Z) (rel:Nat->Nat->Bool) (n:Nat):Prop where
 R:Rel rel
 n2:0 < n
 ask:∀ i j (C:Bool->Shared->Prop),i < n->j < n->C (rel i j) z.s->z.cmp i j C z.s
def Ar (n:Nat) (p:Array Nat):Prop:=p.size = n/\p.toList.Perm (List.range n)
theorem Ar.lt (a:Ar n p) (h:0 < n) (k:Nat):g p k < n:=by
 unfold g
 rw [Array.getD_eq_getD_getElem?]
 cases e:p[k]? with
 | none=>exact h
 | some x=>
  have h1:=by
   have e1:p.toList[k]? = some x:=by simp_all
   exact List.mem_of_getElem? e1
  exact List.mem_range.mp (a.2.mem_iff.mp h1)
theorem Ar.rev (a:Ar n p) (i j:Nat):Ar n (kas_rev p i j):=⟨(kas_rev_size i j).trans a.1,(Array.perm_iff_toList_perm.mp (mirror_perm _ _ _ _)).trans a.2⟩
theorem T.ask (O:Ok z rel n) (a:Ar n p) {G:α->Prop} (h:T z (k (rel (g p x) (g p y))) G):T z (.ask (p.getD x 0) (p.getD y 0) k) G:=
 ⟨by exact O.ask _ _ _ (a.lt O.n2 x) (a.lt O.n2 y) h.h⟩
theorem asc_ok (O:Ok z rel n) (a:Ar n p):∀ f m,1<=m->Up rel p m->T z (kas_asc p f m) fun r=>m<=r/\r<=m + f/\Up rel p r/\(r < m + f->rel (g p r) (g p (r - 1)) = true)
 | 0,m,_,u=>by exact T.ret ⟨Nat.le_refl _,Nat.le_refl _,u,fun h=>absurd h (Nat.lt_irrefl _)⟩
 | f + 1,m,m1,u=>by
  refine T.ask O a ?_
  cases e:rel _ _ with
  | true=>exact T.ret ⟨Nat.le_refl _,by omega,u,fun _=>e⟩
  | false=>
   have:=asc_ok O a f _ (by omega) (u.more O.R m1 e)
   exact⟨kas_wp_mono this.h fun r s' ⟨e,h1,h2,h3,h4⟩=>⟨e,by omega,by omega,h3,fun h=>h4 (by omega)⟩⟩
structure Fl (rel:Nat->Nat->Bool) (n:Nat) (p:Array Nat) (m q:Nat):Prop where
 a:Ar n p
 d:Dn rel p m
 l:q + 1<=m
 e:∀ i j,m - (q + 1)<=i->i < m->m - (q + 1)<=j->j < m->rel (g p i) (g p j) = false
theorem Fl.turn (h:Fl rel n p m q) (hm:m<=n):Ar n (kas_rev p (m - (q + 1)) m)/\Dn rel (kas_rev p (m - (q + 1)) m) m:=⟨h.a.rev _ _,h.d.rev (by rw [h.a.1];omega) h.e⟩
theorem desc_ok (O:Ok z rel n):∀ f (p:Array Nat) m q,m + f<=n->Fl rel n p m q->T z (kas_desc f p m q) fun r=>m<=r.2.1/\r.2.1<=m + f/\Fl rel n r.1 r.2.1 r.2.2
 | 0,p,m,q,hm,h=>by rw [kas_desc];exact T.ret ⟨Nat.le_refl _,Nat.le_refl _,h⟩
 | f + 1,p,m,q,hm,h=>by
  rw [kas_desc]
  have m1:1<=m:=by have:=h.l;omega
  have go:∀ (p':Array Nat) q',Fl rel n p' (m + 1) q'->T z (kas_desc f p' (m + 1) q') fun r=>m<=r.2.1/\r.2.1<=m + (f + 1)/\Fl rel n r.1 r.2.1 r.2.2:=fun p' q' h'=>
   ⟨kas_wp_mono (desc_ok O f p' (m + 1) q' (by omega) h').h fun r s' ⟨e,h1,h2,h3⟩=>⟨e,by omega,by omega,h3⟩⟩
  have one:∀ (p':Array Nat),Ar n p'->Dn rel p' (m + 1)->Fl rel n p' (m + 1) 0:=fun p' a d=>⟨a,d,by omega,fun i j h1 h2 h3 h4=>by
   obtain rfl:i = j:=by omega
   exact O.R.irr _⟩
  refine T.ask O h.a ?_
  cases e:rel (g p m) (g p (m - 1)) with
  | true=>
   have ea:=O.R.asy _ _ e
   show T z (if q > 0 then _ else _) _
   split
   · obtain⟨a1,d1⟩:=h.turn (by omega)
     refine go _ 0 (one _ a1 (d1.more O.R m1 ?_))
     have hs:m<=p.size:=by rw [h.a.1];omega
     rw [g_rev hs,g_rev hs,if_pos (by have:=h.l;omega),if_neg (by omega)]
     exact O.R.tr _ _ _ ea (h.d _ _ (by omega) (by have:=h.l;omega))
   · exact go _ 0 (one _ h.a (h.d.more O.R m1 ea))
  | false=>
   refine T.ask O h.a ?_
   cases e2:rel (g p (m - 1)) (g p m) with
   | true=>exact T.ret ⟨Nat.le_refl _,by show m<=_;omega,h⟩
   | false=>
    have d2:=h.d.more O.R m1 e2
    refine go _ (q + 1) ⟨h.a,d2,by have:=h.l;omega,fun i j h1 h2 h3 h4=>?_⟩
    by_cases x:i<=j
    · exact d2 i j x h4
    by_cases y:i < m
    · exact h.e _ _ (by omega) (by omega) (by omega) (by omega)
    obtain rfl:i = m:=by omega
    exact O.R.tr _ _ _ (h.e _ _ (by omega) (by omega) (by have:=h.l;omega) (by omega)) e
theorem tail_ok (O:Ok z rel n) (a:Ar n p) (d:Dn rel p m) (m1:1<=m) (hm:m<=n):T z (kas_tail3 m n p) fun r=>1<=r.1/\r.1<=n/\Ar n r.2/\Up rel r.2 r.1:=by
 exact (asc_ok O (a.rev 0 m) _ m m1 (d.up (by rw [a.1];omega))).bind fun r ⟨h1,h2,h3,_⟩=>T.ret ⟨by grind,by grind,a.rev _ _,h3⟩
theorem part_ok (O:Ok z rel n) (a:Ar n p) (d:Dn rel p (m + 1)) (hm:m + 1<=n):T z (kas_descPart m n p) fun r=>1<=r.1/\r.1<=n/\Ar n r.2/\Up rel r.2 r.1:=by
 refine (desc_ok O _ p (m + 1) 0 (by omega) ⟨a,d,by omega,fun i j h1 h2 h3 h4=>?_⟩).bind fun r ⟨h1,h2,h3⟩=>?_
 · obtain rfl:i = j:=by omega
   exact O.R.irr _
 · split
   · obtain⟨a1,d1⟩:=h3.turn (by omega)
     exact tail_ok O a1 d1 (by omega) (by omega)
   · exact tail_ok O h3.a h3.d (by omega) (by omega)
theorem count_ok (O:Ok z rel n) (a:Ar n p):T z (kas_count n p) fun r=>1<=r.1/\r.1<=n/\Ar n r.2/\Up rel r.2 r.1:=by
 have n2:=O.n2
 refine (asc_ok O a (n - 1) 1 (Nat.le_refl _) (Up.one O.R)).bind fun m ⟨h1,h2,h3,h4⟩=>?_
 split
 · exact T.ret ⟨h1,by omega,a,h3⟩
 · next hn=>
   have hn:m≠n:=by simpa using hn
   have e:=h4 (by omega)
   have ea:=O.R.asy _ _ e
   split
   · refine T.ask O a ?_
     cases e2:rel (g p 0) (g p (m - 1)) with
     | true=>exact T.ret ⟨h1,by omega,a,h3⟩
     | false=>
      have hs:m<=p.size:=by rw [a.1];omega
      refine part_ok O (a.rev 0 m) ((h3.dn hs).more O.R h1 ?_) (by omega)
      rw [g_rev hs,g_rev hs,if_pos (by omega),if_neg (by omega)]
      rw [show 0 + m - 1 - (m - 1) = 0 by omega]
      exact O.R.tr _ _ _ ea e2
   · refine part_ok O a (Dn.more O.R (fun i j x y=>?_) h1 ea) (by omega)
     obtain rfl:i = j:=by omega
     exact O.R.irr _
theorem place_ok (O:Ok z rel n) (a:Ar n p) {k:Nat} (u:Up rel p k):∀ f l r,l<=r->r<=k->r - l<=f->(∀ i,i < l->rel (g p k) (g p i) = false)->(∀ i,r<=i->i < k->rel (g p i) (g p k) = false)->
 T z (kas_place p k f l r) fun x=>x<=k/\(∀ i,i < x->rel (g p k) (g p i) = false)/\∀ i,x<=i->i < k->rel (g p i) (g p k) = false
 | 0,l,r,h1,h2,h3,h4,h5=>by rw [kas_place];exact T.ret ⟨by omega,h4,fun i x y=>h5 i (by omega) y⟩
 | f + 1,l,r,h1,h2,h3,h4,h5=>by
  rw [kas_place]
  split
  · exact T.ret ⟨by omega,h4,fun i x y=>h5 i (by omega) y⟩
  · refine T.ask O a ?_
    cases e:rel (g p k) _ with
    | true=>
     refine place_ok O a u f l ((l + r) / 2) (by omega) (by omega) (by omega) h4 fun i x y=>?_
     exact O.R.tr _ _ _ (O.R.asy _ _ e) (u ((l + r) / 2) i x y)
    | false=>exact place_ok O a u f _ r (by omega) (by omega) (by omega) (fun i x=>O.R.tr _ _ _ (u i ((l + r) / 2) (by omega) (by omega)) e) h5
theorem g_bub (hk:k < p.size) (hd:d<=k) (i:Nat):g (bubble p k d) i = if i = k - d then g p k else if k - d < i/\i<=k then g p (i - 1) else g p i:=by
 have h:=getElem?_bubble hk d hd i
 simp only [g,Array.getD_eq_getD_getElem?,h]
 split <;> (try split) <;> rfl
theorem bin_ok (O:Ok z rel n):∀ f (p:Array Nat) k,k + f = n->Ar n p->Up rel p k->T z (kas_bin f p k) fun p'=>Ar n p'/\Up rel p' n
 | 0,p,k,h,a,u=>by
  rw [kas_bin]
  obtain rfl:k = n:=by omega
  exact T.ret ⟨a,u⟩
 | f + 1,p,k,h,a,u=>by
  rw [kas_bin]
  refine (place_ok O a u k 0 k (Nat.zero_le _) (Nat.le_refl _) (Nat.le_refl _) (fun i h=>nomatch h) fun i x y=>by omega).bind fun l ⟨h1,h2,h3⟩=>?_
  refine bin_ok O f _ (k + 1) (by omega) ⟨(bubble_size _ _ _).trans a.1,(Array.perm_iff_toList_perm.mp (bubble_perm _ _ _)).trans a.2⟩ fun i j x y=>?_
  have hk:k < p.size:=by rw [a.1];omega
  rw [g_bub hk (by omega),g_bub hk (by omega)]
  have e:k - (k - l) = l:=by omega
  rw [e]
  by_cases i1:i = l
  · rw [if_pos i1]
    by_cases j1:j = l
    · rw [if_pos j1];exact O.R.irr _
    grind
  · rw [if_neg i1]
    by_cases j1:j = l
    · rw [if_pos j1,if_neg (by omega)];exact h2 _ (by omega)
    · rw [if_neg j1]
      by_cases i2:l < i
      · rw [if_pos (by omega),if_pos (by omega)];exact u _ _ (by omega) (by omega)
      · rw [if_neg (show ¬(l < i/\i<=k) by omega)]
        by_cases j2:l < j
        · rw [if_pos (by omega)];exact u _ _ (by omega) (by omega)
        · rw [if_neg (by omega)];exact u _ _ x (by omega)
theorem sort_ok (O:Ok z rel n):T z (kas_sort n) fun p=>Ar n p/\Up rel p n:=by
 refine (count_ok O (p:=(List.range n).toArray) ⟨by simp,List.Perm.refl _⟩).bind fun r ⟨h1,h2,h3,h4⟩=>?_
 split
 · rw [show max r.1 1 = r.1 by omega];exact bin_ok O _ _ _ (by omega) h3 h4
 · rw [show r.1 = n by omega] at h4;exact T.ret ⟨h3,h4⟩
end
end Kas
namespace Tim
open PySem PySem.Spec PySem.Calls PyProof.Rows L2 PySem.W
theorem sortShortK {prog:Program}{w:World}{A:Around}{E:Value->Shared->Prop}{s:Shared}{κ:SortKind}{kz:Array Keyed}{lt:Keyed->Keyed->Bool}{Q:Unit->SortSt->Prop} (O:Ord lt) (c:PureLt prog w A s κ kz lt) (k2:2<=kz.size) (k64:kz.size < 64)
 (q:∀ v,failedOf v = none->(arrOf v).toList.Perm kz.toList->(arrOf v).toList.Pairwise (Le lt)->Q () v):wpS (model prog w) A E s sortRuns' Q (SortSt.mk' κ kz #[] 7 none):=by
 have hit:∀ {i:Nat} (h:i < kz.size),kas_item kz i = kz[i]:=fun {i} h=>by
  unfold kas_item
  rw [Array.getD_eq_getD_getElem?,Array.getElem?_eq_getElem h];rfl
 have hkz:(List.range kz.size).map (kas_item kz) = kz.toList:=by
  refine List.ext_getElem (by simp) fun i h1 h2=>?_
  simp at h1
  rw [List.getElem_map,List.getElem_range,hit h1];rfl
 have ok:Kas.Ok ⟨prog,w,A,s,κ,kz⟩ (fun i j=>lt (kas_item kz i) (kas_item kz j)) kz.size:=⟨⟨fun a=>O.irr _,fun a b h=>O.asy _ _ h,fun a b c h1 h2=>O.tr _ _ _ h1 h2⟩,by omega,fun i j C hi hj h=>by
  have mem:∀ {i:Nat} (h:i < kz.size),kas_item kz i∈kz.toList:=fun h=>by rw [hit h];simp
  exact c _ _ (mem hi) (mem hj) _ _ h⟩
 have st:SortSt.mk' κ kz #[] 7 none = kas_st κ kz (List.range kz.size).toArray:=by
  unfold kas_st
  have:Array.map (kas_item kz) (List.range kz.size).toArray = kz:=by
   apply Array.toList_inj.mp
   rw [Array.toList_map];exact hkz
  rw [this]
 rw [st]
 refine kas_runs (Q:=fun r v s'=>s' = s/\Q r v) k2 k64 (fun p st' s' hp ha hf ⟨e,h1,h2⟩=>⟨e,q st' hf ?_ ?_⟩) (Kas.sort_ok ok).h
 · rw [ha,Array.toList_map,<- hkz];exact h1.2.map _
 · rw [ha,Array.toList_map,List.pairwise_map]
   refine List.pairwise_iff_getElem.mpr fun i j hi hj hij=>?_
   have hj':j < p.size:=by simpa using hj
   have:=h2 i j (by omega) (by rw [<- h1.1];exact hj')
   unfold Kas.g at this
   rw [Array.getD_eq_getD_getElem?,Array.getD_eq_getD_getElem?,Array.getElem?_eq_getElem hj',Array.getElem?_eq_getElem (show i < p.size by omega)] at this
   exact this
end Tim
namespace Tim
open PySem PySem.Spec PySem.Calls PyProof.Rows L2
end Tim
open PySem PySem.Spec PySem.Calls PyProof.Rows L2
section
theorem sorted_gen2S {α:Type}{p:Addr}{f:α->V}{g:α->Value}{pins:List (Addr×Obj)}{s:Shared}{σ:L2.St}{Q:VK} (F:Shared->Hp->List α->Prop) (lt:Hp->Keyed->Keyed->Bool) (O:∀ H,Tim.Ord (lt H))
 (col:∀ (R:List Value->Shared->Prop) (E:Value->Shared->Prop),(∀ (s1:Shared) (H1:Hp) (zs:List α),Inv X pins σ H1 s1->F s1 H1 zs->R (zs.map g) s1)->wpAny (model X.prog X.w) X.A.in1 (collect (.ref p)) R E s)
 (each:∀ s1 H1 zs,F s1 H1 zs->(∀ z∈zs,RelV (f z) (g z))/\zs.length < 64)
 (hk:∀ s1 H1 zs,Inv X pins σ H1 s1->F s1 H1 zs->2<=zs.length->∀ h6:Heap,(∀ b o,H1 b≠none->s1.heap.get? b = some o->h6.get? b = some o)->
  ∃ κ,(∀ Q:SortKind->Shared->Prop,∀ E,Q κ { s1 with heap:=h6 }->wpAny (model X.prog X.w) X.A.in1.in1 (keyKind' (zs.map g).toArray) Q E { s1 with heap:=h6 })/\PureLt X.prog X.w X.A.in1.in1 { s1 with heap:=h6 } κ (pairsOf (zs.map g)) (lt H1))
 (q:∀ s1 H1 zs,F s1 H1 zs->∀ (l:Addr) (ys:List α) (H':Hp),H1 l = none->L2.Same H1 H'->H' l = some (.lst (ys.map f))->ys.Perm zs->(ys.map fun z=>((g z,g z):Keyed)).Pairwise (Tim.Le (lt H1))->Q (.ref l) H'):
 wpAny (model X.prog X.w) X.A (call (.builtin "sorted") [.ref p]) (EP X pins σ Q) X.xe s:=by
 have hsz:(sizeLine:Nat) = 16777216:=sizeLine_eq
 refine Calls.call_function_entry kind_sorted plain_sorted entry_sorted (args_sorted1 _) ?_
 unfold Builtin.«sorted»
 refine wpAny_bind (m:=checkCount "sorted" 1 1 _) (wpAny_pure ?_)
 refine wpAny_bind (col _ _ fun s1 H zs I1 hF=>?_)
 obtain⟨each,hzz⟩:=each s1 H zs hF
 have hk:=hk s1 H zs I1 hF
 have q:=q s1 H zs hF
 clear hF
 obtain⟨h',gs,dr,tk,os⟩:=s1
 refine wpAny_bind (wpAny_newList ?_ (by rw [List.length_map];omega))
 have hoL:(h'.push (seqObj "list" (zs.map g).toArray 0)).get? h'.objs.size = some (seqObj "list" (zs.map g).toArray 0):=Heap.get?_push_size _ rfl
 have hfr:H h'.objs.size = none:=I1.hok.fresh (Nat.le_refl _)
 refine wpAny_bind (wpAny_holding (wpAny_call_entry slot_list_sort ⟨_,hoL,rfl⟩ entry_list_sort (sort_any (R:=fun out=>∃ ys:List α,out = (ys.map g).toArray/\ys.Perm zs/\(ys.map fun z=>((g z,g z):Keyed)).Pairwise (Tim.Le (lt H))) hoL (by rw [List.length_map];omega) (fun h1=>⟨zs,rfl,List.Perm.refl _,?_⟩) (fun h2 h6 old=>?_) fun out ho ⟨ys,hR,hp,hs⟩=>⟨_,rfl,?_⟩) (args_list_sort _)))
 · rw [List.length_map] at h1
   match zs,h1 with
   | [],_=>exact List.Pairwise.nil
   | [_],_=>exact List.pairwise_singleton _ _
   | _ :: _ :: _,h=>simp at h;omega
 · rw [List.length_map] at h2
   obtain⟨κ,k1,k2⟩:=hk h2 h6 fun b o hb e=>old b o (fun z=>hb (by rw [z];exact hfr)) (Heap.get?_push_of_some _ e)
   refine k1 _ _ ⟨rfl,?_⟩
   refine Tim.sortShortK (O H) k2 (by rw [<- Array.length_toList,pairs_map,List.length_map];omega) (by rw [<- Array.length_toList,pairs_map,List.length_map];omega) fun v e1 e2 e3=>⟨e1,?_,?_⟩
   · have:=e2.length_eq
     rw [Array.length_toList,pairsOf_toList,List.length_zip] at this
     omega
   · have e:=pairs_map g zs
     rw [e] at e2
     obtain⟨ys,h3,h4⟩:=perm_lift (fun z=>((g z,g z):Keyed)) e2 rfl
     refine⟨ys,?_,h3,by rw [h4];exact e3⟩
     apply Array.toList_inj.mp
     rw [Array.toList_map,<- h4,List.map_map];simp
 · refine wpAny_pure ⟨_,rfl,?_⟩
   subst hR
   obtain⟨n',e'⟩:∃ n',(sortedHeap (h'.push (seqObj "list" (zs.map g).toArray 0)) h'.objs.size (zs.map g) (ys.map g).toArray).get? h'.objs.size = some (seqObj "list" (ys.map g).toArray n'):=sortedHeap_at hoL
   have keep:∀ b o,h'.get? b = some o->(sortedHeap (h'.push (seqObj "list" (zs.map g).toArray 0)) h'.objs.size (zs.map g) (ys.map g).toArray).get? b = some o:=fun b o e=>by
    have hb:=Heap.lt_size e
    rw [sortedHeap_old (Nat.ne_of_lt hb) (by rw [Heap.size_push];exact Nat.lt_succ_of_lt hb)]
    exact Heap.get?_push_of_some _ e
   have vals:∀ {l:List α},(∀ z∈l,RelV (f z) (g z))->Vals (l.map f) (l.map g):=fun {l}=>by
    induction l with
    | nil=>exact fun _=>.nil
    | cons a l ih=>exact fun h=>.cons (h a (.head _)) (ih fun z hz=>h z (.tail _ hz))
   have I2:Inv X pins σ (upd H h'.objs.size (.lst (ys.map f))) ⟨sortedHeap (h'.push (seqObj "list" (zs.map g).toArray 0)) h'.objs.size (zs.map g) (ys.map g).toArray,gs,dr,tk,os⟩:=
    I1.laid (t':=tk) keep (Nat.le_refl _) (show ObjOk X.prog X.w _ _ _ (.lst (ys.map f)) from ⟨by rw [List.length_map,hp.length_eq];omega,ys.map g,n',vals fun z hz=>each z (hp.mem_iff.mp hz),e'⟩)
   exact⟨.ref h'.objs.size,_,I2,rfl,q _ ys _ hfr (Br.Same.upd hfr) upd_same hp hs⟩
theorem sorted_genS {α:Type}{p:Addr}{zs:List α}{f:α->V}{g:α->Value}{pins:List (Addr×Obj)}{s:Shared}{σ:L2.St}{H:Hp}{Q:VK} (lt:Keyed->Keyed->Bool) (O:Tim.Ord lt) (I:Inv X pins σ H s) (each:∀ z∈zs,RelV (f z) (g z))
 (hob:∃ (o:Obj) (T:String) (cn:Nat),(T = "list"\/T = "tuple")/\s.heap.get? p = some o/\o.cls = .type T/\o.data = .seq (zs.map g).toArray cn/\zs.length < 64)
 (hk:2<=zs.length->∀ h6:Heap,(∀ b o,H b≠none->s.heap.get? b = some o->h6.get? b = some o)->∃ κ,(∀ Q:SortKind->Shared->Prop,∀ E,Q κ { s with heap:=h6 }->wpAny (model X.prog X.w) X.A.in1.in1 (keyKind' (zs.map g).toArray) Q E { s with heap:=h6 })/\PureLt X.prog X.w X.A.in1.in1 { s with heap:=h6 } κ (pairsOf (zs.map g)) lt)
 (q:∀ (l:Addr) (ys:List α) (H':Hp),H l = none->L2.Same H H'->H' l = some (.lst (ys.map f))->ys.Perm zs->(ys.map fun z=>((g z,g z):Keyed)).Pairwise (Tim.Le lt)->Q (.ref l) H'):
 wpAny (model X.prog X.w) X.A (call (.builtin "sorted") [.ref p]) (EP X pins σ Q) X.xe s:=by
 have hsz:=sizeLine_eq
 obtain⟨o,T,cn,hT,ho,hcl,hdt,hzz⟩:=hob
 refine sorted_gen2S (f:=f) (g:=g) (fun s1 H1 ws=>H1 = H/\ws = zs/\∃ h',s1 = { s with heap:=h' }/\∀ b o,s.heap.get? b = some o->h'.get? b = some o) (fun _=>lt) (fun _=>O) (fun R E r=>?_) (fun s1 H1 ws ⟨_,e,_⟩=>?_) (fun s1 H1 ws _ ⟨e1,e2,h',e3,kp⟩ h2 h6 old=>?_) fun s1 H1 ws ⟨e1,e2,_⟩=>?_
 · have eI:((zs.map g).toArray).toList = zs.map g:=by simp
   refine wpAny_collect_seq p hT ho hcl hdt (fun h' hk'=>?_) (by grind)
   rw [eI]
   exact r { s with heap:=h' } H zs (I.kept (t':=s.toks) hk') ⟨rfl,rfl,h',rfl,hk'⟩
 · subst e;exact⟨each,hzz⟩
 · subst e1;subst e2;subst e3
   exact hk h2 h6 fun b o hb e=>old b o hb (kp b o e)
 · subst e1;subst e2;exact q
end
end Br
namespace Br
namespace ZG
open PySem PySem.Spec PySem.Calls PyProof.Rows L2
def SI:Bool->Heap->Addr->Addr->Nat->Prop
 | true,h,c,d,k=>h.IsTupleIter c d k
 | false,h,c,d,k=>h.IsListIter c d k
def SS:Bool->Heap->Addr->Array Value->Prop
 | true,h,d,xs=>h.IsTuple d xs
 | false,h,d,xs=>h.IsList d xs
def SqS:Bool->PySem.W.Frag->Hp->Addr->List V->Prop
 | true,K,H,a,xs=>SqT K H a xs
 | false,K,H,a,xs=>SqL K H a xs
abbrev itn (f:Bool):String:=if f = true then "tuple_iterator" else "list_iterator"
theorem SI.at (i:SI f h c d k) (q:∀ ob,h.get? c = some ob->h'.get? c = some ob):SI f h' c d k:=by
 cases f with
 | true=>exact Heap.IsTupleIter.at i q
 | false=>exact Heap.IsListIter.at i q
theorem SS.at (i:SS f h d xs) (q:∀ ob,h.get? d = some ob->h'.get? d = some ob):SS f h' d xs:=by
 cases f with
 | true=>obtain⟨ob,a,b⟩:=i;exact⟨ob,q _ a,b⟩
 | false=>obtain⟨ob,a,b⟩:=i;exact⟨ob,q _ a,b⟩
theorem SI.ob (i:SI f h c d k):∃ ob,h.get? c = some ob/\ob.data = .fields #[.ref d,rawInt k]:=by
 cases f with
 | true=>obtain⟨ob,a,_,b⟩:=i;exact⟨ob,a,b⟩
 | false=>obtain⟨ob,a,_,b⟩:=i;exact⟨ob,a,b⟩
theorem SI.new (e:h.get? c = some { cls:=.type (itn f),data:=.fields #[.ref d,.int 0 0] }):SI f h c d 0:=by
 cases f with
 | true=>exact⟨_,e,rfl,rfl⟩
 | false=>exact⟨_,e,rfl,rfl⟩
section
variable {s:Shared}
theorem gnext (hI:SI f s.heap c d k) (hT:SS f s.heap d zs) (hv:zs[k]? = some v)
 (go:∀ g,SI f g c d (k + 1)->Heap.SameBut c s.heap g->Q v { s with heap:=g }):wpAny (model prog w) A (Builtin.SmallTypes.nextOf (.ref c)) Q E s:=by
 cases f with
 | true=>exact Br.tnext hI hT hv go
 | false=>exact ZL.tnext hI hT hv go
theorem gnone (hh:A.handled = none) (hI:SI f s.heap c d k) (hT:SS f s.heap d zs) (hv:zs[k]? = none)
 (go:∀ g e,Heap.ExtBut c s.heap g->(∃ o,g.get? e = some o/\o.cls = .type "StopIteration")->E (.ref e) { s with heap:=g }):wpAny (model prog w) A (Builtin.SmallTypes.nextOf (.ref c)) Q E s:=by
 cases f with
 | true=>exact Br.tnone hh hI hT hv go
 | false=>exact ZL.tnone hh hI hT hv go
theorem giter (hT:SS f s.heap d zs) (h:Q (.ref s.heap.objs.size) { s with heap:=s.heap.push { cls:=.type (itn f),data:=.fields #[.ref d,.int 0 0] } }):wpAny (model prog w) A (pyIter (.ref d)) Q E s:=by
 cases f with
 | true=>exact wpAny_pyIter_tuple hT h
 | false=>exact wpAny_pyIter_list hT h
structure Zp (f1 f2:Bool) (h:Heap) (z u o c1 c2 d e:Addr) (xs ys:Array Value) (k:Nat):Prop where
 zip:IsZip h z u o .none
 its:IsPair h u (.ref c1) (.ref c2)
 own:∃ a b,IsPair h o a b
 i1:SI f1 h c1 d k
 i2:SI f2 h c2 e k
 t1:SS f1 h d xs
 t2:SS f2 h e ys
theorem zitem {Q:Value->Shared->Prop} (P:Ap z u o c1 c2 d e) (Z:Zp f1 f2 s.heap z u o c1 c2 d e xs ys k) (hx:xs[k]? = some x) (hy:ys[k]? = some y)
 (go:∀ g,IsZip g z u o (rawInt s.heap.objs.size)->IsPair g o x y->SI f1 g c1 d (k + 1)->SI f2 g c2 e (k + 1)->IsPair g s.heap.objs.size x y->g.objs.size = s.heap.objs.size + 1->
  (∀ b ob,b≠z->b≠o->b≠c1->b≠c2->s.heap.get? b = some ob->g.get? b = some ob)->Q (.ref s.heap.objs.size) { s with heap:=g }):
 wpAny (model prog w) A (Builtin.«zip.__next__» ⟨[.ref z],[]⟩) (fun fin s'=>∃ v,fin = .done (.ret v)/\Q v s') E s:=by
 obtain⟨n1,n2,n3,n4,n5,n6,n7,n8,n9,n10⟩:=P.all
 obtain⟨dz,ez⟩:=P.nd z (by simp)
 obtain⟨do',eo⟩:=P.nd o (by simp)
 obtain⟨dc1,ec1⟩:=P.nd c1 (by simp)
 exact zdraw P.ne Z.zip Z.its Z.own
  (fun g q _ _ r=>gnext (Z.i1.at fun ob a=>q.extBut _ ob (Ne.symm n3) a) (Z.t1.at fun ob a=>q.extBut _ _ dz a) hx r)
  (fun g q _ _ r=>gnext (Z.i2.at fun ob a=>q _ ob (Ne.symm n4) (Ne.symm n10) (Ne.symm n9) a) (Z.t2.at fun ob a=>q _ _ ez ec1 eo a) hy r)
  (fun _ _ j q=>j.at q) (fun _ _ j q=>j.at q) go
theorem znone (hh:A.handled = none) (P:Ap z u o c1 c2 d e) (Z:Zp f1 f2 s.heap z u o c1 c2 d e xs ys k) (hv:xs[k]? = none\/ys[k]? = none)
 (go:∀ g x,(∀ b ob,b≠z->b≠o->b≠c1->b≠c2->s.heap.get? b = some ob->g.get? b = some ob)->(∃ ob,g.get? x = some ob/\ob.cls = .type "StopIteration")->E (.ref x) { s with heap:=g }):
 wpAny (model prog w) A (Builtin.«zip.__next__» ⟨[.ref z],[]⟩) Q E s:=by
 obtain⟨n1,n2,n3,n4,n5,n6,n7,n8,n9,n10⟩:=P.all
 obtain⟨dz,ez⟩:=P.nd z (by simp)
 obtain⟨do',eo⟩:=P.nd o (by simp)
 obtain⟨dc1,ec1⟩:=P.nd c1 (by simp)
 cases hx:xs[k]? with
 | none=>
  exact zdrawNo P.ne Z.zip Z.its Z.own (.inl fun g q _ _ r=>gnone hh (Z.i1.at fun ob a=>q.extBut _ ob (Ne.symm n3) a) (Z.t1.at fun ob a=>q.extBut _ _ dz a) hx r) go
 | some x1=>
  have hy:=hv.resolve_left (by grind)
  exact zdrawNo P.ne Z.zip Z.its Z.own (.inr ⟨x1,fun g q _ _ r=>gnext (Z.i1.at fun ob a=>q.extBut _ ob (Ne.symm n3) a) (Z.t1.at fun ob a=>q.extBut _ _ dz a) hx fun g' _ e=>r g' e,
   fun g q _ _ r=>gnone hh (Z.i2.at fun ob a=>q _ ob (Ne.symm n4) (Ne.symm n10) (Ne.symm n9) a) (Z.t2.at fun ob a=>q _ _ ez ec1 eo a) hy r⟩) go
theorem znext (P:Ap z u o c1 c2 d e) (Z:Zp f1 f2 s.heap z u o c1 c2 d e xs ys k) (hx:xs[k]? = some x) (hy:ys[k]? = some y)
 (go:∀ g,IsZip g z u o (rawInt s.heap.objs.size)->IsPair g o x y->SI f1 g c1 d (k + 1)->SI f2 g c2 e (k + 1)->IsPair g s.heap.objs.size x y->g.objs.size = s.heap.objs.size + 1->
  (∀ b ob,b≠z->b≠o->b≠c1->b≠c2->s.heap.get? b = some ob->g.get? b = some ob)->Q (some (.ref s.heap.objs.size)) { s with heap:=g }):wpAny (model prog w) A (pyNext (.ref z)) Q E s:=by
 have hT:s.TypeIs (.ref z) "zip":=⟨_,Z.zip,rfl⟩
 exact wpAny_bind (wpAny_attempt (wpAny_callSpecial?_slot hT F.slot_zip_next (wpAny_call_entry F.slot_zip_next hT F.entry_zip_next (zitem P Z hx hy fun g a1 a2 a3 a4 a5 a6 a7=>wpAny_pure (go g a1 a2 a3 a4 a5 a6 a7)) (F.args_zip_next_1 _))))
theorem zstop (hh:A.handled = none) (P:Ap z u o c1 c2 d e) (Z:Zp f1 f2 s.heap z u o c1 c2 d e xs ys k) (hv:xs[k]? = none\/ys[k]? = none)
 (go:∀ g,(∀ b ob,b≠z->b≠o->b≠c1->b≠c2->s.heap.get? b = some ob->g.get? b = some ob)->Q none { s with heap:=g }):wpAny (model prog w) A (pyNext (.ref z)) Q E s:=by
 have hT:s.TypeIs (.ref z) "zip":=⟨_,Z.zip,rfl⟩
 refine wpAny_bind (wpAny_attempt (wpAny_callSpecial?_slot hT F.slot_zip_next (wpAny_call_entry F.slot_zip_next hT F.entry_zip_next (znone hh P Z hv fun g x hk he=>?_) (F.args_zip_next_1 _))))
 obtain⟨ob,hob,hcb⟩:=he
 exact wpAny_bind (wpAny_isInstance ⟨ob,hob,hcb⟩ isSubtype_stop (wpAny_pure (go _ hk)))
abbrev zh1 (f1:Bool) (h:Heap) (d:Addr):Heap:=h.push { cls:=.type (itn f1),data:=.fields #[.ref d,.int 0 0] }
abbrev zh2 (f1 f2:Bool) (h:Heap) (d e:Addr):Heap:=(zh1 f1 h d).push { cls:=.type (itn f2),data:=.fields #[.ref e,.int 0 0] }
abbrev zh3 (f1 f2:Bool) (h:Heap) (d e:Addr):Heap:=(zh2 f1 f2 h d e).push { cls:=.type "tuple",data:=.seq #[.ref h.objs.size,.ref (zh1 f1 h d).objs.size] }
abbrev zh4 (f1 f2:Bool) (h:Heap) (d e:Addr):Heap:=(zh3 f1 f2 h d e).push { cls:=.type "tuple",data:=.seq #[.none,.none] }
abbrev zh5 (f1 f2:Bool) (h:Heap) (d e:Addr):Heap:=(zh4 f1 f2 h d e).push { cls:=.type "zip",data:=.fields #[.none,.bool false,.bool false,.ref (zh2 f1 f2 h d e).objs.size,.ref (zh3 f1 f2 h d e).objs.size] }
theorem zmeets (f1 f2:Bool) (d e:Addr) (xs ys:Array Value):Meets (Builtin.«zip.__new__» ⟨[.type "zip",.ref d,.ref e],[]⟩) (fun _ R s=>SS f1 s.heap d xs/\SS f2 s.heap e ys/\R (.ok (.ret (.ref (zh4 f1 f2 s.heap d e).objs.size))) { s with heap:=zh5 f1 f2 s.heap d e }):=
 .of_wp fun prog w A R s h=>by
  obtain⟨hp,g,dr,tk,os⟩:=s
  obtain⟨h1,h2,h⟩:=h
  have hsub:=sub_zip
  have q1:SS f1 (Shared.heap ⟨hp,g,dr,tk,os⟩) d xs:=h1
  have q2:SS f2 (Shared.heap ⟨hp.push { cls:=.type (itn f1),data:=.fields #[.ref d,.int 0 0] },g,dr,tk,os⟩) e ys:=h2.at fun ob q=>Heap.get?_push_of_some _ q
  wp_walk using giter q1,giter q2
  exact⟨_,rfl,h⟩
theorem zmake (h1:SS f1 s.heap d xs) (h2:SS f2 s.heap e ys)
 (go:∀ g,Zp f1 f2 g (s.heap.objs.size + 4) (s.heap.objs.size + 2) (s.heap.objs.size + 3) s.heap.objs.size (s.heap.objs.size + 1) d e xs ys 0->(∀ b ob,s.heap.get? b = some ob->g.get? b = some ob)->Q (.ref (s.heap.objs.size + 4)) { s with heap:=g }):
 wpAny (model prog w) A (call (.type "zip") [.ref d,.ref e]) Q E s:=by
 refine callType_new F.called_zip (by decide) (F.typeCall_zip_2 _ _) (F.newCall_zip_2 _ _) (fun obj=>F.args_object_init_3 obj _ _) F.entry_zip_new (zmeets f1 f2 d e xs ys) ⟨h1,h2,?_⟩
 have s1:(zh1 f1 s.heap d).objs.size = s.heap.objs.size + 1:=Heap.size_push ..
 have s2:(zh2 f1 f2 s.heap d e).objs.size = s.heap.objs.size + 2:=by rw [Heap.size_push,s1]
 have s3:(zh3 f1 f2 s.heap d e).objs.size = s.heap.objs.size + 3:=by rw [Heap.size_push,s2]
 have s4:(zh4 f1 f2 s.heap d e).objs.size = s.heap.objs.size + 4:=by rw [Heap.size_push,s3]
 have g5:(zh5 f1 f2 s.heap d e).get? (zh4 f1 f2 s.heap d e).objs.size = some _:=Heap.get?_push_size _ rfl
 have g4:(zh5 f1 f2 s.heap d e).get? (zh3 f1 f2 s.heap d e).objs.size = some _:=Heap.get?_push_of_some _ (Heap.get?_push_size _ rfl)
 have g3:(zh5 f1 f2 s.heap d e).get? (zh2 f1 f2 s.heap d e).objs.size = some _:=Heap.get?_push_of_some _ (Heap.get?_push_of_some _ (Heap.get?_push_size _ rfl))
 have g2:(zh5 f1 f2 s.heap d e).get? (zh1 f1 s.heap d).objs.size = some _:=Heap.get?_push_of_some _ (Heap.get?_push_of_some _ (Heap.get?_push_of_some _ (Heap.get?_push_size _ rfl)))
 have g1:(zh5 f1 f2 s.heap d e).get? s.heap.objs.size = some _:=Heap.get?_push_of_some _ (Heap.get?_push_of_some _ (Heap.get?_push_of_some _ (Heap.get?_push_of_some _ (Heap.get?_push_size _ rfl))))
 have old:∀ b ob,s.heap.get? b = some ob->(zh5 f1 f2 s.heap d e).get? b = some ob:=fun b ob q=>Heap.get?_push_of_some _ (Heap.get?_push_of_some _ (Heap.get?_push_of_some _ (Heap.get?_push_of_some _ (Heap.get?_push_of_some _ q))))
 rw [s4] at g5
 rw [s3] at g4
 rw [s2] at g3
 rw [s1] at g2
 rw [s1] at g3
 rw [s2,s3] at g5
 have gz:=go (zh5 f1 f2 s.heap d e) ⟨g5,g3,⟨_,_,g4⟩,SI.new g1,SI.new g2,h1.at fun ob q=>old _ _ q,h2.at fun ob q=>old _ _ q⟩ old
 rw [s4]
 exact⟨⟨_,g5,rfl⟩,gz⟩
end
section
variable {σ:L2.St}
theorem inv_seq (I:Inv X pins σ H s) (h:SqS f X.K H a xs):∃ its:List Value,Vals xs its/\SS f s.heap a its.toArray:=by
 cases f with
 | true=>obtain⟨t,r,p,_⟩:=I.tuple h;exact⟨t,r,p⟩
 | false=>obtain⟨t,r,p,_⟩:=I.list h;exact⟨t,r,p.isList⟩
theorem sqS_apart (I:Inv X pins σ H s) (h:SqS f X.K H d xs) (q:FpOk X pins H b):d≠b:=by
 cases f with
 | true=>exact sqT_apart I h q
 | false=>exact ZL.sqL_apart I h q
theorem sqS_inj (I:Inv X pins σ H s) (h:SqS f X.K H a xs) (q:SqS f X.K H a ys):xs = ys:=by
 cases f with
 | true=>exact I.tuple_inj h q
 | false=>exact I.list_inj h q
end
def Itz (f1 f2:Bool) (K:PySem.W.Frag) (a b:Addr):It:=
 ⟨fun i H=>∃ xs ys x y,SqS f1 K H a xs/\SqS f2 K H b ys/\xs[i]? = some x/\ys[i]? = some y,
  fun i H v H'=>∃ (x y:V) (T:Addr),v = .ref T/\H T = none/\H' = upd H T (.tup [x,y])/\∀ xs ys,SqS f1 K H a xs->SqS f2 K H b ys->xs[i]? = some x/\ys[i]? = some y,
  fun i H=>∃ xs ys,SqS f1 K H a xs/\SqS f2 K H b ys/\(xs.length<=i\/ys.length<=i)⟩
theorem turn_zip {f1 f2:Bool}{P:Program}{w:World}{K:PySem.W.Frag}{es:List Expr}{kt:Nat}{pt:Pos}{z u o c1 c2 a b:Addr} (ne:[z,u,o,c1,c2].Nodup):
 Turn P w K (.Tuple es kt pt) (Itz f1 f2 K a b) [z,u,o,c1,c2] z (fun i h=>IsZip h z u o .none/\IsPair h u (.ref c1) (.ref c2)/\(∃ x y,IsPair h o x y)/\SI f1 h c1 a i/\SI f2 h c2 b i) where
 mem:=by simp
 obj:=fun i h st c hc=>by
  obtain⟨h1,h2,⟨x,y,h3⟩,h4,h5⟩:=st
  obtain⟨o4,h4,d4⟩:=h4.ob
  obtain⟨o5,h5,d5⟩:=h5.ob
  simp only [List.mem_cons,List.mem_nil_iff,or_false] at hc
  rcases hc with rfl | rfl | rfl | rfl | rfl
  · exact⟨_,h1,fun v q=>by cases q⟩
  · exact⟨_,h2,fun v q=>by cases q⟩
  · exact⟨_,h3,fun v q=>by cases q⟩
  · exact⟨_,h4,fun v q=>by rw [d4] at q;cases q⟩
  · exact⟨_,h5,fun v q=>by rw [d5] at q;cases q⟩
 keep:=fun i h h' st k=>by
  obtain⟨h1,h2,⟨x,y,h3⟩,h4,h5⟩:=st
  exact⟨k _ (by simp) _ h1,k _ (by simp) _ h2,⟨x,y,k _ (by simp) _ h3⟩,h4.at fun ob q=>k _ (by simp) ob q,h5.at fun ob q=>k _ (by simp) ob q⟩
 item:=by
  intro X hP hw hK hc i pins s σ H E I hf st hg
  subst hP hw hK
  obtain⟨h1,h2,h3,h4,h5⟩:=st
  obtain⟨xs,ys,x,y,q1,q2,hx,hy⟩:=hg
  obtain⟨t1,r1,p1⟩:=inv_seq I q1
  obtain⟨t2,r2,p2⟩:=inv_seq I q2
  obtain⟨x',hx',rx⟩:=r1.get hx
  obtain⟨y',hy',ry⟩:=r2.get hy
  have ap:Ap z u o c1 c2 a b:=⟨ne,fun c hc=>⟨sqS_apart I q1 (hf c hc),sqS_apart I q2 (hf c hc)⟩⟩
  obtain⟨n1,n2,n3,n4,n5,n6,n7,n8,n9,n10⟩:=ap.all
  refine znext ap ⟨h1,h2,h3,h4,h5,p1,p2⟩ (x:=x') (y:=y') (by simpa using hx') (by simpa using hy') fun g z1 o1 i1 i2 T1 sz kp=>?_
  refine⟨_,rfl,wpAny_letOwnedTupleGo_zip z1 fun g' z2 k2=>?_⟩
  have hfr:H s.heap.objs.size = none:=I.hok.fresh (Nat.le_refl _)
  have lt:∀ c∈[z,u,o,c1,c2],c < s.heap.objs.size:=fun c hc=>by
   simp only [List.mem_cons,List.mem_nil_iff,or_false] at hc
   rcases hc with rfl | rfl | rfl | rfl | rfl
   · exact Heap.lt_size h1
   · exact Heap.lt_size h2
   · obtain⟨_,_,h3⟩:=h3;exact Heap.lt_size h3
   · obtain⟨_,h4,_⟩:=h4.ob;exact Heap.lt_size h4
   · obtain⟨_,h5,_⟩:=h5.ob;exact Heap.lt_size h5
  have all:∀ c ob,c∉[z,u,o,c1,c2]->s.heap.get? c = some ob->g'.get? c = some ob:=fun c ob hc q=>by
   simp only [List.mem_cons,List.mem_nil_iff,or_false,not_or] at hc
   exact k2.extBut _ _ hc.1 (kp c ob hc.1 hc.2.2.1 hc.2.2.2.1 hc.2.2.2.2 q)
  have zl:z < s.heap.objs.size:=lt z (by simp)
  have u':IsPair g' u (.ref c1) (.ref c2):=k2.extBut _ _ (Ne.symm n1) (kp _ _ (Ne.symm n1) n5 n6 n7 h2)
  have o':IsPair g' o x' y':=k2.extBut _ _ (Ne.symm n2) o1
  have i1':=i1.at fun ob q=>k2.extBut _ ob (Ne.symm n3) q
  have i2':=i2.at fun ob q=>k2.extBut _ ob (Ne.symm n4) q
  have T':IsPair g' s.heap.objs.size x' y':=k2.extBut _ _ (Nat.ne_of_gt zl) T1
  have trk:∀ c v,H c = some v->c∉[z,u,o,c1,c2]:=fun c v q hc=>by rw [(hf c hc).1] at q;cases q
  have I1:Inv X pins σ (upd H s.heap.objs.size (.tup [x,y])) { s with heap:=g' }:=by
   refine I.step (g':=s.gens) (d':=s.drawn) (t':=s.toks) (ch:=[z,u,o,c1,c2]) (fun c hc=>?_) (fun c ob _ _ hc q _=>all c ob hc q) (fun c ob _ _ hc q _=>⟨ob.slots,all c ob hc q⟩) (fun c ob hc q n=>?_) (fun c ob hc q=>⟨ob,all c ob hc q⟩)
    (fun c v q=>?_) (fun c v v' q=>?_) (fun c v q=>⟨#[],?_⟩) (fun m hm=>?_) (fun c v q=>?_) I.bare
   · obtain⟨f0,f1,f2,f3,f4,f5⟩:=hf c hc
     exact⟨f3,f1,f4,f5⟩
   · rw [upd_ne (Nat.ne_of_lt (Heap.lt_size q))];exact n
   · rw [upd_ne (ne_of_none q hfr)];exact q
   · rw [upd_ne (ne_of_none q hfr)];exact q
   · rw [upd_ne (ne_of_none q hfr),q];simp
   · obtain⟨ob,es,ep,ho,r⟩:=hm
     exact⟨ob,es,ep,all _ ob (fun hc=>(hf _ hc).2.1 rfl) ho,r⟩
   · by_cases hcT:c = s.heap.objs.size
     · subst hcT
       rw [upd_same] at q;cases q
       exact⟨by show 2<=sizeLine;decide,[x',y'],.cons rx (.cons ry .nil),⟨_,T',rfl,rfl,_,rfl⟩⟩
     · rw [upd_ne hcT] at q
       refine (I.hok c v q).stay (fun c' ob hc' q'=>all c' ob ?_ q') (fun c' q'=>by rw [upd_ne (ne_of_none q' hfr)];exact q') fun c' vs q'=>by rw [upd_ne (ne_of_none q' hfr)];exact q'
       rcases hc' with e | e
       · rw [e];exact trk c v q
       · exact trk c' _ e
  refine⟨.ref s.heap.objs.size,_,I1,rfl,⟨x,y,_,rfl,hfr,rfl,fun xs' ys' e1 e2=>?_⟩,⟨z2,u',⟨_,_,o'⟩,i1',i2'⟩,fun c hc=>?_⟩
  · rw [sqS_inj I e1 q1,sqS_inj I e2 q2];exact⟨hx,hy⟩
  · rw [upd_ne (Nat.ne_of_lt (lt c hc))];exact (hf c hc).1
 done:=by
  intro X hP hw hK hc i pins s σ H E I hf st hg
  subst hP hw hK
  obtain⟨h1,h2,h3,h4,h5⟩:=st
  obtain⟨xs,ys,q1,q2,hend⟩:=hg
  obtain⟨t1,r1,p1⟩:=inv_seq I q1
  obtain⟨t2,r2,p2⟩:=inv_seq I q2
  have ap:Ap z u o c1 c2 a b:=⟨ne,fun c hc=>⟨sqS_apart I q1 (hf c hc),sqS_apart I q2 (hf c hc)⟩⟩
  have e1:=r1.length
  have e2:=r2.length
  refine zstop (I.ok.hd hc) ap ⟨h1,h2,h3,h4,h5,p1,p2⟩ (by
   rcases hend with q | q
   · exact .inl (by simp;omega)
   · exact .inr (by simp;omega)) fun g kp=>⟨rfl,?_⟩
  have all:∀ c ob,c∉[z,u,o,c1,c2]->s.heap.get? c = some ob->g.get? c = some ob:=fun c ob hc q=>by
   simp only [List.mem_cons,List.mem_nil_iff,or_false,not_or] at hc
   exact kp c ob hc.1 hc.2.2.1 hc.2.2.2.1 hc.2.2.2.2 q
  have trk:∀ c v,H c = some v->c∉[z,u,o,c1,c2]:=fun c v q hc=>by rw [(hf c hc).1] at q;cases q
  refine I.step (g':=s.gens) (d':=s.drawn) (t':=s.toks) (ch:=[z,u,o,c1,c2]) (fun c hc=>?_) (fun c ob _ _ hc q _=>all c ob hc q) (fun c ob _ _ hc q _=>⟨ob.slots,all c ob hc q⟩) (fun c ob hc q n=>n) (fun c ob hc q=>⟨ob,all c ob hc q⟩)
   (fun c v q=>q) (fun c v v' q=>q) (fun c v q=>⟨#[],by rw [q];simp⟩) (fun m hm=>?_) (fun c v q=>?_) I.bare
  · obtain⟨f0,f1,f2,f3,f4,f5⟩:=hf c hc
    exact⟨f3,f1,f4,f5⟩
  · obtain⟨ob,es,ep,ho,r⟩:=hm
    exact⟨ob,es,ep,all _ ob (fun hc=>(hf _ hc).2.1 rfl) ho,r⟩
  · refine (I.hok c v q).stay (fun c' ob hc' q'=>all c' ob ?_ q') (fun c' q'=>q') fun c' vs q'=>q'
    rcases hc' with e | e
    · rw [e];exact trk c v q
    · exact trk c' _ e
 self:=fun _ _ _ _ _ st h=>wpAny_pyIter_zip st.1 h
def iZip (K:PySem.W.Frag) (ta:TA):TI:=fun σ H R=>ta σ H fun vs H1=>∃ (f1 f2:Bool) (a b:Addr) (xs ys:List V),vs = [.ref a,.ref b]/\SqS f1 K H1 a xs/\SqS f2 K H1 b ys/\R (Itz f1 f2 K a b) H1
theorem pi_zip (hg:Gl X "zip") (hm:X.mg "zip" = none) (ha:PA X [a,b] ta) (hs:starEach [a,b] X.env = [(false,eval a X.env),(false,eval b X.env)]) (hs2:starEach [b] X.env = [(false,eval b X.env)]):
 PI X (.Tuple es kt pt) (.Call (.Name "zip" p) [a,b] [] pos) (iZip X.K ta):=by
 intro pins s σ H R I h
 refine Call_ (ld_blt I hg hm boot_zip (PyProof.Rows.callWith_type1 (thn (ha pos pins s σ H _ I h) fun us s1 ⟨vs,H1,I1,r1,q1⟩=>?_) (by rw [hs,hs2]) (by rw [hs2];rfl)))
 obtain⟨f1,f2,a,b,xs,ys,e,q1,q2,q⟩:=q1
 subst e
 cases r1 with
 | cons r rr=>
  cases rr with
  | cons r' rr=>
   cases rr
   cases r
   cases r'
   obtain⟨t1,rv1,p1⟩:=inv_seq I1 q1
   obtain⟨t2,rv2,p2⟩:=inv_seq I1 q2
   refine zmake p1 p2 fun g Z old=>?_
   have I2:Inv X pins σ H1 { s1 with heap:=g }:=I1.kept (t':=s1.toks) old
   refine wpAny_pyIter_zip Z.zip ?_
   refine⟨s1.heap.objs.size + 4,[s1.heap.objs.size + 4,s1.heap.objs.size + 2,s1.heap.objs.size + 3,s1.heap.objs.size,s1.heap.objs.size + 1],_,_,H1,rfl,I2,turn_zip ?_,⟨Z.zip,Z.its,Z.own,Z.i1,Z.i2⟩,fun c hc=>?_,q⟩
   · simp
   · have hb:s1.heap.objs.size<=c:=by grind
     exact I1.fpOk hb (I1.hok.fresh hb)
theorem k_zip {K:PySem.W.Frag} (hK:X.K = K) {x:Str} (hx:x = "zip") (hg:Gl X x) (hm:X.mg x = none) (hs:starEach [a,b] X.env = [(false,eval a X.env),(false,eval b X.env)]) (hs2:starEach [b] X.env = [(false,eval b X.env)]) (ha:JA X [a,b] ta):
 JI X (.Tuple es kt pt) (.Call (.Name x p) [a,b] [] pos) (iZip K ta):=hK▸⟨by subst hx;exact pi_zip hg hm ha.h hs hs2⟩
section
variable {K:PySem.W.Frag}
theorem cmp_zip (hx:n<=xs.length) (hy:ys.length = n) (hn:n<=1000) (Pv:Nat->List V->L2.St->Hp->Prop) (h0:Pv 0 [] σ0 H0) (hl:∀ i zs σ H,i<=n->Pv i zs σ H->SqS f1 K H a xs/\SqS f2 K H b ys/\zs.length<=i)
 (hs:∀ i x y zs σ H (T:Addr) (N:List V->L2.St->Hp->Prop),xs[i]? = some x->ys[i]? = some y->Pv i zs σ H->H T = none->(∀ zs' σ' H',Pv (i + 1) zs' σ' H'->N zs' σ' H')->
  g (.ref T) σ (upd H T (.tup [x,y])) fun σ3 H3=>tt σ3 H3 fun b H4=>if b = true then te σ3 H4 fun y H5=>N (zs ++ [y]) σ3 H5 else N zs σ3 H4)
 (hd:∀ zs σ H,Pv n zs σ H->Z zs H):Cmp (Itz f1 f2 K a b) g tt te σ0 H0 Z:=by
 have hsz:=sizeLine_eq
 refine⟨fun i m zs σ H=>m = n - i/\i<=n/\Pv i zs σ H,⟨n,by simp,Nat.zero_le _,h0⟩,?_⟩
 rintro i m zs σ H ⟨rfl,hi,p⟩
 obtain⟨q1,q2,hy'⟩:=hl i zs σ H hi p
 refine⟨by omega,?_⟩
 by_cases hlt:i < n
 · have e1:xs[i]? = some xs[i]:=List.getElem?_eq_getElem (by omega)
   have e2:ys[i]? = some ys[i]:=List.getElem?_eq_getElem (by omega)
   refine .inr ⟨⟨xs,ys,_,_,q1,q2,e1,e2⟩,fun v H' yl=>?_⟩
   obtain⟨x,y,T,rfl,hT,rfl,hxz⟩:=yl
   obtain⟨e3,e4⟩:=hxz xs ys q1 q2
   exact hs i x y zs σ _ T (fun ys' σ' H'=>∃ m',m' < n - i/\m' = n - (i + 1)/\i + 1<=n/\Pv (i + 1) ys' σ' H') e3 e4 p hT fun ys' σ' H' p'=>⟨n - (i + 1),by omega,rfl,hlt,p'⟩
 · have e:i = n:=by omega
   subst e
   exact .inl ⟨⟨xs,ys,q1,q2,.inr (by omega)⟩,hd zs σ H p⟩
end
end ZG
namespace EG
open PySem PySem.Spec PySem.Calls PyProof.Rows L2
section
variable {s:Shared}
theorem drawsT (hh:A.handled = none) (c d:Addr) (hdc:d≠c) (f:Bool) (xs:Array Value):
 Draws prog w A c [c,d] xs.size (fun i x=>xs[i]? = some x) (fun i h=>ZG.SI f h c d i/\ZG.SS f h d xs) where
 live:=fun i h st=>let ⟨o,e,_⟩:=ZG.SI.ob st.1;⟨o,e⟩
 frame:=fun i h h' st k=>⟨ZG.SI.at st.1 fun ob q=>k _ (by simp) ob q,ZG.SS.at st.2 fun ob q=>k _ (by simp) ob q⟩
 item:=fun i s Q E hi st go=>by
  have hx:xs[i]? = some xs[i]:=by simp
  exact ZG.gnext st.1 st.2 hx fun g j k=>go _ g s.toks hx ⟨j,ZG.SS.at st.2 fun ob q=>k.extBut _ _ hdc q⟩ k
 done:=fun s Q E st go=>ZG.gnone hh st.1 st.2 (by simp) fun g e k he=>go g e k he
theorem enone {k:Nat} (hh:A.handled = none) (h1:IsEnum s.heap e c k old) (h2:ZG.SI f s.heap c d k) (h3:ZG.SS f s.heap d xs) (hv:xs[k]? = none)
 (go:∀ g x,Heap.ExtBut c s.heap g->(∃ ob,g.get? x = some ob/\ob.cls = .type "StopIteration")->E (.ref x) { s with heap:=g }):
 wpAny (model prog w) A (Builtin.«enumerate.__next__» ⟨[.ref e],[]⟩) Q E s:=by
 show wpAny _ _ (field _ 2 >>= _) _ _ _
 refine wpAny_bind (wpAny_field h1 rfl rfl ?_)
 exact wpAny_bind (ZG.gnone hh h2 h3 hv go)
theorem enext {f:Bool}{e c d:Addr}{xs:Array Value}{k:Nat}{x old:Value} (hh:A.handled = none) (n1:e≠c) (n2:d≠e) (n3:d≠c) (h1:IsEnum s.heap e c k old) (h2:ZG.SI f s.heap c d k) (h3:ZG.SS f s.heap d xs) (hx:xs[k]? = some x)
 (go:∀ g tk,IsEnumOut g e c (k + 1) x s.heap.objs.size->ZG.SI f g c d (k + 1)->IsPair g s.heap.objs.size (.int k tk) x->g.objs.size = s.heap.objs.size + 1->
  (∀ b ob,b≠e->b≠c->s.heap.get? b = some ob->g.get? b = some ob)->Q (some (.ref s.heap.objs.size)) { s with heap:=g,toks:=tk + 1 }):wpAny (model prog w) A (pyNext (.ref e)) Q E s:=by
 have hT:s.TypeIs (.ref e) "enumerate":=⟨_,h1,rfl⟩
 have hk:k < xs.size:=by
  rcases Nat.lt_or_ge k xs.size with h | h
  · exact h
  simp_all
 unfold pyNext
 refine wpAny_bind (wpAny_attempt (wpAny_callSpecial?_slot hT F.slot_enumerate_next (wpAny_call_entry F.slot_enumerate_next hT F.entry_enumerate_next ?_ (F.args_enumerate_next_1 _))))
 refine enumerate_next_itemD (drawsT (A:=A.in1) (show A.in1.handled = none from hh) c d n3 f xs) h1 ⟨h2,h3⟩ hk n1 (by simp [n1,Ne.symm n2]) fun x' g tk px a1 a2 a3 a4 a5=>wpAny_pure ?_
 have:x' = x:=by grind
 subst this
 exact go g tk a1 a2.1 a3 a4 a5
theorem estop {k:Nat} (hh:A.handled = none) (h1:IsEnum s.heap e c k old) (h2:ZG.SI f s.heap c d k) (h3:ZG.SS f s.heap d xs) (hv:xs[k]? = none)
 (go:∀ g,Heap.ExtBut c s.heap g->Q none { s with heap:=g }):wpAny (model prog w) A (pyNext (.ref e)) Q E s:=by
 have hT:s.TypeIs (.ref e) "enumerate":=⟨_,h1,rfl⟩
 refine wpAny_bind (wpAny_attempt (wpAny_callSpecial?_slot hT F.slot_enumerate_next (wpAny_call_entry F.slot_enumerate_next hT F.entry_enumerate_next (enone hh h1 h2 h3 hv fun g x hk he=>?_) (F.args_enumerate_next_1 _))))
 obtain⟨ob,hob,hcb⟩:=he
 exact wpAny_bind (wpAny_isInstance ⟨ob,hob,hcb⟩ isSubtype_stop (wpAny_pure (go _ hk)))
theorem wpAny_pureB {b:Bool} (h:∀ b,Q b s):wpAny M A (pure b) Q E s:=wpAny_pure (h b)
theorem emeets (f:Bool) (d:Addr) (xs:Array Value):Meets (Builtin.«enumerate.__new__» ⟨[.type "enumerate",.ref d],[]⟩) (fun _ R s=>ZG.SS f s.heap d xs/\
 R (.ok (.ret (.ref (ZG.zh1 f s.heap d).objs.size))) { s with heap:=(ZG.zh1 f s.heap d).push { cls:=.type "enumerate",data:=.fields #[.none,.bool false,.ref s.heap.objs.size,rawInt 0,.none,.none] } }):=
 .of_wp fun prog w A R s h=>by
  obtain⟨hp,g,dr,tk,os⟩:=s
  obtain⟨h1,h⟩:=h
  have hsub:=sub_enumerate
  have q1:ZG.SS f (Shared.heap ⟨hp,g,dr,tk,os⟩) d xs:=h1
  wp_walk using ZG.giter q1
  refine wpAny_stack_any fun st=>wpAny_pureB fun bb=>?_
  cases bb
  · wp_walk using ZG.giter q1
    exact⟨_,rfl,h⟩
  · wp_walk using ZG.giter q1
    exact⟨_,rfl,h⟩
theorem emake (h1:ZG.SS f s.heap d xs)
 (go:∀ g,IsEnum g (s.heap.objs.size + 1) s.heap.objs.size 0 .none->ZG.SI f g s.heap.objs.size d 0->(∀ b ob,s.heap.get? b = some ob->g.get? b = some ob)->Q (.ref (s.heap.objs.size + 1)) { s with heap:=g }):
 wpAny (model prog w) A (call (.type "enumerate") [.ref d]) Q E s:=by
 refine callType_new F.called_enumerate (by decide) (F.typeCall_enumerate_1 _) (F.newCall_enumerate_1 _) (fun obj=>F.args_object_init_2 obj _) F.entry_enumerate_new (emeets f d xs) ⟨h1,?_⟩
 have s1:(ZG.zh1 f s.heap d).objs.size = s.heap.objs.size + 1:=Heap.size_push ..
 have g2:((ZG.zh1 f s.heap d).push { cls:=.type "enumerate",data:=.fields #[.none,.bool false,.ref s.heap.objs.size,rawInt 0,.none,.none] }).get? (ZG.zh1 f s.heap d).objs.size = some _:=Heap.get?_push_size _ rfl
 have g1:((ZG.zh1 f s.heap d).push { cls:=.type "enumerate",data:=.fields #[.none,.bool false,.ref s.heap.objs.size,rawInt 0,.none,.none] }).get? s.heap.objs.size = some _:=Heap.get?_push_of_some _ (Heap.get?_push_size _ rfl)
 have old:∀ b ob,s.heap.get? b = some ob->((ZG.zh1 f s.heap d).push { cls:=.type "enumerate",data:=.fields #[.none,.bool false,.ref s.heap.objs.size,rawInt 0,.none,.none] }).get? b = some ob:=fun b ob q=>Heap.get?_push_of_some _ (Heap.get?_push_of_some _ q)
 rw [s1] at g2
 have gz:=go _ g2 (ZG.SI.new g1) old
 rw [s1]
 exact⟨⟨_,g2,rfl⟩,gz⟩
end
def Ite (f:Bool) (K:PySem.W.Frag) (a:Addr):It:=
 ⟨fun i H=>∃ xs x,ZG.SqS f K H a xs/\xs[i]? = some x,
  fun i H v H'=>∃ (x:V) (T:Addr),v = .ref T/\H T = none/\H' = upd H T (.tup [.int i,x])/\∀ xs,ZG.SqS f K H a xs->xs[i]? = some x,
  fun i H=>∃ xs,ZG.SqS f K H a xs/\xs.length<=i⟩
theorem turn_enum {f:Bool}{P:Program}{w:World}{K:PySem.W.Frag}{es:List Expr}{kt:Nat}{pt:Pos}{e c a:Addr} (ne:e≠c):
 Turn P w K (.Tuple es kt pt) (Ite f K a) [e,c] e (fun i h=>(∃ old,IsEnum h e c i old)/\ZG.SI f h c a i) where
 mem:=by simp
 obj:=fun i h st b hb=>by
  obtain⟨⟨old,h1⟩,h40⟩:=st
  obtain⟨o4,h4,d4⟩:=ZG.SI.ob h40
  simp only [List.mem_cons,List.mem_nil_iff,or_false] at hb
  rcases hb with rfl | rfl
  · exact⟨_,h1,fun v q=>by cases q⟩
  · exact⟨_,h4,fun v q=>by rw [d4] at q;cases q⟩
 keep:=fun i h h' st k=>by
  obtain⟨⟨old,h1⟩,h4⟩:=st
  exact⟨⟨old,k _ (by simp) _ h1⟩,ZG.SI.at h4 fun ob q=>k _ (by simp) ob q⟩
 item:=by
  intro X hP hw hK hc i pins s σ H E I hf st hg
  subst hP hw hK
  obtain⟨⟨old,h1⟩,h4⟩:=st
  obtain⟨xs,x,q1,hx⟩:=hg
  obtain⟨t1,r1,p1⟩:=ZG.inv_seq I q1
  obtain⟨x',hx',rx⟩:=r1.get hx
  have ae:a≠e:=ZG.sqS_apart I q1 (hf e (by simp))
  have ac:a≠c:=ZG.sqS_apart I q1 (hf c (by simp))
  refine enext (I.ok.hd hc) ne ae ac h1 h4 p1 (x:=x') (by simpa using hx') fun g tk z1 i1 T1 sz kp=>?_
  refine⟨_,rfl,wpAny_letOwnedTupleGo_enum z1 fun g' z2 k2=>?_⟩
  have hfr:H s.heap.objs.size = none:=I.hok.fresh (Nat.le_refl _)
  have lt:∀ b∈[e,c],b < s.heap.objs.size:=fun b hb=>by
   simp only [List.mem_cons,List.mem_nil_iff,or_false] at hb
   rcases hb with rfl | rfl
   · exact Heap.lt_size h1
   · obtain⟨_,h4,_⟩:=ZG.SI.ob h4;exact Heap.lt_size h4
  have all:∀ b ob,b∉[e,c]->s.heap.get? b = some ob->g'.get? b = some ob:=fun b ob hb q=>by
   simp only [List.mem_cons,List.mem_nil_iff,or_false,not_or] at hb
   exact k2.extBut _ _ hb.1 (kp b ob hb.1 hb.2 q)
  have zl:e < s.heap.objs.size:=lt e (by simp)
  have i1':=ZG.SI.at i1 fun ob q=>k2.extBut _ _ (Ne.symm ne) q
  have T':IsPair g' s.heap.objs.size (.int i tk) x':=k2.extBut _ _ (Nat.ne_of_gt zl) T1
  have trk:∀ b v,H b = some v->b∉[e,c]:=fun b v q hb=>by rw [(hf b hb).1] at q;cases q
  have I1:Inv X pins σ (upd H s.heap.objs.size (.tup [.int i,x])) { s with heap:=g',toks:=tk + 1 }:=by
   refine I.step (g':=s.gens) (d':=s.drawn) (t':=tk + 1) (ch:=[e,c]) (fun b hb=>?_) (fun b ob _ _ hb q _=>all b ob hb q) (fun b ob _ _ hb q _=>⟨ob.slots,all b ob hb q⟩) (fun b ob hb q n=>?_) (fun b ob hb q=>⟨ob,all b ob hb q⟩)
    (fun b v q=>?_) (fun b v v' q=>?_) (fun b v q=>⟨#[],?_⟩) (fun m hm=>?_) (fun b v q=>?_) I.bare
   · obtain⟨f0,f1,f2,f3,f4,f5⟩:=hf b hb
     exact⟨f3,f1,f4,f5⟩
   · rw [upd_ne (Nat.ne_of_lt (Heap.lt_size q))];exact n
   · rw [upd_ne (ne_of_none q hfr)];exact q
   · rw [upd_ne (ne_of_none q hfr)];exact q
   · rw [upd_ne (ne_of_none q hfr),q];simp
   · obtain⟨ob,es,ep,ho,r⟩:=hm
     exact⟨ob,es,ep,all _ ob (fun hb=>(hf _ hb).2.1 rfl) ho,r⟩
   · by_cases hcT:b = s.heap.objs.size
     · subst hcT
       rw [upd_same] at q;cases q
       exact⟨by show 2<=sizeLine;decide,[.int i tk,x'],.cons ⟨tk,rfl⟩ (.cons rx .nil),⟨_,T',rfl,rfl,_,rfl⟩⟩
     · rw [upd_ne hcT] at q
       refine (I.hok b v q).stay (fun c' ob hc' q'=>all c' ob ?_ q') (fun c' q'=>by rw [upd_ne (ne_of_none q' hfr)];exact q') fun c' vs q'=>by rw [upd_ne (ne_of_none q' hfr)];exact q'
       rcases hc' with z | z
       · rw [z];exact trk b v q
       · exact trk c' _ z
  refine⟨.ref s.heap.objs.size,_,I1,rfl,⟨x,_,rfl,hfr,rfl,fun xs' e1=>?_⟩,⟨⟨_,z2⟩,i1'⟩,fun b hb=>?_⟩
  · rw [ZG.sqS_inj I e1 q1];exact hx
  · rw [upd_ne (Nat.ne_of_lt (lt b hb))];exact (hf b hb).1
 done:=by
  intro X hP hw hK hc i pins s σ H E I hf st hg
  subst hP hw hK
  obtain⟨⟨old,h1⟩,h4⟩:=st
  obtain⟨xs,q1,hend⟩:=hg
  obtain⟨t1,r1,p1⟩:=ZG.inv_seq I q1
  have e1:=r1.length
  refine estop (I.ok.hd hc) h1 h4 p1 (by simp;omega) fun g kp=>⟨rfl,?_⟩
  have all:∀ b ob,b∉[e,c]->s.heap.get? b = some ob->g.get? b = some ob:=fun b ob hb q=>by
   simp only [List.mem_cons,List.mem_nil_iff,or_false,not_or] at hb
   exact kp b ob hb.2 q
  have trk:∀ b v,H b = some v->b∉[e,c]:=fun b v q hb=>by rw [(hf b hb).1] at q;cases q
  refine I.step (g':=s.gens) (d':=s.drawn) (t':=s.toks) (ch:=[e,c]) (fun b hb=>?_) (fun b ob _ _ hb q _=>all b ob hb q) (fun b ob _ _ hb q _=>⟨ob.slots,all b ob hb q⟩) (fun b ob hb q n=>n) (fun b ob hb q=>⟨ob,all b ob hb q⟩)
   (fun b v q=>q) (fun b v v' q=>q) (fun b v q=>⟨#[],by rw [q];simp⟩) (fun m hm=>?_) (fun b v q=>?_) I.bare
  · obtain⟨f0,f1,f2,f3,f4,f5⟩:=hf b hb
    exact⟨f3,f1,f4,f5⟩
  · obtain⟨ob,es,ep,ho,r⟩:=hm
    exact⟨ob,es,ep,all _ ob (fun hb=>(hf _ hb).2.1 rfl) ho,r⟩
  · refine (I.hok b v q).stay (fun c' ob hc' q'=>all c' ob ?_ q') (fun c' q'=>q') fun c' vs q'=>q'
    rcases hc' with z | z
    · rw [z];exact trk b v q
    · exact trk c' _ z
 self:=fun _ _ _ _ _ st h=>by obtain⟨⟨old,h1⟩,_⟩:=st;exact wpAny_pyIter_enum h1 h
theorem boot_enum:bootBuiltins "enumerate" = some (.type "enumerate"):=by rfl
def iEnum (K:PySem.W.Frag) (ta:TA):TI:=fun σ H R=>ta σ H fun vs H1=>∃ (f:Bool) (a:Addr) (xs:List V),vs = [.ref a]/\ZG.SqS f K H1 a xs/\R (Ite f K a) H1
theorem pi_enum (hg:Gl X "enumerate") (hm:X.mg "enumerate" = none) (ha:PA X [a] ta) (hs:starEach [a] X.env = [(false,eval a X.env)]):
 PI X (.Tuple es kt pt) (.Call (.Name "enumerate" p) [a] [] pos) (iEnum X.K ta):=by
 intro pins s σ H R I h
 refine Call_ (ld_blt I hg hm boot_enum (PyProof.Rows.callWith_type1 (thn (ha pos pins s σ H _ I h) fun us s1 ⟨vs,H1,I1,r1,q1⟩=>?_) (by rw [hs];rfl) rfl))
 obtain⟨f,a,xs,e,q1,q⟩:=q1
 subst e
 cases r1 with
 | cons r rr=>
  cases rr
  cases r
  obtain⟨t1,rv1,p1⟩:=ZG.inv_seq I1 q1
  refine emake p1 fun g h1 h2 old=>?_
  have I2:=I1.kept (t':=s1.toks) old
  refine wpAny_pyIter_enum h1 ?_
  refine⟨s1.heap.objs.size + 1,[s1.heap.objs.size + 1,s1.heap.objs.size],_,_,H1,rfl,I2,turn_enum ?_,⟨⟨_,h1⟩,h2⟩,fun c hc=>?_,q⟩
  · intro z;have z:(_:Nat) = _:=z;omega
  · have hb:s1.heap.objs.size<=c:=by
     simp at hc
     rcases hc with rfl | rfl
     simp;omega
    exact I1.fpOk hb (I1.hok.fresh hb)
theorem k_enum {K:PySem.W.Frag} (hK:X.K = K) {x:Str} (hx:x = "enumerate") (hg:Gl X x) (hm:X.mg x = none) (hs:starEach [a] X.env = [(false,eval a X.env)]) (ha:JA X [a] ta):
 JI X (.Tuple es kt pt) (.Call (.Name x p) [a] [] pos) (iEnum K ta):=hK▸⟨by subst hx;exact pi_enum hg hm ha.h hs⟩
section
variable {K:PySem.W.Frag}{g:TG}{tb:TS}{D:Ends}
theorem for_enum (Pv:Nat->L2.St->Hp->Prop) (h0:Pv 0 σ0 H0) (hl:∀ i σ H,i<=xs.length->Pv i σ H->ZG.SqS f K H a xs)
 (hs:∀ i x σ H (T:Addr),xs[i]? = some x->Pv i σ H->H T = none->g (.ref T) σ (upd H T (.tup [.int i,x])) fun σ2 H2=>tb { D with nx:=Pv (i + 1),ct:=Pv (i + 1),bk:=D.nx } σ2 H2)
 (hd:∀ σ H,Pv xs.length σ H->D.nx σ H):
 ∃ W:Nat->Nat->L2.St->Hp->Prop,(∃ m,W 0 m σ0 H0)/\∀ i m σ H,W i m σ H->
  ((Ite f K a).stop i H/\D.nx σ H)\/((Ite f K a).go i H/\∃ N:L2.St->Hp->Prop,(∀ σ' H',N σ' H'->∃ m',m' < m/\W (i + 1) m' σ' H')/\∀ x H',(Ite f K a).yld i H x H'->g x σ H' fun σ2 H2=>tb { D with nx:=N,ct:=N,bk:=D.nx } σ2 H2):=by
 refine⟨fun i m σ H=>m = xs.length - i/\i<=xs.length/\Pv i σ H,⟨xs.length,by simp,Nat.zero_le _,h0⟩,?_⟩
 rintro i m σ H ⟨rfl,hi,p⟩
 have q:=hl i σ H hi p
 by_cases hlt:i < xs.length
 · refine .inr ⟨⟨xs,xs[i],q,by simp⟩,Pv (i + 1),fun σ' H' p'=>⟨xs.length - _,by omega,rfl,hlt,p'⟩,fun x H' y=>?_⟩
   obtain⟨x,T,rfl,hT,rfl,hxz⟩:=y
   exact hs i x σ _ T (hxz xs q) p hT
 · have e:i = xs.length:=by omega
   subst e
   exact .inl ⟨⟨xs,q,Nat.le_refl _⟩,hd σ H p⟩
end
end EG
namespace Spx
def sm:Nat->(Nat->Int)->Int
 | 0,_=>0
 | n + 1,f=>sm n f + f n
theorem sm_congr {f g:Nat->Int}:∀ {n:Nat},(∀ k,k < n->f k = g k)->sm n f = sm n g
 | 0,_=>rfl
 | n + 1,h=>by rw [sm,sm,sm_congr fun k hk=>h k (Nat.lt_succ_of_lt hk),h n (Nat.lt_succ_self n)]
theorem sm_zero {f:Nat->Int}{n:Nat} (h:∀ k,k < n->f k = 0):sm n f = 0:=by
 rw [sm_congr h]
 clear h
 induction n with
 | zero=>rfl
 | succ n ih=>rw [sm,ih];rfl
theorem sm_add {f g:Nat->Int}:∀ {n:Nat},sm n (fun k=>f k + g k) = sm n f + sm n g
 | 0=>rfl
 | n + 1=>by rw [sm,sm,sm,sm_add];omega
theorem sm_mul {f:Nat->Int}{a:Int}:∀ {n:Nat},sm n (fun k=>a * f k) = a * sm n f
 | 0=>by rw [sm,sm,Int.mul_zero]
 | n + 1=>by rw [sm,sm,sm_mul,Int.mul_add]
theorem sm_one {f:Nat->Int}{n i:Nat} (hi:i < n) (h:∀ k,k < n->k≠i->f k = 0):sm n f = f i:=by
 induction n with
 | zero=>omega
 | succ n ih=>
  rw [sm]
  by_cases e:i = n
  · rw [sm_zero fun k hk=>h k (by omega) (by omega),e,Int.zero_add]
  · rw [ih (by omega) fun k hk=>h k (by omega),h n (by omega) (by omega),Int.add_zero]
theorem sm_two {f:Nat->Int}{n i j:Nat} (hi:i < n) (hj:j < n) (hij:i≠j) (h:∀ k,k < n->k≠i->k≠j->f k = 0):sm n f = f i + f j:=by
 have e:sm n f = sm n fun k=>(if k = i then f i else 0) + if k = j then f j else 0:=sm_congr fun k hk=>by
  by_cases h1:k = i
  · subst h1;rw [if_pos rfl,if_neg hij,Int.add_zero]
  by_cases h2:k = j
  · subst h2;rw [if_neg h1,if_pos rfl,Int.zero_add]
  rw [if_neg h1,if_neg h2,h k hk h1 h2];rfl
 rw [e,sm_add,sm_one hi fun k _ hk=>if_neg hk,sm_one hj fun k _ hk=>if_neg hk,if_pos rfl,if_pos rfl]
theorem sm_nonneg {f:Nat->Int}:∀ {n:Nat},(∀ k,k < n->0<=f k)->0<=sm n f
 | 0,_=>Int.le_refl _
 | n + 1,h=>by
  have:=sm_nonneg fun k hk=>h k (Nat.lt_succ_of_lt hk)
  have:=h n (Nat.lt_succ_self n)
  rw [sm];omega
theorem sm_pos {f:Nat->Int}:∀ {n:Nat},0 < sm n f->∃ k,k < n/\0 < f k
 | 0,h=>absurd h (Int.lt_irrefl _)
 | n + 1,h=>by
  rw [sm] at h
  by_cases e:0 < f n
  · exact⟨n,Nat.lt_succ_self n,e⟩
  · obtain⟨k,h1,h2⟩:=sm_pos (f:=f) (n:=n) (by omega)
    exact⟨k,by omega,h2⟩
abbrev Vec:=Nat->Int
def skip (j i:Nat):Nat:=if i < j then i else i + 1
def sg:Nat->Int
 | 0=>1
 | n + 1=>- sg n
def det:Nat->(Nat->Vec)->Int
 | 0,_=>1
 | m + 1,c=>sm (m + 1) fun j=>sg j * c j 0 * det m fun i k=>c (skip j i) (k + 1)
theorem det_congr:∀ {m:Nat}{c e:Nat->Vec},(∀ i k,i < m->k < m->c i k = e i k)->det m c = det m e
 | 0,_,_,_=>rfl
 | m + 1,c,e,h=>by
  rw [det,det]
  refine sm_congr fun j hj=>?_
  rw [h j 0 hj (by omega),det_congr fun i k hi hk=>h (skip j i) (k + 1) (by unfold skip;split <;> omega) (by omega)]
def put (c:Nat->Vec) (i:Nat) (v:Vec):Nat->Vec:=fun k=>if k = i then v else c k
theorem put_at {c:Nat->Vec}{i:Nat}{v:Vec}:put c i v i = v:=if_pos rfl
theorem put_no {c:Nat->Vec}{i k:Nat}{v:Vec} (h:k≠i):put c i v k = c k:=if_neg h
theorem put_skip {c:Nat->Vec}{i j:Nat}{v:Vec} (h:i≠j):(fun p k=>put c i v (skip j p) (k + 1)) = put (fun p k=>c (skip j p) (k + 1)) (if i < j then i else i - 1) fun k=>v (k + 1):=by
 funext p k
 unfold put
 have:skip j p = i↔p = if i < j then i else i - 1:=by unfold skip;split <;> split <;> omega
 by_cases e:skip j p = i
 · rw [if_pos e,if_pos (this.mp e)]
 · rw [if_neg e,if_neg fun z=>e (this.mpr z)]
theorem put_skip_self {c:Nat->Vec}{j:Nat}{v:Vec}:(fun p k=>put c j v (skip j p) (k + 1)) = fun p k=>c (skip j p) (k + 1):=by
 funext p k
 exact congrFun (put_no (by unfold skip;split <;> omega)) _
theorem det_lin:∀ {m:Nat}{c:Nat->Vec}{i:Nat}{a b:Int}{u v:Vec},i < m->det m (put c i fun k=>a * u k + b * v k) = a * det m (put c i u) + b * det m (put c i v)
 | 0,_,_,_,_,_,_,h=>absurd h (Nat.not_lt_zero _)
 | m + 1,c,i,a,b,u,v,h=>by
  rw [det,det,det,<- sm_mul,<- sm_mul,<- sm_add]
  refine sm_congr fun j hj=>?_
  by_cases e:i = j
  · subst e
    rw [put_skip_self,put_skip_self,put_skip_self,put_at,put_at,put_at]
    generalize (det m _) = d
    grind
  · rw [put_skip e,put_skip e,put_skip e,put_no (Ne.symm e),put_no (Ne.symm e),put_no (Ne.symm e),det_lin (by split <;> omega)]
    generalize (det m _) = d1
    generalize (det m _) = d2
    grind
theorem det_next:∀ {m:Nat}{c:Nat->Vec}{i:Nat},i + 1 < m->(∀ k,c i k = c (i + 1) k)->det m c = 0
 | 0,_,_,h,_=>absurd h (Nat.not_lt_zero _)
 | m + 1,c,i,h,e=>by
  rw [det,sm_two (i:=i) (j:=i + 1) (by omega) h (by omega)]
  · have:det m (fun p k=>c (skip i p) (k + 1)) = det m fun p k=>c (skip (i + 1) p) (k + 1):=det_congr fun p k _ _=>by
     unfold skip
     by_cases h1:p < i
     · rw [if_pos h1,if_pos (by omega)]
     by_cases h2:p = i
     · subst h2;rw [if_neg h1,if_pos (by omega)];exact (e _).symm
     · rw [if_neg h1,if_neg (by omega)]
    rw [this,e 0,sg]
    generalize (det m _) = d
    grind
  · intro j hj h1 h2
    have e1:∀ k,c (skip j (if i < j then i else i - 1)) (k + 1) = c (skip j ((if i < j then i else i - 1) + 1)) (k + 1):=fun k=>by
     unfold skip
     rcases Nat.lt_or_gt_of_ne h1 with g | g
     · rw [if_neg (Nat.lt_asymm g),if_neg (by omega),if_neg (by omega),show i - 1 + 1 = i by omega]
       exact e _
     · rw [if_pos g,if_pos g,if_pos (by omega)]
       exact e _
    rw [det_next (i:=if i < j then i else i - 1) (by split <;> omega) e1]
    exact Int.mul_zero _
theorem put_comm {c:Nat->Vec}{i j:Nat}{u v:Vec} (h:i≠j):put (put c i u) j v = put (put c j v) i u:=by
 funext k
 unfold put
 split <;> split <;> first | rfl | omega
theorem put_put {c:Nat->Vec}{i:Nat}{u v:Vec}:put (put c i u) i v = put c i v:=by
 funext k
 unfold put
 split <;> rfl
theorem put_same {c:Nat->Vec}{i:Nat}:put c i (c i) = c:=by
 funext k
 unfold put
 split
 · rename_i h;rw [h]
 · rfl
theorem det_add {m:Nat}{c:Nat->Vec}{i:Nat}{u v:Vec} (h:i < m):det m (put c i fun k=>u k + v k) = det m (put c i u) + det m (put c i v):=by
 have:=det_lin (c:=c) (a:=1) (b:=1) (u:=u) (v:=v) h
 simpa using this
theorem det_turn {m:Nat}{c:Nat->Vec}{i:Nat}{u v:Vec} (h:i + 1 < m):det m (put (put c i u) (i + 1) v) = - det m (put (put c i v) (i + 1) u):=by
 have hz:∀ w:Vec,det m (put (put c i w) (i + 1) w) = 0:=fun w=>det_next h fun k=>by
  rw [put_no (by omega),put_at,put_at]
 have h0:=hz fun k=>u k + v k
 rw [det_add h,put_comm (by omega),det_add (by omega),put_comm (i:=i + 1) (by omega),put_comm (i:=i + 1) (j:=i) (u:=u) (by omega)] at h0
 rw [put_comm (i:=i) (j:=i + 1) (v:=v) (by omega),det_add (by omega),put_comm (i:=i + 1) (j:=i) (by omega),put_comm (i:=i + 1) (j:=i) (by omega)] at h0
 have h1:=hz u
 have h2:=hz v
 omega
theorem det_two {m:Nat}:∀ (n:Nat) {c:Nat->Vec}{i j:Nat},j = i + 1 + n->j < m->c i = c j->det m c = 0
 | 0,c,i,j,e,h,q=>det_next (i:=i) (by omega) fun k=>by rw [q,e]
 | n + 1,c,i,j,e,h,q=>by
  have e1:c = put (put c (j - 1) (c (j - 1))) (j - 1 + 1) (c j):=by rw [put_same,show j - 1 + 1 = j from by omega,put_same]
  have e2:det m (put (put c (j - 1) (c j)) (j - 1 + 1) (c (j - 1))) = 0:=det_two n (i:=i) (j:=j - 1) (by omega) (by omega) (by rw [put_no (by omega),put_no (by omega),put_no (by omega),put_at,q])
  rw [e1,det_turn (i:=j - 1) (by omega),e2]
  rfl
theorem det_alt {m:Nat}{c:Nat->Vec}{i j:Nat} (hi:i < m) (hj:j < m) (hij:i≠j) (q:c i = c j):det m c = 0:=by
 by_cases h:i < j
 · exact det_two (j - i - 1) (by omega) hj q
 · exact det_two (i - j - 1) (by omega) hi q.symm
theorem det_zero {m:Nat}{c:Nat->Vec}{i:Nat} (h:i < m):det m (put c i fun _=>0) = 0:=by
 have:=det_lin (c:=c) (a:=0) (b:=0) (u:=fun _=>0) (v:=fun _=>0) h
 simpa using this
theorem det_sum {m:Nat}{c:Nat->Vec}{i:Nat}{x:Nat->Int}{w:Nat->Vec} (h:i < m):∀ {n:Nat},det m (put c i fun k=>sm n fun p=>x p * w p k) = sm n fun p=>x p * det m (put c i (w p))
 | 0=>det_zero h
 | n + 1=>by
  have:=det_lin (c:=c) (a:=1) (b:=x n) (u:=fun k=>sm n fun p=>x p * w p k) (v:=w n) h
  rw [det_sum h] at this
  rw [sm,<- Int.one_mul (sm n _),<- this]
  exact congrArg (fun f=>det m (put c i f)) (funext fun k=>by rw [sm,Int.one_mul])
theorem det_scale {m:Nat}{c:Nat->Vec}{i:Nat}{a:Int}{v:Vec} (h:i < m):det m (put c i fun k=>a * v k) = a * det m (put c i v):=by
 have:=det_lin (c:=c) (a:=a) (b:=0) (u:=v) (v:=v) h
 simpa using this
theorem det_putc {m:Nat}{c:Nat->Vec}{i:Nat}{u v:Vec} (h:∀ k,k < m->u k = v k):det m (put c i u) = det m (put c i v):=det_congr fun p k _ hk=>by
 unfold put;split
 · exact h k hk
 · rfl
theorem det_swap {m:Nat}{c:Nat->Vec}{i j:Nat}{u v:Vec} (hi:i < m) (hj:j < m) (h:i≠j):det m (put (put c i u) j v) = - det m (put (put c i v) j u):=by
 have hz:∀ w:Vec,det m (put (put c i w) j w) = 0:=fun w=>det_alt hi hj h (by rw [put_no h,put_at,put_at])
 have h0:=hz fun k=>u k + v k
 rw [det_add hj,put_comm h,det_add hi,put_comm h.symm,put_comm (i:=j) (j:=i) (u:=u) h.symm] at h0
 rw [put_comm (i:=i) (j:=j) (v:=v) h,det_add hi,put_comm (i:=j) (j:=i) h.symm,put_comm (i:=j) (j:=i) h.symm] at h0
 have h1:=hz u
 have h2:=hz v
 omega
theorem det_unit:∀ (m:Nat),(det m fun i k=>if i = k then 1 else 0) = 1
 | 0=>rfl
 | m + 1=>by
  rw [det,sm_one (i:=0) (by omega) fun j _ h=>by simp [h]]
  simp only [sg]
  rw [det_congr (e:=fun i k=>if i = k then 1 else 0) fun i k _ _=>by unfold skip;simp,det_unit m]
  rfl
theorem det_pick {m i:Nat}{v:Vec} (h:i < m):det m (put (fun i k=>if i = k then 1 else 0) i v) = v i:=by
 have e:∀ k,k < m->v k = (fun k=>sm m fun p=>v p * (if p = k then 1 else 0)) k:=fun k hk=>by
  show v k = sm m _
  rw [sm_one hk fun p _ hp=>by rw [if_neg hp,Int.mul_zero],if_pos rfl,Int.mul_one]
 rw [det_putc e,det_sum (w:=fun p k=>if p = k then 1 else 0) h,sm_one h fun p hp hpi=>?_]
 · rw [put_same (c:=fun i k=>if i = k then 1 else 0),det_unit,Int.mul_one]
 · rw [det_alt (i:=p) (j:=i) hp h hpi,Int.mul_zero]
   rw [put_no hpi,put_at]
section
variable {n L:Nat}{a:Nat->Vec}{S:Nat->Nat}
def col (a:Nat->Vec) (S:Nat->Nat):Nat->Vec:=fun i=>a (S i)
def D (n:Nat) (a:Nat->Vec) (S:Nat->Nat):Int:=det (n + 1) (col a S)
def T (n:Nat) (a:Nat->Vec) (S:Nat->Nat) (i j:Nat):Int:=det (n + 1) (put (col a S) i (a j))
def Span (n:Nat) (a:Nat->Vec) (S:Nat->Nat):Prop:=∀ j k,k < n + 1->D n a S * a j k = sm (n + 1) fun i=>T n a S i j * a (S i) k
theorem T_lin {S':Nat->Nat}{i j:Nat} (h:Span n a S) (hi:i < n + 1):D n a S * T n a S' i j = sm (n + 1) fun p=>T n a S p j * T n a S' i (S p):=by
 unfold T
 rw [<- det_scale hi,det_putc (v:=fun k=>sm (n + 1) fun p=>det (n + 1) (put (col a S) p (a j)) * a (S p) k) fun k hk=>h j k hk,det_sum hi]
theorem T_self {i p:Nat} (hi:i < n + 1) (hp:p < n + 1):T n a S i (S p) = if i = p then D n a S else 0:=by
 unfold T D
 split
 · rename_i h;subst h
   rw [show a (S i) = col a S i from rfl,put_same]
 · rename_i h
   exact det_alt hi hp h (by rw [put_at,put_no (Ne.symm h)];rfl)
def use (S:Nat->Nat) (r c:Nat):Nat->Nat:=fun i=>if i = r then c else S i
theorem col_use {r c:Nat}:col a (use S r c) = put (col a S) r (a c):=by
 funext i
 unfold col use put
 split <;> rfl
theorem D_use {r c:Nat}:D n a (use S r c) = T n a S r c:=by unfold D T;rw [col_use]
theorem T_use_r {r c j:Nat}:T n a (use S r c) r j = T n a S r j:=by unfold T;rw [col_use,put_put]
theorem use_no {r c p:Nat} (h:p≠r):use S r c p = S p:=if_neg h
theorem use_at {r c:Nat}:use S r c r = c:=if_pos rfl
theorem T_use {r c i j:Nat} (h:Span n a S) (hr:r < n + 1) (hi:i < n + 1) (ne:i≠r):D n a S * T n a (use S r c) i j = T n a S i j * T n a S r c - T n a S i c * T n a S r j:=by
 rw [T_lin h hi,sm_two hi hr ne fun p hp h1 h2=>?_]
 · have e1:=T_self (a:=a) (S:=use S r c) hi hi
   rw [if_pos rfl,use_no ne,D_use] at e1
   have e2:T n a (use S r c) i (S r) = - T n a S i c:=by
    unfold T
    rw [col_use,det_swap hr hi (Ne.symm ne),show a (S r) = col a S r from rfl,put_same]
   rw [e1,e2]
   grind
 · have e1:=T_self (a:=a) (S:=use S r c) hi hp
   rw [use_no h2,if_neg (Ne.symm h1)] at e1
   rw [e1,Int.mul_zero]
theorem Span.use {r c:Nat} (h:Span n a S) (d:D n a S≠0) (hr:r < n + 1):Span n a (use S r c):=fun j k hk=>by
 have e:sm (n + 1) (fun i=>D n a S * (T n a (Spx.use S r c) i j * a (Spx.use S r c i) k)) = sm (n + 1) fun i=>(T n a S r c * (T n a S i j * a (S i) k) + - T n a S r j * (T n a S i c * a (S i) k)) + if i = r then D n a S * (T n a S r j * a c k) else 0:=sm_congr fun i hi=>by
  by_cases e:i = r
  · subst e
    rw [if_pos rfl,T_use_r,use_at]
    grind
  · rw [if_neg e,<- Int.mul_assoc,T_use h hr hi e,use_no e]
    grind
 rw [sm_mul,sm_add,sm_add,sm_mul,sm_mul,<- h j k hk,<- h c k hk,sm_one hr fun p _ hp=>if_neg hp,if_pos rfl] at e
 refine Int.eq_of_mul_eq_mul_left d ?_
 rw [e,D_use]
 grind
structure Task (n L:Nat) (a:Nat->Vec):Prop where
 lot:∀ j,j < L->a j n = -1/\(∀ k,k < n->0<=a j k)/\∃ k,k < n/\0 < a j k
 one:∀ p,p < n->∀ k,k < n + 1->a (L + p) k = if p = k then 1 else 0
 many:a (L + n) n = 0/\∀ k,k < n->0<=a (L + n) k
 sum:∀ k,k < n + 1->a (L + n + 1) k = if n = k then 1 else 0
structure Bs (n L:Nat) (a:Nat->Vec) (S:Nat->Nat):Prop where
 sp:Span n a S
 pos:0 < D n a S
 lt:∀ i,i < n->S i < L + n
 ob:S n = L + n + 1
 fe:∀ i,i < n->0<=T n a S i (L + n)
theorem Bs.inj (b:Bs n L a S) {i p:Nat} (hi:i < n + 1) (hp:p < n + 1) (e:S i = S p):i = p:=by
 by_cases h:i = p
 · exact h
 · have:=b.pos
   rw [D,det_alt hi hp h (by unfold col;rw [e])] at this
   exact absurd this (Int.lt_irrefl _)
def isCol (n L:Nat) (a:Nat->Vec) (S:Nat->Nat) (c:Nat):Prop:=c < L + n + 1/\T n a S n c < 0/\∀ j,j < c->0<=T n a S n j
def before (n L:Nat) (a:Nat->Vec) (S:Nat->Nat) (c i p:Nat):Prop:=
 T n a S i (L + n) * T n a S p c < T n a S p (L + n) * T n a S i c\/(T n a S i (L + n) * T n a S p c = T n a S p (L + n) * T n a S i c/\S i < S p)
def isRow (n L:Nat) (a:Nat->Vec) (S:Nat->Nat) (c r:Nat):Prop:=r < n/\0 < T n a S r c/\∀ i,i < n->0 < T n a S i c->¬ before n L a S c i r
theorem Task.pos (t:Task n L a) {j k:Nat} (hj:j < L + n) (hk:k < n):0<=a j k:=by
 by_cases h:j < L
 · exact (t.lot j h).2.1 k hk
 · have:=t.one (j - L) (by omega) k (by omega)
   rw [show L + (j - L) = j by omega] at this
   rw [this];split <;> omega
theorem Task.low (t:Task n L a) {j:Nat} (hj:j < L + n):a j n = if j < L then -1 else 0:=by
 by_cases h:j < L
 · rw [if_pos h];exact (t.lot j h).1
 · have:=t.one (j - L) (by omega) n (by omega)
   rw [show L + (j - L) = j by omega,if_neg (by omega)] at this
   rw [this,if_neg h]
theorem Task.up (t:Task n L a) {j:Nat} (hj:j < L + n):∃ k,k < n/\0 < a j k:=by
 by_cases h:j < L
 · exact (t.lot j h).2.2
 · have:=t.one (j - L) (by omega) (j - L) (by omega)
   rw [show L + (j - L) = j by omega,if_pos rfl] at this
   exact⟨j - L,by omega,by rw [this];omega⟩
theorem Task.sum0 (t:Task n L a) {k:Nat} (hk:k < n):a (L + n + 1) k = 0:=by rw [t.sum k (by omega),if_neg (by omega)]
theorem Task.sum1 (t:Task n L a):a (L + n + 1) n = 1:=by rw [t.sum n (by omega),if_pos rfl]
theorem Bs.total (b:Bs n L a S) (t:Task n L a):T n a S n (L + n) = sm n fun i=>if S i < L then T n a S i (L + n) else 0:=by
 have e:=b.sp (L + n) n (by omega)
 rw [t.many.1,Int.mul_zero,sm,b.ob,t.sum1,Int.mul_one,sm_congr (g:=fun i=>-1 * if S i < L then T n a S i (L + n) else 0) fun i hi=>?_,sm_mul] at e
 · omega
 · rw [t.low (b.lt i hi)]
   split <;> omega
theorem Bs.total_pos (b:Bs n L a S) (t:Task n L a):0<=T n a S n (L + n):=by
 rw [b.total t]
 exact sm_nonneg fun i hi=>by
  split
  · exact b.fe i hi
  · omega
theorem isCol.lt {c:Nat} (h:isCol n L a S c) (b:Bs n L a S) (t:Task n L a):c < L + n:=by
 have h1:=h.1
 by_cases e:c = L + n
 · have:=h.2.1
   have:=b.total_pos t
   rw [<- e] at this
   omega
 · omega
theorem Bs.row (b:Bs n L a S) (t:Task n L a) {c:Nat} (hc:c < L + n):∃ i,i < n/\0 < T n a S i c:=by
 obtain⟨k,hk,h⟩:=t.up hc
 have e:=b.sp c k (by omega)
 rw [sm,b.ob,t.sum0 hk,Int.mul_zero,Int.add_zero] at e
 have h2:=Int.mul_pos b.pos h
 rw [e] at h2
 obtain⟨i,hi,h3⟩:=sm_pos h2
 refine⟨i,hi,?_⟩
 have h4:=t.pos (b.lt i hi) hk
 rcases Int.lt_or_le 0 (T n a S i c) with h5 | h5
 · exact h5
 · have:=Int.mul_nonpos_of_nonpos_of_nonneg h5 h4
   omega
theorem Bs.next (b:Bs n L a S) {c r:Nat} (hc:c < L + n) (hr:isRow n L a S c r):Bs n L a (use S r c) where
 sp:=b.sp.use (by have:=b.pos;omega) (by have:=hr.1;omega)
 pos:=by rw [D_use];exact hr.2.1
 lt:=fun i hi=>by unfold use;split
                  · exact hc
                  · exact b.lt i hi
 ob:=by rw [use_no (by have:=hr.1;omega)];exact b.ob
 fe:=fun i hi=>by
  have hr1:=hr.1
  by_cases e:i = r
  · subst e;rw [T_use_r];exact b.fe i hi
  · have h1:=T_use (j:=L + n) (c:=c) b.sp (show r < n + 1 by omega) (show i < n + 1 by omega) e
    have h2:0<=D n a S * T n a (use S r c) i (L + n):=by
     rw [h1]
     have f1:=b.fe i hi
     have f2:=b.fe r hr1
     rcases Int.lt_or_le 0 (T n a S i c) with h | h
     · have:=hr.2.2 i hi h
       unfold before at this
       have:¬ T n a S i (L + n) * T n a S r c < T n a S r (L + n) * T n a S i c:=fun z=>this (.inl z)
       rw [Int.mul_comm (T n a S i c)]
       omega
     · have g1:=Int.mul_nonneg f1 (Int.le_of_lt hr.2.1)
       have g2:=Int.mul_nonpos_of_nonpos_of_nonneg h f2
       omega
    exact Int.le_of_mul_le_mul_left (by rw [Int.mul_zero];exact h2) b.pos
theorem most_ex {P:Nat->Prop}{B:Nat} (hB:∀ c,P c->c < B):∀ (d c:Nat),P c->B<=c + d->∃ t,P t/\∀ c,P c->c<=t
 | 0,c,h,hd=>by have:=hB c h;omega
 | d + 1,c,h,hd=>by
  by_cases e:∃ c',P c'/\c < c'
  · obtain⟨c',h1,h2⟩:=e
    exact most_ex hB d c' h1 (by omega)
  · exact⟨c,h,fun c' h'=>by
     rcases Nat.lt_or_ge c c' with z | z
     · exact absurd ⟨c',h',z⟩ e
     · exact z⟩
def Stp (n L:Nat) (a:Nat->Vec) (S S':Nat->Nat):Prop:=∃ c r,isCol n L a S c/\isRow n L a S c r/\S' = use S r c
def Basic (n:Nat) (S:Nat->Nat) (v:Nat):Prop:=∃ i,i < n/\S i = v
theorem isCol.new {c:Nat} (h:isCol n L a S c):¬ Basic n S c:=fun⟨i,hi,e⟩=>by
 have:=h.2.1
 rw [<- e,T_self (by omega) (by omega),if_neg (by omega)] at this
 exact absurd this (Int.lt_irrefl _)
def Le (n L:Nat) (a:Nat->Vec) (S S':Nat->Nat):Prop:=T n a S n (L + n) * D n a S'<=T n a S' n (L + n) * D n a S
theorem Le.trans {S1 S2 S3:Nat->Nat} (h:Le n L a S1 S2) (h':Le n L a S2 S3) (b1:0 < D n a S1) (b2:0 < D n a S2) (b3:0 < D n a S3):Le n L a S1 S3:=by
 unfold Le at *
 generalize T n a S1 n (L + n) = t1 at *
 generalize T n a S2 n (L + n) = t2 at *
 generalize T n a S3 n (L + n) = t3 at *
 generalize D n a S1 = d1 at *
 generalize D n a S2 = d2 at *
 generalize D n a S3 = d3 at *
 refine Int.le_of_mul_le_mul_left (a:=d2) ?_ b2
 have g1:=Int.mul_le_mul_of_nonneg_right h (Int.le_of_lt b3)
 have g2:=Int.mul_le_mul_of_nonneg_right h' (Int.le_of_lt b1)
 grind
theorem step_val {c r:Nat} (b:Bs n L a S) (hr:isRow n L a S c r):T n a (use S r c) n (L + n) * D n a S = T n a S n (L + n) * D n a (use S r c) + - (T n a S n c * T n a S r (L + n)):=by
 have hr1:=hr.1
 have:=T_use (j:=L + n) (c:=c) b.sp (show r < n + 1 by omega) (Nat.lt_succ_self n) (by omega)
 rw [D_use,Int.mul_comm,this]
 omega
theorem Stp.le {S':Nat->Nat} (b:Bs n L a S) (h:Stp n L a S S'):Le n L a S S':=by
 obtain⟨c,r,hc,hr,rfl⟩:=h
 unfold Le
 have:=step_val b hr
 have:=Int.mul_nonpos_of_nonpos_of_nonneg (Int.le_of_lt hc.2.1) (b.fe r hr.1)
 omega
def Zr (n L:Nat) (a:Nat->Vec) (S:Nat->Nat) (v:Nat):Prop:=∀ i,i < n->S i = v->T n a S i (L + n) = 0
theorem Zr.use {c r v:Nat} (b:Bs n L a S) (hr:isRow n L a S c r) (z:T n a S r (L + n) = 0):Zr n L a S v↔Zr n L a (use S r c) v:=by
 have hr1:=hr.1
 have key:∀ i,i < n->i≠r->D n a S * T n a (Spx.use S r c) i (L + n) = T n a S i (L + n) * T n a S r c:=fun i hi ne=>by
  rw [T_use b.sp (by omega) (by omega) ne,z,Int.mul_zero,Int.sub_zero]
 constructor
 · intro h i hi e
   by_cases ne:i = r
   · subst ne;rw [T_use_r];exact z
   · rw [use_no ne] at e
     have:=key i hi ne
     rw [h i hi e,Int.zero_mul] at this
     rcases Int.mul_eq_zero.mp this with w | w
     · have:=b.pos;omega
     · exact w
 · intro h i hi e
   by_cases ne:i = r
   · subst ne;exact z
   · have:=key i hi ne
     rw [h i hi (by rw [use_no ne];exact e),Int.mul_zero] at this
     rcases Int.mul_eq_zero.mp this.symm with w | w
     · exact w
     · have:=hr.2.1;omega
section
variable {f:Nat->Nat->Nat}{x y:Nat}
structure Run (n L:Nat) (a:Nat->Vec) (f:Nat->Nat->Nat) (x y:Nat):Prop where
 b:∀ k,x<=k->k<=y->Bs n L a (f k)
 s:∀ k,x<=k->k < y->Stp n L a (f k) (f (k + 1))
theorem Run.enter (R:Run n L a f x y) {v p:Nat} (hp:x<=p) (h0:¬ Basic n (f p) v):∀ d,p + d<=y->Basic n (f (p + d)) v->∃ w,x<=w/\w < y/\isCol n L a (f w) v
 | 0,_,h=>absurd h h0
 | d + 1,hd,h=>by
  by_cases e:Basic n (f (p + d)) v
  · exact R.enter hp h0 d (by omega) e
  · obtain⟨c,r,hc,hr,q⟩:=R.s (p + d) (by omega) (by omega)
    obtain⟨i,hi,ei⟩:=h
    rw [show p + (d + 1) = p + d + 1 by omega,q] at ei
    by_cases z:i = r
    · subst z
      rw [use_at] at ei
      subst ei
      exact⟨p + d,by omega,by omega,hc⟩
    · rw [use_no z] at ei
      exact absurd ⟨i,hi,ei⟩ e
theorem Run.leave (R:Run n L a f x y) {v p:Nat} (hp:x<=p) (h0:Basic n (f p) v):∀ d,p + d<=y->¬ Basic n (f (p + d)) v->∃ w c r,x<=w/\w < y/\isCol n L a (f w) c/\isRow n L a (f w) c r/\f w r = v/\f (w + 1) = use (f w) r c
 | 0,_,h=>absurd h0 h
 | d + 1,hd,h=>by
  by_cases e:Basic n (f (p + d)) v
  · obtain⟨c,r,hc,hr,q⟩:=R.s (p + d) (by omega) (by omega)
    obtain⟨i,hi,ei⟩:=e
    by_cases z:i = r
    · subst z
      exact⟨p + d,c,i,by omega,by omega,hc,hr,ei,q⟩
    · exact absurd ⟨i,hi,by rw [show p + (d + 1) = p + d + 1 by omega,q,use_no z];exact ei⟩ h
  · exact R.leave hp h0 d (by omega) e
theorem Run.le (R:Run n L a f x y) {p:Nat} (hp:x<=p):∀ d,p + d<=y->Le n L a (f p) (f (p + d))
 | 0,_=>Int.le_refl _
 | d + 1,h=>(R.le hp d (by omega)).trans ((R.s (p + d) (by omega) (by omega)).le (R.b _ (by omega) (by omega))) (R.b _ hp (by omega)).pos (R.b _ (by omega) (by omega)).pos (R.b (p + d + 1) (by omega) (by omega)).pos
theorem Run.flat (R:Run n L a f x y) (e:f x = f y) {w c r:Nat} (h1:x<=w) (h2:w < y) (hc:isCol n L a (f w) c) (hr:isRow n L a (f w) c r) (q:f (w + 1) = use (f w) r c):T n a (f w) r (L + n) = 0:=by
 have l1:=R.le (Nat.le_refl x) (w - x) (by omega)
 have l2:=R.le (p:=w + 1) (by omega) (y - (w + 1)) (by omega)
 rw [show x + (w - x) = w by omega] at l1
 rw [show w + 1 + (y - (w + 1)) = y by omega,<- e] at l2
 have l3:=l2.trans l1 (R.b _ (by omega) (by omega)).pos (R.b _ (by omega) (by omega)).pos (R.b _ (by omega) (by omega)).pos
 have b:=R.b w h1 (by omega)
 have v:=step_val b hr
 unfold Le at l3
 rw [q] at l3
 have g1:=b.fe r hr.1
 have g2:=hc.2.1
 rcases Int.lt_or_le 0 (T n a (f w) r (L + n)) with z | z
 · have:=Int.mul_neg_of_neg_of_pos g2 z
   omega
 · omega
theorem Run.zr (R:Run n L a f x y) (e:f x = f y) {v:Nat}:∀ d,x + d<=y->(Zr n L a (f x) v↔Zr n L a (f (x + d)) v)
 | 0,_=>Iff.rfl
 | d + 1,h=>by
  obtain⟨c,r,hc,hr,q⟩:=R.s (x + d) (by omega) (by omega)
  rw [R.zr e d (by omega),show x + (d + 1) = x + d + 1 by omega,q]
  exact Zr.use (R.b _ (by omega) (by omega)) hr (R.flat e (by omega) (by omega) hc hr q)
theorem Run.zr2 (R:Run n L a f x y) (e:f x = f y) {v w w':Nat} (h1:x<=w) (h2:w<=y) (h3:x<=w') (h4:w'<=y) (h:Zr n L a (f w) v):Zr n L a (f w') v:=by
 have:=R.zr (v:=v) e (w - x) (by omega)
 rw [show x + (w - x) = w by omega] at this
 have g:=R.zr (v:=v) e (w' - x) (by omega)
 rw [show x + (w' - x) = w' by omega] at g
 exact g.mp (this.mpr h)
theorem Run.enters (R:Run n L a f x y) (e:f x = f y) {v w w':Nat} (h1:x<=w) (h2:w<=y) (h3:x<=w') (h4:w'<=y) (h:Basic n (f w) v) (h':¬ Basic n (f w') v):∃ u,x<=u/\u < y/\isCol n L a (f u) v:=by
 by_cases q:Basic n (f y) v
 · exact R.enter h3 h' (y - w') (by omega) (by rw [show w' + (y - w') = y by omega];exact q)
 · rw [<- e] at q
   exact R.enter (Nat.le_refl x) q (w - x) (by omega) (by rw [show x + (w - x) = w by omega];exact h)
theorem Run.leaves (R:Run n L a f x y) (e:f x = f y) {v w w':Nat} (h1:x<=w) (h2:w<=y) (h3:x<=w') (h4:w'<=y) (h:Basic n (f w) v) (h':¬ Basic n (f w') v):∃ w c r,x<=w/\w < y/\isCol n L a (f w) c/\isRow n L a (f w) c r/\f w r = v/\f (w + 1) = use (f w) r c:=by
 by_cases q:Basic n (f y) v
 · rw [<- e] at q
   exact R.leave (Nat.le_refl x) q (w' - x) (by omega) (by rw [show x + (w' - x) = w' by omega];exact h')
 · exact R.leave h1 h (y - w) (by omega) (by rw [show w + (y - w) = y by omega];exact q)
theorem Run.no (R:Run n L a f x y) (t:Task n L a) (h:x < y) (e:f x = f y):False:=by
 obtain⟨c0,r0,hc0,_,_⟩:=R.s x (Nat.le_refl x) h
 obtain⟨m,⟨w2,a1,a2,hm⟩,top⟩:=most_ex (P:=fun c=>∃ w,x<=w/\w < y/\isCol n L a (f w) c) (B:=L + n + 1) (fun c ⟨_,_,_,hc⟩=>hc.1) (L + n + 1) c0 ⟨x,Nat.le_refl x,h,hc0⟩ (by omega)
 have bm:Basic n (f (w2 + 1)) m:=by
  obtain⟨c,r,hc,hr,q⟩:=R.s w2 a1 a2
  have:c = m:=by
   rcases Nat.lt_trichotomy c m with z | z | z
   · have:=hm.2.2 c z;have:=hc.2.1;omega
   · exact z
   · have:=hc.2.2 m z;have:=hm.2.1;omega
  subst this
  exact⟨r,hr.1,by rw [q,use_at]⟩
 obtain⟨w1,s,r,c1,c2,hs,hr,em,q⟩:=R.leaves e (w:=w2 + 1) (w':=w2) (by omega) (by omega) a1 (by omega) bm hm.new
 have b1:=R.b w1 c1 (by omega)
 have b2:=R.b w2 a1 (by omega)
 have hr1:=hr.1
 have sm1:s<=m:=top s ⟨w1,c1,c2,hs⟩
 have sm2:s≠m:=fun z=>hs.new ⟨r,hr1,by rw [em,z]⟩
 have zs:=hm.2.2 s (by omega)
 have lin:=T_lin (S:=f w1) (S':=f w2) (i:=n) (j:=s) b1.sp (Nat.lt_succ_self n)
 rw [sm,b1.ob] at lin
 have e1:T n a (f w2) n (L + n + 1) = D n a (f w2):=by
  have:=T_self (a:=a) (S:=f w2) (Nat.lt_succ_self n) (Nat.lt_succ_self n)
  rw [if_pos rfl,b2.ob] at this
  exact this
 rw [e1] at lin
 have g1:=Int.mul_nonneg (Int.le_of_lt b1.pos) zs
 have g2:=Int.mul_neg_of_neg_of_pos hs.2.1 b2.pos
 obtain⟨i,hi,hpos⟩:=sm_pos (f:=fun p=>T n a (f w1) p s * T n a (f w2) n (f w1 p)) (n:=n) (by omega)
 have nb:¬ Basic n (f w2) (f w1 i):=fun⟨p,hp,ep⟩=>by
  rw [<- ep,T_self (Nat.lt_succ_self n) (by omega),if_neg (by omega),Int.mul_zero] at hpos
  exact absurd hpos (Int.lt_irrefl _)
 have en:=top _ (R.enters e c1 (by omega) a1 (by omega) ⟨i,hi,rfl⟩ nb)
 by_cases ei:f w1 i = m
 · have:i = r:=b1.inj (by omega) (by omega) (by rw [ei,em])
   subst this
   rw [ei] at hpos
   have:=Int.mul_neg_of_pos_of_neg hr.2.1 hm.2.1
   omega
 · have p2:=hm.2.2 (f w1 i) (by omega)
   have p1:0 < T n a (f w1) i s:=by
    rcases Int.lt_or_le 0 (T n a (f w1) i s) with z | z
    · exact z
    · have:=Int.mul_nonpos_of_nonpos_of_nonneg z p2
      omega
   have z1:T n a (f w1) i (L + n) = 0:=R.zr2 e (v:=f w1 i) a1 (by omega) c1 (by omega) (fun p hp ep=>absurd ⟨p,hp,ep⟩ nb) i hi rfl
   have z2:=R.flat e c1 c2 hs hr q
   refine hr.2.2 i hi p1 (.inr ⟨by rw [z1,z2,Int.zero_mul,Int.zero_mul],?_⟩)
   rw [em];omega
end
theorem holes:∀ (M:Nat) (g:Nat->Nat),(∀ k,k<=M->g k < M)->∃ p q,p < q/\q<=M/\g p = g q
 | 0,g,h=>absurd (h 0 (Nat.le_refl 0)) (Nat.not_lt_zero _)
 | M + 1,g,h=>by
  by_cases e:∃ p,p < M + 1/\g p = g (M + 1)
  · obtain⟨p,h1,h2⟩:=e
    exact⟨p,M + 1,h1,Nat.le_refl _,h2⟩
  · have hl:=h (M + 1) (Nat.le_refl _)
    obtain⟨p,q,h1,h2,h3⟩:=holes M (fun k=>if g k = M then g (M + 1) else g k) fun k hk=>by
     have h1:=h k (by omega)
     have h2:g k≠g (M + 1):=fun z=>e ⟨k,by omega,z⟩
     split <;> omega
    have n1:g p≠g (M + 1):=fun z=>e ⟨p,by omega,z⟩
    have n2:g q≠g (M + 1):=fun z=>e ⟨q,by omega,z⟩
    refine⟨p,q,h1,by omega,?_⟩
    split at h3 <;> split at h3 <;> omega
def code (B:Nat):List Nat->Nat
 | []=>0
 | x :: xs=>x + B * code B xs
theorem code_lt {B:Nat}:∀ {l:List Nat},(∀ x∈l,x < B)->code B l < B ^ l.length
 | [],_=>Nat.one_pos
 | x :: xs,h=>by
  have h1:=h x (.head _)
  have h2:=code_lt fun y hy=>h y (.tail _ hy)
  rw [code,List.length_cons,Nat.pow_succ,Nat.mul_comm _ B]
  have h3:=Nat.mul_le_mul_left B (Nat.succ_le_of_lt h2)
  rw [Nat.mul_succ] at h3
  omega
theorem code_inj {B:Nat}:∀ {l m:List Nat},l.length = m.length->(∀ x∈l,x < B)->(∀ x∈m,x < B)->code B l = code B m->l = m
 | [],[],_,_,_,_=>rfl
 | x :: xs,y :: ys,hl,h,h',e=>by
  have h1:=h x (.head _)
  have h2:=h' y (.head _)
  rw [code,code] at e
  have e1:x = y:=by
   have:=congrArg (· % B) e
   simp only [Nat.add_mul_mod_self_left,Nat.mod_eq_of_lt h1,Nat.mod_eq_of_lt h2] at this
   exact this
  subst e1
  have e2:code B xs = code B ys:=Nat.eq_of_mul_eq_mul_left (by omega) (Nat.add_left_cancel e)
  rw [code_inj (by simpa using hl) (fun z hz=>h z (.tail _ hz)) (fun z hz=>h' z (.tail _ hz)) e2]
 | [],_ :: _,hl,_,_,_=>by simp at hl
 | _ :: _,[],hl,_,_,_=>by simp at hl
def sOf (n L:Nat) (U:List Nat):Nat->Nat:=fun i=>if i < n then (U[i]?).getD 0 else L + n + 1
theorem sOf_at {U:List Nat}{i:Nat} (h:i < n) (hU:U.length = n):U[i]? = some (sOf n L U i):=by
 unfold sOf
 rw [if_pos h,List.getElem?_eq_getElem (by omega)];rfl
theorem sOf_set {U:List Nat}{r c:Nat} (hr:r < n) (hU:U.length = n):sOf n L (U.set r c) = use (sOf n L U) r c:=by
 funext i
 unfold sOf use
 by_cases e:i = r
 · subst e;rw [if_pos hr,if_pos rfl,List.getElem?_set_self (by omega)];rfl
 · rw [if_neg e,List.getElem?_set_ne (Ne.symm e)]
structure Us (n L:Nat) (a:Nat->Vec) (U:List Nat):Prop where
 len:U.length = n
 b:Bs n L a (sOf n L U)
def Nx (n L:Nat) (a:Nat->Vec) (U V:List Nat):Prop:=∃ c r,isCol n L a (sOf n L U) c/\isRow n L a (sOf n L U) c r/\V = U.set r c
theorem Us.next {U V:List Nat} (h:Us n L a U) (t:Task n L a) (x:Nx n L a U V):Us n L a V:=by
 obtain⟨c,r,hc,hr,rfl⟩:=x
 exact⟨by rw [List.length_set];exact h.len,by rw [sOf_set hr.1 h.len];exact h.b.next (hc.lt h.b t) hr⟩
theorem Us.lt {U:List Nat} (h:Us n L a U):∀ x∈U,x < L + n:=fun x hx=>by
 obtain⟨i,hi,rfl⟩:=List.getElem_of_mem hx
 have hi':i < n:=by have:=h.len;omega
 have:=sOf_at (L:=L) hi' h.len
 rw [List.getElem?_eq_getElem hi] at this
 rw [Option.some.inj this]
 exact h.b.lt i hi'
def Lim (n L:Nat) (a:Nat->Vec):Nat->List Nat->Prop
 | 0,_=>False
 | m + 1,U=>∀ V,Nx n L a U V->Lim n L a m V
theorem chain:∀ {m:Nat}{U:List Nat},¬ Lim n L a m U->∃ g:Nat->List Nat,g 0 = U/\∀ k,k < m->Nx n L a (g k) (g (k + 1))
 | 0,U,_=>⟨fun _=>U,rfl,fun k hk=>absurd hk (Nat.not_lt_zero _)⟩
 | m + 1,U,h=>by
  have:∃ V,Nx n L a U V/\¬ Lim n L a m V:=Classical.byContradiction fun z=>h fun V hV=>Classical.byContradiction fun w=>z ⟨V,hV,w⟩
  obtain⟨V,h1,h2⟩:=this
  obtain⟨g,g0,hg⟩:=chain h2
  refine⟨fun k=>match k with | 0=>U | k + 1=>g k,rfl,fun k hk=>?_⟩
  match k,hk with
  | 0,_=>show Nx n L a U (g 0);rw [g0];exact h1
  | k + 1,hk=>exact hg k (by omega)
theorem Us.ends {U:List Nat} (h:Us n L a U) (t:Task n L a):∃ m,Lim n L a m U:=by
 refine⟨(L + n) ^ n,Classical.byContradiction fun z=>?_⟩
 obtain⟨g,g0,hg⟩:=chain z
 have hu:∀ k,k<=(L + n) ^ n->Us n L a (g k):=fun k=>by
  induction k with
  | zero=>intro _;rw [g0];exact h
  | succ k ih=>exact fun hk=>(ih (by omega)).next t (hg k (by omega))
 obtain⟨p,q,h1,h2,h3⟩:=holes ((L + n) ^ n) (fun k=>code (L + n) (g k)) fun k hk=>by
  have:=code_lt (hu k hk).lt
  rw [(hu k hk).len] at this
  exact this
 have e:g p = g q:=code_inj (by rw [(hu p (by omega)).len,(hu q h2).len]) (hu p (by omega)).lt (hu q h2).lt h3
 refine Run.no (f:=fun k=>sOf n L (g k)) (x:=p) (y:=q) ⟨fun k _ hk=>(hu k (by omega)).b,fun k _ hk=>?_⟩ t h1 (by show sOf n L (g p) = _;rw [e])
 obtain⟨c,r,hc,hr,hV⟩:=hg k (by omega)
 exact⟨c,r,hc,hr,by rw [hV,sOf_set hr.1 (hu k (by omega)).len]⟩
def U0 (n L:Nat):List Nat:=(List.range n).map (L + ·)
theorem U0_at {i:Nat} (h:i < n):sOf n L (U0 n L) i = L + i:=by
 unfold sOf U0
 rw [if_pos h,List.getElem?_map,List.getElem?_range h];rfl
theorem col0 (t:Task n L a):∀ i k,i < n + 1->k < n + 1->col a (sOf n L (U0 n L)) i k = if i = k then 1 else 0:=fun i k hi hk=>by
 unfold col
 by_cases e:i < n
 · rw [U0_at e,t.one i e k hk]
 · obtain rfl:i = n:=by omega
   rw [show sOf i L (U0 i L) i = L + i + 1 from if_neg e,t.sum k hk]
theorem T0 (t:Task n L a) {i j:Nat} (hi:i < n + 1):T n a (sOf n L (U0 n L)) i j = a j i:=by
 have:T n a (sOf n L (U0 n L)) i j = det (n + 1) (put (fun i k=>if i = k then 1 else 0) i (a j)):=det_congr fun p k hp hk=>by
  unfold put
  split
  · rfl
  · exact col0 t p k hp hk
 rw [this,det_pick hi]
theorem D0 (t:Task n L a):D n a (sOf n L (U0 n L)) = 1:=by rw [D,det_congr (col0 t),det_unit]
theorem Us.first (t:Task n L a):Us n L a (U0 n L) where
 len:=by simp [U0]
 b:={
  sp:=fun j k hk=>by
   rw [D0 t,Int.one_mul,sm_congr (g:=fun i=>a j i * if i = k then 1 else 0) fun i hi=>by rw [T0 t hi];exact congrArg _ (col0 t i k hi hk)]
   rw [sm_one hk fun p _ hp=>by rw [if_neg hp,Int.mul_zero],if_pos rfl,Int.mul_one]
  pos:=by rw [D0 t];exact Int.one_pos
  lt:=fun i hi=>by rw [U0_at hi];omega
  ob:=if_neg (Nat.lt_irrefl n)
  fe:=fun i hi=>by rw [T0 t (by omega)];exact t.many.2 i hi }
theorem Bs.low (b:Bs n L a S) (t:Task n L a) {j:Nat}:T n a S n j = sm n (fun k=>T n a S n (L + k) * a j k) + D n a S * a j n:=by
 have h:∀ k,k < n + 1->a j k = (fun k=>sm (n + 1) fun p=>a j p * (if p = k then 1 else 0:Int)) k:=fun k hk=>by
  show _ = sm (n + 1) _
  rw [sm_one hk fun p _ hp=>by rw [if_neg hp,Int.mul_zero],if_pos rfl,Int.mul_one]
 have e:T n a S n j = sm (n + 1) fun p=>a j p * det (n + 1) (put (col a S) n fun k=>if p = k then 1 else 0):=by
  unfold T
  rw [det_putc h,det_sum (Nat.lt_succ_self n) (w:=fun p k=>if p = k then 1 else 0)]
 rw [e,sm]
 congr 1
 · refine sm_congr fun k hk=>?_
   rw [Int.mul_comm]
   congr 1
   exact det_putc fun i hi=>(t.one k hk i hi).symm
 · rw [Int.mul_comm]
   congr 1
   have:=T_self (a:=a) (S:=S) (Nat.lt_succ_self n) (Nat.lt_succ_self n)
   rw [if_pos rfl,b.ob] at this
   rw [<- this]
   exact det_putc fun i hi=>(t.sum i hi).symm
theorem Bs.cost (b:Bs n L a S) (t:Task n L a) {j:Nat} (h:j < L):T n a S n j + D n a S = sm n fun k=>T n a S n (L + k) * a j k:=by
 rw [b.low t,(t.lot j h).1];omega
theorem Bs.worth (b:Bs n L a S) (t:Task n L a):T n a S n (L + n) = sm n fun k=>T n a S n (L + k) * a (L + n) k:=by
 rw [b.low t,t.many.1];omega
theorem Bs.used (b:Bs n L a S) (t:Task n L a) {k:Nat} (h:k < n):D n a S * a (L + n) k = sm n fun i=>T n a S i (L + n) * a (S i) k:=by
 have:=b.sp (L + n) k (by omega)
 rw [sm,b.ob,t.sum0 h,Int.mul_zero,Int.add_zero] at this
 exact this
end
end Spx
end Br
namespace Br
open PySem PySem.Spec PySem.Calls PyProof.Rows L2
section
variable {X:Cx}
def rSortUs (K:PySem.W.Frag):List V->Hp->VK->Prop:=fun xs H Q=>∃ (p:Addr) (as:List Addr) (ws:List (List Int)),xs = [.ref p]/\(SqL K H p (as.map V.ref)\/SqT K H p (as.map V.ref))/\as.length < 64/\as.length = ws.length/\(∀ (i:Nat) a,as[i]? = some a->∃ w,ws[i]? = some w/\H a = some (.tup (w.map V.int)))/\
 (2<=ws.length->∀ w∈ws,w≠[])/\∀ (l:Addr) (bs:List Addr) (us:List (List Int)) (H':Hp),H l = none->L2.Same H H'->H' l = some (.lst (bs.map V.ref))->(bs.zip us).Perm (as.zip ws)->bs.length = us.length->us.Pairwise (fun u v=>HT.lexLt v u = false)->Q (.ref l) H'
theorem call_sortUs:CallR X (.builtin "sorted") (rSortUs X.K):=by
 intro pins s σ H xs us Q I r h
 obtain⟨p,as,ws,e1,hq,h64,hlen,hat,hne,q⟩:=h
 subst e1
 obtain⟨u,rfl,rx⟩:=vals1 r
 cases rx
 obtain⟨its,o,T,cn,rv,hT,ho,hcl,hd,hz⟩:=seq_obj I hq
 have hits:its = (as.zip ws).map (fun z=>Value.ref z.1):=by
  rw [vals_refs rv]
  have:(as.zip ws).map (·.1) = as:=List.map_fst_zip (by omega)
  calc as.map Value.ref = ((as.zip ws).map (·.1)).map Value.ref:=by rw [this]
   _ = _:=by rw [List.map_map];rfl
 have hzl:(as.zip ws).length = as.length:=by rw [List.length_zip];omega
 have each:∀ z∈as.zip ws,H z.1 = some (.tup (z.2.map V.int))/\z.2∈ws:=fun z hz=>by
  obtain⟨i,hi,e⟩:=List.getElem_of_mem hz
  have e':(as.zip ws)[i]? = some z:=by rw [List.getElem?_eq_getElem hi,e]
  rw [List.getElem?_zip_eq_some] at e'
  obtain⟨w,h1,h2⟩:=hat i z.1 e'.1
  rw [e'.2] at h1;cases h1
  exact⟨h2,List.mem_of_getElem? e'.2⟩
 subst hits
 refine sorted_genS (α:=Addr×List Int) (zs:=as.zip ws) (f:=fun z=>.ref z.1) (g:=fun z=>.ref z.1) (fun x y=>HT.lexLt (tkey H x.1) (tkey H y.1)) (ord_lex fun x=>tkey H x.1) I (fun z _=>rfl) ⟨o,T,cn,hT,ho,hcl,hd,by rw [List.length_map] at hz;omega⟩ (fun h2 h6 old=>?_) fun l ys H' n1 s1 e1 hp hs=>?_
 · rw [hzl] at h2
   have tup:∀ z∈as.zip ws,∃ its:List Value,IntsAre its z.2/\IsTup h6 z.1 its.toArray:=fun z hz=>by
    obtain⟨its,rt,⟨o,ho,hc,n,hd⟩,_⟩:=I.tuple (SqT.of (each z hz).1)
    exact⟨its,vals_ints rt,o,old z.1 o (by rw [(each z hz).1];exact fun z=>nomatch z) ho,hc,n,hd⟩
   have kt:∀ l:List (Addr×List Int),(∀ z∈l,z∈as.zip ws)->∃ fs:List Value,PySem.W.KatTups h6 (l.map fun z=>Value.ref z.1) fs/\fs.length = l.length/\∀ v∈fs,∃ n t,v = Value.int n t:=fun l=>by
    induction l with
    | nil=>exact fun _=>⟨[],trivial,rfl,fun v hv=>nomatch hv⟩
    | cons a l ih=>
     intro hl
     obtain⟨fs,f1,f2,f3⟩:=ih fun b hb=>hl b (.tail _ hb)
     obtain⟨its,hi,o,ho,hc,n,hd⟩:=tup a (hl a (.head _))
     have hnn:=hne (by omega) a.2 (each a (hl a (.head _))).2
     obtain⟨aa,aw⟩:=a
     cases hi with
     | nil=>exact absurd rfl hnn
     | cons n0 t0 r0=>exact⟨.int n0 t0 :: fs,PySem.W.KatTups.cons ho hc hd (by simp) f1,by simp [f2],fun v hv=>by
      rcases List.mem_cons.mp hv with z | z
      · exact⟨_,_,z⟩
      · exact f3 v z⟩
   obtain⟨fs,f1,f2,f3⟩:=kt (as.zip ws) fun _ h=>h
   refine⟨tuples' true,fun Q E hQ=>PySem.W.kat_kind (T:=.type "int") f1 (by omega) (fun v hv=>by obtain⟨n,t,rfl⟩:=f3 v hv;exact .now) (by decide) hQ,fun x y hx hy Q E hQ=>?_⟩
   rw [pairs_map] at hx hy
   obtain⟨z1,m1,e1⟩:=List.mem_map.mp hx
   obtain⟨z2,m2,e2⟩:=List.mem_map.mp hy
   obtain⟨it1,i1,o1,ho1,_,n1,hd1⟩:=tup z1 m1
   obtain⟨it2,i2,o2,ho2,_,n2,hd2⟩:=tup z2 m2
   rw [<- e1,<- e2] at hQ ⊢
   have hQ:Q (HT.lexLt (tkey H (.ref z1.1)) (tkey H (.ref z2.1))) _:=hQ
   rw [tkey_of (each z1 m1).1,tkey_of (each z2 m2).1] at hQ
   refine PySem.W.kat_lt ho1 hd1 ho2 hd2 (katLex_ints rfl ?_ ?_ ?_ hQ)
   · simpa using i1
   · simpa using i2
   · have:=i1.length;have:=i2.length;simp;omega
 · refine q l (ys.map (·.1)) (ys.map (·.2)) H' n1 s1 ?_ ?_ (by rw [List.length_map,List.length_map]) ?_
   · rw [e1,List.map_map];rfl
   · have:(ys.map (·.1)).zip (ys.map (·.2)) = ys:=by
      clear hp hs e1
      induction ys with
      | nil=>rfl
      | cons y ys ih=>rw [List.map_cons,List.map_cons,List.zip_cons_cons,ih]
     rw [this];exact hp
   · rw [List.pairwise_map] at hs ⊢
     refine List.Pairwise.imp_of_mem (fun {a b} ha hb h=>?_) hs
     have h:HT.lexLt (tkey H (.ref b.1)) (tkey H (.ref a.1)) = false:=h
     rw [tkey_of (each b (hp.mem_iff.mp hb)).1,tkey_of (each a (hp.mem_iff.mp ha)).1] at h
     exact h
end
section
variable {X:Cx}{K:PySem.W.Frag}{e:Expr}{es:List Expr}{t:TA}{pos p:Pos}{x:Str} (hg:Gl X x) (he:starEach (e :: es) X.env = (false,eval e X.env) :: starEach es X.env) (hpl:(backTo pos (starEach es X.env)).any (·.1) = false)
include hg he hpl
theorem k_sortedUs (hK:X.K = K) (hx:x = "sorted") (hm:X.mg x = none) (ha:JA X (e :: es) t):JE X (.Call (.Name x p) (e :: es) [] pos) (tCB (rSortUs K) t):=hK▸⟨by subst hx;exact pe_callB call_sortUs hg hm boot_sorted ha.h (by decide) (by decide) he hpl⟩
end
section
variable {X:Cx}{K:PySem.W.Frag}{o e:Expr}{to:TE}{t:TA}{apos cpos:Pos}
def tCountB (K:PySem.W.Frag) (to:TE) (t:TA):TE:=fun σ H Q=>to σ H fun x H1=>(∃ (l:Addr) (ns:List Int),x = .ref l/\H1 l = some (.tup (ns.map V.int)))/\t σ H1 fun xs H2=>rCountT K x xs H2 Q
theorem pe_countB (ho:PE X o to) (ha:PA X [e] t) (hbase:attributeBase o "count" X.env (eval o X.env) = eval o X.env) (hfew:((backTo cpos (starEach [e] X.env)).all (fun x=>!x.1) && (backToKw cpos (keywordEach [] X.env)).all (fun x=>x.1.isSome)
 && decide (([e]:List Expr).length + ([]:List Keyword).length + (if ([]:List Keyword).isEmpty then 0 else 1) < 30)) = true) (hline:(apos.endLine == cpos.line) = true) (hs:starEach [e] X.env = (false,eval e X.env) :: starEach [] X.env)
 (hpl:(backTo cpos (starEach [] X.env)).any (·.1) = false):PE X (.Call (.Attribute o "count" apos) [e] [] cpos) (tCountB X.K to t):=by
 intro pins s σ H Q I h
 refine wpAny_Call_method_late hbase hfew hline rfl (thn (ho pins s σ H _ I h) fun v s1 ⟨x,H1,I1,r1,⟨l,ns,e1,hl⟩,q1⟩=>?_)
 subst e1
 cases r1
 obtain⟨_,its,_,ob,hg,hc,hd,n,hi⟩:=(show ObjOk X.prog X.w H1 s1.heap l (.tup (ns.map V.int)) from I1.hok l _ hl)
 refine⟨"tuple","tuple.count",PySem.F.plainAttrs_tuple,PySem.F.slot_tuple_count,PySem.F.type_tuple_count,⟨_,hg,hc⟩,fun a e=>by cases e;exact⟨_,hg,hd⟩,?_⟩
 have hA:=ha cpos pins s1 σ H1 _ I1 q1
 rw [hs] at hA ⊢
 refine Calls.callWith_builtin (by show (false || (backTo cpos (starEach [] X.env)).any (·.1)) = false;rw [hpl] <;> rfl) (Calls.evalArgs_plain ?_)
 exact thn hA fun us s2 ⟨vs,H2,I2,r2,q2⟩=>mt_countT pins s2 σ H2 (.ref l) vs _ us Q I2 rfl r2 q2
theorem k_countB (hK:X.K = K) (hbase:attributeBase o "count" X.env (eval o X.env) = eval o X.env) (hfew:((backTo cpos (starEach [e] X.env)).all (fun x=>!x.1) && (backToKw cpos (keywordEach [] X.env)).all (fun x=>x.1.isSome)
 && decide (([e]:List Expr).length + ([]:List Keyword).length + (if ([]:List Keyword).isEmpty then 0 else 1) < 30)) = true) (hline:(apos.endLine == cpos.line) = true) (hs:starEach [e] X.env = (false,eval e X.env) :: starEach [] X.env)
 (hpl:(backTo cpos (starEach [] X.env)).any (·.1) = false) (ho:JE X o to) (ha:JA X [e] t):JE X (.Call (.Attribute o "count" apos) [e] [] cpos) (tCountB K to t):=hK▸⟨pe_countB ho.h ha.h hbase hfew hline hs hpl⟩
theorem g_tup12 {px py pz pt pt2:Pos}{x y z:Str}{i j k kt kt2:Nat} (hi:At X.N i x) (hj:At X.N j y) (hk:At X.N k z) (hc:X.calm = true) (hN:X.N.Nodup) (hx:Loc X.env.scope x) (hy:Loc X.env.scope y) (hz:Loc X.env.scope z) (fx:X.fn x = true) (fy:X.fn y = true) (fz:X.fn z = true)
 (h1:(assignEach [.Name x px,.Tuple [.Name y py,.Name z pz] kt2 pt2] X.env).map (·.2) = assign (.Name x px) X.env :: (assignEach [.Tuple [.Name y py,.Name z pz] kt2 pt2] X.env).map (·.2))
 (h2:(assignEach [.Tuple [.Name y py,.Name z pz] kt2 pt2] X.env).map (·.2) = assign (.Tuple [.Name y py,.Name z pz] kt2 pt2) X.env :: (assignEach [] X.env).map (·.2))
 (hn:(assignEach [.Name x px,.Tuple [.Name y py,.Name z pz] kt2 pt2] X.env).length = 2) (hst:(assignEach [.Name x px,.Tuple [.Name y py,.Name z pz] kt2 pt2] X.env).findIdx? (·.1) = none)
 (h3:(assignEach [.Name y py,.Name z pz] X.env).map (·.2) = assign (.Name y py) X.env :: (assignEach [.Name z pz] X.env).map (·.2))
 (h4:(assignEach [.Name z pz] X.env).map (·.2) = assign (.Name z pz) X.env :: (assignEach [] X.env).map (·.2))
 (hn2:(assignEach [.Name y py,.Name z pz] X.env).length = 2) (hst2:(assignEach [.Name y py,.Name z pz] X.env).findIdx? (·.1) = none):
 JG X (.Tuple [.Name x px,.Tuple [.Name y py,.Name z pz] kt2 pt2] kt pt) (gTup X.K 2 (gCons (gName i) (gCons (gTup X.K 2 (gCons (gName j) (gCons (gName k) gNil))) gNil))):=
 ⟨pg_tup hc (pgs_cons (pg_name hN hi.get hx (.inl fx)) (pgs_cons (pg_tup hc (pgs_cons (pg_name hN hj.get hy (.inl fy)) (pgs_cons (pg_name hN hk.get hz (.inl fz)) pgs_nil h4) h3) hn2 hst2) pgs_nil h2) h1) hn hst⟩
theorem s_unpack3C {px py pz pt spos:Pos}{x y z:Str}{i j k kt:Nat}{te:TE} (hi:At X.N i x) (hj:At X.N j y) (hk:At X.N k z) (hc:X.calm = true) (hN:X.N.Nodup) (hx:Loc X.env.scope x) (hy:Loc X.env.scope y) (hz:Loc X.env.scope z) (fx:X.fn x = true) (fy:X.fn y = true) (fz:X.fn z = true)
 (h1:(assignEach [.Name x px,.Name y py,.Name z pz] X.env).map (·.2) = assign (.Name x px) X.env :: (assignEach [.Name y py,.Name z pz] X.env).map (·.2))
 (h2:(assignEach [.Name y py,.Name z pz] X.env).map (·.2) = assign (.Name y py) X.env :: (assignEach [.Name z pz] X.env).map (·.2))
 (h3:(assignEach [.Name z pz] X.env).map (·.2) = assign (.Name z pz) X.env :: (assignEach [] X.env).map (·.2))
 (hn:(assignEach [.Name x px,.Name y py,.Name z pz] X.env).length = 3) (hst:(assignEach [.Name x px,.Name y py,.Name z pz] X.env).findIdx? (·.1) = none)
 (hs:swapsWithSole [.Tuple [.Name x px,.Name y py,.Name z pz] kt pt] e spos.line X.env = pure false) (hw:swappedStores [.Tuple [.Name x px,.Name y py,.Name z pz] kt pt] e X.env = pure none)
 (h4:(assignEach [.Tuple [.Name x px,.Name y py,.Name z pz] kt pt] X.env).map (·.2) = [assign (.Tuple [.Name x px,.Name y py,.Name z pz] kt pt) X.env]) (he:JE X e te):
 JS X (.Assign [.Tuple [.Name x px,.Name y py,.Name z pz] kt pt] e spos) (tAsg te (gTup X.K 3 (gCons (gName i) (gCons (gName j) (gCons (gName k) gNil))))):=
 ⟨ps_asg he.h (pg_tup hc (pgs_cons (pg_name hN hi.get hx (.inl fx)) (pgs_cons (pg_name hN hj.get hy (.inl fy)) (pgs_cons (pg_name hN hk.get hz (.inl fz)) pgs_nil h3) h2) h1) hn hst) hs hw h4⟩
end
section
variable {K:PySem.W.Frag}{a:Addr}{xs:List V}{g:TG}{tt:TT}{te:TE}{tb:TS}{D:Ends}{σ0:L2.St}{H0:Hp}{f:Bool}{Z:List V->Hp->Prop}
theorem for_seq (q:ZG.SqS f K H0 a xs) (Pv:Nat->L2.St->Hp->Prop) (h0:Pv 0 σ0 H0) (hl:∀ i σ H,i<=xs.length->Pv i σ H->ZG.SqS f K H a xs)
 (hs:∀ i x σ H,xs[i]? = some x->Pv i σ H->g x σ H fun σ2 H2=>tb { D with nx:=Pv (i + 1),ct:=Pv (i + 1),bk:=D.nx } σ2 H2) (hd:∀ σ H,Pv xs.length σ H->D.nx σ H):
 ((∃ xs,SqL K H0 a xs)/\∃ W:Nat->Nat->L2.St->Hp->Prop,(∃ m,W 0 m σ0 H0)/\∀ i m σ H,W i m σ H->
   ((Itl K a).stop i H/\D.nx σ H)\/((Itl K a).go i H/\∃ N:L2.St->Hp->Prop,(∀ σ' H',N σ' H'->∃ m',m' < m/\W (i + 1) m' σ' H')/\∀ x H',(Itl K a).yld i H x H'->g x σ H' fun σ2 H2=>tb { D with nx:=N,ct:=N,bk:=D.nx } σ2 H2))\/
 ((∃ xs,SqT K H0 a xs)/\∃ W:Nat->Nat->L2.St->Hp->Prop,(∃ m,W 0 m σ0 H0)/\∀ i m σ H,W i m σ H->
   ((Itt K a).stop i H/\D.nx σ H)\/((Itt K a).go i H/\∃ N:L2.St->Hp->Prop,(∀ σ' H',N σ' H'->∃ m',m' < m/\W (i + 1) m' σ' H')/\∀ x H',(Itt K a).yld i H x H'->g x σ H' fun σ2 H2=>tb { D with nx:=N,ct:=N,bk:=D.nx } σ2 H2)):=by
 cases f with
 | false=>exact .inl ⟨⟨_,q⟩,for_list Pv h0 hl hs hd⟩
 | true=>exact .inr ⟨⟨_,q⟩,for_tup Pv h0 hl hs hd⟩
theorem cmp_seq (q:ZG.SqS f K H0 a xs) (Pv:Nat->List V->L2.St->Hp->Prop) (h0:Pv 0 [] σ0 H0) (hz:xs.length<=sizeLine) (hl:∀ i ys σ H,i<=xs.length->Pv i ys σ H->ZG.SqS f K H a xs/\ys.length<=i)
 (hs:∀ i x ys σ H (N:List V->L2.St->Hp->Prop),xs[i]? = some x->Pv i ys σ H->(∀ ys' σ' H',Pv (i + 1) ys' σ' H'->N ys' σ' H')->
  g x σ H fun σ3 H3=>tt σ3 H3 fun b H4=>if b = true then te σ3 H4 fun y H5=>N (ys ++ [y]) σ3 H5 else N ys σ3 H4)
 (hd:∀ ys σ H,Pv xs.length ys σ H->Z ys H):((∃ xs,SqL K H0 a xs)/\Cmp (Itl K a) g tt te σ0 H0 Z)\/((∃ xs,SqT K H0 a xs)/\Cmp (Itt K a) g tt te σ0 H0 Z):=by
 cases f with
 | false=>exact .inl ⟨⟨_,q⟩,cmp_list Pv h0 hz hl hs hd⟩
 | true=>exact .inr ⟨⟨_,q⟩,cmp_tup Pv h0 hz hl hs hd⟩
end
def rDInT:R2:=fun y x H Q=>∃ a o,x = .ref a/\DGet H a y o/\Q (.bl o.isSome) H
theorem c_dinT {X:Cx}{k:Nat} (hr:Room k X.A):JCop X .In rDInT:=⟨fun pins s σ H x y v u Q I rx ry h=>by
 obtain⟨a,o,rfl,g,q⟩:=h
 obtain rfl:u = Value.ref a:=ry
 exact d_in (by have:=hr.un;omega) I g rx fun s3 I3=>⟨.bl o.isSome,H,I3,rfl,q⟩⟩
theorem none_of {H G:Hp}{p:Addr} (s:L2.Same H G) (n:G p = none):H p = none:=by
 cases q:H p with
 | none=>rfl
 | some o=>have:=s _ _ q;rw [n] at this;cases this
theorem Bd.mulI {m n:Nat}{i j:Int} (h1:Bd m i) (h2:Bd n j) (hm:m<=8000:=by decide) (hn:n<=8000:=by decide):IntMulOk i j:=IntMulOk.of_bits (bits_of (h1.mono hm)) (bits_of (h2.mono hn))
theorem iteT' {c:Bool}{A B:Prop} (e:c = true) (h:A):if c = true then A else B:=by rw [if_pos e];exact h
theorem iteF' {c:Bool}{A B:Prop} (e:c = false) (h:B):if c = true then A else B:=by rw [if_neg (by rw [e];decide)];exact h
theorem cdiv_small {i j:Int} (h0:0 < j) (h1:j<=10 ^ 15):CDivB i j:=⟨h0,(Bd.pos (n:=60) (i:=j) (by unfold Bd;omega) h0).2⟩
end Br
namespace Br
namespace Spx
theorem sm_bd {f:Nat->Int}{B:Nat}:∀ {n:Nat},(∀ k,k < n->(f k).natAbs<=B)->(sm n f).natAbs<=n * B
 | 0,_=>by simp [sm]
 | n + 1,h=>by
  have h1:=sm_bd fun k hk=>h k (Nat.lt_succ_of_lt hk)
  have h2:=h n (Nat.lt_succ_self n)
  have h3:=Int.natAbs_add_le (sm n f) (f n)
  rw [sm,Nat.succ_mul];omega
theorem sg_one:∀ j,(sg j).natAbs = 1
 | 0=>rfl
 | j + 1=>by rw [sg,Int.natAbs_neg];exact sg_one j
theorem det_bd {B:Nat}:∀ {m:Nat}{c:Nat->Vec},(∀ i k,i < m->k < m->(c i k).natAbs<=B)->(det m c).natAbs<=(m * B) ^ m
 | 0,_,_=>by simp [det]
 | m + 1,c,h=>by
  have step:∀ j,j < m + 1->(sg j * c j 0 * det m fun i k=>c (skip j i) (k + 1)).natAbs<=B * (m * B) ^ m:=fun j hj=>by
   rw [Int.natAbs_mul,Int.natAbs_mul,sg_one,Nat.one_mul]
   exact Nat.mul_le_mul (h j 0 hj (by omega)) (det_bd fun i k hi hk=>h _ _ (by unfold skip;split <;> omega) (by omega))
  refine Nat.le_trans (sm_bd step) ?_
  rw [<- Nat.mul_assoc,Nat.pow_succ,Nat.mul_comm]
  exact Nat.mul_le_mul_right _ (Nat.pow_le_pow_left (Nat.mul_le_mul_right _ (by omega)) m)
section
variable {n L:Nat}{a:Nat->Vec}{S:Nat->Nat}
theorem T_bd {B i j:Nat} (h:∀ j k,j<=L + n + 1->k < n + 1->(a j k).natAbs<=B) (b:Bs n L a S) (hj:j<=L + n):(T n a S i j).natAbs<=((n + 1) * B) ^ (n + 1):=
 det_bd fun p k hp hk=>by
  unfold put col
  split
  · exact h j k (by omega) hk
  · by_cases e:p < n
    · exact h _ k (by have:=b.lt p e;omega) hk
    · obtain rfl:p = n:=by omega
      rw [b.ob];exact h _ k (by omega) hk
theorem D_bd {B:Nat} (h:∀ j k,j<=L + n + 1->k < n + 1->(a j k).natAbs<=B) (b:Bs n L a S):(D n a S).natAbs<=((n + 1) * B) ^ (n + 1):=
 det_bd fun p k hp hk=>by
  unfold col
  by_cases e:p < n
  · exact h _ k (by have:=b.lt p e;omega) hk
  · obtain rfl:p = n:=by omega
    rw [b.ob];exact h _ k (by omega) hk
instance {c i p:Nat}:Decidable (before n L a S c i p):=by unfold before;exact inferInstance
theorem before.irr {c i:Nat}:¬ before n L a S c i i:=fun h=>by
 rcases h with h | ⟨_,h⟩ <;> omega
theorem before.trans {c k i f:Nat} (hk:0 < T n a S k c) (hi:0 < T n a S i c) (hf:0 < T n a S f c) (h:before n L a S c k i) (h':before n L a S c i f):before n L a S c k f:=by
 unfold before at *
 generalize T n a S k (L + n) = xk at *
 generalize T n a S i (L + n) = xi at *
 generalize T n a S f (L + n) = xf at *
 generalize T n a S k c = tk at *
 generalize T n a S i c = ti at *
 generalize T n a S f c = tf at *
 have e1:ti * (xk * tf) = (xk * ti) * tf:=by grind
 have e2:(xi * tk) * tf = (xi * tf) * tk:=by grind
 have e3:(xf * ti) * tk = ti * (xf * tk):=by grind
 rcases h with h | ⟨h,s1⟩
 · refine .inl (Int.lt_of_mul_lt_mul_left (a:=ti) ?_ (Int.le_of_lt hi))
   have g1:=Int.mul_lt_mul_of_pos_right h hf
   have g2:(xi * tf) * tk<=(xf * ti) * tk:=by
    rcases h' with h' | ⟨h',_⟩
    · exact Int.mul_le_mul_of_nonneg_right (Int.le_of_lt h') (Int.le_of_lt hk)
    · rw [h'];exact Int.le_refl _
   omega
 · rcases h' with h' | ⟨h',s2⟩
   · refine .inl (Int.lt_of_mul_lt_mul_left (a:=ti) ?_ (Int.le_of_lt hi))
     have g2:=Int.mul_lt_mul_of_pos_right h' hk
     rw [e1,h,e2,<- e3]
     exact g2
   · refine .inr ⟨Int.eq_of_mul_eq_mul_left (a:=ti) (by omega) ?_,by omega⟩
     rw [e1,h,e2,h',e3]
def Lead (n L:Nat) (a:Nat->Vec) (S:Nat->Nat) (c i:Nat) (o:Option Nat):Prop:=
 match o with
 | none=>∀ k,k < i->¬ 0 < T n a S k c
 | some f=>f < i/\0 < T n a S f c/\∀ k,k < i->0 < T n a S k c->¬ before n L a S c k f
theorem Lead.zero {c:Nat}:Lead n L a S c 0 none:=fun k hk=>absurd hk (Nat.not_lt_zero _)
theorem Lead.no {c i:Nat}{o:Option Nat} (h:Lead n L a S c i o) (z:¬ 0 < T n a S i c):Lead n L a S c (i + 1) o:=by
 cases o with
 | none=>
  intro k hk
  by_cases e:k = i
  · rw [e];exact z
  · exact h k (by omega)
 | some f=>
  refine⟨by have:=h.1;omega,h.2.1,fun k hk p=>?_⟩
  by_cases e:k = i
  · rw [e] at p;exact absurd p z
  · exact h.2.2 k (by omega) p
theorem Lead.new {c i:Nat} (h:Lead n L a S c i none) (z:0 < T n a S i c):Lead n L a S c (i + 1) (some i):=⟨Nat.lt_succ_self i,z,fun k hk p=>by
 by_cases e:k = i
 · rw [e];exact before.irr
 · exact absurd p (h k (by omega))⟩
theorem Lead.keep {c i f:Nat} (h:Lead n L a S c i (some f)) (z:¬ before n L a S c i f):Lead n L a S c (i + 1) (some f):=⟨by have:=h.1;omega,h.2.1,fun k hk p=>by
 by_cases e:k = i
 · rw [e];exact z
 · exact h.2.2 k (by omega) p⟩
theorem Lead.turn {c i f:Nat} (h:Lead n L a S c i (some f)) (p:0 < T n a S i c) (z:before n L a S c i f):Lead n L a S c (i + 1) (some i):=⟨Nat.lt_succ_self i,p,fun k hk pk w=>by
 by_cases e:k = i
 · rw [e] at w;exact before.irr w
 · exact h.2.2 k (by omega) pk (w.trans pk p h.2.1 z)⟩
def matOf (n L:Nat) (a:Nat->Vec) (S:Nat->Nat):List (List Int):=(List.range (n + 1)).map fun i=>(List.range (L + n + 1)).map fun j=>T n a S i j
theorem mat_row {i:Nat} (h:i < n + 1):(matOf n L a S)[i]? = some ((List.range (L + n + 1)).map fun j=>T n a S i j):=by
 unfold matOf;rw [List.getElem?_map,List.getElem?_range h];rfl
theorem mat_len:(matOf n L a S).length = n + 1:=by unfold matOf;simp
theorem piv_exact {r c i j:Nat} (b:Bs n L a S) (hr:r < n + 1) (hi:i < n + 1) (ne:i≠r):(T n a S i j * T n a S r c - T n a S i c * T n a S r j).fdiv (D n a S) = T n a (use S r c) i j:=by
 have hd:=b.pos
 rw [<- T_use b.sp hr hi ne,Int.fdiv_eq_ediv_of_nonneg _ (by omega),Int.mul_ediv_cancel_left _ (by omega)]
end
end Spx
section
variable {need s m more:Int}{ks:List (Int×Int)}{r r':List Int}{rows:List (List Int)}{q:Int×Int}
structure Part (ks:List (Int×Int)) (r:List Int):Prop where
 srt:r.Pairwise (·<=·)
 mem:∀ x∈r,∃ q∈ks,q.1 = x
 cnt:∀ q∈ks,(r.count q.1:Int)<=q.2
def LeanR (need:Int) (r:List Int):Prop:=need<=r.sum/\∃ x t,r = x :: t/\t.sum < need
theorem split_least (s:Int):∀ (r:List Int),r.Pairwise (·<=·)->(∀ x∈r,s<=x)->r = List.replicate (r.count s) s ++ r.filter (fun x=>x != s)
 | [],_,_=>rfl
 | x :: r,h,hs=>by
  have h2:=(List.pairwise_cons.mp h)
  have ih:=split_least s r h2.2 fun y hy=>hs y (.tail _ hy)
  by_cases e:x = s
  · subst e
    rw [List.count_cons_self,List.replicate_succ,List.filter_cons,if_neg (by simp),List.cons_append,<- ih]
  · have c0:∀ y∈x :: r,y≠s:=fun y hy z=>by
     have h3:=hs x (.head _)
     rcases List.mem_cons.mp hy with w | w
     · exact e (w▸z)
     · have:=h2.1 y w
       omega
    rw [List.count_eq_zero.mpr (fun z=>c0 s z rfl),List.filter_eq_self.mpr fun y hy=>by simpa using c0 y hy]
    rfl
theorem up_low {t b n:Int} (hb:0 < b) (h:n<=upD t b):(n - 1) * b < t:=by
 have:¬ t<=(n - 1) * b:=fun z=>by have:=(upD_le hb).mpr z;omega
 omega
theorem grow_in {below:Int}{zs:List Int} (n:Nat) (h1:fewN need below s zs<=(n:Int)) (h2:(n:Int)<=mostN need s m zs):addN s zs n∈growP need s m below zs:=by
 have f0:0<=fewN need below s zs:=few0
 unfold growP
 refine List.mem_map.mpr ⟨(n - fewN need below s zs).toNat,List.mem_range.mpr (by omega),?_⟩
 show addN s zs (fewN need below s zs + ((n - fewN need below s zs).toNat:Nat)).toNat = _
 congr 1;omega
theorem in_grow {below:Int}{zs:List Int} (h:r∈growP need s m below zs):∃ n:Nat,r = addN s zs n/\fewN need below s zs<=(n:Int)/\(n:Int)<=mostN need s m zs:=by
 have f0:0<=fewN need below s zs:=few0
 unfold growP at h
 obtain⟨i,hi,e⟩:=List.mem_map.mp h
 have:=List.mem_range.mp hi
 exact⟨(fewN need below s zs + (i:Int)).toNat,e.symm,by omega,by omega⟩
structure Way (need:Int) (P:List (Int×Int)) (more:Int) (rows:List (List Int)):Prop where
 out:∀ r∈rows,Part P r/\(LeanR need r\/r.sum < need)
 «in» : ∀ r,Part P r->(LeanR need r\/(r.sum < need/\need<=r.sum + more))->r∈rows
theorem full_iff:fullB need r = true↔need<=r.sum:=by unfold fullB;simp
theorem Way.step {P:List (Int×Int)} (W:Way need P more rows) (hs:1<=q.1) (hm:0<=q.2) (hP:∀ p∈P,q.1 < p.1) (hb:0<=more - q.1 * q.2):Way need (q :: P) (more - q.1 * q.2) (rowsTo need q.1 q.2 more rows):=by
 have lift:∀ {r},Part P r->(∀ x∈r,q.1 < x)/\Part (q :: P) r:=fun {r} h=>by
  have lt:∀ x∈r,q.1 < x:=fun x hx=>by obtain⟨p,hp,e⟩:=h.mem x hx;have:=hP p hp;omega
  refine⟨lt,h.srt,fun x hx=>let ⟨p,hp,e⟩:=h.mem x hx;⟨p,.tail _ hp,e⟩,fun p hp=>?_⟩
  rcases List.mem_cons.mp hp with e | e
  · rw [e,List.count_eq_zero.mpr fun z=>by have:=lt _ z;omega];exact hm
  · exact h.cnt p e
 constructor
 · intro r hr
   rcases List.mem_append.mp hr with h | h
   · obtain⟨h1,h2⟩:=List.mem_filter.mp h
     obtain⟨p,c⟩:=W.out r h1
     exact⟨(lift p).2,c⟩
   · obtain⟨z,hz,hr⟩:=List.mem_flatMap.mp h
     obtain⟨h1,h2⟩:=List.mem_filter.mp hz
     have hzs:z.sum < need:=by
      have:¬ need<=z.sum:=fun c=>by rw [full_iff.mpr c] at h2;cases h2
      omega
     obtain⟨n,e,n1,n2⟩:=in_grow hr
     obtain⟨p,_⟩:=W.out z h1
     obtain⟨lt,p'⟩:=lift p
     have n3:(n:Int)<=q.2:=Int.le_trans n2 (Int.min_le_left _ _)
     have n4:(n:Int)<=upD (need - z.sum) q.1:=Int.le_trans n2 (Int.min_le_right _ _)
     have c0:z.count q.1 = 0:=List.count_eq_zero.mpr fun w=>by have:=lt _ w;omega
     subst e
     refine⟨⟨?_,fun x hx=>?_,fun k hk=>?_⟩,?_⟩
     · refine List.pairwise_append.mpr ⟨List.pairwise_replicate.mpr (.inr (Int.le_refl _)),p.srt,fun a ha b hb=>?_⟩
       rw [List.eq_of_mem_replicate ha]
       exact Int.le_of_lt (lt b hb)
     · rcases List.mem_append.mp hx with w | w
       · exact⟨q,.head _,(List.eq_of_mem_replicate w).symm⟩
       · exact p'.mem x w
     · unfold addN
       rw [List.count_append,List.count_replicate]
       rcases List.mem_cons.mp hk with w | w
       · subst w
         rw [c0,if_pos (by simp)];omega
       · have:=hP k w
         rw [if_neg (by simp;omega),Nat.zero_add];exact p.cnt k w
     · cases n with
       | zero=>exact .inr hzs
       | succ n=>
        have h5:=up_low (by omega) n4
        have e1:(addN q.1 z n).sum = (n:Int) * q.1 + z.sum:=addN_sum
        have h6:(addN q.1 z n).sum < need:=by
         rw [e1]
         have:((n + 1:Nat):Int) - 1 = n:=by omega
         rw [this] at h5
         omega
        rcases Int.lt_or_le (addN q.1 z (n + 1)).sum need with w | w
        · exact .inr w
        · exact .inl ⟨w,q.1,addN q.1 z n,by unfold addN;rw [List.replicate_succ];rfl,h6⟩
 · intro r p c
   have hs':∀ x∈r,q.1<=x:=fun x hx=>by
    obtain⟨k,hk,e⟩:=p.mem x hx
    rcases List.mem_cons.mp hk with w | w
    · rw [<- e,w];exact Int.le_refl _
    · have:=hP k w;omega
   have e:=split_least q.1 r p.srt hs'
   generalize hz:r.filter (fun x=>x != q.1) = z at e
   generalize hn:r.count q.1 = n at e
   have e':r = addN q.1 z n:=e
   have pz:Part P z:=by
    refine⟨?_,fun x hx=>?_,fun k hk=>?_⟩
    · rw [<- hz];exact p.srt.filter _
    · rw [<- hz] at hx
      obtain⟨h1,h2⟩:=List.mem_filter.mp hx
      obtain⟨k,hk,ek⟩:=p.mem x h1
      rcases List.mem_cons.mp hk with w | w
      · rw [<- ek,w] at h2;simp at h2
      · exact⟨k,w,ek⟩
    · refine Int.le_trans ?_ (p.cnt k (.tail _ hk))
      rw [<- hz]
      exact Int.ofNat_le.mpr (List.Sublist.count_le _ List.filter_sublist)
   have nm:(n:Int)<=q.2:=by rw [<- hn];exact p.cnt q (.head _)
   have nm2:(n:Int) * q.1<=q.1 * q.2:=by rw [Int.mul_comm];exact Int.mul_le_mul_of_nonneg_left nm (by omega)
   have n0:(0:Int)<=(n:Int) * q.1:=Int.mul_nonneg (by omega) (by omega)
   have es:r.sum = (n:Int) * q.1 + z.sum:=by rw [e'];exact addN_sum
   by_cases full:need<=r.sum/\n = 0
   · obtain⟨f1,f2⟩:=full
     have:r = z:=by rw [e',f2];rfl
     refine List.mem_append_left _ (List.mem_filter.mpr ⟨W.in r (this▸pz) ?_,full_iff.mpr f1⟩)
     rcases c with c | c
     · exact .inl c
     · omega
   · have low:(n:Int) - 1 < 0\/((n:Int) - 1) * q.1 + z.sum < need:=by
      cases n with
      | zero=>exact .inl (by omega)
      | succ n=>
       refine .inr ?_
       have e1:((n + 1:Nat):Int) - 1 = n:=by omega
       rw [e1]
       rcases c with ⟨_,x,t,et,ht⟩ | ⟨c,_⟩
       · have:t = addN q.1 z n:=by
          rw [e'] at et
          unfold addN at et
          rw [List.replicate_succ] at et
          injection et with _ et
          exact et.symm
         rw [this,addN_sum] at ht
         exact ht
       · rw [es] at c
         have:((n + 1:Nat):Int) * q.1 = (n:Int) * q.1 + q.1:=by rw [Int.natCast_add,Int.add_mul];simp
         omega
     have zs:z.sum < need:=by
      cases n with
      | zero=>
       have:r.sum = z.sum:=by rw [es];simp
       have:¬ need<=r.sum:=fun w=>full ⟨w,rfl⟩
       omega
      | succ n=>
       rcases low with w | w
       · omega
       · have:(0:Int)<=(((n + 1:Nat):Int) - 1) * q.1:=Int.mul_nonneg (by omega) (by omega)
         omega
     have rb:need<=r.sum + (more - q.1 * q.2):=by
      rcases c with c | c
      · have:=c.1;omega
      · exact c.2
     refine List.mem_append_right _ (List.mem_flatMap.mpr ⟨z,List.mem_filter.mpr ⟨W.in z pz (.inr ⟨zs,by omega⟩),?_⟩,?_⟩)
     · have:fullB need z = false:=by
        cases w:fullB need z with
        | false=>rfl
        | true=>have:=full_iff.mp w;omega
       rw [this];rfl
     · rw [e']
       refine grow_in n ?_ ?_
       · exact (few_le (by omega) n).mpr (by rw [<- e'];exact rb)
       · refine Int.le_min.mpr ⟨nm,?_⟩
         have:¬ upD (need - z.sum) q.1<=(n:Int) - 1:=fun w=>by
          have h1:=(upD_le (by omega)).mp w
          rcases low with h2 | h2
          · have h3:((n:Int) - 1) = -1:=by omega
            rw [h3] at h1
            omega
          · omega
         omega
def totK (ks:List (Int×Int)):Int:=(ks.map fun q=>q.1 * q.2).sum
theorem totK_pos:∀ {ks:List (Int×Int)},(∀ q∈ks,1<=q.1/\0<=q.2)->0<=totK ks
 | [],_=>Int.le_refl _
 | q :: ks,h=>by
  have h1:=h q (.head _)
  have h2:=totK_pos fun p hp=>h p (.tail _ hp)
  have h3:=Int.mul_nonneg (a:=q.1) (b:=q.2) (by omega) h1.2
  show 0<=(q.1 * q.2 :: _).sum
  rw [List.sum_cons]
  exact Int.add_nonneg h3 h2
theorem totK_cons:totK (q :: ks) = q.1 * q.2 + totK ks:=by unfold totK;simp
theorem Way.all {rs:List (List Int)}:∀ {ks P:List (Int×Int)}{rows:List (List Int)},Way need P (totK ks) rows->(∀ q∈ks,1<=q.1/\0<=q.2)->(P.reverse ++ ks).Pairwise (fun a b=>b.1 < a.1)->leansOf need ks (totK ks) rows = some rs->
 ∀ r,r∈rs↔Part (ks.reverse ++ P) r/\LeanR need r
 | [],P,rows,W,_,_,e,r=>by
  have e1:rows.filter (fullB need) = rs:=Option.some.inj e
  rw [<- e1,List.mem_filter,full_iff,List.reverse_nil,List.nil_append]
  constructor
  · rintro⟨h1,h2⟩
    obtain⟨p,c⟩:=W.out r h1
    refine⟨p,?_⟩
    rcases c with c | c
    · exact c
    · omega
  · rintro⟨p,c⟩
    exact⟨W.in r p (.inl c),c.1⟩
 | q :: ks,P,rows,W,h,hp,e,r=>by
  have hq:=h q (.head _)
  have h':∀ q∈ks,1<=q.1/\0<=q.2:=fun p hp=>h p (.tail _ hp)
  rw [totK_cons] at W e
  rw [leansOf] at e
  split at e
  · cases e
  split at e
  · cases e
  have hP:∀ p∈P,q.1 < p.1:=fun p hpp=>(List.pairwise_append.mp hp).2.2 p (List.mem_reverse.mpr hpp) q (.head _)
  have e0:q.1 * q.2 + totK ks - q.1 * q.2 = totK ks:=by omega
  have W':=W.step (q:=q) hq.1 hq.2 hP (by rw [e0];exact totK_pos h')
  rw [e0] at W' e
  have:=Way.all (P:=q :: P) W' h' (by rw [List.reverse_cons,List.append_assoc];exact hp) e r
  rw [this,List.reverse_cons,List.append_assoc]
  rfl
theorem way0 (need more:Int) (h:0 < need):Way need [] more [[]] where
 out:=fun r hr=>by
  rw [List.mem_singleton.mp hr]
  exact⟨⟨.nil,fun x hx=>(nomatch hx),fun q hq=>(nomatch hq)⟩,.inr h⟩
 «in»:=fun r p _=>by
  cases r with
  | nil=>exact .head _
  | cons x r=>obtain⟨q,hq,_⟩:=p.mem x (.head _);cases hq
theorem Way.short {rs:List (List Int)}:∀ {ks:List (Int×Int)}{rows:List (List Int)},(∀ q∈ks,1<=q.1/\0<=q.2)->(∀ r∈rows,r.length<=60)->rows.length<=300->leansOf need ks (totK ks) rows = some rs->(∀ r∈rs,r.length<=60)/\rs.length<=300
 | [],rows,_,h1,h2,e=>by
  have e1:rows.filter (fullB need) = rs:=Option.some.inj e
  rw [<- e1]
  exact⟨fun r hr=>h1 r (List.mem_filter.mp hr).1,Nat.le_trans (List.length_filter_le _ _) h2⟩
 | q :: ks,rows,h,h1,h2,e=>by
  have hq:=h q (.head _)
  have h':∀ q∈ks,1<=q.1/\0<=q.2:=fun p hp=>h p (.tail _ hp)
  have t0:=totK_pos h'
  rw [totK_cons,leansOf] at e
  split at e
  · cases e
  rename_i long
  split at e
  · cases e
  rename_i many
  have e0:q.1 * q.2 + totK ks - q.1 * q.2 = totK ks:=by omega
  rw [e0] at e
  refine Way.short h' (fun r hr=>?_) (by omega) e
  rcases List.mem_append.mp hr with w | w
  · exact h1 r (List.mem_filter.mp w).1
  · obtain⟨z,hz,hr⟩:=List.mem_flatMap.mp w
    obtain⟨z1,z2⟩:=List.mem_filter.mp hz
    have hzs:z.sum < need:=by
     have:¬ need<=z.sum:=fun c=>by rw [full_iff.mpr c] at z2;cases z2
     omega
    obtain⟨n,rfl,n1,n2⟩:=in_grow hr
    have fm:=(few_most (need:=need) (s:=q.1) (m:=q.2) (below:=q.1 * q.2 + totK ks - q.1 * q.2) (zs:=z) (by omega) hq.2 hzs (by omega)).mp (by omega)
    have l1:¬ 60 < (z.length:Int) + mostN need q.1 q.2 z:=fun c=>long ⟨z,z1,hzs,by omega,c⟩
    unfold addN
    rw [List.length_append,List.length_replicate]
    omega
theorem add_filter {zs:List Int} (h:∀ x∈zs,s < x) (n:Nat):(addN s zs n).filter (fun x=>x != s) = zs:=by
 unfold addN
 rw [List.filter_append]
 have e1:(List.replicate n s).filter (fun x=>x != s) = []:=by
  rw [List.filter_eq_nil_iff]
  intro x hx
  rw [List.eq_of_mem_replicate hx];simp
 have e2:zs.filter (fun x=>x != s) = zs:=List.filter_eq_self.mpr fun x hx=>by
  have:=h x hx
  simp;omega
 rw [e1,e2];rfl
theorem rows_nodup (hP:∀ r∈rows,∀ x∈r,s < x) (nd:rows.Nodup):(rowsTo need s m more rows).Nodup:=by
 have sub:∀ z∈(rows.filter fun r=>!fullB need r),z∈rows/\fullB need z = false:=fun z hz=>by
  obtain⟨a,b⟩:=List.mem_filter.mp hz
  exact⟨a,by simpa using b⟩
 unfold rowsTo
 refine List.nodup_append.mpr ⟨nd.filter _,?_,fun r hr r' hr' e=>?_⟩
 · refine List.pairwise_flatMap.mpr ⟨fun z hz=>?_,?_⟩
   · unfold growP
     refine List.pairwise_map.mpr (List.pairwise_lt_range.imp fun {i j} hij e=>?_)
     have f0:0<=fewN need (more - s * m) s z:=few0
     have:=congrArg List.length e
     unfold addN at this
     rw [List.length_append,List.length_append,List.length_replicate,List.length_replicate] at this
     omega
   · refine List.Pairwise.imp_of_mem (fun {z z'} hz hz' ne x hx y hy e=>?_) (nd.filter _)
     obtain⟨n,e1,_⟩:=in_grow hx
     obtain⟨n',e2,_⟩:=in_grow hy
     have h1:=add_filter (hP z (sub z hz).1) n
     have h2:=add_filter (hP z' (sub z' hz').1) n'
     rw [<- e1,e,e2,h2] at h1
     exact ne h1.symm
 · obtain⟨a,b⟩:=List.mem_filter.mp hr
   obtain⟨z,hz,hx⟩:=List.mem_flatMap.mp hr'
   obtain⟨n,e1,_⟩:=in_grow hx
   have h1:=add_filter (hP z (sub z hz).1) n
   have h2:r.filter (fun x=>x != s) = r:=List.filter_eq_self.mpr fun x hx=>by
    have:=hP r a x hx
    simp;omega
   rw [<- e1,<- e,h2] at h1
   rw [h1,(sub z hz).2] at b
   cases b
theorem Way.nodup {rs:List (List Int)}:∀ {ks P:List (Int×Int)}{rows:List (List Int)},Way need P (totK ks) rows->rows.Nodup->(∀ q∈ks,1<=q.1/\0<=q.2)->(P.reverse ++ ks).Pairwise (fun a b=>b.1 < a.1)->leansOf need ks (totK ks) rows = some rs->rs.Nodup
 | [],P,rows,W,nd,_,_,e=>by
  have e1:rows.filter (fullB need) = rs:=Option.some.inj e
  rw [<- e1];exact nd.filter _
 | q :: ks,P,rows,W,nd,h,hp,e=>by
  have hq:=h q (.head _)
  have h':∀ q∈ks,1<=q.1/\0<=q.2:=fun p hp=>h p (.tail _ hp)
  rw [totK_cons] at W e
  rw [leansOf] at e
  split at e
  · cases e
  split at e
  · cases e
  have hP:∀ p∈P,q.1 < p.1:=fun p hpp=>(List.pairwise_append.mp hp).2.2 p (List.mem_reverse.mpr hpp) q (.head _)
  have e0:q.1 * q.2 + totK ks - q.1 * q.2 = totK ks:=by omega
  have W':=W.step (q:=q) hq.1 hq.2 hP (by rw [e0];exact totK_pos h')
  have nd':(rowsTo need q.1 q.2 (q.1 * q.2 + totK ks) rows).Nodup:=rows_nodup (fun r hr x hx=>by
   obtain⟨p,hpp,e⟩:=(W.out r hr).1.mem x hx
   have:=hP p hpp;omega) nd
  rw [e0] at W' e
  exact Way.nodup (P:=q :: P) W' nd' h' (by rw [List.reverse_cons,List.append_assoc];exact hp) e
theorem leans_nodup {qs:List (Int×Int)}{rs:List (List Int)} (e:leansOf need qs.reverse (totK qs.reverse) [[]] = some rs) (hn:0 < need) (hq:∀ q∈qs,1<=q.1/\0<=q.2) (ris:qs.Pairwise (fun a b=>a.1 < b.1)):rs.Nodup:=
 Way.nodup (way0 need _ hn) (by simp) (fun q h=>hq q (List.mem_reverse.mp h)) (by rw [List.reverse_nil,List.nil_append];exact List.pairwise_reverse.mpr ris) e
theorem nodup_le {α:Type} [DecidableEq α]:∀ {l m:List α},l.Nodup->(∀ x∈l,x∈m)->l.length<=m.length
 | [],_,_,_=>Nat.zero_le _
 | x :: l,m,nd,h=>by
  have nd':=List.nodup_cons.mp nd
  have hx:=h x (.head _)
  have:=nodup_le (l:=l) (m:=m.erase x) nd'.2 fun y hy=>(List.mem_erase_of_ne fun z=>nd'.1 (by rw [<- z];exact hy)).mpr (h y (.tail _ hy))
  rw [List.length_erase_of_mem hx] at this
  have:=List.length_pos_of_mem hx
  rw [List.length_cons];omega
structure OkR (need:Int) (qs:List (Int×Int)) (r:List Int):Prop where
 p:∃ P:List (Int×Int),(∀ q∈P,q∈qs)/\Part P r
 c:LeanR need r\/r.sum < need
theorem Way.some {qs:List (Int×Int)} (hlen:∀ r,OkR need qs r->r.sum < need->∀ q∈qs,(r.length:Int) + mostN need q.1 q.2 r<=60) (hcnt:∀ l:List (List Int),l.Nodup->(∀ r∈l,OkR need qs r)->l.length<=300):
 ∀ {ks P:List (Int×Int)}{rows:List (List Int)},Way need P (totK ks) rows->rows.Nodup->(∀ q∈ks,q∈qs)->(∀ q∈P,q∈qs)->(∀ q∈ks,1<=q.1/\0<=q.2)->(P.reverse ++ ks).Pairwise (fun a b=>b.1 < a.1)->∃ rs,leansOf need ks (totK ks) rows = some rs
 | [],P,rows,W,nd,_,_,_,_=>⟨_,rfl⟩
 | q :: ks,P,rows,W,nd,hk,hPq,h,hp=>by
  have hq:=h q (.head _)
  have h':∀ q∈ks,1<=q.1/\0<=q.2:=fun p hp=>h p (.tail _ hp)
  have hP:∀ p∈P,q.1 < p.1:=fun p hpp=>(List.pairwise_append.mp hp).2.2 p (List.mem_reverse.mpr hpp) q (.head _)
  have ok:∀ r∈rows,OkR need qs r:=fun r hr=>⟨⟨P,hPq,(W.out r hr).1⟩,(W.out r hr).2⟩
  rw [totK_cons] at W ⊢
  have e0:q.1 * q.2 + totK ks - q.1 * q.2 = totK ks:=by omega
  have W':=W.step (q:=q) hq.1 hq.2 hP (by rw [e0];exact totK_pos h')
  have nd':(rowsTo need q.1 q.2 (q.1 * q.2 + totK ks) rows).Nodup:=rows_nodup (fun r hr x hx=>by
   obtain⟨p,hpp,e⟩:=(W.out r hr).1.mem x hx
   have:=hP p hpp;omega) nd
  have hPq':∀ p∈q :: P,p∈qs:=fun p hpp=>by
   rcases List.mem_cons.mp hpp with e | e
   · rw [e];exact hk q (.head _)
   · exact hPq p e
  rw [leansOf,if_neg,if_neg,e0]
  · rw [e0] at W'
    exact Way.some hlen hcnt (P:=q :: P) W' nd' (fun p hp=>hk p (.tail _ hp)) hPq' h' (by rw [List.reverse_cons,List.append_assoc];exact hp)
  · have:=hcnt _ nd' fun r hr=>⟨⟨q :: P,hPq',(W'.out r hr).1⟩,(W'.out r hr).2⟩
    omega
  · rintro⟨r,hr,h1,h2,h3⟩
    have:=hlen r (ok r hr) h1 q (hk q (.head _))
    omega
theorem leans_some {qs:List (Int×Int)} (hlen:∀ r,OkR need qs r->r.sum < need->∀ q∈qs,(r.length:Int) + mostN need q.1 q.2 r<=60) (hcnt:∀ l:List (List Int),l.Nodup->(∀ r∈l,OkR need qs r)->l.length<=300) (hn:0 < need) (hq:∀ q∈qs,1<=q.1/\0<=q.2) (ris:qs.Pairwise (fun a b=>a.1 < b.1)):
 ∃ rs,leansOf need qs.reverse (totK qs.reverse) [[]] = some rs:=
 Way.some hlen hcnt (way0 need _ hn) (by simp) (fun q h=>List.mem_reverse.mp h) (fun q h=>nomatch h) (fun q h=>hq q (List.mem_reverse.mp h)) (by rw [List.reverse_nil,List.nil_append];exact List.pairwise_reverse.mpr ris)
theorem leans_all {qs:List (Int×Int)}{rs:List (List Int)} (e:leansOf need qs.reverse (totK qs.reverse) [[]] = some rs) (hn:0 < need) (hq:∀ q∈qs,1<=q.1/\0<=q.2) (ris:qs.Pairwise (fun a b=>a.1 < b.1)):
 (∀ r,r∈rs↔Part qs r/\LeanR need r)/\(∀ r∈rs,r.length<=60)/\rs.length<=300:=by
 have hq':∀ q∈qs.reverse,1<=q.1/\0<=q.2:=fun q h=>hq q (List.mem_reverse.mp h)
 refine⟨fun r=>?_,Way.short hq' (fun r hr=>by rw [List.mem_singleton.mp hr];simp) (by simp) e⟩
 have:=Way.all (way0 need _ hn) hq' (by rw [List.reverse_nil,List.nil_append];exact List.pairwise_reverse.mpr ris) e r
 rw [List.reverse_reverse,List.append_nil] at this
 exact this
end
namespace Spx
def row0 (qs:List (Int×Int)) (rs:List (List Int)) (p:Nat) (q:Int×Int):List Int:=rs.map (fun r=>(r.count q.1:Int)) ++ (List.replicate qs.length 0).set p 1 ++ [q.2]
def rows0 (qs:List (Int×Int)) (rs:List (List Int)):List (List Int):=qs.mapIdx (row0 qs rs) ++ [List.replicate rs.length (-1) ++ List.replicate (qs.length + 1) 0]
def colOf (qs:List (Int×Int)) (rs:List (List Int)) (j:Nat):Vec:=fun k=>
 if j < rs.length then (if k < qs.length then (((rs[j]?).getD []).count ((qs[k]?).getD (0,0)).1:Int) else if k = qs.length then -1 else 0)
 else if j < rs.length + qs.length then (if rs.length + k = j then 1 else 0)
 else if j = rs.length + qs.length then (if k < qs.length then ((qs[k]?).getD (0,0)).2 else 0)
 else if k = qs.length then 1 else 0
structure TaskOk (qs:List (Int×Int)) (rs:List (List Int)):Prop where
 lot:∀ r∈rs,∃ q∈qs,q.1∈r
 many:∀ q∈qs,0<=q.2
section
variable {qs:List (Int×Int)}{rs:List (List Int)}
theorem col_lot {j k:Nat}{r:List Int}{q:Int×Int} (hj:rs[j]? = some r) (hk:qs[k]? = some q):colOf qs rs j k = (r.count q.1:Int):=by
 unfold colOf
 rw [if_pos (List.getElem?_eq_some_iff.mp hj).1,if_pos (List.getElem?_eq_some_iff.mp hk).1,hj,hk];rfl
theorem col_low {j:Nat} (hj:j < rs.length):colOf qs rs j qs.length = -1:=by
 unfold colOf
 rw [if_pos hj,if_neg (Nat.lt_irrefl _),if_pos rfl]
theorem col_one {p k:Nat} (hp:p < qs.length):colOf qs rs (rs.length + p) k = if p = k then 1 else 0:=by
 unfold colOf
 rw [if_neg (by omega),if_pos (by omega)]
 by_cases e:p = k
 · rw [if_pos e,if_pos (by omega)]
 · rw [if_neg e,if_neg (by omega)]
theorem col_many {k:Nat}{q:Int×Int} (hk:qs[k]? = some q):colOf qs rs (rs.length + qs.length) k = q.2:=by
 unfold colOf
 rw [if_neg (by omega),if_neg (by omega),if_pos rfl,if_pos (List.getElem?_eq_some_iff.mp hk).1,hk];rfl
theorem col_manyN:colOf qs rs (rs.length + qs.length) qs.length = 0:=by
 unfold colOf
 rw [if_neg (by omega),if_neg (by omega),if_pos rfl,if_neg (Nat.lt_irrefl _)]
theorem col_sum {k:Nat}:colOf qs rs (rs.length + qs.length + 1) k = if qs.length = k then 1 else 0:=by
 unfold colOf
 rw [if_neg (by omega),if_neg (by omega),if_neg (by omega)]
 by_cases e:qs.length = k
 · rw [if_pos e,if_pos e.symm]
 · rw [if_neg e,if_neg (Ne.symm e)]
theorem TaskOk.task (t:TaskOk qs rs):Task qs.length rs.length (colOf qs rs) where
 lot:=fun j hj=>by
  have e:=List.getElem?_eq_getElem hj
  refine⟨col_low hj,fun k hk=>?_,?_⟩
  · rw [col_lot e (List.getElem?_eq_getElem hk)];omega
  · obtain⟨q,hq,hm⟩:=t.lot _ (List.getElem_mem hj)
    obtain⟨k,hk,eq⟩:=List.getElem_of_mem hq
    refine⟨k,hk,?_⟩
    rw [col_lot e (List.getElem?_eq_getElem hk),eq]
    have:=List.count_pos_iff.mpr hm
    omega
 one:=fun p hp k hk=>col_one hp
 many:=⟨col_manyN,fun k hk=>by rw [col_many (List.getElem?_eq_getElem hk)];exact t.many _ (List.getElem_mem hk)⟩
 sum:=fun k _=>col_sum
theorem range_split {α:Type} (f:Nat->α) (m n:Nat):(List.range (m + n)).map f = (List.range m).map f ++ (List.range n).map fun k=>f (m + k):=by
 rw [List.range_add,List.map_append,List.map_map];rfl
theorem rows_first (t:TaskOk qs rs):rows0 qs rs = matOf qs.length rs.length (colOf qs rs) (sOf qs.length rs.length (U0 qs.length rs.length)):=by
 unfold matOf
 rw [List.range_succ (n:=qs.length),List.map_append]
 unfold rows0
 have row:∀ i,i < qs.length + 1->((List.range (rs.length + qs.length + 1)).map fun j=>T qs.length (colOf qs rs) (sOf qs.length rs.length (U0 qs.length rs.length)) i j) = (List.range (rs.length + qs.length + 1)).map fun j=>colOf qs rs j i:=fun i hi=>List.map_congr_left fun j _=>T0 t.task hi
 congr 1
 · refine List.ext_getElem? fun i=>?_
   rw [List.getElem?_mapIdx,List.getElem?_map]
   by_cases hi:i < qs.length
   · have e:=List.getElem?_eq_getElem hi
     rw [List.getElem?_range hi,e]
     show some _ = some _
     congr 1
     refine Eq.trans ?_ (row i (by omega)).symm
     rw [range_split,range_split]
     unfold row0
     congr 1
     · congr 1
       · refine List.ext_getElem? fun j=>?_
         rw [List.getElem?_map,List.getElem?_map]
         by_cases hj:j < rs.length
         · have ej:=List.getElem?_eq_getElem hj
           rw [List.getElem?_range hj,ej]
           exact congrArg some (col_lot ej e).symm
         · rw [List.getElem?_eq_none (by omega),List.getElem?_eq_none (by simp;omega)];rfl
       · refine List.ext_getElem? fun j=>?_
         rw [List.getElem?_map]
         by_cases hj:j < qs.length
         · rw [List.getElem?_range hj]
           show _ = some (colOf qs rs (rs.length + j) i)
           rw [col_one hj,List.getElem?_set]
           by_cases z:i = j
           · subst z;rw [if_pos rfl,if_pos (by simp;omega),if_pos rfl]
           · rw [if_neg z,if_neg (Ne.symm z),List.getElem?_replicate,if_pos hj]
         · rw [List.getElem?_eq_none (by simp;omega),List.getElem?_eq_none (by simp;omega)];rfl
     · show [_] = [_]
       exact congrArg (fun x=>[x]) (col_many e).symm
   · rw [List.getElem?_eq_none (by omega),List.getElem?_eq_none (by simp;omega)];rfl
 · show [_] = [_]
   congr 1
   refine Eq.trans ?_ (row qs.length (by omega)).symm
   rw [Nat.add_assoc,range_split]
   congr 1
   · refine List.ext_getElem? fun j=>?_
     rw [List.getElem?_map,List.getElem?_replicate]
     by_cases hj:j < rs.length
     · rw [List.getElem?_range hj,if_pos hj]
       exact congrArg some (col_low hj).symm
     · rw [List.getElem?_eq_none (by simp;omega),if_neg hj];rfl
   · refine List.ext_getElem? fun j=>?_
     rw [List.getElem?_map,List.getElem?_replicate]
     by_cases hj:j < qs.length + 1
     · rw [List.getElem?_range hj,if_pos hj]
       refine congrArg some ?_
       by_cases e:j < qs.length
       · exact ((col_one e).trans (if_neg (by omega))).symm
       · obtain rfl:j = qs.length:=by omega
         exact col_manyN.symm
     · rw [List.getElem?_eq_none (by simp;omega),if_neg hj];rfl
theorem col_bd {B:Nat} (hB:60<=B) (hr:∀ r∈rs,r.length<=60) (hq:∀ q∈qs,q.2.natAbs<=B) (j k:Nat):(colOf qs rs j k).natAbs<=B:=by
 unfold colOf
 split
 · rename_i hj
   split
   · rw [Int.natAbs_natCast,List.getElem?_eq_getElem hj]
     have:=hr _ (List.getElem_mem hj)
     exact Nat.le_trans List.count_le_length (Nat.le_trans this hB)
   · split
     · show 1<=B
       omega
     · show 0<=B
       omega
 · split
   · split
     · show 1<=B
       omega
     · show 0<=B
       omega
   · split
     · split
       · rename_i hk
         rw [List.getElem?_eq_getElem hk]
         exact hq _ (List.getElem_mem hk)
       · show 0<=B
         omega
     · split
       · show 1<=B
         omega
       · show 0<=B
         omega
end
end Spx
end Br
namespace Br
open PySem PySem.Spec PySem.Calls PyProof.Rows L2
abbrev LL:=List Int×List Int
def qLt (x y:LL):Bool:=if x.1 = y.1 then HT.lexLt x.2 y.2 else HT.lexLt x.1 y.1
theorem qLt_irr (x:LL):qLt x x = false:=by unfold qLt;rw [if_pos rfl];exact lexLt_irr _
theorem qLt_asy {x y:LL} (h:qLt x y = true):qLt y x = false:=by
 unfold qLt at h ⊢
 by_cases e:x.1 = y.1
 · rw [if_pos e] at h;rw [if_pos e.symm];exact lexLt_asy h
 · rw [if_neg e] at h;rw [if_neg (Ne.symm e)];exact lexLt_asy h
theorem qLt_tr {x y z:LL} (h:qLt x y = true) (h':qLt y z = true):qLt x z = true:=by
 unfold qLt at h h' ⊢
 by_cases e:x.1 = y.1
 · rw [if_pos e] at h
   rw [e]
   by_cases f:y.1 = z.1
   · rw [if_pos f] at h' ⊢;exact lexLt_tr h h'
   · rw [if_neg f] at h' ⊢;exact h'
 · rw [if_neg e] at h
   by_cases f:y.1 = z.1
   · rw [<- f,if_neg e];exact h
   · rw [if_neg f] at h'
     have t:=lexLt_tr h h'
     rw [if_neg fun w=>by rw [w] at t;rw [lexLt_irr] at t;cases t]
     exact t
theorem qLt_total (x y:LL):qLt x y = true\/x = y\/qLt y x = true:=by
 unfold qLt
 by_cases e:x.1 = y.1
 · rw [if_pos e,if_pos e.symm]
   rcases lexLt_total x.2 y.2 with h | h | h
   · exact .inl h
   · exact .inr (.inl (Prod.ext e h))
   · exact .inr (.inr h)
 · rw [if_neg e,if_neg (Ne.symm e)]
   rcases lexLt_total x.1 y.1 with h | h | h
   · exact .inl h
   · exact absurd h e
   · exact .inr (.inr h)
theorem ord_q (key:Keyed->LL):Tim.Ord fun x y=>qLt (key x) (key y):=⟨fun a=>qLt_irr _,fun a b h=>qLt_asy h,fun a b c h1 h2=>by
 cases e:qLt (key c) (key a) with
 | false=>rfl
 | true=>
  rcases qLt_total (key a) (key b) with h | h | h
  · have:=qLt_tr e h;rw [h2] at this;cases this
  · rw [h] at e;rw [h2] at e;cases e
  · rw [h1] at h;cases h⟩
def qkey (H:Hp):Value->LL
 | .ref a=>match H a with
  | some (.tup [.ref b,.ref c])=>(tkey H (.ref b),tkey H (.ref c))
  | _=>([],[])
 | _=>([],[])
theorem qkey_of {H:Hp}{a b c:Addr}{w u:List Int} (h:H a = some (.tup [.ref b,.ref c])) (hb:H b = some (.tup (w.map V.int))) (hc:H c = some (.tup (u.map V.int))):qkey H (.ref a) = (w,u):=by
 show (match H a with | some (.tup [.ref b,.ref c])=>(tkey H (.ref b),tkey H (.ref c)) | _=>([],[])) = _
 rw [h]
 show (tkey H (.ref b),tkey H (.ref c)) = _
 rw [tkey_of hb,tkey_of hc]
def PqsAt (H:Hp) (as:List Addr) (qs:List LL):Prop:=as.length = qs.length/\∀ (i:Nat) (a:Addr),as[i]? = some a->∃ (q:LL) (c e:Addr),qs[i]? = some q/\H a = some (.tup [.ref c,.ref e])/\H c = some (.tup (q.1.map V.int))/\H e = some (.tup (q.2.map V.int))
theorem PqsAt.same {H H':Hp}{as:List Addr}{qs:List LL} (h:PqsAt H as qs) (s:L2.Same H H'):PqsAt H' as qs:=
 ⟨h.1,fun i a e=>let ⟨q,c,d,e1,e2,e3,e4⟩:=h.2 i a e;⟨q,c,d,e1,s _ _ e2,s _ _ e3,s _ _ e4⟩⟩
theorem PqsAt.snoc {H:Hp}{as:List Addr}{qs:List LL}{a c d:Addr}{q:LL} (h:PqsAt H as qs) (e1:H a = some (.tup [.ref c,.ref d])) (e2:H c = some (.tup (q.1.map V.int))) (e3:H d = some (.tup (q.2.map V.int))):PqsAt H (as ++ [a]) (qs ++ [q]):=by
 have hl:=h.1
 refine⟨by rw [List.length_append,List.length_append,hl];rfl,fun i b hb=>?_⟩
 by_cases hi:i < as.length
 · rw [List.getElem?_append_left hi] at hb
   obtain⟨q',c',d',x1,x2⟩:=h.2 i b hb
   exact⟨q',c',d',by rw [List.getElem?_append_left (by omega)];exact x1,x2⟩
 · have hi2:i = as.length:=by have:=(List.getElem?_eq_some_iff.mp hb).1;rw [List.length_append] at this;simp at this;omega
   subst hi2
   rw [List.getElem?_append_right (Nat.le_refl _),Nat.sub_self] at hb
   cases hb
   exact⟨q,c,d,by rw [hl,List.getElem?_append_right (Nat.le_refl _),Nat.sub_self];rfl,e1,e2,e3⟩
def rSortQ (K:PySem.W.Frag):List V->Hp->VK->Prop:=fun xs H Q=>∃ (p:Addr) (as:List Addr) (ks:List LL),xs = [.ref p]/\(SqL K H p (as.map V.ref)\/SqT K H p (as.map V.ref))/\PqsAt H as ks/\as.length < 64/\
 ∀ (l:Addr) (bs:List Addr) (qs:List LL) (H':Hp),H l = none->L2.Same H H'->H' l = some (.lst (bs.map V.ref))->PqsAt H' bs qs->qs.Perm ks->qs.Pairwise (fun u v=>qLt v u = false)->Q (.ref l) H'
section
variable {X:Cx}{k:Nat}
theorem pqs_pick {H:Hp}:∀ {as:List Addr}{ks:List LL},PqsAt H as ks->∃ cs:List (Addr×Addr),cs.length = ks.length/\∀ (i:Nat) (a:Addr) (c:Addr×Addr) (q:LL),as[i]? = some a->cs[i]? = some c->ks[i]? = some q->H a = some (.tup [.ref c.1,.ref c.2])/\H c.1 = some (.tup (q.1.map V.int))/\H c.2 = some (.tup (q.2.map V.int))
 | [],[],_=>⟨[],rfl,fun i a c q h=>by cases h⟩
 | [],_ :: _,h=>by have:=h.1;simp at this
 | _ :: _,[],h=>by have:=h.1;simp at this
 | a :: as,q :: ks,h=>by
  obtain⟨cs,h1,h2⟩:=pqs_pick (as:=as) (ks:=ks) ⟨by have:=h.1;simpa using this,fun i a h'=>h.2 (i + 1) a h'⟩
  obtain⟨q',c,e,e1,e2,e3⟩:=h.2 0 a rfl
  cases e1
  refine⟨(c,e) :: cs,by rw [List.length_cons,List.length_cons,h1],fun i a' c' q' x1 x2 x3=>?_⟩
  cases i with
  | zero=>cases x1;cases x2;cases x3;exact⟨e2,e3⟩
  | succ i=>exact h2 i a' c' q' x1 x2 x3
theorem call_sortQ (hr:Room k X.A):CallR X (.builtin "sorted") (rSortQ X.K):=by
 intro pins s σ H xs us Q I r h
 obtain⟨p,as,ks,e1,hq,hat,h64,q⟩:=h
 subst e1
 obtain⟨u,rfl,rx⟩:=vals1 r
 cases rx
 obtain⟨its,o,T,cn,rv,hT,ho,hcl,hd,hz⟩:=seq_obj I hq
 obtain⟨cs,hcl',hcs⟩:=pqs_pick hat
 have hlen:=hat.1
 generalize hzs:as.zip (cs.zip ks) = zs
 have hfst:zs.map (·.1) = as:=by rw [<- hzs];exact List.map_fst_zip (by rw [List.length_zip];omega)
 have hsnd:zs.map (·.2.2) = ks:=by
  have a1:zs.map (·.2) = cs.zip ks:=by rw [<- hzs];exact List.map_snd_zip (by rw [List.length_zip];omega)
  have a2:(cs.zip ks).map (·.2) = ks:=List.map_snd_zip (by omega)
  calc zs.map (·.2.2) = (zs.map (·.2)).map (·.2):=by rw [List.map_map];rfl
   _ = ks:=by rw [a1,a2]
 have hzl:zs.length = as.length:=by rw [<- hfst,List.length_map]
 have hits:its = zs.map (fun z=>Value.ref z.1):=by
  rw [vals_refs rv]
  calc as.map Value.ref = (zs.map (·.1)).map Value.ref:=by rw [hfst]
   _ = _:=by rw [List.map_map];rfl
 have each:∀ z∈zs,H z.1 = some (.tup [.ref z.2.1.1,.ref z.2.1.2])/\H z.2.1.1 = some (.tup (z.2.2.1.map V.int))/\H z.2.1.2 = some (.tup (z.2.2.2.map V.int)):=fun z hz=>by
  obtain⟨i,hi,e⟩:=List.getElem_of_mem hz
  have e':zs[i]? = some z:=by rw [List.getElem?_eq_getElem hi,e]
  rw [<- hzs,List.getElem?_zip_eq_some] at e'
  have e2:=e'.2
  rw [show z.2 = (z.2.1,z.2.2) from rfl,List.getElem?_zip_eq_some] at e2
  exact hcs i z.1 z.2.1 z.2.2 e'.1 e2.1 e2.2
 subst hits
 refine sorted_genS (α:=Addr×((Addr×Addr)×LL)) (zs:=zs) (f:=fun z=>.ref z.1) (g:=fun z=>.ref z.1) (fun x y=>qLt (qkey H x.1) (qkey H y.1)) (ord_q fun x=>qkey H x.1) I (fun z _=>rfl) ⟨o,T,cn,hT,ho,hcl,hd,by omega⟩ (fun h2 h6 old=>?_) fun l ys H' n1 s1 e1 hp hs=>?_
 · skip
   have hu:X.A.in1.in1.units < cLine:=by have:=hr.un;show X.A.units + 1 + 1 < cLine;omega
   have tup:∀ z∈zs,∃ (its its':List Value),IsTup h6 z.1 #[.ref z.2.1.1,.ref z.2.1.2]/\IntsAre its z.2.2.1/\IsTup h6 z.2.1.1 its.toArray/\IntsAre its' z.2.2.2/\IsTup h6 z.2.1.2 its'.toArray:=fun z hz=>by
    obtain⟨e1,e2,e3⟩:=each z hz
    obtain⟨its,rt,⟨o,ho,hc,n,hd⟩,_⟩:=I.tuple (SqT.of e1)
    obtain⟨its2,rt2,⟨o2,ho2,hc2,n2,hd2⟩,_⟩:=I.tuple (SqT.of e2)
    obtain⟨its3,rt3,⟨o3,ho3,hc3,n3,hd3⟩,_⟩:=I.tuple (SqT.of e3)
    cases rt with
    | cons r1 rr=>
     cases rr with
     | cons r2 rr=>
      cases rr
      cases r1
      cases r2
      exact⟨its2,its3,⟨o,old z.1 o (by rw [e1];exact fun z=>nomatch z) ho,hc,n,hd⟩,vals_ints rt2,⟨o2,old z.2.1.1 o2 (by rw [e2];exact fun z=>nomatch z) ho2,hc2,n2,hd2⟩,vals_ints rt3,⟨o3,old z.2.1.2 o3 (by rw [e3];exact fun z=>nomatch z) ho3,hc3,n3,hd3⟩⟩
   have kt:∀ l:List (Addr×((Addr×Addr)×LL)),(∀ z∈l,z∈zs)->∃ fs:List Value,PySem.W.KatTups h6 (l.map fun z=>Value.ref z.1) fs/\fs.length = l.length/\∀ v∈fs,∃ c o,v = Value.ref c/\h6.get? c = some o/\o.cls = .type "tuple":=fun l=>by
    induction l with
    | nil=>exact fun _=>⟨[],trivial,rfl,fun v hv=>nomatch hv⟩
    | cons a l ih=>
     intro hl
     obtain⟨fs,f1,f2,f3⟩:=ih fun b hb=>hl b (.tail _ hb)
     obtain⟨its,its',⟨o,ho,hc,n,hd⟩,_,⟨o2,ho2,hc2,_⟩,_⟩:=tup a (hl a (.head _))
     exact⟨.ref a.2.1.1 :: fs,PySem.W.KatTups.cons ho hc hd rfl f1,by rw [List.length_cons,List.length_cons,f2],fun v hv=>by
      rcases List.mem_cons.mp hv with z | z
      · exact⟨_,o2,z,ho2,hc2⟩
      · exact f3 v z⟩
   obtain⟨fs,f1,f2,f3⟩:=kt zs fun _ h=>h
   refine⟨tuples' false,fun Q E hQ=>PySem.W.kat_kind (T:=.type "tuple") f1 (by omega) (fun v hv=>by obtain⟨c,o,rfl,hc,ht⟩:=f3 v hv;rw [<- ht];exact (PySem.W.Looks.ld hc).andThen .now) (by decide) hQ,fun x y hx hy Q E hQ=>?_⟩
   rw [pairs_map] at hx hy
   obtain⟨z1,m1,e1⟩:=List.mem_map.mp hx
   obtain⟨z2,m2,e2⟩:=List.mem_map.mp hy
   obtain⟨it1,jt1,⟨o1,ho1,_,n1,hd1⟩,i1,p1,j1,q1⟩:=tup z1 m1
   obtain⟨it2,jt2,⟨o2,ho2,_,n2,hd2⟩,i2,p2,j2,q2⟩:=tup z2 m2
   rw [<- e1,<- e2] at hQ ⊢
   have hQ:Q (qLt (qkey H (.ref z1.1)) (qkey H (.ref z2.1))) _:=hQ
   rw [qkey_of (each z1 m1).1 (each z1 m1).2.1 (each z1 m1).2.2,qkey_of (each z2 m2).1 (each z2 m2).2.1 (each z2 m2).2.2] at hQ
   have tk:∀ {c:Addr}{its:List Value}{w:List Int},IntsAre its w->IsTup h6 c its.toArray->IsTupleKey (mixKind X.prog X.w) h6 (w.map Sum.inl) c:=fun {c its w} hi ⟨o,h1,h2,n,h3⟩=>⟨o,its.toArray,n,h1,h2,h3,by
    have:Vals ((w.map Sum.inl).map kV) its:=by
     have:=ints_vals hi
     rw [List.map_map];exact this
    simpa using items_are this⟩
   refine PySem.W.kat_lt ho1 hd1 ho2 hd2 (PySem.W.kat_cons (wpAny_eqBool_tuple hu (tk i1 p1) (tk i2 p2) ?_))
   unfold qLt at hQ
   by_cases ek:z1.2.2.1 = z2.2.2.1
   · rw [if_pos ek] at hQ
     rw [show decide (z1.2.2.1.map Sum.inl = (z2.2.2.1.map Sum.inl:List Key)) = true from decide_eq_true (by rw [ek])]
     refine PySem.W.kat_yes (PySem.W.kat_cons (wpAny_eqBool_tuple hu (tk j1 q1) (tk j2 q2) ?_))
     by_cases en:z1.2.2.2 = z2.2.2.2
     · rw [show decide (z1.2.2.2.map Sum.inl = (z2.2.2.2.map Sum.inl:List Key)) = true from decide_eq_true (by rw [en])]
       rw [en,lexLt_irr] at hQ
       exact PySem.W.kat_yes (PySem.W.kat_nil hQ)
     · rw [show decide (z1.2.2.2.map Sum.inl = (z2.2.2.2.map Sum.inl:List Key)) = false from decide_eq_false (fun z=>en ((List.map_inj_right fun _ _ h=>Sum.inl.inj h).mp z))]
       exact PySem.W.kat_no (PySem.W.kat_one _ _ (HT.lt_tupInts q1 q2 (by simpa using j1) (by simpa using j2) hu hQ))
   · rw [if_neg ek] at hQ
     rw [show decide (z1.2.2.1.map Sum.inl = (z2.2.2.1.map Sum.inl:List Key)) = false from decide_eq_false (fun z=>ek ((List.map_inj_right fun _ _ h=>Sum.inl.inj h).mp z))]
     exact PySem.W.kat_no (PySem.W.kat_one _ _ (HT.lt_tupInts p1 p2 (by simpa using i1) (by simpa using i2) hu hQ))
 · refine q l (ys.map (·.1)) (ys.map (·.2.2)) H' n1 s1 ?_ ⟨by rw [List.length_map,List.length_map],fun i b hb=>?_⟩ (by rw [<- hsnd];exact hp.map _) ?_
   · rw [e1,List.map_map];rfl
   · rw [List.getElem?_map] at hb
     obtain⟨z,hz,rfl⟩:=Option.map_eq_some_iff.mp hb
     obtain⟨e1,e2,e3⟩:=each z (hp.mem_iff.mp (List.mem_of_getElem? hz))
     exact⟨z.2.2,z.2.1.1,z.2.1.2,by rw [List.getElem?_map,hz];rfl,s1 _ _ e1,s1 _ _ e2,s1 _ _ e3⟩
   · rw [List.pairwise_map] at hs ⊢
     refine List.Pairwise.imp_of_mem (fun {a b} ha hb h=>?_) hs
     have h:qLt (qkey H (.ref b.1)) (qkey H (.ref a.1)) = false:=h
     obtain⟨f1,f2,f5⟩:=each b (hp.mem_iff.mp hb)
     obtain⟨f3,f4,f6⟩:=each a (hp.mem_iff.mp ha)
     rw [qkey_of f1 f2 f5,qkey_of f3 f4 f6] at h
     exact h
end
section
variable {X:Cx}{K:PySem.W.Frag}{k:Nat}{e:Expr}{es:List Expr}{t:TA}{pos p:Pos}{x:Str}
theorem k_sortedQ (hr:Room k X.A) (hg:Gl X x) (he:starEach (e :: es) X.env = (false,eval e X.env) :: starEach es X.env) (hpl:(backTo pos (starEach es X.env)).any (·.1) = false) (hK:X.K = K) (hx:x = "sorted") (hm:X.mg x = none) (ha:JA X (e :: es) t):JE X (.Call (.Name x p) (e :: es) [] pos) (tCB (rSortQ K) t):=hK▸⟨by subst hx;exact pe_callB (call_sortQ hr) hg hm boot_sorted ha.h (by decide) (by decide) he hpl⟩
end
section
variable {K:PySem.W.Frag}
theorem FnOk.low (F:FnOk P w K mg base (CXF P w) k f fd ps sp):FnOk P w K mg base CX0 k f fd ps (fun vs H Q _=>sp vs H Q fun _ _ _=>False):=
 ⟨fun vs H Q _ h=>F.len vs H Q _ h,fun A outer s H args us vs Q E hr he hb hv hs=>codeAny_mono (F.run A outer s H args us vs Q (fun _ _ _=>False) hr he hb hv hs) fun r s' h=>by
  cases r with
  | ok fl=>cases fl <;> exact h
  | error e=>obtain⟨_,_,_,_,_,_,_,_,_,_,_,_,_,_,z⟩:=h;exact z.elim⟩
end
def Dj (P:Program) (w:World) (o:Obj) (xs:List (List Key×Addr×Value)):Prop:=o.ExactDict/\∃ es ep,o.data = .dict es ep/\es.toList = xs.map (entryOfKey (tupleKind (mixKind P w)))/\(xs.map (·.1)).Nodup
theorem Dj.of {P:Program}{w:World}{h:Heap}{D:Addr}{xs:List (List Key×Addr×Value)} (x:h.DictOfH (tupleKind (mixKind P w)) D xs):∃ o,h.get? D = some o/\Dj P w o xs:=by
 obtain⟨o,es,ep,ho,hc,hd,he,_,hn⟩:=x
 exact⟨o,ho,hc,es,ep,hd,he,hn⟩
theorem Dj.nil {P:Program}{w:World}:Dj P w { cls:=.type "dict",dict:=none,data:=.dict #[] } []:=⟨⟨rfl,rfl,rfl⟩,#[],0,rfl,rfl,List.nodup_nil⟩
theorem Dj.cell {P:Program}{w:World}{o:Obj}{xs:List (List Key×Addr×Value)} (x:Dj P w o xs) (v):o.data≠.cell v:=fun z=>by
 obtain⟨_,es,ep,hd,_⟩:=x
 rw [hd] at z;cases z
theorem Dj.dict {P:Program}{w:World}{H:Hp}{h:Heap}{D:Addr}{o:Obj}{kvs:List (List Key×V)}{xs:List (List Key×Addr×Value)} (x:Dj P w o xs) (ho:h.get? D = some o) (ok:HOk P w H h) (r:KT H kvs xs):h.DictOfH (tupleKind (mixKind P w)) D xs:=by
 obtain⟨hc,es,ep,hd,he,hn⟩:=x
 refine⟨o,es,ep,ho,hc,hd,he,?_,hn⟩
 clear hd he hn
 induction r with
 | nil=>exact fun x hx=>nomatch hx
 | cons q t ih=>
  intro x hx
  rcases List.mem_cons.mp hx with e | e
  · rw [e,<- q.1];exact key_of ok q.2.1
  · exact ih x e
theorem KT.length {H:Hp}{kvs:List (List Key×V)}{xs:List (List Key×Addr×Value)} (r:KT H kvs xs):kvs.length = xs.length:=by
 induction r with
 | nil=>rfl
 | cons q t ih=>rw [List.length_cons,List.length_cons,ih]
def CmpJ (J:It) (g:TG) (tt:TT) (tk tv:TE) (σ0:L2.St) (H0:Hp) (Z:List (List Key×V)->Hp->Prop):Prop:=
 ∃ W:Nat->Nat->List (List Key×V)->L2.St->Hp->Prop,(∃ m,W 0 m [] σ0 H0)/\∀ i m ys σ' H',W i m ys σ' H'->ys.length < sizeLine/\
  ((J.stop i H'/\Z ys H')\/
   (J.go i H'/\∀ x H2,J.yld i H' x H2->g x σ' H2 fun σ3 H3=>tt σ3 H3 fun b H4=>if b = true then tk σ3 H4 fun y H5=>∃ c k,y = .ref c/\H0 c = some (.tup (k.map kV))/\tv σ3 H5 fun z H6=>∃ m',m' < m/\W (i + 1) m' (putK ys k z) σ3 H6 else ∃ m',m' < m/\W (i + 1) m' ys σ3 H4))
section
variable {X:Cx}{pins:List (Addr×Obj)}{σ:L2.St}{H2:Hp}{s2:Shared}{tg iter kx vx:Expr}{ifs:List Expr}{scope:Scope}{pos:Pos}{Nc:List Str}{g:TG}{tt:TT}{tk tv:TE}
theorem jcomp_block {kr:Nat} (hr:Room kr X.A) {it:Addr}{fp:List Addr}{tn:Nat->Heap->Prop}{J:It}{Z:List (List Key×V)->Hp->Prop}{E:Value->Shared->Prop}{RR:Value->Addr->Result->Shared->Prop}
 (hc:X.calm = true) (S:CompS X scope) (I2:Inv X pins σ H2 s2) (T:Turn X.prog X.w X.K tg J fp it tn) (st2:tn 0 s2.heap) (f2:∀ b∈fp,FpOk X pins H2 b)
 (hg:∀ C s H fp,PG (cxC X Nc scope C s H fp) tg g) (ht:∀ C s H fp,PIfs (cxC X Nc scope C s H fp) ifs tt) (hk:∀ C s H fp,PE (cxC X Nc scope C s H fp) kx tk) (hv:∀ C s H fp,PE (cxC X Nc scope C s H fp) vx tv)
 (h:CmpJ J g tt tk tv (List.replicate Nc.length none ++ σ) H2 Z)
 (hRR:∀ D C s' H3 ys,Inv X pins σ (upd H3 D (.dT ys)) s'->H3 D = none->Z ys H3->(∃ m,s'.heap.Ns C m)->FpOk X pins (upd H3 D (.dT ys)) C->RR (.ref D) C (.ok .next) s'):
 wpAny (model X.prog X.w) X.A (newDict) (fun acc s₃=>wpAny (model X.prog X.w) X.A (newFunctionEnv scope X.env.globals (clOf scope X.env) [] X.env.qual none .none (some X.env)) (fun cenv s₄=>
  codeAny (model X.prog X.w) X.A (.compStart (.DictComp kx vx [⟨tg,iter,ifs,0⟩] scope pos) 0 (.ref it) acc { cenv with scope:=relabel scope X.env }) (RR acc cenv.locals) s₄) E s₃) E s2:=by
 refine wpAny_newObj_type (wpAny_newFunctionEnv S.nocell (by intro y hy;simp at hy) (fun h₁ hns₁ hsb₁=>?_) S.kind)
 dsimp only at hns₁ hsb₁ ⊢
 have big:=I2.big
 generalize hH2:s2.heap.push { cls:=.type "dict",dict:=none,data:=.dict #[] } = G at hns₁ hsb₁ ⊢
 have hC:G.objs.size = s2.heap.objs.size + 1:=by rw [<- hH2,Heap.size_push]
 generalize hD0:s2.heap.objs.size = D at *
 generalize hC0:G.objs.size = C at *
 have hDC:D≠C:=by omega
 have below:∀ (b:Nat) o,s2.heap.get? b = some o->b < D:=fun b o e=>hD0▸Heap.lt_size e
 have belC:∀ (b:Nat) o,s2.heap.get? b = some o->b≠C:=fun b o e=>by have:=below b o e;omega
 have belD:∀ (b:Nat) o,s2.heap.get? b = some o->b≠D:=fun b o e=>by have:=below b o e;omega
 have old:∀ b o,s2.heap.get? b = some o->h₁.get? b = some o:=fun b o e=>hsb₁.extBut b o (belC b o e) (by
  have q:=Heap.get?_push_of_some { cls:=.type (if (some X.env).isSome then "dict" else "frame"),data:=.dict #[] } (hH2▸Heap.get?_push_of_some _ e:G.get? b = some o)
  exact q)
 have hacc:h₁.get? D = some { cls:=.type "dict",dict:=none,data:=.dict #[] }:=hsb₁.extBut _ _ hDC (Heap.get?_push_of_some _ (by rw [<- hH2,<- hD0];exact Heap.get?_push_size _ rfl))
 have hsys:(D == sysModules) = false:=by
  rw [beq_eq_false_iff_ne];intro z;rw [z] at big;exact Nat.lt_irrefl _ big
 obtain⟨W,⟨m0,w0⟩,turn⟩:=h
 have hob:∀ b∈fp,∃ o,s2.heap.get? b = some o:=fun b hb=>let ⟨o,e,_⟩:=T.obj _ _ st2 b hb;⟨o,e⟩
 have hfpD:∀ b:Nat,b∈fp->b < D:=fun b hb=>let ⟨o,e⟩:=hob b hb;below b o e
 have hfpN:∀ b:Nat,b∈fp->b≠D:=fun b hb=>Nat.ne_of_lt (hfpD b hb)
 have hcells:∀ y∈scope.names,y.2 = .free->∃ c,X.env.cells.lookup y.1 = some c:=fun y hy e=>I2.ok.has y.1 (S.free y hy e)
 have hsub:∀ {x:Str}{c:Addr},(clOf scope X.env).lookup x = some c->X.env.cells.lookup x = some c:=fun e=>(clOf_sub hcells e).1
 have hclt:∀ x c,(clOf scope X.env).lookup x = some c->c < D:=fun x c e=>let ⟨v,q⟩:=I2.cell x c (hsub e);hD0▸q.lt
 have hn0:h₁.Ns C fun _=>none:=hns₁
 have IB:Inv (cxC X Nc scope C s2 H2 fp) [] (List.replicate Nc.length none ++ σ) H2 { s2 with heap:=h₁,toks:=s2.toks + ([]:List (Str×Value)).length }:=
  inv_block (D:=D) I2 S f2 hob (by omega) old hn0
 have hfs:∀ b:Nat,D<=b->b∉(cxC X Nc scope C s2 H2 fp).fs:=fun b hb hm=>by
  obtain⟨_,o,ho,_⟩:=IB.ok.funs.mem hm
  exact absurd (Nat.lt_of_lt_of_le (below b o ho) hb) (Nat.lt_irrefl _)
 have stat:∀ {H':Hp}{ps:List (Addr×Obj)},(∀ p∈ps,Nat.le D p.1)->(∀ b∈fp,H' b = none)->∀ b∈fp,FpOk (cxC X Nc scope C s2 H2 fp) ps H' b:=fun {H' ps} hps hn b hb=>
  ⟨hn b hb,(let ⟨o,e⟩:=hob b hb;belC b o e),IB.ok.exfs b hb,.inl hb,fun x c e=>(f2 b hb).2.2.2.2.1 x c (hsub e),fun p hp=>Nat.ne_of_gt (Nat.lt_of_lt_of_le (hfpD b hb) (hps p hp))⟩
 have loop:∀ s₃:Shared,s₃ = { s2 with heap:=h₁,toks:=s2.toks + ([]:List (Str×Value)).length }->
  codeAny (model X.prog X.w) X.A (.compLoop (.DictComp kx vx [⟨tg,iter,ifs,0⟩] scope pos) 0 (.ref it) (.ref D) (compEnvC scope (clOf scope X.env) C X.env)) (RR (.ref D) C) s₃:=by
  rintro s₃ rfl
  refine compLoop_goD (fun n s'=>∃ i ys σ' H' vs ob,Inv (cxC X Nc scope C s2 H2 fp) [(D,ob)] σ' H' s'/\KT H2 ys vs/\Dj X.prog X.w ob vs/\tn i s'.heap/\(∀ b∈fp,H' b = none)/\W i n ys σ' H') ?_ m0 ?_
  · rintro n s3 ⟨i,ys,σ3,H3,vs,ob,I3,rv,dk,st3,fr3,w3⟩
    obtain⟨hz,tu⟩:=turn i n ys σ3 H3 w3
    have hps:∀ p∈[((D:Addr),ob)],Nat.le D p.1:=fun p hp=>by
     rcases List.mem_singleton.mp hp with rfl
     exact Nat.le_refl _
    rcases tu with ⟨stop,z⟩ | ⟨go,step⟩
    · refine thn (T.done (cxC X Nc scope C s2 H2 fp) rfl rfl rfl hc i _ s3 σ3 H3 (fun _ _=>False) I3 (stat hps fr3) st3 stop) fun r s4 ⟨hr,I4⟩=>?_
      subst hr
      obtain⟨eD,nD,_,_,_⟩:=I4.pin (D,ob) (List.mem_append_right _ (List.mem_singleton.mpr rfl))
      have eD:s4.heap.get? D = _:=eD
      have nD:H3 D = none:=nD
      have u4:Un (frs X.stack) fp H2 H3 s2.heap s4.heap:=I4.base
      have hH2D:H2 D = none:=I2.hok.fresh (by omega)
      have u5:Un (frs X.stack) fp H2 (upd H3 D (.dT ys)) s2.heap s4.heap:=
       ⟨u4.keep,u4.slot,fun b o e n x=>by rw [upd_ne (belD b o e)];exact u4.free b o e n x,u4.there,fun b xs e=>by rw [upd_ne (ne_of_none e hH2D)];exact u4.tups b xs e,
        fun b o u e=>by rw [upd_ne (ne_of_none e hH2D)];exact u4.frzs b o u e,fun b ps e=>by rw [upd_ne (ne_of_none e hH2D)];exact u4.tbls b ps e⟩
      have hok:HOk X.prog X.w (upd H3 D (.dT ys)) s4.heap:=fun b o e=>by
       by_cases hb:b = D
       · subst hb;rw [upd_same] at e;cases e
         have rv3:KT (upd H3 b (.dT ys)) ys vs:=rv.keeps fun c xs q=>by rw [upd_ne (fun z=>by rw [z,hH2D] at q;cases q)];exact u4.tups c xs q
         obtain⟨hcx,es,ep,hdx,hex,hnx⟩:=dk
         exact⟨Nat.le_of_lt hz,hsys,vs,rv3,ob,es,ep,eD,hcx,hdx,hex,hnx⟩
       · rw [upd_ne hb] at e
         exact (I4.hok b o e).stay (fun _ _ _ q=>q) (fun c q=>by rw [upd_ne (ne_of_none q nD)];exact q) fun c xs q=>by rw [upd_ne (ne_of_none q nD)];exact q
      have I5:Inv X pins σ (upd H3 D (.dT ys)) s4:=I2.call' (ch:=fp) I4.os u5 hok I4.bare fun b hb=>let ⟨a0,a1,a2,a3,a4,a5⟩:=f2 b hb;⟨a3,a1,a4,a5⟩
      obtain⟨m,hm,_⟩:=I4.loc
      refine hRR D C s4 H3 ys I5 nD z ⟨m,hm⟩ (I2.fpOk (by omega) ?_)
      rw [upd_ne (Ne.symm hDC)];exact I4.free
    · refine thn (T.item (cxC X Nc scope C s2 H2 fp) rfl rfl rfl hc i _ s3 σ3 H3 (fun _ _=>False) I3 (stat hps fr3) st3 go) fun r s4 ⟨u,hr,h4⟩=>?_
      subst hr
      refine thn h4 fun _ s5 ⟨x,H5,I5,r5,y5,st5,fr5⟩=>?_
      have I5':=I5.pinned (stat hps fr5) (T.obj _ _ st5)
      refine thn (hg C s2 H2 fp _ s5 σ3 H5 x u _ I5' r5 (step x H5 y5)) fun _ s6 ⟨σ6,H6,I6,q6⟩=>?_
      refine thn (ht C s2 H2 fp _ s6 σ6 H6 _ I6 q6) fun ok s7 ⟨H7,I7,q7⟩=>?_
      have tnK:∀ {σ':L2.St}{H':Hp}{s':Shared},Inv (cxC X Nc scope C s2 H2 fp) ([(D,ob)] ++ pinsAt fp s5.heap) σ' H' s'->tn (i + 1) s'.heap/\(∀ b∈fp,H' b = none)/\(∀ b∈fp,∀ o,s5.heap.get? b = some o->s'.heap.get? b = some o):=fun {σ' H' s'} I'=>
       ⟨T.keep _ _ _ st5 fun b hb o e=>(I'.pin (b,o) (List.mem_append_right _ (List.mem_append_right _ (mem_pinsAt hb e)))).1,fun b hb=>by
        obtain⟨o,e,d⟩:=T.obj _ _ st5 b hb
        exact (I'.pin (b,o) (List.mem_append_right _ (List.mem_append_right _ (mem_pinsAt hb e)))).2.1,fun b hb o e=>(I'.pin (b,o) (List.mem_append_right _ (List.mem_append_right _ (mem_pinsAt hb e)))).1⟩
      cases ok with
      | false=>
       have q7:∃ m',m' < n/\W (i + 1) m' ys σ6 H7:=q7
       obtain⟨m',hm,w7⟩:=q7
       obtain⟨k1,k2,_⟩:=tnK I7
       exact⟨m',hm,i + 1,ys,σ6,H7,vs,ob,I7.unpinned,rv,dk,k1,k2,w7⟩
      | true=>
       have q7:tk σ6 H7 fun y H5=>∃ c k,y = .ref c/\H2 c = some (.tup (k.map kV))/\tv σ6 H5 fun z H6=>∃ m',m' < n/\W (i + 1) m' (putK ys k z) σ6 H6:=q7
       refine thn (hk C s2 H2 fp _ s7 σ6 H7 _ I7 q7) fun yk s8 ⟨ykv,H8,I8,r8,kc,ke,eke,hkc,q8⟩=>?_
       subst eke
       cases r8
       refine thn (hv C s2 H2 fp _ s8 σ6 H8 _ I8 q8) fun y s9 ⟨yv,H9,I9,r9,m',hm,w9⟩=>?_
       obtain⟨k1,k2,k3⟩:=tnK I9
       obtain⟨eD,nD,_,nfD,_⟩:=I9.pin (D,ob) (List.mem_append_right _ (List.mem_append_left _ (List.mem_singleton.mpr rfl)))
       have eD:s9.heap.get? D = _:=eD
       have u9:Un (frs X.stack) fp H2 H9 s2.heap s9.heap:=I9.base
       have rv9:KT H9 ys vs:=rv.keeps fun c xs q=>u9.tups c xs q
       have hroom:(tupleKind (mixKind X.prog X.w)).room X.A:=by have:=hr.un;show X.A.units < cLine;omega
       refine wpAny_dictSet_heap (knd:=tupleKind (mixKind X.prog X.w)) (k:=ke) hroom (key_of I9.hok (u9.tups _ _ hkc)) (dk.dict eD I9.hok rv9) (fun h' hm' sb=>?_) (by rw [<- KT.length rv];omega)
       obtain⟨ob',eo,dk'⟩:=Dj.of hm'
       generalize hdr:s9.toks + (tupleKind (mixKind X.prog X.w)).draws ke = tk9
       have I10:Inv (cxC X Nc scope C s2 H2 fp) [] σ6 H9 { s9 with heap:=h',toks:=tk9 }:=(I9.pins_of (pins':=[]) (fun p hp=>nomatch hp)).turned (t':=tk9) (it:=D) (fun b o hb e=>(sb.2 b hb).trans e) nD hDC (.inr (by show s2.heap.objs.size<=D;omega))
        (fun x c e=>Nat.ne_of_lt (hclt x c e)) (fun p hp=>absurd (show p∈([]:List (Addr×Obj)) from hp) (by simp))
       refine⟨m',hm,i + 1,putK ys ke yv,σ6,H9,_,ob',I10.pins_of fun p hp=>?_,rv.put ke hkc r9,dk',T.keep _ _ _ k1 fun b hb o e=>(sb.2 b (hfpN b hb)).trans e,k2,w9⟩
       rcases List.mem_singleton.mp hp with rfl
       exact⟨eo,nD,hDC,nfD,dk'.cell⟩
  · refine⟨0,[],_,H2,[],_,IB.pins_of fun p hp=>?_,.nil,Dj.nil,T.keep _ _ _ st2 fun b hb o e=>old b o e,fun b hb=>(f2 b hb).1,w0⟩
    rcases List.mem_singleton.mp hp with rfl
    exact⟨hacc,I2.hok.fresh (by omega),hDC,hfs D (Nat.le_refl _),fun v z=>by cases z⟩
 exact codeAny_compStart_dict (loop _ rfl) (T.self _ 0 _ _ _ (T.keep _ _ _ st2 fun b hb o e=>old b o e) (loop _ rfl))
def tJComp (n:Nat) (wi:TI) (g:TG) (tt:TT) (tk tv:TE):TE:=fun σ H Q=>wi σ H fun J H1=>CmpJ J g tt tk tv (List.replicate n none ++ σ) H1 fun ys H'=>∀ p H2,H' p = none->L2.Same H' H2->H2 p = some (.dT ys)->Q (.ref p) H2
theorem pe_jcomp {wi:TI}{kr:Nat} (hr:Room kr X.A) (hc:X.calm = true) (S:CompS X scope) (hs:∀ x,foldedSetIterable iter X.env x = pure x) (hi:PI X tg iter wi)
 (hg:∀ C s H fp,PG (cxC X Nc scope C s H fp) tg g) (ht:∀ C s H fp,PIfs (cxC X Nc scope C s H fp) ifs tt) (hk:∀ C s H fp,PE (cxC X Nc scope C s H fp) kx tk) (hv:∀ C s H fp,PE (cxC X Nc scope C s H fp) vx tv):
 PE X (.DictComp kx vx [⟨tg,iter,ifs,0⟩] scope pos) (tJComp Nc.length wi g tt tk tv):=by
 intro pins s σ H Q I h
 rw [arm_eval_DictComp]
 have hcells:∀ y∈scope.names,y.2 = .free->∃ c,X.env.cells.lookup y.1 = some c:=fun y hy e=>I.ok.has y.1 (S.free y hy e)
 refine wpAny_comprehension_free (use:=none) rfl hs (closure_of hcells) S.kind S.names (thn (hi pins s σ H _ I h) fun v s1 h1=>thn h1 fun itv s2 h2=>?_)
 obtain⟨it,fp,tn,J,H2,e,I2,T,st2,f2,z⟩:=h2
 subst e
 refine jcomp_block hr (RR:=fun acc C=>compPost (model X.prog X.w) X.A X.xe none (EP X pins σ Q) acc C) hc S I2 T st2 f2 hg ht hk hv z fun D C s' H3 ys I' hD hz hm hf=>?_
 obtain⟨m,hm⟩:=hm
 exact⟨m,hm,fun h' sb=>⟨.ref D,_,I'.turned (t':=s'.toks) (it:=C) (fun b o hb e=>(sb.2 b hb).trans e) hf.1 hf.2.1 hf.2.2.2.1 hf.2.2.2.2.1 hf.2.2.2.2.2,rfl,hz D _ hD (Br.Same.upd hD) upd_same⟩⟩
end
section
variable {X:Cx}{K:PySem.W.Frag}{x y z:Str}{px py pz pt pt2 pos:Pos}{k kr kt kt2:Nat}{iter kx vx:Expr}{ifs:List Expr}{scope:Scope}{wi:TI}{tt:TT}{tk tv:TE}
theorem j_jcomp1 (hr:Room kr X.A) (hc:X.calm = true) (S:compB X.env.scope.names X.N scope = true) (hs:∀ x,foldedSetIterable iter X.env x = pure x) (hN:X.N.Nodup) (hk:scope.names.lookup x = some .local)
 (hi:JI X (.Name x px) iter wi) (ht:∀ C s H fp,JIfs (cxC X [x] scope C s H fp) ifs tt) (hkx:∀ C s H fp,JE (cxC X [x] scope C s H fp) kx tk) (hv:∀ C s H fp,JE (cxC X [x] scope C s H fp) vx tv):
 JE X (.DictComp kx vx [⟨.Name x px,iter,ifs,0⟩] scope pos) (tJComp 1 wi (gName 0) tt tk tv):=
 ⟨pe_jcomp hr (Nc:=[x]) hc (.of S) hs hi.h (g_C1 (.of S) hN hk) (fun C s H fp=>(ht C s H fp).h) (fun C s H fp=>(hkx C s H fp).h) fun C s H fp=>(hv C s H fp).h⟩
theorem k_dcomp21 (hK:X.K = K) (hc:X.calm = true) (S:compB X.env.scope.names X.N scope = true) (hs:∀ x,foldedSetIterable iter X.env x = pure x) (hxy:[x,y,z].Nodup) (hx:scope.names.lookup x = some .local) (hy:scope.names.lookup y = some .local) (hz:scope.names.lookup z = some .local)
 (hi:JI X (.Tuple [.Tuple [.Name x px,.Name y py] kt2 pt2,.Name z pz] kt pt) iter wi) (ht:∀ C s H fp,JIfs (cxC X [x,y,z] scope C s H fp) ifs tt) (hkx:∀ C s H fp,JE (cxC X [x,y,z] scope C s H fp) kx tk) (hv:∀ C s H fp,JE (cxC X [x,y,z] scope C s H fp) vx tv):
 JE X (.DictComp kx vx [⟨.Tuple [.Tuple [.Name x px,.Name y py] kt2 pt2,.Name z pz] kt pt,iter,ifs,0⟩] scope pos) (tDComp 3 wi (gTup K 2 (gCons (gTup K 2 (gCons (gName 0) (gCons (gName 1) gNil))) (gCons (gName 2) gNil))) tt tk tv):=by
 subst hK
 refine⟨pe_dcomp (Nc:=[x,y,z]) hc (.of S) hs hi.h (fun C s H fp=>?_) (fun C s H fp=>(ht C s H fp).h) (fun C s H fp=>(hkx C s H fp).h) fun C s H fp=>(hv C s H fp).h⟩
 have nd:(cxC X [x,y,z] scope C s H fp).N.Nodup:=by
  show ([x,y,z] ++ X.N.map (hid scope)).Nodup
  refine List.nodup_append.mpr ⟨hxy,(CompS.of S).nd,fun a ha b hb e=>?_⟩
  subst e
  simp only [List.mem_cons,List.mem_nil_iff,or_false] at ha
  rcases ha with rfl | rfl | rfl
  · exact not_mem_of (CompS.of S) hx hb
  · exact not_mem_of (CompS.of S) hy hb
  · exact not_mem_of (CompS.of S) hz hb
 exact pg_tup (X:=cxC X [x,y,z] scope C s H fp) hc (pgs_cons (pg_tup (X:=cxC X [x,y,z] scope C s H fp) hc (pgs_cons (pg_name nd rfl (.inl (loc_C hx)) (.inr (loc_C hx))) (pgs_cons (pg_name nd rfl (.inl (loc_C hy)) (.inr (loc_C hy))) pgs_nil))) (pgs_cons (pg_name nd rfl (.inl (loc_C hz)) (.inr (loc_C hz))) pgs_nil))
end
section
variable {K:PySem.W.Frag}{a b:Addr}{xs ys:List V}{g:TG}{tt:TT}{tk tv:TE}{σ0:L2.St}{H0:Hp}
theorem cmpd_zip {Z:List (Key×V)->Hp->Prop}{f1 f2:Bool}{n:Nat} (hx:n<=xs.length) (hy:ys.length = n) (hn:n<=1000) (Pv:Nat->List (Key×V)->L2.St->Hp->Prop) (h0:Pv 0 [] σ0 H0) (hl:∀ i zs σ H,i<=n->Pv i zs σ H->ZG.SqS f1 K H a xs/\ZG.SqS f2 K H b ys/\zs.length<=i)
 (hs:∀ i x y zs σ H (T:Addr) (N:List (Key×V)->L2.St->Hp->Prop),xs[i]? = some x->ys[i]? = some y->Pv i zs σ H->H T = none->(∀ zs' σ' H',Pv (i + 1) zs' σ' H'->N zs' σ' H')->
  g (.ref T) σ (upd H T (.tup [x,y])) fun σ3 H3=>tt σ3 H3 fun b H4=>if b = true then tk σ3 H4 fun y H5=>∃ k,y = kV k/\tv σ3 H5 fun z H6=>N (putK zs k z) σ3 H6 else N zs σ3 H4)
 (hd:∀ zs σ H,Pv n zs σ H->Z zs H):CmpD (ZG.Itz f1 f2 K a b) g tt tk tv σ0 H0 Z:=by
 have hsz:(sizeLine:Nat) = 16777216:=sizeLine_eq
 refine⟨fun i m zs σ H=>m = n - i/\i<=n/\Pv i zs σ H,⟨n,by simp,Nat.zero_le _,h0⟩,?_⟩
 rintro i m zs σ H ⟨rfl,hi,p⟩
 obtain⟨q1,q2,hy'⟩:=hl i zs σ H hi p
 refine⟨by omega,?_⟩
 by_cases hlt:i < n
 · have e1:xs[i]? = some xs[i]:=List.getElem?_eq_getElem (by omega)
   have e2:ys[i]? = some ys[i]:=List.getElem?_eq_getElem (by omega)
   refine .inr ⟨⟨xs,ys,_,_,q1,q2,e1,e2⟩,fun v H' yl=>?_⟩
   obtain⟨x,y,T,rfl,hT,rfl,hxz⟩:=yl
   obtain⟨e3,e4⟩:=hxz xs ys q1 q2
   exact hs i x y zs σ _ T (fun ys' σ' H'=>∃ m',m' < n - i/\m' = n - (i + 1)/\i + 1<=n/\Pv (i + 1) ys' σ' H') e3 e4 p hT fun ys' σ' H' p'=>⟨n - (i + 1),by omega,rfl,hlt,p'⟩
 · have e:i = n:=by omega
   subst e
   exact .inl ⟨⟨xs,ys,q1,q2,.inr (by omega)⟩,hd zs σ H p⟩
theorem cmpj_list {Z:List (List Key×V)->Hp->Prop} (Pv:Nat->List (List Key×V)->L2.St->Hp->Prop) (h0:Pv 0 [] σ0 H0) (hn:xs.length<=1000) (hl:∀ i ys σ H,i<=xs.length->Pv i ys σ H->SqL K H a xs/\ys.length<=i)
 (hs:∀ i x ys σ H (N:List (List Key×V)->L2.St->Hp->Prop),xs[i]? = some x->Pv i ys σ H->(∀ ys' σ' H',Pv (i + 1) ys' σ' H'->N ys' σ' H')->
  g x σ H fun σ3 H3=>tt σ3 H3 fun b H4=>if b = true then tk σ3 H4 fun y H5=>∃ c k,y = .ref c/\H0 c = some (.tup (k.map kV))/\tv σ3 H5 fun z H6=>N (putK ys k z) σ3 H6 else N ys σ3 H4)
 (hd:∀ ys σ H,Pv xs.length ys σ H->Z ys H):CmpJ (Itl K a) g tt tk tv σ0 H0 Z:=by
 have hsz:(sizeLine:Nat) = 16777216:=sizeLine_eq
 refine⟨fun i m ys σ H=>m = xs.length - i/\i<=xs.length/\Pv i ys σ H,⟨xs.length,by simp,Nat.zero_le _,h0⟩,?_⟩
 rintro i m ys σ H ⟨rfl,hi,p⟩
 obtain⟨q,hy⟩:=hl i ys σ H hi p
 refine⟨by omega,?_⟩
 by_cases hlt:i < xs.length
 · refine .inr ⟨⟨xs,xs[i],q,by simp [hlt]⟩,fun x H' y=>?_⟩
   obtain⟨rfl,hx⟩:=y
   exact hs i x ys σ H' (fun ys' σ' H''=>∃ m',m' < xs.length - i/\m' = xs.length - (i + 1)/\i + 1<=xs.length/\Pv (i + 1) ys' σ' H'') (hx xs q) p fun ys' σ' H'' p'=>⟨xs.length - (i + 1),by omega,rfl,hlt,p'⟩
 · have e:i = xs.length:=by omega
   subst e
   exact .inl ⟨⟨xs,q,by simp⟩,hd ys σ H p⟩
end
theorem args_max3 (a b c:Value):argsOk "max" ⟨[a,b,c],[]⟩:=by unfold argsOk;kernel_rfl
section
variable {prog:Program}{w:World}{A:Around}{E:Value->Shared->Prop}{s:Shared}
theorem max_three {a b c:Int}{t u v:Tok}{Q:Value->Shared->Prop} (hh:A.handled = none) (h:∀ h' tk x,(∀ c o,s.heap.get? c = some o->h'.get? c = some o)->Q (.int (max (max a b) c) x) { s with heap:=h',toks:=tk }):
 wpAny (model prog w) A (call (.builtin "max") [.int a t,.int b u,.int c v]) Q E s:=by
 refine call_function_tree F.kind_max F.plain_max F.entry_max (args_max3 _ _ _) ?_
 refine wpAny_bind (wpAny_of_eq (show Builtin.Builtins.bindParams "max" ["key","default"] 0 ⟨[],[]⟩ = pure [none,none] from rfl) ?_)
 show wpAny _ A.in1 (newTuple [.int a t,.int b u,.int c v] >>= _) _ _ s
 refine wpAny_bind (wpAny_newObj_type ?_)
 generalize hg:s.heap.push { cls:=.type "tuple",data:=.seq ([.int a t,.int b u,.int c v]:List Value).toArray } = g
 have gk:∀ b o,s.heap.get? b = some o->g.get? b = some o:=fun b o e=>by rw [<- hg];exact Heap.get?_push_of_some _ e
 have gz:g.objs.size = s.heap.objs.size + 1:=by rw [<- hg,Heap.size_push]
 have hT:g.IsTuple s.heap.objs.size (intItems #[(a,t),(b,u),(c,v)]):=⟨_,by rw [<- hg];exact Heap.get?_push_size _ rfl,rfl,0,by simp [intItems]⟩
 have nI:s.heap.objs.size≠g.objs.size:=by rw [gz];exact Nat.ne_of_lt (Nat.lt_succ_self _)
 refine wpAny_bind (wpAny_pyIter_tuple hT (wpAny_bind (wpAny_newObj_type ?_)))
 rw [show (toString "max" ++ toString ".loop" : String) = "max.loop" by decide]
 have st:∀ h2:Heap,(∀ b o,(g.push { cls:=.type "tuple_iterator",data:=.fields #[.ref s.heap.objs.size,.int 0 0] }).get? b = some o->h2.get? b = some o)->h2.IsTupleIter g.objs.size s.heap.objs.size 0/\h2.IsTuple s.heap.objs.size (intItems #[(a,t),(b,u),(c,v)]):=fun h2 k=>
  ⟨⟨_,k _ _ (Heap.get?_push_size _ rfl),rfl,rfl⟩,let ⟨o,e,r⟩:=hT;⟨o,k _ _ (Heap.get?_push_of_some _ e),r⟩⟩
 refine wpAny_pure ⟨plainId_quiet F.plain_max_loop _,codeAny_max_loop_first (Walks.tuple (A:=A.in1) hh _ s.heap.objs.size nI (intItems #[(a,t),(b,u),(c,v)])) _ (CmpOf.ints_gt (numAt #[(a,t),(b,u),(c,v)]) (fun _ _=>intItems_at)) _ (fun z=>?_) (by simp [intItems]) (st _ fun b o e=>Heap.get?_push_of_some _ e) (Heap.get?_push_size _ rfl) fun x h' tk hP hk=>?_⟩
 · rw [Heap.size_push,gz] at z
   rcases List.mem_cons.mp z with z | z
   · exact Nat.ne_of_gt (Nat.lt_succ_self _) z
   · exact Nat.ne_of_gt (Nat.lt_succ_of_lt (Nat.lt_succ_self _)) (List.mem_singleton.mp z)
 · have hP':(intItems #[(a,t),(b,u),(c,v)])[argBest (fun i j=>decide (numAt #[(a,t),(b,u),(c,v)] i > numAt #[(a,t),(b,u),(c,v)] j)) 2]? = some x:=by
    have e:(intItems #[(a,t),(b,u),(c,v)]).size - 1 = 2:=by simp [intItems]
    rw [<- e];exact hP
   have hx:∃ y,x = .int (max (max a b) c) y:=by
    by_cases h1:a < b
    · by_cases h2:b < c
      · have e:argBest (fun i j=>decide (numAt #[(a,t),(b,u),(c,v)] i > numAt #[(a,t),(b,u),(c,v)] j)) 2 = 2:=by simp [argBest,numAt,h1,h2]
        rw [e] at hP'
        refine⟨v,?_⟩
        rw [show max (max a b) c = c by omega];simpa [intItems] using hP'.symm
      · have e:argBest (fun i j=>decide (numAt #[(a,t),(b,u),(c,v)] i > numAt #[(a,t),(b,u),(c,v)] j)) 2 = 1:=by simp [argBest,numAt,h1,h2]
        rw [e] at hP'
        refine⟨u,?_⟩
        rw [show max (max a b) c = b by omega];simpa [intItems] using hP'.symm
    · by_cases h2:a < c
      · have e:argBest (fun i j=>decide (numAt #[(a,t),(b,u),(c,v)] i > numAt #[(a,t),(b,u),(c,v)] j)) 2 = 2:=by simp [argBest,numAt,h1,h2]
        rw [e] at hP'
        refine⟨v,?_⟩
        rw [show max (max a b) c = c by omega];simpa [intItems] using hP'.symm
      · have e:argBest (fun i j=>decide (numAt #[(a,t),(b,u),(c,v)] i > numAt #[(a,t),(b,u),(c,v)] j)) 2 = 0:=by simp [argBest,numAt,h1,h2]
        rw [e] at hP'
        refine⟨t,?_⟩
        rw [show max (max a b) c = a by omega];simpa [intItems] using hP'.symm
   obtain⟨y,rfl⟩:=hx
   refine h h' tk y fun b o e=>hk b o (fun z=>?_) ?_ (Heap.get?_push_of_some _ (Heap.get?_push_of_some _ (gk b o e)))
   · have:=List.mem_singleton.mp z
     exact Nat.ne_of_lt (Nat.lt_succ_of_lt (Heap.lt_size e)) (by rw [this,gz])
   · rw [Heap.size_push,gz];exact Nat.ne_of_lt (Nat.lt_succ_of_lt (Nat.lt_succ_of_lt (Heap.lt_size e)))
end
section
variable {X:Cx}{e:Expr}{es:List Expr}{t:TA}{pos p:Pos}{x:Str}
theorem call_max3 (hc:X.calm = true):CallR X (.builtin "max") (fun xs H Q=>∃ i j k,xs = [.int i,.int j,.int k]/\Q (.int (max (max i j) k)) H):=by
 intro pins s σ H xs us Q I r h
 obtain⟨i,j,k,rfl,q⟩:=h
 cases r with
 | cons r1 r=>
  obtain⟨u,w',rfl,⟨t,rfl⟩,⟨t',rfl⟩⟩:=vals2 r
  obtain⟨t0,rfl⟩:=r1
  exact max_three (I.ok.hd hc) fun h' tk x kp=>⟨.int (max (max i j) k),H,I.kept kp,⟨_,rfl⟩,q⟩
theorem j_max3 (hg:Gl X x) (he:starEach (e :: es) X.env = (false,eval e X.env) :: starEach es X.env) (hpl:(backTo pos (starEach es X.env)).any (·.1) = false) (hx:x = "max") (hc:X.calm = true) (hm:X.mg x = none) (ha:JA X (e :: es) t):
 JE X (.Call (.Name x p) (e :: es) [] pos) (tCB (fun xs H Q=>∃ i j k,xs = [.int i,.int j,.int k]/\Q (.int (max (max i j) k)) H) t):=⟨by subst hx;exact pe_callB (call_max3 hc) hg hm boot_max ha.h (by decide) (by decide) he hpl⟩
end
theorem tl_keysL:typeLookup (.type "list") (Str.ofString "keys") = pure none:=by rw [typeLookup_type,builtinLookup_eq_fast];rfl
theorem ti_gaL {s:Shared}:s.TypeIs (.builtin "list.__getattribute__") "wrapper_descriptor":=by rfl
theorem noKeysL {prog:Program}{w:World}{A:Around}{E:Value->Shared->Prop}{s:Shared}{t:Addr}{xs:Array Value}{n:Nat}{Q:Option Value->Shared->Prop} (hh:A.handled = none) (ho:s.heap.get? t = some { cls:=.type "list",data:=.seq xs n })
 (go:∀ h' tk,(∀ b o,s.heap.get? b = some o->h'.get? b = some o)->Q none { s with heap:=h',toks:=tk }):wpAny (model prog w) A (getAttr? (.ref t) (Str.ofString "keys")) Q E s:=by
 obtain⟨hp,g,dr,tk,os⟩:=s
 have ho:hp.get? t = some { cls:=.type "list",data:=.seq xs n }:=ho
 unfold getAttr?
 refine wpAny_bind (wpAny_mkText ?_)
 unfold getAttrBy?
 refine wpAny_bind (wpAny_attempt ?_)
 unfold getAttrBy
 refine wpAny_holding ?_
 refine wpAny_bind (wpAny_typeOf (T:="list") ⟨_,ho,rfl⟩ ?_)
 rw [F.slot_list_getattribute.lookup]
 refine wpAny_bind (wpAny_pure ?_)
 show wpAny _ _ (if _ then _ else _) _ _ _
 rw [if_neg (by decide)]
 unfold getAttrByItsOwn
 wp_walk
 unfold bindSpecial
 refine wpAny_bind (wpAny_typeOf (T:="wrapper_descriptor") ti_gaL ?_)
 show wpAny _ _ (if _ then _ else _) _ _ _
 rw [if_pos (by decide)]
 refine wpAny_pure ?_
 show wpAny _ _ (call (.builtin "list.__getattribute__") [.ref t,_]) _ _ _
 refine wpAny_call_entry F.slot_list_getattribute ⟨_,ho,rfl⟩ am_entry_list_getattribute ?_ (F.args_list_getattribute_2 _ _)
 show wpAny _ _ (Builtin.ObjectAttr.attrName _ >>= _) _ _ _
 refine wpAny_bind ?_
 wp_walk
 rw [tl_keysL]
 wp_walk
 refine wpAny_raiseAttrError (A:=A.in1) hh fun h' tk' e ne=>?_
 have hT:∃ ob,h'.get? e = some ob/\ob.cls = .type "AttributeError":=let ⟨_,_,a⟩:=ne.there;⟨_,a,rfl⟩
 show wpAny _ _ (getattributeRaised _ _ _ _ _ _ _) _ _ _
 unfold getattributeRaised
 refine wpAny_bind (wpAny_isInstance (T:="AttributeError") (b:=true) hT (by rw [isSubtype_type];rfl) ?_)
 rw [if_pos rfl]
 unfold hookBehind
 rw [if_neg (by decide),F.plainAttrs_list.noGetattr]
 refine wpAny_bind (wpAny_pure ?_)
 unfold hookOrError
 unfold attributeErrorLeaves
 show wpAny _ _ (if (!false) = true then throw _ >>= _ else _) _ _ _
 rw [if_pos (show (!false) = true from rfl)]
 refine wpAny_bind (wpAny_throw ?_)
 refine wpAny_bind (wpAny_isInstance (T:="AttributeError") (b:=true) hT (by rw [isSubtype_type];rfl) ?_)
 rw [if_pos rfl]
 exact wpAny_pure (go h' tk' ne.keeps)
namespace DG
abbrev sqn (f:Bool):String:=if f = true then "tuple" else "list"
abbrev itn (f:Bool):String:=if f = true then "tuple_iterator" else "list_iterator"
abbrev Sq (f:Bool) (h:Heap) (t:Addr) (xs:Array Value):Prop:=if f = true then h.IsTuple t xs else h.IsList t xs
abbrev It (f:Bool) (h:Heap) (c t:Addr) (i:Nat):Prop:=if f = true then h.IsTupleIter c t i else h.IsListIter c t i
section
theorem Sq.at (q:Sq f h t xs) (k:∀ o,h.get? t = some o->h'.get? t = some o):Sq f h' t xs:=by
 cases f <;> exact let ⟨o,a,b⟩:=q;⟨o,k o a,b⟩
theorem It.at (q:It f h c t i) (k:∀ o,h.get? c = some o->h'.get? c = some o):It f h' c t i:=by
 cases f <;> exact let ⟨o,a,b⟩:=q;⟨o,k o a,b⟩
theorem item (hi:It f s.heap c t i) (ht:Sq f s.heap t xs) (hx:xs[i]? = some x) (go:∀ h',It f h' c t (i + 1)->Heap.SameBut c s.heap h'->Q (some x) { s with heap:=h' }):wpAny (model prog w) A (pyNext (.ref c)) Q E s:=by
 cases f
 · exact wpAny_pyNext_list_item hi ht hx go
 · exact wpAny_pyNext_tuple_item hi ht hx go
theorem stop (hh:A.handled = none) (hi:It f s.heap c t i) (ht:Sq f s.heap t xs) (hx:xs[i]? = none) (go:∀ h',Heap.ExtBut c s.heap h'->Q none { s with heap:=h' }):wpAny (model prog w) A (pyNext (.ref c)) Q E s:=by
 cases f
 · exact wpAny_pyNext_list_end hh hi ht hx go
 · exact wpAny_pyNext_tuple_end hh hi ht hx go
theorem nokeys (hh:A.handled = none) (ho:s.heap.get? t = some { cls:=.type (sqn f),data:=.seq xs n })
 (go:∀ h' tk,(∀ b o,s.heap.get? b = some o->h'.get? b = some o)->Q none { s with heap:=h',toks:=tk }):wpAny (model prog w) A (getAttr? (.ref t) (Str.ofString "keys")) Q E s:=by
 cases f
 · exact noKeysL hh ho go
 · exact noKeys hh ho go
theorem iter (ht:Sq f s.heap t xs) (h:Q (.ref s.heap.objs.size) { s with heap:=s.heap.push { cls:=.type (itn f),data:=.fields #[.ref t,.int 0 0] } }):wpAny (model prog w) A (pyIter (.ref t)) Q E s:=by
 cases f
 · exact wpAny_pyIter_list ht h
 · exact wpAny_pyIter_tuple ht h
abbrev Pr:=Addr×Value×Value
theorem dul {f:Bool}{d c t:Addr}{ps:List Pr} (hh:A.handled = none) (ndc:d≠c) (nt:t≠d/\t≠c) (hpn:∀ p∈ps,p.1≠d/\p.1≠c) (D:Nat->Heap->Prop)
 (stay:∀ i h h',D i h->(∀ b o,b≠c->h.get? b = some o->h'.get? b = some o)->D i h')
 (step:∀ (i:Nat) (p:Pr) (s:Shared) (Q:Unit->Shared->Prop) (E:Value->Shared->Prop),ps[i]? = some p->D i s.heap->(∀ h2 tk,D (i + 1) h2->Heap.SameBut d s.heap h2->Q () { s with heap:=h2,toks:=tk })->wpAny (model prog w) A.in1 (dictSet d p.2.1 p.2.2) Q E s) (result:Value):
 ∀ (m i:Nat) (s:Shared),ps.length - i = m->i<=ps.length->It f s.heap c t i->Sq f s.heap t (ps.map fun p=>Value.ref p.1).toArray->(∀ p∈ps,s.heap.IsTuple p.1 #[p.2.1,p.2.2])->D i s.heap->
 (∀ h' tk,D ps.length h'->(∀ b o,b≠d->b≠c->s.heap.get? b = some o->h'.get? b = some o)->R (.ok (.ret result)) { s with heap:=h',toks:=tk })->
 codeAny (model prog w) A (.builtin "dict.update.loop" ⟨[.ref d,.ref c,rawInt i,result],[]⟩) R s:=by
 intro m
 induction m with
 | zero=>
  intro i s hm hi st T P D0 go
  obtain rfl:i = ps.length:=by omega
  refine codeAny_builtin entry_dul ?_
  rw [Around.under_plainId plain_dul _]
  exact wpAny_bind (stop (A:=A.in1) hh st T (by simp) fun h' eb=>wpAny_bind (wpAny_pure (a:=()) (wpAny_pure (go h' _ (stay _ _ _ D0 fun b o hb q=>eb b o hb q) fun b o _ hb q=>eb b o hb q))))
 | succ m ih=>
  intro i s hm hi st T P D0 go
  have hlt:i < ps.length:=by omega
  obtain⟨p,hp⟩:∃ p,ps[i]? = some p:=⟨_,List.getElem?_eq_getElem hlt⟩
  have hpm:=List.mem_of_getElem? hp
  refine codeAny_builtin entry_dul ?_
  rw [Around.under_plainId plain_dul _]
  refine wpAny_bind (item st T (x:=.ref p.1) (by simp [hp]) fun h1 st1 sb1=>?_)
  have k1:∀ b o,b≠c->s.heap.get? b = some o->h1.get? b = some o:=fun b o hb q=>(sb1.2 b hb).trans q
  obtain⟨op,hop0,hcp,np,hdp⟩:=P p hpm
  have hop:=k1 _ _ (hpn p hpm).2 hop0
  refine wpAny_bind (wpAny_holding (wpAny_bind (wpAny_tryCatch ?_)))
  unfold Builtin.Dict.pairItems
  refine wpAny_bind (wpAny_typeOf (T:="tuple") ⟨op,hop,hcp⟩ ?_)
  rw [if_pos (by decide)]
  refine wpAny_bind (wpAny_seqItems hop hdp (wpAny_pure ?_))
  show wpAny _ _ (holding [p.2.1,p.2.2] (dictSet d p.2.1 p.2.2)) _ _ _
  refine wpAny_holding (step i p { s with heap:=h1 } _ _ hp (stay _ _ _ D0 k1) fun h2 tk2 D2 sb2=>?_)
  have k2:∀ b o,b≠d->b≠c->s.heap.get? b = some o->h2.get? b = some o:=fun b o hd hc q=>(sb2.2 b hd).trans (k1 b o hc q)
  have ei:((i:Int) + 1) = ((i + 1:Nat):Int):=by omega
  show wpAny _ _ (again (.builtin "dict.update.loop" ⟨[.ref d,.ref c,rawInt ((i:Int) + 1),result],[]⟩)) _ _ _
  rw [ei]
  exact wpAny_pure ⟨plainId_quiet plain_dul _,ih (i + 1) _ (by omega) (by omega) (st1.at fun o q=>(sb2.2 c (Ne.symm ndc)).trans q) (T.at fun o q=>k2 _ _ nt.1 nt.2 q) (fun q hq=>let ⟨o,a,b⟩:=P q hq;⟨o,k2 _ _ (hpn q hq).1 (hpn q hq).2 a,b⟩) D2 fun h' tk D' k'=>go h' tk D' fun b o hd hc q=>k' b o hd hc (k2 b o hd hc q)⟩
theorem dict_any {f:Bool}{s:Shared}{t:Addr}{ps:List Pr}{n:Nat}{Q:Value->Shared->Prop} (hh:A.handled = none) (ho:s.heap.get? t = some { cls:=.type (sqn f),data:=.seq (ps.map fun p=>Value.ref p.1).toArray n }) (P:∀ p∈ps,s.heap.IsTuple p.1 #[p.2.1,p.2.2]) (D:Nat->Heap->Prop)
 (start:∀ h1,(∀ b o,(s.heap.push { cls:=.type "dict",data:=.dict #[] }).get? b = some o->h1.get? b = some o)->D 0 h1)
 (stay:∀ c i h h',s.heap.objs.size < c->D i h->(∀ b o,b≠c->h.get? b = some o->h'.get? b = some o)->D i h')
 (step:∀ (i:Nat) (p:Pr) (A':Around) (s':Shared) (Q:Unit->Shared->Prop) (E:Value->Shared->Prop),A'.units = A.units + 2->ps[i]? = some p->D i s'.heap->(∀ h2 tk,D (i + 1) h2->Heap.SameBut s.heap.objs.size s'.heap h2->Q () { s' with heap:=h2,toks:=tk })->wpAny (model prog w) A' (dictSet s.heap.objs.size p.2.1 p.2.2) Q E s')
 (go:∀ h' tk,D ps.length h'->(∀ b o,s.heap.get? b = some o->h'.get? b = some o)->Q (.ref s.heap.objs.size) { s with heap:=h',toks:=tk }):
 wpAny (model prog w) A (call (.type "dict") [.ref t]) Q E s:=by
 refine callType_codes F.kt_called_dict (F.kt_typeCall_dict_1 _) F.entry_dict_init (kt_code_dict_new (.ref t) (Q₁:=fun obj s1=>obj = .ref s.heap.objs.size/\s1 = { s with heap:=s.heap.push { cls:=.type "dict",data:=.dict #[] } }) ⟨rfl,rfl⟩) fun obj s1 e=>?_
 obtain⟨rfl,rfl⟩:=e
 have hd0:(s.heap.push { cls:=.type "dict",data:=.dict #[] }).get? s.heap.objs.size = some _:=Heap.get?_push_size _ rfl
 refine⟨⟨_,hd0,rfl⟩,F.args_dict_init_2 _ _,?_⟩
 have k0:∀ b o,s.heap.get? b = some o->(s.heap.push { cls:=.type "dict",data:=.dict #[] }).get? b = some o:=fun b o q=>Heap.get?_push_of_some _ q
 show wpAny _ _ (Builtin.Dict.selfAndRest "__init__" _ >>= _) _ _ _
 unfold Builtin.Dict.selfAndRest Builtin.Dict.notOrdered
 refine wpAny_bind (wpAny_bind ?_)
 rw [if_pos (by decide)]
 refine wpAny_bind (wpAny_typeOf (T:="dict") ⟨_,hd0,rfl⟩ ?_)
 rw [if_neg (by decide)]
 refine wpAny_pure (wpAny_bind (wpAny_pure (wpAny_pure ?_)))
 show wpAny _ _ (Builtin.Dict.updateFrom "dict.__init__" s.heap.objs.size (.ref t) [] .none) _ _ _
 unfold Builtin.Dict.updateFrom
 refine wpAny_bind (wpAny_typeOf (T:=sqn f) ⟨_,k0 _ _ ho,rfl⟩ ?_)
 rw [if_pos (by cases f <;> decide)]
 refine wpAny_bind (nokeys hh (k0 _ _ ho) fun h1 tk1 k1=>?_)
 have hit:Sq f h1 t (ps.map fun p=>Value.ref p.1).toArray:=by cases f <;> exact⟨_,k1 _ _ (k0 _ _ ho),rfl,n,rfl⟩
 refine wpAny_bind (wpAny_rule (wpAny_bind (iter (s:={ s with heap:=h1,toks:=tk1 }) hit ?_)))
 have lt0:s.heap.objs.size < h1.objs.size:=Heap.lt_size (k1 _ _ hd0)
 have ht:t < s.heap.objs.size:=Heap.lt_size ho
 have hpa:∀ p∈ps,p.1 < s.heap.objs.size:=fun p hp=>let ⟨o,q,_⟩:=P p hp;Heap.lt_size q
 have kk:∀ b o,(s.heap.push { cls:=.type "dict",data:=.dict #[] }).get? b = some o->(h1.push { cls:=.type (itn f),data:=.fields #[.ref t,.int 0 0] }).get? b = some o:=fun b o q=>Heap.get?_push_of_some _ (k1 _ _ q)
 exact wpAny_pure ⟨plainId_quiet plain_dul _,dul (A:=A.in1) (c:=h1.objs.size) (t:=t) (ps:=ps) (f:=f) (show A.in1.handled = none from hh) (Nat.ne_of_lt lt0) ⟨Nat.ne_of_lt ht,Nat.ne_of_lt (Nat.lt_trans ht lt0)⟩ (fun p hp=>⟨Nat.ne_of_lt (hpa p hp),Nat.ne_of_lt (Nat.lt_trans (hpa p hp) lt0)⟩) D (fun i h h'=>stay _ i h h' lt0) (fun i p s' Q E=>step i p _ s' Q E rfl) .none ps.length 0 _ (by omega) (by omega)
  (by cases f <;> exact⟨_,Heap.get?_push_size _ rfl,rfl,rfl⟩) (by cases f <;> exact⟨_,kk _ _ (k0 _ _ ho),rfl,n,rfl⟩) (fun p hp=>let ⟨o,a,b⟩:=P p hp;⟨o,kk _ _ (k0 _ _ a),b⟩) (start _ kk) fun h' tk D' k'=>⟨rfl,go h' tk D' fun b o q=>k' b o (Nat.ne_of_lt (Heap.lt_size q)) (Nat.ne_of_lt (Nat.lt_trans (Heap.lt_size q) lt0)) (kk b o (k0 _ _ q))⟩⟩
end
end DG
def rDictL:List V->Hp->VK->Prop:=fun xs H Q=>∃ (t:Addr) (as:List Addr) (kvs:List (Key×V)),xs = [.ref t]/\H t = some (.lst (as.map V.ref))/\as.length = kvs.length/\kvs.length<=1000/\(∀ (i:Nat) a kv,as[i]? = some a->kvs[i]? = some kv->Rd H a (.tup [kV kv.1,kv.2]))/\
 ∀ p H2,H p = none->L2.Same H H2->H2 p = some (.dK (mergeK [] kvs))->Q (.ref p) H2
theorem stored_len (vs:List (Key×Value)) (k:Key) (v:Value):(stored vs k v).length<=vs.length + 1:=by
 unfold stored;split
 · simp
 simp
theorem fold_len:∀ (ps:List (Addr×Value×Key×Value)) (vs:List (Key×Value)),(ps.foldl (fun a p=>stored a p.2.2.1 p.2.2.2) vs).length<=vs.length + ps.length
 | [],vs=>Nat.le_refl _
 | p :: ps,vs=>by
  have h1:=fold_len ps (stored vs p.2.2.1 p.2.2.2)
  have h2:=stored_len vs p.2.2.1 p.2.2.2
  grind
section
theorem call_dictL (hc:X.calm = true):CallR X (.type "dict") rDictL:=fun pins s σ H xs us Q I r h=>by
 obtain⟨t,as,kvs,rfl,ht,hl,hk,hp,q⟩:=h
 obtain⟨u,rfl,rx⟩:=vals1 r
 cases rx
 obtain⟨ps,e1,e2,e3,e4⟩:=raw_pairs I as kvs hl hp
 have hsz:(sizeLine:Nat) = 16777216:=sizeLine_eq
 obtain⟨hz,its',n,rv,g0⟩:=(show ObjOk X.prog X.w H s.heap t (.lst (as.map V.ref)) from I.hok t _ ht)
 have hvr:=DK.vals_refs as its' rv
 have hpl:ps.length = kvs.length:=by have:=congrArg List.length e1;rw [List.length_map,List.length_map] at this;omega
 have g1:s.heap.get? t = some { cls:=.type (DG.sqn false),data:=.seq ((ps.map fun p=>((p.1,p.2.1,p.2.2.2):DG.Pr)).map fun p=>Value.ref p.1).toArray n }:=by
  rw [List.map_map]
  have e:(ps.map ((fun p:DG.Pr=>Value.ref p.1) ∘ fun p=>(p.1,p.2.1,p.2.2.2))) = as.map Value.ref:=e1
  rw [e,<- hvr];exact g0
 refine DG.dict_any (f:=false) (I.ok.hd hc) g1 (fun p hp=>?_) (fun i h=>h.DictOf (mixKind X.prog X.w) s.heap.objs.size ((ps.take i).foldl (fun a p=>stored a p.2.2.1 p.2.2.2) [])) ?_ ?_ ?_ fun h' tk D k=>?_
 · obtain⟨p0,h0,rfl⟩:=List.mem_map.mp hp;exact e2 p0 h0
 · intro h1 k1
   obtain⟨o,es,ep,q,r⟩:=Heap.DictOf.new (knd:=mixKind X.prog X.w) s.heap
   exact⟨o,es,ep,k1 _ _ q,r⟩
 · rintro c i h h' hc ⟨o,es,ep,q,r⟩ k
   exact⟨o,es,ep,k _ _ (Nat.ne_of_lt hc) q,r⟩
 · intro i p A' s' Q E _ hp D go
   rw [List.getElem?_map] at hp
   obtain⟨p0,hp0,rfl⟩:=Option.map_eq_some_iff.mp hp
   have hlen:=fold_len (ps.take i) []
   rw [List.length_take,List.length_nil] at hlen
   refine wpAny_dictSet_pairs (knd:=mixKind X.prog X.w) (k:=p0.2.2.1) (e3 p0 (List.mem_of_getElem? hp0)) D (fun h2 D2 sb2=>go h2 _ ?_ sb2) (by omega)
   rw [List.take_add_one,hp0,List.foldl_append];exact D2
 · rw [List.length_map,List.take_length,fold_merge] at D
   have lm:=length_mergeK kvs []
   rw [List.length_nil] at lm
   exact⟨.ref s.heap.objs.size,_,I.laid (a:=s.heap.objs.size) (o:=.dK (mergeK [] kvs)) (t':=tk) k (Nat.le_refl _) (dk_new (by omega) (beq_eq_false_iff_ne.mpr (Ne.symm (Nat.ne_of_lt I.big))) (e4.merge .nil) D),rfl,q _ _ (I.hok.fresh (Nat.le_refl _)) (Br.Same.upd (I.hok.fresh (Nat.le_refl _))) upd_same⟩
end
end Br
open PySem PySem.Spec PyProof.Rows L2 Br
local macro_rules | `(tactic| wtm_at "at")=>`(tactic| first | exact At.here | (apply At.there;wtm_at "at") | fail)
local macro_rules | `(tactic| wtm_at "K")=>`(tactic| first | exact cxC_K | exact cxC_K.trans cxC_K | rfl | fail)
local macro_rules | `(tactic| wtm_at "op")=>`(tactic| first | (apply k_addA;wtm_at "K") | apply o_sub | apply o_mulI | apply o_mod | apply o_fdiv | apply o_pow | fail)
local macro_rules | `(tactic| wtm_at "cop")=>`(tactic| first | apply c_eq | apply c_ne | apply c_lt | apply c_le | apply c_gt | apply c_ge | apply c_isnotN | apply c_is | (apply k_in;wtm_at "K") | (apply k_notin;wtm_at "K") | fail)
local macro_rules | `(tactic| wtm_at "pe")=>`(tactic| first
 | apply j_int
 | (apply j_name;(wtm_at "at");(rfl);(decide +kernel);(decide +kernel))
 | (apply j_cell;(wtm_at "at");(rfl);(decide +kernel);(decide +kernel))
 | (apply j_repL;(wtm_at "pe");(wtm_at "pe"))
 | (apply j_bin;(wtm_at "op");(wtm_at "pe");(wtm_at "pe"))
 | (apply k_ix;(wtm_at "K");(exact fun _ _=>rfl);(wtm_at "pe");(wtm_at "pe"))
 | wtm_at "call"
 | (apply j_tup;(wtm_at "pa"))
 | (apply j_lst;(wtm_at "pa"))
 | (apply j_cmp;(decide);(decide);(wtm_at "cop");(wtm_at "pe");(wtm_at "pe"))
 | (apply j_cmpM;(with_unfolding_all rfl);(wtm_at "cop");(wtm_at "pe");(wtm_at "pe"))
 | apply j_bl | apply j_non | apply j_str
 | (apply j_neg;(wtm_at "pe"))
 | (apply k_slS;(wtm_at "K");(wtm_at "pe");(wtm_at "po");(wtm_at "po"))
 | (apply j_not;(wtm_at "pe"))
 | (apply j_one;(wtm_at "pe"))
 | (apply j_and;(wtm_at "pe");(wtm_at "pe"))
 | (apply j_or;(wtm_at "pe");(wtm_at "pe"))
 | apply j_dict0
 | (apply j_comp1;(rfl);(rfl);(intro _;rfl);(wtm_at "nd");(rfl);(wtm_at "pi");(intro cC cs cH cfp;wtm_at "pf");(intro cC cs cH cfp;wtm_at "pe"))
 | (apply k_comp21;(wtm_at "K");(rfl);(rfl);(intro _;rfl);(decide +kernel);(rfl);(rfl);(rfl);(wtm_at "pi");(intro cC cs cH cfp;wtm_at "pf");(intro cC cs cH cfp;wtm_at "pe"))
 | (apply k_comp2;(wtm_at "K");(rfl);(rfl);(intro _;rfl);(wtm_at "nd");(decide +kernel);(rfl);(rfl);(wtm_at "pi");(intro cC cs cH cfp;wtm_at "pf");(intro cC cs cH cfp;wtm_at "pe"))
 | (apply j_const;(assumption);(rfl);(decide +kernel))
 | (apply j_bty (T:="int");(rfl);(assumption);(decide +kernel);(decide +kernel);(decide +kernel))
 | (apply j_bty (T:="bool");(rfl);(assumption);(decide +kernel);(decide +kernel);(decide +kernel))
 | (apply j_bty (T:="tuple");(rfl);(assumption);(decide +kernel);(decide +kernel);(decide +kernel))
 | (apply j_bty (T:="list");(rfl);(assumption);(decide +kernel);(decide +kernel);(decide +kernel))
 | (apply j_bty (T:="ValueError");(rfl);(assumption);(decide +kernel);(decide +kernel);(decide +kernel))
 | fail)
local macro_rules | `(tactic| wtm_at "call")=>`(tactic| first
 | (apply k_extend;(wtm_at "K");(rfl);(rfl);(rfl);(rfl);(rfl);(wtm_at "pe");(wtm_at "pa"))
 | (apply k_append;(wtm_at "K");(rfl);(rfl);(rfl);(rfl);(rfl);(wtm_at "pe");(wtm_at "pa"))
 | (apply j_call;(assumption);(wtm_at "room");(rfl);(decide +kernel);(rfl);(rfl);(wtm_at "pa"))
 | (apply k_isi;(wtm_at "K");(rfl);(rfl);(rfl);(with_reducible rfl);(assumption);(wtm_at "pa"))
 | (apply k_len;(wtm_at "K");(rfl);(rfl);(rfl);(with_reducible rfl);(assumption);(wtm_at "pa"))
 | (apply j_abs;(rfl);(rfl);(rfl);(with_reducible rfl);(assumption);(wtm_at "pa"))
 | (apply j_max;(rfl);(rfl);(rfl);(with_reducible rfl);(rfl);(assumption);(wtm_at "pa"))
 | (apply j_min;(rfl);(rfl);(rfl);(with_reducible rfl);(rfl);(assumption);(wtm_at "pa"))
 | (apply j_intc;(rfl);(rfl);(rfl);(with_reducible rfl);(assumption);(wtm_at "pa"))
 | (apply j_sorted;(rfl);(rfl);(rfl);(with_reducible rfl);(rfl);(assumption);(wtm_at "pa"))
 | (apply k_tuple;(rfl);(rfl);(rfl);(wtm_at "K");(with_reducible rfl);(assumption);(wtm_at "pa"))
 | (apply k_sumS;(rfl);(rfl);(rfl);(wtm_at "K");(with_reducible rfl);(rfl);(assumption);(wtm_at "pa"))
 | (apply k_all;(wtm_at "K");(rfl);(rfl);(rfl);(with_reducible rfl);(rfl);(assumption);(wtm_at "pa"))
 | (apply j_callX;(assumption);(first | exact passF | exact passF0);(wtm_at "room");(rfl);(decide +kernel);(rfl);(rfl);(wtm_at "pa"))
 | fail)
local macro_rules | `(tactic| wtm_at "roomH")=>`(tactic| first | assumption | exact RoomH.mark (by assumption) (by decide) | exact RoomH.of (by assumption) (by decide) | exact RoomH.mono (by assumption) (by decide) | fail)
local macro_rules | `(tactic| wtm_at "room")=>`(tactic| first | assumption | exact Room.mono (by assumption) (by decide) | fail)
local macro_rules | `(tactic| wtm_at "pa")=>`(tactic| first | apply j_nil | (apply j_cons;(rfl);(wtm_at "pe");(wtm_at "pa")) | fail)
local macro_rules | `(tactic| wtm_at "po")=>`(tactic| first | apply j_onone | (apply j_osome;(wtm_at "pe")) | fail)
local macro_rules | `(tactic| wtm_at "pt")=>`(tactic| first
 | (apply u_cmp;(decide);(decide);(wtm_at "cop");(wtm_at "pe");(wtm_at "pe"))
 | (apply u_cmpM;(with_unfolding_all rfl);(wtm_at "cop");(wtm_at "pe");(wtm_at "pe"))
 | (apply u_or;(wtm_at "pw"))
 | (apply u_and;(wtm_at "pw"))
 | (apply u_not;(wtm_at "pt"))
 | (apply u_call;(wtm_at "pe"))
 | fail)
local macro_rules | `(tactic| wtm_at "pw")=>`(tactic| first
 | (apply w_and1;(wtm_at "pt"))
 | (apply w_or1;(wtm_at "pt"))
 | (apply w_and;(wtm_at "pt");(wtm_at "pw"))
 | (apply w_or;(wtm_at "pt");(wtm_at "pw"))
 | fail)
local macro_rules | `(tactic| wtm_at "pi")=>`(tactic| first
 | (apply i_range1;(with_reducible rfl);(rfl);(assumption);(rfl);(wtm_at "pa"))
 | (apply i_range2;(with_reducible rfl);(rfl);(assumption);(rfl);(rfl);(wtm_at "pa"))
 | (apply k_zip;(wtm_at "K");(with_reducible rfl);(rfl);(assumption);(rfl);(rfl);(wtm_at "pa"))
 | (apply k_seq;(wtm_at "K");(wtm_at "pe"))
 | fail)
local macro_rules | `(tactic| wtm_at "pg")=>`(tactic| first
 | (apply g_name;(wtm_at "at");(assumption);(rfl))
 | (apply g_tup2;(wtm_at "at");(wtm_at "at");(rfl);(assumption);(rfl);(rfl);(rfl);(rfl);(rfl);(rfl))
 | (apply g_tup2C;(wtm_at "at");(wtm_at "at");(rfl);(assumption);(first | exact .inl rfl | exact .inr rfl);(first | exact .inl rfl | exact .inr rfl);(rfl);(rfl);(rfl);(rfl);(rfl);(rfl))
 | fail)
local macro_rules | `(tactic| wtm_at "ps")=>`(tactic| first
 | (apply s_set;(wtm_at "at");(assumption);(rfl);(rfl);(wtm_at "pe"))
 | (apply s_setC;(wtm_at "at");(assumption);(rfl);(rfl);(rfl);(wtm_at "pe"))
 | (apply s_if;(wtm_at "pt");(wtm_at "pss");(wtm_at "pss"))
 | (apply s_ret;(wtm_at "pe"))
 | (apply s_for;(exact PassesOwn.never);(rfl);(intro _;rfl);(wtm_at "pi");(wtm_at "pg");(wtm_at "pss"))
 | (apply s_while;(exact PassesOwn.never);(wtm_at "pt");(wtm_at "pss"))
 | (apply s_expr;(rfl);(wtm_at "pe"))
 | (apply s_comp1;(rfl);(rfl);(intro _;rfl);(assumption);(rfl);(wtm_at "at");(rfl);(rfl);(wtm_at "pi");(intro cC cs cH cfp;wtm_at "pf");(intro cC cs cH cfp;wtm_at "pe"))
 | (apply s_comp2;(rfl);(rfl);(intro _;rfl);(assumption);(decide +kernel);(rfl);(rfl);(wtm_at "at");(rfl);(rfl);(wtm_at "pi");(intro cC cs cH cfp;wtm_at "pf");(intro cC cs cH cfp;wtm_at "pe"))
 | (apply s_par;(wtm_at "at");(wtm_at "at");(decide);(rfl);(assumption);(rfl);(rfl);(rfl);(rfl);(wtm_at "pa"))
 | (apply s_unpack2;(wtm_at "at");(wtm_at "at");(rfl);(assumption);(rfl);(rfl);(rfl);(rfl);(rfl);(rfl);(rfl);(rfl);(rfl);(wtm_at "pe"))
 | (apply s_ixset;(rfl);(rfl);(rfl);(intro _;rfl);(wtm_at "pe");(wtm_at "pe");(wtm_at "pe"))
 | (apply s_unpack3;(wtm_at "at");(wtm_at "at");(wtm_at "at");(rfl);(assumption);(rfl);(rfl);(rfl);(rfl);(rfl);(rfl);(rfl);(rfl);(rfl);(rfl);(rfl);(wtm_at "pe"))
 | (apply s_unpackC;(wtm_at "at");(wtm_at "at");(rfl);(assumption);(first | exact .inl rfl | exact .inr rfl);(first | exact .inl rfl | exact .inr rfl);(rfl);(rfl);(rfl);(rfl);(rfl);(rfl);(rfl);(rfl);(rfl);(wtm_at "pe"))
 | (apply s_raise;(assumption);(rfl);(rfl);(exact throwF);(decide +kernel);(rfl);(wtm_at "pe"))
 | fail)
local macro_rules | `(tactic| wtm_at "nd")=>`(tactic| first | assumption | decide +kernel | fail)
local macro_rules | `(tactic| wtm_at "pf")=>`(tactic| first | apply f_nil | (apply f_one;(wtm_at "pt")) | fail)
local macro_rules | `(tactic| wtm_at "pss")=>`(tactic| first
 | (apply ss_cons;(wtm_at "ps");(wtm_at "pss"))
 | apply ss_nil
 | fail)
local macro_rules | `(tactic| wtm_at "pex")=>`(tactic| first
 | fail)
local macro_rules | `(tactic| wtm_at "psx")=>`(tactic| first
 | fail)
local macro_rules | `(tactic| wtm_at "pssx")=>`(tactic| first
 | fail)
local macro_rules | `(tactic| wtm_at "body")=>`(tactic| (refine' ss_cons ?a ?b;(case a=>wtm_at "ps");(case b=>wtm_at "pss")))
local macro_rules | `(tactic| wtm_at "side")=>`(tactic| first
 | (with_reducible exact IntMulOk.of_right (by decide))
 | (with_reducible exact IntMulOk.of_left (by decide))
 | (with_reducible refine CMulB.ok (mulB ?_ ?_) <;> omega)
 | (with_reducible refine mulB ?_ ?_ <;> omega)
 | (with_reducible refine divB ?_ ?_ <;> omega)
 | (show (0:Int) < _;omega)
 | (show (0:Int) < _;decide)
 | (exact⟨by omega,by omega,by omega⟩)
 | fail)
local macro_rules | `(tactic| wtm_at "rd1")=>`(tactic| first
 | refine⟨_,rfl,?_⟩
 | (refine⟨_,_,rfl,rfl,?c,?_⟩;(case c=>wtm_at "side"))
 | refine⟨_,_,rfl,rfl,?_⟩
 | refine .inl ⟨_,_,rfl,rfl,?_⟩
 | refine⟨_,_,rfl,?_⟩
 | fail)
local macro_rules | `(tactic| wtm_at "rd")=>`(tactic| repeat wtm_at "rd1")
namespace K30
def top (i:Nat):Stmt:=PySem.Challenge.pw_brimyard_k30_whole_sums_known_at_once.main.body.getD i (.Pass ⟨0,0,0,0⟩)
abbrev sMixed:Stmt:=top 41
abbrev sDraws:Stmt:=top 42
section
variable {P:Program}{w:World}{K:PySem.W.Frag}{mg:Str->Option Value}{base:Heap}
theorem scMixed:FnScope ["cell","k","part"] ["cell","k"] (defScope sMixed):=⟨rfl,rfl,rfl,by decide +kernel,rfl,by decide +kernel,by decide +kernel⟩
def spMixed:Sp:=fun vs H Q _=>∃ c k:Int,vs = [.int c,.int k]/\0<=k/\k < 10000/\∀ r:Int,0<=r->r < 2 ^ 61->Q (.int r) H
theorem ok_mixed {f:Addr}{fd:FuncData} (F:Fun K "_law_mixed" "_law_mixed" sMixed f fd):FnOk P w K mg base CX0 1 f fd ["cell","k"] spMixed:=by
 refine Br.Fun.j F scMixed (fun vs H Q E h=>?_) (fun cdv A outer s H vs Q E hr h=>?_)
 · obtain⟨_,_,rfl,_⟩:=h;rfl
 · obtain⟨c,k,rfl,hk0,hk1,h⟩:=h
   have nd:=scMixed.nd
   refine' ⟨_,?d,?r⟩
   case d=>wtm_at "body"
   case r=>
    wtm_at "rd"
    refine h _ ?_ ?_ <;> omega
theorem scDraws:FnScope ["cell","many","base","found","left","k","number","j"] ["cell","many","base"] (defScope sDraws):=⟨rfl,rfl,rfl,by decide +kernel,rfl,by decide +kernel,by decide +kernel⟩
def spDraws:Sp:=fun vs H Q _=>∃ c m b:Int,vs = [.int c,.int m,.int b]/\0<=m/\m < 1000/\0 < b/\b<=10 ^ 60/\
 ∀ (l:Addr) (ds:List Int) (H':Hp),H l = none->Same H H'->H' l = some (.lst (ds.map V.int))->(ds.length:Int) = m->(∀ d∈ds,0<=d/\d < b)->Q (.ref l) H'
theorem ok_draws {f:Addr}{fd:FuncData} (F:Fun K "_law_draws" "_law_draws" sDraws f fd) (cM:Callee CX0 P w K mg base "_law_mixed" 1 ["cell","k"] spMixed)
 (mR:mg "range" = none) (mI:mg "int" = none):FnOk P w K mg base CX0 2 f fd ["cell","many","base"] spDraws:=by
 refine Br.Fun.j F scDraws (fun vs H Q E h=>?_) (fun cdv A outer s H vs Q E hr h=>?_)
 · obtain⟨_,_,_,rfl,_⟩:=h;rfl
 · obtain⟨c,m,b,rfl,hm0,hm1,hb0,hb1,h⟩:=h
   have nd:=scDraws.nd
   refine' ⟨_,?d,?r⟩
   case d=>wtm_at "body"
   case r=>
    refine⟨by decide,fun l H0 hl s0 e0=>?_⟩
    wtm_at "rd"
    refine⟨fun σ' H'=>∃ lft:Int,0<=lft/\σ' = [some (.int c),some (.int m),some (.int b),some (.ref l),some (.int lft),none,none,none]/\H0 = H',?_,?_⟩
    · wtm_at "rd"
      refine ite2 (fun hc=>?_) (fun hc=>?_)
      · wtm_at "rd"
        refine⟨_,?_,rfl,rfl⟩
        have h1:=of_decide_eq_true hc
        omega
      · exact⟨0,by omega,rfl,rfl⟩
    · rintro σ' H' ⟨lft,h0,rfl,rfl⟩
      refine⟨_,rfl,m,rfl,by omega,by omega,for_range (fun i σ H2=>∃ (lft:Int) (ds:List Int) (x y z:Option V),0<=lft/\σ = [some (.int c),some (.int m),some (.int b),some (.ref l),some (.int lft),x,y,z]/\ds.length = i/\
       (∀ d∈ds,0<=d/\d < b)/\H2 = upd H0 l (.lst (ds.map V.int))) ⟨lft,[],none,none,none,h0,rfl,rfl,by simp,(upd_eta e0).symm⟩ ?_ ?_⟩
      · rintro i σ H2 hi ⟨lf,ds,x,y,z,h1,rfl,h2,h3,rfl⟩
        have hsz:(sizeLine:Nat) = 16777216:=sizeLine_eq
        have more:∀ v:Int,0<=v->v < b->∀ d∈ds ++ [v],0<=d/\d < b:=fun v a1 a2 d hd=>by
         rcases List.mem_append.mp hd with hd | hd
         · exact h3 d hd
         · rw [List.mem_singleton.mp hd];exact⟨a1,a2⟩
        refine⟨_,?_,fun _ _ h=>h⟩
        wtm_at "rd"
        refine ite2 (fun hc=>?_) (fun hc=>?_)
        · wtm_at "rd"
          refine⟨.inl ⟨rfl,_,SqL.of upd_same⟩,?_⟩
          wtm_at "rd"
          refine⟨l,_,_,rfl,rfl,upd_same,by rw [List.length_map];omega,?_⟩
          wtm_at "rd"
          refine⟨lf / b,ds ++ [lf % b],_,_,_,Int.ediv_nonneg h1 (by omega),rfl,by rw [List.length_append];simp [h2],more _ (Int.emod_nonneg _ (by omega)) (Int.emod_lt_of_pos _ hb0),?_⟩
          rw [upd_upd,List.map_append];rfl
        · wtm_at "rd"
          refine .inr ⟨_,rfl,?_⟩
          have hq:∃ q:Int,(if decide ((10:Int) ^ (18:Int).toNat < b) = true then (1:Int) else 0) = q/\0<=q/\q<=1:=⟨_,rfl,by split <;> omega,by split <;> omega⟩
          obtain⟨q,hq,q0,q1⟩:=hq
          rw [hq]
          wtm_at "rd"
          refine⟨by omega,by omega,for_range (fun j σ H3=>∃ (num:Int) (z':Option V),(0<=num/\(j = 0->num = 0)/\(j = 1->num < 2 ^ 60)/\(j = 2->num < 2 ^ 120)/\(j = 3->num < 2 ^ 180))/\
           σ = [some (.int c),some (.int m),some (.int b),some (.ref l),some (.int lf),some (.int i),some (.int num),z']/\H3 = upd H0 l (.lst (ds.map V.int))) ?_ ?_ ?_⟩
          · refine⟨0,z,by omega,?_,rfl⟩
            show _ = _
            rw [Int.zero_add];rfl
          · rintro j σ H3 hj ⟨num,z',hn,rfl,rfl⟩
            have hj4:j = 0\/j = 1\/j = 2\/j = 3:=by omega
            have hnb:num < 2 ^ 180:=by rcases hj4 with e | e | e | e <;> omega
            wtm_at "rd"
            refine⟨by omega,by omega,fun r hr0 hr1=>?_⟩
            wtm_at "rd"
            refine⟨_,_,⟨by omega,by omega,?_,?_,?_⟩,rfl,rfl⟩ <;> (intro e;rcases hj4 with e' | e' | e' | e' <;> omega)
          · rintro σ H3 ⟨num,z',hn,rfl,rfl⟩
            wtm_at "rd"
            refine⟨.inl ⟨rfl,_,SqL.of upd_same⟩,?_⟩
            wtm_at "rd"
            refine⟨l,_,_,rfl,rfl,upd_same,by rw [List.length_map];omega,?_⟩
            refine⟨lf,ds ++ [num % b],_,_,_,h1,rfl,by rw [List.length_append];simp [h2],more _ (Int.emod_nonneg _ (by omega)) (Int.emod_lt_of_pos _ hb0),?_⟩
            rw [upd_upd,List.map_append];rfl
      · rintro σ H2 ⟨lf,ds,x,y,z,h1,rfl,h2,h3,rfl⟩
        wtm_at "rd"
        refine h l ds _ hl (fun b o e=>?_) upd_same (by omega) h3
        rw [upd_ne (ne_of_none e hl)];exact s0 _ _ e
end
section
variable {P:Program}{w:World}{K:PySem.W.Frag}{mg:Str->Option Value}{base:Heap}
def spPart:Sp:=fun vs H Q _=>∃ a b:Int,vs = [.int a,.int b]/\Q (.int (Int.gcd a b)) H
end
section
variable {P:Program}{w:World}{K:PySem.W.Frag}{mg:Str->Option Value}{base:Heap}
abbrev sIsW:Stmt:=top 7
abbrev sGd:Stmt:=top 8
abbrev sIsR:Stmt:=top 9
theorem at0 {u v:V}:atI [u,v] (0:Int) = some u:=rfl
theorem at1 {u v:V}:atI [u,v] (1:Int) = some v:=rfl
theorem scIsW:FnScope ["thing"] ["thing"] (defScope sIsW):=⟨rfl,rfl,rfl,by decide +kernel,rfl,by decide +kernel,by decide +kernel⟩
inductive Wh (K:PySem.W.Frag) (H:Hp):V->Bool->Prop where
 | mk {v:V}{ty:Value}{a b:Bool} (t:TyOf K H v ty) (h1:PySem.W.kitOne K ty (.type "int") = some a) (h2:PySem.W.kitOne K ty (.type "bool") = some b):Wh K H v (a && !b)
def spIsW (K:PySem.W.Frag):Sp:=fun vs H Q _=>∃ (v:V) (r:Bool),vs = [v]/\Wh K H v r/\Q (.bl r) H
theorem ok_isw {f:Addr}{fd:FuncData} (F:Fun K "is_whole" "is_whole" sIsW f fd) (mI:mg "isinstance" = none) (mN:mg "int" = none) (mB:mg "bool" = none):FnOk P w K mg base CX0 1 f fd ["thing"] (spIsW K):=by
 refine Br.Fun.j F scIsW (fun vs H Q E h=>?_) (fun cdv A outer s H vs Q E hr h=>?_)
 · obtain⟨_,_,rfl,_⟩:=h;rfl
 · obtain⟨v,r,rfl,⟨t,h1,h2⟩,h⟩:=h
   rename_i ty a b
   have nd:=scIsW.nd
   refine' ⟨_,?d,?r⟩
   case d=>wtm_at "body"
   case r=>
    wtm_at "rd"
    refine Or.inl ⟨_,_,_,_,rfl,.of t,h1,_,rfl,?_⟩
    cases a with
    | false=>exact iteF h
    | true=>
     refine iteT ?_
     wtm_at "rd"
     exact Or.inl ⟨_,_,_,_,rfl,.of t,h2,_,rfl,h⟩
theorem scGd:FnScope ["one","other"] ["one","other"] (defScope sGd):=⟨rfl,rfl,rfl,by decide +kernel,rfl,by decide +kernel,by decide +kernel⟩
theorem ok_gd {f:Addr}{fd:FuncData} (F:Fun K "greatest_divisor" "greatest_divisor" sGd f fd) (mA:mg "abs" = none):FnOk P w K mg base CX0 1 f fd ["one","other"] spPart:=by
 refine Br.Fun.j F scGd (fun vs H Q E h=>?_) (fun cdv A outer s H vs Q E hr h=>?_)
 · obtain⟨_,_,rfl,_⟩:=h;rfl
 · obtain⟨a,b,rfl,h⟩:=h
   have nd:=scGd.nd
   refine' ⟨_,?d,?r⟩
   case d=>wtm_at "body"
   case r=>
    wtm_at "rd"
    refine⟨fun m σ H2=>∃ x y:Nat,m = y/\Nat.gcd x y = Int.gcd a b/\σ = [some (V.int (x:Int)),some (V.int (y:Int))]/\H2 = H,⟨_,a.natAbs,b.natAbs,rfl,rfl,?_,rfl⟩,?_⟩
    · have e1:(if a < 0 then -a else a) = (a.natAbs:Int):=by split <;> omega
      have e2:(if b < 0 then -b else b) = (b.natAbs:Int):=by split <;> omega
      rw [e1,e2];rfl
    · rintro m σ H2 ⟨x,y,rfl,hg,rfl,rfl⟩
      wtm_at "rd"
      refine⟨rfl,_,rfl,?_⟩
      by_cases hm:m = 0
      · subst hm
        refine iteNS rfl ?_
        wtm_at "rd"
        have e:x = Int.gcd a b:=by rw [<- hg,Nat.gcd_zero_right]
        rw [e];exact h
      · have hne:decide (V.int (m:Int) = V.int 0) = false:=decide_eq_false (by intro z;injection z with z;omega)
        rw [hne]
        refine iteT ⟨_,fun _ _ hN=>hN,?_⟩
        wtm_at "rd"
        refine⟨x % m,Nat.mod_lt _ (by omega),m,x % m,rfl,?_,?_,rfl⟩
        · rw [<- hg,Nat.gcd_comm x m,Nat.gcd_rec m x,Nat.gcd_comm]
        · rw [Int.natCast_emod];rfl
theorem scIsR:FnScope ["thing","top","bottom"] ["thing"] (defScope sIsR):=⟨rfl,rfl,rfl,by decide +kernel,rfl,by decide +kernel,by decide +kernel⟩
inductive Ra (K:PySem.W.Frag) (H:Hp):V->Bool->Prop where
 | no {v:V}{ty:Value} (t:TyOf K H v ty) (h1:PySem.W.kitOne K ty (.type "tuple") = some false):Ra K H v false
 | len {p:Addr}{xs:List V} (h:H p = some (.tup xs)) (hl:xs.length≠2):Ra K H (.ref p) false
 | left {p:Addr}{x y:V} (h:H p = some (.tup [x,y])) (h1:Wh K H x false):Ra K H (.ref p) false
 | right {p:Addr}{x y:V} (h:H p = some (.tup [x,y])) (h1:Wh K H x true) (h2:Wh K H y false):Ra K H (.ref p) false
 | both {p:Addr}{t b:Int} (h:H p = some (.tup [.int t,.int b])):Ra K H (.ref p) (decide (1<=b) && decide (Int.gcd t b = 1))
def spIsR (K:PySem.W.Frag):Sp:=fun vs H Q _=>∃ (v:V) (r:Bool),vs = [v]/\Ra K H v r/\Q (.bl r) H
theorem whI {H:Hp}{i:Int}:Wh K H (.int i) true:=Wh.mk (a:=true) (b:=false) (TyOf.int i) rfl rfl
theorem ok_isr {f:Addr}{fd:FuncData} (F:Fun K "is_ratio" "is_ratio" sIsR f fd) (cW:Callee CX0 P w K mg base "is_whole" 1 ["thing"] (spIsW K)) (cG:Callee CX0 P w K mg base "greatest_divisor" 1 ["one","other"] spPart)
 (mI:mg "isinstance" = none) (mT:mg "tuple" = none) (mL:mg "len" = none):FnOk P w K mg base CX0 2 f fd ["thing"] (spIsR K):=by
 refine Br.Fun.j F scIsR (fun vs H Q E h=>?_) (fun cdv A outer s H vs Q E hr h=>?_)
 · obtain⟨_,_,rfl,_⟩:=h;rfl
 · obtain⟨v,r,rfl,hv,h⟩:=h
   have nd:=scIsR.nd
   refine' ⟨_,?d,?r⟩
   case d=>wtm_at "body"
   case r=>
    refine⟨_,?_,fun _ _ h=>h⟩
    cases hv with
    | no t h1=>
     wtm_at "rd"
     exact Or.inl ⟨_,_,_,_,rfl,.of t,h1,_,rfl,iteT (iteT h)⟩
    | len hp hl=>
     rename_i p xs
     wtm_at "rd"
     refine Or.inl ⟨_,_,_,_,rfl,.of (TyOf.tup hp),rfl,_,rfl,iteF ?_⟩
     wtm_at "rd"
     refine .inl ⟨p,xs,rfl,.inr (SqT.of hp),⟨rfl,_,rfl,?_⟩⟩
     have hne:decide (V.int (xs.length:Int) = V.int 2) = false:=decide_eq_false (by intro z;injection z with z;omega)
     rw [hne]
     exact iteT h
    | left hp h1=>
     rename_i p x y
     wtm_at "rd"
     refine Or.inl ⟨_,_,_,_,rfl,.of (TyOf.tup hp),rfl,_,rfl,iteF ?_⟩
     wtm_at "rd"
     refine .inl ⟨p,[x,y],rfl,.inr (SqT.of hp),⟨rfl,_,rfl,iteNS rfl ?_⟩⟩
     refine⟨_,rfl,p,_,rfl,SqT.of hp,rfl,x,_,rfl,y,_,rfl,rfl,?_⟩
     refine⟨_,?_,fun _ _ h=>h⟩
     wtm_at "rd"
     exact⟨x,false,rfl,h1,_,rfl,iteT (iteT h)⟩
    | right hp h1 h2=>
     rename_i p x y
     wtm_at "rd"
     refine Or.inl ⟨_,_,_,_,rfl,.of (TyOf.tup hp),rfl,_,rfl,iteF ?_⟩
     wtm_at "rd"
     refine .inl ⟨p,[x,y],rfl,.inr (SqT.of hp),⟨rfl,_,rfl,iteNS rfl ?_⟩⟩
     refine⟨_,rfl,p,_,rfl,SqT.of hp,rfl,x,_,rfl,y,_,rfl,rfl,?_⟩
     refine⟨_,?_,fun _ _ h=>h⟩
     wtm_at "rd"
     refine⟨x,true,rfl,h1,_,rfl,iteF ?_⟩
     wtm_at "rd"
     exact⟨y,false,rfl,h2,_,rfl,iteT h⟩
    | both hp=>
     rename_i p t b
     wtm_at "rd"
     refine Or.inl ⟨_,_,_,_,rfl,.of (TyOf.tup hp),rfl,_,rfl,iteF ?_⟩
     wtm_at "rd"
     refine .inl ⟨p,_,rfl,.inr (SqT.of hp),⟨rfl,_,rfl,iteNS rfl ?_⟩⟩
     refine⟨_,rfl,p,_,rfl,SqT.of hp,rfl,_,_,rfl,_,_,rfl,rfl,?_⟩
     refine⟨_,?_,fun _ _ h=>h⟩
     wtm_at "rd"
     refine⟨_,true,rfl,whI,_,rfl,iteF ?_⟩
     wtm_at "rd"
     refine⟨_,true,rfl,whI,_,rfl,iteF ?_⟩
     wtm_at "rd"
     refine ite2 (fun hc=>?_) (fun hc=>?_)
     · wtm_at "rd"
       have e:decide (V.int ((Int.gcd t b:Nat):Int) = V.int 1) = (decide (1<=b) && decide (Int.gcd t b = 1)):=by
        rw [hc,Bool.true_and,dec_int,Bool.eq_iff_iff]
        simp
        omega
       rw [e];exact h
     · have e:(decide (1<=b) && decide (Int.gcd t b = 1)) = false:=by
        have e1:decide (1<=b) = false:=by simpa using hc
        rw [e1,Bool.false_and]
       rw [e] at h
       exact h
end
local macro_rules | `(tactic| wtm_at "op")=>`(tactic| first | apply o_add | apply o_sub | apply o_mul | apply o_mod | apply o_fdivX | apply o_pow | fail)
section
variable {P:Program}{w:World}{K:PySem.W.Frag}{mg:Str->Option Value}{base:Heap}
abbrev sRo:Stmt:=top 10
theorem scRo:FnScope ["top","bottom","divisor"] ["top","bottom"] (defScope sRo):=⟨rfl,rfl,rfl,by decide +kernel,rfl,by decide +kernel,by decide +kernel⟩
def spRo (C:Addr):Sp:=fun vs H Q E=>∃ t b:Int,vs = [.int t,.int b]/\Bd 4000 b/\(b = 0->E (.ref C) none H)/\(b≠0->∀ (p:Addr) (H':Hp),H p = none->L2.Same H H'->H' p = some (.tup [.int (rN t b),.int (rD t b)])->Q (.ref p) H')
theorem ok_ro {f:Addr}{fd:FuncData}{C B:Addr} (F:Fun K "ratio_of" "ratio_of" sRo f fd) (cG:Callee CX0 P w K mg base "greatest_divisor" 1 ["one","other"] spPart) (eR:ECls K mg "NoRatio" C B):FnOk P w K mg base (CXF P w) 2 f fd ["top","bottom"] (spRo C):=by
 refine Br.Fun.jX F scRo (fun vs H Q E h=>?_) (fun cdv A outer s H vs Q E hr h=>?_)
 · obtain⟨_,_,rfl,_⟩:=h;rfl
 · obtain⟨t,b,rfl,bd,h0,h1⟩:=h
   have nd:=scRo.nd
   refine' ⟨_,?d,?r⟩
   case d=>wtm_at "body"
   case r=>
    refine⟨fun σ' H'=>b≠0/\σ' = [some (.int t),some (.int b),none]/\H = H',?_,?_⟩
    · wtm_at "rd"
      refine⟨rfl,_,rfl,?_⟩
      by_cases hb:b = 0
      · subst hb
        exact iteT (h0 rfl)
      · rw [decide_eq_false (by intro z;injection z with z;exact hb z)]
        exact iteF ⟨hb,rfl,rfl⟩
    · rintro σ' H' ⟨hb,rfl,rfl⟩
      have hg:=gcd_pos' (t:=t) hb
      wtm_at "rd"
      refine⟨fun σ' H'=>σ' = [some (.int t),some (.int b),some (.int (rg t b))]/\H = H',?_,?_⟩
      · wtm_at "rd"
        refine ite2 (fun hc=>?_) (fun hc=>?_)
        · have hc':=of_decide_eq_true hc
          wtm_at "rd"
          refine⟨?_,rfl⟩
          unfold rg;rw [if_pos hc'];rfl
        · have hc':¬ b < 0:=fun z=>hc (decide_eq_true z)
          refine⟨?_,rfl⟩
          unfold rg;rw [if_neg hc'];rfl
      · rintro σ' H' ⟨rfl,rfl⟩
        have hx:CDivX t (rg t b):=⟨rg_ne hb,by
         rw [rg_natAbs]
         have hle:Int.gcd t b<=b.natAbs:=Nat.le_of_dvd (by omega) (Int.natAbs_dvd_natAbs.mpr (Int.gcd_dvd_right t b))
         exact Nat.lt_of_le_of_lt hle (bd.mono (by decide))⟩
        refine⟨_,rfl,_,rfl,_,_,rfl,rfl,hx,?_⟩
        refine⟨_,rfl,_,rfl,_,_,rfl,rfl,⟨hx.1,hx.2⟩,?_⟩
        refine⟨by show 2<=sizeLine;decide,fun p H2 hp s2 e2=>h1 hb p H2 hp s2 ?_⟩
        rw [e2]
        show some (HO.tup [V.int (t.fdiv (rg t b)),V.int (b.fdiv (rg t b))]) = _
        rw [Int.fdiv_eq_ediv_of_dvd (rg_t t b),Int.fdiv_eq_ediv_of_dvd (rg_b t b)];rfl
end
end K30
namespace K30
def Kind (H:Hp) (v:V) (q:Int×Int):Prop:=∃ r:Addr,v = .ref r/\H r = some (.tup [.int q.1,.int q.2])
def Kinds (H:Hp) (vs:List V) (qs:List (Int×Int)):Prop:=vs.length = qs.length/\∀ (i:Nat) (v:V),vs[i]? = some v->∃ q,qs[i]? = some q/\Kind H v q
structure HOk8 (need:Int) (qs:List (Int×Int)):Prop where
 len:qs.length<=16
 n0:1<=need
 n1:need<=10 ^ 12
 bd:∀ q∈qs,1<=q.1/\q.1<=10 ^ 12/\1<=q.2/\q.2<=10 ^ 13
 ris:Ris qs
def HeapAt (H:Hp) (h:Addr) (need:Int) (qs:List (Int×Int)):Prop:=∃ (t:Addr) (o:Obj) (vs:List V),H h = some (.tup [.int need,.ref t])/\bareT o/\H t = some (.frz o (.tup vs))/\Kinds H vs qs/\HOk8 need qs
def IsT (o:HO):Prop:=(∃ xs,o = .tup xs)\/∃ ob xs,o = .frz ob (.tup xs)
theorem Kinds.mo {H H':Hp}{vs:List V}{qs:List (Int×Int)} (k:Kinds H vs qs) (m:∀ b o,H b = some o->IsT o->H' b = some o):Kinds H' vs qs:=
 ⟨k.1,fun i v e=>let ⟨q,h1,r,h2,h3⟩:=k.2 i v e;⟨q,h1,r,h2,m _ _ h3 (.inl ⟨_,rfl⟩)⟩⟩
theorem Kinds.same {H H':Hp}{vs:List V}{qs:List (Int×Int)} (k:Kinds H vs qs) (s:L2.Same H H'):Kinds H' vs qs:=k.mo fun b o e _=>s _ _ e
theorem Kinds.nil:Kinds H [] []:=⟨rfl,fun i v e=>by simp_all⟩
theorem Kinds.snoc (k:Kinds H vs qs) (e:H r = some (.tup [.int q.1,.int q.2])):Kinds H (vs ++ [.ref r]) (qs ++ [q]):=by
 have k1:=k.1
 refine⟨by rw [List.length_append,List.length_append,k1];rfl,fun i v h=>?_⟩
 by_cases hi:i < vs.length
 · rw [List.getElem?_append_left hi] at h
   obtain⟨q',h1,h2⟩:=k.2 i v h
   exact⟨q',by rw [List.getElem?_append_left (by omega)];exact h1,h2⟩
 · have hi2:i = vs.length:=by have:=(List.getElem?_eq_some_iff.mp h).1;rw [List.length_append] at this;simp at this;omega
   subst hi2
   simp at h
   exact⟨q,by rw [k1,List.getElem?_append_right (Nat.le_refl _),Nat.sub_self];rfl,r,h.symm,e⟩
def Tu (H H':Hp):Prop:=∀ b o,H b = some o->IsT o->H' b = some o
theorem Tu.of (s:L2.Same H H'):Tu H H':=fun b o e _=>s b o e
theorem HeapAt.tu {H H':Hp}{h:Addr}{need:Int}{qs:List (Int×Int)} (x:HeapAt H h need qs) (m:Tu H H'):HeapAt H' h need qs:=
 let ⟨t,o,vs,a,bo,b,c,d⟩:=x;⟨t,o,vs,m _ _ a (.inl ⟨_,rfl⟩),bo,m _ _ b (.inr ⟨_,_,rfl⟩),c.mo m,d⟩
def tot (qs:List (Int×Int)):Int:=(qs.map fun q=>q.1 * q.2).sum
section
variable {P:Program}{w:World}{K:PySem.W.Frag}{mg:Str->Option Value}{base:Heap}
abbrev sTot:Stmt:=top 13
theorem scTot:FnScope ["heap"] ["heap"] (defScope sTot):=⟨rfl,rfl,rfl,by decide +kernel,rfl,by decide +kernel,by decide +kernel⟩
def spTot:Sp:=fun vs H Q _=>∃ (h:Addr) (need:Int) (qs:List (Int×Int)),vs = [.ref h]/\HeapAt H h need qs/\∀ H',L2.Same H H'->Q (.int (tot qs)) H'
theorem ok_tot {f:Addr}{fd:FuncData} (F:Fun K "total_of" "total_of" sTot f fd) (mU:mg "sum" = none):FnOk P w K mg base CX0 1 f fd ["heap"] spTot:=by
 refine Br.Fun.j F scTot (fun vs H Q E h=>?_) (fun cdv A outer s H vs Q E hr h=>?_)
 · obtain⟨_,_,_,rfl,_⟩:=h;rfl
 · obtain⟨hp,need,qs,rfl,⟨t,ob,us,h1,hb,h2,h3,h4⟩,h⟩:=h
   have nd:=scTot.nd
   have hul:=h3.1
   have hsz:(sizeLine:Nat) = 16777216:=sizeLine_eq
   have hlen:=h4.len
   have h2':SqT K H t us:=.inl (.inr ⟨_,h2⟩)
   refine' ⟨_,?d,?r⟩
   case d=>wtm_at "body"
   case r=>
    refine⟨_,rfl,.inr (.inl ⟨hp,_,_,_,rfl,rfl,SqT.of h1,(show atI [V.int need,V.ref t] 1 = some (.ref t) from rfl),?_⟩)⟩
    refine⟨t,rfl,.inr ⟨⟨_,h2'⟩,?_⟩⟩
    refine cmp_tup (K:=K) (a:=t) (xs:=us) (fun j ys σ G=>G = H/\ys = ((qs.map fun q=>q.1 * q.2).take j).map V.int/\∃ x y:Option V,σ = [x,y,some (.ref hp)])
     ⟨rfl,rfl,none,none,rfl⟩ (by rw [hul];omega) (fun j ys σ G _ ⟨e1,e2,_⟩=>⟨by rw [e1];exact h2',by rw [e2,List.length_map,List.length_take];omega⟩) ?_ ?_
    · rintro j x ys σ G N hx ⟨rfl,rfl,x0,y0,rfl⟩ hN
      obtain⟨q,hq,r,rfl,hrr⟩:=h3.2 j x hx
      obtain⟨b1,b2,b3,b4⟩:=h4.bd q (List.mem_of_getElem? hq)
      refine⟨r,_,rfl,SqT.of hrr,rfl,_,_,rfl,_,_,rfl,rfl,?_⟩
      refine⟨_,rfl,_,rfl,_,_,rfl,rfl,IntMulOk.of_left (intBits_le_64 (by omega) (by omega)),hN _ _ _ ⟨rfl,?_,_,_,rfl⟩⟩
      rw [List.take_add_one,List.getElem?_map,hq,List.map_append];rfl
    rintro ys σ G ⟨eG,rfl,x0,y0,rfl⟩ pl G1 hpl s1 e1
    rw [eG] at s1
    rw [List.take_of_length_le (by rw [List.length_map];omega)] at e1
    exact⟨pl,_,rfl,.inl (SqL.of e1),h G1 s1⟩
abbrev sUp:Stmt:=top 11
theorem scUp:FnScope ["top","bottom"] ["top","bottom"] (defScope sUp):=⟨rfl,rfl,rfl,by decide +kernel,rfl,by decide +kernel,by decide +kernel⟩
def spUp:Sp:=fun vs H Q _=>∃ t b:Int,vs = [.int t,.int b]/\0 < b/\b<=10 ^ 12/\Q (.int (-(-t / b))) H
theorem ok_up {f:Addr}{fd:FuncData} (F:Fun K "rounded_up" "rounded_up" sUp f fd):FnOk P w K mg base CX0 1 f fd ["top","bottom"] spUp:=by
 refine Br.Fun.j F scUp (fun vs H Q E h=>?_) (fun cdv A outer s H vs Q E hr h=>?_)
 · obtain⟨_,_,rfl,_⟩:=h;rfl
 · obtain⟨t,b,rfl,h0,h1,h⟩:=h
   have nd:=scUp.nd
   refine' ⟨_,?d,?r⟩
   case d=>wtm_at "body"
   case r=>
    wtm_at "rd"
    exact h
abbrev sFull:Stmt:=top 15
theorem scFull:FnScope ["need","lot"] ["need","lot"] (defScope sFull):=⟨rfl,rfl,rfl,by decide +kernel,rfl,by decide +kernel,by decide +kernel⟩
def spFull (K:PySem.W.Frag):Sp:=fun vs H Q _=>∃ (n:Int) (a:Addr) (zs:List Int),vs = [.int n,.ref a]/\SqT K H a (zs.map V.int)/\Q (.bl (decide (n<=zs.sum))) H
theorem ok_full (F:Fun K "is_full" "is_full" sFull f fd) (mU:mg "sum" = none):FnOk P w K mg base CX0 1 f fd ["need","lot"] (spFull K):=by
 refine Br.Fun.j F scFull (fun vs H Q E h=>?_) (fun cdv A outer s H vs Q E hr h=>?_)
 · obtain⟨_,_,_,rfl,_⟩:=h;rfl
 · obtain⟨n,a,zs,rfl,ha,h⟩:=h
   refine' ⟨_,?d,?r⟩
   case d=>wtm_at "body"
   case r=>exact⟨_,rfl,a,zs,rfl,.inr ha,_,rfl,_,_,rfl,rfl,h⟩
end
def Rows (H:Hp) (us:List V) (rs:List (List Int)):Prop:=us.length = rs.length/\∀ (i:Nat) (v:V),us[i]? = some v->∃ (a:Addr) (zs:List Int),rs[i]? = some zs/\v = .ref a/\H a = some (.tup (zs.map V.int))
section
variable {H H':Hp}{us us':List V}{rs rs':List (List Int)}
theorem Rows.nil:Rows H [] []:=⟨rfl,fun i v h=>by cases h⟩
theorem Rows.tu (h:Rows H us rs) (s:Tu H H'):Rows H' us rs:=⟨h.1,fun i v hv=>let ⟨a,zs,e1,e2,e3⟩:=h.2 i v hv;⟨a,zs,e1,e2,s _ _ e3 (.inl ⟨_,rfl⟩)⟩⟩
theorem Rows.same (h:Rows H us rs) (s:L2.Same H H'):Rows H' us rs:=h.tu (Tu.of s)
theorem Rows.one {a:Addr}{zs:List Int} (e:H a = some (.tup (zs.map V.int))):Rows H [.ref a] [zs]:=⟨rfl,fun i v hv=>by
 cases i with
 | zero=>cases hv;exact⟨a,zs,rfl,rfl,e⟩
 | succ i=>cases hv⟩
theorem Rows.app (h:Rows H us rs) (h':Rows H us' rs'):Rows H (us ++ us') (rs ++ rs'):=⟨by rw [List.length_append,List.length_append,h.1,h'.1],fun i v hv=>by
 by_cases c:i < us.length
 · rw [List.getElem?_append_left c] at hv
   obtain⟨a,zs,e1,e2,e3⟩:=h.2 i v hv
   exact⟨a,zs,by rw [List.getElem?_append_left (by rw [<- h.1];exact c)];exact e1,e2,e3⟩
 · rw [List.getElem?_append_right (by omega)] at hv
   obtain⟨a,zs,e1,e2,e3⟩:=h'.2 _ v hv
   exact⟨a,zs,by rw [List.getElem?_append_right (by rw [<- h.1];omega),<- h.1];exact e1,e2,e3⟩⟩
end
theorem repl_flat (v:V):∀ n:Nat,(List.replicate n [v]).flatten = List.replicate n v
 | 0=>rfl
 | n + 1=>by rw [List.replicate_succ,List.flatten_cons,repl_flat v n,List.replicate_succ];rfl
theorem Tu.put {G:Hp}{l:Addr}{xs ys:List V} (e:G l = some (.lst xs)):Tu G (upd G l (.lst ys)):=fun b o hb ht=>by
 rw [upd_ne (fun z=>by subst z;rw [e] at hb;cases hb;rcases ht with ⟨_,z⟩ | ⟨_,_,z⟩ <;> cases z)];exact hb
structure GrOk (need s m below:Int) (zs:List Int):Prop where
 n1:1<=need
 n2:need<=10 ^ 12
 s1:1<=s
 s2:s<=10 ^ 12
 m1:0<=m
 m2:m<=10 ^ 13
 b1:0<=below
 b2:below<=10 ^ 27
 z1:0<=zs.sum
 z2:zs.sum < need
 len:zs.length<=60
section
local macro_rules | `(tactic| wtm_at "op")=>`(tactic| first | apply o_addB | apply o_sub | fail)
local macro_rules | `(tactic| wtm_at "pe")=>`(tactic| (apply k_repT0;(wtm_at "K");(wtm_at "pe");(wtm_at "pe")))
local macro_rules | `(tactic| wtm_at "ps")=>`(tactic| (apply s_for;(exact PassesOwn.leaving);(rfl);(intro _;rfl);(wtm_at "pi");(wtm_at "pg");(wtm_at "pss")))
variable {P:Program}{w:World}{K:PySem.W.Frag}{mg:Str->Option Value}{base:Heap}
abbrev sGrow:Stmt:=top 19
theorem scGrow:FnScope ["need","lot","kind","below","size","many","missing","fewest","most","grown","number"] ["need","lot","kind","below"] (defScope sGrow):=⟨rfl,rfl,rfl,by decide +kernel,rfl,by decide +kernel,by decide +kernel⟩
def spGrow (K:PySem.W.Frag) (C:Addr):Sp:=fun vs H Q E=>∃ (need s m below:Int) (a kd:Addr) (zs:List Int),vs = [.int need,.ref a,.ref kd,.int below]/\H a = some (.tup (zs.map V.int))/\SqT K H kd [.int s,.int m]/\GrOk need s m below zs/\
 (fewN need below s zs<=mostN need s m zs->60 < (zs.length:Int) + mostN need s m zs->∀ H',L2.Same H H'->E (.ref C) none H')/\
 ((fewN need below s zs<=mostN need s m zs->(zs.length:Int) + mostN need s m zs<=60)->∀ (l:Addr) (us:List V) (H':Hp),H l = none->L2.Same H H'->H' l = some (.lst us)->Rows H' us (growP need s m below zs)->Q (.ref l) H')
theorem ok_grow {f:Addr}{fd:FuncData}{C B:Addr} (F:Fun K "grown_lots" "grown_lots" sGrow f fd) (eR:ECls K mg "TooMany" C B) (cU:Callee CX0 P w K mg base "rounded_up" 1 ["top","bottom"] spUp) (g1:GInt mg "MOST_IN_A_LEAN" 60)
 (mS:mg "sum" = none) (mX:mg "max" = none) (mN:mg "min" = none) (mR:mg "range" = none) (mL:mg "len" = none):FnOk P w K mg base (CXF P w) 2 f fd ["need","lot","kind","below"] (spGrow K C):=by
 refine Br.Fun.jX F scGrow (fun vs H Q E h=>?_) (fun cdv A outer s H vs Q E hr h=>?_)
 · obtain⟨_,_,_,_,_,_,_,rfl,_⟩:=h;rfl
 · obtain⟨need,sz,m,below,a,kd,zs,rfl,ha,hk,g,hX,h⟩:=h
   have nd:=scGrow.nd
   have hsz:(sizeLine:Nat) = 16777216:=sizeLine_eq
   have g2:=g.n2;have g3:=g.s1;have g4:=g.s2;have g5:=g.m1;have g6:=g.m2
   refine' ⟨_,?d,?r⟩
   case d=>wtm_at "body"
   case r=>
    have ha':SqT K H a (zs.map V.int):=SqT.of ha
    refine⟨_,rfl,kd,_,rfl,hk,rfl,_,_,rfl,_,_,rfl,rfl,?_⟩
    refine⟨_,rfl,_,rfl,a,zs,rfl,.inr ha',_,_,rfl,rfl,?_⟩
    refine⟨_,rfl,_,rfl,_,_,rfl,rfl,_,rfl,_,_,rfl,by omega,by omega,0,_,rfl,?_⟩
    refine⟨_,rfl,_,rfl,_,rfl,_,_,rfl,by omega,by omega,_,_,rfl,?_⟩
    have eF:(if -(-(need - zs.sum - below) / sz) > 0 then -(-(need - zs.sum - below) / sz) else 0) = fewN need below sz zs:=by
     unfold fewN upD;split <;> omega
    have eM:(if -(-(need - zs.sum) / sz) < m then -(-(need - zs.sum) / sz) else m) = mostN need sz m zs:=by
     unfold mostN upD;split <;> omega
    have f0:0<=fewN need below sz zs:=few0
    have z1:=g.z1;have z2:=g.z2;have b1:=g.b1;have hlen:=g.len
    have hmul:(10:Int) ^ 12<=10 ^ 12 * sz:=by have:=Int.mul_le_mul_of_nonneg_left g3 (by decide:(0:Int)<=10 ^ 12);omega
    have f1:fewN need below sz zs<=10 ^ 12:=Int.max_le.mpr ⟨by decide,(upD_le (by omega)).mpr (by omega)⟩
    have m0:0<=mostN need sz m zs:=most0 (by omega) g5 z2
    have m1:mostN need sz m zs<=10 ^ 13:=Int.le_trans (Int.min_le_left _ _) g6
    rw [eF,eM]
    refine⟨by simp,fun l H1 nl s1 e1=>?_⟩
    refine⟨_,rfl,_,rfl,.inl ⟨_,_,rfl,rfl,_,_,rfl,⟨by omega,by omega,by omega,by omega⟩,?_⟩⟩
    have eN:(mostN need sz m zs + 1 - fewN need below sz zs).toNat = (growP need sz m below zs).length:=by unfold growP;rw [List.length_map,List.length_range]
    refine for_range (fun i σ G=>L2.Same H G/\(∃ us,G l = some (.lst us)/\Rows G us ((growP need sz m below zs).take i))/\(i = 0\/(zs.length:Int) + (fewN need below sz zs + i - 1)<=60)/\
     ∃ x:Option V,σ = [some (.int need),some (.ref a),some (.ref kd),some (.int below),some (.int sz),some (.int m),some (.int (need - zs.sum)),some (.int (fewN need below sz zs)),some (.int (mostN need sz m zs)),some (.ref l),x])
     ⟨s1,⟨_,e1,Rows.nil⟩,.inl rfl,none,rfl⟩ ?_ ?_
    · rintro i σ G hi ⟨sG,⟨us,eG,rG⟩,hb,x,rfl⟩
      have hfi:fewN need below sz zs + (i:Int)<=mostN need sz m zs:=by omega
      refine⟨_,⟨_,rfl,.inl ⟨a,_,rfl,.inr (SqT.of (sG _ _ ha)),_,rfl,.inl ⟨_,_,rfl,rfl,?_⟩⟩⟩,fun _ _ h=>h⟩
      rw [List.length_map]
      refine⟨_,_,rfl,rfl,_,rfl,ite2 (fun hc=>?_) (fun hc=>?_)⟩
      · have hc:=of_decide_eq_true hc
        exact hX (by omega) (by omega) G sG
      have hc:(zs.length:Int) + (fewN need below sz zs + (i:Int))<=60:=by
       by_cases c:(zs.length:Int) + (fewN need below sz zs + (i:Int))<=60
       · exact c
       · exact absurd (decide_eq_true (by omega)) hc
      have hul:us.length<=i:=by rw [rG.1,List.length_take];exact Nat.min_le_left _ _
      refine⟨_,rfl,.inl ⟨rfl,_,SqL.of eG⟩,?_⟩
      refine⟨_,rfl,lenLe (n:=1) rfl (by decide),fun t1 G1 n1 s1' e1'=>?_⟩
      refine⟨_,rfl,t1,_,_,rfl,rfl,e1',by simp,by omega,by omega,by rw [List.length_singleton,hsz];omega,fun t2 G2 s2' e2'=>?_⟩
      have sG2:=sG.trans (s1'.trans s2')
      refine⟨_,rfl,.inr ⟨t2,a,_,_,rfl,rfl,e2',sG2 _ _ ha,by rw [List.length_map,hsz];simp;omega,fun t3 G3 s3' e3'=>?_⟩⟩
      have sG3:=sG2.trans s3'
      have sGG:=s1'.trans (s2'.trans s3')
      have hfl:(List.replicate (fewN need below sz zs + (i:Int)).toNat [V.int sz]).flatten ++ zs.map V.int = (addN sz zs (fewN need below sz zs + (i:Int)).toNat).map V.int:=by
       unfold addN;rw [List.map_append,repl_flat,List.map_replicate]
      rw [hfl] at e3'
      have tl:Tu G3 (upd G3 l (.lst (us ++ [.ref t3]))):=Tu.put (sGG _ _ eG)
      refine⟨l,us,_,rfl,rfl,sGG _ _ eG,by omega,fun b o e=>?_,⟨_,upd_same,?_⟩,.inr (by omega),_,rfl⟩
      · rw [upd_ne (ne_of_none e nl)];exact sG3 _ _ e
      · have hg:(growP need sz m below zs)[i]? = some (addN sz zs (fewN need below sz zs + (i:Int)).toNat):=by
         unfold growP;rw [List.getElem?_map,List.getElem?_range (by omega)];rfl
        rw [List.take_add_one,hg]
        exact ((rG.same sGG).tu tl).app ((Rows.one e3').tu tl)
    · rintro σ G ⟨sG,⟨us,eG,rG⟩,hb,x,rfl⟩
      rw [eN,List.take_length] at rG
      refine⟨_,rfl,h (fun hfm=>?_) l us G nl sG eG rG⟩
      have:((mostN need sz m zs + 1 - fewN need below sz zs).toNat:Int) = mostN need sz m zs + 1 - fewN need below sz zs:=Int.toNat_of_nonneg (by omega)
      rcases hb with hb | hb
      · omega
      · omega
end
theorem grow_mem {need s m below:Int}{zs r:List Int} (g:GrOk need s m below zs) (hl:fewN need below s zs<=mostN need s m zs->(zs.length:Int) + mostN need s m zs<=60) (h:r∈growP need s m below zs):0<=r.sum/\r.length<=60:=by
 unfold growP at h
 obtain⟨i,hi,rfl⟩:=List.mem_map.mp h
 have hi:=List.mem_range.mp hi
 have f0:0<=fewN need below s zs:=few0
 have hfm:fewN need below s zs<=mostN need s m zs:=by omega
 have hl:=hl hfm
 rw [addN_sum]
 have z1:=g.z1;have s1:=g.s1
 have hp:0<=(((fewN need below s zs + (i:Int)).toNat:Nat):Int) * s:=Int.mul_nonneg (by omega) (by omega)
 refine⟨by omega,?_⟩
 unfold addN
 rw [List.length_append,List.length_replicate]
 omega
theorem grow_len {need s m below:Int}{zs:List Int} (hl:fewN need below s zs<=mostN need s m zs->(zs.length:Int) + mostN need s m zs<=60):(growP need s m below zs).length<=61:=by
 unfold growP
 rw [List.length_map,List.length_range]
 have f0:0<=fewN need below s zs:=few0
 by_cases c:fewN need below s zs<=mostN need s m zs
 · have:=hl c;omega
 · omega
theorem flat_len {α β:Type}{f:α->List β}{n:Nat}:∀ l:List α,(∀ x∈l,(f x).length<=n)->(l.flatMap f).length<=n * l.length
 | [],_=>by simp
 | x :: l,h=>by
  have h1:=h x (.head _)
  have h2:=flat_len (f:=f) (n:=n) l fun y hy=>h y (.tail _ hy)
  rw [List.flatMap_cons,List.length_append,List.length_cons,Nat.mul_add];omega
def RwOk (rows:List (List Int)):Prop:=(∀ r∈rows,0<=r.sum/\r.length<=60)/\rows.length<=300
theorem tot_app (a b:List (Int×Int)):tot (a ++ b) = tot a + tot b:=by unfold tot;rw [List.map_append,List.sum_append]
theorem tot_rev:∀ qs:List (Int×Int),tot qs.reverse = tot qs
 | []=>rfl
 | q :: qs=>by
  rw [List.reverse_cons,tot_app,tot_rev qs]
  unfold tot;simp;omega
theorem tot_cons (q:Int×Int) (qs:List (Int×Int)):tot (q :: qs) = q.1 * q.2 + tot qs:=by unfold tot;simp
theorem tot_bd:∀ (qs:List (Int×Int)),(∀ q∈qs,1<=q.1/\q.1<=10 ^ 12/\1<=q.2/\q.2<=10 ^ 13)->0<=tot qs/\tot qs<=10 ^ 25 * (qs.length:Int)
 | [],_=>by unfold tot;simp
 | q :: qs,h=>by
  obtain⟨a,b,c,d⟩:=h q (.head _)
  have ⟨i1,i2⟩:=tot_bd qs fun x hx=>h x (.tail _ hx)
  rw [tot_cons,List.length_cons]
  have h1:0<=q.1 * q.2:=Int.mul_nonneg (by omega) (by omega)
  have h2:q.1 * q.2<=10 ^ 12 * 10 ^ 13:=Int.mul_le_mul b d (by omega) (by decide)
  have h3:(10:Int) ^ 12 * 10 ^ 13 = 10 ^ 25:=by decide
  refine⟨by omega,?_⟩
  rw [Int.natCast_add,Int.mul_add]
  omega
theorem kinds_rev {H:Hp}{us:List V}{qs:List (Int×Int)} (h:Kinds H us qs) {i:Nat}{x:V} (hx:us.reverse[i]? = some x):∃ q,qs.reverse[i]? = some q/\Kind H x q:=by
 have hi:i < us.length:=by have:=(List.getElem?_eq_some_iff.mp hx).1;rw [List.length_reverse] at this;exact this
 rw [List.getElem?_reverse hi] at hx
 obtain⟨q,h1,h2⟩:=h.2 _ x hx
 exact⟨q,by rw [List.getElem?_reverse (by rw [<- h.1];exact hi),<- h.1];exact h1,h2⟩
theorem rows_refs {H:Hp}:∀ {us:List V}{rs:List (List Int)},Rows H us rs->∃ as:List Addr,us = as.map V.ref
 | [],_,_=>⟨[],rfl⟩
 | u :: us,[],h=>by have:=h.1;simp at this
 | u :: us,r :: rs,h=>by
  obtain⟨a,_,_,e,_⟩:=h.2 0 u rfl
  obtain⟨as,ea⟩:=rows_refs (us:=us) (rs:=rs) ⟨by have:=h.1;simpa using this,fun i v hv=>let ⟨a,zs,e1,e2⟩:=h.2 (i + 1) v hv;⟨a,zs,e1,e2⟩⟩
  exact⟨a :: as,by rw [e,ea];rfl⟩
theorem rows_zip {H:Hp}{as bs:List Addr}{rs ws:List (List Int)} (h:Rows H (as.map V.ref) rs) (hl:as.length = rs.length) (hb:bs.length = ws.length) (p:(bs.zip ws).Perm (as.zip rs)):Rows H (bs.map V.ref) ws:=by
 refine⟨by rw [List.length_map];exact hb,fun i v hv=>?_⟩
 rw [List.getElem?_map] at hv
 obtain⟨b,hbi,rfl⟩:=Option.map_eq_some_iff.mp hv
 have hi:i < ws.length:=by rw [<- hb];exact (List.getElem?_eq_some_iff.mp hbi).1
 have hw:ws[i]? = some ws[i]:=List.getElem?_eq_getElem hi
 have hz:(b,ws[i])∈bs.zip ws:=by
  refine List.mem_of_getElem? (i:=i) ?_
  rw [List.getElem?_zip_eq_some];exact⟨hbi,hw⟩
 obtain⟨j,hj⟩:=List.getElem?_of_mem (p.mem_iff.mp hz)
 rw [List.getElem?_zip_eq_some] at hj
 obtain⟨a,zs,e1,e2,e3⟩:=h.2 j (.ref b) (by rw [List.getElem?_map,hj.1];rfl)
 cases e2
 rw [hj.2] at e1;cases e1
 exact⟨b,_,hw,rfl,e3⟩
theorem leans_step {need more:Int}{q:Int×Int}{ks:List (Int×Int)}{rows:List (List Int)}:leansOf need (q :: ks) more rows = if tooLong need q.1 q.2 more rows then none else if 300 < (rowsTo need q.1 q.2 more rows).length then none else leansOf need ks (more - q.1 * q.2) (rowsTo need q.1 q.2 more rows):=rfl
theorem rows_ok {need more:Int}{q:Int×Int}{rows:List (List Int)} (R:RwOk rows) (G:∀ r∈rows,r.sum < need->GrOk need q.1 q.2 (more - q.1 * q.2) r) (hn:¬ tooLong need q.1 q.2 more rows) (hl:(rowsTo need q.1 q.2 more rows).length<=300):RwOk (rowsTo need q.1 q.2 more rows):=by
 refine⟨fun r hr=>?_,hl⟩
 unfold rowsTo at hr
 rcases List.mem_append.mp hr with h | h
 · exact R.1 r (List.mem_filter.mp h).1
 · obtain⟨x,hx,hg⟩:=List.mem_flatMap.mp h
   obtain⟨hx,hf⟩:=List.mem_filter.mp hx
   have hs:x.sum < need:=by
    unfold fullB at hf
    by_cases c:need<=x.sum
    · rw [decide_eq_true c] at hf;cases hf
    · omega
   have g:=G x hx hs
   refine grow_mem g (fun hfm=>?_) hg
   by_cases c:(x.length:Int) + mostN need q.1 q.2 x<=60
   · exact c
   · have h1:=(few_most (need:=need) (s:=q.1) (m:=q.2) (below:=more - q.1 * q.2) (zs:=x) (by have:=g.s1;omega) g.m1 hs g.b1).mp hfm
     exact absurd ⟨x,hx,hs,by omega,by omega⟩ hn
section
local macro_rules | `(tactic| wtm_at "ps")=>`(tactic| first | (apply s_augSub;(wtm_at "at");(assumption);(exact .inl rfl);(rfl);(wtm_at "pe")) | (apply s_for;(exact PassesOwn.leaving);(rfl);(intro _;rfl);(wtm_at "pi");(wtm_at "pg");(wtm_at "pss")))
local macro_rules | `(tactic| wtm_at "pi")=>`(tactic| (apply k_rvt;(wtm_at "K");(with_reducible rfl);(rfl);(assumption);(rfl);(wtm_at "pa")))
local macro_rules | `(tactic| wtm_at "call")=>`(tactic| (apply k_sortedUs;(rfl);(rfl);(rfl);(wtm_at "K");(with_reducible rfl);(assumption);(wtm_at "pa")))
variable {P:Program}{w:World}{K:PySem.W.Frag}{mg:Str->Option Value}{base:Heap}
abbrev sLean:Stmt:=top 20
theorem scLean:FnScope ["heap","need","kinds","below","begun","found","size","many","grown","lot"] ["heap"] (defScope sLean):=⟨rfl,rfl,rfl,by decide +kernel,rfl,by decide +kernel,by decide +kernel⟩
def leansQ (need:Int) (qs:List (Int×Int)):Option (List (List Int)):=leansOf need qs.reverse (tot qs) [[]]
def Told (H:Hp) (l:Addr) (rs:List (List Int)):Prop:=∃ (bs:List Addr) (us:List (List Int)),H l = some (.lst (bs.map V.ref))/\Rows H (bs.map V.ref) us/\us.Perm rs/\us.Pairwise (fun u v=>HT.lexLt v u = false)
def spLean (C:Addr):Sp:=fun vs H Q E=>∃ (h:Addr) (need:Int) (qs:List (Int×Int)),vs = [.ref h]/\HeapAt H h need qs/\(∀ rs,leansQ need qs = some rs->rs.length < 64)/\(leansQ need qs = none->∀ H',L2.Same H H'->E (.ref C) none H')/\
 (∀ rs,leansQ need qs = some rs->∀ (l:Addr) (H':Hp),H l = none->L2.Same H H'->Told H' l rs->Q (.ref l) H')
theorem ok_lean {f:Addr}{fd:FuncData}{C B:Addr} (F:Fun K "lean_lots" "lean_lots" sLean f fd) (eR:ECls K mg "TooMany" C B) (cT:Callee CX0 P w K mg base "total_of" 1 ["heap"] spTot) (cG:Callee (CXF P w) P w K mg base "grown_lots" 2 ["need","lot","kind","below"] (spGrow K C)) (cF:Callee CX0 P w K mg base "is_full" 1 ["need","lot"] (spFull K)) (g1:GInt mg "MOST_LEANS" 300)
 (mS:mg "sorted" = none) (mR:mg "reversed" = none) (mL:mg "len" = none):FnOk P w K mg base (CXF P w) 3 f fd ["heap"] (spLean C):=by
 refine Br.Fun.jX F scLean (fun vs H Q E h=>?_) (fun cdv A outer s H vs Q E hr h=>?_)
 · obtain⟨_,_,_,rfl,_⟩:=h;rfl
 · obtain⟨hp,need,qs,rfl,hh,few,hX,h⟩:=h
   have nd:=scLean.nd
   have hsz:(sizeLine:Nat) = 16777216:=sizeLine_eq
   refine' ⟨_,?d,?r⟩
   case d=>wtm_at "body"
   case r=>
    obtain⟨t,ob,us,h1,hb,h2,h3,h4⟩:=id hh
    have sq:∀ {G:Hp},L2.Same H G->SqT K G t us:=fun s=>.inl (.inr ⟨_,s _ _ h2⟩)
    have hul:=h3.1
    have n0:=h4.n0;have n1:=h4.n1;have hql:=h4.len
    have bdr:∀ i,∀ q∈qs.reverse.drop i,1<=q.1/\q.1<=10 ^ 12/\1<=q.2/\q.2<=10 ^ 13:=fun i q hq=>h4.bd q (List.mem_reverse.mp (List.mem_of_mem_drop hq))
    refine⟨_,rfl,hp,_,rfl,SqT.of h1,rfl,_,_,rfl,_,_,rfl,rfl,?_⟩
    refine⟨_,rfl,hp,need,qs,rfl,hh,fun H1 s1=>?_⟩
    refine⟨lenLe (n:=0) rfl (by decide),fun t0 H2 nt s2 e2=>⟨lenLe (n:=1) rfl (by decide),fun bl H3 nb s3 e3=>?_⟩⟩
    refine⟨by simp,fun fl H4 nf s4 e4=>?_⟩
    have s14:=s1.trans (s2.trans (s3.trans s4))
    have nfH:H fl = none:=by
     cases q:H fl with
     | none=>rfl
     | some o=>have:=(s1.trans (s2.trans s3)) _ _ q;rw [nf] at this;cases this
    have hbf:bl≠fl:=fun z=>by rw [z,nf] at e3;cases e3
    refine⟨_,rfl,t,us,rfl,sq s14,?_⟩
    have ef0:([[]]:List (List Int)).filter (fullB need) = []:=by
     have:fullB need [] = false:=decide_eq_false (by simp;omega)
     rw [List.filter_cons,this];rfl
    have ef1:(([[]]:List (List Int)).filter fun r=>!fullB need r) = [[]]:=by
     have:fullB need [] = false:=decide_eq_false (by simp;omega)
     rw [List.filter_cons,this];rfl
    refine for_rvt (K:=K) (a:=t) (xs:=us) (fun i σ G=>L2.Same H G/\∃ (rows:List (List Int)) (bl:Addr) (fus bus:List V),leansQ need qs = leansOf need (qs.reverse.drop i) (tot (qs.reverse.drop i)) rows/\RwOk rows/\
     G fl = some (.lst fus)/\Rows G fus (rows.filter (fullB need))/\G bl = some (.lst bus)/\Rows G bus (rows.filter fun r=>!fullB need r)/\bl≠fl/\
     ∃ x6 x7 x8 x9:Option V,σ = [some (.ref hp),some (.int need),some (.ref t),some (.int (tot (qs.reverse.drop i))),some (.ref bl),some (.ref fl),x6,x7,x8,x9])
     ⟨s14,[[]],bl,[],_,by rw [List.drop_zero,tot_rev];rfl,⟨fun r hr=>by rw [List.mem_singleton.mp hr];simp,by simp⟩,e4,by rw [ef0];exact Rows.nil,s4 _ _ e3,by rw [ef1];exact (Rows.one (zs:=[]) e2).same (s3.trans s4),hbf,none,none,none,none,by rw [List.drop_zero,tot_rev];rfl⟩
     (fun i σ G _ ⟨sG,_⟩=>sq sG) ?_ ?_
    · rintro i x σ G hx ⟨sG,rows,bl,fus,bus,hl,R,eF,rF,eB,rB,hbf,x6,x7,x8,x9,rfl⟩
      obtain⟨q,hq,r,rfl,hrr⟩:=kinds_rev h3 hx
      have hd:qs.reverse.drop i = q :: qs.reverse.drop (i + 1):=by
       obtain⟨hlt,e⟩:=List.getElem?_eq_some_iff.mp hq
       rw [List.drop_eq_getElem_cons hlt,e]
      have ht:tot (qs.reverse.drop i) = q.1 * q.2 + tot (qs.reverse.drop (i + 1)):=by rw [hd,tot_cons]
      obtain⟨b1,b2,b3,b4⟩:=bdr i q (by rw [hd];exact .head _)
      obtain⟨c1,c2⟩:=tot_bd _ (bdr (i + 1))
      have c3:((qs.reverse.drop (i + 1)).length:Int)<=16:=by rw [List.length_drop,List.length_reverse];omega
      generalize htl2:tot (qs.reverse.drop (i + 1)) = tl at ht c1 c2
      generalize htt:tot (qs.reverse.drop i) = tt at ht hl
      rw [hd,leans_step] at hl
      refine⟨r,_,rfl,SqT.of (sG _ _ hrr),rfl,_,_,rfl,_,_,rfl,rfl,?_⟩
      refine⟨_,rfl,_,rfl,_,rfl,_,_,rfl,rfl,IntMulOk.of_left (intBits_le_64 (by omega) (by omega)),_,_,rfl,rfl,?_⟩
      refine⟨by simp,fun gl G1 ng g1' e1=>?_⟩
      have hgf:gl≠fl:=fun z=>by rw [z,eF] at ng;cases ng
      have hgb:gl≠bl:=fun z=>by rw [z,eB] at ng;cases ng
      have ngH:H gl = none:=by
       cases z:H gl with
       | none=>rfl
       | some o=>have:=sG _ _ z;rw [ng] at this;cases this
      have hnf:∀ r∈(rows.filter fun r=>!fullB need r),r∈rows/\r.sum < need:=fun r hr=>by
       obtain⟨a1,a2⟩:=List.mem_filter.mp hr
       refine⟨a1,?_⟩
       unfold fullB at a2
       by_cases c:need<=r.sum
       · rw [decide_eq_true c] at a2;cases a2
       · omega
      have hG:∀ r∈rows,r.sum < need->GrOk need q.1 q.2 (tt - q.1 * q.2) r:=fun r hr hs=>⟨n0,n1,b1,b2,by omega,b4,by omega,by omega,(R.1 r hr).1,hs,(R.1 r hr).2⟩
      generalize hNF:(rows.filter fun r=>!fullB need r) = NF at rB hnf
      refine⟨_,rfl,bl,rfl,.inl ⟨⟨_,SqL.of (g1' _ _ eB)⟩,?_⟩⟩
      refine for_list (K:=K) (a:=bl) (xs:=bus) (fun j σ G2=>(∀ b o,b≠gl->G b = some o->G2 b = some o)/\(∃ gus,G2 gl = some (.lst gus)/\Rows G2 gus ((NF.take j).flatMap (growP need q.1 q.2 (tt - q.1 * q.2))))/\
       (∀ r∈NF.take j,fewN need (tt - q.1 * q.2) q.1 r<=mostN need q.1 q.2 r->(r.length:Int) + mostN need q.1 q.2 r<=60)/\
       ∃ x9:Option V,σ = [some (.ref hp),some (.int need),some (.ref t),some (.int (tt - q.1 * q.2)),some (.ref bl),some (.ref fl),some (.int q.1),some (.int q.2),some (.ref gl),x9])
       ⟨fun b o _ e=>g1' _ _ e,⟨_,e1,Rows.nil⟩,fun r hr=>by simp at hr,_,rfl⟩ (fun j σ G2 _ ⟨k2,_⟩=>SqL.of (k2 _ _ (Ne.symm hgb) eB)) ?_ ?_
      · rintro j x σ G2 hx ⟨k2,⟨gus,eGl,rG⟩,hsh,x9,rfl⟩
        obtain⟨a,zs,hz,rfl,ha⟩:=rB.2 j x hx
        have hzm:=List.mem_of_getElem? hz
        obtain⟨hzr,hzs⟩:=hnf zs hzm
        have g:=hG zs hzr hzs
        have hga:a≠gl:=fun z=>by rw [z,ng] at ha;cases ha
        refine⟨_,rfl,.inl ⟨rfl,_,SqL.of eGl⟩,?_⟩
        refine⟨_,rfl,_,rfl,_,rfl,_,rfl,lenLe (n:=2) rfl (by decide),fun kd G3 nk s3 e3=>⟨_,rfl,?_⟩⟩
        have k3:∀ b o,b≠gl->G b = some o->G3 b = some o:=fun b o hb e=>s3 _ _ (k2 b o hb e)
        have sH3:L2.Same H G3:=fun b o e=>k3 b o (ne_of_none e ngH) (sG _ _ e)
        have iff:=few_most (need:=need) (s:=q.1) (m:=q.2) (below:=tt - q.1 * q.2) (zs:=zs) (by omega) (by omega) hzs (by omega)
        refine⟨need,q.1,q.2,tt - q.1 * q.2,a,kd,zs,rfl,k3 _ _ hga ha,SqT.of e3,g,fun hfm hlong G4 s4=>?_,fun hok gl2 gus2 G4 n4 s4 e4 r4=>?_⟩
        · refine hX ?_ G4 (sH3.trans s4)
          rw [hl,if_pos ⟨zs,hzr,hzs,by have:=iff.mp hfm;omega,hlong⟩]
        have eGl4:=s4 _ _ (s3 _ _ eGl)
        have hgl2:gl2≠gl:=fun z=>by rw [z,s3 _ _ eGl] at n4;cases n4
        have tl:Tu G4 (upd G4 gl (.lst (gus ++ gus2))):=Tu.put eGl4
        have hb1:gus.length<=61 * 300:=by
         rw [rG.1]
         refine Nat.le_trans (flat_len (n:=61) _ fun r hr=>grow_len (hsh r hr)) (Nat.mul_le_mul_left _ ?_)
         rw [List.length_take,<- hNF]
         exact Nat.le_trans (Nat.min_le_right _ _) (Nat.le_trans (List.length_filter_le _ _) R.2)
        have hb2:gus2.length<=61:=by rw [r4.1];exact grow_len hok
        refine⟨gl,gl2,gus,gus2,rfl,rfl,eGl4,e4,by omega,fun b o hb e=>?_,⟨_,upd_same,?_⟩,fun r hr=>?_,_,rfl⟩
        · rw [upd_ne hb];exact s4 _ _ (k3 b o hb e)
        · rw [List.take_add_one,hz,List.flatMap_append]
          refine (((rG.same s3).same s4).tu tl).app ?_
          have:((some zs).toList:List (List Int)).flatMap (growP need q.1 q.2 (tt - q.1 * q.2)) = growP need q.1 q.2 (tt - q.1 * q.2) zs:=by simp
          rw [this]
          exact r4.tu tl
        · rw [List.take_add_one,hz] at hr
          rcases List.mem_append.mp hr with hr | hr
          · exact hsh r hr
          · have e:r = zs:=by simpa using hr
            subst e;exact hok
      rintro σ G2 ⟨k2,⟨gus,eGl,rG⟩,hsh,x9,rfl⟩
      have hbl:bus.length = NF.length:=rB.1
      rw [hbl,List.take_length] at rG hsh
      have hnl:¬ tooLong need q.1 q.2 tt rows:=fun⟨r,hr,h1,h2,h3⟩=>by
       have hm:r∈NF:=by rw [<- hNF];exact List.mem_filter.mpr ⟨hr,by unfold fullB;rw [decide_eq_false (by omega)];rfl⟩
       have:=hsh r hm ((few_most (by omega) (by omega) h1 (by omega)).mpr (by omega))
       omega
      rw [if_neg hnl] at hl
      generalize hGR:NF.flatMap (growP need q.1 q.2 (tt - q.1 * q.2)) = GR at rG
      have hgl:gus.length<=61 * 300:=by
       rw [rG.1,<- hGR]
       refine Nat.le_trans (flat_len (n:=61) _ fun r hr=>grow_len (hsh r hr)) (Nat.mul_le_mul_left _ ?_)
       rw [<- hNF];exact Nat.le_trans (List.length_filter_le _ _) R.2
      have eF2:=k2 _ _ (Ne.symm hgf) eF
      refine⟨_,rfl,.inl ⟨rfl,_,SqL.of eF2⟩,?_⟩
      refine⟨_,rfl,gl,rfl,.inl ⟨⟨_,SqL.of eGl⟩,?_⟩⟩
      refine cmp_list (K:=K) (a:=gl) (xs:=gus) (fun j ys σ G'=>G' = G2/\Rows G2 ys ((GR.take j).filter (fullB need))/\
       ∃ x:Option V,σ = [x,some (.ref hp),some (.int need),some (.ref t),some (.int (tt - q.1 * q.2)),some (.ref bl),some (.ref fl),some (.int q.1),some (.int q.2),some (.ref gl),x9])
       ⟨rfl,Rows.nil,none,rfl⟩ (by omega) (fun j ys σ G' _ ⟨e,r,_⟩=>⟨by rw [e];exact SqL.of eGl,by rw [r.1];exact Nat.le_trans (List.length_filter_le _ _) (by rw [List.length_take];exact Nat.min_le_left _ _)⟩) ?_ ?_
      · rintro j x ys σ G' N hx ⟨rfl,r,x0,rfl⟩ hN
        obtain⟨a,zs,hz,rfl,ha⟩:=rG.2 j x hx
        refine⟨_,rfl,_,rfl,need,a,zs,rfl,SqT.of ha,_,rfl,ite2 (fun hc=>⟨_,rfl,hN _ _ _ ⟨rfl,?_,_,rfl⟩⟩) (fun hc=>hN _ _ _ ⟨rfl,?_,_,rfl⟩)⟩
        · rw [List.take_add_one,hz,List.filter_append]
          have:((some zs).toList:List (List Int)).filter (fullB need) = [zs]:=by
           show List.filter (fullB need) [zs] = [zs]
           rw [List.filter_cons,show fullB need zs = true from hc];rfl
          rw [this];exact r.app (Rows.one ha)
        · rw [List.take_add_one,hz,List.filter_append]
          have:((some zs).toList:List (List Int)).filter (fullB need) = []:=by
           show List.filter (fullB need) [zs] = []
           rw [List.filter_cons,show fullB need zs = false from Bool.eq_false_iff.mpr hc];rfl
          rw [this,List.append_nil];exact r
      rintro fys σ G' ⟨rfl,rY,x0,rfl⟩ yl G3 n3 s3 e3
      rw [rG.1,List.take_length] at rY
      have hfyl:fys.length<=61 * 300:=by rw [rY.1];exact Nat.le_trans (List.length_filter_le _ _) (by rw [<- rG.1];exact hgl)
      have hful:fus.length<=300:=by rw [rF.1];exact Nat.le_trans (List.length_filter_le _ _) R.2
      have eF3:=s3 _ _ eF2
      have tl3:Tu G3 (upd G3 fl (.lst (fus ++ fys))):=Tu.put eF3
      refine⟨fl,yl,fus,fys,rfl,rfl,eF3,e3,by omega,?_⟩
      generalize hG4:upd G3 fl (.lst (fus ++ fys)) = G4 at tl3
      have eF4:G4 fl = some (.lst (fus ++ fys)):=by rw [<- hG4];exact upd_same
      have eGl4:G4 gl = some (.lst gus):=by rw [<- hG4,upd_ne hgf];exact s3 _ _ eGl
      have rG4:Rows G4 gus GR:=(rG.same s3).tu tl3
      have rowsF:Rows G4 (fus ++ fys) (rows.filter (fullB need) ++ GR.filter (fullB need)):=by
       refine Rows.app ?_ ((rY.same s3).tu tl3)
       have:Tu G G':=fun b o e ht=>k2 b o (fun z=>by rw [z,ng] at e;cases e) e
       exact ((rF.tu this).same s3).tu tl3
      have sH4:L2.Same H G4:=fun b o e=>by
       rw [<- hG4,upd_ne (ne_of_none e nfH)]
       exact s3 _ _ (k2 b o (ne_of_none e ngH) (sG _ _ e))
      refine⟨_,rfl,gl,rfl,.inl ⟨⟨_,SqL.of eGl4⟩,?_⟩⟩
      refine cmp_list (K:=K) (a:=gl) (xs:=gus) (fun j ys σ G'=>G' = G4/\Rows G4 ys ((GR.take j).filter fun r=>!fullB need r)/\
       ∃ x:Option V,σ = [x,some (.ref hp),some (.int need),some (.ref t),some (.int (tt - q.1 * q.2)),some (.ref bl),some (.ref fl),some (.int q.1),some (.int q.2),some (.ref gl),x9])
       ⟨rfl,Rows.nil,none,rfl⟩ (by omega) (fun j ys σ G' _ ⟨e,r,_⟩=>⟨by rw [e];exact SqL.of eGl4,by rw [r.1];exact Nat.le_trans (List.length_filter_le _ _) (by rw [List.length_take];exact Nat.min_le_left _ _)⟩) ?_ ?_
      · rintro j x ys σ G' N hx ⟨rfl,r,x0,rfl⟩ hN
        obtain⟨a,zs,hz,rfl,ha⟩:=rG4.2 j x hx
        refine⟨_,rfl,_,rfl,need,a,zs,rfl,SqT.of ha,_,rfl,ite2 (fun hc=>⟨_,rfl,hN _ _ _ ⟨rfl,?_,_,rfl⟩⟩) (fun hc=>hN _ _ _ ⟨rfl,?_,_,rfl⟩)⟩
        · rw [List.take_add_one,hz,List.filter_append]
          have:(((some zs).toList:List (List Int)).filter fun r=>!fullB need r) = [zs]:=by
           show (List.filter (fun r=>!fullB need r) [zs]) = [zs]
           rw [List.filter_cons,show (!fullB need zs) = true from hc];rfl
          rw [this];exact r.app (Rows.one ha)
        · rw [List.take_add_one,hz,List.filter_append]
          have:(((some zs).toList:List (List Int)).filter fun r=>!fullB need r) = []:=by
           show (List.filter (fun r=>!fullB need r) [zs]) = []
           rw [List.filter_cons,show (!fullB need zs) = false from Bool.eq_false_iff.mpr hc];rfl
          rw [this,List.append_nil];exact r
      rintro bys σ G'' ⟨rfl,rY2,x0,rfl⟩ bl2 G5 n5 s5 e5
      rw [rG4.1,List.take_length] at rY2
      have eF5:=s5 _ _ eF4
      have er:rowsTo need q.1 q.2 tt rows = rows.filter (fullB need) ++ GR:=by unfold rowsTo;rw [hNF,hGR]
      have e1':(rowsTo need q.1 q.2 tt rows).filter (fullB need) = rows.filter (fullB need) ++ GR.filter (fullB need):=by rw [rows_full,hNF,hGR]
      have e2':((rowsTo need q.1 q.2 tt rows).filter fun r=>!fullB need r) = GR.filter fun r=>!fullB need r:=by rw [rows_not,hNF,hGR]
      have elen:((fus ++ fys).length:Int) + (bys.length:Int) = ((rowsTo need q.1 q.2 tt rows).length:Int):=by
       rw [split_len (p:=fullB need) (rowsTo need q.1 q.2 tt rows),e1',e2',rowsF.1,rY2.1,Int.natCast_add]
      refine⟨_,⟨_,rfl,.inl ⟨fl,_,rfl,.inl (SqL.of eF5),_,rfl,.inl ⟨bl2,_,rfl,.inl (SqL.of e5),.inl ⟨_,_,rfl,rfl,?_⟩⟩⟩⟩,fun _ _ h=>h⟩
      refine⟨_,_,rfl,rfl,_,rfl,ite2 (fun hc=>?_) (fun hc=>?_)⟩
      · have hc:(300:Int) < ((fus ++ fys).length:Int) + (bys.length:Int):=of_decide_eq_true hc
        rw [if_pos (by omega)] at hl
        exact hX hl G5 (sH4.trans s5)
      have hc:(rowsTo need q.1 q.2 tt rows).length<=300:=by
       by_cases c:(rowsTo need q.1 q.2 tt rows).length<=300
       · exact c
       · exact absurd (decide_eq_true (show (300:Int) < ((fus ++ fys).length:Int) + (bys.length:Int) by omega)) hc
      rw [if_neg (by omega)] at hl
      have hb2:bl2≠fl:=fun z=>by rw [z,eF4] at n5;cases n5
      have htl:tt - q.1 * q.2 = tl:=by omega
      refine⟨sH4.trans s5,rowsTo need q.1 q.2 tt rows,bl2,_,_,?_,rows_ok R hG hnl hc,eF5,by rw [e1'];exact rowsF.same s5,e5,by rw [e2'];exact rY2.same s5,hb2,some (.int q.1),some (.int q.2),some (.ref gl),x9,?_⟩
      · rw [hl,htl]
      · rw [htl];rfl
    · rintro σ G ⟨sG,rows,bl,fus,bus,hl,R,eF,rF,eB,rB,hbf,x6,x7,x8,x9,rfl⟩
      have hdn:qs.reverse.drop us.length = []:=List.drop_eq_nil_of_le (by rw [List.length_reverse];omega)
      rw [hdn] at hl
      have hl:leansQ need qs = some (rows.filter (fullB need)):=hl
      obtain⟨as,rfl⟩:=rows_refs rF
      have hne:∀ w∈rows.filter (fullB need),w≠[]:=fun w hw z=>by
       have h2:=(List.mem_filter.mp hw).2
       rw [z] at h2
       have:=of_decide_eq_true h2
       simp at this;omega
      have hlen:=rF.1
      rw [List.length_map] at hlen
      refine⟨_,rfl,fl,as,_,rfl,.inl (SqL.of eF),by rw [hlen];exact few _ hl,hlen,fun i a hi=>?_,fun _=>hne,fun l bs ws G1 nl s1 e1 hp hbl hpw=>?_⟩
      · obtain⟨a',zs,h1,h2,h3⟩:=rF.2 i (.ref a) (by rw [List.getElem?_map,hi];rfl)
        cases h2
        exact⟨zs,h1,h3⟩
      have hlH:H l = none:=by
       cases z:H l with
       | none=>rfl
       | some o=>have:=sG _ _ z;rw [nl] at this;cases this
      refine h _ hl l G1 hlH (sG.trans s1) ⟨bs,ws,e1,?_,?_,hpw⟩
      · exact rows_zip (rF.same s1) hlen hbl hp
      · have:=hp.map Prod.snd
        rw [List.map_snd_zip (by omega),List.map_snd_zip (by omega)] at this
        exact this
end
end K30
namespace K30
open Br.Spx
def Lists (l:Addr) (H:Hp) (us:List V) (M:List (List Int)):Prop:=us.length = M.length/\∀ (i:Nat) (v:V),us[i]? = some v->∃ (a:Addr) (zs:List Int),M[i]? = some zs/\v = .ref a/\a≠l/\H a = some (.lst (zs.map V.int))
section
variable {l:Addr}{H H':Hp}{us us':List V}{M M':List (List Int)}
theorem Lists.nil:Lists l H [] []:=⟨rfl,fun i v h=>by cases h⟩
theorem Lists.but (h:Lists l H us M) (s:∀ b o,b≠l->H b = some o->H' b = some o):Lists l H' us M:=⟨h.1,fun i v hv=>let ⟨a,zs,e1,e2,e3,e4⟩:=h.2 i v hv;⟨a,zs,e1,e2,e3,s _ _ e3 e4⟩⟩
theorem Lists.same (h:Lists l H us M) (s:L2.Same H H'):Lists l H' us M:=h.but fun b o _ e=>s _ _ e
theorem Lists.one {a:Addr}{zs:List Int} (n:a≠l) (e:H a = some (.lst (zs.map V.int))):Lists l H [.ref a] [zs]:=⟨rfl,fun i v hv=>by
 cases i with
 | zero=>cases hv;exact⟨a,zs,rfl,rfl,n,e⟩
 | succ i=>cases hv⟩
theorem Lists.app (h:Lists l H us M) (h':Lists l H us' M'):Lists l H (us ++ us') (M ++ M'):=⟨by rw [List.length_append,List.length_append,h.1,h'.1],fun i v hv=>by
 by_cases c:i < us.length
 · rw [List.getElem?_append_left c] at hv
   obtain⟨a,zs,e1,e2⟩:=h.2 i v hv
   exact⟨a,zs,by rw [List.getElem?_append_left (by rw [<- h.1];exact c)];exact e1,e2⟩
 · rw [List.getElem?_append_right (by omega)] at hv
   obtain⟨a,zs,e1,e2⟩:=h'.2 _ v hv
   exact⟨a,zs,by rw [List.getElem?_append_right (by rw [<- h.1];omega),<- h.1];exact e1,e2⟩⟩
end
def MatAt (H:Hp) (l:Addr) (M:List (List Int)):Prop:=∃ us,H l = some (.lst us)/\Lists l H us M
theorem MatAt.same {H H':Hp}{l:Addr}{M:List (List Int)} (h:MatAt H l M) (s:L2.Same H H'):MatAt H' l M:=let ⟨us,e,r⟩:=h;⟨us,s _ _ e,r.same s⟩
section
local macro_rules | `(tactic| wtm_at "pi")=>`(tactic| (apply EG.k_enum;(wtm_at "K");(with_reducible rfl);(rfl);(assumption);(rfl);(wtm_at "pa")))
local macro_rules | `(tactic| wtm_at "pg")=>`(tactic| (apply g_tup12;(wtm_at "at");(wtm_at "at");(wtm_at "at");(rfl);(assumption);(first | exact .inl rfl | exact .inr rfl);(first | exact .inl rfl | exact .inr rfl);(first | exact .inl rfl | exact .inr rfl);(rfl);(rfl);(rfl);(rfl);(rfl);(rfl);(rfl);(rfl);(rfl);(rfl);(rfl)))
local macro_rules | `(tactic| wtm_at "call")=>`(tactic| (apply k_countB;(wtm_at "K");(rfl);(rfl);(rfl);(rfl);(rfl);(wtm_at "pe");(wtm_at "pa")))
variable {P:Program}{w:World}{K:PySem.W.Frag}{mg:Str->Option Value}{base:Heap}
abbrev sFirst:Stmt:=top 22
theorem scFirst:FnScope ["kinds","lots","rows","place","size","many","unused"] ["kinds","lots"] (defScope sFirst):=⟨rfl,rfl,rfl,by decide +kernel,rfl,by decide +kernel,by decide +kernel⟩
def spFirst (K:PySem.W.Frag):Sp:=fun vs H Q _=>∃ (kd l:Addr) (us ws:List V) (qs:List (Int×Int)) (rs:List (List Int)),vs = [.ref kd,.ref l]/\SqT K H kd us/\Kinds H us qs/\H l = some (.lst ws)/\Rows H ws rs/\qs.length<=16/\rs.length<=300/\
 ∀ (m:Addr) (H':Hp),H m = none->L2.Same H H'->MatAt H' m (rows0 qs rs)->Q (.ref m) H'
theorem ok_first {f:Addr}{fd:FuncData} (F:Fun K "first_rows" "first_rows" sFirst f fd) (mE:mg "enumerate" = none) (mL:mg "len" = none):FnOk P w K mg base CX0 1 f fd ["kinds","lots"] (spFirst K):=by
 refine Br.Fun.j F scFirst (fun vs H Q E h=>?_) (fun cdv A outer s H vs Q E hr h=>?_)
 · obtain⟨_,_,_,_,_,_,rfl,_⟩:=h;rfl
 · obtain⟨kd,l,us,ws,qs,rs,rfl,hk,hq,hl,hr',hql,hrl,h⟩:=h
   have nd:=scFirst.nd
   refine' ⟨_,?d,?r⟩
   case d=>wtm_at "body"
   case r=>
    have hsz:(sizeLine:Nat) = 16777216:=sizeLine_eq
    have hul:=hq.1
    have hwl:=hr'.1
    refine⟨by simp,fun m H1 nm s1 e1=>?_⟩
    have tokd:∀ {G:Hp},L2.Same H G->SqT K G kd us:=fun s=>seqT s hk
    refine⟨_,rfl,true,kd,us,rfl,tokd s1,?_⟩
    refine EG.for_enum (f:=true) (K:=K) (a:=kd) (xs:=us) (fun i σ G=>L2.Same H G/\(∃ vs,G m = some (.lst vs)/\Lists m G vs ((qs.mapIdx (row0 qs rs)).take i))/\
     ∃ x3 x4 x5 x6:Option V,σ = [some (.ref kd),some (.ref l),some (.ref m),x3,x4,x5,x6])
     ⟨s1,⟨_,e1,Lists.nil⟩,none,none,none,none,rfl⟩ (fun i σ G _ ⟨sG,_⟩=>tokd sG) ?_ ?_
    · rintro i x σ G Tt hx ⟨sG,⟨vs,eG,LG⟩,x3,x4,x5,x6,rfl⟩ nT
      obtain⟨q,hqi,r,rfl,hrr⟩:=hq.2 i x hx
      have sT:L2.Same G (upd G Tt (.tup [.int (i:Int),.ref r])):=Br.Same.upd nT
      generalize hG1:upd G Tt (.tup [.int (i:Int),.ref r]) = G1 at sT
      have eT:G1 Tt = some (.tup [.int (i:Int),.ref r]):=by rw [<- hG1];exact upd_same
      have sG1:=sG.trans sT
      refine⟨Tt,_,rfl,SqT.of eT,rfl,_,_,rfl,_,_,rfl,r,_,rfl,SqT.of (sG1 _ _ hrr),rfl,_,_,rfl,_,_,rfl,rfl,rfl,?_⟩
      have hi:i < us.length:=(List.getElem?_eq_some_iff.mp hx).1
      refine⟨lenLe (n:=1) rfl (by decide),fun t1 G2 n1 s2 e2=>?_⟩
      refine⟨_,rfl,.inl ⟨kd,us,rfl,.inr (tokd (sG1.trans s2)),?_⟩⟩
      refine⟨t1,_,_,rfl,rfl,e2,by omega,by omega,by rw [hsz,List.length_singleton];omega,fun un G3 n3 s3 e3=>?_⟩
      have e3':G3 un = some (.lst (List.replicate us.length (V.int 0))):=by
       rw [e3,repl_flat];rfl
      have sG3:=sG1.trans (s2.trans s3)
      refine⟨_,rfl,_,rfl,un,_,_,i,rfl,rfl,e3',by unfold ixN;rw [List.length_replicate,if_pos (by omega),if_pos (by omega)];simp,?_⟩
      generalize hG4:upd G3 un (.lst ((List.replicate us.length (V.int 0)).set i (V.int 1))) = G4
      have k4:∀ b o,b≠un->G3 b = some o->G4 b = some o:=fun b o hb e=>by rw [<- hG4,upd_ne hb];exact e
      have eU:G4 un = some (.lst ((List.replicate us.length (V.int 0)).set i (V.int 1))):=by rw [<- hG4];exact upd_same
      have sG4:L2.Same G G4:=fun b o e=>k4 b o (fun z=>by rw [z] at e;have:=(sT.trans s2) _ _ e;rw [n3] at this;cases this) ((sT.trans (s2.trans s3)) _ _ e)
      have sH4:=sG.trans sG4
      refine⟨_,rfl,.inl ⟨rfl,_,SqL.of (sG4 _ _ eG)⟩,?_⟩
      refine⟨_,rfl,l,rfl,.inl ⟨⟨_,SqL.of (sH4 _ _ hl)⟩,?_⟩⟩
      refine cmp_list (K:=K) (a:=l) (xs:=ws) (fun j ys σ G'=>G' = G4/\ys = (rs.take j).map (fun r=>V.int (r.count q.1:Int))/\
       ∃ x:Option V,σ = [x,some (.ref kd),some (.ref l),some (.ref m),some (.int (i:Int)),some (.int q.1),some (.int q.2),some (.ref un)])
       ⟨rfl,rfl,none,rfl⟩ (by omega) (fun j ys σ G' _ ⟨e,r,_⟩=>⟨by rw [e];exact SqL.of (sH4 _ _ hl),by rw [r,List.length_map,List.length_take];exact Nat.min_le_left _ _⟩) ?_ ?_
      · rintro j x ys σ G' N hx ⟨rfl,rfl,x0,rfl⟩ hN
        obtain⟨a,zs,hz,rfl,ha⟩:=hr'.2 j x hx
        refine⟨_,rfl,⟨a,zs,rfl,sH4 _ _ ha⟩,_,rfl,a,zs,q.1,rfl,rfl,SqT.of (sH4 _ _ ha),hN _ _ _ ⟨rfl,?_,_,rfl⟩⟩
        rw [List.take_add_one,hz,List.map_append];rfl
      rintro fys σ G' ⟨rfl,rfl,x0,rfl⟩ yl G5 n5 s5 e5
      rw [hwl,List.take_length] at e5
      refine⟨_,rfl,.inr (.inl ⟨yl,un,_,_,rfl,rfl,e5,s5 _ _ eU,by simp;omega,fun p6 G6 n6 s6 e6=>?_⟩)⟩
      refine⟨_,rfl,lenLe (n:=1) rfl (by decide),fun p7 G7 n7 s7 e7=>?_⟩
      refine .inr (.inl ⟨p6,p7,_,_,rfl,rfl,s7 _ _ e6,e7,by simp;omega,fun p8 G8 n8 s8 e8=>?_⟩)
      have s48:=s5.trans (s6.trans (s7.trans s8))
      have sG8:=sG4.trans s48
      have hm8:m≠p8:=fun z=>by rw [<- z] at n8;have:=(sG4.trans (s5.trans (s6.trans s7))) _ _ eG;rw [n8] at this;cases this
      have hvl:vs.length<=us.length:=by rw [LG.1,List.length_take,List.length_mapIdx];omega
      refine⟨m,vs,_,rfl,rfl,sG8 _ _ eG,by omega,fun b o e=>?_,⟨_,upd_same,?_⟩,_,_,_,_,rfl⟩
      · rw [upd_ne (ne_of_none e nm)];exact (sG.trans sG8) _ _ e
      · have hg:(qs.mapIdx (row0 qs rs))[i]? = some (row0 qs rs i q):=by rw [List.getElem?_mapIdx,hqi];rfl
        rw [List.take_add_one,hg]
        refine ((LG.same sG8).app (Lists.one (Ne.symm hm8) ?_)).but fun b o hb e=>by rw [upd_ne hb];exact e
        rw [e8]
        unfold row0
        rw [hul]
        simp [List.map_append,List.map_set]
    · rintro σ G ⟨sG,⟨vs,eG,LG⟩,x3,x4,x5,x6,rfl⟩
      rw [hul,show qs.length = (qs.mapIdx (row0 qs rs)).length by simp,List.take_length] at LG
      refine⟨_,rfl,.inl ⟨rfl,_,SqL.of eG⟩,?_⟩
      refine⟨_,rfl,lenLe (n:=1) rfl (by decide),fun p1 G1 n1 s1' e1'=>?_⟩
      refine⟨_,rfl,.inl ⟨l,ws,rfl,.inl (SqL.of (s1' _ _ (sG _ _ hl))),?_⟩⟩
      refine⟨p1,_,_,rfl,rfl,e1',by omega,by omega,by rw [hsz,List.length_singleton];omega,fun p2 G2 n2 s2 e2=>?_⟩
      refine⟨lenLe (n:=1) rfl (by decide),fun p3 G3 n3 s3 e3=>?_⟩
      have s03:=s1'.trans (s2.trans s3)
      refine⟨_,rfl,.inl ⟨kd,us,rfl,.inr (tokd (sG.trans s03)),?_⟩⟩
      refine .inl ⟨_,_,rfl,rfl,?_⟩
      refine⟨p3,_,_,rfl,rfl,e3,by omega,by omega,by rw [hsz,List.length_singleton];omega,fun p4 G4 n4 s4 e4=>?_⟩
      rw [repl_flat] at e2 e4
      refine .inr (.inl ⟨p2,p4,_,_,rfl,rfl,s4 _ _ (s3 _ _ e2),e4,by simp;omega,fun p5 G5 n5 s5 e5=>?_⟩)
      have sG5:=s03.trans (s4.trans s5)
      have hm5:m≠p5:=fun z=>by rw [<- z] at n5;have:=(s03.trans s4) _ _ eG;rw [n5] at this;cases this
      have hvl:vs.length<=16:=by rw [LG.1,List.length_mapIdx];omega
      refine⟨m,vs,_,rfl,rfl,sG5 _ _ eG,by omega,?_⟩
      refine⟨_,rfl,h m _ nm (fun b o e=>?_) ⟨_,upd_same,?_⟩⟩
      · rw [upd_ne (ne_of_none e nm)];exact (sG.trans sG5) _ _ e
      · refine ((LG.same sG5).app (Lists.one (zs:=List.replicate rs.length (-1) ++ List.replicate (qs.length + 1) 0) (Ne.symm hm5) ?_)).but fun b o hb e=>by rw [upd_ne hb];exact e
        rw [e5,List.map_append,List.map_replicate,List.map_replicate,hwl,hul]
        rfl
end
structure PivAt (H:Hp) (m:Addr) (n L:Nat) (a:Nat->Vec) (S:Nat->Nat):Prop where
 mat:MatAt H m (matOf n L a S)
 n16:n<=16
 L300:L<=300
 bd:∀ i j,i < n + 1->j < L + n + 1->Bd 1000 (T n a S i j)
section
variable {H H':Hp}{m:Addr}{n L:Nat}{a:Nat->Vec}{S:Nat->Nat}
theorem PivAt.same (p:PivAt H m n L a S) (s:L2.Same H H'):PivAt H' m n L a S:=⟨p.mat.same s,p.n16,p.L300,p.bd⟩
def rowOf (n L:Nat) (a:Nat->Vec) (S:Nat->Nat) (i:Nat):List Int:=(List.range (L + n + 1)).map fun j=>T n a S i j
theorem rowOf_len {i:Nat}:(rowOf n L a S i).length = L + n + 1:=by unfold rowOf;simp
theorem rowOf_at {i j:Nat} (h:j < L + n + 1):(rowOf n L a S i)[j]? = some (T n a S i j):=by unfold rowOf;rw [List.getElem?_map,List.getElem?_range h];rfl
theorem rowOf_last {i:Nat}:atI ((rowOf n L a S i).map V.int) (-1) = some (.int (T n a S i (L + n))):=by
 have e:ixN ((rowOf n L a S i).map V.int).length (-1) = some (L + n):=by
  unfold ixN
  rw [List.length_map,rowOf_len,if_neg (by omega),if_pos (by omega)]
  congr 1;omega
 unfold atI
 rw [e]
 show ((rowOf n L a S i).map V.int)[L + n]? = _
 rw [List.getElem?_map,rowOf_at (by omega)];rfl
theorem rowOf_ix {i j:Nat} (h:j < L + n + 1):atI ((rowOf n L a S i).map V.int) (j:Int) = some (.int (T n a S i j)):=atI_nat (by rw [List.getElem?_map,rowOf_at h];rfl)
theorem PivAt.rows (p:PivAt H m n L a S):∃ us:List V,H m = some (.lst us)/\us.length = n + 1/\∀ i,i < n + 1->∃ b,us[i]? = some (.ref b)/\b≠m/\H b = some (.lst ((rowOf n L a S i).map V.int)):=by
 obtain⟨us,e,hl,h⟩:=p.mat
 rw [mat_len] at hl
 refine⟨us,e,hl,fun i hi=>?_⟩
 have e1:=List.getElem?_eq_getElem (show i < us.length by omega)
 obtain⟨b,zs,h1,h2,h3,h4⟩:=h i _ e1
 rw [mat_row hi] at h1
 cases h1
 exact⟨b,by rw [e1,h2],h3,h4⟩
theorem PivAt.last (p:PivAt H m n L a S):∃ (us:List V) (b:Addr),H m = some (.lst us)/\atI us (-1) = some (.ref b)/\H b = some (.lst ((rowOf n L a S n).map V.int)):=by
 obtain⟨us,e,hl,h⟩:=p.rows
 obtain⟨b,h1,_,h2⟩:=h n (Nat.lt_succ_self n)
 refine⟨us,b,e,?_,h2⟩
 have e2:ixN us.length (-1) = some n:=by
  unfold ixN
  rw [hl,if_neg (by omega),if_pos (by omega)]
  congr 1;omega
 unfold atI
 rw [e2];exact h1
end
section
local macro_rules | `(tactic| wtm_at "pi")=>`(tactic| (apply EG.k_enum;(wtm_at "K");(with_reducible rfl);(rfl);(assumption);(rfl);(wtm_at "pa")))
variable {P:Program}{w:World}{K:PySem.W.Frag}{mg:Str->Option Value}{base:Heap}
abbrev sCol:Stmt:=top 23
theorem scCol:FnScope ["rows","column","price"] ["rows"] (defScope sCol):=⟨rfl,rfl,rfl,by decide +kernel,rfl,by decide +kernel,by decide +kernel⟩
def ColIs (n L:Nat) (a:Nat->Vec) (S:Nat->Nat) (v:V):Prop:=(∃ c:Nat,v = .int (c:Int)/\isCol n L a S c)\/(v = .non/\∀ j,j < L + n + 1->0<=T n a S n j)
def spCol:Sp:=fun vs H Q _=>∃ (m:Addr) (n L:Nat) (a:Nat->Vec) (S:Nat->Nat),vs = [.ref m]/\PivAt H m n L a S/\∀ (v:V) (H':Hp),L2.Same H H'->ColIs n L a S v->Q v H'
theorem ok_col {f:Addr}{fd:FuncData} (F:Fun K "column_to_use" "column_to_use" sCol f fd) (mE:mg "enumerate" = none):FnOk P w K mg base CX0 1 f fd ["rows"] spCol:=by
 refine Br.Fun.j F scCol (fun vs H Q E h=>?_) (fun cdv A outer s H vs Q E hr h=>?_)
 · obtain⟨_,_,_,_,_,rfl,_⟩:=h;rfl
 · obtain⟨m,n,L,a,S,rfl,p,hY⟩:=h
   have nd:=scCol.nd
   refine' ⟨_,?d,?r⟩
   case d=>wtm_at "body"
   case r=>
    obtain⟨us,b,e1,e2,e3⟩:=p.last
    refine⟨_,rfl,_,rfl,.inl ⟨m,us,_,_,rfl,rfl,SqL.of e1,e2,?_⟩⟩
    refine⟨false,b,_,rfl,.inl (.inl e3),?_⟩
    refine EG.for_enum (f:=false) (K:=K) (a:=b) (xs:=(rowOf n L a S n).map V.int) (fun i σ G=>L2.Same H G/\(∀ j,j < i->0<=T n a S n j)/\∃ x1 x2:Option V,σ = [some (.ref m),x1,x2])
     ⟨fun b o e=>e,fun j hj=>absurd hj (Nat.not_lt_zero _),none,none,rfl⟩ (fun i σ G _ ⟨sG,_⟩=>SqL.of (sG _ _ e3)) ?_ ?_
    · rintro i x σ G Tt hx ⟨sG,low,x1,x2,rfl⟩ nT
      have hi:i < L + n + 1:=by have:=(List.getElem?_eq_some_iff.mp hx).1;rw [List.length_map,rowOf_len] at this;exact this
      rw [List.getElem?_map,rowOf_at hi] at hx
      cases hx
      have sT:L2.Same G (upd G Tt (.tup [.int (i:Int),.int (T n a S n i)])):=Br.Same.upd nT
      generalize hG1:upd G Tt (.tup [.int (i:Int),.int (T n a S n i)]) = G1 at sT
      have eT:G1 Tt = some (.tup [.int (i:Int),.int (T n a S n i)]):=by rw [<- hG1];exact upd_same
      refine⟨Tt,_,rfl,SqT.of eT,rfl,_,_,rfl,_,_,rfl,rfl,?_⟩
      refine⟨_,?_,fun _ _ h=>h⟩
      refine⟨_,rfl,_,_,rfl,rfl,_,rfl,ite2 (fun hc=>?_) (fun hc=>?_)⟩
      · have hc:=of_decide_eq_true hc
        exact⟨_,rfl,hY _ _ (sG.trans sT) (.inl ⟨i,rfl,hi,hc,low⟩)⟩
      · have hc:¬ T n a S n i < 0:=fun z=>hc (decide_eq_true z)
        refine⟨sG.trans sT,fun j hj=>?_,_,_,rfl⟩
        by_cases z:j = i
        · rw [z];omega
        · exact low j (by omega)
    · rintro σ G ⟨sG,low,x1,x2,rfl⟩
      rw [List.length_map,rowOf_len] at low
      exact hY _ G sG (.inr ⟨rfl,low⟩)
end
structure UsedAt (H:Hp) (u:Addr) (n L:Nat) (U:List Nat):Prop where
 lst:H u = some (.lst (U.map fun x:Nat=>V.int (x:Int)))
 len:U.length = n
section
variable {H H':Hp}{m u:Addr}{n L:Nat}{a:Nat->Vec}{S:Nat->Nat}{U:List Nat}
theorem UsedAt.same (x:UsedAt H u n L U) (s:L2.Same H H'):UsedAt H' u n L U:=⟨s _ _ x.lst,x.len⟩
theorem UsedAt.ix (x:UsedAt H u n L U) {i:Nat} (h:i < n):atI (U.map fun x:Nat=>V.int (x:Int)) (i:Int) = some (.int (sOf n L U i:Int)):=atI_nat (by rw [List.getElem?_map,sOf_at (L:=L) h x.len];rfl)
end
section
variable {P:Program}{w:World}{K:PySem.W.Frag}{mg:Str->Option Value}{base:Heap}
abbrev sAhead:Stmt:=top 24
theorem scAhead:FnScope ["rows","used","column","one","other","left","right"] ["rows","used","column","one","other"] (defScope sAhead):=⟨rfl,rfl,rfl,by decide +kernel,rfl,by decide +kernel,by decide +kernel⟩
def spAhead:Sp:=fun vs H Q _=>∃ (m u:Addr) (n L:Nat) (a:Nat->Vec) (U:List Nat) (c i p:Nat),vs = [.ref m,.ref u,.int (c:Int),.int (i:Int),.int (p:Int)]/\PivAt H m n L a (sOf n L U)/\UsedAt H u n L U/\c < L + n/\i < n/\p < n/\
 Q (.bl (decide (before n L a (sOf n L U) c i p))) H
theorem ok_ahead {f:Addr}{fd:FuncData} (F:Fun K "is_used_up_first" "is_used_up_first" sAhead f fd):FnOk P w K mg base CX0 1 f fd ["rows","used","column","one","other"] spAhead:=by
 refine Br.Fun.j F scAhead (fun vs H Q E h=>?_) (fun cdv A outer s H vs Q E hr h=>?_)
 · obtain⟨_,_,_,_,_,_,_,_,_,rfl,_⟩:=h;rfl
 · obtain⟨m,u,n,L,a,U,c,i,p,rfl,pv,ua,hc,hi,hp,h⟩:=h
   have nd:=scAhead.nd
   refine' ⟨_,?d,?r⟩
   case d=>wtm_at "body"
   case r=>
    obtain⟨us,e1,_,hR⟩:=pv.rows
    obtain⟨bi,i1,_,i2⟩:=hR i (by omega)
    obtain⟨bp,p1,_,p2⟩:=hR p (by omega)
    have b:=pv.bd
    refine⟨_,rfl,_,rfl,.inl ⟨m,us,_,_,rfl,rfl,SqL.of e1,atI_nat i1,_,rfl,.inl ⟨bi,_,_,_,rfl,rfl,SqL.of i2,rowOf_last,?_⟩⟩⟩
    refine⟨_,rfl,_,rfl,.inl ⟨m,us,_,_,rfl,rfl,SqL.of e1,atI_nat p1,_,rfl,.inl ⟨bp,_,_,_,rfl,rfl,SqL.of p2,rowOf_ix (by omega),?_⟩⟩⟩
    refine⟨_,_,rfl,rfl,Bd.mulI (b i (L + n) (by omega) (by omega)) (b p c (by omega) (by omega)),?_⟩
    refine⟨_,rfl,_,rfl,.inl ⟨m,us,_,_,rfl,rfl,SqL.of e1,atI_nat p1,_,rfl,.inl ⟨bp,_,_,_,rfl,rfl,SqL.of p2,rowOf_last,?_⟩⟩⟩
    refine⟨_,rfl,_,rfl,.inl ⟨m,us,_,_,rfl,rfl,SqL.of e1,atI_nat i1,_,rfl,.inl ⟨bi,_,_,_,rfl,rfl,SqL.of i2,rowOf_ix (by omega),?_⟩⟩⟩
    refine⟨_,_,rfl,rfl,Bd.mulI (b p (L + n) (by omega) (by omega)) (b i c (by omega) (by omega)),?_⟩
    refine⟨_,rfl,_,rfl,_,_,rfl,rfl,_,rfl,?_⟩
    by_cases lt:T n a (sOf n L U) i (L + n) * T n a (sOf n L U) p c < T n a (sOf n L U) p (L + n) * T n a (sOf n L U) i c
    · rw [decide_eq_true (show before n L a (sOf n L U) c i p from .inl lt)] at h
      exact iteT' (decide_eq_true lt) h
    refine iteF' (decide_eq_false lt) ?_
    refine⟨_,rfl,_,rfl,rfl,_,rfl,?_⟩
    by_cases eq:T n a (sOf n L U) i (L + n) * T n a (sOf n L U) p c = T n a (sOf n L U) p (L + n) * T n a (sOf n L U) i c
    · refine iteT' (by rw [dec_int];simpa using eq) ?_
      refine⟨_,rfl,_,rfl,.inl ⟨u,_,_,_,rfl,rfl,SqL.of ua.lst,ua.ix (L:=L) hi,?_⟩⟩
      refine⟨_,rfl,_,rfl,.inl ⟨u,_,_,_,rfl,rfl,SqL.of ua.lst,ua.ix (L:=L) hp,?_⟩⟩
      refine⟨_,_,rfl,rfl,?_⟩
      have e:decide ((sOf n L U i:Int) < (sOf n L U p:Int)) = decide (before n L a (sOf n L U) c i p):=by
       rw [Bool.eq_iff_iff]
       simp only [decide_eq_true_eq]
       constructor
       · intro z;exact .inr ⟨eq,by omega⟩
       · rintro (z | ⟨_,z⟩)
         · exact absurd z lt
         · omega
      rw [<- e] at h;exact h
    · refine iteF' (by rw [dec_int];simpa using eq) ?_
      rw [decide_eq_false (show ¬ before n L a (sOf n L U) c i p from fun z=>by rcases z with z | ⟨z,_⟩;exact lt z;exact eq z)] at h
      exact h
end
section
local macro_rules | `(tactic| wtm_at "cop")=>`(tactic| apply c_isN)
variable {P:Program}{w:World}{K:PySem.W.Frag}{mg:Str->Option Value}{base:Heap}
abbrev sLeave:Stmt:=top 25
theorem scLeave:FnScope ["rows","used","column","first","row"] ["rows","used","column"] (defScope sLeave):=⟨rfl,rfl,rfl,by decide +kernel,rfl,by decide +kernel,by decide +kernel⟩
def spLeave:Sp:=fun vs H Q _=>∃ (m u:Addr) (n L:Nat) (a:Nat->Vec) (U:List Nat) (c:Nat),vs = [.ref m,.ref u,.int (c:Int)]/\PivAt H m n L a (sOf n L U)/\UsedAt H u n L U/\c < L + n/\(∃ r,r < n/\0 < T n a (sOf n L U) r c)/\
 ∀ r,isRow n L a (sOf n L U) c r->Q (.int (r:Int)) H
theorem ok_leave {f:Addr}{fd:FuncData} (F:Fun K "row_to_leave" "row_to_leave" sLeave f fd) (cA:Callee CX0 P w K mg base "is_used_up_first" 1 ["rows","used","column","one","other"] spAhead) (mR:mg "range" = none) (mL:mg "len" = none):FnOk P w K mg base CX0 2 f fd ["rows","used","column"] spLeave:=by
 refine Br.Fun.j F scLeave (fun vs H Q E h=>?_) (fun cdv A outer s H vs Q E hr h=>?_)
 · obtain⟨_,_,_,_,_,_,_,rfl,_⟩:=h;rfl
 · obtain⟨m,u,n,L,a,U,c,rfl,pv,ua,hc,hex,h⟩:=h
   have nd:=scLeave.nd
   refine' ⟨_,?d,?r⟩
   case d=>wtm_at "body"
   case r=>
    obtain⟨us,e1,_,hR⟩:=pv.rows
    have hul:U.length = n:=ua.len
    have hn16:=pv.n16
    refine⟨_,rfl,.inl ⟨u,_,rfl,.inl (SqL.of ua.lst),?_⟩⟩
    rw [List.length_map,hul]
    refine⟨_,rfl,by omega,by omega,?_⟩
    refine for_range (fun i σ G=>G = H/\∃ (o:Option Nat) (x:Option V),Lead n L a (sOf n L U) c i o/\σ = [some (.ref m),some (.ref u),some (.int (c:Int)),some (match o with | none=>.non | some f=>.int (f:Int)),x])
     ⟨rfl,none,none,Lead.zero,rfl⟩ ?_ ?_
    · rintro i σ G hi ⟨rfl,o,x,ld,rfl⟩
      have hi:i < n:=hi
      obtain⟨bi,i1,_,i2⟩:=hR i (by omega)
      have key:(0:Int) + (i:Int) = (i:Int):=Int.zero_add _
      rw [key]
      refine⟨_,?_,fun _ _ h=>h⟩
      refine⟨_,rfl,_,rfl,.inl ⟨m,us,_,_,rfl,rfl,SqL.of e1,atI_nat i1,_,rfl,.inl ⟨bi,_,_,_,rfl,rfl,SqL.of i2,rowOf_ix (by omega),?_⟩⟩⟩
      refine⟨_,_,rfl,rfl,_,rfl,?_⟩
      by_cases hp:0 < T n a (sOf n L U) i c
      · refine iteT' (decide_eq_true hp) ?_
        cases o with
        | none=>
         refine⟨_,rfl,rfl,_,rfl,?_⟩
         refine iteT' (by decide) ?_
         exact⟨_,rfl,rfl,some i,_,ld.new hp,rfl⟩
        | some f=>
         refine⟨_,rfl,rfl,_,rfl,?_⟩
         refine iteF' (decide_eq_false (by simp)) ?_
         refine⟨_,rfl,_,rfl,_,rfl,_,rfl,_,rfl,m,u,n,L,a,U,c,i,f,rfl,pv,ua,hc,hi,by have:=ld.1;omega,?_⟩
         refine⟨_,rfl,?_⟩
         by_cases bf:before n L a (sOf n L U) c i f
         · refine iteT' (decide_eq_true bf) ?_
           exact⟨_,rfl,rfl,some i,_,ld.turn hp bf,rfl⟩
         · refine iteF' (decide_eq_false bf) ?_
           exact⟨rfl,some f,_,ld.keep bf,rfl⟩
      · refine iteF' (decide_eq_false hp) ?_
        exact⟨rfl,o,_,ld.no hp,rfl⟩
    · rintro σ G ⟨rfl,o,x,ld,rfl⟩
      have ld:Lead n L a (sOf n L U) c n o:=ld
      cases o with
      | none=>obtain⟨r,h1,h2⟩:=hex;exact absurd h2 (ld r h1)
      | some f=>exact⟨_,rfl,h f ld⟩
end
section
local macro_rules | `(tactic| wtm_at "op")=>`(tactic| first | apply o_sub | apply o_mulI | apply o_fdivX)
local macro_rules | `(tactic| wtm_at "pi")=>`(tactic| first | (apply EG.k_enum;(wtm_at "K");(with_reducible rfl);(rfl);(assumption);(rfl);(wtm_at "pa")) | (apply ZG.k_zip;(wtm_at "K");(with_reducible rfl);(rfl);(assumption);(rfl);(rfl);(wtm_at "pa")))
variable {P:Program}{w:World}{K:PySem.W.Frag}{mg:Str->Option Value}{base:Heap}
abbrev sPiv:Stmt:=top 26
theorem scPiv:FnScope ["rows","bottom","row","column","chosen","pivot","told","place","old","factor"] ["rows","bottom","row","column"] (defScope sPiv):=⟨rfl,rfl,rfl,by decide +kernel,rfl,by decide +kernel,by decide +kernel⟩
def spPiv:Sp:=fun vs H Q _=>∃ (m:Addr) (n L:Nat) (a:Nat->Vec) (S:Nat->Nat) (r c:Nat),vs = [.ref m,.int (D n a S),.int (r:Int),.int (c:Int)]/\PivAt H m n L a S/\Bs n L a S/\Bd 1000 (D n a S)/\c < L + n/\r < n/\
 (∀ i j,i < n + 1->j < L + n + 1->Bd 1000 (T n a (use S r c) i j))/\∀ (m':Addr) (H':Hp),H m' = none->L2.Same H H'->PivAt H' m' n L a (use S r c)->Q (.ref m') H'
theorem ok_piv {f:Addr}{fd:FuncData} (F:Fun K "pivoted" "pivoted" sPiv f fd) (mE:mg "enumerate" = none) (mZ:mg "zip" = none):FnOk P w K mg base CX0 1 f fd ["rows","bottom","row","column"] spPiv:=by
 refine Br.Fun.j F scPiv (fun vs H Q E h=>?_) (fun cdv A outer s H vs Q E hr h=>?_)
 · obtain⟨_,_,_,_,_,_,_,rfl,_⟩:=h;rfl
 · obtain⟨m,n,L,a,S,r,c,rfl,pv,bs,hD,hc,hrn,bd',h⟩:=h
   have nd:=scPiv.nd
   refine' ⟨_,?d,?r⟩
   case d=>wtm_at "body"
   case r=>
    obtain⟨us,e1,hul,hR⟩:=pv.rows
    obtain⟨br,r1,_,r2⟩:=hR r (by omega)
    have b:=pv.bd
    have n16:=pv.n16
    have L300:=pv.L300
    have hd:=bs.pos
    have hsz:(sizeLine:Nat) = 16777216:=sizeLine_eq
    refine⟨_,rfl,_,rfl,.inl ⟨m,us,_,_,rfl,rfl,SqL.of e1,atI_nat r1,?_⟩⟩
    refine⟨_,rfl,_,rfl,.inl ⟨br,_,_,_,rfl,rfl,SqL.of r2,rowOf_ix (by omega),?_⟩⟩
    refine⟨by simp,fun tl H1 nt s1 et=>?_⟩
    refine⟨_,rfl,false,m,us,rfl,SqL.of (s1 _ _ e1),?_⟩
    refine EG.for_enum (f:=false) (K:=K) (a:=m) (xs:=us) (fun i σ G=>L2.Same H G/\(∃ vs,G tl = some (.lst vs)/\Lists tl G vs ((matOf n L a (use S r c)).take i))/\
     ∃ x7 x8 x9:Option V,σ = [some (.ref m),some (.int (D n a S)),some (.int (r:Int)),some (.int (c:Int)),some (.ref br),some (.int (T n a S r c)),some (.ref tl),x7,x8,x9])
     ⟨s1,⟨_,et,Lists.nil⟩,none,none,none,rfl⟩ (fun i σ G _ ⟨sG,_⟩=>SqL.of (sG _ _ e1)) ?_ ?_
    · rintro i x σ G Tt hx ⟨sG,⟨vs,eG,LG⟩,x7,x8,x9,rfl⟩ nT
      have hi:i < n + 1:=by have:=(List.getElem?_eq_some_iff.mp hx).1;omega
      obtain⟨bi,i1,_,i2⟩:=hR i hi
      rw [i1] at hx;cases hx
      have sT:L2.Same G (upd G Tt (.tup [.int (i:Int),.ref bi])):=Br.Same.upd nT
      generalize hG1:upd G Tt (.tup [.int (i:Int),.ref bi]) = G1 at sT
      have eT:G1 Tt = some (.tup [.int (i:Int),.ref bi]):=by rw [<- hG1];exact upd_same
      have sG1:=sG.trans sT
      have hvl:vs.length<=n + 1:=by rw [LG.1,List.length_take,mat_len];omega
      have hbt:bi≠tl:=fun z=>by rw [z] at i2;rw [nt] at i2;cases i2
      refine⟨Tt,_,rfl,SqT.of eT,rfl,_,_,rfl,_,_,rfl,rfl,?_⟩
      refine⟨_,?_,fun _ _ h=>h⟩
      refine⟨_,rfl,_,rfl,rfl,_,rfl,?_⟩
      rw [dec_int]
      have nxt:∀ (G2:Hp) (ad:Addr),L2.Same G1 G2->G2 ad = some (.lst ((rowOf n L a (use S r c) i).map V.int))->ad≠tl->Lists tl (upd G2 tl (.lst (vs ++ [.ref ad]))) (vs ++ [.ref ad]) ((matOf n L a (use S r c)).take (i + 1)):=fun G2 ad s2 e2 ne=>by
       rw [List.take_add_one,mat_row hi]
       exact ((LG.same (sT.trans s2)).app (Lists.one ne e2)).but fun b o hb e=>by rw [upd_ne hb];exact e
      have kp:∀ (G2:Hp) (o:HO),L2.Same G1 G2->L2.Same H (upd G2 tl o):=fun G2 o s2 b u e=>by rw [upd_ne (ne_of_none e nt)];exact (sG1.trans s2) _ _ e
      by_cases e:i = r
      · subst e
        refine iteT' (by simp) ?_
        refine⟨_,rfl,.inl ⟨rfl,_,SqL.of (sT _ _ eG)⟩,_,rfl,tl,vs,_,rfl,rfl,sT _ _ eG,by omega,?_⟩
        refine⟨kp G1 _ (L2.Same.refl _),⟨_,upd_same,nxt G1 bi (L2.Same.refl _) ?_ hbt⟩,_,_,_,rfl⟩
        have:rowOf n L a (use S i c) i = rowOf n L a S i:=List.map_congr_left fun j _=>T_use_r
        rw [this];exact sG1 _ _ i2
      · refine iteF' (by simp;omega) ?_
        refine⟨_,rfl,_,rfl,.inl ⟨bi,_,_,_,rfl,rfl,SqL.of (sG1 _ _ i2),rowOf_ix (by omega),?_⟩⟩
        refine⟨_,rfl,.inl ⟨rfl,_,SqL.of (sT _ _ eG)⟩,?_⟩
        have o1:=sG1 _ _ i2
        have o2:=sG1 _ _ r2
        refine⟨_,rfl,_,rfl,false,false,bi,br,_,_,rfl,SqL.of o1,SqL.of o2,?_⟩
        refine ZG.cmp_zip (f1:=false) (f2:=false) (K:=K) (a:=bi) (b:=br) (xs:=(rowOf n L a S i).map V.int) (ys:=(rowOf n L a S r).map V.int) (n:=L + n + 1) (by rw [List.length_map,rowOf_len];omega) (by rw [List.length_map,rowOf_len]) (by omega)
         (fun k zs σ G2=>L2.Same G1 G2/\zs = ((rowOf n L a (use S r c) i).take k).map V.int/\∃ x y:Option V,σ = [x,y,some (.ref m),some (.int (D n a S)),some (.int (r:Int)),some (.int (c:Int)),some (.ref br),some (.int (T n a S r c)),some (.ref tl),some (.int (i:Int)),some (.ref bi),some (.int (T n a S i c))])
         ⟨L2.Same.refl _,rfl,none,none,rfl⟩ (fun k zs σ G2 _ ⟨s2,e,_⟩=>⟨SqL.of (s2 _ _ o1),SqL.of (s2 _ _ o2),by rw [e,List.length_map,List.length_take];omega⟩) ?_ ?_
        · rintro k x y zs σ G2 T2 N hx hy ⟨s2,rfl,x0,y0,rfl⟩ nT2 hN
          have hk:k < L + n + 1:=by have:=(List.getElem?_eq_some_iff.mp hx).1;rw [List.length_map,rowOf_len] at this;exact this
          rw [List.getElem?_map,rowOf_at hk] at hx hy
          cases hx
          cases hy
          have sT2:L2.Same G2 (upd G2 T2 (.tup [.int (T n a S i k),.int (T n a S r k)])):=Br.Same.upd nT2
          generalize hG3:upd G2 T2 (.tup [.int (T n a S i k),.int (T n a S r k)]) = G3 at sT2
          have eT2:G3 T2 = some (.tup [.int (T n a S i k),.int (T n a S r k)]):=by rw [<- hG3];exact upd_same
          refine⟨T2,_,rfl,SqT.of eT2,rfl,_,_,rfl,_,_,rfl,rfl,?_⟩
          refine⟨_,rfl,_,rfl,_,_,rfl,rfl,Bd.mulI (b i k hi hk) (b r c (by omega) (by omega)),?_⟩
          refine⟨_,rfl,_,rfl,_,_,rfl,rfl,Bd.mulI (b i c hi (by omega)) (b r k (by omega) hk),?_⟩
          refine⟨_,_,rfl,rfl,_,rfl,_,_,rfl,rfl,⟨by omega,hD.mono (by decide)⟩,hN _ _ _ ⟨s2.trans sT2,?_,_,_,rfl⟩⟩
          rw [List.take_add_one,rowOf_at hk,List.map_append]
          show _ = _ ++ [V.int (T n a (use S r c) i k)]
          rw [<- piv_exact bs (by omega) hi e]
        · rintro zs σ G2 ⟨s2,rfl,x0,y0,rfl⟩ pl G3 npl s3 e3
          have e3':G3 pl = some (.lst ((rowOf n L a (use S r c) i).map V.int)):=by
           rw [e3,show (rowOf n L a (use S r c) i).take (L + n + 1) = rowOf n L a (use S r c) i from List.take_of_length_le (by rw [rowOf_len];omega)]
          have s23:=s2.trans s3
          have hpl:pl≠tl:=fun z=>by rw [z] at npl;have:=(sT.trans s2) _ _ eG;rw [npl] at this;cases this
          refine⟨tl,vs,_,rfl,rfl,(sT.trans s23) _ _ eG,by omega,?_⟩
          exact⟨kp G3 _ s23,⟨_,upd_same,nxt G3 pl s23 e3' hpl⟩,_,_,_,rfl⟩
    · rintro σ G ⟨sG,⟨vs,eG,LG⟩,x7,x8,x9,rfl⟩
      rw [hul,<- mat_len (n:=n) (L:=L) (a:=a) (S:=use S r c),List.take_length] at LG
      exact⟨_,rfl,h tl G nt sG ⟨⟨vs,eG,LG⟩,n16,L300,bd'⟩⟩
end
section
variable {H H':Hp}{m u:Addr}{n L:Nat}{a:Nat->Vec}{S:Nat->Nat}{U:List Nat}
theorem PivAt.upd (p:PivAt H m n L a S) (x:UsedAt H u n L U) {o:HO}:PivAt (upd H u o) m n L a S:=by
 have hu:∀ (b:Addr) (xs:List V),H b = some (.lst xs)->n < xs.length->b≠u:=fun b xs e hl z=>by
  rw [z,x.lst] at e
  cases e
  rw [List.length_map,x.len] at hl
  omega
 obtain⟨us,e,r⟩:=p.mat
 have hl:=r.1
 rw [mat_len] at hl
 refine⟨⟨us,by rw [upd_ne (hu _ _ e (by omega))];exact e,r.1,fun i v hv=>?_⟩,p.n16,p.L300,p.bd⟩
 obtain⟨b,zs,h1,h2,h3,h4⟩:=r.2 i v hv
 refine⟨b,zs,h1,h2,h3,?_⟩
 have hi:i < n + 1:=by have:=(List.getElem?_eq_some_iff.mp hv).1;omega
 rw [mat_row hi] at h1
 rw [upd_ne (hu _ _ h4 (by rw [<- Option.some.inj h1];simp;omega))]
 exact h4
theorem piv_bd {qs:List (Int×Int)}{rs:List (List Int)} (t:TaskOk qs rs) (hr:∀ r∈rs,r.length<=60) (hq:∀ q∈qs,q.2<=10 ^ 13) (hn:qs.length<=16) (b:Bs qs.length rs.length (colOf qs rs) S):
 (∀ i j,i < qs.length + 1->j < rs.length + qs.length + 1->Bd 1000 (T qs.length (colOf qs rs) S i j))/\Bd 1000 (D qs.length (colOf qs rs) S):=by
 have cb:=fun j k=>col_bd (B:=10 ^ 13) (qs:=qs) (rs:=rs) (by decide) hr (fun q hq'=>by have:=hq q hq';have:=t.many q hq';omega) j k
 have big:((qs.length + 1) * 10 ^ 13) ^ (qs.length + 1) < 2 ^ 1000:=by
  refine Nat.lt_of_le_of_lt (Nat.le_trans (Nat.pow_le_pow_left (Nat.mul_le_mul_right _ (show qs.length + 1<=17 by omega)) _) (Nat.pow_le_pow_right (by decide) (show qs.length + 1<=17 by omega))) ?_
  decide +kernel
 exact⟨fun i j hi hj=>Nat.lt_of_le_of_lt (T_bd (fun j k _ _=>cb j k) b (by omega)) big,Nat.lt_of_le_of_lt (Spx.D_bd (fun j k _ _=>cb j k) b) big⟩
end
section
variable {P:Program}{w:World}{K:PySem.W.Frag}{mg:Str->Option Value}{base:Heap}
abbrev sBest:Stmt:=top 27
theorem scBest:FnScope ["kinds","lots","rows","bottom","used","column","row"] ["kinds","lots"] (defScope sBest):=⟨rfl,rfl,rfl,by decide +kernel,rfl,by decide +kernel,by decide +kernel⟩
structure Best (qs:List (Int×Int)) (rs:List (List Int)) (U:List Nat):Prop where
 us:Us qs.length rs.length (colOf qs rs) U
 top:∀ j,j < rs.length + qs.length + 1->0<=T qs.length (colOf qs rs) (sOf qs.length rs.length U) qs.length j
structure LotsOk (qs:List (Int×Int)) (rs:List (List Int)):Prop where
 t:TaskOk qs rs
 r60:∀ r∈rs,r.length<=60
 q13:∀ q∈qs,q.2<=10 ^ 13
 n16:qs.length<=16
 L300:rs.length<=300
def spBest (K:PySem.W.Frag):Sp:=fun vs H Q _=>∃ (kd l:Addr) (us ws:List V) (qs:List (Int×Int)) (rs:List (List Int)),vs = [.ref kd,.ref l]/\SqT K H kd us/\Kinds H us qs/\H l = some (.lst ws)/\Rows H ws rs/\LotsOk qs rs/\
 ∀ (U:List Nat) (p m u:Addr) (H':Hp),Best qs rs U->H p = none->L2.Same H H'->H' p = some (.tup [.ref m,.int (D qs.length (colOf qs rs) (sOf qs.length rs.length U)),.ref u])->
  PivAt H' m qs.length rs.length (colOf qs rs) (sOf qs.length rs.length U)->UsedAt H' u qs.length rs.length U->Q (.ref p) H'
theorem ok_best {f:Addr}{fd:FuncData} (F:Fun K "best_rows" "best_rows" sBest f fd) (cF:Callee CX0 P w K mg base "first_rows" 1 ["kinds","lots"] (spFirst K)) (cC:Callee CX0 P w K mg base "column_to_use" 1 ["rows"] spCol)
 (cL:Callee CX0 P w K mg base "row_to_leave" 2 ["rows","used","column"] spLeave) (cP:Callee CX0 P w K mg base "pivoted" 1 ["rows","bottom","row","column"] spPiv) (mR:mg "range" = none) (mL:mg "len" = none):FnOk P w K mg base CX0 3 f fd ["kinds","lots"] (spBest K):=by
 refine Br.Fun.j F scBest (fun vs H Q E h=>?_) (fun cdv A outer s H vs Q E hr h=>?_)
 · obtain⟨_,_,_,_,_,_,rfl,_⟩:=h;rfl
 · obtain⟨kd,l,us,ws,qs,rs,rfl,hk,hq,hl,hr',ok,h⟩:=h
   have nd:=scBest.nd
   refine' ⟨_,?d,?r⟩
   case d=>wtm_at "body"
   case r=>
    have hsz:(sizeLine:Nat) = 16777216:=sizeLine_eq
    have hul:=hq.1
    have hwl:=hr'.1
    have n16:=ok.n16
    have L300:=ok.L300
    have tk:=ok.t.task
    have tokd:∀ {G:Hp},L2.Same H G->SqT K G kd us:=fun s=>seqT s hk
    refine⟨_,rfl,_,rfl,kd,l,us,ws,qs,rs,rfl,hk,hq,hl,hr',n16,L300,fun m0 H1 nm s1 mat=>?_⟩
    rw [rows_first ok.t] at mat
    have u0:=Us.first tk
    have bd0:=piv_bd ok.t ok.r60 ok.q13 n16 u0.b
    have pv0:PivAt H1 m0 qs.length rs.length (colOf qs rs) (sOf qs.length rs.length (U0 qs.length rs.length)):=⟨mat,n16,L300,bd0.1⟩
    refine⟨_,rfl,.inl ⟨kd,us,rfl,.inr (tokd s1),?_⟩⟩
    rw [hul]
    refine⟨_,rfl,by omega,by omega,?_⟩
    refine cmp_range (fun i ys σ G=>G = H1/\ys = ((U0 qs.length rs.length).take i).map (fun x:Nat=>V.int (x:Int))/\∃ x0 x1 x2 x3:Option V,σ = [x0,some (.ref kd),some (.ref l),some (.ref m0),some (.int 1),x1,x2,x3])
     ⟨rfl,rfl,none,none,none,none,rfl⟩ (by omega) (fun i ys σ G _ ⟨_,e,_⟩=>by rw [e,List.length_map,List.length_take];omega) ?_ ?_
    · rintro i ys σ G N hi ⟨rfl,rfl,x0,x1,x2,x3,rfl⟩ hN
      have hi:i < qs.length:=hi
      rw [show (0:Int) + (i:Int) = (i:Int) from Int.zero_add _]
      refine⟨_,rfl,.inl ⟨l,ws,rfl,.inl (SqL.of (s1 _ _ hl)),?_⟩⟩
      rw [hwl]
      refine⟨_,rfl,.inl ⟨_,_,rfl,rfl,hN _ _ _ ⟨rfl,?_,_,_,_,_,rfl⟩⟩⟩
      have:(U0 qs.length rs.length)[i]? = some (rs.length + i):=by unfold U0;rw [List.getElem?_map,List.getElem?_range hi];rfl
      rw [List.take_add_one,this,List.map_append]
      show _ ++ [V.int _] = _ ++ [V.int _]
      congr 3
    rintro ys σ G ⟨rfl,rfl,x0,x1,x2,x3,rfl⟩ u H2 nu s2 e2
    have e2':H2 u = some (.lst ((U0 qs.length rs.length).map fun x:Nat=>V.int (x:Int))):=by
     rw [e2,show (U0 qs.length rs.length).take (qs.length:Int).toNat = U0 qs.length rs.length from List.take_of_length_le (by rw [u0.len];exact Nat.le_refl _)]
    have ua0:UsedAt H2 u qs.length rs.length (U0 qs.length rs.length):=⟨e2',u0.len⟩
    refine⟨_,rfl,m0,qs.length,rs.length,colOf qs rs,_,rfl,pv0.same s2,fun cv H3 s3 hcv=>?_⟩
    have s13:=s1.trans (s2.trans s3)
    have nuH:H u = none:=by
     cases q:H u with
     | none=>rfl
     | some o=>have:=s1 _ _ q;rw [nu] at this;cases this
    obtain⟨k0,lim0⟩:=u0.ends tk
    refine⟨fun k σ G=>L2.Same H G/\∃ (U:List Nat) (m:Addr) (cv:V) (x6:Option V),Us qs.length rs.length (colOf qs rs) U/\Lim qs.length rs.length (colOf qs rs) k U/\PivAt G m qs.length rs.length (colOf qs rs) (sOf qs.length rs.length U)/\UsedAt G u qs.length rs.length U/\
     ColIs qs.length rs.length (colOf qs rs) (sOf qs.length rs.length U) cv/\σ = [some (.ref kd),some (.ref l),some (.ref m),some (.int (D qs.length (colOf qs rs) (sOf qs.length rs.length U))),some (.ref u),some cv,x6],
     ⟨k0,s13,U0 qs.length rs.length,m0,cv,none,u0,lim0,pv0.same (s2.trans s3),ua0.same s3,hcv,by rw [D0 tk];rfl⟩,?_⟩
    rintro k σ G ⟨sG,U,m,cv,x6,us',lim,pv,ua,hcv,rfl⟩
    refine⟨_,rfl,rfl,_,rfl,?_⟩
    rcases hcv with ⟨c,rfl,hc⟩ | ⟨rfl,top⟩
    · refine iteT' (by simp) ⟨_,fun _ _ hN=>hN,?_⟩
      have hcl:=hc.lt us'.b tk
      refine⟨_,rfl,_,rfl,_,rfl,m,u,qs.length,rs.length,colOf qs rs,U,c,rfl,pv,ua,hcl,us'.b.row tk hcl,fun r hr=>?_⟩
      have hrn:=hr.1
      have ux:Nx qs.length rs.length (colOf qs rs) U (U.set r c):=⟨c,r,hc,hr,rfl⟩
      have us2:=us'.next tk ux
      have eS:sOf qs.length rs.length (U.set r c) = use (sOf qs.length rs.length U) r c:=sOf_set hrn us'.len
      have bd2:=piv_bd ok.t ok.r60 ok.q13 n16 us2.b
      rw [eS] at bd2
      refine⟨_,rfl,_,rfl,_,rfl,_,rfl,m,qs.length,rs.length,colOf qs rs,_,r,c,rfl,pv,us'.b,(piv_bd ok.t ok.r60 ok.q13 n16 us'.b).2,hcl,hrn,bd2.1,fun m' G1 nm' s1' pv'=>?_⟩
      obtain⟨vs,e1,_,hR⟩:=(pv.same s1').rows
      obtain⟨br,r1,_,r2⟩:=hR r (by omega)
      refine⟨_,rfl,_,rfl,.inl ⟨m,vs,_,_,rfl,rfl,SqL.of e1,atI_nat r1,_,rfl,.inl ⟨br,_,_,_,rfl,rfl,SqL.of r2,rowOf_ix (by omega),?_⟩⟩⟩
      refine⟨_,_,rfl,?_⟩
      have ua1:=ua.same s1'
      refine⟨_,rfl,_,rfl,_,rfl,u,_,_,r,rfl,rfl,ua1.lst,by unfold ixN;rw [List.length_map,us'.len,if_pos (by omega),if_pos (by omega)];simp,?_⟩
      rw [<- eS] at pv'
      have pv2:=pv'.upd ua1 (o:=.lst ((U.map fun x:Nat=>V.int (x:Int)).set r (.int (c:Int))))
      have e2:upd G1 u (.lst ((U.map fun x:Nat=>V.int (x:Int)).set r (.int (c:Int)))) u = some (.lst ((U.set r c).map fun x:Nat=>V.int (x:Int))):=by rw [upd_same,List.map_set]
      have sG2:L2.Same H (upd G1 u (.lst ((U.map fun x:Nat=>V.int (x:Int)).set r (.int (c:Int))))):=fun b o e=>by rw [upd_ne (ne_of_none e nuH)];exact (sG.trans s1') _ _ e
      generalize upd G1 u (.lst ((U.map fun x:Nat=>V.int (x:Int)).set r (.int (c:Int)))) = G2 at pv2 e2 sG2 ⊢
      have ua2:UsedAt G2 u qs.length rs.length (U.set r c):=⟨e2,us2.len⟩
      refine⟨_,rfl,m',qs.length,rs.length,colOf qs rs,_,rfl,pv2,fun cv' H6 s6 hcv'=>?_⟩
      cases k with
      | zero=>exact lim.elim
      | succ k=>
       refine⟨k,Nat.lt_succ_self k,sG2.trans s6,U.set r c,m',cv',some (.int (r:Int)),us2,lim _ ux,pv2.same s6,ua2.same s6,hcv',?_⟩
       rw [eS,D_use]
       rfl
    · refine iteF' (by simp) ?_
      refine⟨_,rfl,_,rfl,_,rfl,by show 3<=sizeLine;decide,fun p H5 np s5 e5=>?_⟩
      have npH:H p = none:=by
       cases q:H p with
       | none=>rfl
       | some o=>have:=sG _ _ q;rw [np] at this;cases this
      exact h U p m u H5 ⟨us',top⟩ npH (sG.trans s5) e5 (pv.same s5) (ua.same s5)
end
def rq (t b:Int):Int×Int:=(rN t b,rD t b)
def rawAt (qs:List (Int×Int)) (rs:List (List Int)) (U:List Nat) (i:Nat):List LL:=
 if sOf qs.length rs.length U i < rs.length/\0 < T qs.length (colOf qs rs) (sOf qs.length rs.length U) i (rs.length + qs.length) then
  [((rs[sOf qs.length rs.length U i]?).getD [],[rN (T qs.length (colOf qs rs) (sOf qs.length rs.length U) i (rs.length + qs.length)) (D qs.length (colOf qs rs) (sOf qs.length rs.length U)),rD (T qs.length (colOf qs rs) (sOf qs.length rs.length U) i (rs.length + qs.length)) (D qs.length (colOf qs rs) (sOf qs.length rs.length U))])] else []
def rawS (qs:List (Int×Int)) (rs:List (List Int)) (U:List Nat) (k:Nat):List LL:=(List.range k).flatMap (rawAt qs rs U)
def prcS (qs:List (Int×Int)) (rs:List (List Int)) (U:List Nat):List (Int×Int):=(List.range qs.length).map fun k=>rq (T qs.length (colOf qs rs) (sOf qs.length rs.length U) qs.length (rs.length + k)) (D qs.length (colOf qs rs) (sOf qs.length rs.length U))
theorem cut_prices {n L:Nat}{a:Nat->Vec}{S:Nat->Nat}:cutV ((rowOf n L a S n).map V.int) (some (L:Int)) (some (-1)) = (List.range n).map fun k=>V.int (T n a S n (L + k)):=by
 unfold cutV
 have e1:HT.sIx ((rowOf n L a S n).map V.int).length 0 (some (L:Int)) = L:=by rw [HT.sIx_nat,List.length_map,rowOf_len];omega
 have e2:HT.sIx ((rowOf n L a S n).map V.int).length ((rowOf n L a S n).map V.int).length (some (-1)) = L + n:=by
  show (if (-1:Int) < 0 then ((-1:Int) + (((rowOf n L a S n).map V.int).length:Int)).toNat else min (-1:Int).toNat ((rowOf n L a S n).map V.int).length) = _
  rw [if_pos (by omega),List.length_map,rowOf_len];omega
 rw [e1,e2]
 refine List.ext_getElem? fun k=>?_
 rw [List.getElem?_take,List.getElem?_drop,List.getElem?_map,List.getElem?_map]
 by_cases h:k < n
 · rw [if_pos (by omega),rowOf_at (by omega),List.getElem?_range h];rfl
 · rw [if_neg (by omega),List.getElem?_eq_none (by simp;omega)];rfl
theorem rawS_succ {qs:List (Int×Int)}{rs:List (List Int)}{U:List Nat}{k:Nat}:rawS qs rs U (k + 1) = rawS qs rs U k ++ rawAt qs rs U k:=by
 unfold rawS;rw [List.range_succ,List.flatMap_append];simp
structure SharesAt (H:Hp) (p:Addr) (tot:Int×Int) (shs:List LL) (prs:List (Int×Int)):Prop where
 ex:∃ (tp sp pp:Addr) (as:List Addr) (ps:List V),H p = some (.tup [.ref tp,.ref sp,.ref pp])/\H tp = some (.tup [.int tot.1,.int tot.2])/\H sp = some (.tup (as.map V.ref))/\PqsAt H as shs/\H pp = some (.tup ps)/\Kinds H ps prs
structure IsBest (qs:List (Int×Int)) (rs:List (List Int)) (tot:Int×Int) (shs:List LL) (prs:List (Int×Int)):Prop where
 ex:∃ U,Best qs rs U/\tot = rq (T qs.length (colOf qs rs) (sOf qs.length rs.length U) qs.length (rs.length + qs.length)) (D qs.length (colOf qs rs) (sOf qs.length rs.length U))/\shs.Perm (rawS qs rs U qs.length)/\prs = prcS qs rs U
 ris:shs.Pairwise (fun u v=>qLt v u = false)
section
local macro_rules | `(tactic| wtm_at "ps")=>`(tactic| (apply s_unpack3C;(wtm_at "at");(wtm_at "at");(wtm_at "at");(rfl);(assumption);(first | exact .inl rfl | exact .inr rfl);(first | exact .inl rfl | exact .inr rfl);(first | exact .inl rfl | exact .inr rfl);(rfl);(rfl);(rfl);(rfl);(rfl);(rfl);(rfl);(rfl);(rfl);(rfl);(rfl);(wtm_at "pe")))
local macro_rules | `(tactic| wtm_at "pi")=>`(tactic| (apply ZG.k_zip;(wtm_at "K");(with_reducible rfl);(rfl);(assumption);(rfl);(rfl);(wtm_at "pa")))
local macro_rules | `(tactic| wtm_at "call")=>`(tactic| (apply k_sortedQ;(assumption);(rfl);(rfl);(rfl);(wtm_at "K");(with_reducible rfl);(assumption);(wtm_at "pa")))
variable {P:Program}{w:World}{K:PySem.W.Frag}{mg:Str->Option Value}{base:Heap}
abbrev sBs:Stmt:=top 35
theorem scBs:FnScope ["heap","lots","kinds","rows","bottom","used","shares","prices"] ["heap","lots"] (defScope sBs):=⟨rfl,rfl,rfl,by decide +kernel,rfl,by decide +kernel,by decide +kernel⟩
def spRo1:Sp:=fun vs H Q _=>∃ t b:Int,vs = [.int t,.int b]/\Bd 4000 b/\b≠0/\∀ (p:Addr) (H':Hp),H p = none->L2.Same H H'->H' p = some (.tup [.int (rN t b),.int (rD t b)])->Q (.ref p) H'
theorem ok_ro1 {f:Addr}{fd:FuncData}{C:Addr} (F:FnOk P w K mg base (CXF P w) 2 f fd ["top","bottom"] (spRo C)):FnOk P w K mg base CX0 2 f fd ["top","bottom"] spRo1:=by
 exact (FnOk.low F).imp fun vs H Q E h=>by
  obtain⟨t,b,e,h1,h2,h3⟩:=h
  exact⟨t,b,e,h1,fun z=>absurd z h2,fun _=>h3⟩
def spBs (K:PySem.W.Frag):Sp:=fun vs H Q _=>∃ (h l:Addr) (need:Int) (ws:List V) (qs:List (Int×Int)) (rs:List (List Int)),vs = [.ref h,.ref l]/\HeapAt H h need qs/\H l = some (.lst ws)/\Rows H ws rs/\LotsOk qs rs/\
 ∀ (p:Addr) (tot:Int×Int) (shs:List LL) (prs:List (Int×Int)) (H':Hp),H p = none->L2.Same H H'->IsBest qs rs tot shs prs->SharesAt H' p tot shs prs->Q (.ref p) H'
theorem ok_bs {f:Addr}{fd:FuncData} (F:Fun K "best_shares" "best_shares" sBs f fd) (cB:Callee CX0 P w K mg base "best_rows" 3 ["kinds","lots"] (spBest K)) (cR:Callee CX0 P w K mg base "ratio_of" 2 ["top","bottom"] spRo1)
 (mZ:mg "zip" = none) (mL:mg "len" = none) (mS:mg "sorted" = none) (mT:mg "tuple" = none):FnOk P w K mg base CX0 4 f fd ["heap","lots"] (spBs K):=by
 refine Br.Fun.j F scBs (fun vs H Q E h=>?_) (fun cdv A outer s H vs Q E hr h=>?_)
 · obtain⟨_,_,_,_,_,_,rfl,_⟩:=h;rfl
 · obtain⟨hp,l,need,ws,qs,rs,rfl,hh,hl,hR,ok,h⟩:=h
   have nd:=scBs.nd
   refine' ⟨_,?d,?r⟩
   case d=>wtm_at "body"
   case r=>
    have hsz:(sizeLine:Nat) = 16777216:=sizeLine_eq
    obtain⟨t,ob,us,h1,hb,h2,h3,h4⟩:=id hh
    have tok:SqT K H t us:=.inl (.inr ⟨_,h2⟩)
    have n16:=ok.n16
    have L300:=ok.L300
    have tk:=ok.t.task
    have hwl:=hR.1
    refine⟨_,rfl,.inr (.inl ⟨hp,_,_,_,rfl,rfl,SqT.of h1,at1,?_⟩)⟩
    refine⟨_,rfl,_,rfl,t,l,us,ws,qs,rs,rfl,tok,h3,hl,hR,ok,fun U p m u H1 best np s1 ep pv ua=>?_⟩
    refine⟨p,_,rfl,SqT.of ep,rfl,_,_,rfl,_,_,rfl,_,_,rfl,rfl,?_⟩
    have bs:=best.us.b
    have hd:=bs.pos
    have bd:=piv_bd ok.t ok.r60 ok.q13 n16 bs
    obtain⟨vs,e1,hvl,hRw⟩:=pv.rows
    have ul:=ua.len
    refine⟨_,rfl,_,rfl,false,false,m,u,_,_,rfl,SqL.of e1,SqL.of ua.lst,?_⟩
    refine ZG.cmp_zip (f1:=false) (f2:=false) (K:=K) (a:=m) (b:=u) (xs:=vs) (ys:=U.map fun x:Nat=>V.int (x:Int)) (n:=qs.length) (by omega) (by rw [List.length_map,ul]) (by omega)
     (fun k zs σ G=>L2.Same H1 G/\(∃ as:List Addr,zs = as.map V.ref/\PqsAt G as (rawS qs rs U k))/\(rawS qs rs U k).length<=k/\∃ x y x6 x7:Option V,σ = [x,y,some (.ref hp),some (.ref l),some (.ref t),some (.ref m),some (.int (D qs.length (colOf qs rs) (sOf qs.length rs.length U))),some (.ref u),x6,x7])
     ⟨L2.Same.refl _,⟨[],rfl,rfl,fun i a h=>by cases h⟩,Nat.le_refl _,none,none,none,none,rfl⟩ (fun k zs σ G _ ⟨s2,⟨as,e,pq⟩,hle,_⟩=>⟨SqL.of (s2 _ _ e1),SqL.of (s2 _ _ ua.lst),by rw [e,List.length_map,pq.1];exact hle⟩) ?_ ?_
    · rintro k x y zs σ G Tt N hx hy ⟨s2,⟨as,rfl,pq⟩,hle,x0,y0,x6,x7,rfl⟩ nT hN
      have hk:k < qs.length:=by have:=(List.getElem?_eq_some_iff.mp hy).1;rw [List.length_map,ul] at this;exact this
      obtain⟨b,hb1,_,hb2⟩:=hRw k (by omega)
      rw [hb1] at hx;cases hx
      rw [List.getElem?_map,sOf_at (L:=rs.length) hk ul] at hy
      cases hy
      have sT:L2.Same G (upd G Tt (.tup [.ref b,.int (sOf qs.length rs.length U k:Int)])):=Br.Same.upd nT
      generalize hG1:upd G Tt (.tup [.ref b,.int (sOf qs.length rs.length U k:Int)]) = G1 at sT
      have eT:G1 Tt = some (.tup [.ref b,.int (sOf qs.length rs.length U k:Int)]):=by rw [<- hG1];exact upd_same
      have s2T:=s2.trans sT
      have sH:=s1.trans s2T
      have stop:¬ (sOf qs.length rs.length U k < rs.length/\0 < T qs.length (colOf qs rs) (sOf qs.length rs.length U) k (rs.length + qs.length))->(∃ as':List Addr,as.map V.ref = as'.map V.ref/\PqsAt G1 as' (rawS qs rs U (k + 1)))/\(rawS qs rs U (k + 1)).length<=k + 1:=fun z=>by
       have:rawAt qs rs U k = []:=by unfold rawAt;rw [if_neg z]
       rw [rawS_succ,this,List.append_nil]
       exact⟨⟨as,rfl,pq.same sT⟩,by omega⟩
      refine⟨Tt,_,rfl,SqT.of eT,rfl,_,_,rfl,_,_,rfl,rfl,?_⟩
      refine⟨_,rfl,_,rfl,.inl ⟨l,ws,rfl,.inl (SqL.of (sH _ _ hl)),?_⟩⟩
      rw [hwl]
      refine⟨_,_,rfl,rfl,_,rfl,?_⟩
      by_cases c1:sOf qs.length rs.length U k < rs.length
      · refine iteT' (decide_eq_true (by omega)) ?_
        refine⟨_,rfl,_,rfl,.inl ⟨b,_,_,_,rfl,rfl,SqL.of (s2T _ _ hb2),rowOf_last,?_⟩⟩
        refine⟨_,_,rfl,rfl,_,rfl,?_⟩
        by_cases c2:0 < T qs.length (colOf qs rs) (sOf qs.length rs.length U) k (rs.length + qs.length)
        · rw [decide_eq_true c2]
          refine iteT ?_
          obtain⟨a,zs,hz,ew,ha⟩:=hR.2 (sOf qs.length rs.length U k) _ (List.getElem?_eq_getElem (by omega))
          refine⟨_,rfl,_,rfl,.inl ⟨l,ws,_,_,rfl,rfl,SqL.of (sH _ _ hl),atI_nat (by rw [List.getElem?_eq_getElem (by omega),ew]),?_⟩⟩
          refine⟨_,rfl,_,rfl,.inl ⟨b,_,_,_,rfl,rfl,SqL.of (s2T _ _ hb2),rowOf_last,?_⟩⟩
          refine⟨_,rfl,_,_,rfl,bd.2.mono (by decide),by omega,fun rp G3 nr s3 er=>?_⟩
          refine⟨by show 2<=sizeLine;decide,fun p3 G4 n4 s4 e4=>hN _ _ _ ⟨s2T.trans (s3.trans s4),?_,?_,_,_,_,_,rfl⟩⟩
          · have e5:rawAt qs rs U k = [(zs,[rN (T qs.length (colOf qs rs) (sOf qs.length rs.length U) k (rs.length + qs.length)) (D qs.length (colOf qs rs) (sOf qs.length rs.length U)),rD (T qs.length (colOf qs rs) (sOf qs.length rs.length U) k (rs.length + qs.length)) (D qs.length (colOf qs rs) (sOf qs.length rs.length U))])]:=by
             unfold rawAt
             rw [if_pos ⟨c1,c2⟩,hz];rfl
            refine⟨as ++ [p3],by rw [List.map_append];rfl,?_⟩
            rw [rawS_succ,e5]
            exact (pq.same (sT.trans (s3.trans s4))).snoc e4 (s4 _ _ (s3 _ _ (sH _ _ ha))) (s4 _ _ er)
          · rw [rawS_succ,List.length_append]
            have:(rawAt qs rs U k).length<=1:=by unfold rawAt;split <;> simp
            omega
        · rw [decide_eq_false c2]
          refine iteF ?_
          obtain⟨z1,z2⟩:=stop fun z=>c2 z.2
          exact hN _ _ _ ⟨s2T,z1,z2,_,_,_,_,rfl⟩
      · refine iteF' (decide_eq_false (by omega)) ?_
        refine iteF ?_
        obtain⟨z1,z2⟩:=stop fun z=>c1 z.1
        exact hN _ _ _ ⟨s2T,z1,z2,_,_,_,_,rfl⟩
    · rintro zs σ G ⟨s2,⟨as,rfl,pq⟩,hle,x0,y0,x6,x7,rfl⟩ sl G2 nsl s3 e3
      have s23:=s2.trans s3
      obtain⟨vs',bl,f1,f2,f3⟩:=(pv.same s23).last
      refine⟨_,rfl,_,rfl,.inl ⟨m,vs',_,_,rfl,rfl,SqL.of f1,f2,?_⟩⟩
      refine⟨_,rfl,.inl ⟨l,ws,rfl,.inl (SqL.of (s23 _ _ (s1 _ _ hl))),?_⟩⟩
      refine⟨_,rfl,_,rfl,_,rfl,bl,_,rfl,.inl ⟨SqL.of f3,fun cl G3 ncl s4 ecl=>?_⟩⟩
      rw [hwl,cut_prices] at ecl
      refine⟨cl,rfl,.inl ⟨⟨_,SqL.of ecl⟩,?_⟩⟩
      refine cmp_list (K:=K) (a:=cl) (xs:=(List.range qs.length).map fun k=>V.int (T qs.length (colOf qs rs) (sOf qs.length rs.length U) qs.length (rs.length + k))) (fun j ys σ G'=>L2.Same G3 G'/\Kinds G' ys ((prcS qs rs U).take j)/\
       ∃ x x7:Option V,σ = [x,some (.ref hp),some (.ref l),some (.ref t),some (.ref m),some (.int (D qs.length (colOf qs rs) (sOf qs.length rs.length U))),some (.ref u),some (.ref sl),x7])
       ⟨L2.Same.refl _,Kinds.nil,none,none,rfl⟩ (by simp;omega) (fun j ys σ G' _ ⟨e,r,_⟩=>⟨SqL.of (e _ _ ecl),by rw [r.1,List.length_take];exact Nat.min_le_left _ _⟩) ?_ ?_
      · rintro j x ys σ G' N hx ⟨s5,kd,x0,x7',rfl⟩ hN
        have hj:j < qs.length:=by have:=(List.getElem?_eq_some_iff.mp hx).1;simpa using this
        rw [List.getElem?_map,List.getElem?_range hj] at hx
        cases hx
        refine⟨_,rfl,_,rfl,_,_,rfl,bd.2.mono (by decide),by omega,fun rp G4 nr s6 er=>hN _ _ _ ⟨s5.trans s6,?_,_,_,rfl⟩⟩
        have e7:(prcS qs rs U)[j]? = some (rq (T qs.length (colOf qs rs) (sOf qs.length rs.length U) qs.length (rs.length + j)) (D qs.length (colOf qs rs) (sOf qs.length rs.length U))):=by
         unfold prcS;rw [List.getElem?_map,List.getElem?_range hj];rfl
        rw [List.take_add_one,e7]
        exact (kd.same s6).snoc er
      rintro ys σ G' ⟨s5,kd,x0,x7',rfl⟩ pl G4 npl s6 epl
      rw [List.length_map,List.length_range,List.take_of_length_le (by unfold prcS;simp)] at kd
      have s36:=s4.trans (s5.trans s6)
      obtain⟨vs2,bl2,g1,g2,g3⟩:=(pv.same (s23.trans s36)).last
      have s46:=s23.trans s36
      refine⟨_,rfl,_,rfl,.inl ⟨m,vs2,_,_,rfl,rfl,SqL.of g1,g2,_,rfl,.inl ⟨bl2,_,_,_,rfl,rfl,SqL.of g3,rowOf_last,?_⟩⟩⟩
      refine⟨_,rfl,_,_,rfl,bd.2.mono (by decide),by omega,fun tp G5 nt s7 et=>?_⟩
      have e3':G2 sl = some (.lst (as.map V.ref)):=e3
      have s57:=s36.trans s7
      refine⟨_,rfl,sl,as,_,rfl,.inl (SqL.of (s57 _ _ e3')),(pq.same s3).same s57,by rw [pq.1];omega,fun ol bs' shs G6 no s8 eo pq' pm pw=>?_⟩
      refine⟨ol,_,rfl,SqL.of eo,fun o2 G7 n7 s9 e9=>?_⟩
      refine⟨_,rfl,pl,ys,rfl,SqL.of (s9 _ _ (s8 _ _ (s7 _ _ epl))),fun o3 G8 n8 s10 e10=>?_⟩
      refine⟨by show 3<=sizeLine;decide,fun fp G9 n9 s11 e11=>?_⟩
      have sz:=s8.trans (s9.trans (s10.trans s11))
      have sall:L2.Same H G8:=s1.trans (s46.trans (s7.trans (s8.trans (s9.trans s10))))
      have nfp:H fp = none:=by
       cases q:H fp with
       | none=>rfl
       | some o=>have:=sall _ _ q;rw [n9] at this;cases this
      refine h fp _ shs _ G9 nfp (sall.trans s11) ⟨⟨U,best,rfl,pm,rfl⟩,pw⟩ ⟨tp,o2,o3,bs',ys,e11,sz _ _ et,s11 _ _ (s10 _ _ e9),pq'.same (s9.trans (s10.trans s11)),s11 _ _ e10,kd.same (s6.trans (s7.trans sz))⟩
end
theorem tot_totK (qs:List (Int×Int)):tot qs = totK qs.reverse:=by
 have:totK qs.reverse = tot qs.reverse:=rfl
 rw [this,tot_rev]
theorem leans_of {need:Int}{qs:List (Int×Int)}{rs:List (List Int)} (e:leansQ need qs = some rs) (ok:HOk8 need qs):(∀ r,r∈rs↔Part qs r/\LeanR need r)/\(∀ r∈rs,r.length<=60)/\rs.length<=300:=by
 unfold leansQ at e
 rw [tot_totK] at e
 exact leans_all e (by have:=ok.n0;omega) (fun q hq=>⟨(ok.bd q hq).1,by have:=(ok.bd q hq).2.2.1;omega⟩) ok.ris
theorem lots_ok {need:Int}{qs:List (Int×Int)}{rs us:List (List Int)} (e:leansQ need qs = some rs) (ok:HOk8 need qs) (p:us.Perm rs):LotsOk qs us:=by
 obtain⟨h1,h2,h3⟩:=leans_of e ok
 refine⟨⟨fun r hr=>?_,fun q hq=>by have:=(ok.bd q hq).2.2.1;omega⟩,fun r hr=>h2 r (p.mem_iff.mp hr),fun q hq=>(ok.bd q hq).2.2.2,ok.len,by rw [p.length_eq];exact h3⟩
 obtain⟨pt,_,x,t,rfl,_⟩:=(h1 r).mp (p.mem_iff.mp hr)
 obtain⟨q,hq,e⟩:=pt.mem x (.head _)
 exact⟨q,hq,by rw [e];exact .head _⟩
section
variable {P:Program}{w:World}{K:PySem.W.Frag}{mg:Str->Option Value}{base:Heap}
abbrev sSh:Stmt:=top 36
theorem scSh:FnScope ["heap"] ["heap"] (defScope sSh):=⟨rfl,rfl,rfl,by decide +kernel,rfl,by decide +kernel,by decide +kernel⟩
def spSh (C:Addr):Sp:=fun vs H Q E=>∃ (h:Addr) (need:Int) (qs:List (Int×Int)),vs = [.ref h]/\HeapAt H h need qs/\(∀ rs,leansQ need qs = some rs->rs.length < 64)/\(leansQ need qs = none->∀ H',L2.Same H H'->E (.ref C) none H')/\
 (∀ rs us,leansQ need qs = some rs->us.Perm rs->us.Pairwise (fun u v=>HT.lexLt v u = false)->∀ (p:Addr) (tot:Int×Int) (shs:List LL) (prs:List (Int×Int)) (H':Hp),H p = none->L2.Same H H'->IsBest qs us tot shs prs->SharesAt H' p tot shs prs->Q (.ref p) H')
theorem ok_sh {f:Addr}{fd:FuncData}{C:Addr} (F:Fun K "shares_of" "shares_of" sSh f fd) (cL:Callee (CXF P w) P w K mg base "lean_lots" 3 ["heap"] (spLean C)) (cB:Callee CX0 P w K mg base "best_shares" 4 ["heap","lots"] (spBs K)):FnOk P w K mg base (CXF P w) 5 f fd ["heap"] (spSh C):=by
 refine Br.Fun.jX F scSh (fun vs H Q E h=>?_) (fun cdv A outer s H vs Q E hr h=>?_)
 · obtain⟨_,_,_,rfl,_⟩:=h;rfl
 · obtain⟨hp,need,qs,rfl,hh,few,hX,h⟩:=h
   have nd:=scSh.nd
   refine' ⟨_,?d,?r⟩
   case d=>wtm_at "body"
   case r=>
    have hok:HOk8 need qs:=let ⟨_,_,_,_,_,_,_,h4⟩:=hh;h4
    refine⟨_,rfl,_,rfl,hp,need,qs,rfl,hh,few,hX,fun rs e l H1 nl s1 told=>?_⟩
    obtain⟨bs,us,e1,e2,pm,pw⟩:=told
    refine⟨hp,l,need,_,qs,us,rfl,hh.tu (Tu.of s1),e1,e2,lots_ok e hok pm,fun p tot shs prs H2 np s2 ib sa=>?_⟩
    have npH:H p = none:=by
     cases q:H p with
     | none=>rfl
     | some o=>have:=s1 _ _ q;rw [np] at this;cases this
    exact h rs us e pm pw p tot shs prs H2 npH (s1.trans s2) ib sa
end
def lcmL:List (Int×Int)->Int->Int
 | [],m=>m
 | q :: rs,m=>lcmL rs (m / (Int.gcd m q.2:Int) * q.2)
def OneB (B:Int) (rs:List (Int×Int)):Prop:=0 < B/\Bd 1000 B/\∀ q∈rs,0 < q.2/\q.2 ∣ B/\Bd 1000 q.1
theorem lcm_step {m b B:Int} (hm:0 < m) (hb:0 < b) (h1:m ∣ B) (h2:b ∣ B):0 < m / (Int.gcd m b:Int) * b/\m ∣ m / (Int.gcd m b:Int) * b/\b ∣ m / (Int.gcd m b:Int) * b/\m / (Int.gcd m b:Int) * b ∣ B:=by
 have hg:0 < Int.gcd m b:=Nat.pos_of_ne_zero fun z=>by have:=Int.gcd_eq_zero_iff.mp z;omega
 have d1:=Int.gcd_dvd_left m b
 have d2:=Int.gcd_dvd_right m b
 have e:m / (Int.gcd m b:Int) * b = (Int.lcm m b:Int):=by
  have h3:Int.gcd m b * Int.lcm m b = m.natAbs * b.natAbs:=Int.gcd_mul_lcm m b
  obtain⟨k,hk⟩:=d1
  have h4:m / (Int.gcd m b:Int) = k:=by
   rw [Int.ediv_eq_of_eq_mul_right (by omega) hk]
  rw [h4]
  have h5:((Int.gcd m b:Nat):Int) * ((Int.lcm m b:Nat):Int) = m * b:=by
   rw [<- Int.natCast_mul,h3,Int.natCast_mul,Int.natAbs_of_nonneg (by omega),Int.natAbs_of_nonneg (by omega)]
  have h6:((Int.gcd m b:Nat):Int) * (k * b) = m * b:=by rw [<- Int.mul_assoc,<- hk]
  exact Int.eq_of_mul_eq_mul_left (by omega) (h6.trans h5.symm)
 rw [e]
 refine⟨?_,Int.dvd_lcm_left m b,Int.dvd_lcm_right m b,Int.ofNat_dvd_left.mpr (Nat.lcm_dvd (Int.natAbs_dvd_natAbs.mpr h1) (Int.natAbs_dvd_natAbs.mpr h2))⟩
 have:Int.lcm m b≠0:=fun z=>by
  rw [z] at e
  have h7:0 < m / (Int.gcd m b:Int):=Int.ediv_pos_of_pos_of_dvd hm (by omega) d1
  have:=Int.mul_pos h7 hb
  omega
 omega
theorem lcmL_ok {B:Int}:∀ {rs:List (Int×Int)}{m:Int},0 < m->m ∣ B->(∀ q∈rs,0 < q.2/\q.2 ∣ B)->0 < lcmL rs m/\m ∣ lcmL rs m/\lcmL rs m ∣ B/\∀ q∈rs,q.2 ∣ lcmL rs m
 | [],m,h0,h1,_=>⟨h0,Int.dvd_refl _,h1,fun q hq=>nomatch hq⟩
 | q :: rs,m,h0,h1,h=>by
  obtain⟨q0,q1⟩:=h q (.head _)
  obtain⟨s0,s1,s2,s3⟩:=lcm_step h0 q0 h1 q1
  obtain⟨r0,r1,r2,r3⟩:=lcmL_ok (rs:=rs) s0 s3 fun p hp=>h p (.tail _ hp)
  refine⟨r0,Int.dvd_trans s1 r1,r2,fun p hp=>?_⟩
  rcases List.mem_cons.mp hp with e | e
  · rw [e];exact Int.dvd_trans s2 r1
  · exact r3 p e
theorem bd_dvd {m B:Int}{n:Nat} (h:Bd n B) (hB:0 < B) (d:m ∣ B):Bd n m:=h.le (Nat.le_of_dvd (by omega) (Int.natAbs_dvd_natAbs.mpr d))
section
local macro_rules | `(tactic| wtm_at "op")=>`(tactic| first | apply o_mulI | apply o_fdivX)
variable {P:Program}{w:World}{K:PySem.W.Frag}{mg:Str->Option Value}{base:Heap}
abbrev sOne:Stmt:=top 29
theorem scOne:FnScope ["ratios","bottom","top","own"] ["ratios"] (defScope sOne):=⟨rfl,rfl,rfl,by decide +kernel,rfl,by decide +kernel,by decide +kernel⟩
def tops (rs:List (Int×Int)):List Int:=rs.map fun q=>q.1 * (lcmL rs 1 / q.2)
def spOne (K:PySem.W.Frag):Sp:=fun vs H Q _=>∃ (f:Bool) (a:Addr) (us:List V) (rs:List (Int×Int)) (B:Int),vs = [.ref a]/\ZG.SqS f K H a us/\Kinds H us rs/\rs.length<=300/\OneB B rs/\
 ∀ (p l:Addr) (H':Hp),H p = none->L2.Same H H'->H' p = some (.tup [.ref l,.int (lcmL rs 1)])->H' l = some (.lst ((tops rs).map V.int))->Q (.ref p) H'
theorem ok_one {f:Addr}{fd:FuncData} (F:Fun K "on_one_bottom" "on_one_bottom" sOne f fd) (cG:Callee CX0 P w K mg base "greatest_divisor" 1 ["one","other"] spPart):FnOk P w K mg base CX0 2 f fd ["ratios"] (spOne K):=by
 refine Br.Fun.j F scOne (fun vs H Q E h=>?_) (fun cdv A outer s H vs Q E hr h=>?_)
 · obtain⟨_,_,_,_,_,rfl,_⟩:=h;rfl
 · obtain⟨f,a,us,rs,B,rfl,ha,kd,hl,ob,h⟩:=h
   have nd:=scOne.nd
   refine' ⟨_,?d,?r⟩
   case d=>wtm_at "body"
   case r=>
    obtain⟨B0,B1,hB⟩:=ob
    have hul:=kd.1
    have hsz:(sizeLine:Nat) = 16777216:=sizeLine_eq
    refine⟨_,rfl,a,rfl,?_⟩
    refine for_seq (f:=f) (K:=K) (a:=a) (xs:=us) ha (fun i σ G=>G = H/\∃ (m:Int) (x y:Option V),0 < m/\m ∣ B/\lcmL (rs.drop i) m = lcmL rs 1/\σ = [some (.ref a),some (.int m),x,y])
     ⟨rfl,1,none,none,by omega,⟨B,(Int.one_mul B).symm⟩,rfl,rfl⟩ (fun i σ G _ ⟨e,_⟩=>by rw [e];exact ha) ?_ ?_
    · rintro i x σ G hx ⟨rfl,m,x0,y0,m0,mB,hm,rfl⟩
      obtain⟨q,hq,r,rfl,hr'⟩:=kd.2 i x hx
      have hqm:=List.mem_of_getElem? hq
      obtain⟨q0,q1,q2⟩:=hB q hqm
      have hd:rs.drop i = q :: rs.drop (i + 1):=by
       obtain⟨hlt,e⟩:=List.getElem?_eq_some_iff.mp hq
       rw [List.drop_eq_getElem_cons hlt,e]
      rw [hd,lcmL] at hm
      obtain⟨s0,s1,s2,s3⟩:=lcm_step m0 q0 mB q1
      refine⟨r,_,rfl,SqT.of hr',rfl,_,_,rfl,_,_,rfl,rfl,?_⟩
      have hg:0 < Int.gcd m q.2:=Nat.pos_of_ne_zero fun z=>by have:=Int.gcd_eq_zero_iff.mp z;omega
      have bm:=bd_dvd B1 B0 mB
      have bq:=bd_dvd B1 B0 q1
      have bg:Bd 1000 (Int.gcd m q.2:Int):=bd_dvd bm m0 (Int.gcd_dvd_left m q.2)
      have ef:m.fdiv (Int.gcd m q.2:Int) = m / (Int.gcd m q.2:Int):=Int.fdiv_eq_ediv_of_nonneg _ (by omega)
      have bf:Bd 1000 (m / (Int.gcd m q.2:Int)):=bm.le (Int.natAbs_ediv_le_natAbs _ _)
      refine⟨_,rfl,_,rfl,_,rfl,m,q.2,rfl,_,_,rfl,rfl,⟨by omega,bg.mono (by decide)⟩,_,rfl,_,_,rfl,rfl,by rw [ef];exact Bd.mulI bf bq,rfl,m / (Int.gcd m q.2:Int) * q.2,some (.int q.1),some (.int q.2),s0,s3,hm,?_⟩
      rw [ef]
      rfl
    · rintro σ G ⟨rfl,m,x0,y0,m0,mB,hm,rfl⟩
      rw [hul,List.drop_length] at hm
      have hm:m = lcmL rs 1:=hm
      subst hm
      obtain⟨r0,_,r2,r3⟩:=lcmL_ok (rs:=rs) (m:=1) (B:=B) (by omega) ⟨B,(Int.one_mul B).symm⟩ fun q hq=>⟨(hB q hq).1,(hB q hq).2.1⟩
      refine⟨_,rfl,a,rfl,?_⟩
      refine cmp_seq (f:=f) (K:=K) (a:=a) (xs:=us) ha (fun j ys σ G'=>G' = G/\ys = ((tops rs).take j).map V.int/\∃ x y:Option V,σ = [x,y,some (.ref a),some (.int (lcmL rs 1)),x0,y0])
       ⟨rfl,rfl,none,none,rfl⟩ (by omega) (fun j ys σ G' hj ⟨e,r,_⟩=>⟨by rw [e];exact ha,by rw [r,List.length_map,List.length_take];exact Nat.min_le_left _ _⟩) ?_ ?_
      · rintro j x ys σ G' N hx ⟨rfl,rfl,x1,y1,rfl⟩ hN
        obtain⟨q,hq,r,rfl,hr'⟩:=kd.2 j x hx
        obtain⟨q0,q1,q2⟩:=hB q (List.mem_of_getElem? hq)
        have bL:=bd_dvd B1 B0 r2
        have ef:(lcmL rs 1).fdiv q.2 = lcmL rs 1 / q.2:=Int.fdiv_eq_ediv_of_nonneg _ (by omega)
        have bf:Bd 1000 (lcmL rs 1 / q.2):=bL.le (Int.natAbs_ediv_le_natAbs _ _)
        refine⟨r,_,rfl,SqT.of hr',rfl,_,_,rfl,_,_,rfl,rfl,?_⟩
        refine⟨_,rfl,_,rfl,_,rfl,_,_,rfl,rfl,⟨by omega,(bd_dvd B1 B0 q1).mono (by decide)⟩,_,_,rfl,rfl,by rw [ef];exact Bd.mulI q2 bf,hN _ _ _ ⟨rfl,?_,some (.int q.1),some (.int q.2),rfl⟩⟩
        have e7:(tops rs)[j]? = some (q.1 * (lcmL rs 1 / q.2)):=by unfold tops;rw [List.getElem?_map,hq];rfl
        rw [List.take_add_one,e7,List.map_append,ef]
        rfl
      rintro ys σ G' ⟨rfl,rfl,x1,y1,rfl⟩ l G1 nl s1 e1
      rw [List.take_of_length_le (by unfold tops;rw [List.length_map];omega)] at e1
      refine⟨_,rfl,by show 2<=sizeLine;decide,fun p G2 np s2 e2=>?_⟩
      have npH:G' p = none:=by
       cases q:G' p with
       | none=>rfl
       | some o=>have:=s1 _ _ q;rw [np] at this;cases this
      exact h p l G2 npH (s1.trans s2) e2 (s2 _ _ e1)
end
section
variable {P:Program}{w:World}{K:PySem.W.Frag}{mg:Str->Option Value}{base:Heap}
abbrev sSum:Stmt:=top 30
theorem scSum:FnScope ["ratios","tops","bottom"] ["ratios"] (defScope sSum):=⟨rfl,rfl,rfl,by decide +kernel,rfl,by decide +kernel,by decide +kernel⟩
def sumQ (rs:List (Int×Int)):Int×Int:=rq (tops rs).sum (lcmL rs 1)
def spSum (K:PySem.W.Frag):Sp:=fun vs H Q _=>∃ (f:Bool) (a:Addr) (us:List V) (rs:List (Int×Int)) (B:Int),vs = [.ref a]/\ZG.SqS f K H a us/\Kinds H us rs/\rs.length<=300/\OneB B rs/\
 ∀ (p:Addr) (H':Hp),H p = none->L2.Same H H'->H' p = some (.tup [.int (sumQ rs).1,.int (sumQ rs).2])->Q (.ref p) H'
theorem one_facts {B:Int}{rs:List (Int×Int)} (o:OneB B rs):0 < lcmL rs 1/\lcmL rs 1 ∣ B/\(∀ q∈rs,q.2 ∣ lcmL rs 1)/\Bd 1000 (lcmL rs 1):=by
 obtain⟨B0,B1,hB⟩:=o
 obtain⟨r0,_,r2,r3⟩:=lcmL_ok (rs:=rs) (m:=1) (B:=B) (by omega) ⟨B,(Int.one_mul B).symm⟩ fun q hq=>⟨(hB q hq).1,(hB q hq).2.1⟩
 exact⟨r0,r2,r3,bd_dvd B1 B0 r2⟩
theorem ok_sum {f:Addr}{fd:FuncData} (F:Fun K "sum_of" "sum_of" sSum f fd) (cO:Callee CX0 P w K mg base "on_one_bottom" 2 ["ratios"] (spOne K)) (cR:Callee CX0 P w K mg base "ratio_of" 2 ["top","bottom"] spRo1) (mS:mg "sum" = none):FnOk P w K mg base CX0 3 f fd ["ratios"] (spSum K):=by
 refine Br.Fun.j F scSum (fun vs H Q E h=>?_) (fun cdv A outer s H vs Q E hr h=>?_)
 · obtain⟨_,_,_,_,_,rfl,_⟩:=h;rfl
 · obtain⟨f,a,us,rs,B,rfl,ha,kd,hl,ob,h⟩:=h
   have nd:=scSum.nd
   refine' ⟨_,?d,?r⟩
   case d=>wtm_at "body"
   case r=>
    obtain⟨r0,r2,r3,bL⟩:=one_facts ob
    refine⟨_,rfl,f,a,us,rs,B,rfl,ha,kd,hl,ob,fun p l H1 np s1 ep el=>?_⟩
    refine⟨p,_,rfl,SqT.of ep,rfl,_,_,rfl,_,_,rfl,rfl,?_⟩
    exact⟨_,rfl,l,_,rfl,.inl (SqL.of el),_,rfl,_,_,rfl,bL.mono (by decide),by omega,fun rp H2 nr s2 er=>h rp H2 (none_of s1 nr) (s1.trans s2) er⟩
end
section
local macro_rules | `(tactic| wtm_at "pi")=>`(tactic| (apply ZG.k_zip;(wtm_at "K");(with_reducible rfl);(rfl);(assumption);(rfl);(rfl);(wtm_at "pa")))
variable {P:Program}{w:World}{K:PySem.W.Frag}{mg:Str->Option Value}{base:Heap}
abbrev sCost:Stmt:=top 31
theorem scCost:FnScope ["heap","prices","tops","bottom"] ["heap","prices"] (defScope sCost):=⟨rfl,rfl,rfl,by decide +kernel,rfl,by decide +kernel,by decide +kernel⟩
def costQ (qs:List (Int×Int)) (prs:List (Int×Int)):Int×Int:=rq (List.zipWith (fun (q:Int×Int) (t:Int)=>q.2 * t) qs (tops prs)).sum (lcmL prs 1)
def spCost (K:PySem.W.Frag):Sp:=fun vs H Q _=>∃ (h a:Addr) (need:Int) (qs:List (Int×Int)) (us:List V) (prs:List (Int×Int)) (B:Int),vs = [.ref h,.ref a]/\HeapAt H h need qs/\SqT K H a us/\Kinds H us prs/\prs.length = qs.length/\OneB B prs/\
 ∀ (p:Addr) (H':Hp),H p = none->L2.Same H H'->H' p = some (.tup [.int (costQ qs prs).1,.int (costQ qs prs).2])->Q (.ref p) H'
theorem tops_bd {B:Int}{rs:List (Int×Int)} (o:OneB B rs):∀ t∈tops rs,Bd 2000 t:=fun t ht=>by
 obtain⟨r0,r2,r3,bL⟩:=one_facts o
 unfold tops at ht
 obtain⟨q,hq,rfl⟩:=List.mem_map.mp ht
 exact (o.2.2 q hq).2.2.mul (bL.le (Int.natAbs_ediv_le_natAbs _ _))
theorem bd_small {i:Int} (h0:0<=i) (h:i<=10 ^ 13):Bd 50 i:=by unfold Bd;omega
theorem ok_cost {f:Addr}{fd:FuncData} (F:Fun K "cost_of" "cost_of" sCost f fd) (cO:Callee CX0 P w K mg base "on_one_bottom" 2 ["ratios"] (spOne K)) (cR:Callee CX0 P w K mg base "ratio_of" 2 ["top","bottom"] spRo1) (mS:mg "sum" = none) (mZ:mg "zip" = none):FnOk P w K mg base CX0 3 f fd ["heap","prices"] (spCost K):=by
 refine Br.Fun.j F scCost (fun vs H Q E h=>?_) (fun cdv A outer s H vs Q E hr h=>?_)
 · obtain⟨_,_,_,_,_,_,_,rfl,_⟩:=h;rfl
 · obtain⟨hp,a,need,qs,us,prs,B,rfl,hh,ha,kd,hl,ob,h⟩:=h
   have nd:=scCost.nd
   refine' ⟨_,?d,?r⟩
   case d=>wtm_at "body"
   case r=>
    obtain⟨t,obj,ks,h1,hb,h2,h3,h4⟩:=id hh
    have n16:=h4.len
    have tok:∀ {G:Hp},L2.Same H G->SqT K G t ks:=fun s=>.inl (.inr ⟨_,s _ _ h2⟩)
    obtain⟨r0,r2,r3,bL⟩:=one_facts ob
    refine⟨_,rfl,true,a,us,prs,B,rfl,ha,kd,by omega,ob,fun p l H1 np s1 ep el=>?_⟩
    refine⟨p,_,rfl,SqT.of ep,rfl,_,_,rfl,_,_,rfl,rfl,?_⟩
    refine⟨_,rfl,.inr (.inl ⟨hp,_,_,_,rfl,rfl,SqT.of (s1 _ _ h1),at1,?_⟩)⟩
    refine⟨_,rfl,true,false,t,l,_,_,rfl,tok s1,SqL.of el,?_⟩
    have tl:(tops prs).length = qs.length:=by unfold tops;rw [List.length_map,hl]
    refine ZG.cmp_zip (f1:=true) (f2:=false) (K:=K) (a:=t) (b:=l) (xs:=ks) (ys:=(tops prs).map V.int) (n:=qs.length) (by rw [h3.1];exact Nat.le_refl _) (by rw [List.length_map,tl]) (by omega)
     (fun k zs σ G=>L2.Same H1 G/\zs = ((List.zipWith (fun (q:Int×Int) (t:Int)=>q.2 * t) qs (tops prs)).take k).map V.int/\∃ x y z:Option V,σ = [x,y,z,some (.ref hp),some (.ref a),some (.ref l),some (.int (lcmL prs 1))])
     ⟨L2.Same.refl _,rfl,none,none,none,rfl⟩ (fun k zs σ G _ ⟨s2,e,_⟩=>⟨tok (s1.trans s2),SqL.of (s2 _ _ el),by rw [e,List.length_map,List.length_take];omega⟩) ?_ ?_
    · rintro k x y zs σ G Tt N hx hy ⟨s2,rfl,x0,y0,z0,rfl⟩ nT hN
      obtain⟨q,hq,r,rfl,hr'⟩:=h3.2 k x hx
      rw [List.getElem?_map] at hy
      obtain⟨tp,ht,rfl⟩:=Option.map_eq_some_iff.mp hy
      have sT:L2.Same G (upd G Tt (.tup [.ref r,.int tp])):=Br.Same.upd nT
      generalize hG1:upd G Tt (.tup [.ref r,.int tp]) = G1 at sT
      have eT:G1 Tt = some (.tup [.ref r,.int tp]):=by rw [<- hG1];exact upd_same
      have s2T:=s2.trans sT
      obtain⟨_,_,b3,b4⟩:=h4.bd q (List.mem_of_getElem? hq)
      refine⟨Tt,_,rfl,SqT.of eT,rfl,_,_,rfl,⟨r,_,rfl,SqT.of (s2T _ _ (s1 _ _ hr')),rfl,_,_,rfl,_,_,rfl,rfl,_,_,rfl,rfl,?_⟩⟩
      refine⟨_,rfl,_,rfl,_,_,rfl,rfl,Bd.mulI (bd_small (by omega) b4) (tops_bd ob tp (List.mem_of_getElem? ht)),hN _ _ _ ⟨s2T,?_,_,_,_,rfl⟩⟩
      have e7:(List.zipWith (fun (q:Int×Int) (t:Int)=>q.2 * t) qs (tops prs))[k]? = some (q.2 * tp):=by rw [List.getElem?_zipWith,hq,ht]
      rw [List.take_add_one,e7,List.map_append];rfl
    · rintro zs σ G ⟨s2,rfl,x0,y0,z0,rfl⟩ sl G2 nsl s3 e3
      rw [List.take_of_length_le (by rw [List.length_zipWith];omega)] at e3
      have s13:=s1.trans (s2.trans s3)
      exact⟨sl,_,rfl,.inl (SqL.of e3),_,rfl,_,_,rfl,bL.mono (by decide),by omega,fun rp H2 nr s4 er=>h rp H2 (none_of s13 nr) (s13.trans s4) er⟩
end
def cst (qs:List (Int×Int)) (prs:List (Int×Int)):List (Int×Int):=List.zipWith (fun (q:Int×Int) (t:Int)=>(q.1,t)) qs (tops prs)
def costL (qs:List (Int×Int)) (prs:List (Int×Int)) (lot:List Int):Int:=(lot.map fun s=>(dlook (cst qs prs) s).getD 0).sum
theorem cst_len {qs prs:List (Int×Int)} (h:prs.length = qs.length):(cst qs prs).length = qs.length:=by
 unfold cst tops;rw [List.length_zipWith,List.length_map,h,Nat.min_self]
theorem cst_keys {qs prs:List (Int×Int)} (h:prs.length = qs.length):(cst qs prs).map (·.1) = qs.map (·.1):=by
 have tl:(tops prs).length = qs.length:=by unfold tops;rw [List.length_map,h]
 refine List.ext_getElem? fun i=>?_
 unfold cst
 rw [List.getElem?_map,List.getElem?_map,List.getElem?_zipWith]
 by_cases hi:i < qs.length
 · rw [List.getElem?_eq_getElem hi,List.getElem?_eq_getElem (by omega)];rfl
 · rw [List.getElem?_eq_none (by omega)]
section
local macro_rules | `(tactic| wtm_at "nd")=>`(tactic| exact nodupB_of (by rfl))
local macro_rules | `(tactic| wtm_at "pi")=>`(tactic| (apply ZG.k_zip;(wtm_at "K");(with_reducible rfl);(rfl);(assumption);(rfl);(rfl);(wtm_at "pa")))
local macro_rules | `(tactic| wtm_at "pe")=>`(tactic| first | (apply k_dcomp21;(wtm_at "K");(rfl);(rfl);(intro _;rfl);(decide +kernel);(rfl);(rfl);(rfl);(wtm_at "pi");(intro cC cs cH cfp;wtm_at "pf");(intro cC cs cH cfp;wtm_at "pe");(intro cC cs cH cfp;wtm_at "pe")) | (apply j_dgetA "costs";(assumption);(exact fun _ _=>rfl);(wtm_at "pe");(wtm_at "pe")))
local macro_rules | `(tactic| wtm_at "ps")=>`(tactic| (apply s_unpackC;(wtm_at "at");(wtm_at "at");(rfl);(assumption);(first | exact .inl rfl | exact .inr rfl);(first | exact .inl rfl | exact .inr rfl);(rfl);(rfl);(rfl);(rfl);(rfl);(rfl);(rfl);(rfl);(rfl);(wtm_at "pe")))
variable {P:Program}{w:World}{K:PySem.W.Frag}{mg:Str->Option Value}{base:Heap}
abbrev sEach:Stmt:=top 32
theorem scEach:FnScope ["heap","lots","prices","tops","bottom","costs"] ["heap","lots","prices"] (defScope sEach):=⟨rfl,rfl,rfl,by decide +kernel,rfl,by decide +kernel,by decide +kernel⟩
def spEach (K:PySem.W.Frag):Sp:=fun vs H Q _=>∃ (h l a:Addr) (need:Int) (qs:List (Int×Int)) (ws:List V) (rs:List (List Int)) (us:List V) (prs:List (Int×Int)) (B:Int),vs = [.ref h,.ref l,.ref a]/\HeapAt H h need qs/\H l = some (.lst ws)/\Rows H ws rs/\rs.length<=300/\(∀ r∈rs,r.length<=60/\∀ s∈r,s∈qs.map (·.1))/\
 SqT K H a us/\Kinds H us prs/\prs.length = qs.length/\OneB B prs/\
 ∀ (b:Bool) (H':Hp),L2.Same H H'->(b = true↔∀ r∈rs,lcmL prs 1<=costL qs prs r)->Q (.bl b) H'
theorem ok_each {f:Addr}{fd:FuncData} (F:Fun K "each_lot_costs_one" "each_lot_costs_one" sEach f fd) (cO:Callee CX0 P w K mg base "on_one_bottom" 2 ["ratios"] (spOne K)) (mS:mg "sum" = none) (mZ:mg "zip" = none) (mA:mg "all" = none):FnOk P w K mg base CX0 3 f fd ["heap","lots","prices"] (spEach K):=by
 refine Br.Fun.j F scEach (fun vs H Q E h=>?_) (fun cdv A outer s H vs Q E hr h=>?_)
 · obtain⟨_,_,_,_,_,_,_,_,_,_,rfl,_⟩:=h;rfl
 · obtain⟨hp,l,a,need,qs,ws,rs,us,prs,B,rfl,hh,hl,hR,hrl,hrs,ha,kd,hpl,ob,h⟩:=h
   have nd:=scEach.nd
   refine' ⟨_,?d,?r⟩
   case d=>wtm_at "body"
   case r=>
    obtain⟨t,obj,ks,h1,hb,h2,h3,h4⟩:=id hh
    have n16:=h4.len
    have tok:∀ {G:Hp},L2.Same H G->SqT K G t ks:=fun s=>.inl (.inr ⟨_,s _ _ h2⟩)
    obtain⟨r0,r2,r3,bL⟩:=one_facts ob
    refine⟨_,rfl,true,a,us,prs,B,rfl,ha,kd,by omega,ob,fun p tl H1 np s1 ep el=>?_⟩
    refine⟨p,_,rfl,SqT.of ep,rfl,_,_,rfl,_,_,rfl,rfl,?_⟩
    refine⟨_,rfl,.inr (.inl ⟨hp,_,_,_,rfl,rfl,SqT.of (s1 _ _ h1),at1,?_⟩)⟩
    refine⟨_,rfl,true,false,t,tl,_,_,rfl,tok s1,SqL.of el,?_⟩
    have tll:(tops prs).length = qs.length:=by unfold tops;rw [List.length_map,hpl]
    have cl:=cst_len hpl
    refine cmpd_zip (f1:=true) (f2:=false) (K:=K) (a:=t) (b:=tl) (xs:=ks) (ys:=(tops prs).map V.int) (n:=qs.length) (by rw [h3.1];exact Nat.le_refl _) (by rw [List.length_map,tll]) (by omega)
     (fun k zs σ G=>L2.Same H1 G/\zs = vv2 ((cst qs prs).take k)/\∃ x y z x8:Option V,σ = [x,y,z,some (.ref hp),some (.ref l),some (.ref a),some (.ref tl),some (.int (lcmL prs 1)),x8])
     ⟨L2.Same.refl _,rfl,none,none,none,none,rfl⟩ (fun k zs σ G hk ⟨s2,e,_⟩=>⟨tok (s1.trans s2),SqL.of (s2 _ _ el),by rw [e];unfold vv2;rw [List.length_map,List.length_take];omega⟩) ?_ ?_
    · rintro k x y zs σ G Tt N hx hy ⟨s2,rfl,x0,y0,z0,x8,rfl⟩ nT hN
      obtain⟨q,hq,r,rfl,hr'⟩:=h3.2 k x hx
      rw [List.getElem?_map] at hy
      obtain⟨tp,ht,rfl⟩:=Option.map_eq_some_iff.mp hy
      have sT:L2.Same G (upd G Tt (.tup [.ref r,.int tp])):=Br.Same.upd nT
      generalize hG1:upd G Tt (.tup [.ref r,.int tp]) = G1 at sT
      have eT:G1 Tt = some (.tup [.ref r,.int tp]):=by rw [<- hG1];exact upd_same
      have s2T:=s2.trans sT
      refine⟨Tt,_,rfl,SqT.of eT,rfl,_,_,rfl,⟨r,_,rfl,SqT.of (s2T _ _ (s1 _ _ hr')),rfl,_,_,rfl,_,_,rfl,rfl,_,_,rfl,rfl,?_⟩⟩
      refine⟨_,rfl,.inl q.1,rfl,_,rfl,hN _ _ _ ⟨s2T,?_,_,_,_,_,rfl⟩⟩
      have e7:(cst qs prs)[k]? = some (q.1,tp):=by unfold cst;rw [List.getElem?_zipWith,hq,ht]
      have nk:q.1∉((cst qs prs).take k).map (·.1):=fun hm=>by
       rw [List.map_take,cst_keys hpl] at hm
       obtain⟨j,hj,e⟩:=List.getElem_of_mem hm
       rw [List.length_take] at hj
       rw [List.getElem_take] at e
       have nq:(qs.map (·.1))[k]? = some q.1:=by rw [List.getElem?_map,hq];rfl
       have nj:(qs.map (·.1))[j]? = some q.1:=by rw [List.getElem?_eq_getElem (by omega),e]
       have:=(List.getElem?_inj (by omega) h4.ris.nodup).mp (nj.trans nq.symm)
       omega
      rw [put_vv2,List.take_add_one,e7]
      unfold dput
      rw [if_neg nk]
      rfl
    · rintro zs σ G ⟨s2,rfl,x0,y0,z0,x8,rfl⟩ d G2 nd2 s3 e3
      rw [List.take_of_length_le (by omega)] at e3
      have s13:=s1.trans (s2.trans s3)
      have hwl:=hR.1
      have lk:∀ s,s∈qs.map (·.1)->∃ c,dlook (cst qs prs) s = some c:=fun s hs=>dlook_key (by rw [cst_keys hpl];exact hs)
      refine⟨_,rfl,l,rfl,.inl ⟨⟨_,SqL.of (s13 _ _ hl)⟩,?_⟩⟩
      refine cmp_list (K:=K) (a:=l) (xs:=ws) (fun j ys σ G'=>L2.Same G2 G'/\ys = (((rs.map fun r=>decide (lcmL prs 1<=costL qs prs r)).take j).map V.bl)/\
       ∃ x:Option V,σ = [x,some (.ref hp),some (.ref l),some (.ref a),some (.ref tl),some (.int (lcmL prs 1)),some (.ref d)])
       ⟨L2.Same.refl _,rfl,none,rfl⟩ (by have:(sizeLine:Nat) = 16777216:=sizeLine_eq;omega) (fun j ys σ G' _ ⟨e,r,_⟩=>⟨SqL.of ((s13.trans e) _ _ hl),by rw [r,List.length_map,List.length_take];exact Nat.min_le_left _ _⟩) ?_ ?_
      · rintro j x ys σ G' N hx ⟨s4,rfl,x1,rfl⟩ hN
        obtain⟨b,zs,hz,rfl,hb'⟩:=hR.2 j x hx
        obtain⟨h60,hsz⟩:=hrs zs (List.mem_of_getElem? hz)
        have tb:∀ {G:Hp},L2.Same H G->SqT K G b (zs.map V.int):=fun s=>SqT.of (s _ _ hb')
        refine⟨_,rfl,b,rfl,.inr ⟨⟨_,tb (s13.trans s4)⟩,?_⟩⟩
        refine cmp_tup (K:=K) (a:=b) (xs:=zs.map V.int) (fun i us' σ G3=>G3 = G'/\us' = ((zs.map fun s=>(dlook (cst qs prs) s).getD 0).take i).map V.int/\
         ∃ y:Option V,σ = [y,some (.ref b),some (.ref hp),some (.ref l),some (.ref a),some (.ref tl),some (.int (lcmL prs 1)),some (.ref d)])
         ⟨rfl,rfl,none,rfl⟩ (by rw [List.length_map];have:(sizeLine:Nat) = 16777216:=sizeLine_eq;omega) (fun i us' σ G3 _ ⟨e,r,_⟩=>⟨by rw [e];exact tb (s13.trans s4),by rw [r,List.length_map,List.length_take];exact Nat.min_le_left _ _⟩) ?_ ?_
        · rintro i y us' σ G3 N2 hy ⟨rfl,rfl,y0',rfl⟩ hN2
          rw [List.getElem?_map] at hy
          obtain⟨sv,hsv,rfl⟩:=Option.map_eq_some_iff.mp hy
          obtain⟨c,hc⟩:=lk sv (hsz sv (List.mem_of_getElem? hsv))
          refine⟨_,rfl,_,rfl,d,.int c,rfl,?_,hN2 _ _ _ ⟨rfl,?_,_,rfl⟩⟩
          · have:=DGet.k (k:=Sum.inl sv) (s4 _ _ e3)
            rw [val_vv2,hc] at this
            exact this
          · have e8:(zs.map fun s=>(dlook (cst qs prs) s).getD 0)[i]? = some c:=by rw [List.getElem?_map,hsv];show some ((dlook (cst qs prs) sv).getD 0) = _;rw [hc];rfl
            rw [List.take_add_one,e8,List.map_append];rfl
        · rintro us' σ G3 ⟨rfl,rfl,y0',rfl⟩ sl G4 nsl s5 e5
          rw [List.take_of_length_le (by rw [List.length_map,List.length_map];exact Nat.le_refl _)] at e5
          refine⟨sl,_,rfl,.inl (SqL.of e5),?_⟩
          refine⟨_,rfl,_,_,rfl,rfl,hN _ _ _ ⟨s4.trans s5,?_,_,rfl⟩⟩
          have e8:(rs.map fun r=>decide (lcmL prs 1<=costL qs prs r))[j]? = some (decide (lcmL prs 1<=costL qs prs zs)):=by rw [List.getElem?_map,hz];rfl
          rw [List.take_add_one,e8,List.map_append];rfl
      · rintro ys σ G' ⟨s4,rfl,x1,rfl⟩ bl G4 nbl s5 e5
        rw [List.take_of_length_le (by rw [List.length_map,hwl];exact Nat.le_refl _)] at e5
        refine⟨bl,_,rfl,SqL.of e5,h _ G4 (s13.trans (s4.trans s5)) ?_⟩
        rw [List.all_eq_true]
        constructor
        · intro z r hr
          have:=z _ (List.mem_map.mpr ⟨r,hr,rfl⟩)
          exact of_decide_eq_true this
        · intro z b hb
          obtain⟨r,hr,rfl⟩:=List.mem_map.mp hb
          exact decide_eq_true (z r hr)
end
section
variable {P:Program}{w:World}{K:PySem.W.Frag}{mg:Str->Option Value}{base:Heap}
abbrev sAp:Stmt:=top 33
theorem scAp:FnScope ["heap","lots","prices"] ["heap","lots","prices"] (defScope sAp):=⟨rfl,rfl,rfl,by decide +kernel,rfl,by decide +kernel,by decide +kernel⟩
def spAp (K:PySem.W.Frag):Sp:=fun vs H Q _=>∃ (h l a:Addr) (need:Int) (qs:List (Int×Int)) (ws:List V) (rs:List (List Int)) (us:List V) (prs:List (Int×Int)) (B:Int),vs = [.ref h,.ref l,.ref a]/\HeapAt H h need qs/\H l = some (.lst ws)/\Rows H ws rs/\rs.length<=300/\(∀ r∈rs,r.length<=60/\∀ s∈r,s∈qs.map (·.1))/\
 H a = some (.tup us)/\Kinds H us prs/\prs.length = qs.length/\OneB B prs/\(∀ q∈prs,Int.gcd q.1 q.2 = 1/\0<=q.1)/\
 ∀ (b:Bool) (H':Hp),L2.Same H H'->(b = true↔∀ r∈rs,lcmL prs 1<=costL qs prs r)->Q (.bl b) H'
theorem ok_ap {f:Addr}{fd:FuncData} (F:Fun K "are_prices" "are_prices" sAp f fd) (cE:Callee CX0 P w K mg base "each_lot_costs_one" 3 ["heap","lots","prices"] (spEach K)) (cI:Callee CX0 P w K mg base "is_ratio" 2 ["thing"] (spIsR K)) (mL:mg "len" = none) (mA:mg "all" = none):FnOk P w K mg base CX0 4 f fd ["heap","lots","prices"] (spAp K):=by
 refine Br.Fun.j F scAp (fun vs H Q E h=>?_) (fun cdv A outer s H vs Q E hr h=>?_)
 · obtain⟨_,_,_,_,_,_,_,_,_,_,rfl,_⟩:=h;rfl
 · obtain⟨hp,l,a,need,qs,ws,rs,us,prs,B,rfl,hh,hl,hR,hrl,hrs,ha,kd,hpl,ob,good,h⟩:=h
   have nd:=scAp.nd
   refine' ⟨_,?d,?r⟩
   case d=>wtm_at "body"
   case r=>
    obtain⟨t,obj,ks,h1,hb,h2,h3,h4⟩:=id hh
    have tok:∀ {G:Hp},L2.Same H G->SqT K G t ks:=fun s=>.inl (.inr ⟨_,s _ _ h2⟩)
    have sq:∀ {G:Hp},L2.Same H G->SqT K G a us:=fun s=>SqT.of (s _ _ ha)
    have hul:=kd.1
    have hkl:=h3.1
    have n16:=h4.len
    refine⟨fun σ' G=>L2.Same H G/\σ' = [some (.ref hp),some (.ref l),some (.ref a)],?_,?_⟩
    · refine⟨_,rfl,.inl ⟨a,us,rfl,.inr (SqT.of ha),?_⟩⟩
      refine⟨_,rfl,.inr (.inl ⟨hp,_,_,_,rfl,rfl,SqT.of h1,at1,?_⟩)⟩
      refine .inl ⟨t,ks,rfl,.inr (tok (L2.Same.refl _)),?_⟩
      refine⟨rfl,_,rfl,?_⟩
      refine iteF' (by rw [dec_int];simp;omega) ?_
      refine⟨_,rfl,a,rfl,.inr ⟨⟨_,sq (L2.Same.refl _)⟩,?_⟩⟩
      refine cmp_tup (K:=K) (a:=a) (xs:=us) (fun j ys σ G=>G = H/\ys = List.replicate j (V.bl true)/\∃ x:Option V,σ = [x,some (.ref hp),some (.ref l),some (.ref a)])
       ⟨rfl,rfl,none,rfl⟩ (by have:(sizeLine:Nat) = 16777216:=sizeLine_eq;omega) (fun j ys σ G _ ⟨e,r,_⟩=>⟨by rw [e];exact sq (L2.Same.refl _),by rw [r,List.length_replicate];exact Nat.le_refl _⟩) ?_ ?_
      · rintro j x ys σ G N hx ⟨rfl,rfl,x1,rfl⟩ hN
        obtain⟨q,hq,r,rfl,hr'⟩:=kd.2 j x hx
        obtain⟨q0,_,_⟩:=ob.2.2 q (List.mem_of_getElem? hq)
        obtain⟨g1,g2⟩:=good q (List.mem_of_getElem? hq)
        refine⟨_,rfl,.ref r,_,rfl,Ra.both hr',_,rfl,?_⟩
        refine iteT' (by simp;exact⟨by omega,g1⟩) ?_
        refine⟨_,rfl,.inr (.inl ⟨r,_,_,_,rfl,rfl,SqT.of hr',at0,?_⟩)⟩
        refine⟨_,_,rfl,rfl,hN _ _ _ ⟨rfl,?_,_,rfl⟩⟩
        show _ ++ [V.bl (decide (0<=q.1))] = _
        rw [decide_eq_true g2,List.replicate_succ']
      · rintro ys σ G ⟨rfl,rfl,x1,rfl⟩ bl G2 nbl s2 e2
        refine⟨bl,List.replicate us.length true,rfl,SqL.of (by rw [e2,List.map_replicate]),_,rfl,?_⟩
        refine iteF' (by simp) ?_
        exact⟨s2,rfl⟩
    · rintro σ' G ⟨sG,rfl⟩
      refine⟨_,rfl,_,rfl,_,rfl,hp,l,a,need,qs,ws,rs,us,prs,B,rfl,hh.tu (Tu.of sG),sG _ _ hl,hR.same sG,hrl,hrs,sq sG,kd.same sG,hpl,ob,fun b H2 s2 hb=>?_⟩
      exact h b H2 (sG.trans s2) hb
end
def partQ (x:LL):Int×Int:=(x.2.getD 0 0,x.2.getD 1 0)
def parts (shs:List LL):List (Int×Int):=shs.map partQ
def takenL (shs:List LL) (s:Int):Int:=(List.zipWith (fun (t:Int) (x:LL)=>t * (x.1.count s:Int)) (tops (parts shs)) shs).sum
def Pairy (shs:List LL):Prop:=∀ x∈shs,x.2.length = 2/\x.1.length<=100
theorem pair_eq {x:LL} (h:x.2.length = 2):x.2 = [(partQ x).1,(partQ x).2]:=by
 obtain⟨a,b⟩:=x
 match b,h with
 | [t,u],_=>rfl
section
variable {P:Program}{w:World}{K:PySem.W.Frag}{mg:Str->Option Value}{base:Heap}
local macro_rules | `(tactic| wtm_at "nd")=>`(tactic| exact nodupB_of (by rfl))
local macro_rules | `(tactic| wtm_at "pi")=>`(tactic| (apply ZG.k_zip;(wtm_at "K");(with_reducible rfl);(rfl);(assumption);(rfl);(rfl);(wtm_at "pa")))
local macro_rules | `(tactic| wtm_at "call")=>`(tactic| (apply k_countB;(wtm_at "K");(rfl);(rfl);(rfl);(rfl);(rfl);(wtm_at "pe");(wtm_at "pa")))
local macro_rules | `(tactic| wtm_at "pe")=>`(tactic| (apply k_comp12;(wtm_at "K");(rfl);(rfl);(intro _;rfl);(decide +kernel);(rfl);(rfl);(rfl);(wtm_at "pi");(intro cC cs cH cfp;wtm_at "pf");(intro cC cs cH cfp;wtm_at "pe")))
abbrev sHas:Stmt:=top 37
theorem scHas:FnScope ["heap","shares","tops","bottom","size","many","taken"] ["heap","shares"] (defScope sHas):=⟨rfl,rfl,rfl,by decide +kernel,rfl,by decide +kernel,by decide +kernel⟩
def spHas:Sp:=fun vs H Q _=>∃ (h a:Addr) (need:Int) (qs:List (Int×Int)) (as:List Addr) (shs:List LL) (B:Int),vs = [.ref h,.ref a]/\HeapAt H h need qs/\H a = some (.tup (as.map V.ref))/\PqsAt H as shs/\shs.length<=300/\Pairy shs/\OneB B (parts shs)/\
 ∀ (b:Bool) (H':Hp),L2.Same H H'->(b = true↔∀ q∈qs,takenL shs q.1<=q.2 * lcmL (parts shs) 1)->Q (.bl b) H'
theorem ok_has {f:Addr}{fd:FuncData} (F:Fun K "has_things_for" "has_things_for" sHas f fd) (cO:Callee CX0 P w K mg base "on_one_bottom" 2 ["ratios"] (spOne K)) (mS:mg "sum" = none) (mZ:mg "zip" = none):FnOk P w K mg base CX0 3 f fd ["heap","shares"] spHas:=by
 refine Br.Fun.j F scHas (fun vs H Q E h=>?_) (fun cdv A outer s H vs Q E hr h=>?_)
 · obtain⟨_,_,_,_,_,_,_,rfl,_⟩:=h;rfl
 · obtain⟨hp,a,need,qs,as,shs,B,rfl,hh,ha,pq,hsl,py,ob,h⟩:=h
   have nd:=scHas.nd
   refine' ⟨_,?d,?r⟩
   case d=>wtm_at "body"
   case r=>
    obtain⟨t,obj,ks,h1,hb,h2,h3,h4⟩:=id hh
    have tok:∀ {G:Hp},L2.Same H G->SqT K G t ks:=fun s=>.inl (.inr ⟨_,s _ _ h2⟩)
    have hsz:(sizeLine:Nat) = 16777216:=sizeLine_eq
    have hal:as.length = shs.length:=pq.1
    obtain⟨r0,r2,r3,bL⟩:=one_facts ob
    have sq:∀ {G:Hp},L2.Same H G->SqT K G a (as.map V.ref):=fun s=>SqT.of (s _ _ ha)
    refine⟨_,rfl,a,rfl,.inr ⟨⟨_,sq (L2.Same.refl _)⟩,?_⟩⟩
    refine cmp_tup (K:=K) (a:=a) (xs:=as.map V.ref) (fun j ys σ G=>G = H/\Kinds H ys ((parts shs).take j)/\∃ x y x2 x3 x4 x5 x6:Option V,σ = [x,y,some (.ref hp),some (.ref a),x2,x3,x4,x5,x6])
     ⟨rfl,Kinds.nil,none,none,none,none,none,none,none,rfl⟩ (by rw [List.length_map];omega) (fun j ys σ G hj ⟨e,r,_⟩=>⟨by rw [e];exact sq (L2.Same.refl _),by rw [r.1,List.length_take];exact Nat.min_le_left _ _⟩) ?_ ?_
    · rintro j x ys σ G N hx ⟨rfl,kd,x1,y1,x2,x3,x4,x5,x6,rfl⟩ hN
      rw [List.getElem?_map] at hx
      obtain⟨ad,had,rfl⟩:=Option.map_eq_some_iff.mp hx
      obtain⟨q,c,e,hq,e1,e2,e3⟩:=pq.2 j ad had
      refine⟨ad,_,rfl,SqT.of e1,rfl,_,_,rfl,_,_,rfl,rfl,?_⟩
      refine⟨_,rfl,hN _ _ _ ⟨rfl,?_,_,_,_,_,_,_,_,rfl⟩⟩
      have e7:(parts shs)[j]? = some (partQ q):=by unfold parts;rw [List.getElem?_map,hq];rfl
      rw [List.take_add_one,e7]
      rw [pair_eq (py q (List.mem_of_getElem? hq)).1] at e3
      exact kd.snoc e3
    rintro ys σ G ⟨rfl,kd,x1,y1,x2,x3,x4,x5,x6,rfl⟩ pl G1 npl s1 epl
    rw [List.take_of_length_le (by unfold parts;simp;omega)] at kd
    have pl300:(parts shs).length<=300:=by unfold parts;rw [List.length_map];exact hsl
    refine⟨false,pl,ys,parts shs,B,rfl,SqL.of epl,kd.same s1,pl300,ob,fun p tl G2 np s2 ep el=>?_⟩
    refine⟨p,_,rfl,SqT.of ep,rfl,_,_,rfl,_,_,rfl,rfl,?_⟩
    have s12:=s1.trans s2
    have tll:(tops (parts shs)).length = shs.length:=by unfold tops parts;rw [List.length_map,List.length_map]
    refine⟨_,rfl,.inr (.inl ⟨hp,_,_,_,rfl,rfl,SqT.of (s12 _ _ h1),at1,t,rfl,.inr ⟨⟨_,tok s12⟩,?_⟩⟩)⟩
    refine for_tup (K:=K) (a:=t) (xs:=ks) (fun i σ G3=>L2.Same G2 G3/\(∀ q∈qs.take i,takenL shs q.1<=q.2 * lcmL (parts shs) 1)/\∃ y4 y5 y6:Option V,σ = [some (.ref hp),some (.ref a),some (.ref tl),some (.int (lcmL (parts shs) 1)),y4,y5,y6])
     ⟨L2.Same.refl _,fun q hq=>by simp at hq,_,_,_,rfl⟩ (fun i σ G3 _ ⟨s3,_⟩=>tok (s12.trans s3)) ?_ ?_
    · rintro i x σ G3 hx ⟨s3,low,y4,y5,y6,rfl⟩
      obtain⟨q,hq,r,rfl,hr'⟩:=h3.2 i x hx
      obtain⟨_,_,b3,b4⟩:=h4.bd q (List.mem_of_getElem? hq)
      have s13:=s12.trans s3
      refine⟨r,_,rfl,SqT.of (s13 _ _ hr'),rfl,_,_,rfl,_,_,rfl,rfl,?_⟩
      refine⟨_,rfl,_,rfl,false,true,tl,a,_,_,rfl,SqL.of (s3 _ _ el),sq s13,?_⟩
      refine ZG.cmp_zip (f1:=false) (f2:=true) (K:=K) (a:=tl) (b:=a) (xs:=(tops (parts shs)).map V.int) (ys:=as.map V.ref) (n:=shs.length) (by rw [List.length_map,tll];exact Nat.le_refl _) (by rw [List.length_map,hal]) (by omega)
       (fun k zs σ G4=>L2.Same G3 G4/\zs = ((List.zipWith (fun (t:Int) (x:LL)=>t * (x.1.count q.1:Int)) (tops (parts shs)) shs).take k).map V.int/\∃ x y z x6:Option V,σ = [x,y,z,some (.ref hp),some (.ref a),some (.ref tl),some (.int (lcmL (parts shs) 1)),some (.int q.1),some (.int q.2),x6])
       ⟨L2.Same.refl _,rfl,none,none,none,_,rfl⟩ (fun k zs σ G4 _ ⟨s4,e,_⟩=>⟨SqL.of ((s3.trans s4) _ _ el),sq (s13.trans s4),by rw [e,List.length_map,List.length_take];omega⟩) ?_ ?_
      · rintro k x y zs σ G4 Tt N hx' hy' ⟨s4,rfl,x0,y0,z0,x6',rfl⟩ nT hN
        rw [List.getElem?_map] at hx' hy'
        obtain⟨tp,ht,rfl⟩:=Option.map_eq_some_iff.mp hx'
        obtain⟨ad,had,rfl⟩:=Option.map_eq_some_iff.mp hy'
        obtain⟨z,c,e,hz,e1,e2,e3⟩:=pq.2 k ad had
        have sT:L2.Same G4 (upd G4 Tt (.tup [.int tp,.ref ad])):=Br.Same.upd nT
        generalize hG1:upd G4 Tt (.tup [.int tp,.ref ad]) = G5 at sT
        have eT:G5 Tt = some (.tup [.int tp,.ref ad]):=by rw [<- hG1];exact upd_same
        have s45:=s4.trans sT
        have s15:=s13.trans s45
        refine⟨Tt,_,rfl,SqT.of eT,rfl,_,_,rfl,_,_,rfl,ad,_,rfl,SqT.of (s15 _ _ e1),rfl,_,_,rfl,_,_,rfl,rfl,rfl,?_⟩
        have bc:Bd 50 ((z.1.count q.1:Nat):Int):=bd_small (by omega) (by
         have h9:=(py z (List.mem_of_getElem? hz)).2
         have h10:z.1.count q.1<=z.1.length:=List.count_le_length
         omega)
        refine⟨_,rfl,_,rfl,⟨c,z.1,rfl,s15 _ _ e2⟩,_,rfl,c,z.1,q.1,rfl,rfl,SqT.of (s15 _ _ e2),?_⟩
        refine⟨_,_,rfl,rfl,Bd.mulI (tops_bd ob tp (List.mem_of_getElem? ht)) bc,hN _ _ _ ⟨s45,?_,_,_,_,_,rfl⟩⟩
        have e7:(List.zipWith (fun (t:Int) (x:LL)=>t * (x.1.count q.1:Int)) (tops (parts shs)) shs)[k]? = some (tp * (z.1.count q.1:Int)):=by rw [List.getElem?_zipWith,ht,hz]
        rw [List.take_add_one,e7,List.map_append];rfl
      · rintro zs σ G4 ⟨s4,rfl,x0,y0,z0,x6',rfl⟩ sl G5 nsl s5 e5
        rw [List.take_of_length_le (by rw [List.length_zipWith];omega)] at e5
        refine⟨sl,_,rfl,.inl (SqL.of e5),?_⟩
        refine⟨_,?_,fun _ _ h=>h⟩
        refine⟨_,rfl,_,rfl,_,rfl,_,_,rfl,rfl,Bd.mulI (bd_small (by omega) b4) bL,_,_,rfl,rfl,_,rfl,?_⟩
        by_cases c:q.2 * lcmL (parts shs) 1 < takenL shs q.1
        · refine iteT' (decide_eq_true c) ?_
          refine h false G5 (s13.trans (s4.trans s5)) ⟨fun z=>(nomatch z),fun z=>?_⟩
          have:=z q (List.mem_of_getElem? hq)
          omega
        · refine iteF' (decide_eq_false c) ?_
          refine⟨s3.trans (s4.trans s5),fun q' hq'=>?_,_,_,_,rfl⟩
          rw [List.take_add_one,hq] at hq'
          rcases List.mem_append.mp hq' with hq' | hq'
          · exact low q' hq'
          · have:q' = q:=by simpa using hq'
            subst this;omega
    · rintro σ G3 ⟨s3,low,y4,y5,y6,rfl⟩
      rw [h3.1,List.take_length] at low
      exact h true G3 (s12.trans s3) ⟨fun _=>low,fun _=>rfl⟩
end
def risL (us:List (List Int)):Bool:=((us.zip us.tail).map fun p:List Int×List Int=>HT.lexLt p.1 p.2).all id
theorem risL_iff {us:List (List Int)}:risL us = true↔∀ (i:Nat) (u v:List Int),us[i]? = some u->us[i + 1]? = some v->HT.lexLt u v = true:=by
 unfold risL
 rw [List.all_map,List.all_eq_true]
 refine⟨fun h i u v hu hv=>?_,fun h p hp=>?_⟩
 · exact h (u,v) (List.mem_of_getElem? (i:=i) (by rw [List.getElem?_zip_eq_some];exact⟨hu,by rw [List.getElem?_tail];exact hv⟩))
 · obtain⟨i,hi⟩:=List.getElem?_of_mem hp
   rw [List.getElem?_zip_eq_some,List.getElem?_tail] at hi
   exact h i p.1 p.2 hi.1 hi.2
section
local macro_rules | `(tactic| wtm_at "pi")=>`(tactic| (apply ZG.k_zip;(wtm_at "K");(with_reducible rfl);(rfl);(assumption);(rfl);(rfl);(wtm_at "pa")))
local macro_rules | `(tactic| wtm_at "cop")=>`(tactic| (apply c_ltT;(wtm_at "K");assumption))
variable {P:Program}{w:World}{K:PySem.W.Frag}{mg:Str->Option Value}{base:Heap}
abbrev sRising:Stmt:=top 5
theorem scRising:FnScope ["things"] ["things"] (defScope sRising):=⟨rfl,rfl,rfl,by decide +kernel,rfl,by decide +kernel,by decide +kernel⟩
def spRising:Sp:=fun vs H Q _=>∃ (l:Addr) (as:List Addr) (us:List (List Int)),vs = [.ref l]/\H l = some (.lst (as.map V.ref))/\as.length = us.length/\(∀ (i:Nat) a u,as[i]? = some a->us[i]? = some u->H a = some (.tup (u.map V.int)))/\us.length<=300/\∀ H',L2.Same H H'->Q (.bl (risL us)) H'
theorem ok_rising {f:Addr}{fd:FuncData} (F:Fun K "is_rising" "is_rising" sRising f fd) (mA:mg "all" = none) (mZ:mg "zip" = none):FnOk P w K mg base CX0 1 f fd ["things"] spRising:=by
 refine Br.Fun.j F scRising (fun vs H Q E h=>?_) (fun cdv A outer s H vs Q E hr h=>?_)
 · obtain⟨_,_,_,rfl,_⟩:=h;rfl
 · obtain⟨l,as,us,rfl,hl,hau,hat,hn,h⟩:=h
   have nd:=scRising.nd
   have hsz:(sizeLine:Nat) = 16777216:=sizeLine_eq
   refine' ⟨_,?d,?r⟩
   case d=>wtm_at "body"
   case r=>
    refine⟨_,rfl,_,rfl,?_⟩
    wtm_at "rd"
    refine⟨l,_,rfl,.inl ⟨SqL.of hl,fun l2 G1 n2 s1 e1=>?_⟩⟩
    have hcut:cutV (as.map V.ref) (some 1) none = as.tail.map V.ref:=by
     unfold cutV
     rw [show (some (1:Int)) = some ((1:Nat):Int) from rfl,HT.sIx_nat,HT.sIx_none]
     cases as with
     | nil=>rfl
     | cons a r=>simp;rw [List.take_of_length_le (by rw [List.length_map];exact Nat.le_refl _)]
    rw [hcut] at e1
    have hl1:=s1 _ _ hl
    have htl:(as.tail.map V.ref).length = as.length - 1:=by rw [List.length_map,List.length_tail]
    refine⟨false,false,l,l2,_,_,rfl,SqL.of hl1,SqL.of e1,?_⟩
    refine ZG.cmp_zip (f1:=false) (f2:=false) (K:=K) (a:=l) (b:=l2) (xs:=as.map V.ref) (ys:=as.tail.map V.ref) (n:=as.length - 1) (by rw [List.length_map];omega) htl (by omega)
     (fun k zs σ G=>L2.Same G1 G/\zs = (((us.zip us.tail).map fun p:List Int×List Int=>HT.lexLt p.1 p.2).take k).map V.bl/\∃ x y:Option V,σ = [x,y,some (.ref l)])
     ⟨L2.Same.refl _,rfl,none,none,rfl⟩ (fun k zs σ G _ ⟨sG,e,_⟩=>⟨SqL.of (sG _ _ hl1),SqL.of (sG _ _ e1),by rw [e,List.length_map,List.length_take];omega⟩) ?_ ?_
    · rintro k x y zs σ G T N hx hy ⟨sG,rfl,x0,y0,rfl⟩ nT hN
      rw [List.getElem?_map] at hx hy
      obtain⟨a,ha,rfl⟩:=Option.map_eq_some_iff.mp hx
      obtain⟨b,hb,rfl⟩:=Option.map_eq_some_iff.mp hy
      rw [List.getElem?_tail] at hb
      have hk1:=(List.getElem?_eq_some_iff.mp hb).1
      have hu:us[k]? = some us[k]:=List.getElem?_eq_getElem (by omega)
      have hv:us[k + 1]? = some us[k + 1]:=List.getElem?_eq_getElem (by omega)
      have sT:L2.Same G (upd G T (.tup [.ref a,.ref b])):=Br.Same.upd nT
      generalize hG1:upd G T (.tup [.ref a,.ref b]) = G2 at sT
      have eT:G2 T = some (.tup [.ref a,.ref b]):=by rw [<- hG1];exact upd_same
      have sA:=s1.trans (sG.trans sT)
      refine⟨T,_,rfl,SqT.of eT,rfl,_,_,rfl,_,_,rfl,rfl,?_⟩
      refine⟨_,rfl,_,rfl,.inr ⟨a,b,us[k],us[k + 1],rfl,rfl,SqT.of (sA _ _ (hat k a _ ha hu)),SqT.of (sA _ _ (hat (k + 1) b _ hb hv)),hN _ _ _ ⟨sG.trans sT,?_,_,_,rfl⟩⟩⟩
      have hzz:(us.zip us.tail)[k]? = some (us[k],us[k + 1]):=by rw [List.getElem?_zip_eq_some];exact⟨hu,by rw [List.getElem?_tail];exact hv⟩
      rw [List.take_add_one,List.getElem?_map,hzz,List.map_append];rfl
    · rintro zs σ G ⟨sG,rfl,x0,y0,rfl⟩ pl G2 npl s2 e2
      rw [List.take_of_length_le (by rw [List.length_map,List.length_zip,List.length_tail];omega)] at e2
      exact⟨pl,_,rfl,SqL.of e2,h G2 (s1.trans (sG.trans s2))⟩
end
def goodS (rs:List (List Int)) (x:LL):Bool:=decide (x.1∈rs) && (decide (1<=(partQ x).2) && decide (Int.gcd (partQ x).1 (partQ x).2 = 1)) && decide (0 < (partQ x).1)
theorem inl_inj {a b:List Int}:(a.map Sum.inl:List Key) = b.map Sum.inl↔a = b:=List.map_inj_right fun _ _ h=>Sum.inl.inj h
section
local macro_rules | `(tactic| wtm_at "nd")=>`(tactic| exact nodupB_of (by rfl))
local macro_rules | `(tactic| wtm_at "cop")=>`(tactic| (apply c_dinT;(assumption)))
local macro_rules | `(tactic| wtm_at "pe")=>`(tactic| (apply j_jcomp1;(assumption);(rfl);(rfl);(intro _;rfl);(wtm_at "nd");(rfl);(wtm_at "pi");(intro cC cs cH cfp;wtm_at "pf");(intro cC cs cH cfp;wtm_at "pe");(intro cC cs cH cfp;wtm_at "pe")))
variable {P:Program}{w:World}{K:PySem.W.Frag}{mg:Str->Option Value}{base:Heap}
abbrev sAs:Stmt:=top 38
theorem scAs:FnScope ["heap","lots","shares","known"] ["heap","lots","shares"] (defScope sAs):=⟨rfl,rfl,rfl,by decide +kernel,rfl,by decide +kernel,by decide +kernel⟩
def spAs:Sp:=fun vs H Q _=>∃ (h l a:Addr) (need:Int) (qs:List (Int×Int)) (ws:List V) (rs:List (List Int)) (as:List Addr) (shs:List LL) (B:Int),vs = [.ref h,.ref l,.ref a]/\HeapAt H h need qs/\H l = some (.lst ws)/\Rows H ws rs/\rs.length<=300/\
 H a = some (.tup (as.map V.ref))/\PqsAt H as shs/\shs.length<=300/\Pairy shs/\(shs.all (goodS rs) = true->OneB B (parts shs))/\
 ∀ (b:Bool) (H':Hp),L2.Same H H'->(b = true↔shs.all (goodS rs) = true/\risL (shs.map (·.1)) = true/\∀ q∈qs,takenL shs q.1<=q.2 * lcmL (parts shs) 1)->Q (.bl b) H'
theorem ok_as {f:Addr}{fd:FuncData} (F:Fun K "are_shares" "are_shares" sAs f fd) (cI:Callee CX0 P w K mg base "is_ratio" 2 ["thing"] (spIsR K)) (cR:Callee CX0 P w K mg base "is_rising" 1 ["things"] spRising) (cH:Callee CX0 P w K mg base "has_things_for" 3 ["heap","shares"] spHas) (mA:mg "all" = none):FnOk P w K mg base CX0 4 f fd ["heap","lots","shares"] spAs:=by
 refine Br.Fun.j F scAs (fun vs H Q E h=>?_) (fun cdv A outer s H vs Q E hr h=>?_)
 · obtain⟨_,_,_,_,_,_,_,_,_,_,rfl,_⟩:=h;rfl
 · obtain⟨hp,l,a,need,qs,ws,rs,as,shs,B,rfl,hh,hl,hR,hrl,ha,pq,hsl,py,ob,h⟩:=h
   have nd:=scAs.nd
   refine' ⟨_,?d,?r⟩
   case d=>wtm_at "body"
   case r=>
    have hsz:(sizeLine:Nat) = 16777216:=sizeLine_eq
    have hal:as.length = shs.length:=pq.1
    have hwl:=hR.1
    have sq:∀ {G:Hp},L2.Same H G->SqT K G a (as.map V.ref):=fun s=>SqT.of (s _ _ ha)
    refine⟨_,rfl,l,rfl,.inl ⟨⟨_,SqL.of hl⟩,?_⟩⟩
    refine cmpj_list (K:=K) (a:=l) (xs:=ws) (fun j ys σ G=>G = H/\ys.length<=j/\(∀ r,(valV ys (r.map Sum.inl)).isSome = true↔r∈rs.take j)/\∃ x x4:Option V,σ = [x,some (.ref hp),some (.ref l),some (.ref a),x4])
     ⟨rfl,Nat.le_refl _,fun r=>by rw [valV_nil];simp,none,none,rfl⟩ (by omega) (fun j ys σ G _ ⟨e,r,_⟩=>⟨by rw [e];exact SqL.of hl,r⟩) ?_ ?_
    · rintro j x ys σ G N hx ⟨rfl,hle,hkn,x1,x4,rfl⟩ hN
      obtain⟨b,zs,hz,rfl,hb'⟩:=hR.2 j x hx
      refine⟨_,rfl,b,zs.map Sum.inl,rfl,by rw [List.map_map];exact hb',hN _ _ _ ⟨rfl,?_,fun r=>?_,_,_,rfl⟩⟩
      · unfold putK;split <;> simp <;> omega
      · rw [valV_put,List.take_add_one,hz,List.mem_append,<- hkn r]
        by_cases e:r = zs
        · subst e;simp
        · rw [if_neg fun z=>e (inl_inj.mp z)]
          simp [e]
    rintro kvs σ G ⟨rfl,_,hkn,x1,x4,rfl⟩ d G1 nd1 s1 e1
    rw [hwl,List.take_length] at hkn
    refine⟨fun σ' G'=>L2.Same G G'/\shs.all (goodS rs) = true/\σ' = [some (.ref hp),some (.ref l),some (.ref a),some (.ref d)],?_,?_⟩
    · refine⟨_,rfl,a,rfl,.inr ⟨⟨_,sq s1⟩,?_⟩⟩
      refine cmp_tup (K:=K) (a:=a) (xs:=as.map V.ref) (fun j ys σ G'=>G' = G1/\ys = ((shs.map (goodS rs)).take j).map V.bl/\∃ x y:Option V,σ = [x,y,some (.ref hp),some (.ref l),some (.ref a),some (.ref d)])
       ⟨rfl,rfl,none,none,rfl⟩ (by rw [List.length_map];omega) (fun j ys σ G' hj ⟨e,r,_⟩=>⟨by rw [e];exact sq s1,by rw [r,List.length_map,List.length_take];exact Nat.min_le_left _ _⟩) ?_ ?_
      · rintro j x ys σ G' N hx ⟨rfl,rfl,x2,y2,rfl⟩ hN
        rw [List.getElem?_map] at hx
        obtain⟨ad,had,rfl⟩:=Option.map_eq_some_iff.mp hx
        obtain⟨q,c,e,hq,f1,f2,f3⟩:=pq.2 j ad had
        have pe:=pair_eq (py q (List.mem_of_getElem? hq)).1
        rw [pe] at f3
        have e8:(shs.map (goodS rs))[j]? = some (goodS rs q):=by rw [List.getElem?_map,hq];rfl
        have fin:∀ bb:Bool,bb = goodS rs q->((shs.map (goodS rs)).take j).map V.bl ++ [V.bl bb] = ((shs.map (goodS rs)).take (j + 1)).map V.bl:=fun bb hbb=>by
         rw [List.take_add_one,e8,List.map_append,hbb];rfl
        refine⟨ad,_,rfl,SqT.of (s1 _ _ f1),rfl,_,_,rfl,_,_,rfl,rfl,?_⟩
        refine⟨_,rfl,_,rfl,d,_,rfl,DGet.t (k:=q.1.map Sum.inl) e1 (by rw [List.map_map];exact s1 _ _ f2),_,rfl,?_⟩
        by_cases c1:q.1∈rs
        · refine iteT' ((hkn q.1).mpr c1) ?_
          refine⟨_,rfl,.ref e,_,rfl,Ra.both (s1 _ _ f3),_,rfl,?_⟩
          by_cases c2:(decide (1<=(partQ q).2) && decide (Int.gcd (partQ q).1 (partQ q).2 = 1)) = true
          · refine iteT' c2 ?_
            refine⟨_,rfl,.inr (.inl ⟨e,_,_,_,rfl,rfl,SqT.of (s1 _ _ f3),at0,?_⟩)⟩
            refine⟨_,_,rfl,rfl,hN _ _ _ ⟨rfl,fin _ ?_,_,_,rfl⟩⟩
            unfold goodS
            rw [decide_eq_true c1,c2];rfl
          · have c2:=eq_false_of_ne_true c2
            refine iteF' c2 (hN _ _ _ ⟨rfl,fin _ ?_,_,_,rfl⟩)
            unfold goodS
            rw [c2,Bool.and_false];rfl
        · refine iteF' (eq_false_of_ne_true fun z=>c1 ((hkn q.1).mp z)) (hN _ _ _ ⟨rfl,fin _ ?_,_,_,rfl⟩)
          unfold goodS
          rw [decide_eq_false c1];rfl
      · rintro ys σ G' ⟨rfl,rfl,x2,y2,rfl⟩ bl G2 nbl s2 e2
        rw [List.take_of_length_le (by rw [List.length_map,List.length_map,hal];exact Nat.le_refl _)] at e2
        refine⟨bl,_,rfl,SqL.of e2,_,rfl,?_⟩
        have ea:(shs.map (goodS rs)).all id = shs.all (goodS rs):=by rw [List.all_map];rfl
        by_cases c:shs.all (goodS rs) = true
        · refine iteF' (by show (!(shs.map (goodS rs)).all id) = false;rw [ea,c];rfl) ?_
          exact⟨s1.trans s2,c,rfl⟩
        · refine iteT' (by show (!(shs.map (goodS rs)).all id) = true;rw [ea,eq_false_of_ne_true c];rfl) ?_
          exact h false G2 (s1.trans s2) ⟨fun z=>(nomatch z),fun z=>absurd z.1 c⟩
    · rintro σ' G' ⟨sG,good,rfl⟩
      refine⟨_,rfl,a,rfl,.inr ⟨⟨_,sq sG⟩,?_⟩⟩
      refine cmp_tup (K:=K) (a:=a) (xs:=as.map V.ref) (fun j ys σ G2=>G2 = G'/\(∃ cs:List Addr,ys = cs.map V.ref/\cs.length = ((shs.map (·.1)).take j).length/\∀ (i:Nat) b u,cs[i]? = some b->((shs.map (·.1)).take j)[i]? = some u->G' b = some (.tup (u.map V.int)))/\∃ x y:Option V,σ = [x,y,some (.ref hp),some (.ref l),some (.ref a),some (.ref d)])
       ⟨rfl,⟨[],rfl,rfl,fun i b u hb=>by cases hb⟩,none,none,rfl⟩ (by rw [List.length_map];omega) (fun j ys σ G2 hj ⟨e,⟨cs,r1,r2,_⟩,_⟩=>⟨by rw [e];exact sq sG,by rw [r1,List.length_map,r2,List.length_take];exact Nat.min_le_left _ _⟩) ?_ ?_
      · rintro j x ys σ G2 N hx ⟨rfl,⟨cs,rfl,hcl,hcs⟩,x2,y2,rfl⟩ hN
        rw [List.getElem?_map] at hx
        obtain⟨ad,had,rfl⟩:=Option.map_eq_some_iff.mp hx
        obtain⟨q,c,e,hq,f1,f2,f3⟩:=pq.2 j ad had
        refine⟨ad,_,rfl,SqT.of (sG _ _ f1),rfl,_,_,rfl,_,_,rfl,rfl,?_⟩
        have e8:(shs.map (·.1))[j]? = some q.1:=by rw [List.getElem?_map,hq];rfl
        refine⟨_,rfl,hN _ _ _ ⟨rfl,⟨cs ++ [c],by rw [List.map_append];rfl,?_,fun i b u hb hu=>?_⟩,_,_,rfl⟩⟩
        · rw [List.take_add_one,e8,List.length_append,List.length_append,hcl];rfl
        · rw [List.take_add_one,e8] at hu
          by_cases hi:i < cs.length
          · rw [List.getElem?_append_left hi] at hb
            rw [List.getElem?_append_left (by omega)] at hu
            exact hcs i b u hb hu
          · have hi2:i = cs.length:=by have:=(List.getElem?_eq_some_iff.mp hb).1;rw [List.length_append] at this;simp at this;omega
            subst hi2
            rw [List.getElem?_append_right (Nat.le_refl _),Nat.sub_self] at hb
            rw [List.getElem?_append_right (by omega),hcl,Nat.sub_self] at hu
            cases hb
            cases hu
            exact sG _ _ f2
      · rintro ys σ G2 ⟨rfl,⟨cs,rfl,hcl,hcs⟩,x2,y2,rfl⟩ cl G3 ncl s3 e3
        rw [List.take_of_length_le (by rw [List.length_map,List.length_map,hal];exact Nat.le_refl _)] at hcl hcs
        refine⟨cl,cs,shs.map (·.1),rfl,e3,hcl,fun i b u hb hu=>s3 _ _ (hcs i b u hb hu),by rw [List.length_map];exact hsl,fun G4 s4=>?_⟩
        have sG4:=sG.trans (s3.trans s4)
        refine⟨_,rfl,?_⟩
        by_cases c:risL (shs.map (·.1)) = true
        · refine iteT' c ?_
          refine⟨_,rfl,_,rfl,hp,a,need,qs,as,shs,B,rfl,hh.tu (Tu.of sG4),sG4 _ _ ha,pq.same sG4,hsl,py,ob good,fun b G5 s5 hb=>?_⟩
          exact h b G5 (sG4.trans s5) (hb.trans ⟨fun z=>⟨good,c,z⟩,fun z=>z.2.2⟩)
        · refine iteF' (eq_false_of_ne_true c) ?_
          exact h false G4 sG4 ⟨fun z=>(nomatch z),fun z=>absurd z.2.1 c⟩
end
theorem rq_eq {t b t' b':Int} (hb:0 < b) (hb':0 < b') (e:t * b' = t' * b):rq t b = rq t' b':=by
 show (rN t b,rD t b) = (rN t' b',rD t' b')
 have h1:=r_across t b
 have h2:=r_across t' b'
 have d1:=rD_pos (t:=t) (b:=b) (by omega)
 have d2:=rD_pos (t:=t') (b:=b') (by omega)
 have g1:=r_low (t:=t) (b:=b) (by omega)
 have g2:=r_low (t:=t') (b:=b') (by omega)
 -- rN * rD' = rN' * rD
 have key:rN t b * rD t' b' = rN t' b' * rD t b:=by
  have m1:=rN_mul t b
  have m2:=rD_mul t b
  have m3:=rN_mul t' b'
  have m4:=rD_mul t' b'
  have n1:rg t b≠0:=rg_ne (by omega)
  have n2:rg t' b'≠0:=rg_ne (by omega)
  refine Int.eq_of_mul_eq_mul_left (a:=rg t b * rg t' b') (Int.mul_ne_zero n1 n2) ?_
  have e1:rg t b * rg t' b' * (rN t b * rD t' b') = (rN t b * rg t b) * (rD t' b' * rg t' b'):=by grind
  have e2:rg t b * rg t' b' * (rN t' b' * rD t b) = (rN t' b' * rg t' b') * (rD t b * rg t b):=by grind
  rw [e1,e2,m1,m2,m3,m4,e]
 generalize rN t b = n at *
 generalize rD t b = d at *
 generalize rN t' b' = n' at *
 generalize rD t' b' = d' at *
 have x1:d ∣ d':=by
  have:d ∣ n * d':=⟨n',by rw [key,Int.mul_comm]⟩
  have c:Nat.Coprime d.natAbs n.natAbs:=by rw [Nat.coprime_comm];exact g1
  exact Int.natAbs_dvd_natAbs.mp (c.dvd_of_dvd_mul_left (by rw [<- Int.natAbs_mul];exact Int.natAbs_dvd_natAbs.mpr this))
 have x2:d' ∣ d:=by
  have:d' ∣ n' * d:=⟨n,by rw [<- key,Int.mul_comm]⟩
  have c:Nat.Coprime d'.natAbs n'.natAbs:=by rw [Nat.coprime_comm];exact g2
  exact Int.natAbs_dvd_natAbs.mp (c.dvd_of_dvd_mul_left (by rw [<- Int.natAbs_mul];exact Int.natAbs_dvd_natAbs.mpr this))
 have x3:d = d':=Int.dvd_antisymm (by omega) (by omega) x1 x2
 subst x3
 have x4:n = n':=Int.eq_of_mul_eq_mul_right (by omega) key
 rw [x4]
theorem top_mul {t d L:Int} (hd:0 < d) (h:rD t d ∣ L):rN t d * (L / rD t d) * d = t * L:=by
 have h1:=r_across t d
 have h2:=rD_pos (t:=t) (b:=d) (by omega)
 obtain⟨m,hm⟩:=h
 rw [hm,Int.mul_ediv_cancel_left _ (by omega)]
 have e1:rN t d * m * d = (rN t d * d) * m:=by grind
 rw [e1,h1]
 grind
theorem sm_left {f:Nat->Int}:∀ {n:Nat},sm (n + 1) f = f 0 + sm n fun k=>f (k + 1)
 | 0=>by show 0 + f 0 = f 0 + 0;omega
 | n + 1=>by rw [sm,sm_left,sm];omega
theorem sum_sm {α:Type}{g:α->Int}:∀ {l:List α}{h:Nat->Int},(∀ k x,l[k]? = some x->h k = g x)->(l.map g).sum = sm l.length h
 | [],_,_=>rfl
 | x :: l,h,hh=>by
  rw [List.map_cons,List.sum_cons,List.length_cons,sm_left,sum_sm (h:=fun k=>h (k + 1)) fun k y hk=>hh (k + 1) y hk,hh 0 x rfl]
theorem perm_sum {l m:List Int} (p:l.Perm m):l.sum = m.sum:=by
 induction p with
 | nil=>rfl
 | cons x _ ih=>rw [List.sum_cons,List.sum_cons,ih]
 | swap x y l=>rw [List.sum_cons,List.sum_cons,List.sum_cons,List.sum_cons];omega
 | trans _ _ h1 h2=>exact h1.trans h2
theorem dlook_sum {s:Int}:∀ {ks:List (Int×Int)},(ks.map (·.1)).Nodup->(ks.map fun q=>if q.1 = s then q.2 else 0).sum = (dlook ks s).getD 0
 | [],_=>rfl
 | q :: ks,nd=>by
  rw [List.map_cons,List.nodup_cons] at nd
  rw [List.map_cons,List.sum_cons,dlook_cons,dlook_sum nd.2]
  by_cases e:q.1 = s
  · rw [if_pos e,if_pos e,dlook_none (by rw [<- e];exact nd.1)]
    show q.2 + 0 = q.2
    omega
  · rw [if_neg e,if_neg e,Int.zero_add]
theorem map_add_sum {α:Type}{f g:α->Int}:∀ (l:List α),(l.map fun x=>f x + g x).sum = (l.map f).sum + (l.map g).sum
 | []=>rfl
 | x :: l=>by rw [List.map_cons,List.map_cons,List.map_cons,List.sum_cons,List.sum_cons,List.sum_cons,map_add_sum l];omega
theorem count_sum {ks:List (Int×Int)} (nd:(ks.map (·.1)).Nodup):∀ r:List Int,(r.map fun s=>(dlook ks s).getD 0).sum = (ks.map fun q=>(r.count q.1:Int) * q.2).sum
 | []=>by
  induction ks with
  | nil=>rfl
  | cons q ks ih=>
   rw [List.map_cons,List.nodup_cons] at nd
   have:=ih nd.2
   rw [List.map_cons,List.sum_cons,<- this,List.count_nil]
   simp
 | s :: r=>by
  rw [List.map_cons,List.sum_cons,count_sum nd r,<- dlook_sum nd,<- map_add_sum]
  congr 1
  refine List.map_congr_left fun q _=>?_
  rw [List.count_cons]
  by_cases e:q.1 = s
  · rw [if_pos e,if_pos (by simp [e])]
    rw [Int.natCast_add,Int.add_mul];simp;omega
  · rw [if_neg e,if_neg (by simp;exact fun z=>e z.symm)]
    simp
section
variable {qs:List (Int×Int)}{rs:List (List Int)}{U:List Nat}
abbrev dU (qs:List (Int×Int)) (rs:List (List Int)) (U:List Nat):Int:=D qs.length (colOf qs rs) (sOf qs.length rs.length U)
abbrev tU (qs:List (Int×Int)) (rs:List (List Int)) (U:List Nat) (i j:Nat):Int:=T qs.length (colOf qs rs) (sOf qs.length rs.length U) i j
theorem B_pos (b:Best qs rs U):0 < dU qs rs U:=b.us.b.pos
theorem B_top (b:Best qs rs U) {j:Nat} (h:j < rs.length + qs.length + 1):0<=tU qs rs U qs.length j:=b.top j h
theorem B_cost (ok:LotsOk qs rs) (b:Best qs rs U) {j:Nat} (h:j < rs.length):tU qs rs U qs.length j + dU qs rs U = sm qs.length fun k=>tU qs rs U qs.length (rs.length + k) * colOf qs rs j k:=b.us.b.cost ok.t.task h
theorem B_worth (ok:LotsOk qs rs) (b:Best qs rs U):tU qs rs U qs.length (rs.length + qs.length) = sm qs.length fun k=>tU qs rs U qs.length (rs.length + k) * colOf qs rs (rs.length + qs.length) k:=b.us.b.worth ok.t.task
theorem B_total (ok:LotsOk qs rs) (b:Best qs rs U):tU qs rs U qs.length (rs.length + qs.length) = sm qs.length fun i=>if sOf qs.length rs.length U i < rs.length then tU qs rs U i (rs.length + qs.length) else 0:=b.us.b.total ok.t.task
theorem B_used (ok:LotsOk qs rs) (b:Best qs rs U) {k:Nat} (h:k < qs.length):dU qs rs U * colOf qs rs (rs.length + qs.length) k = sm qs.length fun i=>tU qs rs U i (rs.length + qs.length) * colOf qs rs (sOf qs.length rs.length U i) k:=b.us.b.used ok.t.task h
theorem B_fe (b:Best qs rs U) {i:Nat} (h:i < qs.length):0<=tU qs rs U i (rs.length + qs.length):=b.us.b.fe i h
theorem prc_len:(prcS qs rs U).length = qs.length:=by unfold prcS;simp
theorem prc_at {k:Nat} (h:k < qs.length):(prcS qs rs U)[k]? = some (rq (tU qs rs U qs.length (rs.length + k)) (dU qs rs U)):=by
 unfold prcS;rw [List.getElem?_map,List.getElem?_range h];rfl
theorem prc_one (ok:LotsOk qs rs) (b:Best qs rs U):OneB (dU qs rs U) (prcS qs rs U)/\∀ q∈prcS qs rs U,Int.gcd q.1 q.2 = 1/\0<=q.1:=by
 have bd:=piv_bd ok.t ok.r60 ok.q13 ok.n16 b.us.b
 have hd:=B_pos b
 have each:∀ q∈prcS qs rs U,∃ k,k < qs.length/\q = rq (tU qs rs U qs.length (rs.length + k)) (dU qs rs U):=fun q hq=>by
  unfold prcS at hq
  obtain⟨k,hk,e⟩:=List.mem_map.mp hq
  exact⟨k,List.mem_range.mp hk,e.symm⟩
 refine⟨⟨hd,bd.2,fun q hq=>?_⟩,fun q hq=>?_⟩
 · obtain⟨k,hk,rfl⟩:=each q hq
   refine⟨rD_pos (by omega),⟨rg _ _,(rD_mul _ _).symm⟩,(bd.1 qs.length (rs.length + k) (by omega) (by omega)).le (rN_le _ _)⟩
 · obtain⟨k,hk,rfl⟩:=each q hq
   refine⟨r_low (by omega),?_⟩
   have h1:=B_top b (show rs.length + k < rs.length + qs.length + 1 by omega)
   show 0<=rN _ _
   have h2:=r_across (tU qs rs U qs.length (rs.length + k)) (dU qs rs U)
   have h3:=rD_pos (t:=tU qs rs U qs.length (rs.length + k)) (b:=dU qs rs U) (by omega)
   have h4:0<=rN (tU qs rs U qs.length (rs.length + k)) (dU qs rs U) * dU qs rs U:=by rw [h2];exact Int.mul_nonneg h1 (by omega)
   exact Int.le_of_mul_le_mul_right (by rw [Int.zero_mul];exact h4) hd
theorem prc_tops (ok:LotsOk qs rs) (b:Best qs rs U) {k:Nat} (h:k < qs.length):∃ t,(tops (prcS qs rs U))[k]? = some t/\t * dU qs rs U = tU qs rs U qs.length (rs.length + k) * lcmL (prcS qs rs U) 1:=by
 obtain⟨r0,r2,r3,bL⟩:=one_facts (prc_one ok b).1
 refine⟨_,by unfold tops;rw [List.getElem?_map,prc_at h];rfl,?_⟩
 exact top_mul (B_pos b) (r3 _ (List.mem_of_getElem? (prc_at h)))
theorem prc_cost (ok:LotsOk qs rs) (b:Best qs rs U) (ris:Ris qs) {r:List Int} (hr:r∈rs):lcmL (prcS qs rs U) 1<=costL qs (prcS qs rs U) r:=by
 obtain⟨j,hj,e⟩:=List.getElem_of_mem hr
 have ej:rs[j]? = some r:=by rw [List.getElem?_eq_getElem hj,e]
 obtain⟨r0,r2,r3,bL⟩:=one_facts (prc_one ok b).1
 have hd:=B_pos b
 have pl:=prc_len (qs:=qs) (rs:=rs) (U:=U)
 have key:dU qs rs U * costL qs (prcS qs rs U) r = lcmL (prcS qs rs U) 1 * (tU qs rs U qs.length j + dU qs rs U):=by
  unfold costL
  rw [count_sum (by rw [cst_keys pl];exact ris.nodup),sum_sm (h:=fun k=>(r.count ((qs[k]?).getD (0,0)).1:Int) * ((tops (prcS qs rs U))[k]?).getD 0),cst_len pl,B_cost ok b hj,<- sm_mul,<- sm_mul]
  · refine sm_congr fun k hk=>?_
    obtain⟨t,ht,e1⟩:=prc_tops ok b hk
    have ek:=List.getElem?_eq_getElem hk
    rw [col_lot ej ek,ht,ek]
    show dU qs rs U * ((r.count qs[k].1:Int) * t) = _
    have:dU qs rs U * ((r.count qs[k].1:Int) * t) = (r.count qs[k].1:Int) * (t * dU qs rs U):=by grind
    rw [this,e1]
    grind
  · intro k x hx
    unfold cst at hx
    rw [List.getElem?_zipWith] at hx
    cases h1:qs[k]? with
    | none=>rw [h1] at hx;cases hx
    | some q=>
     cases h2:(tops (prcS qs rs U))[k]? with
     | none=>rw [h1,h2] at hx;cases hx
     | some t=>rw [h1,h2] at hx;cases hx;rfl
 refine Int.le_of_mul_le_mul_left (a:=dU qs rs U) ?_ hd
 rw [key,Int.mul_comm]
 refine Int.mul_le_mul_of_nonneg_left ?_ (by omega)
 have:=B_top b (show j < rs.length + qs.length + 1 by omega)
 omega
theorem prc_worth (ok:LotsOk qs rs) (b:Best qs rs U):costQ qs (prcS qs rs U) = rq (tU qs rs U qs.length (rs.length + qs.length)) (dU qs rs U):=by
 obtain⟨r0,r2,r3,bL⟩:=one_facts (prc_one ok b).1
 have hd:=B_pos b
 unfold costQ
 refine rq_eq r0 hd ?_
 have tl:(tops (prcS qs rs U)).length = qs.length:=by unfold tops;rw [List.length_map,prc_len]
 have e:List.zipWith (fun (q:Int×Int) (t:Int)=>q.2 * t) qs (tops (prcS qs rs U)) = (List.zip qs (tops (prcS qs rs U))).map fun x=>x.1.2 * x.2:=by rw [List.map_zip_eq_zipWith];rfl
 rw [e,sum_sm (h:=fun k=>((qs[k]?).getD (0,0)).2 * ((tops (prcS qs rs U))[k]?).getD 0),List.length_zip,tl,Nat.min_self,B_worth ok b,Int.mul_comm,<- sm_mul]
 · rw [Int.mul_comm,<- sm_mul]
   refine sm_congr fun k hk=>?_
   obtain⟨t,ht,e1⟩:=prc_tops ok b hk
   have ek:=List.getElem?_eq_getElem hk
   rw [ht,ek,col_many ek]
   show dU qs rs U * (qs[k].2 * t) = _
   have:dU qs rs U * (qs[k].2 * t) = qs[k].2 * (t * dU qs rs U):=by grind
   rw [this,e1]
   grind
 · intro k x hx
   rw [List.getElem?_zip_eq_some] at hx
   rw [hx.1,hx.2];rfl
end
section
variable {qs:List (Int×Int)}{rs:List (List Int)}{U:List Nat}{shs:List LL}
abbrev isSh (qs:List (Int×Int)) (rs:List (List Int)) (U:List Nat) (i:Nat):Prop:=sOf qs.length rs.length U i < rs.length/\0 < tU qs rs U i (rs.length + qs.length)
abbrev shAt (qs:List (Int×Int)) (rs:List (List Int)) (U:List Nat) (i:Nat):LL:=((rs[sOf qs.length rs.length U i]?).getD [],[rN (tU qs rs U i (rs.length + qs.length)) (dU qs rs U),rD (tU qs rs U i (rs.length + qs.length)) (dU qs rs U)])
theorem raw_eq (i:Nat):rawAt qs rs U i = if isSh qs rs U i then [shAt qs rs U i] else []:=rfl
theorem raw_mem {x:LL}{k:Nat} (h:x∈rawS qs rs U k):∃ i,i < k/\isSh qs rs U i/\x = shAt qs rs U i:=by
 unfold rawS at h
 obtain⟨i,hi,hx⟩:=List.mem_flatMap.mp h
 rw [raw_eq] at hx
 by_cases c:isSh qs rs U i
 · rw [if_pos c] at hx
   exact⟨i,List.mem_range.mp hi,c,List.mem_singleton.mp hx⟩
 · rw [if_neg c] at hx;cases hx
theorem raw_sum (g:LL->Int):∀ k,((rawS qs rs U k).map g).sum = sm k fun i=>if isSh qs rs U i then g (shAt qs rs U i) else 0
 | 0=>rfl
 | k + 1=>by
  rw [rawS_succ,List.map_append,List.sum_append,raw_sum g k,sm,raw_eq]
  congr 1
  by_cases c:isSh qs rs U k
  · rw [if_pos c,if_pos c];simp
  · rw [if_neg c,if_neg c];rfl
theorem sh_sum (p:shs.Perm (rawS qs rs U qs.length)) (g:LL->Int):(shs.map g).sum = sm qs.length fun i=>if isSh qs rs U i then g (shAt qs rs U i) else 0:=by
 rw [perm_sum (p.map g),raw_sum]
theorem sh_mem (p:shs.Perm (rawS qs rs U qs.length)) {x:LL} (h:x∈shs):∃ i,i < qs.length/\isSh qs rs U i/\x = shAt qs rs U i:=raw_mem (p.mem_iff.mp h)
theorem sh_lot {i:Nat} (h:isSh qs rs U i):rs[sOf qs.length rs.length U i]? = some (shAt qs rs U i).1:=by
 have e:=List.getElem?_eq_getElem h.1
 show rs[sOf qs.length rs.length U i]? = some ((rs[sOf qs.length rs.length U i]?).getD [])
 rw [e];rfl
theorem sh_one (ok:LotsOk qs rs) (b:Best qs rs U) (p:shs.Perm (rawS qs rs U qs.length)):OneB (dU qs rs U) (parts shs):=by
 have bd:=piv_bd ok.t ok.r60 ok.q13 ok.n16 b.us.b
 have hd:=B_pos b
 refine⟨hd,bd.2,fun q hq=>?_⟩
 unfold parts at hq
 obtain⟨x,hx,rfl⟩:=List.mem_map.mp hq
 obtain⟨i,hi,c,rfl⟩:=sh_mem p hx
 show 0 < rD _ _/\rD _ _ ∣ _/\Bd 1000 (rN _ _)
 exact⟨rD_pos (by omega),⟨rg _ _,(rD_mul _ _).symm⟩,(bd.1 i (rs.length + qs.length) (by omega) (by omega)).le (rN_le _ _)⟩
theorem sh_pairy (ok:LotsOk qs rs) (p:shs.Perm (rawS qs rs U qs.length)):Pairy shs:=fun x hx=>by
 obtain⟨i,hi,c,rfl⟩:=sh_mem p hx
 refine⟨rfl,?_⟩
 have:=ok.r60 _ (List.mem_of_getElem? (sh_lot c))
 omega
theorem sh_len (p:shs.Perm (rawS qs rs U qs.length)):shs.length<=qs.length:=by
 rw [p.length_eq]
 have:∀ k,(rawS qs rs U k).length<=k:=fun k=>by
  induction k with
  | zero=>exact Nat.le_refl _
  | succ k ih=>
   rw [rawS_succ,List.length_append,raw_eq]
   split <;> simp <;> omega
 exact this _
theorem sh_good (ok:LotsOk qs rs) (b:Best qs rs U) (p:shs.Perm (rawS qs rs U qs.length)):shs.all (goodS rs) = true:=by
 rw [List.all_eq_true]
 intro x hx
 obtain⟨i,hi,c,rfl⟩:=sh_mem p hx
 have hd:=B_pos b
 have d1:=rD_pos (t:=tU qs rs U i (rs.length + qs.length)) (b:=dU qs rs U) (by omega)
 have d2:=r_low (t:=tU qs rs U i (rs.length + qs.length)) (b:=dU qs rs U) (by omega)
 have d3:=r_across (tU qs rs U i (rs.length + qs.length)) (dU qs rs U)
 have d4:0 < rN (tU qs rs U i (rs.length + qs.length)) (dU qs rs U):=by
  refine Int.lt_of_mul_lt_mul_right (a:=dU qs rs U) ?_ (by omega)
  rw [Int.zero_mul,d3]
  exact Int.mul_pos c.2 d1
 unfold goodS
 rw [decide_eq_true (List.mem_of_getElem? (sh_lot c))]
 show (true && (decide (1<=rD _ _) && decide (Int.gcd (rN _ _) (rD _ _) = 1)) && decide (0 < rN _ _)) = true
 rw [decide_eq_true d4,decide_eq_true d2,decide_eq_true (show 1<=rD _ _ from d1)];rfl
theorem raw_nodup (b:Best qs rs U) (nd:rs.Nodup):((rawS qs rs U qs.length).map (·.1)).Nodup:=by
 unfold rawS
 rw [List.map_flatMap]
 refine List.pairwise_flatMap.mpr ⟨fun i _=>?_,?_⟩
 · rw [raw_eq];split <;> simp
 · refine List.Pairwise.imp_of_mem (fun {i j} hi hj hij x hx y hy e=>?_) (List.pairwise_lt_range (n:=qs.length))
   rw [raw_eq] at hx hy
   by_cases c:isSh qs rs U i
   · by_cases c':isSh qs rs U j
     · rw [if_pos c] at hx
       rw [if_pos c'] at hy
       have hx:x = (shAt qs rs U i).1:=by simpa using hx
       have hy:y = (shAt qs rs U j).1:=by simpa using hy
       have h1:=sh_lot c
       have h2:=sh_lot c'
       rw [<- hx,e,hy,<- h2] at h1
       have h3:=(List.getElem?_inj c.1 nd).mp h1
       have:=b.us.b.inj (show i < qs.length + 1 by have:=List.mem_range.mp hi;omega) (show j < qs.length + 1 by have:=List.mem_range.mp hj;omega) h3
       omega
     · rw [if_neg c'] at hy;cases hy
   · rw [if_neg c] at hx;cases hx
theorem sh_ris (b:Best qs rs U) (nd:rs.Nodup) (p:shs.Perm (rawS qs rs U qs.length)) (w:shs.Pairwise (fun u v=>qLt v u = false)):risL (shs.map (·.1)) = true:=by
 have nd':(shs.map (·.1)).Nodup:=(p.map _).nodup_iff.mpr (raw_nodup b nd)
 refine risL_iff.mpr fun i u v hu hv=>?_
 rw [List.getElem?_map] at hu hv
 obtain⟨x,hx,rfl⟩:=Option.map_eq_some_iff.mp hu
 obtain⟨y,hy,rfl⟩:=Option.map_eq_some_iff.mp hv
 obtain⟨h1,e1⟩:=List.getElem?_eq_some_iff.mp hx
 obtain⟨h2,e2⟩:=List.getElem?_eq_some_iff.mp hy
 have q:=List.pairwise_iff_getElem.mp w i (i + 1) h1 h2 (by omega)
 have n:=List.pairwise_iff_getElem.mp nd' i (i + 1) (by rw [List.length_map];exact h1) (by rw [List.length_map];exact h2) (by omega)
 rw [List.getElem_map,List.getElem_map,e1,e2] at n
 rw [e1,e2] at q
 unfold qLt at q
 rw [if_neg (Ne.symm n)] at q
 rcases lexLt_total x.1 y.1 with h | h | h
 · exact h
 · exact absurd h n
 · rw [q] at h;cases h
theorem sh_taken (ok:LotsOk qs rs) (b:Best qs rs U) (p:shs.Perm (rawS qs rs U qs.length)) {q:Int×Int} (hq:q∈qs):takenL shs q.1<=q.2 * lcmL (parts shs) 1:=by
 obtain⟨k,hk,e⟩:=List.getElem_of_mem hq
 have ek:qs[k]? = some q:=by rw [List.getElem?_eq_getElem hk,e]
 have one:=sh_one ok b p
 obtain⟨r0,r2,r3,bL⟩:=one_facts one
 have hd:=B_pos b
 have e1:takenL shs q.1 = (shs.map fun x=>(partQ x).1 * (lcmL (parts shs) 1 / (partQ x).2) * (x.1.count q.1:Int)).sum:=by
  unfold takenL tops
  congr 1
  refine List.ext_getElem? fun i=>?_
  rw [List.getElem?_zipWith,List.getElem?_map,List.getElem?_map]
  unfold parts
  rw [List.getElem?_map]
  cases shs[i]? <;> rfl
 refine Int.le_of_mul_le_mul_left (a:=dU qs rs U) ?_ hd
 have e2:dU qs rs U * takenL shs q.1 = lcmL (parts shs) 1 * sm qs.length fun i=>if isSh qs rs U i then tU qs rs U i (rs.length + qs.length) * colOf qs rs (sOf qs.length rs.length U i) k else 0:=by
  rw [e1,sh_sum p,<- sm_mul,<- sm_mul]
  refine sm_congr fun i hi=>?_
  by_cases c:isSh qs rs U i
  · rw [if_pos c,if_pos c,col_lot (sh_lot c) ek]
    have hm:shAt qs rs U i∈shs:=p.mem_iff.mpr (by unfold rawS;exact List.mem_flatMap.mpr ⟨i,List.mem_range.mpr hi,by rw [raw_eq,if_pos c];exact .head _⟩)
    have hdv:rD (tU qs rs U i (rs.length + qs.length)) (dU qs rs U) ∣ lcmL (parts shs) 1:=r3 _ (List.mem_map.mpr ⟨_,hm,rfl⟩)
    have tm:=top_mul hd hdv
    show dU qs rs U * (rN _ _ * (lcmL (parts shs) 1 / rD _ _) * ((shAt qs rs U i).1.count q.1:Int)) = _
    generalize ((shAt qs rs U i).1.count q.1:Int) = cc at *
    have:dU qs rs U * (rN (tU qs rs U i (rs.length + qs.length)) (dU qs rs U) * (lcmL (parts shs) 1 / rD (tU qs rs U i (rs.length + qs.length)) (dU qs rs U)) * cc) = (rN (tU qs rs U i (rs.length + qs.length)) (dU qs rs U) * (lcmL (parts shs) 1 / rD (tU qs rs U i (rs.length + qs.length)) (dU qs rs U)) * dU qs rs U) * cc:=by grind
    rw [this,tm]
    grind
  · rw [if_neg c,if_neg c,Int.mul_zero,Int.mul_zero]
 have e3:=B_used ok b hk
 rw [col_many ek] at e3
 have e4:dU qs rs U * (q.2 * lcmL (parts shs) 1) = lcmL (parts shs) 1 * (dU qs rs U * q.2):=by grind
 rw [e2,e4,e3]
 refine Int.mul_le_mul_of_nonneg_left ?_ (by omega)
 have le:∀ m,m<=qs.length->(sm m fun i=>if isSh qs rs U i then tU qs rs U i (rs.length + qs.length) * colOf qs rs (sOf qs.length rs.length U i) k else 0)<=sm m fun i=>tU qs rs U i (rs.length + qs.length) * colOf qs rs (sOf qs.length rs.length U i) k:=fun m=>by
  induction m with
  | zero=>exact fun _=>Int.le_refl _
  | succ m ih=>
   intro hm
   have h1:=ih (by omega)
   have h2:0<=tU qs rs U m (rs.length + qs.length) * colOf qs rs (sOf qs.length rs.length U m) k:=Int.mul_nonneg (B_fe b (by omega)) (ok.t.task.pos (b.us.b.lt m (by omega)) hk)
   rw [sm,sm]
   by_cases c:isSh qs rs U m
   · rw [if_pos c];omega
   · rw [if_neg c];omega
 exact le _ (Nat.le_refl _)
theorem sh_total (ok:LotsOk qs rs) (b:Best qs rs U) (p:shs.Perm (rawS qs rs U qs.length)):sumQ (parts shs) = rq (tU qs rs U qs.length (rs.length + qs.length)) (dU qs rs U):=by
 have one:=sh_one ok b p
 obtain⟨r0,r2,r3,bL⟩:=one_facts one
 have hd:=B_pos b
 unfold sumQ
 refine rq_eq r0 hd ?_
 have e1:(tops (parts shs)).sum = (shs.map fun x=>(partQ x).1 * (lcmL (parts shs) 1 / (partQ x).2)).sum:=by
  unfold tops
  congr 1
  unfold parts
  rw [List.map_map];rfl
 rw [e1,sh_sum p,B_total ok b,Int.mul_comm,<- sm_mul,Int.mul_comm,<- sm_mul]
 refine sm_congr fun i hi=>?_
 have fe:=B_fe b hi
 by_cases c:isSh qs rs U i
 · rw [if_pos c,if_pos c.1]
   have hm:shAt qs rs U i∈shs:=p.mem_iff.mpr (by unfold rawS;exact List.mem_flatMap.mpr ⟨i,List.mem_range.mpr hi,by rw [raw_eq,if_pos c];exact .head _⟩)
   have hdv:rD (tU qs rs U i (rs.length + qs.length)) (dU qs rs U) ∣ lcmL (parts shs) 1:=r3 _ (List.mem_map.mpr ⟨_,hm,rfl⟩)
   have tm:=top_mul hd hdv
   show dU qs rs U * (rN _ _ * (lcmL (parts shs) 1 / rD _ _)) = _
   rw [Int.mul_comm,tm,Int.mul_comm]
 · rw [if_neg c]
   by_cases c1:sOf qs.length rs.length U i < rs.length
   · rw [if_pos c1]
     have:¬ 0 < tU qs rs U i (rs.length + qs.length):=fun z=>c ⟨c1,z⟩
     have z:tU qs rs U i (rs.length + qs.length) = 0:=by omega
     rw [z,Int.mul_zero,Int.mul_zero]
   · rw [if_neg c1,Int.mul_zero,Int.mul_zero]
end
theorem told_one {us us' rs:List (List Int)} (p:us.Perm rs) (p':us'.Perm rs) (w:us.Pairwise (fun u v=>HT.lexLt v u = false)) (w':us'.Pairwise (fun u v=>HT.lexLt v u = false)):us' = us:=by
 refine List.Perm.eq_of_pairwise (fun u v _ _ z1 z2=>?_) w' w (p'.trans p.symm)
 rcases lexLt_total u v with h | h | h
 · rw [h] at z2;cases z2
 · exact h
 · rw [h] at z1;cases z1
theorem leans_nd {need:Int}{qs:List (Int×Int)}{rs:List (List Int)} (e:leansQ need qs = some rs) (ok:HOk8 need qs):rs.Nodup:=by
 unfold leansQ at e
 rw [tot_totK] at e
 exact leans_nodup e (by have:=ok.n0;omega) (fun q hq=>⟨(ok.bd q hq).1,by have:=(ok.bd q hq).2.2.1;omega⟩) ok.ris
theorem lots_in {need:Int}{qs:List (Int×Int)}{rs us:List (List Int)} (e:leansQ need qs = some rs) (ok:HOk8 need qs) (p:us.Perm rs):∀ r∈us,r.length<=60/\∀ s∈r,s∈qs.map (·.1):=fun r hr=>by
 obtain⟨h1,h2,h3⟩:=leans_of e ok
 have hm:=p.mem_iff.mp hr
 refine⟨h2 r hm,fun s hs=>?_⟩
 obtain⟨q,hq,e⟩:=((h1 r).mp hm).1.mem s hs
 exact List.mem_map.mpr ⟨q,hq,e⟩
theorem eqv_pair (a b:Int):PyData.eqv (.tuple [.int a,.int b]) (.tuple [.int a,.int b]) = true:=SeqAt.eqv_refl _ (pl_ints2 a b).1
theorem rep_pair {H:Hp}{p:Addr}{a b:Int} (h:H p = some (.tup [.int a,.int b])):Rep H (.ref p) (.tuple [.int a,.int b]):=.tup h (.cons (.int a) (.cons (.int b) .nil))
section
local macro_rules | `(tactic| wtm_at "cop")=>`(tactic| (apply c_eqD;assumption))
local macro_rules | `(tactic| wtm_at "pe")=>`(tactic| (apply j_callX;(assumption);(exact passF);(wtm_at "room");(rfl);(decide +kernel);(rfl);(rfl);(wtm_at "pa")))
variable {P:Program}{w:World}{K:PySem.W.Frag}{mg:Str->Option Value}{base:Heap}
abbrev sSr:Stmt:=top 39
theorem scSr:FnScope ["heap","told","lots","total","shares","prices"] ["heap","told"] (defScope sSr):=⟨rfl,rfl,rfl,by decide +kernel,rfl,by decide +kernel,by decide +kernel⟩
def spSr (C:Addr):Sp:=fun vs H Q E=>∃ (h p:Addr) (need:Int) (qs:List (Int×Int)) (rs us:List (List Int)) (tot:Int×Int) (shs:List LL) (prs:List (Int×Int)),vs = [.ref h,.ref p]/\HeapAt H h need qs/\leansQ need qs = some rs/\rs.length < 64/\us.Perm rs/\us.Pairwise (fun u v=>HT.lexLt v u = false)/\IsBest qs us tot shs prs/\SharesAt H p tot shs prs/\
 ∀ H',L2.Same H H'->Q (.bl true) H'
theorem ok_sr {f:Addr}{fd:FuncData}{C:Addr} (F:Fun K "shares_right" "shares_right" sSr f fd) (cL:Callee (CXF P w) P w K mg base "lean_lots" 3 ["heap"] (spLean C)) (cA:Callee CX0 P w K mg base "are_shares" 4 ["heap","lots","shares"] spAs) (cP:Callee CX0 P w K mg base "are_prices" 4 ["heap","lots","prices"] (spAp K))
 (cS:Callee CX0 P w K mg base "sum_of" 3 ["ratios"] (spSum K)) (cC:Callee CX0 P w K mg base "cost_of" 3 ["heap","prices"] (spCost K)):FnOk P w K mg base (CXF P w) 5 f fd ["heap","told"] (spSr C):=by
 refine Br.Fun.jX F scSr (fun vs H Q E h=>?_) (fun cdv A outer s H vs Q E hr h=>?_)
 · obtain⟨_,_,_,_,_,_,_,_,_,rfl,_⟩:=h;rfl
 · obtain⟨hp,p,need,qs,rs,us,tot,shs,prs,rfl,hh,hle,few,pm,pw,ib,sa,h⟩:=h
   have nd:=scSr.nd
   refine' ⟨_,?d,?r⟩
   case d=>wtm_at "body"
   case r=>
    have hok:HOk8 need qs:=let ⟨_,_,_,_,_,_,_,h4⟩:=hh;h4
    have ok:=lots_ok hle hok pm
    obtain⟨⟨U,best,rfl,shp,rfl⟩,shw⟩:=ib
    obtain⟨tp,sp,pp,as,ps,e1,e2,e3,pq,e4,kp⟩:=sa.ex
    have hsz:(sizeLine:Nat) = 16777216:=sizeLine_eq
    have one:=sh_one ok best shp
    have py:=sh_pairy ok shp
    have sl:=sh_len shp
    have n16:=ok.n16
    have usnd:us.Nodup:=pm.nodup_iff.mpr (leans_nd hle hok)
    have al:as.length = shs.length:=pq.1
    refine⟨_,rfl,hp,need,qs,rfl,hh,(fun rs' e'=>by rw [hle] at e';cases e';exact few),(fun z=>by rw [hle] at z;cases z),fun rs' er l H1 nl s1 told=>?_⟩
    rw [hle] at er;cases er
    obtain⟨bs,us',f1,f2,pm',pw'⟩:=told
    have eu:=told_one pm pm' pw pw'
    subst eu
    refine⟨_,rfl,p,_,rfl,SqT.of (s1 _ _ e1),rfl,_,_,rfl,_,_,rfl,_,_,rfl,rfl,?_⟩
    refine⟨fun σ' G'=>L2.Same H1 G'/\σ' = [some (.ref hp),some (.ref p),some (.ref l),some (.ref tp),some (.ref sp),some (.ref pp)],?_,?_⟩
    · refine⟨_,rfl,_,rfl,_,rfl,hp,l,sp,need,qs,_,us',as,shs,dU qs us' U,rfl,hh.tu (Tu.of s1),f1,f2,ok.L300,s1 _ _ e3,pq.same s1,by omega,py,fun _=>one,fun b G s2 hb=>?_⟩
      have bt:b = true:=hb.mpr ⟨sh_good ok best shp,sh_ris best usnd shp shw,fun q hq=>sh_taken ok best shp hq⟩
      subst bt
      refine⟨_,rfl,iteF' rfl ?_⟩
      have s12:=s1.trans s2
      obtain⟨po,pg⟩:=prc_one ok best
      refine⟨_,rfl,_,rfl,_,rfl,hp,l,pp,need,qs,_,us',ps,prcS qs us' U,dU qs us' U,rfl,hh.tu (Tu.of s12),s2 _ _ f1,f2.same s2,ok.L300,lots_in hle hok pm,s12 _ _ e4,kp.same s12,prc_len,po,pg,fun b G3 s3 hb=>?_⟩
      have bt:b = true:=hb.mpr fun r hr=>prc_cost ok best hok.ris hr
      subst bt
      refine⟨_,rfl,iteF' rfl ⟨s2.trans s3,rfl⟩⟩
    · rintro σ' G' ⟨sG,rfl⟩
      have s1G:=s1.trans sG
      have sq:∀ {G:Hp},L2.Same G' G->SqT K G sp (as.map V.ref):=fun s=>SqT.of ((s1G.trans s) _ _ e3)
      refine⟨_,rfl,sp,rfl,.inr ⟨⟨_,sq (L2.Same.refl _)⟩,?_⟩⟩
      refine cmp_tup (K:=K) (a:=sp) (xs:=as.map V.ref) (fun j ys σ G=>G = G'/\Kinds G ys ((parts shs).take j)/\∃ x y:Option V,σ = [x,y,some (.ref hp),some (.ref p),some (.ref l),some (.ref tp),some (.ref sp),some (.ref pp)])
       ⟨rfl,Kinds.nil,none,none,rfl⟩ (by rw [List.length_map];omega) (fun j ys σ G hj ⟨e,r,_⟩=>⟨by rw [e];exact sq (L2.Same.refl _),by rw [r.1,List.length_take];exact Nat.min_le_left _ _⟩) ?_ ?_
      · rintro j x ys σ G N hx ⟨rfl,kd,x1,y1,rfl⟩ hN
        rw [List.getElem?_map] at hx
        obtain⟨ad,had,rfl⟩:=Option.map_eq_some_iff.mp hx
        obtain⟨q,c,e,hq,g1,g2,g3⟩:=pq.2 j ad had
        refine⟨ad,_,rfl,SqT.of (s1G _ _ g1),rfl,_,_,rfl,_,_,rfl,rfl,?_⟩
        refine⟨_,rfl,hN _ _ _ ⟨rfl,?_,_,_,rfl⟩⟩
        have e7:(parts shs)[j]? = some (partQ q):=by unfold parts;rw [List.getElem?_map,hq];rfl
        rw [List.take_add_one,e7]
        rw [pair_eq (py q (List.mem_of_getElem? hq)).1] at g3
        exact kd.snoc (s1G _ _ g3)
      · rintro ys σ G ⟨rfl,kd,x1,y1,rfl⟩ ql G2 nql s2 eql
        rw [List.take_of_length_le (by unfold parts;simp;omega)] at kd
        refine⟨false,ql,ys,parts shs,dU qs us' U,rfl,SqL.of eql,kd.same s2,by unfold parts;rw [List.length_map];omega,one,fun rp G3 nr s3 er=>?_⟩
        have s13:=s1G.trans (s2.trans s3)
        rw [sh_total ok best shp] at er
        refine⟨_,rfl,.inr ⟨_,_,rep_pair er,rep_pair (s13 _ _ e2),pl_ints2 _ _,pl_ints2 _ _,_,rfl,?_⟩⟩
        refine iteT' (eqv_pair _ _) ?_
        obtain⟨po,pg⟩:=prc_one ok best
        refine⟨_,rfl,_,rfl,hp,pp,need,qs,ps,prcS qs us' U,dU qs us' U,rfl,hh.tu (Tu.of s13),SqT.of (s13 _ _ e4),kp.same s13,prc_len,po,fun cp G4 nc s4 ec=>?_⟩
        have s14:=s13.trans s4
        rw [prc_worth ok best] at ec
        refine⟨_,rfl,.inr ⟨_,_,rep_pair ec,rep_pair (s14 _ _ e2),pl_ints2 _ _,pl_ints2 _ _,?_⟩⟩
        rw [eqv_pair]
        exact h G4 s14
end
theorem sm_comm {f:Nat->Nat->Int}{m:Nat}:∀ {n:Nat},sm n (fun k=>sm m fun i=>f k i) = sm m fun i=>sm n fun k=>f k i
 | 0=>by rw [sm];exact (sm_zero fun _ _=>rfl).symm
 | n + 1=>by rw [sm,sm_comm,<- sm_add];rfl
theorem sm_le {f g:Nat->Int}:∀ {n:Nat},(∀ k,k < n->f k<=g k)->sm n f<=sm n g
 | 0,_=>Int.le_refl _
 | n + 1,h=>by
  have h1:=sm_le fun k hk=>h k (Nat.lt_succ_of_lt hk)
  have h2:=h n (Nat.lt_succ_self n)
  rw [sm,sm];omega
theorem sm_pair {f:Nat->Int}{n i j:Nat} (hi:i < n) (hj:j < n) (ne:i≠j) (h:∀ k,k < n->k≠i->k≠j->0<=f k) (hij:0<=f i + f j):0<=sm n f:=by
 have e:sm n f = sm n fun k=>(if k = i\/k = j then 0 else f k) + ((if k = i then f i else 0) + if k = j then f j else 0):=sm_congr fun k hk=>by
  by_cases h1:k = i
  · subst h1;rw [if_pos (.inl rfl),if_pos rfl,if_neg ne];omega
  · by_cases h2:k = j
    · subst h2;rw [if_pos (.inr rfl),if_neg h1,if_pos rfl];omega
    · rw [if_neg (by rintro (z | z) <;> contradiction),if_neg h1,if_neg h2];omega
 rw [e,sm_add,sm_add,sm_one hi fun k _ hk=>if_neg hk,sm_one hj fun k _ hk=>if_neg hk,if_pos rfl,if_pos rfl]
 have:0<=sm n fun k=>if k = i\/k = j then 0 else f k:=sm_nonneg fun k hk=>by
  by_cases c:k = i\/k = j
  · rw [if_pos c];exact Int.le_refl _
  · rw [if_neg c];exact h k hk (fun z=>c (.inl z)) fun z=>c (.inr z)
 omega
section
variable {qs:List (Int×Int)}{rs:List (List Int)}{U:List Nat}
theorem upper (ok:LotsOk qs rs) (b:Best qs rs U) {wt:Nat->Int}{c:Int} (hw:∀ k,k < qs.length->0<=wt k) (hc:∀ j,j < rs.length->c<=sm qs.length fun k=>wt k * colOf qs rs j k):
 c * tU qs rs U qs.length (rs.length + qs.length)<=dU qs rs U * sm qs.length fun k=>wt k * colOf qs rs (rs.length + qs.length) k:=by
 have e:dU qs rs U * sm qs.length (fun k=>wt k * colOf qs rs (rs.length + qs.length) k) = sm qs.length fun i=>tU qs rs U i (rs.length + qs.length) * sm qs.length fun k=>wt k * colOf qs rs (sOf qs.length rs.length U i) k:=by
  rw [<- sm_mul]
  have e1:sm qs.length (fun k=>dU qs rs U * (wt k * colOf qs rs (rs.length + qs.length) k)) = sm qs.length fun k=>sm qs.length fun i=>wt k * (tU qs rs U i (rs.length + qs.length) * colOf qs rs (sOf qs.length rs.length U i) k):=sm_congr fun k hk=>by
   have:=B_used ok b hk
   rw [sm_mul,<- this]
   grind
  rw [e1,sm_comm]
  refine sm_congr fun i _=>?_
  rw [<- sm_mul]
  exact sm_congr fun k _=>by grind
 rw [e,B_total ok b,<- sm_mul]
 refine sm_le fun i hi=>?_
 have fe:=B_fe b hi
 have hS:=b.us.b.lt i hi
 by_cases h:sOf qs.length rs.length U i < rs.length
 · rw [if_pos h,Int.mul_comm]
   exact Int.mul_le_mul_of_nonneg_left (hc _ h) fe
 · rw [if_neg h,Int.mul_zero]
   exact Int.mul_nonneg fe (sm_nonneg fun k hk=>Int.mul_nonneg (hw k hk) (ok.t.task.pos hS hk))
theorem lot_cost (ok:LotsOk qs rs) (b:Best qs rs U) {r:List Int} (hr:r∈rs):dU qs rs U<=sm qs.length fun k=>tU qs rs U qs.length (rs.length + k) * (r.count ((qs[k]?).getD (0,0)).1:Int):=by
 obtain⟨j,hj,e⟩:=List.getElem_of_mem hr
 have ej:rs[j]? = some r:=by rw [List.getElem?_eq_getElem hj,e]
 have h1:=B_cost ok b hj
 have h2:=B_top b (show j < rs.length + qs.length + 1 by omega)
 have e2:(sm qs.length fun k=>tU qs rs U qs.length (rs.length + k) * colOf qs rs j k) = sm qs.length fun k=>tU qs rs U qs.length (rs.length + k) * (r.count ((qs[k]?).getD (0,0)).1:Int):=sm_congr fun k hk=>by
  rw [col_lot ej (List.getElem?_eq_getElem hk),List.getElem?_eq_getElem hk];rfl
 rw [<- e2];omega
theorem lot_weight {wt:Int->Int} (ris:Ris qs) {j:Nat}{r:List Int} (hj:rs[j]? = some r) (hr:∀ s∈r,s∈qs.map (·.1)):(sm qs.length fun k=>wt ((qs[k]?).getD (0,0)).1 * colOf qs rs j k) = (r.map wt).sum:=by
 have e1:(r.map wt).sum = (r.map fun s=>(dlook (qs.map fun q=>(q.1,wt q.1)) s).getD 0).sum:=by
  congr 1
  refine List.map_congr_left fun s hs=>?_
  have nd:((qs.map fun q=>(q.1,wt q.1)).map (·.1)).Nodup:=by rw [List.map_map];exact ris.nodup
  obtain⟨q,hq,e⟩:=List.mem_map.mp (hr s hs)
  have:=(dlook_mem nd (q.1,wt q.1)).mp (List.mem_map.mpr ⟨q,hq,rfl⟩)
  rw [<- e]
  show _ = (dlook _ q.1).getD 0
  have this:dlook (qs.map fun q=>(q.1,wt q.1)) q.1 = some (wt q.1):=this
  rw [this];rfl
 have nd:((qs.map fun q=>(q.1,wt q.1)).map (·.1)).Nodup:=by rw [List.map_map];exact ris.nodup
 rw [e1,count_sum nd,List.map_map,sum_sm (h:=fun k=>wt ((qs[k]?).getD (0,0)).1 * colOf qs rs j k)]
 intro k q hk
 rw [col_lot hj hk,hk,Int.mul_comm];rfl
theorem worth_sum (ok:LotsOk qs rs) (b:Best qs rs U):tU qs rs U qs.length (rs.length + qs.length) = sm qs.length fun k=>tU qs rs U qs.length (rs.length + k) * ((qs[k]?).getD (0,0)).2:=by
 rw [B_worth ok b]
 refine sm_congr fun k hk=>?_
 rw [col_many (List.getElem?_eq_getElem hk),List.getElem?_eq_getElem hk];rfl
end
section
variable {need s m:Int}{us:List (List Int)}{rs:List (List Int)}{tot:Int×Int}{shs:List LL}{prs:List (Int×Int)}
theorem part_one {r:List Int} (p:Part [(s,m)] r):r = List.replicate r.length s/\(r.length:Int)<=m:=by
 have e:∀ x∈r,x = s:=fun x hx=>by obtain⟨q,hq,e⟩:=p.mem x hx;rw [<- e,List.mem_singleton.mp hq]
 have h1:r = List.replicate r.length s:=List.eq_replicate_iff.mpr ⟨rfl,e⟩
 refine⟨h1,?_⟩
 have h2:=p.cnt (s,m) (.head _)
 have:r.count s = r.length:=List.count_eq_length.mpr fun x hx=>(e x hx).symm
 rw [this] at h2;exact h2
theorem lean_one {r:List Int} (hs:1<=s) (p:Part [(s,m)] r) (h:LeanR need r):(r.length:Int) = upD need s:=by
 obtain⟨e,_⟩:=part_one p
 obtain⟨h1,x,t,rfl,h2⟩:=h
 have et:t = List.replicate t.length s:=by
  have:=congrArg List.tail e
  rw [List.length_cons,List.replicate_succ] at this
  exact this
 rw [e,sum_repl] at h1
 rw [et,sum_repl] at h2
 have k1:upD need s<=((x :: t).length:Int):=(upD_le (by omega)).mpr h1
 have k2:¬ upD need s<=(t.length:Int):=fun z=>by have:=(upD_le (by omega)).mp z;omega
 rw [List.length_cons] at k1 ⊢
 omega
theorem one_some (hn:2<=need) (hs:1<=s) (hm:1<=m) (h50:upD need s<=50):∃ rs,leansQ need [(s,m)] = some rs:=by
 unfold leansQ
 rw [tot_totK]
 have okr:∀ r,OkR need [(s,m)] r->r = List.replicate r.length s/\(r.length:Int)<=50:=fun r h=>by
  obtain⟨⟨P,hP,p⟩,c⟩:=h
  have p':Part [(s,m)] r\/r = []:=by
   cases r with
   | nil=>exact .inr rfl
   | cons x t=>
    refine .inl ⟨p.srt,fun y hy=>?_,fun q hq=>?_⟩
    · obtain⟨q,hq,e⟩:=p.mem y hy;exact⟨q,hP q hq,e⟩
    · obtain⟨q',hq',_⟩:=p.mem x (.head _)
      rw [List.mem_singleton.mp hq]
      have:=p.cnt q' hq'
      rw [List.mem_singleton.mp (hP q' hq')] at this
      exact this
  rcases p' with p' | p'
  · refine⟨(part_one p').1,?_⟩
    rcases c with c | c
    · have:=lean_one hs p' c;omega
    · rw [(part_one p').1,sum_repl] at c
      have:¬ upD need s<=(r.length:Int):=fun z=>by have:=(upD_le (by omega)).mp z;omega
      omega
  · subst p';exact⟨rfl,by simp⟩
 refine leans_some (fun r h hr q hq=>?_) (fun l nd h=>?_) (by omega) (fun q hq=>by rw [List.mem_singleton.mp hq];exact⟨hs,by show 0<=m;omega⟩) (List.pairwise_singleton _ _)
 · rw [List.mem_singleton.mp hq]
   have h1:=(okr r h).1
   have e:r.sum = (r.length:Int) * s:=by rw [h1,sum_repl,List.length_replicate]
   have:mostN need s m r<=50 - r.length:=by
    refine Int.le_trans (Int.min_le_right _ _) ((upD_le (by omega)).mpr ?_)
    have:=(upD_le (t:=need) (b:=s) (n:=50) (by omega)).mp h50
    rw [e,Int.sub_mul];omega
   show (r.length:Int) + mostN need s m r<=60
   omega
 · have:l.length<=((List.range 51).map fun k=>List.replicate k s).length:=nodup_le nd fun r hr=>by
    obtain⟨h1,h2⟩:=okr r (h r hr)
    exact List.mem_map.mpr ⟨r.length,List.mem_range.mpr (by omega),h1.symm⟩
   rw [List.length_map,List.length_range] at this
   omega
theorem one_few (hs:1<=s) (ok:HOk8 need [(s,m)]) (e:leansQ need [(s,m)] = some rs):rs.length < 64:=by
 obtain⟨h1,_,_⟩:=leans_of e ok
 have:=nodup_le (m:=[List.replicate (upD need s).toNat s]) (leans_nd e ok) fun r hr=>by
  obtain⟨p,l⟩:=(h1 r).mp hr
  have h2:=lean_one hs p l
  have h3:=(part_one p).1
  rw [List.mem_singleton,h3]
  congr 1;omega
 exact Nat.lt_of_le_of_lt this (by simp)
theorem one_sum (hn:2<=need) (ok:HOk8 need [(s,m)]) (e:leansQ need [(s,m)] = some rs) (p:us.Perm rs) (ib:IsBest [(s,m)] us tot shs prs):tot = if m < upD need s then (0,1) else rq m (upD need s):=by
 obtain⟨hs,_,hm,_⟩:=ok.bd (s,m) (.head _)
 have hs:1<=s:=hs
 have hm:1<=m:=hm
 obtain⟨⟨U,b,rfl,_,_⟩,_⟩:=ib
 have lo:=lots_ok e ok p
 obtain⟨h1,_,_⟩:=leans_of e ok
 have hd:=B_pos b
 have up1:1<=upD need s:=by
  have:¬ upD need s<=0:=fun z=>by have:=(upD_le (by omega)).mp z;omega
  omega
 by_cases c:m < upD need s
 · rw [if_pos c]
   have un:us = []:=by
    cases us with
    | nil=>rfl
    | cons r us=>
     obtain⟨p1,l1⟩:=(h1 r).mp (p.mem_iff.mp (.head _))
     have:=lean_one hs p1 l1
     have:=(part_one p1).2
     omega
   subst un
   have z:=B_total lo b
   have z:=z.trans (sm_zero fun i _=>if_neg (Nat.not_lt_zero _))
   show rq (tU _ _ _ _ _) (dU _ _ _) = _
   rw [z]
   show (rN 0 _,rD 0 _) = _
   rw [rN_zero,rD_zero (by omega)]
 · rw [if_neg c]
   refine rq_eq hd (by omega) ?_
   have hlot:List.replicate (upD need s).toNat s∈us:=by
    refine p.mem_iff.mpr ((h1 _).mpr ⟨⟨List.pairwise_replicate.mpr (.inr (Int.le_refl _)),fun x hx=>⟨(s,m),.head _,(List.eq_of_mem_replicate hx).symm⟩,fun q hq=>?_⟩,?_,s,List.replicate ((upD need s).toNat - 1) s,?_,?_⟩)
    · rw [List.mem_singleton.mp hq]
      show ((List.replicate _ s).count s:Int)<=m
      rw [List.count_replicate_self];omega
    · rw [sum_repl]
      have:=(upD_le (t:=need) (b:=s) (n:=upD need s) (by omega)).mp (Int.le_refl _)
      rw [show (((upD need s).toNat:Nat):Int) = upD need s by omega];exact this
    · rw [<- List.replicate_succ];congr 1;omega
    · rw [sum_repl]
      have:¬ upD need s<=upD need s - 1:=by omega
      have h9:¬ need<=(upD need s - 1) * s:=fun z=>this ((upD_le (t:=need) (b:=s) (n:=upD need s - 1) (by omega)).mpr z)
      rw [show ((((upD need s).toNat - 1:Nat)):Int) = upD need s - 1 by omega]
      omega
   have lc:=lot_cost lo b hlot
   have ws:=worth_sum lo b
   have u:=upper lo b (wt:=fun _=>1) (c:=upD need s) (fun _ _=>by omega) fun j hj=>by
    have hr:=List.getElem_mem hj
    obtain⟨p1,l1⟩:=(h1 _).mp (p.mem_iff.mp hr)
    have l2:=lean_one hs p1 l1
    show _<=sm 1 _
    rw [sm,sm,col_lot (q:=(s,m)) (List.getElem?_eq_getElem hj) rfl]
    have:us[j].count s = us[j].length:=List.count_eq_length.mpr fun x hx=>by
     obtain⟨q,hq,e⟩:=p1.mem x hx;rw [<- e,List.mem_singleton.mp hq]
    show _<=0 + 1 * ((us[j].count s:Nat):Int)
    rw [this];omega
   have u:upD need s * tU [(s,m)] us U 1 (us.length + 1)<=dU [(s,m)] us U * (0 + 1 * colOf [(s,m)] us (us.length + 1) 0):=u
   have cm:colOf [(s,m)] us (us.length + 1) 0 = m:=col_many (qs:=[(s,m)]) (rs:=us) (k:=0) rfl
   rw [cm] at u
   have lc:dU [(s,m)] us U<=0 + tU [(s,m)] us U 1 (us.length + 0) * ((List.replicate (upD need s).toNat s).count s:Int):=lc
   have ws:tU [(s,m)] us U 1 (us.length + 1) = 0 + tU [(s,m)] us U 1 (us.length + 0) * m:=ws
   show tU [(s,m)] us U 1 (us.length + 1) * upD need s = m * dU [(s,m)] us U
   rw [List.count_replicate_self,show (((upD need s).toNat:Nat):Int) = upD need s by omega] at lc
   generalize tU [(s,m)] us U 1 (us.length + 1) = Z at *
   generalize tU [(s,m)] us U 1 (us.length + 0) = Y at *
   generalize dU [(s,m)] us U = dd at *
   generalize upD need s = lk at *
   have h2:=Int.mul_le_mul_of_nonneg_right lc (show 0<=m by omega)
   have e1:Z * lk = (0 + Y * lk) * m:=by rw [ws];grind
   have e2:lk * Z = Z * lk:=Int.mul_comm _ _
   have e3:dd * (0 + 1 * m) = m * dd:=by grind
   have e4:dd * m = m * dd:=Int.mul_comm _ _
   omega
end
def wtS (need s:Int):Int:=if s < need then 1 else 2
section
variable {need:Int}{qs:List (Int×Int)}{us rs:List (List Int)}{tot:Int×Int}{shs:List LL}{prs:List (Int×Int)}
theorem count_two (a b s:Int):([a,b].count s:Int) = (if s = a then 1 else 0) + if s = b then 1 else 0:=by
 rw [List.count_cons,List.count_cons,List.count_nil]
 by_cases z1:s = a
 · subst z1
   by_cases z2:s = b
   · subst z2;simp
   · simp [z2,Ne.symm z2]
 · by_cases z2:s = b
   · subst z2;simp [z1,Ne.symm z1]
   · simp [z1,z2,Ne.symm z1,Ne.symm z2]
theorem two_most {need:Int}{r:List Int} (hn:2<=need) (h:∀ x∈r,need<=2 * x) (c:LeanR need r\/r.sum < need):r.length<=2/\(r.sum < need->r.length<=1)/\0<=r.sum:=by
 have pos:∀ l:List Int,(∀ x∈l,need<=2 * x)->0<=l.sum:=fun l=>by
  induction l with
  | nil=>exact fun _=>Int.le_refl _
  | cons x l ih=>
   intro hl
   have:=hl x (.head _)
   have:=ih fun y hy=>hl y (.tail _ hy)
   rw [List.sum_cons];omega
 have one:∀ l:List Int,(∀ x∈l,need<=2 * x)->l.sum < need->l.length<=1:=fun l hl hs=>by
  match l,hl,hs with
  | [],_,_=>simp
  | [_],_,_=>simp
  | x :: y :: l,hl,hs=>
   have h1:=hl x (.head _)
   have h2:=hl y (.tail _ (.head _))
   have h3:=pos l fun z hz=>hl z (.tail _ (.tail _ hz))
   rw [List.sum_cons,List.sum_cons] at hs
   omega
 refine⟨?_,one r h,pos r h⟩
 rcases c with ⟨_,x,t,rfl,ht⟩ | c
 · have:=one t (fun y hy=>h y (.tail _ hy)) ht
   rw [List.length_cons];omega
 · have:=one r h c;omega
theorem half_some (hn:2<=need) (ok:HOk8 need qs) (h2:∀ q∈qs,need<=2 * q.1):∃ rs,leansQ need qs = some rs:=by
 unfold leansQ
 rw [tot_totK]
 have mem:∀ r,OkR need qs r->∀ x∈r,need<=2 * x/\x∈qs.map (·.1):=fun r h x hx=>by
  obtain⟨⟨P,hP,p⟩,c⟩:=h
  obtain⟨q,hq,e⟩:=p.mem x hx
  exact⟨by rw [<- e];exact h2 q (hP q hq),List.mem_map.mpr ⟨q,hP q hq,e⟩⟩
 refine leans_some (fun r h hr q hq=>?_) (fun l nd h=>?_) (by omega) (fun q hq=>⟨(ok.bd q hq).1,by have:=(ok.bd q hq).2.2.1;omega⟩) ok.ris
 · obtain⟨_,t2,t3⟩:=two_most hn (fun x hx=>(mem r h x hx).1) h.c
   have t2:=t2 hr
   have h1:=(ok.bd q hq).1
   have h3:=h2 q hq
   have:mostN need q.1 q.2 r<=2:=Int.le_trans (Int.min_le_right _ _) ((upD_le (by omega)).mpr (by omega))
   omega
 · have n16:=ok.len
   have:=nodup_le (m:=[] :: ((qs.map (·.1)).map (fun x=>[x]) ++ (qs.map (·.1)).flatMap fun x=>(qs.map (·.1)).map fun y=>[x,y])) nd fun r hr=>by
    have hm:=mem r (h r hr)
    obtain⟨t1,_,_⟩:=two_most hn (fun x hx=>(hm x hx).1) (h r hr).c
    match r,hm,t1 with
    | [],_,_=>exact .head _
    | [x],hm,_=>exact .tail _ (List.mem_append_left _ (List.mem_map.mpr ⟨x,(hm x (.head _)).2,rfl⟩))
    | [x,y],hm,_=>exact .tail _ (List.mem_append_right _ (List.mem_flatMap.mpr ⟨x,(hm x (.head _)).2,List.mem_map.mpr ⟨y,(hm y (.tail _ (.head _))).2,rfl⟩⟩))
    | _ :: _ :: _ :: _,_,t1=>simp at t1
   rw [List.length_cons,List.length_append,List.length_map,List.length_map,List.length_flatMap] at this
   have e:((qs.map (·.1)).map fun x=>((qs.map (·.1)).map fun y=>[x,y]).length).sum<=16 * 16:=by
    have e1:((qs.map (·.1)).map fun x=>((qs.map (·.1)).map fun y=>[x,y]).length) = List.replicate qs.length qs.length:=by
     refine List.eq_replicate_iff.mpr ⟨by simp,fun n hn=>?_⟩
     obtain⟨x,_,rfl⟩:=List.mem_map.mp hn
     simp
    rw [e1,List.sum_replicate_nat]
    exact Nat.mul_le_mul n16 n16
   omega
theorem half_few (hn:2<=need) (ok:HOk8 need qs) (h2:∀ q∈qs,need<=2 * q.1) (fw:(qs.filter fun q=>decide (q.1 < need)).length<=6) (l8:qs.length<=8) (e:leansQ need qs = some rs):rs.length < 64:=by
 obtain⟨h1,_,_⟩:=leans_of e ok
 have:=nodup_le (m:=(qs.map (·.1)).map (fun x=>[x]) ++ ((qs.filter fun q=>decide (q.1 < need)).map (·.1)).flatMap fun x=>((qs.filter fun q=>decide (q.1 < need)).map (·.1)).map fun y=>[x,y]) (leans_nd e ok) fun r hr=>by
  obtain⟨p,l⟩:=(h1 r).mp hr
  have mem:∀ x∈r,∃ q∈qs,q.1 = x:=fun x hx=>p.mem x hx
  obtain⟨t1,_,_⟩:=two_most hn (fun x hx=>by obtain⟨q,hq,e⟩:=mem x hx;rw [<- e];exact h2 q hq) (.inl l)
  obtain⟨l1,x,t,rfl,l2⟩:=l
  match t,mem,t1,l2,p with
  | [],mem,_,_,_=>
   obtain⟨q,hq,e⟩:=mem x (.head _)
   exact List.mem_append_left _ (List.mem_map.mpr ⟨x,List.mem_map.mpr ⟨q,hq,e⟩,rfl⟩)
  | [y],mem,_,l2,p=>
   obtain⟨q,hq,e⟩:=mem x (.head _)
   obtain⟨q',hq',e'⟩:=mem y (.tail _ (.head _))
   have srt:x<=y:=by have:=p.srt;simpa using this
   have hy:y < need:=by simpa using l2
   have b:∀ {q:Int×Int}{z:Int},q∈qs->q.1 = z->z < need->z∈(qs.filter fun q=>decide (q.1 < need)).map (·.1):=fun hq e hz=>List.mem_map.mpr ⟨_,List.mem_filter.mpr ⟨hq,decide_eq_true (by rw [e];exact hz)⟩,e⟩
   exact List.mem_append_right _ (List.mem_flatMap.mpr ⟨x,b hq e (by omega),List.mem_map.mpr ⟨y,b hq' e' hy,rfl⟩⟩)
  | _ :: _ :: _,_,t1,_,_=>simp at t1
 rw [List.length_append,List.length_map,List.length_map,List.length_flatMap] at this
 generalize (qs.filter fun q=>decide (q.1 < need)) = B at this fw
 have e:((B.map (·.1)).map fun x=>((B.map (·.1)).map fun y=>[x,y]).length).sum<=6 * 6:=by
  have e1:((B.map (·.1)).map fun x=>((B.map (·.1)).map fun y=>[x,y]).length) = List.replicate B.length B.length:=by
   refine List.eq_replicate_iff.mpr ⟨by simp,fun n hn=>?_⟩
   obtain⟨x,_,rfl⟩:=List.mem_map.mp hn
   simp
  rw [e1,List.sum_replicate_nat]
  exact Nat.mul_le_mul fw fw
 omega
theorem half_sum (hn:2<=need) (ok:HOk8 need qs) (h2:∀ q∈qs,need<=2 * q.1) (hT:2<=(qs.map fun q=>if q.1 < need then q.2 else 0).sum) (e:leansQ need qs = some rs) (p:us.Perm rs) (ib:IsBest qs us tot shs prs):tot = rq (qs.map fun q=>wtS need q.1 * q.2).sum 2:=by
 obtain⟨⟨U,b,rfl,_,_⟩,_⟩:=ib
 have lo:=lots_ok e ok p
 obtain⟨h1,_,_⟩:=leans_of e ok
 have hd:=B_pos b
 have hsz:∀ {k:Nat},k < qs.length->∃ q,qs[k]? = some q/\q∈qs:=fun hk=>⟨_,List.getElem?_eq_getElem hk,List.getElem_mem hk⟩
 have uniq:∀ {k i:Nat},k < qs.length->i < qs.length->((qs[k]?).getD (0,0)).1 = ((qs[i]?).getD (0,0)).1->k = i:=fun {k i} hk hi z=>by
  have nd:=ok.ris.nodup
  refine (List.getElem?_inj (by rw [List.length_map];exact hk) nd).mp ?_
  rw [List.getElem?_map,List.getElem?_map]
  rw [List.getElem?_eq_getElem hk,List.getElem?_eq_getElem hi] at z ⊢
  exact congrArg some z
 have W:(qs.map fun q=>wtS need q.1 * q.2).sum = sm qs.length fun k=>wtS need ((qs[k]?).getD (0,0)).1 * ((qs[k]?).getD (0,0)).2:=sum_sm fun k q hk=>by rw [hk];rfl
 have HT:(qs.map fun q=>if q.1 < need then q.2 else 0).sum = sm qs.length fun k=>if ((qs[k]?).getD (0,0)).1 < need then ((qs[k]?).getD (0,0)).2 else 0:=sum_sm fun k q hk=>by rw [hk];rfl
 have up:=upper lo b (wt:=fun k=>wtS need ((qs[k]?).getD (0,0)).1) (c:=2) (fun k _=>by unfold wtS;split <;> omega) fun j hj=>by
  have hr:=List.getElem_mem hj
  have hm:=p.mem_iff.mp hr
  obtain⟨p1,l1,x,t,ex,l2⟩:=(h1 _).mp hm
  rw [lot_weight (wt:=wtS need) ok.ris (List.getElem?_eq_getElem hj) fun s hs=>by obtain⟨q,hq,e⟩:=p1.mem s hs;exact List.mem_map.mpr ⟨q,hq,e⟩]
  rw [ex] at l1 ⊢
  have wpos:∀ l:List Int,0<=(l.map (wtS need)).sum:=fun l=>by
   induction l with
   | nil=>exact Int.le_refl _
   | cons y l ih=>rw [List.map_cons,List.sum_cons];have:1<=wtS need y:=by unfold wtS;split <;> omega
                  omega
  rw [List.map_cons,List.sum_cons]
  by_cases c:x < need
  · match t,l1 with
    | [],l1=>simp at l1;omega
    | y :: t,_=>
     rw [List.map_cons,List.sum_cons]
     have a1:1<=wtS need x:=by unfold wtS;split <;> omega
     have a2:1<=wtS need y:=by unfold wtS;split <;> omega
     have:=wpos t
     omega
  · have a1:wtS need x = 2:=by unfold wtS;rw [if_neg c]
    have:=wpos t
    omega
 have up2:2 * tU qs us U qs.length (us.length + qs.length)<=dU qs us U * sm qs.length fun k=>wtS need ((qs[k]?).getD (0,0)).1 * ((qs[k]?).getD (0,0)).2:=by
  refine Int.le_trans up (Int.le_of_eq ?_)
  congr 1
  exact sm_congr fun k hk=>by
   obtain⟨q,hq,_⟩:=hsz hk
   rw [col_many hq,hq];rfl
 have ws:=worth_sum lo b
 -- the price of each size
 have one:∀ {i:Nat},i < qs.length->∀ r∈us,(∀ k,k < qs.length->(r.count ((qs[k]?).getD (0,0)).1:Int) = if k = i then (r.length:Int) else 0)->dU qs us U<=tU qs us U qs.length (us.length + i) * (r.length:Int):=fun {i} hi r hr hc=>by
  have:=lot_cost lo b hr
  rw [sm_one hi fun k hk ne=>by rw [hc k hk,if_neg ne,Int.mul_zero],hc i hi,if_pos rfl] at this
  exact this
 have big:∀ {i:Nat},i < qs.length->¬ ((qs[i]?).getD (0,0)).1 < need->dU qs us U<=tU qs us U qs.length (us.length + i):=fun {i} hi hb=>by
  obtain⟨q,hq,hqm⟩:=hsz hi
  have hs:((qs[i]?).getD (0,0)).1 = q.1:=by rw [hq];rfl
  obtain⟨b1,_,b3,_⟩:=ok.bd q hqm
  have hr:[q.1]∈us:=p.mem_iff.mpr ((h1 _).mpr ⟨⟨List.pairwise_singleton _ _,fun x hx=>⟨q,hqm,(List.mem_singleton.mp hx).symm⟩,fun k hk=>by
   have:([q.1].count k.1:Int)<=1:=by have:=List.count_le_length (a:=k.1) (l:=[q.1]);simp at this ⊢;omega
   have:=(ok.bd k hk).2.2.1;omega⟩,by rw [hs] at hb;simp;omega,q.1,[],rfl,by simp;omega⟩)
  have:=one hi _ hr fun k hk=>by
   by_cases ek:k = i
   · subst ek;rw [if_pos rfl,hs];simp
   · rw [if_neg ek,List.count_eq_zero.mpr fun z=>ek (uniq hk hi (by rw [List.mem_singleton.mp z,hs]))];rfl
  simpa using this
 have pair:∀ {i:Nat},i < qs.length->((qs[i]?).getD (0,0)).1 < need->2<=((qs[i]?).getD (0,0)).2->dU qs us U<=tU qs us U qs.length (us.length + i) * 2:=fun {i} hi hb hm=>by
  obtain⟨q,hq,hqm⟩:=hsz hi
  have hs:((qs[i]?).getD (0,0)).1 = q.1:=by rw [hq];rfl
  have hs2:((qs[i]?).getD (0,0)).2 = q.2:=by rw [hq];rfl
  rw [hs2] at hm
  obtain⟨b1,_,b3,_⟩:=ok.bd q hqm
  have hr:[q.1,q.1]∈us:=p.mem_iff.mpr ((h1 _).mpr ⟨⟨by simp,fun x hx=>⟨q,hqm,by simp at hx;exact hx.symm⟩,fun k hk=>by
   by_cases ek:k.1 = q.1
   · have:k = q:=by
      have nd:=ok.ris.nodup
      have m1:=(dlook_mem nd k).mp hk
      have m2:=(dlook_mem nd q).mp hqm
      rw [ek] at m1
      rw [m1] at m2
      exact Prod.ext ek (Option.some.inj m2)
     subst this;simp;omega
   · rw [List.count_eq_zero.mpr fun z=>ek (by simpa using z)]
     have:=(ok.bd k hk).2.2.1
     show (0:Int)<=k.2
     omega⟩,by have:=h2 q hqm;simp;omega,q.1,[q.1],rfl,by rw [hs] at hb;simp;omega⟩)
  have:=one hi _ hr fun k hk=>by
   by_cases ek:k = i
   · subst ek;rw [if_pos rfl,hs];simp
   · rw [if_neg ek,List.count_eq_zero.mpr fun z=>ek (uniq hk hi (by simp at z;rw [z,hs]))];rfl
  exact this
 have two:∀ {i j:Nat},i < qs.length->j < qs.length->i≠j->((qs[i]?).getD (0,0)).1 < need->((qs[j]?).getD (0,0)).1 < need->dU qs us U<=tU qs us U qs.length (us.length + i) + tU qs us U qs.length (us.length + j):=fun {i j} hi hj ne hbi hbj=>by
  obtain⟨q,hq,hqm⟩:=hsz hi
  obtain⟨q',hq',hqm'⟩:=hsz hj
  have hs:((qs[i]?).getD (0,0)).1 = q.1:=by rw [hq];rfl
  have hs':((qs[j]?).getD (0,0)).1 = q'.1:=by rw [hq'];rfl
  have nq:q.1≠q'.1:=fun z=>ne (uniq hi hj (by rw [hs,hs',z]))
  have key:∃ r∈us,∀ s:Int,(r.count s:Int) = (if s = q.1 then 1 else 0) + if s = q'.1 then 1 else 0:=by
   have mk:∀ x y:Int×Int,x∈qs->y∈qs->x.1 < y.1->x.1 < need->y.1 < need->[x.1,y.1]∈us:=fun x y hx hy lt l1 l2=>by
    obtain⟨b1,_,b3,_⟩:=ok.bd x hx
    obtain⟨c1,_,c3,_⟩:=ok.bd y hy
    have g1:=h2 x hx
    have g2:=h2 y hy
    refine p.mem_iff.mpr ((h1 _).mpr ⟨⟨by simp;omega,fun z hz=>?_,fun k hk=>?_⟩,by simp;omega,x.1,[y.1],rfl,by simp;omega⟩)
    · simp at hz
      rcases hz with hz | hz
      · exact⟨x,hx,hz.symm⟩
      · exact⟨y,hy,hz.symm⟩
    · have:([x.1,y.1].count k.1:Int)<=1:=by
       rw [List.count_cons,List.count_cons,List.count_nil]
       by_cases z1:x.1 = k.1
       · have:¬ y.1 = k.1:=by omega
         simp [z1,this]
       · simp [z1];split <;> omega
      have:=(ok.bd k hk).2.2.1;omega
   rcases Int.lt_or_gt_of_ne nq with lt | lt
   · refine⟨_,mk q q' hqm hqm' lt (by rw [<- hs];exact hbi) (by rw [<- hs'];exact hbj),fun s=>count_two _ _ s⟩
   · refine⟨_,mk q' q hqm' hqm lt (by rw [<- hs'];exact hbj) (by rw [<- hs];exact hbi),fun s=>by rw [count_two,Int.add_comm]⟩
  obtain⟨r,hr,hc⟩:=key
  have:=lot_cost lo b hr
  rw [sm_two hi hj ne fun k hk n1 n2=>by
   rw [hc,if_neg fun z=>n1 (uniq hk hi (by rw [z,hs])),if_neg fun z=>n2 (uniq hk hj (by rw [z,hs']))]
   show _ * (0:Int) = 0
   exact Int.mul_zero _] at this
  rw [hc,hc,hs,hs',if_pos rfl,if_neg nq,if_neg (Ne.symm nq),if_pos rfl] at this
  omega
 have low:0<=sm qs.length fun k=>(2 * tU qs us U qs.length (us.length + k) - dU qs us U * wtS need ((qs[k]?).getD (0,0)).1) * ((qs[k]?).getD (0,0)).2:=by
  have many:∀ {k:Nat},k < qs.length->1<=((qs[k]?).getD (0,0)).2:=fun {k} hk=>by
   obtain⟨q,hq,hqm⟩:=hsz hk
   rw [hq];exact (ok.bd q hqm).2.2.1
  have bigf:∀ {k:Nat},k < qs.length->¬ ((qs[k]?).getD (0,0)).1 < need->0<=(2 * tU qs us U qs.length (us.length + k) - dU qs us U * wtS need ((qs[k]?).getD (0,0)).1) * ((qs[k]?).getD (0,0)).2:=fun {k} hk hb=>by
   refine Int.mul_nonneg ?_ (by have:=many hk;omega)
   have:=big hk hb
   unfold wtS;rw [if_neg hb];omega
  by_cases all:∀ k,k < qs.length->((qs[k]?).getD (0,0)).1 < need->dU qs us U<=2 * tU qs us U qs.length (us.length + k)
  · refine sm_nonneg fun k hk=>?_
    by_cases hb:((qs[k]?).getD (0,0)).1 < need
    · refine Int.mul_nonneg ?_ (by have:=many hk;omega)
      have:=all k hk hb
      unfold wtS;rw [if_pos hb];omega
    · exact bigf hk hb
  · have:∃ i,i < qs.length/\((qs[i]?).getD (0,0)).1 < need/\2 * tU qs us U qs.length (us.length + i) < dU qs us U:=Classical.byContradiction fun z=>all fun k hk hb=>by
     rcases Int.lt_or_le (2 * tU qs us U qs.length (us.length + k)) (dU qs us U) with w | w
     · exact absurd ⟨k,hk,hb,w⟩ z
     · exact w
    obtain⟨i,hi,hbi,lti⟩:=this
    have m1:((qs[i]?).getD (0,0)).2 = 1:=by
     have:=many hi
     rcases Int.lt_or_le ((qs[i]?).getD (0,0)).2 2 with w | w
     · omega
     · have:=pair hi hbi w;omega
    have:∃ j,j < qs.length/\j≠i/\((qs[j]?).getD (0,0)).1 < need:=Classical.byContradiction fun z=>by
     rw [HT,sm_one hi fun k hk ne=>if_neg fun w=>z ⟨k,hk,ne,w⟩,if_pos hbi,m1] at hT
     omega
    obtain⟨j,hj,ne,hbj⟩:=this
    refine sm_pair hi hj (Ne.symm ne) (fun k hk n1 n2=>?_) ?_
    · by_cases hb:((qs[k]?).getD (0,0)).1 < need
      · refine Int.mul_nonneg ?_ (by have:=many hk;omega)
        have:=two hi hk (Ne.symm n1) hbi hb
        unfold wtS;rw [if_pos hb];omega
      · exact bigf hk hb
    · have t:=two hi hj (Ne.symm ne) hbi hbj
      have mj:=many hj
      rw [m1]
      unfold wtS
      rw [if_pos hbi,if_pos hbj]
      generalize tU qs us U qs.length (us.length + i) = Yi at *
      generalize tU qs us U qs.length (us.length + j) = Yj at *
      generalize dU qs us U = dd at *
      generalize ((qs[j]?).getD (0,0)).2 = mm at *
      have h9:=Int.mul_le_mul_of_nonneg_left mj (show 0<=2 * Yj - dd * 1 by omega)
      omega
 show rq (tU qs us U qs.length (us.length + qs.length)) (dU qs us U) = _
 refine rq_eq hd (by omega) ?_
 have e9:(sm qs.length fun k=>(2 * tU qs us U qs.length (us.length + k) - dU qs us U * wtS need ((qs[k]?).getD (0,0)).1) * ((qs[k]?).getD (0,0)).2) = 2 * (sm qs.length fun k=>tU qs us U qs.length (us.length + k) * ((qs[k]?).getD (0,0)).2) + - dU qs us U * sm qs.length fun k=>wtS need ((qs[k]?).getD (0,0)).1 * ((qs[k]?).getD (0,0)).2:=by
  rw [<- sm_mul,<- sm_mul,<- sm_add]
  exact sm_congr fun k _=>by grind
 rw [e9,<- ws] at low
 rw [W]
 have:=Int.neg_mul (dU qs us U) (sm qs.length fun k=>wtS need ((qs[k]?).getD (0,0)).1 * ((qs[k]?).getD (0,0)).2)
 have c1:tU qs us U qs.length (us.length + qs.length) * 2 = 2 * tU qs us U qs.length (us.length + qs.length):=Int.mul_comm _ _
 have c2:=Int.mul_comm (sm qs.length fun k=>wtS need ((qs[k]?).getD (0,0)).1 * ((qs[k]?).getD (0,0)).2) (dU qs us U)
 omega
end
section
variable {P:Program}{w:World}{K:PySem.W.Frag}{mg:Str->Option Value}{base:Heap}
abbrev sWhole:Stmt:=top 43
theorem scWhole:FnScope ["thing"] ["thing"] (defScope sWhole):=⟨rfl,rfl,rfl,by simp,rfl,by decide +kernel,by decide +kernel⟩
def spWhole:Sp:=fun vs H Q _=>∃ n:Int,vs = [.int n]/\Q (.bl true) H
theorem ok_whole (F:Fun K "_law_whole" "_law_whole" sWhole f fd) (mI:mg "isinstance" = none) (mN:mg "int" = none) (mB:mg "bool" = none):FnOk P w K mg base CX0 1 f fd ["thing"] spWhole:=by
 refine Br.Fun.j F scWhole (fun vs H Q E h=>?_) (fun cdv A outer s H vs Q E hr h=>?_)
 · obtain⟨_,rfl,_⟩:=h;rfl
 · obtain⟨n,rfl,h⟩:=h
   refine' ⟨_,?d,?r⟩
   case d=>wtm_at "body"
   case r=>
    wtm_at "rd"
    refine Or.inl ⟨_,_,_,_,rfl,.of (TyOf.int _),rfl,_,rfl,iteT ?_⟩
    wtm_at "rd"
    exact Or.inl ⟨_,_,_,_,rfl,.of (TyOf.int _),rfl,_,rfl,h⟩
end
section
local macro_rules | `(tactic| wtm_at "op")=>`(tactic| first | apply o_mod | apply o_fdivX)
variable {P:Program}{w:World}{K:PySem.W.Frag}{mg:Str->Option Value}{base:Heap}
abbrev sLow:Stmt:=top 44
theorem scLow:FnScope ["top","bottom","one","other"] ["top","bottom"] (defScope sLow):=⟨rfl,rfl,rfl,by decide +kernel,rfl,by decide +kernel,by decide +kernel⟩
def spLow:Sp:=fun vs H Q _=>∃ t b:Int,vs = [.int t,.int b]/\0 < b/\Bd 4000 b/\∀ (p:Addr) (H':Hp),H p = none->L2.Same H H'->H' p = some (.tup [.int (rq t b).1,.int (rq t b).2])->Q (.ref p) H'
theorem ok_low {f:Addr}{fd:FuncData} (F:Fun K "_law_lowest" "_law_lowest" sLow f fd) (mA:mg "abs" = none):FnOk P w K mg base CX0 1 f fd ["top","bottom"] spLow:=by
 refine Br.Fun.j F scLow (fun vs H Q E h=>?_) (fun cdv A outer s H vs Q E hr h=>?_)
 · obtain⟨_,_,rfl,_⟩:=h;rfl
 · obtain⟨a,b,rfl,hb,bd,h⟩:=h
   have nd:=scLow.nd
   refine' ⟨_,?d,?r⟩
   case d=>wtm_at "body"
   case r=>
    wtm_at "rd"
    refine⟨fun m σ H2=>∃ x y:Nat,m = y/\Nat.gcd x y = Int.gcd a b/\σ = [some (.int a),some (.int b),some (V.int (x:Int)),some (V.int (y:Int))]/\H2 = H,⟨_,a.natAbs,b.natAbs,rfl,rfl,?_,rfl⟩,?_⟩
    · have e1:(if a < 0 then -a else a) = (a.natAbs:Int):=by split <;> omega
      have e2:b = (b.natAbs:Int):=by omega
      rw [e1,<- e2];rfl
    · rintro m σ H2 ⟨x,y,rfl,hg,rfl,rfl⟩
      wtm_at "rd"
      refine ite2 (fun hc=>?_) (fun hc=>?_)
      · have hy:=of_decide_eq_true hc
        refine⟨_,fun _ _ hN=>hN,?_⟩
        wtm_at "rd"
        refine⟨x % m,Nat.mod_lt _ (by omega),m,x % m,rfl,?_,?_,rfl⟩
        · rw [<- hg,Nat.gcd_comm x m,Nat.gcd_rec m x,Nat.gcd_comm]
        · rw [Int.natCast_emod];rfl
      · have hy:m = 0:=by simp at hc;omega
        subst hy
        have e:x = Int.gcd a b:=by rw [<- hg,Nat.gcd_zero_right]
        subst e
        have er:rg a b = (Int.gcd a b:Int):=by unfold rg;rw [if_neg (by omega)]
        have hx:∀ t:Int,CDivX t (Int.gcd a b:Int):=fun t=>⟨by rw [<- er];exact rg_ne (by omega),by
         have hle:Int.gcd a b<=b.natAbs:=Nat.le_of_dvd (by omega) (Int.natAbs_dvd_natAbs.mpr (Int.gcd_dvd_right a b))
         rw [Int.natAbs_natCast]
         exact Nat.lt_of_le_of_lt hle (bd.mono (by decide))⟩
        refine⟨_,rfl,_,rfl,_,_,rfl,rfl,hx _,_,rfl,_,rfl,_,_,rfl,rfl,hx _,by show 2<=sizeLine;decide,fun p H3 np s3 e3=>h p H3 np s3 ?_⟩
        rw [e3]
        show some (HO.tup [V.int (a.fdiv (Int.gcd a b:Int)),V.int (b.fdiv (Int.gcd a b:Int))]) = _
        rw [<- er,Int.fdiv_eq_ediv_of_dvd (rg_t a b),Int.fdiv_eq_ediv_of_dvd (rg_b a b)];rfl
def sumR:List ((Int×Int)×Int)->Int×Int->Int×Int
 | [],z=>z
 | x :: l,z=>sumR l (rq (z.1 * x.1.2 + x.1.1 * x.2 * z.2) (z.2 * x.1.2))
def SumAt (H:Hp) (us:List V) (l:List ((Int×Int)×Int)):Prop:=us.length = l.length/\∀ (i:Nat) (v:V),us[i]? = some v->∃ (x:(Int×Int)×Int) (r p:Addr),l[i]? = some x/\v = .ref r/\H r = some (.tup [.ref p,.int x.2])/\H p = some (.tup [.int x.1.1,.int x.1.2])
abbrev sSum2:Stmt:=top 46
theorem scSum2:FnScope ["some","top","bottom","part","many","high"] ["some"] (defScope sSum2):=⟨rfl,rfl,rfl,by decide +kernel,rfl,by decide +kernel,by decide +kernel⟩
def SmallR:List ((Int×Int)×Int)->Int×Int->Prop
 | [],_=>True
 | x :: l,z=>0 < x.1.2/\0 < z.2/\Bd 100 x.1.1/\Bd 100 x.1.2/\Bd 100 x.2/\Bd 100 z.1/\Bd 100 z.2/\SmallR l (rq (z.1 * x.1.2 + x.1.1 * x.2 * z.2) (z.2 * x.1.2))
end
section
local macro_rules | `(tactic| wtm_at "op")=>`(tactic| first | apply o_add | apply o_mulI)
variable {P:Program}{w:World}{K:PySem.W.Frag}{mg:Str->Option Value}{base:Heap}
def spSum2:Sp:=fun vs H Q _=>∃ (a:Addr) (us:List V) (l:List ((Int×Int)×Int)),vs = [.ref a]/\H a = some (.lst us)/\SumAt H us l/\SmallR l (0,1)/\∀ (p:Addr) (H':Hp),H p = none->L2.Same H H'->H' p = some (.tup [.int (sumR l (0,1)).1,.int (sumR l (0,1)).2])->Q (.ref p) H'
theorem ok_sum2 {f:Addr}{fd:FuncData} (F:Fun K "_law_sum" "_law_sum" sSum2 f fd) (cL:Callee CX0 P w K mg base "_law_lowest" 1 ["top","bottom"] spLow):FnOk P w K mg base CX0 2 f fd ["some"] spSum2:=by
 refine Br.Fun.j F scSum2 (fun vs H Q E h=>?_) (fun cdv A outer s H vs Q E hr h=>?_)
 · obtain⟨_,_,_,rfl,_⟩:=h;rfl
 · obtain⟨a,us,l,rfl,ha,sa,sm,h⟩:=h
   have nd:=scSum2.nd
   refine' ⟨_,?d,?r⟩
   case d=>wtm_at "body"
   case r=>
    refine⟨_,rfl,a,rfl,.inl ⟨⟨_,SqL.of ha⟩,?_⟩⟩
    refine for_list (K:=K) (a:=a) (xs:=us) (fun i σ G=>L2.Same H G/\∃ (z:Int×Int) (x3 x4 x5:Option V),SmallR (l.drop i) z/\sumR (l.drop i) z = sumR l (0,1)/\σ = [some (.ref a),some (.int z.1),some (.int z.2),x3,x4,x5])
     ⟨L2.Same.refl _,(0,1),none,none,none,sm,rfl,rfl⟩ (fun i σ G _ ⟨sG,_⟩=>SqL.of (sG _ _ ha)) ?_ ?_
    · rintro i v σ G hx ⟨sG,z,x3,x4,x5,sm',ez,rfl⟩
      obtain⟨x,r,p,hxl,rfl,e1,e2⟩:=sa.2 i v hx
      have hd:l.drop i = x :: l.drop (i + 1):=by
       obtain⟨hlt,e⟩:=List.getElem?_eq_some_iff.mp hxl
       rw [List.drop_eq_getElem_cons hlt,e]
      rw [hd] at sm' ez
      obtain⟨p1,p2,b1,b2,b3,b4,b5,sm2⟩:=sm'
      have f1:=sG _ _ e1
      have f2:=sG _ _ e2
      refine⟨r,_,rfl,SqT.of f1,rfl,_,_,rfl,_,_,rfl,rfl,?_⟩
      refine⟨_,rfl,_,rfl,.inr (.inl ⟨p,_,_,_,rfl,rfl,SqT.of f2,at1,?_⟩)⟩
      refine⟨_,_,rfl,rfl,Bd.mulI b4 b2,?_⟩
      refine⟨_,rfl,.inr (.inl ⟨p,_,_,_,rfl,rfl,SqT.of f2,at0,?_⟩)⟩
      refine⟨_,rfl,_,_,rfl,rfl,Bd.mulI b1 b3,_,rfl,_,_,rfl,rfl,Bd.mulI (b1.mul b3) b5,.inl ⟨_,_,rfl,rfl,?_⟩⟩
      refine⟨_,rfl,_,rfl,_,rfl,.inr (.inl ⟨p,_,_,_,rfl,rfl,SqT.of f2,at1,?_⟩)⟩
      refine⟨_,_,rfl,rfl,Bd.mulI b5 b2,_,_,rfl,Int.mul_pos p2 p1,(b5.mul b2).mono (by decide),fun p3 H3 np s3 e3=>?_⟩
      exact⟨p3,_,rfl,SqT.of e3,rfl,_,_,rfl,_,_,rfl,rfl,sG.trans s3,rq (z.1 * x.1.2 + x.1.1 * x.2 * z.2) (z.2 * x.1.2),_,_,_,sm2,ez,rfl⟩
    · rintro σ G ⟨sG,z,x3,x4,x5,sm',ez,rfl⟩
      rw [sa.1,List.drop_length] at ez
      have ez:z = sumR l (0,1):=ez
      subst ez
      exact⟨_,rfl,_,rfl,by show 2<=sizeLine;decide,fun p H3 np s3 e3=>h p H3 (none_of sG np) (sG.trans s3) e3⟩
end
structure DrAt (H:Hp) (l:Addr) (ds:List Int):Prop where
 at_:H l = some (.lst (ds.map V.int))
 len:ds.length = 40
 bd:∀ d∈ds,0<=d/\d < 10 ^ 12
theorem DrAt.ix {H:Hp}{l:Addr}{ds:List Int} (x:DrAt H l ds) {i:Int} (h0:0<=i) (h:i < 40):∃ z,atI (ds.map V.int) i = some (.int z)/\0<=z/\z < 10 ^ 12:=by
 obtain⟨z,hz,_,e⟩:=atI_ints (zs:=ds) (i:=i) h0 (by have:=x.len;omega)
 exact⟨z,e,x.bd z hz⟩
theorem DrAt.same {H H':Hp}{l:Addr}{ds:List Int} (x:DrAt H l ds) (s:L2.Same H H'):DrAt H' l ds:=⟨s _ _ x.at_,x.len,x.bd⟩
section
variable {P:Program}{w:World}{K:PySem.W.Frag}{mg:Str->Option Value}{base:Heap}
abbrev sNeed:Stmt:=top 48
theorem scNeed:FnScope ["draws"] ["draws"] (defScope sNeed):=⟨rfl,rfl,rfl,by decide +kernel,rfl,by decide +kernel,by decide +kernel⟩
def spNeed:Sp:=fun vs H Q _=>∃ (l:Addr) (ds:List Int),vs = [.ref l]/\DrAt H l ds/\∀ (n:Int) (H':Hp),L2.Same H H'->2<=n->n<=10 ^ 12->Q (.int n) H'
theorem ok_need {f:Addr}{fd:FuncData} (F:Fun K "_law_need" "_law_need" sNeed f fd):FnOk P w K mg base CX0 1 f fd ["draws"] spNeed:=by
 refine Br.Fun.j F scNeed (fun vs H Q E h=>?_) (fun cdv A outer s H vs Q E hr h=>?_)
 · obtain⟨_,_,rfl,_⟩:=h;rfl
 · obtain⟨l,ds,rfl,dr,h⟩:=h
   have nd:=scNeed.nd
   refine' ⟨_,?d,?r⟩
   case d=>wtm_at "body"
   case r=>
    obtain⟨d0,e0,d0a,d0b⟩:=dr.ix (i:=0) (by decide) (by decide)
    obtain⟨d1,e1,d1a,d1b⟩:=dr.ix (i:=1) (by decide) (by decide)
    have sl:SqL K H l (ds.map V.int):=SqL.of dr.at_
    refine⟨_,rfl,.inl ⟨l,_,_,_,rfl,rfl,sl,e0,_,_,rfl,rfl,(show (0:Int) < 60 by decide),.inl ⟨_,_,rfl,rfl,?_⟩⟩⟩
    refine⟨_,_,rfl,rfl,⟨by decide,by decide⟩,_,rfl,.inl ⟨l,_,_,_,rfl,rfl,sl,e0,_,_,rfl,rfl,(show (0:Int) < 100 by decide),_,_,rfl,rfl,?_⟩⟩
    refine⟨_,rfl,.inl ⟨l,_,_,_,rfl,rfl,sl,e0,_,_,rfl,rfl,⟨by decide,by decide⟩,_,_,rfl,rfl,(show (0:Int) < 10 ^ Int.toNat 12 by decide),?_⟩⟩
    have pw:(10:Int) ^ Int.toNat 12 = 1000000000000:=by decide
    refine⟨_,_,rfl,rfl,IntMulOk.of_right (intBits_le_64 (by decide) (by decide)),_,_,rfl,rfl,cdiv_small (by decide) (by decide),.inl ⟨_,_,rfl,rfl,?_⟩⟩
    refine⟨by show 3<=sizeLine;decide,fun p H1 np s1 e3=>?_⟩
    refine⟨_,rfl,.inl ⟨l,_,_,_,rfl,rfl,SqL.of (s1 _ _ dr.at_),e1,_,_,rfl,rfl,(show (0:Int) < 3 by decide),?_⟩⟩
    rw [pw] at e3
    rw [Int.emod_eq_of_lt d0a (by omega:d0 < 1000000000000)] at e3
    obtain⟨z,hz,_,ez⟩:=atI_ints (zs:=[2 + d0 % 60,1000000000000 - d0 % 100,2 + d0 * 9 / 10]) (i:=d1 % 3) (by omega) (by simp;omega)
    have hz':2<=z/\z<=10 ^ 12:=by
     simp at hz
     rcases hz with hz | hz | hz <;> omega
    exact .inl ⟨p,_,_,_,rfl,rfl,SqL.of e3,ez,h z H1 s1 hz'.1 hz'.2⟩
end
theorem j_tup1F (ha:JA X [.Tuple es k p] t):JE X (.Tuple [.Tuple es k p] k2 pos) (tTupF t):=j_tupF ha
section
local macro_rules | `(tactic| wtm_at "call")=>`(tactic| (apply j_max3;(rfl);(rfl);(rfl);(with_reducible rfl);(rfl);(assumption);(wtm_at "pa")))
local macro_rules | `(tactic| wtm_at "pe")=>`(tactic| (apply j_tup1F;(wtm_at "pa")))
variable {P:Program}{w:World}{K:PySem.W.Frag}{mg:Str->Option Value}{base:Heap}
abbrev sOneL:Stmt:=top 49
theorem scOneL:FnScope ["draws","need","size","many","like"] ["draws"] (defScope sOneL):=⟨rfl,rfl,rfl,by decide +kernel,rfl,by decide +kernel,by decide +kernel⟩
def DueAt (H:Hp) (p:Addr) (need:Int) (qs:List (Int×Int)) (due:Int×Int):Prop:=∃ (h t:Addr),H p = some (.tup [.ref h,.ref t])/\HeapAt H h need qs/\H t = some (.tup [.int due.1,.int due.2])
structure OneOk (need s m:Int):Prop where
 n2:2<=need
 ok:HOk8 need [(s,m)]
 h50:upD need s<=50
theorem bd_lit {i:Int} (h0:1<=i) (h:i<=50):Bd 4000 i:=Bd.mono (n:=4000) (m:=10) (by unfold Bd;omega) (by decide)
def spOneL:Sp:=fun vs H Q _=>∃ (l:Addr) (ds:List Int),vs = [.ref l]/\DrAt H l ds/\∀ (p:Addr) (need s m:Int) (H':Hp),H p = none->L2.Same H H'->OneOk need s m->DueAt H' p need [(s,m)] (if m < upD need s then (0,1) else rq m (upD need s))->Q (.ref p) H'
theorem ok_oneL {f:Addr}{fd:FuncData} (F:Fun K "_law_one" "_law_one" sOneL f fd) (cN:Callee CX0 P w K mg base "_law_need" 1 ["draws"] spNeed) (cL:Callee CX0 P w K mg base "_law_lowest" 1 ["top","bottom"] spLow) (mX:mg "max" = none) (mN:mg "min" = none):FnOk P w K mg base CX0 2 f fd ["draws"] spOneL:=by
 refine Br.Fun.j F scOneL (fun vs H Q E h=>?_) (fun cdv A outer s H vs Q E hr h=>?_)
 · obtain⟨_,_,rfl,_⟩:=h;rfl
 · obtain⟨l,ds,rfl,dr,h⟩:=h
   have nd:=scOneL.nd
   refine' ⟨_,?d,?r⟩
   case d=>wtm_at "body"
   case r=>
    refine⟨_,rfl,l,ds,rfl,dr,fun need H1 s1 n1 n2=>?_⟩
    have dr1:=dr.same s1
    obtain⟨d2,e2,d2a,d2b⟩:=dr1.ix (i:=2) (by decide) (by decide)
    obtain⟨d3,e3,d3a,d3b⟩:=dr1.ix (i:=3) (by decide) (by decide)
    obtain⟨d4,e4,d4a,d4b⟩:=dr1.ix (i:=4) (by decide) (by decide)
    obtain⟨d5,e5,d5a,d5b⟩:=dr1.ix (i:=5) (by decide) (by decide)
    have sl:SqL K H1 l (ds.map V.int):=SqL.of dr1.at_
    have pw:(10:Int) ^ Int.toNat 12 = 1000000000000:=by decide
    refine⟨_,_,rfl,rfl,⟨by decide,by decide⟩,?_⟩
    refine⟨_,rfl,_,_,rfl,rfl,cdiv_small (by decide) (by decide),.inl ⟨_,_,rfl,rfl,?_⟩⟩
    refine⟨_,rfl,_,rfl,.inl ⟨l,_,_,_,rfl,rfl,sl,e2,_,_,rfl,rfl,(show (0:Int) < 9 by decide),.inl ⟨_,_,rfl,rfl,_,_,rfl,rfl,cdiv_small (by omega) (by omega),?_⟩⟩⟩
    refine⟨_,rfl,.inl ⟨l,_,_,_,rfl,rfl,sl,e3,_,_,rfl,rfl,(show (0:Int) < 3 by decide),.inl ⟨_,_,rfl,rfl,_,_,rfl,rfl,?_⟩⟩⟩
    refine⟨_,_,_,rfl,_,_,rfl,?_⟩
    rw [pw]
    generalize hsz:(if max (max 1 (need / 50 + 1)) (need / (1 + d2 % 9) + d3 % 3 - 1) < 1000000000000 then max (max 1 (need / 50 + 1)) (need / (1 + d2 % 9) + d3 % 3 - 1) else 1000000000000) = size
    have n2':need<=1000000000000:=n2
    have z1:1<=size:=by split at hsz <;> omega
    have z2:size<=1000000000000:=by split at hsz <;> omega
    have z5:need / 50 + 1<=size\/need<=size:=by split at hsz <;> omega
    have u50:upD need size<=50:=by
     refine (upD_le (by omega)).mpr ?_
     omega
    have ue:(need + size - 1) / size = upD need size:=upD_eq (by omega)
    have u1:1<=upD need size:=by
     rcases Int.lt_or_le (upD need size) 1 with h | h
     · have:=(upD_le (t:=need) (b:=size) (n:=0) (by omega)).mp (by omega)
       omega
     · exact h
    refine⟨_,rfl,.inl ⟨l,_,_,_,rfl,rfl,sl,e4,_,_,rfl,rfl,(show (0:Int) < 9 by decide),.inl ⟨_,_,rfl,rfl,?_⟩⟩⟩
    refine⟨_,rfl,.inl ⟨l,_,_,_,rfl,rfl,sl,e4,_,_,rfl,rfl,(show (0:Int) < 70 by decide),.inl ⟨_,_,rfl,rfl,?_⟩⟩⟩
    refine⟨_,rfl,.inl ⟨l,_,_,_,rfl,rfl,sl,e4,?_⟩⟩
    refine⟨_,_,rfl,rfl,⟨by decide,by decide⟩,_,_,rfl,rfl,(show (0:Int) < 10 ^ Int.toNat 12 by decide),.inl ⟨_,_,rfl,rfl,?_⟩⟩
    refine⟨by show 3<=sizeLine;decide,fun p H2 np s2 e6=>?_⟩
    refine⟨_,rfl,.inl ⟨l,_,_,_,rfl,rfl,SqL.of (s2 _ _ dr1.at_),e5,_,_,rfl,rfl,(show (0:Int) < 3 by decide),?_⟩⟩
    rw [pw] at e6
    obtain⟨many,hz,_,ez⟩:=atI_ints (zs:=[1 + d4 % 9,1 + d4 % 70,1 + d4 % 1000000000000]) (i:=d5 % 3) (by omega) (by simp;omega)
    have hm:1<=many/\many<=10 ^ 12:=by
     simp at hz
     rcases hz with hz | hz | hz <;> omega
    refine .inl ⟨p,_,_,_,rfl,rfl,SqL.of e6,ez,?_⟩
    refine⟨_,rfl,_,rfl,.inl ⟨_,_,rfl,rfl,_,_,rfl,rfl,_,rfl,_,_,rfl,rfl,cdiv_small (by omega) (by omega),?_⟩⟩
    rw [show (fun i j:Int=>V.int (i / j)) (need + size - 1) size = V.int (upD need size) from congrArg V.int ue]
    have ok:HOk8 need [(size,many)]:=⟨by show 1<=16;decide,by omega,by omega,fun q hq=>by
     rcases List.mem_singleton.mp hq with rfl
     exact⟨z1,by omega,hm.1,by omega⟩,by simp [Ris]⟩
    have one:OneOk need size many:=⟨n1,ok,u50⟩
    have m1:L2.Same H H2:=s1.trans s2
    refine⟨fun σ' H'=>σ' = [some (.ref l),some (.int need),some (.int size),some (.int many),some (.int (upD need size))]/\H' = H2/\¬ many < upD need size,?_,?_⟩
    · refine⟨_,rfl,_,rfl,_,_,rfl,rfl,?_⟩
      refine⟨_,rfl,ite2 (fun hc=>?_) (fun hc=>⟨rfl,rfl,fun hl=>hc (decide_eq_true hl)⟩)⟩
      have hlt:=of_decide_eq_true hc
      refine⟨_,rfl,_,rfl,_,rfl,by show 2<=sizeLine;decide,fun r H3 nr s3 er=>?_⟩
      refine⟨by show 1<=sizeLine;decide,fun t o H4 nt bo s4 et=>?_⟩
      refine⟨by show 2<=sizeLine;decide,fun hp H5 nh s5 eh=>?_⟩
      refine⟨by show 2<=sizeLine;decide,fun z H6 nz s6 ez=>?_⟩
      refine⟨by show 2<=sizeLine;decide,fun q H7 nq s7 eq=>?_⟩
      have s67:=s6.trans s7
      refine h q need size many H7 ?_ (m1.trans (s3.trans (s4.trans (s5.trans s67)))) one ⟨hp,z,eq,⟨t,o,[.ref r],s67 _ _ eh,bo,(s5.trans s67) _ _ et,Kinds.nil.snoc (q:=(size,many)) ((s4.trans (s5.trans s67)) _ _ er),ok⟩,?_⟩
      · exact none_of (m1.trans (s3.trans (s4.trans (s5.trans s6)))) nq
      · rw [if_pos hlt];exact s7 _ _ ez
    · rintro _ _ ⟨rfl,rfl,hc⟩
      refine⟨_,rfl,_,rfl,_,rfl,by show 2<=sizeLine;decide,fun r H3 nr s3 er=>?_⟩
      refine⟨by show 1<=sizeLine;decide,fun t o H4 nt bo s4 et=>?_⟩
      refine⟨by show 2<=sizeLine;decide,fun hp H5 nh s5 eh=>?_⟩
      refine⟨_,rfl,_,rfl,many,upD need size,rfl,by omega,bd_lit u1 u50,fun z H6 nz s6 ez=>?_⟩
      refine⟨by show 2<=sizeLine;decide,fun q H7 nq s7 eq=>?_⟩
      have s67:=s6.trans s7
      refine h q need size many H7 ?_ (m1.trans (s3.trans (s4.trans (s5.trans s67)))) one ⟨hp,z,eq,⟨t,o,[.ref r],s67 _ _ eh,bo,(s5.trans s67) _ _ et,Kinds.nil.snoc (q:=(size,many)) ((s4.trans (s5.trans s67)) _ _ er),ok⟩,?_⟩
      · exact none_of (m1.trans (s3.trans (s4.trans (s5.trans s6)))) nq
      · rw [if_neg hc];exact s7 _ _ ez
end
section
variable {X:Cx}{tg:Expr}{td:TE}{t:TE}{p pos ps:Pos}{e:Expr}{gs:List Comprehension}{sc:Scope}
theorem k_keysN (ho:JE X (.Name "kinds" p) td):JI X tg (.Name "kinds" p) (iKeys td):=k_keys ho
theorem j_sumKeys (ha:JE X (.Call (.Name "sum" p) [.ListComp e gs sc ps] [] pos) t):JE X (.Call (.Name "sum" p) [.ListComp e gs sc ps] [] pos) (fun σ H Q=>t σ H fun v H1=>Q v H1\/∃ a ob kvs kvs0,H a = some (.dK kvs0)/\H1 a = some (.frz ob (.dK kvs))/\Q v (upd H1 a (.dK kvs))):=j_thaw ha
theorem j_dictL1 {es:List Expr}{x:Str}{ta:TA} (hg:Gl X x) (he:starEach (e :: es) X.env = (false,eval e X.env) :: starEach es X.env) (hpl:(backTo pos (starEach es X.env)).any (·.1) = false) (hx:x = "dict") (hc:X.calm = true) (hm:X.mg x = none) (ha:JA X (e :: es) ta):
 JE X (.Call (.Name x p) (e :: es) [] pos) (tCB rDictL ta):=⟨by subst hx;exact pe_callTy (call_dictL hc) hg hm boot_dict' ha.h (by decide) (by decide) he hpl⟩
end
section
local macro_rules | `(tactic| wtm_at "pi")=>`(tactic| (apply k_keysN;(wtm_at "pe")))
local macro_rules | `(tactic| wtm_at "call")=>`(tactic| first
 | (apply j_sumKeys;apply k_sumS;(rfl);(rfl);(rfl);(wtm_at "K");(with_reducible rfl);(rfl);(assumption);(wtm_at "pa"))
 | (apply j_sorted;(rfl);(rfl);(rfl);(with_reducible rfl);(rfl);(assumption);(wtm_at "pa"))
 | (apply k_tupleF;(rfl);(rfl);(rfl);(wtm_at "K");(with_reducible rfl);(assumption);(wtm_at "pa"))
 | (apply j_dictL1;(rfl);(rfl);(rfl);(with_reducible rfl);(rfl);(assumption);(wtm_at "pa")))
local macro_rules | `(tactic| wtm_at "cop")=>`(tactic| (apply c_dnotin;(assumption)))
local macro_rules | `(tactic| wtm_at "pe")=>`(tactic| (apply j_dgetA "kinds";(assumption);(exact fun _ _=>rfl);(wtm_at "pe");(wtm_at "pe")))
local macro_rules | `(tactic| wtm_at "ps")=>`(tactic| (apply s_dputA "kinds";(assumption);(rfl);(wtm_at "pe");(wtm_at "pe");(wtm_at "pe")))
variable {P:Program}{w:World}{K:PySem.W.Frag}{mg:Str->Option Value}{base:Heap}
abbrev sHalfL:Stmt:=top 50
theorem scHalfL:FnScope ["draws","beside","need","kinds","k","size","total"] ["draws","beside"] (defScope sHalfL):=⟨rfl,rfl,rfl,by decide +kernel,rfl,by decide +kernel,by decide +kernel⟩
def vv (ks:List (Int×Int)):List (Key×V):=ks.map fun q=>(.inl q.1,.int q.2)
def look:List (Int×Int)->Int->Option Int
 | [],_=>none
 | q :: ks,n=>if q.1 = n then some q.2 else look ks n
theorem look_cons (q:Int×Int) (ks:List (Int×Int)) (n:Int):look (q :: ks) n = if q.1 = n then some q.2 else look ks n:=rfl
theorem val_vv:∀ (ks:List (Int×Int)) (n:Int),valV (vv ks) (.inl n) = (look ks n).map V.int
 | [],_=>rfl
 | q :: ks,n=>by
  by_cases e:q.1 = n
  · rw [show vv _ = ((Sum.inl q.1:Key),V.int q.2) :: vv ks from rfl,valV_pos (by grind)]
    rw [look_cons,if_pos e];rfl
  · rw [show vv _ = ((Sum.inl q.1:Key),V.int q.2) :: vv ks from rfl,valV_neg (fun z=>e (by injection z)),val_vv ks n]
    rw [look_cons,if_neg e]
theorem look_none:∀ {ks:List (Int×Int)}{n:Int},n∉ks.map (·.1)->look ks n = none
 | [],_,_=>rfl
 | q :: ks,n,h=>by
  rw [look_cons,if_neg (fun e=>h (by rw [<- e];exact .head _)),look_none fun z=>h (.tail _ z)]
theorem look_some:∀ {ks:List (Int×Int)}{n c:Int},look ks n = some c->(n,c)∈ks
 | q :: ks,n,c,h=>by
  rw [look_cons] at h
  by_cases e:q.1 = n
  · grind
  · rw [if_neg e] at h;exact .tail _ (look_some h)
theorem look_mem:∀ {ks:List (Int×Int)}{n:Int},n∈ks.map (·.1)->∃ c,look ks n = some c
 | q :: ks,n,h=>by
  rw [look_cons]
  by_cases e:q.1 = n
  · exact⟨_,if_pos e⟩
  · rw [if_neg e]
    rcases List.mem_cons.mp h with z | z
    · grind
    · exact look_mem z
theorem look_at:∀ {ks:List (Int×Int)}{j:Nat}{q:Int×Int},(ks.map (·.1)).Nodup->ks[j]? = some q->look ks q.1 = some q.2
 | r :: ks,0,q,_,h=>by simp at h;subst h;rw [look_cons,if_pos rfl]
 | r :: ks,j + 1,q,nd,h=>by
  rw [List.map_cons,List.nodup_cons] at nd
  rw [look_cons,if_neg (fun e=>nd.1 (by rw [e];exact List.mem_map.mpr ⟨q,List.mem_of_getElem? h,rfl⟩))]
  exact look_at nd.2 h
theorem look_pairs {ks:List (Int×Int)} (nd:(ks.map (·.1)).Nodup):ks.map (fun q=>(q.1,(look ks q.1).getD 0)) = ks:=by
 have:ks.map (fun q=>(q.1,(look ks q.1).getD 0)) = ks.map id:=List.map_congr_left fun q hq=>by
  obtain⟨i,hi,e⟩:=List.getElem_of_mem hq
  have:ks[i]? = some q:=by simp_all
  rw [look_at nd this];rfl
 simp_all
def putI (ks:List (Int×Int)) (n m:Int):List (Int×Int):=match look ks n with
 | some _=>ks.map fun q=>if q.1 = n then (q.1,m) else q
 | none=>ks ++ [(n,m)]
theorem put_vv {ks:List (Int×Int)}{n m:Int}:putK (vv ks) (.inl n) (.int m) = vv (putI ks n m):=by
 unfold putK putI
 rw [valV_any,val_vv]
 cases look ks n with
 | none=>
  show vv ks ++ _ = _
  unfold vv;rw [List.map_append];rfl
 | some c=>
  show List.map _ (vv ks) = vv (ks.map _)
  unfold vv
  rw [List.map_map,List.map_map]
  refine List.map_congr_left fun q _=>?_
  show (if (Sum.inl q.1:Key) = .inl n then ((Sum.inl q.1:Key),V.int m) else (.inl q.1,.int q.2)) = (.inl (if q.1 = n then (q.1,m) else q).1,V.int (if q.1 = n then (q.1,m) else q).2)
  by_cases e:q.1 = n
  · rw [if_pos (by rw [e]),if_pos e]
  · rw [if_neg (fun z=>e (by injection z)),if_neg e]
theorem putI_mem {ks:List (Int×Int)}{n m:Int}{q:Int×Int} (h:q∈putI ks n m):q∈ks\/q = (n,m):=by
 unfold putI at h
 cases e:look ks n with
 | none=>
  rw [e] at h
  rcases List.mem_append.mp h with h | h
  · exact .inl h
  · exact .inr (List.mem_singleton.mp h)
 | some c=>
  rw [e] at h
  obtain⟨r,hr,rfl⟩:=List.mem_map.mp h
  by_cases z:r.1 = n
  · rw [if_pos z,z];exact .inr rfl
  · rw [if_neg z];exact .inl hr
theorem putI_nd {ks:List (Int×Int)}{n m:Int} (nd:(ks.map (·.1)).Nodup):((putI ks n m).map (·.1)).Nodup:=by
 unfold putI
 cases e:look ks n with
 | none=>
  show ((ks ++ [(n,m)]).map (·.1)).Nodup
  have hn:n∉ks.map (·.1):=fun z=>by obtain⟨c,e'⟩:=look_mem z;rw [e] at e';cases e'
  rw [List.map_append,List.nodup_append]
  refine⟨nd,by simp,fun a ha b hb z=>hn ?_⟩
  have:b = n:=by simpa using hb
  rw [<- this,<- z];exact ha
 | some c=>
  show ((ks.map fun q=>if q.1 = n then (q.1,m) else q).map (·.1)).Nodup
  have:((ks.map fun q=>if q.1 = n then (q.1,m) else q).map (·.1)) = ks.map (·.1):=by
   rw [List.map_map]
   refine List.map_congr_left fun q _=>?_
   show (if q.1 = n then (q.1,m) else q).1 = q.1
   split <;> rfl
  rw [this];exact nd
theorem putI_len {ks:List (Int×Int)}{n m:Int}:(putI ks n m).length<=ks.length + 1:=by
 unfold putI
 cases look ks n with
 | none=>show (ks ++ [(n,m)]).length<=_;rw [List.length_append];simp
 | some c=>show (ks.map _).length<=_;rw [List.length_map];omega
theorem putI_ne {ks:List (Int×Int)}{n m:Int}:putI ks n m≠[]:=by
 unfold putI
 cases e:look ks n with
 | none=>show ks ++ [(n,m)]≠[];simp
 | some c=>
  have:=look_some e
  show ks.map _≠[]
  intro z
  rw [List.map_eq_nil_iff] at z
  rw [z] at this;cases this
theorem put_none {ks:List (Int×Int)}{n m:Int} (h:look ks n = none):putI ks n m = ks ++ [(n,m)]:=by unfold putI;rw [h]
structure Tb (need:Int) (ks:List (Int×Int)):Prop where
 nd:(ks.map (·.1)).Nodup
 bd:∀ q∈ks,1<=q.1/\q.1<=10 ^ 12/\1<=q.2/\q.2<=10 ^ 13/\need<=2 * q.1
theorem Tb.put {need n m:Int}{ks:List (Int×Int)} (t:Tb need ks) (h1:1<=n) (h2:n<=10 ^ 12) (h3:1<=m) (h4:m<=10 ^ 13) (h5:need<=2 * n):Tb need (putI ks n m):=
 ⟨putI_nd t.nd,fun q hq=>by
  rcases putI_mem hq with h | rfl
  · exact t.bd q h
  · exact⟨h1,h2,h3,h4,h5⟩⟩
theorem same_put {H G:Hp}{d:Addr}{o:HO} (s:L2.Same H G) (hd:H d = none):L2.Same H (upd G d o):=fun b ob e=>by
 rw [upd_ne (fun z=>by rw [z,hd] at e;cases e)];exact s _ _ e
def totK (ks:List (Int×Int)):Int:=(ks.map (·.2)).sum
theorem sum_kinds {L:PySem.W.Frag}{d:Addr}{ks:List (Int×Int)}{G:Hp}{a0 a1 a2 a4 a5 a6:Option V}{Q:VK} (nd:(ks.map (·.1)).Nodup) (hl:ks.length<=1000) (eD:G d = some (.dK (vv ks)))
 (h:∀ G':Hp,(∀ c o,c≠d->G c = some o->G' c = some o)->G' d = some (.dK (vv ks))->Q (.int (totK ks)) G'):
 tCB (rSumS L) (tCons (tComp 1 (iKeys (tVar (0 + 1 + 1 + 1))) (gName 0) tYes (tDGet (tVar (0 + 1 + 1 + 1 + 1)) (tVar 0))) tNil) [a0,a1,a2,some (.ref d),a4,a5,a6] G fun v H1=>
  Q v H1\/∃ a ob kvs kvs0,G a = some (.dK kvs0)/\H1 a = some (.frz ob (.dK kvs))/\Q v (upd H1 a (.dK kvs)):=by
 have hvl:(vv ks).length = ks.length:=by unfold vv;rw [List.length_map]
 refine⟨_,rfl,d,vv ks,rfl,eD,fun ob Hf hf=>?_⟩
 have ef:Hf d = some (.frz ob (.dK (vv ks))):=by rw [hf,upd_same]
 refine cmp_keys (a:=d) (ob:=ob) (kvs:=vv ks) (by omega) (fun j ys σ G3=>G3 = Hf/\ys = (ks.take j).map (fun q=>V.int q.2)/\∃ x:Option V,σ = [x,a0,a1,a2,some (.ref d),a4,a5,a6])
  ⟨rfl,rfl,none,rfl⟩ (fun j ys σ G3 _ ⟨e1,e2,_⟩=>⟨by rw [e1];exact ef,by rw [e2,List.length_map,List.length_take];omega⟩) ?_ ?_
 · rintro j kv ys σ G3 N hkv ⟨eG3,rfl,x0,rfl⟩ hN
   rw [eG3]
   unfold vv at hkv
   rw [List.getElem?_map] at hkv
   obtain⟨q,hq,rfl⟩:=Option.map_eq_some_iff.mp hkv
   have dg:DGet Hf d (.int q.1) (some (.int q.2)):=.inl ⟨vv ks,.inl q.1,.inr ⟨ob,ef⟩,rfl,by rw [val_vv,look_at nd hq];rfl⟩
   refine⟨_,rfl,_,rfl,d,.int q.2,rfl,dg,hN _ _ _ ⟨rfl,?_,_,rfl⟩⟩
   rw [List.take_add_one,hq,List.map_append];rfl
 rintro ys σ G3 ⟨eG3,rfl,x0,rfl⟩ pc G4 npc s4 e4
 rw [eG3] at s4
 rw [hvl,List.take_length,show ks.map (fun q=>V.int q.2) = (ks.map (·.2)).map V.int by rw [List.map_map];rfl] at e4
 refine⟨pc,(ks.map fun q:Int×Int=>q.2),rfl,.inl (SqL.of e4),.inr ⟨d,ob,vv ks,vv ks,eD,s4 _ _ ef,h (upd G4 d (.dK (vv ks))) (fun c o n e=>?_) upd_same⟩⟩
 rw [upd_ne n];exact s4 _ _ (by rw [hf,upd_ne n];exact e)
theorem merge_vv {qs:List (Int×Int)} (nd:(qs.map (·.1)).Nodup):mergeK [] (vv qs) = vv qs:=by
 have gen:∀ (rs ks:List (Int×Int)),((ks ++ rs).map (·.1)).Nodup->mergeK (vv ks) (vv rs) = vv (ks ++ rs):=fun rs=>by
  induction rs with
  | nil=>intro ks _;rw [List.append_nil];rfl
  | cons r rs ih=>
   intro ks h
   have e:mergeK (vv ks) (vv (r :: rs)) = mergeK (putK (vv ks) (.inl r.1) (.int r.2)) (vv rs):=rfl
   have hr:r.1∉ks.map (·.1):=fun z=>by
    rw [List.map_append,List.nodup_append] at h
    exact h.2.2 _ z r.1 (.head _) rfl
   rw [e,put_vv,put_none (look_none hr),ih _ (by rw [List.append_assoc];exact h),List.append_assoc];rfl
 exact gen qs [] nd
def allTwo (ks:List (Int×Int)):List (Int×Int):=ks.map fun q=>(q.1,2)
theorem allTwo_tot:∀ ks:List (Int×Int),totK (allTwo ks) = 2 * ks.length
 | []=>rfl
 | q :: ks=>by
  have:=allTwo_tot ks
  unfold totK allTwo at *
  simp only [List.map_cons,List.sum_cons,List.length_cons]
  omega
def loT (need:Int) (qs:List (Int×Int)):Int:=(qs.map fun q=>if q.1 < need then q.2 else 0).sum
def wsT (need:Int) (qs:List (Int×Int)):Int:=(qs.map fun q=>wtS need q.1 * q.2).sum
theorem rq_cross (W:Int):(rq W 2).1 * 2 = W * (rq W 2).2:=by
 show rN W 2 * 2 = W * rD W 2
 have h1:=rN_mul W 2
 have h2:=rD_mul W 2
 calc rN W 2 * 2 = rN W 2 * (rD W 2 * rg W 2):=by rw [h2]
  _ = rN W 2 * rg W 2 * rD W 2:=by rw [Int.mul_comm (rD W 2),Int.mul_assoc]
  _ = W * rD W 2:=by rw [h1]
theorem rq_more {W:Int} (m:Int):sumR [(rq W 2,1),((1,1),m)] (0,1) = rq (W + 2 * m) 2:=by
 have hd:0 < (rq W 2).2:=rD_pos (by decide)
 have c:=rq_cross W
 have e1:rq (0 * (rq W 2).2 + (rq W 2).1 * 1 * 1) (1 * (rq W 2).2) = rq W 2:=by
  refine rq_eq (by omega) (by decide) ?_
  rw [Int.zero_mul,Int.zero_add,Int.mul_one,Int.mul_one,Int.one_mul];exact c
 show rq ((rq (0 * (rq W 2).2 + (rq W 2).1 * 1 * 1) (1 * (rq W 2).2)).1 * 1 + 1 * m * (rq (0 * (rq W 2).2 + (rq W 2).1 * 1 * 1) (1 * (rq W 2).2)).2) ((rq (0 * (rq W 2).2 + (rq W 2).1 * 1 * 1) (1 * (rq W 2).2)).2 * 1) = _
 rw [e1]
 refine rq_eq (by omega) (by decide) ?_
 rw [Int.mul_one,Int.mul_one,Int.one_mul,Int.add_mul,c,Int.add_mul,Int.mul_comm m,Int.mul_assoc,Int.mul_assoc 2]
 have:(rq W 2).2 * (m * 2) = 2 * (m * (rq W 2).2):=by rw [<- Int.mul_assoc,Int.mul_comm,Int.mul_comm (rq W 2).2]
 omega
theorem small_more {W m:Int} (hW:0<=W) (hW2:W<=10 ^ 15) (hm:0<=m) (hm2:m<=10 ^ 13):SmallR [(rq W 2,1),((1,1),m)] (0,1):=by
 have hd:0 < (rq W 2).2:=rD_pos (by decide)
 have hd2:(rq W 2).2.natAbs<=2:=rD_le W 2
 have hn:(rq W 2).1.natAbs<=W.natAbs:=rN_le W 2
 have c:=rq_cross W
 have e1:rq (0 * (rq W 2).2 + (rq W 2).1 * 1 * 1) (1 * (rq W 2).2) = rq W 2:=by
  refine rq_eq (by omega) (by decide) ?_
  rw [Int.zero_mul,Int.zero_add,Int.mul_one,Int.mul_one,Int.one_mul];exact c
 have b0:Bd 100 (0:Int):=by unfold Bd;decide
 have b1:Bd 100 (1:Int):=by unfold Bd;decide
 have bm:Bd 100 m:=Bd.mono (m:=60) (by unfold Bd;omega) (by decide)
 have bn:Bd 100 (rq W 2).1:=Bd.mono (m:=60) (by unfold Bd;omega) (by decide)
 have bd:Bd 100 (rq W 2).2:=Bd.mono (m:=60) (by unfold Bd;omega) (by decide)
 refine⟨hd,(by decide:(0:Int) < 1),bn,bd,b1,b0,b1,?_⟩
 show SmallR [((1,1),m)] (rq (0 * (rq W 2).2 + (rq W 2).1 * 1 * 1) (1 * (rq W 2).2))
 rw [e1]
 exact⟨(by decide:(0:Int) < 1),hd,b1,b1,bm,bn,bd,trivial⟩
theorem lo_below {need:Int}:∀ {ks:List (Int×Int)},(∀ q∈ks,q.1 < need)->loT need ks = totK ks/\wsT need ks = totK ks
 | [],_=>⟨rfl,rfl⟩
 | q :: ks,h=>by
  obtain⟨i1,i2⟩:=lo_below (need:=need) fun r hr=>h r (.tail _ hr)
  have hq:=h q (.head _)
  unfold loT totK wsT wtS at *
  simp only [List.map_cons,List.sum_cons]
  rw [if_pos hq,if_pos hq]
  exact⟨by omega,by omega⟩
theorem lo_snoc {need n m:Int}{ks:List (Int×Int)} (h:need<=n):loT need (ks ++ [(n,m)]) = loT need ks/\wsT need (ks ++ [(n,m)]) = wsT need ks + 2 * m:=by
 have hn:¬ n < need:=by omega
 unfold loT wsT wtS
 rw [List.map_append,List.map_append,List.sum_append,List.sum_append]
 simp only [List.map_cons,List.map_nil,List.sum_cons,List.sum_nil]
 rw [if_neg hn,if_neg hn]
 exact⟨by omega,by omega⟩
theorem ws_bd {need:Int}:∀ {ks:List (Int×Int)},(∀ q∈ks,1<=q.2/\q.2<=10 ^ 13)->0<=wsT need ks/\wsT need ks<=2 * 10 ^ 13 * ks.length
 | [],_=>⟨Int.le_refl _,Int.le_refl _⟩
 | q :: ks,h=>by
  obtain⟨i1,i2⟩:=ws_bd (need:=need) fun r hr=>h r (.tail _ hr)
  have hq:=h q (.head _)
  unfold wsT wtS at *
  simp only [List.map_cons,List.sum_cons,List.length_cons]
  split <;> exact⟨by omega,by omega⟩
structure HalfOk (need:Int) (qs:List (Int×Int)):Prop where
 n2:2<=need
 ok:HOk8 need qs
 h2:∀ q∈qs,need<=2 * q.1
 lo:2<=loT need qs
 few:(qs.filter fun q=>decide (q.1 < need)).length<=6
 len8:qs.length<=8
def spHalfL:Sp:=fun vs H Q _=>∃ (l:Addr) (ds:List Int) (b:Int),vs = [.ref l,.int b]/\DrAt H l ds/\0<=b/\b<=2/\∀ (p:Addr) (need:Int) (qs:List (Int×Int)) (H':Hp),H p = none->L2.Same H H'->HalfOk need qs->DueAt H' p need qs (rq (wsT need qs) 2)->Q (.ref p) H'
theorem ok_halfL {f:Addr}{fd:FuncData} (F:Fun K "_law_half" "_law_half" sHalfL f fd) (cN:Callee CX0 P w K mg base "_law_need" 1 ["draws"] spNeed) (cL:Callee CX0 P w K mg base "_law_lowest" 1 ["top","bottom"] spLow) (cS:Callee CX0 P w K mg base "_law_sum" 2 ["some"] spSum2) (mR:mg "range" = none) (mU:mg "sum" = none) (mT:mg "tuple" = none) (mS:mg "sorted" = none) (mD:mg "dict" = none) (mN:mg "min" = none):FnOk P w K mg base CX0 3 f fd ["draws","beside"] spHalfL:=by
 refine Br.Fun.j F scHalfL (fun vs H Q E h=>?_) (fun cdv A outer s H vs Q E hr h=>?_)
 · obtain⟨_,_,_,rfl,_⟩:=h;rfl
 · obtain⟨l,ds,b,rfl,dr,b0,b2,h⟩:=h
   have nd:=scHalfL.nd
   refine' ⟨_,?d,?r⟩
   case d=>wtm_at "body"
   case r=>
    have pw:(10:Int) ^ Int.toNat 12 = 1000000000000:=by decide
    refine⟨_,rfl,l,ds,rfl,dr,fun need H1 s1 n1 n2=>?_⟩
    have n2':need<=1000000000000:=n2
    intro d H2 hd s2 e2
    have hd0:H d = none:=none_of s1 hd
    have sl:∀ {G:Hp},L2.Same H G->SqL K G l (ds.map V.int):=fun s=>SqL.of (s _ _ dr.at_)
    obtain⟨d2,eD2,d2a,d2b⟩:=dr.ix (i:=2) (by decide) (by decide)
    have sH2:=s1.trans s2
    refine⟨_,rfl,.inl ⟨l,_,_,_,rfl,rfl,sl sH2,eD2,_,_,rfl,rfl,(show (0:Int) < 6 by decide),.inl ⟨_,_,rfl,rfl,_,rfl,?_,?_,?_⟩⟩⟩
    · omega
    · omega
    refine for_range (fun i σ G=>∃ (ks:List (Int×Int)) (x5 x6:Option V),Tb need ks/\(∀ q∈ks,q.1 < need)/\ks.length<=i/\(i≠0->ks≠[])/\G d = some (.dK (vv ks))/\L2.Same H G/\
     σ = [some (.ref l),some (.int b),some (.int need),some (.ref d),x5,x6,none]) ⟨[],none,none,⟨by simp,fun q hq=>(nomatch hq)⟩,fun q hq=>(nomatch hq),Nat.le_refl _,fun z=>absurd rfl z,e2,sH2,rfl⟩ ?_ ?_
    · rintro i σ G hi ⟨ks,x5,x6,tab,hlt,hkl,hne,eG,sG,rfl⟩
      have hi5:i < 6:=by omega
      obtain⟨d6,e6,d6a,d6b⟩:=dr.ix (i:=6 + 2 * (0 + (i:Int))) (by omega) (by omega)
      obtain⟨d7,e7,d7a,d7b⟩:=dr.ix (i:=7 + 2 * (0 + (i:Int))) (by omega) (by omega)
      obtain⟨d20,e20,d20a,d20b⟩:=dr.ix (i:=20 + (0 + (i:Int))) (by omega) (by omega)
      have mk:IntMulOk 2 (0 + (i:Int)):=IntMulOk.of_right (intBits_le_64 (by omega) (by omega))
      refine⟨_,rfl,.inl ⟨_,_,rfl,rfl,_,_,rfl,rfl,cdiv_small (by decide) (by decide),?_⟩⟩
      refine⟨_,rfl,_,rfl,_,_,rfl,rfl,mk,.inl ⟨_,_,rfl,rfl,.inl ⟨l,_,_,_,rfl,rfl,sl sG,e6,?_⟩⟩⟩
      refine⟨_,rfl,_,_,rfl,rfl,cdiv_small (by decide) (by decide),_,_,rfl,rfl,(show (0:Int) < need / 2 by omega),.inl ⟨_,_,rfl,rfl,?_⟩⟩
      obtain⟨size,hz⟩:∃ size,(need + 1) / 2 + d6 % (need / 2) = size:=⟨_,rfl⟩
      rw [show (fun i j:Int=>V.int (i + j)) ((need + 1) / 2) (d6 % (need / 2)) = V.int size from congrArg V.int hz]
      have hm1:=Int.emod_nonneg d6 (show need / 2≠0 by omega)
      have hm2:=Int.emod_lt_of_pos d6 (show (0:Int) < need / 2 by omega)
      have z1:1<=size/\size < need/\need<=2 * size:=by omega
      refine⟨_,rfl,_,rfl,_,_,rfl,rfl,mk,.inl ⟨_,_,rfl,rfl,.inl ⟨l,_,_,_,rfl,rfl,sl sG,e7,_,_,rfl,rfl,(show (0:Int) < 9 by decide),.inl ⟨_,_,rfl,rfl,?_⟩⟩⟩⟩
      refine⟨_,rfl,_,rfl,_,_,rfl,rfl,mk,.inl ⟨_,_,rfl,rfl,.inl ⟨l,_,_,_,rfl,rfl,sl sG,e7,?_⟩⟩⟩
      refine⟨_,_,rfl,rfl,⟨by decide,by decide⟩,_,_,rfl,rfl,(show (0:Int) < 10 ^ Int.toNat 12 by decide),.inl ⟨_,_,rfl,rfl,?_⟩⟩
      refine⟨by show 4<=sizeLine;decide,fun p3 G3 np3 s3 e3=>?_⟩
      rw [pw] at e3
      refine⟨_,rfl,_,rfl,.inl ⟨_,_,rfl,rfl,.inl ⟨l,_,_,_,rfl,rfl,sl (sG.trans s3),e20,_,_,rfl,rfl,(show (0:Int) < 4 by decide),?_⟩⟩⟩
      obtain⟨many,hz4,_,ez⟩:=atI_ints (zs:=[1,2,1 + d7 % 9,1 + d7 % 1000000000000]) (i:=d20 % 4) (by omega) (by simp;omega)
      have hm:1<=many/\many<=10 ^ 12:=by
       simp at hz4
       rcases hz4 with h | h | h | h <;> omega
      refine .inl ⟨p3,_,_,_,rfl,rfl,SqL.of e3,ez,?_⟩
      have eG3:=s3 _ _ eG
      have hvl:(vv ks).length = ks.length:=by unfold vv;rw [List.length_map]
      have hsz:(sizeLine:Nat) = 16777216:=sizeLine_eq
      refine⟨_,rfl,_,rfl,d,_,rfl,DPut.k (k:=.inl size) eG3 (by rw [hvl,hsz];omega),?_⟩
      rw [put_vv]
      refine⟨putI ks size many,_,_,tab.put z1.1 (by omega) hm.1 (by omega) z1.2.2,fun q hq=>?_,by have:=putI_len (ks:=ks) (n:=size) (m:=many);omega,fun _=>putI_ne,upd_same,same_put (sG.trans s3) hd0,rfl⟩
      rcases putI_mem hq with h | rfl
      · exact hlt q h
      · exact z1.2.1
    · rintro σ G ⟨ks,x5,x6,tab,hlt,hkl,hne,eG,sG,rfl⟩
      refine⟨fun σ' G'=>∃ (ks':List (Int×Int)) (d':Addr) (y5 y6:Option V),Tb need ks'/\(∀ q∈ks',q.1 < need)/\ks'.length<=6/\2<=totK ks'/\H d' = none/\G' d' = some (.dK (vv ks'))/\L2.Same H G'/\σ' = [some (.ref l),some (.int b),some (.int need),some (.ref d'),y5,y6,none],?_,?_⟩
      · have hk6:ks.length<=6:=by omega
        refine sum_kinds tab.nd (by omega) eG fun G' kp eD'=>?_
        have sG':L2.Same H G':=fun c o e=>kp c o (fun z=>by rw [z,hd0] at e;cases e) (sG c o e)
        refine⟨_,_,rfl,rfl,_,rfl,ite2 (fun hc=>?_) (fun hc=>?_)⟩
        · refine⟨_,rfl,d,vv ks,rfl,eD',fun ob Hf hf=>?_⟩
          have ef:Hf d = some (.frz ob (.dK (vv ks))):=by rw [hf,upd_same]
          have sHf:L2.Same H Hf:=by rw [hf];exact same_put sG' hd0
          have hvl:(vv ks).length = ks.length:=by unfold vv;rw [List.length_map]
          refine cmp_keys (a:=d) (ob:=ob) (kvs:=vv ks) (by omega) (fun j ys σ G3=>L2.Same Hf G3/\(∃ as:List Addr,ys = as.map V.ref/\as.length = j/\∀ (i:Nat) a (q:Int×Int),as[i]? = some a->ks[i]? = some q->G3 a = some (.tup [.int q.1,.int 2]))/\∃ x:Option V,σ = [x,some (.ref l),some (.int b),some (.int need),some (.ref d),x5,x6,none])
           ⟨L2.Same.refl _,⟨[],rfl,rfl,fun i a q e=>by simp at e⟩,none,rfl⟩ (fun j ys σ G3 _ ⟨e1,⟨as,e2,e3,_⟩,_⟩=>⟨e1 _ _ ef,by rw [e2,List.length_map];omega⟩) ?_ ?_
          · rintro j kv ys σ G3 N hkv ⟨sG3,⟨as,rfl,hal,hat⟩,x0,rfl⟩ hN
            unfold vv at hkv
            rw [List.getElem?_map] at hkv
            obtain⟨q,hq,rfl⟩:=Option.map_eq_some_iff.mp hkv
            refine⟨_,rfl,by show 2<=sizeLine;decide,fun r G4 nr s4 e4=>hN _ _ _ ⟨sG3.trans s4,⟨as ++ [r],by rw [List.map_append];rfl,by rw [List.length_append,hal];rfl,fun i a q' e1 e2=>?_⟩,_,rfl⟩⟩
            by_cases hi:i < as.length
            · rw [List.getElem?_append_left hi] at e1
              exact s4 _ _ (hat i a q' e1 e2)
            · have hi':i = as.length:=by
               have:=(List.getElem?_eq_some_iff.mp e1).1
               rw [List.length_append] at this
               simp at this;omega
              subst hi'
              rw [List.getElem?_append_right (Nat.le_refl _)] at e1
              simp at e1;subst e1
              rw [hal,hq] at e2;cases e2
              exact e4
          rintro ys σ G3 ⟨sG3,⟨as,rfl,hal,hat⟩,x0,rfl⟩ pc G4 npc s4 e4
          rw [hvl] at hal
          refine⟨pc,as,vv (allTwo ks),rfl,e4,by unfold vv allTwo;rw [List.length_map,List.length_map,hal],by unfold vv allTwo;rw [List.length_map,List.length_map];omega,fun i a kv e1 e2=>?_,fun d' G5 nd' s5 e5=>?_⟩
          · unfold vv allTwo at e2
            rw [List.map_map,List.getElem?_map] at e2
            obtain⟨q,hq,rfl⟩:=Option.map_eq_some_iff.mp e2
            exact .inl (s4 _ _ (hat i a q e1 hq))
          · have nd2:((allTwo ks).map (·.1)).Nodup:=by unfold allTwo;rw [List.map_map];exact tab.nd
            rw [merge_vv nd2] at e5
            have sH4:=sHf.trans (sG3.trans s4)
            have hk1:1<=ks.length:=by
             have:=hne (by omega)
             cases ks with
             | nil=>exact absurd rfl this
             | cons q ks=>simp
            refine⟨allTwo ks,d',_,_,⟨nd2,fun q hq=>?_⟩,fun q hq=>?_,by unfold allTwo;rw [List.length_map];exact hk6,by rw [allTwo_tot];omega,none_of sH4 nd',e5,sH4.trans s5,rfl⟩
            · unfold allTwo at hq
              obtain⟨r,hr,rfl⟩:=List.mem_map.mp hq
              obtain⟨b1,b2,b3,b4,b5⟩:=tab.bd r hr
              exact⟨b1,b2,(show (1:Int)<=2 by decide),(show (2:Int)<=10 ^ 13 by decide),b5⟩
            · unfold allTwo at hq
              obtain⟨r,hr,rfl⟩:=List.mem_map.mp hq
              exact hlt r hr
        · exact⟨ks,d,_,_,tab,hlt,hk6,by
           have:¬ totK ks < 2:=fun z=>hc (decide_eq_true z)
           omega,hd0,eD',sG',rfl⟩
      · rintro σ' G' ⟨ks',d',y5,y6,tab',hlt',hkl',ht2,hd',eD',sG',rfl⟩
        refine sum_kinds tab'.nd (by omega) eD' fun G2 kp eD2=>?_
        have sG2:L2.Same H G2:=fun c o e=>kp c o (fun z=>by rw [z,hd'] at e;cases e) (sG' c o e)
        refine⟨totK ks',2,rfl,by decide,bd_lit (by decide) (by decide),fun tt G3 nt s3 e3=>?_⟩
        obtain⟨lo0,ws0⟩:=lo_below hlt'
        rw [<- ws0] at e3
        have sG3:=sG2.trans s3
        refine⟨_,rfl,_,rfl,by omega,by omega,?_⟩
        refine for_range (fun i σ G=>∃ (ks:List (Int×Int)) (tt:Addr) (y5 y6:Option V),Tb need ks/\(ks.length<=6 + i/\(ks.filter fun q=>decide (q.1 < need)).length<=6)/\2<=loT need ks/\G d' = some (.dK (vv ks))/\G tt = some (.tup [.int (rq (wsT need ks) 2).1,.int (rq (wsT need ks) 2).2])/\L2.Same H G/\
         σ = [some (.ref l),some (.int b),some (.int need),some (.ref d'),y5,y6,some (.ref tt)]) ⟨ks',tt,_,_,tab',⟨by omega,Nat.le_trans (List.length_filter_le _ _) hkl'⟩,by omega,s3 _ _ eD2,e3,sG3,rfl⟩ ?_ ?_
        · rintro i σ G hi ⟨ks,tt,y5,y6,tab,⟨hkl,few⟩,hlo,eG,eT,sG,rfl⟩
          have hi2:i < 2:=by omega
          obtain⟨d30,e30,d30a,d30b⟩:=dr.ix (i:=30 + (0 + (i:Int))) (by omega) (by omega)
          obtain⟨d32,e32,d32a,d32b⟩:=dr.ix (i:=32 + (0 + (i:Int))) (by omega) (by omega)
          obtain⟨d34,e34,d34a,d34b⟩:=dr.ix (i:=34 + (0 + (i:Int))) (by omega) (by omega)
          obtain⟨d36,e36,d36a,d36b⟩:=dr.ix (i:=36 + (0 + (i:Int))) (by omega) (by omega)
          have hsz:(sizeLine:Nat) = 16777216:=sizeLine_eq
          have hvl:(vv ks).length = ks.length:=by unfold vv;rw [List.length_map]
          refine⟨_,_,rfl,rfl,⟨by decide,by decide⟩,_,rfl,_,rfl,_,rfl,.inl ⟨_,_,rfl,rfl,.inl ⟨l,_,_,_,rfl,rfl,sl sG,e30,?_⟩⟩⟩
          refine⟨by show 3<=sizeLine;decide,fun p4 G4 np4 s4 e4=>?_⟩
          have sG4:=sG.trans s4
          refine⟨_,rfl,_,rfl,.inl ⟨_,_,rfl,rfl,.inl ⟨l,_,_,_,rfl,rfl,sl sG4,e32,_,_,rfl,rfl,(show (0:Int) < 3 by decide),?_⟩⟩⟩
          obtain⟨z,hz3,_,ez⟩:=atI_ints (zs:=[0,1,d30]) (i:=d32 % 3) (by omega) (by simp;omega)
          have hz0:0<=z:=by
           simp at hz3
           rcases hz3 with h | h | h <;> omega
          refine .inl ⟨p4,_,_,_,rfl,rfl,SqL.of e4,ez,.inl ⟨_,_,rfl,rfl,_,_,rfl,?_⟩⟩
          rw [pw]
          obtain⟨size,hsize⟩:∃ size,(if need + z < 1000000000000 then need + z else 1000000000000) = size:=⟨_,rfl⟩
          rw [hsize]
          have z1:need<=size/\size<=1000000000000:=by split at hsize <;> omega
          have eD4:=s4 _ _ eG
          refine⟨_,?_,fun _ _ h=>h⟩
          refine⟨_,rfl,_,rfl,d',_,rfl,DGet.k (k:=.inl size) eD4,_,rfl,ite2 (fun hc=>?_) (fun _=>⟨ks,tt,_,_,tab,⟨by omega,few⟩,hlo,eD4,s4 _ _ eT,sG4,rfl⟩)⟩
          have hln:look ks size = none:=by
           rw [val_vv] at hc
           cases hq:look ks size with
           | none=>rfl
           | some c=>rw [hq] at hc;cases hc
          refine⟨_,rfl,_,rfl,.inl ⟨_,_,rfl,rfl,.inl ⟨l,_,_,_,rfl,rfl,sl sG4,e34,?_⟩⟩⟩
          refine⟨_,_,rfl,rfl,⟨by decide,by decide⟩,by show 2<=sizeLine;decide,fun p5 G5 np5 s5 e5=>?_⟩
          replace e5:G5 p5 = some (.lst [V.int 5,V.int (10 ^ Int.toNat 12)]):=e5
          rw [pw] at e5
          have sG5:=sG4.trans s5
          refine⟨_,rfl,_,rfl,.inl ⟨_,_,rfl,rfl,.inl ⟨l,_,_,_,rfl,rfl,sl sG5,e36,_,_,rfl,rfl,(show (0:Int) < 2 by decide),?_⟩⟩⟩
          obtain⟨y,hy3,_,ey⟩:=atI_ints (zs:=[5,1000000000000]) (i:=d36 % 2) (by omega) (by simp;omega)
          have hy0:1<=y/\y<=10 ^ 12:=by
           simp at hy3
           rcases hy3 with h | h <;> omega
          refine .inl ⟨p5,_,_,_,rfl,rfl,SqL.of e5,ey,_,_,rfl,rfl,(show (0:Int) < y by have:=hy0.1;omega),.inl ⟨_,_,rfl,rfl,?_⟩⟩
          obtain⟨m,hm⟩:∃ m,1 + d34 % y = m:=⟨_,rfl⟩
          rw [show (fun i j:Int=>V.int (i + j)) 1 (d34 % y) = V.int m from congrArg V.int hm]
          have m1:1<=m/\m<=10 ^ 13:=by
           have h0:=hy0.1
           have h3:=hy0.2
           have h1:=Int.emod_nonneg d34 (show y≠0 by omega)
           have h2:=Int.emod_lt_of_pos d34 (show 0 < y by omega)
           omega
          have eD5:=s5 _ _ eD4
          refine⟨_,rfl,_,rfl,d',_,rfl,DPut.k (k:=.inl size) eD5 (by rw [hvl,hsz];omega),?_⟩
          rw [put_vv,put_none hln]
          have ntt:tt≠d':=fun e=>by rw [e,eG] at eT;cases eT
          obtain⟨G6,hG6⟩:∃ G6,upd G5 d' (.dK (vv (ks ++ [(size,m)]))) = G6:=⟨_,rfl⟩
          rw [hG6]
          have sG6:L2.Same H G6:=by rw [<- hG6];exact same_put sG5 hd'
          have eD6:G6 d' = some (.dK (vv (ks ++ [(size,m)]))):=by rw [<- hG6];exact upd_same
          have eT6:G6 tt = some (.tup [.int (rq (wsT need ks) 2).1,.int (rq (wsT need ks) 2).2]):=by rw [<- hG6,upd_ne ntt];exact s5 _ _ (s4 _ _ eT)
          have tabN:Tb need (ks ++ [(size,m)]):=by
           have:=tab.put (n:=size) (m:=m) (by omega) (by omega) m1.1 m1.2 (by omega)
           rw [put_none hln] at this;exact this
          refine⟨_,rfl,by show 2<=sizeLine;decide,fun r1 G7 nr1 s7 e7=>?_⟩
          refine⟨by show 2<=sizeLine;decide,fun r2 G8 nr2 s8 e8=>?_⟩
          have eD8:=s8 _ _ (s7 _ _ eD6)
          have dg:DGet G8 d' (.int size) (some (.int m)):=by
           have:=DGet.k (k:=.inl size) eD8
           rw [val_vv,look_at (j:=ks.length) (q:=(size,m)) tabN.nd (by rw [List.getElem?_append_right (Nat.le_refl _)];simp)] at this
           exact this
          refine⟨_,rfl,_,rfl,d',.int m,rfl,dg,by show 2<=sizeLine;decide,fun r3 G9 nr3 s9 e9=>?_⟩
          refine⟨by show 2<=sizeLine;decide,fun pl GA npl sA eA=>?_⟩
          have wb:=ws_bd (need:=need) (ks:=ks) fun q hq=>⟨(tab.bd q hq).2.2.1,(tab.bd q hq).2.2.2.1⟩
          have s79:=s7.trans (s8.trans (s9.trans sA))
          refine⟨pl,_,[(rq (wsT need ks) 2,1),((1,1),m)],rfl,eA,⟨rfl,fun j v hv=>?_⟩,small_more wb.1 (by omega) (by omega) m1.2,fun t2 GB nt2 sB eB=>?_⟩
          · match j,hv with
            | 0,hv=>
             cases hv
             exact⟨_,r1,tt,rfl,rfl,(s8.trans (s9.trans sA)) _ _ e7,s79 _ _ eT6⟩
            | 1,hv=>
             cases hv
             exact⟨_,r3,r2,rfl,rfl,sA _ _ e9,(s9.trans sA) _ _ e8⟩
            | j + 2,hv=>simp at hv
          · obtain⟨l1,l2⟩:=lo_snoc (m:=m) (ks:=ks) z1.1
            rw [rq_more,<- l2] at eB
            exact⟨ks ++ [(size,m)],t2,_,_,tabN,⟨by rw [List.length_append];simp;omega,by rw [List.filter_append,List.filter_cons,if_neg (by simp;omega),List.filter_nil,List.append_nil];exact few⟩,by rw [l1];exact hlo,sB _ _ (s79 _ _ eD6),eB,sG6.trans (s79.trans sB),rfl⟩
        · rintro σ G ⟨ks,tt,y5,y6,tab,⟨hkl,few⟩,hlo,eG,eT,sG,rfl⟩
          have hk8:ks.length<=8:=by omega
          have hsz:(sizeLine:Nat) = 16777216:=sizeLine_eq
          have eI:vv ks = ikv (ks.map fun q=>(q.1,V.int q.2)):=by unfold vv ikv;rw [List.map_map];rfl
          refine⟨_,rfl,_,rfl,d',ks.map fun q=>(q.1,V.int q.2),rfl,by rw [eG,eI],by rw [List.length_map];omega,fun ln ns H9 hln s9 e9 perm pwi=>?_⟩
          have perm:ns.Perm (ks.map (·.1)):=by rw [List.map_map] at perm;exact perm
          have hnl:ns.length = ks.length:=by rw [perm.length_eq,List.length_map]
          have e9d:=s9 _ _ eG
          refine⟨ln,rfl,.inl ⟨⟨_,SqL.of e9⟩,?_⟩⟩
          refine cmp_list (K:=K) (a:=ln) (xs:=ns.map V.int) (fun i ys σ H2=>L2.Same H9 H2/\ys.length = i/\Kinds H2 ys ((ns.take i).map fun n=>(n,(look ks n).getD 0))/\
           ∃ (x:Option V),σ = [x,some (.ref l),some (.int b),some (.int need),some (.ref d'),y5,y6,some (.ref tt)])
           ⟨L2.Same.refl _,rfl,⟨rfl,fun i v e=>by simp at e⟩,none,rfl⟩ (by rw [List.length_map];omega) (fun i ys σ H2 _ ⟨sh,hy,_⟩=>⟨SqL.of (sh _ _ e9),by omega⟩) ?_ ?_
          · rintro i x ys σ H2 N hx ⟨sh,hy,hk,x0,rfl⟩ hN
            rw [List.getElem?_map] at hx
            obtain⟨n,hn,rfl⟩:=Option.map_eq_some_iff.mp hx
            obtain⟨c,hc⟩:=look_mem (perm.mem_iff.mp (List.mem_of_getElem? hn))
            have dg:DGet H2 d' (.int n) (some (.int c)):=by
             have:=DGet.k (k:=.inl n) (sh _ _ e9d)
             rw [val_vv,hc] at this;exact this
            refine⟨_,rfl,_,rfl,_,rfl,d',.int c,rfl,dg,?_⟩
            refine⟨lenLe (n:=2) rfl (by decide),fun r H3' hr s3' e3'=>hN _ _ _ ⟨sh.trans s3',by rw [List.length_append,hy];rfl,?_,_,rfl⟩⟩
            rw [List.take_add_one,hn,List.map_append]
            refine (hk.same s3').snoc (q:=(n,(look ks n).getD 0)) ?_
            rw [hc];exact e3'
          · rintro ys σ H2 ⟨sh,hy,hk,x0,rfl⟩ pl H11 hpl s11 e11
            rw [List.length_map] at hy
            rw [List.length_map,List.take_length] at hk
            refine⟨pl,_,rfl,SqL.of e11,fun t ob2 H12 ht hb2 s12 e12=>?_⟩
            refine⟨by show 2<=sizeLine;decide,fun hh H13 nhh s13 e13=>?_⟩
            refine⟨_,rfl,by show 2<=sizeLine;decide,fun pp H14 npp s14 e14=>?_⟩
            have sA:L2.Same G H13:=s9.trans (sh.trans (s11.trans (s12.trans s13)))
            have pq:(ns.map fun n=>(n,(look ks n).getD 0)).Perm ks:=by
             have:=perm.map fun n=>(n,(look ks n).getD 0)
             rw [List.map_map] at this
             have e:ks.map ((fun n=>(n,(look ks n).getD 0)) ∘ fun q:Int×Int=>q.1) = ks:=look_pairs tab.nd
             rw [e] at this;exact this
            have hw:wsT need (ns.map fun n=>(n,(look ks n).getD 0)) = wsT need ks:=perm_sum (pq.map _)
            have hl:loT need (ns.map fun n=>(n,(look ks n).getD 0)) = loT need ks:=perm_sum (pq.map _)
            have ris:Ris (ns.map fun n=>(n,(look ks n).getD 0)):=by
             have nn:ns.Nodup:=perm.nodup_iff.mpr tab.nd
             unfold Ris
             rw [List.pairwise_map]
             exact (pwi.and nn).imp fun⟨a,c⟩=>by omega
            have okh:HOk8 need (ns.map fun n=>(n,(look ks n).getD 0)):=⟨by rw [List.length_map,hnl];omega,by omega,n2,fun q hq=>by
             obtain⟨b1,b2,b3,b4,_⟩:=tab.bd q (pq.mem_iff.mp hq)
             exact⟨b1,b2,b3,b4⟩,ris⟩
            refine h pp need (ns.map fun n=>(n,(look ks n).getD 0)) H14 (none_of (sG.trans sA) npp) (sG.trans (sA.trans s14)) ⟨n1,okh,fun q hq=>(tab.bd q (pq.mem_iff.mp hq)).2.2.2.2,by rw [hl];exact hlo,by rw [(pq.filter _).length_eq];exact few,by rw [List.length_map,hnl];exact hk8⟩ ?_
            refine⟨hh,tt,e14,⟨t,ob2,ys,s14 _ _ e13,hb2,s14 _ _ (s13 _ _ e12),hk.same (s11.trans (s12.trans (s13.trans s14))),okh⟩,?_⟩
            rw [hw];exact s14 _ _ (sA _ _ eT)
end
theorem passN {P:Program}{w:World}{X:Cx}:Passes (CXF P w) X (fun _ _ _=>False):=fun _ _ _ _ _ _ _ ⟨_,_,_,_,_,_,_,_,_,_,_,_,_,_,z⟩=>z.elim
def CaseAt (H:Hp) (p:Addr):Prop:=∃ (need:Int) (qs:List (Int×Int)) (due:Int×Int) (rs:List (List Int)),DueAt H p need qs due/\leansQ need qs = some rs/\rs.length < 64/\∀ us tot shs prs,us.Perm rs->IsBest qs us tot shs prs->tot = due
theorem DueAt.same {H H':Hp}{p:Addr}{need:Int}{qs:List (Int×Int)}{due:Int×Int} (x:DueAt H p need qs due) (s:L2.Same H H'):DueAt H' p need qs due:=
 let ⟨h,t,e1,e2,e3⟩:=x;⟨h,t,s _ _ e1,e2.tu (Tu.of s),s _ _ e3⟩
theorem CaseAt.same {H H':Hp}{p:Addr} (x:CaseAt H p) (s:L2.Same H H'):CaseAt H' p:=let ⟨a,b,c,d,e,f⟩:=x;⟨a,b,c,d,e.same s,f⟩
theorem case_one {H:Hp}{p:Addr}{need s m:Int} (o:OneOk need s m) (d:DueAt H p need [(s,m)] (if m < upD need s then (0,1) else rq m (upD need s))):CaseAt H p:=by
 obtain⟨b1,_,b3,_⟩:=o.ok.bd (s,m) (.head _)
 obtain⟨rs,e⟩:=one_some o.n2 b1 b3 o.h50
 exact⟨need,_,_,rs,d,e,one_few b1 o.ok e,fun us tot shs prs pm ib=>one_sum o.n2 o.ok e pm ib⟩
theorem case_half {H:Hp}{p:Addr}{need:Int}{qs:List (Int×Int)} (o:HalfOk need qs) (d:DueAt H p need qs (rq (wsT need qs) 2)):CaseAt H p:=by
 obtain⟨rs,e⟩:=half_some o.n2 o.ok o.h2
 exact⟨need,_,_,rs,d,e,half_few o.n2 o.ok o.h2 o.few o.len8 e,fun us tot shs prs pm ib=>half_sum o.n2 o.ok o.h2 o.lo e pm ib⟩
section
local macro_rules | `(tactic| wtm_at "op")=>`(tactic| first | (apply k_addB;wtm_at "K") | apply o_mod | apply o_pow)
local macro_rules | `(tactic| wtm_at "cop")=>`(tactic| first | (apply c_neD;assumption) | apply c_isnot)
local macro_rules | `(tactic| wtm_at "pe")=>`(tactic| (apply j_callX;(assumption);(exact passN);(wtm_at "room");(rfl);(decide +kernel);(rfl);(rfl);(wtm_at "pa")))
variable {P:Program}{w:World}{K:PySem.W.Frag}{mg:Str->Option Value}{base:Heap}
abbrev sLaw:Stmt:=top 51
theorem scLaw:FnScope ["script","cell","draws","heap","due","told"] ["script"] (defScope sLaw):=⟨rfl,rfl,rfl,by decide +kernel,rfl,by decide +kernel,by decide +kernel⟩
def spLaw (K:PySem.W.Frag):Sp:=fun vs H Q _=>∃ (a:Addr) (ns:List Int),vs = [.ref a]/\SqL K H a (ns.map V.int)/\ns.length<=63/\∀ H',Q (.bl true) H'
theorem ok_law {f:Addr}{fd:FuncData}{C:Addr} (F:Fun K "law" "law" sLaw f fd) (cD:Callee CX0 P w K mg base "_law_draws" 2 ["cell","many","base"] spDraws) (cO:Callee CX0 P w K mg base "_law_one" 2 ["draws"] spOneL) (cH:Callee CX0 P w K mg base "_law_half" 3 ["draws","beside"] spHalfL)
 (cW:Callee CX0 P w K mg base "_law_whole" 1 ["thing"] spWhole) (cS:Callee (CXF P w) P w K mg base "shares_of" 5 ["heap"] (spSh C)) (cR:Callee (CXF P w) P w K mg base "shares_right" 5 ["heap","told"] (spSr C)) (mL:mg "len" = none):FnOk P w K mg base CX0 6 f fd ["script"] (spLaw K):=by
 refine Br.Fun.j F scLaw (fun vs H Q E h=>?_) (fun cdv A outer s H vs Q E hr h=>?_)
 · obtain⟨_,_,rfl,_⟩:=h;rfl
 · obtain⟨a,ns,rfl,hS,hlen,k⟩:=h
   have nd:=scLaw.nd
   have hsz:(sizeLine:Nat) = 16777216:=sizeLine_eq
   refine' ⟨_,?d,?r⟩
   case d=>wtm_at "body"
   case r=>
    refine⟨_,rfl,_,rfl,.inl ⟨a,_,rfl,.inl hS,?_⟩⟩
    refine⟨lenLe (n:=1) rfl (by decide),fun p2 H2 hp2 s2 f2=>?_⟩
    refine .inr (.inl ⟨a,p2,_,_,rfl,rfl,s2.seq hS,SqL.of f2,by rw [List.length_map];simp only [List.length_cons,List.length_nil];omega,fun p3 Hc hp3 s3 hp=>?_⟩)
    have hcells:ns.map V.int ++ [V.int (ns.map V.int).length] = (ns ++ [((ns.map V.int).length:Int)]).map V.int:=by rw [List.map_append];rfl
    rw [hcells] at hp
    refine⟨p3,rfl,.inl ⟨⟨_,SqL.of hp⟩,?_⟩⟩
    refine for_list (K:=K) (a:=p3) (xs:=(ns ++ [((ns.map V.int).length:Int)]).map V.int) (fun i σ H2=>∃ x1 x2 x3 x4 x5:Option V,σ = [some (.ref a),x1,x2,x3,x4,x5]/\L2.Same Hc H2)
     ⟨none,none,none,none,none,rfl,L2.Same.refl Hc⟩ (fun i σ H2 _ ⟨_,_,_,_,_,_,sH⟩=>SqL.of (sH _ _ hp)) ?_ ?_
    · rintro i y σ H2 hi ⟨x1,x2,x3,x4,x5,rfl,sH⟩
      rw [List.getElem?_map] at hi
      obtain⟨z,hz,rfl⟩:=Option.map_eq_some_iff.mp hi
      refine⟨_,rfl,_,_,rfl,rfl,⟨by decide,by decide⟩,z,40,_,rfl,by decide,by decide,by decide,by decide,fun l ds H3 hl3 s3' e3 hlen3 hb3=>?_⟩
      have dr:DrAt H3 l ds:=⟨e3,by omega,hb3⟩
      obtain⟨d38,e38,d38a,d38b⟩:=dr.ix (i:=38) (by decide) (by decide)
      refine⟨_,rfl,l,ds,rfl,dr,fun p1 need1 sz1 m1 H4 np1 s4 ok1 due1=>?_⟩
      refine⟨_,rfl,l,ds,0,rfl,dr.same s4,by decide,by decide,fun p2' need2 qs2 H5 np2 s5 ok2 due2=>?_⟩
      have dr5:=(dr.same s4).same s5
      refine⟨_,rfl,_,rfl,.inl ⟨l,_,_,_,rfl,rfl,SqL.of dr5.at_,e38,_,_,rfl,rfl,(show (0:Int) < 2 by decide),.inl ⟨_,_,rfl,rfl,l,ds,_,rfl,dr5,by omega,by omega,fun p3' need3 qs3 H6 np3 s6 ok3 due3=>?_⟩⟩⟩
      refine⟨lenLe (n:=3) rfl (by decide),fun pl H7 n7 s7 e7=>?_⟩
      have cs:∀ q∈[p1,p2',p3'],CaseAt H7 q:=fun q hq=>by
       simp only [List.mem_cons,List.mem_nil_iff,or_false] at hq
       rcases hq with rfl | rfl | rfl
       · exact (case_one ok1 due1).same (s5.trans (s6.trans s7))
       · exact (case_half ok2 due2).same (s6.trans s7)
       · exact (case_half ok3 due3).same s7
      refine⟨pl,rfl,.inl ⟨⟨_,SqL.of e7⟩,?_⟩⟩
      refine for_list (K:=K) (a:=pl) (xs:=[p1,p2',p3'].map V.ref) (fun i σ G=>∃ y3 y4 y5:Option V,σ = [some (.ref a),some (.int z),some (.ref l),y3,y4,y5]/\L2.Same H7 G)
       ⟨x3,x4,x5,rfl,L2.Same.refl _⟩ (fun i σ G _ ⟨_,_,_,_,sG⟩=>SqL.of (sG _ _ e7)) ?_ ?_
      · rintro j v σ G hj ⟨y3,y4,y5,rfl,sG⟩
        rw [List.getElem?_map] at hj
        obtain⟨q,hq,rfl⟩:=Option.map_eq_some_iff.mp hj
        obtain⟨need,qs,due,rs,⟨hp',dp,er,hh,ed⟩,le,few,best⟩:=(cs q (List.mem_of_getElem? hq)).same sG
        refine⟨q,_,rfl,SqT.of er,rfl,_,_,rfl,_,_,rfl,rfl,?_⟩
        refine⟨_,rfl,hp',need,qs,rfl,hh,(fun rs' e'=>by rw [le] at e';cases e';exact few),(fun z=>by rw [le] at z;cases z),fun rs' us le' pm pw tp tot shs prs G1 ntp s8 ib sa=>?_⟩
        rw [le] at le';cases le'
        have et:=best us tot shs prs pm ib
        subst et
        have hh1:=hh.tu (Tu.of s8)
        have ed1:=s8 _ _ ed
        obtain⟨tp',sp,pp,as,ps,e1,e2,_,_,_,_⟩:=sa.ex
        refine⟨_,?_,fun _ _ h=>h⟩
        refine⟨_,rfl,.inr (.inl ⟨tp,_,_,_,rfl,rfl,SqT.of e1,(show atI [V.ref tp',V.ref sp,V.ref pp] 0 = some (V.ref tp') from rfl),_,rfl,.inr ⟨_,_,rep_pair e2,rep_pair ed1,pl_ints2 _ _,pl_ints2 _ _,_,rfl,?_⟩⟩)⟩
        refine iteF' (by rw [eqv_pair];rfl) ?_
        refine⟨_,rfl,.inr (.inl ⟨tp,_,_,_,rfl,rfl,SqT.of e1,(show atI [V.ref tp',V.ref sp,V.ref pp] 0 = some (V.ref tp') from rfl),.inr (.inl ⟨tp',_,_,_,rfl,rfl,SqT.of e2,(show atI [V.int tot.1,V.int tot.2] 0 = some (V.int tot.1) from rfl),_,rfl,?_⟩)⟩)⟩
        refine⟨_,rfl,iteF' rfl ?_⟩
        refine⟨_,rfl,_,rfl,hp',tp,need,qs,_,us,tot,shs,prs,rfl,hh1,le,few,pm,pw,ib,sa,fun G2 s9=>⟨true,true,rfl,rfl,_,rfl,iteF' (by decide) ?_⟩⟩
        exact⟨_,_,_,rfl,sG.trans (s8.trans s9)⟩
      · rintro σ G ⟨y3,y4,y5,rfl,sG⟩
        exact⟨_,_,_,_,_,rfl,sH.trans (s3'.trans (s4.trans (s5.trans (s6.trans (s7.trans sG)))))⟩
    · rintro σ H2 ⟨x1,x2,x3,x4,x5,rfl,sH⟩
      exact k _
end
end K30
namespace K30
section
variable {P:Program}{w:World}{K:PySem.W.Frag}{mg:Str->Option Value}{base:Heap}
theorem ok_ro1F {f:Addr}{fd:FuncData}{C B:Addr} (F:Fun K "ratio_of" "ratio_of" sRo f fd) (cG:Callee CX0 P w K mg base "greatest_divisor" 1 ["one","other"] spPart) (eR:ECls K mg "NoRatio" C B):FnOk P w K mg base CX0 2 f fd ["top","bottom"] spRo1:=by exact ok_ro1 (ok_ro F cG eR)
end
abbrev GAt (K:PySem.W.Frag) (x:Str) (v:Value):Prop:=PySem.W.nsIn K mainGlobals x = some (some v)
abbrev NAt (K:PySem.W.Frag) (x:Str):Prop:=PySem.W.nsIn K mainGlobals x = some none
def DfAt (K:PySem.W.Frag) (x:Str) (st:Stmt):Prop:=∃ f oc od kV dc pm an cd ct sl,GAt K x (.ref f)/\K.lookup f = some ⟨oc,od,.func (PySem.W.fnOf x x (defArgs st) (defBody st) (defScope st) .none kV dc pm an cd ct),sl⟩/\PySem.W.codeIn K cd x = true/\PySem.W.keepIn K (.ref f) = true
theorem DfAt.of {K:PySem.W.Frag}{x:Str}{st:Stmt}{f:Addr}{oc kV dc pm cd ct:Value}{od an:Option Addr}{sl:Array (Option Value)} (a:PySem.W.nsIn K mainGlobals x = some (some (.ref f))) (l:K.lookup f = some ⟨oc,od,.func (PySem.W.fnOf x x (defArgs st) (defBody st) (defScope st) .none kV dc pm an cd ct),sl⟩) (c:PySem.W.codeIn K cd x = true) (k:PySem.W.keepIn K (.ref f) = true):DfAt K x st:=⟨_,_,_,_,_,_,_,_,_,_,a,l,c,k⟩
theorem DfAt.cal {K:PySem.W.Frag}{h:Heap}{mg:Str->Option Value}{x:Str}{st:Stmt}{CX:CXT}{k:Nat}{ps:List Str}{sp:Sp} (d:DfAt K x st) (P:Program) (w:World) (base:Heap) (X:K.In h) (G:h.Ns mainGlobals mg) (ok:∀ {f:Addr}{fd:FuncData},Fun K x x st f fd->FnOk P w K mg base CX k f fd ps sp)
 (b:∀ (kV doc pm:Value) (an:Option Addr) (cdv ct:Value) (us:List Value),us.length = ps.length->bindArgs (PySem.W.fnOf x x (defArgs st) (defBody st) (defScope st) .none kV doc pm an cdv ct) ⟨us,[]⟩ = pure (ps.zip us)):Callee CX P w K mg base x k ps sp:=
 let ⟨_,_,_,_,_,_,_,_,_,_,a,l,c,k⟩:=d;⟨_,_,ok (fun_mk l c k),PySem.W.mg_of X G a,k,(fun_mk l c k).binds b⟩
local macro_rules | `(tactic| wtm_at "b1")=>`(tactic| exact fun _ _ _ _ _ _ us hl=>match us,hl with | [_],_=>rfl)
local macro_rules | `(tactic| wtm_at "b2")=>`(tactic| exact fun _ _ _ _ _ _ us hl=>match us,hl with | [_,_],_=>rfl)
local macro_rules | `(tactic| wtm_at "b3")=>`(tactic| exact fun _ _ _ _ _ _ us hl=>match us,hl with | [_,_,_],_=>rfl)
local macro_rules | `(tactic| wtm_at "b4")=>`(tactic| exact fun _ _ _ _ _ _ us hl=>match us,hl with | [_,_,_,_],_=>rfl)
local macro_rules | `(tactic| wtm_at "b5")=>`(tactic| exact fun _ _ _ _ _ _ us hl=>match us,hl with | [_,_,_,_,_],_=>rfl)
theorem all_mk {l:PySem.W.OpenLaw}{w:World}{K:PySem.W.Frag}{h:Heap}{mg:Str->Option Value}{fa:Addr} (X:K.In h) (G:h.Ns mainGlobals mg) (hfa:mg "law" = some (.ref fa)) {tgM1 tgM2:Tok}
 {cB cNoRatio cTooMany:Addr}
 (d1:DfAt K "_law_mixed" sMixed)
 (d2:DfAt K "_law_draws" sDraws)
 (d3:DfAt K "is_whole" sIsW)
 (d4:DfAt K "greatest_divisor" sGd)
 (d5:DfAt K "is_ratio" sIsR)
 (d6:DfAt K "total_of" sTot)
 (d7:DfAt K "rounded_up" sUp)
 (d8:DfAt K "is_full" sFull)
 (d9:DfAt K "grown_lots" sGrow)
 (d10:DfAt K "lean_lots" sLean)
 (d11:DfAt K "first_rows" sFirst)
 (d12:DfAt K "column_to_use" sCol)
 (d13:DfAt K "is_used_up_first" sAhead)
 (d14:DfAt K "row_to_leave" sLeave)
 (d15:DfAt K "pivoted" sPiv)
 (d16:DfAt K "best_rows" sBest)
 (d17:DfAt K "ratio_of" sRo)
 (d18:DfAt K "best_shares" sBs)
 (d19:DfAt K "shares_of" sSh)
 (d20:DfAt K "on_one_bottom" sOne)
 (d21:DfAt K "sum_of" sSum)
 (d22:DfAt K "cost_of" sCost)
 (d23:DfAt K "each_lot_costs_one" sEach)
 (d24:DfAt K "are_prices" sAp)
 (d25:DfAt K "has_things_for" sHas)
 (d26:DfAt K "is_rising" sRising)
 (d27:DfAt K "are_shares" sAs)
 (d28:DfAt K "shares_right" sSr)
 (d29:DfAt K "_law_whole" sWhole)
 (d30:DfAt K "_law_lowest" sLow)
 (d31:DfAt K "_law_sum" sSum2)
 (d32:DfAt K "_law_need" sNeed)
 (d33:DfAt K "_law_one" sOneL)
 (d34:DfAt K "_law_half" sHalfL)
 (d35:DfAt K "law" sLaw)
 (gB:GAt K "BrimError" (.ref cB))
 (gNoRatio:GAt K "NoRatio" (.ref cNoRatio))
 (gTooMany:GAt K "TooMany" (.ref cTooMany))
 (uB1:(PySem.W.clsIn K cB).isSome = true) (uB2:PySem.W.typeIn K (.ref cB) = some (.type "type")) (uB3:PySem.W.mroIn K cB (.type "BaseException") = some true)
 (uNoRatio:eclsIn K cNoRatio cB = true)
 (uTooMany:eclsIn K cTooMany cB = true)
 (gM1:PySem.W.nsIn K mainGlobals "MOST_IN_A_LEAN" = some (some (.int 60 tgM1)))
 (gM2:PySem.W.nsIn K mainGlobals "MOST_LEANS" = some (some (.int 300 tgM2)))
 (n_range:NAt K "range")
 (n_int:NAt K "int")
 (n_isinstance:NAt K "isinstance")
 (n_bool:NAt K "bool")
 (n_abs:NAt K "abs")
 (n_tuple:NAt K "tuple")
 (n_len:NAt K "len")
 (n_sum:NAt K "sum")
 (n_max:NAt K "max")
 (n_min:NAt K "min")
 (n_sorted:NAt K "sorted")
 (n_reversed:NAt K "reversed")
 (n_enumerate:NAt K "enumerate")
 (n_zip:NAt K "zip")
 (n_all:NAt K "all")
 (n_dict:NAt K "dict"):
 ∃ fd:FuncData,(∀ (s:Shared) (v:Value),BindsTo s fd ⟨[v],[]⟩ [("script",v)])/\∀ base:Heap,K.In base->base.Ns mainGlobals mg->FnOk l.prog w K mg base CX0 6 fa fd ["script"] (spLaw K):=by
 obtain⟨fL,oc,od,kV,dc,pm,an,cd,ct,sl,aL,lL,cL,kL⟩:=d35
 have e:=hfa.symm.trans (PySem.W.mg_of X G aL)
 cases e
 have F35:=fun_mk (st:=sLaw) lL cL kL
 have z_range:=PySem.W.mg_none_of X G n_range
 have z_int:=PySem.W.mg_none_of X G n_int
 have z_isinstance:=PySem.W.mg_none_of X G n_isinstance
 have z_bool:=PySem.W.mg_none_of X G n_bool
 have z_abs:=PySem.W.mg_none_of X G n_abs
 have z_tuple:=PySem.W.mg_none_of X G n_tuple
 have z_len:=PySem.W.mg_none_of X G n_len
 have z_sum:=PySem.W.mg_none_of X G n_sum
 have z_max:=PySem.W.mg_none_of X G n_max
 have z_min:=PySem.W.mg_none_of X G n_min
 have z_sorted:=PySem.W.mg_none_of X G n_sorted
 have z_reversed:=PySem.W.mg_none_of X G n_reversed
 have z_enumerate:=PySem.W.mg_none_of X G n_enumerate
 have z_zip:=PySem.W.mg_none_of X G n_zip
 have z_all:=PySem.W.mg_none_of X G n_all
 have z_dict:=PySem.W.mg_none_of X G n_dict
 have bB:BCls K mg "BrimError" cB:=⟨PySem.W.mg_of X G gB,uB1,uB2,uB3⟩
 have eNoRatio:ECls K mg "NoRatio" cNoRatio cB:=⟨PySem.W.mg_of X G gNoRatio,uNoRatio⟩
 have eTooMany:ECls K mg "TooMany" cTooMany cB:=⟨PySem.W.mg_of X G gTooMany,uTooMany⟩
 refine⟨PySem.W.fnOf "law" "law" (defArgs sLaw) (defBody sLaw) (defScope sLaw) .none kV dc pm an cd ct,fun s v=>.of_eq rfl,fun base _ _=>?_⟩
 have C1:=d1.cal l.prog w base X G (fun F=>ok_mixed F) (by wtm_at "b2")
 have C2:=d2.cal l.prog w base X G (fun F=>ok_draws F C1 z_range z_int) (by wtm_at "b3")
 have C3:=d3.cal l.prog w base X G (fun F=>ok_isw F z_isinstance z_int z_bool) (by wtm_at "b1")
 have C4:=d4.cal l.prog w base X G (fun F=>ok_gd F z_abs) (by wtm_at "b2")
 have C5:=d5.cal l.prog w base X G (fun F=>ok_isr F C3 C4 z_isinstance z_tuple z_len) (by wtm_at "b1")
 have C6:=d6.cal l.prog w base X G (fun F=>ok_tot F z_sum) (by wtm_at "b1")
 have C7:=d7.cal l.prog w base X G (fun F=>ok_up F) (by wtm_at "b2")
 have C8:=d8.cal l.prog w base X G (fun F=>ok_full F z_sum) (by wtm_at "b2")
 have C9:=d9.cal l.prog w base X G (fun F=>ok_grow F eTooMany C7 ⟨⟨_,PySem.W.mg_of X G gM1⟩⟩ z_sum z_max z_min z_range z_len) (by wtm_at "b4")
 have C10:=d10.cal l.prog w base X G (fun F=>ok_lean F eTooMany C6 C9 C8 ⟨⟨_,PySem.W.mg_of X G gM2⟩⟩ z_sorted z_reversed z_len) (by wtm_at "b1")
 have C11:=d11.cal l.prog w base X G (fun F=>ok_first F z_enumerate z_len) (by wtm_at "b2")
 have C12:=d12.cal l.prog w base X G (fun F=>ok_col F z_enumerate) (by wtm_at "b1")
 have C13:=d13.cal l.prog w base X G (fun F=>ok_ahead F) (by wtm_at "b5")
 have C14:=d14.cal l.prog w base X G (fun F=>ok_leave F C13 z_range z_len) (by wtm_at "b3")
 have C15:=d15.cal l.prog w base X G (fun F=>ok_piv F z_enumerate z_zip) (by wtm_at "b4")
 have C16:=d16.cal l.prog w base X G (fun F=>ok_best F C11 C12 C14 C15 z_range z_len) (by wtm_at "b2")
 have C17:=d17.cal l.prog w base X G (fun F=>ok_ro1F F C4 eNoRatio) (by wtm_at "b2")
 have C18:=d18.cal l.prog w base X G (fun F=>ok_bs F C16 C17 z_zip z_len z_sorted z_tuple) (by wtm_at "b2")
 have C19:=d19.cal l.prog w base X G (fun F=>ok_sh F C10 C18) (by wtm_at "b1")
 have C20:=d20.cal l.prog w base X G (fun F=>ok_one F C4) (by wtm_at "b1")
 have C21:=d21.cal l.prog w base X G (fun F=>ok_sum F C20 C17 z_sum) (by wtm_at "b1")
 have C22:=d22.cal l.prog w base X G (fun F=>ok_cost F C20 C17 z_sum z_zip) (by wtm_at "b2")
 have C23:=d23.cal l.prog w base X G (fun F=>ok_each F C20 z_sum z_zip z_all) (by wtm_at "b3")
 have C24:=d24.cal l.prog w base X G (fun F=>ok_ap F C23 C5 z_len z_all) (by wtm_at "b3")
 have C25:=d25.cal l.prog w base X G (fun F=>ok_has F C20 z_sum z_zip) (by wtm_at "b2")
 have C26:=d26.cal l.prog w base X G (fun F=>ok_rising F z_all z_zip) (by wtm_at "b1")
 have C27:=d27.cal l.prog w base X G (fun F=>ok_as F C5 C26 C25 z_all) (by wtm_at "b3")
 have C28:=d28.cal l.prog w base X G (fun F=>ok_sr F C10 C27 C24 C21 C22) (by wtm_at "b2")
 have C29:=d29.cal l.prog w base X G (fun F=>ok_whole F z_isinstance z_int z_bool) (by wtm_at "b1")
 have C30:=d30.cal l.prog w base X G (fun F=>ok_low F z_abs) (by wtm_at "b2")
 have C31:=d31.cal l.prog w base X G (fun F=>ok_sum2 F C30) (by wtm_at "b1")
 have C32:=d32.cal l.prog w base X G (fun F=>ok_need F) (by wtm_at "b1")
 have C33:=d33.cal l.prog w base X G (fun F=>ok_oneL F C32 C30 z_max z_min) (by wtm_at "b1")
 have C34:=d34.cal l.prog w base X G (fun F=>ok_halfL F C32 C30 C31 z_range z_sum z_tuple z_sorted z_dict z_min) (by wtm_at "b2")
 exact ok_law F35 C2 C33 C34 C29 C19 C28 z_len
theorem walk {l:PySem.W.OpenLaw}{q:Program}{loose:List Str}{XP:(Str->Option Value)->Heap->Prop}{YP:World->Heap->Prop}{d:DefRec}{K:Params->PySem.W.Frag} (hn:l.most = some 63) (hdf:d.params.defaults = [])
 (hY:∀ (w:World) (h:Heap),YP w h->(K w.params).In h)
 (F:∀ (w:World) (mg:Str->Option Value) (fa:Addr) (h:Heap),(K w.params).In h->h.Ns mainGlobals mg->mg d.name = some (.ref fa)->
  ∃ fd:FuncData,(∀ (s:Shared) (u:Value),BindsTo s fd ⟨[u],[]⟩ [("script",u)])/\∀ base:Heap,(K w.params).In base->base.Ns mainGlobals mg->FnOk l.prog w (K w.params) mg base CX0 6 fa fd ["script"] (spLaw (K w.params))):
 PySem.W.WalkO q loose XP YP l.row.toRowW d [] (fun f vs=>PySem.call f vs):=
 L2.walk_of (n:=63) (k:=6) (x:="script") (CX:=fun _=>CX0) (sp:=fun w=>spLaw (K w.params)) hn (by decide) hdf ⟨rfl,by decide,by decide,rfl⟩ hY F (fun _ _ a ns hl _ hS=>⟨a,ns,rfl,hS,hl,fun _=>rfl⟩) fun _ _ _ _ _ z=>z
end K30
local macro_rules | `(tactic| wtm_at "keq")=>`(tactic| (show _ = _;k_is))
local macro_rules | `(tactic| wtm_at "dat")=>`(tactic| (refine' K30.DfAt.of ?a ?l ?c ?k;(case a=>k_is);(case l=>k_is);(case c=>k_is);(case k=>k_is)))
theorem PySem.W.Fast.tw12967313163156727108:True:=trivial
theorem PySem.W.Fast.tw6522551785581589534:True:=trivial
theorem PySem.W.Fast.tw4871937115958698530:True:=trivial
theorem PySem.W.Fast.tw16301591145613182531:True:=trivial
theorem PySem.W.Fast.tw4997450294417308240:True:=trivial
theorem PySem.W.Fast.tw2532717209554540418:True:=trivial
theorem PySem.W.Fast.tw7898363323954235281:True:=trivial
theorem PySem.W.Fast.tw13006023399472960871:True:=trivial
theorem PySem.W.Fast.tw7482391972064016588:True:=trivial
theorem PySem.W.Fast.tw1343345262892037123:True:=trivial
theorem PySem.W.Fast.tw4153837532688130270:True:=trivial
theorem PySem.W.Fast.tw7261181035260020142:True:=trivial
theorem PySem.W.Fast.tw13303288521649547159:True:=trivial
theorem PySem.W.Fast.tw17403733894170326498:True:=trivial
theorem PySem.W.Fast.tw5180260660770828516:True:=trivial
theorem PySem.W.Fast.tw16565822180435503767:True:=trivial
theorem PySem.W.Fast.tw7099180477176747561:True:=trivial
theorem PySem.W.Fast.tw18405575859365184169:True:=trivial
theorem PySem.W.Fast.tw18406496224192215701:True:=trivial
theorem PySem.W.Fast.tw16872680021642424189:True:=trivial
theorem PySem.W.Fast.tw17994999397749268812:True:=trivial
theorem PySem.W.Fast.tw10292826206560604609:True:=trivial
theorem PySem.W.Fast.tw5687571705571717960:True:=trivial
theorem PySem.W.Fast.tw7618664741968022342:True:=trivial
theorem PySem.W.Fast.tw1737194229076618045:True:=trivial
theorem PySem.W.Fast.tw4086763590137360551:True:=trivial
theorem PySem.W.Fast.tw9957260360825449954:True:=trivial
theorem PySem.W.Fast.tw640065105065853842:True:=trivial
theorem PySem.W.Fast.tw6656922700433198815:True:=trivial
theorem PySem.W.Fast.tw516758326856367149:True:=trivial
theorem PySem.W.Fast.tw7684877437605768419:True:=trivial
theorem PySem.W.Fast.tw16093008375677108344:True:=trivial
theorem PySem.W.Fast.tw15274166032045791041:True:=trivial
theorem PySem.W.Fast.tw5335736810493842585:True:=trivial
theorem PySem.W.Fast.tw6681889496249711339:True:=trivial
theorem PySem.W.Fast.tw17443428223769482351:True:=trivial
theorem PySem.W.Fast.tw17414392661802146720:True:=trivial
theorem PySem.W.Fast.tw6252622477576636909:True:=trivial
theorem PySem.W.Fast.tw9189354884478122225:True:=trivial
theorem PySem.W.Fast.tw7329057225756064834:True:=trivial
theorem PySem.W.Fast.tw6886503961354711821:True:=trivial
theorem PySem.W.Fast.tw8936276882159851769:True:=trivial
theorem PySem.W.Fast.tw13475007536071913600:True:=trivial
theorem PySem.W.Fast.tw5991957497310459434:True:=trivial
theorem PySem.W.Fast.tw13349997610178363814:True:=trivial
theorem PySem.W.Fast.tw5724809211263925792:True:=trivial
theorem PySem.W.Fast.tw17186131140527029695:True:=trivial
theorem PySem.W.Fast.tw12982161245111410509:True:=trivial
theorem PySem.W.Fast.tw14348129567792615405:True:=trivial
theorem PySem.W.Fast.tw6488695329577823586:True:=trivial
theorem PySem.W.Fast.tw2951547803376171393:True:=trivial
theorem PySem.W.Fast.tw9328697225336264476:True:=trivial
theorem PySem.W.Fast.tw269041100855812593:True:=trivial
theorem PySem.W.Fast.tw17882606391580788185:True:=trivial
theorem PySem.W.Fast.tw18110738576936517562:True:=trivial
theorem PySem.W.Fast.tw3613570260493828125:True:=trivial
theorem PySem.W.Fast.tw628286327118304828:True:=trivial
theorem PySem.W.Fast.tw11795699176549347584:True:=trivial
theorem PySem.W.Fast.tw12645216119311744745:True:=trivial
theorem PySem.W.Fast.tw692721581389272580:True:=trivial
theorem PySem.W.Fast.tw13921730903781881565:True:=trivial
theorem PySem.W.Fast.tw13577587128108365110:True:=trivial
theorem PySem.W.Fast.tw8350346793651511460:True:=trivial
theorem PySem.W.Fast.tw2659508579513215970:True:=trivial
theorem PySem.W.Fast.tw722763106686842207:True:=trivial
theorem PySem.W.Fast.tw12645187888169616438:True:=trivial
theorem PySem.W.Fast.tw15121349891141807177:True:=trivial
theorem PySem.W.Fast.tw11042569892882743607:True:=trivial
theorem PySem.W.Fast.tw15905125250916697459:True:=trivial
theorem PySem.W.Fast.tw154772020493786979:True:=trivial
theorem PySem.W.Fast.tw678076271402210776:True:=trivial
theorem PySem.W.Fast.tw9336124161111017913:True:=trivial
theorem PySem.W.Fast.tw6947338531645424922:True:=trivial
theorem PySem.W.Fast.tw14669662577809850210:True:=trivial
theorem PySem.W.Fast.tw6804067874358007848:True:=trivial
theorem PySem.W.Fast.tw6250852326692497377:True:=trivial
theorem PySem.W.Fast.tw7428752696090049683:True:=trivial
theorem PySem.W.Fast.tw18437658398072551573:True:=trivial
theorem PySem.W.Fast.tw5364444065648935730:True:=trivial
theorem PySem.W.Fast.tw147560177013165948:True:=trivial
theorem PySem.W.Fast.tw14583485292653231545:True:=trivial
theorem PySem.W.Fast.tw14938854897260658665:True:=trivial
theorem PySem.W.Fast.tw13130141564626836380:True:=trivial
theorem PySem.W.Fast.tw6507192416181460076:True:=trivial
theorem PySem.W.Fast.tw7395678625168632784:True:=trivial
theorem PySem.W.Fast.tw4895054503726307173:True:=trivial
theorem PySem.W.Fast.tw1080159240075744038:True:=trivial
theorem PySem.W.Fast.tw3244811834619375845:True:=trivial
theorem PySem.W.Fast.tw9175217030157490124:True:=trivial
theorem PySem.W.Fast.tw11881939440859795425:True:=trivial
theorem PySem.W.Fast.tw6605208970725341563:True:=trivial
theorem PySem.W.Fast.tw14935529649322879561:True:=trivial
theorem PySem.W.Fast.tw10775737536765338129:True:=trivial
theorem PySem.W.Fast.tw4250082084759845459:True:=trivial
theorem PySem.W.Fast.tw8981944860496995611:True:=trivial
theorem PySem.W.Fast.tw7453353688895835160:True:=trivial
theorem PySem.W.Fast.tw6276488717255691027:True:=trivial
theorem PySem.W.Fast.tw14058570164579495866:True:=trivial
theorem PySem.W.Fast.tw237063426230266308:True:=trivial
theorem PySem.W.Fast.tw3735603371382133264:True:=trivial
theorem PySem.W.Fast.tw15513107629771519512:True:=trivial
theorem PySem.W.Fast.tw4875184030189274840:True:=trivial
theorem PySem.W.Fast.tw6939444839262460446:True:=trivial
theorem PySem.W.Fast.tw4762021436416538967:True:=trivial
theorem PySem.W.Fast.tw2537677214300370263:True:=trivial
theorem PySem.W.Fast.tw13270119492607014910:True:=trivial
theorem PySem.W.Fast.tw15994256226798971924:True:=trivial
theorem PySem.W.Fast.tw5119678218490606695:True:=trivial
theorem PySem.W.Fast.tw15800824502421132053:True:=trivial
theorem PySem.W.Fast.tw882530582452066922:True:=trivial
theorem PySem.W.Fast.tw118678540996644623:True:=trivial
theorem PySem.W.Fast.tw9386555577117062670:True:=trivial
theorem PySem.W.Fast.tw13630177629626430963:True:=trivial
theorem PySem.W.Fast.tw11105852492441368487:True:=trivial
theorem PySem.W.Fast.tw258947597764796423:True:=trivial
theorem PySem.W.Fast.tw5656976407930464358:True:=trivial
theorem PySem.W.Fast.tw10529519371299211845:True:=trivial
theorem PySem.W.Fast.tw3808247356153177414:True:=trivial
theorem PySem.W.Fast.tw793720042217387641:True:=trivial
theorem PySem.W.Fast.tw8986757402247236100:True:=trivial
theorem PySem.W.Fast.tw366342147407752224:True:=trivial
theorem PySem.W.Fast.tw10996908577856976975:True:=trivial
theorem PySem.W.Fast.tw13959366742918102616:True:=trivial
theorem PySem.W.Fast.tw10546893056372783171:True:=trivial
theorem PySem.W.Fast.tw1595228841123039490:True:=trivial
theorem PySem.W.Fast.tw943137767551778246:True:=trivial
theorem PySem.W.Fast.tw14981148458936150741:True:=trivial
theorem PySem.W.Fast.tw1941377884380846833:True:=trivial
theorem PySem.W.Fast.tw9253033522748818407:True:=trivial
theorem PySem.W.Fast.tw11860677622013563578:True:=trivial
theorem PySem.W.Fast.tw16545979605370031255:True:=trivial
theorem PySem.W.Fast.tw924001986291791525:True:=trivial
theorem PySem.W.Fast.tw17775851403604738877:True:=trivial
theorem PySem.W.Fast.tw14786494058761224135:True:=trivial
theorem PySem.W.Fast.tw7164163520347039527:True:=trivial
theorem PySem.W.Fast.tw5695044920257144314:True:=trivial
theorem PySem.W.Fast.tw9802651143589521728:True:=trivial
theorem PySem.W.Fast.tw5117962579468633601:True:=trivial
theorem PySem.W.Fast.tw12948322061322415582:True:=trivial
theorem PySem.W.Fast.tw8526535146375567458:True:=trivial
theorem PySem.W.Fast.tw6430820101760896810:True:=trivial
theorem PySem.W.Fast.tw7622575093013994289:True:=trivial
theorem PySem.W.Fast.tw18339636116962258236:True:=trivial
theorem PySem.W.Fast.tw2713242751084281356:True:=trivial
theorem PySem.W.Fast.tw11425816992717981102:True:=trivial
theorem PySem.W.Fast.tw17016319876238999533:True:=trivial
theorem PySem.W.Fast.tw7275952471540190747:True:=trivial
theorem PySem.W.Fast.tw15477240799610847518:True:=trivial
theorem PySem.W.Fast.tw4357779319239310584:True:=trivial
theorem PySem.W.Fast.tw5364510020773126352:True:=trivial
theorem PySem.W.Fast.tw16128162832250359799:True:=trivial
theorem PySem.W.Fast.tw13801632812196246252:True:=trivial
theorem PySem.W.Fast.tw13509241041749434712:True:=trivial
theorem PySem.W.Fast.tw9723802377757713126:True:=trivial
theorem PySem.W.Fast.tw14826481083258282249:True:=trivial
theorem PySem.W.Fast.tw17741792275847164688:True:=trivial
theorem PySem.W.Fast.tw2883335987550334777:True:=trivial
theorem PySem.W.Fast.tw9681659108002720028:True:=trivial
theorem PySem.W.Fast.tw16594909342220393792:True:=trivial
theorem PySem.W.Fast.tw3928250645553727157:True:=trivial
theorem PySem.W.Fast.tw18342148116426468363:True:=trivial
theorem PySem.W.Fast.tw12873115682590200644:True:=trivial
theorem PySem.W.Fast.tw14095898771097990908:True:=trivial
theorem PySem.W.Fast.tw6895072227198257237:True:=trivial
theorem PySem.W.Fast.tw5157296014875173587:True:=trivial
theorem PySem.W.Fast.tw11445327851335179687:True:=trivial
theorem PySem.W.Fast.tw17393849505371948813:True:=trivial
theorem PySem.W.Fast.tw6789523823078166946:True:=trivial
theorem PySem.W.Fast.tw3575510729405930177:True:=trivial
theorem PySem.W.Fast.tw4558208263682341294:True:=trivial
theorem PySem.W.Fast.tw8761658119838016071:True:=trivial
theorem PySem.W.Fast.tw30034398609139917:True:=trivial
theorem PySem.W.Fast.tw12274865696552278669:True:=trivial
theorem PySem.W.Fast.tw2732621695619783119:True:=trivial
theorem PySem.W.Fast.tw12888246353463056174:True:=trivial
theorem PySem.W.Fast.tw13745199374479715401:True:=trivial
theorem PySem.W.Fast.tw3211516878480304595:True:=trivial
theorem PySem.W.Fast.tw2356338719290469095:True:=trivial
theorem PySem.W.Fast.tw6904279082933364848:True:=trivial
theorem PySem.W.Fast.tw1652401466667089945:True:=trivial
theorem PySem.W.Fast.tw5687508075302536786:True:=trivial
theorem PySem.W.Fast.tw4721476218631085004:True:=trivial
theorem PySem.W.Fast.tw16544120270834257761:True:=trivial
theorem PySem.W.Fast.tw11106217019928844164:True:=trivial
theorem PySem.W.Fast.tw15072756876030609657:True:=trivial
theorem PySem.W.Fast.tw17537613470461265643:True:=trivial
theorem PySem.W.Fast.tw15302716339116424941:True:=trivial
theorem PySem.W.Fast.tw2010294621591112759:True:=trivial
theorem PySem.W.Fast.tw13330945560118765001:True:=trivial
theorem PySem.W.Fast.tw14310872686285390794:True:=trivial
theorem PySem.W.Fast.tw5369946907826103420:True:=trivial
theorem PySem.W.Fast.tw15140649216502215885:True:=trivial
theorem PySem.W.Fast.tw10254051614861640571:True:=trivial
theorem PySem.W.Fast.tw9572610677531698972:True:=trivial
theorem PySem.W.Fast.tw2860645027812875199:True:=trivial
theorem PySem.W.Fast.tw10843954288174005182:True:=trivial
theorem PySem.W.Fast.tw15787542644353228308:True:=trivial
theorem PySem.W.Fast.tw9047234212196779963:True:=trivial
theorem PySem.W.Fast.tw5969113875916632257:True:=trivial
theorem PySem.W.Fast.tw5932057882169109288:True:=trivial
theorem PySem.W.Fast.tw4951953744971689953:True:=trivial
theorem PySem.W.Fast.tw1233559667869735844:True:=trivial
theorem PySem.W.Fast.tw14914830295376574119:True:=trivial
theorem PySem.W.Fast.tw12567751916671197581:True:=trivial
theorem PySem.W.Fast.tw10213346673596863920:True:=trivial
theorem PySem.W.Fast.tw5363096086800956620:True:=trivial
theorem PySem.W.Fast.tw12268508499500248154:True:=trivial
theorem PySem.W.Fast.tw16039618677940072464:True:=trivial
theorem PySem.W.Fast.tw5377575540813055320:True:=trivial
theorem PySem.W.Fast.tw4614020006490723035:True:=trivial
theorem PySem.W.Fast.tw6549399365614211766:True:=trivial
theorem PySem.W.Fast.tw12495799592760389956:True:=trivial
theorem PySem.W.Fast.tw9919147984814466772:True:=trivial
theorem PySem.W.Fast.tw14459876289740274483:True:=trivial
theorem PySem.W.Fast.tw9982934332997834575:True:=trivial
theorem PySem.W.Fast.tw7427668899132207940:True:=trivial
theorem PySem.W.Fast.tw11401104351223305850:True:=trivial
theorem PySem.W.Fast.tw9652796065349276444:True:=trivial
theorem PySem.W.Fast.tw6645644816065614835:True:=trivial
theorem PySem.W.Fast.tw10745259666582386706:True:=trivial
theorem PySem.W.Fast.tw9290508027917606789:True:=trivial
theorem PySem.W.Fast.tw17419377333126683230:True:=trivial
theorem PySem.W.Fast.tw12620849935734581145:True:=trivial
theorem PySem.W.Fast.tw11686136226915391873:True:=trivial
theorem PySem.W.Fast.tw2556686098751629691:True:=trivial
theorem PySem.W.Fast.tw787202142755288752:True:=trivial
theorem PySem.W.Fast.tw8168364452710794298:True:=trivial
theorem PySem.W.Fast.tw11539830931397905304:True:=trivial
theorem PySem.W.Fast.tw5675744542821245793:True:=trivial
theorem PySem.W.Fast.tw11988902121582371556:True:=trivial
theorem PySem.W.Fast.tw646280637295413718:True:=trivial
theorem PySem.W.Fast.tw4312436765810434288:True:=trivial
theorem PySem.W.Fast.tw5650362032132894052:True:=trivial
theorem PySem.W.Fast.tw8403125955277193011:True:=trivial
theorem PySem.W.Fast.tw11935109137112272928:True:=trivial
theorem PySem.W.Fast.tw16098273478161703111:True:=trivial
theorem PySem.W.Fast.tw279159644524652286:True:=trivial
theorem PySem.W.Fast.tw17761463169333915458:True:=trivial
theorem PySem.W.Fast.tw374125755457192961:True:=trivial
theorem PySem.W.Fast.tw11029277598723703696:True:=trivial
theorem PySem.W.Fast.tw3541784099507534108:True:=trivial
theorem PySem.W.Fast.tw17219241426028805597:True:=trivial
theorem PySem.W.Fast.tw3925218701955659200:True:=trivial
theorem PySem.W.Fast.tw9002744993067272313:True:=trivial
theorem PySem.W.Fast.tw14039582648633012238:True:=trivial
theorem PySem.W.Fast.tw6536051000418586880:True:=trivial
theorem PySem.W.Fast.tw1155079602930728110:True:=trivial
theorem PySem.W.Fast.tw4005205553902221058:True:=trivial
theorem PySem.W.Fast.tw11787274646651379389:True:=trivial
theorem PySem.W.Fast.tw14293224673386353881:True:=trivial
theorem PySem.W.Fast.tw1607509620834277672:True:=trivial
theorem PySem.W.Fast.tw3044362408508899445:True:=trivial
theorem PySem.W.Fast.tw13896235233762936609:True:=trivial
theorem PySem.W.Fast.tw6028428604272310934:True:=trivial
theorem PySem.W.Fast.tw6840965616963754744:True:=trivial
theorem PySem.W.Fast.tw13347248622050253946:True:=trivial
theorem PySem.W.Fast.tw10843523177330957674:True:=trivial
theorem PySem.W.Fast.tw14309751582620951043:True:=trivial
theorem PySem.W.Fast.tw18027394002602838975:True:=trivial
theorem PySem.W.Fast.tw5594579158676305507:True:=trivial
theorem PySem.W.Fast.tw6635879356622654565:True:=trivial
theorem PySem.W.Fast.tw14446090055825632474:True:=trivial
theorem PySem.W.Fast.tw2523859415989168787:True:=trivial
theorem PySem.W.Fast.tw15375297662607568434:True:=trivial
theorem PySem.W.Fast.tw14540649070856084234:True:=trivial
theorem PySem.W.Fast.tw18217167511784788870:True:=trivial
theorem PySem.W.Fast.tw5676511293256450375:True:=trivial
theorem PySem.W.Fast.tw16050162061015518184:True:=trivial
theorem PySem.W.Fast.tw13079222013934165726:True:=trivial
theorem PySem.W.Fast.tw10748700873090361481:True:=trivial
theorem PySem.W.Fast.tw18430428905303731139:True:=trivial
theorem PySem.W.Fast.tw18349945128170921590:True:=trivial
theorem PySem.W.Fast.tw5289181381550257298:True:=trivial
theorem PySem.W.Fast.tw6894175140834203116:True:=trivial
theorem PySem.W.Fast.tw10369374686451595863:True:=trivial
theorem PySem.W.Fast.tw9648802603531886142:True:=trivial
theorem PySem.W.Fast.tw5618385212816949543:True:=trivial
theorem PySem.W.Fast.tw9900136486201993896:True:=trivial
theorem PySem.W.Fast.tw8412692505082194515:True:=trivial
theorem PySem.W.Fast.tw1090868784028982401:True:=trivial
theorem PySem.W.Fast.tw16143485977873094025:True:=trivial
theorem PySem.W.Fast.tw12183720593958948397:True:=trivial
theorem PySem.W.Fast.tw3590993949110803102:True:=trivial
theorem PySem.W.Fast.tw11106210502056151736:True:=trivial
theorem PySem.W.Fast.tw952999085735419651:True:=trivial
theorem PySem.W.Fast.tw3846055778070474301:True:=trivial
theorem PySem.W.Fast.tw213713507462801073:True:=trivial
theorem PySem.W.Fast.tw3391454628667966580:True:=trivial
theorem PySem.W.Fast.tw11284887670971418844:True:=trivial
theorem PySem.W.Fast.tw1782066285050086472:True:=trivial
theorem PySem.W.Fast.tw17679463349055307489:True:=trivial
theorem PySem.W.Fast.tw9098020547904761559:True:=trivial
theorem PySem.W.Fast.tw5951624066456199536:True:=trivial
theorem PySem.W.Fast.tw10560167775582954768:True:=trivial
theorem PySem.W.Fast.tw10951130786960030614:True:=trivial
theorem PySem.W.Fast.tw16408612127475183984:True:=trivial
theorem PySem.W.Fast.tw12156514441673959796:True:=trivial
theorem PySem.W.Fast.tw14311306376799312352:True:=trivial
theorem PySem.W.Fast.tw6486276902227429285:True:=trivial
theorem PySem.W.Fast.tw2384467156420414382:True:=trivial
open PySem PySem.W PyProof.Rows
set_option maxRecDepth 100000 in
set_option maxHeartbeats 0 in
theorem PySem.Challenge.cw_brimyard_k30_whole_sums_known_at_once_holds : PySem.Challenge.rw_brimyard_k30_whole_sums_known_at_once.Holds := by
 w_on;refine holds_law (by decide +kernel) fun said=>?_
 k_head;(case hw=>w_witness2)
 k_fill
 refine K30.walk (l:=PySem.Challenge.rw_brimyard_k30_whole_sums_known_at_once) rfl rfl (fun w h Y=>PySem.W.kIn_of Y) ?F
 case F=>
  intro w mg fa h KX G hmg
  refine' K30.all_mk KX G hmg ?d1 ?d2 ?d3 ?d4 ?d5 ?d6 ?d7 ?d8 ?d9 ?d10 ?d11 ?d12 ?d13 ?d14 ?d15 ?d16 ?d17 ?d18 ?d19 ?d20 ?d21 ?d22 ?d23 ?d24 ?d25 ?d26 ?d27 ?d28 ?d29 ?d30 ?d31 ?d32 ?d33 ?d34 ?d35 ?gB ?gNoRatio ?gTooMany ?uB1 ?uB2 ?uB3 ?uNoRatio ?uTooMany ?gM1 ?gM2 ?n_range ?n_int ?n_isinstance ?n_bool ?n_abs ?n_tuple ?n_len ?n_sum ?n_max ?n_min ?n_sorted ?n_reversed ?n_enumerate ?n_zip ?n_all ?n_dict
  (case d1 | d2 | d3 | d4 | d5 | d6 | d7 | d8 | d9 | d10 | d11 | d12 | d13 | d14 | d15 | d16 | d17 | d18 | d19 | d20 | d21 | d22 | d23 | d24 | d25 | d26 | d27 | d28 | d29 | d30 | d31 | d32 | d33 | d34 | d35=>wtm_at "dat")
  (case gB | gNoRatio | gTooMany=>wtm_at "keq")
  (case uB1=>kernel_rfl)
  (case uB2 | uB3=>k_is)
  (case uNoRatio | uTooMany=>kernel_rfl)
  (case gM1 | gM2=>k_is)
  (case n_range | n_int | n_isinstance | n_bool | n_abs | n_tuple | n_len | n_sum | n_max | n_min | n_sorted | n_reversed | n_enumerate | n_zip | n_all | n_dict=>wtm_at "keq")
