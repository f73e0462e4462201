import PyProof.Rows.All
import Wide.All
import OpenK.AllK
import Wide.FinOn
import PyProof.EqAt
import PyProof.EqKinds
import PyProof.TupleCall
import Open.SpecLaws
import KE.OsHead
import KE.OsGo
import KE.BitLaws
import VbwsanSpec
import PyVbwsan
import PySem.Challenge.RW_groundseen_s01_answers
set_option Elab.async false
set_option linter.all false
set_option maxRecDepth 100000
theorem Gs.said:PySem.Challenge.rw_groundseen_s01_answers.wellSaid=true:=by decide +kernel
namespace L2
open PySem PySem.Spec PyProof.Rows
abbrev Key:=Sum Int Str
def keyIs:Key->Value->Bool
  |.inl k,v=>Value.isInt k v
  |.inr x,v=>Value.isStrOf x v
def keyH(w:World):Key->Int
  |.inl k=>hashInt k
  |.inr x=>hashStr w x
theorem ZC:∀{k:Key} {v:Value},keyIs k v=true->(∃i t,k=Sum.inl i/\v=Value.int i t)\/(∃x t,k=Sum.inr x/\v=Value.str x t)
  | .inl i, v, h => by
    obtain⟨t,e⟩:=Value.isInt_shape (k:=i) (v:=v) h
    exact .inl ⟨i,t,rfl,e⟩
  | .inr x, v, h => by
    obtain⟨t,e⟩:=Value.isStrOf_shape (x:=x) (v:=v) h
    exact .inr ⟨x,t,rfl,e⟩
theorem keyIs_int(i:Int)(t:Tok):keyIs (.inl i) (.int i t)=true:=by simp[keyIs,Value.isInt]
theorem keyIs_str(x:Str)(t:Tok):keyIs (.inr x) (.str x t)=true:=by simp[keyIs,Value.isStrOf]
theorem key_ll(a b:Int):decide ((Sum.inl a:Key)=Sum.inl b)=(a==b):=by
  by_cases e:a=b
  . subst e;simp
  . have h:¬ (Sum.inl a:Key)=Sum.inl b:=fun q=>e (Sum.inl.inj q)
    rw[decide_eq_false h]
    exact(beq_eq_false_iff_ne.mpr e).symm
theorem key_rr(a b:Str):decide ((Sum.inr a:Key)=Sum.inr b)=decide (a=b):=by
  by_cases e:a=b
  . subst e;simp
  . have h:¬ (Sum.inr a:Key)=Sum.inr b:=fun q=>e (Sum.inr.inj q)
    rw[decide_eq_false h,decide_eq_false e]
theorem key_lr(a:Int)(b:Str):decide ((Sum.inl a:Key)=Sum.inr b)=false:=decide_eq_false (fun q=>nomatch q)
theorem key_rl(a:Str)(b:Int):decide ((Sum.inr a:Key)=Sum.inl b)=false:=decide_eq_false (fun q=>nomatch q)
def mixKind (prog : Program) (w : World) : PySem.KeyKind prog w Key where
  is:=keyIs
  hash:=keyH w
  inj := fun v a b ha hb => by
    rcases ZC ha with⟨i,t,rfl,rfl⟩|⟨x,t,rfl,rfl⟩
    . rcases ZC hb with⟨j,u,rfl,e⟩|⟨y,u,rfl,e⟩
      . injection e with e1 _;rw[e1]
      . exact nomatch e
    . rcases ZC hb with⟨j,u,rfl,e⟩|⟨y,u,rfl,e⟩
      . exact nomatch e
      . injection e with e1 _;rw[e1]
  byValue:=fun k v h=>by
    rcases ZC h with⟨i,t,rfl,rfl⟩|⟨x,t,rfl,rfl⟩<;>rfl
  pyHash:=fun hv h=>by
    rcases ZC hv with⟨i,t,rfl,rfl⟩|⟨x,t,rfl,rfl⟩
    . exact wpAny_pyHash_int h
    . exact wpAny_pyHash_str h
  eqBool:=fun hu hv h=>by
    rcases ZC hu with⟨i,t,rfl,rfl⟩|⟨x,t,rfl,rfl⟩
    . rcases ZC hv with⟨j,u,rfl,rfl⟩|⟨y,u,rfl,rfl⟩
      . rw[key_ll] at h;exact wpAny_eqBool_int h
      . rw[key_lr] at h;exact SeqAt.EqAt.int_str i t y u _ _ _ _ h
    . rcases ZC hv with⟨j,u,rfl,rfl⟩|⟨y,u,rfl,rfl⟩
      . rw[key_rl] at h;exact SeqAt.EqAt.str_int x t j u _ _ _ _ h
      . rw[key_rr] at h;exact wpAny_eqBool_str h
  «strs» := fun k x t v h=>by
    rcases ZC h with⟨i,u,rfl,e⟩|⟨y,u,rfl,e⟩
    . exact nomatch e
    . injection e with e1 _
      subst e1
      cases v<;>rfl
theorem mixKind_int(prog:Program)(w:World)(i:Int)(t:Tok):(mixKind prog w).is (.inl i) (.int i t)=true:=keyIs_int i t
theorem mixKind_str(prog:Program)(w:World)(x:Str)(t:Tok):(mixKind prog w).is (.inr x) (.str x t)=true:=keyIs_str x t
end L2
namespace L2
open PySem PySem.Spec PyProof.Rows
inductive V where
  |non|bl (b:Bool)|int (i:Int)|str (x:Str)|byt (b:Array UInt8)|flt (b:UInt64)|ref (a:Addr)|ty (n:String)
  deriving DecidableEq
def RelV:V->Value->Prop
  |.non,u=>u=Value.none
  |.bl b,u=>u=Value.bool b
  |.int i,u=>∃t,u=Value.int i t
  |.str x,u=>∃t,u=Value.str x t
  |.byt b,u=>∃t,u=Value.bytes b t
  |.flt b,u=>∃t,u=Value.float b t
  |.ref a,u=>u=Value.ref a
  |.ty n,u=>u=Value.type n
abbrev Vals:List V->List Value->Prop:=Paired RelV
theorem Vals.length{xs:List V}{us:List Value}(r:Vals xs us):xs.length=us.length:=Paired.length r
theorem Vals.get:∀{xs:List V} {us:List Value} {i:Nat} {x:V},Vals xs us->xs[i]?=some x->∃u,us[i]?=some u/\RelV x u
  |_,_,_,_,.nil,e=>by simp at e
  |_,_,0,_,.cons r _,e=>by simp at e;subst e;exact⟨_,rfl,r⟩
  | _, _, i + 1, x, .cons _ t, e => by
    obtain⟨u,h1,h2⟩:=Vals.get (i:=i) (x:=x) t (by simpa using e)
    exact⟨u,by simpa using h1,h2⟩
theorem Vals.append:∀{xs ys:List V} {us ws:List Value},Vals xs us->Vals ys ws->Vals (xs++ys) (us++ws)
  |_,_,_,_,.nil,s=>s
  |_,_,_,_,.cons r t,s=>.cons r (Vals.append t s)
theorem Vals.take:∀{xs:List V} {us:List Value} (n:Nat),Vals xs us->Vals (xs.take n) (us.take n)
  |_,_,0,_=>.nil
  |_,_,_+1,.nil=>.nil
  |_,_,n+1,.cons r t=>.cons r (Vals.take n t)
theorem Vals.drop:∀{xs:List V} {us:List Value} (n:Nat),Vals xs us->Vals (xs.drop n) (us.drop n)
  |_,_,0,r=>r
  |_,_,_+1,.nil=>.nil
  |_,_,n+1,.cons _ t=>Vals.drop n t
def RelO:Option V->Option Value->Prop
  |some v,some u=>RelV v u
  |none,none=>True
  |_,_=>False
def KV{κ:Type}:List (κ×V)->List (κ×Value)->Prop:=Paired fun(p:κ×V) (q:κ×Value)=>p.1=q.1/\RelV p.2 q.2
def kV:Key->V
  |.inl i=>.int i
  |.inr x=>.str x
inductive HO where
  |lst (xs:List V)
  |tup (xs:List V)
  |dK (kvs:List (Key×V))|dT (kvs:List (List Key×V))
  |set (S:Int->Bool) (n:Nat)
  |ins (C dx:Addr) (fs:List (Str×V))
  |own (x:Addr)
  |xd (fs:List (Str×V))
  |met (f x:Addr)
  |rng (lo hi:Int)
  |frz (o:Obj) (u:HO)
  |tbl (ps:Array Value)
  |ext (φ:Heap->Prop)
abbrev Hp:=Addr->Option HO
def upd(H:Hp)(a:Addr)(o:HO):Hp:=fun b=>if b=a then some o else H b
theorem zJ{H:Hp}{a:Addr}{o:HO}:upd H a o a=some o:=by unfold upd;rw[if_pos rfl]
theorem zI{H:Hp}{a b:Addr}{o:HO}(h:b≠a):upd H a o b=H b:=by unfold upd;rw[if_neg h]
theorem upd_upd{H:Hp}{a:Addr}{o u:HO}:upd (upd H a o) a u=upd H a u:=by
  funext b;unfold upd;split<;>rfl
theorem za{H:Hp}{a b:Addr}{o u:HO}(h:H a=some o)(h':H b=some u)(d:o≠u):a≠b:=by
  intro e;subst e;rw[h] at h';exact d (Option.some.inj h')
theorem zL{H:Hp}{a b:Addr}{o:HO}(h:H a=some o)(h':H b=none):a≠b:=by
  intro e;subst e;rw[h] at h';cases h'
section
variable(P:Program)(w:World)
def ObjOk(H:Hp)(h:Heap)(a:Addr):HO->Prop
  |.lst xs=>xs.length<=sizeLine/\∃(its:List Value) (n:Nat),Vals xs its/\h.get? a=some { cls:=.type "list",data:=.seq its.toArray n }
  |.tup xs=>xs.length<=sizeLine/\∃its:List Value,Vals xs its/\IsTup h a its.toArray
  |.dK kvs=>kvs.length<=sizeLine/\(a==sysModules)=false/\∃vs,KV kvs vs/\h.DictOf (mixKind P w) a vs
  |.dT kvs=>kvs.length<=sizeLine/\(a==sysModules)=false/\∃xs:List (List Key×Addr×Value),
      Paired (fun(p:List Key×V) (q:List Key×Addr×Value)=>p.1=q.1/\H q.2.1=some (.tup (p.1.map kV))/\RelV p.2 q.2.2) kvs xs/\
      ∃o es ep,h.get? a=some o/\o.ExactDict/\o.data=.dict es ep/\es.toList=xs.map (entryOfKey (tupleKind (mixKind P w)))/\(xs.map (·.1)).Nodup
  |.set S n=>h.SetOf (intKind P w) a S n
  |.ins C dx fs=>H dx=some (.own a)/\fs.length<=1000/\dx≠a/\h.get? a=some (PySem.W.instObj C dx)/\
      ∃mA,h.Ns1 dx mA/\(∀f,RelO (fs.lookup f) (mA f))/\PySem.Within mA (fs.map (·.1))
  |.own _=>∃o,h.get? a=some o
  |.xd fs=>∃mA,h.Ns1 a mA/\∀f,RelO (fs.lookup f) (mA f)
  |.rng lo hi=>∃t u v,h.get? a=some { cls:=.type "range",data:=.fields #[.int lo t,.int hi u,.int 1 v] }
  |.frz o u=>h.get? a=some o/\ObjOk H h a u
  |.tbl ps=>h.get? a=some { cls:=.none,data:=.fields ps }
  |.met f x=>h.get? a=some (PySem.W.methodObj (.ref f) (.ref x))
  |.ext φ=>φ h/\(∃o,h.get? a=some o)/\∀h1 h2:Heap,φ h1->(∀o,h1.get? a=some o->h2.get? a=some o)->φ h2
def HOk(H:Hp)(h:Heap):Prop:=∀a o,H a=some o->ObjOk P w H h a o
end
section
variable{P:Program}{w:World}{H H':Hp}{h h':Heap}{a:Addr}{o:HO}
theorem ObjOk.lt(x:ObjOk P w H h a o):a<h.objs.size:=by
  cases o with
  |lst xs=>obtain⟨_,_,_,_,e⟩:=x;exact Heap.lt_size e
  |tup xs=>obtain⟨_,_,_,p⟩:=x;exact p.lt
  |dK kvs=>obtain⟨_,_,_,_,o,_,_,e,_⟩:=x;exact Heap.lt_size e
  |dT kvs=>obtain⟨_,_,_,_,o,_,_,e,_⟩:=x;exact Heap.lt_size e
  |set S n=>obtain⟨o,_,_,_,e,_⟩:=x;exact Heap.lt_size e
  |ins C dx fs=>obtain⟨_,_,_,e,_⟩:=x;exact Heap.lt_size e
  |own y=>obtain⟨_,e⟩:=x;exact Heap.lt_size e
  |xd fs=>obtain⟨_,⟨_,_,_,e,_⟩,_⟩:=x;exact Heap.lt_size e
  |rng lo hi=>obtain⟨_,_,_,e⟩:=x;exact Heap.lt_size e
  |frz ob u=>obtain⟨e,_⟩:=x;exact Heap.lt_size e
  |tbl ps=>exact Heap.lt_size (show h.get? a=some _ from x)
  |met f y=>exact Heap.lt_size (show h.get? a=some _ from x)
  |ext φ=>obtain⟨_,⟨_,e⟩,_⟩:=x;exact Heap.lt_size e
theorem Paired.mapP{α β:Type}{F G:α->β->Prop}:∀{l₁:List α} {l₂:List β},Paired F l₁ l₂->(∀a b,F a b->G a b)->Paired G l₁ l₂
  |_,_,.nil,_=>.nil
  |_,_,.cons r t,f=>.cons (f _ _ r) (Paired.mapP t f)
theorem ObjOk.stay(x:ObjOk P w H h a o)(k:∀b u,(b=a\/H b=some (.own a))->h.get? b=some u->h'.get? b=some u)
    (ho:∀b,H b=some (.own a)->H' b=some (.own a)) (ht:∀b xs,H b=some (.tup xs)->H' b=some (.tup xs)):ObjOk P w H' h' a o:=by
  induction o with
  |lst xs=>obtain⟨z,its,n,r,e⟩:=x;exact⟨z,its,n,r,k _ _ (.inl rfl) e⟩
  |tup xs=>obtain⟨z,its,r,ob,e,c⟩:=x;exact⟨z,its,r,ob,k _ _ (.inl rfl) e,c⟩
  |dK kvs=>obtain⟨z,y,vs,r,ob,es,ep,e,c⟩:=x;exact⟨z,y,vs,r,ob,es,ep,k _ _ (.inl rfl) e,c⟩
  | dT kvs =>
    obtain⟨z,y,xs,r,ob,es,ep,e,c⟩:=x
    exact⟨z,y,xs,Paired.mapP r fun p q z=>⟨z.1,ht _ _ z.2.1,z.2.2⟩,ob,es,ep,k _ _ (.inl rfl) e,c⟩
  |set S n=>obtain⟨ob,es,ep,t,e,c⟩:=x;exact⟨ob,es,ep,t,k _ _ (.inl rfl) e,c⟩
  | ins C dx fs =>
    obtain⟨d,z,ne,e,mA,⟨od,es,ep,e2,c⟩,r⟩:=x
    exact⟨ho _ d,z,ne,k _ _ (.inl rfl) e,mA,⟨od,es,ep,k _ _ (.inr d) e2,c⟩,r⟩
  |own y=>obtain⟨ob,e⟩:=x;exact⟨ob,k _ _ (.inl rfl) e⟩
  |xd fs=>obtain⟨mA,⟨od,es,ep,e,c⟩,r⟩:=x;exact⟨mA,⟨od,es,ep,k _ _ (.inl rfl) e,c⟩,r⟩
  |rng lo hi=>obtain⟨t,u,v,e⟩:=x;exact⟨t,u,v,k _ _ (.inl rfl) e⟩
  |frz ob u ih=>obtain⟨e,q⟩:=x;exact⟨k _ _ (.inl rfl) e,ih q⟩
  | tbl ps =>
    have e:h.get? a=some { cls:=.none,data:=.fields ps }:=x
    show h'.get? a=some { cls:=.none,data:=.fields ps }
    exact k a _ (.inl rfl) e
  | met f y =>
    have e:h.get? a=some (PySem.W.methodObj (.ref f) (.ref y)):=x
    show h'.get? a=some (PySem.W.methodObj (.ref f) (.ref y))
    exact k a _ (.inl rfl) e
  |ext φ=>obtain⟨p,⟨o,e⟩,st⟩:=x;exact⟨st _ _ p fun o q=>k _ _ (.inl rfl) q,⟨o,k _ _ (.inl rfl) e⟩,st⟩
theorem HOk.lt(x:HOk P w H h)(e:H a=some o):a<h.objs.size:=(x a o e).lt
theorem HOk.fresh(x:HOk P w H h)(e:h.objs.size<=a):H a=none:=by
  cases q:H a with
  |none=>rfl
  |some u=>exact absurd (Nat.lt_of_lt_of_le (x.lt q) e) (Nat.lt_irrefl _)
theorem HOk.kept(x:HOk P w H h)(k:∀b u,h.get? b=some u->h'.get? b=some u):HOk P w H h':=fun a o e=>
  (x a o e).stay (fun b u _ q=>k b u q) (fun _ q=>q) fun _ _ q=>q
theorem HOk.laid(x:HOk P w H h)(k:∀b u,h.get? b=some u->h'.get? b=some u)(hp:h.objs.size<=a)(new:ObjOk P w (upd H a o) h' a o):HOk P w (upd H a o) h':=fun b u e=>by
  have hn:=x.fresh hp
  by_cases hb:b=a
  . subst hb;rw[zJ] at e;cases e;exact new
  . rw[zI hb] at e
    exact(x b u e).stay (fun c v _ q=>k c v q) (fun c q=>by rw[zI (zL q hn)];exact q) fun c xs q=>by rw[zI (zL q hn)];exact q
end
def Rd(H:Hp)(a:Addr)(u:HO):Prop:=H a=some u\/∃o,H a=some (.frz o u)
theorem Rd.ok{P:Program}{w:World}{H:Hp}{h:Heap}{a:Addr}{u:HO}(r:Rd H a u)(x:HOk P w H h):ObjOk P w H h a u:=by
  rcases r with r|⟨o,r⟩
  . exact x a u r
  . obtain⟨_,q⟩:=x a _ r
    exact q
def Mut:Option HO->Prop
  |some (.lst _)=>True
  |some (.dK _)=>True
  |some (.dT _)=>True
  |some (.set _ _)=>True
  |some (.ins _ _ _)=>True
  |some (.ext _)=>True
  |_=>False
section
variable{P:Program}{w:World}{H:Hp}{h h':Heap}{x e:Addr}{o':HO}
theorem HOk.write (ok : HOk P w H h) (mu : Mut (H x)) (he : e = x ∨ H e = some (.own x)) (k : ∀ b u, b ≠ e → h.get? b = some u → h'.get? b = some u) (heo : ∃ u, h'.get? e = some u)
    (new:ObjOk P w (upd H x o') h' x o'):HOk P w (upd H x o') h':=fun b u q=>by
  have nown:∀c y,H c=some (.own y)->c≠x:=fun c y r z=>by subst z;rw[r] at mu;exact mu
  have ntup:∀c xs,H c=some (.tup xs)->c≠x:=fun c xs r z=>by subst z;rw[r] at mu;exact mu
  by_cases hb:b=x
  . subst hb;rw[zJ] at q;cases q;exact new
  . rw[zI hb] at q
    by_cases hbe:b=e
    . have q':H b=some (.own x):=by
        rcases he with z|z
        . exact absurd (hbe.trans z) hb
        . rw[hbe];exact z
      rw[q] at q';cases q'
      obtain⟨v,hv⟩:=heo
      exact⟨v,by rw[hbe];exact hv⟩
    . refine(ok b u q).stay (fun c v hc r=>k c v ?_ r) (fun c r=>by rw[zI (nown c b r)];exact r) fun c xs r=>by rw[zI (ntup c xs r)];exact r
      rcases hc with rfl|hc
      . exact hbe
      . rintro rfl
        rcases he with z|z
        . exact nown c b hc z
        . rw[hc] at z;cases z;exact hb rfl
end
structure Un(fs ex:List Addr)(H H':Hp)(h h':Heap):Prop where
  keep:∀b o,h.get? b=some o->H b=none->b ∉ fs->b ∉ ex->h'.get? b=some o
  slot:∀b o,h.get? b=some o->H b=none->b∈fs->b ∉ ex->∃sl,h'.get? b=some { o with slots:=sl }
  free:∀b o,h.get? b=some o->H b=none->b ∉ ex->H' b=none
  there:∀b o,h.get? b=some o->b ∉ ex->∃o',h'.get? b=some o'
  tups:∀b xs,H b=some (.tup xs)->H' b=some (.tup xs)
  frzs:∀b o u,H b=some (.frz o u)->H' b=some (.frz o u)
  tbls:∀b ps,H b=some (.tbl ps)->∃more,H' b=some (.tbl (ps++more))
section
variable{fs fs' ex ex':List Addr}{H H1 H2:Hp}{h h1 h2 h':Heap}{a x e:Addr}{o:HO}
theorem Un.any(u:Un fs ex H H1 h h1){b:Addr}{ob:Obj}(q:h.get? b=some ob)(n:H b=none)(hx:b ∉ ex):∃sl,h1.get? b=some { ob with slots:=sl }:=by
  by_cases hb:b∈fs
  . exact u.slot b ob q n hb hx
  . exact⟨ob.slots,u.keep b ob q n hb hx⟩
theorem Un.kept(k:∀b u,h.get? b=some u->h'.get? b=some u):Un fs ex H H h h':=
  ⟨fun b ob q _ _ _=>k b ob q,fun b ob q _ _ _=>⟨ob.slots,k b ob q⟩,fun _ _ _ n _=>n,fun b ob q _=>⟨ob,k b ob q⟩,fun _ _ q=>q,fun _ _ _ q=>q,fun _ ps q=>⟨#[],by rw[q];simp⟩⟩
theorem Un.refl:Un fs ex H H h h:=Un.kept fun _ _ q=>q
theorem Un.laid(k:∀b u,h.get? b=some u->h'.get? b=some u)(hp:h.objs.size<=a)(hn:H a=none):Un fs ex H (upd H a o) h h' where
  keep:=fun b u q _ _ _=>k b u q
  slot:=fun b u q _ _ _=>⟨u.slots,k b u q⟩
  free:=fun b u q n _=>by rw[zI (Nat.ne_of_lt (Nat.lt_of_lt_of_le (Heap.lt_size q) hp))];exact n
  there:=fun b u q _=>⟨u,k b u q⟩
  tups:=fun b xs q=>by rw[zI (zL q hn)];exact q
  frzs:=fun b u xs q=>by rw[zI (zL q hn)];exact q
  tbls:=fun b ps q=>⟨#[],by rw[zI (zL q hn),q];simp⟩
theorem Un.write(mu:Mut (H x))(he:e=x\/H e=some (.own x))(k:∀b u,b≠e->h.get? b=some u->h'.get? b=some u)(heo:∃u,h'.get? e=some u):Un fs ex H (upd H x o) h h':=by
  have hx:∀b,H b=none->b≠x:=fun b n z=>by subst z;rw[n] at mu;exact mu
  have hb:∀b,H b=none->b≠e:=fun b n z=>by
    subst z
    rcases he with r|r
    . exact hx b n r
    . rw[n] at r;cases r
  have hm:∀b u,H b=some u->¬ Mut (some u)->b≠x:=fun b u q nm z=>by subst z;rw[q] at mu;exact nm mu
  refine⟨fun b u q n _ _=>k b u (hb b n) q,fun b u q n _ _=>⟨u.slots,k b u (hb b n) q⟩,fun b u q n _=>by rw[zI (hx b n)];exact n,fun b u q _=>?_,
    fun b xs q=>by rw[zI (hm b _ q fun z=>z)];exact q,fun b u xs q=>by rw[zI (hm b _ q fun z=>z)];exact q,fun b ps q=>⟨#[],by rw[zI (hm b _ q fun z=>z),q];simp⟩⟩
  by_cases hbe:b=e
  . subst hbe;exact heo
  . exact⟨u,k b u hbe q⟩
end
def trk(h:Heap)(H:Hp):List Addr:=(List.range h.objs.size).filter fun a=>(H a).isSome
def hidT(h:Heap)(H:Hp):Heap:=PySem.W.hideAll h (trk h H)
theorem hidT_size(h:Heap)(H:Hp):(hidT h H).objs.size=h.objs.size:=PySem.W.hideAll_size _ _
theorem hidT_get{h:Heap}{H:Hp}{b:Addr}{o:Obj}(e:h.get? b=some o)(n:H b=none):(hidT h H).get? b=some o:=
  PySem.W.hideAll_get _ e fun hm=>by
    have q:(H b).isSome=true:=(List.mem_filter.mp hm).2
    rw[n] at q;simp at q
theorem of_hidT{h:Heap}{H:Hp}{b:Addr}{o:Obj}(e:(hidT h H).get? b=some o):h.get? b=some o/\H b=none:=by
  have e':h.get? b=some o:=PySem.W.of_hideAll (trk h H) e
  refine⟨e',?_⟩
  cases q:H b with
  |none=>rfl
  | some x =>
    have hm:b∈trk h H:=List.mem_filter.mpr ⟨List.mem_range.mpr (Heap.lt_size e'),by simp[q]⟩
    have z:(hidT h H).get? b=none:=PySem.W.hideAll_none (trk h H) hm
    rw[z] at e;cases e
end L2
namespace L2
open PySem PySem.Spec PyProof.Rows
structure Mod(K:PySem.W.Frag)(mg:Str->Option Value)(base:Heap):Prop where
  kin:K.In base
  glob:base.Ns mainGlobals mg
  blt:∃mb,base.Ns builtinsNs mb/\∀x:Str,x≠"__name__"->mb x=bootBuiltins x
  nolimit:base.NoLimit
structure Cx where
  prog:Program
  w:World
  K:PySem.W.Frag
  mg:Str->Option Value
  base:Heap
  A:Around
  N:List Str
  s_0:Shared
  H_0:Hp
  env:Env
  outer:List Env
  stack:List Env
  ex:List Addr
  fn:Str->Bool
  calm:Bool
  pn:List (Addr×Obj)
  xe:Value->Shared->Prop
def frs(l:List Env):List Addr:=l.filterMap (·.frame)
abbrev Cx.fs(X:Cx):List Addr:=frs X.outer
def Vis(sc:Scope)(x:Str):Prop:=sc.names.lookup x=some .local\/sc.names.lookup x=some .cell\/sc.names.lookup x=some .free
def Loc(sc:Scope)(x:Str):Prop:=sc.names.lookup x=some .local\/sc.names.lookup x=some .cell
def Look(env:Env)(h:Heap)(m:Str->Option Value)(x:Str)(u:Value):Prop:=
  (env.kindOf x=some .local/\m x=some u)\/((env.kindOf x=some .cell\/env.kindOf x=some .free)/\∃c,env.cells.lookup x=some c/\h.IsCell c (some u))
structure Cx.Ok(X:Cx):Prop where
  mod:Mod X.K X.mg X.base
  kind:X.env.scope.kind=.function
  glob:X.env.globals=mainGlobals
  blt:X.env.builtins=builtinsNs
  above:X.s_0.heap.objs.size<=X.env.locals
  inj:∀x y c,X.env.cells.lookup x=some c->X.env.cells.lookup y=some c->x=y
  has:∀x,(X.env.kindOf x=some .cell\/X.env.kindOf x=some .free)->∃c,X.env.cells.lookup x=some c
  cab:∀x c,X.fn x=true->X.env.cells.lookup x=some c->X.s_0.heap.objs.size<=c
  hd:X.calm=true->X.A.handled=none
  frames:X.A.frames=some X.stack
  stk:X.stack=X.outer\/(X.stack=X.env::X.outer/\X.env.frame=some X.env.locals)
  exf:∀b∈X.ex,b≠X.env.locals/\∀x c,X.env.cells.lookup x=some c->c≠b
  bs:∀b o,X.base.get? b=some o->X.s_0.heap.get? b=some o/\X.H_0 b=none
  bsz:X.base.objs.size<=X.s_0.heap.objs.size
  noex:∀b o,X.base.get? b=some o->b ∉ X.ex
  exfs:∀b∈X.ex,b ∉ X.fs
  funs:X.s_0.heap.FunFrames X.base X.outer
  frf:∀b∈X.fs,X.H_0 b=none
structure Inv(X:Cx)(pins:List (Addr×Obj))(σ:List (Option V))(H:Hp)(s:Shared):Prop where
  ok:X.Ok
  os:s.os=X.s_0.os
  bare:AllBare s.gens
  base:Un X.fs X.ex X.H_0 H X.s_0.heap s.heap
  loc:∃m,s.heap.Ns X.env.locals m/\∀(i:Nat) (x:Str) (v:V),X.N[i]?=some x->σ[i]?=some (some v)->Vis X.env.scope x->∃u,RelV v u/\Look X.env s.heap m x u
  cell:∀x c,X.env.cells.lookup x=some c->∃v,s.heap.IsCell c v
  free:H X.env.locals=none
  freeC:∀x c,X.env.cells.lookup x=some c->H c=none
  pin:∀p∈X.pn++pins,s.heap.get? p.1=some p.2/\H p.1=none/\p.1≠X.env.locals/\p.1 ∉ X.fs/\∀v,p.2.data≠.cell v
  hok:HOk X.prog X.w H s.heap
  len:σ.length=X.N.length
section
variable{X:Cx}{pins:List (Addr×Obj)}{σ:List (Option V)}{H H':Hp}{s:Shared}{h':Heap}
theorem Cx.Ok.nofr(ok:X.Ok){b:Addr}{o:Obj}(e:X.base.get? b=some o):b ∉ X.fs:=fun hb=>by
  have:=(ok.funs.mem hb).1
  rw[e] at this;cases this
theorem Inv.bs(I:Inv X pins σ H s):∀b o,X.base.get? b=some o->s.heap.get? b=some o/\H b=none:=fun b o e=>
  ⟨I.base.keep b o (I.ok.bs b o e).1 (I.ok.bs b o e).2 (I.ok.nofr e) (I.ok.noex b o e),I.base.free b o (I.ok.bs b o e).1 (I.ok.bs b o e).2 (I.ok.noex b o e)⟩
theorem Inv.bk(I:Inv X pins σ H s):∀b o,X.base.get? b=some o->s.heap.get? b=some o:=fun b o e=>(I.bs b o e).1
theorem Inv.mod(I:Inv X pins σ H s):Mod X.K X.mg X.base:=I.ok.mod
theorem Inv.kIn(I:Inv X pins σ H s):X.K.In s.heap:=I.ok.mod.kin.keeps I.bk
theorem Inv.lt(I:Inv X pins σ H s):X.env.locals<s.heap.objs.size:=let ⟨_,hn,_⟩:=I.loc;hn.lt
theorem Inv.sz(I:Inv X pins σ H s):X.s_0.heap.objs.size<=s.heap.objs.size:=Nat.le_trans I.ok.above (Nat.le_of_lt I.lt)
theorem Inv.nofs(I:Inv X pins σ H s){a:Addr}(h:s.heap.objs.size<=a):a ∉ X.fs:=fun hb=>by
  obtain⟨_,o,ho,_⟩:=I.ok.funs.mem hb
  exact absurd (Nat.lt_of_lt_of_le (Heap.lt_size ho) (Nat.le_trans I.sz h)) (Nat.lt_irrefl _)
theorem Inv.cne(I:Inv X pins σ H s):∀x c,X.env.cells.lookup x=some c->c≠X.env.locals:=fun x c e z=>by
  obtain⟨v,o,ho,hd⟩:=I.cell x c e
  obtain⟨m,⟨o',es,ep,ho',hd',_⟩,_⟩:=I.loc
  rw[z,ho'] at ho;cases ho;rw[hd'] at hd;cases hd
theorem Inv.funs(I:Inv X pins σ H s):s.heap.FunFrames X.base X.outer:=by
  have all:∀(l:List Env),(∀b∈frs l,b∈X.fs)->X.s_0.heap.FunFrames X.base l->s.heap.FunFrames X.base l:=by
    intro l
    induction l with
    |nil=>intro _ _;trivial
    | cons env r ih =>
      intro hs hl
      obtain⟨hk,⟨L,o,hf,hn,ho,hd⟩,hr⟩:=hl
      have hL:L∈X.fs:=hs L (by unfold frs;rw[List.filterMap_cons,hf];exact List.mem_cons_self)
      obtain⟨sl,e⟩:=I.base.slot L o ho (I.ok.frf L hL) hL fun z=>I.ok.exfs L z hL
      exact⟨hk,⟨L,_,hf,hn,e,hd⟩,ih (fun b hb=>hs b (by unfold frs;rw[List.filterMap_cons,hf];exact List.mem_cons_of_mem _ hb)) hr⟩
  exact all X.outer (fun _ hb=>hb) I.ok.funs
theorem Inv.stack(I:Inv X pins σ H s):s.heap.FunFrames X.base X.stack:=by
  rcases I.ok.stk with e|⟨e,hf⟩
  . rw[e];exact I.funs
  . rw[e]
    obtain⟨m,hn,_⟩:=I.loc
    refine .cons (by rw[I.ok.kind];decide) hf hn ?_ I.funs
    exact Heap.get?_none_of_le (Nat.le_trans I.ok.bsz I.ok.above)
theorem Inv.stkSub(I:Inv X pins σ H s):∀b∈frs X.stack,b∈X.env.locals::X.fs:=fun b hb=>by
  rcases I.ok.stk with e|⟨e,hf⟩
  . rw[e] at hb;exact List.mem_cons_of_mem _ hb
  . rw[e] at hb
    unfold frs at hb
    rw[List.filterMap_cons,hf] at hb
    exact hb
theorem Inv.stkFree(I:Inv X pins σ H s):∀b∈frs X.stack,H b=none:=fun b hb=>by
  rcases List.mem_cons.mp (I.stkSub b hb) with e|hb
  . rw[e];exact I.free
  . obtain⟨_,o,ho,_⟩:=I.ok.funs.mem hb
    exact I.base.free b o ho (I.ok.frf b hb) fun z=>I.ok.exfs b z hb
theorem Inv.step{g':Array GenState}{t':Nat}{d':Drawn}{ch:List Addr}(I:Inv X pins σ H s)
    (hch:∀b∈ch,(b∈X.ex\/X.s_0.heap.objs.size<=b)/\b≠X.env.locals/\(∀x c,X.env.cells.lookup x=some c->c≠b)/\∀p∈X.pn++pins,p.1≠b)
    (keep:∀b o,b≠X.env.locals->b ∉ X.fs->b ∉ ch->s.heap.get? b=some o->H b=none->h'.get? b=some o)
    (slot:∀b o,b≠X.env.locals->b∈X.fs->b ∉ ch->s.heap.get? b=some o->H b=none->∃sl,h'.get? b=some { o with slots:=sl }) (free:∀b o,b ∉ ch->s.heap.get? b=some o->H b=none->H' b=none)
    (there:∀b o,b ∉ ch->s.heap.get? b=some o->∃o',h'.get? b=some o')
    (tups:∀b xs,H b=some (.tup xs)->H' b=some (.tup xs)) (frzs:∀b o u,H b=some (.frz o u)->H' b=some (.frz o u)) (tbls:∀b ps,H b=some (.tbl ps)->∃more,H' b=some (.tbl (ps++more)))
    (ns:∀m,s.heap.Ns X.env.locals m->h'.Ns X.env.locals m) (hok:HOk X.prog X.w H' h') (hg:AllBare g'):
    Inv X pins σ H' { s with heap:=h',gens:=g',drawn:=d',toks:=t' }:=by
  have neL:∀b o,X.s_0.heap.get? b=some o->b≠X.env.locals:=fun b o e=>Nat.ne_of_lt (Nat.lt_of_lt_of_le (Heap.lt_size e) I.ok.above)
  have neC:∀b o,X.s_0.heap.get? b=some o->b ∉ X.ex->b ∉ ch:=fun b o e hx hb=>by
    rcases (hch b hb).1 with z|z
    . exact hx z
    . exact absurd (Nat.lt_of_lt_of_le (Heap.lt_size e) z) (Nat.lt_irrefl _)
  have cellK:∀x c,X.env.cells.lookup x=some c->∀v,s.heap.IsCell c v->h'.IsCell c v:=fun x c e v ⟨o,ho,hd⟩=>by
    have nch:c ∉ ch:=fun z=>(hch c z).2.2.1 x c e rfl
    by_cases hc:c∈X.fs
    . obtain⟨sl,q⟩:=slot c o (I.cne x c e) hc nch ho (I.freeC x c e)
      exact⟨_,q,hd⟩
    . exact⟨o,keep c o (I.cne x c e) hc nch ho (I.freeC x c e),hd⟩
  refine⟨I.ok,I.os,hg,⟨fun b o e n hb hx=>?_,fun b o e n hb hx=>?_,fun b o e n hx=>?_,fun b o e hx=>?_,fun b xs e=>tups b xs (I.base.tups b xs e),fun b o xs e=>frzs b o xs (I.base.frzs b o xs e),fun b ps e=>?_⟩,?_,fun x c e=>?_,?_,fun x c e=>?_,fun p hp=>?_,hok,I.len⟩
  . exact keep b o (neL b o e) hb (neC b o e hx) (I.base.keep b o e n hb hx) (I.base.free b o e n hx)
  . obtain⟨sl,e1⟩:=I.base.slot b o e n hb hx
    obtain⟨sl',e2⟩:=slot b _ (neL b o e) hb (neC b o e hx) e1 (I.base.free b o e n hx)
    exact⟨sl',e2⟩
  . obtain⟨o',e1⟩:=I.base.there b o e hx
    exact free b o' (neC b o e hx) e1 (I.base.free b o e n hx)
  . obtain⟨o',e1⟩:=I.base.there b o e hx
    exact there b o' (neC b o e hx) e1
  . obtain⟨m1,e1⟩:=I.base.tbls b ps e
    obtain⟨m2,e2⟩:=tbls b _ e1
    exact⟨m1++m2,by rw[e2,Array.append_assoc]⟩
  . obtain⟨m,hn,hl⟩:=I.loc
    refine⟨m,ns m hn,fun i x v e1 e2 e3=>?_⟩
    obtain⟨u,r,l⟩:=hl i x v e1 e2 e3
    refine⟨u,r,?_⟩
    rcases l with l|⟨k,c,e,z⟩
    . exact .inl l
    . exact .inr ⟨k,c,e,cellK x c e _ z⟩
  . obtain⟨v,z⟩:=I.cell x c e
    exact⟨v,cellK x c e v z⟩
  . obtain⟨m,⟨o,_,_,ho,_⟩,_⟩:=I.loc
    exact free _ o (fun z=>(hch _ z).2.1 rfl) ho I.free
  . obtain⟨v,o,ho,hd⟩:=I.cell x c e
    exact free c o (fun z=>(hch c z).2.2.1 x c e rfl) ho (I.freeC x c e)
  . obtain⟨e,n,ne,nf,d⟩:=I.pin p hp
    have nch:p.1 ∉ ch:=fun z=>(hch p.1 z).2.2.2 p hp rfl
    exact⟨keep p.1 p.2 ne nf nch e n,free p.1 p.2 nch e n,ne,nf,d⟩
theorem Inv.un{t':Nat}(I:Inv X pins σ H s)(u:Un X.fs [] H H' s.heap h')(hok:HOk X.prog X.w H' h'):Inv X pins σ H' { s with heap:=h',toks:=t' }:=by
  obtain⟨m,⟨o,es,ep,ho,r⟩,_⟩:=id I.loc
  obtain⟨sl,hL⟩:=u.any ho I.free (by simp)
  exact I.step (g':=s.gens) (d':=s.drawn) (ch:=[]) (fun _ z=>nomatch z) (fun b o _ hb _ e n=>u.keep b o e n hb (by simp)) (fun b o _ hb _ e n=>u.slot b o e n hb (by simp)) (fun b o _ e n=>u.free b o e n (by simp)) (fun b o _ e=>u.there b o e (by simp)) u.tups u.frzs u.tbls (fun m' hm=>by
    obtain⟨o',es',ep',ho',r'⟩:=hm
    rw[ho] at ho';cases ho'
    exact⟨_,es',ep',hL,r'⟩) hok I.bare
theorem Inv.call{g':Array GenState}{t':Nat}{d':Drawn}{ch:List Addr}(I:Inv X pins σ H s)(u:Un (frs X.stack) ch H H' s.heap h')(hok:HOk X.prog X.w H' h')(hg:AllBare g')
    (hch:∀b∈ch,(b∈X.ex\/X.s_0.heap.objs.size<=b)/\b≠X.env.locals/\(∀x c,X.env.cells.lookup x=some c->c≠b)/\∀p∈X.pn++pins,p.1≠b):
    Inv X pins σ H' { s with heap:=h',gens:=g',drawn:=d',toks:=t' }:=by
  obtain⟨m,⟨o,es,ep,ho,r⟩,_⟩:=id I.loc
  obtain⟨sl,hL⟩:=u.any ho I.free fun z=>(hch _ z).2.1 rfl
  exact I.step (ch:=ch) hch (fun b o hL hb hc e n=>u.keep b o e n (fun z=>(List.mem_cons.mp (I.stkSub b z)).elim hL hb) hc) (fun b o _ _ hc e n=>u.any e n hc) (fun b o hc e n=>u.free b o e n hc) (fun b o hc e=>u.there b o e hc) u.tups u.frzs u.tbls (fun m' hm=>by
    obtain⟨o',es',ep',ho',r'⟩:=hm
    rw[ho] at ho';cases ho'
    exact⟨_,es',ep',hL,r'⟩) hok hg
theorem Inv.turned{t':Nat}{it:Addr}(I:Inv X pins σ H s)(k:∀b o,b≠it->s.heap.get? b=some o->h'.get? b=some o)(hn:H it=none)(hL:it≠X.env.locals)
    (h1:it∈X.ex\/X.s_0.heap.objs.size<=it) (h2:∀x c,X.env.cells.lookup x=some c->c≠it) (h3:∀p∈X.pn++pins,p.1≠it):Inv X pins σ H { s with heap:=h',toks:=t' }:=by
  have nit:∀b u,H b=some u->b≠it:=fun b u e z=>by rw[z,hn] at e;cases e
  refine I.step (g':=s.gens) (d':=s.drawn) (ch:=[it]) (fun b hb=>?_) (fun b o _ _ hc e _=>k b o (fun z=>hc (by simp[z])) e) (fun b o _ _ hc e _=>⟨o.slots,k b o (fun z=>hc (by simp[z])) e⟩) (fun _ _ _ _ n=>n)
    (fun b o hc e=>⟨o,k b o (fun z=>hc (by simp[z])) e⟩) (fun _ _ e=>e) (fun _ _ _ e=>e) (fun b ps e=>⟨#[],by rw[e];simp⟩) (fun m hm=>?_) (fun b u e=>?_) I.bare
  . have e:b=it:=by simpa using hb
    subst e
    exact⟨h1,hL,h2,h3⟩
  . obtain⟨o,es,ep,ho,r⟩:=hm
    exact⟨o,es,ep,k _ o (Ne.symm hL) ho,r⟩
  . refine(I.hok b u e).stay (fun c v hc q=>k c v ?_ q) (fun _ q=>q) fun _ _ q=>q
    rcases hc with z|z
    . rw[z];exact nit b u e
    . exact nit c _ z
theorem Inv.tok(I:Inv X pins σ H s)(t:Nat):Inv X pins σ H { s with toks:=t }:=I.un (h':=s.heap) (t':=t) Un.refl I.hok
theorem Inv.kept{t':Nat}(I:Inv X pins σ H s)(k:∀b u,s.heap.get? b=some u->h'.get? b=some u):Inv X pins σ H { s with heap:=h',toks:=t' }:=I.un (Un.kept k) (I.hok.kept k)
theorem Inv.laid{a:Addr}{o:HO}{t':Nat}(I:Inv X pins σ H s)(k:∀b u,s.heap.get? b=some u->h'.get? b=some u)(hp:s.heap.objs.size<=a)(new:ObjOk X.prog X.w (upd H a o) h' a o):
    Inv X pins σ (upd H a o) { s with heap:=h',toks:=t' }:=I.un (Un.laid k hp (I.hok.fresh hp)) (I.hok.laid k hp new)
theorem Inv.write{x e:Addr}{o:HO}{t':Nat}(I:Inv X pins σ H s)(mu:Mut (H x))(he:e=x\/H e=some (.own x))(k:∀b u,b≠e->s.heap.get? b=some u->h'.get? b=some u)(heo:∃u,h'.get? e=some u)
    (new:ObjOk X.prog X.w (upd H x o) h' x o):Inv X pins σ (upd H x o) { s with heap:=h',toks:=t' }:=I.un (Un.write mu he k heo) (I.hok.write mu he k heo new)
theorem Inv.weak{σ':List (Option V)}(I:Inv X pins σ H s)(hl:σ'.length=σ.length)(w:∀(i:Nat) v,σ'[i]?=some (some v)->σ[i]?=some (some v)):Inv X pins σ' H s:=
  ⟨I.ok,I.os,I.bare,I.base,let ⟨m,hn,hl'⟩:=I.loc;⟨m,hn,fun i x v e1 e2 e3=>hl' i x v e1 (w i v e2) e3⟩,I.cell,I.free,I.freeC,I.pin,I.hok,hl.trans I.len⟩
theorem Inv.pins_of{pins':List (Addr×Obj)}(I:Inv X pins σ H s)(h:∀p∈pins',s.heap.get? p.1=some p.2/\H p.1=none/\p.1≠X.env.locals/\p.1 ∉ X.fs/\∀v,p.2.data≠.cell v):Inv X pins' σ H s:=
  ⟨I.ok,I.os,I.bare,I.base,I.loc,I.cell,I.free,I.freeC,fun p hp=>(List.mem_append.mp hp).elim (fun z=>I.pin p (List.mem_append_left _ z)) (h p),I.hok,I.len⟩
theorem Jz{N:List Str}(hN:N.Nodup){i j:Nat}{x:Str}(a:N[i]?=some x)(b:N[j]?=some x):i=j:=by
  obtain⟨h1,e1⟩:=List.getElem?_eq_some_iff.mp a
  obtain⟨h2,e2⟩:=List.getElem?_eq_some_iff.mp b
  exact(List.getElem_inj hN).mp (e1.trans e2.symm)
theorem store_ok2 {M : Model} {A : Around} {E : Value → Shared → Prop} {i : Nat} {x : Str} {v : V} {u : Value} {Q : Unit → Shared → Prop} (I : Inv X pins σ H s) (hN : X.N.Nodup) (hi : X.N[i]? = some x) (hx : Loc X.env.scope x) (r : RelV v u)
    (h:∀s',Inv X pins (σ.set i (some v)) H s'->(∃a,Heap.SameBut a s.heap s'.heap/\(a=X.env.locals\/X.env.cells.lookup x=some a))->Q () s') (hf:X.fn x=true\/X.env.scope.names.lookup x=some .local:=by first|exact .inl rfl|exact .inr rfl|assumption):wpAny M A (storeName X.env x u) Q E s:=by
  obtain⟨m,hn,hl⟩:=id I.loc
  have hcls:(X.env.scope.kind==.class||(X.env.scope.kind==.module&&X.env.locals != X.env.globals))=false:=by rw[I.ok.kind];rfl
  have hiσ:i<σ.length:=by rw[I.len];exact(List.getElem?_eq_some_iff.mp hi).1
  have cne:=I.cne
  have tracked:∀{a:Addr} {h':Heap},(∃o,s.heap.get? a=some o/\H a=none)->Heap.SameBut a s.heap h'->HOk X.prog X.w H h':=fun {a h'} ha hs b ob e=>by
    obtain⟨_,_,hfree⟩:=ha
    refine(I.hok b ob e).stay (fun c w' hc q=>(hs.2 c ?_).trans q) (fun _ q=>q) fun _ _ q=>q
    rintro rfl
    rcases hc with rfl|hc
    . rw[hfree] at e;cases e
    . rw[hfree] at hc;cases hc
  rcases hx with hk|hk
  . refine wpAny_storeName_local hk hn (fun h' hn' hs=>?_) hcls
    obtain⟨oL,_,_,hoL,_⟩:=id hn
    refine h _ ⟨I.ok,I.os,I.bare,⟨fun b o e n hb hx=>?_,fun b o e n hb hx=>?_,I.base.free,fun b o e hx=>?_,I.base.tups,I.base.frzs,I.base.tbls⟩,⟨_,hn',fun j y v' e1 e2 e3=>?_⟩,fun y c e=>?_,I.free,I.freeC,fun p hp=>?_,tracked ⟨oL,hoL,I.free⟩ hs,by simpa using I.len⟩ ⟨_,hs,.inl rfl⟩
    . exact(hs.2 b (Nat.ne_of_lt (Nat.lt_of_lt_of_le (Heap.lt_size e) I.ok.above))).trans (I.base.keep b o e n hb hx)
    . obtain⟨sl,e1⟩:=I.base.slot b o e n hb hx
      exact⟨sl,(hs.2 b (Nat.ne_of_lt (Nat.lt_of_lt_of_le (Heap.lt_size e) I.ok.above))).trans e1⟩
    . obtain⟨o',e1⟩:=I.base.there b o e hx
      exact⟨o',(hs.2 b (Nat.ne_of_lt (Nat.lt_of_lt_of_le (Heap.lt_size e) I.ok.above))).trans e1⟩
    . by_cases hj:j=i
      . subst hj
        rw[hi] at e1;cases e1
        rw[List.getElem?_set_self hiσ] at e2
        cases e2
        exact⟨u,r,.inl ⟨hk,by simp⟩⟩
      . rw[List.getElem?_set_ne (Ne.symm hj)] at e2
        obtain⟨u',r',q⟩:=hl j y v' e1 e2 e3
        refine⟨u',r',?_⟩
        rcases q with⟨k,e⟩|⟨k,c,e,z⟩
        . refine .inl ⟨k,?_⟩
          have:y≠x:=fun e=>hj (Jz hN e1 (e▸hi))
          simp[this,e]
        . exact .inr ⟨k,c,e,z.sameBut hs (cne y c e)⟩
    . obtain⟨w',z⟩:=I.cell y c e
      exact⟨w',z.sameBut hs (cne y c e)⟩
    . obtain⟨e,n,ne,nf,d⟩:=I.pin p hp
      exact⟨(hs.2 p.1 ne).trans e,n,ne,nf,d⟩
  . have hfn:X.fn x=true:=by
      rcases hf with z|z
      . exact z
      . rw[z] at hk;cases hk
    obtain⟨c,hc⟩:=I.ok.has x (.inl hk)
    obtain⟨w',z⟩:=I.cell x c hc
    refine wpAny_storeName_cell I.ok.kind hk hc z (fun h' hc' hs=>?_)
    obtain⟨oc,hoc,hocd⟩:=id z
    refine h { s with heap:=h' } ⟨I.ok,I.os,I.bare,⟨fun b o e n hb hx=>?_,fun b o e n hb hx=>?_,I.base.free,fun b o e hx=>?_,I.base.tups,I.base.frzs,I.base.tbls⟩,⟨m,hn.sameBut hs (Ne.symm (cne x c hc)),fun j y v' e1 e2 e3=>?_⟩,fun y c' e=>?_,I.free,I.freeC,fun p hp=>?_,tracked ⟨oc,hoc,I.freeC x c hc⟩ hs,by simpa using I.len⟩ ⟨c,hs,.inr hc⟩
    . exact(hs.2 b (Nat.ne_of_lt (Nat.lt_of_lt_of_le (Heap.lt_size e) (I.ok.cab x c hfn hc)))).trans (I.base.keep b o e n hb hx)
    . obtain⟨sl,e1⟩:=I.base.slot b o e n hb hx
      exact⟨sl,(hs.2 b (Nat.ne_of_lt (Nat.lt_of_lt_of_le (Heap.lt_size e) (I.ok.cab x c hfn hc)))).trans e1⟩
    . obtain⟨o',e1⟩:=I.base.there b o e hx
      exact⟨o',(hs.2 b (Nat.ne_of_lt (Nat.lt_of_lt_of_le (Heap.lt_size e) (I.ok.cab x c hfn hc)))).trans e1⟩
    . by_cases hj:j=i
      . subst hj
        rw[hi] at e1;cases e1
        rw[List.getElem?_set_self hiσ] at e2
        cases e2
        exact⟨u,r,.inr ⟨.inl hk,c,hc,hc'⟩⟩
      . rw[List.getElem?_set_ne (Ne.symm hj)] at e2
        obtain⟨u',r',q⟩:=hl j y v' e1 e2 e3
        refine⟨u',r',?_⟩
        rcases q with q|⟨k,c',e,z'⟩
        . exact .inl q
        . refine .inr ⟨k,c',e,z'.sameBut hs ?_⟩
          rintro rfl
          exact hj (Jz hN e1 (I.ok.inj _ _ _ e hc▸hi))
    . by_cases hcc:c'=c
      . subst hcc;exact⟨_,hc'⟩
      . obtain⟨w2,z2⟩:=I.cell y c' e
        exact⟨w2,z2.sameBut hs hcc⟩
    . obtain⟨e,n,ne,nf,d⟩:=I.pin p hp
      refine⟨(hs.2 p.1 ?_).trans e,n,ne,nf,d⟩
      intro q
      rw[q,hoc] at e
      have q':oc=p.2:=Option.some.inj e
      exact d w' (by rw[<-q'];exact hocd)
theorem Jl{M:Model}{A:Around}{E:Value->Shared->Prop}{i:Nat}{x:Str}{v:V}{u:Value}{Q:Unit->Shared->Prop}(I:Inv X pins σ H s)(hN:X.N.Nodup)(hi:X.N[i]?=some x)(hx:Loc X.env.scope x)(r:RelV v u)
    (h:∀s',Inv X pins (σ.set i (some v)) H s'->Q () s') (hf:X.fn x=true\/X.env.scope.names.lookup x=some .local:=by first|exact .inl rfl|exact .inr rfl|assumption):wpAny M A (storeName X.env x u) Q E s:=
  store_ok2 I hN hi hx r (fun s' I' _=>h s' I') hf
theorem Inv.call'{s':Shared}{ch:List Addr}(I:Inv X pins σ H s)(ho:s'.os=s.os)(u:Un (frs X.stack) ch H H' s.heap s'.heap)(hok:HOk X.prog X.w H' s'.heap)(hg:AllBare s'.gens)
    (hch:∀b∈ch,(b∈X.ex\/X.s_0.heap.objs.size<=b)/\b≠X.env.locals/\(∀x c,X.env.cells.lookup x=some c->c≠b)/\∀p∈X.pn++pins,p.1≠b):Inv X pins σ H' s':=by
  obtain⟨h',g',d',t',o'⟩:=s'
  have e:o'=s.os:=ho
  subst e
  exact I.call (g':=g') (t':=t') (d':=d') u hok hg hch
end
abbrev XK:=Value->Option Addr->Hp->Prop
abbrev St:=List (Option V)
abbrev VK:=V->Hp->Prop
abbrev TE:=St->Hp->VK->Prop
abbrev TT:=St->Hp->(Bool->Hp->Prop)->Prop
abbrev TA:=St->Hp->(List V->Hp->Prop)->Prop
structure Ends where
  nx:St->Hp->Prop
  rt:VK
  bk:St->Hp->Prop:=fun _ _=>False
  ct:St->Hp->Prop:=fun _ _=>False
abbrev TS:=Ends->St->Hp->Prop
def EP(X:Cx)(pins:List (Addr×Obj))(σ:St)(Q:VK)(u:Value)(s':Shared):Prop:=∃v H',Inv X pins σ H' s'/\RelV v u/\Q v H'
def TP(X:Cx)(pins:List (Addr×Obj))(σ:St)(Q:Bool->Hp->Prop)(b:Bool)(s':Shared):Prop:=∃H',Inv X pins σ H' s'/\Q b H'
def AP(X:Cx)(pins:List (Addr×Obj))(σ:St)(Q:List V->Hp->Prop)(us:List Value)(s':Shared):Prop:=∃vs H',Inv X pins σ H' s'/\Vals vs us/\Q vs H'
def SP(X:Cx)(pins:List (Addr×Obj))(D:Ends)(f:Flow)(s':Shared):Prop:=
  match f with
  |.next=>∃σ' H',Inv X pins σ' H' s'/\D.nx σ' H'
  |.brk=>∃σ' H',Inv X pins σ' H' s'/\D.bk σ' H'
  |.cont=>∃σ' H',Inv X pins σ' H' s'/\D.ct σ' H'
  |.ret u=>∃v σ' H',Inv X pins σ' H' s'/\RelV v u/\D.rt v H'
def PE(X:Cx)(e:Expr)(t:TE):Prop:=
  ∀(pins:List (Addr×Obj)) (s:Shared) (σ:St) (H:Hp) (Q:VK),Inv X pins σ H s->t σ H Q->wpAny (model X.prog X.w) X.A (eval e X.env) (EP X pins σ Q) X.xe s
def PT(X:Cx)(e:Expr)(t:TT):Prop:=
  ∀(pins:List (Addr×Obj)) (s:Shared) (σ:St) (H:Hp) (Q:Bool->Hp->Prop),Inv X pins σ H s->t σ H Q->wpAny (model X.prog X.w) X.A (isTrue e X.env (eval e X.env)) (TP X pins σ Q) X.xe s
def PW(X:Cx)(e:Expr)(t:TT):Prop:=
  ∀(whole:Sem Value) (pins:List (Addr×Obj)) (s:Shared) (σ:St) (H:Hp) (Q:Bool->Hp->Prop),Inv X pins σ H s->t σ H Q->wpAny (model X.prog X.w) X.A (isTrue e X.env whole) (TP X pins σ Q) X.xe s
theorem PW.pt{X:Cx}{e:Expr}{t:TT}(h:PW X e t):PT X e t:=h _
def PA(X:Cx)(es:List Expr)(t:TA):Prop:=
  ∀(pos:Pos) (pins:List (Addr×Obj)) (s:Shared) (σ:St) (H:Hp) (Q:List V->Hp->Prop),Inv X pins σ H s->t σ H Q->wpAny (model X.prog X.w) X.A (spliced (backTo pos (starEach es X.env))) (AP X pins σ Q) X.xe s
def PS(X:Cx)(st:Stmt)(t:TS):Prop:=
  ∀(pins:List (Addr×Obj)) (s:Shared) (σ:St) (H:Hp) (D:Ends),Inv X pins σ H s->t D σ H->wpAny (model X.prog X.w) X.A (exec st X.env) (SP X pins D) X.xe s
def PSs(X:Cx)(st:List Stmt)(t:TS):Prop:=
  ∀(pins:List (Addr×Obj)) (s:Shared) (σ:St) (H:Hp) (D:Ends),Inv X pins σ H s->t D σ H->wpAny (model X.prog X.w) X.A (execs st X.env) (SP X pins D) X.xe s
theorem thn{α:Type}{t:Sem α}{Q Q':α->Shared->Prop}{M:Model}{A:Around}{E:Value->Shared->Prop}{s:Shared}(h:wpAny M A t Q E s)(hQ:∀a s,Q a s->Q' a s):wpAny M A t Q' E s:=wpAny_mono h hQ fun _ _ x=>x
end L2
namespace L2
open PySem PySem.Spec PyProof.Rows
section
variable{X:Cx}
def tVar(i:Nat):TE:=fun σ H Q=>∃v,σ[i]?=some (some v)/\Q v H
def tC(v:V):TE:=fun _ H Q=>Q v H
theorem pe_var{i:Nat}{x:Str}{pos:Pos}(hN:X.N[i]?=some x)(hv:Vis X.env.scope x)(hd:(x==("__debug__":Str))=false:=by decide)(hcd:(x==("__classdict__":Str))=false:=by decide):PE X (.Name x pos) (tVar i):=by
  intro pins s σ H Q I h
  obtain⟨v,e,h⟩:=h
  obtain⟨m,hn,hl⟩:=I.loc
  obtain⟨u,r,l⟩:=hl i x v hN e hv
  have fin:EP X pins σ Q u s:=⟨v,H,I,r,h⟩
  rcases l with⟨hk,hm⟩|⟨hk,c,hc,hcell⟩
  . exact wpAny_Name (wpAny_loadName_local I.ok.kind hk hn hm fin) hd
  . rcases hk with hk|hk
    . exact wpAny_Name (wpAny_loadName_cell I.ok.kind hk hc hcell fin) hd
    . exact wpAny_Name (wpAny_loadName_free I.ok.kind hk hc hcell fin hcd) hd
theorem zE{i j pos}:PE X (.Constant (.int i) j pos) (tC (.int i)):=fun _ _ _ H _ I h=>wpAny_Constant_int ⟨.int i,H,I.tok _,⟨_,rfl⟩,h⟩
theorem jS{b j pos}:PE X (.Constant (.bool b) j pos) (tC (.bl b)):=fun _ _ _ H _ I h=>Constant_bool ⟨.bl b,H,I,rfl,h⟩
theorem QR{j pos}:PE X (.Constant .none j pos) (tC .non):=fun _ _ _ H _ I h=>Constant_none ⟨.non,H,I,rfl,h⟩
def Gl(X:Cx)(x:Str):Prop:=X.env.kindOf x=some .globalImplicit
theorem Jb{E:Value->Shared->Prop}{pins:List (Addr×Obj)}{s:Shared}{σ:St}{H:Hp}{x:Str}{u:Value}{pos:Pos}{Q:Value->Shared->Prop}(I:Inv X pins σ H s)(hg:Gl X x)(hm:X.mg x=some u)(h:Q u s)
    (hd:(x==("__debug__":Str))=false:=by decide):wpAny (model X.prog X.w) X.A (eval (.Name x pos) X.env) Q E s:=
  Calls.Name_function_global I.ok.kind hg (Calls.loadGlobal_global (by rw[I.ok.glob];exact I.mod.glob.keeps I.bk) hm h) hd
theorem zBB{E:Value->Shared->Prop}{pins:List (Addr×Obj)}{s:Shared}{σ:St}{H:Hp}{x:Str}{u:Value}{pos:Pos}{Q:Value->Shared->Prop}(I:Inv X pins σ H s)(hg:Gl X x)(hm:X.mg x=none)(hv:bootBuiltins x=some u)(h:Q u s)
    (hn:x≠"__name__":=by decide) (hd:(x==("__debug__":Str))=false:=by decide):wpAny (model X.prog X.w) X.A (eval (.Name x pos) X.env) Q E s:=by
  obtain⟨mb,h1,h2⟩:=I.mod.blt
  exact Calls.Name_function_global I.ok.kind hg (Calls.loadGlobal_builtin (by rw[I.ok.glob];exact I.mod.glob.keeps I.bk) hm (by rw[I.ok.blt];exact h1.keeps I.bk) ((h2 x hn).trans hv) h) hd
theorem zBl{x:Str}{v:V}{u:Value}{pos:Pos}(hg:Gl X x)(hm:X.mg x=some u)(r:RelV v u)(hd:(x==("__debug__":Str))=false:=by decide):PE X (.Name x pos) (tC v):=
  fun _ _ _ H _ I h=>Jb I hg hm ⟨v,H,I,r,h⟩ hd
variable{a b:Expr}{ta tb:TE}{pos:Pos}
def PC (X : Cx) (op : CmpOp) (a b : Expr) (t : TE) : Prop :=
  ∀ (pins : List (Addr × Obj)) (s : Shared) (σ : St) (H : Hp) (Q : VK), Inv X pins σ H s → t σ H Q →
    wpAny (model X.prog X.w) X.A (eval a X.env) (fun v s₁=>wpAny (model X.prog X.w) X.A (eval b X.env) (fun u s₂=>wpAny (model X.prog X.w) X.A (compareOp op v u) (EP X pins σ Q) X.xe s₂) X.xe s₁) X.xe s
def tB(t:TE):TT:=fun σ H Q=>t σ H fun x H1=>∃c,x=.bl c/\Q c H1
theorem zCO{op:CmpOp}{t:TE}(h:PC X op a b t)(h1:behindInMarks op b=false:=by first|exact nobehind _ (by decide) (by decide)|rfl):PE X (.Compare a [op] [b] pos) t:=fun pins s σ H Q I hw=>wpAny_Compare1 (h pins s σ H Q I hw) h1
theorem zAx{op:CmpOp}{t:TE}(h:PC X op a b t)(h1:behindInMarks op b=false:=by first|exact nobehind _ (by decide) (by decide)|rfl):PT X (.Compare a [op] [b] pos) (tB t):=by
  intro pins s σ H Q I hw
  refine wpAny_isTrue_Compare1 (thn (h pins s σ H _ I hw) fun v s1 h1=>thn h1 fun u s2 h2=>thn h2 fun c s3 ⟨x,H1,I1,r1,q1⟩=>?_) h1
  obtain⟨d,rfl,q⟩:=q1
  cases r1
  exact wpAny_truthy_bool ⟨H1,I1,q⟩
theorem zm{e:Expr}{t:TE}(h:PE X e t)(he:∀whole,isTrue e X.env whole=(do let v <-whole;standAt e.pos;holding [v] (truthy v)):=by intro _;rfl):PT X e (tB t):=by
  intro pins s σ H Q I hw
  refine isTrue_plain (thn (h pins s σ H _ I hw) fun v s1 ⟨x,H1,I1,r1,q1⟩=>?_) (he _)
  obtain⟨d,rfl,q⟩:=q1
  cases r1
  exact wpAny_truthy_bool ⟨H1,I1,q⟩
variable{tA tB':TT}{rest:List Expr}
def tAnd(t u:TT):TT:=fun σ H Q=>t σ H fun c H1=>if c=true then u σ H1 Q else Q false H1
def tOr(t u:TT):TT:=fun σ H Q=>t σ H fun c H1=>if c=true then Q true H1 else u σ H1 Q
def tNot(t:TT):TT:=fun σ H Q=>t σ H fun c H1=>Q (!c) H1
theorem zAv(ha:PT X a tA):PW X (.BoolOp .And [a] pos) tA:=by
  intro wh pins s σ H Q I h
  refine isTrue_and (thn (ha pins s σ H Q I h) fun c s1 e=>?_)
  cases c with
  |true=>exact isTrue_and_nil e
  |false=>exact e
theorem Qt(ha:PT X a tA):PW X (.BoolOp .Or [a] pos) tA:=by
  intro wh pins s σ H Q I h
  refine isTrue_or (thn (ha pins s σ H Q I h) fun c s1 e=>?_)
  cases c with
  |false=>exact isTrue_or_nil e
  |true=>exact e
theorem zAw(ha:PT X a tA)(hb:PW X (.BoolOp .And (b::rest) pos) tB'):PW X (.BoolOp .And (a::b::rest) pos) (tAnd tA tB'):=by
  intro wh pins s σ H Q I h
  refine isTrue_and (thn (ha pins s σ H _ I h) fun c s1 ⟨H1,I1,q1⟩=>?_)
  cases c with
  |true=>exact hb wh pins s1 σ H1 Q I1 q1
  |false=>exact⟨H1,I1,q1⟩
theorem ju(ha:PT X a tA)(hb:PW X (.BoolOp .Or (b::rest) pos) tB'):PW X (.BoolOp .Or (a::b::rest) pos) (tOr tA tB'):=by
  intro wh pins s σ H Q I h
  refine isTrue_or (thn (ha pins s σ H _ I h) fun c s1 ⟨H1,I1,q1⟩=>?_)
  cases c with
  |true=>exact⟨H1,I1,q1⟩
  |false=>exact hb wh pins s1 σ H1 Q I1 q1
theorem zt(ha:PT X a tA):PT X (.UnaryOp .Not a pos) (tNot tA):=by
  intro pins s σ H Q I h
  exact isTrue_not (ha pins s σ H (fun c H1=>Q (!c) H1) I h)
def tAndV(ta tb:TE):TE:=fun σ H Q=>ta σ H fun x H1=>∃c,x=.bl c/\if c=true then tb σ H1 Q else Q (.bl false) H1
def tOrV(ta tb:TE):TE:=fun σ H Q=>ta σ H fun x H1=>∃c,x=.bl c/\if c=true then Q (.bl true) H1 else tb σ H1 Q
theorem Qw{op}{t:TE}(h:PE X a t):PE X (.BoolOp op [a] pos) t:=fun pins s σ H Q I hw=>BoolOp_one (h pins s σ H Q I hw)
theorem jl(ha:PE X a ta)(hb:PE X (.BoolOp .And (b::rest) pos) tb):PE X (.BoolOp .And (a::b::rest) pos) (tAndV ta tb):=by
  intro pins s σ H Q I h
  refine BoolOp_and (thn (ha pins s σ H _ I h) fun v s1 ⟨x,H1,I1,r1,q1⟩=>?_)
  obtain⟨c,rfl,q1⟩:=q1
  cases r1
  refine wpAny_truthy_bool ?_
  cases c with
  |true=>exact hb pins s1 σ H1 Q I1 q1
  |false=>exact⟨.bl false,H1,I1,rfl,q1⟩
theorem zCd(ha:PE X a ta)(hb:PE X (.BoolOp .Or (b::rest) pos) tb):PE X (.BoolOp .Or (a::b::rest) pos) (tOrV ta tb):=by
  intro pins s σ H Q I h
  refine BoolOp_or (thn (ha pins s σ H _ I h) fun v s1 ⟨x,H1,I1,r1,q1⟩=>?_)
  obtain⟨c,rfl,q1⟩:=q1
  cases r1
  refine wpAny_truthy_bool ?_
  cases c with
  |false=>exact hb pins s1 σ H1 Q I1 q1
  |true=>exact⟨.bl true,H1,I1,rfl,q1⟩
def tIf(t:TT)(ta tb:TE):TE:=fun σ H Q=>t σ H fun c H1=>if c=true then ta σ H1 Q else tb σ H1 Q
theorem Jx{c:Expr}(hc:PT X c tA)(ha:PE X a ta)(hb:PE X b tb):PE X (.IfExp c a b pos) (tIf tA ta tb):=by
  intro pins s σ H Q I h
  refine wpAny_IfExp (thn (hc pins s σ H _ I h) fun d s1 ⟨H1,I1,q1⟩=>?_)
  cases d with
  |true=>exact ha pins s1 σ H1 Q I1 q1
  |false=>exact hb pins s1 σ H1 Q I1 q1
end
end L2
namespace L2
open PySem PySem.Spec PyProof.Rows
def SqL (K : PySem.W.Frag) (H : Hp) (a : Addr) (xs : List V) : Prop :=
  Rd H a (.lst xs)\/
    ∃(o:Obj) (its:Array Value) (n:Nat),K.lookup a=some o/\o.cls=.type "list"/\o.dict=none/\o.data=.seq its n/\its.size<=sizeLine/\Vals xs its.toList
def SqT (K : PySem.W.Frag) (H : Hp) (a : Addr) (xs : List V) : Prop :=
  Rd H a (.tup xs)\/
    ∃(o:Obj) (its:Array Value) (n:Nat),K.lookup a=some o/\o.cls=.type "tuple"/\o.data=.seq its n/\its.size<=sizeLine/\Vals xs its.toList
def absV:Value->Option V
  |.none=>some .non
  |.bool b=>some (.bl b)
  |.int i _=>some (.int i)
  |.str x _=>some (.str x)
  |.bytes b _=>some (.byt b)
  |.float b _=>some (.flt b)
  |.ref a=>some (.ref a)
  |.type n=>some (.ty n)
  |_=>none
theorem RelV.abs{x:V}{u:Value}(r:RelV x u):absV u=some x:=by
  cases x with
  |non=>cases r;rfl
  |bl _=>cases r;rfl
  |int _=>obtain⟨t,rfl⟩:=r;rfl
  |str _=>obtain⟨t,rfl⟩:=r;rfl
  |byt _=>obtain⟨t,rfl⟩:=r;rfl
  |flt _=>obtain⟨t,rfl⟩:=r;rfl
  |ref _=>cases r;rfl
  |ty _=>cases r;rfl
theorem RelV.inj{x y:V}{u:Value}(r:RelV x u)(q:RelV y u):x=y:=Option.some.inj (r.abs.symm.trans q.abs)
theorem Vals.inj:∀{xs ys:List V} {us:List Value},Vals xs us->Vals ys us->xs=ys
  |_,_,_,.nil,.nil=>rfl
  |_,_,_,.cons r t,.cons r' t'=>by rw[r.inj r',Vals.inj t t']
section
variable{X:Cx}{pins:List (Addr×Obj)}{σ:St}{H:Hp}{s:Shared}{a:Addr}{xs ys:List V}
theorem SqL.of{K:PySem.W.Frag}(h:H a=some (.lst xs)):SqL K H a xs:=.inl (.inl h)
theorem SqT.of{K:PySem.W.Frag}(h:H a=some (.tup xs)):SqT K H a xs:=.inl (.inl h)
theorem Inv.list(I:Inv X pins σ H s)(h:SqL X.K H a xs):∃its:List Value,Vals xs its/\PlainL s.heap a its.toArray/\xs.length<=sizeLine:=by
  rcases h with h|⟨o,its,n,hk,hc,hd,hs,hz,r⟩
  . obtain⟨z,its,n,r,e⟩:=h.ok I.hok
    exact⟨its,r,⟨_,n,e,rfl,rfl,rfl⟩,z⟩
  . refine⟨its.toList,r,⟨o,n,I.kIn a o hk,hc,hd,by simpa using hs⟩,?_⟩
    have e:=r.length
    simp only[Array.length_toList] at e
    omega
theorem Inv.tuple(I:Inv X pins σ H s)(h:SqT X.K H a xs):∃its:List Value,Vals xs its/\IsTup s.heap a its.toArray/\xs.length<=sizeLine:=by
  rcases h with h|⟨o,its,n,hk,hc,hs,hz,r⟩
  . obtain⟨z,its,r,p⟩:=h.ok I.hok
    exact⟨its,r,p,z⟩
  . refine⟨its.toList,r,⟨o,I.kIn a o hk,hc,n,by simpa using hs⟩,?_⟩
    have e:=r.length
    simp only[Array.length_toList] at e
    omega
theorem Inv.list_inj(I:Inv X pins σ H s)(h:SqL X.K H a xs)(h':SqL X.K H a ys):xs=ys:=by
  obtain⟨its,r,⟨o,n,e,_,_,d⟩,_⟩:=I.list h
  obtain⟨its',r',⟨o',n',e',_,_,d'⟩,_⟩:=I.list h'
  rw[e] at e';cases e'
  rw[d] at d'
  injection d' with d1 _
  have:its=its':=by simpa using congrArg Array.toList d1
  subst this
  exact r.inj r'
theorem Inv.tuple_inj(I:Inv X pins σ H s)(h:SqT X.K H a xs)(h':SqT X.K H a ys):xs=ys:=by
  obtain⟨its,r,⟨o,e,_,n,d⟩,_⟩:=I.tuple h
  obtain⟨its',r',⟨o',e',_,n',d'⟩,_⟩:=I.tuple h'
  rw[e] at e';cases e'
  rw[d] at d'
  injection d' with d1 _
  have:its=its':=by simpa using congrArg Array.toList d1
  subst this
  exact r.inj r'
end
abbrev Cx.wish(X:Cx)(E:Value->Shared->Prop):Cx:={ X with xe:=E }
abbrev Cx.nox(X:Cx):Cx:=X.wish fun _ _=>False
theorem Cx.Ok.wish{X:Cx}(ok:X.Ok)(E:Value->Shared->Prop):(X.wish E).Ok:=
  ⟨ok.mod,ok.kind,ok.glob,ok.blt,ok.above,ok.inj,ok.has,ok.cab,ok.hd,ok.frames,ok.stk,ok.exf,ok.bs,ok.bsz,ok.noex,ok.exfs,ok.funs,ok.frf⟩
theorem Cx.Ok.unwish{X:Cx}{E:Value->Shared->Prop}(ok:(X.wish E).Ok):X.Ok:=
  ⟨ok.mod,ok.kind,ok.glob,ok.blt,ok.above,ok.inj,ok.has,ok.cab,ok.hd,ok.frames,ok.stk,ok.exf,ok.bs,ok.bsz,ok.noex,ok.exfs,ok.funs,ok.frf⟩
section
variable{X:Cx}{pins:List (Addr×Obj)}{σ:St}{H:Hp}{s:Shared}{E:Value->Shared->Prop}
theorem Inv.wish(I:Inv X pins σ H s)(E:Value->Shared->Prop):Inv (X.wish E) pins σ H s:=⟨I.ok.wish E,I.os,I.bare,I.base,I.loc,I.cell,I.free,I.freeC,I.pin,I.hok,I.len⟩
theorem Inv.unwish(I:Inv (X.wish E) pins σ H s):Inv X pins σ H s:=⟨I.ok.unwish,I.os,I.bare,I.base,I.loc,I.cell,I.free,I.freeC,I.pin,I.hok,I.len⟩
theorem SP.unwish{D:Ends}{f:Flow}{s':Shared}(h:SP (X.wish E) pins D f s'):SP X pins D f s':=by
  cases f with
  |next=>obtain⟨σ',H',I,q⟩:=h;exact⟨σ',H',I.unwish,q⟩
  |brk=>obtain⟨σ',H',I,q⟩:=h;exact⟨σ',H',I.unwish,q⟩
  |cont=>obtain⟨σ',H',I,q⟩:=h;exact⟨σ',H',I.unwish,q⟩
  |ret u=>obtain⟨v,σ',H',I,r,q⟩:=h;exact⟨v,σ',H',I.unwish,r,q⟩
theorem PSs.nox{st:List Stmt}{t:TS}(h:PSs X.nox st t):PSs X st t:=fun pins s σ H D I hw=>
  wpAny_mono (h pins s σ H D (I.wish _) hw) (fun _ _ q=>q.unwish) fun _ _ z=>False.elim z
end
section
variable{X:Cx}{st:Stmt}{rest:List Stmt}{t u:TS}{e:Expr}{te:TE}{pos:Pos}
def tNext:TS:=fun D σ H=>D.nx σ H
def tSeq(t u:TS):TS:=fun D σ H=>t { D with nx:=u D } σ H
theorem zP:PSs X [] tNext:=fun _ _ σ H _ I h=>wpAny_execs_nil ⟨σ,H,I,h⟩
theorem zB(h1:PS X st t)(h2:PSs X rest u):PSs X (st::rest) (tSeq t u):=by
  intro pins s σ H D I h
  refine wpAny_execs_cons (thn (h1 pins s σ H { D with nx:=u D } I h) fun f s1 q=>?_)
  cases f with
  | next =>
    obtain⟨σ',H',I',q⟩:=q
    exact h2 pins s1 σ' H' D I' q
  |ret v=>exact q
  |brk=>exact q
  |cont=>exact q
theorem zD(h1:PS X st t):PSs X [st] t:=by
  intro pins s σ H D I h
  refine wpAny_execs_cons (thn (h1 pins s σ H D I h) fun f s1 q=>?_)
  cases f with
  |next=>exact wpAny_execs_nil q
  |ret v=>exact q
  |brk=>exact q
  |cont=>exact q
theorem Inv.quiet{pins:List (Addr×Obj)}{σ:St}{H:Hp}{s:Shared}(I:Inv X pins σ H s):interactive X.env=false:=by simp[interactive,I.ok.kind]
def tDrop(te:TE):TS:=fun D σ H=>te σ H fun _ H1=>D.nx σ H1
theorem zo(he:PE X e te)(hs:swapsWith e none pos.line X.env=pure false:=by rfl):PS X (.Expr e pos) (tDrop te):=by
  intro pins s σ H D I h
  exact wpAny_Expr_any (thn (he pins s σ H _ I h) fun v s1 ⟨x,H1,I1,r1,q1⟩=>⟨σ,H1,I1,q1⟩) I.quiet hs
def tRet(te:TE):TS:=fun D σ H=>te σ H D.rt
theorem zH(he:PE X e te):PS X (.Return (some e) pos) (tRet te):=by
  intro pins s σ H D I h
  exact wpAny_Return_some (thn (he pins s σ H _ I h) fun v s1 ⟨x,H1,I1,r1,q1⟩=>⟨x,σ,H1,I1,r1,q1⟩)
def tIfS(c:TT)(t u:TS):TS:=fun D σ H=>c σ H fun b H1=>if b=true then t D σ H1 else u D σ H1
theorem zf{c:Expr}{a b:List Stmt}{tc:TT}(hc:PT X c tc)(ha:PSs X a t)(hb:PSs X b u):PS X (.If c a b pos) (tIfS tc t u):=by
  intro pins s σ H D I h
  refine wpAny_If (thn (hc pins s σ H _ I h) fun d s1 ⟨H1,I1,q1⟩=>?_)
  cases d with
  |true=>exact ha pins s1 σ H1 D I1 q1
  |false=>exact hb pins s1 σ H1 D I1 q1
end
abbrev TG:=V->St->Hp->(St->Hp->Prop)->Prop
abbrev TGs:=List V->St->Hp->(St->Hp->Prop)->Prop
def PG (X : Cx) (target : Expr) (t : TG) : Prop :=
  ∀ (pins : List (Addr × Obj)) (s : Shared) (σ : St) (H : Hp) (v : V) (u : Value) (Q : St → Hp → Prop), Inv X pins σ H s → RelV v u → t v σ H Q →
    wpAny (model X.prog X.w) X.A (assign target X.env u) (fun _ s'=>∃σ' H',Inv X pins σ' H' s'/\Q σ' H') X.xe s
def PGs (X : Cx) (ts : List Expr) (t : TGs) : Prop :=
  ∀ (pins : List (Addr × Obj)) (s : Shared) (σ : St) (H : Hp) (vs : List V) (us : List Value) (Q : St → Hp → Prop), Inv X pins σ H s → Vals vs us → t vs σ H Q →
    wpAny (model X.prog X.w) X.A (assignInOrder ((assignEach ts X.env).map (·.2)) us) (fun _ s'=>∃σ' H',Inv X pins σ' H' s'/\Q σ' H') X.xe s
abbrev TIp:=V->V->Hp->VK->Prop
def PIp (X : Cx) (op : Operator) (t : TIp) : Prop :=
  ∀ (pins : List (Addr × Obj)) (s : Shared) (σ : St) (H : Hp) (x y : V) (v u : Value) (Q : VK), Inv X pins σ H s → RelV x v → RelV y u → t x y H Q →
    wpAny (model X.prog X.w) X.A (inplaceOp op v u) (EP X pins σ Q) X.xe s
section
variable{X:Cx}{pos:Pos}
def gName(i:Nat):TG:=fun v σ H Q=>Q (σ.set i (some v)) H
theorem zX{i:Nat}{x:Str}(hN:X.N.Nodup)(hi:X.N[i]?=some x)(hx:Loc X.env.scope x)(hf:X.fn x=true\/X.env.scope.names.lookup x=some .local:=by first|exact .inl rfl|exact .inr rfl|assumption):PG X (.Name x pos) (gName i):=by
  intro pins s σ H v u Q I r h
  exact wpAny_assign_Name (Jl I hN hi hx r (fun s' I'=>⟨_,H,I',h⟩) hf)
def gNil:TGs:=fun vs σ H Q=>vs=[]/\Q σ H
def gCons(t:TG)(u:TGs):TGs:=fun vs σ H Q=>∃v r,vs=v::r/\t v σ H fun σ' H'=>u r σ' H' Q
theorem jK:PGs X [] gNil:=by
  intro pins s σ H vs us Q I r h
  obtain⟨e,h⟩:=h
  subst e
  cases r
  exact assignInOrder_nil ⟨σ,H,I,h⟩
theorem ZN{e:Expr}{es:List Expr}{t:TG}{u:TGs}(h1:PG X e t)(h2:PGs X es u)
    (hs:(assignEach (e::es) X.env).map (·.2)=assign e X.env::(assignEach es X.env).map (·.2):=by rfl):PGs X (e::es) (gCons t u):=by
  intro pins s σ H vs us Q I r h
  obtain⟨v,vr,e1,h⟩:=h
  subst e1
  cases r with
  | cons r rr =>
    rw[hs]
    refine assignInOrder_cons (thn (h1 pins s σ H _ _ _ I r h) fun _ s1 ⟨σ1,H1,I1,q1⟩=>?_)
    exact h2 pins s1 σ1 H1 _ _ Q I1 rr q1
def gTup(K:PySem.W.Frag)(n:Nat)(t:TGs):TG:=fun v σ H Q=>∃a xs,v=.ref a/\SqT K H a xs/\xs.length=n/\t xs σ H Q
theorem JG{es:List Expr}{k:Nat}{t:TGs}{n:Nat}(hc:X.calm=true)(h:PGs X es t)
    (hn:(assignEach es X.env).length=n:=by rfl) (hst:(assignEach es X.env).findIdx? (·.1)=none:=by rfl):PG X (.Tuple es k pos) (gTup X.K n t):=by
  intro pins s σ H v u Q I r hw
  obtain⟨a,xs,e1,hq,hl,hw⟩:=hw
  subst e1
  cases r
  obtain⟨its,rv,ht,hz⟩:=I.tuple hq
  refine assign_Tuple_tuple (I.ok.hd hc) ht (by simp[hn,<-hl,rv.length]) hst fun h' hx=>?_
  have I1:Inv X pins σ H { s with heap:=h' }:=I.kept (t':=s.toks) fun b o e=>hx b o (Nat.ne_of_lt (Heap.lt_size e)) e
  exact h pins _ σ H xs _ Q I1 (by simpa using rv) hw
def tAsg(te:TE)(g:TG):TS:=fun D σ H=>te σ H fun x H1=>g x σ H1 D.nx
theorem zG{i:Nat}{x:Str}{e:Expr}{te:TE}{pos':Pos}(hN:X.N.Nodup)(hi:X.N[i]?=some x)(hx:Loc X.env.scope x)(he:PE X e te)(hs:swapsWith e (some (.Name x pos')) pos.line X.env=pure false:=by rfl)(hf:X.fn x=true\/X.env.scope.names.lookup x=some .local:=by first|exact .inl rfl|exact .inr rfl|assumption):
    PS X (.Assign [.Name x pos'] e pos) (tAsg te (gName i)):=by
  intro pins s σ H D I h
  refine wpAny_Assign_Name (thn (he pins s σ H _ I h) fun v s1 ⟨y,H1,I1,r1,q1⟩=>?_) hs
  exact Jl I1 hN hi hx r1 (fun s2 I2=>⟨_,H1,I2,q1⟩) hf
def tAug(i:Nat)(te:TE)(ti:TIp):TS:=fun D σ H=>∃x,σ[i]?=some (some x)/\te σ H fun y H1=>ti x y H1 fun z H2=>D.nx (σ.set i (some z)) H2
theorem ps_aug {i : Nat} {x : Str} {e : Expr} {te : TE} {op : Operator} {ti : TIp} {pos' : Pos} (hN : X.N.Nodup) (hi : X.N[i]? = some x) (hx : Loc X.env.scope x) (he : PE X e te) (ho : PIp X op ti) (hf : X.fn x = true ∨ X.env.scope.names.lookup x = some .local := by first | exact .inl rfl | exact .inr rfl | assumption) :
    PS X (.AugAssign (.Name x pos') op e pos) (tAug i te ti):=by
  intro pins s σ H D I h
  obtain⟨v,e1,h⟩:=h
  obtain⟨m,hn,hl⟩:=I.loc
  have vis:Vis X.env.scope x:=by rcases hx with k|k;exact .inl k;exact .inr (.inl k)
  obtain⟨u,r,l⟩:=hl i x v hi e1 vis
  refine wpAny_AugAssign_Name ?_
  have go:wpAny (model X.prog X.w) X.A (eval e X.env) (fun w s₂=>wpAny (model X.prog X.w) X.A (inplaceOp op u w) (fun r s₃=>wpAny (model X.prog X.w) X.A (storeName X.env x r) (fun _=>SP X pins D .next) X.xe s₃) X.xe s₂) X.xe s:=by
    refine thn (he pins s σ H _ I h) fun w s1 ⟨y,H1,I1,r1,q1⟩=>?_
    refine thn (ho pins s1 σ H1 v y u w _ I1 r r1 q1) fun z s2 ⟨zv,H2,I2,r2,q2⟩=>?_
    exact Jl I2 hN hi hx r2 (fun s3 I3=>⟨_,H2,I3,q2⟩) hf
  rcases l with⟨hk,hm⟩|⟨hk,c,hc,hcell⟩
  . exact wpAny_loadName_local I.ok.kind hk hn hm go
  . rcases hk with hk|hk
    . exact wpAny_loadName_cell I.ok.kind hk hc hcell go
    . rcases hx with k|k
      . have:X.env.scope.names.lookup x=some .free:=hk
        rw[k] at this;cases this
      . have:X.env.scope.names.lookup x=some .free:=hk
        rw[k] at this;cases this
def ipI(f:Int->Int->Int):TIp:=fun x y H Q=>∃i j,x=.int i/\y=.int j/\Q (.int (f i j)) H
theorem J9:PIp X .Add (ipI fun i j=>i+j):=by
  intro pins s σ H x y v u Q I r1 r2 h
  obtain⟨i,j,e1,e2,q⟩:=h
  subst e1;subst e2
  obtain⟨t,rfl⟩:=r1
  obtain⟨t',rfl⟩:=r2
  exact iadd_int ⟨.int _,H,I.tok _,⟨_,rfl⟩,q⟩
end
section
variable{X:Cx}{pos:Pos}
def tWhile(c:TT)(tb:TS):TS:=fun D σ H=>∃W:Nat->St->Hp->Prop,(∃m,W m σ H)/\∀m σ H,W m σ H->
  c σ H fun b H1=>if b=true then ∃N:St->Hp->Prop,(∀σ' H',N σ' H'->∃m',m'<m/\W m' σ' H')/\tb { D with nx:=N,ct:=N,bk:=D.nx } σ H1 else D.nx σ H1
theorem Ju{c:Expr}{body:List Stmt}{tc:TT}{tb:TS}(hp:PassesOwn (model X.prog X.w) X.A X.env X.xe)(hc:PT X c tc)(hb:PSs X body tb):PS X (.While c body [] pos) (tWhile tc tb):=by
  intro pins s σ H D I h
  obtain⟨W,⟨m0,w0⟩,turn⟩:=h
  refine wpAny_While (codeAny_whileLoop (fun n s'=>∃σ' H',Inv X pins σ' H' s'/\W n σ' H') ?_ m0 ⟨σ,H,I,w0⟩)
  rintro n s1 ⟨σ1,H1,I1,w1⟩
  refine wpAny_passesOwn hp (thn (hc pins s1 σ1 H1 _ I1 (turn n σ1 H1 w1)) fun b s2 ⟨H2,I2,q2⟩=>?_)
  cases b with
  | true =>
    obtain⟨N,hN,q2⟩:=q2
    rw[if_pos rfl]
    refine wpAny_passesOwn hp (thn (hb pins s2 σ1 H2 _ I2 q2) fun f s3 q3=>?_)
    cases f with
    | next =>
      obtain⟨σ3,H3,I3,n3⟩:=q3
      obtain⟨m',hm,w3⟩:=hN σ3 H3 n3
      exact⟨m',hm,σ3,H3,I3,w3⟩
    | cont =>
      obtain⟨σ3,H3,I3,n3⟩:=q3
      obtain⟨m',hm,w3⟩:=hN σ3 H3 n3
      exact⟨m',hm,σ3,H3,I3,w3⟩
    |brk=>exact q3
    |ret v=>exact q3
  | false =>
    rw[if_neg Bool.false_ne_true]
    exact wpAny_execs_nil ⟨σ1,H2,I2,q2⟩
end
structure It where
  go:Nat->Hp->Prop
  yld:Nat->Hp->V->Hp->Prop
  stop:Nat->Hp->Prop
def FpOk(X:Cx)(pins:List (Addr×Obj))(H:Hp)(b:Addr):Prop:=
  H b=none/\b≠X.env.locals/\b ∉ X.fs/\(b∈X.ex\/X.s_0.heap.objs.size<=b)/\(∀x c,X.env.cells.lookup x=some c->c≠b)/\∀p∈X.pn++pins,p.1≠b
theorem Inv.fpOk{X:Cx}{pins:List (Addr×Obj)}{σ:St}{H H':Hp}{s:Shared}{b:Addr}(I:Inv X pins σ H s)(hb:s.heap.objs.size<=b)(hn:H' b=none):FpOk X pins H' b:=by
  refine⟨hn,Nat.ne_of_gt (Nat.lt_of_lt_of_le I.lt hb),I.nofs hb,.inr (Nat.le_trans I.sz hb),fun x c e z=>?_,fun p hp z=>?_⟩
  . obtain⟨v,q⟩:=I.cell x c e
    exact absurd (Nat.lt_of_lt_of_le q.lt (by rw[z];exact hb)) (Nat.lt_irrefl _)
  . exact absurd (Nat.lt_of_lt_of_le (Heap.lt_size (I.pin p hp).1) (by rw[z];exact hb)) (Nat.lt_irrefl _)
structure Turn(P:Program)(w:World)(K:PySem.W.Frag)(tg:Expr)(J:It)(fp:List Addr)(it:Addr)(tn:Nat->Heap->Prop):Prop where
  mem:it∈fp
  obj:∀i h,tn i h->∀b∈fp,∃o,h.get? b=some o/\∀v,o.data≠.cell v
  keep:∀i h h',tn i h->(∀b∈fp,∀o,h.get? b=some o->h'.get? b=some o)->tn i h'
  item:∀(X:Cx),X.prog=P->X.w=w->X.K=K->X.calm=true->∀(i:Nat) (pins:List (Addr×Obj)) (s:Shared) (σ:St) (H:Hp) (E:Value->Shared->Prop),Inv X pins σ H s->(∀b∈fp,FpOk X pins H b)->tn i s.heap->J.go i H->
    wpAny (model P w) X.A (pyNext (.ref it)) (fun r s1=>∃u,r=some u/\
      wpAny (model P w) X.A (letOwnedTupleGo tg (.ref it) u) (fun _ s2=>∃x H',Inv X pins σ H' s2/\RelV x u/\J.yld i H x H'/\tn (i+1) s2.heap/\∀b∈fp,H' b=none) E s1) E s
  done:∀(X:Cx),X.prog=P->X.w=w->X.K=K->X.calm=true->∀(i:Nat) (pins:List (Addr×Obj)) (s:Shared) (σ:St) (H:Hp) (E:Value->Shared->Prop),Inv X pins σ H s->(∀b∈fp,FpOk X pins H b)->tn i s.heap->J.stop i H->
    wpAny (model P w) X.A (pyNext (.ref it)) (fun r s1=>r=none/\Inv X pins σ H s1) E s
  self:∀(A:Around) (i:Nat) (s:Shared) (Q:Value->Shared->Prop) (E:Value->Shared->Prop),tn i s.heap->Q (.ref it) s->wpAny (model P w) A (pyIter (.ref it)) Q E s
abbrev TI:=St->Hp->(It->Hp->Prop)->Prop
def PIE(X:Cx)(pins:List (Addr×Obj))(σ:St)(tg:Expr)(R:It->Hp->Prop)(itv:Value)(s2:Shared):Prop:=
  ∃(it:Addr) (fp:List Addr) (tn:Nat->Heap->Prop) (J:It) (H':Hp),itv=.ref it/\Inv X pins σ H' s2/\Turn X.prog X.w X.K tg J fp it tn/\tn 0 s2.heap/\(∀b∈fp,FpOk X pins H' b)/\R J H'
def PI (X : Cx) (tg iter : Expr) (wi : TI) : Prop :=
  ∀ (pins : List (Addr × Obj)) (s : Shared) (σ : St) (H : Hp) (R : It → Hp → Prop), Inv X pins σ H s → wi σ H R →
    wpAny (model X.prog X.w) X.A (eval iter X.env) (fun v s1=>wpAny (model X.prog X.w) X.A (pyIter v) (PIE X pins σ tg R) X.xe s1) X.xe s
theorem go_of {M : Model} {A : Around} {E : Value → Shared → Prop} {s : Shared} {tg : Expr} {it : Addr} {u : Value} {o : Obj} {n : String} {vs : Array Value} {Q : Unit → Shared → Prop} (ho : s.heap.get? it = some o) (hc : o.cls = .type n) (hd : o.data = .fields vs)
    (hn:["enumerate","zip","dict_itemiterator","dict_reverseitemiterator","odict_iterator","itertools.zip_longest","itertools.pairwise"].contains n=false) (hQ:Q () s):wpAny M A (letOwnedTupleGo tg (.ref it) u) Q E s:=by
  unfold letOwnedTupleGo
  cases tg <;> first
    |exact wpAny_pure hQ
    |(cases u<;>first
        |exact wpAny_pure hQ
        | (refine wpAny_bind (wpAny_load ho ?_)
           rw[hc,hd]
           show wpAny M A (if (["enumerate","zip","dict_itemiterator","dict_reverseitemiterator","odict_iterator","itertools.zip_longest","itertools.pairwise"].contains n&&vs[0]?==some (rawInt _))=true then _ else _) Q E s
           rw[if_neg (by intro h;rw[hn,Bool.false_and] at h;cases h)]
           exact wpAny_pure hQ))
def Itl(K:PySem.W.Frag)(a:Addr):It:=
  ⟨fun i H=>∃xs x,SqL K H a xs/\xs[i]?=some x,fun i H x H'=>H'=H/\∀xs,SqL K H a xs->xs[i]?=some x,fun i H=>∃xs,SqL K H a xs/\xs.length<=i⟩
def Itt(K:PySem.W.Frag)(a:Addr):It:=
  ⟨fun i H=>∃xs x,SqT K H a xs/\xs[i]?=some x,fun i H x H'=>H'=H/\∀xs,SqT K H a xs->xs[i]?=some x,fun i H=>∃xs,SqT K H a xs/\xs.length<=i⟩
def Itr(lo:Int)(n:Nat):It:=⟨fun i _=>i<n,fun i H x H'=>H'=H/\x=.int (lo+i),fun i _=>n<=i⟩
theorem turn_list{P:Program}{w:World}{K:PySem.W.Frag}{tg:Expr}(a it:Addr):Turn P w K tg (Itl K a) [it] it (fun i h=>h.IsListIter it a i) where
  mem:=by simp
  obj:=fun i h st b hb=>by
    have e:b=it:=by simpa using hb
    subst e
    obtain⟨o,e,c,d⟩:=st
    exact⟨o,e,fun v z=>by rw[d] at z;cases z⟩
  keep:=fun i h h' st k=>st.at fun o e=>k it (by simp) o e
  item:=by
    intro X hP hw hK hc i pins s σ H E I hf st hg
    subst hP hw hK
    obtain⟨xs,x,hq,hx⟩:=hg
    obtain⟨its,rv,p,hz⟩:=I.list hq
    obtain⟨u,hu,ru⟩:=rv.get hx
    obtain⟨f0,f1,f2,f3,f4,f5⟩:=hf it (by simp)
    refine wpAny_pyNext_list_item st p.isList (x:=u) (by simpa using hu) fun h' st' sb=>?_
    have I1:Inv X pins σ H { s with heap:=h' }:=I.turned (t':=s.toks) (fun b o hb e=>(sb.2 b hb).trans e) f0 f1 f3 f4 f5
    obtain⟨o,e,c,d⟩:=id st'
    exact⟨u,rfl,go_of (s:={ s with heap:=h' }) e c d (by decide) ⟨x,H,I1,ru,⟨rfl,fun ys hy=>by rw[I.list_inj hy hq];exact hx⟩,st',fun b hb=>(hf b hb).1⟩⟩
  done:=by
    intro X hP hw hK hc i pins s σ H E I hf st hg
    subst hP hw hK
    obtain⟨xs,hq,hx⟩:=hg
    obtain⟨its,rv,p,hz⟩:=I.list hq
    obtain⟨f0,f1,f2,f3,f4,f5⟩:=hf it (by simp)
    have hl:=rv.length
    exact wpAny_pyNext_list_end (I.ok.hd hc) st p.isList (by simp;omega) fun h' eb=>⟨rfl,I.turned (t':=s.toks) (fun b o hb e=>eb b o hb e) f0 f1 f3 f4 f5⟩
  self:=fun _ _ _ _ _ st h=>wpAny_pyIter_listiter st h
theorem turn_tuple{P:Program}{w:World}{K:PySem.W.Frag}{tg:Expr}(a it:Addr):Turn P w K tg (Itt K a) [it] it (fun i h=>h.IsTupleIter it a i) where
  mem:=by simp
  obj:=fun i h st b hb=>by
    have e:b=it:=by simpa using hb
    subst e
    obtain⟨o,e,c,d⟩:=st
    exact⟨o,e,fun v z=>by rw[d] at z;cases z⟩
  keep:=fun i h h' st k=>st.at fun o e=>k it (by simp) o e
  item:=by
    intro X hP hw hK hc i pins s σ H E I hf st hg
    subst hP hw hK
    obtain⟨xs,x,hq,hx⟩:=hg
    obtain⟨its,rv,p,hz⟩:=I.tuple hq
    obtain⟨u,hu,ru⟩:=rv.get hx
    obtain⟨f0,f1,f2,f3,f4,f5⟩:=hf it (by simp)
    refine wpAny_pyNext_tuple_item st (show s.heap.IsTuple a its.toArray from p) (x:=u) (by simpa using hu) fun h' st' sb=>?_
    have I1:Inv X pins σ H { s with heap:=h' }:=I.turned (t':=s.toks) (fun b o hb e=>(sb.2 b hb).trans e) f0 f1 f3 f4 f5
    obtain⟨o,e,c,d⟩:=id st'
    exact⟨u,rfl,go_of (s:={ s with heap:=h' }) e c d (by decide) ⟨x,H,I1,ru,⟨rfl,fun ys hy=>by rw[I.tuple_inj hy hq];exact hx⟩,st',fun b hb=>(hf b hb).1⟩⟩
  done:=by
    intro X hP hw hK hc i pins s σ H E I hf st hg
    subst hP hw hK
    obtain⟨xs,hq,hx⟩:=hg
    obtain⟨its,rv,p,hz⟩:=I.tuple hq
    obtain⟨f0,f1,f2,f3,f4,f5⟩:=hf it (by simp)
    have hl:=rv.length
    exact wpAny_pyNext_tuple_end (I.ok.hd hc) st (show s.heap.IsTuple a its.toArray from p) (by simp;omega) fun h' eb=>⟨rfl,I.turned (t':=s.toks) (fun b o hb e=>eb b o hb e) f0 f1 f3 f4 f5⟩
  self:=fun _ _ _ _ _ st h=>wpAny_pyIter_tupleiter st h
theorem turn_range{P:Program}{w:World}{K:PySem.W.Frag}{tg:Expr}(it:Addr)(lo:Int)(n:Nat):Turn P w K tg (Itr lo n) [it] it (fun i h=>IsRangeIter h it (lo+(i:Nat)*1) ((n:Int) - (i:Nat)) 1) where
  mem:=by simp
  obj := fun i h st b hb => by
    have e:b=it:=by simpa using hb
    subst e
    exact⟨_,st,fun v z=>by
      have z':Data.fields _=Data.cell v:=z
      cases z'⟩
  keep:=fun i h h' st k=>k it (by simp) _ st
  item:=by
    intro X hP hw hK hc i pins s σ H E I hf st hg
    subst hP hw hK
    obtain⟨f0,f1,f2,f3,f4,f5⟩:=hf it (by simp)
    have W:=Walks.range (prog:=X.prog) (w:=X.w) (I.ok.hd hc) it lo 1 n
    refine W.item i s _ _ hg st fun v h' tk hv st' kk=>?_
    obtain⟨t,rfl⟩:=hv
    have I1:Inv X pins σ H { s with heap:=h',toks:=tk }:=I.turned (fun b o hb e=>kk b o (by simpa using hb) e) f0 f1 f3 f4 f5
    refine⟨_,rfl,go_of (s:={ s with heap:=h',toks:=tk }) (n:="range_iterator") st' rfl rfl (by decide) ⟨.int (lo+i),H,I1,⟨t,?_⟩,⟨rfl,rfl⟩,st',fun b hb=>(hf b hb).1⟩⟩
    rw[Int.mul_one]
  done:=by
    intro X hP hw hK hc i pins s σ H E I hf st hg
    subst hP hw hK
    obtain⟨f0,f1,f2,f3,f4,f5⟩:=hf it (by simp)
    exact wpAny_pyNext_range_end (I.ok.hd hc) st (by have:n<=i:=hg;omega) fun h' eb=>⟨rfl,I.turned (t':=s.toks) (fun b o hb e=>eb b o hb e) f0 f1 f3 f4 f5⟩
  self:=fun _ _ _ _ _ st h=>wpAny_pyIter_rangeiter st h
end L2
namespace L2
open PySem PySem.Spec PyProof.Rows
section
variable{X:Cx}{tg:Expr}
def iList(K:PySem.W.Frag)(tl:TE):TI:=fun σ H R=>tl σ H fun x H1=>∃a,x=.ref a/\(∃xs,SqL K H1 a xs)/\R (Itl K a) H1
def iTup(K:PySem.W.Frag)(tl:TE):TI:=fun σ H R=>tl σ H fun x H1=>∃a,x=.ref a/\(∃xs,SqT K H1 a xs)/\R (Itt K a) H1
theorem ZL{l:Expr}{tl:TE}(hl:PE X l tl):PI X tg l (iList X.K tl):=by
  intro pins s σ H R I h
  refine thn (hl pins s σ H _ I h) fun v s1 ⟨x,H1,I1,r1,q1⟩=>?_
  obtain⟨a,e,⟨xs,hq⟩,q⟩:=q1
  subst e
  cases r1
  obtain⟨its,rv,p,hz⟩:=I1.list hq
  refine wpAny_pyIter_list p.isList ?_
  refine⟨s1.heap.objs.size,[s1.heap.objs.size],_,_,H1,rfl,I1.kept (t':=s1.toks) fun b o e=>Heap.get?_push_of_some _ e,turn_list a _,⟨_,Heap.get?_push_size _ rfl,rfl,rfl⟩,fun b hb=>?_,q⟩
  have e:b=s1.heap.objs.size:=by simpa using hb
  subst e
  exact I1.fpOk (Nat.le_refl _) (I1.hok.fresh (Nat.le_refl _))
theorem pi_tup{l:Expr}{tl:TE}(hl:PE X l tl):PI X tg l (iTup X.K tl):=by
  intro pins s σ H R I h
  refine thn (hl pins s σ H _ I h) fun v s1 ⟨x,H1,I1,r1,q1⟩=>?_
  obtain⟨a,e,⟨xs,hq⟩,q⟩:=q1
  subst e
  cases r1
  obtain⟨its,rv,p,hz⟩:=I1.tuple hq
  refine wpAny_pyIter_tuple (show s1.heap.IsTuple a its.toArray from p) ?_
  refine⟨s1.heap.objs.size,[s1.heap.objs.size],_,_,H1,rfl,I1.kept (t':=s1.toks) fun b o e=>Heap.get?_push_of_some _ e,turn_tuple a _,⟨_,Heap.get?_push_size _ rfl,rfl,rfl⟩,fun b hb=>?_,q⟩
  have e:b=s1.heap.objs.size:=by simpa using hb
  subst e
  exact I1.fpOk (Nat.le_refl _) (I1.hok.fresh (Nat.le_refl _))
theorem zBI{pins:List (Addr×Obj)}{σ:St}{H:Hp}{s:Shared}{R:It->Hp->Prop}{E:Value->Shared->Prop}{lo hi:Int}{t u v:Tok}{tk:Nat}(I:Inv X pins σ H s)(h1 : -(2^62)<=lo)(h2:lo<2^62)(h3 : -(2^62)<=hi)(h4:hi<2^62)
    (q:R (Itr lo (hi - lo).toNat) H):wpAny (model X.prog X.w) X.A (pyIter (.ref s.heap.objs.size)) (PIE X pins σ tg R) E { s with heap:=s.heap.push { cls:=.type "range",data:=.fields #[.int lo t,.int hi u,.int 1 v] },toks:=tk }:=by
  refine wpAny_pyIter_range (IsRange.new ..) (small_one h1 h2 h3 h4) ?_
  have I1:Inv X pins σ H { s with heap:=s.heap.push { cls:=.type "range",data:=.fields #[.int lo t,.int hi u,.int 1 v] },toks:=tk }:=I.kept fun b o e=>Heap.get?_push_of_some _ e
  refine⟨(s.heap.push { cls:=.type "range",data:=.fields #[.int lo t,.int hi u,.int 1 v] }).objs.size,[(s.heap.push { cls:=.type "range",data:=.fields #[.int lo t,.int hi u,.int 1 v] }).objs.size],_,_,H,rfl,
    I1.kept (t':=tk) fun b o e=>Heap.get?_push_of_some _ e,turn_range _ lo (hi - lo).toNat,?_,fun b hb=>?_,q⟩
  . have e1:lo+((0:Nat):Int)*1=lo:=by simp
    have e2:(((hi - lo).toNat:Nat):Int) - ((0:Nat):Int)=Builtin.Range.rangeSize lo hi 1:=by rw[rangeSize_one];split<;>omega
    show IsRangeIter _ _ (lo+((0:Nat):Int)*1) ((((hi - lo).toNat:Nat):Int) - ((0:Nat):Int)) 1
    rw[e1,e2]
    exact Heap.get?_push_size _ rfl
  . have e:b=(s.heap.push { cls:=.type "range",data:=.fields #[.int lo t,.int hi u,.int 1 v] }).objs.size:=by simpa using hb
    subst e
    exact I1.fpOk (Nat.le_refl _) (I1.hok.fresh (Nat.le_refl _))
def iRng1(ta:TA):TI:=fun σ H R=>ta σ H fun vs H1=>∃j:Int,vs=[.int j] /\ -(2^62)<=j/\j<2^62/\R (Itr 0 j.toNat) H1
def iRng2(ta:TA):TI:=fun σ H R=>ta σ H fun vs H1=>∃i j:Int,vs=[.int i,.int j]/\(-(2^62)<=i/\i<2^62 /\ -(2^62)<=j/\j<2^62)/\R (Itr i (j - i).toNat) H1
theorem JF{a:Expr}{ta:TA}{p pos:Pos}(hg:Gl X "range")(hm:X.mg "range"=none)(ha:PA X [a] ta)(hs:starEach [a] X.env=[(false,eval a X.env)]:=by rfl):PI X tg (.Call (.Name "range" p) [a] [] pos) (iRng1 ta):=by
  intro pins s σ H R I h
  refine Call_ (zBB I hg hm boot_range (PyProof.Rows.callWith_type1 (thn (ha pos pins s σ H _ I h) fun us s1 ⟨vs,H1,I1,r1,q1⟩=>?_) hs rfl))
  obtain⟨j,e,q1,q2,q⟩:=q1
  subst e
  cases r1 with
  | cons r rr =>
    cases rr
    obtain⟨t,rfl⟩:=r
    exact call_range_1 (zBI I1 (by omega) (by omega) q1 q2 (by simpa using q))
theorem QX{a b:Expr}{ta:TA}{p pos:Pos}(hg:Gl X "range")(hm:X.mg "range"=none)(ha:PA X [a,b] ta)(hs:starEach [a,b] X.env=[(false,eval a X.env),(false,eval b X.env)]:=by rfl)(hs2:starEach [b] X.env=[(false,eval b X.env)]:=by rfl):
    PI X tg (.Call (.Name "range" p) [a,b] [] pos) (iRng2 ta):=by
  intro pins s σ H R I h
  refine Call_ (zBB I hg hm boot_range (PyProof.Rows.callWith_type1 (thn (ha pos pins s σ H _ I h) fun us s1 ⟨vs,H1,I1,r1,q1⟩=>?_) (by rw[hs,hs2]) (by rw[hs2];rfl)))
  obtain⟨i,j,e,⟨q1,q2,q3,q4⟩,q⟩:=q1
  subst e
  cases r1 with
  | cons r rr =>
    cases rr with
    | cons r' rr =>
      cases rr
      obtain⟨t,rfl⟩:=r
      obtain⟨t',rfl⟩:=r'
      exact call_range_2 (zBI I1 q1 q2 q3 q4 q)
def tFor(wi:TI)(g:TG)(tb:TS):TS:=fun D σ H=>wi σ H fun J H1=>∃W:Nat->Nat->St->Hp->Prop,(∃m,W 0 m σ H1)/\∀i m σ H,W i m σ H->
  (J.stop i H/\D.nx σ H)\/(J.go i H/\∃N:St->Hp->Prop,(∀σ' H',N σ' H'->∃m',m'<m/\W (i+1) m' σ' H')/\∀x H',J.yld i H x H'->g x σ H' fun σ2 H2=>tb { D with nx:=N,ct:=N,bk:=D.nx } σ2 H2)
def pinsAt(fp:List Addr)(h:Heap):List (Addr×Obj):=fp.filterMap fun b=>(h.get? b).map fun o=>(b,o)
theorem jm{fp:List Addr}{h:Heap}{b:Addr}{o:Obj}(hb:b∈fp)(e:h.get? b=some o):(b,o)∈pinsAt fp h:=List.mem_filterMap.mpr ⟨b,hb,by rw[e];rfl⟩
theorem of_pinsAt{fp:List Addr}{h:Heap}{p:Addr×Obj}(hp:p∈pinsAt fp h):p.1∈fp/\h.get? p.1=some p.2:=by
  obtain⟨b,hb,e⟩:=List.mem_filterMap.mp hp
  cases q:h.get? b with
  |none=>rw[q] at e;cases e
  | some o =>
    rw[q] at e
    have e':(b,o)=p:=Option.some.inj e
    subst e'
    exact⟨hb,q⟩
theorem Inv.pinned{pins:List (Addr×Obj)}{σ:St}{H:Hp}{s:Shared}{fp:List Addr}(I:Inv X pins σ H s)(hf:∀b∈fp,FpOk X pins H b)(ho:∀b∈fp,∃o,s.heap.get? b=some o/\∀v,o.data≠.cell v):Inv X (pins++pinsAt fp s.heap) σ H s:=
  I.pins_of fun p hp=>(List.mem_append.mp hp).elim (fun z=>I.pin p (List.mem_append_right _ z)) fun z=>by
    obtain⟨hb,e⟩:=of_pinsAt z
    obtain⟨f0,f1,f2,_⟩:=hf p.1 hb
    obtain⟨o,e',d⟩:=ho p.1 hb
    rw[e] at e';cases e'
    exact⟨e,f0,f1,f2,d⟩
theorem Inv.unpinned{pins pl:List (Addr×Obj)}{σ:St}{H:Hp}{s:Shared}(I:Inv X (pins++pl) σ H s):Inv X pins σ H s:=I.pins_of fun p hp=>I.pin p (List.mem_append_right _ (List.mem_append_left _ hp))
theorem ZQ{iter:Expr}{body:List Stmt}{wi:TI}{g:TG}{tb:TS}{pos:Pos}(hp:PassesOwn (model X.prog X.w) X.A X.env X.xe)(hc:X.calm=true)(hi:PI X tg iter wi)(hg:PG X tg g)(hb:PSs X body tb)
    (hs:∀x,foldedSetIterable iter X.env x=pure x:=by intro _;rfl):PS X (.For tg iter body [] pos) (tFor wi g tb):=by
  intro pins s σ H D I h
  refine wpAny_For (thn (hi pins s σ H _ I h) fun v s1 h1=>thn h1 fun itv s2 h2=>?_) hs
  obtain⟨it,fp,tn,J,H2,e,I2,T,st2,f2,W,⟨m0,w0⟩,turn⟩:=h2
  subst e
  have stat:∀{H':Hp},(∀b∈fp,H' b=none)->∀b∈fp,FpOk X pins H' b:=fun hn b hb=>⟨hn b hb,(f2 b hb).2⟩
  refine codeAny_forLoop_any (fun n s'=>∃i σ' H',Inv X pins σ' H' s'/\tn i s'.heap/\(∀b∈fp,H' b=none)/\W i n σ' H') ?_ m0 ⟨0,σ,H2,I2,st2,fun b hb=>(f2 b hb).1,w0⟩
  rintro n s3 ⟨i,σ3,H3,I3,st3,fr3,w3⟩
  rcases turn i n σ3 H3 w3 with⟨stop,qn⟩|⟨go,N,hN,step⟩
  . refine wpAny_passesOwn hp (thn (T.done X rfl rfl rfl hc i pins s3 σ3 H3 X.xe I3 (stat fr3) st3 stop) fun r s4 ⟨hr,I4⟩=>?_)
    subst hr
    exact wpAny_execs_nil ⟨σ3,H3,I4,qn⟩
  . refine wpAny_passesOwn hp (thn (T.item X rfl rfl rfl hc i pins s3 σ3 H3 X.xe I3 (stat fr3) st3 go) fun r s4 ⟨u,hr,h4⟩=>?_)
    subst hr
    refine wpAny_passesOwn hp (thn h4 fun _ s5 ⟨x,H5,I5,r5,y5,st5,fr5⟩=>?_)
    have I5':=I5.pinned (stat fr5) (T.obj _ _ st5)
    refine wpAny_passesOwn hp (thn (hg _ s5 σ3 H5 x u _ I5' r5 (step x H5 y5)) fun _ s6 ⟨σ6,H6,I6,q6⟩=>?_)
    refine wpAny_passesOwn hp (thn (hb _ s6 σ6 H6 _ I6 q6) fun f s7 q7=>?_)
    have again:∀{σ7:St} {H7:Hp},Inv X (pins++pinsAt fp s5.heap) σ7 H7 s7->N σ7 H7->∃m,m<n/\∃i σ' H',Inv X pins σ' H' s7/\tn i s7.heap/\(∀b∈fp,H' b=none)/\W i m σ' H':=fun {σ7 H7} I7 n7=>by
      obtain⟨m',hm,w7⟩:=hN σ7 H7 n7
      refine⟨m',hm,i+1,σ7,H7,I7.unpinned,T.keep _ _ _ st5 fun b hb o e=>(I7.pin (b,o) (List.mem_append_right _ (List.mem_append_right _ (jm hb e)))).1,fun b hb=>?_,w7⟩
      obtain⟨o,e,d⟩:=T.obj _ _ st5 b hb
      exact(I7.pin (b,o) (List.mem_append_right _ (List.mem_append_right _ (jm hb e)))).2.1
    cases f with
    |next=>obtain⟨σ7,H7,I7,n7⟩:=q7;exact again I7 n7
    |cont=>obtain⟨σ7,H7,I7,n7⟩:=q7;exact again I7 n7
    |brk=>obtain⟨σ7,H7,I7,q7⟩:=q7;exact⟨σ7,H7,I7.unpinned,q7⟩
    |ret v=>obtain⟨x7,σ7,H7,I7,r7,q7⟩:=q7;exact⟨x7,σ7,H7,I7.unpinned,r7,q7⟩
end
theorem for_list{K:PySem.W.Frag}{a:Addr}{xs:List V}{g:TG}{tb:TS}{D:Ends}{σ:St}{H:Hp}(Pv:Nat->St->Hp->Prop)(h0:Pv 0 σ H)(hl:∀i σ H,i<=xs.length->Pv i σ H->SqL K H a xs)
    (hs:∀i x σ H,xs[i]?=some x->Pv i σ H->g x σ H fun σ2 H2=>tb { D with nx:=Pv (i+1),ct:=Pv (i+1),bk:=D.nx } σ2 H2) (hd:∀σ H,Pv xs.length σ H->D.nx σ H):
    ∃ W : Nat → Nat → St → Hp → Prop, (∃ m, W 0 m σ H) ∧ ∀ i m σ H, W i m σ H →
      ((Itl K a).stop i H/\D.nx σ H)\/((Itl K a).go i H/\∃N:St->Hp->Prop,(∀σ' H',N σ' H'->∃m',m'<m/\W (i+1) m' σ' H')/\∀x H',(Itl K a).yld i H x H'->g x σ H' fun σ2 H2=>tb { D with nx:=N,ct:=N,bk:=D.nx } σ2 H2):=by
  refine⟨fun i m σ H=>m=xs.length - i/\i<=xs.length/\Pv i σ H,⟨xs.length,by simp,Nat.zero_le _,h0⟩,?_⟩
  rintro i m σ H ⟨rfl,hi,p⟩
  have q:=hl i σ H hi p
  by_cases hlt:i<xs.length
  . refine .inr ⟨⟨xs,xs[i],q,by simp[hlt]⟩,Pv (i+1),fun σ' H' p'=>⟨xs.length - (i+1),by omega,rfl,hlt,p'⟩,fun x H' y=>?_⟩
    obtain⟨e,y⟩:=y
    subst e
    exact hs i x σ _ (y xs q) p
  . have e:i=xs.length:=by omega
    subst e
    exact .inl ⟨⟨xs,q,Nat.le_refl _⟩,hd σ H p⟩
theorem for_tup{K:PySem.W.Frag}{a:Addr}{xs:List V}{g:TG}{tb:TS}{D:Ends}{σ:St}{H:Hp}(Pv:Nat->St->Hp->Prop)(h0:Pv 0 σ H)(hl:∀i σ H,i<=xs.length->Pv i σ H->SqT K H a xs)
    (hs:∀i x σ H,xs[i]?=some x->Pv i σ H->g x σ H fun σ2 H2=>tb { D with nx:=Pv (i+1),ct:=Pv (i+1),bk:=D.nx } σ2 H2) (hd:∀σ H,Pv xs.length σ H->D.nx σ H):
    ∃ W : Nat → Nat → St → Hp → Prop, (∃ m, W 0 m σ H) ∧ ∀ i m σ H, W i m σ H →
      ((Itt K a).stop i H/\D.nx σ H)\/((Itt K a).go i H/\∃N:St->Hp->Prop,(∀σ' H',N σ' H'->∃m',m'<m/\W (i+1) m' σ' H')/\∀x H',(Itt K a).yld i H x H'->g x σ H' fun σ2 H2=>tb { D with nx:=N,ct:=N,bk:=D.nx } σ2 H2):=by
  refine⟨fun i m σ H=>m=xs.length - i/\i<=xs.length/\Pv i σ H,⟨xs.length,by simp,Nat.zero_le _,h0⟩,?_⟩
  rintro i m σ H ⟨rfl,hi,p⟩
  have q:=hl i σ H hi p
  by_cases hlt:i<xs.length
  . refine .inr ⟨⟨xs,xs[i],q,by simp[hlt]⟩,Pv (i+1),fun σ' H' p'=>⟨xs.length - (i+1),by omega,rfl,hlt,p'⟩,fun x H' y=>?_⟩
    obtain⟨e,y⟩:=y
    subst e
    exact hs i x σ _ (y xs q) p
  . have e:i=xs.length:=by omega
    subst e
    exact .inl ⟨⟨xs,q,Nat.le_refl _⟩,hd σ H p⟩
theorem for_range{lo:Int}{n:Nat}{g:TG}{tb:TS}{D:Ends}{σ:St}{H:Hp}(Pv:Nat->St->Hp->Prop)(h0:Pv 0 σ H)
    (hs:∀i σ H,i<n->Pv i σ H->g (.int (lo+i)) σ H fun σ2 H2=>tb { D with nx:=Pv (i+1),ct:=Pv (i+1),bk:=D.nx } σ2 H2) (hd:∀σ H,Pv n σ H->D.nx σ H):
    ∃ W : Nat → Nat → St → Hp → Prop, (∃ m, W 0 m σ H) ∧ ∀ i m σ H, W i m σ H →
      ((Itr lo n).stop i H/\D.nx σ H)\/((Itr lo n).go i H/\∃N:St->Hp->Prop,(∀σ' H',N σ' H'->∃m',m'<m/\W (i+1) m' σ' H')/\∀x H',(Itr lo n).yld i H x H'->g x σ H' fun σ2 H2=>tb { D with nx:=N,ct:=N,bk:=D.nx } σ2 H2):=by
  refine⟨fun i m σ H=>m=n - i/\i<=n/\Pv i σ H,⟨n,by simp,Nat.zero_le _,h0⟩,?_⟩
  rintro i m σ H ⟨rfl,hi,p⟩
  by_cases hlt:i<n
  . refine .inr ⟨hlt,Pv (i+1),fun σ' H' p'=>⟨n - (i+1),by omega,rfl,hlt,p'⟩,fun x H' y=>?_⟩
    obtain⟨e,y⟩:=y
    subst e y
    exact hs i σ _ hlt p
  . have e:i=n:=by omega
    subst e
    exact .inl ⟨Nat.le_refl _,hd σ H p⟩
theorem Ji{c:TT}{tb:TS}{D:Ends}{σ:St}{H:Hp}(Pv:St->Hp->Prop)(μ:St->Hp->Nat)(h0:Pv σ H)
    (hs:∀σ H,Pv σ H->c σ H fun b H1=>if b=true then tb { D with nx:=fun σ' H'=>Pv σ' H'/\μ σ' H'<μ σ H,ct:=fun σ' H'=>Pv σ' H'/\μ σ' H'<μ σ H,bk:=D.nx } σ H1 else D.nx σ H1)
    (mono:∀σ H Q Q',(∀b H1,Q b H1->Q' b H1)->c σ H Q->c σ H Q'):tWhile c tb D σ H:=by
  refine⟨fun m σ H=>m=μ σ H/\Pv σ H,⟨_,rfl,h0⟩,?_⟩
  rintro m σ H ⟨rfl,p⟩
  refine mono σ H _ _ (fun b H1 q=>?_) (hs σ H p)
  cases b with
  |true=>exact⟨_,fun σ' H' ⟨p',l⟩=>⟨_,l,rfl,p'⟩,q⟩
  |false=>exact q
end L2
namespace L2
open PySem PySem.Spec PyProof.Rows
abbrev R2:=V->V->Hp->VK->Prop
def OpR (X : Cx) (f : Value → Value → Sem Value) (r : R2) : Prop :=
  ∀ (pins : List (Addr × Obj)) (s : Shared) (σ : St) (H : Hp) (x y : V) (v u : Value) (Q : VK), Inv X pins σ H s → RelV x v → RelV y u → r x y H Q →
    wpAny (model X.prog X.w) X.A (f v u) (EP X pins σ Q) X.xe s
def UnR (X : Cx) (f : Value → Sem Value) (r : V → Hp → VK → Prop) : Prop :=
  ∀ (pins : List (Addr × Obj)) (s : Shared) (σ : St) (H : Hp) (x : V) (v : Value) (Q : VK), Inv X pins σ H s → RelV x v → r x H Q →
    wpAny (model X.prog X.w) X.A (f v) (EP X pins σ Q) X.xe s
def CallR (X : Cx) (f : Value) (r : List V → Hp → VK → Prop) : Prop :=
  ∀ (pins : List (Addr × Obj)) (s : Shared) (σ : St) (H : Hp) (xs : List V) (us : List Value) (Q : VK), Inv X pins σ H s → Vals xs us → r xs H Q →
    wpAny (model X.prog X.w) X.A (call f us) (EP X pins σ Q) X.xe s
def TruR (X : Cx) (r : V → Hp → (Bool → Hp → Prop) → Prop) : Prop :=
  ∀ (pins : List (Addr × Obj)) (s : Shared) (σ : St) (H : Hp) (x : V) (v : Value) (Q : Bool → Hp → Prop), Inv X pins σ H s → RelV x v → r x H Q →
    wpAny (model X.prog X.w) X.A (truthy v) (TP X pins σ Q) X.xe s
def tOp(r:R2)(ta tb:TE):TE:=fun σ H Q=>ta σ H fun x H1=>tb σ H1 fun y H2=>r x y H2 Q
def tUn(r:V->Hp->VK->Prop)(ta:TE):TE:=fun σ H Q=>ta σ H fun x H1=>r x H1 Q
def rI(C:Int->Int->Prop)(g:Int->Int->V):R2:=fun x y H Q=>∃i j,x=.int i/\y=.int j/\C i j/\Q (g i j) H
def rI0(g:Int->Int->V):R2:=fun x y H Q=>∃i j,x=.int i/\y=.int j/\Q (g i j) H
def rU(g:Int->V):V->Hp->VK->Prop:=fun x H Q=>∃i,x=.int i/\Q (g i) H
section
variable{X:Cx}{a b c:Expr}{ta tb tc:TE}{pos:Pos}
theorem binT(ha:PE X a ta)(hb:PE X b tb){pins:List (Addr×Obj)}{s:Shared}{σ:St}{H:Hp}{R:V->V->Hp->Prop}(I:Inv X pins σ H s)
    (h:ta σ H fun x H1=>tb σ H1 fun y H2=>R x y H2) {Q:Value->Shared->Prop} {f:Value->Value->Sem Value}
    (hf:∀v u s2 x y H2,Inv X pins σ H2 s2->RelV x v->RelV y u->R x y H2->wpAny (model X.prog X.w) X.A (f v u) Q X.xe s2):
    wpAny (model X.prog X.w) X.A (eval a X.env) (fun v s₁=>wpAny (model X.prog X.w) X.A (eval b X.env) (fun u s₂=>wpAny (model X.prog X.w) X.A (f v u) Q X.xe s₂) X.xe s₁) X.xe s:=by
  refine thn (ha pins s σ H _ I h) fun v s1 ⟨x,H1,I1,r1,q1⟩=>?_
  refine thn (hb pins s1 σ H1 _ I1 q1) fun u s2 ⟨y,H2,I2,r2,q2⟩=>?_
  exact hf v u s2 x y H2 I2 r1 r2 q2
theorem zK{op:Operator}{r:R2}(ho:OpR X (binaryOp op) r)(ha:PE X a ta)(hb:PE X b tb):PE X (.BinOp a op b pos) (tOp r ta tb):=by
  intro pins s σ H Q I h
  exact wpAny_BinOp (binT ha hb I h fun v u s2 x y H2 I2 rx ry q=>ho pins s2 σ H2 x y v u Q I2 rx ry q)
theorem zAV{op:UnaryOp}{r:V->Hp->VK->Prop}(ho:UnR X (unaryOp op) r)(ha:PE X a ta):PE X (.UnaryOp op a pos) (tUn r ta):=by
  intro pins s σ H Q I h
  exact UnaryOp_ (thn (ha pins s σ H _ I h) fun v s1 ⟨x,H1,I1,r1,q1⟩=>ho pins s1 σ H1 x v Q I1 r1 q1)
theorem opI{f:Value->Value->Sem Value}{C:Int->Int->Prop}{g:Int->Int->Int}
    (rule:∀(i j:Int) (t u:Tok) (s:Shared) (Q:Value->Shared->Prop) (E:Value->Shared->Prop),C i j->Q (.int (g i j) s.toks) { s with toks:=s.toks+1 }->wpAny (model X.prog X.w) X.A (f (.int i t) (.int j u)) Q E s):
    OpR X f (rI C fun i j=>.int (g i j)):=by
  intro pins s σ H x y v u Q I rx ry h
  obtain⟨i,j,rfl,rfl,hc,q⟩:=h
  obtain⟨t,rfl⟩:=rx
  obtain⟨t',rfl⟩:=ry
  exact rule i j t t' s _ _ hc ⟨.int (g i j),H,I.tok _,⟨_,rfl⟩,q⟩
theorem opI0{f:Value->Value->Sem Value}{g:Int->Int->Int}
    (rule:∀(i j:Int) (t u:Tok) (s:Shared) (Q:Value->Shared->Prop) (E:Value->Shared->Prop),Q (.int (g i j) s.toks) { s with toks:=s.toks+1 }->wpAny (model X.prog X.w) X.A (f (.int i t) (.int j u)) Q E s):
    OpR X f (rI0 fun i j=>.int (g i j)):=by
  intro pins s σ H x y v u Q I rx ry h
  obtain⟨i,j,rfl,rfl,q⟩:=h
  obtain⟨t,rfl⟩:=rx
  obtain⟨t',rfl⟩:=ry
  exact rule i j t t' s _ _ ⟨.int (g i j),H,I.tok _,⟨_,rfl⟩,q⟩
theorem opB0{f:Value->Value->Sem Value}{g:Int->Int->Bool}
    (rule:∀(i j:Int) (t u:Tok) (s:Shared) (Q:Value->Shared->Prop) (E:Value->Shared->Prop),Q (.bool (g i j)) s->wpAny (model X.prog X.w) X.A (f (.int i t) (.int j u)) Q E s):
    OpR X f (rI0 fun i j=>.bl (g i j)):=by
  intro pins s σ H x y v u Q I rx ry h
  obtain⟨i,j,rfl,rfl,q⟩:=h
  obtain⟨t,rfl⟩:=rx
  obtain⟨t',rfl⟩:=ry
  exact rule i j t t' s _ _ ⟨.bl (g i j),H,I,rfl,q⟩
def CDiv(i j:Int):Prop:=0<j/\j<1073741824
def CMul(i j:Int):Prop:=(-(2^64)<i/\i<2^64)\/(-(2^64)<j/\j<2^64)
theorem CMul.ok{i j:Int}(h:CMul i j):IntMulOk i j:=by
  rcases h with⟨h1,h2⟩|⟨h1,h2⟩
  . exact .of_left (intBits_le_64 h1 h2)
  . exact .of_right (intBits_le_64 h1 h2)
theorem zW:OpR X (binaryOp .Add) (rI0 fun i j=>.int (i+j)):=opI0 fun _ _ _ _ _ _ _ q=>add_int q
theorem ZR:OpR X (binaryOp .Sub) (rI0 fun i j=>.int (i - j)):=opI0 fun _ _ _ _ _ _ _ q=>sub_int q
theorem ZF:OpR X (binaryOp .Mult) (rI CMul fun i j=>.int (i*j)):=opI fun _ _ _ _ _ _ _ hc q=>mul_int q hc.ok
theorem QH:OpR X (binaryOp .FloorDiv) (rI CDiv fun i j=>.int (i / j)):=opI fun i j _ _ _ _ _ hc q=>by
  have h1:(0:Int)<j:=hc.1
  have h2:j<1073741824:=hc.2
  exact floordiv_int (by omega) (by rw[Int.fdiv_eq_ediv_of_nonneg i (by omega)];exact q) (.inl (PyProof.noPylong_small (by omega)))
theorem QA:OpR X (binaryOp .Mod) (rI (fun _ j=>0<j) fun i j=>.int (i%j)):=opI fun i j _ _ _ _ _ hc q=>by
  have h1:(0:Int)<j:=hc
  exact mod_int' (by omega) (by rw[Int.fmod_eq_emod_of_nonneg i (by omega)];exact q)
theorem unI{f:Value->Sem Value}{g:Int->Int}
    (rule:∀(i:Int) (t:Tok) (s:Shared) (Q:Value->Shared->Prop) (E:Value->Shared->Prop),Q (.int (g i) s.toks) { s with toks:=s.toks+1 }->wpAny (model X.prog X.w) X.A (f (.int i t)) Q E s):
    UnR X f (rU fun i=>.int (g i)):=by
  intro pins s σ H x v Q I rx h
  obtain⟨i,rfl,q⟩:=h
  obtain⟨t,rfl⟩:=rx
  exact rule i t s _ _ ⟨.int (g i),H,I.tok _,⟨_,rfl⟩,q⟩
theorem j7:UnR X (unaryOp .USub) (rU fun i=>.int (-i)):=unI fun _ _ _ _ _ q=>neg_int q
end
def scal:V->V->Bool
  |.non,.non=>true | .non,.int _=>true | .int _,.non=>true | .non,.bl _=>true | .bl _,.non=>true | .non,.str _=>true | .str _,.non=>true
  |.int _,.int _=>true | .bl _,.bl _=>true | .str _,.str _=>true | .byt _,.byt _=>true
  |.int _,.str _=>true | .str _,.int _=>true | .bl _,.str _=>true | .str _,.bl _=>true
  |_,_=>false
def rEq:R2:=fun x y H Q=>scal x y=true/\Q (.bl (decide (x=y))) H
def rNe:R2:=fun x y H Q=>scal x y=true/\Q (.bl (!decide (x=y))) H
theorem Jd{i j:Int}:decide (V.int i=V.int j)=(i==j):=by
  rw[Bool.eq_iff_iff]
  simp
theorem zCV{i j:Bool}:decide (V.bl i=V.bl j)=(i==j):=by
  rw[Bool.eq_iff_iff]
  simp
theorem zBx{i j:Str}:decide (V.str i=V.str j)=(i==j):=by
  rw[Bool.eq_iff_iff]
  simp
theorem zBy{i j:Array UInt8}:decide (V.byt i=V.byt j)=(i.toList==j.toList):=by
  rw[Bool.eq_iff_iff]
  cases i
  cases j
  simp
section
variable{X:Cx}{a b c:Expr}{ta tb tc:TE}{pos:Pos}
theorem zj{pins:List (Addr×Obj)}{σ:St}{H:Hp}{s:Shared}{Q:VK}{k k':Bool}(I:Inv X pins σ H s)(q:Q (.bl k) H)(e:k=k'):EP X pins σ Q (.bool k') s:=by
  subst e
  exact⟨.bl k,H,I,rfl,q⟩
theorem zCQ:OpR X (compareOp .Eq) rEq:=by
  intro pins s σ H x y v u Q I rx ry h
  obtain⟨hs,q⟩:=h
  cases x with
  | non =>
    cases rx
    cases y with
    |non=>cases ry;exact PySem.EqNone.eq_none_none (zj I q (by simp))
    |bl j=>cases ry;exact PySem.EqNone.eq_none_bool (zj I q (by simp))
    |int j=>obtain⟨t',rfl⟩:=ry;exact PySem.EqNone.eq_none_int (zj I q (by simp))
    |str j=>obtain⟨t',rfl⟩:=ry;exact PySem.EqNone.eq_none_str (zj I q (by simp))
    |_=>exact absurd (show false=true from hs) Bool.false_ne_true
  | bl i =>
    cases rx
    cases y with
    |non=>cases ry;exact PySem.EqNone.eq_bool_none (zj I q (by simp))
    |bl j=>cases ry;exact eq_bool (zj I q zCV)
    |str j=>obtain⟨t',rfl⟩:=ry;exact PySem.EqMixed.eq_bool_str (zj I q (by simp))
    |_=>exact absurd (show false=true from hs) Bool.false_ne_true
  | int i =>
    obtain⟨t,rfl⟩:=rx
    cases y with
    |non=>cases ry;exact PySem.EqNone.eq_int_none (zj I q (by simp))
    |int j=>obtain⟨t',rfl⟩:=ry;exact eq_int (zj I q Jd)
    |str j=>obtain⟨t',rfl⟩:=ry;exact PySem.EqMixed.eq_int_str (zj I q (by simp))
    |_=>exact absurd (show false=true from hs) Bool.false_ne_true
  | str i =>
    obtain⟨t,rfl⟩:=rx
    cases y with
    |non=>cases ry;exact PySem.EqNone.eq_str_none (zj I q (by simp))
    |bl j=>cases ry;exact PySem.EqMixed.eq_str_bool (zj I q (by simp))
    |int j=>obtain⟨t',rfl⟩:=ry;exact PySem.EqMixed.eq_str_int (zj I q (by simp))
    |str j=>obtain⟨t',rfl⟩:=ry;exact eq_str (zj I q zBx)
    |_=>exact absurd (show false=true from hs) Bool.false_ne_true
  | byt i =>
    obtain⟨t,rfl⟩:=rx
    cases y with
    |byt j=>obtain⟨t',rfl⟩:=ry;exact PySem.W.eq_bytes (zj I q zBy)
    |_=>exact absurd (show false=true from hs) Bool.false_ne_true
  |_=>cases y<;>exact absurd (show false=true from hs) Bool.false_ne_true
theorem op_ne:OpR X (compareOp .NotEq) rNe:=by
  intro pins s σ H x y v u Q I rx ry h
  obtain⟨hs,q⟩:=h
  cases x with
  | non =>
    cases rx
    cases y with
    |non=>cases ry;exact PySem.EqNone.ne_none_none (zj I q (by simp))
    |bl j=>cases ry;exact PySem.EqNone.ne_none_bool (zj I q (by simp))
    |int j=>obtain⟨t',rfl⟩:=ry;exact PySem.EqNone.ne_none_int (zj I q (by simp))
    |str j=>obtain⟨t',rfl⟩:=ry;exact PySem.EqNone.ne_none_str (zj I q (by simp))
    |_=>exact absurd (show false=true from hs) Bool.false_ne_true
  | bl i =>
    cases rx
    cases y with
    |non=>cases ry;exact PySem.EqNone.ne_bool_none (zj I q (by simp))
    |bl j=>cases ry;exact ne_bool (zj I q (congrArg not zCV))
    |str j=>obtain⟨t',rfl⟩:=ry;exact PySem.EqMixed.ne_bool_str (zj I q (by simp))
    |_=>exact absurd (show false=true from hs) Bool.false_ne_true
  | int i =>
    obtain⟨t,rfl⟩:=rx
    cases y with
    |non=>cases ry;exact PySem.EqNone.ne_int_none (zj I q (by simp))
    |int j=>obtain⟨t',rfl⟩:=ry;exact ne_int (zj I q (congrArg not Jd))
    |str j=>obtain⟨t',rfl⟩:=ry;exact PySem.EqMixed.ne_int_str (zj I q (by simp))
    |_=>exact absurd (show false=true from hs) Bool.false_ne_true
  | str i =>
    obtain⟨t,rfl⟩:=rx
    cases y with
    |non=>cases ry;exact PySem.EqNone.ne_str_none (zj I q (by simp))
    |bl j=>cases ry;exact PySem.EqMixed.ne_str_bool (zj I q (by simp))
    |int j=>obtain⟨t',rfl⟩:=ry;exact PySem.EqMixed.ne_str_int (zj I q (by simp))
    |str j=>obtain⟨t',rfl⟩:=ry;exact ne_str (zj I q (congrArg not zBx))
    |_=>exact absurd (show false=true from hs) Bool.false_ne_true
  | byt i =>
    obtain⟨t,rfl⟩:=rx
    cases y with
    |byt j=>obtain⟨t',rfl⟩:=ry;exact PySem.W.ne_bytes (zj I q (congrArg not zBy))
    |_=>exact absurd (show false=true from hs) Bool.false_ne_true
  |_=>cases y<;>exact absurd (show false=true from hs) Bool.false_ne_true
theorem jT:OpR X (compareOp .Lt) (rI0 fun i j=>.bl (decide (i<j))):=opB0 fun _ _ _ _ _ _ _ q=>lt_int q
theorem z9:OpR X (compareOp .LtE) (rI0 fun i j=>.bl (decide (i<=j))):=opB0 fun _ _ _ _ _ _ _ q=>le_int q
theorem zBM:OpR X (compareOp .Gt) (rI0 fun i j=>.bl (decide (j<i))):=opB0 fun _ _ _ _ _ _ _ q=>gt_int q
theorem zBo:OpR X (compareOp .GtE) (rI0 fun i j=>.bl (decide (j<=i))):=opB0 fun _ _ _ _ _ _ _ q=>ge_int q
theorem zCP:OpR X (compareOp .Is) (fun x y H Q=>y=.non/\Q (.bl (decide (x=.non))) H):=by
  intro pins s σ H x y v u Q I rx ry h
  obtain⟨rfl,q⟩:=h
  cases ry
  refine is_none_gen (zj I q ?_)
  cases x<;>first
    |(cases rx;rfl)
    |(obtain⟨t,rfl⟩:=rx;rfl)
theorem zBn:OpR X (compareOp .IsNot) (fun x y H Q=>y=.non/\Q (.bl (!decide (x=.non))) H):=by
  intro pins s σ H x y v u Q I rx ry h
  obtain⟨rfl,q⟩:=h
  cases ry
  refine isnot_none_gen (zj I q ?_)
  cases x<;>first
    |(cases rx;rfl)
    |(obtain⟨t,rfl⟩:=rx;rfl)
theorem nomark(b:Expr){op:CmpOp}(h:op≠.In:=by decide)(h2:op≠.NotIn:=by decide):behindInMarks op b=false:=by
  have e1:(op==CmpOp.In)=false:=by cases op<;>first|rfl|exact absurd rfl h
  have e2:(op==CmpOp.NotIn)=false:=by cases op<;>first|rfl|exact absurd rfl h2
  cases b<;>simp[behindInMarks,e1,e2]
theorem Z8{op:CmpOp}{r:R2}(ho:OpR X (compareOp op) r)(ha:PE X a ta)(hb:PE X b tb)(hm:behindInMarks op b=false):PE X (.Compare a [op] [b] pos) (tOp r ta tb):=by
  intro pins s σ H Q I h
  exact wpAny_Compare1 (binT ha hb I h fun v u s2 x y H2 I2 rx ry q=>ho pins s2 σ H2 x y v u Q I2 rx ry q) hm
def tTest(t:TE):TT:=fun σ H Q=>t σ H fun x H'=>∃k,x=.bl k/\Q k H'
theorem zn{op:CmpOp}{r:R2}(ho:OpR X (compareOp op) r)(ha:PE X a ta)(hb:PE X b tb)(hm:behindInMarks op b=false):PT X (.Compare a [op] [b] pos) (tTest (tOp r ta tb)):=by
  intro pins s σ H Q I h
  refine wpAny_isTrue_Compare1 (thn (ha pins s σ H _ I h) fun v s1 ⟨x,H1,I1,r1,q1⟩=>thn (hb pins s1 σ H1 _ I1 q1) fun u s2 ⟨y,H2,I2,r2,q2⟩=>
    thn (ho pins s2 σ H2 x y v u _ I2 r1 r2 q2) fun c s3 ⟨z,H3,I3,r3,k,e,q3⟩=>?_) hm
  subst e
  cases r3
  exact wpAny_truthy_bool ⟨H3,I3,q3⟩
def tChain(r r':R2)(ta tb tc:TE):TE:=fun σ H Q=>ta σ H fun x H1=>tb σ H1 fun y H2=>r x y H2 fun z H3=>∃k,z=.bl k/\
  (if k=true then tc σ H3 fun w' H4=>r' y w' H4 Q else Q (.bl false) H3)
theorem QY{op op':CmpOp}{r r':R2}(ho:OpR X (compareOp op) r)(ho':OpR X (compareOp op') r')(ha:PE X a ta)(hb:PE X b tb)(hc:PE X c tc)
    (hm:lastMarks [op,op'] [b,c]=false:=by with_unfolding_all rfl):PE X (.Compare a [op,op'] [b,c] pos) (tChain r r' ta tb tc):=by
  intro pins s σ H Q I h
  refine Compare_chain (thn (ha pins s σ H _ I h) fun v s1 ⟨x,H1,I1,r1,q1⟩=>chain_link (thn (hb pins s1 σ H1 _ I1 q1) fun u s2 ⟨y,H2,I2,r2,q2⟩=>
    thn (ho pins s2 σ H2 x y v u _ I2 r1 r2 q2) fun d s3 ⟨z,H3,I3,r3,k,e,q3⟩=>?_)) hm
  subst e
  cases r3
  refine wpAny_truthy_bool ?_
  cases k with
  |false=>exact ite_ff ⟨.bl false,H3,I3,rfl,q3⟩
  |true=>exact ite_tt (chain_last (thn (hc pins s3 σ H3 _ I3 q3) fun w' s4 ⟨z',H4,I4,r4,q4⟩=>ho' pins s4 σ H4 y z' u w' Q I4 r2 r4 q4))
theorem Zc{op op':CmpOp}{r r':R2}(ho:OpR X (compareOp op) r)(ho':OpR X (compareOp op') r')(ha:PE X a ta)(hb:PE X b tb)(hc:PE X c tc)
    (hm:lastMarks [op,op'] [b,c]=false:=by with_unfolding_all rfl):PT X (.Compare a [op,op'] [b,c] pos) (tTest (tChain r r' ta tb tc)):=by
  intro pins s σ H Q I h
  refine isTrue_chain (thn (ha pins s σ H _ I h) fun v s1 ⟨x,H1,I1,r1,q1⟩=>test_link (thn (hb pins s1 σ H1 _ I1 q1) fun u s2 ⟨y,H2,I2,r2,q2⟩=>
    thn (ho pins s2 σ H2 x y v u _ I2 r1 r2 q2) fun d s3 ⟨z,H3,I3,r3,k,e,q3⟩=>?_)) hm
  subst e
  cases r3
  refine wpAny_truthy_bool ?_
  cases k with
  | false =>
    obtain⟨k',e',q'⟩:=q3
    cases e'
    exact ite_ff ⟨H3,I3,q'⟩
  | true =>
    refine ite_tt (test_last (thn (hc pins s3 σ H3 _ I3 q3) fun w' s4 ⟨z',H4,I4,r4,q4⟩=>thn (ho' pins s4 σ H4 y z' u w' _ I4 r2 r4 q4) fun d' s5 ⟨z2,H5,I5,r5,k2,e2,q5⟩=>?_))
    subst e2
    cases r5
    exact wpAny_truthy_bool ⟨H5,I5,q5⟩
def TruV(K:PySem.W.Frag)(x:V)(H:Hp)(k:Bool):Prop:=
  match x with
  |.non=>k=false
  |.bl b=>k=b
  |.int i=>k=(i != 0)
  |.str y=>y.length<=sizeLine/\k=((y.length:Int) != 0)
  |.byt y=>y.size<=sizeLine/\k=((y.size:Int) != 0)
  |.ref p=>(∃xs,SqL K H p xs/\k=!xs.isEmpty)\/(∃xs,SqT K H p xs/\k=!xs.isEmpty)\/∃kvs,H p=some (.dK kvs)/\k=!kvs.isEmpty
  |_=>False
theorem isEmpty_kv{κ:Type}{kvs:List (κ×V)}{vs:List (κ×Value)}(r:KV kvs vs):(!vs.isEmpty)=!kvs.isEmpty:=by
  cases r<;>rfl
theorem J8{xs:List V}{its:List Value}(r:Vals xs its):(!its.toArray.isEmpty)=!xs.isEmpty:=by
  cases r<;>simp
theorem line63:(sizeLine:Nat)<2^63:=by rw[sizeLine_eq];decide
theorem tru_ok:TruR X (fun x H Q=>∃k,TruV X.K x H k/\Q k H):=by
  intro pins s σ H x v Q I rx h
  obtain⟨k,e,q⟩:=h
  have hl:=line63
  have hs:sizeLine=16777216:=sizeLine_eq
  cases x with
  | non =>
    cases rx
    have e':k=false:=e
    subst e'
    exact truthy_none ⟨H,I,q⟩
  | bl b =>
    cases rx
    have e':k=b:=e
    subst e'
    exact wpAny_truthy_bool ⟨H,I,q⟩
  | int i =>
    obtain⟨t,rfl⟩:=rx
    have e':k=(i != 0):=e
    subst e'
    exact PySem.P.truthy_int ⟨H,I,q⟩
  | str y =>
    obtain⟨t,rfl⟩:=rx
    obtain⟨hy,e'⟩:y.length<=sizeLine/\k=((y.length:Int) != 0):=e
    subst e'
    exact PySem.P.truthy_str (by omega) ⟨H,I.tok _,q⟩
  | byt y =>
    obtain⟨t,rfl⟩:=rx
    obtain⟨hy,e'⟩:y.size<=sizeLine/\k=((y.size:Int) != 0):=e
    subst e'
    exact PySem.W.truthy_bytes (by omega) ⟨H,I.tok _,q⟩
  | ref p =>
    cases rx
    have e':(∃xs,SqL X.K H p xs/\k=!xs.isEmpty)\/(∃xs,SqT X.K H p xs/\k=!xs.isEmpty)\/∃kvs,H p=some (.dK kvs)/\k=!kvs.isEmpty:=e
    rcases e' with⟨xs,hx,e'⟩|⟨xs,hx,e'⟩|⟨kvs,hx,e'⟩
    . subst e'
      obtain⟨its,r,pl,hz⟩:=I.list hx
      have hlen:=r.length
      exact wpAny_truthy_list pl.isList (by simp only[List.size_toArray];omega) ⟨H,I.tok _,by rw[J8 r];exact q⟩
    . subst e'
      obtain⟨its,r,pl,hz⟩:=I.tuple hx
      have hlen:=r.length
      exact truthy_tuple pl (by simp only[List.size_toArray];omega) ⟨H,I.tok _,by rw[J8 r];exact q⟩
    . subst e'
      obtain⟨hz,hS,vs,r,m⟩:kvs.length<=sizeLine/\(p==sysModules)=false/\∃vs,KV kvs vs/\s.heap.DictOf (mixKind X.prog X.w) p vs:=I.hok p _ hx
      have hlen:kvs.length=vs.length:=Paired.length r
      exact wpAny_truthy_dict hS m (by omega) ⟨H,I.tok _,by rw[isEmpty_kv r];exact q⟩
  |_=>exact(show False from e).elim
theorem pt_truth(ha:PE X a ta)(he:∀whole,isTrue a X.env whole=(do let v <-whole;standAt a.pos;holding [v] (truthy v))):
    PT X a (fun σ H Q=>ta σ H fun x H'=>∃k,TruV X.K x H' k/\Q k H'):=by
  intro pins s σ H Q I h
  exact isTrue_plain (thn (ha pins s σ H _ I h) fun v s1 ⟨x,H1,I1,r1,q1⟩=>tru_ok pins s1 σ H1 x v Q I1 r1 q1) (he _)
theorem vals1{x:V}{us:List Value}(r:Vals [x] us):∃u,us=[u]/\RelV x u:=by
  cases r with
  |cons r1 r2=>cases r2;exact⟨_,rfl,r1⟩
theorem vals2{x y:V}{us:List Value}(r:Vals [x,y] us):∃u w',us=[u,w']/\RelV x u/\RelV y w':=by
  cases r with
  | cons r1 r2 =>
    cases r2 with
    |cons r3 r4=>cases r4;exact⟨_,_,rfl,r1,r3⟩
theorem call_abs:CallR X (.builtin "abs") (fun xs H Q=>∃i,xs=[.int i]/\Q (.int (if i<0 then -i else i)) H):=by
  intro pins s σ H xs us Q I r h
  obtain⟨i,rfl,q⟩:=h
  obtain⟨u,rfl,t,rfl⟩:=vals1 r
  exact call_abs_int fun u tk=>⟨.int (if i<0 then -i else i),H,I.tok _,⟨_,rfl⟩,q⟩
theorem JS(hc:X.calm=true):CallR X (.builtin "max") (fun xs H Q=>∃i j,xs=[.int i,.int j]/\Q (.int (if j>i then j else i)) H):=by
  intro pins s σ H xs us Q I r h
  obtain⟨i,j,rfl,q⟩:=h
  obtain⟨u,w',rfl,⟨t,rfl⟩,⟨t',rfl⟩⟩:=vals2 r
  refine max_two_ints (I.ok.hd hc) fun h' tk k=>⟨_,H,I.kept k,?_,q⟩
  by_cases hj:j>i
  . rw[if_pos hj,if_pos hj];exact⟨_,rfl⟩
  . rw[if_neg hj,if_neg hj];exact⟨_,rfl⟩
theorem JR(hc:X.calm=true):CallR X (.builtin "min") (fun xs H Q=>∃i j,xs=[.int i,.int j]/\Q (.int (if j<i then j else i)) H):=by
  intro pins s σ H xs us Q I r h
  obtain⟨i,j,rfl,q⟩:=h
  obtain⟨u,w',rfl,⟨t,rfl⟩,⟨t',rfl⟩⟩:=vals2 r
  refine min_two_ints (I.ok.hd hc) fun h' tk k=>⟨_,H,I.kept k,?_,q⟩
  by_cases hj:j<i
  . rw[if_pos hj,if_pos hj];exact⟨_,rfl⟩
  . rw[if_neg hj,if_neg hj];exact⟨_,rfl⟩
end
end L2
namespace L2
open PySem PySem.Spec PyProof.Rows
structure ObjM(h:Heap)(x dx C:Addr)(mA:Str->Option Value):Prop where
  obj:h.get? x=some (PySem.W.instObj C dx)
  ns:h.Ns1 dx mA
  ne:dx≠x
theorem lookIn_ns{h:Heap}{dx:Addr}{mA:Str->Option Value}(n:h.Ns1 dx mA):∃od,h.get? dx=some od/\∀name,PySem.W.lookIn name od=some (mA name):=by
  obtain⟨o,es,ep,ho,hd,hk,_,hm⟩:=n
  refine⟨o,ho,fun name=>?_⟩
  have e:=hm name
  unfold nsFind findBy at e
  rw[<-Array.find?_toList] at e
  unfold PySem.W.lookIn
  rw[hd]
  dsimp only
  split
  . rename_i y q
    rw[q] at e
    exact congrArg some e
  . rename_i q
    rw[q] at e
    have a:es.toList.any (·.refKey)=false:=by
      rw[List.any_eq_false]
      intro y hy
      obtain⟨z,t,hkey⟩:=hk y (Array.mem_toList_iff.mp hy)
      simp[DictEntry.refKey,hkey]
    have a':¬ es.toList.any (·.refKey)=true:=by rw[a];exact Bool.false_ne_true
    rw[if_neg a']
    exact congrArg some e
theorem ObjM.look{h:Heap}{x dx C:Addr}{mA:Str->Option Value}(I:ObjM h x dx C mA):∃od,PySem.W.InstAt h x (PySem.W.instObj C dx) C (some od)/\∀name,PySem.W.lookIn name od=some (mA name):=
  let ⟨od,ho,hl⟩:=lookIn_ns I.ns
  ⟨od,⟨I.obj,rfl,rfl,ho⟩,hl⟩
section
variable{prog:Program}{w:World}{A:Around}{E:Value->Shared->Prop}{s:Shared}{K:PySem.W.Frag}{x dx C f:Addr}{mA:Str->Option Value}{name:Str}{v:Value}
theorem get_map{expr:Bool}{Q:Value->Shared->Prop}(X:K.In s.heap)(I:ObjM s.heap x dx C mA)(hg:PySem.W.plainGet K C name=true)(hh:PySem.W.hasDictIn K C=true)
    (ha:PySem.W.findIn K (.ref C) name=some none) (hv:mA name=some v) (hv':PySem.W.handedIn v=true) (h:Q v { s with toks:=s.toks+1 }):
    wpAny (model prog w) A (getAttr (.ref x) name expr) Q E s:=by
  obtain⟨od,J,hl⟩:=I.look
  exact PySem.W.get_value X J (PySem.W.plainGet_of hg).1 (PySem.W.findObj_own hh ha rfl (by rw[hl,hv])) hv' h
theorem get_meth{pl:Sem Bool}{Q:Value×List Value->Shared->Prop}(X:K.In s.heap)(I:ObjM s.heap x dx C mA)(hg:PySem.W.plainGet K C name=true)
    (hf:PySem.W.findIn K (.ref C) name=some (some (.ref f))) (ht:PySem.W.isFn K (.ref f)=true) (hv:mA name=none) (h:Q (.ref f,[.ref x]) s):
    wpAny (model prog w) A (getMethod (.ref x) name pl) Q E s:=by
  obtain⟨od,J,hl⟩:=I.look
  exact PySem.W.method_fn X J (PySem.W.plainGet_of hg).1 (PySem.W.plainGet_of hg).2 hf (beq_iff_eq.mp ht) (by show(PySem.W.lookIn name od).map (·.isSome)=some false;rw[hl,hv];rfl) h
theorem set_map{ns:List Str}{Q:Unit->Shared->Prop}(X:K.In s.heap)(I:ObjM s.heap x dx C mA)
    (hs:PySem.W.findIn K (.ref C) "__setattr__"=some (some (.builtin "object.__setattr__"))) (hp:PySem.W.plainOver K C=true) (ht:PySem.W.takerIn K C name=some none) (hh:PySem.W.hasDictIn K C=true)
    (hw:PySem.Within mA ns) (hsz:ns.length<=sizeLine)
    (h:∀h',ObjM h' x dx C (fun y=>if y=name then some v else mA y)->Heap.SameBut dx s.heap h'->Q () { s with heap:=h',toks:=s.toks+2 }):
    wpAny (model prog w) A (setAttr (.ref x) name v) Q E s:=by
  obtain⟨od,J,hl⟩:=I.look
  refine PySem.W.set_plain X J hs (PySem.W.osa_open (s:={ s with toks:=s.toks+1 }) (r:=none) X J hp ht fun b=>?_)
  obtain⟨cd,hc,hd'⟩:=PySem.W.any_some hh
  have hx:s.heap.get? x=some ⟨.ref C,some dx,.plain,#[]⟩:=I.obj
  refine wpAny_bind (wpAny_pure (wpAny_bind (wpAny_bind (wpAny_loadPart hx (wpAny_bind (PySem.W.Looks.here (s:={ s with toks:=s.toks+1 }) (PySem.W.looks_clsIn X hc) ?_))))))
  rw[hd']
  refine wpAny_pure (a:=some dx) (wpAny_bind (wpAny_pure (wpAny_bind ?_)))
  refine wpAny_nsSet1 (s:={ s with toks:=s.toks+1 }) I.ns fun h' hn2 hs2=>?_
  obtain⟨oD,esD,epD,hoD,hdD,hcD⟩:=hn2.count (PySem.Within.cons name v hw)
  refine wpAny_bind (wpAny_lookBehind hoD (by rw[hdD];exact pastItsLine_dict (Nat.le_trans hcD (by rw[List.length_cons];omega))) ?_)
  exact wpAny_pure (h _ ⟨(hs2.2 _ (Ne.symm I.ne)).trans I.obj,hn2,I.ne⟩ hs2)
theorem make_map{R:Result->Shared->Prop}{vs:List Value}{kw:List (Str×Value)}(X:K.In s.heap)(hm:PySem.W.makesIn K C=true)
    (hi:PySem.W.findIn K (.ref C) "__init__"=some (some (.ref f))) (hf:PySem.W.typeIn K (.ref f)=some (.type "function"))
    (h:codeAny (model prog w) (A.under (.builtin "type.__call__" ⟨.ref C::vs,kw⟩)) (.call (.ref f) ⟨.ref (s.heap.objs.size+1)::vs,kw⟩) (PySem.W.InitBack (s.heap.objs.size+1) R)
      { s with heap:=(s.heap.push PySem.W.emptyDict).push (PySem.W.instObj C s.heap.objs.size) }):
    codeAny (model prog w) A (.call (.ref C) ⟨vs,kw⟩) R s:=by
  obtain⟨hh,g,d,t,os⟩:=s
  exact PySem.W.make_core (PySem.W.makes_of X hm) (PySem.W.looks_findIn X hi) (fun self=>PySem.W.bind_fn X self hf) (.inl rfl) h
end
def putF(f:Str)(v:V):List (Str×V)->List (Str×V)
  |[]=>[(f,v)]
  |(g,x)::r=>if g=f then (g,v)::r else (g,x)::putF f v r
theorem lookup_putF (f g : Str) (v : V) : ∀ fs : List (Str × V), (putF f v fs).lookup g = if g = f then some v else fs.lookup g
  | [] => by
    show List.lookup g [(f,v)]=_
    by_cases h:g=f
    . have hb:(g==f)=true:=beq_iff_eq.mpr h
      simp only[List.lookup,hb,if_pos h]
    . have hb:(g==f)=false:=beq_eq_false_iff_ne.mpr h
      simp only[List.lookup,hb,if_neg h]
  | (k, x) :: r => by
    have ih:=lookup_putF f g v r
    rw[show putF f v ((k,x)::r)=(if k=f then (k,v)::r else (k,x)::putF f v r) from rfl]
    by_cases hk:k=f
    . rw[if_pos hk]
      by_cases h:g=k
      . have hb:(g==k)=true:=beq_iff_eq.mpr h
        simp only[List.lookup,hb,if_pos (h.trans hk)]
      . have hb:(g==k)=false:=beq_eq_false_iff_ne.mpr h
        simp only[List.lookup,hb,if_neg (fun e:g=f=>h (e.trans hk.symm))]
    . rw[if_neg hk]
      by_cases h:g=k
      . have hb:(g==k)=true:=beq_iff_eq.mpr h
        simp only[List.lookup,hb,if_neg (fun e:g=f=>hk (h.symm.trans e))]
      . have hb:(g==k)=false:=beq_eq_false_iff_ne.mpr h
        simp only[List.lookup,hb]
        exact ih
theorem keys_putF (f : Str) (v : V) : ∀ fs : List (Str × V), f ∈ (putF f v fs).map (·.1) ∧ ∀ g, g ∈ fs.map (·.1) → g ∈ (putF f v fs).map (·.1)
  |[]=>⟨by simp[putF],fun g h=>by simp at h⟩
  | (k, x) :: r => by
    obtain⟨i1,i2⟩:=keys_putF f v r
    rw[show putF f v ((k,x)::r)=(if k=f then (k,v)::r else (k,x)::putF f v r) from rfl]
    by_cases hk:k=f
    . rw[if_pos hk]
      subst hk
      exact⟨by simp,fun g h=>by simpa using h⟩
    . rw[if_neg hk]
      refine⟨?_,fun g h=>?_⟩
      . rw[List.map_cons]
        exact List.mem_cons_of_mem _ i1
      . rw[List.map_cons] at h ⊢
        rcases List.mem_cons.mp h with e|e
        . exact List.mem_cons.mpr (.inl e)
        . exact List.mem_cons_of_mem _ (i2 g e)
theorem JX(f:Str)(v:V):∀fs:List (Str×V),(putF f v fs).length<=fs.length+1
  |[]=>by simp[putF]
  | (k, x) :: r => by
    have ih:=JX f v r
    rw[show putF f v ((k,x)::r)=(if k=f then (k,v)::r else (k,x)::putF f v r) from rfl]
    by_cases hk:k=f
    . rw[if_pos hk,List.length_cons,List.length_cons];omega
    . rw[if_neg hk,List.length_cons,List.length_cons];omega
theorem RelO.some_of{v:V}{o:Option Value}(r:RelO (some v) o):∃u,o=some u/\RelV v u:=by
  cases o with
  |none=>exact(show False from r).elim
  |some u=>exact⟨u,rfl,r⟩
theorem RelO.none_of{o:Option Value}(r:RelO none o):o=none:=by
  cases o with
  |none=>rfl
  |some u=>exact(show False from r).elim
theorem handed_of{v:V}{u:Value}(r:RelV v u):PySem.W.handedIn u=true:=by
  cases v with
  |non=>cases (show u=Value.none from r);rfl
  |bl b=>cases (show u=Value.bool b from r);rfl
  |int i=>obtain⟨t,e⟩:=(show ∃t,u=Value.int i t from r);cases e;rfl
  |str x=>obtain⟨t,e⟩:=(show ∃t,u=Value.str x t from r);cases e;rfl
  |byt b=>obtain⟨t,e⟩:=(show ∃t,u=Value.bytes b t from r);cases e;rfl
  |flt b=>obtain⟨t,e⟩:=(show ∃t,u=Value.float b t from r);cases e;rfl
  |ref a=>cases (show u=Value.ref a from r);rfl
  |ty n=>cases (show u=Value.type n from r);rfl
section
variable{P:Program}{w:World}{H H':Hp}{h h':Heap}{a C dx:Addr}{fs fs':List (Str×V)}
theorem zBC(hok:HOk P w H h)(e:H a=some (.ins C dx fs)):∃mA,ObjM h a dx C mA/\(∀f,RelO (fs.lookup f) (mA f))/\PySem.Within mA (fs.map (·.1))/\fs.length<=1000/\H dx=some (.own a):=by
  obtain⟨d,z,ne,ob,mA,n,r,q⟩:=(show ObjOk P w H h a (.ins C dx fs) from hok a _ e)
  exact⟨mA,⟨ob,n,ne⟩,r,q,z,d⟩
end
structure Cls(K:PySem.W.Frag)(C:Addr):Prop where
  pg:PySem.W.plainGet K C Str.empty=true
  hd:PySem.W.hasDictIn K C=true
  po:PySem.W.plainOver K C=true
  sa:PySem.W.findIn K (.ref C) "__setattr__"=some (some (.builtin "object.__setattr__"))
theorem Cls.get{K:PySem.W.Frag}{C:Addr}(c:Cls K C)(f:Str):PySem.W.plainGet K C f=true:=c.pg
def NoAttr(K:PySem.W.Frag)(C:Addr)(f:Str):Prop:=PySem.W.findIn K (.ref C) f=some none
theorem NoAttr.taker{K:PySem.W.Frag}{C:Addr}{f:Str}(n:NoAttr K C f):PySem.W.takerIn K C f=some none:=by
  unfold PySem.W.takerIn
  rw[show PySem.W.findIn K (.ref C) f=some none from n]
  rfl
structure Meth(K:PySem.W.Frag)(C:Addr)(m:Str)(f:Addr):Prop where
  at_:PySem.W.findIn K (.ref C) m=some (some (.ref f))
  fn:PySem.W.isFn K (.ref f)=true
  kp:PySem.W.keepIn K (.ref f)=true
section
variable{X:Cx}{pins:List (Addr×Obj)}{σ:St}{H:Hp}{s:Shared}{a C dx:Addr}{fs:List (Str×V)}{f:Str}{v:V}{A:Around}{E:Value->Shared->Prop}
theorem zAC{b:Bool}{Q:Value->Shared->Prop}(I:Inv X pins σ H s)(e:H a=some (.ins C dx fs))(c:Cls X.K C)(n:NoAttr X.K C f)(l:fs.lookup f=some v)
    (h:∀u s',Inv X pins σ H s'->RelV v u->Q u s'):wpAny (model X.prog X.w) A (getAttr (.ref a) f b) Q E s:=by
  obtain⟨mA,O,r,_,_,_⟩:=zBC I.hok e
  obtain⟨u,hu,ru⟩:=RelO.some_of (v:=v) (o:=mA f) (by rw[<-l];exact r f)
  exact get_map I.kIn O (c.get f) c.hd n hu (handed_of ru) (h u _ (I.tok _) ru)
theorem zAB{m:Str}{g:Addr}{pl:Sem Bool}{Q:Value×List Value->Shared->Prop}(I:Inv X pins σ H s)(e:H a=some (.ins C dx fs))(c:Cls X.K C)(k:Meth X.K C m g)(l:fs.lookup m=none)
    (h:Q (.ref g,[.ref a]) s):wpAny (model X.prog X.w) A (getMethod (.ref a) m pl) Q E s:=by
  obtain⟨mA,O,r,_,_,_⟩:=zBC I.hok e
  have hn:mA m=none:=RelO.none_of (by rw[<-l];exact r m)
  exact get_meth I.kIn O (c.get m) k.at_ k.fn hn h
theorem Jp{y:V}{u:Value}{Q:Unit->Shared->Prop}(I:Inv X pins σ H s)(e:H a=some (.ins C dx fs))(c:Cls X.K C)(n:NoAttr X.K C f)(hl:fs.length<1000)(ry:RelV y u)
    (h:∀s',Inv X pins σ (upd H a (.ins C dx (putF f y fs))) s'->Q () s'):wpAny (model X.prog X.w) A (setAttr (.ref a) f u) Q E s:=by
  obtain⟨mA,O,r,wi,_,ho⟩:=zBC I.hok e
  have hz:(fs.map (·.1)).length<=sizeLine:=by rw[List.length_map,sizeLine_eq];omega
  refine set_map I.kIn O c.sa c.po n.taker c.hd wi hz fun h' O' sb=>h _ ?_
  have hd:∃o,h'.get? dx=some o:=let ⟨o,_,_,e',_⟩:=O'.ns;⟨o,e'⟩
  refine I.write (x:=a) (e:=dx) (by rw[e];exact True.intro) (.inr ho) (fun b q hb z=>(sb.2 b hb).trans z) hd ?_
  refine⟨by rw[zI O.ne];exact ho,?_,O.ne,O'.obj,_,O'.ns,fun g=>?_,fun g hg=>?_⟩
  . have:=JX f y fs;omega
  . show RelO ((putF f y fs).lookup g) (if g=f then some u else mA g)
    rw[lookup_putF]
    by_cases q:g=f
    . rw[if_pos q,if_pos q];exact ry
    . rw[if_neg q,if_neg q];exact r g
  . by_cases q:g=f
    . rw[q];exact(keys_putF f y fs).1
    . refine(keys_putF f y fs).2 g (wi g fun z=>hg ?_)
      show(if g=f then some u else mA g)=none
      rw[if_neg q];exact z
theorem Inv.made(I:Inv X pins σ H s):Inv X pins σ (upd (upd H s.heap.objs.size (.own (s.heap.objs.size+1))) (s.heap.objs.size+1) (.ins C s.heap.objs.size []))
    { s with heap:=(s.heap.push PySem.W.emptyDict).push (PySem.W.instObj C s.heap.objs.size) }:=by
  have e1:(s.heap.push PySem.W.emptyDict).get? s.heap.objs.size=some PySem.W.emptyDict:=Heap.get?_push_size s.heap rfl
  have e2:((s.heap.push PySem.W.emptyDict).push (PySem.W.instObj C s.heap.objs.size)).get? (s.heap.objs.size+1)=some (PySem.W.instObj C s.heap.objs.size):=by
    have:=Heap.get?_push_size (s.heap.push PySem.W.emptyDict) (o:=PySem.W.instObj C s.heap.objs.size) rfl
    rwa [Heap.size_push] at this
  have e3:(s.heap.push PySem.W.emptyDict).Ns s.heap.objs.size (fun _=>none):=⟨PySem.W.emptyDict,#[],_,e1,rfl,(fun e he=>absurd he (by simp)),fun _=>rfl⟩
  have I1:=I.laid (a:=s.heap.objs.size) (o:=.own (s.heap.objs.size+1)) (h':=s.heap.push PySem.W.emptyDict) (t':=s.toks) (fun b u q=>Heap.get?_push_of_some _ q) (Nat.le_refl _) ⟨_,e1⟩
  refine I1.laid (a:=s.heap.objs.size+1) (o:=.ins C s.heap.objs.size []) (t':=s.toks) (fun b u q=>Heap.get?_push_of_some _ q) (Nat.le_of_eq (Heap.size_push _ _)) ?_
  have ne:s.heap.objs.size≠s.heap.objs.size+1:=Nat.ne_of_lt (Nat.lt_succ_self _)
  refine⟨by rw[zI ne,zJ],Nat.zero_le _,ne,e2,fun _=>none,(Heap.Ns1.of_empty e3).at fun o q=>Heap.get?_push_of_some _ q,fun _=>True.intro,fun y hy=>absurd rfl hy⟩
theorem attr_of{prog:Program}{w:World}{env:Env}{e:Expr}{f:Str}{pos:Pos}{s:Shared}{Q:Value->Shared->Prop}(hb:attributeBase e f env (eval e env)=eval e env)
    (h:wpAny (model prog w) A (eval e env) (fun o s₁=>wpAny (model prog w) A (getAttr o f true) Q E s₁) E s):wpAny (model prog w) A (eval (.Attribute e f pos) env) Q E s:=
  Attribute_any_ h (by rw[arm_eval_Attribute,hb])
end
def tFld(K:PySem.W.Frag)(ta:TE)(f:Str):TE:=fun σ H Q=>ta σ H fun x H1=>∃a C dx fs v,x=.ref a/\H1 a=some (.ins C dx fs)/\Cls K C/\NoAttr K C f/\fs.lookup f=some v/\Q v H1
def sFld(K:PySem.W.Frag)(ta tv:TE)(f:Str):TS:=fun D σ H=>tv σ H fun y H1=>ta σ H1 fun x H2=>∃a C dx fs,x=.ref a/\H2 a=some (.ins C dx fs)/\Cls K C/\NoAttr K C f/\fs.length<1000/\
  D.nx σ (upd H2 a (.ins C dx (putF f y fs)))
def InOp(X:Cx)(op:Operator)(rd:V->V->Hp->VK->Prop):Prop:=
  ∀(pins:List (Addr×Obj)) (s:Shared) (σ:St) (H:Hp) (x y:V) (u v:Value) (Q:VK),Inv X pins σ H s->RelV x u->RelV y v->rd x y H Q->wpAny (model X.prog X.w) X.A (inplaceOp op u v) (EP X pins σ Q) X.xe s
def sFldAug(K:PySem.W.Frag)(ta tv:TE)(rd:V->V->Hp->VK->Prop)(f:Str):TS:=fun D σ H=>ta σ H fun x H1=>∃a C dx fs v,x=.ref a/\H1 a=some (.ins C dx fs)/\Cls K C/\NoAttr K C f/\fs.lookup f=some v/\
  tv σ H1 fun y H2=>rd v y H2 fun z H3=>∃dx' fs',H3 a=some (.ins C dx' fs')/\fs'.length<1000/\D.nx σ (upd H3 a (.ins C dx' (putF f z fs')))
section
variable{X:Cx}{o e value:Expr}{f:Str}{pos pos' tpos:Pos}{ta tv:TE}
theorem zF(he:PE X e ta)(hb:attributeBase e f X.env (eval e X.env)=eval e X.env):PE X (.Attribute e f pos) (tFld X.K ta f):=by
  intro pins s σ H Q I h
  refine attr_of hb (thn (he pins s σ H _ I h) fun u s1 ⟨x,H1,I1,rx,a,C,dx,fs,v,ex,ea,c,n,l,q⟩=>?_)
  subst ex
  obtain rfl:u=Value.ref a:=rx
  exact zAC I1 ea c n l fun u' s2 I2 ru=>⟨v,H1,I2,ru,q⟩
theorem Zd(ha:PE X o ta)(hv:PE X value tv)(hs:swapsWith value (some (.Attribute o f pos')) pos.line X.env=pure false):PS X (.Assign [.Attribute o f pos'] value pos) (sFld X.K ta tv f):=by
  intro pins s σ H D I h
  refine plainObj_wpAny_Assign_Attribute (thn (hv pins s σ H _ I h) fun u s1 ⟨y,H1,I1,ry,q⟩=>thn (ha pins s1 σ H1 _ I1 q) fun ov s2 ⟨x,H2,I2,rx,a,C,dx,fs,ex,ea,c,n,l,q2⟩=>?_) hs
  subst ex
  obtain rfl:ov=Value.ref a:=rx
  exact Jp I2 ea c n l ry fun s3 I3=>⟨σ,_,I3,q2⟩
theorem ps_fldaug{op:Operator}{rd:V->V->Hp->VK->Prop}(ha:PE X o ta)(hv:PE X value tv)(hop:InOp X op rd):PS X (.AugAssign (.Attribute o f tpos) op value pos) (sFldAug X.K ta tv rd f):=by
  intro pins s σ H D I h
  refine wpAny_AugAssign_AttributeAny (thn (ha pins s σ H _ I h) fun ov s1 ⟨x,H1,I1,rx,a,C,dx,fs,v,ex,ea,c,n,l,q⟩=>?_)
  subst ex
  obtain rfl:ov=Value.ref a:=rx
  refine zAC I1 ea c n l fun u s2 I2 ru=>thn (hv pins s2 σ H1 _ I2 q) fun w3 s3 ⟨y,H2,I3,ry,q3⟩=>thn (hop pins s3 σ H2 v y u w3 _ I3 ru ry q3) fun w4 s4 ⟨z,H3,I4,rz,dx',fs',ea',l',q4⟩=>?_
  exact Jp I4 ea' c n l' rz fun s5 I5=>⟨σ,_,I5,q4⟩
def rAdd:V->V->Hp->VK->Prop:=fun x y H Q=>∃i j,x=.int i/\y=.int j/\Q (.int (i+j)) H
theorem in_add:InOp X .Add rAdd:=by
  rintro pins s σ H x y u v Q I rx ry ⟨i,j,rfl,rfl,q⟩
  obtain⟨t,rfl⟩:=(show ∃t,u=Value.int i t from rx)
  obtain⟨t',rfl⟩:=(show ∃t',v=Value.int j t' from ry)
  exact PyProof.Rows.iadd_int ⟨.int (i+j),H,I.tok _,⟨_,rfl⟩,q⟩
end
section
variable{X:Cx}{pins:List (Addr×Obj)}{σ:St}{H:Hp}{s:Shared}{A:Around}{E:Value->Shared->Prop}{Q:Value->Shared->Prop}{c:Value}{b:Bool}
end
end L2
namespace L2
open PySem PySem.Spec PyProof.Rows
structure Room(k:Nat)(A:Around):Prop where
  hd:A.handled=none
  dp:A.depth+3*k+5<recursionLimit
  un:A.units+16*k+200<cLine
theorem Room.mono{j k:Nat}{A:Around}(r:Room k A)(h:j<=k):Room j A:=⟨r.hd,by have:=r.dp;omega,by have:=r.un;omega⟩
theorem Room.deeper{k:Nat}{A:Around}(r:Room (k+1) A)(env:Env):Room k (A.deeper env):=
  ⟨r.hd,by have:=r.dp;show A.depth+1+3*k+5<_;omega,by have:=r.un;show A.units+3+16*k+200<_;omega⟩
theorem make_depth{A:Around}{C:Addr}{us:List Value}{kw:List (Str×Value)}:(A.under (.builtin "type.__call__" ⟨.ref C::us,kw⟩)).depth=A.depth+1:=by
  first|rfl|simp[Around.under,Code.weight,Code.isCreation,Code.isGuard,Code.isCaller,Code.frames,Code.isFrame,guardIds]
theorem make_units{A:Around}{C:Addr}{us:List Value}{kw:List (Str×Value)}:(A.under (.builtin "type.__call__" ⟨.ref C::us,kw⟩)).units=A.units+1:=by
  first|rfl|simp[Around.under,Code.cUnits,Code.frames,Code.isFrame]
theorem Room.make{k:Nat}{A:Around}(r:Room (k+1) A)(C:Addr)(us:List Value)(kw:List (Str×Value)):Room k (A.under (.builtin "type.__call__" ⟨.ref C::us,kw⟩)):=
  ⟨r.hd,by have:=r.dp;rw[make_depth];omega,by have:=r.un;rw[make_units];omega⟩
theorem Room.depth{k:Nat}{A:Around}(r:Room k A):A.depth<recursionLimit:=by have:=r.dp;omega
theorem Room.units{k:Nat}{A:Around}(r:Room k A):A.units+64<cLine:=by have:=r.un;omega
theorem Room.units0{k:Nat}{A:Around}(r:Room k A):A.units<cLine:=by have:=r.un;omega
def tNil:TA:=fun _ H Q=>Q [] H
def tCons(ta:TE)(tr:TA):TA:=fun σ H Q=>ta σ H fun x H1=>tr σ H1 fun xs H2=>Q (x::xs) H2
section
variable{X:Cx}{e:Expr}{es:List Expr}{te:TE}{t:TA}{pos:Pos}
theorem zC:PA X [] tNil:=fun _ _ _ _ H Q I h=>Calls.spliced_nil ⟨[],H,I,.nil,h⟩
theorem zA(ha:PE X e te)(hr:PA X es t)(hs:starEach (e::es) X.env=(false,eval e X.env)::starEach es X.env:=by rfl):PA X (e::es) (tCons te t):=by
  intro pos pins s σ H Q I h
  rw[hs]
  show wpAny _ _ (spliced ((false,eval e X.env)::backTo pos (starEach es X.env))) _ _ s
  refine Calls.spliced_cons (thn (ha pins s σ H _ I h) fun u s1 ⟨x,H1,I1,r1,q1⟩=>?_)
  exact thn (hr pos pins s1 σ H1 _ I1 q1) fun us s2 ⟨xs,H2,I2,r2,q2⟩=>⟨x::xs,H2,I2,.cons r1 r2,q2⟩
def tTup(t:TA):TE:=fun σ H Q=>t σ H fun xs H1=>xs.length<=sizeLine/\∀p,H1 p=none->Q (.ref p) (upd H1 p (.tup xs))
def tLst(t:TA):TE:=fun σ H Q=>t σ H fun xs H1=>xs.length<=sizeLine/\∀p,H1 p=none->Q (.ref p) (upd H1 p (.lst xs))
theorem zu{x1}(h:PA X es t):PE X (.Tuple es x1 pos) (tTup t):=by
  intro pins s σ H Q I hq
  refine wpAny_Tuple_spliced (thn (h pos pins s σ H _ I hq) fun us s1 ⟨xs,H1,I1,r,z,q⟩=>⟨by rw[<-r.length];exact z,?_⟩)
  have hf:H1 s1.heap.objs.size=none:=I1.hok.fresh (Nat.le_refl _)
  refine⟨.ref s1.heap.objs.size,upd H1 s1.heap.objs.size (.tup xs),I1.laid (t':=s1.toks) (fun b u e=>Heap.get?_push_of_some _ e) (Nat.le_refl _) ?_,rfl,q _ hf⟩
  exact⟨z,us,r,⟨_,Heap.get?_push_size _ rfl,rfl,_,rfl⟩⟩
theorem zQ(h:PA X es t):PE X (.List es pos) (tLst t):=by
  intro pins s σ H Q I hq
  refine wpAny_List_spliced (thn (h pos pins s σ H _ I hq) fun us s1 ⟨xs,H1,I1,r,z,q⟩=>⟨by rw[<-r.length];exact z,?_⟩)
  have hf:H1 s1.heap.objs.size=none:=I1.hok.fresh (Nat.le_refl _)
  refine⟨.ref s1.heap.objs.size,upd H1 s1.heap.objs.size (.lst xs),I1.laid (t':=s1.toks) (fun b u e=>Heap.get?_push_of_some _ e) (Nat.le_refl _) ?_,rfl,q _ hf⟩
  exact⟨z,us,0,r,Heap.get?_push_size _ rfl⟩
end
abbrev Sp:=List V->Hp->VK->XK->Prop
abbrev CXT:=List Env->Hp->Shared->XK->Value->Shared->Prop
structure Env0(P:Program)(w:World)(K:PySem.W.Frag)(mg:Str->Option Value)(base:Heap)(A:Around)(outer:List Env)(s:Shared)(H:Hp):Prop where
  frames:A.frames=some outer
  mod:Mod K mg base
  bs:∀b o,base.get? b=some o->s.heap.get? b=some o/\H b=none
  bsz:base.objs.size<=s.heap.objs.size
  funs:s.heap.FunFrames base outer
  frf:∀b∈frs outer,H b=none
  hok:HOk P w H s.heap
  bare:AllBare s.gens
def CE(outer:List Env)(P:Program)(w:World)(H:Hp)(s:Shared)(Q:VK)(u:Value)(s':Shared):Prop:=
  ∃v H',s'.os=s.os/\AllBare s'.gens/\Un (frs outer) [] H H' s.heap s'.heap/\HOk P w H' s'.heap/\RelV v u/\Q v H'
def CR(CX:CXT)(outer:List Env)(P:Program)(w:World)(H:Hp)(s:Shared)(Q:VK)(E:XK)(r:Result)(s':Shared):Prop:=
  match r with
  |.ok (.ret u)=>CE outer P w H s Q u s'
  |.ok _=>False
  |.error e=>CX outer H s E e s'
structure FnOk(P:Program)(w:World)(K:PySem.W.Frag)(mg:Str->Option Value)(base:Heap)(CX:CXT)(k:Nat)(f:Addr)(fd:FuncData)(ps:List Str)(sp:Sp):Prop where
  len:∀vs H Q E,sp vs H Q E->vs.length=ps.length
  run:∀(A:Around) (outer:List Env) (s:Shared) (H:Hp) (args:Args) (us:List Value) (vs:List V) (Q:VK) (E:XK),Room k A->Env0 P w K mg base A outer s H->BindsTo s fd args (ps.zip us)->Vals vs us->sp vs H Q E->
    codeAny (model P w) A (.call (.ref f) args) (CR CX outer P w H s Q E) s
theorem FnOk.mono{P:Program}{w:World}{K:PySem.W.Frag}{mg:Str->Option Value}{base:Heap}{CX:CXT}{j k:Nat}{f:Addr}{fd:FuncData}{ps:List Str}{sp:Sp}(F:FnOk P w K mg base CX j f fd ps sp)(h:j<=k):
    FnOk P w K mg base CX k f fd ps sp:=⟨F.len,fun A outer s H args us vs Q E hr=>F.run A outer s H args us vs Q E (hr.mono h)⟩
theorem Env0.make{P:Program}{w:World}{K:PySem.W.Frag}{mg:Str->Option Value}{base:Heap}{A:Around}{outer:List Env}{s:Shared}{H:Hp}(e:Env0 P w K mg base A outer s H)(C:Addr)(us:List Value)(kw:List (Str×Value)):
    Env0 P w K mg base (A.under (.builtin "type.__call__" ⟨.ref C::us,kw⟩)) outer s H:=⟨by first|exact e.frames|(simpa [Around.under,Code.envs,Code.isFrame,pushEnvs] using e.frames),e.mod,e.bs,e.bsz,e.funs,e.frf,e.hok,e.bare⟩
section
variable{X:Cx}{pins:List (Addr×Obj)}{σ:St}{H:Hp}{s s':Shared}
theorem Inv.env0(I:Inv X pins σ H s):Env0 X.prog X.w X.K X.mg X.base X.A X.stack s H:=
  ⟨I.ok.frames,I.ok.mod,I.bs,Nat.le_trans I.ok.bsz I.sz,I.stack,I.stkFree,I.hok,I.bare⟩
theorem Inv.after{Q:VK}{u:Value}(I:Inv X pins σ H s)(h:CE X.stack X.prog X.w H s Q u s'):EP X pins σ Q u s':=by
  obtain⟨v,H',os,bare,un,hok,r,q⟩:=h
  obtain⟨hh,g,d,t,os'⟩:=s'
  obtain rfl:os'=s.os:=os
  exact⟨v,H',I.call (h':=hh) (g':=g) (d':=d) (t':=t) (ch:=[]) un hok bare (fun b z=>absurd z (by simp)),r,q⟩
end
def tCall(sp:Sp)(dvs:List V)(E:XK)(t:TA):TE:=fun σ H Q=>t σ H fun vs H1=>sp (vs++dvs) H1 Q E
def tMeth(C:Addr)(m:Str)(sp:Sp)(dvs:List V)(E:XK)(ta:TE)(t:TA):TE:=fun σ H Q=>ta σ H fun x H1=>∃a dx fs,x=.ref a/\H1 a=some (.ins C dx fs)/\fs.lookup m=none/\
  t σ H1 fun vs H2=>sp (x::(vs++dvs)) H2 Q E
def tMake(C:Addr)(sp:Sp)(dvs:List V)(E:XK)(t:TA):TE:=fun σ H Q=>t σ H fun vs H1=>∀x dx,H1 x=none->H1 dx=none->dx≠x->
  sp (.ref x::(vs++dvs)) (upd (upd H1 dx (.own x)) x (.ins C dx [])) (fun v H2=>v=.non/\Q (.ref x) H2) E
def Binds(K:PySem.W.Frag)(fd:FuncData)(ps:List Str)(ds:List Value):Prop:=
  ∀(s:Shared) (us:List Value),K.In s.heap->(us++ds).length=ps.length->BindsTo s fd ⟨us,[]⟩ (ps.zip (us++ds))
theorem Binds.all{K:PySem.W.Frag}{fd:FuncData}{ps:List Str}(h:∀us:List Value,us.length=ps.length->bindArgs fd ⟨us,[]⟩=pure (ps.zip us)):Binds K fd ps []:=fun s us _ hl=>by
  rw[List.append_nil] at hl ⊢
  exact .of_eq (h us hl)
def Passes(CX:CXT)(X:Cx)(E:XK):Prop:=∀(pins:List (Addr×Obj)) (σ:St) (H:Hp) (s:Shared) (e:Value) (s':Shared),Inv X pins σ H s->CX X.stack H s E e s'->X.xe e s'
section
variable{X:Cx}{CX:CXT}{k:Nat}{f C:Addr}{fd:FuncData}{ps:List Str}{sp:Sp}{dvs:List V}{ds:List Value}{E:XK}{x m:Str}{p pos apos:Pos}{e o:Expr}{es:List Expr}{ta:TE}{t:TA}
theorem zAt{pins:List (Addr×Obj)}{σ:St}{H:Hp}{s:Shared}{Q:VK}{us:List Value}{vs:List V}(F:FnOk X.prog X.w X.K X.mg X.base CX k f fd ps sp)(hr:Room k X.A)(hb:Binds X.K fd ps ds)(hd:Vals dvs ds)(hx:Passes CX X E)
    (I:Inv X pins σ H s) (r:Vals vs us) (h:sp (vs++dvs) H Q E):wpAny (model X.prog X.w) X.A (call (.ref f) us) (EP X pins σ Q) X.xe s:=by
  have r2:Vals (vs++dvs) (us++ds):=r.append hd
  have hl:(us++ds).length=ps.length:=by rw[<-r2.length];exact F.len _ _ _ _ h
  refine wpAny_call (codeAny_mono (F.run X.A X.stack s H ⟨us,[]⟩ (us++ds) (vs++dvs) Q E hr I.env0 (hb s us I.kIn hl) r2 h) fun r s' hq=>?_)
  cases r with
  |error e=>exact hx pins σ H s e s' I hq
  | ok fl =>
    cases fl with
    |ret u=>exact I.after hq
    |next=>exact False.elim hq
    |brk=>exact False.elim hq
    |cont=>exact False.elim hq
theorem pe_call(F:FnOk X.prog X.w X.K X.mg X.base CX k f fd ps sp)(hr:Room k X.A)(hg:Gl X x)(hm:X.mg x=some (.ref f))(hk:PySem.W.keepIn X.K (.ref f)=true)(hb:Binds X.K fd ps ds)(hd:Vals dvs ds)(hx:Passes CX X E)
    (ha:PA X (e::es) t) (hdb:(x==("__debug__":Str))=false:=by decide) (he:starEach (e::es) X.env=(false,eval e X.env)::starEach es X.env:=by rfl) (hpl:(backTo pos (starEach es X.env)).any (·.1)=false:=by rfl):
    PE X (.Call (.Name x p) (e::es) [] pos) (tCall sp dvs E t):=by
  intro pins s σ H Q I h
  refine wpAny_Call_Name_kw (Jb I hg hm ?_ hdb)
  refine PySem.W.callWith_K (h₀:=X.base) I.ok.mod.kin hk (thn (ha pos pins s σ H _ I h) fun us s1 ⟨vs,H1,I1,r,q⟩=>⟨I1.kIn,?_⟩) he hpl
  exact zAt F hr hb hd hx I1 r q
theorem pe_meth{pl:Sem Bool}(he:PE X o ta)(c:Cls X.K C)(hm:Meth X.K C m f)(F:FnOk X.prog X.w X.K X.mg X.base CX k f fd ps sp)(hr:Room k X.A)(hb:Binds X.K fd ps ds)(hd:Vals dvs ds)(hx:Passes CX X E)(ha:PA X (e::es) t)
    (hst:starEach (e::es) X.env=(false,eval e X.env)::starEach es X.env:=by rfl) (hpl:(backTo pos (starEach es X.env)).any (·.1)=false:=by rfl)
    (ht:eval (.Call (.Attribute o m apos) (e::es) [] pos) X.env=(do
      let ov <-eval o X.env
      standAt apos.atName
      let (f,first) <-holding [ov] (getMethod ov m pl)
      callWith pos f first (backTo pos (starEach (e::es) X.env)) (backToKw pos (keywordEach [] X.env))):=by rfl):
    PE X (.Call (.Attribute o m apos) (e::es) [] pos) (tMeth C m sp dvs E ta t):=by
  intro pins s σ H Q I h
  refine PySem.W.methodCall_KW (pl:=pl) (thn (he pins s σ H _ I h) fun u s1 ⟨x,H1,I1,rx,a,dx,fs,ex,ea,l,q⟩=>?_) ht
  subst ex
  obtain rfl:u=Value.ref a:=rx
  refine zAB I1 ea c hm l ?_
  refine PySem.W.callWith_K (first:=[.ref a]) (h₀:=X.base) I.ok.mod.kin hm.kp (thn (ha pos pins s1 σ H1 _ I1 q) fun us s2 ⟨vs,H2,I2,r,q2⟩=>⟨I2.kIn,?_⟩) hst hpl
  exact zAt (us:=.ref a::us) (vs:=.ref a::vs) F hr hb hd hx I2 (.cons rfl r) q2
theorem pe_meth0{pl:Sem Bool}(he:PE X o ta)(c:Cls X.K C)(hm:Meth X.K C m f)(F:FnOk X.prog X.w X.K X.mg X.base CX k f fd ps sp)(hr:Room k X.A)(hb:Binds X.K fd ps ds)(hd:Vals dvs ds)(hx:Passes CX X E)
    (ht:eval (.Call (.Attribute o m apos) [] [] pos) X.env=(do
      let ov <-eval o X.env
      standAt apos.atName
      let (f,first) <-holding [ov] (getMethod ov m pl)
      callWith pos f first (backTo pos (starEach [] X.env)) (backToKw pos (keywordEach [] X.env))):=by rfl):
    PE X (.Call (.Attribute o m apos) [] [] pos) (tMeth C m sp dvs E ta tNil):=by
  intro pins s σ H Q I h
  refine PySem.W.methodCall_KW (pl:=pl) (thn (he pins s σ H _ I h) fun u s1 ⟨x,H1,I1,rx,a,dx,fs,ex,ea,l,q⟩=>?_) ht
  subst ex
  obtain rfl:u=Value.ref a:=rx
  refine zAB I1 ea c hm l ?_
  exact PySem.W.callWith_K0 (first:=[.ref a]) I1.kIn hm.kp (zAt (us:=[.ref a]) (vs:=[.ref a]) F hr hb hd hx I1 (.cons rfl .nil) q)
structure Mk(K:PySem.W.Frag)(C f:Addr):Prop where
  makes:PySem.W.makesIn K C=true
  init:PySem.W.findIn K (.ref C) "__init__"=some (some (.ref f))
  fn:PySem.W.isFn K (.ref f)=true
  kp:PySem.W.keepIn K (.ref C)=true
theorem zBH{pins:List (Addr×Obj)}{σ:St}{H:Hp}{s:Shared}{Q:VK}{us:List Value}{vs:List V}(M:Mk X.K C f)(F:FnOk X.prog X.w X.K X.mg X.base CX k f fd ps sp)(hr:Room (k+1) X.A)(hb:Binds X.K fd ps ds)(hd:Vals dvs ds)
    (hx:Passes CX X E) (I:Inv X pins σ H s) (r:Vals vs us)
    (h:∀x dx,H x=none->H dx=none->dx≠x->sp (.ref x::(vs++dvs)) (upd (upd H dx (.own x)) x (.ins C dx [])) (fun v H2=>v=.non/\Q (.ref x) H2) E):
    wpAny (model X.prog X.w) X.A (call (.ref C) us) (EP X pins σ Q) X.xe s:=by
  have hq:=h (s.heap.objs.size+1) s.heap.objs.size (I.hok.fresh (Nat.le_succ _)) (I.hok.fresh (Nat.le_refl _)) (Nat.ne_of_lt (Nat.lt_succ_self _))
  have I2:=Inv.made (C:=C) I
  have r2:Vals (V.ref (s.heap.objs.size+1)::(vs++dvs)) (Value.ref (s.heap.objs.size+1)::(us++ds)):=.cons rfl (r.append hd)
  have hl:(Value.ref (s.heap.objs.size+1)::us++ds).length=ps.length:=by
    have e:=r2.length
    rw[F.len _ _ _ _ hq] at e
    exact e.symm
  refine wpAny_call (make_map (f:=f) I.kIn M.makes M.init (beq_iff_eq.mp M.fn) (codeAny_mono (F.run _ X.stack _ _ ⟨Value.ref (s.heap.objs.size+1)::us,[]⟩ (Value.ref (s.heap.objs.size+1)::(us++ds)) _ _ E (hr.make C us [])
    (I2.env0.make C us []) (hb _ (Value.ref (s.heap.objs.size+1)::us) I2.kIn hl) r2 hq) fun r s' hq'=>?_))
  cases r with
  |error e=>exact hx pins σ _ _ e s' I2 hq'
  | ok fl =>
    cases fl with
    | ret u =>
      obtain⟨v,H',I3,rv,ev,q3⟩:=I2.after hq'
      subst ev
      exact⟨rv,⟨V.ref (s.heap.objs.size+1),H',I3,rfl,q3⟩⟩
    |next=>exact False.elim hq'
    |brk=>exact False.elim hq'
    |cont=>exact False.elim hq'
theorem pe_make(M:Mk X.K C f)(F:FnOk X.prog X.w X.K X.mg X.base CX k f fd ps sp)(hr:Room (k+1) X.A)(hg:Gl X x)(hm:X.mg x=some (.ref C))(hb:Binds X.K fd ps ds)(hd:Vals dvs ds)(hx:Passes CX X E)
    (ha:PA X (e::es) t) (hdb:(x==("__debug__":Str))=false:=by decide) (he:starEach (e::es) X.env=(false,eval e X.env)::starEach es X.env:=by rfl) (hpl:(backTo pos (starEach es X.env)).any (·.1)=false:=by rfl):
    PE X (.Call (.Name x p) (e::es) [] pos) (tMake C sp dvs E t):=by
  intro pins s σ H Q I h
  refine wpAny_Call_Name_kw (Jb I hg hm ?_ hdb)
  refine PySem.W.callWith_K (h₀:=X.base) I.ok.mod.kin M.kp (thn (ha pos pins s σ H _ I h) fun us s1 ⟨vs,H1,I1,r,q⟩=>⟨I1.kIn,?_⟩) he hpl
  exact zBH M F hr hb hd hx I1 r q
theorem pe_make0(M:Mk X.K C f)(F:FnOk X.prog X.w X.K X.mg X.base CX k f fd ps sp)(hr:Room (k+1) X.A)(hg:Gl X x)(hm:X.mg x=some (.ref C))(hb:Binds X.K fd ps ds)(hd:Vals dvs ds)(hx:Passes CX X E)
    (hdb:(x==("__debug__":Str))=false:=by decide):PE X (.Call (.Name x p) [] [] pos) (tMake C sp dvs E tNil):=by
  intro pins s σ H Q I h
  refine wpAny_Call_Name_kw (Jb I hg hm ?_ hdb)
  exact PySem.W.callWith_K0 I.kIn M.kp (zBH (us:=[]) M F hr hb hd hx I .nil h)
end
section
variable{X:Cx}{CX:CXT}{k:Nat}{f C:Addr}{fd:FuncData}{ps ks:List Str}{sp:Sp}{E:XK}{x m:Str}{p pos apos kpos:Pos}{e o:Expr}{es:List Expr}{kws:List Keyword}{te ta:TE}{t tk:TA}{nm:Option Str}
variable{g:List Value->List Value->List Value}{gV:List V->List V->List V}
end
structure FnScope(N P:List Str)(sc:Scope):Prop where
  kind:sc.kind=.function
  co:sc.isCoroutine=false
  gen:sc.isGenerator=false
  nd:N.Nodup
  pre:N.take P.length=P
  par:∀x∈P,sc.names.lookup x=some .local\/sc.names.lookup x=some .cell
  nofree:∀y∈sc.names,y.2≠.free
theorem zAl{kindOf:Str->Option NameKind}{x:Str}:∀{binds:List (Str×Value)} {m:Str->Option Value},(∀v,(x,v) ∉ binds)->bindL kindOf binds m x=m x
  |[],_,_=>rfl
  | (n, v) :: r, m, h => by
    unfold bindL
    rw[zAl fun w hw=>h w (List.mem_cons_of_mem _ hw)]
    split
    . have:x≠n:=by rintro rfl;exact h v List.mem_cons_self
      simp[this]
    . rfl
theorem zAn{kindOf:Str->Option NameKind}{x:Str}:∀{binds:List (Str×Value)} {m:Str->Option Value},(∀v,(x,v) ∉ binds)->bindC kindOf binds m x=m x
  |[],_,_=>rfl
  | (n, v) :: r, m, h => by
    unfold bindC
    rw[zAn fun w hw=>h w (List.mem_cons_of_mem _ hw)]
    split
    . rfl
    . have:x≠n:=by rintro rfl;exact h v List.mem_cons_self
      simp[this]
theorem zAm{kindOf:Str->Option NameKind}{x:Str}{v:Value}:∀{P:List Str} {vs:List Value} {i:Nat} {m:Str->Option Value},P.Nodup->P[i]?=some x->vs[i]?=some v->kindOf x=some .local->
    bindL kindOf (P.zip vs) m x=some v
  |[],_,_,_,_,h,_,_=>by simp at h
  |_::_,[],_,_,_,_,h,_=>by simp at h
  | p :: P, w :: vs, 0, m, nd, h1, h2, hk => by
    simp at h1 h2;subst h1;subst h2
    show bindL kindOf ((p,w)::P.zip vs) m p=_
    unfold bindL
    rw[zAl fun v hv=>(List.nodup_cons.mp nd).1 (List.of_mem_zip hv).1,if_pos hk]
    simp
  | p :: P, w :: vs, i + 1, m, nd, h1, h2, hk => by
    show bindL kindOf ((p,w)::P.zip vs) m x=_
    unfold bindL
    exact zAm (i:=i) (List.nodup_cons.mp nd).2 (by simpa using h1) (by simpa using h2) hk
theorem zAo{kindOf:Str->Option NameKind}{x:Str}{v:Value}:∀{P:List Str} {vs:List Value} {i:Nat} {m:Str->Option Value},P.Nodup->P[i]?=some x->vs[i]?=some v->kindOf x≠some .local->
    bindC kindOf (P.zip vs) m x=some v
  |[],_,_,_,_,h,_,_=>by simp at h
  |_::_,[],_,_,_,_,h,_=>by simp at h
  | p :: P, w :: vs, 0, m, nd, h1, h2, hk => by
    simp at h1 h2;subst h1;subst h2
    show bindC kindOf ((p,w)::P.zip vs) m p=_
    unfold bindC
    rw[zAn fun v hv=>(List.nodup_cons.mp nd).1 (List.of_mem_zip hv).1,if_neg hk]
    simp
  | p :: P, w :: vs, i + 1, m, nd, h1, h2, hk => by
    show bindC kindOf ((p,w)::P.zip vs) m x=_
    unfold bindC
    exact zAo (i:=i) (List.nodup_cons.mp nd).2 (by simpa using h1) (by simpa using h2) hk
def start(N:List Str)(vs:List V):St:=vs.map some++List.replicate (N.length - vs.length) none
def cxOf(CX:CXT)(P:Program)(w:World)(K:PySem.W.Frag)(mg:Str->Option Value)(base:Heap)(N:List Str)(qual:Str)(scope:Scope)(f:Addr)(cd:Value)(A:Around)(outer:List Env)(s:Shared)(H:Hp)(E:XK):Cx where
  prog:=P
  w:=w
  K:=K
  mg:=mg
  base:=base
  A:=A.deeper (envOfC qual scope s.heap.objs.size f cd)
  N:=N
  s_0:=s
  H_0:=H
  env:=envOfC qual scope s.heap.objs.size f cd
  outer:=outer
  stack:=envOfC qual scope s.heap.objs.size f cd::outer
  ex:=[]
  calm:=true
  fn:=fun _=>true
  pn:=[]
  xe:=fun e s'=>wpAny (model P w) (A.deeper (envOfC qual scope s.heap.objs.size f cd)) (leaving (envOfC qual scope s.heap.objs.size f cd) e) (fun _ s''=>CX outer H s E e s'') (fun e' s''=>CX outer H s E e' s'') s'
theorem zBV{sc:Scope}{n:Nat}{x:Str}(h:sc.names.lookup x=some .cell):∃c,(cellsFrom n sc.names []).lookup x=some c:=by
  have q:=PySem.W.cellsFrom_some sc.names n [] (.inl h)
  exact Option.isSome_iff_exists.mp q
theorem inv_start {CX : CXT} {P : Program} {w : World} {K : PySem.W.Frag} {mg : Str → Option Value} {base : Heap} {N ps : List Str} {qual : Str} {scope : Scope} {f : Addr} {cd : Value} {A : Around} {outer : List Env} {s s1 : Shared} {H : Hp} {E : XK} {us : List Value} {vs : List V}
    (S:FnScope N ps scope) (hd:A.handled=none) (e0:Env0 P w K mg base A outer s H) (hl:vs.length=ps.length) (r:Vals vs us)
    (x:InCallC s s.heap.objs.size (bindL (envOfC qual scope s.heap.objs.size f cd).kindOf (ps.zip us) fun _=>none) (cellsFrom (s.heap.objs.size+1) scope.names []) (bindC (envOfC qual scope s.heap.objs.size f cd).kindOf (ps.zip us) fun _=>none) s1):
    Inv (cxOf CX P w K mg base N qual scope f cd A outer s H E) [] (start N vs) H s1:=by
  have hpl:ps.length<=N.length:=by have:=congrArg List.length S.pre;rw[List.length_take] at this;omega
  obtain⟨h1,tk,rfl,hk⟩:=x.done
  have noA:∀b:Addr,b ∉ (cxOf CX P w K mg base N qual scope f cd A outer s H E).ex:=fun b z=>absurd (show b∈([]:List Addr) from z) (by simp)
  refine⟨⟨e0.mod,S.kind,rfl,rfl,Nat.le_refl _,fun y z c h1 h2=>?_,fun y hy=>?_,fun y c _ h=>?_,fun _=>hd,Around.frames_deeper e0.frames,.inr ⟨rfl,rfl⟩,fun b z=>absurd z (noA b),e0.bs,e0.bsz,fun b _ _=>noA b,fun b z=>absurd z (noA b),e0.funs,e0.frf⟩,
    rfl,e0.bare,Un.kept hk,⟨_,x.toInCall.ns,fun i y v h1 h2 h3=>?_⟩,fun y c h=>⟨_,x.cell y c h⟩,e0.hok.fresh (Nat.le_refl _),fun y c h=>?_,fun p hp=>absurd (show p∈([]:List (Addr×Obj)) from hp) (by simp),e0.hok.kept hk,?_⟩
  . exact name_of_addr x.apart (PySem.mem_of_lookup h1) (PySem.mem_of_lookup h2)
  . have hy:scope.names.lookup y=some .cell\/scope.names.lookup y=some .free:=hy
    rcases hy with hy|hy
    . exact zBV hy
    . exact absurd rfl (S.nofree _ (PySem.mem_of_lookup hy))
  . exact Nat.le_of_lt (x.above y c (PySem.mem_of_lookup h))
  . have hi:i<vs.length:=by
      unfold start at h2
      by_cases hi:i<vs.length
      . exact hi
      . rw[List.getElem?_append_right (by simpa using hi)] at h2
        rw[List.getElem?_replicate] at h2
        split at h2<;>cases h2
    have ha:vs[i]?=some v:=by
      unfold start at h2
      rw[List.getElem?_append_left (by simpa using hi),List.getElem?_map] at h2
      cases e:vs[i]? with
      |none=>rw[e] at h2;cases h2
      |some a=>rw[e] at h2;cases h2;rfl
    obtain⟨u,hu,rv⟩:=r.get ha
    have hp:ps[i]?=some y:=by
      rw[<-S.pre,List.getElem?_take_of_lt (by omega)];exact h1
    have ndP:ps.Nodup:=by rw[<-S.pre];exact S.nd.sublist (List.take_sublist _ _)
    refine⟨u,rv,?_⟩
    rcases S.par y (List.mem_of_getElem? hp) with k|k
    . exact .inl ⟨k,zAm ndP hp hu k⟩
    . obtain⟨c,e⟩:=zBV (n:=s.heap.objs.size+1) k
      refine .inr ⟨.inl k,c,e,?_⟩
      have q:=x.cell y c e
      rw[zAo ndP hp hu (by show scope.names.lookup y≠_;rw[k];decide)] at q
      exact q
  . exact e0.hok.fresh (Nat.le_of_lt (x.above y c (PySem.mem_of_lookup h)))
  . unfold start
    show _=N.length
    rw[List.length_append,List.length_map,List.length_replicate]
    omega
theorem fn_of{CX:CXT}{P:Program}{w:World}{K:PySem.W.Frag}{mg:Str->Option Value}{base:Heap}{k:Nat}{f:Addr}{name qual:Str}{params:Arguments}{body:List Stmt}{scope:Scope}{dV kV doc pm cdv ct oc:Value}{an od:Option Addr}
    {osl:Array (Option Value)} {N ps:List Str} {sp:Sp} (lk:K.lookup f=some ⟨oc,od,.func (PySem.W.fnOf name qual params body scope dV kV doc pm an cdv ct),osl⟩) (hcd:PySem.W.codeIn K cdv qual=true) (S:FnScope N ps scope)
    (len:∀vs H Q E,sp vs H Q E->vs.length=ps.length)
    (hbody:∀(A:Around) (outer:List Env) (s:Shared) (H:Hp) (vs:List V) (Q:VK) (E:XK),Room k (A.deeper (envOfC qual scope s.heap.objs.size f cdv))->sp vs H Q E->
      ∃t,PSs (cxOf CX P w K mg base N qual scope f cdv A outer s H E) body t/\t { nx:=fun _ H'=>Q .non H',rt:=Q } (start N vs) H):
    FnOk P w K mg base CX (k+1) f (PySem.W.fnOf name qual params body scope dV kV doc pm an cdv ct) ps sp:=by
  refine⟨len,fun A outer s H args us vs Q E hr e0 hb r hsp=>?_⟩
  have hl:=len _ _ _ _ hsp
  have KX:K.In s.heap:=e0.mod.kin.keeps fun b o e=>(e0.bs b o e).1
  have lim:s.heap.NoLimit:=e0.mod.nolimit.keeps fun b o e=>(e0.bs b o e).1
  have hkind:∀y∈ps.zip us,scope.names.lookup y.1=some .local\/(scope.names.lookup y.1=some .cell/\((cellsFrom (s.heap.objs.size+1) scope.names []).lookup y.1).isSome=true):=fun⟨n,v⟩ hy=>by
    rcases S.par n (List.of_mem_zip hy).1 with q|q
    . exact .inl q
    . exact .inr ⟨q,PySem.W.cellsFrom_some _ _ _ (.inl q)⟩
  refine codeAny_call_function hr.depth (KX _ _ lk) rfl S.co S.gen rfl (PySem.W.codeRec_of KX hcd) (hb _ _ _ _ ?_)
  refine wpAny_newFunctionEnv_cells S.kind hkind fun env he s1 x=>?_
  subst he
  refine⟨lim.keeps x.toInCall.keep,codeAny_func ?_⟩
  obtain⟨t,ht,hq⟩:=hbody A outer s H vs Q E (hr.deeper _) hsp
  have I:Inv (cxOf CX P w K mg base N qual scope f cdv A outer s H E) [] (start N vs) H s1:=inv_start S hr.hd e0 hl r x
  refine wpAny_mono (ht [] s1 (start N vs) H _ I hq) (fun fl s' hs=>?_) fun e s' hs=>hs
  have fin:∀{σ':St} {H':Hp} {v:V} {u:Value},Inv (cxOf CX P w K mg base N qual scope f cdv A outer s H E) [] σ' H' s'->RelV v u->Q v H'->CE outer P w H s Q u s':=
    fun {σ' H' v u} J rv q=>⟨v,H',J.os,J.bare,J.base,J.hok,rv,q⟩
  cases fl with
  | ret u =>
    obtain⟨v,σ',H',J,rv,q⟩:=hs
    exact fin J rv q
  | next =>
    obtain⟨σ',H',J,q⟩:=hs
    exact fin (v:=V.non) (u:=Value.none) J rfl q
  | brk =>
    obtain⟨_,_,_,q⟩:=hs
    exact False.elim q
  | cont =>
    obtain⟨_,_,_,q⟩:=hs
    exact False.elim q
end L2
namespace L2
open PySem PySem.Spec PyProof.Rows
section
variable{X:Cx}{x:Str}{p pos:Pos}{e:Expr}{es:List Expr}{t:TA}{id T:String}{r:List V->Hp->VK->Prop}
def tCB(r:List V->Hp->VK->Prop)(t:TA):TE:=fun σ H Q=>t σ H fun vs H1=>r vs H1 Q
theorem zU(hc:CallR X (.builtin id) r)(hg:Gl X x)(hm:X.mg x=none)(hv:bootBuiltins x=some (.builtin id))(ha:PA X (e::es) t)(hn:x≠"__name__":=by decide)(hdb:(x==("__debug__":Str))=false:=by decide)
    (he:starEach (e::es) X.env=(false,eval e X.env)::starEach es X.env:=by rfl) (hpl:(backTo pos (starEach es X.env)).any (·.1)=false:=by rfl):PE X (.Call (.Name x p) (e::es) [] pos) (tCB r t):=by
  intro pins s σ H Q I h
  refine wpAny_Call_Name_kw (zBB I hg hm hv ?_ hn hdb)
  exact PyProof.Rows.callWith_builtin1 (thn (ha pos pins s σ H _ I h) fun us s1 ⟨vs,H1,I1,r1,q1⟩=>hc pins s1 σ H1 vs us Q I1 r1 q1) he hpl
theorem pe_callTy(hc:CallR X (.type T) r)(hg:Gl X x)(hm:X.mg x=none)(hv:bootBuiltins x=some (.type T))(ha:PA X (e::es) t)(hn:x≠"__name__":=by decide)(hdb:(x==("__debug__":Str))=false:=by decide)
    (he:starEach (e::es) X.env=(false,eval e X.env)::starEach es X.env:=by rfl) (hpl:(backTo pos (starEach es X.env)).any (·.1)=false:=by rfl):PE X (.Call (.Name x p) (e::es) [] pos) (tCB r t):=by
  intro pins s σ H Q I h
  refine wpAny_Call_Name_kw (zBB I hg hm hv ?_ hn hdb)
  exact PyProof.Rows.callWith_type1 (thn (ha pos pins s σ H _ I h) fun us s1 ⟨vs,H1,I1,r1,q1⟩=>hc pins s1 σ H1 vs us Q I1 r1 q1) he hpl
end
end L2
namespace HT
open PySem PyProof.Rows
def lexLt:List Int->List Int->Bool
  |[],[]=>false
  |[],_::_=>true
  |_::_,[]=>false
  |x::xs,y::ys=>if x=y then lexLt xs ys else decide (x<y)
theorem lexLt_cons(x y:Int)(xs ys:List Int):lexLt (x::xs) (y::ys)=if x=y then lexLt xs ys else decide (x<y):=rfl
theorem lexLt_nil_nil:lexLt [] []=false:=rfl
theorem lexLt_nil_cons(y:Int)(ys:List Int):lexLt [] (y::ys)=true:=rfl
theorem lexLt_cons_nil(x:Int)(xs:List Int):lexLt (x::xs) []=false:=rfl
theorem eqAt_int(A:Around)(s:Shared)(a:Int)(t:Tok)(c:Int)(u:Tok):∃e,SeqAt.EqAt A s (.int a t) (.int c u) e/\(e=true↔a=c):=
  ⟨(a==c),SeqAt.EqAt.int_int a t c u,by simp⟩
theorem rcLt_int(A:Around)(s:Shared)(a:Int)(t:Tok)(c:Int)(u:Tok)(prog:Program)(w:World)(E:Value->Shared->Prop)(Q:Value->Shared->Prop)(h:Q (.bool (decide (a<c))) s):
    wpAny (model prog w) A (richCompare .Lt (.int a t) (.int c u)) Q E s:=
  (PyProof.Rows.lt_int h:wpAny (model prog w) A (compareOp .Lt (.int a t) (.int c u)) Q E s)
section
open PySem.SeqAt
open PySem.AutoSeq1 (wpAny_loadPart')
open PySem.MeetsSeq PySem.MeetsSeq2 PySem.MeetsSeq3
theorem tuple_lt_ints (l b : Addr) (items items2 : Array Value) (n n2 : Nat) (dd dd2 : Option Addr) (sl sl2 : Array (Option Value)) (ns ms : List Int) (hi : IntsAre items.toList ns) (hj : IntsAre items2.toList ms) :
    Meets (Builtin.«tuple.__lt__» ⟨[.ref l,.ref b],[]⟩)
      (fun _ R s=>s.heap.get? l=some { cls:=.type "tuple",dict:=dd,data:=.seq items n,slots:=sl }/\s.heap.get? b=some { cls:=.type "tuple",dict:=dd2,data:=.seq items2 n2,slots:=sl2 }/\
        R (.ok (.ret (.bool (lexLt ns ms)))) s):=
  .of_wp fun prog w A R s h=>by
    obtain⟨hp,g,d,tk,os⟩:=s;obtain⟨hl,hb,h⟩:=h
    have f2:=AutoSeq1.sub_tuple_tuple
    have z1:items.size=ns.length:=by rw[<-hi.length];simp
    have z2:items2.size=ms.length:=by rw[<-hj.length];simp
    wp_walk using wpAny_loadPart' hl,wpAny_loadPart' hb,wpAny_forIn_list _ (fun rest b s'=>b.1=none/\s'=⟨hp,g,d,tk,os⟩/\∃(vs ws:List Value) (ns' ms':List Int),rest=vs.zip ws/\
      IntsAre vs ns'/\IntsAre ws ms'/\ns'.length+items2.size=ms'.length+items.size/\R (.ok (.ret (.bool (lexLt ns' ms')))) ⟨hp,g,d,tk,os⟩) _
    case turn=>
      rintro ⟨y,x⟩ rest b s' ⟨hb',rfl,vs,ws,ns',ms',hz,hvi,hwi,hlen,hR⟩
      cases hvi with
      |nil=>rw[List.zip_nil_left] at hz;cases hz
      | cons a t hvi' =>
        cases hwi with
        |nil=>rw[List.zip_nil_right] at hz;cases hz
        | cons c u hwi' =>
          rw[List.zip_cons_cons] at hz
          injection hz with hyx hrest
          injection hyx with hy hx
          subst hy hx
          rw[lexLt_cons] at hR
          simp only[List.length_cons] at hlen
          obtain⟨e,he,hiff⟩:=eqAt_int A.in1 ⟨hp,g,d,tk,os⟩ a t c u
          refine wpAny_bind (he prog w _ _ ?_)
          cases e with
          | true =>
            rw[if_pos (hiff.mp rfl)] at hR
            wp_walk
            exact⟨rfl,rfl,_,_,_,_,hrest,hvi',hwi',by omega,hR⟩
          | false =>
            rw[if_neg (fun q=>absurd (hiff.mpr q) Bool.false_ne_true)] at hR
            have hri:=rcLt_int A.in1 ⟨hp,g,d,tk,os⟩ a t c u prog w
            wp_walk using hri
            exact⟨_,rfl,by simpa using hR⟩
    case fin=>
      rintro ⟨b1,b2⟩ s' ⟨hb',rfl,vs,ws,ns',ms',hz,hvi,hwi,hlen,hR⟩
      simp only at hb'
      subst hb'
      have hv:lexLt ns' ms'=decide (items.size<items2.size):=by
        cases hvi with
        | nil =>
          cases hwi with
          | nil =>
            simp only[List.length_nil] at hlen
            rw[lexLt_nil_nil]
            exact(decide_eq_false (by omega)).symm
          | cons c u hw =>
            simp only[List.length_nil,List.length_cons] at hlen
            rw[lexLt_nil_cons]
            exact(decide_eq_true (by omega)).symm
        | cons a t hv =>
          cases hwi with
          | nil =>
            simp only[List.length_nil,List.length_cons] at hlen
            rw[lexLt_cons_nil]
            exact(decide_eq_false (by omega)).symm
          | cons c u hw =>
            rw[List.zip_cons_cons] at hz
            cases hz
      rw[hv] at hR
      wp_walk
      exact⟨_,rfl,by simpa [Builtin.Tuple.tupleCompareSizes] using hR⟩
    case h=>
      exact⟨rfl,rfl,items.toList,items2.toList,ns,ms,rfl,hi,hj,by omega,h⟩
end
section
variable{prog:Program}{w:World}{A:Around}{E:Value->Shared->Prop}{s:Shared}
theorem lt_tupInts{l b:Addr}{items items2:Array Value}{ns ms:List Int}{Q:Value->Shared->Prop}(hl:IsTup s.heap l items)(hb:IsTup s.heap b items2)(hi:IntsAre items.toList ns)(hj:IntsAre items2.toList ms)
    (hu:A.units<cLine) (h:Q (.bool (lexLt ns ms)) s):wpAny (model prog w) A (compareOp .Lt (.ref l) (.ref b)) Q E s:=by
  obtain⟨⟨cls,dd,data,sl⟩,ho,hc,n,hd⟩:=id hl
  obtain⟨⟨cls2,dd2,data2,sl2⟩,ho2,hc2,n2,hd2⟩:=id hb
  simp only at hc hd hc2 hd2
  subst hc hd hc2 hd2
  exact richCompare_meets_room (op:=.Lt) ⟨_,ho,rfl⟩ ⟨_,ho2,rfl⟩ PySem.F.slot_tuple_lt PySem.F.entry_tuple_lt (PySem.F.args_tuple_lt_2 _ _) (tuple_lt_ints l b items items2 n n2 dd dd2 sl sl2 ns ms hi hj)
    ⟨ho,ho2,show Value.bool (lexLt ns ms)≠Value.notImplemented/\Q (.bool (lexLt ns ms)) s from ⟨(fun x=>nomatch x),h⟩⟩ hu
def sIx(n d:Nat):Option Int->Nat
  |none=>d
  |some v=>if v<0 then (v+(n:Int)).toNat else min v.toNat n
theorem sIx_nat(n d k:Nat):sIx n d (some (k:Int))=min k n:=by
  show(if (k:Int)<0 then ((k:Int)+(n:Int)).toNat else min (k:Int).toNat n)=min k n
  rw[if_neg (by omega),Int.toNat_natCast]
end
end HT
namespace L2
open PySem PySem.Spec PyProof.Rows
abbrev TO:=St->Hp->(Option Int->Hp->Prop)->Prop
def PO (X : Cx) (e : Option Expr) (t : TO) : Prop :=
  ∀ (pins : List (Addr × Obj)) (s : Shared) (σ : St) (H : Hp) (Q : Option Int → Hp → Prop), Inv X pins σ H s → t σ H Q →
    wpAny (model X.prog X.w) X.A (evalPart e X.env) (fun u s'=>∃o H',Inv X pins σ H' s'/\IsPart u o/\Q o H') X.xe s
def tPart(t:TE):TO:=fun σ H Q=>t σ H fun x H1=>∃i,x=.int i/\Q (some i) H1
theorem jq{ns:List Int}:∀{us:List Value},Vals (ns.map V.int) us->IntsAre us ns:=by
  induction ns with
  |nil=>intro us r;rw[List.map_nil] at r;cases r;exact .nil
  | cons n ns ih =>
    intro us r
    rw[List.map_cons] at r
    cases r with
    | cons r1 r2 =>
      obtain⟨t,e⟩:=r1
      subst e
      exact .cons n t (ih r2)
section
variable{X:Cx}{e:Expr}{te:TE}{lo hi:Option Expr}{tl th:TO}{pos p2:Pos}
theorem zBk(h:PE X e te):PO X (some e) (tPart te):=by
  intro pins s σ H Q I hw
  rw[evalPart_some]
  refine thn (h pins s σ H _ I hw) fun u s1 ⟨x,H1,I1,r1,q1⟩=>?_
  obtain⟨i,rfl,q⟩:=q1
  obtain⟨t,rfl⟩:=r1
  exact⟨some i,H1,I1,.int i t,q⟩
def SlR (X : Cx) (r : V → Option Int → Option Int → Hp → VK → Prop) : Prop :=
  ∀ (pins : List (Addr × Obj)) (s : Shared) (σ : St) (H : Hp) (x : V) (v vl vu : Value) (lo hi : Option Int) (sl : Addr) (Q : VK), Inv X pins σ H s → RelV x v → s.heap.IsSliceOf sl vl vu .none → IsPart vl lo → IsPart vu hi → r x lo hi H Q →
    ∃T id,typeLookup (.type T) "__getitem__"=pure (some (.builtin id))/\s.TypeIs v T/\wpAny (model X.prog X.w) X.A (getItem v (.ref sl)) (EP X pins σ Q) X.xe s
def tSl(r:V->Option Int->Option Int->Hp->VK->Prop)(te:TE)(tl th:TO):TE:=fun σ H Q=>te σ H fun x H1=>tl σ H1 fun l H2=>th σ H2 fun u H3=>r x l u H3 Q
theorem pe_slice{r:V->Option Int->Option Int->Hp->VK->Prop}(hr:SlR X r)(he:PE X e te)(hl:PO X lo tl)(hu:PO X hi th):PE X (.Subscript e (.Slice lo hi none p2) pos) (tSl r te tl th):=by
  intro pins s σ H Q I h
  refine Subscript_ (thn (he pins s σ H _ I h) fun v s1 ⟨x,H1,I1,r1,q1⟩=>?_)
  refine wpAny_Slice (thn (hl pins s1 σ H1 _ I1 q1) fun vl s2 ⟨l,H2,I2,pl,q2⟩=>thn (hu pins s2 σ H2 _ I2 q2) fun vu s3 ⟨u,H3,I3,pu,q3⟩=>?_)
  rw[evalPart_none]
  refine wpAny_pure ?_
  have I4:Inv X pins σ H3 { s3 with heap:=s3.heap.push { cls:=.type "slice",data:=.fields #[vl,vu,.none] } }:=I3.kept (t':=s3.toks) fun b ob q=>Heap.get?_push_of_some _ q
  obtain⟨T,id,hT,ht,hg⟩:=hr pins { s3 with heap:=s3.heap.push { cls:=.type "slice",data:=.fields #[vl,vu,.none] } } σ H3 x v vl vu l u s3.heap.objs.size Q I4 r1 (Heap.IsSliceOf.new ..) pl pu q3
  show wpAny (model X.prog X.w) X.A (subscriptTail e (.Slice lo hi none p2) v (.ref s3.heap.objs.size)) (EP X pins σ Q) X.xe { s3 with heap:=s3.heap.push { cls:=.type "slice",data:=.fields #[vl,vu,.none] } }
  exact tail_any (ops:=[.ref s3.heap.objs.size,v]) ht hT hg (by with_unfolding_all rfl)
def cutV(xs:List V)(lo hi:Option Int):List V:=(xs.drop (HT.sIx xs.length 0 lo)).take (HT.sIx xs.length xs.length hi - HT.sIx xs.length 0 lo)
theorem cutV_length(xs:List V)(lo hi:Option Int):(cutV xs lo hi).length<=xs.length:=by
  unfold cutV
  rw[List.length_take,List.length_drop]
  omega
end
end L2
namespace L2
open PySem PySem.Spec PyProof.Rows
def ixN(n:Nat)(i:Int):Option Nat:=if 0<=i then (if i<n then some i.toNat else none) else if -(n:Int)<=i then some (i+n).toNat else none
def atI{α:Type}(xs:List α)(i:Int):Option α:=(ixN xs.length i).bind fun j=>xs[j]?
theorem ixN_seq{n:Nat}{i:Int}{j:Nat}(h:ixN n i=some j):seqIndex? i n=some j/\j<n /\ -(n:Int)<=i/\i<n:=by
  unfold ixN at h
  by_cases h0:0<=i
  . rw[if_pos h0] at h
    by_cases h1:i<n
    . rw[if_pos h1] at h
      have e:i.toNat=j:=Option.some.inj h
      exact⟨by rw[seqIndex_of h0 h1,e],by omega,by omega,h1⟩
    . rw[if_neg h1] at h;cases h
  . rw[if_neg h0] at h
    by_cases h1 : -(n:Int)<=i
    . rw[if_pos h1] at h
      have e:(i+n).toNat=j:=Option.some.inj h
      exact⟨by rw[seqIndex_neg (by omega) h1,e],by omega,h1,by omega⟩
    . rw[if_neg h1] at h;cases h
theorem zCC{α:Type}{xs:List α}{i:Int}{v:α}(h:atI xs i=some v):∃j,seqIndex? i xs.length=some j/\xs[j]?=some v/\j<xs.length /\ -(xs.length:Int)<=i/\i<xs.length:=by
  unfold atI at h
  cases e:ixN xs.length i with
  |none=>rw[e] at h;cases h
  | some j =>
    rw[e] at h
    obtain⟨h1,h2,h3,h4⟩:=ixN_seq e
    exact⟨j,h1,h,h2,h3,h4⟩
theorem atI_nat{α:Type}{xs:List α}{j:Nat}{v:α}(h:xs[j]?=some v):atI xs (j:Int)=some v:=by
  have hj:j<xs.length:=(List.getElem?_eq_some_iff.mp h).1
  have e:ixN xs.length (j:Int)=some j:=by
    unfold ixN
    rw[if_pos (by omega),if_pos (by omega)];simp
  unfold atI;rw[e];exact h
def PlainIx(b:Expr):Prop:=∀o i,subscripted b false o i=operate [o,i] (getItem o i)
def IxR (X : Cx) (r : R2) : Prop :=
  ∀ (value slice : Expr) (pins : List (Addr × Obj)) (s : Shared) (σ : St) (H : Hp) (x y : V) (v u : Value) (Q : VK), Inv X pins σ H s → RelV x v → RelV y u → r x y H Q →
    subscripted slice false v u=operate [v,u] (getItem v u)->wpAny (model X.prog X.w) X.A (subscriptTail value slice v u) (EP X pins σ Q) X.xe s
def MtR (X : Cx) (id : String) (r : V → List V → Hp → VK → Prop) : Prop :=
  ∀ (pins : List (Addr × Obj)) (s : Shared) (σ : St) (H : Hp) (x : V) (xs : List V) (v : Value) (us : List Value) (Q : VK), Inv X pins σ H s → RelV x v → Vals xs us → r x xs H Q →
    wpAny (model X.prog X.w) X.A (call (.builtin id) (v::us)) (EP X pins σ Q) X.xe s
section
variable{X:Cx}{a b:Expr}{ta tb:TE}{pos:Pos}
theorem zN{r:R2}(hr:IxR X r)(ha:PE X a ta)(hb:PE X b tb)(hs:PlainIx b):PE X (.Subscript a b pos) (tOp r ta tb):=by
  intro pins s σ H Q I h
  exact Subscript_ (binT ha hb I h fun v u s2 x y H2 I2 rx ry q=>hr a b pins s2 σ H2 x y v u Q I2 rx ry q (hs _ _))
def rIxL(K:PySem.W.Frag):R2:=fun x y H Q=>∃p xs i v,x=.ref p/\y=.int i/\SqL K H p xs/\atI xs i=some v/\Q v H
def rIxT(K:PySem.W.Frag):R2:=fun x y H Q=>∃p xs i v,x=.ref p/\y=.int i/\SqT K H p xs/\atI xs i=some v/\Q v H
theorem zO:IxR X (rIxL X.K):=by
  intro value slice pins s σ H x y v u Q I rx ry h hs
  obtain⟨p,xs,i,z,rfl,rfl,hq,he,q⟩:=h
  cases rx
  obtain⟨t,rfl⟩:=ry
  obtain⟨its,r,pl,hz⟩:=I.list hq
  obtain⟨j,h1,h2,h3,h4,h5⟩:=zCC he
  obtain⟨w,ew,rw'⟩:=r.get h2
  have hl:=r.length
  have hn:=line63
  have fin:EP X pins σ Q w s:=⟨z,H,I,rw',q⟩
  by_cases h0:0<=i
  . have hj:i.toNat=j:=by
      rw[seqIndex_of h0 h5] at h1
      exact Option.some.inj h1
    exact item_listR pl.isList h0 (by omega) (by rw[hj];simpa using ew) fin hs
  . have hj:(i+(its.toArray.size:Int)).toNat=j:=by
      rw[seqIndex_neg (by omega) h4] at h1
      rw[List.size_toArray,<-hl]
      exact Option.some.inj h1
    exact subscriptTail_builtinR (x:=w) pl.isList.typeIs slot_list_getitem.lookup
      (wpAny_getItem_list_neg (Q:=fun r s'=>r=w/\EP X pins σ Q r s') pl.isList (by omega) (by rw[List.size_toArray]<;>omega) (by omega) (by rw[hj];simpa using ew) ⟨rfl,fin⟩) hs
theorem zg:IxR X (rIxT X.K):=by
  intro value slice pins s σ H x y v u Q I rx ry h hs
  obtain⟨p,xs,i,z,rfl,rfl,hq,he,q⟩:=h
  cases rx
  obtain⟨t,rfl⟩:=ry
  obtain⟨its,r,pl,hz⟩:=I.tuple hq
  obtain⟨j,h1,h2,h3,h4,h5⟩:=zCC he
  obtain⟨w,ew,rw'⟩:=r.get h2
  have hl:=r.length
  have hn:=line63
  have fin:EP X pins σ Q w s:=⟨z,H,I,rw',q⟩
  exact subscriptTail_builtinR (x:=w) pl.typeIs slot_tuple_getitem.lookup
    (getItem_tuple (j:=j) (Q:=fun r s'=>r=w/\EP X pins σ Q r s') pl (by omega) (by omega) (by rw[List.size_toArray,<-hl];exact h1) (by simpa using ew) ⟨rfl,fin⟩) hs
theorem slice_bounds(lo hi:Option Int)(n:Nat):(sliceBounds lo hi none n).1=((HT.sIx n 0 lo:Nat):Int)/\(sliceBounds lo hi none n).2.1=((HT.sIx n n hi:Nat):Int)/\(sliceBounds lo hi none n).2.2=1:=by
  refine⟨?_,?_,rfl⟩
  . cases lo with
    |none=>simp[sliceBounds,HT.sIx]
    | some i =>
      simp only[sliceBounds,HT.sIx,Option.getD_none,show(1:Int)>0 by decide,if_true]
      by_cases h:i<0
      . simp only[h,if_true]<;>omega
      . simp only[h,if_false]<;>omega
  . cases hi with
    |none=>simp[sliceBounds,HT.sIx]
    | some i =>
      simp only[sliceBounds,HT.sIx,Option.getD_none,show(1:Int)>0 by decide,if_true]
      by_cases h:i<0
      . simp only[h,if_true]<;>omega
      . simp only[h,if_false]<;>omega
theorem slicePick_cut(its:List Value)(lo hi:Option Int):slicePick its.toArray lo hi none=((its.drop (HT.sIx its.length 0 lo)).take (HT.sIx its.length its.length hi - HT.sIx its.length 0 lo)).toArray:=by
  obtain⟨h1,h2,h3⟩:=slice_bounds lo hi its.toArray.size
  unfold slicePick
  rw[h1,h2,h3]
  simp only[sliceRange_one,pick_run,List.size_toArray]<;>rfl
def rSlL(K:PySem.W.Frag):V->Option Int->Option Int->Hp->VK->Prop:=fun x lo hi H Q=>∃a xs,x=.ref a/\SqL K H a xs/\∀p,H p=none->Q (.ref p) (upd H p (.lst (cutV xs lo hi)))
theorem sl_list:SlR X (rSlL X.K):=by
  intro pins s σ H x v vl vu lo hi sl Q I rx hs pl pu h
  obtain⟨a,xs,rfl,hx,q⟩:=h
  cases rx
  obtain⟨its,r,ht,hz⟩:=I.list hx
  have hlen:=r.length
  refine⟨"list",_,slot_list_getitem.lookup,ht.isList.typeIs,?_⟩
  refine wpAny_getItem_list_slice ht.isList hs pl pu .none (by simp) ?_ (by rw[List.size_toArray]<;>omega)
  rw[slicePick_cut,<-hlen]
  refine⟨.ref s.heap.objs.size,_,I.laid (t':=s.toks) (o:=.lst (cutV xs lo hi)) (fun b ob q=>Heap.get?_push_of_some _ q) (Nat.le_refl _) ?_,rfl,q _ (I.hok.fresh (Nat.le_refl _))⟩
  exact⟨Nat.le_trans (cutV_length xs lo hi) hz,_,0,(r.drop (HT.sIx xs.length 0 lo)).take (HT.sIx xs.length xs.length hi - HT.sIx xs.length 0 lo),Heap.get?_push_size _ rfl⟩
def flatV:V->Bool
  |.non=>true
  |.bl _=>true
  |.int _=>true
  |.str _=>true
  |_=>false
def eqV:V->V->Bool
  |.non,.non=>true
  |.bl a,.bl b=>a==b
  |.bl a,.int b=>(if a then 1 else 0)==b
  |.int a,.bl b=>a==(if b then 1 else 0)
  |.int a,.int b=>a==b
  |.str a,.str b=>a==b
  |_,_=>false
theorem eqAt_V{A:Around}{s:Shared}{y x:V}{u v:Value}(ry:RelV y u)(rx:RelV x v)(fy:flatV y=true)(fx:flatV x=true):SeqAt.EqAt A s u v (eqV y x):=by
  cases y with
  | non =>
    cases ry
    cases x with
    |non=>cases rx;exact SeqAt.EqAt.same _
    |bl b=>cases rx;exact SeqAt.EqAt.none_bool b
    |int b=>obtain⟨t,rfl⟩:=rx;exact SeqAt.EqAt.none_int b t
    |str b=>obtain⟨t,rfl⟩:=rx;exact SeqAt.EqAt.none_str b t
    |_=>exact absurd (show false=true from fx) Bool.false_ne_true
  | bl a =>
    cases ry
    cases x with
    |non=>cases rx;exact SeqAt.EqAt.bool_none a
    |bl b=>cases rx;exact SeqAt.EqAt.bool_bool a b
    |int b=>obtain⟨t,rfl⟩:=rx;exact SeqAt.EqAt.bool_int a b t
    |str b=>obtain⟨t,rfl⟩:=rx;exact SeqAt.EqAt.bool_str a b t
    |_=>exact absurd (show false=true from fx) Bool.false_ne_true
  | int a =>
    obtain⟨t',rfl⟩:=ry
    cases x with
    |non=>cases rx;exact SeqAt.EqAt.int_none a t'
    |bl b=>cases rx;exact SeqAt.EqAt.int_bool a t' b
    |int b=>obtain⟨t,rfl⟩:=rx;exact SeqAt.EqAt.int_int a t' b t
    |str b=>obtain⟨t,rfl⟩:=rx;exact SeqAt.EqAt.int_str a t' b t
    |_=>exact absurd (show false=true from fx) Bool.false_ne_true
  | str a =>
    obtain⟨t',rfl⟩:=ry
    cases x with
    |non=>cases rx;exact SeqAt.EqAt.str_none a t'
    |bl b=>cases rx;exact SeqAt.EqAt.str_bool a t' b
    |int b=>obtain⟨t,rfl⟩:=rx;exact SeqAt.EqAt.str_int a t' b t
    |str b=>obtain⟨t,rfl⟩:=rx;exact SeqAt.EqAt.str_str a t' b t
    |_=>exact absurd (show false=true from fx) Bool.false_ne_true
  |_=>exact absurd (show false=true from fy) Bool.false_ne_true
def eqU(x:V)(u:Value):Bool:=match u with
  |.none=>eqV .non x
  |.bool b=>eqV (.bl b) x
  |.int i _=>eqV (.int i) x
  |.str z _=>eqV (.str z) x
  |_=>false
theorem zBD{x y:V}{u:Value}(r:RelV y u)(f:flatV y=true):eqU x u=eqV y x:=by
  cases y with
  |non=>cases r;rfl
  |bl b=>cases r;rfl
  |int i=>obtain⟨t,rfl⟩:=r;rfl
  |str z=>obtain⟨t,rfl⟩:=r;rfl
  |_=>exact absurd (show false=true from f) Bool.false_ne_true
theorem j5{x:V}:∀{xs:List V} {us:List Value},Vals xs us->xs.all flatV=true->us.any (eqU x)=xs.any fun y=>eqV y x
  |_,_,.nil,_=>rfl
  | y :: xs, u :: us, .cons r t, f => by
    rw[List.all_cons,Bool.and_eq_true] at f
    rw[List.any_cons,List.any_cons,zBD r f.1,j5 t f.2]
theorem Qa{A:Around}{s:Shared}{x:V}{v:Value}(rx:RelV x v)(fx:flatV x=true):∀{xs:List V} {us:List Value},Vals xs us->xs.all flatV=true->∀u∈us,SeqAt.EqAt A s u v (eqU x u)
  |_,_,.nil,_=>fun u hu=>by cases hu
  | y :: xs, u :: us, .cons r t, f => fun u' hu => by
    rw[List.all_cons,Bool.and_eq_true] at f
    rcases List.mem_cons.mp hu with rfl|hu
    . rw[zBD r f.1];exact eqAt_V r rx f.1 fx
    . exact Qa rx fx t f.2 u' hu
def inV(x:V)(xs:List V):Bool:=xs.any fun y=>eqV y x
def rIn(K:PySem.W.Frag)(neg:Bool):R2:=fun x y H Q=>∃p xs,y=.ref p/\(SqL K H p xs\/SqT K H p xs)/\flatV x=true/\xs.all flatV=true/\Q (.bl (if neg then !inV x xs else inV x xs)) H
theorem zAZ:OpR X (compareOp .In) (rIn X.K false):=by
  intro pins s σ H x y v u Q I rx ry h
  obtain⟨p,xs,rfl,hq,fx,fs,q⟩:=h
  cases ry
  rcases hq with hq|hq
  . obtain⟨its,r,pl,hz⟩:=I.list hq
    refine SeqAt.in_listAt (eqU x) pl.isList (fun w hw=>Qa rx fx r fs w (by simpa using hw)) ⟨.bl _,H,I,rfl,?_⟩
    rw[show its.toArray.any (eqU x)=its.any (eqU x) by simp,j5 r fs]
    exact q
  . obtain⟨its,r,pl,hz⟩:=I.tuple hq
    refine SeqAt.in_tupleAt (eqU x) pl (fun w hw=>Qa rx fx r fs w (by simpa using hw)) ⟨.bl _,H,I,rfl,?_⟩
    rw[show its.toArray.any (eqU x)=its.any (eqU x) by simp,j5 r fs]
    exact q
theorem Qx:OpR X (compareOp .NotIn) (rIn X.K true):=by
  intro pins s σ H x y v u Q I rx ry h
  obtain⟨p,xs,rfl,hq,fx,fs,q⟩:=h
  cases ry
  rcases hq with hq|hq
  . obtain⟨its,r,pl,hz⟩:=I.list hq
    refine SeqAt.notIn_listAt (eqU x) pl.isList (fun w hw=>Qa rx fx r fs w (by simpa using hw)) ⟨.bl _,H,I,rfl,?_⟩
    rw[show its.toArray.any (eqU x)=its.any (eqU x) by simp,j5 r fs]
    exact q
  . obtain⟨its,r,pl,hz⟩:=I.tuple hq
    refine SeqAt.notIn_tupleAt (eqU x) pl (fun w hw=>Qa rx fx r fs w (by simpa using hw)) ⟨.bl _,H,I,rfl,?_⟩
    rw[show its.toArray.any (eqU x)=its.any (eqU x) by simp,j5 r fs]
    exact q
theorem ZS:CallR X (.builtin "len") (fun xs H Q=>∃p ys,xs=[.ref p]/\(SqL X.K H p ys\/SqT X.K H p ys)/\Q (.int ys.length) H):=by
  intro pins s σ H xs us Q I r h
  obtain⟨p,ys,rfl,hq,q⟩:=h
  obtain⟨u,rfl,rx⟩:=vals1 r
  cases rx
  have hn:=line63
  rcases hq with hq|hq
  . obtain⟨its,r',pl,hz⟩:=I.list hq
    have hlen:=r'.length
    exact Calls.call_len_list pl.isList (by simp only[List.size_toArray]<;>omega) ⟨.int ys.length,H,I.tok _,⟨s.toks+1,by rw[List.size_toArray,hlen]⟩,q⟩
  . obtain⟨its,r',pl,hz⟩:=I.tuple hq
    have hlen:=r'.length
    exact len_tuple pl (by simp only[List.size_toArray]<;>omega) ⟨.int ys.length,H,I.tok _,⟨s.toks+1,by rw[List.size_toArray,hlen]⟩,q⟩
def tyV(K:PySem.W.Frag)(T:String)(x:V)(H:Hp):Prop:=match x with
  |.str _=>T="str"
  |.int _=>T="int"
  |.ref p=>(T="list"/\∃xs,SqL K H p xs)\/(T="tuple"/\∃o,K.lookup p=some o/\o.cls=.type "tuple"/\o.dict=none)\/
      (T="dict"/\((∃kvs,H p=some (.dK kvs))\/∃kvs,H p=some (.dT kvs)))\/(T="set"/\∃S n,H p=some (.set S n))
  |_=>False
theorem tyV_is {pins : List (Addr × Obj)} {σ : St} {H : Hp} {s : Shared} {T : String} {x : V} {v : Value} (I : Inv X pins σ H s) (r : RelV x v) (ty : tyV X.K T x H) :
    s.TypeIs v T/\∀a,v=.ref a->∃ob,s.heap.get? a=some ob/\ob.dict=none:=by
  cases x with
  | str z =>
    obtain⟨t,rfl⟩:=r
    cases (show T="str" from ty)
    exact⟨typeIs_str s z t,fun _ e=>nomatch e⟩
  | int i =>
    obtain⟨t,rfl⟩:=r
    cases (show T="int" from ty)
    exact⟨typeIs_int s i t,fun _ e=>nomatch e⟩
  | ref p =>
    cases r
    rcases ty with⟨rfl,xs,hq⟩|⟨rfl,o,hk,hc,hd⟩|⟨rfl,hk⟩|⟨rfl,S,n,hk⟩
    . obtain⟨its,_,pl,_⟩:=I.list hq
      refine⟨pl.isList.typeIs,fun a e=>?_⟩
      cases e
      obtain⟨o,n,e,c,hd,_⟩:=pl
      exact⟨o,e,hd⟩
    . refine⟨⟨o,I.kIn p o hk,hc⟩,fun a e=>?_⟩
      cases e
      exact⟨o,I.kIn _ o hk,hd⟩
    . have z:∃o,s.heap.get? p=some o/\o.ExactDict:=by
        rcases hk with⟨kvs,hk⟩|⟨kvs,hk⟩
        . obtain⟨_,_,_,_,o,_,_,e,ex,_⟩:=I.hok p _ hk
          exact⟨o,e,ex⟩
        . obtain⟨_,_,_,_,o,_,_,e,ex,_⟩:=I.hok p _ hk
          exact⟨o,e,ex⟩
      obtain⟨o,e,ex⟩:=z
      refine⟨⟨o,e,ex.1⟩,fun a e2=>?_⟩
      cases e2
      exact⟨o,e,ex.2.1⟩
    . obtain⟨o,_,_,_,e,ex,_⟩:=I.hok p _ hk
      refine⟨⟨o,e,ex.1⟩,fun a e2=>?_⟩
      cases e2
      exact⟨o,e,ex.2.1⟩
  |_=>exact False.elim ty
def tBM(K:PySem.W.Frag)(T:String)(r:V->List V->Hp->VK->Prop)(to:TE)(t:TA):TE:=fun σ H Q=>to σ H fun x H1=>tyV K T x H1/\t σ H1 fun xs H2=>r x xs H2 Q
variable{o e:Expr}{es:List Expr}{to:TE}{t:TA}{name:Str}{apos cpos:Pos}{T id:String}{r:V->List V->Hp->VK->Prop}
theorem q0(pa:PlainAttrs T)(slot:Slot T name id)(hty:typeOf (.builtin id)=pure (.type "method_descriptor"))(hm:MtR X id r)(ho:PE X o to)(ha:PA X (e::es) t)
    (hbase:attributeBase o name X.env (eval o X.env)=eval o X.env:=by rfl)
    (hfew:((backTo cpos (starEach (e::es) X.env)).all (fun x=>!x.1)&&(backToKw cpos (keywordEach [] X.env)).all (fun x=>x.1.isSome)
      && decide ((e::es).length+([]:List Keyword).length+(if ([]:List Keyword).isEmpty then 0 else 1)<30))=true:=by rfl)
    (hline:(apos.endLine==cpos.line)=true:=by rfl) (hs:starEach (e::es) X.env=(false,eval e X.env)::starEach es X.env:=by rfl) (hplain:(backTo cpos (starEach es X.env)).any (·.1)=false:=by rfl):
    PE X (.Call (.Attribute o name apos) (e::es) [] cpos) (tBM X.K T r to t):=by
  intro pins s σ H Q I h
  refine wpAny_Call_method_late hbase hfew hline rfl (thn (ho pins s σ H _ I h) fun v s1 ⟨x,H1,I1,r1,ty,q1⟩=>?_)
  obtain⟨h1,h2⟩:=tyV_is I1 r1 ty
  refine⟨T,id,pa,slot,hty,h1,h2,?_⟩
  have hA:=ha cpos pins s1 σ H1 _ I1 q1
  rw[hs] at hA ⊢
  refine Calls.callWith_builtin (by show(false||(backTo cpos (starEach es X.env)).any (·.1))=false;rw[hplain]<;>rfl) (Calls.evalArgs_plain ?_)
  exact thn hA fun us s2 ⟨vs,H2,I2,r2,q2⟩=>hm pins s2 σ H2 x vs v us Q I2 r1 r2 q2
end
end L2
namespace L2
open PySem PySem.Spec PyProof.Rows
def MtM (X : Cx) (id : String) (r : V → List V → Hp → VK → Prop) : Prop :=
  ∀ (pins : List (Addr × Obj)) (s : Shared) (σ : St) (H : Hp) (x : V) (xs : List V) (v : Value) (us : List Value) (Q : VK), Inv X pins σ H s → RelV x v → Vals xs us → r x xs H Q →
    wpAny (model X.prog X.w) X.A (call (.builtin id) (v::us)) (EP X pins σ Q) X.xe s
theorem Vals.one:∀{x:V} {us:List Value},Vals [x] us->∃u,us=[u]/\RelV x u
  |_,_,.cons r .nil=>⟨_,rfl,r⟩
section
variable{X:Cx}{pins:List (Addr×Obj)}{σ:St}{H:Hp}{s:Shared}{l b:Addr}{xs ys zs:List V}
theorem Inv.lset{its its':List Value}{n:Nat}{f:Array Value->Array Value}{t':Nat}(I:Inv X pins σ H s)(hH:H l=some (.lst xs))
    (e:s.heap.get? l=some { cls:=.type "list",data:=.seq its.toArray n }) (hf:f its.toArray=its'.toArray) (hv:Vals ys its') (hz:ys.length<=sizeLine):
    Inv X pins σ (upd H l (.lst ys)) { s with heap:=s.heap.update l (Obj.mapSeq f),toks:=t' }:=by
  have q:=PySem.IsL.update e f
  rw[hf] at q
  refine I.write (x:=l) (e:=l) (by rw[hH];exact trivial) (.inl rfl) (fun b' u hb hu=>(Heap.get?_update_other s.heap (Obj.mapSeq f) (Ne.symm hb)).trans hu) ⟨_,q⟩ ?_
  exact⟨hz,its',_,hv,q⟩
theorem Inv.lnew{its:List Value}{t':Nat}(I:Inv X pins σ H s)(hv:Vals ys its)(hz:ys.length<=sizeLine):
    Inv X pins σ (upd H s.heap.objs.size (.lst ys)) { s with heap:=s.heap.push { cls:=.type "list",data:=.seq its.toArray },toks:=t' }:=
  I.laid (fun _ _ q=>Heap.get?_push_of_some _ q) (Nat.le_refl _) ⟨hz,its,0,hv,Heap.get?_push_size _ rfl⟩
theorem Inv.fresh(I:Inv X pins σ H s):H s.heap.objs.size=none:=I.hok.fresh (Nat.le_refl _)
theorem Inv.lstM(I:Inv X pins σ H s)(hH:H l=some (.lst xs)):xs.length<=sizeLine/\∃(its:List Value) (n:Nat),Vals xs its/\xs.length=its.length/\s.heap.get? l=some { cls:=.type "list",data:=.seq its.toArray n }:=by
  obtain⟨z,its,n,r,e⟩:=I.hok l _ hH
  exact⟨z,its,n,r,r.length,e⟩
theorem notLongL{n:Nat}(h:n<=sizeLine):Builtin.List.listTooLong n=false:=by
  unfold Builtin.List.listTooLong
  exact decide_eq_false (by omega)
end
section
variable{X:Cx}
def rAppend:V->List V->Hp->VK->Prop:=fun x vs H Q=>∃l xs y,x=.ref l/\vs=[y]/\H l=some (.lst xs)/\xs.length<sizeLine/\Q .non (upd H l (.lst (xs++[y])))
theorem qJ:MtM X "list.append" rAppend:=by
  intro pins s σ H x vs v us Q I rx rv h
  obtain⟨l,xs,y,rfl,rfl,hH,hz,q⟩:=h
  cases rx
  obtain⟨u,rfl,ru⟩:=rv.one
  obtain⟨z,its,n,r,hl,e⟩:=I.lstM hH
  refine call_meets F.slot_list_append ⟨_,e,rfl⟩ F.entry_list_append (F.args_list_append_2 _ _) (PySem.list_append l its.toArray n u (by rw[List.size_toArray];omega)) ⟨e,?_⟩
  refine⟨.non,_,I.lset (its':=its++[u]) hH e (by simp) (r.append (.cons ru .nil)) ?_,rfl,q⟩
  rw[List.length_append,List.length_singleton]
  omega
def rExtend:V->List V->Hp->VK->Prop:=fun x vs H Q=>∃l b xs zs,x=.ref l/\vs=[.ref b]/\H l=some (.lst xs)/\H b=some (.lst zs)/\xs.length+zs.length<=sizeLine/\Q .non (upd H l (.lst (xs++zs)))
theorem qk:MtM X "list.extend" rExtend:=by
  intro pins s σ H x vs v us Q I rx rv h
  obtain⟨l,b,xs,zs,rfl,rfl,hH,hB,hz,q⟩:=h
  cases rx
  obtain⟨u,rfl,ru⟩:=rv.one
  cases ru
  obtain⟨z,its,n,r,hl,e⟩:=I.lstM hH
  obtain⟨z2,its2,n2,r2,hl2,e2⟩:=I.lstM hB
  have hsz:its.toArray.size+its2.toArray.size<=sizeLine:=by rw[List.size_toArray,List.size_toArray];omega
  have hlong:¬ (!its.toArray.isEmpty&&Builtin.List.listTooLong (its.toArray.size+its2.toArray.size))=true:=by
    rw[notLongL hsz,Bool.and_false]
    exact Bool.false_ne_true
  refine call_meets F.slot_list_extend ⟨_,e,rfl⟩ F.entry_list_extend (F.args_list_extend_2 _ _)
    (AutoSeq1.list_extend_list_list_0 l its.toArray n b its2.toArray n2 hlong (by rw[List.size_toArray];omega) (by omega)) ⟨e,e2,?_⟩
  refine⟨.non,_,I.lset (its':=its++its2) hH e (by simp) (r.append r2) ?_,rfl,q⟩
  rw[List.length_append]
  omega
def rCat:R2:=fun x y H Q=>∃l b xs zs,x=.ref l/\y=.ref b/\H l=some (.lst xs)/\H b=some (.lst zs)/\xs.length+zs.length<=sizeLine/\∀p,H p=none->Q (.ref p) (upd H p (.lst (xs++zs)))
theorem zCR:OpR X (binaryOp .Add) rCat:=by
  intro pins s σ H x y v u Q I rx ry h
  obtain⟨l,b,xs,zs,rfl,rfl,hH,hB,hz,q⟩:=h
  cases rx
  cases ry
  obtain⟨z,its,n,r,hl,e⟩:=I.lstM hH
  obtain⟨z2,its2,n2,r2,hl2,e2⟩:=I.lstM hB
  refine PySem.P.add_list e e2 ?_ (by rw[List.size_toArray,List.size_toArray];omega)
  have ea:its.toArray++its2.toArray=(its++its2).toArray:=by simp
  rw[ea]
  exact⟨.ref _,_,I.lnew (t':=s.toks) (r.append r2) (by rw[List.length_append];omega),rfl,q _ I.fresh⟩
end
section
variable{prog:Program}{w:World}{A:Around}{E:Value->Shared->Prop}{s:Shared}
end
section
variable{X:Cx}
end
end L2
namespace L2
open PySem PySem.Spec PyProof.Rows
theorem Vals.ints:∀{ns:List Int} {us:List Value},Vals (ns.map V.int) us->IntsAre us ns
  | [], us, h => by
    rw[List.map_nil] at h
    cases h
    exact IntsAre.nil
  | n :: ns, us, h => by
    rw[List.map_cons] at h
    cases h with
    | cons r t =>
      obtain⟨k,rfl⟩:=r
      exact IntsAre.cons n k (Vals.ints t)
theorem Vals.bls:∀{bs:List Bool} {us:List Value},Vals (bs.map V.bl) us->us=bs.map Value.bool
  | [], us, h => by
    rw[List.map_nil] at h
    cases h
    rfl
  | b :: bs, us, h => by
    rw[List.map_cons] at h
    cases h with
    | cons r t =>
      cases r
      rw[Vals.bls t,List.map_cons]
theorem Vals.ref1{a:Addr}{us:List Value}(r:Vals [V.ref a] us):us=[Value.ref a]:=by
  cases r with
  | cons r t =>
    cases t
    cases r
    rfl
section
variable{prog:Program}{w:World}{A:Around}{E:Value->Shared->Prop}{s:Shared}{l:Addr}{its:List Value}{ns:List Int}{Q:Value->Shared->Prop}
theorem max_raw(hh:A.handled=none)(hl:s.heap.IsList l its.toArray)(hi:IntsAre its ns)(hne:0<ns.length)
    (h:∀h' tk M t',(∀b o,s.heap.get? b=some o->h'.get? b=some o)->M∈ns->(∀a,a∈ns->a<=M)->Q (.int M t') { s with heap:=h',toks:=tk }):wpAny (model prog w) A (call (.builtin "max") [.ref l]) Q E s:=by
  obtain⟨xs,e⟩:=hi.allInts.items
  have hn:numsOf (intItems xs).toList=ns:=by rw[<-e];exact hi.numsOf
  rw[nums_intItems] at hn
  subst hn
  rw[e] at hl
  have hsz:0<xs.size:=by simpa using hne
  refine PySem.max_intList hh hl hsz fun v h' tk hv hk=>?_
  obtain⟨t,rfl⟩:=intItems_at hv
  obtain⟨h1,h2⟩:=argBest_gt (numAt xs) (xs.size - 1)
  refine h h' tk _ t hk ?_ fun a ha=>?_
  . rw[numAt_eq];exact PySem.getD_mem (by rw[List.length_map,Array.length_toList];omega)
  . obtain⟨j,hj,rfl⟩:=mem_getD ha
    rw[List.length_map,Array.length_toList] at hj
    rw[<-numAt_eq];exact h2 j (by omega)
theorem min_raw(hh:A.handled=none)(hl:s.heap.IsList l its.toArray)(hi:IntsAre its ns)(hne:0<ns.length)
    (h:∀h' tk M t',(∀b o,s.heap.get? b=some o->h'.get? b=some o)->M∈ns->(∀a,a∈ns->M<=a)->Q (.int M t') { s with heap:=h',toks:=tk }):wpAny (model prog w) A (call (.builtin "min") [.ref l]) Q E s:=by
  obtain⟨xs,e⟩:=hi.allInts.items
  have hn:numsOf (intItems xs).toList=ns:=by rw[<-e];exact hi.numsOf
  rw[nums_intItems] at hn
  subst hn
  rw[e] at hl
  have hsz:0<xs.size:=by simpa using hne
  refine PySem.min_intList hh hl hsz fun v h' tk hv hk=>?_
  obtain⟨t,rfl⟩:=intItems_at hv
  obtain⟨h1,h2⟩:=argBest_lt (numAt xs) (xs.size - 1)
  refine h h' tk _ t hk ?_ fun a ha=>?_
  . rw[numAt_eq];exact PySem.getD_mem (by rw[List.length_map,Array.length_toList];omega)
  . obtain⟨j,hj,rfl⟩:=mem_getD ha
    rw[List.length_map,Array.length_toList] at hj
    rw[<-numAt_eq];exact h2 j (by omega)
end
section
variable{X:Cx}
def rMax(K:PySem.W.Frag):List V->Hp->VK->Prop:=fun vs H Q=>∃(a:Addr) (ns:List Int),vs=[V.ref a]/\SqL K H a (ns.map V.int)/\0<ns.length/\∀m,m∈ns->(∀y,y∈ns->y<=m)->Q (.int m) H
def rMin(K:PySem.W.Frag):List V->Hp->VK->Prop:=fun vs H Q=>∃(a:Addr) (ns:List Int),vs=[V.ref a]/\SqL K H a (ns.map V.int)/\0<ns.length/\∀m,m∈ns->(∀y,y∈ns->m<=y)->Q (.int m) H
theorem zAG(hc:X.calm=true):CallR X (.builtin "max") (rMax X.K):=by
  intro pins s σ H vs us Q I r h
  obtain⟨a,ns,rfl,hs,hne,q⟩:=h
  obtain⟨its,rv,hl,_⟩:=I.list hs
  rw[Vals.ref1 r]
  exact max_raw (I.ok.hd hc) hl.isList rv.ints hne fun h' tk m t' hk h1 h2=>⟨.int _,H,I.kept hk,⟨_,rfl⟩,q m h1 h2⟩
theorem zBf(hc:X.calm=true):CallR X (.builtin "min") (rMin X.K):=by
  intro pins s σ H vs us Q I r h
  obtain⟨a,ns,rfl,hs,hne,q⟩:=h
  obtain⟨its,rv,hl,_⟩:=I.list hs
  rw[Vals.ref1 r]
  exact min_raw (I.ok.hd hc) hl.isList rv.ints hne fun h' tk m t' hk h1 h2=>⟨.int _,H,I.kept hk,⟨_,rfl⟩,q m h1 h2⟩
end
section
variable{X:Cx}
def rIndex(K:PySem.W.Frag):V->List V->Hp->VK->Prop:=fun x xs H Q=>∃(a:Addr) (ys:List V) (y:V) (j:Nat) (z:V),x=V.ref a/\xs=[y]/\SqL K H a ys/\flatV y=true/\ys.all flatV=true/\ys[j]?=some z/\eqV z y=true/\
  (∀(m:Nat) (z':V),m<j->ys[m]?=some z'->eqV z' y=false)/\Q (.int (j:Nat)) H
theorem zBu{ys:List V}(f:ys.all flatV=true){j:Nat}{z:V}(h:ys[j]?=some z):flatV z=true:=List.all_eq_true.mp f z (List.mem_of_getElem? h)
theorem mt_index:MtR X "list.index" (rIndex X.K):=by
  intro pins s σ H x xs v us Q I rx rxs h
  obtain⟨a,ys,y,j,z,rfl,rfl,hs,fy,fys,hz,hzj,hno,q⟩:=h
  cases rx
  cases rxs with
  | cons ry rt =>
    rename_i uy ut
    cases rt
    obtain⟨its,rv,⟨⟨cls,dd,data,sl⟩,n,ho,hc,hdn,hd⟩,hlen⟩:=I.list hs
    simp only at hc hd
    subst hc hd
    obtain⟨u,hu,ru⟩:=rv.get hz
    obtain⟨hjl,hje⟩:=List.getElem?_eq_some_iff.mp hu
    have hvl:=rv.length
    have hj:j<its.toArray.size:=by simpa using hjl
    have hsl:=sizeLine_eq
    refine call_meets PySem.F.slot_list_index ⟨_,ho,rfl⟩ PySem.F.entry_list_index (PySem.F.args_list_index_2 _ _)
      (SeqAt.list_indexAt a its.toArray n dd sl uy (eqU y) j hj (by omega) ?_ ?_) ⟨ho,fun u' hu'=>Qa ry fy rv fys u' (by simpa using hu'),?_⟩
    . have e1:its.toArray[j]=u:=by simpa using hje
      rw[e1,zBD ru (zBu fys hz)]
      exact hzj
    . intro m hm hmj
      have hml:m<its.length:=by simpa using hm
      have hmy:m<ys.length:=by omega
      have hy':ys[m]?=some ys[m]:=List.getElem?_eq_getElem hmy
      obtain⟨u2,hu2,ru2⟩:=rv.get hy'
      obtain⟨_,hme⟩:=List.getElem?_eq_some_iff.mp hu2
      have e1:its.toArray[m]=u2:=by simpa using hme
      rw[e1,zBD ru2 (zBu fys hy')]
      exact hno m _ hmj hy'
    . exact⟨.int (j:Nat),H,I.tok _,⟨_,rfl⟩,q⟩
end
section
variable{X:Cx}
end
theorem zBQ{prog:Program}{w:World}{A:Around}{E:Value->Shared->Prop}{s:Shared}{l:Addr}{items:Array Value}{Q:Value->Shared->Prop}(hl:s.heap.IsList l items)
    (h:∀s₂:Shared,s₂={ s with heap:=s.heap.push { cls:=.type "list_iterator",data:=.fields #[.ref l,.int 0 0] } }->
      (s₂.heap.IsListIter s.heap.objs.size l 0/\s₂.heap.IsList l items)->l≠s.heap.objs.size->Q (.ref s.heap.objs.size) s₂):wpAny (model prog w) A (pyIter (.ref l)) Q E s:=by
  have hlt:l<s.heap.objs.size:=by obtain⟨_,e,_⟩:=hl;exact Heap.lt_size e
  exact wpAny_pyIter_list hl (h _ rfl ⟨⟨_,Heap.get?_push_size _ rfl,rfl,rfl⟩,hl.push _⟩ (Nat.ne_of_lt hlt))
theorem truth_bools{prog:Program}{w:World}{A:Around}{bs:List Bool}{its:List Value}(e:its=bs.map Value.bool):
    TruthOf prog w A (fun i v=>its.toArray[i]?=some v) (fun i=>bs.getD i false):=fun i v s Q E hv hq=>by
  have hv':its[i]?=some v:=by simpa using hv
  rw[e,List.getElem?_map] at hv'
  obtain⟨b,hb,rfl⟩:=Option.map_eq_some_iff.mp hv'
  have hg:bs.getD i false=b:=by rw[List.getD_eq_getElem?_getD,hb]<;>rfl
  have hq':Q (bs.getD i false) s:=hq
  rw[hg] at hq'
  exact wpAny_truthy_bool hq'
theorem zAp:∀bs:List Bool,(List.range bs.length).any (fun i=>bs.getD i false)=bs.any id
  |[]=>rfl
  | b :: bs => by
    rw[List.length_cons,List.range_succ_eq_map,List.any_cons,List.any_map,List.any_cons,<-zAp bs]
    all_goals rfl
section
variable{X:Cx}
def rAny(K:PySem.W.Frag):List V->Hp->VK->Prop:=fun vs H Q=>∃(a:Addr) (bs:List Bool),vs=[V.ref a]/\SqL K H a (bs.map V.bl)/\Q (.bl (bs.any id)) H
theorem zCY(hc:X.calm=true):CallR X (.builtin "any") (rAny X.K):=by
  intro pins s σ H vs us Q I r h
  obtain⟨a,bs,rfl,hs,q⟩:=h
  obtain⟨its,rv,hl,_⟩:=I.list hs
  rw[Vals.ref1 r]
  have hb:=rv.bls
  refine call_any_walk (zBQ hl.isList fun s₂ e2 st hne=>?_)
  subst e2
  refine⟨_,_,_,_,_,_,_,rfl,Walks.list (A:=X.A.in1) (I.ok.hd hc) _ a hne its.toArray,st,truth_bools hb,fun h' tk hk=>?_⟩
  refine⟨.bl _,H,I.kept fun b o eo=>hk b o (fun hmem=>?_) (Heap.get?_push_of_some _ eo),?_,q⟩
  . rcases List.mem_cons.mp hmem with e1|hmem
    . exact absurd (e1▸Heap.lt_size eo) (Nat.lt_irrefl _)
    . cases hmem
  . show Value.bool _=Value.bool _
    rw[<-zAp,hb,List.size_toArray,List.length_map]
end
mutual
inductive Dp(K:PySem.W.Frag)(H:Hp):V->PyData->Prop
  |non:Dp K H .non .none
  |bl (b:Bool):Dp K H (.bl b) (.bool b)
  |int (i:Int):Dp K H (.int i) (.int i)
  |str (x:Str):Dp K H (.str x) (.str x)
  |lst {a:Addr} {xs:List V} {ds:List PyData}:SqL K H a xs->DpAll K H xs ds->Dp K H (.ref a) (.list ds)
  |tup {a:Addr} {xs:List V} {ds:List PyData}:SqT K H a xs->DpAll K H xs ds->Dp K H (.ref a) (.tuple ds)
inductive DpAll(K:PySem.W.Frag)(H:Hp):List V->List PyData->Prop
  |nil:DpAll K H [] []
  |cons {v:V} {vs:List V} {d:PyData} {ds:List PyData}:Dp K H v d->DpAll K H vs ds->DpAll K H (v::vs) (d::ds)
end
section
variable{X:Cx}{pins:List (Addr×Obj)}{σ:St}{H:Hp}{s:Shared}
mutual
theorem Dp.reads(I:Inv X pins σ H s):∀(d:PyData) (v:V) (u:Value),Dp X.K H v d->RelV v u->∃as,Reads s.heap u d as
  | .none, _, _, h, r => by
    cases h
    cases r
    exact⟨_,Reads.none⟩
  | .bool b, _, _, h, r => by
    cases h
    cases r
    exact⟨_,Reads.bool b⟩
  | .int i, _, _, h, r => by
    cases h
    obtain⟨t,rfl⟩:=r
    exact⟨_,Reads.int i t⟩
  | .str x, _, _, h, r => by
    cases h
    obtain⟨t,rfl⟩:=r
    exact⟨_,Reads.str x t⟩
  | .list ds, _, _, h, r => by
    cases h with
    | lst hs ha =>
      cases r
      obtain⟨its,rv,⟨o,n,ho,hc,_,hd⟩,_⟩:=I.list hs
      obtain⟨as,hr⟩:=Dp.readsAll I ds _ its ha rv
      exact⟨_,Reads.list ho hc hd hr⟩
  | .tuple ds, _, _, h, r => by
    cases h with
    | tup hs ha =>
      cases r
      obtain⟨its,rv,⟨o,ho,hc,n,hd⟩,_⟩:=I.tuple hs
      obtain⟨as,hr⟩:=Dp.readsAll I ds _ its ha rv
      exact⟨_,Reads.tuple ho hc hd hr⟩
  |.dict _,_,_,h,_=>by cases h
theorem Dp.readsAll (I : Inv X pins σ H s) : ∀ (ds : List PyData) (vs : List V) (us : List Value), DpAll X.K H vs ds → Vals vs us → ∃ as, ReadsAll s.heap us ds as
  | [], _, _, h, r => by
    cases h
    cases r
    exact⟨_,ReadsAll.nil⟩
  | d :: ds, _, _, h, r => by
    cases h with
    | cons h1 h2 =>
      cases r with
      | cons r1 r2 =>
        obtain⟨as,q1⟩:=Dp.reads I d _ _ h1 r1
        obtain⟨bs,q2⟩:=Dp.readsAll I ds _ _ h2 r2
        exact⟨_,ReadsAll.cons q1 q2⟩
end
end
section
variable{X:Cx}
def rNeD(K:PySem.W.Frag):R2:=fun x y H Q=>∃d e,Dp K H x d/\Dp K H y e/\SeqAt.shaped d=true/\SeqAt.shaped e=true/\Q (.bl (!PyData.eqv d e)) H
theorem op_neD(hu:X.A.units+64<cLine):OpR X (compareOp .NotEq) (rNeD X.K):=by
  intro pins s σ H x y v u Q I rx ry h
  obtain⟨d,e,hd,he,sd,se,q⟩:=h
  obtain⟨as,r1⟩:=Dp.reads I d x v hd rx
  obtain⟨bs,r2⟩:=Dp.reads I e y u he ry
  exact SeqAt.compareNe_shaped r1 r2 sd se hu ⟨.bl _,H,I,rfl,q⟩
end
end L2
namespace L2
open PySem PySem.Spec PyProof.Rows
abbrev CellAt(h:Heap)(c:Addr)(v:Option Value):Prop:=h.IsCell c v
def relS(scope sc:Scope):Scope:=
  { scope with names:=scope.names.map fun(n,k)=>if (k==.free&&sc.kind==.function&&sc.names.lookup n==some .cell) then (n,.cell) else (n,k) }
def cloFrom(cells:List (Str×Addr)):List (Str×NameKind)->List (Str×Addr)->List (Str×Addr)
  |[],acc=>acc
  |(n,k)::r,acc=>if k==.free then cloFrom cells r ((n,(cells.lookup n).getD 0)::acc) else cloFrom cells r acc
theorem j3(env:Env)(f:Str×NameKind->List (Str×Addr)->Sem (ForInStep (List (Str×Addr))))
    (hf:∀n k c,f (n,k) c=if k==.free then (do let a <-cellOf env n;pure (.yield ((n,a)::c))) else pure (.yield c)):
    ∀(names:List (Str×NameKind)) (acc:List (Str×Addr)),(∀y∈names,y.2=.free->∃c,env.cells.lookup y.1=some c)->forIn names acc f=pure (cloFrom env.cells names acc)
  |[],acc,_=>by rw[List.forIn_nil];rfl
  | (n, k) :: r, acc, h => by
    rw[List.forIn_cons,hf]
    have ih:=fun acc=>j3 env f hf r acc fun y hy=>h y (List.mem_cons_of_mem _ hy)
    unfold cloFrom
    by_cases hk:(k==NameKind.free)=true
    . rw[if_pos hk,if_pos hk]
      obtain⟨c,hc⟩:=h (n,k) List.mem_cons_self (by simpa using hk)
      have e:cellOf env n=pure c:=by unfold cellOf;rw[hc]
      rw[e]
      have e2:(env.cells.lookup n).getD 0=c:=by rw[hc];rfl
      rw[e2]
      exact ih _
    . rw[if_neg hk,if_neg hk]
      exact ih _
theorem closure_ok{scope:Scope}{env:Env}(h:∀y∈scope.names,y.2=.free->∃c,env.cells.lookup y.1=some c):closureFor scope env=pure (cloFrom env.cells scope.names []):=by
  simp only[closureFor]
  rw[j3 env _ (fun n k c=>rfl) scope.names [] h]
  rfl
theorem jn{α:Type}:∀{l:List (Str×α)} {n:Str} {c:α},(n,c)∈l->∃c',l.lookup n=some c'
  | (k, v) :: r, n, c, h => by
    rw[List.lookup_cons]
    cases hb:n==k with
    |true=>exact⟨_,rfl⟩
    | false =>
      rcases List.mem_cons.mp h with e|h
      . cases e;simp at hb
      . exact jn h
theorem cloFrom_mem {cells : List (Str × Addr)} : ∀ {names : List (Str × NameKind)} {acc : List (Str × Addr)} {n : Str} {c : Addr}, (n, c) ∈ cloFrom cells names acc → (n, c) ∈ acc ∨ ((n, .free) ∈ names ∧ c = (cells.lookup n).getD 0)
  |[],_,_,_,h=>.inl h
  | (m, k) :: r, acc, n, c, h => by
    unfold cloFrom at h
    split at h
    . rename_i hk
      have hk:k=.free:=by simpa using hk
      rcases cloFrom_mem h with h|⟨h1,h2⟩
      . rcases List.mem_cons.mp h with e|h
        . cases e;exact .inr ⟨hk▸List.mem_cons_self,rfl⟩
        . exact .inl h
      . exact .inr ⟨List.mem_cons_of_mem _ h1,h2⟩
    . rcases cloFrom_mem h with h|⟨h1,h2⟩
      . exact .inl h
      . exact .inr ⟨List.mem_cons_of_mem _ h1,h2⟩
theorem jF{cells:List (Str×Addr)}:∀{names:List (Str×NameKind)} {acc:List (Str×Addr)} {p:Str×Addr},p∈acc->p∈cloFrom cells names acc
  |[],_,_,h=>h
  | (m, k) :: r, acc, p, h => by
    unfold cloFrom
    split
    . exact jF (List.mem_cons_of_mem _ h)
    . exact jF h
theorem jE{cells:List (Str×Addr)}:∀{names:List (Str×NameKind)} {acc:List (Str×Addr)} {n:Str},(n,.free)∈names->(n,(cells.lookup n).getD 0)∈cloFrom cells names acc
  | (m, k) :: r, acc, n, h => by
    unfold cloFrom
    rcases List.mem_cons.mp h with e|h
    . cases e
      exact jF List.mem_cons_self
    . split
      . exact jE h
      . exact jE h
theorem cells_mem : ∀ {names : List (Str × NameKind)} {h : Heap} {acc : List (Str × Addr)} {x : Str} {c : Addr}, (x, c) ∈ cellsFrom h.objs.size names acc →
    (x,c)∈acc\/((x,.cell)∈names/\h.objs.size<=c/\CellAt (pushCells h names) c none)
  |[],_,_,_,_,h=>.inl h
  | (n, k) :: r, h, acc, x, c, hm => by
    unfold cellsFrom at hm
    unfold pushCells
    split at hm
    . rename_i hk
      rw[if_pos hk]
      have hk:k=.cell:=by simpa using hk
      rw[<-Heap.size_push h { cls:=.type "cell",data:=.cell none }] at hm
      rcases cells_mem hm with hm|⟨h1,h2,h3⟩
      . rcases List.mem_cons.mp hm with e|hm
        . cases e
          exact .inr ⟨hk▸List.mem_cons_self,Nat.le_refl _,_,pushCells_keeps r _ _ _ (Heap.get?_push_size _ rfl),rfl⟩
        . exact .inl hm
      . rw[Heap.size_push] at h2
        exact .inr ⟨List.mem_cons_of_mem _ h1,Nat.le_of_succ_le h2,h3⟩
    . rename_i hk
      rw[if_neg hk]
      rcases cells_mem hm with hm|⟨h1,h2,h3⟩
      . exact .inl hm
      . exact .inr ⟨List.mem_cons_of_mem _ h1,h2,h3⟩
theorem jQ:∀{names:List (Str×NameKind)} {n:Nat} {acc:List (Str×Addr)} {p:Str×Addr},p∈acc->p∈cellsFrom n names acc
  |[],_,_,_,h=>h
  | (m, k) :: r, n, acc, p, h => by
    unfold cellsFrom
    split
    . exact jQ (List.mem_cons_of_mem _ h)
    . exact jQ h
theorem JP:∀{names:List (Str×NameKind)} {n:Nat} {acc:List (Str×Addr)} {x:Str},(x,.cell)∈names->∃c,(x,c)∈cellsFrom n names acc
  | (m, k) :: r, n, acc, x, h => by
    unfold cellsFrom
    rcases List.mem_cons.mp h with e|h
    . cases e
      exact⟨n,jQ List.mem_cons_self⟩
    . split
      . exact JP h
      . exact JP h
theorem cells_inj : ∀ {names : List (Str × NameKind)} {h : Heap} {acc : List (Str × Addr)} {x y : Str} {c : Addr}, (∀ p ∈ acc, p.2 < h.objs.size) → (∀ x y c, (x, c) ∈ acc → (y, c) ∈ acc → x = y) →
    (x,c)∈cellsFrom h.objs.size names acc->(y,c)∈cellsFrom h.objs.size names acc->x=y
  |[],_,_,_,_,_,_,hi,h1,h2=>hi _ _ _ h1 h2
  | (n, k) :: r, h, acc, x, y, c, hl, hi, h1, h2 => by
    unfold cellsFrom at h1 h2
    split at h1
    . rename_i hk
      rw[if_pos hk] at h2
      rw[<-Heap.size_push h { cls:=.type "cell",data:=.cell none }] at h1 h2
      refine cells_inj (h:=h.push _) (fun p hp=>?_) (fun x y c a b=>?_) h1 h2
      . rw[Heap.size_push]
        rcases List.mem_cons.mp hp with rfl|hp
        . exact Nat.lt_succ_self _
        . exact Nat.lt_succ_of_lt (hl p hp)
      . rcases List.mem_cons.mp a with e|a<;>rcases List.mem_cons.mp b with e'|b
        . cases e;cases e';rfl
        . cases e;exact absurd (hl _ b) (Nat.lt_irrefl _)
        . cases e';exact absurd (hl _ a) (Nat.lt_irrefl _)
        . exact hi _ _ _ a b
    . rename_i hk
      rw[if_neg hk] at h2
      exact cells_inj hl hi h1 h2
theorem newEnv_comp{M:Model}{A:Around}{E:Value->Shared->Prop}{s:Shared}{scope:Scope}{globals:Addr}{closure:List (Str×Addr)}{qual:Str}{func:Option Addr}{code:Value}{around:Env}{builtins:Addr}{Q:Env->Shared->Prop}
    (h:Q (newEnv scope s.heap.objs.size globals (cellsFrom (s.heap.objs.size+1) scope.names closure) qual func code (some around) builtins)
      { s with heap:=pushCells (s.heap.push { cls:=.type "dict",data:=.dict #[] }) scope.names }):
    wpAny M A (newFunctionEnv scope globals closure [] qual func code (some around) builtins) Q E s:=by
  simp only[newFunctionEnv,Option.isSome_some,if_true]
  refine wpAny_bind (wpAny_alloc ?_)
  refine wpAny_bind (wpAny_layCells _ (fun n k c=>rfl) scope.names closure _ _ ?_)
  rw[show({ s with heap:=s.heap.push { cls:=.type "dict",data:=.dict #[] } }:Shared).heap.objs.size=s.heap.objs.size+1 from Heap.size_push ..]
  rw[List.forIn_nil]
  exact wpAny_bind (wpAny_pure (wpAny_pure h))
theorem lookup_relS {sc : Scope} : ∀ {names : List (Str × NameKind)} {x : Str} {k : NameKind},
    (names.map fun(n,k)=>if (k==NameKind.free&&sc.kind==.function&&sc.names.lookup n==some .cell) then (n,NameKind.cell) else (n,k)).lookup x=some k->
    ∃k',names.lookup x=some k'/\(k=k'\/(k'=.free/\k=.cell))
  |[],_,_,h=>by simp at h
  | (n, k₀) :: r, x, k, h => by
    have ih:=@lookup_relS sc r x k
    have h':List.lookup x ((if (k₀==NameKind.free&&sc.kind==.function&&sc.names.lookup n==some .cell)=true then (n,NameKind.cell) else (n,k₀))::(r.map _))=some k:=h
    cases hx:x==n with
    | true =>
      simp only[List.lookup_cons,hx]
      by_cases hc:(k₀==NameKind.free&&sc.kind==.function&&sc.names.lookup n==some .cell)=true
      . rw[if_pos hc] at h'
        simp only[List.lookup_cons,hx] at h'
        cases h'
        simp only[Bool.and_eq_true,beq_iff_eq] at hc
        exact⟨k₀,rfl,.inr ⟨hc.1.1,rfl⟩⟩
      . rw[if_neg hc] at h'
        simp only[List.lookup_cons,hx] at h'
        cases h'
        exact⟨_,rfl,.inl rfl⟩
    | false =>
      simp only[List.lookup_cons,hx]
      by_cases hc:(k₀==NameKind.free&&sc.kind==.function&&sc.names.lookup n==some .cell)=true
      . rw[if_pos hc] at h'
        simp only[List.lookup_cons,hx] at h'
        exact ih h'
      . rw[if_neg hc] at h'
        simp only[List.lookup_cons,hx] at h'
        exact ih h'
structure BlkOk(N:List Str)(sc scope:Scope)(own:List (Str×Nat)):Prop where
  kind:scope.kind=.function
  uniq:∀y∈scope.names,scope.names.lookup y.1=some y.2
  ix:∀p∈own,N[p.2]?=some p.1
  free:∀y∈scope.names,y.2=.free->sc.names.lookup y.1=some .cell\/sc.names.lookup y.1=some .free
  own:∀y∈scope.names,y.2=.local\/y.2=.cell->y.1∈own.map (·.1)\/y.1 ∉ N
def wipe(σ:St):List Nat->St
  |[]=>σ
  |v::vs=>(wipe σ vs).set v none
theorem Q4(σ:St):∀vs:List Nat,(wipe σ vs).length=σ.length
  |[]=>rfl
  |v::vs=>by unfold wipe;rw[List.length_set,Q4 σ vs]
theorem wipe_some{σ:St}{i:Nat}{x:V}:∀{vs:List Nat},(wipe σ vs)[i]?=some (some x)->σ[i]?=some (some x)/\i ∉ vs
  |[],h=>⟨h,by simp⟩
  | v :: vs, h => by
    unfold wipe at h
    by_cases hi:v=i
    . subst hi
      by_cases hv:v<(wipe σ vs).length
      . rw[List.getElem?_set_self hv] at h;cases h
      . rw[List.getElem?_eq_none (by simpa using hv)] at h;cases h
    . rw[List.getElem?_set_ne hi] at h
      obtain⟨h1,h2⟩:=wipe_some h
      exact⟨h1,by simp only[List.mem_cons,not_or];exact⟨fun e=>hi e.symm,h2⟩⟩
abbrev Cx.blk(X:Cx)(s:Shared)(H:Hp)(scope:Scope)(cenv:Env)(fp:List Addr):Cx:={ X with s_0:=s,H_0:=H,env:=cenv,outer:=X.stack,ex:=fp,fn:=fun x=>scope.names.lookup x==some .cell,pn:=[],xe:=fun _ _=>False }
section
variable{X:Cx}{pins:List (Addr×Obj)}{σ:St}{H:Hp}{s:Shared}
theorem block_start {scope : Scope} {own : List (Str × Nat)} {fp : List Addr} (I : Inv X pins σ H s) (ok : BlkOk X.N X.env.scope scope own) (hN : X.N.Nodup) (hfp : ∀ b ∈ fp, FpOk X pins H b ∧ b < s.heap.objs.size) :
    Inv (X.blk s H scope (compEnvC scope (cellsFrom (s.heap.objs.size+1) scope.names (cloFrom X.env.cells scope.names [])) s.heap.objs.size X.env) fp) [] (wipe σ (own.map (·.2))) H { s with heap:=pushCells (s.heap.push { cls:=.type "dict",data:=.dict #[] }) scope.names }:=by
  have hfree:∀y∈scope.names,y.2=.free->∃c,X.env.cells.lookup y.1=some c:=fun y hy e=>by
    rcases ok.free y hy e with k|k
    . exact I.ok.has _ (.inl k)
    . exact I.ok.has _ (.inr k)
  generalize hcenv:compEnvC scope (cellsFrom (s.heap.objs.size+1) scope.names (cloFrom X.env.cells scope.names [])) s.heap.objs.size X.env=cenv
  have kp:∀b o,s.heap.get? b=some o->(pushCells (s.heap.push { cls:=.type "dict",data:=.dict #[] }) scope.names).get? b=some o:=fun b o e=>pushCells_keeps _ _ _ _ (Heap.get?_push_of_some _ e)
  have hL:cenv.locals=s.heap.objs.size:=by rw[<-hcenv];rfl
  have hcl:cenv.cells=cellsFrom (s.heap.objs.size+1) scope.names (cloFrom X.env.cells scope.names []):=by rw[<-hcenv];rfl
  have hsc:cenv.scope=relS scope X.env.scope:=by rw[<-hcenv];rfl
  rw[<-Heap.size_push s.heap { cls:=.type "dict",data:=.dict #[] }] at hcl
  have cm:∀{y c},(y,c)∈cloFrom X.env.cells scope.names []->X.env.cells.lookup y=some c/\c<s.heap.objs.size:=fun {y c} hm=>by
    rcases cloFrom_mem hm with hm|⟨h1,rfl⟩
    . cases hm
    . obtain⟨c,hc⟩:=hfree _ h1 rfl
      rw[hc]
      obtain⟨w,z⟩:=I.cell _ _ hc
      exact⟨rfl,z.lt⟩
  have mem:∀{y c},cenv.cells.lookup y=some c->(X.env.cells.lookup y=some c/\c<s.heap.objs.size)\/(s.heap.objs.size+1<=c/\CellAt (pushCells (s.heap.push { cls:=.type "dict",data:=.dict #[] }) scope.names) c none):=fun {y c} e=>by
    rw[hcl] at e
    rcases cells_mem (PySem.mem_of_lookup e) with hm|⟨_,h2,h3⟩
    . exact .inl (cm hm)
    . rw[Heap.size_push] at h2;exact .inr ⟨h2,h3⟩
  have look:∀{y},scope.names.lookup y=some .free->∃c,cenv.cells.lookup y=some c/\X.env.cells.lookup y=some c:=fun {y} hl=>by
    have hy:(y,NameKind.free)∈scope.names:=PySem.mem_of_lookup hl
    obtain⟨c',e'⟩:=jn (jQ (names:=scope.names) (n:=(s.heap.push { cls:=.type "dict",data:=.dict #[] }).objs.size) (jE (cells:=X.env.cells) (acc:=[]) hy))
    rw[<-hcl] at e'
    refine⟨c',e',?_⟩
    rw[hcl] at e'
    rcases cells_mem (PySem.mem_of_lookup e') with hm|⟨h1,_,_⟩
    . exact(cm hm).1
    . have:=ok.uniq _ h1
      rw[hl] at this;cases this
  have okB:(X.blk s H scope cenv fp).Ok:=by
    refine⟨I.ok.mod,by show cenv.scope.kind=_;rw[hsc];exact ok.kind,by show cenv.globals=_;rw[<-hcenv];exact I.ok.glob,by show cenv.builtins=_;rw[<-hcenv];exact I.ok.blt,by show s.heap.objs.size<=cenv.locals;rw[hL];exact Nat.le_refl _,
      fun y z c e1 e2=>?_,fun y hy=>?_,fun y c z e=>?_,I.ok.hd,I.ok.frames,.inl rfl,fun b hb=>⟨?_,fun y c e z=>?_⟩,I.bs,Nat.le_trans I.ok.bsz I.sz,fun b o e hb=>?_,fun b hb z=>?_,I.stack,I.stkFree⟩
    . have e1:cenv.cells.lookup y=some c:=e1
      have e2:cenv.cells.lookup z=some c:=e2
      rw[hcl] at e1 e2
      refine cells_inj (fun p hp=>?_) (fun y z c a b=>I.ok.inj y z c (cm a).1 (cm b).1) (PySem.mem_of_lookup e1) (PySem.mem_of_lookup e2)
      rw[Heap.size_push]
      exact Nat.lt_succ_of_lt (cm (y:=p.1) (c:=p.2) hp).2
    . show ∃c,cenv.cells.lookup y=some c
      have key:∀k,cenv.kindOf y=some k->(k=.cell\/k=.free)->∃c,cenv.cells.lookup y=some c:=fun k hk hk'=>by
        unfold Env.kindOf at hk
        rw[hsc] at hk
        obtain⟨k',e,r⟩:=lookup_relS hk
        have:k'=.cell\/k'=.free:=by
          rcases r with rfl|⟨rfl,_⟩
          . exact hk'
          . exact .inr rfl
        rcases this with rfl|rfl
        . obtain⟨c,hm⟩:=JP (n:=(s.heap.push { cls:=.type "dict",data:=.dict #[] }).objs.size) (acc:=cloFrom X.env.cells scope.names []) (PySem.mem_of_lookup e)
          obtain⟨c',e'⟩:=jn hm
          exact⟨c',by rw[hcl];exact e'⟩
        . obtain⟨c,h1,_⟩:=look e
          exact⟨c,h1⟩
      rcases hy with hy|hy
      . exact key _ hy (.inl rfl)
      . exact key _ hy (.inr rfl)
    . have z:(scope.names.lookup y==some NameKind.cell)=true:=z
      have z:scope.names.lookup y=some .cell:=by simpa using z
      have e:cenv.cells.lookup y=some c:=e
      rw[hcl] at e
      rcases cells_mem (PySem.mem_of_lookup e) with hm|⟨_,h2,_⟩
      . rcases cloFrom_mem hm with hm|⟨h1,_⟩
        . cases hm
        . have q:=ok.uniq _ h1
          rw[z] at q;cases q
      . rw[Heap.size_push] at h2
        exact Nat.le_of_succ_le h2
    . show b≠cenv.locals
      rw[hL];exact Nat.ne_of_lt (hfp b hb).2
    . have e:cenv.cells.lookup y=some c:=e
      rcases mem e with⟨h1,_⟩|⟨h1,_⟩
      . exact(hfp b hb).1.2.2.2.2.1 y c h1 z
      . have h2:s.heap.objs.size+1<=b:=by rw[<-z];exact h1
        exact absurd (Nat.lt_of_lt_of_le (hfp b hb).2 (Nat.le_of_succ_le h2)) (Nat.lt_irrefl _)
    . rcases (hfp b hb).1.2.2.2.1 with z|z
      . exact I.ok.noex b o e z
      . exact absurd (Nat.lt_of_lt_of_le (Heap.lt_size e) (Nat.le_trans I.ok.bsz z)) (Nat.lt_irrefl _)
    . rcases List.mem_cons.mp (I.stkSub b z) with z|z
      . exact(hfp b hb).1.2.1 z
      . exact(hfp b hb).1.2.2.1 z
  refine⟨okB,rfl,I.bare,Un.kept kp,⟨fun _=>none,?_,fun i y av e1 e2 e3=>?_⟩,fun y c e=>?_,?_,fun y c e=>?_,fun p hp=>?_,I.hok.kept kp,by rw[Q4];exact I.len⟩
  . show Heap.Ns _ cenv.locals _
    rw[hL]
    exact Heap.Ns.keeps (Heap.Ns.new ..) fun b o e=>pushCells_keeps _ _ _ _ e
  . obtain ⟨e2, hne⟩ := wipe_some e2
    have hfr:scope.names.lookup y=some .free/\(cenv.kindOf y=some .cell\/cenv.kindOf y=some .free):=by
      have key:∀k,cenv.scope.names.lookup y=some k->k=.local\/k=.cell\/k=.free->scope.names.lookup y=some .free/\(cenv.kindOf y=some .cell\/cenv.kindOf y=some .free):=fun k hk hk'=>by
        have hk0:=hk
        rw[hsc] at hk
        obtain⟨k',e,r⟩:=lookup_relS hk
        have no:¬ (k'=.local\/k'=.cell):=fun hh=>by
          rcases ok.own _ (PySem.mem_of_lookup e) hh with e'|e'
          . obtain⟨p,hp,hpy⟩:=List.mem_map.mp e'
            have e3:=ok.ix p hp
            have:p.1=y:=hpy
            rw[this] at e3
            exact hne (List.mem_map.mpr ⟨p,hp,Jz hN e3 e1⟩)
          . exact e' (List.mem_of_getElem? e1)
        rcases r with rfl|⟨rfl,rfl⟩
        . rcases hk' with rfl|rfl|rfl
          . exact absurd (.inl rfl) no
          . exact absurd (.inr rfl) no
          . exact⟨e,.inr hk0⟩
        . exact⟨e,.inl hk0⟩
      have e3:Vis cenv.scope y:=e3
      rcases e3 with e3|e3|e3
      . exact key _ e3 (.inl rfl)
      . exact key _ e3 (.inr (.inl rfl))
      . exact key _ e3 (.inr (.inr rfl))
    obtain⟨m,hn,hl⟩:=I.loc
    have hvis:Vis X.env.scope y:=(ok.free _ (PySem.mem_of_lookup hfr.1) rfl).elim (fun k=>.inr (.inl k)) (fun k=>.inr (.inr k))
    obtain⟨w,r,q⟩:=hl i y av e1 e2 hvis
    refine⟨w,r,.inr ⟨hfr.2,?_⟩⟩
    obtain⟨c,h1,h2⟩:=look hfr.1
    rcases q with⟨k,_⟩|⟨_,c',e',z⟩
    . have k:X.env.scope.names.lookup y=some .local:=k
      rcases ok.free _ (PySem.mem_of_lookup hfr.1) rfl with k'|k'<;>rw[show X.env.scope.names.lookup y=_ from k'] at k<;>cases k
    . rw[h2] at e';cases e'
      exact⟨c,h1,z.keeps kp⟩
  . have e:cenv.cells.lookup y=some c:=e
    rcases mem e with⟨h1,_⟩|⟨_,z⟩
    . obtain⟨w,z⟩:=I.cell y c h1
      exact⟨w,z.keeps kp⟩
    . exact⟨_,z⟩
  . show H cenv.locals=none
    rw[hL];exact I.hok.fresh (Nat.le_refl _)
  . have e:cenv.cells.lookup y=some c:=e
    rcases mem e with⟨h1,_⟩|⟨h1,_⟩
    . exact I.freeC y c h1
    . exact I.hok.fresh (Nat.le_of_succ_le h1)
  . exact absurd (show p∈([]:List (Addr×Obj))++[] from hp) (by simp)
theorem app_ok{E:Value->Shared->Prop}{D:Addr}{xs:List V}{y:V}{v:Value}{Q:Value->Shared->Prop}(I:Inv X pins σ H s)(hD:H D=some (.lst xs))(hz:xs.length<sizeLine)(r:RelV y v)
    (h:∀s',Inv X pins σ (upd H D (.lst (xs++[y]))) s'->Q .none s'):wpAny (model X.prog X.w) X.A (call (.builtin "list.append") [.ref D,v]) Q E s:=by
  obtain⟨hz',its,n,ri,e⟩:=I.hok D _ hD
  have hl:=ri.length
  refine append_at (hsz:=by rw[List.size_toArray];omega) e fun h' sb ho'=>?_
  refine h { s with heap:=h' } (I.write (t':=s.toks) (by rw[hD];trivial) (.inl rfl) (fun b u hb q=>(sb.2 b hb).trans q) ⟨_,ho'⟩ ⟨by rw[List.length_append];exact hz,its++[v],n+1,ri.append (.cons r .nil),?_⟩)
  rw[ho']
  simp
def PTs (X : Cx) (ifs : List Expr) (t : TT) : Prop :=
  ∀ (pins : List (Addr × Obj)) (s : Shared) (σ : St) (H : Hp) (Q : Bool → Hp → Prop), Inv X pins σ H s → t σ H Q →
    wpAny (model X.prog X.w) X.A (forIn ifs true fun c r=>if r=true then do let ok <-isTrue c X.env (eval c X.env);pure (ForInStep.yield ok) else pure (ForInStep.yield r)) (TP X pins σ Q) X.xe s
def tYes:TT:=fun _ H Q=>Q true H
theorem Qu:PTs X [] tYes:=fun _ _ _ H _ I h=>wpAny_tests_nil ⟨H,I,h⟩
theorem pts_one{c:Expr}{t:TT}(h:PT X c t):PTs X [c] t:=fun pins s σ H Q I hw=>wpAny_tests_one (h pins s σ H Q I hw)
end
theorem thnF{α:Type}{t:Sem α}{Q Q':α->Shared->Prop}{M:Model}{A:Around}{E:Value->Shared->Prop}{s:Shared}(h:wpAny M A t Q (fun _ _=>False) s)(hQ:∀a s,Q a s->Q' a s):wpAny M A t Q' E s:=wpAny_mono h hQ fun _ _ z=>False.elim z
theorem compLoop_any{prog:Program}{w:World}{A:Around}{R:Result->Shared->Prop}{s:Shared}{elt target iter:Expr}{ifs:List Expr}{scope:Scope}{pos:Pos}{it acc:Value}{env:Env}(I:Nat->Shared->Prop)
    (turn : ∀ n s, I n s → wpAny (model prog w) A (pyNext it) (fun r s₁ => match r with
      |none=>R (.ok .next) s₁
      |some v=>wpAny (model prog w) A (letOwnedTupleGo target it v) (fun _ s₁'=>wpAny (model prog w) A (assign target env v) (fun _ s₂=>
          wpAny (model prog w) A (forIn ifs true fun c r=>if r=true then do let ok <-isTrue c env (eval c env);pure (ForInStep.yield ok) else pure (ForInStep.yield r)) (fun ok s₃=>
            if ok=true then wpAny (model prog w) A (eval elt env) (fun x s₄=>
              wpAny (model prog w) A (call (.builtin "list.append") [acc,x]) (fun _ s₅=>∃m,m<n/\I m s₅) (notedBy (model prog w) A env fun e s'=>R (.error e) s') s₄) (notedBy (model prog w) A env fun e s'=>R (.error e) s') s₃
            else ∃m,m<n/\I m s₃) (notedBy (model prog w) A env fun e s'=>R (.error e) s') s₂) (notedBy (model prog w) A env fun e s'=>R (.error e) s') s₁') (notedBy (model prog w) A env fun e s'=>R (.error e) s') s₁) (notedBy (model prog w) A env fun e s'=>R (.error e) s') s)
    (n:Nat) (h:I n s):
    codeAny (model prog w) A (.compLoop (.ListComp elt [⟨target,iter,ifs,0⟩] scope pos) 0 it acc env) R s:=by
  refine codeAny_loop rfl I (fun n s hI=>?_) n h
  show wpAny _ A ((compTurn (.ListComp elt [⟨target,iter,ifs,0⟩] scope pos) 0 it acc env).onRaise (fun x=>do noteFrame x env;theTreesLotGoes x)) _ _ s
  refine wpAny_noted ?_
  rw[compTurn_list]
  refine wpAny_bind (wpAny_standAt (wpAny_bind (wpAny_mono (turn n s hI) (fun r s₁ h₁=>?_) fun _ _ h'=>h')))
  cases r with
  |none=>exact wpAny_pure h₁
  | some v =>
    refine wpAny_bind (wpAny_mono h₁ (fun _ s₁' h₁'=>?_) fun _ _ h'=>h')
    refine wpAny_bind (wpAny_mono h₁' (fun _ s₂ h₂=>wpAny_bind (wpAny_mono h₂ (fun ok s₃ h₃=>?_) fun _ _ h'=>h')) fun _ _ h'=>h')
    cases ok with
    |false=>exact wpAny_pure ⟨rfl,h₃⟩
    | true =>
      exact wpAny_bind (wpAny_bind (wpAny_mono h₃ (fun x s₄ h₄=>wpAny_bind (wpAny_mono h₄ (fun _ s₅ h₅=>wpAny_pure (wpAny_pure ⟨rfl,h₅⟩)) fun _ _ h'=>h')) fun _ _ h'=>h'))
section
variable{X:Cx}
def tLc (wi : TI) (g : TG) (tt : TT) (te : TE) (vs : List Nat) : TE := fun σ H Q => wi σ H fun J H1 => ∀ D, H1 D = none → ∃ W : Nat → Nat → Hp → Prop, (∃ m, W 0 m (upd H1 D (.lst []))) ∧ ∀ i m H, W i m H →
  (J.stop i H/\Q (.ref D) H)\/(J.go i H/\∃Nx:Hp->Prop,(∀H',Nx H'->∃m',m'<m/\W (i+1) m' H')/\∀x H',J.yld i H x H'->g x (wipe σ vs) H' fun σ2 H2=>wipe σ2 vs=wipe σ vs/\tt σ2 H2 fun b H3=>
    if b=true then te σ2 H3 fun y H4=>∃acc,H4 D=some (.lst acc)/\acc.length<sizeLine/\Nx (upd H4 D (.lst (acc++[y]))) else Nx H3)
theorem lc_core {pins : List (Addr × Obj)} {s : Shared} {σ : St} {H : Hp} {Q : VK} {elt tg iter : Expr} {ifs : List Expr} {scope : Scope} {own : List (Str × Nat)} {pos pos' : Pos} {wi : TI} {g : TG} {tt : TT} {te : TE} {use : Option (Value → Sem Unit)} {Qf : Value → Shared → Prop}
    (hc:X.calm=true) (hN:X.N.Nodup) (I:Inv X pins σ H s) (hi:PI X tg iter wi) (ok:BlkOk X.N X.env.scope scope own)
    (hg:∀(s:Shared) (H:Hp) (C:Addr) (cl:List (Str×Addr)) (fp:List Addr),PG (X.blk s H scope (compEnvC scope cl C X.env) fp) tg g) (ht:∀(s:Shared) (H:Hp) (C:Addr) (cl:List (Str×Addr)) (fp:List Addr),PTs (X.blk s H scope (compEnvC scope cl C X.env) fp) ifs tt)
    (he:∀(s:Shared) (H:Hp) (C:Addr) (cl:List (Str×Addr)) (fp:List Addr),PE (X.blk s H scope (compEnvC scope cl C X.env) fp) elt te) (hs:∀x,foldedSetIterable iter X.env x=pure x)
    (h:tLc wi g tt te (own.map (·.2)) σ H Q)
    (hRR:∀D C s' m H',Inv X pins σ H' s'->Q (.ref D) H'->s'.heap.Ns C m->FpOk X pins H' C->compPost (model X.prog X.w) X.A X.xe use Qf (.ref D) C (.ok .next) s'):
    wpAny (model X.prog X.w) X.A (comprehension (.ListComp elt [⟨tg,iter,ifs,0⟩] scope pos) scope X.env pos' (newList []) false (eval iter X.env) use) Qf X.xe s:=by
  have hfree:∀y∈scope.names,y.2=.free->∃c,X.env.cells.lookup y.1=some c:=fun y hy e=>by
    rcases ok.free y hy e with k|k
    . exact I.ok.has _ (.inl k)
    . exact I.ok.has _ (.inr k)
  refine wpAny_comprehension_free (use:=use) rfl hs (closure_ok hfree) ok.kind (fun y hy e=>by rw[ok.uniq y hy,e])
    (thn (hi pins s σ H _ I h) fun xv s1 hx=>thn hx fun itv s2 h2=>?_)
  obtain⟨it,fp,tn,J,H2,e,I2,T,st2,f2,q⟩:=h2
  subst e
  refine wpAny_newObj_type (newEnv_comp ?_) (by show 0<=sizeLine;decide)
  generalize hD:s2.heap.objs.size=D
  have hDn:H2 D=none:=I2.hok.fresh (Nat.le_of_eq hD)
  obtain⟨W,⟨m0,w0⟩,turn⟩:=q D hDn
  generalize hs3:({ s2 with heap:=s2.heap.push { cls:=.type "list",data:=.seq ([]:List Value).toArray } }:Shared)=s3
  have I3:Inv X pins σ (upd H2 D (.lst [])) s3:=by
    rw[<-hs3]
    refine I2.laid (t':=s2.toks) (fun b o e=>Heap.get?_push_of_some _ e) (Nat.le_of_eq hD) ⟨Nat.zero_le _,[],0,.nil,?_⟩
    rw[<-hD]
    exact Heap.get?_push_size _ rfl
  have h3:s3.heap=s2.heap.push { cls:=.type "list",data:=.seq ([]:List Value).toArray }:=by rw[<-hs3]
  have sz:∀b∈fp,b<s2.heap.objs.size:=fun b hb=>by
    obtain⟨o,e,_⟩:=T.obj _ _ st2 b hb
    exact Heap.lt_size e
  have f3:∀b∈fp,FpOk X pins (upd H2 D (.lst [])) b/\b<s3.heap.objs.size:=fun b hb=>by
    have hlt:=sz b hb
    refine⟨⟨?_,(f2 b hb).2⟩,by rw[h3,Heap.size_push];exact Nat.lt_succ_of_lt hlt⟩
    rw[zI (by rw[<-hD];exact Nat.ne_of_lt hlt)]
    exact(f2 b hb).1
  have st3:tn 0 s3.heap:=T.keep _ _ _ st2 fun b _ o e=>by rw[h3];exact Heap.get?_push_of_some _ e
  have I4:=block_start I3 ok hN f3
  have pg:=hg s3 (upd H2 D (.lst [])) s3.heap.objs.size (cellsFrom (s3.heap.objs.size+1) scope.names (cloFrom X.env.cells scope.names [])) fp
  have pt:=ht s3 (upd H2 D (.lst [])) s3.heap.objs.size (cellsFrom (s3.heap.objs.size+1) scope.names (cloFrom X.env.cells scope.names [])) fp
  have pe:=he s3 (upd H2 D (.lst [])) s3.heap.objs.size (cellsFrom (s3.heap.objs.size+1) scope.names (cloFrom X.env.cells scope.names [])) fp
  show codeAny _ _ (.compStart (.ListComp elt [⟨tg,iter,ifs,0⟩] scope pos) 0 (.ref it) (.ref D) (compEnvC scope (cellsFrom (s3.heap.objs.size+1) scope.names (cloFrom X.env.cells scope.names [])) s3.heap.objs.size X.env)) (compPost (model X.prog X.w) X.A X.xe use Qf (.ref D) s3.heap.objs.size) { s3 with heap:=pushCells (s3.heap.push { cls:=.type "dict",data:=.dict #[] }) scope.names }
  have nfp:∀b∈fp,(upd H2 D (.lst [])) b=none:=fun b hb=>(f3 b hb).1.1
  generalize hce:compEnvC scope (cellsFrom (s3.heap.objs.size+1) scope.names (cloFrom X.env.cells scope.names [])) s3.heap.objs.size X.env=ce at I4 pg pt pe ⊢
  have cL:ce.locals=s3.heap.objs.size:=by subst hce;rfl
  generalize hH3:upd H2 D (.lst [])=H3 at I3 I4 pg pt pe w0 nfp f3
  generalize hs4:({ s3 with heap:=pushCells (s3.heap.push { cls:=.type "dict",data:=.dict #[] }) scope.names }:Shared)=s4 at I4 ⊢
  have st4:tn 0 s4.heap:=T.keep _ _ _ st3 fun b _ o e=>by rw[<-hs4];exact pushCells_keeps _ _ _ _ (Heap.get?_push_of_some _ e)
  have stat:∀{σ':St} {H':Hp} {s':Shared},Inv (X.blk s3 H3 scope ce fp) [] σ' H' s'->(∀b∈fp,H' b=none)->∀b∈fp,FpOk (X.blk s3 H3 scope ce fp) [] H' b:=fun {σ' H' s'} I' hn b hb=>
    ⟨hn b hb,(I'.ok.exf b hb).1,I'.ok.exfs b hb,.inl hb,fun x c e=>(I'.ok.exf b hb).2 x c e,fun p hp=>absurd (show p∈([]:List (Addr×Obj))++[] from hp) (by simp)⟩
  have loop:codeAny (model X.prog X.w) X.A (.compLoop (.ListComp elt [⟨tg,iter,ifs,0⟩] scope pos) 0 (.ref it) (.ref D) ce) (compPost (model X.prog X.w) X.A X.xe use Qf (.ref D) s3.heap.objs.size) s4:=by
    refine compLoop_any (fun n s'=>∃i H',Inv (X.blk s3 H3 scope ce fp) [] (wipe σ (own.map (·.2))) H' s'/\tn i s'.heap/\(∀b∈fp,H' b=none)/\W i n H') ?_ m0 ⟨0,H3,I4,st4,nfp,w0⟩
    rintro n s5 ⟨i,H5,I5,st5,n5,w5⟩
    rcases turn i n H5 w5 with⟨stop,qq⟩|⟨go,Nx,hNx,step⟩
    . have td:=T.done (X.blk s3 H3 scope ce fp) rfl rfl rfl hc i [] s5 _ H5 (fun _ _=>False) I5 (stat I5 n5) st5 stop
      refine thnF td fun r s6 ⟨hr,I6⟩=>?_
      subst hr
      have I7:Inv X pins σ H5 s6:=I3.call' (ch:=fp) I6.os I6.base I6.hok I6.bare fun b hb=>⟨(f3 b hb).1.2.2.2.1,(f3 b hb).1.2.1,(f3 b hb).1.2.2.2.2.1,(f3 b hb).1.2.2.2.2.2⟩
      have nC:H5 s3.heap.objs.size=none:=by
        have z:H5 ce.locals=none:=I6.free
        rw[cL] at z
        exact z
      obtain⟨m,hn,_⟩:=I6.loc
      have hn:s6.heap.Ns ce.locals m:=hn
      rw[cL] at hn
      exact hRR D s3.heap.objs.size s6 m H5 I7 qq hn (I3.fpOk (Nat.le_refl _) nC)
    . have ti:=T.item (X.blk s3 H3 scope ce fp) rfl rfl rfl hc i [] s5 _ H5 (fun _ _=>False) I5 (stat I5 n5) st5 go
      refine thnF ti fun r s6 ⟨u,hr,h6⟩=>?_
      subst hr
      refine thnF h6 fun _ s7 ⟨x,H7,I7,r7,y7,st7,n7⟩=>?_
      have I7':=I7.pinned (stat I7 n7) (T.obj _ _ st7)
      refine thnF (pg _ s7 _ H7 x u _ I7' r7 (step x H7 y7)) fun _ s8 ⟨σ8,H8,I8,hw8,q8⟩=>?_
      refine thnF (pt _ s8 σ8 H8 _ I8 q8) fun b s9 ⟨H9,I9,q9⟩=>?_
      have fin:∀{s':Shared} {H':Hp},Inv (X.blk s3 H3 scope ce fp) ([]++pinsAt fp s7.heap) σ8 H' s'->Nx H'->∃m,m<n/\∃i H',Inv (X.blk s3 H3 scope ce fp) [] (wipe σ (own.map (·.2))) H' s'/\tn i s'.heap/\(∀b∈fp,H' b=none)/\W i m H':=fun {s' H'} I' nx=>by
        obtain⟨m',hm,w'⟩:=hNx H' nx
        have pin':∀b∈fp,∀o,s7.heap.get? b=some o->s'.heap.get? b=some o/\H' b=none:=fun b hb o e=>
          let z:=I'.pin (b,o) (List.mem_append_right _ (List.mem_append_right _ (jm hb e)))
          ⟨z.1,z.2.1⟩
        have hl:(wipe σ (own.map (·.2))).length=σ8.length:=by rw[<-hw8,Q4]
        refine⟨m',hm,i+1,H',(I'.unpinned (pins:=[])).weak hl (fun j v e=>?_),T.keep _ _ _ st7 fun b hb o e=>(pin' b hb o e).1,fun b hb=>?_,w'⟩
        . rw[<-hw8] at e
          exact(wipe_some e).1
        . obtain⟨o,e,_⟩:=T.obj _ _ st7 b hb
          exact(pin' b hb o e).2
      cases b with
      | false =>
        simp only[Bool.false_eq_true,if_false] at q9 ⊢
        exact fin I9 q9
      | true =>
        simp only[if_true] at q9 ⊢
        refine thnF (pe _ s9 σ8 H9 _ I9 q9) fun z s10 ⟨yv,H10,I10,r10,acc,hD10,hz10,nx⟩=>?_
        exact app_ok (X:=X.blk s3 H3 scope ce fp) I10 hD10 hz10 r10 fun s11 I11=>fin I11 nx
  exact codeAny_compStart_list loop (T.self X.A 0 _ _ _ st4 loop)
theorem Jw{elt tg iter:Expr}{ifs:List Expr}{scope:Scope}{own:List (Str×Nat)}{pos:Pos}{wi:TI}{g:TG}{tt:TT}{te:TE}(hc:X.calm=true)(hN:X.N.Nodup)(hi:PI X tg iter wi)(ok:BlkOk X.N X.env.scope scope own)
    (hg:∀(s:Shared) (H:Hp) (C:Addr) (cl:List (Str×Addr)) (fp:List Addr),PG (X.blk s H scope (compEnvC scope cl C X.env) fp) tg g) (ht:∀(s:Shared) (H:Hp) (C:Addr) (cl:List (Str×Addr)) (fp:List Addr),PTs (X.blk s H scope (compEnvC scope cl C X.env) fp) ifs tt)
    (he:∀(s:Shared) (H:Hp) (C:Addr) (cl:List (Str×Addr)) (fp:List Addr),PE (X.blk s H scope (compEnvC scope cl C X.env) fp) elt te) (hs:∀x,foldedSetIterable iter X.env x=pure x:=by intro _;rfl):
    PE X (.ListComp elt [⟨tg,iter,ifs,0⟩] scope pos) (tLc wi g tt te (own.map (·.2))):=by
  intro pins s σ H Q I h
  rw[eval_ListComp]
  refine lc_core hc hN I hi ok hg ht he hs h fun D C s' m H' I' q hn f=>⟨m,hn,fun h'' sb=>?_⟩
  obtain⟨f0,f1,f2,f3,f4,f5⟩:=f
  exact⟨.ref D,H',I'.turned (t':=s'.toks) (fun b o hb e=>(sb.2 b hb).trans e) f0 f1 f3 f4 f5,rfl,q⟩
theorem ps_setLc{i:Nat}{y:Str}{py:Pos}{elt tg iter:Expr}{ifs:List Expr}{scope:Scope}{own:List (Str×Nat)}{pos spos:Pos}{wi:TI}{g:TG}{tt:TT}{te:TE}(hc:X.calm=true)(hN:X.N.Nodup)(hy:X.N[i]?=some y)(hyl:X.env.scope.names.lookup y=some .local)
    (hsw:swapsWith (.ListComp elt [⟨tg,iter,ifs,0⟩] scope pos) (some (.Name y py)) spos.line X.env=pure true) (hi:PI X tg iter wi) (ok:BlkOk X.N X.env.scope scope own)
    (hg:∀(s:Shared) (H:Hp) (C:Addr) (cl:List (Str×Addr)) (fp:List Addr),PG (X.blk s H scope (compEnvC scope cl C X.env) fp) tg g) (ht:∀(s:Shared) (H:Hp) (C:Addr) (cl:List (Str×Addr)) (fp:List Addr),PTs (X.blk s H scope (compEnvC scope cl C X.env) fp) ifs tt)
    (he:∀(s:Shared) (H:Hp) (C:Addr) (cl:List (Str×Addr)) (fp:List Addr),PE (X.blk s H scope (compEnvC scope cl C X.env) fp) elt te) (hs:∀x,foldedSetIterable iter X.env x=pure x:=by intro _;rfl):
    PS X (.Assign [.Name y py] (.ListComp elt [⟨tg,iter,ifs,0⟩] scope pos) spos) (tAsg (tLc wi g tt te (own.map (·.2))) (gName i)):=by
  intro pins s σ H D I h
  rw[exec_Assign_Name_used _ _ _ _ hsw]
  refine wpAny_bind (wpAny_standAt (wpAny_bind ?_))
  show wpAny _ X.A (do let _ <-comprehension (.ListComp elt [⟨tg,iter,ifs,0⟩] scope pos) scope X.env (firstIterPos [⟨tg,iter,ifs,0⟩] pos) (newList []) false (eval iter X.env) (some (assign (.Name y py) X.env))) _ _ s
  have h:tLc wi g tt te (own.map (·.2)) σ H (fun x H1=>gName i x σ H1 D.nx):=h
  refine wpAny_bind (thn (lc_core (Qf:=fun _ s'=>SP X pins D .next s') hc hN I hi ok hg ht he hs h fun L C s' m H' I' q hn f=>?_) fun _ s' hq=>wpAny_pure (wpAny_pure hq))
  show wpAny _ _ (assign (.Name y py) X.env (.ref L)) _ _ _
  refine wpAny_assign_Name (store_ok2 (v:=V.ref L) I' hN hy (.inl hyl) rfl (fun s2 I2 ⟨a,sb,ha⟩=>?_) (.inr hyl))
  obtain⟨f0,f1,f2,f3,f4,f5⟩:=f
  have haC:C≠a:=by
    rcases ha with z|z
    . rw[z];exact f1
    . exact fun e=>f4 y a z e.symm
  refine⟨m,hn.sameBut sb haC,fun h3 sb3=>?_⟩
  exact⟨_,H',I2.turned (t':=s2.toks) (fun b o hb e=>(sb3.2 b hb).trans e) f0 f1 f3 f4 f5,q⟩
end
theorem lc_range {lo : Int} {n : Nat} {g : TG} {tt : TT} {te : TE} {vs : List Nat} {σ : St} {H1 : Hp} {D : Addr} {Qd : Hp → Prop} (Pv : Nat → Hp → Prop) (h0 : Pv 0 (upd H1 D (.lst [])))
    (hs:∀i H,i<n->Pv i H->g (.int (lo+i)) (wipe σ vs) H fun σ2 H2=>wipe σ2 vs=wipe σ vs/\tt σ2 H2 fun b H3=>
      if b=true then te σ2 H3 fun y H4=>∃acc,H4 D=some (.lst acc)/\acc.length<sizeLine/\Pv (i+1) (upd H4 D (.lst (acc++[y]))) else Pv (i+1) H3) (hd:∀H,Pv n H->Qd H):
    ∃ W : Nat → Nat → Hp → Prop, (∃ m, W 0 m (upd H1 D (.lst []))) ∧ ∀ i m H, W i m H →
      ((Itr lo n).stop i H ∧ Qd H) ∨ ((Itr lo n).go i H ∧ ∃ Nx : Hp → Prop, (∀ H', Nx H' → ∃ m', m' < m ∧ W (i + 1) m' H') ∧ ∀ x H', (Itr lo n).yld i H x H' → g x (wipe σ vs) H' fun σ2 H2 => wipe σ2 vs = wipe σ vs ∧ tt σ2 H2 fun b H3 =>
        if b=true then te σ2 H3 fun y H4=>∃acc,H4 D=some (.lst acc)/\acc.length<sizeLine/\Nx (upd H4 D (.lst (acc++[y]))) else Nx H3):=by
  refine⟨fun i m H=>m=n - i/\i<=n/\Pv i H,⟨n,by simp,Nat.zero_le _,h0⟩,?_⟩
  rintro i m H ⟨rfl,hi,p⟩
  by_cases hlt:i<n
  . refine .inr ⟨hlt,Pv (i+1),fun H' p'=>⟨n - (i+1),by omega,rfl,hlt,p'⟩,fun x H' y=>?_⟩
    obtain⟨e,y⟩:=y
    subst e y
    exact hs i _ hlt p
  . have e:i=n:=by omega
    subst e
    exact .inl ⟨Nat.le_refl _,hd H p⟩
theorem lc_list {K : PySem.W.Frag} {a : Addr} {xs : List V} {g : TG} {tt : TT} {te : TE} {vs : List Nat} {σ : St} {H1 : Hp} {D : Addr} {Qd : Hp → Prop} (Pv : Nat → Hp → Prop) (h0 : Pv 0 (upd H1 D (.lst []))) (hl : ∀ i H, i ≤ xs.length → Pv i H → SqL K H a xs)
    (hs:∀i x H,xs[i]?=some x->Pv i H->g x (wipe σ vs) H fun σ2 H2=>wipe σ2 vs=wipe σ vs/\tt σ2 H2 fun b H3=>
      if b=true then te σ2 H3 fun y H4=>∃acc,H4 D=some (.lst acc)/\acc.length<sizeLine/\Pv (i+1) (upd H4 D (.lst (acc++[y]))) else Pv (i+1) H3) (hd:∀H,Pv xs.length H->Qd H):
    ∃ W : Nat → Nat → Hp → Prop, (∃ m, W 0 m (upd H1 D (.lst []))) ∧ ∀ i m H, W i m H →
      ((Itl K a).stop i H ∧ Qd H) ∨ ((Itl K a).go i H ∧ ∃ Nx : Hp → Prop, (∀ H', Nx H' → ∃ m', m' < m ∧ W (i + 1) m' H') ∧ ∀ x H', (Itl K a).yld i H x H' → g x (wipe σ vs) H' fun σ2 H2 => wipe σ2 vs = wipe σ vs ∧ tt σ2 H2 fun b H3 =>
        if b=true then te σ2 H3 fun y H4=>∃acc,H4 D=some (.lst acc)/\acc.length<sizeLine/\Nx (upd H4 D (.lst (acc++[y]))) else Nx H3):=by
  refine⟨fun i m H=>m=xs.length - i/\i<=xs.length/\Pv i H,⟨xs.length,by simp,Nat.zero_le _,h0⟩,?_⟩
  rintro i m H ⟨rfl,hi,p⟩
  have q:=hl i H hi p
  by_cases hlt:i<xs.length
  . refine .inr ⟨⟨xs,xs[i],q,by simp[hlt]⟩,Pv (i+1),fun H' p'=>⟨xs.length - (i+1),by omega,rfl,hlt,p'⟩,fun x H' y=>?_⟩
    obtain⟨e,y⟩:=y
    subst e
    exact hs i x _ (y xs q) p
  . have e:i=xs.length:=by omega
    subst e
    exact .inl ⟨⟨xs,q,Nat.le_refl _⟩,hd H p⟩
def blkC (N : List Str) (sc scope : Scope) (own : List (Str × Nat)) : Bool :=
  (match scope.kind with | .function=>true|_=>false)&&(scope.names.all fun y=>decide (scope.names.lookup y.1=some y.2))&&(own.all fun p=>decide (N[p.2]?=some p.1))&&
    (scope.names.all fun y=>match y.2 with
      |.free=>(match sc.names.lookup y.1 with|some .cell=>true|some .free=>true|_=>false)
      |.local=>decide (y.1∈own.map (·.1))||decide (y.1 ∉ N)
      |.cell=>decide (y.1∈own.map (·.1))||decide (y.1 ∉ N)
      |_=>true)
theorem qT{N:List Str}{sc scope:Scope}{own:List (Str×Nat)}(h:blkC N sc scope own=true):BlkOk N sc scope own:=by
  unfold blkC at h
  simp only[Bool.and_eq_true,List.all_eq_true,decide_eq_true_eq] at h
  obtain⟨⟨⟨h1,h2⟩,h3⟩,h4⟩:=h
  refine⟨?_,h2,h3,fun y hy e=>?_,fun y hy e=>?_⟩
  . split at h1
    . assumption
    . cases h1
  . have q:=h4 y hy
    simp only[e] at q
    split at q<;>first|exact .inl (by assumption)|exact .inr (by assumption)|cases q
  . have q:=h4 y hy
    rcases e with e|e<;>(simp only[e,Bool.or_eq_true,decide_eq_true_eq] at q;exact q)
end L2
namespace L2
open PySem PySem.Spec PyProof.Rows
section
variable{prog:Program}{w:World}{A:Around}{R:Result->Shared->Prop}{s:Shared}{elt t0 i0 t1 i1:Expr}{ifs0 ifs1:List Expr}{scope:Scope}{pos:Pos}{it acc:Value}{env:Env}
end
section
variable{X:Cx}
end
end L2
namespace L2
open PySem PySem.Spec PyProof.Rows
section
variable{κ:Type}[DecidableEq κ]
def valV(kvs:List (κ×V))(k:κ):Option V:=(kvs.find? fun kv=>decide (kv.1=k)).map (·.2)
def putK(kvs:List (κ×V))(k:κ)(v:V):List (κ×V):=
  if (kvs.any fun kv=>decide (kv.1=k))=true then kvs.map (fun kv=>if kv.1=k then (kv.1,v) else kv) else kvs++[(k,v)]
def dropK(kvs:List (κ×V))(k:κ):List (κ×V):=kvs.filter fun kv=>decide (kv.1≠k)
theorem Q6{p:κ×V}{r:List (κ×V)}{k:κ}(e:p.1=k):valV (p::r) k=some p.2:=by simp[valV,List.find?_cons,e]
theorem jr{p:κ×V}{r:List (κ×V)}{k:κ}(e:¬ p.1=k):valV (p::r) k=valV r k:=by simp[valV,List.find?_cons,e]
theorem Zy(k:κ):∀kvs:List (κ×V),(kvs.any fun kv=>decide (kv.1=k))=(valV kvs k).isSome
  |[]=>rfl
  | p :: r => by
    rw[List.any_cons]
    by_cases e:p.1=k
    . simp only[Q6 e,decide_eq_true e,Bool.true_or,Option.isSome_some]
    . rw[jr e,decide_eq_false e,Bool.false_or];exact Zy k r
theorem jC(kvs:List (κ×V))(k:κ)(v:V):(putK kvs k v).length<=kvs.length+1:=by
  unfold putK
  split
  . rw[List.length_map];omega
  . rw[List.length_append,List.length_cons,List.length_nil];omega
theorem RelO.isSome_eq{o:Option V}{u:Option Value}(r:RelO o u):o.isSome=u.isSome:=by
  cases o with
  | none => cases u with
    |none=>rfl
    |some _=>exact(show False from r).elim
  | some _ => cases u with
    |none=>exact(show False from r).elim
    |some _=>rfl
theorem RelO.getD{o:Option V}{u:Option Value}{d:V}{d':Value}(r:RelO o u)(rd:RelV d d'):RelV (o.getD d) (u.getD d'):=by
  cases o with
  | none => cases u with
    |none=>exact rd
    |some _=>exact(show False from r).elim
  | some _ => cases u with
    |none=>exact(show False from r).elim
    |some _=>exact r
theorem KV.val{kvs:List (κ×V)}{vs:List (κ×Value)}(r:KV kvs vs)(k:κ):RelO (valV kvs k) (valueAt vs k):=by
  unfold KV at r
  induction r with
  |nil=>exact True.intro
  | @cons p q ps qs h t ih =>
    obtain⟨h1,h2⟩:=h
    by_cases e:p.1=k
    . have e':q.1=k:=h1.symm.trans e
      have b:valueAt (q::qs) k=some q.2:=by simp[valueAt,List.find?_cons,e']
      rw[Q6 e,b];exact h2
    . have e':¬ q.1=k:=fun z=>e (h1.trans z)
      have b:valueAt (q::qs) k=valueAt qs k:=by simp[valueAt,List.find?_cons,e']
      rw[jr e,b];exact ih
theorem KV.any{kvs:List (κ×V)}{vs:List (κ×Value)}(r:KV kvs vs)(k:κ):(kvs.any fun kv=>decide (kv.1=k))=vs.any fun kv=>decide (kv.1=k):=by
  unfold KV at r
  induction r with
  |nil=>rfl
  |cons h t ih=>rw[List.any_cons,List.any_cons,ih,h.1]
theorem KV.repl{kvs:List (κ×V)}{vs:List (κ×Value)}(r:KV kvs vs)(k:κ){y:V}{u:Value}(ry:RelV y u):
    KV (kvs.map fun kv=>if kv.1=k then (kv.1,y) else kv) (vs.map fun kv=>if kv.1=k then (kv.1,u) else kv):=by
  unfold KV at r ⊢
  induction r with
  |nil=>exact .nil
  | @cons p q ps qs h t ih =>
    rw[List.map_cons,List.map_cons]
    refine .cons ?_ ih
    obtain⟨h1,h2⟩:=h
    by_cases e:p.1=k
    . rw[if_pos e,if_pos (h1.symm.trans e)];exact⟨h1,ry⟩
    . rw[if_neg e,if_neg (fun z=>e (h1.trans z))];exact⟨h1,h2⟩
theorem KV.put{kvs:List (κ×V)}{vs:List (κ×Value)}(r:KV kvs vs)(k:κ){y:V}{u:Value}(ry:RelV y u):KV (putK kvs k y) (stored vs k u):=by
  unfold putK stored
  rw[r.any k]
  by_cases e:(vs.any fun kv=>decide (kv.1=k))=true
  . rw[if_pos e,if_pos e];exact r.repl k ry
  . rw[if_neg e,if_neg e];exact Paired.snoc r ⟨rfl,ry⟩
theorem KV.length{kvs:List (κ×V)}{vs:List (κ×Value)}(r:KV kvs vs):kvs.length=vs.length:=Paired.length r
theorem dropK_le(kvs:List (κ×V))(k:κ):(dropK kvs k).length<=kvs.length:=List.length_filter_le _ _
end
theorem J6{P:Program}{w:World}{k:Key}{u:Value}(r:RelV (kV k) u):(mixKind P w).is k u=true:=by
  cases k with
  |inl i=>obtain⟨t,e⟩:=(show ∃t,u=Value.int i t from r);subst e;exact mixKind_int P w i t
  |inr x=>obtain⟨t,e⟩:=(show ∃t,u=Value.str x t from r);subst e;exact mixKind_str P w x t
theorem zAf{P:Program}{w:World}:∀{ks:List Key} {us:List Value},Vals (ks.map kV) us->ItemsAre (mixKind P w) ks us
  |[],_,r=>by rw[List.map_nil] at r;cases r;exact .nil
  | k :: ks, _, r => by
    rw[List.map_cons] at r
    cases r with
    |cons h t=>exact .cons (J6 h) (zAf t)
abbrev KT(H:Hp):List (List Key×V)->List (List Key×Addr×Value)->Prop:=Paired fun p q=>p.1=q.1/\H q.2.1=some (.tup (p.1.map kV))/\RelV p.2 q.2.2
theorem KT.val{H:Hp}{kvs:List (List Key×V)}{xs:List (List Key×Addr×Value)}(r:KT H kvs xs)(k:List Key):RelO (valV kvs k) ((atKey xs k).map (·.2)):=by
  induction r with
  |nil=>exact True.intro
  | @cons p q ps qs h t ih =>
    obtain⟨h1,_,h2⟩:=h
    by_cases e:p.1=k
    . have e':q.1=k:=h1.symm.trans e
      have b:atKey (q::qs) k=some q.2:=by simp[atKey,List.find?_cons,e']
      rw[Q6 e,b];exact h2
    . have e':¬ q.1=k:=fun z=>e (h1.trans z)
      have b:atKey (q::qs) k=atKey qs k:=by simp[atKey,List.find?_cons,e']
      rw[jr e,b];exact ih
theorem KT.repl{H:Hp}{kvs:List (List Key×V)}{xs:List (List Key×Addr×Value)}(r:KT H kvs xs)(k:List Key){y:V}{u:Value}(ry:RelV y u):
    KT H (kvs.map fun kv=>if kv.1=k then (kv.1,y) else kv) (xs.map (putAt k u)):=by
  induction r with
  |nil=>exact .nil
  | @cons p q ps qs h t ih =>
    rw[List.map_cons,List.map_cons]
    refine .cons ?_ ih
    obtain⟨h1,h2,h3⟩:=h
    unfold putAt
    by_cases e:p.1=k
    . rw[if_pos e,if_pos (h1.symm.trans e)];exact⟨h1,h2,ry⟩
    . rw[if_neg e,if_neg (fun z=>e (h1.trans z))];exact⟨h1,h2,h3⟩
theorem KT.put{H:Hp}{kvs:List (List Key×V)}{xs:List (List Key×Addr×Value)}(r:KT H kvs xs)(k:List Key){b:Addr}{y:V}{u:Value}(hb:H b=some (.tup (k.map kV)))(ry:RelV y u):
    KT H (putK kvs k y) (storedH xs k b u):=by
  have e:(kvs.any fun kv=>decide (kv.1=k))=(atKey xs k).isSome:=by
    rw[Zy,(r.val k).isSome_eq,Option.isSome_map]
  unfold putK storedH
  rw[e]
  by_cases q:(atKey xs k).isSome=true
  . rw[if_pos q,if_pos q];exact r.repl k ry
  . rw[if_neg q,if_neg q];exact Paired.snoc r ⟨rfl,hb,ry⟩
theorem KT.keeps{H H':Hp}{kvs:List (List Key×V)}{xs:List (List Key×Addr×Value)}(r:KT H kvs xs)(ht:∀b ys,H b=some (.tup ys)->H' b=some (.tup ys)):KT H' kvs xs:=
  Paired.mapP r fun _ _ z=>⟨z.1,ht _ _ z.2.1,z.2.2⟩
section
variable{P:Program}{w:World}{H:Hp}{h:Heap}{a:Addr}
theorem zCa{u:HO}(ok:HOk P w H h)(e:Rd H a u):ObjOk P w H h a u:=e.ok ok
theorem zAF{kvs:List (Key×V)}(ok:HOk P w H h)(e:Rd H a (.dK kvs)):kvs.length<=sizeLine/\(a==sysModules)=false/\∃vs,KV kvs vs/\h.DictOf (mixKind P w) a vs:=
  show ObjOk P w H h a (.dK kvs) from zCa ok e
theorem zCe{kvs:List (Key×V)}(ok:HOk P w H h)(e:H a=some (.dK kvs)):kvs.length<=sizeLine/\(a==sysModules)=false/\∃vs,KV kvs vs/\h.DictOf (mixKind P w) a vs:=zAF ok (.inl e)
theorem jp{ks:List Key}(ok:HOk P w H h)(e:H a=some (.tup (ks.map kV))):(tupleKind (mixKind P w)).is h ks a:=by
  obtain⟨_,its,r,o,h1,h2,n,h3⟩:=(show ObjOk P w H h a (.tup (ks.map kV)) from ok a _ e)
  exact⟨o,its.toArray,n,h1,h2,h3,by simpa using zAf r⟩
theorem dt_rd {kvs : List (List Key × V)} (ok : HOk P w H h) (e : Rd H a (.dT kvs)) : kvs.length ≤ sizeLine ∧ (a == sysModules) = false ∧
    ∃xs,KT H kvs xs/\h.DictOfH (tupleKind (mixKind P w)) a xs:=by
  obtain⟨z,y,xs,r,o,es,ep,h1,h2,h3,h4,h5⟩:=(show ObjOk P w H h a (.dT kvs) from zCa ok e)
  refine⟨z,y,xs,r,o,es,ep,h1,h2,h3,h4,fun x hx=>?_,h5⟩
  have all:∀{l:List (List Key×V)} {m:List (List Key×Addr×Value)},KT H l m->∀x∈m,(tupleKind (mixKind P w)).is h x.1 x.2.1:=by
    intro l m q
    induction q with
    |nil=>intro x hx;exact nomatch hx
    | @cons p q ps qs hq t ih =>
      intro x hx
      rcases List.mem_cons.mp hx with e|hx
      . subst e
        exact jp ok (by rw[<-hq.1];exact hq.2.1)
      . exact ih x hx
  exact all r x hx
theorem zBw{kvs:List (List Key×V)}(ok:HOk P w H h)(e:H a=some (.dT kvs)):kvs.length<=sizeLine/\(a==sysModules)=false/\
    ∃xs,KT H kvs xs/\h.DictOfH (tupleKind (mixKind P w)) a xs:=dt_rd ok (.inl e)
end
def DGet(H:Hp)(a:Addr)(y:V)(r:Option V):Prop:=
  (∃kvs k,Rd H a (.dK kvs)/\y=kV k/\r=valV kvs k)\/∃kvs k b,Rd H a (.dT kvs)/\y=.ref b/\H b=some (.tup (k.map kV))/\r=valV kvs k
def DPut(H:Hp)(a:Addr)(y v:V)(H':Hp):Prop:=
  (∃kvs k,H a=some (.dK kvs)/\y=kV k/\kvs.length<sizeLine/\H'=upd H a (.dK (putK kvs k v)))\/
  ∃kvs k b,H a=some (.dT kvs)/\y=.ref b/\H b=some (.tup (k.map kV))/\kvs.length<sizeLine/\H'=upd H a (.dT (putK kvs k v))
theorem DGet.k{H:Hp}{a:Addr}{kvs:List (Key×V)}{k:Key}(e:H a=some (.dK kvs)):DGet H a (kV k) (valV kvs k):=.inl ⟨kvs,k,.inl e,rfl,rfl⟩
theorem DGet.t{H:Hp}{a b:Addr}{kvs:List (List Key×V)}{k:List Key}(e:H a=some (.dT kvs))(eb:H b=some (.tup (k.map kV))):DGet H a (.ref b) (valV kvs k):=.inr ⟨kvs,k,b,.inl e,rfl,eb,rfl⟩
theorem DPut.k{H:Hp}{a:Addr}{kvs:List (Key×V)}{k:Key}{v:V}(e:H a=some (.dK kvs))(hl:kvs.length<sizeLine):DPut H a (kV k) v (upd H a (.dK (putK kvs k v))):=.inl ⟨kvs,k,e,rfl,hl,rfl⟩
theorem DPut.t{H:Hp}{a b:Addr}{kvs:List (List Key×V)}{k:List Key}{v:V}(e:H a=some (.dT kvs))(eb:H b=some (.tup (k.map kV)))(hl:kvs.length<sizeLine):
    DPut H a (.ref b) v (upd H a (.dT (putK kvs k v))):=.inr ⟨kvs,k,b,e,rfl,eb,hl,rfl⟩
section
variable{X:Cx}{pins:List (Addr×Obj)}{σ:St}{H:Hp}{s:Shared}{a:Addr}{y v:V}{u r:Value}{o:Option V}{A:Around}{E:Value->Shared->Prop}
theorem Inv.big(I:Inv X pins σ H s):sysModules<s.heap.objs.size:=by
  have h:mainGlobals<s.heap.objs.size:=(I.mod.glob.keeps I.bk).lt
  exact Nat.lt_trans (by decide) h
theorem d_getItem{Q:Value->Shared->Prop}(hu:A.units+1<cLine)(I:Inv X pins σ H s)(g:DGet H a y (some v))(ry:RelV y u)(h:∀w' s',Inv X pins σ H s'->RelV v w'->Q w' s'):
    wpAny (model X.prog X.w) A (getItem (.ref a) u) Q E s:=by
  rcases g with⟨kvs,k,e,ey,l⟩|⟨kvs,k,b,e,ey,eb,l⟩
  . subst ey
    obtain⟨z,hd,vs,rel,dd⟩:=zAF I.hok e
    obtain⟨w',hw,rw'⟩:=RelO.some_of (v:=v) (o:=valueAt vs k) (by rw[l];exact rel.val k)
    exact wpAny_getItem_of (J6 ry) dd.mapOf hw (h w' _ (I.tok _) rw')
  . subst ey
    cases (show u=Value.ref b from ry)
    obtain⟨z,hd,xs,rel,dd⟩:=dt_rd I.hok e
    obtain⟨w',hw,rw'⟩:=RelO.some_of (v:=v) (o:=(atKey xs k).map (·.2)) (by rw[l];exact rel.val k)
    obtain⟨p,hp,hp2⟩:=Option.map_eq_some_iff.mp hw
    refine wpAny_getItem_heap (tupleKind_room_in1 hu) (jp I.hok eb) dd hp ?_
    rw[hp2]
    exact h w' _ (I.tok _) rw'
theorem d_in{Q:Value->Shared->Prop}(hu:A.units+1<cLine)(I:Inv X pins σ H s)(g:DGet H a y o)(ry:RelV y u)(h:∀s',Inv X pins σ H s'->Q (.bool o.isSome) s'):
    wpAny (model X.prog X.w) A (compareOp .In u (.ref a)) Q E s:=by
  rcases g with⟨kvs,k,e,ey,l⟩|⟨kvs,k,b,e,ey,eb,l⟩
  . subst ey
    obtain⟨z,hd,vs,rel,dd⟩:=zAF I.hok e
    refine wpAny_in_of (J6 ry) hd dd.mapOf ?_
    rw[<-(rel.val k).isSome_eq,<-l]
    exact h _ (I.tok _)
  . subst ey
    cases (show u=Value.ref b from ry)
    obtain⟨z,hd,xs,rel,dd⟩:=dt_rd I.hok e
    refine wpAny_in_heap (tupleKind_room_in1 hu) (jp I.hok eb) hd dd ?_
    have q:=(rel.val k).isSome_eq
    rw[Option.isSome_map] at q
    rw[<-q,<-l]
    exact h _ (I.tok _)
theorem d_notIn{Q:Value->Shared->Prop}(hu:A.units+1<cLine)(I:Inv X pins σ H s)(g:DGet H a y o)(ry:RelV y u)(h:∀s',Inv X pins σ H s'->Q (.bool (!o.isSome)) s'):
    wpAny (model X.prog X.w) A (compareOp .NotIn u (.ref a)) Q E s:=by
  rcases g with⟨kvs,k,e,ey,l⟩|⟨kvs,k,b,e,ey,eb,l⟩
  . subst ey
    obtain⟨z,hd,vs,rel,dd⟩:=zAF I.hok e
    refine wpAny_notIn_of (J6 ry) hd dd.mapOf ?_
    rw[<-(rel.val k).isSome_eq,<-l]
    exact h _ (I.tok _)
  . subst ey
    cases (show u=Value.ref b from ry)
    obtain⟨z,hd,xs,rel,dd⟩:=dt_rd I.hok e
    refine wpAny_notIn_heap (tupleKind_room_in1 hu) (jp I.hok eb) hd dd ?_
    have q:=(rel.val k).isSome_eq
    rw[Option.isSome_map] at q
    rw[<-q,<-l]
    exact h _ (I.tok _)
theorem Je{h':Heap}{t':Nat}{ob:HO}(I:Inv X pins σ H s)(mu:Mut (H a))(hs:Heap.SameBut a s.heap h')(he:∃q,h'.get? a=some q)(new:ObjOk X.prog X.w (upd H a ob) h' a ob):
    Inv X pins σ (upd H a ob) { s with heap:=h',toks:=t' }:=
  I.write (x:=a) (e:=a) mu (.inl rfl) (fun b q hb z=>(hs.2 b hb).trans z) he new
theorem zCU{P:Program}{w:World}{H':Hp}{h':Heap}{kvs:List (Key×V)}{vs:List (Key×Value)}(z:kvs.length<=sizeLine)(hd:(a==sysModules)=false)(rel:KV kvs vs)(dd:h'.DictOf (mixKind P w) a vs):
    ObjOk P w H' h' a (.dK kvs):=⟨z,hd,vs,rel,dd⟩
theorem d_setItem{H':Hp}{Q:Unit->Shared->Prop}(hu:A.units+1<cLine)(I:Inv X pins σ H s)(g:DPut H a y v H')(ry:RelV y u)(rv:RelV v r)(h:∀s',Inv X pins σ H' s'->Q () s'):
    wpAny (model X.prog X.w) A (setItem (.ref a) u r) Q E s:=by
  rcases g with⟨kvs,k,e,ey,l,eH⟩|⟨kvs,k,b,e,ey,eb,l,eH⟩
  . subst ey eH
    obtain⟨z,hd,vs,rel,dd⟩:=zCe I.hok e
    have hz:vs.length<=sizeLine:=by rw[<-rel.length];exact z
    have hl:(putK kvs k v).length<=sizeLine:=by have:=jC kvs k v;omega
    refine wpAny_setItem_pairs (hsz:=hz) (J6 ry) dd fun h' dd' hs=>h _ ?_
    have he:∃q,h'.get? a=some q:=let ⟨q,_,_,hq,_⟩:=dd';⟨q,hq⟩
    exact Je I (by rw[e];exact True.intro) hs he (zCU hl hd (rel.put k rv) dd')
  . subst ey eH
    cases (show u=Value.ref b from ry)
    obtain⟨z,hd,xs,rel,dd⟩:=zBw I.hok e
    have hz:xs.length<=sizeLine:=by rw[<-Paired.length rel];exact z
    have hl:(putK kvs k v).length<=sizeLine:=by have:=jC kvs k v;omega
    refine wpAny_setItem_heap (hsz:=hz) (tupleKind_room_in1 hu) (jp I.hok eb) dd fun h' dd' hs=>h _ ?_
    obtain⟨q,es,ep,hq,h2,h3,h4,_,h5⟩:=dd'
    refine Je I (by rw[e];exact True.intro) hs ⟨q,hq⟩ ⟨hl,hd,_,(rel.put k eb rv).keeps fun c ys ec=>?_,q,es,ep,hq,h2,h3,h4,h5⟩
    rw[zI (za ec e (fun z=>nomatch z))]
    exact ec
end
section
variable{X:Cx}{pins:List (Addr×Obj)}{σ:St}{H:Hp}{s:Shared}{a:Addr}{kvs:List (Key×V)}{k:Key}{u:Value}{A:Around}{E:Value->Shared->Prop}
end
def NoSl(i:Expr):Prop:=∀ov iv,subscripted i false ov iv=operate [ov,iv] (getItem ov iv)
theorem subD_of{prog:Program}{w:World}{A:Around}{E:Value->Shared->Prop}{s:Shared}{env:Env}{value slice:Expr}{pos:Pos}{T id:String}{Q:Value->Shared->Prop}
    (hl:typeLookup (.type T) "__getitem__"=pure (some (.builtin id))) (hs:NoSl slice)
    (h:wpAny (model prog w) A (eval value env) (fun o s₁=>wpAny (model prog w) A (eval slice env) (fun i s₂=>s₂.TypeIs o T/\wpAny (model prog w) A (getItem o i) Q E s₂) E s₁) E s):
    wpAny (model prog w) A (eval (.Subscript value slice pos) env) Q E s:=by
  refine Subscript_ (wpAny_mono h (fun o s₁ h₁=>wpAny_mono h₁ (fun i s₂ h₂=>?_) fun _ _ x=>x) fun _ _ x=>x)
  obtain⟨hT,h₂⟩:=h₂
  unfold subscriptTail
  refine wpAny_bind ?_
  rw[getitemInPython_of_ne hT.not_modules]
  refine wpAny_bind (wpAny_specialOf hT hl ?_)
  have fin:wpAny (model prog w) A (subscripted slice false o i) (fun r s₃=>wpAny (model prog w) A (letTemporaryGo value o r >>= fun _=>pure r) Q E s₃) E s₂:=by
    rw[hs o i]
    exact wpAny_operating (wpAny_mono h₂ (fun r s₃ h₃=>wpAny_bind (wpAny_letTemporaryGo (wpAny_pure h₃))) fun _ _ x=>x)
  first
    |exact wpAny_pure (wpAny_bind fin)
    |exact wpAny_bind (wpAny_pure (wpAny_bind fin))
    |exact wpAny_bind fin
theorem dict_typeIs{X:Cx}{pins:List (Addr×Obj)}{σ:St}{H:Hp}{s:Shared}{a:Addr}{y:V}{o:Option V}(I:Inv X pins σ H s)(g:DGet H a y o):s.TypeIs (.ref a) "dict":=by
  rcases g with⟨kvs,k,e,_,_⟩|⟨kvs,k,b,e,_,_,_⟩
  . obtain⟨_,_,vs,_,dd⟩:=zAF I.hok e
    exact dd.typeIs
  . obtain⟨_,_,xs,_,dd⟩:=dt_rd I.hok e
    exact dd.typeIs
def tDGet(td ty:TE):TE:=fun σ H Q=>td σ H fun x H1=>ty σ H1 fun y H2=>∃a v,x=.ref a/\DGet H2 a y (some v)/\Q v H2
def tDIn(ty td:TE):TE:=fun σ H Q=>ty σ H fun y H1=>td σ H1 fun x H2=>∃a o,x=.ref a/\DGet H2 a y o/\Q (.bl o.isSome) H2
def tDNotIn(ty td:TE):TE:=fun σ H Q=>ty σ H fun y H1=>td σ H1 fun x H2=>∃a o,x=.ref a/\DGet H2 a y o/\Q (.bl (!o.isSome)) H2
def sDPut(td ty tv:TE):TS:=fun D σ H=>tv σ H fun v H1=>td σ H1 fun x H2=>ty σ H2 fun y H3=>∃a H4,x=.ref a/\DPut H3 a y v H4/\D.nx σ H4
section
variable{X:Cx}{o i e value:Expr}{pos pos' tpos:Pos}{td ty tv:TE}
theorem zBm(hu:X.A.units+1<cLine)(ho:PE X o td)(hi:PE X i ty)(hs:NoSl i):PE X (.Subscript o i pos) (tDGet td ty):=by
  intro pins s σ H Q I h
  refine subD_of PySem.F.slot_dict_getitem.lookup hs (thn (ho pins s σ H _ I h) fun u s1 ⟨x,H1,I1,rx,q1⟩=>thn (hi pins s1 σ H1 _ I1 q1) fun iv s2 ⟨y,H2,I2,ry,a,v,ex,g,q2⟩=>?_)
  subst ex
  obtain rfl:u=Value.ref a:=rx
  exact⟨dict_typeIs I2 g,d_getItem hu I2 g ry fun w' s3 I3 rw'=>⟨v,H2,I3,rw',q2⟩⟩
theorem zBb(hu:X.A.units+1<cLine)(hi:PE X i ty)(ho:PE X o td):PC X .In i o (tDIn ty td):=by
  intro pins s σ H Q I h
  refine thn (hi pins s σ H _ I h) fun iv s1 ⟨y,H1,I1,ry,q1⟩=>thn (ho pins s1 σ H1 _ I1 q1) fun u s2 ⟨x,H2,I2,rx,a,ov,ex,g,q2⟩=>?_
  subst ex
  obtain rfl:u=Value.ref a:=rx
  exact d_in hu I2 g ry fun s3 I3=>⟨.bl ov.isSome,H2,I3,rfl,q2⟩
theorem JH(hu:X.A.units+1<cLine)(hi:PE X i ty)(ho:PE X o td):PC X .NotIn i o (tDNotIn ty td):=by
  intro pins s σ H Q I h
  refine thn (hi pins s σ H _ I h) fun iv s1 ⟨y,H1,I1,ry,q1⟩=>thn (ho pins s1 σ H1 _ I1 q1) fun u s2 ⟨x,H2,I2,rx,a,ov,ex,g,q2⟩=>?_
  subst ex
  obtain rfl:u=Value.ref a:=rx
  exact d_notIn hu I2 g ry fun s3 I3=>⟨.bl (!ov.isSome),H2,I3,rfl,q2⟩
theorem Qv(hu:X.A.units+1<cLine)(ho:PE X o td)(hi:PE X i ty)(hv:PE X value tv)(hs:swapsWith value (some (.Subscript o i pos')) pos.line X.env=pure false):
    PS X (.Assign [.Subscript o i pos'] value pos) (sDPut td ty tv):=by
  intro pins s σ H D I h
  refine wpAny_Assign_Subscript (thn (hv pins s σ H _ I h) fun r s1 ⟨v,H1,I1,rv,q1⟩=>thn (ho pins s1 σ H1 _ I1 q1) fun u s2 ⟨x,H2,I2,rx,q2⟩=>thn (hi pins s2 σ H2 _ I2 q2) fun iv s3 ⟨y,H3,I3,ry,a,H4,ex,g,q3⟩=>?_) hs
  subst ex
  obtain rfl:u=Value.ref a:=rx
  exact d_setItem hu I3 g ry rv fun s4 I4=>⟨σ,H4,I4,q3⟩
end
theorem zBU{P:Program}{w:World}{H:Hp}(h:Heap)(hb:sysModules<h.objs.size):ObjOk P w H (h.push { cls:=.type "dict",data:=.dict #[] }) h.objs.size (.dK []):=
  ⟨Nat.zero_le _,beq_eq_false_iff_ne.mpr (Ne.symm (Nat.ne_of_lt hb)),[],.nil,Heap.DictOf.new h⟩
theorem dt_empty{P:Program}{w:World}{H:Hp}(h:Heap)(hb:sysModules<h.objs.size):ObjOk P w H (h.push { cls:=.type "dict",data:=.dict #[] }) h.objs.size (.dT []):=
  ⟨Nat.zero_le _,beq_eq_false_iff_ne.mpr (Ne.symm (Nat.ne_of_lt hb)),[],.nil,_,#[],0,Heap.get?_push_size _ rfl,⟨rfl,rfl,rfl⟩,rfl,rfl,List.nodup_nil⟩
def tDNewK:TE:=fun _ H Q=>∀p,H p=none->Q (.ref p) (upd H p (.dK []))
def tDNewT:TE:=fun _ H Q=>∀p,H p=none->Q (.ref p) (upd H p (.dT []))
section
variable{X:Cx}{pos:Pos}
theorem pe_dnewK:PE X (.Dict [] [] pos) tDNewK:=fun pins s σ H Q I h=>
  wpAny_Dict_empty ⟨.ref s.heap.objs.size,_,I.laid (a:=s.heap.objs.size) (o:=.dK []) (t':=s.toks) (fun _ _ q=>Heap.get?_push_of_some _ q) (Nat.le_refl _) (zBU s.heap I.big),rfl,h _ (I.hok.fresh (Nat.le_refl _))⟩
theorem jv:PE X (.Dict [] [] pos) tDNewT:=fun pins s σ H Q I h=>
  wpAny_Dict_empty ⟨.ref s.heap.objs.size,_,I.laid (a:=s.heap.objs.size) (o:=.dT []) (t':=s.toks) (fun _ _ q=>Heap.get?_push_of_some _ q) (Nat.le_refl _) (dt_empty s.heap I.big),rfl,h _ (I.hok.fresh (Nat.le_refl _))⟩
end
def tPairs:List (TE×TE)->St->Hp->(List (V×V)->Hp->Prop)->Prop
  |[],_,H,Q=>Q [] H
  |(tk,tv)::r,σ,H,Q=>tk σ H fun x H1=>tv σ H1 fun y H2=>tPairs r σ H2 fun ps H3=>Q ((x,y)::ps) H3
abbrev VV:List (V×V)->List (Value×Value)->Prop:=Paired fun p q=>RelV p.1 q.1/\RelV p.2 q.2
def PPs (X : Cx) (pos : Pos) (keys : List (Option Expr)) (values : List Expr) (trs : List (TE × TE)) : Prop :=
  ∀ (pins : List (Addr × Obj)) (s : Shared) (σ : St) (H : Hp) (Q : List (V × V) → Hp → Prop), Inv X pins σ H s → tPairs trs σ H Q →
    wpAny (model X.prog X.w) X.A (evalPairs (pairTrees keys values X.env pos)) (fun vs s'=>∃ps H',Inv X pins σ H' s'/\VV ps vs/\Q ps H') X.xe s
theorem zAy{X:Cx}{pos:Pos}:PPs X pos [] [] []:=fun pins s σ H Q I h=>pairTrees_nil_walk ⟨[],H,I,.nil,h⟩
theorem Jv{X:Cx}{pos:Pos}{k v:Expr}{ks:List (Option Expr)}{vs:List Expr}{tk tv:TE}{trs:List (TE×TE)}(hk:PE X k tk)(hv:PE X v tv)(hr:PPs X pos ks vs trs):
    PPs X pos (some k::ks) (v::vs) ((tk,tv)::trs):=fun pins s σ H Q I h=>
  pairTrees_cons_walk (thn (hk pins s σ H _ I h) fun u s1 ⟨x,H1,I1,rx,q1⟩=>thn (hv pins s1 σ H1 _ I1 q1) fun w2 s2 ⟨y,H2,I2,ry,q2⟩=>
    thn (hr pins s2 σ H2 _ I2 q2) fun ws s3 ⟨ps,H3,I3,rel,q3⟩=>⟨(x,y)::ps,H3,I3,.cons ⟨rx,ry⟩ rel,q3⟩)
def mergeK(kvs more:List (Key×V)):List (Key×V):=more.foldl (fun acc kv=>putK acc kv.1 kv.2) kvs
theorem KV.merge:∀{more:List (Key×V)} {rs:List (Key×Value)} {kvs:List (Key×V)} {vs:List (Key×Value)},KV more rs->KV kvs vs->KV (mergeK kvs more) (merged vs rs):=by
  intro more rs kvs vs r
  unfold KV at r
  induction r generalizing kvs vs with
  |nil=>intro q;exact q
  | @cons p q ps qs h t ih =>
    intro r0
    have e:KV (putK kvs p.1 p.2) (stored vs q.1 q.2):=by
      have:=r0.put p.1 h.2
      rw[<-h.1];exact this
    exact ih e
theorem jV:∀(more kvs:List (Key×V)),(mergeK kvs more).length<=kvs.length+more.length
  |[],kvs=>by show kvs.length<=kvs.length+0;omega
  | p :: r, kvs => by
    have h1:=jV r (putK kvs p.1 p.2)
    have h2:=jC kvs p.1 p.2
    show(mergeK (putK kvs p.1 p.2) r).length<=_
    rw[List.length_cons];omega
theorem zAJ{P:Program}{w:World}:∀{kvs:List (Key×V)} {ws:List (Value×Value)},VV (kvs.map fun kv=>(kV kv.1,kv.2)) ws->∃rs,Carries (mixKind P w) ws rs/\KV kvs rs
  |[],_,r=>by rw[List.map_nil] at r;cases r;exact⟨[],True.intro,.nil⟩
  | p :: kvs, _, r => by
    rw[List.map_cons] at r
    cases r with
    | @cons a b as bs h t =>
      obtain⟨rs,c,q⟩:=zAJ (P:=P) (w:=w) t
      obtain⟨b1,b2⟩:=b
      exact⟨(p.1,b2)::rs,⟨J6 h.1,rfl,c⟩,.cons ⟨rfl,h.2⟩ q⟩
def tDisp(trs:List (TE×TE)):TE:=fun σ H Q=>∀p,H p=none->tPairs trs σ (upd H p (.dK [])) fun ps H2=>H2 p=some (.dK [])/\∃kvs:List (Key×V),ps=kvs.map (fun kv=>(kV kv.1,kv.2))/\kvs.length<=15/\Q (.ref p) (upd H2 p (.dK (mergeK [] kvs)))
theorem zAz{X:Cx}{pos:Pos}{keys:List (Option Expr)}{values:List Expr}{trs:List (TE×TE)}(h:PPs X pos keys values trs)(hall:keys.all (·.isSome)=true)(hl:keys.length=values.length)(h0:keys≠[])
    (h15:keys.length<=15):PE X (.Dict keys values pos) (tDisp trs):=by
  intro pins s σ H Q I q
  have hn:=I.hok.fresh (Nat.le_refl s.heap.objs.size)
  have I1:=I.laid (a:=s.heap.objs.size) (o:=.dK []) (h':=s.heap.push { cls:=.type "dict",data:=.dict #[] }) (t':=s.toks) (fun _ _ q=>Heap.get?_push_of_some _ q) (Nat.le_refl _) (zBU s.heap I.big)
  refine wpAny_Dict_walk (knd:=mixKind X.prog X.w) hall hl h0 h15 (thn (h pins _ σ _ _ I1 (q _ hn)) fun ws s2 ⟨ps,H2,I2,rel,e,kvs,ep,lk,q2⟩=>?_)
  subst ep
  obtain⟨rs,c,rk⟩:=zAJ (P:=X.prog) (w:=X.w) rel
  obtain⟨z,hd,vs0,r0,dd⟩:=zCe I2.hok e
  cases r0
  refine⟨rs,c,dd,fun h' dd' hs=>⟨.ref s.heap.objs.size,_,?_,rfl,q2⟩⟩
  have hz:(mergeK [] kvs).length<=sizeLine:=by
    have h1:=jV kvs []
    rw[List.length_nil] at h1
    rw[sizeLine_eq];omega
  have he:∃q,h'.get? s.heap.objs.size=some q:=let ⟨q,_,_,hq,_⟩:=dd';⟨q,hq⟩
  exact Je I2 (by rw[e];exact True.intro) hs he (zCU hz hd (rk.merge .nil) dd')
structure M1(X:Cx)(o:Expr)(m:Str)(apos:Pos)(e:Expr)(cpos:Pos):Prop where
  base:attributeBase o m X.env (eval o X.env)=eval o X.env
  few:((backTo cpos (starEach [e] X.env)).all (fun x=>!x.1)&&(backToKw cpos (keywordEach [] X.env)).all (fun x=>x.1.isSome)
    && decide (([e]:List Expr).length+([]:List Keyword).length+(if ([]:List Keyword).isEmpty then 0 else 1)<30))=true
  line:(apos.endLine==cpos.line)=true
  trees:backTo cpos (starEach [e] X.env)=[(false,eval e X.env)]
structure M2(X:Cx)(o:Expr)(m:Str)(apos:Pos)(e f:Expr)(cpos:Pos):Prop where
  base:attributeBase o m X.env (eval o X.env)=eval o X.env
  few:((backTo cpos (starEach [e,f] X.env)).all (fun x=>!x.1)&&(backToKw cpos (keywordEach [] X.env)).all (fun x=>x.1.isSome)
    && decide (([e,f]:List Expr).length+([]:List Keyword).length+(if ([]:List Keyword).isEmpty then 0 else 1)<30))=true
  line:(apos.endLine==cpos.line)=true
  trees:backTo cpos (starEach [e,f] X.env)=[(false,eval e X.env),(false,eval f X.env)]
def IsD(H:Hp)(a:Addr):Prop:=(∃kvs,Rd H a (.dK kvs))\/∃kvs,Rd H a (.dT kvs)
theorem zBc{X:Cx}{pins:List (Addr×Obj)}{σ:St}{H:Hp}{s:Shared}{a:Addr}(I:Inv X pins σ H s)(d:IsD H a):
    s.TypeIs (.ref a) "dict"/\(∀b,Value.ref a=.ref b->∃ob,s.heap.get? b=some ob/\ob.dict=none)/\(a==sysModules)=false:=by
  rcases d with⟨kvs,e⟩|⟨kvs,e⟩
  . obtain⟨_,hd,vs,_,dd⟩:=zAF I.hok e
    refine⟨dd.typeIs,fun b q=>?_,hd⟩
    cases q
    obtain⟨ob,_,_,h1,h2,_⟩:=dd
    exact⟨ob,h1,h2.2.1⟩
  . obtain⟨_,hd,xs,_,dd⟩:=dt_rd I.hok e
    refine⟨dd.typeIs,fun b q=>?_,hd⟩
    cases q
    obtain⟨ob,_,_,h1,h2,_⟩:=dd
    exact⟨ob,h1,h2.2.1⟩
section
variable{X:Cx}{pins:List (Addr×Obj)}{σ:St}{H:Hp}{s:Shared}{a:Addr}{y d:V}{u r:Value}{o:Option V}{A:Around}{E:Value->Shared->Prop}
theorem d_get2{Q:Value->Shared->Prop}(hu:A.units+1<cLine)(I:Inv X pins σ H s)(g:DGet H a y o)(ry:RelV y u)(rd:RelV d r)(h:∀w' s',Inv X pins σ H s'->RelV (o.getD d) w'->Q w' s'):
    wpAny (model X.prog X.w) A (call (.builtin "dict.get") [.ref a,u,r]) Q E s:=by
  rcases g with⟨kvs,k,e,ey,l⟩|⟨kvs,k,b,e,ey,eb,l⟩
  . subst ey
    obtain⟨z,hd,vs,rel,dd⟩:=zAF I.hok e
    refine call_meetsIn PySem.F.slot_dict_get dd.typeIs PySem.F.entry_dict_get (PySem.F.args_dict_get_3 _ _ _) (meets_dict_get_default (mixKind X.prog X.w) a (J6 ry) hd r) ⟨_,dd.mapOf,h _ _ (I.tok _) ?_⟩
    rw[l]
    exact(rel.val k).getD rd
  . subst ey
    cases (show u=Value.ref b from ry)
    obtain⟨z,hd,xs,rel,dd⟩:=dt_rd I.hok e
    refine call_meetsIn PySem.F.slot_dict_get dd.typeIs PySem.F.entry_dict_get (PySem.F.args_dict_get_3 _ _ _) (meetsH_dict_get_default (tupleKind (mixKind X.prog X.w)) a b hd r) ⟨tupleKind_room_in1 hu,k,xs,jp I.hok eb,dd,h _ _ (I.tok _) ?_⟩
    rw[l]
    exact(rel.val k).getD rd
end
def tDGet2(td ty tx:TE):TE:=fun σ H Q=>td σ H fun x H1=>∃a,x=.ref a/\IsD H1 a/\ty σ H1 fun y H2=>tx σ H2 fun z H3=>∃o,DGet H3 a y o/\Q (o.getD z) H3
section
variable{X:Cx}{o e f:Expr}{apos cpos:Pos}{td ty tx:TE}
theorem zBK(hu:X.A.units+1<cLine)(ho:PE X o td)(he:PE X e ty)(hf:PE X f tx)(m:M2 X o "get" apos e f cpos):PE X (.Call (.Attribute o "get" apos) [e,f] [] cpos) (tDGet2 td ty tx):=by
  intro pins s σ H Q I h
  refine wpAny_Call_method m.base m.few m.line PySem.F.plainAttrs_dict PySem.F.slot_dict_get PySem.F.type_dict_get (thn (ho pins s σ H _ I h) fun u s1 ⟨x,H1,I1,rx,a,ex,d,q1⟩=>?_)
  subst ex
  obtain rfl:u=Value.ref a:=rx
  obtain⟨t1,t2,_⟩:=zBc I1 d
  refine⟨t1,t2,?_⟩
  rw[m.trees]
  refine Calls.callWith_builtin rfl (Calls.evalArgs_plain (Calls.spliced_cons (thn (he pins s1 σ H1 _ I1 q1) fun iv s2 ⟨y,H2,I2,ry,q2⟩=>
    Calls.spliced_cons (thn (hf pins s2 σ H2 _ I2 q2) fun fv s3 ⟨z,H3,I3,rz,ov,g,q3⟩=>Calls.spliced_nil ?_))))
  exact d_get2 hu I3 g ry rz fun w' s4 I4 rw'=>⟨_,H3,I4,rw',q3⟩
end
section
variable{X:Cx}{pins:List (Addr×Obj)}{σ:St}{H:Hp}{s:Shared}{a:Addr}{kvs:List (Key×V)}{A:Around}{E:Value->Shared->Prop}
end
section
variable{X:Cx}{pins:List (Addr×Obj)}{σ:St}{H:Hp}{s:Shared}{a:Addr}{y:V}{u:Value}{A:Around}{E:Value->Shared->Prop}
end
end L2
namespace L2
open PySem PySem.Spec PyProof.Rows
section
variable{prog:Program}{w:World}{A:Around}{E:Value->Shared->Prop}
end
section
variable{X:Cx}
end
end L2
namespace L2
open PySem PySem.Spec PyProof.Rows
section
variable{X:Cx}{pins:List (Addr×Obj)}{σ:St}{H:Hp}{s:Shared}{h':Heap}
theorem Inv.turnedNew{t':Nat}{ch:List Addr}{T:Addr}{ob:HO}(I:Inv X pins σ H s)(k:∀b o,b ∉ ch->s.heap.get? b=some o->h'.get? b=some o)(hf:∀b∈ch,FpOk X pins H b)(hT:s.heap.objs.size<=T)
    (new:ObjOk X.prog X.w (upd H T ob) h' T ob):Inv X pins σ (upd H T ob) { s with heap:=h',toks:=t' }:=by
  have hn:H T=none:=I.hok.fresh hT
  have nit:∀b u,H b=some u->b ∉ ch:=fun b u e z=>by
    have q:=(hf b z).1
    rw[q] at e;cases e
  refine I.step (g':=s.gens) (d':=s.drawn) (ch:=ch) (fun b hb=>⟨(hf b hb).2.2.2.1,(hf b hb).2.1,(hf b hb).2.2.2.2.1,(hf b hb).2.2.2.2.2⟩) (fun b o _ _ hc e _=>k b o hc e) (fun b o _ _ hc e _=>⟨o.slots,k b o hc e⟩)
    (fun b o _ e n=>?_) (fun b o hc e=>⟨o,k b o hc e⟩) (fun b xs e=>?_) (fun b o u e=>?_) (fun b ps e=>⟨#[],?_⟩) (fun m hm=>?_) (fun b u e=>?_) I.bare
  . rw[zI (Nat.ne_of_lt (Nat.lt_of_lt_of_le (Heap.lt_size e) hT))];exact n
  . rw[zI (zL e hn)];exact e
  . rw[zI (zL e hn)];exact e
  . rw[zI (zL e hn),e];simp
  . obtain⟨o,es,ep,ho,r⟩:=hm
    exact⟨o,es,ep,k _ o (fun z=>(hf _ z).2.1 rfl) ho,r⟩
  . by_cases hb:b=T
    . subst hb
      rw[zJ] at e
      cases e
      exact new
    . rw[zI hb] at e
      refine(I.hok b u e).stay (fun c v hc q=>k c v ?_ q) (fun c q=>by rw[zI (zL q hn)];exact q) fun c xs q=>by rw[zI (zL q hn)];exact q
      rcases hc with z|z
      . rw[z];exact nit b u e
      . exact nit c _ z
theorem Inv.lock{d:Addr}{u:HO}(I:Inv X pins σ H s)(h:H d=some u)(mu:Mut (some u)):∃od,Inv X pins σ (upd H d (.frz od u)) s:=by
  have x:=I.hok d u h
  have ex:∃od,s.heap.get? d=some od:=by
    cases u with
    |lst xs=>obtain⟨_,_,_,_,e⟩:=x;exact⟨_,e⟩
    |dK kvs=>obtain⟨_,_,_,_,o,_,_,e,_⟩:=x;exact⟨o,e⟩
    |dT kvs=>obtain⟨_,_,_,_,o,_,_,e,_⟩:=x;exact⟨o,e⟩
    |set S n=>obtain⟨o,_,_,_,e,_⟩:=x;exact⟨o,e⟩
    |ins C dx fs=>obtain⟨_,_,_,e,_⟩:=x;exact⟨_,e⟩
    |ext φ=>obtain⟨_,⟨_,e⟩,_⟩:=x;exact⟨_,e⟩
    |_=>exact False.elim mu
  obtain⟨od,e⟩:=ex
  have new:ObjOk X.prog X.w (upd H d (.frz od u)) s.heap d (.frz od u):=by
    refine⟨e,x.stay (fun b v _ q=>q) (fun b q=>?_) fun b xs q=>?_⟩
    . rw[zI (fun z=>by rw[z,h] at q;cases q;exact mu)];exact q
    . rw[zI (fun z=>by rw[z,h] at q;cases q;exact mu)];exact q
  exact⟨od,I.write (x:=d) (e:=d) (t':=s.toks) (h':=s.heap) (by rw[h];exact mu) (.inl rfl) (fun b v _ q=>q) ⟨od,e⟩ new⟩
theorem Inv.nofrz{d:Addr}{u:HO}(I:Inv X pins σ H s)(h:H d=some u)(mu:Mut (some u)):∀o' u',X.H_0 d≠some (.frz o' u'):=fun o' u' e=>by
  have q:=I.base.frzs d o' u' e
  rw[h] at q
  cases q
  exact mu
theorem Inv.unlock{d:Addr}{od:Obj}{u:HO}(I:Inv X pins σ H s)(h:H d=some (.frz od u))(hn:∀o' u',X.H_0 d≠some (.frz o' u')):Inv X pins σ (upd H d u) s:=by
  have neH:∀b o,H b=some o->(∀o' u',o≠.frz o' u')->b≠d:=fun b o e hne z=>by
    rw[z,h] at e
    cases e
    exact hne _ _ rfl
  have neN:∀b,H b=none->b≠d:=fun b e z=>by rw[z,h] at e;cases e
  refine⟨I.ok,I.os,I.bare,⟨I.base.keep,I.base.slot,fun b o e n hx=>?_,I.base.there,fun b xs e=>?_,fun b o x e=>?_,fun b ps e=>?_⟩,I.loc,I.cell,?_,fun x c e=>?_,fun p hp=>?_,fun b o e=>?_,I.len⟩
  . rw[zI (neN b (I.base.free b o e n hx))];exact I.base.free b o e n hx
  . have q:=I.base.tups b xs e
    rw[zI (neH b _ q (fun _ _ z=>nomatch z))];exact q
  . have q:=I.base.frzs b o x e
    rw[zI (fun z=>by rw[z] at e;exact hn _ _ e)];exact q
  . obtain⟨m,q⟩:=I.base.tbls b ps e
    exact⟨m,by rw[zI (neH b _ q (fun _ _ z=>nomatch z))];exact q⟩
  . rw[zI (neN _ I.free)];exact I.free
  . rw[zI (neN c (I.freeC x c e))];exact I.freeC x c e
  . obtain⟨e,n,r⟩:=I.pin p hp
    exact⟨e,by rw[zI (neN _ n)];exact n,r⟩
  . by_cases hb:b=d
    . rw[hb,zJ] at e
      cases e
      rw[hb]
      obtain⟨_,x⟩:=I.hok d _ h
      exact x.stay (fun c v _ q=>q) (fun c q=>by rw[zI (neH c _ q (fun _ _ z=>nomatch z))];exact q) fun c xs q=>by rw[zI (neH c _ q (fun _ _ z=>nomatch z))];exact q
    . rw[zI hb] at e
      exact(I.hok b o e).stay (fun c v _ q=>q) (fun c q=>by rw[zI (neH c _ q (fun _ _ z=>nomatch z))];exact q) fun c xs q=>by rw[zI (neH c _ q (fun _ _ z=>nomatch z))];exact q
end
def tLock(t:TS):TS:=fun D σ H=>∃d u,H d=some u/\Mut (some u)/\∀od,t ⟨fun σ' H'=>H' d=some (.frz od u)/\D.nx σ' (upd H' d u),fun v H'=>H' d=some (.frz od u)/\D.rt v (upd H' d u),fun σ' H'=>H' d=some (.frz od u)/\D.bk σ' (upd H' d u),fun σ' H'=>H' d=some (.frz od u)/\D.ct σ' (upd H' d u)⟩ σ (upd H d (.frz od u))
section
variable{X:Cx}
theorem zBj{st:Stmt}{t:TS}(h:PS X st t):PS X st (tLock t):=by
  intro pins s σ H D I hw
  obtain⟨d,u,hd,mu,hw⟩:=hw
  obtain⟨od,I1⟩:=I.lock hd mu
  refine thn (h pins s σ _ _ I1 (hw od)) fun f s1 q=>?_
  cases f with
  |next=>obtain⟨σ',H',I2,e,q⟩:=q;exact⟨σ',_,I2.unlock e (I.nofrz hd mu),q⟩
  |brk=>obtain⟨σ',H',I2,e,q⟩:=q;exact⟨σ',_,I2.unlock e (I.nofrz hd mu),q⟩
  |cont=>obtain⟨σ',H',I2,e,q⟩:=q;exact⟨σ',_,I2.unlock e (I.nofrz hd mu),q⟩
  |ret v=>obtain⟨x,σ',H',I2,r,e,q⟩:=q;exact⟨x,σ',_,I2.unlock e (I.nofrz hd mu),r,q⟩
theorem zBa{tg:Expr}{pins:List (Addr×Obj)}{σ:St}{H:Hp}{s:Shared}{R:It->Hp->Prop}{J:It}{tn:Nat->Heap->Prop}{tk:Nat}(I:Inv X pins σ H s)(o:Obj)
    (T:Turn X.prog X.w X.K tg J [s.heap.objs.size] s.heap.objs.size tn) (st:tn 0 (s.heap.push o)) (q:R J H):PIE X pins σ tg R (.ref s.heap.objs.size) { s with heap:=s.heap.push o,toks:=tk }:=by
  refine⟨s.heap.objs.size,[s.heap.objs.size],tn,J,H,rfl,I.kept fun b ob e=>Heap.get?_push_of_some _ e,T,st,fun b hb=>?_,q⟩
  have e:b=s.heap.objs.size:=by simpa using hb
  subst e
  exact I.fpOk (Nat.le_refl _) (I.hok.fresh (Nat.le_refl _))
end
section
variable{X:Cx}{tg:Expr}
end
section
variable{X:Cx}{tg:Expr}
end
section
variable{prog:Program}{w:World}{A:Around}{E:Value->Shared->Prop}{s:Shared}
theorem JN{d:Addr}{o:Obj}{es:Array DictEntry}{ep:Nat}{Q:Value->Shared->Prop}(hd:(d==sysModules)=false)(ho:s.heap.get? d=some o)(hc:o.ExactDict)(hdat:o.data=.dict es ep)
    (hQ:Q (.ref s.heap.objs.size) { s with heap:=s.heap.push { cls:=.type "dict_keyiterator",data:=.fields #[.ref d,.int 0 0,.int es.size 0,.int ep 0] } }):
    wpAny (model prog w) A (pyIter (.ref d)) Q E s:=by
  have hT:s.TypeIs (.ref d) "dict":=⟨o,ho,hc.1⟩
  refine wpAny_pyIter_slot hT F.slot_dict_iter (wpAny_call_entry F.slot_dict_iter hT F.entry_dict_iter ?_ (F.args_dict_iter_1 _))
  unfold Builtin.«dict.__iter__»
  refine wpAny_bind ?_
  unfold Builtin.Dict.dictSlotNone
  refine wpAny_bind (wpAny_notOrdered_dict hT ?_)
  show wpAny _ _ (pure (Value.ref d)) _ _ s
  refine wpAny_pure ?_
  show wpAny _ _ (Builtin.Dict.showsAll d >>= _) _ _ s
  unfold Builtin.Dict.showsAll
  rw[if_neg (by rw[hd];exact Bool.false_ne_true)]
  refine wpAny_bind (wpAny_pure ?_)
  refine wpAny_bind (wpAny_dictEntries ho hdat ?_)
  refine wpAny_bind (wpAny_dictEpoch ho hdat ?_)
  refine wpAny_bind (wpAny_newObj_type (wpAny_pure ⟨_,rfl,"dict_keyiterator",_,⟨_,Heap.get?_push_size _ rfl,rfl⟩,F.slot_dict_keyiterator_next.lookup,?_⟩))
  simpa [rawInt] using hQ
theorem jU{it d:Addr}{i n ep:Nat}{od:Obj}{es:Array DictEntry}{en:DictEntry}{Q:Option Value->Shared->Prop}(hit:s.heap.IsKeyIter it d i n ep)(hod:s.heap.get? d=some od)(hdd:od.data=.dict es ep)
    (hsz:es.size=n) (hx:es[i]?=some en) (hQ:∀h',h'.IsKeyIter it d (i+1) n ep->Heap.SameBut it s.heap h'->Q (some en.key) { s with heap:=h' }):wpAny (model prog w) A (pyNext (.ref it)) Q E s:=by
  obtain⟨o,ho,hc,hd⟩:=id hit
  unfold pyNext
  refine wpAny_bind (wpAny_attempt (wpAny_callSpecial?_slot (name:=Str.ofString "__next__") hit.typeIs F.slot_dict_keyiterator_next
    (wpAny_call_entry F.slot_dict_keyiterator_next hit.typeIs F.entry_dict_keyiterator_next ?_ (F.args_dict_keyiterator_next_1 _))))
  refine wpAny_bind (wpAny_pure ?_)
  refine wpAny_bind ?_
  refine wpAny_bind ?_
  first|refine wpAny_bind (wpAny_typeNameOfWhole_keyiter hit.typeIs (wpAny_pure ?_))|refine wpAny_bind (wpAny_typeNameOf_keyiter hit.typeIs (wpAny_pure ?_))
  refine wpAny_bind (wpAny_fieldsOf ho hd ?_)
  have hown:Builtin.Dict_items.ownsTuple "dict_keyiterator"=false:=by decide
  simp only[hown,Bool.false_eq_true,if_false]
  show wpAny _ _ (if (Value.ref d==Value.none)=true then _ else _) _ _ s
  rw[if_neg (show ¬ ((Value.ref d==Value.none)=true) from Bool.false_ne_true)]
  refine wpAny_bind (wpAny_pure ?_)
  refine wpAny_bind (wpAny_dictEntries hod hdd ?_)
  rw[if_neg (by rw[hsz];simp)]
  refine wpAny_bind (wpAny_pure ?_)
  refine wpAny_bind (wpAny_dictEpoch hod hdd ?_)
  rw[if_neg (by simp)]
  refine wpAny_pure ?_
  obtain⟨hlt',hen⟩:=Array.getElem?_eq_some_iff.mp hx
  simp only[show ¬ ((i:Int)<0) from by omega,if_false,Int.toNat_natCast,Array.getElem?_eq_getElem hlt']
  refine wpAny_bind ?_
  first|refine wpAny_bind (wpAny_typeNameOfWhole_keyiter hit.typeIs (wpAny_pure ?_))|refine wpAny_bind (wpAny_typeNameOf_keyiter hit.typeIs (wpAny_pure ?_))
  refine wpAny_bind (wpAny_isOneOf_keyiter hit.typeIs ?_)
  show wpAny _ _ (setField (.ref it) 1 (rawInt ((i:Int)+1)) >>= _) _ _ s
  refine wpAny_bind (wpAny_setField ho hd (by simp) ?_)
  have hit':(s.heap.update it (Obj.mapFields (·.setIfInBounds 1 (rawInt ((i:Int)+1))))).IsKeyIter it d (i+1) n ep:=
    ⟨_,Heap.get?_update_self _ ho (Obj.isFreed_of_fields (Obj.data_mapFields hd _)),(Obj.cls_mapFields ..).trans hc,by rw[Obj.data_mapFields hd];simp[rawInt]⟩
  refine wpAny_bind (wpAny_holding ?_)
  refine wpAny_bind (wpAny_isOneOf_keyiter (s:={ s with heap:=s.heap.update it (Obj.mapFields (·.setIfInBounds 1 (rawInt ((i:Int)+1)))) }) hit'.typeIs ?_)
  show wpAny _ _ (pure es[i].key) _ _ _
  rw[hen]
  exact wpAny_pure (wpAny_pure ⟨_,rfl,wpAny_pure (hQ _ hit' (Heap.SameBut.update ..))⟩)
theorem Qy{it d:Addr}{i n ep:Nat}{od:Obj}{es:Array DictEntry}{Q:Option Value->Shared->Prop}(hh:A.handled=none)(hit:s.heap.IsKeyIter it d i n ep)(hod:s.heap.get? d=some od)(hdd:od.data=.dict es ep)
    (hsz:es.size=n) (hge:n<=i) (hQ:∀h',Heap.ExtBut it s.heap h'->Q none { s with heap:=h' }):wpAny (model prog w) A (pyNext (.ref it)) Q E s:=by
  obtain⟨o,ho,hc,hd⟩:=id hit
  unfold pyNext
  refine wpAny_bind (wpAny_attempt (wpAny_callSpecial?_slot (name:=Str.ofString "__next__") hit.typeIs F.slot_dict_keyiterator_next
    (wpAny_call_entry F.slot_dict_keyiterator_next hit.typeIs F.entry_dict_keyiterator_next ?_ (F.args_dict_keyiterator_next_1 _))))
  refine wpAny_bind (wpAny_pure ?_)
  refine wpAny_bind ?_
  refine wpAny_bind ?_
  first|refine wpAny_bind (wpAny_typeNameOfWhole_keyiter hit.typeIs (wpAny_pure ?_))|refine wpAny_bind (wpAny_typeNameOf_keyiter hit.typeIs (wpAny_pure ?_))
  refine wpAny_bind (wpAny_fieldsOf ho hd ?_)
  have hown:Builtin.Dict_items.ownsTuple "dict_keyiterator"=false:=by decide
  simp only[hown,Bool.false_eq_true,if_false]
  show wpAny _ _ (if (Value.ref d==Value.none)=true then _ else _) _ _ s
  rw[if_neg (show ¬ ((Value.ref d==Value.none)=true) from Bool.false_ne_true)]
  refine wpAny_bind (wpAny_pure ?_)
  refine wpAny_bind (wpAny_dictEntries hod hdd ?_)
  rw[if_neg (by rw[hsz];simp)]
  refine wpAny_bind (wpAny_pure ?_)
  refine wpAny_bind (wpAny_dictEpoch hod hdd ?_)
  rw[if_neg (by simp)]
  refine wpAny_pure ?_
  have hge':es.size<=i:=by rw[hsz];exact hge
  simp only[show ¬ ((i:Int)<0) from by omega,if_false,Int.toNat_natCast,Array.getElem?_eq_none hge']
  refine wpAny_bind ?_
  first|refine wpAny_bind (wpAny_typeNameOfWhole_keyiter hit.typeIs (wpAny_pure ?_))|refine wpAny_bind (wpAny_typeNameOf_keyiter hit.typeIs (wpAny_pure ?_))
  show wpAny _ _ (setField (.ref it) 0 .none >>= _) _ _ s
  refine wpAny_bind (wpAny_setField ho hd (by simp) ?_)
  show wpAny _ _ (newExc (.type "StopIteration") [] >>= _) _ _ _
  refine wpAny_bind ?_
  simp only[newExc,newTuple]
  refine wpAny_bind (wpAny_newObj_type ?_ (by size_fits))
  refine wpAny_bind (m:=firstArgMember _ _) (wpAny_of_eq (a:=Value.none) (by first|rfl|(simp only[firstArgMember];rfl)) ?_)
  refine wpAny_newObj_type ?_ (by size_fits)
  simp only[raiseNew]
  refine wpAny_bind (wpAny_handled ?_)
  rw[show A.in1.handled=none from hh]
  refine wpAny_bind (wpAny_pure (wpAny_throw ?_))
  refine wpAny_bind (wpAny_isInstance (T:="StopIteration") (b:=true) ⟨_,Heap.get?_push_size _ rfl,rfl⟩ isSubtype_stop ?_)
  exact wpAny_pure (hQ _ (((Heap.SameBut.update ..).extBut.push _).push _))
end
theorem kv_get{κ:Type}{kvs:List (κ×V)}{vs:List (κ×Value)}(h:KV kvs vs):∀{i:Nat} {k:κ} {v:V},kvs[i]?=some (k,v)->∃u,vs[i]?=some (k,u)/\RelV v u:=by
  unfold KV at h
  induction h with
  |nil=>intro i k v e;simp at e
  | @cons a b l₁ l₂ r t ih =>
    intro i k v e
    cases i with
    | zero =>
      simp only[List.getElem?_cons_zero,Option.some.injEq] at e
      subst e
      refine⟨b.2,?_,r.2⟩
      simp only[List.getElem?_cons_zero]
      exact congrArg some (Prod.ext r.1.symm rfl)
    | succ j =>
      simp only[List.getElem?_cons_succ] at e ⊢
      exact ih e
theorem ZK{α β:Type}{G:α->β->Prop}{l₁:List α}{l₂:List β}(h:Paired G l₁ l₂):∀{i:Nat} {a:α},l₁[i]?=some a->∃b,l₂[i]?=some b/\G a b:=by
  induction h with
  |nil=>intro i a e;simp at e
  | @cons a b l₁ l₂ r t ih =>
    intro i a' e
    cases i with
    | zero =>
      simp only[List.getElem?_cons_zero,Option.some.injEq] at e
      subst e
      exact⟨b,rfl,r⟩
    | succ j =>
      simp only[List.getElem?_cons_succ] at e ⊢
      exact ih e
theorem relV_key{k:Key}{u:Value}(h:keyIs k u=true):RelV (kV k) u:=by
  rcases ZC h with⟨i,t,rfl,rfl⟩|⟨x,t,rfl,rfl⟩
  . exact⟨t,rfl⟩
  . exact⟨t,rfl⟩
section
variable{X:Cx}{pins:List (Addr×Obj)}{σ:St}{H:Hp}{s:Shared}{d:Addr}{o:Obj}
theorem Inv.frzK{kvs:List (Key×V)}(I:Inv X pins σ H s)(h:H d=some (.frz o (.dK kvs))):
    (d==sysModules)=false/\s.heap.get? d=some o/\o.ExactDict/\∃(es:Array DictEntry) (ep:Nat) (vs:List (Key×Value)),o.data=.dict es ep/\es.size=kvs.length/\KV kvs vs/\s.heap.DictAt (mixKind X.prog X.w) d vs ep:=by
  obtain⟨hd,z,hs,vs,kv,o',es,ep,ho,hx,hdt,r⟩:=I.hok d _ h
  rw[hd] at ho
  cases ho
  refine⟨hs,hd,hx,es,ep,vs,hdt,?_,kv,o,es,hd,hx,hdt,r⟩
  have l1:=r.2.1.length
  have l2:kvs.length=vs.length:=Paired.length kv
  rw[Array.length_toList] at l1
  omega
theorem Inv.frzT{kvs:List (List Key×V)}(I:Inv X pins σ H s)(h:H d=some (.frz o (.dT kvs))):
    (d==sysModules)=false/\s.heap.get? d=some o/\o.ExactDict/\∃(es:Array DictEntry) (ep:Nat),o.data=.dict es ep/\es.size=kvs.length/\
      ∀(i:Nat) (k:List Key) (v:V),kvs[i]?=some (k,v)->∃(en:DictEntry) (q:Addr),es[i]?=some en/\en.key=.ref q/\H q=some (.tup (k.map kV)):=by
  obtain⟨hd,z,hs,xs,pr,o',es,ep,ho,hx,hdt,he,_⟩:=I.hok d _ h
  rw[hd] at ho
  cases ho
  refine⟨hs,hd,hx,es,ep,hdt,?_,fun i k v e=>?_⟩
  . have l1:es.size=xs.length:=size_of_entries he
    have l2:kvs.length=xs.length:=Paired.length pr
    omega
  . obtain⟨b,hb,e1,e2,_⟩:=ZK pr e
    have q:=entry_at he i
    rw[hb] at q
    exact⟨_,b.2.1,q,rfl,e2⟩
end
def Itk(d:Addr)(o:Obj)(kvs:List (Key×V)):It:=
  ⟨fun i H=>H d=some (.frz o (.dK kvs))/\i<kvs.length,fun i H x H'=>H'=H/\∃k v,kvs[i]?=some (k,v)/\x=kV k,fun i H=>H d=some (.frz o (.dK kvs))/\kvs.length<=i⟩
def Itkt(d:Addr)(o:Obj)(kvs:List (List Key×V)):It:=
  ⟨fun i H=>H d=some (.frz o (.dT kvs))/\i<kvs.length,fun i H x H'=>H'=H/\∃(k:List Key) (v:V) (q:Addr),kvs[i]?=some (k,v)/\x=.ref q/\H q=some (.tup (k.map kV)),fun i H=>H d=some (.frz o (.dT kvs))/\kvs.length<=i⟩
theorem jO{o:Obj}{es es':Array DictEntry}{ep ep':Nat}(h:o.data=.dict es ep)(h':o.data=.dict es' ep'):es'=es/\ep'=ep:=by
  rw[h] at h'
  cases h'
  exact⟨rfl,rfl⟩
section
variable{P:Program}{w:World}{K:PySem.W.Frag}{tg:Expr}{d:Addr}{o:Obj}{es:Array DictEntry}{ep:Nat}
theorem turn_keys{kvs:List (Key×V)}(it:Addr)(hod:o.data=.dict es ep):Turn P w K tg (Itk d o kvs) [it] it (fun i h=>h.IsKeyIter it d i kvs.length ep) where
  mem:=by simp
  obj:=fun i h st b hb=>by
    have e:b=it:=by simpa using hb
    subst e
    obtain⟨oi,e,c,dd⟩:=st
    exact⟨oi,e,fun v z=>by rw[dd] at z;cases z⟩
  keep:=fun i h h' st k=>st.at fun oi e=>k it (by simp) oi e
  item:=by
    intro X hP hw hK hc i pins s σ H E I hf st hg
    subst hP hw hK
    obtain⟨hd,hi⟩:=hg
    obtain⟨f0,f1,f2,f3,f4,f5⟩:=hf it (by simp)
    obtain⟨hs,hgd,hx,es',ep',vs,hdt,hsz,kv,hm⟩:=I.frzK hd
    obtain⟨rfl,rfl⟩:=jO hod hdt
    obtain⟨⟨k,v⟩,hkv⟩:∃p,kvs[i]?=some p:=⟨kvs[i],List.getElem?_eq_getElem hi⟩
    obtain⟨u,hu,ru⟩:=kv_get kv hkv
    have hl:kvs.length=vs.length:=Paired.length kv
    rw[hl] at st
    refine wpAny_pyNext_dict_item st hm hu fun key h' hkey st' sb=>?_
    have I1:Inv X pins σ H { s with heap:=h' }:=I.turned (t':=s.toks) (fun b ob hb e=>(sb.2 b hb).trans e) f0 f1 f3 f4 f5
    obtain⟨oi,e,c,dd⟩:=id st'
    refine⟨key,rfl,go_of (s:={ s with heap:=h' }) e c dd (by decide) ⟨kV k,H,I1,relV_key (show keyIs k key=true from hkey),⟨rfl,k,v,hkv,rfl⟩,?_,fun b hb=>(hf b hb).1⟩⟩
    show h'.IsKeyIter it d (i+1) kvs.length _
    rw[hl]
    exact st'
  done:=by
    intro X hP hw hK hc i pins s σ H E I hf st hg
    subst hP hw hK
    obtain⟨hd,hi⟩:=hg
    obtain⟨f0,f1,f2,f3,f4,f5⟩:=hf it (by simp)
    obtain⟨hs,hgd,hx,es',ep',vs,hdt,hsz,kv,hm⟩:=I.frzK hd
    obtain⟨rfl,rfl⟩:=jO hod hdt
    exact Qy (I.ok.hd hc) st hgd hdt hsz hi fun h' eb=>⟨rfl,I.turned (t':=s.toks) (fun b ob hb e=>eb b ob hb e) f0 f1 f3 f4 f5⟩
  self:=fun A i s Q E st h=>wpAny_pyIter_keyiter st h
theorem turn_keysT{kvs:List (List Key×V)}(it:Addr)(hod:o.data=.dict es ep):Turn P w K tg (Itkt d o kvs) [it] it (fun i h=>h.IsKeyIter it d i kvs.length ep) where
  mem:=by simp
  obj:=fun i h st b hb=>by
    have e:b=it:=by simpa using hb
    subst e
    obtain⟨oi,e,c,dd⟩:=st
    exact⟨oi,e,fun v z=>by rw[dd] at z;cases z⟩
  keep:=fun i h h' st k=>st.at fun oi e=>k it (by simp) oi e
  item:=by
    intro X hP hw hK hc i pins s σ H E I hf st hg
    subst hP hw hK
    obtain⟨hd,hi⟩:=hg
    obtain⟨f0,f1,f2,f3,f4,f5⟩:=hf it (by simp)
    obtain⟨hs,hgd,hx,es',ep',hdt,hsz,ent⟩:=I.frzT hd
    obtain⟨rfl,rfl⟩:=jO hod hdt
    obtain⟨⟨k,v⟩,hkv⟩:∃p,kvs[i]?=some p:=⟨kvs[i],List.getElem?_eq_getElem hi⟩
    obtain⟨en,q,hen,hkey,hq⟩:=ent i k v hkv
    refine jU st hgd hdt hsz hen fun h' st' sb=>?_
    have I1:Inv X pins σ H { s with heap:=h' }:=I.turned (t':=s.toks) (fun b ob hb e=>(sb.2 b hb).trans e) f0 f1 f3 f4 f5
    obtain⟨oi,e,c,dd⟩:=id st'
    exact⟨en.key,rfl,go_of (s:={ s with heap:=h' }) e c dd (by decide) ⟨.ref q,H,I1,hkey,⟨rfl,k,v,q,hkv,rfl,hq⟩,st',fun b hb=>(hf b hb).1⟩⟩
  done:=by
    intro X hP hw hK hc i pins s σ H E I hf st hg
    subst hP hw hK
    obtain⟨hd,hi⟩:=hg
    obtain⟨f0,f1,f2,f3,f4,f5⟩:=hf it (by simp)
    obtain⟨hs,hgd,hx,es',ep',hdt,hsz,ent⟩:=I.frzT hd
    obtain⟨rfl,rfl⟩:=jO hod hdt
    exact Qy (I.ok.hd hc) st hgd hdt hsz hi fun h' eb=>⟨rfl,I.turned (t':=s.toks) (fun b ob hb e=>eb b ob hb e) f0 f1 f3 f4 f5⟩
  self:=fun A i s Q E st h=>by
    refine wpAny_pyIter_slot st.typeIs F.slot_dict_keyiterator_iter (wpAny_call_entry F.slot_dict_keyiterator_iter st.typeIs F.entry_dict_keyiterator_iter ?_ (F.args_dict_keyiterator_iter_1 _))
    show wpAny _ _ (ret (.ref it)) _ _ s
    exact wpAny_pure ⟨_,rfl,"dict_keyiterator",_,st.typeIs,F.slot_dict_keyiterator_next.lookup,h⟩
end
def iKeys(td:TE):TI:=fun σ H R=>td σ H fun x H1=>∃d o,x=.ref d/\((∃kvs,H1 d=some (.frz o (.dK kvs))/\R (Itk d o kvs) H1)\/∃kvs,H1 d=some (.frz o (.dT kvs))/\R (Itkt d o kvs) H1)
section
variable{X:Cx}{tg e:Expr}{td:TE}{apos cpos:Pos}
theorem pi_keys(he:PE X e td):PI X tg e (iKeys td):=by
  intro pins s σ H R I h
  refine thn (he pins s σ H _ I h) fun u s1 ⟨x,H1,I1,rx,d,o,ex,q⟩=>?_
  subst ex
  obtain rfl:u=Value.ref d:=rx
  rcases q with⟨kvs,hd,q⟩|⟨kvs,hd,q⟩
  . obtain⟨hs,hgd,hx,es,ep,vs,hdt,hsz,kv,hm⟩:=I1.frzK hd
    refine JN hs hgd hx hdt (zBa (tk:=s1.toks) I1 _ (turn_keys _ hdt) ⟨_,Heap.get?_push_size _ rfl,rfl,?_⟩ q)
    rw[hsz]<;>rfl
  . obtain⟨hs,hgd,hx,es,ep,hdt,hsz,ent⟩:=I1.frzT hd
    refine JN hs hgd hx hdt (zBa (tk:=s1.toks) I1 _ (turn_keysT _ hdt) ⟨_,Heap.get?_push_size _ rfl,rfl,?_⟩ q)
    rw[hsz]<;>rfl
end
end L2
section
namespace Bits
open PySem PyProof.Rows
end Bits
end
section
namespace TL
open PySem PySem.Builtin PySem.Builtin.Str PySem.StrLaws
end TL
end
namespace L2
open PySem PySem.Spec PyProof.Rows
section
variable{X:Cx}{pins:List (Addr×Obj)}{σ:St}{H:Hp}{s:Shared}{Q:VK}
end
section
variable{X:Cx}
end
section
variable{X:Cx}{o e:Expr}{to te:TE}
end
end L2
namespace L2
open PySem PySem.Spec PyProof.Rows
section
variable{X:Cx}
end
end L2
namespace Att
open PySem PySem.W PySem.Calls PyProof.Rows
section
variable{prog:Program}{w:World}{A:Around}{E:Value->Shared->Prop}{s:Shared}{K:Frag}
end
end Att
namespace L2
open PySem PySem.Spec PyProof.Rows
end L2
namespace L2
open PySem PySem.Spec PyProof.Rows
end L2
namespace L2
open PySem PySem.Spec PyProof.Rows
def inClass(s:Stmt)(j:Nat):Stmt:=match s with
  |.ClassDef _ _ _ body _ _ _ _ _ _ _=>body.getD j (.Pass ⟨0,0,0,0⟩)
  |_=>.Pass ⟨0,0,0,0⟩
def defArgs(s:Stmt):Arguments:=match s with
  |.FunctionDef _ a _ _ _ _ _ _ _ _=>a
  |_=>{ posonlyargs:=[],args:=[],vararg:=none,kwonlyargs:=[],kw_defaults:=[],kwarg:=none,defaults:=[] }
def defBody(s:Stmt):List Stmt:=match s with
  |.FunctionDef _ _ b _ _ _ _ _ _ _=>b
  |_=>[]
def defScope(s:Stmt):Scope:=match s with
  |.FunctionDef _ _ _ _ _ _ sc _ _ _=>sc
  |_=>{ kind:=.function,names:=[],isGenerator:=false,isCoroutine:=false }
abbrev CX0:CXT:=fun _ _ _ _ _ _=>False
abbrev E0:XK:=fun _ _ _=>False
theorem pass0{X:Cx}:Passes CX0 X E0:=fun _ _ _ _ _ _ _ h=>h.elim
structure Fun(K:PySem.W.Frag)(x qual:Str)(st:Stmt)(f:Addr)(fd:FuncData):Prop where
  ex:∃(oc:Value) (od:Option Addr) (kV doc pm:Value) (an:Option Addr) (cdv ct:Value) (osl:Array (Option Value)),
    fd=PySem.W.fnOf x qual (defArgs st) (defBody st) (defScope st) .none kV doc pm an cdv ct/\K.lookup f=some ⟨oc,od,.func fd,osl⟩/\PySem.W.codeIn K cdv qual=true
  kp:PySem.W.keepIn K (.ref f)=true
section
variable{P:Program}{w:World}{K:PySem.W.Frag}{mg:Str->Option Value}{base:Heap}
theorem Fun.ok{x qual:Str}{st:Stmt}{f:Addr}{fd:FuncData}{N ps:List Str}{k:Nat}{sp:Sp}(F:Fun K x qual st f fd)(S:FnScope N ps (defScope st))(len:∀vs H Q E,sp vs H Q E->vs.length=ps.length)
    (hbody:∀(cdv:Value) (A:Around) (outer:List Env) (s:Shared) (H:Hp) (vs:List V) (Q:VK) (E:XK),Room k (A.deeper (envOfC qual (defScope st) s.heap.objs.size f cdv))->sp vs H Q E->
      ∃t,PSs (cxOf CX0 P w K mg base N qual (defScope st) f cdv A outer s H E).nox (defBody st) t/\t { nx:=fun _ H'=>Q .non H',rt:=Q } (start N vs) H):FnOk P w K mg base CX0 (k+1) f fd ps sp:=by
  obtain⟨oc,od,kV,doc,pm,an,cdv,ct,osl,rfl,lk,hcd⟩:=F.ex
  refine fn_of lk hcd S len fun A outer s H vs Q E hr hsp=>?_
  obtain⟨t,h,q⟩:=hbody cdv A outer s H vs Q E hr hsp
  exact⟨t,h.nox,q⟩
theorem Fun.binds{x qual:Str}{st:Stmt}{f:Addr}{fd:FuncData}{ps:List Str}(F:Fun K x qual st f fd)
    (h:∀(kV doc pm:Value) (an:Option Addr) (cdv ct:Value) (us:List Value),us.length=ps.length->bindArgs (PySem.W.fnOf x qual (defArgs st) (defBody st) (defScope st) .none kV doc pm an cdv ct) ⟨us,[]⟩=pure (ps.zip us)):Binds K fd ps []:=by
  obtain⟨oc,od,kV,doc,pm,an,cdv,ct,osl,rfl,lk,hcd⟩:=F.ex
  exact .all (h kV doc pm an cdv ct)
theorem zBe{x qual:Str}{st:Stmt}{f:Addr}{oc:Value}{od an:Option Addr}{osl:Array (Option Value)}{kV doc pm cdv ct:Value}(l:K.lookup f=some ⟨oc,od,.func (PySem.W.fnOf x qual (defArgs st) (defBody st) (defScope st) .none kV doc pm an cdv ct),osl⟩)
    (c:PySem.W.codeIn K cdv qual=true) (k:PySem.W.keepIn K (.ref f)=true):Fun K x qual st f (PySem.W.fnOf x qual (defArgs st) (defBody st) (defScope st) .none kV doc pm an cdv ct):=⟨⟨oc,od,kV,doc,pm,an,cdv,ct,osl,rfl,l,c⟩,k⟩
end
theorem ZB{A:Around}{k:Nat}(hr:Room k A):A.units+1<cLine:=Nat.lt_of_le_of_lt (Nat.add_le_add_left (by decide:1<=64) _) hr.units
section
variable{X:Cx}
theorem pv(i:Nat){x:Str}{pos:Pos}(hN:X.N[i]?=some x:=by rfl)(hv:Vis X.env.scope x:=by first|exact Or.inl rfl|exact Or.inr (Or.inl rfl)|exact Or.inr (Or.inr rfl))(hd:(x==("__debug__":Str))=false:=by decide)
    (hcd:(x==("__classdict__":Str))=false:=by decide):PE X (.Name x pos) (tVar i):=pe_var hN hv hd hcd
end
def Same(H H':Hp):Prop:=∀b o,H b=some o->H' b=some o
theorem Same.refl(H:Hp):Same H H:=fun _ _ h=>h
theorem Same.trans{H H1 H2:Hp}(a:Same H H1)(b:Same H1 H2):Same H H2:=fun c o h=>b c o (a c o h)
theorem Same.free{H H':Hp}(e:Same H H'){l:Addr}(h:H' l=Option.none):H l=Option.none:=by
  cases q:H l with
  |none=>rfl
  | some o =>
    rw[e l o q] at h
    cases h
theorem Same.seq{K:PySem.W.Frag}{H H':Hp}{a:Addr}{xs:List V}(e:Same H H')(h:SqL K H a xs):SqL K H' a xs:=by
  rcases h with (h|⟨o,h⟩)|h
  . exact .inl (.inl (e _ _ h))
  . exact .inl (.inr ⟨o,e _ _ h⟩)
  . exact .inr h
section
variable{κ:Type}[DecidableEq κ]
theorem valV_not{kvs:List (κ×V)}{k:κ}(h:valV kvs k=none):¬ k∈kvs.map (·.1):=by
  intro m
  obtain⟨p,hp,e⟩:=List.mem_map.mp m
  have q:(kvs.any fun kv=>decide (kv.1=k))=true:=List.any_eq_true.mpr ⟨p,hp,decide_eq_true e⟩
  rw[Zy,h] at q
  exact absurd q (by simp)
end
theorem j4{xs:List V}{z:Int}{j:Nat}{v:V}(e:z=(j:Int))(h:xs[j]?=some v):atI xs z=some v:=by
  rw[e]
  exact atI_nat h
theorem Same.made{H H1:Hp}{x dx C:Addr}(nx:H x=Option.none)(nd:H dx=Option.none)(k:∀b o,(upd (upd H dx (.own x)) x (.ins C dx [])) b=some o->b≠x->H1 b=some o):Same H H1:=fun b o e=>
  k b o (by rw[zI (zL e nx),zI (zL e nd)];exact e) (zL e nx)
end L2
set_option maxHeartbeats 0
namespace L2
open PySem PySem.Spec PyProof.Rows
section
variable{α:Type}[DecidableEq α]
def offK(xs:List (α×Addr×Value))(k:α):List (α×Addr×Value):=xs.filter fun x=>decide (x.1≠k)
theorem offK_none{xs:List (α×Addr×Value)}{k:α}(h:k ∉ xs.map (·.1)):offK xs k=xs:=by
  refine List.filter_eq_self.mpr fun x hx=>decide_eq_true fun e=>h ?_
  exact List.mem_map.mpr ⟨x,hx,e⟩
theorem zAd{β:Type}(f:α×Addr×Value->β){k:α}:∀{xs:List (α×Addr×Value)} {j:Nat} {p:Addr×Value},(xs.map (·.1)).Nodup->xs[j]?=some (k,p)->(xs.map f).eraseIdx j=(offK xs k).map f
  |[],j,p,_,h=>by simp at h
  | x :: xs, 0, p, hn, h => by
    have e:x=(k,p):=by simpa using h
    subst e
    rw[List.map_cons,List.nodup_cons] at hn
    have q:=offK_none hn.1
    unfold offK at q ⊢
    rw[List.filter_cons,if_neg (by simp),q]
    rfl
  | x :: xs, j + 1, p, hn, h => by
    rw[List.map_cons,List.nodup_cons] at hn
    have h':xs[j]?=some (k,p):=by simpa using h
    have hne:¬ x.1=k:=fun e=>hn.1 (e▸List.mem_map.mpr ⟨_,List.mem_of_getElem? h',rfl⟩)
    have ih:=zAd f hn.2 h'
    unfold offK at ih ⊢
    rw[List.filter_cons,if_pos (by simpa using hne),List.map_cons,List.map_cons,List.eraseIdx_cons_succ,ih]
theorem offK_nodup{xs:List (α×Addr×Value)}{k:α}(hn:(xs.map (·.1)).Nodup):((offK xs k).map (·.1)).Nodup:=hn.sublist (List.Sublist.map _ List.filter_sublist)
end
section
variable{prog:Program}{w:World}{α:Type}[DecidableEq α]{knd:HeapKind prog w α}{A:Around}{E:Value->Shared->Prop}{s:Shared}
theorem takeOut_heap{d a:Addr}{xs:List (α×Addr×Value)}{k:α}{Q:Option DictEntry->Shared->Prop}(hu:knd.room A)(hkey:knd.is s.heap k a)(hm:s.heap.DictOfH knd d xs)(hsz:xs.length<=sizeLine)
    (h0:atKey xs k=none->Q none { s with toks:=s.toks+knd.draws k })
    (h1:∀(e:DictEntry) (p:Addr×Value),atKey xs k=some p->e.val=p.2->∀h',h'.DictOfH knd d (offK xs k)->Heap.SameBut d s.heap h'->Q (some e) { s with heap:=h',toks:=s.toks+knd.draws k }):
    wpAny (model prog w) A (Builtin.Dict.takeOut d (.ref a)) Q E s:=by
  obtain⟨o,es,ep,ho,hc,hd,he,his,hn⟩:=hm
  unfold Builtin.Dict.takeOut
  try with_reducible refine wpAny_holding ?_
  refine wpAny_bind (knd.pyHash hu hkey (wpAny_bind (wpAny_dictFind_heap (s:={ s with toks:=s.toks+knd.draws k }) hu hkey ho hd he his hn (fun hno=>wpAny_pure (h0 (atKey_none_of_get hno))) fun j p hj=>?_)))
  refine wpAny_bind (wpAny_dictEntries (s:={ s with toks:=s.toks+knd.draws k }) ho hd ?_)
  rw[entry_at he j,hj]
  have hz:es.size<=sizeLine:=by rw[size_of_entries he];exact hsz
  refine wpAny_bind (wpAny_updateDictKeys (hz:=hz) (s:={ s with toks:=s.toks+knd.draws k }) ho hd (wpAny_pure (h1 _ p (atKey_of_get hn hj) rfl _ ⟨_,_,ep+1,Heap.get?_update_self _ ho (Obj.isFreed_of_dict (Obj.data_mapDictKeys hd _)),
    hc.mapDictKeys _,Obj.data_mapDictKeys hd _,?_,fun x hx=>knd.keeps (his x (List.mem_filter.mp hx).1) ho hd (Heap.SameBut.update ..),offK_nodup hn⟩ (Heap.SameBut.update ..))))
  have q:=zAd (entryOfKey knd) hn hj
  rw[<-he] at q
  obtain⟨l⟩:=es
  simpa using q
theorem keyPart_ref(a:Addr):(keyPart (.ref a)).isSome=false:=rfl
theorem pop_body {d a : Addr} {xs : List (α × Addr × Value)} {k : α} {more : List Value} {R : Result → Shared → Prop} (hmore : more = [] ∨ ∃ z, more = [z]) (hu : knd.room A.in1) (hkey : knd.is s.heap k a) (hd : (d == sysModules) = false) (hm : s.heap.DictOfH knd d xs) (hsz : xs.length ≤ sizeLine)
    (h0:atKey xs k=none->∃z,more=[z]/\∀tk,R (.ok (.ret z)) { s with toks:=tk })
    (h1:∀p,atKey xs k=some p->∀h' tk,h'.DictOfH knd d (offK xs k)->Heap.SameBut d s.heap h'->R (.ok (.ret p.2)) { s with heap:=h',toks:=tk }):
    wpAny (model prog w) A.in1 (Builtin.«dict.pop» ⟨.ref d::.ref a::more,[]⟩) (fun fin s'=>match fin with | .done f=>R (.ok f) s' | .again c'=>c'.quiet=true/\codeAny (model prog w) A c' R s') (fun e s'=>R (.error e) s') s:=by
  have ex:∃dflt:Option Value,wpAny (model prog w) A.in1 (Builtin.Dict.keyAndDefault "pop" ⟨.ref d::.ref a::more,[]⟩) (fun r s'=>r=(d,Value.ref a,dflt)/\s'=s) (fun e s'=>R (.error e) s') s/\(dflt=none/\more=[]\/∃z,dflt=some z/\more=[z]):=by
    rcases hmore with rfl|⟨z,rfl⟩
    . refine⟨none,?_,.inl ⟨rfl,rfl⟩⟩
      unfold Builtin.Dict.keyAndDefault
      refine wpAny_bind (wpAny_notOrdered_dict hm.typeIs ?_)
      exact wpAny_pure (Q:=fun r s'=>r=(d,Value.ref a,(none:Option Value))/\s'=s) ⟨rfl,rfl⟩
    . refine⟨some z,?_,.inr ⟨z,rfl,rfl⟩⟩
      unfold Builtin.Dict.keyAndDefault
      refine wpAny_bind (wpAny_notOrdered_dict hm.typeIs ?_)
      exact wpAny_pure (Q:=fun r s'=>r=(d,Value.ref a,some z)/\s'=s) ⟨rfl,rfl⟩
  obtain⟨dflt,hka,hdf⟩:=ex
  unfold Builtin.«dict.pop»
  refine wpAny_bind (wpAny_mono hka (fun r s' hr=>?_) fun _ _ x=>x)
  obtain⟨rfl,rfl⟩:=hr
  dsimp only
  rw[if_neg (by rw[keyPart_ref];decide)]
  obtain⟨o,es,ep,ho,hc,hdt,he,his,hn⟩:=id hm
  refine wpAny_bind (wpAny_dictEntries ho hdt (wpAny_bind (wpAny_pure ?_)))
  by_cases hemp:es.isEmpty=true
  . rw[if_pos hemp]
    have q:atKey xs k=none:=by
      have e0:es.toList=[]:=by simpa using hemp
      rw[e0] at he
      have:xs=[]:=by cases xs with
        |nil=>rfl
        |cons=>simp at he
      subst this
      rfl
    refine wpAny_bind (wpAny_rule (wpAny_bind (wpAny_pure ?_)))
    obtain⟨z,e1,e2⟩:=h0 q
    rcases hdf with⟨_,e3⟩|⟨z',rfl,e3⟩
    . rw[e1] at e3;cases e3
    . rw[e1] at e3
      cases e3
      rw[if_pos (show(none:Option DictEntry).isNone=true from rfl)]
      refine wpAny_bind (wpAny_missedRemoval_other hd ?_)
      exact wpAny_bind (wpAny_rule (wpAny_pure (e2 s'.toks)))
  . rw[if_neg hemp]
    refine wpAny_bind (takeOut_heap hu hkey hm hsz (fun q=>?_) fun e p q ev h' hm' hs'=>?_)
    . obtain⟨z,e1,e2⟩:=h0 q
      rcases hdf with⟨_,e3⟩|⟨z',rfl,e3⟩
      . rw[e1] at e3;cases e3
      . rw[e1] at e3
        cases e3
        rw[if_pos (show(none:Option DictEntry).isNone=true from rfl)]
        refine wpAny_bind (wpAny_missedRemoval_other hd ?_)
        exact wpAny_bind (wpAny_rule (wpAny_pure (e2 _)))
    . rw[if_neg (by simp)]
      exact wpAny_bind (wpAny_letGo (wpAny_pure (by rw[ev];exact h1 p q h' _ hm' hs')))
end
theorem KT.drop{H:Hp}{kvs:List (List Key×V)}{xs:List (List Key×Addr×Value)}(r:KT H kvs xs)(k:List Key):KT H (dropK kvs k) (offK xs k):=by
  unfold dropK offK
  induction r with
  |nil=>exact .nil
  | @cons p q ps qs h t ih =>
    rw[List.filter_cons,List.filter_cons]
    by_cases e:p.1=k
    . rw[if_neg (by simp[e]),if_neg (by simp[h.1.symm.trans e])];exact ih
    . have e':¬ q.1=k:=fun z=>e (h.1.trans z)
      rw[if_pos (by simp[e]),if_pos (by simp[e'])];exact .cons h ih
section
variable{X:Cx}{pins:List (Addr×Obj)}{σ:St}{H:Hp}{s:Shared}{a b:Addr}{kvs:List (List Key×V)}{k:List Key}{A:Around}{E:Value->Shared->Prop}
theorem zCW{more:List Value}{Q:Value->Shared->Prop}(hu:A.units+1<cLine)(I:Inv X pins σ H s)(e:H a=some (.dT kvs))(eb:H b=some (.tup (k.map kV)))(hmore:more=[]\/∃z,more=[z])
    (h0:valV kvs k=none->∃z,more=[z]/\∀s',Inv X pins σ H s'->Q z s')
    (h1:∀v,valV kvs k=some v->∀u s',Inv X pins σ (upd H a (.dT (dropK kvs k))) s'->RelV v u->Q u s'):wpAny (model X.prog X.w) A (call (.builtin "dict.pop") (.ref a::.ref b::more)) Q E s:=by
  obtain⟨z,hd,xs,rel,dd⟩:=zBw I.hok e
  have hz:xs.length<=sizeLine:=by rw[<-Paired.length rel];exact z
  have ha:argsOk "dict.pop" ⟨.ref a::.ref b::more,[]⟩:=by
    rcases hmore with q|⟨x,q⟩
    . subst q;exact PySem.F.args_dict_pop_2 _ _
    . subst q;exact PySem.F.args_dict_pop_3 _ _ _
  refine call_meetsIn (S:=fun A' R s'=>A'=A/\s'=s/\(∀u s',Q u s'->R (.ok (.ret u)) s')) PySem.F.slot_dict_pop dd.typeIs PySem.F.entry_dict_pop ha (fun A' R s' hq=>?_) ⟨rfl,rfl,fun u s' q=>q⟩
  obtain⟨rfl,rfl,hR⟩:=hq
  refine pop_body (knd:=tupleKind (mixKind X.prog X.w)) hmore (tupleKind_room_in1 hu) (jp I.hok eb) hd dd hz (fun q=>?_) fun p q h' tk dd' hs=>?_
  . have hn:valV kvs k=none:=by
      have r:=rel.val k
      rw[q] at r
      cases c:valV kvs k with
      |none=>rfl
      |some v=>rw[c] at r;exact r.elim
    obtain⟨z,e1,e2⟩:=h0 hn
    exact⟨z,e1,fun tk=>hR _ _ (e2 _ (I.tok _))⟩
  . have r:=rel.val k
    rw[q] at r
    cases c:valV kvs k with
    |none=>rw[c] at r;exact r.elim
    | some v =>
      rw[c] at r
      refine hR _ _ (h1 v c p.2 _ ?_ r)
      obtain⟨o,es,ep,hq,h2,h3,h4,_,h5⟩:=dd'
      have hl:(dropK kvs k).length<=sizeLine:=Nat.le_trans (dropK_le kvs k) z
      refine Je I (by rw[e];exact True.intro) hs ⟨o,hq⟩ ⟨hl,hd,_,(rel.drop k).keeps fun c ys ec=>?_,o,es,ep,hq,h2,h3,h4,h5⟩
      rw[zI (za ec e (fun z=>nomatch z))]
      exact ec
end
def tDPop1T(td ty:TE):TE:=fun σ H Q=>td σ H fun x H1=>∃a,x=.ref a/\IsD H1 a/\ty σ H1 fun y H2=>∃kvs k b v,H2 a=some (.dT kvs)/\y=.ref b/\H2 b=some (.tup (k.map kV))/\valV kvs k=some v/\Q v (upd H2 a (.dT (dropK kvs k)))
def tDPop2T(td ty tx:TE):TE:=fun σ H Q=>td σ H fun x H1=>∃a,x=.ref a/\IsD H1 a/\ty σ H1 fun y H2=>tx σ H2 fun z H3=>∃kvs k b,H3 a=some (.dT kvs)/\y=.ref b/\H3 b=some (.tup (k.map kV))/\
  (∀v,valV kvs k=some v->Q v (upd H3 a (.dT (dropK kvs k))))/\(valV kvs k=none->Q z H3)
section
variable{X:Cx}{o e f:Expr}{apos cpos:Pos}{td ty tx:TE}
theorem zAX(hu:X.A.units+1<cLine)(ho:PE X o td)(he:PE X e ty)(m:M1 X o "pop" apos e cpos):PE X (.Call (.Attribute o "pop" apos) [e] [] cpos) (tDPop1T td ty):=by
  intro pins s σ H Q I h
  refine wpAny_Call_method m.base m.few m.line PySem.F.plainAttrs_dict PySem.F.slot_dict_pop PySem.F.type_dict_pop (thn (ho pins s σ H _ I h) fun u s1 ⟨x,H1,I1,rx,a,ex,d,q1⟩=>?_)
  subst ex
  obtain rfl:u=Value.ref a:=rx
  obtain⟨t1,t2,_⟩:=zBc I1 d
  refine⟨t1,t2,?_⟩
  rw[m.trees]
  refine Calls.callWith_builtin rfl (Calls.evalArgs_plain (Calls.spliced_cons (thn (he pins s1 σ H1 _ I1 q1) fun iv s2 ⟨y,H2,I2,ry,kvs,k,b,v,ea,ey,eb,l,q2⟩=>Calls.spliced_nil ?_)))
  subst ey
  cases (show iv=Value.ref b from ry)
  refine zCW hu I2 ea eb (.inl rfl) (fun q=>by rw[l] at q;cases q) fun v' q u s3 I3 ru=>?_
  rw[l] at q
  cases q
  exact⟨v,_,I3,ru,q2⟩
theorem zAW(hu:X.A.units+1<cLine)(ho:PE X o td)(he:PE X e ty)(hf:PE X f tx)(m:M2 X o "pop" apos e f cpos):PE X (.Call (.Attribute o "pop" apos) [e,f] [] cpos) (tDPop2T td ty tx):=by
  intro pins s σ H Q I h
  refine wpAny_Call_method m.base m.few m.line PySem.F.plainAttrs_dict PySem.F.slot_dict_pop PySem.F.type_dict_pop (thn (ho pins s σ H _ I h) fun u s1 ⟨x,H1,I1,rx,a,ex,d,q1⟩=>?_)
  subst ex
  obtain rfl:u=Value.ref a:=rx
  obtain⟨t1,t2,_⟩:=zBc I1 d
  refine⟨t1,t2,?_⟩
  rw[m.trees]
  refine Calls.callWith_builtin rfl (Calls.evalArgs_plain (Calls.spliced_cons (thn (he pins s1 σ H1 _ I1 q1) fun iv s2 ⟨y,H2,I2,ry,q2⟩=>
    Calls.spliced_cons (thn (hf pins s2 σ H2 _ I2 q2) fun fv s3 ⟨z,H3,I3,rz,kvs,k,b,ea,ey,eb,q3,q4⟩=>Calls.spliced_nil ?_))))
  subst ey
  cases (show iv=Value.ref b from ry)
  exact zCW hu I3 ea eb (.inr ⟨fv,rfl⟩) (fun q=>⟨fv,rfl,fun s4 I4=>⟨z,H3,I4,rz,q4 q⟩⟩) fun v q u s4 I4 ru=>⟨v,_,I4,ru,q3 v q⟩
end
end L2
namespace L2
open PySem PySem.Spec PyProof.Rows
def FnHas(P:Program)(w:World)(K:PySem.W.Frag)(mg:Str->Option Value)(base:Heap)(k:Nat)(f:Addr)(sp:Sp):Prop:=
  ∃fd ps,PySem.W.keepIn K (.ref f)=true/\Binds K fd ps []/\FnOk P w K mg base CX0 k f fd ps sp
def tCallV(S:Addr->Sp->Prop)(tf:TE)(t:TA):TE:=fun σ H Q=>tf σ H fun x H1=>∃f sp,x=.ref f/\S f sp/\t σ H1 fun vs H2=>sp vs H2 Q E0
theorem pe_cv{X:Cx}{k j:Nat}{x:Str}{p pos:Pos}{e:Expr}{es:List Expr}{tf:TE}{t:TA}(hf:PE X (.Name x p) tf)(S:Addr->Sp->Prop)(hS:∀f sp,S f sp->FnHas X.prog X.w X.K X.mg X.base k f sp)(hr:Room j X.A)(ha:PA X (e::es) t)(hk:k<=j:=by decide)
    (he:starEach (e::es) X.env=(false,eval e X.env)::starEach es X.env:=by rfl) (hpl:(backTo pos (starEach es X.env)).any (·.1)=false:=by rfl):PE X (.Call (.Name x p) (e::es) [] pos) (tCallV S tf t):=by
  intro pins s σ H Q I h
  refine wpAny_Call_Name_kw (thn (hf pins s σ H _ I h) fun u s1 ⟨v,H1,I1,rv,f,sp,ev,hs,q⟩=>?_)
  subst ev
  obtain rfl:u=Value.ref f:=rv
  obtain⟨fd,ps,h2,h3,h4⟩:=hS f sp hs
  refine PySem.W.callWith_K (h₀:=X.base) I.ok.mod.kin h2 (thn (ha pos pins s1 σ H1 _ I1 q) fun us s2 ⟨vs,H2,I2,r,q2⟩=>⟨I2.kIn,?_⟩) he hpl
  exact zAt (dvs:=[]) h4 (hr.mono hk) h3 .nil pass0 I2 r (by rw[List.append_nil];exact q2)
section
open PySem.SeqAt
open PySem.AutoSeq1 (wpAny_loadPart')
open PySem.MeetsSeq PySem.MeetsSeq2 PySem.MeetsSeq3
theorem rcGt_int(A:Around)(s:Shared)(a:Int)(t:Tok)(c:Int)(u:Tok)(prog:Program)(w:World)(E:Value->Shared->Prop)(Q:Value->Shared->Prop)(h:Q (.bool (decide (c<a))) s):
    wpAny (model prog w) A (richCompare .Gt (.int a t) (.int c u)) Q E s:=(PyProof.Rows.gt_int h:wpAny (model prog w) A (compareOp .Gt (.int a t) (.int c u)) Q E s)
theorem lex_end:∀{ns ms:List Int},ns=[]\/ms=[]->HT.lexLt ms ns=decide (ms.length<ns.length)
  |[],[],_=>rfl
  |[],_::_,_=>rfl
  |_::_,[],_=>(decide_eq_true (by simp)).symm
  |_::_,_::_,h=>by simp at h
theorem tuple_gt_ints (l b : Addr) (items items2 : Array Value) (n n2 : Nat) (dd dd2 : Option Addr) (sl sl2 : Array (Option Value)) (ns ms : List Int) (hi : IntsAre items.toList ns) (hj : IntsAre items2.toList ms) :
    Meets (Builtin.«tuple.__gt__» ⟨[.ref l,.ref b],[]⟩)
      (fun _ R s=>s.heap.get? l=some { cls:=.type "tuple",dict:=dd,data:=.seq items n,slots:=sl }/\s.heap.get? b=some { cls:=.type "tuple",dict:=dd2,data:=.seq items2 n2,slots:=sl2 }/\R (.ok (.ret (.bool (HT.lexLt ms ns)))) s):=
  .of_wp fun prog w A R s h=>by
    obtain⟨hp,g,d,tk,os⟩:=s
    obtain⟨hl,hb,h⟩:=h
    have f2:=AutoSeq1.sub_tuple_tuple
    have z1:items.size=ns.length:=by rw[<-hi.length];simp
    have z2:items2.size=ms.length:=by rw[<-hj.length];simp
    wp_walk using wpAny_loadPart' hl,wpAny_loadPart' hb,wpAny_forIn_list _ (fun rest b s'=>b.1=none/\s'=⟨hp,g,d,tk,os⟩/\∃(vs ws:List Value) (ns' ms':List Int),rest=vs.zip ws/\IntsAre vs ns'/\IntsAre ws ms'/\
      ns'.length+items2.size=ms'.length+items.size/\R (.ok (.ret (.bool (HT.lexLt ms' ns')))) ⟨hp,g,d,tk,os⟩) _
    case turn=>
      rintro ⟨y,x⟩ rest b s' ⟨hb',rfl,vs,ws,ns',ms',hz,hvi,hwi,hlen,hR⟩
      cases hvi with
      |nil=>simp at hz
      | cons a t hvi' =>
        cases hwi with
        |nil=>simp at hz
        | cons c u hwi' =>
          obtain⟨⟨rfl,rfl⟩,hrest⟩:(y=Value.int a t/\x=Value.int c u)/\rest=_:=by simpa using hz
          simp only[HT.lexLt_cons,List.length_cons] at hR hlen
          obtain⟨e,he,hiff⟩:=HT.eqAt_int A.in1 ⟨hp,g,d,tk,os⟩ a t c u
          refine wpAny_bind (he prog w _ _ ?_)
          cases e with
          | true =>
            rw[if_pos (hiff.mp rfl).symm] at hR
            wp_walk
            exact⟨rfl,rfl,_,_,_,_,hrest,hvi',hwi',by omega,hR⟩
          | false =>
            rw[if_neg (fun q=>absurd (hiff.mpr q.symm) Bool.false_ne_true)] at hR
            have hri:=rcGt_int A.in1 ⟨hp,g,d,tk,os⟩ a t c u prog w
            wp_walk using hri
            exact⟨_,rfl,by simpa using hR⟩
    case fin=>
      rintro ⟨b1,b2⟩ s' ⟨hb',rfl,vs,ws,ns',ms',hz,hvi,hwi,hlen,hR⟩
      simp only at hb'
      subst hb'
      have hv:HT.lexLt ms' ns'=decide (items2.size<items.size):=by
        rw[lex_end]
        . exact decide_eq_decide.mpr (by omega)
        . cases hvi with
          |nil=>exact .inl rfl
          | cons a t hv => cases hwi with
            |nil=>exact .inr rfl
            |cons c u hw=>simp at hz
      rw[hv] at hR
      wp_walk
      first|exact⟨_,rfl,hR⟩|exact hR|simpa using hR
    exact⟨rfl,rfl,_,_,_,_,rfl,hi,hj,by omega,h⟩
end
section
variable{X:Cx}
def rGtT(K:PySem.W.Frag):R2:=fun x y H Q=>∃a b ns ms,x=.ref a/\y=.ref b/\SqT K H a (ns.map V.int)/\SqT K H b (ms.map V.int)/\Q (.bl (HT.lexLt ms ns)) H
theorem op_gtT(hu:X.A.units<cLine):OpR X (compareOp .Gt) (rGtT X.K):=by
  intro pins s σ H x y v u Q I rx ry h
  obtain⟨a,b,ns,ms,rfl,rfl,ha,hb,q⟩:=h
  cases rx
  cases ry
  obtain⟨its,r1,⟨⟨cls,dd,data,sl⟩,ho,hc,n,hd⟩,_⟩:=I.tuple ha
  obtain⟨its2,r2,⟨⟨cls2,dd2,data2,sl2⟩,ho2,hc2,n2,hd2⟩,_⟩:=I.tuple hb
  simp only at hc hd hc2 hd2
  subst hc hd hc2 hd2
  have i1:IntsAre its.toArray.toList ns:=jq r1
  have i2:IntsAre its2.toArray.toList ms:=jq r2
  exact richCompare_meets_room (op:=.Gt) ⟨_,ho,rfl⟩ ⟨_,ho2,rfl⟩ PySem.F.slot_tuple_gt PySem.F.entry_tuple_gt (PySem.F.args_tuple_gt_2 _ _) (tuple_gt_ints a b _ _ n n2 dd dd2 sl sl2 ns ms i1 i2)
    ⟨ho,ho2,show Value.bool (HT.lexLt ms ns)≠Value.notImplemented/\_ from ⟨(fun x=>nomatch x),⟨.bl (HT.lexLt ms ns),H,I,rfl,q⟩⟩⟩ hu
end
section
variable{prog:Program}{w:World}{A:Around}{E:Value->Shared->Prop}{s:Shared}
theorem meets_lenT{d:Addr}(hd:(d==sysModules)=false):MeetsIn prog w (Builtin.«dict.__len__» ⟨[.ref d],[]⟩) (fun _ R s=>∃o es ep,s.heap.get? d=some o/\o.data=.dict es ep/\R (.ok (.ret (.int es.size s.toks))) { s with toks:=s.toks+1 }):=
  .of_wp fun A R s ⟨o,es,ep,ho,hdat,h⟩=>by
    show wpAny _ _ ((do return (<-dictEntries d).size) >>= _) _ _ s
    exact wpAny_bind (wpAny_bind (wpAny_dictEntries ho hdat (wpAny_pure (wpAny_bind (m:=Builtin.Dict.pendingCount d) (wpAny_pendingCount_other hd (wpAny_ret_mkInt (by rw[Nat.add_zero];exact h)))))))
theorem len_T{d:Addr}{o:Obj}{es:Array DictEntry}{ep:Nat}{Q:Value->Shared->Prop}(hd:(d==sysModules)=false)(ho:s.heap.get? d=some o)(hc:o.ExactDict)(hdat:o.data=.dict es ep)(hfit:(es.size:Int)<2^63)
    (h:Q (.int es.size (s.toks+1)) { s with toks:=s.toks+1+1 }):wpAny (model prog w) A (call (.builtin "len") [.ref d]) Q E s:=by
  have hT:s.TypeIs (.ref d) "dict":=⟨o,ho,hc.1⟩
  refine Calls.call_function_entry kind_len plain_len entry_len (args_len1 _) ?_
  unfold Builtin.«len»
  refine wpAny_bind (m:=oneArg "len" _) (wpAny_pure (wpAny_bind (m:=callSpecial? (.ref d) (Str.ofString "__len__")) (wpAny_callSpecial?_slot (name:=Str.ofString "__len__") hT F.slot_dict_len
    (call_meetsIn F.slot_dict_len hT F.entry_dict_len (F.args_dict_len_1 _) (meets_lenT hd) ⟨o,es,ep,ho,hdat,?_⟩))))
  show wpAny _ _ _ _ _ { s with toks:=s.toks+1 }
  refine wpAny_bind (wpAny_holding (wpAny_pure (wpAny_bind (wpAny_letGo ?_))))
  show wpAny _ _ (if ((es.size:Nat):Int)<0 then _ else if ((es.size:Nat):Int)≥2^63 then _ else _) _ _ _
  rw[if_neg (by omega),if_neg (by omega)]
  exact wpAny_bind (wpAny_mkInt (wpAny_pure ⟨_,rfl,h⟩))
def RawAt(h:Heap)(d:Addr)(es:Array DictEntry)(ep:Nat):Prop:=∃o,h.get? d=some o/\o.ExactDict/\o.data=.dict es ep
theorem RawAt.keep{h h':Heap}{d:Addr}{es:Array DictEntry}{ep:Nat}(r:RawAt h d es ep)(k:∀o,h.get? d=some o->h'.get? d=some o):RawAt h' d es ep:=let ⟨o,a,b,c⟩:=r;⟨o,k o a,b,c⟩
theorem walks_raw(hh:A.handled=none)(I d:Addr)(hne:d≠I)(es:Array DictEntry)(ep:Nat):
    Walks prog w A I [I,d] [I] es.size (fun i v=>∃en,es[i]?=some en/\v=en.key) (fun i h=>h.IsKeyIter I d i es.size ep/\RawAt h d es ep) where
  sub:=fun b hb=>by rw[List.mem_singleton.mp hb];exact List.mem_cons_self
  frame:=fun i h h' st hk=>⟨st.1.at fun o e=>hk I List.mem_cons_self o e,st.2.keep fun o e=>hk d (List.mem_cons_of_mem _ List.mem_cons_self) o e⟩
  item:=fun i s Q E hi st hQ=>by
    obtain⟨st,o,ho,_,hdat⟩:=st
    refine jU st ho hdat rfl (Array.getElem?_eq_getElem hi) fun h' st' sb=>?_
    exact hQ _ h' s.toks ⟨_,Array.getElem?_eq_getElem hi,rfl⟩ ⟨st',o,(sb.2 d hne).trans ho,by assumption,hdat⟩ fun b ob hb e=>(sb.2 b (fun q=>hb (by rw[q];exact List.mem_cons_self))).trans e
  done:=fun s Q E st hQ=>by
    obtain⟨st,o,ho,_,hdat⟩:=st
    exact Qy hh st ho hdat rfl (Nat.le_refl _) fun h' eb=>hQ h' s.toks fun b ob hb e=>eb b ob (fun q=>hb (by rw[q];exact List.mem_cons_self)) e
  self:=fun i s Q E st h=>wpAny_pyIter_keyiter st.1 h
theorem src_raw{d:Addr}{es:Array DictEntry}{ep:Nat}(lo:(d==sysModules)=false):PySem.W.KdlSrc prog w "dict" d d es.size (fun i v=>∃en,es[i]?=some en/\v=en.key) (fun h=>RawAt h d es ep) where
  type:=fun s r=>let ⟨o,a,b,_⟩:=r;⟨o,a,b.1⟩
  there:=fun h r=>let ⟨o,a,_⟩:=r;⟨Heap.lt_size a,Heap.lt_size a⟩
  keep:=fun h h' r k=>r.keep fun o e=>k d (.inl rfl) o e
  notList:=by decide
  notTuple:=by decide
  hint:=fun A E s Q r q=>PySem.W.kdl_hint_dict (let ⟨o,a,b,_⟩:=r;⟨o,a,b.1⟩) q
  iter:=fun A s hh r=>by
    obtain⟨o,ho,hc,hdat⟩:=id r
    exact⟨_,_,fun E Q hq=>JN lo ho hc hdat hq,walks_raw hh _ d (Nat.ne_of_lt (Heap.lt_size ho)) es ep,⟨_,Heap.get?_push_size _ rfl,rfl,rfl⟩,r.keep fun o e=>Heap.get?_push_of_some _ e⟩
end
theorem kt_keys{H:Hp}{kvs:List (List Key×V)}{xs:List (List Key×Addr×Value)}(r:KT H kvs xs):Paired (fun p (kv:List Key×V)=>H p=some (.tup (kv.1.map kV))) (xs.map (·.2.1)) kvs:=by
  induction r with
  |nil=>exact .nil
  |cons h t ih=>exact .cons h.2.1 ih
section
variable{X:Cx}
theorem QD:CallR X (.builtin "len") (fun xs H Q=>∃a kvs,xs=[V.ref a]/\H a=some (.dT kvs)/\Q (.int kvs.length) H):=by
  intro pins s σ H xs us Q I r h
  obtain⟨a,kvs,rfl,ha,q⟩:=h
  obtain⟨u,rfl,ru⟩:=vals1 r
  cases ru
  obtain⟨z,hd,xs,rel,o,es,ep,ho,hc,hdat,he,_,_⟩:=zBw I.hok ha
  have hl:es.size=kvs.length:=by rw[size_of_entries he,<-Paired.length rel]
  refine len_T hd ho hc hdat (by rw[hl];rw[sizeLine_eq] at z;omega) ?_
  rw[hl]
  exact⟨.int kvs.length,H,I.tok _,⟨_,rfl⟩,q⟩
theorem call_listDT(hcalm:X.calm=true):CallR X (.type "list") (fun xs H Q=>∃a kvs,xs=[V.ref a]/\H a=some (.dT kvs)/\∀(l:Addr) (ps:List Addr),H l=none->Paired (fun p (kv:List Key×V)=>H p=some (.tup (kv.1.map kV))) ps kvs->
    Q (.ref l) (upd H l (.lst (ps.map V.ref)))):=by
  intro pins s σ H xs us Q I r h
  obtain⟨a,kvs,rfl,ha,q⟩:=h
  obtain⟨u,rfl,ru⟩:=vals1 r
  cases ru
  obtain⟨z,hd,xs,rel,o,es,ep,ho,hc,hdat,he,_,_⟩:=zBw I.hok ha
  have hl:es.size=kvs.length:=by rw[size_of_entries he,<-Paired.length rel]
  refine PySem.W.kdl_call (src_raw hd) (I.ok.hd hcalm) ⟨o,ho,hc,hdat⟩ (by rw[hl];exact z) fun h' tk acc c' hk hS hacc=>?_
  have pz:Paired (fun p (kv:List Key×V)=>H p=some (.tup (kv.1.map kV))) (xs.map (·.2.1)) kvs:=kt_keys rel
  have ev:acc.toList=(xs.map (·.2.1)).map Value.ref:=by
    refine List.ext_getElem? fun j=>?_
    rw[List.getElem?_map,List.getElem?_map,Array.getElem?_toList]
    cases hx:xs[j]? with
    | none =>
      have:xs.length<=j:=List.getElem?_eq_none_iff.mp hx
      rw[Array.getElem?_eq_none (by rw[hacc.1,size_of_entries he];exact this)]
      rfl
    | some x =>
      have hj:j<acc.size:=by rw[hacc.1,size_of_entries he];exact(List.getElem?_eq_some_iff.mp hx).1
      obtain⟨en,e1,e2⟩:=hacc.2 j acc[j] (Array.getElem?_eq_getElem hj)
      rw[Array.getElem?_eq_getElem hj,e2]
      rw[entry_at he j,hx] at e1
      cases e1
      rfl
  have hz:((xs.map (·.2.1)).map V.ref).length<=sizeLine:=by rw[List.length_map,List.length_map,<-Paired.length rel];exact z
  have vr:∀l:List Addr,Vals (l.map V.ref) (l.map Value.ref):=fun l=>by
    induction l with
    |nil=>exact .nil
    |cons a l ih=>exact .cons rfl ih
  refine⟨.ref s.heap.objs.size,_,I.laid (t':=tk) (o:=.lst ((xs.map (·.2.1)).map V.ref)) (h':=h') (fun b ob e=>hk b ob e) (Nat.le_refl _) ⟨hz,acc.toList,c',by rw[ev];exact vr _,by simpa using hS⟩,rfl,q _ _ (I.hok.fresh (Nat.le_refl _)) pz⟩
end
end L2
namespace L2
open PySem PySem.Spec PyProof.Rows
section
variable{prog:Program}{w:World}{A:Around}{E:Value->Shared->Prop}{s:Shared}
theorem meets_itemsT{d:Addr}(hd:(d==sysModules)=false):MeetsIn prog w (Builtin.«dict.items» ⟨[.ref d],[]⟩) (fun _ R s=>s.TypeIs (.ref d) "dict"/\R (.ok (.ret (.ref s.heap.objs.size))) { s with heap:=s.heap.push { cls:=.type "dict_items",data:=.fields #[.ref d] } }):=
  .of_wp fun A R s ⟨hT,h⟩=>by
    unfold Builtin.«dict.items» Builtin.Dict.noArgs Builtin.Dict.showsAll
    refine wpAny_bind (wpAny_bind (wpAny_notOrdered_dict hT ?_))
    refine wpAny_pure (show wpAny _ _ ((if (d==sysModules)=true then _ else pure ()) >>= _) _ _ s from ?_)
    rw[if_neg (by rw[hd];decide)]
    exact wpAny_bind (wpAny_pure (wpAny_bind (wpAny_newObj_type (wpAny_pure ⟨_,rfl,h⟩))))
theorem iter_itemsT{v d:Addr}{es:Array DictEntry}{ep:Nat}{Q:Value->Shared->Prop}(hv:s.heap.IsItemsView v d)(hm:RawAt s.heap d es ep)
    (hQ:Q (.ref s.heap.objs.size) { s with heap:=s.heap.push { cls:=.type "dict_itemiterator",data:=.fields #[.none,.bool false,.ref d,.int 0 0,.int es.size 0,.int ep 0,.none,.none] } }):wpAny (model prog w) A (pyIter (.ref v)) Q E s:=by
  obtain⟨ov,hov,hcv,hdv⟩:=id hv
  obtain⟨o,ho,hc,hdat⟩:=id hm
  refine wpAny_pyIter_slot hv.typeIs F.slot_dict_items_iter (wpAny_call_entry F.slot_dict_items_iter hv.typeIs F.entry_dict_items_iter ?_ (F.args_dict_items_iter_1 _))
  unfold Builtin.«dict_items.__iter__» Builtin.Dict_items.dictOf Builtin.Dict_items.newIterator
  refine wpAny_bind (wpAny_pure (wpAny_bind (wpAny_bind (wpAny_field hov hdv (x:=.ref d) rfl (wpAny_pure (wpAny_bind (wpAny_bind (wpAny_dictEntries ho hdat (wpAny_bind (wpAny_dictEpoch ho hdat ?_))))))))))
  have hown:Builtin.Dict_items.ownsTuple "dict_itemiterator"=true:=by decide
  simp only[hown,if_true]
  refine wpAny_newObj_type (wpAny_pure ⟨_,rfl,"dict_itemiterator",_,⟨_,Heap.get?_push_size _ rfl,rfl⟩,F.slot_dict_itemiterator_next.lookup,?_⟩)
    (by simp only[sizeOk,Builtin.Dict_items.ownedTupleFields,List.size_toArray,List.length_append,List.length_cons,List.length_nil,sizeLine_eq];omega)
  simpa [rawInt,Builtin.Dict_items.ownedTupleFields] using hQ
end
section
variable{prog:Program}{w:World}{A:Around}{E:Value->Shared->Prop}{g:Array GenState}{dr:Drawn}{tk:Nat}{os:OsState}
theorem pair_owner{hp:Heap}{it d:Addr}{i n ep:Nat}{ok ov key val:Value}{Q:Value->Shared->Prop}(hit:IsItemIter hp it d i n ep ok ov)
    (hQ:∀h',IsItemIterOut h' it d i n ep key val hp.objs.size->h'.get? hp.objs.size=some { cls:=.type "tuple",data:=.seq #[key,val] }->(∀b o,b≠it->hp.get? b=some o->h'.get? b=some o)->Q (.ref hp.objs.size) ⟨h',g,dr,tk,os⟩):
    wpAny (model prog w) A (Builtin.Dict_items.pairFromOwner (.ref it) 6 key val) Q E ⟨hp,g,dr,tk,os⟩:=by
  have hil:it<hp.objs.size:=Heap.lt_size hit
  have hnp:hp.objs.size≠it:=Nat.ne_of_gt hil
  unfold Builtin.Dict_items.pairFromOwner
  refine wpAny_bind (wpAny_newTuple ?_)
  have q1:IsItemIter (hp.push { cls:=.type "tuple",data:=.seq #[key,val] }) it d i n ep ok ov:=Heap.get?_push_of_some _ hit
  have q2:(hp.push { cls:=.type "tuple",data:=.seq #[key,val] }).get? hp.objs.size=some { cls:=.type "tuple",data:=.seq #[key,val] }:=Heap.get?_push_size _ rfl
  have q3:∀b o,b≠it->hp.get? b=some o->(hp.push { cls:=.type "tuple",data:=.seq #[key,val] }).get? b=some o:=fun b o _ e=>Heap.get?_push_of_some _ e
  generalize hp.push { cls:=.type "tuple",data:=.seq #[key,val] }=h2 at q1 q2 q3
  show wpAny _ _ (Builtin.Dict_items.ownedTupleIsFree (.ref it) >>= _) _ _ ⟨h2,g,dr,tk,os⟩
  unfold Builtin.Dict_items.ownedTupleIsFree
  refine wpAny_bind (wpAny_bind (wpAny_field q1 rfl (x:=.none) rfl (wpAny_pure ?_)))
  simp only[if_true]
  refine wpAny_bind (wpAny_field q1 rfl (x:=ok) rfl (wpAny_bind (wpAny_field q1 rfl (x:=ov) rfl (wpAny_bind (wpAny_setField_rec q1 (by simp) fun h3 e3 s3=>?_)))))
  replace s3:Heap.SameBut it h2 h3:=s3
  replace e3:IsItemIter h3 it d i n ep key ov:=e3
  refine wpAny_bind (wpAny_setField_rec e3 (by simp) fun h4 e4 s4=>?_)
  replace s4:Heap.SameBut it h3 h4:=s4
  replace e4:IsItemIter h4 it d i n ep key val:=e4
  refine wpAny_bind (wpAny_setField_rec e4 (by simp) fun h5 e5 s5=>?_)
  replace s5:Heap.SameBut it h4 h5:=s5
  replace e5:IsItemIterOut h5 it d i n ep key val hp.objs.size:=e5
  refine wpAny_bind (wpAny_setField_rec e5 (by simp) fun h6 e6 s6=>?_)
  replace s6:Heap.SameBut it h5 h6:=s6
  replace e6:IsItemIterOut h6 it d i n ep key val hp.objs.size:=e6
  have all:∀b o,b≠it->h2.get? b=some o->h6.get? b=some o:=fun b o hb e=>s6.extBut b o hb (s5.extBut b o hb (s4.extBut b o hb (s3.extBut b o hb e)))
  exact wpAny_bind (wpAny_letGo (wpAny_pure (hQ h6 e6 (all _ _ hnp q2) fun b o hb e=>all b o hb (q3 b o hb e))))
end
section
variable{prog:Program}{w:World}{A:Around}{E:Value->Shared->Prop}{s:Shared}
theorem next_item_raw{it d:Addr}{i ep:Nat}{es:Array DictEntry}{en:DictEntry}{ok ov:Value}{Q:Option Value->Shared->Prop}(hit:IsItemIter s.heap it d i es.size ep ok ov)(hm:RawAt s.heap d es ep)(hx:es[i]?=some en)
    (hQ:∀h',IsItemIterOut h' it d (i+1) es.size ep en.key en.val s.heap.objs.size->h'.get? s.heap.objs.size=some { cls:=.type "tuple",data:=.seq #[en.key,en.val] }->(∀b o,b≠it->s.heap.get? b=some o->h'.get? b=some o)->
      Q (some (.ref s.heap.objs.size)) { s with heap:=h' }):wpAny (model prog w) A (pyNext (.ref it)) Q E s:=by
  obtain⟨hp,g,dr,tk,os⟩:=s
  obtain⟨od,hod,hcd,hdd⟩:=id hm
  have hT:Shared.TypeIs ⟨hp,g,dr,tk,os⟩ (.ref it) "dict_itemiterator":=⟨_,hit,rfl⟩
  obtain⟨hlt,hen⟩:=Array.getElem?_eq_some_iff.mp hx
  unfold pyNext
  refine wpAny_bind (wpAny_attempt (wpAny_callSpecial?_slot (name:=Str.ofString "__next__") hT F.slot_dict_itemiterator_next (wpAny_call_entry F.slot_dict_itemiterator_next hT F.entry_dict_itemiterator_next ?_ (F.args_dict_itemiterator_next_1 _))))
  refine wpAny_bind (wpAny_pure (wpAny_bind (wpAny_bind ?_)))
  first|refine wpAny_bind (wpAny_typeNameOfWhole_itemiter hT (wpAny_pure (wpAny_bind (wpAny_fieldsOf hit rfl ?_))))|refine wpAny_bind (wpAny_typeNameOf_itemiter hT (wpAny_pure (wpAny_bind (wpAny_fieldsOf hit rfl ?_))))
  have hown:Builtin.Dict_items.ownsTuple "dict_itemiterator"=true:=by decide
  simp only[hown,if_true]
  show wpAny _ _ (if (Value.ref d==Value.none)=true then _ else _) _ _ _
  rw[if_neg (show ¬ ((Value.ref d==Value.none)=true) from Bool.false_ne_true)]
  refine wpAny_bind (wpAny_pure (wpAny_bind (wpAny_dictEntries hod hdd ?_)))
  rw[if_neg (by simp)]
  refine wpAny_bind (wpAny_pure (wpAny_bind (wpAny_dictEpoch hod hdd ?_)))
  rw[if_neg (by simp)]
  refine wpAny_pure ?_
  simp only[show ¬ ((i:Int)<0) from by omega,if_false,Int.toNat_natCast,hx]
  refine wpAny_bind ?_
  first|refine wpAny_bind (wpAny_typeNameOfWhole_itemiter hT (wpAny_pure (wpAny_bind (wpAny_isOneOf_itemiter hT ?_))))|refine wpAny_bind (wpAny_typeNameOf_itemiter hT (wpAny_pure (wpAny_bind (wpAny_isOneOf_itemiter hT ?_))))
  show wpAny _ _ (setField (.ref it) 3 (rawInt ((i:Int)+1)) >>= _) _ _ ⟨hp,g,dr,tk,os⟩
  refine wpAny_bind (wpAny_setField_rec hit (by simp) fun h1 e1 s1=>?_)
  replace s1:Heap.SameBut it hp h1:=s1
  have e1:IsItemIter h1 it d (i+1) es.size ep ok ov:=by
    have e:((i+1:Nat):Int)=(i:Int)+1:=by omega
    unfold IsItemIter;rw[e];simpa [rawInt] using e1
  have hT1:Shared.TypeIs ⟨h1,g,dr,tk,os⟩ (.ref it) "dict_itemiterator":=⟨_,e1,rfl⟩
  refine wpAny_bind (wpAny_holding (wpAny_bind (wpAny_isOneOf_itemiter hT1 (wpAny_bind (wpAny_isOneOf_itemiter hT1 ?_)))))
  show wpAny _ _ (Builtin.Dict_items.pairFromOwner (.ref it) 6 en.key en.val) _ _ ⟨h1,g,dr,tk,os⟩
  refine pair_owner e1 fun h2 f1 f2 f3=>wpAny_pure ⟨_,rfl,wpAny_pure ?_⟩
  rw[s1.1] at f1 f2 ⊢
  exact hQ h2 f1 f2 fun b o hb e=>f3 b o hb (s1.extBut b o hb e)
theorem next_item_end{it d:Addr}{i ep:Nat}{es:Array DictEntry}{ok ov:Value}{Q:Option Value->Shared->Prop}(hh:A.handled=none)(hit:IsItemIter s.heap it d i es.size ep ok ov)(hm:RawAt s.heap d es ep)(hx:es.size<=i)
    (hQ:∀h',Heap.ExtBut it s.heap h'->Q none { s with heap:=h' }):wpAny (model prog w) A (pyNext (.ref it)) Q E s:=by
  obtain⟨od,hod,hcd,hdd⟩:=id hm
  have hT:s.TypeIs (.ref it) "dict_itemiterator":=⟨_,hit,rfl⟩
  unfold pyNext
  refine wpAny_bind (wpAny_attempt (wpAny_callSpecial?_slot (name:=Str.ofString "__next__") hT F.slot_dict_itemiterator_next (wpAny_call_entry F.slot_dict_itemiterator_next hT F.entry_dict_itemiterator_next ?_ (F.args_dict_itemiterator_next_1 _))))
  refine wpAny_bind (wpAny_pure (wpAny_bind (wpAny_bind ?_)))
  first|refine wpAny_bind (wpAny_typeNameOfWhole_itemiter hT (wpAny_pure (wpAny_bind (wpAny_fieldsOf hit rfl ?_))))|refine wpAny_bind (wpAny_typeNameOf_itemiter hT (wpAny_pure (wpAny_bind (wpAny_fieldsOf hit rfl ?_))))
  have hown:Builtin.Dict_items.ownsTuple "dict_itemiterator"=true:=by decide
  simp only[hown,if_true]
  show wpAny _ _ (if (Value.ref d==Value.none)=true then _ else _) _ _ s
  rw[if_neg (show ¬ ((Value.ref d==Value.none)=true) from Bool.false_ne_true)]
  refine wpAny_bind (wpAny_pure (wpAny_bind (wpAny_dictEntries hod hdd ?_)))
  rw[if_neg (by simp)]
  refine wpAny_bind (wpAny_pure (wpAny_bind (wpAny_dictEpoch hod hdd ?_)))
  rw[if_neg (by simp)]
  refine wpAny_pure ?_
  simp only[show ¬ ((i:Int)<0) from by omega,if_false,Int.toNat_natCast,Array.getElem?_eq_none hx]
  refine wpAny_bind ?_
  first|refine wpAny_bind (wpAny_typeNameOfWhole_itemiter hT (wpAny_pure ?_))|refine wpAny_bind (wpAny_typeNameOf_itemiter hT (wpAny_pure ?_))
  show wpAny _ _ (setField (.ref it) 2 .none >>= fun _=>newExc (.type "StopIteration") [] >>= _) _ _ s
  refine wpAny_bind (wpAny_setField hit rfl (by simp) (wpAny_bind ?_))
  simp only[newExc,newTuple]
  refine wpAny_bind (wpAny_newObj_type (wpAny_bind (m:=firstArgMember _ _) (wpAny_of_eq (a:=Value.none) (by first|rfl|(simp only[firstArgMember];rfl)) (wpAny_newObj_type ?_ (by size_fits)))) (by size_fits))
  simp only[raiseNew]
  refine wpAny_bind (wpAny_handled ?_)
  rw[show A.in1.handled=none from hh]
  refine wpAny_bind (wpAny_pure (wpAny_throw ?_))
  refine wpAny_bind (wpAny_isInstance (T:="StopIteration") (b:=true) ⟨_,Heap.get?_push_size _ rfl,rfl⟩ isSubtype_stop ?_)
  exact wpAny_pure (hQ _ (((Heap.SameBut.update ..).extBut.push _).push _))
end
def Itit(d:Addr)(o:Obj)(kvs:List (List Key×V)):It:=
  ⟨fun i H=>H d=some (.frz o (.dT kvs))/\i<kvs.length,fun i H x H'=>∃(T q:Addr) (k:List Key) (v:V),kvs[i]?=some (k,v)/\x=.ref T/\H T=none/\H q=some (.tup (k.map kV))/\H'=upd H T (.tup [.ref q,v]),fun i H=>H d=some (.frz o (.dT kvs))/\kvs.length<=i⟩
section
variable{X:Cx}{pins:List (Addr×Obj)}{σ:St}{H:Hp}{s:Shared}{d:Addr}{o:Obj}
theorem Inv.frzTv{kvs:List (List Key×V)}(I:Inv X pins σ H s)(h:H d=some (.frz o (.dT kvs))):
    (d==sysModules)=false/\s.heap.get? d=some o/\o.ExactDict/\∃(es:Array DictEntry) (ep:Nat),o.data=.dict es ep/\es.size=kvs.length/\
      ∀(i:Nat) (k:List Key) (v:V),kvs[i]?=some (k,v)->∃(en:DictEntry) (q:Addr),es[i]?=some en/\en.key=.ref q/\H q=some (.tup (k.map kV))/\RelV v en.val:=by
  obtain⟨hd,z,hs,xs,pr,o',es,ep,ho,hx,hdt,he,_⟩:=I.hok d _ h
  rw[hd] at ho
  cases ho
  refine⟨hs,hd,hx,es,ep,hdt,by rw[size_of_entries he,<-Paired.length pr],fun i k v e=>?_⟩
  obtain⟨b,hb,e1,e2,e3⟩:=ZK pr e
  have q:=entry_at he i
  rw[hb] at q
  exact⟨_,b.2.1,q,rfl,e2,e3⟩
end
section
variable{P:Program}{w:World}{K:PySem.W.Frag}{tg:Expr}{d:Addr}{o:Obj}{es:Array DictEntry}{ep:Nat}
theorem turn_itemsT{kvs:List (List Key×V)}{elts:List Expr}{kk:Nat}{tpos:Pos}(it:Addr)(hod:o.data=.dict es ep):
    Turn P w K (.Tuple elts kk tpos) (Itit d o kvs) [it] it (fun i h=>∃ok ov,IsItemIter h it d i kvs.length ep ok ov) where
  mem:=List.mem_cons_self
  obj:=fun i h st b hb=>by
    obtain rfl:b=it:=List.mem_singleton.mp hb
    obtain⟨ok,ov,e⟩:=st
    exact⟨_,e,fun v z=>nomatch z⟩
  keep:=fun i h h' st k=>let ⟨ok,ov,e⟩:=st;⟨ok,ov,k it List.mem_cons_self _ e⟩
  item:=by
    intro X hP hw hK hc i pins s σ H E I hf st hg
    subst hP hw hK
    obtain⟨hd,hi⟩:=hg
    obtain⟨hs,hgd,hx,es',ep',hdt,hsz,ent⟩:=I.frzTv hd
    obtain⟨rfl,rfl⟩:=jO hod hdt
    obtain⟨⟨k,v⟩,hkv⟩:∃p,kvs[i]?=some p:=⟨kvs[i],List.getElem?_eq_getElem hi⟩
    obtain⟨en,q,hen,ek,hq,rv⟩:=ent i k v hkv
    obtain⟨ok,ov,he⟩:=st
    rw[<-hsz] at he
    have hlt:it<s.heap.objs.size:=Heap.lt_size he
    refine next_item_raw he ⟨o,hgd,hx,hdt⟩ hen fun h' ho hT hk=>⟨_,rfl,wpAny_letOwnedTupleGo_items (s:={ s with heap:=h' }) ho fun h'' he' sb=>?_⟩
    have hT2:h''.get? s.heap.objs.size=some { cls:=.type "tuple",data:=.seq #[en.key,en.val] }:=(sb.2 _ (Nat.ne_of_gt hlt)).trans hT
    have new:ObjOk X.prog X.w (upd H s.heap.objs.size (.tup [.ref q,v])) h'' s.heap.objs.size (.tup [.ref q,v]):=
      ⟨by show 2<=sizeLine;decide,[en.key,en.val],.cons ek (.cons rv .nil),⟨_,hT2,rfl,_,rfl⟩⟩
    have I1:Inv X pins σ (upd H s.heap.objs.size (.tup [.ref q,v])) { s with heap:=h'' }:=
      I.turnedNew (t':=s.toks) (ch:=[it]) (fun b ob hb e=>(sb.2 b (by simpa using hb)).trans (hk b ob (by simpa using hb) e)) hf (Nat.le_refl _) new
    refine⟨.ref s.heap.objs.size,_,I1,rfl,⟨_,q,k,v,hkv,rfl,I.hok.fresh (Nat.le_refl _),hq,rfl⟩,⟨en.key,en.val,by rw[<-hsz];exact he'⟩,fun b hb=>?_⟩
    obtain rfl:b=it:=List.mem_singleton.mp hb
    rw[zI (Nat.ne_of_lt hlt)]
    exact(hf b List.mem_cons_self).1
  done:=by
    intro X hP hw hK hc i pins s σ H E I hf st hg
    subst hP hw hK
    obtain⟨hd,hi⟩:=hg
    obtain⟨f0,f1,f2,f3,f4,f5⟩:=hf it List.mem_cons_self
    obtain⟨hs,hgd,hx,es',ep',hdt,hsz,ent⟩:=I.frzTv hd
    obtain⟨rfl,rfl⟩:=jO hod hdt
    obtain⟨ok,ov,he⟩:=st
    rw[<-hsz] at he
    exact next_item_end (I.ok.hd hc) he ⟨o,hgd,hx,hdt⟩ (by rw[hsz];exact hi) fun h' eb=>⟨rfl,I.turned (t':=s.toks) (fun b ob hb e=>eb b ob hb e) f0 f1 f3 f4 f5⟩
  self:=fun A i s Q E st h=>let ⟨_,_,e⟩:=st;PySem.W.kcp_self e h
end
def iItemsT(td:TE):TI:=fun σ H R=>td σ H fun x H1=>∃d o kvs,x=.ref d/\H1 d=some (.frz o (.dT kvs))/\R (Itit d o kvs) H1
theorem pi_itemsT{X:Cx}{e:Expr}{td:TE}{apos cpos:Pos}{elts:List Expr}{kk:Nat}{tpos:Pos}(he:PE X e td)(hbase:attributeBase e "items" X.env (eval e X.env)=eval e X.env:=by rfl)(hline:(apos.endLine==cpos.line)=true:=by rfl):
    PI X (.Tuple elts kk tpos) (.Call (.Attribute e "items" apos) [] [] cpos) (iItemsT td):=by
  intro pins s σ H R I h
  refine wpAny_Call_method (T:="dict") (id:="dict.items") hbase rfl hline F.plainAttrs_dict F.slot_dict_items F.type_dict_items (thn (he pins s σ H _ I h) fun u s1 ⟨x,H1,I1,rx,d,o,kvs,ex,hd,q⟩=>?_)
  subst ex
  obtain rfl:u=Value.ref d:=rx
  obtain⟨hs,hgd,hx,es,ep,hdt,hsz,ent⟩:=I1.frzTv hd
  have hT:s1.TypeIs (.ref d) "dict":=⟨o,hgd,hx.1⟩
  refine⟨hT,fun b q=>by cases q;exact⟨o,hgd,hx.2.1⟩,?_⟩
  have I2:Inv X pins σ H1 { s1 with heap:=s1.heap.push { cls:=.type "dict_items",data:=.fields #[.ref d] } }:=I1.kept (t':=s1.toks) fun b ob q=>Heap.get?_push_of_some _ q
  have fin:wpAny (model X.prog X.w) X.A (pyIter (.ref s1.heap.objs.size)) (PIE X pins σ (.Tuple elts kk tpos) R) X.xe { s1 with heap:=s1.heap.push { cls:=.type "dict_items",data:=.fields #[.ref d] } }:=by
    refine iter_itemsT (d:=d) ⟨_,Heap.get?_push_size _ rfl,rfl,rfl⟩ ⟨o,Heap.get?_push_of_some _ hgd,hx,hdt⟩ (zBa (tk:=s1.toks) I2 _ (turn_itemsT _ hdt) ⟨.none,.none,?_⟩ q)
    rw[<-hsz]
    exact Heap.get?_push_size _ rfl
  show wpAny _ _ (callWith cpos (.builtin "dict.items") [.ref d] [] []) _ X.xe s1
  exact method_meetsIn F.slot_dict_items F.entry_dict_items rfl (PySem.evalArgs_none ⟨rfl,hT,F.args_dict_items_1 _,_,meets_itemsT hs,⟨hT,fin⟩⟩)
end L2
namespace L2
open PySem PySem.Spec PyProof.Rows
section
variable{prog:Program}{w:World}{A:Around}{R:Result->Shared->Prop}{I:Addr}{fp wr:List Addr}{n:Nat}{P:Nat->Value->Prop}{St:Nat->Heap->Prop}
def CmpSt(prog:Program)(w:World)(A:Around)(P:Nat->Value->Prop)(St:Nat->Heap->Prop)(bt:Nat->Nat->Bool):Prop:=
  ∀(m i j:Nat) (vi vj:Value) (s:Shared) (Q E:Value->Shared->Prop),St m s.heap->P i vi->P j vj->Q (.bool (bt i j)) s->wpAny (model prog w) A (richCompare .Lt vi vj) Q E s
def Kept(wr:List Addr)(S:Addr)(h h':Heap):Prop:=∀b o,b ∉ wr->b≠S->h.get? b=some o->h'.get? b=some o
theorem min_go (W : Walks prog w A.in1 I fp wr n P St) (bt : Nat → Nat → Bool) (hc : CmpSt prog w A.in1 P St bt) (S : Addr) (hSf : S ∉ fp) : ∀ (k j : Nat) (s : Shared) (best : Value) (c : Nat), n - (j + 1) = k → j + 1 ≤ n → St (j + 1) s.heap →
    P (argBest bt j) best->s.heap.get? S=some { cls:=.type "list",dict:=none,data:=.seq #[best,best] c,slots:=#[] }->(∀v h' t,P (argBest bt (n - 1)) v->Kept wr S s.heap h'->R (.ok (.ret v)) { s with heap:=h',toks:=t })->
    codeAny (model prog w) A (.builtin "min.loop" ⟨[.ref I,.none,.ref S],[]⟩) R s
  | k, j, s, best, c, hk, hj, st, pb, hS, hR => by
    have hSw:S ∉ wr:=fun q=>hSf (W.sub _ q)
    refine codeAny_builtin F.entry_min_loop ?_
    rw[Around.under_plainId F.plain_min_loop _]
    show wpAny _ A.in1 (seqItems? (.ref S) >>= fun _=>_) _ _ s
    refine wpAny_bind (wpAny_seqItems hS rfl (show wpAny _ A.in1 (tryCatch (pyNext (.ref I)) _ >>= _) _ _ s from ?_))
    match k,hk with
    | 0, hk =>
      obtain rfl:n=j+1:=by omega
      refine wpAny_bind (wpAny_tryCatch (W.done s _ _ st fun h' t kp=>show wpAny _ A.in1 (updateSeq S (fun _=>#[]) >>= _) _ _ _ from ?_))
      refine wpAny_bind (wpAny_updateSeq (kp S _ hSw hS) rfl (wpAny_bind (wpAny_letGo (wpAny_pure ?_))))
      exact hR best _ t pb fun b o hb hbS e=>(Heap.get?_update_other _ _ (Ne.symm hbS)).trans (kp b o hb e)
    | k + 1, hk =>
      have hlt:j+1<n:=by omega
      refine wpAny_bind (wpAny_tryCatch (W.item (j+1) s _ _ hlt st fun v h' t pv st' kp=>?_))
      have hS':=kp S _ hSw hS
      show wpAny _ A.in1 (tryCatch (holding [v,v] (richCompare .Lt v best >>= _)) _ >>= _) _ _ _
      refine wpAny_bind (wpAny_tryCatch (wpAny_holding (wpAny_bind (hc (j+2) (j+1) (argBest bt j) v best { s with heap:=h',toks:=t } _ _ st' pv pb (wpAny_bind (wpAny_holding (wpAny_truthy_bool (wpAny_bind (wpAny_letGo (wpAny_pure ?_))))))))))
      have hname:(toString "min"++toString ".loop":String)="min.loop":=by decide
      cases hb:bt (j+1) (argBest bt j) with
      | true =>
        simp only[if_true]
        refine wpAny_bind (wpAny_updateSeq hS' rfl (wpAny_bind (wpAny_letGo ?_)))
        rw[hname]
        have st2:St (j+1+1) (h'.update S (Obj.mapSeq fun _=>#[v,v])):=W.frame _ _ _ st' fun b hbf o e=>(Heap.get?_update_other _ _ (fun q:S=b=>hSf (by rw[q];exact hbf))).trans e
        have pn:P (argBest bt (j+1)) v:=by simp only[argBest,hb,if_true];exact pv
        exact wpAny_pure ⟨plainId_quiet F.plain_min_loop _,min_go W bt hc S hSf k (j+1) _ v _ (by omega) hlt st2 pn (Heap.get?_update_self _ hS' rfl)
          fun v' h'' t'' p'' k''=>hR v' h'' t'' p'' fun b o hbw hbS e=>k'' b o hbw hbS ((Heap.get?_update_other _ _ (Ne.symm hbS)).trans (kp b o hbw e))⟩
      | false =>
        simp only[Bool.false_eq_true,if_false]
        refine wpAny_bind (wpAny_letGo ?_)
        rw[hname]
        have pn:P (argBest bt (j+1)) best:=by simp only[argBest,hb,Bool.false_eq_true,if_false];exact pb
        exact wpAny_pure ⟨plainId_quiet F.plain_min_loop _,min_go W bt hc S hSf k (j+1) _ best c (by omega) hlt st' pn hS' fun v' h'' t'' p'' k''=>hR v' h'' t'' p'' fun b o hbw hbS e=>k'' b o hbw hbS (kp b o hbw e)⟩
theorem min_first(W:Walks prog w A.in1 I fp wr n P St)(bt:Nat->Nat->Bool)(hc:CmpSt prog w A.in1 P St bt)(S:Addr)(hSf:S ∉ fp)(hn:0<n){s:Shared}{c:Nat}(st:St 0 s.heap)
    (hS:s.heap.get? S=some { cls:=.type "list",dict:=none,data:=.seq #[] c,slots:=#[] }) (hR:∀v h' t,P (argBest bt (n - 1)) v->Kept wr S s.heap h'->R (.ok (.ret v)) { s with heap:=h',toks:=t }):
    codeAny (model prog w) A (.builtin "min.loop" ⟨[.ref I,.none,.ref S],[]⟩) R s:=by
  refine codeAny_builtin F.entry_min_loop ?_
  rw[Around.under_plainId F.plain_min_loop _]
  show wpAny _ A.in1 (seqItems? (.ref S) >>= fun _=>_) _ _ s
  refine wpAny_bind (wpAny_seqItems hS rfl (show wpAny _ A.in1 (tryCatch (pyNext (.ref I)) _ >>= _) _ _ s from ?_))
  refine wpAny_bind (wpAny_tryCatch (W.item 0 s _ _ hn st fun v h' t pv st' kp=>show wpAny _ A.in1 (updateSeq S (fun _=>#[v,v]) >>= _) _ _ _ from ?_))
  have hS':=kp S _ (fun q=>hSf (W.sub _ q)) hS
  refine wpAny_bind (wpAny_updateSeq hS' rfl ?_)
  rw[show(toString "min"++toString ".loop":String)="min.loop" from by decide]
  have st2:St (0+1) (h'.update S (Obj.mapSeq fun _=>#[v,v])):=W.frame _ _ _ st' fun b hbf o e=>(Heap.get?_update_other _ _ (fun q:S=b=>hSf (by rw[q];exact hbf))).trans e
  exact wpAny_pure ⟨plainId_quiet F.plain_min_loop _,min_go W bt hc S hSf _ 0 _ v _ rfl hn st2 pv (Heap.get?_update_self _ hS' rfl)
    fun v' h'' t'' p'' k''=>hR v' h'' t'' p'' fun b o hbw hbS e=>k'' b o hbw hbS ((Heap.get?_update_other _ _ (Ne.symm hbS)).trans (kp b o hbw e))⟩
end
section
variable{prog:Program}{w:World}{A:Around}{E:Value->Shared->Prop}{s:Shared}
theorem min_call{x:Value}{Q:Value->Shared->Prop}
    (h:wpAny (model prog w) A.in1 (pyIter x) (fun it s2=>∃I fp wr n P St bt,it=.ref I/\Walks prog w A.in1 I fp wr n P St/\St 0 s2.heap/\(∀b∈fp,b<s2.heap.objs.size)/\0<n/\CmpSt prog w A.in1 P St bt/\
      ∀v h' t,P (argBest bt (n - 1)) v->(∀b o,b ∉ wr->s2.heap.get? b=some o->h'.get? b=some o)->Q v { s2 with heap:=h',toks:=t }) E s):wpAny (model prog w) A (call (.builtin "min") [x]) Q E s:=by
  refine call_function_tree F.kind_min F.plain_min F.entry_min (F.args_min1 _) (show wpAny _ A.in1 (Builtin.Builtins.bindParams "min" ["key","default"] 0 ⟨[],[]⟩ >>= _) _ _ s from ?_)
  refine wpAny_bind (wpAny_of_eq (show Builtin.Builtins.bindParams "min" ["key","default"] 0 ⟨[],[]⟩=pure [none,none] from rfl) (wpAny_bind (wpAny_pure (wpAny_bind (thn h fun it s2 q=>?_)))))
  obtain⟨I,fp,wr,n,P,St,bt,rfl,W,st,hfp,hn,hc,hQ⟩:=q
  refine wpAny_bind (wpAny_newObj_type ?_)
  rw[show(toString "min"++toString ".loop":String)="min.loop" from by decide]
  have st2:St 0 (s2.heap.push { cls:=.type "list",data:=.seq #[] }):=W.frame _ _ _ st fun b _ o e=>Heap.get?_push_of_some _ e
  exact wpAny_pure ⟨plainId_quiet F.plain_min_loop _,min_first W bt hc s2.heap.objs.size (fun q=>Nat.lt_irrefl _ (hfp _ q)) hn st2 (Heap.get?_push_size _ rfl)
    fun v h' t pv kp=>hQ v h' t pv fun b o hbw e=>kp b o hbw (Nat.ne_of_lt (Heap.lt_size e)) (Heap.get?_push_of_some _ e)⟩
end
theorem zBX{f:Nat->List Int}(tr:∀a b c,HT.lexLt (f a) (f b)=false->HT.lexLt (f c) (f b)=true->HT.lexLt (f a) (f c)=false)(ir:∀a,HT.lexLt (f a) (f a)=false):∀k,argBest (fun i j=>HT.lexLt (f i) (f j)) k<=k/\∀j,j<=k->HT.lexLt (f j) (f (argBest (fun i j=>HT.lexLt (f i) (f j)) k))=false
  |0=>⟨Nat.le_refl _,fun j hj=>(by have e:j=0:=(by omega);subst e;exact ir _)⟩
  | k + 1 => by
    obtain⟨h1,h2⟩:=zBX tr ir k
    unfold argBest
    cases c:HT.lexLt (f (k+1)) (f (argBest (fun i j=>HT.lexLt (f i) (f j)) k)) with
    | true =>
      rw[if_pos rfl]
      refine⟨Nat.le_refl _,fun j hj=>?_⟩
      by_cases e:j=k+1
      . rw[e];exact ir _
      . exact tr _ _ _ (h2 j (by omega)) c
    | false =>
      rw[if_neg (by decide)]
      refine⟨by omega,fun j hj=>?_⟩
      by_cases e:j=k+1
      . rw[e];exact c
      . exact h2 j (by omega)
theorem lex2_irr(p:Int×Int):HT.lexLt [p.1,p.2] [p.1,p.2]=false:=by simp[HT.lexLt_cons,HT.lexLt_nil_nil]
theorem J2{p q:Int×Int}:HT.lexLt [p.1,p.2] [q.1,q.2]=true↔p.1<q.1\/(p.1=q.1/\p.2<q.2):=by
  simp only[HT.lexLt_cons,HT.lexLt_nil_nil]
  by_cases h1:p.1=q.1
  . rw[if_pos h1]
    by_cases h2:p.2=q.2
    . rw[if_pos h2];simp;omega
    . rw[if_neg h2,decide_eq_true_iff];omega
  . rw[if_neg h1,decide_eq_true_iff];omega
theorem lex2_tr(p q r:Int×Int)(h1:HT.lexLt [p.1,p.2] [q.1,q.2]=false)(h2:HT.lexLt [r.1,r.2] [q.1,q.2]=true):HT.lexLt [p.1,p.2] [r.1,r.2]=false:=by
  rw[<-Bool.not_eq_true,J2] at h1 ⊢
  rw[J2] at h2
  omega
def PairAt(H:Hp)(v:V)(p:Int×Int):Prop:=∃a,v=.ref a/\H a=some (.tup [.int p.1,.int p.2])
theorem JV{H:Hp}{ts:List V}{ps:List (Int×Int)}(h:Paired (PairAt H) ts ps):∃as:List Addr,ts=as.map V.ref/\Paired (fun a (p:Int×Int)=>H a=some (.tup [.int p.1,.int p.2])) as ps:=by
  induction h with
  |nil=>exact⟨[],rfl,.nil⟩
  | cons h t ih =>
    obtain⟨as,rfl,q⟩:=ih
    obtain⟨a,rfl,ha⟩:=h
    exact⟨a::as,rfl,.cons ha q⟩
theorem j6:∀{as:List Addr} {us:List Value},Vals (as.map V.ref) us->us=as.map Value.ref
  |[],_,r=>by cases r;rfl
  | a :: as, _, r => by
    cases r with
    | cons r1 r2 =>
      cases r1
      rw[j6 r2]
      rfl
theorem walks_more{prog:Program}{w:World}{A:Around}{I:Addr}{fp wr:List Addr}{n:Nat}{P:Nat->Value->Prop}{St:Nat->Heap->Prop}(W:Walks prog w A I fp wr n P St)(as:List Addr)(h0:Heap)(hne:∀a∈as,a ∉ wr):
    Walks prog w A I (fp++as) wr n P (fun i h=>St i h/\∀a∈as,∀o,h0.get? a=some o->h.get? a=some o) where
  sub:=fun b hb=>List.mem_append.mpr (.inl (W.sub b hb))
  frame:=fun i h h' st hk=>⟨W.frame i h h' st.1 fun b hb=>hk b (List.mem_append.mpr (.inl hb)),fun a ha o e=>hk a (List.mem_append.mpr (.inr ha)) o (st.2 a ha o e)⟩
  item:=fun i s Q E hi st hQ=>W.item i s Q E hi st.1 fun v h' t pv st' kp=>hQ v h' t pv ⟨st',fun a ha o e=>kp a o (hne a ha) (st.2 a ha o e)⟩ kp
  done:=fun s Q E st hQ=>W.done s Q E st.1 hQ
  self:=fun i s Q E st hQ=>W.self i s Q E st.1 hQ
section
variable{X:Cx}
def rMinT:List V->Hp->VK->Prop:=fun vs H Q=>∃(l:Addr) (ts:List V) (ps:List (Int×Int)),vs=[V.ref l]/\H l=some (.lst ts)/\Paired (PairAt H) ts ps/\0<ps.length/\
  ∀(j:Nat) (t:V) (p:Int×Int),ts[j]?=some t->ps[j]?=some p->(∀q∈ps,p.1<q.1\/(p.1=q.1/\p.2<=q.2))->Q t H
theorem call_minT(hcalm:X.calm=true)(hu:X.A.units+1<cLine):CallR X (.builtin "min") rMinT:=by
  intro pins s σ H vs us Q I r h
  obtain⟨l,ts,ps,rfl,hl,pz,hn,q⟩:=h
  obtain⟨u,rfl,ru⟩:=vals1 r
  cases ru
  obtain⟨as,rfl,pa⟩:=JV pz
  obtain⟨its,rv,hL,_⟩:=I.list (SqL.of hl)
  obtain rfl:=j6 rv
  have la:as.length=ps.length:=Paired.length pa
  have hob:∀(i:Nat) (a:Addr),as[i]?=some a->∃p,ps[i]?=some p/\∃items:Array Value,IsTup s.heap a items/\IntsAre items.toList [p.1,p.2]:=fun i a e=>by
    obtain⟨p,e1,e2⟩:=ZK pa e
    obtain⟨xs,r1,t1,_⟩:=I.tuple (SqT.of e2)
    exact⟨p,e1,xs.toArray,t1,jq (ns:=[p.1,p.2]) r1⟩
  let f:Nat->Int×Int:=fun i=>ps.getD i (0,0)
  have hf:∀i p,ps[i]?=some p->f i=p:=fun i p e=>by show ps.getD i (0,0)=p;rw[List.getD_eq_getElem?_getD,e];rfl
  refine min_call (zBQ hL.isList fun s2 e2 st hne=>?_)
  subst e2
  have hnew:∀a∈as,a ∉ [s.heap.objs.size]:=fun a ha hq=>by
    obtain⟨i,hi⟩:=List.mem_iff_getElem?.mp ha
    obtain⟨p,_,items,⟨o,ho,_⟩,_⟩:=hob i a hi
    rw[List.mem_singleton.mp hq] at ho
    exact Nat.lt_irrefl _ (Heap.lt_size ho)
  have hlt:∀a∈as,a<s.heap.objs.size:=fun a ha=>by
    obtain⟨i,hi⟩:=List.mem_iff_getElem?.mp ha
    obtain⟨p,_,items,⟨o,ho,_⟩,_⟩:=hob i a hi
    exact Heap.lt_size ho
  have hll:l<s.heap.objs.size:=by obtain⟨_,e,_⟩:=hL.isList;exact Heap.lt_size e
  refine⟨_,_,_,_,_,_,fun i j=>HT.lexLt [(f i).1,(f i).2] [(f j).1,(f j).2],rfl,walks_more (Walks.list (A:=X.A.in1) (I.ok.hd hcalm) _ l hne (as.map Value.ref).toArray) as s.heap hnew,⟨st,fun a ha o e=>Heap.get?_push_of_some _ e⟩,fun b hb=>?_,by simpa [la] using hn,?_,fun v h' t pv kp=>?_⟩
  . rw[Heap.size_push]
    rcases List.mem_append.mp hb with hb|hb
    . rcases List.mem_cons.mp hb with rfl|hb
      . exact Nat.lt_succ_self _
      . rw[List.mem_singleton.mp hb];exact Nat.lt_succ_of_lt hll
    . exact Nat.lt_succ_of_lt (hlt b hb)
  . intro m i j vi vj s' Q' E' st' pi pj hq
    have gi:∀(i:Nat) (v:Value),(as.map Value.ref).toArray[i]?=some v->∃a,v=Value.ref a/\as[i]?=some a:=fun i v e=>by
      rw[List.getElem?_toArray,List.getElem?_map] at e
      obtain⟨a,h1,h2⟩:=Option.map_eq_some_iff.mp e
      exact⟨a,h2.symm,h1⟩
    obtain⟨a,rfl,ea⟩:=gi i vi pi
    obtain⟨b,rfl,eb⟩:=gi j vj pj
    obtain⟨p,e1,xs,⟨o1,t1,t2⟩,i1⟩:=hob i a ea
    obtain⟨p2,e3,ys,⟨o2,t3,t4⟩,i2⟩:=hob j b eb
    dsimp only at hq
    rw[hf i p e1,hf j p2 e3] at hq
    exact(HT.lt_tupInts ⟨o1,st'.2 a (List.mem_of_getElem? ea) o1 t1,t2⟩ ⟨o2,st'.2 b (List.mem_of_getElem? eb) o2 t3,t4⟩ i1 i2 hu hq:wpAny _ X.A.in1 (compareOp .Lt _ _) Q' E' s')
  . obtain⟨h1,h2⟩:=zBX (f:=fun i=>[(f i).1,(f i).2]) (fun a b c=>lex2_tr _ _ _) (fun a=>lex2_irr _) ((as.map Value.ref).toArray.size - 1)
    rw[List.getElem?_toArray,List.getElem?_map] at pv
    obtain⟨a,e1,e2⟩:=Option.map_eq_some_iff.mp pv
    subst e2
    obtain⟨p,e3,_⟩:=hob _ a e1
    refine⟨.ref a,H,I.kept (fun b o eb=>kp b o (fun hm=>?_) (Heap.get?_push_of_some _ eb)),rfl,q _ (.ref a) p (by rw[List.getElem?_map,e1];rfl) e3 fun y hy=>?_⟩
    . rw[List.mem_singleton.mp hm] at eb
      exact Nat.lt_irrefl _ (Heap.lt_size eb)
    . obtain⟨j,hj⟩:=List.mem_iff_getElem?.mp hy
      have hjl:=(List.getElem?_eq_some_iff.mp hj).1
      have z:=h2 j (by simp[la];omega)
      rw[hf j y hj,hf _ p e3,<-Bool.not_eq_true,J2] at z
      omega
end
section
open PySem.AutoSeq1 (wpAny_loadPart')
open PySem.MeetsSeq PySem.MeetsSeq2 PySem.MeetsSeq3
theorem zAQ(l:Addr)(items:Array Value)(n:Nat)(x:Value)(e:Value->Bool)(j:Nat)(hj:j<items.size)(hit:e items[j]=true)(hz:items.size<=sizeLine):∀(k i:Nat),j - i=k->i<=j->(∀m (hm:m<items.size),i<=m->m<j->e items[m]=false)->
    Meets (Builtin.«list.remove.loop» ⟨[.ref l,x,rawInt i],[]⟩) (fun A R s=>s.heap.get? l=some { cls:=.type "list",dict:=none,data:=.seq items n,slots:=#[] }/\(∀y,y∈items->SeqAt.EqAt A.in1 s y x (e y))/\
      R (.ok (.ret .none)) { s with heap:=s.heap.update l (Obj.mapSeq fun xs=>xs.eraseIdxIfInBounds j) })
  | k, i, hk, hij, hno, prog, w, A, R, s, h => by
    obtain⟨hp,g,d,tk,os⟩:=s
    obtain⟨hl,he,h⟩:=h
    have hlt:i<items.size:=Nat.lt_of_le_of_lt hij hj
    have hi:items[((i:Nat):Int).toNat]?=some items[i]:=by simp[hlt]
    wp_walk using wpAny_loadPart' hl
    rw[hi]
    refine wpAny_bind (he _ (Array.getElem_mem hlt) prog w _ _ ?_)
    by_cases c:i=j
    . subst c
      rw[hit]
      have hz':(items.eraseIdxIfInBounds i).size<=sizeLine+1:=Nat.le_trans (size_erased items _) (Nat.le_succ_of_le hz)
      wp_walk using (wpAny_updateSeq hl rfl (hz:=hz) (_hz':=hz')),wpAny_loadPart' hl
      simpa using h
    . rw[hno i hlt (Nat.le_refl _) (by omega)]
      wp_walk
      rw[show((i:Int)+1)=((i+1:Nat):Int) from by push_cast;rfl]
      refine⟨plainId_quiet plain_remove_loop _,codeAny_builtin entry_remove_loop ?_⟩
      rw[Around.under_plainId plain_remove_loop _]
      match k,hk with
      |0,hk=>omega
      |k+1,hk=>exact zAQ l items n x e j hj hit hz k (i+1) (by omega) (by omega) (fun m hm h1 h2=>hno m hm (by omega) h2) prog w A R _ ⟨hl,he,h⟩
theorem remove_at(l:Addr)(items:Array Value)(n:Nat)(x:Value)(e:Value->Bool)(j:Nat)(hj:j<items.size)(hit:e items[j]=true)(hno:∀m (hm:m<items.size),m<j->e items[m]=false)(hz:items.size<=sizeLine):
    Meets (Builtin.«list.remove» ⟨[.ref l,x],[]⟩) (fun A R s=>s.heap.get? l=some { cls:=.type "list",dict:=none,data:=.seq items n,slots:=#[] }/\(∀y,y∈items->SeqAt.EqAt A.in1 s y x (e y))/\
      R (.ok (.ret .none)) { s with heap:=s.heap.update l (Obj.mapSeq fun xs=>xs.eraseIdxIfInBounds j) }):=by
  intro prog w A R s h
  obtain⟨hp,g,d,tk,os⟩:=s
  obtain⟨hl,he,h⟩:=h
  wp_walk using wpAny_loadPart' hl
  refine⟨plainId_quiet plain_remove_loop _,codeAny_builtin entry_remove_loop ?_⟩
  rw[Around.under_plainId plain_remove_loop _]
  exact zAQ l items n x e j hj hit hz _ 0 rfl (Nat.zero_le _) (fun m hm _ h2=>hno m hm h2) prog w A R _ ⟨hl,he,h⟩
end
theorem jN{α β:Type}(f:α->β):∀(l:List α) (j:Nat),(l.map f).eraseIdx j=(l.eraseIdx j).map f
  |[],j=>rfl
  |a::l,0=>rfl
  |a::l,j+1=>by rw[List.map_cons,List.eraseIdx_cons_succ,List.eraseIdx_cons_succ,List.map_cons,jN f l j]
def rRemoveT:V->List V->Hp->VK->Prop:=fun x xs H Q=>∃(l:Addr) (ts:List V) (ps:List (Int×Int)) (t:V) (p:Int×Int) (j:Nat),x=V.ref l/\xs=[t]/\H l=some (.lst ts)/\Paired (PairAt H) ts ps/\PairAt H t p/\ps[j]?=some p/\
  (∀i,i<j->ps[i]?≠some p)/\Q .non (upd H l (.lst (ts.eraseIdx j)))
section
variable{X:Cx}
theorem mt_removeT (hu : X.A.units + 64 < cLine) : MtR X "list.remove" rRemoveT := by
  intro pins s σ H x xs v us Q I rx rxs h
  obtain⟨l,ts,ps,t,p,j,rfl,rfl,hl,pz,⟨b,rfl,hb⟩,hpj,hno,q⟩:=h
  cases rx
  obtain⟨u,rfl,ru⟩:=vals1 rxs
  cases ru
  obtain⟨as,rfl,pa⟩:=JV pz
  obtain⟨hz,its,n,rv,hob⟩:=I.hok l _ hl
  obtain rfl:=j6 rv
  have la:as.length=ps.length:=Paired.length pa
  have hj:j<as.length:=by rw[la];exact(List.getElem?_eq_some_iff.mp hpj).1
  have hz2:(as.map Value.ref).toArray.size<=sizeLine:=by simpa using hz
  let e : Value → Bool := fun y => match y with
    | .ref a => match H a with
      |some (.tup [.int i,.int k])=>decide ((i,k)=p)
      |_=>false
    |_=>false
  have he:∀a (z:Int×Int),H a=some (.tup [.int z.1,.int z.2])->e (.ref a)=decide (z=p):=fun a z hz=>by
    show(match H a with|some (.tup [.int i,.int k])=>decide ((i,k)=p)|_=>false)=_
    rw[hz]
  have hd:∀a (z:Int×Int),H a=some (.tup [.int z.1,.int z.2])->∃c,Reads s.heap (.ref a) (.tuple [.int z.1,.int z.2]) c:=fun a z hz=>Dp.reads I _ (.ref a) _ (.tup (SqT.of hz) (.cons (.int _) (.cons (.int _) .nil))) rfl
  have hmeet:=remove_at l (as.map Value.ref).toArray n (.ref b) e j (by simpa using hj) ?_ ?_ hz2
  . refine call_meets PySem.F.slot_list_remove ⟨_,hob,rfl⟩ PySem.F.entry_list_remove (PySem.F.args_list_remove_2 _ _) hmeet ⟨hob,fun y hy=>?_,?_⟩
    . obtain⟨a,ha,rfl⟩:∃a,a∈as/\y=Value.ref a:=by
        obtain⟨a,h1,h2⟩:=List.mem_map.mp (by simpa using hy)
        exact⟨a,h1,h2.symm⟩
      obtain⟨i,hi⟩:=List.mem_iff_getElem?.mp ha
      obtain⟨z,_,ez⟩:=ZK pa hi
      obtain⟨c1,r1⟩:=hd a z ez
      obtain⟨c2,r2⟩:=hd b p hb
      have hdep:∀z:Int×Int,(PyData.tuple [.int z.1,.int z.2]).depth<=8:=fun z=>by show(PyData.tuple [.int _,.int _]).depth<=8;simp[PyData.depth,PyData.depthAll]
      have:=SeqAt.eqAt_reads _ _ X.A.in1 s _ _ c1 c2 r1 r2 rfl rfl (by
        have:=hdep z
        have h3:X.A.in1.units=X.A.units+1:=rfl
        omega)
      rw[he a z ez]
      have hv:PyData.eqv (.tuple [.int z.1,.int z.2]) (.tuple [.int p.1,.int p.2])=decide (z=p):=by
        simp only[PyData.eqv,PyData.eqvAll,Bool.and_true]
        refine Bool.eq_iff_iff.mpr ?_
        rw[Bool.and_eq_true,beq_iff_eq,beq_iff_eq,decide_eq_true_iff]
        exact⟨fun q=>Prod.ext q.1 q.2,fun q=>by rw[q];exact⟨rfl,rfl⟩⟩
      rw[hv] at this
      exact this
    . have e1:((as.map Value.ref).toArray.eraseIdxIfInBounds j)=((as.eraseIdx j).map Value.ref).toArray:=by
        rw[List.eraseIdxIfInBounds_toArray]
        refine congrArg List.toArray ?_
        exact jN _ _ _
      have e2:(as.map V.ref).eraseIdx j=(as.eraseIdx j).map V.ref:=jN _ _ _
      rw[e2] at q
      have vr:∀l:List Addr,Vals (l.map V.ref) (l.map Value.ref):=fun l=>by
        induction l with
        |nil=>exact .nil
        |cons a l ih=>exact .cons rfl ih
      have hz3:((as.eraseIdx j).map V.ref).length<=sizeLine:=by
        rw[List.length_map,List.length_eraseIdx] at*
        split<;>omega
      have hg:=Heap.get?_update_self (Obj.mapSeq fun xs=>xs.eraseIdxIfInBounds j) hob rfl
      obtain⟨n',hn'⟩:∃n',Obj.mapSeq (fun xs=>xs.eraseIdxIfInBounds j) { cls:=Value.type "list",data:=Data.seq (List.map Value.ref as).toArray n }={ cls:=Value.type "list",data:=Data.seq (List.map Value.ref (as.eraseIdx j)).toArray n' }:=⟨_,by rw[<-e1];rfl⟩
      refine⟨.non,upd H l (.lst ((as.eraseIdx j).map V.ref)),I.write (e:=l) (t':=s.toks) (by rw[hl];trivial) (.inl rfl) (fun b u hb hu=>(Heap.get?_update_other _ _ (Ne.symm hb)).trans hu) ⟨_,hg⟩ ⟨hz3,(as.eraseIdx j).map Value.ref,n',vr _,by rw[hg,hn']⟩,rfl,q⟩
  . obtain⟨a,ha⟩:∃a,as[j]?=some a:=⟨_,List.getElem?_eq_getElem hj⟩
    obtain⟨z,e1,e2⟩:=ZK pa ha
    rw[hpj] at e1
    cases e1
    have e3:(as.map Value.ref).toArray[j]'(by simpa using hj)=.ref a:=by simp[(List.getElem?_eq_some_iff.mp ha).2]
    rw[e3,he a p e2]
    simp
  . intro m hm hmj
    have hm':m<as.length:=by simpa using hm
    obtain⟨a,ha⟩:∃a,as[m]?=some a:=⟨_,List.getElem?_eq_getElem hm'⟩
    obtain⟨z,e1,e2⟩:=ZK pa ha
    have e3:(as.map Value.ref).toArray[m]=.ref a:=by simp[(List.getElem?_eq_some_iff.mp ha).2]
    rw[e3,he a z e2]
    exact decide_eq_false fun q=>hno m hmj (by rw[<-q];exact e1)
end
end L2
namespace L2
open PySem PySem.Spec PyProof.Rows
section
variable{P:Program}{w:World}{K:PySem.W.Frag}{mg:Str->Option Value}{base:Heap}
def FnAt(P:Program)(w:World)(K:PySem.W.Frag)(mg:Str->Option Value)(base:Heap)(k:Nat)(x:Str)(ps:List Str)(sp:Sp):Prop:=
  ∃f fd,mg x=some (.ref f)/\PySem.W.keepIn K (.ref f)=true/\Binds K fd ps []/\FnOk P w K mg base CX0 k f fd ps sp
def MtAt(P:Program)(w:World)(K:PySem.W.Frag)(mg:Str->Option Value)(base:Heap)(k:Nat)(C:Addr)(m:Str)(ps:List Str)(sp:Sp):Prop:=
  ∃f fd,Meth K C m f/\Binds K fd ps []/\FnOk P w K mg base CX0 k f fd ps sp
def MkAt(P:Program)(w:World)(K:PySem.W.Frag)(mg:Str->Option Value)(base:Heap)(k:Nat)(C:Addr)(x:Str)(ps:List Str)(sp:Sp):Prop:=
  ∃f fd,Mk K C f/\mg x=some (.ref C)/\Binds K fd ps []/\FnOk P w K mg base CX0 k f fd ps sp
def GI(mg:Str->Option Value)(x:Str)(c:Int):Prop:=∃t,mg x=some (.int c t)
def GT(K:PySem.W.Frag)(mg:Str->Option Value)(x:Str)(a:Addr)(xs:List V):Prop:=mg x=some (.ref a)/\∀H:Hp,SqT K H a xs
end
section
variable{X:Cx}{k j:Nat}{C:Addr}{ps:List Str}{sp:Sp}{x m:Str}{p pos apos:Pos}{e o:Expr}{es:List Expr}{ta:TE}{t:TA}
theorem zM{c:Int}(h:GI X.mg x c)(hg:Gl X x:=by rfl)(hd:(x==("__debug__":Str))=false:=by decide):PE X (.Name x pos) (tC (.int c)):=
  let ⟨t,q⟩:=h
  zBl (v:=.int c) hg q ⟨t,rfl⟩ hd
theorem JU{a:Addr}{xs:List V}(h:GT X.K X.mg x a xs)(hg:Gl X x:=by rfl)(hd:(x==("__debug__":Str))=false:=by decide):PE X (.Name x pos) (tC (.ref a)):=
  zBl (v:=.ref a) hg h.1 rfl hd
theorem zV(F:FnAt X.prog X.w X.K X.mg X.base k x ps sp)(hr:Room j X.A)(ha:PA X (e::es) t)(hk:k<=j:=by decide)(hg:Gl X x:=by rfl)
    (hdb:(x==("__debug__":Str))=false:=by decide) (he:starEach (e::es) X.env=(false,eval e X.env)::starEach es X.env:=by rfl) (hpl:(backTo pos (starEach es X.env)).any (·.1)=false:=by rfl):
    PE X (.Call (.Name x p) (e::es) [] pos) (tCall sp [] E0 t):=by
  obtain⟨f,fd,h1,h2,h3,h4⟩:=F
  exact pe_call h4 (hr.mono hk) hg h1 h2 h3 .nil pass0 ha hdb he hpl
theorem zT{pl:Sem Bool}(he:PE X o ta)(c:Cls X.K C)(F:MtAt X.prog X.w X.K X.mg X.base k C m ps sp)(hr:Room j X.A)(ha:PA X (e::es) t)(hk:k<=j:=by decide)
    (ht:eval (.Call (.Attribute o m apos) (e::es) [] pos) X.env=(do
      let ov <-eval o X.env
      standAt apos.atName
      let (f,first) <-holding [ov] (getMethod ov m pl)
      callWith pos f first (backTo pos (starEach (e::es) X.env)) (backToKw pos (keywordEach [] X.env))):=by rfl)
    (hst:starEach (e::es) X.env=(false,eval e X.env)::starEach es X.env:=by rfl) (hpl:(backTo pos (starEach es X.env)).any (·.1)=false:=by rfl):
    PE X (.Call (.Attribute o m apos) (e::es) [] pos) (tMeth C m sp [] E0 ta t):=by
  obtain⟨f,fd,h1,h3,h4⟩:=F
  exact pe_meth (pl:=pl) he c h1 h4 (hr.mono hk) h3 .nil pass0 ha (ht:=ht) (hst:=hst) (hpl:=hpl)
theorem zCL{pl:Sem Bool}(he:PE X o ta)(c:Cls X.K C)(F:MtAt X.prog X.w X.K X.mg X.base k C m ps sp)(hr:Room j X.A)(hk:k<=j:=by decide)
    (ht:eval (.Call (.Attribute o m apos) [] [] pos) X.env=(do
      let ov <-eval o X.env
      standAt apos.atName
      let (f,first) <-holding [ov] (getMethod ov m pl)
      callWith pos f first (backTo pos (starEach [] X.env)) (backToKw pos (keywordEach [] X.env))):=by rfl):
    PE X (.Call (.Attribute o m apos) [] [] pos) (tMeth C m sp [] E0 ta tNil):=by
  obtain⟨f,fd,h1,h3,h4⟩:=F
  exact pe_meth0 (pl:=pl) he c h1 h4 (hr.mono hk) h3 .nil pass0 (ht:=ht)
theorem zCN(F:MkAt X.prog X.w X.K X.mg X.base k C x ps sp)(hr:Room j X.A)(ha:PA X (e::es) t)(hk:k+1<=j:=by decide)(hg:Gl X x:=by rfl)
    (hdb:(x==("__debug__":Str))=false:=by decide) (he:starEach (e::es) X.env=(false,eval e X.env)::starEach es X.env:=by rfl) (hpl:(backTo pos (starEach es X.env)).any (·.1)=false:=by rfl):
    PE X (.Call (.Name x p) (e::es) [] pos) (tMake C sp [] E0 t):=by
  obtain⟨f,fd,h1,h2,h3,h4⟩:=F
  exact pe_make h1 h4 (hr.mono hk) hg h2 h3 .nil pass0 ha hdb he hpl
theorem zCM(F:MkAt X.prog X.w X.K X.mg X.base k C x ps sp)(hr:Room j X.A)(hk:k+1<=j:=by decide)(hg:Gl X x:=by rfl)(hdb:(x==("__debug__":Str))=false:=by decide):
    PE X (.Call (.Name x p) [] [] pos) (tMake C sp [] E0 tNil):=by
  obtain⟨f,fd,h1,h2,h3,h4⟩:=F
  exact pe_make0 h1 h4 (hr.mono hk) hg h2 h3 .nil pass0 hdb
end
section
variable{σ:St}{H:Hp}{Q:VK}{D:Ends}{K:PySem.W.Frag}
theorem rd_seq{t u:TS}(h:t { D with nx:=u D } σ H):tSeq t u D σ H:=h
theorem rd_asg{te:TE}{g:TG}(h:te σ H fun x H1=>g x σ H1 D.nx):tAsg te g D σ H:=h
theorem rd_ret{te:TE}(h:te σ H D.rt):tRet te D σ H:=h
theorem rd_drop{te:TE}(h:te σ H fun _ H1=>D.nx σ H1):tDrop te D σ H:=h
theorem jk{i:Nat}{v:V}(e:σ[i]?=some (some v))(h:Q v H):tVar i σ H Q:=⟨v,e,h⟩
theorem rd_c{v:V}(h:Q v H):tC v σ H Q:=h
theorem rd_op{r:R2}{ta tb:TE}(h:ta σ H fun x H1=>tb σ H1 fun y H2=>r x y H2 Q):tOp r ta tb σ H Q:=h
theorem rd_un{r:V->Hp->VK->Prop}{ta:TE}(h:ta σ H fun x H1=>r x H1 Q):tUn r ta σ H Q:=h
theorem rd_I0{f:Int->Int->V}{i j:Int}(h:Q (f i j) H):rI0 f (.int i) (.int j) H Q:=⟨i,j,rfl,rfl,h⟩
theorem rd_I{c:Int->Int->Prop}{f:Int->Int->V}{i j:Int}(hc:c i j)(h:Q (f i j) H):rI c f (.int i) (.int j) H Q:=⟨i,j,rfl,rfl,hc,h⟩
theorem rd_U{f:Int->V}{i:Int}(h:Q (f i) H):rU f (.int i) H Q:=⟨i,rfl,h⟩
def tFld1(K:PySem.W.Frag)(f:Str)(Q:VK)(x:V)(H1:Hp):Prop:=∃a C dx fs v,x=.ref a/\H1 a=some (.ins C dx fs)/\Cls K C/\NoAttr K C f/\fs.lookup f=some v/\Q v H1
theorem rd_fld{ta:TE}{f:Str}(h:ta σ H (tFld1 K f Q)):tFld K ta f σ H Q:=h
theorem zBi{a C dx:Addr}{fs:List (Str×V)}{v:V}{f:Str}(h1:H a=some (.ins C dx fs))(h2:Cls K C)(h3:NoAttr K C f)(h4:fs.lookup f=some v)(h:Q v H):tFld1 K f Q (.ref a) H:=⟨a,C,dx,fs,v,rfl,h1,h2,h3,h4,h⟩
theorem rd_cons{ta:TE}{tr:TA}{R:List V->Hp->Prop}(h:ta σ H fun x H1=>tr σ H1 fun xs H2=>R (x::xs) H2):tCons ta tr σ H R:=h
theorem rd_nil{R:List V->Hp->Prop}(h:R [] H):tNil σ H R:=h
theorem rd_call{sp:Sp}{dvs:List V}{E:XK}{t:TA}(h:t σ H fun vs H1=>sp (vs++dvs) H1 Q E):tCall sp dvs E t σ H Q:=h
def tMeth1(C:Addr)(m:Str)(sp:Sp)(dvs:List V)(E:XK)(t:TA)(σ:St)(Q:VK)(x:V)(H1:Hp):Prop:=∃a dx fs,x=.ref a/\H1 a=some (.ins C dx fs)/\fs.lookup m=none/\t σ H1 fun vs H2=>sp (x::(vs++dvs)) H2 Q E
theorem rd_meth{C:Addr}{m:Str}{sp:Sp}{dvs:List V}{E:XK}{ta:TE}{t:TA}(h:ta σ H (tMeth1 C m sp dvs E t σ Q)):tMeth C m sp dvs E ta t σ H Q:=h
theorem rd_meth1{a C dx:Addr}{fs:List (Str×V)}{m:Str}{sp:Sp}{dvs:List V}{E:XK}{t:TA}(h1:H a=some (.ins C dx fs))(h4:fs.lookup m=none)(h:t σ H fun vs H2=>sp (.ref a::(vs++dvs)) H2 Q E):tMeth1 C m sp dvs E t σ Q (.ref a) H:=⟨a,dx,fs,rfl,h1,h4,h⟩
theorem rd_ifS{c:TT}{t u:TS}(h:c σ H fun b H1=>if b=true then t D σ H1 else u D σ H1):tIfS c t u D σ H:=h
def tBl1(R:Bool->Hp->Prop)(x:V)(H1:Hp):Prop:=∃k,x=.bl k/\R k H1
theorem rd_test{t:TE}{R:Bool->Hp->Prop}(h:t σ H (tBl1 R)):tTest t σ H R:=h
theorem rd_tB{t:TE}{R:Bool->Hp->Prop}(h:t σ H (tBl1 R)):tB t σ H R:=h
theorem rd_bl{b:Bool}{R:Bool->Hp->Prop}(h:R b H):tBl1 R (.bl b) H:=⟨b,rfl,h⟩
theorem rd_not{t:TT}{R:Bool->Hp->Prop}(h:t σ H fun c H1=>R (!c) H1):tNot t σ H R:=h
theorem rd_and{t u:TT}{R:Bool->Hp->Prop}(h:t σ H fun c H1=>if c=true then u σ H1 R else R false H1):tAnd t u σ H R:=h
theorem rd_or{t u:TT}{R:Bool->Hp->Prop}(h:t σ H fun c H1=>if c=true then R true H1 else u σ H1 R):tOr t u σ H R:=h
theorem rd_ip{f:Int->Int->Int}{i j:Int}(h:Q (.int (f i j)) H):ipI f (.int i) (.int j) H Q:=⟨i,j,rfl,rfl,h⟩
theorem rd_lst{t:TA}(h:t σ H fun xs H1=>xs.length<=sizeLine/\∀p,H1 p=none->Q (.ref p) (upd H1 p (.lst xs))):tLst t σ H Q:=h
theorem rd_tup{t:TA}(h:t σ H fun xs H1=>xs.length<=sizeLine/\∀p,H1 p=none->Q (.ref p) (upd H1 p (.tup xs))):tTup t σ H Q:=h
theorem rd_cb{r:List V->Hp->VK->Prop}{t:TA}(h:t σ H fun vs H1=>r vs H1 Q):tCB r t σ H Q:=h
end
end L2
namespace L2
open PySem PySem.Spec PyProof.Rows
theorem st0{t:TS}{D:Ends}{N:List Str}{vs:List V}{σ0:St}{H:Hp}(e:start N vs=σ0)(h:t D σ0 H):t D (start N vs) H:=e▸h
end L2
namespace L2
open PySem PySem.Spec PyProof.Rows
def Ext(d:Addr)(H H':Hp):Prop:=∀b o,H b=some o->b≠d->H' b=some o
theorem Ext.refl{d:Addr}{H:Hp}:Ext d H H:=fun _ _ e _=>e
theorem Ext.trans{d:Addr}{H H1 H2:Hp}(a:Ext d H H1)(b:Ext d H1 H2):Ext d H H2:=fun c o h n=>b c o (a c o h n) n
theorem Same.ext{d:Addr}{H H1:Hp}(a:Same H H1):Ext d H H1:=fun c o h _=>a c o h
theorem j2{d:Addr}{H:Hp}{o:HO}:Ext d H (upd H d o):=fun b u e n=>by rw[zI n];exact e
theorem ZU{p:Addr}{H:Hp}{o:HO}(h:H p=none):Same H (upd H p o):=fun b u e=>by rw[zI (zL e h)];exact e
theorem zCD{Q:VK}{H:Hp}{a b:Int}(q:Q (.int b) H)(e:a=b):Q (.int a) H:=e▸q
theorem Q_bl{Q:VK}{H:Hp}{a b:Bool}(q:Q (.bl b) H)(e:a=b):Q (.bl a) H:=e▸q
section
variable{σ:St}{H:Hp}{Q:VK}{D:Ends}{K:PySem.W.Frag}
theorem zR{b:Bool}{p q:Prop}{d:Decidable (b=true)}(h1:b=true->p)(h2:b=false->q):@ite Prop (b=true) d p q:=by
  cases b with
  |true=>rw[if_pos rfl];exact h1 rfl
  |false=>rw[if_neg Bool.false_ne_true];exact h2 rfl
theorem zAu(h:D.nx σ H):tNext D σ H:=h
theorem rd_chain{r r':R2}{ta tb tc:TE}(h:ta σ H fun x H1=>tb σ H1 fun y H2=>r x y H2 (tBl1 fun k H3=>if k=true then tc σ H3 fun w' H4=>r' y w' H4 Q else Q (.bl false) H3)):tChain r r' ta tb tc σ H Q:=h
theorem rd_andV{ta tb:TE}(h:ta σ H (tBl1 fun c H1=>if c=true then tb σ H1 Q else Q (.bl false) H1)):tAndV ta tb σ H Q:=h
theorem rd_orV{ta tb:TE}(h:ta σ H (tBl1 fun c H1=>if c=true then Q (.bl true) H1 else tb σ H1 Q)):tOrV ta tb σ H Q:=h
theorem rd_ifE{t:TT}{ta tb:TE}(h:t σ H fun c H1=>if c=true then ta σ H1 Q else tb σ H1 Q):tIf t ta tb σ H Q:=h
def sFld1(K:PySem.W.Frag)(f:Str)(D:Ends)(σ:St)(y x:V)(H2:Hp):Prop:=∃a C dx fs,x=.ref a/\H2 a=some (.ins C dx fs)/\Cls K C/\NoAttr K C f/\fs.length<1000/\D.nx σ (upd H2 a (.ins C dx (putF f y fs)))
theorem rd_sfld{ta tv:TE}{f:Str}(h:tv σ H fun y H1=>ta σ H1 (sFld1 K f D σ y)):sFld K ta tv f D σ H:=h
theorem qy{a C dx:Addr}{f:Str}{y:V}{fs:List (Str×V)}(h1:H a=some (.ins C dx fs))(h2:Cls K C)(h3:NoAttr K C f)(h4:fs.length<1000)(h:D.nx σ (upd H a (.ins C dx (putF f y fs)))):sFld1 K f D σ y (.ref a) H:=⟨a,C,dx,fs,rfl,h1,h2,h3,h4,h⟩
def sDPut1(D:Ends)(σ:St)(v x y:V)(H3:Hp):Prop:=∃a H4,x=.ref a/\DPut H3 a y v H4/\D.nx σ H4
theorem rd_dput{td ty tv:TE}(h:tv σ H fun v H1=>td σ H1 fun x H2=>ty σ H2 (sDPut1 D σ v x)):sDPut td ty tv D σ H:=h
theorem qz{a:Addr}{v y:V}{H4:Hp}(h1:DPut H a y v H4)(h:D.nx σ H4):sDPut1 D σ v (.ref a) y H:=⟨a,H4,rfl,h1,h⟩
def tDGet1'(Q:VK)(x y:V)(H2:Hp):Prop:=∃a v,x=.ref a/\DGet H2 a y (some v)/\Q v H2
theorem rd_dget{td ty:TE}(h:td σ H fun x H1=>ty σ H1 (tDGet1' Q x)):tDGet td ty σ H Q:=h
theorem Jt{a:Addr}{v y:V}(h1:DGet H a y (some v))(h:Q v H):tDGet1' Q (.ref a) y H:=⟨a,v,rfl,h1,h⟩
def tDIn1(Q:Bool->Hp->Prop)(y x:V)(H2:Hp):Prop:=∃a o,x=.ref a/\DGet H2 a y o/\Q o.isSome H2
theorem rd_din{td ty:TE}(h:ty σ H fun y H1=>td σ H1 (tDIn1 (fun b=>Q (.bl b)) y)):tDIn ty td σ H Q:=h
theorem rd_dnotin{td ty:TE}(h:ty σ H fun y H1=>td σ H1 (tDIn1 (fun b=>Q (.bl (!b))) y)):tDNotIn ty td σ H Q:=h
theorem jI{a:Addr}{y:V}{o:Option V}{R:Bool->Hp->Prop}(h1:DGet H a y o)(h:R o.isSome H):tDIn1 R y (.ref a) H:=⟨a,o,rfl,h1,h⟩
theorem rd_make{C:Addr}{sp:Sp}{dvs:List V}{E:XK}{t:TA}(h:t σ H fun vs H1=>∀x dx,H1 x=none->H1 dx=none->dx≠x->sp (.ref x::(vs++dvs)) (upd (upd H1 dx (.own x)) x (.ins C dx [])) (fun v H2=>v=.non/\Q (.ref x) H2) E):
    tMake C sp dvs E t σ H Q:=h
theorem jH{n:Nat}{t:TGs}{a:Addr}{xs:List V}{N:St->Hp->Prop}(h1:SqT K H a xs)(h2:xs.length=n)(h:t xs σ H N):gTup K n t (.ref a) σ H N:=⟨a,xs,rfl,h1,h2,h⟩
theorem rd_gcons{t:TG}{u:TGs}{v:V}{r:List V}{N:St->Hp->Prop}(h:t v σ H fun σ' H'=>u r σ' H' N):gCons t u (v::r) σ H N:=⟨v,r,rfl,h⟩
theorem rd_gnil{N:St->Hp->Prop}(h:N σ H):gNil [] σ H N:=⟨rfl,h⟩
def tBM1(K:PySem.W.Frag)(T:String)(r:V->List V->Hp->VK->Prop)(t:TA)(σ:St)(Q:VK)(x:V)(H1:Hp):Prop:=tyV K T x H1/\t σ H1 fun xs H2=>r x xs H2 Q
theorem rd_bm{T:String}{r:V->List V->Hp->VK->Prop}{to:TE}{t:TA}(h:to σ H (tBM1 K T r t σ Q)):tBM K T r to t σ H Q:=h
theorem Zv{r:V->List V->Hp->VK->Prop}{t:TA}{l:Addr}{xs:List V}(h1:H l=some (.lst xs))(h:t σ H fun vs H2=>r (.ref l) vs H2 Q):tBM1 K "list" r t σ Q (.ref l) H:=⟨.inl ⟨rfl,_,SqL.of h1⟩,h⟩
theorem qI{l:Addr}{xs:List V}{y:V}(h1:H l=some (.lst xs))(h2:xs.length<sizeLine)(h:Q .non (upd H l (.lst (xs++[y])))):rAppend (.ref l) [y] H Q:=⟨l,xs,y,rfl,rfl,h1,h2,h⟩
theorem qj{l b:Addr}{xs zs:List V}(h1:H l=some (.lst xs))(h3:H b=some (.lst zs))(h2:xs.length+zs.length<=sizeLine)(h:Q .non (upd H l (.lst (xs++zs)))):rExtend (.ref l) [.ref b] H Q:=⟨l,b,xs,zs,rfl,rfl,h1,h3,h2,h⟩
theorem zCK{l b:Addr}{xs zs:List V}(h1:H l=some (.lst xs))(h3:H b=some (.lst zs))(h2:xs.length+zs.length<=sizeLine)(h:∀p,H p=none->Q (.ref p) (upd H p (.lst (xs++zs)))):rCat (.ref l) (.ref b) H Q:=⟨l,b,xs,zs,rfl,rfl,h1,h3,h2,h⟩
theorem QQ{l:Addr}{xs:List V}{i:Int}{v:V}(h1:SqL K H l xs)(h2:atI xs i=some v)(h:Q v H):rIxL K (.ref l) (.int i) H Q:=⟨l,xs,i,v,rfl,rfl,h1,h2,h⟩
theorem Qr{l:Addr}{xs:List V}{i:Int}{v:V}(h1:SqT K H l xs)(h2:atI xs i=some v)(h:Q v H):rIxT K (.ref l) (.int i) H Q:=⟨l,xs,i,v,rfl,rfl,h1,h2,h⟩
theorem jt(h:∀p,H p=none->Q (.ref p) (upd H p (.dT []))):tDNewT σ H Q:=h
theorem rd_dnewK(h:∀p,H p=none->Q (.ref p) (upd H p (.dK []))):tDNewK σ H Q:=h
end
theorem Same.make{H H1:Hp}{x dx C:Addr}(nx:H x=Option.none)(nd:H dx=Option.none)(k:Ext x (upd (upd H dx (.own x)) x (.ins C dx [])) H1):Same H H1:=Same.made nx nd k
end L2
namespace L2
theorem Ze{p:PySem.Addr}{H:Hp}{o:HO}{R:Prop}(hp:H p=none)(k:∀H1,upd H p o=H1->H1 p=some o->Same H H1->R):R:=k _ rfl zJ (ZU hp)
theorem ZI{p:PySem.Addr}{H:Hp}{o:HO}{R:Prop}(k:∀H1,upd H p o=H1->H1 p=some o->Ext p H H1->R):R:=k _ rfl zJ j2
end L2
namespace L2
section
variable{H:Hp}{D:Ends}
theorem zCJ{a0 a1:Option V}{r:St}{v:V}{N:St->Hp->Prop}(h:N (a0::some v::r) H):gName 1 v (a0::a1::r) H N:=h
theorem zCc{a0 a1 a2:Option V}{r:St}{v:V}{N:St->Hp->Prop}(h:N (a0::a1::some v::r) H):gName 2 v (a0::a1::a2::r) H N:=h
theorem zCb{a0 a1 a2 a3:Option V}{r:St}{v:V}{N:St->Hp->Prop}(h:N (a0::a1::a2::some v::r) H):gName 3 v (a0::a1::a2::a3::r) H N:=h
theorem rd_a3{a0 a1 a2:Option V}{r:St}{x:V}{te:TE}{ti:TIp}(h:te (a0::a1::a2::some x::r) H fun y H1=>ti x y H1 fun z H2=>D.nx (a0::a1::a2::some z::r) H2):tAug 3 te ti D (a0::a1::a2::some x::r) H:=⟨x,rfl,h⟩
theorem rd_n4{a0 a1 a2 a3 a4:Option V}{r:St}{v:V}{N:St->Hp->Prop}(h:N (a0::a1::a2::a3::some v::r) H):gName 4 v (a0::a1::a2::a3::a4::r) H N:=h
theorem zCI{a0 a1 a2 a3 a4 a5:Option V}{r:St}{v:V}{N:St->Hp->Prop}(h:N (a0::a1::a2::a3::a4::some v::r) H):gName 5 v (a0::a1::a2::a3::a4::a5::r) H N:=h
theorem rd_a5{a0 a1 a2 a3 a4:Option V}{r:St}{x:V}{te:TE}{ti:TIp}(h:te (a0::a1::a2::a3::a4::some x::r) H fun y H1=>ti x y H1 fun z H2=>D.nx (a0::a1::a2::a3::a4::some z::r) H2):tAug 5 te ti D (a0::a1::a2::a3::a4::some x::r) H:=⟨x,rfl,h⟩
theorem zCH{a0 a1 a2 a3 a4 a5 a6:Option V}{r:St}{v:V}{N:St->Hp->Prop}(h:N (a0::a1::a2::a3::a4::a5::some v::r) H):gName 6 v (a0::a1::a2::a3::a4::a5::a6::r) H N:=h
theorem rd_n7{a0 a1 a2 a3 a4 a5 a6 a7:Option V}{r:St}{v:V}{N:St->Hp->Prop}(h:N (a0::a1::a2::a3::a4::a5::a6::some v::r) H):gName 7 v (a0::a1::a2::a3::a4::a5::a6::a7::r) H N:=h
theorem rd_n8{a0 a1 a2 a3 a4 a5 a6 a7 a8:Option V}{r:St}{v:V}{N:St->Hp->Prop}(h:N (a0::a1::a2::a3::a4::a5::a6::a7::some v::r) H):gName 8 v (a0::a1::a2::a3::a4::a5::a6::a7::a8::r) H N:=h
theorem rd_n9{a0 a1 a2 a3 a4 a5 a6 a7 a8 a9:Option V}{r:St}{v:V}{N:St->Hp->Prop}(h:N (a0::a1::a2::a3::a4::a5::a6::a7::a8::some v::r) H):gName 9 v (a0::a1::a2::a3::a4::a5::a6::a7::a8::a9::r) H N:=h
theorem rd_n10{a0 a1 a2 a3 a4 a5 a6 a7 a8 a9 a10:Option V}{r:St}{v:V}{N:St->Hp->Prop}(h:N (a0::a1::a2::a3::a4::a5::a6::a7::a8::a9::some v::r) H):gName 10 v (a0::a1::a2::a3::a4::a5::a6::a7::a8::a9::a10::r) H N:=h
theorem rd_a10{a0 a1 a2 a3 a4 a5 a6 a7 a8 a9:Option V}{r:St}{x:V}{te:TE}{ti:TIp}(h:te (a0::a1::a2::a3::a4::a5::a6::a7::a8::a9::some x::r) H fun y H1=>ti x y H1 fun z H2=>D.nx (a0::a1::a2::a3::a4::a5::a6::a7::a8::a9::some z::r) H2):tAug 10 te ti D (a0::a1::a2::a3::a4::a5::a6::a7::a8::a9::some x::r) H:=⟨x,rfl,h⟩
end
end L2
namespace L2
open PySem PySem.Spec PyProof.Rows
section
variable{σ:St}{H:Hp}{Q:VK}{D:Ends}{K:PySem.W.Frag}
def forW(g:TG)(tb:TS)(D:Ends)(σ:St)(J:It)(H1:Hp):Prop:=∃W:Nat->Nat->St->Hp->Prop,(∃m,W 0 m σ H1)/\∀i m σ H,W i m σ H->
  (J.stop i H/\D.nx σ H)\/(J.go i H/\∃N:St->Hp->Prop,(∀σ' H',N σ' H'->∃m',m'<m/\W (i+1) m' σ' H')/\∀x H',J.yld i H x H'->g x σ H' fun σ2 H2=>tb { D with nx:=N,ct:=N,bk:=D.nx } σ2 H2)
theorem rd_for{wi:TI}{g:TG}{tb:TS}(h:wi σ H (forW g tb D σ)):tFor wi g tb D σ H:=h
def iTup1(K:PySem.W.Frag)(R:It->Hp->Prop)(x:V)(H1:Hp):Prop:=∃a,x=.ref a/\(∃xs,SqT K H1 a xs)/\R (Itt K a) H1
theorem rd_iTup{te:TE}{R:It->Hp->Prop}(h:te σ H (iTup1 K R)):iTup K te σ H R:=h
theorem rd_iTup1{a:Addr}{xs:List V}{R:It->Hp->Prop}(h1:SqT K H a xs)(h:R (Itt K a) H):iTup1 K R (.ref a) H:=⟨a,rfl,⟨xs,h1⟩,h⟩
def iList1(K:PySem.W.Frag)(R:It->Hp->Prop)(x:V)(H1:Hp):Prop:=∃a,x=.ref a/\(∃xs,SqL K H1 a xs)/\R (Itl K a) H1
theorem rd_iList{te:TE}{R:It->Hp->Prop}(h:te σ H (iList1 K R)):iList K te σ H R:=h
theorem zq{a:Addr}{xs:List V}{R:It->Hp->Prop}(h1:SqL K H a xs)(h:R (Itl K a) H):iList1 K R (.ref a) H:=⟨a,rfl,⟨xs,h1⟩,h⟩
def iRng21(R:It->Hp->Prop)(vs:List V)(H1:Hp):Prop:=∃i j:Int,vs=[.int i,.int j]/\(-(2^62)<=i/\i<2^62 /\ -(2^62)<=j/\j<2^62)/\R (Itr i (j - i).toNat) H1
theorem rd_iRng2{ta:TA}{R:It->Hp->Prop}(h:ta σ H (iRng21 R)):iRng2 ta σ H R:=h
theorem QW{i j:Int}{R:It->Hp->Prop}(h1 : -(2^62)<=i/\i<2^62 /\ -(2^62)<=j/\j<2^62)(h:R (Itr i (j - i).toNat) H):iRng21 R [.int i,.int j] H:=⟨i,j,rfl,h1,h⟩
def iRng11(R:It->Hp->Prop)(vs:List V)(H1:Hp):Prop:=∃j:Int,vs=[.int j] /\ -(2^62)<=j/\j<2^62/\R (Itr 0 j.toNat) H1
theorem rd_iRng1{ta:TA}{R:It->Hp->Prop}(h:ta σ H (iRng11 R)):iRng1 ta σ H R:=h
theorem JE{j:Int}{R:It->Hp->Prop}(h1 : -(2^62)<=j/\j<2^62)(h:R (Itr 0 j.toNat) H):iRng11 R [.int j] H:=⟨j,rfl,h1.1,h1.2,h⟩
theorem fw_tup{a:Addr}{xs:List V}{g:TG}{tb:TS}(Pv:Nat->St->Hp->Prop)(h0:Pv 0 σ H)(hl:∀i σ H,i<=xs.length->Pv i σ H->SqT K H a xs)
    (hs:∀i x σ H,xs[i]?=some x->Pv i σ H->g x σ H (tb { D with nx:=Pv (i+1),ct:=Pv (i+1),bk:=D.nx })) (hd:∀σ H,Pv xs.length σ H->D.nx σ H):forW g tb D σ (Itt K a) H:=for_tup Pv h0 hl hs hd
theorem qi{a:Addr}{xs:List V}{g:TG}{tb:TS}(Pv:Nat->St->Hp->Prop)(h0:Pv 0 σ H)(hl:∀i σ H,i<=xs.length->Pv i σ H->SqL K H a xs)
    (hs:∀i x σ H,xs[i]?=some x->Pv i σ H->g x σ H (tb { D with nx:=Pv (i+1),ct:=Pv (i+1),bk:=D.nx })) (hd:∀σ H,Pv xs.length σ H->D.nx σ H):forW g tb D σ (Itl K a) H:=for_list Pv h0 hl hs hd
theorem QB{lo:Int}{n:Nat}{g:TG}{tb:TS}(Pv:Nat->St->Hp->Prop)(h0:Pv 0 σ H)
    (hs:∀i σ H,i<n->Pv i σ H->g (.int (lo+i)) σ H (tb { D with nx:=Pv (i+1),ct:=Pv (i+1),bk:=D.nx })) (hd:∀σ H,Pv n σ H->D.nx σ H):forW g tb D σ (Itr lo n) H:=for_range Pv h0 hs hd
end
end L2
namespace L2
open PySem PySem.Spec PyProof.Rows
theorem beqI(i j:Int):(i==j)=decide (i=j):=Bool.eq_iff_iff.mpr (by simp)
section
variable{σ:St}{H:Hp}{Q:VK}{D:Ends}{K:PySem.W.Frag}
def lcPut(D:Addr)(N:Hp->Prop):VK:=fun y H4=>∃acc,H4 D=some (.lst acc)/\acc.length<sizeLine/\N (upd H4 D (.lst (acc++[y])))
theorem qS{D:Addr}{N:Hp->Prop}{y:V}{acc:List V}(h1:H D=some (.lst acc))(h2:acc.length<sizeLine)(h:N (upd H D (.lst (acc++[y])))):lcPut D N y H:=⟨acc,h1,h2,h⟩
def lcW (g : TG) (tt : TT) (te : TE) (vs : List Nat) (σ : St) (Q : VK) (J : It) (H1 : Hp) : Prop := ∀ D, H1 D = none → ∃ W : Nat → Nat → Hp → Prop, (∃ m, W 0 m (upd H1 D (.lst []))) ∧ ∀ i m H, W i m H →
  (J.stop i H/\Q (.ref D) H)\/(J.go i H/\∃Nx:Hp->Prop,(∀H',Nx H'->∃m',m'<m/\W (i+1) m' H')/\∀x H',J.yld i H x H'->g x (wipe σ vs) H' fun σ2 H2=>wipe σ2 vs=wipe σ vs/\tt σ2 H2 fun b H3=>
    if b=true then te σ2 H3 fun y H4=>∃acc,H4 D=some (.lst acc)/\acc.length<sizeLine/\Nx (upd H4 D (.lst (acc++[y]))) else Nx H3)
theorem rd_lc{wi:TI}{g:TG}{tt:TT}{te:TE}{vs:List Nat}(h:wi σ H (lcW g tt te vs σ Q)):tLc wi g tt te vs σ H Q:=h
theorem Qz{a:Addr}{xs:List V}{g:TG}{tt:TT}{te:TE}{vs:List Nat}{σ0:St}(e:wipe σ vs=σ0)(Pv:Addr->Nat->Hp->Prop)
    (h:∀D,H D=none->Pv D 0 (upd H D (.lst []))/\(∀i H',Pv D i H'->SqL K H' a xs)/\(∀i x H',xs[i]?=some x->Pv D i H'->g x σ0 H' fun σ2 H2=>wipe σ2 vs=σ0/\tt σ2 H2 fun b H3=>if b=true then te σ2 H3 (lcPut D (Pv D (i+1))) else Pv D (i+1) H3)/\
      ∀H',Pv D xs.length H'->Q (.ref D) H'):lcW g tt te vs σ Q (Itl K a) H:=fun D hD=>by
  subst e
  obtain⟨h1,h2,h3,h4⟩:=h D hD
  exact lc_list (K:=K) (a:=a) (xs:=xs) (Pv D) h1 (fun i H' _ p=>h2 i H' p) h3 h4
theorem lw_range{lo:Int}{n:Nat}{g:TG}{tt:TT}{te:TE}{vs:List Nat}{σ0:St}(e:wipe σ vs=σ0)(Pv:Addr->Nat->Hp->Prop)
    (h:∀D,H D=none->Pv D 0 (upd H D (.lst []))/\(∀i H',i<n->Pv D i H'->g (.int (lo+i)) σ0 H' fun σ2 H2=>wipe σ2 vs=σ0/\tt σ2 H2 fun b H3=>if b=true then te σ2 H3 (lcPut D (Pv D (i+1))) else Pv D (i+1) H3)/\
      ∀H',Pv D n H'->Q (.ref D) H'):lcW g tt te vs σ Q (Itr lo n) H:=fun D hD=>by
  subst e
  obtain⟨h1,h3,h4⟩:=h D hD
  exact lc_range (lo:=lo) (n:=n) (Pv D) h1 h3 h4
theorem rd_yes{R:Bool->Hp->Prop}(h:R true H):tYes σ H R:=h
theorem rd_in{x:V}{p:Addr}{xs:List V}(h1:SqT K H p xs)(h2:flatV x=true)(h3:xs.all flatV=true)(h:Q (.bl (inV x xs)) H):rIn K false x (.ref p) H Q:=⟨p,xs,rfl,.inr h1,h2,h3,h⟩
theorem zCG{x:V}{p:Addr}{xs:List V}(h1:SqT K H p xs)(h2:flatV x=true)(h3:xs.all flatV=true)(h:Q (.bl (!inV x xs)) H):rIn K true x (.ref p) H Q:=⟨p,xs,rfl,.inr h1,h2,h3,h⟩
theorem rd_ninL{x:V}{p:Addr}{xs:List V}(h1:SqL K H p xs)(h2:flatV x=true)(h3:xs.all flatV=true)(h:Q (.bl (!inV x xs)) H):rIn K true x (.ref p) H Q:=⟨p,xs,rfl,.inl h1,h2,h3,h⟩
theorem rd_isN0(h:Q (.bl true) H):(fun x y H Q=>y=V.non/\Q (.bl (decide (x=V.non))) H:R2) V.non V.non H Q:=⟨rfl,by simpa using h⟩
theorem rd_isN1{p:Addr}(h:Q (.bl false) H):(fun x y H Q=>y=V.non/\Q (.bl (decide (x=V.non))) H:R2) (.ref p) V.non H Q:=⟨rfl,by simpa using h⟩
theorem rd_notN0(h:Q (.bl false) H):(fun x y H Q=>y=V.non/\Q (.bl (!decide (x=V.non))) H:R2) V.non V.non H Q:=⟨rfl,by simpa using h⟩
theorem rd_notN1{p:Addr}(h:Q (.bl true) H):(fun x y H Q=>y=V.non/\Q (.bl (!decide (x=V.non))) H:R2) (.ref p) V.non H Q:=⟨rfl,by simpa using h⟩
theorem rd_eqI{i j:Int}(h:Q (.bl (decide (i=j))) H):rEq (.int i) (.int j) H Q:=⟨rfl,by rw[Jd,beqI];exact h⟩
theorem rd_neI{i j:Int}(h:Q (.bl (!decide (i=j))) H):rNe (.int i) (.int j) H Q:=⟨rfl,by rw[Jd,beqI];exact h⟩
theorem rd_iT{p q:Prop}{d:Decidable (true=true)}(h:p):@ite Prop (true=true) d p q:=by rw[if_pos rfl];exact h
theorem rd_iF{p q:Prop}{d:Decidable (false=true)}(h:q):@ite Prop (false=true) d p q:=by rw[if_neg Bool.false_ne_true];exact h
end
section
variable{H:Hp}{Q:VK}
def mx2(Q:VK):List V->Hp->Prop:=fun xs H=>∃i j,xs=[V.int i,V.int j]/\Q (.int (if j>i then j else i)) H
def mn2(Q:VK):List V->Hp->Prop:=fun xs H=>∃i j,xs=[V.int i,V.int j]/\Q (.int (if j<i then j else i)) H
def ab1(Q:VK):List V->Hp->Prop:=fun xs H=>∃i,xs=[V.int i]/\Q (.int (if i<0 then -i else i)) H
theorem rd_cbMax{σ:St}{t:TA}(h:t σ H (mx2 Q)):tCB (fun xs H Q=>∃i j,xs=[V.int i,V.int j]/\Q (V.int (if j>i then j else i)) H) t σ H Q:=h
theorem rd_cbMin{σ:St}{t:TA}(h:t σ H (mn2 Q)):tCB (fun xs H Q=>∃i j,xs=[V.int i,V.int j]/\Q (V.int (if j<i then j else i)) H) t σ H Q:=h
theorem rd_cbAbs{σ:St}{t:TA}(h:t σ H (ab1 Q)):tCB (fun xs H Q=>∃i,xs=[V.int i]/\Q (V.int (if i<0 then -i else i)) H) t σ H Q:=h
theorem rd_max2{i j:Int}(h:Q (.int (max i j)) H):mx2 Q [.int i,.int j] H:=⟨i,j,rfl,by
  have:(if j>i then j else i)=max i j:=by split<;>omega
  rw[this];exact h⟩
theorem rd_min2{i j:Int}(h:Q (.int (min i j)) H):mn2 Q [.int i,.int j] H:=⟨i,j,rfl,by
  have:(if j<i then j else i)=min i j:=by split<;>omega
  rw[this];exact h⟩
theorem rd_abs{i:Int}(h:Q (.int (max i (-i))) H):ab1 Q [.int i] H:=⟨i,rfl,by
  have:(if i<0 then -i else i)=max i (-i):=by split<;>omega
  rw[this];exact h⟩
end
theorem inV2{a b c:Int}:inV (.int a) [.int b,.int c]=(decide (b=a)||decide (c=a)):=by simp[inV,eqV,beqI]
theorem inV4{a b c d e:Int}:inV (.int a) [.int b,.int c,.int d,.int e]=(decide (b=a)||(decide (c=a)||(decide (d=a)||decide (e=a)))):=by simp[inV,eqV,beqI]
end L2
namespace L2
open PySem PySem.Spec PyProof.Rows
section
variable{σ:St}{H:Hp}{Q:VK}{D:Ends}{K:PySem.W.Frag}{td ty tx:TE}
def dg2b(Q:VK)(a:Addr)(y:V):VK:=fun z H3=>∃o,DGet H3 a y o/\Q (o.getD z) H3
def dg2(ty tx:TE)(σ:St)(Q:VK):VK:=fun x H1=>∃a,x=.ref a/\IsD H1 a/\ty σ H1 fun y H2=>tx σ H2 (dg2b Q a y)
theorem rd_dget2(h:td σ H (dg2 ty tx σ Q)):tDGet2 td ty tx σ H Q:=h
theorem rd_dget2a{a:Addr}{kvs:List (List Key×V)}(h1:H a=some (.dT kvs))(h:ty σ H fun y H2=>tx σ H2 (dg2b Q a y)):dg2 ty tx σ Q (.ref a) H:=⟨a,rfl,.inr ⟨kvs,.inl h1⟩,h⟩
theorem zAT{a:Addr}{y z:V}{o:Option V}(h1:DGet H a y o)(h:Q (o.getD z) H):dg2b Q a y z H:=⟨o,h1,h⟩
def dp2b(Q:VK)(a:Addr)(y:V):VK:=fun z H3=>∃kvs k b,H3 a=some (.dT kvs)/\y=.ref b/\H3 b=some (.tup (k.map kV))/\(∀v,valV kvs k=some v->Q v (upd H3 a (.dT (dropK kvs k))))/\(valV kvs k=none->Q z H3)
def dp2(ty tx:TE)(σ:St)(Q:VK):VK:=fun x H1=>∃a,x=.ref a/\IsD H1 a/\ty σ H1 fun y H2=>tx σ H2 (dp2b Q a y)
theorem rd_dpop2(h:td σ H (dp2 ty tx σ Q)):tDPop2T td ty tx σ H Q:=h
theorem rd_dpop2a{a:Addr}{kvs:List (List Key×V)}(h1:H a=some (.dT kvs))(h:ty σ H fun y H2=>tx σ H2 (dp2b Q a y)):dp2 ty tx σ Q (.ref a) H:=⟨a,rfl,.inr ⟨kvs,.inl h1⟩,h⟩
theorem zAR{a b:Addr}{kvs:List (List Key×V)}{k:List Key}{z:V}(h1:H a=some (.dT kvs))(h2:H b=some (.tup (k.map kV)))(h3:∀v,valV kvs k=some v->Q v (upd H a (.dT (dropK kvs k))))(h4:valV kvs k=none->Q z H):dp2b Q a (.ref b) z H:=⟨kvs,k,b,h1,rfl,h2,h3,h4⟩
def dp1b(Q:VK)(a:Addr):VK:=fun y H2=>∃kvs k b v,H2 a=some (.dT kvs)/\y=.ref b/\H2 b=some (.tup (k.map kV))/\valV kvs k=some v/\Q v (upd H2 a (.dT (dropK kvs k)))
def dp1(ty:TE)(σ:St)(Q:VK):VK:=fun x H1=>∃a,x=.ref a/\IsD H1 a/\ty σ H1 (dp1b Q a)
theorem rd_dpop1(h:td σ H (dp1 ty σ Q)):tDPop1T td ty σ H Q:=h
theorem rd_dpop1a{a:Addr}{kvs:List (List Key×V)}(h1:H a=some (.dT kvs))(h:ty σ H (dp1b Q a)):dp1 ty σ Q (.ref a) H:=⟨a,rfl,.inr ⟨kvs,.inl h1⟩,h⟩
theorem zAS{a b:Addr}{kvs:List (List Key×V)}{k:List Key}{v:V}(h1:H a=some (.dT kvs))(h2:H b=some (.tup (k.map kV)))(h3:valV kvs k=some v)(h:Q v (upd H a (.dT (dropK kvs k)))):dp1b Q a (.ref b) H:=⟨kvs,k,b,v,h1,rfl,h2,h3,h⟩
def faug2(a C:Addr)(f:Str)(D:Ends)(σ:St):VK:=fun z H3=>∃dx' fs',H3 a=some (.ins C dx' fs')/\fs'.length<1000/\D.nx σ (upd H3 a (.ins C dx' (putF f z fs')))
def faug1(K:PySem.W.Frag)(tv:TE)(rd:V->V->Hp->VK->Prop)(f:Str)(D:Ends)(σ:St):VK:=fun x H1=>∃a C dx fs v,x=.ref a/\H1 a=some (.ins C dx fs)/\Cls K C/\NoAttr K C f/\fs.lookup f=some v/\tv σ H1 fun y H2=>rd v y H2 (faug2 a C f D σ)
theorem rd_faug{ta tv:TE}{rd:V->V->Hp->VK->Prop}{f:Str}(h:ta σ H (faug1 K tv rd f D σ)):sFldAug K ta tv rd f D σ H:=h
theorem rd_faug1{a C dx:Addr}{fs:List (Str×V)}{v:V}{tv:TE}{rd:V->V->Hp->VK->Prop}{f:Str}(h1:H a=some (.ins C dx fs))(h2:Cls K C)(h3:NoAttr K C f)(h4:fs.lookup f=some v)(h:tv σ H fun y H2=>rd v y H2 (faug2 a C f D σ)):faug1 K tv rd f D σ (.ref a) H:=⟨a,C,dx,fs,v,rfl,h1,h2,h3,h4,h⟩
theorem rd_faug2{a C dx:Addr}{fs:List (Str×V)}{z:V}{f:Str}(h1:H a=some (.ins C dx fs))(h2:fs.length<1000)(h:D.nx σ (upd H a (.ins C dx (putF f z fs)))):faug2 a C f D σ z H:=⟨dx,fs,h1,h2,h⟩
theorem rd_addI{i j:Int}(h:Q (.int (i+j)) H):rAdd (.int i) (.int j) H Q:=⟨i,j,rfl,rfl,h⟩
theorem rd_iNF{p q:Prop}{d:Decidable ((!false)=true)}(h:p):@ite Prop ((!false)=true) d p q:=by rw[if_pos (show(!false)=true from rfl)];exact h
def part1(Q:Option Int->Hp->Prop):VK:=fun x H1=>∃i,x=.int i/\Q (some i) H1
theorem rd_part{t:TE}{Q:Option Int->Hp->Prop}(h:t σ H (part1 Q)):tPart t σ H Q:=h
theorem rd_part1{i:Int}{Q:Option Int->Hp->Prop}(h:Q (some i) H):part1 Q (.int i) H:=⟨i,rfl,h⟩
theorem rd_sl{r:V->Option Int->Option Int->Hp->VK->Prop}{te:TE}{tl th:TO}(h:te σ H fun x H1=>tl σ H1 fun l H2=>th σ H2 fun u H3=>r x l u H3 Q):tSl r te tl th σ H Q:=h
def cv1(S:Addr->Sp->Prop)(t:TA)(σ:St)(Q:VK):VK:=fun x H1=>∃f sp,x=.ref f/\S f sp/\t σ H1 fun vs H2=>sp vs H2 Q E0
theorem rd_cv{S:Addr->Sp->Prop}{tf:TE}{t:TA}(h:tf σ H (cv1 S t σ Q)):tCallV S tf t σ H Q:=h
theorem rd_cv1{S:Addr->Sp->Prop}{t:TA}{f:Addr}{sp:Sp}(h1:S f sp)(h:t σ H fun vs H2=>sp vs H2 Q E0):cv1 S t σ Q (.ref f) H:=⟨f,sp,rfl,h1,h⟩
end
end L2
section
namespace L2
open PySem PySem.Spec PyProof.Rows
open PySem.W (WData Codec OpenSpec Well WellAll ReadsW ReadsAllW)
mutual
inductive Dw(K:PySem.W.Frag)(H:Hp):V->WData->Prop
  |non:Dw K H .non .none
  |bl (b:Bool):Dw K H (.bl b) (.bool b)
  |int (i:Int):Dw K H (.int i) (.int i)
  |str (x:Str):Dw K H (.str x) (.str x)
  |byt (b:Array UInt8):Dw K H (.byt b) (.bytes b.toList)
  |lst {a:Addr} {xs:List V} {ds:List WData}:SqL K H a xs->DwAll K H xs ds->Dw K H (.ref a) (.list ds)
  |tup {a:Addr} {xs:List V} {ds:List WData}:SqT K H a xs->DwAll K H xs ds->Dw K H (.ref a) (.tuple ds)
inductive DwAll(K:PySem.W.Frag)(H:Hp):List V->List WData->Prop
  |nil:DwAll K H [] []
  |cons {v:V} {vs:List V} {d:WData} {ds:List WData}:Dw K H v d->DwAll K H vs ds->DwAll K H (v::vs) (d::ds)
end
theorem zBv{K:PySem.W.Frag}{H:Hp}:∀ns:List Int,DwAll K H (ns.map V.int) (ns.map WData.int)
  |[]=>.nil
  |n::r=>.cons (.int n) (zBv r)
theorem zBt{K:PySem.W.Frag}{H:Hp}:∀(ns:List Int) (xs:List V),DwAll K H xs (ns.map WData.int)->xs=ns.map V.int
  | [], xs, h => by
    cases h
    rfl
  | n :: r, xs, h => by
    cases h with
    | cons h1 h2 =>
      cases h1
      rw[zBt r _ h2]<;>rfl
section
variable{P:Program}{w:World}{K:PySem.W.Frag}{H:Hp}{h:Heap}{R:PySem.W.WRecords}{cl:Str->Option Addr}
theorem sqL_at{a:Addr}{xs:List V}(hok:HOk P w H h)(KX:K.In h)(q:SqL K H a xs):∃(its:List Value) (o:Obj) (n:Nat),Vals xs its/\h.get? a=some o/\o.cls=.type "list"/\o.data=.seq its.toArray n:=by
  rcases q with q|⟨o,its,n,e,hc,_,hd,_,hv⟩
  . obtain⟨_,its,n,hv,e⟩:=(show ObjOk P w H h a (.lst xs) from q.ok hok)
    exact⟨its,_,n,hv,e,rfl,rfl⟩
  . exact⟨its.toList,o,n,hv,KX _ _ e,hc,by simp[hd]⟩
theorem sqT_at{a:Addr}{xs:List V}(hok:HOk P w H h)(KX:K.In h)(q:SqT K H a xs):∃(its:List Value) (o:Obj) (n:Nat),Vals xs its/\h.get? a=some o/\o.cls=.type "tuple"/\o.data=.seq its.toArray n:=by
  rcases q with q|⟨o,its,n,e,hc,hd,_,hv⟩
  . obtain⟨_,its,hv,o,e,hc,n,hd⟩:=(show ObjOk P w H h a (.tup xs) from q.ok hok)
    exact⟨its,o,n,hv,e,hc,hd⟩
  . exact⟨its.toList,o,n,hv,KX _ _ e,hc,by simp[hd]⟩
mutual
theorem Dw.reads(hok:HOk P w H h)(KX:K.In h):∀(d:WData) (v:V) (u:Value),Dw K H v d->RelV v u->∃as,ReadsW R cl h u d as
  | .none, _, _, x, r => by
    cases x
    cases r
    exact⟨_,ReadsW.none⟩
  | .bool b, _, _, x, r => by
    cases x
    cases r
    exact⟨_,ReadsW.bool b⟩
  | .int i, _, _, x, r => by
    cases x
    obtain⟨t,rfl⟩:=r
    exact⟨_,ReadsW.int i t⟩
  | .str s, _, _, x, r => by
    cases x
    obtain⟨t,rfl⟩:=r
    exact⟨_,ReadsW.str s t⟩
  | .bytes b, _, _, x, r => by
    cases x
    obtain⟨t,rfl⟩:=r
    exact⟨_,ReadsW.bytes _ t⟩
  | .list ds, _, _, x, r => by
    cases x with
    | lst hs ha =>
      cases r
      obtain⟨its,o,n,rv,ho,hc,hd⟩:=sqL_at hok KX hs
      obtain⟨as,hr⟩:=Dw.readsAll hok KX ds _ its ha rv
      exact⟨_,ReadsW.list ho hc hd hr⟩
  | .tuple ds, _, _, x, r => by
    cases x with
    | tup hs ha =>
      cases r
      obtain⟨its,o,n,rv,ho,hc,hd⟩:=sqT_at hok KX hs
      obtain⟨as,hr⟩:=Dw.readsAll hok KX ds _ its ha rv
      exact⟨_,ReadsW.tuple ho hc hd hr⟩
  |.float _,_,_,x,_=>by cases x
  |.dict _,_,_,x,_=>by cases x
  |.bytearray _,_,_,x,_=>by cases x
  |.set _,_,_,x,_=>by cases x
  |.frozenset _,_,_,x,_=>by cases x
  |.obj _ _,_,_,x,_=>by cases x
theorem Dw.readsAll (hok : HOk P w H h) (KX : K.In h) : ∀ (ds : List WData) (vs : List V) (us : List Value), DwAll K H vs ds → Vals vs us → ∃ as, ReadsAllW R cl h us ds as
  | [], _, _, x, r => by
    cases x
    cases r
    exact⟨_,ReadsAllW.nil⟩
  | d :: ds, _, _, x, r => by
    cases x with
    | cons h1 h2 =>
      cases r with
      | cons r1 r2 =>
        obtain⟨as,q1⟩:=Dw.reads hok KX d _ _ h1 r1
        obtain⟨bs,q2⟩:=Dw.readsAll hok KX ds _ _ h2 r2
        exact⟨_,ReadsAllW.cons q1 q2⟩
end
end
mutual
def plW:WData->Bool
  |.none=>true
  |.bool _=>true
  |.int _=>true
  |.str _=>true
  |.bytes _=>true
  |.list xs=>plWs xs
  |.tuple xs=>plWs xs
  |_=>false
def plWs:List WData->Bool
  |[]=>true
  |x::r=>plW x&&plWs r
end
theorem zBJ{α:Type}{f:α->WData}(h:∀a,plW (f a)=true):∀l:List α,plWs (l.map f)=true
  |[]=>rfl
  | x :: r => by
    show(plW (f x)&&plWs (r.map f))=true
    rw[h x,zBJ h r]<;>rfl
theorem jA:∀(c:Codec) (a:c.denote),plW (c.enc a)=true
  |.unit,_=>rfl
  |.bool,_=>rfl
  |.int _ _,_=>rfl
  |.nat _ _,_=>rfl
  |.u8,_=>rfl
  |.bytes _ _,_=>rfl
  |.text _ _ _ _,_=>rfl
  |.list _ _ c,a=>zBJ (fun x=>jA c x) a
  | .pair c d, a => by
    show(plW (c.enc a.1)&&(plW (d.enc a.2)&&true))=true
    rw[jA c a.1,jA d a.2]<;>rfl
  | .triple c d e, a => by
    show(plW (c.enc a.1)&&(plW (d.enc a.2.1)&&(plW (e.enc a.2.2)&&true)))=true
    rw[jA c a.1,jA d a.2.1,jA e a.2.2]<;>rfl
  |.option c,none=>rfl
  |.option c,some x=>jA c x
theorem zAU:∀(cs:List Codec) (a:Codec.denoteAll cs),plWs (Codec.encAll cs a)=true
  |[],_=>rfl
  | c :: cs, a => by
    show(plW (c.enc a.1)&&plWs (Codec.encAll cs a.2))=true
    rw[jA c a.1,zAU cs a.2]<;>rfl
theorem jY:∀{xs:List WData} {d:WData},d∈xs->d.weight<=WData.weightAll xs
  |[],d,h=>absurd h (by simp)
  | x :: r, d, h => by
    show d.weight<=x.weight+1+WData.weightAll r
    rcases List.mem_cons.mp h with e|m
    . rw[e]
      omega
    . have z:=jY m
      omega
def toV:Value->V
  |.none=>.non
  |.bool b=>.bl b
  |.int i _=>.int i
  |.str x _=>.str x
  |.bytes b _=>.byt b
  |.ref a=>.ref a
  |_=>.non
def OkU(A:List Addr):Value->Prop
  |.none=>True
  |.bool _=>True
  |.int _ _=>True
  |.str _ _=>True
  |.bytes _ _=>True
  |.ref a=>a∈A
  |_=>False
theorem OkU.mono{A B:List Addr}(h:∀a∈A,a∈B):∀{u:Value},OkU A u->OkU B u:=fun {u} x=>by
  cases u with
  |ref a=>exact h a x
  |none=>trivial
  |bool b=>trivial
  |int i t=>trivial
  |str s t=>trivial
  |bytes b t=>trivial
  |_=>exact False.elim x
theorem relV_toV{A:List Addr}{u:Value}(x:OkU A u):RelV (toV u) u:=by
  cases u with
  |ref a=>rfl
  |none=>rfl
  |bool b=>rfl
  |int i t=>exact⟨t,rfl⟩
  |str s t=>exact⟨t,rfl⟩
  |bytes b t=>exact⟨t,rfl⟩
  |_=>exact False.elim x
theorem QT{A:List Addr}:∀{vs:List Value},(∀u∈vs,OkU A u)->Vals (vs.map toV) vs
  |[],_=>.nil
  |u::r,h=>.cons (relV_toV (h u (List.mem_cons_self ..))) (QT fun x hx=>h x (List.mem_cons_of_mem _ hx))
def ArgOb(h:Heap)(A:List Addr)(a:Addr):Prop:=∃vs:List Value,vs.length<=sizeLine/\(∀u∈vs,OkU A u)/\
  (h.get? a=some { cls:=.type "list",data:=.seq vs.toArray }\/h.get? a=some { cls:=.type "tuple",data:=.seq vs.toArray })
theorem ArgOb.mono{h:Heap}{A B:List Addr}{a:Addr}(k:∀a∈A,a∈B)(x:ArgOb h A a):ArgOb h B a:=by
  obtain⟨vs,h1,h2,h3⟩:=x
  exact⟨vs,h1,fun u hu=>(h2 u hu).mono k,h3⟩
theorem QE{P:Params}{h:Heap}:∀{vs:List Value} {ds:List WData},WellAll P h vs ds->vs.length=ds.length
  |_,_,.nil=>rfl
  | _, _, .cons _ b => by
    show _+1=_+1
    rw[QE b]
theorem zAL{P:Params}{h:Heap}{v:Value}{ds:List WData}(x:Well P h v (.list ds)):∃(a:Addr) (vs:List Value),v=.ref a/\h.get? a=some { cls:=.type "list",data:=.seq vs.toArray }/\WellAll P h vs ds:=by
  cases x with
  |list ho hall=>exact⟨_,_,rfl,ho,hall⟩
theorem Jj{P:Params}{h:Heap}{v:Value}{ds:List WData}(x:Well P h v (.tuple ds)):∃(a:Addr) (vs:List Value),v=.ref a/\h.get? a=some { cls:=.type "tuple",data:=.seq vs.toArray }/\WellAll P h vs ds:=by
  cases x with
  |tuple ho hall=>exact⟨_,_,rfl,ho,hall⟩
theorem zAM{P:Params}{h:Heap}{us:List Value}{d:WData}{ds:List WData}(x:WellAll P h us (d::ds)):∃(v:Value) (vs:List Value),us=v::vs/\Well P h v d/\WellAll P h vs ds:=by
  cases x with
  |cons a b=>exact⟨_,_,rfl,a,b⟩
theorem zBs{n:Nat}(h:n<=1048576):n<=sizeLine:=Nat.le_trans h (by decide)
section
variable{P:Params}{h:Heap}
mutual
theorem area_one:∀(d:WData) (v:Value),Well P h v d->plW d=true->d.weight<=1048576->∃A:List Addr,OkU A v/\∀a∈A,ArgOb h A a
  | .none, _, x, _, _ => by
    cases x
    exact⟨[],trivial,fun a m=>absurd m (by simp)⟩
  | .bool b, _, x, _, _ => by
    cases x
    exact⟨[],trivial,fun a m=>absurd m (by simp)⟩
  | .int i, _, x, _, _ => by
    cases x
    exact⟨[],trivial,fun a m=>absurd m (by simp)⟩
  | .str s, _, x, _, _ => by
    cases x
    exact⟨[],trivial,fun a m=>absurd m (by simp)⟩
  | .bytes b, _, x, _, _ => by
    cases x
    exact⟨[],trivial,fun a m=>absurd m (by simp)⟩
  | .list ds, _, x, p, z => by
    obtain⟨a,vs,rfl,ho,hall⟩:=zAL x
    have z2:WData.weightAll ds<=1048576:=z
    obtain⟨A,h1,h2⟩:=area_all ds _ hall p fun d hd=>Nat.le_trans (jY hd) z2
    have k:∀b∈A,b∈a::A:=fun b hb=>List.mem_cons_of_mem _ hb
    refine⟨a::A,List.mem_cons_self ..,fun b hb=>?_⟩
    rcases List.mem_cons.mp hb with e|m
    . rw[e]
      exact⟨vs,zBs (by rw[QE hall];exact Nat.le_trans (PySem.W.length_le_weightAllW ds) z2),fun u hu=>(h1 u hu).mono k,.inl ho⟩
    . exact(h2 b m).mono k
  | .tuple ds, _, x, p, z => by
    obtain⟨a,vs,rfl,ho,hall⟩:=Jj x
    have z2:WData.weightAll ds<=1048576:=z
    obtain⟨A,h1,h2⟩:=area_all ds _ hall p fun d hd=>Nat.le_trans (jY hd) z2
    have k:∀b∈A,b∈a::A:=fun b hb=>List.mem_cons_of_mem _ hb
    refine⟨a::A,List.mem_cons_self ..,fun b hb=>?_⟩
    rcases List.mem_cons.mp hb with e|m
    . rw[e]
      exact⟨vs,zBs (by rw[QE hall];exact Nat.le_trans (PySem.W.length_le_weightAllW ds) z2),fun u hu=>(h1 u hu).mono k,.inr ho⟩
    . exact(h2 b m).mono k
  |.float _,_,_,p,_=>Bool.noConfusion (show false=true from p)
  |.dict _,_,_,p,_=>Bool.noConfusion (show false=true from p)
  |.bytearray _,_,_,p,_=>Bool.noConfusion (show false=true from p)
  |.set _,_,_,p,_=>Bool.noConfusion (show false=true from p)
  |.frozenset _,_,_,p,_=>Bool.noConfusion (show false=true from p)
  |.obj _ _,_,_,p,_=>Bool.noConfusion (show false=true from p)
theorem area_all : ∀ (ds : List WData) (vs : List Value), WellAll P h vs ds → plWs ds = true → (∀ d ∈ ds, d.weight ≤ 1048576) → ∃ A : List Addr, (∀ u ∈ vs, OkU A u) ∧ ∀ a ∈ A, ArgOb h A a
  | [], _, x, _, _ => by
    cases x
    exact⟨[],fun u m=>absurd m (by simp),fun a m=>absurd m (by simp)⟩
  | d :: ds, _, x, p, z => by
    obtain⟨v,vs,rfl,x1,x2⟩:=zAM x
    have q:plW d=true/\plWs ds=true:=Bool.and_eq_true_iff.mp p
    obtain⟨A,a1,a2⟩:=area_one d v x1 q.1 (z d (List.mem_cons_self ..))
    obtain⟨B,b1,b2⟩:=area_all ds vs x2 q.2 fun e he=>z e (List.mem_cons_of_mem _ he)
    have kA:∀b∈A,b∈A++B:=fun b hb=>List.mem_append.mpr (.inl hb)
    have kB:∀b∈B,b∈A++B:=fun b hb=>List.mem_append.mpr (.inr hb)
    refine⟨A++B,fun u hu=>?_,fun b hb=>?_⟩
    . rcases List.mem_cons.mp hu with e|m
      . rw[e]
        exact a1.mono kA
      . exact(b1 u m).mono kB
    . rcases List.mem_append.mp hb with m|m
      . exact(a2 b m).mono kA
      . exact(b2 b m).mono kB
end
end
def hoOf(o:Obj):Option HO:=match o.data with
  |.seq vs _=>if (o.cls==Value.type "list")=true then some (.frz o (.lst (vs.toList.map toV))) else some (.frz o (.tup (vs.toList.map toV)))
  |_=>none
def argH(K:PySem.W.Frag)(h:Heap)(A:List Addr):Hp:=fun b=>if b∈A then (if (K.lookup b).isNone=true then (h.get? b).bind hoOf else none) else none
def OnlyF(H:Hp):Prop:=∀b,H b=none\/∃o u,H b=some (.frz o u)
theorem zBS(vs:List Value):hoOf { cls:=.type "list",data:=.seq vs.toArray }=some (.frz { cls:=.type "list",data:=.seq vs.toArray } (.lst (vs.map toV))):=by
  show(if (Value.type "list"==Value.type "list")=true then some (HO.frz { cls:=.type "list",data:=.seq vs.toArray } (.lst (vs.toArray.toList.map toV))) else some (HO.frz { cls:=.type "list",data:=.seq vs.toArray } (.tup (vs.toArray.toList.map toV))))=_
  rw[if_pos (beq_self_eq_true _)]
theorem zBR(vs:List Value):hoOf { cls:=.type "tuple",data:=.seq vs.toArray }=some (.frz { cls:=.type "tuple",data:=.seq vs.toArray } (.tup (vs.map toV))):=by
  show(if (Value.type "tuple"==Value.type "list")=true then some (HO.frz { cls:=.type "tuple",data:=.seq vs.toArray } (.lst (vs.toArray.toList.map toV))) else some (HO.frz { cls:=.type "tuple",data:=.seq vs.toArray } (.tup (vs.toArray.toList.map toV))))=_
  rw[if_neg (by decide)]
section
variable{P:Program}{w:World}{K:PySem.W.Frag}{h:Heap}{A:List Addr}
theorem Jh{b:Addr}{o:Obj}(hb:b∈A)(hk:K.lookup b=none)(e:h.get? b=some o):argH K h A b=hoOf o:=by
  unfold argH
  rw[if_pos hb,hk,if_pos (show(none:Option Obj).isNone=true from rfl),e]<;>rfl
theorem of_argH{b:Addr}{u:HO}(q:argH K h A b=some u):b∈A/\K.lookup b=none:=by
  unfold argH at q
  by_cases hb:b∈A
  . rw[if_pos hb] at q
    cases hk:K.lookup b with
    |none=>exact⟨hb,rfl⟩
    | some o =>
      rw[hk,if_neg (by simp)] at q
      cases q
  . rw[if_neg hb] at q
    cases q
theorem Jg(ar:∀a∈A,ArgOb h A a){b:Addr}{u:HO}(q:argH K h A b=some u):K.lookup b=none/\∃vs:List Value,vs.length<=sizeLine/\(∀u∈vs,OkU A u)/\
    ((h.get? b=some { cls:=.type "list",data:=.seq vs.toArray }/\u=.frz { cls:=.type "list",data:=.seq vs.toArray } (.lst (vs.map toV)))\/
     (h.get? b=some { cls:=.type "tuple",data:=.seq vs.toArray }/\u=.frz { cls:=.type "tuple",data:=.seq vs.toArray } (.tup (vs.map toV)))):=by
  obtain⟨hb,hk⟩:=of_argH q
  obtain⟨vs,h1,h2,h3⟩:=ar b hb
  refine⟨hk,vs,h1,h2,?_⟩
  rcases h3 with e|e
  . rw[Jh hb hk e,zBS] at q
    exact .inl ⟨e,(Option.some.inj q).symm⟩
  . rw[Jh hb hk e,zBR] at q
    exact .inr ⟨e,(Option.some.inj q).symm⟩
theorem argH_only(ar:∀a∈A,ArgOb h A a):OnlyF (argH K h A):=fun b=>by
  cases q:argH K h A b with
  |none=>exact .inl rfl
  | some u =>
    obtain⟨_,vs,_,_,⟨_,e⟩|⟨_,e⟩⟩:=Jg ar q
    . exact .inr ⟨_,_,by rw[e]⟩
    . exact .inr ⟨_,_,by rw[e]⟩
theorem argH_ok(ar:∀a∈A,ArgOb h A a):HOk P w (argH K h A) h:=fun b u q=>by
  obtain⟨_,vs,h1,h2,⟨e,rfl⟩|⟨e,rfl⟩⟩:=Jg ar q
  . exact⟨e,by rw[List.length_map];exact h1,vs,_,QT h2,e⟩
  . exact⟨e,by rw[List.length_map];exact h1,vs,QT h2,_,e,rfl,_,rfl⟩
theorem JZ{c c':Value}{vs us:List Value}(e:(some { cls:=c,data:=.seq vs.toArray }:Option Obj)=some { cls:=c',data:=.seq us.toArray }):c=c'/\vs=us:=by
  have e1:=Option.some.inj e
  have e2:c=c':=congrArg Obj.cls e1
  have e3:Data.seq vs.toArray=Data.seq us.toArray:=congrArg Obj.data e1
  injection e3 with e4
  refine⟨e2,?_⟩
  have e5:=congrArg Array.toList e4
  simpa using e5
theorem argL(KX:K.In h)(ar:∀a∈A,ArgOb h A a){a:Addr}{vs:List Value}(ha:a∈A)(e:h.get? a=some { cls:=.type "list",data:=.seq vs.toArray }):(∀u∈vs,OkU A u)/\SqL K (argH K h A) a (vs.map toV):=by
  obtain⟨us,h1,h2,h3⟩:=ar a ha
  have hu:us=vs:=by
    rcases h3 with q|q
    . rw[e] at q
      exact(JZ q).2.symm
    . rw[e] at q
      exact absurd (Value.type.inj (JZ q).1) (by decide)
  subst hu
  refine⟨h2,?_⟩
  cases hk:K.lookup a with
  |none=>exact .inl (.inr ⟨_,by rw[Jh ha hk e,zBS]⟩)
  | some o =>
    have e2:=KX a o hk
    rw[e] at e2
    obtain rfl:=Option.some.inj e2
    exact .inr ⟨_,us.toArray,_,hk,rfl,rfl,rfl,by rw[List.size_toArray];exact h1,by simpa using QT h2⟩
theorem argT(KX:K.In h)(ar:∀a∈A,ArgOb h A a){a:Addr}{vs:List Value}(ha:a∈A)(e:h.get? a=some { cls:=.type "tuple",data:=.seq vs.toArray }):(∀u∈vs,OkU A u)/\SqT K (argH K h A) a (vs.map toV):=by
  obtain⟨us,h1,h2,h3⟩:=ar a ha
  have hu:us=vs:=by
    rcases h3 with q|q
    . rw[e] at q
      exact absurd (Value.type.inj (JZ q).1) (by decide)
    . rw[e] at q
      exact(JZ q).2.symm
  subst hu
  refine⟨h2,?_⟩
  cases hk:K.lookup a with
  |none=>exact .inl (.inr ⟨_,by rw[Jh ha hk e,zBR]⟩)
  | some o =>
    have e2:=KX a o hk
    rw[e] at e2
    obtain rfl:=Option.some.inj e2
    exact .inr ⟨_,us.toArray,_,hk,rfl,rfl,by rw[List.size_toArray];exact h1,by simpa using QT h2⟩
mutual
theorem dw_one{Pm:Params}(KX:K.In h)(ar:∀a∈A,ArgOb h A a):∀(d:WData) (v:Value),Well Pm h v d->plW d=true->OkU A v->Dw K (argH K h A) (toV v) d
  | .none, _, x, _, _ => by
    cases x
    exact .non
  | .bool b, _, x, _, _ => by
    cases x
    exact .bl b
  | .int i, _, x, _, _ => by
    cases x
    exact .int i
  | .str s, _, x, _, _ => by
    cases x
    exact .str s
  | .bytes b, _, x, _, _ => by
    cases x
    have z:=Dw.byt (K:=K) (H:=argH K h A) b.toArray
    exact z
  | .list ds, _, x, p, hu => by
    obtain⟨a,vs,rfl,ho,hall⟩:=zAL x
    obtain⟨h2,hs⟩:=argL KX ar hu ho
    exact .lst hs (zBE KX ar ds _ hall p h2)
  | .tuple ds, _, x, p, hu => by
    obtain⟨a,vs,rfl,ho,hall⟩:=Jj x
    obtain⟨h2,hs⟩:=argT KX ar hu ho
    exact .tup hs (zBE KX ar ds _ hall p h2)
  |.float _,_,_,p,_=>Bool.noConfusion (show false=true from p)
  |.dict _,_,_,p,_=>Bool.noConfusion (show false=true from p)
  |.bytearray _,_,_,p,_=>Bool.noConfusion (show false=true from p)
  |.set _,_,_,p,_=>Bool.noConfusion (show false=true from p)
  |.frozenset _,_,_,p,_=>Bool.noConfusion (show false=true from p)
  |.obj _ _,_,_,p,_=>Bool.noConfusion (show false=true from p)
theorem zBE{Pm:Params}(KX:K.In h)(ar:∀a∈A,ArgOb h A a):∀(ds:List WData) (vs:List Value),WellAll Pm h vs ds->plWs ds=true->(∀u∈vs,OkU A u)->DwAll K (argH K h A) (vs.map toV) ds
  | [], _, x, _, _ => by
    cases x
    exact .nil
  | d :: ds, _, x, p, hu => by
    obtain⟨v,vs,rfl,x1,x2⟩:=zAM x
    have q:plW d=true/\plWs ds=true:=Bool.and_eq_true_iff.mp p
    exact .cons (dw_one KX ar d v x1 q.1 (hu _ (List.mem_cons_self ..))) (zBE KX ar ds vs x2 q.2 fun u m=>hu u (List.mem_cons_of_mem _ m))
end
end
theorem spec_call {P : Program} {w : World} {K : PySem.W.Frag} {mg mb : Str → Option Value} {CX : CXT} {k : Nat} {fa : Addr} {fd : FuncData} {ps : List Str} {sp : Sp} {s₁ : Shared} {vals : List Value} {ds : List WData} {R : PySem.W.WRecords} {cl : Str → Option Addr} {d0 : WData}
    (KX:K.In s₁.heap) (hns:s₁.heap.Ns mainGlobals mg) (hb:s₁.heap.Ns builtinsNs mb) (hbb:∀x:Str,x≠"__name__"->mb x=bootBuiltins x) (hlim:s₁.heap.NoLimit) (hg:s₁.gens=#[])
    (hwl:WellAll w.params s₁.heap vals ds) (hpl:plWs ds=true) (hwt:∀d∈ds,d.weight<=1048576) (hr:Room k callerA)
    (F:∀base:Heap,K.In base->base.Ns mainGlobals mg->FnOk P w K mg base CX k fa fd ps sp) (hbind:∀(s:Shared) (us:List Value),us.length=ps.length->BindsTo s fd ⟨us,[]⟩ (ps.zip us)) (hlen:ds.length=ps.length)
    (hsp:∀(H:Hp) (xs:List V),OnlyF H->DwAll K H xs ds->sp xs H (fun v H'=>Dw K H' v d0) fun _ _ _=>False)
    (hCX:∀H e s',CX [] H s₁ (fun _ _ _=>False) e s'->False):
    codeAny (model P w) callerA (.call (.ref fa) ⟨vals,[]⟩) (fun r s'=>∃u as,r=.ok (.ret u)/\ReadsW R cl s'.heap u d0 as/\OldK s₁.heap s'.heap/\s'.os=s₁.os/\AllBare s'.gens) s₁:=by
  obtain⟨A,ho,ar⟩:=area_all ds vals hwl hpl hwt
  have hO:OnlyF (argH K s₁.heap A):=argH_only ar
  have hok:HOk P w (argH K s₁.heap A) s₁.heap:=argH_ok ar
  have hS:=zBE KX ar ds vals hwl hpl ho
  have hV:=QT ho
  have hK:∀b u,argH K s₁.heap A b=some u->K.lookup b=none:=fun b u q=>(Jg ar q).1
  have noA:∀{b:Addr} {o:Obj} {es:Array DictEntry} {ep:Nat},s₁.heap.get? b=some o->o.data=.dict es ep->argH K s₁.heap A b=none:=fun {b o es ep} e d=>by
    cases q:argH K s₁.heap A b with
    |none=>rfl
    | some u =>
      obtain⟨_,vs,_,_,⟨e2,_⟩|⟨e2,_⟩⟩:=Jg ar q
      . rw[e2] at e
        cases e
        have d':Data.seq vs.toArray _=Data.dict es ep:=d
        cases d'
      . rw[e2] at e
        cases e
        have d':Data.seq vs.toArray _=Data.dict es ep:=d
        cases d'
  generalize argH K s₁.heap A=H at hO hok hS hK noA
  have base_of:∀{b:Addr} {o:Obj},s₁.heap.get? b=some o->H b=none->(hidT s₁.heap H).get? b=some o:=fun e n=>hidT_get e n
  have nsK:∀{b:Addr} {m:Str->Option Value},s₁.heap.Ns b m->(hidT s₁.heap H).Ns b m:=fun {b m} ⟨o,es,ep,e,d,r⟩=>⟨o,es,ep,base_of e (noA e d),d,r⟩
  have nK:∀b o,K.lookup b=some o->H b=none:=fun b o e=>by
    cases q:H b with
    |none=>rfl
    | some u =>
      rw[hK b u q] at e
      cases e
  have hKb:K.In (hidT s₁.heap H):=fun b o e=>base_of (KX b o e) (nK b o e)
  have hM:Mod K mg (hidT s₁.heap H):=⟨hKb,nsK hns,⟨mb,nsK hb,hbb⟩,let ⟨mc,h1,h2⟩:=hlim;⟨mc,nsK h1,h2⟩⟩
  have e0:Env0 P w K mg (hidT s₁.heap H) callerA [] s₁ H:=⟨rfl,hM,fun b o e=>of_hidT e,Nat.le_of_eq (hidT_size _ _),trivial,fun b hb=>absurd (show b∈([]:List Addr) from hb) (by simp),hok,.of_eq hg⟩
  have hl:vals.length=ps.length:=by rw[QE hwl];exact hlen
  refine codeAny_mono ((F _ hKb (nsK hns)).run callerA [] s₁ H ⟨vals,[]⟩ vals (vals.map toV) _ _ hr e0 (hbind s₁ vals hl) hV (hsp H _ hO hS)) fun r s' x=>?_
  cases r with
  |error e=>exact(hCX H e s' x).elim
  | ok fl =>
    cases fl with
    |next=>exact False.elim x
    |brk=>exact False.elim x
    |cont=>exact False.elim x
    | ret u =>
      obtain⟨v,H',os,bare,un,hok',r',q⟩:=x
      have kept:∀b o,s₁.heap.get? b=some o->s'.heap.get? b=some o:=fun b o e=>by
        cases q2:H b with
        |none=>exact un.keep b o e q2 (by intro z;exact absurd (show b∈([]:List Addr) from z) (by simp)) (by simp)
        | some u2 =>
          rcases hO b with z|⟨ob,u3,z⟩
          . rw[q2] at z
            cases z
          . have z2:=un.frzs b ob _ z
            obtain⟨e1,_⟩:=hok b _ z
            obtain⟨e2,_⟩:=hok' b _ z2
            rw[e] at e1
            cases e1
            exact e2
      have KX':K.In s'.heap:=fun b o e=>kept b o (KX b o e)
      obtain⟨as,hrd⟩:=Dw.reads (R:=R) (cl:=cl) hok' KX' d0 v u q r'
      exact⟨u,as,rfl,hrd,OldK.of_keep kept,os,bare⟩
theorem layable_weight{ds:List WData}(h:WData.layableAll ds=true):∀d∈ds,d.weight<=1048576:=fun d hd=>
  (PySem.W.layableW_iff.mp (List.all_eq_true.mp h d hd)).2.2
theorem zAE:∀(cs:List Codec) (a:Codec.denoteAll cs),(Codec.encAll cs a).length=cs.length
  |[],_=>rfl
  | c :: cs, a => by
    show(Codec.encAll cs a.2).length+1=cs.length+1
    rw[zAE cs a.2]
theorem walk_spec {r : OpenSpec} {k : Nat} {q : Program} {loose : List Str} {XP : (Str → Option Value) → Heap → Prop} {YP : World → Heap → Prop} {d : DefRec} {K : Params → PySem.W.Frag} {CX : World → CXT} {ps : List Str} {sp : World → Sp}
    (hwell:r.wellSaid=true) (hdf:d.params.defaults=[]) (hlen:r.args.length=ps.length) (hr:Room k callerA)
    (hY:∀(w:World) (h:Heap),YP w h->(K w.params).In h)
    (F:∀(w:World) (mg:Str->Option Value) (fa:Addr) (h:Heap),YP w h->(K w.params).In h->h.Ns mainGlobals mg->mg d.name=some (.ref fa)->
      ∃ fd : FuncData, (∀ (s : Shared) (us : List Value), us.length = ps.length → BindsTo s fd ⟨us, []⟩ (ps.zip us)) ∧
        ∀base:Heap,(K w.params).In base->base.Ns mainGlobals mg->FnOk r.prog w (K w.params) mg base (CX w) k fa fd ps (sp w))
    (hsp:∀(w:World) (H:Hp) (xs:List V) (a:Codec.denoteAll r.args),OnlyF H->Codec.withinAll r.args a=true->Codec.app r.args r.asked a=true->DwAll (K w.params) H xs (Codec.encAll r.args a)->
      sp w xs H (fun v H'=>Dw (K w.params) H' v (r.ret.enc (Codec.app r.args r.f a))) fun _ _ _=>False)
    (hCX:∀(w:World) (H:Hp) (s:Shared) (e:Value) (s':Shared),CX w [] H s (fun _ _ _=>False) e s'->False):
    PySem.W.WalkOS q loose XP YP r d [] (fun f vs=>PySem.call f vs):=by
  intro w s_0 s₁ mg mb G Y fa o pm cd doc dV kV ho hd hcd hD hmg hg args vals as hpre hlay hrd hwl hlo
  obtain⟨a,e1,e2⟩:=PySem.W.os_pre_some hpre
  obtain⟨e3,hwi⟩:=Codec.encAll_of_decAll r.args args a e1
  subst e3
  have KX:=hY w _ Y
  obtain⟨fd,hb,hF⟩:=F w mg fa _ Y KX G.T.g hmg
  refine PySem.W.enter_call (codeAny_mono (spec_call (R:=[]) (cl:=classAt s_0.heap) (d0:=r.ret.enc (Codec.app r.args r.f a)) KX G.T.g G.T.b G.T.builtins G.T.nolimit hg hwl (zAU _ _) (layable_weight hlay) hr hF hb (by rw[zAE];exact hlen)
    (fun H xs hO hS=>hsp w H xs a hO hwi e2 hS) fun H e s'=>hCX w H s₁ e s') fun r' s' hq=>?_)
  obtain⟨u,as',rfl,h1,h2,h3,h4⟩:=hq
  exact⟨.inl ⟨u,_,as',rfl,fun _=>rfl,h1,(OpenSpec.post_iff hwell hwi _ _).mpr rfl,fun z=>Bool.noConfusion (show false=true from z)⟩,h2,h3,h4⟩
theorem walk_specK {r : OpenSpec} {k : Nat} {q : Program} {loose : List Str} {XP : (Str → Option Value) → Heap → Prop} {YP : World → Heap → Prop} {d : DefRec} {K : Params → PySem.W.Frag} {CX : CXT} {ps : List Str} {sp : PySem.W.Frag → Sp}
    (hwell:r.wellSaid=true) (hdf:d.params.defaults=[]) (hlen:r.args.length=ps.length) (hr:Room k callerA)
    (hY:∀(w:World) (h:Heap),YP w h->(K w.params).In h)
    (F:∀(w:World) (mg:Str->Option Value) (fa:Addr) (h:Heap),YP w h->(K w.params).In h->h.Ns mainGlobals mg->mg d.name=some (.ref fa)->
      ∃ fd : FuncData, (∀ (s : Shared) (us : List Value), us.length = ps.length → BindsTo s fd ⟨us, []⟩ (ps.zip us)) ∧
        ∀base:Heap,(K w.params).In base->base.Ns mainGlobals mg->FnOk r.prog w (K w.params) mg base CX k fa fd ps (sp (K w.params)))
    (hsp:∀(K:PySem.W.Frag) (H:Hp) (xs:List V) (a:Codec.denoteAll r.args),OnlyF H->Codec.withinAll r.args a=true->Codec.app r.args r.asked a=true->DwAll K H xs (Codec.encAll r.args a)->
      sp K xs H (fun v H'=>Dw K H' v (r.ret.enc (Codec.app r.args r.f a))) fun _ _ _=>False)
    (hCX:∀(H:Hp) (s:Shared) (e:Value) (s':Shared),CX [] H s (fun _ _ _=>False) e s'->False):
    PySem.W.WalkOS q loose XP YP r d [] (fun f vs=>PySem.call f vs):=
  walk_spec (K:=K) (CX:=fun _=>CX) (sp:=fun w=>sp (K w.params)) hwell hdf hlen hr hY F (fun w H xs a h1 h2 h3 h4=>hsp (K w.params) H xs a h1 h2 h3 h4) fun _ H s e s'=>hCX H s e s'
end L2
end
namespace Gm
open Vbwsan
theorem filter_range' (lo hi : Nat) : ∀ (n a : Nat), (List.range' a n).filter (fun x => decide (lo ≤ x ∧ x < hi)) = List.range' (max a lo) (min (a + n) hi - max a lo)
  | 0, a => by
    have:min (a+0) hi - max a lo=0:=by omega
    rw[this];rfl
  | n + 1, a => by
    rw[List.range'_succ,List.filter_cons,filter_range' lo hi n (a+1)]
    by_cases h:lo<=a/\a<hi
    . rw[if_pos (by simpa using h)]
      have e1:max a lo=a:=by omega
      have e2:max (a+1) lo=a+1:=by omega
      have e3:min (a+(n+1)) hi - max a lo=(min (a+1+n) hi - (a+1))+1:=by omega
      rw[e3,e2,e1,List.range'_succ]
    . rw[if_neg (by simpa using h)]
      by_cases h1:a<lo
      . have e1:max a lo=max (a+1) lo:=by omega
        have e2:a+(n+1)=a+1+n:=by omega
        rw[e1,e2]
      . have e2:min (a+(n+1)) hi - max a lo=0:=by omega
        have e3:min (a+1+n) hi - max (a+1) lo=0:=by omega
        rw[e2,e3];rfl
theorem zAD{α β:Type}(p:α->Bool)(f:α->List β):∀l:List α,(l.flatMap fun x=>if p x=true then f x else [])=(l.filter p).flatMap f
  |[]=>rfl
  | a :: l => by
    rw[List.flatMap_cons,List.filter_cons,zAD p f l]
    cases p a<;>simp
theorem j1{α β:Type}(p:α->Bool)(f:α->Option β):∀l:List α,(l.filterMap fun x=>if p x=true then f x else none)=(l.filter p).filterMap f
  |[]=>rfl
  | a :: l => by
    rw[List.filterMap_cons,List.filter_cons,j1 p f l]
    cases p a
    . simp
    . simp only[if_true,List.filterMap_cons]
theorem jD{α β:Type}(q:β->Bool)(f:α->List β):∀l:List α,(l.flatMap f).filter q=l.flatMap fun x=>(f x).filter q
  |[]=>rfl
  |a::l=>by rw[List.flatMap_cons,List.filter_append,jD q f l,List.flatMap_cons]
theorem Qe{α β:Type}(q:β->Bool)(f:α->Option β):∀l:List α,(l.filterMap f).filter q=l.filterMap fun x=>(f x).filter q
  |[]=>rfl
  | a :: l => by
    rw[List.filterMap_cons,List.filterMap_cons,<-Qe q f l]
    cases h:f a with
    |none=>simp
    | some b =>
      simp only[List.filter_cons,Option.filter_some]
      cases q b<;>simp
theorem Qs{β:Type}(f:Nat->Nat->β)(n:Nat)(hn:0<n):∀m:Nat,(List.range (n*m)).map (fun k=>f (k%n) (k / n))=(List.range m).flatMap fun b=>(List.range n).map fun a=>f a b
  |0=>by simp
  | m + 1 => by
    rw[Nat.mul_succ,List.range_add,List.map_append,Qs f n hn m,List.range_succ,List.flatMap_append]
    congr 1
    simp only[List.flatMap_cons,List.flatMap_nil,List.append_nil,List.map_map]
    refine List.map_congr_left fun a ha=>?_
    have ha:=List.mem_range.mp ha
    show f ((n*m+a)%n) ((n*m+a) / n)=f a m
    rw[Nat.mul_add_mod,Nat.mod_eq_of_lt ha,Nat.mul_add_div hn,Nat.div_eq_of_lt ha]
    rfl
def span(lo hi:Int)(n:Nat):List Nat:=List.range' (max lo 0).toNat (min (hi+1) n - max lo 0).toNat
theorem Zn{lo hi:Int}{n x:Nat}:x∈span lo hi n↔lo<=x/\(x:Int)<=hi/\x<n:=by
  unfold span
  rw[List.mem_range'_1]
  omega
theorem zCZ(lo hi:Int)(n:Nat):(min (hi+1) ↑n - max lo 0).toNat=min (max (hi+1) 0).toNat n - (max lo 0).toNat:=by
  have a:max lo 0=((max lo 0).toNat:Int):=by omega
  generalize (max lo 0).toNat=L at*
  rw[a]
  omega
theorem zBF{lo hi:Int}{n:Nat}:(span (lo - 4) (hi+4) n).filter (fun x:Nat=>decide (lo<=(x:Int)/\(x:Int)<=hi))=span lo hi n:=by
  unfold span
  have e:(fun x:Nat=>decide (lo<=(x:Int)/\(x:Int)<=hi))=fun x:Nat=>decide ((max lo 0).toNat<=x/\x<(max (hi+1) 0).toNat):=by
    funext x
    refine decide_eq_decide.mpr ?_
    omega
  rw[e,filter_range',zCZ,zCZ]
  have h1:(max (lo - 4) 0).toNat<=(max lo 0).toNat:=by omega
  have h2:(max (hi+1) 0).toNat<=(max (hi+4+1) 0).toNat:=by omega
  generalize (max (lo - 4) 0).toNat=A at*
  generalize (max lo 0).toNat=L at*
  generalize (max (hi+1) 0).toNat=U at*
  generalize (max (hi+4+1) 0).toNat=V at*
  rw[Nat.max_eq_right h1]
  have h3:min (A+(min V n - A)) U - L=min U n - L:=by omega
  rw[h3]
def candsIn(seed w d:Nat)(left top right bottom:Int):List House:=(span top bottom d).flatMap fun y=>(span left right w).filterMap fun x=>candidate seed w d x y
def housesIn(seed w d:Nat)(left top right bottom:Int):List House:=(span top bottom d).flatMap fun y=>(span left right w).filterMap fun x=>houseAt seed w d x y
theorem cand_is {seed w d x y : Nat} {a : House} (h : candidate seed w d x y = some a) : a.x = x ∧ a.y = y ∧ 2 ≤ a.w ∧ a.w ≤ 4 ∧ 2 ≤ a.d ∧ a.d ≤ 4 ∧ x + a.w ≤ w ∧ y + a.d ≤ d := by
  unfold candidate at h
  split at h
  . cases h
  . dsimp only at h
    split at h
    . cases h
    . split at h
      . cases h
      . have e:=Option.some.inj h
        subst e
        have h1:=Nat.mod_lt (raw seed 6 x y) (show 0<3 by decide)
        have h2:=Nat.mod_lt (raw seed 7 x y) (show 0<3 by decide)
        rename_i h3 _
        dsimp only at h3 ⊢
        refine⟨rfl,rfl,?_,?_,?_,?_,?_,?_⟩<;>omega
def houseG (seed : Nat) (cand : Nat → Nat → Option House) (ar : List (Nat × Nat)) (x y : Nat) : Option House :=
  houseAt.match_1 (fun _=>Option House) (cand x y) (fun _=>none) fun a=>
    if (ar.any fun c=>(c.1 != x||c.2 != y)&&houseAt.match_1 (fun _=>Bool) (cand c.1 c.2) (fun _=>false) fun b=>near a b&&ahead seed b a)=true then none else some a
theorem houseG_def(seed:Nat)(cand:Nat->Nat->Option House)(ar:List (Nat×Nat))(x y:Nat):houseAt.match_1 (fun _=>Option House) (cand x y) (fun _=>none) (fun a=>
    if (ar.any fun c=>(c.1 != x||c.2 != y)&&houseAt.match_1 (fun _=>Bool) (cand c.1 c.2) (fun _=>false) fun b=>near a b&&ahead seed b a)=true then none else some a)=houseG seed cand ar x y:=rfl
theorem houseAt_fun:houseAt=fun seed w d x y=>houseG seed (candidate seed w d) (around w d x y) x y:=by
  delta houseAt
  funext seed w d x y
  exact houseG_def seed (candidate seed w d) (around w d x y) x y
theorem zAA(seed w d x y:Nat):houseAt seed w d x y=houseG seed (candidate seed w d) (around w d x y) x y:=
  congrFun (congrFun (congrFun (congrFun (congrFun houseAt_fun seed) w) d) x) y
def beats(seed:Nat)(cand:Nat->Nat->Option House)(a:House)(c:Nat×Nat):Prop:=∃b,cand c.1 c.2=some b/\near a b=true/\ahead seed b a=true
theorem houseG_iff {seed : Nat} {cand : Nat → Nat → Option House} {ar : List (Nat × Nat)} {x y : Nat} {a : House} : houseG seed cand ar x y = some a ↔ cand x y = some a ∧ ∀ c ∈ ar, ¬ (c.1 = x ∧ c.2 = y) → ¬ beats seed cand a c := by
  unfold houseG
  cases hc:cand x y with
  |none=>simp
  | some a' =>
    dsimp only
    constructor
    . intro h
      split at h
      . cases h
      . rename_i h1
        have e:=Option.some.inj h
        subst e
        refine⟨rfl,fun c hm hn hb=>h1 ?_⟩
        obtain⟨b,hb,h2,h3⟩:=hb
        rw[List.any_eq_true]
        refine⟨c,hm,?_⟩
        rw[hb]
        dsimp only
        rw[h2,h3]
        simp only[Bool.and_true,Bool.or_eq_true,bne_iff_ne,ne_eq]
        by_cases e1:c.1=x
        . exact .inr fun e2=>hn ⟨e1,e2⟩
        . exact .inl e1
    . rintro ⟨h1,h2⟩
      have e:=Option.some.inj h1
      subst e
      rw[if_neg]
      intro h
      rw[List.any_eq_true] at h
      obtain⟨c,hm,h⟩:=h
      rw[Bool.and_eq_true] at h
      obtain⟨h3,h⟩:=h
      cases q:cand c.1 c.2 with
      |none=>rw[q] at h;cases h
      | some b =>
        rw[q] at h
        dsimp only at h
        rw[Bool.and_eq_true] at h
        refine h2 c hm (fun⟨e1,e2⟩=>?_) ⟨b,q,h.1,h.2⟩
        rw[e1,e2] at h3
        simp at h3
theorem Q0{seed w d x y:Nat}{a:House}(h:houseAt seed w d x y=some a):candidate seed w d x y=some a:=by
  rw[zAA] at h
  exact(houseG_iff.mp h).1
theorem house_none{seed w d x y:Nat}(h:candidate seed w d x y=none):houseAt seed w d x y=none:=by
  cases q:houseAt seed w d x y with
  |none=>rfl
  |some a=>rw[Q0 q] at h;cases h
theorem J0{w d x y:Nat}{c:Nat×Nat}:c∈around w d x y↔c.1<w/\c.2<d/\c.1<=x+4/\x<=c.1+4/\c.2<=y+4/\y<=c.2+4:=by
  unfold around
  rw[List.mem_flatMap]
  constructor
  . rintro ⟨j,hj,h⟩
    rw[List.mem_filterMap] at h
    obtain⟨i,hi,h⟩:=h
    have hj:=List.mem_range.mp hj
    have hi:=List.mem_range.mp hi
    split at h
    . cases h
    . have e:=Option.some.inj h
      subst e
      dsimp only
      omega
  . rintro h
    refine⟨c.2+4 - y,List.mem_range.mpr (by omega),List.mem_filterMap.mpr ⟨c.1+4 - x,List.mem_range.mpr (by omega),?_⟩⟩
    rw[if_neg (by omega)]
    refine congrArg some ?_
    ext
    . dsimp only;omega
    . dsimp only;omega
theorem jB{a b:House}:near a b=true↔a.x<=b.x+b.w/\b.x<=a.x+a.w/\a.y<=b.y+b.d/\b.y<=a.y+a.d:=by unfold near;exact decide_eq_true_iff
theorem ahead_self(seed:Nat)(a:House):ahead seed a a=false:=by
  unfold ahead
  simp
theorem ahead_total{seed:Nat}{a b:House}(h:¬ (a.x=b.x/\a.y=b.y)):ahead seed a b=true\/ahead seed b a=true:=by
  unfold ahead
  simp only[Bool.or_eq_true,Bool.and_eq_true,decide_eq_true_eq,beq_iff_eq]
  omega
def Stands(seed w d:Nat)(a:House):Prop:=∀(x y:Nat) (b:House),x<w->y<d->candidate seed w d x y=some b->near a b=true->ahead seed b a=false
theorem house_iff {seed w d x y : Nat} {a : House} : houseAt seed w d x y = some a ↔ candidate seed w d x y = some a ∧ Stands seed w d a := by
  rw[zAA,houseG_iff]
  generalize hg:candidate seed w d=cand
  constructor
  . rintro ⟨hc,h⟩
    refine⟨hc,fun x' y' b hx hy hb hn=>?_⟩
    rw[<-hg] at hc
    obtain⟨a1,a2,a3,a4,a5,a6,_⟩:=cand_is hc
    obtain⟨b1,b2,b3,b4,b5,b6,_⟩:=cand_is hb
    have hn':=jB.mp hn
    cases q:ahead seed b a with
    |false=>rfl
    | true =>
      exfalso
      refine h (x',y') (J0.mpr ?_) ?_ ⟨b,?_,hn,q⟩
      . dsimp only;omega
      . dsimp only
        rintro ⟨rfl,rfl⟩
        rw[hc] at hb
        have e:=Option.some.inj hb
        subst e
        rw[ahead_self] at q;cases q
      . dsimp only;rw[<-hg];exact hb
  . rintro ⟨hc,hs⟩
    refine⟨hc,fun c hm _ hb=>?_⟩
    obtain⟨b,h1,h2,h3⟩:=hb
    have hm':=J0.mp hm
    have:=hs _ _ b hm'.1 hm'.2.1 (by rw[hg];exact h1) h2
    rw[this] at h3
    cases h3
theorem zAc{seed w d:Nat}{left top right bottom:Int}{b:House}:b∈candsIn seed w d left top right bottom↔∃x y:Nat,(left<=(x:Int)/\(x:Int)<=right/\x<w)/\(top<=(y:Int)/\(y:Int)<=bottom/\y<d)/\candidate seed w d x y=some b:=by
  unfold candsIn
  rw[List.mem_flatMap]
  constructor
  . rintro ⟨y,hy,h⟩
    obtain⟨x,hx,h⟩:=List.mem_filterMap.mp h
    exact⟨x,y,Zn.mp hx,Zn.mp hy,h⟩
  . rintro ⟨x,y,hx,hy,h⟩
    exact⟨y,Zn.mpr hy,List.mem_filterMap.mpr ⟨x,Zn.mpr hx,h⟩⟩
theorem jo{seed w d:Nat}{left top right bottom:Int}{b:House}:b∈housesIn seed w d left top right bottom↔∃x y:Nat,(left<=(x:Int)/\(x:Int)<=right/\x<w)/\(top<=(y:Int)/\(y:Int)<=bottom/\y<d)/\houseAt seed w d x y=some b:=by
  unfold housesIn
  rw[List.mem_flatMap]
  constructor
  . rintro ⟨y,hy,h⟩
    obtain⟨x,hx,h⟩:=List.mem_filterMap.mp h
    exact⟨x,y,Zn.mp hx,Zn.mp hy,h⟩
  . rintro ⟨x,y,hx,hy,h⟩
    exact⟨y,Zn.mpr hy,List.mem_filterMap.mpr ⟨x,Zn.mpr hx,h⟩⟩
def standsIn(seed:Nat)(a:House)(l:List House):Bool:=!(l.any fun b=>near a b&&ahead seed b a)
theorem Jm{seed w d x y:Nat}{left top right bottom:Int}{a:House}(hc:candidate seed w d x y=some a)(hx:left<=x/\(x:Int)<=right)(hy:top<=y/\(y:Int)<=bottom):
    standsIn seed a (candsIn seed w d (left - 4) (top - 4) (right+4) (bottom+4))=true↔Stands seed w d a:=by
  unfold standsIn
  rw[Bool.not_eq_true',List.any_eq_false]
  obtain⟨a1,a2,a3,a4,a5,a6,_⟩:=cand_is hc
  constructor
  . intro h x' y' b hx' hy' hb hn
    have hn':=jB.mp hn
    obtain⟨b1,b2,b3,b4,b5,b6,_⟩:=cand_is hb
    have:=h b (zAc.mpr ⟨x',y',by omega,by omega,hb⟩)
    rw[hn,Bool.true_and] at this
    exact Bool.eq_false_iff.mpr this
  . intro h b hb
    obtain⟨x',y',h1,h2,h3⟩:=zAc.mp hb
    intro q
    rw[Bool.and_eq_true] at q
    have:=h x' y' b h1.2.2 h2.2.2 h3 q.1
    rw[this] at q
    cases q.2
theorem filter_box {cand hs : Nat → Nat → Option House} {L : House → Bool} {w d : Nat} {left top right bottom : Int} (hp : ∀ x y a, cand x y = some a → a.x = x ∧ a.y = y)
    (hk:∀(x y:Nat) a,cand x y=some a->(left<=(x:Int)/\(x:Int)<=right)->(top<=(y:Int)/\(y:Int)<=bottom)->(L a=true↔hs x y=some a)) (hs1:∀x y b,hs x y=some b->cand x y=some b):
    ((span (top - 4) (bottom + 4) d).flatMap fun y => (span (left - 4) (right + 4) w).filterMap fun x => cand x y).filter (fun a => decide (left ≤ (a.x : Int) ∧ (a.x : Int) ≤ right) && (decide (top ≤ (a.y : Int) ∧ (a.y : Int) ≤ bottom) && L a))
      = (span top bottom d).flatMap fun y=>(span left right w).filterMap fun x=>hs x y:=by
  have key:∀x y:Nat,((cand x y).filter (fun a=>decide (left<=(a.x:Int)/\(a.x:Int)<=right)&&(decide (top<=(a.y:Int)/\(a.y:Int)<=bottom)&&L a)))
      = if decide (top<=(y:Int)/\(y:Int)<=bottom)=true then (if decide (left<=(x:Int)/\(x:Int)<=right)=true then hs x y else none) else none:=by
    intro x y
    cases hc:cand x y with
    | none =>
      have:hs x y=none:=by
        cases q:hs x y with
        |none=>rfl
        |some b=>rw[hs1 x y b q] at hc;cases hc
      rw[this];simp
    | some a =>
      obtain⟨a1,a2⟩:=hp _ _ _ hc
      rw[Option.filter_some,a1,a2]
      by_cases hy:top<=(y:Int)/\(y:Int)<=bottom
      . by_cases hx:left<=(x:Int)/\(x:Int)<=right
        . rw[decide_eq_true hy,decide_eq_true hx,if_pos rfl,if_pos rfl,Bool.true_and,Bool.true_and]
          by_cases hs2:L a=true
          . rw[if_pos hs2]
            exact((hk _ _ _ hc hx hy).mp hs2).symm
          . rw[if_neg hs2]
            cases hh:hs x y with
            |none=>rfl
            | some b =>
              have h2:=hs1 _ _ _ hh
              rw[hc] at h2
              have e:=Option.some.inj h2
              subst e
              exact absurd ((hk _ _ _ hc hx hy).mpr hh) hs2
        . rw[decide_eq_false hx];simp
      . rw[decide_eq_false hy];simp
  rw[<-zBF (lo:=top) (hi:=bottom),<-zBF (lo:=left) (hi:=right),<-zAD,jD]
  refine congrArg (fun f=>List.flatMap f _) ?_
  funext y
  rw[Qe]
  have e:(fun x=>(cand x y).filter (fun a=>decide (left<=(a.x:Int)/\(a.x:Int)<=right)&&(decide (top<=(a.y:Int)/\(a.y:Int)<=bottom)&&L a)))
      = fun x:Nat=>if decide (top<=(y:Int)/\(y:Int)<=bottom)=true then (if decide (left<=(x:Int)/\(x:Int)<=right)=true then hs x y else none) else none:=funext fun x=>key x y
  rw[e]
  by_cases hy:decide (top<=(y:Int)/\(y:Int)<=bottom)=true
  . simp only[hy,if_true]
    exact j1 (fun x:Nat=>decide (left<=(x:Int)/\(x:Int)<=right)) (fun x=>hs x y) _
  . simp only[hy]
    simp
theorem QS{seed w d:Nat}{left top right bottom:Int}:
    (candsIn seed w d (left - 4) (top - 4) (right+4) (bottom+4)).filter (fun a=>decide (left<=(a.x:Int)/\(a.x:Int)<=right)&&(decide (top<=(a.y:Int)/\(a.y:Int)<=bottom)&&standsIn seed a (candsIn seed w d (left - 4) (top - 4) (right+4) (bottom+4))))=housesIn seed w d left top right bottom:=
  filter_box (cand:=candidate seed w d) (hs:=houseAt seed w d) (L:=fun a=>standsIn seed a (candsIn seed w d (left - 4) (top - 4) (right+4) (bottom+4))) (fun x y a h=>let q:=cand_is h;⟨q.1,q.2.1⟩)
    (fun x y a h hx hy=>⟨fun q=>house_iff.mpr ⟨h,(Jm h hx hy).mp q⟩,fun q=>(Jm h hx hy).mpr (house_iff.mp q).2⟩) (fun x y b h=>Q0 h)
theorem QC{a:House}{x y:Nat}:covers a x y=true↔a.x<=x/\x<a.x+a.w/\a.y<=y/\y<a.y+a.d:=by unfold covers;exact decide_eq_true_iff
theorem zAa{seed w d x1 y1 x2 y2 x y:Nat}{a b:House}(h1:houseAt seed w d x1 y1=some a)(h2:houseAt seed w d x2 y2=some b)(ca:covers a x y=true)(cb:covers b x y=true):a=b:=by
  obtain⟨k1,s1⟩:=house_iff.mp h1
  obtain⟨k2,s2⟩:=house_iff.mp h2
  obtain⟨a1,a2,a3,a4,a5,a6,a7,a8⟩:=cand_is k1
  obtain⟨b1,b2,b3,b4,b5,b6,b7,b8⟩:=cand_is k2
  have ca:=QC.mp ca
  have cb:=QC.mp cb
  by_cases e:a.x=b.x/\a.y=b.y
  . have e1:x1=x2:=by omega
    have e2:y1=y2:=by omega
    rw[e1,e2,k2] at k1
    exact(Option.some.inj k1).symm
  . have n1:near a b=true:=jB.mpr (by omega)
    have n2:near b a=true:=jB.mpr (by omega)
    have p1:=s1 x2 y2 b (by omega) (by omega) k2 n1
    have p2:=s2 x1 y1 a (by omega) (by omega) k1 n2
    rcases ahead_total (seed:=seed) e with q|q
    . rw[q] at p2;cases p2
    . rw[q] at p1;cases p1
theorem mem_behind{x y:Nat}{c:Nat×Nat}:c∈behind x y↔c.1<=x/\x<=c.1+3/\c.2<=y/\y<=c.2+3:=by
  unfold behind
  rw[List.mem_flatMap]
  constructor
  . rintro ⟨j,hj,h⟩
    rw[List.mem_filterMap] at h
    obtain⟨i,hi,h⟩:=h
    have hj:=List.mem_range.mp hj
    have hi:=List.mem_range.mp hi
    split at h
    . cases h
    . have e:=Option.some.inj h
      subst e
      dsimp only
      omega
  . rintro h
    refine⟨y - c.2,List.mem_range.mpr (by omega),List.mem_filterMap.mpr ⟨x - c.1,List.mem_range.mpr (by omega),?_⟩⟩
    rw[if_neg (by omega)]
    refine congrArg some ?_
    ext
    . dsimp only;omega
    . dsimp only;omega
theorem zBL{ha:Nat->Nat->Option House}{x y:Nat}{a:House}{l:List (Nat×Nat)}(h:l.findSome? (fun c=>(ha c.1 c.2).bind fun a=>if covers a x y=true then some a else none)=some a):(∃c∈l,ha c.1 c.2=some a)/\covers a x y=true:=by
  obtain⟨c,hm,h⟩:=List.exists_of_findSome?_eq_some h
  obtain⟨b,hb,h⟩:=Option.bind_eq_some_iff.mp h
  split at h
  . rename_i hc
    have e:=Option.some.inj h
    subst e
    exact⟨⟨_,hm,hb⟩,hc⟩
  . cases h
theorem over_gen0{ha:Nat->Nat->Option House}{x y:Nat}{l:List (Nat×Nat)}(h:l.findSome? (fun c=>(ha c.1 c.2).bind fun a=>if covers a x y=true then some a else none)=none){c:Nat×Nat}{a:House}(hm:c∈l)(h2:ha c.1 c.2=some a):covers a x y=false:=by
  rw[List.findSome?_eq_none_iff] at h
  have:=h c hm
  rw[h2,Option.bind_some] at this
  cases q:covers a x y with
  |false=>rfl
  |true=>rw[q,if_pos rfl] at this;cases this
theorem zAY{seed w d x y:Nat}{a:House}:houseOver seed w d x y=some a↔(∃x1 y1,houseAt seed w d x1 y1=some a)/\covers a x y=true:=by
  have e:houseOver seed w d x y=(behind x y).findSome? (fun c=>(houseAt seed w d c.1 c.2).bind fun a=>if covers a x y=true then some a else none):=by unfold houseOver;rfl
  constructor
  . intro h
    obtain⟨⟨c,_,h1⟩,h2⟩:=zBL (ha:=houseAt seed w d) (e▸h)
    exact⟨⟨_,_,h1⟩,h2⟩
  . rintro ⟨⟨x1,y1,h⟩,hc⟩
    cases q:houseOver seed w d x y with
    | none =>
      obtain⟨a1,a2,a3,a4,a5,a6,a7,a8⟩:=cand_is (Q0 h)
      have hc':=QC.mp hc
      have:=over_gen0 (ha:=houseAt seed w d) (e▸q) (c:=(x1,y1)) (mem_behind.mpr (by dsimp only;omega)) h
      rw[hc] at this
      cases this
    | some b =>
      obtain⟨⟨c,_,h1⟩,h2⟩:=zBL (ha:=houseAt seed w d) (e▸q)
      rw[zAa h h1 hc h2]
theorem zAh{seed w d x y:Nat}{left top right bottom:Int}(hx:left<=x/\(x:Int)<=right/\x<w)(hy:top<=y/\(y:Int)<=bottom/\y<d):
    (housesIn seed w d (left - 3) (top - 3) right bottom).find? (fun a=>covers a x y)=houseOver seed w d x y:=by
  cases q:houseOver seed w d x y with
  | none =>
    rw[List.find?_eq_none]
    intro a ha hc
    obtain⟨x1,y1,_,_,h⟩:=jo.mp ha
    rw[zAY.mpr ⟨⟨x1,y1,h⟩,hc⟩] at q
    cases q
  | some a =>
    obtain⟨⟨x1,y1,h⟩,hc⟩:=zAY.mp q
    obtain⟨a1,a2,a3,a4,a5,a6,a7,a8⟩:=cand_is (Q0 h)
    have hc':=QC.mp hc
    have hm:a∈housesIn seed w d (left - 3) (top - 3) right bottom:=jo.mpr ⟨x1,y1,by omega,by omega,h⟩
    cases q2:(housesIn seed w d (left - 3) (top - 3) right bottom).find? (fun a=>covers a x y) with
    | none =>
      rw[List.find?_eq_none] at q2
      exact absurd hc (q2 a hm)
    | some b =>
      have hb:=List.find?_some q2
      obtain⟨x2,y2,_,_,h2⟩:=jo.mp (List.mem_of_find?_eq_some q2)
      rw[zAa h2 h hb hc]
theorem any_over{seed w d x y:Nat}{left top right bottom:Int}(hx:left<=x/\(x:Int)<=right/\x<w)(hy:top<=y/\(y:Int)<=bottom/\y<d):
    (housesIn seed w d (left - 3) (top - 3) right bottom).any (fun a=>covers a x y)=(houseOver seed w d x y).isSome:=by
  rw[<-zAh hx hy]
  refine Bool.eq_iff_iff.mpr ?_
  rw[List.find?_isSome,List.any_eq_true]
end Gm
namespace Gm
open Vbwsan
section
variable{hs:List Nat}
theorem jx{a b:Nat}:lessCell hs a b=true↔hs.getD a 0<hs.getD b 0\/(hs.getD a 0=hs.getD b 0/\a<b):=by
  unfold lessCell
  simp only[Bool.or_eq_true,Bool.and_eq_true,decide_eq_true_eq,beq_iff_eq]
theorem J3{a b c:Nat}(h1:lessCell hs a b=true)(h2:lessCell hs b c=true):lessCell hs a c=true:=by
  rw[jx] at*
  omega
theorem less_total{a b:Nat}(h:¬ a=b)(h1:¬ lessCell hs a b=true):lessCell hs b a=true:=by
  rw[jx] at*
  omega
theorem zBP{a:Nat}:¬ lessCell hs a a=true:=by
  rw[jx]
  omega
abbrev Sorted(hs l:List Nat):Prop:=l.Pairwise fun a b=>lessCell hs a b=true
theorem mem_put {k n : Nat} : ∀ {l : List Nat}, n ∈ putCell hs k l ↔ n = k ∨ n ∈ l
  |[]=>by simp[putCell]
  | x :: r => by
    unfold putCell
    split
    . rename_i e
      subst e
      simp
    . split
      . simp
      . rw[List.mem_cons,mem_put (l:=r),List.mem_cons]
        constructor
        . rintro (h|h|h)<;>simp[h]
        . rintro (h|h|h)<;>simp[h]
theorem sorted_put {k : Nat} : ∀ {l : List Nat}, Sorted hs l → Sorted hs (putCell hs k l)
  |[],_=>by simp[putCell,Sorted]
  | x :: r, h => by
    have h':=List.pairwise_cons.mp h
    unfold putCell
    split
    . exact h
    . rename_i e
      split
      . rename_i e2
        refine List.pairwise_cons.mpr ⟨fun y hy=>?_,h⟩
        rcases List.mem_cons.mp hy with rfl|hy
        . exact e2
        . exact J3 e2 (h'.1 y hy)
      . rename_i e2
        refine List.pairwise_cons.mpr ⟨fun y hy=>?_,sorted_put h'.2⟩
        rcases mem_put.mp hy with rfl|hy
        . exact less_total e e2
        . exact h'.1 y hy
def addAll(hs now:List Nat)(ns r:List Nat):List Nat:=ns.foldl (fun l n=>if now.contains n=true then l else putCell hs n l) r
theorem mem_addAll {now : List Nat} {n : Nat} : ∀ {ns r : List Nat}, n ∈ addAll hs now ns r ↔ n ∈ r ∨ (n ∈ ns ∧ n ∉ now)
  |[],r=>by simp[addAll]
  | m :: ns, r => by
    have e:addAll hs now (m::ns) r=addAll hs now ns (if now.contains m=true then r else putCell hs m r):=rfl
    rw[e,mem_addAll]
    by_cases h:m∈now
    . rw[if_pos (List.contains_iff_mem.mpr h)]
      constructor
      . rintro (q|⟨q1,q2⟩)
        . exact .inl q
        . exact .inr ⟨List.mem_cons_of_mem _ q1,q2⟩
      . rintro (q|⟨q1,q2⟩)
        . exact .inl q
        . rcases List.mem_cons.mp q1 with rfl|q1
          . exact absurd h q2
          . exact .inr ⟨q1,q2⟩
    . rw[if_neg (fun q=>h (List.contains_iff_mem.mp q)),mem_put]
      constructor
      . rintro ((rfl|q)|⟨q1,q2⟩)
        . exact .inr ⟨List.mem_cons_self,h⟩
        . exact .inl q
        . exact .inr ⟨List.mem_cons_of_mem _ q1,q2⟩
      . rintro (q|⟨q1,q2⟩)
        . exact .inl (.inr q)
        . rcases List.mem_cons.mp q1 with rfl|q1
          . exact .inl (.inl rfl)
          . exact .inr ⟨q1,q2⟩
theorem jR{now:List Nat}:∀{ns r:List Nat},Sorted hs r->Sorted hs (addAll hs now ns r)
  |[],r,h=>h
  | m :: ns, r, h => by
    have e:addAll hs now (m::ns) r=addAll hs now ns (if now.contains m=true then r else putCell hs m r):=rfl
    rw[e]
    refine jR ?_
    split
    . exact h
    . exact sorted_put h
theorem JO{s:State}{goal:Nat->Bool}{f:Nat}{wet:List Nat}:flood s hs goal f wet []=wet:=by cases f<;>rfl
theorem Q1{s:State}{goal:Nat->Bool}{f:Nat}{wet r:List Nat}{k:Nat}:flood s hs goal (f+1) wet (k::r)=if goal k=true then wet++[k] else flood s hs goal f (wet++[k]) (addAll hs (wet++[k]) (neighbours s k) r):=rfl
end
def Side(n:Nat):Prop:=n=8\/n=16\/n=24\/n=32
def nbs(w d k:Nat):List Nat:=(if k / w=0 then [] else [k - w])++((if k%w=0 then [] else [k - 1])++((if k%w+1=w then [] else [k+1])++if k / w+1=d then [] else [k+w]))
theorem jM{s:State}{k n:Nat}:n∈nbs s.w s.d k↔n∈neighbours s k:=by
  unfold nbs neighbours
  simp only[List.mem_append]
  constructor
  . rintro (h|h|h|h)
    . exact .inl h
    . exact .inr (.inr (.inr h))
    . exact .inr (.inl h)
    . exact .inr (.inr (.inl h))
  . rintro (h|h|h|h)
    . exact .inl h
    . exact .inr (.inr (.inl h))
    . exact .inr (.inr (.inr h))
    . exact .inr (.inl h)
theorem nb_lt {s : State} {k n : Nat} (hw : Side s.w) (hk : k < s.w * s.d) (h : n ∈ neighbours s k) : n < s.w * s.d := by
  unfold neighbours at h
  have h0:k / s.w<s.d:=Nat.div_lt_of_lt_mul hk
  simp only[List.mem_append] at h
  have e:=Nat.div_add_mod k s.w
  have e2:k%s.w<s.w:=Nat.mod_lt _ (by rcases hw with h|h|h|h<;>omega)
  rcases h with h|h|h|h
  . split at h
    . simp at h
    . simp at h;omega
  . split at h
    . simp at h
    . simp at h
      subst h
      have:s.w*(k / s.w)+s.w<=s.w*s.d:=by
        rw[<-Nat.mul_succ];exact Nat.mul_le_mul_left _ h0
      omega
  . split at h
    . simp at h
    . simp at h
      subst h
      have:s.w*(k / s.w)+s.w+s.w<=s.w*s.d:=by
        rw[<-Nat.mul_succ,<-Nat.mul_succ];exact Nat.mul_le_mul_left _ (by omega)
      omega
  . split at h
    . simp at h
    . simp at h;omega
theorem nb_gen(w k:Nat)(c1 c2 c3 c4:Prop)[Decidable c1][Decidable c2][Decidable c3][Decidable c4](h1:¬ c1->w<=k)(h4:¬ c4->1<=k)(h8:8<=w):((if c1 then [] else [k - w])++((if c2 then [] else [k+1])++((if c3 then [] else [k+w])++if c4 then [] else [k - 1])):List Nat).Nodup/\
    k ∉ ((if c1 then [] else [k - w])++((if c2 then [] else [k+1])++((if c3 then [] else [k+w])++if c4 then [] else [k - 1])):List Nat):=by
  by_cases e1:c1<;>by_cases e2:c2<;>by_cases e3:c3<;>by_cases e4:c4<;>simp only[e1,e2,e3,e4,if_true,if_false,List.nil_append,List.append_nil,List.cons_append,List.nodup_cons,List.mem_cons,List.not_mem_nil,List.nodup_nil,not_false_iff,and_true,or_false,not_or,true_and]<;>simp only[e1,e4,not_true,not_false_iff,false_implies,true_implies] at h1 h4<;>omega
theorem nb_both{s:State}{k:Nat}(hw:Side s.w):(neighbours s k).Nodup/\k ∉ neighbours s k:=by
  have h8:8<=s.w:=by rcases hw with h|h|h|h<;>omega
  refine nb_gen s.w k _ _ _ _ (fun h=>?_) (fun h=>?_) h8
  . exact Nat.le_of_not_lt fun q=>h (Nat.div_eq_of_lt q)
  . exact Nat.pos_of_ne_zero fun q=>h (by rw[q,Nat.zero_mod])
theorem nb_nodup{s:State}{k:Nat}(hw:Side s.w):(neighbours s k).Nodup:=(nb_both hw).1
structure Shore(hs wet shoreC shoreS:List Nat):Prop where
  sorted:Sorted hs shoreS
  nodup:shoreC.Nodup
  mem:∀n,n∈shoreC↔n∈shoreS
  dry:∀n,n∈shoreC->n ∉ wet
def Flows(s:State)(hs:List Nat)(goal:Nat->Bool)(ans wet shoreC:List Nat):Prop:=
  ∃(f:Nat) (shoreS:List Nat),f+wet.length=s.w*s.d/\flood s hs goal f wet shoreS=ans/\Shore hs wet shoreC shoreS/\wet.Nodup/\(∀n∈wet,n<s.w*s.d)/\∀n∈shoreC,n<s.w*s.d
theorem Flows.start{s:State}{goal:Nat->Bool}{k:Nat}(hk:k<s.w*s.d):Flows s (heights s) goal (wetFrom s goal k) [] [k]:=
  ⟨s.w*s.d,[k],rfl,rfl,⟨by simp[Sorted],by simp,fun n=>Iff.rfl,by simp⟩,by simp,by simp,by simpa using hk⟩
theorem Flows.done{s:State}{hs:List Nat}{goal:Nat->Bool}{ans wet:List Nat}(h:Flows s hs goal ans wet []):wet=ans:=by
  obtain⟨f,sh,h1,h2,h3,_⟩:=h
  have:sh=[]:=List.eq_nil_iff_forall_not_mem.mpr fun n hn=>by have:=(h3.mem n).mpr hn;simp at this
  subst this
  rw[JO] at h2
  exact h2
theorem Flows.turn {s : State} {hs : List Nat} {goal : Nat → Bool} {ans wet shoreC : List Nat} {k : Nat} (h : Flows s hs goal ans wet shoreC) (hk : k ∈ shoreC) (hl : ∀ m ∈ shoreC, m = k ∨ lessCell hs k m = true) :
    k<s.w*s.d/\k ∉ wet/\(goal k=true->wet++[k]=ans)/\(goal k=false->∀shore2:List Nat,shore2.Nodup->(∀n,n∈shore2↔(n∈shoreC/\n≠k)\/(n∈neighbours s k/\n ∉ wet/\n≠k))->(Side s.w)->Flows s hs goal ans (wet++[k]) shore2):=by
  obtain⟨f,sh,h1,h2,h3,h4,h5,h6⟩:=h
  have hks:=(h3.mem k).mp hk
  cases sh with
  |nil=>simp at hks
  | cons a r =>
    have hp:=List.pairwise_cons.mp h3.sorted
    have e:a=k:=by
      rcases List.mem_cons.mp hks with q|q
      . exact q.symm
      . have q1:=hp.1 k q
        have ha:=(h3.mem a).mpr List.mem_cons_self
        rcases hl a ha with q2|q2
        . exact q2
        . exact absurd (J3 q1 q2) zBP
    subst e
    have hkw:=h3.dry a hk
    have hlen:wet.length<s.w*s.d:=by
      have q:(a::wet).Nodup:=List.nodup_cons.mpr ⟨hkw,h4⟩
      have:=q.length_le_of_subset (l₂:=List.range (s.w*s.d)) fun n hn=>List.mem_range.mpr (by
        rcases List.mem_cons.mp hn with rfl|hn
        . exact h6 _ hk
        . exact h5 _ hn)
      simp at this
      omega
    obtain⟨f',rfl⟩:∃f',f=f'+1:=⟨f - 1,by omega⟩
    rw[Q1] at h2
    refine⟨h6 _ hk,hkw,fun g=>by rw[if_pos g] at h2;exact h2,fun g shore2 n2 m2 hw=>?_⟩
    rw[if_neg (by rw[g];decide)] at h2
    have har:a ∉ r:=fun q=>zBP (hp.1 a q)
    refine⟨f',_,by simp;omega,h2,⟨jR hp.2,n2,fun n=>?_,fun n hn=>?_⟩,?_,?_,?_⟩
    . rw[m2,mem_addAll,h3.mem,List.mem_cons,List.mem_append,List.mem_singleton]
      constructor
      . rintro (⟨q1|q1,q2⟩|⟨q1,q2,q3⟩)
        . exact absurd q1 q2
        . exact .inl q1
        . exact .inr ⟨q1,fun q=>q.elim q2 q3⟩
      . rintro (q|⟨q1,q2⟩)
        . exact .inl ⟨.inr q,fun e=>har (e▸q)⟩
        . exact .inr ⟨q1,fun q=>q2 (.inl q),fun q=>q2 (.inr q)⟩
    . rw[List.mem_append,List.mem_singleton]
      rcases (m2 n).mp hn with⟨q1,q2⟩|⟨q1,q2,q3⟩
      . exact fun q=>q.elim (h3.dry n q1) q2
      . exact fun q=>q.elim q2 q3
    . rw[List.nodup_append]
      refine⟨h4,by simp,fun x hx y hy=>?_⟩
      simp at hy
      subst hy
      exact fun e=>hkw (e▸hx)
    . intro n hn
      rcases List.mem_append.mp hn with q|q
      . exact h5 n q
      . simp at q;subst q;exact h6 _ hk
    . intro n hn
      rcases (m2 n).mp hn with⟨q1,q2⟩|⟨q1,q2,q3⟩
      . exact h6 n q1
      . exact nb_lt hw (h6 _ hk) q1
inductive Reach(s:State)(hs:List Nat)(h k:Nat):Nat->Prop
  |self:Reach s hs h k k
  |step {m n:Nat}:Reach s hs h k m->n∈neighbours s m->hs.getD n 0<=h->Reach s hs h k n
theorem Reach.lt{s:State}{hs:List Nat}{h k n:Nat}(hw:Side s.w)(hk:k<s.w*s.d)(r:Reach s hs h k n):n<s.w*s.d:=by
  induction r with
  |self=>exact hk
  |step _ q _ ih=>exact nb_lt hw ih q
theorem zAI{s:State}{hs:List Nat}{h k:Nat}{l:List Nat}(hk:k∈l)(hc:∀m∈l,∀n∈neighbours s m,hs.getD n 0<=h->n∈l):∀n,Reach s hs h k n->n∈l:=by
  intro n r
  induction r with
  |self=>exact hk
  |step _ q1 q2 ih=>exact hc _ ih _ q1 q2
theorem within_all {s : State} {hs : List Nat} {h k : Nat} (hw : Side s.w) (hk : k < s.w * s.d) : ∀ (f : Nat) (todo seen : List Nat), seen.Nodup → k ∈ seen → (∃ p, seen = p ++ todo ∧ f + p.length = s.w * s.d + 1 ∧ ∀ m ∈ p, ∀ n ∈ neighbours s m, hs.getD n 0 ≤ h → n ∈ seen) →
    (∀n∈seen,Reach s hs h k n)->(within s hs h f todo seen).Nodup/\∀n,n∈within s hs h f todo seen↔Reach s hs h k n:=by
  intro f
  induction f with
  | zero =>
    intro todo seen h1 hks h2 h3
    exfalso
    obtain⟨p,e,e2,_⟩:=h2
    have:=h1.length_le_of_subset (l₂:=List.range (s.w*s.d)) fun n hn=>List.mem_range.mpr (Reach.lt hw hk (h3 n hn))
    rw[e] at this
    simp at this
    omega
  | succ f ih =>
    intro todo seen h1 hks ⟨p,e,e2,h2⟩ h3
    cases todo with
    | nil =>
      show seen.Nodup/\∀n,n∈seen↔_
      refine⟨h1,fun n=>⟨h3 n,zAI hks ?_ n⟩⟩
      intro m hm
      rw[e,List.append_nil] at hm
      exact h2 m hm
    | cons a r =>
      show(within s hs h f (r++(neighbours s a).filter fun n=>!seen.contains n&&decide (hs.getD n 0<=h)) (seen++(neighbours s a).filter fun n=>!seen.contains n&&decide (hs.getD n 0<=h))).Nodup/\∀n,n∈within s hs h f (r++(neighbours s a).filter fun n=>!seen.contains n&&decide (hs.getD n 0<=h)) (seen++(neighbours s a).filter fun n=>!seen.contains n&&decide (hs.getD n 0<=h))↔_
      generalize hnew:((neighbours s a).filter fun n=>!seen.contains n&&decide (hs.getD n 0<=h))=new
      have hm:∀n,n∈new↔n∈neighbours s a/\n ∉ seen/\hs.getD n 0<=h:=by
        intro n
        rw[<-hnew,List.mem_filter,Bool.and_eq_true,Bool.not_eq_true',decide_eq_true_eq]
        constructor
        . rintro ⟨q1,q2,q3⟩
          exact⟨q1,fun q=>(by rw[List.contains_iff_mem.mpr q] at q2;cases q2),q3⟩
        . rintro ⟨q1,q2,q3⟩
          refine⟨q1,?_,q3⟩
          cases c:seen.contains n with
          |false=>rfl
          |true=>exact absurd (List.contains_iff_mem.mp c) q2
      have ha:a∈seen:=by rw[e];simp
      refine ih _ _ ?_ ?_ ⟨p++[a],?_,?_,?_⟩ ?_
      . rw[List.nodup_append]
        refine⟨h1,by rw[<-hnew];exact(nb_nodup hw).filter _,fun x hx y hy q=>?_⟩
        subst q
        exact((hm x).mp hy).2.1 hx
      . exact List.mem_append.mpr (.inl hks)
      . rw[e];simp
      . simp;omega
      . intro m hm2 n hn hh
        rcases List.mem_append.mp hm2 with q|q
        . exact List.mem_append.mpr (.inl (h2 m q n hn hh))
        . simp at q
          subst q
          by_cases c:n∈seen
          . exact List.mem_append.mpr (.inl c)
          . exact List.mem_append.mpr (.inr ((hm n).mpr ⟨hn,c,hh⟩))
      . intro n hn
        rcases List.mem_append.mp hn with q|q
        . exact h3 n q
        . obtain⟨q1,q2,q3⟩:=(hm n).mp q
          exact .step (h3 a ha) q1 q3
theorem perm_of_mem{l1 l2:List Nat}(h1:l1.Nodup)(h2:l2.Nodup)(h:∀n,n∈l1↔n∈l2):l1.Perm l2:=(List.perm_ext_iff_of_nodup h1 h2).mpr h
theorem Js{s:State}{hs:List Nat}{h k:Nat}(hw:Side s.w)(hk:k<s.w*s.d){found:List Nat}(h1:found.Nodup)(h2:k∈found)(h3:∀n∈found,Reach s hs h k n)(h4:∀m∈found,∀n∈neighbours s m,hs.getD n 0<=h->n∈found)(p:Nat->Bool):
    found.length=(within s hs h (s.w*s.d+1) [k] [k]).length/\found.any p=(within s hs h (s.w*s.d+1) [k] [k]).any p:=by
  obtain⟨q1,q2⟩:=within_all (hs:=hs) (h:=h) hw hk (s.w*s.d+1) [k] [k] (by simp) (by simp) ⟨[],rfl,rfl,by simp⟩ (fun n hn=>by simp at hn;subst hn;exact .self)
  have pm:=perm_of_mem h1 q1 fun n=>⟨fun h=>(q2 n).mpr (h3 n h),fun h=>zAI h2 h4 n ((q2 n).mp h)⟩
  refine⟨pm.length_eq,?_⟩
  refine Bool.eq_iff_iff.mpr ?_
  rw[List.any_eq_true,List.any_eq_true]
  exact⟨fun⟨x,h1,h2⟩=>⟨x,pm.mem_iff.mp h1,h2⟩,fun⟨x,h1,h2⟩=>⟨x,pm.mem_iff.mpr h1,h2⟩⟩
end Gm
namespace Gm
open Vbwsan
theorem jz:∀(l:List Nat) (a:Nat),a<=l.foldl max a/\∀y∈l,y<=l.foldl max a
  |[],a=>⟨Nat.le_refl _,fun y hy=>by simp at hy⟩
  | b :: l, a => by
    obtain⟨h1,h2⟩:=jz l (max a b)
    rw[List.foldl_cons]
    refine⟨by omega,fun y hy=>?_⟩
    rcases List.mem_cons.mp hy with rfl|hy
    . omega
    . exact h2 y hy
theorem jX:∀(l:List Nat) (a:Nat),l.foldl max a=a\/l.foldl max a∈l
  |[],a=>.inl rfl
  | b :: l, a => by
    rw[List.foldl_cons]
    rcases jX l (max a b) with h|h
    . rw[h]
      by_cases c:a<=b
      . exact .inr (by rw[Nat.max_eq_right c];exact List.mem_cons_self)
      . exact .inl (Nat.max_eq_left (by omega))
    . exact .inr (List.mem_cons_of_mem _ h)
theorem JJ{l:List Nat}{m:Nat}(hm:m∈l)(hy:∀y∈l,y<=m):mostOf l=m:=by
  unfold mostOf
  obtain⟨h1,h2⟩:=jz l 0
  have:=h2 m hm
  rcases jX l 0 with h|h
  . rw[h] at this ⊢
    omega
  . have:=hy _ h
    omega
theorem jy:∀(l:List Nat) (a:Nat),l.foldl min a<=a/\∀y∈l,l.foldl min a<=y
  |[],a=>⟨Nat.le_refl _,fun y hy=>by simp at hy⟩
  | b :: l, a => by
    obtain⟨h1,h2⟩:=jy l (min a b)
    rw[List.foldl_cons]
    refine⟨by omega,fun y hy=>?_⟩
    rcases List.mem_cons.mp hy with rfl|hy
    . omega
    . exact h2 y hy
theorem jW:∀(l:List Nat) (a:Nat),l.foldl min a=a\/l.foldl min a∈l
  |[],a=>.inl rfl
  | b :: l, a => by
    rw[List.foldl_cons]
    rcases jW l (min a b) with h|h
    . rw[h]
      by_cases c:b<=a
      . exact .inr (by rw[Nat.min_eq_right c];exact List.mem_cons_self)
      . exact .inl (Nat.min_eq_left (by omega))
    . exact .inr (List.mem_cons_of_mem _ h)
theorem J4{l:List Nat}{m:Nat}(hm:m∈l)(hy:∀y∈l,m<=y):leastOf l=m:=by
  cases l with
  |nil=>simp at hm
  | cons a r =>
    show r.foldl min a=m
    obtain⟨h1,h2⟩:=jy r a
    have h3:r.foldl min a<=m:=by
      rcases List.mem_cons.mp hm with rfl|hm
      . exact h1
      . exact h2 m hm
    have h4:m<=r.foldl min a:=by
      rcases jW r a with h|h
      . rw[h];exact hy a List.mem_cons_self
      . exact hy _ (List.mem_cons_of_mem _ h)
    omega
def candHs(seed x y aw ad:Nat):List Nat:=((List.range ad).flatMap fun j=>(List.range aw).map fun i=>(x+i,y+j)).map fun c=>madeHeight seed c.1 c.2
def candW(seed x y:Nat):Nat:=2+raw seed 6 x y%3
def candD(seed x y:Nat):Nat:=2+raw seed 7 x y%3
theorem Jf(seed w d x y:Nat):candidate seed w d x y=if raw seed 5 x y%12≠0 then none else if w<x+candW seed x y\/d<y+candD seed x y then none else if leastOf (candHs seed x y (candW seed x y) (candD seed x y))+300<mostOf (candHs seed x y (candW seed x y) (candD seed x y)) then none else some ⟨x,y,candW seed x y,candD seed x y⟩:=by
  unfold candidate candHs candW candD cellsOf STEEP
  generalize raw seed 5 x y=r5
  generalize raw seed 6 x y=r6
  generalize raw seed 7 x y=r7
  generalize madeHeight seed=mh
  rfl
theorem cand_no1{seed w d x y:Nat}(h:¬ raw seed 5 x y%12=0):candidate seed w d x y=none:=by rw[Jf,if_pos h]
theorem cand_no2{seed w d x y:Nat}(h:raw seed 5 x y%12=0)(h2:w<x+candW seed x y\/d<y+candD seed x y):candidate seed w d x y=none:=by rw[Jf,if_neg (not_not_intro h),if_pos h2]
theorem cand_no3{seed w d x y:Nat}(h:raw seed 5 x y%12=0)(h2:¬ (w<x+candW seed x y\/d<y+candD seed x y))(h3:leastOf (candHs seed x y (candW seed x y) (candD seed x y))+300<mostOf (candHs seed x y (candW seed x y) (candD seed x y))):candidate seed w d x y=none:=by
  rw[Jf,if_neg (not_not_intro h),if_neg h2,if_pos h3]
theorem cand_yes{seed w d x y:Nat}(h:raw seed 5 x y%12=0)(h2:¬ (w<x+candW seed x y\/d<y+candD seed x y))(h3:¬ leastOf (candHs seed x y (candW seed x y) (candD seed x y))+300<mostOf (candHs seed x y (candW seed x y) (candD seed x y))):candidate seed w d x y=some ⟨x,y,candW seed x y,candD seed x y⟩:=by
  rw[Jf,if_neg (not_not_intro h),if_neg h2,if_neg h3]
theorem zBG{lo hi:Int}{n i:Nat}(h:i<(span lo hi n).length):(span lo hi n)[i]?=some ((max lo 0).toNat+i):=by
  unfold span at*
  rw[List.length_range'] at h
  rw[List.getElem?_range' h]
  simp
theorem Jo{lo hi:Int}{n:Nat}:(span lo hi n).length=(min (hi+1) n - max lo 0).toNat:=by unfold span;rw[List.length_range']
theorem zAs{lo hi:Int}{n:Nat}:(span lo hi n).length<=n:=by rw[Jo];omega
theorem zBW(seed w d:Nat)(l t r b:Int)(k:Nat):(((span t b d).take k).flatMap fun y=>(span l r w).filterMap fun x=>candidate seed w d x y).length<=d*w:=by
  have h:∀ys:List Nat,(ys.flatMap fun y=>(span l r w).filterMap fun x=>candidate seed w d x y).length<=ys.length*w:=fun ys=>by
    induction ys with
    |nil=>simp
    | cons y ys ih =>
      rw[List.flatMap_cons,List.length_append,List.length_cons,Nat.succ_mul]
      have:=List.length_filterMap_le (fun x=>candidate seed w d x y) (span l r w)
      have:=zAs (lo:=l) (hi:=r) (n:=w)
      omega
  have h1:=h ((span t b d).take k)
  have h2:((span t b d).take k).length<=d:=by
    rw[List.length_take]
    have:=zAs (lo:=t) (hi:=b) (n:=d)
    omega
  exact Nat.le_trans h1 (Nat.mul_le_mul_right _ h2)
end Gm
namespace Gm
open Vbwsan
theorem mix_le{c1 c2 c3 c4 h p q u v n:Nat}(h1:c1<=h)(h2:c2<=h)(h3:c3<=h)(h4:c4<=h)(hp:p+u=n)(hq:q+v=n):(c1*p*q+c2*u*q+c3*p*v+c4*u*v)<=h*(n*n):=by
  have e:h*p*q+h*u*q+h*p*v+h*u*v=h*(n*n):=by
    rw[<-hp,]
    have:h*((p+u)*(p+u))=h*((p+u)*(q+v)):=by rw[hq,hp]
    rw[this]
    simp only[Nat.mul_add,Nat.add_mul,Nat.mul_assoc]
    omega
  have a1:c1*p*q<=h*p*q:=Nat.mul_le_mul_right _ (Nat.mul_le_mul_right _ h1)
  have a2:c2*u*q<=h*u*q:=Nat.mul_le_mul_right _ (Nat.mul_le_mul_right _ h2)
  have a3:c3*p*v<=h*p*v:=Nat.mul_le_mul_right _ (Nat.mul_le_mul_right _ h3)
  have a4:c4*u*v<=h*u*v:=Nat.mul_le_mul_right _ (Nat.mul_le_mul_right _ h4)
  omega
theorem Q2(seed:Nat)(l:Layer)(i j:Nat):corner seed l i j<=l.high:=by
  unfold corner
  exact Nat.le_of_lt_succ (Nat.mod_lt _ (Nat.succ_pos _))
theorem J5(seed:Nat)(l:Layer)(x y:Nat)(hw:0<l.wide):layerAt seed l x y<=l.high:=by
  unfold layerAt
  have hx:=Nat.mod_lt x hw
  have hy:=Nat.mod_lt y hw
  refine Nat.div_le_of_le_mul ?_
  rw[Nat.mul_comm (l.wide*l.wide) l.high]
  exact mix_le (Q2 ..) (Q2 ..) (Q2 ..) (Q2 ..) (Nat.sub_add_cancel (Nat.le_of_lt hx)) (Nat.sub_add_cancel (Nat.le_of_lt hy))
theorem sum3(f:Layer->Nat):sumOf (layers.map f)=f ⟨1,16,2000⟩+(f ⟨2,8,1000⟩+(f ⟨3,4,500⟩+0)):=rfl
theorem made_fun:madeHeight=fun seed x y=>sumOf (layers.map fun l=>layerAt seed l x y):=by delta madeHeight;rfl
theorem zBr(seed x y:Nat):madeHeight seed x y<=3500:=by
  have h1:layerAt seed ⟨1,16,2000⟩ x y<=2000:=J5 seed ⟨1,16,2000⟩ x y (by decide)
  have h2:layerAt seed ⟨2,8,1000⟩ x y<=1000:=J5 seed ⟨2,8,1000⟩ x y (by decide)
  have h3:layerAt seed ⟨3,4,500⟩ x y<=500:=J5 seed ⟨3,4,500⟩ x y (by decide)
  have e:madeHeight seed x y=sumOf (layers.map fun l=>layerAt seed l x y):=congrFun (congrFun (congrFun made_fun seed) x) y
  rw[e,sum3]
  generalize layerAt seed ⟨1,16,2000⟩ x y=a1 at h1 ⊢
  generalize layerAt seed ⟨2,8,1000⟩ x y=a2 at h2 ⊢
  generalize layerAt seed ⟨3,4,500⟩ x y=a3 at h3 ⊢
  omega
def upOf(o:Option Change):Int:=match o with|some c=>c.up|none=>0
def kindOf(o:Option Change):Nat:=match o with|some c=>c.kind|none=>0
theorem changed1(o:Option Change)(m k:Nat)(hm:m<=9999):(((changedCell o (m,k)).1:Nat):Int)=max 0 (min 9999 ((m:Int)+upOf o)):=by
  cases o with
  | none =>
    show((m:Nat):Int)=max 0 (min 9999 ((m:Int)+0))
    omega
  | some c =>
    show(((max 0 (min 9999 ((m:Int)+c.up))).toNat:Nat):Int)=max 0 (min 9999 ((m:Int)+c.up))
    omega
theorem changed2(o:Option Change)(m k:Nat):(changedCell o (m,k)).2=if kindOf o=0 then k else kindOf o:=by
  cases o with
  |none=>rfl
  |some c=>rfl
theorem height_eq(s:State)(x y:Nat):((heightAt s x y:Nat):Int)=max 0 (min 9999 (((madeHeight s.seed x y:Nat):Int)+upOf (changeAt s x y))):=by
  unfold heightAt
  exact changed1 _ _ _ (Nat.le_trans (zBr _ _ _) (by decide))
end Gm
namespace Gm
open Vbwsan
def hgt(s:State)(n:Nat):Nat:=heightAt s (n%s.w) (n / s.w)
theorem QI{s:State}{n:Nat}(h:n<s.w*s.d):(heights s).getD n 0=hgt s n:=by
  unfold heights hgt
  rw[List.getD_eq_getElem?_getD,List.getElem?_map,List.getElem?_range h]
  rfl
theorem heights_len(s:State):(heights s).length=s.w*s.d:=by unfold heights;rw[List.length_map,List.length_range]
theorem Flows.lt{s:State}{hs:List Nat}{goal:Nat->Bool}{ans wet shoreC:List Nat}{k:Nat}(h:Flows s hs goal ans wet shoreC)(hk:k∈shoreC):wet.length<s.w*s.d/\k<s.w*s.d/\wet.Nodup/\(∀n∈wet,n<s.w*s.d)/\(∀n∈shoreC,n<s.w*s.d/\n ∉ wet)/\shoreC.Nodup:=by
  obtain⟨f,sh,h1,h2,h3,h4,h5,h6⟩:=h
  have hkw:=h3.dry k hk
  have q:(k::wet).Nodup:=List.nodup_cons.mpr ⟨hkw,h4⟩
  have:=q.length_le_of_subset (l₂:=List.range (s.w*s.d)) fun n hn=>List.mem_range.mpr (by
    rcases List.mem_cons.mp hn with rfl|hn
    . exact h6 _ hk
    . exact h5 _ hn)
  simp at this
  exact⟨by omega,h6 _ hk,h4,h5,fun n hn=>⟨h6 n hn,h3.dry n hn⟩,h3.nodup⟩
theorem j0{s:State}{hs:List Nat}{goal:Nat->Bool}:∀(f:Nat) (wet shore:List Nat),∃t,flood s hs goal f wet shore=wet++t
  |0,wet,shore=>⟨[],by rw[List.append_nil];rfl⟩
  |f+1,wet,[]=>⟨[],by rw[List.append_nil,JO]⟩
  | f + 1, wet, k :: r => by
    rw[Q1]
    split
    . exact⟨[k],rfl⟩
    . obtain⟨t,ht⟩:=j0 (s:=s) (hs:=hs) (goal:=goal) f (wet++[k]) (addAll hs (wet++[k]) (neighbours s k) r)
      exact⟨k::t,by rw[ht,List.append_assoc];rfl⟩
theorem zCE{s:State}{goal:Nat->Bool}{k:Nat}(h:0<s.w*s.d):wetFrom s goal k≠[]:=by
  unfold wetFrom
  obtain⟨f,hf⟩:∃f,s.w*s.d=f+1:=⟨s.w*s.d - 1,by omega⟩
  rw[hf,Q1]
  split
  . simp
  . obtain⟨t,ht⟩:=j0 (s:=s) (hs:=heights s) (goal:=goal) f ([]++[k]) (addAll (heights s) ([]++[k]) (neighbours s k) [])
    rw[ht]
    simp
theorem JK{α:Type}:∀{l:List α} {j:Nat} {x y:α},l.Nodup->l[j]?=some x->(y∈l.eraseIdx j↔y∈l/\y≠x)
  |[],j,x,y,_,h=>by simp at h
  | a :: l, 0, x, y, hn, h => by
    obtain rfl:a=x:=Option.some.inj h
    have hn':=List.nodup_cons.mp hn
    rw[List.eraseIdx_cons_zero,List.mem_cons]
    constructor
    . exact fun hy=>⟨.inr hy,fun e=>hn'.1 (e▸hy)⟩
    . rintro ⟨rfl|hy,hne⟩
      . exact absurd rfl hne
      . exact hy
  | a :: l, j + 1, x, y, hn, h => by
    have hn':=List.nodup_cons.mp hn
    have h':l[j]?=some x:=h
    have hx:x∈l:=List.mem_of_getElem? h'
    rw[List.eraseIdx_cons_succ,List.mem_cons,List.mem_cons,JK hn'.2 h']
    constructor
    . rintro (rfl|⟨h1,h2⟩)
      . exact⟨.inl rfl,fun e=>hn'.1 (e▸hx)⟩
      . exact⟨.inr h1,h2⟩
    . rintro ⟨rfl|h1,h2⟩
      . exact .inl rfl
      . exact .inr ⟨h1,h2⟩
theorem nodup_erase{α:Type}{l:List α}(j:Nat)(h:l.Nodup):(l.eraseIdx j).Nodup:=h.sublist (List.eraseIdx_sublist _ _)
end Gm
namespace Gm
section
variable{s:Vbwsan.State}{x y z u:Int}
open Vbwsan
theorem st_cell_no(h:isCell s x y=false):step s (.cell x y)=(s,[-1]):=by unfold step;dsimp only;rw[if_pos h];rfl
theorem st_piece_no(h:isPiece s x y=false):step s (.piece x y)=(s,[-1]):=by unfold step;dsimp only;rw[if_pos h];rfl
theorem st_forget_no(h:isPiece s x y=false):step s (.forget x y)=(s,[-1]):=by unfold step;dsimp only;rw[if_pos h];rfl
theorem st_dig_no(h:isCell s x y=false\/from_ z (-500) 500=false):step s (.dig x y z)=(s,[-1]):=by unfold step;dsimp only;rw[if_pos h];rfl
theorem st_build_no(h:isCell s x y=false\/from_ z 4 9=false):step s (.build x y z)=(s,[-1]):=by unfold step;dsimp only;rw[if_pos h];rfl
theorem st_undo_no(h:isCell s x y=false):step s (.undo x y)=(s,[-1]):=by unfold step;dsimp only;rw[if_pos h];rfl
theorem st_water_no(h:isCell s x y=false):step s (.water x y)=(s,[-1]):=by unfold step;dsimp only;rw[if_pos h];rfl
theorem st_springs_no(h:isPiece s x y=false):step s (.springs x y)=(s,[-1]):=by unfold step;dsimp only;rw[if_pos h];rfl
theorem st_houses_no(h:isPiece s x y=false):step s (.houses x y)=(s,[-1]):=by unfold step;dsimp only;rw[if_pos h];rfl
theorem st_house_no(h:isCell s x y=false):step s (.house x y)=(s,[-1]):=by unfold step;dsimp only;rw[if_pos h];rfl
theorem Jn(h:isCell s x y=false\/isCell s z u=false):step s (.pass x y z u)=(s,[-1]):=by unfold step;dsimp only;rw[if_pos h];rfl
theorem st_raw_no(h:from_ x 1 9=false\/from_ y 0 100=false\/from_ z 0 100=false):step s (.raw x y z)=(s,[-1]):=by unfold step;dsimp only;rw[if_pos h];rfl
theorem st_level_no(h:isCell s x y=false\/from_ z 0 9999=false):step s (.level x y z)=(s,[-1]):=by unfold step;dsimp only;rw[if_pos h];rfl
theorem st_raw(h:¬ (from_ x 1 9=false\/from_ y 0 100=false\/from_ z 0 100=false)):step s (.raw x y z)=(s,[0,(raw s.seed x.toNat y.toNat z.toNat:Int)]):=by unfold step;dsimp only;rw[if_neg h];rfl
theorem st_sum:step s .sum=(s,[0,(((List.range (s.w*s.d)).foldl (fun a k=>let c:=cellAt s (k%s.w) (k / s.w);(a*31+c.1*10+c.2)%PRIME) 7:Nat):Int)]):=by unfold step;rfl
theorem st_state:step s .state=(s,[0,(s.w:Int),(s.d:Int),(s.cap:Int),(s.pieces.length:Int),(s.made:Int),(s.changes.length:Int)]):=by unfold step;rfl
theorem st_house0(h:¬ isCell s x y=false)(ho:houseOver s.seed s.w s.d x.toNat y.toNat=none):step s (.house x y)=(s,[-4]):=by unfold step;dsimp only;rw[if_neg h,ho];rfl
theorem st_house1{a:House}(h:¬ isCell s x y=false)(ho:houseOver s.seed s.w s.d x.toNat y.toNat=some a):step s (.house x y)=(s,[0,(a.x:Int),(a.y:Int),(a.w:Int),(a.d:Int)]):=by unfold step;dsimp only;rw[if_neg h,ho];rfl
theorem st_springs(h:¬ isPiece s x y=false):step s (.springs x y)=(s,0::((pieceCells x.toNat y.toNat).filter fun c=>springAt s c.1 c.2).flatMap fun c=>[(c.1:Int),(c.2:Int)]):=by unfold step;dsimp only;rw[if_neg h];rfl
theorem st_houses(h:¬ isPiece s x y=false):step s (.houses x y)=(s,0::((pieceCells x.toNat y.toNat).filterMap fun c=>houseAt s.seed s.w s.d c.1 c.2).flatMap fun a=>Vbwsan.ints [a.x,a.y,a.w,a.d]):=by unfold step;dsimp only;rw[if_neg h];rfl
theorem st_kept:step s .kept=(s,0::(s.made:Int)::s.pieces.flatMap fun p=>[(p.i:Int),(p.j:Int)]):=by unfold step;rfl
theorem st_changes:step s .changes=(s,0::s.changes.flatMap fun c=>[(c.x:Int),(c.y:Int),c.up,(c.kind:Int)]):=by unfold step;rfl
theorem st_water(h:¬ isCell s x y=false):step s (.water x y)=(s,0::(passOf s (wetFrom s (edge s) (numberOf s x y)):Int)::Vbwsan.ints (wetFrom s (edge s) (numberOf s x y))):=by unfold step;dsimp only;rw[if_neg h];rfl
theorem st_pass(h:¬ (isCell s x y=false\/isCell s z u=false)):step s (.pass x y z u)=(s,[0,(passOf s (wetFrom s (fun k=>k==numberOf s z u) (numberOf s x y)):Int),((wetFrom s (fun k=>k==numberOf s z u) (numberOf s x y)).length:Int)]):=by unfold step;dsimp only;rw[if_neg h];rfl
theorem st_level0(h:¬ (isCell s x y=false\/from_ z 0 9999=false))(h2:z<(heightAt s x.toNat y.toNat:Int)):step s (.level x y z)=(s,[0,0,0]):=by unfold step;dsimp only;rw[if_neg h,if_pos h2];rfl
theorem st_level(h:¬ (isCell s x y=false\/from_ z 0 9999=false))(h2:¬ z<(heightAt s x.toNat y.toNat:Int)):step s (.level x y z)=(s,[0,((within s (heights s) z.toNat (s.w*s.d+1) [numberOf s x y] [numberOf s x y]).length:Int),if (within s (heights s) z.toNat (s.w*s.d+1) [numberOf s x y] [numberOf s x y]).any (edge s)=true then 1 else 0]):=by unfold step;dsimp only;rw[if_neg h,if_neg h2];rfl
theorem st_cell(h:¬ isCell s x y=false):step s (.cell x y)=((look s (x.toNat / 8) (y.toNat / 8)).1,[0,((changedCell (changeAt s x.toNat y.toNat) ((look s (x.toNat / 8) (y.toNat / 8)).2.cells.getD (y.toNat%8*8+x.toNat%8) (0,0))).1:Int),((changedCell (changeAt s x.toNat y.toNat) ((look s (x.toNat / 8) (y.toNat / 8)).2.cells.getD (y.toNat%8*8+x.toNat%8) (0,0))).2:Int)]):=by unfold step;dsimp only;rw[if_neg h];rfl
theorem st_piece(h:¬ isPiece s x y=false):step s (.piece x y)=((look s x.toNat y.toNat).1,0::(cellsNow s (look s x.toNat y.toNat).2).flatMap fun c=>[(c.1:Int),(c.2:Int)]):=by unfold step;dsimp only;rw[if_neg h];rfl
end
end Gm
namespace Gs
open PySem PySem.Spec PyProof.Rows L2
def top(i:Nat):Stmt:=PySem.Challenge.pw_groundseen_s01_answers.main.body.getD i (.Pass ⟨0,0,0,0⟩)
structure Ads where
  C_House:Addr
  C_Pieces:Addr
  t_NO_CHANGE:Addr
  C_Changes:Addr
  t_HEIGHT_LAYERS_0:Addr
  t_HEIGHT_LAYERS_1:Addr
  t_HEIGHT_LAYERS_2:Addr
  t_HEIGHT_LAYERS:Addr
  C_Ground:Addr
  C_World:Addr
  t_SIDES:Addr
  t_CALLS_0:Addr
  t_CALLS_1:Addr
  t_CALLS_2:Addr
  t_CALLS_3:Addr
  t_CALLS_4:Addr
  t_CALLS_5:Addr
  t_CALLS_6:Addr
  t_CALLS_7:Addr
  t_CALLS_8:Addr
  t_CALLS_9:Addr
  t_CALLS_10:Addr
  t_CALLS_11:Addr
  t_CALLS_12:Addr
  t_CALLS_13:Addr
  t_CALLS_14:Addr
  t_CALLS_15:Addr
  t_CALLS_16:Addr
  t_CALLS_17:Addr
  t_CALLS_18:Addr
  t_CALLS_19:Addr
  t_CALLS:Addr
  f_begin_answer:Addr
  f_cell_answer:Addr
  f_piece_answer:Addr
  f_forget_answer:Addr
  f_kept_answer:Addr
  f_dig_answer:Addr
  f_build_answer:Addr
  f_undo_answer:Addr
  f_changes_answer:Addr
  f_water_answer:Addr
  f_springs_answer:Addr
  f_houses_answer:Addr
  f_house_answer:Addr
  f_pass_answer:Addr
  f_raw_answer:Addr
  f_sum_answer:Addr
  f_way_answer:Addr
  f_level_answer:Addr
  f_state_answer:Addr
  f_highest_answer:Addr
structure Glb(K:PySem.W.Frag)(mg:Str->Option Value)(A:Ads):Prop where
  g_CANDIDATE_PURPOSE:GI mg "CANDIDATE_PURPOSE" 5
  g_WIDTH_PURPOSE:GI mg "WIDTH_PURPOSE" 6
  g_DEPTH_PURPOSE:GI mg "DEPTH_PURPOSE" 7
  g_RANK_PURPOSE:GI mg "RANK_PURPOSE" 8
  g_ONE_IN_houses:GI mg "ONE_IN_houses" 12
  g_LEAST_SIDE:GI mg "LEAST_SIDE" 2
  g_GREATEST_SIDE:GI mg "GREATEST_SIDE" 4
  g_FLAT_WITHIN:GI mg "FLAT_WITHIN" 300
  g_PIECE_SIDE:GI mg "PIECE_SIDE" 8
  g_ROCK_FROM:GI mg "ROCK_FROM" 2300
  g_WOOD_FROM:GI mg "WOOD_FROM" 600
  g_PLAIN:GI mg "PLAIN" 0
  g_ROCK:GI mg "ROCK" 1
  g_WOOD:GI mg "WOOD" 2
  g_HOUSE:GI mg "HOUSE" 3
  g_SPRING_PURPOSE:GI mg "SPRING_PURPOSE" 9
  g_ONE_IN_springs:GI mg "ONE_IN_springs" 24
  g_SPRING_FROM:GI mg "SPRING_FROM" 1400
  g_MOST_CHANGED:GI mg "MOST_CHANGED" 60
  g_P:GI mg "P" 2147483647
  g_WOOD_PURPOSE:GI mg "WOOD_PURPOSE" 4
  g_WOOD_WIDE:GI mg "WOOD_WIDE" 4
  g_WOOD_HIGH:GI mg "WOOD_HIGH" 1000
  g_LOWEST:GI mg "LOWEST" 0
  g_HIGHEST:GI mg "HIGHEST" 9999
  g_FIRST_SUM:GI mg "FIRST_SUM" 7
  g_NOT_IN_RANGE:GI mg "NOT_IN_RANGE" (-1)
  g_CANNOT_BE:GI mg "CANNOT_BE" (-3)
  g_THERE_IS_NONE:GI mg "THERE_IS_NONE" (-4)
  g_NO_PLACE:GI mg "NO_PLACE" (-5)
  g_GREATEST_SEED:GI mg "GREATEST_SEED" 1000000000
  g_MOST_KEPT:GI mg "MOST_KEPT" 8
  g_MOST_DUG:GI mg "MOST_DUG" 500
  g_GREATEST_CHANGE:GI mg "GREATEST_CHANGE" 9999
  g_LEAST_BUILT:GI mg "LEAST_BUILT" 4
  g_GREATEST_BUILT:GI mg "GREATEST_BUILT" 9
  g_GREATEST_PURPOSE:GI mg "GREATEST_PURPOSE" 9
  g_GREATEST_RAW_PLACE:GI mg "GREATEST_RAW_PLACE" 100
  g_LONGEST_WAY:GI mg "LONGEST_WAY" 200
  g_WAY:GI mg "WAY" 16
  g_NO_CHANGE:GT K mg "NO_CHANGE" A.t_NO_CHANGE [.int 0,.int 0]
  g_HEIGHT_LAYERS_0:∀H:Hp,SqT K H A.t_HEIGHT_LAYERS_0 [.int 1,.int 16,.int 2000]
  g_HEIGHT_LAYERS_1:∀H:Hp,SqT K H A.t_HEIGHT_LAYERS_1 [.int 2,.int 8,.int 1000]
  g_HEIGHT_LAYERS_2:∀H:Hp,SqT K H A.t_HEIGHT_LAYERS_2 [.int 3,.int 4,.int 500]
  g_HEIGHT_LAYERS:GT K mg "HEIGHT_LAYERS" A.t_HEIGHT_LAYERS [.ref A.t_HEIGHT_LAYERS_0,.ref A.t_HEIGHT_LAYERS_1,.ref A.t_HEIGHT_LAYERS_2]
  g_SIDES:GT K mg "SIDES" A.t_SIDES [.int 8,.int 16,.int 24,.int 32]
  g_CALLS_0:∀H:Hp,SqT K H A.t_CALLS_0 [.ref A.f_begin_answer,.int 4]
  g_CALLS_1:∀H:Hp,SqT K H A.t_CALLS_1 [.ref A.f_cell_answer,.int 2]
  g_CALLS_2:∀H:Hp,SqT K H A.t_CALLS_2 [.ref A.f_piece_answer,.int 2]
  g_CALLS_3:∀H:Hp,SqT K H A.t_CALLS_3 [.ref A.f_forget_answer,.int 2]
  g_CALLS_4:∀H:Hp,SqT K H A.t_CALLS_4 [.ref A.f_kept_answer,.int 0]
  g_CALLS_5:∀H:Hp,SqT K H A.t_CALLS_5 [.ref A.f_dig_answer,.int 3]
  g_CALLS_6:∀H:Hp,SqT K H A.t_CALLS_6 [.ref A.f_build_answer,.int 3]
  g_CALLS_7:∀H:Hp,SqT K H A.t_CALLS_7 [.ref A.f_undo_answer,.int 2]
  g_CALLS_8:∀H:Hp,SqT K H A.t_CALLS_8 [.ref A.f_changes_answer,.int 0]
  g_CALLS_9:∀H:Hp,SqT K H A.t_CALLS_9 [.ref A.f_water_answer,.int 2]
  g_CALLS_10:∀H:Hp,SqT K H A.t_CALLS_10 [.ref A.f_springs_answer,.int 2]
  g_CALLS_11:∀H:Hp,SqT K H A.t_CALLS_11 [.ref A.f_houses_answer,.int 2]
  g_CALLS_12:∀H:Hp,SqT K H A.t_CALLS_12 [.ref A.f_house_answer,.int 2]
  g_CALLS_13:∀H:Hp,SqT K H A.t_CALLS_13 [.ref A.f_pass_answer,.int 4]
  g_CALLS_14:∀H:Hp,SqT K H A.t_CALLS_14 [.ref A.f_raw_answer,.int 3]
  g_CALLS_15:∀H:Hp,SqT K H A.t_CALLS_15 [.ref A.f_sum_answer,.int 0]
  g_CALLS_16:∀H:Hp,SqT K H A.t_CALLS_16 [.ref A.f_way_answer,.int 0]
  g_CALLS_17:∀H:Hp,SqT K H A.t_CALLS_17 [.ref A.f_level_answer,.int 3]
  g_CALLS_18:∀H:Hp,SqT K H A.t_CALLS_18 [.ref A.f_state_answer,.int 0]
  g_CALLS_19:∀H:Hp,SqT K H A.t_CALLS_19 [.ref A.f_highest_answer,.int 0]
  g_CALLS:GT K mg "CALLS" A.t_CALLS [.ref A.t_CALLS_0,.ref A.t_CALLS_1,.ref A.t_CALLS_2,.ref A.t_CALLS_3,.ref A.t_CALLS_4,.ref A.t_CALLS_5,.ref A.t_CALLS_6,.ref A.t_CALLS_7,.ref A.t_CALLS_8,.ref A.t_CALLS_9,.ref A.t_CALLS_10,.ref A.t_CALLS_11,.ref A.t_CALLS_12,.ref A.t_CALLS_13,.ref A.t_CALLS_14,.ref A.t_CALLS_15,.ref A.t_CALLS_16,.ref A.t_CALLS_17,.ref A.t_CALLS_18,.ref A.t_CALLS_19]
  b_len:mg "len"=none
  b_range:mg "range"=none
  b_max:mg "max"=none
  b_min:mg "min"=none
  b_abs:mg "abs"=none
  b_any:mg "any"=none
  b_list:mg "list"=none
  c_House:Cls K A.C_House
  n_House_x:NoAttr K A.C_House "x"
  n_House_y:NoAttr K A.C_House "y"
  n_House_width:NoAttr K A.C_House "width"
  n_House_depth:NoAttr K A.C_House "depth"
  n_House_rank:NoAttr K A.C_House "rank"
  c_Pieces:Cls K A.C_Pieces
  n_Pieces_ground:NoAttr K A.C_Pieces "ground"
  n_Pieces_room:NoAttr K A.C_Pieces "room"
  n_Pieces_made_count:NoAttr K A.C_Pieces "made_count"
  n_Pieces_kept:NoAttr K A.C_Pieces "kept"
  c_Changes:Cls K A.C_Changes
  n_Changes_cells:NoAttr K A.C_Changes "cells"
  c_Ground:Cls K A.C_Ground
  n_Ground_seed:NoAttr K A.C_Ground "seed"
  n_Ground_width:NoAttr K A.C_Ground "width"
  n_Ground_depth:NoAttr K A.C_Ground "depth"
  n_Ground_corners:NoAttr K A.C_Ground "corners"
  c_World:Cls K A.C_World
  n_World_ground:NoAttr K A.C_World "ground"
  n_World_pieces:NoAttr K A.C_World "pieces"
  n_World_changes:NoAttr K A.C_World "changes"
end Gs
open PySem PySem.Spec PyProof.Rows L2 Gs
local macro_rules | `(tactic| walk_at "r1") => `(tactic| first
  |with_reducible refine rd_seq ?_
  |with_reducible refine rd_asg ?_
  |with_reducible refine rd_n0 ?_|with_reducible refine zCJ ?_|with_reducible refine zCc ?_|with_reducible refine zCb ?_|with_reducible refine rd_n4 ?_|with_reducible refine zCI ?_|with_reducible refine zCH ?_|with_reducible refine rd_n7 ?_|with_reducible refine rd_n8 ?_|with_reducible refine rd_n9 ?_|with_reducible refine rd_n10 ?_|with_reducible refine rd_n11 ?_|with_reducible refine rd_n12 ?_
  |with_reducible refine rd_ret ?_
  |with_reducible refine rd_drop ?_
  |((with_reducible refine' jk ?h1 ?_);(case h1=>exact rfl))
  |with_reducible refine rd_c ?_
  |with_reducible refine rd_op ?_
  |with_reducible refine rd_un ?_
  |with_reducible refine rd_I0 ?_
  |((with_reducible refine rd_I ?h1 ?_);(case h1=>(first|(show(0:Int)<_;(first|decide|omega))|(show CDiv _ _;exact⟨by(first|decide|omega),by(first|decide|omega)⟩)|(show CMul _ _;(first|exact .inl ⟨by(first|decide|omega),by(first|decide|omega)⟩|exact .inr ⟨by(first|decide|omega),by(first|decide|omega)⟩)))))
  |with_reducible refine rd_U ?_
  |with_reducible refine rd_fld ?_
  |((with_reducible refine' zBi ?h1 ?h2 ?h3 ?h4 ?_);(case h1=>with_reducible assumption);(case h2=>first|with_reducible exact Glb.c_House (by with_reducible assumption)|with_reducible exact Glb.c_Ground (by with_reducible assumption)|with_reducible exact Glb.c_Pieces (by with_reducible assumption)|with_reducible exact Glb.c_Changes (by with_reducible assumption)|with_reducible exact Glb.c_World (by with_reducible assumption));(case h3=>walk_at "na");(case h4=>exact rfl))
  |with_reducible refine rd_cons ?_
  |((with_reducible refine' Qr (SqT.of ?h1) ?h2 ?_);(case h1=>with_reducible assumption);(case h2=>exact rfl))
  |((with_reducible refine' QQ (SqL.of ?h1) ?h2 ?_);(case h1=>with_reducible assumption);(case h2=>exact rfl))
  |((with_reducible refine' rd_in (SqT.of ?h1) ?h2 ?h3 ?_);(case h1=>with_reducible assumption);(case h2=>exact rfl);(case h3=>exact rfl))
  |with_reducible refine rd_eqI ?_
  |with_reducible refine rd_dget2 ?_
  |((with_reducible refine' rd_dget2a ?h1 ?_);(case h1=>with_reducible assumption))
  |with_reducible refine rd_dpop2 ?_
  |((with_reducible refine' rd_dpop2a ?h1 ?_);(case h1=>with_reducible assumption))
  |with_reducible refine rd_dpop1 ?_
  |((with_reducible refine' rd_dpop1a ?h1 ?_);(case h1=>with_reducible assumption))
  |with_reducible refine rd_faug ?_
  |with_reducible refine rd_addI ?_
  |with_reducible refine rd_sl ?_
  |with_reducible refine rd_part ?_
  |with_reducible refine rd_part1 ?_
  |with_reducible refine rd_cv ?_
  |with_reducible refine rd_max2 ?_
  |with_reducible refine rd_min2 ?_
  |with_reducible refine rd_lc ?_
  |with_reducible refine rd_yes ?_
  |with_reducible refine rd_neI ?_
  |with_reducible refine rd_isN0 ?_
  |with_reducible refine rd_isN1 ?_
  |with_reducible refine rd_notN0 ?_
  |with_reducible refine rd_notN1 ?_
  |with_reducible refine rd_iT ?_
  |with_reducible refine rd_iNF ?_
  |with_reducible refine rd_iNT ?_
  |with_reducible refine rd_iF ?_
  |with_reducible refine rd_nil ?_
  |with_reducible refine rd_call ?_
  |with_reducible refine rd_meth ?_
  |((with_reducible refine' rd_meth1 ?h1 ?h4 ?_);(case h1=>with_reducible assumption);(case h4=>exact rfl))
  |with_reducible refine rd_ifS ?_
  |with_reducible refine rd_test ?_
  |with_reducible refine rd_tB ?_
  |with_reducible refine rd_not ?_
  |with_reducible refine rd_and ?_
  |with_reducible refine rd_or ?_
  |with_reducible refine rd_a0 ?_|with_reducible refine rd_a1 ?_|with_reducible refine rd_a2 ?_|with_reducible refine rd_a3 ?_|with_reducible refine rd_a4 ?_|with_reducible refine rd_a5 ?_|with_reducible refine rd_a6 ?_|with_reducible refine rd_a7 ?_|with_reducible refine rd_a8 ?_|with_reducible refine rd_a9 ?_|with_reducible refine rd_a10 ?_|with_reducible refine rd_a11 ?_|with_reducible refine rd_a12 ?_
  |with_reducible refine rd_ip ?_
  |with_reducible refine rd_bl ?_
  |with_reducible refine rd_lst ?_
  |with_reducible refine rd_tup ?_
  |with_reducible refine rd_cbMax ?_
  |with_reducible refine rd_cbMin ?_
  |with_reducible refine rd_cbAbs ?_
  |with_reducible refine rd_abs ?_
  |with_reducible refine rd_cb ?_
  |with_reducible refine zAu ?_
  |with_reducible refine rd_chain ?_
  |with_reducible refine rd_andV ?_
  |with_reducible refine rd_orV ?_
  |with_reducible refine rd_notV ?_
  |with_reducible refine rd_ifE ?_
  |with_reducible refine rd_sfld ?_
  |((with_reducible refine' qy ?h1 ?h2 ?h3 ?h4 ?_);(case h1=>first|with_reducible assumption|exact zJ);(case h2=>first|with_reducible exact Glb.c_House (by with_reducible assumption)|with_reducible exact Glb.c_Ground (by with_reducible assumption)|with_reducible exact Glb.c_Pieces (by with_reducible assumption)|with_reducible exact Glb.c_Changes (by with_reducible assumption)|with_reducible exact Glb.c_World (by with_reducible assumption));(case h3=>walk_at "na");(case h4=>exact Nat.le_of_ble_eq_true rfl);try rw[upd_upd])
  |with_reducible refine rd_dput ?_
  |with_reducible refine rd_dget ?_
  |with_reducible refine rd_din ?_
  |with_reducible refine rd_dnotin ?_
  |with_reducible refine rd_make ?_
  |with_reducible refine rd_gcons ?_
  |with_reducible refine rd_gnil ?_
  |with_reducible refine rd_bm ?_
  |with_reducible refine rd_for ?_
  |with_reducible refine rd_iTup ?_
  |with_reducible refine rd_iList ?_
  |with_reducible refine rd_iRng2 ?_
  |with_reducible refine rd_iRng1 ?_)
local macro_rules | `(tactic| walk_at "rd") => `(tactic| repeat walk_at "r1")
local macro_rules | `(tactic| walk_at "new") => `(tactic| (refine⟨Nat.le_of_ble_eq_true rfl,?_⟩;intro p hp;apply Ze hp;intro H1 e1 f1 s1;rw[e1];clear e1))
local macro_rules | `(tactic| walk_at "sp") => `(tactic| (with_reducible refine zR (fun z=>?_) (fun z=>?_))<;>walk_at "rd")
local macro_rules | `(tactic| walk_at "dz") => `(tactic| try simp only[decide_eq_true_eq,decide_eq_false_iff_not,Bool.not_eq_true',Bool.not_eq_false'] at *)
local macro_rules | `(tactic| walk_at "na") => `(tactic| first|with_reducible exact Glb.n_House_x (by with_reducible assumption)|with_reducible exact Glb.n_House_y (by with_reducible assumption)|with_reducible exact Glb.n_House_width (by with_reducible assumption)|with_reducible exact Glb.n_House_depth (by with_reducible assumption)|with_reducible exact Glb.n_House_rank (by with_reducible assumption)|with_reducible exact Glb.n_Pieces_ground (by with_reducible assumption)|with_reducible exact Glb.n_Pieces_room (by with_reducible assumption)|with_reducible exact Glb.n_Pieces_made_count (by with_reducible assumption)|with_reducible exact Glb.n_Pieces_kept (by with_reducible assumption)|with_reducible exact Glb.n_Changes_cells (by with_reducible assumption)|with_reducible exact Glb.n_Ground_seed (by with_reducible assumption)|with_reducible exact Glb.n_Ground_width (by with_reducible assumption)|with_reducible exact Glb.n_Ground_depth (by with_reducible assumption)|with_reducible exact Glb.n_Ground_corners (by with_reducible assumption)|with_reducible exact Glb.n_World_ground (by with_reducible assumption)|with_reducible exact Glb.n_World_pieces (by with_reducible assumption)|with_reducible exact Glb.n_World_changes (by with_reducible assumption))
namespace Gs
open PySem PySem.Spec PyProof.Rows L2
section
variable{P:Program}{w:World}{K:PySem.W.Frag}{mg:Str->Option Value}{base:Heap}{A:Ads}
def jb:Sp:=fun vs H Q _=>∃h v:Nat,vs=[.int h,.int v]/\h<2147483647/\Q (.int (Vbwsan.stir h v:Nat)) H
abbrev JC:Stmt:=top 53
theorem Jq:FnScope ["h","v","a"] ["h","v"] (defScope JC):=⟨rfl,rfl,rfl,by decide +kernel,rfl,by decide +kernel,by decide +kernel⟩
theorem ok_stirred{f:Addr}{fd:FuncData}(F:Fun K "stirred" "stirred" JC f fd)(T:Glb K mg A):FnOk P w K mg base CX0 1 f fd ["h","v"] jb:=by
  refine F.ok Jq (fun vs H Q E h=>?_) (fun cdv Ar outer s H vs Q E hr h=>?_)
  . obtain⟨h,v,rfl,_⟩:=h
    rfl
  . obtain⟨h,v,rfl,hh,q⟩:=h
    refine⟨_,(zB (zG (i:=2) Jq.nd rfl (Or.inl rfl) (zK QA (zK zW (zK ZF (pv 0) zE) (zK ZF (zK zW (pv 1) zE) zE)) (zM T.g_P)))
      (zD (zH (zK QA (zK zW (zK ZF (pv 2) (pv 2)) zE) (zM T.g_P))))),?_⟩
    refine st0 (σ0:=[some _,some _,none]) rfl ?_
    try dsimp only[cxOf]
    walk_at "rd"
    refine zCD q ?_
    simp only[Vbwsan.stir,Vbwsan.PRIME]
    simp only[Int.natCast_emod,Int.natCast_add,Int.natCast_mul]
    rfl
theorem zAr(h v:Nat):Vbwsan.stir h v<2147483647:=by
  unfold Vbwsan.stir Vbwsan.PRIME
  exact Nat.mod_lt _ (by decide)
def QJ:Sp:=fun vs H Q _=>∃seed p x y:Nat,vs=[.int seed,.int p,.int x,.int y]/\Q (.int (Vbwsan.raw seed p x y:Nat)) H
abbrev Qk:Stmt:=top 54
theorem QK:FnScope ["seed","purpose","x","y","by_purpose","by_cell"] ["seed","purpose","x","y"] (defScope Qk):=⟨rfl,rfl,rfl,by decide +kernel,rfl,by decide +kernel,by decide +kernel⟩
theorem ok_raw_number{f:Addr}{fd:FuncData}(F:Fun K "raw_number" "raw_number" Qk f fd)(T:Glb K mg A)(f_stirred:FnAt P w K mg base 1 "stirred" ["h","v"] jb):
    FnOk P w K mg base CX0 2 f fd ["seed","purpose","x","y"] QJ:=by
  refine F.ok QK (fun vs H Q E h=>?_) (fun cdv Ar outer s H vs Q E hr h=>?_)
  . obtain⟨a,b,c,d,rfl,_⟩:=h
    rfl
  . obtain⟨seed,p,x,y,rfl,q⟩:=h
    refine⟨_,(zB (zG (i:=4) QK.nd rfl (Or.inl rfl) (zV f_stirred hr (zA (zK QA (pv 0) (zM T.g_P)) (zA (pv 1) zC))))
      (zB (zG (i:=5) QK.nd rfl (Or.inl rfl) (zV f_stirred hr (zA (zV f_stirred hr (zA (pv 4) (zA (pv 2) zC))) (zA (pv 3) zC))))
      (zD (zH (zV f_stirred hr (zA (pv 5) (zA zE zC))))))),?_⟩
    refine st0 (σ0:=[some _,some _,some _,some _,none,none]) rfl ?_
    try dsimp only[cxOf]
    walk_at "rd"
    refine⟨seed%2147483647,p,by simp,by omega,?_⟩
    walk_at "rd"
    refine⟨_,x,rfl,zAr _ _,?_⟩
    walk_at "rd"
    refine⟨_,y,rfl,zAr _ _,?_⟩
    walk_at "rd"
    refine⟨_,0,rfl,zAr _ _,?_⟩
    exact q
def groundF(seed w d:Nat)(da:Addr):List (Str×V):=[("seed",.int seed),("width",.int w),("depth",.int d),("corners",.ref da)]
def lays:List Vbwsan.Layer:=[⟨1,16,2000⟩,⟨2,8,1000⟩,⟨3,4,500⟩,⟨4,4,1000⟩]
def Side(n:Nat):Prop:=n=8\/n=16\/n=24\/n=32
def CorOk(seed:Nat)(kvs:List (List Key×V)):Prop:=(kvs.map (·.1)).Nodup/\∀kv∈kvs,∃l∈lays,∃i j:Nat,i<=9/\j<=9/\kv=([.inl l.purpose,.inl i,.inl j],.int (Vbwsan.corner seed l i j:Nat))
structure GrAt(A:Ads)(H:Hp)(g da:Addr)(seed w d:Nat):Prop where
  ins:∃dx,H g=some (.ins A.C_Ground dx (groundF seed w d da))
  cor:∃kvs,H da=some (.dT kvs)/\CorOk seed kvs
  wd:Side w
  dp:Side d
def allKeys:List (List Key):=lays.flatMap fun l=>(List.range 10).flatMap fun(i:Nat)=>(List.range 10).map fun(j:Nat)=>[.inl (l.purpose:Int),.inl (i:Int),.inl (j:Int)]
theorem CorOk.len{seed:Nat}{kvs:List (List Key×V)}(h:CorOk seed kvs):kvs.length<=400:=by
  have e:(kvs.map (·.1)).length<=allKeys.length:=h.1.length_le_of_subset fun k hk=>by
    obtain⟨kv,h1,rfl⟩:=List.mem_map.mp hk
    obtain⟨l,hl,i,j,hi,hj,e⟩:=h.2 kv h1
    rw[e]
    refine List.mem_flatMap.mpr ⟨l,hl,List.mem_flatMap.mpr ⟨i,List.mem_range.mpr (by omega),List.mem_map.mpr ⟨j,List.mem_range.mpr (by omega),rfl⟩⟩⟩
  rw[List.length_map] at e
  have e2:allKeys.length=400:=by decide +kernel
  omega
theorem CorOk.look{seed:Nat}{kvs:List (List Key×V)}(h:CorOk seed kvs){l:Vbwsan.Layer}(hl:l∈lays){i j:Nat}{v:V}(e:valV kvs [.inl l.purpose,.inl i,.inl j]=some v):v=.int (Vbwsan.corner seed l i j:Nat):=by
  unfold valV at e
  obtain⟨kv,h1,h2⟩:=Option.map_eq_some_iff.mp e
  have m:=List.mem_of_find?_eq_some h1
  have k:kv.1=[.inl (l.purpose:Int),.inl (i:Int),.inl (j:Int)]:=of_decide_eq_true (by have:=List.find?_some h1;exact this)
  obtain⟨l',hl',i',j',_,_,e'⟩:=h.2 kv m
  rw[e'] at k h2
  simp at k
  obtain⟨k1,k2,k3⟩:=k
  have e1:l'=l:=by
    simp[lays] at hl hl'
    rcases hl with rfl|rfl|rfl|rfl<;>rcases hl' with rfl|rfl|rfl|rfl<;>simp_all
  have e2:i'=i:=by omega
  have e3:j'=j:=by omega
  rw[<-h2,e1,e2,e3]
theorem CorOk.put{seed:Nat}{kvs:List (List Key×V)}(h:CorOk seed kvs){l:Vbwsan.Layer}(hl:l∈lays){i j:Nat}(hi:i<=9)(hj:j<=9)(e:valV kvs [.inl l.purpose,.inl i,.inl j]=none):
    CorOk seed (putK kvs [.inl l.purpose,.inl i,.inl j] (.int (Vbwsan.corner seed l i j:Nat)))/\valV (putK kvs [.inl l.purpose,.inl i,.inl j] (.int (Vbwsan.corner seed l i j:Nat))) [.inl l.purpose,.inl i,.inl j]=some (.int (Vbwsan.corner seed l i j:Nat)):=by
  have ha:(kvs.any fun kv=>decide (kv.1=[.inl (l.purpose:Int),.inl (i:Int),.inl (j:Int)]))=false:=by rw[Zy,e];rfl
  have hp:putK kvs [.inl (l.purpose:Int),.inl (i:Int),.inl (j:Int)] (.int (Vbwsan.corner seed l i j:Nat))=kvs++[([.inl (l.purpose:Int),.inl (i:Int),.inl (j:Int)],.int (Vbwsan.corner seed l i j:Nat))]:=by
    unfold putK;rw[if_neg (by rw[ha];decide)]
  rw[hp]
  have hn:∀kv∈kvs,¬ kv.1=[.inl (l.purpose:Int),.inl (i:Int),.inl (j:Int)]:=fun kv m q=>by
    have:=List.any_eq_false.mp ha kv m
    simp[q] at this
  refine⟨⟨?_,fun kv hkv=>?_⟩,?_⟩
  . rw[List.map_append,List.nodup_append]
    refine⟨h.1,by simp,fun a ha' b hb=>?_⟩
    simp at hb
    obtain⟨kv,m,rfl⟩:=List.mem_map.mp ha'
    rw[hb]
    exact hn kv m
  . rcases List.mem_append.mp hkv with m|m
    . exact h.2 kv m
    . simp at m
      exact⟨l,hl,i,j,hi,hj,m⟩
  . unfold valV at e ⊢
    rw[List.find?_append]
    cases q:kvs.find? (fun kv=>decide (kv.1=[.inl (l.purpose:Int),.inl (i:Int),.inl (j:Int)])) with
    |some z=>rw[q] at e;simp at e
    |none=>simp
end
end Gs
namespace Gs
open PySem PySem.Spec PyProof.Rows L2
section
variable{P:Program}{w:World}{K:PySem.W.Frag}{mg:Str->Option Value}{base:Heap}{A:Ads}
def sp_Ground_init(A:Ads):Sp:=fun vs H Q _=>∃(p dx:Addr) (seed w d:Nat),vs=[.ref p,.int seed,.int w,.int d]/\H p=some (.ins A.C_Ground dx [])/\
  ∀H' da,H' p=some (.ins A.C_Ground dx (groundF seed w d da))->H da=none->H' da=some (.dT [])->Ext p H H'->Q .non H'
abbrev Z7:Stmt:=inClass (top 60) 0
theorem sc_Ground___init__:FnScope ["self","seed","width","depth"] ["self","seed","width","depth"] (defScope Z7):=⟨rfl,rfl,rfl,by decide +kernel,rfl,by decide +kernel,by decide +kernel⟩
theorem ok_Ground_init{f:Addr}{fd:FuncData}(F:Fun K "__init__" "Ground.__init__" Z7 f fd)(T:Glb K mg A):FnOk P w K mg base CX0 1 f fd ["self","seed","width","depth"] (sp_Ground_init A):=by
  refine F.ok sc_Ground___init__ (fun vs H Q E h=>?_) (fun cdv Ar outer s H vs Q E hr h=>?_)
  . obtain⟨p,dx,a,b,c,rfl,_⟩:=h
    rfl
  . obtain⟨p,dx,seed,w,d,rfl,hp,k⟩:=h
    refine⟨_,(zB (Zd (pv 0) (pv 1) rfl)
      (zB (Zd (pv 0) (pv 2) rfl)
      (zB (Zd (pv 0) (pv 3) rfl)
      (zD (Zd (pv 0) jv rfl))))),?_⟩
    refine st0 (σ0:=[some _,some _,some _,some _]) rfl ?_
    try dsimp only[cxOf]
    walk_at "rd"
    refine jt fun da hda=>?_
    have npd:p≠da:=fun e=>by rw[<-e,zJ] at hda;cases hda
    refine' jk rfl ?_
    refine qy (by rw[zI npd];exact zJ) T.c_Ground T.n_Ground_corners (Nat.le_of_ble_eq_true rfl) ?_
    refine k _ da zJ (by rw[zI (Ne.symm npd)] at hda;exact hda) (by rw[zI (Ne.symm npd)];exact zJ) fun b o e n=>?_
    rw[zI n,zI,zI n]
    . exact e
    . intro q
      rw[<-q,zI n,e] at hda
      cases hda
def sp_has_cell(A:Ads):Sp:=fun vs H Q _=>∃(g dx da:Addr) (seed w d:Nat) (x y:Int),vs=[.ref g,.int x,.int y]/\H g=some (.ins A.C_Ground dx (groundF seed w d da))/\
  Q (.bl (decide (0<=x/\x<w/\0<=y/\y<d))) H
abbrev s_Ground_has_cell:Stmt:=inClass (top 60) 1
theorem sc_Ground_has_cell:FnScope ["self","x","y"] ["self","x","y"] (defScope s_Ground_has_cell):=⟨rfl,rfl,rfl,by decide +kernel,rfl,by decide +kernel,by decide +kernel⟩
theorem ok_has_cell {f : Addr} {fd : FuncData} (F : Fun K "has_cell" "Ground.has_cell" s_Ground_has_cell f fd) (T : Glb K mg A) : FnOk P w K mg base CX0 1 f fd ["self", "x", "y"] (sp_has_cell A) := by
  refine F.ok sc_Ground_has_cell (fun vs H Q E h=>?_) (fun cdv Ar outer s H vs Q E hr h=>?_)
  . obtain⟨g,dx,da,a,b,c,x,y,rfl,_⟩:=h
    rfl
  . obtain⟨g,dx,da,seed,w,d,x,y,rfl,hg,q⟩:=h
    refine⟨_,(zD (zH (jl (QY z9 jT zE (pv 1) (zF (pv 0) rfl)) (Qw (QY z9 jT zE (pv 2) (zF (pv 0) rfl)))))),?_⟩
    refine st0 (σ0:=[some _,some _,some _]) rfl ?_
    try dsimp only[cxOf]
    walk_at "rd"
    refine zR (fun h1=>?_) (fun h1=>?_)
    . walk_at "rd"
      refine zR (fun h2=>?_) (fun h2=>?_)
      . walk_at "rd"
        refine zR (fun h3=>?_) (fun h3=>?_)
        . walk_at "rd"
          refine Q_bl q (decide_eq_decide.mpr ?_)
          simp at h1 h2 h3
          omega
        . refine Q_bl q ?_
          simp at h1 h2 h3 ⊢
          omega
      . refine Q_bl q ?_
        simp at h1 h2 ⊢
        omega
    . walk_at "rd"
      refine Q_bl q ?_
      simp at h1 ⊢
      omega
def sp_Ground_raw(A:Ads):Sp:=fun vs H Q _=>∃(g dx da:Addr) (seed w d p x y:Nat),vs=[.ref g,.int p,.int x,.int y]/\H g=some (.ins A.C_Ground dx (groundF seed w d da))/\
  Q (.int (Vbwsan.raw seed p x y:Nat)) H
abbrev Qq:Stmt:=inClass (top 60) 2
theorem sc_Ground_raw:FnScope ["self","purpose","x","y"] ["self","purpose","x","y"] (defScope Qq):=⟨rfl,rfl,rfl,by decide +kernel,rfl,by decide +kernel,by decide +kernel⟩
theorem ok_Ground_raw{f:Addr}{fd:FuncData}(F:Fun K "raw" "Ground.raw" Qq f fd)(T:Glb K mg A)(f_raw_number:FnAt P w K mg base 2 "raw_number" ["seed","purpose","x","y"] QJ):
    FnOk P w K mg base CX0 3 f fd ["self","purpose","x","y"] (sp_Ground_raw A):=by
  refine F.ok sc_Ground_raw (fun vs H Q E h=>?_) (fun cdv Ar outer s H vs Q E hr h=>?_)
  . obtain⟨g,dx,da,a,b,c,p,x,y,rfl,_⟩:=h
    rfl
  . obtain⟨g,dx,da,seed,w,d,p,x,y,rfl,hg,q⟩:=h
    refine⟨_,(zD (zH (zV f_raw_number hr (zA (zF (pv 0) rfl) (zA (pv 1) (zA (pv 2) (zA (pv 3) zC))))))),?_⟩
    refine st0 (σ0:=[some _,some _,some _,some _]) rfl ?_
    try dsimp only[cxOf]
    walk_at "rd"
    exact⟨seed,p,x,y,rfl,q⟩
def JB(A:Ads):Sp:=fun vs H Q _=>∃(g da:Addr) (seed w d i j:Nat) (l:Vbwsan.Layer),vs=[.ref g,.int l.purpose,.int l.high,.int i,.int j]/\l∈lays/\GrAt A H g da seed w d/\i<=9/\j<=9/\
  ∀H',GrAt A H' g da seed w d->Ext da H H'->Q (.int (Vbwsan.corner seed l i j:Nat)) H'
abbrev s_Ground_corner:Stmt:=inClass (top 60) 3
theorem QV:FnScope ["self","purpose","high","i","j","place"] ["self","purpose","high","i","j"] (defScope s_Ground_corner):=⟨rfl,rfl,rfl,by decide +kernel,rfl,by decide +kernel,by decide +kernel⟩
theorem ok_corner {f : Addr} {fd : FuncData} (F : Fun K "corner" "Ground.corner" s_Ground_corner f fd) (T : Glb K mg A) (m_Ground_raw : MtAt P w K mg base 3 A.C_Ground "raw" ["self", "purpose", "x", "y"] (sp_Ground_raw A)) :
    FnOk P w K mg base CX0 4 f fd ["self","purpose","high","i","j"] (JB A):=by
  refine F.ok QV (fun vs H Q E h=>?_) (fun cdv Ar outer s H vs Q E hr h=>?_)
  . obtain⟨g,da,a,b,c,i,j,l,rfl,_⟩:=h
    rfl
  . obtain⟨g,da,seed,w,d,i,j,l,rfl,hl,G,hi,hj,k⟩:=h
    have hu:=ZB hr
    refine⟨_,(zB (zG (i:=5) QV.nd rfl (Or.inl rfl) (zu (zA (pv 1) (zA (pv 3) (zA (pv 4) zC)))))
      (zB (zf (zAx (JH hu (pv 5) (zF (pv 0) rfl))) (zD (Qv hu (zF (pv 0) rfl) (pv 5) (zK QA (zT (pv 0) T.c_Ground m_Ground_raw hr (zA (pv 1) (zA (pv 3) (zA (pv 4) zC)))) (zK zW (pv 2) zE)) rfl)) zP)
      (zD (zH (zBm hu (zF (pv 0) rfl) (pv 5) (fun _ _=>rfl)))))),?_⟩
    refine st0 (σ0:=[some _,some _,some _,some _,some _,none]) rfl ?_
    try dsimp only[cxOf]
    walk_at "rd"
    walk_at "new"
    rename_i p hp H1 f1 s1
    obtain⟨⟨dx,hg⟩,⟨kvs,hda,hc⟩,hw,hd⟩:=G
    have hg1:=s1 _ _ hg
    have hda1:=s1 _ _ hda
    have fk:H1 p=some (HO.tup (([.inl (l.purpose:Int),.inl (i:Int),.inl (j:Int)]:List Key).map kV)):=f1
    have npd:p≠da:=za f1 hda1 (by intro z;cases z)
    have ngd:g≠da:=za hg1 hda1 (by intro z;cases z)
    walk_at "rd"
    refine jI (DGet.t hda1 fk) ?_
    walk_at "rd"
    refine zR (fun h1=>?_) (fun h1=>?_)
    . have hn:valV kvs [.inl (l.purpose:Int),.inl (i:Int),.inl (j:Int)]=none:=by
        cases q:valV kvs [.inl (l.purpose:Int),.inl (i:Int),.inl (j:Int)] with
        |none=>rfl
        |some z=>rw[q] at h1;cases h1
      obtain⟨hc2,hv2⟩:=hc.put hl hi hj hn
      have hlen:=hc.len
      walk_at "rd"
      refine⟨g,dx,da,seed,w,d,l.purpose,i,j,rfl,hg1,?_⟩
      walk_at "rd"
      refine qz (.inr ⟨kvs,_,p,hda1,rfl,fk,by rw[sizeLine_eq];omega,rfl⟩) ?_
      have ev:((Vbwsan.raw seed l.purpose i j:Nat):Int)%((l.high:Int)+1)=(Vbwsan.corner seed l i j:Nat):=by
        unfold Vbwsan.corner
        rw[Int.natCast_emod]
        rfl
      rw[ev]
      apply ZI
      intro H2 e2 f2 s2
      rw[e2]
      clear e2
      have hg2:=s2 _ _ hg1 ngd
      have fk2:=s2 _ _ fk npd
      walk_at "rd"
      refine Jt (by rw[<-hv2];exact DGet.t f2 fk2) ?_
      exact k _ ⟨⟨dx,hg2⟩,⟨_,f2,hc2⟩,hw,hd⟩ (s1.ext.trans s2)
    . cases q:valV kvs [.inl (l.purpose:Int),.inl (i:Int),.inl (j:Int)] with
      |none=>rw[q] at h1;cases h1
      | some z =>
        have ez:=hc.look hl q
        subst ez
        walk_at "rd"
        refine Jt (by rw[<-q];exact DGet.t hda1 fk) ?_
        exact k _ ⟨⟨dx,hg1⟩,⟨_,hda1,hc⟩,hw,hd⟩ s1.ext
end
end Gs
namespace Gs
open PySem PySem.Spec PyProof.Rows L2
section
variable{P:Program}{w:World}{K:PySem.W.Frag}{mg:Str->Option Value}{base:Heap}{A:Ads}
theorem lays_wide{l:Vbwsan.Layer}(hl:l∈lays):(4:Int)<=l.wide/\(l.wide:Int)<=16/\(l.high:Int)<=2000/\(0:Int)<(l.wide:Int)*(l.wide:Int)/\(l.wide:Int)*(l.wide:Int)<1073741824:=by
  simp[lays] at hl
  rcases hl with rfl|rfl|rfl|rfl<;>decide
theorem jP(seed:Nat)(l:Vbwsan.Layer)(i j:Nat):Vbwsan.corner seed l i j<=l.high:=by
  unfold Vbwsan.corner
  exact Nat.le_of_lt_succ (Nat.mod_lt _ (Nat.succ_pos _))
def sp_layer_at(A:Ads):Sp:=fun vs H Q _=>∃(g da:Addr) (seed w d x y:Nat) (l:Vbwsan.Layer),vs=[.ref g,.int l.purpose,.int l.wide,.int l.high,.int x,.int y]/\l∈lays/\GrAt A H g da seed w d/\x<=35/\y<=35/\
  ∀H',GrAt A H' g da seed w d->Ext da H H'->Q (.int (Vbwsan.layerAt seed l x y:Nat)) H'
abbrev Z6:Stmt:=inClass (top 60) 4
theorem ze:FnScope ["self","purpose","wide","high","x","y","i","j","u","v","total"] ["self","purpose","wide","high","x","y"] (defScope Z6):=⟨rfl,rfl,rfl,by decide +kernel,rfl,by decide +kernel,by decide +kernel⟩
theorem ok_layer_at{f:Addr}{fd:FuncData}(F:Fun K "layer_at" "Ground.layer_at" Z6 f fd)(T:Glb K mg A)(m_Ground_corner:MtAt P w K mg base 4 A.C_Ground "corner" ["self","purpose","high","i","j"] (JB A)):
    FnOk P w K mg base CX0 5 f fd ["self","purpose","wide","high","x","y"] (sp_layer_at A):=by
  refine F.ok ze (fun vs H Q E h=>?_) (fun cdv Ar outer s H vs Q E hr h=>?_)
  . obtain⟨g,da,a,b,c,i,j,l,rfl,_⟩:=h
    rfl
  . obtain⟨g,da,seed,w,d,x,y,l,rfl,hl,G,hx,hy,k⟩:=h
    obtain⟨w1,w2,w3,w4,w5⟩:=lays_wide hl
    have u1:=Int.emod_nonneg (x:Int) (show(l.wide:Int)≠0 by omega)
    have u2:=Int.emod_lt_of_pos (x:Int) (show(0:Int)<l.wide by omega)
    have v1:=Int.emod_nonneg (y:Int) (show(l.wide:Int)≠0 by omega)
    have v2:=Int.emod_lt_of_pos (y:Int) (show(0:Int)<l.wide by omega)
    have i9:x / l.wide<=8:=by
      have:x / l.wide<=x / 4:=Nat.div_le_div_left (by omega) (by decide)
      omega
    have j9:y / l.wide<=8:=by
      have:y / l.wide<=y / 4:=Nat.div_le_div_left (by omega) (by decide)
      omega
    have c1:=jP seed l (x / l.wide) (y / l.wide)
    have c2:=jP seed l (x / l.wide+1) (y / l.wide)
    have c3:=jP seed l (x / l.wide) (y / l.wide+1)
    have c4:=jP seed l (x / l.wide+1) (y / l.wide+1)
    obtain⟨dx,hg⟩:=G.ins
    refine⟨_,(zB (zG (i:=6) ze.nd rfl (Or.inl rfl) (zK QH (pv 4) (pv 2)))
      (zB (zG (i:=7) ze.nd rfl (Or.inl rfl) (zK QH (pv 5) (pv 2)))
      (zB (zG (i:=8) ze.nd rfl (Or.inl rfl) (zK QA (pv 4) (pv 2)))
      (zB (zG (i:=9) ze.nd rfl (Or.inl rfl) (zK QA (pv 5) (pv 2)))
      (zB (zG (i:=10) ze.nd rfl (Or.inl rfl) (zK ZF (zK ZF (zT (pv 0) T.c_Ground m_Ground_corner hr (zA (pv 1) (zA (pv 3) (zA (pv 6) (zA (pv 7) zC))))) (zK ZR (pv 2) (pv 8))) (zK ZR (pv 2) (pv 9))))
      (zB (ps_aug (i:=10) ze.nd rfl (Or.inl rfl) (zK ZF (zK ZF (zT (pv 0) T.c_Ground m_Ground_corner hr (zA (pv 1) (zA (pv 3) (zA (zK zW (pv 6) zE) (zA (pv 7) zC))))) (pv 8)) (zK ZR (pv 2) (pv 9))) J9)
      (zB (ps_aug (i:=10) ze.nd rfl (Or.inl rfl) (zK ZF (zK ZF (zT (pv 0) T.c_Ground m_Ground_corner hr (zA (pv 1) (zA (pv 3) (zA (pv 6) (zA (zK zW (pv 7) zE) zC))))) (zK ZR (pv 2) (pv 8))) (pv 9)) J9)
      (zB (ps_aug (i:=10) ze.nd rfl (Or.inl rfl) (zK ZF (zK ZF (zT (pv 0) T.c_Ground m_Ground_corner hr (zA (pv 1) (zA (pv 3) (zA (zK zW (pv 6) zE) (zA (zK zW (pv 7) zE) zC))))) (pv 8)) (pv 9)) J9)
      (zD (zH (zK QH (pv 10) (zK ZF (pv 2) (pv 2))))))))))))),?_⟩
    refine st0 (σ0:=[some _,some _,some _,some _,some _,some _,none,none,none,none,none]) rfl ?_
    try dsimp only[cxOf]
    walk_at "rd"
    refine⟨g,da,seed,w,d,x / l.wide,y / l.wide,l,rfl,hl,G,by omega,by omega,fun H1 G1 e1=>?_⟩
    obtain⟨dx1,hg1⟩:=G1.ins
    walk_at "rd"
    refine⟨g,da,seed,w,d,x / l.wide+1,y / l.wide,l,rfl,hl,G1,by omega,by omega,fun H2 G2 e2=>?_⟩
    obtain⟨dx2,hg2⟩:=G2.ins
    walk_at "rd"
    refine⟨g,da,seed,w,d,x / l.wide,y / l.wide+1,l,rfl,hl,G2,by omega,by omega,fun H3 G3 e3=>?_⟩
    obtain⟨dx3,hg3⟩:=G3.ins
    walk_at "rd"
    refine⟨g,da,seed,w,d,x / l.wide+1,y / l.wide+1,l,rfl,hl,G3,by omega,by omega,fun H4 G4 e4=>?_⟩
    walk_at "rd"
    refine zCD (k _ G4 (((e1.trans e2).trans e3).trans e4)) ?_
    unfold Vbwsan.layerAt
    have hp:((l.wide - x%l.wide:Nat):Int)=(l.wide:Int) - (x:Int)%(l.wide:Int):=by
      rw[Int.ofNat_sub (Nat.le_of_lt (Nat.mod_lt _ (by omega)))]
      rfl
    have hq:((l.wide - y%l.wide:Nat):Int)=(l.wide:Int) - (y:Int)%(l.wide:Int):=by
      rw[Int.ofNat_sub (Nat.le_of_lt (Nat.mod_lt _ (by omega)))]
      rfl
    simp only[Int.natCast_ediv,Int.natCast_add,Int.natCast_mul,hp,hq,Int.natCast_emod]
theorem zZ{α:Type}:∀{l:List α} {i:Nat} {x:α},l[i]?=some x->l.take (i+1)=l.take i++[x]
  |[],i,x,h=>by simp at h
  | a :: l, 0, x, h => by
    have e:a=x:=Option.some.inj h
    subst e
    rfl
  | a :: l, i + 1, x, h => by
    have ih:=zZ (l:=l) (i:=i) (x:=x) h
    show a::l.take (i+1)=a::l.take i++[x]
    rw[ih]
    rfl
theorem foldr_add(l:List Nat)(z:Nat):l.foldr (fun a b=>a+b) z=l.foldr (fun a b=>a+b) 0+z:=by
  induction l with
  |nil=>simp
  |cons a r ih=>simp only[List.foldr_cons,ih];omega
def ZD(A:Ads):Sp:=fun vs H Q _=>∃(g da:Addr) (seed w d x y:Nat),vs=[.ref g,.int x,.int y]/\GrAt A H g da seed w d/\x<=35/\y<=35/\
  ∀H',GrAt A H' g da seed w d->Ext da H H'->Q (.int (Vbwsan.madeHeight seed x y:Nat)) H'
abbrev s_Ground_made_height:Stmt:=inClass (top 60) 5
theorem zi:FnScope ["self","x","y","height","purpose","wide","high"] ["self","x","y"] (defScope s_Ground_made_height):=⟨rfl,rfl,rfl,by decide +kernel,rfl,by decide +kernel,by decide +kernel⟩
theorem ok_made_height {f : Addr} {fd : FuncData} (F : Fun K "made_height" "Ground.made_height" s_Ground_made_height f fd) (T : Glb K mg A) (m_Ground_layer_at : MtAt P w K mg base 5 A.C_Ground "layer_at" ["self", "purpose", "wide", "high", "x", "y"] (sp_layer_at A)) :
    FnOk P w K mg base CX0 6 f fd ["self","x","y"] (ZD A):=by
  refine F.ok zi (fun vs H Q E h=>?_) (fun cdv Ar outer s H vs Q E hr h=>?_)
  . obtain⟨g,da,a,b,c,i,j,rfl,_⟩:=h
    rfl
  . obtain⟨g,da,seed,w,d,x,y,rfl,G,hx,hy,k⟩:=h
    refine⟨_,(zB (zG (i:=3) zi.nd rfl (Or.inl rfl) zE)
      (zB (ZQ PassesOwn.never rfl (pi_tup (JU T.g_HEIGHT_LAYERS)) (JG (n:=3) rfl (ZN (zX (i:=4) zi.nd rfl (Or.inl rfl)) (ZN (zX (i:=5) zi.nd rfl (Or.inl rfl)) (ZN (zX (i:=6) zi.nd rfl (Or.inl rfl)) jK)))) (zD (ps_aug (i:=3) zi.nd rfl (Or.inl rfl) (zT (pv 0) T.c_Ground m_Ground_layer_at hr (zA (pv 4) (zA (pv 5) (zA (pv 6) (zA (pv 1) (zA (pv 2) zC)))))) J9)))
      (zD (zH (pv 3))))),?_⟩
    refine st0 (σ0:=[some _,some _,some _,none,none,none,none]) rfl ?_
    try dsimp only[cxOf]
    walk_at "rd"
    refine rd_iTup1 (T.g_HEIGHT_LAYERS.2 H) ?_
    refine fw_tup (fun i σ H'=>∃v4 v5 v6:Option V,σ=[some (.ref g),some (.int x),some (.int y),some (.int ((Vbwsan.sumOf ((Vbwsan.layers.take i).map fun l=>Vbwsan.layerAt seed l x y):Nat):Int)),v4,v5,v6]/\GrAt A H' g da seed w d/\Ext da H H')
      ⟨none,none,none,rfl,G,Ext.refl⟩ (fun _ _ H' _ _=>T.g_HEIGHT_LAYERS.2 H') ?_ ?_
    . rintro i a σ H' hi ⟨v4,v5,v6,rfl,G1,e1⟩
      obtain⟨l,b,hl1,hl2,rfl,hl3⟩:∃l b,Vbwsan.layers[i]?=some l/\l∈lays/\a=V.ref b/\SqT K H' b [.int l.purpose,.int l.wide,.int l.high]:=by
        match i,hi with
        |0,hi=>exact⟨⟨1,16,2000⟩,_,rfl,by decide,(Option.some.inj hi).symm,T.g_HEIGHT_LAYERS_0 H'⟩
        |1,hi=>exact⟨⟨2,8,1000⟩,_,rfl,by decide,(Option.some.inj hi).symm,T.g_HEIGHT_LAYERS_1 H'⟩
        |2,hi=>exact⟨⟨3,4,500⟩,_,rfl,by decide,(Option.some.inj hi).symm,T.g_HEIGHT_LAYERS_2 H'⟩
        |n+3,hi=>simp at hi
      obtain⟨dx,hg⟩:=G1.ins
      refine jH hl3 rfl ?_
      walk_at "rd"
      refine⟨g,da,seed,w,d,x,y,l,rfl,hl2,G1,hx,hy,fun H2 G2 e2=>?_⟩
      walk_at "rd"
      have e3:((Vbwsan.sumOf ((Vbwsan.layers.take (i+1)).map fun l=>Vbwsan.layerAt seed l x y):Nat):Int)=(Vbwsan.sumOf ((Vbwsan.layers.take i).map fun l=>Vbwsan.layerAt seed l x y):Nat)+(Vbwsan.layerAt seed l x y:Nat):=by
        rw[zZ hl1,List.map_append]
        simp only[Vbwsan.sumOf,List.foldr_append,List.map_cons,List.map_nil,List.foldr_cons,List.foldr_nil,Nat.add_zero]
        rw[foldr_add,Int.natCast_add]
      exact⟨_,_,_,by rw[e3],G2,e1.trans e2⟩
    . rintro σ H' ⟨v4,v5,v6,rfl,G1,e1⟩
      walk_at "rd"
      exact k _ G1 e1
def jZ(A:Ads):Sp:=fun vs H Q _=>∃(g da:Addr) (seed w d x y:Nat),vs=[.ref g,.int x,.int y]/\GrAt A H g da seed w d/\x<=35/\y<=35/\
  ∀H',GrAt A H' g da seed w d->Ext da H H'->Q (.int (Vbwsan.layerAt seed Vbwsan.woodLayer x y:Nat)) H'
abbrev qH:Stmt:=inClass (top 60) 6
theorem sc_Ground_wood_at:FnScope ["self","x","y"] ["self","x","y"] (defScope qH):=⟨rfl,rfl,rfl,by decide +kernel,rfl,by decide +kernel,by decide +kernel⟩
theorem ok_wood_at{f:Addr}{fd:FuncData}(F:Fun K "wood_at" "Ground.wood_at" qH f fd)(T:Glb K mg A)(m_Ground_layer_at:MtAt P w K mg base 5 A.C_Ground "layer_at" ["self","purpose","wide","high","x","y"] (sp_layer_at A)):
    FnOk P w K mg base CX0 6 f fd ["self","x","y"] (jZ A):=by
  refine F.ok sc_Ground_wood_at (fun vs H Q E h=>?_) (fun cdv Ar outer s H vs Q E hr h=>?_)
  . obtain⟨g,da,a,b,c,i,j,rfl,_⟩:=h
    rfl
  . obtain⟨g,da,seed,w,d,x,y,rfl,G,hx,hy,k⟩:=h
    obtain⟨dx,hg⟩:=G.ins
    refine⟨_,(zD (zH (zT (pv 0) T.c_Ground m_Ground_layer_at hr (zA (zM T.g_WOOD_PURPOSE) (zA (zM T.g_WOOD_WIDE) (zA (zM T.g_WOOD_HIGH) (zA (pv 1) (zA (pv 2) zC)))))))),?_⟩
    refine st0 (σ0:=[some _,some _,some _]) rfl ?_
    try dsimp only[cxOf]
    walk_at "rd"
    exact⟨g,da,seed,w,d,x,y,Vbwsan.woodLayer,rfl,by decide,G,hx,hy,k⟩
end
end Gs
namespace Gs
open PySem PySem.Spec PyProof.Rows L2
def fixed:HO->Prop
  |.tup _=>True
  |.ins _ _ _=>True
  |_=>False
def Keeps(H H':Hp):Prop:=∀b o,H b=some o->fixed o->H' b=some o
theorem Keeps.refl{H:Hp}:Keeps H H:=fun _ _ e _=>e
theorem Keeps.trans{H H1 H2:Hp}(a:Keeps H H1)(b:Keeps H1 H2):Keeps H H2:=fun c o e f=>b c o (a c o e f) f
theorem _root_.L2.Same.keeps{H H1:Hp}(a:Same H H1):Keeps H H1:=fun c o e _=>a c o e
theorem _root_.L2.Ext.keeps{d:Addr}{H H1:Hp}{o:HO}(a:Ext d H H1)(hd:H d=some o)(ho:¬ fixed o):Keeps H H1:=fun c u e f=>a c u e (fun q=>by rw[q,hd] at e;cases e;exact ho f)
theorem ZW{H:Hp}{d:Addr}{o u:HO}(hd:H d=some o)(ho:¬ fixed o):Keeps H (upd H d u):=Ext.keeps j2 hd ho
theorem _root_.L2.Ext.keepsG{A:Ads}{H H':Hp}{g da:Addr}{seed w d:Nat}(G:GrAt A H g da seed w d)(e:Ext da H H'):Keeps H H':=let ⟨_,h,_⟩:=G.cor;e.keeps h (fun z=>z)
theorem _root_.L2.Ext.at{A:Ads}{H H':Hp}{g da b:Addr}{o:HO}{seed w d:Nat}(G:GrAt A H g da seed w d)(e:Ext da H H')(h:H b=some o)(ho:∀z,o≠.dT z):H' b=some o:=
  let ⟨_,hd,_⟩:=G.cor;e b o h fun q=>by rw[q,hd] at h;cases h;exact ho _ rfl
def Stable{α:Type}(R:Hp->V->α->Prop):Prop:=∀H H' v x,Keeps H H'->R H v x->R H' v x
def LAt{α:Type}(R:Hp->V->α->Prop)(H:Hp)(l:Addr)(xs:List α):Prop:=∃ts,H l=some (.lst ts)/\Paired (R H) ts xs
theorem _root_.PySem.Paired.imp{α β:Type}{R R':α->β->Prop}{l:List α}{m:List β}(h:Paired R l m)(k:∀a b,R a b->R' a b):Paired R' l m:=Paired.mapP h fun _ _ z=>k _ _ z
theorem LAt.keep{α:Type}{R:Hp->V->α->Prop}(S:Stable R){H H':Hp}{l:Addr}{xs:List α}(h:LAt R H l xs)(k:Keeps H H')(hl:∀ts,H l=some (.lst ts)->H' l=some (.lst ts)):LAt R H' l xs:=
  let ⟨ts,h1,h2⟩:=h;⟨ts,hl ts h1,h2.imp fun v x r=>S H H' v x k r⟩
theorem LAt.same{α:Type}{R:Hp->V->α->Prop}(S:Stable R){H H':Hp}{l:Addr}{xs:List α}(h:LAt R H l xs)(k:Same H H'):LAt R H' l xs:=h.keep S k.keeps fun _ e=>k _ _ e
theorem LAt.ext{α:Type}{R:Hp->V->α->Prop}(S:Stable R){A:Ads}{g da:Addr}{seed w d:Nat}{H H':Hp}{l:Addr}{xs:List α}(h:LAt R H l xs)(G:GrAt A H g da seed w d)(e:Ext da H H'):LAt R H' l xs:=
  h.keep S (Ext.keepsG G e) fun _ q=>Ext.at G e q (fun z q=>by cases q)
theorem LAt.snoc{α:Type}{R:Hp->V->α->Prop}(S:Stable R){H:Hp}{l:Addr}{xs:List α}{ts:List V}{v:V}{x:α}(e:H l=some (.lst ts))(h:Paired (R H) ts xs)(r:R H v x):LAt R (upd H l (.lst (ts++[v]))) l (xs++[x]):=
  ⟨_,zJ,Paired.snoc (h.imp fun v x r=>S _ _ v x (ZW e (fun z=>z)) r) (S _ _ v x (ZW e (fun z=>z)) r)⟩
theorem LAt.len{α:Type}{R:Hp->V->α->Prop}{H:Hp}{l:Addr}{xs:List α}{ts:List V}(e:H l=some (.lst ts))(h:LAt R H l xs):ts.length=xs.length:=by
  obtain⟨us,h1,h2⟩:=h
  rw[e] at h1
  cases h1
  exact Paired.length h2
def CellV(H:Hp)(v:V)(c:Nat×Nat):Prop:=∃a,v=.ref a/\H a=some (.tup [.int c.1,.int c.2])
theorem zh:Stable CellV:=fun H H' v x k ⟨a,e,h⟩=>⟨a,e,k a _ h trivial⟩
abbrev CellsAt(H:Hp)(l:Addr)(cs:List (Nat×Nat)):Prop:=LAt CellV H l cs
theorem ZO{α β:Type}{G:α->β->Prop}{l:List α}{m:List β}(h:Paired G l m){i:Nat}{a:α}(e:l[i]?=some a):∃b,m[i]?=some b/\G a b:=ZK h e
theorem _root_.L2.Ext.sameL{d:Addr}{H H1 H2:Hp}(a:Ext d H H1)(b:Same H1 H2):Ext d H H2:=fun c o h n=>b c o (a c o h n)
theorem _root_.L2.Ext.sameR{d:Addr}{H H1 H2:Hp}(a:Same H H1)(b:Ext d H1 H2):Ext d H H2:=fun c o h n=>b c o (a c o h) n
theorem GrAt.same{A:Ads}{H H':Hp}{g da:Addr}{seed w d:Nat}(G:GrAt A H g da seed w d)(s:Same H H'):GrAt A H' g da seed w d:=
  let ⟨⟨dx,h1⟩,⟨kvs,h2,h3⟩,h4,h5⟩:=G;⟨⟨dx,s _ _ h1⟩,⟨kvs,s _ _ h2,h3⟩,h4,h5⟩
theorem qC{H H':Hp}{l:Addr}{o:HO}(s:Same H H')(hl:H l=none):Same H (upd H' l o):=fun b u e=>by
  rw[zI (zL e hl)]
  exact s b u e
theorem Zo{d l:Addr}{H H':Hp}{o:HO}(s:Ext d H H')(hl:H l=none):Ext d H (upd H' l o):=fun b u e n=>by
  rw[zI (zL e hl)]
  exact s b u e n
theorem small{n:Nat}(h:n<=1000000):n<sizeLine:=Nat.lt_of_le_of_lt h (by decide)
end Gs
namespace Gs
open PySem PySem.Spec PyProof.Rows L2
section
variable{P:Program}{w:World}{K:PySem.W.Frag}{mg:Str->Option Value}{base:Heap}{A:Ads}
def box(l t w d:Nat):List (Nat×Nat):=(List.range d).flatMap fun j=>(List.range w).map fun i=>(l+i,t+j)
theorem zAK(l t w d:Nat):box l t w (d+1)=box l t w d++(List.range w).map fun i=>(l+i,t+d):=by
  unfold box
  rw[List.range_succ,List.flatMap_append]
  simp
theorem Zw(l t w:Nat):∀d,(box l t w d).length=w*d
  |0=>rfl
  |d+1=>by rw[zAK,List.length_append,Zw l t w d,List.length_map,List.length_range,Nat.mul_succ]
theorem zk{a b c d:Nat}(h1:a<=c)(h2:b<=d):a*b<=c*d:=Nat.mul_le_mul h1 h2
def sp_box_cells:Sp:=fun vs H Q _=>∃l t w d:Nat,vs=[.int l,.int t,.int w,.int d]/\(l<=100/\t<=100/\w<=32/\d<=32)/\∀H' p,Same H H'->H p=none->CellsAt H' p (box l t w d)->Q (.ref p) H'
abbrev s_box_cells:Stmt:=top 1
theorem qh:FnScope ["left","top","width","depth","places","y","x"] ["left","top","width","depth"] (defScope s_box_cells):=⟨rfl,rfl,rfl,by decide +kernel,rfl,by decide +kernel,by decide +kernel⟩
theorem ok_box_cells {f : Addr} {fd : FuncData} (F : Fun K "box_cells" "box_cells" s_box_cells f fd) (T : Glb K mg A) : FnOk P w K mg base CX0 1 f fd ["left", "top", "width", "depth"] sp_box_cells := by
  refine F.ok qh (fun vs H Q E h=>?_) (fun cdv Ar outer s H vs Q E hr h=>?_)
  . obtain⟨a,b,c,d,rfl,_⟩:=h
    rfl
  . obtain⟨l,t,w,d,rfl,⟨hl,ht,hw,hd⟩,k⟩:=h
    refine⟨_,(zB (zG (i:=4) qh.nd rfl (Or.inl rfl) (zQ zC))
      (zB (ZQ PassesOwn.never rfl (QX rfl T.b_range (zA (pv 1) (zA (zK zW (pv 1) (pv 3)) zC))) (zX (i:=5) qh.nd rfl (Or.inl rfl)) (zD (ZQ PassesOwn.never rfl (QX rfl T.b_range (zA (pv 0) (zA (zK zW (pv 0) (pv 2)) zC))) (zX (i:=6) qh.nd rfl (Or.inl rfl)) (zD (zo (q0 PySem.F.plainAttrs_list PySem.F.slot_list_append PySem.F.type_list_append qJ (pv 4) (zA (zu (zA (pv 6) (zA (pv 5) zC))) zC)))))))
      (zD (zH (pv 4))))),?_⟩
    refine st0 (σ0:=[some _,some _,some _,some _,none,none,none]) rfl ?_
    try dsimp only[cxOf]
    walk_at "rd"
    walk_at "new"
    rename_i p hp H1 f1 s1
    walk_at "rd"
    refine QW (by omega) ?_
    have e1:((t:Int)+d - t).toNat=d:=by omega
    have e2:((l:Int)+w - l).toNat=w:=by omega
    rw[e1]
    refine QB (fun j σ H'=>∃v5 v6:Option V,σ=[some (.int l),some (.int t),some (.int w),some (.int d),some (.ref p),v5,v6]/\Same H H'/\CellsAt H' p (box l t w j))
      ⟨none,none,rfl,s1,⟨[],f1,.nil⟩⟩ ?_ ?_
    . rintro j σ H' hj ⟨v5,v6,rfl,s2,c2⟩
      walk_at "rd"
      refine QW (by omega) ?_
      rw[e2]
      refine QB (fun i σ H'=>∃v6:Option V,σ=[some (.int l),some (.int t),some (.int w),some (.int d),some (.ref p),some (.int ((t:Int)+j)),v6]/\Same H H'/\CellsAt H' p (box l t w j++(List.range i).map fun i=>(l+i,t+j)))
        ⟨v6,rfl,s2,by simpa using c2⟩ ?_ ?_
      . rintro i σ H' hi ⟨v6,rfl,s3,c3⟩
        obtain⟨ts,c4,c5⟩:=id c3
        walk_at "rd"
        refine Zv c4 ?_
        walk_at "rd"
        walk_at "new"
        rename_i q hq H5 f5 s5
        walk_at "rd"
        have hlen:ts.length<sizeLine:=by
          rw[LAt.len c4 c3,List.length_append,Zw,List.length_map,List.length_range]
          have:=zk hw (Nat.le_of_lt (Nat.lt_of_lt_of_le hj hd))
          exact small (by omega)
        refine qI (s5 _ _ c4) hlen ?_
        refine⟨_,rfl,qC (s3.trans s5) hp,?_⟩
        rw[List.range_succ,List.map_append,<-List.append_assoc]
        exact LAt.snoc zh (s5 _ _ c4) (c5.imp fun v x r=>zh _ _ v x s5.keeps r) ⟨q,rfl,by rw[f5];simp⟩
      . rintro σ H' ⟨v6,rfl,s3,c3⟩
        exact⟨_,_,rfl,s3,by rw[zAK];exact c3⟩
    . rintro σ H' ⟨v5,v6,rfl,s2,c2⟩
      walk_at "rd"
      exact k _ _ s2 hp c2
def sp_number_of(A:Ads):Sp:=fun vs H Q _=>∃(g dx da:Addr) (seed w d:Nat) (x y:Int),vs=[.ref g,.int x,.int y]/\H g=some (.ins A.C_Ground dx (groundF seed w d da))/\w<=32/\Q (.int (y*w+x)) H
abbrev Q8:Stmt:=top 2
theorem sc_number_of:FnScope ["ground","x","y"] ["ground","x","y"] (defScope Q8):=⟨rfl,rfl,rfl,by decide +kernel,rfl,by decide +kernel,by decide +kernel⟩
theorem ok_number_of{f:Addr}{fd:FuncData}(F:Fun K "number_of" "number_of" Q8 f fd)(T:Glb K mg A):FnOk P w K mg base CX0 1 f fd ["ground","x","y"] (sp_number_of A):=by
  refine F.ok sc_number_of (fun vs H Q E h=>?_) (fun cdv Ar outer s H vs Q E hr h=>?_)
  . obtain⟨g,dx,da,a,b,c,x,y,rfl,_⟩:=h
    rfl
  . obtain⟨g,dx,da,seed,w,d,x,y,rfl,hg,hw,q⟩:=h
    refine⟨_,(zD (zH (zK zW (zK ZF (pv 2) (zF (pv 0) rfl)) (pv 1)))),?_⟩
    refine st0 (σ0:=[some _,some _,some _]) rfl ?_
    try dsimp only[cxOf]
    walk_at "rd"
    exact q
def sp_place_of(A:Ads):Sp:=fun vs H Q _=>∃(g dx da:Addr) (seed w d n:Nat),vs=[.ref g,.int n]/\H g=some (.ins A.C_Ground dx (groundF seed w d da))/\8<=w/\w<=32/\∀H' p,Same H H'->H p=none->H' p=some (.tup [.int ((n%w:Nat):Int),.int ((n / w:Nat):Int)])->Q (.ref p) H'
abbrev ji:Stmt:=top 3
theorem sc_place_of:FnScope ["ground","number"] ["ground","number"] (defScope ji):=⟨rfl,rfl,rfl,by decide +kernel,rfl,by decide +kernel,by decide +kernel⟩
theorem ok_place_of{f:Addr}{fd:FuncData}(F:Fun K "place_of" "place_of" ji f fd)(T:Glb K mg A):FnOk P w K mg base CX0 1 f fd ["ground","number"] (sp_place_of A):=by
  refine F.ok sc_place_of (fun vs H Q E h=>?_) (fun cdv Ar outer s H vs Q E hr h=>?_)
  . obtain⟨g,dx,da,a,b,c,n,rfl,_⟩:=h
    rfl
  . obtain⟨g,dx,da,seed,w,d,n,rfl,hg,hw1,hw2,k⟩:=h
    refine⟨_,(zD (zH (zu (zA (zK QA (pv 1) (zF (pv 0) rfl)) (zA (zK QH (pv 1) (zF (pv 0) rfl)) zC))))),?_⟩
    refine st0 (σ0:=[some _,some _]) rfl ?_
    try dsimp only[cxOf]
    walk_at "rd"
    walk_at "new"
    rename_i p hp H1 f1 s1
    exact k _ _ s1 hp (by rw[f1];simp)
def sp_cell_count(A:Ads):Sp:=fun vs H Q _=>∃(g dx da:Addr) (seed w d:Nat),vs=[.ref g]/\H g=some (.ins A.C_Ground dx (groundF seed w d da))/\w<=32/\Q (.int ((w*d:Nat):Int)) H
abbrev Qp:Stmt:=top 4
theorem sc_cell_count:FnScope ["ground"] ["ground"] (defScope Qp):=⟨rfl,rfl,rfl,by decide +kernel,rfl,by decide +kernel,by decide +kernel⟩
theorem ok_cell_count{f:Addr}{fd:FuncData}(F:Fun K "cell_count" "cell_count" Qp f fd)(T:Glb K mg A):FnOk P w K mg base CX0 1 f fd ["ground"] (sp_cell_count A):=by
  refine F.ok sc_cell_count (fun vs H Q E h=>?_) (fun cdv Ar outer s H vs Q E hr h=>?_)
  . obtain⟨g,dx,da,a,b,c,rfl,_⟩:=h
    rfl
  . obtain⟨g,dx,da,seed,w,d,rfl,hg,hw,q⟩:=h
    refine⟨_,(zD (zH (zK ZF (zF (pv 0) rfl) (zF (pv 0) rfl)))),?_⟩
    refine st0 (σ0:=[some _]) rfl ?_
    try dsimp only[cxOf]
    walk_at "rd"
    exact zCD q (by simp)
def edgeN(w d n:Nat):Bool:=decide (n%w=0\/n%w+1=w\/n / w=0\/n / w+1=d)
def sp_is_edge(A:Ads):Sp:=fun vs H Q _=>∃(g dx da:Addr) (seed w d n:Nat),vs=[.ref g,.int n]/\H g=some (.ins A.C_Ground dx (groundF seed w d da))/\8<=w/\w<=32/\8<=d/\∀H',Same H H'->Q (.bl (edgeN w d n)) H'
abbrev JD:Stmt:=top 5
theorem Jr:FnScope ["ground","number","place"] ["ground","number"] (defScope JD):=⟨rfl,rfl,rfl,by decide +kernel,rfl,by decide +kernel,by decide +kernel⟩
theorem ok_is_edge{f:Addr}{fd:FuncData}(F:Fun K "is_edge" "is_edge" JD f fd)(T:Glb K mg A)(f_place_of:FnAt P w K mg base 1 "place_of" ["ground","number"] (sp_place_of A)):FnOk P w K mg base CX0 2 f fd ["ground","number"] (sp_is_edge A):=by
  refine F.ok Jr (fun vs H Q E h=>?_) (fun cdv Ar outer s H vs Q E hr h=>?_)
  . obtain⟨g,dx,da,a,b,c,n,rfl,_⟩:=h
    rfl
  . obtain⟨g,dx,da,seed,w,d,n,rfl,hg,hw1,hw2,hd,k⟩:=h
    refine⟨_,(zB (zG (i:=2) Jr.nd rfl (Or.inl rfl) (zV f_place_of hr (zA (pv 0) (zA (pv 1) zC))))
      (zD (zH (zCd (Z8 zAZ (zN zg (pv 2) zE (fun _ _=>rfl)) (zu (zA zE (zA (zK ZR (zF (pv 0) rfl) zE) zC))) (by with_unfolding_all rfl)) (Qw (Z8 zAZ (zN zg (pv 2) zE (fun _ _=>rfl)) (zu (zA zE (zA (zK ZR (zF (pv 0) rfl) zE) zC))) (by with_unfolding_all rfl))))))),?_⟩
    refine st0 (σ0:=[some _,some _,none]) rfl ?_
    try dsimp only[cxOf]
    walk_at "rd"
    refine⟨g,dx,da,seed,w,d,n,rfl,hg,hw1,hw2,fun H1 p s1 hp f1=>?_⟩
    have hg1:=s1 _ _ hg
    walk_at "rd"
    walk_at "new"
    rename_i p2 hp2 H2 f2 s2
    have hg2:=s2 _ _ hg1
    have f12:=s2 _ _ f1
    walk_at "rd"
    refine zR (fun h1=>?_) (fun h1=>?_)
    . refine Q_bl (k _ (s1.trans s2)) ?_
      unfold edgeN
      rw[inV2,Bool.or_eq_true,decide_eq_true_iff,decide_eq_true_iff] at h1
      refine(decide_eq_true ?_).symm
      omega
    . walk_at "rd"
      walk_at "new"
      rename_i p3 hp3 H3 f3 s3
      walk_at "rd"
      refine Q_bl (k _ ((s1.trans s2).trans s3)) ?_
      unfold edgeN
      rw[inV2,<-Bool.not_eq_true,Bool.or_eq_true,decide_eq_true_iff,decide_eq_true_iff] at h1
      rw[inV2]
      refine Bool.eq_iff_iff.mpr ?_
      simp only[Bool.or_eq_true,decide_eq_true_eq]
      omega
def numKeys(p:Nat->Bool)(n:Nat):List (L2.Key×V):=((List.range n).filter p).map fun i:Nat=>((Sum.inl (i:Int):L2.Key),V.bl true)
theorem JW{p:Nat->Bool}{n k:Nat}:(valV (numKeys p n) (Sum.inl (k:Int))).isSome=(decide (k<n)&&p k):=by
  rw[<-Zy]
  refine Bool.eq_iff_iff.mpr ?_
  unfold numKeys
  rw[List.any_map,List.any_eq_true,Bool.and_eq_true,decide_eq_true_iff]
  constructor
  . rintro ⟨i,h1,h2⟩
    have h3:(i:Int)=k:=by simpa using h2
    obtain rfl:i=k:=by omega
    have:=List.mem_filter.mp h1
    exact⟨List.mem_range.mp this.1,this.2⟩
  . rintro ⟨h1,h2⟩
    exact⟨k,List.mem_filter.mpr ⟨List.mem_range.mpr h1,h2⟩,by simp⟩
theorem numKeys_put{p:Nat->Bool}{n:Nat}(h:p n=true):putK (numKeys p n) (Sum.inl (n:Int)) (V.bl true)=numKeys p (n+1):=by
  unfold putK
  rw[if_neg (by
    rw[Zy,JW]
    simp)]
  unfold numKeys
  rw[List.range_succ,List.filter_append,List.map_append]
  simp[h]
theorem numKeys_skip{p:Nat->Bool}{n:Nat}(h:p n=false):numKeys p n=numKeys p (n+1):=by
  unfold numKeys
  rw[List.range_succ,List.filter_append,List.map_append]
  simp[h]
theorem numKeys_len(p:Nat->Bool)(n:Nat):(numKeys p n).length<=n:=by
  unfold numKeys
  rw[List.length_map]
  exact Nat.le_trans (List.length_filter_le _ _) (by simp)
def qU(A:Ads):Sp:=fun vs H Q _=>∃(g dx da:Addr) (seed w d:Nat),vs=[.ref g]/\H g=some (.ins A.C_Ground dx (groundF seed w d da))/\8<=w/\w<=32/\8<=d/\d<=32/\∀H' p,Same H H'->H p=none->H' p=some (.dK (numKeys (edgeN w d) (w*d)))->Q (.ref p) H'
abbrev s_edge_numbers:Stmt:=top 6
theorem qX:FnScope ["ground","edge","number"] ["ground"] (defScope s_edge_numbers):=⟨rfl,rfl,rfl,by decide +kernel,rfl,by decide +kernel,by decide +kernel⟩
theorem ok_edge_numbers {f : Addr} {fd : FuncData} (F : Fun K "edge_numbers" "edge_numbers" s_edge_numbers f fd) (T : Glb K mg A) (f_cell_count : FnAt P w K mg base 1 "cell_count" ["ground"] (sp_cell_count A)) (f_is_edge : FnAt P w K mg base 2 "is_edge" ["ground", "number"] (sp_is_edge A)) :
    FnOk P w K mg base CX0 3 f fd ["ground"] (qU A):=by
  refine F.ok qX (fun vs H Q E h=>?_) (fun cdv Ar outer s H vs Q E hr h=>?_)
  . obtain⟨g,dx,da,a,b,c,rfl,_⟩:=h
    rfl
  . obtain⟨g,dx,da,seed,w,d,rfl,hg,hw1,hw2,hd1,hd2,k⟩:=h
    have hu:=ZB hr
    have hwd:w*d<=32*32:=zk hw2 hd2
    refine⟨_,(zB (zG (i:=1) qX.nd rfl (Or.inl rfl) pe_dnewK)
      (zB (ZQ PassesOwn.never rfl (JF rfl T.b_range (zA (zV f_cell_count hr (zA (pv 0) zC)) zC)) (zX (i:=2) qX.nd rfl (Or.inl rfl)) (zD (zf (zm (zV f_is_edge hr (zA (pv 0) (zA (pv 2) zC)))) (zD (Qv hu (pv 1) (pv 2) jS rfl)) zP)))
      (zD (zH (pv 1))))),?_⟩
    refine st0 (σ0:=[some _,none,none]) rfl ?_
    try dsimp only[cxOf]
    walk_at "rd"
    refine rd_dnewK fun p hp=>?_
    apply Ze hp
    intro H1 e1 f1 s1
    rw[e1]
    clear e1
    have hg1:=s1 _ _ hg
    walk_at "rd"
    refine⟨g,dx,da,seed,w,d,rfl,hg1,hw2,?_⟩
    walk_at "rd"
    refine JE (by omega) ?_
    rw[Int.toNat_natCast]
    refine QB (fun i σ H'=>∃v2:Option V,σ=[some (.ref g),some (.ref p),v2]/\Same H H'/\H' p=some (.dK (numKeys (edgeN w d) i))) ⟨none,rfl,s1,f1⟩ ?_ ?_
    . rintro i σ H' hi ⟨v2,rfl,s2,f2⟩
      rw[Int.zero_add]
      walk_at "rd"
      refine⟨g,dx,da,seed,w,d,i,rfl,s2 _ _ hg,hw1,hw2,hd1,fun H3 s3=>?_⟩
      have f3:=s3 _ _ f2
      walk_at "rd"
      refine zR (fun h1=>?_) (fun h1=>?_)
      . walk_at "rd"
        have hlen:=numKeys_len (edgeN w d) i
        refine qz (DPut.k (k:=Sum.inl (i:Int)) f3 (small (by omega))) ?_
        exact⟨_,rfl,qC (s2.trans s3) hp,by rw[zJ,numKeys_put h1]⟩
      . walk_at "rd"
        exact⟨_,rfl,s2.trans s3,by rw[f3,numKeys_skip h1]⟩
    . rintro σ H' ⟨v2,rfl,s2,f2⟩
      walk_at "rd"
      exact k _ _ s2 hp f2
def okCell(w d:Nat)(c:Int×Int):Bool:=decide (0<=c.1/\c.1<w/\0<=c.2/\c.2<d)
theorem nbs_gen{w d n a b:Nat}(h8:8<=w)(en:b*w+a=n)(hm:a<w)(hdv:b<d):
    ((([((a : Int), (b : Int) - 1), ((a : Int) - 1, (b : Int)), ((a : Int) + 1, (b : Int)), ((a : Int), (b : Int) + 1)] : List (Int × Int)).filter (okCell w d)).map fun c => V.int (c.2 * w + c.1))
      = ((if b=0 then [] else [n - w])++((if a=0 then [] else [n - 1])++((if a+1=w then [] else [n+1])++if b+1=d then [] else [n+w]))).map fun i:Nat=>V.int (i:Int):=by
  have o1:okCell w d ((a:Int),(b:Int) - 1)=!decide (b=0):=by
    refine Bool.eq_iff_iff.mpr ?_
    simp only[okCell,decide_eq_true_eq,Bool.not_eq_true',decide_eq_false_iff_not]
    omega
  have o2:okCell w d ((a:Int) - 1,(b:Int))=!decide (a=0):=by
    refine Bool.eq_iff_iff.mpr ?_
    simp only[okCell,decide_eq_true_eq,Bool.not_eq_true',decide_eq_false_iff_not]
    omega
  have o3:okCell w d ((a:Int)+1,(b:Int))=!decide (a+1=w):=by
    refine Bool.eq_iff_iff.mpr ?_
    simp only[okCell,decide_eq_true_eq,Bool.not_eq_true',decide_eq_false_iff_not]
    omega
  have o4:okCell w d ((a:Int),(b:Int)+1)=!decide (b+1=d):=by
    refine Bool.eq_iff_iff.mpr ?_
    simp only[okCell,decide_eq_true_eq,Bool.not_eq_true',decide_eq_false_iff_not]
    omega
  have bw:(b:Int)*(w:Int)=((b*w:Nat):Int):=by rw[Int.natCast_mul]
  have v1:b≠0->((b:Int) - 1)*w+(a:Int)=((n - w:Nat):Int):=fun h=>by
    rw[Int.sub_mul,Int.one_mul,bw]
    have:1*w<=b*w:=Nat.mul_le_mul_right _ (by omega)
    omega
  have v2:a≠0->(b:Int)*w+((a:Int) - 1)=((n - 1:Nat):Int):=fun h=>by rw[bw];omega
  have v3:(b:Int)*w+((a:Int)+1)=((n+1:Nat):Int):=by rw[bw];omega
  have v4:((b:Int)+1)*w+(a:Int)=((n+w:Nat):Int):=by
    rw[Int.add_mul,Int.one_mul,bw]
    omega
  rw[List.filter_cons,List.filter_cons,List.filter_cons,List.filter_cons,o1,o2,o3,o4,List.filter_nil]
  have p1:(if (!decide (b=0))=true then [V.int (((b:Int) - 1)*w+(a:Int))] else [])=(if b=0 then [] else [n - w]).map fun i:Nat=>V.int (i:Int):=by
    by_cases c:b=0
    . simp[c]
    . rw[if_pos (by simp[c]),if_neg c,v1 c];rfl
  have p2:(if (!decide (a=0))=true then [V.int ((b:Int)*w+((a:Int) - 1))] else [])=(if a=0 then [] else [n - 1]).map fun i:Nat=>V.int (i:Int):=by
    by_cases c:a=0
    . simp[c]
    . rw[if_pos (by simp[c]),if_neg c,v2 c];rfl
  have p3:(if (!decide (a+1=w))=true then [V.int ((b:Int)*w+((a:Int)+1))] else [])=(if a+1=w then [] else [n+1]).map fun i:Nat=>V.int (i:Int):=by
    by_cases c:a+1=w
    . simp[c]
    . rw[if_pos (by simp[c]),if_neg c,v3];rfl
  have p4:(if (!decide (b+1=d))=true then [V.int (((b:Int)+1)*w+(a:Int))] else [])=(if b+1=d then [] else [n+w]).map fun i:Nat=>V.int (i:Int):=by
    by_cases c:b+1=d
    . simp[c]
    . rw[if_pos (by simp[c]),if_neg c,v4];rfl
  rw[List.map_append,List.map_append,List.map_append,<-p1,<-p2,<-p3,<-p4]
  cases h1:!decide (b=0)<;>cases h2:!decide (a=0)<;>cases h3:!decide (a+1=w)<;>cases h4:!decide (b+1=d)<;>rfl
theorem nbs_eq{w d n:Nat}(h8:8<=w)(hn:n<w*d):
    ((([(((n % w : Nat) : Int), ((n / w : Nat) : Int) - 1), (((n % w : Nat) : Int) - 1, ((n / w : Nat) : Int)), (((n % w : Nat) : Int) + 1, ((n / w : Nat) : Int)), (((n % w : Nat) : Int), ((n / w : Nat) : Int) + 1)] : List (Int × Int)).filter (okCell w d)).map fun c => V.int (c.2 * w + c.1))
      = (Gm.nbs w d n).map fun i:Nat=>V.int (i:Int):=by
  have en:n / w*w+n%w=n:=by rw[Nat.mul_comm];exact Nat.div_add_mod n w
  exact nbs_gen h8 en (Nat.mod_lt _ (by omega)) (Nat.div_lt_of_lt_mul hn)
def sp_neighbours(A:Ads):Sp:=fun vs H Q _=>∃(g dx da:Addr) (seed w d n:Nat),vs=[.ref g,.int n]/\H g=some (.ins A.C_Ground dx (groundF seed w d da))/\Side w/\Side d/\n<w*d/\∀H' p,Same H H'->H p=none->H' p=some (.lst ((Gm.nbs w d n).map fun i=>V.int (i:Nat)))->Q (.ref p) H'
abbrev s_neighbours:Stmt:=top 7
theorem ZJ:FnScope ["ground","number","place","x","y","around","other"] ["ground","number"] (defScope s_neighbours):=⟨rfl,rfl,rfl,by decide +kernel,rfl,by decide +kernel,by decide +kernel⟩
theorem ok_neighbours {f : Addr} {fd : FuncData} (F : Fun K "neighbours" "neighbours" s_neighbours f fd) (T : Glb K mg A) (f_place_of : FnAt P w K mg base 1 "place_of" ["ground", "number"] (sp_place_of A)) (f_number_of : FnAt P w K mg base 1 "number_of" ["ground", "x", "y"] (sp_number_of A))
    (m_Ground_has_cell:MtAt P w K mg base 1 A.C_Ground "has_cell" ["self","x","y"] (sp_has_cell A)):FnOk P w K mg base CX0 2 f fd ["ground","number"] (sp_neighbours A):=by
  refine F.ok ZJ (fun vs H Q E h=>?_) (fun cdv Ar outer s H vs Q E hr h=>?_)
  . obtain⟨g,dx,da,a,b,c,n,rfl,_⟩:=h
    rfl
  . obtain⟨g,dx,da,seed,w,d,n,rfl,hg,hw,hd,hn,k⟩:=h
    have hw1:8<=w/\w<=32:=by rcases hw with h|h|h|h<;>omega
    refine⟨_,(zB (zG (i:=2) ZJ.nd rfl (Or.inl rfl) (zV f_place_of hr (zA (pv 0) (zA (pv 1) zC))))
      (zB (zG (i:=3) ZJ.nd rfl (Or.inl rfl) (zN zg (pv 2) zE (fun _ _=>rfl)))
      (zB (zG (i:=4) ZJ.nd rfl (Or.inl rfl) (zN zg (pv 2) zE (fun _ _=>rfl)))
      (zB (zG (i:=5) ZJ.nd rfl (Or.inl rfl) (zQ (zA (zu (zA (pv 3) (zA (zK ZR (pv 4) zE) zC))) (zA (zu (zA (zK ZR (pv 3) zE) (zA (pv 4) zC))) (zA (zu (zA (zK zW (pv 3) zE) (zA (pv 4) zC))) (zA (zu (zA (pv 3) (zA (zK zW (pv 4) zE) zC))) zC))))))
      (zD (zH (Jw (own:=[("other",6)]) rfl ZJ.nd (ZL (pv 5)) (qT (by rfl)) (fun _ _ _ _ _=>(zX (i:=6) ZJ.nd rfl (Or.inl rfl))) (fun _ _ _ _ _=>(pts_one (zm (zT (pv 0) T.c_Ground m_Ground_has_cell hr (zA (zN (show IxR _ (rIxT K) from zg) (pv 6) zE (fun _ _=>rfl)) (zA (zN (show IxR _ (rIxT K) from zg) (pv 6) zE (fun _ _=>rfl)) zC)))))) (fun _ _ _ _ _=>(zV f_number_of hr (zA (pv 0) (zA (zN (show IxR _ (rIxT K) from zg) (pv 6) zE (fun _ _=>rfl)) (zA (zN (show IxR _ (rIxT K) from zg) (pv 6) zE (fun _ _=>rfl)) zC)))))))))))),?_⟩
    refine st0 (σ0:=[some _,some _,none,none,none,none,none]) rfl ?_
    try dsimp only[cxOf]
    walk_at "rd"
    refine⟨g,dx,da,seed,w,d,n,rfl,hg,hw1.1,hw1.2,fun H1 p s1 hp f1=>?_⟩
    walk_at "rd"
    walk_at "new"
    rename_i p2 hp2 H2 f2 s2
    walk_at "rd"
    walk_at "new"
    rename_i p3 hp3 H3 f3 s3
    walk_at "rd"
    walk_at "new"
    rename_i p4 hp4 H4 f4 s4
    walk_at "rd"
    walk_at "new"
    rename_i p5 hp5 H5 f5 s5
    walk_at "rd"
    walk_at "new"
    rename_i l hl H6 f6 s6
    have s06:=((((s1.trans s2).trans s3).trans s4).trans s5).trans s6
    have g2:=s6 _ _ (s5 _ _ (s4 _ _ (s3 _ _ f2)))
    have g3:=s6 _ _ (s5 _ _ (s4 _ _ f3))
    have g4:=s6 _ _ (s5 _ _ f4)
    have g5:=s6 _ _ f5
    walk_at "rd"
    refine zq (SqL.of f6) ?_
    let ar:List (Int×Int):=[((n%w:Nat),(n / w:Nat) - 1),((n%w:Nat) - 1,(n / w:Nat)),((n%w:Nat)+1,(n / w:Nat)),((n%w:Nat),(n / w:Nat)+1)]
    let okC:Int×Int->Bool:=okCell w d
    refine Qz rfl (fun D i H'=>Same H6 H'/\H' D=some (.lst (((ar.take i).filter okC).map fun c=>V.int (c.2*w+c.1)))) fun D hD=>⟨⟨ZU hD,zJ⟩,fun i H' p=>SqL.of (p.1 _ _ f6),?_,?_⟩
    . rintro i x H' hx ⟨s7,f7⟩
      obtain⟨c,q,hc,rfl,hq⟩:∃c q,ar[i]?=some c/\x=.ref q/\H6 q=some (.tup [.int c.1,.int c.2]):=by
        match i,hx with
        |0,hx=>cases hx;exact⟨_,p2,rfl,rfl,g2⟩
        |1,hx=>cases hx;exact⟨_,p3,rfl,rfl,g3⟩
        |2,hx=>cases hx;exact⟨_,p4,rfl,rfl,g4⟩
        |3,hx=>cases hx;exact⟨_,p5,rfl,rfl,g5⟩
        |i+4,hx=>simp at hx
      have hq7:=s7 _ _ hq
      have hg7:=s7 _ _ (s06 _ _ hg)
      refine zCH ⟨rfl,?_⟩
      walk_at "rd"
      refine⟨g,dx,da,seed,w,d,c.1,c.2,rfl,hg7,?_⟩
      walk_at "rd"
      have et:(ar.take (i+1)).filter okC=(ar.take i).filter okC++(if okC c=true then [c] else []):=by
        rw[zZ hc,List.filter_append,List.filter_cons,List.filter_nil]
      refine zR (fun h1=>?_) (fun h1=>?_)
      . walk_at "rd"
        refine⟨g,dx,da,seed,w,d,c.1,c.2,rfl,hg7,hw1.2,?_⟩
        have hlen:(((ar.take i).filter okC).map fun c=>V.int (c.2*w+c.1)).length<sizeLine:=by
          rw[List.length_map]
          have h5:=List.length_filter_le okC (ar.take i)
          have h6:(ar.take i).length<=4:=by rw[List.length_take];exact Nat.min_le_right _ _
          exact small (by omega)
        refine qS f7 hlen ⟨qC s7 hD,?_⟩
        rw[zJ,et,if_pos (show okC c=true from h1),List.map_append]
        rfl
      . refine⟨s7,?_⟩
        rw[et,if_neg (by rw[show okC c=false from h1];decide),List.append_nil]
        exact f7
    . rintro H' ⟨s7,f7⟩
      refine k H' D (s06.trans s7) (s06.free hD) ?_
      rw[f7]
      refine congrArg (fun z=>some (HO.lst z)) ?_
      exact nbs_eq hw1.1 hn
end
end Gs
namespace Gs
open PySem PySem.Spec PyProof.Rows L2
section
variable{P:Program}{w:World}{K:PySem.W.Frag}{mg:Str->Option Value}{base:Heap}{A:Ads}
def houseF(seed:Nat)(a:Vbwsan.House):List (Str×V):=[("x",.int a.x),("y",.int a.y),("width",.int a.w),("depth",.int a.d),("rank",.int (Vbwsan.rank seed a:Nat))]
def HouseV(A:Ads)(seed:Nat)(H:Hp)(v:V)(a:Vbwsan.House):Prop:=∃p dx,v=.ref p/\H p=some (.ins A.C_House dx (houseF seed a))
theorem zY{A:Ads}{seed:Nat}:Stable (HouseV A seed):=fun H H' v x k ⟨p,dx,e,h⟩=>⟨p,dx,e,k p _ h trivial⟩
def qM(A:Ads):Sp:=fun vs H Q _=>∃(p dx:Addr) (x y w d r:Int),vs=[.ref p,.int x,.int y,.int w,.int d,.int r]/\H p=some (.ins A.C_House dx [])/\
  ∀H',H' p=some (.ins A.C_House dx [("x",.int x),("y",.int y),("width",.int w),("depth",.int d),("rank",.int r)])->Ext p H H'->Q .non H'
abbrev qG:Stmt:=inClass (top 17) 0
theorem sc_House___init__:FnScope ["self","x","y","width","depth","rank"] ["self","x","y","width","depth","rank"] (defScope qG):=⟨rfl,rfl,rfl,by decide +kernel,rfl,by decide +kernel,by decide +kernel⟩
theorem ok_House_init{f:Addr}{fd:FuncData}(F:Fun K "__init__" "House.__init__" qG f fd)(T:Glb K mg A):FnOk P w K mg base CX0 1 f fd ["self","x","y","width","depth","rank"] (qM A):=by
  refine F.ok sc_House___init__ (fun vs H Q E h=>?_) (fun cdv Ar outer s H vs Q E hr h=>?_)
  . obtain⟨p,dx,a,b,c,d,e,rfl,_⟩:=h
    rfl
  . obtain⟨p,dx,x,y,w,d,r,rfl,hp,k⟩:=h
    refine⟨_,(zB (Zd (pv 0) (pv 1) rfl)
      (zB (Zd (pv 0) (pv 2) rfl)
      (zB (Zd (pv 0) (pv 3) rfl)
      (zB (Zd (pv 0) (pv 4) rfl)
      (zD (Zd (pv 0) (pv 5) rfl)))))),?_⟩
    refine st0 (σ0:=[some _,some _,some _,some _,some _,some _]) rfl ?_
    try dsimp only[cxOf]
    walk_at "rd"
    exact k _ zJ j2
def sp_covers(A:Ads):Sp:=fun vs H Q _=>∃(p dx:Addr) (seed:Nat) (a:Vbwsan.House) (x y:Nat),vs=[.ref p,.int x,.int y]/\H p=some (.ins A.C_House dx (houseF seed a))/\Q (.bl (Vbwsan.covers a x y)) H
abbrev s_House_covers:Stmt:=inClass (top 17) 1
theorem sc_House_covers:FnScope ["self","x","y"] ["self","x","y"] (defScope s_House_covers):=⟨rfl,rfl,rfl,by decide +kernel,rfl,by decide +kernel,by decide +kernel⟩
theorem ok_covers {f : Addr} {fd : FuncData} (F : Fun K "covers" "House.covers" s_House_covers f fd) (T : Glb K mg A) : FnOk P w K mg base CX0 1 f fd ["self", "x", "y"] (sp_covers A) := by
  refine F.ok sc_House_covers (fun vs H Q E h=>?_) (fun cdv Ar outer s H vs Q E hr h=>?_)
  . obtain⟨p,dx,seed,a,x,y,rfl,_⟩:=h
    rfl
  . obtain⟨p,dx,seed,a,x,y,rfl,hp,q⟩:=h
    refine⟨_,(zD (zH (jl (QY z9 jT (zF (pv 0) rfl) (pv 1) (zK zW (zF (pv 0) rfl) (zF (pv 0) rfl))) (Qw (QY z9 jT (zF (pv 0) rfl) (pv 2) (zK zW (zF (pv 0) rfl) (zF (pv 0) rfl))))))),?_⟩
    refine st0 (σ0:=[some _,some _,some _]) rfl ?_
    try dsimp only[cxOf]
    walk_at "rd"
    have fin:∀b:Bool,(b=true↔(a.x<=x/\x<a.x+a.w/\a.y<=y/\y<a.y+a.d))->b=Vbwsan.covers a x y:=fun b h=>Bool.eq_iff_iff.mpr (h.trans Gm.QC.symm)
    with_reducible refine zR (fun h1=>?_) (fun h1=>?_)
    . walk_at "rd"
      with_reducible refine zR (fun h2=>?_) (fun h2=>?_)
      . walk_at "rd"
        with_reducible refine zR (fun h3=>?_) (fun h3=>?_)
        . walk_at "rd"
          refine Q_bl q (fin _ ?_)
          simp at h1 h2 h3 ⊢
          omega
        . walk_at "rd"
          refine Q_bl q (fin _ ?_)
          simp at h1 h2 h3 ⊢
          omega
      . walk_at "rd"
        refine Q_bl q (fin _ ?_)
        simp at h1 h2 ⊢
        omega
    . walk_at "rd"
      refine Q_bl q (fin _ ?_)
      simp at h1 ⊢
      omega
def sp_side:Sp:=fun vs H Q _=>∃r:Nat,vs=[.int r]/\Q (.int ((2+r%3:Nat):Int)) H
abbrev zBZ:Stmt:=top 18
theorem sc_side:FnScope ["raw"] ["raw"] (defScope zBZ):=⟨rfl,rfl,rfl,by decide +kernel,rfl,by decide +kernel,by decide +kernel⟩
theorem ok_side{f:Addr}{fd:FuncData}(F:Fun K "side" "side" zBZ f fd)(T:Glb K mg A):FnOk P w K mg base CX0 1 f fd ["raw"] sp_side:=by
  refine F.ok sc_side (fun vs H Q E h=>?_) (fun cdv Ar outer s H vs Q E hr h=>?_)
  . obtain⟨r,rfl,_⟩:=h
    rfl
  . obtain⟨r,rfl,q⟩:=h
    refine⟨_,(zD (zH (zK zW (zM T.g_LEAST_SIDE) (zK QA (pv 0) (zK zW (zK ZR (zM T.g_GREATEST_SIDE) (zM T.g_LEAST_SIDE)) zE))))),?_⟩
    refine st0 (σ0:=[some _]) rfl ?_
    try dsimp only[cxOf]
    walk_at "rd"
    exact zCD q (by simp)
def sp_too_near(A:Ads):Sp:=fun vs H Q _=>∃(p q dx dy:Addr) (seed:Nat) (a b:Vbwsan.House),vs=[.ref p,.ref q]/\H p=some (.ins A.C_House dx (houseF seed a))/\H q=some (.ins A.C_House dy (houseF seed b))/\Q (.bl (Vbwsan.near a b)) H
abbrev jh:Stmt:=top 22
theorem Q7:FnScope ["one","other","by_x","by_y"] ["one","other"] (defScope jh):=⟨rfl,rfl,rfl,by decide +kernel,rfl,by decide +kernel,by decide +kernel⟩
theorem ok_too_near{f:Addr}{fd:FuncData}(F:Fun K "too_near" "too_near" jh f fd)(T:Glb K mg A):FnOk P w K mg base CX0 1 f fd ["one","other"] (sp_too_near A):=by
  refine F.ok Q7 (fun vs H Q E h=>?_) (fun cdv Ar outer s H vs Q E hr h=>?_)
  . obtain⟨p,q,dx,dy,seed,a,b,rfl,_⟩:=h
    rfl
  . obtain⟨p,p2,dx,dy,seed,a,b,rfl,hp,hq,q⟩:=h
    have fin:∀c:Bool,(c=true↔(a.x<=b.x+b.w/\b.x<=a.x+a.w/\a.y<=b.y+b.d/\b.y<=a.y+a.d))->c=Vbwsan.near a b:=fun c h=>Bool.eq_iff_iff.mpr (h.trans Gm.jB.symm)
    refine⟨_,(zB (zG (i:=2) Q7.nd rfl (Or.inl rfl) (jl (Z8 z9 (zF (pv 0) rfl) (zK zW (zF (pv 1) rfl) (zF (pv 1) rfl)) (nomark _)) (Qw (Z8 z9 (zF (pv 1) rfl) (zK zW (zF (pv 0) rfl) (zF (pv 0) rfl)) (nomark _)))))
      (zB (zG (i:=3) Q7.nd rfl (Or.inl rfl) (jl (Z8 z9 (zF (pv 0) rfl) (zK zW (zF (pv 1) rfl) (zF (pv 1) rfl)) (nomark _)) (Qw (Z8 z9 (zF (pv 1) rfl) (zK zW (zF (pv 0) rfl) (zF (pv 0) rfl)) (nomark _)))))
      (zD (zH (jl (pv 2) (Qw (pv 3))))))),?_⟩
    refine st0 (σ0:=[some _,some _,none,none]) rfl ?_
    try dsimp only[cxOf]
    walk_at "rd"
    with_reducible refine zR (fun h1=>?_) (fun h1=>?_)
    all_goals walk_at "rd"
    all_goals with_reducible refine zR (fun h2=>?_) (fun h2=>?_)
    all_goals walk_at "rd"
    all_goals try with_reducible refine zR (fun h3=>?_) (fun h3=>?_)
    all_goals try walk_at "rd"
    all_goals refine Q_bl q (fin _ ?_)
    all_goals simp at*
    all_goals omega
def sp_goes_ahead(A:Ads):Sp:=fun vs H Q _=>∃(p q dx dy:Addr) (seed:Nat) (a b:Vbwsan.House),vs=[.ref p,.ref q]/\H p=some (.ins A.C_House dx (houseF seed a))/\H q=some (.ins A.C_House dy (houseF seed b))/\∀H',Same H H'->Q (.bl (Vbwsan.ahead seed a b)) H'
theorem ahead_lex{seed:Nat}{a b:Vbwsan.House}:HT.lexLt [((Vbwsan.rank seed b:Nat):Int),-(b.y:Int),-(b.x:Int)] [((Vbwsan.rank seed a:Nat):Int),-(a.y:Int),-(a.x:Int)]=Vbwsan.ahead seed a b:=by
  unfold Vbwsan.ahead
  generalize Vbwsan.rank seed a=ra
  generalize Vbwsan.rank seed b=rb
  simp only[HT.lexLt_cons,HT.lexLt_nil_nil]
  refine Bool.eq_iff_iff.mpr ?_
  simp only[Bool.or_eq_true,Bool.and_eq_true,decide_eq_true_eq,beq_iff_eq]
  by_cases h1:(rb:Int)=ra
  . rw[if_pos h1]
    by_cases h2 : -(b.y:Int) = -(a.y:Int)
    . rw[if_pos h2]
      by_cases h3 : -(b.x:Int) = -(a.x:Int)
      . rw[if_pos h3];simp;omega
      . rw[if_neg h3,decide_eq_true_iff];omega
    . rw[if_neg h2,decide_eq_true_iff];omega
  . rw[if_neg h1,decide_eq_true_iff];omega
abbrev Qn:Stmt:=top 23
theorem sc_goes_ahead:FnScope ["one","other"] ["one","other"] (defScope Qn):=⟨rfl,rfl,rfl,by decide +kernel,rfl,by decide +kernel,by decide +kernel⟩
theorem ok_goes_ahead{f:Addr}{fd:FuncData}(F:Fun K "goes_ahead" "goes_ahead" Qn f fd)(T:Glb K mg A):FnOk P w K mg base CX0 1 f fd ["one","other"] (sp_goes_ahead A):=by
  refine F.ok sc_goes_ahead (fun vs H Q E h=>?_) (fun cdv Ar outer s H vs Q E hr h=>?_)
  . obtain⟨p,q,dx,dy,seed,a,b,rfl,_⟩:=h
    rfl
  . obtain⟨p,p2,dx,dy,seed,a,b,rfl,hp,hq,k⟩:=h
    have hu0:=hr.units0
    refine⟨_,(zD (zH (Z8 (op_gtT hu0) (zu (zA (zF (pv 0) rfl) (zA (zAV j7 (zF (pv 0) rfl)) (zA (zAV j7 (zF (pv 0) rfl)) zC)))) (zu (zA (zF (pv 1) rfl) (zA (zAV j7 (zF (pv 1) rfl)) (zA (zAV j7 (zF (pv 1) rfl)) zC)))) (nomark _)))),?_⟩
    refine st0 (σ0:=[some _,some _]) rfl ?_
    try dsimp only[cxOf]
    walk_at "rd"
    walk_at "new"
    rename_i t1 ht1 H1 f1 s1
    have hp1:=s1 _ _ hp
    have hq1:=s1 _ _ hq
    walk_at "rd"
    walk_at "new"
    rename_i t2 ht2 H2 f2 s2
    walk_at "rd"
    refine⟨t1,t2,[((Vbwsan.rank seed a:Nat):Int),-(a.y:Int),-(a.x:Int)],[((Vbwsan.rank seed b:Nat):Int),-(b.y:Int),-(b.x:Int)],rfl,rfl,SqT.of (s2 _ _ f1),SqT.of f2,?_⟩
    rw[ahead_lex]
    exact k _ (s1.trans s2)
def j8(A:Ads):Sp:=fun vs H Q _=>∃(p dx l:Addr) (seed:Nat) (a:Vbwsan.House) (hs:List Vbwsan.House),vs=[.ref p,.ref l]/\H p=some (.ins A.C_House dx (houseF seed a))/\LAt (HouseV A seed) H l hs/\∀H',Same H H'->Q (.bl (Gm.standsIn seed a hs)) H'
abbrev s_stands:Stmt:=top 24
theorem zAO:FnScope ["house","candidates","other"] ["house","candidates"] (defScope s_stands):=⟨rfl,rfl,rfl,by decide +kernel,rfl,by decide +kernel,by decide +kernel⟩
theorem ok_stands {f : Addr} {fd : FuncData} (F : Fun K "stands" "stands" s_stands f fd) (T : Glb K mg A) (f_too_near : FnAt P w K mg base 1 "too_near" ["one", "other"] (sp_too_near A)) (f_goes_ahead : FnAt P w K mg base 1 "goes_ahead" ["one", "other"] (sp_goes_ahead A)) :
    FnOk P w K mg base CX0 2 f fd ["house","candidates"] (j8 A):=by
  refine F.ok zAO (fun vs H Q E h=>?_) (fun cdv Ar outer s H vs Q E hr h=>?_)
  . obtain⟨p,dx,l,seed,a,hs,rfl,_⟩:=h
    rfl
  . obtain ⟨p, dx, l, seed, a, hs, rfl, hp, hl, k⟩ := h
    obtain⟨ts,hl1,hl2⟩:=hl
    refine⟨_,(zB (ZQ PassesOwn.never rfl (ZL (pv 1)) (zX (i:=2) zAO.nd rfl (Or.inl rfl)) (zD (zf (zAw (zm (zV f_too_near hr (zA (pv 0) (zA (pv 2) zC)))) (zAv (zm (zV f_goes_ahead hr (zA (pv 2) (zA (pv 0) zC)))))).pt (zD (zH jS)) zP)))
      (zD (zH jS))),?_⟩
    refine st0 (σ0:=[some _,some _,none]) rfl ?_
    try dsimp only[cxOf]
    walk_at "rd"
    refine zq (SqL.of hl1) ?_
    refine qi (xs:=ts) (fun i σ H'=>∃v2:Option V,σ=[some (.ref p),some (.ref l),v2]/\Same H H'/\∀b∈hs.take i,(Vbwsan.near a b&&Vbwsan.ahead seed b a)=false) ⟨none,rfl,Same.refl _,by simp⟩ (fun i σ H' _ ⟨_,_,s1,_⟩=>SqL.of (s1 _ _ hl1)) ?_ ?_
    . rintro i x σ H' hx ⟨v2,rfl,s1,h1⟩
      obtain⟨b,hb,p2,dy,rfl,hp2⟩:=ZO hl2 hx
      have hp1:=s1 _ _ hp
      have hp21:=s1 _ _ hp2
      walk_at "rd"
      refine⟨p,p2,dx,dy,seed,a,b,rfl,hp1,hp21,?_⟩
      walk_at "rd"
      have snoc:(Vbwsan.near a b&&Vbwsan.ahead seed b a)=false->∀c∈hs.take (i+1),(Vbwsan.near a c&&Vbwsan.ahead seed c a)=false:=fun q c hc=>by
        rw[zZ hb] at hc
        rcases List.mem_append.mp hc with hc|hc
        . exact h1 c hc
        . rw[List.mem_singleton.mp hc];exact q
      with_reducible refine zR (fun h2=>?_) (fun h2=>?_)
      . walk_at "rd"
        refine⟨p2,p,dy,dx,seed,b,a,rfl,hp21,hp1,fun H2 s2=>?_⟩
        walk_at "rd"
        with_reducible refine zR (fun h3=>?_) (fun h3=>?_)
        . walk_at "rd"
          have z:Gm.standsIn seed a hs=false:=by
            unfold Gm.standsIn
            rw[show(hs.any fun b=>Vbwsan.near a b&&Vbwsan.ahead seed b a)=true from List.any_eq_true.mpr ⟨b,List.mem_of_getElem? hb,by rw[h2,h3,Bool.and_self]⟩]
            exact Bool.not_true
          have q:=k _ (s1.trans s2)
          rw[z] at q
          exact q
        . walk_at "rd"
          exact⟨_,rfl,s1.trans s2,snoc (by rw[h2,h3,Bool.and_false])⟩
      . walk_at "rd"
        exact⟨_,rfl,s1,snoc (by rw[h2,Bool.false_and])⟩
    . rintro σ H' ⟨v2,rfl,s1,h1⟩
      walk_at "rd"
      have hl:ts.length=hs.length:=Paired.length hl2
      rw[hl,List.take_length] at h1
      have z:Gm.standsIn seed a hs=true:=by
        unfold Gm.standsIn
        rw[show(hs.any fun b=>Vbwsan.near a b&&Vbwsan.ahead seed b a)=false from List.any_eq_false.mpr fun b hb q=>by rw[h1 b hb] at q;cases q]
        exact Bool.not_false
      have q:=k _ s1
      rw[z] at q
      exact q
def sp_is_covered(A:Ads):Sp:=fun vs H Q _=>∃(l:Addr) (seed:Nat) (hs:List Vbwsan.House) (x y:Nat),vs=[.ref l,.int x,.int y]/\LAt (HouseV A seed) H l hs/\hs.length<=100000/\∀H',Same H H'->Q (.bl (hs.any fun a=>Vbwsan.covers a x y)) H'
abbrev s_is_covered:Stmt:=top 27
theorem QL:FnScope ["houses","x","y","house"] ["houses","x","y"] (defScope s_is_covered):=⟨rfl,rfl,rfl,by decide +kernel,rfl,by decide +kernel,by decide +kernel⟩
theorem ok_is_covered {f : Addr} {fd : FuncData} (F : Fun K "is_covered" "is_covered" s_is_covered f fd) (T : Glb K mg A) (m_House_covers : MtAt P w K mg base 1 A.C_House "covers" ["self", "x", "y"] (sp_covers A)) :
    FnOk P w K mg base CX0 2 f fd ["houses","x","y"] (sp_is_covered A):=by
  refine F.ok QL (fun vs H Q E h=>?_) (fun cdv Ar outer s H vs Q E hr h=>?_)
  . obtain⟨l,seed,hs,x,y,rfl,_⟩:=h
    rfl
  . obtain⟨l,seed,hs,x,y,rfl,hl,hlen,k⟩:=h
    obtain⟨ts,hl1,hl2⟩:=hl
    have hl3:ts.length=hs.length:=Paired.length hl2
    refine⟨_,(zD (zH (zU (zCY rfl) (by rfl) T.b_any (by decide +kernel) (zA (Jw (own:=[("house",3)]) rfl QL.nd (ZL (pv 0)) (qT (by rfl)) (fun _ _ _ _ _=>(zX (i:=3) QL.nd rfl (Or.inl rfl))) (fun _ _ _ _ _=>Qu) (fun _ _ _ _ _=>(zT (pv 3) T.c_House m_House_covers hr (zA (pv 1) (zA (pv 2) zC))))) zC)))),?_⟩
    refine st0 (σ0:=[some _,some _,some _,none]) rfl ?_
    try dsimp only[cxOf]
    walk_at "rd"
    refine zq (SqL.of hl1) ?_
    refine Qz (xs:=ts) rfl (fun D i H'=>Same H H'/\H' D=some (.lst (((hs.take i).map fun a=>Vbwsan.covers a x y).map V.bl))) fun D hD=>⟨⟨ZU hD,zJ⟩,fun i H' p=>SqL.of (p.1 _ _ hl1),?_,?_⟩
    . rintro i v H' hv ⟨s1,f1⟩
      obtain⟨a,ha,p,dx,rfl,hp⟩:=ZO hl2 hv
      have hp1:=s1 _ _ hp
      refine zCb ⟨rfl,?_⟩
      walk_at "rd"
      refine⟨p,dx,seed,a,x,y,rfl,hp1,?_⟩
      refine qS f1 ?_ ⟨qC s1 hD,?_⟩
      . rw[List.length_map,List.length_map,List.length_take]
        exact small (Nat.le_trans (Nat.min_le_right _ _) (Nat.le_trans hlen (by decide)))
      . rw[zJ,zZ ha,List.map_append,List.map_append]
        rfl
    . rintro H' ⟨s1,f1⟩
      walk_at "rd"
      rw[hl3,List.take_length] at f1
      refine⟨D,_,rfl,SqL.of f1,?_⟩
      have q:=k _ s1
      have z:(hs.any fun a=>Vbwsan.covers a x y)=(hs.map fun a=>Vbwsan.covers a x y).any id:=by rw[List.any_map];exact congrArg (fun f=>hs.any f) (funext fun _=>rfl)
      rw[z] at q
      exact q
end
end Gs
namespace Gs
open PySem PySem.Spec PyProof.Rows L2
section
variable{P:Program}{w:World}{K:PySem.W.Frag}{mg:Str->Option Value}{base:Heap}{A:Ads}
theorem zBN{hs:List Nat}{m:Int}(h:m∈hs.map fun n:Nat=>(n:Int)):∃n:Nat,n∈hs/\m=n:=by
  obtain⟨n,h1,h2⟩:=List.mem_map.mp h
  exact⟨n,h1,h2.symm⟩
def hsIn(seed l t bw bd:Nat):List Nat:=(box l t bw bd).map fun c=>Vbwsan.madeHeight seed c.1 c.2
def sp_is_flat(A:Ads):Sp:=fun vs H Q _=>∃(g da:Addr) (seed w d l t bw bd:Nat),vs=[.ref g,.int l,.int t,.int bw,.int bd]/\GrAt A H g da seed w d/\(1<=bw/\bw<=4/\1<=bd/\bd<=4/\l+bw<=35/\t+bd<=35)/\
  ∀H',GrAt A H' g da seed w d->Ext da H H'->Q (.bl (decide (¬ Vbwsan.leastOf (hsIn seed l t bw bd)+300<Vbwsan.mostOf (hsIn seed l t bw bd)))) H'
theorem jw{l t w d:Nat}{c:Nat×Nat}(h:c∈box l t w d):l<=c.1/\c.1<l+w/\t<=c.2/\c.2<t+d:=by
  unfold box at h
  obtain⟨j,hj,h⟩:=List.mem_flatMap.mp h
  obtain⟨i,hi,rfl⟩:=List.mem_map.mp h
  have:=List.mem_range.mp hj
  have:=List.mem_range.mp hi
  dsimp only
  omega
abbrev s_is_flat:Stmt:=top 19
theorem jg:FnScope ["ground","left","top","width","depth","place","heights"] ["ground","left","top","width","depth"] (defScope s_is_flat):=⟨rfl,rfl,rfl,by decide +kernel,rfl,by decide +kernel,by decide +kernel⟩
theorem ok_is_flat {f : Addr} {fd : FuncData} (F : Fun K "is_flat" "is_flat" s_is_flat f fd) (T : Glb K mg A) (f_box_cells : FnAt P w K mg base 1 "box_cells" ["left", "top", "width", "depth"] sp_box_cells)
    (m_Ground_made_height:MtAt P w K mg base 6 A.C_Ground "made_height" ["self","x","y"] (ZD A)):FnOk P w K mg base CX0 7 f fd ["ground","left","top","width","depth"] (sp_is_flat A):=by
  refine F.ok jg (fun vs H Q E h=>?_) (fun cdv Ar outer s H vs Q E hr h=>?_)
  . obtain⟨g,da,a,b,c,l,t,bw,bd,rfl,_⟩:=h
    rfl
  . obtain⟨g,da,seed,w,d,l,t,bw,bd,rfl,G,⟨h1,h2,h3,h4,h5,h6⟩,k⟩:=h
    refine⟨_,(zB (ps_setLc (i:=6) (own:=[("place",5)]) rfl jg.nd rfl rfl rfl (ZL (zV f_box_cells hr (zA (pv 1) (zA (pv 2) (zA (pv 3) (zA (pv 4) zC)))))) (qT (by rfl)) (fun _ _ _ _ _=>(zX (i:=5) jg.nd rfl (Or.inl rfl))) (fun _ _ _ _ _=>Qu) (fun _ _ _ _ _=>(zT (pv 0) T.c_Ground m_Ground_made_height hr (zA (zN (show IxR _ (rIxT K) from zg) (pv 5) zE (fun _ _=>rfl)) (zA (zN (show IxR _ (rIxT K) from zg) (pv 5) zE (fun _ _=>rfl)) zC)))))
      (zD (zH (Z8 z9 (zK ZR (zU (zAG rfl) (by rfl) T.b_max (by decide +kernel) (zA (pv 6) zC)) (zU (zBf rfl) (by rfl) T.b_min (by decide +kernel) (zA (pv 6) zC))) (zM T.g_FLAT_WITHIN) (nomark _))))),?_⟩
    refine st0 (σ0:=[some _,some _,some _,some _,some _,none,none]) rfl ?_
    try dsimp only[cxOf]
    walk_at "rd"
    refine⟨l,t,bw,bd,rfl,⟨by omega,by omega,by omega,by omega⟩,fun H1 p s1 hp c1=>?_⟩
    have G1:=G.same s1
    obtain⟨ts,hl1,hl2⟩:=id c1
    have hlen:ts.length=(box l t bw bd).length:=Paired.length hl2
    have hbl:(box l t bw bd).length<=16:=by rw[Zw];exact Nat.le_trans (zk h2 h4) (by decide)
    refine zq (SqL.of hl1) ?_
    refine Qz (xs:=ts) rfl (fun D i H'=>Ext da H1 H'/\GrAt A H' g da seed w d/\H' D=some (.lst ((((box l t bw bd).take i).map fun c=>((Vbwsan.madeHeight seed c.1 c.2:Nat):Int)).map V.int))) fun D hD=>⟨⟨(ZU hD).ext,G1.same (ZU hD),zJ⟩,fun i H' p=>SqL.of (Ext.at G1 p.1 hl1 (fun z q=>by cases q)),?_,?_⟩
    . rintro i v H' hv ⟨e1,G2,f1⟩
      obtain⟨c,hc,q,rfl,hq⟩:=ZO hl2 hv
      have hq2:=Ext.at G1 e1 hq (fun z q=>by cases q)
      have hcb:=jw (List.mem_of_getElem? hc)
      obtain⟨dx,hg2⟩:=G2.ins
      refine zCI ⟨rfl,?_⟩
      walk_at "rd"
      refine⟨g,da,seed,w,d,c.1,c.2,rfl,G2,by omega,by omega,fun H3 G3 e3=>?_⟩
      refine qS (Ext.at G2 e3 f1 (fun z q=>by cases q)) ?_ ⟨Zo (e1.trans e3) hD,?_,?_⟩
      . rw[List.length_map,List.length_map,List.length_take]
        exact small (by omega)
      . have hDg:D≠g:=fun q=>by rw[<-q] at hg2;rw[f1] at hg2;cases hg2
        have hDd:D≠da:=fun q=>by obtain⟨_,z,_⟩:=G2.cor;rw[<-q,f1] at z;cases z
        obtain⟨⟨dx3,z1⟩,⟨kvs,z2,z3⟩,z4,z5⟩:=G3
        exact⟨⟨dx3,by rw[zI (Ne.symm hDg)];exact z1⟩,⟨kvs,by rw[zI (Ne.symm hDd)];exact z2,z3⟩,z4,z5⟩
      . rw[zJ,zZ hc,List.map_append,List.map_append]
        rfl
    . rintro H' ⟨e1,G2,f1⟩
      rw[hlen,List.take_length] at f1
      have e2:((box l t bw bd).map fun c=>((Vbwsan.madeHeight seed c.1 c.2:Nat):Int))=(hsIn seed l t bw bd).map fun n:Nat=>(n:Int):=by unfold hsIn;rw[List.map_map];rfl
      rw[e2] at f1
      have hpos:0<((hsIn seed l t bw bd).map fun n:Nat=>(n:Int)).length:=by
        unfold hsIn
        rw[List.length_map,List.length_map,Zw]
        exact Nat.mul_pos h1 h3
      walk_at "rd"
      refine⟨D,_,rfl,SqL.of f1,hpos,fun m hm hy=>?_⟩
      walk_at "rd"
      refine⟨D,_,rfl,SqL.of f1,hpos,fun m2 hm2 hy2=>?_⟩
      walk_at "rd"
      obtain⟨n,hn,rfl⟩:=zBN hm
      obtain⟨n2,hn2,rfl⟩:=zBN hm2
      have z1:Vbwsan.mostOf (hsIn seed l t bw bd)=n:=Gm.JJ hn fun y hq=>by have:=hy (y:Int) (List.mem_map.mpr ⟨y,hq,rfl⟩);omega
      have z2:Vbwsan.leastOf (hsIn seed l t bw bd)=n2:=Gm.J4 hn2 fun y hq=>by have:=hy2 (y:Int) (List.mem_map.mpr ⟨y,hq,rfl⟩);omega
      have q:=k _ G2 (Ext.sameR s1 e1)
      rw[z1,z2] at q
      have z3:decide (¬ n2+300<n)=decide ((n:Int) - n2<=300):=decide_eq_decide.mpr (by omega)
      rw[z3] at q
      exact q
def CandV(A:Ads)(seed:Nat)(H:Hp)(v:V)(o:Option Vbwsan.House):Prop:=(o=none/\v=.non)\/∃a,o=some a/\HouseV A seed H v a
def sp_candidate_at(A:Ads):Sp:=fun vs H Q _=>∃(g da:Addr) (seed w d x y:Nat),vs=[.ref g,.int x,.int y]/\GrAt A H g da seed w d/\x<w/\y<d/\
  ∀H' v,GrAt A H' g da seed w d->Ext da H H'->CandV A seed H' v (Vbwsan.candidate seed w d x y)->Q v H'
abbrev s_candidate_at:Stmt:=top 20
theorem qY:FnScope ["ground","x","y","width","depth"] ["ground","x","y"] (defScope s_candidate_at):=⟨rfl,rfl,rfl,by decide +kernel,rfl,by decide +kernel,by decide +kernel⟩
theorem ok_candidate_at {f : Addr} {fd : FuncData} (F : Fun K "candidate_at" "candidate_at" s_candidate_at f fd) (T : Glb K mg A) (f_side : FnAt P w K mg base 1 "side" ["raw"] sp_side) (f_is_flat : FnAt P w K mg base 7 "is_flat" ["ground", "left", "top", "width", "depth"] (sp_is_flat A))
    (m_Ground_raw:MtAt P w K mg base 3 A.C_Ground "raw" ["self","purpose","x","y"] (sp_Ground_raw A)) (k_House:MkAt P w K mg base 1 A.C_House "House" ["self","x","y","width","depth","rank"] (qM A)):FnOk P w K mg base CX0 8 f fd ["ground","x","y"] (sp_candidate_at A):=by
  refine F.ok qY (fun vs H Q E h=>?_) (fun cdv Ar outer s H vs Q E hr h=>?_)
  . obtain⟨g,da,a,b,c,x,y,rfl,_⟩:=h
    rfl
  . obtain⟨g,da,seed,w,d,x,y,rfl,G,hx,hy,k⟩:=h
    obtain⟨dx,hg⟩:=G.ins
    have hw:w<=32:=by rcases G.wd with h|h|h|h<;>omega
    have hd:d<=32:=by rcases G.dp with h|h|h|h<;>omega
    have b6:Gm.candW seed x y<=4/\2<=Gm.candW seed x y:=by unfold Gm.candW;omega
    have b7:Gm.candD seed x y<=4/\2<=Gm.candD seed x y:=by unfold Gm.candD;omega
    refine⟨_,(zB (zf (zn op_ne (zK QA (zT (pv 0) T.c_Ground m_Ground_raw hr (zA (zM T.g_CANDIDATE_PURPOSE) (zA (pv 1) (zA (pv 2) zC)))) (zM T.g_ONE_IN_houses)) zE (nomark _)) (zD (zH QR)) zP)
      (zB (zG (i:=3) qY.nd rfl (Or.inl rfl) (zV f_side hr (zA (zT (pv 0) T.c_Ground m_Ground_raw hr (zA (zM T.g_WIDTH_PURPOSE) (zA (pv 1) (zA (pv 2) zC)))) zC)))
      (zB (zG (i:=4) qY.nd rfl (Or.inl rfl) (zV f_side hr (zA (zT (pv 0) T.c_Ground m_Ground_raw hr (zA (zM T.g_DEPTH_PURPOSE) (zA (pv 1) (zA (pv 2) zC)))) zC)))
      (zB (zf (ju (zn zBM (zK zW (pv 1) (pv 3)) (zF (pv 0) rfl) (nomark _)) (Qt (zn zBM (zK zW (pv 2) (pv 4)) (zF (pv 0) rfl) (nomark _)))).pt (zD (zH QR)) zP)
      (zB (zf (zt (zm (zV f_is_flat hr (zA (pv 0) (zA (pv 1) (zA (pv 2) (zA (pv 3) (zA (pv 4) zC)))))))) (zD (zH QR)) zP)
      (zD (zH (zCN k_House hr (zA (pv 1) (zA (pv 2) (zA (pv 3) (zA (pv 4) (zA (zT (pv 0) T.c_Ground m_Ground_raw hr (zA (zM T.g_RANK_PURPOSE) (zA (pv 1) (zA (pv 2) zC)))) zC))))))))))))),?_⟩
    refine st0 (σ0:=[some _,some _,some _,none,none]) rfl ?_
    try dsimp only[cxOf]
    walk_at "rd"
    refine⟨g,dx,da,seed,w,d,5,x,y,rfl,hg,?_⟩
    walk_at "rd"
    with_reducible refine zR (fun h1=>?_) (fun h1=>?_)
    . walk_at "rd"
      refine k _ _ G Ext.refl (.inl ⟨Gm.cand_no1 fun q=>?_,rfl⟩)
      rw[Bool.not_eq_true',decide_eq_false_iff_not] at h1
      exact h1 (by omega)
    have h1':Vbwsan.raw seed 5 x y%12=0:=by
      rw[Bool.not_eq_false',decide_eq_true_iff] at h1
      omega
    walk_at "rd"
    refine⟨g,dx,da,seed,w,d,6,x,y,rfl,hg,?_⟩
    refine⟨_,rfl,?_⟩
    rw[show(2+Vbwsan.raw seed 6 x y%3)=Gm.candW seed x y from rfl]
    walk_at "rd"
    refine⟨g,dx,da,seed,w,d,7,x,y,rfl,hg,?_⟩
    refine⟨_,rfl,?_⟩
    rw[show(2+Vbwsan.raw seed 7 x y%3)=Gm.candD seed x y from rfl]
    walk_at "rd"
    generalize hcw:Gm.candW seed x y=cw at b6 ⊢
    generalize hcd:Gm.candD seed x y=cd at b7 ⊢
    have two:(w<x+cw\/d<y+cd)->Vbwsan.candidate seed w d x y=none:=fun q=>Gm.cand_no2 h1' (by rw[hcw,hcd];exact q)
    have fl:¬ (w<x+cw\/d<y+cd)->tIfS (tNot (tB (tCall (sp_is_flat A) [] E0 (tCons (tVar 0) (tCons (tVar 1) (tCons (tVar 2) (tCons (tVar 3) (tCons (tVar 4) tNil)))))))) (tRet (tC V.non)) tNext
        { nx:=tRet (tMake A.C_House (qM A) [] E0 (tCons (tVar 1) (tCons (tVar 2) (tCons (tVar 3) (tCons (tVar 4) (tCons (tMeth A.C_Ground "raw" (sp_Ground_raw A) [] E0 (tVar 0) (tCons (tC (V.int 8)) (tCons (tVar 1) (tCons (tVar 2) tNil)))) tNil)))))) { nx:=fun x H'=>Q V.non H',rt:=Q },rt:=Q }
        [some (V.ref g),some (V.int x),some (V.int y),some (V.int cw),some (V.int cd)] H:=fun hb=>by
      walk_at "rd"
      refine⟨g,da,seed,w,d,x,y,cw,cd,rfl,G,⟨by omega,by omega,by omega,by omega,by omega,by omega⟩,fun H1 G1 e1=>?_⟩
      walk_at "rd"
      have ehs:hsIn seed x y cw cd=Gm.candHs seed x y (Gm.candW seed x y) (Gm.candD seed x y):=by rw[hcw,hcd];rfl
      with_reducible refine zR (fun h3=>?_) (fun h3=>?_)
      . walk_at "rd"
        refine k _ _ G1 e1 (.inl ⟨Gm.cand_no3 h1' (by rw[hcw,hcd];exact hb) ?_,rfl⟩)
        rw[Bool.not_eq_true',decide_eq_false_iff_not,ehs] at h3
        exact Classical.byContradiction fun q=>h3 q
      . obtain⟨dx1,hg1⟩:=G1.ins
        have h3':¬ Vbwsan.leastOf (Gm.candHs seed x y (Gm.candW seed x y) (Gm.candD seed x y))+300<Vbwsan.mostOf (Gm.candHs seed x y (Gm.candW seed x y) (Gm.candD seed x y)):=by
          rw[Bool.not_eq_false',decide_eq_true_iff,ehs] at h3
          exact h3
        walk_at "rd"
        refine⟨g,dx1,da,seed,w,d,8,x,y,rfl,hg1,?_⟩
        walk_at "rd"
        intro pp dp n1 n2 n3
        refine⟨pp,dp,x,y,cw,cd,_,rfl,zJ,fun H2 f2 e2=>⟨rfl,?_⟩⟩
        have s2:Same H1 H2:=Same.make n1 n2 e2
        refine k _ _ (G1.same s2) (e1.sameL s2) (.inr ⟨⟨x,y,cw,cd⟩,?_,pp,dp,rfl,f2⟩)
        rw[Gm.cand_yes h1' (by rw[hcw,hcd];exact hb) h3',hcw,hcd]
    with_reducible refine zR (fun h2=>?_) (fun h2=>?_)
    . walk_at "rd"
      refine k _ _ G Ext.refl (.inl ⟨two (.inl ?_),rfl⟩)
      simp only[decide_eq_true_eq] at h2
      omega
    . simp only[decide_eq_false_iff_not] at h2
      walk_at "rd"
      with_reducible refine zR (fun h4=>?_) (fun h4=>?_)
      . walk_at "rd"
        refine k _ _ G Ext.refl (.inl ⟨two (.inr ?_),rfl⟩)
        simp only[decide_eq_true_eq] at h4
        omega
      . simp only[decide_eq_false_iff_not] at h4
        with_reducible refine zAu ?_
        exact fl (by omega)
end
end Gs
namespace Gs
open PySem PySem.Spec PyProof.Rows L2
section
variable{P:Program}{w:World}{K:PySem.W.Frag}{mg:Str->Option Value}{base:Heap}{A:Ads}
theorem GrAt.grow{A:Ads}{H:Hp}{g da l:Addr}{seed w d:Nat}{ts:List V}{o:HO}(G:GrAt A H g da seed w d)(hl:H l=some (.lst ts)):GrAt A (upd H l o) g da seed w d:=by
  obtain⟨⟨dx,h1⟩,⟨kvs,h2,h3⟩,h4,h5⟩:=G
  exact⟨⟨dx,by rw[zI (za h1 hl (by intro z;cases z))];exact h1⟩,⟨kvs,by rw[zI (za h2 hl (by intro z;cases z))];exact h2,h3⟩,h4,h5⟩
theorem GrAt.le{A:Ads}{H:Hp}{g da:Addr}{seed w d:Nat}(G:GrAt A H g da seed w d):8<=w/\w<=32/\8<=d/\d<=32:=by
  have:=G.wd
  have:=G.dp
  unfold Side at*
  omega
def Box4(l t r b:Int):Prop := -100<=l/\l<=100 /\ -100<=t/\t<=100 /\ -100<=r/\r<=100 /\ -100<=b/\b<=100
def sp_candidates_within(A:Ads):Sp:=fun vs H Q _=>∃(g da:Addr) (seed w d:Nat) (l t r b:Int),vs=[.ref g,.int l,.int t,.int r,.int b]/\GrAt A H g da seed w d/\Box4 l t r b/\
  ∀H' p,GrAt A H' g da seed w d->Ext da H H'->H p=none->LAt (HouseV A seed) H' p (Gm.candsIn seed w d l t r b)->Q (.ref p) H'
theorem fm_take{α β:Type}(f:α->Option β){l:List α}{i:Nat}{x:α}(h:l[i]?=some x):(l.take (i+1)).filterMap f=(l.take i).filterMap f++(f x).toList:=by
  rw[zZ h,List.filterMap_append,List.filterMap_cons,List.filterMap_nil]
  cases f x<;>rfl
abbrev s_candidates_within:Stmt:=top 21
theorem z0:FnScope ["ground","left","top","right","bottom","found","y","x","candidate"] ["ground","left","top","right","bottom"] (defScope s_candidates_within):=⟨rfl,rfl,rfl,by decide +kernel,rfl,by decide +kernel,by decide +kernel⟩
theorem ok_candidates_within {f : Addr} {fd : FuncData} (F : Fun K "candidates_within" "candidates_within" s_candidates_within f fd) (T : Glb K mg A) (f_candidate_at : FnAt P w K mg base 8 "candidate_at" ["ground", "x", "y"] (sp_candidate_at A)) :
    FnOk P w K mg base CX0 9 f fd ["ground","left","top","right","bottom"] (sp_candidates_within A):=by
  refine F.ok z0 (fun vs H Q E h=>?_) (fun cdv Ar outer s H vs Q E hr h=>?_)
  . obtain⟨g,da,a,b,c,x,y,z,u,rfl,_⟩:=h
    rfl
  . obtain ⟨g, da, seed, w, d, l, t, r, b, rfl, G, ⟨b1, b2, b3, b4, b5, b6, b7, b8⟩, k⟩ := h
    obtain⟨hw1,hw2,hd1,hd2⟩:=G.le
    have hdw:d*w<=32*32:=zk hd2 hw2
    refine⟨_,(zB (zG (i:=5) z0.nd rfl (Or.inl rfl) (zQ zC))
      (zB (ZQ PassesOwn.never rfl (QX rfl T.b_range (zA (zU (JS rfl) (by rfl) T.b_max (by decide +kernel) (zA (pv 2) (zA zE zC))) (zA (zU (JR rfl) (by rfl) T.b_min (by decide +kernel) (zA (zK zW (pv 4) zE) (zA (zF (pv 0) rfl) zC))) zC))) (zX (i:=6) z0.nd rfl (Or.inl rfl)) (zD (ZQ PassesOwn.never rfl (QX rfl T.b_range (zA (zU (JS rfl) (by rfl) T.b_max (by decide +kernel) (zA (pv 1) (zA zE zC))) (zA (zU (JR rfl) (by rfl) T.b_min (by decide +kernel) (zA (zK zW (pv 3) zE) (zA (zF (pv 0) rfl) zC))) zC))) (zX (i:=7) z0.nd rfl (Or.inl rfl)) (zB (zG (i:=8) z0.nd rfl (Or.inl rfl) (zV f_candidate_at hr (zA (pv 0) (zA (pv 7) (zA (pv 6) zC)))))
      (zD (zf (zn zBn (pv 8) QR (nomark _)) (zD (zo (q0 PySem.F.plainAttrs_list PySem.F.slot_list_append PySem.F.type_list_append qJ (pv 5) (zA (pv 8) zC)))) zP))))))
      (zD (zH (pv 5))))),?_⟩
    refine st0 (σ0:=[some _,some _,some _,some _,some _,none,none,none,none]) rfl ?_
    try dsimp only[cxOf]
    walk_at "rd"
    walk_at "new"
    rename_i p hp H1 f1 s1
    obtain⟨dx,hg1⟩:=(G.same s1).ins
    walk_at "rd"
    refine QW (by omega) ?_
    rw[<-Gm.Jo (lo:=t) (hi:=b) (n:=d)]
    let row:Nat->List Vbwsan.House:=fun y=>(Gm.span l r w).filterMap fun x=>Vbwsan.candidate seed w d x y
    let inv:Hp->List Vbwsan.House->Prop:=fun H' hs=>GrAt A H' g da seed w d/\Ext da H H'/\LAt (HouseV A seed) H' p hs
    refine QB (fun j σ H'=>∃v6 v7 v8:Option V,σ=[some (.ref g),some (.int l),some (.int t),some (.int r),some (.int b),some (.ref p),v6,v7,v8]/\inv H' (((Gm.span t b d).take j).flatMap row))
      ⟨none,none,none,rfl,G.same s1,s1.ext,⟨[],f1,.nil⟩⟩ ?_ ?_
    . rintro j σ H' hj ⟨v6,v7,v8,rfl,G2,e2,c2⟩
      have hy:=Gm.zBG hj
      have hyd:(max t 0).toNat+j<d:=(Gm.Zn.mp (List.mem_of_getElem? hy)).2.2
      have ey:max t 0+(j:Int)=(((max t 0).toNat+j:Nat):Int):=by omega
      rw[ey]
      generalize (max t 0).toNat+j=y at hy hyd
      obtain⟨dx2,hg2⟩:=G2.ins
      walk_at "rd"
      refine QW (by omega) ?_
      rw[<-Gm.Jo (lo:=l) (hi:=r) (n:=w)]
      refine QB (fun i σ H'=>∃v7 v8:Option V,σ=[some (.ref g),some (.int l),some (.int t),some (.int r),some (.int b),some (.ref p),some (.int (y:Int)),v7,v8]/\inv H' (((Gm.span t b d).take j).flatMap row++(((Gm.span l r w).take i).filterMap fun x=>Vbwsan.candidate seed w d x y)))
        ⟨v7,v8,rfl,G2,e2,by simpa using c2⟩ ?_ ?_
      . rintro i σ H' hi ⟨v7,v8,rfl,G3,e3,c3⟩
        have hx:=Gm.zBG hi
        have hxw:(max l 0).toNat+i<w:=(Gm.Zn.mp (List.mem_of_getElem? hx)).2.2
        have ex:max l 0+(i:Int)=(((max l 0).toNat+i:Nat):Int):=by omega
        rw[ex]
        generalize (max l 0).toNat+i=x at hx hxw
        walk_at "rd"
        refine⟨g,da,seed,w,d,x,y,rfl,G3,hxw,hyd,fun H4 v G4 e4 hv=>?_⟩
        have c4:=c3.ext zY G3 e4
        have et:((Gm.span l r w).take (i+1)).filterMap (fun x=>Vbwsan.candidate seed w d x y)=((Gm.span l r w).take i).filterMap (fun x=>Vbwsan.candidate seed w d x y)++(Vbwsan.candidate seed w d x y).toList:=by
          exact fm_take _ hx
        rcases hv with⟨h0,rfl⟩|⟨a,h0,pp,dp,rfl,hpp⟩
        . walk_at "rd"
          refine⟨_,_,rfl,G4,e3.trans e4,?_⟩
          rw[et,h0,Option.toList_none,List.append_nil]
          exact c4
        . obtain⟨ts,c5,c6⟩:=id c4
          walk_at "rd"
          refine Zv c5 ?_
          walk_at "rd"
          refine qI c5 ?_ ?_
          . rw[LAt.len c5 c4,List.length_append]
            have z1:=Gm.zBW seed w d l t r b j
            have z2:=List.length_filterMap_le (fun x=>Vbwsan.candidate seed w d x y) ((Gm.span l r w).take i)
            rw[List.length_take] at z2
            have z3:=Gm.zAs (lo:=l) (hi:=r) (n:=w)
            refine small ?_
            have z4:(List.flatMap row ((Gm.span t b d).take j)).length<=d*w:=z1
            omega
          . refine⟨_,_,rfl,G4.grow c5,Zo (e3.trans e4) hp,?_⟩
            rw[et,h0,Option.toList_some,<-List.append_assoc]
            exact LAt.snoc zY c5 c6 ⟨pp,dp,rfl,hpp⟩
      . rintro σ H' ⟨v7,v8,rfl,G3,e3,c3⟩
        refine⟨_,_,_,rfl,G3,e3,?_⟩
        rw[zZ hy,List.flatMap_append]
        rw[List.take_length] at c3
        simpa using c3
    . rintro σ H' ⟨v6,v7,v8,rfl,G2,e2,c2⟩
      walk_at "rd"
      rw[List.take_length] at c2
      exact k _ _ G2 e2 hp c2
def Zh(A:Ads):Sp:=fun vs H Q _=>∃(g da:Addr) (seed w d:Nat) (l t r b:Int),vs=[.ref g,.int l,.int t,.int r,.int b]/\GrAt A H g da seed w d/\(-80<=l/\l<=80 /\ -80<=t/\t<=80 /\ -80<=r/\r<=80 /\ -80<=b/\b<=80)/\
  ∀H' p,GrAt A H' g da seed w d->Ext da H H'->H p=none->LAt (HouseV A seed) H' p (Gm.housesIn seed w d l t r b)->Q (.ref p) H'
theorem JQ(seed w d:Nat)(l t r b:Int):(Gm.candsIn seed w d l t r b).length<=d*w:=by
  have:=Gm.zBW seed w d l t r b (Gm.span t b d).length
  rw[List.take_length] at this
  exact this
abbrev s_houses_within:Stmt:=top 25
theorem ZM:FnScope ["ground","left","top","right","bottom","reach","around","found","house"] ["ground","left","top","right","bottom"] (defScope s_houses_within):=⟨rfl,rfl,rfl,by decide +kernel,rfl,by decide +kernel,by decide +kernel⟩
theorem ok_houses_within {f : Addr} {fd : FuncData} (F : Fun K "houses_within" "houses_within" s_houses_within f fd) (T : Glb K mg A) (f_candidates_within : FnAt P w K mg base 9 "candidates_within" ["ground", "left", "top", "right", "bottom"] (sp_candidates_within A))
    (f_stands:FnAt P w K mg base 2 "stands" ["house","candidates"] (j8 A)):FnOk P w K mg base CX0 10 f fd ["ground","left","top","right","bottom"] (Zh A):=by
  refine F.ok ZM (fun vs H Q E h=>?_) (fun cdv Ar outer s H vs Q E hr h=>?_)
  . obtain⟨g,da,a,b,c,x,y,z,u,rfl,_⟩:=h
    rfl
  . obtain ⟨g, da, seed, w, d, l, t, r, b, rfl, G, ⟨b1, b2, b3, b4, b5, b6, b7, b8⟩, k⟩ := h
    obtain⟨hw1,hw2,hd1,hd2⟩:=G.le
    have hdw:d*w<=32*32:=zk hd2 hw2
    refine⟨_,(zB (zG (i:=5) ZM.nd rfl (Or.inl rfl) (zM T.g_GREATEST_SIDE))
      (zB (zG (i:=6) ZM.nd rfl (Or.inl rfl) (zV f_candidates_within hr (zA (pv 0) (zA (zK ZR (pv 1) (pv 5)) (zA (zK ZR (pv 2) (pv 5)) (zA (zK zW (pv 3) (pv 5)) (zA (zK zW (pv 4) (pv 5)) zC)))))))
      (zB (zG (i:=7) ZM.nd rfl (Or.inl rfl) (zQ zC))
      (zB (ZQ PassesOwn.never rfl (ZL (pv 6)) (zX (i:=8) ZM.nd rfl (Or.inl rfl)) (zD (zf (zAw (Zc z9 z9 (pv 1) (zF (pv 8) rfl) (pv 3)) (zAw (Zc z9 z9 (pv 2) (zF (pv 8) rfl) (pv 4)) (zAv (zm (zV f_stands hr (zA (pv 8) (zA (pv 6) zC))))))).pt (zD (zo (q0 PySem.F.plainAttrs_list PySem.F.slot_list_append PySem.F.type_list_append qJ (pv 7) (zA (pv 8) zC)))) zP)))
      (zD (zH (pv 7))))))),?_⟩
    refine st0 (σ0:=[some _,some _,some _,some _,some _,none,none,none,none]) rfl ?_
    try dsimp only[cxOf]
    walk_at "rd"
    refine⟨g,da,seed,w,d,l - 4,t - 4,r+4,b+4,rfl,G,⟨by omega,by omega,by omega,by omega,by omega,by omega,by omega,by omega⟩,fun H1 q G1 e1 hq c1=>?_⟩
    walk_at "rd"
    walk_at "new"
    rename_i p hp H2 f2 s2
    have c2:=c1.same zY s2
    have G2:=G1.same s2
    obtain⟨ts,c3,c4⟩:=id c2
    have hpH:H p=none:=by
      cases z:H p with
      |none=>rfl
      | some o =>
        by_cases zd:p=da
        . obtain⟨_,z2,_⟩:=G1.cor
          rw[<-zd,hp] at z2
          cases z2
        . have:=e1 _ _ z zd
          rw[hp] at this
          cases this
    let cs:=Gm.candsIn seed w d (l - 4) (t - 4) (r+4) (b+4)
    let pick:Vbwsan.House->Bool:=fun a=>decide (l<=(a.x:Int)/\(a.x:Int)<=r)&&(decide (t<=(a.y:Int)/\(a.y:Int)<=b)&&Gm.standsIn seed a cs)
    walk_at "rd"
    refine zq (SqL.of c3) ?_
    refine qi (xs:=ts) (fun i σ H'=>∃v8:Option V,σ=[some (.ref g),some (.int l),some (.int t),some (.int r),some (.int b),some (.int 4),some (.ref q),some (.ref p),v8]/\GrAt A H' g da seed w d/\Keeps H2 H'/\Ext da H H'/\H' q=some (.lst ts)/\LAt (HouseV A seed) H' p ((cs.take i).filter pick))
      ⟨none,rfl,G2,Keeps.refl,e1.sameL s2,c3,⟨[],f2,.nil⟩⟩ (fun i σ H' _ ⟨_,_,_,_,_,hq',_⟩=>SqL.of hq') ?_ ?_
    . rintro i v σ H' hv ⟨v8,rfl,G3,k3,e3,q3,c5⟩
      obtain⟨a,ha,pa,dxa,rfl,hpa⟩:=ZO c4 hv
      have hpa3:=k3 _ _ hpa trivial
      have et:(cs.take (i+1)).filter pick=(cs.take i).filter pick++(if pick a=true then [a] else []):=by rw[zZ ha,List.filter_append,List.filter_cons,List.filter_nil]
      have no:pick a=false->LAt (HouseV A seed) H' p ((cs.take (i+1)).filter pick):=fun z=>by rw[et,z,if_neg Bool.false_ne_true,List.append_nil];exact c5
      walk_at "rd"
      have hpick:∀z:Bool,Gm.standsIn seed a cs=z->pick a=(decide (l<=(a.x:Int)/\(a.x:Int)<=r)&&(decide (t<=(a.y:Int)/\(a.y:Int)<=b)&&z)):=fun z hz=>by rw[<-hz]
      with_reducible refine zR (fun h1=>?_) (fun h1=>?_)
      . rw[decide_eq_true_iff] at h1
        walk_at "rd"
        with_reducible refine zR (fun h2=>?_) (fun h2=>?_)
        . rw[decide_eq_true_iff] at h2
          walk_at "rd"
          with_reducible refine zR (fun h3=>?_) (fun h3=>?_)
          . rw[decide_eq_true_iff] at h3
            walk_at "rd"
            with_reducible refine zR (fun h4=>?_) (fun h4=>?_)
            . rw[decide_eq_true_iff] at h4
              walk_at "rd"
              refine⟨pa,dxa,q,seed,a,cs,rfl,hpa3,⟨ts,q3,c4.imp fun v x r=>zY _ _ v x k3 r⟩,fun H4 s4=>?_⟩
              have G4:=G3.same s4
              walk_at "rd"
              generalize hst:Gm.standsIn seed a cs=st
              have hp2:=hpick _ hst
              rw[decide_eq_true (show l<=(a.x:Int)/\(a.x:Int)<=r by omega),decide_eq_true (show t<=(a.y:Int)/\(a.y:Int)<=b by omega),Bool.true_and,Bool.true_and] at hp2
              with_reducible refine zR (fun h5=>?_) (fun h5=>?_)
              . obtain⟨us,c6,c7⟩:=c5.same zY s4
                walk_at "rd"
                refine Zv c6 ?_
                walk_at "rd"
                refine qI c6 ?_ ?_
                . have hl6:=LAt.len c6 (c5.same zY s4)
                  rw[hl6]
                  have z1:=List.length_filter_le pick (cs.take i)
                  have z2:(cs.take i).length<=cs.length:=by rw[List.length_take];exact Nat.min_le_right _ _
                  have z3:cs.length<=d*w:=JQ _ _ _ _ _ _ _
                  exact small (by omega)
                . have npq:q≠p:=fun z=>by rw[z] at hq;rw[z] at c1;obtain⟨_,z2,_⟩:=c1;rw[hp] at z2;cases z2
                  refine⟨_,rfl,G4.grow c6,(k3.trans s4.keeps).trans (ZW c6 (fun z=>z)),Zo (e3.sameL s4) hpH,by rw[zI npq];exact s4 _ _ q3,?_⟩
                  rw[et,hp2,h5,if_pos rfl]
                  exact LAt.snoc zY c6 c7 ⟨pa,dxa,rfl,s4 _ _ hpa3⟩
              . walk_at "rd"
                exact⟨_,rfl,G4,k3.trans s4.keeps,e3.sameL s4,s4 _ _ q3,(no (by rw[hp2,h5])).same zY s4⟩
            . rw[decide_eq_false_iff_not] at h4
              walk_at "rd"
              refine⟨_,rfl,G3,k3,e3,q3,no ?_⟩
              show(_&&(decide _&&_))=false
              rw[decide_eq_false (show ¬ (t<=(a.y:Int)/\(a.y:Int)<=b) by omega),Bool.false_and,Bool.and_false]
          . rw[decide_eq_false_iff_not] at h3
            walk_at "rd"
            refine⟨_,rfl,G3,k3,e3,q3,no ?_⟩
            show(_&&(decide _&&_))=false
            rw[decide_eq_false (show ¬ (t<=(a.y:Int)/\(a.y:Int)<=b) by omega),Bool.false_and,Bool.and_false]
        . rw[decide_eq_false_iff_not] at h2
          walk_at "rd"
          refine⟨_,rfl,G3,k3,e3,q3,no ?_⟩
          show(decide _&&_)=false
          rw[decide_eq_false (show ¬ (l<=(a.x:Int)/\(a.x:Int)<=r) by omega),Bool.false_and]
      . rw[decide_eq_false_iff_not] at h1
        walk_at "rd"
        refine⟨_,rfl,G3,k3,e3,q3,no ?_⟩
        show(decide _&&_)=false
        rw[decide_eq_false (show ¬ (l<=(a.x:Int)/\(a.x:Int)<=r) by omega),Bool.false_and]
    . rintro σ H' ⟨v8,rfl,G3,k3,e3,q3,c5⟩
      walk_at "rd"
      have hl:ts.length=cs.length:=Paired.length c4
      rw[hl,List.take_length] at c5
      refine k _ _ G3 e3 hpH ?_
      rw[<-Gm.QS]
      exact c5
def sp_houses_over(A:Ads):Sp:=fun vs H Q _=>∃(g da:Addr) (seed w d:Nat) (l t r b:Int),vs=[.ref g,.int l,.int t,.int r,.int b]/\GrAt A H g da seed w d/\(0<=l/\l<=64/\0<=t/\t<=64/\0<=r/\r<=64/\0<=b/\b<=64)/\
  ∀H' p,GrAt A H' g da seed w d->Ext da H H'->H p=none->LAt (HouseV A seed) H' p (Gm.housesIn seed w d (l - 3) (t - 3) r b)->Q (.ref p) H'
abbrev QO:Stmt:=top 26
theorem sc_houses_over:FnScope ["ground","left","top","right","bottom"] ["ground","left","top","right","bottom"] (defScope QO):=⟨rfl,rfl,rfl,by decide +kernel,rfl,by decide +kernel,by decide +kernel⟩
theorem ok_houses_over{f:Addr}{fd:FuncData}(F:Fun K "houses_over" "houses_over" QO f fd)(T:Glb K mg A)(f_houses_within:FnAt P w K mg base 10 "houses_within" ["ground","left","top","right","bottom"] (Zh A)):
    FnOk P w K mg base CX0 11 f fd ["ground","left","top","right","bottom"] (sp_houses_over A):=by
  refine F.ok sc_houses_over (fun vs H Q E h=>?_) (fun cdv Ar outer s H vs Q E hr h=>?_)
  . obtain⟨g,da,a,b,c,x,y,z,u,rfl,_⟩:=h
    rfl
  . obtain⟨g,da,seed,w,d,l,t,r,b,rfl,G,⟨b1,b2,b3,b4,b5,b6,b7,b8⟩,k⟩:=h
    refine⟨_,(zD (zH (zV f_houses_within hr (zA (pv 0) (zA (zK zW (zK ZR (pv 1) (zM T.g_GREATEST_SIDE)) zE) (zA (zK zW (zK ZR (pv 2) (zM T.g_GREATEST_SIDE)) zE) (zA (pv 3) (zA (pv 4) zC)))))))),?_⟩
    refine st0 (σ0:=[some _,some _,some _,some _,some _]) rfl ?_
    try dsimp only[cxOf]
    walk_at "rd"
    refine⟨g,da,seed,w,d,l - 3,t - 3,r,b,?_,G,⟨by omega,by omega,by omega,by omega,by omega,by omega,by omega,by omega⟩,k⟩
    rw[show l - 4+1=l - 3 by omega,show t - 4+1=t - 3 by omega]
    rfl
def QF(A:Ads):Sp:=fun vs H Q _=>∃(g da:Addr) (seed w d x y:Nat),vs=[.ref g,.int x,.int y]/\GrAt A H g da seed w d/\x<w/\y<d/\
  ∀H' v,GrAt A H' g da seed w d->Ext da H H'->CandV A seed H' v (Vbwsan.houseOver seed w d x y)->Q v H'
theorem zAg{α:Type}(p:α->Bool):∀{l:List α} {i:Nat} {x:α},l[i]?=some x->(∀y∈l.take i,p y=false)->p x=true->l.find? p=some x
  |[],i,x,h,_,_=>by simp at h
  | a :: l, 0, x, h, _, hp => by
    obtain rfl:a=x:=Option.some.inj h
    rw[List.find?_cons,hp]
  | a :: l, i + 1, x, h, hy, hp => by
    have ha:=hy a List.mem_cons_self
    rw[List.find?_cons,ha]
    exact zAg p h (fun y hm=>hy y (List.mem_cons_of_mem _ hm)) hp
abbrev s_house_at:Stmt:=top 28
theorem JT:FnScope ["ground","x","y","house"] ["ground","x","y"] (defScope s_house_at):=⟨rfl,rfl,rfl,by decide +kernel,rfl,by decide +kernel,by decide +kernel⟩
theorem ok_house_at {f : Addr} {fd : FuncData} (F : Fun K "house_at" "house_at" s_house_at f fd) (T : Glb K mg A) (f_houses_over : FnAt P w K mg base 11 "houses_over" ["ground", "left", "top", "right", "bottom"] (sp_houses_over A))
    (m_House_covers:MtAt P w K mg base 1 A.C_House "covers" ["self","x","y"] (sp_covers A)):FnOk P w K mg base CX0 12 f fd ["ground","x","y"] (QF A):=by
  refine F.ok JT (fun vs H Q E h=>?_) (fun cdv Ar outer s H vs Q E hr h=>?_)
  . obtain⟨g,da,a,b,c,x,y,rfl,_⟩:=h
    rfl
  . obtain⟨g,da,seed,w,d,x,y,rfl,G,hx,hy,k⟩:=h
    obtain⟨hw1,hw2,hd1,hd2⟩:=G.le
    refine⟨_,(zB (ZQ PassesOwn.never rfl (ZL (zV f_houses_over hr (zA (pv 0) (zA (pv 1) (zA (pv 2) (zA (pv 1) (zA (pv 2) zC))))))) (zX (i:=3) JT.nd rfl (Or.inl rfl)) (zD (zf (zm (zT (pv 3) T.c_House m_House_covers hr (zA (pv 1) (zA (pv 2) zC)))) (zD (zH (pv 3))) zP)))
      (zD (zH QR))),?_⟩
    refine st0 (σ0:=[some _,some _,some _,none]) rfl ?_
    try dsimp only[cxOf]
    walk_at "rd"
    refine⟨g,da,seed,w,d,x,y,x,y,rfl,G,⟨by omega,by omega,by omega,by omega,by omega,by omega,by omega,by omega⟩,fun H1 p G1 e1 hp c1=>?_⟩
    have ff:=Gm.zAh (seed:=seed) (w:=w) (d:=d) (x:=x) (y:=y) (left:=x) (top:=y) (right:=x) (bottom:=y) ⟨Int.le_refl _,Int.le_refl _,hx⟩ ⟨Int.le_refl _,Int.le_refl _,hy⟩
    generalize Gm.housesIn seed w d ((x:Int) - 3) ((y:Int) - 3) x y=hs at c1 ff
    obtain⟨ts,c2,c3⟩:=c1
    refine zq (SqL.of c2) ?_
    refine qi (xs:=ts) (fun i σ H'=>∃v3:Option V,σ=[some (.ref g),some (.int x),some (.int y),v3]/\H'=H1/\∀b∈hs.take i,Vbwsan.covers b x y=false) ⟨none,rfl,rfl,by simp⟩ (fun i σ H' _ ⟨_,_,z,_⟩=>by rw[z];exact SqL.of c2) ?_ ?_
    . rintro i v σ H' hv ⟨v3,rfl,rfl,h1⟩
      obtain⟨a,ha,pa,dxa,rfl,hpa⟩:=ZO c3 hv
      walk_at "rd"
      refine⟨pa,dxa,seed,a,x,y,rfl,hpa,?_⟩
      walk_at "rd"
      with_reducible refine zR (fun h2=>?_) (fun h2=>?_)
      . walk_at "rd"
        refine k _ _ G1 e1 (.inr ⟨a,?_,pa,dxa,rfl,hpa⟩)
        rw[<-ff]
        exact zAg _ ha h1 h2
      . walk_at "rd"
        refine⟨_,rfl,rfl,fun b hb=>?_⟩
        rw[zZ ha] at hb
        rcases List.mem_append.mp hb with hb|hb
        . exact h1 b hb
        . rw[List.mem_singleton.mp hb];exact h2
    . rintro σ H' ⟨v3,rfl,rfl,h1⟩
      walk_at "rd"
      refine k _ _ G1 e1 (.inl ⟨?_,rfl⟩)
      have hl:ts.length=hs.length:=Paired.length c3
      rw[hl,List.take_length] at h1
      rw[<-ff,List.find?_eq_none]
      intro b hb q
      rw[h1 b hb] at q
      cases q
end
end Gs
namespace Gs
open PySem PySem.Spec PyProof.Rows L2
abbrev key2(x y:Nat):List Key:=[.inl (x:Int),.inl (y:Int)]
theorem Qb{a b x y:Nat}:key2 a b=key2 x y↔a=x/\b=y:=by
  unfold key2
  constructor
  . intro h
    simp at h
    omega
  . rintro ⟨rfl,rfl⟩
    rfl
section
variable{α:Type}{R:Hp->V->α->Prop}{key:α->List Key}{H H':Hp}{kvs:List (List Key×V)}{xs:List α}{k:List Key}
def DMap(R:Hp->V->α->Prop)(key:α->List Key)(H:Hp)(kvs:List (List Key×V))(xs:List α):Prop:=Paired (fun kv a=>kv.1=key a/\R H kv.2 a) kvs xs
theorem DMap.find(h:DMap R key H kvs xs)(k:List Key):(valV kvs k=none/\xs.find? (fun a=>decide (key a=k))=none)\/∃v a,valV kvs k=some v/\xs.find? (fun a=>decide (key a=k))=some a/\R H v a:=by
  unfold DMap at h
  induction h with
  |nil=>exact .inl ⟨rfl,rfl⟩
  | @cons kv a ps qs r t ih =>
    by_cases e:kv.1=k
    . refine .inr ⟨kv.2,a,Q6 e,?_,r.2⟩
      rw[List.find?_cons,decide_eq_true (r.1.symm.trans e)]
    . rw[jr e,List.find?_cons,decide_eq_false (fun q=>e (r.1.trans q))]
      exact ih
theorem DMap.keep(S:Stable R)(h:DMap R key H kvs xs)(kp:Keeps H H'):DMap R key H' kvs xs:=h.imp fun kv a r=>⟨r.1,S _ _ _ _ kp r.2⟩
theorem DMap.len(h:DMap R key H kvs xs):kvs.length=xs.length:=Paired.length h
theorem DMap.drop(h:DMap R key H kvs xs)(k:List Key):DMap R key H (dropK kvs k) (xs.filter fun a=>!decide (key a=k)):=by
  unfold DMap at h ⊢
  unfold dropK
  induction h with
  |nil=>exact .nil
  | @cons kv a ps qs r t ih =>
    rw[List.filter_cons,List.filter_cons]
    by_cases e:kv.1=k
    . rw[if_neg (by simp[e]),if_neg (by simp[r.1.symm.trans e])];exact ih
    . have e':¬ key a=k:=fun q=>e (r.1.trans q)
      rw[if_pos (by simp[e]),if_pos (by simp[e'])];exact .cons r ih
theorem DMap.put(h:DMap R key H kvs xs){a:α}{v:V}(hn:valV kvs (key a)=none)(r:R H v a):DMap R key H (putK kvs (key a) v) (xs++[a]):=by
  unfold putK
  rw[if_neg (by rw[Zy,hn];simp)]
  exact Paired.snoc h ⟨rfl,r⟩
theorem DMap.val_none(h:DMap R key H kvs xs)(hn:xs.find? (fun a=>decide (key a=k))=none):valV kvs k=none:=by
  rcases h.find k with⟨a,_⟩|⟨v,a,_,b,_⟩
  . exact a
  . rw[b] at hn;cases hn
theorem DMap.val_dropped(h:DMap R key H kvs xs):valV (dropK kvs k) k=none:=by
  rcases (h.drop k).find k with⟨a,_⟩|⟨v,a,_,b,_⟩
  . exact a
  . have h1:=List.mem_of_find?_eq_some b
    have h2:=of_decide_eq_true (List.find?_some (p:=fun a=>decide (key a=k)) b)
    have h3:=(List.mem_filter.mp h1).2
    rw[decide_eq_true h2] at h3
    cases h3
end
abbrev chKey(c:Vbwsan.Change):List Key:=key2 c.x c.y
def ChV(H:Hp)(v:V)(c:Vbwsan.Change):Prop:=∃t,v=.ref t/\H t=some (.tup [.int c.up,.int c.kind])
theorem Z9:Stable ChV:=fun H H' v x k ⟨t,e,h⟩=>⟨t,e,k _ _ h trivial⟩
structure ChOk(cs:List Vbwsan.Change):Prop where
  len:cs.length<=60
  up:∀c∈cs,-9999<=c.up/\c.up<=9999
  kind:∀c∈cs,c.kind<=9
  some_:∀c∈cs,¬ (c.up=0/\c.kind=0)
structure ChAt(A:Ads)(H:Hp)(ch cd:Addr)(cs:List Vbwsan.Change):Prop where
  ins:∃dx,H ch=some (.ins A.C_Changes dx [("cells",.ref cd)])
  dict:∃kvs,H cd=some (.dT kvs)/\DMap ChV chKey H kvs cs
  ok:ChOk cs
def chFind(cs:List Vbwsan.Change)(x y:Nat):Option Vbwsan.Change:=cs.find? fun c=>c.x==x&&c.y==y
theorem ql(cs:List Vbwsan.Change)(x y:Nat):cs.find? (fun c=>decide (chKey c=key2 x y))=chFind cs x y:=by
  unfold chFind
  refine congrArg (fun f=>cs.find? f) (funext fun c=>Bool.eq_iff_iff.mpr ?_)
  rw[decide_eq_true_iff,Qb,Bool.and_eq_true,beq_iff_eq,beq_iff_eq]
theorem zAi(cs:List Vbwsan.Change)(x y:Nat):cs.filter (fun c=>!decide (chKey c=key2 x y))=cs.filter fun d=>!(d.x==x&&d.y==y):=by
  refine congrArg (fun f=>cs.filter f) (funext fun c=>?_)
  refine congrArg Bool.not (Bool.eq_iff_iff.mpr ?_)
  rw[decide_eq_true_iff,Qb,Bool.and_eq_true,beq_iff_eq,beq_iff_eq]
theorem ChAt.keep{A:Ads}{H H':Hp}{ch cd:Addr}{cs:List Vbwsan.Change}(h:ChAt A H ch cd cs)(k:Keeps H H')(hd:∀kvs,H cd=some (.dT kvs)->H' cd=some (.dT kvs)):ChAt A H' ch cd cs:=by
  obtain⟨⟨dx,h1⟩,⟨kvs,h2,h3⟩,h4⟩:=h
  exact⟨⟨dx,k _ _ h1 trivial⟩,⟨kvs,hd _ h2,h3.keep Z9 k⟩,h4⟩
theorem ChAt.same{A:Ads}{H H':Hp}{ch cd:Addr}{cs:List Vbwsan.Change}(h:ChAt A H ch cd cs)(k:Same H H'):ChAt A H' ch cd cs:=h.keep k.keeps fun _ e=>k _ _ e
end Gs
namespace Gs
open PySem PySem.Spec PyProof.Rows L2
section
variable{P:Program}{w:World}{K:PySem.W.Frag}{mg:Str->Option Value}{base:Heap}{A:Ads}
def qV(A:Ads):Sp:=fun vs H Q _=>∃(p dx:Addr),vs=[.ref p]/\H p=some (.ins A.C_Changes dx [])/\
  ∀H' cd,H' p=some (.ins A.C_Changes dx [("cells",.ref cd)])->H cd=none->H' cd=some (.dT [])->Ext p H H'->Q .non H'
abbrev Zu:Stmt:=inClass (top 50) 0
theorem sc_Changes___init__:FnScope ["self"] ["self"] (defScope Zu):=⟨rfl,rfl,rfl,by decide +kernel,rfl,by decide +kernel,by decide +kernel⟩
theorem ok_Changes_init{f:Addr}{fd:FuncData}(F:Fun K "__init__" "Changes.__init__" Zu f fd)(T:Glb K mg A):FnOk P w K mg base CX0 1 f fd ["self"] (qV A):=by
  refine F.ok sc_Changes___init__ (fun vs H Q E h=>?_) (fun cdv Ar outer s H vs Q E hr h=>?_)
  . obtain⟨p,dx,rfl,_⟩:=h
    rfl
  . obtain⟨p,dx,rfl,hp,k⟩:=h
    refine⟨_,(zD (Zd (pv 0) jv rfl)),?_⟩
    refine st0 (σ0:=[some _]) rfl ?_
    try dsimp only[cxOf]
    walk_at "rd"
    refine jt fun cd hcd=>?_
    have npd:p≠cd:=zL hp hcd
    refine' jk rfl ?_
    refine qy (by rw[zI npd];exact hp) T.c_Changes T.n_Changes_cells (Nat.le_of_ble_eq_true rfl) ?_
    refine k _ cd zJ hcd (by rw[zI (Ne.symm npd)];exact zJ) fun b o e n=>?_
    rw[zI n,zI (zL e hcd)]
    exact e
def qL(A:Ads):Sp:=fun vs H Q _=>∃(ch cd:Addr) (cs:List Vbwsan.Change) (x y:Nat),vs=[.ref ch,.int x,.int y]/\ChAt A H ch cd cs/\∀H',Same H H'->Q (.bl (chFind cs x y).isSome) H'
abbrev Zb:Stmt:=inClass (top 50) 1
theorem sc_Changes_is_changed:FnScope ["self","x","y"] ["self","x","y"] (defScope Zb):=⟨rfl,rfl,rfl,by decide +kernel,rfl,by decide +kernel,by decide +kernel⟩
theorem ok_is_changed{f:Addr}{fd:FuncData}(F:Fun K "is_changed" "Changes.is_changed" Zb f fd)(T:Glb K mg A):FnOk P w K mg base CX0 1 f fd ["self","x","y"] (qL A):=by
  refine F.ok sc_Changes_is_changed (fun vs H Q E h=>?_) (fun cdv Ar outer s H vs Q E hr h=>?_)
  . obtain⟨ch,cd,cs,x,y,rfl,_⟩:=h
    rfl
  . obtain⟨ch,cd,cs,x,y,rfl,C,k⟩:=h
    have hu:=ZB hr
    refine⟨_,(zD (zH (zCO (zBb hu (zu (zA (pv 1) (zA (pv 2) zC))) (zF (pv 0) rfl))))),?_⟩
    refine st0 (σ0:=[some _,some _,some _]) rfl ?_
    try dsimp only[cxOf]
    walk_at "rd"
    walk_at "new"
    rename_i t ht H1 f1 s1
    obtain⟨⟨dx,h1⟩,⟨kvs,h2,h3⟩,h4⟩:=C.same s1
    walk_at "rd"
    have f1':H1 t=some (.tup ((key2 x y).map kV)):=f1
    refine jI (DGet.t h2 f1') ?_
    have q:=k _ s1
    rcases h3.find (key2 x y) with⟨z1,z2⟩|⟨v,c,z1,z2,_⟩
    . rw[ql] at z2
      rw[z2] at q
      rw[z1]
      exact q
    . rw[ql] at z2
      rw[z2] at q
      rw[z1]
      exact q
def Zz(A:Ads):Sp:=fun vs H Q _=>∃(ch cd:Addr) (cs:List Vbwsan.Change) (x y:Nat),vs=[.ref ch,.int x,.int y]/\ChAt A H ch cd cs/\∀H',Same H H'->Q (.bl ((chFind cs x y).isSome||decide (cs.length<60))) H'
abbrev Zk:Stmt:=inClass (top 50) 2
theorem sc_Changes_has_place:FnScope ["self","x","y"] ["self","x","y"] (defScope Zk):=⟨rfl,rfl,rfl,by decide +kernel,rfl,by decide +kernel,by decide +kernel⟩
theorem ok_has_place{f:Addr}{fd:FuncData}(F:Fun K "has_place" "Changes.has_place" Zk f fd)(T:Glb K mg A)(m_Changes_is_changed:MtAt P w K mg base 1 A.C_Changes "is_changed" ["self","x","y"] (qL A)):
    FnOk P w K mg base CX0 2 f fd ["self","x","y"] (Zz A):=by
  refine F.ok sc_Changes_has_place (fun vs H Q E h=>?_) (fun cdv Ar outer s H vs Q E hr h=>?_)
  . obtain⟨ch,cd,cs,x,y,rfl,_⟩:=h
    rfl
  . obtain⟨ch,cd,cs,x,y,rfl,C,k⟩:=h
    obtain⟨dx,h1⟩:=C.ins
    refine⟨_,(zD (zH (zCd (zT (pv 0) T.c_Changes m_Changes_is_changed hr (zA (pv 1) (zA (pv 2) zC))) (Qw (Z8 jT (zU QD (by rfl) T.b_len PySem.boot_len (zA (zF (pv 0) rfl) zC)) (zM T.g_MOST_CHANGED) (nomark _)))))),?_⟩
    refine st0 (σ0:=[some _,some _,some _]) rfl ?_
    try dsimp only[cxOf]
    walk_at "rd"
    refine⟨ch,cd,cs,x,y,rfl,C,fun H1 s1=>?_⟩
    obtain⟨⟨dx1,g1⟩,⟨kvs,h2,h3⟩,h4⟩:=C.same s1
    walk_at "rd"
    have q:=k _ s1
    with_reducible refine zR (fun z=>?_) (fun z=>?_)
    . walk_at "rd"
      rw[z,Bool.true_or] at q
      exact q
    . walk_at "rd"
      refine⟨cd,kvs,rfl,h2,?_⟩
      walk_at "rd"
      rw[z,Bool.false_or] at q
      rw[h3.len]
      have e:decide ((cs.length:Int)<60)=decide (cs.length<60):=decide_eq_decide.mpr (by omega)
      rw[e]
      exact q
def chUp(cs:List Vbwsan.Change)(x y:Nat):Int:=match chFind cs x y with|some c=>c.up|none=>0
def chKind(cs:List Vbwsan.Change)(x y:Nat):Nat:=match chFind cs x y with|some c=>c.kind|none=>0
def QU(A:Ads):Sp:=fun vs H Q _=>∃(ch cd:Addr) (cs:List Vbwsan.Change) (x y:Nat),vs=[.ref ch,.int x,.int y]/\ChAt A H ch cd cs/\∀H',Same H H'->Q (.int (chUp cs x y)) H'
abbrev qf:Stmt:=inClass (top 50) 3
theorem sc_Changes_up_at:FnScope ["self","x","y"] ["self","x","y"] (defScope qf):=⟨rfl,rfl,rfl,by decide +kernel,rfl,by decide +kernel,by decide +kernel⟩
theorem ok_up_at{f:Addr}{fd:FuncData}(F:Fun K "up_at" "Changes.up_at" qf f fd)(T:Glb K mg A):FnOk P w K mg base CX0 1 f fd ["self","x","y"] (QU A):=by
  refine F.ok sc_Changes_up_at (fun vs H Q E h=>?_) (fun cdv Ar outer s H vs Q E hr h=>?_)
  . obtain⟨ch,cd,cs,x,y,rfl,_⟩:=h
    rfl
  . obtain⟨ch,cd,cs,x,y,rfl,C,k⟩:=h
    have hu:=ZB hr
    obtain⟨⟨dx,h1⟩,⟨kvs,h2,h3⟩,h4⟩:=id C
    refine⟨_,(zD (zH (zN zg (zBK hu (zF (pv 0) rfl) (zu (zA (pv 1) (zA (pv 2) zC))) (JU T.g_NO_CHANGE) ⟨rfl,rfl,rfl,rfl⟩) zE (fun _ _=>rfl)))),?_⟩
    refine st0 (σ0:=[some _,some _,some _]) rfl ?_
    try dsimp only[cxOf]
    walk_at "rd"
    walk_at "new"
    rename_i t ht H1 f1 s1
    obtain⟨⟨dx1,g1⟩,⟨kvs1,g2,g3⟩,g4⟩:=C.same s1
    have f1':H1 t=some (.tup ((key2 x y).map kV)):=f1
    walk_at "rd"
    refine zAT (DGet.t g2 f1') ?_
    have q:=k _ s1
    unfold chUp at q
    rcases g3.find (key2 x y) with⟨z1,z2⟩|⟨v,c,z1,z2,t2,rfl,z3⟩
    . rw[ql] at z2
      rw[z2] at q
      rw[z1]
      exact Qr (T.g_NO_CHANGE.2 H1) rfl q
    . rw[ql] at z2
      rw[z2] at q
      rw[z1]
      exact Qr (SqT.of z3) rfl q
def qR(A:Ads):Sp:=fun vs H Q _=>∃(ch cd:Addr) (cs:List Vbwsan.Change) (x y:Nat),vs=[.ref ch,.int x,.int y]/\ChAt A H ch cd cs/\∀H',Same H H'->Q (.int (chKind cs x y:Nat)) H'
abbrev Zt:Stmt:=inClass (top 50) 4
theorem sc_Changes_built_at:FnScope ["self","x","y"] ["self","x","y"] (defScope Zt):=⟨rfl,rfl,rfl,by decide +kernel,rfl,by decide +kernel,by decide +kernel⟩
theorem ok_built_at{f:Addr}{fd:FuncData}(F:Fun K "built_at" "Changes.built_at" Zt f fd)(T:Glb K mg A):FnOk P w K mg base CX0 1 f fd ["self","x","y"] (qR A):=by
  refine F.ok sc_Changes_built_at (fun vs H Q E h=>?_) (fun cdv Ar outer s H vs Q E hr h=>?_)
  . obtain⟨ch,cd,cs,x,y,rfl,_⟩:=h
    rfl
  . obtain⟨ch,cd,cs,x,y,rfl,C,k⟩:=h
    have hu:=ZB hr
    obtain⟨⟨dx,h1⟩,⟨kvs,h2,h3⟩,h4⟩:=id C
    refine⟨_,(zD (zH (zN zg (zBK hu (zF (pv 0) rfl) (zu (zA (pv 1) (zA (pv 2) zC))) (JU T.g_NO_CHANGE) ⟨rfl,rfl,rfl,rfl⟩) zE (fun _ _=>rfl)))),?_⟩
    refine st0 (σ0:=[some _,some _,some _]) rfl ?_
    try dsimp only[cxOf]
    walk_at "rd"
    walk_at "new"
    rename_i t ht H1 f1 s1
    obtain⟨⟨dx1,g1⟩,⟨kvs1,g2,g3⟩,g4⟩:=C.same s1
    have f1':H1 t=some (.tup ((key2 x y).map kV)):=f1
    walk_at "rd"
    refine zAT (DGet.t g2 f1') ?_
    have q:=k _ s1
    unfold chKind at q
    rcases g3.find (key2 x y) with⟨z1,z2⟩|⟨v,c,z1,z2,t2,rfl,z3⟩
    . rw[ql] at z2
      rw[z2] at q
      rw[z1]
      exact Qr (T.g_NO_CHANGE.2 H1) rfl q
    . rw[ql] at z2
      rw[z2] at q
      rw[z1]
      exact Qr (SqT.of z3) rfl q
def chPut(cs:List Vbwsan.Change)(x y:Nat)(up:Int)(kind:Nat):List Vbwsan.Change:=(cs.filter fun d=>!(d.x==x&&d.y==y))++(if up=0/\kind=0 then [] else [⟨x,y,up,kind⟩])
theorem chPut_ok {cs : List Vbwsan.Change} {x y : Nat} {up : Int} {kind : Nat} (h : ChOk cs) (h1 : -9999 ≤ up ∧ up ≤ 9999) (h2 : kind ≤ 9) (h3 : (chFind cs x y).isSome = true ∨ cs.length < 60) : ChOk (chPut cs x y up kind) := by
  have hm:∀c∈chPut cs x y up kind,c∈cs\/(¬ (up=0/\kind=0)/\c=⟨x,y,up,kind⟩):=fun c hc=>by
    unfold chPut at hc
    rcases List.mem_append.mp hc with hc|hc
    . exact .inl (List.mem_filter.mp hc).1
    . split at hc
      . simp at hc
      . exact .inr ⟨by assumption,List.mem_singleton.mp hc⟩
  refine⟨?_,fun c hc=>?_,fun c hc=>?_,fun c hc=>?_⟩
  . have hl:(cs.filter fun d=>!(d.x==x&&d.y==y)).length+1<=60:=by
      rcases h3 with h3|h3
      . obtain⟨c,hc⟩:=Option.isSome_iff_exists.mp h3
        unfold chFind at hc
        have z:(cs.filter fun d=>!(d.x==x&&d.y==y)).length<cs.length:=by
          refine List.length_filter_lt_length_iff_exists.mpr ⟨c,List.mem_of_find?_eq_some hc,?_⟩
          have:=List.find?_some hc
          rw[this]
          decide
        have:=h.len
        omega
      . have:=List.length_filter_le (fun d:Vbwsan.Change=>!(d.x==x&&d.y==y)) cs
        omega
    unfold chPut
    rw[List.length_append]
    split<;>simp only[List.length_nil,List.length_cons]<;>omega
  . rcases hm c hc with hc|⟨_,rfl⟩
    . exact h.up c hc
    . exact h1
  . rcases hm c hc with hc|⟨_,rfl⟩
    . exact h.kind c hc
    . exact h2
  . rcases hm c hc with hc|⟨z,rfl⟩
    . exact h.some_ c hc
    . exact z
def sp_put(A:Ads):Sp:=fun vs H Q _=>∃(ch cd:Addr) (cs:List Vbwsan.Change) (x y:Nat) (up:Int) (kind:Nat),vs=[.ref ch,.int x,.int y,.int up,.int kind]/\ChAt A H ch cd cs/\(-9999<=up/\up<=9999)/\kind<=9/\((chFind cs x y).isSome=true\/cs.length<60)/\
  ∀H',ChAt A H' ch cd (chPut cs x y up kind)->Ext cd H H'->Q .non H'
abbrev s_Changes_put:Stmt:=inClass (top 50) 5
theorem sc_Changes_put:FnScope ["self","x","y","up","built"] ["self","x","y","up","built"] (defScope s_Changes_put):=⟨rfl,rfl,rfl,by decide +kernel,rfl,by decide +kernel,by decide +kernel⟩
theorem ok_put {f : Addr} {fd : FuncData} (F : Fun K "put" "Changes.put" s_Changes_put f fd) (T : Glb K mg A) : FnOk P w K mg base CX0 1 f fd ["self", "x", "y", "up", "built"] (sp_put A) := by
  refine F.ok sc_Changes_put (fun vs H Q E h=>?_) (fun cdv Ar outer s H vs Q E hr h=>?_)
  . obtain⟨ch,cd,cs,x,y,up,kind,rfl,_⟩:=h
    rfl
  . obtain⟨ch,cd,cs,x,y,up,kind,rfl,C,b1,b2,b3,k⟩:=h
    have hu:=ZB hr
    have hu64:=hr.units
    obtain⟨⟨dx,h1⟩,⟨kvs,h2,h3⟩,h4⟩:=id C
    have okp:=chPut_ok (x:=x) (y:=y) (up:=up) (kind:=kind) h4 b1 b2 b3
    refine⟨_,(zB (zo (zAW hu (zF (pv 0) rfl) (zu (zA (pv 1) (zA (pv 2) zC))) QR ⟨rfl,rfl,rfl,rfl⟩))
      (zD (zf (zn (op_neD hu64) (zu (zA (pv 3) (zA (pv 4) zC))) (JU T.g_NO_CHANGE) (nomark _)) (zD (Qv hu (zF (pv 0) rfl) (zu (zA (pv 1) (zA (pv 2) zC))) (zu (zA (pv 3) (zA (pv 4) zC))) rfl)) zP))),?_⟩
    refine st0 (σ0:=[some _,some _,some _,some _,some _]) rfl ?_
    try dsimp only[cxOf]
    walk_at "rd"
    walk_at "new"
    rename_i t ht H1 f1 s1
    obtain⟨⟨dx1,g1⟩,⟨kvs1,g2,g3⟩,g4⟩:=C.same s1
    have f1':H1 t=some (.tup ((key2 x y).map kV)):=f1
    walk_at "rd"
    have rest:∀(H2:Hp) (v:V),H2 cd=some (.dT (dropK kvs1 (key2 x y)))->Ext cd H1 H2->DMap ChV chKey H2 (dropK kvs1 (key2 x y)) (cs.filter fun c=>!decide (chKey c=key2 x y))->
        tIfS (tTest (tOp (rNeD K) (tTup (tCons (tVar 3) (tCons (tVar 4) tNil))) (tC (V.ref A.t_NO_CHANGE)))) (sDPut (tFld K (tVar 0) "cells") (tTup (tCons (tVar 1) (tCons (tVar 2) tNil))) (tTup (tCons (tVar 3) (tCons (tVar 4) tNil)))) tNext
          { nx:=fun x H'=>Q V.non H',rt:=Q } [some (V.ref ch),some (V.int x),some (V.int y),some (V.int up),some (V.int kind)] H2:=fun H2 v m2 e2 d2=>by
      have ncd:ch≠cd:=za g1 g2 (by intro z;cases z)
      have g1':=e2 _ _ g1 ncd
      walk_at "rd"
      walk_at "new"
      rename_i t2 ht2 H3 f3 s3
      have m3:=s3 _ _ m2
      have g3':=s3 _ _ g1'
      have d3:=d2.keep Z9 s3.keeps
      walk_at "rd"
      refine⟨.tuple [.int up,.int kind],.tuple [.int 0,.int 0],.tup (SqT.of f3) (.cons (.int _) (.cons (.int _) .nil)),.tup (T.g_NO_CHANGE.2 H3) (.cons (.int _) (.cons (.int _) .nil)),?_,?_,?_⟩
      . simp[SeqAt.shaped,PyData.canLay0,PyData.canLayAll0,PyData.depth,PyData.depthAll]
      . decide
      have ev:PyData.eqv (.tuple [.int up,.int kind]) (.tuple [.int 0,.int 0])=decide (up=0/\kind=0):=by
        simp only[PyData.eqv,PyData.eqvAll,Bool.and_true]
        refine Bool.eq_iff_iff.mpr ?_
        rw[Bool.and_eq_true,beq_iff_eq,beq_iff_eq,decide_eq_true_iff]
        omega
      rw[ev]
      have eH:Ext cd H H3:=Ext.sameR s1 (e2.sameL s3)
      walk_at "rd"
      with_reducible refine zR (fun z=>?_) (fun z=>?_)
      . have z':¬ (up=0/\kind=0):=by rw[Bool.not_eq_true',decide_eq_false_iff_not] at z;exact z
        walk_at "rd"
        walk_at "new"
        rename_i t4 ht4 H4 f4 s4
        have g4':=s4 _ _ g3'
        walk_at "rd"
        walk_at "new"
        rename_i t5 ht5 H5 f5 s5
        have m5:=s5 _ _ (s4 _ _ m3)
        have d5:=(d3.keep Z9 s4.keeps).keep Z9 s5.keeps
        have f5':H5 t5=some (.tup ((key2 x y).map kV)):=f5
        have hl5:(dropK kvs1 (key2 x y)).length<sizeLine:=by
          rw[d5.len]
          have:=List.length_filter_le (fun c:Vbwsan.Change=>!decide (chKey c=key2 x y)) cs
          have:=h4.len
          exact small (by omega)
        refine qz (DPut.t m5 f5' hl5) ?_
        have eH5:Ext cd H (upd H5 cd (.dT (putK (dropK kvs1 (key2 x y)) (key2 x y) (.ref t4)))):=((eH.sameL s4).sameL s5).trans j2
        refine k _ ⟨⟨dx1,?_⟩,⟨_,zJ,?_⟩,okp⟩ eH5
        . rw[zI ncd];exact s5 _ _ g4'
        . unfold chPut
          rw[if_neg z',<-zAi]
          have dn:valV (dropK kvs1 (key2 x y)) (key2 x y)=none:=g3.val_dropped
          exact(d5.put (a:=⟨x,y,up,kind⟩) dn ⟨t4,rfl,s5 _ _ f4⟩).keep Z9 (ZW m5 (fun z=>z))
      . have z':up=0/\kind=0:=by rw[Bool.not_eq_false',decide_eq_true_iff] at z;exact z
        walk_at "rd"
        refine k _ ⟨⟨dx1,g3'⟩,⟨_,m3,?_⟩,okp⟩ eH
        unfold chPut
        rw[if_pos z',List.append_nil,<-zAi]
        exact d3
    refine zAR g2 f1' (fun v hv=>?_) (fun hv=>?_)
    . exact rest _ v zJ j2 ((g3.drop _).keep Z9 (ZW g2 (fun z=>z)))
    . have e0:dropK kvs1 (key2 x y)=kvs1:=by
        unfold dropK
        refine List.filter_eq_self.mpr fun kv hkv=>decide_eq_true fun e=>valV_not hv (List.mem_map.mpr ⟨kv,hkv,e⟩)
      exact rest _ .non (by rw[e0];exact g2) Ext.refl (g3.drop _)
end
end Gs
namespace Gs
open PySem PySem.Spec PyProof.Rows L2
section
variable{P:Program}{w:World}{K:PySem.W.Frag}{mg:Str->Option Value}{base:Heap}{A:Ads}
def Qh(A:Ads):Sp:=fun vs H Q _=>∃(g da:Addr) (seed w d x y:Nat),vs=[.ref g,.int x,.int y]/\GrAt A H g da seed w d/\x<=35/\y<=35/\
  ∀H',GrAt A H' g da seed w d->Ext da H H'->Q (.bl (decide (Vbwsan.raw seed 9 x y%24=0)&&decide (1400<=Vbwsan.madeHeight seed x y))) H'
abbrev Q9:Stmt:=top 46
theorem sc_is_spring:FnScope ["ground","x","y"] ["ground","x","y"] (defScope Q9):=⟨rfl,rfl,rfl,by decide +kernel,rfl,by decide +kernel,by decide +kernel⟩
theorem ok_is_spring{f:Addr}{fd:FuncData}(F:Fun K "is_spring" "is_spring" Q9 f fd)(T:Glb K mg A)(m_Ground_raw:MtAt P w K mg base 3 A.C_Ground "raw" ["self","purpose","x","y"] (sp_Ground_raw A))
    (m_Ground_made_height:MtAt P w K mg base 6 A.C_Ground "made_height" ["self","x","y"] (ZD A)):FnOk P w K mg base CX0 7 f fd ["ground","x","y"] (Qh A):=by
  refine F.ok sc_is_spring (fun vs H Q E h=>?_) (fun cdv Ar outer s H vs Q E hr h=>?_)
  . obtain⟨g,da,a,b,c,x,y,rfl,_⟩:=h
    rfl
  . obtain⟨g,da,seed,w,d,x,y,rfl,G,hx,hy,k⟩:=h
    obtain⟨dx,hg⟩:=G.ins
    refine⟨_,(zD (zH (jl (Z8 zCQ (zK QA (zT (pv 0) T.c_Ground m_Ground_raw hr (zA (zM T.g_SPRING_PURPOSE) (zA (pv 1) (zA (pv 2) zC)))) (zM T.g_ONE_IN_springs)) zE (nomark _)) (Qw (Z8 zBo (zT (pv 0) T.c_Ground m_Ground_made_height hr (zA (pv 1) (zA (pv 2) zC))) (zM T.g_SPRING_FROM) (nomark _)))))),?_⟩
    refine st0 (σ0:=[some _,some _,some _]) rfl ?_
    try dsimp only[cxOf]
    walk_at "rd"
    refine⟨g,dx,da,seed,w,d,9,x,y,rfl,hg,?_⟩
    generalize Vbwsan.raw seed 9 x y=r at k
    walk_at "rd"
    with_reducible refine zR (fun h1=>?_) (fun h1=>?_)
    . walk_at "rd"
      refine⟨g,da,seed,w,d,x,y,rfl,G,hx,hy,fun H1 G1 e1=>?_⟩
      have q:=k _ G1 e1
      generalize Vbwsan.madeHeight seed x y=m at q
      walk_at "rd"
      rw[decide_eq_true_iff] at h1
      rw[decide_eq_true (show r%24=0 by omega),Bool.true_and] at q
      have e:decide ((1400:Int)<=(m:Int))=decide (1400<=m):=decide_eq_decide.mpr (by omega)
      rw[e]
      exact q
    . walk_at "rd"
      rw[decide_eq_false_iff_not] at h1
      have q:=k _ G Ext.refl
      rw[decide_eq_false (show ¬ r%24=0 by omega),Bool.false_and] at q
      exact q
theorem kind_eq(seed w d x y:Nat):Vbwsan.madeKind seed w d x y=if (Vbwsan.houseOver seed w d x y).isSome=true then 3 else if 2300<=Vbwsan.madeHeight seed x y then 1 else if 600<=Vbwsan.layerAt seed Vbwsan.woodLayer x y then 2 else 0:=by
  unfold Vbwsan.madeKind Vbwsan.ROCK Vbwsan.WOOD
  generalize Vbwsan.houseOver seed w d x y=o
  generalize Vbwsan.madeHeight seed x y=m
  generalize Vbwsan.layerAt seed Vbwsan.woodLayer x y=l
  rfl
def Qg(A:Ads):Sp:=fun vs H Q _=>∃(g da l:Addr) (seed w d x y:Nat) (hs:List Vbwsan.House),vs=[.ref g,.ref l,.int x,.int y]/\GrAt A H g da seed w d/\LAt (HouseV A seed) H l hs/\hs.length<=100000/\(hs.any fun a=>Vbwsan.covers a x y)=(Vbwsan.houseOver seed w d x y).isSome/\x<=35/\y<=35/\
  ∀H',GrAt A H' g da seed w d->Ext da H H'->Q (.int (Vbwsan.madeKind seed w d x y:Nat)) H'
abbrev s_made_kind:Stmt:=top 37
theorem sc_made_kind:FnScope ["ground","houses","x","y"] ["ground","houses","x","y"] (defScope s_made_kind):=⟨rfl,rfl,rfl,by decide +kernel,rfl,by decide +kernel,by decide +kernel⟩
theorem ok_made_kind {f : Addr} {fd : FuncData} (F : Fun K "made_kind" "made_kind" s_made_kind f fd) (T : Glb K mg A) (f_is_covered : FnAt P w K mg base 2 "is_covered" ["houses", "x", "y"] (sp_is_covered A))
    (m_Ground_made_height:MtAt P w K mg base 6 A.C_Ground "made_height" ["self","x","y"] (ZD A)) (m_Ground_wood_at:MtAt P w K mg base 6 A.C_Ground "wood_at" ["self","x","y"] (jZ A)):
    FnOk P w K mg base CX0 7 f fd ["ground","houses","x","y"] (Qg A):=by
  refine F.ok sc_made_kind (fun vs H Q E h=>?_) (fun cdv Ar outer s H vs Q E hr h=>?_)
  . obtain⟨g,da,l,a,b,c,x,y,hs,rfl,_⟩:=h
    rfl
  . obtain⟨g,da,l,seed,w,d,x,y,hs,rfl,G,hl,hlen,hcov,hx,hy,k⟩:=h
    rw[kind_eq,<-hcov] at k
    generalize hc:(hs.any fun a=>Vbwsan.covers a x y)=c at k
    refine⟨_,(zB (zf (zm (zV f_is_covered hr (zA (pv 1) (zA (pv 2) (zA (pv 3) zC))))) (zD (zH (zM T.g_HOUSE))) zP)
      (zB (zf (zn zBo (zT (pv 0) T.c_Ground m_Ground_made_height hr (zA (pv 2) (zA (pv 3) zC))) (zM T.g_ROCK_FROM) (nomark _)) (zD (zH (zM T.g_ROCK))) zP)
      (zB (zf (zn zBo (zT (pv 0) T.c_Ground m_Ground_wood_at hr (zA (pv 2) (zA (pv 3) zC))) (zM T.g_WOOD_FROM) (nomark _)) (zD (zH (zM T.g_WOOD))) zP)
      (zD (zH (zM T.g_PLAIN)))))),?_⟩
    refine st0 (σ0:=[some _,some _,some _,some _]) rfl ?_
    try dsimp only[cxOf]
    walk_at "rd"
    refine⟨l,seed,hs,x,y,rfl,hl,hlen,fun H1 s1=>?_⟩
    rw[hc]
    have G1:=G.same s1
    obtain⟨dx,hg1⟩:=G1.ins
    walk_at "rd"
    with_reducible refine zR (fun h1=>?_) (fun h1=>?_)
    . walk_at "rd"
      have q:=k _ G1 s1.ext
      rw[if_pos h1] at q
      exact q
    . rw[if_neg (by rw[h1];decide)] at k
      walk_at "rd"
      refine⟨g,da,seed,w,d,x,y,rfl,G1,hx,hy,fun H2 G2 e2=>?_⟩
      generalize Vbwsan.madeHeight seed x y=m at k
      obtain⟨dx2,hg2⟩:=G2.ins
      walk_at "rd"
      with_reducible refine zR (fun h2=>?_) (fun h2=>?_)
      . walk_at "rd"
        rw[decide_eq_true_iff] at h2
        have q:=k _ G2 (Ext.sameR s1 e2)
        rw[if_pos (show 2300<=m by omega)] at q
        exact q
      . rw[decide_eq_false_iff_not] at h2
        rw[if_neg (show ¬ 2300<=m by omega)] at k
        walk_at "rd"
        refine⟨g,da,seed,w,d,x,y,rfl,G2,hx,hy,fun H3 G3 e3=>?_⟩
        generalize Vbwsan.layerAt seed Vbwsan.woodLayer x y=wl at k
        walk_at "rd"
        have q:=k _ G3 ((Ext.sameR s1 e2).trans e3)
        with_reducible refine zR (fun h3=>?_) (fun h3=>?_)
        . walk_at "rd"
          rw[decide_eq_true_iff] at h3
          rw[if_pos (show 600<=wl by omega)] at q
          exact q
        . walk_at "rd"
          rw[decide_eq_false_iff_not] at h3
          rw[if_neg (show ¬ 600<=wl by omega)] at q
          exact q
def QG:Sp:=fun vs H Q _=>∃i j:Nat,vs=[.int i,.int j]/\i<=4/\j<=4/\∀H' p,Same H H'->H p=none->CellsAt H' p (box (8*i) (8*j) 8 8)->Q (.ref p) H'
abbrev jj:Stmt:=top 38
theorem sc_cells_of:FnScope ["i","j"] ["i","j"] (defScope jj):=⟨rfl,rfl,rfl,by decide +kernel,rfl,by decide +kernel,by decide +kernel⟩
theorem ok_cells_of{f:Addr}{fd:FuncData}(F:Fun K "cells_of" "cells_of" jj f fd)(T:Glb K mg A)(f_box_cells:FnAt P w K mg base 1 "box_cells" ["left","top","width","depth"] sp_box_cells):FnOk P w K mg base CX0 2 f fd ["i","j"] QG:=by
  refine F.ok sc_cells_of (fun vs H Q E h=>?_) (fun cdv Ar outer s H vs Q E hr h=>?_)
  . obtain⟨i,j,rfl,_⟩:=h
    rfl
  . obtain⟨i,j,rfl,hi,hj,k⟩:=h
    refine⟨_,(zD (zH (zV f_box_cells hr (zA (zK ZF (zM T.g_PIECE_SIDE) (pv 0)) (zA (zK ZF (zM T.g_PIECE_SIDE) (pv 1)) (zA (zM T.g_PIECE_SIDE) (zA (zM T.g_PIECE_SIDE) zC))))))),?_⟩
    refine st0 (σ0:=[some _,some _]) rfl ?_
    try dsimp only[cxOf]
    walk_at "rd"
    exact⟨8*i,8*j,8,8,by simp,⟨by omega,by omega,by omega,by omega⟩,k⟩
abbrev cKey(c:Nat×Nat):List Key:=key2 c.1 c.2
def MadeV(seed w d:Nat)(H:Hp)(v:V)(c:Nat×Nat):Prop:=∃t,v=.ref t/\H t=some (.tup [.int (Vbwsan.madeHeight seed c.1 c.2:Nat),.int (Vbwsan.madeKind seed w d c.1 c.2:Nat)])
theorem ZH{seed w d:Nat}:Stable (MadeV seed w d):=fun H H' v x k ⟨t,e,h⟩=>⟨t,e,k _ _ h trivial⟩
def MadeAt(seed w d:Nat)(H:Hp)(p:Addr)(cs:List (Nat×Nat)):Prop:=∃kvs,H p=some (.dT kvs)/\DMap (MadeV seed w d) cKey H kvs cs
theorem zAk(l t w:Nat):∀d,(box l t w d).Nodup
  |0=>by unfold box;simp
  | d + 1 => by
    rw[zAK,List.nodup_append]
    refine⟨zAk l t w d,?_,fun a ha b hb e=>?_⟩
    . rw[List.nodup_iff_pairwise_ne,List.pairwise_map]
      refine List.Pairwise.imp ?_ (List.nodup_iff_pairwise_ne.mp List.nodup_range)
      intro i j hij e
      have:=(Prod.mk.inj e).1
      omega
    . subst e
      have:=jw ha
      obtain⟨i,_,rfl⟩:=List.mem_map.mp hb
      dsimp only at this
      omega
theorem Jy{α:Type}:∀{l:List α} {i:Nat} {x:α},l.Nodup->l[i]?=some x->x ∉ l.take i
  |[],i,x,_,h=>by simp at h
  |a::l,0,x,_,h=>by simp
  | a :: l, i + 1, x, hn, h => by
    have hn':=List.nodup_cons.mp hn
    have hx:x∈l:=List.mem_of_getElem? (show l[i]?=some x from h)
    rw[List.take_succ_cons,List.mem_cons,not_or]
    exact⟨fun e=>hn'.1 (e▸hx),Jy hn'.2 h⟩
def sp_made_cells(A:Ads):Sp:=fun vs H Q _=>∃(g da:Addr) (seed w d l t bw bd:Nat),vs=[.ref g,.int l,.int t,.int bw,.int bd]/\GrAt A H g da seed w d/\l+bw<=w/\t+bd<=d/\1<=bw/\1<=bd/\
  ∀H' p,GrAt A H' g da seed w d->Ext da H H'->H p=none->p≠da->MadeAt seed w d H' p (box l t bw bd)->Q (.ref p) H'
abbrev s_made_cells:Stmt:=top 39
theorem Zl:FnScope ["ground","left","top","width","depth","houses","made","x","y"] ["ground","left","top","width","depth"] (defScope s_made_cells):=⟨rfl,rfl,rfl,by decide +kernel,rfl,by decide +kernel,by decide +kernel⟩
theorem ok_made_cells {f : Addr} {fd : FuncData} (F : Fun K "made_cells" "made_cells" s_made_cells f fd) (T : Glb K mg A) (f_houses_over : FnAt P w K mg base 11 "houses_over" ["ground", "left", "top", "right", "bottom"] (sp_houses_over A))
    (f_box_cells:FnAt P w K mg base 1 "box_cells" ["left","top","width","depth"] sp_box_cells) (f_made_kind:FnAt P w K mg base 7 "made_kind" ["ground","houses","x","y"] (Qg A))
    (m_Ground_made_height:MtAt P w K mg base 6 A.C_Ground "made_height" ["self","x","y"] (ZD A)):FnOk P w K mg base CX0 12 f fd ["ground","left","top","width","depth"] (sp_made_cells A):=by
  refine F.ok Zl (fun vs H Q E h=>?_) (fun cdv Ar outer s H vs Q E hr h=>?_)
  . obtain⟨g,da,a,b,c,l,t,bw,bd,rfl,_⟩:=h
    rfl
  . obtain⟨g,da,seed,w,d,l,t,bw,bd,rfl,G,hl,ht,hb1,hb2,k⟩:=h
    obtain⟨hw1,hw2,hd1,hd2⟩:=G.le
    have hu:=ZB hr
    refine⟨_,(zB (zG (i:=5) Zl.nd rfl (Or.inl rfl) (zV f_houses_over hr (zA (pv 0) (zA (pv 1) (zA (pv 2) (zA (zK ZR (zK zW (pv 1) (pv 3)) zE) (zA (zK ZR (zK zW (pv 2) (pv 4)) zE) zC)))))))
      (zB (zG (i:=6) Zl.nd rfl (Or.inl rfl) jv)
      (zB (ZQ PassesOwn.never rfl (ZL (zV f_box_cells hr (zA (pv 1) (zA (pv 2) (zA (pv 3) (zA (pv 4) zC)))))) (JG (n:=2) rfl (ZN (zX (i:=7) Zl.nd rfl (Or.inl rfl)) (ZN (zX (i:=8) Zl.nd rfl (Or.inl rfl)) jK))) (zD (Qv hu (pv 6) (zu (zA (pv 7) (zA (pv 8) zC))) (zu (zA (zT (pv 0) T.c_Ground m_Ground_made_height hr (zA (pv 7) (zA (pv 8) zC))) (zA (zV f_made_kind hr (zA (pv 0) (zA (pv 5) (zA (pv 7) (zA (pv 8) zC))))) zC))) rfl)))
      (zD (zH (pv 6)))))),?_⟩
    refine st0 (σ0:=[some _,some _,some _,some _,some _,none,none,none,none]) rfl ?_
    try dsimp only[cxOf]
    walk_at "rd"
    refine⟨g,da,seed,w,d,l,t,(l:Int)+bw - 1,(t:Int)+bd - 1,rfl,G,⟨by omega,by omega,by omega,by omega,by omega,by omega,by omega,by omega⟩,fun H1 p G1 e1 hp c1=>?_⟩
    have hov:∀x y:Nat,l<=x->x<l+bw->t<=y->y<t+bd->((Gm.housesIn seed w d ((l:Int) - 3) ((t:Int) - 3) ((l:Int)+bw - 1) ((t:Int)+bd - 1)).any fun a=>Vbwsan.covers a x y)=(Vbwsan.houseOver seed w d x y).isSome:=fun x y a1 a2 a3 a4=>Gm.any_over ⟨by omega,by omega,by omega⟩ ⟨by omega,by omega,by omega⟩
    have hhl:(Gm.housesIn seed w d ((l:Int) - 3) ((t:Int) - 3) ((l:Int)+bw - 1) ((t:Int)+bd - 1)).length<=100000:=by
      rw[<-Gm.QS]
      refine Nat.le_trans (List.length_filter_le _ _) (Nat.le_trans (JQ _ _ _ _ _ _ _) (Nat.le_trans (zk hd2 hw2) (by decide)))
    generalize Gm.housesIn seed w d ((l:Int) - 3) ((t:Int) - 3) ((l:Int)+bw - 1) ((t:Int)+bd - 1)=hs at c1 hov hhl
    walk_at "rd"
    refine jt fun pd hpd=>?_
    apply Ze hpd
    intro H2 z2 f2 s2
    rw[z2]
    clear z2
    have G2:=G1.same s2
    have npd:pd≠da:=fun z=>by obtain⟨_,z2,_⟩:=G1.cor;rw[<-z,hpd] at z2;cases z2
    have hpdH:H pd=none:=by
      cases z:H pd with
      |none=>rfl
      | some o =>
        have:=e1 _ _ z npd
        rw[hpd] at this
        cases this
    have c2:=c1.same zY s2
    walk_at "rd"
    refine⟨l,t,bw,bd,rfl,⟨by omega,by omega,by omega,by omega⟩,fun H3 q s3 hq c3=>?_⟩
    obtain⟨ts,c4,c5⟩:=id c3
    have hlen:ts.length=(box l t bw bd).length:=Paired.length c5
    refine zq (SqL.of c4) ?_
    have hbl:(box l t bw bd).length<=32*32:=by rw[Zw];exact zk (by omega) (by omega)
    refine qi (xs:=ts) (fun i σ H'=>∃v7 v8:Option V,σ=[some (.ref g),some (.int l),some (.int t),some (.int bw),some (.int bd),some (.ref p),some (.ref pd),v7,v8]/\GrAt A H' g da seed w d/\Keeps H3 H'/\Ext da H H'/\H' q=some (.lst ts)/\LAt (HouseV A seed) H' p hs/\MadeAt seed w d H' pd ((box l t bw bd).take i))
      ⟨none,none,rfl,G2.same s3,Keeps.refl,(e1.sameL s2).sameL s3,c4,c2.same zY s3,⟨[],s3 _ _ f2,.nil⟩⟩ (fun i σ H' _ ⟨_,_,_,_,_,_,z,_⟩=>SqL.of z) ?_ ?_
    . rintro i v σ H' hv ⟨v7,v8,rfl,G4,k4,e4,q4,c6,kvs,m1,m2⟩
      obtain⟨c,hc,tc,rfl,htc⟩:=ZO c5 hv
      have htc4:=k4 _ _ htc trivial
      have hcb:=jw (List.mem_of_getElem? hc)
      obtain⟨dx4,hg4⟩:=G4.ins
      refine jH (SqT.of htc4) rfl ?_
      walk_at "rd"
      refine⟨g,da,seed,w,d,c.1,c.2,rfl,G4,by omega,by omega,fun H5 G5 e5=>?_⟩
      have m15:=e5 _ _ m1 npd
      have q5:=Ext.at G4 e5 q4 (fun z q=>by cases q)
      walk_at "rd"
      refine⟨g,da,p,seed,w,d,c.1,c.2,hs,rfl,G5,c6.ext zY G4 e5,hhl,hov _ _ hcb.1 hcb.2.1 hcb.2.2.1 hcb.2.2.2,by omega,by omega,fun H6 G6 e6=>?_⟩
      have m16:=e6 _ _ m15 npd
      have q6:=Ext.at G5 e6 q5 (fun z q=>by cases q)
      walk_at "rd"
      walk_at "new"
      rename_i tv htv H7 f7 s7
      walk_at "rd"
      walk_at "new"
      rename_i tk htk H8 f8 s8
      have m18:=s8 _ _ (s7 _ _ m16)
      have f8':H8 tk=some (.tup ((cKey c).map kV)):=f8
      have k48:Keeps H' H8:=(((Ext.keepsG G4 e5).trans (Ext.keepsG G5 e6)).trans s7.keeps).trans s8.keeps
      have m28:=m2.keep ZH k48
      have hlk:kvs.length<sizeLine:=by
        rw[m2.len,List.length_take]
        exact small (by omega)
      refine qz (DPut.t m18 f8' hlk) ?_
      have G8:=(G6.same s7).same s8
      have hnew:valV kvs (cKey c)=none:=by
        refine m28.val_none ?_
        rw[List.find?_eq_none]
        intro b hb z
        have z2:=Qb.mp (of_decide_eq_true z)
        have:b=c:=Prod.ext z2.1 z2.2
        exact Jy (zAk l t bw bd) hc (this▸hb)
      have G9:GrAt A (upd H8 pd (.dT (putK kvs (cKey c) (.ref tv)))) g da seed w d:=by
        obtain⟨⟨dx8,z1⟩,⟨kv8,z2,z3⟩,z4,z5⟩:=G8
        exact⟨⟨dx8,by rw[zI (za z1 m18 (by intro z;cases z))];exact z1⟩,⟨kv8,by rw[zI (Ne.symm npd)];exact z2,z3⟩,z4,z5⟩
      have kk:Keeps H8 (upd H8 pd (.dT (putK kvs (cKey c) (.ref tv)))):=ZW m18 (fun z=>z)
      refine⟨_,_,rfl,G9,(k4.trans k48).trans kk,Zo ((((e4.trans e5).trans e6).sameL s7).sameL s8) hpdH,?_,?_,?_⟩
      . rw[zI (za (s8 _ _ (s7 _ _ q6)) m18 (by intro z;cases z))]
        exact s8 _ _ (s7 _ _ q6)
      . have c7:=(((c6.ext zY G4 e5).ext zY G5 e6).same zY s7).same zY s8
        exact c7.keep zY kk fun us z=>by rw[zI (za z m18 (by intro z;cases z))];exact z
      . rw[zZ hc]
        exact⟨_,zJ,(m28.put hnew ⟨tv,rfl,s8 _ _ f7⟩).keep ZH kk⟩
    . rintro σ H' ⟨v7,v8,rfl,G4,k4,e4,q4,c6,m⟩
      walk_at "rd"
      rw[hlen,List.take_length] at m
      exact k _ _ G4 e4 hpdH npd m
def sp_made_piece(A:Ads):Sp:=fun vs H Q _=>∃(g da:Addr) (seed w d i j:Nat),vs=[.ref g,.int i,.int j]/\GrAt A H g da seed w d/\8*i+8<=w/\8*j+8<=d/\
  ∀H' p,GrAt A H' g da seed w d->Ext da H H'->H p=none->p≠da->MadeAt seed w d H' p (box (8*i) (8*j) 8 8)->Q (.ref p) H'
abbrev Qm:Stmt:=top 40
theorem sc_made_piece:FnScope ["ground","i","j"] ["ground","i","j"] (defScope Qm):=⟨rfl,rfl,rfl,by decide +kernel,rfl,by decide +kernel,by decide +kernel⟩
theorem ok_made_piece{f:Addr}{fd:FuncData}(F:Fun K "made_piece" "made_piece" Qm f fd)(T:Glb K mg A)(f_made_cells:FnAt P w K mg base 12 "made_cells" ["ground","left","top","width","depth"] (sp_made_cells A)):
    FnOk P w K mg base CX0 13 f fd ["ground","i","j"] (sp_made_piece A):=by
  refine F.ok sc_made_piece (fun vs H Q E h=>?_) (fun cdv Ar outer s H vs Q E hr h=>?_)
  . obtain⟨g,da,a,b,c,i,j,rfl,_⟩:=h
    rfl
  . obtain⟨g,da,seed,w,d,i,j,rfl,G,hi,hj,k⟩:=h
    refine⟨_,(zD (zH (zV f_made_cells hr (zA (pv 0) (zA (zK ZF (zM T.g_PIECE_SIDE) (pv 1)) (zA (zK ZF (zM T.g_PIECE_SIDE) (pv 2)) (zA (zM T.g_PIECE_SIDE) (zA (zM T.g_PIECE_SIDE) zC)))))))),?_⟩
    refine st0 (σ0:=[some _,some _,some _]) rfl ?_
    try dsimp only[cxOf]
    walk_at "rd"
    exact⟨g,da,seed,w,d,8*i,8*j,8,8,by simp,G,hi,hj,by omega,by omega,k⟩
end
end Gs
namespace Gs
open PySem PySem.Spec PyProof.Rows L2
theorem zBd{C C' dx dx':Addr}{fs fs':List (Str×V)}{f:Str}{v:V}(h1:fs.lookup f=some v)(h2:fs'.lookup f=none):HO.ins C dx fs≠HO.ins C' dx' fs':=fun e=>by
  injection e with _ _ e
  rw[e,h2] at h1
  cases h1
def bad3(da kd cd b:Addr):Prop:=b=da\/b=kd\/b=cd
abbrev pKey(p:Vbwsan.Piece):List Key:=key2 p.i p.j
def PcV(seed w d:Nat)(bad:Addr->Prop)(H:Hp)(v:V)(p:Vbwsan.Piece):Prop:=∃pd,v=.ref pd/\¬ bad pd/\MadeAt seed w d H pd (box (8*p.i) (8*p.j) 8 8)/\p.cells=Vbwsan.madePiece seed w d p.i p.j
def DKeeps(bad:Addr->Prop)(H H':Hp):Prop:=∀b kvs,H b=some (.dT kvs)->¬ bad b->H' b=some (.dT kvs)
theorem PcV.keep{seed w d:Nat}{bad:Addr->Prop}{H H':Hp}{v:V}{p:Vbwsan.Piece}(h:PcV seed w d bad H v p)(k:Keeps H H')(dk:DKeeps bad H H'):PcV seed w d bad H' v p:=by
  obtain⟨pd,e,n,⟨kvs,h1,h2⟩,h3⟩:=h
  exact⟨pd,e,n,⟨kvs,dk _ _ h1 n,h2.keep ZH k⟩,h3⟩
structure PcAt(A:Ads)(H:Hp)(ps kd g da cd:Addr)(s:Vbwsan.State):Prop where
  ins:∃dx,H ps=some (.ins A.C_Pieces dx [("ground",.ref g),("room",.int s.cap),("made_count",.int s.made),("kept",.ref kd)])
  dict:∃kvs,H kd=some (.dT kvs)/\DMap (PcV s.seed s.w s.d (bad3 da kd cd)) pKey H kvs s.pieces
  nd:(s.pieces.map pKey).Nodup
  len:s.pieces.length<=s.cap
  rng:∀p∈s.pieces,8*p.i+8<=s.w/\8*p.j+8<=s.d
theorem PcAt.keep{A:Ads}{H H':Hp}{ps kd g da cd:Addr}{s:Vbwsan.State}(h:PcAt A H ps kd g da cd s)(k:Keeps H H')(hd:∀b kvs,H b=some (.dT kvs)->b≠da->H' b=some (.dT kvs))(nk:kd≠da):PcAt A H' ps kd g da cd s:=by
  obtain⟨⟨dx,h1⟩,⟨kvs,h2,h3⟩,h4,h5,h6⟩:=h
  exact⟨⟨dx,k _ _ h1 trivial⟩,⟨kvs,hd _ _ h2 nk,h3.imp fun kv a r=>⟨r.1,r.2.keep k fun b z hb n=>hd b z hb fun e=>n (.inl e)⟩⟩,h4,h5,h6⟩
section
variable{P:Program}{w:World}{K:PySem.W.Frag}{mg:Str->Option Value}{base:Heap}{A:Ads}
def sp_Pieces_init(A:Ads):Sp:=fun vs H Q _=>∃(p dx g:Addr) (r:Int),vs=[.ref p,.ref g,.int r]/\H p=some (.ins A.C_Pieces dx [])/\
  ∀H' kd,H' p=some (.ins A.C_Pieces dx [("ground",.ref g),("room",.int r),("made_count",.int 0),("kept",.ref kd)])->H kd=none->H' kd=some (.dT [])->Ext p H H'->Q .non H'
abbrev Z5:Stmt:=inClass (top 41) 0
theorem sc_Pieces___init__:FnScope ["self","ground","room"] ["self","ground","room"] (defScope Z5):=⟨rfl,rfl,rfl,by decide +kernel,rfl,by decide +kernel,by decide +kernel⟩
theorem ok_Pieces_init{f:Addr}{fd:FuncData}(F:Fun K "__init__" "Pieces.__init__" Z5 f fd)(T:Glb K mg A):FnOk P w K mg base CX0 1 f fd ["self","ground","room"] (sp_Pieces_init A):=by
  refine F.ok sc_Pieces___init__ (fun vs H Q E h=>?_) (fun cdv Ar outer s H vs Q E hr h=>?_)
  . obtain⟨p,dx,g,r,rfl,_⟩:=h
    rfl
  . obtain⟨p,dx,g,r,rfl,hp,k⟩:=h
    refine⟨_,(zB (Zd (pv 0) (pv 1) rfl)
      (zB (Zd (pv 0) (pv 2) rfl)
      (zB (Zd (pv 0) zE rfl)
      (zD (Zd (pv 0) jv rfl))))),?_⟩
    refine st0 (σ0:=[some _,some _,some _]) rfl ?_
    try dsimp only[cxOf]
    walk_at "rd"
    refine jt fun da hda=>?_
    have npd:p≠da:=fun e=>by rw[<-e,zJ] at hda;cases hda
    refine' jk rfl ?_
    refine qy (by rw[zI npd];exact zJ) T.c_Pieces T.n_Pieces_kept (Nat.le_of_ble_eq_true rfl) ?_
    refine k _ da zJ (by rw[zI (Ne.symm npd)] at hda;exact hda) (by rw[zI (Ne.symm npd)];exact zJ) fun b o e n=>?_
    rw[zI n,zI,zI n]
    . exact e
    . intro q
      rw[<-q,zI n,e] at hda
      cases hda
def sp_has_piece(A:Ads):Sp:=fun vs H Q _=>∃(ps kd g da cd:Addr) (s:Vbwsan.State) (i j:Int),vs=[.ref ps,.int i,.int j]/\PcAt A H ps kd g da cd s/\GrAt A H g da s.seed s.w s.d/\
  Q (.bl (decide (0<=i/\i<(s.w / 8:Nat)/\0<=j/\j<(s.d / 8:Nat)))) H
abbrev Zs:Stmt:=inClass (top 41) 1
theorem Zj:FnScope ["self","i","j","across","down"] ["self","i","j"] (defScope Zs):=⟨rfl,rfl,rfl,by decide +kernel,rfl,by decide +kernel,by decide +kernel⟩
theorem ok_has_piece{f:Addr}{fd:FuncData}(F:Fun K "has_piece" "Pieces.has_piece" Zs f fd)(T:Glb K mg A):FnOk P w K mg base CX0 1 f fd ["self","i","j"] (sp_has_piece A):=by
  refine F.ok Zj (fun vs H Q E h=>?_) (fun cdv Ar outer s H vs Q E hr h=>?_)
  . obtain⟨ps,kd,g,da,cd,s,i,j,rfl,_⟩:=h
    rfl
  . obtain⟨ps,kd,g,da,cd,s0,i,j,rfl,C,G,q⟩:=h
    obtain⟨dx,h1⟩:=C.ins
    obtain⟨dg,h2⟩:=G.ins
    refine⟨_,(zB (zG (i:=3) Zj.nd rfl (Or.inl rfl) (zK QH (zF (zF (pv 0) rfl) rfl) (zM T.g_PIECE_SIDE)))
      (zB (zG (i:=4) Zj.nd rfl (Or.inl rfl) (zK QH (zF (zF (pv 0) rfl) rfl) (zM T.g_PIECE_SIDE)))
      (zD (zH (jl (QY z9 jT zE (pv 1) (pv 3)) (Qw (QY z9 jT zE (pv 2) (pv 4)))))))),?_⟩
    refine st0 (σ0:=[some _,some _,some _,none,none]) rfl ?_
    try dsimp only[cxOf]
    walk_at "rd"
    with_reducible refine zR (fun z1=>?_) (fun z1=>?_)
    all_goals walk_at "rd"
    all_goals try with_reducible refine zR (fun z2=>?_) (fun z2=>?_)
    all_goals try walk_at "rd"
    all_goals try with_reducible refine zR (fun z3=>?_) (fun z3=>?_)
    all_goals try walk_at "rd"
    all_goals refine Q_bl q ?_
    all_goals simp only[decide_eq_true_eq,decide_eq_false_iff_not] at*
    all_goals first
      |(refine(decide_eq_false ?_).symm;omega)
      |(refine decide_eq_decide.mpr ?_;omega)
      |(refine Eq.symm (decide_eq_true ?_);omega)
def pcFind(l:List Vbwsan.Piece)(i j:Nat):Option Vbwsan.Piece:=l.find? fun p=>p.i==i&&p.j==j
theorem Zx(l:List Vbwsan.Piece)(i j:Nat):l.find? (fun p=>decide (pKey p=key2 i j))=pcFind l i j:=by
  unfold pcFind
  refine congrArg (fun f=>l.find? f) (funext fun c=>Bool.eq_iff_iff.mpr ?_)
  rw[decide_eq_true_iff,Qb,Bool.and_eq_true,beq_iff_eq,beq_iff_eq]
theorem JI(l:List Vbwsan.Piece)(i j:Nat):l.filter (fun p=>!decide (pKey p=key2 i j))=l.filter fun q=>!(q.i==i&&q.j==j):=by
  refine congrArg (fun f=>l.filter f) (funext fun c=>?_)
  refine congrArg Bool.not (Bool.eq_iff_iff.mpr ?_)
  rw[decide_eq_true_iff,Qb,Bool.and_eq_true,beq_iff_eq,beq_iff_eq]
def jc(A:Ads):Sp:=fun vs H Q _=>∃(ps kd g da cd:Addr) (s:Vbwsan.State) (i j:Nat),vs=[.ref ps,.int i,.int j]/\PcAt A H ps kd g da cd s/\∀H',Same H H'->Q (.bl (pcFind s.pieces i j).isSome) H'
abbrev qF:Stmt:=inClass (top 41) 2
theorem sc_Pieces_is_kept:FnScope ["self","i","j"] ["self","i","j"] (defScope qF):=⟨rfl,rfl,rfl,by decide +kernel,rfl,by decide +kernel,by decide +kernel⟩
theorem ok_is_kept{f:Addr}{fd:FuncData}(F:Fun K "is_kept" "Pieces.is_kept" qF f fd)(T:Glb K mg A):FnOk P w K mg base CX0 1 f fd ["self","i","j"] (jc A):=by
  refine F.ok sc_Pieces_is_kept (fun vs H Q E h=>?_) (fun cdv Ar outer s H vs Q E hr h=>?_)
  . obtain⟨ps,kd,g,da,cd,s,i,j,rfl,_⟩:=h
    rfl
  . obtain⟨ps,kd,g,da,cd,s0,i,j,rfl,C,k⟩:=h
    have hu:=ZB hr
    obtain⟨⟨dx,h1⟩,⟨kvs,h2,h3⟩,_⟩:=C
    refine⟨_,(zD (zH (zCO (zBb hu (zu (zA (pv 1) (zA (pv 2) zC))) (zF (pv 0) rfl))))),?_⟩
    refine st0 (σ0:=[some _,some _,some _]) rfl ?_
    try dsimp only[cxOf]
    walk_at "rd"
    walk_at "new"
    rename_i t ht H1 f1 s1
    have h11:=s1 _ _ h1
    have h21:=s1 _ _ h2
    walk_at "rd"
    have f1':H1 t=some (.tup ((key2 i j).map kV)):=f1
    refine jI (DGet.t h21 f1') ?_
    have q:=k _ s1
    rcases h3.find (key2 i j) with⟨z1,z2⟩|⟨v,c,z1,z2,_⟩
    . rw[Zx] at z2
      rw[z2] at q
      rw[z1]
      exact q
    . rw[Zx] at z2
      rw[z2] at q
      rw[z1]
      exact q
def Ext3(da kd ps:Addr)(H H':Hp):Prop:=∀b o,H b=some o->b≠da->b≠kd->b≠ps->H' b=some o
theorem Ext3.trans{da kd ps:Addr}{H H1 H2:Hp}(a:Ext3 da kd ps H H1)(b:Ext3 da kd ps H1 H2):Ext3 da kd ps H H2:=fun c o h n1 n2 n3=>b c o (a c o h n1 n2 n3) n1 n2 n3
theorem Ext3.same{da kd ps:Addr}{H H1:Hp}(a:Same H H1):Ext3 da kd ps H H1:=fun c o h _ _ _=>a c o h
theorem Ext3.da{da kd ps:Addr}{H H1:Hp}(a:Ext da H H1):Ext3 da kd ps H H1:=fun c o h n _ _=>a c o h n
theorem Ext3.kd{da kd ps:Addr}{H H1:Hp}(a:Ext kd H H1):Ext3 da kd ps H H1:=fun c o h _ n _=>a c o h n
theorem Ext3.ps{da kd ps:Addr}{H H1:Hp}(a:Ext ps H H1):Ext3 da kd ps H H1:=fun c o h _ _ n=>a c o h n
def sp_look(A:Ads):Sp:=fun vs H Q _=>∃(ps kd g da cd:Addr) (s:Vbwsan.State) (i j:Nat),vs=[.ref ps,.int i,.int j]/\PcAt A H ps kd g da cd s/\GrAt A H g da s.seed s.w s.d/\kd≠da/\kd≠cd/\(∃o,H cd=some o)/\1<=s.cap/\s.cap<=8/\8*i+8<=s.w/\8*j+8<=s.d/\
  ∀H' pd,PcAt A H' ps kd g da cd (Vbwsan.look s i j).1->GrAt A H' g da s.seed s.w s.d->MadeAt s.seed s.w s.d H' pd (box (8*i) (8*j) 8 8)->Ext3 da kd ps H H'->Q (.ref pd) H'
theorem JL{s:Vbwsan.State}{i j:Nat}{p:Vbwsan.Piece}(h:pcFind s.pieces i j=some p):Vbwsan.look s i j=({ s with pieces:=(s.pieces.filter fun q=>!(q.i==i&&q.j==j))++[p] },p):=by
  unfold pcFind at h
  unfold Vbwsan.look
  rw[h]
theorem JM{s:Vbwsan.State}{i j:Nat}(h:pcFind s.pieces i j=none):Vbwsan.look s i j=({ s with pieces:=(s.pieces++[(⟨i,j,Vbwsan.madePiece s.seed s.w s.d i j⟩:Vbwsan.Piece)]).drop ((s.pieces++[(⟨i,j,Vbwsan.madePiece s.seed s.w s.d i j⟩:Vbwsan.Piece)]).length - s.cap),made:=s.made+1 },⟨i,j,Vbwsan.madePiece s.seed s.w s.d i j⟩):=by
  unfold pcFind at h
  unfold Vbwsan.look
  rw[h]
theorem filter_key{l:List Vbwsan.Piece}{p:Vbwsan.Piece}(hn:((p::l).map pKey).Nodup):(p::l).filter (fun q=>!decide (pKey q=pKey p))=l:=by
  rw[List.filter_cons,if_neg (by simp)]
  refine List.filter_eq_self.mpr fun q hq=>?_
  have:=(List.nodup_cons.mp hn).1
  have hne:¬ pKey q=pKey p:=fun e=>this (List.mem_map.mpr ⟨q,hq,e⟩)
  rw[decide_eq_false hne]
  rfl
abbrev s_Pieces_look:Stmt:=inClass (top 41) 3
theorem qp:FnScope ["self","i","j","piece"] ["self","i","j"] (defScope s_Pieces_look):=⟨rfl,rfl,rfl,by decide +kernel,rfl,by decide +kernel,by decide +kernel⟩
theorem ok_look {f : Addr} {fd : FuncData} (F : Fun K "look" "Pieces.look" s_Pieces_look f fd) (T : Glb K mg A) (f_made_piece : FnAt P w K mg base 13 "made_piece" ["ground", "i", "j"] (sp_made_piece A)) : FnOk P w K mg base CX0 14 f fd ["self", "i", "j"] (sp_look A) := by
  refine F.ok qp (fun vs H Q E h=>?_) (fun cdv Ar outer s H vs Q E hr h=>?_)
  . obtain⟨ps,kd,g,da,cd,s,i,j,rfl,_⟩:=h
    rfl
  . obtain ⟨ps, kd, g, da, cd, s0, i, j, rfl, C, G, n1, n2, ⟨ocd, hcd⟩, cap1, cap8, hi, hj, k⟩ := h
    have hu:=ZB hr
    obtain⟨⟨dx,h1⟩,⟨kvs,h2,h3⟩,h4,h5,h6⟩:=id C
    have nps:ps≠kd:=za h1 h2 (by intro z;cases z)
    have npd:ps≠da:=by obtain⟨kk,z,_⟩:=G.cor;exact za h1 z (by intro z;cases z)
    have ngk:g≠kd:=by obtain⟨dg,z⟩:=G.ins;exact za z h2 (by intro z;cases z)
    have ngp:g≠ps:=by obtain⟨dg,z⟩:=G.ins;exact za z h1 (zBd (f:="seed") rfl rfl)
    refine⟨_,(zB (zG (i:=3) qp.nd rfl (Or.inl rfl) (zAW hu (zF (pv 0) rfl) (zu (zA (pv 1) (zA (pv 2) zC))) QR ⟨rfl,rfl,rfl,rfl⟩))
      (zB (zf (zn zCP (pv 3) QR (nomark _)) (zB (zG (i:=3) qp.nd rfl (Or.inl rfl) (zV f_made_piece hr (zA (zF (pv 0) rfl) (zA (pv 1) (zA (pv 2) zC)))))
      (zD (ps_fldaug (pv 0) zE in_add))) zP)
      (zB (Qv hu (zF (pv 0) rfl) (zu (zA (pv 1) (zA (pv 2) zC))) (pv 3) rfl)
      (zB (zf (zn zBM (zU QD (by rfl) T.b_len PySem.boot_len (zA (zF (pv 0) rfl) zC)) (zF (pv 0) rfl) (nomark _)) (zD (zo (zAX hu (zF (pv 0) rfl) (zN zO (pe_callTy (call_listDT rfl) (by rfl) T.b_list (by decide +kernel) (zA (zF (pv 0) rfl) zC)) zE (fun _ _=>rfl)) ⟨rfl,rfl,rfl,rfl⟩))) zP)
      (zD (zH (pv 3))))))),?_⟩
    refine st0 (σ0:=[some _,some _,some _,none]) rfl ?_
    try dsimp only[cxOf]
    walk_at "rd"
    walk_at "new"
    rename_i t ht H1 f1 s1
    have h11:=s1 _ _ h1
    have h21:=s1 _ _ h2
    have G1:=G.same s1
    have f1':H1 t=some (.tup ((key2 i j).map kV)):=f1
    have h31:DMap (PcV s0.seed s0.w s0.d (bad3 da kd cd)) pKey H1 kvs s0.pieces:=h3.imp fun kv a r=>⟨r.1,r.2.keep s1.keeps fun b z hb _=>s1 _ _ hb⟩
    walk_at "rd"
    have rest : ∀ (H2 : Hp) (pd : Addr) (kv2 : List (List Key × V)) (p : Vbwsan.Piece) (ps0 : List Vbwsan.Piece) (md : Nat), H2 kd = some (.dT kv2) → (∃ dx, H2 ps = some (.ins A.C_Pieces dx [("ground", .ref g), ("room", .int s0.cap), ("made_count", .int md), ("kept", .ref kd)])) →
        DMap (PcV s0.seed s0.w s0.d (bad3 da kd cd)) pKey H2 kv2 ps0->PcV s0.seed s0.w s0.d (bad3 da kd cd) H2 (.ref pd) p->p.i=i->p.j=j->ps0.find? (fun q=>decide (pKey q=pKey p))=none->((ps0++[p]).map pKey).Nodup->ps0.length<=s0.cap->
        (∀q∈ps0++[p],8*q.i+8<=s0.w/\8*q.j+8<=s0.d)->GrAt A H2 g da s0.seed s0.w s0.d->Ext3 da kd ps H H2->(Vbwsan.look s0 i j).1={ s0 with pieces:=(ps0++[p]).drop ((ps0++[p]).length - s0.cap),made:=md }->
        tSeq (sDPut (tFld K (tVar 0) "kept") (tTup (tCons (tVar 1) (tCons (tVar 2) tNil))) (tVar 3)) (tSeq (tIfS (tTest (tOp (rI0 fun i j=>V.bl (decide (j<i))) (tCB (fun xs H Q=>∃a kvs,xs=[V.ref a]/\H a=some (HO.dT kvs)/\Q (V.int kvs.length) H) (tCons (tFld K (tVar 0) "kept") tNil)) (tFld K (tVar 0) "room")))
          (tDrop (tDPop1T (tFld K (tVar 0) "kept") (tOp (rIxL K) (tCB (fun xs H Q=>∃a kvs,xs=[V.ref a]/\H a=some (HO.dT kvs)/\∀(l:Addr) (ps:List Addr),H l=none->Paired (fun p (kv:List Key×V)=>H p=some (HO.tup (kv.1.map kV))) ps kvs->Q (V.ref l) (upd H l (HO.lst (ps.map V.ref)))) (tCons (tFld K (tVar 0) "kept") tNil)) (tC (V.int 0))))) tNext) (tRet (tVar 3)))
          { nx:=fun x H'=>Q V.non H',rt:=Q } [some (V.ref ps),some (V.int i),some (V.int j),some (V.ref pd)] H2:=by
      rintro H2 pd kv2 p ps0 md m2 ⟨dx2,g2⟩ d2 v2 rfl rfl fn nd2 le2 rg2 G2 e2 lk
      walk_at "rd"
      walk_at "new"
      rename_i t2 ht2 H3 f3 s3
      have m3:=s3 _ _ m2
      have f3':H3 t2=some (.tup ((pKey p).map kV)):=f3
      have d3:DMap (PcV s0.seed s0.w s0.d (bad3 da kd cd)) pKey H3 kv2 ps0:=d2.imp fun kv a r=>⟨r.1,r.2.keep s3.keeps fun b z hb _=>s3 _ _ hb⟩
      have v3:=v2.keep s3.keeps (fun b z hb _=>s3 _ _ hb:DKeeps (bad3 da kd cd) H2 H3)
      refine qz (DPut.t m3 f3' (by rw[d3.len];exact small (by omega))) ?_
      have hnone:=d3.val_none fn
      apply ZI
      intro H4 z4 m4 e4
      rw[z4]
      clear z4
      have k4:Keeps H3 H4:=e4.keeps m3 (fun z=>z)
      have dk4:DKeeps (bad3 da kd cd) H3 H4:=fun b z hb n=>e4 _ _ hb fun q=>n (.inr (.inl q))
      have d4:DMap (PcV s0.seed s0.w s0.d (bad3 da kd cd)) pKey H4 (putK kv2 (pKey p) (.ref pd)) (ps0++[p]):=(d3.put hnone v3).imp fun kv a r=>⟨r.1,r.2.keep k4 dk4⟩
      have g4:=e4 _ _ (s3 _ _ g2) nps
      have G4:GrAt A H4 g da s0.seed s0.w s0.d:=by
        obtain⟨⟨dg,z1⟩,⟨kg,z2,z3⟩,z5,z6⟩:=G2.same s3
        exact⟨⟨dg,e4 _ _ z1 ngk⟩,⟨kg,e4 _ _ z2 (Ne.symm n1),z3⟩,z5,z6⟩
      have eH4:Ext3 da kd ps H H4:=(e2.trans (.same s3)).trans (.kd e4)
      have ml4:∃kk,H4 pd=some (.dT kk)/\DMap (MadeV s0.seed s0.w s0.d) cKey H4 kk (box (8*p.i) (8*p.j) 8 8):=by
        obtain⟨pd',z1,z2,z3,_⟩:=v3.keep k4 dk4
        cases z1
        exact z3
      generalize hkv4:putK kv2 (pKey p) (.ref pd)=kv4 at m4 d4
      have l4:=d4.len
      walk_at "rd"
      refine⟨kd,kv4,rfl,m4,?_⟩
      walk_at "rd"
      with_reducible refine zR (fun z=>?_) (fun z=>?_)
      . rw[decide_eq_true_iff] at z
        have hlen:(ps0++[p]).length=s0.cap+1:=by
          rw[List.length_append] at l4 ⊢
          simp only[List.length_cons,List.length_nil] at l4 ⊢
          omega
        walk_at "rd"
        refine⟨kd,kv4,rfl,m4,fun l as hl pz=>?_⟩
        apply Ze hl
        intro H5 z5 f5 s5
        rw[z5]
        clear z5
        have m5:=s5 _ _ m4
        obtain⟨p0,pr,ep⟩:∃p0 pr,ps0++[p]=p0::pr:=by
          cases ps0 with
          |nil=>exact⟨p,[],rfl⟩
          |cons a b=>exact⟨a,b++[p],rfl⟩
        rw[ep] at d4
        obtain⟨kv0,kvr,ekv,a0,asr,eas,ha0⟩:∃kv0 kvr,kv4=kv0::kvr/\∃a0 asr,as=a0::asr/\H4 a0=some (.tup (kv0.1.map kV)):=by
          cases d4 with
          | cons r t =>
            cases pz with
            |cons r2 t2=>exact⟨_,_,rfl,_,_,rfl,r2⟩
        subst ekv
        subst eas
        have k0:kv0.1=pKey p0:=by
          cases d4 with
          |cons r t=>exact r.1
        have ha5:=s5 _ _ ha0
        rw[k0] at ha5
        have hix:rIxL K (V.ref l) (V.int 0) H5 (dp1b (fun _ H1=>tRet (tVar 3) { nx:=fun x H'=>Q V.non H',rt:=Q } [some (V.ref ps),some (V.int p.i),some (V.int p.j),some (V.ref pd)] H1) kd):=by
          refine QQ (SqL.of f5) (j4 (j:=0) (v:=V.ref a0) rfl rfl) ?_
          refine zAS m5 ha5 (Q6 k0) ?_
          apply ZI
          intro H6 z6 m6 e6
          rw[z6]
          clear z6
          have k6:Keeps H5 H6:=e6.keeps m5 (fun z=>z)
          have dk6:DKeeps (bad3 da kd cd) H5 H6:=fun b z hb n=>e6 _ _ hb fun q=>n (.inr (.inl q))
          walk_at "rd"
          have d5:DMap (PcV s0.seed s0.w s0.d (bad3 da kd cd)) pKey H5 (kv0::kvr) (p0::pr):=d4.imp fun kv a r=>⟨r.1,r.2.keep s5.keeps fun b z hb _=>s5 _ _ hb⟩
          have d6:DMap (PcV s0.seed s0.w s0.d (bad3 da kd cd)) pKey H6 (dropK (kv0::kvr) (pKey p0)) ((p0::pr).filter fun q=>!decide (pKey q=pKey p0)):=(d5.drop (pKey p0)).imp fun kv a r=>⟨r.1,r.2.keep k6 dk6⟩
          rw[ep] at nd2 hlen rg2 lk
          rw[filter_key nd2] at d6
          have ed:(p0::pr).drop ((p0::pr).length - s0.cap)=pr:=by rw[hlen,show s0.cap+1 - s0.cap=1 by omega];rfl
          have lp:pr.length=s0.cap:=by simpa using hlen
          refine k _ pd ?_ ?_ ?_ ?_
          . rw[lk,ed]
            exact⟨⟨dx2,e6 _ _ (s5 _ _ g4) nps⟩,⟨_,m6,d6⟩,(List.nodup_cons.mp nd2).2,Nat.le_of_eq lp,fun q hq=>rg2 q (List.mem_cons_of_mem _ hq)⟩
          . obtain⟨⟨dg,z1⟩,⟨kg,z2,z3⟩,z5,z6⟩:=G4.same s5
            exact⟨⟨dg,e6 _ _ z1 ngk⟩,⟨kg,e6 _ _ z2 (Ne.symm n1),z3⟩,z5,z6⟩
          . obtain⟨kk,z1,z2⟩:=ml4
            have npk:pd≠kd:=by
              obtain⟨pd',y1,y2,_⟩:=v2
              cases y1
              exact fun q=>y2 (.inr (.inl q))
            exact⟨kk,e6 _ _ (s5 _ _ z1) npk,z2.keep ZH (s5.keeps.trans k6)⟩
          . exact(eH4.trans (.same s5)).trans (.kd e6)
        exact hix
      . rw[decide_eq_false_iff_not] at z
        have hlen:(ps0++[p]).length<=s0.cap:=by omega
        walk_at "rd"
        have ed:(ps0++[p]).drop ((ps0++[p]).length - s0.cap)=ps0++[p]:=by rw[show(ps0++[p]).length - s0.cap=0 by omega];rfl
        refine k _ pd ?_ G4 ml4 eH4
        rw[lk,ed]
        exact⟨⟨dx2,g4⟩,⟨_,m4,d4⟩,nd2,hlen,rg2⟩
    have hfind:=h31.find (key2 i j)
    rw[Zx] at hfind
    refine zAR h21 f1' (fun v hv=>?_) (fun hv=>?_)
    . rcases hfind with⟨z1,_⟩|⟨v',p,z1,z2,pd,rfl,z3⟩
      . rw[hv] at z1;cases z1
      . rw[hv] at z1
        cases z1
        have hpm:=List.mem_of_find?_eq_some (show s0.pieces.find? _=some p from z2)
        have hpij:p.i=i/\p.j=j:=by
          have:=List.find?_some (show s0.pieces.find? _=some p from z2)
          rw[Bool.and_eq_true,beq_iff_eq,beq_iff_eq] at this
          exact this
        apply ZI
        intro H2 zz m2 e2
        rw[zz]
        clear zz
        have k2:Keeps H1 H2:=e2.keeps h21 (fun z=>z)
        have dk2:DKeeps (bad3 da kd cd) H1 H2:=fun b z hb n=>e2 _ _ hb fun q=>n (.inr (.inl q))
        iterate 11 walk_at "r1"
        have hk:pKey p=key2 i j:=by rw[<-hpij.1,<-hpij.2]
        have nn:∀q∈s0.pieces.filter (fun q=>!decide (pKey q=key2 i j)),¬ pKey q=key2 i j:=fun q hq=>by
          have:=(List.mem_filter.mp hq).2
          rw[Bool.not_eq_true',decide_eq_false_iff_not] at this
          exact this
        have hlt:(s0.pieces.filter (fun q=>!decide (pKey q=key2 i j))).length<s0.pieces.length:=List.length_filter_lt_length_iff_exists.mpr ⟨p,hpm,by rw[decide_eq_true hk];decide⟩
        refine rest H2 pd _ p (s0.pieces.filter (fun q=>!decide (pKey q=key2 i j))) s0.made m2 ⟨dx,e2 _ _ h11 nps⟩ ((h31.drop _).imp fun kv a r=>⟨r.1,r.2.keep k2 dk2⟩) (PcV.keep ⟨pd,rfl,z3⟩ k2 dk2) hpij.1 hpij.2 ?_ ?_ ?_ ?_ ?_ ?_ ?_
        . rw[List.find?_eq_none]
          intro q hq z
          rw[hk] at z
          exact nn q hq (of_decide_eq_true z)
        . rw[List.map_append,List.nodup_append]
          refine⟨h4.sublist (List.Sublist.map _ List.filter_sublist),by simp,fun a ha b hb e=>?_⟩
          obtain⟨q,hq,rfl⟩:=List.mem_map.mp ha
          simp at hb
          rw[hb] at e
          exact nn q hq (e.trans hk)
        . omega
        . intro q hq
          rcases List.mem_append.mp hq with hq|hq
          . exact h6 q (List.mem_filter.mp hq).1
          . rw[List.mem_singleton.mp hq,hpij.1,hpij.2];exact⟨hi,hj⟩
        . obtain⟨⟨dg,z1⟩,⟨kg,z4,z5⟩,z6,z7⟩:=G1
          exact⟨⟨dg,e2 _ _ z1 ngk⟩,⟨kg,e2 _ _ z4 (Ne.symm n1),z5⟩,z6,z7⟩
        . exact(Ext3.same s1).trans (.kd e2)
        . rw[JL z2,<-JI]
          have:(s0.pieces.filter (fun q=>!decide (pKey q=key2 i j))++[p]).length - s0.cap=0:=by
            rw[List.length_append]
            simp only[List.length_cons,List.length_nil]
            omega
          rw[this]
          rfl
    . rcases hfind with⟨_,z2⟩|⟨v',p,z1,_⟩
      . walk_at "rd"
        refine⟨g,da,s0.seed,s0.w,s0.d,i,j,rfl,G1,hi,hj,fun H2 pd G2 e2 hpd npd2 md2=>?_⟩
        have h22:=e2 _ _ h21 n1
        have h12:=e2 _ _ h11 npd
        have k2:Keeps H1 H2:=Ext.keepsG G1 e2
        have dk2:DKeeps (bad3 da kd cd) H1 H2:=fun b z hb n=>e2 _ _ hb fun q=>n (.inl q)
        walk_at "rd"
        refine rd_faug1 h12 T.c_Pieces T.n_Pieces_made_count rfl ?_
        walk_at "rd"
        refine rd_faug2 h12 (Nat.le_of_ble_eq_true rfl) ?_
        apply ZI
        intro H3 z3 m3 e3
        rw[z3]
        clear z3
        have dk3:∀b kk,H2 b=some (.dT kk)->H3 b=some (.dT kk):=fun b kk hb=>e3 _ _ hb (za hb h12 (by intro z;cases z))
        have tk3:∀b ys,H2 b=some (.tup ys)->H3 b=some (.tup ys):=fun b ys hb=>e3 _ _ hb (za hb h12 (by intro z;cases z))
        have mk3:∀{pd0:Addr} {cs:List (Nat×Nat)},MadeAt s0.seed s0.w s0.d H2 pd0 cs->MadeAt s0.seed s0.w s0.d H3 pd0 cs:=fun {pd0 cs} ⟨kk,y1,y2⟩=>⟨kk,dk3 _ _ y1,y2.imp fun kv a r=>⟨r.1,let ⟨tt,y3,y4⟩:=r.2;⟨tt,y3,tk3 _ _ y4⟩⟩⟩
        have pk3:∀{v:V} {q:Vbwsan.Piece},PcV s0.seed s0.w s0.d (bad3 da kd cd) H2 v q->PcV s0.seed s0.w s0.d (bad3 da kd cd) H3 v q:=fun {v q} ⟨p0,y1,y2,y3,y4⟩=>⟨p0,y1,y2,mk3 y3,y4⟩
        have hb3:¬ bad3 da kd cd pd:=by
          rintro (q|q|q)
          . exact npd2 q
          . rw[q,h21] at hpd;cases hpd
          . rw[q,s1 _ _ hcd] at hpd;cases hpd
        have hno:∀q∈s0.pieces,¬ pKey q=key2 i j:=fun q hq z=>by
          rw[<-Zx,List.find?_eq_none] at z2
          exact z2 q hq (decide_eq_true z)
        refine rest H3 pd kvs ⟨i,j,Vbwsan.madePiece s0.seed s0.w s0.d i j⟩ s0.pieces (s0.made+1) (dk3 _ _ h22) ⟨dx,m3⟩ (h31.imp fun kv a r=>⟨r.1,pk3 (r.2.keep k2 dk2)⟩) ⟨pd,rfl,hb3,mk3 md2,rfl⟩ rfl rfl ?_ ?_ h5 ?_ ?_ ?_ ?_
        . rw[List.find?_eq_none]
          exact fun q hq z=>hno q hq (of_decide_eq_true z)
        . rw[List.map_append,List.nodup_append]
          refine⟨h4,by simp,fun a ha b hb e=>?_⟩
          obtain⟨q,hq,rfl⟩:=List.mem_map.mp ha
          simp at hb
          rw[hb] at e
          exact hno q hq e
        . intro q hq
          rcases List.mem_append.mp hq with hq|hq
          . exact h6 q hq
          . rw[List.mem_singleton.mp hq];exact⟨hi,hj⟩
        . obtain⟨⟨dg,z1⟩,⟨kg,z4,z5⟩,z6,z7⟩:=G2
          exact⟨⟨dg,e3 _ _ z1 ngp⟩,⟨kg,dk3 _ _ z4,z5⟩,z6,z7⟩
        . exact((Ext3.same s1).trans (.da e2)).trans (.ps e3)
        . rw[JM z2]
      . rw[hv] at z1;cases z1
def JA(A:Ads):Sp:=fun vs H Q _=>∃(ps kd g da cd:Addr) (s:Vbwsan.State) (i j:Nat),vs=[.ref ps,.int i,.int j]/\PcAt A H ps kd g da cd s/\(pcFind s.pieces i j).isSome=true/\
  ∀H',PcAt A H' ps kd g da cd { s with pieces:=s.pieces.filter fun q=>!(q.i==i&&q.j==j) }->Ext kd H H'->Q .non H'
abbrev qe:Stmt:=inClass (top 41) 4
theorem sc_Pieces_forget:FnScope ["self","i","j"] ["self","i","j"] (defScope qe):=⟨rfl,rfl,rfl,by decide +kernel,rfl,by decide +kernel,by decide +kernel⟩
theorem ok_forget{f:Addr}{fd:FuncData}(F:Fun K "forget" "Pieces.forget" qe f fd)(T:Glb K mg A):FnOk P w K mg base CX0 1 f fd ["self","i","j"] (JA A):=by
  refine F.ok sc_Pieces_forget (fun vs H Q E h=>?_) (fun cdv Ar outer s H vs Q E hr h=>?_)
  . obtain⟨ps,kd,g,da,cd,s,i,j,rfl,_⟩:=h
    rfl
  . obtain⟨ps,kd,g,da,cd,s0,i,j,rfl,C,hf,k⟩:=h
    have hu:=ZB hr
    obtain⟨⟨dx,h1⟩,⟨kvs,h2,h3⟩,h4,h5,h6⟩:=id C
    have nps:ps≠kd:=za h1 h2 (by intro z;cases z)
    refine⟨_,(zD (zo (zAX hu (zF (pv 0) rfl) (zu (zA (pv 1) (zA (pv 2) zC))) ⟨rfl,rfl,rfl,rfl⟩))),?_⟩
    refine st0 (σ0:=[some _,some _,some _]) rfl ?_
    try dsimp only[cxOf]
    walk_at "rd"
    walk_at "new"
    rename_i t ht H1 f1 s1
    have h11:=s1 _ _ h1
    have h21:=s1 _ _ h2
    have f1':H1 t=some (.tup ((key2 i j).map kV)):=f1
    have h31:DMap (PcV s0.seed s0.w s0.d (bad3 da kd cd)) pKey H1 kvs s0.pieces:=h3.imp fun kv a r=>⟨r.1,r.2.keep s1.keeps fun b z hb _=>s1 _ _ hb⟩
    walk_at "rd"
    rcases h31.find (key2 i j) with⟨_,z2⟩|⟨v,p,z1,z2,_⟩
    . rw[Zx] at z2
      rw[z2] at hf
      cases hf
    . refine zAS h21 f1' z1 ?_
      apply ZI
      intro H2 zz m2 e2
      rw[zz]
      clear zz
      have k2:Keeps H1 H2:=e2.keeps h21 (fun z=>z)
      have dk2:DKeeps (bad3 da kd cd) H1 H2:=fun b z hb n=>e2 _ _ hb fun q=>n (.inr (.inl q))
      walk_at "rd"
      refine k _ ⟨⟨dx,e2 _ _ h11 nps⟩,⟨_,m2,?_⟩,h4.sublist (List.Sublist.map _ List.filter_sublist),Nat.le_trans (List.length_filter_le _ _) h5,fun q hq=>h6 q (List.mem_filter.mp hq).1⟩ (Ext.sameR s1 e2)
      show DMap _ _ _ _ (s0.pieces.filter _)
      rw[<-JI]
      exact(h31.drop _).imp fun kv a r=>⟨r.1,r.2.keep k2 dk2⟩
end
end Gs
namespace Gs
open PySem PySem.Spec PyProof.Rows L2
def worldF(g ps ch:Addr):List (Str×V):=[("ground",.ref g),("pieces",.ref ps),("changes",.ref ch)]
structure WoX(A:Ads)(H:Hp)(wd g da ps kd ch cd:Addr)(s:Vbwsan.State):Prop where
  ins:∃dx,H wd=some (.ins A.C_World dx (worldF g ps ch))
  gr:GrAt A H g da s.seed s.w s.d
  pc:PcAt A H ps kd g da cd s
  ch:ChAt A H ch cd s.changes
  n1:kd≠da
  n2:cd≠da
  n3:kd≠cd
  cap:1<=s.cap/\s.cap<=8
theorem WoX.ext{A:Ads}{H H':Hp}{wd g da ps kd ch cd:Addr}{s:Vbwsan.State}(W:WoX A H wd g da ps kd ch cd s)(e:Ext da H H')(G:GrAt A H' g da s.seed s.w s.d):WoX A H' wd g da ps kd ch cd s:=by
  obtain⟨⟨dx,h1⟩,h2,h3,h4,n1,n2,n3,h5⟩:=W
  have k:=Ext.keepsG h2 e
  exact⟨⟨dx,k _ _ h1 trivial⟩,G,h3.keep k (fun b kvs hb n=>e _ _ hb n) n1,h4.keep k fun kvs hb=>e _ _ hb n2,n1,n2,n3,h5⟩
theorem WoX.same{A:Ads}{H H':Hp}{wd g da ps kd ch cd:Addr}{s:Vbwsan.State}(W:WoX A H wd g da ps kd ch cd s)(e:Same H H'):WoX A H' wd g da ps kd ch cd s:=W.ext e.ext (W.gr.same e)
theorem WoX.grow{A:Ads}{H:Hp}{wd g da ps kd ch cd l:Addr}{s:Vbwsan.State}{ts:List V}{o:HO}(W:WoX A H wd g da ps kd ch cd s)(hl:H l=some (.lst ts)):WoX A (upd H l o) wd g da ps kd ch cd s:=by
  obtain⟨⟨dx,h1⟩,h2,h3,h4,n1,n2,n3,h5⟩:=W
  have k:Keeps H (upd H l o):=ZW hl (fun z=>z)
  have dk:∀b kvs,H b=some (.dT kvs)->upd H l o b=some (.dT kvs):=fun b kvs hb=>by rw[zI (za hb hl (by intro z;cases z))];exact hb
  exact⟨⟨dx,k _ _ h1 trivial⟩,h2.grow hl,h3.keep k (fun b kvs hb n=>dk _ _ hb) n1,h4.keep k fun kvs hb=>dk _ _ hb,n1,n2,n3,h5⟩
section
variable{P:Program}{w:World}{K:PySem.W.Frag}{mg:Str->Option Value}{base:Heap}{A:Ads}
theorem zBz(s:Vbwsan.State)(x y:Nat):chUp s.changes x y=Gm.upOf (Vbwsan.changeAt s x y):=by
  unfold chUp chFind Gm.upOf Vbwsan.changeAt
  cases s.changes.find? fun c=>c.x==x&&c.y==y<;>rfl
theorem chKind_eq(s:Vbwsan.State)(x y:Nat):chKind s.changes x y=Gm.kindOf (Vbwsan.changeAt s x y):=by
  unfold chKind chFind Gm.kindOf Vbwsan.changeAt
  cases s.changes.find? fun c=>c.x==x&&c.y==y<;>rfl
def sp_raised(A:Ads):Sp:=fun vs H Q _=>∃(wd g ps ch cd dx:Addr) (cs:List Vbwsan.Change) (m x y:Nat),vs=[.ref wd,.int m,.int x,.int y]/\H wd=some (.ins A.C_World dx (worldF g ps ch))/\ChAt A H ch cd cs/\
  ∀H',Same H H'->Q (.int (max 0 (min 9999 ((m:Int)+chUp cs x y)))) H'
abbrev qx:Stmt:=inClass (top 65) 2
theorem Q3:FnScope ["self","made","x","y","height"] ["self","made","x","y"] (defScope qx):=⟨rfl,rfl,rfl,by decide +kernel,rfl,by decide +kernel,by decide +kernel⟩
theorem ok_raised{f:Addr}{fd:FuncData}(F:Fun K "raised" "World.raised" qx f fd)(T:Glb K mg A)(m_Changes_up_at:MtAt P w K mg base 1 A.C_Changes "up_at" ["self","x","y"] (QU A)):FnOk P w K mg base CX0 2 f fd ["self","made","x","y"] (sp_raised A):=by
  refine F.ok Q3 (fun vs H Q E h=>?_) (fun cdv Ar outer s H vs Q E hr h=>?_)
  . obtain⟨wd,g,ps,ch,cd,dx,cs,m,x,y,rfl,_⟩:=h
    rfl
  . obtain⟨wd,g,ps,ch,cd,dx,cs,m,x,y,rfl,hw,C,k⟩:=h
    obtain⟨dc,hc⟩:=C.ins
    refine⟨_,(zB (zG (i:=4) Q3.nd rfl (Or.inl rfl) (zK zW (pv 1) (zT (zF (pv 0) rfl) T.c_Changes m_Changes_up_at hr (zA (pv 2) (zA (pv 3) zC)))))
      (zD (zH (zU (JS rfl) (by rfl) T.b_max (by decide +kernel) (zA (zM T.g_LOWEST) (zA (zU (JR rfl) (by rfl) T.b_min (by decide +kernel) (zA (zM T.g_HIGHEST) (zA (pv 4) zC))) zC)))))),?_⟩
    refine st0 (σ0:=[some _,some _,some _,some _,none]) rfl ?_
    try dsimp only[cxOf]
    walk_at "rd"
    refine⟨ch,cd,cs,x,y,rfl,C,fun H1 s1=>?_⟩
    walk_at "rd"
    exact k _ s1
def ZV(A:Ads):Sp:=fun vs H Q _=>∃(wd g da ps kd ch cd:Addr) (s:Vbwsan.State) (x y:Nat),vs=[.ref wd,.int x,.int y]/\WoX A H wd g da ps kd ch cd s/\x<=35/\y<=35/\
  ∀H',WoX A H' wd g da ps kd ch cd s->Ext da H H'->Q (.int (Vbwsan.heightAt s x y:Nat)) H'
abbrev Zr:Stmt:=inClass (top 65) 3
theorem sc_World_height_now:FnScope ["self","x","y"] ["self","x","y"] (defScope Zr):=⟨rfl,rfl,rfl,by decide +kernel,rfl,by decide +kernel,by decide +kernel⟩
theorem ok_height_now{f:Addr}{fd:FuncData}(F:Fun K "height_now" "World.height_now" Zr f fd)(T:Glb K mg A)(m_World_raised:MtAt P w K mg base 2 A.C_World "raised" ["self","made","x","y"] (sp_raised A))
    (m_Ground_made_height:MtAt P w K mg base 6 A.C_Ground "made_height" ["self","x","y"] (ZD A)):FnOk P w K mg base CX0 7 f fd ["self","x","y"] (ZV A):=by
  refine F.ok sc_World_height_now (fun vs H Q E h=>?_) (fun cdv Ar outer s H vs Q E hr h=>?_)
  . obtain⟨wd,g,da,ps,kd,ch,cd,s,x,y,rfl,_⟩:=h
    rfl
  . obtain⟨wd,g,da,ps,kd,ch,cd,s0,x,y,rfl,W,hx,hy,k⟩:=h
    obtain⟨dx,hw⟩:=W.ins
    obtain⟨dg,hg⟩:=W.gr.ins
    refine⟨_,(zD (zH (zT (pv 0) T.c_World m_World_raised hr (zA (zT (zF (pv 0) rfl) T.c_Ground m_Ground_made_height hr (zA (pv 1) (zA (pv 2) zC))) (zA (pv 1) (zA (pv 2) zC)))))),?_⟩
    refine st0 (σ0:=[some _,some _,some _]) rfl ?_
    try dsimp only[cxOf]
    walk_at "rd"
    refine⟨g,da,s0.seed,s0.w,s0.d,x,y,rfl,W.gr,hx,hy,fun H1 G1 e1=>?_⟩
    have W1:=W.ext e1 G1
    obtain⟨dx1,hw1⟩:=W1.ins
    walk_at "rd"
    refine⟨wd,g,ps,ch,cd,dx1,s0.changes,_,x,y,rfl,hw1,W1.ch,fun H2 s2=>?_⟩
    have q:=k _ (W1.same s2) (e1.sameL s2)
    rw[Gm.height_eq,<-zBz] at q
    exact q
def sp_height_of(A:Ads):Sp:=fun vs H Q _=>∃(wd g da ps kd ch cd:Addr) (s:Vbwsan.State) (n:Nat),vs=[.ref wd,.int n]/\WoX A H wd g da ps kd ch cd s/\n<s.w*s.d/\
  ∀H',WoX A H' wd g da ps kd ch cd s->Ext da H H'->Q (.int (Vbwsan.heightAt s (n%s.w) (n / s.w):Nat)) H'
theorem zCA{w d n:Nat}(hw:0<w)(hn:n<w*d):n%w<w/\n / w<d:=⟨Nat.mod_lt _ hw,Nat.div_lt_of_lt_mul hn⟩
abbrev Z4:Stmt:=inClass (top 65) 4
theorem qo:FnScope ["self","number","place"] ["self","number"] (defScope Z4):=⟨rfl,rfl,rfl,by decide +kernel,rfl,by decide +kernel,by decide +kernel⟩
theorem ok_height_of{f:Addr}{fd:FuncData}(F:Fun K "height_of" "World.height_of" Z4 f fd)(T:Glb K mg A)(m_World_height_now:MtAt P w K mg base 7 A.C_World "height_now" ["self","x","y"] (ZV A))
    (f_place_of:FnAt P w K mg base 1 "place_of" ["ground","number"] (sp_place_of A)):FnOk P w K mg base CX0 8 f fd ["self","number"] (sp_height_of A):=by
  refine F.ok qo (fun vs H Q E h=>?_) (fun cdv Ar outer s H vs Q E hr h=>?_)
  . obtain⟨wd,g,da,ps,kd,ch,cd,s,n,rfl,_⟩:=h
    rfl
  . obtain⟨wd,g,da,ps,kd,ch,cd,s0,n,rfl,W,hn,k⟩:=h
    obtain⟨dx,hw⟩:=W.ins
    obtain⟨dg,hg⟩:=W.gr.ins
    obtain⟨hw1,hw2,hd1,hd2⟩:=W.gr.le
    obtain⟨c1,c2⟩:=zCA (by omega) hn
    refine⟨_,(zB (zG (i:=2) qo.nd rfl (Or.inl rfl) (zV f_place_of hr (zA (zF (pv 0) rfl) (zA (pv 1) zC))))
      (zD (zH (zT (pv 0) T.c_World m_World_height_now hr (zA (zN zg (pv 2) zE (fun _ _=>rfl)) (zA (zN zg (pv 2) zE (fun _ _=>rfl)) zC)))))),?_⟩
    refine st0 (σ0:=[some _,some _,none]) rfl ?_
    try dsimp only[cxOf]
    walk_at "rd"
    refine⟨g,dg,da,s0.seed,s0.w,s0.d,n,rfl,hg,hw1,hw2,fun H1 p s1 hp f1=>?_⟩
    have W1:=W.same s1
    obtain⟨dx1,hw1'⟩:=W1.ins
    walk_at "rd"
    refine⟨wd,g,da,ps,kd,ch,cd,s0,_,_,rfl,W1,by omega,by omega,fun H2 W2 e2=>?_⟩
    exact k _ W2 (Ext.sameR s1 e2)
def jd(A:Ads):Sp:=fun vs H Q _=>∃(wd g da ps kd ch cd:Addr) (s:Vbwsan.State),vs=[.ref wd]/\WoX A H wd g da ps kd ch cd s/\
  ∀H' p,WoX A H' wd g da ps kd ch cd s->Ext da H H'->H p=none->H' p=some (.lst ((Vbwsan.heights s).map fun n:Nat=>V.int (n:Int)))->Q (.ref p) H'
theorem Ext.none_of{A:Ads}{H H1:Hp}{g da p:Addr}{seed w d:Nat}(G:GrAt A H1 g da seed w d)(e:Ext da H H1)(hp:H1 p=none):H p=none:=by
  cases z:H p with
  |none=>rfl
  | some o =>
    by_cases zd:p=da
    . obtain⟨_,z2,_⟩:=G.cor
      rw[<-zd,hp] at z2
      cases z2
    . have:=e _ _ z zd
      rw[hp] at this
      cases this
abbrev qd:Stmt:=inClass (top 65) 5
theorem qB:FnScope ["self","number"] ["self"] (defScope qd):=⟨rfl,rfl,rfl,by decide +kernel,rfl,by decide +kernel,by decide +kernel⟩
theorem ok_heights{f:Addr}{fd:FuncData}(F:Fun K "heights" "World.heights" qd f fd)(T:Glb K mg A)(m_World_height_of:MtAt P w K mg base 8 A.C_World "height_of" ["self","number"] (sp_height_of A))
    (f_cell_count:FnAt P w K mg base 1 "cell_count" ["ground"] (sp_cell_count A)):FnOk P w K mg base CX0 9 f fd ["self"] (jd A):=by
  refine F.ok qB (fun vs H Q E h=>?_) (fun cdv Ar outer s H vs Q E hr h=>?_)
  . obtain⟨wd,g,da,ps,kd,ch,cd,s,rfl,_⟩:=h
    rfl
  . obtain⟨wd,g,da,ps,kd,ch,cd,s0,rfl,W,k⟩:=h
    obtain⟨dx,hw⟩:=W.ins
    obtain⟨dg,hg⟩:=W.gr.ins
    obtain⟨hw1,hw2,hd1,hd2⟩:=W.gr.le
    have hwd:s0.w*s0.d<=32*32:=zk hw2 hd2
    refine⟨_,(zD (zH (Jw (own:=[("number",1)]) rfl qB.nd (JF rfl T.b_range (zA (zV f_cell_count hr (zA (zF (pv 0) rfl) zC)) zC)) (qT (by rfl)) (fun _ _ _ _ _=>(zX (i:=1) qB.nd rfl (Or.inl rfl))) (fun _ _ _ _ _=>Qu) (fun _ _ _ _ _=>(zT (pv 0) T.c_World m_World_height_of hr (zA (pv 1) zC)))))),?_⟩
    refine st0 (σ0:=[some _,none]) rfl ?_
    try dsimp only[cxOf]
    walk_at "rd"
    refine⟨g,dg,da,s0.seed,s0.w,s0.d,rfl,hg,hw2,?_⟩
    refine JE (by omega) ?_
    rw[Int.toNat_natCast]
    refine lw_range rfl (fun D i H'=>Ext da H H'/\WoX A H' wd g da ps kd ch cd s0/\H' D=some (.lst ((((List.range i).map fun k=>Vbwsan.heightAt s0 (k%s0.w) (k / s0.w))).map fun n:Nat=>V.int (n:Int)))) fun D hD=>⟨⟨(ZU hD).ext,W.same (ZU hD),zJ⟩,?_,?_⟩
    . rintro i H' hi ⟨e1,W1,f1⟩
      obtain⟨dx1,hw1'⟩:=W1.ins
      rw[Int.zero_add]
      refine zCJ ⟨rfl,?_⟩
      walk_at "rd"
      refine⟨wd,g,da,ps,kd,ch,cd,s0,i,rfl,W1,hi,fun H2 W2 e2=>?_⟩
      have f2:=Ext.at W1.gr e2 f1 (fun z q=>by cases q)
      refine qS f2 (by rw[List.length_map,List.length_map,List.length_range];exact small (by omega)) ⟨Zo (e1.trans e2) hD,W2.grow f2,?_⟩
      rw[zJ,List.range_succ,List.map_append,List.map_append]
      rfl
    . rintro H' ⟨e1,W1,f1⟩
      exact k _ _ W1 e1 hD f1
def qQ(A:Ads):Sp:=fun vs H Q _=>∃(wd g ps ch cd dx pd:Addr) (s:Vbwsan.State) (cs:List (Nat×Nat)) (x y:Nat),vs=[.ref wd,.ref pd,.int x,.int y]/\H wd=some (.ins A.C_World dx (worldF g ps ch))/\ChAt A H ch cd s.changes/\MadeAt s.seed s.w s.d H pd cs/\(x,y)∈cs/\
  ∀H' p,Same H H'->H p=none->H' p=some (.lst [.int (Vbwsan.cellAt s x y).1,.int (Vbwsan.cellAt s x y).2])->Q (.ref p) H'
theorem MadeAt.get{seed w d:Nat}{H:Hp}{pd:Addr}{kvs:List (List Key×V)}{cs:List (Nat×Nat)}{x y:Nat}(h:DMap (MadeV seed w d) cKey H kvs cs)(hm:(x,y)∈cs):∃t,valV kvs (key2 x y)=some (.ref t)/\H t=some (.tup [.int (Vbwsan.madeHeight seed x y:Nat),.int (Vbwsan.madeKind seed w d x y:Nat)]):=by
  rcases h.find (key2 x y) with⟨_,z2⟩|⟨v,c,z1,z2,t,rfl,z3⟩
  . rw[List.find?_eq_none] at z2
    exact absurd (decide_eq_true rfl) (z2 (x,y) hm)
  . have e:=Qb.mp (of_decide_eq_true (List.find?_some (p:=fun a=>decide (cKey a=key2 x y)) z2))
    rw[e.1,e.2] at z3
    exact⟨t,z1,z3⟩
abbrev s_World_cell_now:Stmt:=inClass (top 65) 6
theorem ZZ:FnScope ["self","made","x","y","cell","built","kind"] ["self","made","x","y"] (defScope s_World_cell_now):=⟨rfl,rfl,rfl,by decide +kernel,rfl,by decide +kernel,by decide +kernel⟩
theorem ok_cell_now {f : Addr} {fd : FuncData} (F : Fun K "cell_now" "World.cell_now" s_World_cell_now f fd) (T : Glb K mg A) (m_World_raised : MtAt P w K mg base 2 A.C_World "raised" ["self", "made", "x", "y"] (sp_raised A))
    (m_Changes_built_at:MtAt P w K mg base 1 A.C_Changes "built_at" ["self","x","y"] (qR A)):FnOk P w K mg base CX0 3 f fd ["self","made","x","y"] (qQ A):=by
  refine F.ok ZZ (fun vs H Q E h=>?_) (fun cdv Ar outer s H vs Q E hr h=>?_)
  . obtain⟨wd,g,ps,ch,cd,dx,pd,s,cs,x,y,rfl,_⟩:=h
    rfl
  . obtain⟨wd,g,ps,ch,cd,dx,pd,s0,cs,x,y,rfl,hw,C,⟨kvs,m1,m2⟩,hm,k⟩:=h
    have hu:=ZB hr
    obtain⟨t,ht,hvt⟩:=MadeAt.get (pd:=pd) m2 hm
    have e1:((Vbwsan.cellAt s0 x y).1:Int)=max 0 (min 9999 (((Vbwsan.madeHeight s0.seed x y:Nat):Int)+chUp s0.changes x y)):=by
      unfold Vbwsan.cellAt
      rw[Gm.changed1 _ _ _ (Nat.le_trans (Gm.zBr _ _ _) (by decide)),zBz]
    have e2:(Vbwsan.cellAt s0 x y).2=if chKind s0.changes x y=0 then Vbwsan.madeKind s0.seed s0.w s0.d x y else chKind s0.changes x y:=by
      unfold Vbwsan.cellAt
      rw[Gm.changed2,chKind_eq]
    rw[e1,e2] at k
    generalize Vbwsan.madeHeight s0.seed x y=mh at k hvt
    generalize Vbwsan.madeKind s0.seed s0.w s0.d x y=mk at k hvt
    refine⟨_,(zB (zG (i:=4) ZZ.nd rfl (Or.inl rfl) (zBm hu (pv 1) (zu (zA (pv 2) (zA (pv 3) zC))) (fun _ _=>rfl)))
      (zB (zG (i:=5) ZZ.nd rfl (Or.inl rfl) (zT (zF (pv 0) rfl) T.c_Changes m_Changes_built_at hr (zA (pv 2) (zA (pv 3) zC))))
      (zB (zG (i:=6) ZZ.nd rfl (Or.inl rfl) (Jx (zn zCQ (pv 5) zE (nomark _)) (zN zg (pv 4) zE (fun _ _=>rfl)) (pv 5)))
      (zD (zH (zQ (zA (zT (pv 0) T.c_World m_World_raised hr (zA (zN zg (pv 4) zE (fun _ _=>rfl)) (zA (pv 2) (zA (pv 3) zC)))) (zA (pv 6) zC)))))))),?_⟩
    refine st0 (σ0:=[some _,some _,some _,some _,none,none,none]) rfl ?_
    try dsimp only[cxOf]
    walk_at "rd"
    walk_at "new"
    rename_i tk htk H1 f1 s1
    have f1':H1 tk=some (.tup ((key2 x y).map kV)):=f1
    have m11:=s1 _ _ m1
    have hvt1:=s1 _ _ hvt
    have hw1:=s1 _ _ hw
    obtain⟨dc,hc⟩:=(C.same s1).ins
    refine Jt (by rw[<-ht];exact DGet.t m11 f1') ?_
    walk_at "rd"
    refine⟨ch,cd,s0.changes,x,y,rfl,C.same s1,fun H2 s2=>?_⟩
    have hvt2:=s2 _ _ hvt1
    have hw2:=s2 _ _ hw1
    generalize hbk:chKind s0.changes x y=bk at k
    have fin:∀kk:Nat,kk=(if bk=0 then mk else bk)->tRet (tLst (tCons (tMeth A.C_World "raised" (sp_raised A) [] E0 (tVar 0) (tCons (tOp (rIxT K) (tVar 4) (tC (V.int 0))) (tCons (tVar 2) (tCons (tVar 3) tNil)))) (tCons (tVar 6) tNil)))
        { nx:=fun x H'=>Q V.non H',rt:=Q } [some (V.ref wd),some (V.ref pd),some (V.int x),some (V.int y),some (V.ref t),some (V.int bk),some (V.int kk)] H2:=fun kk hkk=>by
      walk_at "rd"
      refine⟨wd,g,ps,ch,cd,dx,s0.changes,mh,x,y,rfl,hw2,(C.same s1).same s2,fun H3 s3=>?_⟩
      walk_at "rd"
      walk_at "new"
      rename_i p hp H4 f4 s4
      have sa:=(s1.trans s2).trans s3
      refine k _ _ (sa.trans s4) (sa.free hp) ?_
      rw[f4,hkk]
    walk_at "rd"
    with_reducible refine zR (fun z=>?_) (fun z=>?_)
    . rw[decide_eq_true_iff] at z
      iterate 6 walk_at "r1"
      exact fin mk (by rw[if_pos (by omega)])
    . rw[decide_eq_false_iff_not] at z
      iterate 2 walk_at "r1"
      exact fin bk (by rw[if_neg (by omega)])
end
end Gs
namespace Gs
open PySem PySem.Spec PyProof.Rows L2
section
variable{P:Program}{w:World}{K:PySem.W.Frag}{mg:Str->Option Value}{base:Heap}{A:Ads}
theorem zCB{l t w d x y:Nat}(h1:l<=x)(h2:x<l+w)(h3:t<=y)(h4:y<t+d):(x,y)∈box l t w d:=by
  unfold box
  refine List.mem_flatMap.mpr ⟨y - t,List.mem_range.mpr (by omega),List.mem_map.mpr ⟨x - l,List.mem_range.mpr (by omega),?_⟩⟩
  rw[show l+(x - l)=x by omega,show t+(y - t)=y by omega]
def sumTo(s:Vbwsan.State)(n:Nat):Nat:=(List.range n).foldl (fun a k=>let c:=Vbwsan.cellAt s (k%s.w) (k / s.w);(a*31+c.1*10+c.2)%Vbwsan.PRIME) 7
def ja(A:Ads):Sp:=fun vs H Q _=>∃(wd g da ps kd ch cd:Addr) (s:Vbwsan.State),vs=[.ref wd]/\WoX A H wd g da ps kd ch cd s/\
  ∀H',WoX A H' wd g da ps kd ch cd s->Ext da H H'->Q (.int (sumTo s (s.w*s.d):Nat)) H'
theorem Jk(s:Vbwsan.State)(n:Nat):((sumTo s (n+1):Nat):Int)=(((sumTo s n:Nat):Int)*31+((Vbwsan.cellAt s (n%s.w) (n / s.w)).1:Int)*10+((Vbwsan.cellAt s (n%s.w) (n / s.w)).2:Int))%2147483647:=by
  unfold sumTo
  rw[List.range_succ,List.foldl_append]
  generalize (List.range n).foldl _ 7=a
  show((((a*31+(Vbwsan.cellAt s (n%s.w) (n / s.w)).1*10+(Vbwsan.cellAt s (n%s.w) (n / s.w)).2)%Vbwsan.PRIME:Nat)):Int)=_
  generalize (Vbwsan.cellAt s (n%s.w) (n / s.w)).1=b
  generalize (Vbwsan.cellAt s (n%s.w) (n / s.w)).2=c
  show(((a*31+b*10+c)%2147483647:Nat):Int)=_
  omega
theorem sumTo_lt(s:Vbwsan.State)(n:Nat):sumTo s n<2147483647:=by
  cases n with
  |zero=>show 7<2147483647;decide
  |succ n=>have:=Jk s n;omega
abbrev s_World_sum_now:Stmt:=inClass (top 65) 7
theorem zy:FnScope ["self","made","total","number","place","cell"] ["self"] (defScope s_World_sum_now):=⟨rfl,rfl,rfl,by decide +kernel,rfl,by decide +kernel,by decide +kernel⟩
theorem ok_sum_now {f : Addr} {fd : FuncData} (F : Fun K "sum_now" "World.sum_now" s_World_sum_now f fd) (T : Glb K mg A) (f_made_cells : FnAt P w K mg base 12 "made_cells" ["ground", "left", "top", "width", "depth"] (sp_made_cells A)) (f_cell_count : FnAt P w K mg base 1 "cell_count" ["ground"] (sp_cell_count A))
    (f_place_of:FnAt P w K mg base 1 "place_of" ["ground","number"] (sp_place_of A)) (m_World_cell_now:MtAt P w K mg base 3 A.C_World "cell_now" ["self","made","x","y"] (qQ A)):FnOk P w K mg base CX0 13 f fd ["self"] (ja A):=by
  refine F.ok zy (fun vs H Q E h=>?_) (fun cdv Ar outer s H vs Q E hr h=>?_)
  . obtain⟨wd,g,da,ps,kd,ch,cd,s,rfl,_⟩:=h
    rfl
  . obtain⟨wd,g,da,ps,kd,ch,cd,s0,rfl,W,k⟩:=h
    obtain⟨dx,hw⟩:=W.ins
    obtain⟨dg,hg⟩:=W.gr.ins
    obtain⟨hw1,hw2,hd1,hd2⟩:=W.gr.le
    have hwd:s0.w*s0.d<=32*32:=zk hw2 hd2
    refine⟨_,(zB (zG (i:=1) zy.nd rfl (Or.inl rfl) (zV f_made_cells hr (zA (zF (pv 0) rfl) (zA zE (zA zE (zA (zF (zF (pv 0) rfl) rfl) (zA (zF (zF (pv 0) rfl) rfl) zC)))))))
      (zB (zG (i:=2) zy.nd rfl (Or.inl rfl) (zM T.g_FIRST_SUM))
      (zB (ZQ PassesOwn.never rfl (JF rfl T.b_range (zA (zV f_cell_count hr (zA (zF (pv 0) rfl) zC)) zC)) (zX (i:=3) zy.nd rfl (Or.inl rfl)) (zB (zG (i:=4) zy.nd rfl (Or.inl rfl) (zV f_place_of hr (zA (zF (pv 0) rfl) (zA (pv 3) zC))))
      (zB (zG (i:=5) zy.nd rfl (Or.inl rfl) (zT (pv 0) T.c_World m_World_cell_now hr (zA (pv 1) (zA (zN zg (pv 4) zE (fun _ _=>rfl)) (zA (zN zg (pv 4) zE (fun _ _=>rfl)) zC)))))
      (zD (zG (i:=2) zy.nd rfl (Or.inl rfl) (zK QA (zK zW (zK zW (zK ZF (pv 2) zE) (zK ZF (zN zO (pv 5) zE (fun _ _=>rfl)) zE)) (zN zO (pv 5) zE (fun _ _=>rfl))) (zM T.g_P)))))))
      (zD (zH (pv 2)))))),?_⟩
    refine st0 (σ0:=[some _,none,none,none,none,none]) rfl ?_
    try dsimp only[cxOf]
    walk_at "rd"
    refine⟨g,da,s0.seed,s0.w,s0.d,0,0,s0.w,s0.d,rfl,W.gr,by omega,by omega,by omega,by omega,fun H1 pd G1 e1 hpd npd m1=>?_⟩
    have W1:=W.ext e1 G1
    obtain⟨dx1,hw1'⟩:=W1.ins
    obtain⟨dg1,hg1⟩:=G1.ins
    obtain⟨kvs,m2,m3⟩:=id m1
    walk_at "rd"
    refine⟨g,dg1,da,s0.seed,s0.w,s0.d,rfl,hg1,hw2,?_⟩
    refine JE (by omega) ?_
    rw[Int.toNat_natCast]
    refine QB (fun i σ H'=>∃v3 v4 v5:Option V,σ=[some (.ref wd),some (.ref pd),some (.int (sumTo s0 i:Nat)),v3,v4,v5]/\Same H1 H') ⟨none,none,none,rfl,Same.refl _⟩ ?_ ?_
    . rintro i σ H' hi ⟨v3,v4,v5,rfl,s2⟩
      rw[Int.zero_add]
      have W2:=W1.same s2
      obtain⟨c1,c2⟩:=zCA (show 0<s0.w by omega) hi
      have hw2':=s2 _ _ hw1'
      have hlt:=sumTo_lt s0 i
      walk_at "rd"
      refine⟨g,dg1,da,s0.seed,s0.w,s0.d,i,rfl,s2 _ _ hg1,hw1,hw2,fun H3 p s3 hp f3=>?_⟩
      have hw3:=s3 _ _ hw2'
      walk_at "rd"
      refine⟨wd,g,ps,ch,cd,dx1,pd,s0,box 0 0 s0.w s0.d,_,_,rfl,hw3,(W2.same s3).ch,?_,zCB (Nat.zero_le _) (by rw[Nat.zero_add];exact c1) (Nat.zero_le _) (by rw[Nat.zero_add];exact c2),fun H4 q s4 hq f4=>?_⟩
      . have s13:=s2.trans s3
        exact⟨kvs,s13 _ _ m2,m3.keep ZH s13.keeps⟩
      have ecell:=Jk s0 i
      generalize hb:(Vbwsan.cellAt s0 (i%s0.w) (i / s0.w)).1=b at ecell f4
      generalize hc:(Vbwsan.cellAt s0 (i%s0.w) (i / s0.w)).2=c at ecell f4
      walk_at "rd"
      refine⟨_,_,_,by rw[ecell],(s2.trans s3).trans s4⟩
    . rintro σ H' ⟨v3,v4,v5,rfl,s2⟩
      walk_at "rd"
      exact k _ (W1.same s2) (e1.sameL s2)
def began(seed w d cap:Nat):Vbwsan.State:={ Vbwsan.start with seed:=seed,w:=w,d:=d,cap:=cap }
theorem chOk_nil:ChOk []:=⟨Nat.zero_le _,fun c hc=>(List.not_mem_nil hc).elim,fun c hc=>(List.not_mem_nil hc).elim,fun c hc=>(List.not_mem_nil hc).elim⟩
def js(A:Ads):Sp:=fun vs H Q _=>∃(wd dx:Addr) (fs:List (Str×V)) (seed w d cap:Nat),vs=[.ref wd,.int seed,.int w,.int d,.int cap]/\H wd=some (.ins A.C_World dx fs)/\(fs=[]\/∃a b c:V,fs=[(("ground":Str),a),(("pieces":Str),b),(("changes":Str),c)])/\Side w/\Side d/\1<=cap/\cap<=8/\
  ∀H' g da ps kd ch cd,WoX A H' wd g da ps kd ch cd (began seed w d cap)->Ext wd H H'->Q .non H'
abbrev s_World_begin:Stmt:=inClass (top 65) 1
theorem sc_World_begin:FnScope ["self","seed","width","depth","room"] ["self","seed","width","depth","room"] (defScope s_World_begin):=⟨rfl,rfl,rfl,by decide +kernel,rfl,by decide +kernel,by decide +kernel⟩
theorem ok_begin {f : Addr} {fd : FuncData} (F : Fun K "begin" "World.begin" s_World_begin f fd) (T : Glb K mg A) (k_Ground : MkAt P w K mg base 1 A.C_Ground "Ground" ["self", "seed", "width", "depth"] (sp_Ground_init A)) (k_Pieces : MkAt P w K mg base 1 A.C_Pieces "Pieces" ["self", "ground", "room"] (sp_Pieces_init A))
    (k_Changes:MkAt P w K mg base 1 A.C_Changes "Changes" ["self"] (qV A)):FnOk P w K mg base CX0 3 f fd ["self","seed","width","depth","room"] (js A):=by
  refine F.ok sc_World_begin (fun vs H Q E h=>?_) (fun cdv Ar outer s H vs Q E hr h=>?_)
  . obtain⟨wd,dx,fs,a,b,c,d,rfl,_⟩:=h
    rfl
  . obtain⟨wd,dx,fs,seed,w,d,cap,rfl,hwd,hfs,sw,sd,hc1,hc2,k⟩:=h
    refine⟨_,(zB (Zd (pv 0) (zCN k_Ground hr (zA (pv 1) (zA (pv 2) (zA (pv 3) zC)))) rfl)
      (zB (Zd (pv 0) (zCN k_Pieces hr (zA (zF (pv 0) rfl) (zA (pv 4) zC))) rfl)
      (zD (Zd (pv 0) (zCM k_Changes hr) rfl)))),?_⟩
    refine st0 (σ0:=[some _,some _,some _,some _,some _]) rfl ?_
    try dsimp only[cxOf]
    walk_at "rd"
    intro g dxg ng ndg neg
    refine⟨g,dxg,seed,w,d,rfl,zJ,fun H1 da f1 hda g1 e1=>⟨rfl,?_⟩⟩
    have s1:Same H H1:=Same.make ng ndg e1
    have hwd1:=s1 _ _ hwd
    have nwg:wd≠g:=zL hwd ng
    have nda:H da=none:=by
      cases z:H da with
      |none=>rfl
      | some o =>
        exfalso
        have y1:da≠g:=zL z ng
        have y2:da≠dxg:=zL z ndg
        rw[zI y1,zI y2,z] at hda
        cases hda
    have fsn:fs.length<1000:=by rcases hfs with rfl|⟨a,b,c,rfl⟩<;>exact Nat.le_of_ble_eq_true rfl
    refine' jk rfl ?_
    refine qy hwd1 T.c_World T.n_World_ground fsn ?_
    apply ZI
    intro H2 z2 f2 e2
    rw[z2]
    clear z2
    have l2:(putF "ground" (V.ref g) fs).lookup ("ground":Str)=some (V.ref g):=by rw[lookup_putF,if_pos rfl]
    have g2:=e2 _ _ f1 (Ne.symm nwg)
    have nwda:wd≠da:=zL hwd nda
    have d2:=e2 _ _ g1 (Ne.symm nwda)
    walk_at "rd"
    refine zBi f2 T.c_World T.n_World_ground l2 ?_
    walk_at "rd"
    intro ps dxp np ndp nep
    refine⟨ps,dxp,g,cap,rfl,zJ,fun H3 kd f3 hkd g3 e3=>⟨rfl,?_⟩⟩
    have s3:Same H2 H3:=Same.make np ndp e3
    have hkd2:H2 kd=none:=by
      cases z:H2 kd with
      |none=>rfl
      | some o =>
        exfalso
        have y1:kd≠ps:=zL z np
        have y2:kd≠dxp:=zL z ndp
        rw[zI y1,zI y2,z] at hkd
        cases hkd
    have f23:=s3 _ _ f2
    have nwp:wd≠ps:=zL f2 np
    have nwk:wd≠kd:=zL f2 hkd2
    refine' jk rfl ?_
    refine qy f23 T.c_World T.n_World_pieces (by rcases hfs with rfl|⟨a,b,c,rfl⟩<;>exact Nat.le_of_ble_eq_true rfl) ?_
    apply ZI
    intro H4 z4 f4 e4
    rw[z4]
    clear z4
    have g4:=e4 _ _ (s3 _ _ g2) (Ne.symm nwg)
    have d4:=e4 _ _ (s3 _ _ d2) (Ne.symm nwda)
    have p4:=e4 _ _ f3 (Ne.symm nwp)
    have k4:=e4 _ _ g3 (Ne.symm nwk)
    walk_at "rd"
    intro ch dxc nc ndc nec
    refine⟨ch,dxc,rfl,zJ,fun H5 cd f5 hcd g5 e5=>⟨rfl,?_⟩⟩
    have s5:Same H4 H5:=Same.make nc ndc e5
    have hcd4:H4 cd=none:=by
      cases z:H4 cd with
      |none=>rfl
      | some o =>
        exfalso
        have y1:cd≠ch:=zL z nc
        have y2:cd≠dxc:=zL z ndc
        rw[zI y1,zI y2,z] at hcd
        cases hcd
    have f45:=s5 _ _ f4
    have nwc:wd≠ch:=zL f4 nc
    have nwcd:wd≠cd:=zL f4 hcd4
    refine' jk rfl ?_
    refine qy f45 T.c_World T.n_World_changes (by rcases hfs with rfl|⟨a,b,c,rfl⟩<;>exact Nat.le_of_ble_eq_true rfl) ?_
    apply ZI
    intro H6 z6 f6 e6
    rw[z6]
    clear z6
    walk_at "rd"
    have ef:putF "changes" (V.ref ch) (putF "pieces" (V.ref ps) (putF "ground" (V.ref g) fs))=worldF g ps ch:=by rcases hfs with rfl|⟨a,b,c,rfl⟩<;>rfl
    rw[ef] at f6
    refine k H6 g da ps kd ch cd ⟨⟨dx,f6⟩,⟨⟨dxg,e6 _ _ (s5 _ _ g4) (Ne.symm nwg)⟩,⟨[],e6 _ _ (s5 _ _ d4) (Ne.symm nwda),?_⟩,sw,sd⟩,⟨⟨dxp,e6 _ _ (s5 _ _ p4) (Ne.symm nwp)⟩,⟨[],e6 _ _ (s5 _ _ k4) (Ne.symm nwk),.nil⟩,List.nodup_nil,Nat.zero_le _,fun p hp=>(List.not_mem_nil hp).elim⟩,
      ⟨⟨dxc,e6 _ _ f5 (Ne.symm nwc)⟩,⟨[],e6 _ _ g5 (Ne.symm nwcd),.nil⟩,chOk_nil⟩,?_,?_,?_,⟨hc1,hc2⟩⟩ ?_
    . exact⟨List.nodup_nil,fun kv hkv=>by cases hkv⟩
    . exact fun z=>by rw[z,d2] at hkd2;cases hkd2
    . exact fun z=>by rw[z,d4] at hcd4;cases hcd4
    . exact fun z=>by rw[<-z,k4] at hcd4;cases hcd4
    . exact fun b o hb n=>e6 _ _ (s5 _ _ (e4 _ _ (s3 _ _ (e2 _ _ (s1 _ _ hb) n)) n)) n
def sp_World_init(A:Ads):Sp:=fun vs H Q _=>∃(wd dx:Addr),vs=[.ref wd]/\H wd=some (.ins A.C_World dx [])/\∀H' g da ps kd ch cd,WoX A H' wd g da ps kd ch cd Vbwsan.start->Ext wd H H'->Q .non H'
abbrev qE:Stmt:=inClass (top 65) 0
theorem sc_World___init__:FnScope ["self"] ["self"] (defScope qE):=⟨rfl,rfl,rfl,by decide +kernel,rfl,by decide +kernel,by decide +kernel⟩
theorem ok_World_init{f:Addr}{fd:FuncData}(F:Fun K "__init__" "World.__init__" qE f fd)(T:Glb K mg A)(m_World_begin:MtAt P w K mg base 3 A.C_World "begin" ["self","seed","width","depth","room"] (js A)):FnOk P w K mg base CX0 4 f fd ["self"] (sp_World_init A):=by
  refine F.ok sc_World___init__ (fun vs H Q E h=>?_) (fun cdv Ar outer s H vs Q E hr h=>?_)
  . obtain⟨wd,dx,rfl,_⟩:=h
    rfl
  . obtain⟨wd,dx,rfl,hwd,k⟩:=h
    refine⟨_,(zD (zo (zT (pv 0) T.c_World m_World_begin hr (zA zE (zA zE (zA zE (zA zE zC))))))),?_⟩
    refine st0 (σ0:=[some _]) rfl ?_
    try dsimp only[cxOf]
    walk_at "rd"
    refine⟨wd,dx,[],0,8,8,4,rfl,hwd,.inl rfl,.inl rfl,.inl rfl,by omega,by omega,fun H' g da ps kd ch cd W e=>?_⟩
    walk_at "rd"
    exact k H' g da ps kd ch cd W e
end
end Gs
namespace Gs
open PySem PySem.Spec PyProof.Rows L2
section
variable{P:Program}{w:World}{K:PySem.W.Frag}{mg:Str->Option Value}{base:Heap}{A:Ads}
abbrev hn(s:Vbwsan.State)(n:Nat):Nat×Nat:=(Gm.hgt s n,n)
def sp_shore_cell(A:Ads):Sp:=fun vs H Q _=>∃(wd g da ps kd ch cd:Addr) (s:Vbwsan.State) (n:Nat),vs=[.ref wd,.int n]/\WoX A H wd g da ps kd ch cd s/\n<s.w*s.d/\
  ∀H' p,WoX A H' wd g da ps kd ch cd s->Ext da H H'->H' p=some (.tup [.int (Gm.hgt s n:Nat),.int n])->Q (.ref p) H'
abbrev Qj:Stmt:=top 67
theorem sc_shore_cell:FnScope ["world","number"] ["world","number"] (defScope Qj):=⟨rfl,rfl,rfl,by decide +kernel,rfl,by decide +kernel,by decide +kernel⟩
theorem ok_shore_cell{f:Addr}{fd:FuncData}(F:Fun K "shore_cell" "shore_cell" Qj f fd)(T:Glb K mg A)(m_World_height_of:MtAt P w K mg base 8 A.C_World "height_of" ["self","number"] (sp_height_of A)):FnOk P w K mg base CX0 9 f fd ["world","number"] (sp_shore_cell A):=by
  refine F.ok sc_shore_cell (fun vs H Q E h=>?_) (fun cdv Ar outer s H vs Q E hr h=>?_)
  . obtain⟨wd,g,da,ps,kd,ch,cd,s,n,rfl,_⟩:=h
    rfl
  . obtain⟨wd,g,da,ps,kd,ch,cd,s0,n,rfl,W,hn,k⟩:=h
    obtain⟨dx,hw⟩:=W.ins
    refine⟨_,(zD (zH (zu (zA (zT (pv 0) T.c_World m_World_height_of hr (zA (pv 1) zC)) (zA (pv 1) zC))))),?_⟩
    refine st0 (σ0:=[some _,some _]) rfl ?_
    try dsimp only[cxOf]
    walk_at "rd"
    refine⟨wd,g,da,ps,kd,ch,cd,s0,n,rfl,W,hn,fun H1 W1 e1=>?_⟩
    walk_at "rd"
    walk_at "new"
    rename_i p hp H2 f2 s2
    exact k _ _ (W1.same s2) (e1.sameL s2) f2
def mkR(l:List Nat):List (L2.Key×V):=l.map fun n:Nat=>((Sum.inl (n:Int):L2.Key),V.bl true)
theorem Ja(l:List Nat)(k:Nat):(valV (mkR l) (Sum.inl (k:Int))).isSome=decide (k∈l):=by
  rw[<-Zy]
  refine Bool.eq_iff_iff.mpr ?_
  unfold mkR
  rw[List.any_map,List.any_eq_true,decide_eq_true_iff]
  constructor
  . rintro ⟨i,h1,h2⟩
    have h3:(i:Int)=k:=by simpa using h2
    obtain rfl:i=k:=by omega
    exact h1
  . exact fun h=>⟨k,h,by simp⟩
theorem zBp{l:List Nat}{k:Nat}(h:k ∉ l):putK (mkR l) (Sum.inl (k:Int)) (V.bl true)=mkR (l++[k]):=by
  unfold putK
  rw[if_neg (by rw[Zy,Ja];simpa using h)]
  unfold mkR
  rw[List.map_append]
  rfl
theorem zBq(l:List Nat):(mkR l).length=l.length:=List.length_map _
theorem cells_pairs{H:Hp}{l:Addr}{s:Vbwsan.State}{ns:List Nat}(h:CellsAt H l (ns.map (hn s))):∃ts,H l=some (.lst ts)/\Paired (PairAt H) ts (ns.map fun n=>(((Gm.hgt s n:Nat):Int),(n:Int))):=by
  obtain⟨ts,h1,h2⟩:=h
  refine⟨ts,h1,?_⟩
  clear h1
  generalize e:ns.map (hn s)=cs at h2
  induction h2 generalizing ns with
  | nil =>
    cases ns with
    |nil=>exact .nil
    |cons=>cases e
  | cons r t ih =>
    cases ns with
    |nil=>cases e
    | cons n ns =>
      obtain⟨rfl,e2⟩:=List.cons.inj e
      exact .cons r (ih e2)
theorem CellsAt.erase{H:Hp}{l:Addr}{cs:List (Nat×Nat)}{ts:List V}(e:H l=some (.lst ts))(h:CellsAt H l cs)(j:Nat):CellsAt (upd H l (.lst (ts.eraseIdx j))) l (cs.eraseIdx j):=by
  obtain⟨us,h1,h2⟩:=h
  rw[e] at h1
  cases h1
  refine⟨_,zJ,?_⟩
  have h3:Paired (CellV H) (ts.eraseIdx j) (cs.eraseIdx j):=by
    clear e
    induction h2 generalizing j with
    |nil=>exact .nil
    | cons r t ih =>
      cases j with
      |zero=>exact t
      |succ j=>exact .cons r (ih j)
  exact h3.imp fun v x r=>zh _ _ v x (ZW e (fun z=>z)) r
theorem CellsAt.other{H:Hp}{l q:Addr}{cs:List (Nat×Nat)}{ts:List V}{o:HO}(h:CellsAt H l cs)(e:H q=some (.lst ts))(n:l≠q):CellsAt (upd H q o) l cs:=
  h.keep zh (ZW e (fun z=>z)) fun us z=>by rw[zI n];exact z
def qg(A:Ads):Sp:=fun vs H Q _=>∃(wd g da ps kd ch cd ad:Addr) (s:Vbwsan.State) (k0:Nat) (goal:Nat->Bool) (akv:List (L2.Key×V)),vs=[.ref wd,.int k0,.ref ad]/\WoX A H wd g da ps kd ch cd s/\k0<s.w*s.d/\H ad=some (.dK akv)/\(∀n:Nat,n<s.w*s.d->(valV akv (Sum.inl (n:Int))).isSome=goal n)/\
  ∀H' p,WoX A H' wd g da ps kd ch cd s->Ext da H H'->CellsAt H' p ((Vbwsan.wetFrom s goal k0).map (hn s))->Q (.ref p) H'
abbrev s_wet_cells:Stmt:=top 68
theorem Zi:FnScope ["world","start","asked","wet","shore","reached","lowest","number"] ["world","start","asked"] (defScope s_wet_cells):=⟨rfl,rfl,rfl,by decide +kernel,rfl,by decide +kernel,by decide +kernel⟩
theorem ok_wet_cells {f : Addr} {fd : FuncData} (F : Fun K "wet_cells" "wet_cells" s_wet_cells f fd) (T : Glb K mg A) (f_shore_cell : FnAt P w K mg base 9 "shore_cell" ["world", "number"] (sp_shore_cell A)) (f_neighbours : FnAt P w K mg base 2 "neighbours" ["ground", "number"] (sp_neighbours A)) :
    FnOk P w K mg base CX0 10 f fd ["world","start","asked"] (qg A):=by
  refine F.ok Zi (fun vs H Q E h=>?_) (fun cdv Ar outer s H vs Q E hr h=>?_)
  . obtain⟨wd,g,da,ps,kd,ch,cd,ad,s,k0,goal,akv,rfl,_⟩:=h
    rfl
  . obtain ⟨wd, g, da, ps, kd, ch, cd, ad, s0, k0, goal, akv, rfl, W, hk0, had, hgoal, k⟩ := h
    have hu:=ZB hr
    have hu64:=hr.units
    obtain⟨dx,hw⟩:=W.ins
    obtain⟨hw1,hw2,hd1,hd2⟩:=W.gr.le
    have hwd:s0.w*s0.d<=32*32:=zk hw2 hd2
    have gside:Gm.Side s0.w:=W.gr.wd
    refine⟨_,(zB (zG (i:=3) Zi.nd rfl (Or.inl rfl) (zQ zC))
      (zB (zG (i:=4) Zi.nd rfl (Or.inl rfl) (zQ (zA (zV f_shore_cell hr (zA (pv 0) (zA (pv 1) zC))) zC)))
      (zB (zG (i:=5) Zi.nd rfl (Or.inl rfl) (zAz (Jv (pv 1) jS zAy) rfl rfl (by intro z;cases z) (by decide)))
      (zB (Ju PassesOwn.never (pt_truth (pv 4) (fun _=>rfl)) (zB (zG (i:=6) Zi.nd rfl (Or.inl rfl) (zU (call_minT rfl hu) (by rfl) T.b_min (by decide +kernel) (zA (pv 4) zC)))
      (zB (zo (q0 PySem.F.plainAttrs_list PySem.F.slot_list_remove PySem.F.type_list_remove (mt_removeT hu64) (pv 4) (zA (pv 6) zC)))
      (zB (zo (q0 PySem.F.plainAttrs_list PySem.F.slot_list_append PySem.F.type_list_append qJ (pv 3) (zA (pv 6) zC)))
      (zB (zf (zAx (zBb hu (zN zg (pv 6) zE (fun _ _=>rfl)) (pv 2))) (zD (zH (pv 3))) zP)
      (zD (ZQ PassesOwn.never rfl (ZL (zV f_neighbours hr (zA (zF (pv 0) rfl) (zA (zN zg (pv 6) zE (fun _ _=>rfl)) zC)))) (zX (i:=7) Zi.nd rfl (Or.inl rfl)) (zD (zf (zAx (JH hu (pv 7) (pv 5))) (zB (Qv hu (pv 5) (pv 7) jS rfl)
      (zD (zo (q0 PySem.F.plainAttrs_list PySem.F.slot_list_append PySem.F.type_list_append qJ (pv 4) (zA (zV f_shore_cell hr (zA (pv 0) (zA (pv 7) zC))) zC))))) zP)))))))))
      (zD (zH (pv 3))))))),?_⟩
    refine st0 (σ0:=[some _,some _,some _,none,none,none,none,none]) rfl ?_
    try dsimp only[cxOf]
    walk_at "rd"
    walk_at "new"
    rename_i p hp H1 f1 s1
    walk_at "rd"
    refine⟨wd,g,da,ps,kd,ch,cd,s0,k0,rfl,W.same s1,hk0,fun H2 t0 W2 e2 f2=>?_⟩
    walk_at "rd"
    walk_at "new"
    rename_i q hq H3 f3 s3
    have e3:Ext da H H3:=Ext.sameR s1 (e2.sameL s3)
    have W3:=W2.same s3
    have p3:=s3 _ _ (Ext.at ((W.same s1).gr) e2 f1 (fun z q=>by cases q))
    have npq:p≠q:=fun z=>by
      have p2:=Ext.at ((W.same s1).gr) e2 f1 (fun z q=>by cases q)
      rw[z,hq] at p2
      cases p2
    walk_at "rd"
    intro r hr0
    apply Ze hr0
    intro H4 z4 f4 s4
    rw[z4]
    clear z4
    refine⟨_,rfl,?_⟩
    show _/\∃kvs:List (L2.Key×V),_
    refine⟨f4,[(Sum.inl (k0:Int),V.bl true)],rfl,by simp,?_⟩
    rw[show mergeK [] [((Sum.inl (k0:Int):L2.Key),V.bl true)]=mkR [k0] from rfl]
    apply ZI
    intro H5 z5 f5 e5
    rw[z5]
    clear z5
    have s5:Same H3 H5:=fun b o hb=>e5 _ _ (s4 _ _ hb) (fun z=>by rw[z,hr0] at hb;cases hb)
    have e5':Ext da H H5:=e3.sameL s5
    have W5:=W3.same s5
    have had5:H5 ad=some (.dK akv):=Ext.at W.gr e5' had (fun z q=>by cases q)
    have nra:r≠ad:=fun z=>by
      have:=Ext.at W.gr e3 had (fun z q=>by cases q)
      rw[<-z,hr0] at this
      cases this
    have fp5:=s5 _ _ p3
    have fq5:=s5 _ _ f3
    have f25:=s5 _ _ (s3 _ _ f2)
    have hpH:H p=none:=hp
    have hqH:H q=none:=by
      have:H2 q=none:=hq
      exact Ext.none_of (A:=A) W2.gr (Ext.sameR s1 e2) this
    have hrH:H r=none:=Ext.none_of (A:=A) W3.gr e3 hr0
    walk_at "rd"
    let μ:L2.St->Hp->Nat:=fun _ H'=>match H' p with|some (.lst ts)=>s0.w*s0.d - ts.length|_=>0
    let Inv:List Nat->List Nat->List Nat->Hp->Prop:=fun wet sh L H'=>WoX A H' wd g da ps kd ch cd s0/\Ext da H H'/\H' ad=some (.dK akv)/\CellsAt H' p (wet.map (hn s0))/\CellsAt H' q (sh.map (hn s0))/\H' r=some (.dK (mkR L))/\L.Nodup/\(∀n∈L,n<s0.w*s0.d)
    refine Ji (fun σ H'=>∃(wet sh L:List Nat) (v6 v7:Option V),σ=[some (.ref wd),some (.int k0),some (.ref ad),some (.ref p),some (.ref q),some (.ref r),v6,v7]/\Inv wet sh L H'/\(∀n,n∈L↔n∈wet\/n∈sh)/\Gm.Flows s0 (Vbwsan.heights s0) goal (Vbwsan.wetFrom s0 goal k0) wet sh) μ
      ⟨[],[k0],[k0],none,none,rfl,⟨W5,e5',had5,⟨[],fp5,.nil⟩,⟨[.ref t0],fq5,.cons ⟨t0,rfl,f25⟩ .nil⟩,f5,by simp,by simpa using hk0⟩,by simp,Gm.Flows.start hk0⟩ ?_ ?_
    . rintro σ H' ⟨wet, sh, L, v6, v7, rfl, ⟨W6, e6, a6, cw, cs, r6, nL, bL⟩, hL, fl⟩
      obtain⟨ts,q6,pz⟩:=cells_pairs cs
      have lts:ts.length=sh.length:=by rw[Paired.length pz,List.length_map]
      refine⟨V.ref q,rfl,!ts.isEmpty,?_,?_⟩
      . exact .inl ⟨ts,SqL.of q6,rfl⟩
      cases hte:ts with
      | nil =>
        rw[if_neg (by simp)]
        have hsh:sh=[]:=by
          cases sh with
          |nil=>rfl
          |cons=>rw[hte] at lts;simp at lts
        subst hsh
        have hd:=fl.done
        subst hd
        walk_at "rd"
        exact k _ _ W6 e6 cw
      | cons tt tr =>
        rw[if_pos (by simp)]
        have hpos:0<(sh.map fun n=>(((Gm.hgt s0 n:Nat):Int),(n:Int))).length:=by rw[List.length_map,<-lts,hte];simp
        walk_at "rd"
        refine⟨q,ts,_,rfl,q6,pz,hpos,fun j t pp hj hpp hmin=>?_⟩
        obtain⟨kk,hkk,rfl⟩:∃kk,sh[j]?=some kk/\pp=(((Gm.hgt s0 kk:Nat):Int),(kk:Int)):=by
          rw[List.getElem?_map] at hpp
          obtain⟨kk,h1,h2⟩:=Option.map_eq_some_iff.mp hpp
          exact⟨kk,h1,h2.symm⟩
        obtain⟨_,y1,ta,rfl,hta⟩:=ZK pz hj
        rw[hpp] at y1
        cases y1
        have hkm:kk∈sh:=List.mem_of_getElem? hkk
        obtain⟨lw,lk,nw,bw,bsh,nsh⟩:=fl.lt hkm
        have hfirst:∀i,i<j->(sh.map fun n=>(((Gm.hgt s0 n:Nat):Int),(n:Int)))[i]?≠some (((Gm.hgt s0 kk:Nat):Int),(kk:Int)):=fun i hi z=>by
          rw[List.getElem?_map] at z
          obtain⟨m,h1,h2⟩:=Option.map_eq_some_iff.mp z
          have h3:(m:Int)=kk:=(Prod.mk.inj h2).2
          obtain rfl:m=kk:=by omega
          have:=(List.getElem?_inj (List.getElem?_eq_some_iff.mp h1).1 nsh).mp (h1.trans hkk.symm)
          omega
        have hleast:∀m∈sh,m=kk\/Vbwsan.lessCell (Vbwsan.heights s0) kk m=true:=fun m hm=>by
          have h1:=hmin _ (List.mem_map.mpr ⟨m,hm,rfl⟩)
          dsimp only at h1
          rw[Gm.jx,Gm.QI lk,Gm.QI (bsh m hm).1]
          omega
        obtain⟨_,hkw,tgoal,tno⟩:=fl.turn hkm hleast
        walk_at "rd"
        refine Zv q6 ?_
        walk_at "rd"
        refine⟨q,ts,_,.ref ta,_,j,rfl,rfl,q6,pz,⟨ta,rfl,hta⟩,hpp,hfirst,?_⟩
        have cs7:=CellsAt.erase q6 cs j
        have cw7:=CellsAt.other (o:=.lst (ts.eraseIdx j)) cw q6 npq
        have W7:=W6.grow (o:=.lst (ts.eraseIdx j)) q6
        have e7':=Zo (o:=.lst (ts.eraseIdx j)) e6 hqH
        generalize hH7:upd H' q (.lst (ts.eraseIdx j))=H7 at cs7 cw7 W7 e7'
        have nq:∀b o,H' b=some o->b≠q->H7 b=some o:=fun b o hb n=>by rw[<-hH7,zI n];exact hb
        have hta7:=nq _ _ hta (za hta q6 (by intro z;cases z))
        have a7:=nq _ _ a6 (za a6 q6 (by intro z;cases z))
        have r7:=nq _ _ r6 (za r6 q6 (by intro z;cases z))
        obtain⟨ws,w7,pw7⟩:=id cw7
        have lws:=LAt.len w7 cw7
        rw[List.length_map] at lws
        walk_at "rd"
        refine Zv w7 ?_
        walk_at "rd"
        refine qI w7 (by rw[lws];exact small (by omega)) ?_
        have cw8:CellsAt (upd H7 p (.lst (ws++[.ref ta]))) p ((wet++[kk]).map (hn s0)):=by
          rw[List.map_append]
          exact LAt.snoc zh w7 pw7 ⟨ta,rfl,hta7⟩
        have cs8:=CellsAt.other (o:=.lst (ws++[.ref ta])) cs7 w7 (Ne.symm npq)
        have W8:=W7.grow (o:=.lst (ws++[.ref ta])) w7
        have e8':=Zo (o:=.lst (ws++[.ref ta])) e7' hpH
        have mu8:μ [] (upd H7 p (.lst (ws++[.ref ta])))<μ [] H':=by
          obtain⟨us,u1,u2⟩:=cw
          have l1:us.length=wet.length:=by rw[Paired.length u2,List.length_map]
          show(match upd H7 p (.lst (ws++[.ref ta])) p with|some (.lst ts)=>s0.w*s0.d - ts.length|_=>0)<(match H' p with|some (.lst ts)=>s0.w*s0.d - ts.length|_=>0)
          rw[zJ,u1]
          dsimp only
          rw[List.length_append,lws,l1]
          exact Nat.sub_lt_sub_left lw (Nat.lt_succ_self _)
        generalize hH8:upd H7 p (.lst (ws++[.ref ta]))=H8 at cw8 cs8 W8 e8' mu8
        have np8:∀b o,H7 b=some o->b≠p->H8 b=some o:=fun b o hb n=>by rw[<-hH8,zI n];exact hb
        have hta8:=np8 _ _ hta7 (za hta7 w7 (by intro z;cases z))
        have a8:=np8 _ _ a7 (za a7 w7 (by intro z;cases z))
        have r8:=np8 _ _ r7 (za r7 w7 (by intro z;cases z))
        obtain⟨dg8,hg8⟩:=W8.gr.ins
        obtain⟨dx8,hw8⟩:=W8.ins
        walk_at "rd"
        refine jI (DGet.k (k:=Sum.inl (kk:Int)) a8) ?_
        walk_at "rd"
        rw[hgoal kk lk]
        with_reducible refine zR (fun hg=>?_) (fun hg=>?_)
        . walk_at "rd"
          have:=tgoal hg
          refine k _ _ W8 e8' ?_
          rw[<-this]
          exact cw8
        . have tno:=tno hg
          walk_at "rd"
          refine⟨g,dg8,da,s0.seed,s0.w,s0.d,kk,rfl,hg8,W8.gr.wd,W8.gr.dp,lk,fun H9 nl s9 hnl f9=>?_⟩
          refine zq (SqL.of f9) ?_
          have hpm:∀{x:Nat} {i:Nat},(Gm.nbs s0.w s0.d kk)[i]?=some x->x<s0.w*s0.d:=fun {x i} hx=>Gm.nb_lt gside lk (Gm.jM.mp (List.mem_of_getElem? hx))
          have nlp:nl≠p/\nl≠q:=⟨fun z=>(by obtain⟨_,y,_⟩:=cw8;rw[<-z,hnl] at y;cases y),fun z=>(by obtain⟨_,y,_⟩:=cs8;rw[<-z,hnl] at y;cases y)⟩
          refine qi (xs:=(Gm.nbs s0.w s0.d kk).map fun i:Nat=>V.int (i:Int)) (fun i σ H'=>∃(sh2 L2:List Nat) (v7:Option V),σ=[some (.ref wd),some (.int k0),some (.ref ad),some (.ref p),some (.ref q),some (.ref r),some (.ref ta),v7]/\Inv (wet++[kk]) sh2 L2 H'/\H' nl=some (.lst ((Gm.nbs s0.w s0.d kk).map fun i:Nat=>V.int (i:Int)))/\
              (∀ws2,H8 p=some (.lst ws2)->H' p=some (.lst ws2))/\sh2.Nodup/\(∀n,n∈sh2↔(n∈sh/\n≠kk)\/(n∈(Gm.nbs s0.w s0.d kk).take i/\n ∉ wet/\n≠kk))/\(∀n,n∈L2↔n∈wet++[kk]\/n∈sh2))
            ⟨sh.eraseIdx j,L,v7,rfl,⟨W8.same s9,e8'.sameL s9,s9 _ _ a8,cw8.same zh s9,?_,s9 _ _ r8,nL,bL⟩,f9,fun ws2 z=>s9 _ _ z,Gm.nodup_erase j nsh,?_,?_⟩ (fun i σ H' _ ⟨_,_,_,_,_,z,_⟩=>SqL.of z) ?_ ?_
          . have:(sh.map (hn s0)).eraseIdx j=(sh.eraseIdx j).map (hn s0):=jN _ _ _
            rw[<-this]
            exact cs8.same zh s9
          . intro n
            rw[Gm.JK nsh hkk]
            simp
          . intro n
            rw[hL,Gm.JK nsh hkk,List.mem_append,List.mem_singleton]
            constructor
            . rintro (z|z)
              . exact .inl (.inl z)
              . by_cases c:n=kk
                . exact .inl (.inr c)
                . exact .inr ⟨z,c⟩
            . rintro ((z|z)|z)
              . exact .inl z
              . exact .inr (z▸hkm)
              . exact .inr z.1
          . rintro i x σ H' hx ⟨sh2,L2,v7,rfl,⟨Wa,ea,aa,cwa,csa,ra,nLa,bLa⟩,fa,fpa,nsa,msa,mLa⟩
            obtain⟨n,hnn,rfl⟩:∃n,(Gm.nbs s0.w s0.d kk)[i]?=some n/\x=V.int (n:Int):=by
              rw[List.getElem?_map] at hx
              obtain⟨n,h1,h2⟩:=Option.map_eq_some_iff.mp hx
              exact⟨n,h1,h2.symm⟩
            have hnb:=hpm hnn
            have hv:=Ja L2 n
            have mt:∀m,m∈(Gm.nbs s0.w s0.d kk).take (i+1)↔m∈(Gm.nbs s0.w s0.d kk).take i\/m=n:=fun m=>by rw[zZ hnn,List.mem_append,List.mem_singleton]
            walk_at "rd"
            refine jI (DGet.k (k:=Sum.inl (n:Int)) ra) ?_
            walk_at "rd"
            rw[hv]
            with_reducible refine zR (fun hz=>?_) (fun hz=>?_)
            . have hnL:n ∉ L2:=by rw[Bool.not_eq_true',decide_eq_false_iff_not] at hz;exact hz
              have hnw:n ∉ wet/\n≠kk/\n ∉ sh2:=by
                have h1:=mt n
                have h2:¬ (n∈wet++[kk]\/n∈sh2):=fun z=>hnL ((mLa n).mpr z)
                rw[List.mem_append,List.mem_singleton] at h2
                exact⟨fun z=>h2 (.inl (.inl z)),fun z=>h2 (.inl (.inr z)),fun z=>h2 (.inr z)⟩
              have lL:L2.length<=s0.w*s0.d:=by
                have:=nLa.length_le_of_subset (l₂:=List.range (s0.w*s0.d)) fun m hm=>List.mem_range.mpr (bLa m hm)
                simpa using this
              walk_at "rd"
              refine qz (DPut.k (k:=Sum.inl (n:Int)) ra (by rw[zBq];exact small (by omega))) ?_
              rw[zBp hnL]
              apply ZI
              intro Hb zb fb eb
              rw[zb]
              clear zb
              have kb:Keeps H' Hb:=eb.keeps ra (fun z=>z)
              have lb:∀b ts,H' b=some (.lst ts)->Hb b=some (.lst ts):=fun b ts hb=>eb _ _ hb (za hb ra (by intro z;cases z))
              have db:∀b ts,H' b=some (.dT ts)->Hb b=some (.dT ts):=fun b ts hb=>eb _ _ hb (za hb ra (by intro z;cases z))
              have Wb:WoX A Hb wd g da ps kd ch cd s0:=by
                obtain⟨⟨dxa,h1⟩,⟨⟨dga,h2⟩,⟨kg,h3,h4⟩,h5,h6⟩,h7,h8,n1,n2,n3,h9⟩:=Wa
                exact⟨⟨dxa,kb _ _ h1 trivial⟩,⟨⟨dga,kb _ _ h2 trivial⟩,⟨kg,db _ _ h3,h4⟩,h5,h6⟩,h7.keep kb (fun b kvs hb _=>db _ _ hb) n1,h8.keep kb fun kvs hb=>db _ _ hb,n1,n2,n3,h9⟩
              have eb':Ext da H Hb:=fun b o hb nb=>eb _ _ (ea _ _ hb nb) (fun z=>by rw[z,hrH] at hb;cases hb)
              have csb:=csa.keep zh kb fun us z=>lb _ _ z
              have qb:∃us,Hb q=some (.lst us):=let ⟨us,z,_⟩:=csb;⟨us,z⟩
              obtain⟨us,hus⟩:=qb
              walk_at "rd"
              refine Zv hus ?_
              walk_at "rd"
              refine⟨wd,g,da,ps,kd,ch,cd,s0,n,rfl,Wb,hnb,fun Hc tc Wc ec fc=>?_⟩
              have csc:=csb.ext zh Wb.gr ec
              have cwc:=(cwa.keep zh kb fun us z=>lb _ _ z).ext zh Wb.gr ec
              obtain⟨us2,u1,u2⟩:=id csc
              have lus:=LAt.len u1 csc
              rw[List.length_map] at lus
              have lsh2:sh2.length<=s0.w*s0.d:=by
                have:=nsa.length_le_of_subset (l₂:=List.range (s0.w*s0.d)) fun m hm=>List.mem_range.mpr (bLa m ((mLa m).mpr (.inr hm)))
                simpa using this
              have u1':Hc q=some (.lst us):=Ext.at Wb.gr ec hus (fun z q=>by cases q)
              rw[u1] at u1'
              cases u1'
              walk_at "rd"
              refine qI u1 (by rw[lus];exact small (by omega)) ?_
              have fb':=Ext.at Wb.gr ec fb (fun z q=>by cases q)
              refine⟨sh2++[n],L2++[n],_,rfl,⟨Wc.grow u1,Zo (eb'.trans ec) hqH,?_,CellsAt.other cwc u1 npq,?_,?_,?_,?_⟩,?_,?_,?_,?_,?_⟩
              . have:=Ext.at Wb.gr ec (eb _ _ aa (Ne.symm nra)) (fun z q=>by cases q)
                rw[zI (za this u1 (by intro z;cases z))]
                exact this
              . rw[List.map_append]
                exact LAt.snoc zh u1 u2 ⟨tc,rfl,fc⟩
              . rw[zI (za fb' u1 (by intro z;cases z))]
                exact fb'
              . rw[List.nodup_append]
                exact⟨nLa,by simp,fun a ha b hb z=>by simp at hb;exact hnL (by rw[<-hb,<-z];exact ha)⟩
              . intro m hm
                rcases List.mem_append.mp hm with hm|hm
                . exact bLa m hm
                . rw[List.mem_singleton.mp hm];exact hnb
              . have:=Ext.at Wb.gr ec (lb _ _ fa) (fun z q=>by cases q)
                rw[zI nlp.2]
                exact this
              . intro ws2 z
                rw[zI npq]
                exact Ext.at Wb.gr ec (lb _ _ (fpa _ z)) (fun z q=>by cases q)
              . rw[List.nodup_append]
                exact⟨nsa,by simp,fun a ha b hb z=>by simp at hb;exact hnw.2.2 (by rw[<-hb,<-z];exact ha)⟩
              . intro m
                rw[List.mem_append,List.mem_singleton,msa,mt]
                constructor
                . rintro ((z|z)|rfl)
                  . exact .inl z
                  . exact .inr ⟨.inl z.1,z.2⟩
                  . exact .inr ⟨.inr rfl,hnw.1,hnw.2.1⟩
                . rintro (z|⟨z|z,z2⟩)
                  . exact .inl (.inl z)
                  . exact .inl (.inr ⟨z,z2⟩)
                  . exact .inr z
              . intro m
                rw[List.mem_append,List.mem_singleton,mLa,List.mem_append (s:=sh2),List.mem_singleton]
                constructor
                . rintro ((z|z)|z)
                  . exact .inl z
                  . exact .inr (.inl z)
                  . exact .inr (.inr z)
                . rintro (z|z|z)
                  . exact .inl (.inl z)
                  . exact .inl (.inr z)
                  . exact .inr z
            . have hnL:n∈L2:=by rw[Bool.not_eq_false',decide_eq_true_iff] at hz;exact hz
              walk_at "rd"
              refine⟨sh2,L2,_,rfl,⟨Wa,ea,aa,cwa,csa,ra,nLa,bLa⟩,fa,fpa,nsa,fun m=>?_,mLa⟩
              rw[msa,mt]
              constructor
              . rintro (z|z)
                . exact .inl z
                . exact .inr ⟨.inl z.1,z.2⟩
              . rintro (z|⟨z|rfl,z2⟩)
                . exact .inl z
                . exact .inr ⟨z,z2⟩
                . rcases (mLa m).mp hnL with y|y
                  . rw[List.mem_append,List.mem_singleton] at y
                    rcases y with y|y
                    . exact absurd y z2.1
                    . exact absurd y z2.2
                  . exact(msa m).mp y
          . rintro σ H' ⟨sh2,L2,v7,rfl,Ia,fa,fpa,nsa,msa,mLa⟩
            rw[List.length_map,List.take_length] at msa
            refine⟨⟨wet++[kk],sh2,L2,_,_,rfl,Ia,mLa,tno sh2 nsa (fun n=>by rw[msa,Gm.jM]) gside⟩,?_⟩
            obtain⟨ws2,z1,_⟩:=cw8
            have z2:=fpa _ z1
            have:μ [] H'=μ [] H8:=by
              show(match H' p with|some (.lst ts)=>s0.w*s0.d - ts.length|_=>0)=(match H8 p with|some (.lst ts)=>s0.w*s0.d - ts.length|_=>0)
              rw[z1,z2]
            show μ [] H'<_
            rw[this]
            exact mu8
    . rintro σ H' R R' hRR ⟨v,e1,kk,h1,h2⟩
      exact⟨v,e1,kk,h1,hRR _ _ h2⟩
def sp_pass_of:Sp:=fun vs H Q _=>∃(p:Addr) (s:Vbwsan.State) (l:List Nat),vs=[.ref p]/\CellsAt H p (l.map (hn s))/\l≠[]/\l.length<=10000/\∀H',Same H H'->Q (.int (Vbwsan.passOf s l:Nat)) H'
abbrev s_pass_of:Stmt:=top 69
theorem jf:FnScope ["wet","cell"] ["wet"] (defScope s_pass_of):=⟨rfl,rfl,rfl,by decide +kernel,rfl,by decide +kernel,by decide +kernel⟩
theorem ok_pass_of {f : Addr} {fd : FuncData} (F : Fun K "pass_of" "pass_of" s_pass_of f fd) (T : Glb K mg A) : FnOk P w K mg base CX0 1 f fd ["wet"] sp_pass_of := by
  refine F.ok jf (fun vs H Q E h=>?_) (fun cdv Ar outer s H vs Q E hr h=>?_)
  . obtain⟨p,s,l,rfl,_⟩:=h
    rfl
  . obtain⟨p,s0,l,rfl,c,hne,hlen,k⟩:=h
    obtain⟨ts,c1,c2⟩:=id c
    have lts:=LAt.len c1 c
    rw[List.length_map] at lts
    refine⟨_,(zD (zH (zU (zAG rfl) (by rfl) T.b_max (by decide +kernel) (zA (Jw (own:=[("cell",1)]) rfl jf.nd (ZL (pv 0)) (qT (by rfl)) (fun _ _ _ _ _=>(zX (i:=1) jf.nd rfl (Or.inl rfl))) (fun _ _ _ _ _=>Qu) (fun _ _ _ _ _=>(zN (show IxR _ (rIxT K) from zg) (pv 1) zE (fun _ _=>rfl)))) zC)))),?_⟩
    refine st0 (σ0:=[some _,none]) rfl ?_
    try dsimp only[cxOf]
    walk_at "rd"
    refine zq (SqL.of c1) ?_
    refine Qz (xs:=ts) rfl (fun D i H'=>Same H H'/\H' D=some (.lst (((l.take i).map fun n=>((Gm.hgt s0 n:Nat):Int)).map V.int))) fun D hD=>⟨⟨ZU hD,zJ⟩,fun i H' p=>SqL.of (p.1 _ _ c1),?_,?_⟩
    . rintro i v H' hv ⟨s1,f1⟩
      obtain⟨cc,hc,q,rfl,hq⟩:=ZO c2 hv
      obtain⟨n,hnn,rfl⟩:∃n,l[i]?=some n/\cc=hn s0 n:=by
        rw[List.getElem?_map] at hc
        obtain⟨n,h1,h2⟩:=Option.map_eq_some_iff.mp hc
        exact⟨n,h1,h2.symm⟩
      have hq1:=s1 _ _ hq
      refine zCJ ⟨rfl,?_⟩
      walk_at "rd"
      refine qS f1 (by rw[List.length_map,List.length_map,List.length_take];exact small (by omega)) ⟨qC s1 hD,?_⟩
      rw[zJ,zZ hnn,List.map_append,List.map_append]
      rfl
    . rintro H' ⟨s1,f1⟩
      rw[lts,List.take_length] at f1
      walk_at "rd"
      refine⟨D,_,rfl,SqL.of f1,by rw[List.length_map];exact List.length_pos_iff.mpr hne,fun m hm hy=>?_⟩
      obtain⟨n,hnm,rfl⟩:=List.mem_map.mp hm
      have q:=k _ s1
      have e:Vbwsan.passOf s0 l=Gm.hgt s0 n:=by
        unfold Vbwsan.passOf
        refine Gm.JJ (List.mem_map.mpr ⟨n,hnm,rfl⟩) fun y hy2=>?_
        obtain⟨n2,h1,rfl⟩:=List.mem_map.mp hy2
        have:=hy _ (List.mem_map.mpr ⟨n2,h1,rfl⟩)
        unfold Gm.hgt at this ⊢
        omega
      rw[e] at q
      exact q
end
end Gs
namespace Gs
open PySem PySem.Spec PyProof.Rows L2
section
variable{P:Program}{w:World}{K:PySem.W.Frag}{mg:Str->Option Value}{base:Heap}{A:Ads}
abbrev natsV(l:List Nat):List V:=l.map fun n:Nat=>V.int (n:Int)
theorem natsV_snoc(l:List Nat)(n:Nat):natsV (l++[n])=natsV l++[V.int (n:Int)]:=List.map_append
theorem zAb(l:List Nat):(natsV l).all flatV=true:=by
  rw[List.all_eq_true]
  intro x hx
  obtain⟨n,_,rfl⟩:=List.mem_map.mp hx
  rfl
theorem inV_nats(l:List Nat)(k:Nat):inV (.int k) (natsV l)=decide (k∈l):=by
  refine Bool.eq_iff_iff.mpr ?_
  unfold inV
  rw[List.any_eq_true,decide_eq_true_iff]
  constructor
  . rintro ⟨x,hx,h⟩
    obtain⟨n,hn,rfl⟩:=List.mem_map.mp hx
    have:(n:Int)=k:=by simpa [eqV] using h
    obtain rfl:n=k:=by omega
    exact hn
  . exact fun h=>⟨_,List.mem_map.mpr ⟨k,h,rfl⟩,by simp[eqV]⟩
theorem zAH{s:Vbwsan.State}:∀{ns:List Nat},Vbwsan.connected s ns=true↔∀i a b,ns[i]?=some a->ns[i+1]?=some b->b∈Vbwsan.neighbours s a
  |[]=>by simp[Vbwsan.connected]
  |[a]=>by simp[Vbwsan.connected]
  | a :: b :: r => by
    unfold Vbwsan.connected
    rw[Bool.and_eq_true,List.contains_iff_mem,zAH]
    constructor
    . rintro ⟨h1,h2⟩ i x y hx hy
      cases i with
      |zero=>cases hx;cases hy;exact h1
      |succ i=>exact h2 i x y hx hy
    . intro h
      exact⟨h 0 a b rfl rfl,fun i x y hx hy=>h (i+1) x y hx hy⟩
def sp_is_way(A:Ads):Sp:=fun vs H Q _=>∃(g dx da l:Addr) (s:Vbwsan.State) (ns:List Nat),vs=[.ref g,.ref l]/\H g=some (.ins A.C_Ground dx (groundF s.seed s.w s.d da))/\Side s.w/\Side s.d/\H l=some (.lst (natsV ns))/\ns.length<=1000/\(∀n∈ns,n<s.w*s.d)/\
  ∀H',Same H H'->Q (.bl (Vbwsan.connected s ns)) H'
abbrev s_is_way:Stmt:=top 71
theorem zAP:FnScope ["ground","row","at"] ["ground","row"] (defScope s_is_way):=⟨rfl,rfl,rfl,by decide +kernel,rfl,by decide +kernel,by decide +kernel⟩
theorem ok_is_way {f : Addr} {fd : FuncData} (F : Fun K "is_way" "is_way" s_is_way f fd) (T : Glb K mg A) (f_neighbours : FnAt P w K mg base 2 "neighbours" ["ground", "number"] (sp_neighbours A)) : FnOk P w K mg base CX0 3 f fd ["ground", "row"] (sp_is_way A) := by
  refine F.ok zAP (fun vs H Q E h=>?_) (fun cdv Ar outer s H vs Q E hr h=>?_)
  . obtain⟨g,dx,da,l,s,ns,rfl,_⟩:=h
    rfl
  . obtain⟨g,dx,da,l,s0,ns,rfl,hg,sw,sd,hl,hlen,hb,k⟩:=h
    refine⟨_,(zB (ZQ PassesOwn.never rfl (QX rfl T.b_range (zA zE (zA (zU ZS (by rfl) T.b_len PySem.boot_len (zA (pv 1) zC)) zC))) (zX (i:=2) zAP.nd rfl (Or.inl rfl)) (zD (zf (zn Qx (zN zO (pv 1) (pv 2) (fun _ _=>rfl)) (zV f_neighbours hr (zA (pv 0) (zA (zN zO (pv 1) (zK ZR (pv 2) zE) (fun _ _=>rfl)) zC))) (by with_unfolding_all rfl)) (zD (zH jS)) zP)))
      (zD (zH jS))),?_⟩
    refine st0 (σ0:=[some _,some _,none]) rfl ?_
    try dsimp only[cxOf]
    walk_at "rd"
    refine⟨l,_,rfl,.inl (SqL.of hl),?_⟩
    refine QW (by rw[List.length_map];omega) ?_
    rw[List.length_map]
    refine QB (fun i σ H'=>∃v2:Option V,σ=[some (.ref g),some (.ref l),v2]/\Same H H'/\∀j a b,j<i->ns[j]?=some a->ns[j+1]?=some b->b∈Vbwsan.neighbours s0 a) ⟨none,rfl,Same.refl _,by simp⟩ ?_ ?_
    . rintro i σ H' hi ⟨v2,rfl,s1,h1⟩
      have hi':i+1<ns.length:=by omega
      obtain⟨b,hbb⟩:∃b,ns[i+1]?=some b:=⟨_,List.getElem?_eq_getElem hi'⟩
      obtain⟨a,haa⟩:∃a,ns[i]?=some a:=⟨_,List.getElem?_eq_getElem (show i<ns.length by omega)⟩
      have hl1:=s1 _ _ hl
      walk_at "rd"
      refine QQ (SqL.of hl1) (j4 (j:=i+1) (v:=V.int (b:Int)) (by omega) (by rw[List.getElem?_map,hbb];rfl)) ?_
      walk_at "rd"
      refine QQ (SqL.of hl1) (j4 (j:=i) (v:=V.int (a:Int)) (by omega) (by rw[List.getElem?_map,haa];rfl)) ?_
      walk_at "rd"
      refine⟨g,dx,da,s0.seed,s0.w,s0.d,a,rfl,s1 _ _ hg,sw,sd,hb a (List.mem_of_getElem? haa),fun H2 p s2 hp f2=>?_⟩
      walk_at "rd"
      refine rd_ninL (SqL.of f2) rfl (zAb _) ?_
      rw[inV_nats]
      walk_at "rd"
      with_reducible refine zR (fun hz=>?_) (fun hz=>?_)
      . walk_at "rd"
        rw[Bool.not_eq_true',decide_eq_false_iff_not] at hz
        have q:=k _ (s1.trans s2)
        have e:Vbwsan.connected s0 ns=false:=Bool.eq_false_iff.mpr fun z=>hz (Gm.jM.mpr (zAH.mp z i a b haa hbb))
        rw[e] at q
        exact q
      . walk_at "rd"
        rw[Bool.not_eq_false',decide_eq_true_iff] at hz
        refine⟨_,rfl,s1.trans s2,fun j x y hj hx hy=>?_⟩
        by_cases c:j=i
        . subst c
          rw[haa] at hx
          rw[hbb] at hy
          cases hx
          cases hy
          exact Gm.jM.mp hz
        . exact h1 j x y (by omega) hx hy
    . rintro σ H' ⟨v2,rfl,s1,h1⟩
      walk_at "rd"
      have q:=k _ s1
      have e:Vbwsan.connected s0 ns=true:=zAH.mpr fun i a b ha hb2=>h1 i a b (by
        have:=(List.getElem?_eq_some_iff.mp hb2).1
        omega) ha hb2
      rw[e] at q
      exact q
def inReach(s:Vbwsan.State)(k h:Nat):List Nat:=Vbwsan.within s (Vbwsan.heights s) h (s.w*s.d+1) [k] [k]
def Z0(A:Ads):Sp:=fun vs H Q _=>∃(wd g da ps kd ch cd:Addr) (s:Vbwsan.State) (k0 h:Nat),vs=[.ref wd,.int k0,.int h]/\WoX A H wd g da ps kd ch cd s/\k0<s.w*s.d/\
  ∀H' p fs,WoX A H' wd g da ps kd ch cd s->Ext da H H'->H' p=some (.lst (natsV fs))->fs.length<=5000->(∀n∈fs,n<s.w*s.d)->((h<Gm.hgt s k0/\fs=[])\/(¬ h<Gm.hgt s k0/\fs.length=(inReach s k0 h).length/\∀p:Nat->Bool,fs.any p=(inReach s k0 h).any p))->Q (.ref p) H'
abbrev s_cells_in_reach:Stmt:=top 72
theorem zl:FnScope ["world","start","most","found","reached","at","here","number"] ["world","start","most"] (defScope s_cells_in_reach):=⟨rfl,rfl,rfl,by decide +kernel,rfl,by decide +kernel,by decide +kernel⟩
theorem ok_cells_in_reach {f : Addr} {fd : FuncData} (F : Fun K "cells_in_reach" "cells_in_reach" s_cells_in_reach f fd) (T : Glb K mg A) (m_World_height_of : MtAt P w K mg base 8 A.C_World "height_of" ["self", "number"] (sp_height_of A)) (f_neighbours : FnAt P w K mg base 2 "neighbours" ["ground", "number"] (sp_neighbours A)) :
    FnOk P w K mg base CX0 9 f fd ["world","start","most"] (Z0 A):=by
  refine F.ok zl (fun vs H Q E h=>?_) (fun cdv Ar outer s H vs Q E hr h=>?_)
  . obtain⟨wd,g,da,ps,kd,ch,cd,s,k0,h0,rfl,_⟩:=h
    rfl
  . obtain ⟨wd, g, da, ps, kd, ch, cd, s0, k0, h0, rfl, W, hk0, k⟩ := h
    have hu:=ZB hr
    obtain⟨dx,hw⟩:=W.ins
    obtain⟨hw1,hw2,hd1,hd2⟩:=W.gr.le
    have hwd:s0.w*s0.d<=32*32:=zk hw2 hd2
    have gside:Gm.Side s0.w:=W.gr.wd
    refine⟨_,(zB (zf (zn zBM (zT (pv 0) T.c_World m_World_height_of hr (zA (pv 1) zC)) (pv 2) (nomark _)) (zD (zH (zQ zC))) zP)
      (zB (zG (i:=3) zl.nd rfl (Or.inl rfl) (zQ (zA (pv 1) zC)))
      (zB (zG (i:=4) zl.nd rfl (Or.inl rfl) (zAz (Jv (pv 1) jS zAy) rfl rfl (by intro z;cases z) (by decide)))
      (zB (zG (i:=5) zl.nd rfl (Or.inl rfl) zE)
      (zB (Ju PassesOwn.never (zn jT (pv 5) (zU ZS (by rfl) T.b_len PySem.boot_len (zA (pv 3) zC)) (nomark _)) (zB (zG (i:=6) zl.nd rfl (Or.inl rfl) (zN zO (pv 3) (pv 5) (fun _ _=>rfl)))
      (zB (ps_aug (i:=5) zl.nd rfl (Or.inl rfl) zE J9)
      (zD (ZQ PassesOwn.never rfl (ZL (zV f_neighbours hr (zA (zF (pv 0) rfl) (zA (pv 6) zC)))) (zX (i:=7) zl.nd rfl (Or.inl rfl)) (zD (zf (zAw (zAx (JH hu (pv 7) (pv 4))) (zAv (zn z9 (zT (pv 0) T.c_World m_World_height_of hr (zA (pv 7) zC)) (pv 2) (nomark _)))).pt (zB (Qv hu (pv 4) (pv 7) jS rfl)
      (zD (zo (q0 PySem.F.plainAttrs_list PySem.F.slot_list_append PySem.F.type_list_append qJ (pv 3) (zA (pv 7) zC))))) zP)))))))
      (zD (zH (pv 3)))))))),?_⟩
    refine st0 (σ0:=[some _,some _,some _,none,none,none,none,none]) rfl ?_
    try dsimp only[cxOf]
    walk_at "rd"
    refine⟨wd,g,da,ps,kd,ch,cd,s0,k0,rfl,W,hk0,fun H1 W1 e1=>?_⟩
    walk_at "rd"
    rw[show Vbwsan.heightAt s0 (k0%s0.w) (k0 / s0.w)=Gm.hgt s0 k0 from rfl]
    with_reducible refine zR (fun hz=>?_) (fun hz=>?_)
    . rw[decide_eq_true_iff] at hz
      walk_at "rd"
      walk_at "new"
      rename_i p hp H2 f2 s2
      exact k _ _ [] (W1.same s2) (e1.sameL s2) f2 (by simp) (by simp) (.inl ⟨by omega,rfl⟩)
    . rw[decide_eq_false_iff_not] at hz
      have hz':¬ h0<Gm.hgt s0 k0:=by omega
      walk_at "rd"
      walk_at "new"
      rename_i p hp H2 f2 s2
      walk_at "rd"
      intro r hr0
      apply Ze hr0
      intro H4 z4 f4 s4
      rw[z4]
      clear z4
      refine⟨_,rfl,?_⟩
      show _/\∃kvs:List (L2.Key×V),_
      refine⟨f4,[(Sum.inl (k0:Int),V.bl true)],rfl,by simp,?_⟩
      rw[show mergeK [] [((Sum.inl (k0:Int):L2.Key),V.bl true)]=mkR [k0] from rfl]
      apply ZI
      intro H5 z5 f5 e5
      rw[z5]
      clear z5
      have s5:Same H2 H5:=fun b o hb=>e5 _ _ (s4 _ _ hb) (fun z=>by rw[z,hr0] at hb;cases hb)
      have hpH:H p=none:=Ext.none_of (A:=A) W1.gr e1 hp
      have hrH:H r=none:=Ext.none_of (A:=A) (W1.same s2).gr (e1.sameL s2) hr0
      walk_at "rd"
      let μ:L2.St->Hp->Nat:=fun σ _=>match σ.getD 5 none with|some (.int a)=>s0.w*s0.d+1 - a.toNat|_=>0
      let hs:=Vbwsan.heights s0
      let Inv:List Nat->Hp->Prop:=fun fs H'=>WoX A H' wd g da ps kd ch cd s0/\Ext da H H'/\H' p=some (.lst (natsV fs))/\H' r=some (.dK (mkR fs))/\fs.Nodup/\k0∈fs/\(∀n∈fs,Gm.Reach s0 hs h0 k0 n)
      refine Ji (fun σ H'=>∃(fs:List Nat) (a:Nat) (v6 v7:Option V),σ=[some (.ref wd),some (.int k0),some (.int h0),some (.ref p),some (.ref r),some (.int (a:Int)),v6,v7]/\Inv fs H'/\a<=fs.length/\∀m∈fs.take a,∀n∈Vbwsan.neighbours s0 m,hs.getD n 0<=h0->n∈fs) μ
        ⟨[k0],0,none,none,rfl,⟨(W1.same s2).same s5,(e1.sameL s2).sameL s5,s5 _ _ f2,f5,by simp,by simp,fun n hn=>by rw[List.mem_singleton.mp hn];exact .self⟩,by simp,by simp⟩ ?_ ?_
      . rintro σ H' ⟨fs, a, v6, v7, rfl, ⟨W6, e6, p6, r6, nd6, k6, rc6⟩, ha, cl6⟩
        have bfs:∀n∈fs,n<s0.w*s0.d:=fun n hn=>(rc6 n hn).lt gside hk0
        have lfs:fs.length<=s0.w*s0.d:=by
          have:=nd6.length_le_of_subset (l₂:=List.range (s0.w*s0.d)) fun m hm=>List.mem_range.mpr (bfs m hm)
          simpa using this
        walk_at "rd"
        refine⟨p,_,rfl,.inl (SqL.of p6),?_⟩
        walk_at "rd"
        rw[List.length_map]
        with_reducible refine zR (fun hc=>?_) (fun hc=>?_)
        . rw[decide_eq_true_iff] at hc
          have hc':a<fs.length:=by omega
          obtain⟨m,hm⟩:∃m,fs[a]?=some m:=⟨_,List.getElem?_eq_getElem hc'⟩
          have hmb:=bfs m (List.mem_of_getElem? hm)
          obtain⟨dg6,hg6⟩:=W6.gr.ins
          obtain⟨dx6,hw6⟩:=W6.ins
          walk_at "rd"
          refine QQ (SqL.of p6) (j4 (j:=a) (v:=V.int (m:Int)) rfl (by rw[List.getElem?_map,hm];rfl)) ?_
          walk_at "rd"
          refine⟨g,dg6,da,s0.seed,s0.w,s0.d,m,rfl,hg6,W6.gr.wd,W6.gr.dp,hmb,fun H9 nl s9 hnl f9=>?_⟩
          refine zq (SqL.of f9) ?_
          have npnl:nl≠p:=fun z=>by rw[z,p6] at hnl;cases hnl
          refine qi (xs:=natsV (Gm.nbs s0.w s0.d m)) (fun i σ H'=>∃(gs:List Nat) (v7:Option V),σ=[some (.ref wd),some (.int k0),some (.int h0),some (.ref p),some (.ref r),some (.int ((a:Int)+1)),some (.int (m:Int)),v7]/\Inv (fs++gs) H'/\H' nl=some (.lst (natsV (Gm.nbs s0.w s0.d m)))/\∀n∈(Gm.nbs s0.w s0.d m).take i,hs.getD n 0<=h0->n∈fs++gs)
            ⟨[],v7,rfl,⟨W6.same s9,e6.sameL s9,by rw[List.append_nil];exact s9 _ _ p6,by rw[List.append_nil];exact s9 _ _ r6,by rw[List.append_nil];exact nd6,by rw[List.append_nil];exact k6,by rw[List.append_nil];exact rc6⟩,f9,by simp⟩ (fun i σ H' _ ⟨_,_,_,_,z,_⟩=>SqL.of z) ?_ ?_
          . rintro i x σ H' hx ⟨gs,v7,rfl,⟨Wa,ea,pa,ra,nda,ka,rca⟩,fa,cla⟩
            obtain⟨n,hnn,rfl⟩:∃n,(Gm.nbs s0.w s0.d m)[i]?=some n/\x=V.int (n:Int):=by
              rw[List.getElem?_map] at hx
              obtain⟨n,h1,h2⟩:=Option.map_eq_some_iff.mp hx
              exact⟨n,h1,h2.symm⟩
            have hnb:n∈Vbwsan.neighbours s0 m:=Gm.jM.mp (List.mem_of_getElem? hnn)
            have hnlt:=Gm.nb_lt gside hmb hnb
            have mt:∀y,y∈(Gm.nbs s0.w s0.d m).take (i+1)↔y∈(Gm.nbs s0.w s0.d m).take i\/y=n:=fun y=>by rw[zZ hnn,List.mem_append,List.mem_singleton]
            obtain⟨dxa,hwa⟩:=Wa.ins
            walk_at "rd"
            refine jI (DGet.k (k:=Sum.inl (n:Int)) ra) ?_
            walk_at "rd"
            rw[Ja]
            with_reducible refine zR (fun hq=>?_) (fun hq=>?_)
            . rw[Bool.not_eq_true',decide_eq_false_iff_not] at hq
              walk_at "rd"
              refine⟨wd,g,da,ps,kd,ch,cd,s0,n,rfl,Wa,hnlt,fun Hb Wb eb=>?_⟩
              have pb:=Ext.at Wa.gr eb pa (fun z q=>by cases q)
              have rb:=Ext.at Wa.gr eb ra (fun z q=>by cases q)
              have fb:=Ext.at Wa.gr eb fa (fun z q=>by cases q)
              walk_at "rd"
              rw[show Vbwsan.heightAt s0 (n%s0.w) (n / s0.w)=Gm.hgt s0 n from rfl]
              with_reducible refine zR (fun hy=>?_) (fun hy=>?_)
              . rw[decide_eq_true_iff] at hy
                have lgs:(fs++gs).length<=s0.w*s0.d:=by
                  have:=nda.length_le_of_subset (l₂:=List.range (s0.w*s0.d)) fun y hm=>List.mem_range.mpr ((rca y hm).lt gside hk0)
                  simpa using this
                walk_at "rd"
                refine qz (DPut.k (k:=Sum.inl (n:Int)) rb (by rw[zBq];exact small (by omega))) ?_
                rw[zBp hq]
                apply ZI
                intro Hc zc fc ec
                rw[zc]
                clear zc
                have pc:=ec _ _ pb (za pb rb (by intro z;cases z))
                have kc:Keeps Hb Hc:=ec.keeps rb (fun z=>z)
                have dc:∀b ts,Hb b=some (.dT ts)->Hc b=some (.dT ts):=fun b ts hb=>ec _ _ hb (za hb rb (by intro z;cases z))
                have Wc:WoX A Hc wd g da ps kd ch cd s0:=by
                  obtain⟨⟨dxa,h1⟩,⟨⟨dga,h2⟩,⟨kg,h3,h4⟩,h5,h6⟩,h7,h8,n1,n2,n3,h9⟩:=Wb
                  exact⟨⟨dxa,kc _ _ h1 trivial⟩,⟨⟨dga,kc _ _ h2 trivial⟩,⟨kg,dc _ _ h3,h4⟩,h5,h6⟩,h7.keep kc (fun b kvs hb _=>dc _ _ hb) n1,h8.keep kc fun kvs hb=>dc _ _ hb,n1,n2,n3,h9⟩
                have ec':Ext da H Hc:=fun b o hb nb=>ec _ _ ((ea.trans eb) _ _ hb nb) (fun z=>by rw[z,hrH] at hb;cases hb)
                walk_at "rd"
                refine Zv pc ?_
                walk_at "rd"
                refine qI pc (by rw[List.length_map];exact small (by omega)) ?_
                refine⟨gs++[n],_,rfl,⟨Wc.grow pc,Zo ec' hpH,?_,?_,?_,?_,?_⟩,?_,?_⟩
                . rw[zJ,<-List.append_assoc,natsV_snoc]
                . rw[zI (za fc pc (by intro z;cases z)),<-List.append_assoc]
                  exact fc
                . rw[<-List.append_assoc,List.nodup_append]
                  exact⟨nda,by simp,fun x hx y hy z=>by simp at hy;exact hq (by rw[<-hy,<-z];exact hx)⟩
                . rw[<-List.append_assoc];exact List.mem_append.mpr (.inl ka)
                . intro y hy
                  rw[<-List.append_assoc] at hy
                  rcases List.mem_append.mp hy with hy|hy
                  . exact rca y hy
                  . rw[List.mem_singleton.mp hy]
                    refine .step (rc6 m (List.mem_of_getElem? hm)) hnb ?_
                    rw[Gm.QI hnlt]
                    omega
                . rw[zI npnl]
                  exact ec _ _ fb (za fb rb (by intro z;cases z))
                . intro y hy hh
                  rw[<-List.append_assoc]
                  rcases (mt y).mp hy with hy|hy
                  . exact List.mem_append.mpr (.inl (cla y hy hh))
                  . exact List.mem_append.mpr (.inr (by rw[hy];simp))
              . rw[decide_eq_false_iff_not] at hy
                walk_at "rd"
                refine⟨gs,_,rfl,⟨Wb,ea.trans eb,pb,rb,nda,ka,rca⟩,fb,fun y hy2 hh=>?_⟩
                rcases (mt y).mp hy2 with hy2|rfl
                . exact cla y hy2 hh
                . rw[Gm.QI hnlt] at hh
                  omega
            . rw[Bool.not_eq_false',decide_eq_true_iff] at hq
              walk_at "rd"
              refine⟨gs,_,rfl,⟨Wa,ea,pa,ra,nda,ka,rca⟩,fa,fun y hy2 hh=>?_⟩
              rcases (mt y).mp hy2 with hy2|rfl
              . exact cla y hy2 hh
              . exact hq
          . rintro σ H' ⟨gs,v7,rfl,Ia,fa,cla⟩
            unfold natsV at cla
            rw[List.length_map,List.take_length] at cla
            have ea1:((a+1:Nat):Int)=(a:Int)+1:=by omega
            refine⟨⟨fs++gs,a+1,_,_,by rw[ea1],Ia,by rw[List.length_append];omega,?_⟩,?_⟩
            . intro y hy n hn hh
              rw[List.take_append_of_le_length (by omega),zZ hm] at hy
              rcases List.mem_append.mp hy with hy|hy
              . exact List.mem_append.mpr (.inl (cl6 y hy n hn hh))
              . rw[List.mem_singleton.mp hy] at hn
                exact cla n (Gm.jM.mpr hn) hh
            . show s0.w*s0.d+1 - ((a:Int)+1).toNat<s0.w*s0.d+1 - ((a:Int)).toNat
              have z1:((a:Int)+1).toNat=a+1:=by omega
              have z2:((a:Int)).toNat=a:=by omega
              rw[z1,z2]
              exact Nat.sub_lt_sub_left (by omega) (Nat.lt_succ_self _)
        . rw[decide_eq_false_iff_not] at hc
          have hae:a=fs.length:=by omega
          walk_at "rd"
          rw[hae,List.take_length] at cl6
          exact k _ _ fs W6 e6 p6 (by omega) bfs (.inr ⟨hz',(Gm.Js gside hk0 nd6 k6 rc6 cl6 (fun _=>true)).1,fun p=>(Gm.Js gside hk0 nd6 k6 rc6 cl6 p).2⟩)
      . rintro σ H' R R' hRR ⟨v,e1,v',e2,pp,ys,h1,h2,i,j,h3,h4,b,h5,h6⟩
        exact⟨v,e1,v',e2,pp,ys,h1,h2,i,j,h3,h4,b,h5,hRR _ _ h6⟩
end
end Gs
namespace Gs
open PySem PySem.Spec PyProof.Rows L2
def isL:HO->Prop
  |.lst _=>True
  |.tup _=>True
  |.frz _ _=>True
  |_=>False
def LK(H H':Hp):Prop:=∀b o,H b=some o->isL o->H' b=some o
theorem LK.refl{H:Hp}:LK H H:=fun _ _ e _=>e
theorem LK.trans{H H1 H2:Hp}(a:LK H H1)(b:LK H1 H2):LK H H2:=fun c o h l=>b c o (a c o h l) l
theorem LK.same{H H1:Hp}(a:Same H H1):LK H H1:=fun c o h _=>a c o h
theorem LK.ext{d:Addr}{H H1:Hp}{u:HO}(a:Ext d H H1)(hd:H d=some u)(hu:¬ isL u):LK H H1:=fun c o h l=>a c o h fun q=>by rw[q,hd] at h;cases h;exact hu l
theorem LK.extG{A:Ads}{H H1:Hp}{g da:Addr}{seed w d:Nat}(G:GrAt A H g da seed w d)(a:Ext da H H1):LK H H1:=let ⟨_,h,_⟩:=G.cor;.ext a h (fun z=>z)
theorem LK.grow{H H1:Hp}{l:Addr}{o:HO}(a:LK H H1)(hl:H l=none):LK H (upd H1 l o):=fun b u e i=>by
  rw[zI (zL e hl)]
  exact a b u e i
def callN(i:Nat)(nums:List Int):Option Vbwsan.Call:=if i=16 then VbwsanNeutral.callOf [[16],nums] else VbwsanNeutral.callOf [((i:Int)::nums)]
def sp_ans(A:Ads)(i:Nat):Sp:=fun vs H Q _=>∃(wd g da ps kd ch cd l:Addr) (s:Vbwsan.State) (nums:List Int) (c:Vbwsan.Call),vs=[.ref wd,.ref l]/\WoX A H wd g da ps kd ch cd s/\H l=some (.lst (nums.map V.int))/\callN i nums=some c/\nums.length<=200/\
  ∀H' p g' da' ps' kd' ch' cd',WoX A H' wd g' da' ps' kd' ch' cd' (Vbwsan.step s c).1->H' p=some (.lst ((Vbwsan.step s c).2.map V.int))->LK H H'->Q (.ref p) H'
theorem call0{nums:List Int}{c:Vbwsan.Call}(h:callN 0 nums=some c):∃a b x y,nums=[a,b,x,y]/\c=.begin_ a b x y:=by
  rcases nums with _|⟨a,_|⟨b,_|⟨x,_|⟨y,_|⟨z,r⟩⟩⟩⟩⟩<;>first|exact nomatch (show(none:Option Vbwsan.Call)=some c from h)|exact⟨a,b,x,y,rfl,(Option.some.inj (show some _=some c from h)).symm⟩
theorem call1{nums:List Int}{c:Vbwsan.Call}(h:callN 1 nums=some c):∃a b,nums=[a,b]/\c=.cell a b:=by
  rcases nums with _|⟨a,_|⟨b,_|⟨x,r⟩⟩⟩<;>first|exact nomatch (show(none:Option Vbwsan.Call)=some c from h)|exact⟨a,b,rfl,(Option.some.inj (show some _=some c from h)).symm⟩
theorem call2{nums:List Int}{c:Vbwsan.Call}(h:callN 2 nums=some c):∃a b,nums=[a,b]/\c=.piece a b:=by
  rcases nums with _|⟨a,_|⟨b,_|⟨x,r⟩⟩⟩<;>first|exact nomatch (show(none:Option Vbwsan.Call)=some c from h)|exact⟨a,b,rfl,(Option.some.inj (show some _=some c from h)).symm⟩
theorem call3{nums:List Int}{c:Vbwsan.Call}(h:callN 3 nums=some c):∃a b,nums=[a,b]/\c=.forget a b:=by
  rcases nums with _|⟨a,_|⟨b,_|⟨x,r⟩⟩⟩<;>first|exact nomatch (show(none:Option Vbwsan.Call)=some c from h)|exact⟨a,b,rfl,(Option.some.inj (show some _=some c from h)).symm⟩
theorem call4{nums:List Int}{c:Vbwsan.Call}(h:callN 4 nums=some c):nums=[]/\c=.kept:=by
  rcases nums with _|⟨a,r⟩<;>first|exact nomatch (show(none:Option Vbwsan.Call)=some c from h)|exact⟨rfl,(Option.some.inj (show some _=some c from h)).symm⟩
theorem call5{nums:List Int}{c:Vbwsan.Call}(h:callN 5 nums=some c):∃a b x,nums=[a,b,x]/\c=.dig a b x:=by
  rcases nums with _|⟨a,_|⟨b,_|⟨x,_|⟨y,r⟩⟩⟩⟩<;>first|exact nomatch (show(none:Option Vbwsan.Call)=some c from h)|exact⟨a,b,x,rfl,(Option.some.inj (show some _=some c from h)).symm⟩
theorem call6{nums:List Int}{c:Vbwsan.Call}(h:callN 6 nums=some c):∃a b x,nums=[a,b,x]/\c=.build a b x:=by
  rcases nums with _|⟨a,_|⟨b,_|⟨x,_|⟨y,r⟩⟩⟩⟩<;>first|exact nomatch (show(none:Option Vbwsan.Call)=some c from h)|exact⟨a,b,x,rfl,(Option.some.inj (show some _=some c from h)).symm⟩
theorem call7{nums:List Int}{c:Vbwsan.Call}(h:callN 7 nums=some c):∃a b,nums=[a,b]/\c=.undo a b:=by
  rcases nums with _|⟨a,_|⟨b,_|⟨x,r⟩⟩⟩<;>first|exact nomatch (show(none:Option Vbwsan.Call)=some c from h)|exact⟨a,b,rfl,(Option.some.inj (show some _=some c from h)).symm⟩
theorem call8{nums:List Int}{c:Vbwsan.Call}(h:callN 8 nums=some c):nums=[]/\c=.changes:=by
  rcases nums with _|⟨a,r⟩<;>first|exact nomatch (show(none:Option Vbwsan.Call)=some c from h)|exact⟨rfl,(Option.some.inj (show some _=some c from h)).symm⟩
theorem call9{nums:List Int}{c:Vbwsan.Call}(h:callN 9 nums=some c):∃a b,nums=[a,b]/\c=.water a b:=by
  rcases nums with _|⟨a,_|⟨b,_|⟨x,r⟩⟩⟩<;>first|exact nomatch (show(none:Option Vbwsan.Call)=some c from h)|exact⟨a,b,rfl,(Option.some.inj (show some _=some c from h)).symm⟩
theorem call10{nums:List Int}{c:Vbwsan.Call}(h:callN 10 nums=some c):∃a b,nums=[a,b]/\c=.springs a b:=by
  rcases nums with _|⟨a,_|⟨b,_|⟨x,r⟩⟩⟩<;>first|exact nomatch (show(none:Option Vbwsan.Call)=some c from h)|exact⟨a,b,rfl,(Option.some.inj (show some _=some c from h)).symm⟩
theorem call11{nums:List Int}{c:Vbwsan.Call}(h:callN 11 nums=some c):∃a b,nums=[a,b]/\c=.houses a b:=by
  rcases nums with _|⟨a,_|⟨b,_|⟨x,r⟩⟩⟩<;>first|exact nomatch (show(none:Option Vbwsan.Call)=some c from h)|exact⟨a,b,rfl,(Option.some.inj (show some _=some c from h)).symm⟩
theorem call12{nums:List Int}{c:Vbwsan.Call}(h:callN 12 nums=some c):∃a b,nums=[a,b]/\c=.house a b:=by
  rcases nums with _|⟨a,_|⟨b,_|⟨x,r⟩⟩⟩<;>first|exact nomatch (show(none:Option Vbwsan.Call)=some c from h)|exact⟨a,b,rfl,(Option.some.inj (show some _=some c from h)).symm⟩
theorem call13{nums:List Int}{c:Vbwsan.Call}(h:callN 13 nums=some c):∃a b x y,nums=[a,b,x,y]/\c=.pass a b x y:=by
  rcases nums with _|⟨a,_|⟨b,_|⟨x,_|⟨y,_|⟨z,r⟩⟩⟩⟩⟩<;>first|exact nomatch (show(none:Option Vbwsan.Call)=some c from h)|exact⟨a,b,x,y,rfl,(Option.some.inj (show some _=some c from h)).symm⟩
theorem call14{nums:List Int}{c:Vbwsan.Call}(h:callN 14 nums=some c):∃a b x,nums=[a,b,x]/\c=.raw a b x:=by
  rcases nums with _|⟨a,_|⟨b,_|⟨x,_|⟨y,r⟩⟩⟩⟩<;>first|exact nomatch (show(none:Option Vbwsan.Call)=some c from h)|exact⟨a,b,x,rfl,(Option.some.inj (show some _=some c from h)).symm⟩
theorem call15{nums:List Int}{c:Vbwsan.Call}(h:callN 15 nums=some c):nums=[]/\c=.sum:=by
  rcases nums with _|⟨a,r⟩<;>first|exact nomatch (show(none:Option Vbwsan.Call)=some c from h)|exact⟨rfl,(Option.some.inj (show some _=some c from h)).symm⟩
theorem call16{nums:List Int}{c:Vbwsan.Call}(h:callN 16 nums=some c):c=.way nums:=by
  exact(Option.some.inj (show some _=some c from h)).symm
theorem call17{nums:List Int}{c:Vbwsan.Call}(h:callN 17 nums=some c):∃a b x,nums=[a,b,x]/\c=.level a b x:=by
  rcases nums with _|⟨a,_|⟨b,_|⟨x,_|⟨y,r⟩⟩⟩⟩<;>first|exact nomatch (show(none:Option Vbwsan.Call)=some c from h)|exact⟨a,b,x,rfl,(Option.some.inj (show some _=some c from h)).symm⟩
theorem call18{nums:List Int}{c:Vbwsan.Call}(h:callN 18 nums=some c):nums=[]/\c=.state:=by
  rcases nums with _|⟨a,r⟩<;>first|exact nomatch (show(none:Option Vbwsan.Call)=some c from h)|exact⟨rfl,(Option.some.inj (show some _=some c from h)).symm⟩
theorem call19{nums:List Int}{c:Vbwsan.Call}(h:callN 19 nums=some c):nums=[]/\c=.highest:=by
  rcases nums with _|⟨a,r⟩<;>first|exact nomatch (show(none:Option Vbwsan.Call)=some c from h)|exact⟨rfl,(Option.some.inj (show some _=some c from h)).symm⟩
theorem qK(s:Vbwsan.State)(x y:Int):Vbwsan.isCell s x y=decide (0<=x/\x<s.w/\0<=y/\y<s.d):=by
  refine Bool.eq_iff_iff.mpr ?_
  unfold Vbwsan.isCell Vbwsan.from_
  rw[Bool.and_eq_true,decide_eq_true_iff,decide_eq_true_iff,decide_eq_true_iff]
  omega
theorem J7(s:Vbwsan.State)(x y:Int):Vbwsan.isPiece s x y=decide (0<=x/\x<(s.w / 8:Nat)/\0<=y/\y<(s.d / 8:Nat)):=by
  refine Bool.eq_iff_iff.mpr ?_
  unfold Vbwsan.isPiece Vbwsan.from_ Vbwsan.PIECE
  rw[Bool.and_eq_true,decide_eq_true_iff,decide_eq_true_iff,decide_eq_true_iff]
  omega
theorem zp(n lo hi:Int):Vbwsan.from_ n lo hi=decide (lo<=n/\n<=hi):=rfl
theorem QZ{s:Vbwsan.State}{x y:Int}(h:¬ (0<=x/\x<s.w/\0<=y/\y<s.d)):Vbwsan.isCell s x y=false:=by rw[qK];exact decide_eq_false h
theorem qP{s:Vbwsan.State}{x y:Int}(h:0<=x/\x<s.w/\0<=y/\y<s.d):¬ Vbwsan.isCell s x y=false:=by rw[qK,decide_eq_true h];decide
theorem jL{s:Vbwsan.State}{x y:Int}(h:¬ (0<=x/\x<(s.w / 8:Nat)/\0<=y/\y<(s.d / 8:Nat))):Vbwsan.isPiece s x y=false:=by rw[J7];exact decide_eq_false h
theorem jG{s:Vbwsan.State}{x y:Int}(h:0<=x/\x<(s.w / 8:Nat)/\0<=y/\y<(s.d / 8:Nat)):¬ Vbwsan.isPiece s x y=false:=by rw[J7,decide_eq_true h];decide
theorem side8{w i:Nat}(h:Side w)(hi:i<w / 8):8*i+8<=w:=by unfold Side at h;omega
end Gs
namespace Gs
open PySem PySem.Spec PyProof.Rows L2
theorem zS{A:Ads}{s t:Vbwsan.State}{c:Vbwsan.Call}{H:Hp}{Q:VK}{wd:Addr}{r:List Int}
    (k:∀H' p g' da' ps' kd' ch' cd',WoX A H' wd g' da' ps' kd' ch' cd' (Vbwsan.step s c).1->H' p=some (.lst ((Vbwsan.step s c).2.map V.int))->LK H H'->Q (.ref p) H')
    (e:Vbwsan.step s c=(t,r)) {H':Hp} {p g da ps kd ch cd:Addr} (W:WoX A H' wd g da ps kd ch cd t) (hp:H' p=some (.lst (r.map V.int))) (lk:LK H H'):Q (.ref p) H':=by
  rw[e] at k
  exact k _ _ _ _ _ _ _ _ W hp lk
end Gs
namespace Gs
open PySem PySem.Spec PyProof.Rows L2
section
variable{P:Program}{w:World}{K:PySem.W.Frag}{mg:Str->Option Value}{base:Heap}{A:Ads}
abbrev qt:Stmt:=top 107
theorem qW:FnScope ["world","numbers","ground","pieces"] ["world","numbers"] (defScope qt):=⟨rfl,rfl,rfl,by decide +kernel,rfl,by decide +kernel,by decide +kernel⟩
theorem ok_state_answer{f:Addr}{fd:FuncData}(F:Fun K "state_answer" "state_answer" qt f fd)(T:Glb K mg A):FnOk P w K mg base CX0 1 f fd ["world","numbers"] (sp_ans A 18):=by
  refine F.ok qW (fun vs H Q E h=>?_) (fun cdv Ar outer s H vs Q E hr h=>?_)
  . obtain⟨wd,g,da,ps,kd,ch,cd,l,s,nums,c,rfl,_⟩:=h
    rfl
  obtain⟨wd,g,da,ps,kd,ch,cd,l,s0,nums,c,rfl,W,hl,hc,hlen,k⟩:=h
  obtain⟨dxw,hw⟩:=W.ins
  obtain⟨dg,hg⟩:=W.gr.ins
  obtain⟨dpp,hps⟩:=W.pc.ins
  obtain⟨dch,hch⟩:=W.ch.ins
  have hu:=ZB hr
  obtain⟨hw1,hw2,hd1,hd2⟩:=W.gr.le
  obtain⟨rfl,rfl⟩:=call18 hc
  obtain⟨kp,hkp,dkp⟩:=W.pc.dict
  obtain⟨kc,hkc,dkc⟩:=W.ch.dict
  refine⟨_,(zB (zG (i:=2) qW.nd rfl (Or.inl rfl) (zF (pv 0) rfl))
      (zB (zG (i:=3) qW.nd rfl (Or.inl rfl) (zF (pv 0) rfl))
      (zD (zH (zQ (zA zE (zA (zF (pv 2) rfl) (zA (zF (pv 2) rfl) (zA (zF (pv 3) rfl) (zA (zU QD (by rfl) T.b_len PySem.boot_len (zA (zF (pv 3) rfl) zC)) (zA (zF (pv 3) rfl) (zA (zU QD (by rfl) T.b_len PySem.boot_len (zA (zF (zF (pv 0) rfl) rfl) zC)) zC)))))))))))),?_⟩
  refine st0 (σ0:=[some _,some _,none,none]) rfl ?_
  try dsimp only[cxOf]
  walk_at "rd"
  refine⟨kd,kp,rfl,hkp,?_⟩
  walk_at "rd"
  refine⟨cd,kc,rfl,hkc,?_⟩
  walk_at "rd"
  walk_at "new"
  rename_i p hp H1 f1 s1
  refine zS k Gm.st_state (W.same s1) ?_ (.same s1)
  rw[f1,dkp.len,dkc.len]
  rfl
abbrev Qi:Stmt:=top 104
theorem sc_sum_answer:FnScope ["world","numbers"] ["world","numbers"] (defScope Qi):=⟨rfl,rfl,rfl,by decide +kernel,rfl,by decide +kernel,by decide +kernel⟩
theorem ok_sum_answer{f:Addr}{fd:FuncData}(F:Fun K "sum_answer" "sum_answer" Qi f fd)(T:Glb K mg A)(m_World_sum_now:MtAt P w K mg base 13 A.C_World "sum_now" ["self"] (ja A)):FnOk P w K mg base CX0 14 f fd ["world","numbers"] (sp_ans A 15):=by
  refine F.ok sc_sum_answer (fun vs H Q E h=>?_) (fun cdv Ar outer s H vs Q E hr h=>?_)
  . obtain⟨wd,g,da,ps,kd,ch,cd,l,s,nums,c,rfl,_⟩:=h
    rfl
  obtain⟨wd,g,da,ps,kd,ch,cd,l,s0,nums,c,rfl,W,hl,hc,hlen,k⟩:=h
  obtain⟨dxw,hw⟩:=W.ins
  obtain⟨dg,hg⟩:=W.gr.ins
  obtain⟨dpp,hps⟩:=W.pc.ins
  obtain⟨dch,hch⟩:=W.ch.ins
  have hu:=ZB hr
  obtain⟨hw1,hw2,hd1,hd2⟩:=W.gr.le
  obtain⟨rfl,rfl⟩:=call15 hc
  refine⟨_,(zD (zH (zQ (zA zE (zA (zCL (pv 0) T.c_World m_World_sum_now hr) zC))))),?_⟩
  refine st0 (σ0:=[some _,some _]) rfl ?_
  try dsimp only[cxOf]
  walk_at "rd"
  refine⟨wd,g,da,ps,kd,ch,cd,s0,rfl,W,fun H1 W1 e1=>?_⟩
  walk_at "rd"
  walk_at "new"
  rename_i p hp H2 f2 s2
  exact zS k Gm.st_sum (W1.same s2) f2 ((LK.extG W.gr e1).trans (.same s2))
abbrev Ql:Stmt:=top 103
theorem qO:FnScope ["world","numbers","purpose","x","y"] ["world","numbers"] (defScope Ql):=⟨rfl,rfl,rfl,by decide +kernel,rfl,by decide +kernel,by decide +kernel⟩
theorem ok_raw_answer{f:Addr}{fd:FuncData}(F:Fun K "raw_answer" "raw_answer" Ql f fd)(T:Glb K mg A)(m_Ground_raw:MtAt P w K mg base 3 A.C_Ground "raw" ["self","purpose","x","y"] (sp_Ground_raw A)):FnOk P w K mg base CX0 4 f fd ["world","numbers"] (sp_ans A 14):=by
  refine F.ok qO (fun vs H Q E h=>?_) (fun cdv Ar outer s H vs Q E hr h=>?_)
  . obtain⟨wd,g,da,ps,kd,ch,cd,l,s,nums,c,rfl,_⟩:=h
    rfl
  obtain⟨wd,g,da,ps,kd,ch,cd,l,s0,nums,c,rfl,W,hl,hc,hlen,k⟩:=h
  obtain⟨dxw,hw⟩:=W.ins
  obtain⟨dg,hg⟩:=W.gr.ins
  obtain⟨dpp,hps⟩:=W.pc.ins
  obtain⟨dch,hch⟩:=W.ch.ins
  have hu:=ZB hr
  obtain⟨hw1,hw2,hd1,hd2⟩:=W.gr.le
  obtain⟨a,b,x,rfl,rfl⟩:=call14 hc
  have hl':H l=some (.lst [.int a,.int b,.int x]):=hl
  have no:¬ (1<=a/\a<=9/\0<=b/\b<=100/\0<=x/\x<=100)->∀H1 p,Same H H1->H1 p=some (.lst [.int (-1)])->Q (.ref p) H1:=fun z H1 p s1 f1=>zS k (Gm.st_raw_no (by rw[zp,zp,zp,decide_eq_false_iff_not,decide_eq_false_iff_not,decide_eq_false_iff_not];omega)) (W.same s1) f1 (.same s1)
  have yes:(1<=a/\a<=9/\0<=b/\b<=100/\0<=x/\x<=100)->∀H1 p,Same H H1->H1 p=some (.lst [.int 0,.int (Vbwsan.raw s0.seed a.toNat b.toNat x.toNat:Nat)])->Q (.ref p) H1:=fun z H1 p s1 f1=>zS k (Gm.st_raw (by rw[zp,zp,zp,decide_eq_false_iff_not,decide_eq_false_iff_not,decide_eq_false_iff_not];omega)) (W.same s1) f1 (.same s1)
  clear k
  refine⟨_,(zB (zG (i:=2) qO.nd rfl (Or.inl rfl) (zN zO (pv 1) zE (fun _ _=>rfl)))
      (zB (zG (i:=3) qO.nd rfl (Or.inl rfl) (zN zO (pv 1) zE (fun _ _=>rfl)))
      (zB (zG (i:=4) qO.nd rfl (Or.inl rfl) (zN zO (pv 1) zE (fun _ _=>rfl)))
      (zB (zf (zt (Zc z9 z9 zE (pv 2) (zM T.g_GREATEST_PURPOSE))) (zD (zH (zQ (zA (zM T.g_NOT_IN_RANGE) zC)))) zP)
      (zB (zf (ju (zt (Zc z9 z9 zE (pv 3) (zM T.g_GREATEST_RAW_PLACE))) (Qt (zt (Zc z9 z9 zE (pv 4) (zM T.g_GREATEST_RAW_PLACE))))).pt (zD (zH (zQ (zA (zM T.g_NOT_IN_RANGE) zC)))) zP)
      (zD (zH (zQ (zA zE (zA (zT (zF (pv 0) rfl) T.c_Ground m_Ground_raw hr (zA (pv 2) (zA (pv 3) (zA (pv 4) zC)))) zC)))))))))),?_⟩
  refine st0 (σ0:=[some _,some _,none,none,none]) rfl ?_
  try dsimp only[cxOf]
  walk_at "rd"
  walk_at "sp"
  all_goals try walk_at "sp"
  all_goals try walk_at "sp"
  all_goals try walk_at "sp"
  all_goals try walk_at "sp"
  all_goals try walk_at "sp"
  all_goals walk_at "dz"
  all_goals try contradiction
  all_goals try (walk_at "new";exact no (by omega) _ _ (by with_reducible assumption) (by with_reducible assumption))
  have hb:1<=a/\a<=9/\0<=b/\b<=100/\0<=x/\x<=100:=by omega
  refine⟨g,dg,da,s0.seed,s0.w,s0.d,a.toNat,b.toNat,x.toNat,?_,hg,?_⟩
  . rw[show((a.toNat:Nat):Int)=a by omega,show((b.toNat:Nat):Int)=b by omega,show((x.toNat:Nat):Int)=x by omega]
    rfl
  walk_at "rd"
  walk_at "new"
  rename_i p hp H2 f2 s2
  exact yes hb _ _ s2 f2
abbrev qu:Stmt:=top 101
theorem Zp:FnScope ["world","numbers","x","y","house"] ["world","numbers"] (defScope qu):=⟨rfl,rfl,rfl,by decide +kernel,rfl,by decide +kernel,by decide +kernel⟩
theorem ok_house_answer{f:Addr}{fd:FuncData}(F:Fun K "house_answer" "house_answer" qu f fd)(T:Glb K mg A)(m_Ground_has_cell:MtAt P w K mg base 1 A.C_Ground "has_cell" ["self","x","y"] (sp_has_cell A))
    (f_house_at:FnAt P w K mg base 12 "house_at" ["ground","x","y"] (QF A)):FnOk P w K mg base CX0 13 f fd ["world","numbers"] (sp_ans A 12):=by
  refine F.ok Zp (fun vs H Q E h=>?_) (fun cdv Ar outer s H vs Q E hr h=>?_)
  . obtain⟨wd,g,da,ps,kd,ch,cd,l,s,nums,c,rfl,_⟩:=h
    rfl
  obtain⟨wd,g,da,ps,kd,ch,cd,l,s0,nums,c,rfl,W,hl,hc,hlen,k⟩:=h
  obtain⟨dxw,hw⟩:=W.ins
  obtain⟨dg,hg⟩:=W.gr.ins
  obtain⟨dpp,hps⟩:=W.pc.ins
  obtain⟨dch,hch⟩:=W.ch.ins
  have hu:=ZB hr
  obtain⟨hw1,hw2,hd1,hd2⟩:=W.gr.le
  obtain⟨a,b,rfl,rfl⟩:=call12 hc
  have hl':H l=some (.lst [.int a,.int b]):=hl
  refine⟨_,(zB (zG (i:=2) Zp.nd rfl (Or.inl rfl) (zN zO (pv 1) zE (fun _ _=>rfl)))
      (zB (zG (i:=3) Zp.nd rfl (Or.inl rfl) (zN zO (pv 1) zE (fun _ _=>rfl)))
      (zB (zf (zt (zm (zT (zF (pv 0) rfl) T.c_Ground m_Ground_has_cell hr (zA (pv 2) (zA (pv 3) zC))))) (zD (zH (zQ (zA (zM T.g_NOT_IN_RANGE) zC)))) zP)
      (zB (zG (i:=4) Zp.nd rfl (Or.inl rfl) (zV f_house_at hr (zA (zF (pv 0) rfl) (zA (pv 2) (zA (pv 3) zC)))))
      (zB (zf (zn zCP (pv 4) QR (nomark _)) (zD (zH (zQ (zA (zM T.g_THERE_IS_NONE) zC)))) zP)
      (zD (zH (zQ (zA zE (zA (zF (pv 4) rfl) (zA (zF (pv 4) rfl) (zA (zF (pv 4) rfl) (zA (zF (pv 4) rfl) zC))))))))))))),?_⟩
  refine st0 (σ0:=[some _,some _,none,none,none]) rfl ?_
  try dsimp only[cxOf]
  walk_at "rd"
  refine⟨g,dg,da,s0.seed,s0.w,s0.d,a,b,rfl,hg,?_⟩
  walk_at "rd"
  with_reducible refine zR (fun z=>?_) (fun z=>?_)
  . rw[Bool.not_eq_true',decide_eq_false_iff_not] at z
    walk_at "rd"
    walk_at "new"
    rename_i p hp H1 f1 s1
    exact zS k (Gm.st_house_no (QZ z)) (W.same s1) f1 (.same s1)
  . rw[Bool.not_eq_false',decide_eq_true_iff] at z
    obtain⟨x,rfl⟩:∃x:Nat,a=x:=⟨a.toNat,by omega⟩
    obtain⟨y,rfl⟩:∃y:Nat,b=y:=⟨b.toNat,by omega⟩
    walk_at "rd"
    refine⟨g,da,s0.seed,s0.w,s0.d,x,y,rfl,W.gr,by omega,by omega,fun H1 v G1 e1 hv=>?_⟩
    have W1:=W.ext e1 G1
    have lk:=LK.extG W.gr e1
    rcases hv with⟨h0,rfl⟩|⟨q,h0,pp,dp,rfl,hpp⟩
    . walk_at "rd"
      walk_at "new"
      rename_i p hp H2 f2 s2
      exact zS k (Gm.st_house0 (qP z) h0) (W1.same s2) f2 (lk.trans (.same s2))
    . walk_at "rd"
      walk_at "new"
      rename_i p hp H2 f2 s2
      exact zS k (Gm.st_house1 (qP z) h0) (W1.same s2) f2 (lk.trans (.same s2))
theorem flat_snoc{α:Type}(f:α->List Int)(l:List α)(a:α):(l++[a]).flatMap f=l.flatMap f++f a:=by rw[List.flatMap_append,List.flatMap_cons,List.flatMap_nil,List.append_nil]
theorem cells64(i j:Nat):Vbwsan.pieceCells i j=box (8*i) (8*j) 8 8:=by
  unfold Vbwsan.pieceCells box Vbwsan.PIECE
  have:=Gm.Qs (fun a b=>(i*8+a,j*8+b)) 8 (by decide) 8
  rw[this]
  refine congrArg (fun f=>List.flatMap f (List.range 8)) (funext fun b=>congrArg (fun f=>List.map f (List.range 8)) (funext fun a=>?_))
  rw[Nat.mul_comm i,Nat.mul_comm j]
abbrev s_springs_answer:Stmt:=top 99
theorem z8:FnScope ["world","numbers","i","j","answer","x","y"] ["world","numbers"] (defScope s_springs_answer):=⟨rfl,rfl,rfl,by decide +kernel,rfl,by decide +kernel,by decide +kernel⟩
theorem ok_springs_answer {f : Addr} {fd : FuncData} (F : Fun K "springs_answer" "springs_answer" s_springs_answer f fd) (T : Glb K mg A) (m_Pieces_has_piece : MtAt P w K mg base 1 A.C_Pieces "has_piece" ["self", "i", "j"] (sp_has_piece A))
    (f_cells_of:FnAt P w K mg base 2 "cells_of" ["i","j"] QG)
    (f_is_spring:FnAt P w K mg base 7 "is_spring" ["ground","x","y"] (Qh A)):FnOk P w K mg base CX0 8 f fd ["world","numbers"] (sp_ans A 10):=by
  refine F.ok z8 (fun vs H Q E h=>?_) (fun cdv Ar outer s H vs Q E hr h=>?_)
  . obtain⟨wd,g,da,ps,kd,ch,cd,l,s,nums,c,rfl,_⟩:=h
    rfl
  obtain⟨wd,g,da,ps,kd,ch,cd,l,s0,nums,c,rfl,W,hl,hc,hlen,k⟩:=h
  obtain⟨dxw,hw⟩:=W.ins
  obtain⟨dg,hg⟩:=W.gr.ins
  obtain⟨dpp,hps⟩:=W.pc.ins
  obtain⟨dch,hch⟩:=W.ch.ins
  have hu:=ZB hr
  obtain⟨hw1,hw2,hd1,hd2⟩:=W.gr.le
  obtain⟨a,b,rfl,rfl⟩:=call10 hc
  have hl':H l=some (.lst [.int a,.int b]):=hl
  refine⟨_,(zB (zG (i:=2) z8.nd rfl (Or.inl rfl) (zN zO (pv 1) zE (fun _ _=>rfl)))
      (zB (zG (i:=3) z8.nd rfl (Or.inl rfl) (zN zO (pv 1) zE (fun _ _=>rfl)))
      (zB (zf (zt (zm (zT (zF (pv 0) rfl) T.c_Pieces m_Pieces_has_piece hr (zA (pv 2) (zA (pv 3) zC))))) (zD (zH (zQ (zA (zM T.g_NOT_IN_RANGE) zC)))) zP)
      (zB (zG (i:=4) z8.nd rfl (Or.inl rfl) (zQ (zA zE zC)))
      (zB (ZQ PassesOwn.never rfl (ZL (zV f_cells_of hr (zA (pv 2) (zA (pv 3) zC)))) (JG (n:=2) rfl (ZN (zX (i:=5) z8.nd rfl (Or.inl rfl)) (ZN (zX (i:=6) z8.nd rfl (Or.inl rfl)) jK))) (zD (zf (zm (zV f_is_spring hr (zA (zF (pv 0) rfl) (zA (pv 5) (zA (pv 6) zC))))) (zD (zo (q0 PySem.F.plainAttrs_list PySem.F.slot_list_extend PySem.F.type_list_extend qk (pv 4) (zA (zQ (zA (pv 5) (zA (pv 6) zC))) zC)))) zP)))
      (zD (zH (pv 4)))))))),?_⟩
  refine st0 (σ0:=[some _,some _,none,none,none,none,none]) rfl ?_
  try dsimp only[cxOf]
  walk_at "rd"
  refine⟨ps,kd,g,da,cd,s0,a,b,rfl,W.pc,W.gr,?_⟩
  walk_at "rd"
  with_reducible refine zR (fun z=>?_) (fun z=>?_)
  . rw[Bool.not_eq_true',decide_eq_false_iff_not] at z
    walk_at "rd"
    walk_at "new"
    rename_i p hp H1 f1 s1
    exact zS k (Gm.st_springs_no (jL z)) (W.same s1) f1 (.same s1)
  rw[Bool.not_eq_false',decide_eq_true_iff] at z
  obtain⟨i,rfl⟩:∃x:Nat,a=x:=⟨a.toNat,by omega⟩
  obtain⟨j,rfl⟩:∃y:Nat,b=y:=⟨b.toNat,by omega⟩
  have hi:=side8 (i:=i) W.gr.wd (by omega)
  have hj:=side8 (i:=j) W.gr.dp (by omega)
  have e:=Gm.st_springs (jG z)
  rw[Int.toNat_natCast,Int.toNat_natCast,cells64] at e
  walk_at "rd"
  walk_at "new"
  rename_i p hp H1 f1 s1
  walk_at "rd"
  refine⟨i,j,rfl,by omega,by omega,fun H2 q s2 hq c2=>?_⟩
  obtain⟨ts,c3,c4⟩:=id c2
  have lts:ts.length=(box (8*i) (8*j) 8 8).length:=Paired.length c4
  refine zq (SqL.of c3) ?_
  let ff:Nat×Nat->List Int:=fun c=>[(c.1:Int),(c.2:Int)]
  let pp:Nat×Nat->Bool:=fun c=>Vbwsan.springAt s0 c.1 c.2
  have lb:∀n,((((box (8*i) (8*j) 8 8).take n).filter pp).flatMap ff).length<=128:=fun n=>by
    have h1:∀l:List (Nat×Nat),(l.flatMap ff).length=2*l.length:=fun l=>by
      induction l with
      |nil=>rfl
      |cons a l ih=>rw[List.flatMap_cons,List.length_append,ih];show 2+_=_;rw[List.length_cons];omega
    rw[h1]
    have h2:=List.length_filter_le pp ((box (8*i) (8*j) 8 8).take n)
    rw[List.length_take,Zw] at h2
    omega
  refine qi (xs:=ts) (fun n σ H'=>∃v5 v6:Option V,σ=[some (.ref wd),some (.ref l),some (.int i),some (.int j),some (.ref p),v5,v6]/\WoX A H' wd g da ps kd ch cd s0/\LK H H'/\Keeps H2 H'/\H' q=some (.lst ts)/\H' p=some (.lst ((0::(((box (8*i) (8*j) 8 8).take n).filter pp).flatMap ff).map V.int)))
    ⟨none,none,rfl,(W.same s1).same s2,(LK.same s1).trans (.same s2),Keeps.refl,c3,s2 _ _ f1⟩ (fun i σ H' _ ⟨_,_,_,_,_,_,z,_⟩=>SqL.of z) ?_ ?_
  . rintro n v σ H' hv ⟨v5,v6,rfl,W3,lk3,k3,q3,p3⟩
    obtain⟨c,hcc,tc,rfl,htc⟩:=ZO c4 hv
    have htc3:=k3 _ _ htc trivial
    have hcb:=jw (List.mem_of_getElem? hcc)
    obtain⟨dw3,hw3⟩:=W3.ins
    refine jH (SqT.of htc3) rfl ?_
    walk_at "rd"
    refine⟨g,da,s0.seed,s0.w,s0.d,c.1,c.2,rfl,W3.gr,by omega,by omega,fun H4 G4 e4=>?_⟩
    have W4:=W3.ext e4 G4
    have lk4:=lk3.trans (LK.extG W3.gr e4)
    have k4:=k3.trans (Ext.keepsG W3.gr e4)
    have q4:=Ext.at W3.gr e4 q3 (fun z q=>by cases q)
    have p4:=Ext.at W3.gr e4 p3 (fun z q=>by cases q)
    walk_at "rd"
    have et:((box (8*i) (8*j) 8 8).take (n+1)).filter pp=((box (8*i) (8*j) 8 8).take n).filter pp++(if pp c=true then [c] else []):=by rw[zZ hcc,List.filter_append,List.filter_cons,List.filter_nil]
    have epp:(decide (Vbwsan.raw s0.seed 9 c.1 c.2%24=0)&&decide (1400<=Vbwsan.madeHeight s0.seed c.1 c.2))=pp c:=by
      show _=Vbwsan.springAt s0 c.1 c.2
      unfold Vbwsan.springAt
      rfl
    rw[epp]
    generalize hpc:pp c=pc at et
    with_reducible refine zR (fun z2=>?_) (fun z2=>?_)
    . walk_at "rd"
      refine Zv p4 ?_
      walk_at "rd"
      walk_at "new"
      rename_i r hr5 H5 f5 s5
      walk_at "rd"
      refine qj (s5 _ _ p4) f5 ?_ ?_
      . rw[List.length_map,List.length_cons]
        have:=lb n
        exact Nat.le_of_lt (small (by simp only[List.length_cons,List.length_nil];omega))
      . have hpn:H p=none:=hp
        refine⟨_,_,rfl,(W4.same s5).grow (s5 _ _ p4),(lk4.trans (.same s5)).grow hpn,(k4.trans s5.keeps).trans (ZW (s5 _ _ p4) (fun z=>z)),?_,?_⟩
        . have npq:q≠p:=fun z=>by rw[z,f1] at hq;cases hq
          rw[zI npq]
          exact s5 _ _ q4
        . rw[zJ,et,z2,if_pos rfl,flat_snoc]
          show _=some (HO.lst (List.map V.int ((0::_)++ff c)))
          rw[List.map_append]
          rfl
    . walk_at "rd"
      refine⟨_,_,rfl,W4,lk4,k4,q4,?_⟩
      rw[et,z2,if_neg Bool.false_ne_true,List.append_nil]
      exact p4
  . rintro σ H' ⟨v5,v6,rfl,W3,lk3,k3,q3,p3⟩
    walk_at "rd"
    rw[lts,List.take_length] at p3
    exact zS k e W3 p3 lk3
end
end Gs
namespace Gs
open PySem PySem.Spec PyProof.Rows L2
section
variable{P:Program}{w:World}{K:PySem.W.Frag}{mg:Str->Option Value}{base:Heap}{A:Ads}
theorem zBT{H H':Hp}{da kd ps:Addr}{kv kv2:List (List Key×V)}{C dx:Addr}{fs:List (Str×V)}(h1:H da=some (.dT kv))(h2:H kd=some (.dT kv2))(h3:H ps=some (.ins C dx fs))(e:Ext3 da kd ps H H'):LK H H':=fun b o hb l=>e b o hb
  (fun q=>by rw[q,h1] at hb;cases hb;exact l) (fun q=>by rw[q,h2] at hb;cases hb;exact l) (fun q=>by rw[q,h3] at hb;cases hb;exact l)
theorem WoX.look{A:Ads}{H H':Hp}{wd g da ps kd ch cd:Addr}{s t:Vbwsan.State}(W:WoX A H wd g da ps kd ch cd s)(e:Ext3 da kd ps H H')(P:PcAt A H' ps kd g da cd t)(G:GrAt A H' g da s.seed s.w s.d)(e1:t.seed=s.seed)(e2:t.w=s.w)(e3:t.d=s.d)(e4:t.cap=s.cap)(e5:t.changes=s.changes):WoX A H' wd g da ps kd ch cd t:=by
  obtain⟨⟨dx,h1⟩,h2,h3,h4,n1,n2,n3,h5⟩:=W
  obtain⟨dp,hps⟩:=h3.ins
  obtain⟨kg,hda,_⟩:=h2.cor
  obtain⟨kk,hkd,_⟩:=h3.dict
  have tk:∀b ys,H b=some (.tup ys)->H' b=some (.tup ys):=fun b ys hb=>e _ _ hb (za hb hda (by intro z;cases z)) (za hb hkd (by intro z;cases z)) (za hb hps (by intro z;cases z))
  refine⟨⟨dx,e _ _ h1 (za h1 hda (by intro z;cases z)) (za h1 hkd (by intro z;cases z)) (za h1 hps (zBd (f:="pieces") rfl rfl))⟩,?_,P,?_,n1,n2,n3,by rw[e4];exact h5⟩
  . rw[e1,e2,e3];exact G
  . rw[e5]
    obtain⟨⟨dc,g1⟩,⟨kc,g2,g3⟩,g4⟩:=h4
    exact⟨⟨dc,e _ _ g1 (za g1 hda (by intro z;cases z)) (za g1 hkd (by intro z;cases z)) (za g1 hps (zBd (f:="cells") rfl rfl))⟩,⟨kc,e _ _ g2 n2 (Ne.symm n3) (za g2 hps (by intro z;cases z)),g3.imp fun kv a r=>⟨r.1,let ⟨t,y1,y2⟩:=r.2;⟨t,y1,tk _ _ y2⟩⟩⟩,g4⟩
theorem zAe(s:Vbwsan.State)(i j:Nat):(Vbwsan.look s i j).1.seed=s.seed/\(Vbwsan.look s i j).1.w=s.w/\(Vbwsan.look s i j).1.d=s.d/\(Vbwsan.look s i j).1.cap=s.cap/\(Vbwsan.look s i j).1.changes=s.changes:=by
  cases h:pcFind s.pieces i j with
  |some p=>rw[JL h];exact⟨rfl,rfl,rfl,rfl,rfl⟩
  |none=>rw[JM h];exact⟨rfl,rfl,rfl,rfl,rfl⟩
theorem J1{A:Ads}{H:Hp}{ps kd g da cd:Addr}{s:Vbwsan.State}(C:PcAt A H ps kd g da cd s)(i j:Nat):(Vbwsan.look s i j).2.cells=Vbwsan.madePiece s.seed s.w s.d i j/\(Vbwsan.look s i j).2.i=i/\(Vbwsan.look s i j).2.j=j:=by
  obtain⟨kvs,_,dm⟩:=C.dict
  cases h:pcFind s.pieces i j with
  |none=>rw[JM h];exact⟨rfl,rfl,rfl⟩
  | some p =>
    rw[JL h]
    have hij:p.i=i/\p.j=j:=by
      have:=List.find?_some (show s.pieces.find? _=some p from h)
      rw[Bool.and_eq_true,beq_iff_eq,beq_iff_eq] at this
      exact this
    rcases dm.find (key2 i j) with⟨_,z2⟩|⟨v,p',_,z2,pd,_,_,_,z3⟩
    . rw[Zx,h] at z2;cases z2
    . rw[Zx,h] at z2
      cases z2
      refine⟨?_,hij⟩
      show p.cells=_
      rw[z3,hij.1,hij.2]
theorem zBO(seed w d i j x y:Nat)(hx:x / 8=i)(hy:y / 8=j):(Vbwsan.madePiece seed w d i j).getD (y%8*8+x%8) (0,0)=(Vbwsan.madeHeight seed x y,Vbwsan.madeKind seed w d x y):=by
  unfold Vbwsan.madePiece Vbwsan.PIECE
  have hk:y%8*8+x%8<8*8:=by omega
  rw[List.getD_eq_getElem?_getD,List.getElem?_map,List.getElem?_range hk]
  have e1:i*8+(y%8*8+x%8)%8=x:=by omega
  have e2:j*8+(y%8*8+x%8) / 8=y:=by omega
  show(Vbwsan.madeHeight seed (i*8+(y%8*8+x%8)%8) (j*8+(y%8*8+x%8) / 8),Vbwsan.madeKind seed w d (i*8+(y%8*8+x%8)%8) (j*8+(y%8*8+x%8) / 8))=_
  rw[e1,e2]
abbrev QP:Stmt:=top 90
theorem Z3:FnScope ["world","numbers","x","y","piece"] ["world","numbers"] (defScope QP):=⟨rfl,rfl,rfl,by decide +kernel,rfl,by decide +kernel,by decide +kernel⟩
theorem ok_cell_answer{f:Addr}{fd:FuncData}(F:Fun K "cell_answer" "cell_answer" QP f fd)(T:Glb K mg A)(m_Ground_has_cell:MtAt P w K mg base 1 A.C_Ground "has_cell" ["self","x","y"] (sp_has_cell A))
    (m_Pieces_look:MtAt P w K mg base 14 A.C_Pieces "look" ["self","i","j"] (sp_look A))
    (m_World_cell_now:MtAt P w K mg base 3 A.C_World "cell_now" ["self","made","x","y"] (qQ A)):FnOk P w K mg base CX0 15 f fd ["world","numbers"] (sp_ans A 1):=by
  refine F.ok Z3 (fun vs H Q E h=>?_) (fun cdv Ar outer s H vs Q E hr h=>?_)
  . obtain⟨wd,g,da,ps,kd,ch,cd,l,s,nums,c,rfl,_⟩:=h
    rfl
  obtain⟨wd,g,da,ps,kd,ch,cd,l,s0,nums,c,rfl,W,hl,hc,hlen,k⟩:=h
  obtain⟨dxw,hw⟩:=W.ins
  obtain⟨dg,hg⟩:=W.gr.ins
  obtain⟨dpp,hps⟩:=W.pc.ins
  obtain⟨dch,hch⟩:=W.ch.ins
  have hu:=ZB hr
  obtain⟨hw1,hw2,hd1,hd2⟩:=W.gr.le
  obtain⟨a,b,rfl,rfl⟩:=call1 hc
  have hl':H l=some (.lst [.int a,.int b]):=hl
  refine⟨_,(zB (zG (i:=2) Z3.nd rfl (Or.inl rfl) (zN zO (pv 1) zE (fun _ _=>rfl)))
      (zB (zG (i:=3) Z3.nd rfl (Or.inl rfl) (zN zO (pv 1) zE (fun _ _=>rfl)))
      (zB (zf (zt (zm (zT (zF (pv 0) rfl) T.c_Ground m_Ground_has_cell hr (zA (pv 2) (zA (pv 3) zC))))) (zD (zH (zQ (zA (zM T.g_NOT_IN_RANGE) zC)))) zP)
      (zB (zG (i:=4) Z3.nd rfl (Or.inl rfl) (zT (zF (pv 0) rfl) T.c_Pieces m_Pieces_look hr (zA (zK QH (pv 2) (zM T.g_PIECE_SIDE)) (zA (zK QH (pv 3) (zM T.g_PIECE_SIDE)) zC))))
      (zD (zH (zK zCR (zQ (zA zE zC)) (zT (pv 0) T.c_World m_World_cell_now hr (zA (pv 4) (zA (pv 2) (zA (pv 3) zC))))))))))),?_⟩
  refine st0 (σ0:=[some _,some _,none,none,none]) rfl ?_
  try dsimp only[cxOf]
  walk_at "rd"
  refine⟨g,dg,da,s0.seed,s0.w,s0.d,a,b,rfl,hg,?_⟩
  walk_at "rd"
  with_reducible refine zR (fun z=>?_) (fun z=>?_)
  . rw[Bool.not_eq_true',decide_eq_false_iff_not] at z
    walk_at "rd"
    walk_at "new"
    rename_i p hp H1 f1 s1
    exact zS k (Gm.st_cell_no (QZ z)) (W.same s1) f1 (.same s1)
  rw[Bool.not_eq_false',decide_eq_true_iff] at z
  have e:=Gm.st_cell (qP z)
  obtain⟨x,rfl⟩:∃x:Nat,a=x:=⟨a.toNat,by omega⟩
  obtain⟨y,rfl⟩:∃y:Nat,b=y:=⟨b.toNat,by omega⟩
  obtain⟨cl,_,_⟩:=J1 W.pc (x / 8) (y / 8)
  rw[Int.toNat_natCast,Int.toNat_natCast,cl,zBO _ _ _ _ _ _ _ rfl rfl] at e
  obtain⟨kc,hkc,_⟩:=W.ch.dict
  obtain⟨kp,hkp,_⟩:=W.pc.dict
  obtain⟨kg,hkg,_⟩:=W.gr.cor
  have sw:=W.gr.wd
  have sd:=W.gr.dp
  unfold Side at sw sd
  walk_at "rd"
  refine⟨ps,kd,g,da,cd,s0,x / 8,y / 8,by simp,W.pc,W.gr,W.n1,W.n3,⟨_,hkc⟩,W.cap.1,W.cap.2,by omega,by omega,fun H1 pd P1 G1 M1 e1=>?_⟩
  obtain⟨l1,l2,l3,l4,l5⟩:=zAe s0 (x / 8) (y / 8)
  have W1:=W.look e1 P1 G1 l1 l2 l3 l4 l5
  have lk1:LK H H1:=zBT hkg hkp hps e1
  obtain⟨dw1,hw1'⟩:=W1.ins
  have hch1:=W1.ch
  rw[l5] at hch1
  generalize (Vbwsan.look s0 (x / 8) (y / 8)).1=t at W1 e
  walk_at "rd"
  walk_at "new"
  rename_i q hq H2 f2 s2
  have hw2':=s2 _ _ hw1'
  have M2:MadeAt s0.seed s0.w s0.d H2 pd (box (8*(x / 8)) (8*(y / 8)) 8 8):=by
    obtain⟨kk,y1,y2⟩:=M1
    exact⟨kk,s2 _ _ y1,y2.keep ZH s2.keeps⟩
  walk_at "rd"
  refine⟨wd,g,ps,ch,cd,dw1,pd,s0,box (8*(x / 8)) (8*(y / 8)) 8 8,x,y,rfl,hw2',hch1.same s2,M2,zCB (by omega) (by omega) (by omega) (by omega),fun H3 r s3 hr3 f3=>?_⟩
  walk_at "rd"
  refine zCK (s3 _ _ f2) f3 (Nat.le_of_ble_eq_true rfl) fun v hv=>?_
  apply Ze hv
  intro H4 z4 f4 s4
  rw[z4]
  exact zS k e (((W1.same s2).same s3).same s4) f4 (((lk1.trans (.same s2)).trans (.same s3)).trans (.same s4))
abbrev s_piece_answer:Stmt:=top 91
theorem ZA:FnScope ["world","numbers","i","j","piece","answer","x","y"] ["world","numbers"] (defScope s_piece_answer):=⟨rfl,rfl,rfl,by decide +kernel,rfl,by decide +kernel,by decide +kernel⟩
theorem ok_piece_answer {f : Addr} {fd : FuncData} (F : Fun K "piece_answer" "piece_answer" s_piece_answer f fd) (T : Glb K mg A) (m_Pieces_has_piece : MtAt P w K mg base 1 A.C_Pieces "has_piece" ["self", "i", "j"] (sp_has_piece A))
    (m_Pieces_look:MtAt P w K mg base 14 A.C_Pieces "look" ["self","i","j"] (sp_look A))
    (f_cells_of:FnAt P w K mg base 2 "cells_of" ["i","j"] QG)
    (m_World_cell_now:MtAt P w K mg base 3 A.C_World "cell_now" ["self","made","x","y"] (qQ A)):FnOk P w K mg base CX0 15 f fd ["world","numbers"] (sp_ans A 2):=by
  refine F.ok ZA (fun vs H Q E h=>?_) (fun cdv Ar outer s H vs Q E hr h=>?_)
  . obtain⟨wd,g,da,ps,kd,ch,cd,l,s,nums,c,rfl,_⟩:=h
    rfl
  obtain⟨wd,g,da,ps,kd,ch,cd,l,s0,nums,c,rfl,W,hl,hc,hlen,k⟩:=h
  obtain⟨dxw,hw⟩:=W.ins
  obtain⟨dg,hg⟩:=W.gr.ins
  obtain⟨dpp,hps⟩:=W.pc.ins
  obtain⟨dch,hch⟩:=W.ch.ins
  have hu:=ZB hr
  obtain⟨hw1,hw2,hd1,hd2⟩:=W.gr.le
  obtain⟨a,b,rfl,rfl⟩:=call2 hc
  have hl':H l=some (.lst [.int a,.int b]):=hl
  refine⟨_,(zB (zG (i:=2) ZA.nd rfl (Or.inl rfl) (zN zO (pv 1) zE (fun _ _=>rfl)))
      (zB (zG (i:=3) ZA.nd rfl (Or.inl rfl) (zN zO (pv 1) zE (fun _ _=>rfl)))
      (zB (zf (zt (zm (zT (zF (pv 0) rfl) T.c_Pieces m_Pieces_has_piece hr (zA (pv 2) (zA (pv 3) zC))))) (zD (zH (zQ (zA (zM T.g_NOT_IN_RANGE) zC)))) zP)
      (zB (zG (i:=4) ZA.nd rfl (Or.inl rfl) (zT (zF (pv 0) rfl) T.c_Pieces m_Pieces_look hr (zA (pv 2) (zA (pv 3) zC))))
      (zB (zG (i:=5) ZA.nd rfl (Or.inl rfl) (zQ (zA zE zC)))
      (zB (ZQ PassesOwn.never rfl (ZL (zV f_cells_of hr (zA (pv 2) (zA (pv 3) zC)))) (JG (n:=2) rfl (ZN (zX (i:=6) ZA.nd rfl (Or.inl rfl)) (ZN (zX (i:=7) ZA.nd rfl (Or.inl rfl)) jK))) (zD (zo (q0 PySem.F.plainAttrs_list PySem.F.slot_list_extend PySem.F.type_list_extend qk (pv 5) (zA (zT (pv 0) T.c_World m_World_cell_now hr (zA (pv 4) (zA (pv 6) (zA (pv 7) zC)))) zC)))))
      (zD (zH (pv 5))))))))),?_⟩
  refine st0 (σ0:=[some _,some _,none,none,none,none,none,none]) rfl ?_
  try dsimp only[cxOf]
  walk_at "rd"
  refine⟨ps,kd,g,da,cd,s0,a,b,rfl,W.pc,W.gr,?_⟩
  walk_at "rd"
  with_reducible refine zR (fun z=>?_) (fun z=>?_)
  . rw[Bool.not_eq_true',decide_eq_false_iff_not] at z
    walk_at "rd"
    walk_at "new"
    rename_i p hp H1 f1 s1
    exact zS k (Gm.st_piece_no (jL z)) (W.same s1) f1 (.same s1)
  rw[Bool.not_eq_false',decide_eq_true_iff] at z
  have e:=Gm.st_piece (jG z)
  obtain⟨i,rfl⟩:∃x:Nat,a=x:=⟨a.toNat,by omega⟩
  obtain⟨j,rfl⟩:∃y:Nat,b=y:=⟨b.toNat,by omega⟩
  have hi:=side8 (i:=i) W.gr.wd (by omega)
  have hj:=side8 (i:=j) W.gr.dp (by omega)
  obtain⟨cl,ci,cj⟩:=J1 W.pc i j
  have ecn:Vbwsan.cellsNow s0 (Vbwsan.look s0 i j).2=(box (8*i) (8*j) 8 8).map fun c=>Vbwsan.cellAt s0 c.1 c.2:=by
    unfold Vbwsan.cellsNow Vbwsan.PIECE
    rw[cl,ci,cj]
    have hgr:=Gm.Qs (fun a b=>Vbwsan.cellAt s0 (8*i+a) (8*j+b)) 8 (by decide) 8
    unfold box
    rw[List.map_flatMap]
    simp only[List.map_map]
    refine Eq.trans ?_ hgr
    refine List.map_congr_left fun n hn=>?_
    have hn:=List.mem_range.mp hn
    have:=zBO s0.seed s0.w s0.d i j (8*i+n%8) (8*j+n / 8) (by omega) (by omega)
    rw[show(8*j+n / 8)%8*8+(8*i+n%8)%8=n by omega] at this
    rw[this,Nat.mul_comm i,Nat.mul_comm j]
    rfl
  rw[Int.toNat_natCast,Int.toNat_natCast,ecn] at e
  obtain⟨kc,hkc,_⟩:=W.ch.dict
  obtain⟨kp,hkp,_⟩:=W.pc.dict
  obtain⟨kg,hkg,_⟩:=W.gr.cor
  walk_at "rd"
  refine⟨ps,kd,g,da,cd,s0,i,j,rfl,W.pc,W.gr,W.n1,W.n3,⟨_,hkc⟩,W.cap.1,W.cap.2,by omega,by omega,fun H1 pd P1 G1 M1 e1=>?_⟩
  obtain⟨l1,l2,l3,l4,l5⟩:=zAe s0 i j
  have W1:=W.look e1 P1 G1 l1 l2 l3 l4 l5
  have lk1:LK H H1:=zBT hkg hkp hps e1
  obtain⟨dw1,hw1'⟩:=W1.ins
  have hch1:=W1.ch
  rw[l5] at hch1
  generalize (Vbwsan.look s0 i j).1=t at W1 e
  walk_at "rd"
  walk_at "new"
  rename_i p hp H2 f2 s2
  have hpH:H p=none:=by
    cases zz:H p with
    |none=>rfl
    | some o =>
      exfalso
      by_cases c1:p=da
      . obtain⟨_,y,_⟩:=W1.gr.cor;rw[<-c1,hp] at y;cases y
      . by_cases c2:p=kd
        . obtain⟨_,y,_⟩:=W1.pc.dict;rw[<-c2,hp] at y;cases y
        . by_cases c3:p=ps
          . obtain⟨_,y⟩:=W1.pc.ins;rw[<-c3,hp] at y;cases y
          . have:=e1 _ _ zz c1 c2 c3
            rw[hp] at this
            cases this
  walk_at "rd"
  refine⟨i,j,rfl,by omega,by omega,fun H3 q s3 hq c3=>?_⟩
  obtain⟨ts,c4,c5⟩:=id c3
  have lts:ts.length=(box (8*i) (8*j) 8 8).length:=Paired.length c5
  obtain⟨kk,m1,m2⟩:=M1
  refine zq (SqL.of c4) ?_
  let ff:Nat×Nat->List Int:=fun c=>[(c.1:Int),(c.2:Int)]
  let cn:Nat×Nat->Nat×Nat:=fun c=>Vbwsan.cellAt s0 c.1 c.2
  have h1:∀l:List (Nat×Nat),(l.flatMap ff).length=2*l.length:=fun l=>by
    induction l with
    |nil=>rfl
    |cons a l ih=>rw[List.flatMap_cons,List.length_append,ih];show 2+_=_;rw[List.length_cons];omega
  refine qi (xs:=ts) (fun n σ H'=>∃v6 v7:Option V,σ=[some (.ref wd),some (.ref l),some (.int i),some (.int j),some (.ref pd),some (.ref p),v6,v7]/\(∀b o,H3 b=some o->b≠p->H' b=some o)/\H' p=some (.lst ((0::(((box (8*i) (8*j) 8 8).take n).map cn).flatMap ff).map V.int)))
    ⟨none,none,rfl,fun b o hb _=>hb,s3 _ _ f2⟩ (fun i σ H' _ ⟨_,_,_,y,_⟩=>SqL.of (y _ _ c4 (fun zz=>by rw[zz,f2] at hq;cases hq))) ?_ ?_
  . rintro n v σ H' hv ⟨v6,v7,rfl,k3,p3⟩
    obtain⟨c,hcc,tc,rfl,htc⟩:=ZO c5 hv
    have nlp:∀{b:Addr} {o:HO},H3 b=some o->¬ isL o->b≠p:=fun {b o} hb ho zz=>by
      have:=s3 _ _ f2
      rw[<-zz,hb] at this
      cases this
      exact ho trivial
    have htc3:=k3 _ _ htc (za htc (s3 _ _ f2) (by intro z;cases z))
    have hcb:=jw (List.mem_of_getElem? hcc)
    have hw3:=k3 _ _ (s3 _ _ (s2 _ _ hw1')) (nlp (s3 _ _ (s2 _ _ hw1')) (fun z=>z))
    have kp3:Keeps H3 H':=fun b o hb fo=>k3 _ _ hb (fun zz=>by have:=s3 _ _ f2;rw[<-zz,hb] at this;cases this;exact fo)
    have C3:ChAt A H' ch cd s0.changes:=((hch1.same s2).same s3).keep kp3 fun kvs hb=>k3 _ _ hb (nlp hb (fun z=>z))
    have M3:MadeAt s0.seed s0.w s0.d H' pd (box (8*i) (8*j) 8 8):=by
      have y1:=s3 _ _ (s2 _ _ m1)
      exact⟨kk,k3 _ _ y1 (nlp y1 (fun z=>z)),((m2.keep ZH s2.keeps).keep ZH s3.keeps).keep ZH kp3⟩
    refine jH (SqT.of htc3) rfl ?_
    walk_at "rd"
    refine Zv p3 ?_
    walk_at "rd"
    refine⟨wd,g,ps,ch,cd,dw1,pd,s0,box (8*i) (8*j) 8 8,c.1,c.2,rfl,hw3,C3,M3,List.mem_of_getElem? hcc,fun H4 r s4 hr4 f4=>?_⟩
    walk_at "rd"
    have bl:(box (8*i) (8*j) 8 8).length=64:=by rw[Zw]
    refine qj (s4 _ _ p3) f4 ?_ ?_
    . rw[List.length_map,List.length_cons,h1,List.length_map,List.length_take]
      exact Nat.le_of_lt (small (by simp only[List.length_cons,List.length_nil];omega))
    . refine⟨_,_,rfl,fun b o hb nb=>by rw[zI nb];exact s4 _ _ (k3 _ _ hb nb),?_⟩
      rw[zJ,zZ hcc,List.map_append,List.flatMap_append]
      show _=some (HO.lst (List.map V.int ((0::_)++(([c].map cn).flatMap ff))))
      rw[List.map_append]
      rfl
  . rintro σ H' ⟨v6,v7,rfl,k3,p3⟩
    walk_at "rd"
    rw[lts,List.take_length] at p3
    have W3:=(W1.same s2).same s3
    have kp3:Keeps H3 H':=fun b o hb fo=>k3 _ _ hb (fun zz=>by have:=s3 _ _ f2;rw[<-zz,hb] at this;cases this;exact fo)
    have dk3:∀b kvs,H3 b=some (.dT kvs)->H' b=some (.dT kvs):=fun b kvs hb=>k3 _ _ hb (fun zz=>by have:=s3 _ _ f2;rw[<-zz,hb] at this;cases this)
    have W4:WoX A H' wd g da ps kd ch cd t:=by
      obtain⟨⟨dxa,h1⟩,⟨⟨dga,h2⟩,⟨kg,h3,h4⟩,h5,h6⟩,h7,h8,n1,n2,n3,h9⟩:=W3
      exact⟨⟨dxa,kp3 _ _ h1 trivial⟩,⟨⟨dga,kp3 _ _ h2 trivial⟩,⟨kg,dk3 _ _ h3,h4⟩,h5,h6⟩,h7.keep kp3 (fun b kvs hb _=>dk3 _ _ hb) n1,h8.keep kp3 fun kvs hb=>dk3 _ _ hb,n1,n2,n3,h9⟩
    refine zS k e W4 p3 fun b o hb lo=>k3 _ _ (s3 _ _ (s2 _ _ (lk1 _ _ hb lo))) (fun zz=>by rw[zz,hpH] at hb;cases hb)
end
end Gs
namespace Gs
open PySem PySem.Spec PyProof.Rows L2
section
variable{P:Program}{w:World}{K:PySem.W.Frag}{mg:Str->Option Value}{base:Heap}{A:Ads}
theorem upk{H:Hp}{b d:Addr}{o u:HO}(n:b≠d)(h:H b=some o):upd H d u b=some o:=by rw[zI n];exact h
theorem WoX.forgot{A:Ads}{H H':Hp}{wd g da ps kd ch cd:Addr}{s t:Vbwsan.State}(W:WoX A H wd g da ps kd ch cd s)(e:Ext kd H H')(P:PcAt A H' ps kd g da cd t)(e1:t.seed=s.seed)(e2:t.w=s.w)(e3:t.d=s.d)(e4:t.cap=s.cap)(e5:t.changes=s.changes):WoX A H' wd g da ps kd ch cd t:=by
  obtain⟨⟨dx,h1⟩,⟨⟨dg,h2⟩,⟨kg,h3,h4⟩,h5,h6⟩,h7,h8,n1,n2,n3,h9⟩:=W
  obtain⟨kk,hkd,_⟩:=h7.dict
  have k:Keeps H H':=e.keeps hkd (fun z=>z)
  refine⟨⟨dx,k _ _ h1 trivial⟩,?_,P,?_,n1,n2,n3,by rw[e4];exact h9⟩
  . rw[e1,e2,e3]
    exact⟨⟨dg,k _ _ h2 trivial⟩,⟨kg,e _ _ h3 (Ne.symm n1),h4⟩,h5,h6⟩
  . rw[e5]
    exact h8.keep k fun kvs hb=>e _ _ hb (Ne.symm n3)
theorem fg_fun(i j:Nat):(fun p:Vbwsan.Piece=>!((p.i:Int)==(i:Int)&&(p.j:Int)==(j:Int)))=fun q=>!(q.i==i&&q.j==j):=by
  funext p
  refine congrArg Bool.not (Bool.eq_iff_iff.mpr ?_)
  rw[Bool.and_eq_true,beq_iff_eq,beq_iff_eq,Bool.and_eq_true,beq_iff_eq,beq_iff_eq]
  omega
theorem zCT(l:List Vbwsan.Piece)(i j:Nat):(l.any fun p=>(p.i:Int)==(i:Int)&&(p.j:Int)==(j:Int))=(pcFind l i j).isSome:=by
  unfold pcFind
  refine Bool.eq_iff_iff.mpr ?_
  rw[List.find?_isSome,List.any_eq_true]
  constructor
  . rintro ⟨p,h1,h2⟩
    refine⟨p,h1,?_⟩
    rw[Bool.and_eq_true,beq_iff_eq,beq_iff_eq] at h2 ⊢
    omega
  . rintro ⟨p,h1,h2⟩
    refine⟨p,h1,?_⟩
    rw[Bool.and_eq_true,beq_iff_eq,beq_iff_eq] at h2 ⊢
    omega
theorem st_forget4{s:Vbwsan.State}{i j:Nat}(h:¬ Vbwsan.isPiece s i j=false)(h2:(pcFind s.pieces i j).isSome=false):Vbwsan.step s (.forget i j)=(s,[-4]):=by
  unfold Vbwsan.step
  dsimp only
  rw[if_neg h,zCT,if_pos h2]
  rfl
theorem st_forget{s:Vbwsan.State}{i j:Nat}(h:¬ Vbwsan.isPiece s i j=false)(h2:(pcFind s.pieces i j).isSome=true):Vbwsan.step s (.forget i j)=({ s with pieces:=s.pieces.filter fun q=>!(q.i==i&&q.j==j) },[0,(s.pieces.length:Int) - 1]):=by
  unfold Vbwsan.step
  dsimp only
  rw[if_neg h,zCT,h2,if_neg (by decide),fg_fun]
  rfl
theorem drop_len {l : List Vbwsan.Piece} {i j : Nat} (hn : (l.map pKey).Nodup) (h : (pcFind l i j).isSome = true) : (l.filter fun q => !(q.i == i && q.j == j)).length + 1 = l.length := by
  rw[<-JI]
  rw[<-Zx] at h
  induction l with
  |nil=>simp at h
  | cons p l ih =>
    have hn':=List.nodup_cons.mp hn
    rw[List.filter_cons]
    by_cases c:pKey p=key2 i j
    . rw[if_neg (by rw[decide_eq_true c];decide)]
      have:l.filter (fun q=>!decide (pKey q=key2 i j))=l:=List.filter_eq_self.mpr fun q hq=>by
        have:¬ pKey q=key2 i j:=fun z=>hn'.1 (List.mem_map.mpr ⟨q,hq,z.trans c.symm⟩)
        rw[decide_eq_false this]
        rfl
      rw[this,List.length_cons]
    . rw[if_pos (by rw[decide_eq_false c];rfl),List.length_cons,List.length_cons]
      rw[List.find?_cons,decide_eq_false c] at h
      rw[ih hn'.2 h]
abbrev qc:Stmt:=top 92
theorem qA:FnScope ["world","numbers","i","j"] ["world","numbers"] (defScope qc):=⟨rfl,rfl,rfl,by decide +kernel,rfl,by decide +kernel,by decide +kernel⟩
theorem ok_forget_answer{f:Addr}{fd:FuncData}(F:Fun K "forget_answer" "forget_answer" qc f fd)(T:Glb K mg A)(m_Pieces_has_piece:MtAt P w K mg base 1 A.C_Pieces "has_piece" ["self","i","j"] (sp_has_piece A))
    (m_Pieces_is_kept:MtAt P w K mg base 1 A.C_Pieces "is_kept" ["self","i","j"] (jc A))
    (m_Pieces_forget:MtAt P w K mg base 1 A.C_Pieces "forget" ["self","i","j"] (JA A)):FnOk P w K mg base CX0 2 f fd ["world","numbers"] (sp_ans A 3):=by
  refine F.ok qA (fun vs H Q E h=>?_) (fun cdv Ar outer s H vs Q E hr h=>?_)
  . obtain⟨wd,g,da,ps,kd,ch,cd,l,s,nums,c,rfl,_⟩:=h
    rfl
  obtain⟨wd,g,da,ps,kd,ch,cd,l,s0,nums,c,rfl,W,hl,hc,hlen,k⟩:=h
  obtain⟨dxw,hw⟩:=W.ins
  obtain⟨dg,hg⟩:=W.gr.ins
  obtain⟨dpp,hps⟩:=W.pc.ins
  obtain⟨dch,hch⟩:=W.ch.ins
  have hu:=ZB hr
  obtain⟨hw1,hw2,hd1,hd2⟩:=W.gr.le
  obtain⟨a,b,rfl,rfl⟩:=call3 hc
  have hl':H l=some (.lst [.int a,.int b]):=hl
  refine⟨_,(zB (zG (i:=2) qA.nd rfl (Or.inl rfl) (zN zO (pv 1) zE (fun _ _=>rfl)))
      (zB (zG (i:=3) qA.nd rfl (Or.inl rfl) (zN zO (pv 1) zE (fun _ _=>rfl)))
      (zB (zf (zt (zm (zT (zF (pv 0) rfl) T.c_Pieces m_Pieces_has_piece hr (zA (pv 2) (zA (pv 3) zC))))) (zD (zH (zQ (zA (zM T.g_NOT_IN_RANGE) zC)))) zP)
      (zB (zf (zt (zm (zT (zF (pv 0) rfl) T.c_Pieces m_Pieces_is_kept hr (zA (pv 2) (zA (pv 3) zC))))) (zD (zH (zQ (zA (zM T.g_THERE_IS_NONE) zC)))) zP)
      (zB (zo (zT (zF (pv 0) rfl) T.c_Pieces m_Pieces_forget hr (zA (pv 2) (zA (pv 3) zC))))
      (zD (zH (zQ (zA zE (zA (zU QD (by rfl) T.b_len PySem.boot_len (zA (zF (zF (pv 0) rfl) rfl) zC)) zC)))))))))),?_⟩
  refine st0 (σ0:=[some _,some _,none,none]) rfl ?_
  try dsimp only[cxOf]
  walk_at "rd"
  refine⟨ps,kd,g,da,cd,s0,a,b,rfl,W.pc,W.gr,?_⟩
  walk_at "rd"
  with_reducible refine zR (fun z=>?_) (fun z=>?_)
  . rw[Bool.not_eq_true',decide_eq_false_iff_not] at z
    walk_at "rd"
    walk_at "new"
    rename_i p hp H1 f1 s1
    exact zS k (Gm.st_forget_no (jL z)) (W.same s1) f1 (.same s1)
  rw[Bool.not_eq_false',decide_eq_true_iff] at z
  have c0:=jG z
  obtain⟨i,rfl⟩:∃x:Nat,a=x:=⟨a.toNat,by omega⟩
  obtain⟨j,rfl⟩:∃y:Nat,b=y:=⟨b.toNat,by omega⟩
  walk_at "rd"
  refine⟨ps,kd,g,da,cd,s0,i,j,rfl,W.pc,fun H1 s1=>?_⟩
  have W1:=W.same s1
  have hw1':=s1 _ _ hw
  have hps1:=s1 _ _ hps
  walk_at "rd"
  with_reducible refine zR (fun z2=>?_) (fun z2=>?_)
  . rw[Bool.not_eq_true'] at z2
    walk_at "rd"
    walk_at "new"
    rename_i p hp H2 f2 s2
    exact zS k (st_forget4 c0 z2) (W1.same s2) f2 (.same (s1.trans s2))
  rw[Bool.not_eq_false'] at z2
  have e:=st_forget c0 z2
  walk_at "rd"
  refine⟨ps,kd,g,da,cd,s0,i,j,rfl,W1.pc,z2,fun H2 P2 e2=>?_⟩
  have W2:=W1.forgot e2 P2 rfl rfl rfl rfl rfl
  obtain⟨kk,hkd,_⟩:=W1.pc.dict
  have lk2:LK H H2:=(LK.same s1).trans (.ext e2 hkd (fun z=>z))
  obtain⟨dw2,hw2'⟩:=W2.ins
  obtain⟨dp2,hp2⟩:=W2.pc.ins
  obtain⟨kk2,hkd2,dm2⟩:=W2.pc.dict
  walk_at "rd"
  refine⟨kd,kk2,rfl,hkd2,?_⟩
  walk_at "rd"
  walk_at "new"
  rename_i p hp H3 f3 s3
  refine zS k e (W2.same s3) ?_ (lk2.trans (.same s3))
  have dl:=drop_len W.pc.nd z2
  rw[f3,dm2.len,<-dl]
  show some (HO.lst [V.int 0,V.int _])=some (HO.lst [V.int 0,V.int _])
  rw[show(((s0.pieces.filter fun q=>!(q.i==i&&q.j==j)).length+1:Nat):Int) - 1=((s0.pieces.filter fun q=>!(q.i==i&&q.j==j)).length:Nat) by omega]
abbrev s_kept_answer:Stmt:=top 93
theorem Z2:FnScope ["world","numbers","answer","i","j"] ["world","numbers"] (defScope s_kept_answer):=⟨rfl,rfl,rfl,by decide +kernel,rfl,by decide +kernel,by decide +kernel⟩
theorem ok_kept_answer {f : Addr} {fd : FuncData} (F : Fun K "kept_answer" "kept_answer" s_kept_answer f fd) (T : Glb K mg A)  : FnOk P w K mg base CX0 2 f fd ["world", "numbers"] (sp_ans A 4) := by
  refine F.ok Z2 (fun vs H Q E h=>?_) (fun cdv Ar outer s H vs Q E hr h=>?_)
  . obtain⟨wd,g,da,ps,kd,ch,cd,l,s,nums,c,rfl,_⟩:=h
    rfl
  obtain⟨wd,g,da,ps,kd,ch,cd,l,s0,nums,c,rfl,W,hl,hc,hlen,k⟩:=h
  obtain⟨dxw,hw⟩:=W.ins
  obtain⟨dg,hg⟩:=W.gr.ins
  obtain⟨dpp,hps⟩:=W.pc.ins
  obtain⟨dch,hch⟩:=W.ch.ins
  have hu:=ZB hr
  obtain⟨hw1,hw2,hd1,hd2⟩:=W.gr.le
  obtain⟨rfl,rfl⟩:=call4 hc
  obtain⟨kk,hkd,dm⟩:=W.pc.dict
  have lkk:kk.length=s0.pieces.length:=dm.len
  have cap:=W.cap
  have plen:=W.pc.len
  refine⟨_,(zB (zG (i:=2) Z2.nd rfl (Or.inl rfl) (zQ (zA zE (zA (zF (zF (pv 0) rfl) rfl) zC))))
      (zB (zBj (ZQ PassesOwn.never rfl (pi_keys (zF (zF (pv 0) rfl) rfl)) (JG (n:=2) rfl (ZN (zX (i:=3) Z2.nd rfl (Or.inl rfl)) (ZN (zX (i:=4) Z2.nd rfl (Or.inl rfl)) jK))) (zD (zo (q0 PySem.F.plainAttrs_list PySem.F.slot_list_extend PySem.F.type_list_extend qk (pv 2) (zA (zQ (zA (pv 3) (zA (pv 4) zC))) zC))))))
      (zD (zH (pv 2))))),?_⟩
  refine st0 (σ0:=[some _,some _,none,none,none]) rfl ?_
  try dsimp only[cxOf]
  walk_at "rd"
  walk_at "new"
  rename_i p hp H1 f1 s1
  have hw1':=s1 _ _ hw
  have hps1:=s1 _ _ hps
  have hkd1:=s1 _ _ hkd
  refine⟨kd,_,hkd1,trivial,fun od=>?_⟩
  have npk:p≠kd:=za f1 hkd1 (by intro z;cases z)
  have nwk:wd≠kd:=za hw1' hkd1 (by intro z;cases z)
  have nsk:ps≠kd:=za hps1 hkd1 (by intro z;cases z)
  have hw2':=upk (u:=.frz od (.dT kk)) nwk hw1'
  have hps2:=upk (u:=.frz od (.dT kk)) nsk hps1
  have f2:=upk (u:=.frz od (.dT kk)) npk f1
  have hk2:upd H1 kd (.frz od (.dT kk)) kd=some (.frz od (.dT kk)):=zJ
  generalize hH2:upd H1 kd (.frz od (.dT kk))=H2 at hw2' hps2 f2 hk2
  walk_at "rd"
  refine⟨_,rfl,wd,_,_,_,_,rfl,hw2',T.c_World,T.n_World_pieces,rfl,ps,_,_,_,_,rfl,hps2,T.c_Pieces,T.n_Pieces_kept,rfl,kd,od,rfl,.inr ⟨kk,hk2,?_⟩⟩
  let ff:Vbwsan.Piece->List Int:=fun q=>[(q.i:Int),(q.j:Int)]
  have h1:∀l:List Vbwsan.Piece,(l.flatMap ff).length=2*l.length:=fun l=>by
    induction l with
    |nil=>rfl
    |cons a l ih=>rw[List.flatMap_cons,List.length_append,ih];show 2+_=_;rw[List.length_cons];omega
  let Pv:Nat->L2.St->Hp->Prop:=fun n σ H'=>∃v3 v4:Option V,σ=[some (.ref wd),some (.ref l),some (.ref p),v3,v4]/\(∀b o,H2 b=some o->b≠p->H' b=some o)/\H' p=some (.lst ((0::(s0.made:Int)::(s0.pieces.take n).flatMap ff).map V.int))
  refine⟨fun n m σ H'=>m=kk.length - n/\n<=kk.length/\Pv n σ H',⟨kk.length,by simp,Nat.zero_le _,none,none,rfl,fun b o hb _=>hb,f2⟩,?_⟩
  rintro n m σ H' ⟨rfl,hn,v3,v4,rfl,k3,p3⟩
  have hk3:=k3 _ _ hk2 (Ne.symm npk)
  by_cases hlt:n<kk.length
  . refine .inr ⟨⟨hk3,hlt⟩,Pv (n+1),fun σ' H'' hh=>⟨kk.length - (n+1),by omega,rfl,by omega,hh⟩,?_⟩
    rintro x H'' ⟨rfl,ky,v,qa,hkv,rfl,hqa⟩
    obtain⟨pc,hpc,r1,_⟩:=ZK dm hkv
    dsimp only at r1
    subst r1
    have hqa':H'' qa=some (.tup [.int pc.i,.int pc.j]):=hqa
    refine jH (SqT.of hqa') rfl ?_
    walk_at "rd"
    refine Zv p3 ?_
    walk_at "rd"
    walk_at "new"
    rename_i r hr5 H5 f5 s5
    walk_at "rd"
    refine qj (s5 _ _ p3) f5 ?_ ?_
    . rw[List.length_map,List.length_cons,List.length_cons,h1,List.length_take]
      exact Nat.le_of_lt (small (by simp only[List.length_cons,List.length_nil];omega))
    . refine⟨_,_,rfl,fun b o hb nb=>by rw[zI nb];exact s5 _ _ (k3 _ _ hb nb),?_⟩
      rw[zJ,zZ hpc,List.flatMap_append]
      show _=some (HO.lst (List.map V.int ((0::(s0.made:Int)::_)++([pc].flatMap ff))))
      rw[List.map_append]
      rfl
  . have hne:n=kk.length:=by omega
    subst hne
    refine .inl ⟨⟨hk3,Nat.le_refl _⟩,hk3,?_⟩
    rw[lkk,List.take_length] at p3
    have pw:=upk (u:=.dT kk) npk p3
    walk_at "rd"
    have all:∀b o,H1 b=some o->b≠p->upd H' kd (.dT kk) b=some o:=fun b o hb nb=>by
      by_cases c:b=kd
      . rw[c,zJ]
        rw[c,hkd1] at hb
        exact hb
      . rw[zI c]
        refine k3 _ _ ?_ nb
        rw[<-hH2,zI c]
        exact hb
    have sm:Same H (upd H' kd (.dT kk)):=fun b o hb=>all _ _ (s1 _ _ hb) (zL hb hp)
    exact zS k Gm.st_kept (W.same sm) pw (.same sm)
abbrev s_changes_answer:Stmt:=top 97
theorem ZY:FnScope ["world","numbers","answer","place","change"] ["world","numbers"] (defScope s_changes_answer):=⟨rfl,rfl,rfl,by decide +kernel,rfl,by decide +kernel,by decide +kernel⟩
theorem ok_changes_answer {f : Addr} {fd : FuncData} (F : Fun K "changes_answer" "changes_answer" s_changes_answer f fd) (T : Glb K mg A)  : FnOk P w K mg base CX0 2 f fd ["world", "numbers"] (sp_ans A 8) := by
  refine F.ok ZY (fun vs H Q E h=>?_) (fun cdv Ar outer s H vs Q E hr h=>?_)
  . obtain⟨wd,g,da,ps,kd,ch,cd,l,s,nums,c,rfl,_⟩:=h
    rfl
  obtain⟨wd,g,da,ps,kd,ch,cd,l,s0,nums,c,rfl,W,hl,hc,hlen,k⟩:=h
  obtain⟨dxw,hw⟩:=W.ins
  obtain⟨dg,hg⟩:=W.gr.ins
  obtain⟨dpp,hps⟩:=W.pc.ins
  obtain⟨dch,hch⟩:=W.ch.ins
  have hu:=ZB hr
  obtain⟨hw1,hw2,hd1,hd2⟩:=W.gr.le
  obtain⟨rfl,rfl⟩:=call8 hc
  obtain⟨kk,hkd,dm⟩:=W.ch.dict
  have lkk:kk.length=s0.changes.length:=dm.len
  have plen:=W.ch.ok.len
  refine⟨_,(zB (zG (i:=2) ZY.nd rfl (Or.inl rfl) (zQ (zA zE zC)))
      (zB (zBj (ZQ PassesOwn.never rfl (pi_itemsT (zF (zF (pv 0) rfl) rfl)) (JG (n:=2) rfl (ZN (zX (i:=3) ZY.nd rfl (Or.inl rfl)) (ZN (zX (i:=4) ZY.nd rfl (Or.inl rfl)) jK))) (zD (zo (q0 PySem.F.plainAttrs_list PySem.F.slot_list_extend PySem.F.type_list_extend qk (pv 2) (zA (zQ (zA (zN zg (pv 3) zE (fun _ _=>rfl)) (zA (zN zg (pv 3) zE (fun _ _=>rfl)) (zA (zN zg (pv 4) zE (fun _ _=>rfl)) (zA (zN zg (pv 4) zE (fun _ _=>rfl)) zC))))) zC))))))
      (zD (zH (pv 2))))),?_⟩
  refine st0 (σ0:=[some _,some _,none,none,none]) rfl ?_
  try dsimp only[cxOf]
  walk_at "rd"
  walk_at "new"
  rename_i p hp H1 f1 s1
  have hw1':=s1 _ _ hw
  have hch1:=s1 _ _ hch
  have hkd1:=s1 _ _ hkd
  have dm1:=dm.keep Z9 s1.keeps
  refine⟨cd,_,hkd1,trivial,fun od=>?_⟩
  have npk:p≠cd:=za f1 hkd1 (by intro z;cases z)
  have nwk:wd≠cd:=za hw1' hkd1 (by intro z;cases z)
  have nsk:ch≠cd:=za hch1 hkd1 (by intro z;cases z)
  have hw2':=upk (u:=.frz od (.dT kk)) nwk hw1'
  have hps2:=upk (u:=.frz od (.dT kk)) nsk hch1
  have f2:=upk (u:=.frz od (.dT kk)) npk f1
  have hk2:upd H1 cd (.frz od (.dT kk)) cd=some (.frz od (.dT kk)):=zJ
  have t2:∀b ys,H1 b=some (.tup ys)->upd H1 cd (.frz od (.dT kk)) b=some (.tup ys):=fun b ys hb=>by rw[zI (za hb hkd1 (by intro z;cases z))];exact hb
  generalize hH2:upd H1 cd (.frz od (.dT kk))=H2 at hw2' hps2 f2 hk2 t2
  walk_at "rd"
  refine⟨_,rfl,wd,_,_,_,_,rfl,hw2',T.c_World,T.n_World_changes,rfl,ch,_,_,_,_,rfl,hps2,T.c_Changes,T.n_Changes_cells,rfl,cd,od,kk,rfl,hk2,?_⟩
  let ff:Vbwsan.Change->List Int:=fun q=>[(q.x:Int),(q.y:Int),q.up,(q.kind:Int)]
  have h1:∀l:List Vbwsan.Change,(l.flatMap ff).length=4*l.length:=fun l=>by
    induction l with
    |nil=>rfl
    |cons a l ih=>rw[List.flatMap_cons,List.length_append,ih];show 4+_=_;rw[List.length_cons];omega
  let Pv:Nat->L2.St->Hp->Prop:=fun n σ H'=>∃v3 v4:Option V,σ=[some (.ref wd),some (.ref l),some (.ref p),v3,v4]/\(∀b o,H2 b=some o->b≠p->H' b=some o)/\H' p=some (.lst ((0::(s0.changes.take n).flatMap ff).map V.int))
  refine⟨fun n m σ H'=>m=kk.length - n/\n<=kk.length/\Pv n σ H',⟨kk.length,by simp,Nat.zero_le _,none,none,rfl,fun b o hb _=>hb,f2⟩,?_⟩
  rintro n m σ H' ⟨rfl,hn,v3,v4,rfl,k3,p3⟩
  have hk3:=k3 _ _ hk2 (Ne.symm npk)
  by_cases hlt:n<kk.length
  . refine .inr ⟨⟨hk3,hlt⟩,Pv (n+1),fun σ' H'' hh=>⟨kk.length - (n+1),by omega,rfl,by omega,hh⟩,?_⟩
    rintro x H'' ⟨Ta,qa,ky,v,hkv,rfl,hT,hqa,rfl⟩
    obtain⟨pc,hpc,r1,tv,r2,r3⟩:=ZK dm1 hkv
    dsimp only at r1 r2
    subst r1
    subst r2
    have nTp:p≠Ta:=zL p3 hT
    apply Ze hT
    intro H4 z4 f4 s4
    rw[z4]
    clear z4
    have hqa':H4 qa=some (.tup [.int pc.x,.int pc.y]):=s4 _ _ hqa
    have r4:H4 tv=some (.tup [.int pc.up,.int pc.kind]):=by
      refine s4 _ _ (k3 _ _ (t2 _ _ r3) (za (t2 _ _ r3) f2 (by intro z;cases z)))
    refine jH (SqT.of f4) rfl ?_
    walk_at "rd"
    refine Zv (s4 _ _ p3) ?_
    walk_at "rd"
    walk_at "new"
    rename_i r hr5 H5 f5 s5
    walk_at "rd"
    refine qj (s5 _ _ (s4 _ _ p3)) f5 ?_ ?_
    . rw[List.length_map,List.length_cons,h1,List.length_take]
      exact Nat.le_of_lt (small (by simp only[List.length_cons,List.length_nil];omega))
    . refine⟨_,_,rfl,fun b o hb nb=>by rw[zI nb];exact s5 _ _ (s4 _ _ (k3 _ _ hb nb)),?_⟩
      rw[zJ,zZ hpc,List.flatMap_append]
      show _=some (HO.lst (List.map V.int ((0::_)++([pc].flatMap ff))))
      rw[List.map_append]
      rfl
  . have hne:n=kk.length:=by omega
    subst hne
    refine .inl ⟨⟨hk3,Nat.le_refl _⟩,hk3,?_⟩
    rw[lkk,List.take_length] at p3
    have pw:=upk (u:=.dT kk) npk p3
    walk_at "rd"
    have all:∀b o,H1 b=some o->b≠p->upd H' cd (.dT kk) b=some o:=fun b o hb nb=>by
      by_cases c:b=cd
      . rw[c,zJ]
        rw[c,hkd1] at hb
        exact hb
      . rw[zI c]
        refine k3 _ _ ?_ nb
        rw[<-hH2,zI c]
        exact hb
    have sm:Same H (upd H' cd (.dT kk)):=fun b o hb=>all _ _ (s1 _ _ hb) (zL hb hp)
    exact zS k Gm.st_changes (W.same sm) pw (.same sm)
end
end Gs
namespace Gs
open PySem PySem.Spec PyProof.Rows L2
section
variable{P:Program}{w:World}{K:PySem.W.Frag}{mg:Str->Option Value}{base:Heap}{A:Ads}
theorem WoX.changed{A:Ads}{H H':Hp}{wd g da ps kd ch cd:Addr}{s:Vbwsan.State}{cs:List Vbwsan.Change}(W:WoX A H wd g da ps kd ch cd s)(e:Ext cd H H')(C:ChAt A H' ch cd cs):WoX A H' wd g da ps kd ch cd { s with changes:=cs }:=by
  obtain⟨⟨dx,h1⟩,⟨⟨dg,h2⟩,⟨kg,h3,h4⟩,h5,h6⟩,h7,h8,n1,n2,n3,h9⟩:=W
  obtain⟨kc,hcd,_⟩:=h8.dict
  have k:Keeps H H':=e.keeps hcd (fun z=>z)
  obtain⟨⟨dp,g1⟩,⟨kp,g2,g3⟩,g4,g5,g6⟩:=h7
  exact⟨⟨dx,k _ _ h1 trivial⟩,⟨⟨dg,k _ _ h2 trivial⟩,⟨kg,e _ _ h3 (Ne.symm n2),h4⟩,h5,h6⟩,⟨⟨dp,k _ _ g1 trivial⟩,⟨kp,e _ _ g2 n3,g3.imp fun kv a r=>⟨r.1,r.2.keep k fun b z hb n=>e _ _ hb fun q=>n (.inr (.inr q))⟩⟩,g4,g5,g6⟩,C,n1,n2,n3,h9⟩
theorem putC{s:Vbwsan.State}{x y:Nat}{up:Int}{kind:Nat}:Vbwsan.putChange s ⟨x,y,up,kind⟩={ s with changes:=chPut s.changes x y up kind }:=rfl
theorem LK.extC{A:Ads}{H H1:Hp}{ch cd:Addr}{cs:List Vbwsan.Change}(C:ChAt A H ch cd cs)(a:Ext cd H H1):LK H H1:=let ⟨_,h,_⟩:=C.dict;.ext a h (fun z=>z)
theorem zBA(s:Vbwsan.State)(x y:Nat):(Vbwsan.changeAt s x y).getD ⟨x,y,0,0⟩=⟨x,y,chUp s.changes x y,chKind s.changes x y⟩:=by
  unfold chUp chKind chFind Vbwsan.changeAt
  cases h:s.changes.find? fun c=>c.x==x&&c.y==y with
  |none=>rfl
  | some c =>
    have:=List.find?_some h
    rw[Bool.and_eq_true,beq_iff_eq,beq_iff_eq] at this
    obtain⟨rfl,rfl⟩:=this
    rfl
theorem st_dig3{s:Vbwsan.State}{x y:Nat}{z:Int}(h:¬ (Vbwsan.isCell s x y=false\/Vbwsan.from_ z (-500) 500=false))(h2:Vbwsan.from_ (chUp s.changes x y+z) (-9999) 9999=false):Vbwsan.step s (.dig x y z)=(s,[-3]):=by
  unfold Vbwsan.step
  dsimp only
  rw[if_neg h,Int.toNat_natCast,Int.toNat_natCast,zBA,if_pos h2]
  rfl
theorem st_dig5{s:Vbwsan.State}{x y:Nat}{z:Int}(h:¬ (Vbwsan.isCell s x y=false\/Vbwsan.from_ z (-500) 500=false))(h2:¬ Vbwsan.from_ (chUp s.changes x y+z) (-9999) 9999=false)(h3:Vbwsan.CHANGES<=s.changes.length/\(Vbwsan.changeAt s x y).isNone=true):Vbwsan.step s (.dig x y z)=(s,[-5]):=by
  unfold Vbwsan.step
  dsimp only
  rw[if_neg h,Int.toNat_natCast,Int.toNat_natCast,zBA,if_neg h2,if_pos h3]
  rfl
theorem st_dig{s:Vbwsan.State}{x y:Nat}{z:Int}(h:¬ (Vbwsan.isCell s x y=false\/Vbwsan.from_ z (-500) 500=false))(h2:¬ Vbwsan.from_ (chUp s.changes x y+z) (-9999) 9999=false)(h3:¬ (Vbwsan.CHANGES<=s.changes.length/\(Vbwsan.changeAt s x y).isNone=true)):
    Vbwsan.step s (.dig x y z)=({ s with changes:=chPut s.changes x y (chUp s.changes x y+z) (chKind s.changes x y) },[0,(Vbwsan.heightAt { s with changes:=chPut s.changes x y (chUp s.changes x y+z) (chKind s.changes x y) } x y:Int)]):=by
  unfold Vbwsan.step
  dsimp only
  rw[if_neg h,Int.toNat_natCast,Int.toNat_natCast,zBA,if_neg h2,if_neg h3]
  rfl
theorem jJ{s:Vbwsan.State}{x y:Nat}:((chFind s.changes x y).isSome||decide (s.changes.length<60))=true↔¬ (Vbwsan.CHANGES<=s.changes.length/\(Vbwsan.changeAt s x y).isNone=true):=by
  have e:Vbwsan.changeAt s x y=chFind s.changes x y:=rfl
  rw[e]
  unfold Vbwsan.CHANGES
  cases chFind s.changes x y<;>simp
theorem kind_le9{cs:List Vbwsan.Change}(h:ChOk cs)(x y:Nat):chKind cs x y<=9:=by
  unfold chKind
  cases z:chFind cs x y with
  |none=>exact Nat.zero_le _
  |some c=>exact h.kind c (List.mem_of_find?_eq_some z)
theorem up_le{cs:List Vbwsan.Change}(h:ChOk cs)(x y:Nat) : -9999<=chUp cs x y/\chUp cs x y<=9999:=by
  unfold chUp
  cases z:chFind cs x y with
  |none=>exact⟨by show(-9999:Int)<=0;omega,by show(0:Int)<=9999;omega⟩
  |some c=>exact h.up c (List.mem_of_find?_eq_some z)
abbrev Qo:Stmt:=top 94
theorem Zm:FnScope ["world","numbers","x","y","up","changed_up"] ["world","numbers"] (defScope Qo):=⟨rfl,rfl,rfl,by decide +kernel,rfl,by decide +kernel,by decide +kernel⟩
theorem ok_dig_answer{f:Addr}{fd:FuncData}(F:Fun K "dig_answer" "dig_answer" Qo f fd)(T:Glb K mg A)(m_Ground_has_cell:MtAt P w K mg base 1 A.C_Ground "has_cell" ["self","x","y"] (sp_has_cell A))
    (m_Changes_up_at:MtAt P w K mg base 1 A.C_Changes "up_at" ["self","x","y"] (QU A))
    (m_Changes_has_place:MtAt P w K mg base 2 A.C_Changes "has_place" ["self","x","y"] (Zz A))
    (m_Changes_built_at:MtAt P w K mg base 1 A.C_Changes "built_at" ["self","x","y"] (qR A))
    (m_Changes_put:MtAt P w K mg base 1 A.C_Changes "put" ["self","x","y","up","built"] (sp_put A))
    (m_World_height_now:MtAt P w K mg base 7 A.C_World "height_now" ["self","x","y"] (ZV A)):FnOk P w K mg base CX0 8 f fd ["world","numbers"] (sp_ans A 5):=by
  refine F.ok Zm (fun vs H Q E h=>?_) (fun cdv Ar outer s H vs Q E hr h=>?_)
  . obtain⟨wd,g,da,ps,kd,ch,cd,l,s,nums,c,rfl,_⟩:=h
    rfl
  obtain⟨wd,g,da,ps,kd,ch,cd,l,s0,nums,c,rfl,W,hl,hc,hlen,k⟩:=h
  obtain⟨dxw,hw⟩:=W.ins
  obtain⟨dg,hg⟩:=W.gr.ins
  obtain⟨dpp,hps⟩:=W.pc.ins
  obtain⟨dch,hch⟩:=W.ch.ins
  have hu:=ZB hr
  obtain⟨hw1,hw2,hd1,hd2⟩:=W.gr.le
  obtain⟨a,b,u,rfl,rfl⟩:=call5 hc
  have hl':H l=some (.lst [.int a,.int b,.int u]):=hl
  have no:¬ ((0<=a/\a<s0.w/\0<=b/\b<s0.d) /\ -500<=u/\u<=500)->∀H1 p,Same H H1->H1 p=some (.lst [.int (-1)])->Q (.ref p) H1:=fun z H1 p s1 f1=>zS k (Gm.st_dig_no (by
    rw[qK,zp,decide_eq_false_iff_not,decide_eq_false_iff_not]
    omega)) (W.same s1) f1 (.same s1)
  refine⟨_,(zB (zG (i:=2) Zm.nd rfl (Or.inl rfl) (zN zO (pv 1) zE (fun _ _=>rfl)))
      (zB (zG (i:=3) Zm.nd rfl (Or.inl rfl) (zN zO (pv 1) zE (fun _ _=>rfl)))
      (zB (zG (i:=4) Zm.nd rfl (Or.inl rfl) (zN zO (pv 1) zE (fun _ _=>rfl)))
      (zB (zf (ju (zt (zm (zT (zF (pv 0) rfl) T.c_Ground m_Ground_has_cell hr (zA (pv 2) (zA (pv 3) zC))))) (Qt (zt (Zc z9 z9 (zAV j7 (zM T.g_MOST_DUG)) (pv 4) (zM T.g_MOST_DUG))))).pt (zD (zH (zQ (zA (zM T.g_NOT_IN_RANGE) zC)))) zP)
      (zB (zG (i:=5) Zm.nd rfl (Or.inl rfl) (zK zW (zT (zF (pv 0) rfl) T.c_Changes m_Changes_up_at hr (zA (pv 2) (zA (pv 3) zC))) (pv 4)))
      (zB (zf (zn zBM (zU call_abs (by rfl) T.b_abs (by decide +kernel) (zA (pv 5) zC)) (zM T.g_GREATEST_CHANGE) (nomark _)) (zD (zH (zQ (zA (zM T.g_CANNOT_BE) zC)))) zP)
      (zB (zf (zt (zm (zT (zF (pv 0) rfl) T.c_Changes m_Changes_has_place hr (zA (pv 2) (zA (pv 3) zC))))) (zD (zH (zQ (zA (zM T.g_NO_PLACE) zC)))) zP)
      (zB (zo (zT (zF (pv 0) rfl) T.c_Changes m_Changes_put hr (zA (pv 2) (zA (pv 3) (zA (pv 5) (zA (zT (zF (pv 0) rfl) T.c_Changes m_Changes_built_at hr (zA (pv 2) (zA (pv 3) zC))) zC))))))
      (zD (zH (zQ (zA zE (zA (zT (pv 0) T.c_World m_World_height_now hr (zA (pv 2) (zA (pv 3) zC))) zC))))))))))))),?_⟩
  refine st0 (σ0:=[some _,some _,none,none,none,none]) rfl ?_
  try dsimp only[cxOf]
  walk_at "rd"
  refine⟨g,dg,da,s0.seed,s0.w,s0.d,a,b,rfl,hg,?_⟩
  walk_at "rd"
  with_reducible refine zR (fun z=>?_) (fun z=>?_)
  . rw[Bool.not_eq_true',decide_eq_false_iff_not] at z
    walk_at "rd"
    walk_at "new"
    rename_i p hp H1 f1 s1
    exact no (fun y=>z y.1) _ _ s1 f1
  rw[Bool.not_eq_false',decide_eq_true_iff] at z
  walk_at "rd"
  have main:(-500<=u/\u<=500)->tSeq (tAsg (tOp (rI0 fun i j=>V.int (i+j)) (tMeth A.C_Changes "up_at" (QU A) [] E0 (tFld K (tVar 0) "changes") (tCons (tVar 2) (tCons (tVar 3) tNil))) (tVar 4)) (gName 5))
      (tSeq (tIfS (tTest (tOp (rI0 fun i j=>V.bl (decide (j<i))) (tCB (fun xs H Q=>∃i,xs=[V.int i]/\Q (V.int (if i<0 then -i else i)) H) (tCons (tVar 5) tNil)) (tC (V.int 9999)))) (tRet (tLst (tCons (tC (V.int (-3))) tNil))) tNext)
      (tSeq (tIfS (tNot (tB (tMeth A.C_Changes "has_place" (Zz A) [] E0 (tFld K (tVar 0) "changes") (tCons (tVar 2) (tCons (tVar 3) tNil))))) (tRet (tLst (tCons (tC (V.int (-5))) tNil))) tNext)
      (tSeq (tDrop (tMeth A.C_Changes "put" (sp_put A) [] E0 (tFld K (tVar 0) "changes") (tCons (tVar 2) (tCons (tVar 3) (tCons (tVar 5) (tCons (tMeth A.C_Changes "built_at" (qR A) [] E0 (tFld K (tVar 0) "changes") (tCons (tVar 2) (tCons (tVar 3) tNil))) tNil))))))
      (tRet (tLst (tCons (tC (V.int 0)) (tCons (tMeth A.C_World "height_now" (ZV A) [] E0 (tVar 0) (tCons (tVar 2) (tCons (tVar 3) tNil))) tNil)))))))
      { nx:=fun x H'=>Q V.non H',rt:=Q } [some (V.ref wd),some (V.ref l),some (V.int a),some (V.int b),some (V.int u),none] H:=fun hu2=>by
    obtain⟨x,rfl⟩:∃x:Nat,a=x:=⟨a.toNat,by omega⟩
    obtain⟨y,rfl⟩:∃y:Nat,b=y:=⟨b.toNat,by omega⟩
    have c0:¬ (Vbwsan.isCell s0 x y=false\/Vbwsan.from_ u (-500) 500=false):=by
      rw[qK,zp,decide_eq_false_iff_not,decide_eq_false_iff_not]
      omega
    walk_at "rd"
    refine⟨ch,cd,s0.changes,x,y,rfl,W.ch,fun H1 s1=>?_⟩
    have W1:=W.same s1
    have hw1':=s1 _ _ hw
    have hch1:=s1 _ _ hch
    walk_at "rd"
    with_reducible refine zR (fun z2=>?_) (fun z2=>?_)
    . rw[decide_eq_true_iff] at z2
      walk_at "rd"
      walk_at "new"
      rename_i p hp H2 f2 s2
      exact zS k (st_dig3 c0 (by rw[zp,decide_eq_false_iff_not];omega)) (W1.same s2) f2 (.same (s1.trans s2))
    rw[decide_eq_false_iff_not] at z2
    have c1:¬ Vbwsan.from_ (chUp s0.changes x y+u) (-9999) 9999=false:=by rw[zp,decide_eq_false_iff_not];omega
    walk_at "rd"
    refine⟨ch,cd,s0.changes,x,y,rfl,W1.ch,fun H2 s2=>?_⟩
    have W2:=W1.same s2
    have hw2':=s2 _ _ hw1'
    have hch2:=s2 _ _ hch1
    walk_at "rd"
    with_reducible refine zR (fun z3=>?_) (fun z3=>?_)
    . rw[Bool.not_eq_true'] at z3
      walk_at "rd"
      walk_at "new"
      rename_i p hp H3 f3 s3
      have c2:Vbwsan.CHANGES<=s0.changes.length/\(Vbwsan.changeAt s0 x y).isNone=true:=Classical.byContradiction fun zz=>by rw[jJ.mpr zz] at z3;cases z3
      exact zS k (st_dig5 c0 c1 c2) (W2.same s3) f3 (.same ((s1.trans s2).trans s3))
    rw[Bool.not_eq_false'] at z3
    have c2:=jJ.mp z3
    walk_at "rd"
    refine⟨ch,cd,s0.changes,x,y,rfl,W2.ch,fun H3 s3=>?_⟩
    have W3:=W2.same s3
    walk_at "rd"
    refine⟨ch,cd,s0.changes,x,y,_,_,rfl,W3.ch,by omega,kind_le9 W.ch.ok x y,by rw[Bool.or_eq_true,decide_eq_true_iff] at z3;exact z3,fun H4 C4 e4=>?_⟩
    have W4:=W3.changed e4 C4
    have lk4:LK H H4:=(LK.same ((s1.trans s2).trans s3)).trans (LK.extC W3.ch e4)
    obtain⟨dw4,hw4⟩:=W4.ins
    walk_at "rd"
    refine⟨wd,g,da,ps,kd,ch,cd,_,x,y,rfl,W4,by omega,by omega,fun H5 W5 e5=>?_⟩
    walk_at "rd"
    walk_at "new"
    rename_i p hp H6 f6 s6
    exact zS k (st_dig c0 c1 c2) (W5.same s6) f6 ((lk4.trans (LK.extG W4.gr e5)).trans (.same s6))
  with_reducible refine zR (fun z2=>?_) (fun z2=>?_)
  . rw[decide_eq_true_iff] at z2
    walk_at "rd"
    with_reducible refine zR (fun z3=>?_) (fun z3=>?_)
    . rw[Bool.not_eq_true',decide_eq_false_iff_not] at z3
      walk_at "rd"
      walk_at "new"
      rename_i p hp H1 f1 s1
      exact no (fun y=>z3 y.2.2) _ _ s1 f1
    . rw[Bool.not_eq_false',decide_eq_true_iff] at z3
      with_reducible refine zAu ?_
      exact main ⟨by omega,z3⟩
  . rw[decide_eq_false_iff_not] at z2
    walk_at "rd"
    walk_at "new"
    rename_i p hp H1 f1 s1
    exact no (fun y=>z2 (by omega)) _ _ s1 f1
theorem st_build3{s:Vbwsan.State}{x y:Nat}{z:Int}(h:¬ (Vbwsan.isCell s x y=false\/Vbwsan.from_ z 4 9=false))(h2:(Vbwsan.houseOver s.seed s.w s.d x y).isSome=true):Vbwsan.step s (.build x y z)=(s,[-3]):=by
  unfold Vbwsan.step
  dsimp only
  rw[if_neg h,Int.toNat_natCast,Int.toNat_natCast,if_pos h2]
  rfl
theorem st_build5{s:Vbwsan.State}{x y:Nat}{z:Int}(h:¬ (Vbwsan.isCell s x y=false\/Vbwsan.from_ z 4 9=false))(h2:¬ (Vbwsan.houseOver s.seed s.w s.d x y).isSome=true)(h3:Vbwsan.CHANGES<=s.changes.length/\(Vbwsan.changeAt s x y).isNone=true):Vbwsan.step s (.build x y z)=(s,[-5]):=by
  unfold Vbwsan.step
  dsimp only
  rw[if_neg h,Int.toNat_natCast,Int.toNat_natCast,if_neg h2,if_pos h3]
  rfl
theorem st_build{s:Vbwsan.State}{x y:Nat}{z:Int}(h:¬ (Vbwsan.isCell s x y=false\/Vbwsan.from_ z 4 9=false))(h2:¬ (Vbwsan.houseOver s.seed s.w s.d x y).isSome=true)(h3:¬ (Vbwsan.CHANGES<=s.changes.length/\(Vbwsan.changeAt s x y).isNone=true)):
    Vbwsan.step s (.build x y z)=({ s with changes:=chPut s.changes x y (chUp s.changes x y) z.toNat },[0]):=by
  unfold Vbwsan.step
  dsimp only
  rw[if_neg h,Int.toNat_natCast,Int.toNat_natCast,if_neg h2,if_neg h3,zBA]
  rfl
abbrev qv:Stmt:=top 95
theorem Zq:FnScope ["world","numbers","x","y","kind"] ["world","numbers"] (defScope qv):=⟨rfl,rfl,rfl,by decide +kernel,rfl,by decide +kernel,by decide +kernel⟩
theorem ok_build_answer{f:Addr}{fd:FuncData}(F:Fun K "build_answer" "build_answer" qv f fd)(T:Glb K mg A)(m_Ground_has_cell:MtAt P w K mg base 1 A.C_Ground "has_cell" ["self","x","y"] (sp_has_cell A))
    (f_house_at:FnAt P w K mg base 12 "house_at" ["ground","x","y"] (QF A))
    (m_Changes_has_place:MtAt P w K mg base 2 A.C_Changes "has_place" ["self","x","y"] (Zz A))
    (m_Changes_up_at:MtAt P w K mg base 1 A.C_Changes "up_at" ["self","x","y"] (QU A))
    (m_Changes_put:MtAt P w K mg base 1 A.C_Changes "put" ["self","x","y","up","built"] (sp_put A)):FnOk P w K mg base CX0 13 f fd ["world","numbers"] (sp_ans A 6):=by
  refine F.ok Zq (fun vs H Q E h=>?_) (fun cdv Ar outer s H vs Q E hr h=>?_)
  . obtain⟨wd,g,da,ps,kd,ch,cd,l,s,nums,c,rfl,_⟩:=h
    rfl
  obtain⟨wd,g,da,ps,kd,ch,cd,l,s0,nums,c,rfl,W,hl,hc,hlen,k⟩:=h
  obtain⟨dxw,hw⟩:=W.ins
  obtain⟨dg,hg⟩:=W.gr.ins
  obtain⟨dpp,hps⟩:=W.pc.ins
  obtain⟨dch,hch⟩:=W.ch.ins
  have hu:=ZB hr
  obtain⟨hw1,hw2,hd1,hd2⟩:=W.gr.le
  obtain⟨a,b,u,rfl,rfl⟩:=call6 hc
  have hl':H l=some (.lst [.int a,.int b,.int u]):=hl
  have no:¬ ((0<=a/\a<s0.w/\0<=b/\b<s0.d)/\4<=u/\u<=9)->∀H1 p,Same H H1->H1 p=some (.lst [.int (-1)])->Q (.ref p) H1:=fun z H1 p s1 f1=>zS k (Gm.st_build_no (by
    rw[qK,zp,decide_eq_false_iff_not,decide_eq_false_iff_not]
    omega)) (W.same s1) f1 (.same s1)
  refine⟨_,(zB (zG (i:=2) Zq.nd rfl (Or.inl rfl) (zN zO (pv 1) zE (fun _ _=>rfl)))
      (zB (zG (i:=3) Zq.nd rfl (Or.inl rfl) (zN zO (pv 1) zE (fun _ _=>rfl)))
      (zB (zG (i:=4) Zq.nd rfl (Or.inl rfl) (zN zO (pv 1) zE (fun _ _=>rfl)))
      (zB (zf (ju (zt (zm (zT (zF (pv 0) rfl) T.c_Ground m_Ground_has_cell hr (zA (pv 2) (zA (pv 3) zC))))) (Qt (zt (Zc z9 z9 (zM T.g_LEAST_BUILT) (pv 4) (zM T.g_GREATEST_BUILT))))).pt (zD (zH (zQ (zA (zM T.g_NOT_IN_RANGE) zC)))) zP)
      (zB (zf (zn zBn (zV f_house_at hr (zA (zF (pv 0) rfl) (zA (pv 2) (zA (pv 3) zC)))) QR (nomark _)) (zD (zH (zQ (zA (zM T.g_CANNOT_BE) zC)))) zP)
      (zB (zf (zt (zm (zT (zF (pv 0) rfl) T.c_Changes m_Changes_has_place hr (zA (pv 2) (zA (pv 3) zC))))) (zD (zH (zQ (zA (zM T.g_NO_PLACE) zC)))) zP)
      (zB (zo (zT (zF (pv 0) rfl) T.c_Changes m_Changes_put hr (zA (pv 2) (zA (pv 3) (zA (zT (zF (pv 0) rfl) T.c_Changes m_Changes_up_at hr (zA (pv 2) (zA (pv 3) zC))) (zA (pv 4) zC))))))
      (zD (zH (zQ (zA zE zC))))))))))),?_⟩
  refine st0 (σ0:=[some _,some _,none,none,none]) rfl ?_
  try dsimp only[cxOf]
  walk_at "rd"
  refine⟨g,dg,da,s0.seed,s0.w,s0.d,a,b,rfl,hg,?_⟩
  walk_at "rd"
  with_reducible refine zR (fun z=>?_) (fun z=>?_)
  . rw[Bool.not_eq_true',decide_eq_false_iff_not] at z
    walk_at "rd"
    walk_at "new"
    rename_i p hp H1 f1 s1
    exact no (fun y=>z y.1) _ _ s1 f1
  rw[Bool.not_eq_false',decide_eq_true_iff] at z
  walk_at "rd"
  with_reducible refine zR (fun z2=>?_) (fun z2=>?_)
  rotate_left
  . rw[decide_eq_false_iff_not] at z2
    walk_at "rd"
    walk_at "new"
    rename_i p hp H1 f1 s1
    exact no (fun y=>z2 (by omega)) _ _ s1 f1
  rw[decide_eq_true_iff] at z2
  walk_at "rd"
  with_reducible refine zR (fun z3=>?_) (fun z3=>?_)
  . rw[Bool.not_eq_true',decide_eq_false_iff_not] at z3
    walk_at "rd"
    walk_at "new"
    rename_i p hp H1 f1 s1
    exact no (fun y=>z3 y.2.2) _ _ s1 f1
  rw[Bool.not_eq_false',decide_eq_true_iff] at z3
  obtain⟨x,rfl⟩:∃x:Nat,a=x:=⟨a.toNat,by omega⟩
  obtain⟨y,rfl⟩:∃y:Nat,b=y:=⟨b.toNat,by omega⟩
  obtain⟨v,rfl⟩:∃v:Nat,u=v:=⟨u.toNat,by omega⟩
  have c0:¬ (Vbwsan.isCell s0 x y=false\/Vbwsan.from_ (v:Int) 4 9=false):=by
    rw[qK,zp,decide_eq_false_iff_not,decide_eq_false_iff_not]
    omega
  walk_at "rd"
  refine⟨g,da,s0.seed,s0.w,s0.d,x,y,rfl,W.gr,by omega,by omega,fun H1 vv G1 e1 hv=>?_⟩
  have W1:=W.ext e1 G1
  have lk1:=LK.extG W.gr e1
  have hw1':=Ext.at W.gr e1 hw (fun z q=>by cases q)
  have hch1:=Ext.at W.gr e1 hch (fun z q=>by cases q)
  rcases hv with⟨h0,rfl⟩|⟨q,h0,pp,dp,rfl,hpp⟩
  rotate_left
  . walk_at "rd"
    walk_at "new"
    rename_i p hp H2 f2 s2
    exact zS k (st_build3 c0 (by rw[h0];rfl)) (W1.same s2) f2 (lk1.trans (.same s2))
  have c1:¬ (Vbwsan.houseOver s0.seed s0.w s0.d x y).isSome=true:=by rw[h0];decide
  walk_at "rd"
  refine⟨ch,cd,s0.changes,x,y,rfl,W1.ch,fun H2 s2=>?_⟩
  have W2:=W1.same s2
  have hw2':=s2 _ _ hw1'
  have hch2:=s2 _ _ hch1
  walk_at "rd"
  with_reducible refine zR (fun z4=>?_) (fun z4=>?_)
  . rw[Bool.not_eq_true'] at z4
    walk_at "rd"
    walk_at "new"
    rename_i p hp H3 f3 s3
    have c2:Vbwsan.CHANGES<=s0.changes.length/\(Vbwsan.changeAt s0 x y).isNone=true:=Classical.byContradiction fun zz=>by rw[jJ.mpr zz] at z4;cases z4
    exact zS k (st_build5 c0 c1 c2) (W2.same s3) f3 (lk1.trans (.same (s2.trans s3)))
  rw[Bool.not_eq_false'] at z4
  have c2:=jJ.mp z4
  have e:=st_build c0 c1 c2
  rw[Int.toNat_natCast] at e
  walk_at "rd"
  refine⟨ch,cd,s0.changes,x,y,rfl,W2.ch,fun H3 s3=>?_⟩
  have W3:=W2.same s3
  walk_at "rd"
  refine⟨ch,cd,s0.changes,x,y,_,v,rfl,W3.ch,up_le W.ch.ok x y,by omega,by rw[Bool.or_eq_true,decide_eq_true_iff] at z4;exact z4,fun H4 C4 e4=>?_⟩
  have W4:=W3.changed e4 C4
  walk_at "rd"
  walk_at "new"
  rename_i p hp H6 f6 s6
  exact zS k e (W4.same s6) f6 (((lk1.trans (.same (s2.trans s3))).trans (LK.extC W3.ch e4)).trans (.same s6))
theorem st_undo4{s:Vbwsan.State}{x y:Nat}(h:¬ Vbwsan.isCell s x y=false)(h2:(Vbwsan.changeAt s x y).isNone=true):Vbwsan.step s (.undo x y)=(s,[-4]):=by
  unfold Vbwsan.step
  dsimp only
  rw[if_neg h,Int.toNat_natCast,Int.toNat_natCast,if_pos h2]
  rfl
theorem st_undo{s:Vbwsan.State}{x y:Nat}(h:¬ Vbwsan.isCell s x y=false)(h2:¬ (Vbwsan.changeAt s x y).isNone=true):Vbwsan.step s (.undo x y)=({ s with changes:=s.changes.filter fun d=>!(d.x==x&&d.y==y) },[0,(Vbwsan.madeHeight s.seed x y:Int)]):=by
  unfold Vbwsan.step
  dsimp only
  rw[if_neg h,Int.toNat_natCast,Int.toNat_natCast,if_neg h2]
  rfl
abbrev QM:Stmt:=top 96
theorem qm:FnScope ["world","numbers","x","y"] ["world","numbers"] (defScope QM):=⟨rfl,rfl,rfl,by decide +kernel,rfl,by decide +kernel,by decide +kernel⟩
theorem ok_undo_answer{f:Addr}{fd:FuncData}(F:Fun K "undo_answer" "undo_answer" QM f fd)(T:Glb K mg A)(m_Ground_has_cell:MtAt P w K mg base 1 A.C_Ground "has_cell" ["self","x","y"] (sp_has_cell A))
    (m_Changes_is_changed:MtAt P w K mg base 1 A.C_Changes "is_changed" ["self","x","y"] (qL A))
    (m_Changes_put:MtAt P w K mg base 1 A.C_Changes "put" ["self","x","y","up","built"] (sp_put A))
    (m_World_height_now:MtAt P w K mg base 7 A.C_World "height_now" ["self","x","y"] (ZV A)):FnOk P w K mg base CX0 8 f fd ["world","numbers"] (sp_ans A 7):=by
  refine F.ok qm (fun vs H Q E h=>?_) (fun cdv Ar outer s H vs Q E hr h=>?_)
  . obtain⟨wd,g,da,ps,kd,ch,cd,l,s,nums,c,rfl,_⟩:=h
    rfl
  obtain⟨wd,g,da,ps,kd,ch,cd,l,s0,nums,c,rfl,W,hl,hc,hlen,k⟩:=h
  obtain⟨dxw,hw⟩:=W.ins
  obtain⟨dg,hg⟩:=W.gr.ins
  obtain⟨dpp,hps⟩:=W.pc.ins
  obtain⟨dch,hch⟩:=W.ch.ins
  have hu:=ZB hr
  obtain⟨hw1,hw2,hd1,hd2⟩:=W.gr.le
  obtain⟨a,b,rfl,rfl⟩:=call7 hc
  have hl':H l=some (.lst [.int a,.int b]):=hl
  refine⟨_,(zB (zG (i:=2) qm.nd rfl (Or.inl rfl) (zN zO (pv 1) zE (fun _ _=>rfl)))
      (zB (zG (i:=3) qm.nd rfl (Or.inl rfl) (zN zO (pv 1) zE (fun _ _=>rfl)))
      (zB (zf (zt (zm (zT (zF (pv 0) rfl) T.c_Ground m_Ground_has_cell hr (zA (pv 2) (zA (pv 3) zC))))) (zD (zH (zQ (zA (zM T.g_NOT_IN_RANGE) zC)))) zP)
      (zB (zf (zt (zm (zT (zF (pv 0) rfl) T.c_Changes m_Changes_is_changed hr (zA (pv 2) (zA (pv 3) zC))))) (zD (zH (zQ (zA (zM T.g_THERE_IS_NONE) zC)))) zP)
      (zB (zo (zT (zF (pv 0) rfl) T.c_Changes m_Changes_put hr (zA (pv 2) (zA (pv 3) (zA zE (zA zE zC))))))
      (zD (zH (zQ (zA zE (zA (zT (pv 0) T.c_World m_World_height_now hr (zA (pv 2) (zA (pv 3) zC))) zC)))))))))),?_⟩
  refine st0 (σ0:=[some _,some _,none,none]) rfl ?_
  try dsimp only[cxOf]
  walk_at "rd"
  refine⟨g,dg,da,s0.seed,s0.w,s0.d,a,b,rfl,hg,?_⟩
  walk_at "rd"
  with_reducible refine zR (fun z=>?_) (fun z=>?_)
  . rw[Bool.not_eq_true',decide_eq_false_iff_not] at z
    walk_at "rd"
    walk_at "new"
    rename_i p hp H1 f1 s1
    exact zS k (Gm.st_undo_no (QZ z)) (W.same s1) f1 (.same s1)
  rw[Bool.not_eq_false',decide_eq_true_iff] at z
  have c0:=qP z
  obtain⟨x,rfl⟩:∃x:Nat,a=x:=⟨a.toNat,by omega⟩
  obtain⟨y,rfl⟩:∃y:Nat,b=y:=⟨b.toNat,by omega⟩
  walk_at "rd"
  refine⟨ch,cd,s0.changes,x,y,rfl,W.ch,fun H1 s1=>?_⟩
  have W1:=W.same s1
  have hw1':=s1 _ _ hw
  have hch1:=s1 _ _ hch
  have ef:chFind s0.changes x y=Vbwsan.changeAt s0 x y:=rfl
  walk_at "rd"
  with_reducible refine zR (fun z2=>?_) (fun z2=>?_)
  . rw[Bool.not_eq_true'] at z2
    walk_at "rd"
    walk_at "new"
    rename_i p hp H2 f2 s2
    exact zS k (st_undo4 c0 (by rw[<-ef];cases zz:chFind s0.changes x y with|none=>rfl|some c=>rw[zz] at z2;cases z2)) (W1.same s2) f2 (.same (s1.trans s2))
  rw[Bool.not_eq_false'] at z2
  have e:=st_undo c0 (by rw[<-ef];cases zz:chFind s0.changes x y with|none=>rw[zz] at z2;cases z2|some c=>exact Bool.false_ne_true)
  walk_at "rd"
  refine⟨ch,cd,s0.changes,x,y,0,0,rfl,W1.ch,by omega,by omega,.inl z2,fun H4 C4 e4=>?_⟩
  have e0:chPut s0.changes x y 0 0=s0.changes.filter fun d=>!(d.x==x&&d.y==y):=by
    unfold chPut
    rw[if_pos ⟨rfl,rfl⟩,List.append_nil]
  rw[e0] at C4
  have W4:=W1.changed e4 C4
  obtain⟨dw4,hw4⟩:=W4.ins
  walk_at "rd"
  refine⟨wd,g,da,ps,kd,ch,cd,_,x,y,rfl,W4,by omega,by omega,fun H5 W5 e5=>?_⟩
  walk_at "rd"
  walk_at "new"
  rename_i p hp H6 f6 s6
  refine zS k e (W5.same s6) ?_ ((((LK.same s1).trans (LK.extC W1.ch e4)).trans (LK.extG W4.gr e5)).trans (.same s6))
  rw[f6]
  have eh:Vbwsan.heightAt { s0 with changes:=s0.changes.filter fun d=>!(d.x==x&&d.y==y) } x y=Vbwsan.madeHeight s0.seed x y:=by
    unfold Vbwsan.heightAt Vbwsan.changeAt
    have:(s0.changes.filter fun d=>!(d.x==x&&d.y==y)).find? (fun c=>c.x==x&&c.y==y)=none:=by
      rw[List.find?_eq_none]
      intro c hc zz
      have:=(List.mem_filter.mp hc).2
      rw[zz] at this
      cases this
    dsimp only
    rw[this]
    rfl
  rw[eh]
  rfl
end
end Gs
namespace Gs
open PySem PySem.Spec PyProof.Rows L2
section
variable{P:Program}{w:World}{K:PySem.W.Frag}{mg:Str->Option Value}{base:Heap}{A:Ads}
theorem zCS{s:Vbwsan.State}{x y:Nat}(hx:x<s.w)(hy:y<s.d):y*s.w+x<s.w*s.d:=by
  have:(y+1)*s.w<=s.d*s.w:=Nat.mul_le_mul_right _ hy
  rw[Nat.succ_mul,Nat.mul_comm s.d] at this
  omega
theorem edge_eq(s:Vbwsan.State)(n:Nat):Vbwsan.edge s n=edgeN s.w s.d n:=rfl
theorem zBg{s:Vbwsan.State}{goal:Nat->Bool}{k:Nat}:∀(f:Nat) (wet shore:List Nat),(Vbwsan.flood s (Vbwsan.heights s) goal f wet shore).length<=wet.length+f
  |0,wet,shore=>Nat.le_refl _
  |f+1,wet,[]=>by rw[Gm.JO];omega
  | f + 1, wet, k :: r => by
    rw[Gm.Q1]
    split
    . rw[List.length_append];simp only[List.length_cons,List.length_nil];omega
    . have:=zBg (s:=s) (goal:=goal) (k:=k) f (wet++[k]) (Gm.addAll (Vbwsan.heights s) (wet++[k]) (Vbwsan.neighbours s k) r)
      rw[List.length_append] at this
      simp only[List.length_cons,List.length_nil] at this
      omega
theorem Q5{s:Vbwsan.State}{goal:Nat->Bool}{k:Nat}:(Vbwsan.wetFrom s goal k).length<=s.w*s.d:=by
  unfold Vbwsan.wetFrom
  have:=zBg (s:=s) (goal:=goal) (k:=k) (s.w*s.d) [] [k]
  simpa using this
abbrev qr:Stmt:=top 98
theorem ZG:FnScope ["world","numbers","x","y","wet","cell"] ["world","numbers"] (defScope qr):=⟨rfl,rfl,rfl,by decide +kernel,rfl,by decide +kernel,by decide +kernel⟩
theorem ok_water_answer{f:Addr}{fd:FuncData}(F:Fun K "water_answer" "water_answer" qr f fd)(T:Glb K mg A)(m_Ground_has_cell:MtAt P w K mg base 1 A.C_Ground "has_cell" ["self","x","y"] (sp_has_cell A))
    (f_number_of:FnAt P w K mg base 1 "number_of" ["ground","x","y"] (sp_number_of A))
    (f_edge_numbers:FnAt P w K mg base 3 "edge_numbers" ["ground"] (qU A))
    (f_wet_cells:FnAt P w K mg base 10 "wet_cells" ["world","start","asked"] (qg A))
    (f_pass_of:FnAt P w K mg base 1 "pass_of" ["wet"] sp_pass_of):FnOk P w K mg base CX0 11 f fd ["world","numbers"] (sp_ans A 9):=by
  refine F.ok ZG (fun vs H Q E h=>?_) (fun cdv Ar outer s H vs Q E hr h=>?_)
  . obtain⟨wd,g,da,ps,kd,ch,cd,l,s,nums,c,rfl,_⟩:=h
    rfl
  obtain⟨wd,g,da,ps,kd,ch,cd,l,s0,nums,c,rfl,W,hl,hc,hlen,k⟩:=h
  obtain⟨dxw,hw⟩:=W.ins
  obtain⟨dg,hg⟩:=W.gr.ins
  obtain⟨dpp,hps⟩:=W.pc.ins
  obtain⟨dch,hch⟩:=W.ch.ins
  have hu:=ZB hr
  obtain⟨hw1,hw2,hd1,hd2⟩:=W.gr.le
  obtain⟨a,b,rfl,rfl⟩:=call9 hc
  have hl':H l=some (.lst [.int a,.int b]):=hl
  have hwd:s0.w*s0.d<=32*32:=zk hw2 hd2
  refine⟨_,(zB (zG (i:=2) ZG.nd rfl (Or.inl rfl) (zN zO (pv 1) zE (fun _ _=>rfl)))
      (zB (zG (i:=3) ZG.nd rfl (Or.inl rfl) (zN zO (pv 1) zE (fun _ _=>rfl)))
      (zB (zf (zt (zm (zT (zF (pv 0) rfl) T.c_Ground m_Ground_has_cell hr (zA (pv 2) (zA (pv 3) zC))))) (zD (zH (zQ (zA (zM T.g_NOT_IN_RANGE) zC)))) zP)
      (zB (zG (i:=4) ZG.nd rfl (Or.inl rfl) (zV f_wet_cells hr (zA (pv 0) (zA (zV f_number_of hr (zA (zF (pv 0) rfl) (zA (pv 2) (zA (pv 3) zC)))) (zA (zV f_edge_numbers hr (zA (zF (pv 0) rfl) zC)) zC)))))
      (zD (zH (zK zCR (zQ (zA zE (zA (zV f_pass_of hr (zA (pv 4) zC)) zC))) (Jw (own:=[("cell",5)]) rfl ZG.nd (ZL (pv 4)) (qT (by rfl)) (fun _ _ _ _ _=>(zX (i:=5) ZG.nd rfl (Or.inl rfl))) (fun _ _ _ _ _=>Qu) (fun _ _ _ _ _=>(zN (show IxR _ (rIxT K) from zg) (pv 5) zE (fun _ _=>rfl))))))))))),?_⟩
  refine st0 (σ0:=[some _,some _,none,none,none,none]) rfl ?_
  try dsimp only[cxOf]
  walk_at "rd"
  refine⟨g,dg,da,s0.seed,s0.w,s0.d,a,b,rfl,hg,?_⟩
  walk_at "rd"
  with_reducible refine zR (fun z=>?_) (fun z=>?_)
  . rw[Bool.not_eq_true',decide_eq_false_iff_not] at z
    walk_at "rd"
    walk_at "new"
    rename_i p hp H1 f1 s1
    exact zS k (Gm.st_water_no (QZ z)) (W.same s1) f1 (.same s1)
  rw[Bool.not_eq_false',decide_eq_true_iff] at z
  have e:=Gm.st_water (qP z)
  obtain⟨x,rfl⟩:∃x:Nat,a=x:=⟨a.toNat,by omega⟩
  obtain⟨y,rfl⟩:∃y:Nat,b=y:=⟨b.toNat,by omega⟩
  have en:Vbwsan.numberOf s0 (x:Int) (y:Int)=y*s0.w+x:=by unfold Vbwsan.numberOf;rw[Int.toNat_natCast,Int.toNat_natCast]
  rw[en] at e
  have hnl:=zCS (s:=s0) (x:=x) (y:=y) (by omega) (by omega)
  walk_at "rd"
  refine⟨g,dg,da,s0.seed,s0.w,s0.d,x,y,rfl,hg,hw2,?_⟩
  walk_at "rd"
  refine⟨g,dg,da,s0.seed,s0.w,s0.d,rfl,hg,hw1,hw2,hd1,hd2,fun H1 ed s1 hed f1=>?_⟩
  have W1:=W.same s1
  walk_at "rd"
  have en2:((y:Int)*(s0.w:Int)+(x:Int))=((y*s0.w+x:Nat):Int):=by rw[Int.natCast_add,Int.natCast_mul]
  rw[en2]
  refine⟨wd,g,da,ps,kd,ch,cd,ed,s0,y*s0.w+x,Vbwsan.edge s0,_,rfl,W1,hnl,f1,fun n hn=>by rw[JW,decide_eq_true hn,Bool.true_and];rfl,fun H2 p W2 e2 c2=>?_⟩
  have hwl:=Q5 (s:=s0) (goal:=Vbwsan.edge s0) (k:=y*s0.w+x)
  have hwn:=Gm.zCE (s:=s0) (goal:=Vbwsan.edge s0) (k:=y*s0.w+x) (by omega)
  have lk2:LK H H2:=(LK.same s1).trans (LK.extG W1.gr e2)
  generalize Vbwsan.wetFrom s0 (Vbwsan.edge s0) (y*s0.w+x)=wt at e c2 hwl hwn
  walk_at "rd"
  refine⟨p,s0,wt,rfl,c2,hwn,by omega,fun H3 s3=>?_⟩
  have c3:=c2.same zh s3
  obtain⟨ts,c4,c5⟩:=id c3
  have lts:=LAt.len c4 c3
  rw[List.length_map] at lts
  walk_at "rd"
  walk_at "new"
  rename_i q hq H4 f4 s4
  walk_at "rd"
  refine zq (SqL.of (s4 _ _ c4)) ?_
  refine Qz (xs:=ts) rfl (fun D i H'=>Same H4 H'/\H' D=some (.lst ((wt.take i).map fun n:Nat=>V.int (n:Int)))) fun D hD=>⟨⟨ZU hD,zJ⟩,fun i H' pp=>SqL.of (pp.1 _ _ (s4 _ _ c4)),?_,?_⟩
  . rintro i v H' hv ⟨s5,f5⟩
    obtain⟨cc,hcc,t,rfl,ht⟩:=ZO c5 hv
    obtain⟨n,hnn,rfl⟩:∃n,wt[i]?=some n/\cc=hn s0 n:=by
      rw[List.getElem?_map] at hcc
      obtain⟨n,h1,h2⟩:=Option.map_eq_some_iff.mp hcc
      exact⟨n,h1,h2.symm⟩
    have ht5:=s5 _ _ (s4 _ _ ht)
    refine zCI ⟨rfl,?_⟩
    walk_at "rd"
    refine qS f5 (by rw[List.length_map,List.length_take];exact small (by omega)) ⟨qC s5 hD,?_⟩
    rw[zJ,zZ hnn,List.map_append]
    rfl
  . rintro H' ⟨s5,f5⟩
    rw[lts,List.take_length] at f5
    walk_at "rd"
    refine zCK (s5 _ _ f4) f5 (by rw[List.length_map];exact Nat.le_of_lt (small (by simp only[List.length_cons,List.length_nil];omega))) fun v hv=>?_
    apply Ze hv
    intro H6 z6 f6 s6
    rw[z6]
    have sa:=((s3.trans s4).trans s5).trans s6
    refine zS k e (W2.same sa) ?_ (lk2.trans (.same sa))
    rw[f6]
    show _=some (HO.lst (V.int 0::V.int _::(wt.map fun n:Nat=>(n:Int)).map V.int))
    rw[List.map_map]
    rfl
abbrev QN:Stmt:=top 102
theorem Z1:FnScope ["world","numbers","start","end","wet"] ["world","numbers"] (defScope QN):=⟨rfl,rfl,rfl,by decide +kernel,rfl,by decide +kernel,by decide +kernel⟩
theorem ok_pass_answer{f:Addr}{fd:FuncData}(F:Fun K "pass_answer" "pass_answer" QN f fd)(T:Glb K mg A)(m_Ground_has_cell:MtAt P w K mg base 1 A.C_Ground "has_cell" ["self","x","y"] (sp_has_cell A))
    (f_number_of:FnAt P w K mg base 1 "number_of" ["ground","x","y"] (sp_number_of A))
    (f_wet_cells:FnAt P w K mg base 10 "wet_cells" ["world","start","asked"] (qg A))
    (f_pass_of:FnAt P w K mg base 1 "pass_of" ["wet"] sp_pass_of):FnOk P w K mg base CX0 11 f fd ["world","numbers"] (sp_ans A 13):=by
  refine F.ok Z1 (fun vs H Q E h=>?_) (fun cdv Ar outer s H vs Q E hr h=>?_)
  . obtain⟨wd,g,da,ps,kd,ch,cd,l,s,nums,c,rfl,_⟩:=h
    rfl
  obtain⟨wd,g,da,ps,kd,ch,cd,l,s0,nums,c,rfl,W,hl,hc,hlen,k⟩:=h
  obtain⟨dxw,hw⟩:=W.ins
  obtain⟨dg,hg⟩:=W.gr.ins
  obtain⟨dpp,hps⟩:=W.pc.ins
  obtain⟨dch,hch⟩:=W.ch.ins
  have hu:=ZB hr
  obtain⟨hw1,hw2,hd1,hd2⟩:=W.gr.le
  obtain⟨a,b,a2,b2,rfl,rfl⟩:=call13 hc
  have hl':H l=some (.lst [.int a,.int b,.int a2,.int b2]):=hl
  have hwd:s0.w*s0.d<=32*32:=zk hw2 hd2
  refine⟨_,(zB (zf (ju (zt (zm (zT (zF (pv 0) rfl) T.c_Ground m_Ground_has_cell hr (zA (zN zO (pv 1) zE (fun _ _=>rfl)) (zA (zN zO (pv 1) zE (fun _ _=>rfl)) zC))))) (Qt (zt (zm (zT (zF (pv 0) rfl) T.c_Ground m_Ground_has_cell hr (zA (zN zO (pv 1) zE (fun _ _=>rfl)) (zA (zN zO (pv 1) zE (fun _ _=>rfl)) zC))))))).pt (zD (zH (zQ (zA (zM T.g_NOT_IN_RANGE) zC)))) zP)
      (zB (zG (i:=2) Z1.nd rfl (Or.inl rfl) (zV f_number_of hr (zA (zF (pv 0) rfl) (zA (zN zO (pv 1) zE (fun _ _=>rfl)) (zA (zN zO (pv 1) zE (fun _ _=>rfl)) zC)))))
      (zB (zG (i:=3) Z1.nd rfl (Or.inl rfl) (zV f_number_of hr (zA (zF (pv 0) rfl) (zA (zN zO (pv 1) zE (fun _ _=>rfl)) (zA (zN zO (pv 1) zE (fun _ _=>rfl)) zC)))))
      (zB (zG (i:=4) Z1.nd rfl (Or.inl rfl) (zV f_wet_cells hr (zA (pv 0) (zA (pv 2) (zA (zAz (Jv (pv 3) jS zAy) rfl rfl (by intro z;cases z) (by decide)) zC)))))
      (zD (zH (zQ (zA zE (zA (zV f_pass_of hr (zA (pv 4) zC)) (zA (zU ZS (by rfl) T.b_len PySem.boot_len (zA (pv 4) zC)) zC)))))))))),?_⟩
  refine st0 (σ0:=[some _,some _,none,none,none]) rfl ?_
  try dsimp only[cxOf]
  walk_at "rd"
  refine⟨g,dg,da,s0.seed,s0.w,s0.d,a,b,rfl,hg,?_⟩
  walk_at "rd"
  with_reducible refine zR (fun z=>?_) (fun z=>?_)
  . rw[Bool.not_eq_true',decide_eq_false_iff_not] at z
    walk_at "rd"
    walk_at "new"
    rename_i p hp H1 f1 s1
    exact zS k (Gm.Jn (.inl (QZ z))) (W.same s1) f1 (.same s1)
  rw[Bool.not_eq_false',decide_eq_true_iff] at z
  walk_at "rd"
  refine⟨g,dg,da,s0.seed,s0.w,s0.d,a2,b2,rfl,hg,?_⟩
  walk_at "rd"
  with_reducible refine zR (fun z2=>?_) (fun z2=>?_)
  . rw[Bool.not_eq_true',decide_eq_false_iff_not] at z2
    walk_at "rd"
    walk_at "new"
    rename_i p hp H1 f1 s1
    exact zS k (Gm.Jn (.inr (QZ z2))) (W.same s1) f1 (.same s1)
  rw[Bool.not_eq_false',decide_eq_true_iff] at z2
  have e:=Gm.st_pass (fun q=>q.elim (qP z) (qP z2))
  obtain⟨x,rfl⟩:∃x:Nat,a=x:=⟨a.toNat,by omega⟩
  obtain⟨y,rfl⟩:∃y:Nat,b=y:=⟨b.toNat,by omega⟩
  obtain⟨x2,rfl⟩:∃x:Nat,a2=x:=⟨a2.toNat,by omega⟩
  obtain⟨y2,rfl⟩:∃y:Nat,b2=y:=⟨b2.toNat,by omega⟩
  have en:Vbwsan.numberOf s0 (x:Int) (y:Int)=y*s0.w+x:=by unfold Vbwsan.numberOf;rw[Int.toNat_natCast,Int.toNat_natCast]
  have en':Vbwsan.numberOf s0 (x2:Int) (y2:Int)=y2*s0.w+x2:=by unfold Vbwsan.numberOf;rw[Int.toNat_natCast,Int.toNat_natCast]
  rw[en,en'] at e
  have hnl:=zCS (s:=s0) (x:=x) (y:=y) (by omega) (by omega)
  have en2:((y:Int)*(s0.w:Int)+(x:Int))=((y*s0.w+x:Nat):Int):=by rw[Int.natCast_add,Int.natCast_mul]
  have en3:((y2:Int)*(s0.w:Int)+(x2:Int))=((y2*s0.w+x2:Nat):Int):=by rw[Int.natCast_add,Int.natCast_mul]
  walk_at "rd"
  refine⟨g,dg,da,s0.seed,s0.w,s0.d,x,y,rfl,hg,hw2,?_⟩
  rw[en2]
  walk_at "rd"
  refine⟨g,dg,da,s0.seed,s0.w,s0.d,x2,y2,rfl,hg,hw2,?_⟩
  rw[en3]
  generalize y*s0.w+x=k1 at e hnl
  generalize y2*s0.w+x2=k2 at e
  walk_at "rd"
  intro r hr0
  apply Ze hr0
  intro H1 z1 f1 s1
  rw[z1]
  clear z1
  refine⟨_,rfl,?_⟩
  show _/\∃kvs:List (L2.Key×V),_
  refine⟨f1,[(Sum.inl (k2:Int),V.bl true)],rfl,by simp,?_⟩
  rw[show mergeK [] [((Sum.inl (k2:Int):L2.Key),V.bl true)]=mkR [k2] from rfl]
  apply ZI
  intro H2 z2' f2 e2
  rw[z2']
  clear z2'
  have s2:Same H H2:=fun b o hb=>e2 _ _ (s1 _ _ hb) (fun z=>by rw[z,hr0] at hb;cases hb)
  walk_at "rd"
  refine⟨wd,g,da,ps,kd,ch,cd,r,s0,k1,(fun k=>k==k2),_,rfl,W.same s2,hnl,f2,fun n hn=>by rw[Ja];refine Bool.eq_iff_iff.mpr ?_;rw[decide_eq_true_iff,List.mem_singleton,beq_iff_eq],fun H3 p W3 e3 c3=>?_⟩
  have hwl:=Q5 (s:=s0) (goal:=(fun k=>k==k2)) (k:=k1)
  have hwn:=Gm.zCE (s:=s0) (goal:=(fun k=>k==k2)) (k:=k1) (by omega)
  have lk3:LK H H3:=(LK.same s2).trans (LK.extG (W.same s2).gr e3)
  generalize Vbwsan.wetFrom s0 (fun k=>k==k2) k1=wt at e c3 hwl hwn
  walk_at "rd"
  refine⟨p,s0,wt,rfl,c3,hwn,by omega,fun H4 s4=>?_⟩
  have c4:=c3.same zh s4
  obtain⟨ts,c5,_⟩:=id c4
  have lts:=LAt.len c5 c4
  rw[List.length_map] at lts
  walk_at "rd"
  refine⟨p,ts,rfl,.inl (SqL.of c5),?_⟩
  walk_at "rd"
  walk_at "new"
  rename_i q hq H5 f5 s5
  refine zS k e (W3.same (s4.trans s5)) ?_ (lk3.trans (.same (s4.trans s5)))
  rw[f5,lts]
  rfl
theorem box_houses(seed w d:Nat)(i j:Nat)(hi:8*i+8<=w)(hj:8*j+8<=d):Gm.housesIn seed w d (8*i:Nat) (8*j:Nat) ((8*i+7:Nat)) ((8*j+7:Nat))=(box (8*i) (8*j) 8 8).filterMap fun c=>Vbwsan.houseAt seed w d c.1 c.2:=by
  have sp:∀(a n:Nat),8*a+8<=n->Gm.span ((8*a:Nat):Int) ((8*a+7:Nat):Int) n=(List.range 8).map fun k=>8*a+k:=fun a n h=>by
    unfold Gm.span
    have h1:(max ((8*a:Nat):Int) 0).toNat=8*a:=by omega
    have h2:(min (((8*a+7:Nat):Int)+1) n - max ((8*a:Nat):Int) 0).toNat=8:=by omega
    rw[h1,h2,List.range'_eq_map_range]
  unfold Gm.housesIn box
  rw[sp i w hi,sp j d hj,List.filterMap_flatMap,List.flatMap_map]
  refine congrArg (fun f=>List.flatMap f (List.range 8)) (funext fun b=>?_)
  rw[List.filterMap_map,List.filterMap_map]
  rfl
abbrev qZ:Stmt:=top 100
theorem zw:FnScope ["world","numbers","i","j","left","top","answer","house"] ["world","numbers"] (defScope qZ):=⟨rfl,rfl,rfl,by decide +kernel,rfl,by decide +kernel,by decide +kernel⟩
theorem ok_houses_answer{f:Addr}{fd:FuncData}(F:Fun K "houses_answer" "houses_answer" qZ f fd)(T:Glb K mg A)(m_Pieces_has_piece:MtAt P w K mg base 1 A.C_Pieces "has_piece" ["self","i","j"] (sp_has_piece A))
    (f_houses_within:FnAt P w K mg base 10 "houses_within" ["ground","left","top","right","bottom"] (Zh A)):FnOk P w K mg base CX0 11 f fd ["world","numbers"] (sp_ans A 11):=by
  refine F.ok zw (fun vs H Q E h=>?_) (fun cdv Ar outer s H vs Q E hr h=>?_)
  . obtain⟨wd,g,da,ps,kd,ch,cd,l,s,nums,c,rfl,_⟩:=h
    rfl
  obtain⟨wd,g,da,ps,kd,ch,cd,l,s0,nums,c,rfl,W,hl,hc,hlen,k⟩:=h
  obtain⟨dxw,hw⟩:=W.ins
  obtain⟨dg,hg⟩:=W.gr.ins
  obtain⟨dpp,hps⟩:=W.pc.ins
  obtain⟨dch,hch⟩:=W.ch.ins
  have hu:=ZB hr
  obtain⟨hw1,hw2,hd1,hd2⟩:=W.gr.le
  obtain⟨a,b,rfl,rfl⟩:=call11 hc
  have hl':H l=some (.lst [.int a,.int b]):=hl
  refine⟨_,(zB (zG (i:=2) zw.nd rfl (Or.inl rfl) (zN zO (pv 1) zE (fun _ _=>rfl)))
      (zB (zG (i:=3) zw.nd rfl (Or.inl rfl) (zN zO (pv 1) zE (fun _ _=>rfl)))
      (zB (zf (zt (zm (zT (zF (pv 0) rfl) T.c_Pieces m_Pieces_has_piece hr (zA (pv 2) (zA (pv 3) zC))))) (zD (zH (zQ (zA (zM T.g_NOT_IN_RANGE) zC)))) zP)
      (zB (zG (i:=4) zw.nd rfl (Or.inl rfl) (zK ZF (zM T.g_PIECE_SIDE) (pv 2)))
      (zB (zG (i:=5) zw.nd rfl (Or.inl rfl) (zK ZF (zM T.g_PIECE_SIDE) (pv 3)))
      (zB (zG (i:=6) zw.nd rfl (Or.inl rfl) (zQ (zA zE zC)))
      (zB (ZQ PassesOwn.never rfl (ZL (zV f_houses_within hr (zA (zF (pv 0) rfl) (zA (pv 4) (zA (pv 5) (zA (zK ZR (zK zW (pv 4) (zM T.g_PIECE_SIDE)) zE) (zA (zK ZR (zK zW (pv 5) (zM T.g_PIECE_SIDE)) zE) zC))))))) (zX (i:=7) zw.nd rfl (Or.inl rfl)) (zD (zo (q0 PySem.F.plainAttrs_list PySem.F.slot_list_extend PySem.F.type_list_extend qk (pv 6) (zA (zQ (zA (zF (pv 7) rfl) (zA (zF (pv 7) rfl) (zA (zF (pv 7) rfl) (zA (zF (pv 7) rfl) zC))))) zC)))))
      (zD (zH (pv 6)))))))))),?_⟩
  refine st0 (σ0:=[some _,some _,none,none,none,none,none,none]) rfl ?_
  try dsimp only[cxOf]
  walk_at "rd"
  refine⟨ps,kd,g,da,cd,s0,a,b,rfl,W.pc,W.gr,?_⟩
  walk_at "rd"
  with_reducible refine zR (fun z=>?_) (fun z=>?_)
  . rw[Bool.not_eq_true',decide_eq_false_iff_not] at z
    walk_at "rd"
    walk_at "new"
    rename_i p hp H1 f1 s1
    exact zS k (Gm.st_houses_no (jL z)) (W.same s1) f1 (.same s1)
  rw[Bool.not_eq_false',decide_eq_true_iff] at z
  have e:=Gm.st_houses (jG z)
  obtain⟨i,rfl⟩:∃x:Nat,a=x:=⟨a.toNat,by omega⟩
  obtain⟨j,rfl⟩:∃y:Nat,b=y:=⟨b.toNat,by omega⟩
  have hi:=side8 (i:=i) W.gr.wd (by omega)
  have hj:=side8 (i:=j) W.gr.dp (by omega)
  have c64:Vbwsan.pieceCells i j=box (8*i) (8*j) 8 8:=by
    unfold Vbwsan.pieceCells box Vbwsan.PIECE
    have:=Gm.Qs (fun a b=>(i*8+a,j*8+b)) 8 (by decide) 8
    rw[this]
    refine congrArg (fun f=>List.flatMap f (List.range 8)) (funext fun b=>congrArg (fun f=>List.map f (List.range 8)) (funext fun a=>?_))
    rw[Nat.mul_comm i,Nat.mul_comm j]
  rw[Int.toNat_natCast,Int.toNat_natCast,c64,<-box_houses _ _ _ _ _ hi hj] at e
  have hlh:(Gm.housesIn s0.seed s0.w s0.d (8*i:Nat) (8*j:Nat) ((8*i+7:Nat)) ((8*j+7:Nat))).length<=1024:=by
    rw[<-Gm.QS]
    exact Nat.le_trans (List.length_filter_le _ _) (Nat.le_trans (JQ _ _ _ _ _ _ _) (zk hd2 hw2))
  walk_at "rd"
  walk_at "new"
  rename_i p hp H1 f1 s1
  have hw1':=s1 _ _ hw
  walk_at "rd"
  refine⟨g,da,s0.seed,s0.w,s0.d,(8*i:Nat),(8*j:Nat),(8*i+7:Nat),(8*j+7:Nat),?_,W.gr.same s1,⟨by omega,by omega,by omega,by omega,by omega,by omega,by omega,by omega⟩,fun H2 q G2 e2 hq c2=>?_⟩
  . rw[show(8:Int)*(i:Int)+8 - 1=((8*i+7:Nat):Int) by omega,show(8:Int)*(j:Int)+8 - 1=((8*j+7:Nat):Int) by omega,show(8:Int)*(i:Int)=((8*i:Nat):Int) by omega,show(8:Int)*(j:Int)=((8*j:Nat):Int) by omega]
    rfl
  have W2:=(W.same s1).ext e2 G2
  have lk2:LK H H2:=(LK.same s1).trans (LK.extG (W.same s1).gr e2)
  have f2:=Ext.at (W.same s1).gr e2 f1 (fun z q=>by cases q)
  generalize Gm.housesIn s0.seed s0.w s0.d (8*i:Nat) (8*j:Nat) ((8*i+7:Nat)) ((8*j+7:Nat))=hs at c2 e hlh
  obtain⟨ts,c3,c4⟩:=id c2
  have lts:ts.length=hs.length:=Paired.length c4
  have npq:q≠p:=fun z=>by rw[z,f1] at hq;cases hq
  refine zq (SqL.of c3) ?_
  let ff:Vbwsan.House->List Int:=fun a=>[(a.x:Int),(a.y:Int),(a.w:Int),(a.d:Int)]
  have h1:∀l:List Vbwsan.House,(l.flatMap ff).length=4*l.length:=fun l=>by
    induction l with
    |nil=>rfl
    |cons a l ih=>rw[List.flatMap_cons,List.length_append,ih];show 4+_=_;rw[List.length_cons];omega
  refine qi (xs:=ts) (fun n σ H'=>∃v7:Option V,σ=[some (.ref wd),some (.ref l),some (.int i),some (.int j),some (.int (8*(i:Int))),some (.int (8*(j:Int))),some (.ref p),v7]/\(∀b o,H2 b=some o->b≠p->H' b=some o)/\H' p=some (.lst ((0::(hs.take n).flatMap ff).map V.int)))
    ⟨none,rfl,fun b o hb _=>hb,f2⟩ (fun i σ H' _ ⟨_,_,y,_⟩=>SqL.of (y _ _ c3 npq)) ?_ ?_
  . rintro n v σ H' hv ⟨v7,rfl,k3,p3⟩
    obtain⟨a,haa,pa,dxa,rfl,hpa⟩:=ZO c4 hv
    have hpa3:=k3 _ _ hpa (za hpa f2 (by intro z;cases z))
    walk_at "rd"
    refine Zv p3 ?_
    walk_at "rd"
    walk_at "new"
    rename_i r hr5 H5 f5 s5
    walk_at "rd"
    refine qj (s5 _ _ p3) f5 ?_ ?_
    . rw[List.length_map,List.length_cons,h1,List.length_take]
      exact Nat.le_of_lt (small (by simp only[List.length_cons,List.length_nil];omega))
    . refine⟨_,rfl,fun b o hb nb=>by rw[zI nb];exact s5 _ _ (k3 _ _ hb nb),?_⟩
      rw[zJ,zZ haa,List.flatMap_append]
      show _=some (HO.lst (List.map V.int ((0::_)++([a].flatMap ff))))
      rw[List.map_append]
      rfl
  . rintro σ H' ⟨v7,rfl,k3,p3⟩
    walk_at "rd"
    rw[lts,List.take_length] at p3
    have kp3:Keeps H2 H':=fun b o hb fo=>k3 _ _ hb (fun zz=>by rw[zz,f2] at hb;cases hb;exact fo)
    have dk3:∀b kvs,H2 b=some (.dT kvs)->H' b=some (.dT kvs):=fun b kvs hb=>k3 _ _ hb (fun zz=>by rw[zz,f2] at hb;cases hb)
    have W4:WoX A H' wd g da ps kd ch cd s0:=by
      obtain⟨⟨dxa,h1⟩,⟨⟨dga,h2⟩,⟨kg,h3,h4⟩,h5,h6⟩,h7,h8,n1,n2,n3,h9⟩:=W2
      exact⟨⟨dxa,kp3 _ _ h1 trivial⟩,⟨⟨dga,kp3 _ _ h2 trivial⟩,⟨kg,dk3 _ _ h3,h4⟩,h5,h6⟩,h7.keep kp3 (fun b kvs hb _=>dk3 _ _ hb) n1,h8.keep kp3 fun kvs hb=>dk3 _ _ hb,n1,n2,n3,h9⟩
    exact zS k e W4 p3 fun b o hb lo=>k3 _ _ (lk2 _ _ hb lo) (fun zz=>by rw[zz,hp] at hb;cases hb)
end
end Gs
namespace Gs
open PySem PySem.Spec PyProof.Rows L2
def ar(i:Nat):Nat:=[4,2,2,2,0,3,3,2,0,2,2,2,2,4,3,0,0,3,0,0].getD i 0
theorem ar_le(i:Nat):ar i<=4:=by
  unfold ar
  by_cases h:i<20
  . have:∀i:Fin 20,[4,2,2,2,0,3,3,2,0,2,2,2,2,4,3,0,0,3,0,0].getD i.1 0<=4:=by decide
    exact this ⟨i,h⟩
  . rw[List.getD_eq_getElem?_getD,List.getElem?_eq_none (by simpa using h)]
    exact Nat.zero_le _
theorem shape_some{p:Int}{n k:Nat}(h:PyVbwsan.shape p=some (n,k)):∃i:Nat,i<20/\p=i/\n=ar i/\k=(if i=16 then 1 else 0):=by
  by_cases hp:0<=p/\p<20
  . obtain⟨i,rfl⟩:∃i:Nat,p=i:=⟨p.toNat,by omega⟩
    have hi:i<20:=by omega
    have all:∀i:Fin 20,PyVbwsan.shape (i.1:Int)=some (ar i.1,if i.1=16 then 1 else 0):=by decide
    rw[all ⟨i,hi⟩] at h
    have h:=Option.some.inj h
    exact⟨i,hi,rfl,(Prod.mk.inj h).1.symm,(Prod.mk.inj h).2.symm⟩
  . exfalso
    unfold PyVbwsan.shape at h
    repeat rw[if_neg (by omega)] at h
    cases h
theorem callN_some{i:Nat}{nums:List Int}(hi:i<20)(h16:i≠16)(hl:nums.length=ar i):∃cc,callN i nums=some cc/\PyVbwsan.whole [(i:Int)::nums]=[(i:Int)::nums]:=by
  have hl2:nums.length=ar i:=hl
  match i,hi with
  |0,_=>match nums,hl2 with | [a,b,c,d],_=>exact⟨_,rfl,rfl⟩
  |1,_=>match nums,hl2 with | [a,b],_=>exact⟨_,rfl,rfl⟩
  |2,_=>match nums,hl2 with | [a,b],_=>exact⟨_,rfl,rfl⟩
  |3,_=>match nums,hl2 with | [a,b],_=>exact⟨_,rfl,rfl⟩
  |4,_=>match nums,hl2 with | [],_=>exact⟨_,rfl,rfl⟩
  |5,_=>match nums,hl2 with | [a,b,c],_=>exact⟨_,rfl,rfl⟩
  |6,_=>match nums,hl2 with | [a,b,c],_=>exact⟨_,rfl,rfl⟩
  |7,_=>match nums,hl2 with | [a,b],_=>exact⟨_,rfl,rfl⟩
  |8,_=>match nums,hl2 with | [],_=>exact⟨_,rfl,rfl⟩
  |9,_=>match nums,hl2 with | [a,b],_=>exact⟨_,rfl,rfl⟩
  |10,_=>match nums,hl2 with | [a,b],_=>exact⟨_,rfl,rfl⟩
  |11,_=>match nums,hl2 with | [a,b],_=>exact⟨_,rfl,rfl⟩
  |12,_=>match nums,hl2 with | [a,b],_=>exact⟨_,rfl,rfl⟩
  |13,_=>match nums,hl2 with | [a,b,c,d],_=>exact⟨_,rfl,rfl⟩
  |14,_=>match nums,hl2 with | [a,b,c],_=>exact⟨_,rfl,rfl⟩
  |15,_=>match nums,hl2 with | [],_=>exact⟨_,rfl,rfl⟩
  |16,_=>exact absurd rfl h16
  |17,_=>match nums,hl2 with | [a,b,c],_=>exact⟨_,rfl,rfl⟩
  |18,_=>match nums,hl2 with | [],_=>exact⟨_,rfl,rfl⟩
  |19,_=>match nums,hl2 with | [],_=>exact⟨_,rfl,rfl⟩
  |n+20,h=>exact absurd h (by omega)
theorem call_decw {p : Int} {r t : List Int} {c : List (List Int)} (h : PyFlat.call PyVbwsan.shape (p :: r) = some (c, t)) : ∃ (i : Nat) (nums : List Int) (cc : Vbwsan.Call), i < 20 ∧ p = i ∧ callN i nums = some cc ∧ (VbwsanNeutral.callOf c = some cc ∧ PyVbwsan.whole c = c) ∧
    ((i≠16/\ar i<=r.length/\nums=r.take (ar i)/\t=r.drop (ar i))\/(i=16/\c=[[16],nums]/\∃(m:Nat) (r':List Int),r=(m:Int)::r'/\m<=r'.length/\nums=r'.take m/\t=r'.drop m)):=by
  unfold PyFlat.call at h
  dsimp only at h
  cases hs:PyVbwsan.shape p with
  |none=>rw[hs] at h;cases h
  | some nk =>
    obtain⟨n,k⟩:=nk
    rw[hs] at h
    dsimp only at h
    obtain⟨i,hi,rfl,rfl,rfl⟩:=shape_some hs
    by_cases hl:r.length<ar i
    . rw[if_pos hl] at h;cases h
    rw[if_neg hl] at h
    by_cases h16:i=16
    . subst h16
      rw[if_pos rfl] at h
      unfold PyFlat.rows at h
      have e0:r.drop (ar 16)=r:=rfl
      have e1:r.take (ar 16)=[]:=rfl
      rw[e0,e1] at h
      cases r with
      |nil=>cases h
      | cons m r' =>
        by_cases hm:0<=m/\m.toNat<=r'.length
        . have e2:PyFlat.row (m::r')=some (r'.take m.toNat,r'.drop m.toNat):=by unfold PyFlat.row;dsimp only;rw[if_pos hm]
          rw[e2] at h
          dsimp only[PyFlat.rows] at h
          have h:=Option.some.inj h
          obtain⟨h1,h2⟩:=Prod.mk.inj h
          refine⟨16,r'.take m.toNat,.way (r'.take m.toNat),hi,rfl,rfl,?_,.inr ⟨rfl,h1.symm,m.toNat,r',?_,hm.2,rfl,h2.symm⟩⟩
          . rw[<-h1];exact⟨rfl,rfl⟩
          . rw[show((m.toNat:Nat):Int)=m by omega]
        . have e2:PyFlat.row (m::r')=none:=by unfold PyFlat.row;dsimp only;rw[if_neg hm]
          rw[e2] at h
          cases h
    . rw[if_neg h16] at h
      dsimp only[PyFlat.rows] at h
      have h:=Option.some.inj h
      obtain⟨h1,h2⟩:=Prod.mk.inj h
      obtain⟨cc,hcc,hw⟩:=callN_some (nums:=r.take (ar i)) hi h16 (by rw[List.length_take];omega)
      refine⟨i,r.take (ar i),cc,hi,rfl,hcc,?_,.inl ⟨h16,by omega,rfl,h2.symm⟩⟩
      rw[<-h1]
      unfold callN at hcc
      rw[if_neg h16] at hcc
      exact⟨hcc,hw⟩
theorem call_dec{p:Int}{r t:List Int}{c:List (List Int)}(h:PyFlat.call PyVbwsan.shape (p::r)=some (c,t)):∃(i:Nat) (nums:List Int) (cc:Vbwsan.Call),i<20/\p=i/\callN i nums=some cc/\VbwsanNeutral.callOf c=some cc/\
    ((i≠16/\ar i<=r.length/\nums=r.take (ar i)/\t=r.drop (ar i))\/(i=16/\c=[[16],nums]/\∃(m:Nat) (r':List Int),r=(m:Int)::r'/\m<=r'.length/\nums=r'.take m/\t=r'.drop m)):=
  let ⟨i,n,cc,x1,x2,x3,x4,x5⟩:=call_decw h
  ⟨i,n,cc,x1,x2,x3,x4.1,x5⟩
theorem calls_cons {f : Nat} {p : Int} {r : List Int} {cs : List (List (List Int))} (h : PyFlat.calls PyVbwsan.shape f (p :: r) = some cs) : ∃ f' c t cs', PyFlat.call PyVbwsan.shape (p :: r) = some (c, t) ∧ PyFlat.calls PyVbwsan.shape f' t = some cs' ∧ cs = c :: cs' := by
  cases f with
  |zero=>cases h
  | succ f =>
    unfold PyFlat.calls at h
    cases h1:PyFlat.call PyVbwsan.shape (p::r) with
    |none=>rw[h1] at h;cases h
    | some ct =>
      obtain⟨c,t⟩:=ct
      rw[h1] at h
      dsimp only at h
      cases h2:PyFlat.calls PyVbwsan.shape f t with
      |none=>rw[h2] at h;cases h
      | some cs' =>
        rw[h2] at h
        exact⟨f,c,t,cs',rfl,h2,(Option.some.inj h).symm⟩
theorem zAj{f:Nat}{cs:List (List (List Int))}(h:PyFlat.calls PyVbwsan.shape f []=some cs):cs=[]:=by
  unfold PyFlat.calls at h
  exact(Option.some.inj h).symm
theorem JY:∀(cs:List (List (List Int))) {f:Nat} {l:List Int},PyFlat.calls PyVbwsan.shape f l=some cs->cs.map PyVbwsan.whole=cs
  |[],_,_,_=>rfl
  |x::xs,f,[],h=>nomatch zAj h
  | x :: xs, f, p :: r, h => by
    obtain⟨f',c,t,cs',h1,h2,h3⟩:=calls_cons h
    cases h3
    obtain⟨_,_,_,_,_,_,e,_⟩:=call_decw h1
    rw[List.map_cons,e.2,JY xs h2]
theorem calls_some{l:List Int}{cs:List (List (List Int))}(h:PyVbwsan.calls l=some cs):PyFlat.calls PyVbwsan.shape l.length l=some cs:=by
  unfold PyVbwsan.calls at h
  cases h1:PyFlat.calls PyVbwsan.shape l.length l with
  |none=>rw[h1] at h;cases h
  | some xs =>
    rw[h1] at h
    have h:=Option.some.inj h
    rw[JY xs h1] at h
    rw[h]
theorem zAN(l:List (List Int))(a:List Int):PyFlat.told (l++[a])=(PyFlat.told l++[(a.length:Int)])++a:=by
  unfold PyFlat.told
  rw[List.flatMap_append,List.flatMap_cons,List.flatMap_nil,List.append_nil,List.append_assoc]
  rfl
theorem Qc{α:Type}{f:α->List Int}{k:Nat}(hf:∀a,(f a).length=k):∀l:List α,(l.flatMap f).length=k*l.length
  |[]=>by simp
  |a::l=>by rw[List.flatMap_cons,List.length_append,hf,Qc hf l,List.length_cons,Nat.mul_succ];omega
theorem no_len{s:Vbwsan.State}{k:Nat}:(Vbwsan.no s k).2.length=1:=rfl
theorem yes_len{s:Vbwsan.State}{l:List Int}:(Vbwsan.yes s l).2.length=l.length+1:=rfl
theorem Zf{p:Prop}[Decidable p]{a b:Vbwsan.State×List Int}{n:Nat}(h1:a.2.length<=n)(h2:b.2.length<=n):(if p then a else b).2.length<=n:=by split<;>assumption
theorem range64:(List.range (Vbwsan.PIECE*Vbwsan.PIECE)).length=64:=List.length_range
theorem step_len{s:Vbwsan.State}(h1:s.w*s.d<=1024)(h2:s.pieces.length<=8)(h3:s.changes.length<=60)(c:Vbwsan.Call):(Vbwsan.step s c).2.length<=1100:=by
  have a0:∀{s:Vbwsan.State} {k:Nat},(Vbwsan.no s k).2.length<=1100:=fun {s k}=>by rw[no_len];omega
  have a1:∀{s:Vbwsan.State} {l:List Int},l.length<=1099->(Vbwsan.yes s l).2.length<=1100:=fun {s l} h=>by rw[yes_len];omega
  cases c<;>unfold Vbwsan.step<;>dsimp only
  case begin_=>exact Zf a0 (a1 (by simp))
  case cell=>exact Zf a0 (a1 (by simp))
  case piece=>exact Zf a0 (a1 (by rw[Qc (k:=2) (fun _=>rfl)];unfold Vbwsan.cellsNow;rw[List.length_map,range64];omega))
  case forget=>exact Zf a0 (Zf a0 (a1 (by simp)))
  case kept=>exact a1 (by rw[List.length_cons,Qc (k:=2) (fun _=>rfl)];omega)
  case dig=>exact Zf a0 (Zf a0 (Zf a0 (a1 (by simp))))
  case build=>exact Zf a0 (Zf a0 (Zf a0 (a1 (by simp))))
  case undo=>exact Zf a0 (Zf a0 (a1 (by simp)))
  case changes=>exact a1 (by rw[Qc (k:=4) (fun _=>rfl)];omega)
  case water x y=>exact Zf a0 (a1 (by unfold Vbwsan.ints;rw[List.length_cons,List.length_map];have:=Q5 (s:=s) (goal:=Vbwsan.edge s) (k:=Vbwsan.numberOf s x y);omega))
  case springs i j=>exact Zf a0 (a1 (by
    rw[Qc (k:=2) (fun _=>rfl)]
    have:=List.length_filter_le (fun c=>Vbwsan.springAt s c.1 c.2) (Vbwsan.pieceCells i.toNat j.toNat)
    have e:(Vbwsan.pieceCells i.toNat j.toNat).length=64:=by unfold Vbwsan.pieceCells;rw[List.length_map,range64]
    omega))
  case houses i j=>exact Zf a0 (a1 (by
    rw[Qc (k:=4) (fun _=>rfl)]
    have:=List.length_filterMap_le (fun c=>Vbwsan.houseAt s.seed s.w s.d c.1 c.2) (Vbwsan.pieceCells i.toNat j.toNat)
    have e:(Vbwsan.pieceCells i.toNat j.toNat).length=64:=by unfold Vbwsan.pieceCells;rw[List.length_map,range64]
    omega))
  case house x y=>
    refine Zf a0 ?_
    split
    . exact a0
    . exact a1 (by simp[Vbwsan.ints])
  case pass=>exact Zf a0 (a1 (by simp))
  case raw=>exact Zf a0 (a1 (by simp))
  case sum=>exact a1 (by rw[List.length_singleton];omega)
  case way=>exact Zf a0 (Zf (a1 (by simp)) (a1 (by rw[List.length_cons,List.length_cons,List.length_singleton];omega)))
  case level=>exact Zf a0 (Zf (a1 (by simp)) (a1 (by rw[List.length_cons,List.length_singleton];omega)))
  case state=>exact a1 (by simp)
  case highest=>exact a1 (by rw[List.length_cons,List.length_cons,List.length_cons,List.length_singleton];omega)
end Gs
namespace Gs
open PySem PySem.Spec PyProof.Rows L2
theorem st_begin_no{s:Vbwsan.State}{a b x y:Int}(h:¬ ((0<=a/\a<=1000000000)/\(b=8\/b=16\/b=24\/b=32)/\(x=8\/x=16\/x=24\/x=32)/\1<=y/\y<=8)):Vbwsan.step s (.begin_ a b x y)=(s,[-1]):=by
  unfold Vbwsan.step
  dsimp only
  rw[if_pos (by rw[zp,zp,zp,zp,decide_eq_false_iff_not,decide_eq_false_iff_not,decide_eq_false_iff_not,decide_eq_false_iff_not];omega)]
  rfl
theorem st_begin{s:Vbwsan.State}{a b x y:Int}(h:(0<=a/\a<=1000000000)/\(b=8\/b=16\/b=24\/b=32)/\(x=8\/x=16\/x=24\/x=32)/\1<=y/\y<=8):Vbwsan.step s (.begin_ a b x y)=(began a.toNat b.toNat x.toNat y.toNat,[0]):=by
  unfold Vbwsan.step
  dsimp only
  rw[if_neg (by rw[zp,zp,zp,zp,decide_eq_false_iff_not,decide_eq_false_iff_not,decide_eq_false_iff_not,decide_eq_false_iff_not];omega)]
  rfl
theorem LK.extW{H H1:Hp}{wd C dx:Addr}{fs:List (Str×V)}(h:H wd=some (.ins C dx fs))(a:Ext wd H H1):LK H H1:=.ext a h (fun z=>z)
section
variable{P:Program}{w:World}{K:PySem.W.Frag}{mg:Str->Option Value}{base:Heap}{A:Ads}
abbrev qw:Stmt:=top 89
theorem ZT:FnScope ["world","numbers","seed","width","depth","room"] ["world","numbers"] (defScope qw):=⟨rfl,rfl,rfl,by decide +kernel,rfl,by decide +kernel,by decide +kernel⟩
theorem ok_begin_answer{f:Addr}{fd:FuncData}(F:Fun K "begin_answer" "begin_answer" qw f fd)(T:Glb K mg A)(m_World_begin:MtAt P w K mg base 3 A.C_World "begin" ["self","seed","width","depth","room"] (js A)):FnOk P w K mg base CX0 4 f fd ["world","numbers"] (sp_ans A 0):=by
  refine F.ok ZT (fun vs H Q E h=>?_) (fun cdv Ar outer s H vs Q E hr h=>?_)
  . obtain⟨wd,g,da,ps,kd,ch,cd,l,s,nums,c,rfl,_⟩:=h
    rfl
  obtain⟨wd,g,da,ps,kd,ch,cd,l,s0,nums,c,rfl,W,hl,hc,hlen,k⟩:=h
  obtain⟨dxw,hw⟩:=W.ins
  obtain⟨dg,hg⟩:=W.gr.ins
  obtain⟨dpp,hps⟩:=W.pc.ins
  obtain⟨dch,hch⟩:=W.ch.ins
  have hu:=ZB hr
  obtain⟨hw1,hw2,hd1,hd2⟩:=W.gr.le
  obtain⟨a,b,x,y,rfl,rfl⟩:=call0 hc
  have hl':H l=some (.lst [.int a,.int b,.int x,.int y]):=hl
  have no:¬ ((0<=a/\a<=1000000000)/\(b=8\/b=16\/b=24\/b=32)/\(x=8\/x=16\/x=24\/x=32)/\1<=y/\y<=8)->∀H1 p,Same H H1->H1 p=some (.lst [.int (-1)])->Q (.ref p) H1:=fun z H1 p s1 f1=>zS k (st_begin_no z) (W.same s1) f1 (.same s1)
  refine⟨_,(zB (zG (i:=2) ZT.nd rfl (Or.inl rfl) (zN zO (pv 1) zE (fun _ _=>rfl)))
      (zB (zG (i:=3) ZT.nd rfl (Or.inl rfl) (zN zO (pv 1) zE (fun _ _=>rfl)))
      (zB (zG (i:=4) ZT.nd rfl (Or.inl rfl) (zN zO (pv 1) zE (fun _ _=>rfl)))
      (zB (zG (i:=5) ZT.nd rfl (Or.inl rfl) (zN zO (pv 1) zE (fun _ _=>rfl)))
      (zB (zf (ju (zt (Zc z9 z9 zE (pv 2) (zM T.g_GREATEST_SEED))) (Qt (zt (Zc z9 z9 zE (pv 5) (zM T.g_MOST_KEPT))))).pt (zD (zH (zQ (zA (zM T.g_NOT_IN_RANGE) zC)))) zP)
      (zB (zf (ju (zn Qx (pv 3) (JU T.g_SIDES) (by with_unfolding_all rfl)) (Qt (zn Qx (pv 4) (JU T.g_SIDES) (by with_unfolding_all rfl)))).pt (zD (zH (zQ (zA (zM T.g_NOT_IN_RANGE) zC)))) zP)
      (zB (zo (zT (pv 0) T.c_World m_World_begin hr (zA (pv 2) (zA (pv 3) (zA (pv 4) (zA (pv 5) zC))))))
      (zD (zH (zQ (zA zE zC))))))))))),?_⟩
  refine st0 (σ0:=[some _,some _,none,none,none,none]) rfl ?_
  try dsimp only[cxOf]
  walk_at "rd"
  walk_at "sp"
  all_goals try walk_at "sp"
  all_goals try walk_at "sp"
  all_goals try walk_at "sp"
  all_goals walk_at "dz"
  all_goals try contradiction
  all_goals try (walk_at "new";exact no (by omega) _ _ (by with_reducible assumption) (by with_reducible assumption))
  refine zCG (T.g_SIDES.2 _) rfl rfl ?_
  rw[inV4]
  walk_at "rd"
  with_reducible refine zR (fun zb=>?_) (fun zb=>?_)
  . walk_at "rd"
    simp only[Bool.not_eq_true',Bool.or_eq_false_iff,decide_eq_false_iff_not] at zb
    walk_at "new"
    exact no (by omega) _ _ (by with_reducible assumption) (by with_reducible assumption)
  simp only[Bool.not_eq_false',Bool.or_eq_true,decide_eq_true_eq] at zb
  walk_at "rd"
  refine zCG (T.g_SIDES.2 _) rfl rfl ?_
  rw[inV4]
  walk_at "rd"
  with_reducible refine zR (fun zx=>?_) (fun zx=>?_)
  . walk_at "rd"
    simp only[Bool.not_eq_true',Bool.or_eq_false_iff,decide_eq_false_iff_not] at zx
    walk_at "new"
    exact no (by omega) _ _ (by with_reducible assumption) (by with_reducible assumption)
  simp only[Bool.not_eq_false',Bool.or_eq_true,decide_eq_true_eq] at zx
  have hh:(0<=a/\a<=1000000000)/\(b=8\/b=16\/b=24\/b=32)/\(x=8\/x=16\/x=24\/x=32)/\1<=y/\y<=8:=by omega
  walk_at "rd"
  refine⟨wd,dxw,_,a.toNat,b.toNat,x.toNat,y.toNat,?_,hw,.inr ⟨_,_,_,rfl⟩,?_,?_,by omega,by omega,fun H1 g1 da1 ps1 kd1 ch1 cd1 W1 e1=>?_⟩
  . rw[show((a.toNat:Nat):Int)=a by omega,show((b.toNat:Nat):Int)=b by omega,show((x.toNat:Nat):Int)=x by omega,show((y.toNat:Nat):Int)=y by omega]
    rfl
  . unfold Side;omega
  . unfold Side;omega
  walk_at "rd"
  walk_at "new"
  rename_i p hp H2 f2 s2
  exact zS k (st_begin hh) (W1.same s2) f2 ((LK.extW hw e1).trans (.same s2))
end
end Gs
namespace Gs
open PySem PySem.Spec PyProof.Rows L2
section
variable{P:Program}{w:World}{K:PySem.W.Frag}{mg:Str->Option Value}{base:Heap}{A:Ads}
theorem num_lt'{s:Vbwsan.State}{x y:Nat}(hx:x<s.w)(hy:y<s.d):y*s.w+x<s.w*s.d:=by
  have:(y+1)*s.w<=s.d*s.w:=Nat.mul_le_mul_right _ hy
  rw[Nat.succ_mul,Nat.mul_comm s.d] at this
  omega
theorem hgt_num{s:Vbwsan.State}{x y:Nat}(hx:x<s.w):Gm.hgt s (y*s.w+x)=Vbwsan.heightAt s x y:=by
  unfold Gm.hgt
  have h0:0<s.w:=by omega
  rw[Nat.mul_comm,Nat.mul_add_mod,Nat.mod_eq_of_lt hx,Nat.mul_add_div h0,Nat.div_eq_of_lt hx,Nat.add_zero]
abbrev s_level_answer:Stmt:=top 106
theorem zr:FnScope ["world","numbers","x","y","most","found","number","at_edge"] ["world","numbers"] (defScope s_level_answer):=⟨rfl,rfl,rfl,by decide +kernel,rfl,by decide +kernel,by decide +kernel⟩
theorem ok_level_answer {f : Addr} {fd : FuncData} (F : Fun K "level_answer" "level_answer" s_level_answer f fd) (T : Glb K mg A) (m_Ground_has_cell : MtAt P w K mg base 1 A.C_Ground "has_cell" ["self", "x", "y"] (sp_has_cell A))
    (f_number_of:FnAt P w K mg base 1 "number_of" ["ground","x","y"] (sp_number_of A))
    (f_cells_in_reach:FnAt P w K mg base 9 "cells_in_reach" ["world","start","most"] (Z0 A))
    (f_is_edge:FnAt P w K mg base 2 "is_edge" ["ground","number"] (sp_is_edge A)):FnOk P w K mg base CX0 10 f fd ["world","numbers"] (sp_ans A 17):=by
  refine F.ok zr (fun vs H Q E h=>?_) (fun cdv Ar outer s H vs Q E hr h=>?_)
  . obtain⟨wd,g,da,ps,kd,ch,cd,l,s,nums,c,rfl,_⟩:=h
    rfl
  obtain⟨wd,g,da,ps,kd,ch,cd,l,s0,nums,c,rfl,W,hl,hc,hlen,k⟩:=h
  obtain⟨dxw,hw⟩:=W.ins
  obtain⟨dg,hg⟩:=W.gr.ins
  obtain⟨dpp,hps⟩:=W.pc.ins
  obtain⟨dch,hch⟩:=W.ch.ins
  have hu:=ZB hr
  obtain⟨hw1,hw2,hd1,hd2⟩:=W.gr.le
  obtain⟨a,b,h,rfl,rfl⟩:=call17 hc
  have hl':H l=some (.lst [.int a,.int b,.int h]):=hl
  have hwd:s0.w*s0.d<=32*32:=zk hw2 hd2
  have no:¬ ((0<=a/\a<s0.w/\0<=b/\b<s0.d)/\0<=h/\h<=9999)->∀H1 p,Same H H1->H1 p=some (.lst [.int (-1)])->Q (.ref p) H1:=fun z H1 p s1 f1=>zS k (Gm.st_level_no (by
    rw[qK,zp,decide_eq_false_iff_not,decide_eq_false_iff_not]
    by_cases q:0<=a/\a<s0.w/\0<=b/\b<s0.d
    . exact .inr fun y=>z ⟨q,y⟩
    . exact .inl q)) (W.same s1) f1 (.same s1)
  refine⟨_,(zB (zG (i:=2) zr.nd rfl (Or.inl rfl) (zN zO (pv 1) zE (fun _ _=>rfl)))
      (zB (zG (i:=3) zr.nd rfl (Or.inl rfl) (zN zO (pv 1) zE (fun _ _=>rfl)))
      (zB (zG (i:=4) zr.nd rfl (Or.inl rfl) (zN zO (pv 1) zE (fun _ _=>rfl)))
      (zB (zf (ju (zt (zm (zT (zF (pv 0) rfl) T.c_Ground m_Ground_has_cell hr (zA (pv 2) (zA (pv 3) zC))))) (Qt (zt (Zc z9 z9 (zM T.g_LOWEST) (pv 4) (zM T.g_HIGHEST))))).pt (zD (zH (zQ (zA (zM T.g_NOT_IN_RANGE) zC)))) zP)
      (zB (zG (i:=5) zr.nd rfl (Or.inl rfl) (zV f_cells_in_reach hr (zA (pv 0) (zA (zV f_number_of hr (zA (zF (pv 0) rfl) (zA (pv 2) (zA (pv 3) zC)))) (zA (pv 4) zC)))))
      (zB (zG (i:=7) zr.nd rfl (Or.inl rfl) (zU (zCY rfl) (by rfl) T.b_any (by decide +kernel) (zA (Jw (own:=[("number",6)]) rfl zr.nd (ZL (pv 5)) (qT (by rfl)) (fun _ _ _ _ _=>(zX (i:=6) zr.nd rfl (Or.inl rfl))) (fun _ _ _ _ _=>Qu) (fun _ _ _ _ _=>(zV f_is_edge hr (zA (show PE _ _ (tFld K _ _) from zF (pv 0) rfl) (zA (pv 6) zC))))) zC)))
      (zD (zH (zQ (zA zE (zA (zU ZS (by rfl) T.b_len PySem.boot_len (zA (pv 5) zC)) (zA (Jx (zm (pv 7)) zE zE) zC)))))))))))),?_⟩
  refine st0 (σ0:=[some _,some _,none,none,none,none,none,none]) rfl ?_
  try dsimp only[cxOf]
  walk_at "rd"
  refine⟨g,dg,da,s0.seed,s0.w,s0.d,a,b,rfl,hg,?_⟩
  walk_at "rd"
  with_reducible refine zR (fun z=>?_) (fun z=>?_)
  . rw[Bool.not_eq_true',decide_eq_false_iff_not] at z
    walk_at "rd"
    walk_at "new"
    exact no (fun q=>z q.1) _ _ (by with_reducible assumption) (by with_reducible assumption)
  rw[Bool.not_eq_false',decide_eq_true_iff] at z
  walk_at "rd"
  with_reducible refine zR (fun z1=>?_) (fun z1=>?_)
  rotate_left
  . rw[decide_eq_false_iff_not] at z1
    walk_at "rd"
    walk_at "new"
    exact no (by omega) _ _ (by with_reducible assumption) (by with_reducible assumption)
  rw[decide_eq_true_iff] at z1
  walk_at "rd"
  with_reducible refine zR (fun z2=>?_) (fun z2=>?_)
  . rw[Bool.not_eq_true',decide_eq_false_iff_not] at z2
    walk_at "rd"
    walk_at "new"
    exact no (by omega) _ _ (by with_reducible assumption) (by with_reducible assumption)
  rw[Bool.not_eq_false',decide_eq_true_iff] at z2
  have hok:¬ (Vbwsan.isCell s0 a b=false\/Vbwsan.from_ h 0 9999=false):=fun q=>q.elim (qP z) (by rw[zp,decide_eq_true ⟨z1,z2⟩];exact fun q=>by cases q)
  obtain⟨x,rfl⟩:∃x:Nat,a=x:=⟨a.toNat,by omega⟩
  obtain⟨y,rfl⟩:∃y:Nat,b=y:=⟨b.toNat,by omega⟩
  obtain⟨m,rfl⟩:∃m:Nat,h=m:=⟨h.toNat,by omega⟩
  have e0:=Gm.st_level0 hok
  have e1:=Gm.st_level hok
  have en:Vbwsan.numberOf s0 (x:Int) (y:Int)=y*s0.w+x:=by unfold Vbwsan.numberOf;rw[Int.toNat_natCast,Int.toNat_natCast]
  have hx:x<s0.w:=by omega
  have hy:y<s0.d:=by omega
  rw[Int.toNat_natCast,Int.toNat_natCast,<-hgt_num hx] at e0 e1
  rw[en,Int.toNat_natCast] at e1
  have hnl:=num_lt' hx hy
  have en2:((y:Int)*(s0.w:Int)+(x:Int))=((y*s0.w+x:Nat):Int):=by rw[Int.natCast_add,Int.natCast_mul]
  walk_at "rd"
  refine⟨g,dg,da,s0.seed,s0.w,s0.d,x,y,rfl,hg,hw2,?_⟩
  rw[en2]
  generalize y*s0.w+x=k0 at e0 e1 hnl
  walk_at "rd"
  refine⟨wd,g,da,ps,kd,ch,cd,s0,k0,m,rfl,W,hnl,fun H1 p fs W1 x1 f1 hlf hbf hor=>?_⟩
  obtain⟨dxw1,hw1'⟩:=W1.ins
  obtain⟨dg1,hg1⟩:=W1.gr.ins
  have lk1:=LK.extG W.gr x1
  walk_at "rd"
  refine zq (SqL.of f1) ?_
  refine Qz (xs:=natsV fs) rfl (fun D i H'=>Same H1 H'/\H' D=some (.lst (((fs.take i).map (Vbwsan.edge s0)).map V.bl))) fun D hD=>⟨⟨ZU hD,zJ⟩,fun i H' pp=>SqL.of (pp.1 _ _ f1),?_,?_⟩
  . rintro i v H' hv ⟨s5,f5⟩
    obtain⟨n,hnn,rfl⟩:∃n,fs[i]?=some n/\v=V.int (n:Int):=by
      rw[List.getElem?_map] at hv
      obtain⟨n,h1,h2⟩:=Option.map_eq_some_iff.mp hv
      exact⟨n,h1,h2.symm⟩
    have hw5:=s5 _ _ hw1'
    refine zCH ⟨rfl,?_⟩
    walk_at "rd"
    refine⟨g,dg1,da,s0.seed,s0.w,s0.d,n,rfl,s5 _ _ hg1,hw1,hw2,hd1,fun H6 s6=>?_⟩
    refine qS (s6 _ _ f5) (by rw[List.length_map,List.length_map,List.length_take];exact small (by omega)) ⟨qC (s5.trans s6) hD,?_⟩
    rw[zJ,zZ hnn,List.map_append,List.map_append]
    rfl
  . rintro H' ⟨s5,f5⟩
    rw[show(natsV fs).length=fs.length from List.length_map _,List.take_length] at f5
    walk_at "rd"
    refine⟨D,_,rfl,SqL.of f5,?_⟩
    have ea:((fs.map (Vbwsan.edge s0)).any id)=fs.any (Vbwsan.edge s0):=by rw[List.any_map];rfl
    rw[ea]
    have fin:∀r:Int,(fs.any (Vbwsan.edge s0)=true->r=1)->(fs.any (Vbwsan.edge s0)=false->r=0)->∀H2 q,Same H' H2->H2 q=some (.lst [.int 0,.int ((fs.length:Nat):Int),.int r])->Q (.ref q) H2:=by
      intro r r1 r0 H2 q s2 f2
      have W2:=W1.same (s5.trans s2)
      have lk2:=lk1.trans (.same (s5.trans s2))
      rcases hor with⟨c,rfl⟩|⟨c,c1,c2⟩
      . refine zS k (e0 (by omega)) W2 ?_ lk2
        rw[f2,r0 rfl]
        rfl
      . refine zS k (e1 (by omega)) W2 ?_ lk2
        have c2:=c2 (Vbwsan.edge s0)
        unfold inReach at c1 c2
        rw[f2,<-c1,<-c2]
        cases z:fs.any (Vbwsan.edge s0) with
        |true=>rw[r1 z];rfl
        |false=>rw[r0 z];rfl
    walk_at "rd"
    refine⟨p,natsV fs,rfl,.inl (SqL.of (s5 _ _ f1)),?_⟩
    rw[show(natsV fs).length=fs.length from List.length_map _]
    walk_at "rd"
    with_reducible refine zR (fun zz=>?_) (fun zz=>?_)
    . walk_at "rd"
      walk_at "new"
      rename_i q hq H6 f6 s6
      exact fin 1 (fun _=>rfl) (fun q=>by rw[q] at zz;cases zz) _ _ s6 f6
    . walk_at "rd"
      walk_at "new"
      rename_i q hq H6 f6 s6
      exact fin 0 (fun q=>by rw[q] at zz;cases zz) (fun _=>rfl) _ _ s6 f6
end
end Gs
namespace Gs
open PySem PySem.Spec PyProof.Rows L2
def topOf(hs:List Nat)(n:Nat):Nat:=(List.range n).foldl (fun b k=>if hs.getD b 0<hs.getD k 0 then k else b) 0
theorem topOf_ok (hs : List Nat) : ∀ n, (0 < n → topOf hs n < n) ∧ (∀ k, k < n → hs.getD k 0 ≤ hs.getD (topOf hs n) 0) ∧ ∀ k, k < topOf hs n → hs.getD k 0 < hs.getD (topOf hs n) 0
  |0=>⟨fun h=>absurd h (Nat.lt_irrefl _),fun k h=>absurd h (Nat.not_lt_zero _),fun k h=>absurd h (Nat.not_lt_zero _)⟩
  | n + 1 => by
    obtain⟨h1,h2,h3⟩:=topOf_ok hs n
    have e:topOf hs (n+1)=if hs.getD (topOf hs n) 0<hs.getD n 0 then n else topOf hs n:=by
      unfold topOf
      rw[List.range_succ,List.foldl_append]
      rfl
    rw[e]
    by_cases c:hs.getD (topOf hs n) 0<hs.getD n 0
    . rw[if_pos c]
      refine⟨fun _=>Nat.lt_succ_self _,fun k hk=>?_,fun k hk=>?_⟩
      . rcases Nat.lt_succ_iff_lt_or_eq.mp hk with z|z
        . have:=h2 k z;omega
        . rw[z];exact Nat.le_refl _
      . have:=h2 k hk;omega
    . rw[if_neg c]
      refine⟨fun _=>?_,fun k hk=>?_,h3⟩
      . cases n with
        |zero=>exact Nat.zero_lt_one
        |succ n=>have:=h1 (Nat.succ_pos _);omega
      . rcases Nat.lt_succ_iff_lt_or_eq.mp hk with z|z
        . exact h2 k z
        . rw[z];omega
theorem st_highest{s:Vbwsan.State}:Vbwsan.step s .highest=(s,[0,((topOf (Vbwsan.heights s) (Vbwsan.heights s).length%s.w:Nat):Int),((topOf (Vbwsan.heights s) (Vbwsan.heights s).length / s.w:Nat):Int),((Vbwsan.heights s).getD (topOf (Vbwsan.heights s) (Vbwsan.heights s).length) 0:Int),(Vbwsan.leastOf (Vbwsan.heights s):Int)]):=by unfold Vbwsan.step topOf;rfl
theorem Jc{l:List Nat}{k:Nat}(h:k<l.length):l[k]?=some (l.getD k 0):=by
  rw[List.getD_eq_getElem?_getD,List.getElem?_eq_getElem h]
  rfl
section
variable{P:Program}{w:World}{K:PySem.W.Frag}{mg:Str->Option Value}{base:Heap}{A:Ads}
abbrev qD:Stmt:=top 108
theorem ZX:FnScope ["world","numbers","heights","greatest","place"] ["world","numbers"] (defScope qD):=⟨rfl,rfl,rfl,by decide +kernel,rfl,by decide +kernel,by decide +kernel⟩
theorem ok_highest_answer{f:Addr}{fd:FuncData}(F:Fun K "highest_answer" "highest_answer" qD f fd)(T:Glb K mg A)(m_World_heights:MtAt P w K mg base 9 A.C_World "heights" ["self"] (jd A))
    (f_place_of:FnAt P w K mg base 1 "place_of" ["ground","number"] (sp_place_of A)):FnOk P w K mg base CX0 10 f fd ["world","numbers"] (sp_ans A 19):=by
  refine F.ok ZX (fun vs H Q E h=>?_) (fun cdv Ar outer s H vs Q E hr h=>?_)
  . obtain⟨wd,g,da,ps,kd,ch,cd,l,s,nums,c,rfl,_⟩:=h
    rfl
  obtain⟨wd,g,da,ps,kd,ch,cd,l,s0,nums,c,rfl,W,hl,hc,hlen,k⟩:=h
  obtain⟨dxw,hw⟩:=W.ins
  obtain⟨dg,hg⟩:=W.gr.ins
  obtain⟨dpp,hps⟩:=W.pc.ins
  obtain⟨dch,hch⟩:=W.ch.ins
  have hu:=ZB hr
  obtain⟨hw1,hw2,hd1,hd2⟩:=W.gr.le
  obtain⟨rfl,rfl⟩:=call19 hc
  have e:=st_highest (s:=s0)
  have hle:=Gm.heights_len s0
  have hpos:0<(Vbwsan.heights s0).length:=by rw[hle];exact Nat.mul_pos (by omega) (by omega)
  refine⟨_,(zB (zG (i:=2) ZX.nd rfl (Or.inl rfl) (zCL (pv 0) T.c_World m_World_heights hr))
      (zB (zG (i:=3) ZX.nd rfl (Or.inl rfl) (zU (zAG rfl) (by rfl) T.b_max (by decide +kernel) (zA (pv 2) zC)))
      (zB (zG (i:=4) ZX.nd rfl (Or.inl rfl) (zV f_place_of hr (zA (zF (pv 0) rfl) (zA (q0 PySem.F.plainAttrs_list PySem.F.slot_list_index PySem.F.type_list_index mt_index (pv 2) (zA (pv 3) zC)) zC))))
      (zD (zH (zQ (zA zE (zA (zN zg (pv 4) zE (fun _ _=>rfl)) (zA (zN zg (pv 4) zE (fun _ _=>rfl)) (zA (pv 3) (zA (zU (zBf rfl) (by rfl) T.b_min (by decide +kernel) (zA (pv 2) zC)) zC))))))))))),?_⟩
  refine st0 (σ0:=[some _,some _,none,none,none]) rfl ?_
  try dsimp only[cxOf]
  walk_at "rd"
  refine⟨wd,g,da,ps,kd,ch,cd,s0,rfl,W,fun H1 p W1 e1 hp f1=>?_⟩
  obtain⟨dxw1,hw1'⟩:=W1.ins
  obtain⟨dg1,hg1⟩:=W1.gr.ins
  have lk1:=LK.extG W.gr e1
  generalize Vbwsan.heights s0=hs at e f1 hpos
  have f1':H1 p=some (.lst ((hs.map fun n:Nat=>(n:Int)).map V.int)):=by rw[List.map_map];exact f1
  obtain⟨t1,t2,t3⟩:=topOf_ok hs hs.length
  have t1:=t1 hpos
  generalize topOf hs hs.length=b at e t1 t2 t3
  walk_at "rd"
  refine⟨p,_,rfl,SqL.of f1',by rw[List.length_map];exact hpos,fun m hm hmy=>?_⟩
  have hbm:hs.getD b 0∈hs:=List.mem_of_getElem? (Jc t1)
  obtain rfl:m=(hs.getD b 0:Nat):=by
    have h1:=hmy _ (List.mem_map.mpr ⟨_,hbm,rfl⟩)
    obtain⟨n,hn,rfl⟩:=List.mem_map.mp hm
    obtain⟨i,hi⟩:=List.getElem?_of_mem hn
    have hil:i<hs.length:=(List.getElem?_eq_some_iff.mp hi).1
    have h2:=t2 i hil
    rw[Jc hil] at hi
    have h3:=Option.some.inj hi
    omega
  walk_at "rd"
  refine Zv f1 ?_
  walk_at "rd"
  refine⟨p,natsV hs,_,b,V.int (hs.getD b 0:Nat),rfl,rfl,SqL.of f1,rfl,zAb hs,?_,?_,fun i z hi hz=>?_,?_⟩
  . rw[List.getElem?_map,Jc t1]
    rfl
  . simp[eqV]
  . rw[List.getElem?_map,Jc (by omega)] at hz
    have hz:=Option.some.inj hz
    have:=t3 i hi
    rw[<-hz]
    simp only[eqV]
    exact beq_eq_false_iff_ne.mpr (by omega)
  walk_at "rd"
  refine⟨g,dg1,da,s0.seed,s0.w,s0.d,b,rfl,hg1,hw1,hw2,fun H2 t s2 ht f2=>?_⟩
  walk_at "rd"
  refine⟨p,_,rfl,SqL.of (s2 _ _ f1'),by rw[List.length_map];exact hpos,fun m hm hmy=>?_⟩
  have eml:m=(Vbwsan.leastOf hs:Nat):=by
    obtain⟨n,hn,rfl⟩:=List.mem_map.mp hm
    rw[Gm.J4 hn fun y hy=>by have:=hmy _ (List.mem_map.mpr ⟨y,hy,rfl⟩);omega]
  rw[eml]
  walk_at "rd"
  walk_at "new"
  rename_i q hq H3 f3 s3
  exact zS k e (W1.same (s2.trans s3)) f3 (lk1.trans (.same (s2.trans s3)))
end
end Gs
namespace Gs
open PySem PySem.Spec PyProof.Rows L2
theorem zAq{s:Vbwsan.State}{l:List Int}:(l.all fun k=>Vbwsan.from_ k 0 (((s.w*s.d:Nat):Int) - 1))=true↔∀k∈l,0<=k/\k<((s.w*s.d:Nat):Int):=by
  rw[List.all_eq_true]
  refine forall_congr' fun k=>forall_congr' fun _=>?_
  rw[zp,decide_eq_true_iff]
  omega
theorem st_way_no{s:Vbwsan.State}{l:List Int}(h:¬ (l≠[]/\∀k∈l,0<=k/\k<((s.w*s.d:Nat):Int))):Vbwsan.step s (.way l)=(s,[-1]):=by
  unfold Vbwsan.step
  dsimp only
  rw[if_pos (by
    rw[List.isEmpty_iff,<-Bool.not_eq_true,zAq]
    by_cases c:l=[]
    . exact .inl c
    . exact .inr fun q=>h ⟨c,q⟩)]
  rfl
theorem st_way0{s:Vbwsan.State}{l:List Int}(h:l≠[]/\∀k∈l,0<=k/\k<((s.w*s.d:Nat):Int))(h2:Vbwsan.connected s (l.map Int.toNat)=false):Vbwsan.step s (.way l)=(s,[0,0]):=by
  unfold Vbwsan.step
  dsimp only
  rw[if_neg (by
    rw[List.isEmpty_iff,<-Bool.not_eq_true,zAq]
    exact fun q=>q.elim h.1 fun q=>q h.2),if_pos h2]
  rfl
theorem st_way1{s:Vbwsan.State}{l:List Int}(h:l≠[]/\∀k∈l,0<=k/\k<((s.w*s.d:Nat):Int))(h2:¬ Vbwsan.connected s (l.map Int.toNat)=false):Vbwsan.step s (.way l)=(s,[0,1,(Vbwsan.passOf s (l.map Int.toNat):Int),if ((l.map Int.toNat).getLast?.any (Vbwsan.edge s))=true then 1 else 0]):=by
  unfold Vbwsan.step
  dsimp only
  rw[if_neg (by
    rw[List.isEmpty_iff,<-Bool.not_eq_true,zAq]
    exact fun q=>q.elim h.1 fun q=>q h.2),if_neg h2]
  rfl
theorem at_last{xs:List V}{v:V}(h:xs.getLast?=some v):atI xs (-1)=some v:=by
  rw[List.getLast?_eq_getElem?] at h
  have hl:xs.length - 1<xs.length:=(List.getElem?_eq_some_iff.mp h).1
  unfold atI ixN
  rw[if_neg (by omega),if_pos (by omega)]
  show xs[((xs.length:Int) + -1).toNat]?=some v
  rw[show((xs.length:Int) + -1).toNat=xs.length - 1 by omega]
  exact h
section
variable{P:Program}{w:World}{K:PySem.W.Frag}{mg:Str->Option Value}{base:Heap}{A:Ads}
abbrev s_way_answer:Stmt:=top 105
theorem qN:FnScope ["world","row","number","greatest"] ["world","row"] (defScope s_way_answer):=⟨rfl,rfl,rfl,by decide +kernel,rfl,by decide +kernel,by decide +kernel⟩
theorem ok_way_answer {f : Addr} {fd : FuncData} (F : Fun K "way_answer" "way_answer" s_way_answer f fd) (T : Glb K mg A) (f_cell_count : FnAt P w K mg base 1 "cell_count" ["ground"] (sp_cell_count A))
    (f_is_way:FnAt P w K mg base 3 "is_way" ["ground","row"] (sp_is_way A))
    (m_World_height_of:MtAt P w K mg base 8 A.C_World "height_of" ["self","number"] (sp_height_of A))
    (f_is_edge:FnAt P w K mg base 2 "is_edge" ["ground","number"] (sp_is_edge A)):FnOk P w K mg base CX0 9 f fd ["world","row"] (sp_ans A 16):=by
  refine F.ok qN (fun vs H Q E h=>?_) (fun cdv Ar outer s H vs Q E hr h=>?_)
  . obtain⟨wd,g,da,ps,kd,ch,cd,l,s,nums,c,rfl,_⟩:=h
    rfl
  obtain⟨wd,g,da,ps,kd,ch,cd,l,s0,nums,c,rfl,W,hl,hc,hlen,k⟩:=h
  obtain⟨dxw,hw⟩:=W.ins
  obtain⟨dg,hg⟩:=W.gr.ins
  obtain⟨dpp,hps⟩:=W.pc.ins
  obtain⟨dch,hch⟩:=W.ch.ins
  have hu:=ZB hr
  obtain⟨hw1,hw2,hd1,hd2⟩:=W.gr.le
  obtain rfl:=call16 hc
  have hwd:s0.w*s0.d<=32*32:=zk hw2 hd2
  have no:¬ (nums≠[]/\∀k∈nums,0<=k/\k<((s0.w*s0.d:Nat):Int))->∀H1 p,Same H H1->H1 p=some (.lst [.int (-1)])->Q (.ref p) H1:=fun z H1 p s1 f1=>zS k (st_way_no z) (W.same s1) f1 (.same s1)
  refine⟨_,(zB (zf (zt (Zc z9 z9 zE (zU ZS (by rfl) T.b_len PySem.boot_len (zA (pv 1) zC)) (zM T.g_LONGEST_WAY))) (zD (zH (zQ (zA (zM T.g_NOT_IN_RANGE) zC)))) zP)
      (zB (zf (ju (zn jT (zU (zBf rfl) (by rfl) T.b_min (by decide +kernel) (zA (pv 1) zC)) zE (nomark _)) (Qt (zn zBo (zU (zAG rfl) (by rfl) T.b_max (by decide +kernel) (zA (pv 1) zC)) (zV f_cell_count hr (zA (zF (pv 0) rfl) zC)) (nomark _)))).pt (zD (zH (zQ (zA (zM T.g_NOT_IN_RANGE) zC)))) zP)
      (zB (zf (zt (zm (zV f_is_way hr (zA (zF (pv 0) rfl) (zA (pv 1) zC))))) (zD (zH (zQ (zA zE (zA zE zC))))) zP)
      (zB (zG (i:=3) qN.nd rfl (Or.inl rfl) (zU (zAG rfl) (by rfl) T.b_max (by decide +kernel) (zA (Jw (own:=[("number",2)]) rfl qN.nd (ZL (pv 1)) (qT (by rfl)) (fun _ _ _ _ _=>(zX (i:=2) qN.nd rfl (Or.inl rfl))) (fun _ _ _ _ _=>Qu) (fun _ _ _ _ _=>(zT (pv 0) T.c_World m_World_height_of hr (zA (pv 2) zC)))) zC)))
      (zD (zH (zQ (zA zE (zA zE (zA (pv 3) (zA (Jx (zm (zV f_is_edge hr (zA (zF (pv 0) rfl) (zA (zN zO (pv 1) (zAV j7 zE) (fun _ _=>rfl)) zC)))) zE zE) zC))))))))))),?_⟩
  refine st0 (σ0:=[some _,some _,none,none]) rfl ?_
  try dsimp only[cxOf]
  walk_at "rd"
  refine⟨l,_,rfl,.inl (SqL.of hl),?_⟩
  rw[List.length_map]
  walk_at "rd"
  with_reducible refine zR (fun z1=>?_) (fun z1=>?_)
  rotate_left
  . rw[decide_eq_false_iff_not] at z1
    walk_at "rd"
    walk_at "new"
    exact no (fun q=>q.1 (List.length_eq_zero_iff.mp (by omega))) _ _ (by with_reducible assumption) (by with_reducible assumption)
  rw[decide_eq_true_iff] at z1
  have hpos:0<nums.length:=by omega
  have hne:nums≠[]:=List.length_pos_iff.mp hpos
  walk_at "rd"
  with_reducible refine zR (fun z2=>?_) (fun z2=>?_)
  . rw[Bool.not_eq_true',decide_eq_false_iff_not] at z2
    omega
  walk_at "rd"
  refine⟨l,nums,rfl,SqL.of hl,hpos,fun m hm hmy=>?_⟩
  walk_at "rd"
  with_reducible refine zR (fun z3=>?_) (fun z3=>?_)
  . rw[decide_eq_true_iff] at z3
    walk_at "rd"
    walk_at "new"
    exact no (fun q=>by have:=(q.2 m hm).1;omega) _ _ (by with_reducible assumption) (by with_reducible assumption)
  rw[decide_eq_false_iff_not] at z3
  walk_at "rd"
  refine⟨l,nums,rfl,SqL.of hl,hpos,fun m2 hm2 hmy2=>?_⟩
  walk_at "rd"
  refine⟨g,dg,da,s0.seed,s0.w,s0.d,rfl,hg,hw2,?_⟩
  walk_at "rd"
  with_reducible refine zR (fun z4=>?_) (fun z4=>?_)
  . rw[decide_eq_true_iff] at z4
    walk_at "rd"
    walk_at "new"
    exact no (fun q=>by have:=(q.2 m2 hm2).2;omega) _ _ (by with_reducible assumption) (by with_reducible assumption)
  rw[decide_eq_false_iff_not] at z4
  have hok:nums≠[]/\∀k∈nums,0<=k/\k<((s0.w*s0.d:Nat):Int):=⟨hne,fun k hk=>⟨by have:=hmy k hk;omega,by have:=hmy2 k hk;omega⟩⟩
  have e0:=st_way0 hok
  have e1:=st_way1 hok
  obtain⟨ns,rfl⟩:∃ns:List Nat,nums=ns.map fun n:Nat=>(n:Int):=⟨nums.map Int.toNat,by
    rw[List.map_map]
    refine(List.map_id nums).symm.trans (List.map_congr_left fun k hk=>?_)
    have:=(hok.2 k hk).1
    show k=((k.toNat:Nat):Int)
    omega⟩
  have en:(ns.map fun n:Nat=>(n:Int)).map Int.toNat=ns:=by rw[List.map_map];exact(List.map_congr_left fun k _=>Int.toNat_natCast k).trans (List.map_id ns)
  rw[en] at e0 e1
  have hlt:∀n∈ns,n<s0.w*s0.d:=fun n hn=>by have:=(hok.2 _ (List.mem_map.mpr ⟨n,hn,rfl⟩)).2;omega
  have hl':H l=some (.lst (natsV ns)):=by rw[List.map_map] at hl;exact hl
  rw[List.length_map] at hlen hpos
  have hne':ns≠[]:=List.length_pos_iff.mp hpos
  walk_at "rd"
  refine⟨g,dg,da,l,s0,ns,rfl,hg,W.gr.wd,W.gr.dp,hl',by omega,hlt,fun H1 s1=>?_⟩
  have hw1':=s1 _ _ hw
  have W1:=W.same s1
  walk_at "rd"
  with_reducible refine zR (fun z5=>?_) (fun z5=>?_)
  . rw[Bool.not_eq_true'] at z5
    walk_at "rd"
    walk_at "new"
    rename_i q hq H2 f2 s2
    exact zS k (e0 z5) (W1.same s2) f2 (.same (s1.trans s2))
  rw[Bool.not_eq_false'] at z5
  have e1:=e1 (by rw[z5];exact fun q=>by cases q)
  walk_at "rd"
  refine zq (SqL.of (s1 _ _ hl')) ?_
  refine Qz (xs:=natsV ns) rfl (fun D i H'=>Ext da H1 H'/\WoX A H' wd g da ps kd ch cd s0/\H' D=some (.lst (((ns.take i).map fun n=>((Gm.hgt s0 n:Nat):Int)).map V.int))) fun D hD=>⟨⟨(ZU hD).ext,W1.same (ZU hD),zJ⟩,fun i H' pp=>SqL.of (Ext.at W1.gr pp.1 (s1 _ _ hl') (fun z q=>by cases q)),?_,?_⟩
  . rintro i v H' hv ⟨x2,W2,f2⟩
    obtain⟨n,hnn,rfl⟩:∃n,ns[i]?=some n/\v=V.int (n:Int):=by
      rw[List.getElem?_map] at hv
      obtain⟨n,h1,h2⟩:=Option.map_eq_some_iff.mp hv
      exact⟨n,h1,h2.symm⟩
    obtain⟨dx2,hw2'⟩:=W2.ins
    refine zCc ⟨rfl,?_⟩
    walk_at "rd"
    refine⟨wd,g,da,ps,kd,ch,cd,s0,n,rfl,W2,hlt n (List.mem_of_getElem? hnn),fun H3 W3 x3=>?_⟩
    have f3:=Ext.at W2.gr x3 f2 (fun z q=>by cases q)
    refine qS f3 (by rw[List.length_map,List.length_map,List.length_take];exact small (by omega)) ⟨Zo (x2.trans x3) hD,W3.grow f3,?_⟩
    rw[zJ,zZ hnn,List.map_append,List.map_append]
    rfl
  . rintro H' ⟨x2,W2,f2⟩
    rw[show(natsV ns).length=ns.length from List.length_map _,List.take_length] at f2
    obtain⟨dx2,hw2'⟩:=W2.ins
    obtain⟨dg2,hg2⟩:=W2.gr.ins
    have hl2:=Ext.at W1.gr x2 (s1 _ _ hl') (fun z q=>by cases q)
    have lk2:LK H H':=(LK.same s1).trans (LK.extG W1.gr x2)
    walk_at "rd"
    refine⟨D,_,rfl,SqL.of f2,by rw[List.length_map];exact hpos,fun mm hmm hmy3=>?_⟩
    have emm:mm=(Vbwsan.passOf s0 ns:Nat):=by
      obtain⟨n,hnm,rfl⟩:=List.mem_map.mp hmm
      have e:Vbwsan.passOf s0 ns=Gm.hgt s0 n:=by
        unfold Vbwsan.passOf
        refine Gm.JJ (List.mem_map.mpr ⟨n,hnm,rfl⟩) fun y hy2=>?_
        obtain⟨n2,h1,rfl⟩:=List.mem_map.mp hy2
        have:=hmy3 _ (List.mem_map.mpr ⟨n2,h1,rfl⟩)
        unfold Gm.hgt at this ⊢
        omega
      rw[e]
    rw[emm]
    generalize Vbwsan.passOf s0 ns=pz at e1
    obtain⟨lst,hlast⟩:∃x,ns.getLast?=some x:=⟨_,List.getLast?_eq_some_getLast hne'⟩
    rw[hlast] at e1
    walk_at "rd"
    refine QQ (SqL.of hl2) (at_last (v:=V.int (lst:Int)) (by rw[List.getLast?_map,hlast];rfl)) ?_
    walk_at "rd"
    refine⟨g,dg2,da,s0.seed,s0.w,s0.d,lst,rfl,hg2,hw1,hw2,hd1,fun H3 s3=>?_⟩
    have ee:Vbwsan.edge s0 lst=edgeN s0.w s0.d lst:=rfl
    rw[<-ee]
    have e1':Vbwsan.step s0 (.way (ns.map fun n:Nat=>(n:Int)))=(s0,[0,1,(pz:Int),if Vbwsan.edge s0 lst=true then 1 else 0]):=e1
    walk_at "rd"
    with_reducible refine zR (fun zz=>?_) (fun zz=>?_)
    . rw[zz,if_pos rfl] at e1'
      walk_at "rd"
      walk_at "new"
      rename_i q hq H4 f4 s4
      exact zS k e1' (W2.same (s3.trans s4)) f4 (lk2.trans (.same (s3.trans s4)))
    . rw[zz,if_neg Bool.false_ne_true] at e1'
      walk_at "rd"
      walk_at "new"
      rename_i q hq H4 f4 s4
      exact zS k e1' (W2.same (s3.trans s4)) f4 (lk2.trans (.same (s3.trans s4)))
end
end Gs
namespace Gs
open PySem PySem.Spec PyProof.Rows L2
theorem LK.seq{K:PySem.W.Frag}{H H':Hp}{a:Addr}{xs:List V}(e:LK H H')(h:SqL K H a xs):SqL K H' a xs:=by
  rcases h with (h|⟨o,h⟩)|h
  . exact .inl (.inl (e _ _ h trivial))
  . exact .inl (.inr ⟨o,e _ _ h trivial⟩)
  . exact .inr h
theorem zCX{xs:List Int}{lo m:Nat}{zlo zhi:Int}(e1:zlo=lo)(e2:zhi=(lo+m:Nat))(h:lo+m<=xs.length):cutV (xs.map V.int) (some zlo) (some zhi)=((xs.drop lo).take m).map V.int:=by
  subst e1 e2
  unfold cutV
  rw[HT.sIx_nat,HT.sIx_nat,List.length_map,Nat.min_eq_left h,Nat.min_eq_left (by omega),Nat.add_sub_cancel_left,<-List.map_drop,<-List.map_take]
theorem head_le{s:Vbwsan.State}(c:Vbwsan.Call):∃z r,(Vbwsan.step s c).2=z::r/\z<=0:=by
  have a0:∀{s:Vbwsan.State} {k:Nat},∃z r,(Vbwsan.no s k).2=z::r/\z<=0:=fun {s k}=>⟨_,_,rfl,by omega⟩
  have a1:∀{s:Vbwsan.State} {l:List Int},∃z r,(Vbwsan.yes s l).2=z::r/\z<=0:=fun {s l}=>⟨_,_,rfl,Int.le_refl _⟩
  have a2:∀{p:Prop} [Decidable p] {a b:Vbwsan.State×List Int},(∃z r,a.2=z::r/\z<=0)->(∃z r,b.2=z::r/\z<=0)->∃z r,(if p then a else b).2=z::r/\z<=0:=fun {p _ a b} h1 h2=>by split<;>assumption
  cases c<;>unfold Vbwsan.step<;>dsimp only
  case house x y=>
    refine a2 a0 ?_
    split
    . exact a0
    . exact a1
  case begin_=>exact a2 a0 a1
  case cell=>exact a2 a0 a1
  case piece=>exact a2 a0 a1
  case forget=>exact a2 a0 (a2 a0 a1)
  case kept=>exact a1
  case dig=>exact a2 a0 (a2 a0 (a2 a0 a1))
  case build=>exact a2 a0 (a2 a0 (a2 a0 a1))
  case undo=>exact a2 a0 (a2 a0 a1)
  case changes=>exact a1
  case water=>exact a2 a0 a1
  case springs=>exact a2 a0 a1
  case houses=>exact a2 a0 a1
  case pass=>exact a2 a0 a1
  case raw=>exact a2 a0 a1
  case sum=>exact a1
  case way=>exact a2 a0 (a2 a1 a1)
  case level=>exact a2 a0 (a2 a1 a1)
  case state=>exact a1
  case highest=>exact a1
theorem told_head:∀{done:List (List Int)} {z:Int} {r:List Int},(∀a∈done,0<a.length)->PyFlat.told done=z::r->0<z
  |[],z,r,_,h=>by cases h
  | a :: d, z, r, h, e => by
    unfold PyFlat.told at e
    rw[List.flatMap_cons] at e
    have e1:=(List.cons.inj e).1
    have:=h a List.mem_cons_self
    omega
def defAt(A:Ads):Nat->Addr
  |0=>A.f_begin_answer
  |1=>A.f_cell_answer
  |2=>A.f_piece_answer
  |3=>A.f_forget_answer
  |4=>A.f_kept_answer
  |5=>A.f_dig_answer
  |6=>A.f_build_answer
  |7=>A.f_undo_answer
  |8=>A.f_changes_answer
  |9=>A.f_water_answer
  |10=>A.f_springs_answer
  |11=>A.f_houses_answer
  |12=>A.f_house_answer
  |13=>A.f_pass_answer
  |14=>A.f_raw_answer
  |15=>A.f_sum_answer
  |16=>A.f_way_answer
  |17=>A.f_level_answer
  |18=>A.f_state_answer
  |_=>A.f_highest_answer
def tabAt(A:Ads):Nat->Addr
  |0=>A.t_CALLS_0
  |1=>A.t_CALLS_1
  |2=>A.t_CALLS_2
  |3=>A.t_CALLS_3
  |4=>A.t_CALLS_4
  |5=>A.t_CALLS_5
  |6=>A.t_CALLS_6
  |7=>A.t_CALLS_7
  |8=>A.t_CALLS_8
  |9=>A.t_CALLS_9
  |10=>A.t_CALLS_10
  |11=>A.t_CALLS_11
  |12=>A.t_CALLS_12
  |13=>A.t_CALLS_13
  |14=>A.t_CALLS_14
  |15=>A.t_CALLS_15
  |16=>A.t_CALLS_16
  |17=>A.t_CALLS_17
  |18=>A.t_CALLS_18
  |_=>A.t_CALLS_19
def tabs(A:Ads):List V:=[.ref A.t_CALLS_0,.ref A.t_CALLS_1,.ref A.t_CALLS_2,.ref A.t_CALLS_3,.ref A.t_CALLS_4,.ref A.t_CALLS_5,.ref A.t_CALLS_6,.ref A.t_CALLS_7,.ref A.t_CALLS_8,.ref A.t_CALLS_9,.ref A.t_CALLS_10,.ref A.t_CALLS_11,.ref A.t_CALLS_12,.ref A.t_CALLS_13,.ref A.t_CALLS_14,.ref A.t_CALLS_15,.ref A.t_CALLS_16,.ref A.t_CALLS_17,.ref A.t_CALLS_18,.ref A.t_CALLS_19]
theorem zCF(A:Ads):∀{i:Nat},i<20->(tabs A)[i]?=some (.ref (tabAt A i))
  |0,_=>rfl
  |1,_=>rfl
  |2,_=>rfl
  |3,_=>rfl
  |4,_=>rfl
  |5,_=>rfl
  |6,_=>rfl
  |7,_=>rfl
  |8,_=>rfl
  |9,_=>rfl
  |10,_=>rfl
  |11,_=>rfl
  |12,_=>rfl
  |13,_=>rfl
  |14,_=>rfl
  |15,_=>rfl
  |16,_=>rfl
  |17,_=>rfl
  |18,_=>rfl
  |19,_=>rfl
  |n+20,h=>absurd h (by omega)
theorem zBh{K:PySem.W.Frag}{mg:Str->Option Value}{A:Ads}(T:Glb K mg A)(H:Hp):∀{i:Nat},i<20->SqT K H (tabAt A i) [.ref (defAt A i),.int (ar i:Nat)]
  |0,_=>T.g_CALLS_0 H
  |1,_=>T.g_CALLS_1 H
  |2,_=>T.g_CALLS_2 H
  |3,_=>T.g_CALLS_3 H
  |4,_=>T.g_CALLS_4 H
  |5,_=>T.g_CALLS_5 H
  |6,_=>T.g_CALLS_6 H
  |7,_=>T.g_CALLS_7 H
  |8,_=>T.g_CALLS_8 H
  |9,_=>T.g_CALLS_9 H
  |10,_=>T.g_CALLS_10 H
  |11,_=>T.g_CALLS_11 H
  |12,_=>T.g_CALLS_12 H
  |13,_=>T.g_CALLS_13 H
  |14,_=>T.g_CALLS_14 H
  |15,_=>T.g_CALLS_15 H
  |16,_=>T.g_CALLS_16 H
  |17,_=>T.g_CALLS_17 H
  |18,_=>T.g_CALLS_18 H
  |19,_=>T.g_CALLS_19 H
  |n+20,h=>absurd h (by omega)
def Sans(A:Ads)(f:Addr)(sp:Sp):Prop:=∃i,i<20/\f=defAt A i/\sp=sp_ans A i
section
variable{P:Program}{w:World}{K:PySem.W.Frag}{mg:Str->Option Value}{base:Heap}{A:Ads}
def sp_bounds(K:PySem.W.Frag):Sp:=fun vs H Q _=>∃(a:Addr) (xs:List Int) (n i lo hi:Nat),vs=[.ref a,.int n]/\SqL K H a (xs.map V.int)/\xs[n]?=some (i:Int)/\i<20/\
  ((i≠16/\lo=n+1/\hi=n+1+ar i)\/(i=16/\lo=n+2/\∃m:Nat,xs[n+1]?=some (m:Int)/\hi=n+2+m))/\∀H' p,Same H H'->H' p=some (.tup [.int (lo:Int),.int (hi:Int)])->Q (.ref p) H'
abbrev s_bounds:Stmt:=top 110
theorem sc_bounds:FnScope ["calls","at"] ["calls","at"] (defScope s_bounds):=⟨rfl,rfl,rfl,by decide +kernel,rfl,by decide +kernel,by decide +kernel⟩
theorem ok_bounds {f : Addr} {fd : FuncData} (F : Fun K "bounds" "bounds" s_bounds f fd) (T : Glb K mg A) : FnOk P w K mg base CX0 1 f fd ["calls", "at"] (sp_bounds K) := by
  refine F.ok sc_bounds (fun vs H Q E h=>?_) (fun cdv Ar outer s H vs Q E hr h=>?_)
  . obtain⟨a,xs,n,i,lo,hi,rfl,_⟩:=h
    rfl
  . obtain⟨a,xs,n,i,lo,hi,rfl,hs,hn,hi20,hor,k⟩:=h
    have hat:atI (xs.map V.int) (n:Int)=some (V.int (i:Int)):=j4 (j:=n) rfl (by rw[List.getElem?_map,hn];rfl)
    refine⟨_,(zB (zf (zn zCQ (zN zO (pv 0) (pv 1) (fun _ _=>rfl)) (zM T.g_WAY) (nomark _)) (zD (zH (zu (zA (zK zW (pv 1) zE) (zA (zK zW (zK zW (pv 1) zE) (zN zO (pv 0) (zK zW (pv 1) zE) (fun _ _=>rfl))) zC))))) zP)
      (zD (zH (zu (zA (zK zW (pv 1) zE) (zA (zK zW (zK zW (pv 1) zE) (zN zg (zN zg (JU T.g_CALLS) (zN zO (pv 0) (pv 1) (fun _ _=>rfl)) (fun _ _=>rfl)) zE (fun _ _=>rfl))) zC)))))),?_⟩
    refine st0 (σ0:=[some _,some _]) rfl ?_
    try dsimp only[cxOf]
    walk_at "rd"
    refine QQ hs hat ?_
    walk_at "rd"
    with_reducible refine zR (fun z=>?_) (fun z=>?_)
    . rw[decide_eq_true_iff] at z
      have h16:i=16:=by omega
      rcases hor with⟨c,_⟩|⟨_,rfl,m,hm,rfl⟩
      . exact absurd h16 c
      walk_at "rd"
      refine QQ hs (j4 (j:=n+1) (v:=V.int (m:Int)) (by omega) (by rw[List.getElem?_map,hm];rfl)) ?_
      walk_at "rd"
      walk_at "new"
      rename_i p hp H1 f1 s1
      refine k _ _ s1 ?_
      rw[f1,Int.natCast_add,Int.natCast_add]
      rfl
    . rw[decide_eq_false_iff_not] at z
      have h16:i≠16:=by omega
      rcases hor with⟨_,rfl,rfl⟩|⟨c,_⟩
      . walk_at "rd"
        refine QQ hs hat ?_
        walk_at "rd"
        refine Qr (T.g_CALLS.2 _) (j4 (j:=i) rfl (zCF A hi20)) ?_
        walk_at "rd"
        refine Qr (zBh T _ hi20) rfl ?_
        walk_at "rd"
        walk_at "new"
        rename_i p hp H1 f1 s1
        refine k _ _ s1 ?_
        rw[f1,Int.natCast_add,Int.natCast_add]
        rfl
      . exact absurd c h16
def je(K:PySem.W.Frag):Sp:=fun vs H Q _=>∃(a:Addr) (xs:List Int),vs=[.ref a]/\SqL K H a (xs.map V.int)/\xs.length<=17000/\PyVbwsan.answers_asked xs=true/\∀H' p,H' p=some (.lst ((PyVbwsan.answers xs).map V.int))->Q (.ref p) H'
abbrev s_answers:Stmt:=top 111
theorem Za:FnScope ["calls","world","given","at","replier","ends","answer"] ["calls"] (defScope s_answers):=⟨rfl,rfl,rfl,by decide +kernel,rfl,by decide +kernel,by decide +kernel⟩
theorem ok_answers {f : Addr} {fd : FuncData} (F : Fun K "answers" "answers" s_answers f fd) (T : Glb K mg A) (k_World : MkAt P w K mg base 4 A.C_World "World" ["self"] (sp_World_init A)) (f_bounds : FnAt P w K mg base 1 "bounds" ["calls", "at"] (sp_bounds K))
    (hS:∀f sp,Sans A f sp->FnHas P w K mg base 15 f sp):FnOk P w K mg base CX0 16 f fd ["calls"] (je K):=by
  refine F.ok Za (fun vs H Q E h=>?_) (fun cdv Ar outer s H vs Q E hr h=>?_)
  . obtain⟨a,xs,rfl,_⟩:=h
    rfl
  . obtain ⟨a, xs, rfl, hs, hlen, hask, k⟩ := h
    unfold PyVbwsan.answers_asked at hask
    unfold PyVbwsan.answers at k
    cases hcs:PyVbwsan.calls xs with
    |none=>rw[hcs] at hask;cases hask
    |some cs=>
    rw[hcs] at hask k
    dsimp only at hask k
    have hcs:=calls_some hcs
    rw[Bool.and_eq_true] at hask
    have hmost:cs.length<=100:=of_decide_eq_true hask.1
    have hone:cs.all VbwsanNeutral.asked1=true:=(Bool.and_eq_true _ _▸hask.2:_/\_).1
    clear hask
    refine⟨_,(zB (zG (i:=1) Za.nd rfl (Or.inl rfl) (zCM k_World hr))
      (zB (zG (i:=2) Za.nd rfl (Or.inl rfl) (zQ zC))
      (zB (zG (i:=3) Za.nd rfl (Or.inl rfl) zE)
      (zB (Ju PassesOwn.never (zn jT (pv 3) (zU ZS (by rfl) T.b_len PySem.boot_len (zA (pv 0) zC)) (nomark _)) (zB (zG (i:=4) Za.nd rfl (Or.inl rfl) (zN zg (zN zg (JU T.g_CALLS) (zN zO (pv 0) (pv 3) (fun _ _=>rfl)) (fun _ _=>rfl)) zE (fun _ _=>rfl)))
      (zB (zG (i:=5) Za.nd rfl (Or.inl rfl) (zV f_bounds hr (zA (pv 0) (zA (pv 3) zC))))
      (zB (zG (i:=6) Za.nd rfl (Or.inl rfl) (pe_cv (pv 4) (Sans A) hS hr (zA (pv 1) (zA (pe_slice sl_list (pv 0) (zBk (zN zg (pv 5) zE (fun _ _=>rfl))) (zBk (zN zg (pv 5) zE (fun _ _=>rfl)))) zC))))
      (zB (zo (q0 PySem.F.plainAttrs_list PySem.F.slot_list_append PySem.F.type_list_append qJ (pv 2) (zA (zU ZS (by rfl) T.b_len PySem.boot_len (zA (pv 6) zC)) zC)))
      (zB (zo (q0 PySem.F.plainAttrs_list PySem.F.slot_list_extend PySem.F.type_list_extend qk (pv 2) (zA (pv 6) zC)))
      (zD (zG (i:=3) Za.nd rfl (Or.inl rfl) (zN zg (pv 5) zE (fun _ _=>rfl))))))))))
      (zD (zH (pv 2))))))),?_⟩
    refine st0 (σ0:=[some _,none,none,none,none,none,none]) rfl ?_
    try dsimp only[cxOf]
    walk_at "rd"
    intro wd dxw nx ndx ndw
    refine⟨wd,dxw,rfl,zJ,fun H1 g da ps kd ch cd W1 e1=>⟨rfl,?_⟩⟩
    have s1:Same H H1:=Same.make nx ndx e1
    walk_at "rd"
    walk_at "new"
    rename_i p hp H2 f2 s2
    have hs2:=(s1.trans s2).seq hs
    have W2:=W1.same s2
    walk_at "rd"
    let μ:L2.St->Hp->Nat:=fun σ _=>match σ.getD 3 none with|some (.int z)=>xs.length+1 - z.toNat|_=>0
    refine Ji (fun σ H'=>∃(n fu:Nat) (s:Vbwsan.State) (g da ps kd ch cd:Addr) (done:List (List Int)) (cl:List (List (List Int))) (v4 v5 v6:Option V),σ=[some (.ref a),some (.ref wd),some (.ref p),some (.int (n:Int)),v4,v5,v6]/\n<=xs.length/\WoX A H' wd g da ps kd ch cd s/\LK H H'/\
        H' p=some (.lst ((PyFlat.told done).map V.int))/\PyFlat.calls PyVbwsan.shape fu (xs.drop n)=some cl/\cl.all VbwsanNeutral.asked1=true/\(∀a∈done,0<a.length)/\(PyFlat.told done).length<=1101*done.length/\done.length+cl.length<=100/\
        done++PyFlat.played VbwsanNeutral.step s cl=PyFlat.played VbwsanNeutral.step VbwsanNeutral.start cs) μ
      ⟨0,xs.length,Vbwsan.start,g,da,ps,kd,ch,cd,[],cs,none,none,none,rfl,Nat.zero_le _,W2,.same (s1.trans s2),f2,hcs,hone,fun a ha=>(List.not_mem_nil ha).elim,Nat.zero_le _,by simpa using hmost,rfl⟩ ?_ ?_
    . rintro σ H3 ⟨n,fu,s0,g,da,ps,kd,ch,cd,done,cl,v4,v5,v6,rfl,hn,W3,lk3,p3,hcl,hall,hdn,hln,hcnt,hpl⟩
      have hs3:=lk3.seq hs
      walk_at "rd"
      refine⟨a,_,rfl,.inl hs3,?_⟩
      rw[List.length_map]
      walk_at "rd"
      with_reducible refine zR (fun hc=>?_) (fun hc=>?_)
      . rw[decide_eq_true_iff] at hc
        have hc':n<xs.length:=by omega
        have hdrop:xs.drop n=xs[n]::xs.drop (n+1):=List.drop_eq_getElem_cons hc'
        rw[hdrop] at hcl
        obtain⟨fu',c,t,cl',hcall,hcl',rfl⟩:=calls_cons hcl
        obtain⟨i,nums,cc,hi20,hpi,hcN,hcO,hor⟩:=call_dec hcall
        have hni:xs[n]?=some (i:Int):=by rw[List.getElem?_eq_getElem hc',hpi]
        have hat:atI (xs.map V.int) (n:Int)=some (V.int (i:Int)):=j4 (j:=n) rfl (by rw[List.getElem?_map,hni];rfl)
        rw[List.all_cons,Bool.and_eq_true] at hall
        obtain⟨hall1,hall⟩:=hall
        obtain⟨lo,hi,hb,hlohi,hcut,hrest,hn200,hhl⟩:∃lo hi:Nat,((i≠16/\lo=n+1/\hi=n+1+ar i)\/(i=16/\lo=n+2/\∃m:Nat,xs[n+1]?=some (m:Int)/\hi=n+2+m))/\(n<hi/\hi<=xs.length)/\cutV (xs.map V.int) (some (lo:Int)) (some (hi:Int))=nums.map V.int/\t=xs.drop hi/\nums.length<=200/\True:=by
          rcases hor with⟨h16,hle,rfl,rfl⟩|⟨h16,hceq,m,r',hr',hle,rfl,rfl⟩
          . rw[List.length_drop] at hle
            have har:=ar_le i
            refine⟨n+1,n+1+ar i,.inl ⟨h16,rfl,rfl⟩,⟨by omega,by omega⟩,zCX rfl rfl (by omega),by rw[List.drop_drop],by rw[List.length_take];omega,trivial⟩
          . have hl1:=congrArg List.length hr'
            rw[List.length_drop,List.length_cons] at hl1
            have hn1:n+1<xs.length:=by omega
            have hr2:=hr'
            rw[List.drop_eq_getElem_cons hn1] at hr2
            obtain⟨z1,z2⟩:=List.cons.inj hr2
            have hm1:xs[n+1]?=some (m:Int):=by rw[List.getElem?_eq_getElem hn1,z1]
            refine⟨n+2,n+2+m,.inr ⟨h16,rfl,m,hm1,rfl⟩,⟨by omega,by omega⟩,?_,?_,?_,trivial⟩
            . rw[<-z2];exact zCX rfl rfl (by omega)
            . rw[<-z2,List.drop_drop]
            . rw[hceq] at hall1
              have:(decide ((r'.take m).length<=200)&&(r'.take m).all fun z=>VbwsanNeutral.whole60 z)=true:=hall1
              rw[Bool.and_eq_true] at this
              exact of_decide_eq_true this.1
        walk_at "rd"
        refine QQ hs3 hat ?_
        walk_at "rd"
        refine Qr (T.g_CALLS.2 _) (j4 (j:=i) rfl (zCF A hi20)) ?_
        walk_at "rd"
        refine Qr (zBh T _ hi20) rfl ?_
        walk_at "rd"
        refine⟨a,xs,n,i,lo,hi,rfl,hs3,hni,hi20,hb,fun H4 te s4 f4=>?_⟩
        have hs4:=s4.seq hs3
        walk_at "rd"
        refine rd_cv1 ⟨i,hi20,rfl,rfl⟩ ?_
        walk_at "rd"
        refine⟨a,_,rfl,hs4,?_⟩
        intro q hq
        apply Ze hq
        intro H5 z5 f5 s5
        rw[z5]
        clear z5
        rw[hcut] at f5
        walk_at "rd"
        have lk5:LK H3 H5:=(LK.same s4).trans (.same s5)
        refine⟨wd,g,da,ps,kd,ch,cd,q,s0,nums,cc,rfl,(W3.same s4).same s5,f5,hcN,hn200,fun H6 r g6 da6 ps6 kd6 ch6 cd6 W6 f6 lk6=>?_⟩
        have lk36:=lk5.trans lk6
        have hsl:=step_len (zk W3.gr.le.2.1 W3.gr.le.2.2.2) (Nat.le_trans W3.pc.len W3.cap.2) W3.ch.ok.len cc
        obtain⟨hz,ht,hzt,hz0⟩:=head_le (s:=s0) cc
        have hstep:VbwsanNeutral.step s0 c=Vbwsan.step s0 cc:=by unfold VbwsanNeutral.step;rw[hcO]
        rw[PyFlat.played,hstep] at hpl
        generalize Vbwsan.step s0 cc=sc at W6 f6 hsl hzt hpl
        obtain⟨s1',an⟩:=sc
        dsimp only at W6 f6 hsl hzt hpl
        have p6:=lk36 _ _ p3 trivial
        have t6:=(LK.same s5).trans lk6 _ _ f4 trivial
        have nrp:r≠p:=fun z=>by
          rw[z,p6] at f6
          have e0:=congrArg (fun l=>l.map fun v=>match v with|V.int z=>z|_=>0) (HO.lst.inj (Option.some.inj f6))
          simp only[List.map_map] at e0
          have e1:PyFlat.told done=an:=by simpa [Function.comp_def] using e0
          rw[hzt] at e1
          have:=told_head hdn e1
          omega
        walk_at "rd"
        refine Zv p6 ?_
        walk_at "rd"
        refine⟨r,_,rfl,.inl (SqL.of f6),?_⟩
        walk_at "rd"
        rw[List.length_map]
        rw[List.length_cons] at hcnt
        refine qI p6 (by rw[List.length_map];exact small (by omega)) ?_
        have W7:=W6.grow (o:=.lst ((PyFlat.told done).map V.int++[V.int (an.length:Nat)])) p6
        have f7:upd H6 p (.lst ((PyFlat.told done).map V.int++[V.int (an.length:Nat)])) r=some (.lst (an.map V.int)):=by rw[zI nrp];exact f6
        have t7:upd H6 p (.lst ((PyFlat.told done).map V.int++[V.int (an.length:Nat)])) te=some (.tup [.int (lo:Int),.int (hi:Int)]):=by rw[zI (za t6 p6 (by intro z;cases z))];exact t6
        have lk7:LK H (upd H6 p (.lst ((PyFlat.told done).map V.int++[V.int (an.length:Nat)]))):=(lk3.trans lk36).grow (s1.free hp)
        have p7:upd H6 p (.lst ((PyFlat.told done).map V.int++[V.int (an.length:Nat)])) p=some (.lst ((PyFlat.told done).map V.int++[V.int (an.length:Nat)])):=zJ
        generalize upd H6 p (.lst ((PyFlat.told done).map V.int++[V.int (an.length:Nat)]))=H7 at W7 f7 t7 lk7 p7
        walk_at "rd"
        refine Zv p7 ?_
        walk_at "rd"
        refine qj p7 f7 (by rw[List.length_append,List.length_map,List.length_map,List.length_singleton];exact Nat.le_of_lt (small (by omega))) ?_
        have W8:=W7.grow (o:=.lst ((PyFlat.told done).map V.int++[V.int (an.length:Nat)]++an.map V.int)) p7
        have t8:upd H7 p (.lst ((PyFlat.told done).map V.int++[V.int (an.length:Nat)]++an.map V.int)) te=some (.tup [.int (lo:Int),.int (hi:Int)]):=by rw[zI (za t7 p7 (by intro z;cases z))];exact t7
        have lk8:LK H (upd H7 p (.lst ((PyFlat.told done).map V.int++[V.int (an.length:Nat)]++an.map V.int))):=lk7.grow (s1.free hp)
        have p8:upd H7 p (.lst ((PyFlat.told done).map V.int++[V.int (an.length:Nat)]++an.map V.int)) p=some (.lst ((PyFlat.told (done++[an])).map V.int)):=by
          rw[zJ,zAN,List.map_append,List.map_append]
          rfl
        generalize upd H7 p (.lst ((PyFlat.told done).map V.int++[V.int (an.length:Nat)]++an.map V.int))=H8 at W8 t8 lk8 p8
        walk_at "rd"
        refine⟨⟨hi,fu',s1',g6,da6,ps6,kd6,ch6,cd6,done++[an],cl',_,_,_,rfl,hlohi.2,W8,lk8,p8,by rw[<-hrest];exact hcl',hall,?_,?_,?_,?_⟩,?_⟩
        . intro b hb
          rcases List.mem_append.mp hb with hb|hb
          . exact hdn b hb
          . rw[List.mem_singleton.mp hb,hzt]
            exact Nat.succ_pos _
        . rw[zAN,List.length_append,List.length_append,List.length_append,List.length_singleton,List.length_singleton]
          omega
        . rw[List.length_append,List.length_singleton]
          omega
        . rw[<-hpl,List.append_assoc]
          rfl
        . show xs.length+1 - ((hi:Int)).toNat<xs.length+1 - ((n:Int)).toNat
          have z1:((hi:Int)).toNat=hi:=Int.toNat_natCast hi
          have z2:((n:Int)).toNat=n:=Int.toNat_natCast n
          rw[z1,z2]
          have:=hlohi.1
          omega
      . rw[decide_eq_false_iff_not] at hc
        have hne:n=xs.length:=by omega
        walk_at "rd"
        subst hne
        rw[List.drop_length] at hcl
        obtain rfl:=zAj hcl
        refine k _ _ ?_
        rw[<-hpl,PyFlat.played,List.append_nil]
        exact p3
    . rintro σ H' R R' hRR ⟨v,e1,v',e2,pp,ys,h1,h2,i,j,h3,h4,b,h5,h6⟩
      exact⟨v,e1,v',e2,pp,ys,h1,h2,i,j,h3,h4,b,h5,hRR _ _ h6⟩
end
end Gs
namespace Gs
open PySem PySem.Spec PyProof.Rows L2
def DefIn(K:PySem.W.Frag)(x:Str)(st:Stmt):Prop:=∃f fd,PySem.W.nsIn K mainGlobals x=some (some (.ref f))/\Fun K x x st f fd
def AnsIn(K:PySem.W.Frag)(x:Str)(st:Stmt)(f:Addr):Prop:=∃fd,Fun K x x st f fd
def MthIn(K:PySem.W.Frag)(C:Addr)(m qual:Str)(st:Stmt):Prop:=∃f fd,PySem.W.findIn K (.ref C) m=some (some (.ref f))/\PySem.W.isFn K (.ref f)=true/\Fun K m qual st f fd
def TupIn(K:PySem.W.Frag)(a:Addr)(xs:List V):Prop:=∃(o:Obj) (its:Array Value) (n:Nat),K.lookup a=some o/\o.cls=.type "tuple"/\o.data=.seq its n/\its.size<=sizeLine/\Vals xs its.toList
def IntIn(K:PySem.W.Frag)(x:Str)(c:Int):Prop:=∃t,PySem.W.nsIn K mainGlobals x=some (some (.int c t))
section
variable{K:PySem.W.Frag}{x m qual:Str}{st:Stmt}{f C a:Addr}{oc:Value}{od an:Option Addr}{osl:Array (Option Value)}{kV doc pm cdv ct:Value}
theorem def_in(e:PySem.W.nsIn K mainGlobals x=some (some (.ref f)))(l:K.lookup f=some ⟨oc,od,.func (PySem.W.fnOf x x (defArgs st) (defBody st) (defScope st) .none kV doc pm an cdv ct),osl⟩)(c:PySem.W.codeIn K cdv x=true)(k:PySem.W.keepIn K (.ref f)=true):DefIn K x st:=⟨f,_,e,zBe l c k⟩
theorem ans_in(l:K.lookup f=some ⟨oc,od,.func (PySem.W.fnOf x x (defArgs st) (defBody st) (defScope st) .none kV doc pm an cdv ct),osl⟩)(c:PySem.W.codeIn K cdv x=true)(k:PySem.W.keepIn K (.ref f)=true):AnsIn K x st f:=⟨_,zBe l c k⟩
theorem mth_in(e:PySem.W.findIn K (.ref C) m=some (some (.ref f)))(i:PySem.W.isFn K (.ref f)=true)(l:K.lookup f=some ⟨oc,od,.func (PySem.W.fnOf m qual (defArgs st) (defBody st) (defScope st) .none kV doc pm an cdv ct),osl⟩)(c:PySem.W.codeIn K cdv qual=true)(k:PySem.W.keepIn K (.ref f)=true):MthIn K C m qual st:=⟨f,_,e,i,zBe l c k⟩
theorem tup_in{xs:List V}{its:Array Value}{n:Nat}(l:K.lookup a=some ⟨.type "tuple",od,.seq its n,osl⟩)(h:its.size<=sizeLine)(v:Vals xs its.toList):TupIn K a xs:=⟨_,its,n,l,rfl,rfl,h,v⟩
theorem int_in{c:Int}{t:Tok}(e:PySem.W.nsIn K mainGlobals x=some (some (.int c t))):IntIn K x c:=⟨t,e⟩
end
theorem l1{us:List Value}(h:us.length=1):∃a,us=[a]:=match us,h with | [a],_=>⟨a,rfl⟩
theorem l2{us:List Value}(h:us.length=2):∃a b,us=[a,b]:=match us,h with | [a,b],_=>⟨a,b,rfl⟩
theorem l3{us:List Value}(h:us.length=3):∃a b c,us=[a,b,c]:=match us,h with | [a,b,c],_=>⟨a,b,c,rfl⟩
theorem l4{us:List Value}(h:us.length=4):∃a b c d,us=[a,b,c,d]:=match us,h with | [a,b,c,d],_=>⟨a,b,c,d,rfl⟩
theorem l5{us:List Value}(h:us.length=5):∃a b c d e,us=[a,b,c,d,e]:=match us,h with | [a,b,c,d,e],_=>⟨a,b,c,d,e,rfl⟩
theorem l6{us:List Value}(h:us.length=6):∃a b c d e f,us=[a,b,c,d,e,f]:=match us,h with | [a,b,c,d,e,f],_=>⟨a,b,c,d,e,f,rfl⟩
theorem l7{us:List Value}(h:us.length=7):∃a b c d e f g,us=[a,b,c,d,e,f,g]:=match us,h with | [a,b,c,d,e,f,g],_=>⟨a,b,c,d,e,f,g,rfl⟩
structure Top(K:PySem.W.Frag)(A:Ads):Prop where
  g_CANDIDATE_PURPOSE:IntIn K "CANDIDATE_PURPOSE" 5
  g_WIDTH_PURPOSE:IntIn K "WIDTH_PURPOSE" 6
  g_DEPTH_PURPOSE:IntIn K "DEPTH_PURPOSE" 7
  g_RANK_PURPOSE:IntIn K "RANK_PURPOSE" 8
  g_ONE_IN_houses:IntIn K "ONE_IN_houses" 12
  g_LEAST_SIDE:IntIn K "LEAST_SIDE" 2
  g_GREATEST_SIDE:IntIn K "GREATEST_SIDE" 4
  g_FLAT_WITHIN:IntIn K "FLAT_WITHIN" 300
  g_PIECE_SIDE:IntIn K "PIECE_SIDE" 8
  g_ROCK_FROM:IntIn K "ROCK_FROM" 2300
  g_WOOD_FROM:IntIn K "WOOD_FROM" 600
  g_PLAIN:IntIn K "PLAIN" 0
  g_ROCK:IntIn K "ROCK" 1
  g_WOOD:IntIn K "WOOD" 2
  g_HOUSE:IntIn K "HOUSE" 3
  g_SPRING_PURPOSE:IntIn K "SPRING_PURPOSE" 9
  g_ONE_IN_springs:IntIn K "ONE_IN_springs" 24
  g_SPRING_FROM:IntIn K "SPRING_FROM" 1400
  g_MOST_CHANGED:IntIn K "MOST_CHANGED" 60
  g_P:IntIn K "P" 2147483647
  g_WOOD_PURPOSE:IntIn K "WOOD_PURPOSE" 4
  g_WOOD_WIDE:IntIn K "WOOD_WIDE" 4
  g_WOOD_HIGH:IntIn K "WOOD_HIGH" 1000
  g_LOWEST:IntIn K "LOWEST" 0
  g_HIGHEST:IntIn K "HIGHEST" 9999
  g_FIRST_SUM:IntIn K "FIRST_SUM" 7
  g_NOT_IN_RANGE:IntIn K "NOT_IN_RANGE" (-1)
  g_CANNOT_BE:IntIn K "CANNOT_BE" (-3)
  g_THERE_IS_NONE:IntIn K "THERE_IS_NONE" (-4)
  g_NO_PLACE:IntIn K "NO_PLACE" (-5)
  g_GREATEST_SEED:IntIn K "GREATEST_SEED" 1000000000
  g_MOST_KEPT:IntIn K "MOST_KEPT" 8
  g_MOST_DUG:IntIn K "MOST_DUG" 500
  g_GREATEST_CHANGE:IntIn K "GREATEST_CHANGE" 9999
  g_LEAST_BUILT:IntIn K "LEAST_BUILT" 4
  g_GREATEST_BUILT:IntIn K "GREATEST_BUILT" 9
  g_GREATEST_PURPOSE:IntIn K "GREATEST_PURPOSE" 9
  g_GREATEST_RAW_PLACE:IntIn K "GREATEST_RAW_PLACE" 100
  g_LONGEST_WAY:IntIn K "LONGEST_WAY" 200
  g_WAY:IntIn K "WAY" 16
  e_NO_CHANGE:PySem.W.nsIn K mainGlobals "NO_CHANGE"=some (some (.ref A.t_NO_CHANGE))
  t_NO_CHANGE:TupIn K A.t_NO_CHANGE [.int 0,.int 0]
  e_HEIGHT_LAYERS:PySem.W.nsIn K mainGlobals "HEIGHT_LAYERS"=some (some (.ref A.t_HEIGHT_LAYERS))
  t_HEIGHT_LAYERS:TupIn K A.t_HEIGHT_LAYERS [.ref A.t_HEIGHT_LAYERS_0,.ref A.t_HEIGHT_LAYERS_1,.ref A.t_HEIGHT_LAYERS_2]
  e_SIDES:PySem.W.nsIn K mainGlobals "SIDES"=some (some (.ref A.t_SIDES))
  t_SIDES:TupIn K A.t_SIDES [.int 8,.int 16,.int 24,.int 32]
  e_CALLS:PySem.W.nsIn K mainGlobals "CALLS"=some (some (.ref A.t_CALLS))
  t_CALLS:TupIn K A.t_CALLS [.ref A.t_CALLS_0,.ref A.t_CALLS_1,.ref A.t_CALLS_2,.ref A.t_CALLS_3,.ref A.t_CALLS_4,.ref A.t_CALLS_5,.ref A.t_CALLS_6,.ref A.t_CALLS_7,.ref A.t_CALLS_8,.ref A.t_CALLS_9,.ref A.t_CALLS_10,.ref A.t_CALLS_11,.ref A.t_CALLS_12,.ref A.t_CALLS_13,.ref A.t_CALLS_14,.ref A.t_CALLS_15,.ref A.t_CALLS_16,.ref A.t_CALLS_17,.ref A.t_CALLS_18,.ref A.t_CALLS_19]
  t_HEIGHT_LAYERS_0:TupIn K A.t_HEIGHT_LAYERS_0 [.int 1,.int 16,.int 2000]
  t_HEIGHT_LAYERS_1:TupIn K A.t_HEIGHT_LAYERS_1 [.int 2,.int 8,.int 1000]
  t_HEIGHT_LAYERS_2:TupIn K A.t_HEIGHT_LAYERS_2 [.int 3,.int 4,.int 500]
  t_CALLS_0:TupIn K A.t_CALLS_0 [.ref A.f_begin_answer,.int 4]
  t_CALLS_1:TupIn K A.t_CALLS_1 [.ref A.f_cell_answer,.int 2]
  t_CALLS_2:TupIn K A.t_CALLS_2 [.ref A.f_piece_answer,.int 2]
  t_CALLS_3:TupIn K A.t_CALLS_3 [.ref A.f_forget_answer,.int 2]
  t_CALLS_4:TupIn K A.t_CALLS_4 [.ref A.f_kept_answer,.int 0]
  t_CALLS_5:TupIn K A.t_CALLS_5 [.ref A.f_dig_answer,.int 3]
  t_CALLS_6:TupIn K A.t_CALLS_6 [.ref A.f_build_answer,.int 3]
  t_CALLS_7:TupIn K A.t_CALLS_7 [.ref A.f_undo_answer,.int 2]
  t_CALLS_8:TupIn K A.t_CALLS_8 [.ref A.f_changes_answer,.int 0]
  t_CALLS_9:TupIn K A.t_CALLS_9 [.ref A.f_water_answer,.int 2]
  t_CALLS_10:TupIn K A.t_CALLS_10 [.ref A.f_springs_answer,.int 2]
  t_CALLS_11:TupIn K A.t_CALLS_11 [.ref A.f_houses_answer,.int 2]
  t_CALLS_12:TupIn K A.t_CALLS_12 [.ref A.f_house_answer,.int 2]
  t_CALLS_13:TupIn K A.t_CALLS_13 [.ref A.f_pass_answer,.int 4]
  t_CALLS_14:TupIn K A.t_CALLS_14 [.ref A.f_raw_answer,.int 3]
  t_CALLS_15:TupIn K A.t_CALLS_15 [.ref A.f_sum_answer,.int 0]
  t_CALLS_16:TupIn K A.t_CALLS_16 [.ref A.f_way_answer,.int 0]
  t_CALLS_17:TupIn K A.t_CALLS_17 [.ref A.f_level_answer,.int 3]
  t_CALLS_18:TupIn K A.t_CALLS_18 [.ref A.f_state_answer,.int 0]
  t_CALLS_19:TupIn K A.t_CALLS_19 [.ref A.f_highest_answer,.int 0]
  b_len:PySem.W.nsIn K mainGlobals "len"=some none
  b_range:PySem.W.nsIn K mainGlobals "range"=some none
  b_max:PySem.W.nsIn K mainGlobals "max"=some none
  b_min:PySem.W.nsIn K mainGlobals "min"=some none
  b_abs:PySem.W.nsIn K mainGlobals "abs"=some none
  b_any:PySem.W.nsIn K mainGlobals "any"=some none
  b_list:PySem.W.nsIn K mainGlobals "list"=some none
  pg_House:PySem.W.plainGet K A.C_House Str.empty=true
  hd_House:PySem.W.hasDictIn K A.C_House=true
  po_House:PySem.W.plainOver K A.C_House=true
  sa_House:PySem.W.findIn K (.ref A.C_House) "__setattr__"=some (some (.builtin "object.__setattr__"))
  mk_House:PySem.W.makesIn K A.C_House=true
  kc_House:PySem.W.keepIn K (.ref A.C_House)=true
  ec_House:PySem.W.nsIn K mainGlobals "House"=some (some (.ref A.C_House))
  pg_Pieces:PySem.W.plainGet K A.C_Pieces Str.empty=true
  hd_Pieces:PySem.W.hasDictIn K A.C_Pieces=true
  po_Pieces:PySem.W.plainOver K A.C_Pieces=true
  sa_Pieces:PySem.W.findIn K (.ref A.C_Pieces) "__setattr__"=some (some (.builtin "object.__setattr__"))
  mk_Pieces:PySem.W.makesIn K A.C_Pieces=true
  kc_Pieces:PySem.W.keepIn K (.ref A.C_Pieces)=true
  ec_Pieces:PySem.W.nsIn K mainGlobals "Pieces"=some (some (.ref A.C_Pieces))
  pg_Changes:PySem.W.plainGet K A.C_Changes Str.empty=true
  hd_Changes:PySem.W.hasDictIn K A.C_Changes=true
  po_Changes:PySem.W.plainOver K A.C_Changes=true
  sa_Changes:PySem.W.findIn K (.ref A.C_Changes) "__setattr__"=some (some (.builtin "object.__setattr__"))
  mk_Changes:PySem.W.makesIn K A.C_Changes=true
  kc_Changes:PySem.W.keepIn K (.ref A.C_Changes)=true
  ec_Changes:PySem.W.nsIn K mainGlobals "Changes"=some (some (.ref A.C_Changes))
  pg_Ground:PySem.W.plainGet K A.C_Ground Str.empty=true
  hd_Ground:PySem.W.hasDictIn K A.C_Ground=true
  po_Ground:PySem.W.plainOver K A.C_Ground=true
  sa_Ground:PySem.W.findIn K (.ref A.C_Ground) "__setattr__"=some (some (.builtin "object.__setattr__"))
  mk_Ground:PySem.W.makesIn K A.C_Ground=true
  kc_Ground:PySem.W.keepIn K (.ref A.C_Ground)=true
  ec_Ground:PySem.W.nsIn K mainGlobals "Ground"=some (some (.ref A.C_Ground))
  pg_World:PySem.W.plainGet K A.C_World Str.empty=true
  hd_World:PySem.W.hasDictIn K A.C_World=true
  po_World:PySem.W.plainOver K A.C_World=true
  sa_World:PySem.W.findIn K (.ref A.C_World) "__setattr__"=some (some (.builtin "object.__setattr__"))
  mk_World:PySem.W.makesIn K A.C_World=true
  kc_World:PySem.W.keepIn K (.ref A.C_World)=true
  ec_World:PySem.W.nsIn K mainGlobals "World"=some (some (.ref A.C_World))
  n_House_x:PySem.W.findIn K (.ref A.C_House) "x"=some none
  n_House_y:PySem.W.findIn K (.ref A.C_House) "y"=some none
  n_House_width:PySem.W.findIn K (.ref A.C_House) "width"=some none
  n_House_depth:PySem.W.findIn K (.ref A.C_House) "depth"=some none
  n_House_rank:PySem.W.findIn K (.ref A.C_House) "rank"=some none
  n_Pieces_ground:PySem.W.findIn K (.ref A.C_Pieces) "ground"=some none
  n_Pieces_room:PySem.W.findIn K (.ref A.C_Pieces) "room"=some none
  n_Pieces_made_count:PySem.W.findIn K (.ref A.C_Pieces) "made_count"=some none
  n_Pieces_kept:PySem.W.findIn K (.ref A.C_Pieces) "kept"=some none
  n_Changes_cells:PySem.W.findIn K (.ref A.C_Changes) "cells"=some none
  n_Ground_seed:PySem.W.findIn K (.ref A.C_Ground) "seed"=some none
  n_Ground_width:PySem.W.findIn K (.ref A.C_Ground) "width"=some none
  n_Ground_depth:PySem.W.findIn K (.ref A.C_Ground) "depth"=some none
  n_Ground_corners:PySem.W.findIn K (.ref A.C_Ground) "corners"=some none
  n_World_ground:PySem.W.findIn K (.ref A.C_World) "ground"=some none
  n_World_pieces:PySem.W.findIn K (.ref A.C_World) "pieces"=some none
  n_World_changes:PySem.W.findIn K (.ref A.C_World) "changes"=some none
  d_stirred:DefIn K "stirred" JC
  d_raw_number:DefIn K "raw_number" Qk
  d_Pieces___init__:MthIn K A.C_Pieces "__init__" "Pieces.__init__" Z5
  d_Pieces_has_piece:MthIn K A.C_Pieces "has_piece" "Pieces.has_piece" Zs
  d_Pieces_is_kept:MthIn K A.C_Pieces "is_kept" "Pieces.is_kept" qF
  d_Pieces_look:MthIn K A.C_Pieces "look" "Pieces.look" s_Pieces_look
  d_Pieces_forget:MthIn K A.C_Pieces "forget" "Pieces.forget" qe
  d_World_raised:MthIn K A.C_World "raised" "World.raised" qx
  d_World_height_now:MthIn K A.C_World "height_now" "World.height_now" Zr
  d_World_height_of:MthIn K A.C_World "height_of" "World.height_of" Z4
  d_World_heights:MthIn K A.C_World "heights" "World.heights" qd
  d_World_cell_now:MthIn K A.C_World "cell_now" "World.cell_now" s_World_cell_now
  d_World_sum_now:MthIn K A.C_World "sum_now" "World.sum_now" s_World_sum_now
  d_World_begin:MthIn K A.C_World "begin" "World.begin" s_World_begin
  d_World___init__:MthIn K A.C_World "__init__" "World.__init__" qE
  d_shore_cell:DefIn K "shore_cell" Qj
  d_wet_cells:DefIn K "wet_cells" s_wet_cells
  d_pass_of:DefIn K "pass_of" s_pass_of
  d_is_way:DefIn K "is_way" s_is_way
  d_cells_in_reach:DefIn K "cells_in_reach" s_cells_in_reach
  d_Ground___init__:MthIn K A.C_Ground "__init__" "Ground.__init__" Z7
  d_Ground_has_cell:MthIn K A.C_Ground "has_cell" "Ground.has_cell" s_Ground_has_cell
  d_Ground_raw:MthIn K A.C_Ground "raw" "Ground.raw" Qq
  d_Ground_corner:MthIn K A.C_Ground "corner" "Ground.corner" s_Ground_corner
  d_Ground_layer_at:MthIn K A.C_Ground "layer_at" "Ground.layer_at" Z6
  d_Ground_made_height:MthIn K A.C_Ground "made_height" "Ground.made_height" s_Ground_made_height
  d_Ground_wood_at:MthIn K A.C_Ground "wood_at" "Ground.wood_at" qH
  d_box_cells:DefIn K "box_cells" s_box_cells
  d_number_of:DefIn K "number_of" Q8
  d_place_of:DefIn K "place_of" ji
  d_cell_count:DefIn K "cell_count" Qp
  d_is_edge:DefIn K "is_edge" JD
  d_edge_numbers:DefIn K "edge_numbers" s_edge_numbers
  d_neighbours:DefIn K "neighbours" s_neighbours
  d_House___init__:MthIn K A.C_House "__init__" "House.__init__" qG
  d_House_covers:MthIn K A.C_House "covers" "House.covers" s_House_covers
  d_side:DefIn K "side" zBZ
  d_too_near:DefIn K "too_near" jh
  d_goes_ahead:DefIn K "goes_ahead" Qn
  d_stands:DefIn K "stands" s_stands
  d_is_covered:DefIn K "is_covered" s_is_covered
  d_is_flat:DefIn K "is_flat" s_is_flat
  d_candidate_at:DefIn K "candidate_at" s_candidate_at
  d_candidates_within:DefIn K "candidates_within" s_candidates_within
  d_houses_within:DefIn K "houses_within" s_houses_within
  d_houses_over:DefIn K "houses_over" QO
  d_house_at:DefIn K "house_at" s_house_at
  d_is_spring:DefIn K "is_spring" Q9
  d_made_kind:DefIn K "made_kind" s_made_kind
  d_cells_of:DefIn K "cells_of" jj
  d_made_cells:DefIn K "made_cells" s_made_cells
  d_made_piece:DefIn K "made_piece" Qm
  d_Changes___init__:MthIn K A.C_Changes "__init__" "Changes.__init__" Zu
  d_Changes_is_changed:MthIn K A.C_Changes "is_changed" "Changes.is_changed" Zb
  d_Changes_has_place:MthIn K A.C_Changes "has_place" "Changes.has_place" Zk
  d_Changes_up_at:MthIn K A.C_Changes "up_at" "Changes.up_at" qf
  d_Changes_built_at:MthIn K A.C_Changes "built_at" "Changes.built_at" Zt
  d_Changes_put:MthIn K A.C_Changes "put" "Changes.put" s_Changes_put
  d_state_answer:AnsIn K "state_answer" qt A.f_state_answer
  d_sum_answer:AnsIn K "sum_answer" Qi A.f_sum_answer
  d_raw_answer:AnsIn K "raw_answer" Ql A.f_raw_answer
  d_house_answer:AnsIn K "house_answer" qu A.f_house_answer
  d_springs_answer:AnsIn K "springs_answer" s_springs_answer A.f_springs_answer
  d_bounds:DefIn K "bounds" s_bounds
  d_answers:DefIn K "answers" s_answers
  d_cell_answer:AnsIn K "cell_answer" QP A.f_cell_answer
  d_piece_answer:AnsIn K "piece_answer" s_piece_answer A.f_piece_answer
  d_forget_answer:AnsIn K "forget_answer" qc A.f_forget_answer
  d_kept_answer:AnsIn K "kept_answer" s_kept_answer A.f_kept_answer
  d_changes_answer:AnsIn K "changes_answer" s_changes_answer A.f_changes_answer
  d_dig_answer:AnsIn K "dig_answer" Qo A.f_dig_answer
  d_build_answer:AnsIn K "build_answer" qv A.f_build_answer
  d_undo_answer:AnsIn K "undo_answer" QM A.f_undo_answer
  d_water_answer:AnsIn K "water_answer" qr A.f_water_answer
  d_pass_answer:AnsIn K "pass_answer" QN A.f_pass_answer
  d_houses_answer:AnsIn K "houses_answer" qZ A.f_houses_answer
  d_begin_answer:AnsIn K "begin_answer" qw A.f_begin_answer
  d_level_answer:AnsIn K "level_answer" s_level_answer A.f_level_answer
  d_highest_answer:AnsIn K "highest_answer" qD A.f_highest_answer
  d_way_answer:AnsIn K "way_answer" s_way_answer A.f_way_answer
section
variable{P:Program}{w:World}{K:PySem.W.Frag}{mg:Str->Option Value}{base h:Heap}{A:Ads}
theorem TupIn.seq{a:Addr}{xs:List V}(t:TupIn K a xs)(H:Hp):SqT K H a xs:=.inr t
theorem mgI{x:Str}{c:Int}(X:K.In h)(G:h.Ns mainGlobals mg)(i:IntIn K x c):GI mg x c:=let ⟨t,e⟩:=i;⟨t,PySem.W.mg_of X G e⟩
theorem Top.glb(S:Top K A)(X:K.In h)(G:h.Ns mainGlobals mg):Glb K mg A where
  g_CANDIDATE_PURPOSE:=mgI X G S.g_CANDIDATE_PURPOSE
  g_WIDTH_PURPOSE:=mgI X G S.g_WIDTH_PURPOSE
  g_DEPTH_PURPOSE:=mgI X G S.g_DEPTH_PURPOSE
  g_RANK_PURPOSE:=mgI X G S.g_RANK_PURPOSE
  g_ONE_IN_houses:=mgI X G S.g_ONE_IN_houses
  g_LEAST_SIDE:=mgI X G S.g_LEAST_SIDE
  g_GREATEST_SIDE:=mgI X G S.g_GREATEST_SIDE
  g_FLAT_WITHIN:=mgI X G S.g_FLAT_WITHIN
  g_PIECE_SIDE:=mgI X G S.g_PIECE_SIDE
  g_ROCK_FROM:=mgI X G S.g_ROCK_FROM
  g_WOOD_FROM:=mgI X G S.g_WOOD_FROM
  g_PLAIN:=mgI X G S.g_PLAIN
  g_ROCK:=mgI X G S.g_ROCK
  g_WOOD:=mgI X G S.g_WOOD
  g_HOUSE:=mgI X G S.g_HOUSE
  g_SPRING_PURPOSE:=mgI X G S.g_SPRING_PURPOSE
  g_ONE_IN_springs:=mgI X G S.g_ONE_IN_springs
  g_SPRING_FROM:=mgI X G S.g_SPRING_FROM
  g_MOST_CHANGED:=mgI X G S.g_MOST_CHANGED
  g_P:=mgI X G S.g_P
  g_WOOD_PURPOSE:=mgI X G S.g_WOOD_PURPOSE
  g_WOOD_WIDE:=mgI X G S.g_WOOD_WIDE
  g_WOOD_HIGH:=mgI X G S.g_WOOD_HIGH
  g_LOWEST:=mgI X G S.g_LOWEST
  g_HIGHEST:=mgI X G S.g_HIGHEST
  g_FIRST_SUM:=mgI X G S.g_FIRST_SUM
  g_NOT_IN_RANGE:=mgI X G S.g_NOT_IN_RANGE
  g_CANNOT_BE:=mgI X G S.g_CANNOT_BE
  g_THERE_IS_NONE:=mgI X G S.g_THERE_IS_NONE
  g_NO_PLACE:=mgI X G S.g_NO_PLACE
  g_GREATEST_SEED:=mgI X G S.g_GREATEST_SEED
  g_MOST_KEPT:=mgI X G S.g_MOST_KEPT
  g_MOST_DUG:=mgI X G S.g_MOST_DUG
  g_GREATEST_CHANGE:=mgI X G S.g_GREATEST_CHANGE
  g_LEAST_BUILT:=mgI X G S.g_LEAST_BUILT
  g_GREATEST_BUILT:=mgI X G S.g_GREATEST_BUILT
  g_GREATEST_PURPOSE:=mgI X G S.g_GREATEST_PURPOSE
  g_GREATEST_RAW_PLACE:=mgI X G S.g_GREATEST_RAW_PLACE
  g_LONGEST_WAY:=mgI X G S.g_LONGEST_WAY
  g_WAY:=mgI X G S.g_WAY
  g_NO_CHANGE:=⟨PySem.W.mg_of X G S.e_NO_CHANGE,S.t_NO_CHANGE.seq⟩
  g_HEIGHT_LAYERS:=⟨PySem.W.mg_of X G S.e_HEIGHT_LAYERS,S.t_HEIGHT_LAYERS.seq⟩
  g_SIDES:=⟨PySem.W.mg_of X G S.e_SIDES,S.t_SIDES.seq⟩
  g_CALLS:=⟨PySem.W.mg_of X G S.e_CALLS,S.t_CALLS.seq⟩
  g_HEIGHT_LAYERS_0:=S.t_HEIGHT_LAYERS_0.seq
  g_HEIGHT_LAYERS_1:=S.t_HEIGHT_LAYERS_1.seq
  g_HEIGHT_LAYERS_2:=S.t_HEIGHT_LAYERS_2.seq
  g_CALLS_0:=S.t_CALLS_0.seq
  g_CALLS_1:=S.t_CALLS_1.seq
  g_CALLS_2:=S.t_CALLS_2.seq
  g_CALLS_3:=S.t_CALLS_3.seq
  g_CALLS_4:=S.t_CALLS_4.seq
  g_CALLS_5:=S.t_CALLS_5.seq
  g_CALLS_6:=S.t_CALLS_6.seq
  g_CALLS_7:=S.t_CALLS_7.seq
  g_CALLS_8:=S.t_CALLS_8.seq
  g_CALLS_9:=S.t_CALLS_9.seq
  g_CALLS_10:=S.t_CALLS_10.seq
  g_CALLS_11:=S.t_CALLS_11.seq
  g_CALLS_12:=S.t_CALLS_12.seq
  g_CALLS_13:=S.t_CALLS_13.seq
  g_CALLS_14:=S.t_CALLS_14.seq
  g_CALLS_15:=S.t_CALLS_15.seq
  g_CALLS_16:=S.t_CALLS_16.seq
  g_CALLS_17:=S.t_CALLS_17.seq
  g_CALLS_18:=S.t_CALLS_18.seq
  g_CALLS_19:=S.t_CALLS_19.seq
  b_len:=PySem.W.mg_none_of X G S.b_len
  b_range:=PySem.W.mg_none_of X G S.b_range
  b_max:=PySem.W.mg_none_of X G S.b_max
  b_min:=PySem.W.mg_none_of X G S.b_min
  b_abs:=PySem.W.mg_none_of X G S.b_abs
  b_any:=PySem.W.mg_none_of X G S.b_any
  b_list:=PySem.W.mg_none_of X G S.b_list
  c_House:=⟨S.pg_House,S.hd_House,S.po_House,S.sa_House⟩
  c_Pieces:=⟨S.pg_Pieces,S.hd_Pieces,S.po_Pieces,S.sa_Pieces⟩
  c_Changes:=⟨S.pg_Changes,S.hd_Changes,S.po_Changes,S.sa_Changes⟩
  c_Ground:=⟨S.pg_Ground,S.hd_Ground,S.po_Ground,S.sa_Ground⟩
  c_World:=⟨S.pg_World,S.hd_World,S.po_World,S.sa_World⟩
  n_House_x:=S.n_House_x
  n_House_y:=S.n_House_y
  n_House_width:=S.n_House_width
  n_House_depth:=S.n_House_depth
  n_House_rank:=S.n_House_rank
  n_Pieces_ground:=S.n_Pieces_ground
  n_Pieces_room:=S.n_Pieces_room
  n_Pieces_made_count:=S.n_Pieces_made_count
  n_Pieces_kept:=S.n_Pieces_kept
  n_Changes_cells:=S.n_Changes_cells
  n_Ground_seed:=S.n_Ground_seed
  n_Ground_width:=S.n_Ground_width
  n_Ground_depth:=S.n_Ground_depth
  n_Ground_corners:=S.n_Ground_corners
  n_World_ground:=S.n_World_ground
  n_World_pieces:=S.n_World_pieces
  n_World_changes:=S.n_World_changes
theorem ZE{ps:List Str}{k:Nat}{sp:Sp}{st:Stmt}{x:Str}(X:K.In h)(G:h.Ns mainGlobals mg)(D:DefIn K x st)(hb:∀(kV doc pm:Value) (an:Option Addr) (cdv ct:Value) (us:List Value),us.length=ps.length->bindArgs (PySem.W.fnOf x x (defArgs st) (defBody st) (defScope st) .none kV doc pm an cdv ct) ⟨us,[]⟩=pure (ps.zip us))(ok:∀f fd,Fun K x x st f fd->FnOk P w K mg base CX0 k f fd ps sp):FnAt P w K mg base k x ps sp:=by
  obtain⟨f,fd,e,F⟩:=D
  exact⟨f,fd,PySem.W.mg_of X G e,F.kp,F.binds hb,ok f fd F⟩
theorem Zg{ps:List Str}{k:Nat}{sp:Sp}{st:Stmt}{x qual:Str}{C:Addr}(D:MthIn K C x qual st)(hb:∀(kV doc pm:Value) (an:Option Addr) (cdv ct:Value) (us:List Value),us.length=ps.length->bindArgs (PySem.W.fnOf x qual (defArgs st) (defBody st) (defScope st) .none kV doc pm an cdv ct) ⟨us,[]⟩=pure (ps.zip us))(ok:∀f fd,Fun K x qual st f fd->FnOk P w K mg base CX0 k f fd ps sp):MtAt P w K mg base k C x ps sp:=by
  obtain⟨f,fd,e,i,F⟩:=D
  exact⟨f,fd,⟨e,i,F.kp⟩,F.binds hb,ok f fd F⟩
theorem zBY{ps:List Str}{k:Nat}{sp:Sp}{st:Stmt}{qual:Str}{C:Addr}{y:Str}(X:K.In h)(G:h.Ns mainGlobals mg)(mk:PySem.W.makesIn K C=true)(kc:PySem.W.keepIn K (.ref C)=true)(ec:PySem.W.nsIn K mainGlobals y=some (some (.ref C)))(D:MthIn K C "__init__" qual st)(hb:∀(kV doc pm:Value) (an:Option Addr) (cdv ct:Value) (us:List Value),us.length=ps.length->bindArgs (PySem.W.fnOf "__init__" qual (defArgs st) (defBody st) (defScope st) .none kV doc pm an cdv ct) ⟨us,[]⟩=pure (ps.zip us))(ok:∀f fd,Fun K "__init__" qual st f fd->FnOk P w K mg base CX0 k f fd ps sp):MkAt P w K mg base k C y ps sp:=by
  obtain⟨f,fd,e,i,F⟩:=D
  exact⟨f,fd,⟨mk,e,i,kc⟩,PySem.W.mg_of X G ec,F.binds hb,ok f fd F⟩
theorem ZP{ps:List Str}{k:Nat}{sp:Sp}{st:Stmt}{x:Str}{f:Addr}(D:AnsIn K x st f)(hb:∀(kV doc pm:Value) (an:Option Addr) (cdv ct:Value) (us:List Value),us.length=ps.length->bindArgs (PySem.W.fnOf x x (defArgs st) (defBody st) (defScope st) .none kV doc pm an cdv ct) ⟨us,[]⟩=pure (ps.zip us))(hk:k<=15)(ok:∀fd,Fun K x x st f fd->FnOk P w K mg base CX0 k f fd ps sp):FnHas P w K mg base 15 f sp:=by
  obtain⟨fd,F⟩:=D
  exact⟨fd,ps,F.kp,F.binds hb,(ok fd F).mono hk⟩
theorem top_all{fa:Addr}(S:Top K A)(X:K.In h)(G:h.Ns mainGlobals mg)(hfa:mg "answers"=some (.ref fa)):∃fd:FuncData,(∀(s:Shared) (us:List Value),us.length=(["calls"]:List Str).length->BindsTo s fd ⟨us,[]⟩ ((["calls"]:List Str).zip us))/\∀base:Heap,K.In base->base.Ns mainGlobals mg->FnOk P w K mg base CX0 16 fa fd ["calls"] (je K):=by
  have T:=S.glb X G
  obtain⟨f,fd,e,F⟩:=S.d_answers
  have e:=hfa.symm.trans (PySem.W.mg_of X G e)
  cases e
  obtain⟨oc,od,kV,doc,pm,an,cdv,ct,osl,rfl,lk,hcd⟩:=F.ex
  refine⟨PySem.W.fnOf "answers" "answers" (defArgs s_answers) (defBody s_answers) (defScope s_answers) .none kV doc pm an cdv ct,fun s us hu=>match us,hu with | [_],_=>.of_eq rfl,fun base _ _=>?_⟩
  have f_stirred:FnAt P w K mg base 1 "stirred" ["h","v"] jb:=ZE X G S.d_stirred (by intro _ _ _ _ _ _ us hl;obtain⟨_,_,rfl⟩:=l2 hl;exact rfl) fun f fd F=>ok_stirred F T
  have f_raw_number:FnAt P w K mg base 2 "raw_number" ["seed","purpose","x","y"] QJ:=ZE X G S.d_raw_number (by intro _ _ _ _ _ _ us hl;obtain⟨_,_,_,_,rfl⟩:=l4 hl;exact rfl) fun f fd F=>ok_raw_number F T f_stirred
  have k_Pieces:MkAt P w K mg base 1 A.C_Pieces "Pieces" ["self","ground","room"] (sp_Pieces_init A):=zBY X G S.mk_Pieces S.kc_Pieces S.ec_Pieces S.d_Pieces___init__ (by intro _ _ _ _ _ _ us hl;obtain⟨_,_,_,rfl⟩:=l3 hl;exact rfl) fun f fd F=>ok_Pieces_init F T
  have m_Pieces_has_piece:MtAt P w K mg base 1 A.C_Pieces "has_piece" ["self","i","j"] (sp_has_piece A):=Zg S.d_Pieces_has_piece (by intro _ _ _ _ _ _ us hl;obtain⟨_,_,_,rfl⟩:=l3 hl;exact rfl) fun f fd F=>ok_has_piece F T
  have m_Pieces_is_kept:MtAt P w K mg base 1 A.C_Pieces "is_kept" ["self","i","j"] (jc A):=Zg S.d_Pieces_is_kept (by intro _ _ _ _ _ _ us hl;obtain⟨_,_,_,rfl⟩:=l3 hl;exact rfl) fun f fd F=>ok_is_kept F T
  have f_side:FnAt P w K mg base 1 "side" ["raw"] sp_side:=ZE X G S.d_side (by intro _ _ _ _ _ _ us hl;obtain⟨_,rfl⟩:=l1 hl;exact rfl) fun f fd F=>ok_side F T
  have f_box_cells:FnAt P w K mg base 1 "box_cells" ["left","top","width","depth"] sp_box_cells:=ZE X G S.d_box_cells (by intro _ _ _ _ _ _ us hl;obtain⟨_,_,_,_,rfl⟩:=l4 hl;exact rfl) fun f fd F=>ok_box_cells F T
  have m_Ground_raw:MtAt P w K mg base 3 A.C_Ground "raw" ["self","purpose","x","y"] (sp_Ground_raw A):=Zg S.d_Ground_raw (by intro _ _ _ _ _ _ us hl;obtain⟨_,_,_,_,rfl⟩:=l4 hl;exact rfl) fun f fd F=>ok_Ground_raw F T f_raw_number
  have m_Ground_corner:MtAt P w K mg base 4 A.C_Ground "corner" ["self","purpose","high","i","j"] (JB A):=Zg S.d_Ground_corner (by intro _ _ _ _ _ _ us hl;obtain⟨_,_,_,_,_,rfl⟩:=l5 hl;exact rfl) fun f fd F=>ok_corner F T m_Ground_raw
  have m_Ground_layer_at:MtAt P w K mg base 5 A.C_Ground "layer_at" ["self","purpose","wide","high","x","y"] (sp_layer_at A):=Zg S.d_Ground_layer_at (by intro _ _ _ _ _ _ us hl;obtain⟨_,_,_,_,_,_,rfl⟩:=l6 hl;exact rfl) fun f fd F=>ok_layer_at F T m_Ground_corner
  have m_Ground_made_height:MtAt P w K mg base 6 A.C_Ground "made_height" ["self","x","y"] (ZD A):=Zg S.d_Ground_made_height (by intro _ _ _ _ _ _ us hl;obtain⟨_,_,_,rfl⟩:=l3 hl;exact rfl) fun f fd F=>ok_made_height F T m_Ground_layer_at
  have f_is_flat:FnAt P w K mg base 7 "is_flat" ["ground","left","top","width","depth"] (sp_is_flat A):=ZE X G S.d_is_flat (by intro _ _ _ _ _ _ us hl;obtain⟨_,_,_,_,_,rfl⟩:=l5 hl;exact rfl) fun f fd F=>ok_is_flat F T f_box_cells m_Ground_made_height
  have k_House:MkAt P w K mg base 1 A.C_House "House" ["self","x","y","width","depth","rank"] (qM A):=zBY X G S.mk_House S.kc_House S.ec_House S.d_House___init__ (by intro _ _ _ _ _ _ us hl;obtain⟨_,_,_,_,_,_,rfl⟩:=l6 hl;exact rfl) fun f fd F=>ok_House_init F T
  have f_candidate_at:FnAt P w K mg base 8 "candidate_at" ["ground","x","y"] (sp_candidate_at A):=ZE X G S.d_candidate_at (by intro _ _ _ _ _ _ us hl;obtain⟨_,_,_,rfl⟩:=l3 hl;exact rfl) fun f fd F=>ok_candidate_at F T f_side f_is_flat m_Ground_raw k_House
  have f_candidates_within:FnAt P w K mg base 9 "candidates_within" ["ground","left","top","right","bottom"] (sp_candidates_within A):=ZE X G S.d_candidates_within (by intro _ _ _ _ _ _ us hl;obtain⟨_,_,_,_,_,rfl⟩:=l5 hl;exact rfl) fun f fd F=>ok_candidates_within F T f_candidate_at
  have f_too_near:FnAt P w K mg base 1 "too_near" ["one","other"] (sp_too_near A):=ZE X G S.d_too_near (by intro _ _ _ _ _ _ us hl;obtain⟨_,_,rfl⟩:=l2 hl;exact rfl) fun f fd F=>ok_too_near F T
  have f_goes_ahead:FnAt P w K mg base 1 "goes_ahead" ["one","other"] (sp_goes_ahead A):=ZE X G S.d_goes_ahead (by intro _ _ _ _ _ _ us hl;obtain⟨_,_,rfl⟩:=l2 hl;exact rfl) fun f fd F=>ok_goes_ahead F T
  have f_stands:FnAt P w K mg base 2 "stands" ["house","candidates"] (j8 A):=ZE X G S.d_stands (by intro _ _ _ _ _ _ us hl;obtain⟨_,_,rfl⟩:=l2 hl;exact rfl) fun f fd F=>ok_stands F T f_too_near f_goes_ahead
  have f_houses_within:FnAt P w K mg base 10 "houses_within" ["ground","left","top","right","bottom"] (Zh A):=ZE X G S.d_houses_within (by intro _ _ _ _ _ _ us hl;obtain⟨_,_,_,_,_,rfl⟩:=l5 hl;exact rfl) fun f fd F=>ok_houses_within F T f_candidates_within f_stands
  have f_houses_over:FnAt P w K mg base 11 "houses_over" ["ground","left","top","right","bottom"] (sp_houses_over A):=ZE X G S.d_houses_over (by intro _ _ _ _ _ _ us hl;obtain⟨_,_,_,_,_,rfl⟩:=l5 hl;exact rfl) fun f fd F=>ok_houses_over F T f_houses_within
  have m_House_covers:MtAt P w K mg base 1 A.C_House "covers" ["self","x","y"] (sp_covers A):=Zg S.d_House_covers (by intro _ _ _ _ _ _ us hl;obtain⟨_,_,_,rfl⟩:=l3 hl;exact rfl) fun f fd F=>ok_covers F T
  have f_is_covered:FnAt P w K mg base 2 "is_covered" ["houses","x","y"] (sp_is_covered A):=ZE X G S.d_is_covered (by intro _ _ _ _ _ _ us hl;obtain⟨_,_,_,rfl⟩:=l3 hl;exact rfl) fun f fd F=>ok_is_covered F T m_House_covers
  have m_Ground_wood_at:MtAt P w K mg base 6 A.C_Ground "wood_at" ["self","x","y"] (jZ A):=Zg S.d_Ground_wood_at (by intro _ _ _ _ _ _ us hl;obtain⟨_,_,_,rfl⟩:=l3 hl;exact rfl) fun f fd F=>ok_wood_at F T m_Ground_layer_at
  have f_made_kind:FnAt P w K mg base 7 "made_kind" ["ground","houses","x","y"] (Qg A):=ZE X G S.d_made_kind (by intro _ _ _ _ _ _ us hl;obtain⟨_,_,_,_,rfl⟩:=l4 hl;exact rfl) fun f fd F=>ok_made_kind F T f_is_covered m_Ground_made_height m_Ground_wood_at
  have f_made_cells:FnAt P w K mg base 12 "made_cells" ["ground","left","top","width","depth"] (sp_made_cells A):=ZE X G S.d_made_cells (by intro _ _ _ _ _ _ us hl;obtain⟨_,_,_,_,_,rfl⟩:=l5 hl;exact rfl) fun f fd F=>ok_made_cells F T f_houses_over f_box_cells f_made_kind m_Ground_made_height
  have f_made_piece:FnAt P w K mg base 13 "made_piece" ["ground","i","j"] (sp_made_piece A):=ZE X G S.d_made_piece (by intro _ _ _ _ _ _ us hl;obtain⟨_,_,_,rfl⟩:=l3 hl;exact rfl) fun f fd F=>ok_made_piece F T f_made_cells
  have m_Pieces_look:MtAt P w K mg base 14 A.C_Pieces "look" ["self","i","j"] (sp_look A):=Zg S.d_Pieces_look (by intro _ _ _ _ _ _ us hl;obtain⟨_,_,_,rfl⟩:=l3 hl;exact rfl) fun f fd F=>ok_look F T f_made_piece
  have m_Pieces_forget:MtAt P w K mg base 1 A.C_Pieces "forget" ["self","i","j"] (JA A):=Zg S.d_Pieces_forget (by intro _ _ _ _ _ _ us hl;obtain⟨_,_,_,rfl⟩:=l3 hl;exact rfl) fun f fd F=>ok_forget F T
  have m_Changes_up_at:MtAt P w K mg base 1 A.C_Changes "up_at" ["self","x","y"] (QU A):=Zg S.d_Changes_up_at (by intro _ _ _ _ _ _ us hl;obtain⟨_,_,_,rfl⟩:=l3 hl;exact rfl) fun f fd F=>ok_up_at F T
  have m_World_raised:MtAt P w K mg base 2 A.C_World "raised" ["self","made","x","y"] (sp_raised A):=Zg S.d_World_raised (by intro _ _ _ _ _ _ us hl;obtain⟨_,_,_,_,rfl⟩:=l4 hl;exact rfl) fun f fd F=>ok_raised F T m_Changes_up_at
  have m_World_height_now:MtAt P w K mg base 7 A.C_World "height_now" ["self","x","y"] (ZV A):=Zg S.d_World_height_now (by intro _ _ _ _ _ _ us hl;obtain⟨_,_,_,rfl⟩:=l3 hl;exact rfl) fun f fd F=>ok_height_now F T m_World_raised m_Ground_made_height
  have f_place_of:FnAt P w K mg base 1 "place_of" ["ground","number"] (sp_place_of A):=ZE X G S.d_place_of (by intro _ _ _ _ _ _ us hl;obtain⟨_,_,rfl⟩:=l2 hl;exact rfl) fun f fd F=>ok_place_of F T
  have m_World_height_of:MtAt P w K mg base 8 A.C_World "height_of" ["self","number"] (sp_height_of A):=Zg S.d_World_height_of (by intro _ _ _ _ _ _ us hl;obtain⟨_,_,rfl⟩:=l2 hl;exact rfl) fun f fd F=>ok_height_of F T m_World_height_now f_place_of
  have f_cell_count:FnAt P w K mg base 1 "cell_count" ["ground"] (sp_cell_count A):=ZE X G S.d_cell_count (by intro _ _ _ _ _ _ us hl;obtain⟨_,rfl⟩:=l1 hl;exact rfl) fun f fd F=>ok_cell_count F T
  have m_World_heights:MtAt P w K mg base 9 A.C_World "heights" ["self"] (jd A):=Zg S.d_World_heights (by intro _ _ _ _ _ _ us hl;obtain⟨_,rfl⟩:=l1 hl;exact rfl) fun f fd F=>ok_heights F T m_World_height_of f_cell_count
  have m_Changes_built_at:MtAt P w K mg base 1 A.C_Changes "built_at" ["self","x","y"] (qR A):=Zg S.d_Changes_built_at (by intro _ _ _ _ _ _ us hl;obtain⟨_,_,_,rfl⟩:=l3 hl;exact rfl) fun f fd F=>ok_built_at F T
  have m_World_cell_now:MtAt P w K mg base 3 A.C_World "cell_now" ["self","made","x","y"] (qQ A):=Zg S.d_World_cell_now (by intro _ _ _ _ _ _ us hl;obtain⟨_,_,_,_,rfl⟩:=l4 hl;exact rfl) fun f fd F=>ok_cell_now F T m_World_raised m_Changes_built_at
  have m_World_sum_now:MtAt P w K mg base 13 A.C_World "sum_now" ["self"] (ja A):=Zg S.d_World_sum_now (by intro _ _ _ _ _ _ us hl;obtain⟨_,rfl⟩:=l1 hl;exact rfl) fun f fd F=>ok_sum_now F T f_made_cells f_cell_count f_place_of m_World_cell_now
  have k_Ground:MkAt P w K mg base 1 A.C_Ground "Ground" ["self","seed","width","depth"] (sp_Ground_init A):=zBY X G S.mk_Ground S.kc_Ground S.ec_Ground S.d_Ground___init__ (by intro _ _ _ _ _ _ us hl;obtain⟨_,_,_,_,rfl⟩:=l4 hl;exact rfl) fun f fd F=>ok_Ground_init F T
  have k_Changes:MkAt P w K mg base 1 A.C_Changes "Changes" ["self"] (qV A):=zBY X G S.mk_Changes S.kc_Changes S.ec_Changes S.d_Changes___init__ (by intro _ _ _ _ _ _ us hl;obtain⟨_,rfl⟩:=l1 hl;exact rfl) fun f fd F=>ok_Changes_init F T
  have m_World_begin:MtAt P w K mg base 3 A.C_World "begin" ["self","seed","width","depth","room"] (js A):=Zg S.d_World_begin (by intro _ _ _ _ _ _ us hl;obtain⟨_,_,_,_,_,rfl⟩:=l5 hl;exact rfl) fun f fd F=>ok_begin F T k_Ground k_Pieces k_Changes
  have k_World:MkAt P w K mg base 4 A.C_World "World" ["self"] (sp_World_init A):=zBY X G S.mk_World S.kc_World S.ec_World S.d_World___init__ (by intro _ _ _ _ _ _ us hl;obtain⟨_,rfl⟩:=l1 hl;exact rfl) fun f fd F=>ok_World_init F T m_World_begin
  have f_shore_cell:FnAt P w K mg base 9 "shore_cell" ["world","number"] (sp_shore_cell A):=ZE X G S.d_shore_cell (by intro _ _ _ _ _ _ us hl;obtain⟨_,_,rfl⟩:=l2 hl;exact rfl) fun f fd F=>ok_shore_cell F T m_World_height_of
  have f_number_of:FnAt P w K mg base 1 "number_of" ["ground","x","y"] (sp_number_of A):=ZE X G S.d_number_of (by intro _ _ _ _ _ _ us hl;obtain⟨_,_,_,rfl⟩:=l3 hl;exact rfl) fun f fd F=>ok_number_of F T
  have m_Ground_has_cell:MtAt P w K mg base 1 A.C_Ground "has_cell" ["self","x","y"] (sp_has_cell A):=Zg S.d_Ground_has_cell (by intro _ _ _ _ _ _ us hl;obtain⟨_,_,_,rfl⟩:=l3 hl;exact rfl) fun f fd F=>ok_has_cell F T
  have f_neighbours:FnAt P w K mg base 2 "neighbours" ["ground","number"] (sp_neighbours A):=ZE X G S.d_neighbours (by intro _ _ _ _ _ _ us hl;obtain⟨_,_,rfl⟩:=l2 hl;exact rfl) fun f fd F=>ok_neighbours F T f_place_of f_number_of m_Ground_has_cell
  have f_wet_cells:FnAt P w K mg base 10 "wet_cells" ["world","start","asked"] (qg A):=ZE X G S.d_wet_cells (by intro _ _ _ _ _ _ us hl;obtain⟨_,_,_,rfl⟩:=l3 hl;exact rfl) fun f fd F=>ok_wet_cells F T f_shore_cell f_neighbours
  have f_pass_of:FnAt P w K mg base 1 "pass_of" ["wet"] sp_pass_of:=ZE X G S.d_pass_of (by intro _ _ _ _ _ _ us hl;obtain⟨_,rfl⟩:=l1 hl;exact rfl) fun f fd F=>ok_pass_of F T
  have f_is_way:FnAt P w K mg base 3 "is_way" ["ground","row"] (sp_is_way A):=ZE X G S.d_is_way (by intro _ _ _ _ _ _ us hl;obtain⟨_,_,rfl⟩:=l2 hl;exact rfl) fun f fd F=>ok_is_way F T f_neighbours
  have f_cells_in_reach:FnAt P w K mg base 9 "cells_in_reach" ["world","start","most"] (Z0 A):=ZE X G S.d_cells_in_reach (by intro _ _ _ _ _ _ us hl;obtain⟨_,_,_,rfl⟩:=l3 hl;exact rfl) fun f fd F=>ok_cells_in_reach F T m_World_height_of f_neighbours
  have f_is_edge:FnAt P w K mg base 2 "is_edge" ["ground","number"] (sp_is_edge A):=ZE X G S.d_is_edge (by intro _ _ _ _ _ _ us hl;obtain⟨_,_,rfl⟩:=l2 hl;exact rfl) fun f fd F=>ok_is_edge F T f_place_of
  have f_edge_numbers:FnAt P w K mg base 3 "edge_numbers" ["ground"] (qU A):=ZE X G S.d_edge_numbers (by intro _ _ _ _ _ _ us hl;obtain⟨_,rfl⟩:=l1 hl;exact rfl) fun f fd F=>ok_edge_numbers F T f_cell_count f_is_edge
  have f_house_at:FnAt P w K mg base 12 "house_at" ["ground","x","y"] (QF A):=ZE X G S.d_house_at (by intro _ _ _ _ _ _ us hl;obtain⟨_,_,_,rfl⟩:=l3 hl;exact rfl) fun f fd F=>ok_house_at F T f_houses_over m_House_covers
  have f_is_spring:FnAt P w K mg base 7 "is_spring" ["ground","x","y"] (Qh A):=ZE X G S.d_is_spring (by intro _ _ _ _ _ _ us hl;obtain⟨_,_,_,rfl⟩:=l3 hl;exact rfl) fun f fd F=>ok_is_spring F T m_Ground_raw m_Ground_made_height
  have f_cells_of:FnAt P w K mg base 2 "cells_of" ["i","j"] QG:=ZE X G S.d_cells_of (by intro _ _ _ _ _ _ us hl;obtain⟨_,_,rfl⟩:=l2 hl;exact rfl) fun f fd F=>ok_cells_of F T f_box_cells
  have m_Changes_is_changed:MtAt P w K mg base 1 A.C_Changes "is_changed" ["self","x","y"] (qL A):=Zg S.d_Changes_is_changed (by intro _ _ _ _ _ _ us hl;obtain⟨_,_,_,rfl⟩:=l3 hl;exact rfl) fun f fd F=>ok_is_changed F T
  have m_Changes_has_place:MtAt P w K mg base 2 A.C_Changes "has_place" ["self","x","y"] (Zz A):=Zg S.d_Changes_has_place (by intro _ _ _ _ _ _ us hl;obtain⟨_,_,_,rfl⟩:=l3 hl;exact rfl) fun f fd F=>ok_has_place F T m_Changes_is_changed
  have m_Changes_put:MtAt P w K mg base 1 A.C_Changes "put" ["self","x","y","up","built"] (sp_put A):=Zg S.d_Changes_put (by intro _ _ _ _ _ _ us hl;obtain⟨_,_,_,_,_,rfl⟩:=l5 hl;exact rfl) fun f fd F=>ok_put F T
  have a_state_answer:FnHas P w K mg base 15 A.f_state_answer (sp_ans A 18):=ZP (ps:=["world","numbers"]) S.d_state_answer (by intro _ _ _ _ _ _ us hl;obtain⟨_,_,rfl⟩:=l2 hl;exact rfl) (by decide) fun fd F=>ok_state_answer F T
  have a_sum_answer:FnHas P w K mg base 15 A.f_sum_answer (sp_ans A 15):=ZP (ps:=["world","numbers"]) S.d_sum_answer (by intro _ _ _ _ _ _ us hl;obtain⟨_,_,rfl⟩:=l2 hl;exact rfl) (by decide) fun fd F=>ok_sum_answer F T m_World_sum_now
  have a_raw_answer:FnHas P w K mg base 15 A.f_raw_answer (sp_ans A 14):=ZP (ps:=["world","numbers"]) S.d_raw_answer (by intro _ _ _ _ _ _ us hl;obtain⟨_,_,rfl⟩:=l2 hl;exact rfl) (by decide) fun fd F=>ok_raw_answer F T m_Ground_raw
  have a_house_answer:FnHas P w K mg base 15 A.f_house_answer (sp_ans A 12):=ZP (ps:=["world","numbers"]) S.d_house_answer (by intro _ _ _ _ _ _ us hl;obtain⟨_,_,rfl⟩:=l2 hl;exact rfl) (by decide) fun fd F=>ok_house_answer F T m_Ground_has_cell f_house_at
  have a_springs_answer:FnHas P w K mg base 15 A.f_springs_answer (sp_ans A 10):=ZP (ps:=["world","numbers"]) S.d_springs_answer (by intro _ _ _ _ _ _ us hl;obtain⟨_,_,rfl⟩:=l2 hl;exact rfl) (by decide) fun fd F=>ok_springs_answer F T m_Pieces_has_piece f_cells_of f_is_spring
  have f_bounds:FnAt P w K mg base 1 "bounds" ["calls","at"] (sp_bounds K):=ZE X G S.d_bounds (by intro _ _ _ _ _ _ us hl;obtain⟨_,_,rfl⟩:=l2 hl;exact rfl) fun f fd F=>ok_bounds F T
  have a_cell_answer:FnHas P w K mg base 15 A.f_cell_answer (sp_ans A 1):=ZP (ps:=["world","numbers"]) S.d_cell_answer (by intro _ _ _ _ _ _ us hl;obtain⟨_,_,rfl⟩:=l2 hl;exact rfl) (by decide) fun fd F=>ok_cell_answer F T m_Ground_has_cell m_Pieces_look m_World_cell_now
  have a_piece_answer:FnHas P w K mg base 15 A.f_piece_answer (sp_ans A 2):=ZP (ps:=["world","numbers"]) S.d_piece_answer (by intro _ _ _ _ _ _ us hl;obtain⟨_,_,rfl⟩:=l2 hl;exact rfl) (by decide) fun fd F=>ok_piece_answer F T m_Pieces_has_piece m_Pieces_look f_cells_of m_World_cell_now
  have a_forget_answer:FnHas P w K mg base 15 A.f_forget_answer (sp_ans A 3):=ZP (ps:=["world","numbers"]) S.d_forget_answer (by intro _ _ _ _ _ _ us hl;obtain⟨_,_,rfl⟩:=l2 hl;exact rfl) (by decide) fun fd F=>ok_forget_answer F T m_Pieces_has_piece m_Pieces_is_kept m_Pieces_forget
  have a_kept_answer:FnHas P w K mg base 15 A.f_kept_answer (sp_ans A 4):=ZP (ps:=["world","numbers"]) S.d_kept_answer (by intro _ _ _ _ _ _ us hl;obtain⟨_,_,rfl⟩:=l2 hl;exact rfl) (by decide) fun fd F=>ok_kept_answer F T
  have a_changes_answer:FnHas P w K mg base 15 A.f_changes_answer (sp_ans A 8):=ZP (ps:=["world","numbers"]) S.d_changes_answer (by intro _ _ _ _ _ _ us hl;obtain⟨_,_,rfl⟩:=l2 hl;exact rfl) (by decide) fun fd F=>ok_changes_answer F T
  have a_dig_answer:FnHas P w K mg base 15 A.f_dig_answer (sp_ans A 5):=ZP (ps:=["world","numbers"]) S.d_dig_answer (by intro _ _ _ _ _ _ us hl;obtain⟨_,_,rfl⟩:=l2 hl;exact rfl) (by decide) fun fd F=>ok_dig_answer F T m_Ground_has_cell m_Changes_up_at m_Changes_has_place m_Changes_built_at m_Changes_put m_World_height_now
  have a_build_answer:FnHas P w K mg base 15 A.f_build_answer (sp_ans A 6):=ZP (ps:=["world","numbers"]) S.d_build_answer (by intro _ _ _ _ _ _ us hl;obtain⟨_,_,rfl⟩:=l2 hl;exact rfl) (by decide) fun fd F=>ok_build_answer F T m_Ground_has_cell f_house_at m_Changes_has_place m_Changes_up_at m_Changes_put
  have a_undo_answer:FnHas P w K mg base 15 A.f_undo_answer (sp_ans A 7):=ZP (ps:=["world","numbers"]) S.d_undo_answer (by intro _ _ _ _ _ _ us hl;obtain⟨_,_,rfl⟩:=l2 hl;exact rfl) (by decide) fun fd F=>ok_undo_answer F T m_Ground_has_cell m_Changes_is_changed m_Changes_put m_World_height_now
  have a_water_answer:FnHas P w K mg base 15 A.f_water_answer (sp_ans A 9):=ZP (ps:=["world","numbers"]) S.d_water_answer (by intro _ _ _ _ _ _ us hl;obtain⟨_,_,rfl⟩:=l2 hl;exact rfl) (by decide) fun fd F=>ok_water_answer F T m_Ground_has_cell f_number_of f_edge_numbers f_wet_cells f_pass_of
  have a_pass_answer:FnHas P w K mg base 15 A.f_pass_answer (sp_ans A 13):=ZP (ps:=["world","numbers"]) S.d_pass_answer (by intro _ _ _ _ _ _ us hl;obtain⟨_,_,rfl⟩:=l2 hl;exact rfl) (by decide) fun fd F=>ok_pass_answer F T m_Ground_has_cell f_number_of f_wet_cells f_pass_of
  have a_houses_answer:FnHas P w K mg base 15 A.f_houses_answer (sp_ans A 11):=ZP (ps:=["world","numbers"]) S.d_houses_answer (by intro _ _ _ _ _ _ us hl;obtain⟨_,_,rfl⟩:=l2 hl;exact rfl) (by decide) fun fd F=>ok_houses_answer F T m_Pieces_has_piece f_houses_within
  have a_begin_answer:FnHas P w K mg base 15 A.f_begin_answer (sp_ans A 0):=ZP (ps:=["world","numbers"]) S.d_begin_answer (by intro _ _ _ _ _ _ us hl;obtain⟨_,_,rfl⟩:=l2 hl;exact rfl) (by decide) fun fd F=>ok_begin_answer F T m_World_begin
  have a_level_answer:FnHas P w K mg base 15 A.f_level_answer (sp_ans A 17):=ZP (ps:=["world","numbers"]) S.d_level_answer (by intro _ _ _ _ _ _ us hl;obtain⟨_,_,rfl⟩:=l2 hl;exact rfl) (by decide) fun fd F=>ok_level_answer F T m_Ground_has_cell f_number_of f_cells_in_reach f_is_edge
  have a_highest_answer:FnHas P w K mg base 15 A.f_highest_answer (sp_ans A 19):=ZP (ps:=["world","numbers"]) S.d_highest_answer (by intro _ _ _ _ _ _ us hl;obtain⟨_,_,rfl⟩:=l2 hl;exact rfl) (by decide) fun fd F=>ok_highest_answer F T m_World_heights f_place_of
  have a_way_answer:FnHas P w K mg base 15 A.f_way_answer (sp_ans A 16):=ZP (ps:=["world","row"]) S.d_way_answer (by intro _ _ _ _ _ _ us hl;obtain⟨_,_,rfl⟩:=l2 hl;exact rfl) (by decide) fun fd F=>ok_way_answer F T f_cell_count f_is_way m_World_height_of f_is_edge
  refine ok_answers F T k_World f_bounds fun g sp hg=>?_
  obtain⟨i,hi,rfl,rfl⟩:=hg
  match i,hi with
  |0,_=>exact a_begin_answer
  |1,_=>exact a_cell_answer
  |2,_=>exact a_piece_answer
  |3,_=>exact a_forget_answer
  |4,_=>exact a_kept_answer
  |5,_=>exact a_dig_answer
  |6,_=>exact a_build_answer
  |7,_=>exact a_undo_answer
  |8,_=>exact a_changes_answer
  |9,_=>exact a_water_answer
  |10,_=>exact a_springs_answer
  |11,_=>exact a_houses_answer
  |12,_=>exact a_house_answer
  |13,_=>exact a_pass_answer
  |14,_=>exact a_raw_answer
  |15,_=>exact a_sum_answer
  |16,_=>exact a_way_answer
  |17,_=>exact a_level_answer
  |18,_=>exact a_state_answer
  |19,_=>exact a_highest_answer
  |n+20,h=>exact absurd h (by omega)
end
end Gs
namespace Gs
abbrev ads : Ads := { C_House := 85, C_Pieces := 235, t_NO_CHANGE := 247, C_Changes := 299, t_HEIGHT_LAYERS_0 := 318, t_HEIGHT_LAYERS_1 := 319, t_HEIGHT_LAYERS_2 := 320, t_HEIGHT_LAYERS := 321, C_Ground := 380, C_World := 448, t_SIDES := 486, t_CALLS_0 := 621, t_CALLS_1 := 622, t_CALLS_2 := 623, t_CALLS_3 := 624, t_CALLS_4 := 625, t_CALLS_5 := 626, t_CALLS_6 := 627, t_CALLS_7 := 628, t_CALLS_8 := 629, t_CALLS_9 := 630, t_CALLS_10 := 631, t_CALLS_11 := 632, t_CALLS_12 := 633, t_CALLS_13 := 634, t_CALLS_14 := 635, t_CALLS_15 := 636, t_CALLS_16 := 637, t_CALLS_17 := 638, t_CALLS_18 := 639, t_CALLS_19 := 640, t_CALLS := 641, f_begin_answer := 493, f_cell_answer := 500, f_piece_answer := 507, f_forget_answer := 514, f_kept_answer := 521, f_dig_answer := 528, f_build_answer := 535, f_undo_answer := 542, f_changes_answer := 549, f_water_answer := 554, f_springs_answer := 561, f_houses_answer := 568, f_house_answer := 575, f_pass_answer := 582, f_raw_answer := 589, f_sum_answer := 596, f_way_answer := 601, f_level_answer := 606, f_state_answer := 613, f_highest_answer := 620 }
end Gs
namespace PySem.W.Fast
def tw16656507600804523384:=0
def tw658496961948516281:=0
def tw17146381975192909665:=0
def tw7785136237615067634:=0
def tw659048650824612399:=0
def tw10969250818307591826:=0
def tw4396900236294636435:=0
def tw6460905024336353693:=0
def tw8313126192748256191:=0
def tw1373303366668955402:=0
def tw539912947015178382:=0
def tw2203835806699213042:=0
def tw11820073373462205756:=0
def tw15795411032951745635:=0
def tw11806128412457500972:=0
def tw5530667954603210488:=0
def tw6710024987595294984:=0
def tw7279402860290722310:=0
def tw16202709088404926538:=0
def tw17066998061391435260:=0
def tw7247573243150885239:=0
def tw12668125871591047761:=0
def tw12363407752140555842:=0
def tw4871761131264846416:=0
def tw4934791612191260941:=0
def tw8520000503577219452:=0
def tw9781748076866598984:=0
def tw11135766654468501610:=0
def tw12938845036625077746:=0
def tw16249574594758096603:=0
def tw7284302125273722530:=0
def tw9001355800152772988:=0
def tw1796207689643293777:=0
def tw5133966987791985261:=0
def tw6269550153430407920:=0
def tw3666634046439254234:=0
def tw7464926279998819373:=0
def tw17622640515362783393:=0
def tw13942782953986111177:=0
def tw5814987119174782732:=0
def tw18347356258629504202:=0
def tw10408367147374545102:=0
def tw11857095840777369205:=0
def tw14791519379255447926:=0
def tw3961714790671347671:=0
def tw11785040098146914701:=0
def tw5695712726710708806:=0
def tw3946734597418598:=0
def tw15426241722909382767:=0
def tw2877525969021296885:=0
def tw3519572292698893929:=0
def tw10859528424700649559:=0
def tw171198739179725299:=0
def tw606299601919248663:=0
def tw4505732659660924932:=0
def tw13220004414972918321:=0
def tw6740529265382340050:=0
def tw12674295193628652429:=0
def tw3437281836036587661:=0
def tw12174230227754655520:=0
def tw1452616095600458567:=0
def tw13860342136933525970:=0
def tw10579130429864353740:=0
def tw2881423206744576548:=0
def tw13498157193578482520:=0
def tw17377771927349350651:=0
def tw8211308651684519270:=0
def tw10294489696767624638:=0
def tw3737211398501929456:=0
def tw4008306735834734569:=0
def tw4258291910256109737:=0
def tw14011371182971047878:=0
def tw11903541325046439332:=0
def tw324621374490184555:=0
def tw9260216653282284158:=0
def tw1307157598744686888:=0
def tw13145048888123558898:=0
def tw6664864143220304597:=0
def tw2846862127348326112:=0
def tw3039705655024917914:=0
def tw15926119605211575372:=0
def tw8433597233608208229:=0
def tw1270702638592403582:=0
def tw12258786071704782529:=0
def tw1193401395441047725:=0
def tw8277716105827133337:=0
def tw13299512201096173083:=0
def tw15965632397349270181:=0
def tw17920053743514352032:=0
def tw16546250984490305605:=0
def tw15703913432737587041:=0
def tw589967838778484156:=0
def tw8156396323225025659:=0
def tw12152624210303040112:=0
def tw8997342144034217311:=0
def tw4050922411825958447:=0
def tw4396456995297169448:=0
def tw6673295180431091106:=0
def tw13720181963457932612:=0
def tw6515743270343317140:=0
def tw12910746061870910448:=0
def tw14699258618165213335:=0
def tw3957491766727326306:=0
def tw2986447182944385415:=0
def tw17857592278151897900:=0
def tw3411121695816569158:=0
def tw12647022705218497347:=0
def tw14782096613204861568:=0
def tw10698932183553278274:=0
def tw18296918561192916097:=0
def tw10980940855900323475:=0
def tw6895065497769270572:=0
def tw16917162579670915134:=0
def tw5954063047664432945:=0
def tw2521229549384703352:=0
def tw14491330354950264302:=0
def tw1499552623052050366:=0
def tw5141926334595904845:=0
def tw1978168725251867441:=0
def tw6092571436013572746:=0
def tw16002900271243816396:=0
def tw9447799908884347233:=0
def tw3933966279695747615:=0
def tw5223349668203341927:=0
def tw11407205322523415520:=0
def tw12025370759886926088:=0
def tw2968609237451043836:=0
def tw166022614674961054:=0
def tw6820083053020277157:=0
def tw5183070229332608806:=0
def tw1990469002446746336:=0
def tw18012685688294684657:=0
def tw8276691575092016694:=0
def tw8020214763649210984:=0
def tw2729467489495748680:=0
def tw5411735537089411411:=0
def tw9770248781603493307:=0
def tw4952750978177481356:=0
def tw11285574273010742530:=0
def tw17423637340618255969:=0
def tw11197724520448566928:=0
def tw9890894860105713728:=0
def tw13790877019546626897:=0
def tw12363927396225056446:=0
def tw2154459607015947177:=0
def tw1485687606795596111:=0
def tw11607229925964890015:=0
def tw9073597257033218310:=0
def tw1842370125636784195:=0
def tw5712080924022730156:=0
def tw14809774595836994542:=0
def tw430879390524649111:=0
def tw17964511798994470101:=0
def tw144867213516689110:=0
def tw12691516191198155732:=0
def tw1860673504285116328:=0
def tw6099291748321019353:=0
def tw4888975225435653991:=0
def tw12923684677331890525:=0
def tw4993109116714991344:=0
def tw14778840036476085317:=0
def tw7346229174401549645:=0
def tw15824404612669237299:=0
def tw8971103718097232677:=0
def tw17025541964821413804:=0
def tw4107816908914035452:=0
def tw9435468982629963683:=0
def tw3693302213864132672:=0
def tw1027204421691240937:=0
def tw10716221251903695424:=0
def tw16532762148931034623:=0
def tw1486824443239658256:=0
def tw948673971973285720:=0
def tw2101523269642913575:=0
def tw4788039049826376332:=0
def tw15058826152428603397:=0
def tw4564331121332905658:=0
def tw2104276101241577408:=0
def tw4445029815234347712:=0
def tw15671156179820522814:=0
def tw17929169114170022381:=0
def tw5605816383220637639:=0
def tw15248223945629452833:=0
def tw15122216979381327159:=0
def tw3687460209207926602:=0
def tw15784616045015876316:=0
def tw9224289440319677954:=0
def tw12981431683497489547:=0
def tw17214624529218064642:=0
def tw2438972274200507100:=0
def tw12165945656629118532:=0
def tw7847065518502248876:=0
def tw9930429348492370577:=0
def tw15093104125653469893:=0
def tw4154620198176216193:=0
def tw17293222222125998474:=0
def tw5306062850427250469:=0
def tw8688888099805815891:=0
def tw17396030813030461685:=0
def tw9277306822376247696:=0
def tw702000092499418572:=0
def tw10235334923623349366:=0
def tw18375051352019095213:=0
def tw5012896237261631468:=0
def tw6865690816479717133:=0
def tw14217609278850680434:=0
def tw1874149589742001196:=0
def tw16016236198009281034:=0
def tw2793657745412049045:=0
def tw4976282047404766623:=0
def tw16040818846462664392:=0
def tw15044106175470772505:=0
def tw12336687972983062271:=0
def tw5140729427249186770:=0
def tw6868919043886683882:=0
def tw9903870347464676278:=0
def tw10142536586137595112:=0
def tw17473236299428061161:=0
def tw16155844522295423453:=0
def tw12115428343008723579:=0
def tw833257047427609689:=0
def tw1332824511256688770:=0
def tw11542345535412373168:=0
def tw17578011515296291940:=0
def tw18026985470186614931:=0
def tw913966521588451292:=0
def tw12538722202769424369:=0
def tw10396643299109692627:=0
def tw11773587995096507978:=0
def tw12364054272700424782:=0
def tw9214442406402172157:=0
def tw17293472536432822071:=0
def tw14039186532246325998:=0
def tw10704601472889290002:=0
def tw16969299456261702850:=0
def tw4475877480951020680:=0
def tw17881137193777864596:=0
def tw18395395176559399515:=0
def tw13544219730825059757:=0
def tw6719936909457850176:=0
def tw9202031268247922233:=0
def tw4577297533118428845:=0
def tw1328515155177805382:=0
def tw3608124454267492872:=0
def tw10482336997455988586:=0
def tw8457838710331912897:=0
def tw13282977392391100491:=0
def tw9617021905100342253:=0
def tw17132024880733806697:=0
def tw18325212731548053180:=0
def tw284398820267030424:=0
def tw12848157807907250694:=0
def tw1730334310069963839:=0
def tw12629908337883129918:=0
def tw12249911183664836091:=0
def tw6459474857023011086:=0
def tw10859466594943468779:=0
def tw15092004743158209593:=0
def tw11366830644175446448:=0
def tw5712243915426216420:=0
def tw16502995880683666846:=0
def tw14622163908581560243:=0
def tw2468335105977523081:=0
def tw10106355747813503090:=0
def tw14395564615727860540:=0
def tw14104323184373771027:=0
def tw18222182793113647932:=0
def tw4446959939309745460:=0
def tw8274790249033238713:=0
def tw5175081648381036067:=0
def tw17049183883803373186:=0
def tw6425859937143467206:=0
def tw8680415412858755906:=0
def tw5693474719493655265:=0
def tw15624453155153964279:=0
def tw412339738402380295:=0
def tw15246012551951692058:=0
def tw13463652032573967773:=0
def tw18076362265539385395:=0
def tw1940494387490050533:=0
def tw6127730401410944590:=0
def tw7805987393490193673:=0
def tw9298058211457257804:=0
def tw11958004708340759991:=0
def tw10141749163180098615:=0
def tw4816443935485627594:=0
def tw14786991274338741519:=0
def tw15666291997768844622:=0
def tw12322260526209255087:=0
def tw16738597431549402850:=0
def tw15899618909026169336:=0
def tw4502432795524928590:=0
def tw13813812731361347561:=0
def tw18153686854818113829:=0
def tw15768887962485431992:=0
def tw4233579588682919718:=0
def tw8504275149219295469:=0
def tw4520139942275120635:=0
def tw6695790673898395182:=0
def tw1874194336804409147:=0
def tw13462618691518757127:=0
def tw12907149138383297391:=0
def tw16938686170896021713:=0
def tw9119937903623238264:=0
def tw724422563220558522:=0
def tw3399308604093338576:=0
def tw2511707016187046692:=0
def tw7920011194821218205:=0
def tw5083520040039646506:=0
def tw1742791675706587037:=0
def tw16200828064992889735:=0
def tw18354348447772258798:=0
def tw3558172826729773016:=0
def tw13690020252989526918:=0
def tw741692869603674362:=0
def tw8199409904195662661:=0
def tw14302234317664914978:=0
def tw8462418481378419799:=0
def tw17600157592029775941:=0
def tw1246446229704776386:=0
def tw15057553318464021309:=0
def tw17439560212924302523:=0
def tw1438594673933670956:=0
def tw1821200139993534347:=0
def tw6117285275170405971:=0
def tw15931503076012754677:=0
def tw14878380107875493740:=0
def tw126733561486247466:=0
def tw15448405073016920313:=0
def tw8622773503611654893:=0
def tw4961664984327713303:=0
def tw5689201693823239899:=0
def tw11516179663450777991:=0
def tw11775772851266813646:=0
def tw4360822603830827456:=0
def tw8899835875805488915:=0
def tw8829919099239047287:=0
def tw5504651421602143351:=0
def tw3904378875535203255:=0
def tw7080906582651576267:=0
def tw12935082136817282557:=0
def tw6332789210772111726:=0
def tw2933228456197642468:=0
def tw12760378516252851539:=0
def tw3192515098771282482:=0
def tw11807509133516519265:=0
def tw6745477278281116338:=0
def tw12356267735791821927:=0
def tw18144113756638519678:=0
def tw2335078486052292797:=0
def tw12214885131362337428:=0
def tw17427802644687873967:=0
def tw13437603801431655652:=0
def tw15851955226140857745:=0
def tw8639754104307916596:=0
def tw26802795757443390:=0
def tw813708542752084983:=0
def tw6987997799778310445:=0
def tw4072403755396715449:=0
def tw6905160119505808583:=0
def tw9307022746842242998:=0
def tw662221092040024770:=0
def tw13568494510723476624:=0
def tw5281990244660673323:=0
def tw11580327900979130126:=0
def tw16941962233812066291:=0
def tw6649303446405657636:=0
def tw1143993588462851103:=0
def tw17540665584650102766:=0
def tw13754248942992735975:=0
def tw12163612786374314712:=0
def tw12111474563842967000:=0
def tw17880188583709158581:=0
def tw17290769696157975585:=0
def tw15310709405604053899:=0
def tw8529798795771566267:=0
def tw10023145733855817819:=0
def tw10236207352946717387:=0
def tw1427695239084993585:=0
def tw14459606800472375202:=0
def tw8444837479081326872:=0
def tw8669240371236741895:=0
def tw14011209459191163752:=0
def tw2448223049708962849:=0
def tw8331848114576159587:=0
def tw1513472113751581560:=0
def tw10083905714322142353:=0
def tw2333415433951102196:=0
def tw12519725629298701656:=0
def tw5551120465538214136:=0
def tw8970476882914330447:=0
def tw12533243337371212388:=0
def tw16478273371874467622:=0
def tw6489849400451569108:=0
def tw14367658451267830264:=0
def tw8716797831835606087:=0
def tw13441405445472945521:=0
def tw6651656970178469534:=0
def tw1894506291358042834:=0
def tw14431992950990359540:=0
def tw10715265254165227550:=0
def tw7608587447370596258:=0
def tw16555852697530065712:=0
def tw13474483915852406443:=0
def tw12914841635860946425:=0
def tw12046111846682796161:=0
end PySem.W.Fast
open PySem PySem.W PyProof.Rows
local macro_rules | `(tactic| walk_at "top") => `(tactic| ((first | (dsimp only [Gs.ads]) | skip); first
  | ((with_reducible refine' Gs.int_in ?e); (case e => k_is))
  | ((with_reducible refine' Gs.tup_in ?l ?h ?v); (case l => k_is); (case h => decide); (case v => repeat (first | exact .nil | refine .cons rfl ?_ | refine .cons ⟨_, rfl⟩ ?_)))
  | ((with_reducible refine' Gs.def_in ?e ?l ?c ?k); (case e => k_is); (case l => k_is); (case c => k_is); (case k => k_is))
  | ((with_reducible refine' Gs.ans_in ?l ?c ?k); (case l => k_is); (case c => k_is); (case k => k_is))
  | ((with_reducible refine' Gs.mth_in ?e ?i ?l ?c ?k); (case e => k_is); (case i => k_is); (case l => k_is); (case c => k_is); (case k => k_is))
  | k_is))
set_option maxRecDepth 100000 in
theorem PySem.Challenge.cw_groundseen_s01_answers_holds : PySem.Challenge.rw_groundseen_s01_answers.Holds := by
  w_on; have hs := Gs.said; k_headS; (case hw => exact ⟨[.list [.int 18]], by decide +kernel, by decide +kernel⟩)
  k_fillS
  refine L2.walk_specK (r := PySem.Challenge.rw_groundseen_s01_answers) (k := 16) (CX := L2.CX0) (ps := ["calls"]) (sp := Gs.je) (by decide +kernel) rfl rfl ⟨rfl, by decide, by decide⟩ (fun w h Y => PySem.W.kIn_of Y) ?F ?S (fun _ _ _ _ z => z)
  case F =>
    intro w mg fa h Y KX G hmg
    refine Gs.top_all (A := Gs.ads) ?_ KX G hmg
    constructor
    all_goals walk_at "top"
  case S =>
    intro K H xs a hO hwi hask hx
    cases hx with
    | cons h1 h2 =>
      cases h2
      cases h1 with
      | lst hs ha =>
        have e := L2.zBt a.1 _ ha
        subst e
        have q : ((Codec.inLen 0 17000 a.1 && a.1.all (Codec.inInt (-1000000000000000000) 1000000000000000000)) && true) = true := hwi
        rw [Bool.and_eq_true, Bool.and_eq_true] at q
        exact ⟨_, a.1, rfl, hs, (Codec.inNat_iff.mp q.1.1).2, hask, fun H' p hp => .lst (L2.SqL.of hp) (L2.zBv _)⟩
