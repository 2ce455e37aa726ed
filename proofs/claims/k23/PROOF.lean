import PyProof.Rows.All
import Wide.All
import OpenK.AllK
import Wide.FinOn
import Lean
import PyProof.EqAt
import PyProof.EqKinds
import PyProof.TupleCall
import PySem.Challenge.RW_faultwhy_k23_covers_of_twelve
set_option Elab.async false
set_option linter.all false
set_option maxRecDepth 100000
namespace L2
open PySem PySem.Spec PyProof.Rows
noncomputable abbrev Key:=Sum Int Str
noncomputable def keyIs:Key→Value→Bool
 | .inl k,v=>Value.isInt k v
 | .inr x,v=>Value.isStrOf x v
noncomputable def keyH(w:World):Key→Int
 | .inl k=>hashInt k
 | .inr x=>hashStr w x
theorem keyIs_shape: ∀{k:Key} {v:Value},keyIs k v=true→(∃i t,k=Sum.inl i∧v=Value.int i t)∨(∃x t,k=Sum.inr x∧v=Value.str x t)
 | .inl i,v,h=>by
  obtain⟨t,e⟩:=Value.isInt_shape (k:=i) (v:=v) h
  exact .inl ⟨i,t,rfl,e⟩
 | .inr x,v,h=>by
  obtain⟨t,e⟩:=Value.isStrOf_shape (x:=x) (v:=v) h
  exact .inr ⟨x,t,rfl,e⟩
theorem keyIs_int(i:Int)(t:Tok):keyIs (.inl i) (.int i t)=true:=by simp[keyIs,Value.isInt]
theorem keyIs_str(x:Str)(t:Tok):keyIs (.inr x) (.str x t)=true:=by simp[keyIs,Value.isStrOf]
theorem key_ll(a b:Int):decide ((Sum.inl a:Key)=Sum.inl b)=(a==b):=by
 by_cases e:a=b
 ·subst e;simp
 ·have h: ¬(Sum.inl a:Key)=Sum.inl b:=λq=>e (Sum.inl.inj q)
  rw[decide_eq_false h]
  exact(beq_eq_false_iff_ne.mpr e).symm
theorem key_rr(a b:Str):decide ((Sum.inr a:Key)=Sum.inr b)=decide (a=b):=by
 by_cases e:a=b
 ·subst e;simp
 ·have h: ¬(Sum.inr a:Key)=Sum.inr b:=λq=>e (Sum.inr.inj q)
  rw[decide_eq_false h,decide_eq_false e]
theorem key_lr(a:Int)(b:Str):decide ((Sum.inl a:Key)=Sum.inr b)=false:=decide_eq_false (λq=>nomatch q)
theorem key_rl(a:Str)(b:Int):decide ((Sum.inr a:Key)=Sum.inl b)=false:=decide_eq_false (λq=>nomatch q)
noncomputable def mixKind(prog:Program)(w:World):PySem.KeyKind prog w Key where
 is:=keyIs
 hash:=keyH w
 inj:=λv a b ha hb=>by
  rcases keyIs_shape ha with⟨i,t,rfl,rfl⟩|⟨x,t,rfl,rfl⟩
  ·rcases keyIs_shape hb with⟨j,u,rfl,e⟩|⟨y,u,rfl,e⟩
   ·injection e with e1 _;rw[e1]
   ·exact nomatch e
  ·rcases keyIs_shape hb with⟨j,u,rfl,e⟩|⟨y,u,rfl,e⟩
   ·exact nomatch e
   ·injection e with e1 _;rw[e1]
 byValue:=λk v h=>by
  rcases keyIs_shape h with⟨i,t,rfl,rfl⟩|⟨x,t,rfl,rfl⟩<;>rfl
 pyHash:=λhv h=>by
  rcases keyIs_shape hv with⟨i,t,rfl,rfl⟩|⟨x,t,rfl,rfl⟩
  ·exact wpAny_pyHash_int h
  ·exact wpAny_pyHash_str h
 eqBool:=λhu hv h=>by
  rcases keyIs_shape hu with⟨i,t,rfl,rfl⟩|⟨x,t,rfl,rfl⟩
  ·rcases keyIs_shape hv with⟨j,u,rfl,rfl⟩|⟨y,u,rfl,rfl⟩
   ·rw[key_ll] at h;exact wpAny_eqBool_int h
   ·rw[key_lr] at h;exact SeqAt.EqAt.int_str i t y u _ _ _ _ h
  ·rcases keyIs_shape hv with⟨j,u,rfl,rfl⟩|⟨y,u,rfl,rfl⟩
   ·rw[key_rl] at h;exact SeqAt.EqAt.str_int x t j u _ _ _ _ h
   ·rw[key_rr] at h;exact wpAny_eqBool_str h
 «strs»:=λk x t v h=>by
  rcases keyIs_shape h with⟨i,u,rfl,e⟩|⟨y,u,rfl,e⟩
  ·exact nomatch e
  ·injection e with e1 _
   subst e1
   cases v<;>rfl
theorem mixKind_int(prog:Program)(w:World)(i:Int)(t:Tok):(mixKind prog w).is (.inl i) (.int i t)=true:=keyIs_int i t
theorem mixKind_str(prog:Program)(w:World)(x:Str)(t:Tok):(mixKind prog w).is (.inr x) (.str x t)=true:=keyIs_str x t
end L2
namespace L2
open PySem PySem.Spec PyProof.Rows
inductive V where
 |non|bl (b:Bool)|int (i:Int)|str (x:Str)|byt (b:Array UInt8)|flt (b:UInt64)|ref (a:Addr)|ty (n:String)
 deriving DecidableEq
noncomputable def RelV:V→Value→Prop
 | .non,u=>u=Value.none
 | .bl b,u=>u=Value.bool b
 | .int i,u=> ∃t,u=Value.int i t
 | .str x,u=> ∃t,u=Value.str x t
 | .byt b,u=> ∃t,u=Value.bytes b t
 | .flt b,u=> ∃t,u=Value.float b t
 | .ref a,u=>u=Value.ref a
 | .ty n,u=>u=Value.type n
noncomputable abbrev Vals:List V→List Value→Prop:=Paired RelV
theorem Vals.length{xs:List V}{us:List Value}(r:Vals xs us):xs.length=us.length:=Paired.length r
theorem Vals.get: ∀{xs:List V} {us:List Value} {i:Nat} {x:V},Vals xs us→xs[i]? =some x→∃u,us[i]? =some u∧RelV x u
 |_,_,_,_,.nil,e=>by simp at e
 |_,_,0,_,.cons r _,e=>by simp at e;subst e;exact⟨_,rfl,r⟩
 |_,_,i+1,x,.cons _ t,e=>by
  obtain⟨u,h1,h2⟩:=Vals.get (i:=i) (x:=x) t (by simpa using e)
  exact⟨u,by simpa using h1,h2⟩
theorem Vals.set{x:V}{u:Value}(r:RelV x u): ∀{xs:List V} {us:List Value} (i:Nat),Vals xs us→Vals (xs.set i x) (us.set i u)
 |_,_,_,.nil=>.nil
 |_,_,0,.cons _ t=>.cons r t
 |_,_,i+1,.cons q t=>.cons q (Vals.set r i t)
theorem Vals.append: ∀{xs ys:List V} {us ws:List Value},Vals xs us→Vals ys ws→Vals (xs++ys) (us++ws)
 |_,_,_,_,.nil,s=>s
 |_,_,_,_,.cons r t,s=>.cons r (Vals.append t s)
theorem Vals.take: ∀{xs:List V} {us:List Value} (n:Nat),Vals xs us→Vals (xs.take n) (us.take n)
 |_,_,0,_=>.nil
 |_,_,_+1,.nil=>.nil
 |_,_,n+1,.cons r t=>.cons r (Vals.take n t)
theorem Vals.drop: ∀{xs:List V} {us:List Value} (n:Nat),Vals xs us→Vals (xs.drop n) (us.drop n)
 |_,_,0,r=>r
 |_,_,_+1,.nil=>.nil
 |_,_,n+1,.cons _ t=>Vals.drop n t
noncomputable def RelO:Option V→Option Value→Prop
 |some v,some u=>RelV v u
 |none,none=>True
 |_,_=>False
noncomputable def KV{κ:Type}:List (κ×V)→List (κ×Value)→Prop:=Paired λ(p:κ×V) (q:κ×Value)=>p.1=q.1∧RelV p.2 q.2
noncomputable def kV:Key→V
 | .inl i=>.int i
 | .inr x=>.str x
inductive HO where
 /-- a list -/
 |lst (xs:List V)
 /-- a tuple (never changes) -/
 |tup (xs:List V)
 /-- a dict whose keys are ints and texts;one whose keys are tuples of ints and texts (the empty one is both) -/
 |dK (kvs:List (Key×V))|dT (kvs:List (List Key×V))
 /-- a set of ints:its members,its size -/
 |set (S:Int→Bool) (n:Nat)
 /-- an instance of the class at C,its dict at dx,its attributes -/
 |ins (C dx:Addr) (fs:List (Str×V))
 /-- the dict of the instance at x -/
 |own (x:Addr)
 /-- the dict of an exception -/
 |xd (fs:List (Str×V))
 /-- a bound method,f of x -/
 |met (f x:Addr)
 /-- a range object lo,lo+1,.. below hi -/
 |rng (lo hi:Int)
 /-- a thing that is known to the object (the script;a dict while a loop walks it):read,never written while it is so -/
 |frz (o:Obj) (u:HO)
 /-- a code object's table -/
 |tbl (ps:Array Value)
 /-- any other thing,by what is true of its one object (a def of one's own:SetO a S n:=HO.ext λh=>..) -/
 |ext (φ:Heap→Prop)
noncomputable abbrev Hp:=Addr→Option HO
noncomputable def upd(H:Hp)(a:Addr)(o:HO):Hp:=λb=>if b=a then some o else H b
theorem upd_same{H:Hp}{a:Addr}{o:HO}:upd H a o a=some o:=by unfold upd;rw[if_pos rfl]
theorem upd_ne{H:Hp}{a b:Addr}{o:HO}(h:b≠a):upd H a o b=H b:=by unfold upd;rw[if_neg h]
theorem ne_of{H:Hp}{a b:Addr}{o u:HO}(h:H a=some o)(h':H b=some u)(d:o≠u):a≠b:=by
 intro e;subst e;rw[h] at h';exact d (Option.some.inj h')
theorem ne_of_none{H:Hp}{a b:Addr}{o:HO}(h:H a=some o)(h':H b=none):a≠b:=by
 intro e;subst e;rw[h] at h';cases h'
section
variable (P:Program) (w:World)
noncomputable def ObjOk(H:Hp)(h:Heap)(a:Addr):HO→Prop
 | .lst xs=>xs.length≤sizeLine∧∃(its:List Value) (n:Nat),Vals xs its∧h.get? a=some {cls:=.type "list",data:=.seq its.toArray n}
 | .tup xs=>xs.length≤sizeLine∧∃its:List Value,Vals xs its∧IsTup h a its.toArray
 | .dK kvs=>kvs.length≤sizeLine∧(a==sysModules)=false∧∃vs,KV kvs vs∧h.DictOf (mixKind P w) a vs
 | .dT kvs=>kvs.length≤sizeLine∧(a==sysModules)=false∧∃xs:List (List Key×Addr×Value),
   Paired (λ(p:List Key×V) (q:List Key×Addr×Value)=>p.1=q.1∧H q.2.1=some (.tup (p.1.map kV))∧RelV p.2 q.2.2) kvs xs∧
   ∃o es ep,h.get? a=some o∧o.ExactDict∧o.data=.dict es ep∧es.toList=xs.map (entryOfKey (tupleKind (mixKind P w)))∧(xs.map (·.1)).Nodup
 | .set S n=>h.SetOf (intKind P w) a S n
 | .ins C dx fs=>H dx=some (.own a)∧fs.length≤1000∧dx≠a∧h.get? a=some (PySem.W.instObj C dx)∧
   ∃mA,h.Ns1 dx mA∧(∀f,RelO (fs.lookup f) (mA f))∧PySem.Within mA (fs.map (·.1))
 | .own _=> ∃o,h.get? a=some o
 | .xd fs=> ∃mA,h.Ns1 a mA∧∀f,RelO (fs.lookup f) (mA f)
 | .rng lo hi=> ∃t u v,h.get? a=some {cls:=.type "range",data:=.fields #[.int lo t,.int hi u,.int 1 v]}
 | .frz o u=>h.get? a=some o∧ObjOk H h a u
 | .tbl ps=>h.get? a=some {cls:=.none,data:=.fields ps}
 | .met f x=>h.get? a=some (PySem.W.methodObj (.ref f) (.ref x))
 | .ext φ=>φ h∧(∃o,h.get? a=some o)∧∀h1 h2:Heap,φ h1→(∀o,h1.get? a=some o→h2.get? a=some o)→φ h2
noncomputable def HOk(H:Hp)(h:Heap):Prop:= ∀a o,H a=some o→ObjOk P w H h a o
end
section
variable {P:Program} {w:World} {H H':Hp} {h h':Heap} {a:Addr} {o:HO}
theorem ObjOk.lt(x:ObjOk P w H h a o):a<h.objs.size:=by
 cases o with
 |lst xs=>obtain⟨_,_,_,_,e⟩:=x;exact Heap.lt_size e
 |tup xs=>obtain⟨_,_,_,p⟩:=x;exact p.lt
 |dK kvs=>obtain⟨_,_,_,_,o,_,_,e,_⟩:=x;exact Heap.lt_size e
 |dT kvs=>obtain⟨_,_,_,_,o,_,_,e,_⟩:=x;exact Heap.lt_size e
 |set S n=>obtain⟨o,_,_,_,e,_⟩:=x;exact Heap.lt_size e
 |ins C dx fs=>obtain⟨_,_,_,e,_⟩:=x;exact Heap.lt_size e
 |own y=>obtain⟨_,e⟩:=x;exact Heap.lt_size e
 |xd fs=>obtain⟨_,⟨_,_,_,e,_⟩,_⟩:=x;exact Heap.lt_size e
 |rng lo hi=>obtain⟨_,_,_,e⟩:=x;exact Heap.lt_size e
 |frz ob u=>obtain⟨e,_⟩:=x;exact Heap.lt_size e
 |tbl ps=>exact Heap.lt_size (show h.get? a=some _ from x)
 |met f y=>exact Heap.lt_size (show h.get? a=some _ from x)
 |ext φ=>obtain⟨_,⟨_,e⟩,_⟩:=x;exact Heap.lt_size e
theorem Paired.mapP{α β:Type}{F G:α→β→Prop}: ∀{l₁:List α} {l₂:List β},Paired F l₁ l₂→(∀a b,F a b→G a b)→Paired G l₁ l₂
 |_,_,.nil,_=>.nil
 |_,_,.cons r t,f=>.cons (f _ _ r) (Paired.mapP t f)
theorem ObjOk.stay(x:ObjOk P w H h a o)(k: ∀b u,(b=a∨H b=some (.own a))→h.get? b=some u→h'.get? b=some u)
  (ho: ∀b,H b=some (.own a)→H' b=some (.own a)) (ht: ∀b xs,H b=some (.tup xs)→H' b=some (.tup xs)):ObjOk P w H' h' a o:=by
 induction o with
 |lst xs=>obtain⟨z,its,n,r,e⟩:=x;exact⟨z,its,n,r,k _ _ (.inl rfl) e⟩
 |tup xs=>obtain⟨z,its,r,ob,e,c⟩:=x;exact⟨z,its,r,ob,k _ _ (.inl rfl) e,c⟩
 |dK kvs=>obtain⟨z,y,vs,r,ob,es,ep,e,c⟩:=x;exact⟨z,y,vs,r,ob,es,ep,k _ _ (.inl rfl) e,c⟩
 |dT kvs=>
  obtain⟨z,y,xs,r,ob,es,ep,e,c⟩:=x
  exact⟨z,y,xs,Paired.mapP r λp q z=>⟨z.1,ht _ _ z.2.1,z.2.2⟩,ob,es,ep,k _ _ (.inl rfl) e,c⟩
 |set S n=>obtain⟨ob,es,ep,t,e,c⟩:=x;exact⟨ob,es,ep,t,k _ _ (.inl rfl) e,c⟩
 |ins C dx fs=>
  obtain⟨d,z,ne,e,mA,⟨od,es,ep,e2,c⟩,r⟩:=x
  exact⟨ho _ d,z,ne,k _ _ (.inl rfl) e,mA,⟨od,es,ep,k _ _ (.inr d) e2,c⟩,r⟩
 |own y=>obtain⟨ob,e⟩:=x;exact⟨ob,k _ _ (.inl rfl) e⟩
 |xd fs=>obtain⟨mA,⟨od,es,ep,e,c⟩,r⟩:=x;exact⟨mA,⟨od,es,ep,k _ _ (.inl rfl) e,c⟩,r⟩
 |rng lo hi=>obtain⟨t,u,v,e⟩:=x;exact⟨t,u,v,k _ _ (.inl rfl) e⟩
 |frz ob u ih=>obtain⟨e,q⟩:=x;exact⟨k _ _ (.inl rfl) e,ih q⟩
 |tbl ps=>
  have e:h.get? a=some {cls:=.none,data:=.fields ps}:=x
  show h'.get? a=some {cls:=.none,data:=.fields ps}
  exact k a _ (.inl rfl) e
 |met f y=>
  have e:h.get? a=some (PySem.W.methodObj (.ref f) (.ref y)):=x
  show h'.get? a=some (PySem.W.methodObj (.ref f) (.ref y))
  exact k a _ (.inl rfl) e
 |ext φ=>obtain⟨p,⟨o,e⟩,st⟩:=x;exact⟨st _ _ p λo q=>k _ _ (.inl rfl) q,⟨o,k _ _ (.inl rfl) e⟩,st⟩
theorem HOk.lt(x:HOk P w H h)(e:H a=some o):a<h.objs.size:=(x a o e).lt
theorem HOk.fresh(x:HOk P w H h)(e:h.objs.size≤a):H a=none:=by
 cases q:H a with
 |none=>rfl
 |some u=>exact absurd (Nat.lt_of_lt_of_le (x.lt q) e) (Nat.lt_irrefl _)
theorem HOk.kept(x:HOk P w H h)(k: ∀b u,h.get? b=some u→h'.get? b=some u):HOk P w H h':=λa o e=>
 (x a o e).stay (λb u _ q=>k b u q) (λ_ q=>q) λ_ _ q=>q
theorem HOk.laid(x:HOk P w H h)(k: ∀b u,h.get? b=some u→h'.get? b=some u)(hp:h.objs.size≤a)(new:ObjOk P w (upd H a o) h' a o):HOk P w (upd H a o) h':=λb u e=>by
 have hn:=x.fresh hp
 by_cases hb:b=a
 ·subst hb;rw[upd_same] at e;cases e;exact new
 ·rw[upd_ne hb] at e
  exact(x b u e).stay (λc v _ q=>k c v q) (λc q=>by rw[upd_ne (ne_of_none q hn)];exact q) λc xs q=>by rw[upd_ne (ne_of_none q hn)];exact q
end
noncomputable def Rd(H:Hp)(a:Addr)(u:HO):Prop:=H a=some u∨∃o,H a=some (.frz o u)
theorem Rd.ok{P:Program}{w:World}{H:Hp}{h:Heap}{a:Addr}{u:HO}(r:Rd H a u)(x:HOk P w H h):ObjOk P w H h a u:=by
 rcases r with r|⟨o,r⟩
 ·exact x a u r
 ·obtain⟨_,q⟩:=x a _ r
  exact q
noncomputable def Mut:Option HO→Prop
 |some (.lst _)=>True
 |some (.dK _)=>True
 |some (.dT _)=>True
 |some (.set _ _)=>True
 |some (.ins _ _ _)=>True
 |some (.ext _)=>True
 |_=>False
section
variable {P:Program} {w:World} {H:Hp} {h h':Heap} {x e:Addr} {o':HO}
theorem HOk.write(ok:HOk P w H h)(mu:Mut (H x))(he:e=x∨H e=some (.own x))(k: ∀b u,b≠e→h.get? b=some u→h'.get? b=some u)(heo: ∃u,h'.get? e=some u)
  (new:ObjOk P w (upd H x o') h' x o'):HOk P w (upd H x o') h':=λb u q=>by
 have nown: ∀c y,H c=some (.own y)→c≠x:=λc y r z=>by subst z;rw[r] at mu;exact mu
 have ntup: ∀c xs,H c=some (.tup xs)→c≠x:=λc xs r z=>by subst z;rw[r] at mu;exact mu
 by_cases hb:b=x
 ·subst hb;rw[upd_same] at q;cases q;exact new
 ·rw[upd_ne hb] at q
  by_cases hbe:b=e
  ·have q':H b=some (.own x):=by
    rcases he with z|z
    ·exact absurd (hbe.trans z) hb
    ·rw[hbe];exact z
   rw[q] at q';cases q'
   obtain⟨v,hv⟩:=heo
   exact⟨v,by rw[hbe];exact hv⟩
  ·refine(ok b u q).stay (λc v hc r=>k c v ?_ r) (λc r=>by rw[upd_ne (nown c b r)];exact r) λc xs r=>by rw[upd_ne (ntup c xs r)];exact r
   rcases hc with rfl|hc
   ·exact hbe
   ·rintro rfl
    rcases he with z|z
    ·exact nown c b hc z
    ·rw[hc] at z;cases z;exact hb rfl
end
structure Un(fs ex:List Addr)(H H':Hp)(h h':Heap):Prop where
 keep: ∀b o,h.get? b=some o→H b=none→b∉fs→b∉ex→h'.get? b=some o
 slot: ∀b o,h.get? b=some o→H b=none→b∈fs→b∉ex→∃sl,h'.get? b=some {o with slots:=sl}
 free: ∀b o,h.get? b=some o→H b=none→b∉ex→H' b=none
 there: ∀b o,h.get? b=some o→b∉ex→∃o',h'.get? b=some o'
 tups: ∀b xs,H b=some (.tup xs)→H' b=some (.tup xs)
 frzs: ∀b o u,H b=some (.frz o u)→H' b=some (.frz o u)
 tbls: ∀b ps,H b=some (.tbl ps)→∃more,H' b=some (.tbl (ps++more))
section
variable {fs fs' ex ex':List Addr} {H H1 H2:Hp} {h h1 h2 h':Heap} {a x e:Addr} {o:HO}
theorem Un.any(u:Un fs ex H H1 h h1){b:Addr}{ob:Obj}(q:h.get? b=some ob)(n:H b=none)(hx:b∉ex): ∃sl,h1.get? b=some {ob with slots:=sl}:=by
 by_cases hb:b∈fs
 ·exact u.slot b ob q n hb hx
 ·exact⟨ob.slots,u.keep b ob q n hb hx⟩
theorem Un.kept(k: ∀b u,h.get? b=some u→h'.get? b=some u):Un fs ex H H h h':=
 ⟨λb ob q _ _ _=>k b ob q,λb ob q _ _ _=>⟨ob.slots,k b ob q⟩,λ_ _ _ n _=>n,λb ob q _=>⟨ob,k b ob q⟩,λ_ _ q=>q,λ_ _ _ q=>q,λ_ ps q=>⟨#[],by rw[q];simp⟩⟩
theorem Un.refl:Un fs ex H H h h:=Un.kept λ_ _ q=>q
theorem Un.laid(k: ∀b u,h.get? b=some u→h'.get? b=some u)(hp:h.objs.size≤a)(hn:H a=none):Un fs ex H (upd H a o) h h' where
 keep:=λb u q _ _ _=>k b u q
 slot:=λb u q _ _ _=>⟨u.slots,k b u q⟩
 free:=λb u q n _=>by rw[upd_ne (Nat.ne_of_lt (Nat.lt_of_lt_of_le (Heap.lt_size q) hp))];exact n
 there:=λb u q _=>⟨u,k b u q⟩
 tups:=λb xs q=>by rw[upd_ne (ne_of_none q hn)];exact q
 frzs:=λb u xs q=>by rw[upd_ne (ne_of_none q hn)];exact q
 tbls:=λb ps q=>⟨#[],by rw[upd_ne (ne_of_none q hn),q];simp⟩
theorem Un.write(mu:Mut (H x))(he:e=x∨H e=some (.own x))(k: ∀b u,b≠e→h.get? b=some u→h'.get? b=some u)(heo: ∃u,h'.get? e=some u):Un fs ex H (upd H x o) h h':=by
 have hx: ∀b,H b=none→b≠x:=λb n z=>by subst z;rw[n] at mu;exact mu
 have hb: ∀b,H b=none→b≠e:=λb n z=>by
  subst z
  rcases he with r|r
  ·exact hx b n r
  ·rw[n] at r;cases r
 have hm: ∀b u,H b=some u→¬Mut (some u)→b≠x:=λb u q nm z=>by subst z;rw[q] at mu;exact nm mu
 refine⟨λb u q n _ _=>k b u (hb b n) q,λb u q n _ _=>⟨u.slots,k b u (hb b n) q⟩,λb u q n _=>by rw[upd_ne (hx b n)];exact n,λb u q _=> ?_,
  λb xs q=>by rw[upd_ne (hm b _ q λz=>z)];exact q,λb u xs q=>by rw[upd_ne (hm b _ q λz=>z)];exact q,λb ps q=>⟨#[],by rw[upd_ne (hm b _ q λz=>z),q];simp⟩⟩
 by_cases hbe:b=e
 ·subst hbe;exact heo
 ·exact⟨u,k b u hbe q⟩
end
noncomputable def trk(h:Heap)(H:Hp):List Addr:=(List.range h.objs.size).filter λa=>(H a).isSome
noncomputable def hidT(h:Heap)(H:Hp):Heap:=PySem.W.hideAll h (trk h H)
theorem hidT_size(h:Heap)(H:Hp):(hidT h H).objs.size=h.objs.size:=PySem.W.hideAll_size _ _
theorem hidT_get{h:Heap}{H:Hp}{b:Addr}{o:Obj}(e:h.get? b=some o)(n:H b=none):(hidT h H).get? b=some o:=
 PySem.W.hideAll_get _ e λhm=>by
  have q:(H b).isSome=true:=(List.mem_filter.mp hm).2
  rw[n] at q;simp at q
theorem of_hidT{h:Heap}{H:Hp}{b:Addr}{o:Obj}(e:(hidT h H).get? b=some o):h.get? b=some o∧H b=none:=by
 have e':h.get? b=some o:=PySem.W.of_hideAll (trk h H) e
 refine⟨e',?_⟩
 cases q:H b with
 |none=>rfl
 |some x=>
  have hm:b∈trk h H:=List.mem_filter.mpr ⟨List.mem_range.mpr (Heap.lt_size e'),by simp[q]⟩
  have z:(hidT h H).get? b=none:=PySem.W.hideAll_none (trk h H) hm
  rw[z] at e;cases e
noncomputable def allNews(g h:Heap)(L:Addr):List (Addr×Obj):=(List.range h.objs.size).filterMap λa=>if a=L∨(g.get? a).isSome=true then none else(h.get? a).map λo=>(a,o)
noncomputable def rest(g h:Heap)(L d:Addr):List (Addr×Obj):=(allNews g h L).filter λp=>decide (p.1≠d)
end L2
namespace L2
open PySem PySem.Spec PyProof.Rows
structure Mod(K:PySem.W.Frag)(mg:Str→Option Value)(base:Heap):Prop where
 kin:K.In base
 glob:base.Ns mainGlobals mg
 blt: ∃mb,base.Ns builtinsNs mb∧∀x:Str,x≠"__name__"→mb x=bootBuiltins x
 nolimit:base.NoLimit
structure Cx where
 prog:Program
 w:World
 K:PySem.W.Frag
 mg:Str→Option Value
 base:Heap
 A:Around
 N:List Str
 s₀:Shared
 H₀:Hp
 env:Env
 outer:List Env
 stack:List Env
 ex:List Addr
 fn:Str→Bool
 calm:Bool
 pn:List (Addr×Obj)
 xe:Value→Shared→Prop
noncomputable def frs(l:List Env):List Addr:=l.filterMap (·.frame)
noncomputable abbrev Cx.fs(X:Cx):List Addr:=frs X.outer
noncomputable def Vis(sc:Scope)(x:Str):Prop:=sc.names.lookup x=some .local∨sc.names.lookup x=some .cell∨sc.names.lookup x=some .free
noncomputable def Loc(sc:Scope)(x:Str):Prop:=sc.names.lookup x=some .local∨sc.names.lookup x=some .cell
noncomputable def Look(env:Env)(h:Heap)(m:Str→Option Value)(x:Str)(u:Value):Prop:=
 (env.kindOf x=some .local∧m x=some u)∨((env.kindOf x=some .cell∨env.kindOf x=some .free)∧∃c,env.cells.lookup x=some c∧h.IsCell c (some u))
structure Cx.Ok(X:Cx):Prop where
 mod:Mod X.K X.mg X.base
 kind:X.env.scope.kind=.function
 glob:X.env.globals=mainGlobals
 blt:X.env.builtins=builtinsNs
 above:X.s₀.heap.objs.size≤X.env.locals
 inj: ∀x y c,X.env.cells.lookup x=some c→X.env.cells.lookup y=some c→x=y
 has: ∀x,(X.env.kindOf x=some .cell∨X.env.kindOf x=some .free)→∃c,X.env.cells.lookup x=some c
 cab: ∀x c,X.fn x=true→X.env.cells.lookup x=some c→X.s₀.heap.objs.size≤c
 hd:X.calm=true→X.A.handled=none
 frames:X.A.frames=some X.stack
 stk:X.stack=X.outer∨(X.stack=X.env::X.outer∧X.env.frame=some X.env.locals)
 exf: ∀b∈X.ex,b≠X.env.locals∧∀x c,X.env.cells.lookup x=some c→c≠b
 bs: ∀b o,X.base.get? b=some o→X.s₀.heap.get? b=some o∧X.H₀ b=none
 bsz:X.base.objs.size≤X.s₀.heap.objs.size
 noex: ∀b o,X.base.get? b=some o→b∉X.ex
 exfs: ∀b∈X.ex,b∉X.fs
 funs:X.s₀.heap.FunFrames X.base X.outer
 frf: ∀b∈X.fs,X.H₀ b=none
structure Inv(X:Cx)(pins:List (Addr×Obj))(σ:List (Option V))(H:Hp)(s:Shared):Prop where
 ok:X.Ok
 os:s.os=X.s₀.os
 bare:AllBare s.gens
 base:Un X.fs X.ex X.H₀ H X.s₀.heap s.heap
 loc: ∃m,s.heap.Ns X.env.locals m∧∀(i:Nat) (x:Str) (v:V),X.N[i]? =some x→σ[i]? =some (some v)→Vis X.env.scope x→∃u,RelV v u∧Look X.env s.heap m x u
 cell: ∀x c,X.env.cells.lookup x=some c→∃v,s.heap.IsCell c v
 free:H X.env.locals=none
 freeC: ∀x c,X.env.cells.lookup x=some c→H c=none
 pin: ∀p∈X.pn++pins,s.heap.get? p.1=some p.2∧H p.1=none∧p.1≠X.env.locals∧p.1∉X.fs∧∀v,p.2.data≠.cell v
 hok:HOk X.prog X.w H s.heap
 len:σ.length=X.N.length
section
variable {X:Cx} {pins:List (Addr×Obj)} {σ:List (Option V)} {H H':Hp} {s:Shared} {h':Heap}
theorem Cx.Ok.nofr(ok:X.Ok){b:Addr}{o:Obj}(e:X.base.get? b=some o):b∉X.fs:=λhb=>by
 have:=(ok.funs.mem hb).1
 rw[e] at this;cases this
theorem Inv.bs(I:Inv X pins σ H s): ∀b o,X.base.get? b=some o→s.heap.get? b=some o∧H b=none:=λb o e=>
 ⟨I.base.keep b o (I.ok.bs b o e).1 (I.ok.bs b o e).2 (I.ok.nofr e) (I.ok.noex b o e),I.base.free b o (I.ok.bs b o e).1 (I.ok.bs b o e).2 (I.ok.noex b o e)⟩
theorem Inv.bk(I:Inv X pins σ H s): ∀b o,X.base.get? b=some o→s.heap.get? b=some o:=λb o e=>(I.bs b o e).1
theorem Inv.mod(I:Inv X pins σ H s):Mod X.K X.mg X.base:=I.ok.mod
theorem Inv.kIn(I:Inv X pins σ H s):X.K.In s.heap:=I.ok.mod.kin.keeps I.bk
theorem Inv.lt(I:Inv X pins σ H s):X.env.locals<s.heap.objs.size:=let ⟨_,hn,_⟩:=I.loc;hn.lt
theorem Inv.sz(I:Inv X pins σ H s):X.s₀.heap.objs.size≤s.heap.objs.size:=Nat.le_trans I.ok.above (Nat.le_of_lt I.lt)
theorem Inv.nofs(I:Inv X pins σ H s){a:Addr}(h:s.heap.objs.size≤a):a∉X.fs:=λhb=>by
 obtain⟨_,o,ho,_⟩:=I.ok.funs.mem hb
 exact absurd (Nat.lt_of_lt_of_le (Heap.lt_size ho) (Nat.le_trans I.sz h)) (Nat.lt_irrefl _)
theorem Inv.cne(I:Inv X pins σ H s): ∀x c,X.env.cells.lookup x=some c→c≠X.env.locals:=λx c e z=>by
 obtain⟨v,o,ho,hd⟩:=I.cell x c e
 obtain⟨m,⟨o',es,ep,ho',hd',_⟩,_⟩:=I.loc
 rw[z,ho'] at ho;cases ho;rw[hd'] at hd;cases hd
theorem Inv.funs(I:Inv X pins σ H s):s.heap.FunFrames X.base X.outer:=by
 have all: ∀(l:List Env),(∀b∈frs l,b∈X.fs)→X.s₀.heap.FunFrames X.base l→s.heap.FunFrames X.base l:=by
  intro l
  induction l with
  |nil=>intro _ _;trivial
  |cons env r ih=>
   intro hs hl
   obtain⟨hk,⟨L,o,hf,hn,ho,hd⟩,hr⟩:=hl
   have hL:L∈X.fs:=hs L (by unfold frs;rw[List.filterMap_cons,hf];exact List.mem_cons_self)
   obtain⟨sl,e⟩:=I.base.slot L o ho (I.ok.frf L hL) hL λz=>I.ok.exfs L z hL
   exact⟨hk,⟨L,_,hf,hn,e,hd⟩,ih (λb hb=>hs b (by unfold frs;rw[List.filterMap_cons,hf];exact List.mem_cons_of_mem _ hb)) hr⟩
 exact all X.outer (λ_ hb=>hb) I.ok.funs
theorem Inv.stack(I:Inv X pins σ H s):s.heap.FunFrames X.base X.stack:=by
 rcases I.ok.stk with e|⟨e,hf⟩
 ·rw[e];exact I.funs
 ·rw[e]
  obtain⟨m,hn,_⟩:=I.loc
  refine .cons (by rw[I.ok.kind];decide) hf hn ?_ I.funs
  exact Heap.get?_none_of_le (Nat.le_trans I.ok.bsz I.ok.above)
theorem Inv.stkSub(I:Inv X pins σ H s): ∀b∈frs X.stack,b∈X.env.locals::X.fs:=λb hb=>by
 rcases I.ok.stk with e|⟨e,hf⟩
 ·rw[e] at hb;exact List.mem_cons_of_mem _ hb
 ·rw[e] at hb
  unfold frs at hb
  rw[List.filterMap_cons,hf] at hb
  exact hb
theorem Inv.stkFree(I:Inv X pins σ H s): ∀b∈frs X.stack,H b=none:=λb hb=>by
 rcases List.mem_cons.mp (I.stkSub b hb) with e|hb
 ·rw[e];exact I.free
 ·obtain⟨_,o,ho,_⟩:=I.ok.funs.mem hb
  exact I.base.free b o ho (I.ok.frf b hb) λz=>I.ok.exfs b z hb
theorem Inv.step{g':Array GenState}{t':Nat}{d':Drawn}{ch:List Addr}(I:Inv X pins σ H s)
  (hch: ∀b∈ch,(b∈X.ex∨X.s₀.heap.objs.size≤b)∧b≠X.env.locals∧(∀x c,X.env.cells.lookup x=some c→c≠b)∧∀p∈X.pn++pins,p.1≠b)
  (keep: ∀b o,b≠X.env.locals→b∉X.fs→b∉ch→s.heap.get? b=some o→H b=none→h'.get? b=some o)
  (slot: ∀b o,b≠X.env.locals→b∈X.fs→b∉ch→s.heap.get? b=some o→H b=none→∃sl,h'.get? b=some {o with slots:=sl}) (free: ∀b o,b∉ch→s.heap.get? b=some o→H b=none→H' b=none)
  (there: ∀b o,b∉ch→s.heap.get? b=some o→∃o',h'.get? b=some o')
  (tups: ∀b xs,H b=some (.tup xs)→H' b=some (.tup xs)) (frzs: ∀b o u,H b=some (.frz o u)→H' b=some (.frz o u)) (tbls: ∀b ps,H b=some (.tbl ps)→∃more,H' b=some (.tbl (ps++more)))
  (ns: ∀m,s.heap.Ns X.env.locals m→h'.Ns X.env.locals m) (hok:HOk X.prog X.w H' h') (hg:AllBare g'):
  Inv X pins σ H' {s with heap:=h',gens:=g',drawn:=d',toks:=t'}:=by
 have neL: ∀b o,X.s₀.heap.get? b=some o→b≠X.env.locals:=λb o e=>Nat.ne_of_lt (Nat.lt_of_lt_of_le (Heap.lt_size e) I.ok.above)
 have neC: ∀b o,X.s₀.heap.get? b=some o→b∉X.ex→b∉ch:=λb o e hx hb=>by
  rcases(hch b hb).1 with z|z
  ·exact hx z
  ·exact absurd (Nat.lt_of_lt_of_le (Heap.lt_size e) z) (Nat.lt_irrefl _)
 have cellK: ∀x c,X.env.cells.lookup x=some c→∀v,s.heap.IsCell c v→h'.IsCell c v:=λx c e v ⟨o,ho,hd⟩=>by
  have nch:c∉ch:=λz=>(hch c z).2.2.1 x c e rfl
  by_cases hc:c∈X.fs
  ·obtain⟨sl,q⟩:=slot c o (I.cne x c e) hc nch ho (I.freeC x c e)
   exact⟨_,q,hd⟩
  ·exact⟨o,keep c o (I.cne x c e) hc nch ho (I.freeC x c e),hd⟩
 refine⟨I.ok,I.os,hg,⟨λb o e n hb hx=> ?_,λb o e n hb hx=> ?_,λb o e n hx=> ?_,λb o e hx=> ?_,λb xs e=>tups b xs (I.base.tups b xs e),λb o xs e=>frzs b o xs (I.base.frzs b o xs e),λb ps e=> ?_⟩,?_,λx c e=> ?_,?_,λx c e=> ?_,λp hp=> ?_,hok,I.len⟩
 ·exact keep b o (neL b o e) hb (neC b o e hx) (I.base.keep b o e n hb hx) (I.base.free b o e n hx)
 ·obtain⟨sl,e1⟩:=I.base.slot b o e n hb hx
  obtain⟨sl',e2⟩:=slot b _ (neL b o e) hb (neC b o e hx) e1 (I.base.free b o e n hx)
  exact⟨sl',e2⟩
 ·obtain⟨o',e1⟩:=I.base.there b o e hx
  exact free b o' (neC b o e hx) e1 (I.base.free b o e n hx)
 ·obtain⟨o',e1⟩:=I.base.there b o e hx
  exact there b o' (neC b o e hx) e1
 ·obtain⟨m1,e1⟩:=I.base.tbls b ps e
  obtain⟨m2,e2⟩:=tbls b _ e1
  exact⟨m1++m2,by rw[e2,Array.append_assoc]⟩
 ·obtain⟨m,hn,hl⟩:=I.loc
  refine⟨m,ns m hn,λi x v e1 e2 e3=> ?_⟩
  obtain⟨u,r,l⟩:=hl i x v e1 e2 e3
  refine⟨u,r,?_⟩
  rcases l with l|⟨k,c,e,z⟩
  ·exact .inl l
  ·exact .inr ⟨k,c,e,cellK x c e _ z⟩
 ·obtain⟨v,z⟩:=I.cell x c e
  exact⟨v,cellK x c e v z⟩
 ·obtain⟨m,⟨o,_,_,ho,_⟩,_⟩:=I.loc
  exact free _ o (λz=>(hch _ z).2.1 rfl) ho I.free
 ·obtain⟨v,o,ho,hd⟩:=I.cell x c e
  exact free c o (λz=>(hch c z).2.2.1 x c e rfl) ho (I.freeC x c e)
 ·obtain⟨e,n,ne,nf,d⟩:=I.pin p hp
  have nch:p.1∉ch:=λz=>(hch p.1 z).2.2.2 p hp rfl
  exact⟨keep p.1 p.2 ne nf nch e n,free p.1 p.2 nch e n,ne,nf,d⟩
theorem Inv.un{t':Nat}(I:Inv X pins σ H s)(u:Un X.fs [] H H' s.heap h')(hok:HOk X.prog X.w H' h'):Inv X pins σ H' {s with heap:=h',toks:=t'}:=by
 obtain⟨m,⟨o,es,ep,ho,r⟩,_⟩:=id I.loc
 obtain⟨sl,hL⟩:=u.any ho I.free (by simp)
 exact I.step (g':=s.gens) (d':=s.drawn) (ch:=[]) (λ_ z=>nomatch z) (λb o _ hb _ e n=>u.keep b o e n hb (by simp)) (λb o _ hb _ e n=>u.slot b o e n hb (by simp)) (λb o _ e n=>u.free b o e n (by simp)) (λb o _ e=>u.there b o e (by simp)) u.tups u.frzs u.tbls (λm' hm=>by
  obtain⟨o',es',ep',ho',r'⟩:=hm
  rw[ho] at ho';cases ho'
  exact⟨_,es',ep',hL,r'⟩) hok I.bare
theorem Inv.call{g':Array GenState}{t':Nat}{d':Drawn}{ch:List Addr}(I:Inv X pins σ H s)(u:Un (frs X.stack) ch H H' s.heap h')(hok:HOk X.prog X.w H' h')(hg:AllBare g')
  (hch: ∀b∈ch,(b∈X.ex∨X.s₀.heap.objs.size≤b)∧b≠X.env.locals∧(∀x c,X.env.cells.lookup x=some c→c≠b)∧∀p∈X.pn++pins,p.1≠b):
  Inv X pins σ H' {s with heap:=h',gens:=g',drawn:=d',toks:=t'}:=by
 obtain⟨m,⟨o,es,ep,ho,r⟩,_⟩:=id I.loc
 obtain⟨sl,hL⟩:=u.any ho I.free λz=>(hch _ z).2.1 rfl
 exact I.step (ch:=ch) hch (λb o hL hb hc e n=>u.keep b o e n (λz=>(List.mem_cons.mp (I.stkSub b z)).elim hL hb) hc) (λb o _ _ hc e n=>u.any e n hc) (λb o hc e n=>u.free b o e n hc) (λb o hc e=>u.there b o e hc) u.tups u.frzs u.tbls (λm' hm=>by
  obtain⟨o',es',ep',ho',r'⟩:=hm
  rw[ho] at ho';cases ho'
  exact⟨_,es',ep',hL,r'⟩) hok hg
theorem Inv.turned{t':Nat}{it:Addr}(I:Inv X pins σ H s)(k: ∀b o,b≠it→s.heap.get? b=some o→h'.get? b=some o)(hn:H it=none)(hL:it≠X.env.locals)
  (h1:it∈X.ex∨X.s₀.heap.objs.size≤it) (h2: ∀x c,X.env.cells.lookup x=some c→c≠it) (h3: ∀p∈X.pn++pins,p.1≠it):Inv X pins σ H {s with heap:=h',toks:=t'}:=by
 have nit: ∀b u,H b=some u→b≠it:=λb u e z=>by rw[z,hn] at e;cases e
 refine I.step (g':=s.gens) (d':=s.drawn) (ch:=[it]) (λb hb=> ?_) (λb o _ _ hc e _=>k b o (λz=>hc (by simp[z])) e) (λb o _ _ hc e _=>⟨o.slots,k b o (λz=>hc (by simp[z])) e⟩) (λ_ _ _ _ n=>n)
  (λb o hc e=>⟨o,k b o (λz=>hc (by simp[z])) e⟩) (λ_ _ e=>e) (λ_ _ _ e=>e) (λb ps e=>⟨#[],by rw[e];simp⟩) (λm hm=> ?_) (λb u e=> ?_) I.bare
 ·have e:b=it:=by simpa using hb
  subst e
  exact⟨h1,hL,h2,h3⟩
 ·obtain⟨o,es,ep,ho,r⟩:=hm
  exact⟨o,es,ep,k _ o (Ne.symm hL) ho,r⟩
 ·refine(I.hok b u e).stay (λc v hc q=>k c v ?_ q) (λ_ q=>q) λ_ _ q=>q
  rcases hc with z|z
  ·rw[z];exact nit b u e
  ·exact nit c _ z
theorem Inv.tok(I:Inv X pins σ H s)(t:Nat):Inv X pins σ H {s with toks:=t}:=I.un (h':=s.heap) (t':=t) Un.refl I.hok
theorem Inv.kept{t':Nat}(I:Inv X pins σ H s)(k: ∀b u,s.heap.get? b=some u→h'.get? b=some u):Inv X pins σ H {s with heap:=h',toks:=t'}:=I.un (Un.kept k) (I.hok.kept k)
theorem Inv.laid{a:Addr}{o:HO}{t':Nat}(I:Inv X pins σ H s)(k: ∀b u,s.heap.get? b=some u→h'.get? b=some u)(hp:s.heap.objs.size≤a)(new:ObjOk X.prog X.w (upd H a o) h' a o):
  Inv X pins σ (upd H a o) {s with heap:=h',toks:=t'}:=I.un (Un.laid k hp (I.hok.fresh hp)) (I.hok.laid k hp new)
theorem Inv.write{x e:Addr}{o:HO}{t':Nat}(I:Inv X pins σ H s)(mu:Mut (H x))(he:e=x∨H e=some (.own x))(k: ∀b u,b≠e→s.heap.get? b=some u→h'.get? b=some u)(heo: ∃u,h'.get? e=some u)
  (new:ObjOk X.prog X.w (upd H x o) h' x o):Inv X pins σ (upd H x o) {s with heap:=h',toks:=t'}:=I.un (Un.write mu he k heo) (I.hok.write mu he k heo new)
theorem Inv.pins_of{pins':List (Addr×Obj)}(I:Inv X pins σ H s)(h: ∀p∈pins',s.heap.get? p.1=some p.2∧H p.1=none∧p.1≠X.env.locals∧p.1∉X.fs∧∀v,p.2.data≠.cell v):Inv X pins' σ H s:=
 ⟨I.ok,I.os,I.bare,I.base,I.loc,I.cell,I.free,I.freeC,λp hp=>(List.mem_append.mp hp).elim (λz=>I.pin p (List.mem_append_left _ z)) (h p),I.hok,I.len⟩
theorem nodup_ix{N:List Str}(hN:N.Nodup){i j:Nat}{x:Str}(a:N[i]? =some x)(b:N[j]? =some x):i=j:=by
 obtain⟨h1,e1⟩:=List.getElem?_eq_some_iff.mp a
 obtain⟨h2,e2⟩:=List.getElem?_eq_some_iff.mp b
 exact(List.getElem_inj hN).mp (e1.trans e2.symm)
theorem store_ok2{M:Model}{A:Around}{E:Value→Shared→Prop}{i:Nat}{x:Str}{v:V}{u:Value}{Q:Unit→Shared→Prop}(I:Inv X pins σ H s)(hN:X.N.Nodup)(hi:X.N[i]? =some x)(hx:Loc X.env.scope x)(r:RelV v u)
  (h: ∀s',Inv X pins (σ.set i (some v)) H s'→(∃a,Heap.SameBut a s.heap s'.heap∧(a=X.env.locals∨X.env.cells.lookup x=some a))→Q () s') (hf:X.fn x=true∨X.env.scope.names.lookup x=some .local:=by first|exact .inl rfl|exact .inr rfl|assumption):wpAny M A (storeName X.env x u) Q E s:=by
 obtain⟨m,hn,hl⟩:=id I.loc
 have hcls:(X.env.scope.kind== .class||(X.env.scope.kind== .module&&X.env.locals !=X.env.globals))=false:=by rw[I.ok.kind];rfl
 have hiσ:i<σ.length:=by rw[I.len];exact(List.getElem?_eq_some_iff.mp hi).1
 have cne:=I.cne
 have tracked: ∀{a:Addr} {h':Heap},(∃o,s.heap.get? a=some o∧H a=none)→Heap.SameBut a s.heap h'→HOk X.prog X.w H h':=λ{a h'} ha hs b ob e=>by
  obtain⟨_,_,hfree⟩:=ha
  refine(I.hok b ob e).stay (λc w' hc q=>(hs.2 c ?_).trans q) (λ_ q=>q) λ_ _ q=>q
  rintro rfl
  rcases hc with rfl|hc
  ·rw[hfree] at e;cases e
  ·rw[hfree] at hc;cases hc
 rcases hx with hk|hk
 ·refine wpAny_storeName_local hk hn (λh' hn' hs=> ?_) hcls
  obtain⟨oL,_,_,hoL,_⟩:=id hn
  refine h _ ⟨I.ok,I.os,I.bare,⟨λb o e n hb hx=> ?_,λb o e n hb hx=> ?_,I.base.free,λb o e hx=> ?_,I.base.tups,I.base.frzs,I.base.tbls⟩,⟨_,hn',λj y v' e1 e2 e3=> ?_⟩,λy c e=> ?_,I.free,I.freeC,λp hp=> ?_,tracked ⟨oL,hoL,I.free⟩ hs,by simpa using I.len⟩ ⟨_,hs,.inl rfl⟩
  ·exact(hs.2 b (Nat.ne_of_lt (Nat.lt_of_lt_of_le (Heap.lt_size e) I.ok.above))).trans (I.base.keep b o e n hb hx)
  ·obtain⟨sl,e1⟩:=I.base.slot b o e n hb hx
   exact⟨sl,(hs.2 b (Nat.ne_of_lt (Nat.lt_of_lt_of_le (Heap.lt_size e) I.ok.above))).trans e1⟩
  ·obtain⟨o',e1⟩:=I.base.there b o e hx
   exact⟨o',(hs.2 b (Nat.ne_of_lt (Nat.lt_of_lt_of_le (Heap.lt_size e) I.ok.above))).trans e1⟩
  ·by_cases hj:j=i
   ·subst hj
    rw[hi] at e1;cases e1
    rw[List.getElem?_set_self hiσ] at e2
    cases e2
    exact⟨u,r,.inl ⟨hk,by simp⟩⟩
   ·rw[List.getElem?_set_ne (Ne.symm hj)] at e2
    obtain⟨u',r',q⟩:=hl j y v' e1 e2 e3
    refine⟨u',r',?_⟩
    rcases q with⟨k,e⟩|⟨k,c,e,z⟩
    ·refine .inl ⟨k,?_⟩
     have:y≠x:=λe=>hj (nodup_ix hN e1 (e▸hi))
     simp[this,e]
    ·exact .inr ⟨k,c,e,z.sameBut hs (cne y c e)⟩
  ·obtain⟨w',z⟩:=I.cell y c e
   exact⟨w',z.sameBut hs (cne y c e)⟩
  ·obtain⟨e,n,ne,nf,d⟩:=I.pin p hp
   exact⟨(hs.2 p.1 ne).trans e,n,ne,nf,d⟩
 ·have hfn:X.fn x=true:=by
   rcases hf with z|z
   ·exact z
   ·rw[z] at hk;cases hk
  obtain⟨c,hc⟩:=I.ok.has x (.inl hk)
  obtain⟨w',z⟩:=I.cell x c hc
  refine wpAny_storeName_cell I.ok.kind hk hc z (λh' hc' hs=> ?_)
  obtain⟨oc,hoc,hocd⟩:=id z
  refine h {s with heap:=h'} ⟨I.ok,I.os,I.bare,⟨λb o e n hb hx=> ?_,λb o e n hb hx=> ?_,I.base.free,λb o e hx=> ?_,I.base.tups,I.base.frzs,I.base.tbls⟩,⟨m,hn.sameBut hs (Ne.symm (cne x c hc)),λj y v' e1 e2 e3=> ?_⟩,λy c' e=> ?_,I.free,I.freeC,λp hp=> ?_,tracked ⟨oc,hoc,I.freeC x c hc⟩ hs,by simpa using I.len⟩ ⟨c,hs,.inr hc⟩
  ·exact(hs.2 b (Nat.ne_of_lt (Nat.lt_of_lt_of_le (Heap.lt_size e) (I.ok.cab x c hfn hc)))).trans (I.base.keep b o e n hb hx)
  ·obtain⟨sl,e1⟩:=I.base.slot b o e n hb hx
   exact⟨sl,(hs.2 b (Nat.ne_of_lt (Nat.lt_of_lt_of_le (Heap.lt_size e) (I.ok.cab x c hfn hc)))).trans e1⟩
  ·obtain⟨o',e1⟩:=I.base.there b o e hx
   exact⟨o',(hs.2 b (Nat.ne_of_lt (Nat.lt_of_lt_of_le (Heap.lt_size e) (I.ok.cab x c hfn hc)))).trans e1⟩
  ·by_cases hj:j=i
   ·subst hj
    rw[hi] at e1;cases e1
    rw[List.getElem?_set_self hiσ] at e2
    cases e2
    exact⟨u,r,.inr ⟨.inl hk,c,hc,hc'⟩⟩
   ·rw[List.getElem?_set_ne (Ne.symm hj)] at e2
    obtain⟨u',r',q⟩:=hl j y v' e1 e2 e3
    refine⟨u',r',?_⟩
    rcases q with q|⟨k,c',e,z'⟩
    ·exact .inl q
    ·refine .inr ⟨k,c',e,z'.sameBut hs ?_⟩
     rintro rfl
     exact hj (nodup_ix hN e1 (I.ok.inj _ _ _ e hc▸hi))
  ·by_cases hcc:c'=c
   ·subst hcc;exact⟨_,hc'⟩
   ·obtain⟨w2,z2⟩:=I.cell y c' e
    exact⟨w2,z2.sameBut hs hcc⟩
  ·obtain⟨e,n,ne,nf,d⟩:=I.pin p hp
   refine⟨(hs.2 p.1 ?_).trans e,n,ne,nf,d⟩
   intro q
   rw[q,hoc] at e
   have q':oc=p.2:=Option.some.inj e
   exact d w' (by rw[←q'];exact hocd)
theorem store_ok{M:Model}{A:Around}{E:Value→Shared→Prop}{i:Nat}{x:Str}{v:V}{u:Value}{Q:Unit→Shared→Prop}(I:Inv X pins σ H s)(hN:X.N.Nodup)(hi:X.N[i]? =some x)(hx:Loc X.env.scope x)(r:RelV v u)
  (h: ∀s',Inv X pins (σ.set i (some v)) H s'→Q () s') (hf:X.fn x=true∨X.env.scope.names.lookup x=some .local:=by first|exact .inl rfl|exact .inr rfl|assumption):wpAny M A (storeName X.env x u) Q E s:=
 store_ok2 I hN hi hx r (λs' I' _=>h s' I') hf
theorem Inv.call'{s':Shared}{ch:List Addr}(I:Inv X pins σ H s)(ho:s'.os=s.os)(u:Un (frs X.stack) ch H H' s.heap s'.heap)(hok:HOk X.prog X.w H' s'.heap)(hg:AllBare s'.gens)
  (hch: ∀b∈ch,(b∈X.ex∨X.s₀.heap.objs.size≤b)∧b≠X.env.locals∧(∀x c,X.env.cells.lookup x=some c→c≠b)∧∀p∈X.pn++pins,p.1≠b):Inv X pins σ H' s':=by
 obtain⟨h',g',d',t',o'⟩:=s'
 have e:o'=s.os:=ho
 subst e
 exact I.call (g':=g') (t':=t') (d':=d') u hok hg hch
end
noncomputable abbrev XK:=Value→Option Addr→Hp→Prop
noncomputable abbrev St:=List (Option V)
noncomputable abbrev VK:=V→Hp→Prop
noncomputable abbrev TE:=St→Hp→VK→Prop
noncomputable abbrev TT:=St→Hp→(Bool→Hp→Prop)→Prop
noncomputable abbrev TA:=St→Hp→(List V→Hp→Prop)→Prop
structure Ends where
 nx:St→Hp→Prop
 rt:VK
 bk:St→Hp→Prop:=λ_ _=>False
 ct:St→Hp→Prop:=λ_ _=>False
noncomputable abbrev TS:=Ends→St→Hp→Prop
noncomputable def EP(X:Cx)(pins:List (Addr×Obj))(σ:St)(Q:VK)(u:Value)(s':Shared):Prop:= ∃v H',Inv X pins σ H' s'∧RelV v u∧Q v H'
noncomputable def TP(X:Cx)(pins:List (Addr×Obj))(σ:St)(Q:Bool→Hp→Prop)(b:Bool)(s':Shared):Prop:= ∃H',Inv X pins σ H' s'∧Q b H'
noncomputable def AP(X:Cx)(pins:List (Addr×Obj))(σ:St)(Q:List V→Hp→Prop)(us:List Value)(s':Shared):Prop:= ∃vs H',Inv X pins σ H' s'∧Vals vs us∧Q vs H'
noncomputable def SP(X:Cx)(pins:List (Addr×Obj))(D:Ends)(f:Flow)(s':Shared):Prop:=
 match f with
 | .next=> ∃σ' H',Inv X pins σ' H' s'∧D.nx σ' H'
 | .brk=> ∃σ' H',Inv X pins σ' H' s'∧D.bk σ' H'
 | .cont=> ∃σ' H',Inv X pins σ' H' s'∧D.ct σ' H'
 | .ret u=> ∃v σ' H',Inv X pins σ' H' s'∧RelV v u∧D.rt v H'
noncomputable def PE(X:Cx)(e:Expr)(t:TE):Prop:=
 ∀(pins:List (Addr×Obj)) (s:Shared) (σ:St) (H:Hp) (Q:VK),Inv X pins σ H s→t σ H Q→wpAny (model X.prog X.w) X.A (eval e X.env) (EP X pins σ Q) X.xe s
noncomputable def PT(X:Cx)(e:Expr)(t:TT):Prop:=
 ∀(pins:List (Addr×Obj)) (s:Shared) (σ:St) (H:Hp) (Q:Bool→Hp→Prop),Inv X pins σ H s→t σ H Q→wpAny (model X.prog X.w) X.A (isTrue e X.env (eval e X.env)) (TP X pins σ Q) X.xe s
noncomputable def PW(X:Cx)(e:Expr)(t:TT):Prop:=
 ∀(whole:Sem Value) (pins:List (Addr×Obj)) (s:Shared) (σ:St) (H:Hp) (Q:Bool→Hp→Prop),Inv X pins σ H s→t σ H Q→wpAny (model X.prog X.w) X.A (isTrue e X.env whole) (TP X pins σ Q) X.xe s
theorem PW.pt{X:Cx}{e:Expr}{t:TT}(h:PW X e t):PT X e t:=h _
noncomputable def PA(X:Cx)(es:List Expr)(t:TA):Prop:=
 ∀(pos:Pos) (pins:List (Addr×Obj)) (s:Shared) (σ:St) (H:Hp) (Q:List V→Hp→Prop),Inv X pins σ H s→t σ H Q→wpAny (model X.prog X.w) X.A (spliced (backTo pos (starEach es X.env))) (AP X pins σ Q) X.xe s
noncomputable def PS(X:Cx)(st:Stmt)(t:TS):Prop:=
 ∀(pins:List (Addr×Obj)) (s:Shared) (σ:St) (H:Hp) (D:Ends),Inv X pins σ H s→t D σ H→wpAny (model X.prog X.w) X.A (exec st X.env) (SP X pins D) X.xe s
noncomputable def PSs(X:Cx)(st:List Stmt)(t:TS):Prop:=
 ∀(pins:List (Addr×Obj)) (s:Shared) (σ:St) (H:Hp) (D:Ends),Inv X pins σ H s→t D σ H→wpAny (model X.prog X.w) X.A (execs st X.env) (SP X pins D) X.xe s
theorem thn{α:Type}{t:Sem α}{Q Q':α→Shared→Prop}{M:Model}{A:Around}{E:Value→Shared→Prop}{s:Shared}(h:wpAny M A t Q E s)(hQ: ∀a s,Q a s→Q' a s):wpAny M A t Q' E s:=wpAny_mono h hQ λ_ _ x=>x
end L2
namespace L2
open PySem PySem.Spec PyProof.Rows
section
variable {X:Cx}
noncomputable def tVar(i:Nat):TE:=λσ H Q=> ∃v,σ[i]? =some (some v)∧Q v H
noncomputable def tC(v:V):TE:=λ_ H Q=>Q v H
theorem pe_var{i:Nat}{x:Str}{pos:Pos}(hN:X.N[i]? =some x)(hv:Vis X.env.scope x)(hd:(x==("__debug__":Str))=false:=by decide)(hcd:(x==("__classdict__":Str))=false:=by decide):PE X (.Name x pos) (tVar i):=by
 intro pins s σ H Q I h
 obtain⟨v,e,h⟩:=h
 obtain⟨m,hn,hl⟩:=I.loc
 obtain⟨u,r,l⟩:=hl i x v hN e hv
 have fin:EP X pins σ Q u s:=⟨v,H,I,r,h⟩
 rcases l with⟨hk,hm⟩|⟨hk,c,hc,hcell⟩
 ·exact wpAny_Name (wpAny_loadName_local I.ok.kind hk hn hm fin) hd
 ·rcases hk with hk|hk
  ·exact wpAny_Name (wpAny_loadName_cell I.ok.kind hk hc hcell fin) hd
  ·exact wpAny_Name (wpAny_loadName_free I.ok.kind hk hc hcell fin hcd) hd
theorem pe_int{i j pos}:PE X (.Constant (.int i) j pos) (tC (.int i)):=λ_ _ _ H _ I h=>wpAny_Constant_int ⟨.int i,H,I.tok _,⟨_,rfl⟩,h⟩
theorem pe_bl{b j pos}:PE X (.Constant (.bool b) j pos) (tC (.bl b)):=λ_ _ _ H _ I h=>Constant_bool ⟨.bl b,H,I,rfl,h⟩
noncomputable def Gl(X:Cx)(x:Str):Prop:=X.env.kindOf x=some .globalImplicit
theorem ld_glob{E:Value→Shared→Prop}{pins:List (Addr×Obj)}{s:Shared}{σ:St}{H:Hp}{x:Str}{u:Value}{pos:Pos}{Q:Value→Shared→Prop}(I:Inv X pins σ H s)(hg:Gl X x)(hm:X.mg x=some u)(h:Q u s)
  (hd:(x==("__debug__":Str))=false:=by decide):wpAny (model X.prog X.w) X.A (eval (.Name x pos) X.env) Q E s:=
 Calls.Name_function_global I.ok.kind hg (Calls.loadGlobal_global (by rw[I.ok.glob];exact I.mod.glob.keeps I.bk) hm h) hd
theorem ld_blt{E:Value→Shared→Prop}{pins:List (Addr×Obj)}{s:Shared}{σ:St}{H:Hp}{x:Str}{u:Value}{pos:Pos}{Q:Value→Shared→Prop}(I:Inv X pins σ H s)(hg:Gl X x)(hm:X.mg x=none)(hv:bootBuiltins x=some u)(h:Q u s)
  (hn:x≠"__name__":=by decide) (hd:(x==("__debug__":Str))=false:=by decide):wpAny (model X.prog X.w) X.A (eval (.Name x pos) X.env) Q E s:=by
 obtain⟨mb,h1,h2⟩:=I.mod.blt
 exact Calls.Name_function_global I.ok.kind hg (Calls.loadGlobal_builtin (by rw[I.ok.glob];exact I.mod.glob.keeps I.bk) hm (by rw[I.ok.blt];exact h1.keeps I.bk) ((h2 x hn).trans hv) h) hd
theorem pe_glob{x:Str}{v:V}{u:Value}{pos:Pos}(hg:Gl X x)(hm:X.mg x=some u)(r:RelV v u)(hd:(x==("__debug__":Str))=false:=by decide):PE X (.Name x pos) (tC v):=
 λ_ _ _ H _ I h=>ld_glob I hg hm ⟨v,H,I,r,h⟩ hd
theorem pe_bltn{x:Str}{v:V}{u:Value}{pos:Pos}(hg:Gl X x)(hm:X.mg x=none)(hv:bootBuiltins x=some u)(r:RelV v u)(hn:x≠"__name__":=by decide)(hd:(x==("__debug__":Str))=false:=by decide):PE X (.Name x pos) (tC v):=
 λ_ _ _ H _ I h=>ld_blt I hg hm hv ⟨v,H,I,r,h⟩ hn hd
variable {a b:Expr} {ta tb:TE} {pos:Pos}
noncomputable def PC(X:Cx)(op:CmpOp)(a b:Expr)(t:TE):Prop:=
 ∀(pins:List (Addr×Obj)) (s:Shared) (σ:St) (H:Hp) (Q:VK),Inv X pins σ H s→t σ H Q→
  wpAny (model X.prog X.w) X.A (eval a X.env) (λv s₁=>wpAny (model X.prog X.w) X.A (eval b X.env) (λu s₂=>wpAny (model X.prog X.w) X.A (compareOp op v u) (EP X pins σ Q) X.xe s₂) X.xe s₁) X.xe s
variable {tA tB':TT} {rest:List Expr}
noncomputable def tAnd(t u:TT):TT:=λσ H Q=>t σ H λc H1=>if c=true then u σ H1 Q else Q false H1
noncomputable def tOr(t u:TT):TT:=λσ H Q=>t σ H λc H1=>if c=true then Q true H1 else u σ H1 Q
noncomputable def tNot(t:TT):TT:=λσ H Q=>t σ H λc H1=>Q (!c) H1
theorem pw_and1(ha:PT X a tA):PW X (.BoolOp .And [a] pos) tA:=by
 intro wh pins s σ H Q I h
 refine isTrue_and (thn (ha pins s σ H Q I h) λc s1 e=> ?_)
 cases c with
 |true=>exact isTrue_and_nil e
 |false=>exact e
theorem pw_or1(ha:PT X a tA):PW X (.BoolOp .Or [a] pos) tA:=by
 intro wh pins s σ H Q I h
 refine isTrue_or (thn (ha pins s σ H Q I h) λc s1 e=> ?_)
 cases c with
 |false=>exact isTrue_or_nil e
 |true=>exact e
theorem pw_and(ha:PT X a tA)(hb:PW X (.BoolOp .And (b::rest) pos) tB'):PW X (.BoolOp .And (a::b::rest) pos) (tAnd tA tB'):=by
 intro wh pins s σ H Q I h
 refine isTrue_and (thn (ha pins s σ H _ I h) λc s1 ⟨H1,I1,q1⟩=> ?_)
 cases c with
 |true=>exact hb wh pins s1 σ H1 Q I1 q1
 |false=>exact⟨H1,I1,q1⟩
theorem pw_or(ha:PT X a tA)(hb:PW X (.BoolOp .Or (b::rest) pos) tB'):PW X (.BoolOp .Or (a::b::rest) pos) (tOr tA tB'):=by
 intro wh pins s σ H Q I h
 refine isTrue_or (thn (ha pins s σ H _ I h) λc s1 ⟨H1,I1,q1⟩=> ?_)
 cases c with
 |true=>exact⟨H1,I1,q1⟩
 |false=>exact hb wh pins s1 σ H1 Q I1 q1
theorem pt_not(ha:PT X a tA):PT X (.UnaryOp .Not a pos) (tNot tA):=by
 intro pins s σ H Q I h
 exact isTrue_not (ha pins s σ H (λc H1=>Q (!c) H1) I h)
noncomputable def tAndV(ta tb:TE):TE:=λσ H Q=>ta σ H λx H1=> ∃c,x=.bl c∧if c=true then tb σ H1 Q else Q (.bl false) H1
theorem pe_one{op}{t:TE}(h:PE X a t):PE X (.BoolOp op [a] pos) t:=λpins s σ H Q I hw=>BoolOp_one (h pins s σ H Q I hw)
theorem pe_and(ha:PE X a ta)(hb:PE X (.BoolOp .And (b::rest) pos) tb):PE X (.BoolOp .And (a::b::rest) pos) (tAndV ta tb):=by
 intro pins s σ H Q I h
 refine BoolOp_and (thn (ha pins s σ H _ I h) λv s1 ⟨x,H1,I1,r1,q1⟩=> ?_)
 obtain⟨c,rfl,q1⟩:=q1
 cases r1
 refine wpAny_truthy_bool ?_
 cases c with
 |true=>exact hb pins s1 σ H1 Q I1 q1
 |false=>exact⟨.bl false,H1,I1,rfl,q1⟩
end
end L2
namespace L2
open PySem PySem.Spec PyProof.Rows
noncomputable def SqL(K:PySem.W.Frag)(H:Hp)(a:Addr)(xs:List V):Prop:=
 Rd H a (.lst xs)∨
  ∃(o:Obj) (its:Array Value) (n:Nat),K.lookup a=some o∧o.cls=.type "list"∧o.dict=none∧o.data=.seq its n∧its.size≤sizeLine∧Vals xs its.toList
noncomputable def SqT(K:PySem.W.Frag)(H:Hp)(a:Addr)(xs:List V):Prop:=
 Rd H a (.tup xs)∨
  ∃(o:Obj) (its:Array Value) (n:Nat),K.lookup a=some o∧o.cls=.type "tuple"∧o.data=.seq its n∧its.size≤sizeLine∧Vals xs its.toList
noncomputable def absV:Value→Option V
 | .none=>some .non
 | .bool b=>some (.bl b)
 | .int i _=>some (.int i)
 | .str x _=>some (.str x)
 | .bytes b _=>some (.byt b)
 | .float b _=>some (.flt b)
 | .ref a=>some (.ref a)
 | .type n=>some (.ty n)
 |_=>none
theorem RelV.abs{x:V}{u:Value}(r:RelV x u):absV u=some x:=by
 cases x with
 |non=>cases r;rfl
 |bl _=>cases r;rfl
 |int _=>obtain⟨t,rfl⟩:=r;rfl
 |str _=>obtain⟨t,rfl⟩:=r;rfl
 |byt _=>obtain⟨t,rfl⟩:=r;rfl
 |flt _=>obtain⟨t,rfl⟩:=r;rfl
 |ref _=>cases r;rfl
 |ty _=>cases r;rfl
theorem RelV.inj{x y:V}{u:Value}(r:RelV x u)(q:RelV y u):x=y:=Option.some.inj (r.abs.symm.trans q.abs)
theorem Vals.inj: ∀{xs ys:List V} {us:List Value},Vals xs us→Vals ys us→xs=ys
 |_,_,_,.nil,.nil=>rfl
 |_,_,_,.cons r t,.cons r' t'=>by rw[r.inj r',Vals.inj t t']
section
variable {X:Cx} {pins:List (Addr×Obj)} {σ:St} {H:Hp} {s:Shared} {a:Addr} {xs ys:List V}
theorem SqL.of{K:PySem.W.Frag}(h:H a=some (.lst xs)):SqL K H a xs:=.inl (.inl h)
theorem Inv.list(I:Inv X pins σ H s)(h:SqL X.K H a xs): ∃its:List Value,Vals xs its∧PlainL s.heap a its.toArray∧xs.length≤sizeLine:=by
 rcases h with h|⟨o,its,n,hk,hc,hd,hs,hz,r⟩
 ·obtain⟨z,its,n,r,e⟩:=h.ok I.hok
  exact⟨its,r,⟨_,n,e,rfl,rfl,rfl⟩,z⟩
 ·refine⟨its.toList,r,⟨o,n,I.kIn a o hk,hc,hd,by simpa using hs⟩,?_⟩
  have e:=r.length
  simp only[Array.length_toList] at e
  omega
theorem Inv.tuple(I:Inv X pins σ H s)(h:SqT X.K H a xs): ∃its:List Value,Vals xs its∧IsTup s.heap a its.toArray∧xs.length≤sizeLine:=by
 rcases h with h|⟨o,its,n,hk,hc,hs,hz,r⟩
 ·obtain⟨z,its,r,p⟩:=h.ok I.hok
  exact⟨its,r,p,z⟩
 ·refine⟨its.toList,r,⟨o,I.kIn a o hk,hc,n,by simpa using hs⟩,?_⟩
  have e:=r.length
  simp only[Array.length_toList] at e
  omega
theorem Inv.list_inj(I:Inv X pins σ H s)(h:SqL X.K H a xs)(h':SqL X.K H a ys):xs=ys:=by
 obtain⟨its,r,⟨o,n,e,_,_,d⟩,_⟩:=I.list h
 obtain⟨its',r',⟨o',n',e',_,_,d'⟩,_⟩:=I.list h'
 rw[e] at e';cases e'
 rw[d] at d'
 injection d' with d1 _
 have:its=its':=by simpa using congrArg Array.toList d1
 subst this
 exact r.inj r'
theorem Inv.tuple_inj(I:Inv X pins σ H s)(h:SqT X.K H a xs)(h':SqT X.K H a ys):xs=ys:=by
 obtain⟨its,r,⟨o,e,_,n,d⟩,_⟩:=I.tuple h
 obtain⟨its',r',⟨o',e',_,n',d'⟩,_⟩:=I.tuple h'
 rw[e] at e';cases e'
 rw[d] at d'
 injection d' with d1 _
 have:its=its':=by simpa using congrArg Array.toList d1
 subst this
 exact r.inj r'
end
noncomputable abbrev Cx.wish(X:Cx)(E:Value→Shared→Prop):Cx:={X with xe:=E}
noncomputable abbrev Cx.nox(X:Cx):Cx:=X.wish λ_ _=>False
theorem Cx.Ok.wish{X:Cx}(ok:X.Ok)(E:Value→Shared→Prop):(X.wish E).Ok:=
 ⟨ok.mod,ok.kind,ok.glob,ok.blt,ok.above,ok.inj,ok.has,ok.cab,ok.hd,ok.frames,ok.stk,ok.exf,ok.bs,ok.bsz,ok.noex,ok.exfs,ok.funs,ok.frf⟩
theorem Cx.Ok.unwish{X:Cx}{E:Value→Shared→Prop}(ok:(X.wish E).Ok):X.Ok:=
 ⟨ok.mod,ok.kind,ok.glob,ok.blt,ok.above,ok.inj,ok.has,ok.cab,ok.hd,ok.frames,ok.stk,ok.exf,ok.bs,ok.bsz,ok.noex,ok.exfs,ok.funs,ok.frf⟩
section
variable {X:Cx} {pins:List (Addr×Obj)} {σ:St} {H:Hp} {s:Shared} {E:Value→Shared→Prop}
theorem Inv.wish(I:Inv X pins σ H s)(E:Value→Shared→Prop):Inv (X.wish E) pins σ H s:=⟨I.ok.wish E,I.os,I.bare,I.base,I.loc,I.cell,I.free,I.freeC,I.pin,I.hok,I.len⟩
theorem Inv.unwish(I:Inv (X.wish E) pins σ H s):Inv X pins σ H s:=⟨I.ok.unwish,I.os,I.bare,I.base,I.loc,I.cell,I.free,I.freeC,I.pin,I.hok,I.len⟩
theorem SP.unwish{D:Ends}{f:Flow}{s':Shared}(h:SP (X.wish E) pins D f s'):SP X pins D f s':=by
 cases f with
 |next=>obtain⟨σ',H',I,q⟩:=h;exact⟨σ',H',I.unwish,q⟩
 |brk=>obtain⟨σ',H',I,q⟩:=h;exact⟨σ',H',I.unwish,q⟩
 |cont=>obtain⟨σ',H',I,q⟩:=h;exact⟨σ',H',I.unwish,q⟩
 |ret u=>obtain⟨v,σ',H',I,r,q⟩:=h;exact⟨v,σ',H',I.unwish,r,q⟩
theorem PSs.nox{st:List Stmt}{t:TS}(h:PSs X.nox st t):PSs X st t:=λpins s σ H D I hw=>
 wpAny_mono (h pins s σ H D (I.wish _) hw) (λ_ _ q=>q.unwish) λ_ _ z=>False.elim z
end
section
variable {X:Cx} {st:Stmt} {rest:List Stmt} {t u:TS} {e:Expr} {te:TE} {pos:Pos}
noncomputable def tNext:TS:=λD σ H=>D.nx σ H
noncomputable def tSeq(t u:TS):TS:=λD σ H=>t {D with nx:=u D} σ H
theorem pss_nil:PSs X [] tNext:=λ_ _ σ H _ I h=>wpAny_execs_nil ⟨σ,H,I,h⟩
theorem pss_cons(h1:PS X st t)(h2:PSs X rest u):PSs X (st::rest) (tSeq t u):=by
 intro pins s σ H D I h
 refine wpAny_execs_cons (thn (h1 pins s σ H {D with nx:=u D} I h) λf s1 q=> ?_)
 cases f with
 |next=>
  obtain⟨σ',H',I',q⟩:=q
  exact h2 pins s1 σ' H' D I' q
 |ret v=>exact q
 |brk=>exact q
 |cont=>exact q
theorem pss_one(h1:PS X st t):PSs X [st] t:=by
 intro pins s σ H D I h
 refine wpAny_execs_cons (thn (h1 pins s σ H D I h) λf s1 q=> ?_)
 cases f with
 |next=>exact wpAny_execs_nil q
 |ret v=>exact q
 |brk=>exact q
 |cont=>exact q
theorem Inv.quiet{pins:List (Addr×Obj)}{σ:St}{H:Hp}{s:Shared}(I:Inv X pins σ H s):interactive X.env=false:=by simp[interactive,I.ok.kind]
noncomputable def tDrop(te:TE):TS:=λD σ H=>te σ H λ_ H1=>D.nx σ H1
theorem ps_expr(he:PE X e te)(hs:swapsWith e none pos.line X.env=pure false:=by rfl):PS X (.Expr e pos) (tDrop te):=by
 intro pins s σ H D I h
 exact wpAny_Expr_any (thn (he pins s σ H _ I h) λv s1 ⟨x,H1,I1,r1,q1⟩=>⟨σ,H1,I1,q1⟩) I.quiet hs
noncomputable def tRet(te:TE):TS:=λD σ H=>te σ H D.rt
theorem ps_ret(he:PE X e te):PS X (.Return (some e) pos) (tRet te):=by
 intro pins s σ H D I h
 exact wpAny_Return_some (thn (he pins s σ H _ I h) λv s1 ⟨x,H1,I1,r1,q1⟩=>⟨x,σ,H1,I1,r1,q1⟩)
noncomputable def tIfS(c:TT)(t u:TS):TS:=λD σ H=>c σ H λb H1=>if b=true then t D σ H1 else u D σ H1
theorem ps_if{c:Expr}{a b:List Stmt}{tc:TT}(hc:PT X c tc)(ha:PSs X a t)(hb:PSs X b u):PS X (.If c a b pos) (tIfS tc t u):=by
 intro pins s σ H D I h
 refine wpAny_If (thn (hc pins s σ H _ I h) λd s1 ⟨H1,I1,q1⟩=> ?_)
 cases d with
 |true=>exact ha pins s1 σ H1 D I1 q1
 |false=>exact hb pins s1 σ H1 D I1 q1
end
noncomputable abbrev TG:=V→St→Hp→(St→Hp→Prop)→Prop
noncomputable abbrev TGs:=List V→St→Hp→(St→Hp→Prop)→Prop
noncomputable def PG(X:Cx)(target:Expr)(t:TG):Prop:=
 ∀(pins:List (Addr×Obj)) (s:Shared) (σ:St) (H:Hp) (v:V) (u:Value) (Q:St→Hp→Prop),Inv X pins σ H s→RelV v u→t v σ H Q→
  wpAny (model X.prog X.w) X.A (assign target X.env u) (λ_ s'=> ∃σ' H',Inv X pins σ' H' s'∧Q σ' H') X.xe s
noncomputable def PGs(X:Cx)(ts:List Expr)(t:TGs):Prop:=
 ∀(pins:List (Addr×Obj)) (s:Shared) (σ:St) (H:Hp) (vs:List V) (us:List Value) (Q:St→Hp→Prop),Inv X pins σ H s→Vals vs us→t vs σ H Q→
  wpAny (model X.prog X.w) X.A (assignInOrder ((assignEach ts X.env).map (·.2)) us) (λ_ s'=> ∃σ' H',Inv X pins σ' H' s'∧Q σ' H') X.xe s
noncomputable abbrev TSet:=V→V→V→Hp→(Hp→Prop)→Prop
noncomputable def PSet(X:Cx)(t:TSet):Prop:=
 ∀(pins:List (Addr×Obj)) (s:Shared) (σ:St) (H:Hp) (o i v:V) (ov iv u:Value) (Q:Hp→Prop),Inv X pins σ H s→RelV o ov→RelV i iv→RelV v u→t o i v H Q→
  wpAny (model X.prog X.w) X.A (setItem ov iv u) (λ_ s'=> ∃H',Inv X pins σ H' s'∧Q H') X.xe s
section
variable {X:Cx} {pos:Pos}
noncomputable def gName(i:Nat):TG:=λv σ H Q=>Q (σ.set i (some v)) H
theorem pg_name{i:Nat}{x:Str}(hN:X.N.Nodup)(hi:X.N[i]? =some x)(hx:Loc X.env.scope x)(hf:X.fn x=true∨X.env.scope.names.lookup x=some .local:=by first|exact .inl rfl|exact .inr rfl|assumption):PG X (.Name x pos) (gName i):=by
 intro pins s σ H v u Q I r h
 exact wpAny_assign_Name (store_ok I hN hi hx r (λs' I'=>⟨_,H,I',h⟩) hf)
noncomputable def gNil:TGs:=λvs σ H Q=>vs=[]∧Q σ H
noncomputable def gCons(t:TG)(u:TGs):TGs:=λvs σ H Q=> ∃v r,vs=v::r∧t v σ H λσ' H'=>u r σ' H' Q
theorem pgs_nil:PGs X [] gNil:=by
 intro pins s σ H vs us Q I r h
 obtain⟨e,h⟩:=h
 subst e
 cases r
 exact assignInOrder_nil ⟨σ,H,I,h⟩
theorem pgs_cons{e:Expr}{es:List Expr}{t:TG}{u:TGs}(h1:PG X e t)(h2:PGs X es u)
  (hs:(assignEach (e::es) X.env).map (·.2)=assign e X.env::(assignEach es X.env).map (·.2):=by rfl):PGs X (e::es) (gCons t u):=by
 intro pins s σ H vs us Q I r h
 obtain⟨v,vr,e1,h⟩:=h
 subst e1
 cases r with
 |cons r rr=>
  rw[hs]
  refine assignInOrder_cons (thn (h1 pins s σ H _ _ _ I r h) λ_ s1 ⟨σ1,H1,I1,q1⟩=> ?_)
  exact h2 pins s1 σ1 H1 _ _ Q I1 rr q1
noncomputable def gTup(K:PySem.W.Frag)(n:Nat)(t:TGs):TG:=λv σ H Q=> ∃a xs,v=.ref a∧SqT K H a xs∧xs.length=n∧t xs σ H Q
theorem pg_tup{es:List Expr}{k:Nat}{t:TGs}{n:Nat}(hc:X.calm=true)(h:PGs X es t)
  (hn:(assignEach es X.env).length=n:=by rfl) (hst:(assignEach es X.env).findIdx? (·.1)=none:=by rfl):PG X (.Tuple es k pos) (gTup X.K n t):=by
 intro pins s σ H v u Q I r hw
 obtain⟨a,xs,e1,hq,hl,hw⟩:=hw
 subst e1
 cases r
 obtain⟨its,rv,ht,hz⟩:=I.tuple hq
 refine assign_Tuple_tuple (I.ok.hd hc) ht (by simp[hn,←hl,rv.length]) hst λh' hx=> ?_
 have I1:Inv X pins σ H {s with heap:=h'}:=I.kept (t':=s.toks) λb o e=>hx b o (Nat.ne_of_lt (Heap.lt_size e)) e
 exact h pins _ σ H xs _ Q I1 (by simpa using rv) hw
noncomputable def gSub(to ti:TE)(t:TSet):TG:=λv σ H Q=>to σ H λo H1=>ti σ H1 λi H2=>t o i v H2 λH3=>Q σ H3
theorem pg_sub{o i:Expr}{to ti:TE}{t:TSet}(ho:PE X o to)(hi:PE X i ti)(hs:PSet X t)
  (ha: ∀v,assign (.Subscript o i pos) X.env v=(do
   let ov←holding [v] (eval o X.env)
   let iv←holding [v,ov] (eval i X.env)
   standAt pos
   holding [v,ov,iv] (setItem ov iv v)
   release [v,ov,iv] []):=by intro _;rfl):PG X (.Subscript o i pos) (gSub to ti t):=by
 intro pins s σ H v u Q I r h
 rw[ha]
 refine wpAny_bind (wpAny_holding (thn (ho pins s σ H _ I h) λov s1 ⟨x,H1,I1,r1,q1⟩=> ?_))
 refine wpAny_bind (wpAny_holding (thn (hi pins s1 σ H1 _ I1 q1) λiv s2 ⟨y,H2,I2,r2,q2⟩=> ?_))
 refine wpAny_bind (wpAny_standAt (wpAny_bind (wpAny_holding (thn (hs pins s2 σ H2 x y v ov iv u _ I2 r1 r2 r q2) λ_ s3 ⟨H3,I3,q3⟩=> ?_))))
 exact wpAny_release ⟨σ,H3,I3,q3⟩
noncomputable def tAsg(te:TE)(g:TG):TS:=λD σ H=>te σ H λx H1=>g x σ H1 D.nx
theorem ps_asg{tg e:Expr}{te:TE}{g:TG}(he:PE X e te)(hg:PG X tg g)(hs:swapsWithSole [tg] e pos.line X.env=pure false:=by rfl)(hw:swappedStores [tg] e X.env=pure none:=by rfl)
  (h1:(assignEach [tg] X.env).map (·.2)=[assign tg X.env]:=by rfl):PS X (.Assign [tg] e pos) (tAsg te g):=by
 intro pins s σ H D I h
 refine wpAny_Assign_stores (thn (he pins s σ H _ I h) λv s1 ⟨x,H1,I1,r1,q1⟩=> ?_) hs hw
 rw[h1]
 exact thn (hg pins s1 σ H1 x v _ I1 r1 q1) λ_ s2 q=>q
theorem ps_set{i:Nat}{x:Str}{e:Expr}{te:TE}{pos':Pos}(hN:X.N.Nodup)(hi:X.N[i]? =some x)(hx:Loc X.env.scope x)(he:PE X e te)(hs:swapsWith e (some (.Name x pos')) pos.line X.env=pure false:=by rfl)(hf:X.fn x=true∨X.env.scope.names.lookup x=some .local:=by first|exact .inl rfl|exact .inr rfl|assumption):
  PS X (.Assign [.Name x pos'] e pos) (tAsg te (gName i)):=by
 intro pins s σ H D I h
 refine wpAny_Assign_Name (thn (he pins s σ H _ I h) λv s1 ⟨y,H1,I1,r1,q1⟩=> ?_) hs
 exact store_ok I1 hN hi hx r1 (λs2 I2=>⟨_,H1,I2,q1⟩) hf
end
section
variable {X:Cx} {pos:Pos}
noncomputable def tWhile(c:TT)(tb:TS):TS:=λD σ H=> ∃W:Nat→St→Hp→Prop,(∃m,W m σ H)∧∀m σ H,W m σ H→
 c σ H λb H1=>if b=true then∃N:St→Hp→Prop,(∀σ' H',N σ' H'→∃m',m'<m∧W m' σ' H')∧tb {D with nx:=N,ct:=N,bk:=D.nx} σ H1 else D.nx σ H1
theorem ps_while{c:Expr}{body:List Stmt}{tc:TT}{tb:TS}(hp:PassesOwn (model X.prog X.w) X.A X.env X.xe)(hc:PT X c tc)(hb:PSs X body tb):PS X (.While c body [] pos) (tWhile tc tb):=by
 intro pins s σ H D I h
 obtain⟨W,⟨m0,w0⟩,turn⟩:=h
 refine wpAny_While (codeAny_whileLoop (λn s'=> ∃σ' H',Inv X pins σ' H' s'∧W n σ' H') ?_ m0 ⟨σ,H,I,w0⟩)
 rintro n s1 ⟨σ1,H1,I1,w1⟩
 refine wpAny_passesOwn hp (thn (hc pins s1 σ1 H1 _ I1 (turn n σ1 H1 w1)) λb s2 ⟨H2,I2,q2⟩=> ?_)
 cases b with
 |true=>
  obtain⟨N,hN,q2⟩:=q2
  rw[if_pos rfl]
  refine wpAny_passesOwn hp (thn (hb pins s2 σ1 H2 _ I2 q2) λf s3 q3=> ?_)
  cases f with
  |next=>
   obtain⟨σ3,H3,I3,n3⟩:=q3
   obtain⟨m',hm,w3⟩:=hN σ3 H3 n3
   exact⟨m',hm,σ3,H3,I3,w3⟩
  |cont=>
   obtain⟨σ3,H3,I3,n3⟩:=q3
   obtain⟨m',hm,w3⟩:=hN σ3 H3 n3
   exact⟨m',hm,σ3,H3,I3,w3⟩
  |brk=>exact q3
  |ret v=>exact q3
 |false=>
  rw[if_neg Bool.false_ne_true]
  exact wpAny_execs_nil ⟨σ1,H2,I2,q2⟩
end
structure It where
 go:Nat→Hp→Prop
 yld:Nat→Hp→V→Hp→Prop
 stop:Nat→Hp→Prop
noncomputable def FpOk(X:Cx)(pins:List (Addr×Obj))(H:Hp)(b:Addr):Prop:=
 H b=none∧b≠X.env.locals∧b∉X.fs∧(b∈X.ex∨X.s₀.heap.objs.size≤b)∧(∀x c,X.env.cells.lookup x=some c→c≠b)∧∀p∈X.pn++pins,p.1≠b
theorem Inv.fpOk{X:Cx}{pins:List (Addr×Obj)}{σ:St}{H H':Hp}{s:Shared}{b:Addr}(I:Inv X pins σ H s)(hb:s.heap.objs.size≤b)(hn:H' b=none):FpOk X pins H' b:=by
 refine⟨hn,Nat.ne_of_gt (Nat.lt_of_lt_of_le I.lt hb),I.nofs hb,.inr (Nat.le_trans I.sz hb),λx c e z=> ?_,λp hp z=> ?_⟩
 ·obtain⟨v,q⟩:=I.cell x c e
  exact absurd (Nat.lt_of_lt_of_le q.lt (by rw[z];exact hb)) (Nat.lt_irrefl _)
 ·exact absurd (Nat.lt_of_lt_of_le (Heap.lt_size (I.pin p hp).1) (by rw[z];exact hb)) (Nat.lt_irrefl _)
structure Turn(P:Program)(w:World)(K:PySem.W.Frag)(tg:Expr)(J:It)(fp:List Addr)(it:Addr)(tn:Nat→Heap→Prop):Prop where
 mem:it∈fp
 obj: ∀i h,tn i h→∀b∈fp,∃o,h.get? b=some o∧∀v,o.data≠.cell v
 keep: ∀i h h',tn i h→(∀b∈fp,∀o,h.get? b=some o→h'.get? b=some o)→tn i h'
 item: ∀(X:Cx),X.prog=P→X.w=w→X.K=K→X.calm=true→∀(i:Nat) (pins:List (Addr×Obj)) (s:Shared) (σ:St) (H:Hp) (E:Value→Shared→Prop),Inv X pins σ H s→(∀b∈fp,FpOk X pins H b)→tn i s.heap→J.go i H→
  wpAny (model P w) X.A (pyNext (.ref it)) (λr s1=> ∃u,r=some u∧
   wpAny (model P w) X.A (letOwnedTupleGo tg (.ref it) u) (λ_ s2=> ∃x H',Inv X pins σ H' s2∧RelV x u∧J.yld i H x H'∧tn (i+1) s2.heap∧∀b∈fp,H' b=none) E s1) E s
 done: ∀(X:Cx),X.prog=P→X.w=w→X.K=K→X.calm=true→∀(i:Nat) (pins:List (Addr×Obj)) (s:Shared) (σ:St) (H:Hp) (E:Value→Shared→Prop),Inv X pins σ H s→(∀b∈fp,FpOk X pins H b)→tn i s.heap→J.stop i H→
  wpAny (model P w) X.A (pyNext (.ref it)) (λr s1=>r=none∧Inv X pins σ H s1) E s
 self: ∀(A:Around) (i:Nat) (s:Shared) (Q:Value→Shared→Prop) (E:Value→Shared→Prop),tn i s.heap→Q (.ref it) s→wpAny (model P w) A (pyIter (.ref it)) Q E s
noncomputable abbrev TI:=St→Hp→(It→Hp→Prop)→Prop
noncomputable def PIE(X:Cx)(pins:List (Addr×Obj))(σ:St)(tg:Expr)(R:It→Hp→Prop)(itv:Value)(s2:Shared):Prop:=
 ∃(it:Addr) (fp:List Addr) (tn:Nat→Heap→Prop) (J:It) (H':Hp),itv=.ref it∧Inv X pins σ H' s2∧Turn X.prog X.w X.K tg J fp it tn∧tn 0 s2.heap∧(∀b∈fp,FpOk X pins H' b)∧R J H'
noncomputable def PI(X:Cx)(tg iter:Expr)(wi:TI):Prop:=
 ∀(pins:List (Addr×Obj)) (s:Shared) (σ:St) (H:Hp) (R:It→Hp→Prop),Inv X pins σ H s→wi σ H R→
  wpAny (model X.prog X.w) X.A (eval iter X.env) (λv s1=>wpAny (model X.prog X.w) X.A (pyIter v) (PIE X pins σ tg R) X.xe s1) X.xe s
theorem go_of{M:Model}{A:Around}{E:Value→Shared→Prop}{s:Shared}{tg:Expr}{it:Addr}{u:Value}{o:Obj}{n:String}{vs:Array Value}{Q:Unit→Shared→Prop}(ho:s.heap.get? it=some o)(hc:o.cls=.type n)(hd:o.data=.fields vs)
  (hn:["enumerate","zip","dict_itemiterator","dict_reverseitemiterator","odict_iterator","itertools.zip_longest","itertools.pairwise"].contains n=false) (hQ:Q () s):wpAny M A (letOwnedTupleGo tg (.ref it) u) Q E s:=by
 unfold letOwnedTupleGo
 cases tg<;>first
  |exact wpAny_pure hQ
  |(cases u<;>first
    |exact wpAny_pure hQ
    |(refine wpAny_bind (wpAny_load ho ?_)
      rw[hc,hd]
      show wpAny M A (if (["enumerate","zip","dict_itemiterator","dict_reverseitemiterator","odict_iterator","itertools.zip_longest","itertools.pairwise"].contains n&&vs[0]? ==some (rawInt _))=true then _ else _) Q E s
      rw[if_neg (by intro h;rw[hn,Bool.false_and] at h;cases h)]
      exact wpAny_pure hQ))
noncomputable def Itl(K:PySem.W.Frag)(a:Addr):It:=
 ⟨λi H=> ∃xs x,SqL K H a xs∧xs[i]? =some x,λi H x H'=>H'=H∧∀xs,SqL K H a xs→xs[i]? =some x,λi H=> ∃xs,SqL K H a xs∧xs.length≤i⟩
noncomputable def Itt(K:PySem.W.Frag)(a:Addr):It:=
 ⟨λi H=> ∃xs x,SqT K H a xs∧xs[i]? =some x,λi H x H'=>H'=H∧∀xs,SqT K H a xs→xs[i]? =some x,λi H=> ∃xs,SqT K H a xs∧xs.length≤i⟩
noncomputable def Itr(lo:Int)(n:Nat):It:=⟨λi _=>i<n,λi H x H'=>H'=H∧x=.int (lo+i),λi _=>n≤i⟩
theorem turn_list{P:Program}{w:World}{K:PySem.W.Frag}{tg:Expr}(a it:Addr):Turn P w K tg (Itl K a) [it] it (λi h=>h.IsListIter it a i) where
 mem:=by simp
 obj:=λi h st b hb=>by
  have e:b=it:=by simpa using hb
  subst e
  obtain⟨o,e,c,d⟩:=st
  exact⟨o,e,λv z=>by rw[d] at z;cases z⟩
 keep:=λi h h' st k=>st.at λo e=>k it (by simp) o e
 item:=by
  intro X hP hw hK hc i pins s σ H E I hf st hg
  subst hP hw hK
  obtain⟨xs,x,hq,hx⟩:=hg
  obtain⟨its,rv,p,hz⟩:=I.list hq
  obtain⟨u,hu,ru⟩:=rv.get hx
  obtain⟨f0,f1,f2,f3,f4,f5⟩:=hf it (by simp)
  refine wpAny_pyNext_list_item st p.isList (x:=u) (by simpa using hu) λh' st' sb=> ?_
  have I1:Inv X pins σ H {s with heap:=h'}:=I.turned (t':=s.toks) (λb o hb e=>(sb.2 b hb).trans e) f0 f1 f3 f4 f5
  obtain⟨o,e,c,d⟩:=id st'
  exact⟨u,rfl,go_of (s:={s with heap:=h'}) e c d (by decide) ⟨x,H,I1,ru,⟨rfl,λys hy=>by rw[I.list_inj hy hq];exact hx⟩,st',λb hb=>(hf b hb).1⟩⟩
 done:=by
  intro X hP hw hK hc i pins s σ H E I hf st hg
  subst hP hw hK
  obtain⟨xs,hq,hx⟩:=hg
  obtain⟨its,rv,p,hz⟩:=I.list hq
  obtain⟨f0,f1,f2,f3,f4,f5⟩:=hf it (by simp)
  have hl:=rv.length
  exact wpAny_pyNext_list_end (I.ok.hd hc) st p.isList (by simp;omega) λh' eb=>⟨rfl,I.turned (t':=s.toks) (λb o hb e=>eb b o hb e) f0 f1 f3 f4 f5⟩
 self:=λ_ _ _ _ _ st h=>wpAny_pyIter_listiter st h
theorem turn_tuple{P:Program}{w:World}{K:PySem.W.Frag}{tg:Expr}(a it:Addr):Turn P w K tg (Itt K a) [it] it (λi h=>h.IsTupleIter it a i) where
 mem:=by simp
 obj:=λi h st b hb=>by
  have e:b=it:=by simpa using hb
  subst e
  obtain⟨o,e,c,d⟩:=st
  exact⟨o,e,λv z=>by rw[d] at z;cases z⟩
 keep:=λi h h' st k=>st.at λo e=>k it (by simp) o e
 item:=by
  intro X hP hw hK hc i pins s σ H E I hf st hg
  subst hP hw hK
  obtain⟨xs,x,hq,hx⟩:=hg
  obtain⟨its,rv,p,hz⟩:=I.tuple hq
  obtain⟨u,hu,ru⟩:=rv.get hx
  obtain⟨f0,f1,f2,f3,f4,f5⟩:=hf it (by simp)
  refine wpAny_pyNext_tuple_item st (show s.heap.IsTuple a its.toArray from p) (x:=u) (by simpa using hu) λh' st' sb=> ?_
  have I1:Inv X pins σ H {s with heap:=h'}:=I.turned (t':=s.toks) (λb o hb e=>(sb.2 b hb).trans e) f0 f1 f3 f4 f5
  obtain⟨o,e,c,d⟩:=id st'
  exact⟨u,rfl,go_of (s:={s with heap:=h'}) e c d (by decide) ⟨x,H,I1,ru,⟨rfl,λys hy=>by rw[I.tuple_inj hy hq];exact hx⟩,st',λb hb=>(hf b hb).1⟩⟩
 done:=by
  intro X hP hw hK hc i pins s σ H E I hf st hg
  subst hP hw hK
  obtain⟨xs,hq,hx⟩:=hg
  obtain⟨its,rv,p,hz⟩:=I.tuple hq
  obtain⟨f0,f1,f2,f3,f4,f5⟩:=hf it (by simp)
  have hl:=rv.length
  exact wpAny_pyNext_tuple_end (I.ok.hd hc) st (show s.heap.IsTuple a its.toArray from p) (by simp;omega) λh' eb=>⟨rfl,I.turned (t':=s.toks) (λb o hb e=>eb b o hb e) f0 f1 f3 f4 f5⟩
 self:=λ_ _ _ _ _ st h=>wpAny_pyIter_tupleiter st h
theorem turn_range{P:Program}{w:World}{K:PySem.W.Frag}{tg:Expr}(it:Addr)(lo:Int)(n:Nat):Turn P w K tg (Itr lo n) [it] it (λi h=>IsRangeIter h it (lo+(i:Nat)*1) ((n:Int) - (i:Nat)) 1) where
 mem:=by simp
 obj:=λi h st b hb=>by
  have e:b=it:=by simpa using hb
  subst e
  exact⟨_,st,λv z=>by
   have z':Data.fields _=Data.cell v:=z
   cases z'⟩
 keep:=λi h h' st k=>k it (by simp) _ st
 item:=by
  intro X hP hw hK hc i pins s σ H E I hf st hg
  subst hP hw hK
  obtain⟨f0,f1,f2,f3,f4,f5⟩:=hf it (by simp)
  have W:=Walks.range (prog:=X.prog) (w:=X.w) (I.ok.hd hc) it lo 1 n
  refine W.item i s _ _ hg st λv h' tk hv st' kk=> ?_
  obtain⟨t,rfl⟩:=hv
  have I1:Inv X pins σ H {s with heap:=h',toks:=tk}:=I.turned (λb o hb e=>kk b o (by simpa using hb) e) f0 f1 f3 f4 f5
  refine⟨_,rfl,go_of (s:={s with heap:=h',toks:=tk}) (n:="range_iterator") st' rfl rfl (by decide) ⟨.int (lo+i),H,I1,⟨t,?_⟩,⟨rfl,rfl⟩,st',λb hb=>(hf b hb).1⟩⟩
  rw[Int.mul_one]
 done:=by
  intro X hP hw hK hc i pins s σ H E I hf st hg
  subst hP hw hK
  obtain⟨f0,f1,f2,f3,f4,f5⟩:=hf it (by simp)
  exact wpAny_pyNext_range_end (I.ok.hd hc) st (by have:n≤i:=hg;omega) λh' eb=>⟨rfl,I.turned (t':=s.toks) (λb o hb e=>eb b o hb e) f0 f1 f3 f4 f5⟩
 self:=λ_ _ _ _ _ st h=>wpAny_pyIter_rangeiter st h
end L2
namespace L2
open PySem PySem.Spec PyProof.Rows
section
variable {X:Cx} {tg:Expr}
theorem range_it{pins:List (Addr×Obj)}{σ:St}{H:Hp}{s:Shared}{R:It→Hp→Prop}{E:Value→Shared→Prop}{lo hi:Int}{t u v:Tok}{tk:Nat}(I:Inv X pins σ H s)(h1: -(2^62)≤lo)(h2:lo<2^62)(h3: -(2^62)≤hi)(h4:hi<2^62)
  (q:R (Itr lo (hi - lo).toNat) H):wpAny (model X.prog X.w) X.A (pyIter (.ref s.heap.objs.size)) (PIE X pins σ tg R) E {s with heap:=s.heap.push {cls:=.type "range",data:=.fields #[.int lo t,.int hi u,.int 1 v]},toks:=tk}:=by
 refine wpAny_pyIter_range (IsRange.new ..) (small_one h1 h2 h3 h4) ?_
 have I1:Inv X pins σ H {s with heap:=s.heap.push {cls:=.type "range",data:=.fields #[.int lo t,.int hi u,.int 1 v]},toks:=tk}:=I.kept λb o e=>Heap.get?_push_of_some _ e
 refine⟨(s.heap.push {cls:=.type "range",data:=.fields #[.int lo t,.int hi u,.int 1 v]}).objs.size,[(s.heap.push {cls:=.type "range",data:=.fields #[.int lo t,.int hi u,.int 1 v]}).objs.size],_,_,H,rfl,
  I1.kept (t':=tk) λb o e=>Heap.get?_push_of_some _ e,turn_range _ lo (hi - lo).toNat,?_,λb hb=> ?_,q⟩
 ·have e1:lo+((0:Nat):Int)*1=lo:=by simp
  have e2:(((hi - lo).toNat:Nat):Int) - ((0:Nat):Int)=Builtin.Range.rangeSize lo hi 1:=by rw[rangeSize_one];split<;>omega
  show IsRangeIter _ _ (lo+((0:Nat):Int)*1) ((((hi - lo).toNat:Nat):Int) - ((0:Nat):Int)) 1
  rw[e1,e2]
  exact Heap.get?_push_size _ rfl
 ·have e:b=(s.heap.push {cls:=.type "range",data:=.fields #[.int lo t,.int hi u,.int 1 v]}).objs.size:=by simpa using hb
  subst e
  exact I1.fpOk (Nat.le_refl _) (I1.hok.fresh (Nat.le_refl _))
noncomputable def iRng1(ta:TA):TI:=λσ H R=>ta σ H λvs H1=> ∃j:Int,vs=[.int j]∧ -(2^62)≤j∧j<2^62∧R (Itr 0 j.toNat) H1
noncomputable def iRng2(ta:TA):TI:=λσ H R=>ta σ H λvs H1=> ∃i j:Int,vs=[.int i,.int j]∧(-(2^62)≤i∧i<2^62∧ -(2^62)≤j∧j<2^62)∧R (Itr i (j - i).toNat) H1
theorem pi_range1{a:Expr}{ta:TA}{p pos:Pos}(hg:Gl X "range")(hm:X.mg "range"=none)(ha:PA X [a] ta)(hs:starEach [a] X.env=[(false,eval a X.env)]:=by rfl):PI X tg (.Call (.Name "range" p) [a] [] pos) (iRng1 ta):=by
 intro pins s σ H R I h
 refine Call_ (ld_blt I hg hm boot_range (PyProof.Rows.callWith_type1 (thn (ha pos pins s σ H _ I h) λus s1 ⟨vs,H1,I1,r1,q1⟩=> ?_) hs rfl))
 obtain⟨j,e,q1,q2,q⟩:=q1
 subst e
 cases r1 with
 |cons r rr=>
  cases rr
  obtain⟨t,rfl⟩:=r
  exact call_range_1 (range_it I1 (by omega) (by omega) q1 q2 (by simpa using q))
theorem pi_range2{a b:Expr}{ta:TA}{p pos:Pos}(hg:Gl X "range")(hm:X.mg "range"=none)(ha:PA X [a,b] ta)(hs:starEach [a,b] X.env=[(false,eval a X.env),(false,eval b X.env)]:=by rfl)(hs2:starEach [b] X.env=[(false,eval b X.env)]:=by rfl):
  PI X tg (.Call (.Name "range" p) [a,b] [] pos) (iRng2 ta):=by
 intro pins s σ H R I h
 refine Call_ (ld_blt I hg hm boot_range (PyProof.Rows.callWith_type1 (thn (ha pos pins s σ H _ I h) λus s1 ⟨vs,H1,I1,r1,q1⟩=> ?_) (by rw[hs,hs2]) (by rw[hs2];rfl)))
 obtain⟨i,j,e,⟨q1,q2,q3,q4⟩,q⟩:=q1
 subst e
 cases r1 with
 |cons r rr=>
  cases rr with
  |cons r' rr=>
   cases rr
   obtain⟨t,rfl⟩:=r
   obtain⟨t',rfl⟩:=r'
   exact call_range_2 (range_it I1 q1 q2 q3 q4 q)
noncomputable def tFor(wi:TI)(g:TG)(tb:TS):TS:=λD σ H=>wi σ H λJ H1=> ∃W:Nat→Nat→St→Hp→Prop,(∃m,W 0 m σ H1)∧∀i m σ H,W i m σ H→
 (J.stop i H∧D.nx σ H)∨(J.go i H∧∃N:St→Hp→Prop,(∀σ' H',N σ' H'→∃m',m'<m∧W (i+1) m' σ' H')∧∀x H',J.yld i H x H'→g x σ H' λσ2 H2=>tb {D with nx:=N,ct:=N,bk:=D.nx} σ2 H2)
noncomputable def pinsAt(fp:List Addr)(h:Heap):List (Addr×Obj):=fp.filterMap λb=>(h.get? b).map λo=>(b,o)
theorem mem_pinsAt{fp:List Addr}{h:Heap}{b:Addr}{o:Obj}(hb:b∈fp)(e:h.get? b=some o):(b,o)∈pinsAt fp h:=List.mem_filterMap.mpr ⟨b,hb,by rw[e];rfl⟩
theorem of_pinsAt{fp:List Addr}{h:Heap}{p:Addr×Obj}(hp:p∈pinsAt fp h):p.1∈fp∧h.get? p.1=some p.2:=by
 obtain⟨b,hb,e⟩:=List.mem_filterMap.mp hp
 cases q:h.get? b with
 |none=>rw[q] at e;cases e
 |some o=>
  rw[q] at e
  have e':(b,o)=p:=Option.some.inj e
  subst e'
  exact⟨hb,q⟩
theorem Inv.pinned{pins:List (Addr×Obj)}{σ:St}{H:Hp}{s:Shared}{fp:List Addr}(I:Inv X pins σ H s)(hf: ∀b∈fp,FpOk X pins H b)(ho: ∀b∈fp,∃o,s.heap.get? b=some o∧∀v,o.data≠.cell v):Inv X (pins++pinsAt fp s.heap) σ H s:=
 I.pins_of λp hp=>(List.mem_append.mp hp).elim (λz=>I.pin p (List.mem_append_right _ z)) λz=>by
  obtain⟨hb,e⟩:=of_pinsAt z
  obtain⟨f0,f1,f2,_⟩:=hf p.1 hb
  obtain⟨o,e',d⟩:=ho p.1 hb
  rw[e] at e';cases e'
  exact⟨e,f0,f1,f2,d⟩
theorem Inv.unpinned{pins pl:List (Addr×Obj)}{σ:St}{H:Hp}{s:Shared}(I:Inv X (pins++pl) σ H s):Inv X pins σ H s:=I.pins_of λp hp=>I.pin p (List.mem_append_right _ (List.mem_append_left _ hp))
theorem ps_for{iter:Expr}{body:List Stmt}{wi:TI}{g:TG}{tb:TS}{pos:Pos}(hp:PassesOwn (model X.prog X.w) X.A X.env X.xe)(hc:X.calm=true)(hi:PI X tg iter wi)(hg:PG X tg g)(hb:PSs X body tb)
  (hs: ∀x,foldedSetIterable iter X.env x=pure x:=by intro _;rfl):PS X (.For tg iter body [] pos) (tFor wi g tb):=by
 intro pins s σ H D I h
 refine wpAny_For (thn (hi pins s σ H _ I h) λv s1 h1=>thn h1 λitv s2 h2=> ?_) hs
 obtain⟨it,fp,tn,J,H2,e,I2,T,st2,f2,W,⟨m0,w0⟩,turn⟩:=h2
 subst e
 -- what stays true of the iterator's objects through the loop
 have stat: ∀{H':Hp},(∀b∈fp,H' b=none)→∀b∈fp,FpOk X pins H' b:=λhn b hb=>⟨hn b hb,(f2 b hb).2⟩
 refine codeAny_forLoop_any (λn s'=> ∃i σ' H',Inv X pins σ' H' s'∧tn i s'.heap∧(∀b∈fp,H' b=none)∧W i n σ' H') ?_ m0 ⟨0,σ,H2,I2,st2,λb hb=>(f2 b hb).1,w0⟩
 rintro n s3 ⟨i,σ3,H3,I3,st3,fr3,w3⟩
 rcases turn i n σ3 H3 w3 with⟨stop,qn⟩|⟨go,N,hN,step⟩
 ·refine wpAny_passesOwn hp (thn (T.done X rfl rfl rfl hc i pins s3 σ3 H3 X.xe I3 (stat fr3) st3 stop) λr s4 ⟨hr,I4⟩=> ?_)
  subst hr
  exact wpAny_execs_nil ⟨σ3,H3,I4,qn⟩
 ·refine wpAny_passesOwn hp (thn (T.item X rfl rfl rfl hc i pins s3 σ3 H3 X.xe I3 (stat fr3) st3 go) λr s4 ⟨u,hr,h4⟩=> ?_)
  subst hr
  refine wpAny_passesOwn hp (thn h4 λ_ s5 ⟨x,H5,I5,r5,y5,st5,fr5⟩=> ?_)
  have I5':=I5.pinned (stat fr5) (T.obj _ _ st5)
  refine wpAny_passesOwn hp (thn (hg _ s5 σ3 H5 x u _ I5' r5 (step x H5 y5)) λ_ s6 ⟨σ6,H6,I6,q6⟩=> ?_)
  refine wpAny_passesOwn hp (thn (hb _ s6 σ6 H6 _ I6 q6) λf s7 q7=> ?_)
  have again: ∀{σ7:St} {H7:Hp},Inv X (pins++pinsAt fp s5.heap) σ7 H7 s7→N σ7 H7→∃m,m<n∧∃i σ' H',Inv X pins σ' H' s7∧tn i s7.heap∧(∀b∈fp,H' b=none)∧W i m σ' H':=λ{σ7 H7} I7 n7=>by
   obtain⟨m',hm,w7⟩:=hN σ7 H7 n7
   refine⟨m',hm,i+1,σ7,H7,I7.unpinned,T.keep _ _ _ st5 λb hb o e=>(I7.pin (b,o) (List.mem_append_right _ (List.mem_append_right _ (mem_pinsAt hb e)))).1,λb hb=> ?_,w7⟩
   obtain⟨o,e,d⟩:=T.obj _ _ st5 b hb
   exact(I7.pin (b,o) (List.mem_append_right _ (List.mem_append_right _ (mem_pinsAt hb e)))).2.1
  cases f with
  |next=>obtain⟨σ7,H7,I7,n7⟩:=q7;exact again I7 n7
  |cont=>obtain⟨σ7,H7,I7,n7⟩:=q7;exact again I7 n7
  |brk=>obtain⟨σ7,H7,I7,q7⟩:=q7;exact⟨σ7,H7,I7.unpinned,q7⟩
  |ret v=>obtain⟨x7,σ7,H7,I7,r7,q7⟩:=q7;exact⟨x7,σ7,H7,I7.unpinned,r7,q7⟩
end
end L2
namespace L2
open PySem PySem.Spec PyProof.Rows
noncomputable abbrev R2:=V→V→Hp→VK→Prop
noncomputable def OpR(X:Cx)(f:Value→Value→Sem Value)(r:R2):Prop:=
 ∀(pins:List (Addr×Obj)) (s:Shared) (σ:St) (H:Hp) (x y:V) (v u:Value) (Q:VK),Inv X pins σ H s→RelV x v→RelV y u→r x y H Q→
  wpAny (model X.prog X.w) X.A (f v u) (EP X pins σ Q) X.xe s
noncomputable def CallR(X:Cx)(f:Value)(r:List V→Hp→VK→Prop):Prop:=
 ∀(pins:List (Addr×Obj)) (s:Shared) (σ:St) (H:Hp) (xs:List V) (us:List Value) (Q:VK),Inv X pins σ H s→Vals xs us→r xs H Q→
  wpAny (model X.prog X.w) X.A (call f us) (EP X pins σ Q) X.xe s
noncomputable def TruR(X:Cx)(r:V→Hp→(Bool→Hp→Prop)→Prop):Prop:=
 ∀(pins:List (Addr×Obj)) (s:Shared) (σ:St) (H:Hp) (x:V) (v:Value) (Q:Bool→Hp→Prop),Inv X pins σ H s→RelV x v→r x H Q→
  wpAny (model X.prog X.w) X.A (truthy v) (TP X pins σ Q) X.xe s
noncomputable def tOp(r:R2)(ta tb:TE):TE:=λσ H Q=>ta σ H λx H1=>tb σ H1 λy H2=>r x y H2 Q
noncomputable def rI(C:Int→Int→Prop)(g:Int→Int→V):R2:=λx y H Q=> ∃i j,x=.int i∧y=.int j∧C i j∧Q (g i j) H
noncomputable def rI0(g:Int→Int→V):R2:=λx y H Q=> ∃i j,x=.int i∧y=.int j∧Q (g i j) H
section
variable {X:Cx} {a b c:Expr} {ta tb tc:TE} {pos:Pos}
theorem binT(ha:PE X a ta)(hb:PE X b tb){pins:List (Addr×Obj)}{s:Shared}{σ:St}{H:Hp}{R:V→V→Hp→Prop}(I:Inv X pins σ H s)
  (h:ta σ H λx H1=>tb σ H1 λy H2=>R x y H2) {Q:Value→Shared→Prop} {f:Value→Value→Sem Value}
  (hf: ∀v u s2 x y H2,Inv X pins σ H2 s2→RelV x v→RelV y u→R x y H2→wpAny (model X.prog X.w) X.A (f v u) Q X.xe s2):
  wpAny (model X.prog X.w) X.A (eval a X.env) (λv s₁=>wpAny (model X.prog X.w) X.A (eval b X.env) (λu s₂=>wpAny (model X.prog X.w) X.A (f v u) Q X.xe s₂) X.xe s₁) X.xe s:=by
 refine thn (ha pins s σ H _ I h) λv s1 ⟨x,H1,I1,r1,q1⟩=> ?_
 refine thn (hb pins s1 σ H1 _ I1 q1) λu s2 ⟨y,H2,I2,r2,q2⟩=> ?_
 exact hf v u s2 x y H2 I2 r1 r2 q2
theorem pe_op{op:Operator}{r:R2}(ho:OpR X (binaryOp op) r)(ha:PE X a ta)(hb:PE X b tb):PE X (.BinOp a op b pos) (tOp r ta tb):=by
 intro pins s σ H Q I h
 exact wpAny_BinOp (binT ha hb I h λv u s2 x y H2 I2 rx ry q=>ho pins s2 σ H2 x y v u Q I2 rx ry q)
theorem opI{f:Value→Value→Sem Value}{C:Int→Int→Prop}{g:Int→Int→Int}
  (rule: ∀(i j:Int) (t u:Tok) (s:Shared) (Q:Value→Shared→Prop) (E:Value→Shared→Prop),C i j→Q (.int (g i j) s.toks) {s with toks:=s.toks+1}→wpAny (model X.prog X.w) X.A (f (.int i t) (.int j u)) Q E s):
  OpR X f (rI C λi j=>.int (g i j)):=by
 intro pins s σ H x y v u Q I rx ry h
 obtain⟨i,j,rfl,rfl,hc,q⟩:=h
 obtain⟨t,rfl⟩:=rx
 obtain⟨t',rfl⟩:=ry
 exact rule i j t t' s _ _ hc ⟨.int (g i j),H,I.tok _,⟨_,rfl⟩,q⟩
theorem opI0{f:Value→Value→Sem Value}{g:Int→Int→Int}
  (rule: ∀(i j:Int) (t u:Tok) (s:Shared) (Q:Value→Shared→Prop) (E:Value→Shared→Prop),Q (.int (g i j) s.toks) {s with toks:=s.toks+1}→wpAny (model X.prog X.w) X.A (f (.int i t) (.int j u)) Q E s):
  OpR X f (rI0 λi j=>.int (g i j)):=by
 intro pins s σ H x y v u Q I rx ry h
 obtain⟨i,j,rfl,rfl,q⟩:=h
 obtain⟨t,rfl⟩:=rx
 obtain⟨t',rfl⟩:=ry
 exact rule i j t t' s _ _ ⟨.int (g i j),H,I.tok _,⟨_,rfl⟩,q⟩
theorem opB0{f:Value→Value→Sem Value}{g:Int→Int→Bool}
  (rule: ∀(i j:Int) (t u:Tok) (s:Shared) (Q:Value→Shared→Prop) (E:Value→Shared→Prop),Q (.bool (g i j)) s→wpAny (model X.prog X.w) X.A (f (.int i t) (.int j u)) Q E s):
  OpR X f (rI0 λi j=>.bl (g i j)):=by
 intro pins s σ H x y v u Q I rx ry h
 obtain⟨i,j,rfl,rfl,q⟩:=h
 obtain⟨t,rfl⟩:=rx
 obtain⟨t',rfl⟩:=ry
 exact rule i j t t' s _ _ ⟨.bl (g i j),H,I,rfl,q⟩
theorem op_add:OpR X (binaryOp .Add) (rI0 λi j=>.int (i+j)):=opI0 λ_ _ _ _ _ _ _ q=>add_int q
theorem op_sub:OpR X (binaryOp .Sub) (rI0 λi j=>.int (i - j)):=opI0 λ_ _ _ _ _ _ _ q=>sub_int q
theorem op_and:OpR X (binaryOp .BitAnd) (rI0 λi j=>.int (Builtin.bitAnd i j)):=opI0 λ_ _ _ _ _ _ _ q=>and_int q
end
noncomputable def scal:V→V→Bool
 | .non,.non=>true| .non,.int _=>true| .int _,.non=>true| .non,.bl _=>true| .bl _,.non=>true| .non,.str _=>true| .str _,.non=>true
 | .int _,.int _=>true| .bl _,.bl _=>true| .str _,.str _=>true| .byt _,.byt _=>true
 | .int _,.str _=>true| .str _,.int _=>true| .bl _,.str _=>true| .str _,.bl _=>true
 |_,_=>false
noncomputable def rEq:R2:=λx y H Q=>scal x y=true∧Q (.bl (decide (x=y))) H
noncomputable def rNe:R2:=λx y H Q=>scal x y=true∧Q (.bl (!decide (x=y))) H
theorem dec_int{i j:Int}:decide (V.int i=V.int j)=(i==j):=by
 rw[Bool.eq_iff_iff]
 simp
theorem dec_bl{i j:Bool}:decide (V.bl i=V.bl j)=(i==j):=by
 rw[Bool.eq_iff_iff]
 simp
theorem dec_str{i j:Str}:decide (V.str i=V.str j)=(i==j):=by
 rw[Bool.eq_iff_iff]
 simp
theorem dec_byt{i j:Array UInt8}:decide (V.byt i=V.byt j)=(i.toList==j.toList):=by
 rw[Bool.eq_iff_iff]
 cases i
 cases j
 simp
section
variable {X:Cx} {a b c:Expr} {ta tb tc:TE} {pos:Pos}
theorem fin_bl{pins:List (Addr×Obj)}{σ:St}{H:Hp}{s:Shared}{Q:VK}{k k':Bool}(I:Inv X pins σ H s)(q:Q (.bl k) H)(e:k=k'):EP X pins σ Q (.bool k') s:=by
 subst e
 exact⟨.bl k,H,I,rfl,q⟩
theorem op_eq:OpR X (compareOp .Eq) rEq:=by
 intro pins s σ H x y v u Q I rx ry h
 obtain⟨hs,q⟩:=h
 cases x with
 |non=>
  cases rx
  cases y with
  |non=>cases ry;exact PySem.EqNone.eq_none_none (fin_bl I q (by simp))
  |bl j=>cases ry;exact PySem.EqNone.eq_none_bool (fin_bl I q (by simp))
  |int j=>obtain⟨t',rfl⟩:=ry;exact PySem.EqNone.eq_none_int (fin_bl I q (by simp))
  |str j=>obtain⟨t',rfl⟩:=ry;exact PySem.EqNone.eq_none_str (fin_bl I q (by simp))
  |_=>exact absurd (show false=true from hs) Bool.false_ne_true
 |bl i=>
  cases rx
  cases y with
  |non=>cases ry;exact PySem.EqNone.eq_bool_none (fin_bl I q (by simp))
  |bl j=>cases ry;exact eq_bool (fin_bl I q dec_bl)
  |str j=>obtain⟨t',rfl⟩:=ry;exact PySem.EqMixed.eq_bool_str (fin_bl I q (by simp))
  |_=>exact absurd (show false=true from hs) Bool.false_ne_true
 |int i=>
  obtain⟨t,rfl⟩:=rx
  cases y with
  |non=>cases ry;exact PySem.EqNone.eq_int_none (fin_bl I q (by simp))
  |int j=>obtain⟨t',rfl⟩:=ry;exact eq_int (fin_bl I q dec_int)
  |str j=>obtain⟨t',rfl⟩:=ry;exact PySem.EqMixed.eq_int_str (fin_bl I q (by simp))
  |_=>exact absurd (show false=true from hs) Bool.false_ne_true
 |str i=>
  obtain⟨t,rfl⟩:=rx
  cases y with
  |non=>cases ry;exact PySem.EqNone.eq_str_none (fin_bl I q (by simp))
  |bl j=>cases ry;exact PySem.EqMixed.eq_str_bool (fin_bl I q (by simp))
  |int j=>obtain⟨t',rfl⟩:=ry;exact PySem.EqMixed.eq_str_int (fin_bl I q (by simp))
  |str j=>obtain⟨t',rfl⟩:=ry;exact eq_str (fin_bl I q dec_str)
  |_=>exact absurd (show false=true from hs) Bool.false_ne_true
 |byt i=>
  obtain⟨t,rfl⟩:=rx
  cases y with
  |byt j=>obtain⟨t',rfl⟩:=ry;exact PySem.W.eq_bytes (fin_bl I q dec_byt)
  |_=>exact absurd (show false=true from hs) Bool.false_ne_true
 |_=>cases y<;>exact absurd (show false=true from hs) Bool.false_ne_true
theorem op_ne:OpR X (compareOp .NotEq) rNe:=by
 intro pins s σ H x y v u Q I rx ry h
 obtain⟨hs,q⟩:=h
 cases x with
 |non=>
  cases rx
  cases y with
  |non=>cases ry;exact PySem.EqNone.ne_none_none (fin_bl I q (by simp))
  |bl j=>cases ry;exact PySem.EqNone.ne_none_bool (fin_bl I q (by simp))
  |int j=>obtain⟨t',rfl⟩:=ry;exact PySem.EqNone.ne_none_int (fin_bl I q (by simp))
  |str j=>obtain⟨t',rfl⟩:=ry;exact PySem.EqNone.ne_none_str (fin_bl I q (by simp))
  |_=>exact absurd (show false=true from hs) Bool.false_ne_true
 |bl i=>
  cases rx
  cases y with
  |non=>cases ry;exact PySem.EqNone.ne_bool_none (fin_bl I q (by simp))
  |bl j=>cases ry;exact ne_bool (fin_bl I q (congrArg not dec_bl))
  |str j=>obtain⟨t',rfl⟩:=ry;exact PySem.EqMixed.ne_bool_str (fin_bl I q (by simp))
  |_=>exact absurd (show false=true from hs) Bool.false_ne_true
 |int i=>
  obtain⟨t,rfl⟩:=rx
  cases y with
  |non=>cases ry;exact PySem.EqNone.ne_int_none (fin_bl I q (by simp))
  |int j=>obtain⟨t',rfl⟩:=ry;exact ne_int (fin_bl I q (congrArg not dec_int))
  |str j=>obtain⟨t',rfl⟩:=ry;exact PySem.EqMixed.ne_int_str (fin_bl I q (by simp))
  |_=>exact absurd (show false=true from hs) Bool.false_ne_true
 |str i=>
  obtain⟨t,rfl⟩:=rx
  cases y with
  |non=>cases ry;exact PySem.EqNone.ne_str_none (fin_bl I q (by simp))
  |bl j=>cases ry;exact PySem.EqMixed.ne_str_bool (fin_bl I q (by simp))
  |int j=>obtain⟨t',rfl⟩:=ry;exact PySem.EqMixed.ne_str_int (fin_bl I q (by simp))
  |str j=>obtain⟨t',rfl⟩:=ry;exact ne_str (fin_bl I q (congrArg not dec_str))
  |_=>exact absurd (show false=true from hs) Bool.false_ne_true
 |byt i=>
  obtain⟨t,rfl⟩:=rx
  cases y with
  |byt j=>obtain⟨t',rfl⟩:=ry;exact PySem.W.ne_bytes (fin_bl I q (congrArg not dec_byt))
  |_=>exact absurd (show false=true from hs) Bool.false_ne_true
 |_=>cases y<;>exact absurd (show false=true from hs) Bool.false_ne_true
theorem op_lt:OpR X (compareOp .Lt) (rI0 λi j=>.bl (decide (i<j))):=opB0 λ_ _ _ _ _ _ _ q=>lt_int q
theorem op_le:OpR X (compareOp .LtE) (rI0 λi j=>.bl (decide (i≤j))):=opB0 λ_ _ _ _ _ _ _ q=>le_int q
theorem op_gt:OpR X (compareOp .Gt) (rI0 λi j=>.bl (decide (j<i))):=opB0 λ_ _ _ _ _ _ _ q=>gt_int q
theorem op_ge:OpR X (compareOp .GtE) (rI0 λi j=>.bl (decide (j≤i))):=opB0 λ_ _ _ _ _ _ _ q=>ge_int q
theorem op_in_str:OpR X (compareOp .In) (λx y H Q=> ∃i j,x=.str i∧y=.str j∧Q (.bl (!(Builtin.Str.occurrences j i 0 j.length 1).isEmpty)) H):=by
 intro pins s σ H x y v u Q I rx ry h
 obtain⟨i,j,rfl,rfl,q⟩:=h
 obtain⟨t,rfl⟩:=rx
 obtain⟨t',rfl⟩:=ry
 exact in_str (fin_bl I q rfl)
theorem OpR.or{f:Value→Value→Sem Value}{r r':R2}(h:OpR X f r)(h':OpR X f r'):OpR X f (λx y H Q=>r x y H Q∨r' x y H Q):=by
 intro pins s σ H x y v u Q I rx ry q
 rcases q with q|q
 ·exact h pins s σ H x y v u Q I rx ry q
 ·exact h' pins s σ H x y v u Q I rx ry q
theorem nomark(b:Expr){op:CmpOp}(h:op≠.In:=by decide)(h2:op≠.NotIn:=by decide):behindInMarks op b=false:=by
 have e1:(op==CmpOp.In)=false:=by cases op<;>first|rfl|exact absurd rfl h
 have e2:(op==CmpOp.NotIn)=false:=by cases op<;>first|rfl|exact absurd rfl h2
 cases b<;>simp[behindInMarks,e1,e2]
theorem pe_cmpR{op:CmpOp}{r:R2}(ho:OpR X (compareOp op) r)(ha:PE X a ta)(hb:PE X b tb)(hm:behindInMarks op b=false):PE X (.Compare a [op] [b] pos) (tOp r ta tb):=by
 intro pins s σ H Q I h
 exact wpAny_Compare1 (binT ha hb I h λv u s2 x y H2 I2 rx ry q=>ho pins s2 σ H2 x y v u Q I2 rx ry q) hm
noncomputable def tTest(t:TE):TT:=λσ H Q=>t σ H λx H'=> ∃k,x=.bl k∧Q k H'
theorem pt_cmpR{op:CmpOp}{r:R2}(ho:OpR X (compareOp op) r)(ha:PE X a ta)(hb:PE X b tb)(hm:behindInMarks op b=false):PT X (.Compare a [op] [b] pos) (tTest (tOp r ta tb)):=by
 intro pins s σ H Q I h
 refine wpAny_isTrue_Compare1 (thn (ha pins s σ H _ I h) λv s1 ⟨x,H1,I1,r1,q1⟩=>thn (hb pins s1 σ H1 _ I1 q1) λu s2 ⟨y,H2,I2,r2,q2⟩=>
  thn (ho pins s2 σ H2 x y v u _ I2 r1 r2 q2) λc s3 ⟨z,H3,I3,r3,k,e,q3⟩=> ?_) hm
 subst e
 cases r3
 exact wpAny_truthy_bool ⟨H3,I3,q3⟩
noncomputable def tChain(r r':R2)(ta tb tc:TE):TE:=λσ H Q=>ta σ H λx H1=>tb σ H1 λy H2=>r x y H2 λz H3=> ∃k,z=.bl k∧
 (if k=true then tc σ H3 λw' H4=>r' y w' H4 Q else Q (.bl false) H3)
theorem pt_chain{op op':CmpOp}{r r':R2}(ho:OpR X (compareOp op) r)(ho':OpR X (compareOp op') r')(ha:PE X a ta)(hb:PE X b tb)(hc:PE X c tc)
  (hm:lastMarks [op,op'] [b,c]=false:=by with_unfolding_all rfl):PT X (.Compare a [op,op'] [b,c] pos) (tTest (tChain r r' ta tb tc)):=by
 intro pins s σ H Q I h
 refine isTrue_chain (thn (ha pins s σ H _ I h) λv s1 ⟨x,H1,I1,r1,q1⟩=>test_link (thn (hb pins s1 σ H1 _ I1 q1) λu s2 ⟨y,H2,I2,r2,q2⟩=>
  thn (ho pins s2 σ H2 x y v u _ I2 r1 r2 q2) λd s3 ⟨z,H3,I3,r3,k,e,q3⟩=> ?_)) hm
 subst e
 cases r3
 refine wpAny_truthy_bool ?_
 cases k with
 |false=>
  obtain⟨k',e',q'⟩:=q3
  cases e'
  exact ite_ff ⟨H3,I3,q'⟩
 |true=>
  refine ite_tt (test_last (thn (hc pins s3 σ H3 _ I3 q3) λw' s4 ⟨z',H4,I4,r4,q4⟩=>thn (ho' pins s4 σ H4 y z' u w' _ I4 r2 r4 q4) λd' s5 ⟨z2,H5,I5,r5,k2,e2,q5⟩=> ?_))
  subst e2
  cases r5
  exact wpAny_truthy_bool ⟨H5,I5,q5⟩
noncomputable def TruV(K:PySem.W.Frag)(x:V)(H:Hp)(k:Bool):Prop:=
 match x with
 | .non=>k=false
 | .bl b=>k=b
 | .int i=>k=(i !=0)
 | .str y=>y.length≤sizeLine∧k=((y.length:Int) !=0)
 | .byt y=>y.size≤sizeLine∧k=((y.size:Int) !=0)
 | .ref p=>(∃xs,SqL K H p xs∧k= !xs.isEmpty)∨(∃xs,SqT K H p xs∧k= !xs.isEmpty)∨∃kvs,Rd H p (.dK kvs)∧k= !kvs.isEmpty
 |_=>False
theorem isEmpty_kv{κ:Type}{kvs:List (κ×V)}{vs:List (κ×Value)}(r:KV kvs vs):(!vs.isEmpty)= !kvs.isEmpty:=by
 cases r<;>rfl
theorem isEmpty_of{xs:List V}{its:List Value}(r:Vals xs its):(!its.toArray.isEmpty)= !xs.isEmpty:=by
 cases r<;>simp
theorem line63:(sizeLine:Nat)<2^63:=by rw[sizeLine_eq];decide
theorem tru_ok:TruR X (λx H Q=> ∃k,TruV X.K x H k∧Q k H):=by
 intro pins s σ H x v Q I rx h
 obtain⟨k,e,q⟩:=h
 have hl:=line63
 have hs:sizeLine=16777216:=sizeLine_eq
 cases x with
 |non=>
  cases rx
  have e':k=false:=e
  subst e'
  exact truthy_none ⟨H,I,q⟩
 |bl b=>
  cases rx
  have e':k=b:=e
  subst e'
  exact wpAny_truthy_bool ⟨H,I,q⟩
 |int i=>
  obtain⟨t,rfl⟩:=rx
  have e':k=(i !=0):=e
  subst e'
  exact PySem.P.truthy_int ⟨H,I,q⟩
 |str y=>
  obtain⟨t,rfl⟩:=rx
  obtain⟨hy,e'⟩:y.length≤sizeLine∧k=((y.length:Int) !=0):=e
  subst e'
  exact PySem.P.truthy_str (by omega) ⟨H,I.tok _,q⟩
 |byt y=>
  obtain⟨t,rfl⟩:=rx
  obtain⟨hy,e'⟩:y.size≤sizeLine∧k=((y.size:Int) !=0):=e
  subst e'
  exact PySem.W.truthy_bytes (by omega) ⟨H,I.tok _,q⟩
 |ref p=>
  cases rx
  have e':(∃xs,SqL X.K H p xs∧k= !xs.isEmpty)∨(∃xs,SqT X.K H p xs∧k= !xs.isEmpty)∨∃kvs,Rd H p (.dK kvs)∧k= !kvs.isEmpty:=e
  rcases e' with⟨xs,hx,e'⟩|⟨xs,hx,e'⟩|⟨kvs,hx,e'⟩
  ·subst e'
   obtain⟨its,r,pl,hz⟩:=I.list hx
   have hlen:=r.length
   exact wpAny_truthy_list pl.isList (by simp only[List.size_toArray];omega) ⟨H,I.tok _,by rw[isEmpty_of r];exact q⟩
  ·subst e'
   obtain⟨its,r,pl,hz⟩:=I.tuple hx
   have hlen:=r.length
   exact truthy_tuple pl (by simp only[List.size_toArray];omega) ⟨H,I.tok _,by rw[isEmpty_of r];exact q⟩
  ·subst e'
   obtain⟨hz,hS,vs,r,m⟩:kvs.length≤sizeLine∧(p==sysModules)=false∧∃vs,KV kvs vs∧s.heap.DictOf (mixKind X.prog X.w) p vs:=hx.ok I.hok
   have hlen:kvs.length=vs.length:=Paired.length r
   exact wpAny_truthy_dict hS m (by omega) ⟨H,I.tok _,by rw[isEmpty_kv r];exact q⟩
 |_=>exact(show False from e).elim
theorem pt_truth(ha:PE X a ta)(he: ∀whole,isTrue a X.env whole=(do let v←whole;standAt a.pos;holding [v] (truthy v))):
  PT X a (λσ H Q=>ta σ H λx H'=> ∃k,TruV X.K x H' k∧Q k H'):=by
 intro pins s σ H Q I h
 exact isTrue_plain (thn (ha pins s σ H _ I h) λv s1 ⟨x,H1,I1,r1,q1⟩=>tru_ok pins s1 σ H1 x v Q I1 r1 q1) (he _)
theorem op_add_str:OpR X (binaryOp .Add) (λx y H Q=> ∃i j,x=.str i∧y=.str j∧i.length+j.length≤sizeLine∧Q (.str (i++j)) H):=by
 intro pins s σ H x y v u Q I rx ry h
 obtain⟨i,j,rfl,rfl,hz,q⟩:=h
 obtain⟨t,rfl⟩:=rx
 obtain⟨t',rfl⟩:=ry
 exact add_str (λt' tk=>⟨.str (i++j),H,I.tok _,⟨_,rfl⟩,q⟩) hz
theorem vals1{x:V}{us:List Value}(r:Vals [x] us): ∃u,us=[u]∧RelV x u:=by
 cases r with
 |cons r1 r2=>cases r2;exact⟨_,rfl,r1⟩
theorem vals2{x y:V}{us:List Value}(r:Vals [x,y] us): ∃u w',us=[u,w']∧RelV x u∧RelV y w':=by
 cases r with
 |cons r1 r2=>
  cases r2 with
  |cons r3 r4=>cases r4;exact⟨_,_,rfl,r1,r3⟩
end
end L2
namespace L2
open PySem PySem.Spec PyProof.Rows
structure ObjM(h:Heap)(x dx C:Addr)(mA:Str→Option Value):Prop where
 obj:h.get? x=some (PySem.W.instObj C dx)
 ns:h.Ns1 dx mA
 ne:dx≠x
theorem lookIn_ns{h:Heap}{dx:Addr}{mA:Str→Option Value}(n:h.Ns1 dx mA): ∃od,h.get? dx=some od∧∀name,PySem.W.lookIn name od=some (mA name):=by
 obtain⟨o,es,ep,ho,hd,hk,_,hm⟩:=n
 refine⟨o,ho,λname=> ?_⟩
 have e:=hm name
 unfold nsFind findBy at e
 rw[←Array.find?_toList] at e
 unfold PySem.W.lookIn
 rw[hd]
 dsimp only
 split
 ·rename_i y q
  rw[q] at e
  exact congrArg some e
 ·rename_i q
  rw[q] at e
  have a:es.toList.any (·.refKey)=false:=by
   rw[List.any_eq_false]
   intro y hy
   obtain⟨z,t,hkey⟩:=hk y (Array.mem_toList_iff.mp hy)
   simp[DictEntry.refKey,hkey]
  have a': ¬es.toList.any (·.refKey)=true:=by rw[a];exact Bool.false_ne_true
  rw[if_neg a']
  exact congrArg some e
theorem ObjM.look{h:Heap}{x dx C:Addr}{mA:Str→Option Value}(I:ObjM h x dx C mA): ∃od,PySem.W.InstAt h x (PySem.W.instObj C dx) C (some od)∧∀name,PySem.W.lookIn name od=some (mA name):=
 let ⟨od,ho,hl⟩:=lookIn_ns I.ns
 ⟨od,⟨I.obj,rfl,rfl,ho⟩,hl⟩
section
variable {prog:Program} {w:World} {A:Around} {E:Value→Shared→Prop} {s:Shared} {K:PySem.W.Frag} {x dx C f:Addr} {mA:Str→Option Value} {name:Str} {v:Value}
end
theorem RelO.some_of{v:V}{o:Option Value}(r:RelO (some v) o): ∃u,o=some u∧RelV v u:=by
 cases o with
 |none=>exact(show False from r).elim
 |some u=>exact⟨u,rfl,r⟩
section
variable {P:Program} {w:World} {H H':Hp} {h h':Heap} {a C dx:Addr} {fs fs':List (Str×V)}
theorem ins_get(hok:HOk P w H h)(e:H a=some (.ins C dx fs)): ∃mA,ObjM h a dx C mA∧(∀f,RelO (fs.lookup f) (mA f))∧PySem.Within mA (fs.map (·.1))∧fs.length≤1000∧H dx=some (.own a):=by
 obtain⟨d,z,ne,ob,mA,n,r,q⟩:=(show ObjOk P w H h a (.ins C dx fs) from hok a _ e)
 exact⟨mA,⟨ob,n,ne⟩,r,q,z,d⟩
end
structure Cls(K:PySem.W.Frag)(C:Addr):Prop where
 pg:PySem.W.plainGet K C Str.empty=true
 hd:PySem.W.hasDictIn K C=true
 po:PySem.W.plainOver K C=true
 sa:PySem.W.findIn K (.ref C) "__setattr__"=some (some (.builtin "object.__setattr__"))
theorem Cls.get{K:PySem.W.Frag}{C:Addr}(c:Cls K C)(f:Str):PySem.W.plainGet K C f=true:=c.pg
section
variable {X:Cx} {pins:List (Addr×Obj)} {σ:St} {H:Hp} {s:Shared} {a C dx:Addr} {fs:List (Str×V)} {f:Str} {v:V} {A:Around} {E:Value→Shared→Prop}
end
section
variable {X:Cx} {o e value:Expr} {f:Str} {pos pos' tpos:Pos} {ta tv:TE}
end
section
variable {X:Cx} {pins:List (Addr×Obj)} {σ:St} {H:Hp} {s:Shared} {A:Around} {E:Value→Shared→Prop} {Q:Value→Shared→Prop} {c:Value} {b:Bool}
inductive TyOf(K:PySem.W.Frag)(H:Hp):V→Value→Prop where
 |non:TyOf K H .non (.type "NoneType")
 |bl (x:Bool):TyOf K H (.bl x) (.type "bool")
 |int (i:Int):TyOf K H (.int i) (.type "int")
 |str (x:Str):TyOf K H (.str x) (.type "str")
 |flt (x:UInt64):TyOf K H (.flt x) (.type "float")
 |lst {a:Addr} {xs:List V} (e:H a=some (.lst xs)):TyOf K H (.ref a) (.type "list")
 |frz {a:Addr} {o:Obj} {xs:List V} (e:H a=some (.frz o (.lst xs))):TyOf K H (.ref a) (.type "list")
 |tup {a:Addr} {xs:List V} (e:H a=some (.tup xs)):TyOf K H (.ref a) (.type "tuple")
 |dK {a:Addr} {kvs:List (Key×V)} (e:H a=some (.dK kvs)):TyOf K H (.ref a) (.type "dict")
 |dT {a:Addr} {kvs:List (List Key×V)} (e:H a=some (.dT kvs)):TyOf K H (.ref a) (.type "dict")
 |ins {a C dx:Addr} {fs:List (Str×V)} (e:H a=some (.ins C dx fs)) (cl:Cls K C) (ha:PySem.W.findIn K (.ref C) "__class__"=some (some (.builtin "object.__class__")))
   (hn:PySem.W.specialIn K (.builtin "object.__class__") "__get__"=some (some (.builtin "getset_descriptor.__get__"))) (htk:PySem.W.takesIn K (.builtin "object.__class__")=some true)
   (hm:PySem.W.mroIn K C (.type "object")=some true):TyOf K H (.ref a) (.ref C)
theorem isinst_ok{x:V}{u t:Value}(I:Inv X pins σ H s)(rx:RelV x u)(ty:TyOf X.K H x t)(e:PySem.W.kitOne X.K t c=some b)(h: ∀tk,Q (.bool b) {s with toks:=tk}):
  wpAny (model X.prog X.w) A (call (.builtin "isinstance") [u,c]) Q E s:=by
 cases ty with
 |non=>cases (show u=Value.none from rx);exact PySem.W.kia_one PySem.W.kitx_none I.kIn True.intro e (λz=>nomatch z) h
 |bl y=>cases (show u=Value.bool y from rx);exact PySem.W.kia_one PySem.W.kitx_bool I.kIn True.intro e (λz=>nomatch z) h
 |int i=>obtain⟨t,q⟩:=(show∃t,u=Value.int i t from rx);cases q;exact PySem.W.kia_one PySem.W.kitx_int I.kIn True.intro e (λz=>nomatch z) h
 |str y=>obtain⟨t,q⟩:=(show∃t,u=Value.str y t from rx);cases q;exact PySem.W.kia_one PySem.W.kitx_str I.kIn True.intro e (λz=>nomatch z) h
 |flt y=>obtain⟨t,q⟩:=(show∃t,u=Value.float y t from rx);cases q;exact PySem.W.kia_one PySem.W.kitx_float I.kIn True.intro e (λz=>nomatch z) h
 | @lst a xs ea=>
  cases (show u=Value.ref a from rx)
  obtain⟨_,_,n,_,h1⟩:=(show ObjOk X.prog X.w H s.heap a (.lst xs) from I.hok a _ ea)
  exact PySem.W.kia_one PySem.W.kitx_list I.kIn ⟨_,h1,rfl⟩ e (λz=>nomatch z) h
 | @frz a ob xs ea=>
  cases (show u=Value.ref a from rx)
  obtain⟨_,_,_,n,_,h1⟩:=(show ObjOk X.prog X.w H s.heap a (.frz ob (.lst xs)) from I.hok a _ ea)
  exact PySem.W.kia_one PySem.W.kitx_list I.kIn ⟨_,h1,rfl⟩ e (λz=>nomatch z) h
 | @tup a xs ea=>
  cases (show u=Value.ref a from rx)
  obtain⟨_,_,_,p⟩:=(show ObjOk X.prog X.w H s.heap a (.tup xs) from I.hok a _ ea)
  obtain⟨o,h1,h2,_⟩:=p
  exact PySem.W.kia_one PySem.W.kitx_tuple I.kIn ⟨o,h1,h2⟩ e (λz=>nomatch z) h
 | @dK a kvs ea=>
  cases (show u=Value.ref a from rx)
  obtain⟨_,_,vs,_,p⟩:=(show ObjOk X.prog X.w H s.heap a (.dK kvs) from I.hok a _ ea)
  obtain⟨o,es,ep,h1,h2,_⟩:=p
  exact PySem.W.kia_one PySem.W.kitx_dict I.kIn ⟨o,h1,h2.1⟩ e (λz=>nomatch z) h
 | @dT a kvs ea=>
  cases (show u=Value.ref a from rx)
  obtain⟨_,_,xs,_,o,es,ep,h1,h2,_⟩:=(show ObjOk X.prog X.w H s.heap a (.dT kvs) from I.hok a _ ea)
  exact PySem.W.kia_one PySem.W.kitx_dict I.kIn ⟨o,h1,h2.1⟩ e (λz=>nomatch z) h
 | @ins a C dx fs ea cl ha hn htk hm=>
  cases (show u=Value.ref a from rx)
  obtain⟨mA,O,_⟩:=ins_get I.hok ea
  obtain⟨od,J,_⟩:=O.look
  exact PySem.W.kia_one (PySem.W.kitx_own (cl.get _) cl.hd ha hn htk hm) I.kIn J e (λz=>nomatch z) h
end
end L2
namespace L2
open PySem PySem.Spec PyProof.Rows
structure Room(k:Nat)(A:Around):Prop where
 hd:A.handled=none
 dp:A.depth+3*k+5<recursionLimit
 un:A.units+16*k+200<cLine
theorem Room.mono{j k:Nat}{A:Around}(r:Room k A)(h:j≤k):Room j A:=⟨r.hd,by have:=r.dp;omega,by have:=r.un;omega⟩
theorem Room.deeper{k:Nat}{A:Around}(r:Room (k+1) A)(env:Env):Room k (A.deeper env):=
 ⟨r.hd,by have:=r.dp;show A.depth+1+3*k+5<_;omega,by have:=r.un;show A.units+3+16*k+200<_;omega⟩
theorem Room.in1{k:Nat}{A:Around}(r:Room (k+1) A):Room k A.in1:=
 ⟨r.hd,by have:=r.dp;show A.depth+3*k+5<_;omega,by have:=r.un;show A.units+1+16*k+200<_;omega⟩
theorem Room.depth{k:Nat}{A:Around}(r:Room k A):A.depth<recursionLimit:=by have:=r.dp;omega
theorem Room.units{k:Nat}{A:Around}(r:Room k A):A.units+64<cLine:=by have:=r.un;omega
noncomputable def tNil:TA:=λ_ H Q=>Q [] H
noncomputable def tCons(ta:TE)(tr:TA):TA:=λσ H Q=>ta σ H λx H1=>tr σ H1 λxs H2=>Q (x::xs) H2
section
variable {X:Cx} {e:Expr} {es:List Expr} {te:TE} {t:TA} {pos:Pos}
theorem pa_nil:PA X [] tNil:=λ_ _ _ _ H Q I h=>Calls.spliced_nil ⟨[],H,I,.nil,h⟩
theorem pa_cons(ha:PE X e te)(hr:PA X es t)(hs:starEach (e::es) X.env=(false,eval e X.env)::starEach es X.env:=by rfl):PA X (e::es) (tCons te t):=by
 intro pos pins s σ H Q I h
 rw[hs]
 show wpAny _ _ (spliced ((false,eval e X.env)::backTo pos (starEach es X.env))) _ _ s
 refine Calls.spliced_cons (thn (ha pins s σ H _ I h) λu s1 ⟨x,H1,I1,r1,q1⟩=> ?_)
 exact thn (hr pos pins s1 σ H1 _ I1 q1) λus s2 ⟨xs,H2,I2,r2,q2⟩=>⟨x::xs,H2,I2,.cons r1 r2,q2⟩
noncomputable def tTup(t:TA):TE:=λσ H Q=>t σ H λxs H1=>xs.length≤sizeLine∧∀p,H1 p=none→Q (.ref p) (upd H1 p (.tup xs))
noncomputable def tLst(t:TA):TE:=λσ H Q=>t σ H λxs H1=>xs.length≤sizeLine∧∀p,H1 p=none→Q (.ref p) (upd H1 p (.lst xs))
theorem pe_tup{x1}(h:PA X es t):PE X (.Tuple es x1 pos) (tTup t):=by
 intro pins s σ H Q I hq
 refine wpAny_Tuple_spliced (thn (h pos pins s σ H _ I hq) λus s1 ⟨xs,H1,I1,r,z,q⟩=>⟨by rw[←r.length];exact z,?_⟩)
 have hf:H1 s1.heap.objs.size=none:=I1.hok.fresh (Nat.le_refl _)
 refine⟨.ref s1.heap.objs.size,upd H1 s1.heap.objs.size (.tup xs),I1.laid (t':=s1.toks) (λb u e=>Heap.get?_push_of_some _ e) (Nat.le_refl _) ?_,rfl,q _ hf⟩
 exact⟨z,us,r,⟨_,Heap.get?_push_size _ rfl,rfl,_,rfl⟩⟩
theorem pe_lst(h:PA X es t):PE X (.List es pos) (tLst t):=by
 intro pins s σ H Q I hq
 refine wpAny_List_spliced (thn (h pos pins s σ H _ I hq) λus s1 ⟨xs,H1,I1,r,z,q⟩=>⟨by rw[←r.length];exact z,?_⟩)
 have hf:H1 s1.heap.objs.size=none:=I1.hok.fresh (Nat.le_refl _)
 refine⟨.ref s1.heap.objs.size,upd H1 s1.heap.objs.size (.lst xs),I1.laid (t':=s1.toks) (λb u e=>Heap.get?_push_of_some _ e) (Nat.le_refl _) ?_,rfl,q _ hf⟩
 exact⟨z,us,0,r,Heap.get?_push_size _ rfl⟩
end
noncomputable abbrev Sp:=List V→Hp→VK→XK→Prop
noncomputable abbrev CXT:=List Env→Hp→Shared→XK→Value→Shared→Prop
structure Env0(P:Program)(w:World)(K:PySem.W.Frag)(mg:Str→Option Value)(base:Heap)(A:Around)(outer:List Env)(s:Shared)(H:Hp):Prop where
 frames:A.frames=some outer
 mod:Mod K mg base
 bs: ∀b o,base.get? b=some o→s.heap.get? b=some o∧H b=none
 bsz:base.objs.size≤s.heap.objs.size
 funs:s.heap.FunFrames base outer
 frf: ∀b∈frs outer,H b=none
 hok:HOk P w H s.heap
 bare:AllBare s.gens
noncomputable def CE(outer:List Env)(P:Program)(w:World)(H:Hp)(s:Shared)(Q:VK)(u:Value)(s':Shared):Prop:=
 ∃v H',s'.os=s.os∧AllBare s'.gens∧Un (frs outer) [] H H' s.heap s'.heap∧HOk P w H' s'.heap∧RelV v u∧Q v H'
noncomputable def CR(CX:CXT)(outer:List Env)(P:Program)(w:World)(H:Hp)(s:Shared)(Q:VK)(E:XK)(r:Result)(s':Shared):Prop:=
 match r with
 | .ok (.ret u)=>CE outer P w H s Q u s'
 | .ok _=>False
 | .error e=>CX outer H s E e s'
structure FnOk(P:Program)(w:World)(K:PySem.W.Frag)(mg:Str→Option Value)(base:Heap)(CX:CXT)(k:Nat)(f:Addr)(fd:FuncData)(ps:List Str)(sp:Sp):Prop where
 len: ∀vs H Q E,sp vs H Q E→vs.length=ps.length
 run: ∀(A:Around) (outer:List Env) (s:Shared) (H:Hp) (args:Args) (us:List Value) (vs:List V) (Q:VK) (E:XK),Room k A→Env0 P w K mg base A outer s H→BindsTo s fd args (ps.zip us)→Vals vs us→sp vs H Q E→
  codeAny (model P w) A (.call (.ref f) args) (CR CX outer P w H s Q E) s
theorem FnOk.mono{P:Program}{w:World}{K:PySem.W.Frag}{mg:Str→Option Value}{base:Heap}{CX:CXT}{j k:Nat}{f:Addr}{fd:FuncData}{ps:List Str}{sp:Sp}(F:FnOk P w K mg base CX j f fd ps sp)(h:j≤k):
  FnOk P w K mg base CX k f fd ps sp:=⟨F.len,λA outer s H args us vs Q E hr=>F.run A outer s H args us vs Q E (hr.mono h)⟩
theorem Env0.in1{P:Program}{w:World}{K:PySem.W.Frag}{mg:Str→Option Value}{base:Heap}{A:Around}{outer:List Env}{s:Shared}{H:Hp}(e:Env0 P w K mg base A outer s H):
  Env0 P w K mg base A.in1 outer s H:=⟨e.frames,e.mod,e.bs,e.bsz,e.funs,e.frf,e.hok,e.bare⟩
section
variable {X:Cx} {pins:List (Addr×Obj)} {σ:St} {H:Hp} {s s':Shared}
theorem Inv.env0(I:Inv X pins σ H s):Env0 X.prog X.w X.K X.mg X.base X.A X.stack s H:=
 ⟨I.ok.frames,I.ok.mod,I.bs,Nat.le_trans I.ok.bsz I.sz,I.stack,I.stkFree,I.hok,I.bare⟩
theorem Inv.after{Q:VK}{u:Value}(I:Inv X pins σ H s)(h:CE X.stack X.prog X.w H s Q u s'):EP X pins σ Q u s':=by
 obtain⟨v,H',os,bare,un,hok,r,q⟩:=h
 obtain⟨hh,g,d,t,os'⟩:=s'
 obtain rfl:os'=s.os:=os
 exact⟨v,H',I.call (h':=hh) (g':=g) (d':=d) (t':=t) (ch:=[]) un hok bare (λb z=>absurd z (by simp)),r,q⟩
end
noncomputable def tCall(sp:Sp)(dvs:List V)(E:XK)(t:TA):TE:=λσ H Q=>t σ H λvs H1=>sp (vs++dvs) H1 Q E
noncomputable def Binds(K:PySem.W.Frag)(fd:FuncData)(ps:List Str)(ds:List Value):Prop:=
 ∀(s:Shared) (us:List Value),K.In s.heap→(us++ds).length=ps.length→BindsTo s fd ⟨us,[]⟩ (ps.zip (us++ds))
theorem Binds.all{K:PySem.W.Frag}{fd:FuncData}{ps:List Str}(h: ∀us:List Value,us.length=ps.length→bindArgs fd ⟨us,[]⟩=pure (ps.zip us)):Binds K fd ps []:=λs us _ hl=>by
 rw[List.append_nil] at hl⊢
 exact .of_eq (h us hl)
noncomputable def Passes(CX:CXT)(X:Cx)(E:XK):Prop:= ∀(pins:List (Addr×Obj)) (σ:St) (H:Hp) (s:Shared) (e:Value) (s':Shared),Inv X pins σ H s→CX X.stack H s E e s'→X.xe e s'
section
variable {X:Cx} {CX:CXT} {k:Nat} {f C:Addr} {fd:FuncData} {ps:List Str} {sp:Sp} {dvs:List V} {ds:List Value} {E:XK} {x m:Str} {p pos apos:Pos} {e o:Expr} {es:List Expr} {ta:TE} {t:TA}
theorem run_fn{pins:List (Addr×Obj)}{σ:St}{H:Hp}{s:Shared}{Q:VK}{us:List Value}{vs:List V}(F:FnOk X.prog X.w X.K X.mg X.base CX k f fd ps sp)(hr:Room k X.A)(hb:Binds X.K fd ps ds)(hd:Vals dvs ds)(hx:Passes CX X E)
  (I:Inv X pins σ H s) (r:Vals vs us) (h:sp (vs++dvs) H Q E):wpAny (model X.prog X.w) X.A (call (.ref f) us) (EP X pins σ Q) X.xe s:=by
 have r2:Vals (vs++dvs) (us++ds):=r.append hd
 have hl:(us++ds).length=ps.length:=by rw[←r2.length];exact F.len _ _ _ _ h
 refine wpAny_call (codeAny_mono (F.run X.A X.stack s H ⟨us,[]⟩ (us++ds) (vs++dvs) Q E hr I.env0 (hb s us I.kIn hl) r2 h) λr s' hq=> ?_)
 cases r with
 |error e=>exact hx pins σ H s e s' I hq
 |ok fl=>
  cases fl with
  |ret u=>exact I.after hq
  |next=>exact False.elim hq
  |brk=>exact False.elim hq
  |cont=>exact False.elim hq
theorem pe_call(F:FnOk X.prog X.w X.K X.mg X.base CX k f fd ps sp)(hr:Room k X.A)(hg:Gl X x)(hm:X.mg x=some (.ref f))(hk:PySem.W.keepIn X.K (.ref f)=true)(hb:Binds X.K fd ps ds)(hd:Vals dvs ds)(hx:Passes CX X E)
  (ha:PA X (e::es) t) (hdb:(x==("__debug__":Str))=false:=by decide) (he:starEach (e::es) X.env=(false,eval e X.env)::starEach es X.env:=by rfl) (hpl:(backTo pos (starEach es X.env)).any (·.1)=false:=by rfl):
  PE X (.Call (.Name x p) (e::es) [] pos) (tCall sp dvs E t):=by
 intro pins s σ H Q I h
 refine wpAny_Call_Name_kw (ld_glob I hg hm ?_ hdb)
 refine PySem.W.callWith_K (h₀:=X.base) I.ok.mod.kin hk (thn (ha pos pins s σ H _ I h) λus s1 ⟨vs,H1,I1,r,q⟩=>⟨I1.kIn,?_⟩) he hpl
 exact run_fn F hr hb hd hx I1 r q
end
noncomputable def PK(X:Cx)(kws:List Keyword)(t:TA):Prop:=
 ∀(pos:Pos) (pins:List (Addr×Obj)) (s:Shared) (σ:St) (H:Hp) (Q:List V→Hp→Prop),Inv X pins σ H s→t σ H Q→wpAny (model X.prog X.w) X.A (evalAll ((backToKw pos (keywordEach kws X.env)).map (·.2))) (AP X pins σ Q) X.xe s
section
variable {X:Cx} {CX:CXT} {k:Nat} {f C:Addr} {fd:FuncData} {ps ks:List Str} {sp:Sp} {E:XK} {x m:Str} {p pos apos kpos:Pos} {e o:Expr} {es:List Expr} {kws:List Keyword} {te ta:TE} {t tk:TA} {nm:Option Str}
theorem pk_nil:PK X [] tNil:=λ_ _ _ _ H Q I h=>wpAny_evalAll_nil ⟨[],H,I,.nil,h⟩
theorem pk_cons(ha:PE X e te)(hr:PK X kws t):PK X (⟨nm,e,kpos⟩::kws) (tCons te t):=by
 intro pos pins s σ H Q I h
 show wpAny _ _ (evalAll ((do let v←eval e X.env;standAt pos;pure v)::(backToKw pos (keywordEach kws X.env)).map (·.2))) _ _ s
 refine wpAny_evalAll_cons (wpAny_bind (thn (ha pins s σ H _ I h) λu s1 ⟨x,H1,I1,r1,q1⟩=>wpAny_bind (wpAny_standAt (wpAny_pure ?_))))
 exact thn (hr pos pins s1 σ H1 _ I1 q1) λus s2 ⟨xs,H2,I2,r2,q2⟩=>⟨x::xs,H2,I2,.cons r1 r2,q2⟩
variable {g:List Value→List Value→List Value} {gV:List V→List V→List V}
end
structure FnScope(N P:List Str)(sc:Scope):Prop where
 kind:sc.kind=.function
 co:sc.isCoroutine=false
 gen:sc.isGenerator=false
 nd:N.Nodup
 pre:N.take P.length=P
 par: ∀x∈P,sc.names.lookup x=some .local∨sc.names.lookup x=some .cell
 nofree: ∀y∈sc.names,y.2≠.free
theorem bindL_out{kindOf:Str→Option NameKind}{x:Str}: ∀{binds:List (Str×Value)} {m:Str→Option Value},(∀v,(x,v)∉binds)→bindL kindOf binds m x=m x
 |[],_,_=>rfl
 |(n,v)::r,m,h=>by
  unfold bindL
  rw[bindL_out λw hw=>h w (List.mem_cons_of_mem _ hw)]
  split
  ·have:x≠n:=by rintro rfl;exact h v List.mem_cons_self
   simp[this]
  ·rfl
theorem bindC_out{kindOf:Str→Option NameKind}{x:Str}: ∀{binds:List (Str×Value)} {m:Str→Option Value},(∀v,(x,v)∉binds)→bindC kindOf binds m x=m x
 |[],_,_=>rfl
 |(n,v)::r,m,h=>by
  unfold bindC
  rw[bindC_out λw hw=>h w (List.mem_cons_of_mem _ hw)]
  split
  ·rfl
  ·have:x≠n:=by rintro rfl;exact h v List.mem_cons_self
   simp[this]
theorem bindL_get{kindOf:Str→Option NameKind}{x:Str}{v:Value}: ∀{P:List Str} {vs:List Value} {i:Nat} {m:Str→Option Value},P.Nodup→P[i]? =some x→vs[i]? =some v→kindOf x=some .local→
  bindL kindOf (P.zip vs) m x=some v
 |[],_,_,_,_,h,_,_=>by simp at h
 |_::_,[],_,_,_,_,h,_=>by simp at h
 |p::P,w::vs,0,m,nd,h1,h2,hk=>by
  simp at h1 h2;subst h1;subst h2
  show bindL kindOf ((p,w)::P.zip vs) m p=_
  unfold bindL
  rw[bindL_out λv hv=>(List.nodup_cons.mp nd).1 (List.of_mem_zip hv).1,if_pos hk]
  simp
 |p::P,w::vs,i+1,m,nd,h1,h2,hk=>by
  show bindL kindOf ((p,w)::P.zip vs) m x=_
  unfold bindL
  exact bindL_get (i:=i) (List.nodup_cons.mp nd).2 (by simpa using h1) (by simpa using h2) hk
theorem bindC_get{kindOf:Str→Option NameKind}{x:Str}{v:Value}: ∀{P:List Str} {vs:List Value} {i:Nat} {m:Str→Option Value},P.Nodup→P[i]? =some x→vs[i]? =some v→kindOf x≠some .local→
  bindC kindOf (P.zip vs) m x=some v
 |[],_,_,_,_,h,_,_=>by simp at h
 |_::_,[],_,_,_,_,h,_=>by simp at h
 |p::P,w::vs,0,m,nd,h1,h2,hk=>by
  simp at h1 h2;subst h1;subst h2
  show bindC kindOf ((p,w)::P.zip vs) m p=_
  unfold bindC
  rw[bindC_out λv hv=>(List.nodup_cons.mp nd).1 (List.of_mem_zip hv).1,if_neg hk]
  simp
 |p::P,w::vs,i+1,m,nd,h1,h2,hk=>by
  show bindC kindOf ((p,w)::P.zip vs) m x=_
  unfold bindC
  exact bindC_get (i:=i) (List.nodup_cons.mp nd).2 (by simpa using h1) (by simpa using h2) hk
noncomputable def start(N:List Str)(vs:List V):St:=vs.map some++List.replicate (N.length - vs.length) none
noncomputable def cxOf(CX:CXT)(P:Program)(w:World)(K:PySem.W.Frag)(mg:Str→Option Value)(base:Heap)(N:List Str)(qual:Str)(scope:Scope)(f:Addr)(cd:Value)(A:Around)(outer:List Env)(s:Shared)(H:Hp)(E:XK):Cx where
 prog:=P
 w:=w
 K:=K
 mg:=mg
 base:=base
 A:=A.deeper (envOfC qual scope s.heap.objs.size f cd)
 N:=N
 s₀:=s
 H₀:=H
 env:=envOfC qual scope s.heap.objs.size f cd
 outer:=outer
 stack:=envOfC qual scope s.heap.objs.size f cd::outer
 ex:=[]
 calm:=true
 fn:=λ_=>true
 pn:=[]
 xe:=λe s'=>wpAny (model P w) (A.deeper (envOfC qual scope s.heap.objs.size f cd)) (leaving (envOfC qual scope s.heap.objs.size f cd) e) (λ_ s''=>CX outer H s E e s'') (λe' s''=>CX outer H s E e' s'') s'
theorem cell_has{sc:Scope}{n:Nat}{x:Str}(h:sc.names.lookup x=some .cell): ∃c,(cellsFrom n sc.names []).lookup x=some c:=by
 have q:=PySem.W.cellsFrom_some sc.names n [] (.inl h)
 exact Option.isSome_iff_exists.mp q
theorem inv_start{CX:CXT}{P:Program}{w:World}{K:PySem.W.Frag}{mg:Str→Option Value}{base:Heap}{N ps:List Str}{qual:Str}{scope:Scope}{f:Addr}{cd:Value}{A:Around}{outer:List Env}{s s1:Shared}{H:Hp}{E:XK}{us:List Value}{vs:List V}
  (S:FnScope N ps scope) (hd:A.handled=none) (e0:Env0 P w K mg base A outer s H) (hl:vs.length=ps.length) (r:Vals vs us)
  (x:InCallC s s.heap.objs.size (bindL (envOfC qual scope s.heap.objs.size f cd).kindOf (ps.zip us) λ_=>none) (cellsFrom (s.heap.objs.size+1) scope.names []) (bindC (envOfC qual scope s.heap.objs.size f cd).kindOf (ps.zip us) λ_=>none) s1):
  Inv (cxOf CX P w K mg base N qual scope f cd A outer s H E) [] (start N vs) H s1:=by
 have hpl:ps.length≤N.length:=by have:=congrArg List.length S.pre;rw[List.length_take] at this;omega
 obtain⟨h1,tk,rfl,hk⟩:=x.done
 have noA: ∀b:Addr,b∉(cxOf CX P w K mg base N qual scope f cd A outer s H E).ex:=λb z=>absurd (show b∈([]:List Addr) from z) (by simp)
 refine⟨⟨e0.mod,S.kind,rfl,rfl,Nat.le_refl _,λy z c h1 h2=> ?_,λy hy=> ?_,λy c _ h=> ?_,λ_=>hd,Around.frames_deeper e0.frames,.inr ⟨rfl,rfl⟩,λb z=>absurd z (noA b),e0.bs,e0.bsz,λb _ _=>noA b,λb z=>absurd z (noA b),e0.funs,e0.frf⟩,
  rfl,e0.bare,Un.kept hk,⟨_,x.toInCall.ns,λi y v h1 h2 h3=> ?_⟩,λy c h=>⟨_,x.cell y c h⟩,e0.hok.fresh (Nat.le_refl _),λy c h=> ?_,λp hp=>absurd (show p∈([]:List (Addr×Obj)) from hp) (by simp),e0.hok.kept hk,?_⟩
 ·exact name_of_addr x.apart (PySem.mem_of_lookup h1) (PySem.mem_of_lookup h2)
 ·have hy:scope.names.lookup y=some .cell∨scope.names.lookup y=some .free:=hy
  rcases hy with hy|hy
  ·exact cell_has hy
  ·exact absurd rfl (S.nofree _ (PySem.mem_of_lookup hy))
 ·exact Nat.le_of_lt (x.above y c (PySem.mem_of_lookup h))
 ·have hi:i<vs.length:=by
   unfold start at h2
   by_cases hi:i<vs.length
   ·exact hi
   ·rw[List.getElem?_append_right (by simpa using hi)] at h2
    rw[List.getElem?_replicate] at h2
    split at h2<;>cases h2
  have ha:vs[i]? =some v:=by
   unfold start at h2
   rw[List.getElem?_append_left (by simpa using hi),List.getElem?_map] at h2
   cases e:vs[i]? with
   |none=>rw[e] at h2;cases h2
   |some a=>rw[e] at h2;cases h2;rfl
  obtain⟨u,hu,rv⟩:=r.get ha
  have hp:ps[i]? =some y:=by
   rw[←S.pre,List.getElem?_take_of_lt (by omega)];exact h1
  have ndP:ps.Nodup:=by rw[←S.pre];exact S.nd.sublist (List.take_sublist _ _)
  refine⟨u,rv,?_⟩
  rcases S.par y (List.mem_of_getElem? hp) with k|k
  ·exact .inl ⟨k,bindL_get ndP hp hu k⟩
  ·obtain⟨c,e⟩:=cell_has (n:=s.heap.objs.size+1) k
   refine .inr ⟨.inl k,c,e,?_⟩
   have q:=x.cell y c e
   rw[bindC_get ndP hp hu (by show scope.names.lookup y≠_;rw[k];decide)] at q
   exact q
 ·exact e0.hok.fresh (Nat.le_of_lt (x.above y c (PySem.mem_of_lookup h)))
 ·unfold start
  show _=N.length
  rw[List.length_append,List.length_map,List.length_replicate]
  omega
theorem fn_of{CX:CXT}{P:Program}{w:World}{K:PySem.W.Frag}{mg:Str→Option Value}{base:Heap}{k:Nat}{f:Addr}{name qual:Str}{params:Arguments}{body:List Stmt}{scope:Scope}{dV kV doc pm cdv ct oc:Value}{an od:Option Addr}
  {osl:Array (Option Value)} {N ps:List Str} {sp:Sp} (lk:K.lookup f=some ⟨oc,od,.func (PySem.W.fnOf name qual params body scope dV kV doc pm an cdv ct),osl⟩) (hcd:PySem.W.codeIn K cdv qual=true) (S:FnScope N ps scope)
  (len: ∀vs H Q E,sp vs H Q E→vs.length=ps.length)
  (hbody: ∀(A:Around) (outer:List Env) (s:Shared) (H:Hp) (vs:List V) (Q:VK) (E:XK),Room k (A.deeper (envOfC qual scope s.heap.objs.size f cdv))→sp vs H Q E→
   ∃t,PSs (cxOf CX P w K mg base N qual scope f cdv A outer s H E) body t∧t {nx:=λ_ H'=>Q .non H',rt:=Q} (start N vs) H):
  FnOk P w K mg base CX (k+1) f (PySem.W.fnOf name qual params body scope dV kV doc pm an cdv ct) ps sp:=by
 refine⟨len,λA outer s H args us vs Q E hr e0 hb r hsp=> ?_⟩
 have hl:=len _ _ _ _ hsp
 have KX:K.In s.heap:=e0.mod.kin.keeps λb o e=>(e0.bs b o e).1
 have lim:s.heap.NoLimit:=e0.mod.nolimit.keeps λb o e=>(e0.bs b o e).1
 have hkind: ∀y∈ps.zip us,scope.names.lookup y.1=some .local∨(scope.names.lookup y.1=some .cell∧((cellsFrom (s.heap.objs.size+1) scope.names []).lookup y.1).isSome=true):=λ⟨n,v⟩ hy=>by
  rcases S.par n (List.of_mem_zip hy).1 with q|q
  ·exact .inl q
  ·exact .inr ⟨q,PySem.W.cellsFrom_some _ _ _ (.inl q)⟩
 refine codeAny_call_function hr.depth (KX _ _ lk) rfl S.co S.gen rfl (PySem.W.codeRec_of KX hcd) (hb _ _ _ _ ?_)
 refine wpAny_newFunctionEnv_cells S.kind hkind λenv he s1 x=> ?_
 subst he
 refine⟨lim.keeps x.toInCall.keep,codeAny_func ?_⟩
 obtain⟨t,ht,hq⟩:=hbody A outer s H vs Q E (hr.deeper _) hsp
 have I:Inv (cxOf CX P w K mg base N qual scope f cdv A outer s H E) [] (start N vs) H s1:=inv_start S hr.hd e0 hl r x
 refine wpAny_mono (ht [] s1 (start N vs) H _ I hq) (λfl s' hs=> ?_) λe s' hs=>hs
 have fin: ∀{σ':St} {H':Hp} {v:V} {u:Value},Inv (cxOf CX P w K mg base N qual scope f cdv A outer s H E) [] σ' H' s'→RelV v u→Q v H'→CE outer P w H s Q u s':=
  λ{σ' H' v u} J rv q=>⟨v,H',J.os,J.bare,J.base,J.hok,rv,q⟩
 cases fl with
 |ret u=>
  obtain⟨v,σ',H',J,rv,q⟩:=hs
  exact fin J rv q
 |next=>
  obtain⟨σ',H',J,q⟩:=hs
  exact fin (v:=V.non) (u:=Value.none) J rfl q
 |brk=>
  obtain⟨_,_,_,q⟩:=hs
  exact False.elim q
 |cont=>
  obtain⟨_,_,_,q⟩:=hs
  exact False.elim q
end L2
namespace L2
open PySem PySem.Spec PyProof.Rows
section
variable {X:Cx} {x:Str} {p pos:Pos} {e:Expr} {es:List Expr} {t:TA} {id T:String} {r:List V→Hp→VK→Prop}
noncomputable def tCB(r:List V→Hp→VK→Prop)(t:TA):TE:=λσ H Q=>t σ H λvs H1=>r vs H1 Q
theorem pe_callB(hc:CallR X (.builtin id) r)(hg:Gl X x)(hm:X.mg x=none)(hv:bootBuiltins x=some (.builtin id))(ha:PA X (e::es) t)(hn:x≠"__name__":=by decide)(hdb:(x==("__debug__":Str))=false:=by decide)
  (he:starEach (e::es) X.env=(false,eval e X.env)::starEach es X.env:=by rfl) (hpl:(backTo pos (starEach es X.env)).any (·.1)=false:=by rfl):PE X (.Call (.Name x p) (e::es) [] pos) (tCB r t):=by
 intro pins s σ H Q I h
 refine wpAny_Call_Name_kw (ld_blt I hg hm hv ?_ hn hdb)
 exact PyProof.Rows.callWith_builtin1 (thn (ha pos pins s σ H _ I h) λus s1 ⟨vs,H1,I1,r1,q1⟩=>hc pins s1 σ H1 vs us Q I1 r1 q1) he hpl
theorem pe_callTy(hc:CallR X (.type T) r)(hg:Gl X x)(hm:X.mg x=none)(hv:bootBuiltins x=some (.type T))(ha:PA X (e::es) t)(hn:x≠"__name__":=by decide)(hdb:(x==("__debug__":Str))=false:=by decide)
  (he:starEach (e::es) X.env=(false,eval e X.env)::starEach es X.env:=by rfl) (hpl:(backTo pos (starEach es X.env)).any (·.1)=false:=by rfl):PE X (.Call (.Name x p) (e::es) [] pos) (tCB r t):=by
 intro pins s σ H Q I h
 refine wpAny_Call_Name_kw (ld_blt I hg hm hv ?_ hn hdb)
 exact PyProof.Rows.callWith_type1 (thn (ha pos pins s σ H _ I h) λus s1 ⟨vs,H1,I1,r1,q1⟩=>hc pins s1 σ H1 vs us Q I1 r1 q1) he hpl
end
end L2
namespace HT
open PySem PyProof.Rows
noncomputable def lexLt:List Int→List Int→Bool
 |[],[]=>false
 |[],_::_=>true
 |_::_,[]=>false
 |x::xs,y::ys=>if x=y then lexLt xs ys else decide (x<y)
theorem lexLt_cons(x y:Int)(xs ys:List Int):lexLt (x::xs) (y::ys)=if x=y then lexLt xs ys else decide (x<y):=rfl
theorem eqAt_int(A:Around)(s:Shared)(a:Int)(t:Tok)(c:Int)(u:Tok): ∃e,SeqAt.EqAt A s (.int a t) (.int c u) e∧(e=true↔a=c):=
 ⟨(a==c),SeqAt.EqAt.int_int a t c u,by simp⟩
theorem rcLt_int(A:Around)(s:Shared)(a:Int)(t:Tok)(c:Int)(u:Tok)(prog:Program)(w:World)(E:Value→Shared→Prop)(Q:Value→Shared→Prop)(h:Q (.bool (decide (a<c))) s):
  wpAny (model prog w) A (richCompare .Lt (.int a t) (.int c u)) Q E s:=
 (PyProof.Rows.lt_int h:wpAny (model prog w) A (compareOp .Lt (.int a t) (.int c u)) Q E s)
section
open PySem.SeqAt
open PySem.AutoSeq1 (wpAny_loadPart')
open PySem.MeetsSeq PySem.MeetsSeq2 PySem.MeetsSeq3
end
section
variable {prog:Program} {w:World} {A:Around} {E:Value→Shared→Prop} {s:Shared}
noncomputable def sIx(n d:Nat):Option Int→Nat
 |none=>d
 |some v=>if v<0 then(v+(n:Int)).toNat else min v.toNat n
theorem sIx_nat(n d k:Nat):sIx n d (some (k:Int))=min k n:=by
 show(if (k:Int)<0 then((k:Int)+(n:Int)).toNat else min (k:Int).toNat n)=min k n
 rw[if_neg (by omega),Int.toNat_natCast]
end
end HT
namespace L2
open PySem PySem.Spec PyProof.Rows
noncomputable abbrev TO:=St→Hp→(Option Int→Hp→Prop)→Prop
noncomputable def PO(X:Cx)(e:Option Expr)(t:TO):Prop:=
 ∀(pins:List (Addr×Obj)) (s:Shared) (σ:St) (H:Hp) (Q:Option Int→Hp→Prop),Inv X pins σ H s→t σ H Q→
  wpAny (model X.prog X.w) X.A (evalPart e X.env) (λu s'=> ∃o H',Inv X pins σ H' s'∧IsPart u o∧Q o H') X.xe s
noncomputable def tNoPart:TO:=λ_ H Q=>Q none H
noncomputable def tPart(t:TE):TO:=λσ H Q=>t σ H λx H1=> ∃i,x=.int i∧Q (some i) H1
theorem intsAre_of{ns:List Int}: ∀{us:List Value},Vals (ns.map V.int) us→IntsAre us ns:=by
 induction ns with
 |nil=>intro us r;rw[List.map_nil] at r;cases r;exact .nil
 |cons n ns ih=>
  intro us r
  rw[List.map_cons] at r
  cases r with
  |cons r1 r2=>
   obtain⟨t,e⟩:=r1
   subst e
   exact .cons n t (ih r2)
section
variable {X:Cx} {e:Expr} {te:TE} {lo hi:Option Expr} {tl th:TO} {pos p2:Pos}
theorem po_none:PO X none tNoPart:=by
 intro pins s σ H Q I h
 rw[evalPart_none]
 exact wpAny_pure ⟨none,H,I,.none,h⟩
theorem po_some(h:PE X e te):PO X (some e) (tPart te):=by
 intro pins s σ H Q I hw
 rw[evalPart_some]
 refine thn (h pins s σ H _ I hw) λu s1 ⟨x,H1,I1,r1,q1⟩=> ?_
 obtain⟨i,rfl,q⟩:=q1
 obtain⟨t,rfl⟩:=r1
 exact⟨some i,H1,I1,.int i t,q⟩
noncomputable def SlR(X:Cx)(r:V→Option Int→Option Int→Hp→VK→Prop):Prop:=
 ∀(pins:List (Addr×Obj)) (s:Shared) (σ:St) (H:Hp) (x:V) (v vl vu:Value) (lo hi:Option Int) (sl:Addr) (Q:VK),Inv X pins σ H s→RelV x v→s.heap.IsSliceOf sl vl vu .none→IsPart vl lo→IsPart vu hi→r x lo hi H Q→
  ∃T id,typeLookup (.type T) "__getitem__"=pure (some (.builtin id))∧s.TypeIs v T∧wpAny (model X.prog X.w) X.A (getItem v (.ref sl)) (EP X pins σ Q) X.xe s
theorem SlR.or{r r':V→Option Int→Option Int→Hp→VK→Prop}(h:SlR X r)(h':SlR X r'):SlR X (λx lo hi H Q=>r x lo hi H Q∨r' x lo hi H Q):=by
 intro pins s σ H x v vl vu lo hi sl Q I rx hs pl pu q
 rcases q with q|q
 ·exact h pins s σ H x v vl vu lo hi sl Q I rx hs pl pu q
 ·exact h' pins s σ H x v vl vu lo hi sl Q I rx hs pl pu q
noncomputable def tSl(r:V→Option Int→Option Int→Hp→VK→Prop)(te:TE)(tl th:TO):TE:=λσ H Q=>te σ H λx H1=>tl σ H1 λl H2=>th σ H2 λu H3=>r x l u H3 Q
theorem pe_slice{r:V→Option Int→Option Int→Hp→VK→Prop}(hr:SlR X r)(he:PE X e te)(hl:PO X lo tl)(hu:PO X hi th):PE X (.Subscript e (.Slice lo hi none p2) pos) (tSl r te tl th):=by
 intro pins s σ H Q I h
 refine Subscript_ (thn (he pins s σ H _ I h) λv s1 ⟨x,H1,I1,r1,q1⟩=> ?_)
 refine wpAny_Slice (thn (hl pins s1 σ H1 _ I1 q1) λvl s2 ⟨l,H2,I2,pl,q2⟩=>thn (hu pins s2 σ H2 _ I2 q2) λvu s3 ⟨u,H3,I3,pu,q3⟩=> ?_)
 rw[evalPart_none]
 refine wpAny_pure ?_
 have I4:Inv X pins σ H3 {s3 with heap:=s3.heap.push {cls:=.type "slice",data:=.fields #[vl,vu,.none]}}:=I3.kept (t':=s3.toks) λb ob q=>Heap.get?_push_of_some _ q
 obtain⟨T,id,hT,ht,hg⟩:=hr pins {s3 with heap:=s3.heap.push {cls:=.type "slice",data:=.fields #[vl,vu,.none]}} σ H3 x v vl vu l u s3.heap.objs.size Q I4 r1 (Heap.IsSliceOf.new ..) pl pu q3
 show wpAny (model X.prog X.w) X.A (subscriptTail e (.Slice lo hi none p2) v (.ref s3.heap.objs.size)) (EP X pins σ Q) X.xe {s3 with heap:=s3.heap.push {cls:=.type "slice",data:=.fields #[vl,vu,.none]}}
 exact tail_any (ops:=[.ref s3.heap.objs.size,v]) ht hT hg (by with_unfolding_all rfl)
noncomputable def cutV(xs:List V)(lo hi:Option Int):List V:=(xs.drop (HT.sIx xs.length 0 lo)).take (HT.sIx xs.length xs.length hi - HT.sIx xs.length 0 lo)
theorem cutV_length(xs:List V)(lo hi:Option Int):(cutV xs lo hi).length≤xs.length:=by
 unfold cutV
 rw[List.length_take,List.length_drop]
 omega
end
end L2
namespace L2
open PySem PySem.Spec PyProof.Rows
noncomputable def ixN(n:Nat)(i:Int):Option Nat:=if 0≤i then(if i<n then some i.toNat else none) else if -(n:Int)≤i then some (i+n).toNat else none
noncomputable def atI{α:Type}(xs:List α)(i:Int):Option α:=(ixN xs.length i).bind λj=>xs[j]?
theorem ixN_seq{n:Nat}{i:Int}{j:Nat}(h:ixN n i=some j):seqIndex? i n=some j∧j<n∧ -(n:Int)≤i∧i<n:=by
 unfold ixN at h
 by_cases h0:0≤i
 ·rw[if_pos h0] at h
  by_cases h1:i<n
  ·rw[if_pos h1] at h
   have e:i.toNat=j:=Option.some.inj h
   exact⟨by rw[seqIndex_of h0 h1,e],by omega,by omega,h1⟩
  ·rw[if_neg h1] at h;cases h
 ·rw[if_neg h0] at h
  by_cases h1: -(n:Int)≤i
  ·rw[if_pos h1] at h
   have e:(i+n).toNat=j:=Option.some.inj h
   exact⟨by rw[seqIndex_neg (by omega) h1,e],by omega,h1,by omega⟩
  ·rw[if_neg h1] at h;cases h
theorem atI_get{α:Type}{xs:List α}{i:Int}{v:α}(h:atI xs i=some v): ∃j,seqIndex? i xs.length=some j∧xs[j]? =some v∧j<xs.length∧ -(xs.length:Int)≤i∧i<xs.length:=by
 unfold atI at h
 cases e:ixN xs.length i with
 |none=>rw[e] at h;cases h
 |some j=>
  rw[e] at h
  obtain⟨h1,h2,h3,h4⟩:=ixN_seq e
  exact⟨j,h1,h,h2,h3,h4⟩
noncomputable def PlainIx(b:Expr):Prop:= ∀o i,subscripted b false o i=operate [o,i] (getItem o i)
noncomputable def IxR(X:Cx)(r:R2):Prop:=
 ∀(value slice:Expr) (pins:List (Addr×Obj)) (s:Shared) (σ:St) (H:Hp) (x y:V) (v u:Value) (Q:VK),Inv X pins σ H s→RelV x v→RelV y u→r x y H Q→
  subscripted slice false v u=operate [v,u] (getItem v u)→wpAny (model X.prog X.w) X.A (subscriptTail value slice v u) (EP X pins σ Q) X.xe s
noncomputable def MtR(X:Cx)(id:String)(r:V→List V→Hp→VK→Prop):Prop:=
 ∀(pins:List (Addr×Obj)) (s:Shared) (σ:St) (H:Hp) (x:V) (xs:List V) (v:Value) (us:List Value) (Q:VK),Inv X pins σ H s→RelV x v→Vals xs us→r x xs H Q→
  wpAny (model X.prog X.w) X.A (call (.builtin id) (v::us)) (EP X pins σ Q) X.xe s
section
variable {X:Cx} {a b:Expr} {ta tb:TE} {pos:Pos}
theorem IxR.or{r r':R2}(h:IxR X r)(h':IxR X r'):IxR X (λx y H Q=>r x y H Q∨r' x y H Q):=by
 intro value slice pins s σ H x y v u Q I rx ry q hs
 rcases q with q|q
 ·exact h value slice pins s σ H x y v u Q I rx ry q hs
 ·exact h' value slice pins s σ H x y v u Q I rx ry q hs
theorem pe_ix{r:R2}(hr:IxR X r)(ha:PE X a ta)(hb:PE X b tb)(hs:PlainIx b):PE X (.Subscript a b pos) (tOp r ta tb):=by
 intro pins s σ H Q I h
 exact Subscript_ (binT ha hb I h λv u s2 x y H2 I2 rx ry q=>hr a b pins s2 σ H2 x y v u Q I2 rx ry q (hs _ _))
noncomputable def rIxL(K:PySem.W.Frag):R2:=λx y H Q=> ∃p xs i v,x=.ref p∧y=.int i∧SqL K H p xs∧atI xs i=some v∧Q v H
noncomputable def rIxT(K:PySem.W.Frag):R2:=λx y H Q=> ∃p xs i v,x=.ref p∧y=.int i∧SqT K H p xs∧atI xs i=some v∧Q v H
noncomputable def rIxS:R2:=λx y H Q=> ∃z i c,x=.str z∧y=.int i∧z.length≤sizeLine∧atI z.cps.toList i=some c∧Q (.str ⟨#[c]⟩) H
theorem ix_list:IxR X (rIxL X.K):=by
 intro value slice pins s σ H x y v u Q I rx ry h hs
 obtain⟨p,xs,i,z,rfl,rfl,hq,he,q⟩:=h
 cases rx
 obtain⟨t,rfl⟩:=ry
 obtain⟨its,r,pl,hz⟩:=I.list hq
 obtain⟨j,h1,h2,h3,h4,h5⟩:=atI_get he
 obtain⟨w,ew,rw'⟩:=r.get h2
 have hl:=r.length
 have hn:=line63
 have fin:EP X pins σ Q w s:=⟨z,H,I,rw',q⟩
 by_cases h0:0≤i
 ·have hj:i.toNat=j:=by
   rw[seqIndex_of h0 h5] at h1
   exact Option.some.inj h1
  exact item_listR pl.isList h0 (by omega) (by rw[hj];simpa using ew) fin hs
 ·have hj:(i+(its.toArray.size:Int)).toNat=j:=by
   rw[seqIndex_neg (by omega) h4] at h1
   rw[List.size_toArray,←hl]
   exact Option.some.inj h1
  exact subscriptTail_builtinR (x:=w) pl.isList.typeIs slot_list_getitem.lookup
   (wpAny_getItem_list_neg (Q:=λr s'=>r=w∧EP X pins σ Q r s') pl.isList (by omega) (by rw[List.size_toArray]<;>omega) (by omega) (by rw[hj];simpa using ew) ⟨rfl,fin⟩) hs
theorem ix_tup:IxR X (rIxT X.K):=by
 intro value slice pins s σ H x y v u Q I rx ry h hs
 obtain⟨p,xs,i,z,rfl,rfl,hq,he,q⟩:=h
 cases rx
 obtain⟨t,rfl⟩:=ry
 obtain⟨its,r,pl,hz⟩:=I.tuple hq
 obtain⟨j,h1,h2,h3,h4,h5⟩:=atI_get he
 obtain⟨w,ew,rw'⟩:=r.get h2
 have hl:=r.length
 have hn:=line63
 have fin:EP X pins σ Q w s:=⟨z,H,I,rw',q⟩
 exact subscriptTail_builtinR (x:=w) pl.typeIs slot_tuple_getitem.lookup
  (getItem_tuple (j:=j) (Q:=λr s'=>r=w∧EP X pins σ Q r s') pl (by omega) (by omega) (by rw[List.size_toArray,←hl];exact h1) (by simpa using ew) ⟨rfl,fin⟩) hs
theorem ix_str:IxR X rIxS:=by
 intro value slice pins s σ H x y v u Q I rx ry h hs
 obtain⟨z,i,c,rfl,rfl,hz,he,q⟩:=h
 obtain⟨t,rfl⟩:=rx
 obtain⟨t',rfl⟩:=ry
 obtain⟨j,h1,h2,h3,h4,h5⟩:=atI_get he
 have hl:z.cps.toList.length=z.length:=by simp[Str.length]
 rw[hl] at h1 h4 h5
 have hn:=line63
 exact tail_any (typeIs_str s z t) slot_str_getitem.lookup (getItem_str (c:=c) (by
  have e1:decide (i< -(2^63:Int))=false:=decide_eq_false (by omega)
  have e2:decide (i≥2^63)=false:=decide_eq_false (by omega)
  rw[e1,e2,Bool.or_false]) (by rw[h1];simpa using h2) ⟨.str ⟨#[c]⟩,H,I.tok _,⟨_,rfl⟩,q⟩) hs
noncomputable def rIx(K:PySem.W.Frag):R2:=λx y H Q=>rIxL K x y H Q∨rIxT K x y H Q∨rIxS x y H Q
theorem ix_seq:IxR X (rIx X.K):=ix_list.or (ix_tup.or ix_str)
theorem mapSeq_set(its:List Value)(n j:Nat)(u:Value):Obj.mapSeq (·.setIfInBounds j u) {cls:=.type "list",data:=.seq its.toArray n}={cls:=.type "list",data:=.seq (its.set j u).toArray n}:=by
 simp[Obj.mapSeq]
theorem Inv.lst{pins:List (Addr×Obj)}{σ:St}{H:Hp}{s:Shared}{p:Addr}{xs:List V}(I:Inv X pins σ H s)(h:H p=some (.lst xs)):
  ∃(its:List Value) (n:Nat),Vals xs its∧s.heap.get? p=some {cls:=.type "list",data:=.seq its.toArray n}∧xs.length≤sizeLine:=by
 obtain⟨z,its,n,r,e⟩:=I.hok p _ h
 exact⟨its,n,r,e,z⟩
theorem Inv.lstUpd{pins:List (Addr×Obj)}{σ:St}{H:Hp}{s:Shared}{p:Addr}{xs ys:List V}{its its':List Value}{n n':Nat}{f:Obj→Obj}(I:Inv X pins σ H s)(h:H p=some (.lst xs))
  (ho:s.heap.get? p=some {cls:=.type "list",data:=.seq its.toArray n}) (hf:f {cls:=.type "list",data:=.seq its.toArray n}={cls:=.type "list",data:=.seq its'.toArray n'}) (r:Vals ys its') (hz:ys.length≤sizeLine) (t:Nat):
  Inv X pins σ (upd H p (.lst ys)) {s with heap:=s.heap.update p f,toks:=t}:=by
 have e:(s.heap.update p f).get? p=some {cls:=.type "list",data:=.seq its'.toArray n'}:=by
  rw[Heap.get?_update_self f ho (by rw[hf]<;>rfl),hf]
 refine I.write (x:=p) (e:=p) (by rw[h];trivial) (.inl rfl) (λb u hb q=>(Heap.get?_update_other _ _ (Ne.symm hb)).trans q) ⟨_,e⟩ ?_
 exact⟨hz,its',n',r,e⟩
noncomputable def rSetL:V→V→V→Hp→(Hp→Prop)→Prop:=λo i v H Q=> ∃p xs k j,o=.ref p∧i=.int k∧H p=some (.lst xs)∧ixN xs.length k=some j∧Q (upd H p (.lst (xs.set j v)))
theorem set_list:PSet X rSetL:=by
 intro pins s σ H o i v ov iv u Q I ro ri rv h
 obtain⟨p,xs,k,j,rfl,rfl,hp,hj,q⟩:=h
 cases ro
 obtain⟨t,rfl⟩:=ri
 obtain⟨its,n,r,ho,hz⟩:=I.lst hp
 obtain⟨h1,h2,h3,h4⟩:=ixN_seq hj
 have hl:=r.length
 have hn:=line63
 have I':Inv X pins σ (upd H p (.lst (xs.set j v))) {s with heap:=s.heap.update p (Obj.mapSeq (·.setIfInBounds j u))}:=
  I.lstUpd hp ho (mapSeq_set its n j u) (r.set rv j) (by rw[List.length_set];exact hz) s.toks
 by_cases h0:0≤k
 ·have hk:k.toNat=j:=by
   rw[seqIndex_of h0 h4] at h1
   exact Option.some.inj h1
  exact PySem.W.ki_setAt ho h0 (by omega) (by rw[List.size_toArray,←hl];exact h4) (by rw[hk];exact⟨_,I',q⟩)
 ·have hk:(k+(its.toArray.size:Int)).toNat=j:=by
   rw[seqIndex_neg (by omega) h3] at h1
   rw[List.size_toArray,←hl]
   exact Option.some.inj h1
  exact PySem.W.ki_setBack ho (by omega) (by rw[List.size_toArray,←hl];exact h3) (by omega) (by rw[hk];exact⟨_,I',q⟩)
theorem slice_bounds(lo hi:Option Int)(n:Nat):(sliceBounds lo hi none n).1=((HT.sIx n 0 lo:Nat):Int)∧(sliceBounds lo hi none n).2.1=((HT.sIx n n hi:Nat):Int)∧(sliceBounds lo hi none n).2.2=1:=by
 refine⟨?_,?_,rfl⟩
 ·cases lo with
  |none=>simp[sliceBounds,HT.sIx]
  |some i=>
   simp only[sliceBounds,HT.sIx,Option.getD_none,show(1:Int)>0 by decide,if_true]
   by_cases h:i<0
   ·simp only[h,if_true]<;>omega
   ·simp only[h,if_false]<;>omega
 ·cases hi with
  |none=>simp[sliceBounds,HT.sIx]
  |some i=>
   simp only[sliceBounds,HT.sIx,Option.getD_none,show(1:Int)>0 by decide,if_true]
   by_cases h:i<0
   ·simp only[h,if_true]<;>omega
   ·simp only[h,if_false]<;>omega
theorem slicePick_cut(its:List Value)(lo hi:Option Int):slicePick its.toArray lo hi none=((its.drop (HT.sIx its.length 0 lo)).take (HT.sIx its.length its.length hi - HT.sIx its.length 0 lo)).toArray:=by
 obtain⟨h1,h2,h3⟩:=slice_bounds lo hi its.toArray.size
 unfold slicePick
 rw[h1,h2,h3]
 simp only[sliceRange_one,pick_run,List.size_toArray]<;>rfl
noncomputable def rSlL(K:PySem.W.Frag):V→Option Int→Option Int→Hp→VK→Prop:=λx lo hi H Q=> ∃a xs,x=.ref a∧SqL K H a xs∧∀p,H p=none→Q (.ref p) (upd H p (.lst (cutV xs lo hi)))
theorem sl_list:SlR X (rSlL X.K):=by
 intro pins s σ H x v vl vu lo hi sl Q I rx hs pl pu h
 obtain⟨a,xs,rfl,hx,q⟩:=h
 cases rx
 obtain⟨its,r,ht,hz⟩:=I.list hx
 have hlen:=r.length
 refine⟨"list",_,slot_list_getitem.lookup,ht.isList.typeIs,?_⟩
 refine wpAny_getItem_list_slice ht.isList hs pl pu .none (by simp) ?_ (by rw[List.size_toArray]<;>omega)
 rw[slicePick_cut,←hlen]
 refine⟨.ref s.heap.objs.size,_,I.laid (t':=s.toks) (o:=.lst (cutV xs lo hi)) (λb ob q=>Heap.get?_push_of_some _ q) (Nat.le_refl _) ?_,rfl,q _ (I.hok.fresh (Nat.le_refl _))⟩
 exact⟨Nat.le_trans (cutV_length xs lo hi) hz,_,0,(r.drop (HT.sIx xs.length 0 lo)).take (HT.sIx xs.length xs.length hi - HT.sIx xs.length 0 lo),Heap.get?_push_size _ rfl⟩
noncomputable def flatV:V→Bool
 | .non=>true
 | .bl _=>true
 | .int _=>true
 | .str _=>true
 |_=>false
noncomputable def eqV:V→V→Bool
 | .non,.non=>true
 | .bl a,.bl b=>a==b
 | .bl a,.int b=>(if a then 1 else 0)==b
 | .int a,.bl b=>a==(if b then 1 else 0)
 | .int a,.int b=>a==b
 | .str a,.str b=>a==b
 |_,_=>false
theorem eqAt_V{A:Around}{s:Shared}{y x:V}{u v:Value}(ry:RelV y u)(rx:RelV x v)(fy:flatV y=true)(fx:flatV x=true):SeqAt.EqAt A s u v (eqV y x):=by
 cases y with
 |non=>
  cases ry
  cases x with
  |non=>cases rx;exact SeqAt.EqAt.same _
  |bl b=>cases rx;exact SeqAt.EqAt.none_bool b
  |int b=>obtain⟨t,rfl⟩:=rx;exact SeqAt.EqAt.none_int b t
  |str b=>obtain⟨t,rfl⟩:=rx;exact SeqAt.EqAt.none_str b t
  |_=>exact absurd (show false=true from fx) Bool.false_ne_true
 |bl a=>
  cases ry
  cases x with
  |non=>cases rx;exact SeqAt.EqAt.bool_none a
  |bl b=>cases rx;exact SeqAt.EqAt.bool_bool a b
  |int b=>obtain⟨t,rfl⟩:=rx;exact SeqAt.EqAt.bool_int a b t
  |str b=>obtain⟨t,rfl⟩:=rx;exact SeqAt.EqAt.bool_str a b t
  |_=>exact absurd (show false=true from fx) Bool.false_ne_true
 |int a=>
  obtain⟨t',rfl⟩:=ry
  cases x with
  |non=>cases rx;exact SeqAt.EqAt.int_none a t'
  |bl b=>cases rx;exact SeqAt.EqAt.int_bool a t' b
  |int b=>obtain⟨t,rfl⟩:=rx;exact SeqAt.EqAt.int_int a t' b t
  |str b=>obtain⟨t,rfl⟩:=rx;exact SeqAt.EqAt.int_str a t' b t
  |_=>exact absurd (show false=true from fx) Bool.false_ne_true
 |str a=>
  obtain⟨t',rfl⟩:=ry
  cases x with
  |non=>cases rx;exact SeqAt.EqAt.str_none a t'
  |bl b=>cases rx;exact SeqAt.EqAt.str_bool a t' b
  |int b=>obtain⟨t,rfl⟩:=rx;exact SeqAt.EqAt.str_int a t' b t
  |str b=>obtain⟨t,rfl⟩:=rx;exact SeqAt.EqAt.str_str a t' b t
  |_=>exact absurd (show false=true from fx) Bool.false_ne_true
 |_=>exact absurd (show false=true from fy) Bool.false_ne_true
noncomputable def eqU(x:V)(u:Value):Bool:=match u with
 | .none=>eqV .non x
 | .bool b=>eqV (.bl b) x
 | .int i _=>eqV (.int i) x
 | .str z _=>eqV (.str z) x
 |_=>false
theorem eqU_of{x y:V}{u:Value}(r:RelV y u)(f:flatV y=true):eqU x u=eqV y x:=by
 cases y with
 |non=>cases r;rfl
 |bl b=>cases r;rfl
 |int i=>obtain⟨t,rfl⟩:=r;rfl
 |str z=>obtain⟨t,rfl⟩:=r;rfl
 |_=>exact absurd (show false=true from f) Bool.false_ne_true
theorem any_eqU{x:V}: ∀{xs:List V} {us:List Value},Vals xs us→xs.all flatV=true→us.any (eqU x)=xs.any λy=>eqV y x
 |_,_,.nil,_=>rfl
 |y::xs,u::us,.cons r t,f=>by
  rw[List.all_cons,Bool.and_eq_true] at f
  rw[List.any_cons,List.any_cons,eqU_of r f.1,any_eqU t f.2]
theorem mem_eqAt{A:Around}{s:Shared}{x:V}{v:Value}(rx:RelV x v)(fx:flatV x=true): ∀{xs:List V} {us:List Value},Vals xs us→xs.all flatV=true→∀u∈us,SeqAt.EqAt A s u v (eqU x u)
 |_,_,.nil,_=>λu hu=>by cases hu
 |y::xs,u::us,.cons r t,f=>λu' hu=>by
  rw[List.all_cons,Bool.and_eq_true] at f
  rcases List.mem_cons.mp hu with rfl|hu
  ·rw[eqU_of r f.1];exact eqAt_V r rx f.1 fx
  ·exact mem_eqAt rx fx t f.2 u' hu
noncomputable def inV(x:V)(xs:List V):Bool:=xs.any λy=>eqV y x
noncomputable def rIn(K:PySem.W.Frag)(neg:Bool):R2:=λx y H Q=> ∃p xs,y=.ref p∧(SqL K H p xs∨SqT K H p xs)∧flatV x=true∧xs.all flatV=true∧Q (.bl (if neg then !inV x xs else inV x xs)) H
theorem op_in_seq:OpR X (compareOp .In) (rIn X.K false):=by
 intro pins s σ H x y v u Q I rx ry h
 obtain⟨p,xs,rfl,hq,fx,fs,q⟩:=h
 cases ry
 rcases hq with hq|hq
 ·obtain⟨its,r,pl,hz⟩:=I.list hq
  refine SeqAt.in_listAt (eqU x) pl.isList (λw hw=>mem_eqAt rx fx r fs w (by simpa using hw)) ⟨.bl _,H,I,rfl,?_⟩
  rw[show its.toArray.any (eqU x)=its.any (eqU x) by simp,any_eqU r fs]
  exact q
 ·obtain⟨its,r,pl,hz⟩:=I.tuple hq
  refine SeqAt.in_tupleAt (eqU x) pl (λw hw=>mem_eqAt rx fx r fs w (by simpa using hw)) ⟨.bl _,H,I,rfl,?_⟩
  rw[show its.toArray.any (eqU x)=its.any (eqU x) by simp,any_eqU r fs]
  exact q
theorem call_len_seq:CallR X (.builtin "len") (λxs H Q=> ∃p ys,xs=[.ref p]∧(SqL X.K H p ys∨SqT X.K H p ys)∧Q (.int ys.length) H):=by
 intro pins s σ H xs us Q I r h
 obtain⟨p,ys,rfl,hq,q⟩:=h
 obtain⟨u,rfl,rx⟩:=vals1 r
 cases rx
 have hn:=line63
 rcases hq with hq|hq
 ·obtain⟨its,r',pl,hz⟩:=I.list hq
  have hlen:=r'.length
  exact Calls.call_len_list pl.isList (by simp only[List.size_toArray]<;>omega) ⟨.int ys.length,H,I.tok _,⟨s.toks+1,by rw[List.size_toArray,hlen]⟩,q⟩
 ·obtain⟨its,r',pl,hz⟩:=I.tuple hq
  have hlen:=r'.length
  exact len_tuple pl (by simp only[List.size_toArray]<;>omega) ⟨.int ys.length,H,I.tok _,⟨s.toks+1,by rw[List.size_toArray,hlen]⟩,q⟩
theorem call_len_str:CallR X (.builtin "len") (λxs H Q=> ∃z,xs=[.str z]∧z.length≤sizeLine∧Q (.int z.length) H):=by
 intro pins s σ H xs us Q I r h
 obtain⟨z,rfl,hz,q⟩:=h
 obtain⟨u,rfl,t,rfl⟩:=vals1 r
 have hn:=line63
 exact len_str (by omega) ⟨.int z.length,H,I.tok _,⟨_,rfl⟩,q⟩
theorem CallR.or{f:Value}{r r':List V→Hp→VK→Prop}(h:CallR X f r)(h':CallR X f r'):CallR X f (λxs H Q=>r xs H Q∨r' xs H Q):=by
 intro pins s σ H xs us Q I rs q
 rcases q with q|q
 ·exact h pins s σ H xs us Q I rs q
 ·exact h' pins s σ H xs us Q I rs q
theorem call_list_of:CallR X (.type "list") (λxs H Q=> ∃p ys,xs=[.ref p]∧(SqL X.K H p ys∨SqT X.K H p ys)∧∀l,H l=none→Q (.ref l) (upd H l (.lst ys))):=by
 intro pins s σ H xs us Q I r h
 obtain⟨p,ys,rfl,hq,q⟩:=h
 obtain⟨u,rfl,rx⟩:=vals1 r
 cases rx
 have fin: ∀(its:List Value),Vals ys its→ys.length≤sizeLine→∀(h':Heap) (c':Nat),(∀b o',s.heap.get? b=some o'→h'.get? b=some o')→
   h'.get? s.heap.objs.size=some {cls:=.type "list",dict:=none,data:=.seq its.toArray c',slots:= #[]}→EP X pins σ Q (.ref s.heap.objs.size) {s with heap:=h'}:=λits r' hz h' c' kp e=>
  ⟨.ref s.heap.objs.size,_,I.laid (t':=s.toks) kp (Nat.le_refl _) (show ObjOk X.prog X.w _ h' _ (.lst ys) from⟨hz,its,c',r',e⟩),rfl,q _ (I.hok.fresh (Nat.le_refl _))⟩
 rcases hq with hq|hq
 ·obtain⟨its,r',pl,hz⟩:=I.list hq
  have hlen:=r'.length
  obtain⟨o,ho,hc,n,hd⟩:=pl.isList
  exact call_list_seq p (.inl rfl) ho hc hd (λh' c' kp e=>fin its r' hz h' c' kp e) (by simp only[List.size_toArray]<;>omega)
 ·obtain⟨its,r',pl,hz⟩:=I.tuple hq
  have hlen:=r'.length
  obtain⟨o,ho,hc,n,hd⟩:=pl
  exact call_list_seq p (.inr rfl) ho hc hd (λh' c' kp e=>fin its r' hz h' c' kp e) (by simp only[List.size_toArray]<;>omega)
noncomputable def tyV(K:PySem.W.Frag)(T:String)(x:V)(H:Hp):Prop:=match x with
 | .str _=>T="str"
 | .int _=>T="int"
 | .ref p=>(T="list"∧∃xs,SqL K H p xs)∨(T="tuple"∧∃o,K.lookup p=some o∧o.cls=.type "tuple"∧o.dict=none)∨
   (T="dict"∧((∃kvs,H p=some (.dK kvs))∨∃kvs,H p=some (.dT kvs)))∨(T="set"∧∃S n,H p=some (.set S n))
 |_=>False
theorem tyV_is{pins:List (Addr×Obj)}{σ:St}{H:Hp}{s:Shared}{T:String}{x:V}{v:Value}(I:Inv X pins σ H s)(r:RelV x v)(ty:tyV X.K T x H):
  s.TypeIs v T∧∀a,v=.ref a→∃ob,s.heap.get? a=some ob∧ob.dict=none:=by
 cases x with
 |str z=>
  obtain⟨t,rfl⟩:=r
  cases (show T="str" from ty)
  exact⟨typeIs_str s z t,λ_ e=>nomatch e⟩
 |int i=>
  obtain⟨t,rfl⟩:=r
  cases (show T="int" from ty)
  exact⟨typeIs_int s i t,λ_ e=>nomatch e⟩
 |ref p=>
  cases r
  rcases ty with⟨rfl,xs,hq⟩|⟨rfl,o,hk,hc,hd⟩|⟨rfl,hk⟩|⟨rfl,S,n,hk⟩
  ·obtain⟨its,_,pl,_⟩:=I.list hq
   refine⟨pl.isList.typeIs,λa e=> ?_⟩
   cases e
   obtain⟨o,n,e,c,hd,_⟩:=pl
   exact⟨o,e,hd⟩
  ·refine⟨⟨o,I.kIn p o hk,hc⟩,λa e=> ?_⟩
   cases e
   exact⟨o,I.kIn _ o hk,hd⟩
  ·have z: ∃o,s.heap.get? p=some o∧o.ExactDict:=by
    rcases hk with⟨kvs,hk⟩|⟨kvs,hk⟩
    ·obtain⟨_,_,_,_,o,_,_,e,ex,_⟩:=I.hok p _ hk
     exact⟨o,e,ex⟩
    ·obtain⟨_,_,_,_,o,_,_,e,ex,_⟩:=I.hok p _ hk
     exact⟨o,e,ex⟩
   obtain⟨o,e,ex⟩:=z
   refine⟨⟨o,e,ex.1⟩,λa e2=> ?_⟩
   cases e2
   exact⟨o,e,ex.2.1⟩
  ·obtain⟨o,_,_,_,e,ex,_⟩:=I.hok p _ hk
   refine⟨⟨o,e,ex.1⟩,λa e2=> ?_⟩
   cases e2
   exact⟨o,e,ex.2.1⟩
 |_=>exact False.elim ty
noncomputable def tBM(K:PySem.W.Frag)(T:String)(r:V→List V→Hp→VK→Prop)(to:TE)(t:TA):TE:=λσ H Q=>to σ H λx H1=>tyV K T x H1∧t σ H1 λxs H2=>r x xs H2 Q
variable {o e:Expr} {es:List Expr} {to:TE} {t:TA} {name:Str} {apos cpos:Pos} {T id:String} {r:V→List V→Hp→VK→Prop}
theorem pe_bm(pa:PlainAttrs T)(slot:Slot T name id)(hty:typeOf (.builtin id)=pure (.type "method_descriptor"))(hm:MtR X id r)(ho:PE X o to)(ha:PA X (e::es) t)
  (hbase:attributeBase o name X.env (eval o X.env)=eval o X.env:=by rfl)
  (hfew:((backTo cpos (starEach (e::es) X.env)).all (λx=> !x.1)&&(backToKw cpos (keywordEach [] X.env)).all (λx=>x.1.isSome)
   &&decide ((e::es).length+([]:List Keyword).length+(if ([]:List Keyword).isEmpty then 0 else 1)<30))=true:=by rfl)
  (hline:(apos.endLine==cpos.line)=true:=by rfl) (hs:starEach (e::es) X.env=(false,eval e X.env)::starEach es X.env:=by rfl) (hplain:(backTo cpos (starEach es X.env)).any (·.1)=false:=by rfl):
  PE X (.Call (.Attribute o name apos) (e::es) [] cpos) (tBM X.K T r to t):=by
 intro pins s σ H Q I h
 refine wpAny_Call_method_late hbase hfew hline rfl (thn (ho pins s σ H _ I h) λv s1 ⟨x,H1,I1,r1,ty,q1⟩=> ?_)
 obtain⟨h1,h2⟩:=tyV_is I1 r1 ty
 refine⟨T,id,pa,slot,hty,h1,h2,?_⟩
 have hA:=ha cpos pins s1 σ H1 _ I1 q1
 rw[hs] at hA⊢
 refine Calls.callWith_builtin (by show(false||(backTo cpos (starEach es X.env)).any (·.1))=false;rw[hplain]<;>rfl) (Calls.evalArgs_plain ?_)
 exact thn hA λus s2 ⟨vs,H2,I2,r2,q2⟩=>hm pins s2 σ H2 x vs v us Q I2 r1 r2 q2
end
end L2
namespace L2
open PySem PySem.Spec PyProof.Rows
noncomputable def MtM(X:Cx)(id:String)(r:V→List V→Hp→VK→Prop):Prop:=
 ∀(pins:List (Addr×Obj)) (s:Shared) (σ:St) (H:Hp) (x:V) (xs:List V) (v:Value) (us:List Value) (Q:VK),Inv X pins σ H s→RelV x v→Vals xs us→r x xs H Q→
  wpAny (model X.prog X.w) X.A (call (.builtin id) (v::us)) (EP X pins σ Q) X.xe s
theorem Vals.one: ∀{x:V} {us:List Value},Vals [x] us→∃u,us=[u]∧RelV x u
 |_,_,.cons r .nil=>⟨_,rfl,r⟩
theorem Vals.rep{xs:List V}{us:List Value}(h:Vals xs us): ∀k:Nat,Vals (List.replicate k xs).flatten (List.replicate k us).flatten
 |0=>.nil
 |k+1=>by
  rw[List.replicate_succ,List.replicate_succ,List.flatten_cons,List.flatten_cons]
  exact Vals.append h (Vals.rep h k)
theorem foldl_rep(its:List Value): ∀(k:Nat) (acc:List Value),
  List.foldl (λx1 x2=>x1++x2) acc.toArray (List.replicate k its.toArray)=(acc++(List.replicate k its).flatten).toArray
 |0,acc=>by simp
 |k+1,acc=>by
  have e:acc.toArray++its.toArray=(acc++its).toArray:=by simp
  have e2:(acc++its)++(List.replicate k its).flatten=acc++(List.replicate (k+1) its).flatten:=by
   rw[List.replicate_succ,List.flatten_cons,List.append_assoc]
  rw[←e2,←foldl_rep its k (acc++its),←e,List.replicate_succ,List.foldl_cons]
section
variable {X:Cx} {pins:List (Addr×Obj)} {σ:St} {H:Hp} {s:Shared} {l b:Addr} {xs ys zs:List V}
theorem Inv.lset{its its':List Value}{n:Nat}{f:Array Value→Array Value}{t':Nat}(I:Inv X pins σ H s)(hH:H l=some (.lst xs))
  (e:s.heap.get? l=some {cls:=.type "list",data:=.seq its.toArray n}) (hf:f its.toArray=its'.toArray) (hv:Vals ys its') (hz:ys.length≤sizeLine):
  Inv X pins σ (upd H l (.lst ys)) {s with heap:=s.heap.update l (Obj.mapSeq f),toks:=t'}:=by
 have q:=PySem.IsL.update e f
 rw[hf] at q
 refine I.write (x:=l) (e:=l) (by rw[hH];exact trivial) (.inl rfl) (λb' u hb hu=>(Heap.get?_update_other s.heap (Obj.mapSeq f) (Ne.symm hb)).trans hu) ⟨_,q⟩ ?_
 exact⟨hz,its',_,hv,q⟩
theorem Inv.lnew{its:List Value}{t':Nat}(I:Inv X pins σ H s)(hv:Vals ys its)(hz:ys.length≤sizeLine):
  Inv X pins σ (upd H s.heap.objs.size (.lst ys)) {s with heap:=s.heap.push {cls:=.type "list",data:=.seq its.toArray},toks:=t'}:=
 I.laid (λ_ _ q=>Heap.get?_push_of_some _ q) (Nat.le_refl _) ⟨hz,its,0,hv,Heap.get?_push_size _ rfl⟩
theorem Inv.fresh(I:Inv X pins σ H s):H s.heap.objs.size=none:=I.hok.fresh (Nat.le_refl _)
theorem Inv.lstM(I:Inv X pins σ H s)(hH:H l=some (.lst xs)):xs.length≤sizeLine∧∃(its:List Value) (n:Nat),Vals xs its∧xs.length=its.length∧s.heap.get? l=some {cls:=.type "list",data:=.seq its.toArray n}:=by
 obtain⟨z,its,n,r,e⟩:=I.hok l _ hH
 exact⟨z,its,n,r,r.length,e⟩
theorem notLongL{n:Nat}(h:n≤sizeLine):Builtin.List.listTooLong n=false:=by
 unfold Builtin.List.listTooLong
 exact decide_eq_false (by omega)
end
section
variable {X:Cx}
noncomputable def rAppend:V→List V→Hp→VK→Prop:=λx vs H Q=> ∃l xs y,x=.ref l∧vs=[y]∧H l=some (.lst xs)∧xs.length<sizeLine∧Q .non (upd H l (.lst (xs++[y])))
theorem mt_append:MtM X "list.append" rAppend:=by
 intro pins s σ H x vs v us Q I rx rv h
 obtain⟨l,xs,y,rfl,rfl,hH,hz,q⟩:=h
 cases rx
 obtain⟨u,rfl,ru⟩:=rv.one
 obtain⟨z,its,n,r,hl,e⟩:=I.lstM hH
 refine call_meets F.slot_list_append ⟨_,e,rfl⟩ F.entry_list_append (F.args_list_append_2 _ _) (PySem.list_append l its.toArray n u (by rw[List.size_toArray];omega)) ⟨e,?_⟩
 refine⟨.non,_,I.lset (its':=its++[u]) hH e (by simp) (r.append (.cons ru .nil)) ?_,rfl,q⟩
 rw[List.length_append,List.length_singleton]
 omega
noncomputable def rCat:R2:=λx y H Q=> ∃l b xs zs,x=.ref l∧y=.ref b∧H l=some (.lst xs)∧H b=some (.lst zs)∧xs.length+zs.length≤sizeLine∧∀p,H p=none→Q (.ref p) (upd H p (.lst (xs++zs)))
theorem op_cat:OpR X (binaryOp .Add) rCat:=by
 intro pins s σ H x y v u Q I rx ry h
 obtain⟨l,b,xs,zs,rfl,rfl,hH,hB,hz,q⟩:=h
 cases rx
 cases ry
 obtain⟨z,its,n,r,hl,e⟩:=I.lstM hH
 obtain⟨z2,its2,n2,r2,hl2,e2⟩:=I.lstM hB
 refine PySem.P.add_list e e2 ?_ (by rw[List.size_toArray,List.size_toArray];omega)
 have ea:its.toArray++its2.toArray=(its++its2).toArray:=by simp
 rw[ea]
 exact⟨.ref _,_,I.lnew (t':=s.toks) (r.append r2) (by rw[List.length_append];omega),rfl,q _ I.fresh⟩
noncomputable def rRep:R2:=λx y H Q=> ∃l k xs,x=.ref l∧y=.int k∧H l=some (.lst xs)∧ -(2^63)≤k∧k<2^63∧xs.length*k.toNat≤sizeLine∧
 ∀p,H p=none→Q (.ref p) (upd H p (.lst (List.replicate k.toNat xs).flatten))
theorem len_rep{α:Type}(xs:List α)(k:Nat):(List.replicate k xs).flatten.length=k*xs.length:=by
 induction k with
 |zero=>simp
 |succ k ih=>rw[List.replicate_succ,List.flatten_cons,List.length_append,ih,Nat.succ_mul,Nat.add_comm]
theorem op_rep:OpR X (binaryOp .Mult) rRep:=by
 intro pins s σ H x y v u Q I rx ry h
 obtain⟨l,k,xs,rfl,rfl,hH,h1,h2,hz,q⟩:=h
 cases rx
 obtain⟨t,rfl⟩:=ry
 obtain⟨z,its,n,r,hl,e⟩:=I.lstM hH
 have hlen:its.toArray.size*k.toNat≤sizeLine:=by rw[List.size_toArray,←hl];exact hz
 have hcap: ¬its.toArray.size*k.toNat>(2^63 - 1)/8:=by
  have:(sizeLine:Nat)≤(2^63 - 1)/8:=by decide
  omega
 have hfit: ¬(!Builtin.List.listFitsIndex k)=true:=by
  rw[fitsIndex_both h1 h2]
  exact Bool.false_ne_true
 have hlong: ¬Builtin.List.listTooLong (its.toArray.size*k.toNat)=true:=by
  rw[notLongL hlen]
  exact Bool.false_ne_true
 have hnew:List.foldl (λx1 x2=>x1++x2) #[] (List.replicate (if its.toArray.isEmpty=true then 0 else k.toNat) its.toArray)=(List.replicate k.toNat its).flatten.toArray:=by
  have f0: ∀m:Nat,List.foldl (λx1 x2=>x1++x2) #[] (List.replicate m its.toArray)=(List.replicate m its).flatten.toArray:=λm=>by
   have:=foldl_rep its m []
   rw[List.nil_append] at this
   exact this
  rw[f0]
  cases its with
  |nil=>simp
  |cons a r'=>rw[if_neg (by simp)]
 refine wpAny_binaryOp_repeat_ref (T:="list") (U:="int") (by decide) ⟨_,e,rfl⟩ (λs'=>typeIs_int s' k t) noFill_list_mul F.fills_int_mul F.slot_int_rmul repeat_list F.slot_int_index.lookup
  (call_meets F.slot_int_rmul (typeIs_int s k t) F.entry_int_rmul (F.args_int_rmul_2 _ _) (int___rmul___int_list k t l its.toArray n)
   ⟨e,rfl,⟨_,e,rfl⟩,call_meets F.slot_list_mul ⟨_,e,rfl⟩ F.entry_list_mul (F.args_list_mul_2 _ _) (AutoListH.list___mul___list_int_3 l its.toArray n k t hfit hcap hlong) ⟨e,?_⟩⟩)
 rw[hnew]
 exact⟨.ref _,_,I.lnew (t':=s.toks) (r.rep k.toNat) (by rw[len_rep,Nat.mul_comm];exact hz),rfl,q _ I.fresh⟩
end
section
variable {prog:Program} {w:World} {A:Around} {E:Value→Shared→Prop} {s:Shared}
end
section
variable {X:Cx}
end
end L2
namespace L2
open PySem PySem.Spec PyProof.Rows
section
variable {κ:Type} [DecidableEq κ]
noncomputable def valV(kvs:List (κ×V))(k:κ):Option V:=(kvs.find? λkv=>decide (kv.1=k)).map (·.2)
noncomputable def putK(kvs:List (κ×V))(k:κ)(v:V):List (κ×V):=
 if (kvs.any λkv=>decide (kv.1=k))=true then kvs.map (λkv=>if kv.1=k then(kv.1,v) else kv) else kvs++[(k,v)]
theorem valV_pos{p:κ×V}{r:List (κ×V)}{k:κ}(e:p.1=k):valV (p::r) k=some p.2:=by simp[valV,List.find?_cons,e]
theorem valV_neg{p:κ×V}{r:List (κ×V)}{k:κ}(e: ¬p.1=k):valV (p::r) k=valV r k:=by simp[valV,List.find?_cons,e]
theorem valV_any(k:κ): ∀kvs:List (κ×V),(kvs.any λkv=>decide (kv.1=k))=(valV kvs k).isSome
 |[]=>rfl
 |p::r=>by
  rw[List.any_cons]
  by_cases e:p.1=k
  ·simp only[valV_pos e,decide_eq_true e,Bool.true_or,Option.isSome_some]
  ·rw[valV_neg e,decide_eq_false e,Bool.false_or];exact valV_any k r
theorem length_putK(kvs:List (κ×V))(k:κ)(v:V):(putK kvs k v).length≤kvs.length+1:=by
 unfold putK
 split
 ·rw[List.length_map];omega
 ·rw[List.length_append,List.length_cons,List.length_nil];omega
theorem RelO.isSome_eq{o:Option V}{u:Option Value}(r:RelO o u):o.isSome=u.isSome:=by
 cases o with
 |none=>cases u with
  |none=>rfl
  |some _=>exact(show False from r).elim
 |some _=>cases u with
  |none=>exact(show False from r).elim
  |some _=>rfl
theorem KV.val{kvs:List (κ×V)}{vs:List (κ×Value)}(r:KV kvs vs)(k:κ):RelO (valV kvs k) (valueAt vs k):=by
 unfold KV at r
 induction r with
 |nil=>exact True.intro
 | @cons p q ps qs h t ih=>
  obtain⟨h1,h2⟩:=h
  by_cases e:p.1=k
  ·have e':q.1=k:=h1.symm.trans e
   have b:valueAt (q::qs) k=some q.2:=by simp[valueAt,List.find?_cons,e']
   rw[valV_pos e,b];exact h2
  ·have e': ¬q.1=k:=λz=>e (h1.trans z)
   have b:valueAt (q::qs) k=valueAt qs k:=by simp[valueAt,List.find?_cons,e']
   rw[valV_neg e,b];exact ih
theorem KV.any{kvs:List (κ×V)}{vs:List (κ×Value)}(r:KV kvs vs)(k:κ):(kvs.any λkv=>decide (kv.1=k))=vs.any λkv=>decide (kv.1=k):=by
 unfold KV at r
 induction r with
 |nil=>rfl
 |cons h t ih=>rw[List.any_cons,List.any_cons,ih,h.1]
theorem KV.repl{kvs:List (κ×V)}{vs:List (κ×Value)}(r:KV kvs vs)(k:κ){y:V}{u:Value}(ry:RelV y u):
  KV (kvs.map λkv=>if kv.1=k then(kv.1,y) else kv) (vs.map λkv=>if kv.1=k then(kv.1,u) else kv):=by
 unfold KV at r⊢
 induction r with
 |nil=>exact .nil
 | @cons p q ps qs h t ih=>
  rw[List.map_cons,List.map_cons]
  refine .cons ?_ ih
  obtain⟨h1,h2⟩:=h
  by_cases e:p.1=k
  ·rw[if_pos e,if_pos (h1.symm.trans e)];exact⟨h1,ry⟩
  ·rw[if_neg e,if_neg (λz=>e (h1.trans z))];exact⟨h1,h2⟩
theorem KV.put{kvs:List (κ×V)}{vs:List (κ×Value)}(r:KV kvs vs)(k:κ){y:V}{u:Value}(ry:RelV y u):KV (putK kvs k y) (stored vs k u):=by
 unfold putK stored
 rw[r.any k]
 by_cases e:(vs.any λkv=>decide (kv.1=k))=true
 ·rw[if_pos e,if_pos e];exact r.repl k ry
 ·rw[if_neg e,if_neg e];exact Paired.snoc r ⟨rfl,ry⟩
theorem KV.length{kvs:List (κ×V)}{vs:List (κ×Value)}(r:KV kvs vs):kvs.length=vs.length:=Paired.length r
end
theorem kV_is{P:Program}{w:World}{k:Key}{u:Value}(r:RelV (kV k) u):(mixKind P w).is k u=true:=by
 cases k with
 |inl i=>obtain⟨t,e⟩:=(show∃t,u=Value.int i t from r);subst e;exact mixKind_int P w i t
 |inr x=>obtain⟨t,e⟩:=(show∃t,u=Value.str x t from r);subst e;exact mixKind_str P w x t
theorem items_are{P:Program}{w:World}: ∀{ks:List Key} {us:List Value},Vals (ks.map kV) us→ItemsAre (mixKind P w) ks us
 |[],_,r=>by rw[List.map_nil] at r;cases r;exact .nil
 |k::ks,_,r=>by
  rw[List.map_cons] at r
  cases r with
  |cons h t=>exact .cons (kV_is h) (items_are t)
noncomputable abbrev KT(H:Hp):List (List Key×V)→List (List Key×Addr×Value)→Prop:=Paired λp q=>p.1=q.1∧H q.2.1=some (.tup (p.1.map kV))∧RelV p.2 q.2.2
theorem KT.val{H:Hp}{kvs:List (List Key×V)}{xs:List (List Key×Addr×Value)}(r:KT H kvs xs)(k:List Key):RelO (valV kvs k) ((atKey xs k).map (·.2)):=by
 induction r with
 |nil=>exact True.intro
 | @cons p q ps qs h t ih=>
  obtain⟨h1,_,h2⟩:=h
  by_cases e:p.1=k
  ·have e':q.1=k:=h1.symm.trans e
   have b:atKey (q::qs) k=some q.2:=by simp[atKey,List.find?_cons,e']
   rw[valV_pos e,b];exact h2
  ·have e': ¬q.1=k:=λz=>e (h1.trans z)
   have b:atKey (q::qs) k=atKey qs k:=by simp[atKey,List.find?_cons,e']
   rw[valV_neg e,b];exact ih
theorem KT.repl{H:Hp}{kvs:List (List Key×V)}{xs:List (List Key×Addr×Value)}(r:KT H kvs xs)(k:List Key){y:V}{u:Value}(ry:RelV y u):
  KT H (kvs.map λkv=>if kv.1=k then(kv.1,y) else kv) (xs.map (putAt k u)):=by
 induction r with
 |nil=>exact .nil
 | @cons p q ps qs h t ih=>
  rw[List.map_cons,List.map_cons]
  refine .cons ?_ ih
  obtain⟨h1,h2,h3⟩:=h
  unfold putAt
  by_cases e:p.1=k
  ·rw[if_pos e,if_pos (h1.symm.trans e)];exact⟨h1,h2,ry⟩
  ·rw[if_neg e,if_neg (λz=>e (h1.trans z))];exact⟨h1,h2,h3⟩
theorem KT.put{H:Hp}{kvs:List (List Key×V)}{xs:List (List Key×Addr×Value)}(r:KT H kvs xs)(k:List Key){b:Addr}{y:V}{u:Value}(hb:H b=some (.tup (k.map kV)))(ry:RelV y u):
  KT H (putK kvs k y) (storedH xs k b u):=by
 have e:(kvs.any λkv=>decide (kv.1=k))=(atKey xs k).isSome:=by
  rw[valV_any,(r.val k).isSome_eq,Option.isSome_map]
 unfold putK storedH
 rw[e]
 by_cases q:(atKey xs k).isSome=true
 ·rw[if_pos q,if_pos q];exact r.repl k ry
 ·rw[if_neg q,if_neg q];exact Paired.snoc r ⟨rfl,hb,ry⟩
theorem KT.keeps{H H':Hp}{kvs:List (List Key×V)}{xs:List (List Key×Addr×Value)}(r:KT H kvs xs)(ht: ∀b ys,H b=some (.tup ys)→H' b=some (.tup ys)):KT H' kvs xs:=
 Paired.mapP r λ_ _ z=>⟨z.1,ht _ _ z.2.1,z.2.2⟩
section
variable {P:Program} {w:World} {H:Hp} {h:Heap} {a:Addr}
theorem rd_of{u:HO}(ok:HOk P w H h)(e:Rd H a u):ObjOk P w H h a u:=e.ok ok
theorem dk_rd{kvs:List (Key×V)}(ok:HOk P w H h)(e:Rd H a (.dK kvs)):kvs.length≤sizeLine∧(a==sysModules)=false∧∃vs,KV kvs vs∧h.DictOf (mixKind P w) a vs:=
 show ObjOk P w H h a (.dK kvs) from rd_of ok e
theorem dk_of{kvs:List (Key×V)}(ok:HOk P w H h)(e:H a=some (.dK kvs)):kvs.length≤sizeLine∧(a==sysModules)=false∧∃vs,KV kvs vs∧h.DictOf (mixKind P w) a vs:=dk_rd ok (.inl e)
theorem key_of{ks:List Key}(ok:HOk P w H h)(e:H a=some (.tup (ks.map kV))):(tupleKind (mixKind P w)).is h ks a:=by
 obtain⟨_,its,r,o,h1,h2,n,h3⟩:=(show ObjOk P w H h a (.tup (ks.map kV)) from ok a _ e)
 exact⟨o,its.toArray,n,h1,h2,h3,by simpa using items_are r⟩
theorem dt_rd{kvs:List (List Key×V)}(ok:HOk P w H h)(e:Rd H a (.dT kvs)):kvs.length≤sizeLine∧(a==sysModules)=false∧
  ∃xs,KT H kvs xs∧h.DictOfH (tupleKind (mixKind P w)) a xs:=by
 obtain⟨z,y,xs,r,o,es,ep,h1,h2,h3,h4,h5⟩:=(show ObjOk P w H h a (.dT kvs) from rd_of ok e)
 refine⟨z,y,xs,r,o,es,ep,h1,h2,h3,h4,λx hx=> ?_,h5⟩
 have all: ∀{l:List (List Key×V)} {m:List (List Key×Addr×Value)},KT H l m→∀x∈m,(tupleKind (mixKind P w)).is h x.1 x.2.1:=by
  intro l m q
  induction q with
  |nil=>intro x hx;exact nomatch hx
  | @cons p q ps qs hq t ih=>
   intro x hx
   rcases List.mem_cons.mp hx with e|hx
   ·subst e
    exact key_of ok (by rw[←hq.1];exact hq.2.1)
   ·exact ih x hx
 exact all r x hx
theorem dt_of{kvs:List (List Key×V)}(ok:HOk P w H h)(e:H a=some (.dT kvs)):kvs.length≤sizeLine∧(a==sysModules)=false∧
  ∃xs,KT H kvs xs∧h.DictOfH (tupleKind (mixKind P w)) a xs:=dt_rd ok (.inl e)
end
noncomputable def DGet(H:Hp)(a:Addr)(y:V)(r:Option V):Prop:=
 (∃kvs k,Rd H a (.dK kvs)∧y=kV k∧r=valV kvs k)∨∃kvs k b,Rd H a (.dT kvs)∧y=.ref b∧H b=some (.tup (k.map kV))∧r=valV kvs k
noncomputable def DPut(H:Hp)(a:Addr)(y v:V)(H':Hp):Prop:=
 (∃kvs k,H a=some (.dK kvs)∧y=kV k∧kvs.length<sizeLine∧H'=upd H a (.dK (putK kvs k v)))∨
 ∃kvs k b,H a=some (.dT kvs)∧y=.ref b∧H b=some (.tup (k.map kV))∧kvs.length<sizeLine∧H'=upd H a (.dT (putK kvs k v))
theorem DPut.k{H:Hp}{a:Addr}{kvs:List (Key×V)}{k:Key}{v:V}(e:H a=some (.dK kvs))(hl:kvs.length<sizeLine):DPut H a (kV k) v (upd H a (.dK (putK kvs k v))):=.inl ⟨kvs,k,e,rfl,hl,rfl⟩
section
variable {X:Cx} {pins:List (Addr×Obj)} {σ:St} {H:Hp} {s:Shared} {a:Addr} {y v:V} {u r:Value} {o:Option V} {A:Around} {E:Value→Shared→Prop}
theorem Inv.big(I:Inv X pins σ H s):sysModules<s.heap.objs.size:=by
 have h:mainGlobals<s.heap.objs.size:=(I.mod.glob.keeps I.bk).lt
 exact Nat.lt_trans (by decide) h
theorem d_getItem{Q:Value→Shared→Prop}(hu:A.units+1<cLine)(I:Inv X pins σ H s)(g:DGet H a y (some v))(ry:RelV y u)(h: ∀w' s',Inv X pins σ H s'→RelV v w'→Q w' s'):
  wpAny (model X.prog X.w) A (getItem (.ref a) u) Q E s:=by
 rcases g with⟨kvs,k,e,ey,l⟩|⟨kvs,k,b,e,ey,eb,l⟩
 ·subst ey
  obtain⟨z,hd,vs,rel,dd⟩:=dk_rd I.hok e
  obtain⟨w',hw,rw'⟩:=RelO.some_of (v:=v) (o:=valueAt vs k) (by rw[l];exact rel.val k)
  exact wpAny_getItem_of (kV_is ry) dd.mapOf hw (h w' _ (I.tok _) rw')
 ·subst ey
  cases (show u=Value.ref b from ry)
  obtain⟨z,hd,xs,rel,dd⟩:=dt_rd I.hok e
  obtain⟨w',hw,rw'⟩:=RelO.some_of (v:=v) (o:=(atKey xs k).map (·.2)) (by rw[l];exact rel.val k)
  obtain⟨p,hp,hp2⟩:=Option.map_eq_some_iff.mp hw
  refine wpAny_getItem_heap (tupleKind_room_in1 hu) (key_of I.hok eb) dd hp ?_
  rw[hp2]
  exact h w' _ (I.tok _) rw'
theorem d_write{h':Heap}{t':Nat}{ob:HO}(I:Inv X pins σ H s)(mu:Mut (H a))(hs:Heap.SameBut a s.heap h')(he: ∃q,h'.get? a=some q)(new:ObjOk X.prog X.w (upd H a ob) h' a ob):
  Inv X pins σ (upd H a ob) {s with heap:=h',toks:=t'}:=
 I.write (x:=a) (e:=a) mu (.inl rfl) (λb q hb z=>(hs.2 b hb).trans z) he new
theorem dk_new{P:Program}{w:World}{H':Hp}{h':Heap}{kvs:List (Key×V)}{vs:List (Key×Value)}(z:kvs.length≤sizeLine)(hd:(a==sysModules)=false)(rel:KV kvs vs)(dd:h'.DictOf (mixKind P w) a vs):
  ObjOk P w H' h' a (.dK kvs):=⟨z,hd,vs,rel,dd⟩
theorem d_setItem{H':Hp}{Q:Unit→Shared→Prop}(hu:A.units+1<cLine)(I:Inv X pins σ H s)(g:DPut H a y v H')(ry:RelV y u)(rv:RelV v r)(h: ∀s',Inv X pins σ H' s'→Q () s'):
  wpAny (model X.prog X.w) A (setItem (.ref a) u r) Q E s:=by
 rcases g with⟨kvs,k,e,ey,l,eH⟩|⟨kvs,k,b,e,ey,eb,l,eH⟩
 ·subst ey eH
  obtain⟨z,hd,vs,rel,dd⟩:=dk_of I.hok e
  have hz:vs.length≤sizeLine:=by rw[←rel.length];exact z
  have hl:(putK kvs k v).length≤sizeLine:=by have:=length_putK kvs k v;omega
  refine wpAny_setItem_pairs (hsz:=hz) (kV_is ry) dd λh' dd' hs=>h _ ?_
  have he: ∃q,h'.get? a=some q:=let ⟨q,_,_,hq,_⟩:=dd';⟨q,hq⟩
  exact d_write I (by rw[e];exact True.intro) hs he (dk_new hl hd (rel.put k rv) dd')
 ·subst ey eH
  cases (show u=Value.ref b from ry)
  obtain⟨z,hd,xs,rel,dd⟩:=dt_of I.hok e
  have hz:xs.length≤sizeLine:=by rw[←Paired.length rel];exact z
  have hl:(putK kvs k v).length≤sizeLine:=by have:=length_putK kvs k v;omega
  refine wpAny_setItem_heap (hsz:=hz) (tupleKind_room_in1 hu) (key_of I.hok eb) dd λh' dd' hs=>h _ ?_
  obtain⟨q,es,ep,hq,h2,h3,h4,_,h5⟩:=dd'
  refine d_write I (by rw[e];exact True.intro) hs ⟨q,hq⟩ ⟨hl,hd,_,(rel.put k eb rv).keeps λc ys ec=> ?_,q,es,ep,hq,h2,h3,h4,h5⟩
  rw[upd_ne (ne_of ec e (λz=>nomatch z))]
  exact ec
end
section
variable {X:Cx} {pins:List (Addr×Obj)} {σ:St} {H:Hp} {s:Shared} {a:Addr} {kvs:List (Key×V)} {k:Key} {u:Value} {A:Around} {E:Value→Shared→Prop}
theorem d_len{Q:Value→Shared→Prop}(I:Inv X pins σ H s)(e:Rd H a (.dK kvs))(h: ∀t s',Inv X pins σ H s'→Q (.int kvs.length t) s'):wpAny (model X.prog X.w) A (call (.builtin "len") [.ref a]) Q E s:=by
 obtain⟨z,hd,vs,rel,dd⟩:=dk_rd I.hok e
 refine call_len_dict hd dd (by rw[←rel.length];rw[sizeLine_eq] at z;omega) ?_
 rw[←rel.length]
 exact h _ _ (I.tok _)
end
noncomputable def NoSl(i:Expr):Prop:= ∀ov iv,subscripted i false ov iv=operate [ov,iv] (getItem ov iv)
theorem subD_of{prog:Program}{w:World}{A:Around}{E:Value→Shared→Prop}{s:Shared}{env:Env}{value slice:Expr}{pos:Pos}{T id:String}{Q:Value→Shared→Prop}
  (hl:typeLookup (.type T) "__getitem__"=pure (some (.builtin id))) (hs:NoSl slice)
  (h:wpAny (model prog w) A (eval value env) (λo s₁=>wpAny (model prog w) A (eval slice env) (λi s₂=>s₂.TypeIs o T∧wpAny (model prog w) A (getItem o i) Q E s₂) E s₁) E s):
  wpAny (model prog w) A (eval (.Subscript value slice pos) env) Q E s:=by
 refine Subscript_ (wpAny_mono h (λo s₁ h₁=>wpAny_mono h₁ (λi s₂ h₂=> ?_) λ_ _ x=>x) λ_ _ x=>x)
 obtain⟨hT,h₂⟩:=h₂
 unfold subscriptTail
 refine wpAny_bind ?_
 rw[getitemInPython_of_ne hT.not_modules]
 refine wpAny_bind (wpAny_specialOf hT hl ?_)
 have fin:wpAny (model prog w) A (subscripted slice false o i) (λr s₃=>wpAny (model prog w) A (letTemporaryGo value o r>>=λ_=>pure r) Q E s₃) E s₂:=by
  rw[hs o i]
  exact wpAny_operating (wpAny_mono h₂ (λr s₃ h₃=>wpAny_bind (wpAny_letTemporaryGo (wpAny_pure h₃))) λ_ _ x=>x)
 first
  |exact wpAny_pure (wpAny_bind fin)
  |exact wpAny_bind (wpAny_pure (wpAny_bind fin))
  |exact wpAny_bind fin
theorem dict_typeIs{X:Cx}{pins:List (Addr×Obj)}{σ:St}{H:Hp}{s:Shared}{a:Addr}{y:V}{o:Option V}(I:Inv X pins σ H s)(g:DGet H a y o):s.TypeIs (.ref a) "dict":=by
 rcases g with⟨kvs,k,e,_,_⟩|⟨kvs,k,b,e,_,_,_⟩
 ·obtain⟨_,_,vs,_,dd⟩:=dk_rd I.hok e
  exact dd.typeIs
 ·obtain⟨_,_,xs,_,dd⟩:=dt_rd I.hok e
  exact dd.typeIs
noncomputable def tDGet(td ty:TE):TE:=λσ H Q=>td σ H λx H1=>ty σ H1 λy H2=> ∃a v,x=.ref a∧DGet H2 a y (some v)∧Q v H2
noncomputable def sDPut(td ty tv:TE):TS:=λD σ H=>tv σ H λv H1=>td σ H1 λx H2=>ty σ H2 λy H3=> ∃a H4,x=.ref a∧DPut H3 a y v H4∧D.nx σ H4
section
variable {X:Cx} {o i e value:Expr} {pos pos' tpos:Pos} {td ty tv:TE}
theorem pe_dget(hu:X.A.units+1<cLine)(ho:PE X o td)(hi:PE X i ty)(hs:NoSl i):PE X (.Subscript o i pos) (tDGet td ty):=by
 intro pins s σ H Q I h
 refine subD_of PySem.F.slot_dict_getitem.lookup hs (thn (ho pins s σ H _ I h) λu s1 ⟨x,H1,I1,rx,q1⟩=>thn (hi pins s1 σ H1 _ I1 q1) λiv s2 ⟨y,H2,I2,ry,a,v,ex,g,q2⟩=> ?_)
 subst ex
 obtain rfl:u=Value.ref a:=rx
 exact⟨dict_typeIs I2 g,d_getItem hu I2 g ry λw' s3 I3 rw'=>⟨v,H2,I3,rw',q2⟩⟩
theorem ps_dput(hu:X.A.units+1<cLine)(ho:PE X o td)(hi:PE X i ty)(hv:PE X value tv)(hs:swapsWith value (some (.Subscript o i pos')) pos.line X.env=pure false):
  PS X (.Assign [.Subscript o i pos'] value pos) (sDPut td ty tv):=by
 intro pins s σ H D I h
 refine wpAny_Assign_Subscript (thn (hv pins s σ H _ I h) λr s1 ⟨v,H1,I1,rv,q1⟩=>thn (ho pins s1 σ H1 _ I1 q1) λu s2 ⟨x,H2,I2,rx,q2⟩=>thn (hi pins s2 σ H2 _ I2 q2) λiv s3 ⟨y,H3,I3,ry,a,H4,ex,g,q3⟩=> ?_) hs
 subst ex
 obtain rfl:u=Value.ref a:=rx
 exact d_setItem hu I3 g ry rv λs4 I4=>⟨σ,H4,I4,q3⟩
end
theorem dk_empty{P:Program}{w:World}{H:Hp}(h:Heap)(hb:sysModules<h.objs.size):ObjOk P w H (h.push {cls:=.type "dict",data:=.dict #[]}) h.objs.size (.dK []):=
 ⟨Nat.zero_le _,beq_eq_false_iff_ne.mpr (Ne.symm (Nat.ne_of_lt hb)),[],.nil,Heap.DictOf.new h⟩
noncomputable def tDNewK:TE:=λ_ H Q=> ∀p,H p=none→Q (.ref p) (upd H p (.dK []))
section
variable {X:Cx} {pos:Pos}
theorem pe_dnewK:PE X (.Dict [] [] pos) tDNewK:=λpins s σ H Q I h=>
 wpAny_Dict_empty ⟨.ref s.heap.objs.size,_,I.laid (a:=s.heap.objs.size) (o:=.dK []) (t':=s.toks) (λ_ _ q=>Heap.get?_push_of_some _ q) (Nat.le_refl _) (dk_empty s.heap I.big),rfl,h _ (I.hok.fresh (Nat.le_refl _))⟩
end
section
variable {X:Cx} {pins:List (Addr×Obj)} {σ:St} {H:Hp} {s:Shared} {a:Addr} {y d:V} {u r:Value} {o:Option V} {A:Around} {E:Value→Shared→Prop}
end
section
variable {X:Cx} {o e f:Expr} {apos cpos:Pos} {td ty tx:TE}
end
section
variable {X:Cx} {pins:List (Addr×Obj)} {σ:St} {H:Hp} {s:Shared} {a:Addr} {kvs:List (Key×V)} {A:Around} {E:Value→Shared→Prop}
end
section
variable {X:Cx} {pins:List (Addr×Obj)} {σ:St} {H:Hp} {s:Shared} {a:Addr} {y:V} {u:Value} {A:Around} {E:Value→Shared→Prop}
end
end L2
namespace Att
open PySem PySem.W PySem.Calls PyProof.Rows
theorem ints_of_wellAll{P:Params}{h:Heap}: ∀(ns:List Int) (vs:List Value),WellAll P h vs (ns.map WData.int)→IntsAre vs ns:=by
 intro ns
 induction ns with
 |nil=>
  intro vs w
  rw[List.map_nil] at w
  cases w
  exact .nil
 |cons n ns ih=>
  intro vs w
  rw[List.map_cons] at w
  cases w with
  |cons a b=>
   cases a
   exact .cons _ _ (ih _ b)
theorem script_of{l:OpenLaw}{n:Nat}(hn:l.most=some n){P:Params}{h:Heap}{args:List WData}{vals:List Value}
  (hpre:l.row.toRowW.claim.pre args=true) (hwl:WellAll P h vals args):
  ∃a vs ns,vals=[Value.ref a]∧args=[WData.list (ns.map WData.int)]∧h.get? a=some {cls:=.type "list",data:=.seq vs.toArray}∧IntsAre vs ns∧ns.length≤n:=by
 have hsh:WShape.hasAll [] args [.list .int]=true:=(pre_splitW hpre).1
 have hc:l.pre.holds [] {args:=args}=true:=(pre_splitW hpre).2
 obtain⟨d,r,rfl,h1,h2⟩:=hasAllW_cons hsh
 obtain rfl:=hasAllW_nil h2
 obtain⟨xs,rfl,h3⟩:=hasW_list h1
 obtain⟨ns,rfl⟩:=items_int h3
 have hlen:ns.length≤n:=by
  unfold OpenLaw.pre at hc
  have h4:(WTm.not (.lt (.lit (.int (n:Int))) (.len (.arg 0)))).holds [] {args:=[.list (ns.map .int)]}=true:=by
   have h4:=(holds_andW hc).1
   rw[hn] at h4
   exact h4
  have h5:=condW_of h4 (w_not (w_lt w_lit (w_len_list (w_arg rfl))))
  rw[List.length_map] at h5
  refine Nat.le_of_not_lt λq=> ?_
  have q':(n:Int)<((ns.length:Nat):Int):=by omega
  first
   |(rw[decide_eq_true q'] at h5;exact absurd h5 (by decide))
   |(simp at h5;omega)
 cases hwl with
 |cons w1 w2=>
  cases w2
  cases w1 with
  |list ho hall=>exact⟨_,_,ns,rfl,rfl,ho,ints_of_wellAll ns _ hall,hlen⟩
theorem post_true(l:OpenLaw)(args:List WData):l.row.toRowW.claim.post args (.bool true) args=true:=
 postW_of (r:=l.row.toRowW) (X:=(true==true))
  (show WShape.has [] (.bool true) .bool=true by first|rfl|decide|simp[WShape.has,WShape.arms,WShape.armsAll])
  (show(WTm.eq .res (.lit (.bool true))).value [] {args:=args,res:=some (.bool true),after:=args}=some (.bool (true==true)) from w_eq_bool (w_res rfl) w_lit) rfl
section
variable {prog:Program} {w:World} {A:Around} {E:Value→Shared→Prop} {s:Shared} {K:Frag}
end
end Att
namespace L2
open PySem PySem.Spec PyProof.Rows
theorem vals_ints: ∀{vs:List Value} {ns:List Int},IntsAre vs ns→Vals (ns.map V.int) vs
 |_,_,.nil=>.nil
 |_,_,.cons n t h=>.cons ⟨t,rfl⟩ (vals_ints h)
noncomputable def Only(H:Hp):Prop:= ∀b,H b=none∨∃o xs,H b=some (.frz o (.lst xs))
theorem law_call{P:Program}{w:World}{K:PySem.W.Frag}{mg mb:Str→Option Value}{CX:CXT}{k:Nat}{fa a:Addr}{fd:FuncData}{x:Str}{sp:Sp}{s₁:Shared}{vs:List Value}{ns:List Int}
  (KX:K.In s₁.heap) (hns:s₁.heap.Ns mainGlobals mg) (hb:s₁.heap.Ns builtinsNs mb) (hbb: ∀x:Str,x≠"__name__"→mb x=bootBuiltins x) (hlim:s₁.heap.NoLimit) (hg:s₁.gens= #[])
  (ha:s₁.heap.get? a=some {cls:=.type "list",data:=.seq vs.toArray}) (hi:IntsAre vs ns) (hl:ns.length≤sizeLine) (hr:Room k callerA)
  (F: ∀base:Heap,K.In base→base.Ns mainGlobals mg→FnOk P w K mg base CX k fa fd [x] sp) (hbind: ∀(s:Shared) (u:Value),BindsTo s fd ⟨[u],[]⟩ [(x,u)])
  (hsp: ∀H:Hp,Only H→SqL K H a (ns.map V.int)→sp [.ref a] H (λv _=>v=.bl true) λ_ _ _=>False)
  (hCX: ∀H e s',CX [] H s₁ (λ_ _ _=>False) e s'→False):
  codeAny (model P w) callerA (.call (.ref fa) ⟨[.ref a],[]⟩) (λr s'=>r=.ok (.ret (.bool true))∧OldK s₁.heap s'.heap∧s'.os=s₁.os∧AllBare s'.gens) s₁:=by
 have rv:=vals_ints hi
 have lenV:=hi.length
 -- from an abstract heap in which nothing but the script may be tracked
 have core: ∀H:Hp,Only H→SqL K H a (ns.map V.int)→HOk P w H s₁.heap→(∀b,H b≠none→b=a)→(H a≠none→K.lookup a=none)→
   codeAny (model P w) callerA (.call (.ref fa) ⟨[.ref a],[]⟩) (λr s'=>r=.ok (.ret (.bool true))∧OldK s₁.heap s'.heap∧s'.os=s₁.os∧AllBare s'.gens) s₁:=by
  intro H hO hS hok hA hK
  have base_of: ∀{b:Addr} {o:Obj},s₁.heap.get? b=some o→H b=none→(hidT s₁.heap H).get? b=some o:=λe n=>hidT_get e n
  have noA: ∀{b:Addr} {o:Obj} {es:Array DictEntry} {ep:Nat},s₁.heap.get? b=some o→o.data=.dict es ep→H b=none:=λ{b o es ep} e d=>by
   cases q:H b with
   |none=>rfl
   |some u=>
    have e':b=a:=hA b (by rw[q];simp)
    subst e'
    rw[ha] at e;cases e
    have d':Data.seq vs.toArray _=Data.dict es ep:=d
    cases d'
  have nsK: ∀{b:Addr} {m:Str→Option Value},s₁.heap.Ns b m→(hidT s₁.heap H).Ns b m:=λ{b m} ⟨o,es,ep,e,d,r⟩=>⟨o,es,ep,base_of e (noA e d),d,r⟩
  have hKb:K.In (hidT s₁.heap H):=λb o e=>base_of (KX b o e) (by
   cases q:H b with
   |none=>rfl
   |some u=>
    have e':b=a:=hA b (by rw[q];simp)
    subst e'
    rw[hK (by rw[q];simp)] at e;cases e)
  have hM:Mod K mg (hidT s₁.heap H):=⟨hKb,nsK hns,⟨mb,nsK hb,hbb⟩,let ⟨mc,h1,h2⟩:=hlim;⟨mc,nsK h1,h2⟩⟩
  have e0:Env0 P w K mg (hidT s₁.heap H) callerA [] s₁ H:=⟨rfl,hM,λb o e=>of_hidT e,Nat.le_of_eq (hidT_size _ _),trivial,λb hb=>absurd (show b∈([]:List Addr) from hb) (by simp),hok,.of_eq hg⟩
  refine codeAny_mono ((F _ hKb (nsK hns)).run callerA [] s₁ H ⟨[.ref a],[]⟩ [.ref a] [.ref a] _ _ hr e0 (hbind s₁ (.ref a)) (.cons rfl .nil) (hsp H hO hS)) λr s' h=> ?_
  cases r with
  |error e=>exact(hCX H e s' h).elim
  |ok fl=>
   cases fl with
   |next=>exact False.elim h
   |brk=>exact False.elim h
   |cont=>exact False.elim h
   |ret u=>
    obtain⟨v,H',os,bare,un,hok',r',q⟩:=h
    have q':v=.bl true:=q
    subst q'
    obtain rfl:u=Value.bool true:=r'
    refine⟨rfl,OldK.of_keep λb o e=> ?_,os,bare⟩
    cases q:H b with
    |none=>exact un.keep b o e q (by intro z;exact absurd (show b∈([]:List Addr) from z) (by simp)) (by simp)
    |some u=>
     rcases hO b with z|⟨ob,xs,z⟩
     ·rw[q] at z;cases z
     ·have z2:=un.frzs b ob _ z
      obtain⟨e1,_⟩:=hok b _ z
      obtain⟨e2,_⟩:=hok' b _ z2
      rw[e] at e1;cases e1
      exact e2
 cases hk:K.lookup a with
 |some o=>
  -- the script is one of the module's own objects
  have e:=KX a o hk
  rw[ha] at e
  cases e
  refine core (λ_=>none) (λ_=>.inl rfl) (.inr ⟨_,vs.toArray,_,hk,rfl,rfl,rfl,by rw[List.size_toArray,lenV];exact hl,by simpa using rv⟩) (λb u z=>by have z':(none:Option HO)=some u:=z;cases z') (λb z=>absurd rfl z) λz=>absurd rfl z
 |none=>
  refine core (λb=>if b=a then some (.frz {cls:=.type "list",data:=.seq vs.toArray} (.lst (ns.map V.int))) else none) (λb=> ?_) (.inl (.inr ⟨{cls:=.type "list",data:=.seq vs.toArray},if_pos rfl⟩)) (λb u z=> ?_) (λb z=> ?_) λ_=>hk
  ·by_cases hb:b=a
   ·exact .inr ⟨_,_,if_pos hb⟩
   ·exact .inl (if_neg hb)
  ·by_cases hb:b=a
   ·have z':=(if_pos hb).symm.trans z
    cases z'
    subst hb
    exact⟨ha,by rw[List.length_map];exact hl,vs,_,rv,ha⟩
   ·have z':=(if_neg hb).symm.trans z
    cases z'
  ·by_cases hb:b=a
   ·exact hb
   ·exact absurd (if_neg hb) z
end L2
namespace L2
open PySem PySem.Spec PyProof.Rows
end L2
namespace L2
open PySem PySem.Spec PyProof.Rows
noncomputable def defArgs(s:Stmt):Arguments:=match s with
 | .FunctionDef _ a _ _ _ _ _ _ _ _=>a
 |_=>{posonlyargs:=[],args:=[],vararg:=none,kwonlyargs:=[],kw_defaults:=[],kwarg:=none,defaults:=[]}
noncomputable def defBody(s:Stmt):List Stmt:=match s with
 | .FunctionDef _ _ b _ _ _ _ _ _ _=>b
 |_=>[]
noncomputable def defScope(s:Stmt):Scope:=match s with
 | .FunctionDef _ _ _ _ _ _ sc _ _ _=>sc
 |_=>{kind:=.function,names:=[],isGenerator:=false,isCoroutine:=false}
noncomputable abbrev CX0:CXT:=λ_ _ _ _ _ _=>False
noncomputable abbrev E0:XK:=λ_ _ _=>False
theorem pass0{X:Cx}:Passes CX0 X E0:=λ_ _ _ _ _ _ _ h=>h.elim
structure Fun(K:PySem.W.Frag)(x qual:Str)(st:Stmt)(f:Addr)(fd:FuncData):Prop where
 ex: ∃(oc:Value) (od:Option Addr) (kV doc pm:Value) (an:Option Addr) (cdv ct:Value) (osl:Array (Option Value)),
  fd=PySem.W.fnOf x qual (defArgs st) (defBody st) (defScope st) .none kV doc pm an cdv ct∧K.lookup f=some ⟨oc,od,.func fd,osl⟩∧PySem.W.codeIn K cdv qual=true
 kp:PySem.W.keepIn K (.ref f)=true
section
variable {P:Program} {w:World} {K:PySem.W.Frag} {mg:Str→Option Value} {base:Heap}
theorem Fun.ok{x qual:Str}{st:Stmt}{f:Addr}{fd:FuncData}{N ps:List Str}{k:Nat}{sp:Sp}(F:Fun K x qual st f fd)(S:FnScope N ps (defScope st))(len: ∀vs H Q E,sp vs H Q E→vs.length=ps.length)
  (hbody: ∀(cdv:Value) (A:Around) (outer:List Env) (s:Shared) (H:Hp) (vs:List V) (Q:VK) (E:XK),Room k (A.deeper (envOfC qual (defScope st) s.heap.objs.size f cdv))→sp vs H Q E→
   ∃t,PSs (cxOf CX0 P w K mg base N qual (defScope st) f cdv A outer s H E).nox (defBody st) t∧t {nx:=λ_ H'=>Q .non H',rt:=Q} (start N vs) H):FnOk P w K mg base CX0 (k+1) f fd ps sp:=by
 obtain⟨oc,od,kV,doc,pm,an,cdv,ct,osl,rfl,lk,hcd⟩:=F.ex
 refine fn_of lk hcd S len λA outer s H vs Q E hr hsp=> ?_
 obtain⟨t,h,q⟩:=hbody cdv A outer s H vs Q E hr hsp
 exact⟨t,h.nox,q⟩
theorem fun_mk{x qual:Str}{st:Stmt}{f:Addr}{oc:Value}{od an:Option Addr}{osl:Array (Option Value)}{kV doc pm cdv ct:Value}(l:K.lookup f=some ⟨oc,od,.func (PySem.W.fnOf x qual (defArgs st) (defBody st) (defScope st) .none kV doc pm an cdv ct),osl⟩)
  (c:PySem.W.codeIn K cdv qual=true) (k:PySem.W.keepIn K (.ref f)=true):Fun K x qual st f (PySem.W.fnOf x qual (defArgs st) (defBody st) (defScope st) .none kV doc pm an cdv ct):=⟨⟨oc,od,kV,doc,pm,an,cdv,ct,osl,rfl,l,c⟩,k⟩
end
section
variable {X:Cx}
theorem pv(i:Nat){x:Str}{pos:Pos}(hN:X.N[i]? =some x:=by rfl)(hv:Vis X.env.scope x:=by first|exact Or.inl rfl|exact Or.inr (Or.inl rfl)|exact Or.inr (Or.inr rfl))(hd:(x==("__debug__":Str))=false:=by decide)
  (hcd:(x==("__classdict__":Str))=false:=by decide):PE X (.Name x pos) (tVar i):=pe_var hN hv hd hcd
theorem call_lenD:CallR X (.builtin "len") (λxs H Q=> ∃a kvs,xs=[V.ref a]∧Rd H a (.dK kvs)∧Q (.int kvs.length) H):=by
 intro pins s σ H xs us Q I r h
 obtain⟨a,kvs,rfl,ha,q⟩:=h
 obtain⟨u,rfl,ru⟩:=vals1 r
 cases ru
 exact d_len I ha λt s' I'=>⟨.int kvs.length,H,I',⟨t,rfl⟩,q⟩
end
theorem iteF{A B:Prop}(h:B):if false=true then A else B:=by
 rw[if_neg Bool.false_ne_true]
 exact h
theorem iteT{A B:Prop}(h:A):if true=true then A else B:=by
 rw[if_pos rfl]
 exact h
noncomputable def Same(H H':Hp):Prop:= ∀b o,H b=some o→H' b=some o
theorem Same.refl(H:Hp):Same H H:=λ_ _ h=>h
theorem Same.trans{H H1 H2:Hp}(a:Same H H1)(b:Same H1 H2):Same H H2:=λc o h=>b c o (a c o h)
theorem Same.free{H H':Hp}(e:Same H H'){l:Addr}(h:H' l=Option.none):H l=Option.none:=by
 cases q:H l with
 |none=>rfl
 |some o=>
  rw[e l o q] at h
  cases h
theorem Same.seq{K:PySem.W.Frag}{H H':Hp}{a:Addr}{xs:List V}(e:Same H H')(h:SqL K H a xs):SqL K H' a xs:=by
 rcases h with(h|⟨o,h⟩)|h
 ·exact .inl (.inl (e _ _ h))
 ·exact .inl (.inr ⟨o,e _ _ h⟩)
 ·exact .inr h
section
variable {κ:Type} [DecidableEq κ]
end
end L2
set_option Elab.async false
set_option linter.all false
set_option maxRecDepth 100000
namespace L2
open PySem PySem.Spec PyProof.Rows
section
variable {X:Cx} {a b c:Expr} {ta tb tc:TE} {pos:Pos}
theorem pe_bty{x:Str}{T:String}(hg:Gl X x)(hm:X.mg x=none)(hv:bootBuiltins x=some (.type T))(hn:x≠"__name__":=by decide)(hd:(x==("__debug__":Str))=false:=by decide):PE X (.Name x pos) (tC (.ty T)):=
 pe_bltn hg hm hv rfl hn hd
noncomputable def rSlS:V→Option Int→Option Int→Hp→VK→Prop:=λx lo hi H Q=> ∃z,x=.str z∧z.length≤sizeLine∧Q (.str (Txt.slice z lo hi)) H
theorem part_of{v:Value}{o:Option Int}(p:IsPart v o): ∃q:Option (Int×Tok),v=partValue q∧q.map (·.1)=o:=by
 cases p with
 |none=>exact⟨none,rfl,rfl⟩
 |int i t=>exact⟨some (i,t),rfl,rfl⟩
theorem sl_post{z:Str}{t:Tok}{l u:Option (Int×Tok)}{Q:Value→Shared→Prop}{s:Shared}(hz:z.length≤sizeLine)(q: ∀t' k,Q (.str (Txt.slice z (l.map (·.1)) (u.map (·.1))) t') {s with toks:=k}):(sliceMade z t l u none).post Q s:=by
 have hl:=Nat.le_trans (Txt.slice_le z (l.map (·.1)) (u.map (·.1))) hz
 unfold sliceMade slicePicked
 unfold Txt.slice at q hl
 exact post_val_or_str ⟨hl,q⟩
theorem sl_str:SlR X rSlS:=by
 intro pins s σ H x v vl vu lo hi sl Q I rx hs pl pu h
 obtain⟨z,rfl,hz,q⟩:=h
 obtain⟨t,rfl⟩:=rx
 obtain⟨l,rfl,el⟩:=part_of pl
 obtain⟨u,rfl,eu⟩:=part_of pu
 obtain⟨o,ho,hc,hd⟩:=hs
 refine⟨"str",_,F.slot_str_getitem.lookup,typeIs_str _ _ _,wpAny_getItem_str_slice (l:=l) (u:=u) (st:=none) ⟨o,ho,hc,hd⟩ rfl ?_⟩
 refine sl_post hz λt' k=> ?_
 rw[el,eu]
 exact⟨.str (Txt.slice z lo hi),H,I.tok _,⟨t',rfl⟩,q⟩
theorem boolsAre_of{bs:List Bool}: ∀{us:List Value},Vals (bs.map V.bl) us→LSm.BoolsAre us bs:=by
 induction bs with
 |nil=>intro us r;rw[List.map_nil] at r;cases r;exact .nil
 |cons n ns ih=>
  intro us r
  rw[List.map_cons] at r
  cases r with
  |cons r1 r2=>
   cases (show _=Value.bool n from r1)
   exact .cons n (ih r2)
theorem call_all(hc:X.calm=true):CallR X (.builtin "all") (λxs H Q=> ∃(p:Addr) (bs:List Bool),xs=[.ref p]∧SqL X.K H p (bs.map V.bl)∧Q (.bl (bs.all id)) H):=by
 intro pins s σ H xs us Q I r h
 obtain⟨p,bs,rfl,hq,q⟩:=h
 obtain⟨u,rfl,rx⟩:=vals1 r
 cases rx
 obtain⟨its,rv,pl,hz⟩:=I.list hq
 have hb:=boolsAre_of rv
 have hl:=pl.isList
 have hlt:p<s.heap.objs.size:=by obtain⟨_,e,_⟩:=hl;exact Heap.lt_size e
 refine call_all_walk (wpAny_pyIter_list hl ?_)
 refine⟨s.heap.objs.size,[s.heap.objs.size,p],[s.heap.objs.size],its.toArray.size,_,_,λi=>(bs[i]?).getD true,rfl,Walks.list (A:=X.A.in1) (I.ok.hd hc) _ p (Nat.ne_of_lt hlt) its.toArray,
  ⟨⟨_,Heap.get?_push_size _ rfl,rfl,rfl⟩,hl.push _⟩,λi v s' Q' E' hP hQ=> ?_,λh' tk hk=> ?_⟩
 ·obtain⟨b,e,rfl⟩:=hb.get i v (by simpa using hP)
  simp only[e,Option.getD_some] at hQ
  exact wpAny_truthy_bool hQ
 ·have e:((List.range its.toArray.size).all λi=>(bs[i]?).getD true)=bs.all id:=by
   rw[List.size_toArray,hb.length];exact LSm.range_all bs
  rw[e]
  exact⟨.bl _,H,I.kept (LSm.kept_iter hk),rfl,q⟩
theorem call_any(hc:X.calm=true):CallR X (.builtin "any") (λxs H Q=> ∃(p:Addr) (bs:List Bool),xs=[.ref p]∧SqL X.K H p (bs.map V.bl)∧Q (.bl (bs.any id)) H):=by
 intro pins s σ H xs us Q I r h
 obtain⟨p,bs,rfl,hq,q⟩:=h
 obtain⟨u,rfl,rx⟩:=vals1 r
 cases rx
 obtain⟨its,rv,pl,hz⟩:=I.list hq
 have hb:=boolsAre_of rv
 have hl:=pl.isList
 have hlt:p<s.heap.objs.size:=by obtain⟨_,e,_⟩:=hl;exact Heap.lt_size e
 refine call_any_walk (wpAny_pyIter_list hl ?_)
 refine⟨s.heap.objs.size,[s.heap.objs.size,p],[s.heap.objs.size],its.toArray.size,_,_,λi=>(bs[i]?).getD false,rfl,Walks.list (A:=X.A.in1) (I.ok.hd hc) _ p (Nat.ne_of_lt hlt) its.toArray,
  ⟨⟨_,Heap.get?_push_size _ rfl,rfl,rfl⟩,hl.push _⟩,λi v s' Q' E' hP hQ=> ?_,λh' tk hk=> ?_⟩
 ·obtain⟨b,e,rfl⟩:=hb.get i v (by simpa using hP)
  simp only[e,Option.getD_some] at hQ
  exact wpAny_truthy_bool hQ
 ·have e:((List.range its.toArray.size).any λi=>(bs[i]?).getD false)=bs.any id:=by
   rw[List.size_toArray,hb.length];exact LSm.range_any bs
  rw[e]
  exact⟨.bl _,H,I.kept (LSm.kept_iter hk),rfl,q⟩
end
noncomputable def Its(x:Str):It:=⟨λi _=>i<x.cps.size,λi H v H'=>H'=H∧∃c,x.cps[i]? =some c∧v=.str ⟨#[c]⟩,λi _=>x.cps.size≤i⟩
theorem turn_strA{P:Program}{w:World}{K:PySem.W.Frag}{tg:Expr}(it:Addr)(x:Str)(t:Tok):Turn P w K tg (Its x) [it] it (λi h=>h.IsStrIter it "str_ascii_iterator" x t i) where
 mem:=by simp
 obj:=λi h st b hb=>by
  have e:b=it:=by simpa using hb
  subst e
  obtain⟨o,e,c,d⟩:=st
  exact⟨o,e,λv z=>by rw[d] at z;cases z⟩
 keep:=λi h h' st k=>let ⟨o,ho,r⟩:=st;⟨o,k it (by simp) o ho,r⟩
 item:=by
  intro X hP hw hK hc i pins s σ H E I hf st hg
  subst hP hw hK
  have hg:i<x.cps.size:=hg
  obtain⟨f0,f1,f2,f3,f4,f5⟩:=hf it (by simp)
  refine wpAny_pyNext_ascii_item st (c:=x.cps[i]) (by simp[hg]) λh' st' sb=> ?_
  have I1:Inv X pins σ H {s with heap:=h',toks:=s.toks+1}:=I.turned (λb o hb e=>(sb.2 b hb).trans e) f0 f1 f3 f4 f5
  obtain⟨o,e,c,d⟩:=id st'
  exact⟨_,rfl,go_of (s:={s with heap:=h',toks:=s.toks+1}) e c d (by decide) ⟨.str ⟨#[x.cps[i]]⟩,H,I1,⟨_,rfl⟩,⟨rfl,x.cps[i],by simp[hg],rfl⟩,st',λb hb=>(hf b hb).1⟩⟩
 done:=by
  intro X hP hw hK hc i pins s σ H E I hf st hg
  subst hP hw hK
  have hg:x.cps.size≤i:=hg
  obtain⟨f0,f1,f2,f3,f4,f5⟩:=hf it (by simp)
  exact wpAny_pyNext_ascii_end (I.ok.hd hc) st (by simp[hg]) λh' eb=>⟨rfl,I.turned (t':=s.toks) (λb o hb e=>eb b o hb e) f0 f1 f3 f4 f5⟩
 self:=λ_ _ _ _ _ st h=>wpAny_pyIter_striter_ascii st h
theorem turn_strW{P:Program}{w:World}{K:PySem.W.Frag}{tg:Expr}(it:Addr)(x:Str)(t:Tok):Turn P w K tg (Its x) [it] it (λi h=>h.IsStrIter it "str_iterator" x t i) where
 mem:=by simp
 obj:=λi h st b hb=>by
  have e:b=it:=by simpa using hb
  subst e
  obtain⟨o,e,c,d⟩:=st
  exact⟨o,e,λv z=>by rw[d] at z;cases z⟩
 keep:=λi h h' st k=>let ⟨o,ho,r⟩:=st;⟨o,k it (by simp) o ho,r⟩
 item:=by
  intro X hP hw hK hc i pins s σ H E I hf st hg
  subst hP hw hK
  have hg:i<x.cps.size:=hg
  obtain⟨f0,f1,f2,f3,f4,f5⟩:=hf it (by simp)
  refine wpAny_pyNext_wide_item st (c:=x.cps[i]) (by simp[hg]) λh' st' sb=> ?_
  have I1:Inv X pins σ H {s with heap:=h',toks:=s.toks+1}:=I.turned (λb o hb e=>(sb.2 b hb).trans e) f0 f1 f3 f4 f5
  obtain⟨o,e,c,d⟩:=id st'
  exact⟨_,rfl,go_of (s:={s with heap:=h',toks:=s.toks+1}) e c d (by decide) ⟨.str ⟨#[x.cps[i]]⟩,H,I1,⟨_,rfl⟩,⟨rfl,x.cps[i],by simp[hg],rfl⟩,st',λb hb=>(hf b hb).1⟩⟩
 done:=by
  intro X hP hw hK hc i pins s σ H E I hf st hg
  subst hP hw hK
  have hg:x.cps.size≤i:=hg
  obtain⟨f0,f1,f2,f3,f4,f5⟩:=hf it (by simp)
  exact wpAny_pyNext_wide_end (I.ok.hd hc) st (by simp[hg]) λh' eb=>⟨rfl,I.turned (t':=s.toks) (λb o hb e=>eb b o hb e) f0 f1 f3 f4 f5⟩
 self:=λ_ _ _ _ _ st h=>wpAny_pyIter_striter_wide st h
section
variable {X:Cx} {tg:Expr}
end
noncomputable def PF(X:Cx)(ifs:List Expr)(t:TT):Prop:=
 ∀(pins:List (Addr×Obj)) (s:Shared) (σ:St) (H:Hp) (Q:Bool→Hp→Prop),Inv X pins σ H s→t σ H Q→
  wpAny (model X.prog X.w) X.A (forIn ifs true λc r=>if r=true then do let ok←isTrue c X.env (eval c X.env);pure (ForInStep.yield ok) else pure (ForInStep.yield r)) (TP X pins σ Q) X.xe s
noncomputable def tYes:TT:=λ_ H Q=>Q true H
theorem pf_none{X:Cx}:PF X [] tYes:=λ_ _ _ H _ I h=>wpAny_pure ⟨H,I,h⟩
theorem pf_one{X:Cx}{c:Expr}{t:TT}(h:PT X c t):PF X [c] t:=by
 intro pins s σ H Q I q
 rw[List.forIn_cons]
 refine wpAny_bind ?_
 show wpAny (model X.prog X.w) X.A (isTrue c X.env (eval c X.env)>>=λok=>pure (ForInStep.yield ok)) _ _ s
 exact wpAny_bind (thn (h pins s σ H Q I q) λb s1 e=>wpAny_pure (wpAny_pure e))
noncomputable def pickS(pk:List (Option Nat))(σ:St):St:=pk.map λo=>o.bind λj=>(σ[j]?).getD none
noncomputable def compCx(X:Cx)(N:List Str)(scope:Scope)(cl:List (Str×Addr))(C:Addr)(s:Shared)(H:Hp)(ex:List Addr):Cx where
 prog:=X.prog
 w:=X.w
 K:=X.K
 mg:=X.mg
 base:=X.base
 A:=X.A
 N:=N
 s₀:=s
 H₀:=H
 env:=compEnvC scope cl C X.env
 outer:=X.stack
 stack:=X.stack
 ex:=ex
 fn:=λ_=>false
 calm:=X.calm
 pn:=[]
 xe:=λ_ _=>False
noncomputable def csOk(osc:Scope)(ON N:List Str)(pk:List (Option Nat))(scope:Scope):Bool:=
 (scope.kind== .function)&&(scope.names.all λy=> !(y.2== .cell))&&(scope.names.all λy=> !(y.2== .local)||(scope.names.lookup y.1==some .local))&&
 (scope.names.all λy=> !(y.2== .free)||(osc.names.lookup y.1==some .cell)||(osc.names.lookup y.1==some .free))&&(pk.length==N.length)&&
 ((N.zip pk).all λp=>match p.2 with
  |none=>true
  |some j=>(ON[j]? ==some p.1)&&(scope.names.lookup p.1==some .free)&&(scope.names.any λy=>y.1==p.1&&y.2== .free))
structure CScope(osc:Scope)(ON N:List Str)(pk:List (Option Nat))(scope:Scope):Prop where
 kind:scope.kind=.function
 nocell: ∀y∈scope.names,y.2≠.cell
 names: ∀y∈scope.names,y.2=.local→scope.names.lookup y.1=some .local
 frees: ∀y∈scope.names,y.2=.free→osc.names.lookup y.1=some .cell∨osc.names.lookup y.1=some .free
 len:pk.length=N.length
 pick: ∀(i j:Nat) (x:Str),N[i]? =some x→pk[i]? =some (some j)→ON[j]? =some x∧scope.names.lookup x=some .free∧(x,NameKind.free)∈scope.names
theorem cs_of{osc:Scope}{ON N:List Str}{pk:List (Option Nat)}{scope:Scope}(h:csOk osc ON N pk scope=true):CScope osc ON N pk scope:=by
 unfold csOk at h
 simp only[Bool.and_eq_true] at h
 obtain⟨⟨⟨⟨⟨h1,h2⟩,h3⟩,h4⟩,h5⟩,h6⟩:=h
 refine⟨by simpa using h1,λy hy e=> ?_,λy hy e=> ?_,λy hy e=> ?_,by simpa using h5,λi j x e1 e2=> ?_⟩
 ·have:=List.all_eq_true.mp h2 y hy
  rw[e] at this
  exact absurd this (by decide)
 ·have:=List.all_eq_true.mp h3 y hy
  rw[e] at this
  simpa using this
 ·have:=List.all_eq_true.mp h4 y hy
  rw[e] at this
  simpa using this
 ·have hm:(x,some j)∈N.zip pk:=by
   refine List.mem_of_getElem? (i:=i) ?_
   rw[List.getElem?_zip_eq_some]
   exact⟨e1,e2⟩
  have:=List.all_eq_true.mp h6 _ hm
  simp only[Bool.and_eq_true,beq_iff_eq,List.any_eq_true] at this
  obtain⟨⟨a,b⟩,y,hy,c,d⟩:=this
  refine⟨a,b,?_⟩
  obtain⟨y1,y2⟩:=y
  subst c d
  exact hy
noncomputable def compBody(pk:List (Option Nat))(g:TG)(tc:TT)(te:TE)(σ:St)(Q:VK)(J:It)(H1:Hp):Prop:= ∀l,H1 l=none→
 ∃W:Nat→Nat→List V→St→Hp→Prop,(∃m,W 0 m [] (pickS pk σ) (upd H1 l (.lst [])))∧∀i m ys τ H2,W i m ys τ H2→
  (J.stop i H2∧Q (.ref l) H2)∨(J.go i H2∧∀x H3,J.yld i H2 x H3→g x τ H3 λτ4 H4=>tc τ4 H4 λb H5=>
   if b=true then te τ4 H5 λy H6=>H6 l=some (.lst ys)∧ys.length<sizeLine∧∃m',m'<m∧W (i+1) m' (ys++[y]) τ4 (upd H6 l (.lst (ys++[y])))
   else∃m',m'<m∧W (i+1) m' ys τ4 H5)
noncomputable def tComp(pk:List (Option Nat))(wi:TI)(g:TG)(tc:TT)(te:TE):TE:=λσ H Q=>wi σ H (compBody pk g tc te σ Q)
theorem closure_of{env:Env}: ∀(names:List (Str×NameKind)) (acc:List (Str×Addr)),(∀y∈names,y.2=.free→∃c,env.cells.lookup y.1=some c)→
  ∃cl,(forIn names acc λ(x:Str×NameKind) (r:List (Str×Addr))=>(if (x.2==NameKind.free)=true then(do let __do_lift←cellOf env x.1;pure (ForInStep.yield ((x.1,__do_lift)::r))) else pure (ForInStep.yield r):Sem _))=(pure cl:Sem _)∧
   (∀x c,cl.lookup x=some c→env.cells.lookup x=some c∨acc.lookup x=some c)∧(∀y∈names,y.2=.free→∃c,cl.lookup y.1=some c)∧(∀x c,acc.lookup x=some c→∃c',cl.lookup x=some c')
 |[],acc,_=>⟨acc,rfl,λx c h=>.inr h,(λy hy=>nomatch hy),λx c h=>⟨c,h⟩⟩
 |(n,k)::r,acc,h=>by
  by_cases hk:k=.free
  ·subst hk
   obtain⟨c,hc⟩:=h (n,.free) List.mem_cons_self rfl
   obtain⟨cl,e,h1,h2,h3⟩:=closure_of (env:=env) r ((n,c)::acc) λy hy hf=>h y (List.mem_cons_of_mem _ hy) hf
   refine⟨cl,?_,λx d hx=> ?_,λy hy hf=> ?_,λx d hx=> ?_⟩
   ·rw[List.forIn_cons,←e]
    have e2:cellOf env n=pure c:=by unfold cellOf;rw[hc]
    simp only[beq_self_eq_true,if_true,e2]
    rfl
   ·rcases h1 x d hx with z|z
    ·exact .inl z
    ·by_cases hxn:x=n
     ·subst hxn
      rw[List.lookup_cons] at z
      simp at z
      subst z
      exact .inl hc
     ·rw[List.lookup_cons] at z
      have:(x==n)=false:=by simpa using hxn
      rw[this] at z
      exact .inr z
   ·rcases List.mem_cons.mp hy with z|z
    ·subst z
     exact h3 n c (by rw[List.lookup_cons];simp)
    ·exact h2 y z hf
   ·by_cases hxn:x=n
    ·subst hxn
     exact h3 x c (by rw[List.lookup_cons];simp)
    ·refine h3 x d ?_
     rw[List.lookup_cons]
     have:(x==n)=false:=by simpa using hxn
     rw[this]
     exact hx
  ·obtain⟨cl,e,h1,h2,h3⟩:=closure_of (env:=env) r acc λy hy hf=>h y (List.mem_cons_of_mem _ hy) hf
   refine⟨cl,?_,h1,λy hy hf=> ?_,h3⟩
   ·rw[List.forIn_cons,←e]
    have:(k==NameKind.free)=false:=by simpa using hk
    simp only[this,Bool.false_eq_true,if_false]
    rfl
   ·rcases List.mem_cons.mp hy with z|z
    ·subst z
     exact absurd hf hk
    ·exact h2 y z hf
theorem closureFor_of{env:Env}{scope:Scope}(h: ∀y∈scope.names,y.2=.free→∃c,env.cells.lookup y.1=some c):
  ∃cl,closureFor scope env=pure cl∧(∀x c,cl.lookup x=some c→env.cells.lookup x=some c)∧(∀y∈scope.names,y.2=.free→∃c,cl.lookup y.1=some c):=by
 obtain⟨cl,e,h1,h2,_⟩:=closure_of (env:=env) scope.names [] h
 refine⟨cl,?_,(λx c hx=>(h1 x c hx).elim id (λz=>nomatch z)),h2⟩
 unfold closureFor
 have e':(forIn scope.names ([]:List (Str×Addr)) λ(x:Str×NameKind) (r:List (Str×Addr))=>(match x with |(name,kind)=>if (kind==NameKind.free)=true then(do let __do_lift←cellOf env name;pure (ForInStep.yield ((name,__do_lift)::r))) else pure (ForInStep.yield r):Sem _))=(pure cl:Sem _):=e
 simp only[e',pure_bind]
section
variable {prog:Program} {w:World} {A:Around} {R:Result→Shared→Prop} {s:Shared}
theorem compLoop_any{elt target iter:Expr}{ifs:List Expr}{scope:Scope}{pos:Pos}{it acc:Value}{env:Env}(I:Nat→Shared→Prop)
  (turn: ∀n s,I n s→wpAny (model prog w) A (pyNext it) (λr s₁=>match r with
   |none=>R (.ok .next) s₁
   |some v=>wpAny (model prog w) A (letOwnedTupleGo target it v) (λ_ s₁'=>wpAny (model prog w) A (assign target env v) (λ_ s₂=>
     wpAny (model prog w) A (forIn ifs true λc r=>if r=true then do let ok←isTrue c env (eval c env);pure (ForInStep.yield ok) else pure (ForInStep.yield r)) (λok s₃=>
      if ok=true then wpAny (model prog w) A (eval elt env) (λx s₄=>
       wpAny (model prog w) A (call (.builtin "list.append") [acc,x]) (λ_ s₅=> ∃m,m<n∧I m s₅) (λ_ _=>False) s₄) (λ_ _=>False) s₃
      else∃m,m<n∧I m s₃) (λ_ _=>False) s₂) (λ_ _=>False) s₁') (λ_ _=>False) s₁) (λ_ _=>False) s)
  (n:Nat) (h:I n s):
  codeAny (model prog w) A (.compLoop (.ListComp elt [⟨target,iter,ifs,0⟩] scope pos) 0 it acc env) R s:=by
 refine codeAny_loop rfl I (λn s hI=> ?_) n h
 show wpAny _ A ((compTurn (.ListComp elt [⟨target,iter,ifs,0⟩] scope pos) 0 it acc env).onRaise (λx=>do noteFrame x env;theTreesLotGoes x)) _ _ s
 refine wpAny_noted ?_
 rw[compTurn_list]
 refine wpAny_bind (wpAny_standAt (wpAny_bind (wpAny_mono (turn n s hI) (λr s₁ h₁=> ?_) λ_ _ h'=>h'.elim)))
 cases r with
 |none=>exact wpAny_pure h₁
 |some v=>
  refine wpAny_bind (wpAny_mono h₁ (λ_ s₁' h₁'=> ?_) λ_ _ h'=>h'.elim)
  refine wpAny_bind (wpAny_mono h₁' (λ_ s₂ h₂=>wpAny_bind (wpAny_mono h₂ (λok s₃ h₃=> ?_) λ_ _ h'=>h'.elim)) λ_ _ h'=>h'.elim)
  cases ok with
  |false=>exact wpAny_pure ⟨rfl,h₃⟩
  |true=>
   exact wpAny_bind (wpAny_bind (wpAny_mono h₃ (λx s₄ h₄=>wpAny_bind (wpAny_mono h₄ (λ_ s₅ h₅=>wpAny_pure (wpAny_pure ⟨rfl,h₅⟩)) λ_ _ h'=>h'.elim)) λ_ _ h'=>h'.elim))
end
section
variable {X:Cx} {pins:List (Addr×Obj)} {σ:St} {H:Hp} {s:Shared} {N:List Str} {pk:List (Option Nat)} {scope:Scope} {cl:List (Str×Addr)}
theorem relabel_free{env:Env}: ∀{names:List (Str×NameKind)} {x:Str},names.lookup x=some .free→
  (names.map λ(n,k)=>if (k==NameKind.free&&env.scope.kind== .function&&env.kindOf n==some .cell) then(n,NameKind.cell) else(n,k)).lookup x=some .cell∨
  (names.map λ(n,k)=>if (k==NameKind.free&&env.scope.kind== .function&&env.kindOf n==some .cell) then(n,NameKind.cell) else(n,k)).lookup x=some .free
 |[],_,h=>by simp at h
 |(n,k)::r,x,h=>by
  have ih:= @relabel_free env r x
  simp only[List.map_cons]
  cases hx:x==n with
  |true=>
   simp only[List.lookup_cons,hx] at h
   cases h
   split<;>simp[List.lookup_cons,hx]
  |false=>
   simp only[List.lookup_cons,hx] at h
   split<;>(simp only[List.lookup_cons,hx];exact ih h)
theorem relabel_back{env:Env}: ∀{names:List (Str×NameKind)} {x:Str},(∀y∈names,y.2≠.cell)→
  ((names.map λ(n,k)=>if (k==NameKind.free&&env.scope.kind== .function&&env.kindOf n==some .cell) then(n,NameKind.cell) else(n,k)).lookup x=some .cell∨
  (names.map λ(n,k)=>if (k==NameKind.free&&env.scope.kind== .function&&env.kindOf n==some .cell) then(n,NameKind.cell) else(n,k)).lookup x=some .free)→(x,NameKind.free)∈names
 |[],_,_,h=>by simp at h
 |(n,k)::r,x,hc,h=>by
  have ih:= @relabel_back env r x λy hy=>hc y (List.mem_cons_of_mem _ hy)
  have hk:=hc (n,k) List.mem_cons_self
  simp only[List.map_cons] at h
  cases hx:x==n with
  |true=>
   have e:x=n:=by simpa using hx
   subst e
   split at h
   ·rename_i z
    simp only[Bool.and_eq_true,beq_iff_eq] at z
    rw[z.1.1]
    exact List.mem_cons_self
   ·simp only[List.lookup_cons,hx] at h
    rcases h with z|z
    ·injection z with z
     exact absurd z hk
    ·injection z with z
     subst z
     exact List.mem_cons_self
  |false=>
   refine List.mem_cons_of_mem _ (ih ?_)
   split at h<;>(simp only[List.lookup_cons,hx] at h;exact h)
theorem comp_inv{ex:List Addr}{h1:Heap}{tk:Nat}(S:CScope X.env.scope X.N N pk scope)(I:Inv X pins σ H s)(hc1: ∀x c,cl.lookup x=some c→X.env.cells.lookup x=some c)(hc2: ∀y∈scope.names,y.2=.free→∃c,cl.lookup y.1=some c)
  (hf: ∀b∈ex,FpOk X pins H b∧b<s.heap.objs.size) (hn:h1.Ns s.heap.objs.size λ_=>none) (hk: ∀b o,s.heap.get? b=some o→h1.get? b=some o):
  Inv (compCx X N scope cl s.heap.objs.size s H ex) [] (pickS pk σ) H {s with heap:=h1,toks:=tk}:=by
 have has: ∀x,((compEnvC scope cl s.heap.objs.size X.env).kindOf x=some .cell∨(compEnvC scope cl s.heap.objs.size X.env).kindOf x=some .free)→∃c,cl.lookup x=some c:=λx hx=>hc2 (x,.free) (relabel_back S.nocell hx) rfl
 have exne: ∀b∈ex,b≠s.heap.objs.size:=λb hb=>Nat.ne_of_lt (hf b hb).2
 refine⟨⟨I.ok.mod,S.kind,I.ok.glob,I.ok.blt,Nat.le_refl _,λx y c e1 e2=>I.ok.inj x y c (hc1 x c e1) (hc1 y c e2),has,(λx c e=>nomatch e),I.ok.hd,I.ok.frames,.inl rfl,
   λb hb=>⟨exne b hb,λx c e=>(hf b hb).1.2.2.2.2.1 x c (hc1 x c e)⟩,I.bs,Nat.le_trans I.ok.bsz I.sz,λb o e hb=> ?_,λb hb z=> ?_,I.stack,I.stkFree⟩,
  rfl,I.bare,Un.kept hk,⟨_,hn,λi x v e1 e2 e3=> ?_⟩,λx c e=> ?_,I.hok.fresh (Nat.le_refl _),λx c e=>I.freeC x c (hc1 x c e),λp hp=>absurd (show p∈([]:List (Addr×Obj)) from hp) (by simp),I.hok.kept hk,?_⟩
 ·rcases(hf b hb).1.2.2.2.1 with z|z
  ·exact I.ok.noex b o e z
  ·exact absurd (Nat.lt_of_lt_of_le (Heap.lt_size (I.ok.bs b o e).1) z) (Nat.lt_irrefl _)
 ·rcases List.mem_cons.mp (I.stkSub b z) with q|q
  ·exact(hf b hb).1.2.1 q
  ·exact(hf b hb).1.2.2.1 q
 ·have e2':(pickS pk σ)[i]? =some (some v):=e2
  unfold pickS at e2'
  rw[List.getElem?_map] at e2'
  cases hp:pk[i]? with
  |none=>rw[hp] at e2';cases e2'
  |some o=>
   rw[hp] at e2'
   cases o with
   |none=>cases e2'
   |some j=>
    have e4:(σ[j]?).getD none=some v:=by simpa using e2'
    have e5:σ[j]? =some (some v):=by
     cases hs:σ[j]? with
     |none=>rw[hs] at e4;cases e4
     |some q=>rw[hs] at e4;simp at e4;rw[e4]
    obtain⟨q1,q2,q3⟩:=S.pick i j x e1 hp
    have kind:X.env.kindOf x=some .cell∨X.env.kindOf x=some .free:=S.frees (x,.free) q3 rfl
    obtain⟨m,hm,hl⟩:=I.loc
    obtain⟨u,r,l⟩:=hl j x v q1 e5 (.inr kind)
    refine⟨u,r,.inr ⟨relabel_free q2,?_⟩⟩
    rcases l with⟨hk',_⟩|⟨_,c,hc,hcell⟩
    ·rw[hk'] at kind
     rcases kind with z|z<;>cases z
    ·obtain⟨c',e6⟩:=hc2 (x,.free) q3 rfl
     have e7:=hc1 x c' e6
     rw[hc] at e7
     cases e7
     exact⟨c,e6,hcell.keeps hk⟩
 ·obtain⟨v,z⟩:=I.cell x c (hc1 x c e)
  exact⟨v,z.keeps hk⟩
 ·show(pickS pk σ).length=N.length
  unfold pickS
  rw[List.length_map]
  exact S.len
theorem comp_end{ex:List Addr}{τ:St}{H':Hp}{s':Shared}{h2:Heap}{Q:VK}{l:Addr}(I:Inv X pins σ H s)(hf: ∀b∈ex,FpOk X pins H b∧b<s.heap.objs.size)
  (J:Inv (compCx X N scope cl s.heap.objs.size s H ex) [] τ H' s') (hs:Heap.SameBut s.heap.objs.size s'.heap h2) (q:Q (.ref l) H'):EP X pins σ Q (.ref l) {s' with heap:=h2}:=by
 have hC:H' s.heap.objs.size=none:=J.free
 have ne: ∀b o,s.heap.get? b=some o→b≠s.heap.objs.size:=λb o e=>Nat.ne_of_lt (Heap.lt_size e)
 have kp: ∀b o,b≠s.heap.objs.size→s'.heap.get? b=some o→h2.get? b=some o:=λb o hb e=>hs.extBut b o hb e
 have u0:Un (frs X.stack) ex H H' s.heap s'.heap:=J.base
 have u:Un (frs X.stack) ex H H' s.heap h2:=
  ⟨λb o e n hb hx=>kp b o (ne b o e) (u0.keep b o e n hb hx),λb o e n hb hx=>by
    obtain⟨sl,z⟩:=u0.slot b o e n hb hx
    exact⟨sl,kp b _ (ne b o e) z⟩,u0.free,λb o e hx=>by
    obtain⟨o',z⟩:=u0.there b o e hx
    exact⟨o',kp b _ (ne b o e) z⟩,u0.tups,u0.frzs,u0.tbls⟩
 have hok:HOk X.prog X.w H' h2:=λa o e=>(J.hok a o e).stay (λb v hb z=>kp b v (λy=>by
   rcases hb with hb|hb
   ·rw[←hb,y,hC] at e;cases e
   ·rw[y,hC] at hb;cases hb) z) (λ_ z=>z) λ_ _ z=>z
 have I2:Inv X pins σ H' {s' with heap:=h2}:=I.call' (s':={s' with heap:=h2}) (ch:=ex) J.os u hok J.bare λb hb=>⟨(hf b hb).1.2.2.2.1,(hf b hb).1.2.1,(hf b hb).1.2.2.2.2.1,(hf b hb).1.2.2.2.2.2⟩
 exact⟨.ref l,H',I2,rfl,q⟩
end
theorem pe_comp{X:Cx}{elt iter tg:Expr}{ifs:List Expr}{scope:Scope}{pos:Pos}{N:List Str}{pk:List (Option Nat)}{wi:TI}{g:TG}{tc:TT}{te:TE}(hc:X.calm=true)(S0:csOk X.env.scope X.N N pk scope=true)(hi:PI X tg iter wi)
  (hg: ∀cl C s H ex,PG (compCx X N scope cl C s H ex) tg g) (hif: ∀cl C s H ex,PF (compCx X N scope cl C s H ex) ifs tc) (he: ∀cl C s H ex,PE (compCx X N scope cl C s H ex) elt te)
  (hs: ∀x,foldedSetIterable iter X.env x=pure x:=by intro _;rfl):PE X (.ListComp elt [⟨tg,iter,ifs,0⟩] scope pos) (tComp pk wi g tc te):=by
 intro pins s σ H Q I h
 have S:=cs_of S0
 obtain⟨cl,hcl,hc1,hc2⟩:=closureFor_of (env:=X.env) (scope:=scope) λy hy hf=>I.ok.has y.1 (S.frees y hy hf)
 rw[eval_ListComp]
 refine wpAny_comprehension_free (use:=none) rfl hs hcl S.kind S.names (thn (hi pins s σ H _ I h) λv s1 h1=>thn h1 λitv s2 h2=> ?_)
 obtain⟨it,fp,tn,J,H2,e,I2,T,st2,f2,hq⟩:=h2
 subst e
 have hl:H2 s2.heap.objs.size=none:=I2.hok.fresh (Nat.le_refl _)
 obtain⟨W,⟨m0,w0⟩,turn⟩:=hq s2.heap.objs.size hl
 have I3:Inv X pins σ (upd H2 s2.heap.objs.size (.lst [])) {s2 with heap:=s2.heap.push {cls:=.type "list",dict:=none,data:=.seq ([]:List Value).toArray}}:=
  I2.laid (t':=s2.toks) (λb o e=>Heap.get?_push_of_some _ e) (Nat.le_refl _) ⟨Nat.zero_le _,[],0,.nil,Heap.get?_push_size _ rfl⟩
 have hf3: ∀b∈fp,FpOk X pins (upd H2 s2.heap.objs.size (.lst [])) b∧b<(s2.heap.push {cls:=.type "list",dict:=none,data:=.seq ([]:List Value).toArray}).objs.size:=λb hb=>by
  obtain⟨o,e,_⟩:=T.obj 0 _ st2 b hb
  have hlt:=Heap.lt_size e
  refine⟨⟨by rw[upd_ne (Nat.ne_of_lt hlt)];exact(f2 b hb).1,(f2 b hb).2⟩,?_⟩
  rw[Heap.size_push]
  exact Nat.lt_succ_of_lt hlt
 have hold: ∀b o,s2.heap.get? b=some o→(s2.heap.push {cls:=.type "list",dict:=none,data:=.seq ([]:List Value).toArray}).get? b=some o:=λb o e=>Heap.get?_push_of_some _ e
 refine wpAny_newObj_type ?_
 show wpAny (model X.prog X.w) X.A _ _ _ {s2 with heap:=s2.heap.push {cls:=.type "list",dict:=none,data:=.seq ([]:List Value).toArray}}
 generalize hS:({s2 with heap:=s2.heap.push {cls:=.type "list",dict:=none,data:=.seq ([]:List Value).toArray}}:Shared)=s3 at I3⊢
 have hh3:s2.heap.push {cls:=.type "list",dict:=none,data:=.seq ([]:List Value).toArray}=s3.heap:=by rw[←hS]
 rw[hh3] at hf3 hold
 refine wpAny_newFunctionEnv S.nocell (by intro y hy;simp at hy) (λh₁ hns₁ hsb₁=> ?_) S.kind
 have hk1: ∀b o,s3.heap.get? b=some o→h₁.get? b=some o:=λb o e=>hsb₁.extBut b o (Nat.ne_of_lt (Heap.lt_size e)) (Heap.get?_push_of_some _ e)
 have I4:=comp_inv (N:=N) (pk:=pk) (cl:=cl) (ex:=fp) (h1:=h₁) (tk:=s3.toks+([]:List (Str×Value)).length) S I3 hc1 hc2 hf3 hns₁ hk1
 have st4:tn 0 h₁:=T.keep 0 _ _ st2 λb _ o e=>hk1 b o (hold b o e)
 have loop:codeAny (model X.prog X.w) X.A (.compLoop (.ListComp elt [⟨tg,iter,ifs,0⟩] scope pos) 0 (.ref it) (.ref s2.heap.objs.size) (compEnvC scope cl s3.heap.objs.size X.env))
   (compPost (model X.prog X.w) X.A X.xe none (EP X pins σ Q) (.ref s2.heap.objs.size) s3.heap.objs.size) {s3 with heap:=h₁,toks:=s3.toks+([]:List (Str×Value)).length}:=by
  refine compLoop_any (λn s'=> ∃i ys τ H',Inv (compCx X N scope cl s3.heap.objs.size s3 (upd H2 s2.heap.objs.size (.lst [])) fp) [] τ H' s'∧tn i s'.heap∧(∀b∈fp,H' b=none)∧W i n ys τ H') ?_ m0
   ⟨0,[],_,_,I4,st4,λb hb=>(hf3 b hb).1.1,w0⟩
  rintro n s5 ⟨i,ys,τ,H5,I5,st5,fr5,w5⟩
  have stat: ∀{H':Hp},(∀b∈fp,H' b=none)→∀b∈fp,FpOk (compCx X N scope cl s3.heap.objs.size s3 (upd H2 s2.heap.objs.size (.lst [])) fp) [] H' b:=λhn b hb=>
   ⟨hn b hb,Nat.ne_of_lt (hf3 b hb).2,I5.ok.exfs b hb,.inl hb,λx c e=>(I5.ok.exf b hb).2 x c e,λp hp=>absurd (show p∈([]:List (Addr×Obj)) from hp) (by simp)⟩
  rcases turn i n ys τ H5 w5 with⟨stop,q⟩|⟨go,step⟩
  ·refine thn (T.done (compCx X N scope cl s3.heap.objs.size s3 (upd H2 s2.heap.objs.size (.lst [])) fp) rfl rfl rfl hc i [] s5 τ H5 (λ_ _=>False) I5 (stat fr5) st5 stop) λr s6 ⟨hr,I6⟩=> ?_
   subst hr
   obtain⟨m,hm,_⟩:=id I6.loc
   exact⟨m,hm,λh' sb=>comp_end I3 hf3 I6 sb q⟩
  ·refine thn (T.item (compCx X N scope cl s3.heap.objs.size s3 (upd H2 s2.heap.objs.size (.lst [])) fp) rfl rfl rfl hc i [] s5 τ H5 (λ_ _=>False) I5 (stat fr5) st5 go) λr s6 ⟨u,hr,h6⟩=> ?_
   subst hr
   refine thn h6 λ_ s7 ⟨x,H7,I7,r7,y7,st7,fr7⟩=> ?_
   have I7':=I7.pinned (stat fr7) (T.obj _ _ st7)
   have again: ∀{m':Nat} {ys':List V} {τ':St} {H':Hp} {s':Shared},Inv (compCx X N scope cl s3.heap.objs.size s3 (upd H2 s2.heap.objs.size (.lst [])) fp) ([]++pinsAt fp s7.heap) τ' H' s'→m'<n→W (i+1) m' ys' τ' H'→
     ∃m,m<n∧∃i ys τ H',Inv (compCx X N scope cl s3.heap.objs.size s3 (upd H2 s2.heap.objs.size (.lst [])) fp) [] τ H' s'∧tn i s'.heap∧(∀b∈fp,H' b=none)∧W i m ys τ H':=λ{m' ys' τ' H' s'} I8 hm w8=>by
    refine⟨m',hm,i+1,ys',τ',H',I8.unpinned,T.keep _ _ _ st7 λb hb o e=>(I8.pin (b,o) (List.mem_append_right _ (List.mem_append_right _ (mem_pinsAt hb e)))).1,λb hb=> ?_,w8⟩
    obtain⟨o,e,d⟩:=T.obj _ _ st7 b hb
    exact(I8.pin (b,o) (List.mem_append_right _ (List.mem_append_right _ (mem_pinsAt hb e)))).2.1
   refine thn (hg _ _ _ _ _ _ s7 τ H7 x u _ I7' r7 (step x H7 y7)) λ_ s8 ⟨τ8,H8,I8,q8⟩=> ?_
   refine thn (hif _ _ _ _ _ _ s8 τ8 H8 _ I8 q8) λok s9 ⟨H9,I9,q9⟩=> ?_
   cases ok with
   |true=>
    rw[if_pos rfl] at q9⊢
    refine thn (he _ _ _ _ _ _ s9 τ8 H9 _ I9 q9) λy s10 ⟨yv,H10,I10,r10,hl10,hz,m',hm',w'⟩=> ?_
    refine thn (mt_append _ s10 τ8 H10 (.ref s2.heap.objs.size) [yv] (.ref s2.heap.objs.size) [y] (λ_ H11=>H11=upd H10 s2.heap.objs.size (.lst (ys++[yv]))) I10 rfl (.cons r10 .nil) ⟨_,ys,yv,rfl,rfl,hl10,hz,rfl⟩) λ_ s11 ⟨z,H11,I11,_,eq⟩=> ?_
    subst eq
    exact again I11 hm' w'
   |false=>
    rw[if_neg (by decide)] at q9⊢
    obtain⟨m',hm',w'⟩:=q9
    exact again I9 hm' w'
 exact codeAny_compStart_list loop (T.self _ 0 _ _ _ st4 loop)
end L2
set_option Elab.async false
set_option linter.all false
set_option maxRecDepth 100000
namespace L2
open PySem PySem.Spec PyProof.Rows
noncomputable abbrev XO(p C:Addr)(dx:Option Addr)(fr:Bool):HO:=.ext λh=> ∃oe vs,h.get? p=some oe∧oe.cls=.ref C∧oe.dict=dx∧oe.data=.fields vs∧(fr=true→1<vs.size∧vs[1]? =some .none)
inductive T where
 |non
 |bl (b:Bool)
 |int (i:Int)
 |str (x:Str)
 |lst (ts:List T)
 |tup (ts:List T)
 |scr (ns:List Int)
 |dic (kvs:List (Key×T))
 |dit (kvs:List (List Key×T))
 |raw (v:V)
 |exc (C:Str) (fs:List (Str×T))
noncomputable def T.flat:T→Bool
 | .non=>true
 | .bl _=>true
 | .int _=>true
 | .str _=>true
 |_=>false
mutual
inductive Rep(K:PySem.W.Frag)(F:Hp):V→T→Prop where
 |non:Rep K F .non .non
 |bl (b:Bool):Rep K F (.bl b) (.bl b)
 |int (i:Int):Rep K F (.int i) (.int i)
 |str (x:Str):Rep K F (.str x) (.str x)
 |raw (v:V):Rep K F v (.raw v)
 |lst {p:Addr} {vs:List V} {ts:List T}:F p=some (.lst vs)→Reps K F vs ts→Rep K F (.ref p) (.lst ts)
 |tup {p:Addr} {vs:List V} {ts:List T}:SqT K F p vs→Reps K F vs ts→Rep K F (.ref p) (.tup ts)
 |scr {p:Addr} {ns:List Int}:SqL K F p (ns.map V.int)→Rep K F (.ref p) (.scr ns)
 |dic {p:Addr} {kvs:List (Key×V)} {kts:List (Key×T)}:Rd F p (.dK kvs)→kvs.map (·.1)=kts.map (·.1)→Reps K F (kvs.map (·.2)) (kts.map (·.2))→Rep K F (.ref p) (.dic kts)
 |dit {p:Addr} {kvs:List (List Key×V)} {kts:List (List Key×T)}:Rd F p (.dT kvs)→kvs.map (·.1)=kts.map (·.1)→Reps K F (kvs.map (·.2)) (kts.map (·.2))→Rep K F (.ref p) (.dit kts)
 |exc0 {p Ca:Addr} {dx:Option Addr} {C:Str}:PySem.W.nsIn K mainGlobals C=some (some (.ref Ca))→F p=some (XO p Ca dx false)→Rep K F (.ref p) (.exc C [])
 |exc {p Ca d:Addr} {C:Str} {vs:List (Str×V)} {fs:List (Str×T)}:PySem.W.nsIn K mainGlobals C=some (some (.ref Ca))→F p=some (XO p Ca (some d) false)→F d=some (.xd vs)→vs.map (·.1)=fs.map (·.1)→Reps K F (vs.map (·.2)) (fs.map (·.2))→Rep K F (.ref p) (.exc C fs)
inductive Reps(K:PySem.W.Frag)(F:Hp):List V→List T→Prop where
 |nil:Reps K F [] []
 |cons {v:V} {t:T} {vs:List V} {ts:List T}:Rep K F v t→Reps K F vs ts→Reps K F (v::vs) (t::ts)
end
theorem Rd.same{H H':Hp}{a:Addr}{u:HO}(r:Rd H a u)(e:Same H H'):Rd H' a u:=by
 rcases r with r|⟨o,r⟩
 ·exact .inl (e _ _ r)
 ·exact .inr ⟨o,e _ _ r⟩
theorem Same.tupS{K:PySem.W.Frag}{H H':Hp}{a:Addr}{xs:List V}(e:Same H H')(h:SqT K H a xs):SqT K H' a xs:=by
 rcases h with(h|⟨o,h⟩)|h
 ·exact .inl (.inl (e _ _ h))
 ·exact .inl (.inr ⟨o,e _ _ h⟩)
 ·exact .inr h
section
variable {K:PySem.W.Frag} {F F' H H':Hp} {v:V} {t:T} {vs:List V} {ts:List T}
theorem Rep.mono(e:Same F F')(r:Rep K F v t):Rep K F' v t:=by
 refine Rep.rec (motive_1:=λv t _=>Rep K F' v t) (motive_2:=λvs ts _=>Reps K F' vs ts) ?_ ?_ ?_ ?_ ?_ ?_ ?_ ?_ ?_ ?_ ?_ ?_ ?_ ?_ r
 ·exact .non
 ·exact λb=>.bl b
 ·exact λi=>.int i
 ·exact λx=>.str x
 ·exact λv=>.raw v
 ·exact λh _ ih=>.lst (e _ _ h) ih
 ·exact λh _ ih=>.tup (e.tupS h) ih
 ·exact λh=>.scr (e.seq h)
 ·exact λh hk _ ih=>.dic (h.same e) hk ih
 ·exact λh hk _ ih=>.dit (h.same e) hk ih
 ·exact λhn h=>.exc0 hn (e _ _ h)
 ·exact λhn h hd hk _ ih=>.exc hn (e _ _ h) (e _ _ hd) hk ih
 ·exact .nil
 ·exact λ_ _ h1 h2=>.cons h1 h2
theorem Reps.mono(e:Same F F'): ∀{vs:List V} {ts:List T},Reps K F vs ts→Reps K F' vs ts
 |_,_,.nil=>.nil
 |_,_,.cons r rs=>.cons (r.mono e) (Reps.mono e rs)
theorem Rep.flat(r:Rep K F v t)(h:t.flat=true):Rep K F' v t:=by
 cases r with
 |non=>exact .non
 |bl b=>exact .bl b
 |int i=>exact .int i
 |str x=>exact .str x
 |_=>exact absurd (show false=true from h) Bool.false_ne_true
theorem Reps.length: ∀{vs:List V} {ts:List T},Reps K F vs ts→vs.length=ts.length
 |_,_,.nil=>rfl
 |_,_,.cons _ rs=>by rw[List.length_cons,List.length_cons,Reps.length rs]
theorem Reps.get: ∀{vs:List V} {ts:List T} {i:Nat} {t:T},Reps K F vs ts→ts[i]? =some t→∃v,vs[i]? =some v∧Rep K F v t
 |_,_,_,_,.nil,e=>by simp at e
 |_,_,0,_,.cons r _,e=>by simp at e;subst e;exact⟨_,rfl,r⟩
 |_,_,i+1,t,.cons _ rs,e=>by
  obtain⟨v,h1,h2⟩:=Reps.get (i:=i) (t:=t) rs (by simpa using e)
  exact⟨v,by simpa using h1,h2⟩
theorem Reps.getV: ∀{vs:List V} {ts:List T} {i:Nat} {v:V},Reps K F vs ts→vs[i]? =some v→∃t,ts[i]? =some t∧Rep K F v t
 |_,_,_,_,.nil,e=>by simp at e
 |_,_,0,_,.cons r _,e=>by simp at e;subst e;exact⟨_,rfl,r⟩
 |_,_,i+1,v,.cons _ rs,e=>by
  obtain⟨t,h1,h2⟩:=Reps.getV (i:=i) (v:=v) rs (by simpa using e)
  exact⟨t,by simpa using h1,h2⟩
theorem Reps.append: ∀{vs us:List V} {ts ss:List T},Reps K F vs ts→Reps K F us ss→Reps K F (vs++us) (ts++ss)
 |_,_,_,_,.nil,s=>s
 |_,_,_,_,.cons r rs,s=>.cons r (Reps.append rs s)
theorem Reps.take: ∀{vs:List V} {ts:List T} (n:Nat),Reps K F vs ts→Reps K F (vs.take n) (ts.take n)
 |_,_,0,_=>.nil
 |_,_,_+1,.nil=>.nil
 |_,_,n+1,.cons r rs=>.cons r (Reps.take n rs)
theorem Reps.drop: ∀{vs:List V} {ts:List T} (n:Nat),Reps K F vs ts→Reps K F (vs.drop n) (ts.drop n)
 |_,_,0,r=>r
 |_,_,_+1,.nil=>.nil
 |_,_,n+1,.cons _ rs=>Reps.drop n rs
theorem Reps.ints: ∀ns:List Int,Reps K F (ns.map V.int) (ns.map T.int)
 |[]=>.nil
 |n::ns=>.cons (.int n) (Reps.ints ns)
theorem Reps.inv_int{vs:List V}{ns:List Int}(r:Reps K F vs (ns.map T.int)):vs=ns.map V.int:=by
 induction ns generalizing vs with
 |nil=>cases r;rfl
 |cons n ns ih=>
  rw[List.map_cons] at r
  cases r with
  |cons r1 r2=>cases r1;rw[ih r2];rfl
theorem Reps.inv_bl{vs:List V}{bs:List Bool}(r:Reps K F vs (bs.map T.bl)):vs=bs.map V.bl:=by
 induction bs generalizing vs with
 |nil=>cases r;rfl
 |cons n ns ih=>
  rw[List.map_cons] at r
  cases r with
  |cons r1 r2=>cases r1;rw[ih r2];rfl
end
structure Ext(F H F' H':Hp):Prop where
 hh:Same H H'
 ff:Same F F'
 fh:Same F' H'
 nw: ∀p o,H p=some o→F' p=F p
theorem Ext.rfl{F H:Hp}(h:Same F H):Ext F H F H:=⟨Same.refl _,Same.refl _,h,λ_ _ _=>Eq.refl _⟩
theorem Ext.trans{F H F1 H1 F2 H2:Hp}(a:Ext F H F1 H1)(b:Ext F1 H1 F2 H2):Ext F H F2 H2:=
 ⟨a.hh.trans b.hh,a.ff.trans b.ff,b.fh,λp o h=>(b.nw p o (a.hh p o h)).trans (a.nw p o h)⟩
theorem Ext.new{F H:Hp}{p:Addr}(h:Same F H)(hp:H p=none)(o:HO):Ext F H (upd F p o) (upd H p o):=by
 have hF:F p=none:=h.free hp
 refine⟨λb u q=>by rw[upd_ne (ne_of_none q hp)];exact q,λb u q=>by rw[upd_ne (ne_of_none q hF)];exact q,λb u q=> ?_,λb u q=>by rw[upd_ne (ne_of_none q hp)]⟩
 by_cases e:b=p
 ·subst e;rw[upd_same] at q⊢;exact q
 ·rw[upd_ne e] at q⊢;exact h b u q
noncomputable abbrev Ev:=List (Option T)
noncomputable def ERep(K:PySem.W.Frag)(F:Hp)(σ:St)(ε:Ev):Prop:= ∀(i:Nat) (t:T),ε[i]? =some (some t)→∃v,σ[i]? =some (some v)∧Rep K F v t
theorem ERep.mono{K:PySem.W.Frag}{F F':Hp}{σ:St}{ε:Ev}(e:Same F F')(h:ERep K F σ ε):ERep K F' σ ε:=λi t q=>let ⟨v,a,b⟩:=h i t q;⟨v,a,b.mono e⟩
noncomputable abbrev DE:=Ev→Option T
noncomputable abbrev DA:=Ev→Option (List T)
noncomputable abbrev DT:=Ev→Option Bool
noncomputable def tE(K:PySem.W.Frag)(f:DE):TE:=λσ H Q=> ∃F ε t,Same F H∧ERep K F σ ε∧f ε=some t∧∀v H' F',Ext F H F' H'→Rep K F' v t→Q v H'
noncomputable def tAs(K:PySem.W.Frag)(f:DA):TA:=λσ H Q=> ∃F ε ts,Same F H∧ERep K F σ ε∧f ε=some ts∧∀vs H' F',Ext F H F' H'→Reps K F' vs ts→Q vs H'
noncomputable def tTs(K:PySem.W.Frag)(f:DT):TT:=λσ H Q=> ∃F ε b,Same F H∧ERep K F σ ε∧f ε=some b∧∀H' F',Ext F H F' H'→Q b H'
noncomputable def tFr(K:PySem.W.Frag)(f:DA):TE:=λσ H Q=> ∃F ε ts,Same F H∧ERep K F σ ε∧f ε=some ts∧∀p vs H' F',Ext F H F' H'→H' p=none→Reps K F' vs ts→Q (.ref p) (upd H' p (.lst vs))
noncomputable def VE(X:Cx)(e:Expr)(f:DE):Prop:=PE X e (tE X.K f)
noncomputable def VA(X:Cx)(es:List Expr)(f:DA):Prop:=PA X es (tAs X.K f)
noncomputable def VT(X:Cx)(e:Expr)(f:DT):Prop:=PT X e (tTs X.K f)
noncomputable def VW(X:Cx)(e:Expr)(f:DT):Prop:=PW X e (tTs X.K f)
noncomputable def VF(X:Cx)(e:Expr)(f:DA):Prop:=PE X e (tFr X.K f)
section
variable {X:Cx} {e a b c:Expr} {pos:Pos}
theorem PE.le{t t':TE}(h:PE X e t)(w: ∀σ H Q,t' σ H Q→t σ H Q):PE X e t':=λpins s σ H Q I q=>h pins s σ H Q I (w σ H Q q)
theorem PT.le{t t':TT}(h:PT X e t)(w: ∀σ H Q,t' σ H Q→t σ H Q):PT X e t':=λpins s σ H Q I q=>h pins s σ H Q I (w σ H Q q)
theorem PW.le{t t':TT}(h:PW X e t)(w: ∀σ H Q,t' σ H Q→t σ H Q):PW X e t':=λwh pins s σ H Q I q=>h wh pins s σ H Q I (w σ H Q q)
theorem PA.le{es:List Expr}{t t':TA}(h:PA X es t)(w: ∀σ H Q,t' σ H Q→t σ H Q):PA X es t':=λpos pins s σ H Q I q=>h pos pins s σ H Q I (w σ H Q q)
theorem PS.le{st:Stmt}{t t':TS}(h:PS X st t)(w: ∀D σ H,t' D σ H→t D σ H):PS X st t':=λpins s σ H D I q=>h pins s σ H D I (w D σ H q)
theorem PSs.le{st:List Stmt}{t t':TS}(h:PSs X st t)(w: ∀D σ H,t' D σ H→t D σ H):PSs X st t':=λpins s σ H D I q=>h pins s σ H D I (w D σ H q)
noncomputable def dV(i:Nat):DE:=λε=>ε[i]?.join
theorem dV_get{i:Nat}{ε:Ev}{t:T}(h:dV i ε=some t):ε[i]? =some (some t):=by
 unfold dV at h
 cases q:ε[i]? with
 |none=>rw[q] at h;cases h
 |some o=>rw[q] at h;simp at h;rw[h]
theorem ve_var(i:Nat){x:Str}(h:PE X (.Name x pos) (tVar i)):VE X (.Name x pos) (dV i):=h.le λσ H Q ⟨F,ε,t,hF,hE,e,q⟩=>by
 obtain⟨v,a,r⟩:=hE i t (dV_get e)
 exact⟨v,a,q v H F (.rfl hF) r⟩
noncomputable def dC(t:T):DE:=λ_=>some t
theorem ve_c{v:V}{t:T}(h:PE X e (tC v))(r: ∀F,Rep X.K F v t):VE X e (dC t):=h.le λσ H Q ⟨F,ε,t',hF,hE,e,q⟩=>by
 cases (show t=t' from Option.some.inj e)
 exact q v H F (.rfl hF) (r F)
theorem ve_int{i:Int}{j}:VE X (.Constant (.int i) j pos) (dC (.int i)):=ve_c pe_int λ_=>.int i
theorem ve_bl{i:Bool}{j}:VE X (.Constant (.bool i) j pos) (dC (.bl i)):=ve_c pe_bl λ_=>.bl i
theorem ve_bty{x:Str}{S:String}(hg:Gl X x)(hm:X.mg x=none)(hv:bootBuiltins x=some (.type S))(hn:x≠"__name__":=by decide)(hd:(x==("__debug__":Str))=false:=by decide):VE X (.Name x pos) (dC (.raw (.ty S))):=
 ve_c (pe_bty hg hm hv hn hd) λ_=>.raw _
noncomputable def dL(f:DA):DE:=λε=>(f ε).map T.lst
theorem fr_imp{K:PySem.W.Frag}{f:DA}: ∀σ H Q,tE K (dL f) σ H Q→tFr K f σ H Q:=λσ H Q ⟨F,ε,t,hF,hE,e,q⟩=>by
 obtain⟨ts,e1,rfl⟩:=Option.map_eq_some_iff.mp e
 refine⟨F,ε,ts,hF,hE,e1,λp vs H' F' x hp r=> ?_⟩
 have hF':F' p=none:=x.fh.free hp
 exact q _ _ _ (x.trans (.new x.fh hp (.lst vs))) (.lst upd_same (r.mono λb u q=>by rw[upd_ne (ne_of_none q hF')];exact q))
theorem ve_fr{f:DA}(h:VF X e f):VE X e (dL f):=PE.le h fr_imp
noncomputable def OT(K:PySem.W.Frag)(r:R2)(op:T→T→Option T):Prop:=
 ∀(F H:Hp) (x y:V) (s t u:T) (Q:VK),Same F H→Rep K F x s→Rep K F y t→op s t=some u→(∀v H' F',Ext F H F' H'→Rep K F' v u→Q v H')→r x y H Q
noncomputable def d2(op:T→T→Option T)(f g:DE):DE:=λε=>(f ε).bind λa=>(g ε).bind λb=>op a b
theorem d2_some{op:T→T→Option T}{f g:DE}{ε:Ev}{u:T}(h:d2 op f g ε=some u): ∃s t,f ε=some s∧g ε=some t∧op s t=some u:=by
 obtain⟨s,h1,h2⟩:=Option.bind_eq_some_iff.mp h
 obtain⟨t,h3,h4⟩:=Option.bind_eq_some_iff.mp h2
 exact⟨s,t,h1,h3,h4⟩
theorem ve2{r:R2}{op:T→T→Option T}{f g:DE}(hr:OT X.K r op)(hB:PE X e (tOp r (tE X.K f) (tE X.K g))):VE X e (d2 op f g):=hB.le λσ H Q ⟨F,ε,u,hF,hE,e,q⟩=>by
 obtain⟨s,t,e1,e2,e3⟩:=d2_some e
 exact⟨F,ε,s,hF,hE,e1,λx H1 F1 x1 rx=>⟨F1,ε,t,x1.fh,hE.mono x1.ff,e2,λy H2 F2 x2 ry=>hr F2 H2 x y s t u Q x2.fh (rx.mono x2.ff) ry e3 λv H' F' x3 rv=>q v H' F' (x1.trans (x2.trans x3)) rv⟩⟩
noncomputable def d2F(op:T→T→Option (List T))(f g:DE):DA:=λε=>(f ε).bind λa=>(g ε).bind λb=>op a b
end
end L2
set_option Elab.async false
set_option linter.all false
set_option maxRecDepth 100000
namespace L2
open PySem PySem.Spec PyProof.Rows
noncomputable def lim:Nat:=10000000
theorem lim_le:lim≤sizeLine:=by rw[sizeLine_eq];decide
theorem lim_lt:lim<sizeLine:=by rw[sizeLine_eq];decide
noncomputable def iop(C:Int→Int→Bool)(g:Int→Int→Int):T→T→Option T
 | .int i,.int j=>if C i j then some (.int (g i j)) else none
 |_,_=>none
theorem iop_inv{C:Int→Int→Bool}{g:Int→Int→Int}{s t u:T}(h:iop C g s t=some u): ∃i j,s=.int i∧t=.int j∧C i j=true∧u=.int (g i j):=by
 unfold iop at h
 split at h
 ·rename_i i j
  split at h
  ·rename_i hc
   exact⟨i,j,rfl,rfl,hc,(Option.some.inj h).symm⟩
  ·cases h
 ·cases h
theorem Rep.inv_int{K:PySem.W.Frag}{F:Hp}{x:V}{i:Int}(r:Rep K F x (.int i)):x=.int i:=by cases r;rfl
theorem Rep.inv_bl{K:PySem.W.Frag}{F:Hp}{x:V}{b:Bool}(r:Rep K F x (.bl b)):x=.bl b:=by cases r;rfl
theorem Rep.inv_str{K:PySem.W.Frag}{F:Hp}{x:V}{b:Str}(r:Rep K F x (.str b)):x=.str b:=by cases r;rfl
theorem Rep.inv_non{K:PySem.W.Frag}{F:Hp}{x:V}(r:Rep K F x .non):x=.non:=by cases r;rfl
theorem Rep.inv_lst{K:PySem.W.Frag}{F:Hp}{x:V}{ts:List T}(r:Rep K F x (.lst ts)): ∃p vs,x=.ref p∧F p=some (.lst vs)∧Reps K F vs ts:=by
 cases r with
 |lst h rs=>exact⟨_,_,rfl,h,rs⟩
theorem Rep.inv_tup{K:PySem.W.Frag}{F:Hp}{x:V}{ts:List T}(r:Rep K F x (.tup ts)): ∃p vs,x=.ref p∧SqT K F p vs∧Reps K F vs ts:=by
 cases r with
 |tup h rs=>exact⟨_,_,rfl,h,rs⟩
theorem Rep.inv_scr{K:PySem.W.Frag}{F:Hp}{x:V}{ns:List Int}(r:Rep K F x (.scr ns)): ∃p,x=.ref p∧SqL K F p (ns.map V.int):=by
 cases r with
 |scr h=>exact⟨_,rfl,h⟩
theorem Rep.inv_raw{K:PySem.W.Frag}{F:Hp}{x v:V}(r:Rep K F x (.raw v)):x=v:=by cases r;rfl
section
variable {K:PySem.W.Frag}
theorem ot_I{C:Int→Int→Bool}{C':Int→Int→Prop}{g:Int→Int→Int}(hc: ∀i j,C i j=true→C' i j):OT K (rI C' λi j=>.int (g i j)) (iop C g):=by
 intro F H x y s t u Q hF rx ry e q
 obtain⟨i,j,rfl,rfl,h,rfl⟩:=iop_inv e
 cases rx.inv_int
 cases ry.inv_int
 exact⟨i,j,rfl,rfl,hc i j h,q _ H F (.rfl hF) (.int _)⟩
theorem ot_I0{g:Int→Int→Int}:OT K (rI0 λi j=>.int (g i j)) (iop (λ_ _=>true) g):=by
 intro F H x y s t u Q hF rx ry e q
 obtain⟨i,j,rfl,rfl,h,rfl⟩:=iop_inv e
 cases rx.inv_int
 cases ry.inv_int
 exact⟨i,j,rfl,rfl,q _ H F (.rfl hF) (.int _)⟩
end
noncomputable def fdv(i j:Int):Int:=if 0<j then i/j else i.fdiv j
noncomputable def fmd(i j:Int):Int:=if 0<j then i %j else i.fmod j
theorem fdv_eq(i j:Int):fdv i j=i.fdiv j:=by
 unfold fdv
 split
 ·rw[Int.fdiv_eq_ediv_of_nonneg i (by omega)]
 ·rfl
theorem fmd_eq(i j:Int):fmd i j=i.fmod j:=by
 unfold fmd
 split
 ·rw[Int.fmod_eq_emod_of_nonneg i (by omega)]
 ·rfl
noncomputable def dvOk(j:Int):Bool:=decide (j≠0)&&decide (j.natAbs.log2<9000)
noncomputable def mulOk(i j:Int):Bool:= !(decide (Builtin.Int.intBits i>shortFactorBits)&&decide (Builtin.Int.intBits j>shortFactorBits)&&Builtin.Int.intTooBig (Builtin.Int.intBits i+Builtin.Int.intBits j))
theorem mulOk_iff{i j:Int}:mulOk i j=true↔IntMulOk i j:=by
 unfold mulOk IntMulOk
 rw[Bool.not_eq_true',Bool.eq_false_iff]
theorem mulOk_left{i j:Int}(h1: -(2^64)<i)(h2:i<2^64):mulOk i j=true:=mulOk_iff.mpr (.of_left (intBits_le_64 h1 h2))
theorem mulOk_right{i j:Int}(h1: -(2^64)<j)(h2:j<2^64):mulOk i j=true:=mulOk_iff.mpr (.of_right (intBits_le_64 h1 h2))
section
variable {X:Cx} {e a b c:Expr} {pos:Pos} {f g:DE}
theorem op_mulF:OpR X (binaryOp .Mult) (rI (λi j=>mulOk i j=true) λi j=>.int (i*j)):=opI λ_ _ _ _ _ _ _ hc q=>mul_int q (mulOk_iff.mp hc)
theorem op_fdvF:OpR X (binaryOp .FloorDiv) (rI (λ_ j=>dvOk j=true) λi j=>.int (fdv i j)):=opI λi j _ _ _ _ _ hc q=>by
 unfold dvOk at hc
 simp only[Bool.and_eq_true,decide_eq_true_eq] at hc
 rw[fdv_eq] at q
 exact floordiv_int hc.1 q (.inl (PyProof.noPylong_of_log2 hc.2))
theorem op_fmdF:OpR X (binaryOp .Mod) (rI (λ_ j=>j≠0) λi j=>.int (fmd i j)):=opI λi j _ _ _ _ _ hc q=>by
 rw[fmd_eq] at q
 exact mod_int' hc q
noncomputable def addT:T→T→Option T
 | .int i,.int j=>some (.int (i+j))
 | .str x,.str y=>if x.length+y.length≤lim then some (.str (x++y)) else none
 | .lst x,.lst y=>if x.length+y.length≤lim then some (.lst (x++y)) else none
 |_,_=>none
noncomputable def rAddT:R2:=λx y H Q=>rI0 (λi j=>.int (i+j)) x y H Q∨(∃i j,x=.str i∧y=.str j∧i.length+j.length≤sizeLine∧Q (.str (i++j)) H)∨rCat x y H Q
theorem op_addT:OpR X (binaryOp .Add) rAddT:=op_add.or (op_add_str.or op_cat)
theorem ot_add{K:PySem.W.Frag}:OT K rAddT addT:=by
 intro F H x y s t u Q hF rx ry e q
 have hl:=lim_le
 unfold addT at e
 split at e
 ·cases rx.inv_int
  cases ry.inv_int
  cases e
  exact .inl ⟨_,_,rfl,rfl,q _ H F (.rfl hF) (.int _)⟩
 ·cases rx.inv_str
  cases ry.inv_str
  split at e
  ·cases e
   exact .inr (.inl ⟨_,_,rfl,rfl,by omega,q _ H F (.rfl hF) (.str _)⟩)
  ·cases e
 ·obtain⟨p,vs,rfl,hp,rs⟩:=rx.inv_lst
  obtain⟨p',vs',rfl,hp',rs'⟩:=ry.inv_lst
  split at e
  ·cases e
   have h1:=rs.length
   have h2:=rs'.length
   refine .inr (.inr ⟨p,p',vs,vs',rfl,rfl,hF _ _ hp,hF _ _ hp',by omega,λr hr=> ?_⟩)
   have x3:=Ext.new hF hr (.lst (vs++vs'))
   exact q _ _ _ x3 (.lst upd_same ((rs.append rs').mono x3.ff))
  ·cases e
 ·cases e
theorem ve_add(ha:VE X a f)(hb:VE X b g):VE X (.BinOp a .Add b pos) (d2 addT f g):=ve2 ot_add (pe_op op_addT ha hb)
noncomputable def catF:T→T→Option (List T)
 | .lst x,.lst y=>if x.length+y.length≤lim then some (x++y) else none
 |_,_=>none
theorem ve_sub(ha:VE X a f)(hb:VE X b g):VE X (.BinOp a .Sub b pos) (d2 (iop (λ_ _=>true) λi j=>i - j) f g):=ve2 ot_I0 (pe_op op_sub ha hb)
theorem ve_fdv(ha:VE X a f)(hb:VE X b g):VE X (.BinOp a .FloorDiv b pos) (d2 (iop (λ_ j=>dvOk j) fdv) f g):=ve2 (ot_I λ_ _ h=>h) (pe_op op_fdvF ha hb)
theorem ve_fmd(ha:VE X a f)(hb:VE X b g):VE X (.BinOp a .Mod b pos) (d2 (iop (λ_ j=>decide (j≠0)) fmd) f g):=ve2 (ot_I λ_ _ h=>of_decide_eq_true h) (pe_op op_fmdF ha hb)
theorem ve_band(ha:VE X a f)(hb:VE X b g):VE X (.BinOp a .BitAnd b pos) (d2 (iop (λ_ _=>true) Builtin.bitAnd) f g):=ve2 ot_I0 (pe_op op_and ha hb)
noncomputable def mulT:T→T→Option T
 | .int i,.int j=>if mulOk i j then some (.int (i*j)) else none
 | .lst x,.int k=>if -1000000≤k∧k≤1000000∧x.length*k.toNat≤lim then some (.lst (List.replicate k.toNat x).flatten) else none
 |_,_=>none
noncomputable def rMulT:R2:=λx y H Q=>rI (λi j=>mulOk i j=true) (λi j=>.int (i*j)) x y H Q∨rRep x y H Q
theorem op_mulT:OpR X (binaryOp .Mult) rMulT:=op_mulF.or op_rep
end
theorem Reps.rep{K:PySem.W.Frag}{F:Hp}{vs:List V}{ts:List T}(h:Reps K F vs ts): ∀k:Nat,Reps K F (List.replicate k vs).flatten (List.replicate k ts).flatten
 |0=>.nil
 |k+1=>by
  rw[List.replicate_succ,List.replicate_succ,List.flatten_cons,List.flatten_cons]
  exact h.append (Reps.rep h k)
section
variable {X:Cx} {e a b c:Expr} {pos:Pos} {f g:DE}
theorem ot_mul{K:PySem.W.Frag}:OT K rMulT mulT:=by
 intro F H x y s t u Q hF rx ry e q
 have hl:=lim_le
 unfold mulT at e
 split at e
 ·cases rx.inv_int
  cases ry.inv_int
  split at e
  ·rename_i hc
   cases e
   exact .inl ⟨_,_,rfl,rfl,hc,q _ H F (.rfl hF) (.int _)⟩
  ·cases e
 ·obtain⟨p,vs,rfl,hp,rs⟩:=rx.inv_lst
  cases ry.inv_int
  split at e
  ·rename_i k hc
   cases e
   have h1:=rs.length
   refine .inr ⟨p,k,vs,rfl,rfl,hF _ _ hp,by omega,by omega,by rw[h1];omega,λr hr=> ?_⟩
   have x3:=Ext.new hF hr (.lst (List.replicate k.toNat vs).flatten)
   exact q _ _ _ x3 (.lst upd_same ((rs.rep k.toNat).mono x3.ff))
  ·cases e
 ·cases e
theorem ve_mul(ha:VE X a f)(hb:VE X b g):VE X (.BinOp a .Mult b pos) (d2 mulT f g):=ve2 ot_mul (pe_op op_mulT ha hb)
end
end L2
set_option Elab.async false
set_option linter.all false
set_option maxRecDepth 100000
namespace L2
open PySem PySem.Spec PyProof.Rows
mutual
noncomputable def eqB:T→T→Bool
 | .lst a,.lst b=>eqBs a b
 | .tup a,.tup b=>eqBs a b
 | .non,.non=>true
 | .bl a,.bl b=>a==b
 | .int a,.int b=>a==b
 | .str a,.str b=>a==b
 |_,_=>false
noncomputable def eqBs:List T→List T→Bool
 |[],[]=>true
 |x::xs,y::ys=>eqB x y&&eqBs xs ys
 |_,_=>false
end
mutual
noncomputable def eqOk:T→T→Bool
 | .lst a,.lst b=>eqOks a b
 | .tup a,.tup b=>eqOks a b
 | .bl _,.int _=>false
 | .int _,.bl _=>false
 |s,t=>s.flat&&t.flat
noncomputable def eqOks:List T→List T→Bool
 |x::xs,y::ys=>eqOk x y&&eqOks xs ys
 |_,_=>true
end
mutual
noncomputable def dep:T→Nat
 | .lst a=>deps a+1
 | .tup a=>deps a+1
 |_=>0
noncomputable def deps:List T→Nat
 |[]=>0
 |x::xs=>max (dep x) (deps xs)
end
theorem dep_get: ∀{ts:List T} {i:Nat} {t:T},ts[i]? =some t→dep t≤deps ts
 |[],_,_,e=>by simp at e
 |x::xs,0,t,e=>by simp at e;subst e;unfold deps;omega
 |x::xs,i+1,t,e=>by
  have:=dep_get (ts:=xs) (i:=i) (t:=t) (by simpa using e)
  unfold deps;omega
theorem eqOk_get: ∀{xs ys:List T} {i:Nat} {x y:T},eqOks xs ys=true→xs[i]? =some x→ys[i]? =some y→eqOk x y=true
 |[],_,_,_,_,_,e,_=>by simp at e
 |_::_,[],_,_,_,_,_,e=>by simp at e
 |a::xs,b::ys,0,x,y,h,e1,e2=>by
  simp at e1 e2;subst e1 e2
  unfold eqOks at h
  exact(Bool.and_eq_true_iff.mp h).1
 |a::xs,b::ys,i+1,x,y,h,e1,e2=>by
  unfold eqOks at h
  exact eqOk_get (i:=i) (Bool.and_eq_true_iff.mp h).2 (by simpa using e1) (by simpa using e2)
theorem eqBs_eq: ∀(xs ys:List T),xs.length=ys.length→eqBs xs ys=(List.range xs.length).all λj=>eqB (xs.getD j .non) (ys.getD j .non)
 |[],[],_=>by unfold eqBs;rfl
 |[],_::_,h=>by simp at h
 |_::_,[],h=>by simp at h
 |x::xs,y::ys,h=>by
  unfold eqBs
  rw[eqBs_eq xs ys (by simpa using h),List.length_cons,List.range_succ_eq_map,List.all_cons,List.all_map]
  rfl
theorem eqBs_len: ∀{xs ys:List T},xs.length≠ys.length→eqBs xs ys=false
 |[],[],h=>absurd rfl h
 |[],_::_,_=>by unfold eqBs;rfl
 |_::_,[],_=>by unfold eqBs;rfl
 |x::xs,y::ys,h=>by
  unfold eqBs
  rw[eqBs_len (xs:=xs) (ys:=ys) (by simpa using h),Bool.and_false]
theorem all_min{n m:Nat}(e:Nat→Bool)(h:n≠m):((List.range (min n m)).all e&&n==m)=false:=by
 have:(n==m)=false:=by simpa using h
 rw[this,Bool.and_false]
theorem eqB_same{K:PySem.W.Frag}{X:Cx}{pins:List (Addr×Obj)}{σ:St}{H:Hp}{st:Shared}(I:Inv X pins σ H st): ∀(n:Nat) (s t:T) (v:V),dep s≤n→Rep X.K H v s→Rep X.K H v t→eqOk s t=true→eqB s t=true:=by
 intro n
 induction n with
 |zero=>
  intro s t v hd r1 r2 ho
  cases r1 with
  |non=>cases r2<;>first|(exfalso;unfold eqOk at ho;simp[T.flat] at ho;done)|(unfold eqB;simp;done)
  |bl b=>cases r2<;>first|(exfalso;unfold eqOk at ho;simp[T.flat] at ho;done)|(unfold eqB;simp;done)
  |int b=>cases r2<;>first|(exfalso;unfold eqOk at ho;simp[T.flat] at ho;done)|(unfold eqB;simp;done)
  |str b=>cases r2<;>first|(exfalso;unfold eqOk at ho;simp[T.flat] at ho;done)|(unfold eqB;simp;done)
  |lst _ _=>unfold dep at hd;omega
  |tup _ _=>unfold dep at hd;omega
  |_=>cases t<;>(unfold eqOk at ho;simp[T.flat] at ho)
 |succ n ih=>
  have all: ∀(vs:List V) (a b:List T),deps a≤n→Reps X.K H vs a→Reps X.K H vs b→eqOks a b=true→eqBs a b=true:=by
   intro vs
   induction vs with
   |nil=>intro a b _ ra rb _;cases ra;cases rb;unfold eqBs;rfl
   |cons v vs ihv=>
    intro a b hd ra rb ho
    cases ra with
    |cons r1 ra=>
     cases rb with
     |cons r2 rb=>
      unfold deps at hd
      unfold eqOks at ho
      obtain⟨o1,o2⟩:=Bool.and_eq_true_iff.mp ho
      unfold eqBs
      rw[ih _ _ v (by omega) r1 r2 o1,ihv _ _ (by omega) ra rb o2]
      rfl
  intro s t v hd r1 r2 ho
  by_cases hs:dep s=0
  ·exact ih s t v (by omega) r1 r2 ho
  cases r1 with
  |lst h rs=>
   cases r2 with
   |lst h' rs'=>
    rw[h] at h';cases h'
    unfold dep at hd
    unfold eqOk at ho
    unfold eqB
    exact all _ _ _ (by omega) rs rs' ho
   |_=>unfold eqOk at ho;simp[T.flat] at ho
  |tup h rs=>
   cases r2 with
   |tup h' rs'=>
    cases I.tuple_inj h h'
    unfold dep at hd
    unfold eqOk at ho
    unfold eqB
    exact all _ _ _ (by omega) rs rs' ho
   |_=>unfold eqOk at ho;simp[T.flat] at ho
  |_=>exact absurd (by unfold dep;rfl) hs
theorem eqAt_flat{A:Around}{st:Shared}{K:PySem.W.Frag}{H:Hp}{x y:V}{s t:T}{u v:Value}(r1:Rep K H x s)(r2:Rep K H y t)(e1:RelV x u)(e2:RelV y v)(f1:s.flat=true)(f2:t.flat=true)(ho:eqOk s t=true):SeqAt.EqAt A st u v (eqB s t):=by
 have key: ∀k:Bool,k=eqB s t→SeqAt.EqAt A st u v k→SeqAt.EqAt A st u v (eqB s t):=λk e h=>by rw[←e];exact h
 cases r1<;>first|(exact absurd (show false=true from f1) Bool.false_ne_true)|skip
 all_goals cases r2<;>first|(exact absurd (show false=true from f2) Bool.false_ne_true)|skip
 all_goals first
  |(refine key _ ?_ (eqAt_V e1 e2 rfl rfl);unfold eqB;first|rfl|(unfold eqV;rfl))
  |(unfold eqOk at ho;simp at ho)
theorem eqAt_rep{X:Cx}{pins:List (Addr×Obj)}{σ:St}{H:Hp}{st:Shared}(I:Inv X pins σ H st): ∀(n:Nat) (A:Around) (s t:T) (x y:V) (u v:Value),dep s≤n→A.units+n<cLine→
  Rep X.K H x s→Rep X.K H y t→RelV x u→RelV y v→eqOk s t=true→SeqAt.EqAt A st u v (eqB s t):=by
 intro n
 induction n with
 |zero=>
  intro A s t x y u v hd hu r1 r2 e1 e2 ho
  have f1:s.flat=true:=by
   cases s<;>first|rfl|(unfold dep at hd;omega)|(cases t<;>(unfold eqOk at ho;simp[T.flat] at ho))
  have f2:t.flat=true:=by
   cases s<;>first|(exact absurd (show false=true from f1) Bool.false_ne_true)|skip
   all_goals cases t<;>first|rfl|(unfold eqOk at ho;simp[T.flat] at ho)
  exact eqAt_flat r1 r2 e1 e2 f1 f2 ho
 |succ n ih=>
  intro A s t x y u v hd hu r1 r2 e1 e2 ho
  by_cases f1:s.flat=true
  ·exact ih A s t x y u v (by cases s<;>first|(unfold dep;omega)|(exact absurd f1 (by simp[T.flat]))) (by omega) r1 r2 e1 e2 ho
  ·have hin:A.in1.units+n<cLine:=by rw[Around.in1_units];omega
   have items: ∀(vs ws:List V) (us us':List Value) (a b:List T),deps a≤n→Reps X.K H vs a→Reps X.K H ws b→Vals vs us→Vals ws us'→eqOks a b=true→
     ∀j (h1:j<us.toArray.size) (h2:j<us'.toArray.size),SeqAt.EqAt A.in1 st us.toArray[j] us'.toArray[j] (eqB (a.getD j .non) (b.getD j .non)):=by
    intro vs ws us us' a b hd' ra rb va vb ho' j h1 h2
    have l1:j<us.length:=by simpa using h1
    have l2:j<us'.length:=by simpa using h2
    have la:=ra.length
    have lb:=rb.length
    have lva:=va.length
    have lvb:=vb.length
    have ga:a[j]? =some (a.getD j .non):=by rw[List.getD_eq_getElem?_getD,List.getElem?_eq_getElem (by omega)];rfl
    have gb:b[j]? =some (b.getD j .non):=by rw[List.getD_eq_getElem?_getD,List.getElem?_eq_getElem (by omega)];rfl
    obtain⟨x',hx,rx⟩:=ra.get ga
    obtain⟨y',hy,ry⟩:=rb.get gb
    obtain⟨u',hu',ru⟩:=va.get hx
    obtain⟨w',hw',rw'⟩:=vb.get hy
    have eu:us.toArray[j]=u':=by
     have:=List.getElem?_eq_getElem (l:=us) l1
     rw[this] at hu'
     simpa using hu'
    have ew:us'.toArray[j]=w':=by
     have:=List.getElem?_eq_getElem (l:=us') l2
     rw[this] at hw'
     simpa using hw'
    rw[eu,ew]
    exact ih A.in1 _ _ x' y' u' w' (Nat.le_trans (dep_get ga) hd') hin rx ry ru rw' (eqOk_get ho' ga gb)
   cases r1 with
   |lst h rs=>
    cases r2 with
    |lst h' rs'=>
     cases e1
     cases e2
     unfold dep at hd
     unfold eqOk at ho
     rename_i p vs a p' ws b
     by_cases hp:p=p'
     ·subst hp
      rw[h] at h';cases h'
      rw[eqB_same (K:=X.K) I (n+1) (.lst a) (.lst b) (.ref p) (by unfold dep;omega) (.lst h rs) (.lst h rs') (by unfold eqOk;exact ho)]
      exact SeqAt.EqAt.same _
     ·obtain⟨its,va,pl,hz⟩:=I.list (SqL.of h)
      obtain⟨its',vb,pl',hz'⟩:=I.list (SqL.of h')
      have la:=rs.length
      have lb:=rs'.length
      have lva:=va.length
      have lvb:=vb.length
      unfold eqB
      by_cases hl:a.length=b.length
      ·rw[eqBs_eq a b hl]
       have q:=SeqAt.RcAt.lists (A:=A) (s:=st) (e:=λj=>eqB (a.getD j .non) (b.getD j .non)) pl.isList pl'.isList (by simp only[List.size_toArray];omega) (by omega) (items _ _ _ _ a b (by omega) rs rs' va vb ho)
       have ez:its.toArray.size=a.length:=by simp only[List.size_toArray];omega
       rw[ez] at q
       exact SeqAt.EqAt.of_refs hp q
      ·rw[eqBs_len hl]
       exact SeqAt.EqAt.of_refs hp (SeqAt.RcAt.lists_lengths pl.isList pl'.isList (by simp only[List.size_toArray];simp;omega) (by omega))
    |_=>unfold eqOk at ho;simp[T.flat] at ho
   |tup h rs=>
    cases r2 with
    |tup h' rs'=>
     cases e1
     cases e2
     unfold dep at hd
     unfold eqOk at ho
     rename_i p vs a p' ws b
     by_cases hp:p=p'
     ·subst hp
      cases I.tuple_inj h h'
      rw[eqB_same (K:=X.K) I (n+1) (.tup a) (.tup b) (.ref p) (by unfold dep;omega) (.tup h rs) (.tup h rs') (by unfold eqOk;exact ho)]
      exact SeqAt.EqAt.same _
     ·obtain⟨its,va,pl,hz⟩:=I.tuple h
      obtain⟨its',vb,pl',hz'⟩:=I.tuple h'
      have la:=rs.length
      have lb:=rs'.length
      have lva:=va.length
      have lvb:=vb.length
      have q:=SeqAt.RcAt.tuples (A:=A) (s:=st) (e:=λj=>eqB (a.getD j .non) (b.getD j .non)) pl pl' (by omega) (items _ _ _ _ a b (by omega) rs rs' va vb ho)
      have ez:its.toArray.size=a.length:=by simp only[List.size_toArray];omega
      have ez':its'.toArray.size=b.length:=by simp only[List.size_toArray];omega
      rw[ez,ez'] at q
      unfold eqB
      by_cases hl:a.length=b.length
      ·rw[eqBs_eq a b hl]
       rw[←hl,Nat.min_self,beq_self_eq_true,Bool.and_true] at q
       exact SeqAt.EqAt.of_refs hp q
      ·rw[eqBs_len hl]
       rw[all_min _ hl] at q
       exact SeqAt.EqAt.of_refs hp q
    |_=>unfold eqOk at ho;simp[T.flat] at ho
   |non=>exact absurd rfl f1
   |bl b=>exact absurd rfl f1
   |int b=>exact absurd rfl f1
   |str b=>exact absurd rfl f1
   |_=>cases t<;>(unfold eqOk at ho;simp[T.flat] at ho)
end L2
set_option Elab.async false
set_option linter.all false
set_option maxRecDepth 100000
namespace L2
open PySem PySem.Spec PyProof.Rows
inductive O where
 |val (t:T)
 |lst (os:List O)
 |dic (kvs:List (Key×O))
 |dit (kvs:List (List Key×O))
 |obj (C:Addr) (fs:List (Str×O))
noncomputable abbrev Env2:=List (Option O)
mutual
inductive ORep(K:PySem.W.Frag)(F H:Hp):V→O→List Addr→Prop where
 |val {v:V} {t:T}:Rep K F v t→ORep K F H v (.val t) []
 |lst {p:Addr} {vs:List V} {os:List O} {A:List Addr}:H p=some (.lst vs)→OReps K F H vs os A→ORep K F H (.ref p) (.lst os) (p::A)
 |dic {p:Addr} {kvs:List (Key×V)} {kos:List (Key×O)} {A:List Addr}:H p=some (.dK kvs)→kvs.map (·.1)=kos.map (·.1)→OReps K F H (kvs.map (·.2)) (kos.map (·.2)) A→ORep K F H (.ref p) (.dic kos) (p::A)
 |dit {p:Addr} {kvs:List (List Key×V)} {kos:List (List Key×O)} {A:List Addr}:H p=some (.dT kvs)→kvs.map (·.1)=kos.map (·.1)→OReps K F H (kvs.map (·.2)) (kos.map (·.2)) A→ORep K F H (.ref p) (.dit kos) (p::A)
 |obj {p C dx:Addr} {fs:List (Str×V)} {fos:List (Str×O)} {A:List Addr}:H p=some (.ins C dx fs)→fs.map (·.1)=fos.map (·.1)→OReps K F H (fs.map (·.2)) (fos.map (·.2)) A→ORep K F H (.ref p) (.obj C fos) (p::A)
inductive OReps(K:PySem.W.Frag)(F H:Hp):List V→List O→List Addr→Prop where
 |nil:OReps K F H [] [] []
 |cons {v:V} {o:O} {A:List Addr} {vs:List V} {os:List O} {B:List Addr}:ORep K F H v o A→OReps K F H vs os B→OReps K F H (v::vs) (o::os) (A++B)
end
section
variable {K:PySem.W.Frag} {F F' H H':Hp} {v:V} {o:O} {A:List Addr}
theorem ORep.frame(ff:Same F F')(r:ORep K F H v o A):(∀p∈A,H' p=H p)→ORep K F' H' v o A:=by
 refine ORep.rec (motive_1:=λv o A _=>(∀p∈A,H' p=H p)→ORep K F' H' v o A) (motive_2:=λvs os A _=>(∀p∈A,H' p=H p)→OReps K F' H' vs os A) ?_ ?_ ?_ ?_ ?_ ?_ ?_ r
 ·exact λr _=>.val (r.mono ff)
 ·exact λh _ ih q=>.lst ((q _ List.mem_cons_self).trans h) (ih λp hp=>q p (List.mem_cons_of_mem _ hp))
 ·exact λh e _ ih q=>.dic ((q _ List.mem_cons_self).trans h) e (ih λp hp=>q p (List.mem_cons_of_mem _ hp))
 ·exact λh e _ ih q=>.dit ((q _ List.mem_cons_self).trans h) e (ih λp hp=>q p (List.mem_cons_of_mem _ hp))
 ·exact λh e _ ih q=>.obj ((q _ List.mem_cons_self).trans h) e (ih λp hp=>q p (List.mem_cons_of_mem _ hp))
 ·exact λ_=>.nil
 ·exact λ_ _ h1 h2 q=>.cons (h1 λp hp=>q p (List.mem_append_left _ hp)) (h2 λp hp=>q p (List.mem_append_right _ hp))
theorem OReps.frame(ff:Same F F'): ∀{vs:List V} {os:List O} {A:List Addr},OReps K F H vs os A→(∀p∈A,H' p=H p)→OReps K F' H' vs os A
 |_,_,_,.nil,_=>.nil
 |_,_,_,.cons r rs,q=>.cons (r.frame ff λp hp=>q p (List.mem_append_left _ hp)) (OReps.frame ff rs λp hp=>q p (List.mem_append_right _ hp))
theorem ORep.there(r:ORep K F H v o A): ∀p∈A,∃u,H p=some u:=by
 refine ORep.rec (motive_1:=λv o A _=> ∀p∈A,∃u,H p=some u) (motive_2:=λvs os A _=> ∀p∈A,∃u,H p=some u) ?_ ?_ ?_ ?_ ?_ ?_ ?_ r
 ·exact λ_ p hp=>by cases hp
 ·exact λh _ ih p hp=>by
   rcases List.mem_cons.mp hp with rfl|hp
   ·exact⟨_,h⟩
   ·exact ih p hp
 ·exact λh _ _ ih p hp=>by
   rcases List.mem_cons.mp hp with rfl|hp
   ·exact⟨_,h⟩
   ·exact ih p hp
 ·exact λh _ _ ih p hp=>by
   rcases List.mem_cons.mp hp with rfl|hp
   ·exact⟨_,h⟩
   ·exact ih p hp
 ·exact λh _ _ ih p hp=>by
   rcases List.mem_cons.mp hp with rfl|hp
   ·exact⟨_,h⟩
   ·exact ih p hp
 ·exact λp hp=>by cases hp
 ·exact λ_ _ h1 h2 p hp=>by
   rcases List.mem_append.mp hp with hp|hp
   ·exact h1 p hp
   ·exact h2 p hp
theorem OReps.vals: ∀{vs:List V} {ts:List T},Reps K F vs ts→OReps K F H vs (ts.map O.val) []
 |_,_,.nil=>.nil
 |_,_,.cons r rs=>by
  have:=OReps.cons (ORep.val (H:=H) r) (OReps.vals rs)
  exact this
theorem OReps.length: ∀{vs:List V} {os:List O} {A:List Addr},OReps K F H vs os A→vs.length=os.length
 |_,_,_,.nil=>rfl
 |_,_,_,.cons _ rs=>by rw[List.length_cons,List.length_cons,OReps.length rs]
theorem OReps.snoc: ∀{vs:List V} {os:List O} {A B:List Addr} {v:V} {o:O},OReps K F H vs os A→ORep K F H v o B→OReps K F H (vs++[v]) (os++[o]) (A++B)
 |_,_,_,B,v,o,.nil,r=>by
  have:=OReps.cons r OReps.nil
  rw[List.append_nil] at this
  exact this
 |_,_,_,B,v,o,.cons q rs,r=>by
  rw[List.append_assoc]
  exact .cons q (OReps.snoc rs r)
theorem OReps.append: ∀{vs ws:List V} {os qs:List O} {A B:List Addr},OReps K F H vs os A→OReps K F H ws qs B→OReps K F H (vs++ws) (os++qs) (A++B)
 |_,_,_,_,_,_,.nil,r=>r
 |_,_,_,_,_,_,.cons q rs,r=>by
  rw[List.append_assoc]
  exact .cons q (OReps.append rs r)
end
mutual
noncomputable def toT:O→Option T
 | .val t=>some t
 | .lst os=>(toTs os).map T.lst
 | .dic kvs=>(toTk kvs).map T.dic
 | .dit kvs=>(toTd kvs).map T.dit
 | .obj _ _=>none
noncomputable def toTs:List O→Option (List T)
 |[]=>some []
 |o::os=>(toT o).bind λt=>(toTs os).map (t:: ·)
noncomputable def toTk:List (Key×O)→Option (List (Key×T))
 |[]=>some []
 |(k,o)::os=>(toT o).bind λt=>(toTk os).map ((k,t):: ·)
noncomputable def toTd:List (List Key×O)→Option (List (List Key×T))
 |[]=>some []
 |(k,o)::os=>(toT o).bind λt=>(toTd os).map ((k,t):: ·)
end
theorem toTk_map: ∀{kvs:List (Key×O)} {kts:List (Key×T)},toTk kvs=some kts→kvs.map (·.1)=kts.map (·.1)∧toTs (kvs.map (·.2))=some (kts.map (·.2))
 |[],kts,h=>by unfold toTk at h;cases h;exact⟨rfl,by simp[toTs]⟩
 |(k,o)::os,kts,h=>by
  unfold toTk at h
  obtain⟨t,h1,h2⟩:=Option.bind_eq_some_iff.mp h
  obtain⟨r,h3,rfl⟩:=Option.map_eq_some_iff.mp h2
  obtain⟨e1,e2⟩:=toTk_map h3
  refine⟨by simp[e1],?_⟩
  simp only[List.map_cons]
  unfold toTs
  rw[h1,e2]
  rfl
theorem toTd_map: ∀{kvs:List (List Key×O)} {kts:List (List Key×T)},toTd kvs=some kts→kvs.map (·.1)=kts.map (·.1)∧toTs (kvs.map (·.2))=some (kts.map (·.2))
 |[],kts,h=>by unfold toTd at h;cases h;exact⟨rfl,by simp[toTs]⟩
 |(k,o)::os,kts,h=>by
  unfold toTd at h
  obtain⟨t,h1,h2⟩:=Option.bind_eq_some_iff.mp h
  obtain⟨r,h3,rfl⟩:=Option.map_eq_some_iff.mp h2
  obtain⟨e1,e2⟩:=toTd_map h3
  refine⟨by simp[e1],?_⟩
  simp only[List.map_cons]
  unfold toTs
  rw[h1,e2]
  rfl
theorem toTs_vals: ∀ts:List T,toTs (ts.map O.val)=some ts
 |[]=>by simp[toTs]
 |t::ts=>by
  rw[List.map_cons]
  unfold toTs
  rw[toTs_vals ts]
  unfold toT
  rfl
section
variable {K:PySem.W.Frag} {F F' H:Hp} {v:V} {o:O} {A:List Addr}
theorem ORep.toT(ff:Same F F')(r:ORep K F H v o A): ∀{t:T},L2.toT o=some t→(∀p∈A,F' p=H p)→Rep K F' v t:=by
 refine ORep.rec (motive_1:=λv o A _=> ∀{t:T},L2.toT o=some t→(∀p∈A,F' p=H p)→Rep K F' v t) (motive_2:=λvs os A _=> ∀{ts:List T},toTs os=some ts→(∀p∈A,F' p=H p)→Reps K F' vs ts) ?_ ?_ ?_ ?_ ?_ ?_ ?_ r
 ·intro v t r t' e _
  unfold L2.toT at e
  cases e
  exact r.mono ff
 ·intro p vs os A h rs ih t e q
  unfold L2.toT at e
  obtain⟨ts,e1,rfl⟩:=Option.map_eq_some_iff.mp e
  exact .lst ((q p List.mem_cons_self).trans h) (ih e1 λb hb=>q b (List.mem_cons_of_mem _ hb))
 ·intro p kvs kos A h hk rs ih t e q
  unfold L2.toT at e
  obtain⟨ts,e1,rfl⟩:=Option.map_eq_some_iff.mp e
  obtain⟨e2,e3⟩:=toTk_map e1
  exact .dic (.inl ((q p List.mem_cons_self).trans h)) (hk.trans e2) (ih e3 λb hb=>q b (List.mem_cons_of_mem _ hb))
 ·intro p kvs kos A h hk rs ih t e q
  unfold L2.toT at e
  obtain⟨ts,e1,rfl⟩:=Option.map_eq_some_iff.mp e
  obtain⟨e2,e3⟩:=toTd_map e1
  exact .dit (.inl ((q p List.mem_cons_self).trans h)) (hk.trans e2) (ih e3 λb hb=>q b (List.mem_cons_of_mem _ hb))
 ·intro p C dx fs fos A h hk rs ih t e q
  unfold L2.toT at e
  cases e
 ·intro ts e _
  unfold toTs at e
  cases e
  exact .nil
 ·intro v o A vs os B r rs h1 h2 ts e q
  unfold toTs at e
  obtain⟨t,e1,e2⟩:=Option.bind_eq_some_iff.mp e
  obtain⟨r',e3,rfl⟩:=Option.map_eq_some_iff.mp e2
  exact .cons (h1 e1 λb hb=>q b (List.mem_append_left _ hb)) (h2 e3 λb hb=>q b (List.mem_append_right _ hb))
end
inductive SReps(K:PySem.W.Frag)(F H:Hp):St→Env2→List Addr→Prop where
 |nil:SReps K F H [] [] []
 |skip {ov:Option V} {σ:St} {τ:Env2} {A:List Addr}:SReps K F H σ τ A→SReps K F H (ov::σ) (none::τ) A
 |cons {v:V} {o:O} {A:List Addr} {σ:St} {τ:Env2} {B:List Addr}:ORep K F H v o A→SReps K F H σ τ B→SReps K F H (some v::σ) (some o::τ) (A++B)
structure StR(K:PySem.W.Frag)(F H:Hp)(σ:St)(τ:Env2)(A:List Addr):Prop where
 reps:SReps K F H σ τ A
 nd:A.Nodup
 off: ∀p∈A,F p=none
 fh:Same F H
structure SE(F H:Hp)(A:List Addr)(F' H':Hp)(A':List Addr):Prop where
 ff:Same F F'
 keep: ∀p o,H p=some o→p∉A→H' p=some o
 up: ∀p o,H p=some o→∃o',H' p=some o'
 aa: ∀p∈A',p∈A∨H p=none
 nw: ∀p o,H p=some o→p∉A→F' p=F p
theorem SE.rfl{F H:Hp}{A:List Addr}:SE F H A F H A:=⟨Same.refl _,λ_ _ h _=>h,λ_ _ h=>⟨_,h⟩,λ_ h=>.inl h,λ_ _ _ _=>Eq.refl _⟩
theorem SE.trans{F H F1 H1 F2 H2:Hp}{A A1 A2:List Addr}(a:SE F H A F1 H1 A1)(b:SE F1 H1 A1 F2 H2 A2):SE F H A F2 H2 A2:=by
 have na: ∀p o,H p=some o→p∉A→p∉A1:=λp o h hA z=>by
  rcases a.aa p z with q|q
  ·exact hA q
  ·rw[h] at q;cases q
 refine⟨a.ff.trans b.ff,λp o h hA=>b.keep p o (a.keep p o h hA) (na p o h hA),λp o h=> ?_,λp hp=> ?_,λp o h hA=> ?_⟩
 ·obtain⟨o',h'⟩:=a.up p o h
  exact b.up p o' h'
 ·rcases b.aa p hp with q|q
  ·exact a.aa p q
  ·refine .inr ?_
   cases e:H p with
   |none=>exact Eq.refl _
   |some o=>
    obtain⟨o',h'⟩:=a.up p o e
    rw[h'] at q;cases q
 ·exact(b.nw p o (a.keep p o h hA) (na p o h hA)).trans (a.nw p o h hA)
section
variable {K:PySem.W.Frag} {F F' H H':Hp} {σ:St} {τ:Env2} {A:List Addr}
theorem SReps.length(r:SReps K F H σ τ A):σ.length=τ.length:=by
 induction r with
 |nil=>rfl
 |skip _ ih=>rw[List.length_cons,List.length_cons,ih]
 |cons _ _ ih=>rw[List.length_cons,List.length_cons,ih]
theorem SReps.there(r:SReps K F H σ τ A): ∀p∈A,∃u,H p=some u:=by
 induction r with
 |nil=>intro p hp;cases hp
 |skip _ ih=>exact ih
 |cons r _ ih=>
  intro p hp
  rcases List.mem_append.mp hp with hp|hp
  ·exact r.there p hp
  ·exact ih p hp
theorem SReps.frame(ff:Same F F')(r:SReps K F H σ τ A):(∀p∈A,H' p=H p)→SReps K F' H' σ τ A:=by
 induction r with
 |nil=>exact λ_=>.nil
 |skip _ ih=>exact λq=>.skip (ih q)
 |cons r _ ih=>exact λq=>.cons (r.frame ff λp hp=>q p (List.mem_append_left _ hp)) (ih λp hp=>q p (List.mem_append_right _ hp))
theorem SReps.at(r:SReps K F H σ τ A): ∀{i:Nat} {o:O},τ[i]? =some (some o)→∃v A1 Ai A2,σ[i]? =some (some v)∧A=A1++(Ai++A2)∧ORep K F H v o Ai∧
  ∀(F' H':Hp) (v':V) (o':O) (Ai':List Addr),Same F F'→(∀p∈A1++A2,H' p=H p)→ORep K F' H' v' o' Ai'→SReps K F' H' (σ.set i (some v')) (τ.set i (some o')) (A1++(Ai'++A2)):=by
 induction r with
 |nil=>intro i o e;simp at e
 |skip r ih=>
  intro i o e
  cases i with
  |zero=>simp at e
  |succ i=>
   obtain⟨v,A1,Ai,A2,h1,h2,h3,h4⟩:=ih (i:=i) (o:=o) (by simpa using e)
   exact⟨v,A1,Ai,A2,by simpa using h1,h2,h3,λF' H' v' o' Ai' ff q r'=>.skip (h4 F' H' v' o' Ai' ff q r')⟩
 |cons r rs ih=>
  rename_i v0 o0 A0 σ0 τ0 B0
  intro i o e
  cases i with
  |zero=>
   simp at e
   subst e
   exact⟨v0,[],A0,B0,rfl,rfl,r,λF' H' v' o' Ai' ff q r'=>SReps.cons (A:=Ai') (B:=B0) r' (rs.frame ff q)⟩
  |succ i=>
   obtain⟨v,A1,Ai,A2,h1,h2,h3,h4⟩:=ih (i:=i) (o:=o) (by simpa using e)
   refine⟨v,A0++A1,Ai,A2,by simpa using h1,by rw[h2,List.append_assoc],h3,λF' H' v' o' Ai' ff q r'=> ?_⟩
   rw[List.append_assoc]
   refine .cons (r.frame ff λp hp=>q p (by simp[hp])) (h4 F' H' v' o' Ai' ff (λp hp=>q p ?_) r')
   rw[List.append_assoc]
   exact List.mem_append_right _ hp
theorem SReps.put(r:SReps K F H σ τ A): ∀(i:Nat),∃A1 Ai A2,A=A1++(Ai++A2)∧
  ∀(F' H':Hp) (v':V) (o':O) (Ai':List Addr),i<τ.length→Same F F'→(∀p∈A1++A2,H' p=H p)→ORep K F' H' v' o' Ai'→SReps K F' H' (σ.set i (some v')) (τ.set i (some o')) (A1++(Ai'++A2)):=by
 induction r with
 |nil=>intro i;exact⟨[],[],[],rfl,λF' H' v' o' Ai' hi=>absurd hi (by simp)⟩
 |skip r ih=>
  rename_i ov σ0 τ0 A0
  intro i
  cases i with
  |zero=>exact⟨[],[],A0,rfl,λF' H' v' o' Ai' _ ff q r'=>SReps.cons (A:=Ai') (B:=A0) r' (r.frame ff q)⟩
  |succ i=>
   obtain⟨A1,Ai,A2,h2,h4⟩:=ih i
   exact⟨A1,Ai,A2,h2,λF' H' v' o' Ai' hi ff q r'=>.skip (h4 F' H' v' o' Ai' (by simpa using hi) ff q r')⟩
 |cons r rs ih=>
  rename_i v0 o0 A0 σ0 τ0 B0
  intro i
  cases i with
  |zero=>exact⟨[],A0,B0,rfl,λF' H' v' o' Ai' _ ff q r'=>SReps.cons (A:=Ai') (B:=B0) r' (rs.frame ff q)⟩
  |succ i=>
   obtain⟨A1,Ai,A2,h2,h4⟩:=ih i
   refine⟨A0++A1,Ai,A2,by rw[h2,List.append_assoc],λF' H' v' o' Ai' hi ff q r'=> ?_⟩
   rw[List.append_assoc]
   refine .cons (r.frame ff λp hp=>q p (by simp[hp])) (h4 F' H' v' o' Ai' (by simpa using hi) ff (λp hp=>q p ?_) r')
   rw[List.append_assoc]
   exact List.mem_append_right _ hp
end
@[simp] noncomputable def see:List Bool→Env2→Ev
 |true::m,o::τ=>(o.bind toT)::see m τ
 |false::m,_::τ=>none::see m τ
 |_,_=>[]
noncomputable def frz1(o:O):O:=match toT o with
 |some t=>.val t
 |none=>o
@[simp] noncomputable def frz:List Bool→Env2→Env2
 |true::m,o::τ=>(o.map frz1)::frz m τ
 |false::m,o::τ=>o::frz m τ
 |_,τ=>τ
section
variable {K:PySem.W.Frag} {F F' H H':Hp} {σ:St} {τ:Env2} {A:List Addr}
theorem SReps.thaw(r:SReps K F H σ τ A): ∀(m:List Bool),∃(B A':List Addr),(∀p∈B,p∈A)∧A'.Sublist A∧(A.Nodup→∀p∈A',p∉B)∧
  ∀F',Same F F'→(∀p∈B,F' p=H p)→SReps K F' H σ (frz m τ) A'∧ERep K F' σ (see m τ):=by
 induction r with
 |nil=>
  intro m
  refine⟨[],[],λp hp=>(by cases hp),List.Sublist.refl _,λ_ p hp=>(by cases hp),λF' ff q=>⟨?_,?_⟩⟩
  ·cases m with
   |nil=>exact .nil
   |cons b m=>cases b<;>exact .nil
  ·intro i t e
   cases m with
   |nil=>simp[see] at e
   |cons b m=>cases b<;>simp[see] at e
 |skip r ih=>
  rename_i ov σ0 τ0 A0
  intro m
  cases m with
  |nil=>
   refine⟨[],A0,λp hp=>(by cases hp),List.Sublist.refl _,λ_ p _ hp=>(by cases hp),λF' ff q=>⟨?_,?_⟩⟩
   ·exact SReps.frame ff (.skip r) λ_ _=>rfl
   ·intro i t e;simp[see] at e
  |cons b m=>
   obtain⟨B,A',h1,h2,h3,h4⟩:=ih m
   refine⟨B,A',h1,h2,h3,λF' ff q=> ?_⟩
   obtain⟨q1,q2⟩:=h4 F' ff q
   have e1:frz (b::m) (none::τ0)=none::frz m τ0:=by cases b<;>rfl
   have e2:see (b::m) (none::τ0)=none::see m τ0:=by cases b<;>rfl
   rw[e1,e2]
   refine⟨.skip q1,λi t e=> ?_⟩
   cases i with
   |zero=>simp at e
   |succ i=>
    obtain⟨v,a,b⟩:=q2 i t (by simpa using e)
    exact⟨v,by simpa using a,b⟩
 |cons r rs ih=>
  rename_i v0 o0 A0 σ0 τ0 B0
  intro m
  cases m with
  |nil=>
   refine⟨[],A0++B0,λp hp=>(by cases hp),List.Sublist.refl _,λ_ p _ hp=>(by cases hp),λF' ff q=>⟨?_,?_⟩⟩
   ·exact SReps.frame ff (.cons r rs) λ_ _=>rfl
   ·intro i t e;simp[see] at e
  |cons b m=>
   obtain⟨B,A',h1,h2,h3,h4⟩:=ih m
   cases ht:(if b=true then toT o0 else none) with
   |none=>
    have e1:frz (b::m) (some o0::τ0)=some o0::frz m τ0:=by
     cases b with
     |false=>rfl
     |true=>
      rw[if_pos rfl] at ht
      show(some (frz1 o0))::_=_
      unfold frz1
      rw[ht]
    have e2:see (b::m) (some o0::τ0)=none::see m τ0:=by
     cases b with
     |false=>rfl
     |true=>
      rw[if_pos rfl] at ht
      show(toT o0)::_=_
      rw[ht]
    refine⟨B,A0++A',λp hp=>List.mem_append_right _ (h1 p hp),(List.Sublist.refl _).append h2,λnd p hp=> ?_,λF' ff q=> ?_⟩
    ·rw[List.nodup_append] at nd
     rcases List.mem_append.mp hp with hp|hp
     ·exact λz=>nd.2.2 p hp p (h1 p z) rfl
     ·exact h3 nd.2.1 p hp
    ·obtain⟨q1,q2⟩:=h4 F' ff q
     rw[e1,e2]
     refine⟨.cons (r.frame ff λ_ _=>rfl) q1,λi t e=> ?_⟩
     cases i with
     |zero=>simp at e
     |succ i=>
      obtain⟨v,a,b⟩:=q2 i t (by simpa using e)
      exact⟨v,by simpa using a,b⟩
   |some t0=>
    have hb:b=true:=by
     cases b with
     |true=>rfl
     |false=>rw[if_neg (by decide)] at ht;cases ht
    subst hb
    rw[if_pos rfl] at ht
    have e1:frz (true::m) (some o0::τ0)=some (.val t0)::frz m τ0:=by
     show(some (frz1 o0))::_=_
     unfold frz1
     rw[ht]
    have e2:see (true::m) (some o0::τ0)=some t0::see m τ0:=by
     show(toT o0)::_=_
     rw[ht]
    refine⟨A0++B,A',λp hp=> ?_,h2.trans (List.sublist_append_right _ _),λnd p hp=> ?_,λF' ff q=> ?_⟩
    ·rcases List.mem_append.mp hp with hp|hp
     ·exact List.mem_append_left _ hp
     ·exact List.mem_append_right _ (h1 p hp)
    ·rw[List.nodup_append] at nd
     intro z
     rcases List.mem_append.mp z with z|z
     ·exact nd.2.2 p z p (h2.subset hp) rfl
     ·exact h3 nd.2.1 p hp z
    ·obtain⟨q1,q2⟩:=h4 F' ff λp hp=>q p (List.mem_append_right _ hp)
     have r0:Rep K F' v0 t0:=r.toT ff ht λp hp=>q p (List.mem_append_left _ hp)
     rw[e1,e2]
     refine⟨SReps.cons (A:=[]) (.val r0) q1,λi t e=> ?_⟩
     cases i with
     |zero=>simp at e;subst e;exact⟨v0,rfl,r0⟩
     |succ i=>
      obtain⟨v,a,b⟩:=q2 i t (by simpa using e)
      exact⟨v,by simpa using a,b⟩
end
end L2
set_option Elab.async false
set_option linter.all false
set_option maxRecDepth 100000
namespace L2
open PySem PySem.Spec PyProof.Rows
section
variable {K:PySem.W.Frag} {F F' H H':Hp} {σ:St} {τ:Env2} {A:List Addr}
theorem StR.len(S:StR K F H σ τ A):σ.length=τ.length:=S.reps.length
theorem StR.there(S:StR K F H σ τ A){p:Addr}(hp:p∈A): ∃u,H p=some u:=S.reps.there p hp
theorem StR.look(S:StR K F H σ τ A)(m:List Bool): ∃F0 A',Same F0 H∧ERep K F0 σ (see m τ)∧∀F' H',Ext F0 H F' H'→
  (∃F1,SE F H A F1 H' A∧StR K F1 H' σ τ A)∧SE F H A F' H' A'∧StR K F' H' σ (frz m τ) A':=by
 obtain⟨B,A',h1,h2,h3,h4⟩:=S.reps.thaw m
 have dec: ∀p,(if p∈B then H p else F p)=if p∈B then H p else F p:=λ_=>Eq.refl _
 let F0:Hp:=λp=>if p∈B then H p else F p
 have in0: ∀p,p∈B→F0 p=H p:=λp hp=>if_pos hp
 have out0: ∀p,p∉B→F0 p=F p:=λp hp=>if_neg hp
 have nF: ∀p o,F p=some o→p∉B:=λp o e hp=>by have:=S.off p (h1 p hp);rw[e] at this;cases this
 have s0:Same F F0:=λp o e=>by rw[out0 p (nF p o e)];exact e
 have fh0:Same F0 H:=λp o e=>by
  by_cases hp:p∈B
  ·rw[in0 p hp] at e;exact e
  ·rw[out0 p hp] at e;exact S.fh p o e
 obtain⟨q1,q2⟩:=h4 F0 s0 in0
 refine⟨F0,A',fh0,q2,λF' H' x=>⟨?_,?_,?_⟩⟩
 ·let F1:Hp:=λp=>if p∈B then none else F' p
  have in1: ∀p,p∈B→F1 p=none:=λp hp=>if_pos hp
  have out1: ∀p,p∉B→F1 p=F' p:=λp hp=>if_neg hp
  have s1:Same F F1:=λp o e=>by rw[out1 p (nF p o e)];exact x.ff p o (s0 p o e)
  refine⟨F1,⟨s1,λp o h _=>x.hh p o h,λp o h=>⟨o,x.hh p o h⟩,λp h=>.inl h,λp o h hA=> ?_⟩,⟨S.reps.frame s1 λp hp=> ?_,S.nd,λp hp=> ?_,λp o e=> ?_⟩⟩
  ·have hB:p∉B:=λz=>hA (h1 p z)
   rw[out1 p hB,x.nw p o h,out0 p hB]
  ·obtain⟨u,e⟩:=S.there hp
   rw[x.hh p u e,e]
  ·by_cases hB:p∈B
   ·exact in1 p hB
   ·obtain⟨u,e⟩:=S.there hp
    rw[out1 p hB,x.nw p u e,out0 p hB]
    exact S.off p hp
  ·by_cases hB:p∈B
   ·rw[in1 p hB] at e;cases e
   ·rw[out1 p hB] at e
    exact x.fh p o e
 ·refine⟨s0.trans x.ff,λp o h _=>x.hh p o h,λp o h=>⟨o,x.hh p o h⟩,λp h=>.inl (h2.subset h),λp o h hA=> ?_⟩
  have hB:p∉B:=λz=>hA (h1 p z)
  rw[x.nw p o h,out0 p hB]
 ·refine⟨q1.frame x.ff λp hp=> ?_,S.nd.sublist h2,λp hp=> ?_,x.fh⟩
  ·obtain⟨u,e⟩:=S.there (h2.subset hp)
   rw[x.hh p u e,e]
  ·obtain⟨u,e⟩:=S.there (h2.subset hp)
   rw[x.nw p u e,out0 p (h3 S.nd p hp)]
   exact S.off p (h2.subset hp)
theorem SE.sub{A' A'':List Addr}(x:SE F H A F' H' A')(h: ∀p∈A'',p∈A'):SE F H A F' H' A'':=⟨x.ff,x.keep,x.up,λp hp=>x.aa p (h p hp),x.nw⟩
theorem set_len{α:Type}{l:List α}{i:Nat}{a:α}(h: ¬i<l.length):l.set i a=l:=List.set_eq_of_length_le (by omega)
theorem nd_mid{A1 Ai A2:List Addr}(h:(A1++(Ai++A2)).Nodup):(A1++A2).Nodup:=h.sublist ((List.Sublist.refl _).append (List.sublist_append_right _ _))
theorem StR.setVal(S:StR K F H σ τ A){v:V}{t:T}(r:Rep K F v t)(i:Nat): ∃A',(∀p∈A',p∈A)∧StR K F H (σ.set i (some v)) (τ.set i (some (.val t))) A':=by
 by_cases hi:i<τ.length
 ·obtain⟨A1,Ai,A2,e,q⟩:=S.reps.put i
  subst e
  have sub: ∀p∈A1++A2,p∈A1++(Ai++A2):=λp hp=>by
   rcases List.mem_append.mp hp with hp|hp
   ·exact List.mem_append_left _ hp
   ·exact List.mem_append_right _ (List.mem_append_right _ hp)
  refine⟨A1++A2,sub,⟨?_,nd_mid S.nd,λp hp=>S.off p (sub p hp),S.fh⟩⟩
  have:=q F H v (.val t) [] hi (Same.refl _) (λ_ _=>rfl) (.val r)
  exact this
 ·have hi': ¬i<σ.length:=by rw[S.len];exact hi
  rw[set_len hi,set_len hi']
  exact⟨A,λ_ h=>h,S⟩
theorem upd_keep{H:Hp}{p q:Addr}{o:HO}(hp:H p=none){u:HO}(hq:H q=some u):upd H p o q=H q:=upd_ne (ne_of_none hq hp)
theorem StR.setNew(S:StR K F H σ τ A){p:Addr}{vs:List V}{ts:List T}(hp:H p=none)(rs:Reps K F vs ts)(i:Nat):
  ∃A',(∀q∈A',q∈A∨q=p)∧StR K F (upd H p (.lst vs)) (σ.set i (some (.ref p))) (τ.set i (some (.lst (ts.map .val)))) A':=by
 have fh':Same F (upd H p (.lst vs)):=λb o e=>by rw[upd_keep hp (S.fh b o e)];exact S.fh b o e
 by_cases hi:i<τ.length
 ·obtain⟨A1,Ai,A2,e,q⟩:=S.reps.put i
  subst e
  have sub: ∀b∈A1++A2,b∈A1++(Ai++A2):=λb hb=>by
   rcases List.mem_append.mp hb with hb|hb
   ·exact List.mem_append_left _ hb
   ·exact List.mem_append_right _ (List.mem_append_right _ hb)
  have pn: ∀b∈A1++(Ai++A2),b≠p:=λb hb=>by
   obtain⟨u,e⟩:=S.there hb
   exact ne_of_none e hp
  have r:=q F (upd H p (.lst vs)) (.ref p) (.lst (ts.map .val)) [p] hi (Same.refl _) (λb hb=>upd_ne (pn b (sub b hb))) (.lst upd_same (OReps.vals rs))
  refine⟨A1++([p]++A2),λb hb=> ?_,⟨r,?_,λb hb=> ?_,fh'⟩⟩
  ·rcases List.mem_append.mp hb with hb|hb
   ·exact .inl (List.mem_append_left _ hb)
   ·rcases List.mem_append.mp hb with hb|hb
    ·exact .inr (List.mem_singleton.mp hb)
    ·exact .inl (List.mem_append_right _ (List.mem_append_right _ hb))
  ·have nd:=nd_mid S.nd
   rw[List.nodup_append] at nd⊢
   refine⟨nd.1,?_,λa ha b hb=> ?_⟩
   ·show(p::A2).Nodup
    exact List.nodup_cons.mpr ⟨λz=>pn p (List.mem_append_right _ (List.mem_append_right _ z)) rfl,nd.2.1⟩
   ·rcases List.mem_append.mp hb with hb|hb
    ·rw[List.mem_singleton.mp hb]
     exact pn a (List.mem_append_left _ ha)
    ·exact nd.2.2 a ha b hb
  ·rcases List.mem_append.mp hb with hb|hb
   ·exact S.off b (List.mem_append_left _ hb)
   ·rcases List.mem_append.mp hb with hb|hb
    ·rw[List.mem_singleton.mp hb]
     exact S.fh.free hp
    ·exact S.off b (List.mem_append_right _ (List.mem_append_right _ hb))
 ·have hi': ¬i<σ.length:=by rw[S.len];exact hi
  rw[set_len hi,set_len hi']
  refine⟨A,λ_ h=>.inl h,S.reps.frame (Same.refl _) λb hb=> ?_,S.nd,S.off,fh'⟩
  obtain⟨u,e⟩:=S.there hb
  exact upd_keep hp e
theorem SE.new{p:Addr}{o:HO}{A' A'':List Addr}(x:SE F H A F' H' A')(hp:H' p=none)(h: ∀q∈A'',q∈A'∨q=p):SE F H A F' (upd H' p o) A'':=by
 refine⟨x.ff,λb u e hA=>by rw[upd_keep hp (x.keep b u e hA)];exact x.keep b u e hA,λb u e=> ?_,λb hb=> ?_,x.nw⟩
 ·obtain⟨u',e'⟩:=x.up b u e
  exact⟨u',by rw[upd_keep hp e'];exact e'⟩
 ·rcases h b hb with q|rfl
  ·exact x.aa b q
  ·refine .inr ?_
   cases e:H b with
   |none=>rfl
   |some u=>
    obtain⟨u',e'⟩:=x.up b u e
    rw[e'] at hp;cases hp
theorem set_self{α:Type}{l:List α}{i:Nat}{a:α}(h:l[i]? =some a):l.set i a=l:=by
 refine List.ext_getElem? λj=> ?_
 rw[List.getElem?_set]
 split
 ·rename_i e
  subst e
  split
  ·exact h.symm
  ·rename_i hn
   rw[List.getElem?_eq_none (by omega)] at h
   cases h
 ·rfl
theorem StR.write(S:StR K F H σ τ A){i:Nat}{os:List O}(hi:τ[i]? =some (some (.lst os))): ∃p vs A0,σ[i]? =some (some (.ref p))∧H p=some (.lst vs)∧OReps K F H vs os A0∧p∈A∧vs.length=os.length∧
  ∀vs' os',(OReps K F (upd H p (.lst vs')) vs os A0→∃A0',A0'.Sublist A0∧OReps K F (upd H p (.lst vs')) vs' os' A0')→∃A',(∀q∈A',q∈A)∧StR K F (upd H p (.lst vs')) σ (τ.set i (some (.lst os'))) A':=by
 obtain⟨v,A1,Ai,A2,h1,h2,h3,h4⟩:=S.reps.at hi
 subst h2
 cases h3 with
 |lst hp rs=>
  rename_i p vs A0
  have nd:=S.nd
  rw[List.nodup_append] at nd
  have nd2:=nd.2.1
  rw[List.nodup_append] at nd2
  have np:p∉A0:=(List.nodup_cons.mp nd2.1).1
  have n1: ∀q∈A1++A2,q≠p:=λq hq=>by
   rcases List.mem_append.mp hq with hq|hq
   ·exact nd.2.2 q hq p (List.mem_append_left _ List.mem_cons_self)
   ·exact λz=>nd2.2.2 p List.mem_cons_self q hq z.symm
  refine⟨p,vs,A0,h1,hp,rs,List.mem_append_right _ (List.mem_append_left _ List.mem_cons_self),rs.length,λvs' os' hr=> ?_⟩
  obtain⟨A0',hs,rs'⟩:=hr (rs.frame (H':=upd H p (.lst vs')) (Same.refl _) λq hq=>upd_ne λz=>np (z▸hq))
  have r:=h4 F (upd H p (.lst vs')) (.ref p) (.lst os') (p::A0') (Same.refl _) (λq hq=>upd_ne (n1 q hq)) (.lst upd_same rs')
  rw[set_self h1] at r
  have subl:(A1++(p::A0'++A2)).Sublist (A1++(p::A0++A2)):=(List.Sublist.refl _).append ((hs.cons₂ p).append (List.Sublist.refl _))
  refine⟨_,λq hq=>subl.subset hq,⟨r,S.nd.sublist subl,λq hq=>S.off q (subl.subset hq),λb o e=> ?_⟩⟩
  have hb:b≠p:=λz=>by
   have:=S.off p (List.mem_append_right _ (List.mem_append_left _ List.mem_cons_self))
   rw[z,this] at e
   cases e
  rw[upd_ne hb]
  exact S.fh b o e
theorem SE.write{p:Addr}{o u:HO}{A' A'':List Addr}(x:SE F H A F' H' A')(hp:p∈A')(hH:H' p=some u)(h: ∀q∈A'',q∈A'):SE F H A F' (upd H' p o) A'':=by
 have pn: ∀b w,H b=some w→b∉A→b≠p:=λb w e hA z=>by
  subst z
  rcases x.aa b hp with q|q
  ·exact hA q
  ·rw[e] at q;cases q
 refine⟨x.ff,λb w e hA=>by rw[upd_ne (pn b w e hA)];exact x.keep b w e hA,λb w e=> ?_,λb hb=>x.aa b (h b hb),x.nw⟩
 by_cases z:b=p
 ·subst z;exact⟨o,upd_same⟩
 ·obtain⟨w',e'⟩:=x.up b w e
  exact⟨w',by rw[upd_ne z];exact e'⟩
end
inductive Out where
 |nx (τ:Env2)
 |rt (t:T) (τ:Env2)
 |bk (τ:Env2)
 |ct (τ:Env2)
noncomputable abbrev DS:=Env2→Option Out
noncomputable def Fix(fx:List Nat)(σ σ':St):Prop:= ∀i∈fx,σ'[i]? =σ[i]?
theorem Fix.rfl{fx:List Nat}{σ:St}:Fix fx σ σ:=λ_ _=>Eq.refl _
theorem Fix.trans{fx:List Nat}{σ σ1 σ2:St}(a:Fix fx σ σ1)(b:Fix fx σ1 σ2):Fix fx σ σ2:=λi hi=>(b i hi).trans (a i hi)
theorem Fix.set{fx:List Nat}{σ:St}{i:Nat}{o:Option V}(h:i∉fx):Fix fx σ (σ.set i o):=λj hj=>by
 rw[List.getElem?_set_ne]
 intro e;subst e;exact h hj
noncomputable def OutOk(K:PySem.W.Frag)(fx:List Nat)(F H:Hp)(A:List Addr)(σ:St)(D:Ends):Out→Prop
 | .nx τ=> ∀σ' F' H' A',Fix fx σ σ'→SE F H A F' H' A'→StR K F' H' σ' τ A'→D.nx σ' H'
 | .bk τ=> ∀σ' F' H' A',Fix fx σ σ'→SE F H A F' H' A'→StR K F' H' σ' τ A'→D.bk σ' H'
 | .ct τ=> ∀σ' F' H' A',Fix fx σ σ'→SE F H A F' H' A'→StR K F' H' σ' τ A'→D.ct σ' H'
 | .rt t τ=> ∀σ' v F' H' A',Fix fx σ σ'→SE F H A F' H' A'→StR K F' H' σ' τ A'→Rep K F' v t→D.rt v H'
theorem OutOk.step{K:PySem.W.Frag}{fx:List Nat}{F H F1 H1:Hp}{A A1:List Addr}{σ σ1:St}{D:Ends}{o:Out}(h:OutOk K fx F H A σ D o)(hf:Fix fx σ σ1)(x:SE F H A F1 H1 A1):OutOk K fx F1 H1 A1 σ1 D o:=by
 cases o with
 |nx τ=>exact λσ' F' H' A' f y S=>h σ' F' H' A' (hf.trans f) (x.trans y) S
 |bk τ=>exact λσ' F' H' A' f y S=>h σ' F' H' A' (hf.trans f) (x.trans y) S
 |ct τ=>exact λσ' F' H' A' f y S=>h σ' F' H' A' (hf.trans f) (x.trans y) S
 |rt t τ=>exact λσ' v F' H' A' f y S=>h σ' v F' H' A' (hf.trans f) (x.trans y) S
noncomputable def tD(K:PySem.W.Frag)(fx:List Nat)(d:DS):TS:=λD σ H=> ∃F τ A o,StR K F H σ τ A∧d τ=some o∧OutOk K fx F H A σ D o
noncomputable def VS(X:Cx)(fx:List Nat)(st:Stmt)(d:DS):Prop:=PS X st (tD X.K fx d)
noncomputable def VSs(X:Cx)(fx:List Nat)(st:List Stmt)(d:DS):Prop:=PSs X st (tD X.K fx d)
section
variable {X:Cx} {fx:List Nat} {st:Stmt} {sts:List Stmt} {d d':DS} {i:Nat} {m:List Bool} {e:Expr} {f:DE} {pos:Pos}
noncomputable def dSeq(d e:DS):DS:=λτ=>(d τ).bind λo=>match o with
 | .nx τ'=>e τ'
 |o=>some o
noncomputable def dNil:DS:=λτ=>some (.nx τ)
theorem vss_nil:VSs X fx [] dNil:=PSs.le pss_nil λD σ H ⟨F,τ,A,o,S,e,ok⟩=>by
 cases e
 exact ok σ F H A .rfl .rfl S
theorem vss_cons(h1:VS X fx st d)(h2:VSs X fx sts d'):VSs X fx (st::sts) (dSeq d d'):=PSs.le (pss_cons h1 h2) λD σ H ⟨F,τ,A,o,S,e,ok⟩=>by
 obtain⟨o1,e1,e2⟩:=Option.bind_eq_some_iff.mp e
 refine⟨F,τ,A,o1,S,e1,?_⟩
 cases o1 with
 |nx τ1=>exact λσ' F' H' A' f y S'=>⟨F',τ1,A',o,S',e2,ok.step f y⟩
 |bk τ1=>cases e2;exact ok
 |ct τ1=>cases e2;exact ok
 |rt t τ1=>cases e2;exact ok
theorem vss_one(h1:VS X fx st d):VSs X fx [st] d:=pss_one h1
@[simp] noncomputable def aft(m:List Bool)(t:T)(τ:Env2):Env2:=if t.flat then τ else frz m τ
theorem StR.after{K:PySem.W.Frag}{F H:Hp}{σ:St}{τ:Env2}{A:List Addr}(S:StR K F H σ τ A)(m:List Bool): ∃F0,Same F0 H∧ERep K F0 σ (see m τ)∧
  (∀F' H',Ext F0 H F' H'→∃F1,SE F H A F1 H' A∧StR K F1 H' σ τ A)∧
  ∀F' H' v t,Ext F0 H F' H'→Rep K F' v t→∃F1 A1,SE F H A F1 H' A1∧StR K F1 H' σ (aft m t τ) A1∧Rep K F1 v t:=by
 obtain⟨F0,A',h1,h2,h3⟩:=S.look m
 refine⟨F0,h1,h2,λF' H' x=>(h3 F' H' x).1,λF' H' v t x r=> ?_⟩
 obtain⟨⟨F1,a,b⟩,c,dd⟩:=h3 F' H' x
 unfold aft
 by_cases hf:t.flat=true
 ·rw[if_pos hf]
  exact⟨F1,A,a,b,r.flat hf⟩
 ·rw[if_neg hf]
  exact⟨F',A',c,dd,r⟩
noncomputable def dSet(i:Nat)(m:List Bool)(f:DE):DS:=λτ=>(f (see m τ)).bind λt=>some (.nx ((aft m t τ).set i (some (.val t))))
theorem vs_setP(hp:PS X st (tAsg (tE X.K f) (gName i)))(hfx:i∉fx):VS X fx st (dSet i m f):=PS.le hp λD σ H ⟨F,τ,A,o,S,e,ok⟩=>by
 obtain⟨t,e1,e2⟩:=Option.bind_eq_some_iff.mp e
 cases e2
 obtain⟨F0,h1,h2,_,h3⟩:=S.after m
 refine⟨F0,_,t,h1,h2,e1,λv H' F' x r=> ?_⟩
 obtain⟨F1,A1,a,b,c⟩:=h3 F' H' v t x r
 obtain⟨A2,q1,q2⟩:=b.setVal c i
 exact ok _ F1 H' A2 (.set hfx) (a.sub q1) q2
@[simp] noncomputable def afts(m:List Bool)(ts:List T)(τ:Env2):Env2:=if ts.all T.flat then τ else frz m τ
theorem Reps.flat{K:PySem.W.Frag}{F F':Hp}: ∀{vs:List V} {ts:List T},Reps K F vs ts→ts.all T.flat=true→Reps K F' vs ts
 |_,_,.nil,_=>.nil
 |_,_,.cons r rs,h=>by
  rw[List.all_cons,Bool.and_eq_true] at h
  exact .cons (r.flat h.1) (Reps.flat rs h.2)
noncomputable def dSetF(i:Nat)(m:List Bool)(f:DA):DS:=λτ=>(f (see m τ)).bind λts=>some (.nx ((afts m ts τ).set i (some (.lst (ts.map .val)))))
theorem StR.afters{K:PySem.W.Frag}{F H:Hp}{σ:St}{τ:Env2}{A:List Addr}(S:StR K F H σ τ A)(m:List Bool): ∃F0,Same F0 H∧ERep K F0 σ (see m τ)∧
  ∀F' H' vs ts,Ext F0 H F' H'→Reps K F' vs ts→∃F1 A1,SE F H A F1 H' A1∧StR K F1 H' σ (afts m ts τ) A1∧Reps K F1 vs ts:=by
 obtain⟨F0,A',h1,h2,h3⟩:=S.look m
 refine⟨F0,h1,h2,λF' H' v t x r=> ?_⟩
 obtain⟨⟨F1,a,b⟩,c,dd⟩:=h3 F' H' x
 unfold afts
 by_cases hf:t.all T.flat=true
 ·rw[if_pos hf]
  exact⟨F1,A,a,b,r.flat hf⟩
 ·rw[if_neg hf]
  exact⟨F',A',c,dd,r⟩
theorem vs_setF{f:DA}(hp:PS X st (tAsg (tFr X.K f) (gName i)))(hfx:i∉fx):VS X fx st (dSetF i m f):=PS.le hp λD σ H ⟨F,τ,A,o,S,e,ok⟩=>by
 obtain⟨ts,e1,e2⟩:=Option.bind_eq_some_iff.mp e
 cases e2
 obtain⟨F0,h1,h2,h3⟩:=S.afters m
 refine⟨F0,_,ts,h1,h2,e1,λp vs H' F' x hp r=> ?_⟩
 obtain⟨F1,A1,a,b,c⟩:=h3 F' H' vs ts x r
 obtain⟨A2,q1,q2⟩:=b.setNew hp c i
 exact ok _ F1 _ A2 (.set hfx) (a.new hp q1) q2
noncomputable def dRet(m:List Bool)(f:DE):DS:=λτ=>(f (see m τ)).bind λt=>some (.rt t (aft m t τ))
theorem vs_ret(hp:VE X e f):VS X fx (.Return (some e) pos) (dRet m f):=PS.le (ps_ret hp) λD σ H ⟨F,τ,A,o,S,e,ok⟩=>by
 obtain⟨t,e1,e2⟩:=Option.bind_eq_some_iff.mp e
 cases e2
 obtain⟨F0,h1,h2,_,h3⟩:=S.after m
 refine⟨F0,_,t,h1,h2,e1,λv H' F' x r=> ?_⟩
 obtain⟨F1,A1,a,b,c⟩:=h3 F' H' v t x r
 exact ok σ v F1 H' A1 .rfl a b c
noncomputable def dRetN:DS:=λτ=>some (.rt .non τ)
noncomputable def dBreak:DS:=λτ=>some (.bk τ)
noncomputable def dCont:DS:=λτ=>some (.ct τ)
noncomputable def dExp(m:List Bool)(f:DE):DS:=λτ=>(f (see m τ)).bind λ_=>some (.nx τ)
noncomputable def dIf(m:List Bool)(c:DT)(d d':DS):DS:=λτ=>(c (see m τ)).bind λb=>if b=true then d τ else d' τ
theorem vs_if{c:Expr}{a b:List Stmt}{t:DT}(hc:VT X c t)(ha:VSs X fx a d)(hb:VSs X fx b d'):VS X fx (.If c a b pos) (dIf m t d d'):=PS.le (ps_if hc ha hb) λD σ H ⟨F,τ,A,o,S,e,ok⟩=>by
 obtain⟨k,e1,e2⟩:=Option.bind_eq_some_iff.mp e
 obtain⟨F0,h1,h2,h3,_⟩:=S.after m
 refine⟨F0,_,k,h1,h2,e1,λH' F' x=> ?_⟩
 obtain⟨F1,a,b⟩:=h3 F' H' x
 cases k with
 |true=>rw[if_pos rfl] at e2⊢;exact⟨F1,τ,A,o,b,e2,ok.step .rfl a⟩
 |false=>rw[if_neg (by decide)] at e2⊢;exact⟨F1,τ,A,o,b,e2,ok.step .rfl a⟩
noncomputable def dApp(i:Nat)(m:List Bool)(f:DE):DS:=λτ=>(f (see m τ)).bind λt=>match (aft m t τ)[i]? with
 |some (some (.lst os))=>if os.length<lim then some (.nx ((aft m t τ).set i (some (.lst (os++[.val t]))))) else none
 |_=>none
theorem frz_lst{m:List Bool}{τ:Env2}: ∀{i:Nat} {os:List O},(frz m τ)[i]? =some (some (.lst os))→τ[i]? =some (some (.lst os)):=by
 induction m generalizing τ with
 |nil=>intro i os h;cases τ<;>exact h
 |cons b m ih=>
  intro i os h
  cases τ with
  |nil=>cases b<;>exact h
  |cons o τ=>
   cases i with
   |zero=>
    cases b with
    |false=>exact h
    |true=>
     cases o with
     |none=>simp[frz] at h
     |some o=>
      simp only[frz,Option.map_some,List.getElem?_cons_zero,Option.some.injEq] at h⊢
      unfold frz1 at h
      split at h
      ·cases h
      ·exact h
   |succ i=>
    have:(frz m τ)[i]? =some (some (.lst os)):=by cases b<;>simpa[frz] using h
    simpa using ih this
theorem aft_lst{m:List Bool}{τ:Env2}{t:T}{i:Nat}{os:List O}(h:(aft m t τ)[i]? =some (some (.lst os))):τ[i]? =some (some (.lst os)):=by
 unfold aft at h
 split at h
 ·exact h
 ·exact frz_lst h
theorem vs_app(hp:PS X st (tDrop (tBM X.K "list" rAppend (tVar i) (tCons (tE X.K f) tNil)))):VS X fx st (dApp i m f):=PS.le hp λD σ H ⟨F,τ,A,o,S,e,ok⟩=>by
 obtain⟨t,e1,e2⟩:=Option.bind_eq_some_iff.mp e
 split at e2
 ·rename_i os hos
  split at e2
  ·rename_i hlen
   cases e2
   obtain⟨F0,h1,h2,_,h3⟩:=S.after m
   obtain⟨p0,vs0,A00,g1,g2,g3,g4,g5,g6⟩:=S.write (aft_lst hos)
   refine⟨.ref p0,g1,.inl ⟨rfl,vs0,SqL.of g2⟩,F0,_,t,h1,h2,e1,λv H' F' x r=> ?_⟩
   obtain⟨F1,A1,a,b,c⟩:=h3 F' H' v t x r
   obtain⟨p,vs,A0,k1,k2,k3,k4,k5,k6⟩:=b.write hos
   rw[g1] at k1
   cases k1
   refine⟨p0,vs,v,rfl,rfl,k2,by have:=lim_lt;omega,?_⟩
   obtain⟨A2,q1,q2⟩:=k6 (vs++[v]) (os++[.val t]) λz=>by
    have:=z.snoc (.val c)
    rw[List.append_nil] at this
    exact⟨A0,List.Sublist.refl _,this⟩
   exact ok σ F1 _ A2 .rfl (a.write k4 k2 q1) q2
  ·cases e2
 ·cases e2
end
end L2
set_option Elab.async false
set_option linter.all false
set_option maxRecDepth 100000
namespace L2
open PySem PySem.Spec PyProof.Rows
noncomputable def asB:T→Option Bool
 | .bl b=>some b
 |_=>none
noncomputable def truT:T→Option Bool
 | .non=>some false
 | .bl b=>some b
 | .int i=>some (i !=0)
 | .str y=>if y.length≤lim then some ((y.length:Int) !=0) else none
 | .lst ts=>some (!ts.isEmpty)
 | .tup ts=>some (!ts.isEmpty)
 | .scr ns=>some (!ns.isEmpty)
 | .dic kvs=>some (!kvs.isEmpty)
 |_=>none
theorem Reps.empty{K:PySem.W.Frag}{F:Hp}{vs:List V}{ts:List T}(r:Reps K F vs ts):vs.isEmpty=ts.isEmpty:=by cases r<;>rfl
noncomputable def dNot(f:DT):DT:=λε=>(f ε).map not
noncomputable def dAnd(f g:DT):DT:=λε=>(f ε).bind λb=>if b=true then g ε else some false
noncomputable def dOr(f g:DT):DT:=λε=>(f ε).bind λb=>if b=true then some true else g ε
noncomputable def dTru(f:DE):DT:=λε=>(f ε).bind truT
noncomputable def dB(f:DE):DT:=λε=>(f ε).bind asB
noncomputable def dAndV(f g:DE):DE:=λε=>(f ε).bind λt=>match t with
 | .bl true=>g ε
 | .bl false=>some (.bl false)
 |_=>none
noncomputable def dOrV(f g:DE):DE:=λε=>(f ε).bind λt=>match t with
 | .bl true=>some (.bl true)
 | .bl false=>g ε
 |_=>none
noncomputable def dNotV(f:DE):DE:=λε=>(f ε).bind λt=>match t with
 | .bl b=>some (.bl (!b))
 |_=>none
noncomputable def dIfE(c:DT)(f g:DE):DE:=λε=>(c ε).bind λb=>if b=true then f ε else g ε
section
variable {X:Cx} {e a b c:Expr} {pos:Pos} {f g h:DE} {p q:DT} {rest:List Expr}
theorem vt_tru(he:VE X e f)(hw: ∀whole,isTrue e X.env whole=(do let v←whole;standAt e.pos;holding [v] (truthy v)):=by intro _;rfl):VT X e (dTru f):=PT.le (pt_truth he hw) λσ H Q ⟨F,ε,k,hF,hE,e,q⟩=>by
 obtain⟨t,e1,e2⟩:=Option.bind_eq_some_iff.mp e
 refine⟨F,ε,t,hF,hE,e1,λv H' F' x r=>⟨k,?_,q H' F' x⟩⟩
 have hl:=lim_le
 unfold truT at e2
 split at e2
 ·cases r.inv_non;cases e2;rfl
 ·cases r.inv_bl;cases e2;rfl
 ·cases r.inv_int;cases e2;rfl
 ·cases r.inv_str
  split at e2
  ·cases e2;exact⟨by omega,rfl⟩
  ·cases e2
 ·obtain⟨p,vs,rfl,hp,rs⟩:=r.inv_lst
  cases e2
  exact .inl ⟨vs,SqL.of (x.fh _ _ hp),by rw[rs.empty]⟩
 ·obtain⟨p,vs,rfl,hp,rs⟩:=r.inv_tup
  cases e2
  exact .inr (.inl ⟨vs,x.fh.tupS hp,by rw[rs.empty]⟩)
 ·obtain⟨p,rfl,hp⟩:=r.inv_scr
  cases e2
  exact .inl ⟨_,x.fh.seq hp,by cases ‹List Int› <;>rfl⟩
 ·cases e2
  cases r with
  |dic hp hk rs=>
   refine .inr (.inr ⟨_,hp.same x.fh,?_⟩)
   have:=congrArg List.isEmpty hk
   simpa using this.symm
 ·cases e2
theorem vt_cmpP{t:DE}(hp:PT X e (tTest (tE X.K t))):VT X e (dB t):=PT.le hp λσ H Q ⟨F,ε,k,hF,hE,e,q⟩=>by
 obtain⟨t,e1,e2⟩:=Option.bind_eq_some_iff.mp e
 refine⟨F,ε,t,hF,hE,e1,λv H' F' x r=> ?_⟩
 unfold asB at e2
 split at e2
 ·cases r.inv_bl
  cases e2
  exact⟨k,rfl,q H' F' x⟩
 ·cases e2
theorem PT.test{t t':TE}(h:PT X e (tTest t))(w: ∀σ H Q,t' σ H Q→t σ H Q):PT X e (tTest t'):=PT.le h λσ H Q q=>w σ H _ q
theorem vt2{r:R2}{op:T→T→Option T}(hr:OT X.K r op)(hB:PT X e (tTest (tOp r (tE X.K f) (tE X.K g)))):VT X e (dB (d2 op f g)):=vt_cmpP (hB.test λσ H Q ⟨F,ε,u,hF,hE,e,q⟩=>by
 obtain⟨s,t,e1,e2,e3⟩:=d2_some e
 exact⟨F,ε,s,hF,hE,e1,λx H1 F1 x1 rx=>⟨F1,ε,t,x1.fh,hE.mono x1.ff,e2,λy H2 F2 x2 ry=>hr F2 H2 x y s t u Q x2.fh (rx.mono x2.ff) ry e3 λv H' F' x3 rv=>q v H' F' (x1.trans (x2.trans x3)) rv⟩⟩)
theorem vt_not(ha:VT X a p):VT X (.UnaryOp .Not a pos) (dNot p):=PT.le (pt_not ha) λσ H Q ⟨F,ε,k,hF,hE,e,q⟩=>by
 obtain⟨k',e1,rfl⟩:=Option.map_eq_some_iff.mp e
 exact⟨F,ε,k',hF,hE,e1,λH' F' x=>q H' F' x⟩
theorem vw_and1(ha:VT X a p):VW X (.BoolOp .And [a] pos) p:=pw_and1 ha
theorem vw_or1(ha:VT X a p):VW X (.BoolOp .Or [a] pos) p:=pw_or1 ha
theorem vw_and(ha:VT X a p)(hb:VW X (.BoolOp .And (b::rest) pos) q):VW X (.BoolOp .And (a::b::rest) pos) (dAnd p q):=PW.le (pw_and ha hb) λσ H Q ⟨F,ε,k,hF,hE,e,qq⟩=>by
 obtain⟨k',e1,e2⟩:=Option.bind_eq_some_iff.mp e
 refine⟨F,ε,k',hF,hE,e1,λH' F' x=> ?_⟩
 cases k' with
 |true=>rw[if_pos rfl] at e2⊢;exact⟨F',ε,k,x.fh,hE.mono x.ff,e2,λH2 F2 y=>qq H2 F2 (x.trans y)⟩
 |false=>rw[if_neg (by decide)] at e2⊢;cases e2;exact qq H' F' x
theorem vw_or(ha:VT X a p)(hb:VW X (.BoolOp .Or (b::rest) pos) q):VW X (.BoolOp .Or (a::b::rest) pos) (dOr p q):=PW.le (pw_or ha hb) λσ H Q ⟨F,ε,k,hF,hE,e,qq⟩=>by
 obtain⟨k',e1,e2⟩:=Option.bind_eq_some_iff.mp e
 refine⟨F,ε,k',hF,hE,e1,λH' F' x=> ?_⟩
 cases k' with
 |true=>rw[if_pos rfl] at e2⊢;cases e2;exact qq H' F' x
 |false=>rw[if_neg (by decide)] at e2⊢;exact⟨F',ε,k,x.fh,hE.mono x.ff,e2,λH2 F2 y=>qq H2 F2 (x.trans y)⟩
theorem vt_w(h:VW X e p):VT X e p:=PW.pt h
theorem ve_one{op}(h:VE X a f):VE X (.BoolOp op [a] pos) f:=pe_one h
theorem ve_and(ha:VE X a f)(hb:VE X (.BoolOp .And (b::rest) pos) g):VE X (.BoolOp .And (a::b::rest) pos) (dAndV f g):=PE.le (pe_and ha hb) λσ H Q ⟨F,ε,u,hF,hE,e,qq⟩=>by
 obtain⟨t,e1,e2⟩:=Option.bind_eq_some_iff.mp e
 refine⟨F,ε,t,hF,hE,e1,λv H' F' x r=> ?_⟩
 split at e2
 ·cases r.inv_bl
  exact⟨true,rfl,by rw[if_pos rfl];exact⟨F',ε,u,x.fh,hE.mono x.ff,e2,λv2 H2 F2 y r2=>qq v2 H2 F2 (x.trans y) r2⟩⟩
 ·cases r.inv_bl
  cases e2
  exact⟨false,rfl,by rw[if_neg (by decide)];exact qq _ H' F' x (.bl _)⟩
 ·cases e2
noncomputable def eqT(s t:T):Option T:=if eqOk s t&&decide (dep s≤60) then some (.bl (eqB s t)) else none
noncomputable def neT(s t:T):Option T:=if eqOk s t&&decide (dep s≤60) then some (.bl (!eqB s t)) else none
noncomputable def rEqT(K:PySem.W.Frag)(neg:Bool):R2:=λx y H Q=> ∃s t,Rep K H x s∧Rep K H y t∧eqOk s t=true∧dep s≤60∧Q (.bl (if neg=true then !eqB s t else eqB s t)) H
theorem flat_or{s t:T}(h:eqOk s t=true):(s.flat=true∧t.flat=true)∨(∃a b,s=.lst a∧t=.lst b)∨∃a b,s=.tup a∧t=.tup b:=by
 unfold eqOk at h
 split at h
 ·exact .inr (.inl ⟨_,_,rfl,rfl⟩)
 ·exact .inr (.inr ⟨_,_,rfl,rfl⟩)
 ·cases h
 ·cases h
 ·exact .inl (Bool.and_eq_true_iff.mp h)
theorem eq_flat{s t:T}{x y:V}{K:PySem.W.Frag}{H:Hp}(rx:Rep K H x s)(ry:Rep K H y t)(f1:s.flat=true)(f2:t.flat=true)(ho:eqOk s t=true):scal x y=true∧decide (x=y)=eqB s t:=by
 cases rx<;>first|(exact absurd (show false=true from f1) Bool.false_ne_true)|skip
 all_goals cases ry<;>first|(exact absurd (show false=true from f2) Bool.false_ne_true)|skip
 all_goals first
  |(unfold eqOk at ho;exact absurd ho (by decide))
  |(refine⟨rfl,?_⟩;unfold eqB;first|rfl|(rw[Bool.eq_iff_iff];simp))
theorem items_eq{pins:List (Addr×Obj)}{σ:St}{H:Hp}{st:Shared}{A:Around}{n:Nat}(I:Inv X pins σ H st)(hin:A.in1.units+n<cLine){vs ws:List V}{us us':List Value}{a b:List T}(hd':deps a≤n)(ra:Reps X.K H vs a)(rb:Reps X.K H ws b)(va:Vals vs us)(vb:Vals ws us')(ho':eqOks a b=true):
  ∀j (h1:j<us.toArray.size) (h2:j<us'.toArray.size),SeqAt.EqAt A.in1 st us.toArray[j] us'.toArray[j] (eqB (a.getD j .non) (b.getD j .non)):=by
 intro j h1 h2
 have l1:j<us.length:=by simpa using h1
 have l2:j<us'.length:=by simpa using h2
 have la:=ra.length
 have lb:=rb.length
 have lva:=va.length
 have lvb:=vb.length
 have ga:a[j]? =some (a.getD j .non):=by rw[List.getD_eq_getElem?_getD,List.getElem?_eq_getElem (by omega)];rfl
 have gb:b[j]? =some (b.getD j .non):=by rw[List.getD_eq_getElem?_getD,List.getElem?_eq_getElem (by omega)];rfl
 obtain⟨x',hx,rx⟩:=ra.get ga
 obtain⟨y',hy,ry⟩:=rb.get gb
 obtain⟨u',hu',ru⟩:=va.get hx
 obtain⟨w',hw',rw'⟩:=vb.get hy
 have eu:us.toArray[j]=u':=by
  have:=List.getElem?_eq_getElem (l:=us) l1
  rw[this] at hu'
  simpa using hu'
 have ew:us'.toArray[j]=w':=by
  have:=List.getElem?_eq_getElem (l:=us') l2
  rw[this] at hw'
  simpa using hw'
 rw[eu,ew]
 exact eqAt_rep I n A.in1 _ _ x' y' u' w' (Nat.le_trans (dep_get ga) hd') hin rx ry ru rw' (eqOk_get ho' ga gb)
theorem op_eqT(hu:X.A.units+64<cLine):OpR X (compareOp .Eq) (rEqT X.K false):=by
 intro pins s σ H x y v u Q I rx ry ⟨s1,t1,r1,r2,ho,hd,q⟩
 rcases flat_or ho with⟨f1,f2⟩|⟨a,b,rfl,rfl⟩|⟨a,b,rfl,rfl⟩
 ·obtain⟨hs,e⟩:=eq_flat r1 r2 f1 f2 ho
  exact op_eq pins s σ H x y v u Q I rx ry ⟨hs,by rw[e];exact q⟩
 ·obtain⟨p,vs,rfl,hp,rs⟩:=r1.inv_lst
  obtain⟨p',vs',rfl,hp',rs'⟩:=r2.inv_lst
  cases rx
  cases ry
  obtain⟨its,va,pl,hz⟩:=I.list (SqL.of hp)
  obtain⟨its',vb,pl',hz'⟩:=I.list (SqL.of hp')
  have la:=rs.length
  have lb:=rs'.length
  have lva:=va.length
  have lvb:=vb.length
  unfold dep at hd
  unfold eqOk at ho
  have q':Q (.bl (eqBs a b)) H:=by rw[if_neg (by decide)] at q;unfold eqB at q;exact q
  by_cases hl:a.length=b.length
  ·refine SeqAt.eq_listAt (e:=λj=>eqB (a.getD j .non) (b.getD j .non)) pl.isList pl'.isList (by simp only[List.size_toArray];omega) (by omega) (items_eq (n:=60) I (by rw[Around.in1_units];omega) (by omega) rs rs' va vb ho) ?_
   have ez:its.toArray.size=a.length:=by simp only[List.size_toArray];omega
   rw[ez,←eqBs_eq a b hl]
   exact⟨.bl _,H,I,rfl,q'⟩
  ·refine SeqAt.eq_list_lengthsAt pl.isList pl'.isList (by simp only[List.size_toArray];simp;omega) (by omega) ?_
   rw[eqBs_len hl] at q'
   exact⟨.bl _,H,I,rfl,q'⟩
 ·obtain⟨p,vs,rfl,hp,rs⟩:=r1.inv_tup
  obtain⟨p',vs',rfl,hp',rs'⟩:=r2.inv_tup
  cases rx
  cases ry
  obtain⟨its,va,pl,hz⟩:=I.tuple hp
  obtain⟨its',vb,pl',hz'⟩:=I.tuple hp'
  have la:=rs.length
  have lb:=rs'.length
  have lva:=va.length
  have lvb:=vb.length
  unfold dep at hd
  unfold eqOk at ho
  have q':Q (.bl (eqBs a b)) H:=by rw[if_neg (by decide)] at q;unfold eqB at q;exact q
  refine SeqAt.eq_tupleAt (e:=λj=>eqB (a.getD j .non) (b.getD j .non)) pl pl' (by omega) (items_eq (n:=60) I (by rw[Around.in1_units];omega) (by omega) rs rs' va vb ho) ?_
  have ez:its.toArray.size=a.length:=by simp only[List.size_toArray];omega
  have ez':its'.toArray.size=b.length:=by simp only[List.size_toArray];omega
  rw[ez,ez']
  by_cases hl:a.length=b.length
  ·rw[←hl,Nat.min_self,beq_self_eq_true,Bool.and_true,←eqBs_eq a b hl]
   exact⟨.bl _,H,I,rfl,q'⟩
  ·rw[all_min _ hl]
   rw[eqBs_len hl] at q'
   exact⟨.bl _,H,I,rfl,q'⟩
theorem op_neT(hu:X.A.units+64<cLine):OpR X (compareOp .NotEq) (rEqT X.K true):=by
 intro pins s σ H x y v u Q I rx ry ⟨s1,t1,r1,r2,ho,hd,q⟩
 rw[if_pos rfl] at q
 rcases flat_or ho with⟨f1,f2⟩|⟨a,b,rfl,rfl⟩|⟨a,b,rfl,rfl⟩
 ·obtain⟨hs,e⟩:=eq_flat r1 r2 f1 f2 ho
  exact op_ne pins s σ H x y v u Q I rx ry ⟨hs,by rw[e];exact q⟩
 ·obtain⟨p,vs,rfl,hp,rs⟩:=r1.inv_lst
  obtain⟨p',vs',rfl,hp',rs'⟩:=r2.inv_lst
  cases rx
  cases ry
  obtain⟨its,va,pl,hz⟩:=I.list (SqL.of hp)
  obtain⟨its',vb,pl',hz'⟩:=I.list (SqL.of hp')
  have la:=rs.length
  have lb:=rs'.length
  have lva:=va.length
  have lvb:=vb.length
  unfold dep at hd
  unfold eqOk at ho
  have q':Q (.bl (!eqBs a b)) H:=by unfold eqB at q;exact q
  by_cases hl:a.length=b.length
  ·refine SeqAt.RcNeAt.lists (e:=λj=>eqB (a.getD j .non) (b.getD j .non)) pl.isList pl'.isList (by simp only[List.size_toArray];omega) (by omega) (items_eq (n:=60) I (by rw[Around.in1_units];omega) (by omega) rs rs' va vb ho) _ _ _ _ ?_
   have ez:its.toArray.size=a.length:=by simp only[List.size_toArray];omega
   rw[ez,←eqBs_eq a b hl]
   exact⟨.bl _,H,I,rfl,q'⟩
  ·refine SeqAt.RcNeAt.lists_lengths pl.isList pl'.isList (by simp only[List.size_toArray];simp;omega) (by omega) _ _ _ _ ?_
   rw[eqBs_len hl] at q'
   exact⟨.bl _,H,I,rfl,q'⟩
 ·obtain⟨p,vs,rfl,hp,rs⟩:=r1.inv_tup
  obtain⟨p',vs',rfl,hp',rs'⟩:=r2.inv_tup
  cases rx
  cases ry
  obtain⟨its,va,pl,hz⟩:=I.tuple hp
  obtain⟨its',vb,pl',hz'⟩:=I.tuple hp'
  have la:=rs.length
  have lb:=rs'.length
  have lva:=va.length
  have lvb:=vb.length
  unfold dep at hd
  unfold eqOk at ho
  have q':Q (.bl (!eqBs a b)) H:=by unfold eqB at q;exact q
  refine SeqAt.RcNeAt.tuples (e:=λj=>eqB (a.getD j .non) (b.getD j .non)) pl pl' (by omega) (items_eq (n:=60) I (by rw[Around.in1_units];omega) (by omega) rs rs' va vb ho) _ _ _ _ ?_
  have ez:its.toArray.size=a.length:=by simp only[List.size_toArray];omega
  have ez':its'.toArray.size=b.length:=by simp only[List.size_toArray];omega
  rw[ez,ez']
  by_cases hl:a.length=b.length
  ·rw[←hl,Nat.min_self,beq_self_eq_true,Bool.and_true,←eqBs_eq a b hl]
   exact⟨.bl _,H,I,rfl,q'⟩
  ·rw[all_min _ hl]
   rw[eqBs_len hl] at q'
   exact⟨.bl _,H,I,rfl,q'⟩
theorem ot_eq{K:PySem.W.Frag}:OT K (rEqT K false) eqT:=by
 intro F H x y s t u Q hF rx ry e q
 unfold eqT at e
 split at e
 ·rename_i hc
  cases e
  rw[Bool.and_eq_true,decide_eq_true_eq] at hc
  exact⟨s,t,rx.mono hF,ry.mono hF,hc.1,hc.2,q _ H F (.rfl hF) (.bl _)⟩
 ·cases e
theorem ot_ne{K:PySem.W.Frag}:OT K (rEqT K true) neT:=by
 intro F H x y s t u Q hF rx ry e q
 unfold neT at e
 split at e
 ·rename_i hc
  cases e
  rw[Bool.and_eq_true,decide_eq_true_eq] at hc
  exact⟨s,t,rx.mono hF,ry.mono hF,hc.1,hc.2,q _ H F (.rfl hF) (.bl _)⟩
 ·cases e
theorem vt_eq(hu:X.A.units+64<cLine)(ha:VE X a f)(hb:VE X b g):VT X (.Compare a [.Eq] [b] pos) (dB (d2 eqT f g)):=vt2 ot_eq (pt_cmpR (op_eqT hu) ha hb (nomark _))
theorem vt_ne(hu:X.A.units+64<cLine)(ha:VE X a f)(hb:VE X b g):VT X (.Compare a [.NotEq] [b] pos) (dB (d2 neT f g)):=vt2 ot_ne (pt_cmpR (op_neT hu) ha hb (nomark _))
noncomputable def icmp(p:Int→Int→Bool):T→T→Option T
 | .int i,.int j=>some (.bl (p i j))
 |_,_=>none
theorem ot_cmp{K:PySem.W.Frag}{p:Int→Int→Bool}:OT K (rI0 λi j=>.bl (p i j)) (icmp p):=by
 intro F H x y s t u Q hF rx ry e q
 unfold icmp at e
 split at e
 ·cases rx.inv_int
  cases ry.inv_int
  cases e
  exact⟨_,_,rfl,rfl,q _ H F (.rfl hF) (.bl _)⟩
 ·cases e
noncomputable abbrev ltT:=icmp λi j=>decide (i<j)
noncomputable abbrev leT:=icmp λi j=>decide (i≤j)
noncomputable abbrev gtT:=icmp λi j=>decide (j<i)
noncomputable abbrev geT:=icmp λi j=>decide (j≤i)
theorem vt_lt(ha:VE X a f)(hb:VE X b g):VT X (.Compare a [.Lt] [b] pos) (dB (d2 ltT f g)):=vt2 ot_cmp (pt_cmpR op_lt ha hb (nomark _))
theorem vt_gt(ha:VE X a f)(hb:VE X b g):VT X (.Compare a [.Gt] [b] pos) (dB (d2 gtT f g)):=vt2 ot_cmp (pt_cmpR op_gt ha hb (nomark _))
theorem vt_ge(ha:VE X a f)(hb:VE X b g):VT X (.Compare a [.GtE] [b] pos) (dB (d2 geT f g)):=vt2 ot_cmp (pt_cmpR op_ge ha hb (nomark _))
noncomputable def isN(f:DE):DE:=λε=>(f ε).bind λt=>match t with
 | .raw _=>none
 | .non=>some (.bl true)
 |_=>some (.bl false)
noncomputable def notN(f:DE):DE:=λε=>(f ε).bind λt=>match t with
 | .raw _=>none
 | .non=>some (.bl false)
 |_=>some (.bl true)
end
end L2
set_option Elab.async false
set_option linter.all false
set_option maxRecDepth 100000
namespace L2
open PySem PySem.Spec PyProof.Rows
section
variable {X:Cx} {e a b c:Expr} {es:List Expr} {pos p2:Pos} {f g h:DE} {fs:DA}
noncomputable def ixT:T→T→Option T
 | .lst ts,.int i=>atI ts i
 | .tup ts,.int i=>atI ts i
 | .scr ns,.int i=>(atI ns i).map T.int
 | .str z,.int i=>if z.length≤lim then(atI z.cps.toList i).map λc=>T.str ⟨#[c]⟩ else none
 |_,_=>none
theorem atI_rep{K:PySem.W.Frag}{F:Hp}{vs:List V}{ts:List T}{i:Int}{t:T}(rs:Reps K F vs ts)(h:atI ts i=some t): ∃v,atI vs i=some v∧Rep K F v t:=by
 unfold atI at h⊢
 rw[rs.length]
 obtain⟨j,h1,h2⟩:=Option.bind_eq_some_iff.mp h
 obtain⟨v,h3,h4⟩:=rs.get h2
 exact⟨v,by rw[h1];exact h3,h4⟩
theorem atI_map{α β:Type}{xs:List α}{φ:α→β}{i:Int}{y:α}(h:atI xs i=some y):atI (xs.map φ) i=some (φ y):=by
 unfold atI at h⊢
 rw[List.length_map]
 obtain⟨j,h1,h2⟩:=Option.bind_eq_some_iff.mp h
 rw[h1]
 show(xs.map φ)[j]? =_
 rw[List.getElem?_map,h2]
 rfl
theorem ot_ix{K:PySem.W.Frag}:OT K (rIx K) ixT:=by
 intro F H x y s t u Q hF rx ry e q
 have hl:=lim_le
 unfold ixT at e
 split at e
 ·obtain⟨p,vs,rfl,hp,rs⟩:=rx.inv_lst
  cases ry.inv_int
  obtain⟨v,h1,h2⟩:=atI_rep rs e
  exact .inl ⟨p,vs,_,v,rfl,rfl,SqL.of (hF _ _ hp),h1,q _ H F (.rfl hF) h2⟩
 ·obtain⟨p,vs,rfl,hp,rs⟩:=rx.inv_tup
  cases ry.inv_int
  obtain⟨v,h1,h2⟩:=atI_rep rs e
  exact .inr (.inl ⟨p,vs,_,v,rfl,rfl,hF.tupS hp,h1,q _ H F (.rfl hF) h2⟩)
 ·obtain⟨p,rfl,hp⟩:=rx.inv_scr
  cases ry.inv_int
  obtain⟨n,h1,rfl⟩:=Option.map_eq_some_iff.mp e
  exact .inl ⟨p,_,_,_,rfl,rfl,hF.seq hp,atI_map h1,q _ H F (.rfl hF) (.int _)⟩
 ·cases rx.inv_str
  cases ry.inv_int
  split at e
  ·obtain⟨n,h1,rfl⟩:=Option.map_eq_some_iff.mp e
   exact .inr (.inr ⟨_,_,_,rfl,rfl,by omega,h1,q _ H F (.rfl hF) (.str _)⟩)
  ·cases e
 ·cases e
theorem ve_ix(ha:VE X a f)(hb:VE X b g)(hs:PlainIx b:=by exact λ_ _=>rfl):VE X (.Subscript a b pos) (d2 ixT f g):=ve2 ot_ix (pe_ix ix_seq ha hb hs)
noncomputable abbrev DO:=Ev→Option (Option Int)
noncomputable def tOs(K:PySem.W.Frag)(f:DO):TO:=λσ H Q=> ∃F ε o,Same F H∧ERep K F σ ε∧f ε=some o∧∀H' F',Ext F H F' H'→Q o H'
noncomputable def VO(X:Cx)(e:Option Expr)(f:DO):Prop:=PO X e (tOs X.K f)
theorem PO.le{e:Option Expr}{t t':TO}(h:PO X e t)(w: ∀σ H Q,t' σ H Q→t σ H Q):PO X e t':=λpins s σ H Q I q=>h pins s σ H Q I (w σ H Q q)
noncomputable def dO0:DO:=λ_=>some none
noncomputable def asI:T→Option (Option Int)
 | .int i=>some (some i)
 |_=>none
noncomputable def dO1(f:DE):DO:=λε=>(f ε).bind asI
theorem vo_none:VO X none dO0:=PO.le po_none λσ H Q ⟨F,ε,o,hF,hE,e,q⟩=>by cases e;exact q H F (.rfl hF)
theorem vo_some(h:VE X e f):VO X (some e) (dO1 f):=PO.le (po_some h) λσ H Q ⟨F,ε,o,hF,hE,e,q⟩=>by
 obtain⟨t,e1,e2⟩:=Option.bind_eq_some_iff.mp e
 refine⟨F,ε,t,hF,hE,e1,λv H' F' x r=> ?_⟩
 unfold asI at e2
 split at e2
 ·cases r.inv_int
  cases e2
  exact⟨_,rfl,q H' F' x⟩
 ·cases e2
noncomputable def cutT{α:Type}(xs:List α)(lo hi:Option Int):List α:=(xs.drop (HT.sIx xs.length 0 lo)).take (HT.sIx xs.length xs.length hi - HT.sIx xs.length 0 lo)
theorem Reps.cut{K:PySem.W.Frag}{F:Hp}{vs:List V}{ts:List T}(rs:Reps K F vs ts)(lo hi:Option Int):Reps K F (cutV vs lo hi) (cutT ts lo hi):=by
 unfold cutV cutT
 rw[rs.length]
 exact(rs.drop _).take _
theorem cutV_map{α:Type}(xs:List α)(φ:α→V)(lo hi:Option Int):cutV (xs.map φ) lo hi=(cutT xs lo hi).map φ:=by
 unfold cutV cutT
 rw[List.length_map,List.map_take,List.map_drop]
noncomputable def slF(f:DE)(lo hi:DO):DA:=λε=>(f ε).bind λt=>(lo ε).bind λl=>(hi ε).bind λu=>match t with
 | .lst ts=>some (cutT ts l u)
 | .scr ns=>some ((cutT ns l u).map T.int)
 |_=>none
noncomputable def slT(f:DE)(lo hi:DO):DE:=λε=>(f ε).bind λt=>(lo ε).bind λl=>(hi ε).bind λu=>match t with
 | .lst ts=>some (.lst (cutT ts l u))
 | .scr ns=>some (.lst ((cutT ns l u).map T.int))
 | .str z=>if z.length≤lim then some (.str (Txt.slice z l u)) else none
 |_=>none
theorem ve_sl{lo hi:Option Expr}{fl fu:DO}(ha:VE X a f)(hl:VO X lo fl)(hu:VO X hi fu):VE X (.Subscript a (.Slice lo hi none p2) pos) (slT f fl fu):=PE.le (pe_slice (sl_list.or sl_str) ha hl hu) λσ H Q ⟨F,ε,ts,hF,hE,e,q⟩=>by
 obtain⟨t,e1,e2⟩:=Option.bind_eq_some_iff.mp e
 obtain⟨l,e3,e4⟩:=Option.bind_eq_some_iff.mp e2
 obtain⟨u,e5,e6⟩:=Option.bind_eq_some_iff.mp e4
 have hl':=lim_le
 refine⟨F,ε,t,hF,hE,e1,λv H1 F1 x1 r=>⟨F1,ε,l,x1.fh,hE.mono x1.ff,e3,λH2 F2 x2=>⟨F2,ε,u,x2.fh,hE.mono (x1.ff.trans x2.ff),e5,λH3 F3 x3=> ?_⟩⟩⟩
 have r3:=r.mono (x2.ff.trans x3.ff)
 have x:=x1.trans (x2.trans x3)
 split at e6
 ·obtain⟨p,vs,rfl,hp,rs⟩:=r3.inv_lst
  cases e6
  refine .inl ⟨p,vs,rfl,SqL.of (x3.fh _ _ hp),λp' hp'=> ?_⟩
  have x4:=Ext.new x3.fh hp' (.lst (cutV vs l u))
  exact q _ _ _ (x.trans x4) (.lst upd_same ((rs.cut l u).mono x4.ff))
 ·obtain⟨p,rfl,hp⟩:=r3.inv_scr
  cases e6
  refine .inl ⟨p,_,rfl,x3.fh.seq hp,λp' hp'=> ?_⟩
  rw[cutV_map]
  have x4:=Ext.new x3.fh hp' (.lst ((cutT ‹List Int› l u).map V.int))
  exact q _ _ _ (x.trans x4) (.lst upd_same (Reps.ints _))
 ·cases r3.inv_str
  split at e6
  ·cases e6
   exact .inr ⟨_,rfl,by omega,q _ H3 F3 x (.str _)⟩
  ·cases e6
 ·cases e6
noncomputable def dA0:DA:=λ_=>some []
noncomputable def dAc(f:DE)(g:DA):DA:=λε=>(f ε).bind λt=>(g ε).map (t:: ·)
theorem va_nil:VA X [] dA0:=PA.le pa_nil λσ H Q ⟨F,ε,ts,hF,hE,e,q⟩=>by cases e;exact q [] H F (.rfl hF) .nil
theorem va_cons(ha:VE X e f)(hr:VA X es fs)(hs:starEach (e::es) X.env=(false,eval e X.env)::starEach es X.env:=by rfl):VA X (e::es) (dAc f fs):=PA.le (pa_cons ha hr hs) λσ H Q ⟨F,ε,ts,hF,hE,e,q⟩=>by
 obtain⟨t,e1,e2⟩:=Option.bind_eq_some_iff.mp e
 obtain⟨r,e3,rfl⟩:=Option.map_eq_some_iff.mp e2
 exact⟨F,ε,t,hF,hE,e1,λv H1 F1 x1 rv=>⟨F1,ε,r,x1.fh,hE.mono x1.ff,e3,λvs H2 F2 x2 rs=>q _ H2 F2 (x1.trans x2) (.cons (rv.mono x2.ff) rs)⟩⟩
noncomputable def dTup(fs:DA):DE:=λε=>(fs ε).bind λts=>if ts.length≤lim then some (.tup ts) else none
theorem ve_tup{x1}(h:VA X es fs):VE X (.Tuple es x1 pos) (dTup fs):=PE.le (pe_tup h) λσ H Q ⟨F,ε,t,hF,hE,e,q⟩=>by
 obtain⟨ts,e1,e2⟩:=Option.bind_eq_some_iff.mp e
 have hl:=lim_le
 split at e2
 ·cases e2
  refine⟨F,ε,ts,hF,hE,e1,λvs H1 F1 x1 rs=>⟨by have:=rs.length;omega,λp hp=> ?_⟩⟩
  have x2:=Ext.new x1.fh hp (.tup vs)
  exact q _ _ _ (x1.trans x2) (.tup (.inl (.inl upd_same)) (rs.mono x2.ff))
 ·cases e2
noncomputable def dLst(fs:DA):DA:=λε=>(fs ε).bind λts=>if ts.length≤lim then some ts else none
theorem vf_lst(h:VA X es fs):VF X (.List es pos) (dLst fs):=PE.le (pe_lst h) λσ H Q ⟨F,ε,t,hF,hE,e,q⟩=>by
 obtain⟨ts,e1,e2⟩:=Option.bind_eq_some_iff.mp e
 have hl:=lim_le
 split at e2
 ·cases e2
  exact⟨F,ε,t,hF,hE,e1,λvs H1 F1 x1 rs=>⟨by have:=rs.length;omega,λp hp=>q p vs H1 F1 x1 hp rs⟩⟩
 ·cases e2
noncomputable def spP(K:PySem.W.Frag)(s:List T→Option T):Sp:=λvs H Q _=> ∃F ts t,Same F H∧Reps K F vs ts∧s ts=some t∧∀v H' F',Ext F H F' H'→Rep K F' v t→Q v H'
noncomputable def dCall(s:List T→Option T)(fs:DA):DE:=λε=>(fs ε).bind s
theorem ve_callP{s:List T→Option T}{E:XK}(hp:PE X e (tCall (spP X.K s) [] E (tAs X.K fs))):VE X e (dCall s fs):=PE.le hp λσ H Q ⟨F,ε,t,hF,hE,e,q⟩=>by
 obtain⟨us,e1,e2⟩:=Option.bind_eq_some_iff.mp e
 refine⟨F,ε,us,hF,hE,e1,λvs H1 F1 x1 rs=>⟨F1,us,t,x1.fh,by rw[List.append_nil];exact rs,e2,λv H2 F2 x2 r=>q v H2 F2 (x1.trans x2) r⟩⟩
variable {k:Nat} {fa:Addr} {fd:FuncData} {ps:List Str} {s:List T→Option T} {x:Str} {p:Pos}
theorem ve_call(F:FnOk X.prog X.w X.K X.mg X.base CX0 k fa fd ps (spP X.K s))(hr:Room k X.A)(hg:Gl X x)(hm:X.mg x=some (.ref fa))(hk:PySem.W.keepIn X.K (.ref fa)=true)(hb:Binds X.K fd ps [])
  (ha:VA X (e::es) fs) (hdb:(x==("__debug__":Str))=false:=by decide) (he:starEach (e::es) X.env=(false,eval e X.env)::starEach es X.env:=by rfl) (hpl:(backTo pos (starEach es X.env)).any (·.1)=false:=by rfl):
  VE X (.Call (.Name x p) (e::es) [] pos) (dCall s fs):=ve_callP (pe_call F hr hg hm hk hb .nil pass0 ha hdb he hpl)
noncomputable def CT(K:PySem.W.Frag)(r:List V→Hp→VK→Prop)(op:List T→Option T):Prop:=
 ∀(F H:Hp) (xs:List V) (ts:List T) (u:T) (Q:VK),Same F H→Reps K F xs ts→op ts=some u→(∀v H' F',Ext F H F' H'→Rep K F' v u→Q v H')→r xs H Q
theorem ve_cb{r:List V→Hp→VK→Prop}{op:List T→Option T}(hr:CT X.K r op)(hp:PE X e (tCB r (tAs X.K fs))):VE X e (dCall op fs):=PE.le hp λσ H Q ⟨F,ε,t,hF,hE,e,q⟩=>by
 obtain⟨ts,e1,e2⟩:=Option.bind_eq_some_iff.mp e
 exact⟨F,ε,ts,hF,hE,e1,λvs H1 F1 x1 rs=>hr F1 H1 vs ts t Q x1.fh rs e2 λv H2 F2 x2 r=>q v H2 F2 (x1.trans x2) r⟩
noncomputable def CF(K:PySem.W.Frag)(r:List V→Hp→VK→Prop)(op:List T→Option (List T)):Prop:=
 ∀(F H:Hp) (xs:List V) (ts us:List T) (Q:VK),Same F H→Reps K F xs ts→op ts=some us→(∀p vs H' F',Ext F H F' H'→H' p=none→Reps K F' vs us→Q (.ref p) (upd H' p (.lst vs)))→r xs H Q
noncomputable def dCallF(op:List T→Option (List T))(fs:DA):DA:=λε=>(fs ε).bind op
theorem vf_cb{r:List V→Hp→VK→Prop}{op:List T→Option (List T)}(hr:CF X.K r op)(hp:PE X e (tCB r (tAs X.K fs))):VF X e (dCallF op fs):=PE.le hp λσ H Q ⟨F,ε,t,hF,hE,e,q⟩=>by
 obtain⟨ts,e1,e2⟩:=Option.bind_eq_some_iff.mp e
 exact⟨F,ε,ts,hF,hE,e1,λvs H1 F1 x1 rs=>hr F1 H1 vs ts t Q x1.fh rs e2 λp vs' H2 F2 x2 hp r=>q p vs' H2 F2 (x1.trans x2) hp r⟩
theorem Reps.one{K:PySem.W.Frag}{F:Hp}{vs:List V}{t:T}(r:Reps K F vs [t]): ∃v,vs=[v]∧Rep K F v t:=by
 cases r with
 |cons r1 r2=>cases r2;exact⟨_,rfl,r1⟩
theorem Reps.two{K:PySem.W.Frag}{F:Hp}{vs:List V}{t u:T}(r:Reps K F vs [t,u]): ∃v w,vs=[v,w]∧Rep K F v t∧Rep K F w u:=by
 cases r with
 |cons r1 r2=>
  obtain⟨w,rfl,r3⟩:=r2.one
  exact⟨_,w,rfl,r1,r3⟩
noncomputable def lenT:List T→Option T
 |[.lst ts]=>some (.int ts.length)
 |[.tup ts]=>some (.int ts.length)
 |[.scr ns]=>some (.int ns.length)
 |[.str z]=>if z.length≤lim then some (.int z.length) else none
 |[.dic kvs]=>some (.int kvs.length)
 |_=>none
noncomputable def rLenT(K:PySem.W.Frag):List V→Hp→VK→Prop:=λxs H Q=>(∃p ys,xs=[.ref p]∧(SqL K H p ys∨SqT K H p ys)∧Q (.int ys.length) H)∨(∃z,xs=[.str z]∧z.length≤sizeLine∧Q (.int z.length) H)∨
 ∃a kvs,xs=[V.ref a]∧Rd H a (.dK kvs)∧Q (.int kvs.length) H
theorem call_lenT:CallR X (.builtin "len") (rLenT X.K):=call_len_seq.or (call_len_str.or call_lenD)
theorem ct_len{K:PySem.W.Frag}:CT K (rLenT K) lenT:=by
 intro F H xs ts u Q hF rs e q
 have hl:=lim_le
 unfold lenT at e
 split at e
 ·obtain⟨v,rfl,r⟩:=rs.one
  obtain⟨p,vs,rfl,hp,rs'⟩:=r.inv_lst
  cases e
  have:=rs'.length
  exact .inl ⟨p,vs,rfl,.inl (SqL.of (hF _ _ hp)),by rw[this];exact q _ H F (.rfl hF) (.int _)⟩
 ·obtain⟨v,rfl,r⟩:=rs.one
  obtain⟨p,vs,rfl,hp,rs'⟩:=r.inv_tup
  cases e
  have:=rs'.length
  exact .inl ⟨p,vs,rfl,.inr (hF.tupS hp),by rw[this];exact q _ H F (.rfl hF) (.int _)⟩
 ·obtain⟨v,rfl,r⟩:=rs.one
  obtain⟨p,rfl,hp⟩:=r.inv_scr
  cases e
  exact .inl ⟨p,_,rfl,.inl (hF.seq hp),by rw[List.length_map];exact q _ H F (.rfl hF) (.int _)⟩
 ·obtain⟨v,rfl,r⟩:=rs.one
  cases r.inv_str
  split at e
  ·cases e
   exact .inr (.inl ⟨_,rfl,by omega,q _ H F (.rfl hF) (.int _)⟩)
  ·cases e
 ·obtain⟨v,rfl,r⟩:=rs.one
  cases e
  cases r with
  |dic hp hk rs'=>
   have:=congrArg List.length hk
   simp only[List.length_map] at this
   exact .inr (.inr ⟨_,_,rfl,hp.same hF,by rw[this];exact q _ H F (.rfl hF) (.int _)⟩)
 ·cases e
noncomputable def maxT:List T→Option T
 |[.int i,.int j]=>some (.int (if j>i then j else i))
 |_=>none
noncomputable def minT:List T→Option T
 |[.int i,.int j]=>some (.int (if j<i then j else i))
 |_=>none
noncomputable def intT:List T→Option T
 |[.int i]=>some (.int i)
 |[.bl k]=>some (.int (if k then 1 else 0))
 |_=>none
noncomputable def listF:List T→Option (List T)
 |[.lst ts]=>some ts
 |[.tup ts]=>some ts
 |_=>none
theorem cf_list{K:PySem.W.Frag}:CF K (λxs H Q=> ∃p ys,xs=[.ref p]∧(SqL K H p ys∨SqT K H p ys)∧∀l,H l=none→Q (.ref l) (upd H l (.lst ys))) listF:=by
 intro F H xs ts us Q hF rs e q
 unfold listF at e
 split at e
 ·obtain⟨v,rfl,r⟩:=rs.one
  obtain⟨p,vs,rfl,hp,rs'⟩:=r.inv_lst
  cases e
  exact⟨p,vs,rfl,.inl (SqL.of (hF _ _ hp)),λl hl=>q l vs H F (.rfl hF) hl rs'⟩
 ·obtain⟨v,rfl,r⟩:=rs.one
  obtain⟨p,vs,rfl,hp,rs'⟩:=r.inv_tup
  cases e
  exact⟨p,vs,rfl,.inr (hF.tupS hp),λl hl=>q l vs H F (.rfl hF) hl rs'⟩
 ·cases e
noncomputable def allB:List T→Option (List Bool)
 |[]=>some []
 | .bl b::ts=>(allB ts).map (b:: ·)
 |_=>none
theorem allB_inv: ∀{ts:List T} {bs:List Bool},allB ts=some bs→ts=bs.map T.bl
 |[],bs,h=>by unfold allB at h;cases h;rfl
 |t::ts,bs,h=>by
  cases t<;>first|(unfold allB at h;cases h;done)|skip
  unfold allB at h
  obtain⟨r,h1,rfl⟩:=Option.map_eq_some_iff.mp h
  rw[allB_inv h1]
  rfl
theorem allB_map(bs:List Bool):allB (bs.map T.bl)=some bs:=by
 induction bs with
 |nil=>rfl
 |cons b bs ih=>rw[List.map_cons];unfold allB;rw[ih];rfl
noncomputable def allT:List T→Option T
 |[.lst ts]=>(allB ts).map λbs=>.bl (bs.all id)
 |_=>none
noncomputable def anyT:List T→Option T
 |[.lst ts]=>(allB ts).map λbs=>.bl (bs.any id)
 |_=>none
theorem ct_all{K:PySem.W.Frag}:CT K (λxs H Q=> ∃(p:Addr) (bs:List Bool),xs=[.ref p]∧SqL K H p (bs.map V.bl)∧Q (.bl (bs.all id)) H) allT:=by
 intro F H xs ts u Q hF rs e q
 unfold allT at e
 split at e
 ·obtain⟨v,rfl,r⟩:=rs.one
  obtain⟨p,vs,rfl,hp,rs'⟩:=r.inv_lst
  obtain⟨bs,e1,rfl⟩:=Option.map_eq_some_iff.mp e
  rw[allB_inv e1] at rs'
  rw[rs'.inv_bl] at hp
  exact⟨p,bs,rfl,SqL.of (hF _ _ hp),q _ H F (.rfl hF) (.bl _)⟩
 ·cases e
theorem ct_any{K:PySem.W.Frag}:CT K (λxs H Q=> ∃(p:Addr) (bs:List Bool),xs=[.ref p]∧SqL K H p (bs.map V.bl)∧Q (.bl (bs.any id)) H) anyT:=by
 intro F H xs ts u Q hF rs e q
 unfold anyT at e
 split at e
 ·obtain⟨v,rfl,r⟩:=rs.one
  obtain⟨p,vs,rfl,hp,rs'⟩:=r.inv_lst
  obtain⟨bs,e1,rfl⟩:=Option.map_eq_some_iff.mp e
  rw[allB_inv e1] at rs'
  rw[rs'.inv_bl] at hp
  exact⟨p,bs,rfl,SqL.of (hF _ _ hp),q _ H F (.rfl hF) (.bl _)⟩
 ·cases e
end
end L2
set_option Elab.async false
set_option linter.all false
set_option maxRecDepth 100000
namespace L2
open PySem PySem.Spec PyProof.Rows
noncomputable def tyT:T→Option String
 | .non=>some "NoneType"
 | .bl _=>some "bool"
 | .int _=>some "int"
 | .str _=>some "str"
 | .lst _=>some "list"
 | .tup _=>some "tuple"
 |_=>none
noncomputable def subTy:String→String→Option Bool
 |n,"int"=>some (n=="int"||n=="bool")
 |n,"bool"=>some (n=="bool")
 |n,"str"=>some (n=="str")
 |n,"list"=>some (n=="list")
 |n,"tuple"=>some (n=="tuple")
 |n,"dict"=>some (n=="dict")
 |_,_=>none
noncomputable def isT:List T→Option T
 |[t,.raw (.ty S)]=>(tyT t).bind λn=>(subTy n S).map T.bl
 |_=>none
theorem kit_sub{K:PySem.W.Frag}{t:T}{n S:String}{k:Bool}(h1:tyT t=some n)(h2:subTy n S=some k):PySem.W.kitOne K (.type n) (.type S)=some k:=by
 have hn:n="NoneType"∨n="bool"∨n="int"∨n="str"∨n="list"∨n="tuple"∨n="dict":=by
  cases t<;>first|(cases h1;simp)|cases h1
 unfold subTy at h2
 split at h2<;>first|cases h2|skip
 all_goals (rcases hn with rfl|rfl|rfl|rfl|rfl|rfl|rfl<;>rfl)
section
variable {X:Cx} {e a b c:Expr} {es:List Expr} {pos p2:Pos} {f g h:DE} {fs:DA}
noncomputable def rIsT(K:PySem.W.Frag):List V→Hp→VK→Prop:=λxs H Q=> ∃x t n S k,xs=[x,.ty S]∧Rep K H x t∧tyT t=some n∧subTy n S=some k∧Q (.bl k) H
theorem call_isT:CallR X (.builtin "isinstance") (rIsT X.K):=by
 intro pins s σ H xs us Q I r h
 obtain⟨x,t,n,S,k,rfl,rt,h1,h2,q⟩:=h
 obtain⟨u,w',rfl,rx,ry⟩:=vals2 r
 cases ry
 have hk:=kit_sub (K:=X.K) h1 h2
 have fin: ∀tk,EP X pins σ Q (.bool k) {s with toks:=tk}:=λtk=>⟨.bl k,H,I.tok _,rfl,q⟩
 cases rt with
 |non=>cases h1;exact isinst_ok I rx .non hk fin
 |bl y=>cases h1;exact isinst_ok I rx (.bl y) hk fin
 |int y=>cases h1;exact isinst_ok I rx (.int y) hk fin
 |str y=>cases h1;exact isinst_ok I rx (.str y) hk fin
 |lst hp _=>cases h1;exact isinst_ok I rx (.lst hp) hk fin
 |tup hp _=>
  cases h1
  cases rx
  obtain⟨its,_,p,_⟩:=I.tuple hp
  obtain⟨o,h1,h2,_⟩:=p
  exact PySem.W.kia_one PySem.W.kitx_tuple I.kIn ⟨o,h1,h2⟩ hk (λz=>nomatch z) fin
 |_=>cases h1
theorem ct_is{K:PySem.W.Frag}:CT K (rIsT K) isT:=by
 intro F H xs ts u Q hF rs e q
 unfold isT at e
 split at e
 ·obtain⟨v,w,rfl,r1,r2⟩:=rs.two
  cases r2.inv_raw
  obtain⟨n,e1,e2⟩:=Option.bind_eq_some_iff.mp e
  obtain⟨k,e3,rfl⟩:=Option.map_eq_some_iff.mp e2
  exact⟨v,_,n,_,k,rfl,r1.mono hF,e1,e3,q _ H F (.rfl hF) (.bl _)⟩
 ·cases e
end
noncomputable def Wk(K:PySem.W.Frag)(F:Hp)(J:It)(ts:List T):Prop:=
 (∀H,Same F H→J.stop ts.length H)∧∀i t H,ts[i]? =some t→Same F H→J.go i H∧∀x H',J.yld i H x H'→∀F1,Same F F1→Same F1 H→∃F2,Ext F1 H F2 H'∧Rep K F2 x t
noncomputable def tI(K:PySem.W.Frag)(f:DA):TI:=λσ H R=> ∃F ε ts,Same F H∧ERep K F σ ε∧f ε=some ts∧∀J H' F',Ext F H F' H'→Wk K F' J ts→R J H'
noncomputable def tIr(K:PySem.W.Frag)(f:DA):TI:=λσ H R=> ∃F ε ts,Same F H∧ERep K F σ ε∧f ε=some ts∧∀J H' F',Ext F H F' H'→(∀G,Wk K G J ts)→R J H'
noncomputable def VI(X:Cx)(tg e:Expr)(f:DA):Prop:=PI X tg e (tI X.K f)
noncomputable def VIr(X:Cx)(tg e:Expr)(f:DA):Prop:=PI X tg e (tIr X.K f)
section
variable {X:Cx} {tg e a b c:Expr} {es:List Expr} {pos p2:Pos} {f g h:DE} {fs:DA}
theorem PI.le{t t':TI}(h:PI X tg e t)(w: ∀σ H R,t' σ H R→t σ H R):PI X tg e t':=λpins s σ H R I q=>h pins s σ H R I (w σ H R q)
theorem vi_r(h:VIr X tg e fs):VI X tg e fs:=PI.le h λσ H R ⟨F,ε,ts,hF,hE,e,q⟩=>⟨F,ε,ts,hF,hE,e,λJ H' F' x w=>q J H' F' x (w F')⟩
noncomputable def iAny(K:PySem.W.Frag)(tl:TE):TI:=λσ H R=>tl σ H λx H1=>(∃a,x=.ref a∧(∃xs,SqL K H1 a xs)∧R (Itl K a) H1)∨(∃a,x=.ref a∧(∃xs,SqT K H1 a xs)∧R (Itt K a) H1)∨∃z,x=.str z∧R (Its z) H1
theorem pi_any{l:Expr}{tl:TE}(hl:PE X l tl):PI X tg l (iAny X.K tl):=by
 intro pins s σ H R I h
 refine thn (hl pins s σ H _ I h) λv s1 ⟨x,H1,I1,r1,q1⟩=> ?_
 rcases q1 with⟨a,e,⟨xs,hq⟩,q⟩|⟨a,e,⟨xs,hq⟩,q⟩|⟨z,e,q⟩
 ·subst e
  cases r1
  obtain⟨its,rv,p,hz⟩:=I1.list hq
  refine wpAny_pyIter_list p.isList ?_
  refine⟨s1.heap.objs.size,[s1.heap.objs.size],_,_,H1,rfl,I1.kept (t':=s1.toks) λb o e=>Heap.get?_push_of_some _ e,turn_list a _,⟨_,Heap.get?_push_size _ rfl,rfl,rfl⟩,λb hb=> ?_,q⟩
  have e:b=s1.heap.objs.size:=by simpa using hb
  subst e
  exact I1.fpOk (Nat.le_refl _) (I1.hok.fresh (Nat.le_refl _))
 ·subst e
  cases r1
  obtain⟨its,rv,p,hz⟩:=I1.tuple hq
  refine wpAny_pyIter_tuple (show s1.heap.IsTuple a its.toArray from p) ?_
  refine⟨s1.heap.objs.size,[s1.heap.objs.size],_,_,H1,rfl,I1.kept (t':=s1.toks) λb o e=>Heap.get?_push_of_some _ e,turn_tuple a _,⟨_,Heap.get?_push_size _ rfl,rfl,rfl⟩,λb hb=> ?_,q⟩
  have e:b=s1.heap.objs.size:=by simpa using hb
  subst e
  exact I1.fpOk (Nat.le_refl _) (I1.hok.fresh (Nat.le_refl _))
 ·subst e
  obtain⟨t,rfl⟩:=r1
  cases ha:z.cps.all (· <128)
  ·refine wpAny_pyIter_wide ha ?_
   refine⟨s1.heap.objs.size,[s1.heap.objs.size],_,_,H1,rfl,I1.kept (t':=s1.toks) λb o e=>Heap.get?_push_of_some _ e,turn_strW _ z t,⟨_,Heap.get?_push_size _ rfl,rfl,rfl⟩,λb hb=> ?_,q⟩
   have e:b=s1.heap.objs.size:=by simpa using hb
   subst e
   exact I1.fpOk (Nat.le_refl _) (I1.hok.fresh (Nat.le_refl _))
  ·refine wpAny_pyIter_ascii ha ?_
   refine⟨s1.heap.objs.size,[s1.heap.objs.size],_,_,H1,rfl,I1.kept (t':=s1.toks) λb o e=>Heap.get?_push_of_some _ e,turn_strA _ z t,⟨_,Heap.get?_push_size _ rfl,rfl,rfl⟩,λb hb=> ?_,q⟩
   have e:b=s1.heap.objs.size:=by simpa using hb
   subst e
   exact I1.fpOk (Nat.le_refl _) (I1.hok.fresh (Nat.le_refl _))
noncomputable def itemsT:T→Option (List T)
 | .lst ts=>some ts
 | .tup ts=>some ts
 | .scr ns=>some (ns.map T.int)
 | .str z=>some (z.cps.toList.map λc=>T.str ⟨#[c]⟩)
 |_=>none
theorem wk_list{K:PySem.W.Frag}{F:Hp}{a:Addr}{vs:List V}{ts:List T}(h:SqL K F a vs)(rs:Reps K F vs ts):Wk K F (Itl K a) ts:=by
 refine⟨λH q=>⟨vs,q.seq h,by rw[rs.length];exact Nat.le_refl _⟩,λi t H ht q=> ?_⟩
 obtain⟨v,h1,h2⟩:=rs.get ht
 refine⟨⟨vs,v,q.seq h,h1⟩,λx H' y F1 a1 b1=> ?_⟩
 obtain⟨e,y⟩:=y
 have:=y vs (q.seq h)
 rw[h1] at this
 cases this
 subst e
 exact⟨F1,.rfl b1,h2.mono a1⟩
theorem wk_tup{K:PySem.W.Frag}{F:Hp}{a:Addr}{vs:List V}{ts:List T}(h:SqT K F a vs)(rs:Reps K F vs ts):Wk K F (Itt K a) ts:=by
 refine⟨λH q=>⟨vs,q.tupS h,by rw[rs.length];exact Nat.le_refl _⟩,λi t H ht q=> ?_⟩
 obtain⟨v,h1,h2⟩:=rs.get ht
 refine⟨⟨vs,v,q.tupS h,h1⟩,λx H' y F1 a1 b1=> ?_⟩
 obtain⟨e,y⟩:=y
 have:=y vs (q.tupS h)
 rw[h1] at this
 cases this
 subst e
 exact⟨F1,.rfl b1,h2.mono a1⟩
theorem wk_str{K:PySem.W.Frag}{F:Hp}(z:Str):Wk K F (Its z) (z.cps.toList.map λc=>T.str ⟨#[c]⟩):=by
 refine⟨λH q=> ?_,λi t H ht q=> ?_⟩
 ·show z.cps.size≤_
  simp
 ·rw[List.getElem?_map] at ht
  obtain⟨c,hc,rfl⟩:=Option.map_eq_some_iff.mp ht
  have hi:i<z.cps.size:=by
   have:=(List.getElem?_eq_some_iff.mp hc).1
   simpa using this
  refine⟨hi,λx H' y F1 a1 b1=> ?_⟩
  obtain⟨e,c',hc',rfl⟩:=y
  have:c'=c:=by
   have h2:z.cps.toList[i]? =some c':=by simpa using hc'
   rw[hc] at h2
   exact(Option.some.inj h2).symm
  subst this
  subst e
  exact⟨F1,.rfl b1,.str _⟩
noncomputable def dIt(f:DE):DA:=λε=>(f ε).bind itemsT
theorem vi_any(ha:VE X a f):VI X tg a (dIt f):=PI.le (pi_any ha) λσ H R ⟨F,ε,ts,hF,hE,e,q⟩=>by
 obtain⟨t,e1,e2⟩:=Option.bind_eq_some_iff.mp e
 refine⟨F,ε,t,hF,hE,e1,λv H' F' x r=> ?_⟩
 unfold itemsT at e2
 split at e2
 ·obtain⟨p,vs,rfl,hp,rs⟩:=r.inv_lst
  cases e2
  exact .inl ⟨p,rfl,⟨vs,SqL.of (x.fh _ _ hp)⟩,q _ H' F' x (wk_list (SqL.of hp) rs)⟩
 ·obtain⟨p,vs,rfl,hp,rs⟩:=r.inv_tup
  cases e2
  exact .inr (.inl ⟨p,rfl,⟨vs,x.fh.tupS hp⟩,q _ H' F' x (wk_tup hp rs)⟩)
 ·obtain⟨p,rfl,hp⟩:=r.inv_scr
  cases e2
  exact .inl ⟨p,rfl,⟨_,x.fh.seq hp⟩,q _ H' F' x (wk_list hp (Reps.ints _))⟩
 ·cases r.inv_str
  cases e2
  exact .inr (.inr ⟨_,rfl,q _ H' F' x (wk_str _)⟩)
 ·cases e2
noncomputable def rngT(lo:Int)(n:Nat):List T:=(List.range n).map λ(k:Nat)=>T.int (lo+(k:Int))
theorem wk_rng{K:PySem.W.Frag}{F:Hp}(lo:Int)(n:Nat):Wk K F (Itr lo n) (rngT lo n):=by
 refine⟨λH q=> ?_,λi t H ht q=> ?_⟩
 ·show n≤_
  unfold rngT
  simp
 ·unfold rngT at ht
  rw[List.getElem?_map] at ht
  obtain⟨k,hk,rfl⟩:=Option.map_eq_some_iff.mp ht
  obtain⟨hi,e⟩:=List.getElem?_eq_some_iff.mp hk
  rw[List.getElem_range] at e
  subst e
  refine⟨(show i<n by simpa using hi),λx H' y F1 a1 b1=> ?_⟩
  obtain⟨e,rfl⟩:=y
  subst e
  exact⟨F1,.rfl b1,.int _⟩
noncomputable def dR1(f:DE):DA:=λε=>(f ε).bind λt=>match t with
 | .int n=>if n≤1000000000∧ -1000000000≤n then some (rngT 0 n.toNat) else none
 |_=>none
noncomputable def dR2(f g:DE):DA:=λε=>(f ε).bind λt=>(g ε).bind λu=>match t,u with
 | .int i,.int j=>if (-1000000000≤i∧i≤1000000000)∧ -1000000000≤j∧j≤1000000000 then some (rngT i (j - i).toNat) else none
 |_,_=>none
theorem vi_range1(hg:Gl X "range")(hm:X.mg "range"=none)(ha:VE X a f)(hs:starEach [a] X.env=[(false,eval a X.env)]:=by rfl):VIr X tg (.Call (.Name "range" p2) [a] [] pos) (dR1 f):=PI.le (pi_range1 hg hm (va_cons ha va_nil hs) hs) λσ H R ⟨F,ε,ts,hF,hE,e,q⟩=>by
 obtain⟨t,e1,e2⟩:=Option.bind_eq_some_iff.mp e
 split at e2
 ·split at e2
  ·rename_i n hn
   cases e2
   refine⟨F,ε,[.int n],hF,hE,by unfold dAc;rw[e1];rfl,λvs H' F' x rs=> ?_⟩
   obtain⟨v,rfl,r⟩:=rs.one
   cases r.inv_int
   exact⟨n,rfl,by omega,by omega,q _ H' F' x λG=>wk_rng 0 n.toNat⟩
  ·cases e2
 ·cases e2
theorem vi_range2(hg:Gl X "range")(hm:X.mg "range"=none)(ha:VE X a f)(hb:VE X b g)(hs:starEach [a,b] X.env=[(false,eval a X.env),(false,eval b X.env)]:=by rfl)(hs2:starEach [b] X.env=[(false,eval b X.env)]:=by rfl):
  VIr X tg (.Call (.Name "range" p2) [a,b] [] pos) (dR2 f g):=PI.le (pi_range2 hg hm (va_cons ha (va_cons hb va_nil hs2) (by rw[hs,hs2])) hs hs2) λσ H R ⟨F,ε,ts,hF,hE,e,q⟩=>by
 obtain⟨t,e1,e2⟩:=Option.bind_eq_some_iff.mp e
 obtain⟨u,e3,e4⟩:=Option.bind_eq_some_iff.mp e2
 split at e4
 ·split at e4
  ·rename_i i j hn
   cases e4
   refine⟨F,ε,[.int i,.int j],hF,hE,by unfold dAc;rw[e1,e3];rfl,λvs H' F' x rs=> ?_⟩
   obtain⟨v,w,rfl,r1,r2⟩:=rs.two
   cases r1.inv_int
   cases r2.inv_int
   exact⟨i,j,rfl,⟨by omega,by omega,by omega,by omega⟩,q _ H' F' x λG=>wk_rng i (j - i).toNat⟩
  ·cases e4
 ·cases e4
end
inductive Tg where
 |one (i:Nat)
 |many (is:List Nat)
noncomputable def gOfs:List Nat→TGs
 |[]=>gNil
 |i::is=>gCons (gName i) (gOfs is)
noncomputable def gOf(K:PySem.W.Frag):Tg→TG
 | .one i=>gName i
 | .many is=>gTup K is.length (gOfs is)
@[simp] noncomputable def asgs{α:Type}(w:T→α):List Nat→List T→List (Option α)→Option (List (Option α))
 |[],[],τ=>some τ
 |i::is,t::ts,τ=>asgs w is ts (τ.set i (some (w t)))
 |_,_,_=>none
@[simp] noncomputable def asg{α:Type}(w:T→α):Tg→T→List (Option α)→Option (List (Option α))
 | .one i,t,τ=>some (τ.set i (some (w t)))
 | .many is,.tup ts,τ=>asgs w is ts τ
 |_,_,_=>none
@[simp] noncomputable def Tg.slots:Tg→List Nat
 | .one i=>[i]
 | .many is=>is
section
variable {K:PySem.W.Frag} {fx:List Nat}
theorem asg_many: ∀{is:List Nat} {ts:List T} {vs:List V} {σ:St} {τ τ':Env2} {F H:Hp} {A:List Addr} {Q:St→Hp→Prop},StR K F H σ τ A→Reps K F vs ts→asgs O.val is ts τ=some τ'→(∀i∈is,i∉fx)→
  (∀σ' A',Fix fx σ σ'→(∀p∈A',p∈A)→StR K F H σ' τ' A'→Q σ' H)→gOfs is vs σ H Q
 |[],[],_,σ,τ,τ',F,H,A,Q,S,rs,e,_,q=>by
  cases rs
  unfold asgs at e
  cases e
  exact⟨rfl,q σ A .rfl (λ_ h=>h) S⟩
 |[],_::_,_,_,_,_,_,_,_,_,_,_,e,_,_=>by unfold asgs at e;cases e
 |_::_,[],_,_,_,_,_,_,_,_,_,_,e,_,_=>by unfold asgs at e;cases e
 |i::is,t::ts,vs,σ,τ,τ',F,H,A,Q,S,rs,e,hf,q=>by
  cases rs with
  |cons r rs=>
   unfold asgs at e
   obtain⟨A1,h1,h2⟩:=S.setVal r i
   refine⟨_,_,rfl,asg_many h2 rs e (λj hj=>hf j (List.mem_cons_of_mem _ hj)) λσ' A' f h S'=>q σ' A' (Fix.trans (.set (hf i List.mem_cons_self)) f) (λp hp=>h1 p (h p hp)) S'⟩
theorem asg_ok{g:Tg}{t:T}{v:V}{σ:St}{τ τ':Env2}{F H:Hp}{A:List Addr}{Q:St→Hp→Prop}(S:StR K F H σ τ A)(r:Rep K F v t)(e:asg O.val g t τ=some τ')(hf: ∀i∈g.slots,i∉fx)
  (q: ∀σ' A',Fix fx σ σ'→(∀p∈A',p∈A)→StR K F H σ' τ' A'→Q σ' H):gOf K g v σ H Q:=by
 cases g with
 |one i=>
  unfold asg at e
  cases e
  obtain⟨A1,h1,h2⟩:=S.setVal r i
  exact q _ A1 (.set (hf i List.mem_cons_self)) h1 h2
 |many is=>
  unfold asg at e
  cases t<;>first|cases e|skip
  rename_i ts
  obtain⟨p,vs,rfl,hp,rs⟩:=r.inv_tup
  have hl:ts.length=is.length:=by
   have: ∀(is:List Nat) (ts:List T) (τ:Env2) (τ':Env2),asgs O.val is ts τ=some τ'→ts.length=is.length:=by
    intro is
    induction is with
    |nil=>intro ts τ τ' e;cases ts<;>first|rfl|(unfold asgs at e;cases e)
    |cons i is ih=>
     intro ts τ τ' e
     cases ts with
     |nil=>unfold asgs at e;cases e
     |cons t ts=>unfold asgs at e;rw[List.length_cons,List.length_cons,ih ts _ _ e]
   exact this _ _ _ _ e
  exact⟨p,vs,rfl,S.fh.tupS hp,by rw[rs.length];exact hl,asg_many S rs e hf q⟩
end
end L2
set_option Elab.async false
set_option linter.all false
set_option maxRecDepth 100000
namespace L2
open PySem PySem.Spec PyProof.Rows
theorem StR.ext{K:PySem.W.Frag}{F H F' H':Hp}{σ:St}{τ:Env2}{A:List Addr}(S:StR K F H σ τ A)(x:Ext F H F' H'):StR K F' H' σ τ A∧SE F H A F' H' A:=by
 refine⟨⟨S.reps.frame x.ff λp hp=> ?_,S.nd,λp hp=> ?_,x.fh⟩,⟨x.ff,λp o h _=>x.hh p o h,λp o h=>⟨o,x.hh p o h⟩,λp h=>.inl h,λp o h _=>x.nw p o h⟩⟩
 ·obtain⟨u,e⟩:=S.there hp
  rw[x.hh p u e,e]
 ·obtain⟨u,e⟩:=S.there hp
  rw[x.nw p u e]
  exact S.off p hp
noncomputable def dLoop(g:Tg)(body:DS):List T→DS
 |[],τ=>some (.nx τ)
 |t::ts,τ=>(asg O.val g t τ).bind λτ1=>(body τ1).bind λo=>match o with
  | .nx τ2=>dLoop g body ts τ2
  | .ct τ2=>dLoop g body ts τ2
  | .bk τ2=>some (.nx τ2)
  | .rt t τ2=>some (.rt t τ2)
noncomputable def dFor(m:List Bool)(f:DA)(g:Tg)(body:DS):DS:=λτ=>(f (see m τ)).bind λts=>dLoop g body ts (frz m τ)
noncomputable def dForR(m:List Bool)(f:DA)(g:Tg)(body:DS):DS:=λτ=>(f (see m τ)).bind λts=>dLoop g body ts τ
section
variable {X:Cx} {fx:List Nat} {st:Stmt} {sts:List Stmt} {d d':DS} {i:Nat} {m:List Bool} {e tg iter:Expr} {f:DE} {fs:DA} {g:Tg} {pos:Pos}
theorem loop_ok{K:PySem.W.Frag}{F H F1 H1:Hp}{A A1:List Addr}{σ:St}{τ1:Env2}{o:Out}{D:Ends}{J:It}{ts:List T}(ok:OutOk K fx F H A σ D o)(x:SE F H A F1 H1 A1)(S:StR K F1 H1 σ τ1 A1)(w:Wk K F1 J ts)
  (hf: ∀i∈g.slots,i∉fx) (e:dLoop g d ts τ1=some o):
  ∃W:Nat→Nat→St→Hp→Prop,(∃m,W 0 m σ H1)∧∀i m σ H,W i m σ H→
   (J.stop i H∧D.nx σ H)∨(J.go i H∧∃N:St→Hp→Prop,(∀σ' H',N σ' H'→∃m',m'<m∧W (i+1) m' σ' H')∧∀x H',J.yld i H x H'→gOf K g x σ H' λσ2 H2=>tD K fx d {D with nx:=N,ct:=N,bk:=D.nx} σ2 H2):=by
 let Pn:Nat→St→Hp→Prop:=λi σ' H'=> ∃F' τ' A',Fix fx σ σ'∧SE F H A F' H' A'∧Same F1 F'∧StR K F' H' σ' τ' A'∧dLoop g d (ts.drop i) τ'=some o
 refine⟨λi m σ' H'=>m=ts.length - i∧i≤ts.length∧Pn i σ' H',⟨ts.length,by simp,Nat.zero_le _,F1,τ1,A1,.rfl,x,Same.refl _,S,e⟩,?_⟩
 rintro i m σ' H' ⟨rfl,hi,F',τ',A',fx',x',ff,S',e'⟩
 by_cases hlt:i<ts.length
 ·have hd:ts.drop i=ts[i]::ts.drop (i+1):=List.drop_eq_getElem_cons hlt
  have ht:ts[i]? =some ts[i]:=List.getElem?_eq_getElem hlt
  rw[hd] at e'
  unfold dLoop at e'
  obtain⟨τ2,e2,e3⟩:=Option.bind_eq_some_iff.mp e'
  obtain⟨o1,e4,e5⟩:=Option.bind_eq_some_iff.mp e3
  obtain⟨hgo,hy⟩:=w.2 i _ H' ht (ff.trans S'.fh)
  refine .inr ⟨hgo,Pn (i+1),λσ3 H3 p=>⟨ts.length - (i+1),by omega,rfl,hlt,p⟩,λy H2 hyl=> ?_⟩
  obtain⟨F2,x2,r2⟩:=hy y H2 hyl F' ff S'.fh
  obtain⟨S2,y2⟩:=S'.ext x2
  refine asg_ok (fx:=fx) S2 r2 e2 hf λσ3 A3 f3 h3 S3=> ?_
  have se3:=(x'.trans y2).sub h3
  have fx3:=fx'.trans f3
  refine⟨F2,τ2,A3,o1,S3,e4,?_⟩
  have ff2:Same F1 F2:=ff.trans x2.ff
  cases o1 with
  |nx τ4=>exact λσ4 F4 H4 A4 f4 y4 S4=>⟨F4,τ4,A4,fx3.trans f4,se3.trans y4,ff2.trans y4.ff,S4,e5⟩
  |ct τ4=>exact λσ4 F4 H4 A4 f4 y4 S4=>⟨F4,τ4,A4,fx3.trans f4,se3.trans y4,ff2.trans y4.ff,S4,e5⟩
  |bk τ4=>
   cases e5
   exact λσ4 F4 H4 A4 f4 y4 S4=>ok σ4 F4 H4 A4 (fx3.trans f4) (se3.trans y4) S4
  |rt t τ4=>
   cases e5
   exact λσ4 v F4 H4 A4 f4 y4 S4 r4=>ok σ4 v F4 H4 A4 (fx3.trans f4) (se3.trans y4) S4 r4
 ·have ei:i=ts.length:=by omega
  subst ei
  rw[List.drop_length] at e'
  unfold dLoop at e'
  cases e'
  exact .inl ⟨w.1 H' (ff.trans S'.fh),ok σ' F' H' A' fx' x' S'⟩
theorem vs_for{body:List Stmt}(hc:X.calm=true)(hi:VI X tg iter fs)(hg:PG X tg (gOf X.K g))(hb:VSs X fx body d)(hf: ∀i∈g.slots,i∉fx)
  (hp:PassesOwn (model X.prog X.w) X.A X.env X.xe:=by exact PassesOwn.never) (hs: ∀x,foldedSetIterable iter X.env x=pure x:=by intro _;rfl):VS X fx (.For tg iter body [] pos) (dFor m fs g d):=
 PS.le (ps_for hp hc hi hg hb hs) λD σ H ⟨F,τ,A,o,S,e,ok⟩=>by
  obtain⟨ts,e1,e2⟩:=Option.bind_eq_some_iff.mp e
  obtain⟨F0,A',h1,h2,h3⟩:=S.look m
  refine⟨F0,_,ts,h1,h2,e1,λJ H1 F1 x w=> ?_⟩
  obtain⟨_,x1,S1⟩:=h3 F1 H1 x
  exact loop_ok ok x1 S1 w hf e2
theorem vs_forR{body:List Stmt}(hc:X.calm=true)(hi:VIr X tg iter fs)(hg:PG X tg (gOf X.K g))(hb:VSs X fx body d)(hf: ∀i∈g.slots,i∉fx)
  (hp:PassesOwn (model X.prog X.w) X.A X.env X.xe:=by exact PassesOwn.never) (hs: ∀x,foldedSetIterable iter X.env x=pure x:=by intro _;rfl):VS X fx (.For tg iter body [] pos) (dForR m fs g d):=
 PS.le (ps_for hp hc hi hg hb hs) λD σ H ⟨F,τ,A,o,S,e,ok⟩=>by
  obtain⟨ts,e1,e2⟩:=Option.bind_eq_some_iff.mp e
  obtain⟨F0,A',h1,h2,h3⟩:=S.look m
  refine⟨F0,_,ts,h1,h2,e1,λJ H1 F1 x w=> ?_⟩
  obtain⟨⟨F2,x2,S2⟩,_⟩:=h3 F1 H1 x
  exact loop_ok ok x2 S2 (w F2) hf e2
noncomputable def dWhile(m:List Bool)(c:DT)(body:DS):Nat→DS
 |0,_=>none
 |n+1,τ=>(c (see m τ)).bind λb=>if b=true then(body τ).bind λo=>match o with
   | .nx τ2=>dWhile m c body n τ2
   | .ct τ2=>dWhile m c body n τ2
   | .bk τ2=>some (.nx τ2)
   | .rt t τ2=>some (.rt t τ2)
  else some (.nx τ)
theorem vs_while{c:Expr}{body:List Stmt}{t:DT}(k:Env2→Nat)(hc:VT X c t)(hb:VSs X fx body d)(hp:PassesOwn (model X.prog X.w) X.A X.env X.xe:=by exact PassesOwn.never):
  VS X fx (.While c body [] pos) (λτ=>dWhile m t d (k τ) τ):=PS.le (ps_while hp hc hb) λD σ H ⟨F,τ,A,o,S,e,ok⟩=>by
 let Pn:Nat→St→Hp→Prop:=λn σ' H'=> ∃F' τ' A',Fix fx σ σ'∧SE F H A F' H' A'∧StR X.K F' H' σ' τ' A'∧dWhile m t d n τ'=some o
 refine⟨Pn,⟨k τ,F,τ,A,.rfl,.rfl,S,e⟩,?_⟩
 rintro n σ' H' ⟨F',τ',A',fx',x',S',e'⟩
 cases n with
 |zero=>unfold dWhile at e';cases e'
 |succ n=>
  unfold dWhile at e'
  obtain⟨b,e1,e2⟩:=Option.bind_eq_some_iff.mp e'
  obtain⟨F0,h1,h2,h3,_⟩:=S'.after m
  refine⟨F0,_,b,h1,h2,e1,λH2 F2 x2=> ?_⟩
  obtain⟨F3,y3,S3⟩:=h3 F2 H2 x2
  cases b with
  |false=>
   rw[if_neg (by decide)] at e2⊢
   cases e2
   exact ok σ' F3 H2 A' fx' (x'.trans y3) S3
  |true=>
   rw[if_pos rfl] at e2⊢
   obtain⟨o1,e4,e5⟩:=Option.bind_eq_some_iff.mp e2
   refine⟨Pn n,λσ4 H4 p=>⟨n,Nat.lt_succ_self n,p⟩,F3,τ',A',o1,S3,e4,?_⟩
   have se3:=x'.trans y3
   cases o1 with
   |nx τ4=>exact λσ4 F4 H4 A4 f4 y4 S4=>⟨F4,τ4,A4,fx'.trans f4,se3.trans y4,S4,e5⟩
   |ct τ4=>exact λσ4 F4 H4 A4 f4 y4 S4=>⟨F4,τ4,A4,fx'.trans f4,se3.trans y4,S4,e5⟩
   |bk τ4=>
    cases e5
    exact λσ4 F4 H4 A4 f4 y4 S4=>ok σ4 F4 H4 A4 (fx'.trans f4) (se3.trans y4) S4
   |rt t τ4=>
    cases e5
    exact λσ4 v F4 H4 A4 f4 y4 S4 r4=>ok σ4 v F4 H4 A4 (fx'.trans f4) (se3.trans y4) S4 r4
end
@[simp] noncomputable def pickE(pk:List (Option Nat))(ε:Ev):Ev:=pk.map λo=>o.bind λj=>(ε[j]?).getD none
noncomputable def dComp(g:Tg)(fc:DT)(fe:DE)(ε:Ev):List T→Option (List T)
 |[]=>some []
 |t::ts=>(asg id g t ε).bind λε1=>(fc ε1).bind λb=>if b=true then(fe ε1).bind λy=>(dComp g fc fe ε ts).map (y:: ·) else dComp g fc fe ε ts
noncomputable def dLC(pk:List (Option Nat))(g:Tg)(fi:DA)(fc:DT)(fe:DE):DA:=λε=>(fi ε).bind λts=>if ts.length≤lim then dComp g fc fe (pickE pk ε) ts else none
noncomputable def dYes:DT:=λ_=>some true
theorem ERep.pick{K:PySem.W.Frag}{F:Hp}{σ:St}{ε:Ev}(h:ERep K F σ ε)(pk:List (Option Nat)):ERep K F (pickS pk σ) (pickE pk ε):=by
 intro i t e
 unfold pickE at e
 unfold pickS
 rw[List.getElem?_map] at e⊢
 cases hp:pk[i]? with
 |none=>rw[hp] at e;cases e
 |some o=>
  rw[hp] at e
  cases o with
  |none=>simp at e
  |some j=>
   have e':(ε[j]?).getD none=some t:=by simpa using e
   have e2:ε[j]? =some (some t):=by
    cases q:ε[j]? with
    |none=>rw[q] at e';cases e'
    |some u=>rw[q] at e';simp at e';rw[e']
   obtain⟨v,h1,h2⟩:=h j t e2
   refine⟨v,?_,h2⟩
   simp[h1]
theorem ERep.set{K:PySem.W.Frag}{F:Hp}{σ:St}{ε:Ev}{v:V}{t:T}(h:ERep K F σ ε)(r:Rep K F v t)(i:Nat)(hi:i<σ.length):ERep K F (σ.set i (some v)) (ε.set i (some t)):=by
 intro j u e
 rw[List.getElem?_set] at e⊢
 by_cases hij:i=j
 ·subst hij
  rw[if_pos rfl] at e⊢
  rw[if_pos hi]
  split at e
  ·cases e
   exact⟨v,rfl,r⟩
  ·cases e
 ·rw[if_neg hij] at e⊢
  exact h j u e
theorem ERep.skip{K:PySem.W.Frag}{F:Hp}{σ:St}{ε:Ev}{o:Option V}{i:Nat}(h:ERep K F σ ε)(hn:ε[i]?.join=none):ERep K F (σ.set i o) ε:=by
 intro j u e
 have hij:i≠j:=by rintro rfl;rw[e] at hn;cases hn
 rw[List.getElem?_set_ne hij]
 exact h j u e
theorem asgE_many{K:PySem.W.Frag}: ∀{is:List Nat} {ts:List T} {vs:List V} {σ:St} {ε ε0 ε1:Ev} {F H:Hp} {Q:St→Hp→Prop},ERep K F σ ε→ERep K F σ ε0→Reps K F vs ts→asgs id is ts ε=some ε1→(∀i∈is,i<σ.length∧ε0[i]?.join=none)→
  (∀σ',σ'.length=σ.length→ERep K F σ' ε1→ERep K F σ' ε0→Q σ' H)→gOfs is vs σ H Q
 |[],[],_,σ,ε,ε0,ε1,F,H,Q,hE,h0,rs,e,_,q=>by
  cases rs
  unfold asgs at e
  cases e
  exact⟨rfl,q σ rfl hE h0⟩
 |[],_::_,_,_,_,_,_,_,_,_,_,_,_,e,_,_=>by unfold asgs at e;cases e
 |_::_,[],_,_,_,_,_,_,_,_,_,_,_,e,_,_=>by unfold asgs at e;cases e
 |i::is,t::ts,vs,σ,ε,ε0,ε1,F,H,Q,hE,h0,rs,e,hi,q=>by
  cases rs with
  |cons r rs=>
   unfold asgs at e
   obtain⟨h1,h2⟩:=hi i List.mem_cons_self
   refine⟨_,_,rfl,asgE_many (hE.set r i h1) (h0.skip h2) rs e (λj hj=> ?_) λσ' hl a b=>q σ' (by rw[hl,List.length_set]) a b⟩
   obtain⟨a,b⟩:=hi j (List.mem_cons_of_mem _ hj)
   exact⟨by rw[List.length_set];exact a,b⟩
theorem asgs_len{α:Type}{w:T→α}: ∀{is:List Nat} {ts:List T} {τ τ':List (Option α)},asgs w is ts τ=some τ'→ts.length=is.length:=by
 intro is
 induction is with
 |nil=>intro ts τ τ' e;cases ts<;>first|rfl|(unfold asgs at e;cases e)
 |cons i is ih=>
  intro ts τ τ' e
  cases ts with
  |nil=>unfold asgs at e;cases e
  |cons t ts=>unfold asgs at e;rw[List.length_cons,List.length_cons,ih e]
theorem asgE_ok{K:PySem.W.Frag}{g:Tg}{t:T}{v:V}{σ:St}{ε0 ε1:Ev}{F H:Hp}{Q:St→Hp→Prop}(h0:ERep K F σ ε0)(fh:Same F H)(r:Rep K F v t)(e:asg id g t ε0=some ε1)(hi: ∀i∈g.slots,i<σ.length∧ε0[i]?.join=none)
  (q: ∀σ',σ'.length=σ.length→ERep K F σ' ε1→ERep K F σ' ε0→Q σ' H):gOf K g v σ H Q:=by
 cases g with
 |one i=>
  unfold asg at e
  cases e
  obtain⟨h1,h2⟩:=hi i List.mem_cons_self
  exact q _ (List.length_set ..) (h0.set r i h1) (h0.skip h2)
 |many is=>
  unfold asg at e
  cases t<;>first|cases e|skip
  rename_i ts
  obtain⟨p,vs,rfl,hp,rs⟩:=r.inv_tup
  exact⟨p,vs,rfl,fh.tupS hp,by rw[rs.length];exact asgs_len e,asgE_many h0 h0 rs e hi q⟩
section
variable {X:Cx} {elt iter tg:Expr} {ifs:List Expr} {scope:Scope} {pos:Pos} {N:List Str} {pk:List (Option Nat)} {g:Tg} {fi:DA} {fc:DT} {fe:DE}
theorem PF.le{X:Cx}{ifs:List Expr}{t t':TT}(h:PF X ifs t)(w: ∀σ H Q,t' σ H Q→t σ H Q):PF X ifs t':=λpins s σ H Q I q=>h pins s σ H Q I (w σ H Q q)
noncomputable def VFs(X:Cx)(ifs:List Expr)(f:DT):Prop:=PF X ifs (tTs X.K f)
theorem vfs_none{X:Cx}:VFs X [] dYes:=PF.le pf_none λσ H Q ⟨F,ε,b,hF,hE,e,q⟩=>by cases e;exact q H F (.rfl hF)
theorem vfs_one{X:Cx}{c:Expr}{f:DT}(h:VT X c f):VFs X [c] f:=pf_one h
theorem pickE_none{pk:List (Option Nat)}{ε:Ev}{i:Nat}(h:pk[i]?.join=none):(pickE pk ε)[i]?.join=none:=by
 unfold pickE
 rw[List.getElem?_map]
 cases q:pk[i]? with
 |none=>rfl
 |some o=>
  rw[q] at h
  simp at h
  subst h
  rfl
theorem comp_core{K:PySem.W.Frag}{σ:St}{ε:Ev}{ts ys:List T}{J:It}{F1 H1:Hp}{Q:VK}(hsl:(g.slots.all λi=>decide (i<pk.length)&&(pk[i]?.join).isNone)=true)(hE:ERep K F1 σ ε)(fh:Same F1 H1)(w:Wk K F1 J ts)(hlen:ts.length≤lim)(e2:dComp g fc fe (pickE pk ε) ts=some ys)
  (q: ∀l zs H' F2,Ext F1 H1 F2 H'→H' l=none→Reps K F2 zs ys→Q (.ref l) (upd H' l (.lst zs))):compBody pk (gOf K g) (tTs K fc) (tE K fe) σ Q J H1:=λl hl=>by
 have hlim:=lim_lt
 have hsl': ∀i∈g.slots,i<pk.length∧(pickE pk ε)[i]?.join=none:=λi hi'=>by
  have:=List.all_eq_true.mp hsl i hi'
  rw[Bool.and_eq_true,decide_eq_true_eq,Option.isNone_iff_eq_none] at this
  exact⟨this.1,pickE_none this.2⟩
 have hE1:ERep K F1 (pickS pk σ) (pickE pk ε):=hE.pick pk
 have f1l:F1 l=none:=fh.free hl
 have new0:Ext F1 H1 F1 (upd H1 l (.lst [])):=⟨λb u z=>by rw[upd_keep hl z];exact z,Same.refl _,λb u z=>by rw[upd_keep hl (fh b u z)];exact fh b u z,λ_ _ _=>rfl⟩
 refine⟨λi m zs τ H2=>m=ts.length - i∧i≤ts.length∧τ.length=pk.length∧∃F2 ys1 ys2,Ext F1 H1 F2 H2∧F2 l=none∧H2 l=some (.lst zs)∧Reps K F2 zs ys1∧ys1.length≤i∧dComp g fc fe (pickE pk ε) (ts.drop i)=some ys2∧ys=ys1++ys2∧ERep K F2 τ (pickE pk ε),
  ⟨ts.length,by simp,Nat.zero_le _,by unfold pickS;rw[List.length_map],F1,[],ys,new0,f1l,upd_same,.nil,Nat.le_refl _,e2,rfl,hE1⟩,?_⟩
 rintro i m zs τ H2 ⟨rfl,hi',hτ,F2,ys1,ys2,x2,fl2,hl2,rs2,hy1,e3,eys,hE2⟩
 have ff2:Same F1 F2:=x2.ff
 have lz:=rs2.length
 by_cases hlt:i<ts.length
 ·have hd:ts.drop i=ts[i]::ts.drop (i+1):=List.drop_eq_getElem_cons hlt
  have ht:ts[i]? =some ts[i]:=List.getElem?_eq_getElem hlt
  rw[hd] at e3
  unfold dComp at e3
  obtain⟨ε1,a1,a2⟩:=Option.bind_eq_some_iff.mp e3
  obtain⟨b,a3,a4⟩:=Option.bind_eq_some_iff.mp a2
  obtain⟨hgo,hy⟩:=w.2 i _ H2 ht (ff2.trans x2.fh)
  refine .inr ⟨hgo,λy H3 hyl=> ?_⟩
  obtain⟨F3,x3,r3⟩:=hy y H3 hyl F2 ff2 x2.fh
  refine asgE_ok (hE2.mono x3.ff) x3.fh r3 a1 (λj hj=>by obtain⟨z1,z2⟩:=hsl' j hj;exact⟨by omega,z2⟩) λτ4 hτ4 hE4 hE5=> ?_
  refine⟨F3,ε1,b,x3.fh,hE4,a3,λH4 F4 x4=> ?_⟩
  have x24:=x3.trans x4
  have fl4:F4 l=none:=(x24.nw l _ hl2).trans fl2
  have hl4:H4 l=some (.lst zs):=x24.hh l _ hl2
  cases b with
  |false=>
   rw[if_neg (by decide)] at a4
   refine iteF ?_
   exact⟨ts.length - (i+1),by omega,rfl,hlt,by omega,F4,ys1,ys2,x2.trans x24,fl4,hl4,rs2.mono x24.ff,by omega,a4,eys,hE5.mono x4.ff⟩
  |true=>
   rw[if_pos rfl] at a4
   refine iteT ?_
   obtain⟨t',a5,a6⟩:=Option.bind_eq_some_iff.mp a4
   obtain⟨ys3,a7,rfl⟩:=Option.map_eq_some_iff.mp a6
   refine⟨F4,ε1,t',x4.fh,hE4.mono x4.ff,a5,λv H5 F5 x5 r5=> ?_⟩
   have x25:=x24.trans x5
   have fl5:F5 l=none:=(x25.nw l _ hl2).trans fl2
   have hl5:H5 l=some (.lst zs):=x25.hh l _ hl2
   have x15:=x2.trans x25
   have ext6:Ext F1 H1 F5 (upd H5 l (.lst (zs++[v]))):=⟨λb u z=>by rw[upd_ne (ne_of_none z hl)];exact x15.hh b u z,x15.ff,λb u z=>by rw[upd_ne (ne_of_none z fl5)];exact x15.fh b u z,x15.nw⟩
   refine⟨hl5,by omega,ts.length - (i+1),by omega,rfl,hlt,by omega,F5,ys1++[t'],ys3,ext6,fl5,upd_same,(rs2.mono x25.ff).append (.cons r5 .nil),?_,a7,?_,hE5.mono (x4.ff.trans x5.ff)⟩
   ·rw[List.length_append,List.length_singleton];omega
   ·rw[eys,List.append_assoc];rfl
 ·have ei:i=ts.length:=by omega
  subst ei
  rw[List.drop_length] at e3
  unfold dComp at e3
  cases e3
  rw[List.append_nil] at eys
  subst eys
  refine .inl ⟨w.1 H2 (ff2.trans x2.fh),?_⟩
  let H':Hp:=λp=>if p=l then none else H2 p
  have hH': ∀p,p≠l→H' p=H2 p:=λp hp=>if_neg hp
  have eH:upd H' l (.lst zs)=H2:=by
   funext p
   by_cases hp:p=l
   ·subst hp;rw[upd_same,hl2]
   ·rw[upd_ne hp,hH' p hp]
  have x':Ext F1 H1 F2 H':=⟨λb u z=>by rw[hH' b (ne_of_none z hl)];exact x2.hh b u z,x2.ff,λb u z=>by rw[hH' b (ne_of_none z fl2)];exact x2.fh b u z,x2.nw⟩
  have:=q l zs H' F2 x' (if_pos rfl) rs2
  rw[eH] at this
  exact this
theorem comp_imp{K:PySem.W.Frag}(hsl:(g.slots.all λi=>decide (i<pk.length)&&(pk[i]?.join).isNone)=true): ∀σ H Q,tFr K (dLC pk g fi fc fe) σ H Q→tComp pk (tI K fi) (gOf K g) (tTs K fc) (tE K fe) σ H Q:=λσ H Q ⟨F,ε,ys,hF,hE,e,q⟩=>by
 obtain⟨ts,e1,e2⟩:=Option.bind_eq_some_iff.mp e
 split at e2
 case isFalse=>cases e2
 case isTrue hlen=>
 exact⟨F,ε,ts,hF,hE,e1,λJ H1 F1 x1 w=>comp_core hsl (hE.mono x1.ff) x1.fh w hlen e2 λl zs H' F2 x hl r=>q l zs H' F2 (x1.trans x) hl r⟩
theorem vf_comp(hc:X.calm=true)(S0:csOk X.env.scope X.N N pk scope=true)(hi:VI X tg iter fi)(hg: ∀cl C s H ex,PG (compCx X N scope cl C s H ex) tg (gOf X.K g))(hif: ∀cl C s H ex,VFs (compCx X N scope cl C s H ex) ifs fc)
  (he: ∀cl C s H ex,VE (compCx X N scope cl C s H ex) elt fe) (hsl:(g.slots.all λi=>decide (i<pk.length)&&(pk[i]?.join).isNone)=true) (hs: ∀x,foldedSetIterable iter X.env x=pure x:=by intro _;rfl):
  VF X (.ListComp elt [⟨tg,iter,ifs,0⟩] scope pos) (dLC pk g fi fc fe):=PE.le (pe_comp (tc:=tTs X.K fc) (te:=tE X.K fe) hc S0 hi hg hif he hs) (comp_imp hsl)
end
@[simp] noncomputable def startE(N:List Str)(ts:List T):Env2:=ts.map (λt=>some (.val t))++List.replicate (N.length - ts.length) none
@[simp] noncomputable def runs(d:DS)(τ:Env2):Option T:=(d τ).bind λo=>match o with
 | .rt t _=>some t
 | .nx _=>some .non
 |_=>none
theorem sreps_none{K:PySem.W.Frag}{F H:Hp}: ∀n:Nat,SReps K F H (List.replicate n none) (List.replicate n none) []
 |0=>.nil
 |n+1=>.skip (sreps_none n)
theorem sreps_start{K:PySem.W.Frag}{F H:Hp}{n:Nat}: ∀{vs:List V} {ts:List T},Reps K F vs ts→SReps K F H (vs.map some++List.replicate n none) (ts.map (λt=>some (.val t))++List.replicate n none) []
 |_,_,.nil=>sreps_none n
 |_,_,.cons r rs=>SReps.cons (A:=[]) (B:=[]) (.val r) (sreps_start rs)
section
variable {P:Program} {w:World} {K:PySem.W.Frag} {mg:Str→Option Value} {base:Heap}
theorem fun_pure{x qual:Str}{st:Stmt}{f:Addr}{fd:FuncData}{N ps:List Str}{k:Nat}{sp:List T→Option T}{d:DS}(F:Fun K x qual st f fd)(S:FnScope N ps (defScope st))
  (hb: ∀(cdv:Value) (A:Around) (outer:List Env) (s:Shared) (H:Hp) (E:XK),Room k (A.deeper (envOfC qual (defScope st) s.heap.objs.size f cdv))→VSs (cxOf CX0 P w K mg base N qual (defScope st) f cdv A outer s H E).nox [] (defBody st) d)
  (hs: ∀ts t,sp ts=some t→ts.length=ps.length∧runs d (startE N ts)=some t):FnOk P w K mg base CX0 (k+1) f fd ps (spP K sp):=by
 refine F.ok S (λvs H Q E h=> ?_) (λcdv A outer s H vs Q E hr h=> ?_)
 ·obtain⟨F0,ts,t,_,rs,e,_⟩:=h
  rw[rs.length]
  exact(hs ts t e).1
 obtain⟨F0,ts,t,hF,rs,e,q⟩:=h
 obtain⟨hl,hd⟩:=hs ts t e
 refine⟨_,hb cdv A outer s H E hr,?_⟩
 obtain⟨o,e1,e2⟩:=Option.bind_eq_some_iff.mp hd
 have lv:=rs.length
 refine⟨F0,startE N ts,[],o,⟨?_,List.nodup_nil,λp hp=>(by cases hp),hF⟩,e1,?_⟩
 ·unfold start startE
  rw[lv]
  exact sreps_start rs
 ·have ext: ∀{F' H':Hp} {A':List Addr} {σ':St} {τ':Env2},SE F0 H [] F' H' A'→StR K F' H' σ' τ' A'→Ext F0 H F' H':=λx S'=>
   ⟨λp o h=>x.keep p o h (by simp),x.ff,S'.fh,λp o h=>x.nw p o h (by simp)⟩
  cases o with
  |nx τ'=>
   cases e2
   exact λσ' F' H' A' _ x S'=>q .non H' F' (ext x S') .non
  |rt t' τ'=>
   cases e2
   exact λσ' v F' H' A' _ x S' r=>q v H' F' (ext x S') r
  |bk τ'=>cases e2
  |ct τ'=>cases e2
end
end L2
set_option Elab.async false
set_option linter.all false
set_option maxRecDepth 100000
namespace L2
open PySem PySem.Spec PyProof.Rows
theorem hu64{A:Around}{k:Nat}(hr:Room k A):A.units+64<cLine:=by have:=hr.un;omega
noncomputable def dNeg(f:DE):DE:=λε=>(f ε).bind λt=>match t with | .int i=>some (.int (-i))|_=>none
noncomputable def inT:T→T→Option T
 |x,.lst ts=>if x.flat&&ts.all (λt=>t.flat&&eqOk t x) then some (.bl (ts.any λt=>eqB t x)) else none
 |x,.tup ts=>if x.flat&&ts.all (λt=>t.flat&&eqOk t x) then some (.bl (ts.any λt=>eqB t x)) else none
 | .str i,.str j=>some (.bl (!(Builtin.Str.occurrences j i 0 j.length 1).isEmpty))
 |_,_=>none
noncomputable def notInT:T→T→Option T
 |x,.lst ts=>if x.flat&&ts.all (λt=>t.flat&&eqOk t x) then some (.bl (!ts.any λt=>eqB t x)) else none
 |x,.tup ts=>if x.flat&&ts.all (λt=>t.flat&&eqOk t x) then some (.bl (!ts.any λt=>eqB t x)) else none
 | .str i,.str j=>some (.bl (!(!(Builtin.Str.occurrences j i 0 j.length 1).isEmpty)))
 |_,_=>none
section
variable {K:PySem.W.Frag} {F:Hp}
theorem Rep.flatV{x:V}{s:T}(r:Rep K F x s)(h:s.flat=true):L2.flatV x=true:=by
 cases r<;>first|rfl|(exact absurd (show false=true from h) Bool.false_ne_true)
theorem eqV_eqB{x y:V}{s t:T}(r1:Rep K F x s)(r2:Rep K F y t)(f1:s.flat=true)(f2:t.flat=true)(ho:eqOk s t=true):eqV x y=eqB s t:=by
 cases r1<;>first|(exact absurd (show false=true from f1) Bool.false_ne_true)|skip
 all_goals cases r2<;>first|(exact absurd (show false=true from f2) Bool.false_ne_true)|skip
 all_goals first
  |(unfold eqOk at ho;exact absurd ho (by decide))
  |(unfold eqB eqV;rfl)
theorem inV_rep{x:V}{s:T}(r:Rep K F x s)(f:s.flat=true): ∀{vs:List V} {ts:List T},Reps K F vs ts→ts.all (λt=>t.flat&&eqOk t s)=true→vs.all L2.flatV=true∧inV x vs=ts.any λt=>eqB t s
 |_,_,.nil,_=>⟨rfl,rfl⟩
 |_,_,.cons q rs,h=>by
  rw[List.all_cons,Bool.and_eq_true,Bool.and_eq_true] at h
  obtain⟨h1,h2⟩:=inV_rep r f rs h.2
  unfold inV at h2⊢
  rw[List.all_cons,List.any_cons,List.any_cons,q.flatV h.1.1,h1,h2,eqV_eqB q r h.1.1 f h.1.2]
  exact⟨rfl,rfl⟩
end
noncomputable def rInT(K:PySem.W.Frag):R2:=λx y H Q=>rIn K false x y H Q∨(∃i j,x=.str i∧y=.str j∧Q (.bl (!(Builtin.Str.occurrences j i 0 j.length 1).isEmpty)) H)
section
variable {X:Cx} {e a b c tg:Expr} {es:List Expr} {pos p2:Pos} {f g h:DE} {fs:DA}
theorem ot_in{K:PySem.W.Frag}:OT K (rInT K) inT:=by
 intro F H x y s t u Q hF rx ry e q
 unfold inT at e
 split at e
 ·obtain⟨p,vs,rfl,hp,rs⟩:=ry.inv_lst
  split at e
  ·rename_i hc
   cases e
   rw[Bool.and_eq_true] at hc
   obtain⟨h1,h2⟩:=inV_rep rx hc.1 rs hc.2
   refine .inl ⟨p,vs,rfl,.inl (SqL.of (hF _ _ hp)),rx.flatV hc.1,h1,?_⟩
   rw[if_neg (by decide),h2]
   exact q _ H F (.rfl hF) (.bl _)
  ·cases e
 ·obtain⟨p,vs,rfl,hp,rs⟩:=ry.inv_tup
  split at e
  ·rename_i hc
   cases e
   rw[Bool.and_eq_true] at hc
   obtain⟨h1,h2⟩:=inV_rep rx hc.1 rs hc.2
   refine .inl ⟨p,vs,rfl,.inr (hF.tupS hp),rx.flatV hc.1,h1,?_⟩
   rw[if_neg (by decide),h2]
   exact q _ H F (.rfl hF) (.bl _)
  ·cases e
 ·cases rx.inv_str
  cases ry.inv_str
  cases e
  exact .inr ⟨_,_,rfl,rfl,q _ H F (.rfl hF) (.bl _)⟩
 ·cases e
theorem ve_in(hu:X.A.units+64<cLine)(ha:VE X a f)(hb:VE X b g)(hm:behindInMarks .In b=false:=by with_unfolding_all rfl):VE X (.Compare a [.In] [b] pos) (d2 inT f g):=ve2 ot_in (pe_cmpR (op_in_seq.or op_in_str) ha hb hm)
theorem vt_in(hu:X.A.units+64<cLine)(ha:VE X a f)(hb:VE X b g)(hm:behindInMarks .In b=false:=by with_unfolding_all rfl):VT X (.Compare a [.In] [b] pos) (dB (d2 inT f g)):=vt2 ot_in (pt_cmpR (op_in_seq.or op_in_str) ha hb hm)
noncomputable def dChain(r s:T→T→Option T)(f g h:DE):DE:=λε=>(f ε).bind λa=>(g ε).bind λb=>(r a b).bind λk=>match k with
 | .bl true=>(h ε).bind λc=>s b c
 | .bl false=>some (.bl false)
 |_=>none
theorem chainP{r r':R2}{op op':T→T→Option T}(h1:OT X.K r op)(h2:OT X.K r' op'): ∀σ H Q,tE X.K (dChain op op' f g h) σ H Q→tChain r r' (tE X.K f) (tE X.K g) (tE X.K h) σ H Q:=λσ H Q ⟨F,ε,u,hF,hE,e,q⟩=>by
 obtain⟨s,e1,e2⟩:=Option.bind_eq_some_iff.mp e
 obtain⟨t,e3,e4⟩:=Option.bind_eq_some_iff.mp e2
 obtain⟨k,e5,e6⟩:=Option.bind_eq_some_iff.mp e4
 refine⟨F,ε,s,hF,hE,e1,λx H1 F1 x1 rx=>⟨F1,ε,t,x1.fh,hE.mono x1.ff,e3,λy H2 F2 x2 ry=>h1 F2 H2 x y s t k _ x2.fh (rx.mono x2.ff) ry e5 λv H3 F3 x3 rv=> ?_⟩⟩
 have x13:=x1.trans (x2.trans x3)
 split at e6
 ·cases rv.inv_bl
  obtain⟨w,e7,e8⟩:=Option.bind_eq_some_iff.mp e6
  exact⟨true,rfl,iteT ⟨F3,ε,w,x3.fh,hE.mono x13.ff,e7,λz H4 F4 x4 rz=>h2 F4 H4 y z t w u Q x4.fh (ry.mono (x3.ff.trans x4.ff)) rz e8 λv' H5 F5 x5 rv'=>q v' H5 F5 (x13.trans (x4.trans x5)) rv'⟩⟩
 ·cases rv.inv_bl
  cases e6
  exact⟨false,rfl,iteF (q _ H3 F3 x13 (.bl _))⟩
 ·cases e6
theorem vt_chain{o o':CmpOp}{r r':R2}{op op':T→T→Option T}(ho:OpR X (compareOp o) r)(ho':OpR X (compareOp o') r')(h1:OT X.K r op)(h2:OT X.K r' op')(ha:VE X a f)(hb:VE X b g)(hc:VE X c h)
  (hm:lastMarks [o,o'] [b,c]=false:=by with_unfolding_all rfl):VT X (.Compare a [o,o'] [b,c] pos) (dB (dChain op op' f g h)):=vt_cmpP (PT.test (pt_chain ho ho' ha hb hc hm) (chainP h1 h2))
noncomputable def rsz(lo hi c:Int):Nat:=if lo<hi then((hi - lo - 1)/c+1).toNat else 0
noncomputable def rngS(lo c:Int)(n:Nat):List T:=(List.range n).map λ(k:Nat)=>T.int (lo+(k:Int)*c)
noncomputable def dR3(f g h:DE):DA:=λε=>(f ε).bind λt=>(g ε).bind λu=>(h ε).bind λv=>match t,u,v with
 | .int i,.int j,.int c=>if -1000000000≤i∧i≤1000000000∧ -1000000000≤j∧j≤1000000000∧0<c∧c≤1000000 then some (rngS i c (rsz i j c)) else none
 |_,_,_=>none
noncomputable def MT(K:PySem.W.Frag)(S:String)(r:V→List V→Hp→VK→Prop)(op:T→List T→Option T):Prop:=
 ∀(F H:Hp) (x:V) (xs:List V) (s:T) (ts:List T) (u:T) (Q:VK),Same F H→Rep K F x s→Reps K F xs ts→op s ts=some u→(∀v H' F',Ext F H F' H'→Rep K F' v u→Q v H')→r x xs H Q
noncomputable def dMeth(op:T→List T→Option T)(f:DE)(fs:DA):DE:=λε=>(f ε).bind λs=>(fs ε).bind λts=>op s ts
noncomputable def strOnly(op:Str→List T→Option T):T→List T→Option T
 | .str z,ts=>op z ts
 |_,_=>none
end
section
variable {X:Cx} {fx:List Nat} {st:Stmt} {i:Nat} {m:List Bool} {f g:DE}
noncomputable def dPut(i:Nat)(m:List Bool)(f g:DE):DS:=λτ=>(f (see m τ)).bind λt=>(g (see m τ)).bind λk=>match k,(aft m t τ)[i]? with
 | .int k,some (some (.lst os))=>(ixN os.length k).bind λj=>some (.nx ((aft m t τ).set i (some (.lst (os.set j (.val t))))))
 |_,_=>none
theorem OReps.set{K:PySem.W.Frag}{F H:Hp}: ∀{vs:List V} {os:List O} {A:List Addr} {v:V} {t:T} (n:Nat),OReps K F H vs os A→Rep K F v t→∃A',A'.Sublist A∧OReps K F H (vs.set n v) (os.set n (.val t)) A'
 |_,_,_,_,_,_,.nil,_=>⟨[],List.Sublist.refl _,.nil⟩
 |_,_,_,v,t,0,.cons (A:=A) (B:=B) _ rs,r=>⟨B,List.sublist_append_right _ _,OReps.cons (A:=[]) (.val r) rs⟩
 |_,_,_,v,t,n+1,.cons (A:=A) (B:=B) q rs,r=>by
  obtain⟨A',h1,h2⟩:=OReps.set n rs r
  exact⟨A++A',(List.Sublist.refl _).append h1,.cons q h2⟩
theorem vs_put(hp:PS X st (tAsg (tE X.K f) (gSub (tVar i) (tE X.K g) rSetL))):VS X fx st (dPut i m f g):=PS.le hp λD σ H ⟨F,τ,A,o,S,e,ok⟩=>by
 obtain⟨t,e1,e2⟩:=Option.bind_eq_some_iff.mp e
 obtain⟨k,e3,e4⟩:=Option.bind_eq_some_iff.mp e2
 split at e4
 ·rename_i kk os hos
  obtain⟨j,e5,e6⟩:=Option.bind_eq_some_iff.mp e4
  cases e6
  obtain⟨F0,h1,h2,_,h3⟩:=S.after m
  obtain⟨p0,vs0,A00,g1,g2,g3,g4,g5,g6⟩:=S.write (aft_lst hos)
  refine⟨F0,_,t,h1,h2,e1,λv H1 F1 x1 r=>⟨.ref p0,g1,F1,_,.int kk,x1.fh,h2.mono x1.ff,e3,λy H2 F2 x2 ry=> ?_⟩⟩
  cases ry.inv_int
  obtain⟨F3,A3,a,b,c⟩:=h3 F2 H2 v t (x1.trans x2) (r.mono x2.ff)
  obtain⟨p,vs,A0,k1,k2,k3,k4,k5,k6⟩:=b.write hos
  rw[g1] at k1
  cases k1
  refine⟨p0,vs,kk,j,rfl,rfl,k2,by rw[k5];exact e5,?_⟩
  obtain⟨A2,z1,z2⟩:=k6 (vs.set j v) (os.set j (.val t)) λz=>OReps.set j z c
  exact ok σ F3 _ A2 .rfl (a.write k4 k2 z1) z2
 ·cases e4
noncomputable def dExt(i:Nat)(m:List Bool)(f:DE):DS:=λτ=>(f (see m τ)).bind λt=>match t,(aft m t τ)[i]? with
 | .lst ts,some (some (.lst os))=>if os.length+ts.length≤lim then some (.nx ((aft m t τ).set i (some (.lst (os++ts.map .val))))) else none
 |_,_=>none
noncomputable def dAug(i:Nat)(m:List Bool)(f:DE):DS:=λτ=>match τ[i]? with
 |some (some (.val (.int a)))=>(f (see m τ)).bind λt=>match t with
  | .int b=>some (.nx (τ.set i (some (.val (.int (a+b))))))
  |_=>none
 |_=>none
end
end L2
set_option Elab.async false
set_option linter.all false
set_option maxRecDepth 100000
namespace L2
open PySem PySem.Spec PyProof.Rows
theorem ps_setComp{X:Cx}{elt iter tg:Expr}{ifs:List Expr}{scope:Scope}{pos cpos pos':Pos}{x:Str}{i:Nat}{N:List Str}{pk:List (Option Nat)}{wi:TI}{g:TG}{tc:TT}{te:TE}(hc:X.calm=true)(S0:csOk X.env.scope X.N N pk scope=true)(hi:PI X tg iter wi)
  (hg: ∀cl C s H ex,PG (compCx X N scope cl C s H ex) tg g) (hif: ∀cl C s H ex,PF (compCx X N scope cl C s H ex) ifs tc) (he: ∀cl C s H ex,PE (compCx X N scope cl C s H ex) elt te)
  (hN:X.N.Nodup) (hx1:X.N[i]? =some x) (hx2:Loc X.env.scope x) (hsw:swapsWith (.ListComp elt [⟨tg,iter,ifs,0⟩] scope cpos) (some (.Name x pos')) pos.line X.env=pure true:=by rfl) (hs: ∀x,foldedSetIterable iter X.env x=pure x:=by intro _;rfl)
  (hf:X.fn x=true∨X.env.scope.names.lookup x=some .local:=by first|exact .inl rfl|exact .inr rfl|assumption):
  PS X (.Assign [.Name x pos'] (.ListComp elt [⟨tg,iter,ifs,0⟩] scope cpos) pos) (tAsg (tComp pk wi g tc te) (gName i)):=by
 intro pins s σ H D I h
 have S:=cs_of S0
 obtain⟨cl,hcl,hc1,hc2⟩:=closureFor_of (env:=X.env) (scope:=scope) λy hy hf=>I.ok.has y.1 (S.frees y hy hf)
 rw[exec_Assign_Name_used _ _ _ _ hsw]
 refine wpAny_bind (wpAny_standAt (wpAny_bind (?_:wpAny (model X.prog X.w) X.A (evalThenUse (.ListComp elt [⟨tg,iter,ifs,0⟩] scope cpos) X.env (assign (.Name x pos') X.env)) (λ_ s1=>wpAny (model X.prog X.w) X.A (pure Flow.next) (SP X pins D) X.xe s1) X.xe s)))
 refine wpAny_bind (wpAny_mono (Q:=λ_ s1=> ∃σ' H',Inv X pins σ' H' s1∧D.nx σ' H') ?_ (λ_ s1 q=>wpAny_pure (wpAny_pure (show SP X pins D .next s1 from q))) λ_ _ z=>z)
 refine wpAny_comprehension_free (use:=some (assign (.Name x pos') X.env)) rfl hs hcl S.kind S.names (thn (hi pins s σ H _ I h) λv s1 h1=>thn h1 λitv s2 h2=> ?_)
 obtain⟨it,fp,tn,J,H2,e,I2,T,st2,f2,hq⟩:=h2
 subst e
 have hl:H2 s2.heap.objs.size=none:=I2.hok.fresh (Nat.le_refl _)
 obtain⟨W,⟨m0,w0⟩,turn⟩:=hq s2.heap.objs.size hl
 have I3:Inv X pins σ (upd H2 s2.heap.objs.size (.lst [])) {s2 with heap:=s2.heap.push {cls:=.type "list",dict:=none,data:=.seq ([]:List Value).toArray}}:=
  I2.laid (t':=s2.toks) (λb o e=>Heap.get?_push_of_some _ e) (Nat.le_refl _) ⟨Nat.zero_le _,[],0,.nil,Heap.get?_push_size _ rfl⟩
 have hf3: ∀b∈fp,FpOk X pins (upd H2 s2.heap.objs.size (.lst [])) b∧b<(s2.heap.push {cls:=.type "list",dict:=none,data:=.seq ([]:List Value).toArray}).objs.size:=λb hb=>by
  obtain⟨o,e,_⟩:=T.obj 0 _ st2 b hb
  have hlt:=Heap.lt_size e
  refine⟨⟨by rw[upd_ne (Nat.ne_of_lt hlt)];exact(f2 b hb).1,(f2 b hb).2⟩,?_⟩
  rw[Heap.size_push]
  exact Nat.lt_succ_of_lt hlt
 have hold: ∀b o,s2.heap.get? b=some o→(s2.heap.push {cls:=.type "list",dict:=none,data:=.seq ([]:List Value).toArray}).get? b=some o:=λb o e=>Heap.get?_push_of_some _ e
 refine wpAny_newObj_type ?_
 show wpAny (model X.prog X.w) X.A _ _ _ {s2 with heap:=s2.heap.push {cls:=.type "list",dict:=none,data:=.seq ([]:List Value).toArray}}
 generalize hS:({s2 with heap:=s2.heap.push {cls:=.type "list",dict:=none,data:=.seq ([]:List Value).toArray}}:Shared)=s3 at I3⊢
 have hh3:s2.heap.push {cls:=.type "list",dict:=none,data:=.seq ([]:List Value).toArray}=s3.heap:=by rw[←hS]
 rw[hh3] at hf3 hold
 refine wpAny_newFunctionEnv S.nocell (by intro y hy;simp at hy) (λh₁ hns₁ hsb₁=> ?_) S.kind
 have hk1: ∀b o,s3.heap.get? b=some o→h₁.get? b=some o:=λb o e=>hsb₁.extBut b o (Nat.ne_of_lt (Heap.lt_size e)) (Heap.get?_push_of_some _ e)
 have I4:=comp_inv (N:=N) (pk:=pk) (cl:=cl) (ex:=fp) (h1:=h₁) (tk:=s3.toks+([]:List (Str×Value)).length) S I3 hc1 hc2 hf3 hns₁ hk1
 have st4:tn 0 h₁:=T.keep 0 _ _ st2 λb _ o e=>hk1 b o (hold b o e)
 have loop:codeAny (model X.prog X.w) X.A (.compLoop (.ListComp elt [⟨tg,iter,ifs,0⟩] scope cpos) 0 (.ref it) (.ref s2.heap.objs.size) (compEnvC scope cl s3.heap.objs.size X.env))
   (compPost (model X.prog X.w) X.A X.xe (some (assign (.Name x pos') X.env)) (λ_ s1=> ∃σ' H',Inv X pins σ' H' s1∧D.nx σ' H') (.ref s2.heap.objs.size) s3.heap.objs.size) {s3 with heap:=h₁,toks:=s3.toks+([]:List (Str×Value)).length}:=by
  refine compLoop_any (λn s'=> ∃i ys τ H',Inv (compCx X N scope cl s3.heap.objs.size s3 (upd H2 s2.heap.objs.size (.lst [])) fp) [] τ H' s'∧tn i s'.heap∧(∀b∈fp,H' b=none)∧W i n ys τ H') ?_ m0
   ⟨0,[],_,_,I4,st4,λb hb=>(hf3 b hb).1.1,w0⟩
  rintro n s5 ⟨i,ys,τ,H5,I5,st5,fr5,w5⟩
  have stat: ∀{H':Hp},(∀b∈fp,H' b=none)→∀b∈fp,FpOk (compCx X N scope cl s3.heap.objs.size s3 (upd H2 s2.heap.objs.size (.lst [])) fp) [] H' b:=λhn b hb=>
   ⟨hn b hb,Nat.ne_of_lt (hf3 b hb).2,I5.ok.exfs b hb,.inl hb,λx c e=>(I5.ok.exf b hb).2 x c e,λp hp=>absurd (show p∈([]:List (Addr×Obj)) from hp) (by simp)⟩
  rcases turn i n ys τ H5 w5 with⟨stop,q⟩|⟨go,step⟩
  ·refine thn (T.done (compCx X N scope cl s3.heap.objs.size s3 (upd H2 s2.heap.objs.size (.lst [])) fp) rfl rfl rfl hc i [] s5 τ H5 (λ_ _=>False) I5 (stat fr5) st5 stop) λr s6 ⟨hr,I6⟩=> ?_
   subst hr
   obtain⟨m,hm,_⟩:=id I6.loc
   obtain⟨v6,H6,J6,rv6,ev6,eh6⟩:=comp_end (Q:=λv H'=>v=V.ref s2.heap.objs.size∧H'=H5) I3 hf3 I6 (h2:=s6.heap) ⟨rfl,λ_ _=>rfl⟩ ⟨rfl,rfl⟩
   subst ev6 eh6
   have J6':Inv X pins σ H6 s6:=J6
   obtain⟨f0,f1,f2,f3,f4,f5⟩:=I3.fpOk (H':=H6) (Nat.le_refl s3.heap.objs.size) I6.free
   refine wpAny_assign_Name (store_ok2 J6' hN hx1 hx2 (v:=.ref s2.heap.objs.size) rfl (λs7 I7 ⟨a7,sb7,ha7⟩=> ?_) hf)
   have na:s3.heap.objs.size≠a7:=by
    rcases ha7 with z|z
    ·rw[z];exact f1
    ·exact λy=>f4 x a7 z y.symm
   exact⟨m,hm.sameBut sb7 na,λh' sb=>⟨_,H6,I7.turned (t':=s7.toks) (λb o hb e=>(sb.2 b hb).trans e) f0 f1 f3 f4 f5,q⟩⟩
  ·refine thn (T.item (compCx X N scope cl s3.heap.objs.size s3 (upd H2 s2.heap.objs.size (.lst [])) fp) rfl rfl rfl hc i [] s5 τ H5 (λ_ _=>False) I5 (stat fr5) st5 go) λr s6 ⟨u,hr,h6⟩=> ?_
   subst hr
   refine thn h6 λ_ s7 ⟨x,H7,I7,r7,y7,st7,fr7⟩=> ?_
   have I7':=I7.pinned (stat fr7) (T.obj _ _ st7)
   have again: ∀{m':Nat} {ys':List V} {τ':St} {H':Hp} {s':Shared},Inv (compCx X N scope cl s3.heap.objs.size s3 (upd H2 s2.heap.objs.size (.lst [])) fp) ([]++pinsAt fp s7.heap) τ' H' s'→m'<n→W (i+1) m' ys' τ' H'→
     ∃m,m<n∧∃i ys τ H',Inv (compCx X N scope cl s3.heap.objs.size s3 (upd H2 s2.heap.objs.size (.lst [])) fp) [] τ H' s'∧tn i s'.heap∧(∀b∈fp,H' b=none)∧W i m ys τ H':=λ{m' ys' τ' H' s'} I8 hm w8=>by
    refine⟨m',hm,i+1,ys',τ',H',I8.unpinned,T.keep _ _ _ st7 λb hb o e=>(I8.pin (b,o) (List.mem_append_right _ (List.mem_append_right _ (mem_pinsAt hb e)))).1,λb hb=> ?_,w8⟩
    obtain⟨o,e,d⟩:=T.obj _ _ st7 b hb
    exact(I8.pin (b,o) (List.mem_append_right _ (List.mem_append_right _ (mem_pinsAt hb e)))).2.1
   refine thn (hg _ _ _ _ _ _ s7 τ H7 x u _ I7' r7 (step x H7 y7)) λ_ s8 ⟨τ8,H8,I8,q8⟩=> ?_
   refine thn (hif _ _ _ _ _ _ s8 τ8 H8 _ I8 q8) λok s9 ⟨H9,I9,q9⟩=> ?_
   cases ok with
   |true=>
    rw[if_pos rfl] at q9⊢
    refine thn (he _ _ _ _ _ _ s9 τ8 H9 _ I9 q9) λy s10 ⟨yv,H10,I10,r10,hl10,hz,m',hm',w'⟩=> ?_
    refine thn (mt_append _ s10 τ8 H10 (.ref s2.heap.objs.size) [yv] (.ref s2.heap.objs.size) [y] (λ_ H11=>H11=upd H10 s2.heap.objs.size (.lst (ys++[yv]))) I10 rfl (.cons r10 .nil) ⟨_,ys,yv,rfl,rfl,hl10,hz,rfl⟩) λ_ s11 ⟨z,H11,I11,_,eq⟩=> ?_
    subst eq
    exact again I11 hm' w'
   |false=>
    rw[if_neg (by decide)] at q9⊢
    obtain⟨m',hm',w'⟩:=q9
    exact again I9 hm' w'
 exact codeAny_compStart_list loop (T.self _ 0 _ _ _ st4 loop)
section
variable {X:Cx} {fx:List Nat} {elt iter tg:Expr} {ifs:List Expr} {scope:Scope} {pos cpos pos':Pos} {x:Str} {i:Nat} {m:List Bool} {N:List Str} {pk:List (Option Nat)} {g:Tg} {fi:DA} {fc:DT} {fe:DE}
theorem vs_setCompF(hc:X.calm=true)(S0:csOk X.env.scope X.N N pk scope=true)(hi:VI X tg iter fi)(hg: ∀cl C s H ex,PG (compCx X N scope cl C s H ex) tg (gOf X.K g))(hif: ∀cl C s H ex,VFs (compCx X N scope cl C s H ex) ifs fc)
  (he: ∀cl C s H ex,VE (compCx X N scope cl C s H ex) elt fe) (hsl:(g.slots.all λi=>decide (i<pk.length)&&(pk[i]?.join).isNone)=true) (hN:X.N.Nodup) (hx1:X.N[i]? =some x) (hx2:Loc X.env.scope x) (hfx:i∉fx)
  (hsw:swapsWith (.ListComp elt [⟨tg,iter,ifs,0⟩] scope cpos) (some (.Name x pos')) pos.line X.env=pure true:=by rfl) (hs: ∀x,foldedSetIterable iter X.env x=pure x:=by intro _;rfl)
  (hf:X.fn x=true∨X.env.scope.names.lookup x=some .local:=by first|exact .inl rfl|exact .inr rfl|assumption):
  VS X fx (.Assign [.Name x pos'] (.ListComp elt [⟨tg,iter,ifs,0⟩] scope cpos) pos) (dSetF i m (dLC pk g fi fc fe)):=
 vs_setF (PS.le (ps_setComp (tc:=tTs X.K fc) (te:=tE X.K fe) hc S0 hi hg hif he hN hx1 hx2 hsw hs hf) λD σ H q=>comp_imp hsl σ H _ q) hfx
theorem vs_setComp(hc:X.calm=true)(S0:csOk X.env.scope X.N N pk scope=true)(hi:VI X tg iter fi)(hg: ∀cl C s H ex,PG (compCx X N scope cl C s H ex) tg (gOf X.K g))(hif: ∀cl C s H ex,VFs (compCx X N scope cl C s H ex) ifs fc)
  (he: ∀cl C s H ex,VE (compCx X N scope cl C s H ex) elt fe) (hsl:(g.slots.all λi=>decide (i<pk.length)&&(pk[i]?.join).isNone)=true) (hN:X.N.Nodup) (hx1:X.N[i]? =some x) (hx2:Loc X.env.scope x) (hfx:i∉fx)
  (hsw:swapsWith (.ListComp elt [⟨tg,iter,ifs,0⟩] scope cpos) (some (.Name x pos')) pos.line X.env=pure true:=by rfl) (hs: ∀x,foldedSetIterable iter X.env x=pure x:=by intro _;rfl)
  (hf:X.fn x=true∨X.env.scope.names.lookup x=some .local:=by first|exact .inl rfl|exact .inr rfl|assumption):
  VS X fx (.Assign [.Name x pos'] (.ListComp elt [⟨tg,iter,ifs,0⟩] scope cpos) pos) (dSet i m (dL (dLC pk g fi fc fe))):=
 vs_setP (PS.le (ps_setComp (tc:=tTs X.K fc) (te:=tE X.K fe) hc S0 hi hg hif he hN hx1 hx2 hsw hs hf) λD σ H q=>comp_imp hsl σ H _ (fr_imp σ H _ q)) hfx
end
end L2
set_option Elab.async false
set_option linter.all false
set_option maxRecDepth 100000
namespace L2
open PySem PySem.Spec PyProof.Rows
theorem loop_inv{g:Tg}{body:DS}(P:Nat→Env2→Prop): ∀(ts:List T) (k:Nat) (τ:Env2),P k τ→
  (∀(j:Nat) (t:T) (τ:Env2),ts[j]? =some t→P (k+j) τ→∃τ1 τ2,asg O.val g t τ=some τ1∧(body τ1=some (.nx τ2)∨body τ1=some (.ct τ2))∧P (k+j+1) τ2)→
  ∃τ',dLoop g body ts τ=some (.nx τ')∧P (k+ts.length) τ'
 |[],k,τ,h,_=>⟨τ,by unfold dLoop;rfl,by simpa using h⟩
 |t::ts,k,τ,h,step=>by
  obtain⟨τ1,τ2,h1,h2,h3⟩:=step 0 t τ (by simp) (by simpa using h)
  obtain⟨τ',h4,h5⟩:=loop_inv P ts (k+1) τ2 (by simpa using h3) λj u τ3 e p=>by
   have e1:k+(j+1)=k+1+j:=by omega
   obtain⟨a,b,c1,c2,c3⟩:=step (j+1) u τ3 (by simpa using e) (by rw[e1];exact p)
   rw[e1] at c3
   exact⟨a,b,c1,c2,c3⟩
  refine⟨τ',?_,?_⟩
  ·unfold dLoop
   rw[h1,Option.bind_some]
   rcases h2 with h2|h2<;>(rw[h2,Option.bind_some];exact h4)
  ·have e:k+(t::ts).length=k+1+ts.length:=by rw[List.length_cons];omega
   rw[e]
   exact h5
theorem loop_find{g:Tg}{body:DS}(P:Nat→Env2→Prop)(R:Out→Prop): ∀(ts:List T) (k:Nat) (τ:Env2),P k τ→
  (∀(j:Nat) (t:T) (τ:Env2),ts[j]? =some t→P (k+j) τ→∃τ1,asg O.val g t τ=some τ1∧((∃τ2,(body τ1=some (.nx τ2)∨body τ1=some (.ct τ2))∧P (k+j+1) τ2)∨(∃u τ2,body τ1=some (.rt u τ2)∧R (.rt u τ2))∨∃τ2,body τ1=some (.bk τ2)∧R (.nx τ2)))→
  (∀τ,P (k+ts.length) τ→R (.nx τ))→∃o,dLoop g body ts τ=some o∧R o
 |[],k,τ,h,_,hd=>⟨_,by unfold dLoop;rfl,hd τ (by simpa using h)⟩
 |t::ts,k,τ,h,step,hd=>by
  obtain⟨τ1,h1,h2⟩:=step 0 t τ (by simp) (by simpa using h)
  rcases h2 with⟨τ2,h2,h3⟩|⟨u,τ2,h2,h3⟩|⟨τ2,h2,h3⟩
  ·obtain⟨o,h4,h5⟩:=loop_find P R ts (k+1) τ2 (by simpa using h3) (λj u τ3 e p=>by
    have e1:k+(j+1)=k+1+j:=by omega
    have:=step (j+1) u τ3 (by simpa using e) (by rw[e1];exact p)
    rw[e1] at this
    exact this) λτ p=>hd τ (by rw[List.length_cons];rw[show k+(ts.length+1)=k+1+ts.length by omega];exact p)
   refine⟨o,?_,h5⟩
   unfold dLoop
   rw[h1,Option.bind_some]
   rcases h2 with h2|h2<;>(rw[h2,Option.bind_some];exact h4)
  ·refine⟨_,?_,h3⟩
   unfold dLoop
   rw[h1,Option.bind_some,h2,Option.bind_some]
  ·refine⟨_,?_,h3⟩
   unfold dLoop
   rw[h1,Option.bind_some,h2,Option.bind_some]
theorem comp_map{i:Nat}{fe:DE}{ε:Ev}{φ:T→T}: ∀(ts:List T),(∀t∈ts,fe (ε.set i (some t))=some (φ t))→dComp (.one i) dYes fe ε ts=some (ts.map φ)
 |[],_=>by unfold dComp;rfl
 |t::ts,h=>by
  unfold dComp
  rw[asg,Option.bind_some,dYes,Option.bind_some,if_pos rfl]
  have h1:=h t List.mem_cons_self
  rw[id,h1,Option.bind_some,comp_map ts λu hu=>h u (List.mem_cons_of_mem _ hu)]
  rfl
theorem comp_filter{i:Nat}{fc:DT}{fe:DE}{ε:Ev}{φ:T→T}{κ:T→Bool}: ∀(ts:List T),(∀t∈ts,fc (ε.set i (some t))=some (κ t))→(∀t∈ts,κ t=true→fe (ε.set i (some t))=some (φ t))→
  dComp (.one i) fc fe ε ts=some ((ts.filter κ).map φ)
 |[],_,_=>by unfold dComp;rfl
 |t::ts,h,h'=>by
  unfold dComp
  rw[asg,Option.bind_some,id,h t List.mem_cons_self,Option.bind_some]
  have ih:=comp_filter (fe:=fe) (φ:=φ) ts (λu hu=>h u (List.mem_cons_of_mem _ hu)) λu hu=>h' u (List.mem_cons_of_mem _ hu)
  cases hk:κ t with
  |true=>rw[if_pos rfl,h' t List.mem_cons_self hk,Option.bind_some,ih,List.filter_cons,if_pos hk];rfl
  |false=>rw[if_neg (by decide),ih,List.filter_cons,if_neg (by rw[hk];decide)]
theorem rngT_length(lo:Int)(n:Nat):(rngT lo n).length=n:=by unfold rngT;simp
theorem rngT_get{lo:Int}{n j:Nat}{t:T}(h:(rngT lo n)[j]? =some t):j<n∧t=.int (lo+j):=by
 unfold rngT at h
 rw[List.getElem?_map] at h
 obtain⟨k,hk,rfl⟩:=Option.map_eq_some_iff.mp h
 obtain⟨hi,e⟩:=List.getElem?_eq_some_iff.mp hk
 rw[List.getElem_range] at e
 subst e
 exact⟨by simpa using hi,rfl⟩
end L2
namespace L2
open PySem PySem.Spec PyProof.Rows
mutual
noncomputable def pl:T→Bool
 | .non=>true
 | .bl _=>true
 | .int _=>true
 | .str _=>true
 | .lst ts=>pls ts
 | .tup ts=>pls ts
 |_=>false
noncomputable def pls:List T→Bool
 |[]=>true
 |t::ts=>pl t&&pls ts
end
theorem deps_le{ts:List T}{n:Nat}(h: ∀t∈ts,dep t≤n):deps ts≤n:=by
 induction ts with
 |nil=>unfold deps;omega
 |cons t ts ih=>
  unfold deps
  have h1:=h t List.mem_cons_self
  have h2:=ih λu hu=>h u (List.mem_cons_of_mem _ hu)
  omega
end L2
namespace L2
noncomputable def Gv{α:Type}(x:Option α)(R:α→Prop):Prop:= ∃r,x=some r∧R r
theorem Gv.of{α:Type}{x:Option α}{a:α}{R:α→Prop}(e:x=Option.some a)(h:R a):Gv x R:=⟨a,e,h⟩
theorem gv_eq{α:Type}{x:Option α}{a:α}:(Gv x λb=>b=a)↔x=Option.some a:=⟨λ⟨b,e,r⟩=>by rw[e,r],λh=>⟨a,h,rfl⟩⟩
theorem gv_loop{g:Tg}{body:DS}{ts:List T}{τ:Env2}{β:Type}{k:Out→Option β}{R:β→Prop}(P:Nat→Env2→Prop)(h0:P 0 τ)
  (step: ∀(j:Nat) (t:T) (τ:Env2),ts[j]? =Option.some t→P j τ→∃τ1,asg O.val g t τ=Option.some τ1∧Gv (body τ1) λo=> ∃τ2,(o=.nx τ2∨o=.ct τ2)∧P (j+1) τ2)
  (fin: ∀τ',P ts.length τ'→Gv (k (.nx τ')) R):Gv ((dLoop g body ts τ).bind k) R:=by
 obtain⟨τ',e,p⟩:=loop_inv P ts 0 τ h0 (λj t τ ht p=>by
  obtain⟨τ1,h1,o,h2,τ2,h3,h4⟩:=step j t τ ht (by simpa using p)
  refine⟨τ1,τ2,h1,?_,by simpa using h4⟩
  rcases h3 with rfl|rfl
  ·exact .inl h2
  ·exact .inr h2)
 rw[e]
 exact fin τ' (by simpa using p)
end L2
set_option Elab.async false
set_option linter.all false
set_option maxRecDepth 100000
namespace L2
open PySem PySem.Spec PyProof.Rows
@[simp] theorem obind_assoc{α β γ:Type}{x:Option α}{f:α→Option β}{g:β→Option γ}:(x.bind f).bind g=x.bind λa=>(f a).bind g:=by cases x<;>rfl
@[simp] theorem omap_bind{α β γ:Type}{x:Option α}{f:α→β}{g:β→Option γ}:(x.map f).bind g=x.bind λa=>g (f a):=by cases x<;>rfl
@[simp] theorem lim_eq:lim=10000000:=rfl
@[simp] theorem dV_ap{i:Nat}{ε:Ev}:dV i ε=(ε[i]?.join):=rfl
@[simp] theorem dC_ap{t:T}{ε:Ev}:dC t ε=(some t):=rfl
@[simp] theorem dL_ap{f:DA}{ε:Ev}:dL f ε=((f ε).map T.lst):=rfl
@[simp] theorem d2_ap{op:T→T→Option T}{f g:DE}{ε:Ev}:d2 op f g ε=((f ε).bind λa=>(g ε).bind λb=>op a b):=rfl
@[simp] theorem d2F_ap{op:T→T→Option (List T)}{f g:DE}{ε:Ev}:d2F op f g ε=((f ε).bind λa=>(g ε).bind λb=>op a b):=rfl
@[simp] theorem dSeq_ap{d e:DS}{τ:Env2}:dSeq d e τ=((d τ).bind λo=>match o with
 | .nx τ'=>e τ'
 |o=>some o):=rfl
@[simp] theorem dNil_ap{τ:Env2}:dNil τ=(some (.nx τ)):=rfl
@[simp] theorem dSet_ap{i:Nat}{m:List Bool}{f:DE}{τ:Env2}:dSet i m f τ=((f (see m τ)).bind λt=>some (.nx ((aft m t τ).set i (some (.val t))))):=rfl
@[simp] theorem dSetF_ap{i:Nat}{m:List Bool}{f:DA}{τ:Env2}:dSetF i m f τ=((f (see m τ)).bind λts=>some (.nx ((afts m ts τ).set i (some (.lst (ts.map .val)))))):=rfl
@[simp] theorem dRet_ap{m:List Bool}{f:DE}{τ:Env2}:dRet m f τ=((f (see m τ)).bind λt=>some (.rt t (aft m t τ))):=rfl
@[simp] theorem dRetN_ap{τ:Env2}:dRetN τ=(some (.rt .non τ)):=rfl
@[simp] theorem dBreak_ap{τ:Env2}:dBreak τ=(some (.bk τ)):=rfl
@[simp] theorem dCont_ap{τ:Env2}:dCont τ=(some (.ct τ)):=rfl
@[simp] theorem dExp_ap{m:List Bool}{f:DE}{τ:Env2}:dExp m f τ=((f (see m τ)).bind λ_=>some (.nx τ)):=rfl
@[simp] theorem dIf_ap{m:List Bool}{c:DT}{d d':DS}{τ:Env2}:dIf m c d d' τ=((c (see m τ)).bind λb=>if b=true then d τ else d' τ):=rfl
@[simp] theorem dApp_ap{i:Nat}{m:List Bool}{f:DE}{τ:Env2}:dApp i m f τ=((f (see m τ)).bind λt=>match (aft m t τ)[i]? with
 |some (some (.lst os))=>if os.length<lim then some (.nx ((aft m t τ).set i (some (.lst (os++[.val t]))))) else none
 |_=>none):=rfl
@[simp] theorem dNot_ap{f:DT}{ε:Ev}:dNot f ε=((f ε).map not):=rfl
@[simp] theorem dAnd_ap{f g:DT}{ε:Ev}:dAnd f g ε=((f ε).bind λb=>if b=true then g ε else some false):=rfl
@[simp] theorem dOr_ap{f g:DT}{ε:Ev}:dOr f g ε=((f ε).bind λb=>if b=true then some true else g ε):=rfl
@[simp] theorem dTru_ap{f:DE}{ε:Ev}:dTru f ε=((f ε).bind truT):=rfl
@[simp] theorem dB_ap{f:DE}{ε:Ev}:dB f ε=((f ε).bind asB):=rfl
@[simp] theorem dAndV_ap{f g:DE}{ε:Ev}:dAndV f g ε=((f ε).bind λt=>match t with
 | .bl true=>g ε
 | .bl false=>some (.bl false)
 |_=>none):=rfl
@[simp] theorem dOrV_ap{f g:DE}{ε:Ev}:dOrV f g ε=((f ε).bind λt=>match t with
 | .bl true=>some (.bl true)
 | .bl false=>g ε
 |_=>none):=rfl
@[simp] theorem dNotV_ap{f:DE}{ε:Ev}:dNotV f ε=((f ε).bind λt=>match t with
 | .bl b=>some (.bl (!b))
 |_=>none):=rfl
@[simp] theorem dIfE_ap{c:DT}{f g:DE}{ε:Ev}:dIfE c f g ε=((c ε).bind λb=>if b=true then f ε else g ε):=rfl
@[simp] theorem isN_ap{f:DE}{ε:Ev}:isN f ε=((f ε).bind λt=>match t with
 | .raw _=>none
 | .non=>some (.bl true)
 |_=>some (.bl false)):=rfl
@[simp] theorem notN_ap{f:DE}{ε:Ev}:notN f ε=((f ε).bind λt=>match t with
 | .raw _=>none
 | .non=>some (.bl false)
 |_=>some (.bl true)):=rfl
@[simp] theorem dO0_ap{ε:Ev}:dO0 ε=(some none):=rfl
@[simp] theorem dO1_ap{f:DE}{ε:Ev}:dO1 f ε=((f ε).bind asI):=rfl
@[simp] theorem slF_ap{f:DE}{lo hi:DO}{ε:Ev}:slF f lo hi ε=((f ε).bind λt=>(lo ε).bind λl=>(hi ε).bind λu=>match t with
 | .lst ts=>some (cutT ts l u)
 | .scr ns=>some ((cutT ns l u).map T.int)
 |_=>none):=rfl
@[simp] theorem slT_ap{f:DE}{lo hi:DO}{ε:Ev}:slT f lo hi ε=((f ε).bind λt=>(lo ε).bind λl=>(hi ε).bind λu=>match t with
 | .lst ts=>some (.lst (cutT ts l u))
 | .scr ns=>some (.lst ((cutT ns l u).map T.int))
 | .str z=>if z.length≤lim then some (.str (Txt.slice z l u)) else none
 |_=>none):=rfl
@[simp] theorem dA0_ap{ε:Ev}:dA0 ε=(some []):=rfl
@[simp] theorem dAc_ap{f:DE}{g:DA}{ε:Ev}:dAc f g ε=((f ε).bind λt=>(g ε).map (t:: ·)):=rfl
@[simp] theorem dTup_ap{fs:DA}{ε:Ev}:dTup fs ε=((fs ε).bind λts=>if ts.length≤lim then some (.tup ts) else none):=rfl
@[simp] theorem dLst_ap{fs:DA}{ε:Ev}:dLst fs ε=((fs ε).bind λts=>if ts.length≤lim then some ts else none):=rfl
@[simp] theorem dCall_ap{s:List T→Option T}{fs:DA}{ε:Ev}:dCall s fs ε=((fs ε).bind s):=rfl
@[simp] theorem dCallF_ap{op:List T→Option (List T)}{fs:DA}{ε:Ev}:dCallF op fs ε=((fs ε).bind op):=rfl
@[simp] theorem dIt_ap{f:DE}{ε:Ev}:dIt f ε=((f ε).bind itemsT):=rfl
@[simp] theorem dR1_ap{f:DE}{ε:Ev}:dR1 f ε=((f ε).bind λt=>match t with
 | .int n=>if n≤1000000000∧ -1000000000≤n then some (rngT 0 n.toNat) else none
 |_=>none):=rfl
@[simp] theorem dR2_ap{f g:DE}{ε:Ev}:dR2 f g ε=((f ε).bind λt=>(g ε).bind λu=>match t,u with
 | .int i,.int j=>if (-1000000000≤i∧i≤1000000000)∧ -1000000000≤j∧j≤1000000000 then some (rngT i (j - i).toNat) else none
 |_,_=>none):=rfl
@[simp] theorem dFor_ap{m:List Bool}{f:DA}{g:Tg}{body:DS}{τ:Env2}:dFor m f g body τ=((f (see m τ)).bind λts=>dLoop g body ts (frz m τ)):=rfl
@[simp] theorem dForR_ap{m:List Bool}{f:DA}{g:Tg}{body:DS}{τ:Env2}:dForR m f g body τ=((f (see m τ)).bind λts=>dLoop g body ts τ):=rfl
@[simp] theorem dLC_ap{pk:List (Option Nat)}{g:Tg}{fi:DA}{fc:DT}{fe:DE}{ε:Ev}:dLC pk g fi fc fe ε=((fi ε).bind λts=>if ts.length≤lim then dComp g fc fe (pickE pk ε) ts else none):=rfl
@[simp] theorem dYes_ap{ε:Ev}:dYes ε=(some true):=rfl
@[simp] theorem dNeg_ap{f:DE}{ε:Ev}:dNeg f ε=((f ε).bind λt=>match t with | .int i=>some (.int (-i))|_=>none):=rfl
@[simp] theorem dChain_ap{r s:T→T→Option T}{f g h:DE}{ε:Ev}:dChain r s f g h ε=((f ε).bind λa=>(g ε).bind λb=>(r a b).bind λk=>match k with
 | .bl true=>(h ε).bind λc=>s b c
 | .bl false=>some (.bl false)
 |_=>none):=rfl
@[simp] theorem dR3_ap{f g h:DE}{ε:Ev}:dR3 f g h ε=((f ε).bind λt=>(g ε).bind λu=>(h ε).bind λv=>match t,u,v with
 | .int i,.int j,.int c=>if -1000000000≤i∧i≤1000000000∧ -1000000000≤j∧j≤1000000000∧0<c∧c≤1000000 then some (rngS i c (rsz i j c)) else none
 |_,_,_=>none):=rfl
@[simp] theorem dMeth_ap{op:T→List T→Option T}{f:DE}{fs:DA}{ε:Ev}:dMeth op f fs ε=((f ε).bind λs=>(fs ε).bind λts=>op s ts):=rfl
@[simp] theorem dPut_ap{i:Nat}{m:List Bool}{f g:DE}{τ:Env2}:dPut i m f g τ=((f (see m τ)).bind λt=>(g (see m τ)).bind λk=>match k,(aft m t τ)[i]? with
 | .int k,some (some (.lst os))=>(ixN os.length k).bind λj=>some (.nx ((aft m t τ).set i (some (.lst (os.set j (.val t))))))
 |_,_=>none):=rfl
@[simp] theorem dExt_ap{i:Nat}{m:List Bool}{f:DE}{τ:Env2}:dExt i m f τ=((f (see m τ)).bind λt=>match t,(aft m t τ)[i]? with
 | .lst ts,some (some (.lst os))=>if os.length+ts.length≤lim then some (.nx ((aft m t τ).set i (some (.lst (os++ts.map .val))))) else none
 |_,_=>none):=rfl
@[simp] theorem dAug_ap{i:Nat}{m:List Bool}{f:DE}{τ:Env2}:dAug i m f τ=(match τ[i]? with
 |some (some (.val (.int a)))=>(f (see m τ)).bind λt=>match t with
  | .int b=>some (.nx (τ.set i (some (.val (.int (a+b))))))
  |_=>none
 |_=>none):=rfl
section
variable {C:Int→Int→Bool} {g:Int→Int→Int} {p:Int→Int→Bool} {i j:Int} {x y z:Str} {a b:Bool} {ts us:List T} {s t:T} {ns:List Int}
@[simp] theorem iop_int:iop C g (.int i) (.int j)=if C i j then some (.int (g i j)) else none:=rfl
@[simp] theorem addT_int:addT (.int i) (.int j)=some (.int (i+j)):=rfl
@[simp] theorem addT_str:addT (.str x) (.str y)=if x.length+y.length≤lim then some (.str (x++y)) else none:=rfl
@[simp] theorem addT_lst:addT (.lst ts) (.lst us)=if ts.length+us.length≤lim then some (.lst (ts++us)) else none:=rfl
@[simp] theorem catF_lst:catF (.lst ts) (.lst us)=if ts.length+us.length≤lim then some (ts++us) else none:=rfl
@[simp] theorem mulT_int:mulT (.int i) (.int j)=if mulOk i j then some (.int (i*j)) else none:=rfl
@[simp] theorem asB_bl:asB (.bl a)=some a:=rfl
@[simp] theorem truT_bl:truT (.bl a)=some a:=rfl
@[simp] theorem truT_int:truT (.int i)=some (i !=0):=rfl
@[simp] theorem truT_non:truT .non=some false:=rfl
@[simp] theorem truT_lst:truT (.lst ts)=some (!ts.isEmpty):=rfl
@[simp] theorem truT_tup:truT (.tup ts)=some (!ts.isEmpty):=rfl
@[simp] theorem truT_scr:truT (.scr ns)=some (!ns.isEmpty):=rfl
@[simp] theorem icmp_int:icmp p (.int i) (.int j)=some (.bl (p i j)):=rfl
@[simp] theorem ixT_lst:ixT (.lst ts) (.int i)=atI ts i:=rfl
@[simp] theorem ixT_tup:ixT (.tup ts) (.int i)=atI ts i:=rfl
@[simp] theorem ixT_scr:ixT (.scr ns) (.int i)=(atI ns i).map T.int:=rfl
@[simp] theorem ixT_str:ixT (.str z) (.int i)=if z.length≤lim then(atI z.cps.toList i).map λc=>T.str ⟨#[c]⟩ else none:=rfl
@[simp] theorem asI_int:asI (.int i)=some (some i):=rfl
@[simp] theorem lenT_lst:lenT [.lst ts]=some (.int ts.length):=rfl
@[simp] theorem lenT_tup:lenT [.tup ts]=some (.int ts.length):=rfl
@[simp] theorem lenT_scr:lenT [.scr ns]=some (.int ns.length):=rfl
@[simp] theorem lenT_str:lenT [.str z]=if z.length≤lim then some (.int z.length) else none:=rfl
@[simp] theorem maxT_int:maxT [.int i,.int j]=some (.int (if j>i then j else i)):=rfl
@[simp] theorem minT_int:minT [.int i,.int j]=some (.int (if j<i then j else i)):=rfl
@[simp] theorem intT_int:intT [.int i]=some (.int i):=rfl
@[simp] theorem intT_bl:intT [.bl a]=some (.int (if a then 1 else 0)):=rfl
@[simp] theorem listF_lst:listF [.lst ts]=some ts:=rfl
@[simp] theorem listF_tup:listF [.tup ts]=some ts:=rfl
@[simp] theorem allT_lst:allT [.lst ts]=(allB ts).map λbs=>.bl (bs.all id):=rfl
@[simp] theorem anyT_lst:anyT [.lst ts]=(allB ts).map λbs=>.bl (bs.any id):=rfl
@[simp] theorem itemsT_lst:itemsT (.lst ts)=some ts:=rfl
@[simp] theorem itemsT_tup:itemsT (.tup ts)=some ts:=rfl
@[simp] theorem itemsT_scr:itemsT (.scr ns)=some (ns.map T.int):=rfl
@[simp] theorem itemsT_str:itemsT (.str z)=some (z.cps.toList.map λc=>T.str ⟨#[c]⟩):=rfl
@[simp] theorem inT_lst:inT s (.lst ts)=if s.flat&&ts.all (λt=>t.flat&&eqOk t s) then some (.bl (ts.any λt=>eqB t s)) else none:=by cases s<;>rfl
@[simp] theorem notInT_lst:notInT s (.lst ts)=if s.flat&&ts.all (λt=>t.flat&&eqOk t s) then some (.bl (!ts.any λt=>eqB t s)) else none:=by cases s<;>rfl
@[simp] theorem flat_non:T.flat .non=true:=rfl
@[simp] theorem flat_bl:T.flat (.bl a)=true:=rfl
@[simp] theorem flat_int:T.flat (.int i)=true:=rfl
@[simp] theorem flat_str:T.flat (.str x)=true:=rfl
@[simp] theorem flat_lst:T.flat (.lst ts)=false:=rfl
@[simp] theorem flat_tup:T.flat (.tup ts)=false:=rfl
@[simp] theorem flat_scr:T.flat (.scr ns)=false:=rfl
@[simp] theorem toT_val:toT (.val t)=some t:=by unfold toT;rfl
@[simp] theorem toT_lst{os:List O}:toT (.lst os)=(toTs os).map T.lst:=by rw[toT]
@[simp] theorem toTs_nil:toTs []=some []:=by unfold toTs;rfl
@[simp] theorem toTs_map:toTs (ts.map O.val)=some ts:=toTs_vals ts
@[simp] theorem frz1_val:frz1 (.val t)=.val t:=by unfold frz1;simp
@[simp] theorem frz1_lst:frz1 (.lst (ts.map O.val))=.val (.lst ts):=by unfold frz1;simp
@[simp] theorem toTs_comp{α:Type}{f:α→T}{l:List α}:toTs (l.map (O.val∘f))=some (l.map f):=by rw[←List.map_map];exact toTs_vals _
@[simp] theorem frz1_comp{α:Type}{f:α→T}{l:List α}:frz1 (.lst (l.map (O.val∘f)))=.val (.lst (l.map f)):=by unfold frz1;simp
@[simp] theorem eqT_eq:eqT s t=if eqOk s t&&decide (dep s≤60) then some (.bl (eqB s t)) else none:=rfl
@[simp] theorem neT_eq:neT s t=if eqOk s t&&decide (dep s≤60) then some (.bl (!eqB s t)) else none:=rfl
@[simp] theorem eqOk_int:eqOk (.int i) (.int j)=true:=by unfold eqOk;rfl
@[simp] theorem eqOk_str:eqOk (.str x) (.str y)=true:=by unfold eqOk;rfl
@[simp] theorem eqOk_bl:eqOk (.bl a) (.bl b)=true:=by unfold eqOk;rfl
@[simp] theorem eqOk_non:eqOk .non .non=true:=by unfold eqOk;rfl
@[simp] theorem eqOk_ni:eqOk .non (.int i)=true:=by unfold eqOk;rfl
@[simp] theorem eqOk_in:eqOk (.int i) .non=true:=by unfold eqOk;rfl
@[simp] theorem eqOk_si:eqOk (.str x) (.int i)=true:=by unfold eqOk;rfl
@[simp] theorem eqOk_ns:eqOk .non (.str x)=true:=by unfold eqOk;rfl
@[simp] theorem eqOk_sn:eqOk (.str x) .non=true:=by unfold eqOk;rfl
@[simp] theorem eqOks_nil:eqOks [] us=true:=by unfold eqOks;rfl
@[simp] theorem eqOks_nil':eqOks ts []=true:=by unfold eqOks;cases ts<;>rfl
@[simp] theorem eqB_int:eqB (.int i) (.int j)=(i==j):=by unfold eqB;rfl
@[simp] theorem eqB_str:eqB (.str x) (.str y)=(x==y):=by unfold eqB;rfl
@[simp] theorem eqB_bl:eqB (.bl a) (.bl b)=(a==b):=by unfold eqB;rfl
@[simp] theorem eqB_non:eqB .non .non=true:=by unfold eqB;rfl
@[simp] theorem eqB_ni:eqB .non (.int i)=false:=by unfold eqB;rfl
@[simp] theorem eqB_in:eqB (.int i) .non=false:=by unfold eqB;rfl
@[simp] theorem eqBs_nil:eqBs [] []=true:=by unfold eqBs;rfl
@[simp] theorem eqBs_nc:eqBs [] (t::us)=false:=by unfold eqBs;rfl
@[simp] theorem eqBs_cn:eqBs (t::us) []=false:=by unfold eqBs;rfl
@[simp] theorem dep_int:dep (.int i)=0:=by unfold dep;rfl
@[simp] theorem dep_str:dep (.str x)=0:=by unfold dep;rfl
@[simp] theorem dep_bl:dep (.bl a)=0:=by unfold dep;rfl
@[simp] theorem dep_non:dep .non=0:=by unfold dep;rfl
@[simp] theorem deps_nil:deps []=0:=by unfold deps;rfl
@[simp] theorem isT_mk{S:String}:isT [t,.raw (.ty S)]=(tyT t).bind λn=>(subTy n S).map T.bl:=by cases t<;>rfl
@[simp] theorem tyT_int:tyT (.int i)=some "int":=rfl
@[simp] theorem tyT_bl:tyT (.bl a)=some "bool":=rfl
@[simp] theorem tyT_str:tyT (.str x)=some "str":=rfl
@[simp] theorem tyT_non:tyT .non=some "NoneType":=rfl
@[simp] theorem tyT_lst:tyT (.lst ts)=some "list":=rfl
@[simp] theorem tyT_tup:tyT (.tup ts)=some "tuple":=rfl
@[simp] theorem subTy_int{n:String}:subTy n "int"=some (n=="int"||n=="bool"):=rfl
@[simp] theorem subTy_bool{n:String}:subTy n "bool"=some (n=="bool"):=rfl
@[simp] theorem subTy_str{n:String}:subTy n "str"=some (n=="str"):=rfl
@[simp] theorem subTy_list{n:String}:subTy n "list"=some (n=="list"):=rfl
@[simp] theorem subTy_tuple{n:String}:subTy n "tuple"=some (n=="tuple"):=rfl
@[simp] theorem strOnly_str{op:Str→List T→Option T}:strOnly op (.str z) ts=op z ts:=rfl
end
@[simp] theorem dvOk_pos{j:Int}(h1:0<j)(h2:j<10^100):dvOk j=true:=by
 unfold dvOk
 rw[Bool.and_eq_true,decide_eq_true_eq,decide_eq_true_eq]
 refine⟨by omega,?_⟩
 have hn:j.natAbs<2^9000:=Nat.lt_of_lt_of_le (show j.natAbs<10^100 by omega) (by decide+kernel)
 exact(Nat.log2_lt (by omega)).mpr hn
@[simp] theorem fdv_pos'{i j:Int}(h:0<j):fdv i j=i/j:=if_pos h
@[simp] theorem fmd_pos'{i j:Int}(h:0<j):fmd i j=i %j:=if_pos h
@[simp] theorem mulOk_l{i j:Int}(h1: -(2^64)<i)(h2:i<2^64):mulOk i j=true:=mulOk_left h1 h2
@[simp] theorem mulOk_r{i j:Int}(h1: -(2^64)<j)(h2:j<2^64):mulOk i j=true:=mulOk_right h1 h2
theorem atI_ofNat{α:Type}{xs:List α}{k:Nat}:atI xs (k:Int)=xs[k]? :=by
 unfold atI ixN
 rw[if_pos (by omega)]
 by_cases h:k<xs.length
 ·rw[if_pos (by omega)];simp
 ·rw[if_neg (by omega),List.getElem?_eq_none (by omega)];rfl
end L2
set_option Elab.async false
set_option linter.all false
set_option maxRecDepth 100000
namespace Att
open PySem PySem.W PySem.Calls PyProof.Rows
theorem attach_lay{l:OpenLaw}{n:Nat}{q:Program}{loose:List Str}{XP:(Str→Option Value)→Heap→Prop}{YP:World→Heap→Prop}{d:DefRec}
  (hn:l.most=some n) (hdf:d.params.defaults=[])
  (call: ∀(w:World) (s₀ s₁:Shared) (mg mb:Str→Option Value) (fa:Addr) (o:Obj) (pm cd doc:Value) (a:Addr) (vs:List Value) (ns:List Int),
   Ground q loose [] XP w s₀ mg mb s₁.heap→YP w s₁.heap→
   s₁.heap.get? fa=some o→o.data=.func (docDef d.name d.params d.body d.scope pm cd doc)→s₁.heap.CodeRec cd d.name→mg d.name=some (.ref fa)→
   s₁.heap.get? a=some {cls:=.type "list",data:=.seq vs.toArray}→IntsAre vs ns→ns.length≤n→(∀i∈ns,Builtin.Int.intBits i≤2^20)→s₁.gens= #[]→
   codeAny (model l.prog w) callerA (.call (.ref fa) ⟨[.ref a],[]⟩) (λr s'=>r=.ok (.ret (.bool true))∧OldK s₁.heap s'.heap∧s'.os=s₁.os∧AllBare s'.gens) s₁):
  WalkO q loose XP YP l.row.toRowW d [] (λf vs=>PySem.call f vs):=by
 intro w s₀ s₁ mg mb G Y fa o pm cd doc dV kV ho hd hcd hD hmg hg args vals as hpre hlay hrd hwl hlo
 obtain rfl:dV=.none:=Dflts.none hD hdf
 obtain rfl:kV=.none:=Dflts.noKw hD
 obtain⟨a,vs,ns,rfl,rfl,hobj,hints,hlen⟩:=script_of hn hpre hwl
 have hbits: ∀i∈ns,Builtin.Int.intBits i≤2^20:=λi hi=>by
  have h1:=layableW_arg hlay (.list (ns.map .int)) (by simp)
  have h2:=layableW_item h1 (.int i) (List.mem_map.mpr ⟨i,hi,rfl⟩)
  have h3:=(layableW_iff.mp h2).2.2
  simpa only[WData.weight,Builtin.Int.intBits] using h3
 refine enter_call (codeAny_mono (call w s₀ s₁ mg mb fa o pm cd doc a vs ns G Y ho (fd_plain hd) hcd hmg hobj hints hlen hbits hg) λr s' hq=> ?_)
 obtain⟨rfl,h2,h3,h4⟩:=hq
 exact⟨.inl ⟨.bool true,.bool true,[],rfl,λ_=>rfl,.bool true,post_true l _,λ_=>⟨List.Pairwise.nil,λ_ hm=>(nomatch hm)⟩⟩,h2,h3,h4⟩
end Att
namespace L2
open PySem PySem.Spec PyProof.Rows
theorem walk_lay{l:PySem.W.OpenLaw}{n k:Nat}{q:Program}{loose:List Str}{XP:(Str→Option Value)→Heap→Prop}{YP:World→Heap→Prop}{d:DefRec}{K:Params→PySem.W.Frag}{x:Str}{sp:List T→Option T}
  (hn:l.most=some n) (hn2:n≤sizeLine) (hdf:d.params.defaults=[]) (hr:Room k callerA)
  (hY: ∀(w:World) (h:Heap),YP w h→(K w.params).In h)
  (F: ∀(w:World) (mg:Str→Option Value) (fa:Addr) (h:Heap),(K w.params).In h→h.Ns mainGlobals mg→mg d.name=some (.ref fa)→
   ∃fd:FuncData,(∀(s:Shared) (u:Value),BindsTo s fd ⟨[u],[]⟩ [(x,u)])∧
    ∀base:Heap,(K w.params).In base→base.Ns mainGlobals mg→FnOk l.prog w (K w.params) mg base CX0 k fa fd [x] (spP (K w.params) sp))
  (hsp: ∀ns:List Int,ns.length≤n→(∀i∈ns,Builtin.Int.intBits i≤2^20)→sp [.scr ns]=some (.bl true)):
  PySem.W.WalkO q loose XP YP l.row.toRowW d [] (λf vs=>PySem.call f vs):=by
 refine Att.attach_lay hn hdf λw s₀ s₁ mg mb fa o pm cd doc a vs ns G Y ho hd hcd hmg hobj hints hlen hbits hg=> ?_
 have KX:=hY w _ Y
 obtain⟨fd,hb,hF⟩:=F w mg fa _ KX G.T.g hmg
 exact law_call KX G.T.g G.T.b G.T.builtins G.T.nolimit hg hobj hints (Nat.le_trans hlen hn2) hr hF hb
  (λH hO hS=>⟨H,[.scr ns],.bl true,Same.refl _,.cons (.scr hS) .nil,hsp ns hlen hbits,λv _ _ _ r=>by cases r;rfl⟩) λH e s' z=>z
end L2
set_option Elab.async false
set_option linter.all false
set_option maxRecDepth 100000
namespace L2
open PySem PySem.Spec PyProof.Rows
section
variable {K:PySem.W.Frag} {F H:Hp} {d:Addr} {x y:HO} {kvs:List (Key×V)}
end
section
variable {X:Cx} {pins:List (Addr×Obj)} {σ:St} {H:Hp} {s:Shared} {d:Addr} {x y:HO} {kvs:List (Key×V)}
end
theorem KV.get{κ:Type}: ∀{kvs:List (κ×V)} {vs:List (κ×Value)} {i:Nat} {k:κ} {x:Value},KV kvs vs→vs[i]? =some (k,x)→∃v,kvs[i]? =some (k,v)∧RelV v x
 |_,_,_,_,_,.nil,e=>by simp at e
 |_,_,0,k,x,.cons (a:=a) r _,e=>by
  simp at e
  obtain⟨h1,h2⟩:=r
  subst e
  obtain⟨a1,a2⟩:=a
  cases h1
  exact⟨a2,rfl,h2⟩
 |_,_,i+1,k,x,.cons _ rs,e=>by
  obtain⟨v,h1,h2⟩:=KV.get (i:=i) rs (by simpa using e)
  exact⟨v,by simpa using h1,h2⟩
section
variable {X:Cx} {tg l:Expr}
end
@[simp] noncomputable def kT:Key→T
 | .inl i=>.int i
 | .inr x=>.str x
@[simp] noncomputable def keyT:T→Option Key
 | .int i=>some (.inl i)
 | .str x=>some (.inr x)
 |_=>none
theorem keyT_inv{K:PySem.W.Frag}{F:Hp}{x:V}{t:T}{k:Key}(r:Rep K F x t)(h:keyT t=some k):x=kV k:=by
 cases r<;>first|(cases h;rfl)|cases h
noncomputable def keysT:T→Option (List T)
 | .dic kts=>some ((kts.map (·.1)).map kT)
 |_=>none
noncomputable def dIk(f:DE):DA:=λε=>(f ε).bind keysT
section
variable {X:Cx} {fx:List Nat} {d:DS} {m:List Bool} {a tg:Expr} {f:DE} {g:Tg} {pos:Pos}
end
end L2
set_option Elab.async false
set_option linter.all false
set_option maxRecDepth 100000
namespace L2
open PySem PySem.Spec PyProof.Rows
section
variable {κ α β:Type} [DecidableEq κ]
noncomputable def valG(l:List (κ×α))(k:κ):Option α:=(l.find? λp=>decide (p.1=k)).map (·.2)
noncomputable def putG(l:List (κ×α))(k:κ)(v:α):List (κ×α):=if (l.any λp=>decide (p.1=k))=true then l.map (λp=>if p.1=k then(p.1,v) else p) else l++[(k,v)]
theorem valG_cons(p:κ×α)(l:List (κ×α))(k:κ):valG (p::l) k=if p.1=k then some p.2 else valG l k:=by
 unfold valG
 rw[List.find?_cons]
 by_cases h:p.1=k
 ·rw[if_pos h,decide_eq_true h];rfl
 ·rw[if_neg h,decide_eq_false h]
theorem any_keys: ∀{l:List (κ×α)} {r:List (κ×β)},l.map (·.1)=r.map (·.1)→∀k:κ,(l.any λp=>decide (p.1=k))=r.any λp=>decide (p.1=k)
 |[],[],_,_=>rfl
 |[],_::_,h,_=>by cases h
 |_::_,[],h,_=>by cases h
 |p::l,q::r,h,k=>by
  rw[List.map_cons,List.map_cons,List.cons.injEq] at h
  rw[List.any_cons,List.any_cons,any_keys h.2 k,h.1]
theorem map_keys(k:κ)(v:α): ∀l:List (κ×α),(l.map λp=>if p.1=k then(p.1,v) else p).map (·.1)=l.map (·.1)
 |[]=>rfl
 |p::l=>by
  rw[List.map_cons,List.map_cons,List.map_cons,map_keys k v l]
  congr 1
  split<;>rfl
theorem put_keys{l:List (κ×α)}{r:List (κ×β)}(h:l.map (·.1)=r.map (·.1))(k:κ)(v:α)(u:β):(putG l k v).map (·.1)=(putG r k u).map (·.1):=by
 unfold putG
 rw[any_keys h k]
 split
 ·rw[map_keys,map_keys,h]
 ·rw[List.map_append,List.map_append,h]
  rfl
end
theorem Reps.val{K:PySem.W.Frag}{F:Hp}(k:Key): ∀{kvs:List (Key×V)} {kts:List (Key×T)},kvs.map (·.1)=kts.map (·.1)→Reps K F (kvs.map (·.2)) (kts.map (·.2))→
  (∃v t,valV kvs k=some v∧valG kts k=some t∧Rep K F v t)∨(valV kvs k=none∧valG kts k=none)
 |[],[],_,_=>.inr ⟨rfl,rfl⟩
 |[],_::_,h,_=>by cases h
 |_::_,[],h,_=>by cases h
 |p::l,q::r,h,rs=>by
  rw[List.map_cons,List.map_cons,List.cons.injEq] at h
  rw[List.map_cons,List.map_cons] at rs
  cases rs with
  |cons r1 r2=>
   rw[valG_cons]
   by_cases e:q.1=k
   ·rw[if_pos e,valV_pos (h.1.trans e)]
    exact .inl ⟨_,_,rfl,rfl,r1⟩
   ·rw[if_neg e,valV_neg (by rw[h.1];exact e)]
    exact Reps.val k h.2 r2
theorem OReps.map_put{K:PySem.W.Frag}{F H:Hp}(k:Key){v:V}{t:T}(hv:Rep K F v t): ∀{kvs:List (Key×V)} {kos:List (Key×O)} {A:List Addr},kvs.map (·.1)=kos.map (·.1)→OReps K F H (kvs.map (·.2)) (kos.map (·.2)) A→
  ∃A',A'.Sublist A∧OReps K F H ((kvs.map λp=>if p.1=k then(p.1,v) else p).map (·.2)) ((kos.map λp=>if p.1=k then(p.1,O.val t) else p).map (·.2)) A'
 |[],[],_,_,rs=>by cases rs;exact⟨[],List.Sublist.refl _,.nil⟩
 |[],_::_,_,h,_=>by cases h
 |_::_,[],_,h,_=>by cases h
 |p::l,q::r,_,h,rs=>by
  rw[List.map_cons,List.map_cons,List.cons.injEq] at h
  rw[List.map_cons,List.map_cons] at rs
  cases rs with
  |cons r1 r2=>
   rename_i A B
   obtain⟨A',h1,h2⟩:=OReps.map_put k hv h.2 r2
   rw[List.map_cons,List.map_cons,List.map_cons,List.map_cons]
   by_cases e:q.1=k
   ·rw[if_pos e,if_pos (h.1.trans e)]
    exact⟨A',h1.trans (List.sublist_append_right _ _),OReps.cons (A:=[]) (.val hv) h2⟩
   ·rw[if_neg e,if_neg (by rw[h.1];exact e)]
    exact⟨A++A',(List.Sublist.refl _).append h1,.cons r1 h2⟩
theorem OReps.put{K:PySem.W.Frag}{F H:Hp}(k:Key){v:V}{t:T}(hv:Rep K F v t){kvs:List (Key×V)}{kos:List (Key×O)}{A:List Addr}(h:kvs.map (·.1)=kos.map (·.1))(rs:OReps K F H (kvs.map (·.2)) (kos.map (·.2)) A):
  ∃A',A'.Sublist A∧OReps K F H ((putK kvs k v).map (·.2)) ((putG kos k (O.val t)).map (·.2)) A':=by
 unfold putK putG
 rw[any_keys h k]
 split
 ·exact OReps.map_put k hv h rs
 ·rw[List.map_append,List.map_append]
  refine⟨A,List.Sublist.refl _,?_⟩
  have:=rs.snoc (.val hv)
  rw[List.append_nil] at this
  exact this
noncomputable def getD:T→T→Option T
 | .dic kts,t=>(keyT t).bind λk=>valG kts k
 |_,_=>none
noncomputable def hasD:T→T→Option T
 |t,.dic kts=>(keyT t).bind λk=>some (.bl (valG kts k).isSome)
 |_,_=>none
noncomputable def hasntD:T→T→Option T
 |t,.dic kts=>(keyT t).bind λk=>some (.bl (!(valG kts k).isSome))
 |_,_=>none
section
variable {X:Cx} {fx:List Nat} {st:Stmt} {a b:Expr} {f g:DE} {pos pos':Pos} {i:Nat} {m:List Bool}
theorem hu1(hu:X.A.units+64<cLine):X.A.units+1<cLine:=by omega
theorem ve_dget(hu:X.A.units+64<cLine)(ha:VE X a f)(hb:VE X b g)(hs:NoSl b:=by exact λ_ _=>rfl):VE X (.Subscript a b pos) (d2 getD f g):=PE.le (pe_dget (hu1 hu) ha hb hs) λσ H Q ⟨F,ε,u,hF,hE,e,q⟩=>by
 obtain⟨s,t,e1,e2,e3⟩:=d2_some e
 refine⟨F,ε,s,hF,hE,e1,λx H1 F1 x1 rx=>⟨F1,ε,t,x1.fh,hE.mono x1.ff,e2,λy H2 F2 x2 ry=> ?_⟩⟩
 unfold getD at e3
 split at e3
 ·obtain⟨k,e4,e5⟩:=Option.bind_eq_some_iff.mp e3
  cases keyT_inv ry e4
  cases (rx.mono x2.ff) with
  |dic hp hk rs=>
   rcases Reps.val k hk rs with⟨v,t',h1,h2,h3⟩|⟨h1,h2⟩
   ·rw[h2] at e5
    cases e5
    exact⟨_,v,rfl,.inl ⟨_,k,hp.same x2.fh,rfl,h1.symm⟩,q v H2 F2 (x1.trans x2) h3⟩
   ·rw[h2] at e5
    cases e5
 ·cases e3
theorem StR.setOwn{K:PySem.W.Frag}{F H:Hp}{σ:St}{τ:Env2}{A:List Addr}(S:StR K F H σ τ A){p:Addr}{ho:HO}{o:O}(hp:H p=none)(r:ORep K F (upd H p ho) (.ref p) o [p])(i:Nat):
  ∃A',(∀q∈A',q∈A∨q=p)∧StR K F (upd H p ho) (σ.set i (some (.ref p))) (τ.set i (some o)) A':=by
 have fh':Same F (upd H p ho):=λb u e=>by rw[upd_keep hp (S.fh b u e)];exact S.fh b u e
 have pn: ∀b∈A,b≠p:=λb hb=>by
  obtain⟨u,e⟩:=S.there hb
  exact ne_of_none e hp
 by_cases hi:i<τ.length
 ·obtain⟨A1,Ai,A2,e,q⟩:=S.reps.put i
  subst e
  have s1: ∀b∈A1,b∈A1++(Ai++A2):=λb hb=>List.mem_append_left _ hb
  have s2: ∀b∈A2,b∈A1++(Ai++A2):=λb hb=>List.mem_append_right _ (List.mem_append_right _ hb)
  have nd:=nd_mid S.nd
  rw[List.nodup_append] at nd
  refine⟨A1++([p]++A2),λb hb=> ?_,q F _ (.ref p) o [p] hi (Same.refl _) (λb hb=> ?_) r,?_,λb hb=> ?_,fh'⟩
  ·rcases List.mem_append.mp hb with hb|hb
   ·exact .inl (s1 b hb)
   ·rcases List.mem_append.mp hb with hb|hb
    ·exact .inr (List.mem_singleton.mp hb)
    ·exact .inl (s2 b hb)
  ·rcases List.mem_append.mp hb with hb|hb
   ·exact upd_ne (pn b (s1 b hb))
   ·exact upd_ne (pn b (s2 b hb))
  ·rw[List.nodup_append]
   refine⟨nd.1,List.nodup_cons.mpr ⟨λh=>pn p (s2 p h) rfl,nd.2.1⟩,λa ha b hb=> ?_⟩
   rcases List.mem_append.mp hb with hb|hb
   ·rw[List.mem_singleton.mp hb];exact pn a (s1 a ha)
   ·exact nd.2.2 a ha b hb
  ·rcases List.mem_append.mp hb with hb|hb
   ·exact S.off b (s1 b hb)
   ·rcases List.mem_append.mp hb with hb|hb
    ·rw[List.mem_singleton.mp hb];exact S.fh.free hp
    ·exact S.off b (s2 b hb)
 ·have hi': ¬i<σ.length:=by rw[S.len];exact hi
  rw[set_len hi,set_len hi']
  refine⟨A,λ_ h=>.inl h,S.reps.frame (Same.refl _) λb hb=> ?_,S.nd,S.off,fh'⟩
  obtain⟨u,e⟩:=S.there hb
  exact upd_keep hp e
noncomputable def dNewD(i:Nat):DS:=λτ=>some (.nx (τ.set i (some (.dic []))))
theorem vs_dnew(hp:PS X st (tAsg tDNewK (gName i)))(hfx:i∉fx):VS X fx st (dNewD i):=PS.le hp λD σ H ⟨F,τ,A,o,S,e,ok⟩=>by
 cases e
 intro p hp
 obtain⟨A2,q1,q2⟩:=S.setOwn (ho:=.dK []) (o:=.dic []) hp (.dic (kvs:=[]) upd_same rfl .nil) i
 exact ok _ F _ A2 (.set hfx) (SE.new .rfl hp q1) q2
theorem StR.writeD{K:PySem.W.Frag}{F H:Hp}{σ:St}{τ:Env2}{A:List Addr}(S:StR K F H σ τ A){i:Nat}{kos:List (Key×O)}(hi:τ[i]? =some (some (.dic kos))): ∃p kvs A0,σ[i]? =some (some (.ref p))∧H p=some (.dK kvs)∧kvs.map (·.1)=kos.map (·.1)∧OReps K F H (kvs.map (·.2)) (kos.map (·.2)) A0∧p∈A∧
  ∀(kvs':List (Key×V)) (kos':List (Key×O)),kvs'.map (·.1)=kos'.map (·.1)→(OReps K F (upd H p (.dK kvs')) (kvs.map (·.2)) (kos.map (·.2)) A0→∃A0',A0'.Sublist A0∧OReps K F (upd H p (.dK kvs')) (kvs'.map (·.2)) (kos'.map (·.2)) A0')→
   ∃A',(∀q∈A',q∈A)∧StR K F (upd H p (.dK kvs')) σ (τ.set i (some (.dic kos'))) A':=by
 obtain⟨v,A1,Ai,A2,h1,h2,h3,h4⟩:=S.reps.at hi
 subst h2
 cases h3 with
 |dic hp hk rs=>
  rename_i p kvs A0
  have nd:=S.nd
  rw[List.nodup_append] at nd
  have nd2:=nd.2.1
  rw[List.nodup_append] at nd2
  have np:p∉A0:=(List.nodup_cons.mp nd2.1).1
  have pin:p∈A1++(p::A0++A2):=List.mem_append_right _ (List.mem_append_left _ List.mem_cons_self)
  have n1: ∀q∈A1++A2,q≠p:=λq hq=>by
   rcases List.mem_append.mp hq with hq|hq
   ·exact nd.2.2 q hq p (List.mem_append_left _ List.mem_cons_self)
   ·exact λz=>nd2.2.2 p List.mem_cons_self q hq z.symm
  refine⟨p,kvs,A0,h1,hp,hk,rs,pin,λkvs' kos' hk' hr=> ?_⟩
  obtain⟨A0',hs,rs'⟩:=hr (rs.frame (H':=upd H p (.dK kvs')) (Same.refl _) λq hq=>upd_ne λz=>np (z▸hq))
  have r:=h4 F (upd H p (.dK kvs')) (.ref p) (.dic kos') (p::A0') (Same.refl _) (λq hq=>upd_ne (n1 q hq)) (.dic upd_same hk' rs')
  rw[set_self h1] at r
  have subl:(A1++(p::A0'++A2)).Sublist (A1++(p::A0++A2)):=(List.Sublist.refl _).append ((hs.cons₂ p).append (List.Sublist.refl _))
  refine⟨_,λq hq=>subl.subset hq,⟨r,S.nd.sublist subl,λq hq=>S.off q (subl.subset hq),λb o e=> ?_⟩⟩
  have hb:b≠p:=λz=>by
   have:=S.off p pin
   rw[z,this] at e
   cases e
  rw[upd_ne hb]
  exact S.fh b o e
theorem frz_own{m:List Bool}{τ:Env2}: ∀{i:Nat} {o:O},(∀t,o≠.val t)→(frz m τ)[i]? =some (some o)→τ[i]? =some (some o):=by
 induction m generalizing τ with
 |nil=>intro i os _ h;cases τ<;>exact h
 |cons b m ih=>
  intro i os hv h
  cases τ with
  |nil=>cases b<;>exact h
  |cons o τ=>
   cases i with
   |zero=>
    cases b with
    |false=>exact h
    |true=>
     cases o with
     |none=>simp[frz] at h
     |some o=>
      simp only[frz,Option.map_some,List.getElem?_cons_zero,Option.some.injEq] at h⊢
      unfold frz1 at h
      split at h
      ·exact absurd h.symm (hv _)
      ·exact h
   |succ i=>
    have:(frz m τ)[i]? =some (some os):=by cases b<;>simpa[frz] using h
    simpa using ih hv this
theorem aft_own{m:List Bool}{τ:Env2}{t:T}{i:Nat}{o:O}(hv: ∀t,o≠.val t)(h:(aft m t τ)[i]? =some (some o)):τ[i]? =some (some o):=by
 unfold aft at h
 split at h
 ·exact h
 ·exact frz_own hv h
noncomputable def dPutD(i:Nat)(m:List Bool)(f g:DE):DS:=λτ=>(f (see m τ)).bind λt=>(g (see m τ)).bind λkt=>(keyT kt).bind λk=>match (aft m t τ)[i]? with
 |some (some (.dic kos))=>if kos.length<lim then some (.nx ((aft m t τ).set i (some (.dic (putG kos k (.val t)))))) else none
 |_=>none
theorem vs_dput(hp:PS X st (sDPut (tVar i) (tE X.K g) (tE X.K f))):VS X fx st (dPutD i m f g):=PS.le hp λD σ H ⟨F,τ,A,o,S,e,ok⟩=>by
 obtain⟨t,e1,e2⟩:=Option.bind_eq_some_iff.mp e
 obtain⟨kt,e3,e4⟩:=Option.bind_eq_some_iff.mp e2
 obtain⟨k,e5,e6⟩:=Option.bind_eq_some_iff.mp e4
 split at e6
 ·rename_i kos hos
  split at e6
  ·rename_i hlen
   cases e6
   obtain⟨F0,h1,h2,_,h3⟩:=S.after m
   obtain⟨p0,vs0,A00,g1,g2,_⟩:=S.writeD (aft_own (λ_ z=>nomatch z) hos)
   refine⟨F0,_,t,h1,h2,e1,λv H1 F1 x1 r=>⟨.ref p0,g1,F1,_,kt,x1.fh,h2.mono x1.ff,e3,λy H2 F2 x2 ry=> ?_⟩⟩
   cases keyT_inv ry e5
   obtain⟨F3,A3,a,b,c⟩:=h3 F2 H2 v t (x1.trans x2) (r.mono x2.ff)
   obtain⟨p,kvs,A0,k1,k2,k3,k4,k5,k6⟩:=b.writeD hos
   rw[g1] at k1
   cases k1
   have hl:kvs.length=kos.length:=by simpa using congrArg List.length k3
   obtain⟨A2,z1,z2⟩:=k6 (putK kvs k v) (putG kos k (.val t)) (put_keys k3 k v (.val t)) λz=>OReps.put k c k3 z
   exact⟨p0,_,rfl,.k k2 (by have:=lim_lt;omega),ok σ F3 _ A2 .rfl (a.write k5 k2 z1) z2⟩
  ·cases e6
 ·cases e6
noncomputable def dNever:DS:=λ_=>none
end
end L2
set_option Elab.async false
set_option linter.all false
set_option maxRecDepth 100000
namespace L2
open PySem PySem.Spec PyProof.Rows
noncomputable def insAt{α:Type}(l:List α)(k:Int)(y:α):List α:=
 l.take (if k<0 then(k+(l.length:Int)).toNat else min k.toNat l.length)++y::l.drop (if k<0 then(k+(l.length:Int)).toNat else min k.toNat l.length)
noncomputable def rInsert:V→List V→Hp→VK→Prop:=λx vs H Q=> ∃l xs k y,x=.ref l∧vs=[.int k,y]∧H l=some (.lst xs)∧xs.length<sizeLine∧(-1000000≤k∧k≤1000000)∧Q .non (upd H l (.lst (insAt xs k y)))
theorem vals_ins{xs:List V}{us:List Value}{y:V}{u:Value}(k:Int)(r:Vals xs us)(ry:RelV y u):Vals (insAt xs k y) (insAt us k u):=by
 unfold insAt
 rw[r.length]
 exact(Vals.take _ r).append (.cons ry (Vals.drop _ r))
theorem insAt_length{α:Type}(l:List α)(k:Int)(y:α):(insAt l k y).length=l.length+1:=by
 unfold insAt
 rw[List.length_append,List.length_cons,List.length_take,List.length_drop]
 omega
theorem fits_small{k:Int}(h: -1000000≤k∧k≤1000000):Builtin.List.listFitsIndex k=true:=by
 unfold Builtin.List.listFitsIndex
 simp only[Bool.and_eq_true,decide_eq_true_eq]
 omega
section
variable {X:Cx}
theorem mt_insert:MtM X "list.insert" rInsert:=by
 intro pins s σ H x vs v us Q I rx rv h
 obtain⟨l,xs,k,y,rfl,rfl,hH,hz,hk,q⟩:=h
 cases rx
 obtain⟨u0,u,rfl,r1,ru⟩:=vals2 rv
 ·obtain⟨t,rfl⟩:=r1
  obtain⟨z,its,n,r,hl,e⟩:=I.lstM hH
  refine call_meets F.slot_list_insert ⟨_,e,rfl⟩ F.entry_list_insert (F.args_list_insert_3 _ _ _) (PySem.AutoSeq1.list_insert_list_int_val_1 l its.toArray n k t u (by rw[fits_small hk];decide) (by rw[List.size_toArray];omega)) ⟨e,?_⟩
  refine⟨.non,_,I.lset (its':=insAt its k u) hH e ?_ (vals_ins k r ru) ?_,rfl,q⟩
  ·show(its.toArray.extract 0 (if k<0 then(k+(its.toArray.size:Int)).toNat else min k.toNat its.toArray.size)).push u++its.toArray.extract (if k<0 then(k+(its.toArray.size:Int)).toNat else min k.toNat its.toArray.size)=(insAt its k u).toArray
   rw[PySem.W.kl_ins_eq,List.size_toArray]
   rfl
  ·rw[insAt_length]
   omega
end
section
variable {X:Cx} {fx:List Nat} {st:Stmt} {f g:DE} {i:Nat} {m:List Bool}
noncomputable def dIns(i:Nat)(m:List Bool)(g f:DE):DS:=λτ=>(g (see m τ)).bind λkt=>(f (see m τ)).bind λt=>match kt,(aft m t τ)[i]? with
 | .int k,some (some (.lst os))=>if os.length<lim∧(-1000000≤k∧k≤1000000) then some (.nx ((aft m t τ).set i (some (.lst (insAt os k (.val t)))))) else none
 |_,_=>none
theorem OReps.app_inv{K:PySem.W.Frag}{F H:Hp}: ∀{vs:List V} {os:List O} {A:List Addr} (n:Nat),OReps K F H vs os A→∃A1 A2,A=A1++A2∧OReps K F H (vs.take n) (os.take n) A1∧OReps K F H (vs.drop n) (os.drop n) A2
 |_,_,A,0,r=>⟨[],A,rfl,.nil,r⟩
 |_,_,_,_+1,.nil=>⟨[],[],rfl,.nil,.nil⟩
 |_,_,_,n+1,.cons (A:=A) r rs=>by
  obtain⟨A1,A2,h1,h2,h3⟩:=OReps.app_inv n rs
  exact⟨A++A1,A2,by rw[h1,List.append_assoc],.cons r h2,h3⟩
theorem OReps.ins{K:PySem.W.Frag}{F H:Hp}{vs:List V}{os:List O}{A:List Addr}{v:V}{t:T}(k:Int)(rs:OReps K F H vs os A)(r:Rep K F v t):OReps K F H (insAt vs k v) (insAt os k (.val t)) A:=by
 unfold insAt
 rw[rs.length]
 obtain⟨A1,A2,h1,h2,h3⟩:=rs.app_inv (if k<0 then(k+(os.length:Int)).toNat else min k.toNat os.length)
 rw[h1]
 exact h2.append (OReps.cons (A:=[]) (.val r) h3)
theorem vs_ins(hp:PS X st (tDrop (tBM X.K "list" rInsert (tVar i) (tCons (tE X.K g) (tCons (tE X.K f) tNil))))):VS X fx st (dIns i m g f):=PS.le hp λD σ H ⟨F,τ,A,o,S,e,ok⟩=>by
 obtain⟨kt,e1,e2⟩:=Option.bind_eq_some_iff.mp e
 obtain⟨t,e3,e4⟩:=Option.bind_eq_some_iff.mp e2
 split at e4
 ·rename_i k os hos
  split at e4
  ·rename_i hlen
   cases e4
   obtain⟨F0,h1,h2,_,h3⟩:=S.after m
   obtain⟨p0,vs0,A00,g1,g2,g3,g4,g5,g6⟩:=S.write (aft_own (λ_ z=>nomatch z) hos)
   refine⟨.ref p0,g1,.inl ⟨rfl,vs0,SqL.of g2⟩,F0,_,.int k,h1,h2,e1,λv1 H1 F1 x1 r1=>⟨F1,_,t,x1.fh,h2.mono x1.ff,e3,λv H' F' x r=> ?_⟩⟩
   cases r1.inv_int
   obtain⟨F2,A1,a,b,c⟩:=h3 F' H' v t (x1.trans x) r
   obtain⟨p,vs,A0,k1,k2,k3,k4,k5,k6⟩:=b.write hos
   rw[g1] at k1
   cases k1
   refine⟨p0,vs,k,v,rfl,rfl,k2,by have:=lim_lt;omega,hlen.2,?_⟩
   obtain⟨A2,q1,q2⟩:=k6 (insAt vs k v) (insAt os k (.val t)) λz=>⟨A0,List.Sublist.refl _,z.ins k c⟩
   exact ok σ F2 _ A2 .rfl (a.write k4 k2 q1) q2
  ·cases e4
 ·cases e4
end
section
variable {X:Cx}
end
section
variable {X:Cx} {e:Expr} {f:DE}
noncomputable def spl0(f:DE):DA:=λε=>(f ε).bind λt=>match t with
 | .str z=>if z.length≤lim then some ((PySem.Txt.words z).map T.str) else none
 |_=>none
end
end L2
set_option Elab.async false
set_option linter.all false
set_option maxRecDepth 100000
namespace L2
open PySem PySem.Spec PyProof.Rows
section
variable {prog:Program} {w:World} {A:Around} {E:Value→Shared→Prop} {s:Shared}
end
section
variable {X:Cx} {pos:Pos}
end
section
variable {X:Cx} {fx:List Nat} {st:Stmt} {f:DE} {m:List Bool} {is:List Nat}
noncomputable def dUnp(is:List Nat)(m:List Bool)(f:DE):DS:=λτ=>(f (see m τ)).bind λt=>match t with
 | .tup ts=>(asgs O.val is ts (aft m t τ)).bind λτ'=>some (.nx τ')
 | .lst ts=>(asgs O.val is ts (aft m t τ)).bind λτ'=>some (.nx τ')
 |_=>none
end
section
variable {X:Cx} {pins:List (Addr×Obj)} {σ:St} {H:Hp} {s:Shared} {h':Heap}
theorem Inv.turned2{t':Nat}{i j:Addr}(I:Inv X pins σ H s)(k: ∀b o,b≠i→b≠j→s.heap.get? b=some o→h'.get? b=some o)(hi:FpOk X pins H i)(hj:FpOk X pins H j):Inv X pins σ H {s with heap:=h',toks:=t'}:=by
 obtain⟨i0,i1,i2,i3,i4,i5⟩:=hi
 obtain⟨j0,j1,j2,j3,j4,j5⟩:=hj
 have nit: ∀b u,H b=some u→b≠i∧b≠j:=λb u e=>⟨λz=>(by rw[z,i0] at e;cases e),λz=>(by rw[z,j0] at e;cases e)⟩
 have nc: ∀{b},b∉[i,j]→b≠i∧b≠j:=λhb=>⟨λz=>hb (by simp[z]),λz=>hb (by simp[z])⟩
 refine I.step (g':=s.gens) (d':=s.drawn) (ch:=[i,j]) (λb hb=> ?_) (λb o _ _ hc e _=>k b o (nc hc).1 (nc hc).2 e) (λb o _ _ hc e _=>⟨o.slots,k b o (nc hc).1 (nc hc).2 e⟩) (λ_ _ _ _ n=>n)
  (λb o hc e=>⟨o,k b o (nc hc).1 (nc hc).2 e⟩) (λ_ _ e=>e) (λ_ _ _ e=>e) (λb ps e=>⟨#[],by rw[e];simp⟩) (λm hm=> ?_) (λb u e=> ?_) I.bare
 ·rcases(show b=i∨b=j by simpa using hb) with rfl|rfl
  ·exact⟨i3,i1,i4,i5⟩
  ·exact⟨j3,j1,j4,j5⟩
 ·obtain⟨o,es,ep,ho,r⟩:=hm
  exact⟨o,es,ep,k _ o (Ne.symm i1) (Ne.symm j1) ho,r⟩
 ·refine(I.hok b u e).stay (λc v hc q=>k c v ?_ ?_ q) (λ_ q=>q) λ_ _ q=>q
  ·rcases hc with z|z
   ·rw[z];exact(nit b u e).1
   ·exact(nit c _ z).1
  ·rcases hc with z|z
   ·rw[z];exact(nit b u e).2
   ·exact(nit c _ z).2
end
noncomputable def Ite(K:PySem.W.Frag)(l:Addr):It:=
 ⟨λi H=> ∃xs x,SqL K H l xs∧xs[i]? =some x,λi H x H'=> ∃T y,H T=none∧x=.ref T∧(∀xs,SqL K H l xs→xs[i]? =some y)∧H'=upd H T (.tup [.int i,y]),λi H=> ∃xs,SqL K H l xs∧xs.length≤i⟩
theorem turn_enum{P:Program}{w:World}{K:PySem.W.Frag}{es:List Expr}{x1}{pos:Pos}(l e it:Addr)(hne:e≠it):
  Turn P w K (.Tuple es x1 pos) (Ite K l) [e,it] e (λi h=>(∃old,IsEnum h e it i old)∧h.IsListIter it l i) where
 mem:=by simp
 obj:=λi h st b hb=>by
  obtain⟨⟨old,he⟩,⟨o,e',c,d⟩⟩:=st
  rcases(show b=e∨b=it by simpa using hb) with rfl|rfl
  ·exact⟨_,he,λv z=>by cases z⟩
  ·exact⟨o,e',λv z=>by rw[d] at z;cases z⟩
 keep:=λi h h' st k=>by
  obtain⟨⟨old,he⟩,b⟩:=st
  exact⟨⟨old,k e (by simp) _ he⟩,b.at λo q=>k it (by simp) o q⟩
 item:=by
  intro X hP hw hK hc i pins s σ H E I hf st hg
  subst hP hw hK
  obtain⟨⟨old,he⟩,hit⟩:=st
  obtain⟨xs,x,hq,hx⟩:=hg
  obtain⟨its,rv,p,hz⟩:=I.list hq
  obtain⟨u,hu,ru⟩:=rv.get hx
  have fe:=hf e (by simp)
  have fi:=hf it (by simp)
  have hT:H s.heap.objs.size=none:=I.hok.fresh (Nat.le_refl _)
  refine wpAny_pyNext_enum_item he hit p.isList (x:=u) (by simpa using hu) hne λh1 o1 i1 t1 z1 k1=> ?_
  have J1:Inv X pins σ (upd H s.heap.objs.size (.tup [.int i,x])) {s with heap:=s.heap.push {cls:=.type "tuple",data:=.seq #[.int i s.toks,u]},toks:=s.toks+1}:=
   I.laid (λ_ _ q=>Heap.get?_push_of_some _ q) (Nat.le_refl _) ⟨by show 2≤sizeLine;rw[sizeLine_eq];decide,[.int i s.toks,u],.cons ⟨_,rfl⟩ (.cons ru .nil),_,Heap.get?_push_size _ rfl,rfl,_,rfl⟩
  have fok: ∀{b:Addr},FpOk X pins H b→(∃o,s.heap.get? b=some o)→FpOk X pins (upd H s.heap.objs.size (.tup [.int i,x])) b:=λh ⟨o,ho⟩=>⟨by rw[upd_ne (Nat.ne_of_lt (Heap.lt_size ho))];exact h.1,h.2⟩
  have ge:=fok fe ⟨_,he⟩
  have gi:=fok fi (by obtain⟨o,ho,_⟩:=hit;exact⟨o,ho⟩)
  have J2:Inv X pins σ (upd H s.heap.objs.size (.tup [.int i,x])) {s with heap:=h1,toks:=s.toks+1}:=by
   have z:=J1.turned2 (h':=h1) (t':=s.toks+1) (i:=e) (j:=it) (λb o hb hb' q=>by
    have q:(s.heap.push {cls:=.type "tuple",data:=.seq #[.int i s.toks,u]}).get? b=some o:=q
    by_cases hs:b=s.heap.objs.size
    ·subst hs
     rw[Heap.get?_push_size _ rfl] at q
     cases q
     exact t1
    ·refine k1 b o hb hb' ?_
     rw[Heap.get?_push_ne _ _ _ hs] at q
     exact q) ge gi
   exact z
  refine⟨.ref s.heap.objs.size,rfl,wpAny_letOwnedTupleGo_enum o1 λh2 e2 s2=> ?_⟩
  have J3:Inv X pins σ (upd H s.heap.objs.size (.tup [.int i,x])) {s with heap:=h2,toks:=s.toks+1}:=by
   obtain⟨f0,f1,f2,f3,f4,f5⟩:=ge
   have z:=J2.turned (h':=h2) (t':=s.toks+1) (λb o hb q=>(s2.2 b hb).trans q) f0 f1 f3 f4 f5
   exact z
  refine⟨.ref s.heap.objs.size,_,J3,rfl,⟨s.heap.objs.size,x,hT,rfl,λys hy=>by rw[I.list_inj hy hq];exact hx,rfl⟩,⟨⟨_,by simpa using e2⟩,i1.at λo q=>(s2.2 it (Ne.symm hne)).trans q⟩,λb hb=> ?_⟩
  rcases(show b=e∨b=it by simpa using hb) with rfl|rfl
  ·exact ge.1
  ·exact gi.1
 done:=by
  intro X hP hw hK hc i pins s σ H E I hf st hg
  subst hP hw hK
  obtain⟨⟨old,he⟩,hit⟩:=st
  obtain⟨xs,hq,hx⟩:=hg
  obtain⟨its,rv,p,hz⟩:=I.list hq
  have hl:=rv.length
  obtain⟨f0,f1,f2,f3,f4,f5⟩:=hf it (by simp)
  exact wpAny_pyNext_enum_end (I.ok.hd hc) he hit p.isList (by simp;omega) λh' eb=>⟨rfl,I.turned (t':=s.toks) (λb o hb e=>eb b o hb e) f0 f1 f3 f4 f5⟩
 self:=λ_ _ _ _ _ st h=>by
  obtain⟨⟨old,he⟩,_⟩:=st
  exact wpAny_pyIter_enum he h
noncomputable def iEnum(K:PySem.W.Frag)(ta:TA):TI:=λσ H R=>ta σ H λvs H1=> ∃l xs,vs=[.ref l]∧SqL K H1 l xs∧R (Ite K l) H1
section
variable {X:Cx} {a:Expr} {pos p2 tp:Pos} {es:List Expr} {x1:Nat} {f:DE}
theorem pi_enum{ta:TA}(hg:Gl X "enumerate")(hm:X.mg "enumerate"=none)(ha:PA X [a] ta)(hs:starEach [a] X.env=[(false,eval a X.env)]:=by rfl):PI X (.Tuple es x1 tp) (.Call (.Name "enumerate" p2) [a] [] pos) (iEnum X.K ta):=by
 intro pins s σ H R I h
 refine Call_ (ld_blt I hg hm boot_enumerate (PyProof.Rows.callWith_type1 (thn (ha pos pins s σ H _ I h) λus s1 ⟨vs,H1,I1,r1,q1⟩=> ?_) hs rfl))
 obtain⟨l,xs,rfl,hq,q⟩:=q1
 obtain⟨u,rfl,ru⟩:=vals1 r1
 cases ru
 obtain⟨its,rv,p,hz⟩:=I1.list hq
 refine call_enumerate_list p.isList λh' e1 i1 z1 k1=> ?_
 refine wpAny_pyIter_enum e1 ?_
 have I2:Inv X pins σ H1 {s1 with heap:=h'}:=I1.kept (t':=s1.toks) k1
 refine⟨s1.heap.objs.size+1,[s1.heap.objs.size+1,s1.heap.objs.size],_,_,H1,rfl,I2,turn_enum l _ _ (Nat.succ_ne_self _),⟨⟨_,e1⟩,i1⟩,λb hb=> ?_,q⟩
 have hb':s1.heap.objs.size≤b:=by
  rcases(show b=s1.heap.objs.size+1∨b=s1.heap.objs.size by simpa using hb) with rfl|rfl<;>omega
 exact I1.fpOk hb' (I1.hok.fresh hb')
noncomputable def enumT(k:Nat):List T→List T
 |[]=>[]
 |t::ts=>.tup [.int (k:Int),t]::enumT (k+1) ts
theorem enumT_get: ∀{ts:List T} {k i:Nat} {t:T},(enumT k ts)[i]? =some t→∃u,ts[i]? =some u∧t=.tup [.int ((k+i:Nat):Int),u]
 |[],_,_,_,h=>by simp[enumT] at h
 |u::ts,k,0,t,h=>by simp[enumT] at h;exact⟨u,rfl,by simp[←h]⟩
 |u::ts,k,i+1,t,h=>by
  obtain⟨v,h1,h2⟩:=enumT_get (ts:=ts) (k:=k+1) (i:=i) (t:=t) (by simpa[enumT] using h)
  exact⟨v,by simpa using h1,by rw[h2,show k+1+i=k+(i+1) by omega]⟩
theorem enumT_length: ∀(ts:List T) (k:Nat),(enumT k ts).length=ts.length
 |[],_=>rfl
 |_::ts,k=>congrArg (· +1) (enumT_length ts (k+1))
theorem wk_enum{K:PySem.W.Frag}{F:Hp}{l:Addr}{vs:List V}{ts:List T}(h:SqL K F l vs)(rs:Reps K F vs ts):Wk K F (Ite K l) (enumT 0 ts):=by
 refine⟨λH q=>⟨vs,q.seq h,by rw[enumT_length,rs.length];exact Nat.le_refl _⟩,λi t H ht q=> ?_⟩
 obtain⟨u,h0,rfl⟩:=enumT_get ht
 obtain⟨v,h1,h2⟩:=rs.get h0
 refine⟨⟨vs,v,q.seq h,h1⟩,λx H' y F1 a1 b1=> ?_⟩
 obtain⟨T0,y,hT,rfl,hy,rfl⟩:=y
 have:=hy vs (q.seq h)
 rw[h1] at this
 cases this
 have x2:=Ext.new b1 hT (.tup [.int (i:Nat),v])
 rw[Nat.zero_add]
 exact⟨_,x2,.tup (.inl (.inl upd_same)) (.cons (.int _) (.cons (h2.mono (a1.trans x2.ff)) .nil))⟩
noncomputable def d_enumerate1(f:DE):DA:=λε=>(f ε).bind λt=>match t with
 | .lst ts=>some (enumT 0 ts)
 |_=>none
theorem vi_enumerate1(hg:Gl X "enumerate")(hm:X.mg "enumerate"=none)(ha:VE X a f)(hs:starEach [a] X.env=[(false,eval a X.env)]:=by rfl):VI X (.Tuple es x1 tp) (.Call (.Name "enumerate" p2) [a] [] pos) (d_enumerate1 f):=PI.le (pi_enum hg hm (va_cons ha va_nil hs) hs) λσ H R ⟨F,ε,ts,hF,hE,e,q⟩=>by
 obtain⟨t,e1,e2⟩:=Option.bind_eq_some_iff.mp e
 split at e2
 ·cases e2
  refine⟨F,ε,_,hF,hE,by unfold dAc;rw[e1];rfl,λvs H' F' x rs=> ?_⟩
  obtain⟨v,rfl,r⟩:=rs.one
  obtain⟨p,vs,rfl,hp,rs'⟩:=r.inv_lst
  exact⟨p,vs,rfl,SqL.of (x.fh _ _ hp),q _ H' F' x (wk_enum (SqL.of hp) rs')⟩
 ·cases e2
end
end L2
set_option Elab.async false
set_option linter.all false
set_option maxRecDepth 100000
namespace L2
open PySem PySem.Spec PyProof.Rows
@[simp] theorem dNewD_ap{i:Nat}{τ:Env2}:dNewD i τ=some (.nx (τ.set i (some (.dic [])))):=rfl
@[simp] theorem dNever_ap{τ:Env2}:dNever τ=none:=rfl
@[simp] theorem dPutD_ap{i:Nat}{m:List Bool}{f g:DE}{τ:Env2}:dPutD i m f g τ=((f (see m τ)).bind λt=>(g (see m τ)).bind λkt=>(keyT kt).bind λk=>match (aft m t τ)[i]? with
 |some (some (.dic kos))=>if kos.length<lim then some (.nx ((aft m t τ).set i (some (.dic (putG kos k (.val t)))))) else none
 |_=>none):=rfl
@[simp] theorem dIns_ap{i:Nat}{m:List Bool}{g f:DE}{τ:Env2}:dIns i m g f τ=((g (see m τ)).bind λkt=>(f (see m τ)).bind λt=>match kt,(aft m t τ)[i]? with
 | .int k,some (some (.lst os))=>if os.length<lim∧(-1000000≤k∧k≤1000000) then some (.nx ((aft m t τ).set i (some (.lst (insAt os k (.val t)))))) else none
 |_,_=>none):=rfl
@[simp] theorem dUnp_ap{is:List Nat}{m:List Bool}{f:DE}{τ:Env2}:dUnp is m f τ=((f (see m τ)).bind λt=>match t with
 | .tup ts=>(asgs O.val is ts (aft m t τ)).bind λτ'=>some (.nx τ')
 | .lst ts=>(asgs O.val is ts (aft m t τ)).bind λτ'=>some (.nx τ')
 |_=>none):=rfl
@[simp] theorem spl0_ap{f:DE}{ε:Ev}:spl0 f ε=((f ε).bind λt=>match t with
 | .str z=>if z.length≤lim then some ((PySem.Txt.words z).map T.str) else none
 |_=>none):=rfl
@[simp] theorem enum_ap{f:DE}{ε:Ev}:d_enumerate1 f ε=((f ε).bind λt=>match t with
 | .lst ts=>some (enumT 0 ts)
 |_=>none):=rfl
@[simp] theorem dIk_ap{f:DE}{ε:Ev}:dIk f ε=((f ε).bind keysT):=rfl
section
variable {l:List (Key×T)} {k:Key} {x:Str} {i:Int} {t:T}
@[simp] theorem keysT_dic:keysT (.dic l)=some ((l.map (·.1)).map kT):=rfl
@[simp] theorem getD_str:getD (.dic l) (.str x)=valG l (.inr x):=rfl
@[simp] theorem getD_int:getD (.dic l) (.int i)=valG l (.inl i):=rfl
@[simp] theorem hasD_str:hasD (.str x) (.dic l)=some (.bl (valG l (.inr x)).isSome):=rfl
@[simp] theorem hasD_int:hasD (.int i) (.dic l)=some (.bl (valG l (.inl i)).isSome):=rfl
@[simp] theorem hasntD_str:hasntD (.str x) (.dic l)=some (.bl (!(valG l (.inr x)).isSome)):=rfl
@[simp] theorem hasntD_int:hasntD (.int i) (.dic l)=some (.bl (!(valG l (.inl i)).isSome)):=rfl
@[simp] theorem lenT_dic:lenT [.dic l]=some (.int l.length):=rfl
@[simp] theorem flat_dic:T.flat (.dic l)=false:=rfl
noncomputable def ownD(l:List (Key×T)):O:=.dic (l.map λp=>(p.1,O.val p.2))
theorem toTk_own: ∀l:List (Key×T),toTk (l.map λp=>(p.1,O.val p.2))=some l
 |[]=>by simp[toTk]
 |p::l=>by
  rw[List.map_cons]
  unfold toTk
  rw[toTk_own l]
  simp
@[simp] theorem toT_own:toT (ownD l)=some (.dic l):=by
 unfold ownD
 rw[toT,toTk_own]
 rfl
@[simp] theorem frz1_own:frz1 (ownD l)=.val (.dic l):=by unfold frz1;simp
theorem putG_own:putG (l.map λp=>(p.1,O.val p.2)) k (.val t)=(putG l k t).map λp=>(p.1,O.val p.2):=by
 unfold putG
 rw[any_keys (r:=l) (by rw[List.map_map];rfl) k]
 split
 ·rw[List.map_map,List.map_map]
  refine List.map_congr_left λp _=> ?_
  simp only[Function.comp]
  split<;>rfl
 ·rw[List.map_append];rfl
end
section
variable {κ α:Type} [DecidableEq κ]
theorem valG_isSome{l:List (κ×α)}{k:κ}:(valG l k).isSome=l.any λp=>decide (p.1=k):=by
 induction l with
 |nil=>rfl
 |cons p l ih=>
  rw[valG_cons,List.any_cons]
  by_cases h:p.1=k
  ·rw[if_pos h,decide_eq_true h];rfl
  ·rw[if_neg h,decide_eq_false h,ih];rfl
theorem putG_new{l:List (κ×α)}{k:κ}{v:α}(h:valG l k=none):putG l k v=l++[(k,v)]:=by
 unfold putG
 have:=valG_isSome (l:=l) (k:=k)
 rw[h] at this
 rw[←this]
 rfl
theorem valG_none{l:List (κ×α)}{k:κ}(h:k∉l.map (·.1)):valG l k=none:=by
 induction l with
 |nil=>rfl
 |cons p l ih=>
  rw[List.map_cons,List.mem_cons,not_or] at h
  rw[valG_cons,if_neg (Ne.symm h.1),ih h.2]
end
theorem insAt_perm{α:Type}(l:List α)(k:Int)(y:α):(insAt l k y).Perm (y::l):=by
 unfold insAt
 exact List.perm_middle.trans ((List.Perm.of_eq (List.take_append_drop _ l)).cons y)
theorem insAt_map{α β:Type}(f:α→β)(l:List α)(k:Int)(y:α):insAt (l.map f) k (f y)=(insAt l k y).map f:=by
 unfold insAt
 rw[List.length_map,List.map_append,List.map_cons,List.map_take,List.map_drop]
end L2
set_option Elab.async false
set_option linter.all false
set_option maxRecDepth 100000
namespace L2
open PySem PySem.Spec PyProof.Rows
section
variable {X:Cx} {pins:List (Addr×Obj)} {σ:St} {H:Hp} {s:Shared} {h':Heap}
theorem Inv.turnedL{t':Nat}{ch:List Addr}(I:Inv X pins σ H s)(k: ∀b o,b∉ch→s.heap.get? b=some o→h'.get? b=some o)(hf: ∀b∈ch,FpOk X pins H b):Inv X pins σ H {s with heap:=h',toks:=t'}:=by
 have nit: ∀b u,H b=some u→b∉ch:=λb u e hb=>by rw[(hf b hb).1] at e;cases e
 refine I.step (g':=s.gens) (d':=s.drawn) (ch:=ch) (λb hb=> ?_) (λb o _ _ hc e _=>k b o hc e) (λb o _ _ hc e _=>⟨o.slots,k b o hc e⟩) (λ_ _ _ _ n=>n)
  (λb o hc e=>⟨o,k b o hc e⟩) (λ_ _ e=>e) (λ_ _ _ e=>e) (λb ps e=>⟨#[],by rw[e];simp⟩) (λm hm=> ?_) (λb u e=> ?_) I.bare
 ·obtain⟨i0,i1,i2,i3,i4,i5⟩:=hf b hb
  exact⟨i3,i1,i4,i5⟩
 ·obtain⟨o,es,ep,ho,r⟩:=hm
  exact⟨o,es,ep,k _ o (λhb=>(hf _ hb).2.1 rfl) ho,r⟩
 ·refine(I.hok b u e).stay (λc v hc q=>k c v ?_ q) (λ_ q=>q) λ_ _ q=>q
  rcases hc with z|z
  ·rw[z];exact nit b u e
  ·exact nit c _ z
end
noncomputable def Itz(K:PySem.W.Frag)(l1 l2:Addr):It:=
 ⟨λi H=> ∃xs ys x y,SqL K H l1 xs∧SqL K H l2 ys∧xs[i]? =some x∧ys[i]? =some y,
  λi H x H'=> ∃T a b,H T=none∧x=.ref T∧(∀xs,SqL K H l1 xs→xs[i]? =some a)∧(∀ys,SqL K H l2 ys→ys[i]? =some b)∧H'=upd H T (.tup [a,b]),
  λi H=> ∃xs ys,SqL K H l1 xs∧SqL K H l2 ys∧(xs.length≤i∨ys.length≤i)⟩
theorem turn_zip{P:Program}{w:World}{K:PySem.W.Frag}{es:List Expr}{x1}{pos:Pos}(l1 l2 z TI TO i1 i2:Addr)(D:ZipApart z TI TO i1 i2 l1 l2):
  Turn P w K (.Tuple es x1 pos) (Itz K l1 l2) [z,TI,TO,i1,i2] z (λi h=>IsZip h z TI TO .none∧IsPair h TI (.ref i1) (.ref i2)∧(∃a b,IsPair h TO a b)∧h.IsListIter i1 l1 i∧h.IsListIter i2 l2 i) where
 mem:=by simp
 obj:=λi h st b hb=>by
  obtain⟨h1,h2,⟨a,c,h3⟩,⟨o1,e1,_,d1⟩,⟨o2,e2,_,d2⟩⟩:=st
  rcases(show b=z∨b=TI∨b=TO∨b=i1∨b=i2 by simpa using hb) with rfl|rfl|rfl|rfl|rfl
  ·exact⟨_,h1,λv z=>by cases z⟩
  ·exact⟨_,h2,λv z=>by cases z⟩
  ·exact⟨_,h3,λv z=>by cases z⟩
  ·exact⟨_,e1,λv z=>by rw[d1] at z;cases z⟩
  ·exact⟨_,e2,λv z=>by rw[d2] at z;cases z⟩
 keep:=λi h h' st k=>by
  obtain⟨h1,h2,⟨a,c,h3⟩,h4,h5⟩:=st
  exact⟨k z (by simp) _ h1,k TI (by simp) _ h2,⟨a,c,k TO (by simp) _ h3⟩,h4.at λo q=>k i1 (by simp) o q,h5.at λo q=>k i2 (by simp) o q⟩
 item:=by
  intro X hP hw hK hc i pins s σ H E I hf st hg
  subst hP hw hK
  obtain⟨hz,hTI,⟨a0,b0,hTO⟩,hi1,hi2⟩:=st
  obtain⟨xs,ys,x,y,hq1,hq2,hx,hy⟩:=hg
  obtain⟨its1,rv1,p1,_⟩:=I.list hq1
  obtain⟨its2,rv2,p2,_⟩:=I.list hq2
  obtain⟨u1,hu1,ru1⟩:=rv1.get hx
  obtain⟨u2,hu2,ru2⟩:=rv2.get hy
  have hT:H s.heap.objs.size=none:=I.hok.fresh (Nat.le_refl _)
  refine wpAny_pyNext_zip_item D hz hTI hTO hi1 hi2 p1.isList p2.isList (x:=u1) (y:=u2) (by simpa using hu1) (by simpa using hu2) λh1 z1 to1 k1 k2 t1 sz1 kp=> ?_
  have J1:Inv X pins σ (upd H s.heap.objs.size (.tup [x,y])) {s with heap:=s.heap.push {cls:=.type "tuple",data:=.seq #[u1,u2]}}:=
   I.laid (t':=s.toks) (λ_ _ q=>Heap.get?_push_of_some _ q) (Nat.le_refl _) ⟨by show 2≤sizeLine;rw[sizeLine_eq];decide,[u1,u2],.cons ru1 (.cons ru2 .nil),_,Heap.get?_push_size _ rfl,rfl,_,rfl⟩
  have inH: ∀b∈[z,TI,TO,i1,i2],∃o,s.heap.get? b=some o:=λb hb=>by
   rcases(show b=z∨b=TI∨b=TO∨b=i1∨b=i2 by simpa using hb) with rfl|rfl|rfl|rfl|rfl
   ·exact⟨_,hz⟩
   ·exact⟨_,hTI⟩
   ·exact⟨_,hTO⟩
   ·obtain⟨o,ho,_⟩:=hi1;exact⟨o,ho⟩
   ·obtain⟨o,ho,_⟩:=hi2;exact⟨o,ho⟩
  have gk: ∀b∈[z,TI,TO,i1,i2],FpOk X pins (upd H s.heap.objs.size (.tup [x,y])) b:=λb hb=>by
   obtain⟨o,ho⟩:=inH b hb
   exact⟨by rw[upd_ne (Nat.ne_of_lt (Heap.lt_size ho))];exact(hf b hb).1,(hf b hb).2⟩
  have J2:Inv X pins σ (upd H s.heap.objs.size (.tup [x,y])) {s with heap:=h1}:=by
   have q:=J1.turnedL (h':=h1) (t':=s.toks) (ch:=[z,TI,TO,i1,i2]) (λb o hb q=>by
    have q:(s.heap.push {cls:=.type "tuple",data:=.seq #[u1,u2]}).get? b=some o:=q
    by_cases hs:b=s.heap.objs.size
    ·subst hs
     rw[Heap.get?_push_size _ rfl] at q
     cases q
     exact t1
    ·rw[Heap.get?_push_ne _ _ _ hs] at q
     simp only[List.mem_cons,List.not_mem_nil,or_false,not_or] at hb
     exact kp b o hb.1 hb.2.2.1 hb.2.2.2.1 hb.2.2.2.2 q) gk
   exact q
  refine⟨.ref s.heap.objs.size,rfl,wpAny_letOwnedTupleGo_zip z1 λh2 e2 s2=> ?_⟩
  have J3:Inv X pins σ (upd H s.heap.objs.size (.tup [x,y])) {s with heap:=h2}:=by
   obtain⟨f0,f1,f2,f3,f4,f5⟩:=gk z (by simp)
   have q:=J2.turned (h':=h2) (t':=s.toks) (λb o hb q=>(s2.2 b hb).trans q) f0 f1 f3 f4 f5
   exact q
  have hTI1:IsPair h1 TI (.ref i1) (.ref i2):=kp TI _ D.TIz D.TITO D.TIi1 D.TIi2 hTI
  refine⟨.ref s.heap.objs.size,_,J3,rfl,⟨s.heap.objs.size,x,y,hT,rfl,λzs hzs=>by rw[I.list_inj hzs hq1];exact hx,λzs hzs=>by rw[I.list_inj hzs hq2];exact hy,rfl⟩,
   ⟨e2,(s2.2 TI D.TIz).trans hTI1,⟨u1,u2,(s2.2 TO D.TOz).trans to1⟩,k1.at λo q=>(s2.2 i1 D.i1z).trans q,k2.at λo q=>(s2.2 i2 D.i2z).trans q⟩,λb hb=>(gk b hb).1⟩
 done:=by
  intro X hP hw hK hc i pins s σ H E I hf st hg
  subst hP hw hK
  obtain⟨hz,hTI,⟨a0,b0,hTO⟩,hi1,hi2⟩:=st
  obtain⟨xs,ys,hq1,hq2,hx⟩:=hg
  obtain⟨its1,rv1,p1,_⟩:=I.list hq1
  obtain⟨its2,rv2,p2,_⟩:=I.list hq2
  have l1:=rv1.length
  have l2:=rv2.length
  refine wpAny_pyNext_zip_end (I.ok.hd hc) D hz hTI hTO hi1 hi2 p1.isList p2.isList (by
   rcases hx with hx|hx
   ·exact .inl (by simp;omega)
   ·exact .inr (by simp;omega)) λh' kp=>⟨rfl,?_⟩
  have q:=I.turnedL (h':=h') (t':=s.toks) (ch:=[z,TI,TO,i1,i2]) (λb o hb q=>by
   simp only[List.mem_cons,List.not_mem_nil,or_false,not_or] at hb
   exact kp b o hb.1 hb.2.2.1 hb.2.2.2.1 hb.2.2.2.2 q) hf
  exact q
 self:=λ_ _ _ _ _ st h=>wpAny_pyIter_zip st.1 h
noncomputable def iZip(K:PySem.W.Frag)(ta:TA):TI:=λσ H R=>ta σ H λvs H1=> ∃l1 l2 xs ys,vs=[.ref l1,.ref l2]∧SqL K H1 l1 xs∧SqL K H1 l2 ys∧R (Itz K l1 l2) H1
section
variable {X:Cx} {a b:Expr} {pos p2 tp:Pos} {es:List Expr} {x1:Nat} {f g:DE}
theorem pi_zip{ta:TA}(hg:Gl X "zip")(hm:X.mg "zip"=none)(ha:PA X [a,b] ta)(hs:starEach [a,b] X.env=(false,eval a X.env)::starEach [b] X.env:=by rfl)(hs2:(backTo pos (starEach [b] X.env)).any (·.1)=false:=by rfl):
  PI X (.Tuple es x1 tp) (.Call (.Name "zip" p2) [a,b] [] pos) (iZip X.K ta):=by
 intro pins s σ H R I h
 refine Call_ (ld_blt I hg hm boot_zip (PyProof.Rows.callWith_type1 (thn (ha pos pins s σ H _ I h) λus s1 ⟨vs,H1,I1,r1,q1⟩=> ?_) hs hs2))
 obtain⟨l1,l2,xs,ys,rfl,hq1,hq2,q⟩:=q1
 obtain⟨u,w',rfl,ru,rw'⟩:=vals2 r1
 cases ru
 cases rw'
 obtain⟨its1,rv1,pl1,_⟩:=I1.list hq1
 obtain⟨its2,rv2,pl2,_⟩:=I1.list hq2
 have lt1:l1<s1.heap.objs.size:=by obtain⟨o,ho,_⟩:=pl1.isList;exact Heap.lt_size ho
 have lt2:l2<s1.heap.objs.size:=by obtain⟨o,ho,_⟩:=pl2.isList;exact Heap.lt_size ho
 refine call_zip_2 pl1.isList pl2.isList λh' z1 ti to i1 i2 sz kp=> ?_
 refine wpAny_pyIter_zip z1 ?_
 have I2:Inv X pins σ H1 {s1 with heap:=h'}:=I1.kept (t':=s1.toks) kp
 refine⟨s1.heap.objs.size+4,[s1.heap.objs.size+4,s1.heap.objs.size+2,s1.heap.objs.size+3,s1.heap.objs.size,s1.heap.objs.size+1],_,_,H1,rfl,I2,turn_zip l1 l2 _ _ _ _ _ (PySem.W.ktu_apart _ _ _ lt1 lt2),⟨z1,ti,⟨_,_,to⟩,i1,i2⟩,λc hc=> ?_,q⟩
 have hc':s1.heap.objs.size≤c:=by
  simp only[List.mem_cons,List.not_mem_nil,or_false] at hc
  rcases hc with rfl|rfl|rfl|rfl|rfl
  ·exact Nat.le_add_right _ _
  ·exact Nat.le_add_right _ _
  ·exact Nat.le_add_right _ _
  ·exact Nat.le_refl _
  ·exact Nat.le_add_right _ _
 exact I1.fpOk hc' (I1.hok.fresh hc')
noncomputable def zipT(ts us:List T):List T:=(ts.zip us).map λp=>.tup [p.1,p.2]
theorem wk_zip{K:PySem.W.Frag}{F:Hp}{l1 l2:Addr}{vs ws:List V}{ts us:List T}(h1:SqL K F l1 vs)(h2:SqL K F l2 ws)(r1:Reps K F vs ts)(r2:Reps K F ws us):Wk K F (Itz K l1 l2) (zipT ts us):=by
 have e1:=r1.length
 have e2:=r2.length
 refine⟨λH q=>⟨vs,ws,q.seq h1,q.seq h2,by unfold zipT;rw[List.length_map,List.length_zip];omega⟩,λi t H ht q=> ?_⟩
 unfold zipT at ht
 rw[List.getElem?_map] at ht
 obtain⟨⟨t1,t2⟩,hz,rfl⟩:=Option.map_eq_some_iff.mp ht
 obtain⟨g1,g2⟩:=List.getElem?_zip_eq_some.mp hz
 obtain⟨v1,k1,m1⟩:=r1.get g1
 obtain⟨v2,k2,m2⟩:=r2.get g2
 refine⟨⟨vs,ws,v1,v2,q.seq h1,q.seq h2,k1,k2⟩,λx H' y F1 a1 b1=> ?_⟩
 obtain⟨T0,a,b,hT,rfl,ha,hb,rfl⟩:=y
 have z1:=ha vs (q.seq h1)
 have z2:=hb ws (q.seq h2)
 rw[k1] at z1
 rw[k2] at z2
 cases z1
 cases z2
 have x2:=Ext.new b1 hT (.tup [v1,v2])
 exact⟨_,x2,.tup (.inl (.inl upd_same)) (.cons (m1.mono (a1.trans x2.ff)) (.cons (m2.mono (a1.trans x2.ff)) .nil))⟩
noncomputable def d_zip2(f g:DE):DA:=λε=>(f ε).bind λt=>(g ε).bind λu=>match t,u with
 | .lst ts,.lst us=>some (zipT ts us)
 |_,_=>none
theorem vi_zip2(hg:Gl X "zip")(hm:X.mg "zip"=none)(ha:VE X a f)(hb:VE X b g)(hs:starEach [a,b] X.env=(false,eval a X.env)::starEach [b] X.env:=by rfl)(hs0:starEach [b] X.env=[(false,eval b X.env)]:=by rfl)(hs2:(backTo pos (starEach [b] X.env)).any (·.1)=false:=by rfl):
  VI X (.Tuple es x1 tp) (.Call (.Name "zip" p2) [a,b] [] pos) (d_zip2 f g):=PI.le (pi_zip hg hm (va_cons ha (va_cons hb va_nil hs0) hs) hs hs2) λσ H R ⟨F,ε,ts,hF,hE,e,q⟩=>by
 obtain⟨t,e1,e2⟩:=Option.bind_eq_some_iff.mp e
 obtain⟨u,e3,e4⟩:=Option.bind_eq_some_iff.mp e2
 split at e4
 ·cases e4
  refine⟨F,ε,_,hF,hE,by unfold dAc;rw[e1,e3];rfl,λvs H' F' x rs=> ?_⟩
  obtain⟨v,w,rfl,r,r'⟩:=rs.two
  obtain⟨p,vs,rfl,hp,rs1⟩:=r.inv_lst
  obtain⟨p',vs',rfl,hp',rs2⟩:=r'.inv_lst
  exact⟨p,p',vs,vs',rfl,SqL.of (x.fh _ _ hp),SqL.of (x.fh _ _ hp'),q _ H' F' x (wk_zip (SqL.of hp) (SqL.of hp') rs1 rs2)⟩
 ·cases e4
@[simp] theorem zip_ap{f g:DE}{ε:Ev}:d_zip2 f g ε=((f ε).bind λt=>(g ε).bind λu=>match t,u with
 | .lst ts,.lst us=>some (zipT ts us)
 |_,_=>none):=rfl
end
noncomputable def strT:List T→Option T
 |[.int i]=>if i.natAbs.log2<1920 then some (.str (toString i)) else none
 |[.str x]=>some (.str x)
 |_=>none
section
variable {X:Cx}
end
noncomputable def tupleT:List T→Option T
 |[.lst ts]=>some (.tup ts)
 |[.tup ts]=>some (.tup ts)
 |_=>none
section
variable {X:Cx}
end
end L2
set_option Elab.async false
set_option linter.all false
set_option maxRecDepth 100000
namespace L2
open PySem PySem.Spec PyProof.Rows
section
variable {X:Cx} {fx:List Nat} {st:Stmt} {f:DE} {i k:Nat} {m:List Bool}
noncomputable def dAppN(i k:Nat)(m:List Bool)(f:DE):DS:=λτ=>(f (see m τ)).bind λt=>match (aft m t τ)[i]? with
 |some (some (.lst os))=>match os[k]? with
  |some (.lst os')=>if os'.length<lim then some (.nx ((aft m t τ).set i (some (.lst (os.set k (.lst (os'++[.val t]))))))) else none
  |_=>none
 |_=>none
end
noncomputable def nestO(ks:List Bool):List O:=ks.map λb=>if b then .lst [] else .val .non
section
variable {X:Cx} {fx:List Nat} {st:Stmt} {i:Nat}
noncomputable def dNest(i:Nat)(ks:List Bool):DS:=λτ=>some (.nx (τ.set i (some (.lst (nestO ks)))))
end
end L2
set_option Elab.async false
set_option linter.all false
set_option maxRecDepth 100000
namespace L2
open PySem PySem.Spec PyProof.Rows
noncomputable abbrev DM:=O→List T→Option (T×O)
section
variable {P:Program} {w:World} {K:PySem.W.Frag} {mg:Str→Option Value} {base:Heap}
end
section
variable {X:Cx} {fx:List Nat} {st:Stmt} {i:Nat} {m:List Bool} {fs:DA} {s:DM}
noncomputable def dMut(i:Nat)(m:List Bool)(s:DM)(fs:DA):DS:=λτ=>(fs (see m τ)).bind λts=>match (afts m ts τ)[i]? with
 |some (some o)=>(s o ts).bind λr=>some (.nx ((afts m ts τ).set i (some r.2)))
 |_=>none
end
end L2
set_option Elab.async false
set_option linter.all false
set_option maxRecDepth 100000
namespace L2
open PySem PySem.Spec PyProof.Rows
@[simp] theorem dAppN_ap{i k:Nat}{m:List Bool}{f:DE}{τ:Env2}:dAppN i k m f τ=((f (see m τ)).bind λt=>match (aft m t τ)[i]? with
 |some (some (.lst os))=>match os[k]? with
  |some (.lst os')=>if os'.length<lim then some (.nx ((aft m t τ).set i (some (.lst (os.set k (.lst (os'++[.val t]))))))) else none
  |_=>none
 |_=>none):=rfl
@[simp] theorem dNest_ap{i:Nat}{ks:List Bool}{τ:Env2}:dNest i ks τ=some (.nx (τ.set i (some (.lst (nestO ks))))):=rfl
@[simp] theorem dMut_ap{i:Nat}{m:List Bool}{s:DM}{fs:DA}{τ:Env2}:dMut i m s fs τ=((fs (see m τ)).bind λts=>match (afts m ts τ)[i]? with
 |some (some o)=>(s o ts).bind λr=>some (.nx ((afts m ts τ).set i (some r.2)))
 |_=>none):=rfl
@[simp] theorem strT_int{i:Int}:strT [.int i]=if i.natAbs.log2<1920 then some (.str (toString i)) else none:=rfl
@[simp] theorem strT_str{x:Str}:strT [.str x]=some (.str x):=rfl
@[simp] theorem tupleT_lst{ts:List T}:tupleT [.lst ts]=some (.tup ts):=rfl
@[simp] theorem tupleT_tup{ts:List T}:tupleT [.tup ts]=some (.tup ts):=rfl
end L2
set_option Elab.async false
set_option linter.all false
set_option maxRecDepth 100000
namespace L2
open PySem PySem.Spec PyProof.Rows
namespace Sx
open SetTable
theorem below_go{xs:Array Nat}{j:Nat}: ∀(fuel lo hi:Nat),lo≤hi→hi≤xs.size→hi - lo≤fuel→(∀i,i<lo→∀x,xs[i]? =some x→x<j)→(∀i,hi≤i→∀x,xs[i]? =some x→j≤x)→xs.toList.Pairwise (· < ·)→
  below.go xs j fuel lo hi≤xs.size∧(∀i,i<below.go xs j fuel lo hi→∀x,xs[i]? =some x→x<j)∧∀i,below.go xs j fuel lo hi≤i→∀x,xs[i]? =some x→j≤x
 |0,lo,hi,h1,h2,h3,a,b,r=>by
  unfold below.go
  have:lo=hi:=by omega
  subst this
  exact⟨h2,a,b⟩
 |fuel+1,lo,hi,h1,h2,h3,a,b,r=>by
  unfold below.go
  have up: ∀{i k:Nat} {x y:Nat},i<k→xs[i]? =some x→xs[k]? =some y→x<y:=λ{i k x y} hik hx hy=>by
   rw[←Array.getElem?_toList] at hx hy
   obtain⟨p1,q1⟩:=List.getElem?_eq_some_iff.mp hx
   obtain⟨p2,q2⟩:=List.getElem?_eq_some_iff.mp hy
   rw[←q1,←q2]
   exact List.pairwise_iff_getElem.mp r i k p1 p2 hik
  by_cases hlt:lo<hi
  ·rw[if_pos hlt]
   have hm:(lo+hi)/2<xs.size:=by omega
   have hmv:xs[(lo+hi)/2]? =some xs[(lo+hi)/2]:=Array.getElem?_eq_getElem hm
   have hg:xs.getD ((lo+hi)/2) j=xs[(lo+hi)/2]:=by simp[Array.getD,hm]
   show _∧_
   simp only[hg]
   by_cases hv:xs[(lo+hi)/2]<j
   ·simp only[if_pos hv]
    refine below_go fuel _ _ (by omega) h2 (by omega) (λi hi' x hx=> ?_) b r
    by_cases e:i=(lo+hi)/2
    ·subst e;rw[hmv] at hx;cases hx;exact hv
    ·exact Nat.lt_trans (up (show i<(lo+hi)/2 by omega) hx hmv) hv
   ·simp only[if_neg hv]
    refine below_go fuel _ _ (by omega) (by omega) (by omega) a (λi hi' x hx=> ?_) r
    by_cases e:i=(lo+hi)/2
    ·subst e;rw[hmv] at hx;cases hx;omega
    ·have:=up (show(lo+hi)/2<i by omega) hmv hx;omega
  ·rw[if_neg hlt]
   have:lo=hi:=by omega
   subst this
   exact⟨h2,a,b⟩
theorem below_ok{xs:Array Nat}{j:Nat}(r:xs.toList.Pairwise (· < ·)):below xs j≤xs.size∧(∀i,i<below xs j→∀x,xs[i]? =some x→x<j)∧∀i,below xs j≤i→∀x,xs[i]? =some x→j≤x:=
 below_go xs.size 0 xs.size (Nat.zero_le _) (Nat.le_refl _) (by omega) (λi h=>by omega) (λi h x hx=>by
  have:=(Array.getElem?_eq_some_iff.mp hx).1
  omega) r
theorem below_live{xs:Array Nat}{i j:Nat}(r:xs.toList.Pairwise (· < ·))(h:xs[i]? =some j):below xs j=i:=by
 obtain⟨h1,h2,h3⟩:=below_ok (j:=j) r
 have a: ¬i<below xs j:=λq=>Nat.lt_irrefl _ (h2 i q j h)
 refine Nat.le_antisymm (by omega) (Nat.le_of_not_lt λq=> ?_)
 -- below<i:then the item at below lies under j
 have hi:=(Array.getElem?_eq_some_iff.mp h).1
 have hb:xs[below xs j]? =some (xs[below xs j]'(by omega)):=Array.getElem?_eq_getElem (by omega)
 have h4:=h3 _ (Nat.le_refl _) _ hb
 rw[←Array.getElem?_toList] at h hb
 obtain⟨p1,q1⟩:=List.getElem?_eq_some_iff.mp hb
 obtain⟨p2,q2⟩:=List.getElem?_eq_some_iff.mp h
 have:=List.pairwise_iff_getElem.mp r _ _ p1 p2 (by omega)
 rw[q1,q2] at this
 omega
theorem has_nil(j:Nat):has #[] j=false:=by unfold has;simp
theorem slot_live{t:SetTable}{i j:Nat}(r:t.place.toList.Pairwise (· < ·))(h:t.place[i]? =some j):t.slot j=.live i:=by
 unfold slot
 rw[below_live r h]
 simp[h]
theorem slot_empty{t:SetTable}{j:Nat}(d:t.dummies= #[])(h:j∉t.place.toList):t.slot j=.empty:=by
 unfold slot
 have hn: ¬(t.place[below t.place j]? ==some j)=true:=λe=>by
  rw[beq_iff_eq,←Array.getElem?_toList] at e
  exact h (List.mem_of_getElem? e)
 simp only
 rw[if_neg hn,d,has_nil]
 rfl
noncomputable def adv(mask:Nat)(p:Probe):Probe:=
 if p.more>0 then{p with j:=p.j+1,more:=p.more - 1} else
 {p with j:=(leap mask p.i p.perturb).1,more:=runEnd mask (leap mask p.i p.perturb).1 - (leap mask p.i p.perturb).1,i:=(leap mask p.i p.perturb).1,perturb:=(leap mask p.i p.perturb).2}
noncomputable def it(mask:Nat):Nat→Probe→Probe
 |0,p=>p
 |n+1,p=>it mask n (adv mask p)
theorem it_add(mask:Nat): ∀(m n:Nat) (p:Probe),it mask (m+n) p=it mask n (it mask m p)
 |0,n,p=>by rw[Nat.zero_add];rfl
 |m+1,n,p=>by rw[show m+1+n=(m+n)+1 by omega];exact it_add mask m n (adv mask p)
theorem it_succ(mask n:Nat)(p:Probe):it mask (n+1) p=adv mask (it mask n p):=it_add mask n 1 p
noncomputable def stt(mask i perturb:Nat):Probe:={j:=i,more:=runEnd mask i - i,i,perturb,dummy:=none}
noncomputable def start(mask:Nat)(h:Int):Probe:=stt mask (bits h %(mask+1)) (bits h)
theorem start_eq(t:SetTable)(h:Int):t.probeStart h=start t.mask h:=rfl
theorem it_run{mask i perturb:Nat}: ∀k,k≤runEnd mask i - i→it mask k (stt mask i perturb)={j:=i+k,more:=runEnd mask i - i - k,i,perturb,dummy:=none}
 |0,_=>rfl
 |k+1,h=>by
  rw[it_succ,it_run k (by omega)]
  unfold adv
  rw[if_pos (by show runEnd mask i - i - k>0;omega)]
  simp only[Probe.mk.injEq,and_true]
  omega
theorem it_leap{mask i perturb:Nat}:it mask (runEnd mask i - i+1) (stt mask i perturb)=stt mask (leap mask i perturb).1 (leap mask i perturb).2:=by
 rw[it_succ,it_run _ (Nat.le_refl _)]
 unfold adv
 rw[if_neg (by show¬runEnd mask i - i - (runEnd mask i - i)>0;omega)]
 rfl
theorem run_le{mask i:Nat}:runEnd mask i - i≤9:=by unfold runEnd;split<;>omega
noncomputable def leaps(mask:Nat):Nat→Nat×Nat→Nat×Nat
 |0,q=>q
 |n+1,q=>leaps mask n (leap mask q.1 q.2)
theorem leaps_add(mask:Nat): ∀(m n:Nat) (q:Nat×Nat),leaps mask (m+n) q=leaps mask n (leaps mask m q)
 |0,n,q=>by rw[Nat.zero_add];rfl
 |m+1,n,q=>by rw[show m+1+n=(m+n)+1 by omega];exact leaps_add mask m n _
theorem leaps_perturb(mask:Nat): ∀(n:Nat) (q:Nat×Nat),(leaps mask n q).2=q.2/32^n
 |0,q=>by show q.2=_;simp
 |n+1,q=>by
  show(leaps mask n (leap mask q.1 q.2)).2=_
  rw[leaps_perturb mask n]
  show q.2/32/32^n=_
  rw[Nat.div_div_eq_div_mul,Nat.pow_succ,Nat.mul_comm]
theorem leap_le{mask i p:Nat}:(leap mask i p).1≤mask:=by
 show(i*5+1+p/32) %(mask+1)≤mask
 exact Nat.le_of_lt_succ (Nat.mod_lt _ (Nat.succ_pos _))
theorem leaps_le{mask:Nat}: ∀(n:Nat) (q:Nat×Nat),q.1≤mask→(leaps mask n q).1≤mask
 |0,q,h=>h
 |n+1,q,_=>leaps_le n _ leap_le
theorem full7: ∀i<8,∀x<8,∃n<8,(leaps 7 n (i,0)).1=x:=by decide+kernel
theorem full31: ∀i<32,∀x<32,∃n<32,(leaps 31 n (i,0)).1=x:=by decide+kernel
noncomputable def mk(mask:Nat):Prop:=mask=7∨mask=31
theorem met{mask:Nat}(hm:mk mask){i p x:Nat}(hi:i≤mask)(hp:p<2^64)(hx:x≤mask): ∃n<45,(leaps mask n (i,p)).1=x:=by
 have z:(leaps mask 13 (i,p)).2=0:=by
  rw[leaps_perturb]
  exact Nat.div_eq_of_lt (Nat.lt_of_lt_of_le hp (by decide))
 have hle:=leaps_le (mask:=mask) 13 (i,p) hi
 obtain⟨n,hn,e⟩: ∃n<32,(leaps mask n ((leaps mask 13 (i,p)).1,0)).1=x:=by
  rcases hm with rfl|rfl
  ·obtain⟨n,hn,e⟩:=full7 _ (Nat.lt_succ_of_le hle) x (Nat.lt_succ_of_le hx)
   exact⟨n,by omega,e⟩
  ·exact full31 _ (Nat.lt_succ_of_le hle) x (Nat.lt_succ_of_le hx)
 refine⟨13+n,by omega,?_⟩
 rw[leaps_add,←e]
 congr 2
 exact Prod.ext rfl z
theorem it_leaps{mask:Nat}: ∀(n:Nat) (q:Nat×Nat),∃k≤10*n,it mask k (stt mask q.1 q.2)=stt mask (leaps mask n q).1 (leaps mask n q).2
 |0,q=>⟨0,Nat.le_refl _,rfl⟩
 |n+1,q=>by
  obtain⟨k,hk,e⟩:=it_leaps n (leap mask q.1 q.2)
  refine⟨runEnd mask q.1 - q.1+1+k,by have:=run_le (mask:=mask) (i:=q.1);omega,?_⟩
  rw[it_add,it_leap,e]
  rfl
structure On(mask:Nat)(p:Probe):Prop where
 i:p.i≤mask
 lo:p.i≤p.j
 hi:p.j+p.more=runEnd mask p.i
 per:p.perturb<2^64
 dum:p.dummy=none
theorem runEnd_le{mask i:Nat}(h:i≤mask):i≤runEnd mask i∧runEnd mask i≤mask:=by unfold runEnd;split<;>omega
theorem On.stt{mask i p:Nat}(hi:i≤mask)(hp:p<2^64):On mask (stt mask i p):=⟨hi,Nat.le_refl _,by have:=runEnd_le hi;show i+(runEnd mask i - i)=runEnd mask i;omega,hp,rfl⟩
theorem On.start{mask:Nat}(h:Int):On mask (start mask h):=On.stt (Nat.le_of_lt_succ (Nat.mod_lt _ (Nat.succ_pos _))) (by
 unfold bits
 have h0:=Int.emod_nonneg h (show(2^64:Int)≠0 by decide)
 have h1:=Int.emod_lt_of_pos h (show(0:Int)<2^64 by decide)
 omega)
theorem On.adv{mask:Nat}{p:Probe}(o:On mask p):On mask (adv mask p):=by
 unfold Sx.adv
 have:=o.hi
 split
 ·exact⟨o.i,by have:=o.lo;show p.i≤p.j+1;omega,by show p.j+1+(p.more - 1)=runEnd mask p.i;omega,o.per,o.dum⟩
 ·have hl:=leap_le (mask:=mask) (i:=p.i) (p:=p.perturb)
  have:=runEnd_le hl
  refine⟨hl,Nat.le_refl _,by show(leap mask p.i p.perturb).1+(runEnd mask (leap mask p.i p.perturb).1 - _)=runEnd mask (leap mask p.i p.perturb).1;omega,?_,o.dum⟩
  show p.perturb/32<2^64
  have:=o.per
  omega
theorem On.it{mask:Nat}: ∀(n:Nat) {p:Probe},On mask p→On mask (it mask n p)
 |0,_,o=>o
 |n+1,_,o=>On.it n o.adv
theorem On.j_le{mask:Nat}{p:Probe}(o:On mask p):p.j≤mask:=by
 have:=o.hi
 have:=runEnd_le o.i
 omega
theorem it_on{mask:Nat}{p:Probe}(o:On mask p):it mask (p.more+1) p=stt mask (leap mask p.i p.perturb).1 (leap mask p.i p.perturb).2:=by
 have e: ∀k,k≤p.more→it mask k p={p with j:=p.j+k,more:=p.more - k}:=by
  intro k
  induction k with
  |zero=>intro _;rfl
  |succ k ih=>
   intro hk
   rw[it_succ,ih (by omega)]
   unfold Sx.adv
   rw[if_pos (by show p.more - k>0;omega)]
   simp only[Probe.mk.injEq,and_true,true_and]
   omega
 rw[it_succ,e _ (Nat.le_refl _)]
 unfold Sx.adv
 rw[if_neg (by show¬p.more - p.more>0;omega)]
 unfold Sx.stt
 simp[o.dum]
theorem reach{mask:Nat}(hm:mk mask){p:Probe}(o:On mask p){x:Nat}(hx:x≤mask): ∃n<10*turns mask,(it mask n p).j=x:=by
 obtain⟨n,hn,e⟩:=met hm (i:=(leap mask p.i p.perturb).1) (p:=(leap mask p.i p.perturb).2) (x:=x) leap_le (by show p.perturb/32<2^64;have:=o.per;omega) hx
 rcases hm with rfl|rfl
 ·-- a table of eight:no runs
  obtain⟨m,hm',e'⟩: ∃m≤n,it 7 m (stt 7 (leap 7 p.i p.perturb).1 (leap 7 p.i p.perturb).2)=stt 7 (leaps 7 n (leap 7 p.i p.perturb)).1 (leaps 7 n (leap 7 p.i p.perturb)).2:=by
   have q: ∀(n:Nat) (q:Nat×Nat),it 7 n (stt 7 q.1 q.2)=stt 7 (leaps 7 n q).1 (leaps 7 n q).2:=by
    intro n
    induction n with
    |zero=>intro q;rfl
    |succ n ih=>
     intro q
     have:=it_leap (mask:=7) (i:=q.1) (perturb:=q.2)
     have r0:runEnd 7 q.1 - q.1=0:=by unfold runEnd;split<;>omega
     rw[r0] at this
     rw[show n+1=0+1+n by omega,it_add,this,ih]
     rw[show 0+1+n=n+1 by omega]
     rfl
   exact⟨n,Nat.le_refl _,q n _⟩
  have hmore:p.more=0:=by
   have h1:=o.hi
   have h2:=o.lo
   have r0:runEnd 7 p.i≤p.i:=by unfold runEnd;split<;>omega
   omega
  refine⟨p.more+1+m,?_,?_⟩
  ·show _<10*(7+15);omega
  ·rw[it_add,it_on o,e'];exact e
 ·obtain⟨k,hk,e'⟩:=it_leaps (mask:=31) n (leap 31 p.i p.perturb)
  have h9:p.more≤9:=by
   have h1:=o.hi
   have h2:=o.lo
   have:=run_le (mask:=31) (i:=p.i)
   omega
  refine⟨p.more+1+k,?_,?_⟩
  ·show _<10*(31+15);omega
  ·rw[it_add,it_on o,e'];exact e
end Sx
end L2
set_option Elab.async false
set_option linter.all false
set_option maxRecDepth 100000
namespace L2
open PySem PySem.Spec PyProof.Rows
namespace Sx
open SetTable
noncomputable def Road(mask:Nat)(L:List Nat)(h:Int)(x:Nat):Prop:= ∃n<10*turns mask,(it mask n (start mask h)).j=x∧∀m<n,(it mask m (start mask h)).j∈L
theorem Road.mono{mask:Nat}{L L':List Nat}{h:Int}{x:Nat}(r:Road mask L h x)(s: ∀y∈L,y∈L'):Road mask L' h x:=
 let ⟨n,h1,h2,h3⟩:=r;⟨n,h1,h2,λm hm=>s _ (h3 m hm)⟩
structure Tab(t:SetTable)(hs:List Int):Prop where
 dum:t.dummies= #[]
 ris:t.place.toList.Pairwise (· < ·)
 len:t.place.size=hs.length
 mask:mk t.mask
 le: ∀j∈t.place.toList,j≤t.mask
 road: ∀(i j:Nat) (h:Int),t.place[i]? =some j→hs[i]? =some h→Road t.mask t.place.toList h j
theorem Tab.fits{t:SetTable}{hs:List Int}(T:Tab t hs)(hl:hs.length≤t.mask):t.fits hs.length=true:=by
 unfold SetTable.fits SetTable.fill
 rw[T.dum,T.len]
 simp
 exact hl
theorem Tab.free{t:SetTable}{hs:List Int}(T:Tab t hs)(hl:hs.length≤t.mask): ∃x≤t.mask,x∉t.place.toList:=by
 refine Classical.byContradiction λhn=> ?_
 have sub:List.range (t.mask+1) ⊆ t.place.toList:=λx hx=>by
  refine Classical.byContradiction λhc=>hn ⟨x,?_,hc⟩
  have:=List.mem_range.mp hx
  omega
 have:=List.Nodup.length_le_of_subset List.nodup_range sub
 rw[List.length_range,Array.length_toList,T.len] at this
 omega
theorem probe_go{t:SetTable}{hs:List Int}(T:Tab t hs){at':Nat→Int}{h:Int}: ∀(fuel:Nat) (p:Probe),On t.mask p→(∃n<fuel,(it t.mask n p).j∉t.place.toList)→
  ∃n,(∀m<n,(it t.mask m p).j∈t.place.toList∧∀i,t.place[i]? =some (it t.mask m p).j→at' i≠h)∧
   (((it t.mask n p).j∉t.place.toList∧probe.go t at' h fuel p=some (.empty (it t.mask n p).j none))∨
    ∃i,t.place[i]? =some (it t.mask n p).j∧at' i=h∧probe.go t at' h fuel p=some (.candidate (it t.mask n p).j i (it t.mask (n+1) p)))
 |0,p,o,⟨n,hn,_⟩=>by omega
 |fuel+1,p,o,⟨n,hn,hf⟩=>by
  by_cases hj:p.j∈t.place.toList
  ·obtain⟨i,hi⟩:=List.mem_iff_getElem?.mp hj
   rw[Array.getElem?_toList] at hi
   have sl:=slot_live T.ris hi
   have only: ∀i',t.place[i']? =some p.j→i'=i:=λi' h'=>(below_live T.ris h').symm.trans (below_live T.ris hi)
   by_cases hh:at' i=h
   ·refine⟨0,λm hm=>by omega,.inr ⟨i,hi,hh,?_⟩⟩
    unfold probe.go
    rw[sl]
    simp only[hh,beq_self_eq_true,if_true]
    rfl
   ·obtain⟨n',hn',rfl⟩: ∃n',n'<fuel∧n=n'+1:=by
     cases n with
     |zero=>exact absurd hj hf
     |succ n'=>exact⟨n',by omega,rfl⟩
    obtain⟨k,h1,h2⟩:=probe_go T fuel (adv t.mask p) o.adv ⟨n',hn',hf⟩
    have eq:probe.go t at' h (fuel+1) p=probe.go t at' h fuel (adv t.mask p):=by
     rw[probe.go,sl]
     simp only[beq_iff_eq,hh,if_false]
     rfl
    refine⟨k+1,λm hm=> ?_,?_⟩
    ·cases m with
     |zero=>exact⟨hj,λi' h'=>by rw[only i' h'];exact hh⟩
     |succ m=>exact h1 m (by omega)
    ·rw[eq];exact h2
  ·refine⟨0,λm hm=>by omega,.inl ⟨hj,?_⟩⟩
   unfold probe.go
   rw[slot_empty T.dum hj]
   simp only[o.dum]
   rfl
theorem probe_ok{t:SetTable}{hs:List Int}(T:Tab t hs)(hl:hs.length≤t.mask){at':Nat→Int}{h:Int}(p:Probe)(o:On t.mask p):
  ∃n,(∀m<n,(it t.mask m p).j∈t.place.toList∧∀i,t.place[i]? =some (it t.mask m p).j→at' i≠h)∧
   (((it t.mask n p).j∉t.place.toList∧t.probe at' h p=some (.empty (it t.mask n p).j none))∨
    ∃i,t.place[i]? =some (it t.mask n p).j∧at' i=h∧t.probe at' h p=some (.candidate (it t.mask n p).j i (it t.mask (n+1) p))):=by
 obtain⟨x,hx,hf⟩:=T.free hl
 obtain⟨n,hn,e⟩:=reach T.mask o hx
 exact probe_go T _ p o ⟨n,hn,by rw[e];exact hf⟩
theorem ins_get{α:Type}{xs:List α}{p:Nat}{x:α}(hp:p≤xs.length)(i:Nat):(xs.take p++x::xs.drop p)[i]? =if i<p then xs[i]? else if i=p then some x else xs[i - 1]? :=by
 have hl:(xs.take p).length=p:=by rw[List.length_take];omega
 by_cases h1:i<p
 ·rw[if_pos h1,List.getElem?_append_left (by omega),List.getElem?_take,if_pos h1]
 ·rw[if_neg h1,List.getElem?_append_right (by omega),hl]
  by_cases h2:i=p
  ·rw[if_pos h2,h2,Nat.sub_self];rfl
  ·rw[if_neg h2]
   obtain⟨k,rfl⟩: ∃k,i=p+k+1:=⟨i - p - 1,by omega⟩
   rw[show p+k+1 - p=k+1 by omega,List.getElem?_cons_succ,List.getElem?_drop]
   rfl
theorem ins_ris{ps:List Nat}{j p:Nat}(r:ps.Pairwise (· < ·))(hp:p≤ps.length)(h1: ∀i,i<p→∀x,ps[i]? =some x→x<j)(h2: ∀i,p≤i→∀x,ps[i]? =some x→j<x):(ps.take p++j::ps.drop p).Pairwise (· < ·):=by
 rw[List.pairwise_append,List.pairwise_cons]
 have t1: ∀x∈ps.take p,x<j:=λx hx=>by
  obtain⟨i,hi⟩:=List.mem_iff_getElem?.mp hx
  rw[List.getElem?_take] at hi
  split at hi
  ·exact h1 i (by assumption) x hi
  ·cases hi
 have t2: ∀x∈ps.drop p,j<x:=λx hx=>by
  obtain⟨i,hi⟩:=List.mem_iff_getElem?.mp hx
  rw[List.getElem?_drop] at hi
  exact h2 _ (by omega) x hi
 refine⟨List.Pairwise.sublist (List.take_sublist _ _) r,⟨t2,List.Pairwise.sublist (List.drop_sublist _ _) r⟩,λa ha b hb=> ?_⟩
 rcases List.mem_cons.mp hb with rfl|hb
 ·exact t1 a ha
 ·exact Nat.lt_trans (t1 a ha) (t2 b hb)
theorem Tab.put{t:SetTable}{hs:List Int}(T:Tab t hs){j:Nat}{h:Int}(hj:j≤t.mask)(hn:j∉t.place.toList)(hr:Road t.mask t.place.toList h j):
  (t.put j).1.mask=t.mask∧(t.put j).2≤hs.length∧Tab (t.put j).1 (hs.take (t.put j).2++h::hs.drop (t.put j).2)∧(t.put j).1.led=t.led∧(t.put j).1.plain=t.plain:=by
 obtain⟨b1,b2,b3⟩:=below_ok (j:=j) T.ris
 have hp:below t.place j≤hs.length:=by rw[←T.len];exact b1
 have hpl:(insertAt t.place (below t.place j) j).toList=t.place.toList.take (below t.place j)++j::t.place.toList.drop (below t.place j):=SetTable.toList_insertAt _ _ _
 have mem: ∀x,x∈(insertAt t.place (below t.place j) j).toList↔x=j∨x∈t.place.toList:=λx=>by
  rw[hpl]
  have:=List.take_append_drop (below t.place j) t.place.toList
  constructor
  ·intro hx
   rcases List.mem_append.mp hx with q|q
   ·exact .inr (List.mem_of_mem_take q)
   ·rcases List.mem_cons.mp q with q|q
    ·exact .inl q
    ·exact .inr (List.mem_of_mem_drop q)
  ·rintro(rfl|q)
   ·simp
   ·rw[←this] at q
    rcases List.mem_append.mp q with q|q
    ·exact List.mem_append_left _ q
    ·exact List.mem_append_right _ (List.mem_cons_of_mem _ q)
 have dm:has t.dummies j=false:=by rw[T.dum];exact has_nil j
 have pl:(t.put j).1.place=insertAt t.place (below t.place j) j:=rfl
 have gt: ∀i,(insertAt t.place (below t.place j) j)[i]? =if i<below t.place j then t.place[i]? else if i=below t.place j then some j else t.place[i - 1]? :=λi=>by
  rw[←Array.getElem?_toList,hpl,ins_get (by rw[Array.length_toList];exact b1)]
  simp only[Array.getElem?_toList]
 refine⟨rfl,hp,⟨?_,?_,?_,T.mask,λx hx=> ?_,λi x h' hx hh=> ?_⟩,rfl,rfl⟩
 ·show(if has t.dummies j=true then _ else t.dummies)= #[]
  rw[dm,if_neg (by decide),T.dum]
 ·rw[pl,hpl]
  refine ins_ris T.ris (by rw[Array.length_toList];exact b1) (λi hi x hx=>b2 i hi x (by rw[←Array.getElem?_toList];exact hx)) λi hi x hx=> ?_
  have h3:=b3 i hi x (by rw[←Array.getElem?_toList];exact hx)
  have:x≠j:=λe=>hn (e▸List.mem_of_getElem? hx)
  omega
 ·rw[pl,←Array.length_toList,hpl]
  have:=T.len
  show _=(hs.take (below t.place j)++h::hs.drop (below t.place j)).length
  simp only[List.length_append,List.length_cons,List.length_take,List.length_drop,Array.length_toList]
  omega
 ·rcases(mem x).mp hx with rfl|q
  ·exact hj
  ·exact T.le x q
 ·have up: ∀y∈t.place.toList,y∈(t.put j).1.place.toList:=λy hy=>(mem y).mpr (.inr hy)
  have hx:(insertAt t.place (below t.place j) j)[i]? =some x:=hx
  have hh:(hs.take (below t.place j)++h::hs.drop (below t.place j))[i]? =some h':=hh
  rw[gt] at hx
  rw[ins_get hp] at hh
  show Road t.mask _ h' x
  by_cases i1:i<below t.place j
  ·rw[if_pos i1] at hx hh
   exact(T.road i x h' hx hh).mono up
  ·rw[if_neg i1] at hx hh
   by_cases i2:i=below t.place j
   ·rw[if_pos i2] at hx hh
    cases hx
    cases hh
    exact hr.mono up
   ·rw[if_neg i2] at hx hh
    exact(T.road _ x h' hx hh).mono up
end Sx
end L2
set_option Elab.async false
set_option linter.all false
set_option maxRecDepth 100000
namespace L2
open PySem PySem.Spec PyProof.Rows
namespace Sx
open SetTable
end Sx
end L2
set_option Elab.async false
set_option linter.all false
set_option maxRecDepth 100000
namespace L2
open PySem PySem.Spec PyProof.Rows
namespace Sx
open SetTable
section
variable {prog:Program} {w:World}
noncomputable abbrev kd(prog:Program)(w:World):KeyKind prog w Int:=intKind prog w
variable {A:Around} {E:Value→Shared→Prop} {s:Shared} {S:Addr} {es:List (List Int×Addr)} {o:Obj} {ep:Nat} {t:SetTable}
end
end Sx
end L2
set_option Elab.async false
set_option linter.all false
set_option maxRecDepth 100000
namespace L2
open PySem PySem.Spec PyProof.Rows
namespace Sx
open SetTable
section
variable {prog:Program} {w:World} {A:Around} {E:Value→Shared→Prop} {s:Shared} {S:Addr}
theorem hbv_int{n:Nat}{v:Value}(hv: ∃k:Int,(kd prog w).is k v=true):hashByValue n v=pure true:=by
 obtain⟨k,hk⟩:=hv
 cases v with
 |int i t=>cases n<;>simp[hashByValue]
 |_=>exact absurd hk (by simp[kd,intKind,Value.isInt])
theorem key_at{h h':Heap}{k:List Int}{a:Addr}(x:IsTupleKey (kd prog w) h k a)(e: ∀o,h.get? a=some o→h'.get? a=some o):IsTupleKey (kd prog w) h' k a:=
 let ⟨o,items,n,ho,r⟩:=x;⟨o,items,n,e o ho,r⟩
theorem map_ins{α β:Type}(f:α→β)(xs:List α)(p:Nat)(x:α):(SetTable.insertAt (xs.map f).toArray p (f x))=((xs.take p++x::xs.drop p).map f).toArray:=by
 apply Array.ext'
 rw[SetTable.toList_insertAt]
 simp
theorem ins_perm{α:Type}(xs:List α)(p:Nat)(x:α):(xs.take p++x::xs.drop p).Perm (x::xs):=by
 refine List.perm_middle.trans (List.Perm.cons _ ?_)
 rw[List.take_append_drop]
theorem stored{o:Obj}{es es':Array (Int×Value)}{ep:Nat}{t t':SetTable}{h:Heap}(ho:h.get? S=some o)(hd:o.data=.set es ep t):
  (h.update S (Obj.putSet es' t')).get? S=some {o with data:=.set es' (ep+1) t'}:=by
 have:=Heap.get?_update_self (Obj.putSet es' t') ho (by rw[putSet_of es' t' hd];rfl)
 rw[putSet_of es' t' hd] at this
 exact this
end
end Sx
end L2
set_option Elab.async false
set_option linter.all false
set_option maxRecDepth 100000
namespace L2
open PySem PySem.Spec PyProof.Rows
namespace Sx
open SetTable
section
variable {prog:Program} {w:World} {A:Around} {E:Value→Shared→Prop} {s:Shared} {S:Addr}
noncomputable def newS(w:World):Obj:={cls:=.type "set",dict:=none,data:=.set #[] 0 (.fresh 0 0 (!w.params.followText "set-order"))}
theorem new_set(a:Value){Q₁:Value→Shared→Prop}(h:Q₁ (.ref s.heap.objs.size) {s with heap:=s.heap.push (newS w)}):
  codeAny (model prog w) A (.call (.builtin "set.__new__") ⟨[.type "set",a],[]⟩) (wants Q₁ E) s:=by
 refine codeAny_of_tree ?_
 show wpAny _ A.in1 (checkBuiltinCall "set.__new__" ⟨[.type "set",a],[]⟩>>=λ_=>again (.builtin "set.__new__" ⟨[.type "set",a],[]⟩)) _ _ s
 refine wpAny_bind (wpAny_of_eq (F.newCall_set_1 a) (wpAny_pure ⟨plainId_quiet F.plain_set_new _,codeAny_builtin F.entry_set_new ?_⟩))
 rw[Around.under_plainId F.plain_set_new _]
 unfold Builtin.«set.__new__» Builtin.Frozenset.newClass
 have hsub:=sub_set_self
 obtain⟨hp,g,d,tk,os⟩:=s
 dsimp only
 wp_walk
 refine wpAny_askSetting (wpAny_pure ?_)
 dsimp only
 simp only[newObj]
 exact wpAny_bind (wpAny_alloc (wpAny_pure (wpAny_pure h)))
section
variable {R:Result→Shared→Prop} {I:Addr} {fp wr:List Addr} {G:Array GenState→Array GenState→Prop} {n:Nat} {P:Nat→Value→Prop} {St:Nat→Shared→Prop}
end
end
end Sx
end L2
set_option Elab.async false
set_option linter.all false
set_option maxRecDepth 100000
namespace L2
open PySem PySem.Spec PyProof.Rows
namespace Sx
open SetTable
section
variable {prog:Program} {w:World} {A:Around} {E:Value→Shared→Prop} {s:Shared}
end
end Sx
end L2
set_option Elab.async false
set_option linter.all false
set_option maxRecDepth 100000
namespace L2
open PySem PySem.Spec PyProof.Rows
namespace Sx
open SetTable
theorem own_si:Manifest.owners.lookup (String.ofList "rotareti_tes".toList.reverse)=some Manifest.sig_set_iterator:=by kernel_rfl
theorem slot_si_next:Slot "set_iterator" "__next__" "set_iterator.__next__":=
 Slot.of (owner:="set_iterator") (n:="__next__") (by rw[typeLookup_type,builtinLookup_eq_fast];kernel_rfl) (by decide+kernel) (by decide+kernel) (by decide+kernel) (Or.inl (by decide+kernel)) (by rw[isSubtype_type];kernel_rfl)
theorem entry_si_next:entryFor table "set_iterator.__next__"=some Builtin.«set_iterator.__next__»:=entryFor_of_tree (by kernel_rfl)
theorem args_si_next(a:Value):argsOk "set_iterator.__next__" ⟨[a],[]⟩:=by
 unfold argsOk;rw[signature?_of (id:="set_iterator.__next__") (n:=['_', '_', 't', 'x', 'e', 'n', '_', '_']) (o:="rotareti_tes".toList) (by kernel_rfl) own_si];kernel_rfl
theorem slot_si_iter:Slot "set_iterator" "__iter__" "set_iterator.__iter__":=
 Slot.of (owner:="set_iterator") (n:="__iter__") (by rw[typeLookup_type,builtinLookup_eq_fast];kernel_rfl) (by decide+kernel) (by decide+kernel) (by decide+kernel) (Or.inl (by decide+kernel)) (by rw[isSubtype_type];kernel_rfl)
theorem args_si_iter(a:Value):argsOk "set_iterator.__iter__" ⟨[a],[]⟩:=by
 unfold argsOk;rw[signature?_of (id:="set_iterator.__iter__") (n:=['_', '_', 'r', 'e', 't', 'i', '_', '_']) (o:="rotareti_tes".toList) (by kernel_rfl) own_si];kernel_rfl
theorem entry_si_iter:entryFor table "set_iterator.__iter__"=some Builtin.«dict_keyiterator.__iter__»:=
 entryFor_alias (id':="dict_keyiterator.__iter__") (by kernel_rfl) (by first|rfl|decide+kernel|(unfold String.splitOn;simp+decide [String.splitOnAux])) (by decide+kernel) (by kernel_rfl)
theorem entry_set_iter:entryFor table "set.__iter__"=some Builtin.«frozenset.__iter__»:=entryFor_alias (id':="frozenset.__iter__") (by kernel_rfl) rfl (by decide+kernel) (by kernel_rfl)
end Sx
end L2
set_option Elab.async false
set_option linter.all false
set_option maxRecDepth 100000
namespace L2
open PySem PySem.Spec PyProof.Rows
namespace Sx
open SetTable
theorem pick_perm{α:Type}(next:Nat→Nat): ∀(fuel k:Nat) (left:List α) (out:Array α),left.length=fuel→(pickOrder.go next fuel k left out).toList.Perm (out.toList++left)
 |0,k,left,out,h=>by
  unfold pickOrder.go
  rw[List.length_eq_zero_iff.mp h,List.append_nil]
 |fuel+1,k,left,out,h=>by
  have hlt:next k %left.length<left.length:=Nat.mod_lt _ (by omega)
  unfold pickOrder.go
  rw[List.getElem?_eq_getElem hlt]
  simp only
  refine(pick_perm next fuel (k+1) _ _ (by rw[List.length_eraseIdx,if_pos hlt];omega)).trans ?_
  rw[Array.toList_push,List.append_assoc]
  refine List.Perm.append_left _ ?_
  rw[List.eraseIdx_eq_take_drop_succ]
  show(left[next k %left.length]::(left.take _++left.drop _)).Perm left
  refine List.perm_middle.symm.trans (List.Perm.of_eq ?_)
  rw[List.getElem_cons_drop,List.take_append_drop]
noncomputable def walkV(w:World)(S:Addr)(ep:Nat)(vs:List (Int×Value)):List Value:=(if w.params.followText "set-order" then(pickOrder (w.params.setOrder S ep) vs.toArray).toList else vs).map (·.2)
theorem walk_perm(w:World)(S:Addr)(ep:Nat)(vs:List (Int×Value)):(walkV w S ep vs).Perm (vs.map (·.2)):=by
 unfold walkV
 split
 ·refine List.Perm.map _ ?_
  have:=pick_perm (w.params.setOrder S ep) vs.toArray.size 0 vs.toArray.toList #[] (by simp)
  exact this
 ·exact List.Perm.refl _
structure SW(w:World)(h:Heap)(S:Addr)(vs:List (Int×Value))(o:Obj)(ep:Nat)(t:SetTable):Prop where
 at':h.get? S=some o
 cls:o.cls=.type "set"
 data:o.data=.set vs.toArray ep t
 fit:t.fits vs.toArray.size=true
 ris:t.place.toList.Pairwise (· < ·)
 plain:t.plain=true
 led:t.led= !w.params.followText "set-order"
theorem SW.len{w:World}{h:Heap}{S:Addr}{vs:List (Int×Value)}{o:Obj}{ep:Nat}{t:SetTable}(x:SW w h S vs o ep t):t.place.size=vs.length:=by
 have:=x.fit
 unfold SetTable.fits at this
 simp only[Bool.and_eq_true,beq_iff_eq,List.size_toArray] at this
 exact this.1
noncomputable def slotAt(t:SetTable)(i:Nat):Nat:=if i=0 then 0 else(t.place[i - 1]?).getD 0+1
theorem below_slot{t:SetTable}(r:t.place.toList.Pairwise (· < ·)){i:Nat}(hi:i≤t.place.size):below t.place (slotAt t i)=i:=by
 obtain⟨h1,h2,h3⟩:=below_ok (j:=slotAt t i) r
 have lt: ∀{a b x y:Nat},a<b→t.place[a]? =some x→t.place[b]? =some y→x<y:=λ{a b x y} hab hx hy=>by
  rw[←Array.getElem?_toList] at hx hy
  obtain⟨p1,q1⟩:=List.getElem?_eq_some_iff.mp hx
  obtain⟨p2,q2⟩:=List.getElem?_eq_some_iff.mp hy
  rw[←q1,←q2]
  exact List.pairwise_iff_getElem.mp r a b p1 p2 hab
 cases i with
 |zero=>
  refine Nat.eq_zero_of_not_pos λhp=> ?_
  have hb:t.place[0]? =some (t.place[0]'(by omega)):=Array.getElem?_eq_getElem (by omega)
  have:=h2 0 hp _ hb
  unfold slotAt at this
  simp at this
 |succ i=>
  have hb:t.place[i]? =some (t.place[i]'(by omega)):=Array.getElem?_eq_getElem (by omega)
  have hs:slotAt t (i+1)=t.place[i]'(by omega)+1:=by
   unfold slotAt
   rw[if_neg (by omega),Nat.add_sub_cancel,hb]
   rfl
  refine Nat.le_antisymm (Nat.le_of_not_lt λq=> ?_) (Nat.le_of_not_lt λq=> ?_)
  ·-- the item at i+1 lies under the slot
   have hb2:t.place[i+1]? =some (t.place[i+1]'(by omega)):=Array.getElem?_eq_getElem (by omega)
   have a:=h2 (i+1) q _ hb2
   have b:=lt (Nat.lt_succ_self i) hb hb2
   omega
  ·have a:=h3 i (by omega) _ hb
   omega
section
variable {prog:Program} {w:World} {A:Around} {E:Value→Shared→Prop} {s:Shared} {S:Addr} {vs:List (Int×Value)} {o:Obj} {ep:Nat} {t:SetTable}
theorem wp_next(x:SW w s.heap S vs o ep t){slot given:Nat}(hs:w.params.followText "set-order"=false→slot=slotAt t given)(hg:given≤vs.length){Q:Option (Value×Nat)→Shared→Prop}
  (h1: ∀v,(walkV w S ep vs)[given]? =some v→∀sl,(w.params.followText "set-order"=false→sl=slotAt t (given+1))→Q (some (v,sl)) s) (h2:(walkV w S ep vs)[given]? =none→Q none s):
  wpAny (model prog w) A (setNext S slot given ep) Q E s:=by
 unfold setNext setsByText
 refine wpAny_bind (wpAny_setState_of x.at' x.data x.fit ?_)
 dsimp only
 refine wpAny_bind (wpAny_bind (wpAny_askSetting (wpAny_pure ?_)))
 dsimp only
 have hbt:(model prog w).w.params.followText "set-order"=w.params.followText "set-order":=rfl
 cases hb:w.params.followText "set-order" with
 |true=>
  show wpAny _ _ (if (model prog w).w.params.followText "set-order"=true then _ else _) _ _ _
  rw[hbt,hb,if_pos rfl]
  simp only[bne_self_eq_false,Bool.false_eq_true,if_false]
  refine wpAny_bind ?_
  unfold setWalk setsByText
  refine wpAny_bind (wpAny_setState_of x.at' x.data x.fit ?_)
  dsimp only
  refine wpAny_bind (wpAny_bind (wpAny_askSetting (wpAny_pure ?_)))
  dsimp only
  rw[hbt,hb,if_pos rfl]
  refine wpAny_bind (wpAny_askSetting (wpAny_pure (wpAny_pure ?_)))
  have e:(walkV w S ep vs)[given]? =((pickOrder (w.params.setOrder S ep) vs.toArray)[given]?).map (·.2):=by
   unfold walkV
   rw[hb,if_pos rfl,List.getElem?_map,Array.getElem?_toList]
  cases hq:(pickOrder (w.params.setOrder S ep) vs.toArray)[given]? with
  |none=>
   rw[hq] at e
   have:=h2 e
   show Q (((pickOrder (w.params.setOrder S ep) vs.toArray)[given]?).map λe=>(e.2,slot)) s
   rw[hq]
   exact this
  |some p=>
   rw[hq] at e
   have:=h1 p.2 e slot (λz=>by rw[hb] at z;cases z)
   show Q (((pickOrder (w.params.setOrder S ep) vs.toArray)[given]?).map λe=>(e.2,slot)) s
   rw[hq]
   exact this
 |false=>
  have hsl:=hs hb
  show wpAny _ _ (if (model prog w).w.params.followText "set-order"=true then _ else _) _ _ _
  rw[hbt,hb,if_neg (by decide)]
  show wpAny _ _ (if (!t.plain&&decide (vs.toArray.size>1))=true then _ else _) _ _ _
  rw[x.plain]
  simp only[Bool.not_true,Bool.false_and,Bool.false_eq_true,if_false]
  refine wpAny_bind ?_
  show wpAny _ _ (if (!t.led&& !vs.toArray.isEmpty)=true then unsupported "set:maker-not-led" else pure ()) _ _ _
  rw[x.led,hb]
  simp only[Bool.not_false,Bool.not_true,Bool.false_and,Bool.false_eq_true,if_false]
  refine wpAny_pure (wpAny_pure ?_)
  rw[hsl,below_slot x.ris (by rw[x.len];exact hg)]
  have e:(walkV w S ep vs)[given]? =(vs[given]?).map (·.2):=by
   unfold walkV
   rw[hb,if_neg (by decide),List.getElem?_map]
  rw[List.getElem?_toArray]
  cases hq:vs[given]? with
  |none=>
   rw[hq] at e
   exact h2 e
  |some p=>
   rw[hq] at e
   have hl:=(List.getElem?_eq_some_iff.mp hq).1
   have hp:t.place[given]? =some (t.place[given]'(by rw[x.len];exact hl)):=Array.getElem?_eq_getElem _
   rw[hp]
   refine h1 p.2 e _ λ_=> ?_
   unfold slotAt
   rw[if_neg (by omega),Nat.add_sub_cancel,hp]
   rfl
noncomputable def siObj(slot i:Nat)(S:Addr)(n ep:Nat):Obj:={cls:=.type "set_iterator",data:=.fields #[.int slot 0,.int i 0,.ref S,.int n 0,.int ep 0]}
noncomputable def IsSI(h:Heap)(I:Addr)(slot i:Nat)(S:Addr)(n ep:Nat):Prop:= ∃o,h.get? I=some o∧o.cls=.type "set_iterator"∧o.data=.fields #[.int slot 0,.int i 0,.ref S,.int n 0,.int ep 0]
theorem IsSI.typeIs{I:Addr}{slot i n:Nat}(x:IsSI s.heap I slot i S n ep):s.TypeIs (.ref I) "set_iterator":=let ⟨o,ho,hc,_⟩:=x;⟨o,ho,hc⟩
theorem si_item{I:Addr}{slot i:Nat}(x:SW w s.heap S vs o ep t)(y:IsSI s.heap I slot i S vs.length ep)(hSI:S≠I)(hs:w.params.followText "set-order"=false→slot=slotAt t i)(hi:i≤vs.length){v:Value}(hv:(walkV w S ep vs)[i]? =some v){Q:Option Value→Shared→Prop}
  (hQ: ∀h' sl,IsSI h' I sl (i+1) S vs.length ep→(w.params.followText "set-order"=false→sl=slotAt t (i+1))→Heap.SameBut I s.heap h'→Q (some v) {s with heap:=h'}):wpAny (model prog w) A (pyNext (.ref I)) Q E s:=by
 obtain⟨ob,ho,hc,hd⟩:=id y
 unfold pyNext
 refine wpAny_bind (wpAny_attempt (wpAny_callSpecial?_slot (name:=Str.ofString "__next__") y.typeIs slot_si_next (wpAny_call_entry slot_si_next y.typeIs entry_si_next ?_ (args_si_next _))))
 unfold Builtin.«set_iterator.__next__»
 refine wpAny_bind (wpAny_of_eq (a:=(Value.ref I,[])) rfl ?_)
 refine wpAny_bind (wpAny_fieldsOf ho hd ?_)
 dsimp only
 refine wpAny_bind (wpAny_setEntries_of x.at' x.data x.fit ?_)
 simp only[List.size_toArray,bne_self_eq_false,Bool.false_eq_true,if_false]
 refine wpAny_bind ?_
 simp only[Int.toNat_natCast]
 refine wp_next x hs hi (λv' hv' sl hsl=> ?_) λhn=>by rw[hv] at hn;cases hn
 rw[hv] at hv'
 cases hv'
 dsimp only
 refine wpAny_bind (wpAny_setField ho hd (by simp) ?_)
 have g1:=Heap.get?_update_self (Obj.mapFields (·.setIfInBounds 0 (rawInt (sl:Int)))) ho (Obj.isFreed_of_fields (Obj.data_mapFields hd _))
 have d1:=Obj.data_mapFields hd (·.setIfInBounds 0 (rawInt (sl:Int)))
 refine wpAny_bind (wpAny_setField g1 d1 (by simp) ?_)
 have g2:=Heap.get?_update_self (Obj.mapFields (·.setIfInBounds 1 (rawInt ((i:Int)+1)))) g1 (Obj.isFreed_of_fields (Obj.data_mapFields d1 _))
 refine wpAny_pure ⟨v,rfl,wpAny_pure (hQ _ sl ⟨_,g2,?_,?_⟩ hsl ((Heap.SameBut.update ..).trans (Heap.SameBut.update ..)))⟩
 ·rw[Obj.cls_mapFields,Obj.cls_mapFields];exact hc
 ·rw[Obj.data_mapFields d1];simp[rawInt]
theorem si_end{I:Addr}{slot i:Nat}(hh:A.handled=none)(x:SW w s.heap S vs o ep t)(y:IsSI s.heap I slot i S vs.length ep)(hs:w.params.followText "set-order"=false→slot=slotAt t i)(hi:i=vs.length){Q:Option Value→Shared→Prop}
  (hQ: ∀h',Heap.ExtBut I s.heap h'→Q none {s with heap:=h'}):wpAny (model prog w) A (pyNext (.ref I)) Q E s:=by
 obtain⟨ob,ho,hc,hd⟩:=id y
 have hw:(walkV w S ep vs)[i]? =none:=by
  rw[List.getElem?_eq_none_iff,(walk_perm w S ep vs).length_eq,List.length_map,hi]
  exact Nat.le_refl _
 unfold pyNext
 refine wpAny_bind (wpAny_attempt (wpAny_callSpecial?_slot (name:=Str.ofString "__next__") y.typeIs slot_si_next (wpAny_call_entry slot_si_next y.typeIs entry_si_next ?_ (args_si_next _))))
 unfold Builtin.«set_iterator.__next__»
 refine wpAny_bind (wpAny_of_eq (a:=(Value.ref I,[])) rfl ?_)
 refine wpAny_bind (wpAny_fieldsOf ho hd ?_)
 dsimp only
 refine wpAny_bind (wpAny_setEntries_of x.at' x.data x.fit ?_)
 simp only[List.size_toArray,bne_self_eq_false,Bool.false_eq_true,if_false]
 refine wpAny_bind ?_
 simp only[Int.toNat_natCast]
 refine wp_next x hs (by omega) (λv' hv' sl hsl=>by rw[hw] at hv';cases hv') λhn=> ?_
 dsimp only
 refine wpAny_bind (wpAny_setField ho hd (by simp) ?_)
 show wpAny _ _ (newExc (.type "StopIteration") []>>=_) _ _ _
 refine wpAny_bind ?_
 simp only[newExc,newTuple]
 refine wpAny_bind (wpAny_newObj_type ?_ (by size_fits))
 refine wpAny_bind (m:=firstArgMember _ _) (wpAny_of_eq (a:=Value.none) (by first|rfl|(simp only[firstArgMember];rfl)) ?_)
 refine wpAny_newObj_type ?_ (by size_fits)
 simp only[raiseNew]
 refine wpAny_bind (wpAny_handled ?_)
 rw[show A.in1.handled=none from hh]
 refine wpAny_bind (wpAny_pure (wpAny_throw ?_))
 refine wpAny_bind (wpAny_isInstance (T:="StopIteration") (b:=true) ⟨_,Heap.get?_push_size _ rfl,rfl⟩ isSubtype_stop ?_)
 exact wpAny_pure (hQ _ (((Heap.SameBut.update ..).extBut.push _).push _))
end
end Sx
end L2
set_option Elab.async false
set_option linter.all false
set_option maxRecDepth 100000
namespace L2
open PySem PySem.Spec PyProof.Rows
namespace Sx
open SetTable
section
variable {prog:Program} {w:World} {A:Around} {E:Value→Shared→Prop} {s:Shared} {S:Addr} {vs:List (Int×Value)} {o:Obj} {ep:Nat} {t:SetTable}
theorem SW.typeIs(x:SW w s.heap S vs o ep t):s.TypeIs (.ref S) "set":=⟨o,x.at',x.cls⟩
theorem SW.keep{h h':Heap}(x:SW w h S vs o ep t)(k: ∀o,h.get? S=some o→h'.get? S=some o):SW w h' S vs o ep t:=⟨k _ x.at',x.cls,x.data,x.fit,x.ris,x.plain,x.led⟩
theorem iter_set(x:SW w s.heap S vs o ep t){Q:Value→Shared→Prop}(h:Q (.ref s.heap.objs.size) {s with heap:=s.heap.push (siObj 0 0 S vs.length ep)}):wpAny (model prog w) A (pyIter (.ref S)) Q E s:=by
 refine wpAny_pyIter_slot x.typeIs F.slot_set_iter (wpAny_call_entry F.slot_set_iter x.typeIs entry_set_iter ?_ (F.args_set_iter_1 _))
 unfold Builtin.«frozenset.__iter__»
 refine wpAny_bind ?_
 unfold Builtin.Frozenset.slot0
 refine wpAny_bind (wpAny_of_eq (a:=(Value.ref S,[])) rfl ?_)
 unfold Builtin.Frozenset.addrOf
 refine wpAny_pure ?_
 unfold Builtin.Frozenset.sizeOf
 refine wpAny_bind (wpAny_bind (wpAny_setEntries_of x.at' x.data x.fit (wpAny_pure ?_)))
 refine wpAny_bind ?_
 unfold setDrawn setsByText
 refine wpAny_bind (wpAny_setState_of x.at' x.data x.fit ?_)
 dsimp only
 refine wpAny_bind (wpAny_bind (wpAny_askSetting (wpAny_pure (wpAny_pure ?_))))
 have hdr:(!((model prog w).w.params.followText "set-order")&&(!t.plain&&decide (vs.toArray.size>1)))=false:=by rw[x.plain];simp
 show wpAny _ _ (if (!((model prog w).w.params.followText "set-order")&&(!t.plain&&decide (vs.toArray.size>1)))=true then _ else _) _ _ _
 rw[hdr]
 simp only[Bool.false_eq_true,if_false]
 refine wpAny_bind (wpAny_pure ?_)
 refine wpAny_bind (wpAny_setEpoch_of x.at' x.data x.fit ?_)
 refine wpAny_bind (wpAny_newObj_type (wpAny_pure ⟨_,rfl,"set_iterator",_,⟨_,Heap.get?_push_size _ rfl,rfl⟩,slot_si_next.lookup,?_⟩))
 simpa[rawInt,siObj] using h
theorem hint_set(x:SW w s.heap S vs o ep t){Q:Bool→Shared→Prop}(h:Q false s):wpAny (model prog w) A (Builtin.List.listLengthHint (.ref S)) Q E s:=by
 unfold Builtin.List.listLengthHint
 refine wpAny_bind (wpAny_specialOf x.typeIs F.slot_set_len.lookup ?_)
 dsimp only
 have sp:splitId "set.__len__"=some ("set","__len__"):=by kernel_rfl
 rw[sp]
 dsimp only
 refine wpAny_bind (wpAny_isInstance x.typeIs sub_set_self ?_)
 simp only[Bool.not_true,Bool.false_eq_true,if_false]
 show wpAny _ _ (if true=true then _ else _) _ _ _
 rw[if_pos rfl]
 refine wpAny_bind (wpAny_typeOf x.typeIs ?_)
 exact wpAny_pure h
noncomputable def St(prog:Program)(w:World)(I S:Addr)(vs:List (Int×Value))(o:Obj)(ep:Nat)(t:SetTable)(i:Nat)(s:Shared):Prop:=
 i≤vs.length∧SW w s.heap S vs o ep t∧∃slot,IsSI s.heap I slot i S vs.length ep∧(w.params.followText "set-order"=false→slot=slotAt t i)
theorem walks(hh:A.handled=none){I:Addr}(hSI:S≠I):WalksS prog w A I [I,S] [I] (λa b=>b=a) vs.length (λi v=>(walkV w S ep vs)[i]? =some v) (St prog w I S vs o ep t) where
 sub:=λb hb=>by
  rw[List.mem_singleton.mp hb]
  exact List.mem_cons_self
 grefl:=λa=>rfl
 gtrans:=λa b c x y=>y.trans x
 frame:=λi s h' tk ⟨hi,x,sl,⟨ob,ho,r⟩,z⟩ _ k=>⟨hi,x.keep λo e=>k S (by simp) o e,sl,⟨ob,k I (by simp) ob ho,r⟩,z⟩
 item:=λi s Q E hi ⟨hi',x,sl,y,z⟩ hQ=>by
  have hlt:i<(walkV w S ep vs).length:=by rw[(walk_perm w S ep vs).length_eq,List.length_map];exact hi
  refine si_item x y hSI z hi' (List.getElem?_eq_getElem hlt) λh' sl' y' z' sb=>hQ _ _ (List.getElem?_eq_getElem hlt) ⟨hi,x.keep λo e=>(sb.2 S hSI).trans e,sl',y',z'⟩ ⟨λb ob hb e=>(sb.2 b (by simpa using hb)).trans e,rfl,rfl,rfl,Nat.le_refl _⟩
 done:=λs Q E ⟨hi',x,sl,y,z⟩ hQ=>si_end hh x y z rfl λh' sb=>hQ _ ⟨λb ob hb e=>sb b ob (by simpa using hb) e,rfl,rfl,rfl,Nat.le_refl _⟩
 self:=λi s Q E ⟨hi',x,sl,y,z⟩ hQ=>by
  refine wpAny_pyIter_slot y.typeIs slot_si_iter (wpAny_call_entry slot_si_iter y.typeIs entry_si_iter ?_ (args_si_iter _))
  show wpAny _ _ (ret (.ref I)) _ _ s
  exact wpAny_pure ⟨_,rfl,"set_iterator",_,y.typeIs,slot_si_next.lookup,hQ⟩
theorem collect_set(hh:A.handled=none)(x:SW w s.heap S vs o ep t)(hz:vs.length≤1000){Q:List Value→Shared→Prop}
  (hQ: ∀s' us,us.Perm (vs.map (·.2))→(∀b ob,s.heap.get? b=some ob→s'.heap.get? b=some ob)→s'.gens=s.gens→s'.drawn=s.drawn→s'.os=s.os→s.heap.objs.size<s'.heap.objs.size→Q us s'):wpAny (model prog w) A (collect (.ref S)) Q E s:=by
 unfold collect
 refine wpAny_bind (wpAny_runValue (codeAny_builtin F.entry_proto_collect ?_))
 rw[Around.under_plainId F.plain_proto_collect _]
 show wpAny _ A.in1 (newList []>>=λl=>again (.builtin "list.__iadd__" ⟨[l,.ref S],[]⟩)) _ _ s
 refine wpAny_bind (wpAny_newObj_type ?_)
 refine wpAny_pure ⟨plainId_quiet F.plain_list_iadd _,codeAny_builtin F.entry_list_iadd ?_⟩
 rw[Around.under_plainId F.plain_list_iadd _]
 show wpAny _ A.in1 (Builtin.List.listExtendWith (.ref s.heap.objs.size) (.ref S) (.ref s.heap.objs.size)) _ _ _
 unfold Builtin.List.listExtendWith
 have hSl:S<s.heap.objs.size:=Heap.lt_size x.at'
 have x1:SW w (s.heap.push {cls:=.type "list",data:=.seq ([]:List Value).toArray}) S vs o ep t:=x.keep λo e=>Heap.get?_push_of_some _ e
 refine wpAny_bind (wpAny_typeOf (SW.typeIs (s:={s with heap:=_}) x1) ?_)
 have h1:Builtin.List.listSameRef (.ref s.heap.objs.size) (.ref S)=false:=by simp[Builtin.List.listSameRef];exact Nat.ne_of_gt hSl
 have h2:(Value.type "set"==Value.type "list")=false:=by decide
 have h3:(Value.type "set"==Value.type "tuple")=false:=by decide
 simp only[h1,h2,h3,Bool.or_false,Bool.false_eq_true,if_false]
 refine wpAny_bind (iter_set (s:={s with heap:=_}) x1 ?_)
 have x2:=x1.keep (h':=(s.heap.push {cls:=.type "list",data:=.seq ([]:List Value).toArray}).push (siObj 0 0 S vs.length ep)) λo e=>Heap.get?_push_of_some _ e
 refine wpAny_bind (wpAny_holding (hint_set (s:={s with heap:=_}) x2 ?_))
 show wpAny _ A.in1 (rule "list.extend.makes-room">>=λ_=>Builtin.List.listTouch (.ref s.heap.objs.size)>>=λ_=>
  again (.builtin "list.extend.loop" ⟨[.ref s.heap.objs.size,.ref (s.heap.push {cls:=.type "list",data:=.seq ([]:List Value).toArray}).objs.size,.ref s.heap.objs.size],[]⟩)) _ _ _
 refine wpAny_bind (wpAny_rule ?_)
 have szp:(s.heap.push {cls:=.type "list",data:=.seq ([]:List Value).toArray}).objs.size=s.heap.objs.size+1:=Heap.size_push _ _
 rw[szp]
 have gS:((s.heap.push {cls:=.type "list",data:=.seq ([]:List Value).toArray}).push (siObj 0 0 S vs.length ep)).get? s.heap.objs.size=some {cls:=.type "list",data:=.seq ([]:List Value).toArray}:=Heap.get?_push_of_some _ (Heap.get?_push_size _ rfl)
 have gI:((s.heap.push {cls:=.type "list",data:=.seq ([]:List Value).toArray}).push (siObj 0 0 S vs.length ep)).get? (s.heap.objs.size+1)=some (siObj 0 0 S vs.length ep):=by rw[←szp];exact Heap.get?_push_size _ rfl
 refine wpAny_bind ?_
 show wpAny _ A.in1 (updateSeq s.heap.objs.size (·.push .none)>>=λ_=>updateSeq s.heap.objs.size (·.pop)) _ _ _
 refine wpAny_bind (wpAny_updateSeq gS rfl ?_)
 have gS2:=Heap.get?_update_self (Obj.mapSeq (·.push Value.none)) gS rfl
 refine wpAny_updateSeq gS2 rfl ?_
 have gS3:=Heap.get?_update_self (Obj.mapSeq (·.pop)) gS2 rfl
 have oth: ∀b ob,b≠s.heap.objs.size→((s.heap.push {cls:=.type "list",data:=.seq ([]:List Value).toArray}).push (siObj 0 0 S vs.length ep)).get? b=some ob→
   ((((s.heap.push {cls:=.type "list",data:=.seq ([]:List Value).toArray}).push (siObj 0 0 S vs.length ep)).update s.heap.objs.size (Obj.mapSeq (·.push Value.none))).update s.heap.objs.size (Obj.mapSeq (·.pop))).get? b=some ob:=
  λb ob hb e=>(Heap.get?_update_other _ _ (Ne.symm hb)).trans ((Heap.get?_update_other _ _ (Ne.symm hb)).trans e)
 have nS:S≠s.heap.objs.size:=Nat.ne_of_lt hSl
 have nI:S≠s.heap.objs.size+1:=Nat.ne_of_lt (Nat.lt_succ_of_lt hSl)
 have nn:s.heap.objs.size+1≠s.heap.objs.size:=Nat.succ_ne_self _
 have hh1:A.in1.in1.handled=none:=hh
 refine wpAny_pure ⟨plainId_quiet F.plain_extend_loop _,codeAny_extend_loopS (prog:=prog) (w:=w) (walks (prog:=prog) (w:=w) (A:=A.in1) (t:=t) (o:=o) (ep:=ep) (vs:=vs) hh nI) (by rw[sizeLine_eq];omega) s.heap.objs.size (by simp;exact λe=>nS e.symm) _ vs.length 0 _ _ _ rfl (Nat.zero_le _)
  ⟨Nat.zero_le _,x2.keep λob e=>oth S ob nS e,0,⟨_,oth _ _ nn gI,rfl,rfl⟩,λ_=>rfl⟩ gS3 (ItemsOf.nil _) λs' acc c hm hS' hacc=> ?_⟩
 show wpAny _ A (load s.heap.objs.size>>=_) _ _ s'
 refine wpAny_bind (wpAny_load hS' (wpAny_pure ?_))
 refine hQ s' _ ?_ (λb ob e=> ?_) hm.gens hm.drawn hm.os (Heap.lt_size hS')
 ·have:acc.toList=walkV w S ep vs:=by
   have hl:(walkV w S ep vs).length=vs.length:=by rw[(walk_perm w S ep vs).length_eq,List.length_map]
   refine List.ext_getElem? λi=> ?_
   by_cases hi:i<acc.size
   ·have:=hacc.2 i acc[i] (Array.getElem?_eq_getElem hi)
    rw[Array.getElem?_toList,Array.getElem?_eq_getElem hi,this]
   ·rw[List.getElem?_eq_none (by simpa using hi),List.getElem?_eq_none (by rw[hl];have:=hacc.1;omega)]
  rw[this]
  exact walk_perm w S ep vs
 ·have hb:=Heap.lt_size e
  refine hm.heap b ob ?_ (oth b ob (Nat.ne_of_lt hb) (Heap.get?_push_of_some _ (Heap.get?_push_of_some _ e)))
  simp only[List.mem_cons,List.not_mem_nil,or_false,not_or]
  exact⟨Nat.ne_of_lt hb,Nat.ne_of_lt (Nat.lt_succ_of_lt hb)⟩
end
end Sx
end L2
set_option Elab.async false
set_option linter.all false
set_option maxRecDepth 100000
namespace L2
open PySem PySem.Spec PyProof.Rows PySem.W
namespace Sx
noncomputable def Asks(lt:Nat→Nat→Bool)(n:Nat){α:Type}:KasT α→(α→Prop)→Prop
 | .ret a,Q=>Q a
 | .ask i j k,Q=>i<n∧j<n∧Asks lt n (k (lt i j)) Q
theorem asks_bind{lt:Nat→Nat→Bool}{n:Nat}{α β:Type}{f:α→KasT β}{Q:β→Prop}: ∀{t:KasT α},Asks lt n t (λa=>Asks lt n (f a) Q)→Asks lt n (t.bind f) Q
 | .ret a,h=>h
 | .ask i j k,⟨h1,h2,h3⟩=>⟨h1,h2,asks_bind h3⟩
theorem asks_mono{lt:Nat→Nat→Bool}{n:Nat}{α:Type}{Q R:α→Prop}(hq: ∀a,Q a→R a): ∀{t:KasT α},Asks lt n t Q→Asks lt n t R
 | .ret a,h=>hq a h
 | .ask i j k,⟨h1,h2,h3⟩=>⟨h1,h2,asks_mono hq h3⟩
theorem asks_wp{lt:Nat→Nat→Bool}{n:Nat}{α:Type}{Q:α→Prop}{G:α→Shared→Prop}{s:Shared}{cmp:Nat→Nat→(Bool→Shared→Prop)→Shared→Prop}
  (hc: ∀i j (C:Bool→Shared→Prop),i<n→j<n→C (lt i j) s→cmp i j C s) (hq: ∀a,Q a→G a s): ∀{t:KasT α},Asks lt n t Q→t.kasWp cmp G s
 | .ret a,h=>hq a h
 | .ask i j k,⟨h1,h2,h3⟩=>hc i j _ h1 h2 (asks_wp hc hq h3)
structure Ord(lt:Nat→Nat→Bool)(n:Nat):Prop where
 tr: ∀i j k,i<n→j<n→k<n→lt i j=true→lt j k=true→lt i k=true
 tot: ∀i j,i<n→j<n→i≠j→lt i j=true∨lt j i=true
 asy: ∀i j,i<n→j<n→lt i j=true→lt j i=false
section
variable {lt:Nat→Nat→Bool} {n:Nat}
structure Pm(n:Nat)(p:Array Nat):Prop where
 perm:p.toList.Perm (List.range n)
theorem Pm.size{p:Array Nat}(h:Pm n p):p.size=n:=by rw[←Array.length_toList,h.perm.length_eq,List.length_range]
theorem Pm.bd{p:Array Nat}(h:Pm n p){i:Nat}(hi:i<n):p.getD i 0<n:=by
 have hs:=h.size
 have:p.getD i 0=p[i]'(by omega):=by simp[Array.getD,hs,hi]
 rw[this]
 exact List.mem_range.mp (h.perm.mem_iff.mp (Array.getElem_mem_toList _))
theorem Pm.ne{p:Array Nat}(h:Pm n p){i j:Nat}(hi:i<n)(hj:j<n)(hij:i≠j):p.getD i 0≠p.getD j 0:=by
 have hs:=h.size
 have e1:p.getD i 0=p[i]'(by omega):=by simp[Array.getD,hs,hi]
 have e2:p.getD j 0=p[j]'(by omega):=by simp[Array.getD,hs,hj]
 rw[e1,e2]
 have nd:p.toList.Nodup:=h.perm.nodup_iff.mpr List.nodup_range
 intro e
 have:=(List.getElem_inj (h₀:=by simpa[hs] using hi) (h₁:=by simpa[hs] using hj) nd).mp (by simpa using e)
 exact hij this
noncomputable def Asc(lt:Nat→Nat→Bool)(p:Array Nat)(m:Nat):Prop:= ∀i j,i<j→j<m→lt (p.getD i 0) (p.getD j 0)=true
noncomputable def Dsc(lt:Nat→Nat→Bool)(p:Array Nat)(m:Nat):Prop:= ∀i j,i<j→j<m→lt (p.getD j 0) (p.getD i 0)=true
theorem Asc.one{p:Array Nat}:Asc lt p 1:=λi j h1 h2=>by omega
theorem Asc.succ(O:Ord lt n){p:Array Nat}(P:Pm n p){k:Nat}(hk:1≤k)(hn:k<n)(a:Asc lt p k)(h:lt (p.getD (k - 1) 0) (p.getD k 0)=true):Asc lt p (k+1):=λi j h1 h2=>by
 by_cases hj:j<k
 ·exact a i j h1 hj
 ·have:j=k:=by omega
  subst this
  by_cases hi:i=j - 1
  ·rw[hi];exact h
  ·exact O.tr _ _ _ (P.bd (by omega)) (P.bd (by omega)) (P.bd hn) (a i (j - 1) (by omega) (by omega)) h
theorem Dsc.succ(O:Ord lt n){p:Array Nat}(P:Pm n p){k:Nat}(hk:1≤k)(hn:k<n)(a:Dsc lt p k)(h:lt (p.getD k 0) (p.getD (k - 1) 0)=true):Dsc lt p (k+1):=λi j h1 h2=>by
 by_cases hj:j<k
 ·exact a i j h1 hj
 ·have:j=k:=by omega
  subst this
  by_cases hi:i=j - 1
  ·rw[hi];exact h
  ·exact O.tr _ _ _ (P.bd hn) (P.bd (by omega)) (P.bd (by omega)) h (a i (j - 1) (by omega) (by omega))
theorem asc_ok(O:Ord lt n){p:Array Nat}(P:Pm n p): ∀(f k:Nat),1≤k→k+f≤n→Asc lt p k→Asks lt n (kas_asc p f k) λm=>k≤m∧m≤k+f∧Asc lt p m∧(m<k+f→lt (p.getD m 0) (p.getD (m - 1) 0)=true)
 |0,k,h1,h2,a=>⟨Nat.le_refl _,Nat.le_refl _,a,λh=>by omega⟩
 |f+1,k,h1,h2,a=>by
  unfold kas_asc
  refine⟨P.bd (by omega),P.bd (by omega),?_⟩
  cases hc:lt (p.getD k 0) (p.getD (k - 1) 0) with
  |true=>simp only[if_true];exact⟨Nat.le_refl _,by omega,a,λ_=>hc⟩
  |false=>
   simp only[Bool.false_eq_true,if_false]
   have hlt:lt (p.getD (k - 1) 0) (p.getD k 0)=true:=by
    rcases O.tot _ _ (P.bd (i:=k) (by omega)) (P.bd (i:=k - 1) (by omega)) (P.ne (by omega) (by omega) (by omega)) with h|h
    ·rw[hc] at h;cases h
    ·exact h
   exact asks_mono (λm ⟨x1,x2,x3,x4⟩=>⟨by omega,by omega,x3,λh=>x4 (by omega)⟩) (asc_ok O P f (k+1) (by omega) (by omega) (a.succ O P h1 (by omega) hlt))
theorem desc_ok(O:Ord lt n){p:Array Nat}(P:Pm n p): ∀(f k:Nat),1≤k→k+f≤n→Dsc lt p k→Asks lt n (kas_desc f p k 0) λr=>r.1=p∧r.2.2=0∧k≤r.2.1∧r.2.1≤k+f∧Dsc lt p r.2.1
 |0,k,h1,h2,a=>⟨rfl,rfl,Nat.le_refl _,Nat.le_refl _,a⟩
 |f+1,k,h1,h2,a=>by
  unfold kas_desc
  refine⟨P.bd (by omega),P.bd (by omega),?_⟩
  cases hc:lt (p.getD k 0) (p.getD (k - 1) 0) with
  |true=>
   simp only[if_true,gt_iff_lt,Nat.lt_irrefl,if_false]
   exact asks_mono (λr ⟨x1,x2,x3,x4,x5⟩=>⟨x1,x2,by omega,by omega,x5⟩) (desc_ok O P f (k+1) (by omega) (by omega) (a.succ O P h1 (by omega) hc))
  |false=>
   simp only[Bool.false_eq_true,if_false]
   have hlt:lt (p.getD (k - 1) 0) (p.getD k 0)=true:=by
    rcases O.tot _ _ (P.bd (i:=k) (by omega)) (P.bd (i:=k - 1) (by omega)) (P.ne (by omega) (by omega) (by omega)) with h|h
    ·rw[hc] at h;cases h
    ·exact h
   refine⟨P.bd (by omega),P.bd (by omega),?_⟩
   rw[hlt]
   simp only[if_true]
   exact⟨rfl,rfl,Nat.le_refl _,by show k≤k+(f+1);omega,a⟩
theorem rev_pm{p:Array Nat}(P:Pm n p)(i j:Nat):Pm n (kas_rev p i j):=⟨by
 have:=mirror_perm p i j ((j - i)/2)
 exact this.toList.trans P.perm⟩
theorem rev_asc{p:Array Nat}(P:Pm n p){m:Nat}(hm:m≤n)(d:Dsc lt p m):Asc lt (kas_rev p 0 m) m:=λi j h1 h2=>by
 have g: ∀k,k<m→(kas_rev p 0 m).getD k 0=p.getD (m - 1 - k) 0:=λk hk=>by
  have:=getElem?_mirror_all (xs:=p) (i:=0) (j:=m) (by rw[P.size];exact hm) k
  rw[if_pos ⟨Nat.zero_le _,hk⟩,Nat.zero_add] at this
  rw[Array.getD_eq_getD_getElem?,Array.getD_eq_getD_getElem?]
  unfold kas_rev
  rw[this]
 rw[g i (by omega),g j h2]
 exact d _ _ (by omega) (by omega)
theorem count_ok(O:Ord lt n)(hn:2≤n){p:Array Nat}(P:Pm n p):Asks lt n (kas_count n p) λr=>Pm n r.2∧1≤r.1∧r.1≤n∧Asc lt r.2 r.1:=by
 unfold kas_count
 refine asks_bind (asks_mono (λm ⟨x1,x2,x3,x4⟩=> ?_) (asc_ok O P (n - 1) 1 (Nat.le_refl _) (by omega) Asc.one))
 by_cases h1:m=n
 ·rw[if_pos (by simpa using h1)]
  exact⟨P,x1,by omega,x3⟩
 ·rw[if_neg (by simpa using h1)]
  by_cases h2:m>1
  ·rw[if_pos h2]
   refine⟨P.bd (by omega),P.bd (by omega),?_⟩
   rw[x3 0 (m - 1) (by omega) (by omega)]
   simp only[if_true]
   exact⟨P,x1,by omega,x3⟩
  ·rw[if_neg h2]
   have:m=1:=by omega
   subst this
   unfold kas_descPart
   have d2:Dsc lt p 2:=λi j a b=>by
    have:i=0:=by omega
    have:j=1:=by omega
    subst i j
    exact x4 (by omega)
   refine asks_bind (asks_mono (λr ⟨y1,y2,y3,y4,y5⟩=> ?_) (desc_ok O P (n - 2) 2 (by omega) (by omega) d2))
   obtain⟨p',k,q⟩:=r
   simp only at y1 y2 y3 y4 y5
   subst y1 y2
   simp only[gt_iff_lt,Nat.lt_irrefl,if_false]
   unfold kas_tail3
   refine asks_bind (asks_mono (λm ⟨z1,z2,z3,z4⟩=> ?_) (asc_ok O (rev_pm P 0 k) (n - k) k (by omega) (by omega) (rev_asc P (by omega) y5)))
   exact⟨rev_pm P 0 k,by show 1≤m;omega,by show m≤n;omega,z3⟩
theorem place_ok(O:Ord lt n){p:Array Nat}(P:Pm n p){k:Nat}(hk:k<n)(a:Asc lt p k): ∀(f l r:Nat),l≤r→r≤k→r - l≤f→(∀i,i<l→lt (p.getD i 0) (p.getD k 0)=true)→(∀i,r≤i→i<k→lt (p.getD k 0) (p.getD i 0)=true)→
  Asks lt n (kas_place p k f l r) λm=>m≤k∧(∀i,i<m→lt (p.getD i 0) (p.getD k 0)=true)∧∀i,m≤i→i<k→lt (p.getD k 0) (p.getD i 0)=true
 |0,l,r,h1,h2,h3,a1,a2=>⟨by show l≤k;omega,a1,λi hi=>a2 i (by show r≤i;have:l≤i:=hi;omega)⟩
 |f+1,l,r,h1,h2,h3,a1,a2=>by
  unfold kas_place
  by_cases hlr:l≥r
  ·rw[if_pos hlr]
   exact⟨by show l≤k;omega,a1,λi hi=>a2 i (by have:l≤i:=hi;omega)⟩
  ·rw[if_neg hlr]
   refine⟨P.bd (by omega),P.bd (by omega),?_⟩
   cases hc:lt (p.getD k 0) (p.getD ((l+r)/2) 0) with
   |true=>
    simp only[if_true]
    refine place_ok O P hk a f l _ (by omega) (by omega) (by omega) a1 λi hi1 hi2=> ?_
    by_cases e:i=(l+r)/2
    ·rw[e];exact hc
    ·exact O.tr _ _ _ (P.bd hk) (P.bd (by omega)) (P.bd (by omega)) hc (a _ _ (by omega) hi2)
   |false=>
    simp only[Bool.false_eq_true,if_false]
    have hlt:lt (p.getD ((l+r)/2) 0) (p.getD k 0)=true:=by
     rcases O.tot _ _ (P.bd hk) (P.bd (i:=(l+r)/2) (by omega)) (P.ne hk (by omega) (by omega)) with h|h
     ·rw[hc] at h;cases h
     ·exact h
    refine place_ok O P hk a f _ r (by omega) h2 (by omega) (λi hi=> ?_) a2
    by_cases e:i=(l+r)/2
    ·rw[e];exact hlt
    ·exact O.tr _ _ _ (P.bd (by omega)) (P.bd (by omega)) (P.bd hk) (a _ _ (by omega) (by omega)) hlt
theorem bin_ok(O:Ord lt n): ∀(f:Nat) (p:Array Nat) (k:Nat),Pm n p→k+f=n→Asc lt p k→Asks lt n (kas_bin f p k) λq=>Pm n q∧Asc lt q n
 |0,p,k,P,h,a=>⟨P,by rw[←h];exact a⟩
 |f+1,p,k,P,h,a=>by
  unfold kas_bin
  refine asks_bind (asks_mono (λl ⟨x1,x2,x3⟩=> ?_) (place_ok O P (k:=k) (by omega) a k 0 k (Nat.zero_le _) (Nat.le_refl _) (by omega) (λi hi=>by omega) (λi h1 h2=>by omega)))
  have P':Pm n (bubble p k (k - l)):=⟨(bubble_perm p k (k - l)).toList.trans P.perm⟩
  refine bin_ok O f _ (k+1) P' (by omega) λi j hij hj=> ?_
  have g: ∀x,(bubble p k (k - l)).getD x 0=if x=l then p.getD k 0 else if l<x∧x≤k then p.getD (x - 1) 0 else p.getD x 0:=λx=>by
   have:=getElem?_bubble (xs:=p) (src:=k) (by rw[P.size];omega) (k - l) (by omega) x
   rw[show k - (k - l)=l by omega] at this
   rw[Array.getD_eq_getD_getElem?,this]
   repeat' split
   all_goals rw[Array.getD_eq_getD_getElem?]
  rw[g i,g j]
  by_cases hi:i=l
  ·rw[if_pos hi,if_neg (by omega),if_pos (by omega)]
   exact x3 _ (by omega) (by omega)
  ·rw[if_neg hi]
   by_cases hi2:l<i
   ·rw[if_pos ⟨hi2,by omega⟩,if_neg (by omega),if_pos (by omega)]
    exact a _ _ (by omega) (by omega)
   ·rw[if_neg (by omega)]
    by_cases hj1:j=l
    ·rw[if_pos hj1]
     exact x2 i (by omega)
    ·rw[if_neg hj1]
     by_cases hj2:l<j
     ·rw[if_pos ⟨hj2,by omega⟩]
      by_cases e:i=j - 1
      ·omega
      ·exact a _ _ (by omega) (by omega)
     ·rw[if_neg (by omega)]
      exact a _ _ (by omega) (by omega)
theorem sort_ok(O:Ord lt n)(hn:2≤n):Asks lt n (kas_sort n) λp=>p.toList.Perm (List.range n)∧p.toList.Pairwise λi j=>lt i j=true:=by
 unfold kas_sort
 refine asks_bind (asks_mono (λr ⟨x1,x2,x3,x4⟩=> ?_) (count_ok O hn (p:=(List.range n).toArray) ⟨List.Perm.refl _⟩))
 have fin: ∀q,Pm n q→Asc lt q n→q.toList.Perm (List.range n)∧q.toList.Pairwise λi j=>lt i j=true:=λq Q a=>⟨Q.perm,List.pairwise_iff_getElem.mpr λi j hi hj hij=>by
  have hs:=Q.size
  rw[Array.length_toList] at hi hj
  have:=a i j hij (by omega)
  simpa[Array.getD,hi,hj] using this⟩
 by_cases h:r.1<n
 ·rw[if_pos h]
  have:max r.1 1=r.1:=by omega
  rw[this]
  exact asks_mono (λq ⟨a,b⟩=>fin q a b) (bin_ok O _ _ _ x1 (by omega) x4)
 ·rw[if_neg h]
  have:r.1=n:=by omega
  rw[this] at x4
  exact fin _ x1 x4
end
end Sx
end L2
set_option Elab.async false
set_option linter.all false
set_option maxRecDepth 100000
namespace L2
open PySem PySem.Spec PyProof.Rows PySem.W
namespace Sx
section
variable {prog:Program} {w:World} {A:Around} {E:Value→Shared→Prop} {s:Shared}
theorem sort_by{a:Addr}{vs:List Value}{n:Nat}{κ:SortKind}{lt:Nat→Nat→Bool}{P:PySem.Fin→Shared→Prop}(ho:s.heap.get? a=some (seqObj "list" vs.toArray n))(h64:vs.length<64)(O:Ord lt vs.length)
  (hk: ∀h':Heap,(∀b o,b≠a→s.heap.get? b=some o→h'.get? b=some o)→2≤vs.length→∀Q:SortKind→Shared→Prop,Q κ {s with heap:=h'}→wpAny (model prog w) A (keyKind' vs.toArray) Q E {s with heap:=h'})
  (hc: ∀h':Heap,(∀b o,b≠a→s.heap.get? b=some o→h'.get? b=some o)→∀i j (C:Bool→Shared→Prop),i<vs.length→j<vs.length→C (lt i j) {s with heap:=h'}→kas_ask prog w A κ vs i j C {s with heap:=h'})
  (h: ∀(h':Heap) (is:List Nat) e,is.Perm (List.range vs.length)→(is.Pairwise λi j=>lt i j=true)→h'.get? a=some (seqObj "list" (is.map λi=>vs.getD i Value.none).toArray e)→(∀b o,b≠a→s.heap.get? b=some o→h'.get? b=some o)→P (.done (.ret .none)) {s with heap:=h'}):
  wpAny (model prog w) A (Builtin.«list.sort» ⟨[.ref a],[]⟩) P E s:=by
 have ha:a<s.heap.objs.size:=Heap.lt_size ho
 rw[list_sort_plain]
 refine wpAny_bind (listItems_at ho rfl ?_)
 refine wpAny_bind (listUpdate_at ho rfl ?_ (by rw[List.size_toArray,sizeLine_eq];omega) (Nat.zero_le _))
 obtain⟨e1,ho1⟩: ∃e1,(s.heap.update a (Obj.mapSeq λ_=>(#[]:Array Value))).get? a=some (seqObj "list" #[] e1):=⟨_,get?_update_seq ho λ_=> #[]⟩
 refine wpAny_bind (seqEpoch_at ho1 rfl ?_)
 refine wpAny_bind (wpAny_newTuple ?_ (by show vs.length≤_;rw[sizeLine_eq];omega))
 refine wpAny_bind (wpAny_newList ?_ (Nat.zero_le _))
 refine wpAny_holding ?_
 generalize hh6:((s.heap.update a (Obj.mapSeq λ_=>(#[]:Array Value))).push (seqObj "tuple" vs.toArray 0)).push (seqObj "list" #[] 0)=h6
 have ho6:h6.get? a=some (seqObj "list" #[] e1):=by rw[←hh6];exact Heap.get?_push_of_some _ (Heap.get?_push_of_some _ ho1)
 have k6: ∀b o,b≠a→s.heap.get? b=some o→h6.get? b=some o:=λb o hb e=>by
  rw[←hh6]
  exact Heap.get?_push_of_some _ (Heap.get?_push_of_some _ ((Heap.get?_update_other _ _ (Ne.symm hb)).trans e))
 have fin: ∀(is:List Nat) (out:Array Value),out=(is.map λi=>vs.getD i Value.none).toArray→is.Perm (List.range vs.length)→(is.Pairwise λi j=>lt i j=true)→P (.done (.ret .none)) {s with heap:=h6.update a (Obj.mapSeq λ_=>out)}:=λis out e hp hs=>by
  subst e
  obtain⟨c2,hc2⟩: ∃c2,(h6.update a (Obj.mapSeq λ_=>(is.map λi=>vs.getD i Value.none).toArray)).get? a=some (seqObj "list" (is.map λi=>vs.getD i Value.none).toArray c2):=⟨_,get?_update_seq ho6 λ_=>(is.map λi=>vs.getD i Value.none).toArray⟩
  exact h _ is c2 hp hs hc2 λb o hb e=>(Heap.get?_update_other _ _ (Ne.symm hb)).trans (k6 b o hb e)
 show wpAny (model prog w) A _ P E {s with heap:=h6}
 dsimp only
 by_cases h2:vs.toArray.size<2
 ·have h2':vs.length<2:=by rw[List.size_toArray] at h2;exact h2
  rw[if_pos h2,if_pos h2]
  refine wpAny_bind (wpAny_pure ?_)
  rw[StateT.run_pure]
  refine wpAny_bind (wpAny_pure ?_)
  dsimp only
  have hout:(arrOf (SortSt.mk' general' (vs.toArray.zip vs.toArray) #[] 7 none)).map (·.2)=((List.range vs.length).map λi=>vs.getD i Value.none).toArray:=by
   show(vs.toArray.zip vs.toArray).map (·.2)=_
   apply Array.ext'
   simp only[Array.toList_map,Array.toList_zip]
   refine List.ext_getElem (by simp) λi q1 q2=> ?_
   simp at q1
   simp[q1]
  rw[hout]
  refine wpAny_bind (seqEpoch_at ho6 rfl ?_)
  refine wpAny_bind (listUpdate_at ho6 rfl ?_ (Nat.zero_le _) (by rw[List.size_toArray,List.length_map,List.length_range,sizeLine_eq];omega))
  simp only[bne_self_eq_false,Bool.false_eq_true,if_false]
  refine wpAny_pure (fin (List.range vs.length) _ rfl (List.Perm.refl _) ?_)
  match vs,h2' with
  |[],_=>exact List.Pairwise.nil
  |[_],_=>exact List.pairwise_singleton _ _
 ·have h2':2≤vs.length:=by rw[List.size_toArray] at h2;omega
  rw[if_neg h2,if_neg h2]
  refine wpAny_bind (hk h6 k6 h2' _ ?_)
  have ask:(kas_sort vs.length).kasWp (kas_ask prog w A κ vs) (λp s'=>s'={s with heap:=h6}∧p.toList.Perm (List.range vs.length)∧p.toList.Pairwise λi j=>lt i j=true) {s with heap:=h6}:=
   asks_wp (hc h6 k6) (λp hp=>⟨rfl,hp⟩) (sort_ok O h2')
  refine wpAny_bind (wpAny_mono (kat_run (Q:=λst' s'=> ∃p:Array Nat,arrOf st'=p.map (kas_item (vs.toArray.zip vs.toArray))∧failedOf st'=none∧s'={s with heap:=h6}∧p.toList.Perm (List.range vs.length)∧p.toList.Pairwise λi j=>lt i j=true)
   rfl h2' h64 (λp' st' s' a1 a2 a3 a4=>⟨p',a2,a3,a4⟩) ask) ?_ λ_ _ e=>e)
  rintro⟨⟨⟩,st'⟩ s' ⟨p,har,hf,rfl,hp,hs⟩
  dsimp only
  rw[kat_snds rfl har]
  refine wpAny_bind (seqEpoch_at ho6 rfl ?_)
  refine wpAny_bind (listUpdate_at ho6 rfl ?_ (Nat.zero_le _) (by rw[List.size_toArray,List.length_map,hp.length_eq,List.length_range,sizeLine_eq];omega))
  rw[hf]
  simp only[bne_self_eq_false,Bool.false_eq_true,if_false]
  exact wpAny_pure (fin p.toList _ rfl hp hs)
end
end Sx
end L2
set_option Elab.async false
set_option linter.all false
set_option maxRecDepth 100000
namespace L2
open PySem PySem.Spec PyProof.Rows PySem.W
namespace Sx
open SetTable
theorem perm_map_inv{α β:Type}{f:α→β}{us ws:List β}(h:us.Perm ws): ∀{es:List α},ws=es.map f→∃es':List α,es'.Perm es∧us=es'.map f:=by
 induction h with
 |nil=>intro es e;exact⟨es,List.Perm.refl _,e⟩
 |cons x _ ih=>
  intro es e
  cases es with
  |nil=>cases e
  |cons a es=>
   rw[List.map_cons] at e
   injection e with e1 e2
   obtain⟨es',p,q⟩:=ih e2
   exact⟨a::es',p.cons a,by rw[List.map_cons,e1,q]⟩
 |swap x y l=>
  intro es e
  match es,e with
  |a::b::es,e=>
   simp only[List.map_cons] at e
   injection e with e1 e2
   injection e2 with e2 e3
   exact⟨b::a::es,List.Perm.swap ..,by simp only[List.map_cons,e1,e2,e3]⟩
 |trans _ _ ih1 ih2=>
  intro es e
  obtain⟨es1,p1,q1⟩:=ih2 e
  obtain⟨es2,p2,q2⟩:=ih1 q1
  exact⟨es2,p2.trans p1,q2⟩
section
variable {prog:Program} {w:World} {A:Around} {E:Value→Shared→Prop} {s:Shared} {S:Addr}
noncomputable def kp(e:(Int×Int)×Addr):List Int×Addr:=([e.1.1,e.1.2],e.2)
end
section
variable {X:Cx}
end
end Sx
end L2
set_option Elab.async false
set_option linter.all false
set_option maxRecDepth 100000
namespace L2
open PySem PySem.Spec PyProof.Rows PySem.W
section
variable {X:Cx} {e:Expr} {fs:DA}
end
end L2
set_option Elab.async false
set_option linter.all false
set_option maxRecDepth 100000
namespace L2
open PySem PySem.Spec PyProof.Rows
section
variable {X:Cx} {d:Addr}
noncomputable def dDisp(tbl:List (Str×(List T→Option T)))(f:DE)(fs:DA):DE:=λε=>(f ε).bind λt=>match t with
 | .str x=>(tbl.lookup x).bind λs=>(fs ε).bind s
 |_=>none
@[simp] theorem dDisp_ap{tbl:List (Str×(List T→Option T))}{f:DE}{fs:DA}{ε:Ev}:dDisp tbl f fs ε=(f ε).bind λt=>match t with
 | .str x=>(tbl.lookup x).bind λs=>(fs ε).bind s
 |_=>none:=rfl
variable {k:Nat} {x:Str} {b e:Expr} {es:List Expr} {p1 p2 pos:Pos} {f:DE} {fs:DA} {tbl:List (Str×(List T→Option T))}
end
end L2
set_option Elab.async false
set_option linter.all false
set_option maxRecDepth 100000
namespace L2
open PySem PySem.Spec PyProof.Rows
noncomputable def intsT:List T→Option (List Int)
 |[]=>some []
 | .int i::ts=>(intsT ts).map (i:: ·)
 |_=>none
theorem intsT_inv: ∀{ts:List T} {ns:List Int},intsT ts=some ns→ts=ns.map T.int
 |[],ns,h=>by unfold intsT at h;cases h;rfl
 |t::ts,ns,h=>by
  cases t<;>first|(unfold intsT at h;cases h;done)|skip
  unfold intsT at h
  obtain⟨r,h1,rfl⟩:=Option.map_eq_some_iff.mp h
  rw[intsT_inv h1]
  rfl
theorem intsT_map: ∀ns:List Int,intsT (ns.map T.int)=some ns
 |[]=>rfl
 |n::ns=>by rw[List.map_cons];unfold intsT;rw[intsT_map ns];rfl
section
variable {X:Cx}
end
noncomputable def insI(x:Int):List Int→List Int
 |[]=>[x]
 |y::ys=>if x≤y then x::y::ys else y::insI x ys
noncomputable def isort(ns:List Int):List Int:=ns.foldr insI []
theorem insI_perm(x:Int): ∀ys:List Int,(insI x ys).Perm (x::ys)
 |[]=>List.Perm.refl _
 |y::ys=>by
  unfold insI
  split
  ·exact List.Perm.refl _
  ·exact((insI_perm x ys).cons y).trans (List.Perm.swap ..)
theorem isort_perm(ns:List Int):(isort ns).Perm ns:=by
 unfold isort
 induction ns with
 |nil=>exact List.Perm.refl _
 |cons n ns ih=>rw[List.foldr_cons];exact(insI_perm n _).trans (ih.cons n)
theorem insI_sorted{x:Int}: ∀{ys:List Int},ys.Pairwise (· ≤ ·)→(insI x ys).Pairwise (· ≤ ·)
 |[],_=>List.pairwise_singleton _ _
 |y::ys,h=>by
  rw[List.pairwise_cons] at h
  unfold insI
  split
  ·rename_i hxy
   refine List.pairwise_cons.mpr ⟨λz hz=> ?_,List.pairwise_cons.mpr h⟩
   rcases List.mem_cons.mp hz with rfl|hz
   ·exact hxy
   ·have:=h.1 z hz;omega
  ·rename_i hxy
   refine List.pairwise_cons.mpr ⟨λz hz=> ?_,insI_sorted h.2⟩
   rcases List.mem_cons.mp ((insI_perm x ys).mem_iff.mp hz) with rfl|hz
   ·omega
   ·exact h.1 z hz
theorem isort_sorted(ns:List Int):(isort ns).Pairwise (· ≤ ·):=by
 unfold isort
 induction ns with
 |nil=>exact List.Pairwise.nil
 |cons n ns ih=>rw[List.foldr_cons];exact insI_sorted ih
theorem sorted_uniq: ∀{xs ys:List Int},xs.Perm ys→xs.Pairwise (· ≤ ·)→ys.Pairwise (· ≤ ·)→xs=ys
 |[],ys,p,_,_=>(List.Perm.nil_eq p)
 |x::xs,[],p,_,_=>absurd p.length_eq (by simp)
 |x::xs,y::ys,p,h1,h2=>by
  rw[List.pairwise_cons] at h1 h2
  have e:x=y:=by
   have a:y≤x:=by
    rcases List.mem_cons.mp (p.mem_iff.mp List.mem_cons_self) with q|q
    ·omega
    ·exact h2.1 x q
   have b:x≤y:=by
    rcases List.mem_cons.mp (p.mem_iff.mpr List.mem_cons_self) with q|q
    ·omega
    ·exact h1.1 y q
   omega
  subst e
  rw[sorted_uniq (List.Perm.cons_inv p) h1.2 h2.2]
end L2
set_option Elab.async false
set_option linter.all false
set_option maxRecDepth 100000
namespace L2
open PySem PySem.Spec PyProof.Rows PySem.W
section
variable {X:Cx} {e a b:Expr} {pos:Pos} {f g:DE}
end
end L2
set_option Elab.async false
set_option linter.all false
set_option maxRecDepth 100000
namespace L2
open PySem PySem.Spec PyProof.Rows PySem.W
namespace Kx
open PySem.SeqAt
open PySem.AutoSeq1 (wpAny_loadPart')
open PySem.MeetsSeq PySem.MeetsSeq2 PySem.MeetsSeq3
theorem ints_at: ∀{vs:List Value} {ns:List Int},IntsAre vs ns→∀{i:Nat} {v:Value},vs[i]? =some v→∃n t,ns[i]? =some n∧v=.int n t
 |_,_,.nil,i,v,e=>by simp at e
 |_,_,.cons n t h,0,v,e=>by simp at e;exact⟨n,t,by simp,e.symm⟩
 |_,_,.cons n t h,i+1,v,e=>by
  obtain⟨n',t',h1,h2⟩:=ints_at h (i:=i) (v:=v) (by simpa using e)
  exact⟨n',t',by simpa using h1,h2⟩
theorem lt_turns(p q:Addr)(xs ys:Array Value)(c c':Nat)(d d':Option Addr)(z z':Array (Option Value))(ns ms:List Int)(hx:IntsAre xs.toList ns)(hy:IntsAre ys.toList ms)(hz:xs.size=ys.size):
  ∀k i:Nat,xs.size - i=k→Meets (Builtin.«list.__eq__.loop» ⟨[.ref p,.ref q,rawInt i,rawInt 0],[]⟩)
   (λA R s=>s.heap.get? p=some {cls:=.type "list",dict:=d,data:=.seq xs c,slots:=z}∧s.heap.get? q=some {cls:=.type "list",dict:=d',data:=.seq ys c',slots:=z'}∧
    R (.ok (.ret (.bool (HT.lexLt (ns.drop i) (ms.drop i))))) s):=by
 have ln:xs.size=ns.length:=by rw[←hx.length];simp
 have lm:ys.size=ms.length:=by rw[←hy.length];simp
 intro k
 induction k with
 |zero=>
  intro i hk prog w A R s h
  obtain⟨hp,g,dr,tk,os⟩:=s
  obtain⟨h1,h2,h⟩:=h
  wp_walk using wpAny_loadPart' h1,wpAny_loadPart' h2
  have e1:xs[((i:Nat):Int).toNat]? =none:=by simp;omega
  have e2:ys[((i:Nat):Int).toNat]? =none:=by simp;omega
  rw[List.drop_eq_nil_of_le (by omega),List.drop_eq_nil_of_le (by omega)] at h
  rw[e1,e2]
  wp_walk using wpAny_loadPart' h1,wpAny_loadPart' h2
  show R (.ok (.ret (.bool (decide (xs.size<ys.size))))) _
  rw[decide_eq_false (by omega)]
  exact h
 |succ k ih=>
  intro i hk prog w A R s h
  obtain⟨hp,g,dr,tk,os⟩:=s
  obtain⟨h1,h2,h⟩:=h
  wp_walk using wpAny_loadPart' h1,wpAny_loadPart' h2
  have l1:i<xs.size:=by omega
  have l2:i<ys.size:=by omega
  have e1:xs[((i:Nat):Int).toNat]? =some xs[i]:=by simp[l1]
  have e2:ys[((i:Nat):Int).toNat]? =some ys[i]:=by simp[l2]
  obtain⟨n,t,en,ev⟩:=ints_at hx (i:=i) (v:=xs[i]) (by simp[l1])
  obtain⟨m,u,em,ew⟩:=ints_at hy (i:=i) (v:=ys[i]) (by simp[l2])
  have dn:ns.drop i=n::ns.drop (i+1):=by
   obtain⟨g1,g2⟩:=List.getElem?_eq_some_iff.mp en
   rw[List.drop_eq_getElem_cons g1,g2]
  have dm:ms.drop i=m::ms.drop (i+1):=by
   obtain⟨g1,g2⟩:=List.getElem?_eq_some_iff.mp em
   rw[List.drop_eq_getElem_cons g1,g2]
  have hc:((i:Int)+1)=((i+1:Nat):Int):=by omega
  rw[dn,dm,HT.lexLt_cons] at h
  rw[e1,e2]
  obtain⟨e,he,hiff⟩:=HT.eqAt_int A.in1 ⟨hp,g,dr,tk,os⟩ n t m u
  rw[←ev,←ew] at he
  refine wpAny_bind (he prog w _ _ ?_)
  cases e with
  |true=>
   rw[if_pos (hiff.mp rfl)] at h
   wp_walk
   rw[hc]
   exact⟨plainId_quiet plain_eq_loop _,codeAny_builtin entry_eq_loop (by
    rw[Around.under_plainId plain_eq_loop _]
    exact ih (i+1) (by omega) prog w A R _ ⟨h1,h2,h⟩)⟩
  |false=>
   rw[if_neg (λq=>absurd (hiff.mpr q) Bool.false_ne_true)] at h
   wp_walk using wpAny_loadPart' h1,wpAny_loadPart' h2
   rw[e1,e2]
   have rc:=HT.rcLt_int A.in1 ⟨hp,g,dr,tk,os⟩ n t m u prog w
   rw[←ev,←ew] at rc
   wp_walk using rc
   exact h
theorem lt_lists(p q:Addr)(xs ys:Array Value)(c c':Nat)(d d':Option Addr)(z z':Array (Option Value))(ns ms:List Int)(hx:IntsAre xs.toList ns)(hy:IntsAre ys.toList ms)(hz:xs.size=ys.size):
  Meets (Builtin.«list.__lt__» ⟨[.ref p,.ref q],[]⟩)
   (λA R s=>s.heap.get? p=some {cls:=.type "list",dict:=d,data:=.seq xs c,slots:=z}∧s.heap.get? q=some {cls:=.type "list",dict:=d',data:=.seq ys c',slots:=z'}∧
    R (.ok (.ret (.bool (HT.lexLt ns ms)))) s):=by
 intro prog w A R s h
 obtain⟨hp,g,dr,tk,os⟩:=s
 obtain⟨h1,h2,h⟩:=h
 have f3:=AutoSeq1.sub_list_list
 wp_walk using wpAny_loadPart' h1,wpAny_loadPart' h2
 exact⟨plainId_quiet plain_eq_loop _,codeAny_builtin entry_eq_loop (by
  rw[Around.under_plainId plain_eq_loop _]
  exact lt_turns p q xs ys c c' d d' z z' ns ms hx hy hz _ 0 rfl prog w A R _ ⟨h1,h2,by simpa using h⟩)⟩
section
variable {prog:Program} {w:World} {A:Around} {E:Value→Shared→Prop} {s:Shared}
theorem lt_list{p q:Addr}{xs ys:Array Value}{ns ms:List Int}{Q:Value→Shared→Prop}(h1:s.heap.IsList p xs)(h2:s.heap.IsList q ys)(hx:IntsAre xs.toList ns)(hy:IntsAre ys.toList ms)(hz:xs.size=ys.size)(hu:A.units<cLine)(h:Q (.bool (HT.lexLt ns ms)) s):
  wpAny (model prog w) A (compareOp .Lt (.ref p) (.ref q)) Q E s:=by
 obtain⟨⟨cls,d,data,z⟩,o1,c1,n,d1⟩:=id h1
 obtain⟨⟨cls',d',data',z'⟩,o2,c2,n',d2⟩:=id h2
 simp only at c1 d1 c2 d2
 subst c1 d1 c2 d2
 exact richCompare_meets_room (op:=.Lt) ⟨_,o1,rfl⟩ ⟨_,o2,rfl⟩ PySem.F.slot_list_lt PySem.F.entry_list_lt (PySem.F.args_list_lt_2 _ _) (lt_lists p q xs ys n n' d d' z z' ns ms hx hy hz)
  ⟨o1,o2,show Value.bool (HT.lexLt ns ms)≠Value.notImplemented∧Q (.bool (HT.lexLt ns ms)) s from⟨(λx=>nomatch x),h⟩⟩ hu
end
end Kx
end L2
set_option Elab.async false
set_option linter.all false
set_option maxRecDepth 100000
namespace L2
open PySem PySem.Spec PyProof.Rows PySem.W
namespace Kx
open Sx
noncomputable def keyT(ns:List Int):T:=.tup [.int (ns.length:Int),.lst (ns.map T.int)]
noncomputable def klt(x y:List Int):Bool:=if x.length=y.length then HT.lexLt x y else decide (x.length<y.length)
theorem lex_irr: ∀x:List Int,HT.lexLt x x=false
 |[]=>rfl
 |a::x=>by rw[HT.lexLt_cons,if_pos rfl,lex_irr x]
theorem lex_tr: ∀{x y z:List Int},HT.lexLt x y=true→HT.lexLt y z=true→HT.lexLt x z=true
 |[],[],_,h,_=>by cases h
 |[],_::_,[],_,h=>by cases h
 |[],_::_,_::_,_,_=>rfl
 |_::_,[],_,h,_=>by cases h
 |_::_,_::_,[],_,h=>by cases h
 |a::x,b::y,c::z,h1,h2=>by
  rw[HT.lexLt_cons] at h1 h2⊢
  by_cases e1:a=b
  ·subst e1
   rw[if_pos rfl] at h1
   by_cases e2:a=c
   ·rw[if_pos e2] at h2⊢;exact lex_tr h1 h2
   ·rw[if_neg e2] at h2⊢;exact h2
  ·rw[if_neg e1,decide_eq_true_eq] at h1
   by_cases e2:b=c
   ·subst e2;rw[if_neg e1,decide_eq_true_eq];exact h1
   ·rw[if_neg e2,decide_eq_true_eq] at h2
    rw[if_neg (by omega),decide_eq_true_eq];omega
theorem lex_tot: ∀{x y:List Int},x≠y→HT.lexLt x y=true∨HT.lexLt y x=true
 |[],[],h=>absurd rfl h
 |[],_::_,_=>.inl rfl
 |_::_,[],_=>.inr rfl
 |a::x,b::y,h=>by
  rw[HT.lexLt_cons,HT.lexLt_cons]
  by_cases e:a=b
  ·subst e
   rw[if_pos rfl,if_pos rfl]
   exact lex_tot λq=>h (by rw[q])
  ·rw[if_neg e,if_neg (Ne.symm e),decide_eq_true_eq,decide_eq_true_eq];omega
theorem lex_asy{x y:List Int}(h:HT.lexLt x y=true):HT.lexLt y x=false:=by
 cases e:HT.lexLt y x with
 |false=>rfl
 |true=>have:=lex_tr h e;rw[lex_irr] at this;cases this
theorem klt_tr{x y z:List Int}(h1:klt x y=true)(h2:klt y z=true):klt x z=true:=by
 unfold klt at*
 by_cases e1:x.length=y.length<;>by_cases e2:y.length=z.length
 ·rw[if_pos e1] at h1;rw[if_pos e2] at h2;rw[if_pos (by omega)];exact lex_tr h1 h2
 ·rw[if_neg e2,decide_eq_true_eq] at h2;rw[if_neg (by omega),decide_eq_true_eq];omega
 ·rw[if_neg e1,decide_eq_true_eq] at h1;rw[if_neg (by omega),decide_eq_true_eq];omega
 ·rw[if_neg e1,decide_eq_true_eq] at h1;rw[if_neg e2,decide_eq_true_eq] at h2;rw[if_neg (by omega),decide_eq_true_eq];omega
theorem klt_tot{x y:List Int}(h:x≠y):klt x y=true∨klt y x=true:=by
 unfold klt
 by_cases e:x.length=y.length
 ·rw[if_pos e,if_pos e.symm];exact lex_tot h
 ·rw[if_neg e,if_neg (Ne.symm e),decide_eq_true_eq,decide_eq_true_eq];omega
theorem klt_asy{x y:List Int}(h:klt x y=true):klt y x=false:=by
 unfold klt at*
 by_cases e:x.length=y.length
 ·rw[if_pos e] at h;rw[if_pos e.symm];exact lex_asy h
 ·rw[if_neg e,decide_eq_true_eq] at h;rw[if_neg (Ne.symm e),decide_eq_false_iff_not];omega
theorem klt_ord{xs:List (List Int)}(nd:xs.Nodup):Ord (λi j=>klt (xs.getD i []) (xs.getD j [])) xs.length:=by
 refine⟨λi j k _ _ _ h1 h2=>klt_tr h1 h2,λi j hi hj hij=>klt_tot λe=> ?_,λi j _ _ h=>klt_asy h⟩
 have e1:xs.getD i []=xs[i]:=by simp[hi]
 have e2:xs.getD j []=xs[j]:=by simp[hj]
 rw[e1,e2] at e
 exact hij ((List.getElem_inj nd).mp e)
section
variable {X:Cx} {pins:List (Addr×Obj)} {σ:L2.St} {H:Hp} {s:Shared}
structure KeyAt(X:Cx)(H:Hp)(s:Shared)(a:Addr)(ns:List Int):Prop where
 ex: ∃(o:Obj) (n:Nat) (t:Tok) (l:Addr) (its:List Value),s.heap.get? a=some o∧o.cls=.type "tuple"∧o.data=.seq #[.int (ns.length:Int) t,.ref l] n∧s.heap.IsList l its.toArray∧IntsAre its ns∧Rep X.K H (.ref l) (.lst (ns.map T.int))
theorem key_at{a:Addr}{ns:List Int}(I:Inv X pins σ H s)(r:Rep X.K H (.ref a) (keyT ns)):KeyAt X H s a ns:=by
 obtain⟨a',vs,e,ht,rs⟩:=r.inv_tup
 cases e
 cases rs with
 |cons r1 rs=>
  cases rs with
  |cons r2 rs=>
   cases rs
   cases r1.inv_int
   obtain⟨l,ws,rfl,hl,rl⟩:=r2.inv_lst
   rw[rl.inv_int] at hl
   obtain⟨its,v2,⟨o,e,c,n,d⟩,_⟩:=I.tuple ht
   obtain⟨u,v,rfl,ru,rv⟩:=vals2 v2
   obtain⟨t1,rfl⟩:=ru
   cases rv
   obtain⟨lts,v3,pl,_⟩:=I.list (SqL.of hl)
   exact⟨⟨o,n,t1,l,lts,e,c,d,pl.isList,intsAre_of v3,r2⟩⟩
theorem eqB_ints: ∀(ns ms:List Int),eqBs (ns.map T.int) (ms.map T.int)=decide (ns=ms)
 |[],[]=>by unfold eqBs;simp
 |[],_::_=>by simp only[List.map_nil,List.map_cons];unfold eqBs;simp
 |_::_,[]=>by simp only[List.map_nil,List.map_cons];unfold eqBs;simp
 |n::ns,m::ms=>by
  simp only[List.map_cons]
  unfold eqBs eqB
  rw[eqB_ints ns ms]
  by_cases h1:n=m<;>by_cases h2:ns=ms<;>simp[h1,h2]
theorem eqOk_ints: ∀(ns ms:List Int),eqOks (ns.map T.int) (ms.map T.int)=true
 |[],_=>by unfold eqOks;rfl
 |_::_,[]=>by simp only[List.map_nil,List.map_cons];unfold eqOks;rfl
 |n::ns,m::ms=>by
  simp only[List.map_cons]
  unfold eqOks
  rw[eqOk_ints ns ms]
  rfl
theorem dep_ints: ∀ns:List Int,deps (ns.map T.int)=0
 |[]=>rfl
 |n::ns=>by
  simp only[List.map_cons]
  unfold deps
  rw[dep_ints ns]
  rfl
theorem lt_key{A:Around}{E:Value→Shared→Prop}{a b:Addr}{ns ms:List Int}(I:Inv X pins σ H s)(hu:A.units+64<cLine)(ka:KeyAt X H s a ns)(kb:KeyAt X H s b ms){Q:Bool→Shared→Prop}(h:Q (klt ns ms) s):
  wpAny (model X.prog X.w) A (keyLt' (tuples' true) (.ref a) (.ref b)) Q E s:=by
 obtain⟨o1,n1,t1,l1,i1,ho1,_,hd1,hl1,hi1,r1⟩:=ka.ex
 obtain⟨o2,n2,t2,l2,i2,ho2,_,hd2,hl2,hi2,r2⟩:=kb.ex
 refine kat_lt ho1 hd1 ho2 hd2 (kat_cons ((kd X.prog X.w).eqBool (a:=(ns.length:Int)) (b:=(ms.length:Int)) (intKind_is _ _ _ _) (intKind_is _ _ _ _) (kat_go (λe=>kat_yes ?_) λe=>kat_no ?_)))
 ·rw[decide_eq_true_eq] at e
  have e':ns.length=ms.length:=by omega
  have he:=eqAt_rep I 1 A (.lst (ns.map T.int)) (.lst (ms.map T.int)) (.ref l1) (.ref l2) (.ref l1) (.ref l2) (by unfold dep;rw[dep_ints];omega) (by omega) r1 r2 rfl rfl (by unfold eqOk;exact eqOk_ints ns ms)
  unfold eqB at he
  rw[eqB_ints] at he
  refine kat_cons (he _ _ _ _ (kat_go (λe2=>kat_yes (kat_nil ?_)) λe2=>kat_no ?_))
  ·rw[decide_eq_true_eq] at e2
   have:klt ns ms=false:=by unfold klt;rw[if_pos e',e2,lex_irr]
   rw[this] at h
   simpa using h
  ·unfold klt at h
   rw[if_pos e'] at h
   refine kat_one _ _ (lt_list hl1 hl2 (by simpa using hi1) (by simpa using hi2) ?_ (by omega) h)
   have g1:=hi1.length
   have g2:=hi2.length
   simp only[List.size_toArray]
   omega
 ·rw[decide_eq_false_iff_not] at e
  refine oneLt_int ?_
  unfold klt at h
  rw[if_neg (by omega)] at h
  rw[show decide ((ns.length:Int)<(ms.length:Int))=decide (ns.length<ms.length) by simp]
  exact h
theorem kind_key{A:Around}{E:Value→Shared→Prop}{as:List (List Int×Addr)}(hn:1≤as.length)(hk: ∀e∈as,KeyAt X H s e.2 e.1){Q:SortKind→Shared→Prop}(h:Q (tuples' true) s):
  wpAny (model X.prog X.w) A (keyKind' (as.map λe=>Value.ref e.2).toArray) Q E s:=by
 have tups: ∀(l:List (List Int×Addr)),(∀e∈l,e∈as)→∃fs:List Value,KatTups s.heap (l.map λe=>Value.ref e.2) fs∧fs.length=l.length∧∀v∈fs,∃(i:Int) (t:Tok),v=.int i t:=by
  intro l
  induction l with
  |nil=>intro _;exact⟨[],KatTups.nil,rfl,λv hv=>by cases hv⟩
  |cons e l ih=>
   intro hl
   obtain⟨fs,q1,q2,q3⟩:=ih λx hx=>hl x (List.mem_cons_of_mem _ hx)
   obtain⟨o1,n1,t1,l1,i1,ho1,hc1,hd1,_⟩:=(hk e (hl e List.mem_cons_self)).ex
   refine⟨.int (e.1.length:Int) t1::fs,KatTups.cons ho1 hc1 hd1 rfl q1,by rw[List.length_cons,q2];rfl,λv hv=> ?_⟩
   rcases List.mem_cons.mp hv with rfl|hv
   ·exact⟨_,_,rfl⟩
   ·exact q3 v hv
 obtain⟨fs,q1,q2,q3⟩:=tups as λ_ h=>h
 refine kat_kind (T:=.type "int") q1 (by rw[q2];omega) (λv hv=> ?_) (by decide) h
 obtain⟨i,t,rfl⟩:=q3 v hv
 exact .now
end
end Kx
end L2
set_option Elab.async false
set_option linter.all false
set_option maxRecDepth 100000
namespace L2
open PySem PySem.Spec PyProof.Rows PySem.W
namespace Kx
open Sx
section
variable {X:Cx} {pins:List (Addr×Obj)} {σ:L2.St} {H:Hp} {s:Shared} {k:Nat} {f:Addr} {fd:FuncData} {x:Str} {g:List T→Option T}
theorem call_in{A:Around}{E':Value→Shared→Prop}{v:V}{u:Value}{Q:VK}(G:FnOk X.prog X.w X.K X.mg X.base CX0 k f fd [x] (spP X.K g))(hr:Room k A)(e0:Env0 X.prog X.w X.K X.mg X.base A X.stack s H)(hb:Binds X.K fd [x] [])
  (I:Inv X pins σ H s) (r:RelV v u) (h:spP X.K g [v] H Q E0):wpAny (model X.prog X.w) A (call (.ref f) [u]) (EP X pins σ Q) E' s:=by
 refine wpAny_call (codeAny_mono (G.run A X.stack s H ⟨[u],[]⟩ [u] [v] Q E0 hr e0 (hb s [u] I.kIn rfl) (.cons r .nil) h) λr s' hq=> ?_)
 cases r with
 |error e=>exact hq.elim
 |ok fl=>
  cases fl with
  |ret u=>exact I.after hq
  |next=>exact False.elim hq
  |brk=>exact False.elim hq
  |cont=>exact False.elim hq
structure Mid(X:Cx)(pins:List (Addr×Obj))(σ:L2.St)(F H:Hp)(D kS:Addr)(e1:Nat)(keys:List (List Int))(m0:Nat)(ks:List Value)(s:Shared):Prop where
 ex: ∃(F' H':Hp) (c:Nat) (as:List Addr),Ext F H F' H'∧Inv X (pins++[(D,seqObj "list" #[] e1),(kS,seqObj "list" ks.toArray c)]) σ H' s∧ks=as.map Value.ref∧as.length≤keys.length∧
  ∀(i:Nat) (a:Addr),as[i]? =some a→∃ns,keys[i]? =some ns∧Rep X.K F' (.ref a) (keyT ns)
 young:m0≤D∧m0≤kS∧kS≠D
theorem fold_keys{A:Around}{E':Value→Shared→Prop}{F:Hp}{D kS:Addr}{e1 m0:Nat}{keys:List (List Int)}{body:Value→PUnit→Sem (ForInStep PUnit)}(hm:X.s₀.heap.objs.size≤m0)(hfp: ∀b,m0≤b→b≠X.env.locals∧b∉X.fs∧(∀x c,X.env.cells.lookup x=some c→c≠b)∧∀p∈X.pn++pins,p.1≠b)
  (hbd: ∀(y:Value) (ks:List Value) (s:Shared) (C:Shared→Prop),ks.length<5000→wpAny (model X.prog X.w) A (call (.ref f) [y]) (λkv s'=> ∃c,s'.heap.get? kS=some (seqObj "list" ks.toArray c)∧C {s' with heap:=s'.heap.update kS (Obj.mapSeq (·.push kv))}) (λ_ _=>False) s→
   wpAny (model X.prog X.w) A (body y ⟨⟩) (λr s'=>r=.yield ⟨⟩∧C s') E' s)
  (G:FnOk X.prog X.w X.K X.mg X.base CX0 k f fd [x] (spP X.K g)) (hr:Room k A) (he: ∀s' H',Env0 X.prog X.w X.K X.mg X.base X.A X.stack s' H'→Env0 X.prog X.w X.K X.mg X.base A X.stack s' H') (hb:Binds X.K fd [x] [])
  (vs:List V) (ts:List T) (rs:Reps X.K F vs ts) (hk: ∀(i:Nat) (t:T),ts[i]? =some t→∃ns,keys[i]? =some ns∧g [t]=some (keyT ns)) (h64:ts.length<5000):
  ∀(us:List Value) (i:Nat) (ks:List Value) (s:Shared),ks.length=i→i+us.length=ts.length→Vals (vs.drop i) us→Mid X pins σ F H D kS e1 keys m0 ks s→
   wpAny (model X.prog X.w) A (forIn us PUnit.unit body) (λ_ s'=> ∃ks':List Value,ks'.length=ts.length∧Mid X pins σ F H D kS e1 keys m0 ks' s') E' s
 |[],i,ks,s,hi,hl,_,M=>by
  rw[List.forIn_nil]
  exact wpAny_pure ⟨ks,by simpa[hi] using hl,M⟩
 |u::us,i,ks,s,hi,hl,hv,M=>by
  rw[List.length_cons] at hl
  rw[List.forIn_cons]
  obtain⟨F',H',c,as,ext,I,rfl,hal,hrep⟩:=M.ex
  obtain⟨y1,y2,y3⟩:=M.young
  have lv:=rs.length
  have hiv:i<vs.length:=by omega
  have dv:vs.drop i=vs[i]::vs.drop (i+1):=List.drop_eq_getElem_cons hiv
  rw[dv] at hv
  cases hv with
  |cons ru hv=>
   obtain⟨t,ht,rt⟩:=rs.getV (List.getElem?_eq_getElem hiv)
   obtain⟨ns,hns,hg⟩:=hk i t ht
   have hki:=(List.getElem?_eq_some_iff.mp hns).1
   rw[List.length_map] at hi
   refine wpAny_bind (wpAny_mono (hbd u (as.map Value.ref) s (λs'=> ∃a',Mid X pins σ F H D kS e1 keys m0 ((as++[a']).map Value.ref) s') (by rw[List.length_map];omega) ?_) (λr s' hq=> ?_) λ_ _ e=>e)
   ·refine wpAny_mono (call_in (Q:=λv H''=> ∃F'',Ext F' H' F'' H''∧Rep X.K F'' v (keyT ns)) G hr (he _ _ I.env0) hb I ru ⟨F',[t],keyT ns,ext.fh,.cons (rt.mono ext.ff) .nil,hg,λv H'' F'' x r=>⟨F'',x,r⟩⟩) (λkv s' hq=> ?_) λ_ _ e=>e
    obtain⟨v,H'',I2,rv,F'',x2,r2⟩:=hq
    obtain⟨a',ws,rfl,_⟩:=r2.inv_tup
    cases rv
    have pD:=I2.pin (D,seqObj "list" #[] e1) (by simp)
    have pk:=I2.pin (kS,seqObj "list" (as.map Value.ref).toArray c) (by simp)
    refine⟨c,pk.1,a',?_⟩
    have ea:(as.map Value.ref).toArray.push (.ref a')=((as++[a']).map Value.ref).toArray:=by simp
    obtain⟨c2,hc2⟩: ∃c2,(s'.heap.update kS (Obj.mapSeq (·.push (.ref a')))).get? kS=some (seqObj "list" ((as++[a']).map Value.ref).toArray c2):=⟨_,by rw[←ea];exact get?_update_seq pk.1 (·.push (.ref a'))⟩
    have keep: ∀b o,b≠kS→s'.heap.get? b=some o→(s'.heap.update kS (Obj.mapSeq (·.push (.ref a')))).get? b=some o:=λb o hb e=>(Heap.get?_update_other _ _ (Ne.symm hb)).trans e
    obtain⟨f1,f2,f3,f4⟩:=hfp kS y2
    have I3:Inv X pins σ H'' s':=I2.unpinned
    have I4:Inv X pins σ H'' {s' with heap:=s'.heap.update kS (Obj.mapSeq (·.push (.ref a')))}:=I3.turned (t':=s'.toks) keep pk.2.1 f1 (.inr (Nat.le_trans hm y2)) f3 f4
    have I5:Inv X (pins++[(D,seqObj "list" #[] e1),(kS,seqObj "list" ((as++[a']).map Value.ref).toArray c2)]) σ H'' {s' with heap:=s'.heap.update kS (Obj.mapSeq (·.push (.ref a')))}:=I4.pins_of λp hp=>by
     rcases List.mem_append.mp hp with hp|hp
     ·exact I4.pin p (List.mem_append_right _ hp)
     ·simp only[List.mem_cons,List.not_mem_nil,or_false] at hp
      rcases hp with rfl|rfl
      ·exact⟨keep _ _ (Ne.symm y3) pD.1,pD.2.1,pD.2.2⟩
      ·exact⟨hc2,pk.2.1,pk.2.2.1,pk.2.2.2.1,λv=>by simp[seqObj]⟩
    refine⟨⟨F'',H'',c2,as++[a'],ext.trans x2,I5,rfl,by rw[List.length_append,List.length_singleton];omega,λj b hj=> ?_⟩,y1,y2,y3⟩
    by_cases hja:j<as.length
    ·rw[List.getElem?_append_left hja] at hj
     obtain⟨ns',h1,h2⟩:=hrep j b hj
     exact⟨ns',h1,h2.mono x2.ff⟩
    ·have:j=as.length:=by
      have:=(List.getElem?_eq_some_iff.mp hj).1
      rw[List.length_append,List.length_singleton] at this
      omega
     subst this
     simp at hj
     subst hj
     exact⟨ns,by rw[hi];exact hns,r2⟩
   ·obtain⟨rfl,a',M'⟩:=hq
    show wpAny (model X.prog X.w) A (forIn us PUnit.unit body) _ E' s'
    exact fold_keys hm hfp hbd G hr he hb vs ts rs hk h64 us (i+1) _ s' (by rw[List.length_map,List.length_append,List.length_singleton];omega) (by omega) hv M'
end
end Kx
end L2
set_option Elab.async false
set_option linter.all false
set_option maxRecDepth 100000
namespace L2
open PySem PySem.Spec PyProof.Rows PySem.W
namespace Ts
open Lean in
local macro_rules(kind:=Lean.Parser.Term.doubleQuotedName)|s=>return mkCIdent (mkPrivateNameCore `PySem.Builtin.List.W1All (`PySem.Builtin++s[2].getId))
noncomputable abbrev gal:= ``gallop
noncomputable abbrev mlo:= ``mergeLo
noncomputable abbrev mhi:= ``mergeHi
noncomputable abbrev smg:= ``setMinGallop
section
variable {prog:Program} {w:World} {A:Around} {E:Value→Shared→Prop} {s:Shared} {κ:SortKind} {L:Keyed→Keyed→Bool} {S:Keyed→Prop} {st:SortSt}
variable (prog w A E s κ L S) in
noncomputable def Cmp:Prop:= ∀(st:SortSt) (x y:Keyed) (Q:Option Bool→SortSt→Prop),kindOf st=κ→S x→S y→Q (some (L x y)) st→wpS (model prog w) A E s (lt' x y) Q st
theorem elem_ok{arr:Array Keyed}{i:Nat}{x:Keyed}{Q:Keyed→SortSt→Prop}(h:arr[i]? =some x)(q:Q x st):wpS (model prog w) A E s (elem' arr i) Q st:=by
 rw[elem'_eq,h]
 exact wpS_pure q
theorem look(C:Cmp prog w A E s κ L S){left:Bool}{key x:Keyed}{arr:Array Keyed}{i:Nat}(hk:S key)(hx:arr[i]? =some x)(sx:S x)(e:L key x= !(L x key))(hst:kindOf st=κ)
  {Q:Option Bool→SortSt→Prop} (q:Q (some (L x key)) st):wpS (model prog w) A E s (elem' arr i>>=λx=>if left=true then lt' x key else lt' key x>>=λr=>pure (r.map λb=> !b)) Q st:=by
 refine wpS_bind (elem_ok hx ?_)
 cases left with
 |true=>exact C st x key _ hst sx hk q
 |false=>
  refine wpS_bind (C st key x _ hst hk sx ?_)
  rw[e]
  refine wpS_pure ?_
  simpa using q
theorem loop_ok{β γ:Type}{n:Nat}{f:Nat→β→StateT SortSt Sem (ForInStep β)}{g:β→StateT SortSt Sem γ}{c:β}{Q:γ→SortSt→Prop}(I:Nat→β→SortSt→Prop)(R:β→SortSt→Prop)(h0:I 0 c st)
  (step: ∀i c st,i<n→I i c st→wpS (model prog w) A E s (f i c) (λr st'=>match r with | .done c'=>R c' st'| .yield c'=>I (i+1) c' st') st) (fin: ∀c st,I n c st→R c st)
  (k: ∀c st,R c st→wpS (model prog w) A E s (g c) Q st):wpS (model prog w) A E s (forIn [:n] c f>>=g) Q st:=by
 refine wpS_bind (wpS_mono (wpS_forRange (a:=0) (b:=n) I (Q:=R) (λi c st _ hi h=>step i c st hi h) (λc st h=>fin c st (by simpa using h)) h0) λc st h=>k c st h)
theorem gallop_ok(C:Cmp prog w A E s κ L S){left:Bool}{key:Keyed}{arr:Array Keyed}{base n hint:Nat}(hn:hint<n)(B:Nat→Bool)(hk:S key)
  (hB: ∀i,i<n→∃x,arr[base+i]? =some x∧S x∧B i=L x key∧L key x= !(L x key)) (mono: ∀i j,i≤j→j<n→B j=true→B i=true)
  (hst:kindOf st=κ) {Q:Option Nat→SortSt→Prop} (h: ∀k,k≤n→(∀i,i<k→B i=true)→(∀i,k≤i→i<n→B i=false)→Q (some k) st):
  wpS (model prog w) A E s (gal left key arr base n hint) Q st:=by
 have bey: ∀i,i<n→∀{R:Option Bool→SortSt→Prop},R (some (B i)) st→wpS (model prog w) A E s (elem' arr (base+i)>>=λx=>if left=true then lt' x key else lt' key x>>=λr=>pure (r.map λb=> !b)) R st:=λi hi R r=>by
  obtain⟨x,h1,h2,h3,h4⟩:=hB i hi
  exact look C hk h1 h2 h4 hst (by rw[←h3];exact r)
 have mono': ∀i j,i≤j→j<n→B i=false→B j=false:=λi j h1 h2 h3=>by
  cases e:B j with
  |false=>rfl
  |true=>rw[mono i j h1 h2 e] at h3;cases h3
 refine wpS_bind (bey hint hn ?_)
 dsimp only
 cases hb:B hint
 case' true=>
  rw[if_pos rfl]
  refine loop_ok (λi c st'=>st=st'∧∃lo ofs,c=(none,lo,ofs)∧lo<ofs∧hint+lo<n∧B (hint+lo)=true∧i+1≤ofs) (λc st'=>st=st'∧∃lo ofs,c=(none,lo,ofs)∧lo<ofs∧hint+lo<n∧B (hint+lo)=true∧(n≤hint+ofs∨B (hint+ofs)=false)) ⟨rfl,0,1,rfl,by omega,by omega,hb,by omega⟩ ?_ ?_ ?_
  ·rintro i _ _ hi ⟨rfl,lo,ofs,rfl,h1,h2,h3,h4⟩
   dsimp only
   by_cases hm:ofs≥n - hint
   ·rw[if_pos hm]
    exact wpS_pure ⟨rfl,lo,ofs,rfl,h1,h2,h3,.inl (by omega)⟩
   ·rw[if_neg hm]
    refine wpS_bind (bey _ (by omega) ?_)
    dsimp only
    cases hc:B (hint+ofs) with
    |true=>exact wpS_pure ⟨rfl,ofs,2*ofs+1,rfl,by omega,by omega,hc,by omega⟩
    |false=>exact wpS_pure ⟨rfl,lo,ofs,rfl,h1,h2,h3,.inr hc⟩
  ·rintro _ _ ⟨rfl,lo,ofs,rfl,h1,h2,h3,h4⟩
   exact⟨rfl,lo,ofs,rfl,h1,h2,h3,.inl (by omega)⟩
  rintro _ _ ⟨rfl,lo,ofs,rfl,h1,h2,h3,h4⟩
  dsimp only
  have g1:hint+lo+1≤hint+min ofs (n - hint):=by omega
  have g2:hint+min ofs (n - hint)≤n:=by omega
  have g3: ∀i,i<hint+lo+1→B i=true:=λi hi=>mono i (hint+lo) (by omega) h2 h3
  have g4: ∀i,hint+min ofs (n - hint)≤i→i<n→B i=false:=λi h5 h6=>by
   rcases h4 with h4|h4
   ·omega
   ·exact mono' (hint+ofs) i (by omega) h6 h4
  generalize hint+lo+1=l at g1 g3
  generalize hint+min ofs (n - hint)=r at g1 g2 g4
 case' false=>
  rw[if_neg (by decide)]
  refine loop_ok (λi c st'=>st=st'∧∃lo ofs,c=(none,lo,ofs)∧lo<ofs∧lo≤hint∧B (hint - lo)=false∧i+1≤ofs) (λc st'=>st=st'∧∃lo ofs,c=(none,lo,ofs)∧lo<ofs∧lo≤hint∧B (hint - lo)=false∧(hint+1≤ofs∨B (hint - ofs)=true)) ⟨rfl,0,1,rfl,by omega,by omega,hb,by omega⟩ ?_ ?_ ?_
  ·rintro i _ _ hi ⟨rfl,lo,ofs,rfl,h1,h2,h3,h4⟩
   dsimp only
   by_cases hm:ofs≥hint+1
   ·rw[if_pos hm]
    exact wpS_pure ⟨rfl,lo,ofs,rfl,h1,h2,h3,.inl (by omega)⟩
   ·rw[if_neg hm]
    refine wpS_bind (bey _ (by omega) ?_)
    dsimp only
    cases hc:B (hint - ofs) with
    |true=>exact wpS_pure ⟨rfl,lo,ofs,rfl,h1,h2,h3,.inr hc⟩
    |false=>exact wpS_pure ⟨rfl,ofs,2*ofs+1,rfl,by omega,by omega,hc,by omega⟩
  ·rintro _ _ ⟨rfl,lo,ofs,rfl,h1,h2,h3,h4⟩
   exact⟨rfl,lo,ofs,rfl,h1,h2,h3,.inl (by omega)⟩
  rintro _ _ ⟨rfl,lo,ofs,rfl,h1,h2,h3,h4⟩
  dsimp only
  have g1:hint+1 - min ofs (hint+1)≤hint - lo:=by omega
  have g2:hint - lo≤n:=by omega
  have g3: ∀i,i<hint+1 - min ofs (hint+1)→B i=true:=λi hi=>by
   rcases h4 with h4|h4
   ·omega
   ·exact mono i (hint - ofs) (by omega) (by omega) h4
  have g4: ∀i,hint - lo≤i→i<n→B i=false:=λi h5 h6=>mono' (hint - lo) i h5 h6 h3
  generalize hint+1 - min ofs (hint+1)=l at g1 g3
  generalize hint - lo=r at g1 g2 g4
 all_goals
  refine loop_ok (λi c st'=>st=st'∧∃l r,c=(none,l,r)∧l≤r∧r≤n∧(∀i,i<l→B i=true)∧(∀i,r≤i→i<n→B i=false)∧r - l≤n - i) (λc st'=>st=st'∧∃r,c=(none,r,r)∧r≤n∧(∀i,i<r→B i=true)∧∀i,r≤i→i<n→B i=false) ⟨rfl,l,r,rfl,g1,g2,g3,g4,by omega⟩ ?_ ?_ ?_
  ·rintro i _ _ hi ⟨rfl,l,r,rfl,h1,h2,h3,h4,h5⟩
   dsimp only
   by_cases hm:l≥r
   ·rw[if_pos hm]
    have:l=r:=by omega
    subst this
    exact wpS_pure ⟨rfl,l,rfl,h2,h3,h4⟩
   ·rw[if_neg hm]
    refine wpS_bind (bey _ (by omega) ?_)
    dsimp only
    cases hc:B (l+(r - l)/2) with
    |true=>exact wpS_pure ⟨rfl,_,_,rfl,by omega,h2,λi hi=>mono i _ (by omega) (by omega) hc,h4,by omega⟩
    |false=>exact wpS_pure ⟨rfl,_,_,rfl,by omega,by omega,h3,λi h6 h7=>mono' _ i h6 h7 hc,by omega⟩
  ·rintro _ _ ⟨rfl,l,r,rfl,h1,h2,h3,h4,h5⟩
   have:l=r:=by omega
   subst this
   exact⟨rfl,l,rfl,h2,h3,h4⟩
  ·rintro _ _ ⟨rfl,r,rfl,h1,h2,h3⟩
   exact wpS_pure (h r h1 h2 h3)
end
end Ts
end L2
set_option Elab.async false
set_option linter.all false
set_option maxRecDepth 100000
namespace L2
open PySem PySem.Spec PyProof.Rows PySem.W
namespace Ts
structure TO(S:Keyed→Prop)(L:Keyed→Keyed→Bool):Prop where
 tr: ∀x y z,S x→S y→S z→L x y=true→L y z=true→L x z=true
 asy: ∀x y,S x→S y→L x y=true→L y x=false
noncomputable abbrev Srt(L:Keyed→Keyed→Bool)(l:List Keyed):Prop:=l.Pairwise λx y=>L x y=true
structure J(L:Keyed→Keyed→Bool)(la lb out:List Keyed)(ia ib:Nat):Prop where
 perm:out.Perm (la.take ia++lb.take ib)
 srt:Srt L out
 xa: ∀x∈out,∀y∈la.drop ia,L x y=true
 xb: ∀x∈out,∀y∈lb.drop ib,L x y=true
section
variable {L:Keyed→Keyed→Bool} {la lb out:List Keyed} {ia ib k:Nat}
theorem J.nil:J L la lb [] 0 0:=⟨by simp,List.Pairwise.nil,(λ_ h=>by cases h),(λ_ h=>by cases h)⟩
theorem srt_split{l:List Keyed}(h:Srt L l)(k:Nat): ∀x∈l.take k,∀y∈l.drop k,L x y=true:=by
 have:=h
 rw[←List.take_append_drop k l] at this
 exact(List.pairwise_append.mp this).2.2
theorem J.takeB(sb:Srt L lb)(j:J L la lb out ia ib)(h: ∀y∈(lb.drop ib).take k,∀x∈la.drop ia,L y x=true):J L la lb (out++(lb.drop ib).take k) ia (ib+k):=by
 have sd:Srt L (lb.drop ib):=sb.sublist (List.drop_sublist _ _)
 refine⟨?_,?_,?_,?_⟩
 ·rw[List.take_add,←List.append_assoc]
  exact j.perm.append_right _
 ·exact List.pairwise_append.mpr ⟨j.srt,sd.sublist (List.take_sublist _ _),λx hx y hy=>j.xb x hx y (List.mem_of_mem_take hy)⟩
 ·intro x hx y hy
  rcases List.mem_append.mp hx with hx|hx
  ·exact j.xa x hx y hy
  ·exact h x hx y hy
 ·intro x hx y hy
  rw[←List.drop_drop] at hy
  rcases List.mem_append.mp hx with hx|hx
  ·exact j.xb x hx y (List.mem_of_mem_drop hy)
  ·exact srt_split sd k x hx y hy
theorem J.takeA(sa:Srt L la)(j:J L la lb out ia ib)(h: ∀y∈(la.drop ia).take k,∀x∈lb.drop ib,L y x=true):J L la lb (out++(la.drop ia).take k) (ia+k) ib:=by
 have sd:Srt L (la.drop ia):=sa.sublist (List.drop_sublist _ _)
 refine⟨?_,?_,?_,?_⟩
 ·rw[List.take_add]
  refine(j.perm.append_right _).trans ?_
  rw[List.append_assoc,List.append_assoc]
  exact List.perm_append_comm.append_left _
 ·exact List.pairwise_append.mpr ⟨j.srt,sd.sublist (List.take_sublist _ _),λx hx y hy=>j.xa x hx y (List.mem_of_mem_take hy)⟩
 ·intro x hx y hy
  rw[←List.drop_drop] at hy
  rcases List.mem_append.mp hx with hx|hx
  ·exact j.xa x hx y (List.mem_of_mem_drop hy)
  ·exact srt_split sd k x hx y hy
 ·intro x hx y hy
  rcases List.mem_append.mp hx with hx|hx
  ·exact j.xb x hx y hy
  ·exact h x hx y hy
noncomputable def Good(L:Keyed→Keyed→Bool)(la lb r:List Keyed):Prop:=r.Perm (la++lb)∧Srt L r
theorem J.good(j:J L la lb out ia ib)(sa:Srt L la)(sb:Srt L lb)(h: ∀x∈la.drop ia,∀y∈lb.drop ib,L x y=true):Good L la lb (out++la.drop ia++lb.drop ib):=by
 refine⟨?_,?_⟩
 ·refine((j.perm.append_right _).append_right _).trans ?_
  conv=>rhs;rw[←List.take_append_drop ia la,←List.take_append_drop ib lb]
  simp only[List.append_assoc]
  refine List.Perm.append_left _ ?_
  rw[←List.append_assoc,←List.append_assoc]
  exact List.perm_append_comm.append_right _
 ·refine List.pairwise_append.mpr ⟨List.pairwise_append.mpr ⟨j.srt,sa.sublist (List.drop_sublist _ _),j.xa⟩,sb.sublist (List.drop_sublist _ _),λx hx y hy=> ?_⟩
  rcases List.mem_append.mp hx with hx|hx
  ·exact j.xb x hx y hy
  ·exact h x hx y hy
theorem J.good'(j:J L la lb out ia ib)(sa:Srt L la)(sb:Srt L lb)(h: ∀y∈lb.drop ib,∀x∈la.drop ia,L y x=true):Good L la lb (out++lb.drop ib++la.drop ia):=by
 refine⟨?_,?_⟩
 ·refine((j.perm.append_right _).append_right _).trans ?_
  conv=>rhs;rw[←List.take_append_drop ia la,←List.take_append_drop ib lb]
  simp only[List.append_assoc]
  refine List.Perm.append_left _ ?_
  rw[←List.append_assoc]
  exact List.perm_append_comm
 ·refine List.pairwise_append.mpr ⟨List.pairwise_append.mpr ⟨j.srt,sb.sublist (List.drop_sublist _ _),j.xb⟩,sa.sublist (List.drop_sublist _ _),λx hx y hy=> ?_⟩
  rcases List.mem_append.mp hx with hx|hx
  ·exact j.xa x hx y hy
  ·exact h x hx y hy
end
structure Sg(st st':SortSt):Prop where
 kind:kindOf st'=kindOf st
 arr:arrOf st'=arrOf st
 pend:pendingOf st'=pendingOf st
 fail:failedOf st'=failedOf st
theorem Sg.rfl{st:SortSt}:Sg st st:=⟨.refl _,.refl _,.refl _,.refl _⟩
theorem Sg.trans{a b c:SortSt}(h:Sg a b)(g:Sg b c):Sg a c:=⟨g.kind.trans h.kind,g.arr.trans h.arr,g.pend.trans h.pend,g.fail.trans h.fail⟩
end Ts
end L2
set_option Elab.async false
set_option linter.all false
set_option maxRecDepth 100000
namespace L2
open PySem PySem.Spec PyProof.Rows PySem.W
namespace Ts
section
variable {prog:Program} {w:World} {A:Around} {E:Value→Shared→Prop} {s:Shared} {κ:SortKind} {L:Keyed→Keyed→Bool} {S:Keyed→Prop} {st:SortSt}
theorem ex_drop{a:Array Keyed}{i:Nat}:(a.extract i).toList=a.toList.drop i:=by
 simp[List.extract_eq_take_drop]
 exact List.take_of_length_le (by simp)
theorem ex_take{a:Array Keyed}{i k:Nat}:(a.extract i (i+k)).toList=(a.toList.drop i).take k:=by
 simp[List.extract_eq_take_drop]
theorem dropc{l:List Keyed}{i:Nat}{x:Keyed}(h:l[i]? =some x):l.drop i=x::l.drop (i+1):=by
 obtain⟨hi,e⟩:=List.getElem?_eq_some_iff.mp h
 rw[List.drop_eq_getElem_cons hi,e]
theorem lt_all(T:TO S L){l:List Keyed}{x y:Keyed}{r:List Keyed}(sl:Srt L l)(Sl: ∀x∈l,S x)(hy:S y)(e:l=x::r)(h:L y x=true): ∀z∈l,L y z=true:=by
 subst e
 intro z hz
 rcases List.mem_cons.mp hz with rfl|hz
 ·exact h
 ·exact T.tr y x z hy (Sl x (by simp)) (Sl z (by simp[hz])) h ((List.pairwise_cons.mp sl).1 z hz)
theorem smg_ok{m:Nat}{Q:Unit→SortSt→Prop}(h: ∀st',Sg st st'→Q () st'):wpS (model prog w) A E s (smg m) Q st:=wpS_modify (h _ ⟨rfl,rfl,rfl,rfl⟩)
theorem gal_list(C:Cmp prog w A E s κ L S)(T:TO S L){left:Bool}{key:Keyed}{arr:Array Keyed}{base n hint:Nat}{seg:List Keyed}(hn:hint<n)(hsz:base+n≤arr.size)(hseg:seg=(arr.toList.drop base).take n)
  (ss:Srt L seg) (hk:S key) (hx: ∀x∈seg,S x∧L key x= !(L x key)) (hst:kindOf st=κ) {Q:Option Nat→SortSt→Prop}
  (h: ∀k,k≤n→(∀x∈seg.take k,L x key=true)→(∀x∈seg.drop k,L key x=true)→Q (some k) st):
  wpS (model prog w) A E s (gal left key arr base n hint) Q st:=by
 have hl:seg.length=n:=by rw[hseg];simp;omega
 have at_: ∀i,i<n→∃x,arr[base+i]? =some x∧seg[i]? =some x:=λi hi=>by
  have:seg[i]? =arr[base+i]? :=by
   rw[hseg,List.getElem?_take_of_lt hi,List.getElem?_drop,Array.getElem?_toList]
  refine⟨arr[base+i],Array.getElem?_eq_getElem (by omega),?_⟩
  rw[this]
  exact Array.getElem?_eq_getElem (by omega)
 have Bt: ∀(i:Nat) (x:Keyed),seg[i]? =some x→((seg[i]?).elim false λx=>L x key)=L x key:=λi x e=>by rw[e];rfl
 refine gallop_ok C hn (λi=>(seg[i]?).elim false λx=>L x key) hk (λi hi=> ?_) (λi j h1 h2 h3=> ?_) hst λk hk1 hk2 hk3=>h k hk1 (λx hx'=> ?_) (λx hx'=> ?_)
 ·obtain⟨x,e1,e2⟩:=at_ i hi
  obtain⟨g1,g2⟩:=hx x (List.mem_of_getElem? e2)
  exact⟨x,e1,g1,Bt i x e2,g2⟩
 ·obtain⟨x,e1,e2⟩:=at_ i (by omega)
  obtain⟨y,e3,e4⟩:=at_ j h2
  by_cases e:i=j
  ·subst e;exact h3
  ·rw[Bt j y e4] at h3
   rw[Bt i x e2]
   obtain⟨hi,q1⟩:=List.getElem?_eq_some_iff.mp e2
   obtain⟨hj,q2⟩:=List.getElem?_eq_some_iff.mp e4
   have:=List.pairwise_iff_getElem.mp ss i j hi hj (by omega)
   rw[q1,q2] at this
   exact T.tr x y key (hx x (List.mem_of_getElem? e2)).1 (hx y (List.mem_of_getElem? e4)).1 hk this h3
 ·obtain⟨i,hi⟩:=List.getElem?_of_mem hx'
  have hlt:=(List.getElem?_eq_some_iff.mp hi).1
  rw[List.length_take] at hlt
  rw[List.getElem?_take_of_lt (by omega)] at hi
  rw[←Bt i x hi]
  exact hk2 i (by omega)
 ·obtain⟨i,hi⟩:=List.getElem?_of_mem hx'
  have hlt:=(List.getElem?_eq_some_iff.mp hi).1
  rw[List.length_drop] at hlt
  rw[List.getElem?_drop] at hi
  have:=hk3 (k+i) (by omega) (by omega)
  rw[Bt _ x hi] at this
  rw[(hx x (List.mem_of_getElem? hi)).2,this]
  rfl
theorem mergeLo_ok(C:Cmp prog w A E s κ L S)(T:TO S L){a b:Array Keyed}(sa:Srt L a.toList)(sb:Srt L b.toList)(Sa: ∀x∈a.toList,S x)(Sb: ∀x∈b.toList,S x)(cr: ∀x∈a.toList,∀y∈b.toList,L y x= !(L x y))
  (ha:0<a.size) (hb:0<b.size) (h0: ∀y∈b.toList.take 1,∀x∈a.toList,L y x=true) (hl: ∀y∈b.toList,∀x∈a.toList.drop (a.size - 1),L y x=true) (hst:kindOf st=κ)
  {Q:Array Keyed→SortSt→Prop} (h: ∀r st',Sg st st'→Good L a.toList b.toList r.toList→Q r st'):wpS (model prog w) A E s (mlo a b) Q st:=by
 have f1: ∀{out:Array Keyed} {ia ib:Nat},J L a.toList b.toList out.toList ia ib→ib=b.size→Good L a.toList b.toList (out++a.extract ia++b.extract ib).toList:=λj e=>by
  rw[Array.toList_append,Array.toList_append,ex_drop,ex_drop]
  exact j.good sa sb λx _ y hy=>by rw[e,←Array.length_toList,List.drop_length] at hy;cases hy
 have f2: ∀{out:Array Keyed} {ia ib:Nat},J L a.toList b.toList out.toList ia ib→ia+1=a.size→Good L a.toList b.toList (out++b.extract ib++a.extract ia).toList:=λj e=>by
  rw[Array.toList_append,Array.toList_append,ex_drop,ex_drop]
  exact j.good' sa sb λy hy x hx=>hl y (List.mem_of_mem_drop hy) x (by rw[←e];exact hx)
 have f3: ∀{out:Array Keyed} {ia ib:Nat},J L a.toList b.toList out.toList ia ib→ia=a.size→Good L a.toList b.toList (out++a.extract ia++b.extract ib).toList:=λj e=>by
  rw[Array.toList_append,Array.toList_append,ex_drop,ex_drop]
  exact j.good sa sb λx hx y _=>by rw[e,←Array.length_toList,List.drop_length] at hx;cases hx
 have pB: ∀{out:Array Keyed} {ia ib:Nat} {y:Keyed},J L a.toList b.toList out.toList ia ib→b[ib]? =some y→(∀x∈a.toList.drop ia,L y x=true)→J L a.toList b.toList (out.push y).toList ia (ib+1):=λ{out ia ib y} j hy hh=>by
  have e:=dropc (l:=b.toList) (by rw[Array.getElem?_toList];exact hy)
  have e1:(b.toList.drop ib).take 1=[y]:=by rw[e];rfl
  have:=J.takeB (k:=1) sb j (by rw[e1];intro z hz;rw[List.mem_singleton.mp hz];exact hh)
  rw[e1] at this
  rw[Array.toList_push]
  exact this
 have pA: ∀{out:Array Keyed} {ia ib:Nat} {x:Keyed},J L a.toList b.toList out.toList ia ib→a[ia]? =some x→(∀y∈b.toList.drop ib,L x y=true)→J L a.toList b.toList (out.push x).toList (ia+1) ib:=λ{out ia ib x} j hx hh=>by
  have e:=dropc (l:=a.toList) (by rw[Array.getElem?_toList];exact hx)
  have e1:(a.toList.drop ia).take 1=[x]:=by rw[e];rfl
  have:=J.takeA (k:=1) sa j (by rw[e1];intro z hz;rw[List.mem_singleton.mp hz];exact hh)
  rw[e1] at this
  rw[Array.toList_push]
  exact this
 have dA: ∀i,(∀x∈a.toList.drop i,S x)∧Srt L (a.toList.drop i):=λi=>⟨λx hx=>Sa x (List.mem_of_mem_drop hx),sa.sublist (List.drop_sublist _ _)⟩
 have dB: ∀i,(∀x∈b.toList.drop i,S x)∧Srt L (b.toList.drop i):=λi=>⟨λx hx=>Sb x (List.mem_of_mem_drop hx),sb.sublist (List.drop_sublist _ _)⟩
 have mA: ∀{i x},a[i]? =some x→x∈a.toList:=λ{i x} e=>List.mem_of_getElem? (i:=i) (by rw[Array.getElem?_toList];exact e)
 have mB: ∀{i x},b[i]? =some x→x∈b.toList:=λ{i x} e=>List.mem_of_getElem? (i:=i) (by rw[Array.getElem?_toList];exact e)
 have gA: ∀{i},i<a.size→∃x,a[i]? =some x:=λ{i} hi=>⟨_,Array.getElem?_eq_getElem hi⟩
 have gB: ∀{i},i<b.size→∃x,b[i]? =some x:=λ{i} hi=>⟨_,Array.getElem?_eq_getElem hi⟩
 -- what is told of one before the other
 have ba: ∀{ia x y},a[ia]? =some x→y∈b.toList→L y x=true→∀z∈a.toList.drop ia,L y z=true:=λ{ia x y} e hy hh=>lt_all T (dA ia).2 (dA ia).1 (Sb y hy) (dropc (by rw[Array.getElem?_toList];exact e)) hh
 have ab: ∀{ib x y},b[ib]? =some y→x∈a.toList→L x y=true→∀z∈b.toList.drop ib,L x z=true:=λ{ib x y} e hx hh=>lt_all T (dB ib).2 (dB ib).1 (Sa x hx) (dropc (by rw[Array.getElem?_toList];exact e)) hh
 obtain⟨y0,hy0⟩:=gB hb
 refine wpS_bind (wpS_lift (wpAny_rule ⟨rfl,?_⟩))
 refine wpS_bind (elem_ok hy0 ?_)
 dsimp only
 have j0:J L a.toList b.toList #[y0].toList 0 1:=by
  refine pB (out:= #[]) J.nil hy0 λx hx=>h0 y0 ?_ x (by simpa using hx)
  have e:=dropc (l:=b.toList) (i:=0) (by rw[Array.getElem?_toList];exact hy0)
  rw[List.drop_zero] at e
  rw[e];simp
 by_cases c1:1=b.size
 ·rw[if_pos (by simpa using c1)]
  exact wpS_pure (h _ _ .rfl (f1 j0 c1))
 rw[if_neg (by simpa using c1)]
 by_cases c2:0+1=a.size
 ·rw[if_pos (by simpa using c2)]
  exact wpS_pure (h _ _ .rfl (f2 j0 c2))
 rw[if_neg (by simpa using c2)]
 refine wpS_bind (wpS_get ?_)
 refine loop_ok (λi c st'=>Sg st st'∧∃out ia ib mg,c=(none,out,ia,ib,mg)∧J L a.toList b.toList out.toList ia ib∧ia+1<a.size∧ib<b.size∧i+1≤ia+ib)
  (λc st'=>Sg st st'∧∃r o ia ib mg,c=(some r,o,ia,ib,mg)∧Good L a.toList b.toList r.toList) ⟨.rfl,_,0,1,_,rfl,j0,by omega,by omega,by omega⟩ ?_ ?_ ?_
 ·rintro i _ st1 hi ⟨s1,out,ia,ib,mg,rfl,j,l1,l2,l3⟩
  dsimp only
  refine loop_ok (λi' c st'=>Sg st st'∧∃out ia' ib' ac bc,c=(none,out,ia',ib',ac,bc)∧J L a.toList b.toList out.toList ia' ib'∧ia'+1<a.size∧ib'<b.size∧i+1+i'≤ia'+ib')
   (λc st'=>Sg st st'∧∃o out ia' ib' ac bc,c=(o,out,ia',ib',ac,bc)∧((∃r,o=some r∧Good L a.toList b.toList r.toList)∨(o=none∧J L a.toList b.toList out.toList ia' ib'∧ia'+1<a.size∧ib'<b.size∧i+2≤ia'+ib'))) ⟨s1,out,ia,ib,0,0,rfl,j,l1,l2,by omega⟩ ?_ ?_ ?_
  ·rintro i' _ st2 hi' ⟨s2,out,ia,ib,ac,bc,rfl,j,l1,l2,l3⟩
   dsimp only
   obtain⟨y,hy⟩:=gB l2
   obtain⟨x,hx⟩:=gA (i:=ia) (by omega)
   refine wpS_bind (elem_ok hy ?_)
   refine wpS_bind (elem_ok hx ?_)
   refine wpS_bind (C st2 y x _ (s2.kind.trans hst) (Sb y (mB hy)) (Sa x (mA hx)) ?_)
   dsimp only
   cases hc:L y x with
   |true=>
    rw[if_pos rfl]
    refine wpS_bind (elem_ok hy ?_)
    have j':=pB j hy (ba hx (mB hy) hc)
    by_cases c:ib+1=b.size
    ·rw[if_pos (by simpa using c)]
     exact wpS_pure ⟨s2,_,_,_,_,_,_,rfl,.inl ⟨_,rfl,f1 j' c⟩⟩
    ·rw[if_neg (by simpa using c)]
     split
     ·exact wpS_pure ⟨s2,_,_,_,_,_,_,rfl,.inr ⟨rfl,j',l1,by omega,by omega⟩⟩
     ·exact wpS_pure ⟨s2,_,_,_,_,_,rfl,j',l1,by omega,by omega⟩
   |false=>
    rw[if_neg (by decide)]
    refine wpS_bind (elem_ok hx ?_)
    have hxy:L x y=true:=by
     have:=cr x (mA hx) y (mB hy)
     rw[hc] at this
     simpa using this.symm
    have j':=pA j hx (ab hy (mA hx) hxy)
    by_cases c:ia+1+1=a.size
    ·rw[if_pos (by simpa using c)]
     exact wpS_pure ⟨s2,_,_,_,_,_,_,rfl,.inl ⟨_,rfl,f2 j' c⟩⟩
    ·rw[if_neg (by simpa using c)]
     split
     ·exact wpS_pure ⟨s2,_,_,_,_,_,_,rfl,.inr ⟨rfl,j',by omega,l2,by omega⟩⟩
     ·exact wpS_pure ⟨s2,_,_,_,_,_,rfl,j',by omega,l2,by omega⟩
  ·rintro _ st2 ⟨s2,out,ia,ib,ac,bc,rfl,j,l1,l2,l3⟩
   omega
  ·rintro _ st2 ⟨s2,o,out,ia,ib,ac,bc,rfl,⟨r,rfl,g⟩|⟨rfl,j,l1,l2,l3⟩⟩
   ·exact wpS_pure ⟨s2,r,_,_,_,_,rfl,g⟩
   ·dsimp only
    refine wpS_bind (wpS_lift (wpAny_rule ⟨rfl,?_⟩))
    refine loop_ok (λi' c st'=>Sg st st'∧∃out ia' ib' mg ac bc,c=(none,out,ia',ib',mg,ac,bc)∧J L a.toList b.toList out.toList ia' ib'∧ia'+1<a.size∧ib'<b.size∧i+2≤ia'+ib')
     (λc st'=>Sg st st'∧∃o out ia' ib' mg ac bc,c=(o,out,ia',ib',mg,ac,bc)∧((∃r,o=some r∧Good L a.toList b.toList r.toList)∨(o=none∧J L a.toList b.toList out.toList ia' ib'∧ia'+1<a.size∧ib'<b.size∧i+2≤ia'+ib'))) ⟨s2,out,ia,ib,mg+1,ac,bc,rfl,j,l1,l2,l3⟩ ?_ ?_ ?_
    ·clear j l1 l2 l3
     rintro i' _ st3 hi' ⟨s3,out,ia,ib,mg,ac,bc,rfl,j,l1,l2,l3⟩
     dsimp only
     by_cases hm:mg>1
     case' pos=>rw[if_pos hm]
     case' neg=>rw[if_neg hm]
     all_goals
      refine wpS_bind (smg_ok λst4 s4=> ?_)
      replace s4:=s3.trans s4
      obtain⟨y,hy⟩:=gB l2
      refine wpS_bind (elem_ok hy ?_)
      refine wpS_bind (gal_list C T (seg:=a.toList.drop ia) (by omega) (by omega) (List.take_of_length_le (by simp)).symm (dA ia).2 (Sb y (mB hy)) (λx hx=>⟨(dA ia).1 x hx,cr x (List.mem_of_mem_drop hx) y (mB hy)⟩) (s4.kind.trans hst) λk hk k1 k2=> ?_)
      dsimp only
      rw[List.drop_drop] at k2
      have jA:J L a.toList b.toList (out++a.extract ia (ia+k)).toList (ia+k) ib:=by
       rw[Array.toList_append,ex_take]
       exact J.takeA sa j λz hz=>ab hy (List.mem_of_mem_drop (List.mem_of_mem_take hz)) (k1 z hz)
      by_cases hk0:k>0
      case' pos=>
       rw[if_pos hk0]
       by_cases c1:ia+k+1=a.size
       ·rw[if_pos (by simpa using c1)]
        exact wpS_pure ⟨s4,_,_,_,_,_,_,_,rfl,.inl ⟨_,rfl,f2 jA c1⟩⟩
       rw[if_neg (by simpa using c1)]
       by_cases c2:ia+k=a.size
       ·rw[if_pos (by simpa using c2)]
        exact wpS_pure ⟨s4,_,_,_,_,_,_,_,rfl,.inl ⟨_,rfl,f3 jA c2⟩⟩
       rw[if_neg (by simpa using c2)]
       replace l1:ia+k+1<a.size:=by omega
       replace l3:i+2≤ia+k+ib:=by omega
       generalize ia+k=ia at*
       generalize out++a.extract _ ia=out at*
      case' neg=>
       rw[if_neg hk0]
       have hk0:k=0:=by omega
       subst hk0
       replace jA:=j
      all_goals
       refine wpS_bind (elem_ok hy ?_)
       have j2:=pB jA hy k2
       by_cases c3:ib+1=b.size
       ·rw[if_pos (by simpa using c3)]
        exact wpS_pure ⟨s4,_,_,_,_,_,_,_,rfl,.inl ⟨_,rfl,f1 j2 c3⟩⟩
       rw[if_neg (by simpa using c3)]
       obtain⟨x,hx⟩:=gA (i:=ia) (by omega)
       refine wpS_bind (elem_ok hx ?_)
       refine wpS_bind (gal_list C T (seg:=b.toList.drop (ib+1)) (by omega) (by omega) (List.take_of_length_le (by simp)).symm (dB (ib+1)).2 (Sa x (mA hx)) (λz hz=>⟨(dB (ib+1)).1 z hz,by have:=cr x (mA hx) z (List.mem_of_mem_drop hz);rw[this,Bool.not_not]⟩) (s4.kind.trans hst) λk' hk' k3 k4=> ?_)
       dsimp only
       rw[List.drop_drop] at k4
       have jB:J L a.toList b.toList (out.push y++b.extract (ib+1) (ib+1+k')).toList ia (ib+1+k'):=by
        rw[Array.toList_append,ex_take]
        exact J.takeB sb j2 λz hz=>ba hx (List.mem_of_mem_drop (List.mem_of_mem_take hz)) (k3 z hz)
       by_cases hk1:k'>0
       case' pos=>
        rw[if_pos hk1]
        by_cases c4:ib+1+k'=b.size
        ·rw[if_pos (by simpa using c4)]
         exact wpS_pure ⟨s4,_,_,_,_,_,_,_,rfl,.inl ⟨_,rfl,f1 jB c4⟩⟩
        rw[if_neg (by simpa using c4)]
        replace l2:ib+1+k'<b.size:=by omega
        replace l3:i+2≤ia+(ib+1+k'):=by omega
        generalize out.push y++b.extract (ib+1) (ib+1+k')=out2 at*
        generalize ib+1+k'=ib2 at*
       case' neg=>
        rw[if_neg hk1]
        have hk1:k'=0:=by omega
        subst hk1
        replace jB:=j2
        replace l2:ib+1<b.size:=by omega
        replace l3:i+2≤ia+(ib+1):=by omega
        replace k4: ∀z∈List.drop (ib+1) b.toList,L x z=true:=k4
        generalize out.push y=out2 at*
        generalize ib+1=ib2 at*
       all_goals
        refine wpS_bind (elem_ok hx ?_)
        have j3:=pA jB hx k4
        by_cases c5:ia+1+1=a.size
        ·rw[if_pos (by simpa using c5)]
         exact wpS_pure ⟨s4,_,_,_,_,_,_,_,rfl,.inl ⟨_,rfl,f2 j3 c5⟩⟩
        rw[if_neg (by simpa using c5)]
        split
        ·exact wpS_pure ⟨s4,_,_,_,_,_,_,_,rfl,.inr ⟨rfl,j3,by omega,l2,by omega⟩⟩
        ·exact wpS_pure ⟨s4,_,_,_,_,_,_,rfl,j3,by omega,l2,by omega⟩
    ·rintro _ st3 ⟨s3,out,ia,ib,mg,ac,bc,rfl,j,l1,l2,l3⟩
     exact⟨s3,_,_,_,_,_,_,_,rfl,.inr ⟨rfl,j,l1,l2,l3⟩⟩
    ·rintro _ st3 ⟨s3,o,out,ia,ib,mg,ac,bc,rfl,⟨r,rfl,g⟩|⟨rfl,j,l1,l2,l3⟩⟩
     ·exact wpS_pure ⟨s3,r,_,_,_,_,rfl,g⟩
     ·dsimp only
      refine wpS_bind (smg_ok λst4 s4=> ?_)
      exact wpS_pure ⟨s3.trans s4,_,_,_,_,rfl,j,l1,l2,by omega⟩
 ·rintro _ _ ⟨s1,out,ia,ib,mg,rfl,j,l1,l2,l3⟩
  omega
 ·rintro _ _ ⟨s1,r,o,ia,ib,mg,rfl,g⟩
  exact wpS_pure (h _ _ s1 g)
end
end Ts
end L2
set_option Elab.async false
set_option linter.all false
set_option maxRecDepth 100000
namespace L2
open PySem PySem.Spec PyProof.Rows PySem.W
namespace Ts
structure JH(L:Keyed→Keyed→Bool)(la lb out:List Keyed)(na nb:Nat):Prop where
 ha:na≤la.length
 hb:nb≤lb.length
 perm:out.Perm (la.drop na++lb.drop nb)
 srt:Srt L out
 xa: ∀x∈la.take na,∀y∈out,L x y=true
 xb: ∀x∈lb.take nb,∀y∈out,L x y=true
section
variable {L:Keyed→Keyed→Bool} {la lb out:List Keyed} {na nb k:Nat}
theorem seg_drop{l:List Keyed}{k n:Nat}(h:k≤n)(hn:n≤l.length):l.drop k=(l.take n).drop k++l.drop n:=by
 conv=>lhs;rw[←List.take_append_drop n l]
 rw[List.drop_append_of_le_length (by simp;omega)]
theorem seg_take{l:List Keyed}{k n:Nat}(h:k≤n):l.take k=(l.take n).take k:=by
 rw[List.take_take,Nat.min_eq_left h]
theorem JH.nil:JH L la lb [] la.length lb.length:=⟨Nat.le_refl _,Nat.le_refl _,by simp,List.Pairwise.nil,(λ_ _ _ h=>by cases h),(λ_ _ _ h=>by cases h)⟩
theorem JH.takeA(sa:Srt L la)(j:JH L la lb out na nb)(hk:k≤na)(h: ∀x∈(la.take na).drop k,∀z∈lb.take nb,L z x=true):JH L la lb ((la.take na).drop k++out) k nb:=by
 have sd:Srt L (la.take na):=sa.sublist (List.take_sublist _ _)
 refine⟨Nat.le_trans hk j.ha,j.hb,?_,?_,?_,?_⟩
 ·rw[seg_drop hk j.ha,List.append_assoc]
  exact j.perm.append_left _
 ·exact List.pairwise_append.mpr ⟨sd.sublist (List.drop_sublist _ _),j.srt,λx hx y hy=>j.xa x (List.mem_of_mem_drop hx) y hy⟩
 ·intro x hx y hy
  rw[seg_take hk] at hx
  rcases List.mem_append.mp hy with hy|hy
  ·exact srt_split sd k x hx y hy
  ·exact j.xa x (List.mem_of_mem_take hx) y hy
 ·intro x hx y hy
  rcases List.mem_append.mp hy with hy|hy
  ·exact h y hy x hx
  ·exact j.xb x hx y hy
theorem JH.takeB(sb:Srt L lb)(j:JH L la lb out na nb)(hk:k≤nb)(h: ∀x∈(lb.take nb).drop k,∀z∈la.take na,L z x=true):JH L la lb ((lb.take nb).drop k++out) na k:=by
 have sd:Srt L (lb.take nb):=sb.sublist (List.take_sublist _ _)
 refine⟨j.ha,Nat.le_trans hk j.hb,?_,?_,?_,?_⟩
 ·rw[seg_drop hk j.hb]
  refine(j.perm.append_left _).trans ?_
  rw[←List.append_assoc,←List.append_assoc]
  exact List.perm_append_comm.append_right _
 ·exact List.pairwise_append.mpr ⟨sd.sublist (List.drop_sublist _ _),j.srt,λx hx y hy=>j.xb x (List.mem_of_mem_drop hx) y hy⟩
 ·intro x hx y hy
  rcases List.mem_append.mp hy with hy|hy
  ·exact h y hy x hx
  ·exact j.xa x hx y hy
 ·intro x hx y hy
  rw[seg_take hk] at hx
  rcases List.mem_append.mp hy with hy|hy
  ·exact srt_split sd k x hx y hy
  ·exact j.xb x (List.mem_of_mem_take hx) y hy
theorem JH.good(j:JH L la lb out na nb)(sa:Srt L la)(sb:Srt L lb)(h: ∀x∈la.take na,∀y∈lb.take nb,L x y=true):Good L la lb (la.take na++lb.take nb++out):=by
 refine⟨?_,?_⟩
 ·refine(j.perm.append_left _).trans ?_
  conv=>rhs;rw[←List.take_append_drop na la,←List.take_append_drop nb lb]
  simp only[List.append_assoc]
  refine List.Perm.append_left _ ?_
  rw[←List.append_assoc,←List.append_assoc]
  exact List.perm_append_comm.append_right _
 ·refine List.pairwise_append.mpr ⟨List.pairwise_append.mpr ⟨sa.sublist (List.take_sublist _ _),sb.sublist (List.take_sublist _ _),h⟩,j.srt,λx hx y hy=> ?_⟩
  rcases List.mem_append.mp hx with hx|hx
  ·exact j.xa x hx y hy
  ·exact j.xb x hx y hy
theorem JH.good'(j:JH L la lb out na nb)(sa:Srt L la)(sb:Srt L lb)(h: ∀y∈lb.take nb,∀x∈la.take na,L y x=true):Good L la lb (lb.take nb++la.take na++out):=by
 refine⟨?_,?_⟩
 ·refine(j.perm.append_left _).trans ?_
  conv=>rhs;rw[←List.take_append_drop na la,←List.take_append_drop nb lb]
  simp only[List.append_assoc]
  refine List.perm_append_comm.trans ?_
  simp only[List.append_assoc]
  refine List.Perm.append_left _ (List.Perm.append_left _ List.perm_append_comm)
 ·refine List.pairwise_append.mpr ⟨List.pairwise_append.mpr ⟨sb.sublist (List.take_sublist _ _),sa.sublist (List.take_sublist _ _),h⟩,j.srt,λx hx y hy=> ?_⟩
  rcases List.mem_append.mp hx with hx|hx
  ·exact j.xb x hx y hy
  ·exact j.xa x hx y hy
theorem take_last{l:List Keyed}{n:Nat}{x:Keyed}(hn:1≤n)(h:l[n - 1]? =some x):(l.take n).drop (n - 1)=[x]:=by
 obtain⟨hi,e⟩:=List.getElem?_eq_some_iff.mp h
 rw[List.drop_take,List.drop_eq_getElem_cons hi,e,show n - (n - 1)=1 by omega]
 rfl
theorem ex_top{a:Array Keyed}{k n:Nat}:(a.extract k n).toList=(a.toList.take n).drop k:=by
 simp[List.extract_eq_take_drop,List.drop_take]
theorem all_lt{S:Keyed→Prop}(T:TO S L){l:List Keyed}{n:Nat}{x y:Keyed}(sl:Srt L l)(Sl: ∀x∈l,S x)(hy:S y)(hn:1≤n)(e:l[n - 1]? =some x)(h:L x y=true): ∀z∈l.take n,L z y=true:=by
 intro z hz
 have hx:x∈l:=List.mem_of_getElem? e
 have sd:Srt L (l.take n):=sl.sublist (List.take_sublist _ _)
 have e2:=take_last hn e
 rw[←List.take_append_drop (n - 1) (l.take n),e2] at hz sd
 rcases List.mem_append.mp hz with hz|hz
 ·exact T.tr z x y (Sl z (List.mem_of_mem_take (List.mem_of_mem_take hz))) (Sl x hx) hy ((List.pairwise_append.mp sd).2.2 z hz x (by simp)) h
 ·rw[List.mem_singleton.mp hz];exact h
end
end Ts
end L2
set_option Elab.async false
set_option linter.all false
set_option maxRecDepth 100000
namespace L2
open PySem PySem.Spec PyProof.Rows PySem.W
namespace Ts
section
variable {prog:Program} {w:World} {A:Around} {E:Value→Shared→Prop} {s:Shared} {κ:SortKind} {L:Keyed→Keyed→Bool} {S:Keyed→Prop} {st:SortSt}
theorem mergeHi_ok(C:Cmp prog w A E s κ L S)(T:TO S L){a b:Array Keyed}(sa:Srt L a.toList)(sb:Srt L b.toList)(Sa: ∀x∈a.toList,S x)(Sb: ∀x∈b.toList,S x)(cr: ∀x∈a.toList,∀y∈b.toList,L y x= !(L x y))
  (ha:0<a.size) (hb:0<b.size) (h0: ∀y∈b.toList.take 1,∀x∈a.toList,L y x=true) (hl: ∀y∈b.toList,∀x∈a.toList.drop (a.size - 1),L y x=true) (hst:kindOf st=κ)
  {Q:Array Keyed→SortSt→Prop} (h: ∀r st',Sg st st'→Good L a.toList b.toList r.toList→Q r st'):wpS (model prog w) A E s (mhi a b) Q st:=by
 have f1: ∀{out:Array Keyed} {na nb:Nat},JH L a.toList b.toList out.toList.reverse na nb→na=0→Good L a.toList b.toList (a.extract 0 na++b.extract 0 nb++out.reverse).toList:=λj e=>by
  rw[Array.toList_append,Array.toList_append,ex_top,ex_top,List.drop_zero,List.drop_zero,Array.toList_reverse]
  exact j.good sa sb λx hx y _=>by rw[e] at hx;cases hx
 have f2: ∀{out:Array Keyed} {na nb:Nat},JH L a.toList b.toList out.toList.reverse na nb→nb=1→Good L a.toList b.toList (b.extract 0 nb++a.extract 0 na++out.reverse).toList:=λj e=>by
  rw[Array.toList_append,Array.toList_append,ex_top,ex_top,List.drop_zero,List.drop_zero,Array.toList_reverse]
  exact j.good' sa sb λy hy x hx=>h0 y (by rw[←e];exact hy) x (List.mem_of_mem_take hx)
 have f3: ∀{out:Array Keyed} {na nb:Nat},JH L a.toList b.toList out.toList.reverse na nb→nb=0→Good L a.toList b.toList (a.extract 0 na++b.extract 0 nb++out.reverse).toList:=λj e=>by
  rw[Array.toList_append,Array.toList_append,ex_top,ex_top,List.drop_zero,List.drop_zero,Array.toList_reverse]
  exact j.good sa sb λx _ y hy=>by rw[e] at hy;cases hy
 have pA: ∀{out:Array Keyed} {na nb:Nat} {x:Keyed},JH L a.toList b.toList out.toList.reverse na nb→1≤na→a[na - 1]? =some x→(∀z∈b.toList.take nb,L z x=true)→JH L a.toList b.toList (out.push x).toList.reverse (na - 1) nb:=λ{out na nb x} j hn hx hh=>by
  have e1:=take_last (l:=a.toList) hn (by rw[Array.getElem?_toList];exact hx)
  have:=JH.takeA (k:=na - 1) sa j (by omega) (by rw[e1];intro z hz;rw[List.mem_singleton.mp hz];exact hh)
  rw[e1] at this
  rw[Array.toList_push,List.reverse_append]
  exact this
 have pB: ∀{out:Array Keyed} {na nb:Nat} {y:Keyed},JH L a.toList b.toList out.toList.reverse na nb→1≤nb→b[nb - 1]? =some y→(∀z∈a.toList.take na,L z y=true)→JH L a.toList b.toList (out.push y).toList.reverse na (nb - 1):=λ{out na nb y} j hn hy hh=>by
  have e1:=take_last (l:=b.toList) hn (by rw[Array.getElem?_toList];exact hy)
  have:=JH.takeB (k:=nb - 1) sb j (by omega) (by rw[e1];intro z hz;rw[List.mem_singleton.mp hz];exact hh)
  rw[e1] at this
  rw[Array.toList_push,List.reverse_append]
  exact this
 have dA: ∀i,(∀x∈a.toList.take i,S x)∧Srt L (a.toList.take i):=λi=>⟨λx hx=>Sa x (List.mem_of_mem_take hx),sa.sublist (List.take_sublist _ _)⟩
 have dB: ∀i,(∀x∈b.toList.take i,S x)∧Srt L (b.toList.take i):=λi=>⟨λx hx=>Sb x (List.mem_of_mem_take hx),sb.sublist (List.take_sublist _ _)⟩
 have mA: ∀{i x},a[i]? =some x→x∈a.toList:=λ{i x} e=>List.mem_of_getElem? (i:=i) (by rw[Array.getElem?_toList];exact e)
 have mB: ∀{i x},b[i]? =some x→x∈b.toList:=λ{i x} e=>List.mem_of_getElem? (i:=i) (by rw[Array.getElem?_toList];exact e)
 have gA: ∀{i},i<a.size→∃x,a[i]? =some x:=λ{i} hi=>⟨_,Array.getElem?_eq_getElem hi⟩
 have gB: ∀{i},i<b.size→∃x,b[i]? =some x:=λ{i} hi=>⟨_,Array.getElem?_eq_getElem hi⟩
 have ba: ∀{nb x y},1≤nb→b[nb - 1]? =some y→x∈a.toList→L y x=true→∀z∈b.toList.take nb,L z x=true:=λ{nb x y} hn e hx hh=>all_lt T sb Sb (Sa x hx) hn (by rw[Array.getElem?_toList];exact e) hh
 have ab: ∀{na x y},1≤na→a[na - 1]? =some x→y∈b.toList→L x y=true→∀z∈a.toList.take na,L z y=true:=λ{na x y} hn e hy hh=>all_lt T sa Sa (Sb y hy) hn (by rw[Array.getElem?_toList];exact e) hh
 obtain⟨x0,hx0⟩:=gA (i:=a.size - 1) (by omega)
 refine wpS_bind (wpS_lift (wpAny_rule ⟨rfl,?_⟩))
 refine wpS_bind (elem_ok hx0 ?_)
 dsimp only
 have j0:JH L a.toList b.toList #[x0].toList.reverse (a.size - 1) b.size:=by
  refine pA (out:= #[]) (na:=a.size) ?_ (by omega) hx0 λz hz=>hl z (List.mem_of_mem_take hz) x0 ?_
  ·have:=JH.nil (L:=L) (la:=a.toList) (lb:=b.toList)
   rw[Array.length_toList,Array.length_toList] at this
   exact this
  ·have e:=take_last (l:=a.toList) (n:=a.size) (by omega) (by rw[Array.getElem?_toList];exact hx0)
   rw[←Array.length_toList,List.take_length] at e
   rw[←Array.length_toList,e];simp
 by_cases c1:a.size - 1=0
 ·rw[if_pos (by simpa using c1)]
  exact wpS_pure (h _ _ .rfl (f1 j0 c1))
 rw[if_neg (by simpa using c1)]
 by_cases c2:b.size=1
 ·rw[if_pos (by simpa using c2)]
  exact wpS_pure (h _ _ .rfl (f2 j0 c2))
 rw[if_neg (by simpa using c2)]
 refine wpS_bind (wpS_get ?_)
 refine loop_ok (λi c st'=>Sg st st'∧∃na nb out mg,c=(none,na,nb,out,mg)∧JH L a.toList b.toList out.toList.reverse na nb∧1≤na∧2≤nb∧na+nb+i+1≤a.size+b.size)
  (λc st'=>Sg st st'∧∃r na nb o mg,c=(some r,na,nb,o,mg)∧Good L a.toList b.toList r.toList) ⟨.rfl,_,_,_,_,rfl,j0,by omega,by omega,by omega⟩ ?_ ?_ ?_
 ·rintro i _ st1 hi ⟨s1,na,nb,out,mg,rfl,j,l1,l2,l3⟩
  dsimp only
  refine loop_ok (λi' c st'=>Sg st st'∧∃na nb out ac bc,c=(none,na,nb,out,ac,bc)∧JH L a.toList b.toList out.toList.reverse na nb∧1≤na∧2≤nb∧na+nb+i+1+i'≤a.size+b.size)
   (λc st'=>Sg st st'∧∃o na nb out ac bc,c=(o,na,nb,out,ac,bc)∧((∃r,o=some r∧Good L a.toList b.toList r.toList)∨(o=none∧JH L a.toList b.toList out.toList.reverse na nb∧1≤na∧2≤nb∧na+nb+i+2≤a.size+b.size))) ⟨s1,na,nb,out,0,0,rfl,j,l1,l2,by omega⟩ ?_ ?_ ?_
  ·rintro i' _ st2 hi' ⟨s2,na,nb,out,ac,bc,rfl,j,l1,l2,l3⟩
   dsimp only
   have hA:=j.ha
   have hB:=j.hb
   rw[Array.length_toList] at hA hB
   obtain⟨y,hy⟩:=gB (i:=nb - 1) (by omega)
   obtain⟨x,hx⟩:=gA (i:=na - 1) (by omega)
   refine wpS_bind (elem_ok hy ?_)
   refine wpS_bind (elem_ok hx ?_)
   refine wpS_bind (C st2 y x _ (s2.kind.trans hst) (Sb y (mB hy)) (Sa x (mA hx)) ?_)
   dsimp only
   cases hc:L y x with
   |true=>
    rw[if_pos rfl]
    refine wpS_bind (elem_ok hx ?_)
    have j':=pA j l1 hx (ba (by omega) hy (mA hx) hc)
    by_cases c:na - 1=0
    ·rw[if_pos (by simpa using c)]
     exact wpS_pure ⟨s2,_,_,_,_,_,_,rfl,.inl ⟨_,rfl,f1 j' c⟩⟩
    ·rw[if_neg (by simpa using c)]
     split
     ·exact wpS_pure ⟨s2,_,_,_,_,_,_,rfl,.inr ⟨rfl,j',by omega,l2,by omega⟩⟩
     ·exact wpS_pure ⟨s2,_,_,_,_,_,rfl,j',by omega,l2,by omega⟩
   |false=>
    rw[if_neg (by decide)]
    refine wpS_bind (elem_ok hy ?_)
    have hxy:L x y=true:=by
     have:=cr x (mA hx) y (mB hy)
     rw[hc] at this
     simpa using this.symm
    have j':=pB j (by omega) hy (ab l1 hx (mB hy) hxy)
    by_cases c:nb - 1=1
    ·rw[if_pos (by simpa using c)]
     exact wpS_pure ⟨s2,_,_,_,_,_,_,rfl,.inl ⟨_,rfl,f2 j' c⟩⟩
    ·rw[if_neg (by simpa using c)]
     split
     ·exact wpS_pure ⟨s2,_,_,_,_,_,_,rfl,.inr ⟨rfl,j',l1,by omega,by omega⟩⟩
     ·exact wpS_pure ⟨s2,_,_,_,_,_,rfl,j',l1,by omega,by omega⟩
  ·rintro _ st2 ⟨s2,na,nb,out,ac,bc,rfl,j,l1,l2,l3⟩
   omega
  ·rintro _ st2 ⟨s2,o,na,nb,out,ac,bc,rfl,⟨r,rfl,g⟩|⟨rfl,j,l1,l2,l3⟩⟩
   ·exact wpS_pure ⟨s2,r,_,_,_,_,rfl,g⟩
   ·dsimp only
    refine wpS_bind (wpS_lift (wpAny_rule ⟨rfl,?_⟩))
    refine loop_ok (λi' c st'=>Sg st st'∧∃na nb out mg ac bc,c=(none,na,nb,out,mg,ac,bc)∧JH L a.toList b.toList out.toList.reverse na nb∧1≤na∧2≤nb∧na+nb+i+2≤a.size+b.size)
     (λc st'=>Sg st st'∧∃o na nb out mg ac bc,c=(o,na,nb,out,mg,ac,bc)∧((∃r,o=some r∧Good L a.toList b.toList r.toList)∨(o=none∧JH L a.toList b.toList out.toList.reverse na nb∧1≤na∧2≤nb∧na+nb+i+2≤a.size+b.size))) ⟨s2,na,nb,out,mg+1,ac,bc,rfl,j,l1,l2,l3⟩ ?_ ?_ ?_
    ·clear j l1 l2 l3
     rintro i' _ st3 hi' ⟨s3,na,nb,out,mg,ac,bc,rfl,j,l1,l2,l3⟩
     dsimp only
     by_cases hm:mg>1
     case' pos=>rw[if_pos hm]
     case' neg=>rw[if_neg hm]
     all_goals
      refine wpS_bind (smg_ok λst4 s4=> ?_)
      replace s4:=s3.trans s4
      have hA:=j.ha
      have hB:=j.hb
      rw[Array.length_toList] at hA hB
      obtain⟨y,hy⟩:=gB (i:=nb - 1) (by omega)
      refine wpS_bind (elem_ok hy ?_)
      refine wpS_bind (gal_list C T (seg:=a.toList.take na) (by omega) (by omega) (by rw[List.drop_zero]) (dA na).2 (Sb y (mB hy)) (λx hx=>⟨(dA na).1 x hx,cr x (List.mem_of_mem_take hx) y (mB hy)⟩) (s4.kind.trans hst) λk hk k1 k2=> ?_)
      dsimp only
      rw[←seg_take hk] at k1
      have jA:JH L a.toList b.toList (out++(a.extract k na).reverse).toList.reverse k nb:=by
       rw[Array.toList_append,Array.toList_reverse,List.reverse_append,List.reverse_reverse,ex_top]
       exact JH.takeA sa j hk λz hz=>ba (by omega) hy (List.mem_of_mem_take (List.mem_of_mem_drop hz)) (k2 z hz)
      by_cases hk0:na - k>0
      case' pos=>
       rw[if_pos hk0]
       by_cases c1:k=0
       ·rw[if_pos (by simpa using c1)]
        exact wpS_pure ⟨s4,_,_,_,_,_,_,_,rfl,.inl ⟨_,rfl,f1 jA c1⟩⟩
       rw[if_neg (by simpa using c1)]
       replace l1:1≤k:=by omega
       replace l3:k+nb+i+2≤a.size+b.size:=by omega
       generalize out++(a.extract k na).reverse=out at*
      case' neg=>
       rw[if_neg hk0]
       have hk0:k=na:=by omega
       subst hk0
       replace jA:=j
      all_goals
       refine wpS_bind (elem_ok hy ?_)
       have j2:=pB jA (by omega) hy k1
       have hA2:=jA.ha
       rw[Array.length_toList] at hA2
       by_cases c3:nb - 1=1
       ·rw[if_pos (by simpa using c3)]
        exact wpS_pure ⟨s4,_,_,_,_,_,_,_,rfl,.inl ⟨_,rfl,f2 j2 c3⟩⟩
       rw[if_neg (by simpa using c3)]
       obtain⟨x,hx⟩:=gA (i:=k - 1) (by omega)
       refine wpS_bind (elem_ok hx ?_)
       refine wpS_bind (gal_list C T (seg:=b.toList.take (nb - 1)) (by omega) (by omega) (by rw[List.drop_zero]) (dB (nb - 1)).2 (Sa x (mA hx)) (λz hz=>⟨(dB (nb - 1)).1 z hz,by have:=cr x (mA hx) z (List.mem_of_mem_take hz);rw[this,Bool.not_not]⟩) (s4.kind.trans hst) λk' hk' k3 k4=> ?_)
       dsimp only
       rw[←seg_take hk'] at k3
       have jB:JH L a.toList b.toList (out.push y++(b.extract k' (nb - 1)).reverse).toList.reverse k k':=by
        rw[Array.toList_append,Array.toList_reverse,List.reverse_append,List.reverse_reverse,ex_top]
        exact JH.takeB sb j2 hk' λz hz=>ab l1 hx (List.mem_of_mem_take (List.mem_of_mem_drop hz)) (k4 z hz)
       by_cases hk1:nb - 1 - k'>0
       case' pos=>
        rw[if_pos hk1]
        by_cases c4:k'=1
        ·rw[if_pos (by simpa using c4)]
         exact wpS_pure ⟨s4,_,_,_,_,_,_,_,rfl,.inl ⟨_,rfl,f2 jB c4⟩⟩
        rw[if_neg (by simpa using c4)]
        by_cases c5:k'=0
        ·rw[if_pos (by simpa using c5)]
         exact wpS_pure ⟨s4,_,_,_,_,_,_,_,rfl,.inl ⟨_,rfl,f3 jB c5⟩⟩
        rw[if_neg (by simpa using c5)]
        replace l2:2≤k':=by omega
        replace l3:k+k'+i+2≤a.size+b.size:=by omega
        generalize out.push y++(b.extract k' (nb - 1)).reverse=out2 at*
       case' neg=>
        rw[if_neg hk1]
        have hk1:k'=nb - 1:=by omega
        subst hk1
        replace jB:=j2
        replace l2:2≤nb - 1:=by omega
        replace l3:k+(nb - 1)+i+2≤a.size+b.size:=by omega
        generalize out.push y=out2 at*
        generalize nb - 1=k' at*
       all_goals
        refine wpS_bind (elem_ok hx ?_)
        have j3:=pA jB l1 hx k3
        by_cases c6:k - 1=0
        ·rw[if_pos (by simpa using c6)]
         exact wpS_pure ⟨s4,_,_,_,_,_,_,_,rfl,.inl ⟨_,rfl,f1 j3 c6⟩⟩
        rw[if_neg (by simpa using c6)]
        split
        ·exact wpS_pure ⟨s4,_,_,_,_,_,_,_,rfl,.inr ⟨rfl,j3,by omega,l2,by omega⟩⟩
        ·exact wpS_pure ⟨s4,_,_,_,_,_,_,rfl,j3,by omega,l2,by omega⟩
    ·rintro _ st3 ⟨s3,na,nb,out,mg,ac,bc,rfl,j,l1,l2,l3⟩
     exact⟨s3,_,_,_,_,_,_,_,rfl,.inr ⟨rfl,j,l1,l2,l3⟩⟩
    ·rintro _ st3 ⟨s3,o,na,nb,out,mg,ac,bc,rfl,⟨r,rfl,g⟩|⟨rfl,j,l1,l2,l3⟩⟩
     ·exact wpS_pure ⟨s3,r,_,_,_,_,rfl,g⟩
     ·dsimp only
      refine wpS_bind (smg_ok λst4 s4=> ?_)
      exact wpS_pure ⟨s3.trans s4,_,_,_,_,rfl,j,l1,l2,by omega⟩
 ·rintro _ _ ⟨s1,na,nb,out,mg,rfl,j,l1,l2,l3⟩
  omega
 ·rintro _ _ ⟨s1,r,na,nb,o,mg,rfl,g⟩
  exact wpS_pure (h _ _ s1 g)
end
end Ts
end L2
set_option Elab.async false
set_option linter.all false
set_option maxRecDepth 100000
namespace L2
open PySem PySem.Spec PyProof.Rows PySem.W
namespace Ts
noncomputable abbrev Dif(L:Keyed→Keyed→Bool)(x y:Keyed):Prop:=L y x= !(L x y)
structure Ax(S:Keyed→Prop)(L:Keyed→Keyed→Bool)(l₀:List Keyed):Prop where
 T:TO S L
 inS: ∀x∈l₀,S x
 dis:l₀.Pairwise (Dif L)
noncomputable def mkP:Nat→List (List Keyed×Nat)→List (Nat×Nat×Nat)
 |_,[]=>[]
 |o,(s,p)::r=>(o,s.length,p)::mkP (o+s.length) r
noncomputable def flat(l:List (List Keyed×Nat)):List Keyed:=(l.map (·.1)).flatten
structure Rs(κ:SortKind)(L:Keyed→Keyed→Bool)(l₀:List Keyed)(segs:List (List Keyed×Nat))(rest:List Keyed)(st:SortSt):Prop where
 kind:kindOf st=κ
 fail:failedOf st=none
 perm:(arrOf st).toList.Perm l₀
 arr:(arrOf st).toList=flat segs++rest
 pend:pendingOf st=(mkP 0 segs).toArray
 srt: ∀s∈segs,Srt L s.1∧s.1≠[]
theorem write_list(o:Nat): ∀(m:List Keyed) (n:Nat) (arr:Array Keyed),o+n+m.length≤arr.size→
  ((m.zipIdx n).foldl (λa x=>a.setIfInBounds (o+x.2) x.1) arr).toList=arr.toList.take (o+n)++(m++arr.toList.drop (o+n+m.length))
 |[],n,arr,h=>by simp
 |p::ms,n,arr,h=>by
  rw[List.zipIdx_cons,List.foldl_cons]
  rw[List.length_cons] at h
  have hs:(arr.setIfInBounds (o+n) p).size=arr.size:=by simp
  rw[write_list o ms (n+1) _ (by rw[hs];omega)]
  have e:(arr.setIfInBounds (o+n) p).toList=arr.toList.set (o+n) p:=by simp
  rw[e]
  have hl:o+n<arr.toList.length:=by rw[Array.length_toList];omega
  have e1:(arr.toList.set (o+n) p).take (o+(n+1))=arr.toList.take (o+n)++[p]:=by
   rw[List.set_eq_take_append_cons_drop,if_pos hl,List.take_append]
   rw[List.take_of_length_le (by simp;omega),List.length_take,Nat.min_eq_left (by omega),show o+(n+1) - (o+n)=1 by omega]
   rfl
  have e2:(arr.toList.set (o+n) p).drop (o+(n+1)+ms.length)=arr.toList.drop (o+n+(ms.length+1)):=by
   rw[List.drop_set_of_lt (by omega)]
   congr 1
   omega
  rw[e1,e2,List.length_cons,List.append_assoc]
  rfl
theorem mkP_len{o:Nat}{l:List (List Keyed×Nat)}:(mkP o l).length=l.length:=by
 induction l generalizing o with
 |nil=>rfl
 |cons a l ih=>obtain⟨s,p⟩:=a;simp[mkP,ih]
theorem flat_app{a b:List (List Keyed×Nat)}:flat (a++b)=flat a++flat b:=by simp[flat]
theorem flat_cons{a:List Keyed×Nat}{b:List (List Keyed×Nat)}:flat (a::b)=a.1++flat b:=by simp[flat]
theorem mkP_app{o:Nat}{a b:List (List Keyed×Nat)}:mkP o (a++b)=mkP o a++mkP (o+(flat a).length) b:=by
 induction a generalizing o with
 |nil=>simp[mkP,flat]
 |cons x a ih=>
  obtain⟨s,p⟩:=x
  rw[List.cons_append,mkP,mkP,ih,flat_cons,List.length_append,Nat.add_assoc]
  rfl
section
variable {prog:Program} {w:World} {A:Around} {E:Value→Shared→Prop} {s:Shared} {κ:SortKind} {L:Keyed→Keyed→Bool} {S:Keyed→Prop} {st:SortSt} {l₀:List Keyed}
theorem dif_symm{x y:Keyed}(h:Dif L x y):Dif L y x:=by
 unfold Dif at h⊢
 rw[h,Bool.not_not]
theorem Ax.dif(X:Ax S L l₀){l:List Keyed}(hp:l.Perm l₀):l.Pairwise (Dif L):=(List.Perm.pairwise_iff (λ{_ _} h=>dif_symm h) hp).mpr X.dis
end
end Ts
end L2
set_option Elab.async false
set_option linter.all false
set_option maxRecDepth 100000
namespace L2
open PySem PySem.Spec PyProof.Rows PySem.W
namespace Ts
section
variable {prog:Program} {w:World} {A:Around} {E:Value→Shared→Prop} {s:Shared} {κ:SortKind} {L:Keyed→Keyed→Bool} {S:Keyed→Prop} {st:SortSt} {l₀:List Keyed}
theorem set_ok{st':SortSt}{Q:PUnit→SortSt→Prop}(q:Q ⟨⟩ st'):wpS (model prog w) A E s (set st') Q st:=wpAny_pure ⟨rfl,q⟩
theorem pend_merge{P Y:List (Nat×Nat×Nat)}{x y z:Nat×Nat×Nat}:((P++x::y::Y).toArray.setIfInBounds P.length z).eraseIdxIfInBounds (P.length+1)=(P++z::Y).toArray:=by
 apply Array.ext'
 simp[Array.eraseIdxIfInBounds,List.eraseIdx_append_of_length_le]
theorem mergeAt_ok(C:Cmp prog w A E s κ L S)(X:Ax S L l₀){xs ys:List (List Keyed×Nat)}{MA MB rest:List Keyed}{pa pb i:Nat}(R:Rs κ L l₀ (xs++(MA,pa)::(MB,pb)::ys) rest st)(hi:xs.length=i)
  {Q:Bool→SortSt→Prop} (h: ∀st' M,Rs κ L l₀ (xs++(M,pa)::ys) rest st'→Q true st'):wpS (model prog w) A E s (mergeAt' i) Q st:=by
 have hA:=R.arr
 rw[flat_app,flat_cons,flat_cons,List.append_assoc,List.append_assoc,List.append_assoc] at hA
 dsimp only at hA
 have hP:=R.pend
 rw[mkP_app,mkP,mkP,Nat.zero_add] at hP
 have hp1:(pendingOf st)[i]? =some ((flat xs).length,MA.length,pa):=by
  rw[hP,List.getElem?_toArray,←hi,←mkP_len (o:=0) (l:=xs),List.getElem?_append_right (Nat.le_refl _),Nat.sub_self]
  rfl
 have hp2:(pendingOf st)[i+1]? =some ((flat xs).length+MA.length,MB.length,pb):=by
  rw[hP,List.getElem?_toArray,←hi,←mkP_len (o:=0) (l:=xs),List.getElem?_append_right (by omega),Nat.add_sub_cancel_left]
  rfl
 obtain⟨sA,nA⟩:=R.srt (MA,pa) (by simp)
 obtain⟨sB,nB⟩:=R.srt (MB,pb) (by simp)
 dsimp only at sA nA sB nB
 have dif:=X.dif R.perm
 have inS: ∀x∈(arrOf st).toList,S x:=λx hx=>X.inS x (R.perm.mem_iff.mp hx)
 rw[hA] at dif inS
 have SA: ∀x∈MA,S x:=λx hx=>inS x (by simp[hx])
 have SB: ∀x∈MB,S x:=λx hx=>inS x (by simp[hx])
 have cr: ∀x∈MA,∀y∈MB,Dif L x y:=λx hx y hy=>(List.pairwise_append.mp (List.pairwise_append.mp dif).2.1).2.2 x hx y (by simp[hy])
 generalize hpre:flat xs=pre at*
 generalize hpost:flat ys++rest=post at*
 obtain⟨arr,harr⟩: ∃arr,arr=arrOf st:=⟨_,rfl⟩
 have hA':arr.toList=pre++(MA++(MB++post)):=by rw[harr];exact hA
 have hsz:arr.size=pre.length+(MA.length+(MB.length+post.length)):=by rw[←Array.length_toList,hA'];simp
 have lA:0<MA.length:=List.length_pos_iff.mpr nA
 have lB:0<MB.length:=List.length_pos_iff.mpr nB
 refine wpS_bind (wpS_get ?_)
 dsimp only
 split
 ·rename_i sa na pw sb nb pb' e
  obtain⟨e1,e2⟩:=Prod.mk.inj e
  have e1:=Option.some.inj (hp1.symm.trans e1)
  have e2:=Option.some.inj (hp2.symm.trans e2)
  cases e1
  cases e2
  have fin: ∀(st':SortSt) (M:List Keyed),kindOf st'=κ→failedOf st'=none→pendingOf st'=((pendingOf st).setIfInBounds i (pre.length,MA.length+MB.length,pa)).eraseIdxIfInBounds (i+1)→
    (arrOf st').toList=pre++(M++post)→M.Perm (MA++MB)→Srt L M→Rs κ L l₀ (xs++(M,pa)::ys) rest st':=λst' M g1 g2 g3 g4 g5 g6=>by
   have gl:M.length=MA.length+MB.length:=by rw[g5.length_eq,List.length_append]
   refine⟨g1,g2,?_,?_,?_,?_⟩
   ·rw[g4]
    refine(List.Perm.append_left _ (g5.append_right _)).trans ?_
    rw[List.append_assoc,←hA]
    exact R.perm
   ·rw[g4,flat_app,flat_cons,hpre,←hpost];simp
   ·rw[g3,hP,←hi,←mkP_len (o:=0) (l:=xs),pend_merge,mkP_app,mkP,hpre,gl]
    simp[Nat.add_assoc]
   ·intro z hz
    rcases List.mem_append.mp hz with hz|hz
    ·exact R.srt z (by simp[hz])
    ·rcases List.mem_cons.mp hz with rfl|hz
     ·exact⟨g6,List.length_pos_iff.mp (by dsimp only;omega)⟩
     ·exact R.srt z (by simp[hz])
  obtain⟨b0,MB',eB⟩: ∃b0 r,MB=b0::r:=by
   cases MB with
   |nil=>exact absurd rfl nB
   |cons b r=>exact⟨b,r,rfl⟩
  have b0m:b0∈MB:=by rw[eB];simp
  obtain⟨aL,eL⟩: ∃aL,MA[MA.length - 1]? =some aL:=⟨_,List.getElem?_eq_getElem (by omega)⟩
  have aLm:aL∈MA:=List.mem_of_getElem? eL
  have g0:(arrOf st)[pre.length+MA.length]? =some b0:=by
   rw[←Array.getElem?_toList,hA,List.getElem?_append_right (by omega),Nat.add_sub_cancel_left,List.getElem?_append_right (by omega),Nat.sub_self,eB]
   rfl
  have segA:MA=((arrOf st).toList.drop pre.length).take MA.length:=by rw[hA];simp
  have segB:MB=((arrOf st).toList.drop (pre.length+MA.length)).take MB.length:=by
   rw[hA,←List.append_assoc,List.drop_left' (by simp)];simp
  have hsz':(arrOf st).size=pre.length+(MA.length+(MB.length+post.length)):=by rw[←harr];exact hsz
  refine wpS_bind (set_ok ?_)
  refine wpS_bind (elem_ok g0 ?_)
  refine wpS_bind (gal_list C X.T (arr:=arrOf st) (seg:=MA) lA (by omega) segA sA (SB b0 b0m) (λx hx=>⟨SA x hx,cr x hx b0 b0m⟩) (by exact R.kind) λk hk k1 k2=> ?_)
  dsimp only
  by_cases c1:MA.length - k=0
  ·rw[if_pos (by simpa using c1)]
   refine wpS_pure (h _ (MA++MB) (fin _ _ R.kind R.fail rfl (by rw[List.append_assoc];exact hA) (List.Perm.refl _) (List.pairwise_append.mpr ⟨sA,sB,λx hx y hy=> ?_⟩)))
   exact lt_all X.T sB SB (SA x hx) eB (k1 x (by rw[List.take_of_length_le (by omega)];exact hx)) y hy
  rw[if_neg (by simpa using c1)]
  have g1:(arrOf st)[pre.length+k+(MA.length - k) - 1]? =some aL:=by
   rw[←Array.getElem?_toList,hA,List.getElem?_append_right (by omega),List.getElem?_append_left (by omega),←eL]
   congr 1
   omega
  refine wpS_bind (elem_ok g1 ?_)
  refine wpS_bind (gal_list C X.T (arr:=arrOf st) (seg:=MB) (by omega) (by omega) segB sB (SA aL aLm) (λy hy=>⟨SB y hy,dif_symm (cr aL aLm y hy)⟩) (by exact R.kind) λnb hnb m1 m2=> ?_)
  dsimp only
  have low: ∀y,S y→L aL y=true→∀x∈MA,L x y=true:=λy hy e x hx=>all_lt X.T sA SA hy (n:=MA.length) lA eL e x (by rw[List.take_length];exact hx)
  by_cases c2:nb=0
  ·rw[if_pos (by simpa using c2)]
   refine wpS_pure (h _ (MA++MB) (fin _ _ R.kind R.fail rfl (by rw[List.append_assoc];exact hA) (List.Perm.refl _) (List.pairwise_append.mpr ⟨sA,sB,λx hx y hy=> ?_⟩)))
   exact low y (SB y hy) (m2 y (by rw[c2];exact hy)) x hx
  rw[if_neg (by simpa using c2)]
  have ex1:((arrOf st).extract (pre.length+k) (pre.length+MA.length)).toList=MA.drop k:=by
   rw[ex_top,hA,←List.append_assoc,List.take_left' (by simp),List.drop_append,List.drop_of_length_le (by omega),List.nil_append,Nat.add_sub_cancel_left]
  have ex2:((arrOf st).extract (pre.length+MA.length) (pre.length+MA.length+nb)).toList=MB.take nb:=by
   rw[ex_take,hA,←List.append_assoc,List.drop_left' (by simp),List.take_append_of_le_length hnb]
  have sz1:((arrOf st).extract (pre.length+k) (pre.length+MA.length)).size=MA.length - k:=by rw[←Array.length_toList,ex1,List.length_drop]
  have sz2:((arrOf st).extract (pre.length+MA.length) (pre.length+MA.length+nb)).size=nb:=by rw[←Array.length_toList,ex2,List.length_take,Nat.min_eq_left hnb]
  have h0: ∀y∈(MB.take nb).take 1,∀x∈MA.drop k,L y x=true:=λy hy x hx=>by
   rw[List.take_take,Nat.min_eq_left (by omega),eB] at hy
   rw[List.mem_singleton.mp hy]
   exact k2 x hx
  have hl: ∀y∈MB.take nb,∀x∈(MA.drop k).drop (MA.length - k - 1),L y x=true:=λy hy x hx=>by
   rw[List.drop_drop,show k+(MA.length - k - 1)=MA.length - 1 by omega,dropc eL,List.drop_of_length_le (by omega)] at hx
   rw[List.mem_singleton.mp hx]
   exact m1 y hy
  have sA':Srt L (MA.drop k):=sA.sublist (List.drop_sublist _ _)
  have sB':Srt L (MB.take nb):=sB.sublist (List.take_sublist _ _)
  split
  case' isTrue=>refine wpS_bind (mergeLo_ok C X.T (by rw[ex1];exact sA') (by rw[ex2];exact sB') (by rw[ex1];exact λx hx=>SA x (List.mem_of_mem_drop hx)) (by rw[ex2];exact λx hx=>SB x (List.mem_of_mem_take hx)) (by rw[ex1,ex2];exact λx hx y hy=>cr x (List.mem_of_mem_drop hx) y (List.mem_of_mem_take hy)) (by rw[sz1];omega) (by rw[sz2];omega) (by rw[ex1,ex2];exact h0) (by rw[ex1,ex2,sz1];exact hl) (by exact R.kind) λr st2 sg g=> ?_)
  case' isFalse=>refine wpS_bind (mergeHi_ok C X.T (by rw[ex1];exact sA') (by rw[ex2];exact sB') (by rw[ex1];exact λx hx=>SA x (List.mem_of_mem_drop hx)) (by rw[ex2];exact λx hx=>SB x (List.mem_of_mem_take hx)) (by rw[ex1,ex2];exact λx hx y hy=>cr x (List.mem_of_mem_drop hx) y (List.mem_of_mem_take hy)) (by rw[sz1];omega) (by rw[sz2];omega) (by rw[ex1,ex2];exact h0) (by rw[ex1,ex2,sz1];exact hl) (by exact R.kind) λr st2 sg g=> ?_)
  all_goals
   rw[ex1,ex2] at g
   obtain⟨gp,gs⟩:=g
   have rl:r.toList.length=MA.length - k+nb:=by rw[gp.length_eq,List.length_append,List.length_drop,List.length_take,Nat.min_eq_left hnb]
   refine wpS_bind (wpS_modify ?_)
   refine wpS_bind (wpS_get ?_)
   refine wpS_pure ?_
   have hf:failedOf st2=none:=sg.fail.trans R.fail
   have wl:=write_list (pre.length+k) r.toList 0 (arrOf st2) (by rw[sg.arr];show _≤(arrOf st).size;omega)
   suffices hq:Q (Option.isNone (none:Option Value)) _ by rw[←hf] at hq;exact hq
   refine h _ (MA.take k++(r.toList++MB.drop nb)) (fin _ _ (sg.kind.trans R.kind) hf sg.pend ?_ ?_ ?_)
   ·refine wl.trans ?_
    rw[show arrOf st2=arrOf st from sg.arr,hA,rl,Nat.add_zero,List.take_append,List.take_of_length_le (by omega),Nat.add_sub_cancel_left,List.take_append_of_le_length hk]
    rw[List.drop_append,List.drop_of_length_le (by omega),List.nil_append,List.drop_append,List.drop_of_length_le (by omega),List.nil_append,show pre.length+k+(MA.length - k+nb) - pre.length - MA.length=nb by omega,List.drop_append_of_le_length hnb]
    simp only[List.append_assoc]
   ·refine(List.Perm.append_left _ (gp.append_right _)).trans ?_
    rw[List.append_assoc,List.take_append_drop,←List.append_assoc,List.take_append_drop]
   ·have rm: ∀x∈r.toList,x∈MA.drop k∨x∈MB.take nb:=λx hx=>List.mem_append.mp (gp.mem_iff.mp hx)
    refine List.pairwise_append.mpr ⟨sA.sublist (List.take_sublist _ _),List.pairwise_append.mpr ⟨gs,sB.sublist (List.drop_sublist _ _),λx hx y hy=> ?_⟩,λx hx y hy=> ?_⟩
    ·rcases rm x hx with hx|hx
     ·exact low y (SB y (List.mem_of_mem_drop hy)) (m2 y hy) x (List.mem_of_mem_drop hx)
     ·exact srt_split sB nb x hx y hy
    ·have xb: ∀z∈MB,L x z=true:=lt_all X.T sB SB (SA x (List.mem_of_mem_take hx)) eB (k1 x hx)
     rcases List.mem_append.mp hy with hy|hy
     ·rcases rm y hy with hy|hy
      ·exact srt_split sA k x hx y hy
      ·exact xb y (List.mem_of_mem_take hy)
     ·exact xb y (List.mem_of_mem_drop hy)
 ·rename_i e
  exact(e _ _ _ _ _ _ (Prod.ext hp1 hp2)).elim
end
end Ts
end L2
set_option Elab.async false
set_option linter.all false
set_option maxRecDepth 100000
namespace L2
open PySem PySem.Spec PyProof.Rows PySem.W
namespace Ts
structure Ar(κ:SortKind)(P:Array (Nat×Nat×Nat))(pre rest:List Keyed)(st:SortSt):Prop where
 kind:kindOf st=κ
 fail:failedOf st=none
 pend:pendingOf st=P
 arr:(arrOf st).toList=pre++rest
theorem Ar.get{κ:SortKind}{P:Array (Nat×Nat×Nat)}{pre rest:List Keyed}{st:SortSt}(a:Ar κ P pre rest st){i:Nat}{x:Keyed}(h:rest[i]? =some x):(arrOf st)[pre.length+i]? =some x:=by
 rw[←Array.getElem?_toList,a.arr,List.getElem?_append_right (by omega),Nat.add_sub_cancel_left,h]
theorem TO.flip{S:Keyed→Prop}{L:Keyed→Keyed→Bool}(T:TO S L):TO S λx y=>L y x:=⟨λx y z a b c h1 h2=>T.tr z y x c b a h2 h1,λx y a b h=>T.asy y x b a h⟩
section
variable {prog:Program} {w:World} {A:Around} {E:Value→Shared→Prop} {s:Shared} {κ:SortKind} {L:Keyed→Keyed→Bool} {S:Keyed→Prop} {st:SortSt} {l₀:List Keyed} {P:Array (Nat×Nat×Nat)} {pre rest:List Keyed}
theorem loop_ok'{β γ:Type}{a n:Nat}{f:Nat→β→StateT SortSt Sem (ForInStep β)}{g:β→StateT SortSt Sem γ}{c:β}{Q:γ→SortSt→Prop}(I:Nat→β→SortSt→Prop)(R:β→SortSt→Prop)(h0:I a c st)
  (step: ∀i c st,a≤i→i<n→I i c st→wpS (model prog w) A E s (f i c) (λr st'=>match r with | .done c'=>R c' st'| .yield c'=>I (i+1) c' st') st) (fin: ∀c st,I (max a n) c st→R c st)
  (k: ∀c st,R c st→wpS (model prog w) A E s (g c) Q st):wpS (model prog w) A E s (forIn [a:n] c f>>=g) Q st:=by
 refine wpS_bind (wpS_mono (wpS_forRange (a:=a) (b:=n) I (Q:=R) step fin h0) λc st h=>k c st h)
theorem ltAt_ok(C:Cmp prog w A E s κ L S){i j:Nat}{x y:Keyed}{Q:Option Bool→SortSt→Prop}(hk:kindOf st=κ)(hx:(arrOf st)[i]? =some x)(hy:(arrOf st)[j]? =some y)(sx:S x)(sy:S y)(q:Q (some (L x y)) st):wpS (model prog w) A E s (ltAt' i j) Q st:=by
 rw[ltAt'_eq]
 refine wpS_bind (wpS_get ?_)
 refine wpS_bind (elem_ok hx ?_)
 refine wpS_bind (elem_ok hy ?_)
 exact C st x y _ hk sx sy q
theorem asc_ext(T:TO S L){l:List Keyed}{n:Nat}{x y:Keyed}(Sl: ∀x∈l,S x)(hn:1≤n)(hx:l[n - 1]? =some x)(hy:l[n]? =some y)(sl:Srt L (l.take n))(h:L x y=true):Srt L (l.take (n+1)):=by
 obtain⟨hi,e⟩:=List.getElem?_eq_some_iff.mp hy
 have e1:l.take (n+1)=l.take n++[y]:=by rw[List.take_succ,hy];rfl
 rw[e1]
 refine List.pairwise_append.mpr ⟨sl,List.pairwise_singleton _ _,λz hz y' hy'=> ?_⟩
 rw[List.mem_singleton.mp hy']
 have:=all_lt T (l:=l.take n) (n:=n) sl (λx hx=>Sl x (List.mem_of_mem_take hx)) (Sl y (List.mem_of_getElem? hy)) hn (x:=x) (by rw[List.getElem?_take_of_lt (by omega)];exact hx) h
 exact this z (by rw[List.take_take,Nat.min_self];exact hz)
theorem srt_one{l:List Keyed}:Srt L (l.take 1):=by
 cases l with
 |nil=>exact List.Pairwise.nil
 |cons a l=>exact List.pairwise_singleton _ _
theorem rev_ok{n:Nat}(hn:n≤rest.length)(a:Ar κ P pre rest st){Q:Unit→SortSt→Prop}(h: ∀st',Ar κ P pre ((rest.take n).reverse++rest.drop n) st'→Q () st'):wpS (model prog w) A E s (reverseSlice' pre.length (pre.length+n)) Q st:=by
 rw[reverseSlice'_eq]
 refine wpS_modify (h _ ⟨a.kind,a.fail,a.pend,?_⟩)
 show(mirror (arrOf st) pre.length (pre.length+n) ((pre.length+n - pre.length)/2)).toList=_
 have hs:(arrOf st).size=pre.length+rest.length:=by rw[←Array.length_toList,a.arr,List.length_append]
 refine List.ext_getElem? λk=> ?_
 rw[Array.getElem?_toList,getElem?_mirror_all (by omega),←Array.getElem?_toList,←Array.getElem?_toList,a.arr]
 by_cases h1:k<pre.length
 ·rw[if_neg (by omega),List.getElem?_append_left h1,List.getElem?_append_left h1]
 ·have h1':pre.length≤k:=by omega
  rw[List.getElem?_append_right h1',List.getElem?_append_right h1']
  by_cases h2:k<pre.length+n
  ·rw[if_pos ⟨by omega,h2⟩,List.getElem?_append_right (by omega),List.getElem?_append_left (by simp;omega),List.getElem?_reverse (by simp;omega),List.getElem?_take_of_lt (by simp;omega)]
   congr 1
   simp
   omega
  ·rw[if_neg (by omega),List.getElem?_append_right (by simp;omega),List.getElem?_drop]
   congr 1
   simp
   omega
theorem move_ok{k l:Nat}{x:Keyed}(hl:l≤k)(hx:rest[k]? =some x)(a:Ar κ P pre rest st){Q:Unit→SortSt→Prop}(h: ∀st',Ar κ P pre (rest.take l++(x::((rest.drop l).take (k - l)++rest.drop (k+1)))) st'→Q () st'):wpS (model prog w) A E s (moveDown' (pre.length+k) (pre.length+l)) Q st:=by
 rw[moveDown'_eq]
 refine wpS_modify (h _ ⟨a.kind,a.fail,a.pend,?_⟩)
 show(bubble (arrOf st) (pre.length+k) (pre.length+k - (pre.length+l))).toList=_
 have hk:=(List.getElem?_eq_some_iff.mp hx).1
 have hs:(arrOf st).size=pre.length+rest.length:=by rw[←Array.length_toList,a.arr,List.length_append]
 refine List.ext_getElem? λi=> ?_
 rw[Array.getElem?_toList,getElem?_bubble (by omega) _ (by omega),a.get hx]
 by_cases h1:i<pre.length
 ·rw[if_neg (by omega),if_neg (by omega),←Array.getElem?_toList,a.arr,List.getElem?_append_left h1,List.getElem?_append_left h1]
 obtain⟨j,rfl⟩: ∃j,i=pre.length+j:=⟨i - pre.length,by omega⟩
 rw[List.getElem?_append_right (by omega),Nat.add_sub_cancel_left]
 by_cases h2:j<l
 ·rw[if_neg (by omega),if_neg (by omega),←Array.getElem?_toList,a.arr,List.getElem?_append_right (by omega),Nat.add_sub_cancel_left,List.getElem?_append_left (by simp;omega),List.getElem?_take_of_lt h2]
 rw[List.getElem?_append_right (by simp;omega),List.length_take,Nat.min_eq_left (by omega)]
 by_cases h3:j=l
 ·rw[if_pos (by omega),h3,Nat.sub_self]
  rfl
 rw[if_neg (by omega)]
 obtain⟨m,hm⟩: ∃m,j - l=m+1:=⟨j - l - 1,by omega⟩
 rw[hm,List.getElem?_cons_succ]
 by_cases h4:j≤k
 ·rw[if_pos ⟨by omega,by omega⟩,←Array.getElem?_toList,a.arr,List.getElem?_append_right (by omega),List.getElem?_append_left (by simp;omega),List.getElem?_take_of_lt (by omega),List.getElem?_drop]
  congr 1
  omega
 ·rw[if_neg (by omega),←Array.getElem?_toList,a.arr,List.getElem?_append_right (by omega),List.getElem?_append_right (by simp;omega),List.getElem?_drop]
  congr 1
  simp
  omega
end
end Ts
end L2
set_option Elab.async false
set_option linter.all false
set_option maxRecDepth 100000
namespace L2
open PySem PySem.Spec PyProof.Rows PySem.W
namespace Ts
section
variable {prog:Program} {w:World} {A:Around} {E:Value→Shared→Prop} {s:Shared} {κ:SortKind} {L:Keyed→Keyed→Bool} {S:Keyed→Prop} {st:SortSt} {l₀:List Keyed} {P:Array (Nat×Nat×Nat)} {pre rest:List Keyed}
theorem dif_at{l:List Keyed}(d:l.Pairwise (Dif L)){i j:Nat}{u v:Keyed}(hij:i<j)(hu:l[i]? =some u)(hv:l[j]? =some v):Dif L u v:=by
 obtain⟨h1,e1⟩:=List.getElem?_eq_some_iff.mp hu
 obtain⟨h2,e2⟩:=List.getElem?_eq_some_iff.mp hv
 have:=List.pairwise_iff_getElem.mp d i j h1 h2 hij
 rw[e1,e2] at this
 exact this
theorem srt_at{l:List Keyed}(d:Srt L l){i j:Nat}{u v:Keyed}(hij:i<j)(hu:l[i]? =some u)(hv:l[j]? =some v):L u v=true:=by
 obtain⟨h1,e1⟩:=List.getElem?_eq_some_iff.mp hu
 obtain⟨h2,e2⟩:=List.getElem?_eq_some_iff.mp hv
 have:=List.pairwise_iff_getElem.mp d i j h1 h2 hij
 rw[e1,e2] at this
 exact this
theorem ex_at{l:List Keyed}{i:Nat}(h:i<l.length): ∃x,l[i]? =some x:=⟨_,List.getElem?_eq_getElem h⟩
theorem countRun_ok(C:Cmp prog w A E s κ L S)(T:TO S L)(Sr: ∀x∈rest,S x)(dis:rest.Pairwise (Dif L))(a:Ar κ P pre rest st)(h1:1≤rest.length){Q:Option Nat→SortSt→Prop}
  (h: ∀m rest' st',Ar κ P pre rest' st'→rest'.Perm rest→1≤m→m≤rest.length→Srt L (rest'.take m)→Q (some m) st'):wpS (model prog w) A E s (countRun' pre.length rest.length) Q st:=by
 have sm: ∀{l:List Keyed} {i:Nat} {x:Keyed},(∀x∈l,S x)→l[i]? =some x→S x:=λhS e=>hS _ (List.mem_of_getElem? e)
 refine loop_ok' (a:=1) (n:=rest.length) (λi c st'=>st=st'∧c=(none,i)∧Srt L (rest.take i))
  (λc st'=>st=st'∧∃n,c=(none,n)∧1≤n∧n≤rest.length∧Srt L (rest.take n)∧(n<rest.length→∃x y,rest[n]? =some x∧rest[n - 1]? =some y∧L x y=true)) ⟨rfl,rfl,srt_one⟩ ?_ ?_ ?_
 ·rintro i _ _ g1 g2 ⟨rfl,rfl,g3⟩
  dsimp only
  obtain⟨x,hx⟩:=ex_at (l:=rest) (i:=i) g2
  obtain⟨y,hy⟩:=ex_at (l:=rest) (i:=i - 1) (by omega)
  refine wpS_bind (ltAt_ok C a.kind (a.get hx) (by rw[show pre.length+i - 1=pre.length+(i - 1) by omega];exact a.get hy) (sm Sr hx) (sm Sr hy) ?_)
  dsimp only
  cases hc:L x y with
  |true=>exact wpS_pure ⟨rfl,i,rfl,g1,by omega,g3,λ_=>⟨x,y,hx,hy,hc⟩⟩
  |false=>
   refine wpS_pure ⟨rfl,rfl,asc_ext T Sr g1 hy hx g3 ?_⟩
   have:=dif_at dis (by omega) hy hx
   rw[Dif,hc] at this
   simpa using this.symm
 ·rintro _ _ ⟨rfl,rfl,g3⟩
  rw[Nat.max_eq_right h1] at g3⊢
  exact⟨rfl,_,rfl,h1,Nat.le_refl _,g3,λh=>by omega⟩
 ·rintro _ _ ⟨rfl,n,rfl,g1,g2,g3,g4⟩
  dsimp only
  by_cases c1:n=rest.length
  ·rw[if_pos (by simpa using c1)]
   exact wpS_pure (h n rest _ a (List.Perm.refl _) g1 g2 g3)
  rw[if_neg (by simpa using c1)]
  obtain⟨x,y,hx,hy,hxy⟩:=g4 (by omega)
  by_cases c2:n>1
  ·rw[if_pos c2]
   obtain⟨z,hz⟩:=ex_at (l:=rest) (i:=0) (by omega)
   refine wpS_bind (ltAt_ok C a.kind (a.get hz) (by rw[show pre.length+n - 1=pre.length+(n - 1) by omega];exact a.get hy) (sm Sr hz) (sm Sr hy) ?_)
   dsimp only
   rw[srt_at g3 (i:=0) (j:=n - 1) (by omega) (by rw[List.getElem?_take_of_lt (by omega)];exact hz) (by rw[List.getElem?_take_of_lt (by omega)];exact hy),if_pos rfl]
   exact wpS_pure (h n rest _ a (List.Perm.refl _) g1 g2 g3)
  rw[if_neg c2]
  have hn:n=1:=by omega
  subst hn
  refine wpS_bind (wpS_lift (wpAny_rule ⟨rfl,?_⟩))
  have s2:Srt (λx y=>L y x) (rest.take 2):=asc_ext (L:=λx y=>L y x) T.flip Sr (n:=1) (by omega) hy hx srt_one hxy
  refine loop_ok' (a:=1+1) (n:=rest.length) (λi c st'=>st=st'∧c=(none,i,0)∧Srt (λx y=>L y x) (rest.take i))
   (λc st'=>st=st'∧∃n,c=(none,n,0)∧2≤n∧n≤rest.length∧Srt (λx y=>L y x) (rest.take n)) ⟨rfl,rfl,s2⟩ ?_ ?_ ?_
  ·rintro i _ _ q1 q2 ⟨rfl,rfl,q3⟩
   dsimp only
   obtain⟨x,hx⟩:=ex_at (l:=rest) (i:=i) q2
   obtain⟨y,hy⟩:=ex_at (l:=rest) (i:=i - 1) (by omega)
   have ay:=a.get hy
   rw[show pre.length+(i - 1)=pre.length+i - 1 by omega] at ay
   refine wpS_bind (ltAt_ok C a.kind (a.get hx) ay (sm Sr hx) (sm Sr hy) ?_)
   dsimp only
   cases hc:L x y with
   |true=>
    rw[if_pos rfl,if_neg (by decide)]
    exact wpS_pure ⟨rfl,rfl,asc_ext (L:=λx y=>L y x) T.flip Sr (by omega) hy hx q3 hc⟩
   |false=>
    rw[if_neg (by decide)]
    refine wpS_bind (ltAt_ok C a.kind ay (a.get hx) (sm Sr hy) (sm Sr hx) ?_)
    dsimp only
    have:=dif_at dis (by omega) hy hx
    rw[Dif,hc] at this
    have e:L y x=true:=by simpa using this.symm
    rw[e,if_pos rfl]
    exact wpS_pure ⟨rfl,i,rfl,by omega,by omega,q3⟩
  ·rintro _ _ ⟨rfl,rfl,q3⟩
   rw[Nat.max_eq_right (by omega)] at q3⊢
   exact⟨rfl,_,rfl,by omega,Nat.le_refl _,q3⟩
  ·rintro _ _ ⟨rfl,n,rfl,q1,q2,q3⟩
   dsimp only
   rw[if_neg (by decide)]
   refine wpS_bind (rev_ok q2 a λst2 a2=> ?_)
   have pm:((rest.take n).reverse++rest.drop n).Perm rest:=by
    refine((List.reverse_perm _).append_right _).trans ?_
    rw[List.take_append_drop]
   have lr:((rest.take n).reverse++rest.drop n).length=rest.length:=pm.length_eq
   have Sr': ∀x∈(rest.take n).reverse++rest.drop n,S x:=λx hx=>Sr x (pm.mem_iff.mp hx)
   have dis':((rest.take n).reverse++rest.drop n).Pairwise (Dif L):=(List.Perm.pairwise_iff (λ{_ _} h=>dif_symm h) pm).mpr dis
   have s3:Srt L (((rest.take n).reverse++rest.drop n).take n):=by
    rw[List.take_append_of_le_length (by simp;omega),List.take_of_length_le (by simp;omega)]
    exact List.pairwise_reverse.mpr q3
   generalize (rest.take n).reverse++rest.drop n=r2 at*
   refine loop_ok' (a:=n) (n:=rest.length) (λi c st'=>st2=st'∧c=(none,i)∧Srt L (r2.take i))
    (λc st'=>st2=st'∧∃n,c=(none,n)∧1≤n∧n≤rest.length∧Srt L (r2.take n)) ⟨rfl,rfl,s3⟩ ?_ ?_ ?_
   ·rintro i _ _ v1 v2 ⟨rfl,rfl,v3⟩
    dsimp only
    obtain⟨x,hx⟩:=ex_at (l:=r2) (i:=i) (by omega)
    obtain⟨y,hy⟩:=ex_at (l:=r2) (i:=i - 1) (by omega)
    refine wpS_bind (ltAt_ok C a2.kind (a2.get hx) (by rw[show pre.length+i - 1=pre.length+(i - 1) by omega];exact a2.get hy) (sm Sr' hx) (sm Sr' hy) ?_)
    dsimp only
    cases hc:L x y with
    |true=>exact wpS_pure ⟨rfl,i,rfl,by omega,by omega,v3⟩
    |false=>
     refine wpS_pure ⟨rfl,rfl,asc_ext T Sr' (by omega) hy hx v3 ?_⟩
     have:=dif_at dis' (by omega) hy hx
     rw[Dif,hc] at this
     simpa using this.symm
   ·rintro _ _ ⟨rfl,rfl,v3⟩
    rw[Nat.max_eq_right q2] at v3⊢
    exact⟨rfl,_,rfl,h1,Nat.le_refl _,v3⟩
   ·rintro _ _ ⟨rfl,m,rfl,v1,v2,v3⟩
    exact wpS_pure (h m r2 _ a2 pm v1 v2 v3)
theorem binary_ok(C:Cmp prog w A E s κ L S)(T:TO S L)(Sr: ∀x∈rest,S x)(dis:rest.Pairwise (Dif L))(a:Ar κ P pre rest st){n ok:Nat}(h1:1≤ok)(h2:ok≤n)(h3:n≤rest.length)(so:Srt L (rest.take ok)){Q:Bool→SortSt→Prop}
  (h: ∀rest' st',Ar κ P pre rest' st'→rest'.Perm rest→Srt L (rest'.take n)→Q true st'):wpS (model prog w) A E s (binarySort' pre.length n ok) Q st:=by
 have mx:max ok 1=ok:=by omega
 refine loop_ok' (a:=max ok 1) (n:=n) (λi c st'=>c=(none,())∧∃r,Ar κ P pre r st'∧r.Perm rest∧Srt L (r.take i))
  (λc st'=>c=(none,())∧∃r,Ar κ P pre r st'∧r.Perm rest∧Srt L (r.take n)) ⟨rfl,rest,a,List.Perm.refl _,by rw[mx];exact so⟩ ?_ ?_ ?_
 ·rintro k _ st1 g1 g2 ⟨rfl,r,a1,pm,sr⟩
  dsimp only
  have lr:=pm.length_eq
  have Sr': ∀x∈r,S x:=λx hx=>Sr x (pm.mem_iff.mp hx)
  have dis':r.Pairwise (Dif L):=(List.Perm.pairwise_iff (λ{_ _} h=>dif_symm h) pm).mpr dis
  obtain⟨x,hx⟩:=ex_at (l:=r) (i:=k) (by omega)
  have sx:=Sr' x (List.mem_of_getElem? hx)
  refine loop_ok (n:=k) (λi c st'=>st1=st'∧∃l u,c=(none,l,u)∧l≤u∧u≤k∧(∀y∈r.take l,L y x=true)∧(∀y∈(r.take k).drop u,L x y=true)∧u - l≤k - i)
   (λc st'=>st1=st'∧∃l,c=(none,l,l)∧l≤k∧(∀y∈r.take l,L y x=true)∧(∀y∈(r.take k).drop l,L x y=true))
   ⟨rfl,0,k,rfl,by omega,by omega,(λy hy=>by cases hy),(λy hy=>by rw[List.drop_of_length_le (by simp;omega)] at hy;cases hy),by omega⟩ ?_ ?_ ?_
  ·rintro i _ _ hi ⟨rfl,l,u,rfl,q1,q2,q3,q4,q5⟩
   dsimp only
   by_cases hm:l≥u
   ·rw[if_pos hm]
    have:l=u:=by omega
    subst this
    exact wpS_pure ⟨rfl,l,rfl,q2,q3,q4⟩
   rw[if_neg hm]
   obtain⟨y,hy⟩:=ex_at (l:=r) (i:=(l+u)/2) (by omega)
   have sy:=Sr' y (List.mem_of_getElem? hy)
   refine wpS_bind (ltAt_ok C a1.kind (a1.get hx) (a1.get hy) sx sy ?_)
   dsimp only
   have hyk:(r.take k)[(l+u)/2]? =some y:=by rw[List.getElem?_take_of_lt (by omega)];exact hy
   have St: ∀x∈r.take k,S x:=λx hx=>Sr' x (List.mem_of_mem_take hx)
   cases hc:L x y with
   |true=>
    refine wpS_pure ⟨rfl,l,(l+u)/2,rfl,by omega,by omega,q3,?_,by omega⟩
    exact lt_all T (sr.sublist (List.drop_sublist _ _)) (λz hz=>St z (List.mem_of_mem_drop hz)) sx (dropc hyk) hc
   |false=>
    refine wpS_pure ⟨rfl,(l+u)/2+1,u,rfl,by omega,q2,?_,q4,by omega⟩
    have e:L y x=true:=by
     have:=dif_at dis' (by omega) hy hx
     rw[Dif,hc] at this
     simpa using this.symm
    have:=all_lt T sr St sx (n:=(l+u)/2+1) (by omega) (x:=y) (by rw[Nat.add_sub_cancel];exact hyk) e
    rw[List.take_take,Nat.min_eq_left (by omega)] at this
    exact this
  ·rintro _ _ ⟨rfl,l,u,rfl,q1,q2,q3,q4,q5⟩
   have:l=u:=by omega
   subst this
   exact⟨rfl,l,rfl,q2,q3,q4⟩
  ·rintro _ _ ⟨rfl,l,rfl,q1,q2,q3⟩
   dsimp only
   refine wpS_bind (move_ok q1 hx a1 λst2 a2=> ?_)
   have e0:(r.drop l).take (k - l)=(r.take k).drop l:=(List.drop_take).symm
   refine wpS_pure ⟨rfl,_,a2,?_,?_⟩
   ·refine List.Perm.trans ?_ pm
    have e1:r=r.take l++((r.drop l).take (k - l)++(x::r.drop (k+1))):=by
     rw[←dropc hx,show r.drop k=(r.drop l).drop (k - l) by rw[List.drop_drop];congr 1;omega,List.take_append_drop,List.take_append_drop]
    conv=>rhs;rw[e1]
    exact List.Perm.append_left _ List.perm_middle.symm
   ·have e2:r.take l++(x::((r.drop l).take (k - l)++r.drop (k+1)))=(r.take l++(x::(r.take k).drop l))++r.drop (k+1):=by rw[e0];simp
    rw[e2,List.take_left' (by simp;omega)]
    refine List.pairwise_append.mpr ⟨?_,List.pairwise_cons.mpr ⟨q3,sr.sublist (List.drop_sublist _ _)⟩,λy hy z hz=> ?_⟩
    ·rw[seg_take q1];exact sr.sublist (List.take_sublist _ _)
    ·rcases List.mem_cons.mp hz with rfl|hz
     ·exact q2 y hy
     ·rw[seg_take q1] at hy
      exact srt_split sr l y hy z hz
 ·rintro _ _ ⟨rfl,r,a1,pm,sr⟩
  rw[mx,Nat.max_eq_right h2] at sr
  exact⟨rfl,r,a1,pm,sr⟩
 ·rintro _ st1 ⟨rfl,r,a1,pm,sr⟩
  exact wpS_pure (h r st1 a1 pm sr)
end
end Ts
end L2
set_option Elab.async false
set_option linter.all false
set_option maxRecDepth 100000
namespace L2
open PySem PySem.Spec PyProof.Rows PySem.W
namespace Ts
section
variable {prog:Program} {w:World} {A:Around} {E:Value→Shared→Prop} {s:Shared} {κ:SortKind} {L:Keyed→Keyed→Bool} {S:Keyed→Prop} {st:SortSt} {l₀:List Keyed} {segs:List (List Keyed×Nat)} {rest:List Keyed}
theorem Rs.ar(R:Rs κ L l₀ segs rest st):Ar κ (mkP 0 segs).toArray (flat segs) rest st:=⟨R.kind,R.fail,R.pend,R.arr⟩
theorem Rs.of{rest':List Keyed}{st':SortSt}(R:Rs κ L l₀ segs rest st)(a:Ar κ (mkP 0 segs).toArray (flat segs) rest' st')(p:rest'.Perm rest):Rs κ L l₀ segs rest' st':=by
 refine⟨a.kind,a.fail,?_,a.arr,a.pend,R.srt⟩
 have:=R.perm
 rw[R.arr] at this
 rw[a.arr]
 exact(List.Perm.append_left _ p).trans this
theorem Rs.len(R:Rs κ L l₀ segs rest st):(flat segs).length+rest.length=l₀.length:=by
 rw[←R.perm.length_eq,R.arr,List.length_append]
theorem Rs.many(R:Rs κ L l₀ segs rest st):segs.length≤(flat segs).length:=by
 have:=R.srt
 clear R
 induction segs with
 |nil=>simp[flat]
 |cons a l ih=>
  rw[flat_cons,List.length_cons,List.length_append]
  have h1:=ih λs hs=>this s (by simp[hs])
  have h2:0<a.1.length:=List.length_pos_iff.mpr (this a (by simp)).2
  omega
theorem Rs.size(R:Rs κ L l₀ segs rest st):(pendingOf st).size=segs.length:=by rw[R.pend,List.size_toArray,mkP_len]
theorem split_last{α:Type}{l:List α}(h:l≠[]): ∃xs a,l=xs++[a]:=⟨l.dropLast,l.getLast h,(List.dropLast_concat_getLast h).symm⟩
theorem split_two{α:Type}{l:List α}{i:Nat}(h:i+1<l.length): ∃xs a b ys,l=xs++a::b::ys∧xs.length=i:=by
 refine⟨l.take i,l[i],l[i+1],l.drop (i+1+1),?_,by simp;omega⟩
 rw[←List.drop_eq_getElem_cons h,←List.drop_eq_getElem_cons (by omega),List.take_append_drop]
theorem flat_one{l:List Keyed}{p:Nat}:(flat [(l,p)]).length=l.length:=by simp[flat]
theorem Rs.push{n:Nat}{st':SortSt}(R:Rs κ L l₀ segs rest st)(h1:1≤n)(h2:n≤rest.length)(so:Srt L (rest.take n))(e:st'=setPending st ((pendingOf st).push ((flat segs).length,n,0))):Rs κ L l₀ (segs++[(rest.take n,0)]) (rest.drop n) st':=by
 subst e
 have hl:(rest.take n).length=n:=by rw[List.length_take,Nat.min_eq_left h2]
 refine⟨R.kind,R.fail,R.perm,?_,?_,?_⟩
 ·show(arrOf st).toList=_
  rw[R.arr,flat_app,flat_cons]
  simp[flat]
 ·show(pendingOf st).push _=_
  rw[R.pend,mkP_app]
  simp[mkP,hl]
 ·intro z hz
  rcases List.mem_append.mp hz with hz|hz
  ·exact R.srt z hz
  ·rw[List.mem_singleton.mp hz]
   exact⟨so,List.length_pos_iff.mp (by rw[hl];omega)⟩
theorem mod_last{α:Type}(P:List α)(a:α)(f:α→α):(P++[a]).modify P.length f=P++[f a]:=by
 induction P with
 |nil=>rfl
 |cons x P ih=>simp[ih]
theorem Rs.mark{xs:List (List Keyed×Nat)}{B:List Keyed}{p q:Nat}(R:Rs κ L l₀ (xs++[(B,p)]) rest st){st':SortSt}(e:st'=setPending st ((pendingOf st).modify ((pendingOf st).size - 1) λx=>match x with |(a,b,_)=>(a,b,q))):Rs κ L l₀ (xs++[(B,q)]) rest st':=by
 subst e
 refine⟨R.kind,R.fail,R.perm,?_,?_,?_⟩
 ·show(arrOf st).toList=_
  rw[R.arr,flat_app,flat_app]
  simp[flat]
 ·have e0: ∀f,pendingOf (setPending st f)=f:=λ_=>rfl
  rw[e0,R.size,R.pend,mkP_app,mkP_app]
  apply Array.ext'
  have hl:(xs++[(B,p)]).length - 1=(mkP 0 xs).length:=by rw[mkP_len];simp
  rw[hl]
  simp only[mkP,Nat.zero_add,Array.toList_modify,mod_last]
 ·intro z hz
  rcases List.mem_append.mp hz with hz|hz
  ·exact R.srt z (by simp[hz])
  ·rw[List.mem_singleton.mp hz]
   exact R.srt (B,p) (by simp)
theorem ite_le'(c:Prop)[Decidable c](n:Nat):(if c then n - 1 else n)≤n:=by split<;>omega
theorem mergeAny(C:Cmp prog w A E s κ L S)(X:Ax S L l₀)(R:Rs κ L l₀ segs rest st){I:Nat}(hI:I+1<segs.length){Q:Bool→SortSt→Prop}(h: ∀st' segs',Rs κ L l₀ segs' rest st'→segs'.length+1=segs.length→Q true st'):wpS (model prog w) A E s (mergeAt' I) Q st:=by
 obtain⟨ys,⟨MA,pa⟩,⟨MB,pb⟩,zs,e,hy⟩:=split_two hI
 rw[e] at R
 refine mergeAt_ok C X R hy λst4 M R4=>h st4 _ R4 ?_
 rw[e]
 simp
 omega
theorem sortRuns_ok(C:Cmp prog w A E s κ L S)(X:Ax S L l₀)(R0:Rs κ L l₀ [] l₀ st){Q:Unit→SortSt→Prop}
  (h: ∀st',failedOf st'=none→(arrOf st').toList.Perm l₀→Srt L (arrOf st').toList→Q () st'):wpS (model prog w) A E s sortRuns' Q st:=by
 have hs:(arrOf st).size=l₀.length:=by rw[←Array.length_toList,R0.perm.length_eq]
 have sub: ∀{segs rest st},Rs κ L l₀ segs rest st→(∀x∈rest,S x)∧rest.Pairwise (Dif L):=λ{segs rest st} R=>by
  have d:=X.dif R.perm
  have m: ∀x∈(arrOf st).toList,S x:=λx hx=>X.inS x (R.perm.mem_iff.mp hx)
  rw[R.arr] at d m
  exact⟨λx hx=>m x (by simp[hx]),(List.pairwise_append.mp d).2.1⟩
 rw[sortRuns'_eq]
 refine wpS_bind (wpS_get ?_)
 dsimp only
 rw[hs]
 generalize hmr:minRun' l₀.length l₀.length 0=mr
 refine loop_ok (λi c st'=> ∃segs rest,Rs κ L l₀ segs rest st'∧c=(none,(flat segs).length)∧i≤(flat segs).length)
  (λc st'=> ∃segs lo,Rs κ L l₀ segs [] st'∧c=(none,lo)) ⟨[],l₀,R0,rfl,Nat.zero_le _⟩ ?_ ?_ ?_
 ·rintro i _ st1 hi ⟨segs,rest,R,rfl,q1⟩
  dsimp only
  have hl:=R.len
  by_cases c1:(flat segs).length≥l₀.length
  ·rw[if_pos c1]
   have:rest=[]:=List.length_eq_zero_iff.mp (by omega)
   subst this
   exact wpS_pure ⟨segs,_,R,rfl⟩
  rw[if_neg c1,show l₀.length - (flat segs).length=rest.length by omega]
  obtain⟨Sr,dis⟩:=sub R
  refine wpS_bind (countRun_ok C X.T Sr dis R.ar (by omega) λn rest' st2 a2 pm g1 g2 g3=> ?_)
  dsimp only
  have R2:=R.of a2 pm
  have hr:=pm.length_eq
  by_cases c2:n<mr
  case' pos=>
   rw[if_pos c2]
   refine wpS_bind (wpS_lift (wpAny_rule ⟨rfl,?_⟩))
   obtain⟨Sr2,dis2⟩:=sub R2
   refine wpS_bind (binary_ok C X.T Sr2 dis2 R2.ar (n:=min rest.length mr) g1 (by omega) (by omega) g3 λrest3 st2 a3 pm3 g3=> ?_)
   rw[if_neg (by decide)]
   replace R2:=R2.of a3 pm3
   have hr3:=pm3.length_eq
   replace g1:1≤min rest.length mr:=by omega
   replace g2:min rest.length mr≤rest3.length:=by omega
   clear a2 c2
   generalize min rest.length mr=n at*
  case' neg=>
   rw[if_neg c2]
   replace g2:n≤rest'.length:=by omega
   generalize rest'=rest3 at*
  all_goals
   refine wpS_bind (wpS_get ?_)
   have hl2:=R2.len
   by_cases he:segs=[]
   ·subst he
    have hb:(pendingOf st2).back?=none:=by rw[R2.pend];rfl
    rw[hb]
    dsimp only
    refine wpS_bind (wpS_modify ?_)
    refine wpS_pure ⟨_,_,R2.push g1 g2 g3 rfl,?_,?_⟩
    ·rw[flat_app,List.length_append,flat_one,List.length_take,Nat.min_eq_left g2]
    ·rw[flat_app,List.length_append,flat_one,List.length_take,Nat.min_eq_left g2];omega
   ·obtain⟨xs,⟨B,p⟩,hx⟩:=split_last he
    have hb:(pendingOf st2).back?=some ((flat xs).length,B.length,p):=by rw[R2.pend,hx,mkP_app];simp[mkP]
    rw[hb]
    dsimp only
    generalize power' _ _ _ _=pw
    refine loop_ok (λi c st'=>c=(none,())∧∃sg,sg≠[]∧Rs κ L l₀ sg rest3 st') (λc st'=>c=(none,())∧∃sg,sg≠[]∧Rs κ L l₀ sg rest3 st') ⟨rfl,segs,he,R2⟩ ?_ (λ_ _ h=>h) ?_
    ·rintro j _ st3 hj ⟨rfl,sg,ne,R3⟩
     try dsimp only
     refine wpS_bind (wpS_get ?_)
     try dsimp only
     have hz:=R3.size
     by_cases c3:(pendingOf st3).size>1
     ·rw[if_pos c3]
      obtain⟨ys,⟨MA,pa⟩,⟨MB,pb⟩,zs,e,hy⟩:=split_two (l:=sg) (i:=sg.length - 2) (by omega)
      have hg:(pendingOf st3)[(pendingOf st3).size - 2]? =some ((flat ys).length,MA.length,pa):=by
       rw[hz,R3.pend,List.getElem?_toArray,←hy,e,mkP_app,←mkP_len (o:=0) (l:=ys),List.getElem?_append_right (Nat.le_refl _),Nat.sub_self,Nat.zero_add]
       rfl
      rw[hg]
      dsimp only
      split
      ·exact wpS_pure ⟨rfl,sg,ne,R3⟩
      ·rw[hz]
       rw[e] at R3
       refine wpS_bind (mergeAt_ok C X R3 hy λst4 M R4=> ?_)
       rw[if_neg (by decide)]
       exact wpS_pure ⟨rfl,_,by simp,R4⟩
     ·rw[if_neg c3]
      exact wpS_pure ⟨rfl,sg,ne,R3⟩
    ·rintro _ st3 ⟨rfl,sg,ne,R3⟩
     dsimp only
     obtain⟨xs,⟨B,p⟩,hx⟩:=split_last ne
     subst hx
     refine wpS_bind (wpS_modify ?_)
     have R4:=R3.mark (q:=pw) rfl
     refine wpS_bind (wpS_modify ?_)
     have hl4:=R4.len
     have hl5:(flat (xs++[(B,pw)])).length=(flat segs).length:=by omega
     refine wpS_pure ⟨_,_,R4.push g1 g2 g3 (by rw[hl5]),?_,?_⟩
     ·rw[flat_app,List.length_append,hl5,flat_one,List.length_take,Nat.min_eq_left g2]
     ·rw[flat_app,List.length_append,hl5,flat_one,List.length_take,Nat.min_eq_left g2];omega
 ·rintro _ st1 ⟨segs,rest,R,rfl,q1⟩
  have hl:=R.len
  have:rest=[]:=List.length_eq_zero_iff.mp (by omega)
  subst this
  exact⟨segs,_,R,rfl⟩
 ·rintro _ st1 ⟨segs,lo,R,rfl⟩
  dsimp only
  refine loop_ok (λi c st'=>c=(none,())∧∃segs,Rs κ L l₀ segs [] st'∧segs.length+i≤l₀.length) (λc st'=>c=(none,())∧∃segs,Rs κ L l₀ segs [] st'∧segs.length≤1) ⟨rfl,segs,R,by have:=R.len;have:=R.many;simp at*;omega⟩ ?_ ?_ ?_
  ·rintro i _ st2 hi ⟨rfl,segs,R,g1⟩
   try dsimp only
   refine wpS_bind (wpS_get ?_)
   try dsimp only
   rw[R.size]
   by_cases c1:segs.length≤1
   ·rw[if_pos c1]
    exact wpS_pure ⟨rfl,segs,R,c1⟩
   rw[if_neg c1]
   refine wpS_bind (mergeAny C X R ?_ λst4 sg4 R4 g4=> ?_)
   ·exact Nat.lt_of_le_of_lt (Nat.succ_le_succ (ite_le' _ _)) (by omega)
   rw[if_neg (by decide)]
   exact wpS_pure ⟨rfl,_,R4,by omega⟩
  ·rintro _ _ ⟨rfl,segs,R,g1⟩
   exact⟨rfl,segs,R,by omega⟩
  ·rintro _ st2 ⟨rfl,segs,R,g1⟩
   refine wpS_pure (h st2 R.fail R.perm ?_)
   rw[R.arr,List.append_nil]
   match segs,g1,R with
   |[],_,_=>exact List.Pairwise.nil
   |[x],_,R=>rw[flat_cons];simpa[flat] using(R.srt x (by simp)).1
end
end Ts
end L2
set_option Elab.async false
set_option linter.all false
set_option maxRecDepth 100000
namespace L2
open PySem PySem.Spec PyProof.Rows PySem.W
namespace Ts
open Sx
theorem perm_map_ex{α β:Type}{f:α→β}{l b:List β}(h:l.Perm b): ∀{m:List α},m.map f=b→∃q:List α,q.Perm m∧q.map f=l:=by
 induction h with
 |nil=>exact λ{m} e=>⟨[],by rw[List.map_eq_nil_iff.mp e],rfl⟩
 |cons x h ih=>
  intro m e
  obtain⟨a,m',rfl,rfl,e2⟩:=List.map_eq_cons_iff.mp e
  obtain⟨q,q1,q2⟩:=ih e2
  exact⟨a::q,q1.cons a,by rw[List.map_cons,q2]⟩
 |swap x y l=>
  intro m e
  obtain⟨a,m',rfl,rfl,e2⟩:=List.map_eq_cons_iff.mp e
  obtain⟨b,m2,rfl,rfl,rfl⟩:=List.map_eq_cons_iff.mp e2
  exact⟨b::a::m2,List.Perm.swap _ _ _,rfl⟩
 |trans h1 h2 ih1 ih2=>
  intro m e
  obtain⟨q,q1,q2⟩:=ih2 e
  obtain⟨q',q3,q4⟩:=ih1 q2
  exact⟨q',q3.trans q1,q4⟩
open Classical in
noncomputable def Lof(lt:Nat→Nat→Bool)(l:List Keyed)(x y:Keyed):Bool:=decide (∃i j:Nat,l[i]? =some x∧l[j]? =some y∧lt i j=true)
theorem at_inj{l:List Keyed}(nd:l.Nodup){i j:Nat}{x:Keyed}(h1:l[i]? =some x)(h2:l[j]? =some x):i=j:=by
 obtain⟨a,e1⟩:=List.getElem?_eq_some_iff.mp h1
 obtain⟨b,e2⟩:=List.getElem?_eq_some_iff.mp h2
 exact(List.getElem_inj nd).mp (e1.trans e2.symm)
open Classical in
theorem Lof_at{lt:Nat→Nat→Bool}{l:List Keyed}(nd:l.Nodup){i j:Nat}{x y:Keyed}(h1:l[i]? =some x)(h2:l[j]? =some y):Lof lt l x y=lt i j:=by
 unfold Lof
 cases e:lt i j with
 |true=>exact decide_eq_true ⟨i,j,h1,h2,e⟩
 |false=>
  refine decide_eq_false ?_
  rintro⟨a,b,g1,g2,g3⟩
  rw[at_inj nd g1 h1,at_inj nd g2 h2,e] at g3
  cases g3
section
variable {prog:Program} {w:World} {A:Around} {E:Value→Shared→Prop} {s:Shared} {κ:SortKind}
theorem long_run{ks vs:List Value}{lt:Nat→Nat→Bool}(hl:ks.length=vs.length)(nd:ks.Nodup)(O:Ord lt vs.length)
  (hc: ∀i j (C:Bool→Shared→Prop),i<vs.length→j<vs.length→C (lt i j) s→kas_ask prog w A κ ks i j C s):
  wpAny (model prog w) A (sortRuns'.run (SortSt.mk' κ (ks.toArray.zip vs.toArray) #[] 7 none)) (λr s'=> ∃p:Array Nat,arrOf r.2=p.map (kas_item (ks.toArray.zip vs.toArray))∧failedOf r.2=none∧s'=s∧p.toList.Perm (List.range vs.length)∧p.toList.Pairwise λi j=>lt i j=true) E s:=by
 generalize hit:ks.toArray.zip vs.toArray=it
 have hl0:it.toList=ks.zip vs:=by rw[←hit,Array.toList_zip]
 have len:it.toList.length=vs.length:=by rw[hl0,List.length_zip,hl,Nat.min_self]
 have ndl:it.toList.Nodup:=by
  have:(it.toList.map Prod.fst).Nodup:=by rw[hl0,List.map_fst_zip (by omega)];exact nd
  exact(List.pairwise_map.mp this).imp λh e=>h (by rw[e])
 have fst_at: ∀{i x},it.toList[i]? =some x→x.1=ks.getD i Value.none:=λ{i x} e=>by
  have:(it.toList.map Prod.fst)[i]? =some x.1:=by rw[List.getElem?_map,e];rfl
  rw[hl0,List.map_fst_zip (by omega)] at this
  rw[List.getD_eq_getElem?_getD,this]
  rfl
 have lt_len: ∀{i x},it.toList[i]? =some x→i<vs.length:=λ{i x} e=>by rw[←len];exact(List.getElem?_eq_some_iff.mp e).1
 have C:Cmp prog w A E s κ (Lof lt it.toList) (· ∈it.toList):=by
  intro st x y Q hk hx hy q
  obtain⟨i,hi⟩:=List.getElem?_of_mem hx
  obtain⟨j,hj⟩:=List.getElem?_of_mem hy
  rw[Lof_at ndl hi hj] at q
  rw[lt'_eq]
  refine wpS_bind (wpS_get ?_)
  refine wpS_bind (wpS_lift ?_)
  rw[hk,fst_at hi,fst_at hj]
  refine wpAny_attempt (wpAny_mono (hc i j (λb s'=>b=lt i j∧s'=s) (lt_len hi) (lt_len hj) ⟨rfl,rfl⟩) ?_ λ_ _ e=>e.elim)
  rintro _ _ ⟨rfl,rfl⟩
  exact⟨rfl,wpS_pure q⟩
 have X:Ax (· ∈it.toList) (Lof lt it.toList) it.toList:=by
  refine⟨⟨λx y z hx hy hz h1 h2=> ?_,λx y hx hy h1=> ?_⟩,λx hx=>hx,?_⟩
  ·obtain⟨i,hi⟩:=List.getElem?_of_mem hx
   obtain⟨j,hj⟩:=List.getElem?_of_mem hy
   obtain⟨k,hk⟩:=List.getElem?_of_mem hz
   rw[Lof_at ndl hi hj] at h1
   rw[Lof_at ndl hj hk] at h2
   rw[Lof_at ndl hi hk]
   exact O.tr i j k (lt_len hi) (lt_len hj) (lt_len hk) h1 h2
  ·obtain⟨i,hi⟩:=List.getElem?_of_mem hx
   obtain⟨j,hj⟩:=List.getElem?_of_mem hy
   rw[Lof_at ndl hi hj] at h1
   rw[Lof_at ndl hj hi]
   exact O.asy i j (lt_len hi) (lt_len hj) h1
  ·refine List.pairwise_iff_getElem.mpr λi j hi hj hij=> ?_
   have ei:=List.getElem?_eq_getElem hi
   have ej:=List.getElem?_eq_getElem hj
   unfold Dif
   rw[Lof_at ndl ei ej,Lof_at ndl ej ei]
   rcases O.tot i j (lt_len ei) (lt_len ej) (by omega) with g|g
   ·rw[g,O.asy i j (lt_len ei) (lt_len ej) g];rfl
   ·rw[g,O.asy j i (lt_len ej) (lt_len ei) g];rfl
 have R0:Rs κ (Lof lt it.toList) it.toList [] it.toList (SortSt.mk' κ it #[] 7 none):=⟨rfl,rfl,List.Perm.refl _,rfl,rfl,λs h=>by cases h⟩
 have main:=sortRuns_ok C X R0 (Q:=λ_ st'=> ∃p:Array Nat,arrOf st'=p.map (kas_item it)∧failedOf st'=none∧p.toList.Perm (List.range vs.length)∧p.toList.Pairwise λi j=>lt i j=true) λst' f pm so=>by
  have e0:(List.range vs.length).map (kas_item it)=it.toList:=by
   refine List.ext_getElem (by simp[←len]) λi q1 q2=> ?_
   rw[List.getElem_map,List.getElem_range]
   rw[Array.length_toList] at q2
   simp[kas_item,q2]
  obtain⟨q,q1,q2⟩:=perm_map_ex pm e0
  have ia: ∀i,i<vs.length→it.toList[i]? =some (kas_item it i):=λi hi=>by
   rw[←e0,List.getElem?_map,List.getElem?_range hi];rfl
  refine⟨q.toArray,?_,f,q1,?_⟩
  ·apply Array.ext'
   rw[Array.toList_map]
   exact q2.symm
  ·rw[←q2] at so
   refine(List.pairwise_map.mp so).imp_of_mem λ{i j} hi hj g=> ?_
   rw[Lof_at ndl (ia i (List.mem_range.mp (q1.mem_iff.mp hi))) (ia j (List.mem_range.mp (q1.mem_iff.mp hj)))] at g
   exact g
 refine wpAny_mono main ?_ λ_ _ e=>e
 rintro⟨_,st'⟩ s' ⟨rfl,p,h1,h2,h3,h4⟩
 exact⟨p,h1,h2,rfl,h3,h4⟩
end
end Ts
end L2
set_option Elab.async false
set_option linter.all false
set_option maxRecDepth 100000
namespace L2
open PySem PySem.Spec PyProof.Rows PySem.W
namespace Kx
open Sx
section
variable {X:Cx} {pins:List (Addr×Obj)} {σ:L2.St} {H:Hp} {s:Shared} {k:Nat} {f:Addr} {fd:FuncData} {x:Str} {g:List T→Option T}
theorem ints_inj{vs:List Value}{ns:List Int}(h:IntsAre vs ns): ∀{ms:List Int},IntsAre vs ms→ns=ms:=by
 induction h with
 |nil=>intro ms h;cases h;rfl
 |cons n t h ih=>intro ms h;cases h with |cons _ _ h=>rw[ih h]
theorem KeyAt.inj{a:Addr}{ns ms:List Int}(h:KeyAt X H s a ns)(g:KeyAt X H s a ms):ns=ms:=by
 obtain⟨o,n,t,l,its,h1,_,h3,⟨o2,h4,_,n2,h5⟩,h6,_⟩:=h.ex
 obtain⟨o',n',t',l',its',g1,_,g3,⟨o2',g4,_,n2',g5⟩,g6,_⟩:=g.ex
 have e:=Option.some.inj (h1.symm.trans g1)
 subst e
 have e:=h3.symm.trans g3
 injection e with e _
 have e:[Value.int (ns.length:Int) t,.ref l]=[.int (ms.length:Int) t',.ref l']:=congrArg Array.toList e
 injection e with _ e
 injection e with e _
 have e:=Value.ref.inj e
 subst e
 have e:=Option.some.inj (h4.symm.trans g4)
 subst e
 have e:=h5.symm.trans g5
 injection e with e _
 have e:its=its':=congrArg Array.toList e
 subst e
 exact ints_inj h6 g6
theorem adopt{a:Addr}{o:HO}(I:Inv X pins σ H s)(hn:H a=none)(hy:X.s₀.heap.objs.size≤a)(hL:a≠X.env.locals)(hc: ∀x c,X.env.cells.lookup x=some c→c≠a)(hp: ∀p∈X.pn++pins,p.1≠a)(new:ObjOk X.prog X.w (upd H a o) s.heap a o):
  Inv X pins σ (upd H a o) s where
 ok:=I.ok
 os:=I.os
 bare:=I.bare
 base:=⟨I.base.keep,I.base.slot,λb u q n hx=>by rw[upd_ne (Nat.ne_of_lt (Nat.lt_of_lt_of_le (Heap.lt_size q) hy))];exact I.base.free b u q n hx,I.base.there,
  λb xs q=>by have:=I.base.tups b xs q;rw[upd_ne (ne_of_none this hn)];exact this,λb u xs q=>by have:=I.base.frzs b u xs q;rw[upd_ne (ne_of_none this hn)];exact this,
  λb ps q=>by obtain⟨m,this⟩:=I.base.tbls b ps q;exact⟨m,by rw[upd_ne (ne_of_none this hn)];exact this⟩⟩
 loc:=I.loc
 cell:=I.cell
 free:=by rw[upd_ne (Ne.symm hL)];exact I.free
 freeC:=λx c e=>by rw[upd_ne (hc x c e)];exact I.freeC x c e
 pin:=λp h=>by
  obtain⟨h1,h2,h3⟩:=I.pin p h
  exact⟨h1,by rw[upd_ne (hp p h)];exact h2,h3⟩
 hok:=λb u e=>by
  by_cases hb:b=a
  ·subst hb;rw[upd_same] at e;cases e;exact new
  ·rw[upd_ne hb] at e
   exact(I.hok b u e).stay (λc v _ q=>q) (λc q=>by rw[upd_ne (ne_of_none q hn)];exact q) λc xs q=>by rw[upd_ne (ne_of_none q hn)];exact q
 len:=I.len
theorem sort_keyed{A:Around}{E':Value→Shared→Prop}{F:Hp}{D:Addr}{n m0:Nat}{keys:List (List Int)}{us:List Value}{P:PySem.Fin→Shared→Prop}(hm:X.s₀.heap.objs.size≤m0)(hfp: ∀b,m0≤b→b≠X.env.locals∧b∉X.fs∧(∀x c,X.env.cells.lookup x=some c→c≠b)∧∀p∈X.pn++pins,p.1≠b)
  (G:FnOk X.prog X.w X.K X.mg X.base CX0 k f fd [x] (spP X.K g)) (hr:Room k A) (he: ∀s' H',Env0 X.prog X.w X.K X.mg X.base X.A X.stack s' H'→Env0 X.prog X.w X.K X.mg X.base A X.stack s' H') (hb:Binds X.K fd [x] [])
  (vs:List V) (ts:List T) (hF:Same F H) (rs:Reps X.K F vs ts) (hk: ∀(i:Nat) (t:T),ts[i]? =some t→∃ns,keys[i]? =some ns∧g [t]=some (keyT ns)) (hkl:keys.length=ts.length) (nd:keys.Nodup) (h64:ts.length<5000)
  (I:Inv X pins σ H s) (hv:Vals vs us) (ho:s.heap.get? D=some (seqObj "list" us.toArray n)) (hn:H D=none) (hD:m0≤D)
  (h: ∀(F' H':Hp) (is:List Nat) (c:Nat) (s':Shared),Ext F H F' H'→Inv X pins σ H' s'→H' D=none→is.Perm (List.range ts.length)→(is.Pairwise λi j=>klt (keys.getD i []) (keys.getD j [])=true)→s'.heap.get? D=some (seqObj "list" (is.map λi=>us.getD i Value.none).toArray c)→
   P (.done (.ret .none)) s'):
  wpAny (model X.prog X.w) A (ksk_tree D (.ref f) false) P E' s:=by
 have lv:=rs.length
 have lu:=hv.length
 have lus:us.length<5000:=by omega
 have ha:D<s.heap.objs.size:=Heap.lt_size ho
 obtain⟨d1,d2,d3,d4⟩:=hfp D hD
 unfold ksk_tree
 refine wpAny_bind (listItems_at ho rfl ?_)
 refine wpAny_bind (listUpdate_at ho rfl ?_ (by rw[List.size_toArray,sizeLine_eq];omega) (Nat.zero_le _))
 obtain⟨e1,ho1⟩: ∃e1,(s.heap.update D (Obj.mapSeq λ_=>(#[]:Array Value))).get? D=some (seqObj "list" #[] e1):=⟨_,get?_update_seq ho λ_=> #[]⟩
 refine wpAny_bind (seqEpoch_at ho1 rfl ?_)
 refine wpAny_bind (wpAny_newTuple ?_ (by show us.length≤_;rw[sizeLine_eq];omega))
 refine wpAny_bind (wpAny_newList ?_ (Nat.zero_le _))
 refine wpAny_holding ?_
 have hs1:(s.heap.update D (Obj.mapSeq λ_=>(#[]:Array Value))).objs.size=s.heap.objs.size:=by rw[Heap.size_update]
 generalize hh6:((s.heap.update D (Obj.mapSeq λ_=>(#[]:Array Value))).push (seqObj "tuple" us.toArray 0)).push (seqObj "list" #[] 0)=h6
 generalize hkS:((s.heap.update D (Obj.mapSeq λ_=>(#[]:Array Value))).push (seqObj "tuple" us.toArray 0)).objs.size=kS
 have hkS':kS=s.heap.objs.size+1:=by rw[←hkS,size_push',hs1]
 have ho6:h6.get? D=some (seqObj "list" #[] e1):=by rw[←hh6];exact Heap.get?_push_of_some _ (Heap.get?_push_of_some _ ho1)
 have hk6:h6.get? kS=some (seqObj "list" #[] 0):=by rw[←hh6,←hkS];exact Heap.get?_push_size _ rfl
 have k6: ∀b o,b≠D→s.heap.get? b=some o→h6.get? b=some o:=λb o hb e=>by
  rw[←hh6]
  exact Heap.get?_push_of_some _ (Heap.get?_push_of_some _ ((Heap.get?_update_other _ _ (Ne.symm hb)).trans e))
 have nkD:kS≠D:=by rw[hkS'];exact Nat.ne_of_gt (Nat.lt_succ_of_lt ha)
 have ykS:m0≤kS:=by rw[hkS'];exact Nat.le_of_lt (Nat.lt_succ_of_lt (Nat.lt_of_le_of_lt hD ha))
 obtain⟨c1,c2,c3,c4⟩:=hfp kS ykS
 have I6:Inv X pins σ H {s with heap:=h6}:=I.turned (t':=s.toks) k6 hn d1 (.inr (Nat.le_trans hm hD)) d3 d4
 have hkn:H kS=none:=I.hok.fresh (by omega)
 have I7:Inv X (pins++[(D,seqObj "list" #[] e1),(kS,seqObj "list" ([]:List Value).toArray 0)]) σ H {s with heap:=h6}:=I6.pins_of λp hp=>by
  rcases List.mem_append.mp hp with hp|hp
  ·exact I6.pin p (List.mem_append_right _ hp)
  ·simp only[List.mem_cons,List.not_mem_nil,or_false] at hp
   rcases hp with rfl|rfl
   ·exact⟨ho6,hn,d1,d2,λv=>by simp[seqObj]⟩
   ·exact⟨hk6,hkn,c1,c2,λv=>by simp[seqObj]⟩
 have M0:Mid X pins σ F H D kS e1 keys m0 [] {s with heap:=h6}:=⟨⟨F,H,0,[],.rfl hF,I7,rfl,Nat.zero_le _,λi a e=>by simp at e⟩,hD,ykS,nkD⟩
 show wpAny (model X.prog X.w) A (ksk_rest D (.ref f) false us.toArray e1 (.ref kS)) P E' {s with heap:=h6}
 unfold ksk_rest
 refine wpAny_bind (wpAny_rule ?_)
 rw[List.forIn_toArray]
 refine wpAny_bind (wpAny_mono (fold_keys (F:=F) (keys:=keys) (D:=D) (kS:=kS) (e1:=e1) hm hfp (λy ks s' C hl hw=> ?_) G hr he hb vs ts rs hk h64 us 0 [] _ rfl (by omega) hv M0) (λ_ s' hq=> ?_) λ_ _ e=>e)
 ·refine wpAny_bind (wpAny_attempt (wpAny_mono hw (λkv s'' hq=> ?_) λ_ _ e=>e.elim))
  obtain⟨c,hc,hC⟩:=hq
  dsimp only
  refine wpAny_bind (listUpdate_at hc rfl ?_ (by rw[List.size_toArray,sizeLine_eq];omega) (Nat.le_trans (Nat.le_of_eq (Array.size_push ..)) (by rw[List.size_toArray,sizeLine_eq];omega)))
  exact wpAny_pure ⟨rfl,hC⟩
 ·obtain⟨ks,hks,M⟩:=hq
  obtain⟨F',H',c,as,ext,I8,rfl,hal,hrep⟩:=M.ex
  rw[List.length_map] at hks
  have pD:=I8.pin (D,seqObj "list" #[] e1) (by simp)
  have pk:=I8.pin (kS,seqObj "list" (as.map Value.ref).toArray c) (by simp)
  refine wpAny_bind (listItems_at pk.1 rfl ?_)
  -- the end
  have tail: ∀(st:SortSt) (is:List Nat),(arrOf st).map (·.2)=(is.map λi=>us.getD i Value.none).toArray→failedOf st=none→is.Perm (List.range ts.length)→(is.Pairwise λi j=>klt (keys.getD i []) (keys.getD j [])=true)→
    wpAny (model X.prog X.w) A (ksk_tail D false e1 (.ref kS) st) P E' s':=λst is har hf hp hs=>by
   have lis:is.length=ts.length:=by rw[hp.length_eq,List.length_range]
   have na1:(s'.heap.update kS (Obj.mapSeq λ_=>(#[]:Array Value))).get? D=some (seqObj "list" #[] e1):=(Heap.get?_update_other _ _ nkD).trans pD.1
   unfold ksk_tail
   try dsimp only
   refine wpAny_bind (listUpdate_at pk.1 rfl ?_ (by rw[List.size_toArray,List.length_map,sizeLine_eq];omega) (Nat.zero_le _))
   refine wpAny_bind (wpAny_letGo ?_)
   refine wpAny_bind (seqEpoch_at na1 rfl ?_)
   rw[har]
   refine wpAny_bind (listUpdate_at na1 rfl ?_ (Nat.zero_le _) (by show(is.map λi=>us.getD i Value.none).toArray.size≤_;rw[List.size_toArray,List.length_map,lis,sizeLine_eq];omega))
   rw[hf]
   simp only[bne_self_eq_false,Bool.false_eq_true,if_false]
   refine wpAny_pure ?_
   have I9:Inv X pins σ H' s':=I8.unpinned
   have I10:Inv X pins σ H' {s' with heap:=s'.heap.update kS (Obj.mapSeq λ_=>(#[]:Array Value))}:=I9.turned (t':=s'.toks) (λb o hb e=>(Heap.get?_update_other _ _ (Ne.symm hb)).trans e) pk.2.1 c1 (.inr (Nat.le_trans hm ykS)) c3 c4
   have I11:Inv X pins σ H' {s' with heap:=(s'.heap.update kS (Obj.mapSeq λ_=>(#[]:Array Value))).update D (Obj.mapSeq λ_=>(is.map λi=>us.getD i Value.none).toArray)}:=
    I10.turned (t':=s'.toks) (λb o hb e=>(Heap.get?_update_other _ _ (Ne.symm hb)).trans e) pD.2.1 d1 (.inr (Nat.le_trans hm hD)) d3 d4
   obtain⟨c2,hc2⟩: ∃c2,((s'.heap.update kS (Obj.mapSeq λ_=>(#[]:Array Value))).update D (Obj.mapSeq λ_=>(is.map λi=>us.getD i Value.none).toArray)).get? D=some (seqObj "list" (is.map λi=>us.getD i Value.none).toArray c2):=
    ⟨_,get?_update_seq na1 λ_=>(is.map λi=>us.getD i Value.none).toArray⟩
   exact h F' H' is c2 _ ext I11 pD.2.1 hp hs hc2
  unfold ksk_end
  try dsimp only
  simp only[Bool.false_eq_true,if_false]
  by_cases h2:us.toArray.size<2
  ·have h2':ts.length<2:=by rw[List.size_toArray] at h2;omega
   rw[if_pos h2,if_pos h2]
   refine wpAny_bind (wpAny_pure ?_)
   rw[StateT.run_pure]
   refine wpAny_bind (wpAny_pure ?_)
   refine tail _ (List.range ts.length) ?_ rfl (List.Perm.refl _) ?_
   ·show((as.map Value.ref).toArray.zip us.toArray).map (·.2)=_
    apply Array.ext'
    simp only[Array.toList_map,Array.toList_zip]
    refine List.ext_getElem (by simp;omega) λi q1 q2=> ?_
    have q3:i<us.length:=by simp at q1;omega
    simp[q3]
   ·match hts:ts.length,h2' with
    |0,_=>exact List.Pairwise.nil
    |1,_=>exact List.pairwise_singleton _ _
  ·have h2':2≤us.length:=by rw[List.size_toArray] at h2;omega
   rw[if_neg h2,if_neg h2]
   have hkey: ∀i,i<ts.length→∃a ns,as[i]? =some a∧keys[i]? =some ns∧KeyAt X H' s' a ns:=λi hi=>by
    have e:as[i]? =some (as[i]'(by omega)):=List.getElem?_eq_getElem (by omega)
    obtain⟨ns,q1,q2⟩:=hrep i _ e
    exact⟨_,ns,e,q1,key_at I8 (q2.mono ext.fh)⟩
   have ez:as.map Value.ref=(keys.zip as).map λe=>Value.ref e.2:=by
    refine List.ext_getElem (by simp;omega) λi q1 q2=> ?_
    simp
   have hu:A.units+64<cLine:=hr.units
   have kk: ∀{Q:SortKind→Shared→Prop},Q (tuples' true) s'→wpAny (model X.prog X.w) A (keyKind' (as.map Value.ref).toArray) Q E' s':=λ{Q} hQ=>by
    rw[ez]
    refine kind_key (X:=X) (H:=H') (s:=s') (A:=A) (E:=E') (as:=keys.zip as) (by rw[List.length_zip];omega) (λe he=> ?_) hQ
    exact(by
    obtain⟨i,hi,e2⟩:=List.getElem_of_mem he
    rw[List.length_zip] at hi
    obtain⟨a,ns,q1,q2,q3⟩:=hkey i (by omega)
    have:e=(ns,a):=by
     rw[←e2,List.getElem_zip]
     obtain⟨_,g1⟩:=List.getElem?_eq_some_iff.mp q1
     obtain⟨_,g2⟩:=List.getElem?_eq_some_iff.mp q2
     rw[g1,g2]
    rw[this]
    exact q3)
   refine wpAny_bind (kk ?_)
   have O:=klt_ord nd
   rw[hkl,←lv,lu] at O
   have akn:(as.map Value.ref).Nodup:=by
    refine List.pairwise_iff_getElem.mpr λi j hi hj hij e=> ?_
    rw[List.length_map] at hi hj
    rw[List.getElem_map,List.getElem_map] at e
    have e:=Value.ref.inj e
    obtain⟨a,ns,q1,q2,q3⟩:=hkey i (by omega)
    obtain⟨b,ms,p1,p2,p3⟩:=hkey j (by omega)
    rw[List.getElem?_eq_getElem hi] at q1
    rw[List.getElem?_eq_getElem hj] at p1
    have ea:a=b:=by rw[←Option.some.inj q1,←Option.some.inj p1,e]
    subst ea
    have en:=q3.inj p3
    subst en
    obtain⟨h1,g1⟩:=List.getElem?_eq_some_iff.mp q2
    obtain⟨h2,g2⟩:=List.getElem?_eq_some_iff.mp p2
    have:=(List.getElem_inj nd).mp (g1.trans g2.symm)
    omega
   refine wpAny_bind (wpAny_mono (Ts.long_run (E:=E') (by rw[List.length_map];omega) akn O (λi j C hi hj q=>by
     obtain⟨a,ns,q1,q2,q3⟩:=hkey i (by omega)
     obtain⟨b,ms,p1,p2,p3⟩:=hkey j (by omega)
     have g1:(as.map Value.ref).getD i Value.none=.ref a:=by simp[q1]
     have g2:(as.map Value.ref).getD j Value.none=.ref b:=by simp[p1]
     have g3:keys.getD i []=ns:=by simp[q2]
     have g4:keys.getD j []=ms:=by simp[p2]
     unfold kas_ask
     rw[g1,g2]
     rw[g3,g4] at q
     exact lt_key I8 hu q3 p3 q)) ?_ λ_ _ e=>e)
   rintro⟨⟨⟩,st'⟩ s'' ⟨p,har,hf,rfl,hp,hs⟩
   exact tail st' p.toList (kat_snds (by rw[List.length_map];omega) har) hf (by rw[←lv,lu];exact hp) hs
end
end Kx
end L2
set_option Elab.async false
set_option linter.all false
set_option maxRecDepth 100000
namespace L2
open PySem PySem.Spec PyProof.Rows PySem.W
namespace Kx
open Sx
noncomputable def keyOf:T→Option (List Int)
 | .tup [.int n,.lst us]=>(intsT us).bind λns=>if n=(ns.length:Int) then some ns else none
 |_=>none
theorem keyOf_inv{t:T}{ns:List Int}(h:keyOf t=some ns):t=keyT ns:=by
 unfold keyOf at h
 split at h
 ·obtain⟨ms,h1,h2⟩:=Option.bind_eq_some_iff.mp h
  split at h2
  ·rename_i e
   cases h2
   rw[e,intsT_inv h1]
   rfl
  ·cases h2
 ·cases h
theorem keyOf_at(ns:List Int):keyOf (keyT ns)=some ns:=by
 unfold keyT keyOf
 simp only[intsT_map,Option.bind_some,if_true]
noncomputable def keysT(g:List T→Option T):List T→Option (List (List Int))
 |[]=>some []
 |t::ts=>((g [t]).bind keyOf).bind λk=>(keysT g ts).map (k:: ·)
theorem keysT_at{g:List T→Option T}: ∀{ts:List T} {ks:List (List Int)},keysT g ts=some ks→ks.length=ts.length∧∀(i:Nat) (t:T),ts[i]? =some t→∃ns,ks[i]? =some ns∧g [t]=some (keyT ns)
 |[],ks,h=>by cases h;exact⟨rfl,λi t e=>by simp at e⟩
 |t::ts,ks,h=>by
  unfold keysT at h
  obtain⟨k,h1,h2⟩:=Option.bind_eq_some_iff.mp h
  obtain⟨ks',h3,rfl⟩:=Option.map_eq_some_iff.mp h2
  obtain⟨u,h4,h5⟩:=Option.bind_eq_some_iff.mp h1
  obtain⟨l,a⟩:=keysT_at h3
  refine⟨by rw[List.length_cons,List.length_cons,l],λi t' e=> ?_⟩
  cases i with
  |zero=>simp at e;subst e;exact⟨k,by simp,by rw[h4,keyOf_inv h5]⟩
  |succ i=>obtain⟨ns,q1,q2⟩:=a i t' (by simpa using e);exact⟨ns,by simpa using q1,q2⟩
noncomputable def insK(x:List Int×T):List (List Int×T)→List (List Int×T)
 |[]=>[x]
 |y::ys=>if klt x.1 y.1 then x::y::ys else y::insK x ys
noncomputable def ksort(ps:List (List Int×T)):List (List Int×T):=ps.foldr insK []
theorem insK_perm(x:List Int×T): ∀ys,(insK x ys).Perm (x::ys)
 |[]=>List.Perm.refl _
 |y::ys=>by
  unfold insK
  split
  ·exact List.Perm.refl _
  ·exact(List.Perm.cons y (insK_perm x ys)).trans (List.Perm.swap x y ys)
theorem ksort_perm: ∀ps:List (List Int×T),(ksort ps).Perm ps
 |[]=>List.Perm.refl _
 |p::ps=>(insK_perm p (ksort ps)).trans (List.Perm.cons p (ksort_perm ps))
theorem insK_sorted{x:List Int×T}: ∀{ys:List (List Int×T)},(∀y∈ys,x.1≠y.1)→(ys.Pairwise λa b=>klt a.1 b.1=true)→(insK x ys).Pairwise λa b=>klt a.1 b.1=true
 |[],_,_=>List.pairwise_singleton _ _
 |y::ys,hd,h=>by
  unfold insK
  rw[List.pairwise_cons] at h
  split
  ·rename_i q
   exact List.pairwise_cons.mpr ⟨λz hz=>by
    rcases List.mem_cons.mp hz with rfl|hz
    ·exact q
    ·exact klt_tr q (h.1 z hz),List.pairwise_cons.mpr h⟩
  ·rename_i q
   refine List.pairwise_cons.mpr ⟨λz hz=> ?_,insK_sorted (λz hz=>hd z (.tail _ hz)) h.2⟩
   rcases List.mem_cons.mp ((insK_perm x ys).mem_iff.mp hz) with rfl|hz
   ·rcases klt_tot (hd y (.head _)) with r|r
    ·exact absurd r q
    ·exact r
   ·exact h.1 z hz
theorem ksort_sorted: ∀{ps:List (List Int×T)},(ps.map (·.1)).Nodup→(ksort ps).Pairwise λa b=>klt a.1 b.1=true
 |[],_=>List.Pairwise.nil
 |p::ps,nd=>by
  rw[List.map_cons,List.nodup_cons] at nd
  refine insK_sorted (λy hy e=>nd.1 ?_) (ksort_sorted nd.2)
  rw[e]
  exact List.mem_map.mpr ⟨y,(ksort_perm ps).mem_iff.mp hy,rfl⟩
theorem ksorted_uniq: ∀{xs ys:List (List Int×T)},xs.Perm ys→(xs.Pairwise λa b=>klt a.1 b.1=true)→(ys.Pairwise λa b=>klt a.1 b.1=true)→xs=ys
 |[],ys,p,_,_=>by rw[List.nil_perm.mp p]
 |x::xs,[],p,_,_=>by cases List.perm_nil.mp p
 |x::xs,y::ys,p,h1,h2=>by
  rw[List.pairwise_cons] at h1 h2
  have e:x=y:=by
   rcases List.mem_cons.mp (p.mem_iff.mp List.mem_cons_self) with q|q
   ·exact q
   ·rcases List.mem_cons.mp (p.mem_iff.mpr List.mem_cons_self) with r|r
    ·exact r.symm
    ·have a:=h2.1 x q
     have b:=h1.1 y r
     rw[klt_asy a] at b
     cases b
  subst e
  rw[ksorted_uniq (List.Perm.cons_inv p) h1.2 h2.2]
noncomputable def sortKF(g:List T→Option T):List T→Option (List T)
 |[.lst ts]=>(keysT g ts).bind λks=>if ts.length<5000∧ks.Nodup then some ((ksort (ks.zip ts)).map (·.2)) else none
 |_=>none
section
variable {X:Cx} {k:Nat} {fa:Addr} {fd:FuncData} {x fx:Str} {g:List T→Option T} {e:Expr} {pos p p2 p3:Pos} {f:DE} {te:TE}
noncomputable def rSortK(K:Frag)(g:List T→Option T):List V→Hp→VK→Prop:=λxs H Q=> ∃(p:Addr) (vs:List V) (F:Hp) (ts:List T) (keys:List (List Int)),xs=[.ref p]∧SqL K H p vs∧Same F H∧Reps K F vs ts∧keysT g ts=some keys∧keys.Nodup∧ts.length<5000∧
 ∀(D:Addr) (F' H':Hp) (is:List Nat),Ext F H F' H'→H' D=none→is.Perm (List.range ts.length)→(is.Pairwise λi j=>klt (keys.getD i []) (keys.getD j [])=true)→Q (.ref D) (upd H' D (.lst (is.map λi=>vs.getD i .non)))
theorem pe_sortK(G:FnOk X.prog X.w X.K X.mg X.base CX0 k fa fd [x] (spP X.K g))(hr:Room (k+2) X.A)(hb:Binds X.K fd [x] [])(hg:Gl X "sorted")(hm:X.mg "sorted"=none)(hgf:Gl X fx)(hmf:X.mg fx=some (.ref fa)){t:TA}(ha:PA X [e] t)
  (hdf:(fx==("__debug__":Str))=false:=by decide) (he:backTo pos (starEach [e] X.env)=(false,eval e X.env)::backTo pos (starEach [] X.env):=by rfl) (hpl:(backTo pos (starEach [e] X.env)).any (·.1)=false:=by rfl):
  PE X (.Call (.Name "sorted" p) [e] [⟨some "key",.Name fx p2,p3⟩] pos) (tCB (rSortK X.K g) t):=by
 intro pins s σ H Q I h
 refine wpAny_Call_Name_kw (ld_blt I hg hm PyProof.Rows.boot_sorted ?_ (by decide) (by decide))
 refine callWith_kw (thn (ha pos pins s σ H _ I h) λus s1 ⟨vs1,H1,I1,r1,q1⟩=> ?_) he hpl rfl rfl
 refine thn (pk_cons (pe_glob (v:=.ref fa) hgf hmf rfl hdf) pk_nil pos pins s1 σ H1 (λzs H2=>zs=[.ref fa]∧H2=H1) I1 ⟨rfl,rfl⟩) λws s2 ⟨zs,H2,I2,rz,hz,hH⟩=> ?_
 subst hz hH
 obtain⟨w0,rfl,rw0⟩:=vals1 rz
 cases rw0
 obtain⟨p,vs,F,ts,keys,rfl,hq,hF,rs,hkeys,nd,h64,q⟩:=q1
 obtain⟨u0,rfl,ru0⟩:=vals1 r1
 cases ru0
 show wpAny _ _ (call (.builtin "sorted") [.ref p] [(("key":Str),.ref fa)]) _ _ _
 obtain⟨its,rv,pl,_⟩:=I2.list hq
 have lv:=rs.length
 have lu:=rv.length
 obtain⟨hkl,hk⟩:=keysT_at hkeys
 refine call_function_entry_kw kind_sorted plain_sorted entry_sorted (ksk_s1 _ _) ?_
 unfold Builtin.«sorted»
 refine wpAny_bind (m:=checkCount "sorted" 1 1 _) (wpAny_pure ?_)
 refine wpAny_bind (collect_list pl.isList ?_ (by rw[sizeLine_eq];omega))
 refine wpAny_bind (wpAny_newList ?_ (by rw[sizeLine_eq];omega))
 generalize hd0:(s2.heap.push (seqObj "list" #[] 0)).update s2.heap.objs.size (Obj.mapSeq (· ++its.toArray))=hp1
 have z1:hp1.objs.size=s2.heap.objs.size+1:=by rw[←hd0,Heap.size_update,size_push']
 have k1: ∀b o,s2.heap.get? b=some o→hp1.get? b=some o:=λb o e=>by
  have hlt:b<s2.heap.objs.size:=Heap.lt_size e
  rw[←hd0,Heap.get?_update_ne _ _ _ _ (Nat.ne_of_lt hlt),Heap.get?_push_ne _ _ _ (Nat.ne_of_lt hlt)]
  exact e
 have hoL:(hp1.push (seqObj "list" its.toArray 0)).get? hp1.objs.size=some (seqObj "list" its.toArray 0):=Heap.get?_push_size _ rfl
 have k2: ∀b o,s2.heap.get? b=some o→(hp1.push (seqObj "list" its.toArray 0)).get? b=some o:=λb o e=>Heap.get?_push_of_some _ (k1 b o e)
 have I3:Inv X pins σ H2 {s2 with heap:=hp1.push (seqObj "list" its.toArray 0)}:=I2.kept (t':=s2.toks) k2
 refine wpAny_bind (wpAny_holding (wpAny_call_entry_kw slot_list_sort ⟨_,hoL,rfl⟩ entry_list_sort ?body (ksk_l1 _ _)))
 case body=>
  rw[ksk_t1]
  have fp: ∀b,s2.heap.objs.size≤b→b≠X.env.locals∧b∉X.fs∧(∀x c,X.env.cells.lookup x=some c→c≠b)∧∀p∈X.pn++pins,p.1≠b:=λb hb=>by
   obtain⟨a1,a2,a3,a4,a5,a6⟩:=I2.fpOk (H':=λ_=>none) hb rfl
   exact⟨a2,a3,a5,a6⟩
  have hDz:s2.heap.objs.size≤hp1.objs.size:=by omega
  refine sort_keyed (s:={s2 with heap:=hp1.push (seqObj "list" its.toArray 0)}) (F:=F) (H:=H2) (keys:=keys) I2.sz fp G hr.in1.in1 (λs' H' e0=>e0.in1.in1) hb vs ts hF rs hk hkl nd h64 I3 rv hoL (I2.hok.fresh hDz) hDz
   λF' H' is c s' ext I4 hn hp hs hg=>⟨_,rfl,?_⟩
  refine wpAny_pure ⟨_,rfl,?_⟩
  obtain⟨a2,a3,a5,a6⟩:=fp _ hDz
  have lis:is.length=ts.length:=by rw[hp.length_eq,List.length_range]
  have vv:Vals (is.map λi=>vs.getD i .non) (is.map λi=>its.getD i Value.none):=by
   have: ∀js:List Nat,(∀j∈js,j<ts.length)→Vals (js.map λi=>vs.getD i .non) (js.map λi=>its.getD i Value.none):=by
    intro js
    induction js with
    |nil=>intro _;exact .nil
    |cons j js ih=>
     intro hj
     have h0:=hj j (.head _)
     obtain⟨u,hu,ru⟩:=rv.get (List.getElem?_eq_getElem (show j<vs.length by omega))
     refine .cons ?_ (ih λi hi=>hj i (.tail _ hi))
     have e1:vs.getD j .non=vs[j]'(by omega):=by rw[List.getD_eq_getElem?_getD,List.getElem?_eq_getElem (by omega)];rfl
     have e2:its.getD j Value.none=u:=by rw[List.getD_eq_getElem?_getD,hu];rfl
     show RelV (vs.getD j .non) (its.getD j Value.none)
     rw[e1,e2]
     exact ru
   exact this is λj hj=>List.mem_range.mp (hp.mem_iff.mp hj)
  refine⟨.ref hp1.objs.size,_,adopt I4 hn (Nat.le_trans I2.sz hDz) a2 a5 a6 ?_,rfl,q _ F' H' is ext hn hp hs⟩
  exact⟨by rw[List.length_map,lis,sizeLine_eq];omega,_,c,vv,hg⟩
theorem cf_sortK{K:Frag}:CF K (rSortK K g) (sortKF g):=by
 intro F H xs ts us Q hF rs e q
 unfold sortKF at e
 split at e
 ·rename_i ts'
  obtain⟨ks,e1,e2⟩:=Option.bind_eq_some_iff.mp e
  split at e2
  ·rename_i hc
   cases e2
   obtain⟨v,rfl,r⟩:=rs.one
   obtain⟨p,vs,rfl,hp,rs'⟩:=r.inv_lst
   obtain⟨hkl,hk⟩:=keysT_at e1
   refine⟨p,vs,F,ts',ks,rfl,SqL.of (hF _ _ hp),hF,rs',e1,hc.2,hc.1,λD F' H' is ext hn hpm hs=>q D _ H' F' ext hn ?_⟩
   have lt': ∀i∈is,i<ts'.length:=λi hi=>List.mem_range.mp (hpm.mem_iff.mp hi)
   have eq:ksort (ks.zip ts')=is.map λi=>(ks.getD i [],ts'.getD i .non):=by
    refine ksorted_uniq ((ksort_perm _).trans ?_) (ksort_sorted ?_) ?_
    ·refine List.Perm.trans (List.Perm.of_eq ?_) (hpm.map _).symm
     refine List.ext_getElem (by simp;omega) λi q1 q2=> ?_
     simp at q1 q2
     simp[q2,show i<ks.length by omega]
    ·rw[List.map_fst_zip (by omega)]
     exact hc.2
    ·rw[List.pairwise_map]
     exact hs
   rw[eq,List.map_map]
   have lv:=rs'.length
   have: ∀js:List Nat,(∀j∈js,j<ts'.length)→Reps K F' (js.map λi=>vs.getD i .non) (js.map λi=>ts'.getD i .non):=by
    intro js
    induction js with
    |nil=>intro _;exact .nil
    |cons j js ih=>
     intro hj
     have h0:=hj j (.head _)
     obtain⟨w,hw,rw'⟩:=rs'.get (i:=j) (t:=ts'[j]) (List.getElem?_eq_getElem h0)
     refine .cons ?_ (ih λi hi=>hj i (.tail _ hi))
     have e1:ts'.getD j .non=ts'[j]:=by rw[List.getD_eq_getElem?_getD,List.getElem?_eq_getElem h0];rfl
     have e2:vs.getD j .non=w:=by rw[List.getD_eq_getElem?_getD,hw];rfl
     show Rep K F' (vs.getD j .non) (ts'.getD j .non)
     rw[e1,e2]
     exact rw'.mono ext.ff
   exact this is lt'
  ·cases e2
 ·cases e
theorem vf_sortK(G:FnOk X.prog X.w X.K X.mg X.base CX0 k fa fd [x] (spP X.K g))(hr:Room (k+2) X.A)(hb:Binds X.K fd [x] [])(hg:Gl X "sorted")(hm:X.mg "sorted"=none)(hgf:Gl X fx)(hmf:X.mg fx=some (.ref fa))(ha:VE X e f)
  (hdf:(fx==("__debug__":Str))=false:=by decide) (hs:starEach [e] X.env=(false,eval e X.env)::starEach [] X.env:=by rfl) (he:backTo pos (starEach [e] X.env)=(false,eval e X.env)::backTo pos (starEach [] X.env):=by rfl) (hpl:(backTo pos (starEach [e] X.env)).any (·.1)=false:=by rfl):
  VF X (.Call (.Name "sorted" p) [e] [⟨some "key",.Name fx p2,p3⟩] pos) (dCallF (sortKF g) (dAc f dA0)):=vf_cb cf_sortK (pe_sortK G hr hb hg hm hgf hmf (va_cons ha va_nil hs) hdf he hpl)
end
end Kx
end L2
set_option Elab.async false
set_option linter.all false
set_option maxRecDepth 100000
namespace L2
open PySem PySem.Spec PyProof.Rows PySem.W
namespace Kx
open Sx
noncomputable def inKeys:List Key→Option (List Int)
 |[]=>some []
 | .inl n::ks=>(inKeys ks).map (n:: ·)
 |_::_=>none
theorem inKeys_inv: ∀{ks:List Key} {ns:List Int},inKeys ks=some ns→ks=ns.map Sum.inl
 |[],ns,h=>by cases h;rfl
 | .inl n::ks,ns,h=>by
  unfold inKeys at h
  obtain⟨ms,h1,rfl⟩:=Option.map_eq_some_iff.mp h
  rw[inKeys_inv h1]
  rfl
 | .inr _::ks,ns,h=>by cases h
theorem inKeys_map: ∀ns:List Int,inKeys (ns.map Sum.inl)=some ns
 |[]=>rfl
 |n::ns=>by simp only[List.map_cons,inKeys,inKeys_map ns];rfl
@[simp] noncomputable def sortDF:List T→Option (List T)
 |[.dic kts]=>(inKeys (kts.map (·.1))).bind λns=>if ns.length<64 then some ((isort ns).map T.int) else none
 |_=>none
section
variable {X:Cx}
noncomputable def rSortD(K:Frag):List V→Hp→VK→Prop:=λxs H Q=> ∃(d:Addr) (kvs:List (Key×V)) (ns:List Int),xs=[.ref d]∧Rd H d (.dK kvs)∧kvs.map (·.1)=ns.map Sum.inl∧ns.length<64∧∀D,H D=none→Q (.ref D) (upd H D (.lst ((isort ns).map V.int)))
theorem ints_ord{ns:List Int}(nd:ns.Nodup):Ord (λi j=>decide (ns.getD i 0<ns.getD j 0)) ns.length:=by
 refine⟨λi j k _ _ _ h1 h2=> ?_,λi j hi hj hij=> ?_,λi j _ _ h=> ?_⟩
 ·rw[decide_eq_true_eq] at*;omega
 ·rw[decide_eq_true_eq,decide_eq_true_eq]
  have e1:ns.getD i 0=ns[i]:=by simp[hi]
  have e2:ns.getD j 0=ns[j]:=by simp[hj]
  have:ns.getD i 0≠ns.getD j 0:=λe=>hij ((List.getElem_inj nd).mp (by rw[←e1,←e2];exact e))
  omega
 ·rw[decide_eq_true_eq] at h;rw[decide_eq_false_iff_not];omega
theorem call_sortD(hc:X.calm=true):CallR X (.builtin "sorted") (rSortD X.K):=by
 intro pins s σ H xs us Q I r h
 obtain⟨d,kvs,ns,rfl,hd,hk,h64,q⟩:=h
 obtain⟨u,rfl,ru⟩:=vals1 r
 cases ru
 obtain⟨z,lo,vs,rel,dd⟩:=(show ObjOk X.prog X.w H s.heap d (.dK kvs) from hd.ok I.hok)
 obtain⟨ob,es,ep,ho,r1,r2,r3⟩:=id dd
 have da:s.heap.DictAt (mixKind X.prog X.w) d vs ep:=⟨ob,es,ho,r1,r2,r3⟩
 have lk:kvs.length=vs.length:=Paired.length rel
 have ln:kvs.length=ns.length:=by have:=congrArg List.length hk;simpa using this
 have keq:vs.map (·.1)=ns.map Sum.inl:=by
  rw[←hk]
  refine List.ext_getElem (by simp[lk]) λi q1 q2=> ?_
  simp at q1
  obtain⟨v,hv,_⟩:=rel.get (i:=i) (k:=vs[i].1) (x:=vs[i].2) (List.getElem?_eq_getElem q1)
  obtain⟨_,e⟩:=List.getElem?_eq_some_iff.mp hv
  simp[e]
 have nd:ns.Nodup:=by
  have h1:(vs.map (·.1)).Nodup:=r3.2.2
  rw[keq] at h1
  exact List.Pairwise.of_map Sum.inl (λa b h e=>h (by rw[e])) h1
 refine Calls.call_function_entry kind_sorted plain_sorted entry_sorted (args_sorted1 _) ?_
 unfold Builtin.«sorted»
 refine wpAny_bind (m:=checkCount "sorted" 1 1 _) (wpAny_pure ?_)
 refine wpAny_bind (kdu_collect (A:=X.A.in1) (kdl_dict (knd:=mixKind X.prog X.w) (kvs:=vs) (ep:=ep) lo) (I.ok.hd hc) da (by rw[sizeLine_eq];omega) λh' tk acc keep hacc=> ?_)
 have la:acc.toList.length=ns.length:=by rw[Array.length_toList,hacc.1];omega
 have ia:IntsAre acc.toList ns:=by
  have gen: ∀(l:List Value) (ms:List Int),l.length=ms.length→(∀(i:Nat) (v:Value),l[i]? =some v→∃n t,ms[i]? =some n∧v=Value.int n t)→IntsAre l ms:=by
   intro l
   induction l with
   |nil=>intro ms hl _;cases ms with |nil=>exact .nil|cons=>simp at hl
   |cons v l ih=>
    intro ms hl hg
    cases ms with
    |nil=>simp at hl
    |cons m ms=>
     obtain⟨n,t,e1,rfl⟩:=hg 0 v (by simp)
     simp at e1
     subst e1
     exact .cons m t (ih ms (by simpa using hl) λi w hw=>by have:=hg (i+1) w (by simpa using hw);simpa using this)
  refine gen _ _ la λi v e=> ?_
  obtain⟨k,x,hx,hkv⟩:=hacc.2 i v (by rw[←Array.getElem?_toList];exact e)
  have hn:(ns.map Sum.inl:List Key)[i]? =some k:=by rw[←keq,List.getElem?_map,hx];rfl
  rw[List.getElem?_map] at hn
  obtain⟨n,e1,e2⟩:=Option.map_eq_some_iff.mp hn
  subst e2
  rcases keyIs_shape (show keyIs (Sum.inl n) v=true from hkv) with⟨i',t,e3,rfl⟩|⟨y,t,e3,rfl⟩
  ·cases e3;exact⟨n,t,e1,rfl⟩
  ·cases e3
 refine wpAny_bind (wpAny_newList ?_ (by rw[la,sizeLine_eq];omega))
 have hoL:(h'.push (seqObj "list" acc.toList.toArray 0)).get? h'.objs.size=some (seqObj "list" acc.toList.toArray 0):=Heap.get?_push_size _ rfl
 refine wpAny_bind (wpAny_holding (wpAny_call_entry slot_list_sort ⟨_,hoL,rfl⟩ entry_list_sort ?_ (args_list_sort _)))
 have O:=ints_ord nd
 rw[←la] at O
 refine sort_by (s:={s with heap:=h'.push (seqObj "list" acc.toList.toArray 0),toks:=tk}) (κ:=oneType') hoL (by rw[la];exact h64) O (λh2 _ h2' Qk qk=> ?_) (λh2 _ i j C hi hj qc=> ?_) λh2 is c hp hs hg k2=>⟨_,rfl,?_⟩
 ·rw[show acc.toList.toArray=acc by simp]
  have:=ksk_kind (keys:=acc) ia (by rw[←Array.length_toList];exact h2')
  rw[this]
  exact wpAny_pure qk
 ·rw[la] at hi hj
  have g: ∀i,i<ns.length→∃t,acc.toList.getD i Value.none=.int (ns.getD i 0) t:=λi hi=>by
   obtain⟨n,t,e1,e2⟩:=ints_at ia (i:=i) (v:=acc.toList[i]'(by omega)) (List.getElem?_eq_getElem (by omega))
   refine⟨t,?_⟩
   have e3:acc.toList.getD i Value.none=acc.toList[i]'(by omega):=by rw[List.getD_eq_getElem?_getD,List.getElem?_eq_getElem (by omega)];rfl
   have e4:ns.getD i 0=n:=by rw[List.getD_eq_getElem?_getD,e1];rfl
   rw[e3,e4,e2]
  obtain⟨t1,e1⟩:=g i hi
  obtain⟨t2,e2⟩:=g j hj
  unfold kas_ask
  rw[e1,e2]
  exact kat_lt_int qc
 ·refine wpAny_pure ⟨_,rfl,?_⟩
  rw[la] at hp
  have lt': ∀i∈is,i<ns.length:=λi hi=>List.mem_range.mp (hp.mem_iff.mp hi)
  have I1:Inv X pins σ H {s with heap:=h',toks:=tk}:=I.kept (t':=tk) keep
  have hfr:H h'.objs.size=none:=I1.hok.fresh (Nat.le_refl _)
  have es:(is.map λi=>ns.getD i 0)=isort ns:=by
   refine sorted_uniq (List.Perm.trans ?_ (isort_perm ns).symm) ?_ (isort_sorted ns)
   ·refine(hp.map _).trans (List.Perm.of_eq ?_)
    refine List.ext_getElem (by simp) λi h1 h2=> ?_
    simp at h1
    simp[h1]
   ·rw[List.pairwise_map]
    exact hs.imp λ{a b} q=>by rw[decide_eq_true_eq] at q;omega
  refine⟨.ref h'.objs.size,_,?_,rfl,q _ hfr⟩
  refine I1.laid (t':=tk) (λb o e=>k2 b o (Nat.ne_of_lt (Heap.lt_size e)) (Heap.get?_push_of_some _ e)) (Nat.le_refl _) ⟨by rw[List.length_map,(isort_perm ns).length_eq,sizeLine_eq];omega,_,c,?_,hg⟩
  rw[←es]
  have gen: ∀js:List Nat,(∀j∈js,j<ns.length)→Vals ((js.map λi=>ns.getD i 0).map V.int) (js.map λi=>acc.toList.getD i Value.none):=by
   intro js
   induction js with
   |nil=>intro _;exact .nil
   |cons j js ih=>
    intro hj
    have h0:=hj j (.head _)
    obtain⟨n,t,e1,e2⟩:=ints_at ia (i:=j) (v:=acc.toList[j]'(by omega)) (List.getElem?_eq_getElem (by omega))
    refine .cons ?_ (ih λi hi=>hj i (.tail _ hi))
    show RelV (.int (ns.getD j 0)) (acc.toList.getD j Value.none)
    have e3:acc.toList.getD j Value.none=acc.toList[j]'(by omega):=by rw[List.getD_eq_getElem?_getD,List.getElem?_eq_getElem (by omega)];rfl
    have e4:ns.getD j 0=n:=by rw[List.getD_eq_getElem?_getD,e1];rfl
    rw[e3,e4,e2]
    exact⟨t,rfl⟩
  exact gen is lt'
theorem cf_sortD{K:Frag}:CF K (rSortD K) sortDF:=by
 intro F H xs ts us Q hF rs e q
 unfold sortDF at e
 split at e
 ·obtain⟨ns,e1,e2⟩:=Option.bind_eq_some_iff.mp e
  split at e2
  ·cases e2
   obtain⟨v,rfl,r⟩:=rs.one
   cases r with
   |dic hd hk rs'=>
    refine⟨_,_,ns,rfl,hd.same hF,by rw[hk,inKeys_inv e1],by assumption,λD hD=>q D _ H F (.rfl hF) hD ?_⟩
    exact Reps.ints _
  ·cases e2
 ·cases e
end
end Kx
end L2
set_option Elab.async false
set_option linter.all false
set_option maxRecDepth 100000
namespace L2
open PySem PySem.Spec PyProof.Rows PySem.W
namespace Kx
noncomputable def Lent(h:Heap)(z TI TO T:Addr)(b:Bool):Prop:=h.get? z=some {cls:=.type "zip",dict:=none,data:=.fields #[rawInt T,.bool b,.bool false,.ref TI,.ref TO],slots:= #[]}
section
variable {prog:Program} {w:World} {A:Around} {E:Value→Shared→Prop} {s:Shared}
theorem alive{a:Addr}{Q:Option Obj→Shared→Prop}(h:Q (s.heap.get? a) s):wpAny (model prog w) A (loadIfAlive a) Q E s:=λΓ p hΓ=>by
 simp only[loadIfAlive]
 exact h
theorem not_free{z TI TO T:Addr}{b:Bool}{ob:Obj}{Q:Bool→Shared→Prop}(hz:Lent s.heap z TI TO T b)(hT:s.heap.get? T=some ob)
  (h: ∀h',Lent h' z TI TO T true→Heap.ExtBut z s.heap h'→h'.objs.size=s.heap.objs.size→Q false {s with heap:=h'}):wpAny (model prog w) A (Builtin.SmallTypes.ownedTupleIsFree (.ref z)) Q E s:=by
 unfold Builtin.SmallTypes.ownedTupleIsFree
 refine wpAny_bind (wpAny_field hz rfl (x:=rawInt T) rfl ?_)
 show wpAny _ _ (loadIfAlive ((T:Nat):Int).toNat>>=_) _ _ _
 refine wpAny_bind (alive ?_)
 rw[show((T:Nat):Int).toNat=T by rfl,hT]
 simp only[Option.isNone_some,Bool.false_eq_true,if_false]
 refine wpAny_bind (wpAny_field hz rfl (x:=.bool b) rfl ?_)
 cases b with
 |true=>
  rw[if_neg (by decide)]
  refine wpAny_pure ?_
  exact h s.heap hz (λ_ _ _ e=>e) rfl
 |false=>
  rw[if_pos (by decide)]
  refine wpAny_bind (wpAny_setField_rec hz (by simp) λh₁ hz₁ hs₁=>wpAny_pure ?_)
  exact h h₁ hz₁ hs₁.extBut hs₁.1
theorem lent_item{z TI TO T i1 i2 l1 l2:Addr}{k1 k2:Nat}{xs ys:Array Value}{x y:Value}{b:Bool}{ob:Obj}{Q:Option Value→Shared→Prop}(D:ZipApart z TI TO i1 i2 l1 l2)(hz:Lent s.heap z TI TO T b)(hT:s.heap.get? T=some ob)
  (hTI:IsPair s.heap TI (.ref i1) (.ref i2)) (h1:s.heap.IsListIter i1 l1 k1) (h2:s.heap.IsListIter i2 l2 k2) (hl1:s.heap.IsList l1 xs) (hl2:s.heap.IsList l2 ys) (hx:xs[k1]? =some x) (hy:ys[k2]? =some y)
  (hQ: ∀h',Lent h' z TI TO T true→h'.IsListIter i1 l1 (k1+1)→h'.IsListIter i2 l2 (k2+1)→IsPair h' s.heap.objs.size x y→h'.objs.size=s.heap.objs.size+1→
   (∀c o,c≠z→c≠i1→c≠i2→s.heap.get? c=some o→h'.get? c=some o)→Q (some (.ref s.heap.objs.size)) {s with heap:=h'}):
  wpAny (model prog w) A (pyNext (.ref z)) Q E s:=by
 have tz:s.TypeIs (.ref z) "zip":=⟨_,hz,rfl⟩
 unfold pyNext
 refine wpAny_bind (wpAny_attempt (wpAny_callSpecial?_slot (name:=Str.ofString "__next__") tz PySem.F.slot_zip_next (wpAny_call_entry PySem.F.slot_zip_next tz PySem.F.entry_zip_next ?_ (PySem.F.args_zip_next_1 _))))
 show wpAny _ _ (field (.ref z) 2>>=_) _ _ _
 refine wpAny_bind (wpAny_field hz rfl (x:=.bool false) rfl ?_)
 show wpAny _ _ (field (.ref z) 3>>=_) _ _ _
 refine wpAny_bind (wpAny_field hz rfl (x:=.ref TI) rfl ?_)
 refine wpAny_bind (wpAny_seqItems hTI rfl ?_)
 show wpAny _ _ (Builtin.SmallTypes.ownedTupleIsFree (.ref z)>>=_) _ _ _
 refine wpAny_bind (not_free hz hT λg₁ hz₁ hs₁ sz₁=> ?_)
 simp only[Bool.false_eq_true,if_false]
 refine wpAny_bind ?_
 simp only[List.forIn_toArray,List.forIn_cons,List.forIn_nil]
 refine wpAny_bind (wpAny_bind (wpAny_holding ?_))
 show wpAny _ _ (Builtin.SmallTypes.nextOf (.ref i1)>>=_) _ _ _
 refine wpAny_bind (wpAny_nextOf_list_item (h1.extBut hs₁ D.i1z) (hl1.extBut hs₁ D.l1z) hx λg₂ h1₂ hs₂=>wpAny_pure (wpAny_pure ?_))
 refine wpAny_bind (wpAny_bind (wpAny_holding ?_))
 show wpAny _ _ (Builtin.SmallTypes.nextOf (.ref i2)>>=_) _ _ _
 refine wpAny_bind (wpAny_nextOf_list_item ((h2.extBut hs₁ D.i2z).extBut hs₂.extBut D.i12.symm) ((hl2.extBut hs₁ D.l2z).extBut hs₂.extBut D.l2i1) hy λg₃ h2₃ hs₃=>wpAny_pure (wpAny_pure (wpAny_pure ?_)))
 refine wpAny_bind (wpAny_newTuple ?_ (by show 2≤sizeLine;rw[sizeLine_eq];decide))
 have sz:g₃.objs.size=s.heap.objs.size:=by rw[hs₃.1,hs₂.1,sz₁]
 have kp: ∀c o,c≠z→c≠i1→c≠i2→s.heap.get? c=some o→g₃.get? c=some o:=λc o a1 a2 a3 e=>hs₃.extBut _ _ a3 (hs₂.extBut _ _ a2 (hs₁ _ _ a1 e))
 refine wpAny_pure ⟨_,rfl,wpAny_pure ?_⟩
 show Q (some (.ref g₃.objs.size)) _
 rw[sz]
 refine hQ _ (Heap.get?_push_of_some _ (hs₃.extBut _ _ D.i2z.symm (hs₂.extBut _ _ D.i1z.symm hz₁))) ((h1₂.extBut hs₃.extBut D.i12).at λo e=>Heap.get?_push_of_some _ e) (h2₃.at λo e=>Heap.get?_push_of_some _ e) ?_ (by rw[Heap.size_push,sz]) λc o a1 a2 a3 e=>Heap.get?_push_of_some _ (kp c o a1 a2 a3 e)
 rw[←sz]
 exact Heap.get?_push_size _ rfl
theorem lent_end{z TI TO T i1 i2 l1 l2:Addr}{k1:Nat}{xs:Array Value}{b:Bool}{ob:Obj}{Q:Option Value→Shared→Prop}(hh:A.handled=none)(D:ZipApart z TI TO i1 i2 l1 l2)(hz:Lent s.heap z TI TO T b)(hT:s.heap.get? T=some ob)
  (hTI:IsPair s.heap TI (.ref i1) (.ref i2)) (h1:s.heap.IsListIter i1 l1 k1) (hl1:s.heap.IsList l1 xs) (hx:xs[k1]? =none)
  (hQ: ∀h',(∀c o,c≠z→c≠i1→s.heap.get? c=some o→h'.get? c=some o)→Q none {s with heap:=h'}):
  wpAny (model prog w) A (pyNext (.ref z)) Q E s:=by
 have tz:s.TypeIs (.ref z) "zip":=⟨_,hz,rfl⟩
 unfold pyNext
 refine wpAny_bind (wpAny_attempt (wpAny_callSpecial?_slot (name:=Str.ofString "__next__") tz PySem.F.slot_zip_next (wpAny_call_entry PySem.F.slot_zip_next tz PySem.F.entry_zip_next ?_ (PySem.F.args_zip_next_1 _))))
 show wpAny _ _ (field (.ref z) 2>>=_) _ _ _
 refine wpAny_bind (wpAny_field hz rfl (x:=.bool false) rfl ?_)
 show wpAny _ _ (field (.ref z) 3>>=_) _ _ _
 refine wpAny_bind (wpAny_field hz rfl (x:=.ref TI) rfl ?_)
 refine wpAny_bind (wpAny_seqItems hTI rfl ?_)
 show wpAny _ _ (Builtin.SmallTypes.ownedTupleIsFree (.ref z)>>=_) _ _ _
 refine wpAny_bind (not_free hz hT λg₁ hz₁ hs₁ sz₁=> ?_)
 simp only[Bool.false_eq_true,if_false]
 refine wpAny_bind ?_
 simp only[List.forIn_toArray,List.forIn_cons,List.forIn_nil]
 refine wpAny_bind (wpAny_bind (wpAny_holding ?_))
 show wpAny _ _ (Builtin.SmallTypes.nextOf (.ref i1)>>=_) _ _ _
 refine wpAny_bind (wpAny_nextOf_list_end hh (h1.extBut hs₁ D.i1z) (hl1.extBut hs₁ D.l1z) hx λg₂ e hs₂ he=> ?_)
 obtain⟨oe,hoe,hce⟩:=he
 refine wpAny_bind (wpAny_isInstance (T:="StopIteration") (b:=true) ⟨oe,hoe,hce⟩ isSubtype_stop ?_)
 exact wpAny_pure (hQ _ λc o a1 a2 x=>hs₂ _ _ a2 (hs₁ _ _ a1 x))
end
end Kx
end L2
set_option Elab.async false
set_option linter.all false
set_option maxRecDepth 100000
namespace L2
open PySem PySem.Spec PyProof.Rows PySem.W
namespace Kx
theorem lk_zip_keys:typeLookup (.type "zip") "keys"=pure none:=by rw[typeLookup_type,builtinLookup_eq_fast];kernel_rfl
theorem lk_zip_hook:typeLookup (.type "zip") "__getattr__"=pure none:=by rw[typeLookup_type,builtinLookup_eq_fast];kernel_rfl
theorem en_zip_ga:entryFor table "zip.__getattribute__"=some Builtin.«object.__getattribute__»:=
 entryFor_alias (id':="object.__getattribute__") (by kernel_rfl) (by decide+kernel) (by decide+kernel) (by kernel_rfl)
theorem meets_miss_zip(a:Addr)(xs:Array Value)(u:Tok):
  Meets (Builtin.«object.__getattribute__» ⟨[.ref a,.str "keys" u],[]⟩) (λA R s=>s.heap.get? a=some {cls:=.type "zip",dict:=none,data:=.fields xs,slots:= #[]}∧raisesAttr (.ref a) "keys" A R s):=
 Meets.of_wp λprog w A R s hs=>by
  obtain⟨hp,g,d,tk,os⟩:=s
  obtain⟨hx,hs⟩:=hs
  have hT:(⟨hp,g,d,tk,os⟩:Shared).TypeIs (.ref a) "zip":=⟨_,hx,rfl⟩
  have hmiss:=lk_zip_keys
  unfold Builtin.«object.__getattribute__»
  repeat (any_goals (first|assumption|wp_step))
  exact wpAny_raiseAttrError hs.1 hs.2 (by decide+kernel)
section
variable {prog:Program} {w:World} {A:Around} {E:Value→Shared→Prop} {s:Shared}
theorem no_keys{a:Addr}{xs:Array Value}{Q:Option Value→Shared→Prop}
  (hx:s.heap.get? a=some {cls:=.type "zip",dict:=none,data:=.fields xs,slots:= #[]}) (hA:A.handled=none)
  (h: ∀h' tk,(∀b ob,s.heap.get? b=some ob→h'.get? b=some ob)→Q none {s with heap:=h',toks:=tk}):
  wpAny (model prog w) A (getAttr? (.ref a) "keys") Q E s:=by
 obtain⟨hp,g,d,tk,os⟩:=s
 have hT: ∀tk',(⟨hp,g,d,tk',os⟩:Shared).TypeIs (.ref a) "zip":=λ_=>⟨_,hx,rfl⟩
 have f1:=sub_AttributeError
 have f3:=PySem.F.slot_zip_getattribute.lookup
 have f4:=PySem.F.slot_zip_getattribute.bind (.ref a)
 have f5:=lk_zip_hook
 unfold getAttr? getAttrBy? getAttrBy
 repeat (any_goals (first|assumption|exact hT _|((with_reducible show wpAny _ _ (call (Value.builtin "zip.__getattribute__") _ _) _ _ _);refine call_meets PySem.F.slot_zip_getattribute (hT _) en_zip_ga (PySem.F.args_zip_getattribute_2 _ _) (meets_miss_zip a xs _) ⟨hx,hA,λh' tk' e hx'=> ?_⟩)|wp_step))
 obtain⟨t',u',he⟩:=hx'.there
 show wpAny _ _ (getattributeRaised _ _ _ _ _ _ _) _ _ _
 unfold getattributeRaised
 repeat (any_goals (first|assumption|exact h _ _ hx'.keeps|wp_step))
end
end Kx
end L2
set_option Elab.async false
set_option linter.all false
set_option maxRecDepth 100000
namespace L2
open PySem PySem.Spec PyProof.Rows PySem.W
namespace Kx
theorem en_upd:entryFor table "dict.update.loop"=some Builtin.«dict.update.loop»:=entryFor_of_tree (by kernel_rfl)
theorem pl_upd:plainId "dict.update.loop"=true:=by decide+kernel
section
variable {prog:Program} {w:World} {A:Around} {E:Value→Shared→Prop} {s:Shared}
theorem pair_items{T:Addr}{x y:Value}(h:IsPair s.heap T x y){Q:List Value→Shared→Prop}(q:Q [x,y] s):wpAny (model prog w) A (Builtin.Dict.pairItems (.ref T)) Q E s:=by
 unfold Builtin.Dict.pairItems
 refine wpAny_bind (wpAny_typeOf (T:="tuple") ⟨_,h,rfl⟩ ?_)
 rw[if_pos (by decide)]
 exact wpAny_bind (wpAny_seqItems h rfl (wpAny_pure q))
structure ZSt(d z TI TO i1 i2 l1 l2:Addr)(xs ys:Array Value)(h:Heap)(i:Nat):Prop where
 ti:IsPair h TI (.ref i1) (.ref i2)
 h1:h.IsListIter i1 l1 i
 h2:h.IsListIter i2 l2 i
 x1:h.IsList l1 xs
 x2:h.IsList l2 ys
 zz:(IsZip h z TI TO .none∧∃a b,IsPair h TO a b)∨∃T b ob,Lent h z TI TO T b∧h.get? T=some ob∧T≠d∧T≠z∧T≠i1∧T≠i2
variable {d z TI TO i1 i2 l1 l2:Addr} {xs ys:Array Value}
theorem z_item{i:Nat}{x y:Value}(D:ZipApart z TI TO i1 i2 l1 l2)(x0:d<s.heap.objs.size)(Z:ZSt d z TI TO i1 i2 l1 l2 xs ys s.heap i)(hx:xs[i]? =some x)(hy:ys[i]? =some y){Q:Option Value→Shared→Prop}
  (q: ∀h',ZSt d z TI TO i1 i2 l1 l2 xs ys h' (i+1)→IsPair h' s.heap.objs.size x y→h'.objs.size=s.heap.objs.size+1→(∀c o,c≠z→c≠TO→c≠i1→c≠i2→s.heap.get? c=some o→h'.get? c=some o)→Q (some (.ref s.heap.objs.size)) {s with heap:=h'}):
  wpAny (model prog w) A (pyNext (.ref z)) Q E s:=by
 have b1:i1<s.heap.objs.size:=by obtain⟨o,e,_⟩:=Z.h1;exact Heap.lt_size e
 have b2:i2<s.heap.objs.size:=by obtain⟨o,e,_⟩:=Z.h2;exact Heap.lt_size e
 rcases Z.zz with⟨hz,a,b,hTO⟩|⟨T,b,ob,hz,hT,n1,n2,n3,n4⟩
 ·have bz:z<s.heap.objs.size:=Heap.lt_size hz
  refine wpAny_pyNext_zip_item D hz Z.ti hTO Z.h1 Z.h2 Z.x1 Z.x2 hx hy λh' a1 a2 a3 a4 a5 a6 a7=>q h' ⟨a7 _ _ D.TIz D.TITO D.TIi1 D.TIi2 Z.ti,a3,a4,Z.x1.at λo e=>a7 _ _ D.l1z D.l1TO D.l1i1 D.l1i2 e,Z.x2.at λo e=>a7 _ _ D.l2z D.l2TO D.l2i1 D.l2i2 e,.inr ⟨_,false,_,a1,a5,?_,?_,?_,?_⟩⟩ a5 a6 a7
  all_goals exact Nat.ne_of_gt (by assumption)
 ·refine lent_item D hz hT Z.ti Z.h1 Z.h2 Z.x1 Z.x2 hx hy λh' a1 a3 a4 a5 a6 a7=>q h' ⟨a7 _ _ D.TIz D.TIi1 D.TIi2 Z.ti,a3,a4,Z.x1.at λo e=>a7 _ _ D.l1z D.l1i1 D.l1i2 e,Z.x2.at λo e=>a7 _ _ D.l2z D.l2i1 D.l2i2 e,.inr ⟨_,true,_,a1,a7 _ _ n2 n3 n4 hT,n1,n2,n3,n4⟩⟩ a5 a6 λc o c1 _ c2 c3 e=>a7 c o c1 c2 c3 e
theorem z_end{i:Nat}(hh:A.handled=none)(D:ZipApart z TI TO i1 i2 l1 l2)(Z:ZSt d z TI TO i1 i2 l1 l2 xs ys s.heap i)(hx:xs[i]? =none){Q:Option Value→Shared→Prop}
  (q: ∀h',(∀c o,c≠z→c≠TO→c≠i1→c≠i2→s.heap.get? c=some o→h'.get? c=some o)→Q none {s with heap:=h'}):
  wpAny (model prog w) A (pyNext (.ref z)) Q E s:=by
 rcases Z.zz with⟨hz,a,b,hTO⟩|⟨T,b,ob,hz,hT,n1,n2,n3,n4⟩
 ·exact wpAny_pyNext_zip_end hh D hz Z.ti hTO Z.h1 Z.h2 Z.x1 Z.x2 (.inl hx) q
 ·exact lent_end hh D hz hT Z.ti Z.h1 Z.x1 hx λh' a1=>q h' λc o c1 _ c2 _ e=>a1 c o c1 c2 e
theorem ZSt.frame{i:Nat}{h h':Heap}(Z:ZSt d z TI TO i1 i2 l1 l2 xs ys h i)(hd:d∉[z,TI,TO,i1,i2,l1,l2])(k: ∀c o,c≠d→h.get? c=some o→h'.get? c=some o):ZSt d z TI TO i1 i2 l1 l2 xs ys h' i:=by
 simp only[List.mem_cons,List.not_mem_nil,or_false,not_or] at hd
 obtain⟨d1,d2,d3,d4,d5,d6,d7⟩:=hd
 refine⟨k _ _ (Ne.symm d2) Z.ti,Z.h1.at λo e=>k _ _ (Ne.symm d4) e,Z.h2.at λo e=>k _ _ (Ne.symm d5) e,Z.x1.at λo e=>k _ _ (Ne.symm d6) e,Z.x2.at λo e=>k _ _ (Ne.symm d7) e,?_⟩
 rcases Z.zz with⟨hz,a,b,hTO⟩|⟨T,b,ob,hz,hT,n1,n2,n3,n4⟩
 ·exact .inl ⟨k _ _ (Ne.symm d1) hz,a,b,k _ _ (Ne.symm d3) hTO⟩
 ·exact .inr ⟨T,b,ob,k _ _ (Ne.symm d1) hz,k _ _ n1 hT,n1,n2,n3,n4⟩
variable {K:Type} [DecidableEq K] {knd:PySem.KeyKind prog w K} {R:Result→Shared→Prop}
theorem upd_loop{ps:List (K×Value×Value)}(D:ZipApart z TI TO i1 i2 l1 l2)(hd:d∉[z,TI,TO,i1,i2,l1,l2])(hh:A.handled=none)(hz:ps.length≤sizeLine)(nd:(ps.map (·.1)).Nodup)
  (hk: ∀p∈ps,knd.is p.1 p.2.1=true) (ex:xs=(ps.map (·.2.1)).toArray) (ey:ys=(ps.map (·.2.2)).toArray):
  ∀(k i:Nat) (s:Shared),ps.length - i=k→i≤ps.length→ZSt d z TI TO i1 i2 l1 l2 xs ys s.heap i→s.heap.DictOf knd d ((ps.take i).map λp=>(p.1,p.2.2))→
   (∀h' tk,h'.DictOf knd d (ps.map λp=>(p.1,p.2.2))→(∀c o,c∉[d,z,TO,i1,i2]→s.heap.get? c=some o→h'.get? c=some o)→R (.ok (.ret .none)) {s with heap:=h',toks:=tk})→
   codeAny (model prog w) A (.builtin "dict.update.loop" ⟨[.ref d,.ref z,rawInt i,.none],[]⟩) R s:=by
 intro k
 have hd':=hd
 simp only[List.mem_cons,List.not_mem_nil,or_false,not_or] at hd'
 obtain⟨d1,d2,d3,d4,d5,d6,d7⟩:=hd'
 induction k with
 |zero=>
  intro i s e hi Z dd q
  have ei:i=ps.length:=by omega
  refine codeAny_builtin en_upd ?_
  rw[Around.under_plainId pl_upd _]
  show wpAny _ A.in1 (pyNext (.ref z)>>=_) _ _ s
  refine wpAny_bind (z_end (show A.in1.handled=none from hh) D Z (by subst ex ei;simp) λh' keep=> ?_)
  rw[ei,List.take_length] at dd
  show wpAny _ _ (Builtin.Dict.addKeywords d []>>=_) _ _ _
  refine wpAny_bind (wpAny_pure (wpAny_pure (q h' s.toks (dd.at λo e=>keep _ _ d1 d3 d4 d5 e) λc o hc e=> ?_)))
  simp only[List.mem_cons,List.not_mem_nil,or_false,not_or] at hc
  exact keep c o hc.2.1 hc.2.2.1 hc.2.2.2.1 hc.2.2.2.2 e
 |succ k ih=>
  intro i s e hi Z dd q
  have hlt:i<ps.length:=by omega
  have hp:ps[i]? =some ps[i]:=List.getElem?_eq_getElem hlt
  generalize ps[i]=p at hp
  obtain⟨pk,pa,pv⟩:=p
  refine codeAny_builtin en_upd ?_
  rw[Around.under_plainId pl_upd _]
  show wpAny _ A.in1 (pyNext (.ref z)>>=_) _ _ s
  have ld:d<s.heap.objs.size:=by obtain⟨o,es,ep,ho,_⟩:=dd;exact Heap.lt_size ho
  refine wpAny_bind (z_item (d:=d) (x:=pa) (y:=pv) D ld Z (by subst ex;simp[hp]) (by subst ey;simp[hp]) λh' Z' hP sz keep=> ?_)
  show wpAny _ A.in1 (holding [Value.ref s.heap.objs.size] _>>=_) _ _ _
  refine wpAny_bind (wpAny_holding ?_)
  refine wpAny_bind (wpAny_tryCatch (pair_items hP ?_))
  show wpAny _ _ (holding [pa,pv] (dictSet d pa pv)) _ _ _
  refine wpAny_holding ?_
  have nk:valueAt ((ps.take i).map λp=>(p.1,p.2.2)) pk=none:=by
   refine PyProof.Rows.valueAt_none_of_not_mem λhm=> ?_
   obtain⟨q1,hq1,hq2⟩:=List.mem_map.mp hm
   obtain⟨q2,hq3,rfl⟩:=List.mem_map.mp hq1
   obtain⟨j,hj,e1⟩:=List.mem_take_iff_getElem.mp hq3
   have hj':j<i:=by omega
   have e2:=(List.pairwise_iff_getElem.mp nd) j i (by simp;omega) (by simpa using hlt) hj'
   have e3:ps[i]=(pk,pa,pv):=by
    obtain⟨_,e⟩:=List.getElem?_eq_some_iff.mp hp
    exact e
   refine e2 ?_
   simp only[List.getElem_map]
   rw[e3,e1]
   exact hq2
  refine wpAny_dictSet_pairs (knd:=knd) (k:=pk) (hsz:=by simp;omega) (hk _ (List.mem_of_getElem? hp)) (dd.at λo e=>keep _ _ d1 d3 d4 d5 e) λh2 dd2 hs2=> ?_
  rw[PyProof.Rows.stored_absent nk] at dd2
  refine wpAny_pure ⟨plainId_quiet pl_upd _,?_⟩
  have ek:((ps.take i).map λp=>(p.1,p.2.2))++[(pk,pv)]=(ps.take (i+1)).map λp=>(p.1,p.2.2):=by
   rw[List.take_add_one,hp];simp
  rw[ek] at dd2
  refine ih (i+1) _ (by omega) hlt (Z'.frame hd λc o hc e=>hs2.extBut c o hc e) dd2 λh3 tk d3' k3=>q h3 tk d3' λc o hc e=>k3 c o hc ?_
  simp only[List.mem_cons,List.not_mem_nil,or_false,not_or] at hc
  exact hs2.extBut c o hc.1 (keep c o hc.2.1 hc.2.2.1 hc.2.2.2.1 hc.2.2.2.2 e)
theorem call_dz{ps:List (K×Value×Value)}(hh:A.handled=none)(hz:ps.length≤sizeLine)(nd:(ps.map (·.1)).Nodup)(hk: ∀p∈ps,knd.is p.1 p.2.1=true)
  (hl1:s.heap.IsList l1 (ps.map (·.2.1)).toArray) (hl2:s.heap.IsList l2 (ps.map (·.2.2)).toArray) {Q:Value→Shared→Prop}
  (q: ∀d h' tk,s.heap.objs.size≤d→h'.DictOf knd d (ps.map λp=>(p.1,p.2.2))→(∀c o,s.heap.get? c=some o→h'.get? c=some o)→Q (.ref d) {s with heap:=h',toks:=tk}):
  wpAny (model prog w) A (call (.type "zip") [.ref l1,.ref l2]) (λv s1=>wpAny (model prog w) A (call (.type "dict") [v]) Q E s1) E s:=by
 have lt1:l1<s.heap.objs.size:=by obtain⟨o,ho,_⟩:=hl1;exact Heap.lt_size ho
 have lt2:l2<s.heap.objs.size:=by obtain⟨o,ho,_⟩:=hl2;exact Heap.lt_size ho
 refine call_zip_2 hl1 hl2 λh1 z1 ti to j1 j2 sz1 kp1=> ?_
 have D:=PySem.W.ktu_apart _ _ _ lt1 lt2
 have Z1:ZSt h1.objs.size (s.heap.objs.size+4) (s.heap.objs.size+2) (s.heap.objs.size+3) s.heap.objs.size (s.heap.objs.size+1) l1 l2 (ps.map (·.2.1)).toArray (ps.map (·.2.2)).toArray h1 0:=
  ⟨ti,j1,j2,hl1.at λo e=>kp1 _ _ e,hl2.at λo e=>kp1 _ _ e,.inl ⟨z1,_,_,to⟩⟩
 refine callType_codes (Q₁:=λobj s₁=>obj=.ref h1.objs.size∧s₁={s with heap:=h1.push {cls:=.type "dict",data:=.dict #[]}}) PySem.F.kt_called_dict (PySem.F.kt_typeCall_dict_1 _) PySem.F.entry_dict_init (kt_code_dict_new _ ⟨rfl,rfl⟩) ?_
 rintro obj s₁ ⟨rfl,rfl⟩
 have hnew:(h1.push {cls:=.type "dict",data:=.dict #[]}).DictOf knd h1.objs.size []:=Heap.DictOf.new h1
 have kp2: ∀c o,h1.get? c=some o→(h1.push {cls:=.type "dict",data:=.dict #[]}).get? c=some o:=λc o e=>Heap.get?_push_of_some _ e
 refine⟨hnew.typeIs,PySem.F.args_dict_init_2 _ _,?_⟩
 unfold Builtin.«dict.__init__»
 refine wpAny_bind ?_
 unfold Builtin.Dict.selfAndRest
 refine wpAny_bind (wpAny_notOrdered_dict hnew.typeIs ?_)
 show wpAny _ _ (pure (h1.objs.size,[Value.ref (s.heap.objs.size+4)])) _ _ _
 refine wpAny_pure ?_
 show wpAny _ _ (Builtin.Dict.updateFrom "dict.__init__" h1.objs.size (.ref (s.heap.objs.size+4)) [] .none) _ _ _
 unfold Builtin.Dict.updateFrom
 refine wpAny_bind (wpAny_typeOf (T:="zip") ⟨_,kp2 _ _ z1,rfl⟩ ?_)
 rw[if_pos (by decide)]
 refine wpAny_bind (no_keys (kp2 _ _ z1) (show A.in1.in1.handled=none from hh) λh3 tk3 kp3=> ?_)
 rw[if_pos (by decide)]
 refine wpAny_bind (wpAny_rule ?_)
 refine wpAny_bind (wpAny_pyIter_zip (kp3 _ _ (kp2 _ _ z1)) ?_)
 have hd:h1.objs.size∉[s.heap.objs.size+4,s.heap.objs.size+2,s.heap.objs.size+3,s.heap.objs.size,s.heap.objs.size+1,l1,l2]:=by
  simp only[List.mem_cons,List.not_mem_nil,or_false,not_or]
  have g1: ∀k,k<5→(h1.objs.size:Nat)≠s.heap.objs.size+k:=λk hk e=>by rw[sz1] at e;exact absurd (Nat.add_left_cancel e) (by omega)
  have g2: ∀c:Nat,c<s.heap.objs.size→(h1.objs.size:Nat)≠c:=λc hc=>Nat.ne_of_gt (by rw[sz1];exact Nat.lt_of_lt_of_le hc (Nat.le_add_right _ _))
  exact⟨g1 4 (by decide),g1 2 (by decide),g1 3 (by decide),g1 0 (by decide),g1 1 (by decide),g2 _ lt1,g2 _ lt2⟩
 refine wpAny_pure ⟨plainId_quiet pl_upd _,?_⟩
 refine upd_loop (knd:=knd) (ps:=ps) D hd (show A.in1.handled=none from hh) hz nd hk rfl rfl (ps.length - 0) 0 _ rfl (Nat.zero_le _) (Z1.frame hd λc o _ e=>kp3 _ _ (kp2 _ _ e)) ?_ λh4 tk4 dd4 kp4=> ?_
 ·exact hnew.at λo e=>kp3 _ _ e
 ·refine⟨rfl,q _ h4 tk4 (by rw[sz1];exact Nat.le_add_right _ _) dd4 λc o e=>kp4 c o ?_ (kp3 _ _ (kp2 _ _ (kp1 _ _ e)))⟩
  have hc:=Heap.lt_size e
  simp only[List.mem_cons,List.not_mem_nil,or_false,not_or]
  have g: ∀k,c≠s.heap.objs.size+k:=λk=>Nat.ne_of_lt (Nat.lt_of_lt_of_le hc (Nat.le_add_right _ _))
  exact⟨by rw[sz1];exact g 5,g 4,g 3,g 0,g 1⟩
end
noncomputable def toKeys:List T→Option (List Key)
 |[]=>some []
 | .int n::ts=>(toKeys ts).map (Sum.inl n:: ·)
 | .str x::ts=>(toKeys ts).map (Sum.inr x:: ·)
 |_::_=>none
theorem toKeys_reps{K:PySem.W.Frag}{F:Hp}: ∀{ts:List T} {ks:List Key} {vs:List V},toKeys ts=some ks→Reps K F vs ts→vs=ks.map kV
 |[],ks,vs,h,r=>by cases h;cases r;rfl
 | .int n::ts,ks,vs,h,r=>by
  unfold toKeys at h
  obtain⟨ms,h1,rfl⟩:=Option.map_eq_some_iff.mp h
  cases r with
  |cons r1 r2=>cases r1;rw[toKeys_reps h1 r2];rfl
 | .str n::ts,ks,vs,h,r=>by
  unfold toKeys at h
  obtain⟨ms,h1,rfl⟩:=Option.map_eq_some_iff.mp h
  cases r with
  |cons r1 r2=>cases r1;rw[toKeys_reps h1 r2];rfl
 | .non::ts,ks,vs,h,r=>by cases h
 | .bl _::ts,ks,vs,h,r=>by cases h
 | .lst _::ts,ks,vs,h,r=>by cases h
 | .tup _::ts,ks,vs,h,r=>by cases h
 | .scr _::ts,ks,vs,h,r=>by cases h
 | .dic _::ts,ks,vs,h,r=>by cases h
 | .dit _::ts,ks,vs,h,r=>by cases h
 | .raw _::ts,ks,vs,h,r=>by cases h
 | .exc _ _::ts,ks,vs,h,r=>by cases h
theorem toKeys_ints: ∀ns:List Int,toKeys (ns.map T.int)=some (ns.map Sum.inl)
 |[]=>rfl
 |n::ns=>by simp only[List.map_cons,toKeys,toKeys_ints ns];rfl
theorem kv_zip: ∀{ks:List Key} {ys:List V} {us:List Value},Vals ys us→KV (ks.zip ys) (ks.zip us)
 |[],_,_,_=>by rw[List.zip_nil_left,List.zip_nil_left];exact .nil
 |_::_,_,_,.nil=>by rw[List.zip_nil_right,List.zip_nil_right];exact .nil
 |k::ks,_,_,.cons r t=>by rw[List.zip_cons_cons,List.zip_cons_cons];exact .cons ⟨rfl,r⟩ (kv_zip t)
noncomputable def tDZ(K:PySem.W.Frag)(ta:TA):TE:=λσ H Q=>ta σ H λvs H1=> ∃(l1 l2:Addr) (ks:List Key) (ys:List V),vs=[.ref l1,.ref l2]∧SqL K H1 l1 (ks.map kV)∧SqL K H1 l2 ys∧ks.Nodup∧ks.length=ys.length∧
 ∀p,H1 p=none→Q (.ref p) (upd H1 p (.dK (ks.zip ys)))
section
variable {X:Cx} {a b:Expr} {pos p1 p2 pz:Pos} {f g:DE}
theorem pe_dz{ta:TA}(hc:X.calm=true)(hg:Gl X "zip")(hm:X.mg "zip"=none)(hgd:Gl X "dict")(hmd:X.mg "dict"=none)(ha:PA X [a,b] ta)
  (hs0:starEach [.Call (.Name "zip" p2) [a,b] [] pz] X.env=(false,eval (.Call (.Name "zip" p2) [a,b] [] pz) X.env)::starEach [] X.env:=by rfl)
  (hs:starEach [a,b] X.env=(false,eval a X.env)::starEach [b] X.env:=by rfl) (hs2:(backTo pz (starEach [b] X.env)).any (·.1)=false:=by rfl):
  PE X (.Call (.Name "dict" p1) [.Call (.Name "zip" p2) [a,b] [] pz] [] pos) (tDZ X.K ta):=by
 intro pins s σ H Q I h
 refine Call_ (ld_blt I hgd hmd boot_dict (PyProof.Rows.callWith_type1 ?_ hs0 rfl))
 rw[hs0]
 show wpAny _ _ (spliced ((false,eval _ X.env)::backTo pos (starEach [] X.env))) _ _ s
 refine Calls.spliced_cons ?_
 refine Call_ (ld_blt I hg hm boot_zip (PyProof.Rows.callWith_type1 (thn (ha pz pins s σ H _ I h) λus s1 ⟨vs,H1,I1,r1,q1⟩=> ?_) hs hs2))
 obtain⟨l1,l2,ks,ys,rfl,hq1,hq2,nd,el,q⟩:=q1
 obtain⟨u,w',rfl,ru,rw'⟩:=vals2 r1
 cases ru
 cases rw'
 obtain⟨its1,rv1,pl1,z1⟩:=I1.list hq1
 obtain⟨its2,rv2,pl2,z2⟩:=I1.list hq2
 have e1:=rv1.length
 have e2:=rv2.length
 simp only[List.length_map] at e1 z1
 have k1:((ks.zip (its1.zip its2)).map (·.1))=ks:=List.map_fst_zip (by simp;omega)
 have k2:((ks.zip (its1.zip its2)).map (·.2.1))=its1:=by
  rw[show(λx:Key×Value×Value=>x.2.1)=(·.1)∘(·.2) from rfl,←List.map_map,List.map_snd_zip (by simp;omega),List.map_fst_zip (by omega)]
 have k3:((ks.zip (its1.zip its2)).map (·.2.2))=its2:=by
  rw[show(λx:Key×Value×Value=>x.2.2)=(·.2)∘(·.2) from rfl,←List.map_map,List.map_snd_zip (by simp;omega),List.map_snd_zip (by omega)]
 have k4:((ks.zip (its1.zip its2)).map λp=>(p.1,p.2.2))=ks.zip its2:=by
  refine List.ext_getElem (by simp;omega) λi h1 h2=> ?_
  simp
 refine thn (call_dz (Q:=EP X pins σ Q) (knd:=mixKind X.prog X.w) (ps:=ks.zip (its1.zip its2)) (I1.ok.hd hc) (by simp;omega) (by rw[k1];exact nd) (λp hp=> ?_) (by rw[k2];exact pl1.isList) (by rw[k3];exact pl2.isList) λd h' tk hd dd keep=> ?_) λv s2 hv=> ?_
 ·obtain⟨i,hi⟩:=List.mem_iff_getElem?.mp hp
  obtain⟨g1,g2⟩:=List.getElem?_zip_eq_some.mp hi
  obtain⟨g3,g4⟩:=List.getElem?_zip_eq_some.mp g2
  obtain⟨u,hu,ru⟩:=rv1.get (i:=i) (x:=kV p.1) (by rw[List.getElem?_map,g1];rfl)
  rw[g3] at hu
  cases hu
  exact kV_is ru
 ·rw[k4] at dd
  have hf:H1 d=none:=I1.hok.fresh hd
  refine⟨.ref d,_,I1.laid (t':=tk) (a:=d) (o:=.dK (ks.zip ys)) keep hd (dk_new (by simp;omega) ?_ (kv_zip rv2) dd),rfl,q _ hf⟩
  exact beq_eq_false_iff_ne.mpr (Ne.symm (Nat.ne_of_lt (Nat.lt_of_lt_of_le I1.big hd)))
 ·exact Calls.spliced_nil hv
noncomputable def dzT:T→T→Option T
 | .lst ts,.lst us=>(toKeys ts).bind λks=>if ks.Nodup∧ks.length=us.length then some (.dic (ks.zip us)) else none
 |_,_=>none
noncomputable def d_dz(f g:DE):DE:=λε=>(f ε).bind λt=>(g ε).bind λu=>dzT t u
@[simp] theorem dz_ap{f g:DE}{ε:Ev}:d_dz f g ε=((f ε).bind λt=>(g ε).bind λu=>dzT t u):=rfl
theorem ve_dz(hc:X.calm=true)(hg:Gl X "zip")(hm:X.mg "zip"=none)(hgd:Gl X "dict")(hmd:X.mg "dict"=none)(ha:VE X a f)(hb:VE X b g)
  (hs0:starEach [.Call (.Name "zip" p2) [a,b] [] pz] X.env=(false,eval (.Call (.Name "zip" p2) [a,b] [] pz) X.env)::starEach [] X.env:=by rfl)
  (hs:starEach [a,b] X.env=(false,eval a X.env)::starEach [b] X.env:=by rfl) (hs1:starEach [b] X.env=[(false,eval b X.env)]:=by rfl) (hs2:(backTo pz (starEach [b] X.env)).any (·.1)=false:=by rfl):
  VE X (.Call (.Name "dict" p1) [.Call (.Name "zip" p2) [a,b] [] pz] [] pos) (d_dz f g):=PE.le (pe_dz hc hg hm hgd hmd (va_cons ha (va_cons hb va_nil hs1) hs) hs0 hs hs2) λσ H Q ⟨F,ε,t,hF,hE,e,q⟩=>by
 obtain⟨t1,e1,e2⟩:=Option.bind_eq_some_iff.mp e
 obtain⟨u,e3,e4⟩:=Option.bind_eq_some_iff.mp e2
 unfold dzT at e4
 split at e4
 ·rename_i ts us
  obtain⟨ks,e5,e6⟩:=Option.bind_eq_some_iff.mp e4
  split at e6
  ·rename_i hn
   cases e6
   refine⟨F,ε,_,hF,hE,by unfold dAc;rw[e1,e3];rfl,λvs H' F' x rs=> ?_⟩
   obtain⟨v,w,rfl,r,r'⟩:=rs.two
   obtain⟨p,vs,rfl,hp,rs1⟩:=r.inv_lst
   obtain⟨p',vs',rfl,hp',rs2⟩:=r'.inv_lst
   have ev:=toKeys_reps e5 rs1
   subst ev
   have lv:=rs2.length
   refine⟨p,p',ks,vs',rfl,SqL.of (x.fh _ _ hp),SqL.of (x.fh _ _ hp'),hn.1,by omega,λd hd=> ?_⟩
   have x2:=L2.Ext.new x.fh hd (.dK (ks.zip vs'))
   refine q _ _ _ (x.trans x2) (.dic (.inl upd_same) ?_ ?_)
   ·rw[List.map_fst_zip (by omega),List.map_fst_zip (by omega)]
   ·rw[List.map_snd_zip (by omega),List.map_snd_zip (by omega)]
    exact rs2.mono x2.ff
  ·cases e6
 ·cases e4
end
end Kx
end L2
set_option Elab.async false
set_option linter.all false
set_option maxRecDepth 100000
namespace L2
open PySem PySem.Spec PyProof.Rows PySem.W
noncomputable def rSum(K:PySem.W.Frag):List V→Hp→VK→Prop:=λxs H Q=> ∃(p:Addr) (ns:List Int),xs=[.ref p]∧SqL K H p (ns.map V.int)∧Q (.int ns.sum) H
theorem call_sumT{X:Cx}(hc:X.calm=true):CallR X (.builtin "sum") (rSum X.K):=by
 intro pins s σ H xs us Q I r h
 obtain⟨p,ns,rfl,hq,q⟩:=h
 obtain⟨u,rfl,ru⟩:=vals1 r
 cases ru
 obtain⟨its,rv,pl,_⟩:=I.list hq
 have hi:=intsAre_of rv
 obtain⟨zs,e⟩:=hi.allInts.items
 have hns:ns=zs.toList.map (·.1):=by rw[←hi.numsOf,←nums_intItems,←e]
 have pl':=pl.isList
 rw[e] at pl'
 refine sum_intListG (I.ok.hd hc) pl' λh' tk t' hk=> ?_
 refine⟨.int ns.sum,H,I.kept (t':=tk) hk,⟨t',?_⟩,q⟩
 rw[preSum_eq,List.take_of_length_le (by simp),hns]
@[simp] noncomputable def sumT:List T→Option T
 |[.lst ts]=>(intsT ts).map λns=>.int ns.sum
 |_=>none
theorem ct_sum{K:PySem.W.Frag}:CT K (rSum K) sumT:=by
 intro F H xs ts u Q hF rs e q
 unfold sumT at e
 split at e
 ·obtain⟨ns,e1,rfl⟩:=Option.map_eq_some_iff.mp e
  obtain⟨v,rfl,r⟩:=rs.one
  obtain⟨p,vs,rfl,hp,rs'⟩:=r.inv_lst
  rw[intsT_inv e1] at rs'
  rw[rs'.inv_int] at hp
  exact⟨p,ns,rfl,SqL.of (hF _ _ hp),q _ H F (.rfl hF) (.int _)⟩
 ·cases e
end L2
set_option Elab.async false
set_option linter.all false
set_option maxRecDepth 100000
namespace L2
open PySem PySem.Spec PyProof.Rows PySem.W
section
variable {X:Cx} {a b:Expr} {pos p2:Pos} {tg:Expr} {f g:DE}
noncomputable def d_reversed1(f:DE):DA:=λε=>(f ε).bind λt=>match t with
 | .lst ts=>some ts.reverse
 |_=>none
@[simp] theorem reversed_ap{f:DE}{ε:Ev}:d_reversed1 f ε=((f ε).bind λt=>match t with
 | .lst ts=>some ts.reverse
 |_=>none):=rfl
end
noncomputable def rowL(ρ:List Int):T:=.lst (ρ.map T.int)
noncomputable def rowsL:List T→Option (List (List Int))
 |[]=>some []
 | .lst us::ts=>(intsT us).bind λρ=>(rowsL ts).map (ρ:: ·)
 |_::_=>none
theorem rowsL_map: ∀L:List (List Int),rowsL (L.map rowL)=some L
 |[]=>rfl
 |ρ::L=>by
  show(intsT (ρ.map T.int)).bind (λρ=>(rowsL (L.map rowL)).map (ρ:: ·))=_
  rw[intsT_map,rowsL_map L]
  rfl
theorem rowsL_inv: ∀{ts:List T} {L:List (List Int)},rowsL ts=some L→ts=L.map rowL
 |[],L,h=>by cases h;rfl
 | .lst us::ts,L,h=>by
  unfold rowsL at h
  obtain⟨ρ,h1,h2⟩:=Option.bind_eq_some_iff.mp h
  obtain⟨L',h3,rfl⟩:=Option.map_eq_some_iff.mp h2
  rw[rowsL_inv h3,intsT_inv h1]
  rfl
 | .non::ts,L,h=>by cases h
 | .bl _::ts,L,h=>by cases h
 | .int _::ts,L,h=>by cases h
 | .str _::ts,L,h=>by cases h
 | .tup _::ts,L,h=>by cases h
 | .scr _::ts,L,h=>by cases h
 | .dic _::ts,L,h=>by cases h
 | .dit _::ts,L,h=>by cases h
 | .raw _::ts,L,h=>by cases h
theorem eqBs_ints: ∀p q:List Int,eqBs (p.map T.int) (q.map T.int)=decide (p=q)
 |[],[]=>rfl
 |[],_::_=>by simp[eqBs]
 |_::_,[]=>by simp[eqBs]
 |a::p,b::q=>by
  rw[List.map_cons,List.map_cons,eqBs,eqBs_ints p q,eqB]
  by_cases h1:a=b<;>by_cases h2:p=q<;>simp[h1,h2]
theorem eqB_row{p q:List Int}:eqB (rowL p) (rowL q)=decide (p=q):=by
 unfold rowL
 rw[eqB]
 exact eqBs_ints p q
theorem eqOks_ints: ∀p q:List Int,eqOks (p.map T.int) (q.map T.int)=true
 |[],[]=>by simp[eqOks]
 |[],_::_=>by simp[eqOks]
 |_::_,[]=>by simp[eqOks]
 |a::p,b::q=>by
  rw[List.map_cons,List.map_cons,eqOks,eqOks_ints p q]
  rfl
theorem eqOk_row{p q:List Int}:eqOk (rowL p) (rowL q)=true:=by
 unfold rowL
 rw[eqOk]
 exact eqOks_ints p q
theorem dep_row{p:List Int}:dep (rowL p)≤2:=by
 unfold rowL dep
 have:deps (p.map T.int)≤0:=deps_le λu hu=>by
  obtain⟨x,_,rfl⟩:=List.mem_map.mp hu
  simp[dep]
 omega
section
variable {X:Cx} {e a b:Expr} {pos:Pos} {f g:DE}
theorem row_one{pins:List (Addr×Obj)}{s:Shared}{σ:St}{H:Hp}(I:Inv X pins σ H s){p:Addr}{q q':List Int}(r:Rep X.K H (.ref p) (rowL q))(r':Rep X.K H (.ref p) (rowL q')):q=q':=by
 have:=eqB_same (K:=X.K) I 2 _ _ _ dep_row r r' eqOk_row
 rw[eqB_row] at this
 exact of_decide_eq_true this
theorem rows_its{K:Frag}{H:Hp}: ∀{xs:List V} {P:List (List Int)},Reps K H xs (P.map rowL)→∀{us:List Value},Vals xs us→∀u,u∈us→∃p q,u=.ref p∧q∈P∧Rep K H (.ref p) (rowL q)
 |[],[],.nil,_,.nil=>λu h=>by cases h
 |_::xs,q::P,.cons r rs,_,.cons ru vs=>λu h=>by
  obtain⟨p,ws,rfl,_⟩:=r.inv_lst
  cases ru
  rcases List.mem_cons.mp h with rfl|h
  ·exact⟨p,q,rfl,by simp,r⟩
  ·obtain⟨p',q',e,h1,h3⟩:=rows_its rs vs u h
   exact⟨p',q',e,.tail _ h1,h3⟩
theorem rows_back{K:Frag}{H:Hp}: ∀{xs:List V} {P:List (List Int)},Reps K H xs (P.map rowL)→∀{us:List Value},Vals xs us→∀q∈P,∃p,Value.ref p∈us∧Rep K H (.ref p) (rowL q)
 |[],[],.nil,_,.nil=>λq h=>by cases h
 |_::xs,q::P,.cons r rs,_,.cons ru vs=>λq' h=>by
  obtain⟨p,ws,rfl,_⟩:=r.inv_lst
  cases ru
  rcases List.mem_cons.mp h with rfl|h
  ·exact⟨p,by simp,r⟩
  ·obtain⟨p',h1,h2⟩:=rows_back rs vs q' h
   exact⟨p',.tail _ h1,h2⟩
open Classical in
noncomputable def isRow(K:Frag)(H:Hp)(q:List Int)(u:Value):Bool:=decide (∃p,u=.ref p∧Rep K H (.ref p) (rowL q))
theorem isRow_iff{K:Frag}{H:Hp}{q:List Int}{u:Value}:isRow K H q u=true↔∃p,u=.ref p∧Rep K H (.ref p) (rowL q):=by
 unfold isRow
 exact @decide_eq_true_iff _ (Classical.propDecidable _)
noncomputable def rInR(K:Frag)(neg:Bool):R2:=λx y H Q=> ∃(p:Addr) (xs:List V) (q:List Int) (P:List (List Int)),y=.ref p∧SqL K H p xs∧Rep K H x (rowL q)∧Reps K H xs (P.map rowL)∧Q (.bl (if neg then !decide (q∈P) else decide (q∈P))) H
theorem isRow_eq{pins:List (Addr×Obj)}{s:Shared}{σ:St}{H:Hp}(I:Inv X pins σ H s)(hu:X.A.units+64<cLine){x:V}{v:Value}{q:List Int}(rx:RelV x v)(r:Rep X.K H x (rowL q)){xs:List V}{P:List (List Int)}(rs:Reps X.K H xs (P.map rowL)){us:List Value}(vs:Vals xs us):
  (∀w∈us,SeqAt.EqAt X.A.in1 s w v (isRow X.K H q w))∧us.any (isRow X.K H q)=decide (q∈P):=by
 constructor
 ·intro w hw
  obtain⟨p,q',rfl,_,r'⟩:=rows_its rs vs w hw
  have h:=eqAt_rep I 2 X.A.in1 (rowL q') (rowL q) (.ref p) x (.ref p) v dep_row (by rw[Around.in1_units];omega) r' r rfl rx eqOk_row
  rw[eqB_row] at h
  have e:isRow X.K H q (.ref p)=decide (q'=q):=by
   by_cases g:q'=q
   ·subst g
    rw[isRow_iff.mpr ⟨p,rfl,r'⟩,decide_eq_true rfl]
   ·rw[decide_eq_false g,Bool.eq_false_iff]
    intro k
    obtain⟨p',e,r2⟩:=isRow_iff.mp k
    cases e
    exact g (row_one I r' r2)
  rw[e]
  exact h
 ·by_cases h:q∈P
  ·rw[decide_eq_true h]
   obtain⟨p,h1,h2⟩:=rows_back rs vs q h
   exact List.any_eq_true.mpr ⟨_,h1,isRow_iff.mpr ⟨p,rfl,h2⟩⟩
  ·rw[decide_eq_false h]
   rw[Bool.eq_false_iff]
   intro g
   obtain⟨w,hw,g⟩:=List.any_eq_true.mp g
   obtain⟨p,e,r2⟩:=isRow_iff.mp g
   subst e
   obtain⟨p',q',e,h1,r3⟩:=rows_its rs vs _ hw
   cases e
   rw[row_one I r2 r3] at h
   exact h h1
theorem op_notIn_rows(hu:X.A.units+64<cLine):OpR X (compareOp .NotIn) (rInR X.K true):=by
 intro pins s σ H x y v u Q I rx ry h
 obtain⟨p,xs,q,P,rfl,hq,r,rs,k⟩:=h
 cases ry
 obtain⟨its,vs,pl,hz⟩:=I.list hq
 obtain⟨h1,h2⟩:=isRow_eq I hu rx r rs vs
 refine SeqAt.notIn_listAt (isRow X.K H q) pl.isList (λw hw=>h1 w (by simpa using hw)) ⟨.bl _,H,I,rfl,?_⟩
 rw[show its.toArray.any (isRow X.K H q)=its.any (isRow X.K H q) by simp,h2]
 exact k
noncomputable def notInR:T→T→Option T
 | .lst us,.lst ts=>(intsT us).bind λq=>(rowsL ts).map λP=>.bl (!decide (q∈P))
 |_,_=>none
theorem notInR_at{q:List Int}{P:List (List Int)}:notInR (rowL q) (.lst (P.map rowL))=some (.bl (!decide (q∈P))):=by
 show(intsT (q.map T.int)).bind _=_
 rw[intsT_map,Option.bind_some,rowsL_map]
 rfl
theorem ot_notInR{K:Frag}:OT K (rInR K true) notInR:=by
 intro F H x y s t u Q hF rx ry e q
 unfold notInR at e
 split at e
 ·obtain⟨p,vs,rfl,hp,rs⟩:=ry.inv_lst
  obtain⟨z,h1,h2⟩:=Option.bind_eq_some_iff.mp e
  obtain⟨P,h3,rfl⟩:=Option.map_eq_some_iff.mp h2
  rw[intsT_inv h1] at rx
  rw[rowsL_inv h3] at rs
  exact⟨p,vs,z,P,rfl,SqL.of (hF _ _ hp),rx.mono hF,rs.mono hF,q _ H F (.rfl hF) (.bl _)⟩
 ·cases e
theorem vt_notInR(hu:X.A.units+64<cLine)(ha:VE X a f)(hb:VE X b g)(hm:behindInMarks .NotIn b=false:=by with_unfolding_all rfl):VT X (.Compare a [.NotIn] [b] pos) (dB (d2 notInR f g)):=vt2 ot_notInR (pt_cmpR (op_notIn_rows hu) ha hb hm)
end
noncomputable def dIns2(i:Nat)(m1 m2:List Bool)(g f:DE):DS:=λτ=>(g (see m1 τ)).bind λkt=>(f (see m2 τ)).bind λt=>match kt,(aft m2 t τ)[i]? with
 | .int k,some (some (.lst os))=>if os.length<lim∧(-1000000≤k∧k≤1000000) then some (.nx ((aft m2 t τ).set i (some (.lst (insAt os k (.val t)))))) else none
 |_,_=>none
@[simp] theorem dIns2_ap{i:Nat}{m1 m2:List Bool}{g f:DE}{τ:Env2}:dIns2 i m1 m2 g f τ=((g (see m1 τ)).bind λkt=>(f (see m2 τ)).bind λt=>match kt,(aft m2 t τ)[i]? with
 | .int k,some (some (.lst os))=>if os.length<lim∧(-1000000≤k∧k≤1000000) then some (.nx ((aft m2 t τ).set i (some (.lst (insAt os k (.val t)))))) else none
 |_,_=>none):=rfl
end L2
set_option Elab.async false
set_option linter.all false
set_option maxRecDepth 100000
namespace L2
open PySem PySem.Spec PyProof.Rows PySem.W
noncomputable def getDT:T→T→Option T
 | .dit kts,.tup ts=>(Kx.toKeys ts).bind λk=>valG kts k
 |_,_=>none
section
variable {X:Cx} {fx:List Nat} {st:Stmt} {a b:Expr} {f g:DE} {gs:DA} {pos pos':Pos} {i:Nat} {m:List Bool} {td ty:TE}
noncomputable def dNewDT(i:Nat):DS:=λτ=>some (.nx (τ.set i (some (.dit []))))
end
@[simp] theorem dNewDT_ap{i:Nat}{τ:Env2}:dNewDT i τ=some (.nx (τ.set i (some (.dit [])))):=rfl
@[simp] theorem getDT_at{l:List (List Key×T)}{ts:List T}:getDT (.dit l) (.tup ts)=(Kx.toKeys ts).bind λk=>valG l k:=rfl
end L2
set_option Elab.async false
set_option linter.all false
set_option maxRecDepth 100000
namespace L2
open PySem PySem.Spec PyProof.Rows PySem.W
noncomputable def getN:T→T→Option T
 | .dic kts,t=>(keyT t).map λk=>(valG kts k).getD .non
 |_,_=>none
noncomputable def d_get(f g:DE):DE:=λε=>(f ε).bind λs=>match s with
 | .dic kts=>(g ε).bind λt=>getN (.dic kts) t
 |_=>none
@[simp] theorem getN_str{l:List (Key×T)}{x:Str}:getN (.dic l) (.str x)=some ((valG l (.inr x)).getD .non):=rfl
@[simp] theorem d_get_ap{f g:DE}{ε:Ev}:d_get f g ε=((f ε).bind λs=>match s with
 | .dic kts=>(g ε).bind λt=>getN (.dic kts) t
 |_=>none):=rfl
section
variable {X:Cx} {a b:Expr} {f g:DE} {pos apos cpos:Pos}
end
section
variable {X:Cx} {a b:Expr} {f g:DE} {pos:Pos}
end
end L2
set_option Elab.async false
set_option linter.all false
set_option maxRecDepth 100000
namespace L2
open PySem PySem.Spec PyProof.Rows PySem.W
section
variable {N P:List Str} {sc:Scope}
theorem fsc(h1:sc.kind=.function:=by rfl)(h2:sc.isCoroutine=false:=by rfl)(h3:sc.isGenerator=false:=by rfl)(h4:N.Nodup:=by decide+kernel)(h5:N.take P.length=P:=by rfl)
  (h6: ∀x∈P,sc.names.lookup x=some .local∨sc.names.lookup x=some .cell:=by decide+kernel) (h7: ∀y∈sc.names,y.2≠.free:=by decide+kernel):FnScope N P sc:=⟨h1,h2,h3,h4,h5,h6,h7⟩
variable {Q:Value→Value→Value→Option Addr→Value→Value→List Value→Prop}
theorem bn1(h: ∀a b c d e f x1,Q a b c d e f [x1]:=by intros;rfl): ∀a b c d e f us,us.length=1→Q a b c d e f us:=λ_ _ _ _ _ _ us hl=>match us,hl with |[_],_=>h _ _ _ _ _ _ _
theorem bn2(h: ∀a b c d e f x1 x2,Q a b c d e f [x1,x2]:=by intros;rfl): ∀a b c d e f us,us.length=2→Q a b c d e f us:=λ_ _ _ _ _ _ us hl=>match us,hl with |[_,_],_=>h _ _ _ _ _ _ _ _
theorem bn3(h: ∀a b c d e f x1 x2 x3,Q a b c d e f [x1,x2,x3]:=by intros;rfl): ∀a b c d e f us,us.length=3→Q a b c d e f us:=λ_ _ _ _ _ _ us hl=>match us,hl with |[_,_,_],_=>h _ _ _ _ _ _ _ _ _
theorem bn4(h: ∀a b c d e f x1 x2 x3 x4,Q a b c d e f [x1,x2,x3,x4]:=by intros;rfl): ∀a b c d e f us,us.length=4→Q a b c d e f us:=λ_ _ _ _ _ _ us hl=>match us,hl with |[_,_,_,_],_=>h _ _ _ _ _ _ _ _ _ _
end
section
variable {X:Cx} {i:Nat} {x:Str} {e:Expr} {te:TE} {pos pos' apos cpos epos:Pos}
theorem ps_st(hN:X.N.Nodup)(he:PE X e te)(hi:X.N[i]? =some x:=by rfl)(hx:Loc X.env.scope x:=by first|exact Or.inl rfl|exact Or.inr rfl)(hs:swapsWith e (some (.Name x pos')) pos.line X.env=pure false:=by rfl)
  (hf:X.fn x=true∨X.env.scope.names.lookup x=some .local:=by first|exact .inl rfl|exact .inr rfl|assumption):PS X (.Assign [.Name x pos'] e pos) (tAsg te (gName i)):=ps_set hN hi hx he hs hf
theorem pg_nm(i:Nat)(hN:X.N.Nodup)(hi:X.N[i]? =some x:=by rfl)(hx:Loc X.env.scope x:=by first|exact Or.inl rfl|exact Or.inr rfl)(hf:X.fn x=true∨X.env.scope.names.lookup x=some .local:=by first|exact .inl rfl|exact .inr rfl|assumption):
  PG X (.Name x pos) (gName i):=pg_name hN hi hx hf
theorem vsap{fx:List Nat}{m:List Bool}{f:DE}(ho:PE X (.Name x pos) (tVar i))(he:VE X e f)(hbase:attributeBase (.Name x pos) "append" X.env (eval (.Name x pos) X.env)=eval (.Name x pos) X.env:=by rfl)
  (hfew:((backTo cpos (starEach [e] X.env)).all (λx=> !x.1)&&(backToKw cpos (keywordEach [] X.env)).all (λx=>x.1.isSome)
   &&decide (([e]:List Expr).length+([]:List Keyword).length+(if ([]:List Keyword).isEmpty then 0 else 1)<30))=true:=by rfl)
  (hline:(apos.endLine==cpos.line)=true:=by rfl) (hs:starEach [e] X.env=(false,eval e X.env)::starEach [] X.env:=by rfl) (hplain:(backTo cpos (starEach [] X.env)).any (·.1)=false:=by rfl)
  (hsw:swapsWith (.Call (.Attribute (.Name x pos) "append" apos) [e] [] cpos) none epos.line X.env=pure false:=by rfl):
  VS X fx (.Expr (.Call (.Attribute (.Name x pos) "append" apos) [e] [] cpos) epos) (dApp i m f):=
 vs_app (ps_expr (pe_bm PySem.F.plainAttrs_list PySem.F.slot_list_append PySem.F.type_list_append mt_append ho (pa_cons he pa_nil hs) hbase hfew hline hs hplain) hsw)
end
noncomputable def FJ(K:PySem.W.Frag)(x:Str)(st:Stmt):Prop:= ∃f fd,PySem.W.nsIn K mainGlobals x=some (some (.ref f))∧Fun K x x st f fd
theorem FJ.of{K:PySem.W.Frag}{x:Str}{st:Stmt}{f:Addr}{oc:Value}{od an:Option Addr}{osl:Array (Option Value)}{kV doc pm cdv ct:Value}(a:PySem.W.nsIn K mainGlobals x=some (some (.ref f)))
  (l:K.lookup f=some ⟨oc,od,.func (PySem.W.fnOf x x (defArgs st) (defBody st) (defScope st) .none kV doc pm an cdv ct),osl⟩) (c:PySem.W.codeIn K cdv x=true) (k:PySem.W.keepIn K (.ref f)=true):FJ K x st:=⟨_,_,a,fun_mk l c k⟩
noncomputable def FI(K:PySem.W.Frag)(mg:Str→Option Value)(x:Str)(st:Stmt):Prop:= ∃f fd,mg x=some (.ref f)∧Fun K x x st f fd
theorem FJ.at{K:PySem.W.Frag}{h:Heap}{mg:Str→Option Value}{x:Str}{st:Stmt}(F:FJ K x st)(X:K.In h)(G:h.Ns mainGlobals mg):FI K mg x st:=
 let ⟨f,fd,a,F⟩:=F
 ⟨f,fd,PySem.W.mg_of X G a,F⟩
noncomputable def Cal(P:Program)(w:World)(K:PySem.W.Frag)(mg:Str→Option Value)(base:Heap)(k:Nat)(x:Str)(ps:List Str)(sp:Sp):Prop:=
 ∃fa fd oc od sl,K.lookup fa=some ⟨oc,od,.func fd,sl⟩∧FnOk P w K mg base CX0 k fa fd ps sp∧mg x=some (.ref fa)∧PySem.W.keepIn K (.ref fa)=true∧∀us:List Value,us.length=ps.length→bindArgs fd ⟨us,[]⟩=pure (ps.zip us)
section
variable {P:Program} {w:World} {K:PySem.W.Frag} {mg:Str→Option Value} {base:Heap} {j k:Nat} {x:Str} {st:Stmt} {N ps:List Str} {d:DS}
theorem Cal.up{sp:Sp}(C:Cal P w K mg base j x ps sp)(h:j≤k:=by decide):Cal P w K mg base k x ps sp:=
 let ⟨fa,fd,oc,od,sl,l,F,r⟩:=C
 ⟨fa,fd,oc,od,sl,l,F.mono h,r⟩
theorem cal_of{sp:Sp}(F:FI K mg x st)(hbn: ∀(kV doc pm:Value) (an:Option Addr) (cdv ct:Value) (us:List Value),us.length=ps.length→bindArgs (PySem.W.fnOf x x (defArgs st) (defBody st) (defScope st) .none kV doc pm an cdv ct) ⟨us,[]⟩=pure (ps.zip us))
  (h: ∀f fd,Fun K x x st f fd→FnOk P w K mg base CX0 k f fd ps sp):Cal P w K mg base k x ps sp:=by
 obtain⟨f,fd,a,F⟩:=F
 have H:=h f fd F
 have hk:=F.kp
 obtain⟨oc,od,kV,doc,pm,an,cdv,ct,osl,rfl,lk,hcd⟩:=F.ex
 exact⟨f,_,oc,od,osl,lk,H,a,hk,hbn kV doc pm an cdv ct⟩
theorem cal_pure(F:FI K mg x st)(S:FnScope N ps (defScope st))(hbn: ∀(kV doc pm:Value) (an:Option Addr) (cdv ct:Value) (us:List Value),us.length=ps.length→bindArgs (PySem.W.fnOf x x (defArgs st) (defBody st) (defScope st) .none kV doc pm an cdv ct) ⟨us,[]⟩=pure (ps.zip us))
  (hb: ∀(f:Addr) (cdv:Value) (A:Around) (outer:List Env) (s:Shared) (H:Hp) (E:XK),Room k (A.deeper (envOfC x (defScope st) s.heap.objs.size f cdv))→VSs (cxOf CX0 P w K mg base N x (defScope st) f cdv A outer s H E).nox [] (defBody st) d):
  Cal P w K mg base (k+1) x ps (spP K λts=>if ts.length=ps.length then runs d (startE N ts) else none):=
 cal_of F hbn λf fd F=>fun_pure (d:=d) F S (hb f) λts t e=>by
  split at e
  ·rename_i h
   exact⟨h,e⟩
  ·cases e
theorem law_mk{fa:Addr}{y:Str}{sp:Sp}(h:Heap)(hfa:mg x=some (.ref fa))(C: ∀base,Cal P w K mg base k x [y] sp):
  ∃fd:FuncData,(∀(s:Shared) (v:Value),BindsTo s fd ⟨[v],[]⟩ [(y,v)])∧∀base:Heap,K.In base→base.Ns mainGlobals mg→FnOk P w K mg base CX0 k fa fd [y] sp:=by
 obtain⟨f,fd,oc,od,sl,l,_,a,_,hb⟩:=C h
 cases hfa.symm.trans a
 refine⟨fd,λs v=>.of_eq (hb [v] rfl),λbase _ _=> ?_⟩
 obtain⟨f',fd',oc',od',sl',l',F',a',_,_⟩:=C base
 cases hfa.symm.trans a'
 cases l.symm.trans l'
 exact F'
end
section
variable {X:Cx} {k i:Nat} {x:Str} {ps:List Str} {e:Expr} {es:List Expr} {p pos p2 p3:Pos} {fs:DA}
theorem vv(i:Nat){x:Str}{pos:Pos}(hN:X.N[i]? =some x:=by rfl)(hv:Vis X.env.scope x:=by first|exact Or.inl rfl|exact Or.inr (Or.inl rfl)|exact Or.inr (Or.inr rfl))(hd:(x==("__debug__":Str))=false:=by decide)
  (hcd:(x==("__classdict__":Str))=false:=by decide):VE X (.Name x pos) (dV i):=ve_var i (pv i hN hv hd hcd)
theorem vc{s:List T→Option T}(C:Cal X.prog X.w X.K X.mg X.base k x ps (spP X.K s))(hr:Room k X.A)(hg:Gl X x)
  (ha:VA X (e::es) fs) (hdb:(x==("__debug__":Str))=false:=by decide) (he:starEach (e::es) X.env=(false,eval e X.env)::starEach es X.env:=by rfl) (hpl:(backTo pos (starEach es X.env)).any (·.1)=false:=by rfl):
  VE X (.Call (.Name x p) (e::es) [] pos) (dCall s fs):=by
 obtain⟨f,fd,oc,od,sl,l,F,a,hk,hb⟩:=C
 exact ve_call F hr hg a hk (.all hb) ha hdb he hpl
theorem vc_sortK{y:Str}{g:List T→Option T}{f:DE}(C:Cal X.prog X.w X.K X.mg X.base k x [y] (spP X.K g))(hr:Room (k+2) X.A)(hg:Gl X "sorted")(hm:X.mg "sorted"=none)(hgf:Gl X x)(ha:VE X e f)
  (hdf:(x==("__debug__":Str))=false:=by decide) (hs:starEach [e] X.env=(false,eval e X.env)::starEach [] X.env:=by rfl) (he:backTo pos (starEach [e] X.env)=(false,eval e X.env)::backTo pos (starEach [] X.env):=by rfl) (hpl:(backTo pos (starEach [e] X.env)).any (·.1)=false:=by rfl):
  VF X (.Call (.Name "sorted" p) [e] [⟨some "key",.Name x p2,p3⟩] pos) (dCallF (Kx.sortKF g) (dAc f dA0)):=by
 obtain⟨fa,fd,oc,od,sl,l,F,a,hk,hb⟩:=C
 exact Kx.vf_sortK F hr (.all hb) hg hm hgf a ha hdf hs he hpl
end
end L2
set_option Elab.async false
set_option linter.all false
set_option maxRecDepth 100000
namespace L2
open PySem PySem.Spec PyProof.Rows PySem.W
namespace Kx
open PySem.SeqAt
open PySem.AutoSeq1 (wpAny_loadPart')
open PySem.MeetsSeq PySem.MeetsSeq2 PySem.MeetsSeq3
theorem rcGe_int(A:Around)(s:Shared)(a:Int)(t:Tok)(c:Int)(u:Tok)(prog:Program)(w:World)(E:Value→Shared→Prop)(Q:Value→Shared→Prop)(h:Q (.bool (decide (a≥c))) s):
  wpAny (model prog w) A (richCompare .GtE (.int a t) (.int c u)) Q E s:=
 (PyProof.Rows.ge_int h:wpAny (model prog w) A (compareOp .GtE (.int a t) (.int c u)) Q E s)
theorem ge_turns(p q:Addr)(xs ys:Array Value)(c c':Nat)(d d':Option Addr)(z z':Array (Option Value))(ns ms:List Int)(hx:IntsAre xs.toList ns)(hy:IntsAre ys.toList ms)(hz:xs.size=ys.size):
  ∀k i:Nat,xs.size - i=k→Meets (Builtin.«list.__eq__.loop» ⟨[.ref p,.ref q,rawInt i,rawInt 5],[]⟩)
   (λA R s=>s.heap.get? p=some {cls:=.type "list",dict:=d,data:=.seq xs c,slots:=z}∧s.heap.get? q=some {cls:=.type "list",dict:=d',data:=.seq ys c',slots:=z'}∧
    R (.ok (.ret (.bool (!(HT.lexLt (ns.drop i) (ms.drop i)))))) s):=by
 have ln:xs.size=ns.length:=by rw[←hx.length];simp
 have lm:ys.size=ms.length:=by rw[←hy.length];simp
 intro k
 induction k with
 |zero=>
  intro i hk prog w A R s h
  obtain⟨hp,g,dr,tk,os⟩:=s
  obtain⟨h1,h2,h⟩:=h
  wp_walk using wpAny_loadPart' h1,wpAny_loadPart' h2
  have e1:xs[((i:Nat):Int).toNat]? =none:=by simp;omega
  have e2:ys[((i:Nat):Int).toNat]? =none:=by simp;omega
  rw[List.drop_eq_nil_of_le (by omega),List.drop_eq_nil_of_le (by omega)] at h
  rw[e1,e2]
  wp_walk using wpAny_loadPart' h1,wpAny_loadPart' h2
  show R (.ok (.ret (.bool (decide (xs.size≥ys.size))))) _
  rw[decide_eq_true (by omega)]
  exact h
 |succ k ih=>
  intro i hk prog w A R s h
  obtain⟨hp,g,dr,tk,os⟩:=s
  obtain⟨h1,h2,h⟩:=h
  wp_walk using wpAny_loadPart' h1,wpAny_loadPart' h2
  have l1:i<xs.size:=by omega
  have l2:i<ys.size:=by omega
  have e1:xs[((i:Nat):Int).toNat]? =some xs[i]:=by simp[l1]
  have e2:ys[((i:Nat):Int).toNat]? =some ys[i]:=by simp[l2]
  obtain⟨n,t,en,ev⟩:=ints_at hx (i:=i) (v:=xs[i]) (by simp[l1])
  obtain⟨m,u,em,ew⟩:=ints_at hy (i:=i) (v:=ys[i]) (by simp[l2])
  have dn:ns.drop i=n::ns.drop (i+1):=by
   obtain⟨g1,g2⟩:=List.getElem?_eq_some_iff.mp en
   rw[List.drop_eq_getElem_cons g1,g2]
  have dm:ms.drop i=m::ms.drop (i+1):=by
   obtain⟨g1,g2⟩:=List.getElem?_eq_some_iff.mp em
   rw[List.drop_eq_getElem_cons g1,g2]
  have hc:((i:Int)+1)=((i+1:Nat):Int):=by omega
  rw[dn,dm,HT.lexLt_cons] at h
  rw[e1,e2]
  obtain⟨e,he,hiff⟩:=HT.eqAt_int A.in1 ⟨hp,g,dr,tk,os⟩ n t m u
  rw[←ev,←ew] at he
  refine wpAny_bind (he prog w _ _ ?_)
  cases e with
  |true=>
   rw[if_pos (hiff.mp rfl)] at h
   wp_walk
   rw[hc]
   exact⟨plainId_quiet plain_eq_loop _,codeAny_builtin entry_eq_loop (by
    rw[Around.under_plainId plain_eq_loop _]
    exact ih (i+1) (by omega) prog w A R _ ⟨h1,h2,h⟩)⟩
  |false=>
   rw[if_neg (λq=>absurd (hiff.mpr q) Bool.false_ne_true)] at h
   wp_walk using wpAny_loadPart' h1,wpAny_loadPart' h2
   rw[e1,e2]
   have rc:=rcGe_int A.in1 ⟨hp,g,dr,tk,os⟩ n t m u prog w
   rw[←ev,←ew] at rc
   wp_walk using rc
   rw[show decide (n≥m)= !(decide (n<m)) by by_cases q:n<m<;>simp[q]<;>omega]
   exact h
theorem ge_lists(p q:Addr)(xs ys:Array Value)(c c':Nat)(d d':Option Addr)(z z':Array (Option Value))(ns ms:List Int)(hx:IntsAre xs.toList ns)(hy:IntsAre ys.toList ms)(hz:xs.size=ys.size):
  Meets (Builtin.«list.__ge__» ⟨[.ref p,.ref q],[]⟩)
   (λA R s=>s.heap.get? p=some {cls:=.type "list",dict:=d,data:=.seq xs c,slots:=z}∧s.heap.get? q=some {cls:=.type "list",dict:=d',data:=.seq ys c',slots:=z'}∧
    R (.ok (.ret (.bool (!(HT.lexLt ns ms))))) s):=by
 intro prog w A R s h
 obtain⟨hp,g,dr,tk,os⟩:=s
 obtain⟨h1,h2,h⟩:=h
 have f3:=AutoSeq1.sub_list_list
 wp_walk using wpAny_loadPart' h1,wpAny_loadPart' h2
 exact⟨plainId_quiet plain_eq_loop _,codeAny_builtin entry_eq_loop (by
  rw[Around.under_plainId plain_eq_loop _]
  exact ge_turns p q xs ys c c' d d' z z' ns ms hx hy hz _ 0 rfl prog w A R _ ⟨h1,h2,by simpa using h⟩)⟩
section
variable {prog:Program} {w:World} {A:Around} {E:Value→Shared→Prop} {s:Shared}
theorem ge_list{p q:Addr}{xs ys:Array Value}{ns ms:List Int}{Q:Value→Shared→Prop}(h1:s.heap.IsList p xs)(h2:s.heap.IsList q ys)(hx:IntsAre xs.toList ns)(hy:IntsAre ys.toList ms)(hz:xs.size=ys.size)(hu:A.units<cLine)(h:Q (.bool (!(HT.lexLt ns ms))) s):
  wpAny (model prog w) A (compareOp .GtE (.ref p) (.ref q)) Q E s:=by
 obtain⟨⟨cls,d,data,z⟩,o1,c1,n,d1⟩:=id h1
 obtain⟨⟨cls',d',data',z'⟩,o2,c2,n',d2⟩:=id h2
 simp only at c1 d1 c2 d2
 subst c1 d1 c2 d2
 exact richCompare_meets_room (op:=.GtE) ⟨_,o1,rfl⟩ ⟨_,o2,rfl⟩ PySem.F.slot_list_ge PySem.F.entry_list_ge (PySem.F.args_list_ge_2 _ _) (ge_lists p q xs ys n n' d d' z z' ns ms hx hy hz)
  ⟨o1,o2,show Value.bool (!(HT.lexLt ns ms))≠Value.notImplemented∧Q (.bool (!(HT.lexLt ns ms))) s from⟨(λx=>nomatch x),h⟩⟩ hu
end
end Kx
end L2
set_option Elab.async false
set_option linter.all false
set_option maxRecDepth 100000
namespace L2
open PySem PySem.Spec PyProof.Rows PySem.W
namespace Kx
open PySem.SeqAt
open PySem.AutoSeq1 (wpAny_loadPart')
open PySem.MeetsSeq PySem.MeetsSeq2 PySem.MeetsSeq3
theorem ge_tups(p q l1 l2:Addr)(t1 t2:Tok)(c c':Nat)(d d':Option Addr)(z z':Array (Option Value))(xs ys:Array Value)(ns ms:List Int)(hx:IntsAre xs.toList ns)(hy:IntsAre ys.toList ms):
  Meets (Builtin.«tuple.__ge__» ⟨[.ref p,.ref q],[]⟩)
   (λA R s=>s.heap.get? p=some {cls:=.type "tuple",dict:=d,data:=.seq #[.int (ns.length:Int) t1,.ref l1] c,slots:=z}∧s.heap.get? q=some {cls:=.type "tuple",dict:=d',data:=.seq #[.int (ms.length:Int) t2,.ref l2] c',slots:=z'}∧
    s.heap.IsList l1 xs∧s.heap.IsList l2 ys∧A.in1.units<cLine∧EqAt A.in1 s (.ref l1) (.ref l2) (decide (ns=ms))∧R (.ok (.ret (.bool (!(klt ns ms))))) s):=
 .of_wp λprog w A R s h=>by
  obtain⟨hp,g,dr,tk,os⟩:=s
  obtain⟨h1,h2,h3,h4,hu,he,h⟩:=h
  have f2:=AutoSeq1.sub_tuple_tuple
  wp_walk using wpAny_loadPart' h1,wpAny_loadPart' h2,wpAny_forIn_list _ (λrest b s'=>b.1=none∧s'=⟨hp,g,dr,tk,os⟩∧(rest=[(Value.int (ns.length:Int) t1,Value.int (ms.length:Int) t2),(Value.ref l1,Value.ref l2)]∨(rest=[(Value.ref l1,Value.ref l2)]∧ns.length=ms.length)∨(rest=[]∧ns=ms))) _
  case turn=>
   rintro⟨y,x⟩ rest b s' ⟨hb',rfl,hr⟩
   rcases hr with hr|⟨hr,hl⟩|⟨hr,_⟩
   ·injection hr with h5 h6
    injection h5 with h7 h8
    subst h7 h8
    obtain⟨e,he',hiff⟩:=HT.eqAt_int A.in1 ⟨hp,g,dr,tk,os⟩ (ns.length:Int) t1 (ms.length:Int) t2
    refine wpAny_bind (he' prog w _ _ ?_)
    cases e with
    |true=>
     have hl:ns.length=ms.length:=by have:=hiff.mp rfl;omega
     wp_walk
     exact⟨rfl,rfl,.inr (.inl ⟨h6,hl⟩)⟩
    |false=>
     have hl:ns.length≠ms.length:=λq=>absurd (hiff.mpr (by omega)) Bool.false_ne_true
     have hri:=rcGe_int A.in1 ⟨hp,g,dr,tk,os⟩ (ns.length:Int) t1 (ms.length:Int) t2 prog w
     wp_walk using hri
     refine⟨_,rfl,?_⟩
     rw[klt,if_neg hl] at h
     rw[show decide ((ns.length:Int)≥ms.length)= !(decide (ns.length<ms.length)) by by_cases q:ns.length<ms.length<;>simp[q]<;>omega]
     exact h
   ·injection hr with h5 h6
    injection h5 with h7 h8
    subst h7 h8
    refine wpAny_bind (he prog w _ _ ?_)
    by_cases en:ns=ms
    ·rw[decide_eq_true en]
     wp_walk
     exact⟨rfl,rfl,.inr (.inr ⟨h6,en⟩)⟩
    ·rw[decide_eq_false en]
     have hz:xs.size=ys.size:=by
      have a1:=hx.length
      have a2:=hy.length
      simp at a1 a2
      omega
     have hgl: ∀{E':Value→Shared→Prop} {Q':Value→Shared→Prop},Q' (.bool (!(HT.lexLt ns ms))) ⟨hp,g,dr,tk,os⟩→wpAny (model prog w) A.in1 (richCompare .GtE (.ref l1) (.ref l2)) Q' E' ⟨hp,g,dr,tk,os⟩:=λq=>ge_list h3 h4 hx hy hz hu q
     wp_walk using hgl
     refine⟨_,rfl,?_⟩
     rw[klt,if_pos hl] at h
     exact h
   ·cases hr
  case fin=>
   rintro⟨b1,b2⟩ s' ⟨hb',rfl,hr⟩
   simp only at hb'
   subst hb'
   rcases hr with hr|⟨hr,hl⟩|⟨_,en⟩
   ·cases hr
   ·cases hr
   ·subst en
    rw[klt,if_pos rfl,lex_irr] at h
    refine wpAny_pure ⟨_,rfl,?_⟩
    exact h
  all_goals first
   |exact⟨rfl,rfl,.inl rfl⟩
   |skip
end Kx
end L2
set_option Elab.async false
set_option linter.all false
set_option maxRecDepth 100000
namespace L2
open PySem PySem.Spec PyProof.Rows PySem.W
namespace Kx
section
variable {X:Cx} {e a b:Expr} {pos:Pos} {f g:DE}
noncomputable def rGeK(K:Frag):R2:=λx y H Q=> ∃(p q:Addr) (ns ms:List Int),x=.ref p∧y=.ref q∧Rep K H (.ref p) (keyT ns)∧Rep K H (.ref q) (keyT ms)∧Q (.bl (!(klt ns ms))) H
theorem op_geK(hu:X.A.units+64<cLine):OpR X (compareOp .GtE) (rGeK X.K):=by
 intro pins s σ H x y v u Q I rx ry h
 obtain⟨p,q,ns,ms,rfl,rfl,r1,r2,k⟩:=h
 cases rx
 cases ry
 obtain⟨⟨cls1,d1,data1,z1⟩,n1,t1,l1,i1,ho1,c1,hd1,hl1,hi1,rr1⟩:=(key_at I r1).ex
 obtain⟨⟨cls2,d2,data2,z2⟩,n2,t2,l2,i2,ho2,c2,hd2,hl2,hi2,rr2⟩:=(key_at I r2).ex
 simp only at c1 hd1 c2 hd2
 subst c1 hd1 c2 hd2
 have hin:X.A.in1.units+2<cLine:=by rw[Around.in1_units];omega
 have he:=eqAt_rep I 1 X.A.in1 (.lst (ns.map T.int)) (.lst (ms.map T.int)) (.ref l1) (.ref l2) (.ref l1) (.ref l2) (by unfold dep;rw[dep_ints];omega) (by rw[Around.in1_units];omega) rr1 rr2 rfl rfl (by unfold eqOk;exact eqOk_ints ns ms)
 unfold eqB at he
 rw[eqB_ints] at he
 exact richCompare_meets_room (op:=.GtE) ⟨_,ho1,rfl⟩ ⟨_,ho2,rfl⟩ PySem.F.slot_tuple_ge PySem.F.entry_tuple_ge (PySem.F.args_tuple_ge_2 _ _) (ge_tups p q l1 l2 t1 t2 n1 n2 d1 d2 z1 z2 i1.toArray i2.toArray ns ms (by simpa using hi1) (by simpa using hi2))
  ⟨ho1,ho2,hl1,hl2,by rw[Around.in1_units];omega,he,show Value.bool (!(klt ns ms))≠Value.notImplemented∧_ from⟨(λx=>nomatch x),⟨.bl _,H,I,rfl,k⟩⟩⟩ (by omega)
noncomputable def geK:T→T→Option T
 | .tup [.int a,.lst us],.tup [.int b,.lst ws]=>(intsT us).bind λns=>(intsT ws).bind λms=>if a=ns.length∧b=ms.length then some (.bl (!(klt ns ms))) else none
 |_,_=>none
theorem geK_at(ns ms:List Int):geK (keyT ns) (keyT ms)=some (.bl (!(klt ns ms))):=by
 unfold geK keyT
 simp only[intsT_map,Option.bind_some,and_self,if_true]
theorem ot_geK{K:Frag}:OT K (rGeK K) geK:=by
 intro F H x y s t u Q hF rx ry e q
 unfold geK at e
 split at e
 ·obtain⟨ns,e1,e2⟩:=Option.bind_eq_some_iff.mp e
  obtain⟨ms,e3,e4⟩:=Option.bind_eq_some_iff.mp e2
  split at e4
  ·rename_i hc
   cases e4
   obtain⟨h1,h2⟩:=hc
   subst h1 h2
   have z1:=intsT_inv e1
   have z2:=intsT_inv e3
   subst z1 z2
   obtain⟨p,vs,rfl,hp,rs⟩:=rx.inv_tup
   obtain⟨p',vs',rfl,hp',rs'⟩:=ry.inv_tup
   exact⟨p,p',ns,ms,rfl,rfl,rx.mono hF,ry.mono hF,q _ H F (.rfl hF) (.bl _)⟩
  ·cases e4
 ·cases e
theorem vt_geK(hu:X.A.units+64<cLine)(ha:VE X a f)(hb:VE X b g)(hm:behindInMarks .GtE b=false:=by with_unfolding_all rfl):VT X (.Compare a [.GtE] [b] pos) (dB (d2 geK f g)):=vt2 ot_geK (pt_cmpR (op_geK hu) ha hb hm)
end
end Kx
end L2
set_option Elab.async false
set_option linter.all false
set_option maxRecDepth 100000
namespace L2
open PySem PySem.Spec PyProof.Rows PySem.W
namespace Kx
section
variable {X:Cx} {a:Expr} {f:DE} {pos p2 p3 pos2:Pos}
noncomputable def tLRng(ta:TA):TE:=λσ H Q=>ta σ H λvs H1=> ∃n:Int,vs=[.int n]∧n≤1000000∧ -1000000≤n∧∀z,H1 z=none→Q (.ref z) (upd H1 z (.lst ((List.range n.toNat).map λi:Nat=>V.int (i:Int))))
theorem vals_rng: ∀{us:List Value} (g:Nat→Int),(∀i v,us[i]? =some v→∃t,v=Value.int (g i) t)→Vals ((List.range us.length).map λi=>V.int (g i)) us
 |[],_,_=>.nil
 |u::us,g,h=>by
  obtain⟨t,rfl⟩:=h 0 u rfl
  rw[List.length_cons,List.range_succ_eq_map,List.map_cons,List.map_map]
  exact .cons ⟨t,rfl⟩ (vals_rng (λi=>g (i+1)) λi v hv=>h (i+1) v (by simpa using hv))
theorem pe_lrng{ta:TA}(hc:X.calm=true)(hgl:Gl X "list")(hml:X.mg "list"=none)(hgr:Gl X "range")(hmr:X.mg "range"=none)(ha:PA X [a] ta)(h1:starEach [a] X.env=(false,eval a X.env)::starEach [] X.env:=by rfl)
  (h2:starEach [.Call (.Name "range" p2) [a] [] pos2] X.env=(false,eval (.Call (.Name "range" p2) [a] [] pos2) X.env)::starEach [] X.env:=by rfl):
  PE X (.Call (.Name "list" p3) [.Call (.Name "range" p2) [a] [] pos2] [] pos) (tLRng ta):=by
 intro pins s0 σ H0 Q I0 h
 refine Call_ (ld_blt I0 hgl hml boot_list (callWith_type1 ?_ h2 rfl))
 rw[h2]
 show wpAny _ _ (spliced ((false,eval (.Call (.Name "range" p2) [a] [] pos2) X.env)::backTo pos (starEach [] X.env))) _ _ s0
 refine Calls.spliced_cons (Call_ (ld_blt I0 hgr hmr boot_range (callWith_type1 (thn (ha pos2 pins s0 σ H0 _ I0 h) λus s ⟨vs,H,I,r1,n,ev,q1,q2,q⟩=> ?_) h1 rfl)))
 subst ev
 obtain⟨u,rfl,ru⟩:=vals1 r1
 obtain⟨t,rfl⟩:=ru
 refine call_range_1 (Calls.spliced_nil ?_)
 have hn:Builtin.Range.rangeSize 0 n 1=((n.toNat:Nat):Int):=by rw[rangeSize_one];split<;>omega
 refine call_list_range (n:=n.toNat) (I.ok.hd hc) (IsRange.new ..) (small_one (by omega) (by omega) (by omega) (by omega)) hn (by omega) λh' tk acc c k hS hI=> ?_
 obtain⟨e1,e2⟩:=hI
 have szp:(s.heap.push {cls:=.type "range",data:=.fields #[.int 0 s.toks,.int n t,.int 1 (s.toks+1)]}).objs.size=s.heap.objs.size+1:=by simp
 have v:Vals ((List.range n.toNat).map λi:Nat=>V.int (i:Int)) acc.toList:=by
  have:=vals_rng (us:=acc.toList) (λi=>(i:Int)) λi v hv=>by
   obtain⟨t,e⟩:=e2 i v (by simpa using hv)
   exact⟨t,by rw[e];congr 1;omega⟩
  rwa [show acc.toList.length=n.toNat by simpa using e1] at this
 refine⟨.ref _,_,I.laid (t':=tk) (λb o e=>k b o (Heap.get?_push_of_some _ e)) (a:=(s.heap.push {cls:=.type "range",data:=.fields #[.int 0 s.toks,.int n t,.int 1 (s.toks+1)]}).objs.size) (by rw[szp];exact Nat.le_succ _) (show ObjOk X.prog X.w _ h' _ (.lst _) from⟨by simp[sizeLine_eq];omega,acc.toList,c,v,?_⟩),rfl,q _ (I.hok.fresh (by rw[szp];exact Nat.le_succ _))⟩
 exact hS
noncomputable def dLRng(f:DE):DA:=λε=>(f ε).bind λt=>match t with
 | .int n=>if n≤1000000∧ -1000000≤n then some (rngT 0 n.toNat) else none
 |_=>none
theorem reps_rng{K:Frag}{F:Hp}: ∀(l:List Nat),Reps K F (l.map λi:Nat=>V.int (i:Int)) (l.map λi:Nat=>T.int (0+(i:Int)))
 |[]=>.nil
 |i::l=>by
  rw[List.map_cons,List.map_cons,Int.zero_add]
  exact .cons (.int _) (reps_rng l)
theorem vf_lrng(hc:X.calm=true)(hgl:Gl X "list")(hml:X.mg "list"=none)(hgr:Gl X "range")(hmr:X.mg "range"=none)(ha:VE X a f)(h1:starEach [a] X.env=(false,eval a X.env)::starEach [] X.env:=by rfl)
  (h2:starEach [.Call (.Name "range" p2) [a] [] pos2] X.env=(false,eval (.Call (.Name "range" p2) [a] [] pos2) X.env)::starEach [] X.env:=by rfl):
  VF X (.Call (.Name "list" p3) [.Call (.Name "range" p2) [a] [] pos2] [] pos) (dLRng f):=PE.le (pe_lrng hc hgl hml hgr hmr (va_cons ha va_nil h1) h1 h2) λσ H Q ⟨F,ε,ts,hF,hE,e,q⟩=>by
 obtain⟨t,e1,e2⟩:=Option.bind_eq_some_iff.mp e
 split at e2
 ·split at e2
  ·rename_i n hn
   cases e2
   refine⟨F,ε,[.int n],hF,hE,by unfold dAc;rw[e1];rfl,λvs H' F' x rs=> ?_⟩
   obtain⟨v,rfl,r⟩:=rs.one
   cases r.inv_int
   exact⟨n,rfl,hn.1,hn.2,λz hz=>q z _ H' F' x hz (reps_rng _)⟩
  ·cases e2
 ·cases e2
end
end Kx
end L2
set_option Elab.async false
set_option linter.all false
set_option maxRecDepth 100000
namespace L2
open PySem PySem.Spec PyProof.Rows
namespace Si
open SetTable Sx
noncomputable abbrev IT:=Int×Tok
noncomputable abbrev en(e:IT):Int×Value:=(hashInt e.1,Value.int e.1 e.2)
structure SetI(h:Heap)(S:Addr)(ks:List IT)(o:Obj)(ep:Nat)(t:SetTable):Prop where
 at':h.get? S=some o
 ex:o.ExactSet
 data:o.data=.set (ks.map en).toArray ep t
 tab:Tab t (ks.map λe=>hashInt e.1)
 plain:t.plain=true
 nd:(ks.map (·.1)).Nodup
noncomputable def SetHI(w:World)(h:Heap)(S:Addr)(ks:List IT):Prop:=
 ∃o ep t,SetI h S ks o ep t∧ks.length*5<t.mask*3∧t.led= !w.params.followText "set-order"
section
variable {prog:Program} {w:World} {A:Around} {E:Value→Shared→Prop} {s:Shared} {S:Addr} {ks:List IT} {o:Obj} {ep:Nat} {t:SetTable}
theorem SetI.fit(I:SetI s.heap S ks o ep t)(hl:ks.length≤t.mask):t.fits (ks.map en).toArray.size=true:=by
 have:=I.tab.fits (by rw[List.length_map];exact hl)
 rw[List.size_toArray,List.length_map]
 rw[List.length_map] at this
 exact this
theorem wp_stateI(I:SetI s.heap S ks o ep t)(hl:ks.length≤t.mask){Q:(Array (Int×Value)×Nat×SetTable)→Shared→Prop}(h:Q ((ks.map en).toArray,ep,t) s):
  wpAny (model prog w) A (setState S) Q E s:=wpAny_setState_of I.at' I.data (I.fit hl) h
theorem add_int(I:SetHI w s.heap S ks)(hn:ks.length<4){k:Int}{tok:Tok}{Q:Bool→Shared→Prop}
  (h: ∀h' ks' b,Heap.SameBut S s.heap h'→SetHI w h' S ks'→(k∈ks.map (·.1)→ks'=ks)→(k∉ks.map (·.1)→ks'.Perm ((k,tok)::ks))→Q b {s with heap:=h'}):
  wpAny (model prog w) A (setAddHashed S (.int k tok) (hashInt k)) Q E s:=by
 obtain⟨o,ep,t,I,hfull,hled⟩:=I
 have hmk:=I.tab.mask
 have hle:ks.length≤t.mask:=by rcases hmk with e|e<;>(rw[e] at hfull⊢;omega)
 unfold setAddHashed setAddHashedIn
 refine wpAny_holding (wpAny_bind (wp_stateI I hle ?_))
 dsimp only
 have hscan:byScan (.int k tok) (ks.map en).toArray=true:=by
  unfold byScan
  simp[Value.scannable,scanBound]
  omega
 rw[hscan]
 simp only[if_true]
 unfold setAddByScan
 have ele:ElemsOf (kd prog w) (ks.map en).toArray.toList:=λe he=>by
  obtain⟨x,_,rfl⟩:=List.mem_map.mp he
  exact⟨⟨x.1,by simp[kd,intKind,en,Value.isInt],rfl⟩,rfl⟩
 refine wpAny_bind (wpAny_bind (wpAny_rule (wpAny_bind (wpAny_setScan_of (knd:=kd prog w) (k:=k) (by simp[kd,intKind,Value.isInt]) I.at' I.data (I.fit hle) ele ?_))))
 by_cases hin:k∈ks.map (·.1)
 ·have: ∃j,List.findIdx? (λe=>(kd prog w).is k e.snd) (ks.map en).toArray.toList=some j:=by
   cases e:List.findIdx? (λe=>(kd prog w).is k e.snd) (ks.map en).toArray.toList with
   |some j=>exact⟨j,rfl⟩
   |none=>
    obtain⟨x,hx,e2⟩:=List.mem_map.mp hin
    have:=List.findIdx?_eq_none_iff.mp e (en x) (List.mem_map.mpr ⟨x,hx,rfl⟩)
    simp[kd,intKind,en,Value.isInt,e2] at this
  obtain⟨j,hj⟩:=this
  rw[hj]
  dsimp only
  refine wpAny_pure (wpAny_pure ?_)
  exact h s.heap ks false (Heap.SameBut.refl _ _) ⟨o,ep,t,I,hfull,hled⟩ (λ_=>rfl) (λq=>absurd hin q)
 ·have:List.findIdx? (λe=>(kd prog w).is k e.snd) (ks.map en).toArray.toList=none:=by
   refine List.findIdx?_eq_none_iff.mpr λe he=> ?_
   obtain⟨x,hx,rfl⟩:=List.mem_map.mp he
   have:x.1≠k:=λq=>hin (List.mem_map.mpr ⟨x,hx,q⟩)
   simp[kd,intKind,en,Value.isInt]
   first|exact this|exact λq=>this q.symm
  rw[this]
  dsimp only
  have hl':(ks.map λe=>hashInt e.1).length≤t.mask:=by rw[List.length_map];exact hle
  obtain⟨n,before,cs⟩:=probe_ok I.tab hl' (at':=λ_=>hashInt k+1) (h:=hashInt k) (Sx.start t.mask (hashInt k)) (On.start (hashInt k))
  replace cs:=cs.resolve_right λ⟨i,hi,hat,_⟩=>by omega
  obtain⟨free,ep'⟩:=cs
  have hj:=(On.it n (On.start (mask:=t.mask) (hashInt k))).j_le
  have hlt:n<10*turns t.mask:=by
   refine Classical.byContradiction λhc=> ?_
   obtain⟨x,hx,hfr⟩:=I.tab.free hl'
   obtain⟨q,hq,e⟩:=reach I.tab.mask (On.start (mask:=t.mask) (hashInt k)) hx
   exact absurd (e▸(before q (by omega)).1) hfr
  have road:Road t.mask t.place.toList (hashInt k) (it t.mask n (Sx.start t.mask (hashInt k))).j:=⟨n,hlt,rfl,λq hq=>(before q hq).1⟩
  have fs:t.freeSlot (hashInt k)=some ((it t.mask n (Sx.start t.mask (hashInt k))).j,false):=by
   unfold SetTable.freeSlot
   rw[start_eq]
   erw [ep']
   rfl
  generalize (it t.mask n (Sx.start t.mask (hashInt k))).j=j at*
  obtain⟨pm,pp,ptab,pled,ppl⟩:=I.tab.put hj free road
  have hsz:(ks.take (t.put j).2++(k,tok)::ks.drop (t.put j).2).length=ks.length+1:=(ins_perm ks _ (k,tok)).length_eq
  have tab1:Tab (t.put j).1 ((ks.take (t.put j).2++(k,tok)::ks.drop (t.put j).2).map λe=>hashInt e.1):=by
   rw[List.map_append,List.map_cons,List.map_take,List.map_drop]
   exact ptab
  have fit1:(t.put j).1.fits (ks.length+1)=true:=by
   have:=tab1.fits (by rw[List.length_map,hsz,pm];rcases hmk with e|e<;>(rw[e];omega))
   rw[List.length_map,hsz] at this
   exact this
  have lay:layNew t (ks.map en).toArray (hashInt k) (.int k tok)=(((ks.take (t.put j).2++(k,tok)::ks.drop (t.put j).2).map en).toArray,(t.put j).1,false,false):=by
   unfold layNew
   rw[fs]
   dsimp only
   have:=map_ins en ks (t.put j).2 (k,tok)
   rw[this]
   have e2:((ks.take (t.put j).2++(k,tok)::ks.drop (t.put j).2).map en).toArray.size=ks.length+1:=by rw[List.size_toArray,List.length_map,hsz]
   rw[e2]
   unfold SetTable.orStandIn
   rw[fit1,if_pos rfl]
   rfl
  rw[lay]
  dsimp only
  refine wpAny_bind (wpAny_pure ?_)
  rw[ppl,I.plain]
  simp only[if_true]
  rw[hbv_int (prog:=prog) (w:=w) ⟨k,by simp[kd,intKind,Value.isInt]⟩]
  refine wpAny_bind (wpAny_pure ?_)
  simp only[if_true]
  refine wpAny_bind (wpAny_storeSet_of I.at' I.data ?_ (by rw[List.size_toArray,List.length_map,hsz,sizeLine_eq];omega))
  have ho1:=stored (S:=S) (es':=((ks.take (t.put j).2++(k,tok)::ks.drop (t.put j).2).map en).toArray) (t':=(t.put j).1) I.at' I.data
  have sb1:=Heap.SameBut.update s.heap S (Obj.putSet ((ks.take (t.put j).2++(k,tok)::ks.drop (t.put j).2).map en).toArray (t.put j).1)
  have nd1:((ks.take (t.put j).2++(k,tok)::ks.drop (t.put j).2).map (·.1)).Nodup:=by
   rw[((ins_perm ks _ (k,tok)).map (·.1)).nodup_iff,List.map_cons,List.nodup_cons]
   exact⟨hin,I.nd⟩
  have I1:SetI (s.heap.update S (Obj.putSet ((ks.take (t.put j).2++(k,tok)::ks.drop (t.put j).2).map en).toArray (t.put j).1)) S (ks.take (t.put j).2++(k,tok)::ks.drop (t.put j).2) _ (ep+1) (t.put j).1:=
   ⟨ho1,⟨I.ex.1,I.ex.2.1,I.ex.2.2⟩,rfl,tab1,by rw[ppl];exact I.plain,nd1⟩
  have fillE:(t.put j).1.fill=ks.length+1:=by
   unfold SetTable.fill
   rw[ptab.dum,ptab.len]
   have:=hsz
   simp only[List.length_append,List.length_cons,List.length_take,List.length_drop,List.length_map] at this⊢
   show _+0=_
   omega
  have hf:(t.put j).1.tooFull=false:=by
   unfold SetTable.tooFull
   rw[fillE,decide_eq_false_iff_not,pm]
   rcases hmk with e|e<;>(rw[e];omega)
  rw[hf]
  simp only[Bool.and_false,Bool.false_eq_true,if_false]
  refine wpAny_pure (wpAny_pure (h _ _ true sb1 ⟨_,_,_,I1,?_,by rw[pled];exact hled⟩ (λq=>absurd q hin) λ_=>ins_perm ks _ _))
  rw[hsz,pm]
  rcases hmk with e|e<;>(rw[e];omega)
end
end Si
end L2
set_option Elab.async false
set_option linter.all false
set_option maxRecDepth 100000
namespace L2
open PySem PySem.Spec PyProof.Rows
namespace Si
open SetTable Sx
section
variable {prog:Program} {w:World} {A:Around} {E:Value→Shared→Prop} {s:Shared} {S:Addr}
theorem newS_okI{h:Heap}(e:h.get? S=some (newS w)):SetHI w h S []:=by
 refine⟨_,_,_,⟨e,⟨rfl,rfl,rfl⟩,rfl,⟨rfl,List.Pairwise.nil,rfl,.inl rfl,(λj hj=>by cases hj),λi j h hj=> ?_⟩,rfl,List.nodup_nil⟩,by show 0*5<7*3;decide,rfl⟩
 simp[SetTable.fresh] at hj
noncomputable def fstI(es:List IT)(ks:List IT):Prop:=(es.map (·.1)).Nodup∧(∀e∈es,e∈ks)∧∀k∈ks.map (·.1),k∈es.map (·.1)
section
variable {R:Result→Shared→Prop} {I:Addr} {fp wr:List Addr} {G:Array GenState→Array GenState→Prop} {n:Nat} {P:Nat→Value→Prop} {St:Nat→Shared→Prop}
theorem fill_loopI(W:WalksS prog w A.in1 I fp wr G n P St)(S:Addr)(hSf:S∉fp)
  (ks:List IT) (hval: ∀i v,P i v→∃e,ks[i]? =some e∧v=.int e.1 e.2) (hks:ks.length=n) (hn:n≤4):
  ∀(k i:Nat) (s:Shared) (es:List IT),n - i=k→i≤n→St i s→SetHI w s.heap S es→fstI es (ks.take i)→
   (∀s' es',Moved (S::wr) G s s'→SetHI w s'.heap S es'→fstI es' ks→R (.ok (.ret .none)) s')→
   codeAny (model prog w) A (.builtin "set.update.loop" ⟨[.ref S,.ref I],[]⟩) R s:=by
 have hSw:S∉wr:=λh=>hSf (W.sub _ h)
 have hsub: ∀b∈wr,b∈S::wr:=λb hb=>List.mem_cons_of_mem _ hb
 have mv: ∀{s s':Shared} {es},Moved wr G s s'→SetHI w s.heap S es→SetHI w s'.heap S es:=λ{s s' es} hm ⟨o,ep,t,i0,r⟩=>
  ⟨o,ep,t,⟨hm.heap S _ hSw i0.at',i0.ex,i0.data,i0.tab,i0.plain,i0.nd⟩,r⟩
 intro k
 induction k with
 |zero=>
  intro i s es hk hi hst hS hf hR
  have hin:i=n:=by omega
  subst hin
  rw[←hks,List.take_length] at hf
  refine codeAny_builtin F.entry_set_update_loop ?_
  rw[Around.under_plainId F.plain_set_update_loop _]
  show wpAny _ A.in1 (pyNext (.ref I)>>=_) _ _ s
  refine wpAny_bind (W.done s _ _ hst λs' hm=> ?_)
  show wpAny _ A.in1 (ret Value.none) _ _ s'
  exact wpAny_pure (hR s' es (hm.mono hsub) (mv hm hS) hf)
 |succ k ih=>
  intro i s es hk hi hst hS hf hR
  have hlt:i<n:=by omega
  have len0:es.length≤i:=by
   have:=List.Nodup.length_le_of_subset hf.1 (l₂:=(ks.take i).map (·.1)) (λx hx=>by
    obtain⟨e,he,rfl⟩:=List.mem_map.mp hx
    exact List.mem_map.mpr ⟨e,hf.2.1 e he,rfl⟩)
   rw[List.length_map,List.length_map,List.length_take] at this
   omega
  refine codeAny_builtin F.entry_set_update_loop ?_
  rw[Around.under_plainId F.plain_set_update_loop _]
  show wpAny _ A.in1 (pyNext (.ref I)>>=_) _ _ s
  refine wpAny_bind (W.item i s _ _ hlt hst λv s' hP hst' hm=> ?_)
  obtain⟨e,he,rfl⟩:=hval i v hP
  show wpAny _ A.in1 (holding [Value.int e.1 e.2] (setAdd S (.int e.1 e.2))>>=_) _ _ s'
  refine wpAny_bind (wpAny_holding ?_)
  unfold setAdd
  refine wpAny_holding (wpAny_bind ((kd prog w).pyHash (k:=e.1) (by simp[kd,intKind,Value.isInt]) ?_))
  have hS1:=mv hm hS
  refine add_int (s:={s' with toks:=s'.toks+1}) hS1 (by omega) λh' es' b hsb hS2 q1 q2=> ?_
  have hf':fstI es' (ks.take (i+1)):=by
   rw[List.take_add_one,he]
   by_cases hin:e.1∈es.map (·.1)
   ·rw[q1 hin]
    refine⟨hf.1,λx hx=>List.mem_append_left _ (hf.2.1 x hx),λx hx=> ?_⟩
    rw[List.map_append] at hx
    rcases List.mem_append.mp hx with hx|hx
    ·exact hf.2.2 x hx
    ·simp at hx;rw[hx];exact hin
   ·have p:=q2 hin
    refine⟨?_,λx hx=> ?_,λx hx=> ?_⟩
    ·rw[(p.map (·.1)).nodup_iff,List.map_cons,List.nodup_cons];exact⟨hin,hf.1⟩
    ·rcases List.mem_cons.mp (p.mem_iff.mp hx) with rfl|hx
     ·exact List.mem_append_right _ (by simp)
     ·exact List.mem_append_left _ (hf.2.1 x hx)
    ·rw[(p.map (·.1)).mem_iff,List.map_cons,List.mem_cons]
     rw[List.map_append] at hx
     rcases List.mem_append.mp hx with hx|hx
     ·exact .inr (hf.2.2 x hx)
     ·simp at hx;exact .inl hx
  have kp: ∀(b:Addr) (o:Obj),b≠S→s'.heap.get? b=some o→h'.get? b=some o:=λb o hb q=>(hsb.2 b hb).trans q
  refine wpAny_pure ⟨plainId_quiet F.plain_set_update_loop _,ih (i+1) _ es' (by omega) hlt (W.frame _ s' _ _ hst' (Nat.le_add_right _ _) λb hb o q=>kp b o (λh:b=S=>hSf (h▸hb)) q)
   hS2 hf' λs'' es'' hm'' hS'' hf''=> ?_⟩
  exact hR s'' es'' (Moved.trans W.gtrans ((hm.mono hsub).then_heap (Nat.le_add_right _ _) λb o hb q=>kp b o (λh:b=S=>hb (by rw[h];exact List.mem_cons_self)) q) hm'') hS'' hf''
end
end
end Si
end L2
set_option Elab.async false
set_option linter.all false
set_option maxRecDepth 100000
namespace L2
open PySem PySem.Spec PyProof.Rows
namespace Si
open SetTable Sx
section
variable {prog:Program} {w:World} {A:Around} {E:Value→Shared→Prop} {s:Shared}
set_option maxHeartbeats 3200000 in
theorem call_setI{l:Addr}{ks:List IT}{Q:Value→Shared→Prop}(hh:A.handled=none)(hl:s.heap.IsList l (ks.map λe=>Value.int e.1 e.2).toArray)(hn:ks.length≤4)
  (h: ∀(h':Heap) (tk:Nat) es,SetHI w h' s.heap.objs.size es→fstI es ks→(∀b o,b<s.heap.objs.size→s.heap.get? b=some o→h'.get? b=some o)→Q (.ref s.heap.objs.size) {s with heap:=h',toks:=tk}):
  wpAny (model prog w) A (call (.type "set") [.ref l]) Q E s:=by
 obtain⟨c,tl,hmro⟩:=F.called_set.mro
 have hmade:=F.called_set.made
 have hsub:=F.called_set.sub
 refine wpAny_call (codeAny_of_tree ?_)
 show wpAny _ _ (callAny (.type "set") _) _ _ _
 refine wpAny_pure ⟨Code.quiet_builtin _ (by decide+kernel),codeAny_builtin F.entry_type_call ?_⟩
 rw[Around.under_plain (weight_type_call_type "set" [.ref l] []) rfl]
 have h1:=F.called_set.notType
 have h2:=F.called_set.canCreate
 have hct:=F.typeCall_set_1 (.ref l)
 repeat (any_goals (first|assumption|wp_step))
 refine codeAny_mono (new_set (.ref l) (E:=E) (Q₁:=λobj s₁=>obj=.ref s.heap.objs.size∧s₁={s with heap:=s.heap.push (newS w)}) ⟨rfl,rfl⟩) λr s₁ hr=> ?_
 cases r with
 |error e=>exact hr
 |ok fl=>
  cases fl with
  |ret obj=>
   obtain⟨rfl,rfl⟩:=hr
   have hS:(s.heap.push (newS w)).get? s.heap.objs.size=some (newS w):=Heap.get?_push_size _ rfl
   have hT:Shared.TypeIs {s with heap:=s.heap.push (newS w)} (.ref s.heap.objs.size) "set":=⟨_,hS,rfl⟩
   have hli:=F.called_set.init.lookup
   have hbi:=F.called_set.init.bind (.ref s.heap.objs.size)
   repeat (any_goals (first|assumption|wp_step))
   refine codeAny_mono (codeAny_call_builtin (R:=wants (λr s₂=>r=.none∧∃h' tk es,s₂={s with heap:=h',toks:=tk}∧SetHI w h' s.heap.objs.size es∧fstI es ks∧
     (∀b o,b<s.heap.objs.size→s.heap.get? b=some o→h'.get? b=some o)) E) F.called_set.init.plain F.entry_set_init (check_set_init_1 hT ?_)) λr₂ s₂ hr₂=> ?_
   ·obtain⟨ol,hol,hcl,nl,hdl⟩:=hl
    obtain⟨ocls,odict,odata,oslots⟩:=ol
    simp only at hcl hdl
    subst hcl;subst hdl
    have hol':=Heap.get?_push_of_some (newS w) hol
    have hsls:=F.sub_list_set
    have hslf:=F.sub_list_frozenset
    have hne:(Value.type "list"==Value.type "dict")=false:=by decide
    have hl1:(s.heap.push (newS w)).IsList l (ks.map λe=>Value.int e.1 e.2).toArray:=⟨_,hol',rfl,nl,rfl⟩
    unfold Builtin.«set.__init__» noKeywords Builtin.Frozenset.updateFrom
    generalize hPI:pyIter=PI
    wp_walk
    subst hPI
    refine wpAny_pyIter_list hl1 (wpAny_bind (wpAny_runValue ?_))
    have hlS:l<s.heap.objs.size:=Heap.lt_size hol
    have szp:(s.heap.push (newS w)).objs.size=s.heap.objs.size+1:=Heap.size_push _ _
    have hneI:l≠(s.heap.push (newS w)).objs.size:=Nat.ne_of_lt (by rw[szp];exact Nat.lt_succ_of_lt hlS)
    have hSf:s.heap.objs.size∉[(s.heap.push (newS w)).objs.size,l]:=by
     simp only[List.mem_cons,List.not_mem_nil,or_false,not_or]
     exact⟨Nat.ne_of_lt (by rw[szp];exact Nat.lt_succ_self _),Nat.ne_of_gt hlS⟩
    refine fill_loopI ((Walks.list (by simp[hh]) _ l hneI (ks.map λe=>Value.int e.1 e.2).toArray).toS) s.heap.objs.size hSf ks
     (λi v hv=> ?_) (by simp) (by simpa using hn) _ 0 _ [] rfl (Nat.zero_le _) ⟨⟨_,Heap.get?_push_size _ rfl,rfl,rfl⟩,hl1.push _⟩ ?_ ?_ λs' es hm hS' hf=> ?_
    ·have hv:((ks.map λe=>Value.int e.1 e.2).toArray)[i]? =some v:=hv
     rw[List.getElem?_toArray,List.getElem?_map] at hv
     obtain⟨e,he,rfl⟩:=Option.map_eq_some_iff.mp hv
     exact⟨e,he,rfl⟩
    ·exact newS_okI (Heap.get?_push_of_some _ hS)
    ·exact⟨List.nodup_nil,(λe he=>by cases he),λk hk=>by simp at hk⟩
    ·obtain⟨h',g',d',tk',os'⟩:=s'
     have eg:g'=s.gens:=hm.gens
     have ed:d'=s.drawn:=hm.drawn
     have eo:os'=s.os:=hm.os
     subst eg;subst ed;subst eo
     show wpAny _ _ _ _ _ _
     refine wpAny_pure ?_
     show wpAny _ _ (ret Value.none) _ _ _
     refine wpAny_pure ⟨rfl,h',tk',es,rfl,hS',hf,λb o hb e=> ?_⟩
     refine hm.heap b o ?_ (Heap.get?_push_of_some _ (Heap.get?_push_of_some _ e))
     simp only[List.mem_cons,List.not_mem_nil,or_false,not_or]
     exact⟨Nat.ne_of_lt hb,Nat.ne_of_lt (by rw[szp];exact Nat.lt_succ_of_lt hb)⟩
   ·cases r₂ with
    |error e=>exact hr₂
    |ok fl₂=>
     cases fl₂ with
     |ret r=>
      obtain⟨rfl,h',tk,es,rfl,hS',hf,hk'⟩:=hr₂
      repeat (any_goals (first|assumption|wp_step))
      exact h _ _ _ hS' hf hk'
     |_=>exact hr₂.elim
  |_=>exact hr.elim
end
end Si
end L2
set_option Elab.async false
set_option linter.all false
set_option maxRecDepth 100000
namespace L2
open PySem PySem.Spec PyProof.Rows PySem.W
namespace Si
open SetTable Sx Kx
section
variable {prog:Program} {w:World} {A:Around} {E:Value→Shared→Prop} {s:Shared} {S:Addr}
noncomputable def SetOI(w:World)(S:Addr)(es:List IT)(h:Heap):Prop:= ∃o ep t,SW w h S (es.map en) o ep t
theorem SetOI.of{h:Heap}{es:List IT}(x:SetHI w h S es):SetOI w S es h:=by
 obtain⟨o,ep,t,i,hf,hl⟩:=x
 refine⟨o,ep,t,i.at',i.ex.1,i.data,?_,i.tab.ris,i.plain,hl⟩
 have:=i.tab.fits (by rw[List.length_map];rcases i.tab.mask with e|e<;>(rw[e] at hf⊢;omega))
 rw[List.length_map] at this
 rw[List.size_toArray,List.length_map]
 exact this
theorem ints_gen{vs:List Value}{ns:List Int}(ia:IntsAre vs ns): ∀is:List Nat,(∀i∈is,i<ns.length)→IntsAre (is.map λi=>vs.getD i Value.none) (is.map λi=>ns.getD i 0)
 |[],_=>.nil
 |i::is,h=>by
  have hi:=h i (.head _)
  have lv:vs.length=ns.length:=by
   clear h hi
   induction ia with
   |nil=>rfl
   |cons n t _ ih=>simp[ih]
  obtain⟨n,t,e1,e2⟩:=ints_at ia (i:=i) (v:=vs[i]'(by omega)) (List.getElem?_eq_getElem (by omega))
  have e3:vs.getD i Value.none=vs[i]'(by omega):=by rw[List.getD_eq_getElem?_getD,List.getElem?_eq_getElem (by omega)];rfl
  have e4:ns.getD i 0=n:=by rw[List.getD_eq_getElem?_getD,e1];rfl
  rw[List.map_cons,List.map_cons,e3,e4,e2]
  exact .cons n t (ints_gen ia is λj hj=>h j (.tail _ hj))
theorem ints_en: ∀es:List IT,IntsAre (es.map λe=>Value.int e.1 e.2) (es.map (·.1))
 |[]=>.nil
 |e::es=>.cons e.1 e.2 (ints_en es)
theorem sorted_setI{es:List IT}{Q:Value→Shared→Prop}(hh:A.handled=none)(x:SetOI w S es s.heap)(hn:es.length<64)(nd:(es.map (·.1)).Nodup)
  (h: ∀(s':Shared) (D:Addr) (us:List Value) (c:Nat),s.heap.objs.size≤D→IntsAre us (isort (es.map (·.1)))→s'.heap.get? D=some (seqObj "list" us.toArray c)→(∀b ob,s.heap.get? b=some ob→s'.heap.get? b=some ob)→
   s'.gens=s.gens→s'.drawn=s.drawn→s'.os=s.os→Q (.ref D) s'):
  wpAny (model prog w) A (call (.builtin "sorted") [.ref S]) Q E s:=by
 obtain⟨o,ep,t,x⟩:=x
 refine Calls.call_function_entry kind_sorted plain_sorted entry_sorted (args_sorted1 _) ?_
 unfold Builtin.«sorted»
 refine wpAny_bind (m:=checkCount "sorted" 1 1 _) (wpAny_pure ?_)
 refine wpAny_bind (collect_set (prog:=prog) (A:=A.in1) hh x (by rw[List.length_map];omega) λs1 us hp k1 g1 d1 o1 t1=> ?_)
 obtain⟨es',pe,rfl⟩:=perm_map_inv (f:=λe:IT=>Value.int e.1 e.2) (es:=es) hp (by rw[List.map_map];rfl)
 have le:es'.length=es.length:=pe.length_eq
 have ia:=ints_en es'
 have nd':(es'.map (·.1)).Nodup:=(pe.map (·.1)).nodup_iff.mpr nd
 generalize hvs:es'.map (λe:IT=>Value.int e.1 e.2)=vs at*
 generalize hns:es'.map (·.1)=ns at*
 have lv:vs.length=es.length:=by rw[←hvs,List.length_map,le]
 have ln:ns.length=es.length:=by rw[←hns,List.length_map,le]
 refine wpAny_bind (wpAny_newList ?_ (by rw[lv,sizeLine_eq];omega))
 have hoL:(s1.heap.push (seqObj "list" vs.toArray 0)).get? s1.heap.objs.size=some (seqObj "list" vs.toArray 0):=Heap.get?_push_size _ rfl
 refine wpAny_bind (wpAny_holding (wpAny_call_entry slot_list_sort ⟨_,hoL,rfl⟩ entry_list_sort ?_ (args_list_sort _)))
 have O:=ints_ord nd'
 rw[show ns.length=vs.length by omega] at O
 refine sort_by (s:={s1 with heap:=s1.heap.push (seqObj "list" vs.toArray 0)}) (κ:=oneType') hoL (by omega) O (λh2 _ h2' Qk qk=> ?_) (λh2 _ i j C hi hj qc=> ?_) λh2 is c hp hs hg k2=>⟨_,rfl,?_⟩
 ·have:=ksk_kind (keys:=vs.toArray) ia (by simpa using h2')
  rw[this]
  exact wpAny_pure qk
 ·have g: ∀i,i<ns.length→∃t,vs.getD i Value.none=.int (ns.getD i 0) t:=λi hi=>by
   obtain⟨n,t,e1,e2⟩:=ints_at ia (i:=i) (v:=vs[i]'(by omega)) (List.getElem?_eq_getElem (by omega))
   refine⟨t,?_⟩
   have e3:vs.getD i Value.none=vs[i]'(by omega):=by rw[List.getD_eq_getElem?_getD,List.getElem?_eq_getElem (by omega)];rfl
   have e4:ns.getD i 0=n:=by rw[List.getD_eq_getElem?_getD,e1];rfl
   rw[e3,e4,e2]
  obtain⟨t1,e1⟩:=g i (by omega)
  obtain⟨t2,e2⟩:=g j (by omega)
  unfold kas_ask
  rw[e1,e2]
  exact kat_lt_int qc
 ·refine wpAny_pure ⟨_,rfl,?_⟩
  rw[show vs.length=ns.length by omega] at hp
  have lt': ∀i∈is,i<ns.length:=λi hi=>List.mem_range.mp (hp.mem_iff.mp hi)
  have es2:(is.map λi=>ns.getD i 0)=isort (es.map (·.1)):=by
   refine sorted_uniq (List.Perm.trans ?_ (isort_perm _).symm) ?_ (isort_sorted _)
   ·refine(hp.map _).trans (List.Perm.trans (List.Perm.of_eq (l₂:=ns) ?_) (by rw[←hns];exact pe.map λe:IT=>e.1))
    refine List.ext_getElem (by simp) λi h1 h2=> ?_
    simp at h1
    simp[h1]
   ·rw[List.pairwise_map]
    exact hs.imp λ{a b} q=>by rw[decide_eq_true_eq] at q;omega
  have ia2:=ints_gen ia is lt'
  rw[es2] at ia2
  refine h {s1 with heap:=h2} s1.heap.objs.size _ c (Nat.le_of_lt t1) ia2 hg (λb ob e=> ?_) g1 d1 o1
  exact k2 b ob (Nat.ne_of_lt (Heap.lt_size (k1 b ob e))) (Heap.get?_push_of_some _ (k1 b ob e))
end
section
variable {X:Cx}
theorem vals_ints: ∀{ns:List Int} {us:List Value},Vals (ns.map V.int) us→∃ks:List IT,us=ks.map (λe=>Value.int e.1 e.2)∧ks.map (·.1)=ns
 |[],_,r=>by cases r;exact⟨[],rfl,rfl⟩
 |n::ns,_,r=>by
  cases r with
  |cons r1 r2=>
   obtain⟨t,rfl⟩:=r1
   obtain⟨ks,rfl,e⟩:=vals_ints r2
   exact⟨(n,t)::ks,rfl,by rw[List.map_cons,e]⟩
theorem ints_vals{us:List Value}{ns:List Int}(h:IntsAre us ns):Vals (ns.map V.int) us:=by
 induction h with
 |nil=>exact .nil
 |cons n t _ ih=>exact .cons ⟨t,rfl⟩ ih
noncomputable def rSetI(X:Cx):List V→Hp→VK→Prop:=λxs H Q=> ∃(p:Addr) (ns:List Int),xs=[.ref p]∧SqL X.K H p (ns.map V.int)∧ns.length≤4∧
 ∀S (es:List IT),H S=none→(es.map (·.1)).Nodup→(∀k,k∈es.map (·.1)↔k∈ns)→Q (.ref S) (upd H S (.ext (SetOI X.w S es)))
theorem call_setV(hc:X.calm=true):CallR X (.type "set") (rSetI X):=by
 intro pins s σ H xs us Q I r h
 obtain⟨p,ns,rfl,hq,hn,q⟩:=h
 obtain⟨u,rfl,ru⟩:=vals1 r
 cases ru
 obtain⟨its,rv,pl,_⟩:=I.list hq
 obtain⟨ks,rfl,rfl⟩:=vals_ints rv
 refine call_setI (I.ok.hd hc) pl.isList (by simpa using hn) λh' tk es hS hf k=> ?_
 have so:=SetOI.of hS
 refine⟨.ref s.heap.objs.size,_,?_,rfl,q _ es I.fresh hf.1 λk=>⟨λhk=> ?_,hf.2.2 k⟩⟩
 ·refine I.laid (λb o e=>k b o (Heap.lt_size e) e) (Nat.le_refl _) ⟨so,?_,λh1 h2 ⟨o,ep,t,sw⟩ e=>⟨o,ep,t,sw.keep e⟩⟩
  obtain⟨o,ep,t,sw⟩:=so
  exact⟨o,sw.at'⟩
 ·obtain⟨e,he,rfl⟩:=List.mem_map.mp hk
  exact List.mem_map.mpr ⟨e,hf.2.1 e he,rfl⟩
noncomputable def rSrtI(X:Cx):List V→Hp→VK→Prop:=λxs H Q=> ∃(S:Addr) (es:List IT),xs=[.ref S]∧H S=some (.ext (SetOI X.w S es))∧es.length<64∧(es.map (·.1)).Nodup∧
 ∀D,H D=none→Q (.ref D) (upd H D (.lst ((isort (es.map (·.1))).map V.int)))
theorem call_sortV(hc:X.calm=true):CallR X (.builtin "sorted") (rSrtI X):=by
 intro pins s σ H xs us Q I r h
 obtain⟨S,es,rfl,hS,hn,nd,q⟩:=h
 obtain⟨u,rfl,ru⟩:=vals1 r
 cases ru
 have so:SetOI X.w S es s.heap:=(I.hok S _ hS).1
 refine sorted_setI (I.ok.hd hc) so hn nd λs' D us c hD ia hg k g d o=> ?_
 obtain⟨h',g',d',t',o'⟩:=s'
 have g:g'=s.gens:=g
 have d:d'=s.drawn:=d
 have o:o'=s.os:=o
 subst g d o
 refine⟨.ref D,_,?_,rfl,q D (I.hok.fresh hD)⟩
 exact I.laid k hD ⟨by rw[List.length_map,(isort_perm _).length_eq,List.length_map,sizeLine_eq];omega,_,c,ints_vals ia,hg⟩
end
noncomputable def dd:List Int→List Int
 |[]=>[]
 |n::ns=>if n∈dd ns then dd ns else n::dd ns
theorem dd_mem{k:Int}: ∀{ns:List Int},k∈dd ns↔k∈ns
 |[]=>Iff.rfl
 |n::ns=>by
  unfold dd
  split
  ·rename_i h
   rw[dd_mem,List.mem_cons]
   exact⟨.inr,λg=>g.elim (λe=>e▸dd_mem.mp h) id⟩
  ·rw[List.mem_cons,List.mem_cons,dd_mem]
theorem dd_nodup: ∀{ns:List Int},(dd ns).Nodup
 |[]=>List.nodup_nil
 |n::ns=>by
  unfold dd
  split
  ·exact dd_nodup
  ·exact List.nodup_cons.mpr ⟨by assumption,dd_nodup⟩
@[simp] noncomputable def ssetIF:List T→Option (List T)
 |[.lst us]=>(intsT us).bind λns=>if ns.length≤4 then some ((isort (dd ns)).map T.int) else none
 |_=>none
section
variable {X:Cx} {e:Expr} {fs:DA}
theorem reps_ints{K:Frag}{F:Hp}: ∀{vs:List V} {ns:List Int},Reps K F vs (ns.map T.int)→vs=ns.map V.int
 |_,[],r=>by cases r;rfl
 |_,n::ns,r=>by
  rw[List.map_cons] at r
  cases r with
  |cons r1 r2=>
   cases r1.inv_int
   rw[reps_ints r2]
   rfl
theorem vf_ssetI(hp:PE X e (tCB (rSrtI X) (tCons (tCB (rSetI X) (tAs X.K fs)) tNil))):VF X e (dCallF ssetIF fs):=PE.le hp λσ H Q ⟨F,ε,us,hF,hE,e,q⟩=>by
 obtain⟨ts,e1,e2⟩:=Option.bind_eq_some_iff.mp e
 unfold ssetIF at e2
 split at e2
 ·rename_i us'
  obtain⟨ns,e3,e4⟩:=Option.bind_eq_some_iff.mp e2
  split at e4
  ·rename_i hlen
   cases e4
   refine⟨F,ε,_,hF,hE,e1,λvs H1 F1 x1 rs=> ?_⟩
   obtain⟨v,rfl,r⟩:=rs.one
   obtain⟨p,ws,rfl,hpl,rs'⟩:=r.inv_lst
   rw[intsT_inv e3] at rs'
   have hws:=reps_ints rs'
   subst hws
   refine⟨p,ns,rfl,SqL.of (x1.fh _ _ hpl),hlen,λS es hS nd mem=> ?_⟩
   have sm:Same H1 (upd H1 S (.ext (SetOI X.w S es))):=λb o hb=>by rw[upd_ne (ne_of_none hb hS)];exact hb
   have pq:(es.map (·.1)).Perm (dd ns):=(List.perm_ext_iff_of_nodup nd dd_nodup).mpr λk=>by rw[mem,dd_mem]
   have esl:es.length≤4:=by
    have:=List.Nodup.length_le_of_subset nd (l₂:=ns) (λz hz=>(mem z).mp hz)
    rw[List.length_map] at this
    omega
   refine⟨S,es,rfl,upd_same,by omega,nd,λD hD=> ?_⟩
   have hq:isort (es.map (·.1))=isort (dd ns):=sorted_uniq (((isort_perm _).trans pq).trans (isort_perm _).symm) (isort_sorted _) (isort_sorted _)
   rw[hq]
   have x2:Ext F1 H1 F1 (upd H1 S (.ext (SetOI X.w S es))):=⟨sm,Same.refl _,x1.fh.trans sm,λ_ _ _=>rfl⟩
   exact q D _ _ F1 (x1.trans x2) hD (Reps.ints _)
  ·cases e4
 ·cases e2
end
end Si
end L2
set_option Elab.async false
set_option linter.all false
set_option maxRecDepth 100000
namespace K23
open PySem L2
noncomputable def FUEL_bits_for_0:Env2→Nat:=λ_=>200
noncomputable def D_members_of_B1:DS:=
 (dFor [false,false,true] (dIt (dV 2)) (.one 3)
 (dPutD 1 [false,false,false,true] (dC (.bl true)) (dV 3)))
noncomputable def D_members_of_3:DS:=
 (dRet [false,true] (dL (dCallF Kx.sortDF (dAc (dV 1) dA0))))
noncomputable def D_members_of_2:DS:=
 (dSeq (dFor [true] (dIt (dV 0)) (.one 2)
 D_members_of_B1) D_members_of_3)
noncomputable def D_members_of:DS:=
 (dSeq (dNewD 1) D_members_of_2)
noncomputable abbrev N_members_of:List Str:=["family","seen","numbers","number"]
noncomputable def sp_members_of(ts:List T):Option T:=if ts.length=1 then runs D_members_of (startE N_members_of ts) else none
theorem at_members_of(t0:T):sp_members_of [t0]=runs D_members_of [some (.val t0),none,none,none]:=by unfold sp_members_of;rw[if_pos (by rfl)];rfl
noncomputable def D_bits_for_B1_2:DS:=
 (dSet 2 [false,false,true] (d2 mulT (dV 2) (dC (.int 2))))
noncomputable def D_bits_for_B1:DS:=
 (dSeq (dApp 1 [false,false,true] (dV 2)) D_bits_for_B1_2)
noncomputable def D_bits_for_4:DS:=
 (dRet [false,true] (dV 1))
noncomputable def D_bits_for_3:DS:=
 (dSeq (λτ=>dWhile [true,true] (dB (d2 ltT (dCall lenT (dAc (dV 1) dA0)) (dV 0)))
 D_bits_for_B1 (FUEL_bits_for_0 τ) τ) D_bits_for_4)
noncomputable def D_bits_for_2:DS:=
 (dSeq (dSet 2 [] (dC (.int 1))) D_bits_for_3)
noncomputable def D_bits_for:DS:=
 (dSeq (dSetF 1 [] (dLst dA0)) D_bits_for_2)
noncomputable abbrev N_bits_for:List Str:=["count","bits","bit"]
noncomputable def sp_bits_for(ts:List T):Option T:=if ts.length=1 then runs D_bits_for (startE N_bits_for ts) else none
noncomputable def D_sets_that_hold_a_list_B2:DS:=
 (dIf [false,false,false,false,true,false,true,true] (dAnd (dTru (d2 (iop (λ_ _=>true) Builtin.bitAnd) (dV 7) (dV 6))) (dTru (d2 ixT (dV 4) (d2 (iop (λ_ _=>true) λi j=>i - j) (dV 7) (dV 6)))))
 (dPut 4 [false,false,false,false,false,false,false,true] (dC (.bl true)) (dV 7))
 dNil)
noncomputable def D_sets_that_hold_a_list_B1:DS:=
 (dForR [false,false,false,false,true] (dR1 (dCall lenT (dAc (dV 4) dA0))) (.one 7)
 D_sets_that_hold_a_list_B2)
noncomputable def D_sets_that_hold_a_list_5:DS:=
 (dRet [false,false,false,false,true] (dV 4))
noncomputable def D_sets_that_hold_a_list_4:DS:=
 (dSeq (dFor [false,false,true] (dIt (dV 2)) (.one 6)
 D_sets_that_hold_a_list_B1) D_sets_that_hold_a_list_5)
noncomputable def D_sets_that_hold_a_list_3:DS:=
 (dSeq (dFor [true] (dIt (dV 0)) (.one 5)
 (dPut 4 [false,false,false,true,false,true] (dC (.bl true)) (dCall sumT (dAc (dL (dLC [none,some 3] (.one 0) (dIt (dV 5)) dYes (d2 getD (dV 1) (dV 0)))) dA0)))) D_sets_that_hold_a_list_4)
noncomputable def D_sets_that_hold_a_list_2:DS:=
 (dSeq (dSetF 4 [false,false,true,false,false,false,false,true] (dLC [none] (.one 0) (dR1 (d2 addT (dCall sumT (dAc (dV 2) dA0)) (dC (.int 1)))) dYes (dC (.bl false)))) D_sets_that_hold_a_list_3)
noncomputable def D_sets_that_hold_a_list:DS:=
 (dSeq (dSet 3 [false,true,true] (Kx.d_dz (dV 1) (dV 2))) D_sets_that_hold_a_list_2)
noncomputable abbrev N_sets_that_hold_a_list:List Str:=["family","members","bits","bit_of","holds","numbers","bit","one"]
noncomputable def sp_sets_that_hold_a_list(ts:List T):Option T:=if ts.length=3 then runs D_sets_that_hold_a_list (startE N_sets_that_hold_a_list ts) else none
theorem at_sets_that_hold_a_list(t0:T)(t1:T)(t2:T):sp_sets_that_hold_a_list [t0,t1,t2]=runs D_sets_that_hold_a_list [some (.val t0),some (.val t1),some (.val t2),none,none,none,none,none]:=by unfold sp_sets_that_hold_a_list;rw[if_pos (by rfl)];rfl
noncomputable def D_by_length:DS:=
 (dRet [true] (dTup (dAc (dCall lenT (dAc (dV 0) dA0)) (dAc (dV 0) dA0))))
noncomputable abbrev N_by_length:List Str:=["numbers"]
noncomputable def sp_by_length(ts:List T):Option T:=if ts.length=1 then runs D_by_length (startE N_by_length ts) else none
theorem at_by_length(t0:T):sp_by_length [t0]=runs D_by_length [some (.val t0)]:=by unfold sp_by_length;rw[if_pos (by rfl)];rfl
noncomputable def D_is_least_B1:DS:=
 (dIf [true,true,false,true,true] (dAnd (dTru (d2 (iop (λ_ _=>true) Builtin.bitAnd) (dV 0) (dV 4))) (dNot (dTru (d2 ixT (dV 3) (d2 addT (d2 (iop (λ_ _=>true) λi j=>i - j) (dV 1) (dV 0)) (dV 4))))))
 (dRet [] (dC (.bl false)))
 dNil)
noncomputable def D_is_least_2:DS:=
 (dRet [] (dC (.bl true)))
noncomputable def D_is_least:DS:=
 (dSeq (dFor [false,false,true] (dIt (dV 2)) (.one 4)
 D_is_least_B1) D_is_least_2)
noncomputable abbrev N_is_least:List Str:=["cover","everything","bits","missed","bit"]
noncomputable def sp_is_least(ts:List T):Option T:=if ts.length=4 then runs D_is_least (startE N_is_least ts) else none
theorem at_is_least(t0:T)(t1:T)(t2:T)(t3:T):sp_is_least [t0,t1,t2,t3]=runs D_is_least [some (.val t0),some (.val t1),some (.val t2),some (.val t3),none]:=by unfold sp_is_least;rw[if_pos (by rfl)];rfl
noncomputable def D_least_covers_B1:DS:=
 (dIf [false,false,true,true,true,false,true] (dAnd (dNot (dTru (d2 ixT (dV 3) (d2 (iop (λ_ _=>true) λi j=>i - j) (dV 4) (dV 6))))) (dTru (dCall sp_is_least (dAc (dV 6) (dAc (dV 4) (dAc (dV 2) (dAc (dV 3) dA0)))))))
 (dApp 5 [false,true,true,false,false,false,true] (dL (dLC [none,none,some 6] (.many [0,1]) (d_zip2 (dV 1) (dV 2)) (dTru (d2 (iop (λ_ _=>true) Builtin.bitAnd) (dV 2) (dV 1))) (dV 0))))
 dNil)
noncomputable def D_least_covers_7:DS:=
 (dRet [false,false,false,false,false,true] (dL (dCallF (Kx.sortKF sp_by_length) (dAc (dV 5) dA0))))
noncomputable def D_least_covers_6:DS:=
 (dSeq (dForR [false,false,false,false,true] (dR1 (d2 addT (dV 4) (dC (.int 1)))) (.one 6)
 D_least_covers_B1) D_least_covers_7)
noncomputable def D_least_covers_5:DS:=
 (dSeq (dSetF 5 [] (dLst dA0)) D_least_covers_6)
noncomputable def D_least_covers_4:DS:=
 (dSeq (dSet 4 [false,false,true] (dCall sumT (dAc (dV 2) dA0))) D_least_covers_5)
noncomputable def D_least_covers_3:DS:=
 (dSeq (dSet 3 [true,true,true] (dCall sp_sets_that_hold_a_list (dAc (dV 0) (dAc (dV 1) (dAc (dV 2) dA0))))) D_least_covers_4)
noncomputable def D_least_covers_2:DS:=
 (dSeq (dSet 2 [false,true] (dCall sp_bits_for (dAc (dCall lenT (dAc (dV 1) dA0)) dA0))) D_least_covers_3)
noncomputable def D_least_covers:DS:=
 (dSeq (dSet 1 [true] (dCall sp_members_of (dAc (dV 0) dA0))) D_least_covers_2)
noncomputable abbrev N_least_covers:List Str:=["family","members","bits","missed","everything","covers","cover"]
noncomputable def sp_least_covers(ts:List T):Option T:=if ts.length=1 then runs D_least_covers (startE N_least_covers ts) else none
theorem at_least_covers(t0:T):sp_least_covers [t0]=runs D_least_covers [some (.val t0),none,none,none,none,none,none]:=by unfold sp_least_covers;rw[if_pos (by rfl)];rfl
noncomputable def D__law_list:DS:=
 (dRet [true] (dL (dCallF Si.ssetIF (dAc (dL (dLst (dAc (d2 (iop (λ_ j=>decide (j≠0)) fmd) (dV 0) (dC (.int 12))) (dAc (d2 (iop (λ_ j=>decide (j≠0)) fmd) (d2 (iop (λ_ j=>dvOk j) fdv) (dV 0) (dC (.int 12))) (dC (.int 12))) (dAc (d2 (iop (λ_ j=>decide (j≠0)) fmd) (d2 (iop (λ_ j=>dvOk j) fdv) (dV 0) (dC (.int 144))) (dC (.int 12))) dA0))))) dA0))))
noncomputable abbrev N__law_list:List Str:=["_law_d"]
noncomputable def sp__law_list(ts:List T):Option T:=if ts.length=1 then runs D__law_list (startE N__law_list ts) else none
theorem at__law_list(t0:T):sp__law_list [t0]=runs D__law_list [some (.val t0)]:=by unfold sp__law_list;rw[if_pos (by rfl)];rfl
noncomputable def D__law_ranked_B1:DS:=
 (dIf [true,true] (dB (d2 Kx.geK (dTup (dAc (dCall lenT (dAc (d2 ixT (dV 0) (d2 (iop (λ_ _=>true) λi j=>i - j) (dV 1) (dC (.int 1)))) dA0)) (dAc (d2 ixT (dV 0) (d2 (iop (λ_ _=>true) λi j=>i - j) (dV 1) (dC (.int 1)))) dA0))) (dTup (dAc (dCall lenT (dAc (d2 ixT (dV 0) (dV 1)) dA0)) (dAc (d2 ixT (dV 0) (dV 1)) dA0)))))
 (dRet [] (dC (.bl false)))
 dNil)
noncomputable def D__law_ranked_2:DS:=
 (dRet [] (dC (.bl true)))
noncomputable def D__law_ranked:DS:=
 (dSeq (dForR [true] (dR2 (dC (.int 1)) (dCall lenT (dAc (dV 0) dA0))) (.one 1)
 D__law_ranked_B1) D__law_ranked_2)
noncomputable abbrev N__law_ranked:List Str:=["_law_found","_law_k"]
noncomputable def sp__law_ranked(ts:List T):Option T:=if ts.length=1 then runs D__law_ranked (startE N__law_ranked ts) else none
theorem at__law_ranked(t0:T):sp__law_ranked [t0]=runs D__law_ranked [some (.val t0),none]:=by unfold sp__law_ranked;rw[if_pos (by rfl)];rfl
noncomputable def D__law_meets_B1:DS:=
 (dIf [true,false,true] (dNot (dTru (dCall anyT (dAc (dL (dLC [none,some 0] (.one 0) (dIt (dV 2)) dYes (d2 inT (dV 0) (dV 1)))) dA0))))
 (dRet [] (dC (.bl false)))
 dNil)
noncomputable def D__law_meets_2:DS:=
 (dRet [] (dC (.bl true)))
noncomputable def D__law_meets:DS:=
 (dSeq (dFor [false,true] (dIt (dV 1)) (.one 2)
 D__law_meets_B1) D__law_meets_2)
noncomputable abbrev N__law_meets:List Str:=["_law_members","_law_family","_law_row"]
noncomputable def sp__law_meets(ts:List T):Option T:=if ts.length=2 then runs D__law_meets (startE N__law_meets ts) else none
theorem at__law_meets(t0:T)(t1:T):sp__law_meets [t0,t1]=runs D__law_meets [some (.val t0),some (.val t1),none]:=by unfold sp__law_meets;rw[if_pos (by rfl)];rfl
noncomputable def D__law_lessened_B1_2:DS:=
 (dIf [false,true,false,false,true] (dTru (dCall sp__law_meets (dAc (dV 4) (dAc (dV 1) dA0))))
 (dSet 2 [false,false,false,false,true] (dV 4))
 dNil)
noncomputable def D__law_lessened_B1:DS:=
 (dSeq (dSet 4 [false,false,true,true] (dL (dLC [none,some 3] (.one 0) (dIt (dV 2)) (dB (d2 neT (dV 0) (dV 1))) (dV 0)))) D__law_lessened_B1_2)
noncomputable def D__law_lessened_3:DS:=
 (dRet [false,false,true] (dV 2))
noncomputable def D__law_lessened_2:DS:=
 (dSeq (dFor [true] (dIt (dV 0)) (.one 3)
 D__law_lessened_B1) D__law_lessened_3)
noncomputable def D__law_lessened:DS:=
 (dSeq (dSet 2 [] (dL (Kx.dLRng (dC (.int 12))))) D__law_lessened_2)
noncomputable abbrev N__law_lessened:List Str:=["_law_order_here","_law_family","_law_members","_law_x","_law_fewer"]
noncomputable def sp__law_lessened(ts:List T):Option T:=if ts.length=2 then runs D__law_lessened (startE N__law_lessened ts) else none
theorem at__law_lessened(t0:T)(t1:T):sp__law_lessened [t0,t1]=runs D__law_lessened [some (.val t0),some (.val t1),none,none,none]:=by unfold sp__law_lessened;rw[if_pos (by rfl)];rfl
noncomputable def D__law_order_B1_2:DS:=
 (dSet 0 [true,false,true] (d2 (iop (λ_ j=>dvOk j) fdv) (dV 0) (d2 addT (dV 2) (dC (.int 1)))))
noncomputable def D__law_order_B1:DS:=
 (dSeq (dIns 1 [true,false,true] (d2 (iop (λ_ j=>decide (j≠0)) fmd) (dV 0) (d2 addT (dV 2) (dC (.int 1)))) (dV 2)) D__law_order_B1_2)
noncomputable def D__law_order_3:DS:=
 (dRet [false,true] (dV 1))
noncomputable def D__law_order_2:DS:=
 (dSeq (dForR [] (dR1 (dC (.int 12))) (.one 2)
 D__law_order_B1) D__law_order_3)
noncomputable def D__law_order:DS:=
 (dSeq (dSetF 1 [] (dLst dA0)) D__law_order_2)
noncomputable abbrev N__law_order:List Str:=["_law_d","_law_order_here","_law_k"]
noncomputable def sp__law_order(ts:List T):Option T:=if ts.length=1 then runs D__law_order (startE N__law_order ts) else none
theorem at__law_order(t0:T):sp__law_order [t0]=runs D__law_order [some (.val t0),none,none]:=by unfold sp__law_order;rw[if_pos (by rfl)];rfl
noncomputable def D__law_alone_B1:DS:=
 (dIf [true,true,false,true] (dAnd (dB (d2 inT (dV 0) (dV 3))) (dB (d2 eqT (dCall lenT (dAc (dL (dLC [none,some 1] (.one 0) (dIt (dV 3)) (dB (d2 inT (dV 0) (dV 1))) (dV 0))) dA0)) (dC (.int 1)))))
 (dRet [] (dC (.bl true)))
 dNil)
noncomputable def D__law_alone_2:DS:=
 (dRet [] (dC (.bl false)))
noncomputable def D__law_alone:DS:=
 (dSeq (dFor [false,false,true] (dIt (dV 2)) (.one 3)
 D__law_alone_B1) D__law_alone_2)
noncomputable abbrev N__law_alone:List Str:=["_law_x","_law_members","_law_family","_law_row"]
noncomputable def sp__law_alone(ts:List T):Option T:=if ts.length=3 then runs D__law_alone (startE N__law_alone ts) else none
theorem at__law_alone(t0:T)(t1:T)(t2:T):sp__law_alone [t0,t1,t2]=runs D__law_alone [some (.val t0),some (.val t1),some (.val t2),none]:=by unfold sp__law_alone;rw[if_pos (by rfl)];rfl
noncomputable def D__law_cover_B1_2:DS:=
 (dIf [true,false,true,true] (dAnd (dB (d2 gtT (dV 2) (dC (.int 0)))) (dB (d2 geT (d2 ixT (dV 0) (d2 (iop (λ_ _=>true) λi j=>i - j) (dV 2) (dC (.int 1)))) (dV 3))))
 (dRet [] (dC (.bl false)))
 dNil)
noncomputable def D__law_cover_B1:DS:=
 (dSeq (dIf [false,false,false,true] (dOr (dNot (dTru (dCall isT (dAc (dV 3) (dAc (dC (.raw (.ty "int"))) dA0))))) (dOr (dTru (dCall isT (dAc (dV 3) (dAc (dC (.raw (.ty "bool"))) dA0)))) (dNot (dB (dChain leT ltT (dC (.int 0)) (dV 3) (dC (.int 12)))))))
 (dRet [] (dC (.bl false)))
 dNil) D__law_cover_B1_2)
noncomputable def D__law_cover_3:DS:=
 (dRet [true,true,false,true] (dAndV (dCall sp__law_meets (dAc (dV 0) (dAc (dV 1) dA0))) (dCall allT (dAc (dL (dLC [none,some 0,some 1] (.one 0) (dIt (dV 0)) dYes (dCall sp__law_alone (dAc (dV 0) (dAc (dV 1) (dAc (dV 2) dA0)))))) dA0))))
noncomputable def D__law_cover_2:DS:=
 (dSeq (dFor [true] (d_enumerate1 (dV 0)) (.many [2,3])
 D__law_cover_B1) D__law_cover_3)
noncomputable def D__law_cover:DS:=
 (dSeq (dIf [true] (dNot (dTru (dCall isT (dAc (dV 0) (dAc (dC (.raw (.ty "list"))) dA0)))))
 (dRet [] (dC (.bl false)))
 dNil) D__law_cover_2)
noncomputable abbrev N__law_cover:List Str:=["_law_members","_law_family","_law_k","_law_x"]
noncomputable def sp__law_cover(ts:List T):Option T:=if ts.length=2 then runs D__law_cover (startE N__law_cover ts) else none
theorem at__law_cover(t0:T)(t1:T):sp__law_cover [t0,t1]=runs D__law_cover [some (.val t0),some (.val t1),none,none]:=by unfold sp__law_cover;rw[if_pos (by rfl)];rfl
noncomputable def D_law_B1_2:DS:=
 (dIf [false,true,true,false,false,true] (dB (d2 notInR (dCall sp__law_lessened (dAc (dCall sp__law_order (dAc (d2 (iop (λ_ j=>decide (j≠0)) fmd) (dV 5) (dC (.int 479001600))) dA0)) (dAc (dV 1) dA0))) (dV 2)))
 (dRet [] (dC (.bl false)))
 dNil)
noncomputable def D_law_B1:DS:=
 (dSeq (dSet 5 [false,false,false,true,true] (d2 addT (d2 (iop (λ_ j=>dvOk j) fdv) (d2 (iop (λ_ j=>decide (j≠0)) fmd) (dV 4) (d2 mulT (dC (.int 1728)) (dC (.int 479001600)))) (dC (.int 1728))) (d2 mulT (d2 mulT (dC (.int 40692)) (dV 3)) (dV 3)))) D_law_B1_2)
noncomputable def D_law_6:DS:=
 (dRet [] (dC (.bl true)))
noncomputable def D_law_5:DS:=
 (dSeq (dFor [true] (d_enumerate1 (slT (dV 0) dO0 (dO1 (dC (.int 10))))) (.many [3,4])
 D_law_B1) D_law_6)
noncomputable def D_law_4:DS:=
 (dSeq (dIf [false,false,true] (dNot (dTru (dCall sp__law_ranked (dAc (dV 2) dA0))))
 (dRet [] (dC (.bl false)))
 dNil) D_law_5)
noncomputable def D_law_3:DS:=
 (dSeq (dIf [false,true,true] (dOr (dNot (dTru (dCall isT (dAc (dV 2) (dAc (dC (.raw (.ty "list"))) dA0))))) (dNot (dTru (dCall allT (dAc (dL (dLC [none,some 1] (.one 0) (dIt (dV 2)) dYes (dCall sp__law_cover (dAc (dV 0) (dAc (dV 1) dA0))))) dA0)))))
 (dRet [] (dC (.bl false)))
 dNil) D_law_4)
noncomputable def D_law_2:DS:=
 (dSeq (dSet 2 [false,true] (dCall sp_least_covers (dAc (dL (dLC [none] (.one 0) (dIt (dV 1)) dYes (dL (dCallF listF (dAc (dV 0) dA0))))) dA0))) D_law_3)
noncomputable def D_law:DS:=
 (dSeq (dSet 1 [true,false,false,false,true] (dL (dLC [none] (.one 0) (dIt (slT (dV 0) dO0 (dO1 (dC (.int 6))))) dYes (dCall sp__law_list (dAc (d2 (iop (λ_ j=>decide (j≠0)) fmd) (dV 0) (dC (.int 1728))) dA0))))) D_law_2)
noncomputable abbrev N_law:List Str:=["_law_script","_law_family","_law_found","_law_k","_law_cell","_law_d"]
noncomputable def sp_law(ts:List T):Option T:=if ts.length=1 then runs D_law (startE N_law ts) else none
theorem at_law(t0:T):sp_law [t0]=runs D_law [some (.val t0),none,none,none,none,none]:=by unfold sp_law;rw[if_pos (by rfl)];rfl
end K23
set_option linter.all false
set_option maxRecDepth 100000
namespace K23
open PySem L2
noncomputable def rowN:List Int→Nat→List Int
 |[],_=>[]
 |x::xs,c=>if c %2=1 then x::rowN xs (c/2) else rowN xs (c/2)
theorem mem_rowN: ∀{M:List Int} {c:Nat} {x:Int},x∈rowN M c↔∃i,M[i]? =some x∧c.testBit i=true
 |[],c,x=>by simp[rowN]
 |y::M,c,x=>by
  have ih:=mem_rowN (M:=M) (c:=c/2) (x:=x)
  have e:(∃i,(y::M)[i]? =some x∧c.testBit i=true)↔(y=x∧c %2=1)∨∃i,M[i]? =some x∧(c/2).testBit i=true:=by
   constructor
   ·rintro⟨i,h1,h2⟩
    cases i with
    |zero=>rw[Nat.testBit_zero] at h2;exact .inl ⟨by simpa using h1,by simpa using h2⟩
    |succ i=>rw[Nat.testBit_succ] at h2;exact .inr ⟨i,by simpa using h1,h2⟩
   ·rintro(⟨rfl,h⟩|⟨i,h1,h2⟩)
    ·exact⟨0,by simp,by rw[Nat.testBit_zero];simpa using h⟩
    ·exact⟨i+1,by simpa using h1,by rw[Nat.testBit_succ];exact h2⟩
  rw[e,←ih,show rowN (y::M) c=if c %2=1 then y::rowN M (c/2) else rowN M (c/2) by rw[rowN]]
  split
  ·rename_i h;simp only[h,and_true,List.mem_cons,eq_comm]
  ·rename_i h;simp only[h,and_false,false_or]
theorem rowN_sub: ∀(M:List Int) (c:Nat),(rowN M c).Sublist M
 |[],_=>by simp[rowN]
 |x::M,c=>by
  unfold rowN
  split
  ·exact(rowN_sub M _).cons_cons x
  ·exact(rowN_sub M _).cons x
theorem rowN_surj{ρ M:List Int}(h:ρ.Sublist M): ∃c,c<2^M.length∧rowN M c=ρ:=by
 induction h with
 |slnil=>exact⟨0,by simp,rfl⟩
 |cons a h ih=>
  obtain⟨c,h1,h2⟩:=ih
  refine⟨2*c,by rw[List.length_cons,Nat.pow_succ];omega,?_⟩
  unfold rowN
  rw[if_neg (by omega),show 2*c/2=c by omega,h2]
 |cons_cons a h ih=>
  obtain⟨c,h1,h2⟩:=ih
  refine⟨2*c+1,by rw[List.length_cons,Nat.pow_succ];omega,?_⟩
  unfold rowN
  rw[if_pos (by omega),show(2*c+1)/2=c by omega,h2]
theorem rowN_inj: ∀{M:List Int} {c c':Nat},M.Nodup→c<2^M.length→c'<2^M.length→rowN M c=rowN M c'→c=c'
 |[],c,c',_,h1,h2,_=>by simp at h1 h2;omega
 |x::M,c,c',nd,h1,h2,e=>by
  rw[List.nodup_cons] at nd
  rw[List.length_cons,Nat.pow_succ] at h1 h2
  have a:x∈rowN (x::M) c↔c %2=1:=by
   unfold rowN
   split
   ·rename_i h;simp[h]
   ·rename_i h;simp only[h,iff_false];exact λq=>nd.1 ((rowN_sub M _).subset q)
  have b:x∈rowN (x::M) c'↔c' %2=1:=by
   unfold rowN
   split
   ·rename_i h;simp[h]
   ·rename_i h;simp only[h,iff_false];exact λq=>nd.1 ((rowN_sub M _).subset q)
  rw[e] at a
  have q:c %2=1↔c' %2=1:=a.symm.trans b
  have r:rowN M (c/2)=rowN M (c'/2):=by
   unfold rowN at e
   by_cases h:c %2=1
   ·rw[if_pos h,if_pos (q.mp h)] at e
    exact(List.cons.inj e).2
   ·rw[if_neg h,if_neg (λz=>h (q.mpr z))] at e
    exact e
  have:=rowN_inj nd.2 (by omega) (by omega) r
  omega
theorem tb_ge{k s:Nat}(h:k.testBit s=true):2^s≤k:=by
 by_cases e:2^s≤k
 ·exact e
 ·rw[Nat.testBit_lt_two_pow (by omega)] at h;cases h
theorem tb_sub: ∀{i c j:Nat},c.testBit i=true→(c - 2^i).testBit j=(c.testBit j&&decide (j≠i))
 |0,c,j,h=>by
  have ho:c %2=1:=by simpa using h
  cases j with
  |zero=>simp;omega
  |succ j=>rw[Nat.testBit_succ,Nat.testBit_succ,show(c - 2^0)/2=c/2 by simp;omega];simp
 |i+1,c,j,h=>by
  have hg:=tb_ge h
  rw[Nat.testBit_succ] at h
  rw[Nat.pow_succ] at hg⊢
  cases j with
  |zero=>
   rw[Nat.testBit_zero,Nat.testBit_zero]
   generalize 2^i=p at hg⊢
   have:(c - p*2) %2=c %2:=by omega
   rw[this];simp
  |succ j=>
   rw[Nat.testBit_succ,Nat.testBit_succ,show(c - 2^i*2)/2=c/2 - 2^i by generalize 2^i=p at hg⊢;omega,tb_sub h]
   simp
noncomputable def mtB(n:Nat)(R:List Nat)(c:Nat):Bool:=R.all λr=>(List.range n).any λi=>r.testBit i&&c.testBit i
noncomputable def lsB(n:Nat)(R:List Nat)(c:Nat):Bool:=mtB n R c&&(List.range n).all λi=> !c.testBit i|| !mtB n R (c - 2^i)
noncomputable def MtR(fam:List (List Int))(p:Int→Prop):Prop:= ∀f∈fam,∃x,p x∧x∈f
noncomputable def LsR(fam:List (List Int))(ρ:List Int):Prop:=MtR fam (· ∈ρ)∧∀x∈ρ,¬MtR fam λy=>y∈ρ∧y≠x
theorem idx_inj{M:List Int}(nd:M.Nodup){i j:Nat}{x:Int}(h1:M[i]? =some x)(h2:M[j]? =some x):i=j:=by
 obtain⟨a1,b1⟩:=List.getElem?_eq_some_iff.mp h1
 obtain⟨a2,b2⟩:=List.getElem?_eq_some_iff.mp h2
 exact(List.getElem_inj nd).mp (b1.trans b2.symm)
theorem idx_lt{M:List Int}{i:Nat}{x:Int}(h1:M[i]? =some x):i<M.length:=(List.getElem?_eq_some_iff.mp h1).1
theorem mt_iff{M:List Int}(nd:M.Nodup){R:List Nat}{c:Nat}:mtB M.length R c=true↔MtR (R.map (rowN M)) (· ∈rowN M c):=by
 unfold mtB MtR
 simp only[List.all_eq_true,List.any_eq_true,List.mem_range,Bool.and_eq_true,List.mem_map,forall_exists_index,and_imp,forall_apply_eq_imp_iff₂,mem_rowN]
 constructor
 ·intro h r hr
  obtain⟨i,hi,h1,h2⟩:=h r hr
  exact⟨M[i],⟨i,List.getElem?_eq_getElem hi,h2⟩,i,List.getElem?_eq_getElem hi,h1⟩
 ·intro h r hr
  obtain⟨x,⟨i,h1,h2⟩,j,h3,h4⟩:=h r hr
  have e:=idx_inj nd h1 h3
  subst e
  exact⟨i,idx_lt h1,h4,h2⟩
theorem MtR.congr{fam:List (List Int)}{p q:Int→Prop}(h: ∀x,p x↔q x):MtR fam p↔MtR fam q:=by
 unfold MtR
 simp only[h]
theorem ls_iff{M:List Int}(nd:M.Nodup){R:List Nat}{c:Nat}(hc:c<2^M.length):lsB M.length R c=true↔LsR (R.map (rowN M)) (rowN M c):=by
 unfold lsB LsR
 rw[Bool.and_eq_true,mt_iff nd]
 refine and_congr_right λ_=> ?_
 simp only[List.all_eq_true,List.mem_range,Bool.or_eq_true,Bool.not_eq_true']
 have key: ∀i x,M[i]? =some x→c.testBit i=true→(mtB M.length R (c - 2^i)=true↔MtR (R.map (rowN M)) λy=>y∈rowN M c∧y≠x):=by
  intro i x hx hi
  rw[mt_iff nd]
  refine MtR.congr λy=> ?_
  have l:=idx_lt hx
  simp only[mem_rowN]
  constructor
  ·rintro⟨j,h1,h2⟩
   have lj:=idx_lt h1
   rw[tb_sub hi,Bool.and_eq_true,decide_eq_true_eq] at h2
   exact⟨⟨j,h1,h2.1⟩,λe=>h2.2 (idx_inj nd (e▸h1) hx)⟩
  ·rintro⟨⟨j,h1,h2⟩,h3⟩
   have lj:=idx_lt h1
   refine⟨j,h1,?_⟩
   rw[tb_sub hi,Bool.and_eq_true,decide_eq_true_eq]
   exact⟨h2,λe=>h3 (by subst e;rw[h1] at hx;exact Option.some.inj hx)⟩
 constructor
 ·intro h x hx
  obtain⟨i,h1,h2⟩:=mem_rowN.mp hx
  rw[←key i x h1 h2]
  rcases h i (idx_lt h1) with q|q
  ·rw[h2] at q;cases q
  ·rw[q];decide
 ·intro h i hi
  by_cases hb:c.testBit i=true
  ·right
   have:=h M[i] (mem_rowN.mpr ⟨i,List.getElem?_eq_getElem hi,hb⟩)
   rw[←key i M[i] (List.getElem?_eq_getElem hi) hb] at this
   exact Bool.eq_false_iff.mpr this
  ·left
   exact Bool.eq_false_iff.mpr hb
noncomputable def leasts(n:Nat)(M:List Int)(R:List Nat):List (List Int):=((List.range (2^n)).filter (lsB n R)).map (rowN M)
theorem leasts_nodup{M:List Int}(nd:M.Nodup)(R:List Nat):(leasts M.length M R).Nodup:=by
 unfold leasts
 rw[List.Nodup,List.pairwise_map]
 have h:((List.range (2^M.length)).filter (lsB M.length R)).Pairwise (· < ·):=List.Pairwise.filter _ List.pairwise_lt_range
 refine List.Pairwise.imp_of_mem (λ{a b} ha hb hab e=> ?_) h
 have a1:=List.mem_range.mp (List.mem_filter.mp ha).1
 have b1:=List.mem_range.mp (List.mem_filter.mp hb).1
 exact absurd (rowN_inj nd a1 b1 e) (by omega)
theorem mem_leasts{M:List Int}(nd:M.Nodup){R:List Nat}{ρ:List Int}:ρ∈leasts M.length M R↔ρ.Sublist M∧LsR (R.map (rowN M)) ρ:=by
 unfold leasts
 simp only[List.mem_map,List.mem_filter,List.mem_range]
 constructor
 ·rintro⟨c,⟨h1,h2⟩,rfl⟩
  exact⟨rowN_sub _ _,(ls_iff nd h1).mp h2⟩
 ·rintro⟨h1,h2⟩
  obtain⟨c,hc,rfl⟩:=rowN_surj h1
  exact⟨c,⟨hc,(ls_iff nd hc).mpr h2⟩,rfl⟩
end K23
set_option linter.all false
set_option maxRecDepth 100000
namespace K23
open PySem L2
noncomputable def stepB(s:Nat)(t:Nat→Bool):Nat→Bool:=λc=>t c||(c.testBit s&&t (c - 2^s))
noncomputable def closB(n:Nat)(t:Nat→Bool):Nat→Bool:=(List.range n).foldl (λt s=>stepB s t) t
theorem closB_succ(n:Nat)(t:Nat→Bool):closB (n+1) t=stepB n (closB n t):=by
 unfold closB
 rw[List.range_succ,List.foldl_append]
 rfl
theorem tb_big{c i:Nat}(hc:c<4096)(hi:12≤i):c.testBit i=false:=Nat.testBit_lt_two_pow (Nat.lt_of_lt_of_le hc (Nat.pow_le_pow_right (by decide) hi:2^12≤2^i))
theorem tb_ext{r c:Nat}(hr:r<4096)(hc:c<4096)(h: ∀i,i<12→r.testBit i=c.testBit i):r=c:=by
 refine Nat.eq_of_testBit_eq λi=> ?_
 by_cases hi:i<12
 ·exact h i hi
 ·rw[tb_big hr (by omega),tb_big hc (by omega)]
noncomputable def Upto(j r c:Nat):Prop:= ∀i,i<12→(i<j→r.testBit i=true→c.testBit i=true)∧(j≤i→r.testBit i=c.testBit i)
theorem clos_upto{R:List Nat}(hR: ∀r∈R,r<4096): ∀(j c:Nat),j≤12→c<4096→(closB j (λc=>decide (c∈R)) c=true↔∃r∈R,Upto j r c)
 |0,c,_,hc=>by
  show decide (c∈R)=true↔_
  rw[decide_eq_true_eq]
  constructor
  ·exact λh=>⟨c,h,λi _=>⟨λh=>absurd h (by omega),λ_=>rfl⟩⟩
  ·rintro⟨r,h1,h2⟩
   rwa [←tb_ext (hR r h1) hc λi hi=>(h2 i hi).2 (Nat.zero_le _)]
 |j+1,c,hj,hc=>by
  rw[closB_succ]
  have hd:c - 2^j<4096:=Nat.lt_of_le_of_lt (Nat.sub_le _ _) hc
  have ih1:=clos_upto hR j c (by omega) hc
  have ih2:=clos_upto hR j (c - 2^j) (by omega) hd
  unfold stepB
  rw[Bool.or_eq_true,Bool.and_eq_true,ih1,ih2]
  constructor
  ·rintro(⟨r,h1,h2⟩|⟨hb,r,h1,h2⟩)
   ·refine⟨r,h1,λi hi=>⟨λq hr=> ?_,λq=>(h2 i hi).2 (by omega)⟩⟩
    by_cases e:i<j
    ·exact(h2 i hi).1 e hr
    ·rw[←(h2 i hi).2 (by omega)];exact hr
   ·refine⟨r,h1,λi hi=> ?_⟩
    have t:=tb_sub (j:=i) hb
    have h3:=h2 i hi
    rw[t] at h3
    refine⟨λq hr=> ?_,λq=> ?_⟩
    ·by_cases e:i<j
     ·have:=h3.1 e hr
      rw[Bool.and_eq_true] at this
      exact this.1
     ·have e':i=j:=by omega
      subst e'
      exact hb
    ·rw[h3.2 (by omega)]
     simp[show i≠j by omega]
  ·rintro⟨r,h1,h2⟩
   by_cases e:r.testBit j=c.testBit j
   ·refine .inl ⟨r,h1,λi hi=>⟨λq=>(h2 i hi).1 (by omega),λq=> ?_⟩⟩
    by_cases e':i=j
    ·subst e';exact e
    ·exact(h2 i hi).2 (by omega)
   ·have hr:r.testBit j=false:=by
     cases hb:r.testBit j with
     |false=>rfl
     |true=>exact absurd (by rw[hb,(h2 j (by omega)).1 (by omega) hb]) e
    have hb:c.testBit j=true:=by
     rw[hr] at e
     cases h:c.testBit j with
     |false=>exact absurd h.symm e
     |true=>rfl
    refine .inr ⟨hb,r,h1,λi hi=> ?_⟩
    rw[tb_sub (j:=i) hb]
    refine⟨λq hq=> ?_,λq=> ?_⟩
    ·rw[(h2 i hi).1 (by omega) hq];simp;omega
    ·by_cases e':i=j
     ·subst e';rw[hr];simp
     ·rw[(h2 i hi).2 (by omega)];simp[e']
theorem missed_at{n c:Nat}{R:List Nat}(hn:n≤12)(hR: ∀r∈R,r<2^n)(hc:c<2^n):closB n (λc=>decide (c∈R)) (2^n - 1 - c)= !mtB n R c:=by
 have h4096:2^n≤4096:=(Nat.pow_le_pow_right (by decide) hn:2^n≤2^12)
 rw[Bool.eq_iff_iff,clos_upto (λr hr=>Nat.lt_of_lt_of_le (hR r hr) h4096) n _ hn (by omega),Bool.not_eq_true']
 have hb: ∀i,(2^n - 1 - c).testBit i=(decide (i<n)&& !c.testBit i):=λi=>by
  rw[show 2^n - 1 - c=2^n - (c+1) by omega]
  exact Nat.testBit_two_pow_sub_succ hc i
 rw[Bool.eq_false_iff,ne_eq,mtB]
 simp only[List.all_eq_true,List.any_eq_true,List.mem_range,Bool.and_eq_true]
 constructor
 ·rintro⟨r,h1,h2⟩ hm
  obtain⟨i,hi,a,b⟩:=hm r h1
  have:=(h2 i (by omega)).1 hi a
  rw[hb,b] at this
  simp at this
 ·intro hm
  refine Classical.byContradiction λhn'=>hm λr hr=>Classical.byContradiction λhi=>hn' ⟨r,hr,λi hi6=>⟨λhin ha=> ?_,λhni=> ?_⟩⟩
  ·rw[hb]
   have:c.testBit i=false:=by
    cases h:c.testBit i with
    |false=>rfl
    |true=>exact absurd ⟨i,hin,ha,h⟩ hi
   simp[hin,this]
  ·rw[hb,Nat.testBit_lt_two_pow (Nat.lt_of_lt_of_le (hR r hr) (Nat.pow_le_pow_right (by decide) hni))]
   simp[show¬i<n by omega]
end K23
set_option linter.all false
set_option maxRecDepth 100000
namespace K23
open PySem L2
@[reducible] noncomputable def rowT(ρ:List Int):T:=.lst (ρ.map T.int)
noncomputable def sn(ks:List Int):List (Key×T):=ks.map λx=>(.inl x,.bl true)
noncomputable def addK(ks:List Int)(x:Int):List Int:=if x∈ks then ks else ks++[x]
theorem mem_addK{ks:List Int}{x y:Int}:y∈addK ks x↔y∈ks∨y=x:=by
 unfold addK
 split
 ·rename_i h
  exact⟨.inl,λq=>q.elim id λe=>e▸h⟩
 ·simp
theorem addK_nd{ks:List Int}{x:Int}(h:ks.Nodup):(addK ks x).Nodup:=by
 unfold addK
 split
 ·exact h
 ·rename_i q
  rw[List.nodup_append]
  refine⟨h,by simp,λa ha b hb e=>q ?_⟩
  rw[List.mem_singleton] at hb
  rw[←hb,←e]
  exact ha
theorem addK_len(ks:List Int)(x:Int):(addK ks x).length≤ks.length+1:=by
 unfold addK
 split
 ·omega
 ·simp
theorem mem_fold{y:Int}: ∀{l ks:List Int},y∈l.foldl addK ks↔y∈ks∨y∈l
 |[],ks=>by simp
 |x::l,ks=>by rw[List.foldl_cons,mem_fold,mem_addK,List.mem_cons,or_assoc]
theorem fold_nd: ∀{l ks:List Int},ks.Nodup→(l.foldl addK ks).Nodup
 |[],_,h=>h
 |x::l,ks,h=>by rw[List.foldl_cons];exact fold_nd (addK_nd h)
theorem fold_len: ∀(l ks:List Int),(l.foldl addK ks).length≤ks.length+l.length
 |[],ks=>by simp
 |x::l,ks=>by
  rw[List.foldl_cons,List.length_cons]
  have:=fold_len l (addK ks x)
  have:=addK_len ks x
  omega
theorem put_sn(ks:List Int)(x:Int):putG (sn ks) (.inl x) (.bl true)=sn (addK ks x):=by
 unfold addK
 split
 ·rename_i h
  have:((sn ks).any λp=>decide (p.1=.inl x))=true:=by
   unfold sn
   rw[List.any_map,List.any_eq_true]
   exact⟨x,h,by simp⟩
  unfold putG
  rw[if_pos this]
  unfold sn
  rw[List.map_map]
  refine List.map_congr_left λy _=> ?_
  simp only[Function.comp]
  split<;>simp_all
 ·rename_i h
  rw[putG_new (valG_none (by
   unfold sn
   rw[List.map_map]
   intro hm
   obtain⟨y,hy,e⟩:=List.mem_map.mp hm
   exact h (Sum.inl.inj e▸hy)))]
  unfold sn
  simp
theorem dPutD_at{i:Nat}{m:List Bool}{f g:DE}{τ:Env2}{l:List (Key×T)}{t kt:T}{k:Key}(h1:f (see m τ)=some t)(h2:g (see m τ)=some kt)(h3:keyT kt=some k)(h4:(aft m t τ)[i]? =some (some (ownD l)))(h5:l.length<lim):
  dPutD i m f g τ=some (.nx ((aft m t τ).set i (some (ownD (putG l k t))))):=by
 unfold dPutD
 rw[h1,Option.bind_some,h2,Option.bind_some,h3,Option.bind_some,h4]
 unfold ownD
 simp only
 rw[if_pos (by rw[List.length_map];exact h5),putG_own]
theorem take_snoc{α:Type}{l:List α}{j:Nat}{x:α}(h:l[j]? =some x):l.take (j+1)=l.take j++[x]:=by
 rw[List.take_succ,h];rfl
theorem inner(F:T)(ks f:List Int)(o3:Option O)(hl:ks.length+f.length<1000):
  ∃o3',D_members_of_B1 [some (.val F),some (ownD (sn ks)),some (.val (rowT f)),o3]=some (.nx [some (.val F),some (ownD (sn (f.foldl addK ks))),some (.val (rowT f)),o3']):=by
 simp -implicitDefEqProofs [D_members_of_B1,-dPutD_ap]
 obtain⟨τ',e,o,rfl⟩:=loop_inv (g:=.one 3) (body:=dPutD 1 [false,false,false,true] (dC (.bl true)) (dV 3)) (λj τ=> ∃o,τ=[some (.val F),some (ownD (sn ((f.take j).foldl addK ks))),some (.val (rowT f)),o]) (f.map T.int) 0 [some (.val F),some (ownD (sn ks)),some (.val (rowT f)),o3]
  ⟨o3,by simp⟩ (by
   rintro j t τ ht ⟨o,rfl⟩
   rw[List.getElem?_map] at ht
   obtain⟨x,hx,rfl⟩:=Option.map_eq_some_iff.mp ht
   refine⟨_,_,rfl,.inl ?_,some (.val (.int x)),rfl⟩
   have hlen:=fold_len (f.take j) ks
   have hlt:(f.take j).length≤f.length:=by simp;omega
   rw[dPutD_at (l:=sn ((f.take j).foldl addK ks)) (t:=.bl true) (kt:=.int x) (k:=.inl x) rfl (by simp) rfl (by simp) (by unfold sn;rw[List.length_map,lim_eq];omega),put_sn]
   simp only[Nat.zero_add]
   rw[take_snoc hx,List.foldl_append]
   simp)
 refine⟨o,e.trans ?_⟩
 simp
theorem members(fam:List (List Int))(hl:fam.flatten.length<1000)(hk:(fam.flatten.foldl addK []).length<64):
  sp_members_of [.lst (fam.map rowT)]=some (.lst ((isort (fam.flatten.foldl addK [])).map T.int)):=by
 rw[←gv_eq]
 generalize hR:(λb:T=>b=.lst ((isort (fam.flatten.foldl addK [])).map T.int))=R
 simp -implicitDefEqProofs [at_members_of,D_members_of,D_members_of_2]
 refine gv_loop (λj τ=> ∃o2 o3,τ=[some (.val (.lst (fam.map rowT))),some (ownD (sn ((fam.take j).flatten.foldl addK []))),o2,o3]) ⟨none,none,by simp[ownD,sn]⟩ ?_ ?_
 ·rintro j t τ ht ⟨o2,o3,rfl⟩
  rw[List.getElem?_map] at ht
  obtain⟨f,hf,rfl⟩:=Option.map_eq_some_iff.mp ht
  refine⟨_,rfl,?_⟩
  have h1:((fam.take j).flatten.foldl addK []).length+f.length≤fam.flatten.length:=by
   have a:=fold_len (fam.take j).flatten []
   have b:(fam.take (j+1)).flatten.length≤fam.flatten.length:=by
    have q:=congrArg (λl=>l.flatten.length) (List.take_append_drop (j+1) fam)
    simp only[List.flatten_append,List.length_append] at q
    omega
   rw[take_snoc hf,List.flatten_append,List.length_append] at b
   simp at a b⊢
   omega
  obtain⟨o3',e⟩:=inner (.lst (fam.map rowT)) ((fam.take j).flatten.foldl addK []) f o3 (by omega)
  refine Gv.of e ⟨_,.inl rfl,some (.val (rowT f)),o3',?_⟩
  rw[take_snoc hf,List.flatten_append,List.foldl_append]
  simp
 ·rintro τ ⟨o2,o3,rfl⟩
  rw[List.length_map,List.take_length]
  have e:(sn (fam.flatten.foldl addK [])).map (·.1)=(fam.flatten.foldl addK []).map Sum.inl:=by unfold sn;rw[List.map_map];rfl
  refine Gv.of (a:=.lst ((isort (fam.flatten.foldl addK [])).map T.int)) ?_ (by rw[←hR])
  simp -implicitDefEqProofs [D_members_of_3,e,Kx.inKeys_map,hk]
end K23
set_option linter.all false
set_option maxRecDepth 100000
namespace K23
open PySem L2
theorem band(a b:Nat):Builtin.bitAnd (a:Int) (b:Int)=((a &&& b:Nat):Int):=by
 unfold Builtin.bitAnd
 simp
theorem and_pow(a i:Nat):(a &&& 2^i !=0)=a.testBit i:=by
 cases h:a.testBit i with
 |true=>
  have:(a &&& 2^i).testBit i=true:=by rw[Nat.testBit_and,h,Nat.testBit_two_pow_self];rfl
  rw[bne_iff_ne]
  intro e
  rw[e,Nat.zero_testBit] at this
  cases this
 |false=>
  have:a &&& 2^i=0:=Nat.eq_of_testBit_eq λj=>by
   rw[Nat.testBit_and,Nat.zero_testBit,Nat.testBit_two_pow]
   by_cases e:i=j
   ·subst e;rw[h];rfl
   ·simp[e]
  rw[this];rfl
theorem band_bit{a i:Nat}:(Builtin.bitAnd (a:Int) ((2^i:Nat):Int) !=0)=a.testBit i:=by
 rw[band,←and_pow a i]
 rw[Bool.eq_iff_iff]
 simp
noncomputable def bitsL(s n:Nat):List Int:=(List.range' s n).map λi=>((2^i:Nat):Int)
theorem bits: ∀n:Nat,n≤12→sp_bits_for [.int n]=some (.lst ((bitsL 0 n).map T.int))
 |0,_=>by kernel_rfl
 |1,_=>by kernel_rfl
 |2,_=>by kernel_rfl
 |3,_=>by kernel_rfl
 |4,_=>by kernel_rfl
 |5,_=>by kernel_rfl
 |6,_=>by kernel_rfl
 |7,_=>by kernel_rfl
 |8,_=>by kernel_rfl
 |9,_=>by kernel_rfl
 |10,_=>by kernel_rfl
 |11,_=>by kernel_rfl
 |12,_=>by kernel_rfl
 |n+13,h=>by omega
theorem bits_sum: ∀n:Nat,n≤12→(bitsL 0 n).sum=((2^n - 1:Nat):Int)
 |0,_=>by decide+kernel
 |1,_=>by decide+kernel
 |2,_=>by decide+kernel
 |3,_=>by decide+kernel
 |4,_=>by decide+kernel
 |5,_=>by decide+kernel
 |6,_=>by decide+kernel
 |7,_=>by decide+kernel
 |8,_=>by decide+kernel
 |9,_=>by decide+kernel
 |10,_=>by decide+kernel
 |11,_=>by decide+kernel
 |12,_=>by decide+kernel
 |n+13,h=>by omega
theorem bits_len(s n:Nat):(bitsL s n).length=n:=by unfold bitsL;simp
theorem bits_at{n i:Nat}{x:Int}(h:(bitsL 0 n)[i]? =some x):i<n∧x=((2^i:Nat):Int):=by
 unfold bitsL at h
 rw[List.getElem?_map] at h
 obtain⟨j,h1,rfl⟩:=Option.map_eq_some_iff.mp h
 obtain⟨h2,h3⟩:=List.getElem?_eq_some_iff.mp h1
 simp at h2 h3
 exact⟨h2,by rw[h3]⟩
noncomputable def bo(s:Nat)(M:List Int):List (Key×T):=(M.map Sum.inl).zip ((bitsL s M.length).map T.int)
theorem bo_cons(s:Nat)(x:Int)(M:List Int):bo s (x::M)=(.inl x,.int ((2^s:Nat):Int))::bo (s+1) M:=by
 unfold bo bitsL
 rw[List.length_cons,List.range'_succ]
 rfl
theorem bo_sum: ∀(M:List Int) (s:Nat),M.Nodup→∃g:Int→Int,(∀x∈M,valG (bo s M) (.inl x)=some (.int (g x)))∧∀r,r<2^M.length→((rowN M r).map g).sum=((2^s*r:Nat):Int)
 |[],s,_=>⟨λ_=>0,λx h=>(by cases h),λr h=>by simp at h;subst h;simp[rowN]⟩
 |x::M,s,nd=>by
  rw[List.nodup_cons] at nd
  obtain⟨g,h1,h2⟩:=bo_sum M (s+1) nd.2
  refine⟨λy=>if y=x then((2^s:Nat):Int) else g y,λy hy=> ?_,λr hr=> ?_⟩
  ·rw[bo_cons,valG_cons]
   by_cases e:y=x
   ·subst e;simp
   ·rw[if_neg (λq=>e (Sum.inl.inj q).symm),h1 y ((List.mem_cons.mp hy).resolve_left e)];simp only[e,if_false]
  ·rw[List.length_cons,Nat.pow_succ] at hr
   have ih:=h2 (r/2) (by omega)
   have e:(rowN M (r/2)).map (λy=>if y=x then((2^s:Nat):Int) else g y)=(rowN M (r/2)).map g:=List.map_congr_left λy hy=>if_neg λ(q:y=x)=>nd.1 (q▸(rowN_sub M _).subset hy)
   rw[show rowN (x::M) r=if r %2=1 then x::rowN M (r/2) else rowN M (r/2) by rw[rowN]]
   have e2:2^(s+1)*(r/2)=2^s*(2*(r/2)):=by rw[Nat.pow_succ,Nat.mul_assoc]
   rw[e2] at ih
   split
   ·rename_i ho
    rw[List.map_cons,List.sum_cons,e,ih,if_pos rfl,←Int.natCast_add,show 2^s+2^s*(2*(r/2))=2^s*(2*(r/2)+1) by rw[Nat.mul_add,Nat.mul_one,Nat.add_comm],show 2*(r/2)+1=r by omega]
   ·rename_i he
    rw[e,ih,show 2*(r/2)=r by omega]
noncomputable def tab(n:Nat)(t:Nat→Bool):List T:=(List.range (2^n)).map λc=>T.bl (t c)
theorem tab_len(n:Nat)(t:Nat→Bool):(tab n t).length=2^n:=by unfold tab;simp
theorem tab_at{n:Nat}{t:Nat→Bool}{c:Nat}(h:c<2^n):(tab n t)[c]? =some (.bl (t c)):=by
 unfold tab
 rw[List.getElem?_map,List.getElem?_range h]
 rfl
theorem tab_atI{n:Nat}{t:Nat→Bool}{c:Nat}(h:c<2^n):atI (tab n t) (c:Int)=some (.bl (t c)):=by rw[atI_ofNat,tab_at h]
theorem tab_set{n:Nat}{t:Nat→Bool}{c:Nat}(h:c<2^n):(tab n t).set c (.bl true)=tab n λd=>decide (d=c)||t d:=by
 refine List.ext_getElem? λi=> ?_
 rw[List.getElem?_set,tab_len]
 by_cases e:c=i
 ·subst e
  rw[if_pos rfl,if_pos h,tab_at h]
  simp
 ·rw[if_neg e]
  by_cases hi:i<2^n
  ·rw[tab_at hi,tab_at hi]
   simp[show¬i=c from λq=>e q.symm]
  ·rw[List.getElem?_eq_none (by rw[tab_len];omega),List.getElem?_eq_none (by rw[tab_len];omega)]
theorem tab_congr{n:Nat}{t u:Nat→Bool}(h: ∀c,c<2^n→t c=u c):tab n t=tab n u:=List.map_congr_left λc hc=>by rw[h c (List.mem_range.mp hc)]
theorem ixN_nat{n k:Nat}(h:k<n):ixN n (k:Int)=some k:=by
 unfold ixN
 rw[if_pos (by omega),if_pos (by omega)]
 simp
end K23
set_option linter.all false
set_option maxRecDepth 100000
namespace K23
open PySem L2
section
variable {FT MT BT DT:T} {n:Nat} {o5 o6 o7:Option O}
@[reducible] noncomputable def st(FT MT BT DT:T)(n:Nat)(t:Nat→Bool)(o5 o6 o7:Option O):Env2:=[some (.val FT),some (.val MT),some (.val BT),some (.val DT),some (.lst ((tab n t).map O.val)),o5,o6,o7]
noncomputable def uk(s:Nat)(t:Nat→Bool)(k:Nat):Nat→Bool:=λc=>t c||(decide (c<k)&&(c.testBit s&&t (c - 2^s)))
theorem b2(hn:n≤12){s k:Nat}(hs:s<n)(hk:k<2^n)(u:Nat→Bool):
  D_sets_that_hold_a_list_B2 (st FT MT BT DT n u o5 (some (.val (.int ((2^s:Nat):Int)))) (some (.val (.int (k:Int)))))=
   some (.nx (st FT MT BT DT n (if (k.testBit s&&u (k - 2^s))=true then λd=>decide (d=k)||u d else u) o5 (some (.val (.int ((2^s:Nat):Int)))) (some (.val (.int (k:Int)))))):=by
 have h4096:2^n≤4096:=(Nat.pow_le_pow_right (by decide) hn:2^n≤2^12)
 have hb:=band_bit (a:=k) (i:=s)
 generalize hp:2^s=p at hb⊢
 cases hc:k.testBit s with
 |false=>
  rw[hc] at hb
  simp -implicitDefEqProofs [D_sets_that_hold_a_list_B2,st] at hb⊢
  simp -implicitDefEqProofs [hb]
 |true=>
  rw[hc] at hb
  have hge:=tb_ge hc
  rw[hp] at hge
  have hi:(k:Int) - (p:Int)=((k - p:Nat):Int):=by omega
  have ha:=tab_atI (n:=n) (t:=u) (c:=k - p) (by omega)
  have hx:=ixN_nat (n:=2^n) hk
  have hset:=tab_set (n:=n) (t:=u) hk
  cases hu:u (k - p) with
  |false=>
   rw[hu] at ha
   simp -implicitDefEqProofs [D_sets_that_hold_a_list_B2,st] at hb⊢
   simp -implicitDefEqProofs [hb,hi,ha]
  |true=>
   rw[hu] at ha
   simp -implicitDefEqProofs [D_sets_that_hold_a_list_B2,st] at hb⊢
   simp -implicitDefEqProofs [hb,hi,ha,tab_len,hx]
   rw[←hset,List.map_set]
theorem uk_step{s k:Nat}(hn:n≤12)(hs:s<n)(hk:k<2^n)(t:Nat→Bool):(if (k.testBit s&&uk s t k (k - 2^s))=true then λd=>decide (d=k)||uk s t k d else uk s t k)=uk s t (k+1):=by
 have h4096:2^n≤4096:=(Nat.pow_le_pow_right (by decide) hn:2^n≤2^12)
 have hu:k.testBit s=true→uk s t k (k - 2^s)=t (k - 2^s):=λh=>by
  unfold uk
  rw[tb_sub (j:=s) h]
  simp
 funext c
 by_cases hc:c=k
 ·subst hc
  cases h:c.testBit s with
  |false=>simp[uk,h]
  |true=>
   rw[hu h]
   cases h2:t (c - 2^s) with
   |false=>simp[uk,h,h2]
   |true=>simp[uk,h,h2]
 ·have e:decide (c<k+1)=decide (c<k):=by
   rw[decide_eq_decide];omega
  split
  ·simp[uk,hc,e]
  ·simp[uk,e]
theorem b1(hn:n≤12){s:Nat}(hs:s<n)(t:Nat→Bool):
  ∃o7',D_sets_that_hold_a_list_B1 (st FT MT BT DT n t o5 (some (.val (.int ((2^s:Nat):Int)))) o7)=some (.nx (st FT MT BT DT n (stepB s t) o5 (some (.val (.int ((2^s:Nat):Int)))) o7')):=by
 have h4096:2^n≤4096:=(Nat.pow_le_pow_right (by decide) hn:2^n≤2^12)
 have hl:((2^n:Nat):Int)≤1000000000:=by omega
 have e0:D_sets_that_hold_a_list_B1 (st FT MT BT DT n t o5 (some (.val (.int ((2^s:Nat):Int)))) o7)=dLoop (.one 7) D_sets_that_hold_a_list_B2 (rngT 0 (2^n)) (st FT MT BT DT n t o5 (some (.val (.int ((2^s:Nat):Int)))) o7):=by
  generalize hp:2^s=p
  generalize hq:2^n=q at hl
  simp -implicitDefEqProofs [D_sets_that_hold_a_list_B1,st,tab_len,hq,hl]
 rw[e0]
 obtain⟨τ',e,o,rfl⟩:=loop_inv (g:=.one 7) (body:=D_sets_that_hold_a_list_B2) (λj τ=> ∃o,τ=st FT MT BT DT n (uk s t j) o5 (some (.val (.int ((2^s:Nat):Int)))) o) (rngT 0 (2^n)) 0 (st FT MT BT DT n t o5 (some (.val (.int ((2^s:Nat):Int)))) o7)
  ⟨o7,by rw[show uk s t 0=t from funext λc=>by simp[uk]]⟩ (by
   rintro j u τ ht ⟨o,rfl⟩
   obtain⟨hj,rfl⟩:=rngT_get ht
   simp only[Int.zero_add,Nat.zero_add]
   refine⟨_,_,rfl,.inl (b2 hn hs hj (uk s t j)),some (.val (.int (j:Int))),?_⟩
   rw[uk_step hn hs hj])
 refine⟨o,e.trans ?_⟩
 rw[rngT_length,Nat.zero_add]
 have:tab n (uk s t (2^n))=tab n (stepB s t):=tab_congr λc hc=>by unfold uk stepB;simp[hc]
 unfold st
 rw[this]
end
end K23
set_option linter.all false
set_option maxRecDepth 100000
namespace K23
open PySem L2
theorem sum_bits(n:Nat)(hn:n≤12):sumT [.lst ((bitsL 0 n).map T.int)]=some (.int ((2^n - 1:Nat):Int)):=by
 show Option.map _ (intsT _)=_
 rw[intsT_map,Option.map_some,bits_sum n hn]
theorem holds_row{M:List Int}(nd:M.Nodup)(h6:M.length≤12){r:Nat}(hr:r<2^M.length)(FT BT:T)(t:Nat→Bool)(o6 o7:Option O):
  dPut 4 [false,false,false,true,false,true] (dC (.bl true)) (dCall sumT (dAc (dL (dLC [none,some 3] (.one 0) (dIt (dV 5)) dYes (d2 L2.getD (dV 1) (dV 0)))) dA0)) (st FT (rowT M) BT (.dic (bo 0 M)) M.length t (some (.val (rowT (rowN M r)))) o6 o7)=
   some (.nx (st FT (rowT M) BT (.dic (bo 0 M)) M.length (λd=>decide (d=r)||t d) (some (.val (rowT (rowN M r)))) o6 o7)):=by
 obtain⟨g,hg1,hg2⟩:=bo_sum M 0 nd
 have hs:=hg2 r hr
 have hl:(rowN M r).length≤10000000:=Nat.le_trans (rowN_sub M r).length_le (by omega)
 have hc:dComp (.one 0) dYes (d2 L2.getD (dV 1) (dV 0)) [none,some (.dic (bo 0 M))] ((rowN M r).map T.int)=some (((rowN M r).map g).map T.int):=by
  rw[comp_map (φ:=λt=>match t with | .int x=>.int (g x)|u=>u) _ λu hu=> ?_]
  ·rw[List.map_map,List.map_map];rfl
  ·obtain⟨x,hx,rfl⟩:=List.mem_map.mp hu
   simp -implicitDefEqProofs [hg1 x ((rowN_sub M r).subset hx)]
 have hx:=ixN_nat (n:=2^M.length) hr
 have hset:=tab_set (n:=M.length) (t:=t) hr
 simp only[Nat.pow_zero,Nat.one_mul] at hs
 have hI:intsT (List.map (T.int∘g) (rowN M r))=some ((rowN M r).map g):=by rw[←List.map_map];exact intsT_map _
 simp -implicitDefEqProofs [st,hl,hc,hI,hs,tab_len,hx]
 rw[←hset,List.map_set]
theorem dSeq_nx{d e:DS}{τ τ':Env2}(h:d τ=some (.nx τ')):dSeq d e τ=e τ':=by rw[dSeq_ap,h];rfl
theorem mem_take_succ{R:List Nat}{j r:Nat}(h:R[j]? =some r)(d:Nat):decide (d∈R.take (j+1))=(decide (d=r)||decide (d∈R.take j)):=by
 rw[List.take_succ,h,Option.toList_some,←Bool.decide_or,decide_eq_decide,List.mem_append,List.mem_singleton,or_comm]
theorem sets{M:List Int}(nd:M.Nodup)(h6:M.length≤12){R:List Nat}(hR: ∀r∈R,r<2^M.length):
  sp_sets_that_hold_a_list [.lst ((R.map (rowN M)).map rowT),rowT M,.lst ((bitsL 0 M.length).map T.int)]=some (.lst (tab M.length (closB M.length λc=>decide (c∈R)))):=by
 have h4096:2^M.length≤4096:=(Nat.pow_le_pow_right (by decide) h6:2^M.length≤2^12)
 have hp:0<2^M.length:=Nat.two_pow_pos _
 have hdz:Kx.dzT (rowT M) (.lst ((bitsL 0 M.length).map T.int))=some (.dic (bo 0 M)):=by
  show(Kx.toKeys (M.map T.int)).bind _=_
  rw[Kx.toKeys_ints,Option.bind_some,if_pos ⟨List.pairwise_map.mpr (nd.imp λh e=>h (Sum.inl.inj e)),by simp[bits_len]⟩]
  rfl
 have hsum:=sum_bits M.length h6
 have hI:(((2^M.length - 1:Nat):Int)+1)=((2^M.length:Nat):Int):=by omega
 have hl2:((2^M.length:Nat):Int)≤1000000000:=by omega
 have hl3:(2^M.length:Nat)≤10000000:=by omega
 rw[at_sets_that_hold_a_list]
 have e1:D_sets_that_hold_a_list [some (.val (.lst ((R.map (rowN M)).map rowT))),some (.val (rowT M)),some (.val (.lst ((bitsL 0 M.length).map T.int))),none,none,none,none,none]=
   D_sets_that_hold_a_list_2 [some (.val (.lst ((R.map (rowN M)).map rowT))),some (.val (rowT M)),some (.val (.lst ((bitsL 0 M.length).map T.int))),some (.val (.dic (bo 0 M))),none,none,none,none]:=by
  refine dSeq_nx ?_
  generalize hBT:T.lst ((bitsL 0 M.length).map T.int)=BT at hdz
  simp -implicitDefEqProofs [hdz]
 have e2:D_sets_that_hold_a_list_2 [some (.val (.lst ((R.map (rowN M)).map rowT))),some (.val (rowT M)),some (.val (.lst ((bitsL 0 M.length).map T.int))),some (.val (.dic (bo 0 M))),none,none,none,none]=
   D_sets_that_hold_a_list_3 (st (.lst ((R.map (rowN M)).map rowT)) (rowT M) (.lst ((bitsL 0 M.length).map T.int)) (.dic (bo 0 M)) M.length (λ_=>false) none none none):=by
  refine dSeq_nx ?_
  have hcm: ∀ε:Ev,dComp (.one 0) dYes (dC (.bl false)) ε (rngT 0 (2^M.length))=some (tab M.length λ_=>false):=λε=>by
   rw[comp_map (φ:=λ_=>.bl false) _ λu hu=>rfl]
   unfold rngT tab
   rw[List.map_map]
   rfl
  generalize hBT:T.lst ((bitsL 0 M.length).map T.int)=BT at hsum
  generalize hq:2^M.length - 1=q at hsum hI
  generalize hq2:2^M.length=q2 at hI hl2 hl3 hcm
  simp -implicitDefEqProofs [hsum,hI,hl2,hl3,hcm,rngT_length,st,-sumT]
 have e3: ∃o5,D_sets_that_hold_a_list_3 (st (.lst ((R.map (rowN M)).map rowT)) (rowT M) (.lst ((bitsL 0 M.length).map T.int)) (.dic (bo 0 M)) M.length (λ_=>false) none none none)=
   D_sets_that_hold_a_list_4 (st (.lst ((R.map (rowN M)).map rowT)) (rowT M) (.lst ((bitsL 0 M.length).map T.int)) (.dic (bo 0 M)) M.length (λc=>decide (c∈R)) o5 none none):=by
  obtain⟨τ',e,o5,rfl⟩:=loop_inv (g:=.one 5) (body:=dPut 4 [false,false,false,true,false,true] (dC (.bl true)) (dCall sumT (dAc (dL (dLC [none,some 3] (.one 0) (dIt (dV 5)) dYes (d2 L2.getD (dV 1) (dV 0)))) dA0)))
   (λj τ=> ∃o5,τ=st (.lst ((R.map (rowN M)).map rowT)) (rowT M) (.lst ((bitsL 0 M.length).map T.int)) (.dic (bo 0 M)) M.length (λc=>decide (c∈R.take j)) o5 none none) ((R.map (rowN M)).map rowT) 0
   (st (.lst ((R.map (rowN M)).map rowT)) (rowT M) (.lst ((bitsL 0 M.length).map T.int)) (.dic (bo 0 M)) M.length (λ_=>false) none none none) ⟨none,by simp⟩ (by
    rintro j u τ ht ⟨o,rfl⟩
    rw[List.map_map,List.getElem?_map] at ht
    obtain⟨r,hr,rfl⟩:=Option.map_eq_some_iff.mp ht
    refine⟨_,_,rfl,.inl (holds_row nd h6 (hR r (List.mem_of_getElem? hr)) _ _ _ none none),some (.val (rowT (rowN M r))),?_⟩
    simp only[Nat.zero_add]
    rw[show(λc=>decide (c∈R.take (j+1)))=λd=>decide (d=r)||decide (d∈R.take j) from funext λd=>mem_take_succ hr d])
  refine⟨o5,dSeq_nx ?_⟩
  simp only[Nat.zero_add,List.length_map,List.take_length] at e
  exact e
 obtain⟨o5,e3⟩:=e3
 have e4: ∃o6 o7,D_sets_that_hold_a_list_4 (st (.lst ((R.map (rowN M)).map rowT)) (rowT M) (.lst ((bitsL 0 M.length).map T.int)) (.dic (bo 0 M)) M.length (λc=>decide (c∈R)) o5 none none)=
   D_sets_that_hold_a_list_5 (st (.lst ((R.map (rowN M)).map rowT)) (rowT M) (.lst ((bitsL 0 M.length).map T.int)) (.dic (bo 0 M)) M.length (closB M.length λc=>decide (c∈R)) o5 o6 o7):=by
  obtain⟨τ',e,o6,o7,rfl⟩:=loop_inv (g:=.one 6) (body:=D_sets_that_hold_a_list_B1)
   (λj τ=> ∃o6 o7,τ=st (.lst ((R.map (rowN M)).map rowT)) (rowT M) (.lst ((bitsL 0 M.length).map T.int)) (.dic (bo 0 M)) M.length (closB j λc=>decide (c∈R)) o5 o6 o7) ((bitsL 0 M.length).map T.int) 0
   (st (.lst ((R.map (rowN M)).map rowT)) (rowT M) (.lst ((bitsL 0 M.length).map T.int)) (.dic (bo 0 M)) M.length (λc=>decide (c∈R)) o5 none none) ⟨none,none,rfl⟩ (by
    rintro j u τ ht ⟨o6,o7,rfl⟩
    rw[List.getElem?_map] at ht
    obtain⟨x,hx,rfl⟩:=Option.map_eq_some_iff.mp ht
    obtain⟨hj,rfl⟩:=bits_at hx
    simp only[Nat.zero_add]
    obtain⟨o7',e⟩:=b1 (FT:=.lst ((R.map (rowN M)).map rowT)) (MT:=rowT M) (BT:=.lst ((bitsL 0 M.length).map T.int)) (DT:=.dic (bo 0 M)) (o5:=o5) (o7:=o7) h6 hj (closB j λc=>decide (c∈R))
    exact⟨_,_,rfl,.inl e,_,o7',by rw[closB_succ]⟩)
  refine⟨o6,o7,dSeq_nx ?_⟩
  simp only[Nat.zero_add,List.length_map,bits_len] at e
  exact e
 obtain⟨o6,o7,e4⟩:=e4
 unfold runs
 rw[e1,e2,e3,e4]
 simp -implicitDefEqProofs [D_sets_that_hold_a_list_5,st]
end K23
set_option linter.all false
set_option maxRecDepth 100000
namespace K23
open PySem L2
theorem zip_cons(x y:T)(ts us:List T):zipT (x::ts) (y::us)=.tup [x,y]::zipT ts us:=rfl
theorem bitsL_succ(s n:Nat):bitsL s (n+1)=((2^s:Nat):Int)::bitsL (s+1) n:=by
 unfold bitsL
 rw[List.range'_succ]
 rfl
theorem comp_row{c:Nat}(hc:c<4096): ∀(M:List Int) (s:Nat),s+M.length≤12→
  dComp (.many [0,1]) (dTru (d2 (iop (λ_ _=>true) Builtin.bitAnd) (dV 2) (dV 1))) (dV 0) [none,none,some (.int c)] (zipT (M.map T.int) ((bitsL s M.length).map T.int))=some ((rowN M (c/2^s)).map T.int)
 |[],s,_=>by unfold dComp;rfl
 |x::M,s,h=>by
  rw[List.length_cons] at h
  have ih:=comp_row hc M (s+1) (by omega)
  rw[List.length_cons,bitsL_succ,List.map_cons,List.map_cons,zip_cons]
  have hb:=band_bit (a:=c) (i:=s)
  rw[Nat.testBit_eq_decide_div_mod_eq] at hb
  rw[show rowN (x::M) (c/2^s)=if c/2^s %2=1 then x::rowN M (c/2^s/2) else rowN M (c/2^s/2) by rw[rowN]]
  rw[Nat.div_div_eq_div_mul,←Nat.pow_succ]
  unfold dComp
  generalize hz:zipT (M.map T.int) ((bitsL (s+1) M.length).map T.int)=zz at ih⊢
  by_cases ho:c/2^s %2=1
  ·rw[decide_eq_true ho] at hb
   rw[if_pos ho]
   generalize 2^s=p at hb⊢
   simp -implicitDefEqProofs [asgs] at hb⊢
   simp -implicitDefEqProofs [hb,ih]
  ·rw[decide_eq_false ho] at hb
   rw[if_neg ho]
   generalize 2^s=p at hb⊢
   simp -implicitDefEqProofs [asgs] at hb⊢
   simp -implicitDefEqProofs [hb,ih]
theorem zip_len(s:Nat)(M:List Int):(zipT (M.map T.int) ((bitsL s M.length).map T.int)).length=M.length:=by
 unfold zipT
 simp[bits_len]
theorem sub_aux{P p c:Nat}(h1:c<P)(h2:p≤c):((P - 1:Nat):Int) - (c:Int)+(p:Int)=((P - 1 - (c - p):Nat):Int):=by omega
theorem sub_aux2{P c:Nat}(h1:c<P):((P - 1:Nat):Int) - (c:Int)=((P - 1 - c:Nat):Int):=by omega
theorem isleast{n c:Nat}(hn:n≤12)(hc:c<2^n)(t:Nat→Bool):
  sp_is_least [.int c,.int ((2^n - 1:Nat):Int),.lst ((bitsL 0 n).map T.int),.lst (tab n t)]=some (.bl ((List.range n).all λi=> !c.testBit i||t (2^n - 1 - (c - 2^i)))):=by
 have h4096:2^n≤4096:=(Nat.pow_le_pow_right (by decide) hn:2^n≤2^12)
 rw[at_is_least]
 have key: ∃o,dFor [false,false,true] (dIt (dV 2)) (.one 4) D_is_least_B1 [some (.val (.int c)),some (.val (.int ((2^n - 1:Nat):Int))),some (.val (.lst ((bitsL 0 n).map T.int))),some (.val (.lst (tab n t))),none]=some o∧
   ((∃τ,o=.rt (.bl false) τ∧((List.range n).all λi=> !c.testBit i||t (2^n - 1 - (c - 2^i)))=false)∨∃τ,o=.nx τ∧((List.range n).all λi=> !c.testBit i||t (2^n - 1 - (c - 2^i)))=true):=by
  refine loop_find (λj τ=>(∃o4,τ=[some (.val (.int c)),some (.val (.int ((2^n - 1:Nat):Int))),some (.val (.lst ((bitsL 0 n).map T.int))),some (.val (.lst (tab n t))),o4])∧∀i,i<j→(!c.testBit i||t (2^n - 1 - (c - 2^i)))=true)
   (λo=>(∃τ,o=.rt (.bl false) τ∧((List.range n).all λi=> !c.testBit i||t (2^n - 1 - (c - 2^i)))=false)∨∃τ,o=.nx τ∧((List.range n).all λi=> !c.testBit i||t (2^n - 1 - (c - 2^i)))=true) ((bitsL 0 n).map T.int) 0 _ ⟨⟨none,rfl⟩,λi h=>absurd h (Nat.not_lt_zero i)⟩ ?_ ?_
  ·rintro j u τ ht ⟨⟨o4,rfl⟩,hall⟩
   rw[List.getElem?_map] at ht
   obtain⟨x,hx,rfl⟩:=Option.map_eq_some_iff.mp ht
   obtain⟨hj,rfl⟩:=bits_at hx
   simp only[Nat.zero_add] at hall⊢
   refine⟨_,rfl,?_⟩
   have hb:=band_bit (a:=c) (i:=j)
   cases hcb:c.testBit j with
   |false=>
    rw[hcb] at hb
    refine .inl ⟨[some (.val (.int c)),some (.val (.int ((2^n - 1:Nat):Int))),some (.val (.lst ((bitsL 0 n).map T.int))),some (.val (.lst (tab n t))),some (.val (.int ((2^j:Nat):Int)))],.inl ?_,⟨_,rfl⟩,λi hi=> ?_⟩
    ·generalize 2^j=p at hb⊢
     generalize 2^n - 1=q
     simp -implicitDefEqProofs [D_is_least_B1] at hb⊢
     simp -implicitDefEqProofs [hb]
    ·by_cases e:i=j
     ·subst e;rw[hcb];rfl
     ·exact hall i (by omega)
   |true=>
    rw[hcb] at hb
    have hge:=tb_ge hcb
    have hi:((2^n - 1:Nat):Int) - (c:Int)+((2^j:Nat):Int)=((2^n - 1 - (c - 2^j):Nat):Int):=sub_aux hc hge
    have ha:=tab_atI (n:=n) (t:=t) (c:=2^n - 1 - (c - 2^j)) (by omega)
    cases hu:t (2^n - 1 - (c - 2^j)) with
    |true=>
     rw[hu] at ha
     refine .inl ⟨[some (.val (.int c)),some (.val (.int ((2^n - 1:Nat):Int))),some (.val (.lst ((bitsL 0 n).map T.int))),some (.val (.lst (tab n t))),some (.val (.int ((2^j:Nat):Int)))],.inl ?_,⟨_,rfl⟩,λi hi=> ?_⟩
     ·generalize 2^j=p at hb hi ha⊢
      generalize 2^n - 1=q at hi ha⊢
      simp -implicitDefEqProofs [D_is_least_B1] at hb⊢
      simp -implicitDefEqProofs [hb,hi,ha]
     ·by_cases e:i=j
      ·subst e;rw[hu,Bool.or_true]
      ·exact hall i (by omega)
    |false=>
     rw[hu] at ha
     refine .inr (.inl ⟨.bl false,[some (.val (.int c)),some (.val (.int ((2^n - 1:Nat):Int))),some (.val (.lst ((bitsL 0 n).map T.int))),some (.val (.lst (tab n t))),some (.val (.int ((2^j:Nat):Int)))],?_,.inl ⟨_,rfl,?_⟩⟩)
     ·generalize 2^j=p at hb hi ha⊢
      generalize 2^n - 1=q at hi ha⊢
      simp -implicitDefEqProofs [D_is_least_B1] at hb⊢
      simp -implicitDefEqProofs [hb,hi,ha]
     ·rw[List.all_eq_false]
      exact⟨j,List.mem_range.mpr hj,by rw[hcb,hu];decide⟩
  ·rintro τ ⟨_,hall⟩
   refine .inr ⟨τ,rfl,List.all_eq_true.mpr λi hi=>hall i ?_⟩
   rw[List.length_map,bits_len,Nat.zero_add]
   exact List.mem_range.mp hi
 obtain⟨o,e,h⟩:=key
 unfold runs D_is_least
 rw[dSeq_ap,e]
 rcases h with⟨τ,rfl,h⟩|⟨τ,rfl,h⟩
 ·rw[h];rfl
 ·rw[h];rfl
end K23
set_option linter.all false
set_option maxRecDepth 100000
namespace K23
open PySem L2
noncomputable def sortR(L:List (List Int)):List T:=(Kx.ksort (L.map λρ=>(ρ,rowT ρ))).map (·.2)
theorem keys_rows{g:List T→Option T}(hg: ∀ρ:List Int,g [rowT ρ]=some (Kx.keyT ρ)): ∀L:List (List Int),Kx.keysT g (L.map rowT)=some L
 |[]=>rfl
 |ρ::L=>by
  rw[List.map_cons]
  unfold Kx.keysT
  rw[hg ρ,Option.bind_some,Kx.keyOf_at,Option.bind_some,keys_rows hg L]
  rfl
theorem zip_rows: ∀L:List (List Int),L.zip (L.map rowT)=L.map λρ=>(ρ,rowT ρ)
 |[]=>rfl
 |ρ::L=>by rw[List.map_cons,List.zip_cons_cons,zip_rows L];rfl
theorem sort_rows{g:List T→Option T}(hg: ∀ρ:List Int,g [rowT ρ]=some (Kx.keyT ρ)){L:List (List Int)}(hl:L.length<5000)(nd:L.Nodup):Kx.sortKF g [.lst (L.map rowT)]=some (sortR L):=by
 show(Kx.keysT g (L.map rowT)).bind _=_
 rw[keys_rows hg,Option.bind_some,if_pos ⟨by simpa using hl,nd⟩,zip_rows]
 rfl
theorem by_len(ρ:List Int):sp_by_length [rowT ρ]=some (Kx.keyT ρ):=by
 simp -implicitDefEqProofs [at_by_length,D_by_length,Kx.keyT]
noncomputable def part(n:Nat)(M:List Int)(R:List Nat)(k:Nat):List (List Int):=((List.range k).filter (lsB n R)).map (rowN M)
theorem part_succ(n:Nat)(M:List Int)(R:List Nat)(k:Nat):part n M R (k+1)=if lsB n R k=true then part n M R k++[rowN M k] else part n M R k:=by
 unfold part
 rw[List.range_succ,List.filter_append,List.map_append]
 split
 ·rename_i h;simp[h]
 ·rename_i h;simp[h]
theorem part_len(n:Nat)(M:List Int)(R:List Nat)(k:Nat):(part n M R k).length≤k:=by
 unfold part
 rw[List.length_map]
 exact Nat.le_trans (List.length_filter_le _ _) (by simp)
@[reducible] noncomputable def sl(FT:T)(M:List Int)(R:List Nat)(k:Nat)(o:Option O):Env2:=
 [some (.val FT),some (.val (rowT M)),some (.val (.lst ((bitsL 0 M.length).map T.int))),some (.val (.lst (tab M.length (closB M.length λc=>decide (c∈R))))),some (.val (.int ((2^M.length - 1:Nat):Int))),some (.lst ((part M.length M R k).map (O.val∘rowT))),o]
theorem lsB_eq{n c:Nat}{R:List Nat}(hn:n≤12)(hR: ∀r∈R,r<2^n)(hc:c<2^n):((List.range n).all λi=> !c.testBit i||closB n (λc=>decide (c∈R)) (2^n - 1 - (c - 2^i)))=(List.range n).all λi=> !c.testBit i|| !mtB n R (c - 2^i):=by
 congr 1
 funext i
 rw[missed_at hn hR (Nat.lt_of_le_of_lt (Nat.sub_le _ _) hc)]
theorem cover_step{M:List Int}(h6:M.length≤12){R:List Nat}(hR: ∀r∈R,r<2^M.length){k:Nat}(hk:k<2^M.length)(FT:T):
  D_least_covers_B1 (sl FT M R k (some (.val (.int (k:Int)))))=some (.nx (sl FT M R (k+1) (some (.val (.int (k:Int)))))):=by
 have h64:2^M.length≤4096:=(Nat.pow_le_pow_right (by decide) h6:2^M.length≤2^12)
 have hm:=missed_at h6 hR hk
 have hi:=sub_aux2 hk
 have ha:=tab_atI (n:=M.length) (t:=closB M.length λc=>decide (c∈R)) (c:=2^M.length - 1 - k) (by omega)
 rw[hm] at ha
 have hl:=isleast h6 hk (closB M.length λc=>decide (c∈R))
 rw[lsB_eq h6 hR hk] at hl
 have hpl:(part M.length M R k).length<10000000:=by have:=part_len M.length M R k;omega
 have hcr:=comp_row (c:=k) (by omega) M 0 (by omega)
 rw[Nat.pow_zero,Nat.div_one] at hcr
 have hz:=zip_len 0 M
 have hz':M.length≤10000000:=by omega
 have hps:=part_succ M.length M R k
 unfold lsB at hps
 unfold sl
 rw[hps]
 generalize hB:(List.range M.length).all (λi=> !k.testBit i|| !mtB M.length R (k - 2^i))=b at hl⊢
 generalize hA:mtB M.length R k=a at ha⊢
 generalize 2^M.length - 1=q at hi ha hl⊢
 generalize tab M.length (closB M.length λc=>decide (c∈R))=TT at ha hl⊢
 generalize hBT:(bitsL 0 M.length).map T.int=BT at hl hcr hz⊢
 cases a with
 |false=>
  simp -implicitDefEqProofs [D_least_covers_B1,hi,ha]
 |true=>
  cases b with
  |false=>simp -implicitDefEqProofs [D_least_covers_B1,hi,ha,hl]
  |true=>simp -implicitDefEqProofs [D_least_covers_B1,hi,ha,hl,hcr,hz,hz',hpl]
theorem covers{M:List Int}(nd:M.Nodup)(h6:M.length≤12){R:List Nat}(hR: ∀r∈R,r<2^M.length)(hlen:(R.map (rowN M)).flatten.length<1000)(hm:isort ((R.map (rowN M)).flatten.foldl addK [])=M)
  (hL:(leasts M.length M R).length<5000):
  sp_least_covers [.lst ((R.map (rowN M)).map rowT)]=some (.lst (sortR (leasts M.length M R))):=by
 have h64:2^M.length≤4096:=(Nat.pow_le_pow_right (by decide) h6:2^M.length≤2^12)
 have hp:0<2^M.length:=Nat.two_pow_pos _
 have hml:((R.map (rowN M)).flatten.foldl addK []).length<64:=by
  rw[←(isort_perm _).length_eq,hm];omega
 have hmem:=members (R.map (rowN M)) hlen hml
 rw[hm] at hmem
 have hb:=bits M.length h6
 have hs:=sets nd h6 hR
 have hsum:=sum_bits M.length h6
 rw[at_least_covers]
 have e1:D_least_covers [some (.val (.lst ((R.map (rowN M)).map rowT))),none,none,none,none,none,none]=D_least_covers_6 (sl (.lst ((R.map (rowN M)).map rowT)) M R 0 none):=by
  unfold sl part
  generalize T.lst ((R.map (rowN M)).map rowT)=FT at hmem hs⊢
  generalize T.lst (tab M.length (closB M.length λc=>decide (c∈R)))=TT at hs⊢
  generalize T.lst ((bitsL 0 M.length).map T.int)=BT at hb hs hsum⊢
  generalize 2^M.length - 1=q at hsum⊢
  unfold D_least_covers
  rw[dSeq_nx (τ':=[some (.val FT),some (.val (rowT M)),none,none,none,none,none]) (by simp -implicitDefEqProofs [hmem])]
  unfold D_least_covers_2
  rw[dSeq_nx (τ':=[some (.val FT),some (.val (rowT M)),some (.val BT),none,none,none,none]) (by simp -implicitDefEqProofs [hb])]
  unfold D_least_covers_3
  rw[dSeq_nx (τ':=[some (.val FT),some (.val (rowT M)),some (.val BT),some (.val TT),none,none,none]) (by simp -implicitDefEqProofs [hs])]
  unfold D_least_covers_4
  rw[dSeq_nx (τ':=[some (.val FT),some (.val (rowT M)),some (.val BT),some (.val TT),some (.val (.int (q:Int))),none,none]) (by simp -implicitDefEqProofs [hsum,-sumT])]
  unfold D_least_covers_5
  exact dSeq_nx (by simp -implicitDefEqProofs)
 have e2: ∃o,D_least_covers_6 (sl (.lst ((R.map (rowN M)).map rowT)) M R 0 none)=D_least_covers_7 (sl (.lst ((R.map (rowN M)).map rowT)) M R (2^M.length) o):=by
  obtain⟨τ',e,o,rfl⟩:=loop_inv (g:=.one 6) (body:=D_least_covers_B1) (λj τ=> ∃o,τ=sl (.lst ((R.map (rowN M)).map rowT)) M R j o) (rngT 0 (2^M.length)) 0 (sl (.lst ((R.map (rowN M)).map rowT)) M R 0 none) ⟨none,rfl⟩ (by
   rintro j u τ ht ⟨o,rfl⟩
   obtain⟨hj,rfl⟩:=rngT_get ht
   simp only[Int.zero_add,Nat.zero_add]
   exact⟨_,_,rfl,.inl (cover_step h6 hR hj _),_,rfl⟩)
  refine⟨o,dSeq_nx ?_⟩
  rw[rngT_length,Nat.zero_add] at e
  rw[←e]
  unfold sl
  have hI:(((2^M.length - 1:Nat):Int)+1)=((2^M.length:Nat):Int):=by omega
  have hl2:((2^M.length:Nat):Int)≤1000000000:=by omega
  generalize 2^M.length - 1=q at hI⊢
  generalize 2^M.length=q2 at hI hl2⊢
  simp -implicitDefEqProofs [hI,hl2]
 obtain⟨o,e2⟩:=e2
 have hsr:=sort_rows by_len hL (leasts_nodup nd R)
 have hpe:part M.length M R (2^M.length)=leasts M.length M R:=rfl
 unfold runs
 rw[e1,e2]
 unfold sl
 rw[hpe]
 generalize leasts M.length M R=LL at hsr⊢
 simp -implicitDefEqProofs [D_least_covers_7,hsr]
end K23
set_option linter.all false
set_option maxRecDepth 100000
namespace K23
open PySem L2
@[reducible] noncomputable def famT(fam:List (List Int)):T:=.lst (fam.map rowT)
theorem in_row(x:Int)(ρ:List Int):inT (.int x) (rowT ρ)=some (.bl (decide (x∈ρ))):=by
 rw[inT_lst,if_pos (by simp[List.all_map])]
 congr 2
 rw[List.any_map,Bool.eq_iff_iff,List.any_eq_true,decide_eq_true_eq]
 constructor
 ·rintro⟨y,hy,e⟩
  have:y=x:=by simpa using e
  exact this▸hy
 ·intro h
  exact⟨x,h,by simp⟩
theorem allB_map(p:Int→Bool): ∀(ρ:List Int),allB (ρ.map λx=>T.bl (p x))=some (ρ.map p)
 |[]=>rfl
 |x::ρ=>by rw[List.map_cons];unfold allB;rw[allB_map p ρ];rfl
noncomputable def mtF(ρ:List Int)(fam:List (List Int)):Bool:=fam.all λf=>f.any λx=>decide (x∈ρ)
theorem mtF_iff{ρ:List Int}{fam:List (List Int)}:mtF ρ fam=true↔MtR fam (· ∈ρ):=by
 unfold mtF MtR
 simp only[List.all_eq_true,List.any_eq_true,decide_eq_true_eq]
 exact forall_congr' λf=>forall_congr' λ_=>exists_congr λx=>And.comm
theorem comp_in(ρ f:List Int):dComp (.one 0) dYes (d2 inT (dV 0) (dV 1)) [none,some (rowT ρ)] (f.map T.int)=some (f.map λx=>T.bl (decide (x∈ρ))):=by
 rw[comp_map (φ:=λt=>match t with | .int x=>.bl (decide (x∈ρ))|u=>u) _ λu hu=> ?_]
 ·rw[List.map_map];rfl
 ·obtain⟨x,_,rfl⟩:=List.mem_map.mp hu
  have:=in_row x ρ
  generalize rowT ρ=RT at this⊢
  simp -implicitDefEqProofs [this]
theorem meets(ρ:List Int){fam:List (List Int)}(hf: ∀f∈fam,f.length≤12):sp__law_meets [rowT ρ,famT fam]=some (.bl (mtF ρ fam)):=by
 rw[at__law_meets]
 have key: ∃o,dFor [false,true] (dIt (dV 1)) (.one 2) D__law_meets_B1 [some (.val (rowT ρ)),some (.val (famT fam)),none]=some o∧
   ((∃τ,o=.rt (.bl false) τ∧mtF ρ fam=false)∨∃τ,o=.nx τ∧mtF ρ fam=true):=by
  refine loop_find (λj τ=>(∃o2,τ=[some (.val (rowT ρ)),some (.val (famT fam)),o2])∧mtF ρ (fam.take j)=true) (λo=>(∃τ,o=.rt (.bl false) τ∧mtF ρ fam=false)∨∃τ,o=.nx τ∧mtF ρ fam=true) (fam.map rowT) 0 _ ⟨⟨none,rfl⟩,by simp[mtF]⟩ ?_ ?_
  ·rintro j u τ ht ⟨⟨o2,rfl⟩,hall⟩
   rw[List.getElem?_map] at ht
   obtain⟨f,hr,rfl⟩:=Option.map_eq_some_iff.mp ht
   simp only[Nat.zero_add] at hall⊢
   refine⟨_,rfl,?_⟩
   have hl:f.length≤10000000:=Nat.le_trans (hf f (List.mem_of_getElem? hr)) (by decide)
   have hc:=comp_in ρ f
   have hb:=allB_map (λx=>decide (x∈ρ)) f
   have e:(f.map λx=>decide (x∈ρ)).any id=f.any λx=>decide (x∈ρ):=by rw[List.any_map];rfl
   generalize hRT:rowT ρ=RT at hc⊢
   generalize hFT:famT fam=FT at⊢
   cases ha:f.any λx=>decide (x∈ρ) with
   |true=>
    rw[ha] at e
    refine .inl ⟨[some (.val RT),some (.val FT),some (.val (rowT f))],.inl ?_,⟨_,rfl⟩,?_⟩
    ·simp -implicitDefEqProofs [D__law_meets_B1,hc,hb,hl,e]
    ·rw[List.take_succ,hr,Option.toList_some]
     unfold mtF at hall⊢
     rw[List.all_append,hall,List.all_cons,ha]
     rfl
   |false=>
    rw[ha] at e
    refine .inr (.inl ⟨.bl false,[some (.val RT),some (.val FT),some (.val (rowT f))],?_,.inl ⟨_,rfl,?_⟩⟩)
    ·simp -implicitDefEqProofs [D__law_meets_B1,hc,hb,hl,e]
    ·unfold mtF
     rw[List.all_eq_false]
     exact⟨f,List.mem_of_getElem? hr,by rw[ha];decide⟩
  ·rintro τ ⟨_,hall⟩
   refine .inr ⟨τ,rfl,?_⟩
   rw[List.length_map,Nat.zero_add,List.take_length] at hall
   exact hall
 obtain⟨o,e,h⟩:=key
 unfold runs D__law_meets
 rw[dSeq_ap,e]
 rcases h with⟨τ,rfl,h⟩|⟨τ,rfl,h⟩
 ·rw[h];rfl
 ·rw[h];rfl
noncomputable def alF(x:Int)(ρ:List Int)(fam:List (List Int)):Bool:=fam.any λf=>decide (x∈f)&&decide ((f.filter λy=>decide (y∈ρ)).length=1)
theorem comp_fil(ρ f:List Int):dComp (.one 0) (dB (d2 inT (dV 0) (dV 1))) (dV 0) [none,some (rowT ρ)] (f.map T.int)=some ((f.filter λy=>decide (y∈ρ)).map T.int):=by
 rw[comp_filter (κ:=λt=>match t with | .int x=>decide (x∈ρ)|_=>false) (φ:=id)]
 ·rw[List.map_id,List.filter_map];rfl
 ·intro u hu
  obtain⟨x,_,rfl⟩:=List.mem_map.mp hu
  have:=in_row x ρ
  generalize rowT ρ=RT at this⊢
  simp -implicitDefEqProofs [this]
 ·intro u hu _
  obtain⟨x,_,rfl⟩:=List.mem_map.mp hu
  rfl
theorem alone(x:Int)(ρ:List Int){fam:List (List Int)}(hf: ∀f∈fam,f.length≤12):sp__law_alone [.int x,rowT ρ,famT fam]=some (.bl (alF x ρ fam)):=by
 rw[at__law_alone]
 have key: ∃o,dFor [false,false,true] (dIt (dV 2)) (.one 3) D__law_alone_B1 [some (.val (.int x)),some (.val (rowT ρ)),some (.val (famT fam)),none]=some o∧
   ((∃τ,o=.rt (.bl true) τ∧alF x ρ fam=true)∨∃τ,o=.nx τ∧alF x ρ fam=false):=by
  refine loop_find (λj τ=>(∃o2,τ=[some (.val (.int x)),some (.val (rowT ρ)),some (.val (famT fam)),o2])∧alF x ρ (fam.take j)=false) (λo=>(∃τ,o=.rt (.bl true) τ∧alF x ρ fam=true)∨∃τ,o=.nx τ∧alF x ρ fam=false) (fam.map rowT) 0 _ ⟨⟨none,rfl⟩,by simp[alF]⟩ ?_ ?_
  ·rintro j u τ ht ⟨⟨o2,rfl⟩,hall⟩
   rw[List.getElem?_map] at ht
   obtain⟨f,hr,rfl⟩:=Option.map_eq_some_iff.mp ht
   simp only[Nat.zero_add] at hall⊢
   refine⟨_,rfl,?_⟩
   have hl:f.length≤10000000:=Nat.le_trans (hf f (List.mem_of_getElem? hr)) (by decide)
   have hc:=comp_fil ρ f
   have hi:=in_row x f
   have step:(decide (x∈f)&&decide ((f.filter λy=>decide (y∈ρ)).length=1))=false→alF x ρ (fam.take (j+1))=false:=λq=>by
    rw[List.take_succ,hr,Option.toList_some]
    unfold alF at hall⊢
    rw[List.any_append,hall,List.any_cons,q]
    rfl
   have yes:(decide (x∈f)&&decide ((f.filter λy=>decide (y∈ρ)).length=1))=true→alF x ρ fam=true:=λq=>List.any_eq_true.mpr ⟨f,List.mem_of_getElem? hr,q⟩
   generalize hRT:rowT ρ=RT at hc⊢
   generalize hFT:famT fam=FT at⊢
   generalize hgf:(f.filter λy=>decide (y∈ρ))=gf at hc step yes
   by_cases h1:x∈f
   ·rw[decide_eq_true h1] at hi step yes
    by_cases h2:gf.length=1
    ·have h2':(gf.length:Int)=1:=by omega
     refine .inr (.inl ⟨.bl true,[some (.val (.int x)),some (.val RT),some (.val FT),some (.val (rowT f))],?_,.inl ⟨_,rfl,yes (by simp[h2])⟩⟩)
     simp -implicitDefEqProofs [-inT_lst,D__law_alone_B1,hi,hc,hl,h2']
    ·have h2': ¬(gf.length:Int)=1:=by omega
     refine .inl ⟨[some (.val (.int x)),some (.val RT),some (.val FT),some (.val (rowT f))],.inl ?_,⟨_,rfl⟩,step (by simp[h2])⟩
     simp -implicitDefEqProofs [-inT_lst,D__law_alone_B1,hi,hc,hl,h2']
   ·rw[decide_eq_false h1] at hi step
    refine .inl ⟨[some (.val (.int x)),some (.val RT),some (.val FT),some (.val (rowT f))],.inl ?_,⟨_,rfl⟩,step rfl⟩
    simp -implicitDefEqProofs [-inT_lst,D__law_alone_B1,hi]
  ·rintro τ ⟨_,hall⟩
   refine .inr ⟨τ,rfl,?_⟩
   rw[List.length_map,Nat.zero_add,List.take_length] at hall
   exact hall
 obtain⟨o,e,h⟩:=key
 unfold runs D__law_alone
 rw[dSeq_ap,e]
 rcases h with⟨τ,rfl,h⟩|⟨τ,rfl,h⟩
 ·rw[h];rfl
 ·rw[h];rfl
end K23
set_option linter.all false
set_option maxRecDepth 100000
namespace K23
open PySem L2
theorem cover{ρ:List Int}{fam:List (List Int)}(hf: ∀f∈fam,f.length≤12)(hs:ρ.Pairwise (· < ·))(h12: ∀x∈ρ,0≤x∧x<12)(hl:ρ.length≤12)(hm:mtF ρ fam=true)(ha: ∀x∈ρ,alF x ρ fam=true):
  sp__law_cover [rowT ρ,famT fam]=some (.bl true):=by
 have hl':ρ.length≤10000000:=by omega
 have hme:=meets ρ hf
 rw[hm] at hme
 have hcm:dComp (.one 0) dYes (dCall sp__law_alone (dAc (dV 0) (dAc (dV 1) (dAc (dV 2) dA0)))) [none,some (rowT ρ),some (famT fam)] (ρ.map T.int)=some (ρ.map λ_=>T.bl true):=by
  rw[comp_map (φ:=λ_=>.bl true) _ λu hu=> ?_]
  ·rw[List.map_map];rfl
  ·obtain⟨x,hx,rfl⟩:=List.mem_map.mp hu
   have:=alone x ρ hf
   rw[ha x hx] at this
   generalize rowT ρ=RT at this⊢
   generalize famT fam=FT at this⊢
   simp -implicitDefEqProofs [this]
 have hb:=allB_map (λ_=>true) ρ
 have hbe:(ρ.map λ_=>true).all id=true:=by simp
 rw[at__law_cover,←gv_eq]
 generalize hR:(λb:T=>b=.bl true)=R
 generalize famT fam=FT at hme hcm⊢
 simp -implicitDefEqProofs [D__law_cover,D__law_cover_2]
 refine gv_loop (λj τ=> ∃o2 o3,τ=[some (.val (rowT ρ)),some (.val FT),o2,o3]) ⟨none,none,rfl⟩ ?_ ?_
 ·rintro j t τ ht ⟨o2,o3,rfl⟩
  obtain⟨u,hu,rfl⟩:=enumT_get ht
  rw[List.getElem?_map] at hu
  obtain⟨x,hx,rfl⟩:=Option.map_eq_some_iff.mp hu
  obtain⟨x0,x12⟩:=h12 x (List.mem_of_getElem? hx)
  rw[Nat.zero_add]
  refine⟨_,rfl,Gv.of (a:=.nx [some (.val (rowT ρ)),some (.val FT),some (.val (.int (j:Int))),some (.val (.int x))]) ?_ ⟨_,.inl rfl,_,_,rfl⟩⟩
  cases j with
  |zero=>simp -implicitDefEqProofs [D__law_cover_B1,D__law_cover_B1_2,x0,x12]
  |succ j=>
   obtain⟨hj,ej⟩:=List.getElem?_eq_some_iff.mp hx
   have hp:ρ[j]<x:=by rw[←ej];exact List.pairwise_iff_getElem.mp hs j (j+1) (by omega) hj (by omega)
   have hi:((j+1:Nat):Int) - 1=(j:Int):=by omega
   have hat:atI (ρ.map T.int) (j:Int)=some (.int ρ[j]):=by rw[atI_ofNat,List.getElem?_map,List.getElem?_eq_getElem (by omega)];rfl
   have hpos:(0:Int)<((j+1:Nat):Int):=by omega
   have hnp: ¬x≤ρ[j]:=by omega
   generalize ((j+1:Nat):Int)=J at hi hpos⊢
   generalize ρ[j]=y at hat hnp
   simp -implicitDefEqProofs [D__law_cover_B1,D__law_cover_B1_2,x0,x12,hi,hat,hpos,hnp]
 ·rintro τ ⟨o2,o3,rfl⟩
  refine Gv.of (a:=.bl true) ?_ (by rw[←hR])
  generalize hRT:rowT ρ=RT at hme hcm⊢
  subst hRT
  simp -implicitDefEqProofs [D__law_cover_3,hme,hcm,hl',hb,hbe]
theorem ranked{L:List (List Int)}(hs:L.Pairwise λa b=>Kx.klt a b=true)(hl:L.length≤100000):sp__law_ranked [.lst (L.map rowT)]=some (.bl true):=by
 have hl1:(L.length:Int)≤1000000000:=by omega
 have hl2: -1000000000≤(L.length:Int):=by omega
 rw[at__law_ranked,←gv_eq]
 generalize hR:(λb:T=>b=.bl true)=R
 simp -implicitDefEqProofs [D__law_ranked,hl1,hl2]
 refine gv_loop (λj τ=> ∃o,τ=[some (.val (.lst (L.map rowT))),o]) ⟨none,rfl⟩ ?_ ?_
 ·rintro j t τ ht ⟨o,rfl⟩
  obtain⟨hj,rfl⟩:=rngT_get ht
  have h1:j+1<L.length:=by omega
  refine⟨_,rfl,Gv.of (a:=.nx [some (.val (.lst (L.map rowT))),some (.val (.int (1+j)))]) ?_ ⟨_,.inl rfl,_,rfl⟩⟩
  have hk:=List.pairwise_iff_getElem.mp hs j (j+1) (by omega) h1 (by omega)
  have a1:atI (L.map rowT) (j:Int)=some (rowT L[j]):=by rw[atI_ofNat,List.getElem?_map,List.getElem?_eq_getElem (by omega)];rfl
  have a2:atI (L.map rowT) (((j+1:Nat):Int))=some (rowT L[j+1]):=by rw[atI_ofNat,List.getElem?_map,List.getElem?_eq_getElem h1];rfl
  have i1:(1+(j:Int)) - 1=(j:Int):=by omega
  rw[show((j+1:Nat):Int)=1+(j:Int) by omega] at a2
  have hg:=Kx.geK_at L[j] L[j+1]
  rw[hk] at hg
  unfold Kx.keyT at hg
  generalize L[j]=x at a1 hg
  generalize L[j+1]=y at a2 hg
  generalize L.map rowT=LT at a1 a2⊢
  generalize (1+(j:Int))=J at a2 i1⊢
  simp -implicitDefEqProofs [D__law_ranked_B1,i1,a1,a2]
  simp -implicitDefEqProofs [hg]
 ·rintro τ ⟨o,rfl⟩
  refine Gv.of (a:=.bl true) ?_ (by rw[←hR])
  simp -implicitDefEqProofs [D__law_ranked_2]
theorem order(d:Int): ∃o:List Int,sp__law_order [.int d]=some (rowT o)∧∀x:Int,0≤x→x<12→x∈o:=by
 suffices h:Gv (sp__law_order [.int d]) λt=> ∃o:List Int,t=rowT o∧∀x:Int,0≤x→x<12→x∈o by
  obtain⟨t,e,o,rfl,q⟩:=h
  exact⟨o,e,q⟩
 rw[at__law_order]
 generalize hR:(λt:T=> ∃o:List Int,t=rowT o∧∀x:Int,0≤x→x<12→x∈o)=R
 simp -implicitDefEqProofs [D__law_order,D__law_order_2]
 refine gv_loop (λj τ=> ∃(d:Int) (os:List Int) (o:Option O),τ=[some (.val (.int d)),some (.lst (os.map (O.val∘T.int))),o]∧os.length=j∧∀x:Int,0≤x→x<j→x∈os) ⟨d,[],none,rfl,rfl,λx h1 h2=>by omega⟩ ?_ ?_
 ·rintro j t τ ht ⟨d,os,o,rfl,hl,hm⟩
  obtain⟨hj,rfl⟩:=rngT_get ht
  simp only[Int.zero_add]
  refine⟨_,rfl,Gv.of (a:=.nx [some (.val (.int (d/((j:Int)+1)))),some (.lst ((insAt os (d %((j:Int)+1)) (j:Int)).map (O.val∘T.int))),some (.val (.int (j:Int)))]) ?_ ⟨_,.inl rfl,_,_,_,rfl,?_,λx h1 h2=> ?_⟩⟩
  ·have q1:(0:Int)<(j:Int)+1:=by omega
   have q2:(j:Int)+1≠0:=by omega
   have q3:dvOk ((j:Int)+1)=true:=dvOk_pos q1 (by omega)
   have m1: -1000000≤d %((j:Int)+1):=by have:=Int.emod_nonneg d q2;omega
   have m2:d %((j:Int)+1)≤1000000:=by have:=Int.emod_lt_of_pos d q1;omega
   have hos:os.length<10000000:=by omega
   have hin:=insAt_map (O.val∘T.int) os (d %((j:Int)+1)) (j:Int)
   have e1:fmd d ((j:Int)+1)=d %((j:Int)+1):=fmd_pos' q1
   have e2:fdv d ((j:Int)+1)=d/((j:Int)+1):=fdv_pos' q1
   simp -implicitDefEqProofs [D__law_order_B1,D__law_order_B1_2,q1,q2,q3,m1,m2,hos]
   simpa using hin
  ·rw[insAt_length,hl]
  ·rw[(insAt_perm os _ _).mem_iff,List.mem_cons]
   by_cases e:x=j
   ·exact .inl e
   ·exact .inr (hm x h1 (by omega))
 ·rintro τ ⟨d,os,o,rfl,hl,hm⟩
  refine Gv.of (a:=rowT os) ?_ (by rw[←hR];exact⟨os,rfl,λx h1 h2=>hm x h1 (by rw[rngT_length];exact h2)⟩)
  simp -implicitDefEqProofs [D__law_order_3]
noncomputable def lsF(fam:List (List Int))(ms:List Int)(x:Int):List Int:=if mtF (ms.filter λy=>decide (y≠x)) fam=true then ms.filter λy=>decide (y≠x) else ms
noncomputable def ini:List Int:=(List.range 12).map λi:Nat=>(i:Int)
theorem lsF_len(fam:List (List Int))(ms:List Int)(x:Int):(lsF fam ms x).length≤ms.length:=by
 unfold lsF
 split
 ·exact List.length_filter_le _ _
 ·exact Nat.le_refl _
theorem foldF_len(fam:List (List Int)): ∀(o ms:List Int),(o.foldl (lsF fam) ms).length≤ms.length
 |[],_=>Nat.le_refl _
 |x::o,ms=>by rw[List.foldl_cons];exact Nat.le_trans (foldF_len fam o _) (lsF_len fam ms x)
theorem comp_ne(ms:List Int)(x:Int):dComp (.one 0) (dB (d2 neT (dV 0) (dV 1))) (dV 0) [none,some (.int x)] (ms.map T.int)=some ((ms.filter λy=>decide (y≠x)).map T.int):=by
 rw[comp_filter (κ:=λt=>match t with | .int y=>decide (y≠x)|_=>false) (φ:=id)]
 ·rw[List.map_id,List.filter_map];rfl
 ·intro u hu
  obtain⟨y,_,rfl⟩:=List.mem_map.mp hu
  by_cases h:y=x
  ·subst h;simp -implicitDefEqProofs
  ·simp -implicitDefEqProofs [h]
 ·intro u hu _
  obtain⟨y,_,rfl⟩:=List.mem_map.mp hu
  rfl
theorem ini_T:rngT 0 12=ini.map T.int:=by kernel_rfl
theorem lessened{o:List Int}{fam:List (List Int)}(hf: ∀f∈fam,f.length≤12):sp__law_lessened [rowT o,famT fam]=some (rowT (o.foldl (lsF fam) ini)):=by
 rw[at__law_lessened,←gv_eq]
 generalize hR:(λb:T=>b=rowT (o.foldl (lsF fam) ini))=R
 have hme: ∀ρ:List Int,sp__law_meets [rowT ρ,famT fam]=some (.bl (mtF ρ fam)):=λρ=>meets ρ hf
 generalize famT fam=FT at hme⊢
 have e0:(Kx.dLRng (dC (.int 12))) []=some (ini.map T.int):=by rw[←ini_T];rfl
 simp -implicitDefEqProofs [D__law_lessened,D__law_lessened_2,e0]
 refine gv_loop (λj τ=> ∃o3 o4,τ=[some (.val (rowT o)),some (.val FT),some (.val (rowT ((o.take j).foldl (lsF fam) ini))),o3,o4]) ⟨none,none,rfl⟩ ?_ ?_
 ·rintro j t τ ht ⟨o3,o4,rfl⟩
  rw[List.getElem?_map] at ht
  obtain⟨x,hx,rfl⟩:=Option.map_eq_some_iff.mp ht
  refine⟨_,rfl,?_⟩
  rw[take_snoc hx,List.foldl_append,List.foldl_cons,List.foldl_nil]
  have hl:=foldF_len fam (o.take j) ini
  generalize (o.take j).foldl (lsF fam) ini=ms at hl⊢
  have hl':ms.length≤10000000:=Nat.le_trans hl (by decide)
  have hc:=comp_ne ms x
  have hq:=hme (ms.filter λy=>decide (y≠x))
  refine Gv.of (a:=.nx [some (.val (rowT o)),some (.val FT),some (.val (rowT (lsF fam ms x))),some (.val (.int x)),some (.val (rowT (ms.filter λy=>decide (y≠x))))]) ?_ ⟨_,.inl rfl,_,_,rfl⟩
  unfold lsF D__law_lessened_B1
  generalize (ms.filter λy=>decide (y≠x))=fw at hc hq⊢
  generalize rowT o=OT at⊢
  rw[dSeq_nx (τ':=[some (.val OT),some (.val FT),some (.val (rowT ms)),some (.val (.int x)),some (.val (rowT fw))]) (by simp -implicitDefEqProofs [hc,hl'])]
  unfold D__law_lessened_B1_2
  cases hb:mtF fw fam with
  |true=>
   rw[hb] at hq
   simp -implicitDefEqProofs [hq]
  |false=>
   rw[hb] at hq
   simp -implicitDefEqProofs [hq]
 ·rintro τ ⟨o3,o4,rfl⟩
  rw[List.length_map,List.take_length]
  refine Gv.of (a:=rowT (o.foldl (lsF fam) ini)) ?_ (by rw[←hR])
  simp -implicitDefEqProofs [D__law_lessened_3]
theorem lsF_sub(fam:List (List Int))(ms:List Int)(x:Int):(lsF fam ms x).Sublist ms:=by
 unfold lsF
 split
 ·exact List.filter_sublist
 ·exact List.Sublist.refl _
theorem foldF_sub(fam:List (List Int)): ∀(o ms:List Int),(o.foldl (lsF fam) ms).Sublist ms
 |[],_=>List.Sublist.refl _
 |x::o,ms=>by rw[List.foldl_cons];exact(foldF_sub fam o _).trans (lsF_sub fam ms x)
theorem foldF_meets(fam:List (List Int)): ∀(o ms:List Int),mtF ms fam=true→mtF (o.foldl (lsF fam) ms) fam=true
 |[],_,h=>h
 |x::o,ms,h=>by
  rw[List.foldl_cons]
  refine foldF_meets fam o _ ?_
  unfold lsF
  split
  ·assumption
  ·exact h
theorem foldF_least(fam:List (List Int)): ∀(o ms:List Int) (x:Int),x∈o→x∈o.foldl (lsF fam) ms→¬MtR fam λy=>y∈o.foldl (lsF fam) ms∧y≠x
 |[],_,_,h,_=>by cases h
 |z::o,ms,x,h,hx=>by
  rw[List.foldl_cons] at hx⊢
  by_cases hxo:x∈o
  ·exact foldF_least fam o _ x hxo hx
  ·have e:z=x:=by
    rcases List.mem_cons.mp h with q|q
    ·exact q.symm
    ·exact absurd q hxo
   subst e
   intro hm
   have hs:=foldF_sub fam o (lsF fam ms z)
   have hz:=hs.subset hx
   have hno: ¬mtF (ms.filter λy=>decide (y≠z)) fam=true:=λq=>by
    unfold lsF at hz
    rw[if_pos q,List.mem_filter] at hz
    simp at hz
   refine hno (mtF_iff.mpr λf hf=> ?_)
   obtain⟨y,⟨h1,h2⟩,h3⟩:=hm f hf
   have:=hs.subset h1
   unfold lsF at this
   rw[if_neg hno] at this
   exact⟨y,List.mem_filter.mpr ⟨this,by simpa using h2⟩,h3⟩
end K23
set_option linter.all false
set_option maxRecDepth 100000
namespace K23
open PySem L2
theorem asc_sub: ∀{M ρ:List Int},M.Pairwise (· < ·)→ρ.Pairwise (· < ·)→(∀x∈ρ,x∈M)→ρ.Sublist M
 |[],[],_,_,_=>.slnil
 |[],x::ρ,_,_,h=>by cases h x (.head _)
 |y::M,[],_,_,_=>List.nil_sublist _
 |y::M,x::ρ,hM,hρ,h=>by
  rw[List.pairwise_cons] at hM hρ
  rcases List.mem_cons.mp (h x (.head _)) with e|e
  ·subst e
   refine(asc_sub hM.2 hρ.2 λz hz=> ?_).cons_cons x
   rcases List.mem_cons.mp (h z (.tail _ hz)) with e|e
   ·have:=hρ.1 z hz;omega
   ·exact e
  ·refine(asc_sub hM.2 (List.pairwise_cons.mpr hρ) λz hz=> ?_).cons y
   rcases List.mem_cons.mp (h z hz) with q|q
   ·have h1:=hM.1 x e
    rcases List.mem_cons.mp hz with r|r
    ·omega
    ·have:=hρ.1 z r;omega
   ·exact q
theorem lt_of{l:List Int}(h:l.Pairwise (· ≤ ·))(nd:l.Nodup):l.Pairwise (· < ·):=by
 refine List.Pairwise.imp₂ (λa b h1 h2=> ?_) h nd
 omega
noncomputable def lstF(d:Int):List Int:=isort (Si.dd [d %12,d/12 %12,d/144 %12])
theorem lst_law(d:Int):sp__law_list [.int d]=some (rowT (lstF d)):=by
 have hI:=intsT_map [d %12,d/12 %12,d/144 %12]
 simp only[List.map_cons,List.map_nil] at hI
 unfold lstF
 generalize ha:d %12=a at hI⊢
 generalize hb:d/12 %12=b at hI⊢
 generalize hc:d/144 %12=c at hI⊢
 simp -implicitDefEqProofs [at__law_list,D__law_list,ha,hb,hc,hI]
theorem lstF_mem{d x:Int}:x∈lstF d↔x=d %12∨x=d/12 %12∨x=d/144 %12:=by
 unfold lstF
 rw[(isort_perm _).mem_iff,Si.dd_mem]
 simp
theorem lstF_asc(d:Int):(lstF d).Pairwise (· < ·):=lt_of (isort_sorted _) ((isort_perm _).symm.nodup Si.dd_nodup)
theorem lstF_in{d x:Int}(h:x∈lstF d):0≤x∧x<12:=by
 rcases lstF_mem.mp h with rfl|rfl|rfl<;>omega
structure FamOk(fam:List (List Int)):Prop where
 asc: ∀f∈fam,f.Pairwise (· < ·)
 inn: ∀f∈fam,∀x∈f,0≤x∧x<12
 ne: ∀f∈fam,∃x,x∈f
 few:fam.length≤6
theorem ini_asc:ini.Pairwise (· < ·):=by decide
theorem mem_ini{x:Int}:x∈ini↔0≤x∧x<12:=by
 unfold ini
 rw[List.mem_map]
 constructor
 ·rintro⟨i,hi,rfl⟩
  rw[List.mem_range] at hi
  omega
 ·rintro⟨h1,h2⟩
  exact⟨x.toNat,List.mem_range.mpr (by omega),by omega⟩
theorem len12{ρ:List Int}(h:ρ.Pairwise (· < ·))(hi: ∀x∈ρ,0≤x∧x<12):ρ.length≤12:=(asc_sub ini_asc h λx hx=>mem_ini.mpr (hi x hx)).length_le
theorem FamOk.len{fam:List (List Int)}(h:FamOk fam): ∀f∈fam,f.length≤12:=λf hf=>len12 (h.asc f hf) (h.inn f hf)
theorem flat_len: ∀{fam:List (List Int)},(∀f∈fam,f.length≤12)→fam.flatten.length≤12*fam.length
 |[],_=>by simp
 |f::fam,h=>by
  rw[List.flatten_cons,List.length_append,List.length_cons]
  have:=flat_len (fam:=fam) λg hg=>h g (.tail _ hg)
  have:=h f (.head _)
  omega
theorem exists_R{M:List Int}: ∀fam:List (List Int),(∀f∈fam,f.Sublist M)→∃R:List Nat,R.map (rowN M)=fam∧∀r∈R,r<2^M.length
 |[],_=>⟨[],rfl,λr h=>by cases h⟩
 |f::fam,h=>by
  obtain⟨R,h1,h2⟩:=exists_R fam λg hg=>h g (.tail _ hg)
  obtain⟨c,h3,h4⟩:=rowN_surj (h f (.head _))
  refine⟨c::R,by rw[List.map_cons,h1,h4],λr hr=> ?_⟩
  rcases List.mem_cons.mp hr with rfl|hr
  ·exact h3
  ·exact h2 r hr
noncomputable def mem(fam:List (List Int)):List Int:=isort (fam.flatten.foldl addK [])
theorem mem_mem{fam:List (List Int)}{x:Int}:x∈mem fam↔∃f∈fam,x∈f:=by
 unfold mem
 rw[(isort_perm _).mem_iff,mem_fold,List.mem_flatten]
 simp
theorem mem_asc(fam:List (List Int)):(mem fam).Pairwise (· < ·):=lt_of (isort_sorted _) ((isort_perm _).symm.nodup (fold_nd List.nodup_nil))
theorem found{fam:List (List Int)}(h:FamOk fam): ∃L:List (List Int),sp_least_covers [famT fam]=some (.lst (L.map rowT))∧(L.Pairwise λa b=>Kx.klt a b=true)∧L.length≤4096∧∀ρ,ρ∈L↔ρ.Sublist (mem fam)∧LsR fam ρ:=by
 have hl:=h.len
 have fl:=flat_len hl
 have hasc:=mem_asc fam
 have nd:(mem fam).Nodup:=hasc.imp λh=>Int.ne_of_lt h
 have h12:(mem fam).length≤12:=len12 hasc λx hx=>by
  obtain⟨f,hf,hxf⟩:=mem_mem.mp hx
  exact h.inn f hf x hxf
 obtain⟨R,hR1,hR2⟩:=exists_R fam λf hf=>asc_sub hasc (h.asc f hf) λx hx=>mem_mem.mpr ⟨f,hf,hx⟩
 have hL:(leasts (mem fam).length (mem fam) R).length≤4096:=by
  unfold leasts
  rw[List.length_map]
  refine Nat.le_trans (List.length_filter_le _ _) ?_
  rw[List.length_range]
  exact(Nat.pow_le_pow_right (by decide) h12:2^(mem fam).length≤2^12)
 have hf:=h.few
 have hc:=covers nd h12 hR2 (by rw[hR1];omega) (by rw[hR1];rfl) (by omega)
 rw[hR1] at hc
 have ndL:=leasts_nodup nd R
 have hmem: ∀ρ,ρ∈leasts (mem fam).length (mem fam) R↔ρ.Sublist (mem fam)∧LsR fam ρ:=λρ=>by rw[mem_leasts nd,hR1]
 generalize leasts (mem fam).length (mem fam) R=L at hL hc ndL hmem
 have ke:(L.map λρ=>(ρ,rowT ρ)).map (·.1)=L:=by rw[List.map_map];exact List.map_id L
 refine⟨(Kx.ksort (L.map λρ=>(ρ,rowT ρ))).map (·.1),?_,?_,?_,λρ=> ?_⟩
 ·rw[hc]
  unfold sortR
  rw[List.map_map]
  congr 2
  refine List.map_congr_left λp hp=> ?_
  obtain⟨ρ,_,rfl⟩:=List.mem_map.mp ((Kx.ksort_perm _).mem_iff.mp hp)
  rfl
 ·exact List.pairwise_map.mpr (Kx.ksort_sorted (by rw[ke];exact ndL))
 ·rw[List.length_map,(Kx.ksort_perm _).length_eq,List.length_map];exact hL
 ·rw[←hmem,((Kx.ksort_perm _).map _).mem_iff,ke]
theorem alone_of{fam:List (List Int)}(h:FamOk fam){ρ:List Int}(hl:LsR fam ρ){x:Int}(hx:x∈ρ):alF x ρ fam=true:=by
 have h2:=hl.2 x hx
 unfold MtR at h2
 obtain⟨f,hf0⟩:=Classical.not_forall.mp h2
 obtain⟨hf,hn⟩:=Classical.not_imp.mp hf0
 clear hf0 h2
 have only: ∀y∈f,y∈ρ→y=x:=λy hy hyρ=>Classical.byContradiction λhne=>hn ⟨y,⟨hyρ,hne⟩,hy⟩
 obtain⟨y,hyρ,hyf⟩:=hl.1 f hf
 have e:=only y hyf hyρ
 subst e
 unfold alF
 rw[List.any_eq_true]
 refine⟨f,hf,?_⟩
 rw[Bool.and_eq_true,decide_eq_true_eq,decide_eq_true_eq]
 refine⟨hyf,?_⟩
 have nd:(f.filter λz=>decide (z∈ρ)).Nodup:=((h.asc f hf).imp λh=>Int.ne_of_lt h).sublist List.filter_sublist
 have sub: ∀z∈f.filter λz=>decide (z∈ρ),z∈[y]:=λz hz=>by
  obtain⟨z1,z2⟩:=List.mem_filter.mp hz
  rw[List.mem_singleton]
  exact only z z1 (of_decide_eq_true z2)
 have l1:=List.Nodup.length_le_of_subset nd sub
 have l2:0<(f.filter λz=>decide (z∈ρ)).length:=List.length_pos_of_mem (List.mem_filter.mpr ⟨hyf,decide_eq_true hyρ⟩)
 simp at l1
 omega
theorem less_in{fam:List (List Int)}(h:FamOk fam){o:List Int}(ho: ∀x:Int,0≤x→x<12→x∈o):(o.foldl (lsF fam) ini).Sublist (mem fam)∧LsR fam (o.foldl (lsF fam) ini):=by
 have hs:=foldF_sub fam o ini
 have hm0:mtF ini fam=true:=mtF_iff.mpr λf hf=>by
  obtain⟨x,hx⟩:=h.ne f hf
  exact⟨x,mem_ini.mpr (h.inn f hf x hx),hx⟩
 have hm:=mtF_iff.mp (foldF_meets fam o ini hm0)
 have hle: ∀x∈o.foldl (lsF fam) ini,¬MtR fam λy=>y∈o.foldl (lsF fam) ini∧y≠x:=λx hx=>by
  obtain⟨h0,h1⟩:=mem_ini.mp (hs.subset hx)
  exact foldF_least fam o ini x (ho x h0 h1) hx
 refine⟨asc_sub (mem_asc fam) (ini_asc.sublist hs) λx hx=>mem_mem.mpr (Classical.byContradiction λhn=>hle x hx λf hf=> ?_),hm,hle⟩
 obtain⟨y,h1,h2⟩:=hm f hf
 exact⟨y,⟨h1,λe=>hn ⟨f,hf,e▸h2⟩⟩,h2⟩
end K23
set_option linter.all false
set_option maxRecDepth 100000
namespace K23
open PySem L2
theorem cut_len(ns:List Int)(k:Nat):(cutT ns none (some (k:Int))).length≤k:=by
 unfold cutT
 rw[List.length_take]
 rw[HT.sIx_nat]
 omega
theorem holds(ns:List Int)(hl:ns.length≤63)(_: ∀i∈ns,Builtin.Int.intBits i≤2^20):sp_law [.scr ns]=some (.bl true):=by
 obtain⟨cs,hcs⟩: ∃cs,cutT ns none (some 6)=cs:=⟨_,rfl⟩
 have hc6:cs.length≤6:=by rw[←hcs];exact cut_len ns 6
 obtain⟨fam,hfam⟩: ∃fam,cs.map (λc=>lstF (c %1728))=fam:=⟨_,rfl⟩
 have hF:FamOk fam:=by
  subst hfam
  refine⟨λf hf=> ?_,λf hf x hx=> ?_,λf hf=> ?_,by simpa using hc6⟩
  ·obtain⟨c,_,rfl⟩:=List.mem_map.mp hf
   exact lstF_asc _
  ·obtain⟨c,_,rfl⟩:=List.mem_map.mp hf
   exact lstF_in hx
  ·obtain⟨c,_,rfl⟩:=List.mem_map.mp hf
   exact⟨_,lstF_mem.mpr (.inl rfl)⟩
 have hc1:dComp (.one 0) dYes (dCall sp__law_list (dAc (d2 (iop (λ_ j=>decide (j≠0)) fmd) (dV 0) (dC (.int 1728))) dA0)) [none] (cs.map T.int)=some (fam.map rowT):=by
  rw[comp_map (φ:=λt=>match t with | .int c=>rowT (lstF (c %1728))|u=>u) _ λu hu=> ?_]
  ·rw[←hfam,List.map_map,List.map_map];rfl
  ·obtain⟨c,_,rfl⟩:=List.mem_map.mp hu
   simp -implicitDefEqProofs [lst_law]
 have hc2:dComp (.one 0) dYes (dL (dCallF listF (dAc (dV 0) dA0))) [none] (fam.map rowT)=some (fam.map rowT):=by
  rw[comp_map (φ:=id) _ λu hu=> ?_]
  ·rw[List.map_id]
  ·obtain⟨ρ,hρ,rfl⟩:=List.mem_map.mp hu
   simp -implicitDefEqProofs
 have hflen:=hF.len
 obtain⟨L,hL,hLs,hLl,hLm⟩:=found hF
 have hrk:=ranked hLs (by omega)
 have hc3:dComp (.one 0) dYes (dCall sp__law_cover (dAc (dV 0) (dAc (dV 1) dA0))) [none,some (famT fam)] (L.map rowT)=some (L.map λ_=>T.bl true):=by
  rw[comp_map (φ:=λ_=>.bl true) _ λu hu=> ?_]
  ·rw[List.map_map];rfl
  ·obtain⟨ρ,hρ,rfl⟩:=List.mem_map.mp hu
   obtain⟨h1,h2⟩:=(hLm ρ).mp hρ
   have hasc:=(mem_asc fam).sublist h1
   have hin: ∀x∈ρ,0≤x∧x<12:=λx hx=>by
    obtain⟨f,hf,hxf⟩:=mem_mem.mp (h1.subset hx)
    exact hF.inn f hf x hxf
   have:=cover hflen hasc hin (len12 hasc hin) (mtF_iff.mpr h2.1) λx hx=>alone_of hF h2 hx
   generalize rowT ρ=RT at this⊢
   generalize famT fam=FT at this⊢
   simp -implicitDefEqProofs [this]
 have hb3:allB (L.map λ_=>T.bl true)=some (L.map λ_=>true):=by
  clear hL hLs hLl hLm hrk hc3
  induction L with
  |nil=>rfl
  |cons x L ih=>rw[List.map_cons];unfold allB;rw[ih];rfl
 have hb3':(L.map λ_=>true).all id=true:=by simp
 have hless: ∀d:Int,∃oT,sp__law_order [.int d]=some oT∧∃mT,sp__law_lessened [oT,famT fam]=some mT∧notInR mT (.lst (L.map rowT))=some (.bl false):=λd=>by
  obtain⟨o,h1,h2⟩:=order d
  refine⟨_,h1,_,lessened hflen,?_⟩
  have hin:notInR (rowT (o.foldl (lsF fam) ini)) (.lst (L.map rowT))=some (.bl (!decide (o.foldl (lsF fam) ini∈L))):=notInR_at
  rw[hin,decide_eq_true ((hLm _).mpr (less_in hF h2))]
  rfl
 obtain⟨cs2,hcs2⟩: ∃cs,cutT ns none (some 10)=cs:=⟨_,rfl⟩
 have hc10:cs2.length≤10:=by rw[←hcs2];exact cut_len ns 10
 rw[at_law,←gv_eq]
 generalize hR:(λb:T=>b=.bl true)=Rr
 have hfl:(fam.map rowT).length≤10000000:=by rw[List.length_map];have:=hF.few;omega
 have hLl':(L.map rowT).length≤10000000:=by rw[List.length_map];omega
 have hcl:cs.length≤10000000:=by omega
 unfold famT at hL hc3 hless
 generalize fam.map rowT=FT at hc1 hc2 hL hc3 hless hfl
 generalize L.map rowT=LT at hL hrk hc3 hless hLl'
 have e1:D_law [some (.val (.scr ns)),none,none,none,none,none]=D_law_5 [some (.val (.scr ns)),some (.val (.lst FT)),some (.val (.lst LT)),none,none,none]:=by
  unfold D_law
  rw[dSeq_nx (τ':=[some (.val (.scr ns)),some (.val (.lst FT)),none,none,none,none]) (by
   simp only[ne_eq,decide_not] at hc1
   simp -implicitDefEqProofs [hcs,hc1,hcl])]
  unfold D_law_2
  rw[dSeq_nx (τ':=[some (.val (.scr ns)),some (.val (.lst FT)),some (.val (.lst LT)),none,none,none]) (by simp -implicitDefEqProofs [hc2,hfl,hL])]
  unfold D_law_3
  rw[dSeq_nx (τ':=[some (.val (.scr ns)),some (.val (.lst FT)),some (.val (.lst LT)),none,none,none]) (by simp -implicitDefEqProofs [hc3,hLl',hb3,hb3'])]
  unfold D_law_4
  exact dSeq_nx (by simp -implicitDefEqProofs [hrk])
 unfold runs
 rw[e1]
 simp -implicitDefEqProofs [D_law_5,hcs2]
 refine gv_loop (λj τ=> ∃o3 o4 o5,τ=[some (.val (.scr ns)),some (.val (.lst FT)),some (.val (.lst LT)),o3,o4,o5]) ⟨none,none,none,rfl⟩ ?_ ?_
 ·rintro j t τ ht ⟨o3,o4,o5,rfl⟩
  obtain⟨u,hu,rfl⟩:=enumT_get ht
  rw[List.getElem?_map] at hu
  obtain⟨c,hc,rfl⟩:=Option.map_eq_some_iff.mp hu
  have hj:j<10:=by have:=(List.getElem?_eq_some_iff.mp hc).1;omega
  rw[Nat.zero_add]
  refine⟨_,rfl,?_⟩
  have m1:mulOk 1728 479001600=true:=mulOk_l (by decide) (by decide)
  have m2:mulOk 40692 (j:Int)=true:=mulOk_l (by decide) (by decide)
  have m3:mulOk (40692*(j:Int)) (j:Int)=true:=mulOk_r (by omega) (by omega)
  obtain⟨d,hd⟩: ∃d:Int,c %827714764800/1728+40692*(j:Int)*(j:Int)=d:=⟨_,rfl⟩
  obtain⟨oT,ho,mT,hm,hn⟩:=hless (d %479001600)
  unfold D_law_B1
  rw[dSeq_nx (τ':=[some (.val (.scr ns)),some (.val (.lst FT)),some (.val (.lst LT)),some (.val (.int (j:Int))),some (.val (.int c)),some (.val (.int d))]) (by
   simp -implicitDefEqProofs [m1,m2,m3,hd])]
  refine Gv.of (a:=.nx [some (.val (.scr ns)),some (.val (.lst FT)),some (.val (.lst LT)),some (.val (.int (j:Int))),some (.val (.int c)),some (.val (.int d))]) ?_ ⟨_,.inl rfl,_,_,_,rfl⟩
  simp -implicitDefEqProofs [D_law_B1_2,ho,hm,hn]
 ·rintro τ ⟨o3,o4,o5,rfl⟩
  refine Gv.of (a:=.bl true) ?_ (by rw[←hR])
  simp -implicitDefEqProofs [D_law_6]
end K23
set_option Elab.async false
set_option linter.all false
set_option maxRecDepth 100000
set_option maxHeartbeats 4000000
namespace K23
open PySem L2
noncomputable def top(i:Nat):Stmt:=PySem.Challenge.pw_faultwhy_k23_covers_of_twelve.main.body.getD i (.Pass ⟨0,0,0,0⟩)
noncomputable abbrev s_least_covers:Stmt:=top 1
noncomputable abbrev s_by_length:Stmt:=top 2
noncomputable abbrev s_members_of:Stmt:=top 3
noncomputable abbrev s_bits_for:Stmt:=top 4
noncomputable abbrev s_sets_that_hold_a_list:Stmt:=top 5
noncomputable abbrev s_is_least:Stmt:=top 6
noncomputable abbrev s__law_list:Stmt:=top 8
noncomputable abbrev s__law_order:Stmt:=top 9
noncomputable abbrev s__law_meets:Stmt:=top 10
noncomputable abbrev s__law_alone:Stmt:=top 11
noncomputable abbrev s__law_cover:Stmt:=top 12
noncomputable abbrev s__law_ranked:Stmt:=top 13
noncomputable abbrev s__law_lessened:Stmt:=top 14
noncomputable abbrev s_law:Stmt:=top 15
structure Adr where
structure Txt(K:PySem.W.Frag)(mg:Str→Option Value)(a:Adr):Prop where
 n_sum:mg "sum"=none
 n_range:mg "range"=none
 n_sorted:mg "sorted"=none
 n_len:mg "len"=none
 n_zip:mg "zip"=none
 n_dict:mg "dict"=none
 n_set:mg "set"=none
 n_any:mg "any"=none
 n_enumerate:mg "enumerate"=none
 n_isinstance:mg "isinstance"=none
 n_list:mg "list"=none
 n_all:mg "all"=none
 n_bool:mg "bool"=none
 n_int:mg "int"=none
seal PE PA PT PS PSs PW PG PI PF PO PC
theorem sc_least_covers:FnScope N_least_covers ["family"] (defScope s_least_covers):=fsc
theorem sc_by_length:FnScope N_by_length ["numbers"] (defScope s_by_length):=fsc
theorem sc_members_of:FnScope N_members_of ["family"] (defScope s_members_of):=fsc
theorem sc_bits_for:FnScope N_bits_for ["count"] (defScope s_bits_for):=fsc
theorem sc_sets_that_hold_a_list:FnScope N_sets_that_hold_a_list ["family","members","bits"] (defScope s_sets_that_hold_a_list):=fsc
theorem sc_is_least:FnScope N_is_least ["cover","everything","bits","missed"] (defScope s_is_least):=fsc
theorem sc__law_list:FnScope N__law_list ["_law_d"] (defScope s__law_list):=fsc
theorem sc__law_order:FnScope N__law_order ["_law_d"] (defScope s__law_order):=fsc
theorem sc__law_meets:FnScope N__law_meets ["_law_members","_law_family"] (defScope s__law_meets):=fsc
theorem sc__law_alone:FnScope N__law_alone ["_law_x","_law_members","_law_family"] (defScope s__law_alone):=fsc
theorem sc__law_cover:FnScope N__law_cover ["_law_members","_law_family"] (defScope s__law_cover):=fsc
theorem sc__law_ranked:FnScope N__law_ranked ["_law_found"] (defScope s__law_ranked):=fsc
theorem sc__law_lessened:FnScope N__law_lessened ["_law_order_here","_law_family"] (defScope s__law_lessened):=fsc
theorem sc_law:FnScope N_law ["_law_script"] (defScope s_law):=fsc
section
variable {P:Program} {w:World} {K:PySem.W.Frag} {mg:Str→Option Value} {base:Heap} {a:Adr} (T:Txt K mg a)
include T
theorem ok_members_of(F:FI K mg "members_of" s_members_of):Cal P w K mg base 1 "members_of" ["family"] (spP K sp_members_of):=
 cal_pure (d:=D_members_of) F sc_members_of bn1 λf cdv A outer s H E hr=>(vss_cons (vs_dnew (ps_st sc_members_of.nd pe_dnewK) (by decide))
 (vss_cons (vs_for rfl (vi_any (vv 0)) (pg_nm 2 sc_members_of.nd)
 (vss_one (vs_for rfl (vi_any (vv 2)) (pg_nm 3 sc_members_of.nd)
 (vss_one (vs_dput (ps_dput (hu1 (hu64 hr)) (pv 1) (vv 3) ve_bl rfl))) (by decide))) (by decide))
 (vss_one (vs_ret (ve_fr (vf_cb Kx.cf_sortD (pe_callB (Kx.call_sortD rfl) rfl T.n_sorted PyProof.Rows.boot_sorted (va_cons (vv 1) va_nil))))))))
theorem ok_bits_for(F:FI K mg "bits_for" s_bits_for):Cal P w K mg base 1 "bits_for" ["count"] (spP K sp_bits_for):=
 cal_pure (d:=D_bits_for) F sc_bits_for bn1 λf cdv A outer s H E hr=>(vss_cons (vs_setF (ps_st sc_bits_for.nd (vf_lst va_nil)) (by decide))
 (vss_cons (vs_setP (ps_st sc_bits_for.nd ve_int) (by decide))
 (vss_cons (vs_while FUEL_bits_for_0 (vt_lt (ve_cb ct_len (pe_callB call_lenT rfl T.n_len PySem.boot_len (va_cons (vv 1) va_nil))) (vv 0))
 (vss_cons (vsap (pv 1) (vv 2))
 (vss_one (vs_setP (ps_st sc_bits_for.nd (ve_mul (vv 2) ve_int)) (by decide)))))
 (vss_one (vs_ret (vv 1))))))
theorem ok_sets_that_hold_a_list(F:FI K mg "sets_that_hold_a_list" s_sets_that_hold_a_list):Cal P w K mg base 1 "sets_that_hold_a_list" ["family","members","bits"] (spP K sp_sets_that_hold_a_list):=
 cal_pure (d:=D_sets_that_hold_a_list) F sc_sets_that_hold_a_list bn3 λf cdv A outer s H E hr=>(vss_cons (vs_setP (ps_st sc_sets_that_hold_a_list.nd (Kx.ve_dz rfl rfl T.n_zip rfl T.n_dict (vv 1) (vv 2))) (by decide))
 (vss_cons (vs_setCompF (N:=["one"]) rfl (by kernel_rfl) (vi_r (vi_range1 rfl T.n_range (ve_add (ve_cb ct_sum (pe_callB (call_sumT rfl) rfl T.n_sum PyProof.Rows.boot_sum (va_cons (vv 2) va_nil))) ve_int))) (λ_ _ _ _ _=>(pg_nm 0 (by show(["one"]:List Str).Nodup;decide+kernel))) (λ_ _ _ _ _=>vfs_none) (λ_ _ _ _ _=>ve_bl) (by decide) sc_sets_that_hold_a_list.nd rfl (Or.inl rfl) (by decide))
 (vss_cons (vs_for rfl (vi_any (vv 0)) (pg_nm 5 sc_sets_that_hold_a_list.nd)
 (vss_one (vs_put (ps_asg ve_bl (pg_sub (pv 4) (ve_cb ct_sum (pe_callB (call_sumT rfl) rfl T.n_sum PyProof.Rows.boot_sum (va_cons (ve_fr (vf_comp (N:=["number","bit_of"]) rfl (by kernel_rfl) (vi_any (vv 5)) (λ_ _ _ _ _=>(pg_nm 0 (by show(["number","bit_of"]:List Str).Nodup;decide+kernel))) (λ_ _ _ _ _=>vfs_none) (λ_ _ _ _ _=>(ve_dget (hu64 hr) (vv 1) (vv 0))) (by decide))) va_nil))) set_list)))) (by decide))
 (vss_cons (vs_for rfl (vi_any (vv 2)) (pg_nm 6 sc_sets_that_hold_a_list.nd)
 (vss_one (vs_forR rfl (vi_range1 rfl T.n_range (ve_cb ct_len (pe_callB call_lenT rfl T.n_len PySem.boot_len (va_cons (vv 4) va_nil)))) (pg_nm 7 sc_sets_that_hold_a_list.nd)
 (vss_one (vs_if (vt_w (vw_and (vt_tru (ve_band (vv 7) (vv 6))) (vw_and1 (vt_tru (ve_ix (vv 4) (ve_sub (vv 7) (vv 6)))))))
 (vss_one (vs_put (ps_asg ve_bl (pg_sub (pv 4) (vv 7) set_list))))
 vss_nil)) (by decide))) (by decide))
 (vss_one (vs_ret (vv 4)))))))
theorem ok_by_length(F:FI K mg "by_length" s_by_length):Cal P w K mg base 1 "by_length" ["numbers"] (spP K sp_by_length):=
 cal_pure (d:=D_by_length) F sc_by_length bn1 λf cdv A outer s H E hr=>(vss_one (vs_ret (ve_tup (va_cons (ve_cb ct_len (pe_callB call_lenT rfl T.n_len PySem.boot_len (va_cons (vv 0) va_nil))) (va_cons (vv 0) va_nil)))))
theorem ok_is_least(F:FI K mg "is_least" s_is_least):Cal P w K mg base 1 "is_least" ["cover","everything","bits","missed"] (spP K sp_is_least):=
 cal_pure (d:=D_is_least) F sc_is_least bn4 λf cdv A outer s H E hr=>(vss_cons (vs_for rfl (vi_any (vv 2)) (pg_nm 4 sc_is_least.nd)
 (vss_one (vs_if (vt_w (vw_and (vt_tru (ve_band (vv 0) (vv 4))) (vw_and1 (vt_not (vt_tru (ve_ix (vv 3) (ve_add (ve_sub (vv 1) (vv 0)) (vv 4))))))))
 (vss_one (vs_ret ve_bl))
 vss_nil)) (by decide))
 (vss_one (vs_ret ve_bl)))
theorem ok_least_covers(F:FI K mg "least_covers" s_least_covers)
 (C_members_of:Cal P w K mg base 3 "members_of" ["family"] (spP K sp_members_of))
 (C_bits_for:Cal P w K mg base 3 "bits_for" ["count"] (spP K sp_bits_for))
 (C_sets_that_hold_a_list:Cal P w K mg base 3 "sets_that_hold_a_list" ["family","members","bits"] (spP K sp_sets_that_hold_a_list))
 (C_by_length:Cal P w K mg base 1 "by_length" ["numbers"] (spP K sp_by_length))
 (C_is_least:Cal P w K mg base 3 "is_least" ["cover","everything","bits","missed"] (spP K sp_is_least)):Cal P w K mg base 4 "least_covers" ["family"] (spP K sp_least_covers):=
 cal_pure (d:=D_least_covers) F sc_least_covers bn1 λf cdv A outer s H E hr=>(vss_cons (vs_setP (ps_st sc_least_covers.nd (vc C_members_of hr rfl (va_cons (vv 0) va_nil))) (by decide))
 (vss_cons (vs_setP (ps_st sc_least_covers.nd (vc C_bits_for hr rfl (va_cons (ve_cb ct_len (pe_callB call_lenT rfl T.n_len PySem.boot_len (va_cons (vv 1) va_nil))) va_nil))) (by decide))
 (vss_cons (vs_setP (ps_st sc_least_covers.nd (vc C_sets_that_hold_a_list hr rfl (va_cons (vv 0) (va_cons (vv 1) (va_cons (vv 2) va_nil))))) (by decide))
 (vss_cons (vs_setP (ps_st sc_least_covers.nd (ve_cb ct_sum (pe_callB (call_sumT rfl) rfl T.n_sum PyProof.Rows.boot_sum (va_cons (vv 2) va_nil)))) (by decide))
 (vss_cons (vs_setF (ps_st sc_least_covers.nd (vf_lst va_nil)) (by decide))
 (vss_cons (vs_forR rfl (vi_range1 rfl T.n_range (ve_add (vv 4) ve_int)) (pg_nm 6 sc_least_covers.nd)
 (vss_one (vs_if (vt_w (vw_and (vt_not (vt_tru (ve_ix (vv 3) (ve_sub (vv 4) (vv 6))))) (vw_and1 (vt_tru (vc C_is_least hr rfl (va_cons (vv 6) (va_cons (vv 4) (va_cons (vv 2) (va_cons (vv 3) va_nil)))))))))
 (vss_one (vsap (pv 5) (ve_fr (vf_comp (N:=["member","bit","cover"]) rfl (by kernel_rfl) (vi_zip2 rfl T.n_zip (vv 1) (vv 2)) (λ_ _ _ _ _=>(pg_tup rfl (pgs_cons (pg_nm 0 (by show(["member","bit","cover"]:List Str).Nodup;decide+kernel)) (pgs_cons (pg_nm 1 (by show(["member","bit","cover"]:List Str).Nodup;decide+kernel)) pgs_nil)))) (λ_ _ _ _ _=>vfs_one (vt_tru (ve_band (vv 2) (vv 1)))) (λ_ _ _ _ _=>(vv 0)) (by decide)))))
 vss_nil)) (by decide))
 (vss_one (vs_ret (ve_fr (vc_sortK C_by_length hr rfl T.n_sorted rfl (vv 5)))))))))))
theorem ok__law_list(F:FI K mg "_law_list" s__law_list):Cal P w K mg base 1 "_law_list" ["_law_d"] (spP K sp__law_list):=
 cal_pure (d:=D__law_list) F sc__law_list bn1 λf cdv A outer s H E hr=>(vss_one (vs_ret (ve_fr (Si.vf_ssetI (pe_callB (Si.call_sortV rfl) rfl T.n_sorted PyProof.Rows.boot_sorted (pa_cons (pe_callTy (Si.call_setV rfl) rfl T.n_set PyProof.Rows.boot_set (va_cons (ve_fr (vf_lst (va_cons (ve_fmd (vv 0) ve_int) (va_cons (ve_fmd (ve_fdv (vv 0) ve_int) ve_int) (va_cons (ve_fmd (ve_fdv (vv 0) ve_int) ve_int) va_nil))))) va_nil)) pa_nil))))))
theorem ok__law_ranked(F:FI K mg "_law_ranked" s__law_ranked):Cal P w K mg base 1 "_law_ranked" ["_law_found"] (spP K sp__law_ranked):=
 cal_pure (d:=D__law_ranked) F sc__law_ranked bn1 λf cdv A outer s H E hr=>(vss_cons (vs_forR rfl (vi_range2 rfl T.n_range ve_int (ve_cb ct_len (pe_callB call_lenT rfl T.n_len PySem.boot_len (va_cons (vv 0) va_nil)))) (pg_nm 1 sc__law_ranked.nd)
 (vss_one (vs_if (Kx.vt_geK (hu64 hr) (ve_tup (va_cons (ve_cb ct_len (pe_callB call_lenT rfl T.n_len PySem.boot_len (va_cons (ve_ix (vv 0) (ve_sub (vv 1) ve_int)) va_nil))) (va_cons (ve_ix (vv 0) (ve_sub (vv 1) ve_int)) va_nil))) (ve_tup (va_cons (ve_cb ct_len (pe_callB call_lenT rfl T.n_len PySem.boot_len (va_cons (ve_ix (vv 0) (vv 1)) va_nil))) (va_cons (ve_ix (vv 0) (vv 1)) va_nil))))
 (vss_one (vs_ret ve_bl))
 vss_nil)) (by decide))
 (vss_one (vs_ret ve_bl)))
theorem ok__law_meets(F:FI K mg "_law_meets" s__law_meets):Cal P w K mg base 1 "_law_meets" ["_law_members","_law_family"] (spP K sp__law_meets):=
 cal_pure (d:=D__law_meets) F sc__law_meets bn2 λf cdv A outer s H E hr=>(vss_cons (vs_for rfl (vi_any (vv 1)) (pg_nm 2 sc__law_meets.nd)
 (vss_one (vs_if (vt_not (vt_tru (ve_cb ct_any (pe_callB (call_any rfl) rfl T.n_any PyProof.Rows.boot_any (va_cons (ve_fr (vf_comp (N:=["_law_x","_law_members"]) rfl (by kernel_rfl) (vi_any (vv 2)) (λ_ _ _ _ _=>(pg_nm 0 (by show(["_law_x","_law_members"]:List Str).Nodup;decide+kernel))) (λ_ _ _ _ _=>vfs_none) (λ_ _ _ _ _=>(ve_in (hu64 hr) (vv 0) (vv 1))) (by decide))) va_nil)))))
 (vss_one (vs_ret ve_bl))
 vss_nil)) (by decide))
 (vss_one (vs_ret ve_bl)))
theorem ok__law_lessened(F:FI K mg "_law_lessened" s__law_lessened)
 (C__law_meets:Cal P w K mg base 1 "_law_meets" ["_law_members","_law_family"] (spP K sp__law_meets)):Cal P w K mg base 2 "_law_lessened" ["_law_order_here","_law_family"] (spP K sp__law_lessened):=
 cal_pure (d:=D__law_lessened) F sc__law_lessened bn2 λf cdv A outer s H E hr=>(vss_cons (vs_setP (ps_st sc__law_lessened.nd (ve_fr (Kx.vf_lrng rfl rfl T.n_list rfl T.n_range ve_int))) (by decide))
 (vss_cons (vs_for rfl (vi_any (vv 0)) (pg_nm 3 sc__law_lessened.nd)
 (vss_cons (vs_setComp (N:=["_law_y","_law_x"]) rfl (by kernel_rfl) (vi_any (vv 2)) (λ_ _ _ _ _=>(pg_nm 0 (by show(["_law_y","_law_x"]:List Str).Nodup;decide+kernel))) (λ_ _ _ _ _=>vfs_one (vt_ne (hu64 hr) (vv 0) (vv 1))) (λ_ _ _ _ _=>(vv 0)) (by decide) sc__law_lessened.nd rfl (Or.inl rfl) (by decide))
 (vss_one (vs_if (vt_tru (vc C__law_meets hr rfl (va_cons (vv 4) (va_cons (vv 1) va_nil))))
 (vss_one (vs_setP (ps_st sc__law_lessened.nd (vv 4)) (by decide)))
 vss_nil))) (by decide))
 (vss_one (vs_ret (vv 2)))))
theorem ok__law_order(F:FI K mg "_law_order" s__law_order):Cal P w K mg base 1 "_law_order" ["_law_d"] (spP K sp__law_order):=
 cal_pure (d:=D__law_order) F sc__law_order bn1 λf cdv A outer s H E hr=>(vss_cons (vs_setF (ps_st sc__law_order.nd (vf_lst va_nil)) (by decide))
 (vss_cons (vs_forR rfl (vi_range1 rfl T.n_range ve_int) (pg_nm 2 sc__law_order.nd)
 (vss_cons (vs_ins (ps_expr (pe_bm PySem.F.plainAttrs_list PySem.F.slot_list_insert PySem.F.type_list_insert mt_insert (pv 1) (pa_cons (ve_fmd (vv 0) (ve_add (vv 2) ve_int)) (pa_cons (vv 2) pa_nil)))))
 (vss_one (vs_setP (ps_st sc__law_order.nd (ve_fdv (vv 0) (ve_add (vv 2) ve_int))) (by decide)))) (by decide))
 (vss_one (vs_ret (vv 1)))))
theorem ok__law_alone(F:FI K mg "_law_alone" s__law_alone):Cal P w K mg base 1 "_law_alone" ["_law_x","_law_members","_law_family"] (spP K sp__law_alone):=
 cal_pure (d:=D__law_alone) F sc__law_alone bn3 λf cdv A outer s H E hr=>(vss_cons (vs_for rfl (vi_any (vv 2)) (pg_nm 3 sc__law_alone.nd)
 (vss_one (vs_if (vt_w (vw_and (vt_in (hu64 hr) (vv 0) (vv 3)) (vw_and1 (vt_eq (hu64 hr) (ve_cb ct_len (pe_callB call_lenT rfl T.n_len PySem.boot_len (va_cons (ve_fr (vf_comp (N:=["_law_y","_law_members"]) rfl (by kernel_rfl) (vi_any (vv 3)) (λ_ _ _ _ _=>(pg_nm 0 (by show(["_law_y","_law_members"]:List Str).Nodup;decide+kernel))) (λ_ _ _ _ _=>vfs_one (vt_in (hu64 hr) (vv 0) (vv 1))) (λ_ _ _ _ _=>(vv 0)) (by decide))) va_nil))) ve_int))))
 (vss_one (vs_ret ve_bl))
 vss_nil)) (by decide))
 (vss_one (vs_ret ve_bl)))
theorem ok__law_cover(F:FI K mg "_law_cover" s__law_cover)
 (C__law_meets:Cal P w K mg base 1 "_law_meets" ["_law_members","_law_family"] (spP K sp__law_meets))
 (C__law_alone:Cal P w K mg base 1 "_law_alone" ["_law_x","_law_members","_law_family"] (spP K sp__law_alone)):Cal P w K mg base 2 "_law_cover" ["_law_members","_law_family"] (spP K sp__law_cover):=
 cal_pure (d:=D__law_cover) F sc__law_cover bn2 λf cdv A outer s H E hr=>(vss_cons (vs_if (vt_not (vt_tru (ve_cb ct_is (pe_callB call_isT rfl T.n_isinstance PyProof.Rows.boot_isinstance (va_cons (vv 0) (va_cons (ve_bty rfl T.n_list PyProof.Rows.boot_list) va_nil))))))
 (vss_one (vs_ret ve_bl))
 vss_nil)
 (vss_cons (vs_for rfl (vi_enumerate1 rfl T.n_enumerate (vv 0)) (pg_tup rfl (pgs_cons (pg_nm 2 sc__law_cover.nd) (pgs_cons (pg_nm 3 sc__law_cover.nd) pgs_nil)))
 (vss_cons (vs_if (vt_w (vw_or (vt_not (vt_tru (ve_cb ct_is (pe_callB call_isT rfl T.n_isinstance PyProof.Rows.boot_isinstance (va_cons (vv 3) (va_cons (ve_bty rfl T.n_int PyProof.Rows.boot_int) va_nil)))))) (vw_or (vt_tru (ve_cb ct_is (pe_callB call_isT rfl T.n_isinstance PyProof.Rows.boot_isinstance (va_cons (vv 3) (va_cons (ve_bty rfl T.n_bool PyProof.Rows.boot_bool) va_nil))))) (vw_or1 (vt_not (vt_chain op_le op_lt ot_cmp ot_cmp ve_int (vv 3) ve_int))))))
 (vss_one (vs_ret ve_bl))
 vss_nil)
 (vss_one (vs_if (vt_w (vw_and (vt_gt (vv 2) ve_int) (vw_and1 (vt_ge (ve_ix (vv 0) (ve_sub (vv 2) ve_int)) (vv 3)))))
 (vss_one (vs_ret ve_bl))
 vss_nil))) (by decide))
 (vss_one (vs_ret (ve_and (vc C__law_meets hr rfl (va_cons (vv 0) (va_cons (vv 1) va_nil))) (ve_one (ve_cb ct_all (pe_callB (call_all rfl) rfl T.n_all PyProof.Rows.boot_all (va_cons (ve_fr (vf_comp (N:=["_law_x","_law_members","_law_family"]) rfl (by kernel_rfl) (vi_any (vv 0)) (λ_ _ _ _ _=>(pg_nm 0 (by show(["_law_x","_law_members","_law_family"]:List Str).Nodup;decide+kernel))) (λ_ _ _ _ _=>vfs_none) (λ_ _ _ _ _=>(vc C__law_alone hr rfl (va_cons (vv 0) (va_cons (vv 1) (va_cons (vv 2) va_nil))))) (by decide))) va_nil)))))))))
theorem ok_law(F:FI K mg "law" s_law)
 (C_least_covers:Cal P w K mg base 4 "least_covers" ["family"] (spP K sp_least_covers))
 (C__law_list:Cal P w K mg base 4 "_law_list" ["_law_d"] (spP K sp__law_list))
 (C__law_ranked:Cal P w K mg base 4 "_law_ranked" ["_law_found"] (spP K sp__law_ranked))
 (C__law_lessened:Cal P w K mg base 4 "_law_lessened" ["_law_order_here","_law_family"] (spP K sp__law_lessened))
 (C__law_order:Cal P w K mg base 4 "_law_order" ["_law_d"] (spP K sp__law_order))
 (C__law_cover:Cal P w K mg base 4 "_law_cover" ["_law_members","_law_family"] (spP K sp__law_cover)):Cal P w K mg base 5 "law" ["_law_script"] (spP K sp_law):=
 cal_pure (d:=D_law) F sc_law bn1 λf cdv A outer s H E hr=>(vss_cons (vs_setP (ps_st sc_law.nd (ve_fr (vf_comp (N:=["_law_cell"]) rfl (by kernel_rfl) (vi_any (ve_sl (vv 0) vo_none (vo_some ve_int))) (λ_ _ _ _ _=>(pg_nm 0 (by show(["_law_cell"]:List Str).Nodup;decide+kernel))) (λ_ _ _ _ _=>vfs_none) (λ_ _ _ _ _=>(vc C__law_list hr rfl (va_cons (ve_fmd (vv 0) ve_int) va_nil))) (by decide)))) (by decide))
 (vss_cons (vs_setP (ps_st sc_law.nd (vc C_least_covers hr rfl (va_cons (ve_fr (vf_comp (N:=["_law_row"]) rfl (by kernel_rfl) (vi_any (vv 1)) (λ_ _ _ _ _=>(pg_nm 0 (by show(["_law_row"]:List Str).Nodup;decide+kernel))) (λ_ _ _ _ _=>vfs_none) (λ_ _ _ _ _=>(ve_fr (vf_cb cf_list (pe_callTy call_list_of rfl T.n_list PyProof.Rows.boot_list (va_cons (vv 0) va_nil))))) (by decide))) va_nil))) (by decide))
 (vss_cons (vs_if (vt_w (vw_or (vt_not (vt_tru (ve_cb ct_is (pe_callB call_isT rfl T.n_isinstance PyProof.Rows.boot_isinstance (va_cons (vv 2) (va_cons (ve_bty rfl T.n_list PyProof.Rows.boot_list) va_nil)))))) (vw_or1 (vt_not (vt_tru (ve_cb ct_all (pe_callB (call_all rfl) rfl T.n_all PyProof.Rows.boot_all (va_cons (ve_fr (vf_comp (N:=["_law_row","_law_family"]) rfl (by kernel_rfl) (vi_any (vv 2)) (λ_ _ _ _ _=>(pg_nm 0 (by show(["_law_row","_law_family"]:List Str).Nodup;decide+kernel))) (λ_ _ _ _ _=>vfs_none) (λ_ _ _ _ _=>(vc C__law_cover hr rfl (va_cons (vv 0) (va_cons (vv 1) va_nil)))) (by decide))) va_nil))))))))
 (vss_one (vs_ret ve_bl))
 vss_nil)
 (vss_cons (vs_if (vt_not (vt_tru (vc C__law_ranked hr rfl (va_cons (vv 2) va_nil))))
 (vss_one (vs_ret ve_bl))
 vss_nil)
 (vss_cons (vs_for rfl (vi_enumerate1 rfl T.n_enumerate (ve_sl (vv 0) vo_none (vo_some ve_int))) (pg_tup rfl (pgs_cons (pg_nm 3 sc_law.nd) (pgs_cons (pg_nm 4 sc_law.nd) pgs_nil)))
 (vss_cons (vs_setP (ps_st sc_law.nd (ve_add (ve_fdv (ve_fmd (vv 4) (ve_mul ve_int ve_int)) ve_int) (ve_mul (ve_mul ve_int (vv 3)) (vv 3)))) (by decide))
 (vss_one (vs_if (vt_notInR (hu64 hr) (vc C__law_lessened hr rfl (va_cons (vc C__law_order hr rfl (va_cons (ve_fmd (vv 5) ve_int) va_nil)) (va_cons (vv 1) va_nil))) (vv 2))
 (vss_one (vs_ret ve_bl))
 vss_nil))) (by decide))
 (vss_one (vs_ret ve_bl)))))))
end
theorem all_mk{l:PySem.W.OpenLaw}{w:World}{K:PySem.W.Frag}{h:Heap}{mg:Str→Option Value}{fa:Addr}(X:K.In h)(G:h.Ns mainGlobals mg)(hfa:mg "law"=some (.ref fa))
 (F0:FJ K "least_covers" s_least_covers)
 (F1:FJ K "by_length" s_by_length)
 (F2:FJ K "members_of" s_members_of)
 (F3:FJ K "bits_for" s_bits_for)
 (F4:FJ K "sets_that_hold_a_list" s_sets_that_hold_a_list)
 (F5:FJ K "is_least" s_is_least)
 (F6:FJ K "_law_list" s__law_list)
 (F7:FJ K "_law_order" s__law_order)
 (F8:FJ K "_law_meets" s__law_meets)
 (F9:FJ K "_law_alone" s__law_alone)
 (F10:FJ K "_law_cover" s__law_cover)
 (F11:FJ K "_law_ranked" s__law_ranked)
 (F12:FJ K "_law_lessened" s__law_lessened)
 (F13:FJ K "law" s_law)
 (z_sum:PySem.W.nsIn K mainGlobals "sum"=some none)
 (z_range:PySem.W.nsIn K mainGlobals "range"=some none)
 (z_sorted:PySem.W.nsIn K mainGlobals "sorted"=some none)
 (z_len:PySem.W.nsIn K mainGlobals "len"=some none)
 (z_zip:PySem.W.nsIn K mainGlobals "zip"=some none)
 (z_dict:PySem.W.nsIn K mainGlobals "dict"=some none)
 (z_set:PySem.W.nsIn K mainGlobals "set"=some none)
 (z_any:PySem.W.nsIn K mainGlobals "any"=some none)
 (z_enumerate:PySem.W.nsIn K mainGlobals "enumerate"=some none)
 (z_isinstance:PySem.W.nsIn K mainGlobals "isinstance"=some none)
 (z_list:PySem.W.nsIn K mainGlobals "list"=some none)
 (z_all:PySem.W.nsIn K mainGlobals "all"=some none)
 (z_bool:PySem.W.nsIn K mainGlobals "bool"=some none)
 (z_int:PySem.W.nsIn K mainGlobals "int"=some none)
 : ∃fd:FuncData,(∀(s:Shared) (v:Value),BindsTo s fd ⟨[v],[]⟩ [("_law_script",v)])∧∀base:Heap,K.In base→base.Ns mainGlobals mg→FnOk l.prog w K mg base CX0 5 fa fd ["_law_script"] (spP K sp_law):=by
 have T:Txt K mg ⟨⟩:=⟨PySem.W.mg_none_of X G z_sum,PySem.W.mg_none_of X G z_range,PySem.W.mg_none_of X G z_sorted,PySem.W.mg_none_of X G z_len,PySem.W.mg_none_of X G z_zip,PySem.W.mg_none_of X G z_dict,PySem.W.mg_none_of X G z_set,PySem.W.mg_none_of X G z_any,PySem.W.mg_none_of X G z_enumerate,PySem.W.mg_none_of X G z_isinstance,PySem.W.mg_none_of X G z_list,PySem.W.mg_none_of X G z_all,PySem.W.mg_none_of X G z_bool,PySem.W.mg_none_of X G z_int⟩
 refine law_mk h hfa λbase=> ?_
 have O2:=ok_members_of (P:=l.prog) (w:=w) (base:=base) T (F2.at X G)
 have O3:=ok_bits_for (P:=l.prog) (w:=w) (base:=base) T (F3.at X G)
 have O4:=ok_sets_that_hold_a_list (P:=l.prog) (w:=w) (base:=base) T (F4.at X G)
 have O1:=ok_by_length (P:=l.prog) (w:=w) (base:=base) T (F1.at X G)
 have O5:=ok_is_least (P:=l.prog) (w:=w) (base:=base) T (F5.at X G)
 have O0:=ok_least_covers (P:=l.prog) (w:=w) (base:=base) T (F0.at X G) O2.up O3.up O4.up O1.up O5.up
 have O6:=ok__law_list (P:=l.prog) (w:=w) (base:=base) T (F6.at X G)
 have O7:=ok__law_order (P:=l.prog) (w:=w) (base:=base) T (F7.at X G)
 have O8:=ok__law_meets (P:=l.prog) (w:=w) (base:=base) T (F8.at X G)
 have O9:=ok__law_alone (P:=l.prog) (w:=w) (base:=base) T (F9.at X G)
 have O10:=ok__law_cover (P:=l.prog) (w:=w) (base:=base) T (F10.at X G) O8.up O9.up
 have O11:=ok__law_ranked (P:=l.prog) (w:=w) (base:=base) T (F11.at X G)
 have O12:=ok__law_lessened (P:=l.prog) (w:=w) (base:=base) T (F12.at X G) O8.up
 exact ok_law (P:=l.prog) (w:=w) (base:=base) T (F13.at X G) O0.up O6.up O11.up O12.up O7.up O10.up
theorem walk{l:PySem.W.OpenLaw}{q:Program}{loose:List Str}{XP:(Str→Option Value)→Heap→Prop}{YP:World→Heap→Prop}{d:DefRec}{K:Params→PySem.W.Frag}(hn:l.most=some 63)(hdf:d.params.defaults=[])
  (hY: ∀(w:World) (h:Heap),YP w h→(K w.params).In h)
  (F: ∀(w:World) (mg:Str→Option Value) (fa:Addr) (h:Heap),(K w.params).In h→h.Ns mainGlobals mg→mg d.name=some (.ref fa)→
   ∃fd:FuncData,(∀(s:Shared) (u:Value),BindsTo s fd ⟨[u],[]⟩ [("_law_script",u)])∧∀base:Heap,(K w.params).In base→base.Ns mainGlobals mg→FnOk l.prog w (K w.params) mg base CX0 5 fa fd ["_law_script"] (spP (K w.params) sp_law)):
  PySem.W.WalkO q loose XP YP l.row.toRowW d [] (λf vs=>PySem.call f vs):=
 L2.walk_lay (n:=63) (k:=5) (x:="_law_script") hn (by decide) hdf ⟨rfl,by decide,by decide⟩ hY F holds
end K23
def PySem.W.Fast.tw14399186177623233333:Nat:=0
def PySem.W.Fast.tw13878271155725982249:Nat:=0
def PySem.W.Fast.tw13327508693168137528:Nat:=0
def PySem.W.Fast.tw8694958852918352940:Nat:=0
def PySem.W.Fast.tw8740432137885435216:Nat:=0
def PySem.W.Fast.tw17619503356564352110:Nat:=0
def PySem.W.Fast.tw7779625420661992265:Nat:=0
def PySem.W.Fast.tw4644026036539915617:Nat:=0
def PySem.W.Fast.tw13057657711895995374:Nat:=0
def PySem.W.Fast.tw5155814789870115195:Nat:=0
def PySem.W.Fast.tw8783066414760997568:Nat:=0
def PySem.W.Fast.tw12434214093050646446:Nat:=0
def PySem.W.Fast.tw13697548688086017344:Nat:=0
def PySem.W.Fast.tw16898514336404483224:Nat:=0
def PySem.W.Fast.tw5794277833961961573:Nat:=0
def PySem.W.Fast.tw7337974208628998792:Nat:=0
def PySem.W.Fast.tw5730430659924827768:Nat:=0
def PySem.W.Fast.tw10148331500355604036:Nat:=0
def PySem.W.Fast.tw14808292200134607987:Nat:=0
def PySem.W.Fast.tw13795092740854064884:Nat:=0
def PySem.W.Fast.tw9048047026209696193:Nat:=0
def PySem.W.Fast.tw9895044909290101704:Nat:=0
def PySem.W.Fast.tw10285343965457371668:Nat:=0
def PySem.W.Fast.tw3959049256470793305:Nat:=0
def PySem.W.Fast.tw14881723009076844678:Nat:=0
def PySem.W.Fast.tw13252850920946458129:Nat:=0
def PySem.W.Fast.tw3094984094278710200:Nat:=0
def PySem.W.Fast.tw15229950889584404509:Nat:=0
def PySem.W.Fast.tw333327429659574240:Nat:=0
def PySem.W.Fast.tw5393209055741896427:Nat:=0
def PySem.W.Fast.tw7593921479788245417:Nat:=0
def PySem.W.Fast.tw11526405803519223998:Nat:=0
def PySem.W.Fast.tw6552639063193005332:Nat:=0
def PySem.W.Fast.tw544320084667654517:Nat:=0
def PySem.W.Fast.tw18444823891774439689:Nat:=0
def PySem.W.Fast.tw3968773697534079036:Nat:=0
open PySem PySem.W PyProof.Rows
set_option maxRecDepth 100000 in
set_option maxHeartbeats 0 in
theorem PySem.Challenge.cw_faultwhy_k23_covers_of_twelve_holds : PySem.Challenge.rw_faultwhy_k23_covers_of_twelve.Holds := by
 w_on;o_law;k_head;(case hw=>w_witness2)
 k_fill
 refine K23.walk (l:=PySem.Challenge.rw_faultwhy_k23_covers_of_twelve) rfl rfl (λw h Y=>PySem.W.kIn_of Y) ?F
 case F=>
  intro w mg fa h KX G hmg
  refine' K23.all_mk KX G hmg ?zq0 ?zq1 ?zq2 ?zq3 ?zq4 ?zq5 ?zq6 ?zq7 ?zq8 ?zq9 ?zq10 ?zq11 ?zq12 ?zq13 ?zq14 ?zq15 ?zq16 ?zq17 ?zq18 ?zq19 ?zq20 ?zq21 ?zq22 ?zq23 ?zq24 ?zq25 ?zq26 ?zq27
  (case zq0=>refine' L2.FJ.of ?a ?l ?c ?k;(case a=>k_is);(case l=>k_is);(case c=>k_is);(case k=>k_is))
  (case zq1=>refine' L2.FJ.of ?a ?l ?c ?k;(case a=>k_is);(case l=>k_is);(case c=>k_is);(case k=>k_is))
  (case zq2=>refine' L2.FJ.of ?a ?l ?c ?k;(case a=>k_is);(case l=>k_is);(case c=>k_is);(case k=>k_is))
  (case zq3=>refine' L2.FJ.of ?a ?l ?c ?k;(case a=>k_is);(case l=>k_is);(case c=>k_is);(case k=>k_is))
  (case zq4=>refine' L2.FJ.of ?a ?l ?c ?k;(case a=>k_is);(case l=>k_is);(case c=>k_is);(case k=>k_is))
  (case zq5=>refine' L2.FJ.of ?a ?l ?c ?k;(case a=>k_is);(case l=>k_is);(case c=>k_is);(case k=>k_is))
  (case zq6=>refine' L2.FJ.of ?a ?l ?c ?k;(case a=>k_is);(case l=>k_is);(case c=>k_is);(case k=>k_is))
  (case zq7=>refine' L2.FJ.of ?a ?l ?c ?k;(case a=>k_is);(case l=>k_is);(case c=>k_is);(case k=>k_is))
  (case zq8=>refine' L2.FJ.of ?a ?l ?c ?k;(case a=>k_is);(case l=>k_is);(case c=>k_is);(case k=>k_is))
  (case zq9=>refine' L2.FJ.of ?a ?l ?c ?k;(case a=>k_is);(case l=>k_is);(case c=>k_is);(case k=>k_is))
  (case zq10=>refine' L2.FJ.of ?a ?l ?c ?k;(case a=>k_is);(case l=>k_is);(case c=>k_is);(case k=>k_is))
  (case zq11=>refine' L2.FJ.of ?a ?l ?c ?k;(case a=>k_is);(case l=>k_is);(case c=>k_is);(case k=>k_is))
  (case zq12=>refine' L2.FJ.of ?a ?l ?c ?k;(case a=>k_is);(case l=>k_is);(case c=>k_is);(case k=>k_is))
  (case zq13=>refine' L2.FJ.of ?a ?l ?c ?k;(case a=>k_is);(case l=>k_is);(case c=>k_is);(case k=>k_is))
  (case zq14=>k_is)
  (case zq15=>k_is)
  (case zq16=>k_is)
  (case zq17=>k_is)
  (case zq18=>k_is)
  (case zq19=>k_is)
  (case zq20=>k_is)
  (case zq21=>k_is)
  (case zq22=>k_is)
  (case zq23=>k_is)
  (case zq24=>k_is)
  (case zq25=>k_is)
  (case zq26=>k_is)
  (case zq27=>k_is)
