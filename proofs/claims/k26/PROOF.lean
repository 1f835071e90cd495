import PyProof.Rows.All
import Wide.All
import OpenK.AllK
import Wide.FinOn
import Lean
import PyProof.EqAt
import PyProof.EqKinds
import PyProof.TupleCall
import PySem.Challenge.RW_outlast_k26_run_again
set_option Elab.async false
set_option linter.all false
set_option maxRecDepth 100000
local macro_rules | `(tactic| omega) => `(tactic| first | assumption | lia | omega +splitDisjunctions)
theorem PySem.W.Fast.tw6672716987219698775:True:=trivial
theorem PySem.W.Fast.tw7026648111283512852:True:=trivial
theorem PySem.W.Fast.tw3273116158214527630:True:=trivial
theorem PySem.W.Fast.tw11348402093687230423:True:=trivial
theorem PySem.W.Fast.tw14093031150697419405:True:=trivial
theorem PySem.W.Fast.tw2498263353987953235:True:=trivial
theorem PySem.W.Fast.tw6650745026787002190:True:=trivial
theorem PySem.W.Fast.tw3809969978840311710:True:=trivial
theorem PySem.W.Fast.tw15831266616470560721:True:=trivial
theorem PySem.W.Fast.tw2068705672301244228:True:=trivial
theorem PySem.W.Fast.tw18334970951222800165:True:=trivial
theorem PySem.W.Fast.tw5520033850574116340:True:=trivial
theorem PySem.W.Fast.tw6968849135093629362:True:=trivial
theorem PySem.W.Fast.tw13716955202672046732:True:=trivial
theorem PySem.W.Fast.tw4029345215220780998:True:=trivial
namespace L2
open PySem PySem.Spec PyProof.Rows
inductive Key where
 | inl (i:Int) | inr (x:Str) | no
 deriving DecidableEq
noncomputable def uO:Key→Value→Bool
 | .inl k,v=>Value.isInt k v
 | .inr x,v=>Value.isStrOf x v
 | .no,.none=>true
 | .no,_=>false
noncomputable def keyH (w:World):Key→Int
 | .inl k=>hashInt k
 | .inr x=>hashStr w x
 | .no=>reduceHash 0xFCA86420
theorem dR:∀ {k:Key} {v:Value},uO k v=true→(∃ i t,k=Key.inl i∧v=Value.int i t)∨(∃ x t,k=Key.inr x∧v=Value.str x t)∨(k=Key.no∧v=Value.none)
 | .inl i,v,h=>by
  obtain ⟨t,e⟩:=Value.isInt_shape (k:=i) (v:=v) h
  exact .inl ⟨i,t,rfl,e⟩
 | .inr x,v,h=>by
  obtain ⟨t,e⟩:=Value.isStrOf_shape (x:=x) (v:=v) h
  exact .inr (.inl ⟨x,t,rfl,e⟩)
 | .no,v,h=>by
  cases v<;>first | exact .inr (.inr ⟨rfl,rfl⟩) | cases h
theorem keyIs_int (i:Int) (t:Tok):uO (.inl i) (.int i t)=true:=by simp [uO,Value.isInt]
theorem keyIs_str (x:Str) (t:Tok):uO (.inr x) (.str x t)=true:=by simp [uO,Value.isStrOf]
theorem key_ll (a b:Int):decide (Key.inl a=Key.inl b)=(a == b):=by
 by_cases e:a=b
 ·subst e;simp
 ·have h:¬ Key.inl a=Key.inl b:=fun q=>e (Key.inl.inj q)
  rw [decide_eq_false h]
  exact (beq_eq_false_iff_ne.mpr e).symm
theorem key_rr (a b:Str):decide (Key.inr a=Key.inr b)=decide (a=b):=by
 by_cases e:a=b
 ·subst e;simp
 ·have h:¬ Key.inr a=Key.inr b:=fun q=>e (Key.inr.inj q)
  rw [decide_eq_false h,decide_eq_false e]
noncomputable def bS (prog:Program) (w:World):PySem.KeyKind prog w Key where
 is:=uO
 hash:=keyH w
 inj:=fun v a b ha hb=>by
  rcases dR ha with ⟨i,t,rfl,rfl⟩ | ⟨x,t,rfl,rfl⟩ | ⟨rfl,rfl⟩<;>rcases dR hb with ⟨j,u,rfl,e⟩ | ⟨y,u,rfl,e⟩ | ⟨rfl,e⟩ <;>
   first | rfl | (cases e<;>rfl)
 byValue:=fun k v h=>by
  rcases dR h with ⟨i,t,rfl,rfl⟩ | ⟨x,t,rfl,rfl⟩ | ⟨rfl,rfl⟩<;>rfl
 pyHash:=fun hv h=>by
  rcases dR hv with ⟨i,t,rfl,rfl⟩ | ⟨x,t,rfl,rfl⟩ | ⟨rfl,rfl⟩
  ·exact wpAny_pyHash_int h
  ·exact wpAny_pyHash_str h
  ·exact PySem.W.pyHash_slot (T:="NoneType") rfl F.slot_NoneType_hash F.entry_NoneType_hash (F.args_NoneType_hash_1 _) (beq_builtin_none _) (.inl rfl) (wpAny_bind (wpAny_pure (wpAny_bind (wpAny_mkInt (wpAny_pure ⟨_,_,rfl,h⟩)))))
 eqBool:=fun hu hv h=>by
  rcases dR hu with ⟨i,t,rfl,rfl⟩ | ⟨x,t,rfl,rfl⟩ | ⟨rfl,rfl⟩<;>rcases dR hv with ⟨j,u,rfl,rfl⟩ | ⟨y,u,rfl,rfl⟩ | ⟨rfl,rfl⟩
  ·rw [key_ll] at h;exact wpAny_eqBool_int h
  ·exact SeqAt.EqAt.int_str i t y u _ _ _ _ h
  ·exact SeqAt.EqAt.int_none i t _ _ _ _ h
  ·exact SeqAt.EqAt.str_int x t j u _ _ _ _ h
  ·rw [key_rr] at h;exact wpAny_eqBool_str h
  ·exact SeqAt.EqAt.str_none x t _ _ _ _ h
  ·exact SeqAt.EqAt.none_int j u _ _ _ _ h
  ·exact SeqAt.EqAt.none_str y u _ _ _ _ h
  ·exact SeqAt.EqAt.same .none _ _ _ _ h
 «strs»:=fun k x t v h=>by
  rcases dR h with ⟨i,u,rfl,e⟩ | ⟨y,u,rfl,e⟩ | ⟨rfl,e⟩
  ·exact nomatch e
  ·injection e with e1 _
   subst e1
   cases v<;>rfl
  ·exact nomatch e
theorem wX (prog:Program) (w:World) (i:Int) (t:Tok):(bS prog w).is (.inl i) (.int i t)=true:=keyIs_int i t
theorem xI (prog:Program) (w:World) (x:Str) (t:Tok):(bS prog w).is (.inr x) (.str x t)=true:=keyIs_str x t
end L2
namespace L2
open PySem PySem.Spec PyProof.Rows
inductive V where
 | non | bl (b:Bool) | int (i:Int) | str (x:Str) | byt (b:Array UInt8) | flt (b:UInt64) | ref (a:Addr) | ty (n:String)
 deriving DecidableEq
noncomputable def bI:V→Value→Prop
 | .non,u=>u=Value.none
 | .bl b,u=>u=Value.bool b
 | .int i,u=>∃ t,u=Value.int i t
 | .str x,u=>∃ t,u=Value.str x t
 | .byt b,u=>∃ t,u=Value.bytes b t
 | .flt b,u=>∃ t,u=Value.float b t
 | .ref a,u=>u=Value.ref a
 | .ty n,u=>u=Value.type n
noncomputable abbrev Vals:List V→List Value→Prop:=Paired bI
theorem Vals.length {xs:List V} {us:List Value} (r:Vals xs us):xs.length=us.length:=Paired.length r
theorem Vals.get:∀ {xs:List V} {us:List Value} {i:Nat} {x:V},Vals xs us→xs[i]?=some x→∃ u,us[i]?=some u∧bI x u
 | _,_,_,_,.nil,e=>by simp at e
 | _,_,0,_,.cons r _,e=>by simp at e;subst e;exact ⟨_,rfl,r⟩
 | _,_,i+1,x,.cons _ t,e=>by
  obtain ⟨u,h1,h2⟩:=Vals.get (i:=i) (x:=x) t (by simpa using e)
  exact ⟨u,by simpa using h1,h2⟩
theorem Vals.set {x:V} {u:Value} (r:bI x u):∀ {xs:List V} {us:List Value} (i:Nat),Vals xs us→Vals (xs.set i x) (us.set i u)
 | _,_,_,.nil=>.nil
 | _,_,0,.cons _ t=>.cons r t
 | _,_,i+1,.cons q t=>.cons q (Vals.set r i t)
theorem Vals.append {xs ys:List V} {us ws:List Value} (h:Vals xs us) (s:Vals ys ws):Vals (xs++ys) (us++ws):=by
 induction h with
 | nil=>exact s
 | cons r _ ih=>exact .cons r ih
theorem Vals.take:∀ {xs:List V} {us:List Value} (n:Nat),Vals xs us→Vals (xs.take n) (us.take n)
 | _,_,0,_=>.nil
 | _,_,_+1,.nil=>.nil
 | _,_,n+1,.cons r t=>.cons r (Vals.take n t)
theorem Vals.drop:∀ {xs:List V} {us:List Value} (n:Nat),Vals xs us→Vals (xs.drop n) (us.drop n)
 | _,_,0,r=>r
 | _,_,_+1,.nil=>.nil
 | _,_,n+1,.cons _ t=>Vals.drop n t
noncomputable def j9:Option V→Option Value→Prop
 | some v,some u=>bI v u
 | none,none=>True
 | _,_=>False
noncomputable def KV {κ:Type}:List (κ×V)→List (κ×Value)→Prop:=Paired fun(p:κ×V) (q:κ×Value)=>p.1=q.1∧bI p.2 q.2
noncomputable def kV:Key→V
 | .inl i=>.int i
 | .inr x=>.str x
 | .no=>.non
inductive HO where
 /-- a list -/
 | lst (xs:List V)
 /-- a tuple (never changes) -/
 | tup (xs:List V)
 /-- a dict whose keys are ints and texts;one whose keys are tuples of ints and texts (the empty one is both) -/
 | dK (kvs:List (Key×V)) | dT (kvs:List (List Key×V))
 /-- a set of ints: its members,its size -/
 | set (S:Int→Bool) (n:Nat)
 /-- an instance of the class at C,its dict at dx,its attributes -/
 | ins (C dx:Addr) (fs:List (Str×V))
 /-- the dict of the instance at x -/
 | own (x:Addr)
 /-- the dict of an exception -/
 | xd (fs:List (Str×V))
 /-- a bound method,f of x -/
 | met (f x:Addr)
 /-- a range object lo,lo+1,.. below hi -/
 | rng (lo hi:Int)
 /-- a thing that is known to the object (the script;a dict while a loop walks it): read,never written while it is so -/
 | frz (o:Obj) (u:HO)
 /-- a code object's table -/
 | tbl (ps:Array Value)
 /-- any other thing,by what is true of its one object (a def of one's own: SetO a S n:=HO.ext fun h=>..) -/
 | ext (φ:Heap→Prop)
noncomputable abbrev Hp:=Addr→Option HO
noncomputable def upd (H:Hp) (a:Addr) (o:HO):Hp:=fun b=>if b=a then some o else H b
theorem aA {H:Hp} {a:Addr} {o:HO}:upd H a o a=some o:=by unfold upd;rw [if_pos rfl]
theorem aI {H:Hp} {a b:Addr} {o:HO} (h:b≠a):upd H a o b=H b:=by unfold upd;rw [if_neg h]
theorem dE {H:Hp} {a b:Addr} {o u:HO} (h:H a=some o) (h':H b=some u) (d:o≠u):a≠b:=by
 intro e;subst e;rw [h] at h';exact d (Option.some.inj h')
theorem aL {H:Hp} {a b:Addr} {o:HO} (h:H a=some o) (h':H b=none):a≠b:=by
 intro e;subst e;rw [h] at h';cases h'
section
variable (P:Program) (w:World)
noncomputable def cZ (H:Hp) (h:Heap) (a:Addr):HO→Prop
  | .lst xs=>xs.length≤sizeLine∧∃(its:List Value) (n:Nat),Vals xs its∧h.get? a=some {cls:=.type "list",data:=.seq its.toArray n}
  | .tup xs=>xs.length≤sizeLine∧∃ its:List Value,Vals xs its∧IsTup h a its.toArray
  | .dK kvs=>kvs.length≤sizeLine∧(a == sysModules)=false∧∃ vs,KV kvs vs∧h.DictOf (bS P w) a vs
  | .dT kvs=>kvs.length≤sizeLine∧(a == sysModules)=false∧∃ xs:List (List Key×Addr×Value),
      Paired (fun(p:List Key×V) (q:List Key×Addr×Value)=>p.1=q.1∧H q.2.1=some (.tup (p.1.map kV))∧bI p.2 q.2.2) kvs xs ∧
      ∃ o es ep,h.get? a=some o∧o.ExactDict∧o.data=.dict es ep∧es.toList=xs.map (entryOfKey (tupleKind (bS P w)))∧(xs.map (·.1)).Nodup
  | .set S n=>h.SetOf (intKind P w) a S n
  | .ins C dx fs=>H dx=some (.own a)∧fs.length≤1000∧dx≠a∧h.get? a=some (PySem.W.instObj C dx) ∧
      ∃ mA,h.Ns1 dx mA∧(∀ f,j9 (fs.lookup f) (mA f))∧PySem.Within mA (fs.map (·.1))
  | .own _=>∃ o,h.get? a=some o
  | .xd fs=>∃ mA,h.Ns1 a mA∧∀ f,j9 (fs.lookup f) (mA f)
  | .rng lo hi=>∃ t u v,h.get? a=some {cls:=.type "range",data:=.fields #[.int lo t,.int hi u,.int 1 v]}
  | .frz o u=>h.get? a=some o∧cZ H h a u
  | .tbl ps=>h.get? a=some {cls:=.none,data:=.fields ps}
  | .met f x=>h.get? a=some (PySem.W.methodObj (.ref f) (.ref x))
  | .ext φ=>φ h∧(∃ o,h.get? a=some o)∧∀ h1 h2:Heap,φ h1→(∀ o,h1.get? a=some o→h2.get? a=some o)→φ h2
noncomputable def HOk (H:Hp) (h:Heap):Prop:=∀ a o,H a=some o→cZ P w H h a o
end
section
variable {P:Program} {w:World} {H H':Hp} {h h':Heap} {a:Addr} {o:HO}
theorem cZ.lt (x:cZ P w H h a o):a < h.objs.size:=by
 cases o with
 | lst xs=>obtain ⟨_,_,_,_,e⟩:=x;exact Heap.lt_size e
 | tup xs=>obtain ⟨_,_,_,p⟩:=x;exact p.lt
 | dK kvs=>obtain ⟨_,_,_,_,o,_,_,e,_⟩:=x;exact Heap.lt_size e
 | dT kvs=>obtain ⟨_,_,_,_,o,_,_,e,_⟩:=x;exact Heap.lt_size e
 | set S n=>obtain ⟨o,_,_,_,e,_⟩:=x;exact Heap.lt_size e
 | ins C dx fs=>obtain ⟨_,_,_,e,_⟩:=x;exact Heap.lt_size e
 | own y=>obtain ⟨_,e⟩:=x;exact Heap.lt_size e
 | xd fs=>obtain ⟨_,⟨_,_,_,e,_⟩,_⟩:=x;exact Heap.lt_size e
 | rng lo hi=>obtain ⟨_,_,_,e⟩:=x;exact Heap.lt_size e
 | frz ob u=>obtain ⟨e,_⟩:=x;exact Heap.lt_size e
 | tbl ps=>exact Heap.lt_size (show h.get? a=some _ from x)
 | met f y=>exact Heap.lt_size (show h.get? a=some _ from x)
 | ext φ=>obtain ⟨_,⟨_,e⟩,_⟩:=x;exact Heap.lt_size e
theorem Paired.mapP {α β:Type} {F G:α→β→Prop}:∀ {l₁:List α} {l₂:List β},Paired F l₁ l₂→(∀ a b,F a b→G a b)→Paired G l₁ l₂
 | _,_,.nil,_=>.nil
 | _,_,.cons r t,f=>.cons (f _ _ r) (Paired.mapP t f)
theorem cZ.stay (x:cZ P w H h a o) (k:∀ b u,(b=a∨H b=some (.own a))→h.get? b=some u→h'.get? b=some u)
    (ho:∀ b,H b=some (.own a)→H' b=some (.own a)) (ht:∀ b xs,H b=some (.tup xs)→H' b=some (.tup xs)):cZ P w H' h' a o:=by
  induction o with
  | lst xs=>obtain ⟨z,its,n,r,e⟩:=x;exact ⟨z,its,n,r,k _ _ (.inl rfl) e⟩
  | tup xs=>obtain ⟨z,its,r,ob,e,c⟩:=x;exact ⟨z,its,r,ob,k _ _ (.inl rfl) e,c⟩
  | dK kvs=>obtain ⟨z,y,vs,r,ob,es,ep,e,c⟩:=x;exact ⟨z,y,vs,r,ob,es,ep,k _ _ (.inl rfl) e,c⟩
  | dT kvs =>
    obtain ⟨z,y,xs,r,ob,es,ep,e,c⟩:=x
    exact ⟨z,y,xs,Paired.mapP r fun p q z=>⟨z.1,ht _ _ z.2.1,z.2.2⟩,ob,es,ep,k _ _ (.inl rfl) e,c⟩
  | set S n=>obtain ⟨ob,es,ep,t,e,c⟩:=x;exact ⟨ob,es,ep,t,k _ _ (.inl rfl) e,c⟩
  | ins C dx fs =>
    obtain ⟨d,z,ne,e,mA,⟨od,es,ep,e2,c⟩,r⟩:=x
    exact ⟨ho _ d,z,ne,k _ _ (.inl rfl) e,mA,⟨od,es,ep,k _ _ (.inr d) e2,c⟩,r⟩
  | own y=>obtain ⟨ob,e⟩:=x;exact ⟨ob,k _ _ (.inl rfl) e⟩
  | xd fs=>obtain ⟨mA,⟨od,es,ep,e,c⟩,r⟩:=x;exact ⟨mA,⟨od,es,ep,k _ _ (.inl rfl) e,c⟩,r⟩
  | rng lo hi=>obtain ⟨t,u,v,e⟩:=x;exact ⟨t,u,v,k _ _ (.inl rfl) e⟩
  | frz ob u ih=>obtain ⟨e,q⟩:=x;exact ⟨k _ _ (.inl rfl) e,ih q⟩
  | tbl ps =>
    have e:h.get? a=some {cls:=.none,data:=.fields ps}:=x
    show h'.get? a=some {cls:=.none,data:=.fields ps}
    exact k a _ (.inl rfl) e
  | met f y =>
    have e:h.get? a=some (PySem.W.methodObj (.ref f) (.ref y)):=x
    show h'.get? a=some (PySem.W.methodObj (.ref f) (.ref y))
    exact k a _ (.inl rfl) e
  | ext φ=>obtain ⟨p,⟨o,e⟩,st⟩:=x;exact ⟨st _ _ p fun o q=>k _ _ (.inl rfl) q,⟨o,k _ _ (.inl rfl) e⟩,st⟩
theorem HOk.lt (x:HOk P w H h) (e:H a=some o):a < h.objs.size:=(x a o e).lt
theorem HOk.fresh (x:HOk P w H h) (e:h.objs.size≤a):H a=none:=by
 cases q:H a with
 | none=>rfl
 | some u=>exact absurd (Nat.lt_of_lt_of_le (x.lt q) e) (Nat.lt_irrefl _)
theorem HOk.kept (x:HOk P w H h) (k:∀ b u,h.get? b=some u→h'.get? b=some u):HOk P w H h':=fun a o e =>
 (x a o e).stay (fun b u _ q=>k b u q) (fun _ q=>q) fun _ _ q=>q
theorem HOk.laid (x:HOk P w H h) (k:∀ b u,h.get? b=some u→h'.get? b=some u) (hp:h.objs.size≤a) (new:cZ P w (upd H a o) h' a o):HOk P w (upd H a o) h':=fun b u e=>by
 have hn:=x.fresh hp
 by_cases hb:b=a
 ·subst hb;rw [aA] at e;cases e;exact new
 ·rw [aI hb] at e
  exact (x b u e).stay (fun c v _ q=>k c v q) (fun c q=>by rw [aI (aL q hn)];exact q) fun c xs q=>by rw [aI (aL q hn)];exact q
end
noncomputable def Rd (H:Hp) (a:Addr) (u:HO):Prop:=H a=some u∨∃ o,H a=some (.frz o u)
theorem Rd.ok {P:Program} {w:World} {H:Hp} {h:Heap} {a:Addr} {u:HO} (r:Rd H a u) (x:HOk P w H h):cZ P w H h a u:=by
 rcases r with r | ⟨o,r⟩
 ·exact x a u r
 ·obtain ⟨_,q⟩:=x a _ r
  exact q
noncomputable def Mut:Option HO→Prop
 | some (.lst _)=>True
 | some (.dK _)=>True
 | some (.dT _)=>True
 | some (.set _ _)=>True
 | some (.ins _ _ _)=>True
 | some (.ext _)=>True
 | _=>False
section
variable {P:Program} {w:World} {H:Hp} {h h':Heap} {x e:Addr} {o':HO}
theorem HOk.write (ok:HOk P w H h) (mu:Mut (H x)) (he:e=x∨H e=some (.own x)) (k:∀ b u,b≠e→h.get? b=some u→h'.get? b=some u) (heo:∃ u,h'.get? e=some u)
    (new:cZ P w (upd H x o') h' x o'):HOk P w (upd H x o') h':=fun b u q=>by
  have nown:∀ c y,H c=some (.own y)→c≠x:=fun c y r z=>by subst z;rw [r] at mu;exact mu
  have ntup:∀ c xs,H c=some (.tup xs)→c≠x:=fun c xs r z=>by subst z;rw [r] at mu;exact mu
  by_cases hb:b=x
  · subst hb;rw [aA] at q;cases q;exact new
  · rw [aI hb] at q
    by_cases hbe:b=e
    · have q':H b=some (.own x):=by
        rcases he with z | z
        · exact absurd (hbe.trans z) hb
        · rw [hbe];exact z
      rw [q] at q';cases q'
      obtain ⟨v,hv⟩:=heo
      exact ⟨v,by rw [hbe];exact hv⟩
    · refine (ok b u q).stay (fun c v hc r=>k c v ?_ r) (fun c r=>by rw [aI (nown c b r)];exact r) fun c xs r=>by rw [aI (ntup c xs r)];exact r
      rcases hc with rfl | hc
      · exact hbe
      · rintro rfl
        rcases he with z | z
        · exact nown c b hc z
        · rw [hc] at z;cases z;exact hb rfl
end
structure Un (fs ex:List Addr) (H H':Hp) (h h':Heap):Prop where
 keep:∀ b o,h.get? b=some o→H b=none→b∉fs→b∉ex→h'.get? b=some o
 slot:∀ b o,h.get? b=some o→H b=none→b∈fs→b∉ex→∃ sl,h'.get? b=some {o with slots:=sl}
 free:∀ b o,h.get? b=some o→H b=none→b∉ex→H' b=none
 there:∀ b o,h.get? b=some o→b∉ex→∃ o',h'.get? b=some o'
 tups:∀ b xs,H b=some (.tup xs)→H' b=some (.tup xs)
 frzs:∀ b o u,H b=some (.frz o u)→H' b=some (.frz o u)
 tbls:∀ b ps,H b=some (.tbl ps)→∃ more,H' b=some (.tbl (ps++more))
section
variable {fs fs' ex ex':List Addr} {H H1 H2:Hp} {h h1 h2 h':Heap} {a x e:Addr} {o:HO}
theorem Un.any (u:Un fs ex H H1 h h1) {b:Addr} {ob:Obj} (q:h.get? b=some ob) (n:H b=none) (hx:b∉ex):∃ sl,h1.get? b=some {ob with slots:=sl}:=by
 by_cases hb:b∈fs
 ·exact u.slot b ob q n hb hx
 ·exact ⟨ob.slots,u.keep b ob q n hb hx⟩
theorem Un.kept (k:∀ b u,h.get? b=some u→h'.get? b=some u):Un fs ex H H h h' :=
 ⟨fun b ob q _ _ _=>k b ob q,fun b ob q _ _ _=>⟨ob.slots,k b ob q⟩,fun _ _ _ n _=>n,fun b ob q _=>⟨ob,k b ob q⟩,fun _ _ q=>q,fun _ _ _ q=>q,fun _ ps q=>⟨#[],by rw [q];simp⟩⟩
theorem Un.refl:Un fs ex H H h h:=Un.kept fun _ _ q=>q
theorem Un.laid (k:∀ b u,h.get? b=some u→h'.get? b=some u) (hp:h.objs.size≤a) (hn:H a=none):Un fs ex H (upd H a o) h h' where
 keep:=fun b u q _ _ _=>k b u q
 slot:=fun b u q _ _ _=>⟨u.slots,k b u q⟩
 free:=fun b u q n _=>by rw [aI (Nat.ne_of_lt (Nat.lt_of_lt_of_le (Heap.lt_size q) hp))];exact n
 there:=fun b u q _=>⟨u,k b u q⟩
 tups:=fun b xs q=>by rw [aI (aL q hn)];exact q
 frzs:=fun b u xs q=>by rw [aI (aL q hn)];exact q
 tbls:=fun b ps q=>⟨#[],by rw [aI (aL q hn),q];simp⟩
theorem Un.write (mu:Mut (H x)) (he:e=x∨H e=some (.own x)) (k:∀ b u,b≠e→h.get? b=some u→h'.get? b=some u) (heo:∃ u,h'.get? e=some u):Un fs ex H (upd H x o) h h':=by
 have hx:∀ b,H b=none→b≠x:=fun b n z=>by subst z;rw [n] at mu;exact mu
 have hb:∀ b,H b=none→b≠e:=fun b n z=>by
  subst z
  rcases he with r | r
  ·exact hx b n r
  ·rw [n] at r;cases r
 have hm:∀ b u,H b=some u→¬ Mut (some u)→b≠x:=fun b u q nm z=>by subst z;rw [q] at mu;exact nm mu
 refine ⟨fun b u q n _ _=>k b u (hb b n) q,fun b u q n _ _=>⟨u.slots,k b u (hb b n) q⟩,fun b u q n _=>by rw [aI (hx b n)];exact n,fun b u q _=>?_,
  fun b xs q=>by rw [aI (hm b _ q fun z=>z)];exact q,fun b u xs q=>by rw [aI (hm b _ q fun z=>z)];exact q,fun b ps q=>⟨#[],by rw [aI (hm b _ q fun z=>z),q];simp⟩⟩
 by_cases hbe:b=e
 ·subst hbe;exact heo
 ·exact ⟨u,k b u hbe q⟩
end
noncomputable def trk (h:Heap) (H:Hp):List Addr:=(List.range h.objs.size).filter fun a=>(H a).isSome
noncomputable def wB (h:Heap) (H:Hp):Heap:=PySem.W.hideAll h (trk h H)
theorem abM (h:Heap) (H:Hp):(wB h H).objs.size=h.objs.size:=PySem.W.hideAll_size _ _
theorem hidT_get {h:Heap} {H:Hp} {b:Addr} {o:Obj} (e:h.get? b=some o) (n:H b=none):(wB h H).get? b=some o :=
 PySem.W.hideAll_get _ e fun hm=>by
  have q:(H b).isSome=true:=(List.mem_filter.mp hm).2
  rw [n] at q;simp at q
theorem of_hidT {h:Heap} {H:Hp} {b:Addr} {o:Obj} (e:(wB h H).get? b=some o):h.get? b=some o∧H b=none:=by
 have e':h.get? b=some o:=PySem.W.of_hideAll (trk h H) e
 refine ⟨e',?_⟩
 cases q:H b with
 | none=>rfl
 | some x =>
  have hm:b∈trk h H:=List.mem_filter.mpr ⟨List.mem_range.mpr (Heap.lt_size e'),by simp [q]⟩
  have z:(wB h H).get? b=none:=PySem.W.hideAll_none (trk h H) hm
  rw [z] at e;cases e
noncomputable def allNews (g h:Heap) (L:Addr):List (Addr×Obj):=(List.range h.objs.size).filterMap fun a=>if a=L∨(g.get? a).isSome=true then none else (h.get? a).map fun o=>(a,o)
noncomputable def rest (g h:Heap) (L d:Addr):List (Addr×Obj):=(allNews g h L).filter fun p=>decide (p.1≠d)
end L2
namespace L2
open PySem PySem.Spec PyProof.Rows
structure Mod (K:PySem.W.Frag) (mg:Str→Option Value) (base:Heap):Prop where
 kin:K.In base
 glob:base.Ns mainGlobals mg
 blt:∃ mb,base.Ns builtinsNs mb∧∀ x:Str,x≠"__name__"→mb x=bootBuiltins x
 nolimit:base.NoLimit
structure Cx where
 prog:Program
 w:World
 K:PySem.W.Frag
 mg:Str→Option Value
 base:Heap
 A:Around
 N:List Str
 s₀:Shared
 H₀:Hp
 env:Env
 outer:List Env
 stack:List Env
 ex:List Addr
 fn:Str→Bool
 calm:Bool
 pn:List (Addr×Obj)
 xe:Value→Shared→Prop
noncomputable def frs (l:List Env):List Addr:=l.filterMap (·.frame)
noncomputable abbrev Cx.fs (X:Cx):List Addr:=frs X.outer
noncomputable def Vis (sc:Scope) (x:Str):Prop:=sc.names.lookup x=some .local∨sc.names.lookup x=some .cell∨sc.names.lookup x=some .free
noncomputable def Loc (sc:Scope) (x:Str):Prop:=sc.names.lookup x=some .local∨sc.names.lookup x=some .cell
noncomputable def Look (env:Env) (h:Heap) (m:Str→Option Value) (x:Str) (u:Value):Prop :=
 (env.kindOf x=some .local∧m x=some u)∨((env.kindOf x=some .cell∨env.kindOf x=some .free)∧∃ c,env.cells.lookup x=some c∧h.IsCell c (some u))
structure Cx.Ok (X:Cx):Prop where
 mod:Mod X.K X.mg X.base
 kind:X.env.scope.kind=.function
 glob:X.env.globals=mainGlobals
 blt:X.env.builtins=builtinsNs
 above:X.s₀.heap.objs.size≤X.env.locals
 inj:∀ x y c,X.env.cells.lookup x=some c→X.env.cells.lookup y=some c→x=y
 has:∀ x,(X.env.kindOf x=some .cell∨X.env.kindOf x=some .free)→∃ c,X.env.cells.lookup x=some c
 cab:∀ x c,X.fn x=true→X.env.cells.lookup x=some c→X.s₀.heap.objs.size≤c
 hd:X.calm=true→X.A.handled=none
 frames:X.A.frames=some X.stack
 stk:X.stack=X.outer∨(X.stack=X.env::X.outer∧X.env.frame=some X.env.locals)
 exf:∀ b∈X.ex,b≠X.env.locals∧∀ x c,X.env.cells.lookup x=some c→c≠b
 bs:∀ b o,X.base.get? b=some o→X.s₀.heap.get? b=some o∧X.H₀ b=none
 bsz:X.base.objs.size≤X.s₀.heap.objs.size
 noex:∀ b o,X.base.get? b=some o→b∉X.ex
 exfs:∀ b∈X.ex,b∉X.fs
 funs:X.s₀.heap.FunFrames X.base X.outer
 frf:∀ b∈X.fs,X.H₀ b=none
structure Inv (X:Cx) (pins:List (Addr×Obj)) (σ:List (Option V)) (H:Hp) (s:Shared):Prop where
 ok:X.Ok
 os:s.os=X.s₀.os
 bare:AllBare s.gens
 base:Un X.fs X.ex X.H₀ H X.s₀.heap s.heap
 loc:∃ m,s.heap.Ns X.env.locals m∧∀(i:Nat) (x:Str) (v:V),X.N[i]?=some x→σ[i]?=some (some v)→Vis X.env.scope x→∃ u,bI v u∧Look X.env s.heap m x u
 cell:∀ x c,X.env.cells.lookup x=some c→∃ v,s.heap.IsCell c v
 free:H X.env.locals=none
 freeC:∀ x c,X.env.cells.lookup x=some c→H c=none
 pin:∀ p∈X.pn++pins,s.heap.get? p.1=some p.2∧H p.1=none∧p.1≠X.env.locals∧p.1∉X.fs∧∀ v,p.2.data≠.cell v
 hok:HOk X.prog X.w H s.heap
 len:σ.length=X.N.length
section
variable {X:Cx} {pins:List (Addr×Obj)} {σ:List (Option V)} {H H':Hp} {s:Shared} {h':Heap}
theorem Cx.Ok.nofr (ok:X.Ok) {b:Addr} {o:Obj} (e:X.base.get? b=some o):b∉X.fs:=fun hb=>by
 have:=(ok.funs.mem hb).1
 rw [e] at this;cases this
theorem Inv.bs (I:Inv X pins σ H s):∀ b o,X.base.get? b=some o→s.heap.get? b=some o∧H b=none:=fun b o e =>
 ⟨I.base.keep b o (I.ok.bs b o e).1 (I.ok.bs b o e).2 (I.ok.nofr e) (I.ok.noex b o e),I.base.free b o (I.ok.bs b o e).1 (I.ok.bs b o e).2 (I.ok.noex b o e)⟩
theorem Inv.bk (I:Inv X pins σ H s):∀ b o,X.base.get? b=some o→s.heap.get? b=some o:=fun b o e=>(I.bs b o e).1
theorem Inv.mod (I:Inv X pins σ H s):Mod X.K X.mg X.base:=I.ok.mod
theorem Inv.kIn (I:Inv X pins σ H s):X.K.In s.heap:=I.ok.mod.kin.keeps I.bk
theorem Inv.fr (I:Inv X pins σ H s):∃ m,Fr X.base X.env.locals s.heap m :=
 let ⟨m,hn,_⟩:=I.loc
 ⟨m,hn,I.bk,Nat.le_trans I.ok.bsz I.ok.above⟩
theorem Inv.lt (I:Inv X pins σ H s):X.env.locals < s.heap.objs.size:=let ⟨_,hn,_⟩:=I.loc;hn.lt
theorem Inv.sz (I:Inv X pins σ H s):X.s₀.heap.objs.size≤s.heap.objs.size:=Nat.le_trans I.ok.above (Nat.le_of_lt I.lt)
theorem Inv.nofs (I:Inv X pins σ H s) {a:Addr} (h:s.heap.objs.size≤a):a∉X.fs:=fun hb=>by
 obtain ⟨_,o,ho,_⟩:=I.ok.funs.mem hb
 exact absurd (Nat.lt_of_lt_of_le (Heap.lt_size ho) (Nat.le_trans I.sz h)) (Nat.lt_irrefl _)
theorem Inv.cne (I:Inv X pins σ H s):∀ x c,X.env.cells.lookup x=some c→c≠X.env.locals:=fun x c e z=>by
 obtain ⟨v,o,ho,hd⟩:=I.cell x c e
 obtain ⟨m,⟨o',es,ep,ho',hd',_⟩,_⟩:=I.loc
 rw [z,ho'] at ho;cases ho;rw [hd'] at hd;cases hd
theorem Inv.funs (I:Inv X pins σ H s):s.heap.FunFrames X.base X.outer:=by
 have all:∀(l:List Env),(∀ b∈frs l,b∈X.fs)→X.s₀.heap.FunFrames X.base l→s.heap.FunFrames X.base l:=by
  intro l
  induction l with
  | nil=>intro _ _;trivial
  | cons env r ih =>
   intro hs hl
   obtain ⟨hk,⟨L,o,hf,hn,ho,hd⟩,hr⟩:=hl
   have hL:L∈X.fs:=hs L (by unfold frs;rw [List.filterMap_cons,hf];exact List.mem_cons_self)
   obtain ⟨sl,e⟩:=I.base.slot L o ho (I.ok.frf L hL) hL fun z=>I.ok.exfs L z hL
   exact ⟨hk,⟨L,_,hf,hn,e,hd⟩,ih (fun b hb=>hs b (by unfold frs;rw [List.filterMap_cons,hf];exact List.mem_cons_of_mem _ hb)) hr⟩
 exact all X.outer (fun _ hb=>hb) I.ok.funs
theorem Inv.stack (I:Inv X pins σ H s):s.heap.FunFrames X.base X.stack:=by
 rcases I.ok.stk with e | ⟨e,hf⟩
 ·rw [e];exact I.funs
 ·rw [e]
  obtain ⟨m,hn,_⟩:=I.loc
  refine .cons (by rw [I.ok.kind];decide) hf hn ?_ I.funs
  exact Heap.get?_none_of_le (Nat.le_trans I.ok.bsz I.ok.above)
theorem Inv.stkSub (I:Inv X pins σ H s):∀ b∈frs X.stack,b∈X.env.locals::X.fs:=fun b hb=>by
 rcases I.ok.stk with e | ⟨e,hf⟩
 ·rw [e] at hb;exact List.mem_cons_of_mem _ hb
 ·rw [e] at hb
  unfold frs at hb
  rw [List.filterMap_cons,hf] at hb
  exact hb
theorem Inv.stkFree (I:Inv X pins σ H s):∀ b∈frs X.stack,H b=none:=fun b hb=>by
 rcases List.mem_cons.mp (I.stkSub b hb) with e | hb
 ·rw [e];exact I.free
 ·obtain ⟨_,o,ho,_⟩:=I.ok.funs.mem hb
  exact I.base.free b o ho (I.ok.frf b hb) fun z=>I.ok.exfs b z hb
theorem Inv.step {g':Array GenState} {t':Nat} {d':Drawn} {ch:List Addr} (I:Inv X pins σ H s)
    (hch:∀ b∈ch,(b∈X.ex∨X.s₀.heap.objs.size≤b)∧b≠X.env.locals∧(∀ x c,X.env.cells.lookup x=some c→c≠b)∧∀ p∈X.pn++pins,p.1≠b)
    (keep:∀ b o,b≠X.env.locals→b∉X.fs→b∉ch→s.heap.get? b=some o→H b=none→h'.get? b=some o)
    (slot:∀ b o,b≠X.env.locals→b∈X.fs→b∉ch→s.heap.get? b=some o→H b=none→∃ sl,h'.get? b=some {o with slots:=sl}) (free:∀ b o,b∉ch→s.heap.get? b=some o→H b=none→H' b=none)
    (there:∀ b o,b∉ch→s.heap.get? b=some o→∃ o',h'.get? b=some o')
    (tups:∀ b xs,H b=some (.tup xs)→H' b=some (.tup xs)) (frzs:∀ b o u,H b=some (.frz o u)→H' b=some (.frz o u)) (tbls:∀ b ps,H b=some (.tbl ps)→∃ more,H' b=some (.tbl (ps++more)))
    (ns:∀ m,s.heap.Ns X.env.locals m→h'.Ns X.env.locals m) (hok:HOk X.prog X.w H' h') (hg:AllBare g') :
    Inv X pins σ H' {s with heap:=h',gens:=g',drawn:=d',toks:=t'}:=by
  have neL:∀ b o,X.s₀.heap.get? b=some o→b≠X.env.locals:=fun b o e=>Nat.ne_of_lt (Nat.lt_of_lt_of_le (Heap.lt_size e) I.ok.above)
  have neC:∀ b o,X.s₀.heap.get? b=some o→b∉X.ex→b∉ch:=fun b o e hx hb=>by
    rcases (hch b hb).1 with z | z
    · exact hx z
    · exact absurd (Nat.lt_of_lt_of_le (Heap.lt_size e) z) (Nat.lt_irrefl _)
  have cellK:∀ x c,X.env.cells.lookup x=some c→∀ v,s.heap.IsCell c v→h'.IsCell c v:=fun x c e v ⟨o,ho,hd⟩=>by
    have nch:c∉ch:=fun z=>(hch c z).2.2.1 x c e rfl
    by_cases hc:c∈X.fs
    · obtain ⟨sl,q⟩:=slot c o (I.cne x c e) hc nch ho (I.freeC x c e)
      exact ⟨_,q,hd⟩
    · exact ⟨o,keep c o (I.cne x c e) hc nch ho (I.freeC x c e),hd⟩
  refine ⟨I.ok,I.os,hg,⟨fun b o e n hb hx=>?_,fun b o e n hb hx=>?_,fun b o e n hx=>?_,fun b o e hx=>?_,fun b xs e=>tups b xs (I.base.tups b xs e),fun b o xs e=>frzs b o xs (I.base.frzs b o xs e),fun b ps e=>?_⟩,?_,fun x c e=>?_,?_,fun x c e=>?_,fun p hp=>?_,hok,I.len⟩
  · exact keep b o (neL b o e) hb (neC b o e hx) (I.base.keep b o e n hb hx) (I.base.free b o e n hx)
  · obtain ⟨sl,e1⟩:=I.base.slot b o e n hb hx
    obtain ⟨sl',e2⟩:=slot b _ (neL b o e) hb (neC b o e hx) e1 (I.base.free b o e n hx)
    exact ⟨sl',e2⟩
  · obtain ⟨o',e1⟩:=I.base.there b o e hx
    exact free b o' (neC b o e hx) e1 (I.base.free b o e n hx)
  · obtain ⟨o',e1⟩:=I.base.there b o e hx
    exact there b o' (neC b o e hx) e1
  · obtain ⟨m1,e1⟩:=I.base.tbls b ps e
    obtain ⟨m2,e2⟩:=tbls b _ e1
    exact ⟨m1++m2,by rw [e2,Array.append_assoc]⟩
  · obtain ⟨m,hn,hl⟩:=I.loc
    refine ⟨m,ns m hn,fun i x v e1 e2 e3=>?_⟩
    obtain ⟨u,r,l⟩:=hl i x v e1 e2 e3
    refine ⟨u,r,?_⟩
    rcases l with l | ⟨k,c,e,z⟩
    · exact .inl l
    · exact .inr ⟨k,c,e,cellK x c e _ z⟩
  · obtain ⟨v,z⟩:=I.cell x c e
    exact ⟨v,cellK x c e v z⟩
  · obtain ⟨m,⟨o,_,_,ho,_⟩,_⟩:=I.loc
    exact free _ o (fun z=>(hch _ z).2.1 rfl) ho I.free
  · obtain ⟨v,o,ho,hd⟩:=I.cell x c e
    exact free c o (fun z=>(hch c z).2.2.1 x c e rfl) ho (I.freeC x c e)
  · obtain ⟨e,n,ne,nf,d⟩:=I.pin p hp
    have nch:p.1∉ch:=fun z=>(hch p.1 z).2.2.2 p hp rfl
    exact ⟨keep p.1 p.2 ne nf nch e n,free p.1 p.2 nch e n,ne,nf,d⟩
theorem Inv.un {t':Nat} (I:Inv X pins σ H s) (u:Un X.fs [] H H' s.heap h') (hok:HOk X.prog X.w H' h'):Inv X pins σ H' {s with heap:=h',toks:=t'}:=by
 obtain ⟨m,⟨o,es,ep,ho,r⟩,_⟩:=id I.loc
 obtain ⟨sl,hL⟩:=u.any ho I.free (by simp)
 exact I.step (g':=s.gens) (d':=s.drawn) (ch:=[]) (fun _ z=>nomatch z) (fun b o _ hb _ e n=>u.keep b o e n hb (by simp)) (fun b o _ hb _ e n=>u.slot b o e n hb (by simp)) (fun b o _ e n=>u.free b o e n (by simp)) (fun b o _ e=>u.there b o e (by simp)) u.tups u.frzs u.tbls (fun m' hm=>by
  obtain ⟨o',es',ep',ho',r'⟩:=hm
  rw [ho] at ho';cases ho'
  exact ⟨_,es',ep',hL,r'⟩) hok I.bare
theorem Inv.call {g':Array GenState} {t':Nat} {d':Drawn} {ch:List Addr} (I:Inv X pins σ H s) (u:Un (frs X.stack) ch H H' s.heap h') (hok:HOk X.prog X.w H' h') (hg:AllBare g')
    (hch:∀ b∈ch,(b∈X.ex∨X.s₀.heap.objs.size≤b)∧b≠X.env.locals∧(∀ x c,X.env.cells.lookup x=some c→c≠b)∧∀ p∈X.pn++pins,p.1≠b) :
    Inv X pins σ H' {s with heap:=h',gens:=g',drawn:=d',toks:=t'}:=by
  obtain ⟨m,⟨o,es,ep,ho,r⟩,_⟩:=id I.loc
  obtain ⟨sl,hL⟩:=u.any ho I.free fun z=>(hch _ z).2.1 rfl
  exact I.step (ch:=ch) hch (fun b o hL hb hc e n=>u.keep b o e n (fun z=>(List.mem_cons.mp (I.stkSub b z)).elim hL hb) hc) (fun b o _ _ hc e n=>u.any e n hc) (fun b o hc e n=>u.free b o e n hc) (fun b o hc e=>u.there b o e hc) u.tups u.frzs u.tbls (fun m' hm=>by
    obtain ⟨o',es',ep',ho',r'⟩:=hm
    rw [ho] at ho';cases ho'
    exact ⟨_,es',ep',hL,r'⟩) hok hg
theorem Inv.turned {t':Nat} {it:Addr} (I:Inv X pins σ H s) (k:∀ b o,b≠it→s.heap.get? b=some o→h'.get? b=some o) (hn:H it=none) (hL:it≠X.env.locals)
    (h1:it∈X.ex∨X.s₀.heap.objs.size≤it) (h2:∀ x c,X.env.cells.lookup x=some c→c≠it) (h3:∀ p∈X.pn++pins,p.1≠it):Inv X pins σ H {s with heap:=h',toks:=t'}:=by
  have nit:∀ b u,H b=some u→b≠it:=fun b u e z=>by rw [z,hn] at e;cases e
  refine I.step (g':=s.gens) (d':=s.drawn) (ch:=[it]) (fun b hb=>?_) (fun b o _ _ hc e _=>k b o (fun z=>hc (by simp [z])) e) (fun b o _ _ hc e _=>⟨o.slots,k b o (fun z=>hc (by simp [z])) e⟩) (fun _ _ _ _ n=>n)
    (fun b o hc e=>⟨o,k b o (fun z=>hc (by simp [z])) e⟩) (fun _ _ e=>e) (fun _ _ _ e=>e) (fun b ps e=>⟨#[],by rw [e];simp⟩) (fun m hm=>?_) (fun b u e=>?_) I.bare
  · have e:b=it:=by simpa using hb
    subst e
    exact ⟨h1,hL,h2,h3⟩
  · obtain ⟨o,es,ep,ho,r⟩:=hm
    exact ⟨o,es,ep,k _ o (Ne.symm hL) ho,r⟩
  · refine (I.hok b u e).stay (fun c v hc q=>k c v ?_ q) (fun _ q=>q) fun _ _ q=>q
    rcases hc with z | z
    · rw [z];exact nit b u e
    · exact nit c _ z
theorem Inv.tok (I:Inv X pins σ H s) (t:Nat):Inv X pins σ H {s with toks:=t}:=I.un (h':=s.heap) (t':=t) Un.refl I.hok
theorem Inv.kept {t':Nat} (I:Inv X pins σ H s) (k:∀ b u,s.heap.get? b=some u→h'.get? b=some u):Inv X pins σ H {s with heap:=h',toks:=t'}:=I.un (Un.kept k) (I.hok.kept k)
theorem Inv.laid {a:Addr} {o:HO} {t':Nat} (I:Inv X pins σ H s) (k:∀ b u,s.heap.get? b=some u→h'.get? b=some u) (hp:s.heap.objs.size≤a) (new:cZ X.prog X.w (upd H a o) h' a o) :
    Inv X pins σ (upd H a o) {s with heap:=h',toks:=t'}:=I.un (Un.laid k hp (I.hok.fresh hp)) (I.hok.laid k hp new)
theorem Inv.write {x e:Addr} {o:HO} {t':Nat} (I:Inv X pins σ H s) (mu:Mut (H x)) (he:e=x∨H e=some (.own x)) (k:∀ b u,b≠e→s.heap.get? b=some u→h'.get? b=some u) (heo:∃ u,h'.get? e=some u)
    (new:cZ X.prog X.w (upd H x o) h' x o):Inv X pins σ (upd H x o) {s with heap:=h',toks:=t'}:=I.un (Un.write mu he k heo) (I.hok.write mu he k heo new)
theorem Inv.pins_of {pins':List (Addr×Obj)} (I:Inv X pins σ H s) (h:∀ p∈pins',s.heap.get? p.1=some p.2∧H p.1=none∧p.1≠X.env.locals∧p.1∉X.fs∧∀ v,p.2.data≠.cell v):Inv X pins' σ H s :=
 ⟨I.ok,I.os,I.bare,I.base,I.loc,I.cell,I.free,I.freeC,fun p hp=>(List.mem_append.mp hp).elim (fun z=>I.pin p (List.mem_append_left _ z)) (h p),I.hok,I.len⟩
theorem xU {N:List Str} (hN:N.Nodup) {i j:Nat} {x:Str} (a:N[i]?=some x) (b:N[j]?=some x):i=j:=by
 obtain ⟨h1,e1⟩:=List.getElem?_eq_some_iff.mp a
 obtain ⟨h2,e2⟩:=List.getElem?_eq_some_iff.mp b
 exact (List.getElem_inj hN).mp (e1.trans e2.symm)
theorem uA {M:Model} {A:Around} {E:Value→Shared→Prop} {i:Nat} {x:Str} {v:V} {u:Value} {Q:Unit→Shared→Prop} (I:Inv X pins σ H s) (hN:X.N.Nodup) (hi:X.N[i]?=some x) (hx:Loc X.env.scope x) (r:bI v u)
    (h:∀ s',Inv X pins (σ.set i (some v)) H s'→(∃ a,Heap.SameBut a s.heap s'.heap∧(a=X.env.locals∨X.env.cells.lookup x=some a))→Q () s') (hf:X.fn x=true∨X.env.scope.names.lookup x=some .local:=by first | exact .inl rfl | exact .inr rfl | assumption):wpAny M A (storeName X.env x u) Q E s:=by
  obtain ⟨m,hn,hl⟩:=id I.loc
  have hcls:(X.env.scope.kind == .class || (X.env.scope.kind == .module && X.env.locals != X.env.globals))=false:=by rw [I.ok.kind];rfl
  have hiσ:i < σ.length:=by rw [I.len];exact (List.getElem?_eq_some_iff.mp hi).1
  have cne:=I.cne
  have tracked:∀ {a:Addr} {h':Heap},(∃ o,s.heap.get? a=some o∧H a=none)→Heap.SameBut a s.heap h'→HOk X.prog X.w H h':=fun {a h'} ha hs b ob e=>by
    obtain ⟨_,_,hfree⟩:=ha
    refine (I.hok b ob e).stay (fun c w' hc q=>(hs.2 c ?_).trans q) (fun _ q=>q) fun _ _ q=>q
    rintro rfl
    rcases hc with rfl | hc
    · rw [hfree] at e;cases e
    · rw [hfree] at hc;cases hc
  rcases hx with hk | hk
  · refine wpAny_storeName_local hk hn (fun h' hn' hs=>?_) hcls
    obtain ⟨oL,_,_,hoL,_⟩:=id hn
    refine h _ ⟨I.ok,I.os,I.bare,⟨fun b o e n hb hx=>?_,fun b o e n hb hx=>?_,I.base.free,fun b o e hx=>?_,I.base.tups,I.base.frzs,I.base.tbls⟩,⟨_,hn',fun j y v' e1 e2 e3=>?_⟩,fun y c e=>?_,I.free,I.freeC,fun p hp=>?_,tracked ⟨oL,hoL,I.free⟩ hs,by simpa using I.len⟩ ⟨_,hs,.inl rfl⟩
    · exact (hs.2 b (Nat.ne_of_lt (Nat.lt_of_lt_of_le (Heap.lt_size e) I.ok.above))).trans (I.base.keep b o e n hb hx)
    · obtain ⟨sl,e1⟩:=I.base.slot b o e n hb hx
      exact ⟨sl,(hs.2 b (Nat.ne_of_lt (Nat.lt_of_lt_of_le (Heap.lt_size e) I.ok.above))).trans e1⟩
    · obtain ⟨o',e1⟩:=I.base.there b o e hx
      exact ⟨o',(hs.2 b (Nat.ne_of_lt (Nat.lt_of_lt_of_le (Heap.lt_size e) I.ok.above))).trans e1⟩
    · by_cases hj:j=i
      · subst hj
        rw [hi] at e1;cases e1
        rw [List.getElem?_set_self hiσ] at e2
        cases e2
        exact ⟨u,r,.inl ⟨hk,by simp⟩⟩
      · rw [List.getElem?_set_ne (Ne.symm hj)] at e2
        obtain ⟨u',r',q⟩:=hl j y v' e1 e2 e3
        refine ⟨u',r',?_⟩
        rcases q with ⟨k,e⟩ | ⟨k,c,e,z⟩
        · refine .inl ⟨k,?_⟩
          have:y≠x:=fun e=>hj (xU hN e1 (e ▸ hi))
          simp [this,e]
        · exact .inr ⟨k,c,e,z.sameBut hs (cne y c e)⟩
    · obtain ⟨w',z⟩:=I.cell y c e
      exact ⟨w',z.sameBut hs (cne y c e)⟩
    · obtain ⟨e,n,ne,nf,d⟩:=I.pin p hp
      exact ⟨(hs.2 p.1 ne).trans e,n,ne,nf,d⟩
  · have hfn:X.fn x=true:=by
      rcases hf with z | z
      · exact z
      · rw [z] at hk;cases hk
    obtain ⟨c,hc⟩:=I.ok.has x (.inl hk)
    obtain ⟨w',z⟩:=I.cell x c hc
    refine wpAny_storeName_cell I.ok.kind hk hc z (fun h' hc' hs=>?_)
    obtain ⟨oc,hoc,hocd⟩:=id z
    refine h {s with heap:=h'} ⟨I.ok,I.os,I.bare,⟨fun b o e n hb hx=>?_,fun b o e n hb hx=>?_,I.base.free,fun b o e hx=>?_,I.base.tups,I.base.frzs,I.base.tbls⟩,⟨m,hn.sameBut hs (Ne.symm (cne x c hc)),fun j y v' e1 e2 e3=>?_⟩,fun y c' e=>?_,I.free,I.freeC,fun p hp=>?_,tracked ⟨oc,hoc,I.freeC x c hc⟩ hs,by simpa using I.len⟩ ⟨c,hs,.inr hc⟩
    · exact (hs.2 b (Nat.ne_of_lt (Nat.lt_of_lt_of_le (Heap.lt_size e) (I.ok.cab x c hfn hc)))).trans (I.base.keep b o e n hb hx)
    · obtain ⟨sl,e1⟩:=I.base.slot b o e n hb hx
      exact ⟨sl,(hs.2 b (Nat.ne_of_lt (Nat.lt_of_lt_of_le (Heap.lt_size e) (I.ok.cab x c hfn hc)))).trans e1⟩
    · obtain ⟨o',e1⟩:=I.base.there b o e hx
      exact ⟨o',(hs.2 b (Nat.ne_of_lt (Nat.lt_of_lt_of_le (Heap.lt_size e) (I.ok.cab x c hfn hc)))).trans e1⟩
    · by_cases hj:j=i
      · subst hj
        rw [hi] at e1;cases e1
        rw [List.getElem?_set_self hiσ] at e2
        cases e2
        exact ⟨u,r,.inr ⟨.inl hk,c,hc,hc'⟩⟩
      · rw [List.getElem?_set_ne (Ne.symm hj)] at e2
        obtain ⟨u',r',q⟩:=hl j y v' e1 e2 e3
        refine ⟨u',r',?_⟩
        rcases q with q | ⟨k,c',e,z'⟩
        · exact .inl q
        · refine .inr ⟨k,c',e,z'.sameBut hs ?_⟩
          rintro rfl
          exact hj (xU hN e1 (I.ok.inj _ _ _ e hc ▸ hi))
    · by_cases hcc:c'=c
      · subst hcc;exact ⟨_,hc'⟩
      · obtain ⟨w2,z2⟩:=I.cell y c' e
        exact ⟨w2,z2.sameBut hs hcc⟩
    · obtain ⟨e,n,ne,nf,d⟩:=I.pin p hp
      refine ⟨(hs.2 p.1 ?_).trans e,n,ne,nf,d⟩
      intro q
      rw [q,hoc] at e
      have q':oc=p.2:=Option.some.inj e
      exact d w' (by rw [← q'];exact hocd)
theorem sT {M:Model} {A:Around} {E:Value→Shared→Prop} {i:Nat} {x:Str} {v:V} {u:Value} {Q:Unit→Shared→Prop} (I:Inv X pins σ H s) (hN:X.N.Nodup) (hi:X.N[i]?=some x) (hx:Loc X.env.scope x) (r:bI v u)
    (h:∀ s',Inv X pins (σ.set i (some v)) H s'→Q () s') (hf:X.fn x=true∨X.env.scope.names.lookup x=some .local:=by first | exact .inl rfl | exact .inr rfl | assumption):wpAny M A (storeName X.env x u) Q E s :=
  uA I hN hi hx r (fun s' I' _=>h s' I') hf
theorem Inv.call' {s':Shared} {ch:List Addr} (I:Inv X pins σ H s) (ho:s'.os=s.os) (u:Un (frs X.stack) ch H H' s.heap s'.heap) (hok:HOk X.prog X.w H' s'.heap) (hg:AllBare s'.gens)
    (hch:∀ b∈ch,(b∈X.ex∨X.s₀.heap.objs.size≤b)∧b≠X.env.locals∧(∀ x c,X.env.cells.lookup x=some c→c≠b)∧∀ p∈X.pn++pins,p.1≠b):Inv X pins σ H' s':=by
  obtain ⟨h',g',d',t',o'⟩:=s'
  have e:o'=s.os:=ho
  subst e
  exact I.call (g':=g') (t':=t') (d':=d') u hok hg hch
end
noncomputable abbrev XK:=Value→Option Addr→Hp→Prop
noncomputable abbrev St:=List (Option V)
noncomputable abbrev VK:=V→Hp→Prop
noncomputable abbrev TE:=St→Hp→VK→Prop
noncomputable abbrev TT:=St→Hp→(Bool→Hp→Prop)→Prop
noncomputable abbrev TA:=St→Hp→(List V→Hp→Prop)→Prop
structure Ends where
 nx:St→Hp→Prop
 rt:VK
 bk:St→Hp→Prop:=fun _ _=>False
 ct:St→Hp→Prop:=fun _ _=>False
noncomputable abbrev TS:=Ends→St→Hp→Prop
noncomputable def EP (X:Cx) (pins:List (Addr×Obj)) (σ:St) (Q:VK) (u:Value) (s':Shared):Prop:=∃ v H',Inv X pins σ H' s'∧bI v u∧Q v H'
noncomputable def TP (X:Cx) (pins:List (Addr×Obj)) (σ:St) (Q:Bool→Hp→Prop) (b:Bool) (s':Shared):Prop:=∃ H',Inv X pins σ H' s'∧Q b H'
noncomputable def AP (X:Cx) (pins:List (Addr×Obj)) (σ:St) (Q:List V→Hp→Prop) (us:List Value) (s':Shared):Prop:=∃ vs H',Inv X pins σ H' s'∧Vals vs us∧Q vs H'
noncomputable def SP (X:Cx) (pins:List (Addr×Obj)) (D:Ends) (f:Flow) (s':Shared):Prop :=
 match f with
 | .next=>∃ σ' H',Inv X pins σ' H' s'∧D.nx σ' H'
 | .brk=>∃ σ' H',Inv X pins σ' H' s'∧D.bk σ' H'
 | .cont=>∃ σ' H',Inv X pins σ' H' s'∧D.ct σ' H'
 | .ret u=>∃ v σ' H',Inv X pins σ' H' s'∧bI v u∧D.rt v H'
noncomputable def PE (X:Cx) (e:Expr) (t:TE):Prop :=
 ∀(pins:List (Addr×Obj)) (s:Shared) (σ:St) (H:Hp) (Q:VK),Inv X pins σ H s→t σ H Q→wpAny (model X.prog X.w) X.A (eval e X.env) (EP X pins σ Q) X.xe s
noncomputable def PT (X:Cx) (e:Expr) (t:TT):Prop :=
 ∀(pins:List (Addr×Obj)) (s:Shared) (σ:St) (H:Hp) (Q:Bool→Hp→Prop),Inv X pins σ H s→t σ H Q→wpAny (model X.prog X.w) X.A (isTrue e X.env (eval e X.env)) (TP X pins σ Q) X.xe s
noncomputable def PW (X:Cx) (e:Expr) (t:TT):Prop :=
 ∀(whole:Sem Value) (pins:List (Addr×Obj)) (s:Shared) (σ:St) (H:Hp) (Q:Bool→Hp→Prop),Inv X pins σ H s→t σ H Q→wpAny (model X.prog X.w) X.A (isTrue e X.env whole) (TP X pins σ Q) X.xe s
theorem PW.pt {X:Cx} {e:Expr} {t:TT} (h:PW X e t):PT X e t:=h _
noncomputable def PA (X:Cx) (es:List Expr) (t:TA):Prop :=
 ∀(pos:Pos) (pins:List (Addr×Obj)) (s:Shared) (σ:St) (H:Hp) (Q:List V→Hp→Prop),Inv X pins σ H s→t σ H Q→wpAny (model X.prog X.w) X.A (spliced (backTo pos (starEach es X.env))) (AP X pins σ Q) X.xe s
noncomputable def PS (X:Cx) (st:Stmt) (t:TS):Prop :=
 ∀(pins:List (Addr×Obj)) (s:Shared) (σ:St) (H:Hp) (D:Ends),Inv X pins σ H s→t D σ H→wpAny (model X.prog X.w) X.A (exec st X.env) (SP X pins D) X.xe s
noncomputable def PSs (X:Cx) (st:List Stmt) (t:TS):Prop :=
 ∀(pins:List (Addr×Obj)) (s:Shared) (σ:St) (H:Hp) (D:Ends),Inv X pins σ H s→t D σ H→wpAny (model X.prog X.w) X.A (execs st X.env) (SP X pins D) X.xe s
theorem thn {α:Type} {t:Sem α} {Q Q':α→Shared→Prop} {M:Model} {A:Around} {E:Value→Shared→Prop} {s:Shared} (h:wpAny M A t Q E s) (hQ:∀ a s,Q a s→Q' a s):wpAny M A t Q' E s:=wpAny_mono h hQ fun _ _ x=>x
end L2
namespace L2
open PySem PySem.Spec PyProof.Rows
section
variable {X:Cx}
noncomputable def iW (i:Nat):TE:=fun σ H Q=>∃ v,σ[i]?=some (some v)∧Q v H
noncomputable def tC (v:V):TE:=fun _ H Q=>Q v H
theorem pe_var {i:Nat} {x:Str} {pos:Pos} (hN:X.N[i]?=some x) (hv:Vis X.env.scope x) (hd:(x == ("__debug__":Str))=false:=by decide) (hcd:(x == ("__classdict__":Str))=false:=by decide):PE X (.Name x pos) (iW i):=by
 intro pins s σ H Q I h
 obtain ⟨v,e,h⟩:=h
 obtain ⟨m,hn,hl⟩:=I.loc
 obtain ⟨u,r,l⟩:=hl i x v hN e hv
 have fin:EP X pins σ Q u s:=⟨v,H,I,r,h⟩
 rcases l with ⟨hk,hm⟩ | ⟨hk,c,hc,hcell⟩
 ·exact wpAny_Name (wpAny_loadName_local I.ok.kind hk hn hm fin) hd
 ·rcases hk with hk | hk
  ·exact wpAny_Name (wpAny_loadName_cell I.ok.kind hk hc hcell fin) hd
  ·exact wpAny_Name (wpAny_loadName_free I.ok.kind hk hc hcell fin hcd) hd
theorem aD {i j pos}:PE X (.Constant (.int i) j pos) (tC (.int i)):=fun _ _ _ H _ I h=>wpAny_Constant_int ⟨.int i,H,I.tok _,⟨_,rfl⟩,h⟩
theorem nS {b j pos}:PE X (.Constant (.bool b) j pos) (tC (.bl b)):=fun _ _ _ H _ I h=>Constant_bool ⟨.bl b,H,I,rfl,h⟩
theorem eV {j pos}:PE X (.Constant .none j pos) (tC .non):=fun _ _ _ H _ I h=>Constant_none ⟨.non,H,I,rfl,h⟩
theorem aP {x j pos}:PE X (.Constant (.str x) j pos) (tC (.str x)):=fun _ _ _ H _ I h=>Calls.Constant_str ⟨.str x,H,I.tok _,⟨_,rfl⟩,h⟩
noncomputable def Gl (X:Cx) (x:Str):Prop:=X.env.kindOf x=some .globalImplicit
theorem qF {E:Value→Shared→Prop} {pins:List (Addr×Obj)} {s:Shared} {σ:St} {H:Hp} {x:Str} {u:Value} {pos:Pos} {Q:Value→Shared→Prop} (I:Inv X pins σ H s) (hg:Gl X x) (hm:X.mg x=some u) (h:Q u s)
    (hd:(x == ("__debug__":Str))=false:=by decide):wpAny (model X.prog X.w) X.A (eval (.Name x pos) X.env) Q E s :=
  Calls.Name_function_global I.ok.kind hg (Calls.loadGlobal_global (by rw [I.ok.glob];exact I.mod.glob.keeps I.bk) hm h) hd
theorem vR {E:Value→Shared→Prop} {pins:List (Addr×Obj)} {s:Shared} {σ:St} {H:Hp} {x:Str} {u:Value} {pos:Pos} {Q:Value→Shared→Prop} (I:Inv X pins σ H s) (hg:Gl X x) (hm:X.mg x=none) (hv:bootBuiltins x=some u) (h:Q u s)
    (hn:x≠"__name__":=by decide) (hd:(x == ("__debug__":Str))=false:=by decide):wpAny (model X.prog X.w) X.A (eval (.Name x pos) X.env) Q E s:=by
  obtain ⟨mb,h1,h2⟩:=I.mod.blt
  exact Calls.Name_function_global I.ok.kind hg (Calls.loadGlobal_builtin (by rw [I.ok.glob];exact I.mod.glob.keeps I.bk) hm (by rw [I.ok.blt];exact h1.keeps I.bk) ((h2 x hn).trans hv) h) hd
theorem nJ {x:Str} {v:V} {u:Value} {pos:Pos} (hg:Gl X x) (hm:X.mg x=some u) (r:bI v u) (hd:(x == ("__debug__":Str))=false:=by decide):PE X (.Name x pos) (tC v) :=
 fun _ _ _ H _ I h=>qF I hg hm ⟨v,H,I,r,h⟩ hd
theorem wC {x:Str} {v:V} {u:Value} {pos:Pos} (hg:Gl X x) (hm:X.mg x=none) (hv:bootBuiltins x=some u) (r:bI v u) (hn:x≠"__name__":=by decide) (hd:(x == ("__debug__":Str))=false:=by decide):PE X (.Name x pos) (tC v) :=
 fun _ _ _ H _ I h=>vR I hg hm hv ⟨v,H,I,r,h⟩ hn hd
variable {a b:Expr} {ta tb:TE} {pos:Pos}
noncomputable def PC (X:Cx) (op:CmpOp) (a b:Expr) (t:TE):Prop :=
 ∀(pins:List (Addr×Obj)) (s:Shared) (σ:St) (H:Hp) (Q:VK),Inv X pins σ H s→t σ H Q →
  wpAny (model X.prog X.w) X.A (eval a X.env) (fun v s₁=>wpAny (model X.prog X.w) X.A (eval b X.env) (fun u s₂=>wpAny (model X.prog X.w) X.A (compareOp op v u) (EP X pins σ Q) X.xe s₂) X.xe s₁) X.xe s
theorem nobehind (b:Expr) {op:CmpOp} (h:op≠.In) (h2:op≠.NotIn):behindInMarks op b=false:=by
 have e1:(op == CmpOp.In)=false:=by cases op<;>first | rfl | exact absurd rfl h
 have e2:(op == CmpOp.NotIn)=false:=by cases op<;>first | rfl | exact absurd rfl h2
 cases b<;>simp [behindInMarks,e1,e2]
noncomputable def tB (t:TE):TT:=fun σ H Q=>t σ H fun x H1=>∃ c,x=.bl c∧Q c H1
theorem pe_cmp {op:CmpOp} {t:TE} (h:PC X op a b t) (h1:behindInMarks op b=false:=by first | exact nobehind _ (by decide) (by decide) | rfl):PE X (.Compare a [op] [b] pos) t:=fun pins s σ H Q I hw=>wpAny_Compare1 (h pins s σ H Q I hw) h1
theorem pt_cmp {op:CmpOp} {t:TE} (h:PC X op a b t) (h1:behindInMarks op b=false:=by first | exact nobehind _ (by decide) (by decide) | rfl):PT X (.Compare a [op] [b] pos) (tB t):=by
 intro pins s σ H Q I hw
 refine wpAny_isTrue_Compare1 (thn (h pins s σ H _ I hw) fun v s1 h1=>thn h1 fun u s2 h2=>thn h2 fun c s3 ⟨x,H1,I1,r1,q1⟩=>?_) h1
 obtain ⟨d,rfl,q⟩:=q1
 cases r1
 exact wpAny_truthy_bool ⟨H1,I1,q⟩
theorem mX {e:Expr} {t:TE} (h:PE X e t) (he:∀ whole,isTrue e X.env whole=(do let v ← whole;standAt e.pos;holding [v] (truthy v)):=by intro _;rfl):PT X e (tB t):=by
 intro pins s σ H Q I hw
 refine isTrue_plain (thn (h pins s σ H _ I hw) fun v s1 ⟨x,H1,I1,r1,q1⟩=>?_) (he _)
 obtain ⟨d,rfl,q⟩:=q1
 cases r1
 exact wpAny_truthy_bool ⟨H1,I1,q⟩
variable {tA tB':TT} {rest:List Expr}
noncomputable def tAnd (t u:TT):TT:=fun σ H Q=>t σ H fun c H1=>if c=true then u σ H1 Q else Q false H1
noncomputable def tOr (t u:TT):TT:=fun σ H Q=>t σ H fun c H1=>if c=true then Q true H1 else u σ H1 Q
noncomputable def tNot (t:TT):TT:=fun σ H Q=>t σ H fun c H1=>Q (!c) H1
theorem qD (ha:PT X a tA):PW X (.BoolOp .And [a] pos) tA:=by
 intro wh pins s σ H Q I h
 refine isTrue_and (thn (ha pins s σ H Q I h) fun c s1 e=>?_)
 cases c with
 | true=>exact isTrue_and_nil e
 | false=>exact e
theorem mZ (ha:PT X a tA):PW X (.BoolOp .Or [a] pos) tA:=by
 intro wh pins s σ H Q I h
 refine isTrue_or (thn (ha pins s σ H Q I h) fun c s1 e=>?_)
 cases c with
 | false=>exact isTrue_or_nil e
 | true=>exact e
theorem vU (ha:PT X a tA) (hb:PW X (.BoolOp .And (b::rest) pos) tB'):PW X (.BoolOp .And (a::b::rest) pos) (tAnd tA tB'):=by
 intro wh pins s σ H Q I h
 refine isTrue_and (thn (ha pins s σ H _ I h) fun c s1 ⟨H1,I1,q1⟩=>?_)
 cases c with
 | true=>exact hb wh pins s1 σ H1 Q I1 q1
 | false=>exact ⟨H1,I1,q1⟩
theorem mS (ha:PT X a tA) (hb:PW X (.BoolOp .Or (b::rest) pos) tB'):PW X (.BoolOp .Or (a::b::rest) pos) (tOr tA tB'):=by
 intro wh pins s σ H Q I h
 refine isTrue_or (thn (ha pins s σ H _ I h) fun c s1 ⟨H1,I1,q1⟩=>?_)
 cases c with
 | true=>exact ⟨H1,I1,q1⟩
 | false=>exact hb wh pins s1 σ H1 Q I1 q1
theorem vV (ha:PT X a tA):PT X (.UnaryOp .Not a pos) (tNot tA):=by
 intro pins s σ H Q I h
 exact isTrue_not (ha pins s σ H (fun c H1=>Q (!c) H1) I h)
noncomputable def tAndV (ta tb:TE):TE:=fun σ H Q=>ta σ H fun x H1=>∃ c,x=.bl c∧if c=true then tb σ H1 Q else Q (.bl false) H1
noncomputable def tOrV (ta tb:TE):TE:=fun σ H Q=>ta σ H fun x H1=>∃ c,x=.bl c∧if c=true then Q (.bl true) H1 else tb σ H1 Q
noncomputable def tNotV (ta:TE):TE:=fun σ H Q=>ta σ H fun x H1=>∃ c,x=.bl c∧Q (.bl (!c)) H1
theorem pe_one {op} {t:TE} (h:PE X a t):PE X (.BoolOp op [a] pos) t:=fun pins s σ H Q I hw=>BoolOp_one (h pins s σ H Q I hw)
theorem pe_and (ha:PE X a ta) (hb:PE X (.BoolOp .And (b::rest) pos) tb):PE X (.BoolOp .And (a::b::rest) pos) (tAndV ta tb):=by
 intro pins s σ H Q I h
 refine BoolOp_and (thn (ha pins s σ H _ I h) fun v s1 ⟨x,H1,I1,r1,q1⟩=>?_)
 obtain ⟨c,rfl,q1⟩:=q1
 cases r1
 refine wpAny_truthy_bool ?_
 cases c with
 | true=>exact hb pins s1 σ H1 Q I1 q1
 | false=>exact ⟨.bl false,H1,I1,rfl,q1⟩
theorem pe_or (ha:PE X a ta) (hb:PE X (.BoolOp .Or (b::rest) pos) tb):PE X (.BoolOp .Or (a::b::rest) pos) (tOrV ta tb):=by
 intro pins s σ H Q I h
 refine BoolOp_or (thn (ha pins s σ H _ I h) fun v s1 ⟨x,H1,I1,r1,q1⟩=>?_)
 obtain ⟨c,rfl,q1⟩:=q1
 cases r1
 refine wpAny_truthy_bool ?_
 cases c with
 | false=>exact hb pins s1 σ H1 Q I1 q1
 | true=>exact ⟨.bl true,H1,I1,rfl,q1⟩
theorem pe_not (ha:PE X a ta):PE X (.UnaryOp .Not a pos) (tNotV ta):=by
 intro pins s σ H Q I h
 refine UnaryOp_ (thn (ha pins s σ H _ I h) fun v s1 ⟨x,H1,I1,r1,q1⟩=>?_)
 obtain ⟨c,rfl,q1⟩:=q1
 cases r1
 exact not_of (wpAny_truthy_bool ⟨.bl (!c),H1,I1,rfl,q1⟩)
noncomputable def tIf (t:TT) (ta tb:TE):TE:=fun σ H Q=>t σ H fun c H1=>if c=true then ta σ H1 Q else tb σ H1 Q
theorem nH {c:Expr} (hc:PT X c tA) (ha:PE X a ta) (hb:PE X b tb):PE X (.IfExp c a b pos) (tIf tA ta tb):=by
 intro pins s σ H Q I h
 refine wpAny_IfExp (thn (hc pins s σ H _ I h) fun d s1 ⟨H1,I1,q1⟩=>?_)
 cases d with
 | true=>exact ha pins s1 σ H1 Q I1 q1
 | false=>exact hb pins s1 σ H1 Q I1 q1
end
end L2
namespace L2
open PySem PySem.Spec PyProof.Rows
noncomputable def eA (K:PySem.W.Frag) (H:Hp) (a:Addr) (xs:List V):Prop :=
 Rd H a (.lst xs) ∨
  ∃(o:Obj) (its:Array Value) (n:Nat),K.lookup a=some o∧o.cls=.type "list"∧o.dict=none∧o.data=.seq its n∧its.size≤sizeLine∧Vals xs its.toList
noncomputable def gO (K:PySem.W.Frag) (H:Hp) (a:Addr) (xs:List V):Prop :=
 Rd H a (.tup xs) ∨
  ∃(o:Obj) (its:Array Value) (n:Nat),K.lookup a=some o∧o.cls=.type "tuple"∧o.data=.seq its n∧its.size≤sizeLine∧Vals xs its.toList
noncomputable def absV:Value→Option V
 | .none=>some .non
 | .bool b=>some (.bl b)
 | .int i _=>some (.int i)
 | .str x _=>some (.str x)
 | .bytes b _=>some (.byt b)
 | .float b _=>some (.flt b)
 | .ref a=>some (.ref a)
 | .type n=>some (.ty n)
 | _=>none
theorem bI.abs {x:V} {u:Value} (r:bI x u):absV u=some x:=by
 cases x with
 | non=>cases r;rfl
 | bl _=>cases r;rfl
 | int _=>obtain ⟨t,rfl⟩:=r;rfl
 | str _=>obtain ⟨t,rfl⟩:=r;rfl
 | byt _=>obtain ⟨t,rfl⟩:=r;rfl
 | flt _=>obtain ⟨t,rfl⟩:=r;rfl
 | ref _=>cases r;rfl
 | ty _=>cases r;rfl
theorem bI.inj {x y:V} {u:Value} (r:bI x u) (q:bI y u):x=y:=Option.some.inj (r.abs.symm.trans q.abs)
theorem Vals.inj {xs ys:List V} {us:List Value} (h:Vals xs us) (g:Vals ys us):xs=ys:=by
 induction h generalizing ys with
 | nil=>cases g;rfl
 | cons r t ih =>
  cases g with
  | cons r' t'=>rw [r.inj r',ih t']
section
variable {X:Cx} {pins:List (Addr×Obj)} {σ:St} {H:Hp} {s:Shared} {a:Addr} {xs ys:List V}
theorem eA.of {K:PySem.W.Frag} (h:H a=some (.lst xs)):eA K H a xs:=.inl (.inl h)
theorem gO.of {K:PySem.W.Frag} (h:H a=some (.tup xs)):gO K H a xs:=.inl (.inl h)
theorem Inv.list (I:Inv X pins σ H s) (h:eA X.K H a xs):∃ its:List Value,Vals xs its∧PlainL s.heap a its.toArray∧xs.length≤sizeLine:=by
 rcases h with h | ⟨o,its,n,hk,hc,hd,hs,hz,r⟩
 ·obtain ⟨z,its,n,r,e⟩:=h.ok I.hok
  exact ⟨its,r,⟨_,n,e,rfl,rfl,rfl⟩,z⟩
 ·refine ⟨its.toList,r,⟨o,n,I.kIn a o hk,hc,hd,by simpa using hs⟩,?_⟩
  have e:=r.length
  simp only [Array.length_toList] at e
  omega
theorem Inv.tuple (I:Inv X pins σ H s) (h:gO X.K H a xs):∃ its:List Value,Vals xs its∧IsTup s.heap a its.toArray∧xs.length≤sizeLine:=by
 rcases h with h | ⟨o,its,n,hk,hc,hs,hz,r⟩
 ·obtain ⟨z,its,r,p⟩:=h.ok I.hok
  exact ⟨its,r,p,z⟩
 ·refine ⟨its.toList,r,⟨o,I.kIn a o hk,hc,n,by simpa using hs⟩,?_⟩
  have e:=r.length
  simp only [Array.length_toList] at e
  omega
theorem Inv.list_inj (I:Inv X pins σ H s) (h:eA X.K H a xs) (h':eA X.K H a ys):xs=ys:=by
 obtain ⟨its,r,⟨o,n,e,_,_,d⟩,_⟩:=I.list h
 obtain ⟨its',r',⟨o',n',e',_,_,d'⟩,_⟩:=I.list h'
 rw [e] at e';cases e'
 rw [d] at d'
 injection d' with d1 _
 have:its=its':=by simpa using congrArg Array.toList d1
 subst this
 exact r.inj r'
theorem Inv.tuple_inj (I:Inv X pins σ H s) (h:gO X.K H a xs) (h':gO X.K H a ys):xs=ys:=by
 obtain ⟨its,r,⟨o,e,_,n,d⟩,_⟩:=I.tuple h
 obtain ⟨its',r',⟨o',e',_,n',d'⟩,_⟩:=I.tuple h'
 rw [e] at e';cases e'
 rw [d] at d'
 injection d' with d1 _
 have:its=its':=by simpa using congrArg Array.toList d1
 subst this
 exact r.inj r'
end
noncomputable abbrev Cx.wish (X:Cx) (E:Value→Shared→Prop):Cx:={X with xe:=E}
noncomputable abbrev Cx.nox (X:Cx):Cx:=X.wish fun _ _=>False
theorem Cx.Ok.wish {X:Cx} (ok:X.Ok) (E:Value→Shared→Prop):(X.wish E).Ok :=
 ⟨ok.mod,ok.kind,ok.glob,ok.blt,ok.above,ok.inj,ok.has,ok.cab,ok.hd,ok.frames,ok.stk,ok.exf,ok.bs,ok.bsz,ok.noex,ok.exfs,ok.funs,ok.frf⟩
theorem Cx.Ok.unwish {X:Cx} {E:Value→Shared→Prop} (ok:(X.wish E).Ok):X.Ok :=
 ⟨ok.mod,ok.kind,ok.glob,ok.blt,ok.above,ok.inj,ok.has,ok.cab,ok.hd,ok.frames,ok.stk,ok.exf,ok.bs,ok.bsz,ok.noex,ok.exfs,ok.funs,ok.frf⟩
section
variable {X:Cx} {pins:List (Addr×Obj)} {σ:St} {H:Hp} {s:Shared} {E:Value→Shared→Prop}
theorem Inv.wish (I:Inv X pins σ H s) (E:Value→Shared→Prop):Inv (X.wish E) pins σ H s:=⟨I.ok.wish E,I.os,I.bare,I.base,I.loc,I.cell,I.free,I.freeC,I.pin,I.hok,I.len⟩
theorem Inv.unwish (I:Inv (X.wish E) pins σ H s):Inv X pins σ H s:=⟨I.ok.unwish,I.os,I.bare,I.base,I.loc,I.cell,I.free,I.freeC,I.pin,I.hok,I.len⟩
theorem SP.unwish {D:Ends} {f:Flow} {s':Shared} (h:SP (X.wish E) pins D f s'):SP X pins D f s':=by
 cases f with
 | next=>obtain ⟨σ',H',I,q⟩:=h;exact ⟨σ',H',I.unwish,q⟩
 | brk=>obtain ⟨σ',H',I,q⟩:=h;exact ⟨σ',H',I.unwish,q⟩
 | cont=>obtain ⟨σ',H',I,q⟩:=h;exact ⟨σ',H',I.unwish,q⟩
 | ret u=>obtain ⟨v,σ',H',I,r,q⟩:=h;exact ⟨v,σ',H',I.unwish,r,q⟩
theorem PSs.nox {st:List Stmt} {t:TS} (h:PSs X.nox st t):PSs X st t:=fun pins s σ H D I hw =>
 wpAny_mono (h pins s σ H D (I.wish _) hw) (fun _ _ q=>q.unwish) fun _ _ z=>False.elim z
end
section
variable {X:Cx} {st:Stmt} {rest:List Stmt} {t u:TS} {e:Expr} {te:TE} {pos:Pos}
noncomputable def tNext:TS:=fun D σ H=>D.nx σ H
noncomputable def tSeq (t u:TS):TS:=fun D σ H=>t {D with nx:=u D} σ H
theorem aV:PSs X [] tNext:=fun _ _ σ H _ I h=>wpAny_execs_nil ⟨σ,H,I,h⟩
theorem aC (h1:PS X st t) (h2:PSs X rest u):PSs X (st::rest) (tSeq t u):=by
 intro pins s σ H D I h
 refine wpAny_execs_cons (thn (h1 pins s σ H {D with nx:=u D} I h) fun f s1 q=>?_)
 cases f with
 | next =>
  obtain ⟨σ',H',I',q⟩:=q
  exact h2 pins s1 σ' H' D I' q
 | ret v=>exact q
 | brk=>exact q
 | cont=>exact q
theorem aJ (h1:PS X st t):PSs X [st] t:=by
 intro pins s σ H D I h
 refine wpAny_execs_cons (thn (h1 pins s σ H D I h) fun f s1 q=>?_)
 cases f with
 | next=>exact wpAny_execs_nil q
 | ret v=>exact q
 | brk=>exact q
 | cont=>exact q
theorem Inv.quiet {pins:List (Addr×Obj)} {σ:St} {H:Hp} {s:Shared} (I:Inv X pins σ H s):interactive X.env=false:=by simp [interactive,I.ok.kind]
noncomputable def tDrop (te:TE):TS:=fun D σ H=>te σ H fun _ H1=>D.nx σ H1
theorem bQ (he:PE X e te) (hs:swapsWith e none pos.line X.env=pure false:=by rfl):PS X (.Expr e pos) (tDrop te):=by
 intro pins s σ H D I h
 exact wpAny_Expr_any (thn (he pins s σ H _ I h) fun v s1 ⟨x,H1,I1,r1,q1⟩=>⟨σ,H1,I1,q1⟩) I.quiet hs
noncomputable def tRet (te:TE):TS:=fun D σ H=>te σ H D.rt
theorem aN (he:PE X e te):PS X (.Return (some e) pos) (tRet te):=by
 intro pins s σ H D I h
 exact wpAny_Return_some (thn (he pins s σ H _ I h) fun v s1 ⟨x,H1,I1,r1,q1⟩=>⟨x,σ,H1,I1,r1,q1⟩)
noncomputable def tIfS (c:TT) (t u:TS):TS:=fun D σ H=>c σ H fun b H1=>if b=true then t D σ H1 else u D σ H1
theorem bH {c:Expr} {a b:List Stmt} {tc:TT} (hc:PT X c tc) (ha:PSs X a t) (hb:PSs X b u):PS X (.If c a b pos) (tIfS tc t u):=by
 intro pins s σ H D I h
 refine wpAny_If (thn (hc pins s σ H _ I h) fun d s1 ⟨H1,I1,q1⟩=>?_)
 cases d with
 | true=>exact ha pins s1 σ H1 D I1 q1
 | false=>exact hb pins s1 σ H1 D I1 q1
end
noncomputable abbrev TG:=V→St→Hp→(St→Hp→Prop)→Prop
noncomputable abbrev TGs:=List V→St→Hp→(St→Hp→Prop)→Prop
noncomputable def PG (X:Cx) (target:Expr) (t:TG):Prop :=
 ∀(pins:List (Addr×Obj)) (s:Shared) (σ:St) (H:Hp) (v:V) (u:Value) (Q:St→Hp→Prop),Inv X pins σ H s→bI v u→t v σ H Q →
  wpAny (model X.prog X.w) X.A (assign target X.env u) (fun _ s'=>∃ σ' H',Inv X pins σ' H' s'∧Q σ' H') X.xe s
noncomputable def PGs (X:Cx) (ts:List Expr) (t:TGs):Prop :=
 ∀(pins:List (Addr×Obj)) (s:Shared) (σ:St) (H:Hp) (vs:List V) (us:List Value) (Q:St→Hp→Prop),Inv X pins σ H s→Vals vs us→t vs σ H Q →
  wpAny (model X.prog X.w) X.A (assignInOrder ((assignEach ts X.env).map (·.2)) us) (fun _ s'=>∃ σ' H',Inv X pins σ' H' s'∧Q σ' H') X.xe s
noncomputable abbrev TSet:=V→V→V→Hp→(Hp→Prop)→Prop
noncomputable def PSet (X:Cx) (t:TSet):Prop :=
 ∀(pins:List (Addr×Obj)) (s:Shared) (σ:St) (H:Hp) (o i v:V) (ov iv u:Value) (Q:Hp→Prop),Inv X pins σ H s→bI o ov→bI i iv→bI v u→t o i v H Q →
  wpAny (model X.prog X.w) X.A (setItem ov iv u) (fun _ s'=>∃ H',Inv X pins σ H' s'∧Q H') X.xe s
noncomputable abbrev TIp:=V→V→Hp→VK→Prop
noncomputable def PIp (X:Cx) (op:Operator) (t:TIp):Prop :=
 ∀(pins:List (Addr×Obj)) (s:Shared) (σ:St) (H:Hp) (x y:V) (v u:Value) (Q:VK),Inv X pins σ H s→bI x v→bI y u→t x y H Q →
  wpAny (model X.prog X.w) X.A (inplaceOp op v u) (EP X pins σ Q) X.xe s
section
variable {X:Cx} {pos:Pos}
noncomputable def rX (i:Nat):TG:=fun v σ H Q=>Q (σ.set i (some v)) H
theorem i0 {i:Nat} {x:Str} (hN:X.N.Nodup) (hi:X.N[i]?=some x) (hx:Loc X.env.scope x) (hf:X.fn x=true∨X.env.scope.names.lookup x=some .local:=by first | exact .inl rfl | exact .inr rfl | assumption):PG X (.Name x pos) (rX i):=by
 intro pins s σ H v u Q I r h
 exact wpAny_assign_Name (sT I hN hi hx r (fun s' I'=>⟨_,H,I',h⟩) hf)
noncomputable def gNil:TGs:=fun vs σ H Q=>vs=[]∧Q σ H
noncomputable def gCons (t:TG) (u:TGs):TGs:=fun vs σ H Q=>∃ v r,vs=v::r∧t v σ H fun σ' H'=>u r σ' H' Q
theorem pgs_nil:PGs X [] gNil:=by
 intro pins s σ H vs us Q I r h
 obtain ⟨e,h⟩:=h
 subst e
 cases r
 exact assignInOrder_nil ⟨σ,H,I,h⟩
theorem wI {e:Expr} {es:List Expr} {t:TG} {u:TGs} (h1:PG X e t) (h2:PGs X es u)
    (hs:(assignEach (e::es) X.env).map (·.2)=assign e X.env::(assignEach es X.env).map (·.2):=by rfl):PGs X (e::es) (gCons t u):=by
  intro pins s σ H vs us Q I r h
  obtain ⟨v,vr,e1,h⟩:=h
  subst e1
  cases r with
  | cons r rr =>
    rw [hs]
    refine assignInOrder_cons (thn (h1 pins s σ H _ _ _ I r h) fun _ s1 ⟨σ1,H1,I1,q1⟩=>?_)
    exact h2 pins s1 σ1 H1 _ _ Q I1 rr q1
noncomputable def gTup (K:PySem.W.Frag) (n:Nat) (t:TGs):TG:=fun v σ H Q=>∃ a xs,v=.ref a∧gO K H a xs∧xs.length=n∧t xs σ H Q
theorem pg_tup {es:List Expr} {k:Nat} {t:TGs} {n:Nat} (hc:X.calm=true) (h:PGs X es t)
    (hn:(assignEach es X.env).length=n:=by rfl) (hst:(assignEach es X.env).findIdx? (·.1)=none:=by rfl):PG X (.Tuple es k pos) (gTup X.K n t):=by
  intro pins s σ H v u Q I r hw
  obtain ⟨a,xs,e1,hq,hl,hw⟩:=hw
  subst e1
  cases r
  obtain ⟨its,rv,ht,hz⟩:=I.tuple hq
  refine assign_Tuple_tuple (I.ok.hd hc) ht (by simp [hn,← hl,rv.length]) hst fun h' hx=>?_
  have I1:Inv X pins σ H {s with heap:=h'}:=I.kept (t':=s.toks) fun b o e=>hx b o (Nat.ne_of_lt (Heap.lt_size e)) e
  exact h pins _ σ H xs _ Q I1 (by simpa using rv) hw
noncomputable def gSub (to ti:TE) (t:TSet):TG:=fun v σ H Q=>to σ H fun o H1=>ti σ H1 fun i H2=>t o i v H2 fun H3=>Q σ H3
theorem y8 {o i:Expr} {to ti:TE} {t:TSet} (ho:PE X o to) (hi:PE X i ti) (hs:PSet X t)
    (ha:∀ v,assign (.Subscript o i pos) X.env v=(do
      let ov ← holding [v] (eval o X.env)
      let iv ← holding [v,ov] (eval i X.env)
      standAt pos
      holding [v,ov,iv] (setItem ov iv v)
      release [v,ov,iv] []):=by intro _;rfl):PG X (.Subscript o i pos) (gSub to ti t):=by
  intro pins s σ H v u Q I r h
  rw [ha]
  refine wpAny_bind (wpAny_holding (thn (ho pins s σ H _ I h) fun ov s1 ⟨x,H1,I1,r1,q1⟩=>?_))
  refine wpAny_bind (wpAny_holding (thn (hi pins s1 σ H1 _ I1 q1) fun iv s2 ⟨y,H2,I2,r2,q2⟩=>?_))
  refine wpAny_bind (wpAny_standAt (wpAny_bind (wpAny_holding (thn (hs pins s2 σ H2 x y v ov iv u _ I2 r1 r2 r q2) fun _ s3 ⟨H3,I3,q3⟩=>?_))))
  exact wpAny_release ⟨σ,H3,I3,q3⟩
noncomputable def tAsg (te:TE) (g:TG):TS:=fun D σ H=>te σ H fun x H1=>g x σ H1 D.nx
theorem vM {tg e:Expr} {te:TE} {g:TG} (he:PE X e te) (hg:PG X tg g) (hs:swapsWithSole [tg] e pos.line X.env=pure false:=by rfl) (hw:swappedStores [tg] e X.env=pure none:=by rfl)
    (h1:(assignEach [tg] X.env).map (·.2)=[assign tg X.env]:=by rfl):PS X (.Assign [tg] e pos) (tAsg te g):=by
  intro pins s σ H D I h
  refine wpAny_Assign_stores (thn (he pins s σ H _ I h) fun v s1 ⟨x,H1,I1,r1,q1⟩=>?_) hs hw
  rw [h1]
  exact thn (hg pins s1 σ H1 x v _ I1 r1 q1) fun _ s2 q=>q
theorem bA {i:Nat} {x:Str} {e:Expr} {te:TE} {pos':Pos} (hN:X.N.Nodup) (hi:X.N[i]?=some x) (hx:Loc X.env.scope x) (he:PE X e te) (hs:swapsWith e (some (.Name x pos')) pos.line X.env=pure false:=by rfl) (hf:X.fn x=true∨X.env.scope.names.lookup x=some .local:=by first | exact .inl rfl | exact .inr rfl | assumption) :
    PS X (.Assign [.Name x pos'] e pos) (tAsg te (rX i)):=by
  intro pins s σ H D I h
  refine wpAny_Assign_Name (thn (he pins s σ H _ I h) fun v s1 ⟨y,H1,I1,r1,q1⟩=>?_) hs
  exact sT I1 hN hi hx r1 (fun s2 I2=>⟨_,H1,I2,q1⟩) hf
noncomputable def tAug (i:Nat) (te:TE) (ti:TIp):TS:=fun D σ H=>∃ x,σ[i]?=some (some x)∧te σ H fun y H1=>ti x y H1 fun z H2=>D.nx (σ.set i (some z)) H2
theorem ps_aug {i:Nat} {x:Str} {e:Expr} {te:TE} {op:Operator} {ti:TIp} {pos':Pos} (hN:X.N.Nodup) (hi:X.N[i]?=some x) (hx:Loc X.env.scope x) (he:PE X e te) (ho:PIp X op ti) (hf:X.fn x=true∨X.env.scope.names.lookup x=some .local:=by first | exact .inl rfl | exact .inr rfl | assumption) :
    PS X (.AugAssign (.Name x pos') op e pos) (tAug i te ti):=by
  intro pins s σ H D I h
  obtain ⟨v,e1,h⟩:=h
  obtain ⟨m,hn,hl⟩:=I.loc
  have vis:Vis X.env.scope x:=by rcases hx with k | k;exact .inl k;exact .inr (.inl k)
  obtain ⟨u,r,l⟩:=hl i x v hi e1 vis
  refine wpAny_AugAssign_Name ?_
  have go:wpAny (model X.prog X.w) X.A (eval e X.env) (fun w s₂=>wpAny (model X.prog X.w) X.A (inplaceOp op u w) (fun r s₃=>wpAny (model X.prog X.w) X.A (storeName X.env x r) (fun _=>SP X pins D .next) X.xe s₃) X.xe s₂) X.xe s:=by
    refine thn (he pins s σ H _ I h) fun w s1 ⟨y,H1,I1,r1,q1⟩=>?_
    refine thn (ho pins s1 σ H1 v y u w _ I1 r r1 q1) fun z s2 ⟨zv,H2,I2,r2,q2⟩=>?_
    exact sT I2 hN hi hx r2 (fun s3 I3=>⟨_,H2,I3,q2⟩) hf
  rcases l with ⟨hk,hm⟩ | ⟨hk,c,hc,hcell⟩
  · exact wpAny_loadName_local I.ok.kind hk hn hm go
  · rcases hk with hk | hk
    · exact wpAny_loadName_cell I.ok.kind hk hc hcell go
    · rcases hx with k | k
      · have:X.env.scope.names.lookup x=some .free:=hk
        rw [k] at this;cases this
      · have:X.env.scope.names.lookup x=some .free:=hk
        rw [k] at this;cases this
noncomputable def tAugS (to ti te:TE) (tget:V→V→Hp→VK→Prop) (tip:TIp) (tset:TSet):TS:=fun D σ H=>to σ H fun o H1=>ti σ H1 fun i H2=>tget o i H2 fun x H3=>te σ H3 fun y H4=>tip x y H4 fun z H5=>tset o i z H5 fun H6=>D.nx σ H6
noncomputable def PGet (X:Cx) (t:V→V→Hp→VK→Prop):Prop :=
 ∀(pins:List (Addr×Obj)) (s:Shared) (σ:St) (H:Hp) (o i:V) (ov iv:Value) (Q:VK),Inv X pins σ H s→bI o ov→bI i iv→t o i H Q →
  wpAny (model X.prog X.w) X.A (getItem ov iv) (EP X pins σ Q) X.xe s
theorem ps_augS {o i e:Expr} {to ti te:TE} {tget:V→V→Hp→VK→Prop} {tip:TIp} {tset:TSet} {op:Operator} {tpos:Pos} (ho:PE X o to) (hi:PE X i ti) (hg:PGet X tget) (he:PE X e te) (hp:PIp X op tip) (hs:PSet X tset)
    (ha:∀ ov iv new,augStore i ov iv new=(do holding [new,ov,iv] (setItem ov iv new);release [new,ov,iv] [];pure .next):=by intros;rfl):PS X (.AugAssign (.Subscript o i tpos) op e pos) (tAugS to ti te tget tip tset):=by
  intro pins s σ H D I h
  refine wpAny_AugAssign_SubscriptAny (thn (ho pins s σ H _ I h) fun ov s1 ⟨x1,H1,I1,r1,q1⟩=>?_) ha
  refine thn (hi pins s1 σ H1 _ I1 q1) fun iv s2 ⟨x2,H2,I2,r2,q2⟩=>?_
  refine thn (hg pins s2 σ H2 x1 x2 ov iv _ I2 r1 r2 q2) fun old s3 ⟨x3,H3,I3,r3,q3⟩=>?_
  refine thn (he pins s3 σ H3 _ I3 q3) fun v s4 ⟨x4,H4,I4,r4,q4⟩=>?_
  refine thn (hp pins s4 σ H4 x3 x4 old v _ I4 r3 r4 q4) fun new s5 ⟨x5,H5,I5,r5,q5⟩=>?_
  exact thn (hs pins s5 σ H5 x1 x2 x5 ov iv new _ I5 r1 r2 r5 q5) fun _ s6 ⟨H6,I6,q6⟩=>⟨σ,H6,I6,q6⟩
noncomputable def ipI (f:Int→Int→Int):TIp:=fun x y H Q=>∃ i j,x=.int i∧y=.int j∧Q (.int (f i j)) H
theorem ip_add:PIp X .Add (ipI fun i j=>i+j):=by
 intro pins s σ H x y v u Q I r1 r2 h
 obtain ⟨i,j,e1,e2,q⟩:=h
 subst e1;subst e2
 obtain ⟨t,rfl⟩:=r1
 obtain ⟨t',rfl⟩:=r2
 exact iadd_int ⟨.int _,H,I.tok _,⟨_,rfl⟩,q⟩
end
section
variable {X:Cx} {pos:Pos}
noncomputable def tWhile (c:TT) (tb:TS):TS:=fun D σ H=>∃ W:Nat→St→Hp→Prop,(∃ m,W m σ H)∧∀ m σ H,W m σ H →
 c σ H fun b H1=>if b=true then ∃ N:St→Hp→Prop,(∀ σ' H',N σ' H'→∃ m',m' < m∧W m' σ' H')∧tb {D with nx:=N,ct:=N,bk:=D.nx} σ H1 else D.nx σ H1
theorem wW {c:Expr} {body:List Stmt} {tc:TT} {tb:TS} (hp:PassesOwn (model X.prog X.w) X.A X.env X.xe) (hc:PT X c tc) (hb:PSs X body tb):PS X (.While c body [] pos) (tWhile tc tb):=by
 intro pins s σ H D I h
 obtain ⟨W,⟨m0,w0⟩,turn⟩:=h
 refine wpAny_While (codeAny_whileLoop (fun n s'=>∃ σ' H',Inv X pins σ' H' s'∧W n σ' H') ?_ m0 ⟨σ,H,I,w0⟩)
 rintro n s1 ⟨σ1,H1,I1,w1⟩
 refine wpAny_passesOwn hp (thn (hc pins s1 σ1 H1 _ I1 (turn n σ1 H1 w1)) fun b s2 ⟨H2,I2,q2⟩=>?_)
 cases b with
 | true =>
  obtain ⟨N,hN,q2⟩:=q2
  rw [if_pos rfl]
  refine wpAny_passesOwn hp (thn (hb pins s2 σ1 H2 _ I2 q2) fun f s3 q3=>?_)
  cases f with
  | next =>
   obtain ⟨σ3,H3,I3,n3⟩:=q3
   obtain ⟨m',hm,w3⟩:=hN σ3 H3 n3
   exact ⟨m',hm,σ3,H3,I3,w3⟩
  | cont =>
   obtain ⟨σ3,H3,I3,n3⟩:=q3
   obtain ⟨m',hm,w3⟩:=hN σ3 H3 n3
   exact ⟨m',hm,σ3,H3,I3,w3⟩
  | brk=>exact q3
  | ret v=>exact q3
 | false =>
  rw [if_neg Bool.false_ne_true]
  exact wpAny_execs_nil ⟨σ1,H2,I2,q2⟩
end
structure It where
 go:Nat→Hp→Prop
 yld:Nat→Hp→V→Hp→Prop
 stop:Nat→Hp→Prop
noncomputable def pX (X:Cx) (pins:List (Addr×Obj)) (H:Hp) (b:Addr):Prop :=
 H b=none∧b≠X.env.locals∧b∉X.fs∧(b∈X.ex∨X.s₀.heap.objs.size≤b)∧(∀ x c,X.env.cells.lookup x=some c→c≠b)∧∀ p∈X.pn++pins,p.1≠b
theorem Inv.fpOk {X:Cx} {pins:List (Addr×Obj)} {σ:St} {H H':Hp} {s:Shared} {b:Addr} (I:Inv X pins σ H s) (hb:s.heap.objs.size≤b) (hn:H' b=none):pX X pins H' b:=by
 refine ⟨hn,Nat.ne_of_gt (Nat.lt_of_lt_of_le I.lt hb),I.nofs hb,.inr (Nat.le_trans I.sz hb),fun x c e z=>?_,fun p hp z=>?_⟩
 ·obtain ⟨v,q⟩:=I.cell x c e
  exact absurd (Nat.lt_of_lt_of_le q.lt (by rw [z];exact hb)) (Nat.lt_irrefl _)
 ·exact absurd (Nat.lt_of_lt_of_le (Heap.lt_size (I.pin p hp).1) (by rw [z];exact hb)) (Nat.lt_irrefl _)
structure Turn (P:Program) (w:World) (K:PySem.W.Frag) (tg:Expr) (J:It) (fp:List Addr) (it:Addr) (tn:Nat→Heap→Prop):Prop where
 mem:it∈fp
 obj:∀ i h,tn i h→∀ b∈fp,∃ o,h.get? b=some o∧∀ v,o.data≠.cell v
 keep:∀ i h h',tn i h→(∀ b∈fp,∀ o,h.get? b=some o→h'.get? b=some o)→tn i h'
 item:∀(X:Cx),X.prog=P→X.w=w→X.K=K→X.calm=true→∀(i:Nat) (pins:List (Addr×Obj)) (s:Shared) (σ:St) (H:Hp) (E:Value→Shared→Prop),Inv X pins σ H s→(∀ b∈fp,pX X pins H b)→tn i s.heap→J.go i H →
  wpAny (model P w) X.A (pyNext (.ref it)) (fun r s1=>∃ u,r=some u ∧
   wpAny (model P w) X.A (letOwnedTupleGo tg (.ref it) u) (fun _ s2=>∃ x H',Inv X pins σ H' s2∧bI x u∧J.yld i H x H'∧tn (i+1) s2.heap∧∀ b∈fp,H' b=none) E s1) E s
 done:∀(X:Cx),X.prog=P→X.w=w→X.K=K→X.calm=true→∀(i:Nat) (pins:List (Addr×Obj)) (s:Shared) (σ:St) (H:Hp) (E:Value→Shared→Prop),Inv X pins σ H s→(∀ b∈fp,pX X pins H b)→tn i s.heap→J.stop i H →
  wpAny (model P w) X.A (pyNext (.ref it)) (fun r s1=>r=none∧Inv X pins σ H s1) E s
 self:∀(A:Around) (i:Nat) (s:Shared) (Q:Value→Shared→Prop) (E:Value→Shared→Prop),tn i s.heap→Q (.ref it) s→wpAny (model P w) A (pyIter (.ref it)) Q E s
noncomputable abbrev TI:=St→Hp→(It→Hp→Prop)→Prop
noncomputable def PIE (X:Cx) (pins:List (Addr×Obj)) (σ:St) (tg:Expr) (R:It→Hp→Prop) (itv:Value) (s2:Shared):Prop :=
 ∃(it:Addr) (fp:List Addr) (tn:Nat→Heap→Prop) (J:It) (H':Hp),itv=.ref it∧Inv X pins σ H' s2∧Turn X.prog X.w X.K tg J fp it tn∧tn 0 s2.heap∧(∀ b∈fp,pX X pins H' b)∧R J H'
noncomputable def PI (X:Cx) (tg iter:Expr) (wi:TI):Prop :=
 ∀(pins:List (Addr×Obj)) (s:Shared) (σ:St) (H:Hp) (R:It→Hp→Prop),Inv X pins σ H s→wi σ H R →
  wpAny (model X.prog X.w) X.A (eval iter X.env) (fun v s1=>wpAny (model X.prog X.w) X.A (pyIter v) (PIE X pins σ tg R) X.xe s1) X.xe s
theorem abF {M:Model} {A:Around} {E:Value→Shared→Prop} {s:Shared} {tg:Expr} {it:Addr} {u:Value} {o:Obj} {n:String} {vs:Array Value} {Q:Unit→Shared→Prop} (ho:s.heap.get? it=some o) (hc:o.cls=.type n) (hd:o.data=.fields vs)
    (hn:["enumerate","zip","dict_itemiterator","dict_reverseitemiterator","odict_iterator","itertools.zip_longest","itertools.pairwise"].contains n=false) (hQ:Q () s):wpAny M A (letOwnedTupleGo tg (.ref it) u) Q E s:=by
  unfold letOwnedTupleGo
  cases tg<;>first
    | exact wpAny_pure hQ
    | (cases u<;>first
        | exact wpAny_pure hQ
        | (refine wpAny_bind (wpAny_load ho ?_)
           rw [hc,hd]
           show wpAny M A (if (["enumerate","zip","dict_itemiterator","dict_reverseitemiterator","odict_iterator","itertools.zip_longest","itertools.pairwise"].contains n && vs[0]? == some (rawInt _))=true then _ else _) Q E s
           rw [if_neg (by intro h;rw [hn,Bool.false_and] at h;cases h)]
           exact wpAny_pure hQ))
noncomputable def Itl (K:PySem.W.Frag) (a:Addr):It :=
 ⟨fun i H=>∃ xs x,eA K H a xs∧xs[i]?=some x,fun i H x H'=>H'=H∧∀ xs,eA K H a xs→xs[i]?=some x,fun i H=>∃ xs,eA K H a xs∧xs.length≤i⟩
noncomputable def Itt (K:PySem.W.Frag) (a:Addr):It :=
 ⟨fun i H=>∃ xs x,gO K H a xs∧xs[i]?=some x,fun i H x H'=>H'=H∧∀ xs,gO K H a xs→xs[i]?=some x,fun i H=>∃ xs,gO K H a xs∧xs.length≤i⟩
noncomputable def Itr (lo:Int) (n:Nat):It:=⟨fun i _=>i < n,fun i H x H'=>H'=H∧x=.int (lo+i),fun i _=>n≤i⟩
theorem abX {P:Program} {w:World} {K:PySem.W.Frag} {tg:Expr} (a it:Addr):Turn P w K tg (Itl K a) [it] it (fun i h=>h.IsListIter it a i) where
 mem:=by simp
 obj:=fun i h st b hb=>by
  have e:b=it:=by simpa using hb
  subst e
  obtain ⟨o,e,c,d⟩:=st
  exact ⟨o,e,fun v z=>by rw [d] at z;cases z⟩
 keep:=fun i h h' st k=>st.at fun o e=>k it (by simp) o e
 item:=by
  intro X hP hw hK hc i pins s σ H E I hf st hg
  subst hP hw hK
  obtain ⟨xs,x,hq,hx⟩:=hg
  obtain ⟨its,rv,p,hz⟩:=I.list hq
  obtain ⟨u,hu,ru⟩:=rv.get hx
  obtain ⟨f0,f1,f2,f3,f4,f5⟩:=hf it (by simp)
  refine wpAny_pyNext_list_item st p.isList (x:=u) (by simpa using hu) fun h' st' sb=>?_
  have I1:Inv X pins σ H {s with heap:=h'}:=I.turned (t':=s.toks) (fun b o hb e=>(sb.2 b hb).trans e) f0 f1 f3 f4 f5
  obtain ⟨o,e,c,d⟩:=id st'
  exact ⟨u,rfl,abF (s:={s with heap:=h'}) e c d (by decide) ⟨x,H,I1,ru,⟨rfl,fun ys hy=>by rw [I.list_inj hy hq];exact hx⟩,st',fun b hb=>(hf b hb).1⟩⟩
 done:=by
  intro X hP hw hK hc i pins s σ H E I hf st hg
  subst hP hw hK
  obtain ⟨xs,hq,hx⟩:=hg
  obtain ⟨its,rv,p,hz⟩:=I.list hq
  obtain ⟨f0,f1,f2,f3,f4,f5⟩:=hf it (by simp)
  have hl:=rv.length
  exact wpAny_pyNext_list_end (I.ok.hd hc) st p.isList (by simp;omega) fun h' eb=>⟨rfl,I.turned (t':=s.toks) (fun b o hb e=>eb b o hb e) f0 f1 f3 f4 f5⟩
 self:=fun _ _ _ _ _ st h=>wpAny_pyIter_listiter st h
theorem yW {P:Program} {w:World} {K:PySem.W.Frag} {tg:Expr} (a it:Addr):Turn P w K tg (Itt K a) [it] it (fun i h=>h.IsTupleIter it a i) where
 mem:=by simp
 obj:=fun i h st b hb=>by
  have e:b=it:=by simpa using hb
  subst e
  obtain ⟨o,e,c,d⟩:=st
  exact ⟨o,e,fun v z=>by rw [d] at z;cases z⟩
 keep:=fun i h h' st k=>st.at fun o e=>k it (by simp) o e
 item:=by
  intro X hP hw hK hc i pins s σ H E I hf st hg
  subst hP hw hK
  obtain ⟨xs,x,hq,hx⟩:=hg
  obtain ⟨its,rv,p,hz⟩:=I.tuple hq
  obtain ⟨u,hu,ru⟩:=rv.get hx
  obtain ⟨f0,f1,f2,f3,f4,f5⟩:=hf it (by simp)
  refine wpAny_pyNext_tuple_item st (show s.heap.IsTuple a its.toArray from p) (x:=u) (by simpa using hu) fun h' st' sb=>?_
  have I1:Inv X pins σ H {s with heap:=h'}:=I.turned (t':=s.toks) (fun b o hb e=>(sb.2 b hb).trans e) f0 f1 f3 f4 f5
  obtain ⟨o,e,c,d⟩:=id st'
  exact ⟨u,rfl,abF (s:={s with heap:=h'}) e c d (by decide) ⟨x,H,I1,ru,⟨rfl,fun ys hy=>by rw [I.tuple_inj hy hq];exact hx⟩,st',fun b hb=>(hf b hb).1⟩⟩
 done:=by
  intro X hP hw hK hc i pins s σ H E I hf st hg
  subst hP hw hK
  obtain ⟨xs,hq,hx⟩:=hg
  obtain ⟨its,rv,p,hz⟩:=I.tuple hq
  obtain ⟨f0,f1,f2,f3,f4,f5⟩:=hf it (by simp)
  have hl:=rv.length
  exact wpAny_pyNext_tuple_end (I.ok.hd hc) st (show s.heap.IsTuple a its.toArray from p) (by simp;omega) fun h' eb=>⟨rfl,I.turned (t':=s.toks) (fun b o hb e=>eb b o hb e) f0 f1 f3 f4 f5⟩
 self:=fun _ _ _ _ _ st h=>wpAny_pyIter_tupleiter st h
theorem yN {P:Program} {w:World} {K:PySem.W.Frag} {tg:Expr} (it:Addr) (lo:Int) (n:Nat):Turn P w K tg (Itr lo n) [it] it (fun i h=>IsRangeIter h it (lo+(i:Nat) * 1) ((n:Int) - (i:Nat)) 1) where
 mem:=by simp
 obj:=fun i h st b hb=>by
  have e:b=it:=by simpa using hb
  subst e
  exact ⟨_,st,fun v z=>by
   have z':Data.fields _=Data.cell v:=z
   cases z'⟩
 keep:=fun i h h' st k=>k it (by simp) _ st
 item:=by
  intro X hP hw hK hc i pins s σ H E I hf st hg
  subst hP hw hK
  obtain ⟨f0,f1,f2,f3,f4,f5⟩:=hf it (by simp)
  have W:=Walks.range (prog:=X.prog) (w:=X.w) (I.ok.hd hc) it lo 1 n
  refine W.item i s _ _ hg st fun v h' tk hv st' kk=>?_
  obtain ⟨t,rfl⟩:=hv
  have I1:Inv X pins σ H {s with heap:=h',toks:=tk}:=I.turned (fun b o hb e=>kk b o (by simpa using hb) e) f0 f1 f3 f4 f5
  refine ⟨_,rfl,abF (s:={s with heap:=h',toks:=tk}) (n:="range_iterator") st' rfl rfl (by decide) ⟨.int (lo+i),H,I1,⟨t,?_⟩,⟨rfl,rfl⟩,st',fun b hb=>(hf b hb).1⟩⟩
  rw [Int.mul_one]
 done:=by
  intro X hP hw hK hc i pins s σ H E I hf st hg
  subst hP hw hK
  obtain ⟨f0,f1,f2,f3,f4,f5⟩:=hf it (by simp)
  exact wpAny_pyNext_range_end (I.ok.hd hc) st (by have:n≤i:=hg;omega) fun h' eb=>⟨rfl,I.turned (t':=s.toks) (fun b o hb e=>eb b o hb e) f0 f1 f3 f4 f5⟩
 self:=fun _ _ _ _ _ st h=>wpAny_pyIter_rangeiter st h
end L2
namespace L2
open PySem PySem.Spec PyProof.Rows
section
variable {X:Cx} {tg:Expr}
noncomputable def xD (K:PySem.W.Frag) (tl:TE):TI:=fun σ H R=>tl σ H fun x H1=>∃ a,x=.ref a∧(∃ xs,eA K H1 a xs)∧R (Itl K a) H1
noncomputable def iTup (K:PySem.W.Frag) (tl:TE):TI:=fun σ H R=>tl σ H fun x H1=>∃ a,x=.ref a∧(∃ xs,gO K H1 a xs)∧R (Itt K a) H1
theorem fS {l:Expr} {tl:TE} (hl:PE X l tl):PI X tg l (xD X.K tl):=by
 intro pins s σ H R I h
 refine thn (hl pins s σ H _ I h) fun v s1 ⟨x,H1,I1,r1,q1⟩=>?_
 obtain ⟨a,e,⟨xs,hq⟩,q⟩:=q1
 subst e
 cases r1
 obtain ⟨its,rv,p,hz⟩:=I1.list hq
 refine wpAny_pyIter_list p.isList ?_
 refine ⟨s1.heap.objs.size,[s1.heap.objs.size],_,_,H1,rfl,I1.kept (t':=s1.toks) fun b o e=>Heap.get?_push_of_some _ e,abX a _,⟨_,Heap.get?_push_size _ rfl,rfl,rfl⟩,fun b hb=>?_,q⟩
 have e:b=s1.heap.objs.size:=by simpa using hb
 subst e
 exact I1.fpOk (Nat.le_refl _) (I1.hok.fresh (Nat.le_refl _))
theorem pi_tup {l:Expr} {tl:TE} (hl:PE X l tl):PI X tg l (iTup X.K tl):=by
 intro pins s σ H R I h
 refine thn (hl pins s σ H _ I h) fun v s1 ⟨x,H1,I1,r1,q1⟩=>?_
 obtain ⟨a,e,⟨xs,hq⟩,q⟩:=q1
 subst e
 cases r1
 obtain ⟨its,rv,p,hz⟩:=I1.tuple hq
 refine wpAny_pyIter_tuple (show s1.heap.IsTuple a its.toArray from p) ?_
 refine ⟨s1.heap.objs.size,[s1.heap.objs.size],_,_,H1,rfl,I1.kept (t':=s1.toks) fun b o e=>Heap.get?_push_of_some _ e,yW a _,⟨_,Heap.get?_push_size _ rfl,rfl,rfl⟩,fun b hb=>?_,q⟩
 have e:b=s1.heap.objs.size:=by simpa using hb
 subst e
 exact I1.fpOk (Nat.le_refl _) (I1.hok.fresh (Nat.le_refl _))
theorem range_it {pins:List (Addr×Obj)} {σ:St} {H:Hp} {s:Shared} {R:It→Hp→Prop} {E:Value→Shared→Prop} {lo hi:Int} {t u v:Tok} {tk:Nat} (I:Inv X pins σ H s) (h1:-(2 ^ 62)≤lo) (h2:lo < 2 ^ 62) (h3:-(2 ^ 62)≤hi) (h4:hi < 2 ^ 62)
    (q:R (Itr lo (hi - lo).toNat) H):wpAny (model X.prog X.w) X.A (pyIter (.ref s.heap.objs.size)) (PIE X pins σ tg R) E {s with heap:=s.heap.push {cls:=.type "range",data:=.fields #[.int lo t,.int hi u,.int 1 v]},toks:=tk}:=by
  refine wpAny_pyIter_range (IsRange.new ..) (small_one h1 h2 h3 h4) ?_
  have I1:Inv X pins σ H {s with heap:=s.heap.push {cls:=.type "range",data:=.fields #[.int lo t,.int hi u,.int 1 v]},toks:=tk}:=I.kept fun b o e=>Heap.get?_push_of_some _ e
  refine ⟨(s.heap.push {cls:=.type "range",data:=.fields #[.int lo t,.int hi u,.int 1 v]}).objs.size,[(s.heap.push {cls:=.type "range",data:=.fields #[.int lo t,.int hi u,.int 1 v]}).objs.size],_,_,H,rfl,
    I1.kept (t':=tk) fun b o e=>Heap.get?_push_of_some _ e,yN _ lo (hi - lo).toNat,?_,fun b hb=>?_,q⟩
  · have e1:lo+((0:Nat):Int) * 1=lo:=by simp
    have e2:(((hi - lo).toNat:Nat):Int) - ((0:Nat):Int)=Builtin.Range.rangeSize lo hi 1:=by rw [rangeSize_one];split<;>omega
    show IsRangeIter _ _ (lo+((0:Nat):Int) * 1) ((((hi - lo).toNat:Nat):Int) - ((0:Nat):Int)) 1
    rw [e1,e2]
    exact Heap.get?_push_size _ rfl
  · have e:b=(s.heap.push {cls:=.type "range",data:=.fields #[.int lo t,.int hi u,.int 1 v]}).objs.size:=by simpa using hb
    subst e
    exact I1.fpOk (Nat.le_refl _) (I1.hok.fresh (Nat.le_refl _))
noncomputable def yC (ta:TA):TI:=fun σ H R=>ta σ H fun vs H1=>∃ j:Int,vs=[.int j]∧-(2 ^ 62)≤j∧j < 2 ^ 62∧R (Itr 0 j.toNat) H1
theorem uQ {a:Expr} {ta:TA} {p pos:Pos} (hg:Gl X "range") (hm:X.mg "range"=none) (ha:PA X [a] ta) (hs:starEach [a] X.env=[(false,eval a X.env)]:=by rfl):PI X tg (.Call (.Name "range" p) [a] [] pos) (yC ta):=by
 intro pins s σ H R I h
 refine Call_ (vR I hg hm boot_range (PyProof.Rows.callWith_type1 (thn (ha pos pins s σ H _ I h) fun us s1 ⟨vs,H1,I1,r1,q1⟩=>?_) hs rfl))
 obtain ⟨j,e,q1,q2,q⟩:=q1
 subst e
 cases r1 with
 | cons r rr =>
  cases rr
  obtain ⟨t,rfl⟩:=r
  exact call_range_1 (range_it I1 (by omega) (by omega) q1 q2 (by simpa using q))
noncomputable def zD (wi:TI) (g:TG) (tb:TS):TS:=fun D σ H=>wi σ H fun J H1=>∃ W:Nat→Nat→St→Hp→Prop,(∃ m,W 0 m σ H1)∧∀ i m σ H,W i m σ H →
 (J.stop i H∧D.nx σ H)∨(J.go i H∧∃ N:St→Hp→Prop,(∀ σ' H',N σ' H'→∃ m',m' < m∧W (i+1) m' σ' H')∧∀ x H',J.yld i H x H'→g x σ H' fun σ2 H2=>tb {D with nx:=N,ct:=N,bk:=D.nx} σ2 H2)
noncomputable def rO (fp:List Addr) (h:Heap):List (Addr×Obj):=fp.filterMap fun b=>(h.get? b).map fun o=>(b,o)
theorem kG {fp:List Addr} {h:Heap} {b:Addr} {o:Obj} (hb:b∈fp) (e:h.get? b=some o):(b,o)∈rO fp h:=List.mem_filterMap.mpr ⟨b,hb,by rw [e];rfl⟩
theorem of_pinsAt {fp:List Addr} {h:Heap} {p:Addr×Obj} (hp:p∈rO fp h):p.1∈fp∧h.get? p.1=some p.2:=by
 obtain ⟨b,hb,e⟩:=List.mem_filterMap.mp hp
 cases q:h.get? b with
 | none=>rw [q] at e;cases e
 | some o =>
  rw [q] at e
  have e':(b,o)=p:=Option.some.inj e
  subst e'
  exact ⟨hb,q⟩
theorem Inv.pinned {pins:List (Addr×Obj)} {σ:St} {H:Hp} {s:Shared} {fp:List Addr} (I:Inv X pins σ H s) (hf:∀ b∈fp,pX X pins H b) (ho:∀ b∈fp,∃ o,s.heap.get? b=some o∧∀ v,o.data≠.cell v):Inv X (pins++rO fp s.heap) σ H s :=
 I.pins_of fun p hp=>(List.mem_append.mp hp).elim (fun z=>I.pin p (List.mem_append_right _ z)) fun z=>by
  obtain ⟨hb,e⟩:=of_pinsAt z
  obtain ⟨f0,f1,f2,_⟩:=hf p.1 hb
  obtain ⟨o,e',d⟩:=ho p.1 hb
  rw [e] at e';cases e'
  exact ⟨e,f0,f1,f2,d⟩
theorem Inv.unpinned {pins pl:List (Addr×Obj)} {σ:St} {H:Hp} {s:Shared} (I:Inv X (pins++pl) σ H s):Inv X pins σ H s:=I.pins_of fun p hp=>I.pin p (List.mem_append_right _ (List.mem_append_left _ hp))
theorem rJ {iter:Expr} {body:List Stmt} {wi:TI} {g:TG} {tb:TS} {pos:Pos} (hp:PassesOwn (model X.prog X.w) X.A X.env X.xe) (hc:X.calm=true) (hi:PI X tg iter wi) (hg:PG X tg g) (hb:PSs X body tb)
    (hs:∀ x,foldedSetIterable iter X.env x=pure x:=by intro _;rfl):PS X (.For tg iter body [] pos) (zD wi g tb):=by
  intro pins s σ H D I h
  refine wpAny_For (thn (hi pins s σ H _ I h) fun v s1 h1=>thn h1 fun itv s2 h2=>?_) hs
  obtain ⟨it,fp,tn,J,H2,e,I2,T,st2,f2,W,⟨m0,w0⟩,turn⟩:=h2
  subst e
  -- what stays true of the iterator's objects through the loop
  have stat:∀ {H':Hp},(∀ b∈fp,H' b=none)→∀ b∈fp,pX X pins H' b:=fun hn b hb=>⟨hn b hb,(f2 b hb).2⟩
  refine codeAny_forLoop_any (fun n s'=>∃ i σ' H',Inv X pins σ' H' s'∧tn i s'.heap∧(∀ b∈fp,H' b=none)∧W i n σ' H') ?_ m0 ⟨0,σ,H2,I2,st2,fun b hb=>(f2 b hb).1,w0⟩
  rintro n s3 ⟨i,σ3,H3,I3,st3,fr3,w3⟩
  rcases turn i n σ3 H3 w3 with ⟨stop,qn⟩ | ⟨go,N,hN,step⟩
  · refine wpAny_passesOwn hp (thn (T.done X rfl rfl rfl hc i pins s3 σ3 H3 X.xe I3 (stat fr3) st3 stop) fun r s4 ⟨hr,I4⟩=>?_)
    subst hr
    exact wpAny_execs_nil ⟨σ3,H3,I4,qn⟩
  · refine wpAny_passesOwn hp (thn (T.item X rfl rfl rfl hc i pins s3 σ3 H3 X.xe I3 (stat fr3) st3 go) fun r s4 ⟨u,hr,h4⟩=>?_)
    subst hr
    refine wpAny_passesOwn hp (thn h4 fun _ s5 ⟨x,H5,I5,r5,y5,st5,fr5⟩=>?_)
    have I5':=I5.pinned (stat fr5) (T.obj _ _ st5)
    refine wpAny_passesOwn hp (thn (hg _ s5 σ3 H5 x u _ I5' r5 (step x H5 y5)) fun _ s6 ⟨σ6,H6,I6,q6⟩=>?_)
    refine wpAny_passesOwn hp (thn (hb _ s6 σ6 H6 _ I6 q6) fun f s7 q7=>?_)
    have again:∀ {σ7:St} {H7:Hp},Inv X (pins++rO fp s5.heap) σ7 H7 s7→N σ7 H7→∃ m,m < n∧∃ i σ' H',Inv X pins σ' H' s7∧tn i s7.heap∧(∀ b∈fp,H' b=none)∧W i m σ' H':=fun {σ7 H7} I7 n7=>by
      obtain ⟨m',hm,w7⟩:=hN σ7 H7 n7
      refine ⟨m',hm,i+1,σ7,H7,I7.unpinned,T.keep _ _ _ st5 fun b hb o e=>(I7.pin (b,o) (List.mem_append_right _ (List.mem_append_right _ (kG hb e)))).1,fun b hb=>?_,w7⟩
      obtain ⟨o,e,d⟩:=T.obj _ _ st5 b hb
      exact (I7.pin (b,o) (List.mem_append_right _ (List.mem_append_right _ (kG hb e)))).2.1
    cases f with
    | next=>obtain ⟨σ7,H7,I7,n7⟩:=q7;exact again I7 n7
    | cont=>obtain ⟨σ7,H7,I7,n7⟩:=q7;exact again I7 n7
    | brk=>obtain ⟨σ7,H7,I7,q7⟩:=q7;exact ⟨σ7,H7,I7.unpinned,q7⟩
    | ret v=>obtain ⟨x7,σ7,H7,I7,r7,q7⟩:=q7;exact ⟨x7,σ7,H7,I7.unpinned,r7,q7⟩
end
theorem rP {K:PySem.W.Frag} {a:Addr} {xs:List V} {g:TG} {tb:TS} {D:Ends} {σ:St} {H:Hp} (Pv:Nat→St→Hp→Prop) (h0:Pv 0 σ H) (hl:∀ i σ H,i≤xs.length→Pv i σ H→eA K H a xs)
    (hs:∀ i x σ H,xs[i]?=some x→Pv i σ H→g x σ H fun σ2 H2=>tb {D with nx:=Pv (i+1),ct:=Pv (i+1),bk:=D.nx} σ2 H2) (hd:∀ σ H,Pv xs.length σ H→D.nx σ H) :
    ∃ W:Nat→Nat→St→Hp→Prop,(∃ m,W 0 m σ H)∧∀ i m σ H,W i m σ H →
      ((Itl K a).stop i H∧D.nx σ H)∨((Itl K a).go i H∧∃ N:St→Hp→Prop,(∀ σ' H',N σ' H'→∃ m',m' < m∧W (i+1) m' σ' H')∧∀ x H',(Itl K a).yld i H x H'→g x σ H' fun σ2 H2=>tb {D with nx:=N,ct:=N,bk:=D.nx} σ2 H2):=by
  refine ⟨fun i m σ H=>m=xs.length - i∧i≤xs.length∧Pv i σ H,⟨xs.length,by simp,Nat.zero_le _,h0⟩,?_⟩
  rintro i m σ H ⟨rfl,hi,p⟩
  have q:=hl i σ H hi p
  by_cases hlt:i < xs.length
  · refine .inr ⟨⟨xs,xs[i],q,by simp [hlt]⟩,Pv (i+1),fun σ' H' p'=>⟨xs.length - (i+1),by omega,rfl,hlt,p'⟩,fun x H' y=>?_⟩
    obtain ⟨e,y⟩:=y
    subst e
    exact hs i x σ _ (y xs q) p
  · have e:i=xs.length:=by omega
    subst e
    exact .inl ⟨⟨xs,q,Nat.le_refl _⟩,hd σ H p⟩
theorem tV {lo:Int} {n:Nat} {g:TG} {tb:TS} {D:Ends} {σ:St} {H:Hp} (Pv:Nat→St→Hp→Prop) (h0:Pv 0 σ H)
    (hs:∀ i σ H,i < n→Pv i σ H→g (.int (lo+i)) σ H fun σ2 H2=>tb {D with nx:=Pv (i+1),ct:=Pv (i+1),bk:=D.nx} σ2 H2) (hd:∀ σ H,Pv n σ H→D.nx σ H) :
    ∃ W:Nat→Nat→St→Hp→Prop,(∃ m,W 0 m σ H)∧∀ i m σ H,W i m σ H →
      ((Itr lo n).stop i H∧D.nx σ H)∨((Itr lo n).go i H∧∃ N:St→Hp→Prop,(∀ σ' H',N σ' H'→∃ m',m' < m∧W (i+1) m' σ' H')∧∀ x H',(Itr lo n).yld i H x H'→g x σ H' fun σ2 H2=>tb {D with nx:=N,ct:=N,bk:=D.nx} σ2 H2):=by
  refine ⟨fun i m σ H=>m=n - i∧i≤n∧Pv i σ H,⟨n,by simp,Nat.zero_le _,h0⟩,?_⟩
  rintro i m σ H ⟨rfl,hi,p⟩
  by_cases hlt:i < n
  · refine .inr ⟨hlt,Pv (i+1),fun σ' H' p'=>⟨n - (i+1),by omega,rfl,hlt,p'⟩,fun x H' y=>?_⟩
    obtain ⟨e,y⟩:=y
    subst e y
    exact hs i σ _ hlt p
  · have e:i=n:=by omega
    subst e
    exact .inl ⟨Nat.le_refl _,hd σ H p⟩
end L2
namespace L2
open PySem PySem.Spec PyProof.Rows
noncomputable abbrev R2:=V→V→Hp→VK→Prop
noncomputable def jM (X:Cx) (f:Value→Value→Sem Value) (r:R2):Prop :=
 ∀(pins:List (Addr×Obj)) (s:Shared) (σ:St) (H:Hp) (x y:V) (v u:Value) (Q:VK),Inv X pins σ H s→bI x v→bI y u→r x y H Q →
  wpAny (model X.prog X.w) X.A (f v u) (EP X pins σ Q) X.xe s
noncomputable def UnR (X:Cx) (f:Value→Sem Value) (r:V→Hp→VK→Prop):Prop :=
 ∀(pins:List (Addr×Obj)) (s:Shared) (σ:St) (H:Hp) (x:V) (v:Value) (Q:VK),Inv X pins σ H s→bI x v→r x H Q →
  wpAny (model X.prog X.w) X.A (f v) (EP X pins σ Q) X.xe s
noncomputable def dX (X:Cx) (f:Value) (r:List V→Hp→VK→Prop):Prop :=
 ∀(pins:List (Addr×Obj)) (s:Shared) (σ:St) (H:Hp) (xs:List V) (us:List Value) (Q:VK),Inv X pins σ H s→Vals xs us→r xs H Q →
  wpAny (model X.prog X.w) X.A (call f us) (EP X pins σ Q) X.xe s
noncomputable def TruR (X:Cx) (r:V→Hp→(Bool→Hp→Prop)→Prop):Prop :=
 ∀(pins:List (Addr×Obj)) (s:Shared) (σ:St) (H:Hp) (x:V) (v:Value) (Q:Bool→Hp→Prop),Inv X pins σ H s→bI x v→r x H Q →
  wpAny (model X.prog X.w) X.A (truthy v) (TP X pins σ Q) X.xe s
noncomputable def tOp (r:R2) (ta tb:TE):TE:=fun σ H Q=>ta σ H fun x H1=>tb σ H1 fun y H2=>r x y H2 Q
noncomputable def tUn (r:V→Hp→VK→Prop) (ta:TE):TE:=fun σ H Q=>ta σ H fun x H1=>r x H1 Q
noncomputable def rI (C:Int→Int→Prop) (g:Int→Int→V):R2:=fun x y H Q=>∃ i j,x=.int i∧y=.int j∧C i j∧Q (g i j) H
noncomputable def rI0 (g:Int→Int→V):R2:=fun x y H Q=>∃ i j,x=.int i∧y=.int j∧Q (g i j) H
noncomputable def rU (g:Int→V):V→Hp→VK→Prop:=fun x H Q=>∃ i,x=.int i∧Q (g i) H
section
variable {X:Cx} {a b c:Expr} {ta tb tc:TE} {pos:Pos}
theorem binT (ha:PE X a ta) (hb:PE X b tb) {pins:List (Addr×Obj)} {s:Shared} {σ:St} {H:Hp} {R:V→V→Hp→Prop} (I:Inv X pins σ H s)
    (h:ta σ H fun x H1=>tb σ H1 fun y H2=>R x y H2) {Q:Value→Shared→Prop} {f:Value→Value→Sem Value}
    (hf:∀ v u s2 x y H2,Inv X pins σ H2 s2→bI x v→bI y u→R x y H2→wpAny (model X.prog X.w) X.A (f v u) Q X.xe s2) :
    wpAny (model X.prog X.w) X.A (eval a X.env) (fun v s₁=>wpAny (model X.prog X.w) X.A (eval b X.env) (fun u s₂=>wpAny (model X.prog X.w) X.A (f v u) Q X.xe s₂) X.xe s₁) X.xe s:=by
  refine thn (ha pins s σ H _ I h) fun v s1 ⟨x,H1,I1,r1,q1⟩=>?_
  refine thn (hb pins s1 σ H1 _ I1 q1) fun u s2 ⟨y,H2,I2,r2,q2⟩=>?_
  exact hf v u s2 x y H2 I2 r1 r2 q2
theorem bF {op:Operator} {r:R2} (ho:jM X (binaryOp op) r) (ha:PE X a ta) (hb:PE X b tb):PE X (.BinOp a op b pos) (tOp r ta tb):=by
 intro pins s σ H Q I h
 exact wpAny_BinOp (binT ha hb I h fun v u s2 x y H2 I2 rx ry q=>ho pins s2 σ H2 x y v u Q I2 rx ry q)
theorem qO {op:UnaryOp} {r:V→Hp→VK→Prop} (ho:UnR X (unaryOp op) r) (ha:PE X a ta):PE X (.UnaryOp op a pos) (tUn r ta):=by
 intro pins s σ H Q I h
 exact UnaryOp_ (thn (ha pins s σ H _ I h) fun v s1 ⟨x,H1,I1,r1,q1⟩=>ho pins s1 σ H1 x v Q I1 r1 q1)
theorem opI {f:Value→Value→Sem Value} {C:Int→Int→Prop} {g:Int→Int→Int}
    (rule:∀(i j:Int) (t u:Tok) (s:Shared) (Q:Value→Shared→Prop) (E:Value→Shared→Prop),C i j→Q (.int (g i j) s.toks) {s with toks:=s.toks+1}→wpAny (model X.prog X.w) X.A (f (.int i t) (.int j u)) Q E s) :
    jM X f (rI C fun i j=>.int (g i j)):=by
  intro pins s σ H x y v u Q I rx ry h
  obtain ⟨i,j,rfl,rfl,hc,q⟩:=h
  obtain ⟨t,rfl⟩:=rx
  obtain ⟨t',rfl⟩:=ry
  exact rule i j t t' s _ _ hc ⟨.int (g i j),H,I.tok _,⟨_,rfl⟩,q⟩
theorem opI0 {f:Value→Value→Sem Value} {g:Int→Int→Int}
    (rule:∀(i j:Int) (t u:Tok) (s:Shared) (Q:Value→Shared→Prop) (E:Value→Shared→Prop),Q (.int (g i j) s.toks) {s with toks:=s.toks+1}→wpAny (model X.prog X.w) X.A (f (.int i t) (.int j u)) Q E s) :
    jM X f (rI0 fun i j=>.int (g i j)):=by
  intro pins s σ H x y v u Q I rx ry h
  obtain ⟨i,j,rfl,rfl,q⟩:=h
  obtain ⟨t,rfl⟩:=rx
  obtain ⟨t',rfl⟩:=ry
  exact rule i j t t' s _ _ ⟨.int (g i j),H,I.tok _,⟨_,rfl⟩,q⟩
theorem opB0 {f:Value→Value→Sem Value} {g:Int→Int→Bool}
    (rule:∀(i j:Int) (t u:Tok) (s:Shared) (Q:Value→Shared→Prop) (E:Value→Shared→Prop),Q (.bool (g i j)) s→wpAny (model X.prog X.w) X.A (f (.int i t) (.int j u)) Q E s) :
    jM X f (rI0 fun i j=>.bl (g i j)):=by
  intro pins s σ H x y v u Q I rx ry h
  obtain ⟨i,j,rfl,rfl,q⟩:=h
  obtain ⟨t,rfl⟩:=rx
  obtain ⟨t',rfl⟩:=ry
  exact rule i j t t' s _ _ ⟨.bl (g i j),H,I,rfl,q⟩
noncomputable def CPow (i j:Int):Prop:=0≤j∧j≤1000000∧i.natAbs < 2 ^ 64
noncomputable def CMul (i j:Int):Prop:=(-(2 ^ 64) < i∧i < 2 ^ 64)∨(-(2 ^ 64) < j∧j < 2 ^ 64)
theorem CMul.ok {i j:Int} (h:CMul i j):IntMulOk i j:=by
 rcases h with ⟨h1,h2⟩ | ⟨h1,h2⟩
 ·exact .of_left (intBits_le_64 h1 h2)
 ·exact .of_right (intBits_le_64 h1 h2)
theorem op_add:jM X (binaryOp .Add) (rI0 fun i j=>.int (i+j)):=opI0 fun _ _ _ _ _ _ _ q=>add_int q
theorem gS:jM X (binaryOp .Sub) (rI0 fun i j=>.int (i - j)):=opI0 fun _ _ _ _ _ _ _ q=>sub_int q
theorem mY:jM X (binaryOp .Mult) (rI CMul fun i j=>.int (i * j)):=opI fun _ _ _ _ _ _ _ hc q=>mul_int q hc.ok
theorem jK:jM X (binaryOp .Mod) (rI (fun _ j=>0 < j) fun i j=>.int (i % j)):=opI fun i j _ _ _ _ _ hc q=>by
 have h1:(0:Int) < j:=hc
 exact mod_int' (by omega) (by rw [Int.fmod_eq_emod_of_nonneg i (by omega)];exact q)
theorem lO:jM X (binaryOp .Pow) (rI CPow fun i j=>.int (i ^ j.toNat)):=opI fun _ _ _ _ _ _ _ hc q=>pow_int_small hc.1 hc.2.1 hc.2.2 q
theorem unI {f:Value→Sem Value} {g:Int→Int}
    (rule:∀(i:Int) (t:Tok) (s:Shared) (Q:Value→Shared→Prop) (E:Value→Shared→Prop),Q (.int (g i) s.toks) {s with toks:=s.toks+1}→wpAny (model X.prog X.w) X.A (f (.int i t)) Q E s) :
    UnR X f (rU fun i=>.int (g i)):=by
  intro pins s σ H x v Q I rx h
  obtain ⟨i,rfl,q⟩:=h
  obtain ⟨t,rfl⟩:=rx
  exact rule i t s _ _ ⟨.int (g i),H,I.tok _,⟨_,rfl⟩,q⟩
theorem nB:UnR X (unaryOp .USub) (rU fun i=>.int (-i)):=unI fun _ _ _ _ _ q=>neg_int q
end
noncomputable def scal:V→V→Bool
 | .non,.non=>true | .non,.int _=>true | .int _,.non=>true | .non,.bl _=>true | .bl _,.non=>true | .non,.str _=>true | .str _,.non=>true
 | .int _,.int _=>true | .bl _,.bl _=>true | .str _,.str _=>true | .byt _,.byt _=>true
 | .int _,.str _=>true | .str _,.int _=>true | .bl _,.str _=>true | .str _,.bl _=>true
 | _,_=>false
noncomputable def rEq:R2:=fun x y H Q=>scal x y=true∧Q (.bl (decide (x=y))) H
noncomputable def rNe:R2:=fun x y H Q=>scal x y=true∧Q (.bl (!decide (x=y))) H
theorem aaW {i j:Int}:decide (V.int i=V.int j)=(i == j):=by
 rw [Bool.eq_iff_iff]
 simp
theorem dec_bl {i j:Bool}:decide (V.bl i=V.bl j)=(i == j):=by
 rw [Bool.eq_iff_iff]
 simp
theorem aaL {i j:Str}:decide (V.str i=V.str j)=(i == j):=by
 rw [Bool.eq_iff_iff]
 simp
theorem aaD {i j:Array UInt8}:decide (V.byt i=V.byt j)=(i.toList == j.toList):=by
 rw [Bool.eq_iff_iff]
 cases i
 cases j
 simp
section
variable {X:Cx} {a b c:Expr} {ta tb tc:TE} {pos:Pos}
theorem bR {pins:List (Addr×Obj)} {σ:St} {H:Hp} {s:Shared} {Q:VK} {k k':Bool} (I:Inv X pins σ H s) (q:Q (.bl k) H) (e:k=k'):EP X pins σ Q (.bool k') s:=by
 subst e
 exact ⟨.bl k,H,I,rfl,q⟩
theorem cD:jM X (compareOp .Eq) rEq:=by
 intro pins s σ H x y v u Q I rx ry h
 obtain ⟨hs,q⟩:=h
 cases x with
 | non =>
  cases rx
  cases y with
  | non=>cases ry;exact PySem.EqNone.eq_none_none (bR I q (by simp))
  | bl j=>cases ry;exact PySem.EqNone.eq_none_bool (bR I q (by simp))
  | int j=>obtain ⟨t',rfl⟩:=ry;exact PySem.EqNone.eq_none_int (bR I q (by simp))
  | str j=>obtain ⟨t',rfl⟩:=ry;exact PySem.EqNone.eq_none_str (bR I q (by simp))
  | _=>exact absurd (show false=true from hs) Bool.false_ne_true
 | bl i =>
  cases rx
  cases y with
  | non=>cases ry;exact PySem.EqNone.eq_bool_none (bR I q (by simp))
  | bl j=>cases ry;exact eq_bool (bR I q dec_bl)
  | str j=>obtain ⟨t',rfl⟩:=ry;exact PySem.EqMixed.eq_bool_str (bR I q (by simp))
  | _=>exact absurd (show false=true from hs) Bool.false_ne_true
 | int i =>
  obtain ⟨t,rfl⟩:=rx
  cases y with
  | non=>cases ry;exact PySem.EqNone.eq_int_none (bR I q (by simp))
  | int j=>obtain ⟨t',rfl⟩:=ry;exact eq_int (bR I q aaW)
  | str j=>obtain ⟨t',rfl⟩:=ry;exact PySem.EqMixed.eq_int_str (bR I q (by simp))
  | _=>exact absurd (show false=true from hs) Bool.false_ne_true
 | str i =>
  obtain ⟨t,rfl⟩:=rx
  cases y with
  | non=>cases ry;exact PySem.EqNone.eq_str_none (bR I q (by simp))
  | bl j=>cases ry;exact PySem.EqMixed.eq_str_bool (bR I q (by simp))
  | int j=>obtain ⟨t',rfl⟩:=ry;exact PySem.EqMixed.eq_str_int (bR I q (by simp))
  | str j=>obtain ⟨t',rfl⟩:=ry;exact eq_str (bR I q aaL)
  | _=>exact absurd (show false=true from hs) Bool.false_ne_true
 | byt i =>
  obtain ⟨t,rfl⟩:=rx
  cases y with
  | byt j=>obtain ⟨t',rfl⟩:=ry;exact PySem.W.eq_bytes (bR I q aaD)
  | _=>exact absurd (show false=true from hs) Bool.false_ne_true
 | _=>cases y<;>exact absurd (show false=true from hs) Bool.false_ne_true
theorem op_ne:jM X (compareOp .NotEq) rNe:=by
 intro pins s σ H x y v u Q I rx ry h
 obtain ⟨hs,q⟩:=h
 cases x with
 | non =>
  cases rx
  cases y with
  | non=>cases ry;exact PySem.EqNone.ne_none_none (bR I q (by simp))
  | bl j=>cases ry;exact PySem.EqNone.ne_none_bool (bR I q (by simp))
  | int j=>obtain ⟨t',rfl⟩:=ry;exact PySem.EqNone.ne_none_int (bR I q (by simp))
  | str j=>obtain ⟨t',rfl⟩:=ry;exact PySem.EqNone.ne_none_str (bR I q (by simp))
  | _=>exact absurd (show false=true from hs) Bool.false_ne_true
 | bl i =>
  cases rx
  cases y with
  | non=>cases ry;exact PySem.EqNone.ne_bool_none (bR I q (by simp))
  | bl j=>cases ry;exact ne_bool (bR I q (congrArg not dec_bl))
  | str j=>obtain ⟨t',rfl⟩:=ry;exact PySem.EqMixed.ne_bool_str (bR I q (by simp))
  | _=>exact absurd (show false=true from hs) Bool.false_ne_true
 | int i =>
  obtain ⟨t,rfl⟩:=rx
  cases y with
  | non=>cases ry;exact PySem.EqNone.ne_int_none (bR I q (by simp))
  | int j=>obtain ⟨t',rfl⟩:=ry;exact ne_int (bR I q (congrArg not aaW))
  | str j=>obtain ⟨t',rfl⟩:=ry;exact PySem.EqMixed.ne_int_str (bR I q (by simp))
  | _=>exact absurd (show false=true from hs) Bool.false_ne_true
 | str i =>
  obtain ⟨t,rfl⟩:=rx
  cases y with
  | non=>cases ry;exact PySem.EqNone.ne_str_none (bR I q (by simp))
  | bl j=>cases ry;exact PySem.EqMixed.ne_str_bool (bR I q (by simp))
  | int j=>obtain ⟨t',rfl⟩:=ry;exact PySem.EqMixed.ne_str_int (bR I q (by simp))
  | str j=>obtain ⟨t',rfl⟩:=ry;exact ne_str (bR I q (congrArg not aaL))
  | _=>exact absurd (show false=true from hs) Bool.false_ne_true
 | byt i =>
  obtain ⟨t,rfl⟩:=rx
  cases y with
  | byt j=>obtain ⟨t',rfl⟩:=ry;exact PySem.W.ne_bytes (bR I q (congrArg not aaD))
  | _=>exact absurd (show false=true from hs) Bool.false_ne_true
 | _=>cases y<;>exact absurd (show false=true from hs) Bool.false_ne_true
theorem mP:jM X (compareOp .Lt) (rI0 fun i j=>.bl (decide (i < j))):=opB0 fun _ _ _ _ _ _ _ q=>lt_int q
theorem op_gt:jM X (compareOp .Gt) (rI0 fun i j=>.bl (decide (j < i))):=opB0 fun _ _ _ _ _ _ _ q=>gt_int q
theorem op_ge:jM X (compareOp .GtE) (rI0 fun i j=>.bl (decide (j≤i))):=opB0 fun _ _ _ _ _ _ _ q=>ge_int q
theorem op_isN:jM X (compareOp .Is) (fun x y H Q=>y=.non∧Q (.bl (decide (x=.non))) H):=by
 intro pins s σ H x y v u Q I rx ry h
 obtain ⟨rfl,q⟩:=h
 cases ry
 refine is_none_gen (bR I q ?_)
 cases x<;>first
  | (cases rx;rfl)
  | (obtain ⟨t,rfl⟩:=rx;rfl)
theorem op_notN:jM X (compareOp .IsNot) (fun x y H Q=>y=.non∧Q (.bl (!decide (x=.non))) H):=by
 intro pins s σ H x y v u Q I rx ry h
 obtain ⟨rfl,q⟩:=h
 cases ry
 refine isnot_none_gen (bR I q ?_)
 cases x<;>first
  | (cases rx;rfl)
  | (obtain ⟨t,rfl⟩:=rx;rfl)
theorem jM.or {f:Value→Value→Sem Value} {r r':R2} (h:jM X f r) (h':jM X f r'):jM X f (fun x y H Q=>r x y H Q∨r' x y H Q):=by
 intro pins s σ H x y v u Q I rx ry q
 rcases q with q | q
 ·exact h pins s σ H x y v u Q I rx ry q
 ·exact h' pins s σ H x y v u Q I rx ry q
theorem nomark (b:Expr) {op:CmpOp} (h:op≠.In:=by decide) (h2:op≠.NotIn:=by decide):behindInMarks op b=false:=by
 have e1:(op == CmpOp.In)=false:=by cases op<;>first | rfl | exact absurd rfl h
 have e2:(op == CmpOp.NotIn)=false:=by cases op<;>first | rfl | exact absurd rfl h2
 cases b<;>simp [behindInMarks,e1,e2]
theorem jB {op:CmpOp} {r:R2} (ho:jM X (compareOp op) r) (ha:PE X a ta) (hb:PE X b tb) (hm:behindInMarks op b=false):PE X (.Compare a [op] [b] pos) (tOp r ta tb):=by
 intro pins s σ H Q I h
 exact wpAny_Compare1 (binT ha hb I h fun v u s2 x y H2 I2 rx ry q=>ho pins s2 σ H2 x y v u Q I2 rx ry q) hm
noncomputable def yH (t:TE):TT:=fun σ H Q=>t σ H fun x H'=>∃ k,x=.bl k∧Q k H'
theorem aQ {op:CmpOp} {r:R2} (ho:jM X (compareOp op) r) (ha:PE X a ta) (hb:PE X b tb) (hm:behindInMarks op b=false):PT X (.Compare a [op] [b] pos) (yH (tOp r ta tb)):=by
 intro pins s σ H Q I h
 refine wpAny_isTrue_Compare1 (thn (ha pins s σ H _ I h) fun v s1 ⟨x,H1,I1,r1,q1⟩=>thn (hb pins s1 σ H1 _ I1 q1) fun u s2 ⟨y,H2,I2,r2,q2⟩ =>
  thn (ho pins s2 σ H2 x y v u _ I2 r1 r2 q2) fun c s3 ⟨z,H3,I3,r3,k,e,q3⟩=>?_) hm
 subst e
 cases r3
 exact wpAny_truthy_bool ⟨H3,I3,q3⟩
noncomputable def TruV (K:PySem.W.Frag) (x:V) (H:Hp) (k:Bool):Prop :=
 match x with
 | .non=>k=false
 | .bl b=>k=b
 | .int i=>k=(i != 0)
 | .str y=>y.length≤sizeLine∧k=((y.length:Int) != 0)
 | .byt y=>y.size≤sizeLine∧k=((y.size:Int) != 0)
 | .ref p=>(∃ xs,eA K H p xs∧k = !xs.isEmpty)∨(∃ xs,gO K H p xs∧k = !xs.isEmpty)∨∃ kvs,H p=some (.dK kvs)∧k = !kvs.isEmpty
 | _=>False
theorem zR {κ:Type} {kvs:List (κ×V)} {vs:List (κ×Value)} (r:KV kvs vs):(!vs.isEmpty) = !kvs.isEmpty:=by
 cases r<;>rfl
theorem sS {xs:List V} {its:List Value} (r:Vals xs its):(!its.toArray.isEmpty) = !xs.isEmpty:=by
 cases r<;>simp
theorem line63:(sizeLine:Nat) < 2 ^ 63:=by rw [sizeLine_eq];decide
theorem tru_ok:TruR X (fun x H Q=>∃ k,TruV X.K x H k∧Q k H):=by
 intro pins s σ H x v Q I rx h
 obtain ⟨k,e,q⟩:=h
 have hl:=line63
 have hs:sizeLine=16777216:=sizeLine_eq
 cases x with
 | non =>
  cases rx
  have e':k=false:=e
  subst e'
  exact truthy_none ⟨H,I,q⟩
 | bl b =>
  cases rx
  have e':k=b:=e
  subst e'
  exact wpAny_truthy_bool ⟨H,I,q⟩
 | int i =>
  obtain ⟨t,rfl⟩:=rx
  have e':k=(i != 0):=e
  subst e'
  exact PySem.P.truthy_int ⟨H,I,q⟩
 | str y =>
  obtain ⟨t,rfl⟩:=rx
  obtain ⟨hy,e'⟩:y.length≤sizeLine∧k=((y.length:Int) != 0):=e
  subst e'
  exact PySem.P.truthy_str (by omega) ⟨H,I.tok _,q⟩
 | byt y =>
  obtain ⟨t,rfl⟩:=rx
  obtain ⟨hy,e'⟩:y.size≤sizeLine∧k=((y.size:Int) != 0):=e
  subst e'
  exact PySem.W.truthy_bytes (by omega) ⟨H,I.tok _,q⟩
 | ref p =>
  cases rx
  have e':(∃ xs,eA X.K H p xs∧k = !xs.isEmpty)∨(∃ xs,gO X.K H p xs∧k = !xs.isEmpty)∨∃ kvs,H p=some (.dK kvs)∧k = !kvs.isEmpty:=e
  rcases e' with ⟨xs,hx,e'⟩ | ⟨xs,hx,e'⟩ | ⟨kvs,hx,e'⟩
  ·subst e'
   obtain ⟨its,r,pl,hz⟩:=I.list hx
   have hlen:=r.length
   exact wpAny_truthy_list pl.isList (by simp only [List.size_toArray];omega) ⟨H,I.tok _,by rw [sS r];exact q⟩
  ·subst e'
   obtain ⟨its,r,pl,hz⟩:=I.tuple hx
   have hlen:=r.length
   exact truthy_tuple pl (by simp only [List.size_toArray];omega) ⟨H,I.tok _,by rw [sS r];exact q⟩
  ·subst e'
   obtain ⟨hz,hS,vs,r,m⟩:kvs.length≤sizeLine∧(p == sysModules)=false∧∃ vs,KV kvs vs∧s.heap.DictOf (bS X.prog X.w) p vs:=I.hok p _ hx
   have hlen:kvs.length=vs.length:=Paired.length r
   exact wpAny_truthy_dict hS m (by omega) ⟨H,I.tok _,by rw [zR r];exact q⟩
 | _=>exact (show False from e).elim
theorem y6:jM X (binaryOp .Add) (fun x y H Q=>∃ i j,x=.str i∧y=.str j∧i.length+j.length≤sizeLine∧Q (.str (i++j)) H):=by
 intro pins s σ H x y v u Q I rx ry h
 obtain ⟨i,j,rfl,rfl,hz,q⟩:=h
 obtain ⟨t,rfl⟩:=rx
 obtain ⟨t',rfl⟩:=ry
 exact add_str (fun t' tk=>⟨.str (i++j),H,I.tok _,⟨_,rfl⟩,q⟩) hz
theorem vals1 {x:V} {us:List Value} (r:Vals [x] us):∃ u,us=[u]∧bI x u:=by
 cases r with
 | cons r1 r2=>cases r2;exact ⟨_,rfl,r1⟩
theorem vals2 {x y:V} {us:List Value} (r:Vals [x,y] us):∃ u w',us=[u,w']∧bI x u∧bI y w':=by
 cases r with
 | cons r1 r2 =>
  cases r2 with
  | cons r3 r4=>cases r4;exact ⟨_,_,rfl,r1,r3⟩
theorem abI (hc:X.calm=true):dX X (.builtin "max") (fun xs H Q=>∃ i j,xs=[.int i,.int j]∧Q (.int (if j > i then j else i)) H):=by
 intro pins s σ H xs us Q I r h
 obtain ⟨i,j,rfl,q⟩:=h
 obtain ⟨u,w',rfl,⟨t,rfl⟩,⟨t',rfl⟩⟩:=vals2 r
 refine max_two_ints (I.ok.hd hc) fun h' tk k=>⟨_,H,I.kept k,?_,q⟩
 by_cases hj:j > i
 ·rw [if_pos hj,if_pos hj];exact ⟨_,rfl⟩
 ·rw [if_neg hj,if_neg hj];exact ⟨_,rfl⟩
theorem call_min2 (hc:X.calm=true):dX X (.builtin "min") (fun xs H Q=>∃ i j,xs=[.int i,.int j]∧Q (.int (if j < i then j else i)) H):=by
 intro pins s σ H xs us Q I r h
 obtain ⟨i,j,rfl,q⟩:=h
 obtain ⟨u,w',rfl,⟨t,rfl⟩,⟨t',rfl⟩⟩:=vals2 r
 refine min_two_ints (I.ok.hd hc) fun h' tk k=>⟨_,H,I.kept k,?_,q⟩
 by_cases hj:j < i
 ·rw [if_pos hj,if_pos hj];exact ⟨_,rfl⟩
 ·rw [if_neg hj,if_neg hj];exact ⟨_,rfl⟩
theorem call_int1:dX X (.type "int") (fun xs H Q=>(∃ i,xs=[.int i]∧Q (.int i) H)∨∃ k,xs=[.bl k]∧Q (.int (if k then 1 else 0)) H):=by
 intro pins s σ H xs us Q I r h
 rcases h with ⟨i,rfl,q⟩ | ⟨k,rfl,q⟩
 ·obtain ⟨u,rfl,t,rfl⟩:=vals1 r
  exact call_int_int ⟨.int i,H,I,⟨_,rfl⟩,q⟩
 ·obtain ⟨u,rfl,r1⟩:=vals1 r
  cases r1
  exact call_int_bool ⟨.int (if k then 1 else 0),H,I.tok _,⟨_,rfl⟩,q⟩
noncomputable def LenV (K:PySem.W.Frag) (x:V) (H:Hp) (n:Nat):Prop :=
 match x with
 | .str y=>y.length≤sizeLine∧n=y.length
 | .byt y=>y.size≤sizeLine∧n=y.size
 | .ref p=>(∃ xs,eA K H p xs∧n=xs.length)∨∃ xs,gO K H p xs∧n=xs.length
 | _=>False
theorem sW:dX X (.builtin "len") (fun xs H Q=>∃ x n,xs=[x]∧LenV X.K x H n∧Q (.int n) H):=by
 intro pins s σ H xs us Q I r h
 obtain ⟨x,n,rfl,e,q⟩:=h
 obtain ⟨u,rfl,rx⟩:=vals1 r
 have hl:=line63
 have hs:sizeLine=16777216:=sizeLine_eq
 cases x with
 | str y =>
  obtain ⟨t,rfl⟩:=rx
  obtain ⟨hy,e'⟩:y.length≤sizeLine∧n=y.length:=e
  subst e'
  exact len_str (by omega) ⟨.int _,H,I.tok _,⟨_,rfl⟩,q⟩
 | byt y =>
  obtain ⟨t,rfl⟩:=rx
  obtain ⟨hy,e'⟩:y.size≤sizeLine∧n=y.size:=e
  subst e'
  exact PySem.W.len_bytes (by omega) ⟨.int _,H,I.tok _,⟨_,rfl⟩,q⟩
 | ref p =>
  cases rx
  have e':(∃ xs,eA X.K H p xs∧n=xs.length)∨∃ xs,gO X.K H p xs∧n=xs.length:=e
  rcases e' with ⟨xs,hx,e'⟩ | ⟨xs,hx,e'⟩
  ·subst e'
   obtain ⟨its,r',pl,hz⟩:=I.list hx
   have hlen:=r'.length
   exact Calls.call_len_list pl.isList (by simp only [List.size_toArray];omega) ⟨.int xs.length,H,I.tok _,⟨_,by simp only [List.size_toArray];rw [hlen]⟩,q⟩
  ·subst e'
   obtain ⟨its,r',pl,hz⟩:=I.tuple hx
   have hlen:=r'.length
   exact len_tuple pl (by simp only [List.size_toArray];omega) ⟨.int xs.length,H,I.tok _,⟨_,by simp only [List.size_toArray];rw [hlen]⟩,q⟩
 | _=>exact (show False from e).elim
end
end L2
namespace L2
open PySem PySem.Spec PyProof.Rows
structure zS (h:Heap) (x dx C:Addr) (mA:Str→Option Value):Prop where
 obj:h.get? x=some (PySem.W.instObj C dx)
 ns:h.Ns1 dx mA
 ne:dx≠x
theorem lookIn_ns {h:Heap} {dx:Addr} {mA:Str→Option Value} (n:h.Ns1 dx mA):∃ od,h.get? dx=some od∧∀ name,PySem.W.lookIn name od=some (mA name):=by
 obtain ⟨o,es,ep,ho,hd,hk,_,hm⟩:=n
 refine ⟨o,ho,fun name=>?_⟩
 have e:=hm name
 unfold nsFind findBy at e
 rw [← Array.find?_toList] at e
 unfold PySem.W.lookIn
 rw [hd]
 dsimp only
 split
 ·rename_i y q
  rw [q] at e
  exact congrArg some e
 ·rename_i q
  rw [q] at e
  have a:es.toList.any (·.refKey)=false:=by
   rw [List.any_eq_false]
   intro y hy
   obtain ⟨z,t,hkey⟩:=hk y (Array.mem_toList_iff.mp hy)
   simp [DictEntry.refKey,hkey]
  have a':¬ es.toList.any (·.refKey)=true:=by rw [a];exact Bool.false_ne_true
  rw [if_neg a']
  exact congrArg some e
theorem zS.look {h:Heap} {x dx C:Addr} {mA:Str→Option Value} (I:zS h x dx C mA):∃ od,PySem.W.InstAt h x (PySem.W.instObj C dx) C (some od)∧∀ name,PySem.W.lookIn name od=some (mA name) :=
 let ⟨od,ho,hl⟩:=lookIn_ns I.ns
 ⟨od,⟨I.obj,rfl,rfl,ho⟩,hl⟩
section
variable {prog:Program} {w:World} {A:Around} {E:Value→Shared→Prop} {s:Shared} {K:PySem.W.Frag} {x dx C f:Addr} {mA:Str→Option Value} {name:Str} {v:Value}
theorem get_map {expr:Bool} {Q:Value→Shared→Prop} (X:K.In s.heap) (I:zS s.heap x dx C mA) (hg:PySem.W.plainGet K C name=true) (hh:PySem.W.hasDictIn K C=true)
    (ha:PySem.W.findIn K (.ref C) name=some none) (hv:mA name=some v) (hv':PySem.W.handedIn v=true) (h:Q v {s with toks:=s.toks+1}) :
    wpAny (model prog w) A (getAttr (.ref x) name expr) Q E s:=by
  obtain ⟨od,J,hl⟩:=I.look
  exact PySem.W.get_value X J (PySem.W.plainGet_of hg).1 (PySem.W.findObj_own hh ha rfl (by rw [hl,hv])) hv' h
theorem get_meth {pl:Sem Bool} {Q:Value×List Value→Shared→Prop} (X:K.In s.heap) (I:zS s.heap x dx C mA) (hg:PySem.W.plainGet K C name=true)
    (hf:PySem.W.findIn K (.ref C) name=some (some (.ref f))) (ht:PySem.W.isFn K (.ref f)=true) (hv:mA name=none) (h:Q (.ref f,[.ref x]) s) :
    wpAny (model prog w) A (getMethod (.ref x) name pl) Q E s:=by
  obtain ⟨od,J,hl⟩:=I.look
  exact PySem.W.method_fn X J (PySem.W.plainGet_of hg).1 (PySem.W.plainGet_of hg).2 hf (beq_iff_eq.mp ht) (by show (PySem.W.lookIn name od).map (·.isSome)=some false;rw [hl,hv];rfl) h
theorem set_map {ns:List Str} {Q:Unit→Shared→Prop} (X:K.In s.heap) (I:zS s.heap x dx C mA)
    (hs:PySem.W.findIn K (.ref C) "__setattr__"=some (some (.builtin "object.__setattr__"))) (hp:PySem.W.plainOver K C=true) (ht:PySem.W.takerIn K C name=some none) (hh:PySem.W.hasDictIn K C=true)
    (hw:PySem.Within mA ns) (hsz:ns.length≤sizeLine)
    (h:∀ h',zS h' x dx C (fun y=>if y=name then some v else mA y)→Heap.SameBut dx s.heap h'→Q () {s with heap:=h',toks:=s.toks+2}) :
    wpAny (model prog w) A (setAttr (.ref x) name v) Q E s:=by
  obtain ⟨od,J,hl⟩:=I.look
  refine PySem.W.set_plain X J hs (PySem.W.osa_open (s:={s with toks:=s.toks+1}) (r:=none) X J hp ht fun b=>?_)
  obtain ⟨cd,hc,hd'⟩:=PySem.W.any_some hh
  have hx:s.heap.get? x=some ⟨.ref C,some dx,.plain,#[]⟩:=I.obj
  refine wpAny_bind (wpAny_pure (wpAny_bind (wpAny_bind (wpAny_loadPart hx (wpAny_bind (PySem.W.Looks.here (s:={s with toks:=s.toks+1}) (PySem.W.looks_clsIn X hc) ?_))))))
  rw [hd']
  refine wpAny_pure (a:=some dx) (wpAny_bind (wpAny_pure (wpAny_bind ?_)))
  refine wpAny_nsSet1 (s:={s with toks:=s.toks+1}) I.ns fun h' hn2 hs2=>?_
  obtain ⟨oD,esD,epD,hoD,hdD,hcD⟩:=hn2.count (PySem.Within.cons name v hw)
  refine wpAny_bind (wpAny_lookBehind hoD (by rw [hdD];exact pastItsLine_dict (Nat.le_trans hcD (by rw [List.length_cons];omega))) ?_)
  exact wpAny_pure (h _ ⟨(hs2.2 _ (Ne.symm I.ne)).trans I.obj,hn2,I.ne⟩ hs2)
theorem make_map {R:Result→Shared→Prop} {vs:List Value} {kw:List (Str×Value)} (X:K.In s.heap) (hm:PySem.W.makesIn K C=true)
    (hi:PySem.W.findIn K (.ref C) "__init__"=some (some (.ref f))) (hf:PySem.W.typeIn K (.ref f)=some (.type "function"))
    (h:codeAny (model prog w) (A.under (.builtin "type.__call__" ⟨.ref C::vs,kw⟩)) (.call (.ref f) ⟨.ref (s.heap.objs.size+1)::vs,kw⟩) (PySem.W.InitBack (s.heap.objs.size+1) R)
      {s with heap:=(s.heap.push PySem.W.emptyDict).push (PySem.W.instObj C s.heap.objs.size)}) :
    codeAny (model prog w) A (.call (.ref C) ⟨vs,kw⟩) R s:=by
  obtain ⟨hh,g,d,t,os⟩:=s
  exact PySem.W.make_core (PySem.W.makes_of X hm) (PySem.W.looks_findIn X hi) (fun self=>PySem.W.bind_fn X self hf) (.inl rfl) h
end
noncomputable def g9 (f:Str) (v:V):List (Str×V)→List (Str×V)
 | []=>[(f,v)]
 | (g,x)::r=>if g=f then (g,v)::r else (g,x)::g9 f v r
theorem pN (f g:Str) (v:V):∀ fs:List (Str×V),(g9 f v fs).lookup g=if g=f then some v else fs.lookup g
 | []=>by
  show List.lookup g [(f,v)]=_
  by_cases h:g=f
  ·have hb:(g == f)=true:=beq_iff_eq.mpr h
   simp only [List.lookup,hb,if_pos h]
  ·have hb:(g == f)=false:=beq_eq_false_iff_ne.mpr h
   simp only [List.lookup,hb,if_neg h]
 | (k,x)::r=>by
  have ih:=pN f g v r
  rw [show g9 f v ((k,x)::r)=(if k=f then (k,v)::r else (k,x)::g9 f v r) from rfl]
  by_cases hk:k=f
  ·rw [if_pos hk]
   by_cases h:g=k
   ·have hb:(g == k)=true:=beq_iff_eq.mpr h
    simp only [List.lookup,hb,if_pos (h.trans hk)]
   ·have hb:(g == k)=false:=beq_eq_false_iff_ne.mpr h
    simp only [List.lookup,hb,if_neg (fun e:g=f=>h (e.trans hk.symm))]
  ·rw [if_neg hk]
   by_cases h:g=k
   ·have hb:(g == k)=true:=beq_iff_eq.mpr h
    simp only [List.lookup,hb,if_neg (fun e:g=f=>hk (h.symm.trans e))]
   ·have hb:(g == k)=false:=beq_eq_false_iff_ne.mpr h
    simp only [List.lookup,hb]
    exact ih
theorem oI (f:Str) (v:V):∀ fs:List (Str×V),f∈(g9 f v fs).map (·.1)∧∀ g,g∈fs.map (·.1)→g∈(g9 f v fs).map (·.1)
 | []=>⟨by simp [g9],fun g h=>by simp at h⟩
 | (k,x)::r=>by
  obtain ⟨i1,i2⟩:=oI f v r
  rw [show g9 f v ((k,x)::r)=(if k=f then (k,v)::r else (k,x)::g9 f v r) from rfl]
  by_cases hk:k=f
  ·rw [if_pos hk]
   subst hk
   exact ⟨by simp,fun g h=>by simpa using h⟩
  ·rw [if_neg hk]
   refine ⟨?_,fun g h=>?_⟩
   ·rw [List.map_cons]
    exact List.mem_cons_of_mem _ i1
   ·rw [List.map_cons] at h ⊢
    rcases List.mem_cons.mp h with e | e
    ·exact List.mem_cons.mpr (.inl e)
    ·exact List.mem_cons_of_mem _ (i2 g e)
theorem pH (f:Str) (v:V):∀ fs:List (Str×V),(g9 f v fs).length≤fs.length+1
 | []=>by simp [g9]
 | (k,x)::r=>by
  have ih:=pH f v r
  rw [show g9 f v ((k,x)::r)=(if k=f then (k,v)::r else (k,x)::g9 f v r) from rfl]
  by_cases hk:k=f
  ·rw [if_pos hk,List.length_cons,List.length_cons];omega
  ·rw [if_neg hk,List.length_cons,List.length_cons];omega
theorem j9.some_of {v:V} {o:Option Value} (r:j9 (some v) o):∃ u,o=some u∧bI v u:=by
 cases o with
 | none=>exact (show False from r).elim
 | some u=>exact ⟨u,rfl,r⟩
theorem j9.none_of {o:Option Value} (r:j9 none o):o=none:=by
 cases o with
 | none=>rfl
 | some u=>exact (show False from r).elim
theorem handed_of {v:V} {u:Value} (r:bI v u):PySem.W.handedIn u=true:=by
 cases v with
 | non=>cases (show u=Value.none from r);rfl
 | bl b=>cases (show u=Value.bool b from r);rfl
 | int i=>obtain ⟨t,e⟩:=(show ∃ t,u=Value.int i t from r);cases e;rfl
 | str x=>obtain ⟨t,e⟩:=(show ∃ t,u=Value.str x t from r);cases e;rfl
 | byt b=>obtain ⟨t,e⟩:=(show ∃ t,u=Value.bytes b t from r);cases e;rfl
 | flt b=>obtain ⟨t,e⟩:=(show ∃ t,u=Value.float b t from r);cases e;rfl
 | ref a=>cases (show u=Value.ref a from r);rfl
 | ty n=>cases (show u=Value.type n from r);rfl
section
variable {P:Program} {w:World} {H H':Hp} {h h':Heap} {a C dx:Addr} {fs fs':List (Str×V)}
theorem vQ (hok:HOk P w H h) (e:H a=some (.ins C dx fs)):∃ mA,zS h a dx C mA∧(∀ f,j9 (fs.lookup f) (mA f))∧PySem.Within mA (fs.map (·.1))∧fs.length≤1000∧H dx=some (.own a):=by
 obtain ⟨d,z,ne,ob,mA,n,r,q⟩:=(show cZ P w H h a (.ins C dx fs) from hok a _ e)
 exact ⟨mA,⟨ob,n,ne⟩,r,q,z,d⟩
end
structure Cls (K:PySem.W.Frag) (C:Addr):Prop where
 pg:PySem.W.plainGet K C Str.empty=true
 hd:PySem.W.hasDictIn K C=true
 po:PySem.W.plainOver K C=true
 sa:PySem.W.findIn K (.ref C) "__setattr__"=some (some (.builtin "object.__setattr__"))
theorem Cls.get {K:PySem.W.Frag} {C:Addr} (c:Cls K C) (f:Str):PySem.W.plainGet K C f=true:=c.pg
noncomputable def dS (K:PySem.W.Frag) (C:Addr) (f:Str):Prop:=PySem.W.findIn K (.ref C) f=some none
theorem dS.taker {K:PySem.W.Frag} {C:Addr} {f:Str} (n:dS K C f):PySem.W.takerIn K C f=some none:=by
 unfold PySem.W.takerIn
 rw [show PySem.W.findIn K (.ref C) f=some none from n]
 rfl
structure Meth (K:PySem.W.Frag) (C:Addr) (m:Str) (f:Addr):Prop where
 at_:PySem.W.findIn K (.ref C) m=some (some (.ref f))
 fn:PySem.W.isFn K (.ref f)=true
 kp:PySem.W.keepIn K (.ref f)=true
section
variable {X:Cx} {pins:List (Addr×Obj)} {σ:St} {H:Hp} {s:Shared} {a C dx:Addr} {fs:List (Str×V)} {f:Str} {v:V} {A:Around} {E:Value→Shared→Prop}
theorem rF {b:Bool} {Q:Value→Shared→Prop} (I:Inv X pins σ H s) (e:H a=some (.ins C dx fs)) (c:Cls X.K C) (n:dS X.K C f) (l:fs.lookup f=some v)
    (h:∀ u s',Inv X pins σ H s'→bI v u→Q u s'):wpAny (model X.prog X.w) A (getAttr (.ref a) f b) Q E s:=by
  obtain ⟨mA,O,r,_,_,_⟩:=vQ I.hok e
  obtain ⟨u,hu,ru⟩:=j9.some_of (v:=v) (o:=mA f) (by rw [← l];exact r f)
  exact get_map I.kIn O (c.get f) c.hd n hu (handed_of ru) (h u _ (I.tok _) ru)
theorem qZ {m:Str} {g:Addr} {pl:Sem Bool} {Q:Value×List Value→Shared→Prop} (I:Inv X pins σ H s) (e:H a=some (.ins C dx fs)) (c:Cls X.K C) (k:Meth X.K C m g) (l:fs.lookup m=none)
    (h:Q (.ref g,[.ref a]) s):wpAny (model X.prog X.w) A (getMethod (.ref a) m pl) Q E s:=by
  obtain ⟨mA,O,r,_,_,_⟩:=vQ I.hok e
  have hn:mA m=none:=j9.none_of (by rw [← l];exact r m)
  exact get_meth I.kIn O (c.get m) k.at_ k.fn hn h
theorem qS {y:V} {u:Value} {Q:Unit→Shared→Prop} (I:Inv X pins σ H s) (e:H a=some (.ins C dx fs)) (c:Cls X.K C) (n:dS X.K C f) (hl:fs.length < 1000) (ry:bI y u)
    (h:∀ s',Inv X pins σ (upd H a (.ins C dx (g9 f y fs))) s'→Q () s'):wpAny (model X.prog X.w) A (setAttr (.ref a) f u) Q E s:=by
  obtain ⟨mA,O,r,wi,_,ho⟩:=vQ I.hok e
  have hz:(fs.map (·.1)).length≤sizeLine:=by rw [List.length_map,sizeLine_eq];omega
  refine set_map I.kIn O c.sa c.po n.taker c.hd wi hz fun h' O' sb=>h _ ?_
  have hd:∃ o,h'.get? dx=some o:=let ⟨o,_,_,e',_⟩:=O'.ns;⟨o,e'⟩
  refine I.write (x:=a) (e:=dx) (by rw [e];exact True.intro) (.inr ho) (fun b q hb z=>(sb.2 b hb).trans z) hd ?_
  refine ⟨by rw [aI O.ne];exact ho,?_,O.ne,O'.obj,_,O'.ns,fun g=>?_,fun g hg=>?_⟩
  · have:=pH f y fs;omega
  · show j9 ((g9 f y fs).lookup g) (if g=f then some u else mA g)
    rw [pN]
    by_cases q:g=f
    · rw [if_pos q,if_pos q];exact ry
    · rw [if_neg q,if_neg q];exact r g
  · by_cases q:g=f
    · rw [q];exact (oI f y fs).1
    · refine (oI f y fs).2 g (wi g fun z=>hg ?_)
      show (if g=f then some u else mA g)=none
      rw [if_neg q];exact z
theorem Inv.made (I:Inv X pins σ H s):Inv X pins σ (upd (upd H s.heap.objs.size (.own (s.heap.objs.size+1))) (s.heap.objs.size+1) (.ins C s.heap.objs.size []))
    {s with heap:=(s.heap.push PySem.W.emptyDict).push (PySem.W.instObj C s.heap.objs.size)}:=by
  have e1:(s.heap.push PySem.W.emptyDict).get? s.heap.objs.size=some PySem.W.emptyDict:=Heap.get?_push_size s.heap rfl
  have e2:((s.heap.push PySem.W.emptyDict).push (PySem.W.instObj C s.heap.objs.size)).get? (s.heap.objs.size+1)=some (PySem.W.instObj C s.heap.objs.size):=by
    have:=Heap.get?_push_size (s.heap.push PySem.W.emptyDict) (o:=PySem.W.instObj C s.heap.objs.size) rfl
    rwa [Heap.size_push] at this
  have e3:(s.heap.push PySem.W.emptyDict).Ns s.heap.objs.size (fun _=>none):=⟨PySem.W.emptyDict,#[],_,e1,rfl,(fun e he=>absurd he (by simp)),fun _=>rfl⟩
  have I1:=I.laid (a:=s.heap.objs.size) (o:=.own (s.heap.objs.size+1)) (h':=s.heap.push PySem.W.emptyDict) (t':=s.toks) (fun b u q=>Heap.get?_push_of_some _ q) (Nat.le_refl _) ⟨_,e1⟩
  refine I1.laid (a:=s.heap.objs.size+1) (o:=.ins C s.heap.objs.size []) (t':=s.toks) (fun b u q=>Heap.get?_push_of_some _ q) (Nat.le_of_eq (Heap.size_push _ _)) ?_
  have ne:s.heap.objs.size≠s.heap.objs.size+1:=Nat.ne_of_lt (Nat.lt_succ_self _)
  refine ⟨by rw [aI ne,aA],Nat.zero_le _,ne,e2,fun _=>none,(Heap.Ns1.of_empty e3).at fun o q=>Heap.get?_push_of_some _ q,fun _=>True.intro,fun y hy=>absurd rfl hy⟩
theorem attr_of {prog:Program} {w:World} {env:Env} {e:Expr} {f:Str} {pos:Pos} {s:Shared} {Q:Value→Shared→Prop} (hb:attributeBase e f env (eval e env)=eval e env)
    (h:wpAny (model prog w) A (eval e env) (fun o s₁=>wpAny (model prog w) A (getAttr o f true) Q E s₁) E s):wpAny (model prog w) A (eval (.Attribute e f pos) env) Q E s :=
  Attribute_any_ h (by rw [arm_eval_Attribute,hb])
end
noncomputable def InOp (X:Cx) (op:Operator) (rd:V→V→Hp→VK→Prop):Prop :=
 ∀(pins:List (Addr×Obj)) (s:Shared) (σ:St) (H:Hp) (x y:V) (u v:Value) (Q:VK),Inv X pins σ H s→bI x u→bI y v→rd x y H Q→wpAny (model X.prog X.w) X.A (inplaceOp op u v) (EP X pins σ Q) X.xe s
section
variable {X:Cx} {o e value:Expr} {f:Str} {pos pos' tpos:Pos} {ta tv:TE}
noncomputable def rAdd:V→V→Hp→VK→Prop:=fun x y H Q=>∃ i j,x=.int i∧y=.int j∧Q (.int (i+j)) H
theorem in_add:InOp X .Add rAdd:=by
 rintro pins s σ H x y u v Q I rx ry ⟨i,j,rfl,rfl,q⟩
 obtain ⟨t,rfl⟩:=(show ∃ t,u=Value.int i t from rx)
 obtain ⟨t',rfl⟩:=(show ∃ t',v=Value.int j t' from ry)
 exact PyProof.Rows.iadd_int ⟨.int (i+j),H,I.tok _,⟨_,rfl⟩,q⟩
end
section
variable {X:Cx} {pins:List (Addr×Obj)} {σ:St} {H:Hp} {s:Shared} {A:Around} {E:Value→Shared→Prop} {Q:Value→Shared→Prop} {c:Value} {b:Bool}
end
end L2
namespace L2
open PySem PySem.Spec PyProof.Rows
structure Room (k:Nat) (A:Around):Prop where
 hd:A.handled=none
 dp:A.depth+3 * k+5 < recursionLimit
 un:A.units+16 * k+200 < cLine
theorem Room.mono {j k:Nat} {A:Around} (r:Room k A) (h:j≤k):Room j A:=⟨r.hd,by have:=r.dp;omega,by have:=r.un;omega⟩
theorem Room.deeper {k:Nat} {A:Around} (r:Room (k+1) A) (env:Env):Room k (A.deeper env) :=
 ⟨r.hd,by have:=r.dp;show A.depth+1+3 * k+5 < _;omega,by have:=r.un;show A.units+3+16 * k+200 < _;omega⟩
theorem yY {A:Around} {C:Addr} {us:List Value} {kw:List (Str×Value)}:(A.under (.builtin "type.__call__" ⟨.ref C::us,kw⟩)).depth=A.depth+1:=by
 first | rfl | simp [Around.under,Code.weight,Code.isCreation,Code.isGuard,Code.isCaller,Code.frames,Code.isFrame,guardIds]
theorem yP {A:Around} {C:Addr} {us:List Value} {kw:List (Str×Value)}:(A.under (.builtin "type.__call__" ⟨.ref C::us,kw⟩)).units=A.units+1:=by
 first | rfl | simp [Around.under,Code.cUnits,Code.frames,Code.isFrame]
theorem Room.make {k:Nat} {A:Around} (r:Room (k+1) A) (C:Addr) (us:List Value) (kw:List (Str×Value)):Room k (A.under (.builtin "type.__call__" ⟨.ref C::us,kw⟩)) :=
 ⟨r.hd,by have:=r.dp;rw [yY];omega,by have:=r.un;rw [yP];omega⟩
theorem Room.depth {k:Nat} {A:Around} (r:Room k A):A.depth < recursionLimit:=by have:=r.dp;omega
theorem Room.units {k:Nat} {A:Around} (r:Room k A):A.units+64 < cLine:=by have:=r.un;omega
noncomputable def yO:TA:=fun _ H Q=>Q [] H
noncomputable def xZ (ta:TE) (tr:TA):TA:=fun σ H Q=>ta σ H fun x H1=>tr σ H1 fun xs H2=>Q (x::xs) H2
section
variable {X:Cx} {e:Expr} {es:List Expr} {te:TE} {t:TA} {pos:Pos}
theorem aB:PA X [] yO:=fun _ _ _ _ H Q I h=>Calls.spliced_nil ⟨[],H,I,.nil,h⟩
theorem aa8 (ha:PE X e te) (hr:PA X es t) (hs:starEach (e::es) X.env=(false,eval e X.env)::starEach es X.env:=by rfl):PA X (e::es) (xZ te t):=by
 intro pos pins s σ H Q I h
 rw [hs]
 show wpAny _ _ (spliced ((false,eval e X.env)::backTo pos (starEach es X.env))) _ _ s
 refine Calls.spliced_cons (thn (ha pins s σ H _ I h) fun u s1 ⟨x,H1,I1,r1,q1⟩=>?_)
 exact thn (hr pos pins s1 σ H1 _ I1 q1) fun us s2 ⟨xs,H2,I2,r2,q2⟩=>⟨x::xs,H2,I2,.cons r1 r2,q2⟩
noncomputable def tTup (t:TA):TE:=fun σ H Q=>t σ H fun xs H1=>xs.length≤sizeLine∧∀ p,H1 p=none→Q (.ref p) (upd H1 p (.tup xs))
noncomputable def tLst (t:TA):TE:=fun σ H Q=>t σ H fun xs H1=>xs.length≤sizeLine∧∀ p,H1 p=none→Q (.ref p) (upd H1 p (.lst xs))
theorem bB {x1} (h:PA X es t):PE X (.Tuple es x1 pos) (tTup t):=by
 intro pins s σ H Q I hq
 refine wpAny_Tuple_spliced (thn (h pos pins s σ H _ I hq) fun us s1 ⟨xs,H1,I1,r,z,q⟩=>⟨by rw [← r.length];exact z,?_⟩)
 have hf:H1 s1.heap.objs.size=none:=I1.hok.fresh (Nat.le_refl _)
 refine ⟨.ref s1.heap.objs.size,upd H1 s1.heap.objs.size (.tup xs),I1.laid (t':=s1.toks) (fun b u e=>Heap.get?_push_of_some _ e) (Nat.le_refl _) ?_,rfl,q _ hf⟩
 exact ⟨z,us,r,⟨_,Heap.get?_push_size _ rfl,rfl,_,rfl⟩⟩
theorem bN (h:PA X es t):PE X (.List es pos) (tLst t):=by
 intro pins s σ H Q I hq
 refine wpAny_List_spliced (thn (h pos pins s σ H _ I hq) fun us s1 ⟨xs,H1,I1,r,z,q⟩=>⟨by rw [← r.length];exact z,?_⟩)
 have hf:H1 s1.heap.objs.size=none:=I1.hok.fresh (Nat.le_refl _)
 refine ⟨.ref s1.heap.objs.size,upd H1 s1.heap.objs.size (.lst xs),I1.laid (t':=s1.toks) (fun b u e=>Heap.get?_push_of_some _ e) (Nat.le_refl _) ?_,rfl,q _ hf⟩
 exact ⟨z,us,0,r,Heap.get?_push_size _ rfl⟩
end
noncomputable abbrev Sp:=List V→Hp→VK→XK→Prop
noncomputable abbrev CXT:=List Env→Hp→Shared→XK→Value→Shared→Prop
structure Env0 (P:Program) (w:World) (K:PySem.W.Frag) (mg:Str→Option Value) (base:Heap) (A:Around) (outer:List Env) (s:Shared) (H:Hp):Prop where
 frames:A.frames=some outer
 mod:Mod K mg base
 bs:∀ b o,base.get? b=some o→s.heap.get? b=some o∧H b=none
 bsz:base.objs.size≤s.heap.objs.size
 funs:s.heap.FunFrames base outer
 frf:∀ b∈frs outer,H b=none
 hok:HOk P w H s.heap
 bare:AllBare s.gens
noncomputable def CE (outer:List Env) (P:Program) (w:World) (H:Hp) (s:Shared) (Q:VK) (u:Value) (s':Shared):Prop :=
 ∃ v H',s'.os=s.os∧AllBare s'.gens∧Un (frs outer) [] H H' s.heap s'.heap∧HOk P w H' s'.heap∧bI v u∧Q v H'
noncomputable def CR (CX:CXT) (outer:List Env) (P:Program) (w:World) (H:Hp) (s:Shared) (Q:VK) (E:XK) (r:Result) (s':Shared):Prop :=
 match r with
 | .ok (.ret u)=>CE outer P w H s Q u s'
 | .ok _=>False
 | .error e=>CX outer H s E e s'
structure bG (P:Program) (w:World) (K:PySem.W.Frag) (mg:Str→Option Value) (base:Heap) (CX:CXT) (k:Nat) (f:Addr) (fd:FuncData) (ps:List Str) (sp:Sp):Prop where
 len:∀ vs H Q E,sp vs H Q E→vs.length=ps.length
 run:∀(A:Around) (outer:List Env) (s:Shared) (H:Hp) (args:Args) (us:List Value) (vs:List V) (Q:VK) (E:XK),Room k A→Env0 P w K mg base A outer s H→BindsTo s fd args (ps.zip us)→Vals vs us→sp vs H Q E →
  codeAny (model P w) A (.call (.ref f) args) (CR CX outer P w H s Q E) s
theorem bG.mono {P:Program} {w:World} {K:PySem.W.Frag} {mg:Str→Option Value} {base:Heap} {CX:CXT} {j k:Nat} {f:Addr} {fd:FuncData} {ps:List Str} {sp:Sp} (F:bG P w K mg base CX j f fd ps sp) (h:j≤k) :
    bG P w K mg base CX k f fd ps sp:=⟨F.len,fun A outer s H args us vs Q E hr=>F.run A outer s H args us vs Q E (hr.mono h)⟩
theorem Env0.make {P:Program} {w:World} {K:PySem.W.Frag} {mg:Str→Option Value} {base:Heap} {A:Around} {outer:List Env} {s:Shared} {H:Hp} (e:Env0 P w K mg base A outer s H) (C:Addr) (us:List Value) (kw:List (Str×Value)) :
    Env0 P w K mg base (A.under (.builtin "type.__call__" ⟨.ref C::us,kw⟩)) outer s H:=⟨by first | exact e.frames | (simpa [Around.under,Code.envs,Code.isFrame,pushEnvs] using e.frames),e.mod,e.bs,e.bsz,e.funs,e.frf,e.hok,e.bare⟩
section
variable {X:Cx} {pins:List (Addr×Obj)} {σ:St} {H:Hp} {s s':Shared}
theorem Inv.env0 (I:Inv X pins σ H s):Env0 X.prog X.w X.K X.mg X.base X.A X.stack s H :=
 ⟨I.ok.frames,I.ok.mod,I.bs,Nat.le_trans I.ok.bsz I.sz,I.stack,I.stkFree,I.hok,I.bare⟩
theorem Inv.after {Q:VK} {u:Value} (I:Inv X pins σ H s) (h:CE X.stack X.prog X.w H s Q u s'):EP X pins σ Q u s':=by
 obtain ⟨v,H',os,bare,un,hok,r,q⟩:=h
 obtain ⟨hh,g,d,t,os'⟩:=s'
 obtain rfl:os'=s.os:=os
 exact ⟨v,H',I.call (h':=hh) (g':=g) (d':=d) (t':=t) (ch:=[]) un hok bare (fun b z=>absurd z (by simp)),r,q⟩
end
noncomputable def tCall (sp:Sp) (dvs:List V) (E:XK) (t:TA):TE:=fun σ H Q=>t σ H fun vs H1=>sp (vs++dvs) H1 Q E
noncomputable def xB (C:Addr) (m:Str) (sp:Sp) (dvs:List V) (E:XK) (ta:TE) (t:TA):TE:=fun σ H Q=>ta σ H fun x H1=>∃ a dx fs,x=.ref a∧H1 a=some (.ins C dx fs)∧fs.lookup m=none ∧
 t σ H1 fun vs H2=>sp (x::(vs++dvs)) H2 Q E
noncomputable def aa7 (C:Addr) (sp:Sp) (dvs:List V) (E:XK) (t:TA):TE:=fun σ H Q=>t σ H fun vs H1=>∀ x dx,H1 x=none→H1 dx=none→dx≠x →
 sp (.ref x::(vs++dvs)) (upd (upd H1 dx (.own x)) x (.ins C dx [])) (fun v H2=>v=.non∧Q (.ref x) H2) E
noncomputable def Binds (K:PySem.W.Frag) (fd:FuncData) (ps:List Str) (ds:List Value):Prop :=
 ∀(s:Shared) (us:List Value),K.In s.heap→(us++ds).length=ps.length→BindsTo s fd ⟨us,[]⟩ (ps.zip (us++ds))
theorem Binds.all {K:PySem.W.Frag} {fd:FuncData} {ps:List Str} (h:∀ us:List Value,us.length=ps.length→bindArgs fd ⟨us,[]⟩=pure (ps.zip us)):Binds K fd ps []:=fun s us _ hl=>by
 rw [List.append_nil] at hl ⊢
 exact .of_eq (h us hl)
noncomputable def Passes (CX:CXT) (X:Cx) (E:XK):Prop:=∀(pins:List (Addr×Obj)) (σ:St) (H:Hp) (s:Shared) (e:Value) (s':Shared),Inv X pins σ H s→CX X.stack H s E e s'→X.xe e s'
section
variable {X:Cx} {CX:CXT} {k:Nat} {f C:Addr} {fd:FuncData} {ps:List Str} {sp:Sp} {dvs:List V} {ds:List Value} {E:XK} {x m:Str} {p pos apos:Pos} {e o:Expr} {es:List Expr} {ta:TE} {t:TA}
theorem vO {pins:List (Addr×Obj)} {σ:St} {H:Hp} {s:Shared} {Q:VK} {us:List Value} {vs:List V} (F:bG X.prog X.w X.K X.mg X.base CX k f fd ps sp) (hr:Room k X.A) (hb:Binds X.K fd ps ds) (hd:Vals dvs ds) (hx:Passes CX X E)
    (I:Inv X pins σ H s) (r:Vals vs us) (h:sp (vs++dvs) H Q E):wpAny (model X.prog X.w) X.A (call (.ref f) us) (EP X pins σ Q) X.xe s:=by
  have r2:Vals (vs++dvs) (us++ds):=r.append hd
  have hl:(us++ds).length=ps.length:=by rw [← r2.length];exact F.len _ _ _ _ h
  refine wpAny_call (codeAny_mono (F.run X.A X.stack s H ⟨us,[]⟩ (us++ds) (vs++dvs) Q E hr I.env0 (hb s us I.kIn hl) r2 h) fun r s' hq=>?_)
  cases r with
  | error e=>exact hx pins σ H s e s' I hq
  | ok fl =>
    cases fl with
    | ret u=>exact I.after hq
    | next=>exact False.elim hq
    | brk=>exact False.elim hq
    | cont=>exact False.elim hq
theorem aO (F:bG X.prog X.w X.K X.mg X.base CX k f fd ps sp) (hr:Room k X.A) (hg:Gl X x) (hm:X.mg x=some (.ref f)) (hk:PySem.W.keepIn X.K (.ref f)=true) (hb:Binds X.K fd ps ds) (hd:Vals dvs ds) (hx:Passes CX X E)
    (ha:PA X (e::es) t) (hdb:(x == ("__debug__":Str))=false:=by decide) (he:starEach (e::es) X.env=(false,eval e X.env)::starEach es X.env:=by rfl) (hpl:(backTo pos (starEach es X.env)).any (·.1)=false:=by rfl) :
    PE X (.Call (.Name x p) (e::es) [] pos) (tCall sp dvs E t):=by
  intro pins s σ H Q I h
  refine wpAny_Call_Name_kw (qF I hg hm ?_ hdb)
  refine PySem.W.callWith_K (h₀:=X.base) I.ok.mod.kin hk (thn (ha pos pins s σ H _ I h) fun us s1 ⟨vs,H1,I1,r,q⟩=>⟨I1.kIn,?_⟩) he hpl
  exact vO F hr hb hd hx I1 r q
theorem bK {pl:Sem Bool} (he:PE X o ta) (c:Cls X.K C) (hm:Meth X.K C m f) (F:bG X.prog X.w X.K X.mg X.base CX k f fd ps sp) (hr:Room k X.A) (hb:Binds X.K fd ps ds) (hd:Vals dvs ds) (hx:Passes CX X E) (ha:PA X (e::es) t)
    (hst:starEach (e::es) X.env=(false,eval e X.env)::starEach es X.env:=by rfl) (hpl:(backTo pos (starEach es X.env)).any (·.1)=false:=by rfl)
    (ht:eval (.Call (.Attribute o m apos) (e::es) [] pos) X.env=(do
      let ov ← eval o X.env
      standAt apos.atName
      let (f,first) ← holding [ov] (getMethod ov m pl)
      callWith pos f first (backTo pos (starEach (e::es) X.env)) (backToKw pos (keywordEach [] X.env))):=by rfl) :
    PE X (.Call (.Attribute o m apos) (e::es) [] pos) (xB C m sp dvs E ta t):=by
  intro pins s σ H Q I h
  refine PySem.W.methodCall_KW (pl:=pl) (thn (he pins s σ H _ I h) fun u s1 ⟨x,H1,I1,rx,a,dx,fs,ex,ea,l,q⟩=>?_) ht
  subst ex
  obtain rfl:u=Value.ref a:=rx
  refine qZ I1 ea c hm l ?_
  refine PySem.W.callWith_K (first:=[.ref a]) (h₀:=X.base) I.ok.mod.kin hm.kp (thn (ha pos pins s1 σ H1 _ I1 q) fun us s2 ⟨vs,H2,I2,r,q2⟩=>⟨I2.kIn,?_⟩) hst hpl
  exact vO (us:=.ref a::us) (vs:=.ref a::vs) F hr hb hd hx I2 (.cons rfl r) q2
theorem bT {pl:Sem Bool} (he:PE X o ta) (c:Cls X.K C) (hm:Meth X.K C m f) (F:bG X.prog X.w X.K X.mg X.base CX k f fd ps sp) (hr:Room k X.A) (hb:Binds X.K fd ps ds) (hd:Vals dvs ds) (hx:Passes CX X E)
    (ht:eval (.Call (.Attribute o m apos) [] [] pos) X.env=(do
      let ov ← eval o X.env
      standAt apos.atName
      let (f,first) ← holding [ov] (getMethod ov m pl)
      callWith pos f first (backTo pos (starEach [] X.env)) (backToKw pos (keywordEach [] X.env))):=by rfl) :
    PE X (.Call (.Attribute o m apos) [] [] pos) (xB C m sp dvs E ta yO):=by
  intro pins s σ H Q I h
  refine PySem.W.methodCall_KW (pl:=pl) (thn (he pins s σ H _ I h) fun u s1 ⟨x,H1,I1,rx,a,dx,fs,ex,ea,l,q⟩=>?_) ht
  subst ex
  obtain rfl:u=Value.ref a:=rx
  refine qZ I1 ea c hm l ?_
  exact PySem.W.callWith_K0 (first:=[.ref a]) I1.kIn hm.kp (vO (us:=[.ref a]) (vs:=[.ref a]) F hr hb hd hx I1 (.cons rfl .nil) q)
structure Mk (K:PySem.W.Frag) (C f:Addr):Prop where
 makes:PySem.W.makesIn K C=true
 init:PySem.W.findIn K (.ref C) "__init__"=some (some (.ref f))
 fn:PySem.W.isFn K (.ref f)=true
 kp:PySem.W.keepIn K (.ref C)=true
theorem xJ {pins:List (Addr×Obj)} {σ:St} {H:Hp} {s:Shared} {Q:VK} {us:List Value} {vs:List V} (M:Mk X.K C f) (F:bG X.prog X.w X.K X.mg X.base CX k f fd ps sp) (hr:Room (k+1) X.A) (hb:Binds X.K fd ps ds) (hd:Vals dvs ds)
    (hx:Passes CX X E) (I:Inv X pins σ H s) (r:Vals vs us)
    (h:∀ x dx,H x=none→H dx=none→dx≠x→sp (.ref x::(vs++dvs)) (upd (upd H dx (.own x)) x (.ins C dx [])) (fun v H2=>v=.non∧Q (.ref x) H2) E) :
    wpAny (model X.prog X.w) X.A (call (.ref C) us) (EP X pins σ Q) X.xe s:=by
  have hq:=h (s.heap.objs.size+1) s.heap.objs.size (I.hok.fresh (Nat.le_succ _)) (I.hok.fresh (Nat.le_refl _)) (Nat.ne_of_lt (Nat.lt_succ_self _))
  have I2:=Inv.made (C:=C) I
  have r2:Vals (V.ref (s.heap.objs.size+1)::(vs++dvs)) (Value.ref (s.heap.objs.size+1)::(us++ds)):=.cons rfl (r.append hd)
  have hl:(Value.ref (s.heap.objs.size+1)::us++ds).length=ps.length:=by
    have e:=r2.length
    rw [F.len _ _ _ _ hq] at e
    exact e.symm
  refine wpAny_call (make_map (f:=f) I.kIn M.makes M.init (beq_iff_eq.mp M.fn) (codeAny_mono (F.run _ X.stack _ _ ⟨Value.ref (s.heap.objs.size+1)::us,[]⟩ (Value.ref (s.heap.objs.size+1)::(us++ds)) _ _ E (hr.make C us [])
    (I2.env0.make C us []) (hb _ (Value.ref (s.heap.objs.size+1)::us) I2.kIn hl) r2 hq) fun r s' hq'=>?_))
  cases r with
  | error e=>exact hx pins σ _ _ e s' I2 hq'
  | ok fl =>
    cases fl with
    | ret u =>
      obtain ⟨v,H',I3,rv,ev,q3⟩:=I2.after hq'
      subst ev
      exact ⟨rv,⟨V.ref (s.heap.objs.size+1),H',I3,rfl,q3⟩⟩
    | next=>exact False.elim hq'
    | brk=>exact False.elim hq'
    | cont=>exact False.elim hq'
theorem vN (M:Mk X.K C f) (F:bG X.prog X.w X.K X.mg X.base CX k f fd ps sp) (hr:Room (k+1) X.A) (hg:Gl X x) (hm:X.mg x=some (.ref C)) (hb:Binds X.K fd ps ds) (hd:Vals dvs ds) (hx:Passes CX X E)
    (ha:PA X (e::es) t) (hdb:(x == ("__debug__":Str))=false:=by decide) (he:starEach (e::es) X.env=(false,eval e X.env)::starEach es X.env:=by rfl) (hpl:(backTo pos (starEach es X.env)).any (·.1)=false:=by rfl) :
    PE X (.Call (.Name x p) (e::es) [] pos) (aa7 C sp dvs E t):=by
  intro pins s σ H Q I h
  refine wpAny_Call_Name_kw (qF I hg hm ?_ hdb)
  refine PySem.W.callWith_K (h₀:=X.base) I.ok.mod.kin M.kp (thn (ha pos pins s σ H _ I h) fun us s1 ⟨vs,H1,I1,r,q⟩=>⟨I1.kIn,?_⟩) he hpl
  exact xJ M F hr hb hd hx I1 r q
theorem pe_make0 (M:Mk X.K C f) (F:bG X.prog X.w X.K X.mg X.base CX k f fd ps sp) (hr:Room (k+1) X.A) (hg:Gl X x) (hm:X.mg x=some (.ref C)) (hb:Binds X.K fd ps ds) (hd:Vals dvs ds) (hx:Passes CX X E)
    (hdb:(x == ("__debug__":Str))=false:=by decide):PE X (.Call (.Name x p) [] [] pos) (aa7 C sp dvs E yO):=by
  intro pins s σ H Q I h
  refine wpAny_Call_Name_kw (qF I hg hm ?_ hdb)
  exact PySem.W.callWith_K0 I.kIn M.kp (xJ (us:=[]) M F hr hb hd hx I .nil h)
end
section
variable {X:Cx} {CX:CXT} {k:Nat} {f C:Addr} {fd:FuncData} {ps ks:List Str} {sp:Sp} {E:XK} {x m:Str} {p pos apos kpos:Pos} {e o:Expr} {es:List Expr} {kws:List Keyword} {te ta:TE} {t tk:TA} {nm:Option Str}
variable {g:List Value→List Value→List Value} {gV:List V→List V→List V}
end
structure aT (N P:List Str) (sc:Scope):Prop where
 kind:sc.kind=.function
 co:sc.isCoroutine=false
 gen:sc.isGenerator=false
 nd:N.Nodup
 pre:N.take P.length=P
 par:∀ x∈P,sc.names.lookup x=some .local∨sc.names.lookup x=some .cell
 nofree:∀ y∈sc.names,y.2≠.free
theorem uS {kindOf:Str→Option NameKind} {x:Str}:∀ {binds:List (Str×Value)} {m:Str→Option Value},(∀ v,(x,v)∉binds)→bindL kindOf binds m x=m x
 | [],_,_=>rfl
 | (n,v)::r,m,h=>by
  unfold bindL
  rw [uS fun w hw=>h w (List.mem_cons_of_mem _ hw)]
  split
  ·have:x≠n:=by rintro rfl;exact h v List.mem_cons_self
   simp [this]
  ·rfl
theorem t9 {kindOf:Str→Option NameKind} {x:Str}:∀ {binds:List (Str×Value)} {m:Str→Option Value},(∀ v,(x,v)∉binds)→bindC kindOf binds m x=m x
 | [],_,_=>rfl
 | (n,v)::r,m,h=>by
  unfold bindC
  rw [t9 fun w hw=>h w (List.mem_cons_of_mem _ hw)]
  split
  ·rfl
  ·have:x≠n:=by rintro rfl;exact h v List.mem_cons_self
   simp [this]
theorem uU {kindOf:Str→Option NameKind} {x:Str} {v:Value}:∀ {P:List Str} {vs:List Value} {i:Nat} {m:Str→Option Value},P.Nodup→P[i]?=some x→vs[i]?=some v→kindOf x=some .local →
    bindL kindOf (P.zip vs) m x=some v
  | [],_,_,_,_,h,_,_=>by simp at h
  | _::_,[],_,_,_,_,h,_=>by simp at h
  | p::P,w::vs,0,m,nd,h1,h2,hk=>by
    simp at h1 h2;subst h1;subst h2
    show bindL kindOf ((p,w)::P.zip vs) m p=_
    unfold bindL
    rw [uS fun v hv=>(List.nodup_cons.mp nd).1 (List.of_mem_zip hv).1,if_pos hk]
    simp
  | p::P,w::vs,i+1,m,nd,h1,h2,hk=>by
    show bindL kindOf ((p,w)::P.zip vs) m x=_
    unfold bindL
    exact uU (i:=i) (List.nodup_cons.mp nd).2 (by simpa using h1) (by simpa using h2) hk
theorem t6 {kindOf:Str→Option NameKind} {x:Str} {v:Value}:∀ {P:List Str} {vs:List Value} {i:Nat} {m:Str→Option Value},P.Nodup→P[i]?=some x→vs[i]?=some v→kindOf x≠some .local →
    bindC kindOf (P.zip vs) m x=some v
  | [],_,_,_,_,h,_,_=>by simp at h
  | _::_,[],_,_,_,_,h,_=>by simp at h
  | p::P,w::vs,0,m,nd,h1,h2,hk=>by
    simp at h1 h2;subst h1;subst h2
    show bindC kindOf ((p,w)::P.zip vs) m p=_
    unfold bindC
    rw [t9 fun v hv=>(List.nodup_cons.mp nd).1 (List.of_mem_zip hv).1,if_neg hk]
    simp
  | p::P,w::vs,i+1,m,nd,h1,h2,hk=>by
    show bindC kindOf ((p,w)::P.zip vs) m x=_
    unfold bindC
    exact t6 (i:=i) (List.nodup_cons.mp nd).2 (by simpa using h1) (by simpa using h2) hk
noncomputable def start (N:List Str) (vs:List V):St:=vs.map some++List.replicate (N.length - vs.length) none
noncomputable def xG (CX:CXT) (P:Program) (w:World) (K:PySem.W.Frag) (mg:Str→Option Value) (base:Heap) (N:List Str) (qual:Str) (scope:Scope) (f:Addr) (cd:Value) (A:Around) (outer:List Env) (s:Shared) (H:Hp) (E:XK):Cx where
 prog:=P
 w:=w
 K:=K
 mg:=mg
 base:=base
 A:=A.deeper (envOfC qual scope s.heap.objs.size f cd)
 N:=N
 s₀:=s
 H₀:=H
 env:=envOfC qual scope s.heap.objs.size f cd
 outer:=outer
 stack:=envOfC qual scope s.heap.objs.size f cd::outer
 ex:=[]
 calm:=true
 fn:=fun _=>true
 pn:=[]
 xe:=fun e s'=>wpAny (model P w) (A.deeper (envOfC qual scope s.heap.objs.size f cd)) (leaving (envOfC qual scope s.heap.objs.size f cd) e) (fun _ s''=>CX outer H s E e s'') (fun e' s''=>CX outer H s E e' s'') s'
theorem xF {sc:Scope} {n:Nat} {x:Str} (h:sc.names.lookup x=some .cell):∃ c,(cellsFrom n sc.names []).lookup x=some c:=by
 have q:=PySem.W.cellsFrom_some sc.names n [] (.inl h)
 exact Option.isSome_iff_exists.mp q
theorem inv_start {CX:CXT} {P:Program} {w:World} {K:PySem.W.Frag} {mg:Str→Option Value} {base:Heap} {N ps:List Str} {qual:Str} {scope:Scope} {f:Addr} {cd:Value} {A:Around} {outer:List Env} {s s1:Shared} {H:Hp} {E:XK} {us:List Value} {vs:List V}
    (S:aT N ps scope) (hd:A.handled=none) (e0:Env0 P w K mg base A outer s H) (hl:vs.length=ps.length) (r:Vals vs us)
    (x:InCallC s s.heap.objs.size (bindL (envOfC qual scope s.heap.objs.size f cd).kindOf (ps.zip us) fun _=>none) (cellsFrom (s.heap.objs.size+1) scope.names []) (bindC (envOfC qual scope s.heap.objs.size f cd).kindOf (ps.zip us) fun _=>none) s1) :
    Inv (xG CX P w K mg base N qual scope f cd A outer s H E) [] (start N vs) H s1:=by
  have hpl:ps.length≤N.length:=by have:=congrArg List.length S.pre;rw [List.length_take] at this;omega
  obtain ⟨h1,tk,rfl,hk⟩:=x.done
  have noA:∀ b:Addr,b∉(xG CX P w K mg base N qual scope f cd A outer s H E).ex:=fun b z=>absurd (show b∈([]:List Addr) from z) (by simp)
  refine ⟨⟨e0.mod,S.kind,rfl,rfl,Nat.le_refl _,fun y z c h1 h2=>?_,fun y hy=>?_,fun y c _ h=>?_,fun _=>hd,Around.frames_deeper e0.frames,.inr ⟨rfl,rfl⟩,fun b z=>absurd z (noA b),e0.bs,e0.bsz,fun b _ _=>noA b,fun b z=>absurd z (noA b),e0.funs,e0.frf⟩,
    rfl,e0.bare,Un.kept hk,⟨_,x.toInCall.ns,fun i y v h1 h2 h3=>?_⟩,fun y c h=>⟨_,x.cell y c h⟩,e0.hok.fresh (Nat.le_refl _),fun y c h=>?_,fun p hp=>absurd (show p∈([]:List (Addr×Obj)) from hp) (by simp),e0.hok.kept hk,?_⟩
  · exact name_of_addr x.apart (PySem.mem_of_lookup h1) (PySem.mem_of_lookup h2)
  · have hy:scope.names.lookup y=some .cell∨scope.names.lookup y=some .free:=hy
    rcases hy with hy | hy
    · exact xF hy
    · exact absurd rfl (S.nofree _ (PySem.mem_of_lookup hy))
  · exact Nat.le_of_lt (x.above y c (PySem.mem_of_lookup h))
  · have hi:i < vs.length:=by
      unfold start at h2
      by_cases hi:i < vs.length
      · exact hi
      · rw [List.getElem?_append_right (by simpa using hi)] at h2
        rw [List.getElem?_replicate] at h2
        split at h2<;>cases h2
    have ha:vs[i]?=some v:=by
      unfold start at h2
      rw [List.getElem?_append_left (by simpa using hi),List.getElem?_map] at h2
      cases e:vs[i]? with
      | none=>rw [e] at h2;cases h2
      | some a=>rw [e] at h2;cases h2;rfl
    obtain ⟨u,hu,rv⟩:=r.get ha
    have hp:ps[i]?=some y:=by
      rw [← S.pre,List.getElem?_take_of_lt (by omega)];exact h1
    have ndP:ps.Nodup:=by rw [← S.pre];exact S.nd.sublist (List.take_sublist _ _)
    refine ⟨u,rv,?_⟩
    rcases S.par y (List.mem_of_getElem? hp) with k | k
    · exact .inl ⟨k,uU ndP hp hu k⟩
    · obtain ⟨c,e⟩:=xF (n:=s.heap.objs.size+1) k
      refine .inr ⟨.inl k,c,e,?_⟩
      have q:=x.cell y c e
      rw [t6 ndP hp hu (by show scope.names.lookup y≠_;rw [k];decide)] at q
      exact q
  · exact e0.hok.fresh (Nat.le_of_lt (x.above y c (PySem.mem_of_lookup h)))
  · unfold start
    show _=N.length
    rw [List.length_append,List.length_map,List.length_replicate]
    omega
theorem fn_of {CX:CXT} {P:Program} {w:World} {K:PySem.W.Frag} {mg:Str→Option Value} {base:Heap} {k:Nat} {f:Addr} {name qual:Str} {params:Arguments} {body:List Stmt} {scope:Scope} {dV kV doc pm cdv ct oc:Value} {an od:Option Addr}
    {osl:Array (Option Value)} {N ps:List Str} {sp:Sp} (lk:K.lookup f=some ⟨oc,od,.func (PySem.W.fnOf name qual params body scope dV kV doc pm an cdv ct),osl⟩) (hcd:PySem.W.codeIn K cdv qual=true) (S:aT N ps scope)
    (len:∀ vs H Q E,sp vs H Q E→vs.length=ps.length)
    (hbody:∀(A:Around) (outer:List Env) (s:Shared) (H:Hp) (vs:List V) (Q:VK) (E:XK),Room k (A.deeper (envOfC qual scope s.heap.objs.size f cdv))→sp vs H Q E →
      ∃ t,PSs (xG CX P w K mg base N qual scope f cdv A outer s H E) body t∧t {nx:=fun _ H'=>Q .non H',rt:=Q} (start N vs) H) :
    bG P w K mg base CX (k+1) f (PySem.W.fnOf name qual params body scope dV kV doc pm an cdv ct) ps sp:=by
  refine ⟨len,fun A outer s H args us vs Q E hr e0 hb r hsp=>?_⟩
  have hl:=len _ _ _ _ hsp
  have KX:K.In s.heap:=e0.mod.kin.keeps fun b o e=>(e0.bs b o e).1
  have lim:s.heap.NoLimit:=e0.mod.nolimit.keeps fun b o e=>(e0.bs b o e).1
  have hkind:∀ y∈ps.zip us,scope.names.lookup y.1=some .local∨(scope.names.lookup y.1=some .cell∧((cellsFrom (s.heap.objs.size+1) scope.names []).lookup y.1).isSome=true):=fun ⟨n,v⟩ hy=>by
    rcases S.par n (List.of_mem_zip hy).1 with q | q
    · exact .inl q
    · exact .inr ⟨q,PySem.W.cellsFrom_some _ _ _ (.inl q)⟩
  refine codeAny_call_function hr.depth (KX _ _ lk) rfl S.co S.gen rfl (PySem.W.codeRec_of KX hcd) (hb _ _ _ _ ?_)
  refine wpAny_newFunctionEnv_cells S.kind hkind fun env he s1 x=>?_
  subst he
  refine ⟨lim.keeps x.toInCall.keep,codeAny_func ?_⟩
  obtain ⟨t,ht,hq⟩:=hbody A outer s H vs Q E (hr.deeper _) hsp
  have I:Inv (xG CX P w K mg base N qual scope f cdv A outer s H E) [] (start N vs) H s1:=inv_start S hr.hd e0 hl r x
  refine wpAny_mono (ht [] s1 (start N vs) H _ I hq) (fun fl s' hs=>?_) fun e s' hs=>hs
  have fin:∀ {σ':St} {H':Hp} {v:V} {u:Value},Inv (xG CX P w K mg base N qual scope f cdv A outer s H E) [] σ' H' s'→bI v u→Q v H'→CE outer P w H s Q u s' :=
    fun {σ' H' v u} J rv q=>⟨v,H',J.os,J.bare,J.base,J.hok,rv,q⟩
  cases fl with
  | ret u =>
    obtain ⟨v,σ',H',J,rv,q⟩:=hs
    exact fin J rv q
  | next =>
    obtain ⟨σ',H',J,q⟩:=hs
    exact fin (v:=V.non) (u:=Value.none) J rfl q
  | brk =>
    obtain ⟨_,_,_,q⟩:=hs
    exact False.elim q
  | cont =>
    obtain ⟨_,_,_,q⟩:=hs
    exact False.elim q
end L2
namespace L2
open PySem PySem.Spec PyProof.Rows
section
variable {X:Cx} {x:Str} {p pos:Pos} {e:Expr} {es:List Expr} {t:TA} {id T:String} {r:List V→Hp→VK→Prop}
noncomputable def tCB (r:List V→Hp→VK→Prop) (t:TA):TE:=fun σ H Q=>t σ H fun vs H1=>r vs H1 Q
theorem bU (hc:dX X (.builtin id) r) (hg:Gl X x) (hm:X.mg x=none) (hv:bootBuiltins x=some (.builtin id)) (ha:PA X (e::es) t) (hn:x≠"__name__":=by decide) (hdb:(x == ("__debug__":Str))=false:=by decide)
    (he:starEach (e::es) X.env=(false,eval e X.env)::starEach es X.env:=by rfl) (hpl:(backTo pos (starEach es X.env)).any (·.1)=false:=by rfl):PE X (.Call (.Name x p) (e::es) [] pos) (tCB r t):=by
  intro pins s σ H Q I h
  refine wpAny_Call_Name_kw (vR I hg hm hv ?_ hn hdb)
  exact PyProof.Rows.callWith_builtin1 (thn (ha pos pins s σ H _ I h) fun us s1 ⟨vs,H1,I1,r1,q1⟩=>hc pins s1 σ H1 vs us Q I1 r1 q1) he hpl
theorem cI (hc:dX X (.type T) r) (hg:Gl X x) (hm:X.mg x=none) (hv:bootBuiltins x=some (.type T)) (ha:PA X (e::es) t) (hn:x≠"__name__":=by decide) (hdb:(x == ("__debug__":Str))=false:=by decide)
    (he:starEach (e::es) X.env=(false,eval e X.env)::starEach es X.env:=by rfl) (hpl:(backTo pos (starEach es X.env)).any (·.1)=false:=by rfl):PE X (.Call (.Name x p) (e::es) [] pos) (tCB r t):=by
  intro pins s σ H Q I h
  refine wpAny_Call_Name_kw (vR I hg hm hv ?_ hn hdb)
  exact PyProof.Rows.callWith_type1 (thn (ha pos pins s σ H _ I h) fun us s1 ⟨vs,H1,I1,r1,q1⟩=>hc pins s1 σ H1 vs us Q I1 r1 q1) he hpl
end
end L2
namespace HT
open PySem PyProof.Rows
section
open PySem.SeqAt
open PySem.AutoSeq1 (wpAny_loadPart')
open PySem.MeetsSeq PySem.MeetsSeq2 PySem.MeetsSeq3
end
section
variable {prog:Program} {w:World} {A:Around} {E:Value→Shared→Prop} {s:Shared}
theorem cat_tup {t b:Addr} {vs ws:List Value} {Q:Value→Shared→Prop} (ht:IsTup s.heap t vs.toArray) (hb:IsTup s.heap b ws.toArray) (hv:vs≠[])
    (h1:ws=[]→Q (.ref t) s) (h2:ws≠[]→Q (.ref s.heap.objs.size) {s with heap:=s.heap.push {cls:=.type "tuple",data:=.seq (vs++ws).toArray}})
    (hsz:vs.length+ws.length≤sizeLine):wpAny (model prog w) A (binaryOp .Add (.ref t) (.ref b)) Q E s:=by
  obtain ⟨⟨cls,dd,data,sl⟩,ho,hc,n,hd⟩:=id ht
  obtain ⟨⟨cls2,dd2,data2,sl2⟩,ho2,hc2,n2,hd2⟩:=id hb
  simp only at hc hd hc2 hd2
  subst hc hd hc2 hd2
  have e:vs.toArray++ws.toArray=(vs++ws).toArray:=by simp
  by_cases hw:ws=[]
  · exact concat_meets ⟨_,ho,rfl⟩ ⟨_,ho2,rfl⟩ noFill_tuple_add seq_tuple_add PySem.F.slot_tuple_add PySem.F.entry_tuple_add (PySem.F.args_tuple_add_2 _ _)
      (tuple_addW1 t b vs.toArray ws.toArray n n2 dd dd2 sl sl2 (by simpa using hv) (by simp [hw])) ⟨ho,ho2,h1 hw⟩
  · refine concat_meets ⟨_,ho,rfl⟩ ⟨_,ho2,rfl⟩ noFill_tuple_add seq_tuple_add PySem.F.slot_tuple_add PySem.F.entry_tuple_add (PySem.F.args_tuple_add_2 _ _)
      (tuple_addW2 t b vs.toArray ws.toArray n n2 dd dd2 sl sl2 (by simpa using hv) (by simpa using hw) (by rw [List.size_toArray,List.size_toArray];exact hsz)) ⟨ho,ho2,?_⟩
    rw [e]
    exact h2 hw
noncomputable def fT (n d:Nat):Option Int→Nat
 | none=>d
 | some v=>if v < 0 then (v+(n:Int)).toNat else min v.toNat n
theorem sIx_none (n d:Nat):fT n d none=d:=rfl
theorem sIx_nat (n d k:Nat):fT n d (some (k:Int))=min k n:=by
 show (if (k:Int) < 0 then ((k:Int)+(n:Int)).toNat else min (k:Int).toNat n)=min k n
 rw [if_neg (by omega),Int.toNat_natCast]
theorem sIx_le (n d:Nat) (hd:d≤n) (o:Option Int):fT n d o≤n:=by
 cases o with
 | none=>exact hd
 | some v =>
  show (if v < 0 then (v+(n:Int)).toNat else min v.toNat n)≤n
  by_cases hv:v < 0
  ·rw [if_pos hv];omega
  ·rw [if_neg hv];exact Nat.min_le_right _ _
theorem aaU (v:Int) (n d:Nat):(if v < 0 then max (v+(n:Int)) 0 else min v (n:Int))=((fT n d (some v):Nat):Int):=by
 show (if v < 0 then max (v+(n:Int)) 0 else min v (n:Int))=(((if v < 0 then (v+(n:Int)).toNat else min v.toNat n):Nat):Int)
 by_cases hv:v < 0
 ·simp only [if_pos hv];omega
 ·simp only [if_neg hv];omega
theorem zO (lo hi:Option Int) (n:Nat):Builtin.Slice.sliceAdjust lo hi 1 (n:Int)=(((fT n 0 lo:Nat):Int),((fT n n hi:Nat):Int)):=by
 have h1:¬ ((1:Int) < 0):=by omega
 unfold Builtin.Slice.sliceAdjust
 simp only [h1,if_false]
 refine Prod.ext ?_ ?_
 ·cases lo with
  | none=>rfl
  | some v=>exact aaU v n 0
 ·cases hi with
  | none=>rfl
  | some v=>exact aaU v n n
theorem yR (i j:Nat):Builtin.Slice.slicePlaces (i:Int) (j:Int) 1=j - i:=by
 unfold Builtin.Slice.slicePlaces
 have h1:(1:Int) > 0:=by omega
 simp only [h1,if_true,Int.ediv_one]
 split<;>omega
theorem rM {v:Value} {o:Option Int} {Q:Option Int→Shared→Prop} (p:IsPart v o) (h:Q o s):wpAny (model prog w) A (Builtin.Slice.slicePartIndex v) Q E s:=by
 cases p with
 | none=>exact slicePart_none h
 | int i t=>exact slicePart_int h
theorem oU {sl:Addr} {vl vu:Value} {lo hi:Option Int} {n:Nat} {Q:Int×Int×Nat→Shared→Prop} (hs:s.heap.IsSliceOf sl vl vu .none) (pl:IsPart vl lo) (pu:IsPart vu hi)
    (h:Q (((fT n 0 lo:Nat):Int),1,fT n n hi - fT n 0 lo) s):wpAny (model prog w) A (Builtin.Slice.sliceApplied (.ref sl) (pure (n:Int))) Q E s:=by
  obtain ⟨os,hos,hcs,hds⟩:=id hs
  unfold Builtin.Slice.sliceApplied Builtin.Slice.sliceFields
  refine wpAny_bind (wpAny_bind (wpAny_field hos hds (x:=vl) rfl (wpAny_bind (wpAny_field hos hds (x:=vu) rfl (wpAny_bind (wpAny_field hos hds (x:=.none) rfl (wpAny_pure ?_)))))))
  refine wpAny_bind (slicePart_none ?_)
  show wpAny _ _ (if ((1:Int) == 0)=true then _ else _) _ _ s
  rw [if_neg (by decide)]
  refine wpAny_bind (rM pl (wpAny_bind (rM pu (wpAny_bind (wpAny_pure ?_)))))
  show wpAny _ _ (match Builtin.Slice.sliceAdjust lo hi 1 (n:Int) with | (lo,hi)=>pure (lo,(1:Int),Builtin.Slice.slicePlaces lo hi 1)) _ _ s
  rw [zO lo hi n]
  show wpAny _ _ (pure (((fT n 0 lo:Nat):Int),(1:Int),Builtin.Slice.slicePlaces ((fT n 0 lo:Nat):Int) ((fT n n hi:Nat):Int) 1)) _ _ s
  rw [yR]
  exact wpAny_pure h
theorem pick_gen (xs:Array Value) (i k:Nat):((List.range k).filterMap fun(m:Nat)=>xs[((i:Int)+(m:Int) * 1).toNat]?).toArray=((xs.toList.drop i).take k).toArray:=by
 have e:(fun(m:Nat)=>xs[((i:Int)+(m:Int) * 1).toNat]?)=fun m=>xs[i+m]?:=by
  funext m
  have:((i:Int)+(m:Int) * 1).toNat=i+m:=by omega
  rw [this]
 rw [e]
 have:=pick_run xs i k
 rw [List.filterMap_map] at this
 have e2:((fun x=>xs[x]?) ∘ fun x=>i+x)=fun m=>xs[i+m]?:=rfl
 rw [e2] at this
 rw [this]
theorem nX {t sl:Addr} {items:Array Value} {vl vu:Value} {lo hi:Option Int} {Q:Value→Shared→Prop} (ht:IsTup s.heap t items) (hs:s.heap.IsSliceOf sl vl vu .none) (pl:IsPart vl lo) (pu:IsPart vu hi)
    (hw:¬ (fT items.size 0 lo=0∧fT items.size items.size hi=items.size))
    (h:Q (.ref s.heap.objs.size) {s with heap:=s.heap.push {cls:=.type "tuple",data:=.seq ((items.toList.drop (fT items.size 0 lo)).take (fT items.size items.size hi - fT items.size 0 lo)).toArray}})
    (hsz:items.size≤sizeLine):wpAny (model prog w) A (getItem (.ref t) (.ref sl)) Q E s:=by
  have htake:sizeOk (.seq ((items.toList.drop (fT items.size 0 lo)).take (fT items.size items.size hi - fT items.size 0 lo)).toArray):=by
    show ((items.toList.drop (fT items.size 0 lo)).take (fT items.size items.size hi - fT items.size 0 lo)).toArray.size≤sizeLine
    rw [List.size_toArray,List.length_take,List.length_drop,Array.length_toList]
    omega
  have hj:fT items.size items.size hi≤items.size:=sIx_le _ _ (Nat.le_refl _) hi
  obtain ⟨os,hos,hcs,hds⟩:=id hs
  have hTs:s.TypeIs (.ref sl) "slice":=⟨os,hos,hcs⟩
  unfold getItem
  try with_reducible refine wpAny_holding ?_
  first | refine wpAny_bind (wpAny_pure ?_) | skip
  refine wpAny_bind (wpAny_sequenceKey ht.typeIs (by decide) ?_)
  refine wpAny_bind (wpAny_callSpecial?_slot (name:=Str.ofString "__getitem__") ht.typeIs PyProof.Rows.slot_tuple_getitem
    (wpAny_call_entry PyProof.Rows.slot_tuple_getitem ht.typeIs entry_tuple_getitem ?_ (args_tuple_getitem _ _)))
  show wpAny _ _ (Builtin.Tuple.tupleItemsOf (.ref t) >>= _) _ _ s
  refine wpAny_bind (tupleItemsOf_ ht ?_)
  refine wpAny_bind (wpAny_typeOf hTs ?_)
  rw [if_pos (by decide)]
  refine wpAny_bind (oU hs pl pu ?_)
  have hno:¬ ((((fT items.size 0 lo:Nat):Int) == 0 && (1:Int) == 1 && (fT items.size items.size hi - fT items.size 0 lo) == items.size)=true):=by
    intro q
    rw [Bool.and_eq_true,Bool.and_eq_true] at q
    have q1:((fT items.size 0 lo:Nat):Int)=0:=eq_of_beq q.1.1
    have q2:fT items.size items.size hi - fT items.size 0 lo=items.size:=eq_of_beq q.2
    exact hw ⟨by omega,by omega⟩
  show wpAny _ _ (if (((fT items.size 0 lo:Nat):Int) == 0 && (1:Int) == 1 && (fT items.size items.size hi - fT items.size 0 lo) == items.size)=true then _ else _) _ _ s
  rw [if_neg hno,pick_gen]
  first
    | exact wpAny_bind (m:=Builtin.Tuple.tupleExact _) (wpAny_newObj_type (wpAny_pure ⟨_,rfl,wpAny_pure h⟩) htake)
    | exact wpAny_bind (m:=Builtin.Tuple.tupleExact _) (wpAny_newObj_type (wpAny_bind (wpAny_pure (wpAny_pure ⟨_,rfl,wpAny_pure h⟩))) htake)
    | exact wpAny_bind (wpAny_bind (m:=Builtin.Tuple.tupleExact _) (wpAny_newObj_type (wpAny_pure (wpAny_pure ⟨_,rfl,wpAny_pure h⟩)) htake))
    | exact wpAny_bind (wpAny_bind (m:=Builtin.Tuple.tupleExact _) (wpAny_newObj_type (wpAny_pure ⟨_,rfl,wpAny_pure h⟩) htake))
end
end HT
namespace L2
open PySem PySem.Spec PyProof.Rows
noncomputable abbrev TO:=St→Hp→(Option Int→Hp→Prop)→Prop
noncomputable def PO (X:Cx) (e:Option Expr) (t:TO):Prop :=
 ∀(pins:List (Addr×Obj)) (s:Shared) (σ:St) (H:Hp) (Q:Option Int→Hp→Prop),Inv X pins σ H s→t σ H Q →
  wpAny (model X.prog X.w) X.A (evalPart e X.env) (fun u s'=>∃ o H',Inv X pins σ H' s'∧IsPart u o∧Q o H') X.xe s
noncomputable def aaX:TO:=fun _ H Q=>Q none H
noncomputable def tPart (t:TE):TO:=fun σ H Q=>t σ H fun x H1=>∃ i,x=.int i∧Q (some i) H1
theorem yT {ns:List Int}:∀ {us:List Value},Vals (ns.map V.int) us→IntsAre us ns:=by
 induction ns with
 | nil=>intro us r;rw [List.map_nil] at r;cases r;exact .nil
 | cons n ns ih =>
  intro us r
  rw [List.map_cons] at r
  cases r with
  | cons r1 r2 =>
   obtain ⟨t,e⟩:=r1
   subst e
   exact .cons n t (ih r2)
section
variable {X:Cx} {e:Expr} {te:TE} {lo hi:Option Expr} {tl th:TO} {pos p2:Pos}
theorem lX:PO X none aaX:=by
 intro pins s σ H Q I h
 rw [evalPart_none]
 exact wpAny_pure ⟨none,H,I,.none,h⟩
theorem gH (h:PE X e te):PO X (some e) (tPart te):=by
 intro pins s σ H Q I hw
 rw [evalPart_some]
 refine thn (h pins s σ H _ I hw) fun u s1 ⟨x,H1,I1,r1,q1⟩=>?_
 obtain ⟨i,rfl,q⟩:=q1
 obtain ⟨t,rfl⟩:=r1
 exact ⟨some i,H1,I1,.int i t,q⟩
noncomputable def SlR (X:Cx) (r:V→Option Int→Option Int→Hp→VK→Prop):Prop :=
 ∀(pins:List (Addr×Obj)) (s:Shared) (σ:St) (H:Hp) (x:V) (v vl vu:Value) (lo hi:Option Int) (sl:Addr) (Q:VK),Inv X pins σ H s→bI x v→s.heap.IsSliceOf sl vl vu .none→IsPart vl lo→IsPart vu hi→r x lo hi H Q →
  ∃ T id,typeLookup (.type T) "__getitem__"=pure (some (.builtin id))∧s.TypeIs v T∧wpAny (model X.prog X.w) X.A (getItem v (.ref sl)) (EP X pins σ Q) X.xe s
theorem SlR.or {r r':V→Option Int→Option Int→Hp→VK→Prop} (h:SlR X r) (h':SlR X r'):SlR X (fun x lo hi H Q=>r x lo hi H Q∨r' x lo hi H Q):=by
 intro pins s σ H x v vl vu lo hi sl Q I rx hs pl pu q
 rcases q with q | q
 ·exact h pins s σ H x v vl vu lo hi sl Q I rx hs pl pu q
 ·exact h' pins s σ H x v vl vu lo hi sl Q I rx hs pl pu q
noncomputable def tSl (r:V→Option Int→Option Int→Hp→VK→Prop) (te:TE) (tl th:TO):TE:=fun σ H Q=>te σ H fun x H1=>tl σ H1 fun l H2=>th σ H2 fun u H3=>r x l u H3 Q
theorem gL {r:V→Option Int→Option Int→Hp→VK→Prop} (hr:SlR X r) (he:PE X e te) (hl:PO X lo tl) (hu:PO X hi th):PE X (.Subscript e (.Slice lo hi none p2) pos) (tSl r te tl th):=by
 intro pins s σ H Q I h
 refine Subscript_ (thn (he pins s σ H _ I h) fun v s1 ⟨x,H1,I1,r1,q1⟩=>?_)
 refine wpAny_Slice (thn (hl pins s1 σ H1 _ I1 q1) fun vl s2 ⟨l,H2,I2,pl,q2⟩=>thn (hu pins s2 σ H2 _ I2 q2) fun vu s3 ⟨u,H3,I3,pu,q3⟩=>?_)
 rw [evalPart_none]
 refine wpAny_pure ?_
 have I4:Inv X pins σ H3 {s3 with heap:=s3.heap.push {cls:=.type "slice",data:=.fields #[vl,vu,.none]}}:=I3.kept (t':=s3.toks) fun b ob q=>Heap.get?_push_of_some _ q
 obtain ⟨T,id,hT,ht,hg⟩:=hr pins {s3 with heap:=s3.heap.push {cls:=.type "slice",data:=.fields #[vl,vu,.none]}} σ H3 x v vl vu l u s3.heap.objs.size Q I4 r1 (Heap.IsSliceOf.new ..) pl pu q3
 show wpAny (model X.prog X.w) X.A (subscriptTail e (.Slice lo hi none p2) v (.ref s3.heap.objs.size)) (EP X pins σ Q) X.xe {s3 with heap:=s3.heap.push {cls:=.type "slice",data:=.fields #[vl,vu,.none]}}
 exact tail_any (ops:=[.ref s3.heap.objs.size,v]) ht hT hg (by with_unfolding_all rfl)
noncomputable def kH (xs:List V) (lo hi:Option Int):List V:=(xs.drop (HT.fT xs.length 0 lo)).take (HT.fT xs.length xs.length hi - HT.fT xs.length 0 lo)
theorem pL (xs:List V) (lo hi:Option Int):(kH xs lo hi).length≤xs.length:=by
 unfold kH
 rw [List.length_take,List.length_drop]
 omega
noncomputable def rSlT (K:PySem.W.Frag):V→Option Int→Option Int→Hp→VK→Prop:=fun x lo hi H Q=>∃ a xs,x=.ref a∧gO K H a xs ∧
 ¬ (HT.fT xs.length 0 lo=0∧HT.fT xs.length xs.length hi=xs.length)∧∀ p,H p=none→Q (.ref p) (upd H p (.tup (kH xs lo hi)))
theorem sl_tup:SlR X (rSlT X.K):=by
 intro pins s σ H x v vl vu lo hi sl Q I rx hs pl pu h
 obtain ⟨a,xs,rfl,hx,hw,q⟩:=h
 cases rx
 obtain ⟨its,r,ht,hz⟩:=I.tuple hx
 have hlen:its.toArray.size=xs.length:=by rw [List.size_toArray];exact r.length.symm
 refine ⟨"tuple",_,PyProof.Rows.slot_tuple_getitem.lookup,ht.typeIs,?_⟩
 refine HT.nX ht hs pl pu (by rw [hlen];exact hw) ?_ (by rw [hlen];exact hz)
 rw [hlen]
 refine ⟨.ref s.heap.objs.size,_,I.laid (t':=s.toks) (o:=.tup (kH xs lo hi)) (fun b ob q=>Heap.get?_push_of_some _ q) (Nat.le_refl _) ?_,rfl,q _ (I.hok.fresh (Nat.le_refl _))⟩
 exact ⟨Nat.le_trans (pL xs lo hi) hz,_,(r.drop (HT.fT xs.length 0 lo)).take (HT.fT xs.length xs.length hi - HT.fT xs.length 0 lo),IsTup.new _ _⟩
noncomputable def rCatT (K:PySem.W.Frag):R2:=fun x y H Q=>∃ a b xs ys,x=.ref a∧y=.ref b∧gO K H a xs∧gO K H b ys∧xs≠[]∧xs.length+ys.length≤sizeLine ∧
 (ys=[]→Q (.ref a) H)∧(ys≠[]→∀ p,H p=none→Q (.ref p) (upd H p (.tup (xs++ys))))
theorem Vals.nil_iff {xs:List V} {us:List Value} (r:Vals xs us):us=[]↔xs=[]:=by
 cases r with
 | nil=>simp
 | cons _ _=>simp
theorem aaY:jM X (binaryOp .Add) (rCatT X.K):=by
 intro pins s σ H x y v u Q I rx ry h
 obtain ⟨a,b,xs,ys,rfl,rfl,ha,hb,hx,hz,q1,q2⟩:=h
 cases rx
 cases ry
 obtain ⟨its,r1,p1,_⟩:=I.tuple ha
 obtain ⟨its2,r2,p2,_⟩:=I.tuple hb
 refine HT.cat_tup p1 p2 (fun z=>hx (r1.nil_iff.mp z)) (fun z=>⟨.ref a,H,I,rfl,q1 (r2.nil_iff.mp z)⟩) (fun z=>?_) (by rw [← r1.length,← r2.length];exact hz)
 refine ⟨.ref s.heap.objs.size,_,I.laid (t':=s.toks) (o:=.tup (xs++ys)) (fun b ob q=>Heap.get?_push_of_some _ q) (Nat.le_refl _) ?_,rfl,q2 (fun w=>z (r2.nil_iff.mpr w)) _ (I.hok.fresh (Nat.le_refl _))⟩
 exact ⟨by rw [List.length_append];exact hz,_,r1.append r2,IsTup.new _ _⟩
end
end L2
namespace L2
open PySem PySem.Spec PyProof.Rows
noncomputable def yK (n:Nat) (i:Int):Option Nat:=if 0≤i then (if i < n then some i.toNat else none) else if -(n:Int)≤i then some (i+n).toNat else none
noncomputable def j6 {α:Type} (xs:List α) (i:Int):Option α:=(yK xs.length i).bind fun j=>xs[j]?
theorem aa3 {n:Nat} {i:Int} {j:Nat} (h:yK n i=some j):seqIndex? i n=some j∧j < n∧-(n:Int)≤i∧i < n:=by
 unfold yK at h
 by_cases h0:0≤i
 ·rw [if_pos h0] at h
  by_cases h1:i < n
  ·rw [if_pos h1] at h
   have e:i.toNat=j:=Option.some.inj h
   exact ⟨by rw [seqIndex_of h0 h1,e],by omega,by omega,h1⟩
  ·rw [if_neg h1] at h;cases h
 ·rw [if_neg h0] at h
  by_cases h1:-(n:Int)≤i
  ·rw [if_pos h1] at h
   have e:(i+n).toNat=j:=Option.some.inj h
   exact ⟨by rw [seqIndex_neg (by omega) h1,e],by omega,h1,by omega⟩
  ·rw [if_neg h1] at h;cases h
theorem qA {α:Type} {xs:List α} {i:Int} {v:α} (h:j6 xs i=some v):∃ j,seqIndex? i xs.length=some j∧xs[j]?=some v∧j < xs.length∧-(xs.length:Int)≤i∧i < xs.length:=by
 unfold j6 at h
 cases e:yK xs.length i with
 | none=>rw [e] at h;cases h
 | some j =>
  rw [e] at h
  obtain ⟨h1,h2,h3,h4⟩:=aa3 e
  exact ⟨j,h1,h,h2,h3,h4⟩
theorem qC {α:Type} {xs:List α} {j:Nat} {v:α} (h:xs[j]?=some v):j6 xs (j:Int)=some v:=by
 have hj:j < xs.length:=(List.getElem?_eq_some_iff.mp h).1
 have e:yK xs.length (j:Int)=some j:=by
  unfold yK
  rw [if_pos (by omega),if_pos (by omega)];simp
 unfold j6;rw [e];exact h
theorem lL {α:Type} (xs:List α) (v:α):j6 (xs++[v]) (-1)=some v:=by
 have hl:(xs++[v]).length=xs.length+1:=by simp
 have e:yK (xs++[v]).length (-1)=some xs.length:=by
  unfold yK
  rw [hl,if_neg (by decide),if_pos (by omega)]
  congr 1
  omega
 unfold j6
 rw [e]
 show (xs++[v])[xs.length]?=some v
 simp
noncomputable def PlainIx (b:Expr):Prop:=∀ o i,subscripted b false o i=operate [o,i] (getItem o i)
noncomputable def IxR (X:Cx) (r:R2):Prop :=
 ∀(value slice:Expr) (pins:List (Addr×Obj)) (s:Shared) (σ:St) (H:Hp) (x y:V) (v u:Value) (Q:VK),Inv X pins σ H s→bI x v→bI y u→r x y H Q →
  subscripted slice false v u=operate [v,u] (getItem v u)→wpAny (model X.prog X.w) X.A (subscriptTail value slice v u) (EP X pins σ Q) X.xe s
noncomputable def MtR (X:Cx) (id:String) (r:V→List V→Hp→VK→Prop):Prop :=
 ∀(pins:List (Addr×Obj)) (s:Shared) (σ:St) (H:Hp) (x:V) (xs:List V) (v:Value) (us:List Value) (Q:VK),Inv X pins σ H s→bI x v→Vals xs us→r x xs H Q →
  wpAny (model X.prog X.w) X.A (call (.builtin id) (v::us)) (EP X pins σ Q) X.xe s
section
variable {X:Cx} {a b:Expr} {ta tb:TE} {pos:Pos}
theorem IxR.or {r r':R2} (h:IxR X r) (h':IxR X r'):IxR X (fun x y H Q=>r x y H Q∨r' x y H Q):=by
 intro value slice pins s σ H x y v u Q I rx ry q hs
 rcases q with q | q
 ·exact h value slice pins s σ H x y v u Q I rx ry q hs
 ·exact h' value slice pins s σ H x y v u Q I rx ry q hs
theorem aX {r:R2} (hr:IxR X r) (ha:PE X a ta) (hb:PE X b tb) (hs:PlainIx b):PE X (.Subscript a b pos) (tOp r ta tb):=by
 intro pins s σ H Q I h
 exact Subscript_ (binT ha hb I h fun v u s2 x y H2 I2 rx ry q=>hr a b pins s2 σ H2 x y v u Q I2 rx ry q (hs _ _))
noncomputable def rIxL (K:PySem.W.Frag):R2:=fun x y H Q=>∃ p xs i v,x=.ref p∧y=.int i∧eA K H p xs∧j6 xs i=some v∧Q v H
noncomputable def rIxT (K:PySem.W.Frag):R2:=fun x y H Q=>∃ p xs i v,x=.ref p∧y=.int i∧gO K H p xs∧j6 xs i=some v∧Q v H
noncomputable def rIxS:R2:=fun x y H Q=>∃ z i c,x=.str z∧y=.int i∧z.length≤sizeLine∧j6 z.cps.toList i=some c∧Q (.str ⟨#[c]⟩) H
theorem aaM:IxR X (rIxL X.K):=by
 intro value slice pins s σ H x y v u Q I rx ry h hs
 obtain ⟨p,xs,i,z,rfl,rfl,hq,he,q⟩:=h
 cases rx
 obtain ⟨t,rfl⟩:=ry
 obtain ⟨its,r,pl,hz⟩:=I.list hq
 obtain ⟨j,h1,h2,h3,h4,h5⟩:=qA he
 obtain ⟨w,ew,rw'⟩:=r.get h2
 have hl:=r.length
 have hn:=line63
 have fin:EP X pins σ Q w s:=⟨z,H,I,rw',q⟩
 by_cases h0:0≤i
 ·have hj:i.toNat=j:=by
   rw [seqIndex_of h0 h5] at h1
   exact Option.some.inj h1
  exact item_listR pl.isList h0 (by omega) (by rw [hj];simpa using ew) fin hs
 ·have hj:(i+(its.toArray.size:Int)).toNat=j:=by
   rw [seqIndex_neg (by omega) h4] at h1
   rw [List.size_toArray,← hl]
   exact Option.some.inj h1
  exact subscriptTail_builtinR (x:=w) pl.isList.typeIs slot_list_getitem.lookup
   (wpAny_getItem_list_neg (Q:=fun r s'=>r=w∧EP X pins σ Q r s') pl.isList (by omega) (by rw [List.size_toArray]<;>omega) (by omega) (by rw [hj];simpa using ew) ⟨rfl,fin⟩) hs
theorem ix_tup:IxR X (rIxT X.K):=by
 intro value slice pins s σ H x y v u Q I rx ry h hs
 obtain ⟨p,xs,i,z,rfl,rfl,hq,he,q⟩:=h
 cases rx
 obtain ⟨t,rfl⟩:=ry
 obtain ⟨its,r,pl,hz⟩:=I.tuple hq
 obtain ⟨j,h1,h2,h3,h4,h5⟩:=qA he
 obtain ⟨w,ew,rw'⟩:=r.get h2
 have hl:=r.length
 have hn:=line63
 have fin:EP X pins σ Q w s:=⟨z,H,I,rw',q⟩
 exact subscriptTail_builtinR (x:=w) pl.typeIs slot_tuple_getitem.lookup
  (getItem_tuple (j:=j) (Q:=fun r s'=>r=w∧EP X pins σ Q r s') pl (by omega) (by omega) (by rw [List.size_toArray,← hl];exact h1) (by simpa using ew) ⟨rfl,fin⟩) hs
theorem ix_str:IxR X rIxS:=by
 intro value slice pins s σ H x y v u Q I rx ry h hs
 obtain ⟨z,i,c,rfl,rfl,hz,he,q⟩:=h
 obtain ⟨t,rfl⟩:=rx
 obtain ⟨t',rfl⟩:=ry
 obtain ⟨j,h1,h2,h3,h4,h5⟩:=qA he
 have hl:z.cps.toList.length=z.length:=by simp [Str.length]
 rw [hl] at h1 h4 h5
 have hn:=line63
 exact tail_any (typeIs_str s z t) slot_str_getitem.lookup (getItem_str (c:=c) (by
  have e1:decide (i < -(2 ^ 63:Int))=false:=decide_eq_false (by omega)
  have e2:decide (i ≥ 2 ^ 63)=false:=decide_eq_false (by omega)
  rw [e1,e2,Bool.or_false]) (by rw [h1];simpa using h2) ⟨.str ⟨#[c]⟩,H,I.tok _,⟨_,rfl⟩,q⟩) hs
noncomputable def rIx (K:PySem.W.Frag):R2:=fun x y H Q=>rIxL K x y H Q∨rIxT K x y H Q∨rIxS x y H Q
theorem ix_seq:IxR X (rIx X.K):=aaM.or (ix_tup.or ix_str)
theorem zX (its:List Value) (n j:Nat) (u:Value):Obj.mapSeq (·.setIfInBounds j u) {cls:=.type "list",data:=.seq its.toArray n}={cls:=.type "list",data:=.seq (its.set j u).toArray n}:=by
 simp [Obj.mapSeq]
theorem Inv.lst {pins:List (Addr×Obj)} {σ:St} {H:Hp} {s:Shared} {p:Addr} {xs:List V} (I:Inv X pins σ H s) (h:H p=some (.lst xs)) :
    ∃(its:List Value) (n:Nat),Vals xs its∧s.heap.get? p=some {cls:=.type "list",data:=.seq its.toArray n}∧xs.length≤sizeLine:=by
  obtain ⟨z,its,n,r,e⟩:=I.hok p _ h
  exact ⟨its,n,r,e,z⟩
theorem Inv.lstUpd {pins:List (Addr×Obj)} {σ:St} {H:Hp} {s:Shared} {p:Addr} {xs ys:List V} {its its':List Value} {n n':Nat} {f:Obj→Obj} (I:Inv X pins σ H s) (h:H p=some (.lst xs))
    (ho:s.heap.get? p=some {cls:=.type "list",data:=.seq its.toArray n}) (hf:f {cls:=.type "list",data:=.seq its.toArray n}={cls:=.type "list",data:=.seq its'.toArray n'}) (r:Vals ys its') (hz:ys.length≤sizeLine) (t:Nat) :
    Inv X pins σ (upd H p (.lst ys)) {s with heap:=s.heap.update p f,toks:=t}:=by
  have e:(s.heap.update p f).get? p=some {cls:=.type "list",data:=.seq its'.toArray n'}:=by
    rw [Heap.get?_update_self f ho (by rw [hf]<;>rfl),hf]
  refine I.write (x:=p) (e:=p) (by rw [h];trivial) (.inl rfl) (fun b u hb q=>(Heap.get?_update_other _ _ (Ne.symm hb)).trans q) ⟨_,e⟩ ?_
  exact ⟨hz,its',n',r,e⟩
noncomputable def rSetL:V→V→V→Hp→(Hp→Prop)→Prop:=fun o i v H Q=>∃ p xs k j,o=.ref p∧i=.int k∧H p=some (.lst xs)∧yK xs.length k=some j∧Q (upd H p (.lst (xs.set j v)))
theorem set_list:PSet X rSetL:=by
 intro pins s σ H o i v ov iv u Q I ro ri rv h
 obtain ⟨p,xs,k,j,rfl,rfl,hp,hj,q⟩:=h
 cases ro
 obtain ⟨t,rfl⟩:=ri
 obtain ⟨its,n,r,ho,hz⟩:=I.lst hp
 obtain ⟨h1,h2,h3,h4⟩:=aa3 hj
 have hl:=r.length
 have hn:=line63
 have I':Inv X pins σ (upd H p (.lst (xs.set j v))) {s with heap:=s.heap.update p (Obj.mapSeq (·.setIfInBounds j u))} :=
  I.lstUpd hp ho (zX its n j u) (r.set rv j) (by rw [List.length_set];exact hz) s.toks
 by_cases h0:0≤k
 ·have hk:k.toNat=j:=by
   rw [seqIndex_of h0 h4] at h1
   exact Option.some.inj h1
  exact PySem.W.ki_setAt ho h0 (by omega) (by rw [List.size_toArray,← hl];exact h4) (by rw [hk];exact ⟨_,I',q⟩)
 ·have hk:(k+(its.toArray.size:Int)).toNat=j:=by
   rw [seqIndex_neg (by omega) h3] at h1
   rw [List.size_toArray,← hl]
   exact Option.some.inj h1
  exact PySem.W.ki_setBack ho (by omega) (by rw [List.size_toArray,← hl];exact h3) (by omega) (by rw [hk];exact ⟨_,I',q⟩)
theorem uX (lo hi:Option Int) (n:Nat):(sliceBounds lo hi none n).1=((HT.fT n 0 lo:Nat):Int)∧(sliceBounds lo hi none n).2.1=((HT.fT n n hi:Nat):Int)∧(sliceBounds lo hi none n).2.2=1:=by
 refine ⟨?_,?_,rfl⟩
 ·cases lo with
  | none=>simp [sliceBounds,HT.fT]
  | some i =>
   simp only [sliceBounds,HT.fT,Option.getD_none,show (1:Int) > 0 by decide,if_true]
   by_cases h:i < 0
   ·simp only [h,if_true]<;>omega
   ·simp only [h,if_false]<;>omega
 ·cases hi with
  | none=>simp [sliceBounds,HT.fT]
  | some i =>
   simp only [sliceBounds,HT.fT,Option.getD_none,show (1:Int) > 0 by decide,if_true]
   by_cases h:i < 0
   ·simp only [h,if_true]<;>omega
   ·simp only [h,if_false]<;>omega
theorem tI (its:List Value) (lo hi:Option Int):slicePick its.toArray lo hi none=((its.drop (HT.fT its.length 0 lo)).take (HT.fT its.length its.length hi - HT.fT its.length 0 lo)).toArray:=by
 obtain ⟨h1,h2,h3⟩:=uX lo hi its.toArray.size
 unfold slicePick
 rw [h1,h2,h3]
 simp only [sliceRange_one,pick_run,List.size_toArray]<;>rfl
noncomputable def rSlL (K:PySem.W.Frag):V→Option Int→Option Int→Hp→VK→Prop:=fun x lo hi H Q=>∃ a xs,x=.ref a∧eA K H a xs∧∀ p,H p=none→Q (.ref p) (upd H p (.lst (kH xs lo hi)))
theorem abE:SlR X (rSlL X.K):=by
 intro pins s σ H x v vl vu lo hi sl Q I rx hs pl pu h
 obtain ⟨a,xs,rfl,hx,q⟩:=h
 cases rx
 obtain ⟨its,r,ht,hz⟩:=I.list hx
 have hlen:=r.length
 refine ⟨"list",_,slot_list_getitem.lookup,ht.isList.typeIs,?_⟩
 refine wpAny_getItem_list_slice ht.isList hs pl pu .none (by simp) ?_ (by rw [List.size_toArray]<;>omega)
 rw [tI,← hlen]
 refine ⟨.ref s.heap.objs.size,_,I.laid (t':=s.toks) (o:=.lst (kH xs lo hi)) (fun b ob q=>Heap.get?_push_of_some _ q) (Nat.le_refl _) ?_,rfl,q _ (I.hok.fresh (Nat.le_refl _))⟩
 exact ⟨Nat.le_trans (pL xs lo hi) hz,_,0,(r.drop (HT.fT xs.length 0 lo)).take (HT.fT xs.length xs.length hi - HT.fT xs.length 0 lo),Heap.get?_push_size _ rfl⟩
noncomputable def dP:V→Bool
 | .non=>true
 | .bl _=>true
 | .int _=>true
 | .str _=>true
 | _=>false
noncomputable def oJ:V→V→Bool
 | .non,.non=>true
 | .bl a,.bl b=>a == b
 | .bl a,.int b=>(if a then 1 else 0) == b
 | .int a,.bl b=>a == (if b then 1 else 0)
 | .int a,.int b=>a == b
 | .str a,.str b=>a == b
 | _,_=>false
theorem eqAt_V {A:Around} {s:Shared} {y x:V} {u v:Value} (ry:bI y u) (rx:bI x v) (fy:dP y=true) (fx:dP x=true):SeqAt.EqAt A s u v (oJ y x):=by
 cases y with
 | non =>
  cases ry
  cases x with
  | non=>cases rx;exact SeqAt.EqAt.same _
  | bl b=>cases rx;exact SeqAt.EqAt.none_bool b
  | int b=>obtain ⟨t,rfl⟩:=rx;exact SeqAt.EqAt.none_int b t
  | str b=>obtain ⟨t,rfl⟩:=rx;exact SeqAt.EqAt.none_str b t
  | _=>exact absurd (show false=true from fx) Bool.false_ne_true
 | bl a =>
  cases ry
  cases x with
  | non=>cases rx;exact SeqAt.EqAt.bool_none a
  | bl b=>cases rx;exact SeqAt.EqAt.bool_bool a b
  | int b=>obtain ⟨t,rfl⟩:=rx;exact SeqAt.EqAt.bool_int a b t
  | str b=>obtain ⟨t,rfl⟩:=rx;exact SeqAt.EqAt.bool_str a b t
  | _=>exact absurd (show false=true from fx) Bool.false_ne_true
 | int a =>
  obtain ⟨t',rfl⟩:=ry
  cases x with
  | non=>cases rx;exact SeqAt.EqAt.int_none a t'
  | bl b=>cases rx;exact SeqAt.EqAt.int_bool a t' b
  | int b=>obtain ⟨t,rfl⟩:=rx;exact SeqAt.EqAt.int_int a t' b t
  | str b=>obtain ⟨t,rfl⟩:=rx;exact SeqAt.EqAt.int_str a t' b t
  | _=>exact absurd (show false=true from fx) Bool.false_ne_true
 | str a =>
  obtain ⟨t',rfl⟩:=ry
  cases x with
  | non=>cases rx;exact SeqAt.EqAt.str_none a t'
  | bl b=>cases rx;exact SeqAt.EqAt.str_bool a t' b
  | int b=>obtain ⟨t,rfl⟩:=rx;exact SeqAt.EqAt.str_int a t' b t
  | str b=>obtain ⟨t,rfl⟩:=rx;exact SeqAt.EqAt.str_str a t' b t
  | _=>exact absurd (show false=true from fx) Bool.false_ne_true
 | _=>exact absurd (show false=true from fy) Bool.false_ne_true
noncomputable def yV (x:V) (u:Value):Bool:=match u with
 | .none=>oJ .non x
 | .bool b=>oJ (.bl b) x
 | .int i _=>oJ (.int i) x
 | .str z _=>oJ (.str z) x
 | _=>false
theorem eqU_of {x y:V} {u:Value} (r:bI y u) (f:dP y=true):yV x u=oJ y x:=by
 cases y with
 | non=>cases r;rfl
 | bl b=>cases r;rfl
 | int i=>obtain ⟨t,rfl⟩:=r;rfl
 | str z=>obtain ⟨t,rfl⟩:=r;rfl
 | _=>exact absurd (show false=true from f) Bool.false_ne_true
theorem nY {x:V}:∀ {xs:List V} {us:List Value},Vals xs us→xs.all dP=true→us.any (yV x)=xs.any fun y=>oJ y x
 | _,_,.nil,_=>rfl
 | y::xs,u::us,.cons r t,f=>by
  rw [List.all_cons,Bool.and_eq_true] at f
  rw [List.any_cons,List.any_cons,eqU_of r f.1,nY t f.2]
theorem kS {A:Around} {s:Shared} {x:V} {v:Value} (rx:bI x v) (fx:dP x=true):∀ {xs:List V} {us:List Value},Vals xs us→xs.all dP=true→∀ u∈us,SeqAt.EqAt A s u v (yV x u)
 | _,_,.nil,_=>fun u hu=>by cases hu
 | y::xs,u::us,.cons r t,f=>fun u' hu=>by
  rw [List.all_cons,Bool.and_eq_true] at f
  rcases List.mem_cons.mp hu with rfl | hu
  ·rw [eqU_of r f.1];exact eqAt_V r rx f.1 fx
  ·exact kS rx fx t f.2 u' hu
noncomputable def vC (x:V) (xs:List V):Bool:=xs.any fun y=>oJ y x
noncomputable def rIn (K:PySem.W.Frag) (neg:Bool):R2:=fun x y H Q=>∃ p xs,y=.ref p∧(eA K H p xs∨gO K H p xs)∧dP x=true∧xs.all dP=true∧Q (.bl (if neg then !vC x xs else vC x xs)) H
theorem abV:jM X (compareOp .In) (rIn X.K false):=by
 intro pins s σ H x y v u Q I rx ry h
 obtain ⟨p,xs,rfl,hq,fx,fs,q⟩:=h
 cases ry
 rcases hq with hq | hq
 ·obtain ⟨its,r,pl,hz⟩:=I.list hq
  refine SeqAt.in_listAt (yV x) pl.isList (fun w hw=>kS rx fx r fs w (by simpa using hw)) ⟨.bl _,H,I,rfl,?_⟩
  rw [show its.toArray.any (yV x)=its.any (yV x) by simp,nY r fs]
  exact q
 ·obtain ⟨its,r,pl,hz⟩:=I.tuple hq
  refine SeqAt.in_tupleAt (yV x) pl (fun w hw=>kS rx fx r fs w (by simpa using hw)) ⟨.bl _,H,I,rfl,?_⟩
  rw [show its.toArray.any (yV x)=its.any (yV x) by simp,nY r fs]
  exact q
theorem vA:jM X (compareOp .NotIn) (rIn X.K true):=by
 intro pins s σ H x y v u Q I rx ry h
 obtain ⟨p,xs,rfl,hq,fx,fs,q⟩:=h
 cases ry
 rcases hq with hq | hq
 ·obtain ⟨its,r,pl,hz⟩:=I.list hq
  refine SeqAt.notIn_listAt (yV x) pl.isList (fun w hw=>kS rx fx r fs w (by simpa using hw)) ⟨.bl _,H,I,rfl,?_⟩
  rw [show its.toArray.any (yV x)=its.any (yV x) by simp,nY r fs]
  exact q
 ·obtain ⟨its,r,pl,hz⟩:=I.tuple hq
  refine SeqAt.notIn_tupleAt (yV x) pl (fun w hw=>kS rx fx r fs w (by simpa using hw)) ⟨.bl _,H,I,rfl,?_⟩
  rw [show its.toArray.any (yV x)=its.any (yV x) by simp,nY r fs]
  exact q
theorem vB:dX X (.builtin "len") (fun xs H Q=>∃ p ys,xs=[.ref p]∧(eA X.K H p ys∨gO X.K H p ys)∧Q (.int ys.length) H):=by
 intro pins s σ H xs us Q I r h
 obtain ⟨p,ys,rfl,hq,q⟩:=h
 obtain ⟨u,rfl,rx⟩:=vals1 r
 cases rx
 have hn:=line63
 rcases hq with hq | hq
 ·obtain ⟨its,r',pl,hz⟩:=I.list hq
  have hlen:=r'.length
  exact Calls.call_len_list pl.isList (by simp only [List.size_toArray]<;>omega) ⟨.int ys.length,H,I.tok _,⟨s.toks+1,by rw [List.size_toArray,hlen]⟩,q⟩
 ·obtain ⟨its,r',pl,hz⟩:=I.tuple hq
  have hlen:=r'.length
  exact len_tuple pl (by simp only [List.size_toArray]<;>omega) ⟨.int ys.length,H,I.tok _,⟨s.toks+1,by rw [List.size_toArray,hlen]⟩,q⟩
theorem vT:dX X (.type "list") (fun xs H Q=>∃ p ys,xs=[.ref p]∧(eA X.K H p ys∨gO X.K H p ys)∧∀ l,H l=none→Q (.ref l) (upd H l (.lst ys))):=by
  intro pins s σ H xs us Q I r h
  obtain ⟨p,ys,rfl,hq,q⟩:=h
  obtain ⟨u,rfl,rx⟩:=vals1 r
  cases rx
  have fin:∀(its:List Value),Vals ys its→ys.length≤sizeLine→∀(h':Heap) (c':Nat),(∀ b o',s.heap.get? b=some o'→h'.get? b=some o') →
      h'.get? s.heap.objs.size=some {cls:=.type "list",dict:=none,data:=.seq its.toArray c',slots:=#[]}→EP X pins σ Q (.ref s.heap.objs.size) {s with heap:=h'}:=fun its r' hz h' c' kp e =>
    ⟨.ref s.heap.objs.size,_,I.laid (t':=s.toks) kp (Nat.le_refl _) (show cZ X.prog X.w _ h' _ (.lst ys) from ⟨hz,its,c',r',e⟩),rfl,q _ (I.hok.fresh (Nat.le_refl _))⟩
  rcases hq with hq | hq
  · obtain ⟨its,r',pl,hz⟩:=I.list hq
    have hlen:=r'.length
    obtain ⟨o,ho,hc,n,hd⟩:=pl.isList
    exact call_list_seq p (.inl rfl) ho hc hd (fun h' c' kp e=>fin its r' hz h' c' kp e) (by simp only [List.size_toArray]<;>omega)
  · obtain ⟨its,r',pl,hz⟩:=I.tuple hq
    have hlen:=r'.length
    obtain ⟨o,ho,hc,n,hd⟩:=pl
    exact call_list_seq p (.inr rfl) ho hc hd (fun h' c' kp e=>fin its r' hz h' c' kp e) (by simp only [List.size_toArray]<;>omega)
theorem tT:dX X (.type "tuple") (fun xs H Q=>∃ p ys,xs=[.ref p]∧((eA X.K H p ys∧∀ l,H l=none→Q (.ref l) (upd H l (.tup ys)))∨(gO X.K H p ys∧Q (.ref p) H))):=by
 intro pins s σ H xs us Q I r h
 obtain ⟨p,ys,rfl,h⟩:=h
 obtain ⟨u,rfl,rx⟩:=vals1 r
 cases rx
 rcases h with ⟨hq,q⟩ | ⟨hq,q⟩
 ·obtain ⟨its,r',pl,hz⟩:=I.list hq
  have hlen:=r'.length
  refine call_tuple_list pl.isList (fun h' kp=>?_) (by simp only [List.size_toArray]<;>omega)
  have I1:Inv X pins σ H {s with heap:=h'}:=I.kept (t':=s.toks) kp
  have I2:Inv X pins σ (upd H h'.objs.size (.tup ys)) {s with heap:=h'.push {cls:=.type "tuple",data:=.seq its.toArray}} :=
   I1.laid (t':=s.toks) (fun b o e=>Heap.get?_push_of_some _ e) (Nat.le_refl _) (show cZ X.prog X.w _ _ _ (.tup ys) from ⟨hz,its,r',IsTup.new _ _⟩)
  exact ⟨.ref h'.objs.size,_,I2,rfl,q _ (I1.hok.fresh (Nat.le_refl _))⟩
 ·obtain ⟨its,r',pl,hz⟩:=I.tuple hq
  exact call_tuple_same pl ⟨.ref p,H,I,rfl,q⟩
noncomputable def tyV (K:PySem.W.Frag) (T:String) (x:V) (H:Hp):Prop:=match x with
  | .str _=>T = "str"
  | .int _=>T = "int"
  | .ref p=>(T = "list"∧∃ xs,eA K H p xs)∨(T = "tuple"∧∃ o,K.lookup p=some o∧o.cls=.type "tuple"∧o.dict=none) ∨
      (T = "dict"∧((∃ kvs,H p=some (.dK kvs))∨∃ kvs,H p=some (.dT kvs)))∨(T = "set"∧∃ S n,H p=some (.set S n))
  | _=>False
theorem zZ {pins:List (Addr×Obj)} {σ:St} {H:Hp} {s:Shared} {T:String} {x:V} {v:Value} (I:Inv X pins σ H s) (r:bI x v) (ty:tyV X.K T x H) :
    s.TypeIs v T∧∀ a,v=.ref a→∃ ob,s.heap.get? a=some ob∧ob.dict=none:=by
  cases x with
  | str z =>
    obtain ⟨t,rfl⟩:=r
    cases (show T = "str" from ty)
    exact ⟨typeIs_str s z t,fun _ e=>nomatch e⟩
  | int i =>
    obtain ⟨t,rfl⟩:=r
    cases (show T = "int" from ty)
    exact ⟨typeIs_int s i t,fun _ e=>nomatch e⟩
  | ref p =>
    cases r
    rcases ty with ⟨rfl,xs,hq⟩ | ⟨rfl,o,hk,hc,hd⟩ | ⟨rfl,hk⟩ | ⟨rfl,S,n,hk⟩
    · obtain ⟨its,_,pl,_⟩:=I.list hq
      refine ⟨pl.isList.typeIs,fun a e=>?_⟩
      cases e
      obtain ⟨o,n,e,c,hd,_⟩:=pl
      exact ⟨o,e,hd⟩
    · refine ⟨⟨o,I.kIn p o hk,hc⟩,fun a e=>?_⟩
      cases e
      exact ⟨o,I.kIn _ o hk,hd⟩
    · have z:∃ o,s.heap.get? p=some o∧o.ExactDict:=by
        rcases hk with ⟨kvs,hk⟩ | ⟨kvs,hk⟩
        · obtain ⟨_,_,_,_,o,_,_,e,ex,_⟩:=I.hok p _ hk
          exact ⟨o,e,ex⟩
        · obtain ⟨_,_,_,_,o,_,_,e,ex,_⟩:=I.hok p _ hk
          exact ⟨o,e,ex⟩
      obtain ⟨o,e,ex⟩:=z
      refine ⟨⟨o,e,ex.1⟩,fun a e2=>?_⟩
      cases e2
      exact ⟨o,e,ex.2.1⟩
    · obtain ⟨o,_,_,_,e,ex,_⟩:=I.hok p _ hk
      refine ⟨⟨o,e,ex.1⟩,fun a e2=>?_⟩
      cases e2
      exact ⟨o,e,ex.2.1⟩
  | _=>exact False.elim ty
variable {o e:Expr} {es:List Expr} {to:TE} {t:TA} {name:Str} {apos cpos:Pos} {T id:String} {r:V→List V→Hp→VK→Prop}
/- xs.append(e),list.index on a module's tuple .. are MtR facts of 06m -/
end
end L2
namespace L2
open PySem PySem.Spec PyProof.Rows
noncomputable def MtM (X:Cx) (id:String) (r:V→List V→Hp→VK→Prop):Prop :=
 ∀(pins:List (Addr×Obj)) (s:Shared) (σ:St) (H:Hp) (x:V) (xs:List V) (v:Value) (us:List Value) (Q:VK),Inv X pins σ H s→bI x v→Vals xs us→r x xs H Q →
  wpAny (model X.prog X.w) X.A (call (.builtin id) (v::us)) (EP X pins σ Q) X.xe s
theorem Vals.one {x:V} {us:List Value} (h:Vals [x] us):∃ u,us=[u]∧bI x u:=by
 cases h with
 | cons r t=>cases t;exact ⟨_,rfl,r⟩
theorem Vals.zero:∀ {us:List Value},Vals [] us→us=[]
 | _,.nil=>rfl
theorem Vals.dropLast {xs:List V} {us:List Value} (h:Vals xs us):Vals xs.dropLast us.dropLast:=by
 induction h with
 | nil=>exact .nil
 | cons r t ih =>
  cases t with
  | nil=>exact .nil
  | cons q t'=>exact .cons r ih
theorem Vals.eraseIdx:∀ {xs:List V} {us:List Value} (i:Nat),Vals xs us→Vals (xs.eraseIdx i) (us.eraseIdx i)
 | _,_,_,.nil=>.nil
 | _,_,0,.cons _ t=>t
 | _,_,i+1,.cons r t=>.cons r (Vals.eraseIdx i t)
theorem Vals.rep {xs:List V} {us:List Value} (h:Vals xs us):∀ k:Nat,Vals (List.replicate k xs).flatten (List.replicate k us).flatten
 | 0=>.nil
 | k+1=>by
  rw [List.replicate_succ,List.replicate_succ,List.flatten_cons,List.flatten_cons]
  exact Vals.append h (Vals.rep h k)
theorem aaA {α:Type} (l:List α):l.eraseIdx (l.length - 1)=l.dropLast:=by
 induction l with
 | nil=>rfl
 | cons a r ih =>
  cases r with
  | nil=>rfl
  | cons b r =>
   have e:(a::b::r).length - 1=((b::r).length - 1)+1:=by
    have h1:(a::b::r).length=r.length+2:=rfl
    have h2:(b::r).length=r.length+1:=rfl
    omega
   rw [e,List.eraseIdx_cons_succ,ih]
   all_goals rfl
theorem uG {α:Type}:∀(l:List α) (i:Nat),(l.eraseIdx i).length≤l.length
 | [],_=>Nat.le_refl _
 | _::_,0=>Nat.le_succ _
 | _::r,i+1=>Nat.succ_le_succ (uG r i)
theorem t4 (its:List Value):∀(k:Nat) (acc:List Value),
    List.foldl (fun x1 x2=>x1++x2) acc.toArray (List.replicate k its.toArray)=(acc++(List.replicate k its).flatten).toArray
  | 0,acc=>by simp
  | k+1,acc=>by
    have e:acc.toArray++its.toArray=(acc++its).toArray:=by simp
    have e2:(acc++its)++(List.replicate k its).flatten=acc++(List.replicate (k+1) its).flatten:=by
      rw [List.replicate_succ,List.flatten_cons,List.append_assoc]
    rw [← e2,← t4 its k (acc++its),← e,List.replicate_succ,List.foldl_cons]
section
variable {X:Cx} {pins:List (Addr×Obj)} {σ:St} {H:Hp} {s:Shared} {l b:Addr} {xs ys zs:List V}
theorem Inv.lset {its its':List Value} {n:Nat} {f:Array Value→Array Value} {t':Nat} (I:Inv X pins σ H s) (hH:H l=some (.lst xs))
    (e:s.heap.get? l=some {cls:=.type "list",data:=.seq its.toArray n}) (hf:f its.toArray=its'.toArray) (hv:Vals ys its') (hz:ys.length≤sizeLine) :
    Inv X pins σ (upd H l (.lst ys)) {s with heap:=s.heap.update l (Obj.mapSeq f),toks:=t'}:=by
  have q:=PySem.IsL.update e f
  rw [hf] at q
  refine I.write (x:=l) (e:=l) (by rw [hH];exact trivial) (.inl rfl) (fun b' u hb hu=>(Heap.get?_update_other s.heap (Obj.mapSeq f) (Ne.symm hb)).trans hu) ⟨_,q⟩ ?_
  exact ⟨hz,its',_,hv,q⟩
theorem Inv.lnew {its:List Value} {t':Nat} (I:Inv X pins σ H s) (hv:Vals ys its) (hz:ys.length≤sizeLine) :
    Inv X pins σ (upd H s.heap.objs.size (.lst ys)) {s with heap:=s.heap.push {cls:=.type "list",data:=.seq its.toArray},toks:=t'} :=
  I.laid (fun _ _ q=>Heap.get?_push_of_some _ q) (Nat.le_refl _) ⟨hz,its,0,hv,Heap.get?_push_size _ rfl⟩
theorem Inv.fresh (I:Inv X pins σ H s):H s.heap.objs.size=none:=I.hok.fresh (Nat.le_refl _)
theorem Inv.lstM (I:Inv X pins σ H s) (hH:H l=some (.lst xs)):xs.length≤sizeLine∧∃(its:List Value) (n:Nat),Vals xs its∧xs.length=its.length∧s.heap.get? l=some {cls:=.type "list",data:=.seq its.toArray n}:=by
 obtain ⟨z,its,n,r,e⟩:=I.hok l _ hH
 exact ⟨z,its,n,r,r.length,e⟩
theorem xH {n:Nat} (h:n≤sizeLine):Builtin.List.listTooLong n=false:=by
 unfold Builtin.List.listTooLong
 exact decide_eq_false (by omega)
end
section
variable {X:Cx}
noncomputable def rAppend:V→List V→Hp→VK→Prop:=fun x vs H Q=>∃ l xs y,x=.ref l∧vs=[y]∧H l=some (.lst xs)∧xs.length < sizeLine∧Q .non (upd H l (.lst (xs++[y])))
theorem mt_append:MtM X "list.append" rAppend:=by
 intro pins s σ H x vs v us Q I rx rv h
 obtain ⟨l,xs,y,rfl,rfl,hH,hz,q⟩:=h
 cases rx
 obtain ⟨u,rfl,ru⟩:=rv.one
 obtain ⟨z,its,n,r,hl,e⟩:=I.lstM hH
 refine call_meets F.slot_list_append ⟨_,e,rfl⟩ F.entry_list_append (F.args_list_append_2 _ _) (PySem.list_append l its.toArray n u (by rw [List.size_toArray];omega)) ⟨e,?_⟩
 refine ⟨.non,_,I.lset (its':=its++[u]) hH e (by simp) (r.append (.cons ru .nil)) ?_,rfl,q⟩
 rw [List.length_append,List.length_singleton]
 omega
noncomputable def rExtend:V→List V→Hp→VK→Prop:=fun x vs H Q=>∃ l b xs zs,x=.ref l∧vs=[.ref b]∧H l=some (.lst xs)∧H b=some (.lst zs)∧xs.length+zs.length≤sizeLine∧Q .non (upd H l (.lst (xs++zs)))
theorem mt_extend:MtM X "list.extend" rExtend:=by
 intro pins s σ H x vs v us Q I rx rv h
 obtain ⟨l,b,xs,zs,rfl,rfl,hH,hB,hz,q⟩:=h
 cases rx
 obtain ⟨u,rfl,ru⟩:=rv.one
 cases ru
 obtain ⟨z,its,n,r,hl,e⟩:=I.lstM hH
 obtain ⟨z2,its2,n2,r2,hl2,e2⟩:=I.lstM hB
 have hsz:its.toArray.size+its2.toArray.size≤sizeLine:=by rw [List.size_toArray,List.size_toArray];omega
 have hlong:¬ (!its.toArray.isEmpty && Builtin.List.listTooLong (its.toArray.size+its2.toArray.size))=true:=by
  rw [xH hsz,Bool.and_false]
  exact Bool.false_ne_true
 refine call_meets F.slot_list_extend ⟨_,e,rfl⟩ F.entry_list_extend (F.args_list_extend_2 _ _)
  (AutoSeq1.list_extend_list_list_0 l its.toArray n b its2.toArray n2 hlong (by rw [List.size_toArray];omega) (by omega)) ⟨e,e2,?_⟩
 refine ⟨.non,_,I.lset (its':=its++its2) hH e (by simp) (r.append r2) ?_,rfl,q⟩
 rw [List.length_append]
 omega
noncomputable def rPop:V→List V→Hp→VK→Prop:=fun x vs H Q=>∃ l xs y,x=.ref l∧vs=[]∧H l=some (.lst xs)∧xs[xs.length - 1]?=some y∧Q y (upd H l (.lst xs.dropLast))
theorem mt_pop:MtM X "list.pop" rPop:=by
 intro pins s σ H x vs v us Q I rx rv h
 obtain ⟨l,xs,y,rfl,rfl,hH,hy,q⟩:=h
 cases rx
 have hus:=rv.zero
 subst hus
 obtain ⟨z,its,n,r,hl,e⟩:=I.lstM hH
 obtain ⟨u,hu,ru⟩:=r.get hy
 have hy':its.toArray[its.toArray.size - 1]?=some u:=by
  show its.toArray[its.length - 1]?=some u
  rw [← Array.getElem?_toList,← hl]
  exact hu
 refine call_meets F.slot_list_pop ⟨_,e,rfl⟩ F.entry_list_pop (F.args_list_pop_1 _) (MeetsSeq.list_pop_last l its.toArray n u hy' (by rw [List.size_toArray];omega)) ⟨e,?_⟩
 refine ⟨y,_,I.lset (its':=its.dropLast) hH e ?_ r.dropLast ?_,ru,q⟩
 ·show its.toArray.eraseIdxIfInBounds (its.toArray.size - 1)=its.dropLast.toArray
  rw [List.size_toArray,List.eraseIdxIfInBounds_toArray,aaA]
 ·rw [List.length_dropLast]
  omega
noncomputable def rPopAt:V→List V→Hp→VK→Prop:=fun x vs H Q=>∃ l xs i k y,x=.ref l∧vs=[.int i]∧H l=some (.lst xs)∧-(2 ^ 63)≤i∧i < 2 ^ 63∧seqIndex? i xs.length=some k∧xs[k]?=some y∧Q y (upd H l (.lst (xs.eraseIdx k)))
theorem mt_popAt:MtM X "list.pop" rPopAt:=by
 intro pins s σ H x vs v us Q I rx rv h
 obtain ⟨l,xs,i,k,y,rfl,rfl,hH,h1,h2,hk,hy,q⟩:=h
 cases rx
 obtain ⟨u,rfl,ru⟩:=rv.one
 obtain ⟨t,rfl⟩:=ru
 obtain ⟨z,its,n,r,hl,e⟩:=I.lstM hH
 obtain ⟨w,hw,rw'⟩:=r.get hy
 refine call_meets F.slot_list_pop ⟨_,e,rfl⟩ F.entry_list_pop (F.args_list_pop_2 _ _)
  (MeetsSeq.list_pop_at l its.toArray n i t k w (fitsIndex_both h1 h2) (by rw [List.size_toArray,← hl];exact hk) (by rw [← Array.getElem?_toList];exact hw) (by rw [List.size_toArray];omega)) ⟨e,?_⟩
 refine ⟨y,_,I.lset (its':=its.eraseIdx k) hH e ?_ (r.eraseIdx k) ?_,rw',q⟩
 ·show its.toArray.eraseIdxIfInBounds k=(its.eraseIdx k).toArray
  rw [List.eraseIdxIfInBounds_toArray]
 ·have:=uG xs k
  omega
noncomputable def rCat:R2:=fun x y H Q=>∃ l b xs zs,x=.ref l∧y=.ref b∧H l=some (.lst xs)∧H b=some (.lst zs)∧xs.length+zs.length≤sizeLine∧∀ p,H p=none→Q (.ref p) (upd H p (.lst (xs++zs)))
theorem op_cat:jM X (binaryOp .Add) rCat:=by
 intro pins s σ H x y v u Q I rx ry h
 obtain ⟨l,b,xs,zs,rfl,rfl,hH,hB,hz,q⟩:=h
 cases rx
 cases ry
 obtain ⟨z,its,n,r,hl,e⟩:=I.lstM hH
 obtain ⟨z2,its2,n2,r2,hl2,e2⟩:=I.lstM hB
 refine PySem.P.add_list e e2 ?_ (by rw [List.size_toArray,List.size_toArray];omega)
 have ea:its.toArray++its2.toArray=(its++its2).toArray:=by simp
 rw [ea]
 exact ⟨.ref _,_,I.lnew (t':=s.toks) (r.append r2) (by rw [List.length_append];omega),rfl,q _ I.fresh⟩
noncomputable def rRep:R2:=fun x y H Q=>∃ l k xs,x=.ref l∧y=.int k∧H l=some (.lst xs)∧-(2 ^ 63)≤k∧k < 2 ^ 63∧xs.length * k.toNat≤sizeLine ∧
 ∀ p,H p=none→Q (.ref p) (upd H p (.lst (List.replicate k.toNat xs).flatten))
theorem aa6 {α:Type} (xs:List α) (k:Nat):(List.replicate k xs).flatten.length=k * xs.length:=by
 induction k with
 | zero=>simp
 | succ k ih=>rw [List.replicate_succ,List.flatten_cons,List.length_append,ih,Nat.succ_mul,Nat.add_comm]
theorem op_rep:jM X (binaryOp .Mult) rRep:=by
  intro pins s σ H x y v u Q I rx ry h
  obtain ⟨l,k,xs,rfl,rfl,hH,h1,h2,hz,q⟩:=h
  cases rx
  obtain ⟨t,rfl⟩:=ry
  obtain ⟨z,its,n,r,hl,e⟩:=I.lstM hH
  have hlen:its.toArray.size * k.toNat≤sizeLine:=by rw [List.size_toArray,← hl];exact hz
  have hcap:¬ its.toArray.size * k.toNat > (2 ^ 63 - 1) / 8:=by
    have:(sizeLine:Nat)≤(2 ^ 63 - 1) / 8:=by decide
    omega
  have hfit:¬ (!Builtin.List.listFitsIndex k)=true:=by
    rw [fitsIndex_both h1 h2]
    exact Bool.false_ne_true
  have hlong:¬ Builtin.List.listTooLong (its.toArray.size * k.toNat)=true:=by
    rw [xH hlen]
    exact Bool.false_ne_true
  have hnew:List.foldl (fun x1 x2=>x1++x2) #[] (List.replicate (if its.toArray.isEmpty=true then 0 else k.toNat) its.toArray)=(List.replicate k.toNat its).flatten.toArray:=by
    have f0:∀ m:Nat,List.foldl (fun x1 x2=>x1++x2) #[] (List.replicate m its.toArray)=(List.replicate m its).flatten.toArray:=fun m=>by
      have:=t4 its m []
      rw [List.nil_append] at this
      exact this
    rw [f0]
    cases its with
    | nil=>simp
    | cons a r'=>rw [if_neg (by simp)]
  refine wpAny_binaryOp_repeat_ref (T:="list") (U:="int") (by decide) ⟨_,e,rfl⟩ (fun s'=>typeIs_int s' k t) noFill_list_mul F.fills_int_mul F.slot_int_rmul repeat_list F.slot_int_index.lookup
    (call_meets F.slot_int_rmul (typeIs_int s k t) F.entry_int_rmul (F.args_int_rmul_2 _ _) (int___rmul___int_list k t l its.toArray n)
      ⟨e,rfl,⟨_,e,rfl⟩,call_meets F.slot_list_mul ⟨_,e,rfl⟩ F.entry_list_mul (F.args_list_mul_2 _ _) (AutoListH.list___mul___list_int_3 l its.toArray n k t hfit hcap hlong) ⟨e,?_⟩⟩)
  rw [hnew]
  exact ⟨.ref _,_,I.lnew (t':=s.toks) (r.rep k.toNat) (by rw [aa6,Nat.mul_comm];exact hz),rfl,q _ I.fresh⟩
end
end L2
namespace L2
open PySem PySem.Spec PyProof.Rows
section
variable {κ:Type} [DecidableEq κ]
noncomputable def bY (kvs:List (κ×V)) (k:κ):Option V:=(kvs.find? fun kv=>decide (kv.1=k)).map (·.2)
noncomputable def d9 (kvs:List (κ×V)) (k:κ) (v:V):List (κ×V) :=
 if (kvs.any fun kv=>decide (kv.1=k))=true then kvs.map (fun kv=>if kv.1=k then (kv.1,v) else kv) else kvs++[(k,v)]
noncomputable def pP (kvs:List (κ×V)) (k:κ):List (κ×V):=kvs.filter fun kv=>decide (kv.1≠k)
theorem wJ {k:κ}:bY ([]:List (κ×V)) k=none:=rfl
theorem cE {p:κ×V} {r:List (κ×V)} {k:κ} (e:p.1=k):bY (p::r) k=some p.2:=by simp [bY,List.find?_cons,e]
theorem bZ {p:κ×V} {r:List (κ×V)} {k:κ} (e:¬ p.1=k):bY (p::r) k=bY r k:=by simp [bY,List.find?_cons,e]
theorem kY (k:κ):∀ kvs:List (κ×V),(kvs.any fun kv=>decide (kv.1=k))=(bY kvs k).isSome
 | []=>rfl
 | p::r=>by
  rw [List.any_cons]
  by_cases e:p.1=k
  ·simp only [cE e,decide_eq_true e,Bool.true_or,Option.isSome_some]
  ·rw [bZ e,decide_eq_false e,Bool.false_or];exact kY k r
theorem yE (k j:κ) (y:V):∀ kvs:List (κ×V),bY (kvs.map fun kv=>if kv.1=k then (kv.1,y) else kv) j=(bY kvs j).map fun x=>if j=k then y else x
 | []=>rfl
 | p::r=>by
  have ih:=yE k j y r
  rw [List.map_cons]
  by_cases h:p.1=k
  ·rw [if_pos h]
   by_cases e:p.1=j
   ·rw [cE (p:=(p.1,y)) e,cE e,Option.map_some,if_pos (e.symm.trans h)]
   ·rw [bZ (p:=(p.1,y)) e,bZ e,ih]
  ·rw [if_neg h]
   by_cases e:p.1=j
   ·rw [cE (p:=p) e,cE e,Option.map_some,if_neg (fun z=>h (e.trans z))]
   ·rw [bZ (p:=p) e,bZ e,ih]
theorem tY (k j:κ) (y:V):∀ kvs:List (κ×V),bY kvs k=none→bY (kvs++[(k,y)]) j=if j=k then some y else bY kvs j
 | [],_=>by
  by_cases e:k=j
  ·rw [if_pos e.symm];exact cE (p:=(k,y)) e
  ·rw [if_neg (fun z=>e z.symm)];exact bZ (p:=(k,y)) e
 | p::r,hn=>by
  rw [List.cons_append]
  have hk:¬ p.1=k:=fun z=>by rw [cE z] at hn;cases hn
  rw [bZ hk] at hn
  have ih:=tY k j y r hn
  by_cases e:p.1=j
  ·rw [cE e,cE e,if_neg (fun z=>hk (e.trans z))]
  ·rw [bZ e,bZ e,ih]
theorem qQ (kvs:List (κ×V)) (k j:κ) (y:V):bY (d9 kvs k y) j=if j=k then some y else bY kvs j:=by
 unfold d9
 by_cases a:(kvs.any fun kv=>decide (kv.1=k))=true
 ·rw [if_pos a,yE]
  rw [kY] at a
  by_cases e:j=k
  ·obtain ⟨x,hx⟩:=Option.isSome_iff_exists.mp a
   rw [if_pos e,e,hx,Option.map_some,if_pos rfl]
  ·rw [if_neg e]
   cases bY kvs j with
   | none=>rfl
   | some x=>rw [Option.map_some,if_neg e]
 ·rw [if_neg a]
  refine tY k j y kvs ?_
  rw [kY] at a
  cases q:bY kvs k with
  | none=>rfl
  | some x=>rw [q] at a;exact (a rfl).elim
theorem lG (kvs:List (κ×V)) (k:κ) (v:V):(d9 kvs k v).length≤kvs.length+1:=by
 unfold d9
 split
 ·rw [List.length_map];omega
 ·rw [List.length_append,List.length_cons,List.length_nil];omega
theorem rW {kvs:List (κ×V)} {k:κ} (v:V) (h:bY kvs k=none):d9 kvs k v=kvs++[(k,v)]:=by
 unfold d9
 rw [kY,h]
 exact if_neg (by decide)
theorem j9.isSome_eq {o:Option V} {u:Option Value} (r:j9 o u):o.isSome=u.isSome:=by
 cases o with
 | none=>cases u with
  | none=>rfl
  | some _=>exact (show False from r).elim
 | some _=>cases u with
  | none=>exact (show False from r).elim
  | some _=>rfl
theorem j9.getD {o:Option V} {u:Option Value} {d:V} {d':Value} (r:j9 o u) (rd:bI d d'):bI (o.getD d) (u.getD d'):=by
 cases o with
 | none=>cases u with
  | none=>exact rd
  | some _=>exact (show False from r).elim
 | some _=>cases u with
  | none=>exact (show False from r).elim
  | some _=>exact r
theorem KV.val {kvs:List (κ×V)} {vs:List (κ×Value)} (r:KV kvs vs) (k:κ):j9 (bY kvs k) (valueAt vs k):=by
 unfold KV at r
 induction r with
 | nil=>exact True.intro
 | @cons p q ps qs h t ih =>
  obtain ⟨h1,h2⟩:=h
  by_cases e:p.1=k
  ·have e':q.1=k:=h1.symm.trans e
   have b:valueAt (q::qs) k=some q.2:=by simp [valueAt,List.find?_cons,e']
   rw [cE e,b];exact h2
  ·have e':¬ q.1=k:=fun z=>e (h1.trans z)
   have b:valueAt (q::qs) k=valueAt qs k:=by simp [valueAt,List.find?_cons,e']
   rw [bZ e,b];exact ih
theorem KV.any {kvs:List (κ×V)} {vs:List (κ×Value)} (r:KV kvs vs) (k:κ):(kvs.any fun kv=>decide (kv.1=k))=vs.any fun kv=>decide (kv.1=k):=by
 unfold KV at r
 induction r with
 | nil=>rfl
 | cons h t ih=>rw [List.any_cons,List.any_cons,ih,h.1]
theorem KV.repl {kvs:List (κ×V)} {vs:List (κ×Value)} (r:KV kvs vs) (k:κ) {y:V} {u:Value} (ry:bI y u) :
    KV (kvs.map fun kv=>if kv.1=k then (kv.1,y) else kv) (vs.map fun kv=>if kv.1=k then (kv.1,u) else kv):=by
  unfold KV at r ⊢
  induction r with
  | nil=>exact .nil
  | @cons p q ps qs h t ih =>
    rw [List.map_cons,List.map_cons]
    refine .cons ?_ ih
    obtain ⟨h1,h2⟩:=h
    by_cases e:p.1=k
    · rw [if_pos e,if_pos (h1.symm.trans e)];exact ⟨h1,ry⟩
    · rw [if_neg e,if_neg (fun z=>e (h1.trans z))];exact ⟨h1,h2⟩
theorem KV.put {kvs:List (κ×V)} {vs:List (κ×Value)} (r:KV kvs vs) (k:κ) {y:V} {u:Value} (ry:bI y u):KV (d9 kvs k y) (stored vs k u):=by
 unfold d9 stored
 rw [r.any k]
 by_cases e:(vs.any fun kv=>decide (kv.1=k))=true
 ·rw [if_pos e,if_pos e];exact r.repl k ry
 ·rw [if_neg e,if_neg e];exact Paired.snoc r ⟨rfl,ry⟩
theorem KV.drop {kvs:List (κ×V)} {vs:List (κ×Value)} (r:KV kvs vs) (k:κ):KV (pP kvs k) (without vs k):=by
 unfold KV at r ⊢
 unfold pP without
 induction r with
 | nil=>exact .nil
 | @cons p q ps qs h t ih =>
  obtain ⟨h1,h2⟩:=h
  rw [List.filter_cons,List.filter_cons]
  by_cases e:p.1=k
  ·have a:¬ decide (p.1≠k)=true:=by simp [e]
   have b:¬ decide (q.1≠k)=true:=by simp [h1.symm.trans e]
   rw [if_neg a,if_neg b];exact ih
  ·have e':¬ q.1=k:=fun z=>e (h1.trans z)
   have a:decide (p.1≠k)=true:=by simp [e]
   have b:decide (q.1≠k)=true:=by simp [e']
   rw [if_pos a,if_pos b];exact .cons ⟨h1,h2⟩ ih
theorem KV.length {kvs:List (κ×V)} {vs:List (κ×Value)} (r:KV kvs vs):kvs.length=vs.length:=Paired.length r
theorem dropK_le (kvs:List (κ×V)) (k:κ):(pP kvs k).length≤kvs.length:=List.length_filter_le _ _
end
theorem pM {P:Program} {w:World} {k:Key} {u:Value} (r:bI (kV k) u):(bS P w).is k u=true:=by
 cases k with
 | inl i=>obtain ⟨t,e⟩:=(show ∃ t,u=Value.int i t from r);subst e;exact wX P w i t
 | inr x=>obtain ⟨t,e⟩:=(show ∃ t,u=Value.str x t from r);subst e;exact xI P w x t
 | no=>cases (show u=Value.none from r);rfl
theorem uH {P:Program} {w:World}:∀ {ks:List Key} {us:List Value},Vals (ks.map kV) us→ItemsAre (bS P w) ks us
 | [],_,r=>by rw [List.map_nil] at r;cases r;exact .nil
 | k::ks,_,r=>by
  rw [List.map_cons] at r
  cases r with
  | cons h t=>exact .cons (pM h) (uH t)
noncomputable abbrev KT (H:Hp):List (List Key×V)→List (List Key×Addr×Value)→Prop:=Paired fun p q=>p.1=q.1∧H q.2.1=some (.tup (p.1.map kV))∧bI p.2 q.2.2
theorem KT.val {H:Hp} {kvs:List (List Key×V)} {xs:List (List Key×Addr×Value)} (r:KT H kvs xs) (k:List Key):j9 (bY kvs k) ((atKey xs k).map (·.2)):=by
 induction r with
 | nil=>exact True.intro
 | @cons p q ps qs h t ih =>
  obtain ⟨h1,_,h2⟩:=h
  by_cases e:p.1=k
  ·have e':q.1=k:=h1.symm.trans e
   have b:atKey (q::qs) k=some q.2:=by simp [atKey,List.find?_cons,e']
   rw [cE e,b];exact h2
  ·have e':¬ q.1=k:=fun z=>e (h1.trans z)
   have b:atKey (q::qs) k=atKey qs k:=by simp [atKey,List.find?_cons,e']
   rw [bZ e,b];exact ih
theorem KT.repl {H:Hp} {kvs:List (List Key×V)} {xs:List (List Key×Addr×Value)} (r:KT H kvs xs) (k:List Key) {y:V} {u:Value} (ry:bI y u) :
    KT H (kvs.map fun kv=>if kv.1=k then (kv.1,y) else kv) (xs.map (putAt k u)):=by
  induction r with
  | nil=>exact .nil
  | @cons p q ps qs h t ih =>
    rw [List.map_cons,List.map_cons]
    refine .cons ?_ ih
    obtain ⟨h1,h2,h3⟩:=h
    unfold putAt
    by_cases e:p.1=k
    · rw [if_pos e,if_pos (h1.symm.trans e)];exact ⟨h1,h2,ry⟩
    · rw [if_neg e,if_neg (fun z=>e (h1.trans z))];exact ⟨h1,h2,h3⟩
theorem KT.put {H:Hp} {kvs:List (List Key×V)} {xs:List (List Key×Addr×Value)} (r:KT H kvs xs) (k:List Key) {b:Addr} {y:V} {u:Value} (hb:H b=some (.tup (k.map kV))) (ry:bI y u) :
    KT H (d9 kvs k y) (storedH xs k b u):=by
  have e:(kvs.any fun kv=>decide (kv.1=k))=(atKey xs k).isSome:=by
    rw [kY,(r.val k).isSome_eq,Option.isSome_map]
  unfold d9 storedH
  rw [e]
  by_cases q:(atKey xs k).isSome=true
  · rw [if_pos q,if_pos q];exact r.repl k ry
  · rw [if_neg q,if_neg q];exact Paired.snoc r ⟨rfl,hb,ry⟩
theorem KT.keeps {H H':Hp} {kvs:List (List Key×V)} {xs:List (List Key×Addr×Value)} (r:KT H kvs xs) (ht:∀ b ys,H b=some (.tup ys)→H' b=some (.tup ys)):KT H' kvs xs :=
 Paired.mapP r fun _ _ z=>⟨z.1,ht _ _ z.2.1,z.2.2⟩
section
variable {P:Program} {w:World} {H:Hp} {h:Heap} {a:Addr}
theorem rd_of {u:HO} (ok:HOk P w H h) (e:Rd H a u):cZ P w H h a u:=e.ok ok
theorem sU {kvs:List (Key×V)} (ok:HOk P w H h) (e:Rd H a (.dK kvs)):kvs.length≤sizeLine∧(a == sysModules)=false∧∃ vs,KV kvs vs∧h.DictOf (bS P w) a vs :=
 show cZ P w H h a (.dK kvs) from rd_of ok e
theorem nV {kvs:List (Key×V)} (ok:HOk P w H h) (e:H a=some (.dK kvs)):kvs.length≤sizeLine∧(a == sysModules)=false∧∃ vs,KV kvs vs∧h.DictOf (bS P w) a vs:=sU ok (.inl e)
theorem pD {ks:List Key} (ok:HOk P w H h) (e:H a=some (.tup (ks.map kV))):(tupleKind (bS P w)).is h ks a:=by
 obtain ⟨_,its,r,o,h1,h2,n,h3⟩:=(show cZ P w H h a (.tup (ks.map kV)) from ok a _ e)
 exact ⟨o,its.toArray,n,h1,h2,h3,by simpa using uH r⟩
theorem rK {kvs:List (List Key×V)} (ok:HOk P w H h) (e:Rd H a (.dT kvs)):kvs.length≤sizeLine∧(a == sysModules)=false ∧
    ∃ xs,KT H kvs xs∧h.DictOfH (tupleKind (bS P w)) a xs:=by
  obtain ⟨z,y,xs,r,o,es,ep,h1,h2,h3,h4,h5⟩:=(show cZ P w H h a (.dT kvs) from rd_of ok e)
  refine ⟨z,y,xs,r,o,es,ep,h1,h2,h3,h4,fun x hx=>?_,h5⟩
  have all:∀ {l:List (List Key×V)} {m:List (List Key×Addr×Value)},KT H l m→∀ x∈m,(tupleKind (bS P w)).is h x.1 x.2.1:=by
    intro l m q
    induction q with
    | nil=>intro x hx;exact nomatch hx
    | @cons p q ps qs hq t ih =>
      intro x hx
      rcases List.mem_cons.mp hx with e | hx
      · subst e
        exact pD ok (by rw [← hq.1];exact hq.2.1)
      · exact ih x hx
  exact all r x hx
theorem dt_of {kvs:List (List Key×V)} (ok:HOk P w H h) (e:H a=some (.dT kvs)):kvs.length≤sizeLine∧(a == sysModules)=false ∧
    ∃ xs,KT H kvs xs∧h.DictOfH (tupleKind (bS P w)) a xs:=rK ok (.inl e)
end
noncomputable def DGet (H:Hp) (a:Addr) (y:V) (r:Option V):Prop :=
 (∃ kvs k,Rd H a (.dK kvs)∧y=kV k∧r=bY kvs k)∨∃ kvs k b,Rd H a (.dT kvs)∧y=.ref b∧H b=some (.tup (k.map kV))∧r=bY kvs k
noncomputable def DPut (H:Hp) (a:Addr) (y v:V) (H':Hp):Prop :=
 (∃ kvs k,H a=some (.dK kvs)∧y=kV k∧kvs.length < sizeLine∧H'=upd H a (.dK (d9 kvs k v))) ∨
 ∃ kvs k b,H a=some (.dT kvs)∧y=.ref b∧H b=some (.tup (k.map kV))∧kvs.length < sizeLine∧H'=upd H a (.dT (d9 kvs k v))
theorem DGet.k {H:Hp} {a:Addr} {kvs:List (Key×V)} {k:Key} (e:H a=some (.dK kvs)):DGet H a (kV k) (bY kvs k):=.inl ⟨kvs,k,.inl e,rfl,rfl⟩
theorem DPut.k {H:Hp} {a:Addr} {kvs:List (Key×V)} {k:Key} {v:V} (e:H a=some (.dK kvs)) (hl:kvs.length < sizeLine):DPut H a (kV k) v (upd H a (.dK (d9 kvs k v))):=.inl ⟨kvs,k,e,rfl,hl,rfl⟩
section
variable {X:Cx} {pins:List (Addr×Obj)} {σ:St} {H:Hp} {s:Shared} {a:Addr} {y v:V} {u r:Value} {o:Option V} {A:Around} {E:Value→Shared→Prop}
theorem Inv.big (I:Inv X pins σ H s):sysModules < s.heap.objs.size:=by
 have h:mainGlobals < s.heap.objs.size:=(I.mod.glob.keeps I.bk).lt
 exact Nat.lt_trans (by decide) h
theorem d_getItem {Q:Value→Shared→Prop} (hu:A.units+1 < cLine) (I:Inv X pins σ H s) (g:DGet H a y (some v)) (ry:bI y u) (h:∀ w' s',Inv X pins σ H s'→bI v w'→Q w' s') :
    wpAny (model X.prog X.w) A (getItem (.ref a) u) Q E s:=by
  rcases g with ⟨kvs,k,e,ey,l⟩ | ⟨kvs,k,b,e,ey,eb,l⟩
  · subst ey
    obtain ⟨z,hd,vs,rel,dd⟩:=sU I.hok e
    obtain ⟨w',hw,rw'⟩:=j9.some_of (v:=v) (o:=valueAt vs k) (by rw [l];exact rel.val k)
    exact wpAny_getItem_of (pM ry) dd.mapOf hw (h w' _ (I.tok _) rw')
  · subst ey
    cases (show u=Value.ref b from ry)
    obtain ⟨z,hd,xs,rel,dd⟩:=rK I.hok e
    obtain ⟨w',hw,rw'⟩:=j9.some_of (v:=v) (o:=(atKey xs k).map (·.2)) (by rw [l];exact rel.val k)
    obtain ⟨p,hp,hp2⟩:=Option.map_eq_some_iff.mp hw
    refine wpAny_getItem_heap (tupleKind_room_in1 hu) (pD I.hok eb) dd hp ?_
    rw [hp2]
    exact h w' _ (I.tok _) rw'
theorem d_in {Q:Value→Shared→Prop} (hu:A.units+1 < cLine) (I:Inv X pins σ H s) (g:DGet H a y o) (ry:bI y u) (h:∀ s',Inv X pins σ H s'→Q (.bool o.isSome) s') :
    wpAny (model X.prog X.w) A (compareOp .In u (.ref a)) Q E s:=by
  rcases g with ⟨kvs,k,e,ey,l⟩ | ⟨kvs,k,b,e,ey,eb,l⟩
  · subst ey
    obtain ⟨z,hd,vs,rel,dd⟩:=sU I.hok e
    refine wpAny_in_of (pM ry) hd dd.mapOf ?_
    rw [← (rel.val k).isSome_eq,← l]
    exact h _ (I.tok _)
  · subst ey
    cases (show u=Value.ref b from ry)
    obtain ⟨z,hd,xs,rel,dd⟩:=rK I.hok e
    refine wpAny_in_heap (tupleKind_room_in1 hu) (pD I.hok eb) hd dd ?_
    have q:=(rel.val k).isSome_eq
    rw [Option.isSome_map] at q
    rw [← q,← l]
    exact h _ (I.tok _)
theorem nQ {h':Heap} {t':Nat} {ob:HO} (I:Inv X pins σ H s) (mu:Mut (H a)) (hs:Heap.SameBut a s.heap h') (he:∃ q,h'.get? a=some q) (new:cZ X.prog X.w (upd H a ob) h' a ob) :
    Inv X pins σ (upd H a ob) {s with heap:=h',toks:=t'} :=
  I.write (x:=a) (e:=a) mu (.inl rfl) (fun b q hb z=>(hs.2 b hb).trans z) he new
theorem rQ {P:Program} {w:World} {H':Hp} {h':Heap} {kvs:List (Key×V)} {vs:List (Key×Value)} (z:kvs.length≤sizeLine) (hd:(a == sysModules)=false) (rel:KV kvs vs) (dd:h'.DictOf (bS P w) a vs) :
    cZ P w H' h' a (.dK kvs):=⟨z,hd,vs,rel,dd⟩
theorem d_setItem {H':Hp} {Q:Unit→Shared→Prop} (hu:A.units+1 < cLine) (I:Inv X pins σ H s) (g:DPut H a y v H') (ry:bI y u) (rv:bI v r) (h:∀ s',Inv X pins σ H' s'→Q () s') :
    wpAny (model X.prog X.w) A (setItem (.ref a) u r) Q E s:=by
  rcases g with ⟨kvs,k,e,ey,l,eH⟩ | ⟨kvs,k,b,e,ey,eb,l,eH⟩
  · subst ey eH
    obtain ⟨z,hd,vs,rel,dd⟩:=nV I.hok e
    have hz:vs.length≤sizeLine:=by rw [← rel.length];exact z
    have hl:(d9 kvs k v).length≤sizeLine:=by have:=lG kvs k v;omega
    refine wpAny_setItem_pairs (hsz:=hz) (pM ry) dd fun h' dd' hs=>h _ ?_
    have he:∃ q,h'.get? a=some q:=let ⟨q,_,_,hq,_⟩:=dd';⟨q,hq⟩
    exact nQ I (by rw [e];exact True.intro) hs he (rQ hl hd (rel.put k rv) dd')
  · subst ey eH
    cases (show u=Value.ref b from ry)
    obtain ⟨z,hd,xs,rel,dd⟩:=dt_of I.hok e
    have hz:xs.length≤sizeLine:=by rw [← Paired.length rel];exact z
    have hl:(d9 kvs k v).length≤sizeLine:=by have:=lG kvs k v;omega
    refine wpAny_setItem_heap (hsz:=hz) (tupleKind_room_in1 hu) (pD I.hok eb) dd fun h' dd' hs=>h _ ?_
    obtain ⟨q,es,ep,hq,h2,h3,h4,_,h5⟩:=dd'
    refine nQ I (by rw [e];exact True.intro) hs ⟨q,hq⟩ ⟨hl,hd,_,(rel.put k eb rv).keeps fun c ys ec=>?_,q,es,ep,hq,h2,h3,h4,h5⟩
    rw [aI (dE ec e (fun z=>nomatch z))]
    exact ec
end
section
variable {X:Cx} {pins:List (Addr×Obj)} {σ:St} {H:Hp} {s:Shared} {a:Addr} {kvs:List (Key×V)} {k:Key} {u:Value} {A:Around} {E:Value→Shared→Prop}
theorem d_pop {v:V} {more:List Value} {Q:Value→Shared→Prop} (I:Inv X pins σ H s) (e:H a=some (.dK kvs)) (ry:bI (kV k) u) (l:bY kvs k=some v) (hm:more=[]∨∃ x,more=[x])
    (h:∀ w' s',Inv X pins σ (upd H a (.dK (pP kvs k))) s'→bI v w'→Q w' s'):wpAny (model X.prog X.w) A (call (.builtin "dict.pop") (.ref a::u::more)) Q E s:=by
  obtain ⟨z,hd,vs,rel,dd⟩:=nV I.hok e
  obtain ⟨w',hw,rw'⟩:=j9.some_of (v:=v) (o:=valueAt vs k) (by rw [← l];exact rel.val k)
  have hp:(keyPart u).isSome=true:=by
    cases k with
    | inl i=>obtain ⟨t,q⟩:=(show ∃ t,u=Value.int i t from ry);subst q;rfl
    | inr x=>obtain ⟨t,q⟩:=(show ∃ t,u=Value.str x t from ry);subst q;rfl
    | no=>cases (show u=Value.none from ry);rfl
  have ha:argsOk "dict.pop" ⟨.ref a::u::more,[]⟩:=by
    rcases hm with q | ⟨x,q⟩
    · subst q;exact PySem.F.args_dict_pop_2 _ _
    · subst q;exact PySem.F.args_dict_pop_3 _ _ _
  refine call_meetsIn PySem.F.slot_dict_pop dd.typeIs PySem.F.entry_dict_pop ha (meets_dict_pop_there (bS X.prog X.w) a (pM ry) more hm hp)
    ⟨vs,w',dd,by rw [← rel.length];exact z,hw,fun h' dd' hs=>h w' _ ?_ rw'⟩
  have he:∃ q,h'.get? a=some q:=let ⟨q,_,_,hq,_⟩:=dd';⟨q,hq⟩
  exact nQ I (by rw [e];exact True.intro) hs he (rQ (Nat.le_trans (dropK_le kvs k) z) hd (rel.drop k) dd')
end
noncomputable def NoSl (i:Expr):Prop:=∀ ov iv,subscripted i false ov iv=operate [ov,iv] (getItem ov iv)
theorem aa0 {prog:Program} {w:World} {A:Around} {E:Value→Shared→Prop} {s:Shared} {env:Env} {value slice:Expr} {pos:Pos} {T id:String} {Q:Value→Shared→Prop}
    (hl:typeLookup (.type T) "__getitem__"=pure (some (.builtin id))) (hs:NoSl slice)
    (h:wpAny (model prog w) A (eval value env) (fun o s₁=>wpAny (model prog w) A (eval slice env) (fun i s₂=>s₂.TypeIs o T∧wpAny (model prog w) A (getItem o i) Q E s₂) E s₁) E s) :
    wpAny (model prog w) A (eval (.Subscript value slice pos) env) Q E s:=by
  refine Subscript_ (wpAny_mono h (fun o s₁ h₁=>wpAny_mono h₁ (fun i s₂ h₂=>?_) fun _ _ x=>x) fun _ _ x=>x)
  obtain ⟨hT,h₂⟩:=h₂
  unfold subscriptTail
  refine wpAny_bind ?_
  rw [getitemInPython_of_ne hT.not_modules]
  refine wpAny_bind (wpAny_specialOf hT hl ?_)
  have fin:wpAny (model prog w) A (subscripted slice false o i) (fun r s₃=>wpAny (model prog w) A (letTemporaryGo value o r >>= fun _=>pure r) Q E s₃) E s₂:=by
    rw [hs o i]
    exact wpAny_operating (wpAny_mono h₂ (fun r s₃ h₃=>wpAny_bind (wpAny_letTemporaryGo (wpAny_pure h₃))) fun _ _ x=>x)
  first
    | exact wpAny_pure (wpAny_bind fin)
    | exact wpAny_bind (wpAny_pure (wpAny_bind fin))
    | exact wpAny_bind fin
theorem pI {X:Cx} {pins:List (Addr×Obj)} {σ:St} {H:Hp} {s:Shared} {a:Addr} {y:V} {o:Option V} (I:Inv X pins σ H s) (g:DGet H a y o):s.TypeIs (.ref a) "dict":=by
 rcases g with ⟨kvs,k,e,_,_⟩ | ⟨kvs,k,b,e,_,_,_⟩
 ·obtain ⟨_,_,vs,_,dd⟩:=sU I.hok e
  exact dd.typeIs
 ·obtain ⟨_,_,xs,_,dd⟩:=rK I.hok e
  exact dd.typeIs
section
variable {X:Cx} {o i e value:Expr} {pos pos' tpos:Pos} {td ty tv:TE}
end
theorem dk_empty {P:Program} {w:World} {H:Hp} (h:Heap) (hb:sysModules < h.objs.size):cZ P w H (h.push {cls:=.type "dict",data:=.dict #[]}) h.objs.size (.dK []) :=
 ⟨Nat.zero_le _,beq_eq_false_iff_ne.mpr (Ne.symm (Nat.ne_of_lt hb)),[],.nil,Heap.DictOf.new h⟩
noncomputable def tDNewK:TE:=fun _ H Q=>∀ p,H p=none→Q (.ref p) (upd H p (.dK []))
section
variable {X:Cx} {pos:Pos}
theorem nE:PE X (.Dict [] [] pos) tDNewK:=fun pins s σ H Q I h =>
 wpAny_Dict_empty ⟨.ref s.heap.objs.size,_,I.laid (a:=s.heap.objs.size) (o:=.dK []) (t':=s.toks) (fun _ _ q=>Heap.get?_push_of_some _ q) (Nat.le_refl _) (dk_empty s.heap I.big),rfl,h _ (I.hok.fresh (Nat.le_refl _))⟩
end
noncomputable def tPairs:List (TE×TE)→St→Hp→(List (V×V)→Hp→Prop)→Prop
 | [],_,H,Q=>Q [] H
 | (tk,tv)::r,σ,H,Q=>tk σ H fun x H1=>tv σ H1 fun y H2=>tPairs r σ H2 fun ps H3=>Q ((x,y)::ps) H3
noncomputable abbrev VV:List (V×V)→List (Value×Value)→Prop:=Paired fun p q=>bI p.1 q.1∧bI p.2 q.2
noncomputable def PPs (X:Cx) (pos:Pos) (keys:List (Option Expr)) (values:List Expr) (trs:List (TE×TE)):Prop :=
 ∀(pins:List (Addr×Obj)) (s:Shared) (σ:St) (H:Hp) (Q:List (V×V)→Hp→Prop),Inv X pins σ H s→tPairs trs σ H Q →
  wpAny (model X.prog X.w) X.A (evalPairs (pairTrees keys values X.env pos)) (fun vs s'=>∃ ps H',Inv X pins σ H' s'∧VV ps vs∧Q ps H') X.xe s
structure M1 (X:Cx) (o:Expr) (m:Str) (apos:Pos) (e:Expr) (cpos:Pos):Prop where
 base:attributeBase o m X.env (eval o X.env)=eval o X.env
 few:((backTo cpos (starEach [e] X.env)).all (fun x=>!x.1) && (backToKw cpos (keywordEach [] X.env)).all (fun x=>x.1.isSome)
  && decide (([e]:List Expr).length+([]:List Keyword).length+(if ([]:List Keyword).isEmpty then 0 else 1) < 30))=true
 line:(apos.endLine == cpos.line)=true
 trees:backTo cpos (starEach [e] X.env)=[(false,eval e X.env)]
structure M2 (X:Cx) (o:Expr) (m:Str) (apos:Pos) (e f:Expr) (cpos:Pos):Prop where
 base:attributeBase o m X.env (eval o X.env)=eval o X.env
 few:((backTo cpos (starEach [e,f] X.env)).all (fun x=>!x.1) && (backToKw cpos (keywordEach [] X.env)).all (fun x=>x.1.isSome)
  && decide (([e,f]:List Expr).length+([]:List Keyword).length+(if ([]:List Keyword).isEmpty then 0 else 1) < 30))=true
 line:(apos.endLine == cpos.line)=true
 trees:backTo cpos (starEach [e,f] X.env)=[(false,eval e X.env),(false,eval f X.env)]
noncomputable def IsD (H:Hp) (a:Addr):Prop:=(∃ kvs,Rd H a (.dK kvs))∨∃ kvs,Rd H a (.dT kvs)
theorem pC {X:Cx} {pins:List (Addr×Obj)} {σ:St} {H:Hp} {s:Shared} {a:Addr} (I:Inv X pins σ H s) (d:IsD H a) :
    s.TypeIs (.ref a) "dict"∧(∀ b,Value.ref a=.ref b→∃ ob,s.heap.get? b=some ob∧ob.dict=none)∧(a == sysModules)=false:=by
  rcases d with ⟨kvs,e⟩ | ⟨kvs,e⟩
  · obtain ⟨_,hd,vs,_,dd⟩:=sU I.hok e
    refine ⟨dd.typeIs,fun b q=>?_,hd⟩
    cases q
    obtain ⟨ob,_,_,h1,h2,_⟩:=dd
    exact ⟨ob,h1,h2.2.1⟩
  · obtain ⟨_,hd,xs,_,dd⟩:=rK I.hok e
    refine ⟨dd.typeIs,fun b q=>?_,hd⟩
    cases q
    obtain ⟨ob,_,_,h1,h2,_⟩:=dd
    exact ⟨ob,h1,h2.2.1⟩
section
variable {X:Cx} {pins:List (Addr×Obj)} {σ:St} {H:Hp} {s:Shared} {a:Addr} {y d:V} {u r:Value} {o:Option V} {A:Around} {E:Value→Shared→Prop}
theorem d_get1 {Q:Value→Shared→Prop} (hu:A.units+1 < cLine) (I:Inv X pins σ H s) (g:DGet H a y o) (ry:bI y u) (h:∀ w' s',Inv X pins σ H s'→bI (o.getD .non) w'→Q w' s') :
    wpAny (model X.prog X.w) A (call (.builtin "dict.get") [.ref a,u]) Q E s:=by
  rcases g with ⟨kvs,k,e,ey,l⟩ | ⟨kvs,k,b,e,ey,eb,l⟩
  · subst ey
    obtain ⟨z,hd,vs,rel,dd⟩:=sU I.hok e
    refine call_meetsIn PySem.F.slot_dict_get dd.typeIs PySem.F.entry_dict_get (PySem.F.args_dict_get_2 _ _) (meets_dict_get (bS X.prog X.w) a (pM ry) hd) ⟨_,dd.mapOf,h _ _ (I.tok _) ?_⟩
    rw [l]
    exact (rel.val k).getD rfl
  · subst ey
    cases (show u=Value.ref b from ry)
    obtain ⟨z,hd,xs,rel,dd⟩:=rK I.hok e
    refine call_meetsIn PySem.F.slot_dict_get dd.typeIs PySem.F.entry_dict_get (PySem.F.args_dict_get_2 _ _) (meetsH_dict_get (tupleKind (bS X.prog X.w)) a b hd) ⟨tupleKind_room_in1 hu,k,xs,pD I.hok eb,dd,h _ _ (I.tok _) ?_⟩
    rw [l]
    exact (rel.val k).getD rfl
theorem d_get2 {Q:Value→Shared→Prop} (hu:A.units+1 < cLine) (I:Inv X pins σ H s) (g:DGet H a y o) (ry:bI y u) (rd:bI d r) (h:∀ w' s',Inv X pins σ H s'→bI (o.getD d) w'→Q w' s') :
    wpAny (model X.prog X.w) A (call (.builtin "dict.get") [.ref a,u,r]) Q E s:=by
  rcases g with ⟨kvs,k,e,ey,l⟩ | ⟨kvs,k,b,e,ey,eb,l⟩
  · subst ey
    obtain ⟨z,hd,vs,rel,dd⟩:=sU I.hok e
    refine call_meetsIn PySem.F.slot_dict_get dd.typeIs PySem.F.entry_dict_get (PySem.F.args_dict_get_3 _ _ _) (meets_dict_get_default (bS X.prog X.w) a (pM ry) hd r) ⟨_,dd.mapOf,h _ _ (I.tok _) ?_⟩
    rw [l]
    exact (rel.val k).getD rd
  · subst ey
    cases (show u=Value.ref b from ry)
    obtain ⟨z,hd,xs,rel,dd⟩:=rK I.hok e
    refine call_meetsIn PySem.F.slot_dict_get dd.typeIs PySem.F.entry_dict_get (PySem.F.args_dict_get_3 _ _ _) (meetsH_dict_get_default (tupleKind (bS X.prog X.w)) a b hd r) ⟨tupleKind_room_in1 hu,k,xs,pD I.hok eb,dd,h _ _ (I.tok _) ?_⟩
    rw [l]
    exact (rel.val k).getD rd
end
section
variable {X:Cx} {o e f:Expr} {apos cpos:Pos} {td ty tx:TE}
end
section
variable {X:Cx} {pins:List (Addr×Obj)} {σ:St} {H:Hp} {s:Shared} {a:Addr} {kvs:List (Key×V)} {A:Around} {E:Value→Shared→Prop}
end
section
variable {X:Cx} {pins:List (Addr×Obj)} {σ:St} {H:Hp} {s:Shared} {a:Addr} {y:V} {u:Value} {A:Around} {E:Value→Shared→Prop}
end
end L2
namespace Att
open PySem PySem.W PySem.Calls PyProof.Rows
theorem pW {P:Params} {h:Heap}:∀(ns:List Int) (vs:List Value),WellAll P h vs (ns.map WData.int)→IntsAre vs ns:=by
 intro ns
 induction ns with
 | nil =>
  intro vs w
  rw [List.map_nil] at w
  cases w
  exact .nil
 | cons n ns ih =>
  intro vs w
  rw [List.map_cons] at w
  cases w with
  | cons a b =>
   cases a
   exact .cons _ _ (ih _ b)
theorem script_of {l:OpenLaw} {n:Nat} (hn:l.most=some n) {P:Params} {h:Heap} {args:List WData} {vals:List Value}
    (hpre:l.row.toRowW.claim.pre args=true) (hwl:WellAll P h vals args) :
    ∃ a vs ns,vals=[Value.ref a]∧args=[WData.list (ns.map WData.int)]∧h.get? a=some {cls:=.type "list",data:=.seq vs.toArray}∧IntsAre vs ns∧ns.length≤n:=by
  have hsh:WShape.hasAll [] args [.list .int]=true:=(pre_splitW hpre).1
  have hc:l.pre.holds [] {args:=args}=true:=(pre_splitW hpre).2
  obtain ⟨d,r,rfl,h1,h2⟩:=hasAllW_cons hsh
  obtain rfl:=hasAllW_nil h2
  obtain ⟨xs,rfl,h3⟩:=hasW_list h1
  obtain ⟨ns,rfl⟩:=items_int h3
  have hlen:ns.length≤n:=by
    unfold OpenLaw.pre at hc
    have h4:(WTm.not (.lt (.lit (.int (n:Int))) (.len (.arg 0)))).holds [] {args:=[.list (ns.map .int)]}=true:=by
      have h4:=(holds_andW hc).1
      rw [hn] at h4
      exact h4
    have h5:=condW_of h4 (w_not (w_lt w_lit (w_len_list (w_arg rfl))))
    rw [List.length_map] at h5
    refine Nat.le_of_not_lt fun q=>?_
    have q':(n:Int) < ((ns.length:Nat):Int):=by omega
    first
      | (rw [decide_eq_true q'] at h5;exact absurd h5 (by decide))
      | (simp at h5;omega)
  cases hwl with
  | cons w1 w2 =>
    cases w2
    cases w1 with
    | list ho hall=>exact ⟨_,_,ns,rfl,rfl,ho,pW ns _ hall,hlen⟩
theorem abR (l:OpenLaw) (args:List WData):l.row.toRowW.claim.post args (.bool true) args=true :=
 postW_of (r:=l.row.toRowW) (X:=(true == true))
  (show WShape.has [] (.bool true) .bool=true by first | rfl | decide | simp [WShape.has,WShape.arms,WShape.armsAll])
  (show (WTm.eq .res (.lit (.bool true))).value [] {args:=args,res:=some (.bool true),after:=args}=some (.bool (true == true)) from w_eq_bool (w_res rfl) w_lit) rfl
theorem wM {l:OpenLaw} {n:Nat} {q:Program} {loose:List Str} {XP:(Str→Option Value)→Heap→Prop} {YP:World→Heap→Prop} {d:DefRec}
    (hn:l.most=some n) (hdf:d.params.defaults=[])
    (call:∀(w:World) (s₀ s₁:Shared) (mg mb:Str→Option Value) (fa:Addr) (o:Obj) (pm cd doc:Value) (a:Addr) (vs:List Value) (ns:List Int),
      Ground q loose [] XP w s₀ mg mb s₁.heap→YP w s₁.heap →
      s₁.heap.get? fa=some o→o.data=.func (docDef d.name d.params d.body d.scope pm cd doc)→s₁.heap.CodeRec cd d.name→mg d.name=some (.ref fa) →
      s₁.heap.get? a=some {cls:=.type "list",data:=.seq vs.toArray}→IntsAre vs ns→ns.length≤n→s₁.gens = #[] →
      codeAny (model l.prog w) callerA (.call (.ref fa) ⟨[.ref a],[]⟩) (fun r s'=>r=.ok (.ret (.bool true))∧OldK s₁.heap s'.heap∧s'.os=s₁.os∧AllBare s'.gens) s₁) :
    WalkO q loose XP YP l.row.toRowW d [] (fun f vs=>PySem.call f vs):=by
  intro w s₀ s₁ mg mb G Y fa o pm cd doc dV kV ho hd hcd hD hmg hg args vals as hpre hlay hrd hwl hlo
  obtain rfl:dV=.none:=Dflts.none hD hdf
  obtain rfl:kV=.none:=Dflts.noKw hD
  obtain ⟨a,vs,ns,rfl,rfl,hobj,hints,hlen⟩:=script_of hn hpre hwl
  refine enter_call (codeAny_mono (call w s₀ s₁ mg mb fa o pm cd doc a vs ns G Y ho (fd_plain hd) hcd hmg hobj hints hlen hg) fun r s' hq=>?_)
  obtain ⟨rfl,h2,h3,h4⟩:=hq
  exact ⟨.inl ⟨.bool true,.bool true,[],rfl,fun _=>rfl,.bool true,abR l _,fun _=>⟨List.Pairwise.nil,fun _ hm=>(nomatch hm)⟩⟩,h2,h3,h4⟩
section
variable {prog:Program} {w:World} {A:Around} {E:Value→Shared→Prop} {s:Shared} {K:Frag}
noncomputable def vI (h:Heap):Heap:={h with objs:=#[]}
theorem nC (h:Heap) (b:Addr):(vI h).get? b=none:=by
 cases e:(vI h).get? b with
 | none=>rfl
 | some o=>exact absurd (Heap.lt_size e) (Nat.not_lt_zero _)
noncomputable def ledger (h:Heap) (L d:Addr):List (Addr×Obj):=(List.range h.objs.size).filterMap fun a=>if a=L∨a=d then none else (h.get? a).map fun o=>(a,o)
theorem kF {h:Heap} {L d a:Addr} {o:Obj}:(a,o)∈ledger h L d↔a≠L∧a≠d∧h.get? a=some o:=by
 unfold ledger
 rw [List.mem_filterMap]
 constructor
 ·rintro ⟨b,_,e⟩
  split at e
  ·cases e
  ·rename_i hb
   obtain ⟨o',ho,e'⟩:=Option.map_eq_some_iff.mp e
   cases e'
   exact ⟨fun q=>hb (.inl q),fun q=>hb (.inr q),ho⟩
 ·rintro ⟨n1,n2,ho⟩
  refine ⟨a,List.mem_range.mpr (Heap.lt_size ho),?_⟩
  rw [if_neg (show ¬ (a=L∨a=d) from fun q=>q.elim n1 n2),ho]<;>rfl
theorem lQ {h:Heap} {L d:Addr} {od:Obj} (hne:d≠L) (ho:h.get? d=some od):News (vI h) L h ([]++(d,od)::ledger h L d):=by
 rintro ⟨a,o⟩ hp
 rcases List.mem_cons.mp hp with e | hp
 ·cases e
  exact ⟨ho,hne,nC _ _⟩
 ·obtain ⟨n1,n2,e⟩:=kF.mp hp
  exact ⟨e,n1,nC _ _⟩
theorem zH {h:Heap} {L:Addr} {m:Str→Option Value} (n:h.Ns L m):Fr (vI h) L h m :=
 ⟨n,fun b o e=>(by rw [nC] at e;cases e),Nat.zero_le _⟩
end
end Att
namespace L2
open PySem PySem.Spec PyProof.Rows
theorem lV:∀ {vs:List Value} {ns:List Int},IntsAre vs ns→Vals (ns.map V.int) vs
 | _,_,.nil=>.nil
 | _,_,.cons n t h=>.cons ⟨t,rfl⟩ (lV h)
noncomputable def Only (H:Hp):Prop:=∀ b,H b=none∨∃ o xs,H b=some (.frz o (.lst xs))
theorem law_call {P:Program} {w:World} {K:PySem.W.Frag} {mg mb:Str→Option Value} {CX:CXT} {k:Nat} {fa a:Addr} {fd:FuncData} {x:Str} {sp:Sp} {s₁:Shared} {vs:List Value} {ns:List Int}
    (KX:K.In s₁.heap) (hns:s₁.heap.Ns mainGlobals mg) (hb:s₁.heap.Ns builtinsNs mb) (hbb:∀ x:Str,x≠"__name__"→mb x=bootBuiltins x) (hlim:s₁.heap.NoLimit) (hg:s₁.gens = #[])
    (ha:s₁.heap.get? a=some {cls:=.type "list",data:=.seq vs.toArray}) (hi:IntsAre vs ns) (hl:ns.length≤sizeLine) (hr:Room k callerA)
    (F:∀ base:Heap,K.In base→base.Ns mainGlobals mg→bG P w K mg base CX k fa fd [x] sp) (hbind:∀(s:Shared) (u:Value),BindsTo s fd ⟨[u],[]⟩ [(x,u)])
    (hsp:∀ H:Hp,Only H→eA K H a (ns.map V.int)→sp [.ref a] H (fun v _=>v=.bl true) fun _ _ _=>False)
    (hCX:∀ H e s',CX [] H s₁ (fun _ _ _=>False) e s'→False) :
    codeAny (model P w) callerA (.call (.ref fa) ⟨[.ref a],[]⟩) (fun r s'=>r=.ok (.ret (.bool true))∧OldK s₁.heap s'.heap∧s'.os=s₁.os∧AllBare s'.gens) s₁:=by
  have rv:=lV hi
  have lenV:=hi.length
  -- from an abstract heap in which nothing but the script may be tracked
  have core:∀ H:Hp,Only H→eA K H a (ns.map V.int)→HOk P w H s₁.heap→(∀ b,H b≠none→b=a)→(H a≠none→K.lookup a=none) →
      codeAny (model P w) callerA (.call (.ref fa) ⟨[.ref a],[]⟩) (fun r s'=>r=.ok (.ret (.bool true))∧OldK s₁.heap s'.heap∧s'.os=s₁.os∧AllBare s'.gens) s₁:=by
    intro H hO hS hok hA hK
    have base_of:∀ {b:Addr} {o:Obj},s₁.heap.get? b=some o→H b=none→(wB s₁.heap H).get? b=some o:=fun e n=>hidT_get e n
    have noA:∀ {b:Addr} {o:Obj} {es:Array DictEntry} {ep:Nat},s₁.heap.get? b=some o→o.data=.dict es ep→H b=none:=fun {b o es ep} e d=>by
      cases q:H b with
      | none=>rfl
      | some u =>
        have e':b=a:=hA b (by rw [q];simp)
        subst e'
        rw [ha] at e;cases e
        have d':Data.seq vs.toArray _=Data.dict es ep:=d
        cases d'
    have nsK:∀ {b:Addr} {m:Str→Option Value},s₁.heap.Ns b m→(wB s₁.heap H).Ns b m:=fun {b m} ⟨o,es,ep,e,d,r⟩=>⟨o,es,ep,base_of e (noA e d),d,r⟩
    have hKb:K.In (wB s₁.heap H):=fun b o e=>base_of (KX b o e) (by
      cases q:H b with
      | none=>rfl
      | some u =>
        have e':b=a:=hA b (by rw [q];simp)
        subst e'
        rw [hK (by rw [q];simp)] at e;cases e)
    have hM:Mod K mg (wB s₁.heap H):=⟨hKb,nsK hns,⟨mb,nsK hb,hbb⟩,let ⟨mc,h1,h2⟩:=hlim;⟨mc,nsK h1,h2⟩⟩
    have e0:Env0 P w K mg (wB s₁.heap H) callerA [] s₁ H:=⟨rfl,hM,fun b o e=>of_hidT e,Nat.le_of_eq (abM _ _),trivial,fun b hb=>absurd (show b∈([]:List Addr) from hb) (by simp),hok,.of_eq hg⟩
    refine codeAny_mono ((F _ hKb (nsK hns)).run callerA [] s₁ H ⟨[.ref a],[]⟩ [.ref a] [.ref a] _ _ hr e0 (hbind s₁ (.ref a)) (.cons rfl .nil) (hsp H hO hS)) fun r s' h=>?_
    cases r with
    | error e=>exact (hCX H e s' h).elim
    | ok fl =>
      cases fl with
      | next=>exact False.elim h
      | brk=>exact False.elim h
      | cont=>exact False.elim h
      | ret u =>
        obtain ⟨v,H',os,bare,un,hok',r',q⟩:=h
        have q':v=.bl true:=q
        subst q'
        obtain rfl:u=Value.bool true:=r'
        refine ⟨rfl,OldK.of_keep fun b o e=>?_,os,bare⟩
        cases q:H b with
        | none=>exact un.keep b o e q (by intro z;exact absurd (show b∈([]:List Addr) from z) (by simp)) (by simp)
        | some u =>
          rcases hO b with z | ⟨ob,xs,z⟩
          · rw [q] at z;cases z
          · have z2:=un.frzs b ob _ z
            obtain ⟨e1,_⟩:=hok b _ z
            obtain ⟨e2,_⟩:=hok' b _ z2
            rw [e] at e1;cases e1
            exact e2
  cases hk:K.lookup a with
  | some o =>
    -- the script is one of the module's own objects
    have e:=KX a o hk
    rw [ha] at e
    cases e
    refine core (fun _=>none) (fun _=>.inl rfl) (.inr ⟨_,vs.toArray,_,hk,rfl,rfl,rfl,by rw [List.size_toArray,lenV];exact hl,by simpa using rv⟩) (fun b u z=>by have z':(none:Option HO)=some u:=z;cases z') (fun b z=>absurd rfl z) fun z=>absurd rfl z
  | none =>
    refine core (fun b=>if b=a then some (.frz {cls:=.type "list",data:=.seq vs.toArray} (.lst (ns.map V.int))) else none) (fun b=>?_) (.inl (.inr ⟨{cls:=.type "list",data:=.seq vs.toArray},if_pos rfl⟩)) (fun b u z=>?_) (fun b z=>?_) fun _=>hk
    · by_cases hb:b=a
      · exact .inr ⟨_,_,if_pos hb⟩
      · exact .inl (if_neg hb)
    · by_cases hb:b=a
      · have z':=(if_pos hb).symm.trans z
        cases z'
        subst hb
        exact ⟨ha,by rw [List.length_map];exact hl,vs,_,rv,ha⟩
      · have z':=(if_neg hb).symm.trans z
        cases z'
    · by_cases hb:b=a
      · exact hb
      · exact absurd (if_neg hb) z
end L2
namespace L2
open PySem PySem.Spec PyProof.Rows
theorem walk_of {l:PySem.W.OpenLaw} {n k:Nat} {q:Program} {loose:List Str} {XP:(Str→Option Value)→Heap→Prop} {YP:World→Heap→Prop} {d:DefRec} {K:Params→PySem.W.Frag} {CX:World→CXT} {sp:World→Sp} {x:Str}
    (hn:l.most=some n) (hn2:n≤sizeLine) (hdf:d.params.defaults=[]) (hr:Room k callerA)
    (hY:∀(w:World) (h:Heap),YP w h→(K w.params).In h)
    (F:∀(w:World) (mg:Str→Option Value) (fa:Addr) (h:Heap),(K w.params).In h→h.Ns mainGlobals mg→mg d.name=some (.ref fa) →
      ∃ fd:FuncData,(∀(s:Shared) (u:Value),BindsTo s fd ⟨[u],[]⟩ [(x,u)]) ∧
        ∀ base:Heap,(K w.params).In base→base.Ns mainGlobals mg→bG l.prog w (K w.params) mg base (CX w) k fa fd [x] (sp w))
    (hsp:∀(w:World) (H:Hp) (a:Addr) (ns:List Int),ns.length≤n→Only H→eA (K w.params) H a (ns.map V.int)→sp w [.ref a] H (fun v _=>v=.bl true) fun _ _ _=>False)
    (hCX:∀(w:World) (H:Hp) (s:Shared) (e:Value) (s':Shared),CX w [] H s (fun _ _ _=>False) e s'→False) :
    PySem.W.WalkO q loose XP YP l.row.toRowW d [] (fun f vs=>PySem.call f vs):=by
  refine Att.wM hn hdf fun w s₀ s₁ mg mb fa o pm cd doc a vs ns G Y ho hd hcd hmg hobj hints hlen hg=>?_
  have KX:=hY w _ Y
  obtain ⟨fd,hb,hF⟩:=F w mg fa _ KX G.T.g hmg
  exact law_call KX G.T.g G.T.b G.T.builtins G.T.nolimit hg hobj hints (Nat.le_trans hlen hn2) hr hF hb (fun H hO hS=>hsp w H a ns hlen hO hS) fun H e s'=>hCX w H s₁ e s'
end L2
namespace L2
open PySem PySem.Spec PyProof.Rows
noncomputable def bO (s:Stmt) (j:Nat):Stmt:=match s with
 | .ClassDef _ _ _ body _ _ _ _ _ _ _=>body.getD j (.Pass ⟨0,0,0,0⟩)
 | _=>.Pass ⟨0,0,0,0⟩
noncomputable def aS (s:Stmt):Arguments:=match s with
 | .FunctionDef _ a _ _ _ _ _ _ _ _=>a
 | _=>{posonlyargs:=[],args:=[],vararg:=none,kwonlyargs:=[],kw_defaults:=[],kwarg:=none,defaults:=[]}
noncomputable def aR (s:Stmt):List Stmt:=match s with
 | .FunctionDef _ _ b _ _ _ _ _ _ _=>b
 | _=>[]
noncomputable def aF (s:Stmt):Scope:=match s with
 | .FunctionDef _ _ _ _ _ _ sc _ _ _=>sc
 | _=>{kind:=.function,names:=[],isGenerator:=false,isCoroutine:=false}
noncomputable abbrev CX0:CXT:=fun _ _ _ _ _ _=>False
noncomputable abbrev E0:XK:=fun _ _ _=>False
theorem pass0 {X:Cx}:Passes CX0 X E0:=fun _ _ _ _ _ _ _ h=>h.elim
structure Fun (K:PySem.W.Frag) (x qual:Str) (st:Stmt) (f:Addr) (fd:FuncData):Prop where
 ex:∃(oc:Value) (od:Option Addr) (kV doc pm:Value) (an:Option Addr) (cdv ct:Value) (osl:Array (Option Value)),
  fd=PySem.W.fnOf x qual (aS st) (aR st) (aF st) .none kV doc pm an cdv ct∧K.lookup f=some ⟨oc,od,.func fd,osl⟩∧PySem.W.codeIn K cdv qual=true
 kp:PySem.W.keepIn K (.ref f)=true
section
variable {P:Program} {w:World} {K:PySem.W.Frag} {mg:Str→Option Value} {base:Heap}
theorem Fun.ok {x qual:Str} {st:Stmt} {f:Addr} {fd:FuncData} {N ps:List Str} {k:Nat} {sp:Sp} (F:Fun K x qual st f fd) (S:aT N ps (aF st)) (len:∀ vs H Q E,sp vs H Q E→vs.length=ps.length)
    (hbody:∀(cdv:Value) (A:Around) (outer:List Env) (s:Shared) (H:Hp) (vs:List V) (Q:VK) (E:XK),Room k (A.deeper (envOfC qual (aF st) s.heap.objs.size f cdv))→sp vs H Q E →
      ∃ t,PSs (xG CX0 P w K mg base N qual (aF st) f cdv A outer s H E).nox (aR st) t∧t {nx:=fun _ H'=>Q .non H',rt:=Q} (start N vs) H):bG P w K mg base CX0 (k+1) f fd ps sp:=by
  obtain ⟨oc,od,kV,doc,pm,an,cdv,ct,osl,rfl,lk,hcd⟩:=F.ex
  refine fn_of lk hcd S len fun A outer s H vs Q E hr hsp=>?_
  obtain ⟨t,h,q⟩:=hbody cdv A outer s H vs Q E hr hsp
  exact ⟨t,h.nox,q⟩
theorem Fun.binds {x qual:Str} {st:Stmt} {f:Addr} {fd:FuncData} {ps:List Str} (F:Fun K x qual st f fd)
    (h:∀(kV doc pm:Value) (an:Option Addr) (cdv ct:Value) (us:List Value),us.length=ps.length→bindArgs (PySem.W.fnOf x qual (aS st) (aR st) (aF st) .none kV doc pm an cdv ct) ⟨us,[]⟩=pure (ps.zip us)):Binds K fd ps []:=by
  obtain ⟨oc,od,kV,doc,pm,an,cdv,ct,osl,rfl,lk,hcd⟩:=F.ex
  exact .all (h kV doc pm an cdv ct)
theorem aZ {x qual:Str} {st:Stmt} {f:Addr} {oc:Value} {od an:Option Addr} {osl:Array (Option Value)} {kV doc pm cdv ct:Value} (l:K.lookup f=some ⟨oc,od,.func (PySem.W.fnOf x qual (aS st) (aR st) (aF st) .none kV doc pm an cdv ct),osl⟩)
    (c:PySem.W.codeIn K cdv qual=true) (k:PySem.W.keepIn K (.ref f)=true):Fun K x qual st f (PySem.W.fnOf x qual (aS st) (aR st) (aF st) .none kV doc pm an cdv ct):=⟨⟨oc,od,kV,doc,pm,an,cdv,ct,osl,rfl,l,c⟩,k⟩
end
theorem kX {A:Around} {k:Nat} (hr:Room k A):A.units+1 < cLine:=Nat.lt_of_le_of_lt (Nat.add_le_add_left (by decide:1≤64) _) hr.units
theorem small1000 {n:Nat} (h:n≤1000):n < sizeLine:=Nat.lt_of_le_of_lt h (by decide)
section
variable {X:Cx}
theorem pv (i:Nat) {x:Str} {pos:Pos} (hN:X.N[i]?=some x:=by rfl) (hv:Vis X.env.scope x:=by first | exact Or.inl rfl | exact Or.inr (Or.inl rfl) | exact Or.inr (Or.inr rfl)) (hd:(x == ("__debug__":Str))=false:=by decide)
    (hcd:(x == ("__classdict__":Str))=false:=by decide):PE X (.Name x pos) (iW i):=pe_var hN hv hd hcd
end
noncomputable def Same (H H':Hp):Prop:=∀ b o,H b=some o→H' b=some o
theorem Same.seq {K:PySem.W.Frag} {H H':Hp} {a:Addr} {xs:List V} (e:Same H H') (h:eA K H a xs):eA K H' a xs:=by
 rcases h with (h | ⟨o,h⟩) | h
 ·exact .inl (.inl (e _ _ h))
 ·exact .inl (.inr ⟨o,e _ _ h⟩)
 ·exact .inr h
end L2
namespace L2
open PySem PySem.Spec PyProof.Rows
section
variable {X:Cx}
end
end L2
namespace L2
open PySem PySem.Spec PyProof.Rows
section
variable {κ:Type} [DecidableEq κ]
end
end L2
set_option maxHeartbeats 4000000
namespace L2
open PySem PySem.Spec PyProof.Rows
theorem bt_int:bootBuiltins "int"=some (.type "int"):=by decide +kernel
theorem qE:bootBuiltins "list"=some (.type "list"):=by decide +kernel
theorem eX:bootBuiltins "tuple"=some (.type "tuple"):=by decide +kernel
theorem jJ:bootBuiltins "isinstance"=some (.builtin "isinstance"):=by decide +kernel
theorem yS:bootBuiltins "max"=some (.builtin "max"):=by decide +kernel
theorem bt_min:bootBuiltins "min"=some (.builtin "min"):=by decide +kernel
theorem mF:bootBuiltins "sorted"=some (.builtin "sorted"):=by decide +kernel
theorem jL:bootBuiltins "len"=some (.builtin "len"):=by decide +kernel
section
variable {X:Cx}
noncomputable def CDivB (_ j:Int):Prop:=0 < j∧j.natAbs.log2 < 9000
theorem nL:jM X (binaryOp .FloorDiv) (rI CDivB fun i j=>.int (i / j)):=opI fun i j _ _ _ _ _ hc q=>by
 have h1:(0:Int) < j:=hc.1
 exact floordiv_int (by omega) (by rw [Int.fdiv_eq_ediv_of_nonneg i (by omega)];exact q) (.inl (PyProof.noPylong_of_log2 hc.2))
theorem log2_lt {j:Int} (h0:0 < j) (h:j≤10 ^ 45):j.natAbs.log2 < 9000:=by
 have h1:j.natAbs≤10 ^ 45:=by omega
 have h2:j.natAbs < 2 ^ 150:=Nat.lt_of_le_of_lt h1 (by decide)
 have h3:j.natAbs.log2 < 150:=(Nat.log2_lt (by omega)).mpr h2
 omega
inductive nD (K:PySem.W.Frag) (H:Hp):V→String→Bool→Prop
 | ii (n:Int):nD K H (.int n) "int" true
 | ib (n:Int):nD K H (.int n) "bool" false
 | is (n:Int):nD K H (.int n) "str" false
 | it (n:Int):nD K H (.int n) "tuple" false
 | bi (b:Bool):nD K H (.bl b) "int" true
 | bb (b:Bool):nD K H (.bl b) "bool" true
 | bs (b:Bool):nD K H (.bl b) "str" false
 | bt (b:Bool):nD K H (.bl b) "tuple" false
 | si (x:Str):nD K H (.str x) "int" false
 | sb (x:Str):nD K H (.str x) "bool" false
 | ss (x:Str):nD K H (.str x) "str" true
 | st (x:Str):nD K H (.str x) "tuple" false
 | ni:nD K H .non "int" false
 | nb:nD K H .non "bool" false
 | ns:nD K H .non "str" false
 | nt:nD K H .non "tuple" false
 | li {a:Addr} {xs:List V}:eA K H a xs→nD K H (.ref a) "int" false
 | lb {a:Addr} {xs:List V}:eA K H a xs→nD K H (.ref a) "bool" false
 | ls {a:Addr} {xs:List V}:eA K H a xs→nD K H (.ref a) "str" false
 | lt {a:Addr} {xs:List V}:eA K H a xs→nD K H (.ref a) "tuple" false
 | ti {a:Addr} {xs:List V}:gO K H a xs→nD K H (.ref a) "int" false
 | tb {a:Addr} {xs:List V}:gO K H a xs→nD K H (.ref a) "bool" false
 | ts {a:Addr} {xs:List V}:gO K H a xs→nD K H (.ref a) "str" false
 | tt {a:Addr} {xs:List V}:gO K H a xs→nD K H (.ref a) "tuple" true
 | di {a:Addr} {kvs:List (Key×V)}:H a=some (.dK kvs)→nD K H (.ref a) "int" false
 | db {a:Addr} {kvs:List (Key×V)}:H a=some (.dK kvs)→nD K H (.ref a) "bool" false
 | ds {a:Addr} {kvs:List (Key×V)}:H a=some (.dK kvs)→nD K H (.ref a) "str" false
theorem Inv.listObj {pins:List (Addr×Obj)} {σ:St} {H:Hp} {s:Shared} {a:Addr} {xs:List V} (I:Inv X pins σ H s) (h:eA X.K H a xs):∃ o,s.heap.get? a=some o∧o.cls=.type "list":=by
 obtain ⟨its,_,⟨o,n,e,c,_,_⟩,_⟩:=I.list h
 exact ⟨o,e,c⟩
theorem Inv.tupObj {pins:List (Addr×Obj)} {σ:St} {H:Hp} {s:Shared} {a:Addr} {xs:List V} (I:Inv X pins σ H s) (h:gO X.K H a xs):∃ o,s.heap.get? a=some o∧o.cls=.type "tuple":=by
 obtain ⟨its,_,⟨o,e,c,_⟩,_⟩:=I.tuple h
 exact ⟨o,e,c⟩
theorem Inv.dictObj {pins:List (Addr×Obj)} {σ:St} {H:Hp} {s:Shared} {a:Addr} {kvs:List (Key×V)} (I:Inv X pins σ H s) (h:H a=some (.dK kvs)):∃ o,s.heap.get? a=some o∧o.cls=.type "dict" :=
 pI I (DGet.k (k:=.inl 0) h)
theorem call_isi:dX X (.builtin "isinstance") (fun xs H Q=>∃ v T b,xs=[v,.ty T]∧nD X.K H v T b∧Q (.bl b) H):=by
 intro pins s σ H xs us Q I r h
 obtain ⟨v,T,b,rfl,hi,q⟩:=h
 obtain ⟨u,w',rfl,r1,r2⟩:=vals2 r
 cases r2
 have fin:EP X pins σ Q (.bool b) s:=⟨.bl b,H,I,rfl,q⟩
 have fin':EP X pins σ Q (.bool b) {s with toks:=s.toks+1}:=⟨.bl b,H,I.tok _,rfl,q⟩
 cases hi with
 | ii n=>obtain ⟨t,rfl⟩:=r1;exact IsiPair.int_int fin
 | ib n=>obtain ⟨t,rfl⟩:=r1;exact IsiPair.int_bool fin'
 | is n=>obtain ⟨t,rfl⟩:=r1;exact IsiPair.int_str fin'
 | it n=>obtain ⟨t,rfl⟩:=r1;exact IsiPair.int_tuple fin'
 | bi b=>cases r1;exact IsiPair.bool_int fin
 | bb b=>cases r1;exact IsiPair.bool_bool fin
 | bs b=>cases r1;exact IsiPair.bool_str fin'
 | bt b=>cases r1;exact IsiPair.bool_tuple fin'
 | si x=>obtain ⟨t,rfl⟩:=r1;exact IsiPair.str_int fin'
 | sb x=>obtain ⟨t,rfl⟩:=r1;exact IsiPair.str_bool fin'
 | ss x=>obtain ⟨t,rfl⟩:=r1;exact IsiPair.str_str fin
 | st x=>obtain ⟨t,rfl⟩:=r1;exact IsiPair.str_tuple fin'
 | ni=>cases r1;exact IsiPair.NoneType_int fin'
 | nb=>cases r1;exact IsiPair.NoneType_bool fin'
 | ns=>cases r1;exact IsiPair.NoneType_str fin'
 | nt=>cases r1;exact IsiPair.NoneType_tuple fin'
 | li hl=>cases r1;obtain ⟨o,e,c⟩:=Inv.listObj I hl;exact IsiPair.list_int e c fin'
 | lb hl=>cases r1;obtain ⟨o,e,c⟩:=Inv.listObj I hl;exact IsiPair.list_bool e c fin'
 | ls hl=>cases r1;obtain ⟨o,e,c⟩:=Inv.listObj I hl;exact IsiPair.list_str e c fin'
 | lt hl=>cases r1;obtain ⟨o,e,c⟩:=Inv.listObj I hl;exact IsiPair.list_tuple e c fin'
 | ti hl=>cases r1;obtain ⟨o,e,c⟩:=Inv.tupObj I hl;exact IsiPair.tuple_int e c fin'
 | tb hl=>cases r1;obtain ⟨o,e,c⟩:=Inv.tupObj I hl;exact IsiPair.tuple_bool e c fin'
 | ts hl=>cases r1;obtain ⟨o,e,c⟩:=Inv.tupObj I hl;exact IsiPair.tuple_str e c fin'
 | tt hl=>cases r1;obtain ⟨o,e,c⟩:=Inv.tupObj I hl;exact IsiPair.tuple_tuple e c fin
 | di hl=>cases r1;obtain ⟨o,e,c⟩:=Inv.dictObj I hl;exact IsiPair.dict_int e c fin'
 | db hl=>cases r1;obtain ⟨o,e,c⟩:=Inv.dictObj I hl;exact IsiPair.dict_bool e c fin'
 | ds hl=>cases r1;obtain ⟨o,e,c⟩:=Inv.dictObj I hl;exact IsiPair.dict_str e c fin'
end
noncomputable def isStar:Expr→Bool
 | .Starred ..=>true
 | _=>false
theorem abW {e:Expr} {es:List Expr} {env:Env} (h:isStar e=false):starEach (e::es) env=(false,eval e env)::starEach es env:=by
 cases e<;>first | rfl | cases h
section
variable {X:Cx} {e:Expr} {es:List Expr} {te:TE} {t:TA}
theorem aE (ha:PE X e te) (hr:PA X es t) (h:isStar e=false:=by rfl):PA X (e::es) (xZ te t):=aa8 ha hr (abW h)
end
end L2
namespace L2
open PySem PySem.Spec PyProof.Rows
noncomputable abbrev qM (prog:Program) (w:World) (A:Around) (env:Env) (R:Result→Shared→Prop):Value→Shared→Prop:=notedBy (model prog w) A env fun e s'=>R (.error e) s'
noncomputable abbrev aa2 (ifs:List Expr) (env:Env):Sem Bool:=forIn ifs true fun c r=>if r=true then do let ok ← isTrue c env (eval c env);pure (ForInStep.yield ok) else pure (ForInStep.yield r)
section
variable {prog:Program} {w:World} {A:Around} {R:Result→Shared→Prop} {s:Shared}
theorem xQ {elt target iter:Expr} {ifs:List Expr} {scope:Scope} {pos:Pos} {it acc:Value} {env:Env} (I:Nat→Shared→Prop)
    (turn:∀ n s,I n s→wpAny (model prog w) A (pyNext it) (fun r s₁=>match r with
      | none=>R (.ok .next) s₁
      | some v=>wpAny (model prog w) A (letOwnedTupleGo target it v) (fun _ s₁'=>wpAny (model prog w) A (assign target env v) (fun _ s₂ =>
          wpAny (model prog w) A (aa2 ifs env) (fun ok s₃ =>
            if ok=true then wpAny (model prog w) A (eval elt env) (fun x s₄ =>
              wpAny (model prog w) A (call (.builtin "list.append") [acc,x]) (fun _ s₅=>∃ m,m < n∧I m s₅) (qM prog w A env R) s₄) (qM prog w A env R) s₃
            else ∃ m,m < n∧I m s₃) (qM prog w A env R) s₂) (qM prog w A env R) s₁') (qM prog w A env R) s₁) (qM prog w A env R) s)
    (n:Nat) (h:I n s):codeAny (model prog w) A (.compLoop (.ListComp elt [⟨target,iter,ifs,0⟩] scope pos) 0 it acc env) R s:=by
  refine codeAny_loop rfl I (fun n s hI=>?_) n h
  show wpAny _ A ((compTurn (.ListComp elt [⟨target,iter,ifs,0⟩] scope pos) 0 it acc env).onRaise (fun x=>do noteFrame x env;theTreesLotGoes x)) _ _ s
  refine wpAny_noted ?_
  rw [compTurn_list]
  refine wpAny_bind (wpAny_standAt (wpAny_bind (wpAny_mono (turn n s hI) (fun r s₁ h₁=>?_) fun _ _ h'=>h')))
  cases r with
  | none=>exact wpAny_pure h₁
  | some v =>
    refine wpAny_bind (wpAny_mono h₁ (fun _ s₁' h₁'=>?_) fun _ _ h'=>h')
    refine wpAny_bind (wpAny_mono h₁' (fun _ s₂ h₂=>wpAny_bind (wpAny_mono h₂ (fun ok s₃ h₃=>?_) fun _ _ h'=>h')) fun _ _ h'=>h')
    cases ok with
    | false=>exact wpAny_pure ⟨rfl,h₃⟩
    | true =>
      exact wpAny_bind (wpAny_bind (wpAny_mono h₃ (fun x s₄ h₄=>wpAny_bind (wpAny_mono h₄ (fun _ s₅ h₅=>wpAny_pure (wpAny_pure ⟨rfl,h₅⟩)) fun _ _ h'=>h')) fun _ _ h'=>h'))
end
noncomputable def dJ (X:Cx) (sc:Scope) (cl:List (Str×Addr)) (C:Addr) (N:List Str) (s:Shared) (H:Hp) (ex:List Addr) (pn:List (Addr×Obj)):Cx :=
 {X with env:=compEnvC sc cl C X.env,N:=N,s₀:=s,H₀:=H,outer:=X.stack,ex:=ex,fn:=fun _=>false,pn:=pn}
structure dW (X:Cx) (sc:Scope) (cl:List (Str×Addr)) (x:Str) (fr:List Nat) (N:List Str):Prop where
 kind:sc.kind=.function
 nocell:∀ y∈sc.names,y.2≠.cell
 names:∀ y∈sc.names,y.2=.local→sc.names.lookup y.1=some .local
 clos:closureFor sc X.env=pure cl
 sub:∀ y c,cl.lookup y=some c→X.env.cells.lookup y=some c
 has:∀ y,((relabel sc X.env).names.lookup y=some .cell∨(relabel sc X.env).names.lookup y=some .free)→∃ c,cl.lookup y=some c
 tgt:sc.names.lookup x=some .local
 nd:N.Nodup
 N0:N=x::fr.map fun j=>X.N.getD j x
 frc:∀ j∈fr,∃ y,X.N[j]?=some y∧X.env.kindOf y=some .cell∧((relabel sc X.env).names.lookup y=some .cell∨(relabel sc X.env).names.lookup y=some .free)
noncomputable def bM (fr:List Nat) (σ:St):St:=fr.map fun j=>(σ[j]?).join
section
variable {X:Cx} {pins:List (Addr×Obj)} {σ:St} {H:Hp} {s:Shared} {sc:Scope} {cl:List (Str×Addr)} {C:Addr} {x:Str} {fr:List Nat} {N:List Str} {fp:List Addr}
theorem comp_ok (I:Inv X pins σ H s) (S:dW X sc cl x fr N) (hf:∀ b∈fp,pX X pins H b) (hfo:∀ b∈fp,b < s.heap.objs.size) (hC:s.heap.objs.size≤C) :
    (dJ X sc cl C N s H fp (X.pn++pins)).Ok where
  mod:=I.ok.mod
  kind:=S.kind
  glob:=I.ok.glob
  blt:=I.ok.blt
  above:=hC
  inj:=fun y z c h1 h2=>I.ok.inj y z c (S.sub y c h1) (S.sub z c h2)
  has:=S.has
  cab:=fun _ _ h=>by cases h
  hd:=I.ok.hd
  frames:=I.ok.frames
  stk:=.inl rfl
  exf:=fun b hb=>⟨Nat.ne_of_lt (Nat.lt_of_lt_of_le (hfo b hb) hC),fun y c e=>(hf b hb).2.2.2.2.1 y c (S.sub y c e)⟩
  bs:=I.bs
  bsz:=Nat.le_trans I.ok.bsz I.sz
  noex:=fun b o e hb=>by
    rcases (hf b hb).2.2.2.1 with z | z
    · exact I.ok.noex b o e z
    · exact absurd (Nat.lt_of_lt_of_le (Heap.lt_size e) (Nat.le_trans I.ok.bsz z)) (Nat.lt_irrefl _)
  exfs:=fun b hb hm=>by
    rcases List.mem_cons.mp (I.stkSub b hm) with z | z
    · exact (hf b hb).2.1 z
    · exact (hf b hb).2.2.1 z
  funs:=I.stack
  frf:=I.stkFree
theorem nostk (I:Inv X pins σ H s) {b:Addr} (h1:b≠X.env.locals) (h2:b∉X.fs):b∉frs X.stack:=fun hm=>by
 rcases List.mem_cons.mp (I.stkSub b hm) with z | z
 ·exact h1 z
 ·exact h2 z
theorem comp_inv (I:Inv X pins σ H s) (S:dW X sc cl x fr N) (hf:∀ b∈fp,pX X pins H b) (hfo:∀ b∈fp,b < s.heap.objs.size) (hC:s.heap.objs.size≤C) {h1:Heap} {t1:Nat} {m0:Str→Option Value}
    (hn:h1.Ns C m0) (hk:∀ b o,s.heap.get? b=some o→h1.get? b=some o):Inv (dJ X sc cl C N s H fp (X.pn++pins)) [] (none::bM fr σ) H {s with heap:=h1,toks:=t1}:=by
  refine ⟨comp_ok I S hf hfo hC,rfl,I.bare,Un.kept hk,⟨m0,hn,fun i y v e1 e2 e3=>?_⟩,fun y c e=>?_,I.hok.fresh hC,fun y c e=>I.freeC y c (S.sub y c e),fun p hp=>?_,I.hok.kept hk,?_⟩
  · have e1':N[i]?=some y:=e1
    rw [S.N0] at e1'
    cases i with
    | zero =>
      have z:(some (none:Option V))=some (some v):=e2
      cases z
    | succ j =>
      have e1'':(fr.map fun j=>X.N.getD j x)[j]?=some y:=e1'
      have e2':(bM fr σ)[j]?=some (some v):=e2
      unfold bM at e2'
      rw [List.getElem?_map] at e1'' e2'
      cases q:fr[j]? with
      | none=>rw [q] at e1'';cases e1''
      | some k =>
        rw [q] at e1'' e2'
        have ey:X.N.getD k x=y:=Option.some.inj e1''
        have ev:(σ[k]?).join=some v:=Option.some.inj e2'
        obtain ⟨y',hy,hkind,hvis⟩:=S.frc k (List.mem_of_getElem? q)
        have eyy:y=y':=by
          rw [← ey,List.getD_eq_getElem?_getD,hy]
          rfl
        subst eyy
        have ev':σ[k]?=some (some v):=by
          cases z:σ[k]? with
          | none=>rw [z] at ev;cases ev
          | some o =>
            rw [z] at ev
            have ev2:o=some v:=ev
            rw [ev2]
        obtain ⟨m,_,hl⟩:=I.loc
        obtain ⟨u,r,l⟩:=hl k y v hy ev' (.inr (.inl hkind))
        refine ⟨u,r,.inr ⟨hvis,?_⟩⟩
        rcases l with ⟨z,_⟩ | ⟨_,c,hc,o,ho,hd⟩
        · rw [hkind] at z
          cases z
        · obtain ⟨c',hc'⟩:=S.has y hvis
          have z:=S.sub y c' hc'
          rw [hc] at z
          cases z
          exact ⟨c,hc',o,hk c o ho,hd⟩
  · obtain ⟨v,o,ho,hd⟩:=I.cell y c (S.sub y c e)
    exact ⟨v,o,hk c o ho,hd⟩
  · have hp':p∈X.pn++pins:=by
      have z:p∈(X.pn++pins)++[]:=hp
      simpa using z
    obtain ⟨e,n,ne,nf,d⟩:=I.pin p hp'
    exact ⟨hk _ _ e,n,Nat.ne_of_lt (Nat.lt_of_lt_of_le (Heap.lt_size e) hC),nostk I ne nf,d⟩
  · show (none::bM fr σ).length=N.length
    rw [S.N0]
    simp [bM]
theorem comp_end (I:Inv X pins σ H s) (hf:∀ b∈fp,pX X pins H b) {D:Addr} {pl:List (Addr×Obj)} {σ':St} {H':Hp} {s':Shared} (J:Inv (dJ X sc cl C N s H fp (X.pn++pins)) pl σ' H' s')
    (hC:s.heap.objs.size≤C) (hD:s.heap.objs.size≤D) (hDC:D≠C) (hDn:H' D=none) {xs:List V} {vals:List Value} {k:Nat} (hg:s'.heap.get? D=some {cls:=.type "list",data:=.seq vals.toArray k}) (rv:Vals xs vals) (hz:xs.length≤sizeLine)
    {h':Heap} (hs:Heap.SameBut C s'.heap h'):Inv X pins σ (upd H' D (.lst xs)) {s' with heap:=h'}:=by
  have lt:∀ {b:Addr} {o:Obj},s.heap.get? b=some o→b < s.heap.objs.size:=fun e=>Heap.lt_size e
  have neC:∀ {b:Addr} {o:Obj},s.heap.get? b=some o→b≠C:=fun e=>Nat.ne_of_lt (Nat.lt_of_lt_of_le (Heap.lt_size e) hC)
  have neD:∀ {b:Addr} {o:Obj},s.heap.get? b=some o→b≠D:=fun e=>Nat.ne_of_lt (Nat.lt_of_lt_of_le (Heap.lt_size e) hD)
  have neDt:∀ {b:Addr} {o:HO},H b=some o→b≠D:=fun e=>Nat.ne_of_lt (Nat.lt_of_lt_of_le (I.hok.lt e) hD)
  have base:Un (frs X.stack) fp H H' s.heap s'.heap:=J.base
  have HC:H' C=none:=J.free
  refine I.call' (s':={s' with heap:=h'}) (ch:=fp) J.os ⟨fun b o e n hb hx=>?_,fun b o e n hb hx=>?_,fun b o e n hx=>?_,fun b o e hx=>?_,fun b ys e=>?_,fun b o u e=>?_,fun b ps e=>?_⟩ (fun b u e=>?_) J.bare (fun b hb=>?_)
  · exact (hs.2 b (neC e)).trans (base.keep b o e n hb hx)
  · obtain ⟨sl,q⟩:=base.slot b o e n hb hx
    exact ⟨sl,(hs.2 b (neC e)).trans q⟩
  · rw [aI (neD e)]
    exact base.free b o e n hx
  · obtain ⟨o',q⟩:=base.there b o e hx
    exact ⟨o',(hs.2 b (neC e)).trans q⟩
  · rw [aI (neDt e)]
    exact base.tups b ys e
  · rw [aI (neDt e)]
    exact base.frzs b o u e
  · rw [aI (neDt e)]
    exact base.tbls b ps e
  · by_cases hb:b=D
    · subst hb
      rw [aA] at e
      cases e
      exact ⟨hz,vals,k,rv,(hs.2 b hDC).trans hg⟩
    · rw [aI hb] at e
      have tC:∀ {c:Addr} {o:HO},H' c=some o→c≠C:=fun q z=>by rw [z,HC] at q;cases q
      have tD:∀ {c:Addr} {o:HO},H' c=some o→c≠D:=fun q z=>by rw [z,hDn] at q;cases q
      refine (J.hok b u e).stay (fun c v hc q=>(hs.2 c ?_).trans q) (fun c q=>by rw [aI (tD q)];exact q) fun c ys q=>by rw [aI (tD q)];exact q
      rcases hc with z | z
      · rw [z];exact tC e
      · exact tC z
  · obtain ⟨_,f1,_,f3,f4,f5⟩:=hf b hb
    exact ⟨f3,f1,f4,f5⟩
end
noncomputable def PTs (Y:Cx) (ifs:List Expr) (t:TT):Prop :=
 ∀(pins:List (Addr×Obj)) (s:Shared) (σ:St) (H:Hp) (Q:Bool→Hp→Prop),Inv Y pins σ H s→t σ H Q→wpAny (model Y.prog Y.w) Y.A (aa2 ifs Y.env) (TP Y pins σ Q) Y.xe s
noncomputable def tTrue:TT:=fun _ H Q=>Q true H
theorem nN {Y:Cx}:PTs Y [] tTrue:=fun _ _ _ H _ I h=>wpAny_tests_nil ⟨H,I,h⟩
theorem nO {Y:Cx} {c:Expr} {t:TT} (h:PT Y c t):PTs Y [c] t:=fun pins s σ H Q I hw=>wpAny_tests_one (h pins s σ H Q I hw)
@[irreducible] def jY (wi:TI) (fr:List Nat) (tc:TT) (te:TE):TE:=fun σ H Q=>wi σ H fun J H1=>∃ W:Nat→Nat→List V→Hp→Prop,(∃ m,W 0 m [] H1)∧∀ i m xs H,W i m xs H→xs.length≤1000000 ∧
  ((J.stop i H∧∀ p,H p=none→Q (.ref p) (upd H p (.lst xs))) ∨
   (J.go i H∧∀ y H',J.yld i H y H'→tc (some y::bM fr σ) H' fun b H2=>if b=true then te (some y::bM fr σ) H2 (fun z H3=>∃ m',m' < m∧W (i+1) m' (xs++[z]) H3) else ∃ m',m' < m∧W (i+1) m' xs H2))
section
variable {X:Cx} {sc:Scope} {cl:List (Str×Addr)} {x:Str} {fr:List Nat} {N:List Str} {elt iter:Expr} {px pos:Pos} {ifs:List Expr} {wi:TI} {tc:TT} {te:TE}
theorem qW (hc:X.calm=true) (hx:∀ e s,¬ X.xe e s) (S:dW X sc cl x fr N)
    (hb:∀ C s H ex pn,PTs (dJ X sc cl C N s H ex pn) ifs tc∧PE (dJ X sc cl C N s H ex pn) elt te)
    {pins:List (Addr×Obj)} {σ:St} {H:Hp} {s:Shared} {it:Addr} {fp:List Addr} {tn:Nat→Heap→Prop} {J:It} {Q:VK} {RR:Value→Addr→Result→Shared→Prop} {E:Value→Shared→Prop}
    (I:Inv X pins σ H s) (T:Turn X.prog X.w X.K (.Name x px) J fp it tn) (st:tn 0 s.heap) (hf:∀ b∈fp,pX X pins H b)
    {W:Nat→Nat→List V→Hp→Prop} {m0:Nat} (w0:W 0 m0 [] H)
    (turn:∀ i m xs H,W i m xs H→xs.length≤1000000 ∧
      ((J.stop i H∧∀ p,H p=none→Q (.ref p) (upd H p (.lst xs))) ∨
       (J.go i H∧∀ y H',J.yld i H y H'→tc (some y::bM fr σ) H' fun b H2=>if b=true then te (some y::bM fr σ) H2 (fun z H3=>∃ m',m' < m∧W (i+1) m' (xs++[z]) H3) else ∃ m',m' < m∧W (i+1) m' xs H2)))
    (fin:∀(D C:Addr) (s':Shared) (m':Str→Option Value) (H':Hp),s'.heap.Ns C m'→pX X pins H' C→(∀ h',Heap.SameBut C s'.heap h'→Inv X pins σ H' {s' with heap:=h'})→Q (.ref D) H'→RR (.ref D) C (.ok .next) s') :
    wpAny (model X.prog X.w) X.A (newList []) (fun acc s₃=>wpAny (model X.prog X.w) X.A (newFunctionEnv sc X.env.globals cl [] X.env.qual none .none (some X.env)) (fun cenv s₄ =>
      codeAny (model X.prog X.w) X.A (.compStart (.ListComp elt [⟨.Name x px,iter,ifs,0⟩] sc pos) 0 (.ref it) acc {cenv with scope:=relabel sc X.env}) (RR acc cenv.locals) s₄) E s₃) E s:=by
  refine wpAny_newObj_type (wpAny_newFunctionEnv S.nocell (by intro y hy;simp at hy) (fun h₁ hns₁ hsb₁=>?_) S.kind)
  dsimp only at hns₁ hsb₁ ⊢
  generalize hH2:s.heap.push {cls:=.type "list",dict:=none,data:=.seq ([]:List Value).toArray}=G2 at hns₁ hsb₁ ⊢
  have hCs:G2.objs.size=s.heap.objs.size+1:=by rw [← hH2,Heap.size_push]
  have hDC:s.heap.objs.size≠G2.objs.size:=by rw [hCs];exact Nat.ne_of_lt (Nat.lt_succ_self _)
  have hC:s.heap.objs.size≤G2.objs.size:=by rw [hCs];exact Nat.le_succ _
  have below:∀ b,b < s.heap.objs.size→b≠G2.objs.size:=fun b hb=>by rw [hCs];exact Nat.ne_of_lt (Nat.lt_succ_of_lt hb)
  have old:∀ b o,s.heap.get? b=some o→h₁.get? b=some o:=fun b o e=>hsb₁.extBut b o (below b (Heap.lt_size e)) (Heap.get?_push_of_some _ (hH2 ▸ Heap.get?_push_of_some _ e))
  have hD1:h₁.get? s.heap.objs.size=some {cls:=.type "list",data:=.seq ([]:List Value).toArray 0}:=hsb₁.extBut _ _ hDC (Heap.get?_push_of_some _ (hH2 ▸ Heap.get?_push_size _ rfl))
  have hfo:∀ b∈fp,b < s.heap.objs.size:=fun b hbm=>by
    obtain ⟨o,e,_⟩:=T.obj 0 s.heap st b hbm
    exact Heap.lt_size e
  have hDn:H s.heap.objs.size=none:=I.hok.fresh (Nat.le_refl _)
  -- what stays true of the made list's place
  have Dstk:s.heap.objs.size∉frs X.stack:=fun hm=>by
    rcases List.mem_cons.mp (I.stkSub _ hm) with z | z
    · exact absurd I.lt (by rw [← z];exact Nat.lt_irrefl _)
    · exact I.nofs (Nat.le_refl _) z
  have Dcell:∀ y c,cl.lookup y=some c→c≠s.heap.objs.size:=fun y c e z=>by
    obtain ⟨v,q⟩:=I.cell y c (S.sub y c e)
    exact absurd q.lt (by rw [z];exact Nat.lt_irrefl _)
  have Dpin:∀ p∈X.pn++pins,p.1≠s.heap.objs.size:=fun p hp z=>absurd (Heap.lt_size (I.pin p hp).1) (by rw [z];exact Nat.lt_irrefl _)
  have Dfp:s.heap.objs.size∉fp:=fun hm=>Nat.lt_irrefl _ (hfo _ hm)
  have loop:∀ s₃:Shared,s₃={s with heap:=h₁,toks:=s.toks+([]:List (Str×Value)).length} →
      codeAny (model X.prog X.w) X.A (.compLoop (.ListComp elt [⟨.Name x px,iter,ifs,0⟩] sc pos) 0 (.ref it) (.ref s.heap.objs.size) (compEnvC sc cl G2.objs.size X.env)) (RR (.ref s.heap.objs.size) G2.objs.size) s₃:=by
    rintro s₃ rfl
    have I0:Inv (dJ X sc cl G2.objs.size N s H fp (X.pn++pins)) [] (none::bM fr σ) H {s with heap:=h₁,toks:=s.toks+([]:List (Str×Value)).length}:=comp_inv I S hf hfo hC hns₁ old
    refine xQ (fun n s'=>∃(i:Nat) (xs:List V) (vals:List Value) (k:Nat) (v0:Option V) (H':Hp),Inv (dJ X sc cl G2.objs.size N s H fp (X.pn++pins)) [] (v0::bM fr σ) H' s'∧tn i s'.heap∧(∀ b∈fp,H' b=none) ∧
      s'.heap.get? s.heap.objs.size=some {cls:=.type "list",data:=.seq vals.toArray k}∧Vals xs vals∧H' s.heap.objs.size=none∧W i n xs H') ?_ m0
      ⟨0,[],[],0,none,H,I0,T.keep _ _ _ st fun b _ o e=>old b o e,fun b hb=>(hf b hb).1,hD1,.nil,hDn,w0⟩
    rintro n s1 ⟨i,xs,vals,k,v0,H1,I1,st1,fr1,hg1,rv1,hD1',w1⟩
    have hlen:=rv1.length
    obtain ⟨hz,step⟩:=turn i n xs H1 w1
    have hz2:xs.length≤sizeLine:=Nat.le_trans hz (by decide)
    have stat:∀ {H':Hp} {pl:List (Addr×Obj)},(∀ b∈fp,H' b=none)→(∀ p∈pl,p.1=s.heap.objs.size)→∀ b∈fp,pX (dJ X sc cl G2.objs.size N s H fp (X.pn++pins)) pl H' b:=fun {H' pl} hn hpl b hb =>
      ⟨hn b hb,below b (hfo b hb),nostk I (hf b hb).2.1 (hf b hb).2.2.1,.inl hb,fun y c e=>(hf b hb).2.2.2.2.1 y c (S.sub y c e),fun p hp z=>by
        rcases List.mem_append.mp hp with q | q
        · exact (hf b hb).2.2.2.2.2 p q z
        · exact Dfp (by rw [← hpl p q,z];exact hb)⟩
    have I1':Inv (dJ X sc cl G2.objs.size N s H fp (X.pn++pins)) [(s.heap.objs.size,{cls:=.type "list",data:=.seq vals.toArray k})] (v0::bM fr σ) H1 s1:=I1.pins_of fun p hp=>by
      have e:p=(s.heap.objs.size,{cls:=.type "list",data:=.seq vals.toArray k}):=by simpa using hp
      subst e
      exact ⟨hg1,hD1',hDC,Dstk,fun v z=>by cases z⟩
    rcases step with ⟨stop,hq⟩ | ⟨go,step⟩
    · refine thn (T.done (dJ X sc cl G2.objs.size N s H fp (X.pn++pins)) rfl rfl rfl hc i [(s.heap.objs.size,{cls:=.type "list",data:=.seq vals.toArray k})] s1 _ H1 _ I1' (stat fr1 fun p hp=>by
        have e:p=(s.heap.objs.size,{cls:=.type "list",data:=.seq vals.toArray k}):=by simpa using hp
        rw [e]) st1 stop) fun r s2 ⟨hr,I2⟩=>?_
      subst hr
      obtain ⟨g2,n2,_⟩:=I2.pin (s.heap.objs.size,{cls:=.type "list",data:=.seq vals.toArray k}) (List.mem_append_right _ (by simp))
      obtain ⟨m2,hn2,_⟩:=I2.loc
      have hCn:upd H1 s.heap.objs.size (.lst xs) G2.objs.size=none:=by
        rw [aI (Ne.symm hDC)]
        exact I2.free
      exact fin s.heap.objs.size G2.objs.size s2 m2 _ hn2 (I.fpOk hC hCn) (fun h' hs'=>comp_end I hf I2 hC (Nat.le_refl _) hDC n2 g2 rv1 hz2 hs') (hq _ n2)
    · refine thn (T.item (dJ X sc cl G2.objs.size N s H fp (X.pn++pins)) rfl rfl rfl hc i [(s.heap.objs.size,{cls:=.type "list",data:=.seq vals.toArray k})] s1 _ H1 _ I1' (stat fr1 fun p hp=>by
        have e:p=(s.heap.objs.size,{cls:=.type "list",data:=.seq vals.toArray k}):=by simpa using hp
        rw [e]) st1 go) fun r s2 ⟨u,hr,h2⟩=>?_
      subst hr
      refine thn h2 fun _ s3 ⟨y,H3,I3,r3,y3,st3,fr3⟩=>?_
      have I3':=I3.pinned (stat fr3 fun p hp=>by
        have e:p=(s.heap.objs.size,{cls:=.type "list",data:=.seq vals.toArray k}):=by simpa using hp
        rw [e]) (T.obj _ _ st3)
      -- what the pins say again behind each part
      have back:∀ {σ9:St} {H9:Hp} {s9:Shared},Inv (dJ X sc cl G2.objs.size N s H fp (X.pn++pins)) ([(s.heap.objs.size,{cls:=.type "list",data:=.seq vals.toArray k})]++rO fp s3.heap) σ9 H9 s9 →
          tn (i+1) s9.heap∧(∀ b∈fp,H9 b=none)∧s9.heap.get? s.heap.objs.size=some {cls:=.type "list",data:=.seq vals.toArray k}∧H9 s.heap.objs.size=none:=fun {σ9 H9 s9} I9=>by
        refine ⟨T.keep _ _ _ st3 fun b hb o e=>(I9.pin (b,o) (List.mem_append_right _ (List.mem_append_right _ (kG hb e)))).1,fun b hb=>?_,?_⟩
        · obtain ⟨o,e,d⟩:=T.obj _ _ st3 b hb
          exact (I9.pin (b,o) (List.mem_append_right _ (List.mem_append_right _ (kG hb e)))).2.1
        · obtain ⟨a1,a2,_⟩:=I9.pin (s.heap.objs.size,{cls:=.type "list",data:=.seq vals.toArray k}) (List.mem_append_right _ (List.mem_append_left _ (by simp)))
          exact ⟨a1,a2⟩
      have hN0:(dJ X sc cl G2.objs.size N s H fp (X.pn++pins)).N[0]?=some x:=by
        show N[0]?=some x
        rw [S.N0]
        rfl
      have hloc:(relabel sc X.env).names.lookup x=some .local:=lookup_relabel_local S.tgt
      have hpg:PG (dJ X sc cl G2.objs.size N s H fp (X.pn++pins)) (.Name x px) (rX 0):=i0 (i:=0) S.nd hN0 (.inl hloc) (.inr hloc)
      have noX:∀ e s',(dJ X sc cl G2.objs.size N s H fp (X.pn++pins)).xe e s'→qM X.prog X.w X.A (compEnvC sc cl G2.objs.size X.env) (RR (.ref s.heap.objs.size) G2.objs.size) e s':=fun e s' z=>(hx e s' z).elim
      have hstep:=step y H3 y3
      refine wpAny_mono (hpg _ s3 _ H3 y u (fun σ' H'=>σ'=some y::bM fr σ∧H'=H3) I3' r3 ⟨rfl,rfl⟩) (fun _ s4 ⟨σ4,H4,I4,e4,e4'⟩=>?_) noX
      subst e4 e4'
      obtain ⟨hbT,hbE⟩:=hb G2.objs.size s H fp (X.pn++pins)
      refine wpAny_mono (hbT _ s4 _ H4 _ I4 hstep) (fun ok s5 ⟨H5,I5,q5⟩=>?_) noX
      cases ok with
      | false =>
        rw [if_neg Bool.false_ne_true]
        have q5':∃ m',m' < n∧W (i+1) m' xs H5:=q5
        obtain ⟨m',hm,w5⟩:=q5'
        obtain ⟨b1,b2,b3,b4⟩:=back I5
        exact ⟨m',hm,i+1,xs,vals,k,some y,H5,I5.pins_of (fun p hp=>absurd hp (by simp)),b1,b2,b3,rv1,b4,w5⟩
      | true =>
        rw [if_pos rfl]
        refine wpAny_mono (hbE _ s5 _ H5 _ I5 q5) (fun z s6 ⟨v6,H6,I6,r6,q6⟩=>?_) noX
        obtain ⟨m',hm,w6⟩:=q6
        obtain ⟨b1,b2,b3,b4⟩:=back I6
        refine call_meets F.slot_list_append ⟨_,b3,rfl⟩ F.entry_list_append (F.args_list_append_2 _ _) (PySem.list_append s.heap.objs.size vals.toArray k z (by rw [List.size_toArray];omega)) ⟨b3,?_⟩
        have q7:=PySem.IsL.update b3 (fun a:Array Value=>a.push z)
        have hpush:vals.toArray.push z=(vals++[z]).toArray:=by simp
        rw [hpush] at q7
        have I6':Inv (dJ X sc cl G2.objs.size N s H fp (X.pn++pins)) [] (some y::bM fr σ) H6 s6:=I6.pins_of (fun p hp=>absurd hp (by simp))
        have others:∀ b o,b≠s.heap.objs.size→s6.heap.get? b=some o→(s6.heap.update s.heap.objs.size (Obj.mapSeq fun a=>a.push z)).get? b=some o:=fun b o hb' e=>(Heap.get?_update_other _ _ (Ne.symm hb')).trans e
        refine ⟨m',hm,i+1,xs++[v6],vals++[z],_,some y,H6,I6'.turned (it:=s.heap.objs.size) others b4 hDC (.inr (Nat.le_refl _)) Dcell (fun p hp z'=>?_),T.keep _ _ _ b1 fun b hb' o e=>others b o (fun z'=>Dfp (by rw [← z'];exact hb')) e,b2,q7,rv1.append (.cons r6 .nil),b4,w6⟩
        have hp':p∈X.pn++pins:=by
          have z2:p∈(X.pn++pins)++[]:=hp
          simpa using z2
        exact Dpin p hp' z'
  exact codeAny_compStart_list (loop _ rfl) (T.self _ _ _ _ _ (T.keep _ _ _ st fun b _ o e=>old b o e) (loop _ rfl))
theorem u1 (hc:X.calm=true) (hx:∀ e s,¬ X.xe e s) (S:dW X sc cl x fr N) (hi:PI X (.Name x px) iter wi)
    (hb:∀ C s H ex pn,PTs (dJ X sc cl C N s H ex pn) ifs tc∧PE (dJ X sc cl C N s H ex pn) elt te)
    (hs:∀ v,foldedSetIterable iter X.env v=pure v:=by intro _;rfl):PE X (.ListComp elt [⟨.Name x px,iter,ifs,0⟩] sc pos) (jY wi fr tc te):=by
  intro pins s σ H Q I h
  unfold jY at h
  rw [eval_ListComp]
  refine wpAny_comprehension_free (use:=none) rfl hs S.clos S.kind S.names ?_
  refine thn (hi pins s σ H _ I h) fun v s1 h1=>thn h1 fun itv s2 h2=>?_
  obtain ⟨it,fp,tn,J,H2,e,I2,T,st2,f2,W,⟨m0,w0⟩,turn⟩:=h2
  subst e
  refine qW (RR:=fun acc C=>compPost (model X.prog X.w) X.A X.xe none (EP X pins σ Q) acc C) hc hx S hb I2 T st2 f2 w0 turn ?_
  intro D C s' m' H' hn _ hfin q
  exact ⟨m',hn,fun h' hs'=>⟨.ref D,H',hfin h' hs',rfl,q⟩⟩
end
theorem dW.nofree {X:Cx} {sc:Scope} {x:Str} (kind:sc.kind=.function) (nc:(sc.names.all fun y=>y.2 != .cell && y.2 != .free)=true)
    (nm:(sc.names.all fun y=>!(y.2 == .local) || sc.names.lookup y.1 == some .local)=true) (tgt:sc.names.lookup x=some .local):dW X sc [] x [] [x] where
  kind:=kind
  nocell:=fun y hy e=>by
    have h:=List.all_eq_true.mp nc y hy
    rw [e] at h
    exact absurd h (by decide)
  names:=fun y hy e=>by
    have h:=List.all_eq_true.mp nm y hy
    rw [e] at h
    simpa using h
  clos:=closureFor_none fun y hy e=>by
    have h:=List.all_eq_true.mp nc y hy
    rw [e] at h
    exact absurd h (by decide)
  sub:=fun y c h=>by cases h
  has:=fun y h=>by
    exfalso
    have key:∀ l:List (Str×NameKind),(l.all fun y=>y.2 != .cell && y.2 != .free)=true→∀ k,(l.map fun(n,k)=>if (k == NameKind.free && X.env.scope.kind == .function && X.env.kindOf n == some .cell) then (n,NameKind.cell) else (n,k)).lookup y=some k→k≠.cell∧k≠.free:=by
      intro l
      induction l with
      | nil=>intro _ k e;cases e
      | cons p r ih =>
        obtain ⟨n,kk⟩:=p
        intro ha k e
        rw [List.all_cons,Bool.and_eq_true,Bool.and_eq_true] at ha
        obtain ⟨⟨h1,h2⟩,h3⟩:=ha
        have h2':(kk == NameKind.free)=false:=by simpa using h2
        rw [List.map_cons] at e
        dsimp only at e
        rw [h2',Bool.false_and,Bool.false_and,if_neg Bool.false_ne_true,List.lookup_cons] at e
        cases q:(y == n) with
        | true =>
          rw [q] at e
          have e':kk=k:=Option.some.inj e
          subst e'
          exact ⟨by simpa using h1,by simpa using h2⟩
        | false =>
          rw [q] at e
          exact ih h3 k e
    rcases h with h | h
    · exact (key sc.names nc _ h).1 rfl
    · exact (key sc.names nc _ h).2 rfl
  tgt:=tgt
  nd:=by simp
  N0:=rfl
  frc:=fun j hj=>by cases hj
end L2
namespace L2
open PySem PySem.Spec PyProof.Rows
section
variable {X:Cx}
theorem sl_str:SlR X (fun x lo hi H Q=>∃ z,x=.str z∧z.length≤sizeLine∧Q (.str (Txt.slice z lo hi)) H):=by
 intro pins s σ H x v vl vu lo hi sl Q I rx hs pl pu h
 obtain ⟨z,rfl,hz,q⟩:=h
 obtain ⟨t,rfl⟩:=rx
 have fin:∀ t' k,EP X pins σ Q (.str (Txt.slice z lo hi) t') {s with toks:=k}:=fun t' k=>⟨.str _,H,I.tok _,⟨_,rfl⟩,q⟩
 refine ⟨"str",_,F.slot_str_getitem.lookup,typeIs_str s z t,?_⟩
 cases pl with
 | none =>
  cases pu with
  | none=>exact wpAny_getItem_str_slice (l:=none) (u:=none) (st:=none) hs rfl (post_val_or_str ⟨Nat.le_trans (Txt.slice_le z _ _) hz,fin⟩)
  | int j uj=>exact wpAny_getItem_str_slice (l:=none) (u:=some (j,uj)) (st:=none) hs rfl (post_val_or_str ⟨Nat.le_trans (Txt.slice_le z _ _) hz,fin⟩)
 | int i ui =>
  cases pu with
  | none=>exact wpAny_getItem_str_slice (l:=some (i,ui)) (u:=none) (st:=none) hs rfl (post_val_or_str ⟨Nat.le_trans (Txt.slice_le z _ _) hz,fin⟩)
  | int j uj=>exact wpAny_getItem_str_slice (l:=some (i,ui)) (u:=some (j,uj)) (st:=none) hs rfl (post_val_or_str ⟨Nat.le_trans (Txt.slice_le z _ _) hz,fin⟩)
end
section
variable {X:Cx} {tg:Expr}
end
noncomputable def cW (n:Nat) (Pv:Nat→List V→Hp→Prop) (i m:Nat) (xs:List V) (H:Hp):Prop:=m=n - i∧i≤n∧Pv i xs H
theorem cW.next {n:Nat} {Pv:Nat→List V→Hp→Prop} {i:Nat} {xs:List V} {H:Hp} (hi:i < n) (p:Pv (i+1) xs H):∃ m',m' < n - i∧cW n Pv (i+1) m' xs H:=⟨n - (i+1),by omega,rfl,hi,p⟩
section
variable {fr:List Nat} {tc:TT} {te:TE} {σ:St} {H:Hp} {Q:VK}
theorem comp_list {K:PySem.W.Frag} {a:Addr} {ys:List V} (Pv:Nat→List V→Hp→Prop) (h0:Pv 0 [] H) (hz:∀ i xs H,Pv i xs H→xs.length≤1000000) (hl:∀ i xs H,Pv i xs H→eA K H a ys)
    (hs:∀ i y xs H,i < ys.length→ys[i]?=some y→Pv i xs H→tc (some y::bM fr σ) H fun b H2=>if b=true then te (some y::bM fr σ) H2 (fun z H3=>∃ m',m' < ys.length - i∧cW ys.length Pv (i+1) m' (xs++[z]) H3) else ∃ m',m' < ys.length - i∧cW ys.length Pv (i+1) m' xs H2)
    (hd:∀ xs H,Pv ys.length xs H→∀ p,H p=none→Q (.ref p) (upd H p (.lst xs))) :
    ∃ W:Nat→Nat→List V→Hp→Prop,(∃ m,W 0 m [] H)∧∀ i m xs H,W i m xs H→xs.length≤1000000 ∧
      (((Itl K a).stop i H∧∀ p,H p=none→Q (.ref p) (upd H p (.lst xs))) ∨
       ((Itl K a).go i H∧∀ y H',(Itl K a).yld i H y H'→tc (some y::bM fr σ) H' fun b H2=>if b=true then te (some y::bM fr σ) H2 (fun z H3=>∃ m',m' < m∧W (i+1) m' (xs++[z]) H3) else ∃ m',m' < m∧W (i+1) m' xs H2)):=by
  refine ⟨cW ys.length Pv,⟨ys.length,by simp,Nat.zero_le _,h0⟩,?_⟩
  rintro i m xs H ⟨rfl,hi,p⟩
  refine ⟨hz i xs H p,?_⟩
  have q:=hl i xs H p
  by_cases hlt:i < ys.length
  · refine .inr ⟨⟨ys,ys[i],q,by simp [hlt]⟩,fun y H' yy=>?_⟩
    obtain ⟨e,yy⟩:=yy
    subst e
    exact hs i y xs _ hlt (yy ys q) p
  · have e:i=ys.length:=by omega
    subst e
    exact .inl ⟨⟨ys,q,Nat.le_refl _⟩,hd xs H p⟩
end
section
variable {fr:List Nat} {tc:TT} {te:TE} {σ:St} {H H1:Hp} {Q:VK}
end
end L2
namespace L2
open PySem PySem.Spec PyProof.Rows
theorem rG {l:List (Str×NameKind)} {y:Str} {k:NameKind} (h:l.lookup y=some k):(y,k)∈l:=PySem.mem_of_lookup h
theorem dW.free {X:Cx} {sc:Scope} {cl:List (Str×Addr)} {x:Str} {fr:List Nat} {N:List Str} (kind:sc.kind=.function) (nc:(sc.names.all fun y=>y.2 != .cell)=true)
    (nm:(sc.names.all fun y=>!(y.2 == .local) || sc.names.lookup y.1 == some .local)=true) (tgt:sc.names.lookup x=some .local) (clos:closureFor sc X.env=pure cl)
    (sub:∀ y c,cl.lookup y=some c→X.env.cells.lookup y=some c) (has:((relabel sc X.env).names.all fun y=>(y.2 != .cell && y.2 != .free) || (cl.lookup y.1).isSome)=true)
    (nd:N.Nodup) (N0:N=x::fr.map fun j=>X.N.getD j x) (frc:∀ j∈fr,∃ y,X.N[j]?=some y∧X.env.kindOf y=some .cell∧((relabel sc X.env).names.lookup y=some .cell∨(relabel sc X.env).names.lookup y=some .free)):dW X sc cl x fr N where
  kind:=kind
  nocell:=fun y hy e=>by
    have h:=List.all_eq_true.mp nc y hy
    rw [e] at h
    exact absurd h (by decide)
  names:=fun y hy e=>by
    have h:=List.all_eq_true.mp nm y hy
    rw [e] at h
    simpa using h
  clos:=clos
  sub:=sub
  has:=fun y h=>by
    have key:∀ k,(relabel sc X.env).names.lookup y=some k→(k=.cell∨k=.free)→∃ c,cl.lookup y=some c:=fun k e hk=>by
      have h:=List.all_eq_true.mp has (y,k) (rG e)
      rcases hk with rfl | rfl
      · exact Option.isSome_iff_exists.mp (by simpa using h)
      · exact Option.isSome_iff_exists.mp (by simpa using h)
    rcases h with h | h
    · exact key _ h (.inl rfl)
    · exact key _ h (.inr rfl)
  tgt:=tgt
  nd:=nd
  N0:=N0
  frc:=frc
section
variable {X:Cx} {sc:Scope} {cl:List (Str×Addr)} {x:Str} {fr:List Nat} {N:List Str} {elt iter:Expr} {px pos:Pos} {ifs:List Expr} {wi:TI} {tc:TT} {te:TE}
theorem fG {i:Nat} {y:Str} {py spos:Pos} (hc:X.calm=true) (hx:∀ e s,¬ X.xe e s) (S:dW X sc cl x fr N) (hi:PI X (.Name x px) iter wi)
    (hb:∀ C s H ex pn,PTs (dJ X sc cl C N s H ex pn) ifs tc∧PE (dJ X sc cl C N s H ex pn) elt te)
    (hN:X.N.Nodup) (hy:X.N[i]?=some y) (hl:Loc X.env.scope y) (hsw:swapsWith (.ListComp elt [⟨.Name x px,iter,ifs,0⟩] sc pos) (some (.Name y py)) spos.line X.env=pure true:=by rfl)
    (hs:∀ v,foldedSetIterable iter X.env v=pure v:=by intro _;rfl) (hf:X.fn y=true∨X.env.scope.names.lookup y=some .local:=by first | exact .inl rfl | exact .inr rfl | assumption) :
    PS X (.Assign [.Name y py] (.ListComp elt [⟨.Name x px,iter,ifs,0⟩] sc pos) spos) (tAsg (jY wi fr tc te) (rX i)):=by
  intro pins s σ H D I h
  have h:jY wi fr tc te σ H (fun x H1=>rX i x σ H1 D.nx):=h
  unfold jY at h
  rw [exec_Assign_Name_used _ _ _ _ hsw]
  refine wpAny_bind (wpAny_standAt (wpAny_bind ?_))
  show wpAny _ X.A (do let _ ← comprehension (.ListComp elt [⟨.Name x px,iter,ifs,0⟩] sc pos) sc X.env _ (newList []) false (eval iter X.env) (some (assign (.Name y py) X.env))) _ _ s
  refine wpAny_bind (wpAny_mono (wpAny_comprehension_free (use:=some (assign (.Name y py) X.env)) (Q:=fun _ s'=>SP X pins D .next s') rfl hs S.clos S.kind S.names
    (thn (hi pins s σ H _ I h) fun v s1 h1=>thn h1 fun itv s2 h2=>?_)) (fun _ s' hq=>wpAny_pure (wpAny_pure hq)) fun _ _ e=>e)
  obtain ⟨it,fp,tn,J,H2,e,I2,T,st2,f2,W,⟨m0,w0⟩,turn⟩:=h2
  subst e
  refine qW (Q:=fun x H1=>rX i x σ H1 D.nx) (RR:=fun acc C=>compPost (model X.prog X.w) X.A X.xe (some (assign (.Name y py) X.env)) (fun _ s'=>SP X pins D .next s') acc C) hc hx S hb I2 T st2 f2 w0 turn ?_
  intro D' C s' m' H' hn fC hfin q
  show wpAny _ X.A (assign (.Name y py) X.env (.ref D')) _ _ _
  have I':Inv X pins σ H' s':=hfin s'.heap (Heap.SameBut.refl ..)
  refine wpAny_assign_Name (uA (v:=.ref D') I' hN hy hl rfl (fun s'' I'' ⟨a,hsa,ha⟩=>?_) hf)
  obtain ⟨f0,f1,f2',f3,f4,f5⟩:=fC
  have hCa:C≠a:=fun z=>by
    rcases ha with ha | ha
    · exact f1 (z.trans ha)
    · exact f4 y a ha z.symm
  refine ⟨m',hn.sameBut hsa hCa,fun h' hs'=>?_⟩
  exact ⟨σ.set i (some (.ref D')),H',I''.turned (t':=s''.toks) (fun b o hb' e=>(hs'.2 b hb').trans e) f0 f1 f3 f4 f5,q⟩
end
section
variable {prog:Program} {w:World} {A:Around} {E:Value→Shared→Prop} {s:Shared}
end
end L2
namespace L2
open PySem PySem.Spec PyProof.Rows
section
variable {σ:St} {H:Hp} {Q:VK} {i j:Int} {x y:Str} {v:V} {n:Nat} {a:Addr}
theorem w_v0s:iW 0 (some v::σ) H Q=Q v H:=by simp [iW]
theorem pV {o:Option V}:iW (n+1) (o::σ) H Q=iW n σ H Q:=by simp [iW]
theorem w_v1 {o0:Option V}:iW 1 (o0::some v::σ) H Q=Q v H:=(pV.trans w_v0s)
theorem w_v2 {o0 o1:Option V}:iW 2 (o0::o1::some v::σ) H Q=Q v H:=(pV.trans w_v1)
theorem w_v3 {o0 o1 o2:Option V}:iW 3 (o0::o1::o2::some v::σ) H Q=Q v H:=(pV.trans w_v2)
theorem w_v4 {o0 o1 o2 o3:Option V}:iW 4 (o0::o1::o2::o3::some v::σ) H Q=Q v H:=(pV.trans w_v3)
theorem w_v5 {o0 o1 o2 o3 o4:Option V}:iW 5 (o0::o1::o2::o3::o4::some v::σ) H Q=Q v H:=(pV.trans w_v4)
theorem w_v6 {o0 o1 o2 o3 o4 o5:Option V}:iW 6 (o0::o1::o2::o3::o4::o5::some v::σ) H Q=Q v H:=(pV.trans w_v5)
theorem w_v7 {o0 o1 o2 o3 o4 o5 o6:Option V}:iW 7 (o0::o1::o2::o3::o4::o5::o6::some v::σ) H Q=Q v H:=(pV.trans w_v6)
theorem w_v8 {o0 o1 o2 o3 o4 o5 o6 o7:Option V}:iW 8 (o0::o1::o2::o3::o4::o5::o6::o7::some v::σ) H Q=Q v H:=(pV.trans w_v7)
theorem w_v9 {o0 o1 o2 o3 o4 o5 o6 o7 o8:Option V}:iW 9 (o0::o1::o2::o3::o4::o5::o6::o7::o8::some v::σ) H Q=Q v H:=(pV.trans w_v8)
theorem w_v10 {o0 o1 o2 o3 o4 o5 o6 o7 o8 o9:Option V}:iW 10 (o0::o1::o2::o3::o4::o5::o6::o7::o8::o9::some v::σ) H Q=Q v H:=(pV.trans w_v9)
theorem w_v11 {o0 o1 o2 o3 o4 o5 o6 o7 o8 o9 o10:Option V}:iW 11 (o0::o1::o2::o3::o4::o5::o6::o7::o8::o9::o10::some v::σ) H Q=Q v H:=(pV.trans w_v10)
theorem w_v12 {o0 o1 o2 o3 o4 o5 o6 o7 o8 o9 o10 o11:Option V}:iW 12 (o0::o1::o2::o3::o4::o5::o6::o7::o8::o9::o10::o11::some v::σ) H Q=Q v H:=(pV.trans w_v11)
theorem aY {α β:Type} {f:α→β} {a:α} {l:List α}:List.map f (a::l)=f a::List.map f l:=rfl
theorem bD {α β:Type} {f:α→β}:List.map f []=[]:=rfl
theorem w_rI {C:Int→Int→Prop} {g:Int→Int→V}:rI C g (.int i) (.int j) H Q=(C i j∧Q (g i j) H):=by simp [rI]
theorem w_rI0 {g:Int→Int→V}:rI0 g (.int i) (.int j) H Q=Q (g i j) H:=by simp [rI0]
theorem w_rU {g:Int→V}:rU g (.int i) H Q=Q (g i) H:=by simp [rU]
theorem w_lit (h:Nat.ble n 1000=true):(n≤sizeLine)=True:=eq_true (Nat.le_of_lt (small1000 (Nat.le_of_ble_eq_true h)))
theorem w_eqI:rEq (.int i) (.int j) H Q=Q (.bl (decide (i=j))) H:=by simp only [rEq,show scal (.int i) (.int j)=true from rfl,V.int.injEq,true_and]
theorem w_eqS:rEq (.str x) (.str y) H Q=Q (.bl (decide (x=y))) H:=by simp only [rEq,show scal (.str x) (.str y)=true from rfl,V.str.injEq,true_and]
theorem w_neI:rNe (.int i) (.int j) H Q=Q (.bl (!decide (i=j))) H:=by simp only [rNe,show scal (.int i) (.int j)=true from rfl,V.int.injEq,true_and]
theorem w_neS:rNe (.str x) (.str y) H Q=Q (.bl (!decide (x=y))) H:=by simp only [rNe,show scal (.str x) (.str y)=true from rfl,V.str.injEq,true_and]
end
theorem lK {a b:String}:(Str.ofString a=Str.ofString b)=(a=b):=by
 refine propext ⟨fun h=>?_,fun h=>by rw [h]⟩
 rw [Str.ofString_eq_toList,Str.ofString_eq_toList] at h
 have e:(a.toList.map Char.toNat)=(b.toList.map Char.toNat):=by
  have:=congrArg (fun z:Str=>z.cps.toList) h
  simpa using this
 have inj:∀ x y:Char,x.toNat=y.toNat→x=y:=fun x y q=>Char.ext (UInt32.toNat_inj.mp q)
 have:=(List.map_inj_right (f:=Char.toNat) (fun x y q=>inj x y q)).mp e
 exact String.toList_inj.mp this
noncomputable def Kp (S:List Addr) (H H':Hp):Prop:=∀ b o,H b=some o→b∉S→H' b=some o
section
variable {S T:List Addr} {H H1 H2:Hp} {a p:Addr} {o:HO}
theorem Kp.refl:Kp S H H:=fun _ _ h _=>h
theorem Kp.trans (x:Kp S H H1) (y:Kp S H1 H2):Kp S H H2:=fun b o h n=>y b o (x b o h n) n
theorem Kp.mono (x:Kp S H H1) (h:∀ b∈S,b∈T):Kp T H H1:=fun b o e n=>x b o e fun z=>n (h b z)
theorem Kp.new (h:H p=none):Kp S H (upd H p o):=fun b u e _=>by rw [aI (aL e h)];exact e
theorem Kp.set (h:p∈S):Kp S H (upd H p o):=fun b u e n=>by rw [aI (show b≠p from fun z=>n (by rw [z];exact h))];exact e
theorem Kp.at (x:Kp S H H1) (e:H a=some o) (n:a∉S:=by first | exact List.not_mem_nil | simp_all):H1 a=some o:=x a o e n
theorem Kp.same (x:Kp [] H H1):Same H H1:=fun b o e=>x b o e (by simp)
theorem Kp.of (x:Same H H1):Kp S H H1:=fun b o e _=>x b o e
theorem Kp.drop (x:Kp (p::S) H H1) (h:H p=none):Kp S H H1:=fun b o e n=>x b o e (by
 simp only [List.mem_cons,not_or]
 exact ⟨aL e h,n⟩)
end
end L2
namespace L2
open PySem PySem.Spec PyProof.Rows
noncomputable abbrev Tg {α:Type} (_:α):Type:=Unit
noncomputable def gN {α:Type} (o:Option α) (k:α→Prop) (_u:Tg k:=()):Prop:=match o with
 | some x=>k x
 | none=>False
noncomputable def onB (x:V) (k:Bool→Prop) (_u:Tg k:=()):Prop:=match x with
 | .bl b=>k b
 | _=>False
noncomputable def dQ (o:Option HO) (k:List V→Prop) (_u:Tg k:=()):Prop:=match o with
 | some (.lst xs)=>k xs
 | _=>False
noncomputable def kL (o:Option HO) (k:List V→Prop) (_u:Tg k:=()):Prop:=match o with
 | some (.lst xs)=>k xs
 | some (.tup xs)=>k xs
 | _=>False
noncomputable def cL (o:Option HO) (k:List (Key×V)→Prop) (_u:Tg k:=()):Prop:=match o with
 | some (.dK xs)=>k xs
 | _=>False
noncomputable def bC (x:V) (k:Addr→Prop) (_u:Tg k:=()):Prop:=match x with
 | .ref p=>k p
 | _=>False
noncomputable def e9 (x:V) (k:Int→Prop) (_u:Tg k:=()):Prop:=match x with
 | .int i=>k i
 | _=>False
theorem cO {α:Type} {o:Option α} {k:α→Prop} (h:gN o k):∃ x,o=some x∧k x:=by
 cases o with
 | none=>exact h.elim
 | some x=>exact ⟨x,rfl,h⟩
theorem onB_of {x:V} {k:Bool→Prop} (h:onB x k):∃ b,x=.bl b∧k b:=by
 cases x with
 | bl b=>exact ⟨b,rfl,h⟩
 | _=>exact h.elim
theorem qP {x:V} {k:Bool→Prop}:(∃ b,x=.bl b∧k b)=onB x k:=by
 refine propext ⟨fun ⟨b,e,h⟩=>by subst e;exact h,onB_of⟩
theorem aU {x:V} {k:Addr→Prop} (h:bC x k):∃ b,x=.ref b∧k b:=by
 cases x with
 | ref b=>exact ⟨b,rfl,h⟩
 | _=>exact h.elim
theorem dD {x:V} {k:Int→Prop} (h:e9 x k):∃ b,x=.int b∧k b:=by
 cases x with
 | int b=>exact ⟨b,rfl,h⟩
 | _=>exact h.elim
theorem eD {o:Option HO} {k:List V→Prop} (h:dQ o k):∃ xs,o=some (.lst xs)∧k xs:=by
 unfold dQ at h
 split at h
 ·exact ⟨_,rfl,h⟩
 ·exact h.elim
theorem lF {o:Option HO} {k:List V→Prop} (h:kL o k):∃ xs,(o=some (.lst xs)∨o=some (.tup xs))∧k xs:=by
 unfold kL at h
 split at h
 ·exact ⟨_,.inl rfl,h⟩
 ·exact ⟨_,.inr rfl,h⟩
 ·exact h.elim
theorem cN {o:Option HO} {k:List (Key×V)→Prop} (h:cL o k):∃ xs,o=some (.dK xs)∧k xs:=by
 unfold cL at h
 split at h
 ·exact ⟨_,rfl,h⟩
 ·exact h.elim
noncomputable def cIx:R2:=fun x y H Q=>match x with
 | .ref p=>kL (H p) fun xs=>e9 y fun i=>gN (j6 xs i) fun v=>Q v H
 | .str z=>e9 y fun i=>z.length≤sizeLine∧gN (j6 z.cps.toList i) fun c=>Q (.str ⟨#[c]⟩) H
 | _=>False
noncomputable def cCat (H:Hp) (Q:VK) (a:Addr) (oa ob:Option HO):Prop:=match oa,ob with
 | some (.lst xs),some (.lst ys)=>xs.length+ys.length≤sizeLine∧∀ p,H p=none→Q (.ref p) (upd H p (.lst (xs++ys)))
 | some (.tup xs),some (.tup ys)=>xs≠[]∧xs.length+ys.length≤sizeLine∧(ys≠[]→∀ p,H p=none→Q (.ref p) (upd H p (.tup (xs++ys))))∧(ys=[]→Q (.ref a) H)
 | _,_=>False
noncomputable def cAdd:R2:=fun x y H Q=>match x,y with
 | .int i,.int j=>Q (.int (i+j)) H
 | .str a,.str b=>a.length+b.length≤sizeLine∧Q (.str (a++b)) H
 | .ref a,.ref b=>cCat H Q a (H a) (H b)
 | _,_=>False
noncomputable def cCut (lo hi:Option Int) (H:Hp) (Q:VK) (o:Option HO):Prop:=match o with
 | some (.lst xs)=>∀ p,H p=none→Q (.ref p) (upd H p (.lst (kH xs lo hi)))
 | some (.tup xs)=>¬ (HT.fT xs.length 0 lo=0∧HT.fT xs.length xs.length hi=xs.length)∧∀ p,H p=none→Q (.ref p) (upd H p (.tup (kH xs lo hi)))
 | _=>False
noncomputable def cSl:V→Option Int→Option Int→Hp→VK→Prop:=fun x lo hi H Q=>match x with
 | .str z=>z.length≤sizeLine∧Q (.str (Txt.slice z lo hi)) H
 | .ref a=>cCut lo hi H Q (H a)
 | _=>False
noncomputable def cLen:List V→Hp→VK→Prop:=fun vs H Q=>match vs with
 | [.str z]=>z.length≤sizeLine∧Q (.int z.length) H
 | [.ref p]=>kL (H p) fun xs=>Q (.int xs.length) H
 | _=>False
noncomputable def cSet:V→V→V→Hp→(Hp→Prop)→Prop:=fun o i v H Q=>bC o fun p=>e9 i fun k=>dQ (H p) fun xs=>gN (yK xs.length k) fun j=>Q (upd H p (.lst (xs.set j v)))
noncomputable def iV:V→Option Key
 | .int i=>some (.inl i)
 | .str x=>some (.inr x)
 | .non=>some .no
 | _=>none
theorem wD {y:V} {k:Key} (h:iV y=some k):y=kV k:=by
 cases y<;>simp only [iV,Option.some.injEq,reduceCtorEq] at h<;>subst h<;>rfl
noncomputable def cGet1 (td ty:TE):TE:=fun σ H Q=>td σ H fun x H1=>bC x fun a=>cL (H1 a) fun _=>ty σ H1 fun y H2=>cL (H2 a) fun kvs=>gN (iV y) fun k=>Q ((bY kvs k).getD .non) H2
noncomputable def cGet (td ty:TE):TE:=fun σ H Q=>td σ H fun x H1=>ty σ H1 fun y H2=>bC x fun a=>cL (H2 a) fun kvs=>gN (iV y) fun k=>gN (bY kvs k) fun v=>Q v H2
noncomputable def cPut (td ty tv:TE):TS:=fun D σ H=>tv σ H fun v H1=>td σ H1 fun x H2=>ty σ H2 fun y H3=>bC x fun a=>cL (H3 a) fun kvs=>gN (iV y) fun k=>kvs.length < sizeLine∧D.nx σ (upd H3 a (.dK (d9 kvs k v)))
noncomputable def cIn (neg:Bool):R2:=fun x y H Q=>bC y fun p=>kL (H p) fun xs=>dP x=true∧xs.all dP=true∧Q (.bl (if neg=true then !vC x xs else vC x xs)) H
noncomputable def cInt:List V→Hp→VK→Prop:=fun vs H Q=>match vs with
 | [.int i]=>Q (.int i) H
 | [.bl k]=>Q (.int (if k=true then 1 else 0)) H
 | _=>False
noncomputable def cIsN:R2:=fun x y H Q=>match y with
 | .non=>Q (.bl (decide (x=.non))) H
 | _=>False
noncomputable def cNotN:R2:=fun x y H Q=>match y with
 | .non=>Q (.bl (!decide (x=.non))) H
 | _=>False
noncomputable def cMax:List V→Hp→VK→Prop:=fun vs H Q=>match vs with
 | [.int i,.int j]=>Q (.int (if j > i then j else i)) H
 | _=>False
noncomputable def cMin:List V→Hp→VK→Prop:=fun vs H Q=>match vs with
 | [.int i,.int j]=>Q (.int (if j < i then j else i)) H
 | _=>False
noncomputable def kSc (v:V) (T:String):Option Bool:=match v with
 | .int _=>if T = "int" then some true else if T = "bool"∨T = "str"∨T = "tuple" then some false else none
 | .bl _=>if T = "int"∨T = "bool" then some true else if T = "str"∨T = "tuple" then some false else none
 | .str _=>if T = "str" then some true else if T = "int"∨T = "bool"∨T = "tuple" then some false else none
 | .non=>if T = "int"∨T = "bool"∨T = "str"∨T = "tuple" then some false else none
 | _=>none
noncomputable def vS (o:Option HO) (T:String):Option Bool:=match o with
 | some (.lst _)=>if T = "int"∨T = "bool"∨T = "str"∨T = "tuple" then some false else none
 | some (.tup _)=>if T = "tuple" then some true else if T = "int"∨T = "bool"∨T = "str" then some false else none
 | some (.dK _)=>if T = "int"∨T = "bool"∨T = "str" then some false else none
 | _=>none
noncomputable def cIsi:List V→Hp→VK→Prop:=fun vs H Q=>match vs with
 | [.ref p,.ty T]=>gN (vS (H p) T) fun b=>Q (.bl b) H
 | [v,.ty T]=>gN (kSc v T) fun b=>Q (.bl b) H
 | _=>False
theorem kSc_of {K:PySem.W.Frag} {H:Hp} {v:V} {T:String} {b:Bool} (h:kSc v T=some b):nD K H v T b:=by
 unfold kSc at h
 split at h
 all_goals (repeat' split at h)
 all_goals first
  | cases h
  | skip
 all_goals first
  | (subst_vars;constructor)
  | (rename_i q;rcases q with rfl | rfl<;>constructor)
  | (rename_i q _;rcases q with rfl | rfl<;>constructor)
  | (rename_i q;rcases q with rfl | rfl | rfl<;>constructor)
  | (rename_i q;rcases q with rfl | rfl | rfl | rfl<;>constructor)
theorem kRef_of {K:PySem.W.Frag} {H:Hp} {p:Addr} {T:String} {b:Bool} (h:vS (H p) T=some b):nD K H (.ref p) T b:=by
 unfold vS at h
 split at h
 ·rename_i xs e
  have q:eA K H p xs:=.inl (.inl e)
  split at h
  ·cases h
   rename_i z
   rcases z with rfl | rfl | rfl | rfl
   ·exact .li q
   ·exact .lb q
   ·exact .ls q
   ·exact .lt q
  ·cases h
 ·rename_i xs e
  have q:gO K H p xs:=.inl (.inl e)
  split at h
  ·cases h
   subst_vars
   exact .tt q
  ·split at h
   ·cases h
    rename_i z
    rcases z with rfl | rfl | rfl
    ·exact .ti q
    ·exact .tb q
    ·exact .ts q
   ·cases h
 ·rename_i kvs e
  split at h
  ·cases h
   rename_i z
   rcases z with rfl | rfl | rfl
   ·exact .di e
   ·exact .db e
   ·exact .ds e
  ·cases h
 ·cases h
noncomputable def cApp (to te:TE):TE:=fun σ H Q=>to σ H fun x H1=>bC x fun a=>dQ (H1 a) fun _=>te σ H1 fun y H2=>dQ (H2 a) fun xs=>xs.length < sizeLine∧Q .non (upd H2 a (.lst (xs++[y])))
noncomputable def cPop (to:TE):TE:=fun σ H Q=>to σ H fun x H1=>bC x fun a=>dQ (H1 a) fun xs=>gN (xs[xs.length - 1]?) fun y=>Q y (upd H1 a (.lst xs.dropLast))
section
variable {X:Cx}
theorem IxR.imp {r r':R2} (h:IxR X r) (f:∀ x y H Q,r' x y H Q→r x y H Q):IxR X r':=fun value slice pins s σ H x y v u Q I rx ry q=>h value slice pins s σ H x y v u Q I rx ry (f _ _ _ _ q)
theorem jM.imp {f:Value→Value→Sem Value} {r r':R2} (h:jM X f r) (g:∀ x y H Q,r' x y H Q→r x y H Q):jM X f r':=fun pins s σ H x y v u Q I rx ry q=>h pins s σ H x y v u Q I rx ry (g _ _ _ _ q)
theorem bL:IxR X cIx:=ix_seq.imp fun x y H Q h=>by
 cases x with
 | ref p =>
  obtain ⟨xs,e,h⟩:=lF h
  obtain ⟨i,rfl,h⟩:=dD h
  obtain ⟨v,e2,h⟩:=cO h
  rcases e with e | e
  ·exact .inl ⟨_,_,_,_,rfl,rfl,.inl (.inl e),e2,h⟩
  ·exact .inr (.inl ⟨_,_,_,_,rfl,rfl,.inl (.inl e),e2,h⟩)
 | str z =>
  obtain ⟨i,rfl,h1,h⟩:=dD h
  obtain ⟨v,e2,h⟩:=cO h
  exact .inr (.inr ⟨_,_,_,rfl,rfl,h1,e2,h⟩)
 | _=>exact h.elim
theorem eM:jM X (binaryOp .Add) cAdd:=(op_add.or (y6.or (op_cat.or aaY))).imp fun x y H Q h=>by
 unfold cAdd cCat at h
 split at h
 ·exact .inl ⟨_,_,rfl,rfl,h⟩
 ·exact .inr (.inl ⟨_,_,rfl,rfl,h.1,h.2⟩)
 ·split at h
  ·exact .inr (.inr (.inl ⟨_,_,_,_,rfl,rfl,‹_›,‹_›,h.1,h.2⟩))
  ·exact .inr (.inr (.inr ⟨_,_,_,_,rfl,rfl,.inl (.inl ‹_›),.inl (.inl ‹_›),h.1,h.2.1,h.2.2.2,h.2.2.1⟩))
  ·exact h.elim
 ·exact h.elim
theorem z9:SlR X cSl:=fun pins s σ H x v vl vu lo hi sl Q I rx hs pl pu h=>by
 refine (abE.or (sl_tup.or sl_str)) pins s σ H x v vl vu lo hi sl Q I rx hs pl pu ?_
 unfold cSl cCut at h
 split at h
 ·exact .inr (.inr ⟨_,rfl,h.1,h.2⟩)
 ·split at h
  ·exact .inl ⟨_,_,rfl,.inl (.inl ‹_›),h⟩
  ·exact .inr (.inl ⟨_,_,rfl,.inl (.inl ‹_›),h.1,h.2⟩)
  ·exact h.elim
 ·exact h.elim
theorem jW:dX X (.builtin "len") cLen:=fun pins s σ H xs us Q I r h=>by
 unfold cLen at h
 split at h
 ·exact sW pins s σ H _ us Q I r ⟨_,_,rfl,⟨h.1,rfl⟩,h.2⟩
 ·obtain ⟨ys,e,h⟩:=lF h
  rcases e with e | e
  ·exact sW pins s σ H _ us Q I r ⟨_,_,rfl,.inl ⟨_,.inl (.inl e),rfl⟩,h⟩
  ·exact sW pins s σ H _ us Q I r ⟨_,_,rfl,.inr ⟨_,.inl (.inl e),rfl⟩,h⟩
 ·exact h.elim
theorem aa5:PSet X cSet:=fun pins s σ H o i v ov iv u Q I ro ri rv h=>by
 obtain ⟨p,rfl,h⟩:=aU h
 obtain ⟨k,rfl,h⟩:=dD h
 obtain ⟨xs,e,h⟩:=eD h
 obtain ⟨j,e2,h⟩:=cO h
 exact set_list pins s σ H _ _ v ov iv u Q I ro ri rv ⟨_,_,_,_,rfl,rfl,e,e2,h⟩
theorem zK:jM X (compareOp .In) (cIn false):=abV.imp fun x y H Q h=>by
 obtain ⟨p,rfl,h⟩:=aU h
 obtain ⟨xs,e,h1,h2,h⟩:=lF h
 exact ⟨_,_,rfl,e.imp (fun e=>.inl (.inl e)) (fun e=>.inl (.inl e)),h1,h2,h⟩
theorem uM:jM X (compareOp .NotIn) (cIn true):=vA.imp fun x y H Q h=>by
 obtain ⟨p,rfl,h⟩:=aU h
 obtain ⟨xs,e,h1,h2,h⟩:=lF h
 exact ⟨_,_,rfl,e.imp (fun e=>.inl (.inl e)) (fun e=>.inl (.inl e)),h1,h2,h⟩
theorem uP:dX X (.type "int") cInt:=fun pins s σ H xs us Q I r h=>by
 refine call_int1 pins s σ H xs us Q I r ?_
 unfold cInt at h
 split at h
 ·exact .inl ⟨_,rfl,h⟩
 ·exact .inr ⟨_,rfl,by
   rename_i k
   cases k<;>exact h⟩
 ·exact h.elim
theorem mW:jM X (compareOp .Is) cIsN:=op_isN.imp fun x y H Q h=>by
 cases y with
 | non=>exact ⟨rfl,h⟩
 | _=>exact h.elim
theorem op_isnotC:jM X (compareOp .IsNot) cNotN:=op_notN.imp fun x y H Q h=>by
 cases y with
 | non=>exact ⟨rfl,h⟩
 | _=>exact h.elim
theorem oO (hc:X.calm=true):dX X (.builtin "max") cMax:=fun pins s σ H xs us Q I r h=>by
 refine abI hc pins s σ H xs us Q I r ?_
 unfold cMax at h
 split at h
 ·exact ⟨_,_,rfl,h⟩
 ·exact h.elim
theorem uV (hc:X.calm=true):dX X (.builtin "min") cMin:=fun pins s σ H xs us Q I r h=>by
 refine call_min2 hc pins s σ H xs us Q I r ?_
 unfold cMin at h
 split at h
 ·exact ⟨_,_,rfl,h⟩
 ·exact h.elim
theorem call_isiC:dX X (.builtin "isinstance") cIsi:=fun pins s σ H xs us Q I r h=>by
 refine call_isi pins s σ H xs us Q I r ?_
 unfold cIsi at h
 split at h
 ·obtain ⟨b,e,h⟩:=cO h
  exact ⟨_,_,b,rfl,kRef_of e,h⟩
 ·obtain ⟨b,e,h⟩:=cO h
  exact ⟨_,_,b,rfl,kSc_of e,h⟩
 ·exact h.elim
variable {o e:Expr} {to te:TE} {apos cpos:Pos}
theorem lU (ho:PE X o to) (he:PE X e te) (hbase:attributeBase o "append" X.env (eval o X.env)=eval o X.env:=by rfl)
    (hfew:((backTo cpos (starEach [e] X.env)).all (fun x=>!x.1) && (backToKw cpos (keywordEach [] X.env)).all (fun x=>x.1.isSome)
      && decide ([e].length+([]:List Keyword).length+(if ([]:List Keyword).isEmpty then 0 else 1) < 30))=true:=by rfl)
    (hline:(apos.endLine == cpos.line)=true:=by rfl) (hs:starEach [e] X.env=(false,eval e X.env)::starEach [] X.env:=by rfl) (hplain:(backTo cpos (starEach [] X.env)).any (·.1)=false:=by rfl) :
    PE X (.Call (.Attribute o "append" apos) [e] [] cpos) (cApp to te):=by
  intro pins s σ H Q I h
  refine wpAny_Call_method_late hbase hfew hline rfl (thn (ho pins s σ H _ I h) fun v s1 ⟨x,H1,I1,r1,q1⟩=>?_)
  obtain ⟨a,rfl,q1⟩:=aU q1
  obtain ⟨xs,e1,q1⟩:=eD q1
  obtain ⟨h1,h2⟩:=zZ (T:="list") I1 r1 (.inl ⟨rfl,xs,.inl (.inl e1)⟩)
  refine ⟨"list","list.append",PySem.F.plainAttrs_list,PySem.F.slot_list_append,PySem.F.type_list_append,h1,h2,?_⟩
  have q2:xZ te yO σ H1 (fun vs H2=>vs.length=1∧dQ (H2 a) fun xs=>xs.length < sizeLine∧Q .non (upd H2 a (.lst (xs++vs)))):=by
    simpa only [xZ,yO,List.length_cons,List.length_nil,Nat.zero_add,true_and] using q1
  have hA:=aa8 he aB hs cpos pins s1 σ H1 _ I1 q2
  rw [hs] at hA ⊢
  refine Calls.callWith_builtin (by show (false || (backTo cpos (starEach [] X.env)).any (·.1))=false;rw [hplain]<;>rfl) (Calls.evalArgs_plain ?_)
  refine thn hA fun us s2 ⟨vs,H2,I2,r2,l2,q3⟩=>?_
  obtain ⟨xs,e3,q4,q5⟩:=eD q3
  match vs,l2,r2,q5 with
  | [y],_,r2,q5=>exact mt_append pins s2 σ H2 _ _ v us Q I2 r1 r2 ⟨_,_,_,rfl,rfl,e3,q4,q5⟩
theorem vK (ho:PE X o to) (hbase:attributeBase o "pop" X.env (eval o X.env)=eval o X.env:=by rfl) (hline:(apos.endLine == cpos.line)=true:=by rfl):PE X (.Call (.Attribute o "pop" apos) [] [] cpos) (cPop to):=by
 intro pins s σ H Q I h
 refine wpAny_Call_method0_late hbase hline (thn (ho pins s σ H _ I h) fun v s1 ⟨x,H1,I1,r1,q1⟩=>?_)
 obtain ⟨a,rfl,q1⟩:=aU q1
 obtain ⟨xs,e1,q1⟩:=eD q1
 obtain ⟨y,e2,q1⟩:=cO q1
 obtain ⟨h1,h2⟩:=zZ (T:="list") I1 r1 (.inl ⟨rfl,xs,.inl (.inl e1)⟩)
 exact ⟨"list","list.pop",PySem.F.plainAttrs_list,PySem.F.slot_list_pop,PySem.F.type_list_pop,h1,h2,Calls.callWith_builtin rfl (PySem.evalArgs_none (mt_pop pins s1 σ H1 _ [] v [] Q I1 r1 .nil ⟨_,_,_,rfl,rfl,e1,e2,q1⟩))⟩
end
section
variable {X:Cx} {o i e value:Expr} {pos pos' apos cpos:Pos} {td ty tv:TE}
theorem abB (hu:X.A.units+1 < cLine) (ho:PE X o td) (he:PE X e ty) (m:M1 X o "get" apos e cpos):PE X (.Call (.Attribute o "get" apos) [e] [] cpos) (cGet1 td ty):=by
 intro pins s σ H Q I h
 refine wpAny_Call_method m.base m.few m.line PySem.F.plainAttrs_dict PySem.F.slot_dict_get PySem.F.type_dict_get (thn (ho pins s σ H _ I h) fun u s1 ⟨x,H1,I1,rx,q1⟩=>?_)
 obtain ⟨a,rfl,q1⟩:=aU q1
 obtain ⟨kvs,e1,q1⟩:=cN q1
 obtain rfl:u=Value.ref a:=rx
 obtain ⟨t1,t2,_⟩:=pC I1 (.inl ⟨_,.inl e1⟩)
 refine ⟨t1,t2,?_⟩
 rw [m.trees]
 refine Calls.callWith_builtin rfl (Calls.evalArgs_plain (Calls.spliced_cons (thn (he pins s1 σ H1 _ I1 q1) fun iv s2 ⟨y,H2,I2,ry,q2⟩=>Calls.spliced_nil ?_)))
 obtain ⟨kvs,e1,q2⟩:=cN q2
 obtain ⟨k,e2,q2⟩:=cO q2
 have g:DGet H2 a y (bY kvs k):=by rw [wD e2];exact DGet.k e1
 exact d_get1 hu I2 g ry fun w' s3 I3 rw'=>⟨_,H2,I3,rw',q2⟩
theorem nG (hu:X.A.units+1 < cLine) (ho:PE X o td) (hi:PE X i ty) (hs:NoSl i):PE X (.Subscript o i pos) (cGet td ty):=by
 intro pins s σ H Q I h
 refine aa0 PySem.F.slot_dict_getitem.lookup hs (thn (ho pins s σ H _ I h) fun u s1 ⟨x,H1,I1,rx,q1⟩=>thn (hi pins s1 σ H1 _ I1 q1) fun iv s2 ⟨y,H2,I2,ry,q2⟩=>?_)
 obtain ⟨a,rfl,q2⟩:=aU q2
 obtain ⟨kvs,e1,q2⟩:=cN q2
 obtain ⟨k,e2,q2⟩:=cO q2
 obtain ⟨v,e3,q2⟩:=cO q2
 obtain rfl:u=Value.ref a:=rx
 have g:DGet H2 a y (some v):=by rw [wD e2,← e3];exact DGet.k e1
 exact ⟨pI I2 g,d_getItem hu I2 g ry fun w' s3 I3 rw'=>⟨v,H2,I3,rw',q2⟩⟩
theorem kA (hu:X.A.units+1 < cLine) (ho:PE X o td) (hi:PE X i ty) (hv:PE X value tv) (hs:swapsWith value (some (.Subscript o i pos')) pos.line X.env=pure false:=by rfl) :
    PS X (.Assign [.Subscript o i pos'] value pos) (cPut td ty tv):=by
  intro pins s σ H D I h
  refine wpAny_Assign_Subscript (thn (hv pins s σ H _ I h) fun r s1 ⟨v,H1,I1,rv,q1⟩=>thn (ho pins s1 σ H1 _ I1 q1) fun u s2 ⟨x,H2,I2,rx,q2⟩=>thn (hi pins s2 σ H2 _ I2 q2) fun iv s3 ⟨y,H3,I3,ry,q3⟩=>?_) hs
  obtain ⟨a,rfl,q3⟩:=aU q3
  obtain ⟨kvs,e1,q3⟩:=cN q3
  obtain ⟨k,e2,q3⟩:=cO q3
  obtain rfl:u=Value.ref a:=rx
  have g:DPut H3 a y v (upd H3 a (.dK (d9 kvs k v))):=by rw [wD e2];exact DPut.k e1 q3.1
  exact d_setItem hu I3 g ry rv fun s4 I4=>⟨σ,_,I4,q3.2⟩
end
end L2
namespace L2
open PySem PySem.Spec PyProof.Rows
section
variable {σ:St} {H:Hp} {Q:VK} {D:Ends} {t u:TS} {te ta tb tc to ti:TE} {tl th:TO} {g:TG} {gs:TGs} {tt tt':TT} {as:TA} {i j:Int} {n:Nat} {x y:Str} {v w:V} {vs:List V} {b:Bool} {p a:Addr} {r r':R2} {B:Bool→Hp→Prop} {K:PySem.W.Frag}
theorem e_seq:tSeq t u D σ H=t {D with nx:=u D} σ H:=rfl
theorem e_asg:tAsg te g D σ H=te σ H fun x H1=>g x σ H1 D.nx:=rfl
theorem e_name {N:St→Hp→Prop}:rX n v σ H N=N (σ.set n (some v)) H:=rfl
theorem e_ret:tRet te D σ H=te σ H D.rt:=rfl
theorem e_ifS:tIfS tt t u D σ H=tt σ H fun b H1=>if b=true then t D σ H1 else u D σ H1:=rfl
theorem e_test:yH te σ H B=te σ H fun x H'=>onB x fun k=>B k H':=by simp only [yH,qP]
theorem e_tB:tB te σ H B=te σ H fun x H'=>onB x fun k=>B k H':=by simp only [tB,qP]
theorem e_if:tIf tt ta tb σ H Q=tt σ H fun c H1=>if c=true then ta σ H1 Q else tb σ H1 Q:=rfl
theorem e_op:tOp r ta tb σ H Q=ta σ H fun x H1=>tb σ H1 fun y H2=>r x y H2 Q:=rfl
theorem e_un {q:V→Hp→VK→Prop}:tUn q ta σ H Q=ta σ H fun x H1=>q x H1 Q:=rfl
theorem e_c:tC v σ H Q=Q v H:=rfl
theorem e_cons {A:List V→Hp→Prop}:xZ te as σ H A=te σ H fun x H1=>as σ H1 fun xs H2=>A (x::xs) H2:=rfl
theorem e_nil {A:List V→Hp→Prop}:yO σ H A=A [] H:=rfl
theorem e_call {sp:Sp} {E:XK}:tCall sp [] E as σ H Q=as σ H fun vs H1=>sp vs H1 Q E:=by simp only [tCall,List.append_nil]
theorem e_cb {q:List V→Hp→VK→Prop}:tCB q as σ H Q=as σ H fun vs H1=>q vs H1 Q:=rfl
theorem e_lst:tLst as σ H Q=as σ H fun xs H1=>xs.length≤sizeLine∧∀ p,H1 p=none→Q (.ref p) (upd H1 p (.lst xs)):=rfl
theorem e_tup:tTup as σ H Q=as σ H fun xs H1=>xs.length≤sizeLine∧∀ p,H1 p=none→Q (.ref p) (upd H1 p (.tup xs)):=rfl
theorem e_dnew:tDNewK σ H Q = ∀ p,H p=none→Q (.ref p) (upd H p (.dK [])):=rfl
theorem e_drop:tDrop te D σ H=te σ H fun _ H1=>D.nx σ H1:=rfl
theorem e_next:tNext D σ H=D.nx σ H:=rfl
theorem e_andV:tAndV ta tb σ H Q=ta σ H fun x H1=>onB x fun c=>if c=true then tb σ H1 Q else Q (.bl false) H1:=by simp only [tAndV,qP]
theorem e_orV:tOrV ta tb σ H Q=ta σ H fun x H1=>onB x fun c=>if c=true then Q (.bl true) H1 else tb σ H1 Q:=by simp only [tOrV,qP]
theorem e_notV:tNotV ta σ H Q=ta σ H fun x H1=>onB x fun c=>Q (.bl (!c)) H1:=by simp only [tNotV,qP]
theorem e_and:tAnd tt tt' σ H B=tt σ H fun c H1=>if c=true then tt' σ H1 B else B false H1:=rfl
theorem e_or:tOr tt tt' σ H B=tt σ H fun c H1=>if c=true then B true H1 else tt' σ H1 B:=rfl
theorem e_not:tNot tt σ H B=tt σ H fun c H1=>B (!c) H1:=rfl
theorem e_sl {q:V→Option Int→Option Int→Hp→VK→Prop}:tSl q te tl th σ H Q=te σ H fun x H1=>tl σ H1 fun l H2=>th σ H2 fun u H3=>q x l u H3 Q:=rfl
theorem onInt_eq {k:Int→Prop}:(∃ i,v=.int i∧k i)=e9 v k:=propext ⟨fun ⟨i,e,h⟩=>by subst e;exact h,dD⟩
theorem e_part {O:Option Int→Hp→Prop}:tPart te σ H O=te σ H fun x H1=>e9 x fun i=>O (some i) H1:=by simp only [tPart,onInt_eq]
theorem e_nopart {O:Option Int→Hp→Prop}:aaX σ H O=O none H:=rfl
theorem e_gsub {s:TSet} {N:St→Hp→Prop}:gSub to ti s v σ H N=to σ H fun o H1=>ti σ H1 fun i H2=>s o i v H2 fun H3=>N σ H3:=rfl
theorem e_gnil {N:St→Hp→Prop}:gNil [] σ H N=N σ H:=by simp [gNil]
theorem e_gcons {N:St→Hp→Prop}:gCons g gs (v::vs) σ H N=g v σ H fun σ' H'=>gs vs σ' H' N:=propext ⟨fun ⟨_,_,e,h⟩=>by cases e;exact h,fun h=>⟨_,_,rfl,h⟩⟩
theorem e_get1:cGet1 ta tb σ H Q=ta σ H fun x H1=>bC x fun a=>cL (H1 a) fun _=>tb σ H1 fun y H2=>cL (H2 a) fun kvs=>gN (iV y) fun k=>Q ((bY kvs k).getD .non) H2:=rfl
theorem e_get:cGet ta tb σ H Q=ta σ H fun x H1=>tb σ H1 fun y H2=>bC x fun a=>cL (H2 a) fun kvs=>gN (iV y) fun k=>gN (bY kvs k) fun v=>Q v H2:=rfl
theorem e_put:cPut ta tb tc D σ H=tc σ H fun v H1=>ta σ H1 fun x H2=>tb σ H2 fun y H3=>bC x fun a=>cL (H3 a) fun kvs=>gN (iV y) fun k=>kvs.length < sizeLine∧D.nx σ (upd H3 a (.dK (d9 kvs k v))):=rfl
theorem e_app:cApp to te σ H Q=to σ H fun x H1=>bC x fun a=>dQ (H1 a) fun _=>te σ H1 fun y H2=>dQ (H2 a) fun xs=>xs.length < sizeLine∧Q .non (upd H2 a (.lst (xs++[y]))):=rfl
theorem e_pop:cPop to σ H Q=to σ H fun x H1=>bC x fun a=>dQ (H1 a) fun xs=>gN (xs[xs.length - 1]?) fun y=>Q y (upd H1 a (.lst xs.dropLast)):=rfl
theorem e_onO {α:Type} {z:α} {k:α→Prop} {u:Tg k}:@gN _ (some z) k u=k z:=rfl
theorem e_onB {k:Bool→Prop} {u:Tg k}:@onB (.bl b) k u=k b:=rfl
theorem e_onRef {k:Addr→Prop} {u:Tg k}:@bC (.ref p) k u=k p:=rfl
theorem e_onInt {k:Int→Prop} {u:Tg k}:@e9 (.int i) k u=k i:=rfl
theorem e_onLst {k:List V→Prop} {u:Tg k}:@dQ (some (.lst vs)) k u=k vs:=rfl
theorem e_onSeqL {k:List V→Prop} {u:Tg k}:@kL (some (.lst vs)) k u=k vs:=rfl
theorem e_onSeqT {k:List V→Prop} {u:Tg k}:@kL (some (.tup vs)) k u=k vs:=rfl
theorem e_onDct {kvs:List (Key×V)} {k:List (Key×V)→Prop} {u:Tg k}:@cL (some (.dK kvs)) k u=k kvs:=rfl
theorem e_ixR:cIx (.ref p) w H Q=kL (H p) fun xs=>e9 w fun i=>gN (j6 xs i) fun v=>Q v H:=rfl
theorem e_ixS:cIx (.str x) w H Q=e9 w fun i=>x.length≤sizeLine∧gN (j6 x.cps.toList i) fun c=>Q (.str ⟨#[c]⟩) H:=rfl
theorem e_addI:cAdd (.int i) (.int j) H Q=Q (.int (i+j)) H:=rfl
theorem e_addS:cAdd (.str x) (.str y) H Q=(x.length+y.length≤sizeLine∧Q (.str (x++y)) H):=rfl
theorem e_addR:cAdd (.ref a) (.ref p) H Q=cCat H Q a (H a) (H p):=rfl
theorem e_catL {us:List V}:cCat H Q a (some (.lst vs)) (some (.lst us))=(vs.length+us.length≤sizeLine∧∀ p,H p=none→Q (.ref p) (upd H p (.lst (vs++us)))):=rfl
theorem e_slS {lo hi:Option Int}:cSl (.str x) lo hi H Q=(x.length≤sizeLine∧Q (.str (Txt.slice x lo hi)) H):=rfl
theorem e_slR {lo hi:Option Int}:cSl (.ref a) lo hi H Q=cCut lo hi H Q (H a):=rfl
theorem e_cutL {lo hi:Option Int}:cCut lo hi H Q (some (.lst vs)) = ∀ p,H p=none→Q (.ref p) (upd H p (.lst (kH vs lo hi))):=rfl
theorem e_lenS:cLen [.str x] H Q=(x.length≤sizeLine∧Q (.int x.length) H):=rfl
theorem e_lenR:cLen [.ref p] H Q=kL (H p) fun xs=>Q (.int xs.length) H:=rfl
theorem e_set {N:Hp→Prop}:cSet (.ref p) (.int i) v H N=dQ (H p) fun xs=>gN (yK xs.length i) fun j=>N (upd H p (.lst (xs.set j v))):=rfl
theorem e_in {neg:Bool}:cIn neg v (.ref p) H Q=kL (H p) fun xs=>dP v=true∧xs.all dP=true∧Q (.bl (if neg=true then !vC v xs else vC v xs)) H:=rfl
theorem e_keyI:iV (.int i)=some (.inl i):=rfl
theorem e_keyS:iV (.str x)=some (.inr x):=rfl
theorem e_keyN:iV .non=some .no:=rfl
theorem abC {α:Type} {xs:List α} {k:Nat}:j6 xs (OfNat.ofNat k)=xs[k]?:=by
 show j6 xs ((k:Nat):Int)=xs[k]?
 cases e:xs[k]? with
 | some z=>exact qC e
 | none =>
  have:=List.getElem?_eq_none_iff.mp e
  unfold j6 yK
  rw [if_pos (by omega),if_neg (by omega)]
  rfl
theorem e_at0 {α:Type} {xs:List α}:j6 xs 0=xs[0]?:=abC (k:=0)
theorem e_at1 {α:Type} {xs:List α}:j6 xs 1=xs[1]?:=abC (k:=1)
theorem e_at2 {α:Type} {xs:List α}:j6 xs 2=xs[2]?:=abC (k:=2)
theorem e_at3 {α:Type} {xs:List α}:j6 xs 3=xs[3]?:=abC (k:=3)
theorem e_cmul2:CMul 2 j=True:=eq_true (.inl ⟨by decide,by decide⟩)
theorem e_cpow9:CPow 10 9=True:=eq_true ⟨by decide,by decide,by decide⟩
theorem e_cpow12:CPow 10 12=True:=eq_true ⟨by decide,by decide,by decide⟩
theorem e_cpow18:CPow 10 18=True:=eq_true ⟨by decide,by decide,by decide⟩
theorem e_ixN0 {m:Nat}:yK (m+1) 0=some 0:=by simp [yK]<;>omega
theorem e_intI:cInt [.int i] H Q=Q (.int i) H:=rfl
theorem e_intB:cInt [.bl b] H Q=Q (.int (if b=true then 1 else 0)) H:=rfl
theorem e_is:cIsN v .non H Q=Q (.bl (decide (v=.non))) H:=by cases v<;>rfl
theorem e_isnot:cNotN v .non H Q=Q (.bl (!decide (v=.non))) H:=by cases v<;>rfl
theorem e_max:cMax [.int i,.int j] H Q=Q (.int (if j > i then j else i)) H:=rfl
theorem e_min:cMin [.int i,.int j] H Q=Q (.int (if j < i then j else i)) H:=rfl
theorem tN:cIsi [.ref p,.ty "int"] H Q=gN (vS (H p) "int") fun b=>Q (.bl b) H:=rfl
theorem sL:cIsi [.ref p,.ty "bool"] H Q=gN (vS (H p) "bool") fun b=>Q (.bl b) H:=rfl
theorem tS:cIsi [.ref p,.ty "str"] H Q=gN (vS (H p) "str") fun b=>Q (.bl b) H:=rfl
theorem pU:cIsi [.ref p,.ty "tuple"] H Q=gN (vS (H p) "tuple") fun b=>Q (.bl b) H:=rfl
theorem zC:vS (some (.tup vs)) "tuple"=some true:=by simp [vS]
theorem e_chk {c:Prop} [Decidable c] {P R:Prop}:(if (decide c)=true then P else R)=if c then P else R:=by
 by_cases h:c<;>simp [h]
theorem e_chn {c:Prop} [Decidable c] {P R:Prop}:(if (!decide c)=true then P else R)=if c then R else P:=by
 by_cases h:c<;>simp [h]
theorem e_ite1 {P R:Prop}:(if true=true then P else R)=P:=by simp
theorem e_ite0 {P R:Prop}:(if false=true then P else R)=R:=by simp
end
theorem f_or {a b:Prop} [Decidable a] [Decidable b] {P R:Prop}:(if a then P else if b then P else R)=if a∨b then P else R:=by
 by_cases ha:a<;>by_cases hb:b<;>simp [ha,hb]
theorem Kp.at1 {r a:Addr} {H H':Hp} {o:HO} (x:Kp [r] H H') (e:H a=some o) (n:a≠r):H' a=some o:=x a o e (by simpa using n)
theorem jH {xs:List V} {i:Int} {k:V→Prop} (h0:0≤i) (h1:i < (xs.length:Int)) (q:∀ v∈xs,k v):gN (j6 xs i) k:=by
 have hk:i.toNat < xs.length:=by omega
 have ek:i=((i.toNat:Nat):Int):=by omega
 have e:j6 xs ((i.toNat:Nat):Int)=some xs[i.toNat]:=qC (List.getElem?_eq_getElem hk)
 rw [← ek] at e
 rw [e]
 exact q _ (List.getElem_mem hk)
end L2
namespace L2
open PySem PySem.Spec PyProof.Rows
noncomputable def on1 (vs:List V) (k:V→Prop) (_u:Tg k:=()):Prop:=match vs with
 | [v]=>k v
 | _=>False
noncomputable def lp (J:It) (g:TG) (tb:TS) (D:Ends) (σ:St) (H:Hp):Prop:=∃ W:Nat→Nat→St→Hp→Prop,(∃ m,W 0 m σ H)∧∀ i m σ H,W i m σ H →
 (J.stop i H∧D.nx σ H)∨(J.go i H∧∃ N:St→Hp→Prop,(∀ σ' H',N σ' H'→∃ m',m' < m∧W (i+1) m' σ' H')∧∀ x H',J.yld i H x H'→g x σ H' fun σ2 H2=>tb {D with nx:=N,ct:=N,bk:=D.nx} σ2 H2)
section
variable {σ:St} {H:Hp} {D:Ends} {g:TG} {tb:TS} {as:TA} {te:TE} {K:PySem.W.Frag} {v w:V}
theorem e_on1 {k:V→Prop} {u:Tg k}:@on1 [v] k u=k v:=rfl
theorem e_forR1:zD (yC as) g tb D σ H=as σ H fun vs H1=>on1 vs fun v=>e9 v fun j=>(-(2 ^ 62)≤j∧j < 2 ^ 62)∧lp (Itr 0 j.toNat) g tb D σ H1:=by
 unfold zD yC
 congr 1
 funext vs H1
 refine propext ⟨fun ⟨j,e,h1,h2,h⟩=>by subst e;exact ⟨⟨h1,h2⟩,h⟩,fun h=>?_⟩
 unfold on1 at h
 split at h
 ·obtain ⟨j,rfl,⟨h1,h2⟩,h⟩:=dD h
  exact ⟨j,rfl,h1,h2,h⟩
 ·exact h.elim
noncomputable def on2 (vs:List V) (k:V→V→Prop) (_u:Tg k:=()):Prop:=match vs with
 | [v,w]=>k v w
 | _=>False
theorem e_on2 {k:V→V→Prop} {u:Tg k}:@on2 [v,w] k u=k v w:=rfl
theorem e_forL:zD (xD K te) g tb D σ H=te σ H fun x H1=>bC x fun a=>(∃ xs,eA K H1 a xs)∧lp (Itl K a) g tb D σ H1:=by
 unfold zD xD
 congr 1
 funext x H1
 exact propext ⟨fun ⟨a,e,h1,h⟩=>by subst e;exact ⟨h1,h⟩,fun h=>by obtain ⟨a,rfl,h1,h⟩:=aU h;exact ⟨a,rfl,h1,h⟩⟩
theorem e_forT:zD (iTup K te) g tb D σ H=te σ H fun x H1=>bC x fun a=>(∃ xs,gO K H1 a xs)∧lp (Itt K a) g tb D σ H1:=by
 unfold zD iTup
 congr 1
 funext x H1
 exact propext ⟨fun ⟨a,e,h1,h⟩=>by subst e;exact ⟨h1,h⟩,fun h=>by obtain ⟨a,rfl,h1,h⟩:=aU h;exact ⟨a,rfl,h1,h⟩⟩
end
end L2
namespace L2
open PySem PySem.Spec PyProof.Rows
noncomputable def lc (J:It) (fr:List Nat) (tc:TT) (te:TE) (σ:St) (H:Hp) (Q:VK):Prop:=∃ W:Nat→Nat→List V→Hp→Prop,(∃ m,W 0 m [] H)∧∀ i m xs H,W i m xs H→xs.length≤1000000 ∧
  ((J.stop i H∧∀ p,H p=none→Q (.ref p) (upd H p (.lst xs))) ∨
   (J.go i H∧∀ y H',J.yld i H y H'→tc (some y::bM fr σ) H' fun b H2=>if b=true then te (some y::bM fr σ) H2 (fun z H3=>∃ m',m' < m∧W (i+1) m' (xs++[z]) H3) else ∃ m',m' < m∧W (i+1) m' xs H2))
section
variable {fr:List Nat} {tc:TT} {te tl:TE} {σ:St} {H H1:Hp} {Q:VK} {as:TA} {K:PySem.W.Frag}
theorem e_compR:jY (yC as) fr tc te σ H Q=as σ H fun vs H1=>on1 vs fun v=>e9 v fun j=>(-(2 ^ 62)≤j∧j < 2 ^ 62)∧lc (Itr 0 j.toNat) fr tc te σ H1 Q:=by
 unfold jY yC
 congr 1
 funext vs H1
 refine propext ⟨fun ⟨j,e,h1,h2,h⟩=>by subst e;exact ⟨⟨h1,h2⟩,h⟩,fun h=>?_⟩
 unfold on1 at h
 split at h
 ·obtain ⟨j,rfl,⟨h1,h2⟩,h⟩:=dD h
  exact ⟨j,rfl,h1,h2,h⟩
 ·exact h.elim
theorem e_compL:jY (xD K tl) fr tc te σ H Q=tl σ H fun x H1=>bC x fun a=>(∃ xs,eA K H1 a xs)∧lc (Itl K a) fr tc te σ H1 Q:=by
 unfold jY xD
 congr 1
 funext x H1
 exact propext ⟨fun ⟨a,e,h1,h⟩=>by subst e;exact ⟨h1,h⟩,fun h=>by obtain ⟨a,rfl,h1,h⟩:=aU h;exact ⟨a,rfl,h1,h⟩⟩
noncomputable def wO (x:V) (k:Str→Prop) (_u:Tg k:=()):Prop:=match x with
 | .str p=>k p
 | _=>False
theorem e_onStr {x:Str} {k:Str→Prop} {u:Tg k}:@wO (.str x) k u=k x:=rfl
theorem e_true {B:Bool→Hp→Prop}:tTrue σ H B=B true H:=rfl
theorem e_cs0:bM [] σ=[]:=rfl
theorem cW_eq {n:Nat} {Pv:Nat→List V→Hp→Prop} {i:Nat} {xs:List V} (hi:i < n):(∃ m',m' < n - i∧cW n Pv (i+1) m' xs H)=Pv (i+1) xs H :=
 propext ⟨fun ⟨_,_,_,_,h⟩=>h,fun h=>cW.next hi h⟩
theorem iZ {a:Addr} {ys:List V} (Pv:Nat→List V→Hp→Prop) (h0:Pv 0 [] H) (hz:∀ i xs H,Pv i xs H→xs.length≤1000000) (hl:∀ i xs H,Pv i xs H→eA K H a ys)
    (hs:∀ i y xs H,i < ys.length→ys[i]?=some y→Pv i xs H→tc (some y::bM fr σ) H fun b H2=>if b=true then te (some y::bM fr σ) H2 (fun z H3=>Pv (i+1) (xs++[z]) H3) else Pv (i+1) xs H2)
    (hd:∀ xs H,Pv ys.length xs H→∀ p,H p=none→Q (.ref p) (upd H p (.lst xs))):lc (Itl K a) fr tc te σ H Q :=
  comp_list Pv h0 hz hl (fun i y xs H hi e h=>by simp only [cW_eq hi];exact hs i y xs H hi e h) hd
end
end L2
namespace L2
open PySem PySem.Spec PyProof.Rows
noncomputable def dHit (kb:List (Key×V)):List (Key×V)→Bool
 | []=>true
 | (k,v)::r=>match bY kb k with
  | none=>false
  | some y=>oJ v y && dHit kb r
mutual
inductive pT (K:PySem.W.Frag) (H:Hp):Nat→V→V→Bool→Prop
 | flat {n:Nat} {x y:V}:dP x=true→dP y=true→pT K H n x y (oJ x y)
 | same {n:Nat} {a:Addr}:pT K H n (.ref a) (.ref a) true
 | refs {n:Nat} {a b:Addr} {r:Bool}:a≠b→n9 K H n a b r→pT K H n (.ref a) (.ref b) r
inductive n9 (K:PySem.W.Frag) (H:Hp):Nat→Addr→Addr→Bool→Prop
 | list {n:Nat} {a b:Addr} {xs ys:List V} {e:Nat→Bool}:eA K H a xs→eA K H b ys→xs.length=ys.length→(∀ j x y,xs[j]?=some x→ys[j]?=some y→pT K H n x y (e j))→n9 K H (n+1) a b ((List.range xs.length).all e)
 | listLen {n:Nat} {a b:Addr} {xs ys:List V}:eA K H a xs→eA K H b ys→xs.length≠ys.length→n9 K H (n+1) a b false
 | tup {n:Nat} {a b:Addr} {xs ys:List V} {e:Nat→Bool}:gO K H a xs→gO K H b ys→(∀ j x y,xs[j]?=some x→ys[j]?=some y→pT K H n x y (e j))→n9 K H (n+1) a b ((List.range (min xs.length ys.length)).all e && xs.length == ys.length)
end
section
variable {X:Cx} {pins:List (Addr×Obj)} {σ:St} {H:Hp} {s:Shared}
theorem jE {xs:List V} {its:List Value} (r:Vals xs its) {j:Nat} (h:j < its.toArray.size):∃ x,xs[j]?=some x∧bI x its.toArray[j]:=by
 have hj:j < xs.length:=by have:=r.length;simp only [List.size_toArray] at h;omega
 have e:=List.getElem?_eq_getElem hj
 obtain ⟨u,g,ru⟩:=r.get e
 refine ⟨_,e,?_⟩
 obtain ⟨_,q⟩:=List.getElem?_eq_some_iff.mp g
 have:its.toArray[j]=u:=by simpa using q
 rw [this]
 exact ru
theorem aaF:∀(n:Nat),(∀ {a b:Addr} {r:Bool},n9 X.K H n a b r→∀ {A:Around},Inv X pins σ H s→A.units+n < cLine→SeqAt.RcAt A s (.ref a) (.ref b) r)∧(∀ {x y:V} {b:Bool},pT X.K H n x y b→∀ {A:Around} {v u:Value},Inv X pins σ H s→bI x v→bI y u→A.units+n < cLine→SeqAt.EqAt A s v u b):=by
 intro n
 have up:∀ {n:Nat},(∀ {a b:Addr} {r:Bool},n9 X.K H n a b r→∀ {A:Around},Inv X pins σ H s→A.units+n < cLine→SeqAt.RcAt A s (.ref a) (.ref b) r)→(∀ {x y:V} {b:Bool},pT X.K H n x y b→∀ {A:Around} {v u:Value},Inv X pins σ H s→bI x v→bI y u→A.units+n < cLine→SeqAt.EqAt A s v u b):=by
  intro n rc x y b h A v u I rx ry hu
  cases h with
  | flat fx fy=>exact eqAt_V rx ry fx fy
  | same =>
   cases rx
   cases ry
   exact SeqAt.EqAt.same _
  | refs ne h =>
   cases rx
   cases ry
   exact SeqAt.EqAt.of_refs ne (rc h I hu)
 suffices g:∀ {a b:Addr} {r:Bool},n9 X.K H n a b r→∀ {A:Around},Inv X pins σ H s→A.units+n < cLine→SeqAt.RcAt A s (.ref a) (.ref b) r from ⟨g,up g⟩
 induction n with
 | zero=>intro a b r h;cases h
 | succ n ih =>
  intro a b r h A I hu
  have ih:=@up n @ih
  cases h with
  | list hx hy hl he =>
   obtain ⟨its,r1,p1,z1⟩:=I.list hx
   obtain ⟨jts,r2,p2,z2⟩:=I.list hy
   have l1:=r1.length
   have l2:=r2.length
   have:=SeqAt.RcAt.lists p1.isList p2.isList (by simp only [List.size_toArray];omega) (by omega) (A:=A) (fun j h1 h2=>by
    obtain ⟨x,ex,rx⟩:=jE r1 h1
    obtain ⟨y,ey,ry⟩:=jE r2 h2
    exact ih (he j x y ex ey) I rx ry (by show A.units+1+_ < _;omega))
   rw [List.size_toArray,← l1] at this
   exact this
  | listLen hx hy hl =>
   obtain ⟨its,r1,p1,z1⟩:=I.list hx
   obtain ⟨jts,r2,p2,z2⟩:=I.list hy
   have l1:=r1.length
   have l2:=r2.length
   exact SeqAt.RcAt.lists_lengths p1.isList p2.isList (by simp only [List.size_toArray,bne_iff_ne,ne_eq];omega) (by omega)
  | tup hx hy he =>
   obtain ⟨its,r1,p1,z1⟩:=I.tuple hx
   obtain ⟨jts,r2,p2,z2⟩:=I.tuple hy
   have l1:=r1.length
   have l2:=r2.length
   have:=SeqAt.RcAt.tuples (show s.heap.IsTuple _ its.toArray from p1) (show s.heap.IsTuple _ jts.toArray from p2) (by omega) (A:=A) (fun j h1 h2=>by
    obtain ⟨x,ex,rx⟩:=jE r1 h1
    obtain ⟨y,ey,ry⟩:=jE r2 h2
    exact ih (he j x y ex ey) I rx ry (by show A.units+1+_ < _;omega))
   rw [List.size_toArray,List.size_toArray,← l1,← l2] at this
   exact this
theorem eqA_at {n:Nat} {x y:V} {b:Bool} (h:pT X.K H n x y b) {A:Around} {v u:Value} (I:Inv X pins σ H s) (rx:bI x v) (ry:bI y u) (hu:A.units+n < cLine):SeqAt.EqAt A s v u b:=(aaF n).2 h I rx ry hu
theorem rcA_at {n:Nat} {a b:Addr} {r:Bool} (h:n9 X.K H n a b r) {A:Around} (I:Inv X pins σ H s) (hu:A.units+n < cLine):SeqAt.RcAt A s (.ref a) (.ref b) r:=(aaF n).1 h I hu
end
inductive DPairs (H:Hp):List V→List V→Bool→Prop
  | nil:DPairs H [] [] true
  | cons {a b:Addr} {ka kb:List (Key×V)} {xs ys:List V} {r:Bool}:a≠b→H a=some (.dK ka)→H b=some (.dK kb)→(ka.all fun kv=>dP kv.2)=true→(kb.all fun kv=>dP kv.2)=true→DPairs H xs ys r →
      DPairs H (.ref a::xs) (.ref b::ys) ((ka.length == kb.length && dHit kb ka) && r)
theorem DPairs.at {H:Hp} {xs ys:List V} {r:Bool} (h:DPairs H xs ys r):∃ f:Nat→Bool,(List.range xs.length).all f=r∧∀ j x y,xs[j]?=some x→ys[j]?=some y→∃ a b ka kb,x=.ref a∧y=.ref b∧a≠b∧H a=some (.dK ka)∧H b=some (.dK kb)∧(ka.all fun kv=>dP kv.2)=true∧(kb.all fun kv=>dP kv.2)=true∧f j=(ka.length == kb.length && dHit kb ka):=by
 induction h with
 | nil=>exact ⟨fun _=>true,rfl,fun j x y e=>by simp at e⟩
 | @cons a b ka kb xs ys r ne ea eb fa fb _ ih =>
  obtain ⟨f,hf,hp⟩:=ih
  refine ⟨fun j=>match j with | 0=>(ka.length == kb.length && dHit kb ka) | j+1=>f j,?_,?_⟩
  ·rw [List.length_cons,List.range_succ_eq_map,List.all_cons,List.all_map,← hf]
   rfl
  ·intro j x y e1 e2
   cases j with
   | zero =>
    simp only [List.getElem?_cons_zero,Option.some.injEq] at e1 e2
    exact ⟨a,b,ka,kb,e1.symm,e2.symm,ne,ea,eb,fa,fb,rfl⟩
   | succ j=>exact hp j x y (by simpa using e1) (by simpa using e2)
end L2
namespace L2
open PySem PySem.Spec PyProof.Rows
section
variable {X:Cx}
variable {o e:Expr} {to te:TE} {apos cpos:Pos}
end
section
variable {H:Hp} {Q:VK} {a b p:Addr} {x:V}
theorem e_slLr {K:PySem.W.Frag} {lo hi:Option Int}:rSlL K (.ref a) lo hi H Q = ∃ xs,eA K H a xs∧∀ p,H p=none→Q (.ref p) (upd H p (.lst (kH xs lo hi))):=by simp [rSlL]
theorem e_gtup {K:PySem.W.Frag} {n:Nat} {t:TGs} {σ:St} {N:St→Hp→Prop}:gTup K n t (.ref a) σ H N = ∃ xs,gO K H a xs∧xs.length=n∧t xs σ H N:=by simp [gTup]
theorem e_c0:((0:Nat):Int)=0:=rfl
theorem e_c1:((1:Nat):Int)=1:=rfl
theorem e_c2:((2:Nat):Int)=2:=rfl
end
end L2
namespace L2
open PySem PySem.Spec PyProof.Rows
noncomputable def nR (o:Option HO) (k:List V→Prop) (_u:Tg k:=()):Prop:=match o with
 | some (.tup xs)=>k xs
 | _=>False
theorem sF {o:Option HO} {k:List V→Prop} (h:nR o k):∃ xs,o=some (.tup xs)∧k xs:=by
 unfold nR at h
 split at h
 ·exact ⟨_,rfl,h⟩
 ·exact h.elim
noncomputable def cTcat:R2:=fun x y H Q=>bC x fun a=>bC y fun b=>nR (H a) fun xs=>nR (H b) fun ys=>xs.length+ys.length≤sizeLine∧(if xs=[] then Q y H else if ys=[] then Q x H else ∀ p,H p=none→Q (.ref p) (upd H p (.tup (xs++ys))))
section
variable {X:Cx}
theorem op_catT0:jM X (binaryOp .Add) (fun x y H Q=>∃ a b ys,x=.ref a∧y=.ref b∧gO X.K H a []∧gO X.K H b ys∧Q (.ref b) H):=by
 intro pins s σ H x y v u Q I rx ry h
 obtain ⟨a,b,ys,rfl,rfl,ha,hb,q⟩:=h
 cases rx
 cases ry
 obtain ⟨its,r1,p1,_⟩:=I.tuple ha
 obtain ⟨its2,r2,p2,_⟩:=I.tuple hb
 have l1:its=[]:=r1.nil_iff.mpr rfl
 obtain ⟨⟨c1,d1,t1,o1⟩,ho,rfl,n,rfl⟩:=p1
 obtain ⟨⟨c2,d2,t2,o2⟩,ho2,rfl,n2,rfl⟩:=p2
 exact concat_meets ⟨_,ho,rfl⟩ ⟨_,ho2,rfl⟩ noFill_tuple_add seq_tuple_add PySem.F.slot_tuple_add PySem.F.entry_tuple_add (PySem.F.args_tuple_add_2 _ _) (tuple_addW0 a b its.toArray its2.toArray n n2 d1 d2 o1 o2 (by simp [l1])) ⟨ho,ho2,.ref b,H,I,rfl,q⟩
theorem op_tcat:jM X (binaryOp .Add) cTcat:=(op_catT0.or aaY).imp fun x y H Q h=>by
 obtain ⟨a,rfl,h1⟩:=aU h
 obtain ⟨b,rfl,h2⟩:=aU h1
 obtain ⟨xs,e1,h3⟩:=sF h2
 obtain ⟨ys,e2,h4,h5⟩:=sF h3
 by_cases c:xs=[]
 ·rw [if_pos c] at h5
  subst c
  exact .inl ⟨a,b,ys,rfl,rfl,.inl (.inl e1),.inl (.inl e2),h5⟩
 ·rw [if_neg c] at h5
  refine .inr ⟨a,b,xs,ys,rfl,rfl,.inl (.inl e1),.inl (.inl e2),c,h4,fun z=>?_,fun z=>?_⟩
  ·rw [if_pos z] at h5
   exact h5
  ·rw [if_neg z] at h5
   exact h5
end
section
variable {H:Hp} {Q:VK} {a b p:Addr} {vs:List V} {lo hi:Option Int}
theorem e_onTup {k:List V→Prop} {u:Tg k}:@nR (some (.tup vs)) k u=k vs:=rfl
theorem e_tcat:cTcat (.ref a) (.ref b) H Q=nR (H a) fun xs=>nR (H b) fun ys=>xs.length+ys.length≤sizeLine∧(if xs=[] then Q (.ref b) H else if ys=[] then Q (.ref a) H else ∀ p,H p=none→Q (.ref p) (upd H p (.tup (xs++ys)))):=rfl
theorem e_cutT:cCut lo hi H Q (some (.tup vs))=(¬ (HT.fT vs.length 0 lo=0∧HT.fT vs.length vs.length hi=vs.length)∧∀ p,H p=none→Q (.ref p) (upd H p (.tup (kH vs lo hi)))):=rfl
end
end L2
namespace L2
open PySem PySem.Spec PyProof.Rows
section
variable {prog:Program} {w:World} {A:Around} {E:Value→Shared→Prop}
end
end L2
namespace L2
open PySem PySem.Spec PyProof.Rows
noncomputable def Itd (a:Addr) (o:Obj) (kvs:List (Key×V)):It :=
 ⟨fun i H=>i < kvs.length∧H a=some (.frz o (.dK kvs)),fun i H x H'=>H'=H∧∃ kv,kvs[i]?=some kv∧x=kV kv.1,fun i H=>i=kvs.length∧H a=some (.frz o (.dK kvs))⟩
theorem nW {P:Program} {W:World} {k:Key} {v:Value} (h:(bS P W).is k v=true):bI (kV k) v:=by
 rcases dR h with ⟨i,t,rfl,rfl⟩ | ⟨x,t,rfl,rfl⟩ | ⟨rfl,rfl⟩
 ·exact ⟨t,rfl⟩
 ·exact ⟨t,rfl⟩
 ·rfl
theorem frz_at {X:Cx} {pins:List (Addr×Obj)} {σ:St} {H:Hp} {s:Shared} {a:Addr} {o:Obj} {kvs:List (Key×V)} {es:Array DictEntry} {ep:Nat} (I:Inv X pins σ H s) (e:H a=some (.frz o (.dK kvs))) (ho:o.data=.dict es ep) :
    ∃ vs,KV kvs vs∧s.heap.DictAt (bS X.prog X.w) a vs ep:=by
  obtain ⟨h1,_,_,vs,rel,o',es',ep',h2,h3,h4,r⟩:=(show cZ X.prog X.w H s.heap a (.frz o (.dK kvs)) from I.hok a _ e)
  rw [h1] at h2
  cases h2
  rw [ho] at h4
  cases h4
  exact ⟨vs,rel,o,es,h1,h3,ho,r⟩
theorem KV.at {kvs:List (Key×V)} {vs:List (Key×Value)} (r:KV kvs vs) {i:Nat} {kv:Key×V} (e:kvs[i]?=some kv):∃ v,vs[i]?=some (kv.1,v):=by
 unfold KV at r
 induction r generalizing i with
 | nil=>simp at e
 | @cons p q ps qs h t ih=>cases i with
  | zero =>
   have e':p=kv:=by simpa using e
   subst e'
   exact ⟨q.2,by simp [h.1]⟩
  | succ i=>simpa using ih (i:=i) (by simpa using e)
theorem turn_dict {P:Program} {w:World} {K:PySem.W.Frag} {tg:Expr} (a it:Addr) (o:Obj) (kvs:List (Key×V)) (es:Array DictEntry) (ep:Nat) (ho:o.data=.dict es ep):Turn P w K tg (Itd a o kvs) [it] it (fun i h=>h.IsKeyIter it a i kvs.length ep) where
 mem:=by simp
 obj:=fun i h st b hb=>by
  have e:b=it:=by simpa using hb
  subst e
  obtain ⟨o,e,c,d⟩:=st
  exact ⟨o,e,fun v z=>by rw [d] at z;cases z⟩
 keep:=fun i h h' st k=>st.at fun o e=>k it (by simp) o e
 item:=by
  intro X hP hw hK hc i pins s σ H E I hf st hg
  subst hP hw hK
  obtain ⟨hi,hq⟩:=hg
  obtain ⟨vs,rel,dd⟩:=frz_at I hq ho
  have hk:=List.getElem?_eq_getElem hi
  obtain ⟨v,hv⟩:=rel.at hk
  obtain ⟨f0,f1,f2,f3,f4,f5⟩:=hf it (by simp)
  rw [rel.length] at st
  refine wpAny_pyNext_dict_item st dd hv fun key h' hkey st' sb=>?_
  have I1:Inv X pins σ H {s with heap:=h'}:=I.turned (t':=s.toks) (fun b o hb e=>(sb.2 b hb).trans e) f0 f1 f3 f4 f5
  rw [← rel.length] at st'
  obtain ⟨o',e,c,d⟩:=id st'
  exact ⟨key,rfl,abF (s:={s with heap:=h'}) e c d (by decide) ⟨kV (kvs[i]).1,H,I1,nW hkey,⟨rfl,_,hk,rfl⟩,st',fun b hb=>(hf b hb).1⟩⟩
 done:=by
  intro X hP hw hK hc i pins s σ H E I hf st hg
  subst hP hw hK
  obtain ⟨hi,hq⟩:=hg
  obtain ⟨vs,rel,dd⟩:=frz_at I hq ho
  obtain ⟨f0,f1,f2,f3,f4,f5⟩:=hf it (by simp)
  rw [rel.length] at st hi
  exact wpAny_pyNext_dict_end (I.ok.hd hc) st dd (List.getElem?_eq_none_iff.mpr (by omega)) fun h' eb=>⟨rfl,I.turned (t':=s.toks) (fun b o hb e=>eb b o hb e) f0 f1 f3 f4 f5⟩
 self:=fun _ _ _ _ _ st h=>wpAny_pyIter_keyiter st h
noncomputable def iDct (tl:TE):TI:=fun σ H R=>tl σ H fun x H1=>bC x fun a=>cL (H1 a) fun kvs=>∀ o,R (Itd a o kvs) (upd H1 a (.frz o (.dK kvs)))
theorem pi_dict {X:Cx} {tg l:Expr} {tl:TE} (hl:PE X l tl):PI X tg l (iDct tl):=by
 intro pins s σ H R I h
 refine thn (hl pins s σ H _ I h) fun v s1 ⟨x,H1,I1,r1,q1⟩=>?_
 obtain ⟨a,rfl,q2⟩:=aU q1
 obtain ⟨kvs,e,q⟩:=cN q2
 cases r1
 obtain ⟨z,hd,vs,rel,dd⟩:=nV I1.hok e
 obtain ⟨ep,dat⟩:=dd.dictAt
 obtain ⟨o,es,ho,hx,hdat,r⟩:=id dat
 have I2:Inv X pins σ (upd H1 a (.frz o (.dK kvs))) s1:=I1.write (t':=s1.toks) (x:=a) (e:=a) (by rw [e];exact True.intro) (.inl rfl) (fun _ _ _ q=>q) ⟨o,ho⟩ ⟨ho,rQ z hd rel dd⟩
 refine wpAny_pyIter_dict hd dat ?_
 have F:(upd H1 a (.frz o (.dK kvs))) s1.heap.objs.size=none:=I2.hok.fresh (Nat.le_refl _)
 refine ⟨s1.heap.objs.size,[s1.heap.objs.size],_,_,_,rfl,I2.kept (t':=s1.toks) fun b o e=>Heap.get?_push_of_some _ e,turn_dict a _ o kvs es ep hdat,?_,fun b hb=>?_,q o⟩
 ·rw [rel.length]
  exact ⟨_,Heap.get?_push_size _ rfl,rfl,rfl⟩
 ·have e:b=s1.heap.objs.size:=by simpa using hb
  subst e
  exact I2.fpOk (Nat.le_refl _) F
section
variable {fr:List Nat} {tc:TT} {te tl:TE} {σ:St} {H:Hp} {Q:VK}
theorem e_compD:jY (iDct tl) fr tc te σ H Q=tl σ H fun x H1=>bC x fun a=>cL (H1 a) fun kvs=>∀ o,lc (Itd a o kvs) fr tc te σ (upd H1 a (.frz o (.dK kvs))) Q:=by
 unfold jY iDct
 rfl
theorem lc_dict {a:Addr} {o:Obj} {kvs:List (Key×V)} (Pv:Nat→List V→Hp→Prop) (h0:Pv 0 [] H) (hz:∀ i xs H,Pv i xs H→xs.length≤1000000) (hl:∀ i xs H,Pv i xs H→H a=some (.frz o (.dK kvs)))
    (hs:∀ i kv xs H,i < kvs.length→kvs[i]?=some kv→Pv i xs H→tc (some (kV kv.1)::bM fr σ) H fun b H2=>if b=true then te (some (kV kv.1)::bM fr σ) H2 (fun z H3=>Pv (i+1) (xs++[z]) H3) else Pv (i+1) xs H2)
    (hd:∀ xs H,Pv kvs.length xs H→∀ p,H p=none→Q (.ref p) (upd H p (.lst xs))):lc (Itd a o kvs) fr tc te σ H Q:=by
  refine ⟨cW kvs.length Pv,⟨kvs.length,by simp,Nat.zero_le _,h0⟩,?_⟩
  rintro i m xs H ⟨rfl,hi,p⟩
  refine ⟨hz i xs H p,?_⟩
  by_cases hlt:i < kvs.length
  · refine .inr ⟨⟨hlt,hl i xs H p⟩,fun y H' yy=>?_⟩
    obtain ⟨e,kv,hk,rfl⟩:=yy
    subst e
    simp only [cW_eq hlt]
    exact hs i kv xs _ hlt hk p
  · have e:i=kvs.length:=by omega
    subst e
    exact .inl ⟨⟨rfl,hl _ xs H p⟩,hd xs H p⟩
end
section
variable {td ty tx:TE} {σ:St} {H:Hp} {Q:VK} {D:Ends} {a:Addr} {v w x:V}
end
end L2
namespace L2
open PySem PySem.Spec PyProof.Rows
noncomputable def cTupOf:List V→Hp→VK→Prop:=fun vs H Q=>on1 vs fun x=>bC x fun p=>dQ (H p) fun ys=>∀ l,H l=none→Q (.ref l) (upd H l (.tup ys))
theorem onStr_is {x:V} {k:Str→Prop} (h:wO x k):∃ z,x=.str z∧k z:=by
 unfold wO at h
 split at h
 ·exact ⟨_,rfl,h⟩
 ·exact h.elim
theorem iP {vs:List V} {k:V→Prop} (h:on1 vs k):∃ v,vs=[v]∧k v:=by
 unfold on1 at h
 split at h
 ·exact ⟨_,rfl,h⟩
 ·exact h.elim
section
variable {X:Cx}
theorem fI:dX X (.type "tuple") cTupOf:=fun pins s σ H xs us Q I r h=>by
 obtain ⟨x,rfl,h⟩:=iP h
 obtain ⟨p,rfl,h⟩:=aU h
 obtain ⟨ys,e,h⟩:=eD h
 exact tT pins s σ H _ us Q I r ⟨_,_,rfl,.inl ⟨.inl (.inl e),h⟩⟩
end
section
variable {K:PySem.W.Frag} {T:String} {r:V→List V→Hp→VK→Prop} {to:TE} {t:TA} {σ:St} {H:Hp} {Q:VK} {x y:Str} {i:Int} {p:Addr} {ys:List Str}
theorem e_tupOf:cTupOf [.ref p] H Q=dQ (H p) fun ys=>∀ l,H l=none→Q (.ref l) (upd H l (.tup ys)):=rfl
end
end L2
namespace L2
open PySem PySem.Spec PyProof.Rows
noncomputable abbrev TJ:=Str→St→Hp→(Str→Hp→Prop)→Prop
section
variable {X:Cx} {e a b:Expr} {es:List Expr} {te:TE} {tj:TJ} {pos:Pos}
end
noncomputable def tLM (r:V→List V→Hp→VK→Prop) (to:TE) (t:TA):TE:=fun σ H Q=>to σ H fun x H1=>bC x fun a=>dQ (H1 a) fun _=>t σ H1 fun xs H2=>r (.ref a) xs H2 Q
noncomputable def cExt:V→List V→Hp→VK→Prop:=fun x vs H Q=>bC x fun a=>on1 vs fun y=>bC y fun b=>dQ (H a) fun xs=>dQ (H b) fun zs=>xs.length+zs.length≤sizeLine∧Q .non (upd H a (.lst (xs++zs)))
noncomputable def cPop0:V→List V→Hp→VK→Prop:=fun x vs H Q=>bC x fun a=>on1 vs fun y=>e9 y fun i=>dQ (H a) fun xs=>i=0∧gN xs[0]? fun v=>Q v (upd H a (.lst xs.tail))
section
variable {X:Cx} {o e:Expr} {es:List Expr} {to:TE} {t:TA} {name:Str} {apos cpos:Pos} {id:String} {r:V→List V→Hp→VK→Prop}
theorem wS (slot:Slot "list" name id) (hty:typeOf (.builtin id)=pure (.type "method_descriptor")) (hm:MtM X id r) (ho:PE X o to) (ha:PA X (e::es) t)
    (hbase:attributeBase o name X.env (eval o X.env)=eval o X.env:=by rfl)
    (hfew:((backTo cpos (starEach (e::es) X.env)).all (fun x=>!x.1) && (backToKw cpos (keywordEach [] X.env)).all (fun x=>x.1.isSome)
      && decide ((e::es).length+([]:List Keyword).length+(if ([]:List Keyword).isEmpty then 0 else 1) < 30))=true:=by rfl)
    (hline:(apos.endLine == cpos.line)=true:=by rfl) (hs:starEach (e::es) X.env=(false,eval e X.env)::starEach es X.env:=by rfl) (hplain:(backTo cpos (starEach es X.env)).any (·.1)=false:=by rfl) :
    PE X (.Call (.Attribute o name apos) (e::es) [] cpos) (tLM r to t):=by
  intro pins s σ H Q I h
  refine wpAny_Call_method_late hbase hfew hline rfl (thn (ho pins s σ H _ I h) fun v s1 ⟨x,H1,I1,r1,q1⟩=>?_)
  obtain ⟨a,rfl,q1⟩:=aU q1
  obtain ⟨xs,e1,q1⟩:=eD q1
  obtain ⟨h1,h2⟩:=zZ (T:="list") I1 r1 (.inl ⟨rfl,xs,.inl (.inl e1)⟩)
  refine ⟨"list",id,PySem.F.plainAttrs_list,slot,hty,h1,h2,?_⟩
  have hA:=ha cpos pins s1 σ H1 _ I1 q1
  rw [hs] at hA ⊢
  refine Calls.callWith_builtin (by show (false || (backTo cpos (starEach es X.env)).any (·.1))=false;rw [hplain]<;>rfl) (Calls.evalArgs_plain ?_)
  exact thn hA fun us s2 ⟨vs,H2,I2,r2,q2⟩=>hm pins s2 σ H2 _ vs v us Q I2 r1 r2 q2
theorem p8:MtM X "list.extend" cExt:=fun pins s σ H x vs v us Q I rx rv h=>by
 obtain ⟨a,rfl,h1⟩:=aU h
 obtain ⟨y,rfl,h2⟩:=iP h1
 obtain ⟨b,rfl,h3⟩:=aU h2
 obtain ⟨xs,e1,h4⟩:=eD h3
 obtain ⟨zs,e2,h5⟩:=eD h4
 exact mt_extend pins s σ H _ _ v us Q I rx rv ⟨_,_,_,_,rfl,rfl,e1,e2,h5⟩
theorem mt_pop0:MtM X "list.pop" cPop0:=fun pins s σ H x vs v us Q I rx rv h=>by
 obtain ⟨a,rfl,h1⟩:=aU h
 obtain ⟨y,rfl,h2⟩:=iP h1
 obtain ⟨i,rfl,h3⟩:=dD h2
 obtain ⟨xs,e1,rfl,h4⟩:=eD h3
 obtain ⟨y,e2,h5⟩:=cO h4
 cases xs with
 | nil=>cases e2
 | cons z zs=>exact mt_popAt pins s σ H _ _ v us Q I rx rv ⟨_,_,_,0,y,rfl,rfl,e1,by decide,by decide,by simp [seqIndex?],e2,h5⟩
end
noncomputable def truR:Option HO→Option Bool
 | some (.lst xs)=>some (!xs.isEmpty)
 | some (.tup xs)=>some (!xs.isEmpty)
 | some (.dK kvs)=>some (!kvs.isEmpty)
 | _=>none
noncomputable def wL (H:Hp):V→Option Bool
 | .non=>some false
 | .bl b=>some b
 | .int i=>some (i != 0)
 | .ref p=>truR (H p)
 | _=>none
theorem truO_of {K:PySem.W.Frag} {H:Hp} {x:V} {k:Bool} (h:wL H x=some k):TruV K x H k:=by
 cases x with
 | non=>cases h;rfl
 | bl b=>cases h;rfl
 | int i=>cases h;rfl
 | ref p =>
  simp only [wL] at h
  unfold truR at h
  split at h
  ·next e=>cases h;exact .inl ⟨_,.inl (.inl e),rfl⟩
  ·next e=>cases h;exact .inr (.inl ⟨_,gO.of e,rfl⟩)
  ·next e=>cases h;exact .inr (.inr ⟨_,e,rfl⟩)
  ·cases h
 | _=>cases h
noncomputable def tTruth (ta:TE):TT:=fun σ H Q=>ta σ H fun x H'=>gN (wL H' x) fun k=>Q k H'
theorem qB {X:Cx} {a:Expr} {ta:TE} (ha:PE X a ta) (he:∀ whole,isTrue a X.env whole=(do let v ← whole;standAt a.pos;holding [v] (truthy v))):PT X a (tTruth ta):=by
 intro pins s σ H Q I h
 exact isTrue_plain (thn (ha pins s σ H _ I h) fun v s1 ⟨x,H1,I1,r1,q1⟩=>by
  obtain ⟨k,e,q⟩:=cO q1
  exact tru_ok pins s1 σ H1 x v Q I1 r1 ⟨k,truO_of e,q⟩) (he _)
section
variable {te to:TE} {t:TA} {tj:TJ} {σ:St} {H:Hp} {Q:VK} {x acc:Str} {r:V→List V→Hp→VK→Prop} {QS:Str→Hp→Prop} {B:Bool→Hp→Prop} {D:Ends} {p q:Addr} {vs:List V} {kvs:List (Key×V)} {v:V} {b:Bool} {i:Int}
theorem e_estr:Str.empty++x=x:=by
 show (⟨#[]++x.cps⟩:Str)=x
 rw [Array.empty_append]
theorem e_lm:tLM r to t σ H Q=to σ H fun x H1=>bC x fun a=>dQ (H1 a) fun _=>t σ H1 fun xs H2=>r (.ref a) xs H2 Q:=rfl
theorem e_ext:cExt (.ref p) [.ref q] H Q=dQ (H p) fun xs=>dQ (H q) fun zs=>xs.length+zs.length≤sizeLine∧Q .non (upd H p (.lst (xs++zs))):=rfl
theorem e_pop0:cPop0 (.ref p) [.int 0] H Q=dQ (H p) fun xs=>(0:Int)=0∧gN xs[0]? fun v=>Q v (upd H p (.lst xs.tail)):=rfl
theorem e_truth:tTruth te σ H B=te σ H fun x H'=>gN (wL H' x) fun k=>B k H':=rfl
theorem e_truN:wL H .non=some false:=rfl
theorem e_truB:wL H (.bl b)=some b:=rfl
theorem e_truI:wL H (.int i)=some (i != 0):=rfl
theorem e_truRef:wL H (.ref p)=truR (H p):=rfl
theorem e_truL:truR (some (.lst vs))=some (!vs.isEmpty):=rfl
theorem e_truT:truR (some (.tup vs))=some (!vs.isEmpty):=rfl
theorem e_truD:truR (some (.dK kvs))=some (!kvs.isEmpty):=rfl
variable {fr:List Nat} {tc:TT} {tl:TE} {K:PySem.W.Frag}
theorem e_compT:jY (iTup K tl) fr tc te σ H Q=tl σ H fun x H1=>bC x fun a=>(∃ xs,gO K H1 a xs)∧lc (Itt K a) fr tc te σ H1 Q:=by
 unfold jY iTup
 congr 1
 funext x H1
 exact propext ⟨fun ⟨a,e,h1,h⟩=>by subst e;exact ⟨h1,h⟩,fun h=>by obtain ⟨a,rfl,h1,h⟩:=aU h;exact ⟨a,rfl,h1,h⟩⟩
theorem lc_tup {a:Addr} {ys:List V} (Pv:Nat→List V→Hp→Prop) (h0:Pv 0 [] H) (hz:∀ i xs H,Pv i xs H→xs.length≤1000000) (hl:∀ i xs H,Pv i xs H→gO K H a ys)
    (hs:∀ i y xs H,i < ys.length→ys[i]?=some y→Pv i xs H→tc (some y::bM fr σ) H fun b H2=>if b=true then te (some y::bM fr σ) H2 (fun z H3=>Pv (i+1) (xs++[z]) H3) else Pv (i+1) xs H2)
    (hd:∀ xs H,Pv ys.length xs H→∀ p,H p=none→Q (.ref p) (upd H p (.lst xs))):lc (Itt K a) fr tc te σ H Q:=by
  refine ⟨cW ys.length Pv,⟨ys.length,by simp,Nat.zero_le _,h0⟩,?_⟩
  rintro i m xs H ⟨rfl,hi,p⟩
  refine ⟨hz i xs H p,?_⟩
  have q:=hl i xs H p
  by_cases hlt:i < ys.length
  · refine .inr ⟨⟨ys,ys[i],q,by simp [hlt]⟩,fun y H' yy=>?_⟩
    obtain ⟨e,yy⟩:=yy
    subst e
    simp only [cW_eq hlt]
    exact hs i y xs _ hlt (yy ys q) p
  · have e:i=ys.length:=by omega
    subst e
    exact .inl ⟨⟨ys,q,Nat.le_refl _⟩,hd xs H p⟩
end
end L2
namespace L2
open PySem PySem.Spec PyProof.Rows
section
variable {X:Cx} {pins:List (Addr×Obj)} {σ:St} {H:Hp} {s:Shared}
theorem rcNe_at {n:Nat} {a b:Addr} {r:Bool} {A:Around} (h:n9 X.K H n a b r) (I:Inv X pins σ H s) (hu:A.units+n < cLine):SeqAt.RcNeAt A s (.ref a) (.ref b) (!r):=by
 cases h with
 | list hx hy hl he =>
  obtain ⟨its,r1,p1,z1⟩:=I.list hx
  obtain ⟨jts,r2,p2,z2⟩:=I.list hy
  have l1:=r1.length
  have l2:=r2.length
  have:=SeqAt.RcNeAt.lists p1.isList p2.isList (by simp only [List.size_toArray];omega) (by omega) (A:=A) (fun j h1 h2=>by
   obtain ⟨x,ex,rx⟩:=jE r1 h1
   obtain ⟨y,ey,ry⟩:=jE r2 h2
   exact eqA_at (he j x y ex ey) I rx ry (by show A.units+1+_ < _;omega))
  rw [List.size_toArray,← l1] at this
  exact this
 | listLen hx hy hl =>
  obtain ⟨its,r1,p1,z1⟩:=I.list hx
  obtain ⟨jts,r2,p2,z2⟩:=I.list hy
  have l1:=r1.length
  have l2:=r2.length
  exact SeqAt.RcNeAt.lists_lengths p1.isList p2.isList (by simp only [List.size_toArray,bne_iff_ne,ne_eq];omega) (by omega)
 | tup hx hy he =>
  obtain ⟨its,r1,p1,z1⟩:=I.tuple hx
  obtain ⟨jts,r2,p2,z2⟩:=I.tuple hy
  have l1:=r1.length
  have l2:=r2.length
  have:=SeqAt.RcNeAt.tuples (show s.heap.IsTuple _ its.toArray from p1) (show s.heap.IsTuple _ jts.toArray from p2) (by omega) (A:=A) (fun j h1 h2=>by
   obtain ⟨x,ex,rx⟩:=jE r1 h1
   obtain ⟨y,ey,ry⟩:=jE r2 h2
   exact eqA_at (he j x y ex ey) I rx ry (by show A.units+1+_ < _;omega))
  rw [List.size_toArray,List.size_toArray,← l1,← l2] at this
  exact this
end
noncomputable def cNeA (K:PySem.W.Frag) (n:Nat):R2:=fun x y H Q=>bC x fun a=>bC y fun b=>∃ r,n9 K H n a b r∧Q (.bl (!r)) H
theorem q9 {A:Around} {k:Nat} (hr:Room k A) {n:Nat} (h:n≤60):A.units+n < cLine:=Nat.lt_of_le_of_lt (Nat.add_le_add_left (by omega:n≤64) _) hr.units
noncomputable def repV (n:Int) (xs:List V):List V:=(List.replicate n.toNat xs).flatten
noncomputable def cRep:R2:=fun x y H Q=>bC x fun l=>e9 y fun k=>dQ (H l) fun xs=>(-(2 ^ 63)≤k∧k < 2 ^ 63)∧xs.length * k.toNat≤sizeLine∧∀ p,H p=none→Q (.ref p) (upd H p (.lst (repV k xs)))
noncomputable def cLstOf:List V→Hp→VK→Prop:=fun vs H Q=>on1 vs fun x=>bC x fun p=>kL (H p) fun ys=>∀ l,H l=none→Q (.ref l) (upd H l (.lst ys))
noncomputable def cLenK (K:PySem.W.Frag):List V→Hp→VK→Prop:=fun vs H Q=>on1 vs fun x=>bC x fun p=>∃ xs,eA K H p xs∧Q (.int xs.length) H
section
variable {X:Cx}
theorem jI (n:Nat) (hu:X.A.units+n < cLine):jM X (compareOp .NotEq) (cNeA X.K n):=fun pins s σ H x y v u Q I rx ry h=>by
 obtain ⟨a,rfl,h1⟩:=aU h
 obtain ⟨b,rfl,r,e,q⟩:=aU h1
 cases rx
 cases ry
 exact rcNe_at e I hu X.prog X.w X.xe _ (bR I q rfl)
theorem op_repC:jM X (binaryOp .Mult) cRep:=op_rep.imp fun x y H Q h=>by
 obtain ⟨a,rfl,h1⟩:=aU h
 obtain ⟨k,rfl,h2⟩:=dD h1
 obtain ⟨xs,e,⟨g1,g2⟩,h3,q⟩:=eD h2
 exact ⟨a,k,xs,rfl,rfl,e,g1,g2,h3,q⟩
theorem uD:dX X (.type "list") cLstOf:=fun pins s σ H xs us Q I r h=>by
 obtain ⟨x,rfl,h1⟩:=iP h
 obtain ⟨p,rfl,h2⟩:=aU h1
 obtain ⟨ys,e,h3⟩:=lF h2
 refine vT pins s σ H _ us Q I r ⟨p,ys,rfl,?_,h3⟩
 rcases e with e | e
 ·exact .inl (eA.of e)
 ·exact .inr (gO.of e)
theorem mG:dX X (.builtin "len") (cLenK X.K):=fun pins s σ H xs us Q I r h=>by
 obtain ⟨x,rfl,h1⟩:=iP h
 obtain ⟨p,rfl,ys,e,q⟩:=aU h1
 exact vB pins s σ H _ us Q I r ⟨p,ys,rfl,.inl e,q⟩
end
section
variable {K:PySem.W.Frag} {H:Hp} {Q:VK} {a b p:Addr} {n:Nat} {i:Int}
theorem e_neA:cNeA K n (.ref a) (.ref b) H Q = ∃ r,n9 K H n a b r∧Q (.bl (!r)) H:=rfl
theorem e_rep:cRep (.ref a) (.int i) H Q=dQ (H a) fun xs=>(-(2 ^ 63)≤i∧i < 2 ^ 63)∧xs.length * i.toNat≤sizeLine∧∀ p,H p=none→Q (.ref p) (upd H p (.lst (repV i xs))):=rfl
theorem e_lstOf:cLstOf [.ref p] H Q=kL (H p) fun ys=>∀ l,H l=none→Q (.ref l) (upd H l (.lst ys)):=rfl
theorem e_lenK:cLenK K [.ref p] H Q = ∃ xs,eA K H p xs∧Q (.int xs.length) H:=rfl
end
theorem n9.same {K:PySem.W.Frag} {H:Hp} {a b:Addr} {xs:List V} (h1:H a=some (.lst xs)) (h2:H b=some (.lst xs)) (h:∀ x∈xs,∃ c,x=.ref c):n9 K H 1 a b true:=by
 have:=n9.list (K:=K) (H:=H) (n:=0) (a:=a) (b:=b) (e:=fun _=>true) (eA.of h1) (eA.of h2) rfl fun j x y e1 e2=>by
  rw [e1] at e2
  cases e2
  obtain ⟨c,rfl⟩:=h x (List.mem_of_getElem? e1)
  exact .same
 rwa [show ((List.range xs.length).all fun _=>true)=true by simp [List.all_eq_true]] at this
end L2
namespace L2
open PySem PySem.Spec PyProof.Rows
noncomputable def Str.cs (x:Str):List Nat:=x.cps.toList
section
variable {X:Cx}
end
section
variable {K:PySem.W.Frag} {H:Hp} {Q:VK} {p:Addr} {x y z:Str} {neg:Bool} {v:V}
end
end L2
namespace L2
open PySem PySem.Spec PyProof.Rows
noncomputable def jF (C:Addr) (o:Option HO) (k:Addr→List (Str×V)→Prop) (_u:Tg k:=()):Prop:=match o with
 | some (.ins C' dx fs)=>C'=C∧k dx fs
 | _=>False
theorem lJ {C:Addr} {o:Option HO} {k:Addr→List (Str×V)→Prop} (h:jF C o k):∃ dx fs,o=some (.ins C dx fs)∧k dx fs:=by
 unfold jF at h
 split at h
 ·obtain ⟨rfl,h⟩:=h
  exact ⟨_,_,rfl,h⟩
 ·exact h.elim
noncomputable def cFld (C:Addr) (f:Str) (ta:TE):TE:=fun σ H Q=>ta σ H fun x H1=>bC x fun a=>jF C (H1 a) fun _ fs=>gN (fs.lookup f) fun v=>Q v H1
noncomputable def cSetF (C:Addr) (f:Str) (ta tv:TE):TS:=fun D σ H=>tv σ H fun y H1=>ta σ H1 fun x H2=>bC x fun a=>jF C (H2 a) fun dx fs=>fs.length < 1000∧D.nx σ (upd H2 a (.ins C dx (g9 f y fs)))
noncomputable def cAugF (C:Addr) (f:Str) (ta tv:TE):TS:=fun D σ H=>ta σ H fun x H1=>bC x fun a=>jF C (H1 a) fun _ fs=>gN (fs.lookup f) fun v=>tv σ H1 fun y H2=>e9 v fun i=>e9 y fun j=>jF C (H2 a) fun dx fs'=>fs'.length < 1000∧D.nx σ (upd H2 a (.ins C dx (g9 f (.int (i+j)) fs')))
section
variable {X:Cx} {o e value:Expr} {f:Str} {pos pos' tpos:Pos} {ta tv:TE} {C:Addr}
theorem aM (c:Cls X.K C) (n:dS X.K C f) (he:PE X e ta) (hb:attributeBase e f X.env (eval e X.env)=eval e X.env:=by rfl):PE X (.Attribute e f pos) (cFld C f ta):=fun pins s σ H Q I h=>by
 refine attr_of hb (thn (he pins s σ H _ I h) fun u s1 ⟨x,H1,I1,rx,q1⟩=>?_)
 obtain ⟨a,rfl,q2⟩:=aU q1
 obtain ⟨dx,fs,ea,q3⟩:=lJ q2
 obtain ⟨v,l,q⟩:=cO q3
 obtain rfl:u=Value.ref a:=rx
 exact rF I1 ea c n l fun u' s2 I2 ru=>⟨v,H1,I2,ru,q⟩
theorem cP (c:Cls X.K C) (n:dS X.K C f) (ha:PE X o ta) (hv:PE X value tv) (hs:swapsWith value (some (.Attribute o f pos')) pos.line X.env=pure false:=by rfl):PS X (.Assign [.Attribute o f pos'] value pos) (cSetF C f ta tv):=fun pins s σ H D I h=>by
 refine plainObj_wpAny_Assign_Attribute (thn (hv pins s σ H _ I h) fun u s1 ⟨y,H1,I1,ry,q⟩=>thn (ha pins s1 σ H1 _ I1 q) fun ov s2 ⟨x,H2,I2,rx,q1⟩=>?_) hs
 obtain ⟨a,rfl,q2⟩:=aU q1
 obtain ⟨dx,fs,ea,l,q3⟩:=lJ q2
 obtain rfl:ov=Value.ref a:=rx
 exact qS I2 ea c n l ry fun s3 I3=>⟨σ,_,I3,q3⟩
theorem ps_augF (c:Cls X.K C) (n:dS X.K C f) (ha:PE X o ta) (hv:PE X value tv):PS X (.AugAssign (.Attribute o f tpos) .Add value pos) (cAugF C f ta tv):=fun pins s σ H D I h=>by
 refine wpAny_AugAssign_AttributeAny (thn (ha pins s σ H _ I h) fun ov s1 ⟨x,H1,I1,rx,q1⟩=>?_)
 obtain ⟨a,rfl,q2⟩:=aU q1
 obtain ⟨dx,fs,ea,q3⟩:=lJ q2
 obtain ⟨v,l,q⟩:=cO q3
 obtain rfl:ov=Value.ref a:=rx
 refine rF I1 ea c n l fun u s2 I2 ru=>thn (hv pins s2 σ H1 _ I2 q) fun w3 s3 ⟨y,H2,I3,ry,q4⟩=>?_
 obtain ⟨i,rfl,q5⟩:=dD q4
 obtain ⟨j,rfl,q6⟩:=dD q5
 obtain ⟨dx',fs',ea',l',q7⟩:=lJ q6
 refine thn (in_add pins s3 σ H2 (.int i) (.int j) u w3 (fun z H3=>z=.int (i+j)∧H3=H2) I3 ru ry ⟨i,j,rfl,rfl,rfl,rfl⟩) fun w4 s4 ⟨z,H3,I4,rz,ez,eH⟩=>?_
 subst ez eH
 exact qS I4 ea' c n l' rz fun s5 I5=>⟨σ,_,I5,q7⟩
end
section
variable {C a dx:Addr} {fs:List (Str×V)} {k:Addr→List (Str×V)→Prop} {m f:Str} {sp:Sp} {E:XK} {ta tv:TE} {t:TA} {σ:St} {H:Hp} {Q:VK} {D:Ends} {v u:V} {r:List (Str×V)}
theorem abA {k:Addr→List (Str×V)→Prop} {u:Tg k}:@jF C (some (.ins C dx fs)) k u=k dx fs:=by simp [jF]
theorem e_fld:cFld C f ta σ H Q=ta σ H fun x H1=>bC x fun a=>jF C (H1 a) fun _ fs=>gN (fs.lookup f) fun v=>Q v H1:=rfl
theorem e_setF:cSetF C f ta tv D σ H=tv σ H fun y H1=>ta σ H1 fun x H2=>bC x fun a=>jF C (H2 a) fun dx fs=>fs.length < 1000∧D.nx σ (upd H2 a (.ins C dx (g9 f y fs))):=rfl
theorem e_augF:cAugF C f ta tv D σ H=ta σ H fun x H1=>bC x fun a=>jF C (H1 a) fun _ fs=>gN (fs.lookup f) fun v=>tv σ H1 fun y H2=>e9 v fun i=>e9 y fun j=>jF C (H2 a) fun dx fs'=>fs'.length < 1000∧D.nx σ (upd H2 a (.ins C dx (g9 f (.int (i+j)) fs'))):=rfl
theorem e_meth:xB C m sp [] E ta t σ H Q=ta σ H fun x H1=>bC x fun a=>jF C (H1 a) fun _ fs=>fs.lookup m=none∧t σ H1 fun vs H2=>sp (.ref a::vs) H2 Q E:=by
 unfold xB
 congr 1
 funext x H1
 refine propext ⟨fun ⟨a,dx,fs,e,e1,l,h⟩=>?_,fun h=>?_⟩
 ·subst e
  show jF C (H1 a) _
  rw [e1,abA]
  simp only [List.append_nil] at h
  exact ⟨l,h⟩
 ·obtain ⟨a,rfl,h⟩:=aU h
  obtain ⟨dx,fs,e1,l,h⟩:=lJ h
  exact ⟨a,dx,fs,rfl,e1,l,by simpa only [List.append_nil] using h⟩
theorem e_make:aa7 C sp [] E t σ H Q=t σ H fun vs H1=>∀ x dx,H1 x=none→H1 dx=none→dx≠x→sp (.ref x::vs) (upd (upd H1 dx (.own x)) x (.ins C dx [])) (fun v H2=>v=.non∧Q (.ref x) H2) E:=by
 unfold aa7
 simp only [List.append_nil]
theorem of_inj {x y:String}:(Str.ofString x=Str.ofString y)=(x=y):=lK
theorem e_lookup {x y:String}:List.lookup (Str.ofString x) ((Str.ofString y,v)::r)=if x=y then some v else List.lookup (Str.ofString x) r:=by
 by_cases h:x=y
 ·subst h
  simp [List.lookup]
 ·have:(Str.ofString x == Str.ofString y)=false:=beq_eq_false_iff_ne.mpr fun z=>h (of_inj ▸ z)
  simp only [List.lookup,this,if_neg h]
theorem e_lookup0 {x:Str}:List.lookup x ([]:List (Str×V))=none:=rfl
theorem e_putF {x y:String}:g9 (Str.ofString x) u ((Str.ofString y,v)::r)=if y=x then (Str.ofString y,u)::r else (Str.ofString y,v)::g9 (Str.ofString x) u r:=by
 rw [show g9 (Str.ofString x) u ((Str.ofString y,v)::r)=(if Str.ofString y=Str.ofString x then (Str.ofString y,u)::r else (Str.ofString y,v)::g9 (Str.ofString x) u r) from rfl]
 by_cases h:y=x
 ·rw [if_pos h,if_pos (by rw [h])]
 ·rw [if_neg h,if_neg fun z=>h (of_inj ▸ z)]
theorem e_putF0 {x:Str}:g9 x u []=[(x,u)]:=rfl
end
end L2
namespace L2
open PySem PySem.Spec PyProof.Rows
theorem on2_is {vs:List V} {k:V→V→Prop} (h:on2 vs k):∃ v w,vs=[v,w]∧k v w:=by
 unfold on2 at h
 split at h
 ·exact ⟨_,_,rfl,h⟩
 ·exact h.elim
section
variable {X:Cx}
end
section
variable {H:Hp} {Q:VK} {x:V} {p:Addr} {σ:St} {t:TA} {vs:List V} {i:Int} {z:Str} {b:Bool}
end
theorem aaJ {a b:Str}:oJ (.str a) (.str b)=(a == b):=rfl
theorem eqV_int {a b:Int}:oJ (.int a) (.int b)=(a == b):=rfl
end L2
namespace L2
open PySem PySem.Spec PyProof.Rows
section
variable {X:Cx} {pins:List (Addr×Obj)} {σ:St} {H:Hp} {s:Shared} {a:Addr} {o:Obj} {kvs:List (Key×V)}
theorem Inv.thaw (I:Inv X pins σ H s) (e:H a=some (.frz o (.dK kvs))) (hne:∀ ob u,X.H₀ a≠some (.frz ob u)):Inv X pins σ (upd H a (.dK kvs)) s:=by
 have nn:∀ {b:Addr},H b=none→b≠a:=fun h z=>by subst z;rw [e] at h;cases h
 refine ⟨I.ok,I.os,I.bare,⟨I.base.keep,I.base.slot,fun b ob q n hx=>?_,I.base.there,fun b xs q=>?_,fun b ob u q=>?_,fun b ps q=>?_⟩,I.loc,I.cell,?_,fun x c hc=>?_,fun p hp=>?_,fun b u q=>?_,I.len⟩
 ·have:=I.base.free b ob q n hx
  rw [aI (nn this)]
  exact this
 ·have:=I.base.tups b xs q
  rw [aI (dE this e (by intro z;cases z))]
  exact this
 ·have h1:=I.base.frzs b ob u q
  rw [aI (fun z=>by subst z;exact hne _ _ q)]
  exact h1
 ·obtain ⟨more,h1⟩:=I.base.tbls b ps q
  exact ⟨more,by rw [aI (dE h1 e (by intro z;cases z))];exact h1⟩
 ·rw [aI (nn I.free)]
  exact I.free
 ·rw [aI (nn (I.freeC x c hc))]
  exact I.freeC x c hc
 ·obtain ⟨h1,h2,h3⟩:=I.pin p hp
  exact ⟨h1,by rw [aI (nn h2)];exact h2,h3⟩
 ·have own:∀ b c,H b=some (.own c)→upd H a (.dK kvs) b=some (.own c):=fun b c q=>by rw [aI (dE q e (by intro z;cases z))];exact q
  have tup:∀ b xs,H b=some (.tup xs)→upd H a (.dK kvs) b=some (.tup xs):=fun b c q=>by rw [aI (dE q e (by intro z;cases z))];exact q
  by_cases hb:b=a
  ·subst hb
   rw [aA] at q
   cases q
   exact cZ.stay (I.hok b _ e).2 (fun _ _ _ z=>z) (fun b q=>own b _ q) tup
  ·rw [aI hb] at q
   exact (I.hok b u q).stay (fun _ _ _ z=>z) (fun b q=>own b _ q) tup
end
noncomputable def thawE (H₀:Hp) (D:Ends):Ends :=
 {nx:=fun σ H=>∃ a o kvs,H a=some (.frz o (.dK kvs))∧(∀ ob u,H₀ a≠some (.frz ob u))∧D.nx σ (upd H a (.dK kvs))
  bk:=fun σ H=>∃ a o kvs,H a=some (.frz o (.dK kvs))∧(∀ ob u,H₀ a≠some (.frz ob u))∧D.bk σ (upd H a (.dK kvs))
  ct:=fun σ H=>∃ a o kvs,H a=some (.frz o (.dK kvs))∧(∀ ob u,H₀ a≠some (.frz ob u))∧D.ct σ (upd H a (.dK kvs))
  rt:=fun v H=>∃ a o kvs,H a=some (.frz o (.dK kvs))∧(∀ ob u,H₀ a≠some (.frz ob u))∧D.rt v (upd H a (.dK kvs))}
noncomputable def tThaw (H₀:Hp) (t:TS):TS:=fun D σ H=>t (thawE H₀ D) σ H
theorem ps_thaw {X:Cx} {st:Stmt} {t:TS} (h:PS X st t):PS X st (tThaw X.H₀ t):=fun pins s σ H D I hq =>
 thn (h pins s σ H _ I hq) fun f s' q=>by
  cases f with
  | next=>obtain ⟨σ',H',I',a,o,kvs,e,hne,q⟩:=q;exact ⟨σ',_,I'.thaw e hne,q⟩
  | brk=>obtain ⟨σ',H',I',a,o,kvs,e,hne,q⟩:=q;exact ⟨σ',_,I'.thaw e hne,q⟩
  | cont=>obtain ⟨σ',H',I',a,o,kvs,e,hne,q⟩:=q;exact ⟨σ',_,I'.thaw e hne,q⟩
  | ret u=>obtain ⟨v,σ',H',I',r,a,o,kvs,e,hne,q⟩:=q;exact ⟨v,σ',_,I'.thaw e hne,r,q⟩
noncomputable def cDIn (ty td:TE):TE:=fun σ H Q=>ty σ H fun y H1=>td σ H1 fun x H2=>bC x fun a=>cL (H2 a) fun kvs=>gN (iV y) fun k=>Q (.bl (bY kvs k).isSome) H2
noncomputable def cDPop1 (td ty:TE):TE:=fun σ H Q=>td σ H fun x H1=>bC x fun a=>cL (H1 a) fun _=>ty σ H1 fun y H2=>cL (H2 a) fun kvs=>gN (iV y) fun k=>gN (bY kvs k) fun v=>Q v (upd H2 a (.dK (pP kvs k)))
noncomputable def cDGet2 (td ty tx:TE):TE:=fun σ H Q=>td σ H fun x H1=>bC x fun a=>cL (H1 a) fun _=>ty σ H1 fun y H2=>tx σ H2 fun z H3=>cL (H3 a) fun kvs=>gN (iV y) fun k=>Q ((bY kvs k).getD z) H3
theorem vX {y:V} {k:Key} (h:iV y=some k):y=kV k:=by
 cases y<;>simp [iV] at h<;>subst h<;>rfl
section
variable {X:Cx} {o e f:Expr} {apos cpos:Pos} {td ty tx:TE}
theorem pe_dpopC (ho:PE X o td) (he:PE X e ty) (m:M1 X o "pop" apos e cpos):PE X (.Call (.Attribute o "pop" apos) [e] [] cpos) (cDPop1 td ty):=fun pins s σ H Q I h=>by
 refine wpAny_Call_method m.base m.few m.line PySem.F.plainAttrs_dict PySem.F.slot_dict_pop PySem.F.type_dict_pop (thn (ho pins s σ H _ I h) fun u s1 ⟨x,H1,I1,rx,q1⟩=>?_)
 obtain ⟨a,rfl,q2⟩:=aU q1
 obtain ⟨kv0,e0,q3⟩:=cN q2
 obtain rfl:u=Value.ref a:=rx
 obtain ⟨t1,t2,_⟩:=pC I1 (.inl ⟨kv0,.inl e0⟩)
 refine ⟨t1,t2,?_⟩
 rw [m.trees]
 refine Calls.callWith_builtin rfl (Calls.evalArgs_plain (Calls.spliced_cons (thn (he pins s1 σ H1 _ I1 q3) fun iv s2 ⟨y,H2,I2,ry,q4⟩=>Calls.spliced_nil ?_)))
 obtain ⟨kvs,ea,q5⟩:=cN q4
 obtain ⟨k,ek,q6⟩:=cO q5
 obtain ⟨v,l,q7⟩:=cO q6
 cases vX ek
 exact d_pop I2 ea ry l (.inl rfl) fun w' s3 I3 rw'=>⟨v,_,I3,rw',q7⟩
theorem pe_dget2C (hu:X.A.units+1 < cLine) (ho:PE X o td) (he:PE X e ty) (hf:PE X f tx) (m:M2 X o "get" apos e f cpos):PE X (.Call (.Attribute o "get" apos) [e,f] [] cpos) (cDGet2 td ty tx):=fun pins s σ H Q I h=>by
 refine wpAny_Call_method m.base m.few m.line PySem.F.plainAttrs_dict PySem.F.slot_dict_get PySem.F.type_dict_get (thn (ho pins s σ H _ I h) fun u s1 ⟨x,H1,I1,rx,q1⟩=>?_)
 obtain ⟨a,rfl,q2⟩:=aU q1
 obtain ⟨kv0,e0,q3⟩:=cN q2
 obtain rfl:u=Value.ref a:=rx
 obtain ⟨t1,t2,_⟩:=pC I1 (.inl ⟨kv0,.inl e0⟩)
 refine ⟨t1,t2,?_⟩
 rw [m.trees]
 refine Calls.callWith_builtin rfl (Calls.evalArgs_plain (Calls.spliced_cons (thn (he pins s1 σ H1 _ I1 q3) fun iv s2 ⟨y,H2,I2,ry,q4⟩ =>
  Calls.spliced_cons (thn (hf pins s2 σ H2 _ I2 q4) fun fv s3 ⟨z,H3,I3,rz,q5⟩=>Calls.spliced_nil ?_))))
 obtain ⟨kvs,ea,q6⟩:=cN q5
 obtain ⟨k,ek,q7⟩:=cO q6
 cases vX ek
 exact d_get2 hu I3 (DGet.k ea) ry rz fun w' s4 I4 rw'=>⟨_,H3,I4,rw',q7⟩
theorem aa9 (hu:X.A.units+1 < cLine) (hi:PE X e ty) (ho:PE X o td):PC X .In e o (cDIn ty td):=fun pins s σ H Q I h=>by
 refine thn (hi pins s σ H _ I h) fun iv s1 ⟨y,H1,I1,ry,q1⟩=>thn (ho pins s1 σ H1 _ I1 q1) fun u s2 ⟨x,H2,I2,rx,q2⟩=>?_
 obtain ⟨a,rfl,q3⟩:=aU q2
 obtain ⟨kvs,e0,q4⟩:=cN q3
 obtain ⟨k,ek,q5⟩:=cO q4
 obtain rfl:u=Value.ref a:=rx
 cases vX ek
 exact d_in hu I2 (DGet.k e0) ry fun s3 I3=>⟨.bl (bY kvs k).isSome,H2,I3,rfl,q5⟩
noncomputable def aaI (td:TE):TE:=fun σ H Q=>td σ H fun x H1=>bC x fun a=>cL (H1 a) fun _=>Q .non (upd H1 a (.dK []))
theorem pe_dclear (ho:PE X o td) (hbase:attributeBase o "clear" X.env (eval o X.env)=eval o X.env:=by rfl) (hline:(apos.endLine == cpos.line)=true:=by rfl):PE X (.Call (.Attribute o "clear" apos) [] [] cpos) (aaI td):=fun pins s σ H Q I h=>by
 refine wpAny_Call_method0_late hbase hline (thn (ho pins s σ H _ I h) fun v s1 ⟨x,H1,I1,r1,q1⟩=>?_)
 obtain ⟨a,rfl,q2⟩:=aU q1
 obtain ⟨kvs,e0,q3⟩:=cN q2
 obtain rfl:v=Value.ref a:=r1
 obtain ⟨t1,t2,_⟩:=pC I1 (.inl ⟨kvs,.inl e0⟩)
 refine ⟨"dict","dict.clear",PySem.F.plainAttrs_dict,PySem.F.slot_dict_clear,PySem.F.type_dict_clear,t1,t2,Calls.callWith_builtin rfl (PySem.evalArgs_none ?_)⟩
 obtain ⟨z,hd,vs,rel,dd⟩:=nV I1.hok e0
 refine call_meetsIn PySem.F.slot_dict_clear dd.typeIs PySem.F.entry_dict_clear (PySem.F.args_dict_clear_1 _) (meets_dict_clear (bS X.prog X.w) a)
  ⟨vs,dd,by rw [← rel.length];exact z,fun h' dd' hs=>⟨.non,_,?_,rfl,q3⟩⟩
 have he:∃ q,h'.get? a=some q:=let ⟨q,_,_,hq,_⟩:=dd';⟨q,hq⟩
 exact nQ I1 (by rw [e0];exact True.intro) hs he (rQ (Nat.zero_le _) hd .nil dd')
noncomputable def cDSet (td ty tx:TE):TE:=fun σ H Q=>td σ H fun x H1=>bC x fun a=>cL (H1 a) fun _=>ty σ H1 fun y H2=>tx σ H2 fun z H3=>cL (H3 a) fun kvs=>gN (iV y) fun k=>kvs.length < sizeLine ∧
 (∀ v,bY kvs k=some v→Q v H3)∧(bY kvs k=none→Q z (upd H3 a (.dK (d9 kvs k z))))
theorem pe_dsetC (ho:PE X o td) (he:PE X e ty) (hf:PE X f tx) (m:M2 X o "setdefault" apos e f cpos):PE X (.Call (.Attribute o "setdefault" apos) [e,f] [] cpos) (cDSet td ty tx):=fun pins s σ H Q I h=>by
 refine wpAny_Call_method m.base m.few m.line PySem.F.plainAttrs_dict PySem.F.slot_dict_setdefault PySem.F.type_dict_setdefault (thn (ho pins s σ H _ I h) fun u s1 ⟨x,H1,I1,rx,q1⟩=>?_)
 obtain ⟨a,rfl,q2⟩:=aU q1
 obtain ⟨kv0,e0,q3⟩:=cN q2
 obtain rfl:u=Value.ref a:=rx
 obtain ⟨t1,t2,_⟩:=pC I1 (.inl ⟨kv0,.inl e0⟩)
 refine ⟨t1,t2,?_⟩
 rw [m.trees]
 refine Calls.callWith_builtin rfl (Calls.evalArgs_plain (Calls.spliced_cons (thn (he pins s1 σ H1 _ I1 q3) fun iv s2 ⟨y,H2,I2,ry,q4⟩ =>
  Calls.spliced_cons (thn (hf pins s2 σ H2 _ I2 q4) fun fv s3 ⟨z,H3,I3,rz,q5⟩=>Calls.spliced_nil ?_))))
 obtain ⟨kvs,ea,q6⟩:=cN q5
 obtain ⟨k,ek,hl,q7,q8⟩:=cO q6
 cases vX ek
 obtain ⟨z',hd,vs,rel,dd⟩:=nV I3.hok ea
 refine call_meetsIn PySem.F.slot_dict_setdefault dd.typeIs PySem.F.entry_dict_setdefault (PySem.F.args_dict_setdefault_3 _ _ _) (kt_meets_setdefault (bS X.prog X.w) a (pM ry) hd fv)
  ⟨vs,dd,by rw [← rel.length];exact z',fun v hv=>?_,fun hv h' dd' hs=>?_⟩
 ·have:=rel.val k
  rw [hv] at this
  cases l:bY kvs k with
  | none=>rw [l] at this;exact this.elim
  | some w=>rw [l] at this;exact ⟨w,H3,I3.tok _,this,q7 w l⟩
 ·have:=rel.val k
  rw [hv] at this
  cases l:bY kvs k with
  | some w=>rw [l] at this;exact this.elim
  | none =>
   have he:∃ q,h'.get? a=some q:=let ⟨q,_,_,hq,_⟩:=dd';⟨q,hq⟩
   exact ⟨z,_,nQ I3 (by rw [ea];exact True.intro) hs he (rQ (by have:=lG kvs k z;omega) hd (rel.put k rz) dd'),rz,q8 l⟩
end
section
variable {td ty tx:TE} {σ:St} {H H₀:Hp} {Q:VK} {t:TS} {D:Ends} {v:V}
theorem e_thaw:tThaw H₀ t D σ H=t (thawE H₀ D) σ H:=rfl
theorem e_dinC:cDIn ty td σ H Q=ty σ H fun y H1=>td σ H1 fun x H2=>bC x fun a=>cL (H2 a) fun kvs=>gN (iV y) fun k=>Q (.bl (bY kvs k).isSome) H2:=rfl
theorem e_dpopC:cDPop1 td ty σ H Q=td σ H fun x H1=>bC x fun a=>cL (H1 a) fun _=>ty σ H1 fun y H2=>cL (H2 a) fun kvs=>gN (iV y) fun k=>gN (bY kvs k) fun v=>Q v (upd H2 a (.dK (pP kvs k))):=rfl
theorem e_dget2C:cDGet2 td ty tx σ H Q=td σ H fun x H1=>bC x fun a=>cL (H1 a) fun _=>ty σ H1 fun y H2=>tx σ H2 fun z H3=>cL (H3 a) fun kvs=>gN (iV y) fun k=>Q ((bY kvs k).getD z) H3:=rfl
theorem e_dclear:aaI td σ H Q=td σ H fun x H1=>bC x fun a=>cL (H1 a) fun _=>Q .non (upd H1 a (.dK [])):=rfl
theorem e_dsetC:cDSet td ty tx σ H Q=td σ H fun x H1=>bC x fun a=>cL (H1 a) fun _=>ty σ H1 fun y H2=>tx σ H2 fun z H3=>cL (H3 a) fun kvs=>gN (iV y) fun k=>kvs.length < sizeLine∧(∀ v,bY kvs k=some v→Q v H3)∧(bY kvs k=none→Q z (upd H3 a (.dK (d9 kvs k z)))):=rfl
end
noncomputable def cGetL:V→V→Hp→VK→Prop:=fun x y H Q=>bC x fun p=>e9 y fun i=>dQ (H p) fun xs=>gN (j6 xs i) fun v=>Q v H
noncomputable def cIpA:TIp:=fun x y H Q=>e9 x fun i=>e9 y fun j=>Q (.int (i+j)) H
section
variable {X:Cx}
theorem get_c:PGet X cGetL:=fun pins s σ H o i ov iv Q I ro ri h=>by
 obtain ⟨p,rfl,h1⟩:=aU h
 obtain ⟨k,rfl,h2⟩:=dD h1
 obtain ⟨xs,e,h3⟩:=eD h2
 obtain ⟨v,ea,q⟩:=cO h3
 cases ro
 obtain ⟨t,rfl⟩:=ri
 obtain ⟨its,r,pl,hz⟩:=I.list (eA.of e)
 obtain ⟨j,g1,g2,g3,g4,g5⟩:=qA ea
 obtain ⟨w,ew,rw'⟩:=r.get g2
 have hl:=r.length
 have hn:=line63
 have fin:EP X pins σ Q w s:=⟨v,H,I,rw',q⟩
 by_cases h0:0≤k
 ·have hj:k.toNat=j:=by
   rw [seqIndex_of h0 g5] at g1
   exact Option.some.inj g1
  exact wpAny_getItem_list pl.isList h0 (by omega) (by rw [hj];simpa using ew) fin
 ·have hj:(k+(its.toArray.size:Int)).toNat=j:=by
   rw [seqIndex_neg (by omega) g4] at g1
   rw [List.size_toArray,← hl]
   exact Option.some.inj g1
  exact wpAny_getItem_list_neg pl.isList (by omega) (by rw [List.size_toArray];omega) (by omega) (by rw [hj];simpa using ew) fin
theorem aaO:PIp X .Add cIpA:=fun pins s σ H x y v u Q I r1 r2 h=>by
 obtain ⟨i,rfl,h1⟩:=dD h
 obtain ⟨j,rfl,q⟩:=dD h1
 exact ip_add pins s σ H _ _ v u Q I r1 r2 ⟨i,j,rfl,rfl,q⟩
end
structure ModD (P:Params) (K:PySem.W.Frag) (d:Addr):Prop where
 ex:∃ es n,K.lookup d=some {cls:=.type "dict",data:=.dict es n}∧PySem.W.KeysLit P es.toList
noncomputable def tDeed (tab:List (Str×Sp)) (tk:TE) (t:TA):TE:=fun σ H Q=>tk σ H fun y H1=>wO y fun x=>gN (tab.lookup x) fun sp=>t σ H1 fun vs H2=>sp vs H2 Q E0
theorem pe_deed {X:Cx} {x:Str} {p pos pos':Pos} {d:Addr} {ke e:Expr} {es:List Expr} {tk:TE} {t:TA} {k:Nat} {tab:List (Str×Sp)} (hg:Gl X x) (hm:X.mg x=some (.ref d)) (M:ModD X.w.params X.K d) (hk:PE X ke tk) (hs:NoSl ke)
    (F:∀ y sp,tab.lookup y=some sp→∃ f fd ps,PySem.W.nsIn X.K d y=some (some (.ref f))∧bG X.prog X.w X.K X.mg X.base CX0 k f fd ps sp∧PySem.W.keepIn X.K (.ref f)=true∧Binds X.K fd ps [])
    (hr:Room k X.A) (ha:PA X (e::es) t) (hd:(x == ("__debug__":Str))=false:=by decide) (he:starEach (e::es) X.env=(false,eval e X.env)::starEach es X.env:=by rfl) (hpl:(backTo pos (starEach es X.env)).any (·.1)=false:=by rfl)
    (hc:eval (.Call (.Subscript (.Name x p) ke pos') (e::es) [] pos) X.env=(do
      let f ← eval (.Subscript (.Name x p) ke pos') X.env
      callWith pos f [] (backTo pos (starEach (e::es) X.env)) (backToKw pos (keywordEach [] X.env))):=by rfl) :
    PE X (.Call (.Subscript (.Name x p) ke pos') (e::es) [] pos) (tDeed tab tk t):=fun pins s σ H Q I h=>by
  obtain ⟨es',n',lk,kl⟩:=M.ex
  refine PyProof.Rows.Call_ (aa0 (T:="dict") PySem.F.slot_dict_getitem.lookup hs (thn (nJ (v:=.ref d) hg hm rfl hd pins s σ H (fun v H'=>v=.ref d∧tk σ H' _) I ⟨rfl,h⟩) fun o s1 ⟨v,H1,I1,r1,ev,q1⟩=>?_)) hc
  subst ev
  obtain rfl:o=Value.ref d:=r1
  refine thn (hk pins s1 σ H1 _ I1 q1) fun i s2 ⟨y,H2,I2,ry,q2⟩=>?_
  obtain ⟨z,rfl,q3⟩:=onStr_is q2
  obtain ⟨sp,el,q4⟩:=cO q3
  obtain ⟨f,fd,ps,hns,hf,hkp,hb⟩:=F z sp el
  obtain ⟨t',rfl⟩:=ry
  obtain ⟨m,fr⟩:=I2.fr
  refine ⟨⟨_,I2.kIn _ _ lk,rfl⟩,PySem.W.topGetDict_K fr I2.mod.kin lk kl hns ?_⟩
  refine PySem.W.callWith_K (h₀:=X.base) I2.mod.kin hkp (thn (ha pos pins _ σ H2 _ (I2.tok _) q4) fun us s3 ⟨vs,H3,I3,r3,q5⟩=>⟨I3.kIn,?_⟩) he hpl
  exact vO (E:=E0) hf hr hb .nil pass0 I3 r3 (by simpa using q5)
section
variable {tab:List (Str×Sp)} {tk to ti te:TE} {t:TA} {σ:St} {H:Hp} {Q:VK} {D:Ends} {p:Addr} {i j:Int} {tget:V→V→Hp→VK→Prop} {tip:TIp} {tset:TSet}
theorem e_deed:tDeed tab tk t σ H Q=tk σ H fun y H1=>wO y fun x=>gN (tab.lookup x) fun sp=>t σ H1 fun vs H2=>sp vs H2 Q E0:=rfl
theorem e_getL:cGetL (.ref p) (.int i) H Q=dQ (H p) fun xs=>gN (j6 xs i) fun v=>Q v H:=rfl
theorem e_ipA:cIpA (.int i) (.int j) H Q=Q (.int (i+j)) H:=rfl
theorem e_augS:tAugS to ti te tget tip tset D σ H=to σ H fun o H1=>ti σ H1 fun i H2=>tget o i H2 fun x H3=>te σ H3 fun y H4=>tip x y H4 fun z H5=>tset o i z H5 fun H6=>D.nx σ H6:=rfl
theorem e_aug {i:Nat} {ti:TIp}:tAug i te ti D σ H = ∃ x,σ[i]?=some (some x)∧te σ H fun y H1=>ti x y H1 fun z H2=>D.nx (σ.set i (some z)) H2:=rfl
end
end L2
namespace L2
open PySem PySem.Spec PyProof.Rows
noncomputable def intKeys:List (Key×V)→Option (List Int)
 | []=>some []
 | (.inl i,_)::r=>(intKeys r).map (i::·)
 | _=>none
theorem rT:∀ {kvs:List (Key×V)} {ns:List Int},intKeys kvs=some ns→kvs.length=ns.length∧∀(j:Nat) (k:Key) (x:V),kvs[j]?=some (k,x)→∃ i:Int,k=.inl i∧ns[j]?=some i
 | [],ns,h=>by cases h;exact ⟨rfl,fun j k x e=>by simp at e⟩
 | (k,v)::kvs,ns,h=>by
  cases k with
  | inl i =>
   simp only [intKeys,Option.map_eq_some_iff] at h
   obtain ⟨ms,e,rfl⟩:=h
   obtain ⟨l,f⟩:=rT e
   refine ⟨by simp [l],fun j k x ej=>?_⟩
   cases j with
   | zero=>simp only [List.getElem?_cons_zero,Option.some.injEq,Prod.mk.injEq] at ej;exact ⟨i,ej.1.symm,rfl⟩
   | succ j=>exact f j k x (by simpa using ej)
  | _=>cases h
theorem aaT {ns:List Int}:∀ {vs:List Value},vs.length=ns.length→(∀(j:Nat) (v:Value),vs[j]?=some v→∃ i t,ns[j]?=some i∧v=Value.int i t)→IntsAre vs ns:=by
 induction ns with
 | nil =>
  intro vs hl _
  cases vs with
  | nil=>exact .nil
  | cons _ _=>simp at hl
 | cons n ns ih =>
  intro vs hl h
  cases vs with
  | nil=>simp at hl
  | cons v vs =>
   obtain ⟨i,t,e,rfl⟩:=h 0 v rfl
   cases e
   exact .cons _ _ (ih (by simpa using hl) fun j v e=>h (j+1) v (by simpa using e))
theorem cZ.there {P:Program} {w:World} {H:Hp} {h:Heap} {a:Addr} {o:HO} (x:cZ P w H h a o):∃ ob,h.get? a=some ob:=by
 cases o with
 | lst xs=>obtain ⟨_,_,_,_,e⟩:=x;exact ⟨_,e⟩
 | tup xs=>obtain ⟨_,_,_,o,e,_⟩:=x;exact ⟨_,e⟩
 | dK kvs=>obtain ⟨_,_,_,_,o,_,_,e,_⟩:=x;exact ⟨_,e⟩
 | dT kvs=>obtain ⟨_,_,_,_,o,_,_,e,_⟩:=x;exact ⟨_,e⟩
 | set S n=>obtain ⟨o,_,_,_,e,_⟩:=x;exact ⟨_,e⟩
 | ins C dx fs=>obtain ⟨_,_,_,e,_⟩:=x;exact ⟨_,e⟩
 | own y=>obtain ⟨_,e⟩:=x;exact ⟨_,e⟩
 | xd fs=>obtain ⟨_,⟨_,_,_,e,_⟩,_⟩:=x;exact ⟨_,e⟩
 | rng lo hi=>obtain ⟨_,_,_,e⟩:=x;exact ⟨_,e⟩
 | frz ob u=>obtain ⟨e,_⟩:=x;exact ⟨_,e⟩
 | tbl ps=>exact ⟨_,(show h.get? a=some _ from x)⟩
 | met f y=>exact ⟨_,(show h.get? a=some _ from x)⟩
 | ext φ=>obtain ⟨_,⟨_,e⟩,_⟩:=x;exact ⟨_,e⟩
section
variable {H:Hp} {Q:VK} {p:Addr}
end
end L2
namespace L2
open PySem PySem.Spec PyProof.Rows
section
variable {X:Cx} {pins:List (Addr×Obj)} {σ:St} {H:Hp} {s:Shared} {h':Heap}
end
noncomputable def SOk (t:Bool) (h:Heap) (a:Addr) (us:Array Value):Prop:=match t with
 | true=>h.IsTuple a us
 | false=>h.IsList a us
section
variable {prog:Program} {w:World} {A:Around} {E:Value→Shared→Prop} {s:Shared}
end
end L2
namespace L2
open PySem PySem.Spec PyProof.Rows
section
variable {prog:Program} {w:World} {A:Around} {E:Value→Shared→Prop} {s:Shared}
end
section
variable {X:Cx} {pins:List (Addr×Obj)} {σ:St} {H:Hp} {s:Shared} {a:Addr} {xs ys:List V} {t:Bool}
end
section
variable {X:Cx} {elts:List Expr} {k:Nat} {tp:Pos}
end
section
variable {σ:St} {H:Hp} {D:Ends} {g:TG} {tb:TS} {as:TA} {K:PySem.W.Frag}
end
end L2
namespace L2
open PySem PySem.Spec PyProof.Rows
section
variable {X:Cx} {pins:List (Addr×Obj)} {σ:St} {H:Hp} {s:Shared} {sc:Scope} {cl:List (Str×Addr)} {C:Addr} {x y0:Str} {fr:List Nat} {N:List Str} {fp:List Addr}
end
@[irreducible] def tComp2 (K:PySem.W.Frag) (wi:TI) (fr:List Nat) (tc:TT) (te:TE):TE:=fun σ H Q=>wi σ H fun J H1=>∃ W:Nat→Nat→List V→Hp→Prop,(∃ m,W 0 m [] H1)∧∀ i m xs H,W i m xs H→xs.length≤1000000 ∧
  ((J.stop i H∧∀ p,H p=none→Q (.ref p) (upd H p (.lst xs))) ∨
   (J.go i H∧∀ v H',J.yld i H v H'→∃ p y y2,v=.ref p∧gO K H' p [y,y2]∧tc (some y::some y2::bM fr σ) H' fun b H2=>if b=true then te (some y::some y2::bM fr σ) H2 (fun z H3=>∃ m',m' < m∧W (i+1) m' (xs++[z]) H3) else ∃ m',m' < m∧W (i+1) m' xs H2))
section
variable {X:Cx} {sc:Scope} {cl:List (Str×Addr)} {x y0:Str} {fr:List Nat} {N:List Str} {elt iter:Expr} {px py tp pos:Pos} {tk:Nat} {ifs:List Expr} {wi:TI} {tc:TT} {te:TE}
end
section
variable {fr:List Nat} {tc:TT} {te:TE} {σ:St} {H:Hp} {Q:VK} {as:TA} {K:PySem.W.Frag}
end
end L2
namespace L2
open PySem PySem.Spec PyProof.Rows
noncomputable def kLst:Option HO→Option Bool
 | some (.lst _)=>some true
 | some (.tup _)=>some false
 | _=>none
noncomputable def cIsiL:List V→Hp→VK→Prop:=fun vs H Q=>on2 vs fun x y=>bC x fun p=>y=.ty "list"∧gN (kLst (H p)) fun b=>Q (.bl b) H
section
variable {X:Cx}
theorem t7:dX X (.builtin "isinstance") cIsiL:=fun pins s σ H xs us Q I r h=>by
 obtain ⟨x,y,rfl,h1⟩:=on2_is h
 obtain ⟨p,rfl,rfl,h2⟩:=aU h1
 obtain ⟨b,ek,q⟩:=cO h2
 obtain ⟨u,w',rfl,r1,r2⟩:=vals2 r
 cases r1
 cases r2
 unfold kLst at ek
 split at ek
 ·next e =>
  cases ek
  obtain ⟨o,eo,c⟩:=Inv.listObj I (eA.of e)
  exact IsiPair.list_list eo c ⟨.bl true,H,I,rfl,q⟩
 ·next e =>
  cases ek
  obtain ⟨o,eo,c⟩:=Inv.tupObj I (gO.of e)
  exact IsiPair.tuple_list eo c ⟨.bl false,H,I.tok _,rfl,q⟩
 ·cases ek
variable {o:Expr} {to:TE} {apos cpos:Pos}
end
section
variable {H:Hp} {Q:VK} {p:Addr} {σ:St} {to:TE} {vs:List V}
theorem e_isiL:cIsiL [.ref p,.ty "list"] H Q=gN (kLst (H p)) fun b=>Q (.bl b) H:=by
 unfold cIsiL on2
 simp only [bC,true_and]
theorem e_kll:kLst (some (.lst vs))=some true:=rfl
theorem e_klt:kLst (some (.tup vs))=some false:=rfl
end
end L2
namespace L2
open PySem PySem.Spec PyProof.Rows
section
variable {X:Cx}
end
section
variable {K:PySem.W.Frag} {H:Hp} {Q:VK} {p a b:Addr}
end
section
variable {X:Cx} {sc:Scope} {cl:List (Str×Addr)} {x y0:Str} {fr:List Nat} {N:List Str} {elt iter:Expr} {px px0 tp pos:Pos} {tk:Nat} {ifs:List Expr} {wi:TI} {tc:TT} {te:TE}
end
end L2
namespace L2
open PySem PySem.Spec PyProof.Rows
section
variable {a b:TS} {D:Ends} {σ:St} {H:Hp}
theorem aG (h:∀ R:St→Hp→Prop,(∀ σ' H',b D σ' H'→R σ' H')→a {D with nx:=R} σ H):tSeq a b D σ H:=h (b D) fun _ _ x=>x
end
end L2
namespace L2
open PySem PySem.Spec PyProof.Rows
section
variable {td ty tv:TE} {trs:List (TE×TE)} {tk:TE} {σ:St} {H:Hp} {Q:VK} {D:Ends}
end
end L2
namespace L2
open PySem PySem.Spec PyProof.Rows
section
variable {P:Program} {W:World} {A:Around} {E:Value→Shared→Prop} {s:Shared} {dd it:Addr} {es:Array DictEntry} {ep i:Nat}
end
section
open PySem.W
variable {n:Nat} {p:Array Nat}
end
section
open PySem.W
variable {P:Program} {W:World} {A:Around} {E:Value→Shared→Prop} {s:Shared}
end
end L2
namespace L2
open PySem PySem.Spec PyProof.Rows
section
variable {P:Program} {W:World} {A:Around} {E:Value→Shared→Prop} {s:Shared} {a b:Addr} {es fs:Array DictEntry} {ep fp:Nat}
end
section
variable {X:Cx} {tg:Expr}
end
section
variable {σ:St} {H:Hp} {D:Ends} {g:TG} {tb:TS} {as:TA} {Q:VK} {a b:Addr} {p:Addr}
end
end L2
namespace L2
open PySem PySem.Spec PyProof.Rows
section
variable {H:Hp} {Q:VK} {x:V} {p:Addr} {i:Int} {z:Str}
end
end L2
namespace L2
open PySem PySem.Spec PyProof.Rows
section
variable {X:Cx} {a b:Expr} {rest:List Expr} {pos:Pos} {ta tb:TE}
end
noncomputable def onI0 (x:V) (k:Int→Prop) (_u:Tg k:=()):Prop:=match x with
 | .non=>k 0
 | .int i=>k i
 | _=>False
section
variable {X:Cx}
end
theorem nof_tmul:fillsNumberSlot (.type "tuple") "mul"=pure false:=PySem.fillsNumberSlot_seq (r:=some (.builtin "tuple.__rmul__")) PySem.F.slot_tuple_mul.lookup (by decide +kernel) PySem.F.slot_tuple_rmul.lookup (by decide +kernel)
theorem rep_tup:seqRepeat? (.type "tuple")=pure (some (.builtin "tuple.__mul__")):=by
 have h1:=PySem.seqSlot_of (T:="tuple") (name:="__mul__") PySem.F.slot_tuple_mul.lookup (by decide +kernel)
 have h2:=PySem.seqSlot_of (T:="tuple") (name:="__rmul__") PySem.F.slot_tuple_rmul.lookup (by decide +kernel)
 unfold seqRepeat?
 rw [h1,h2]
 rfl
theorem rmul_tup (a:Int) (t:Tok) (l:Addr) (dd:Option Addr) (its:Array Value) (n:Nat) (sl:Array (Option Value)):Meets (Builtin.«int.__rmul__» ⟨[.int a t,.ref l],[]⟩) (fun _ R s=>s.heap.get? l=some ⟨.type "tuple",dd,.seq its n,sl⟩∧R (.ok (.ret Value.notImplemented)) s) :=
 .of_wp fun prog w A R s h=>by
  obtain ⟨hp,g,d,tk,os⟩:=s
  obtain ⟨hl,h⟩:=h
  wp_walk
  exact ⟨_,rfl,h⟩
theorem mul_tup1 (l:Addr) (dd:Option Addr) (its:Array Value) (n:Nat) (sl:Array (Option Value)) (t:Tok):Meets (Builtin.«tuple.__mul__» ⟨[.ref l,.int 1 t],[]⟩) (fun _ R s=>s.heap.get? l=some ⟨.type "tuple",dd,.seq its n,sl⟩∧R (.ok (.ret (.ref l))) s) :=
 .of_wp fun prog w A R s h=>by
  obtain ⟨hp,g,d,tk,os⟩:=s
  obtain ⟨hl,h⟩:=h
  have f1:=AutoSeq1.idx_int
  wp_walk using wpAny_loadPart' hl
  exact ⟨_,rfl,h⟩
theorem mul_tup0 (l:Addr) (dd:Option Addr) (its:Array Value) (n:Nat) (sl:Array (Option Value)) (t:Tok) (hc:¬ its.isEmpty=true):Meets (Builtin.«tuple.__mul__» ⟨[.ref l,.int 0 t],[]⟩) (fun _ R s=>s.heap.get? l=some ⟨.type "tuple",dd,.seq its n,sl⟩∧R (.ok (.ret (.ref s.heap.objs.size))) {s with heap:=s.heap.push {cls:=.type "tuple",data:=.seq #[]}}) :=
 .of_wp fun prog w A R s h=>by
  obtain ⟨hp,g,d,tk,os⟩:=s
  obtain ⟨hl,h⟩:=h
  have f1:=AutoSeq1.idx_int
  wp_walk using wpAny_loadPart' hl
  exact ⟨_,rfl,h⟩
noncomputable def cTrep:R2:=fun x y H Q=>bC x fun a=>e9 y fun k=>nR (H a) fun xs=>xs≠[]∧((k=1∧Q x H)∨(k=0∧∀ p,H p=none→Q (.ref p) (upd H p (.tup []))))
section
variable {X:Cx}
theorem op_trep:jM X (binaryOp .Mult) cTrep:=fun pins s σ H x y v u Q I rx ry h=>by
 obtain ⟨a,rfl,h1⟩:=aU h
 obtain ⟨k,rfl,h2⟩:=dD h1
 obtain ⟨xs,e1,hx,h3⟩:=sF h2
 cases rx
 obtain ⟨t,rfl⟩:=ry
 obtain ⟨its,r1,p1,z1⟩:=I.tuple (.inl (.inl e1))
 have l1:its≠[]:=fun z=>hx (r1.nil_iff.mp z)
 obtain ⟨⟨c1,d1,t1,o1⟩,ho,rfl,n,rfl⟩:=p1
 refine wpAny_binaryOp_repeat_ref (T:="tuple") (U:="int") (by decide) ⟨_,ho,rfl⟩ (fun s'=>typeIs_int s' k t) nof_tmul PySem.F.fills_int_mul PySem.F.slot_int_rmul rep_tup PySem.F.slot_int_index.lookup
  (call_meets PySem.F.slot_int_rmul (typeIs_int s k t) PySem.F.entry_int_rmul (PySem.F.args_int_rmul_2 _ _) (rmul_tup k t a d1 its.toArray n o1) ⟨ho,rfl,⟨_,ho,rfl⟩,?_⟩)
 rcases h3 with ⟨rfl,q⟩ | ⟨rfl,q⟩
 ·exact call_meets PySem.F.slot_tuple_mul ⟨_,ho,rfl⟩ PySem.F.entry_tuple_mul (PySem.F.args_tuple_mul_2 _ _) (mul_tup1 a d1 its.toArray n o1 t) ⟨ho,.ref a,H,I,rfl,q⟩
 ·refine call_meets PySem.F.slot_tuple_mul ⟨_,ho,rfl⟩ PySem.F.entry_tuple_mul (PySem.F.args_tuple_mul_2 _ _) (mul_tup0 a d1 its.toArray n o1 t (by simpa using l1)) ⟨ho,?_⟩
  have I2:Inv X pins σ (upd H s.heap.objs.size (.tup [])) {s with heap:=s.heap.push {cls:=.type "tuple",data:=.seq #[]}} :=
   I.laid (t':=s.toks) (fun b o e=>Heap.get?_push_of_some _ e) (Nat.le_refl _) (show cZ X.prog X.w _ _ _ (.tup []) from ⟨Nat.zero_le _,[],.nil,IsTup.new _ _⟩)
  exact ⟨.ref s.heap.objs.size,_,I2,rfl,q _ (I.hok.fresh (Nat.le_refl _))⟩
end
section
variable {σ:St} {H:Hp} {Q:VK} {ta tb:TE} {l a:Addr} {i:Int}
theorem e_trep:cTrep (.ref a) (.int i) H Q=nR (H a) fun xs=>xs≠[]∧((i=1∧Q (.ref a) H)∨(i=0∧∀ p,H p=none→Q (.ref p) (upd H p (.tup [])))):=rfl
end
end L2
namespace L2
open PySem PySem.Spec PyProof.Rows
noncomputable def Rising (l:List Nat):Prop:=l.Pairwise (· < ·)
theorem sX (xs:Array Nat) (j:Nat) (hr:Rising xs.toList):∀(fuel lo hi:Nat),hi - lo≤fuel→lo≤hi→hi≤xs.size →
    (∀ i (h:i < xs.size),i < lo→xs[i] < j)→(∀ i (h:i < xs.size),hi≤i→j≤xs[i]) →
    (∀ i (h:i < xs.size),i < SetTable.below.go xs j fuel lo hi→xs[i] < j)∧(∀ i (h:i < xs.size),SetTable.below.go xs j fuel lo hi≤i→j≤xs[i])∧SetTable.below.go xs j fuel lo hi≤xs.size
  | 0,lo,hi,hf,hl,hh,h1,h2=>by
    have:lo=hi:=by omega
    subst this
    exact ⟨h1,h2,hh⟩
  | fuel+1,lo,hi,hf,hl,hh,h1,h2=>by
    have mono:∀ i k (hi:i < xs.size) (hk:k < xs.size),i < k→xs[i] < xs[k]:=fun i k hi hk hik=>by
      have:=List.pairwise_iff_getElem.mp hr i k (by simpa using hi) (by simpa using hk) hik
      simpa using this
    unfold SetTable.below.go
    by_cases c:lo < hi
    · rw [if_pos c]
      have hm:(lo+hi) / 2 < xs.size:=by omega
      have em:xs.getD ((lo+hi) / 2) j=xs[(lo+hi) / 2]:=by simp [Array.getD,hm]
      simp only [em]
      by_cases d:xs[(lo+hi) / 2] < j
      · rw [if_pos d]
        refine sX xs j hr fuel _ hi (by omega) (by omega) hh (fun i h hlt=>?_) h2
        by_cases e:i=(lo+hi) / 2
        · subst e;exact d
        · exact Nat.lt_trans (mono i _ h hm (by omega)) d
      · rw [if_neg d]
        refine sX xs j hr fuel lo _ (by omega) (by omega) (by omega) h1 (fun i h hle=>?_)
        by_cases e:i=(lo+hi) / 2
        · subst e;omega
        · have:=mono _ i hm h (by omega)
          omega
    · rw [if_neg c]
      have:lo=hi:=by omega
      subst this
      exact ⟨h1,h2,hh⟩
theorem nA (xs:Array Nat) (j:Nat) (hr:Rising xs.toList):(∀ i (h:i < xs.size),i < SetTable.below xs j→xs[i] < j)∧(∀ i (h:i < xs.size),SetTable.below xs j≤i→j≤xs[i])∧SetTable.below xs j≤xs.size :=
 sX xs j hr xs.size 0 xs.size (by omega) (by omega) (Nat.le_refl _) (fun i h hlt=>absurd hlt (by omega)) (fun i h hle=>absurd h (by omega))
theorem tL {xs:Array Nat} {j:Nat} (hr:Rising xs.toList) (hn:¬ xs[SetTable.below xs j]?=some j):Rising (SetTable.insertAt xs (SetTable.below xs j) j).toList:=by
 obtain ⟨h1,h2,h3⟩:=nA xs j hr
 rw [SetTable.toList_insertAt]
 generalize hb:SetTable.below xs j=b at *
 unfold Rising at *
 have split:=List.pairwise_append.mp (show (xs.toList.take b++xs.toList.drop b).Pairwise (· < ·) by rw [List.take_append_drop];exact hr)
 have lt:∀ x∈xs.toList.take b,x < j:=fun x hx=>by
  obtain ⟨i,hi,rfl⟩:=List.mem_iff_getElem.mp hx
  have hi':i < b∧i < xs.size:=by simpa [Nat.lt_min] using hi
  have:=h1 i hi'.2 hi'.1
  simpa using this
 have gt:∀ x∈xs.toList.drop b,j < x:=fun x hx=>by
  obtain ⟨i,hi,rfl⟩:=List.mem_iff_getElem.mp hx
  have hi':b+i < xs.size:=by simp at hi;omega
  have hle:=h2 (b+i) hi' (by omega)
  have hne:xs[b+i]≠j:=fun e=>by
   by_cases hz:i=0
   ·subst hz
    exact hn (by rw [Array.getElem?_eq_getElem (by simpa using hi')];simpa using e)
   ·have hb':b < xs.size:=by omega
    have h0:=h2 b hb' (Nat.le_refl _)
    have:=List.pairwise_iff_getElem.mp hr b (b+i) (by simpa using hb') (by simpa using hi') (by omega)
    simp at this
    omega
  have:xs.toList.drop b=xs.toList.drop b:=rfl
  simp only [List.getElem_drop,Array.getElem_toList]
  omega
 refine List.pairwise_append.mpr ⟨split.1,List.pairwise_cons.mpr ⟨gt,split.2.1⟩,fun x hx y hy=>?_⟩
 rcases List.mem_cons.mp hy with rfl | hy
 ·exact lt x hx
 ·exact split.2.2 x hx y hy
theorem sE {α:Type}:∀ {l:List α} {i:Nat} (h:i < l.length),(l[i]::l.eraseIdx i).Perm l
 | a::l,0,_=>by simp
 | a::l,i+1,h=>by
  have:=sE (l:=l) (i:=i) (by simpa using h)
  simp only [List.getElem_cons_succ,List.eraseIdx_cons_succ]
  exact (List.Perm.swap _ _ _).trans (this.cons a)
theorem aaK {α:Type} (next:Nat→Nat):∀(fuel k:Nat) (left:List α) (out:Array α),fuel=left.length→∃ out':Array α,pickOrder.go next fuel k left out=out'∧out'.toList.Perm (out.toList++left)
 | 0,k,left,out,h=>by
  have:left=[]:=List.length_eq_zero_iff.mp h.symm
  subst this
  exact ⟨out,by simp [pickOrder.go],by simp⟩
 | fuel+1,k,left,out,h=>by
  have hp:0 < left.length:=by omega
  have hi:next k % left.length < left.length:=Nat.mod_lt _ hp
  obtain ⟨o,e,p⟩:=aaK next fuel (k+1) (left.eraseIdx (next k % left.length)) (out.push left[next k % left.length]) (by rw [List.length_eraseIdx_of_lt hi];omega)
  refine ⟨o,?_,p.trans ?_⟩
  ·rw [pickOrder.go,List.getElem?_eq_getElem hi]
   exact e
  ·rw [Array.toList_push,List.append_assoc]
   refine List.Perm.append_left _ ?_
   exact sE hi
theorem abN {α:Type} (next:Nat→Nat) (xs:Array α):(pickOrder next xs).toList.Perm xs.toList:=by
 obtain ⟨o,e,p⟩:=aaK next xs.size 0 xs.toList #[] (by simp)
 unfold pickOrder
 rw [e]
 simpa using p
structure mQ (w:World) (t:SetTable):Prop where
 rise:Rising t.place.toList
 led:w.params.followText "set-order"=true∨t.led=true
 dum:t.dummies = #[]
 msk:t.mask=7
 pln:t.plain=true
theorem xE (j:Nat):SetTable.has #[] j=false:=by simp [SetTable.has]
theorem zF {t:SetTable} {j:Nat} (h:t.slot j=.empty):¬ t.place[SetTable.below t.place j]?=some j:=fun e=>by
 unfold SetTable.slot at h
 simp only [e,beq_self_eq_true,if_true] at h
 cases h
theorem qN {t:SetTable} (hd:t.dummies = #[]) (j:Nat):t.slot j=.empty∨(∃ i,t.slot j=.live i∧j∈t.place.toList):=by
 unfold SetTable.slot
 rw [hd,xE]
 by_cases h:t.place[SetTable.below t.place j]?=some j
 ·refine .inr ⟨SetTable.below t.place j,by simp only [h,beq_self_eq_true,if_true],?_⟩
  rw [← Array.getElem?_toList] at h
  exact List.mem_of_getElem? h
 ·refine .inl ?_
  have:(t.place[SetTable.below t.place j]? == some j)=false:=by simpa using h
  simp [this]
theorem free4 {l:List Nat} (h:l.length≤3):∃ j,j < 8∧j∉l:=by
 match l,h with
 | [],_=>exact ⟨0,by decide,by simp⟩
 | [a],_=>by_cases h0:a=0;exact ⟨1,by decide,by simp;omega⟩;exact ⟨0,by decide,by simp;omega⟩
 | [a,b],_ =>
  by_cases h0:a=0∨b=0
  ·by_cases h1:a=1∨b=1
   ·exact ⟨2,by decide,by simp;omega⟩
   ·exact ⟨1,by decide,by simp;omega⟩
  ·exact ⟨0,by decide,by simp;omega⟩
 | [a,b,c],_ =>
  by_cases h0:a=0∨b=0∨c=0
  ·by_cases h1:a=1∨b=1∨c=1
   ·by_cases h2:a=2∨b=2∨c=2
    ·exact ⟨3,by decide,by simp;omega⟩
    ·exact ⟨2,by decide,by simp;omega⟩
   ·exact ⟨1,by decide,by simp;omega⟩
  ·exact ⟨0,by decide,by simp;omega⟩
noncomputable def hop (i:Nat):Nat:=(i * 5+1) % 8
noncomputable def hops:Nat→Nat→Nat
 | 0,i=>i
 | m+1,i=>hops m (hop i)
theorem hops_all:∀ i,i < 8→∀ j,j < 8→∃ m,m < 8∧hops m i=j:=by decide
section
variable {t:SetTable} (hd:t.dummies = #[]) (hm:t.mask=7) {h:Int}
noncomputable abbrev prb (i pt:Nat):SetTable.Probe:=⟨i,0,i,pt,none⟩
include hd hm
theorem adv (i pt:Nat):t.advance (prb i pt)=prb ((i * 5+1+pt / 32) % 8) (pt / 32):=by
 have:(i * 5+1+pt / 32) % 8 < 8:=Nat.mod_lt _ (by decide)
 simp only [SetTable.advance,SetTable.leap,hm,SetTable.runEnd]
 simp
 try omega
theorem aaE (fuel i pt:Nat):(t.slot i=.empty∧SetTable.probe.go t (fun _=>h+1) h (fuel+1) (prb i pt)=some (.empty i none))∨SetTable.probe.go t (fun _=>h+1) h (fuel+1) (prb i pt)=SetTable.probe.go t (fun _=>h+1) h fuel (prb ((i * 5+1+pt / 32) % 8) (pt / 32)):=by
 rcases qN hd i with e | ⟨k,e,_⟩
 ·refine .inl ⟨e,?_⟩
  unfold SetTable.probe.go
  simp only [e]
 ·refine .inr ?_
  conv=>lhs;unfold SetTable.probe.go
  simp only [e]
  rw [if_neg (by simp;try omega),adv hd hm]
theorem aa1:∀(m fuel i:Nat),m < fuel→i < 8→t.slot (hops m i)=.empty→∃ j,t.slot j=.empty∧SetTable.probe.go t (fun _=>h+1) h fuel (prb i 0)=some (.empty j none)
 | 0,fuel+1,i,_,hi,he=>by
  refine ⟨i,he,?_⟩
  have e:t.slot i=.empty:=he
  unfold SetTable.probe.go
  simp only [e]
 | m+1,fuel+1,i,hf,hi,he=>by
  rcases aaE hd hm (h:=h) fuel i 0 with ⟨e,g⟩ | g
  ·exact ⟨i,e,g⟩
  ·rw [g]
   exact aa1 m fuel _ (by omega) (Nat.mod_lt _ (by decide)) he
theorem go_any (hp:t.place.size≤3):∀(d fuel i pt:Nat),pt < 32 ^ d→d+8≤fuel→i < 8→∃ j,t.slot j=.empty∧SetTable.probe.go t (fun _=>h+1) h fuel (prb i pt)=some (.empty j none)
 | 0,fuel,i,pt,h1,h2,hi=>by
  have:pt=0:=by simpa using h1
  subst this
  obtain ⟨j,hj,hn⟩:=free4 (l:=t.place.toList) (by simpa using hp)
  obtain ⟨m,hm',e⟩:=hops_all i hi j hj
  refine aa1 hd hm m fuel i (by omega) hi ?_
  rw [e]
  rcases qN hd j with z | ⟨_,_,z⟩
  ·exact z
  ·exact absurd z hn
 | d+1,0,i,pt,h1,h2,hi=>absurd h2 (by omega)
 | d+1,fuel+1,i,pt,h1,h2,hi=>by
  rcases aaE hd hm (h:=h) fuel i pt with ⟨e,g⟩ | g
  ·exact ⟨i,e,g⟩
  ·rw [g]
   exact go_any hp d fuel _ _ (by rw [Nat.pow_succ] at h1;omega) (by omega) (Nat.mod_lt _ (by decide))
theorem free_some (hp:t.place.size≤3):∃ j,t.slot j=.empty∧t.freeSlot h=some (j,false):=by
 have hb:SetTable.bits h < 32 ^ 13:=by
  unfold SetTable.bits
  have h1:=Int.emod_lt_of_pos h (show (0:Int) < 2 ^ 64 by decide)
  have h2:=Int.emod_nonneg h (show (2 ^ 64:Int)≠0 by decide)
  have:(32:Nat) ^ 13=36893488147419103232:=by decide
  omega
 have hs:t.probeStart h=prb (SetTable.bits h % 8) (SetTable.bits h):=by
  unfold SetTable.probeStart SetTable.runEnd
  rw [hm]
  have:SetTable.bits h % 8 < 8:=Nat.mod_lt _ (by decide)
  simp
  try omega
 obtain ⟨j,e,g⟩:=go_any hd hm (h:=h) hp 13 (10 * SetTable.turns t.mask) (SetTable.bits h % 8) (SetTable.bits h) hb (by rw [hm];decide) (Nat.mod_lt _ (by decide))
 refine ⟨j,e,?_⟩
 unfold SetTable.freeSlot SetTable.probe
 rw [hs,g]
 rfl
end
theorem lay_tab {w:World} {t:SetTable} (T:mQ w t) (es:Array (Int×Value)) (h:Int) (x:Value) (hp:t.place.size≤3) (hf:t.place.size=es.size):mQ w (layNew t es h x).2.1:=by
 obtain ⟨slot,hs,e⟩:=free_some T.dum T.msk (h:=h) hp
 have Tp:mQ w (t.put slot).1:=by
  refine ⟨tL T.rise (zF hs),T.led,?_,T.msk,T.pln⟩
  show (if SetTable.has t.dummies slot=true then _ else t.dummies) = #[]
  rw [T.dum,xE]
  rfl
 unfold layNew
 rw [e]
 show mQ w ((t.put slot).1.orStandIn _)
 have h1:=(SetTable.insertAt_perm es (t.put slot).2 (h,x)).length_eq
 rw [Array.length_toList,Array.length_toList,Array.size_push] at h1
 have h2:(t.put slot).1.place.size=t.place.size+1:=by
  have:=(SetTable.insertAt_perm t.place (SetTable.below t.place slot) slot).length_eq
  rw [Array.length_toList,Array.length_toList,Array.size_push] at this
  exact this
 have fit:(t.put slot).1.fits (SetTable.insertAt es (t.put slot).2 (h,x)).size=true:=by
  unfold SetTable.fits SetTable.fill
  rw [Tp.dum,h2,h1,Tp.msk,hf]
  simp
  omega
 unfold SetTable.orStandIn
 rw [if_pos fit]
 exact Tp
noncomputable def wG:Value→Int
 | .int i _=>i
 | _=>0
noncomputable def oW (P:Program) (w:World) (a:Addr) (ns:List Int) (h:Heap):Prop:=∃(o:Obj) (es:Array (Int×Value)) (ep:Nat) (t:SetTable),h.get? a=some o∧o.ExactSet∧o.data=.set es ep t∧ElemsOf (intKind P w) es.toList∧es.size < scanBound∧t.fits es.size=true∧mQ w t∧(∀ e∈es.toList,∃ i tk,e.2=Value.int i tk)∧(es.toList.map fun e=>wG e.2).Perm ns
theorem oW.keep {P:Program} {w:World} {a:Addr} {ns:List Int} {h h':Heap} (x:oW P w a ns h) (k:∀ o,h.get? a=some o→h'.get? a=some o):oW P w a ns h':=by
 obtain ⟨o,es,ep,t,e,r⟩:=x
 exact ⟨o,es,ep,t,k o e,r⟩
section
variable {P:Program} {w:World} {A:Around} {E:Value→Shared→Prop} {s:Shared}
theorem is_key {P:Program} {w:World} {i:Int} {v:Value}:(intKind P w).is i v=true↔∃ tk,v=.int i tk:=by
 constructor
 ·intro h
  cases v with
  | int j tk=>exact ⟨tk,by have:Value.isInt i (.int j tk)=true:=h;simp [Value.isInt] at this;rw [this]⟩
  | _=>cases h
 ·rintro ⟨tk,rfl⟩
  exact intKind_is _ _ _ _
theorem wF {a:Addr} {o:Obj} {es:Array (Int×Value)} {ep:Nat} {t:SetTable} (ho:s.heap.get? a=some o) (hex:o.ExactSet) (hd:o.data=.set es ep t)
    {es1:Array (Int×Value)} {t2:SetTable} {ns:List Int} (hel:ElemsOf (intKind P w) es1.toList) (hb:es1.size < scanBound) (hf:t2.fits es1.size=true) (T:mQ w t2) (hi:∀ e∈es1.toList,∃ i tk,e.2=Value.int i tk) (hp:(es1.toList.map fun e=>wG e.2).Perm ns) (h4:es1.size≤4)
    {wasDummy:Bool} {X:Sem (Option Bool)} {R:Option Bool→Shared→Prop} (h:∀ h',Heap.SameBut a s.heap h'→oW P w a ns h'→R (some true) {s with heap:=h'}) :
    wpAny (model P w) A (do
        storeSet a es1 t2
        if (!wasDummy && t2.tooFull)=true then X else pure (some true)) R E s:=by
  refine wpAny_bind (wpAny_storeSet_of ho hd ?_ (fits_of_scanBound hb))
  have full:t2.tooFull=false:=by
    have h1:t2.place.size=es1.size:=by
      have:=hf
      unfold SetTable.fits at this
      simp only [Bool.and_eq_true,beq_iff_eq] at this
      exact this.1
    unfold SetTable.tooFull SetTable.fill
    rw [T.dum,h1]
    have:=T.msk
    simp
    omega
  rw [full,Bool.and_false]
  simp only [Bool.false_eq_true,if_false]
  have hg:(s.heap.update a (Obj.putSet es1 t2)).get? a=some {o with data:=.set es1 (ep+1) t2}:=by
    have:=Heap.get?_update_self (Obj.putSet es1 t2) ho (by rw [putSet_of es1 t2 hd];rfl)
    rw [putSet_of es1 t2 hd] at this
    exact this
  exact wpAny_pure (h _ (Heap.SameBut.update s.heap a (Obj.putSet es1 t2)) ⟨_,es1,ep+1,t2,hg,hex,rfl,hel,hb,hf,T,hi,hp⟩)
theorem zI {a:Addr} {ns:List Int} {i:Int} {tk:Tok} {Q:Bool→Shared→Prop} (hS:oW P w a ns s.heap) (hn:ns.length≤3)
    (h:∀ h',Heap.SameBut a s.heap h'→oW P w a (if i∈ns then ns else ns++[i]) h'→∀ b,Q b {s with heap:=h'}):wpAny (model P w) A (setAddHashed a (.int i tk) ((intKind P w).hash i)) Q E s:=by
  obtain ⟨o,es,ep,t,ho,hex,hd,hel,hb,hf,T,hi,hp⟩:=hS
  have hkey:(intKind P w).is i (.int i tk)=true:=intKind_is _ _ _ _
  have hl:es.size=ns.length:=by have:=hp.length_eq;simpa using this
  have b1:scanBound=4096:=rfl
  unfold setAddHashed setAddHashedIn
  refine wpAny_holding (wpAny_bind (wpAny_setState_of ho hd hf ?_))
  dsimp only
  rw [byScan_of (knd:=intKind P w) rfl hb hel]
  simp only [↓reduceIte]
  unfold setAddByScan
  refine wpAny_bind ?_
  refine wpAny_bind (wpAny_rule ?_)
  refine wpAny_bind (wpAny_setScan_of hkey ho hd hf hel ?_)
  cases hr:List.findIdx? (fun e=>(intKind P w).is i e.2) es.toList with
  | some j =>
    dsimp only
    obtain ⟨hj,hpj,_⟩:=List.findIdx?_eq_some_iff_getElem.mp hr
    obtain ⟨tk',et⟩:=is_key.mp hpj
    have hm:i∈ns:=hp.mem_iff.mp (List.mem_map.mpr ⟨es.toList[j],List.getElem_mem hj,by rw [et];rfl⟩)
    rw [if_pos hm] at h
    refine wpAny_pure (wpAny_pure ?_)
    exact h s.heap (Heap.SameBut.refl a s.heap) ⟨o,es,ep,t,ho,hex,hd,hel,hb,hf,T,hi,hp⟩ _
  | none =>
    dsimp only
    have hm:i∉ns:=fun z=>by
      obtain ⟨e,he,ek⟩:=List.mem_map.mp (hp.mem_iff.mpr z)
      obtain ⟨k,tk',ev⟩:=hi e he
      have h1:=List.findIdx?_eq_none_iff.mp hr e he
      rw [ev] at ek h1
      have:k=i:=ek
      subst this
      rw [intKind_is] at h1
      cases h1
    rw [if_neg hm] at h
    have hperm:=layNew_perm t es ((intKind P w).hash i) (.int i tk)
    have hfits:=layNew_fits t es ((intKind P w).hash i) (.int i tk)
    have hsz:t.place.size=es.size:=by
      have:=hf
      unfold SetTable.fits at this
      simp only [Bool.and_eq_true,beq_iff_eq] at this
      exact this.1
    have T1:=lay_tab T es ((intKind P w).hash i) (.int i tk) (by omega) hsz
    generalize layNew t es ((intKind P w).hash i) (.int i tk)=Y at hperm hfits T1 ⊢
    obtain ⟨es1,t1,wasDummy,gave⟩:=Y
    dsimp only at hperm hfits T1 ⊢
    rw [Array.toList_push] at hperm
    have hel1:ElemsOf (intKind P w) es1.toList:=(hel.push hkey rfl).perm hperm
    have sz:es1.size=es.size+1:=by
      have:=hperm.length_eq
      simpa using this
    have hi1:∀ e∈es1.toList,∃ i tk,e.2=Value.int i tk:=fun e he=>by
      rcases List.mem_append.mp (hperm.mem_iff.mp he) with he | he
      · exact hi e he
      · rw [show e=_ by simpa using he];exact ⟨i,tk,rfl⟩
    have hp1:(es1.toList.map fun e=>wG e.2).Perm (ns++[i]):=by
      refine (hperm.map _).trans ?_
      rw [List.map_append]
      exact hp.append (.refl _)
    have hgw:∀(b:Bool) {s₁:Shared} {Q':Unit→Shared→Prop},Q' () s₁→wpAny (model P w) A (match b with | true=>rule "set.scan.the-table-gave-way" | false=>pure ()) Q' E s₁:=fun b s₁ Q' hq=>by
      cases b
      · exact wpAny_pure hq
      · exact wpAny_rule hq
    refine wpAny_bind (hgw _ ?_)
    split
    · refine wpAny_bind ?_
      rw [hashByValue_scannable 8 rfl]
      refine wpAny_pure ?_
      simp only [plainKind,↓reduceIte]
      exact wF ho hex hd hel1 (by omega) hfits T1 hi1 hp1 (by omega) fun h' hs hS'=>wpAny_pure (h h' hs hS' _)
    · refine wpAny_bind (wpAny_pure ?_)
      simp only [↓reduceIte]
      exact wF ho hex hd hel1 (by omega) hfits T1 hi1 hp1 (by omega) fun h' hs hS'=>wpAny_pure (h h' hs hS' _)
end
noncomputable def once (val:Nat→Int):Nat→List Int
 | 0=>[]
 | i+1=>if val i∈once val i then once val i else once val i++[val i]
theorem rV (val:Nat→Int):∀ i,(once val i).length≤i
 | 0=>Nat.le_refl _
 | i+1=>by
  have:=rV val i
  rw [once]
  split
  ·omega
  ·rw [List.length_append];simp;omega
section
variable {P:Program} {w:World} {A:Around} {R:Result→Shared→Prop} {it:Addr} {fp wr:List Addr} {Gs:Array GenState→Array GenState→Prop} {n:Nat} {Pi:Nat→Value→Prop} {St:Nat→Shared→Prop}
theorem yI (W:WalksS P w A.in1 it fp wr Gs n Pi St) (z:Addr) (hz:z∉fp) (val:Nat→Int) (hval:∀ i v,Pi i v→∃ t,v=.int (val i) t) (hn:n≤4) :
    ∀(k i:Nat) (s:Shared),n - i=k→i≤n→St i s→oW P w z (once val i) s.heap →
      (∀ s',Moved (z::wr) Gs s s'→oW P w z (once val n) s'.heap→R (.ok (.ret .none)) s')→codeAny (model P w) A (.builtin "set.update.loop" ⟨[.ref z,.ref it],[]⟩) R s:=by
  have zw:z∉wr:=fun h=>hz (W.sub _ h)
  have up:∀ b∈wr,b∈z::wr:=fun b hb=>List.mem_cons_of_mem _ hb
  intro k
  induction k with
  | zero =>
    intro i s hk hi st hS hR
    obtain rfl:i=n:=by omega
    refine codeAny_builtin PyProof.Rows.F.entry_set_update_loop ?_
    rw [Around.under_plainId PyProof.Rows.F.plain_set_update_loop _]
    show wpAny _ A.in1 (pyNext (.ref it) >>= _) _ _ s
    refine wpAny_bind (W.done s _ _ st fun s' hm=>?_)
    show wpAny _ A.in1 (ret Value.none) _ _ s'
    exact wpAny_pure (hR s' (hm.mono up) (hS.keep fun o e=>hm.heap z _ zw e))
  | succ k ih =>
    intro i s hk hi st hS hR
    have lt:i < n:=by omega
    refine codeAny_builtin PyProof.Rows.F.entry_set_update_loop ?_
    rw [Around.under_plainId PyProof.Rows.F.plain_set_update_loop _]
    show wpAny _ A.in1 (pyNext (.ref it) >>= _) _ _ s
    refine wpAny_bind (W.item i s _ _ lt st fun v s' hP st' hm=>?_)
    obtain ⟨t,rfl⟩:=hval i v hP
    have hS':oW P w z (once val i) s'.heap:=hS.keep fun o e=>hm.heap z _ zw e
    show wpAny _ A.in1 (holding [Value.int (val i) t] (setAdd z (.int (val i) t)) >>= _) _ _ s'
    refine wpAny_bind (wpAny_holding ?_)
    unfold setAdd
    refine wpAny_holding ?_
    refine wpAny_bind ((intKind P w).pyHash (k:=val i) (intKind_is _ _ _ _) ?_)
    have room:(once val i).length≤3:=by have:=rV val i;omega
    refine zI (s:={s' with toks:=s'.toks+1}) hS' room fun h' sb hS2 b=>?_
    refine wpAny_pure ⟨plainId_quiet PyProof.Rows.F.plain_set_update_loop _,ih (i+1) _ (by omega) lt (W.frame _ s' _ _ st' (Nat.le_succ _) fun c hc o e=>?_) hS2 fun s2 hm2 hS3=>?_⟩
    · rw [sb.2 c (fun h:c=z=>hz (by rw [← h];exact hc))]
      exact e
    · refine hR s2 (Moved.trans W.gtrans ((hm.mono up).then_heap (Nat.le_succ _) fun c o hc e=>?_) hm2) hS3
      rw [sb.2 c (fun h:c=z=>hc (by rw [h];exact List.mem_cons_self))]
      exact e
end
section
variable {P:Program} {w:World} {A:Around} {E:Value→Shared→Prop} {s:Shared}
noncomputable abbrev mT (led:Bool):Obj:={cls:=.type "set",dict:=none,data:=.set #[] 0 (.fresh 0 0 led)}
theorem zL (a:Value) {Q₁:Value→Shared→Prop} (h:∀ led:Bool,(w.params.followText "set-order"=true∨led=true)→Q₁ (.ref s.heap.objs.size) {s with heap:=s.heap.push (mT led)}) :
    codeAny (model P w) A (.call (.builtin "set.__new__") ⟨[.type "set",a],[]⟩) (wants Q₁ E) s:=by
  refine codeAny_of_tree ?_
  show wpAny _ A.in1 (do checkBuiltinCall "set.__new__" ⟨[.type "set",a],[]⟩;again (.builtin "set.__new__" ⟨[.type "set",a],[]⟩)) _ _ s
  refine wpAny_bind (wpAny_of_eq (PySem.F.newCall_set_1 a) (wpAny_pure ⟨plainId_quiet PySem.F.plain_set_new _,codeAny_builtin PySem.F.entry_set_new ?_⟩))
  rw [Around.under_plainId PySem.F.plain_set_new _];unfold Builtin.«set.__new__» Builtin.Frozenset.newClass
  have hsub:=sub_set_self
  obtain ⟨hp,g,d,tk,os⟩:=s
  dsimp only;wp_walk
  refine wpAny_askSetting (wpAny_pure ?_)
  dsimp only;simp only [newObj]
  refine wpAny_bind (wpAny_alloc (wpAny_pure ?_))
  refine wpAny_pure (h _ ?_)
  cases e:w.params.followText "set-order" with
  | true=>exact .inl rfl
  | false =>
    refine .inr ?_
    show (!w.params.followText "set-order")=true
    rw [e]
    rfl
theorem abO {led:Bool} (h:w.params.followText "set-order"=true∨led=true):mQ w (.fresh 0 0 led):=⟨.nil,h,rfl,rfl,rfl⟩
set_option maxHeartbeats 8000000 in
theorem xA {l:Addr} {items:Array Value} {ns:List Int} {Q:Value→Shared→Prop} (hh:A.handled=none) (hl:s.heap.IsList l items) (hi:IntsAre items.toList ns) (h4:items.size≤4)
    (h:∀(h':Heap) (tk:Nat),oW P w s.heap.objs.size (once (fun i=>ns.getD i 0) items.size) h'→(∀ b o,b < s.heap.objs.size→s.heap.get? b=some o→h'.get? b=some o)→Q (.ref s.heap.objs.size) {s with heap:=h',toks:=tk}) :
    wpAny (model P w) A (call (.type "set") [.ref l]) Q E s:=by
  obtain ⟨c,tl,hmro⟩:=PySem.F.called_set.mro
  have hmade:=PySem.F.called_set.made
  have hsub:=PySem.F.called_set.sub
  refine wpAny_call (codeAny_of_tree ?_)
  show wpAny _ _ (callAny (.type "set") _) _ _ _
  refine wpAny_pure ⟨Code.quiet_builtin _ (by decide +kernel),codeAny_builtin PySem.F.entry_type_call ?_⟩
  rw [Around.under_plain (weight_type_call_type "set" [.ref l] []) rfl]
  have h1:=PySem.F.called_set.notType
  have h2:=PySem.F.called_set.canCreate
  have hct:=PySem.F.typeCall_set_1 (.ref l)
  repeat (any_goals (first | assumption | wp_step))
  refine codeAny_mono (zL (.ref l) (E:=E) (Q₁:=fun obj s₁=>∃ led:Bool,(w.params.followText "set-order"=true∨led=true)∧obj=.ref s.heap.objs.size∧s₁={s with heap:=s.heap.push (mT led)}) fun led hled=>⟨led,hled,rfl,rfl⟩) fun r s₁ hr=>?_
  cases r with
  | error e=>exact hr
  | ok fl =>
    cases fl with
    | ret obj =>
      obtain ⟨led,hled,rfl,rfl⟩:=hr
      have hS:(s.heap.push (mT led)).get? s.heap.objs.size=some (mT led):=Heap.get?_push_size _ rfl
      have hT:Shared.TypeIs {s with heap:=s.heap.push (mT led)} (.ref s.heap.objs.size) "set":=⟨_,hS,rfl⟩
      have hli:=PySem.F.called_set.init.lookup
      have hbi:=PySem.F.called_set.init.bind (.ref s.heap.objs.size)
      repeat (any_goals (first | assumption | wp_step))
      refine codeAny_mono (codeAny_call_builtin (R:=wants (fun r s₂=>r=.none∧∃ h' tk,s₂={s with heap:=h',toks:=tk}∧oW P w s.heap.objs.size (once (fun i=>ns.getD i 0) items.size) h' ∧
          (∀ b o,b < s.heap.objs.size→s.heap.get? b=some o→h'.get? b=some o)) E) PySem.F.called_set.init.plain PySem.F.entry_set_init (check_set_init_1 hT ?_)) fun r₂ s₂ hr₂=>?_
      · obtain ⟨ol,hol,hcl,nl,hdl⟩:=hl
        obtain ⟨ocls,odict,odata,oslots⟩:=ol
        simp only at hcl hdl
        subst hcl hdl
        have hol':(s.heap.push (mT led)).get? l=some ⟨.type "list",odict,.seq items nl,oslots⟩:=Heap.get?_push_of_some _ hol
        have hsls:=PySem.F.sub_list_set
        have hslf:=PySem.F.sub_list_frozenset
        have hne:(Value.type "list" == Value.type "dict")=false:=by decide
        have hl1:(s.heap.push (mT led)).IsList l items:=⟨_,hol',rfl,nl,rfl⟩
        unfold Builtin.«set.__init__» noKeywords Builtin.Frozenset.updateFrom;generalize hPI:pyIter=PI
        wp_walk
        subst hPI
        refine wpAny_pyIter_list hl1 ?_
        refine wpAny_bind (wpAny_runValue ?_)
        have lS:l < s.heap.objs.size:=Heap.lt_size hol
        have hh3:A.in1.in1.in1.handled=none:=by simp [hh]
        have sz:(s.heap.push (mT led)).objs.size=s.heap.objs.size+1:=Heap.size_push _ _
        have hneI:l≠(s.heap.push (mT led)).objs.size:=Nat.ne_of_lt (by rw [sz];exact Nat.lt_succ_of_lt lS)
        have hSf:s.heap.objs.size∉[(s.heap.push (mT led)).objs.size,l]:=by
          simp only [List.mem_cons,List.not_mem_nil,or_false,not_or]
          exact ⟨Nat.ne_of_lt (by rw [sz];exact Nat.lt_succ_self _),Nat.ne_of_gt lS⟩
        have hval:∀(i:Nat) (v:Value),items[i]?=some v→∃ t,v=.int ((fun i=>ns.getD i 0) i) t:=fun i v hv=>IntsAre.int_at hi i v (by rw [Array.getElem?_toList];exact hv)
        refine yI ((Walks.list hh3 _ l hneI items).toS) s.heap.objs.size hSf (fun i=>ns.getD i 0) hval h4 (items.size - 0) 0 _ (by omega) (Nat.zero_le _) ⟨⟨_,Heap.get?_push_size _ rfl,rfl,rfl⟩,(hl1.push _)⟩ ?hS0 ?hR
        case hS0=>exact ⟨_,#[],0,_,Heap.get?_push_of_some _ hS,⟨rfl,rfl,rfl⟩,rfl,fun e he=>(by simp at he),by decide,rfl,abO hled,by simp,.nil⟩
        case hR =>
          intro s' hm hS'
          obtain ⟨h',g',d',tk',os'⟩:=s'
          have eg:g'=s.gens:=hm.gens
          have ed:d'=s.drawn:=hm.drawn
          have eo:os'=s.os:=hm.os
          subst eg ed eo
          show wpAny _ _ _ _ _ _
          refine wpAny_pure ?_
          show wpAny _ _ (ret Value.none) _ _ _
          refine wpAny_pure ⟨rfl,h',tk',rfl,hS',fun b o hb e=>?_⟩
          exact hm.heap b o (by simp only [List.mem_cons,List.not_mem_nil,or_false,not_or];exact ⟨Nat.ne_of_lt hb,Nat.ne_of_lt (by rw [sz];exact Nat.lt_succ_of_lt hb)⟩) (Heap.get?_push_of_some _ (Heap.get?_push_of_some _ e))
      · cases r₂ with
        | error e=>exact hr₂
        | ok fl₂ =>
          cases fl₂ with
          | ret r =>
            obtain ⟨rfl,h',tk,rfl,hS',hk'⟩:=hr₂
            repeat (any_goals (first | assumption | wp_step))
            exact h _ _ hS' hk'
          | _=>exact hr₂.elim
    | _=>exact hr.elim
end
end L2
namespace L2
open PySem PySem.Spec PyProof.Rows
theorem yB:Manifest.owners.lookup (String.ofList ['r','o','t','a','r','e','t','i','_','t','e','s'].reverse)=some Manifest.sig_set_iterator:=by kernel_rfl
theorem eL:Slot "set_iterator" "__next__" "set_iterator.__next__" :=
 .of (owner:="set_iterator") (n:="__next__") (by rw [typeLookup_type,builtinLookup_eq_fast];kernel_rfl) (by decide +kernel) (by decide +kernel) (by decide +kernel)
  (by first | exact .inl (by decide +kernel) | exact .inr (by decide +kernel)) (by rw [isSubtype_type];kernel_rfl)
theorem mR:entryFor table "set_iterator.__next__"=some Builtin.«set_iterator.__next__»:=entryFor_of_tree (by kernel_rfl)
theorem nI (a:Value):argsOk "set_iterator.__next__" ⟨[a],[]⟩:=by
 unfold argsOk;rw [signature?_of (id:="set_iterator.__next__") (n:=['_','_','t','x','e','n','_','_']) (o:=['r','o','t','a','r','e','t','i','_','t','e','s']) (by kernel_rfl) yB];kernel_rfl
theorem nM:Slot "set_iterator" "__iter__" "set_iterator.__iter__" :=
 .of (owner:="set_iterator") (n:="__iter__") (by rw [typeLookup_type,builtinLookup_eq_fast];kernel_rfl) (by decide +kernel) (by decide +kernel) (by decide +kernel)
  (by first | exact .inl (by decide +kernel) | exact .inr (by decide +kernel)) (by rw [isSubtype_type];kernel_rfl)
theorem tO:entryFor table "set_iterator.__iter__"=some Builtin.«dict_keyiterator.__iter__» :=
 entryFor_alias (id':="dict_keyiterator.__iter__") (by kernel_rfl) rfl (by decide +kernel) (by kernel_rfl)
theorem vD (a:Value):argsOk "set_iterator.__iter__" ⟨[a],[]⟩:=by
 unfold argsOk;rw [signature?_of (id:="set_iterator.__iter__") (n:=['_','_','r','e','t','i','_','_']) (o:=['r','o','t','a','r','e','t','i','_','t','e','s']) (by kernel_rfl) yB];kernel_rfl
theorem qY:entryFor table "set.__iter__"=some Builtin.«frozenset.__iter__» :=
 entryFor_alias (id':="frozenset.__iter__") (by kernel_rfl) rfl (by decide +kernel) (by kernel_rfl)
section
variable {P:Program} {w:World} {A:Around} {E:Value→Shared→Prop} {s:Shared} {a it:Addr} {es:Array (Int×Value)} {ep i:Nat} {t:SetTable}
noncomputable def jX (w:World) (h:Heap) (a:Addr) (es:Array (Int×Value)) (ep:Nat) (t:SetTable):Prop:=∃ o,h.get? a=some o∧o.ExactSet∧o.data=.set es ep t∧t.fits es.size=true∧mQ w t
theorem jX.to {h h':Heap} (x:jX w h a es ep t) (k:∀ o,h.get? a=some o→h'.get? a=some o):jX w h' a es ep t:=let ⟨o,e,r⟩:=x;⟨o,k _ e,r⟩
theorem jX.lt {h:Heap} (x:jX w h a es ep t):a < h.objs.size:=let ⟨_,e,_⟩:=x;Heap.lt_size e
theorem jX.ty (x:jX w s.heap a es ep t):s.TypeIs (.ref a) "set":=let ⟨o,e,c,_⟩:=x;⟨o,e,c.1⟩
noncomputable def kJ (w:World) (a:Addr) (es:Array (Int×Value)) (ep:Nat):Array (Int×Value):=if w.params.followText "set-order"=true then pickOrder (w.params.setOrder a ep) es else es
theorem rS:(kJ w a es ep).toList.Perm es.toList:=by
 unfold kJ
 split
 ·exact abN _ _
 ·exact .refl _
theorem kZ:(kJ w a es ep).size=es.size:=by have:=(rS (w:=w) (a:=a) (es:=es) (ep:=ep)).length_eq;simpa using this
noncomputable def wA (w:World) (t:SetTable) (i sl:Nat):Prop:=w.params.followText "set-order"=true∨SetTable.below t.place sl=i
noncomputable def tR (w:World) (h:Heap) (it a:Addr) (i n ep:Nat) (t:SetTable):Prop:=∃ o sl,h.get? it=some o∧o.cls=.type "set_iterator"∧o.data=.fields #[.int (sl:Nat) 0,.int (i:Nat) 0,.ref a,.int (n:Nat) 0,.int (ep:Nat) 0]∧wA w t i sl
theorem tR.to {h h':Heap} {n:Nat} (x:tR w h it a i n ep t) (k:∀ o,h.get? it=some o→h'.get? it=some o):tR w h' it a i n ep t:=let ⟨o,sl,e,r⟩:=x;⟨o,sl,k _ e,r⟩
theorem tR.ty {n:Nat} (x:tR w s.heap it a i n ep t):s.TypeIs (.ref it) "set_iterator":=let ⟨o,_,e,c,_⟩:=x;⟨o,e,c⟩
theorem abG (T:mQ w t):wA w t 0 0:=.inr (by
 obtain ⟨h1,h2,h3⟩:=nA t.place 0 T.rise
 by_cases z:SetTable.below t.place 0=0
 ·exact z
 ·have:=h1 0 (by omega) (by omega)
  omega)
theorem slot_next (T:mQ w t) {j:Nat} (e:t.place[i]?=some j):SetTable.below t.place (j+1)=i+1:=by
 obtain ⟨hi,ej⟩:=Array.getElem?_eq_some_iff.mp e
 obtain ⟨h1,h2,h3⟩:=nA t.place (j+1) T.rise
 by_cases c:SetTable.below t.place (j+1)≤i
 ·have:=h2 i hi c
  omega
 ·by_cases d:i+1 < SetTable.below t.place (j+1)
  ·have h4:i+1 < t.place.size:=by omega
   have h5:=h1 (i+1) h4 d
   have h6:=List.pairwise_iff_getElem.mp T.rise i (i+1) (by simpa using hi) (by simpa using h4) (by omega)
   simp at h6
   omega
  ·omega
theorem set_iter {Q:Value→Shared→Prop} (x:jX w s.heap a es ep t)
    (q:Q (.ref s.heap.objs.size) {s with heap:=s.heap.push {cls:=.type "set_iterator",data:=.fields #[.int 0 0,.int 0 0,.ref a,.int es.size 0,.int ep 0]}}):wpAny (model P w) A (pyIter (.ref a)) Q E s:=by
  obtain ⟨o,e1,e2,e3,e4,T⟩:=id x
  refine wpAny_pyIter_slot x.ty F.slot_set_iter (wpAny_call_entry F.slot_set_iter x.ty qY ?_ (F.args_set_iter_1 _))
  unfold Builtin.«frozenset.__iter__»
  refine wpAny_bind ?_
  show wpAny _ _ ((pure (Value.ref a,([]:List Value)):Sem _) >>= fun z=>Builtin.Frozenset.addrOf z.1) _ _ s
  refine wpAny_bind (wpAny_pure (wpAny_pure ?_))
  refine wpAny_bind (wpAny_bind (wpAny_bind (wpAny_setState_of e1 e3 e4 (wpAny_pure (wpAny_pure ?_)))))
  refine wpAny_bind (wpAny_bind (wpAny_setState_of e1 e3 e4 ?_))
  refine wpAny_bind (wpAny_bind (wpAny_askSetting (wpAny_pure ?_)))
  refine wpAny_pure ?_
  show wpAny _ _ (if (!w.params.followText "set-order" && (!t.plain && decide (es.size > 1)))=true then _ else _) _ _ s
  rw [T.pln]
  simp only [Bool.not_true,Bool.false_and,Bool.and_false,Bool.false_eq_true,if_false]
  refine wpAny_bind (wpAny_pure (wpAny_bind (wpAny_bind (wpAny_setState_of e1 e3 e4 (wpAny_pure ?_)))))
  refine wpAny_bind (wpAny_newObj_type (wpAny_pure ⟨_,rfl,"set_iterator",_,⟨_,Heap.get?_push_size _ rfl,rfl⟩,eL.lookup,by simpa [rawInt] using q⟩))
theorem sI {sl:Nat} {Q:Option (Value×Nat)→Shared→Prop} (x:jX w s.heap a es ep t) (hs:wA w t i sl)
    (q1:∀ e sl',(kJ w a es ep)[i]?=some e→wA w t (i+1) sl'→Q (some (e.2,sl')) s) (q0:(kJ w a es ep)[i]?=none→Q none s):wpAny (model P w) A (setNext a sl i ep) Q E s:=by
  obtain ⟨o,e1,e2,e3,e4,T⟩:=id x
  unfold setNext
  refine wpAny_bind (wpAny_setState_of e1 e3 e4 ?_)
  dsimp only
  refine wpAny_bind (wpAny_bind (wpAny_askSetting (wpAny_pure ?_)))
  show wpAny _ _ (if w.params.followText "set-order"=true then _ else _) _ _ s
  by_cases c:w.params.followText "set-order"=true
  · rw [if_pos c,if_neg (by simp)]
    unfold setWalk
    refine wpAny_bind (wpAny_bind (wpAny_setState_of e1 e3 e4 ?_))
    dsimp only
    refine wpAny_bind (wpAny_bind (wpAny_askSetting (wpAny_pure ?_)))
    show wpAny _ _ (if w.params.followText "set-order"=true then _ else _) _ _ s
    rw [if_pos c]
    refine wpAny_bind (wpAny_askSetting (wpAny_pure (wpAny_pure ?_)))
    show Q (Option.map _ (pickOrder (w.params.setOrder a ep) es)[i]?) s
    have eo:kJ w a es ep=pickOrder (w.params.setOrder a ep) es:=if_pos c
    rw [eo] at q1 q0
    cases h:(pickOrder (w.params.setOrder a ep) es)[i]? with
    | none=>exact q0 h
    | some e=>exact q1 e sl h (.inl c)
  · rw [if_neg c]
    have eo:kJ w a es ep=es:=if_neg c
    rw [eo] at q1 q0
    have hb:SetTable.below t.place sl=i:=hs.resolve_left c
    have hl:t.led=true:=T.led.resolve_left c
    show wpAny _ _ (if (!t.plain && decide (es.size > 1))=true then _ else _) _ _ s
    rw [T.pln]
    simp only [Bool.not_true,Bool.false_and,Bool.false_eq_true,if_false]
    show wpAny _ _ ((if (!t.led && !es.isEmpty)=true then unsupported "set:maker-not-led" else pure ()) >>= fun _=>_) _ _ s
    rw [hl]
    simp only [Bool.not_true,Bool.false_and,Bool.false_eq_true,if_false]
    refine wpAny_bind (wpAny_pure (wpAny_pure ?_))
    rw [hb]
    have hz:t.place.size=es.size:=by
      have:=e4
      unfold SetTable.fits at this
      simp only [Bool.and_eq_true,beq_iff_eq] at this
      exact this.1
    by_cases d:i < es.size
    · have h1:es[i]?=some es[i]:=Array.getElem?_eq_getElem d
      have h2:t.place[i]?=some (t.place[i]'(by omega)):=Array.getElem?_eq_getElem (by omega)
      rw [h1,h2]
      exact q1 _ _ h1 (.inr (slot_next T h2))
    · have h1:es[i]?=none:=Array.getElem?_eq_none (by omega)
      rw [h1]
      exact q0 h1
theorem set_next {Q:Option Value→Shared→Prop} (ki:tR w s.heap it a i es.size ep t) (x:jX w s.heap a es ep t) {e:Int×Value} (he:(kJ w a es ep)[i]?=some e)
    (q:∀ h',tR w h' it a (i+1) es.size ep t→Heap.SameBut it s.heap h'→Q (some e.2) {s with heap:=h'}):wpAny (model P w) A (pyNext (.ref it)) Q E s:=by
  obtain ⟨oi,sl,i1,i2,i3,i4⟩:=id ki
  obtain ⟨o,e1,e2,e3,e4,T⟩:=id x
  have lt:i < es.size:=by have:=(Array.getElem?_eq_some_iff.mp he).1;rw [kZ] at this;exact this
  unfold pyNext
  refine wpAny_bind (wpAny_attempt (wpAny_callSpecial?_slot (name:=Str.ofString "__next__") ki.ty eL
    (wpAny_call_entry eL ki.ty mR ?_ (nI _))))
  unfold Builtin.«set_iterator.__next__»
  refine wpAny_bind (wpAny_pure (wpAny_bind (wpAny_fieldsOf i1 i3 ?_)))
  show wpAny _ _ (setEntries a >>= fun _=>_) _ _ s
  refine wpAny_bind (wpAny_bind (wpAny_setState_of e1 e3 e4 (wpAny_pure ?_)))
  rw [if_neg (by simp)]
  show wpAny _ _ (setNext a (Int.toNat (sl:Nat)) (Int.toNat (i:Nat)) (Int.toNat (ep:Nat)) >>= fun z=>_) _ _ s
  simp only [Int.toNat_natCast]
  refine wpAny_bind ?_
  refine sI x i4 (fun e' sl' he' hs'=>?_) fun z=>by rw [z] at he;cases he
  rw [he] at he'
  cases he'
  show wpAny _ _ (setField (.ref it) 0 (rawInt (sl':Nat)) >>= fun _=>_) _ _ s
  refine wpAny_bind (wpAny_setField i1 i3 (by simp) ?_)
  have j1:(s.heap.update it (Obj.mapFields (·.setIfInBounds 0 (rawInt (sl':Nat))))).get? it=some (Obj.mapFields (·.setIfInBounds 0 (rawInt (sl':Nat))) oi):=Heap.get?_update_self _ i1 (Obj.isFreed_of_fields (Obj.data_mapFields i3 _))
  have j3:(Obj.mapFields (·.setIfInBounds 0 (rawInt (sl':Nat))) oi).data=.fields #[.int (sl':Nat) 0,.int (i:Nat) 0,.ref a,.int (es.size:Nat) 0,.int (ep:Nat) 0]:=by rw [Obj.data_mapFields i3];simp [rawInt]
  show wpAny _ _ (setField (.ref it) 1 (rawInt ((i:Int)+1)) >>= fun _=>_) _ _ _
  refine wpAny_bind (wpAny_setField j1 j3 (by simp) ?_)
  refine wpAny_pure ⟨_,rfl,wpAny_pure (q _ ⟨_,sl',Heap.get?_update_self _ j1 (Obj.isFreed_of_fields (Obj.data_mapFields j3 _)),((Obj.cls_mapFields ..).trans (Obj.cls_mapFields ..)).trans i2,by rw [Obj.data_mapFields j3];simp [rawInt],hs'⟩ ((Heap.SameBut.update ..).trans (Heap.SameBut.update ..)))⟩
theorem set_end {Q:Option Value→Shared→Prop} (hh:A.handled=none) (ki:tR w s.heap it a es.size es.size ep t) (x:jX w s.heap a es ep t)
    (q:∀ h',Heap.ExtBut it s.heap h'→Q none {s with heap:=h'}):wpAny (model P w) A (pyNext (.ref it)) Q E s:=by
  obtain ⟨oi,sl,i1,i2,i3,i4⟩:=id ki
  obtain ⟨o,e1,e2,e3,e4,T⟩:=id x
  unfold pyNext
  refine wpAny_bind (wpAny_attempt (wpAny_callSpecial?_slot (name:=Str.ofString "__next__") ki.ty eL
    (wpAny_call_entry eL ki.ty mR ?_ (nI _))))
  unfold Builtin.«set_iterator.__next__»
  refine wpAny_bind (wpAny_pure (wpAny_bind (wpAny_fieldsOf i1 i3 ?_)))
  show wpAny _ _ (setEntries a >>= fun _=>_) _ _ s
  refine wpAny_bind (wpAny_bind (wpAny_setState_of e1 e3 e4 (wpAny_pure ?_)))
  rw [if_neg (by simp)]
  show wpAny _ _ (setNext a (Int.toNat (sl:Nat)) (Int.toNat (es.size:Nat)) (Int.toNat (ep:Nat)) >>= fun z=>_) _ _ s
  simp only [Int.toNat_natCast]
  refine wpAny_bind ?_
  refine sI x i4 (fun e' sl' he' hs'=>by
    have:=(Array.getElem?_eq_some_iff.mp he').1
    rw [kZ] at this
    omega) fun _=>?_
  show wpAny _ _ (setField (.ref it) 2 .none >>= fun _=>_) _ _ s
  refine wpAny_bind (wpAny_setField i1 i3 (by simp) ?_)
  show wpAny _ _ (newExc (.type "StopIteration") [] >>= fun _=>_) _ _ _
  refine wpAny_bind ?_
  simp only [newExc,newTuple]
  refine wpAny_bind (wpAny_newObj_type ?_ (by size_fits))
  refine wpAny_bind (m:=firstArgMember _ _) (wpAny_of_eq (a:=Value.none) (by first | rfl | (simp only [firstArgMember];rfl)) (wpAny_newObj_type ?_ (by size_fits)))
  simp only [raiseNew]
  refine wpAny_bind (wpAny_handled ?_)
  rw [show A.in1.handled=none from hh]
  refine wpAny_bind (wpAny_pure (wpAny_throw ?_))
  refine wpAny_bind (wpAny_isInstance (T:="StopIteration") (b:=true) ⟨_,Heap.get?_push_size _ rfl,rfl⟩ (show _ from isSubtype_stop) ?_)
  exact wpAny_pure (q _ (((Heap.SameBut.update ..).extBut.push _).push _))
theorem set_self {n:Nat} {Q:Value→Shared→Prop} (ki:tR w s.heap it a i n ep t) (h:Q (.ref it) s):wpAny (model P w) A (pyIter (.ref it)) Q E s:=by
 refine wpAny_pyIter_slot ki.ty nM (wpAny_call_entry nM ki.ty tO ?_ (vD _))
 show wpAny _ _ (ret (.ref it)) _ _ s
 exact wpAny_pure ⟨_,rfl,"set_iterator",_,ki.ty,eL.lookup,h⟩
theorem walks_set (hh:A.handled=none) (it a:Addr) (ne:a≠it) (es:Array (Int×Value)) (ep:Nat) (t:SetTable) :
    Walks P w A it [it,a] [it] es.size (fun i v=>∃ e,(kJ w a es ep)[i]?=some e∧v=e.2) (fun i h=>tR w h it a i es.size ep t∧jX w h a es ep t) where
  sub:=fun b hb=>by simp at hb;simp [hb]
  frame:=fun _ _ _ st hk=>⟨st.1.to fun o e=>hk it (by simp) o e,st.2.to fun o e=>hk a (by simp) o e⟩
  item:=fun i s Q E hi st hQ=>set_next st.1 st.2 (Array.getElem?_eq_getElem (by rw [kZ];exact hi)) fun h' k2 sb=>hQ _ h' s.toks ⟨_,Array.getElem?_eq_getElem (by rw [kZ];exact hi),rfl⟩ ⟨k2,st.2.to fun o e=>sb.extBut a o ne e⟩ fun b o hb e=>sb.extBut b o (fun h=>hb (by simp [h])) e
  done:=fun s Q E st hQ=>set_end hh st.1 st.2 fun h' he=>hQ h' s.toks fun b o hb e=>he b o (fun h=>hb (by simp [h])) e
  self:=fun _ _ _ _ st hQ=>set_self st.1 hQ
end
end L2
namespace L2
open PySem PySem.Spec PyProof.Rows
section
variable {prog:Program} {w:World} {A:Around} {E:Value→Shared→Prop} {s:Shared} {r a:Addr} {es:Array (Int×Value)} {ep:Nat} {t:SetTable}
theorem hint_set {Q:Bool→Shared→Prop} (hT:s.TypeIs (.ref r) "set") (h:Q false s):wpAny (model prog w) A (Builtin.List.listLengthHint (.ref r)) Q E s:=by
 unfold Builtin.List.listLengthHint
 refine wpAny_bind (wpAny_specialOf hT PySem.F.slot_set_len.lookup ?_)
 generalize hid:("set.__len__":String)=id0
 wp_delta
 rw [show splitId id0=some ("set","__len__") from by subst hid;decide +kernel]
 subst hid
 refine wpAny_bind (wpAny_isInstance (T:="set") (b:=true) hT (by rw [isSubtype_type];kernel_rfl) ?_)
 refine wpAny_ite_split (fun hab=>absurd hab (by decide)) (fun _=>?_)
 refine wpAny_ite_split (fun _=>?_) (fun hab=>absurd (by decide +kernel) hab)
 refine wpAny_bind (wpAny_typeOf hT ?_)
 exact wpAny_pure h
open PySem.W in
theorem src_set:KdlSrc prog w "set" a a es.size (fun i v=>∃ e,(kJ w a es ep)[i]?=some e∧v=e.2) (fun h=>jX w h a es ep t) where
 type:=fun _ hm=>hm.ty
 there:=fun _ hm=>⟨hm.lt,hm.lt⟩
 keep:=fun _ _ hm hk=>hm.to fun o e=>hk a (.inl rfl) o e
 notList:=by decide
 notTuple:=by decide
 hint:=fun _ _ _ _ hm hq=>hint_set hm.ty hq
 iter:=fun _ _ hh hm=>⟨_,_,(fun _ _ hq=>set_iter hm hq),walks_set hh _ a (Nat.ne_of_lt hm.lt) es ep t,⟨⟨_,0,Heap.get?_push_size _ rfl,rfl,rfl,abG (let ⟨_,_,_,_,_,T⟩:=hm;T)⟩,hm.to fun o e=>Heap.get?_push_of_some _ e⟩⟩
end
theorem bt_set:bootBuiltins "set"=some (.type "set"):=by decide +kernel
theorem look1 {k z:Str} {a c:Addr} {r:List (Str×Addr)} (e:List.lookup k r=some a) (h:List.lookup z [(k,a)]=some c):List.lookup z r=some c:=by
 simp only [List.lookup] at h
 split at h
 ·next y=>cases h;rw [eq_of_beq y];exact e
 ·cases h
noncomputable def zW (P:Program) (w:World) (a:Addr) (ns:List Int):HO:=.ext (oW P w a ns)
theorem setE_ok {X:Cx} {H:Hp} {h:Heap} {a:Addr} {ns:List Int} (x:oW X.prog X.w a ns h):cZ X.prog X.w H h a (zW X.prog X.w a ns) :=
 ⟨x,let ⟨o,_,_,_,e,_⟩:=x;⟨o,e⟩,fun _ _ y k=>y.keep k⟩
noncomputable def kO (ns:List Int):List Int:=once (fun i=>ns.getD i 0) ns.length
noncomputable def cSetOf (P:Program) (w:World):List V→Hp→VK→Prop:=fun vs H Q=>on1 vs fun x=>bC x fun p=>∃ ns:List Int,H p=some (.lst (ns.map V.int))∧ns.length≤4∧∀ l,H l=none→Q (.ref l) (upd H l (zW P w l (kO ns)))
theorem uL {X:Cx} (hc:X.calm=true):dX X (.type "set") (cSetOf X.prog X.w):=fun pins s σ H xs us Q I r h=>by
 obtain ⟨x,rfl,h1⟩:=iP h
 obtain ⟨p,rfl,ns,e,h4,q⟩:=aU h1
 obtain ⟨u,rfl,ru⟩:=vals1 r
 cases ru
 obtain ⟨its,r',pl,hz⟩:=I.list (eA.of e)
 have hi:IntsAre its ns:=yT r'
 have hlen:=r'.length
 have lm:its.toArray.size=ns.length:=by simpa using hlen.symm
 refine xA (items:=its.toArray) (I.ok.hd hc) pl.isList (by simpa using hi) (by omega) fun h' tk hS kp=>?_
 rw [lm] at hS
 exact ⟨.ref s.heap.objs.size,_,I.laid (t':=tk) (fun b o e=>kp b o (Heap.lt_size e) e) (Nat.le_refl _) (setE_ok hS),rfl,q _ (I.hok.fresh (Nat.le_refl _))⟩
noncomputable def cLenSt (P:Program) (w:World):List V→Hp→VK→Prop:=fun vs H Q=>on1 vs fun x=>bC x fun p=>∃ ns:List Int,H p=some (zW P w p ns)∧Q (.int ns.length) H
theorem aaB {X:Cx}:dX X (.builtin "len") (cLenSt X.prog X.w):=fun pins s σ H xs us Q I r h=>by
 obtain ⟨x,rfl,h1⟩:=iP h
 obtain ⟨p,rfl,ns,e,q⟩:=aU h1
 obtain ⟨u,rfl,ru⟩:=vals1 r
 cases ru
 obtain ⟨⟨o,es,ep,t,ho,hex,hd,hel,hb,hf,T,hi,hp⟩,_⟩:=I.hok p _ e
 have hl:es.size=ns.length:=by have:=hp.length_eq;simpa using this
 have b1:scanBound=4096:=rfl
 refine call_len_set ho hex hd hf (by omega) ?_
 exact ⟨.int ns.length,H,I.tok _,⟨_,by rw [hl]⟩,q⟩
noncomputable def cSortS (P:Program) (w:World):List V→Hp→VK→Prop:=fun vs H Q=>on1 vs fun x=>bC x fun p=>∃ ns:List Int,H p=some (zW P w p ns)∧ns.length < 64∧∀(l:Addr) (ns':List Int),H l=none→ns'.Perm ns→ns'.Pairwise (·≤·)→Q (.ref l) (upd H l (.lst (ns'.map V.int)))
theorem zJ {X:Cx} (hc:X.calm=true):dX X (.builtin "sorted") (cSortS X.prog X.w):=fun pins s σ H xs us Q I r h=>by
 obtain ⟨x,rfl,h1⟩:=iP h
 obtain ⟨p,rfl,ns0,e,h64,q0⟩:=aU h1
 obtain ⟨u,rfl,ru⟩:=vals1 r
 cases ru
 obtain ⟨⟨od,es,ep,t,ho,hex,hd,hel,hb,hf,T,hi,hp0⟩,_⟩:=I.hok p _ e
 have hl:es.size=ns0.length:=by have:=hp0.length_eq;simpa using this
 obtain ⟨m,hn,_⟩:=I.loc
 have hne:p≠X.env.locals:=aL e I.free
 obtain ⟨ns,ens⟩:∃ ns,ns=(kJ X.w p es ep).toList.map fun e=>wG e.2:=⟨_,rfl⟩
 have pns:ns.Perm ns0:=by rw [ens];exact (rS.map _).trans hp0
 have lns:ns.length=es.size:=by rw [ens];simp [kZ]
 have q:∀(l:Addr) (ns':List Int),H l=none→ns'.Perm ns→ns'.Pairwise (·≤·)→Q (.ref l) (upd H l (.lst (ns'.map V.int))):=fun l ns' a b c=>q0 l ns' a (b.trans pns) c
 refine PySem.W.kdu_sorted (src_set (a:=p) (es:=es) (ep:=ep) (t:=t)) (I.ok.hd hc) (Att.zH hn) (Att.lQ hne ho) ⟨od,ho,hex,hd,hf,T⟩ (by rw [sizeLine_eq];omega) fun D h' tk vs F N lt hlen hP=>?_
 have hI:IntsAre vs ns:=aaT (by omega) fun j v ev=>by
  obtain ⟨e,e1,rfl⟩:=hP j v ev
  have e1':(kJ X.w p es ep).toList[j]?=some e:=by rw [Array.getElem?_toList];exact e1
  obtain ⟨i,tk,et⟩:=hi e (rS.mem_iff.mp (List.mem_of_getElem? e1'))
  exact ⟨i,tk,by rw [ens,List.getElem?_map,e1'];simp only [Option.map_some,et,wG],et⟩
 have hD:h'.get? D=some (seqObj "list" vs.toArray 0):=(N _ (List.Mem.head _)).1
 have old:∀ b o,b≠X.env.locals→s.heap.get? b=some o→h'.get? b=some o∧b < D:=fun b o nb eb=>by
  by_cases hb:b=p
  ·subst hb
   rw [ho] at eb
   cases eb
   exact ⟨(N _ (List.Mem.tail _ (List.Mem.head _))).1,lt _ (List.Mem.head _)⟩
  ·have mem:=Att.kF (h:=s.heap) (L:=X.env.locals) (d:=p) |>.mpr ⟨nb,hb,eb⟩
   exact ⟨(N _ (List.Mem.tail _ (List.Mem.tail _ mem))).1,lt _ (List.Mem.tail _ mem)⟩
 have g:MeetsIn X.prog X.w (Builtin.«list.sort» ⟨[.ref D],[]⟩) (fun _ R s=>s.heap.get? D=some (seqObj "list" vs.toArray 0)∧∀(out:Array Value) (ns':List Int),IntsAre out.toList ns'→ns'.Perm ns→ns'.Pairwise (·≤·)→R (.ok (.ret .none)) {s with heap:=sortedHeap s.heap D vs out}) :=
  fun A R s ⟨g1,g2⟩=>list_sort_tree g1 hI (by omega) fun out ns' a b c=>g2 out ns' a b c
 refine call_meetsIn PySem.F.slot_list_sort ⟨_,hD,rfl⟩ PySem.F.entry_list_sort (PySem.F.args_list_sort_1 _) g ⟨hD,fun out ns' hI' hp hs=>?_⟩
 have hDL:D≠X.env.locals:=(N _ (List.Mem.head _)).2.1
 have hDn:H D=none:=by
  cases z:H D with
  | none=>rfl
  | some o =>
   obtain ⟨ob,eb⟩:=(I.hok D o z).there
   exact absurd (old D ob hDL eb).2 (Nat.lt_irrefl _)
 have new:∀ b o,b≠X.env.locals→s.heap.get? b=some o→(sortedHeap h' D vs out).get? b=some o:=fun b o nb eb=>by
  obtain ⟨h1,h2⟩:=old b o nb eb
  rw [sortedHeap_old (Nat.ne_of_lt h2) (Heap.lt_size h1)]
  exact h1
 obtain ⟨e',hD'⟩:=sortedHeap_at (out:=out) hD
 have hns:∀ m',s.heap.Ns X.env.locals m'→(sortedHeap h' D vs out).Ns X.env.locals m':=fun m' hm=>by
  have em:m'=m:=by
   obtain ⟨o1,es1,ep1,a1,b1,_,c1⟩:=hm
   obtain ⟨o2,es2,ep2,a2,b2,_,c2⟩:=hn
   rw [a1] at a2
   cases a2
   rw [b1] at b2
   cases b2
   funext y
   rw [← c1,← c2]
  subst em
  obtain ⟨o1,es1,ep1,a1,r1⟩:=F.ns
  exact ⟨o1,es1,ep1,by rw [sortedHeap_old hDL.symm (Heap.lt_size a1)];exact a1,r1⟩
 have nn:∀ {b:Addr} {o:HO},H b=some o→b≠D:=fun h z=>by subst z;rw [hDn] at h;cases h
 have nl:∀ {b:Addr} {o:HO},H b=some o→b≠X.env.locals:=fun h=>aL h I.free
 refine ⟨.ref D,upd H D (.lst (ns'.map V.int)),show Inv X pins σ _ {s with heap:=sortedHeap h' D vs out,gens:=s.gens,drawn:=s.drawn,toks:=tk} from I.step (g':=s.gens) (d':=s.drawn) (t':=tk) (ch:=[]) (fun _ z=>nomatch z) (fun b o nb _ _ eb _=>new b o nb eb) (fun b o nb _ _ eb _=>⟨o.slots,new b o nb eb⟩) (fun b o _ eb hb=>?_) (fun b o _ eb=>?_)
  (fun b xs hb=>by rw [aI (nn hb)];exact hb) (fun b o u hb=>by rw [aI (nn hb)];exact hb) (fun b ps hb=>⟨#[],by rw [aI (nn hb),hb];simp⟩) hns (fun b o hb=>?_) I.bare,rfl,q D ns' hDn hp hs⟩
 ·by_cases hbD:b=D
  ·subst hbD
   by_cases hbL:b=X.env.locals
   ·exact absurd hbL hDL
   ·exact absurd (old b o hbL eb).2 (Nat.lt_irrefl _)
  ·rw [aI hbD]
   exact hb
 ·by_cases hbL:b=X.env.locals
  ·subst hbL
   obtain ⟨o1,es1,ep1,a1,r1⟩:=hns m hn
   exact ⟨o1,a1⟩
  ·exact ⟨o,new b o hbL eb⟩
 ·by_cases hbD:b=D
  ·subst hbD
   rw [aA] at hb
   cases hb
   exact ⟨by rw [List.length_map,hp.length_eq,sizeLine_eq];omega,out.toList,e',lV hI',hD'⟩
  ·rw [aI hbD] at hb
   refine (I.hok b o hb).stay (fun c v hc ev=>?_) (fun c hc=>by rw [aI (nn hc)];exact hc) fun c xs hc=>by rw [aI (nn hc)];exact hc
   rcases hc with hc | hc
   ·subst hc
    exact new c v (nl hb) ev
   ·exact new c v (nl hc) ev
section
variable {P:Program} {w:World} {H:Hp} {Q:VK} {p:Addr}
theorem e_setSt:cSetOf P w [.ref p] H Q = ∃ ns:List Int,H p=some (.lst (ns.map V.int))∧ns.length≤4∧∀ l,H l=none→Q (.ref l) (upd H l (zW P w l (kO ns))):=rfl
theorem e_lenSt:cLenSt P w [.ref p] H Q = ∃ ns:List Int,H p=some (zW P w p ns)∧Q (.int ns.length) H:=rfl
theorem e_sortSt:cSortS P w [.ref p] H Q = ∃ ns:List Int,H p=some (zW P w p ns)∧ns.length < 64∧∀(l:Addr) (ns':List Int),H l=none→ns'.Perm ns→ns'.Pairwise (·≤·)→Q (.ref l) (upd H l (.lst (ns'.map V.int))):=rfl
end
end L2
namespace L2
open PySem PySem.Spec PyProof.Rows
noncomputable def cEqW (K:PySem.W.Frag) (n:Nat):R2:=fun x y H Q=>bC x fun a=>bC y fun b=>(∃ r,n9 K H n a b r∧Q (.bl r) H) ∨
 ∃(z z' u:Str) (p:Addr) (ts:List V),H a=some (.tup [.str z,.ref p])∧H p=some (.tup ts)∧H b=some (.tup [.str z',.str u])∧z≠z'∧Q (.bl false) H
theorem op_eqW {X:Cx} (n:Nat) (hn:2≤n) (hu:X.A.units+n < cLine):jM X (compareOp .Eq) (cEqW X.K n):=fun pins s σ H x y v u Q I rx ry h=>by
 obtain ⟨a,rfl,h1⟩:=aU h
 obtain ⟨b,rfl,h2⟩:=aU h1
 cases rx
 cases ry
 rcases h2 with ⟨r,e,q⟩ | ⟨z,z',k,p,ts,ea,ep,eb,ne,q⟩
 ·exact rcA_at e I hu X.prog X.w X.xe _ (bR I q rfl)
 ·obtain ⟨its,r1,p1,_⟩:=I.tuple (gO.of ea)
  obtain ⟨jts,r2,p2,_⟩:=I.tuple (gO.of eb)
  obtain ⟨kts,r3,p3,_⟩:=I.tuple (gO.of ep)
  cases r1 with
  | cons a1 r1 =>
  cases r1 with
  | cons a2 r1 =>
  cases r1
  cases r2 with
  | cons b1 r2 =>
  cases r2 with
  | cons b2 r2 =>
  cases r2
  obtain ⟨t1,rfl⟩:=a1
  cases a2
  obtain ⟨t2,rfl⟩:=b1
  obtain ⟨t3,rfl⟩:=b2
  have:=SeqAt.RcAt.tuples (A:=X.A) (e:=fun j=>if j=0 then (z == z') else false) (show s.heap.IsTuple a #[_,_] from p1) (show s.heap.IsTuple b #[_,_] from p2) (by omega) (fun j h1 h2=>by
   match j,h1 with
   | 0,_=>exact SeqAt.EqAt.str_str z t1 z' t2
   | 1,_=>exact SeqAt.EqAt.tuple_str k t3 (show s.heap.IsTuple p kts.toArray from p3) (by show X.A.units+1 < _;omega))
  have nz:(z == z')=false:=beq_eq_false_iff_ne.mpr ne
  have ef:((List.range (min (2:Nat) 2)).all (fun j=>if j=0 then (z == z') else false) && ((2:Nat) == 2))=false:=by rw [nz];rfl
  have:=this X.prog X.w X.xe (EP X pins σ Q) (by
   show EP X pins σ Q (.bool ((List.range (min (2:Nat) 2)).all (fun j=>if j=0 then (z == z') else false) && ((2:Nat) == 2))) s
   rw [ef]
   exact bR I q rfl)
  exact this
section
variable {K:PySem.W.Frag} {n:Nat} {H:Hp} {Q:VK} {a b:Addr}
theorem e_eqW:cEqW K n (.ref a) (.ref b) H Q=((∃ r,n9 K H n a b r∧Q (.bl r) H)∨∃(z z' u:Str) (p:Addr) (ts:List V),H a=some (.tup [.str z,.ref p])∧H p=some (.tup ts)∧H b=some (.tup [.str z',.str u])∧z≠z'∧Q (.bl false) H):=rfl
end
end L2
namespace L2
open PySem PySem.Spec PyProof.Rows
noncomputable def hX:List (Key×V)→Option (List Str)
 | []=>some []
 | (.inr i,_)::r=>(hX r).map (i::·)
 | _=>none
theorem qT:∀ {kvs:List (Key×V)} {ns:List Str},hX kvs=some ns→kvs.length=ns.length∧∀(j:Nat) (k:Key) (x:V),kvs[j]?=some (k,x)→∃ i:Str,k=.inr i∧ns[j]?=some i
 | [],ns,h=>by cases h;exact ⟨rfl,fun j k x e=>by simp at e⟩
 | (k,v)::kvs,ns,h=>by
  cases k with
  | inr i =>
   simp only [hX,Option.map_eq_some_iff] at h
   obtain ⟨ms,e,rfl⟩:=h
   obtain ⟨l,f⟩:=qT e
   refine ⟨by simp [l],fun j k x ej=>?_⟩
   cases j with
   | zero=>simp only [List.getElem?_cons_zero,Option.some.injEq,Prod.mk.injEq] at ej;exact ⟨i,ej.1.symm,rfl⟩
   | succ j=>exact f j k x (by simpa using ej)
  | _=>cases h
theorem strs_by {ns:List Str}:∀ {vs:List Value},vs.length=ns.length→(∀(j:Nat) (v:Value),vs[j]?=some v→∃ i t,ns[j]?=some i∧v=Value.str i t)→StrsAre vs ns:=by
 induction ns with
 | nil =>
  intro vs hl _
  cases vs with
  | nil=>exact .nil
  | cons _ _=>simp at hl
 | cons n ns ih =>
  intro vs hl h
  cases vs with
  | nil=>simp at hl
  | cons v vs =>
   obtain ⟨i,t,e,rfl⟩:=h 0 v rfl
   cases e
   exact .cons _ _ (ih (by simpa using hl) fun j v e=>h (j+1) v (by simpa using e))
theorem y4 {vs:List Value} {ss:List Str} (h:StrsAre vs ss):Vals (ss.map V.str) vs:=by
 induction h with
 | nil=>exact .nil
 | cons y t _ ih=>exact .cons ⟨t,rfl⟩ ih
noncomputable def cSortX:List V→Hp→VK→Prop:=fun vs H Q=>on1 vs fun x=>bC x fun p=>cL (H p) fun kvs=>gN (hX kvs) fun ns=>ns.length < 64∧∀(l:Addr) (ns':List Str),H l=none→ns'.Perm ns→sortedS ns'=true→Q (.ref l) (upd H l (.lst (ns'.map V.str)))
theorem sA {X:Cx} (hc:X.calm=true):dX X (.builtin "sorted") cSortX:=fun pins s σ H xs us Q I r h=>by
 obtain ⟨x,rfl,h1⟩:=iP h
 obtain ⟨p,rfl,h2⟩:=aU h1
 obtain ⟨kvs,e,h3⟩:=cN h2
 obtain ⟨ns,ek,h64,q⟩:=cO h3
 obtain ⟨u,rfl,ru⟩:=vals1 r
 cases ru
 obtain ⟨hl,hk⟩:=qT ek
 obtain ⟨z,hd,vs0,rel,dd⟩:=nV I.hok e
 obtain ⟨ep,dat⟩:=dd.dictAt
 obtain ⟨od,es,ho,_⟩:=id dat
 obtain ⟨m,hn,_⟩:=I.loc
 have hne:p≠X.env.locals:=aL e I.free
 have l0:=rel.length
 refine PySem.W.kdu_sorted (PySem.W.kdl_dict (knd:=bS X.prog X.w) (kvs:=vs0) (ep:=ep) hd) (I.ok.hd hc) (Att.zH hn) (Att.lQ hne ho) dat (by omega) fun D h' tk vs F N lt hlen hP=>?_
 have hI:StrsAre vs ns:=strs_by (by omega) fun j v ev=>by
  obtain ⟨k,x,e1,e2⟩:=hP j v ev
  have hj:j < kvs.length:=by
   have:=(List.getElem?_eq_some_iff.mp e1).1
   omega
  obtain ⟨⟨k',x'⟩,ekv⟩:∃ y,kvs[j]?=some y:=⟨_,List.getElem?_eq_getElem hj⟩
  obtain ⟨v',e3⟩:=KV.at rel ekv
  rw [e1] at e3
  cases e3
  obtain ⟨i,rfl,ei⟩:=hk j _ _ ekv
  obtain ⟨t,et⟩:=(show ∃ t,v=Value.str i t from nW e2)
  exact ⟨i,t,ei,et⟩
 have hD:h'.get? D=some (seqObj "list" vs.toArray 0):=(N _ (List.Mem.head _)).1
 have old:∀ b o,b≠X.env.locals→s.heap.get? b=some o→h'.get? b=some o∧b < D:=fun b o nb eb=>by
  by_cases hb:b=p
  ·subst hb
   rw [ho] at eb
   cases eb
   exact ⟨(N _ (List.Mem.tail _ (List.Mem.head _))).1,lt _ (List.Mem.head _)⟩
  ·have mem:=Att.kF (h:=s.heap) (L:=X.env.locals) (d:=p) |>.mpr ⟨nb,hb,eb⟩
   exact ⟨(N _ (List.Mem.tail _ (List.Mem.tail _ mem))).1,lt _ (List.Mem.tail _ mem)⟩
 have g:MeetsIn X.prog X.w (Builtin.«list.sort» ⟨[.ref D],[]⟩) (fun _ R s=>s.heap.get? D=some (seqObj "list" vs.toArray 0)∧∀(out:Array Value) (ns':List Str),StrsAre out.toList ns'→ns'.Perm ns→sortedS ns'=true→R (.ok (.ret .none)) {s with heap:=sortedHeap s.heap D vs out}) :=
  fun A R s ⟨g1,g2⟩=>list_sort_treeK strKind_oneLt g1 hI.keysOf (fun v₁ v₂ rest e=>keyKind_strs (by rw [← e];exact hI)) (by omega) fun st' hp hs=>by
   obtain ⟨ss',h1,h2,h3⟩:=sorted_out_str hI hp hs
   exact g2 _ ss' h1 h2 h3
 refine call_meetsIn PySem.F.slot_list_sort ⟨_,hD,rfl⟩ PySem.F.entry_list_sort (PySem.F.args_list_sort_1 _) g ⟨hD,fun out ns' hI' hp hs=>?_⟩
 have hDL:D≠X.env.locals:=(N _ (List.Mem.head _)).2.1
 have hDn:H D=none:=by
  cases z:H D with
  | none=>rfl
  | some o =>
   obtain ⟨ob,eb⟩:=(I.hok D o z).there
   exact absurd (old D ob hDL eb).2 (Nat.lt_irrefl _)
 have new:∀ b o,b≠X.env.locals→s.heap.get? b=some o→(sortedHeap h' D vs out).get? b=some o:=fun b o nb eb=>by
  obtain ⟨h1,h2⟩:=old b o nb eb
  rw [sortedHeap_old (Nat.ne_of_lt h2) (Heap.lt_size h1)]
  exact h1
 obtain ⟨e',hD'⟩:=sortedHeap_at (out:=out) hD
 have hns:∀ m',s.heap.Ns X.env.locals m'→(sortedHeap h' D vs out).Ns X.env.locals m':=fun m' hm=>by
  have em:m'=m:=by
   obtain ⟨o1,es1,ep1,a1,b1,_,c1⟩:=hm
   obtain ⟨o2,es2,ep2,a2,b2,_,c2⟩:=hn
   rw [a1] at a2
   cases a2
   rw [b1] at b2
   cases b2
   funext y
   rw [← c1,← c2]
  subst em
  obtain ⟨o1,es1,ep1,a1,r1⟩:=F.ns
  exact ⟨o1,es1,ep1,by rw [sortedHeap_old hDL.symm (Heap.lt_size a1)];exact a1,r1⟩
 have nn:∀ {b:Addr} {o:HO},H b=some o→b≠D:=fun h z=>by subst z;rw [hDn] at h;cases h
 have nl:∀ {b:Addr} {o:HO},H b=some o→b≠X.env.locals:=fun h=>aL h I.free
 refine ⟨.ref D,upd H D (.lst (ns'.map V.str)),show Inv X pins σ _ {s with heap:=sortedHeap h' D vs out,gens:=s.gens,drawn:=s.drawn,toks:=tk} from I.step (g':=s.gens) (d':=s.drawn) (t':=tk) (ch:=[]) (fun _ z=>nomatch z) (fun b o nb _ _ eb _=>new b o nb eb) (fun b o nb _ _ eb _=>⟨o.slots,new b o nb eb⟩) (fun b o _ eb hb=>?_) (fun b o _ eb=>?_)
  (fun b xs hb=>by rw [aI (nn hb)];exact hb) (fun b o u hb=>by rw [aI (nn hb)];exact hb) (fun b ps hb=>⟨#[],by rw [aI (nn hb),hb];simp⟩) hns (fun b o hb=>?_) I.bare,rfl,q D ns' hDn hp hs⟩
 ·by_cases hbD:b=D
  ·subst hbD
   by_cases hbL:b=X.env.locals
   ·exact absurd hbL hDL
   ·exact absurd (old b o hbL eb).2 (Nat.lt_irrefl _)
  ·rw [aI hbD]
   exact hb
 ·by_cases hbL:b=X.env.locals
  ·subst hbL
   obtain ⟨o1,es1,ep1,a1,r1⟩:=hns m hn
   exact ⟨o1,a1⟩
  ·exact ⟨o,new b o hbL eb⟩
 ·by_cases hbD:b=D
  ·subst hbD
   rw [aA] at hb
   cases hb
   exact ⟨by rw [List.length_map,hp.length_eq];omega,out.toList,e',y4 hI',hD'⟩
  ·rw [aI hbD] at hb
   refine (I.hok b o hb).stay (fun c v hc ev=>?_) (fun c hc=>by rw [aI (nn hc)];exact hc) fun c xs hc=>by rw [aI (nn hc)];exact hc
   rcases hc with hc | hc
   ·subst hc
    exact new c v (nl hb) ev
   ·exact new c v (nl hc) ev
section
variable {H:Hp} {Q:VK} {p:Addr}
theorem e_sortX:cSortX [.ref p] H Q=cL (H p) fun kvs=>gN (hX kvs) fun ns=>ns.length < 64∧∀(l:Addr) (ns':List Str),H l=none→ns'.Perm ns→sortedS ns'=true→Q (.ref l) (upd H l (.lst (ns'.map V.str))):=rfl
end
end L2
namespace PySem
open AutoSeq1 (wpAny_loadPart')
open PyProof.Rows PySem.W
section
variable {prog:Program} {w:World} {A:Around} {E:Value→Shared→Prop} {s:Shared} {K:Type} [DecidableEq K] {knd:KeyKind prog w K} {r d:Addr} {kvs:List (K×Value)} {ep:Nat}
theorem kU {Q₁:Value→Shared→Prop} (hh:A.handled=none) (hv:s.heap.IsItemsView r d) (hm:s.heap.DictAt knd d kvs ep) (hn:kvs.length≤sizeLine)
    (hQ:∀(h':Heap) (tk:Nat) (as:List Addr),(∀ b o,s.heap.get? b=some o→h'.get? b=some o)→as.length=kvs.length→KdxG knd kvs s.heap.objs.size h' as→Q₁ (.ref h'.objs.size) {s with heap:=h'.push {cls:=.type "tuple",data:=.seq (as.map Value.ref).toArray},toks:=tk}) :
    codeAny (model prog w) A (.call (.builtin "tuple.__new__") ⟨[.type "tuple",.ref r],[]⟩) (wants Q₁ E) s:=by
  refine codeAny_of_tree ?_
  show wpAny _ A.in1 (do checkBuiltinCall "tuple.__new__" ⟨[.type "tuple",.ref r],[]⟩;again (.builtin "tuple.__new__" ⟨[.type "tuple",.ref r],[]⟩)) _ _ s
  refine wpAny_bind (wpAny_of_eq (F.newCall_tuple_1 _) (wpAny_pure ⟨plainId_quiet F.plain_tuple_new _,codeAny_builtin F.entry_tuple_new ?_⟩))
  rw [Around.under_plainId F.plain_tuple_new _]
  have hsub:=sub_tuple_self
  have hinit:=init_tuple_lookup
  have hmh:=madeHere_tuple
  have hTI:s.TypeIs (.ref r) "dict_items":=let ⟨o,ho,x,_⟩:=hv;⟨o,ho,x⟩
  wp_walk using wpAny_typeOf hTI,kdx_collect (A:=A.in1) (knd:=knd) (kvs:=kvs) (ep:=ep) hh hv hm hn
  intro h' tk as hk hl hG
  show wpAny _ _ (Builtin.Tuple.tupleExact (as.map Value.ref).toArray >>= fun v=>ret v) _ _ _
  unfold Builtin.Tuple.tupleExact
  refine wpAny_bind (wpAny_newObj_type ?_ (by show (as.map Value.ref).toArray.size≤sizeLine;simpa [hl] using hn))
  refine wpAny_pure ?_
  exact hQ h' tk as hk hl hG
theorem oT {Q:Value→Shared→Prop} (hh:A.handled=none) (hv:s.heap.IsItemsView r d) (hm:s.heap.DictAt knd d kvs ep) (hn:kvs.length≤sizeLine)
    (hQ:∀(h':Heap) (tk:Nat) (as:List Addr),(∀ b o,s.heap.get? b=some o→h'.get? b=some o)→as.length=kvs.length→KdxG knd kvs s.heap.objs.size h' as→Q (.ref h'.objs.size) {s with heap:=h'.push {cls:=.type "tuple",data:=.seq (as.map Value.ref).toArray},toks:=tk}) :
    wpAny (model prog w) A (call (.type "tuple") [.ref r]) Q E s:=by
  refine callType_codes (Q₁:=fun obj s₁=>s₁.TypeIs obj "tuple"∧Q obj s₁) F.called_tuple (F.typeCall_tuple_1 _) F.entry_object_init
    (kU (knd:=knd) (kvs:=kvs) (ep:=ep) hh hv hm hn fun h' tk as hk hl hG=>⟨⟨_,Heap.get?_push_size _ rfl,rfl⟩,hQ h' tk as hk hl hG⟩) fun obj s₁ h₁=>?_
  exact ⟨h₁.1,F.args_object_init_2 obj _,object_init_meets F.called_tuple.init.lookup F.called_tuple.made (by decide) prog w A.in1 _ s₁ ⟨h₁.1,rfl,h₁.2⟩⟩
end
end PySem
namespace L2
open PySem PySem.Spec PyProof.Rows
noncomputable def ItE (a d:Addr):HO:=.ext fun h=>h.IsItemsView a d
section
variable {X:Cx} {o:Expr} {td:TE} {apos cpos:Pos}
noncomputable def cItems (td:TE):TE:=fun σ H Q=>td σ H fun x H1=>bC x fun a=>cL (H1 a) fun _=>∀ r,H1 r=none→Q (.ref r) (upd H1 r (ItE r a))
theorem pe_items (ho:PE X o td) (hbase:attributeBase o "items" X.env (eval o X.env)=eval o X.env:=by rfl) (hline:(apos.endLine == cpos.line)=true:=by rfl):PE X (.Call (.Attribute o "items" apos) [] [] cpos) (cItems td):=fun pins s σ H Q I h=>by
 refine wpAny_Call_method0_late hbase hline (thn (ho pins s σ H _ I h) fun v s1 ⟨x,H1,I1,r1,q1⟩=>?_)
 obtain ⟨a,rfl,q2⟩:=aU q1
 obtain ⟨kvs,e0,q3⟩:=cN q2
 obtain rfl:v=Value.ref a:=r1
 obtain ⟨t1,t2,_⟩:=pC I1 (.inl ⟨kvs,.inl e0⟩)
 refine ⟨"dict","dict.items",PySem.F.plainAttrs_dict,PySem.F.slot_dict_items,PySem.F.type_dict_items,t1,t2,Calls.callWith_builtin rfl (PySem.evalArgs_none ?_)⟩
 obtain ⟨z,hd,vs,rel,dd⟩:=nV I1.hok e0
 refine call_meetsIn PySem.F.slot_dict_items dd.typeIs PySem.F.entry_dict_items (PySem.F.args_dict_items_1 _) (meets_dict_items (bS X.prog X.w) a hd) ⟨⟨vs,dd⟩,?_⟩
 have I2:=I1.laid (t':=s1.toks) (fun b o e=>Heap.get?_push_of_some _ e) (Nat.le_refl _) (show cZ X.prog X.w _ (s1.heap.push {cls:=.type "dict_items",data:=.fields #[.ref a]}) _ (ItE s1.heap.objs.size a) from ⟨⟨_,Heap.get?_push_size _ rfl,rfl,rfl⟩,⟨_,Heap.get?_push_size _ rfl⟩,fun h1 h2 ⟨o,ho,x⟩ k=>⟨o,k o ho,x⟩⟩)
 exact ⟨.ref _,_,I2,rfl,q3 _ (I1.hok.fresh (Nat.le_refl _))⟩
end
theorem KV.atR {kvs:List (Key×V)} {vs:List (Key×Value)} (r:KV kvs vs) {i:Nat} {k:Key} {x:V} (e:kvs[i]?=some (k,x)):∃ v,vs[i]?=some (k,v)∧bI x v:=by
 unfold KV at r
 induction r generalizing i with
 | nil=>simp at e
 | @cons p q ps qs h t ih=>cases i with
  | zero =>
   have e':p=(k,x):=by simpa using e
   subst e'
   exact ⟨q.2,by rw [List.getElem?_cons_zero,show k=q.1 from h.1],h.2⟩
  | succ i=>simpa using ih (i:=i) (by simpa using e)
theorem uT:∀ as:List Addr,Vals (as.map V.ref) (as.map Value.ref)
 | []=>.nil
 | a::as=>.cons rfl (uT as)
noncomputable def lB:List Addr→List (Key×V)→Hp→Hp
 | a::as,(k,x)::kvs,H=>upd (lB as kvs H) a (.tup [kV k,x])
 | _,_,H=>H
theorem mL {H:Hp} {b:Addr}:∀ {as:List Addr} {kvs:List (Key×V)},b∉as→lB as kvs H b=H b
 | [],_,_=>by simp [lB]
 | a::as,[],_=>by simp [lB]
 | a::as,(k,x)::kvs,h=>by
  simp only [List.mem_cons,not_or] at h
  rw [lB,aI h.1,mL h.2]
theorem r8 {H:Hp} {a:Addr} {k:Key} {x:V}:∀ {as:List Addr} {kvs:List (Key×V)} {j:Nat},as.Nodup→as[j]?=some a→kvs[j]?=some (k,x)→lB as kvs H a=some (.tup [kV k,x])
 | [],_,_,_,h,_=>by simp at h
 | b::as,[],_,_,_,h=>by simp at h
 | b::as,(k',x')::kvs,0,_,h1,h2=>by
  simp only [List.getElem?_cons_zero,Option.some.injEq,Prod.mk.injEq] at h1 h2
  obtain ⟨rfl,rfl⟩:=h2
  subst h1
  rw [lB,aA]
 | b::as,(k',x')::kvs,j+1,nd,h1,h2=>by
  rw [List.nodup_cons] at nd
  simp only [List.getElem?_cons_succ] at h1 h2
  have:a≠b:=fun z=>nd.1 (by rw [← z];exact List.mem_of_getElem? h1)
  rw [lB,aI this,r8 nd.2 h1 h2]
theorem addTs_in {H:Hp} {b:Addr} {o:HO} {as:List Addr} {kvs:List (Key×V)} (nd:as.Nodup) (hl:as.length=kvs.length) (hb:b∈as) (h:lB as kvs H b=some o):∃(j:Nat) (k:Key) (x:V),as[j]?=some b∧kvs[j]?=some (k,x)∧o=.tup [kV k,x]:=by
 obtain ⟨j,hj⟩:=List.mem_iff_getElem?.mp hb
 have hlt:j < kvs.length:=by have:=(List.getElem?_eq_some_iff.mp hj).1;omega
 obtain ⟨⟨k,x⟩,e⟩:∃ y,kvs[j]?=some y:=⟨_,List.getElem?_eq_getElem hlt⟩
 rw [r8 nd hj e] at h
 exact ⟨j,k,x,hj,e,(Option.some.inj h).symm⟩
noncomputable def cTupIt:List V→Hp→VK→Prop:=fun vs H Q=>on1 vs fun x=>bC x fun r=>∃(d:Addr) (kvs:List (Key×V)),H r=some (ItE r d)∧H d=some (.dK kvs)∧∀(l:Addr) (as:List Addr) (H':Hp),H l=none→Same H H'→H' l=some (.tup (as.map V.ref))→as.length=kvs.length→(∀(j:Nat) (a:Addr) (k:Key) (x:V),as[j]?=some a→kvs[j]?=some (k,x)→H' a=some (.tup [kV k,x]))→Q (.ref l) H'
theorem y7 {X:Cx} (hc:X.calm=true):dX X (.type "tuple") cTupIt:=fun pins s σ H xs us Q I rr h=>by
 obtain ⟨x,rfl,h1⟩:=iP h
 obtain ⟨r,rfl,d,kvs,er,ed,q⟩:=aU h1
 obtain ⟨u,rfl,ru⟩:=vals1 rr
 cases ru
 have hv:s.heap.IsItemsView r d:=(I.hok r _ er).1
 obtain ⟨z,hd,vs0,rel,dd⟩:=nV I.hok ed
 obtain ⟨ep,dat⟩:=dd.dictAt
 have l0:=rel.length
 refine oT (knd:=bS X.prog X.w) (kvs:=vs0) (ep:=ep) (I.ok.hd hc) hv dat (by omega) fun h' tk as hk hl hG=>?_
 have fresh:∀ {b:Addr},s.heap.objs.size≤b→H b=none:=fun hb=>I.hok.fresh hb
 have thereH:∀ b o,H b=some o→∃ ob,s.heap.get? b=some ob:=fun b o e=>(I.hok b o e).there
 have hl0:H h'.objs.size=none:=by
  cases e:H h'.objs.size with
  | none=>rfl
  | some o =>
   obtain ⟨ob,eb⟩:=thereH _ _ e
   exact absurd (Heap.lt_size (hk _ _ eb)) (Nat.lt_irrefl _)
 have nd:as.Nodup:=hG.rise.imp fun h=>Nat.ne_of_lt h
 have aH:∀ a∈as,H a=none:=fun a ha=>fresh (Nat.le_of_lt (hG.above a ha))
 have nl:h'.objs.size∉as:=fun z=>absurd (hG.there z) (Nat.lt_irrefl _)
 have hlk:as.length=kvs.length:=by omega
 have same:Same H (upd (lB as kvs H) h'.objs.size (.tup (as.map V.ref))):=fun b o e=>by
  have h1:b≠h'.objs.size:=fun z=>by rw [z,hl0] at e;cases e
  have h2:b∉as:=fun z=>by rw [aH b z] at e;cases e
  rw [aI h1,mL h2]
  exact e
 have pushK:∀ b o,s.heap.get? b=some o→(h'.push {cls:=.type "tuple",data:=.seq (as.map Value.ref).toArray}).get? b=some o:=fun b o e=>Heap.get?_push_of_some _ (hk b o e)
 refine ⟨.ref h'.objs.size,upd (lB as kvs H) h'.objs.size (.tup (as.map V.ref)),show Inv X pins σ _ {s with heap:=h'.push {cls:=.type "tuple",data:=.seq (as.map Value.ref).toArray},gens:=s.gens,drawn:=s.drawn,toks:=tk} from I.step (g':=s.gens) (d':=s.drawn) (t':=tk) (ch:=[]) (fun _ z=>nomatch z) (fun b o nb _ _ eb _=>pushK b o eb) (fun b o nb _ _ eb _=>⟨o.slots,pushK b o eb⟩) (fun b o _ eb hb=>?_) (fun b o _ eb=>⟨o,pushK b o eb⟩)
  (fun b xs hb=>same b _ hb) (fun b o u hb=>same b _ hb) (fun b ps hb=>⟨#[],by rw [same b _ hb];simp⟩) (fun m hm=>?_) (fun b o hb=>?_) I.bare,rfl,q _ as _ hl0 same aA hlk fun j a k x e1 e2=>?_⟩
 ·have h1:b≠h'.objs.size:=Nat.ne_of_lt (Heap.lt_size (hk b o eb))
  have h2:b∉as:=fun z=>absurd (Nat.lt_trans (hG.above b z) (Heap.lt_size eb)) (Nat.lt_irrefl _)
  rw [aI h1,mL h2]
  exact hb
 ·obtain ⟨o1,es1,ep1,a1,r1⟩:=hm
  exact ⟨o1,es1,ep1,pushK _ _ a1,r1⟩
 ·by_cases h1:b=h'.objs.size
  ·subst h1
   rw [aA] at hb
   cases hb
   exact ⟨by rw [List.length_map];omega,as.map Value.ref,uT as,IsTup.new _ _⟩
  ·rw [aI h1] at hb
   by_cases h2:b∈as
   ·obtain ⟨j,k,x,e1,e2,rfl⟩:=addTs_in nd hlk h2 hb
    obtain ⟨key,k',x',e3,e4,e5⟩:=hG.pairs j b e1
    obtain ⟨v,e6,e7⟩:=KV.atR rel e2
    rw [e3] at e6
    cases e6
    exact ⟨by show 2≤sizeLine;rw [sizeLine_eq];decide,[key,x'],.cons (nW e4) (.cons e7 .nil),⟨_,Heap.get?_push_of_some _ e5,rfl,_,rfl⟩⟩
   ·rw [mL h2] at hb
    exact (I.hok b o hb).stay (fun c v _ ev=>pushK c v ev) (fun c hc=>same _ _ hc) fun c xs hc=>same _ _ hc
 ·have:a≠h'.objs.size:=fun z=>nl (by rw [← z];exact List.mem_of_getElem? e1)
  rw [aI this,r8 nd e1 e2]
section
variable {H:Hp} {Q:VK} {p:Addr} {td:TE} {σ:St}
theorem e_items:cItems td σ H Q=td σ H fun x H1=>bC x fun a=>cL (H1 a) fun _=>∀ r,H1 r=none→Q (.ref r) (upd H1 r (ItE r a)):=rfl
theorem e_tupIt:cTupIt [.ref p] H Q = ∃(d:Addr) (kvs:List (Key×V)),H p=some (ItE p d)∧H d=some (.dK kvs)∧∀(l:Addr) (as:List Addr) (H':Hp),H l=none→Same H H'→H' l=some (.tup (as.map V.ref))→as.length=kvs.length→(∀(j:Nat) (a:Addr) (k:Key) (x:V),as[j]?=some a→kvs[j]?=some (k,x)→H' a=some (.tup [kV k,x]))→Q (.ref l) H':=rfl
end
end L2
namespace L2
open PySem PySem.Spec PyProof.Rows
noncomputable def leS (a b:Str):Prop:=a.cps.toList≤b.cps.toList
theorem uI {a b c:Str} (h:leS a b) (g:leS b c):leS a c:=List.le_trans h g
theorem leS_anti {a b:Str} (h:leS a b) (g:leS b a):a=b:=by
 have e:=List.le_antisymm h g
 obtain ⟨⟨x⟩⟩:=a
 obtain ⟨⟨y⟩⟩:=b
 simp only at e
 rw [e]
theorem abH (a b:Str):leS a b∨leS b a:=List.le_total a.cps.toList b.cps.toList
theorem sQ:∀ {l:List Str} {p:Str},risingS p l=true→(p::l).Pairwise leS
 | [],p,_=>by simp
 | x::r,p,h=>by
  rw [risingS,Bool.and_eq_true,Bool.not_eq_true',ltCps_eq,decide_eq_false_iff_not,List.not_lt] at h
  have ih:=sQ h.2
  rw [List.pairwise_cons]
  refine ⟨fun y hy=>?_,ih⟩
  rcases List.mem_cons.mp hy with rfl | hy
  ·exact h.1
  ·exact uI h.1 ((List.pairwise_cons.mp ih).1 y hy)
theorem zG {l:List Str} (h:sortedS l=true):l.Pairwise leS:=by
 cases l with
 | nil=>exact .nil
 | cons x r=>exact sQ h
theorem aaQ:∀ {a b:List Str},a.Perm b→a.Pairwise leS→b.Pairwise leS→a=b
 | [],b,p,_,_=>by rw [List.nil_perm.mp p]
 | x::a,[],p,_,_=>by have:=p.length_eq;simp at this
 | x::a,y::b,p,ha,hb=>by
  rw [List.pairwise_cons] at ha hb
  have e:x=y:=by
   have h1:x∈y::b:=p.mem_iff.mp (by simp)
   have h2:y∈x::a:=p.mem_iff.mpr (by simp)
   rcases List.mem_cons.mp h1 with h1 | h1
   ·exact h1
   rcases List.mem_cons.mp h2 with h2 | h2
   ·exact h2.symm
   exact leS_anti (ha.1 y h2) (hb.1 x h1)
  subst e
  rw [aaQ p.cons_inv ha.2 hb.2]
noncomputable def leB (a b:Str):Bool:=!(ltCps b.cps.toList a.cps.toList)
theorem mJ {a b:Str}:leB a b=true↔leS a b:=by
 rw [leB,Bool.not_eq_true',ltCps_eq,decide_eq_false_iff_not,List.not_lt]
 exact Iff.rfl
noncomputable def srt (l:List Str):List Str:=l.mergeSort leB
theorem srt_of {l ns:List Str} (p:ns.Perm l) (h:sortedS ns=true):ns=srt l:=by
 refine aaQ (p.trans (List.mergeSort_perm l leB).symm) (zG h) ?_
 have:=List.pairwise_mergeSort (le:=leB) (fun a b c h g=>mJ.mpr (uI (mJ.mp h) (mJ.mp g))) (fun a b=>by
  rcases abH a b with h | h
  ·rw [mJ.mpr h];simp
  ·rw [mJ.mpr h];simp) l
 exact this.imp fun h=>mJ.mp h
end L2
namespace L2
open PySem PySem.Spec PyProof.Rows
theorem aaS:∀(f n r:Nat),r≤1→minRun' f n r≤n+r
 | 0,n,r,_=>Nat.le_of_eq rfl
 | f+1,n,r,hr=>by
  rw [minRun'_succ]
  split
  ·omega
  ·have:=aaS f (n / 2) (max r (n % 2)) (by omega)
   omega
section
variable {prog:Program} {w:World} {A:Around} {E:Value→Shared→Prop} {s:Shared} {b0:Array Keyed}
theorem run_up {st:SortSt} {C:Option Nat→SortSt→Prop} (ik:IntKeys b0) (sb:SBase b0 st) (one:1≤b0.size) (up:∀ n,1≤n→n < b0.size→K (arrOf st) (n - 1)≤K (arrOf st) n)
    (q:SortedTo (arrOf st) b0.size→C (some b0.size) st):wpS (model prog w) A E s (countRun' 0 b0.size) C st:=by
  rw [countRun0_eq]
  refine wpS_bind (wpS_ascLoop ik (Nat.le_refl _) (Nat.le_refl 1) one sb (fun i j a b=>?_) fun n n1 n2 so oz=>?_)
  · obtain rfl:i=j:=by omega
    exact Int.le_refl _
  · have en:n=b0.size:=by
      rcases oz with z | z
      · exact z
      · rcases Nat.lt_or_ge n b0.size with y | y
        · have:=up n n1 y
          omega
        · omega
    dsimp only
    rw [en] at so ⊢
    rw [if_pos (by simp)]
    exact wpS_pure (q so)
theorem sort_up {st:SortSt} {C:Unit→SortSt→Prop} (ik:IntKeys b0) (sb:SBase b0 st) (two:2≤b0.size) (up:∀ n,1≤n→n < b0.size→K (arrOf st) (n - 1)≤K (arrOf st) n)
    (q:∀ st',(arrOf st').Perm b0→failedOf st'=none→SortedTo (arrOf st') b0.size→C () st'):wpS (model prog w) A E s sortRuns' C st:=by
  rw [sortRuns'_eq]
  refine wpS_bind (wpS_get ?_)
  dsimp only
  have mr:=aaS b0.size b0.size 0 (by omega)
  simp only [sb.size]
  obtain ⟨P1,hP1⟩:∃ P1:SortSt→Prop,∀ z,P1 z=(arrOf z=arrOf st∧failedOf z=none∧pendingOf z = #[(0,b0.size,0)]∧SortedTo (arrOf z) b0.size):=⟨_,fun _=>rfl⟩
  refine wpS_bind (wpS_mono (wpS_forRange (I:=fun x c z=>(x=0∧c=(none,0)∧z=st)∨(1≤x∧c=(none,b0.size)∧P1 z)) (Q:=fun c z=>c=(none,b0.size)∧P1 z) ?stp ?end0 (.inl ⟨rfl,rfl,rfl⟩)) ?aft)
  case end0 =>
    rintro c z (⟨a,_,_⟩ | ⟨_,a,b⟩)
    · omega
    · exact ⟨a,b⟩
  case stp =>
    rintro x c z _ _ (⟨rfl,rfl,rfl⟩ | ⟨_,rfl,b⟩)
    · dsimp only
      rw [if_neg (by omega)]
      simp only [Nat.sub_zero,Nat.zero_add]
      refine wpS_bind (run_up ik sb (by omega) up fun so=>?_)
      dsimp only
      rw [if_neg (by omega)]
      refine wpS_bind (wpS_get ?_)
      rw [show (pendingOf z).back?=none by rw [sb.pend];rfl]
      dsimp only
      refine wpS_bind (wpS_modify (wpS_pure (.inr ⟨Nat.le_refl _,rfl,?_⟩)))
      rw [hP1]
      exact ⟨rfl,sb.failed,by show (pendingOf z).push _=_;rw [sb.pend];rfl,so⟩
    · dsimp only
      rw [if_pos (Nat.le_refl _)]
      exact wpS_pure ⟨rfl,b⟩
  case aft =>
    rintro c z ⟨rfl,b⟩
    rw [hP1] at b
    dsimp only
    refine wpS_bind (wpS_mono (wpS_forRange (I:=fun _ c y=>y=z∧c=(none,())) (Q:=fun c y=>y=z∧c=(none,())) ?_ (fun _ _ e=>e) ⟨rfl,rfl⟩) ?_)
    · rintro x c y _ _ ⟨rfl,rfl⟩
      refine wpS_bind (wpS_get ?_)
      rw [if_pos (by rw [b.2.2.1];exact Nat.le_refl 1)]
      exact wpS_pure ⟨rfl,rfl⟩
    · rintro c y ⟨rfl,rfl⟩
      exact wpS_pure (q _ (b.1 ▸ sb.perm) b.2.1 b.2.2.2)
theorem ints_nth {vs:List Value} {ns:List Int} (hI:IntsAre vs ns):∀ {i:Nat} {n:Int},ns[i]?=some n→∃ t,vs[i]?=some (.int n t):=by
 induction hI with
 | nil=>intro i n h;simp at h
 | cons m t _ ih =>
  intro i n h
  cases i with
  | zero =>
   simp only [List.getElem?_cons_zero,Option.some.injEq] at h
   subst h
   exact ⟨t,rfl⟩
  | succ i=>exact ih (by simpa using h)
theorem K_nth {vs:List Value} {ns:List Int} (hI:IntsAre vs ns) {i:Nat} {n:Int} (h:ns[i]?=some n):K (pairsOf vs) i=n:=by
 obtain ⟨t,e⟩:=ints_nth hI h
 have z:(pairsOf vs)[i]?=some (.int n t,.int n t):=by
  rw [← Array.getElem?_toList,pairsOf_toList,List.getElem?_zip_eq_some]
  exact ⟨e,e⟩
 unfold K
 rw [z]
 rfl
theorem uZ {a:Addr} {vs:List Value} {ns:List Int} {n:Nat} {C:Fin→Shared→Prop} (ho:s.heap.get? a=some (seqObj "list" vs.toArray n)) (hI:IntsAre vs ns) (hr:ns.Pairwise (·≤·)) (hz:vs.length≤sizeLine)
    (q:∀(out:Array Value) (ns':List Int),IntsAre out.toList ns'→ns'.Perm ns→ns'.Pairwise (·≤·)→C (.done (.ret .none)) {s with heap:=sortedHeap s.heap a vs out}) :
    wpAny (model prog w) A (Builtin.«list.sort» ⟨[.ref a],[]⟩) C E s:=by
  by_cases few:vs.length < 64
  · exact list_sort_tree ho hI few q
  have lI:vs.length=ns.length:=hI.length
  have la:a < s.heap.objs.size:=Heap.lt_size ho
  rw [list_sort_plain]
  refine wpAny_bind (listItems_at ho rfl (wpAny_bind (listUpdate_at ho rfl ?_)))
  obtain ⟨e1,o1⟩:∃ e1,(s.heap.update a (Obj.mapSeq fun _=>#[])).get? a=some (seqObj "list" #[] e1):=⟨_,get?_update_seq ho (fun _=>#[])⟩
  refine wpAny_bind (seqEpoch_at o1 rfl (wpAny_bind (wpAny_newTuple (wpAny_bind (wpAny_newList (wpAny_holding ?_))))))
  have o6:(((s.heap.update a (Obj.mapSeq fun _=>#[])).push (seqObj "tuple" vs.toArray 0)).push (seqObj "list" #[] 0)).get? a=some (seqObj "list" #[] e1):=Heap.get?_push_of_some _ (Heap.get?_push_of_some _ o1)
  show wpAny (model prog w) A _ C E {s with heap:=((s.heap.update a (Obj.mapSeq fun _=>#[])).push (seqObj "tuple" vs.toArray 0)).push (seqObj "list" #[] 0)}
  dsimp only
  have hne:¬ vs.toArray.size < 2:=by rw [List.size_toArray];omega
  rw [if_neg hne,if_neg hne]
  obtain ⟨u,v,rest,rfl⟩:∃ u v rest,vs=u::v::rest:=by
    match vs,few with
    | [],z=>exact absurd (by simp) z
    | [_],z=>exact absurd (by simp) z
    | u::v::rest,_=>exact ⟨u,v,rest,rfl⟩
  rw [keyKind_ints hI]
  refine wpAny_bind (wpAny_pure (wpAny_bind (wpAny_mono (sort_up (b0:=pairsOf (u::v::rest)) (st:=SortSt.mk' oneType' ((u::v::rest).toArray.zip (u::v::rest).toArray) #[] 7 none)
    (C:=fun _ z=>(arrOf z).Perm (pairsOf (u::v::rest))∧failedOf z=none∧SortedTo (arrOf z) (pairsOf (u::v::rest)).size)
    hI.intKeys ⟨Array.Perm.refl _,rfl,rfl,rfl⟩ (by rw [pairsOf_size];simp) (fun i i1 i2=>?_) fun z x y c=>⟨x,y,c⟩) ?_ fun _ _ e=>e)))
  · rw [pairsOf_size] at i2
    have l1:i - 1 < ns.length:=by omega
    have l2:i < ns.length:=by omega
    show K (pairsOf (u::v::rest)) (i - 1)≤K (pairsOf (u::v::rest)) i
    rw [K_nth hI (List.getElem?_eq_getElem l1),K_nth hI (List.getElem?_eq_getElem l2)]
    exact List.pairwise_iff_getElem.mp hr (i - 1) i l1 l2 (by omega)
  rintro ⟨⟨⟩,z⟩ s' ⟨rfl,hp,hf,hs⟩
  dsimp only
  refine wpAny_bind (seqEpoch_at o6 rfl (wpAny_bind (listUpdate_at o6 rfl ?_ (hsz2:=by refine Nat.le_trans (Nat.le_of_eq ((Array.size_map ..).trans (hp.size_eq.trans (pairsOf_size _)))) ?_;omega))))
  rw [hf]
  simp only [bne_self_eq_false,Bool.false_eq_true,if_false]
  obtain ⟨ns',h1,h2,h3⟩:=sorted_out hI hp hs
  exact wpAny_pure (q _ ns' h1 h2 h3)
end
noncomputable def cSortU:List V→Hp→VK→Prop:=fun vs H Q=>on1 vs fun x=>bC x fun p=>cL (H p) fun kvs=>gN (intKeys kvs) fun ns=>ns.Pairwise (· < ·)∧∀(l:Addr) (ns':List Int),H l=none→ns'.Perm ns→ns'.Pairwise (·≤·)→Q (.ref l) (upd H l (.lst (ns'.map V.int)))
theorem y1 {X:Cx} (hc:X.calm=true):dX X (.builtin "sorted") cSortU:=fun pins s σ H xs us Q I r h=>by
 obtain ⟨x,rfl,h1⟩:=iP h
 obtain ⟨p,rfl,h2⟩:=aU h1
 obtain ⟨kvs,e,h3⟩:=cN h2
 obtain ⟨ns,ek,hasc,q⟩:=cO h3
 obtain ⟨u,rfl,ru⟩:=vals1 r
 cases ru
 obtain ⟨hl,hk⟩:=rT ek
 obtain ⟨z,hd,vs0,rel,dd⟩:=nV I.hok e
 obtain ⟨ep,dat⟩:=dd.dictAt
 obtain ⟨od,es,ho,_⟩:=id dat
 obtain ⟨m,hn,_⟩:=I.loc
 have hne:p≠X.env.locals:=aL e I.free
 have l0:=rel.length
 refine PySem.W.kdu_sorted (PySem.W.kdl_dict (knd:=bS X.prog X.w) (kvs:=vs0) (ep:=ep) hd) (I.ok.hd hc) (Att.zH hn) (Att.lQ hne ho) dat (by omega) fun D h' tk vs F N lt hlen hP=>?_
 have hI:IntsAre vs ns:=aaT (by omega) fun j v ev=>by
  obtain ⟨k,x,e1,e2⟩:=hP j v ev
  have hj:j < kvs.length:=by
   have:=(List.getElem?_eq_some_iff.mp e1).1
   omega
  obtain ⟨⟨k',x'⟩,ekv⟩:∃ y,kvs[j]?=some y:=⟨_,List.getElem?_eq_getElem hj⟩
  obtain ⟨v',e3⟩:=KV.at rel ekv
  rw [e1] at e3
  cases e3
  obtain ⟨i,rfl,ei⟩:=hk j _ _ ekv
  obtain ⟨t,et⟩:=(show ∃ t,v=Value.int i t from nW e2)
  exact ⟨i,t,ei,et⟩
 have hD:h'.get? D=some (seqObj "list" vs.toArray 0):=(N _ (List.Mem.head _)).1
 have old:∀ b o,b≠X.env.locals→s.heap.get? b=some o→h'.get? b=some o∧b < D:=fun b o nb eb=>by
  by_cases hb:b=p
  ·subst hb
   rw [ho] at eb
   cases eb
   exact ⟨(N _ (List.Mem.tail _ (List.Mem.head _))).1,lt _ (List.Mem.head _)⟩
  ·have mem:=Att.kF (h:=s.heap) (L:=X.env.locals) (d:=p) |>.mpr ⟨nb,hb,eb⟩
   exact ⟨(N _ (List.Mem.tail _ (List.Mem.tail _ mem))).1,lt _ (List.Mem.tail _ mem)⟩
 have g:MeetsIn X.prog X.w (Builtin.«list.sort» ⟨[.ref D],[]⟩) (fun _ R s=>s.heap.get? D=some (seqObj "list" vs.toArray 0)∧∀(out:Array Value) (ns':List Int),IntsAre out.toList ns'→ns'.Perm ns→ns'.Pairwise (·≤·)→R (.ok (.ret .none)) {s with heap:=sortedHeap s.heap D vs out}) :=
  fun A R s ⟨g1,g2⟩=>uZ g1 hI (hasc.imp fun h=>Int.le_of_lt h) (by omega) fun out ns' a b c=>g2 out ns' a b c
 refine call_meetsIn PySem.F.slot_list_sort ⟨_,hD,rfl⟩ PySem.F.entry_list_sort (PySem.F.args_list_sort_1 _) g ⟨hD,fun out ns' hI' hp hs=>?_⟩
 have hDL:D≠X.env.locals:=(N _ (List.Mem.head _)).2.1
 have hDn:H D=none:=by
  cases z:H D with
  | none=>rfl
  | some o =>
   obtain ⟨ob,eb⟩:=(I.hok D o z).there
   exact absurd (old D ob hDL eb).2 (Nat.lt_irrefl _)
 have new:∀ b o,b≠X.env.locals→s.heap.get? b=some o→(sortedHeap h' D vs out).get? b=some o:=fun b o nb eb=>by
  obtain ⟨h1,h2⟩:=old b o nb eb
  rw [sortedHeap_old (Nat.ne_of_lt h2) (Heap.lt_size h1)]
  exact h1
 obtain ⟨e',hD'⟩:=sortedHeap_at (out:=out) hD
 have hns:∀ m',s.heap.Ns X.env.locals m'→(sortedHeap h' D vs out).Ns X.env.locals m':=fun m' hm=>by
  have em:m'=m:=by
   obtain ⟨o1,es1,ep1,a1,b1,_,c1⟩:=hm
   obtain ⟨o2,es2,ep2,a2,b2,_,c2⟩:=hn
   rw [a1] at a2
   cases a2
   rw [b1] at b2
   cases b2
   funext y
   rw [← c1,← c2]
  subst em
  obtain ⟨o1,es1,ep1,a1,r1⟩:=F.ns
  exact ⟨o1,es1,ep1,by rw [sortedHeap_old hDL.symm (Heap.lt_size a1)];exact a1,r1⟩
 have nn:∀ {b:Addr} {o:HO},H b=some o→b≠D:=fun h z=>by subst z;rw [hDn] at h;cases h
 have nl:∀ {b:Addr} {o:HO},H b=some o→b≠X.env.locals:=fun h=>aL h I.free
 refine ⟨.ref D,upd H D (.lst (ns'.map V.int)),show Inv X pins σ _ {s with heap:=sortedHeap h' D vs out,gens:=s.gens,drawn:=s.drawn,toks:=tk} from I.step (g':=s.gens) (d':=s.drawn) (t':=tk) (ch:=[]) (fun _ z=>nomatch z) (fun b o nb _ _ eb _=>new b o nb eb) (fun b o nb _ _ eb _=>⟨o.slots,new b o nb eb⟩) (fun b o _ eb hb=>?_) (fun b o _ eb=>?_)
  (fun b xs hb=>by rw [aI (nn hb)];exact hb) (fun b o u hb=>by rw [aI (nn hb)];exact hb) (fun b ps hb=>⟨#[],by rw [aI (nn hb),hb];simp⟩) hns (fun b o hb=>?_) I.bare,rfl,q D ns' hDn hp hs⟩
 ·by_cases hbD:b=D
  ·subst hbD
   by_cases hbL:b=X.env.locals
   ·exact absurd hbL hDL
   ·exact absurd (old b o hbL eb).2 (Nat.lt_irrefl _)
  ·rw [aI hbD]
   exact hb
 ·by_cases hbL:b=X.env.locals
  ·subst hbL
   obtain ⟨o1,es1,ep1,a1,r1⟩:=hns m hn
   exact ⟨o1,a1⟩
  ·exact ⟨o,new b o hbL eb⟩
 ·by_cases hbD:b=D
  ·subst hbD
   rw [aA] at hb
   cases hb
   exact ⟨by rw [List.length_map,hp.length_eq];omega,out.toList,e',lV hI',hD'⟩
  ·rw [aI hbD] at hb
   refine (I.hok b o hb).stay (fun c v hc ev=>?_) (fun c hc=>by rw [aI (nn hc)];exact hc) fun c xs hc=>by rw [aI (nn hc)];exact hc
   rcases hc with hc | hc
   ·subst hc
    exact new c v (nl hb) ev
   ·exact new c v (nl hc) ev
section
variable {H:Hp} {Q:VK} {p:Addr}
theorem e_sortU:cSortU [.ref p] H Q=cL (H p) fun kvs=>gN (intKeys kvs) fun ns=>ns.Pairwise (· < ·)∧∀(l:Addr) (ns':List Int),H l=none→ns'.Perm ns→ns'.Pairwise (·≤·)→Q (.ref l) (upd H l (.lst (ns'.map V.int))):=rfl
end
end L2
namespace Own
open PySem L2
seal PE PA PT PW PS PSs PI PG PGs PTs PO PPs
noncomputable def top (i:Nat):Stmt:=PySem.Challenge.pw_outlast_k26_run_again.main.body.getD i (.Pass ⟨0,0,0,0⟩)
noncomputable abbrev oV:Stmt:=top 4
noncomputable abbrev iF:Stmt:=top 6
noncomputable abbrev jZ:Stmt:=top 7
noncomputable abbrev fY:Stmt:=top 8
noncomputable abbrev dZ:Stmt:=top 9
noncomputable abbrev d6:Stmt:=bO (top 11) 0
noncomputable abbrev d7:Stmt:=bO (top 11) 1
noncomputable abbrev cU:Stmt:=bO (top 11) 2
noncomputable abbrev cF:Stmt:=bO (top 11) 3
noncomputable abbrev cT:Stmt:=bO (top 11) 4
noncomputable abbrev d4:Stmt:=bO (top 11) 5
noncomputable abbrev cR:Stmt:=bO (top 11) 6
noncomputable abbrev cH:Stmt:=bO (top 11) 7
noncomputable abbrev gD:Stmt:=bO (top 13) 0
noncomputable abbrev eN:Stmt:=bO (top 13) 1
noncomputable abbrev dF:Stmt:=bO (top 13) 2
noncomputable abbrev eR:Stmt:=bO (top 13) 3
noncomputable abbrev fJ:Stmt:=bO (top 13) 4
noncomputable abbrev fK:Stmt:=bO (top 13) 5
noncomputable abbrev fM:Stmt:=bO (top 13) 6
noncomputable abbrev mH:Stmt:=top 16
noncomputable abbrev iE:Stmt:=top 17
noncomputable abbrev iB:Stmt:=top 18
noncomputable abbrev jU:Stmt:=top 19
noncomputable abbrev jS:Stmt:=top 20
noncomputable abbrev j0:Stmt:=top 21
noncomputable abbrev jP:Stmt:=top 22
noncomputable abbrev mC:Stmt:=top 23
noncomputable abbrev iH:Stmt:=bO (top 25) 0
noncomputable abbrev fV:Stmt:=bO (top 25) 1
noncomputable abbrev cS:Stmt:=bO (top 25) 2
noncomputable abbrev fX:Stmt:=bO (top 25) 3
noncomputable abbrev iA:Stmt:=bO (top 25) 4
noncomputable abbrev cV:Stmt:=bO (top 25) 5
noncomputable abbrev d5:Stmt:=bO (top 25) 6
noncomputable abbrev cX:Stmt:=bO (top 25) 7
noncomputable abbrev iI:Stmt:=bO (top 25) 8
noncomputable abbrev iG:Stmt:=bO (top 25) 9
noncomputable abbrev fW:Stmt:=bO (top 25) 10
noncomputable abbrev iC:Stmt:=bO (top 25) 11
noncomputable abbrev jN:Stmt:=bO (top 25) 12
noncomputable abbrev eT:Stmt:=bO (top 25) 13
noncomputable abbrev gE:Stmt:=bO (top 25) 14
noncomputable abbrev dL:Stmt:=bO (top 25) 15
noncomputable abbrev fZ:Stmt:=top 27
noncomputable abbrev fL:Stmt:=top 29
noncomputable abbrev jV:Stmt:=top 30
noncomputable abbrev iD:Stmt:=top 31
noncomputable abbrev gC:Stmt:=top 32
noncomputable abbrev fH:Stmt:=top 33
noncomputable abbrev dM:Stmt:=top 34
noncomputable abbrev fO:Stmt:=top 35
noncomputable abbrev eK:Stmt:=top 36
noncomputable abbrev dI:Stmt:=top 37
noncomputable abbrev gF:Stmt:=top 38
noncomputable abbrev eQ:Stmt:=top 39
noncomputable abbrev fN:Stmt:=top 40
noncomputable abbrev gG:Stmt:=top 41
noncomputable abbrev nP:Stmt:=top 42
set_option genInjectivity false in
set_option genSizeOf false in
structure Ad where
 akept:Addr
 dkept:FuncData
 aworthof:Addr
 dworthof:FuncData
 ajoined:Addr
 djoined:FuncData
 anumberof:Addr
 dnumberof:FuncData
 aoneornought:Addr
 doneornought:FuncData
 aTicketsinit:Addr
 dTicketsinit:FuncData
 aTicketsmake:Addr
 dTicketsmake:FuncData
 aTicketsisopen:Addr
 dTicketsisopen:FuncData
 aTicketsthoseopen:Addr
 dTicketsthoseopen:FuncData
 aTicketsfinish:Addr
 dTicketsfinish:FuncData
 aTicketsshut:Addr
 dTicketsshut:FuncData
 aTicketsshutall:Addr
 dTicketsshutall:FuncData
 aTicketsfirstdone:Addr
 dTicketsfirstdone:FuncData
 aWalkinit:Addr
 dWalkinit:FuncData
 aWalkcometo:Addr
 dWalkcometo:FuncData
 aWalkstandsat:Addr
 dWalkstandsat:FuncData
 aWalkpassby:Addr
 dWalkpassby:FuncData
 aWalkenter:Addr
 dWalkenter:FuncData
 aWalkleave:Addr
 dWalkleave:FuncData
 aWalkplace:Addr
 dWalkplace:FuncData
 adoset:Addr
 ddoset:FuncData
 adoorder:Addr
 ddoorder:FuncData
 adotimer:Addr
 ddotimer:FuncData
 adosend:Addr
 ddosend:FuncData
 adodrop:Addr
 ddodrop:FuncData
 adowait:Addr
 ddowait:FuncData
 adohear:Addr
 ddohear:FuncData
 adoend:Addr
 ddoend:FuncData
 aRuninit:Addr
 dRuninit:FuncData
 aRunwaits:Addr
 dRunwaits:FuncData
 aRunopentickets:Addr
 dRunopentickets:FuncData
 aRunstate:Addr
 dRunstate:FuncData
 aRuntake:Addr
 dRuntake:FuncData
 aRunpassesover:Addr
 dRunpassesover:FuncData
 aRuntakedone:Addr
 dRuntakedone:FuncData
 aRuntakeletter:Addr
 dRuntakeletter:FuncData
 aRunwake:Addr
 dRunwake:FuncData
 aRungoon:Addr
 dRungoon:FuncData
 aRundoone:Addr
 dRundoone:FuncData
 aRunlook:Addr
 dRunlook:FuncData
 aRunend:Addr
 dRunend:FuncData
 aRunwearout:Addr
 dRunwearout:FuncData
 aRunworth:Addr
 dRunworth:FuncData
 aRunnewticket:Addr
 dRunnewticket:FuncData
 arunagain:Addr
 drunagain:FuncData
 alawcellat:Addr
 dlawcellat:FuncData
 alawjar:Addr
 dlawjar:FuncData
 alawtake:Addr
 dlawtake:FuncData
 alawworth:Addr
 dlawworth:FuncData
 alawmoment:Addr
 dlawmoment:FuncData
 alawhappening:Addr
 dlawhappening:FuncData
 alawsaying:Addr
 dlawsaying:FuncData
 alawwaiting:Addr
 dlawwaiting:FuncData
 alawstatement:Addr
 dlawstatement:FuncData
 alawblock:Addr
 dlawblock:FuncData
 alawprogram:Addr
 dlawprogram:FuncData
 alawstands:Addr
 dlawstands:FuncData
 alawtaken:Addr
 dlawtaken:FuncData
 alaw:Addr
 dlaw:FuncData
 kGREATESTWORTH:Tok
 kGREATESTMOMENT:Tok
 kMOSTATONCE:Tok
 kDEEDS:Addr
 CTickets:Addr
 CWalk:Addr
 CRun:Addr
structure Tx (w:World) (K:PySem.W.Frag) (mg:Str→Option Value) (t:Ad):Prop where
 fkept:Fun K "kept" "kept" oV t.akept t.dkept
 bkept:Binds K t.dkept ["number"] []
 mkept:mg "kept"=some (.ref t.akept)
 fworthof:Fun K "worth_of" "worth_of" iF t.aworthof t.dworthof
 bworthof:Binds K t.dworthof ["saying","names","arg","now","answers"] []
 mworthof:mg "worth_of"=some (.ref t.aworthof)
 fjoined:Fun K "joined" "joined" jZ t.ajoined t.djoined
 bjoined:Binds K t.djoined ["sign","one","other"] []
 mjoined:mg "joined"=some (.ref t.ajoined)
 fnumberof:Fun K "number_of" "number_of" fY t.anumberof t.dnumberof
 bnumberof:Binds K t.dnumberof ["worth"] []
 mnumberof:mg "number_of"=some (.ref t.anumberof)
 foneornought:Fun K "one_or_nought" "one_or_nought" dZ t.aoneornought t.doneornought
 boneornought:Binds K t.doneornought ["truth"] []
 moneornought:mg "one_or_nought"=some (.ref t.aoneornought)
 fTicketsinit:Fun K "__init__" "Tickets.__init__" d6 t.aTicketsinit t.dTicketsinit
 bTicketsinit:Binds K t.dTicketsinit ["self"] []
 meTicketsinit:Meth K t.CTickets "__init__" t.aTicketsinit
 fTicketsmake:Fun K "make" "Tickets.make" d7 t.aTicketsmake t.dTicketsmake
 bTicketsmake:Binds K t.dTicketsmake ["self"] []
 meTicketsmake:Meth K t.CTickets "make" t.aTicketsmake
 fTicketsisopen:Fun K "is_open" "Tickets.is_open" cU t.aTicketsisopen t.dTicketsisopen
 bTicketsisopen:Binds K t.dTicketsisopen ["self","ticket"] []
 meTicketsisopen:Meth K t.CTickets "is_open" t.aTicketsisopen
 fTicketsthoseopen:Fun K "those_open" "Tickets.those_open" cF t.aTicketsthoseopen t.dTicketsthoseopen
 bTicketsthoseopen:Binds K t.dTicketsthoseopen ["self"] []
 meTicketsthoseopen:Meth K t.CTickets "those_open" t.aTicketsthoseopen
 fTicketsfinish:Fun K "finish" "Tickets.finish" cT t.aTicketsfinish t.dTicketsfinish
 bTicketsfinish:Binds K t.dTicketsfinish ["self","ticket","worth"] []
 meTicketsfinish:Meth K t.CTickets "finish" t.aTicketsfinish
 fTicketsshut:Fun K "shut" "Tickets.shut" d4 t.aTicketsshut t.dTicketsshut
 bTicketsshut:Binds K t.dTicketsshut ["self","ticket"] []
 meTicketsshut:Meth K t.CTickets "shut" t.aTicketsshut
 fTicketsshutall:Fun K "shut_all" "Tickets.shut_all" cR t.aTicketsshutall t.dTicketsshutall
 bTicketsshutall:Binds K t.dTicketsshutall ["self"] []
 meTicketsshutall:Meth K t.CTickets "shut_all" t.aTicketsshutall
 fTicketsfirstdone:Fun K "first_done" "Tickets.first_done" cH t.aTicketsfirstdone t.dTicketsfirstdone
 bTicketsfirstdone:Binds K t.dTicketsfirstdone ["self","worths"] []
 meTicketsfirstdone:Meth K t.CTickets "first_done" t.aTicketsfirstdone
 fWalkinit:Fun K "__init__" "Walk.__init__" gD t.aWalkinit t.dWalkinit
 bWalkinit:Binds K t.dWalkinit ["self","program"] []
 meWalkinit:Meth K t.CWalk "__init__" t.aWalkinit
 fWalkcometo:Fun K "come_to" "Walk.come_to" eN t.aWalkcometo t.dWalkcometo
 bWalkcometo:Binds K t.dWalkcometo ["self"] []
 meWalkcometo:Meth K t.CWalk "come_to" t.aWalkcometo
 fWalkstandsat:Fun K "stands_at" "Walk.stands_at" dF t.aWalkstandsat t.dWalkstandsat
 bWalkstandsat:Binds K t.dWalkstandsat ["self"] []
 meWalkstandsat:Meth K t.CWalk "stands_at" t.aWalkstandsat
 fWalkpassby:Fun K "pass_by" "Walk.pass_by" eR t.aWalkpassby t.dWalkpassby
 bWalkpassby:Binds K t.dWalkpassby ["self"] []
 meWalkpassby:Meth K t.CWalk "pass_by" t.aWalkpassby
 fWalkenter:Fun K "enter" "Walk.enter" fJ t.aWalkenter t.dWalkenter
 bWalkenter:Binds K t.dWalkenter ["self","which"] []
 meWalkenter:Meth K t.CWalk "enter" t.aWalkenter
 fWalkleave:Fun K "leave" "Walk.leave" fK t.aWalkleave t.dWalkleave
 bWalkleave:Binds K t.dWalkleave ["self"] []
 meWalkleave:Meth K t.CWalk "leave" t.aWalkleave
 fWalkplace:Fun K "place" "Walk.place" fM t.aWalkplace t.dWalkplace
 bWalkplace:Binds K t.dWalkplace ["self"] []
 meWalkplace:Meth K t.CWalk "place" t.aWalkplace
 fdoset:Fun K "do_set" "do_set" mH t.adoset t.ddoset
 bdoset:Binds K t.ddoset ["run","statement"] []
 mdoset:mg "do_set"=some (.ref t.adoset)
 fdoorder:Fun K "do_order" "do_order" iE t.adoorder t.ddoorder
 bdoorder:Binds K t.ddoorder ["run","statement"] []
 mdoorder:mg "do_order"=some (.ref t.adoorder)
 fdotimer:Fun K "do_timer" "do_timer" iB t.adotimer t.ddotimer
 bdotimer:Binds K t.ddotimer ["run","statement"] []
 mdotimer:mg "do_timer"=some (.ref t.adotimer)
 fdosend:Fun K "do_send" "do_send" jU t.adosend t.ddosend
 bdosend:Binds K t.ddosend ["run","statement"] []
 mdosend:mg "do_send"=some (.ref t.adosend)
 fdodrop:Fun K "do_drop" "do_drop" jS t.adodrop t.ddodrop
 bdodrop:Binds K t.ddodrop ["run","statement"] []
 mdodrop:mg "do_drop"=some (.ref t.adodrop)
 fdowait:Fun K "do_wait" "do_wait" j0 t.adowait t.ddowait
 bdowait:Binds K t.ddowait ["run","statement"] []
 mdowait:mg "do_wait"=some (.ref t.adowait)
 fdohear:Fun K "do_hear" "do_hear" jP t.adohear t.ddohear
 bdohear:Binds K t.ddohear ["run","statement"] []
 mdohear:mg "do_hear"=some (.ref t.adohear)
 fdoend:Fun K "do_end" "do_end" mC t.adoend t.ddoend
 bdoend:Binds K t.ddoend ["run","statement"] []
 mdoend:mg "do_end"=some (.ref t.adoend)
 fRuninit:Fun K "__init__" "Run.__init__" iH t.aRuninit t.dRuninit
 bRuninit:Binds K t.dRuninit ["self","program"] []
 meRuninit:Meth K t.CRun "__init__" t.aRuninit
 fRunwaits:Fun K "waits" "Run.waits" fV t.aRunwaits t.dRunwaits
 bRunwaits:Binds K t.dRunwaits ["self"] []
 meRunwaits:Meth K t.CRun "waits" t.aRunwaits
 fRunopentickets:Fun K "open_tickets" "Run.open_tickets" cS t.aRunopentickets t.dRunopentickets
 bRunopentickets:Binds K t.dRunopentickets ["self"] []
 meRunopentickets:Meth K t.CRun "open_tickets" t.aRunopentickets
 fRunstate:Fun K "state" "Run.state" fX t.aRunstate t.dRunstate
 bRunstate:Binds K t.dRunstate ["self"] []
 meRunstate:Meth K t.CRun "state" t.aRunstate
 fRuntake:Fun K "take" "Run.take" iA t.aRuntake t.dRuntake
 bRuntake:Binds K t.dRuntake ["self","happening"] []
 meRuntake:Meth K t.CRun "take" t.aRuntake
 fRunpassesover:Fun K "passes_over" "Run.passes_over" cV t.aRunpassesover t.dRunpassesover
 bRunpassesover:Binds K t.dRunpassesover ["self","happening"] []
 meRunpassesover:Meth K t.CRun "passes_over" t.aRunpassesover
 fRuntakedone:Fun K "take_done" "Run.take_done" d5 t.aRuntakedone t.dRuntakedone
 bRuntakedone:Binds K t.dRuntakedone ["self","ticket","worth"] []
 meRuntakedone:Meth K t.CRun "take_done" t.aRuntakedone
 fRuntakeletter:Fun K "take_letter" "Run.take_letter" cX t.aRuntakeletter t.dRuntakeletter
 bRuntakeletter:Binds K t.dRuntakeletter ["self","key","worth"] []
 meRuntakeletter:Meth K t.CRun "take_letter" t.aRuntakeletter
 fRunwake:Fun K "wake" "Run.wake" iI t.aRunwake t.dRunwake
 bRunwake:Binds K t.dRunwake ["self","worth"] []
 meRunwake:Meth K t.CRun "wake" t.aRunwake
 fRungoon:Fun K "go_on" "Run.go_on" iG t.aRungoon t.dRungoon
 bRungoon:Binds K t.dRungoon ["self"] []
 meRungoon:Meth K t.CRun "go_on" t.aRungoon
 fRundoone:Fun K "do_one" "Run.do_one" fW t.aRundoone t.dRundoone
 bRundoone:Binds K t.dRundoone ["self","statement"] []
 meRundoone:Meth K t.CRun "do_one" t.aRundoone
 fRunlook:Fun K "look" "Run.look" iC t.aRunlook t.dRunlook
 bRunlook:Binds K t.dRunlook ["self","statement"] []
 meRunlook:Meth K t.CRun "look" t.aRunlook
 fRunend:Fun K "end" "Run.end" jN t.aRunend t.dRunend
 bRunend:Binds K t.dRunend ["self","worth"] []
 meRunend:Meth K t.CRun "end" t.aRunend
 fRunwearout:Fun K "wear_out" "Run.wear_out" eT t.aRunwearout t.dRunwearout
 bRunwearout:Binds K t.dRunwearout ["self"] []
 meRunwearout:Meth K t.CRun "wear_out" t.aRunwearout
 fRunworth:Fun K "worth" "Run.worth" gE t.aRunworth t.dRunworth
 bRunworth:Binds K t.dRunworth ["self","saying"] []
 meRunworth:Meth K t.CRun "worth" t.aRunworth
 fRunnewticket:Fun K "new_ticket" "Run.new_ticket" dL t.aRunnewticket t.dRunnewticket
 bRunnewticket:Binds K t.dRunnewticket ["self","name"] []
 meRunnewticket:Meth K t.CRun "new_ticket" t.aRunnewticket
 frunagain:Fun K "run_again" "run_again" fZ t.arunagain t.drunagain
 brunagain:Binds K t.drunagain ["program","happenings"] []
 mrunagain:mg "run_again"=some (.ref t.arunagain)
 flawcellat:Fun K "_law_cell_at" "_law_cell_at" fL t.alawcellat t.dlawcellat
 blawcellat:Binds K t.dlawcellat ["script","k"] []
 mlawcellat:mg "_law_cell_at"=some (.ref t.alawcellat)
 flawjar:Fun K "_law_jar" "_law_jar" jV t.alawjar t.dlawjar
 blawjar:Binds K t.dlawjar ["cell"] []
 mlawjar:mg "_law_jar"=some (.ref t.alawjar)
 flawtake:Fun K "_law_take" "_law_take" iD t.alawtake t.dlawtake
 blawtake:Binds K t.dlawtake ["jar","many"] []
 mlawtake:mg "_law_take"=some (.ref t.alawtake)
 flawworth:Fun K "_law_worth" "_law_worth" gC t.alawworth t.dlawworth
 blawworth:Binds K t.dlawworth ["jar"] []
 mlawworth:mg "_law_worth"=some (.ref t.alawworth)
 flawmoment:Fun K "_law_moment" "_law_moment" fH t.alawmoment t.dlawmoment
 blawmoment:Binds K t.dlawmoment ["jar"] []
 mlawmoment:mg "_law_moment"=some (.ref t.alawmoment)
 flawhappening:Fun K "_law_happening" "_law_happening" dM t.alawhappening t.dlawhappening
 blawhappening:Binds K t.dlawhappening ["jar"] []
 mlawhappening:mg "_law_happening"=some (.ref t.alawhappening)
 flawsaying:Fun K "_law_saying" "_law_saying" fO t.alawsaying t.dlawsaying
 blawsaying:Binds K t.dlawsaying ["jar","deep"] []
 mlawsaying:mg "_law_saying"=some (.ref t.alawsaying)
 flawwaiting:Fun K "_law_waiting" "_law_waiting" eK t.alawwaiting t.dlawwaiting
 blawwaiting:Binds K t.dlawwaiting ["jar","name"] []
 mlawwaiting:mg "_law_waiting"=some (.ref t.alawwaiting)
 flawstatement:Fun K "_law_statement" "_law_statement" dI t.alawstatement t.dlawstatement
 blawstatement:Binds K t.dlawstatement ["jar","deep","room"] []
 mlawstatement:mg "_law_statement"=some (.ref t.alawstatement)
 flawblock:Fun K "_law_block" "_law_block" gF t.alawblock t.dlawblock
 blawblock:Binds K t.dlawblock ["jar","deep","room"] []
 mlawblock:mg "_law_block"=some (.ref t.alawblock)
 flawprogram:Fun K "_law_program" "_law_program" eQ t.alawprogram t.dlawprogram
 blawprogram:Binds K t.dlawprogram ["cell"] []
 mlawprogram:mg "_law_program"=some (.ref t.alawprogram)
 flawstands:Fun K "_law_stands" "_law_stands" fN t.alawstands t.dlawstands
 blawstands:Binds K t.dlawstands ["run"] []
 mlawstands:mg "_law_stands"=some (.ref t.alawstands)
 flawtaken:Fun K "_law_taken" "_law_taken" gG t.alawtaken t.dlawtaken
 blawtaken:Binds K t.dlawtaken ["program","happenings"] []
 mlawtaken:mg "_law_taken"=some (.ref t.alawtaken)
 flaw:Fun K "law" "law" nP t.alaw t.dlaw
 blaw:Binds K t.dlaw ["script"] []
 mlaw:mg "law"=some (.ref t.alaw)
 clTickets:Cls K t.CTickets
 mTickets:mg "Tickets"=some (.ref t.CTickets)
 mkTickets:Mk K t.CTickets t.aTicketsinit
 clWalk:Cls K t.CWalk
 mWalk:mg "Walk"=some (.ref t.CWalk)
 mkWalk:Mk K t.CWalk t.aWalkinit
 clRun:Cls K t.CRun
 mRun:mg "Run"=some (.ref t.CRun)
 mkRun:Mk K t.CRun t.aRuninit
 namade:dS K t.CTickets "made"
 napending:dS K t.CTickets "pending"
 naanswers:dS K t.CTickets "answers"
 nablocks:dS K t.CWalk "blocks"
 nanumbers:dS K t.CWalk "numbers"
 nawalk:dS K t.CRun "walk"
 nasleep:dS K t.CRun "sleep"
 naarg:dS K t.CRun "arg"
 nanow:dS K t.CRun "now"
 nanames:dS K t.CRun "names"
 natickets:dS K t.CRun "tickets"
 naletters:dS K t.CRun "letters"
 cGREATESTWORTH:mg "GREATEST_WORTH"=some (.int 1000000000 t.kGREATESTWORTH)
 cGREATESTMOMENT:mg "GREATEST_MOMENT"=some (.int 1000000000000 t.kGREATESTMOMENT)
 cMOSTATONCE:mg "MOST_AT_ONCE"=some (.int 300 t.kMOSTATONCE)
 cDEEDS:mg "DEEDS"=some (.ref t.kDEEDS)
 mdDEEDS:ModD w.params K t.kDEEDS
 nDEEDSset:PySem.W.nsIn K t.kDEEDS "set"=some (some (.ref t.adoset))
 nDEEDSorder:PySem.W.nsIn K t.kDEEDS "order"=some (some (.ref t.adoorder))
 nDEEDStimer:PySem.W.nsIn K t.kDEEDS "timer"=some (some (.ref t.adotimer))
 nDEEDSchild:PySem.W.nsIn K t.kDEEDS "child"=some (some (.ref t.adoorder))
 nDEEDSsend:PySem.W.nsIn K t.kDEEDS "send"=some (some (.ref t.adosend))
 nDEEDSdrop:PySem.W.nsIn K t.kDEEDS "drop"=some (some (.ref t.adodrop))
 nDEEDSwait:PySem.W.nsIn K t.kDEEDS "wait"=some (some (.ref t.adowait))
 nDEEDShear:PySem.W.nsIn K t.kDEEDS "hear"=some (some (.ref t.adohear))
 nDEEDSend:PySem.W.nsIn K t.kDEEDS "end"=some (some (.ref t.adoend))
 zint:mg "int"=none
 zisinstance:mg "isinstance"=none
 zlen:mg "len"=none
 zlist:mg "list"=none
 zmax:mg "max"=none
 zmin:mg "min"=none
 zrange:mg "range"=none
 zset:mg "set"=none
 zsorted:mg "sorted"=none
 ztuple:mg "tuple"=none
theorem sc_kept:aT ["number"] ["number"] (aF oV):=⟨rfl,rfl,rfl,by decide +kernel,rfl,by decide +kernel,by decide +kernel⟩
theorem kD:aT ["saying","names","arg","now","answers","kind","one","other"] ["saying","names","arg","now","answers"] (aF iF):=⟨rfl,rfl,rfl,by decide +kernel,rfl,by decide +kernel,by decide +kernel⟩
theorem oK:aT ["sign","one","other","left","right"] ["sign","one","other"] (aF jZ):=⟨rfl,rfl,rfl,by decide +kernel,rfl,by decide +kernel,by decide +kernel⟩
theorem wN:aT ["worth"] ["worth"] (aF fY):=⟨rfl,rfl,rfl,by decide +kernel,rfl,by decide +kernel,by decide +kernel⟩
theorem qR:aT ["truth"] ["truth"] (aF dZ):=⟨rfl,rfl,rfl,by decide +kernel,rfl,by decide +kernel,by decide +kernel⟩
theorem tE:aT ["self"] ["self"] (aF d6):=⟨rfl,rfl,rfl,by decide +kernel,rfl,by decide +kernel,by decide +kernel⟩
theorem lD:aT ["self","ticket"] ["self"] (aF d7):=⟨rfl,rfl,rfl,by decide +kernel,rfl,by decide +kernel,by decide +kernel⟩
theorem oC:aT ["self","ticket"] ["self","ticket"] (aF cU):=⟨rfl,rfl,rfl,by decide +kernel,rfl,by decide +kernel,by decide +kernel⟩
theorem mO:aT ["self"] ["self"] (aF cF):=⟨rfl,rfl,rfl,by decide +kernel,rfl,by decide +kernel,by decide +kernel⟩
theorem oH:aT ["self","ticket","worth"] ["self","ticket","worth"] (aF cT):=⟨rfl,rfl,rfl,by decide +kernel,rfl,by decide +kernel,by decide +kernel⟩
theorem sD:aT ["self","ticket"] ["self","ticket"] (aF d4):=⟨rfl,rfl,rfl,by decide +kernel,rfl,by decide +kernel,by decide +kernel⟩
theorem nU:aT ["self"] ["self"] (aF cR):=⟨rfl,rfl,rfl,by decide +kernel,rfl,by decide +kernel,by decide +kernel⟩
theorem gU:aT ["self","worths","tickets"] ["self","worths"] (aF cH):=⟨rfl,rfl,rfl,by decide +kernel,rfl,by decide +kernel,by decide +kernel⟩
theorem wR:aT ["self","program"] ["self","program"] (aF gD):=⟨rfl,rfl,rfl,by decide +kernel,rfl,by decide +kernel,by decide +kernel⟩
theorem tK:aT ["self"] ["self"] (aF eN):=⟨rfl,rfl,rfl,by decide +kernel,rfl,by decide +kernel,by decide +kernel⟩
theorem pZ:aT ["self"] ["self"] (aF dF):=⟨rfl,rfl,rfl,by decide +kernel,rfl,by decide +kernel,by decide +kernel⟩
theorem tH:aT ["self"] ["self"] (aF eR):=⟨rfl,rfl,rfl,by decide +kernel,rfl,by decide +kernel,by decide +kernel⟩
theorem uW:aT ["self","which"] ["self","which"] (aF fJ):=⟨rfl,rfl,rfl,by decide +kernel,rfl,by decide +kernel,by decide +kernel⟩
theorem vF:aT ["self"] ["self"] (aF fK):=⟨rfl,rfl,rfl,by decide +kernel,rfl,by decide +kernel,by decide +kernel⟩
theorem u7:aT ["self"] ["self"] (aF fM):=⟨rfl,rfl,rfl,by decide +kernel,rfl,by decide +kernel,by decide +kernel⟩
theorem sc_doset:aT ["run","statement"] ["run","statement"] (aF mH):=⟨rfl,rfl,rfl,by decide +kernel,rfl,by decide +kernel,by decide +kernel⟩
theorem mV:aT ["run","statement","worth","ticket"] ["run","statement"] (aF iE):=⟨rfl,rfl,rfl,by decide +kernel,rfl,by decide +kernel,by decide +kernel⟩
theorem j8:aT ["run","statement","worth","due","ticket"] ["run","statement"] (aF iB):=⟨rfl,rfl,rfl,by decide +kernel,rfl,by decide +kernel,by decide +kernel⟩
theorem sc_dosend:aT ["run","statement"] ["run","statement"] (aF jU):=⟨rfl,rfl,rfl,by decide +kernel,rfl,by decide +kernel,by decide +kernel⟩
theorem uE:aT ["run","statement","ticket"] ["run","statement"] (aF jS):=⟨rfl,rfl,rfl,by decide +kernel,rfl,by decide +kernel,by decide +kernel⟩
theorem lT:aT ["run","statement","worths","ticket","pending"] ["run","statement"] (aF j0):=⟨rfl,rfl,rfl,by decide +kernel,rfl,by decide +kernel,by decide +kernel⟩
theorem tX:aT ["run","statement","worths"] ["run","statement"] (aF jP):=⟨rfl,rfl,rfl,by decide +kernel,rfl,by decide +kernel,by decide +kernel⟩
theorem sc_doend:aT ["run","statement"] ["run","statement"] (aF mC):=⟨rfl,rfl,rfl,by decide +kernel,rfl,by decide +kernel,by decide +kernel⟩
theorem zM:aT ["self","program"] ["self","program"] (aF iH):=⟨rfl,rfl,rfl,by decide +kernel,rfl,by decide +kernel,by decide +kernel⟩
theorem xC:aT ["self"] ["self"] (aF fV):=⟨rfl,rfl,rfl,by decide +kernel,rfl,by decide +kernel,by decide +kernel⟩
theorem nF:aT ["self"] ["self"] (aF cS):=⟨rfl,rfl,rfl,by decide +kernel,rfl,by decide +kernel,by decide +kernel⟩
theorem lA:aT ["self","names","letters"] ["self"] (aF fX):=⟨rfl,rfl,rfl,by decide +kernel,rfl,by decide +kernel,by decide +kernel⟩
theorem yQ:aT ["self","happening"] ["self","happening"] (aF iA):=⟨rfl,rfl,rfl,by decide +kernel,rfl,by decide +kernel,by decide +kernel⟩
theorem jQ:aT ["self","happening","kind"] ["self","happening"] (aF cV):=⟨rfl,rfl,rfl,by decide +kernel,rfl,by decide +kernel,by decide +kernel⟩
theorem sC:aT ["self","ticket","worth"] ["self","ticket","worth"] (aF d5):=⟨rfl,rfl,rfl,by decide +kernel,rfl,by decide +kernel,by decide +kernel⟩
theorem oR:aT ["self","key","worth"] ["self","key","worth"] (aF cX):=⟨rfl,rfl,rfl,by decide +kernel,rfl,by decide +kernel,by decide +kernel⟩
theorem zN:aT ["self","worth"] ["self","worth"] (aF iI):=⟨rfl,rfl,rfl,by decide +kernel,rfl,by decide +kernel,by decide +kernel⟩
theorem iM:aT ["self","commands","many","statement"] ["self"] (aF iG):=⟨rfl,rfl,rfl,by decide +kernel,rfl,by decide +kernel,by decide +kernel⟩
theorem kW:aT ["self","statement","kind","commands"] ["self","statement"] (aF fW):=⟨rfl,rfl,rfl,by decide +kernel,rfl,by decide +kernel,by decide +kernel⟩
theorem y9:aT ["self","statement"] ["self","statement"] (aF iC):=⟨rfl,rfl,rfl,by decide +kernel,rfl,by decide +kernel,by decide +kernel⟩
theorem abL:aT ["self","worth"] ["self","worth"] (aF jN):=⟨rfl,rfl,rfl,by decide +kernel,rfl,by decide +kernel,by decide +kernel⟩
theorem tG:aT ["self"] ["self"] (aF eT):=⟨rfl,rfl,rfl,by decide +kernel,rfl,by decide +kernel,by decide +kernel⟩
theorem yD:aT ["self","saying"] ["self","saying"] (aF gE):=⟨rfl,rfl,rfl,by decide +kernel,rfl,by decide +kernel,by decide +kernel⟩
theorem kK:aT ["self","name","ticket"] ["self","name"] (aF dL):=⟨rfl,rfl,rfl,by decide +kernel,rfl,by decide +kernel,by decide +kernel⟩
theorem kT:aT ["program","happenings","run","commands"] ["program","happenings"] (aF fZ):=⟨rfl,rfl,rfl,by decide +kernel,rfl,by decide +kernel,by decide +kernel⟩
theorem u6:aT ["script","k"] ["script","k"] (aF fL):=⟨rfl,rfl,rfl,by decide +kernel,rfl,by decide +kernel,by decide +kernel⟩
theorem oX:aT ["cell","low"] ["cell"] (aF jV):=⟨rfl,rfl,rfl,by decide +kernel,rfl,by decide +kernel,by decide +kernel⟩
theorem rE:aT ["jar","many","got"] ["jar","many"] (aF iD):=⟨rfl,rfl,rfl,by decide +kernel,rfl,by decide +kernel,by decide +kernel⟩
theorem pF:aT ["jar","far"] ["jar"] (aF gC):=⟨rfl,rfl,rfl,by decide +kernel,rfl,by decide +kernel,by decide +kernel⟩
theorem vE:aT ["jar"] ["jar"] (aF fH):=⟨rfl,rfl,rfl,by decide +kernel,rfl,by decide +kernel,by decide +kernel⟩
theorem gP:aT ["jar","moment","kind"] ["jar"] (aF dM):=⟨rfl,rfl,rfl,by decide +kernel,rfl,by decide +kernel,by decide +kernel⟩
theorem eJ:aT ["jar","deep","kind","name","worth","one"] ["jar","deep"] (aF fO):=⟨rfl,rfl,rfl,by decide +kernel,rfl,by decide +kernel,by decide +kernel⟩
theorem gI:aT ["jar","name","sayings","k","some"] ["jar","name"] (aF eK):=⟨rfl,rfl,rfl,by decide +kernel,rfl,by decide +kernel,by decide +kernel⟩
theorem dY:aT ["jar","deep","room","kind","name","word","saying"] ["jar","deep","room"] (aF dI):=⟨rfl,rfl,rfl,by decide +kernel,rfl,by decide +kernel,by decide +kernel⟩
theorem lP:aT ["jar","deep","room","block","k"] ["jar","deep","room"] (aF gF):=⟨rfl,rfl,rfl,by decide +kernel,rfl,by decide +kernel,by decide +kernel⟩
theorem jG:aT ["cell","jar","program"] ["cell"] (aF eQ):=⟨rfl,rfl,rfl,by decide +kernel,rfl,by decide +kernel,by decide +kernel⟩
theorem wE:aT ["run"] ["run"] (aF fN):=⟨rfl,rfl,rfl,by decide +kernel,rfl,by decide +kernel,by decide +kernel⟩
theorem lR:aT ["program","happenings","run","commands"] ["program","happenings"] (aF gG):=⟨rfl,rfl,rfl,by decide +kernel,rfl,by decide +kernel,by decide +kernel⟩
theorem fE:aT ["script","program","happenings","whole","many","run","commands","handed","told","row","held","stays","happening"] ["script"] (aF nP):=⟨rfl,rfl,rfl,by decide +kernel,rfl,by decide +kernel,by decide +kernel⟩
theorem w_K {CX:CXT} {P:Program} {w:World} {K:PySem.W.Frag} {mg:Str→Option Value} {base:Heap} {N:List Str} {q:Str} {sc:Scope} {f:Addr} {cd:Value} {A:Around} {o:List Env} {s:Shared} {H:Hp} {E:XK}:(xG CX P w K mg base N q sc f cd A o s H E).K=K:=rfl
theorem w_Kn {CX:CXT} {P:Program} {w:World} {K:PySem.W.Frag} {mg:Str→Option Value} {base:Heap} {N:List Str} {q:Str} {sc:Scope} {f:Addr} {cd:Value} {A:Around} {o:List Env} {s:Shared} {H:Hp} {E:XK}:(xG CX P w K mg base N q sc f cd A o s H E).nox.K=K:=rfl
theorem small {n:Nat} (h:n≤1000):n≤sizeLine:=Nat.le_of_lt (small1000 h)
theorem tW {i j:Int} (h0:-(2 ^ 64) < i) (h1:i < 2 ^ 64):CMul i j:=.inl ⟨h0,h1⟩
structure RowAt (H:Hp) (r:Addr):Prop where
 ex:∃ c l f:Int,H r=some (.lst [.int c,.int l,.int f])∧0≤l∧l < 536870909
noncomputable def clamp (n:Int):Int:=if (if n < 1000000000 then n else 1000000000) > -1000000000 then (if n < 1000000000 then n else 1000000000) else -1000000000
noncomputable def spKept:Sp:=fun vs H Q _=>∃ n:Int,vs=[.int n]∧Q (.int (clamp n)) H
theorem q_kept {n:Int} {H:Hp} {Q:VK} {E:XK}:spKept [.int n] H Q E=Q (.int (clamp n)) H:=propext ⟨fun ⟨_,e,h⟩=>by cases e;exact h,fun h=>⟨_,rfl,h⟩⟩
theorem lE (n:Int):-1000000000≤clamp n∧clamp n≤1000000000:=by
 unfold clamp
 repeat' split
 all_goals omega
noncomputable abbrev Wo:=Option Int
noncomputable def wv:Wo→V
 | none=>.non
 | some n=>.int n
noncomputable def num (w:Wo):Int:=w.getD 0
noncomputable def wk:Wo→Key
 | none=>.no
 | some n=>.inl n
noncomputable def eC (w:Wo):Prop:=∀ n,w=some n→-1000000000≤n∧n≤1000000000
theorem zA {a b:Wo} (h:wv a=wv b):a=b:=by cases a<;>cases b<;>simp_all [wv]
theorem wk_key (w:Wo):iV (wv w)=some (wk w):=by cases w<;>rfl
theorem yM (w:Wo):(wv w=.non)=(w=none):=by cases w<;>simp [wv]
theorem aa4 (w:Wo):dP (wv w)=true:=by cases w<;>rfl
theorem j4:eC none:=fun _ h=>nomatch h
theorem eI {n:Int} (h0:-1000000000≤n) (h1:n≤1000000000):eC (some n):=fun m h=>by cases h;exact ⟨h0,h1⟩
theorem isWo_num {w:Wo} (h:eC w):-1000000000≤num w∧num w≤1000000000:=by
 cases w with
 | none=>exact ⟨by decide,by decide⟩
 | some n=>exact h n rfl
noncomputable def spNum:Sp:=fun vs H Q _=>∃ w:Wo,vs=[wv w]∧Q (.int (num w)) H
theorem q_num {w:Wo} {H:Hp} {Q:VK} {E:XK}:spNum [wv w] H Q E=Q (.int (num w)) H :=
 propext ⟨fun ⟨u,e,h⟩=>by simp only [List.cons.injEq,and_true] at e;rw [zA e];exact h,fun h=>⟨w,rfl,h⟩⟩
noncomputable def spOne:Sp:=fun vs H Q _=>∃ b:Bool,vs=[.bl b]∧Q (.int (if b=true then 1 else 0)) H
theorem yJ {b:Bool} {H:Hp} {Q:VK} {E:XK}:spOne [.bl b] H Q E=Q (.int (if b=true then 1 else 0)) H :=
 propext ⟨fun ⟨u,e,h⟩=>by cases e;exact h,fun h=>⟨b,rfl,h⟩⟩
inductive Sg where
 | add | sub | mul | lt | eq
noncomputable def Sg.s:Sg→Str
 | .add=>"+" | .sub=>"-" | .mul=>"*" | .lt=>"<" | .eq=>"="
noncomputable def Sg.of (g:Sg) (a b:Wo):Int :=
 match g with
 | .add=>clamp (num a+num b) | .sub=>clamp (num a - num b) | .mul=>clamp (num a * num b) | .lt=>if num a < num b then 1 else 0 | .eq=>if a=b then 1 else 0
theorem Sg.of_in (g:Sg) (a b:Wo):-1000000000≤g.of a b∧g.of a b≤1000000000:=by
 cases g
 ·exact lE _
 ·exact lE _
 ·exact lE _
 ·show -1000000000≤(if num a < num b then (1:Int) else 0)∧(if num a < num b then (1:Int) else 0)≤1000000000
  split<;>decide
 ·show -1000000000≤(if a=b then (1:Int) else 0)∧(if a=b then (1:Int) else 0)≤1000000000
  split<;>decide
noncomputable def spJoined:Sp:=fun vs H Q _=>∃(g:Sg) (a b:Wo),vs=[.str g.s,wv a,wv b]∧eC a∧Q (.int (g.of a b)) H
inductive Say where
 | num (n:Int) | non | name (x:Str) | arg | now | ans (s:Say) | neg (s:Say) | two (g:Sg) (a b:Say)
inductive cQ (H:Hp):V→Say→Prop
 | num {a:Addr} {n:Int}:H a=some (.tup [.str "number",.int n])→cQ H (.ref a) (.num n)
 | non {a:Addr}:H a=some (.tup [.str "none"])→cQ H (.ref a) .non
 | name {a:Addr} {x:Str}:H a=some (.tup [.str "name",.str x])→cQ H (.ref a) (.name x)
 | arg {a:Addr}:H a=some (.tup [.str "arg"])→cQ H (.ref a) .arg
 | now {a:Addr}:H a=some (.tup [.str "now"])→cQ H (.ref a) .now
 | ans {a:Addr} {v:V} {s:Say}:H a=some (.tup [.str "answer",v])→cQ H v s→cQ H (.ref a) (.ans s)
 | neg {a:Addr} {v:V} {s:Say}:H a=some (.tup [.str "not",v])→cQ H v s→cQ H (.ref a) (.neg s)
 | two {a:Addr} {v u:V} {g:Sg} {s r:Say}:H a=some (.tup [.str g.s,v,u])→cQ H v s→cQ H u r→cQ H (.ref a) (.two g s r)
noncomputable def aK (H H':Hp):Prop:=∀ a xs,H a=some (.tup xs)→H' a=some (.tup xs)
theorem cQ.kp {H H':Hp} {v:V} {s:Say} (h:cQ H v s) (k:aK H H'):cQ H' v s:=by
 induction h with
 | num e=>exact .num (k _ _ e)
 | non e=>exact .non (k _ _ e)
 | name e=>exact .name (k _ _ e)
 | arg e=>exact .arg (k _ _ e)
 | now e=>exact .now (k _ _ e)
 | ans e _ ih=>exact .ans (k _ _ e) ih
 | neg e _ ih=>exact .neg (k _ _ e) ih
 | two e _ _ i1 i2=>exact .two (k _ _ e) i1 i2
theorem aK.of {S:List Addr} {H H':Hp} (k:Kp S H H') (h:∀ a∈S,∃ o,H a=some o∧∀ xs,o≠.tup xs):aK H H':=fun a xs e=>k a _ e fun z=>by
 obtain ⟨o,e',d⟩:=h a z
 rw [e] at e'
 exact d xs (Option.some.inj e').symm
theorem aK.new {H:Hp} {p:Addr} {o:HO} (h:H p=none):aK H (upd H p o):=fun a xs e=>by rw [aI (aL e h)];exact e
theorem aK.trans {H H1 H2:Hp} (a:aK H H1) (b:aK H1 H2):aK H H2:=fun x xs e=>b x xs (a x xs e)
noncomputable def Say.depth:Say→Nat
 | .ans s=>s.depth+1 | .neg s=>s.depth+1 | .two _ a b=>max a.depth b.depth+1 | .num _=>1 | .non=>1 | .name _=>1 | .arg=>1 | .now=>1
noncomputable def Say.ok:Say→Prop
 | .num n=>-1000000000≤n∧n≤1000000000 | .ans s=>s.ok | .neg s=>s.ok | .two _ a b=>a.ok∧b.ok | _=>True
theorem Say.depth_pos (s:Say):1≤s.depth:=by cases s<;>simp [Say.depth]
structure Pl where
 nm:Str→Wo
 ar:Wo
 now:Int
 an:Wo→Wo
structure Pl.Ok (p:Pl):Prop where
 nm:∀ x,eC (p.nm x)
 ar:eC p.ar
 an:∀ w,eC (p.an w)
noncomputable def ev (p:Pl):Say→Wo
 | .num n=>some n
 | .non=>none
 | .name x=>p.nm x
 | .arg=>p.ar
 | .now=>some (clamp p.now)
 | .ans s=>p.an (ev p s)
 | .neg s=>some (if num (ev p s)=0 then 1 else 0)
 | .two g a b=>some (g.of (ev p a) (ev p b))
theorem ev_wo {p:Pl} (hp:p.Ok):∀ {s:Say},s.ok→eC (ev p s)
 | .num n,h=>eI h.1 h.2
 | .non,_=>j4
 | .name x,_=>hp.nm x
 | .arg,_=>hp.ar
 | .now,_=>eI (lE _).1 (lE _).2
 | .ans s,_=>hp.an _
 | .neg s,_=>by
  show eC (some (if num (ev p s)=0 then 1 else 0))
  split<;>exact eI (by decide) (by decide)
 | .two g a b,_=>eI (g.of_in _ _).1 (g.of_in _ _).2
noncomputable def NmAt (H:Hp) (d:Addr) (f:Str→Wo):Prop:=∃ kvs,H d=some (.dK kvs)∧∀ x,(bY kvs (.inr x)).getD .non=wv (f x)
noncomputable def AnAt (H:Hp) (d:Addr) (f:Wo→Wo):Prop:=∃ kvs,H d=some (.dK kvs)∧∀ w,(bY kvs (wk w)).getD .non=wv (f w)
noncomputable def spWo (d:Nat):Sp:=fun vs H Q _=>∃(v:V) (dn da:Addr) (p:Pl) (s:Say),vs=[v,.ref dn,wv p.ar,.int p.now,.ref da]∧cQ H v s∧s.depth≤d∧s.ok∧NmAt H dn p.nm∧AnAt H da p.an∧p.Ok∧Q (wv (ev p s)) H
inductive Stm where
 | set (x:Str) (s:Say) | order (x y:Str) (s:Say) | timer (x:Str) (s:Say) | child (x y:Str) (s:Say) | send (s:Say) (k:Str) (r:Say) | drop (s:Say)
 | wait (x:Str) (ss:List Say) | hear (x k:Str) | fin (s:Say) | whl (s:Say) (b:List Stm) | iff (s:Say) (b o:List Stm)
inductive eW (H:Hp):List V→List Say→Prop
 | nil:eW H [] []
 | cons {v:V} {vs:List V} {s:Say} {ss:List Say}:cQ H v s→eW H vs ss→eW H (v::vs) (s::ss)
theorem eW.kp {H H':Hp} {vs:List V} {ss:List Say} (h:eW H vs ss) (k:aK H H'):eW H' vs ss:=by
 induction h with
 | nil=>exact .nil
 | cons a _ ih=>exact .cons (a.kp k) ih
mutual
inductive dC (H:Hp):V→Stm→Prop
 | set {a:Addr} {x:Str} {v:V} {s:Say}:H a=some (.tup [.str "set",.str x,v])→cQ H v s→dC H (.ref a) (.set x s)
 | order {a:Addr} {x y:Str} {v:V} {s:Say}:H a=some (.tup [.str "order",.str x,.str y,v])→cQ H v s→dC H (.ref a) (.order x y s)
 | timer {a:Addr} {x:Str} {v:V} {s:Say}:H a=some (.tup [.str "timer",.str x,v])→cQ H v s→dC H (.ref a) (.timer x s)
 | child {a:Addr} {x y:Str} {v:V} {s:Say}:H a=some (.tup [.str "child",.str x,.str y,v])→cQ H v s→dC H (.ref a) (.child x y s)
 | send {a:Addr} {k:Str} {v u:V} {s r:Say}:H a=some (.tup [.str "send",v,.str k,u])→cQ H v s→cQ H u r→dC H (.ref a) (.send s k r)
 | drop {a:Addr} {v:V} {s:Say}:H a=some (.tup [.str "drop",v])→cQ H v s→dC H (.ref a) (.drop s)
 | wait {a p:Addr} {x:Str} {vs:List V} {ss:List Say}:H a=some (.tup [.str "wait",.str x,.ref p])→H p=some (.tup vs)→eW H vs ss→dC H (.ref a) (.wait x ss)
 | hear {a:Addr} {x k:Str}:H a=some (.tup [.str "hear",.str x,.str k])→dC H (.ref a) (.hear x k)
 | fin {a:Addr} {v:V} {s:Say}:H a=some (.tup [.str "end",v])→cQ H v s→dC H (.ref a) (.fin s)
 | whl {a p:Addr} {v:V} {s:Say} {vs:List V} {b:List Stm}:H a=some (.tup [.str "while",v,.ref p])→cQ H v s→H p=some (.tup vs)→cA H vs b→dC H (.ref a) (.whl s b)
 | iff {a p q:Addr} {v:V} {s:Say} {vs us:List V} {b o:List Stm}:H a=some (.tup [.str "if",v,.ref p,.ref q])→cQ H v s→H p=some (.tup vs)→cA H vs b→H q=some (.tup us)→cA H us o→dC H (.ref a) (.iff s b o)
inductive cA (H:Hp):List V→List Stm→Prop
 | nil:cA H [] []
 | cons {v:V} {vs:List V} {x:Stm} {xs:List Stm}:dC H v x→cA H vs xs→cA H (v::vs) (x::xs)
end
theorem cA.kp {H H':Hp} (k:aK H H') {vs:List V} {ms:List Stm} (h:cA H vs ms):cA H' vs ms :=
 cA.rec (motive_1:=fun v m _=>dC H' v m) (motive_2:=fun vs ms _=>cA H' vs ms)
  (fun e s=>.set (k _ _ e) (s.kp k)) (fun e s=>.order (k _ _ e) (s.kp k)) (fun e s=>.timer (k _ _ e) (s.kp k)) (fun e s=>.child (k _ _ e) (s.kp k))
  (fun e s r=>.send (k _ _ e) (s.kp k) (r.kp k)) (fun e s=>.drop (k _ _ e) (s.kp k)) (fun e f s=>.wait (k _ _ e) (k _ _ f) (s.kp k)) (fun e=>.hear (k _ _ e)) (fun e s=>.fin (k _ _ e) (s.kp k))
  (fun e s f _ b=>.whl (k _ _ e) (s.kp k) (k _ _ f) b) (fun e s f _ f' _ b b'=>.iff (k _ _ e) (s.kp k) (k _ _ f) b (k _ _ f') b') .nil (fun _ _ a b=>.cons a b) h
mutual
noncomputable def Stm.dp:Stm→Nat
 | .whl _ b=>qI b+1
 | .iff _ b o=>max (qI b) (qI o)+1
 | .set _ _=>0
 | .order _ _ _=>0
 | .timer _ _=>0
 | .child _ _ _=>0
 | .send _ _ _=>0
 | .drop _=>0
 | .wait _ _=>0
 | .hear _ _=>0
 | .fin _=>0
noncomputable def qI:List Stm→Nat
 | []=>0
 | m::ms=>max m.dp (qI ms)
end
theorem cA.at {H:Hp} {vs:List V} {ms:List Stm} (h:cA H vs ms):∀ {i:Nat} {x:V},vs[i]?=some x→∃ m,ms[i]?=some m∧dC H x m:=by
 induction ms generalizing vs with
 | nil=>cases h;intro i x e;simp at e
 | cons m ms ih =>
  cases h with
  | cons a b =>
   intro i x e
   cases i with
   | zero=>simp only [List.getElem?_cons_zero,Option.some.injEq] at e;subst e;exact ⟨_,rfl,a⟩
   | succ i=>exact ih b (by simpa using e)
theorem cA.len {H:Hp} {vs:List V} {ms:List Stm} (h:cA H vs ms):ms.length=vs.length:=by
 induction ms generalizing vs with
 | nil=>cases h;rfl
 | cons m ms ih =>
  cases h with
  | cons a b=>simp [ih b]
theorem cut_ints (ns:List Int) (lo hi:Option Int):∃ ms:List Int,kH (ns.map V.int) lo hi=ms.map V.int∧ms.length≤ns.length:=by
 unfold kH
 rw [← List.map_drop,← List.map_take]
 exact ⟨_,rfl,by rw [List.length_take,List.length_drop];omega⟩
theorem ints_at {ms:List Int} {i:Nat} {y:V} (h:(ms.map V.int)[i]?=some y):∃ z:Int,y=.int z:=by
 rw [List.getElem?_map] at h
 cases e:ms[i]? with
 | none=>rw [e] at h;cases h
 | some z=>rw [e] at h;exact ⟨z,(Option.some.inj h).symm⟩
theorem tU (w:Wo):vC (wv w) [.non,.int 0]=decide (num w=0):=by
 cases w with
 | none=>rfl
 | some n =>
  by_cases h:n=0
  ·subst h
   rfl
  ·have h':¬ (0=n):=fun z=>h z.symm
   simp [vC,wv,oJ,num,h,h']
theorem flat01:([.non,.int 0]:List V).all dP=true:=by decide
theorem aK.nil {H H':Hp} (k:Kp [] H H'):aK H H':=fun a xs e=>k a _ e (by simp)
theorem _root_.L2.Kp.set1J {a:Addr} {H:Hp} {o:HO}:Kp [a] H (upd H a o):=Kp.set (by simp)
noncomputable def iO (pend:List Int):List (Key×V):=pend.map fun i=>(.inl i,.bl true)
noncomputable def iU (ans:List (Int×Wo)):List (Key×V):=ans.map fun p=>(.inl p.1,wv p.2)
structure gX (C:Addr) (H:Hp) (tk tx dp da:Addr) (made:Nat) (pend:List Int) (ans:List (Int×Wo)):Prop where
 ins:H tk=some (.ins C tx [("made",.int made),("pending",.ref dp),("answers",.ref da)])
 hp:H dp=some (.dK (iO pend))
 ha:H da=some (.dK (iU ans))
 nda:dp≠da
 lt:∀ i∈pend,0≤i∧i < made
 asc:pend.Pairwise (· < ·)
 la:∀ p∈ans,0≤p.1∧p.1 < made
 dis:∀ p∈ans,p.1∉pend
 small:made≤1000000
theorem gX.n1 {C:Addr} {H:Hp} {tk tx dp da:Addr} {made:Nat} {pend:List Int} {ans:List (Int×Wo)} (T:gX C H tk tx dp da made pend ans):tk≠dp∧tk≠da:=⟨dE T.ins T.hp (by intro z;cases z),dE T.ins T.ha (by intro z;cases z)⟩
theorem gX.kp {C:Addr} {H H':Hp} {tk tx dp da:Addr} {made:Nat} {pend:List Int} {ans:List (Int×Wo)} (T:gX C H tk tx dp da made pend ans) (k:Kp [] H H'):gX C H' tk tx dp da made pend ans :=
 ⟨k.at T.ins,k.at T.hp,k.at T.ha,T.nda,T.lt,T.asc,T.la,T.dis,T.small⟩
theorem rA (pend:List Int) (w:Wo):(bY (iO pend) (wk w)).isSome=decide (∃ i∈pend,w=some i):=by
 induction pend with
 | nil=>simp [iO,wJ]
 | cons i r ih =>
  have e:iO (i::r)=(Key.inl i,V.bl true)::iO r:=rfl
  rw [e]
  by_cases h:w=some i
  ·subst h
   rw [show wk (some i)=Key.inl i from rfl,cE rfl]
   simp
  ·rw [bZ (fun z=>h (by cases w with
    | none=>cases z
    | some j=>cases z;rfl)),ih]
   simp [h]
theorem abP (pend:List Int) (i:Int):pP (iO pend) (.inl i)=iO (pend.filter fun j=>decide (j≠i)):=by
 unfold pP iO
 rw [List.filter_map]
 congr 1
 apply List.filter_congr
 intro j _
 simp
theorem pend_keys (pend:List Int):intKeys (iO pend)=some pend:=by
 induction pend with
 | nil=>rfl
 | cons i r ih =>
  show (intKeys (iO r)).map (i::·)=_
  rw [ih]
  rfl
theorem abK {pend:List Int} {i:Int} (h:i∉pend):bY (iO pend) (.inl i)=none:=by
 have:=rA pend (some i)
 rw [show decide (∃ j∈pend,some i=some j)=false by simp [h]] at this
 cases e:bY (iO pend) (.inl i) with
 | none=>rfl
 | some v=>rw [show wk (some i)=.inl i from rfl,e] at this;cases this
theorem abS {pend:List Int} {i:Int} (h:i∈pend):∃ v,bY (iO pend) (.inl i)=some v:=by
 have:=rA pend (some i)
 rw [show decide (∃ j∈pend,some i=some j)=true by simpa using h] at this
 exact Option.isSome_iff_exists.mp this
theorem ans_none {ans:List (Int×Wo)} {i:Int} (h:∀ p∈ans,p.1≠i):bY (iU ans) (.inl i)=none:=by
 induction ans with
 | nil=>rfl
 | cons p r ih =>
  have e:iU (p::r)=(Key.inl p.1,wv p.2)::iU r:=rfl
  rw [e,bZ (fun z=>h p (by simp) (by cases z;rfl)),ih fun q hq=>h q (List.mem_cons_of_mem _ hq)]
theorem pJ {a b:List Int} (p:a.Perm b) (ha:a.Pairwise (·≤·)) (hb:b.Pairwise (· < ·)):a=b :=
 List.Perm.eq_of_pairwise (fun x y _ _ h1 h2=>Int.le_antisymm h1 h2) ha (hb.imp fun h=>Int.le_of_lt h) p
noncomputable def xO (C:Addr):Sp:=fun vs H Q _=>∃ x dx:Addr,vs=[.ref x]∧H x=some (.ins C dx [])∧∀(dp da:Addr) (H':Hp),H dp=none→H da=none→gX C H' x dx dp da 0 [] []→Kp [x] H H'→Q .non H'
noncomputable def spTkMake (C:Addr):Sp:=fun vs H Q _=>∃(tk tx dp da:Addr) (made:Nat) (pend:List Int) (ans:List (Int×Wo)),vs=[.ref tk]∧gX C H tk tx dp da made pend ans∧made < 1000000∧pend.length < 1000000 ∧
 ∀ H',gX C H' tk tx dp da (made+1) (pend++[(made:Int)]) ans→Kp [tk,dp] H H'→Q (.int made) H'
noncomputable def spTkOpen (C:Addr):Sp:=fun vs H Q _=>∃(tk tx dp da:Addr) (made:Nat) (pend:List Int) (ans:List (Int×Wo)) (w:Wo),vs=[.ref tk,wv w]∧gX C H tk tx dp da made pend ans∧Q (.bl (decide (∃ i∈pend,w=some i))) H
noncomputable def spTkThose (C:Addr):Sp:=fun vs H Q _=>∃(tk tx dp da:Addr) (made:Nat) (pend:List Int) (ans:List (Int×Wo)),vs=[.ref tk]∧gX C H tk tx dp da made pend ans∧pend.length≤1000000∧∀ l,H l=none→Q (.ref l) (upd H l (.lst (pend.map V.int)))
noncomputable def spTkShut (C:Addr):Sp:=fun vs H Q _=>∃(tk tx dp da:Addr) (made:Nat) (pend:List Int) (ans:List (Int×Wo)) (i:Int),vs=[.ref tk,.int i]∧gX C H tk tx dp da made pend ans∧i∈pend ∧
 ∀ H',gX C H' tk tx dp da made (pend.filter fun j=>decide (j≠i)) ans→Kp [dp] H H'→Q .non H'
noncomputable def zQ (C:Addr):Sp:=fun vs H Q _=>∃(tk tx dp da:Addr) (made:Nat) (pend:List Int) (ans:List (Int×Wo)) (i:Int) (w:Wo),vs=[.ref tk,.int i,wv w]∧gX C H tk tx dp da made pend ans∧i∈pend∧ans.length < 1000000 ∧
 ∀ H',gX C H' tk tx dp da made (pend.filter fun j=>decide (j≠i)) (ans++[(i,w)])→Kp [dp,da] H H'→Q .non H'
noncomputable def spTkAll (C:Addr):Sp:=fun vs H Q _=>∃(tk tx dp da:Addr) (made:Nat) (pend:List Int) (ans:List (Int×Wo)),vs=[.ref tk]∧gX C H tk tx dp da made pend ans ∧
 ∀ H',gX C H' tk tx dp da made [] ans→Kp [dp] H H'→Q .non H'
noncomputable abbrev Stk:=List (Nat×List Stm×Nat)
noncomputable def bV:Stk→List Int
 | []=>[]
 | [(_,_,n)]=>[(n:Int)]
 | (k,_,n)::r=>bV r++[(k:Int),(n:Int)]
inductive fD (H:Hp):List V→Stk→Prop
 | one {p:Addr} {us:List V} {k n:Nat} {b:List Stm}:H p=some (.tup us)→cA H us b→fD H [.ref p] [(k,b,n)]
 | cons {p:Addr} {us vs:List V} {k n:Nat} {b:List Stm} {r:Stk}:fD H vs r→H p=some (.tup us)→cA H us b→fD H (vs++[.ref p]) ((k,b,n)::r)
theorem fD.kp {H H':Hp} {vs:List V} {st:Stk} (h:fD H vs st) (k:aK H H'):fD H' vs st:=by
 induction h with
 | one e s=>exact .one (k _ _ e) (s.kp k)
 | cons _ e s ih=>exact .cons ih (k _ _ e) (s.kp k)
theorem fD.len {H:Hp} {vs:List V} {st:Stk} (h:fD H vs st):vs.length=st.length∧1≤st.length:=by
 induction h with
 | one=>exact ⟨rfl,Nat.le_refl _⟩
 | cons _ _ _ ih=>simp [ih.1]
theorem fD.last {H:Hp} {vs:List V} {k n:Nat} {b:List Stm} {r:Stk} (h:fD H vs ((k,b,n)::r)):∃(ws:List V) (p:Addr) (us:List V),vs=ws++[.ref p]∧H p=some (.tup us)∧cA H us b∧(r≠[]→fD H ws r)∧(r=[]→ws=[]):=by
 cases h with
 | one e s=>exact ⟨[],_,_,rfl,e,s,fun z=>absurd rfl z,fun _=>rfl⟩
 | @cons p us vs k n b r hr e s=>exact ⟨vs,_,_,rfl,e,s,fun _=>hr,fun z=>by subst z;cases hr⟩
theorem fD.turn {H:Hp} {vs:List V} {k n n':Nat} {b:List Stm} {r:Stk} (h:fD H vs ((k,b,n)::r)):fD H vs ((k,b,n')::r):=by
 cases h with
 | one e s=>exact .one e s
 | cons hr e s=>exact .cons hr e s
theorem oF (k n:Nat) (b:List Stm) (r:Stk):∃ l,bV ((k,b,n)::r)=l++[(n:Int)]∧∀ n',bV ((k,b,n')::r)=l++[((n':Nat):Int)]:=by
 cases r with
 | nil=>exact ⟨[],rfl,fun _=>rfl⟩
 | cons x r=>exact ⟨bV (x::r)++[(k:Int)],by simp [bV],fun n'=>by simp [bV]⟩
theorem oE (k:Nat) (b:List Stm) (n:Nat) (x:Nat×List Stm×Nat) (r:Stk):bV ((k,b,n)::x::r)=bV (x::r)++[(k:Int),(n:Int)]:=rfl
structure iS (C:Addr) (H:Hp) (wk wx lb ln:Addr) (st:Stk):Prop where
 ins:H wk=some (.ins C wx [("blocks",.ref lb),("numbers",.ref ln)])
 bl:∃ vs,H lb=some (.lst vs)∧fD H vs st
 nu:H ln=some (.lst ((bV st).map V.int))
 ne:lb≠ln
 few:st.length≤100
noncomputable def gQ:Stk→Stk
 | (k,b,n)::r=>(k,b,n+1)::r
 | []=>[]
noncomputable def zV (C:Addr):Sp:=fun vs H Q _=>∃(wk wx lb ln:Addr) (k n:Nat) (b:List Stm) (r:Stk) (m:Stm),vs=[.ref wk]∧iS C H wk wx lb ln ((k,b,n)::r)∧b[n]?=some m∧∀ v,dC H v m→Q v H
noncomputable def rC (C:Addr):Sp:=fun vs H Q _=>∃(wk wx lb ln:Addr) (k n:Nat) (b:List Stm) (r:Stk),vs=[.ref wk]∧iS C H wk wx lb ln ((k,b,n)::r)∧∀ H',iS C H' wk wx lb ln ((k,b,n+1)::r)→Kp [ln] H H'→Q .non H'
noncomputable def xX (C:Addr):Sp:=fun vs H Q _=>∃(x dx p:Addr) (us:List V) (b:List Stm),vs=[.ref x,.ref p]∧H x=some (.ins C dx [])∧H p=some (.tup us)∧cA H us b∧∀(lb ln:Addr) (H':Hp),H lb=none→H ln=none→iS C H' x dx lb ln [(0,b,0)]→Kp [x] H H'→Q .non H'
noncomputable def Stm.sub:Stm→Nat→Option (List Stm)
 | .whl _ b,0=>some b
 | .iff _ b _,0=>some b
 | .iff _ _ o,1=>some o
 | _,_=>none
noncomputable def Stm.isIf:Stm→Bool
 | .iff _ _ _=>true
 | _=>false
noncomputable def uC (C:Addr):Sp:=fun vs H Q _=>∃(wk wx lb ln:Addr) (k n c:Nat) (b bb:List Stm) (r:Stk) (m:Stm),vs=[.ref wk,.int c]∧iS C H wk wx lb ln ((k,b,n)::r)∧b[n]?=some m∧m.sub c=some bb∧r.length≤90 ∧
 ∀ H',iS C H' wk wx lb ln ((c,bb,0)::(k,b,n)::r)→Kp [lb,ln] H H'→Q .non H'
noncomputable def spWkLeave (C:Addr):Sp:=fun vs H Q _=>∃(wk wx lb ln:Addr) (k n:Nat) (b:List Stm) (x:Nat×List Stm×Nat) (r:Stk) (m:Stm),vs=[.ref wk]∧iS C H wk wx lb ln (x::(k,b,n)::r)∧b[n]?=some m ∧
 ∀ H',iS C H' wk wx lb ln ((k,b,if m.isIf=true then n+1 else n)::r)→Kp [lb,ln] H H'→Q .non H'
theorem dC.subAt {H:Hp} {v:V} {m:Stm} {c:Nat} {bb:List Stm} (h:dC H v m) (hs:m.sub c=some bb):∃(a p:Addr) (xs us:List V),v=.ref a∧H a=some (.tup xs)∧j6 xs (2+(c:Int))=some (.ref p)∧H p=some (.tup us)∧cA H us bb:=by
 cases h with
 | @whl a p v s vs b e h1 f hb =>
  match c,hs with
  | 0,hs=>cases hs;exact ⟨a,p,_,vs,rfl,e,rfl,f,hb⟩
 | @iff a p q v s vs us b o e h1 f hb f2 hb2 =>
  match c,hs with
  | 0,hs=>cases hs;exact ⟨a,p,_,vs,rfl,e,rfl,f,hb⟩
  | 1,hs=>cases hs;exact ⟨a,q,_,us,rfl,e,rfl,f2,hb2⟩
 | _=>cases hs
theorem dC.kind0 {H:Hp} {v:V} {m:Stm} (h:dC H v m):∃(a:Addr) (x:String) (xs:List V),v=.ref a∧H a=some (.tup (.str (Str.ofString x)::xs))∧decide (x = "if")=m.isIf:=by
 cases h<;>exact ⟨_,_,_,rfl,by assumption,rfl⟩
theorem aK.eO {H:Hp} {l:Addr} {xs ys:List V} (e:H l=some (.lst xs)):aK H (upd H l (.lst ys)):=fun a zs h=>by
 rw [aI (dE h e (by intro z;cases z))]
 exact h
theorem wT:∀ st:Stk,(bV st).length≤2 * st.length
 | []=>by simp [bV]
 | [(_,_,n)]=>by simp [bV]
 | (k,b,n)::x::r=>by
  have:=wT (x::r)
  rw [oE,List.length_append]
  simp only [List.length_cons,List.length_nil] at this ⊢
  omega
theorem pB {α:Type} (l:List α) (x:α):(l++[x])[(l++[x]).length - 1]?=some x:=by simp
theorem aK.tr {H H1 H2:Hp} (a:aK H H1) (b:aK H1 H2):aK H H2:=fun c xs e=>b c xs (a c xs e)
noncomputable def sO (b:List Stm) (n:Nat):Nat:=match b[n]? with
 | some m=>if m.isIf=true then n+1 else n
 | none=>n
noncomputable def cM:Stk→Stk
 | (k,b,n)::(k2,b2,n2)::r=>if n=b.length then cM ((k2,b2,sO b2 n2)::r) else (k,b,n)::(k2,b2,n2)::r
 | st=>st
termination_by st=>st.length
noncomputable def uN:Stk→Prop
 | []=>False
 | (_,b,n)::r=>n≤b.length∧∀ x∈r,x.2.2 < x.2.1.length
noncomputable def stand:Stk→Option Stm
 | (_,b,n)::_=>b[n]?
 | []=>none
theorem wU {b:List Stm} {n:Nat} (h:n < b.length):sO b n≤b.length:=by
 unfold sO
 split
 ·split<;>omega
 ·omega
noncomputable def spWkCome (C:Addr):Sp:=fun vs H Q _=>∃(wk wx lb ln:Addr) (st:Stk),vs=[.ref wk]∧iS C H wk wx lb ln st∧uN st ∧
 (∀ H',iS C H' wk wx lb ln (cM st)→uN (cM st)→stand (cM st)=none→Kp [lb,ln] H H'→Q .non H') ∧
 ∀(m:Stm) (v:V) (H':Hp),iS C H' wk wx lb ln (cM st)→uN (cM st)→stand (cM st)=some m→dC H' v m→Kp [lb,ln] H H'→Q v H'
noncomputable abbrev Cmds:=List (List V)
inductive gA (H:Hp):List V→Cmds→Prop
 | nil:gA H [] []
 | cons {a:Addr} {c:List V} {us:List V} {cs:Cmds}:H a=some (.tup c)→gA H us cs→gA H (.ref a::us) (c::cs)
theorem gA.kt {H H':Hp} {us:List V} {cs:Cmds} (h:gA H us cs) (k:aK H H'):gA H' us cs:=by
 induction h with
 | nil=>exact .nil
 | cons a _ ih=>exact .cons (k _ _ a) ih
theorem gA.len {H:Hp} {us:List V} {cs:Cmds} (h:gA H us cs):us.length=cs.length:=by
 induction h with
 | nil=>rfl
 | cons _ _ ih=>simp [ih]
theorem gA.app {H:Hp} {us vs:List V} {ps qs:Cmds} (h:gA H us ps) (g:gA H vs qs):gA H (us++vs) (ps++qs):=by
 induction h with
 | nil=>exact g
 | cons e _ ih=>exact .cons e ih
theorem gA.at {H:Hp} {us:List V} {cs:Cmds} (h:gA H us cs):∀ {i:Nat} {v:V},us[i]?=some v→∃ a c,v=.ref a∧cs[i]?=some c∧H a=some (.tup c):=by
 induction h with
 | nil=>intro i v e;simp at e
 | cons x _ ih =>
  intro i v e
  cases i with
  | zero=>simp only [List.getElem?_cons_zero,Option.some.injEq] at e;subst e;exact ⟨_,_,rfl,rfl,x⟩
  | succ i=>exact ih (by simpa using e)
inductive Slp where
 | non | new | wait (ts:List Int) | hear (k:Str) | ended (w:Wo) | worn
noncomputable def Slp.isN:Slp→Bool
 | .non=>true
 | _=>false
noncomputable def jC (H:Hp) (v:V):Slp→Prop
 | .non=>v=.non
 | .new=>∃ p,v=.ref p∧H p=some (.tup [.str "new"])
 | .wait ts=>∃ p p2,v=.ref p∧H p=some (.tup [.str "wait",.ref p2])∧H p2=some (.tup (ts.map V.int))
 | .hear k=>∃ p,v=.ref p∧H p=some (.tup [.str "hear",.str k])
 | .ended w=>∃ p,v=.ref p∧H p=some (.tup [.str "ended",wv w])
 | .worn=>∃ p,v=.ref p∧H p=some (.tup [.str "worn"])
theorem jC.kt {H H':Hp} {v:V} {s:Slp} (h:jC H v s) (k:aK H H'):jC H' v s:=by
 cases s with
 | non=>exact h
 | wait ts=>obtain ⟨p,p2,e,a,b⟩:=h;exact ⟨p,p2,e,k _ _ a,k _ _ b⟩
 | _=>obtain ⟨p,e,a⟩:=h;exact ⟨p,e,k _ _ a⟩
theorem jC.isN {H:Hp} {v:V} {s:Slp} (h:jC H v s):(s.isN=true∧v=.non)∨(s.isN=false∧∃ p,v=.ref p):=by
 cases s with
 | non=>exact .inl ⟨rfl,h⟩
 | wait ts=>obtain ⟨p,p2,e,a,b⟩:=h;exact .inr ⟨rfl,p,e⟩
 | _=>obtain ⟨p,e,a⟩:=h;exact .inr ⟨rfl,p,e⟩
noncomputable def j5 (l:List (Str×Wo)):List (Key×V):=l.map fun p=>(.inr p.1,wv p.2)
noncomputable def dA (l:List (Str×Wo)) (n:Str) (w:Wo):List (Str×Wo):=if (l.any fun p=>decide (p.1=n))=true then l.map (fun p=>if p.1=n then (p.1,w) else p) else l++[(n,w)]
theorem kI (l:List (Str×Wo)) (n:Str) (w:Wo):d9 (j5 l) (.inr n) (wv w)=j5 (dA l n w):=by
 have e:((j5 l).any fun kv=>decide (kv.1=Key.inr n))=(l.any fun p=>decide (p.1=n)):=by
  simp only [j5,List.any_map,Function.comp_def,Key.inr.injEq]
 unfold d9 dA
 rw [e]
 split
 ·simp only [j5,List.map_map,Function.comp_def,Key.inr.injEq]
  refine List.map_congr_left fun p _=>?_
  by_cases h:p.1=n
  ·simp [h]
  ·simp [h]
 ·simp [j5]
theorem xW (l:List (Str×Wo)) (n:Str) (w:Wo):(dA l n w).length≤l.length+1:=by
 unfold dA
 split
 ·rw [List.length_map];omega
 ·simp
noncomputable def jD:List (Str×Wo)→Str→Wo
 | [],_=>none
 | p::r,x=>if p.1=x then p.2 else jD r x
theorem qL:∀(l:List (Str×Wo)) (x:Str),(bY (j5 l) (.inr x)).getD .non=wv (jD l x)
 | [],x=>rfl
 | p::r,x=>by
  have ih:=qL r x
  show (bY ((Key.inr p.1,wv p.2)::j5 r) (.inr x)).getD .non=_
  by_cases h:p.1=x
  ·rw [cE (by rw [h]),jD,if_pos h];rfl
  ·rw [bZ (fun z=>h (Key.inr.inj z)),jD,if_neg h];exact ih
theorem abQ (l:List (Str×Wo)) (n:Str) (w:Wo) (x:Str):jD (dA l n w) x=if x=n then w else jD l x:=by
 have h1:=qL (dA l n w) x
 rw [← kI,qQ] at h1
 by_cases h:x=n
 ·rw [if_pos (by rw [h])] at h1
  rw [if_pos h]
  exact (zA h1).symm
 ·rw [if_neg (fun z=>h (Key.inr.inj z)),qL] at h1
  rw [if_neg h]
  exact (zA h1).symm
noncomputable def e8 (l:List (Int×Wo)):Wo→Wo
 | none=>none
 | some i=>match l with
  | []=>none
  | p::r=>if p.1=i then p.2 else e8 r (some i)
theorem rD:∀(l:List (Int×Wo)) (w:Wo),(bY (iU l) (wk w)).getD .non=wv (e8 l w)
 | [],none=>rfl
 | [],some _=>rfl
 | p::r,none=>by
  have ih:=rD r none
  show (bY ((Key.inl p.1,wv p.2)::iU r) .no).getD .non=_
  rw [bZ (by intro z;cases z)]
  rw [show e8 (p::r) none=e8 r none from by rw [e8,e8]]
  exact ih
 | p::r,some i=>by
  have ih:=rD r (some i)
  show (bY ((Key.inl p.1,wv p.2)::iU r) (.inl i)).getD .non=_
  by_cases h:p.1=i
  ·rw [cE (by rw [h]),e8,if_pos h];rfl
  ·rw [bZ (fun z=>h (Key.inl.inj z)),e8,if_neg h];exact ih
inductive iT (H:Hp):List (Key×V)→List Addr→List (Str×List Wo)→Prop
 | nil:iT H [] [] []
 | cons {a:Addr} {k:Str} {ws:List Wo} {kvs:List (Key×V)} {as:List Addr} {lt:List (Str×List Wo)}:H a=some (.lst (ws.map wv))→iT H kvs as lt→iT H ((.inr k,.ref a)::kvs) (a::as) ((k,ws)::lt)
theorem iT.keep {H H':Hp} {kvs:List (Key×V)} {as:List Addr} {lt:List (Str×List Wo)} (h:iT H kvs as lt) (k:∀ a∈as,∀ o,H a=some o→H' a=some o):iT H' kvs as lt:=by
 induction h with
 | nil=>exact .nil
 | cons e _ ih=>exact .cons (k _ (by simp) _ e) (ih fun a ha=>k a (List.mem_cons_of_mem _ ha))
theorem iT.ex {H:Hp} {kvs:List (Key×V)} {as:List Addr} {lt:List (Str×List Wo)} (h:iT H kvs as lt):∀ a∈as,∃ xs,H a=some (.lst xs):=by
 induction h with
 | nil=>intro a ha;simp at ha
 | cons e _ ih=>intro a ha;rcases List.mem_cons.mp ha with rfl | ha;exact ⟨_,e⟩;exact ih a ha
theorem iT.len {H:Hp} {kvs:List (Key×V)} {as:List Addr} {lt:List (Str×List Wo)} (h:iT H kvs as lt):kvs.length=lt.length:=by
 induction h with
 | nil=>rfl
 | cons _ _ ih=>simp [ih]
noncomputable def cC:List (Str×List Wo)→Str→Option (List Wo)
 | [],_=>none
 | p::r,k=>if p.1=k then some p.2 else cC r k
noncomputable def eO:List (Str×List Wo)→Str→List Wo→List (Str×List Wo)
 | [],_,_=>[]
 | p::r,k,ws=>if p.1=k then (p.1,ws)::r else p::eO r k ws
theorem iT.look {H:Hp} {kvs:List (Key×V)} {as:List Addr} {lt:List (Str×List Wo)} (h:iT H kvs as lt) (k:Str):(bY kvs (.inr k)=none∧cC lt k=none) ∨
    ∃ a ws,bY kvs (.inr k)=some (.ref a)∧cC lt k=some ws∧a∈as∧H a=some (.lst (ws.map wv)):=by
  induction h with
  | nil=>exact .inl ⟨rfl,rfl⟩
  | @cons a j ws kvs as lt e _ ih =>
    by_cases hj:j=k
    · subst hj
      exact .inr ⟨a,ws,cE rfl,by simp [cC],by simp,e⟩
    · rcases ih with ⟨x,y⟩ | ⟨b,vs,x,y,z,u⟩
      · exact .inl ⟨by rw [bZ (fun z=>hj (Key.inr.inj z))];exact x,by simp [cC,hj,y]⟩
      · exact .inr ⟨b,vs,by rw [bZ (fun z=>hj (Key.inr.inj z))];exact x,by simp [cC,hj,y],List.mem_cons_of_mem _ z,u⟩
theorem iT.set {H:Hp} {kvs:List (Key×V)} {as:List Addr} {lt:List (Str×List Wo)} (h:iT H kvs as lt) {k:Str} {a:Addr} (r:List Wo) (hk:bY kvs (.inr k)=some (.ref a)) (nd:as.Nodup):iT (upd H a (.lst (r.map wv))) kvs as (eO lt k r):=by
 induction h with
 | nil=>cases hk
 | @cons b j ws kvs as lt e hr ih =>
  rw [List.nodup_cons] at nd
  by_cases hj:j=k
  ·subst hj
   rw [cE rfl] at hk
   cases hk
   rw [eO,if_pos rfl]
   exact .cons aA (hr.keep fun c hc o h=>by rw [aI (show c≠a from fun z=>nd.1 (by rw [← z];exact hc))];exact h)
  ·rw [bZ (fun z=>hj (Key.inr.inj z))] at hk
   rw [eO,if_neg hj]
   have ha:a∈as:=by
    rcases hr.look k with ⟨x,_⟩ | ⟨c,_,x,_,y,_⟩
    ·rw [x] at hk;cases hk
    ·rw [x] at hk;cases hk;exact y
   exact .cons (by rw [aI (show b≠a from fun z=>nd.1 (by rw [z];exact ha))];exact e) (ih hk nd.2)
theorem iT.snoc {H:Hp} {kvs:List (Key×V)} {as:List Addr} {lt:List (Str×List Wo)} (h:iT H kvs as lt) {k:Str} {a:Addr} {ws:List Wo} (e:H a=some (.lst (ws.map wv))):iT H (kvs++[(.inr k,.ref a)]) (as++[a]) (lt++[(k,ws)]):=by
 induction h with
 | nil=>exact .cons e .nil
 | cons f _ ih=>exact .cons f ih
structure Pu where
 stk:Stk
 sl:Slp
 ar:Wo
 nw:Int
 nm:List (Str×Wo)
 made:Nat
 pend:List Int
 ans:List (Int×Wo)
 lt:List (Str×List Wo)
noncomputable def Pu.pl (S:Pu):Pl:=⟨jD S.nm,S.ar,S.nw,e8 S.ans⟩
noncomputable def Pu.worth (S:Pu) (s:Say):Wo:=ev S.pl s
noncomputable def Pu.newT (S:Pu) (n:Str):Pu:={S with made:=S.made+1,pend:=S.pend++[(S.made:Int)],nm:=dA S.nm n (some (S.made:Int))}
noncomputable def Pu.pass (S:Pu):Pu:={S with stk:=gQ S.stk}
noncomputable def dueOf (nw:Int):Wo→Int
 | none=>if nw < 1000000000000 then nw else 1000000000000
 | some z=>if nw+(if z > 0 then z else 0) < 1000000000000 then nw+(if z > 0 then z else 0) else 1000000000000
noncomputable def Pu.ends (S:Pu) (w:Wo):Pu×Cmds:=({S with sl:=.ended w,pend:=[]},[[.str "end",wv w]])
noncomputable def Pu.wears (S:Pu):Pu×Cmds:=({S with sl:=.worn,pend:=[]},[[.str "worn"]])
noncomputable def bW (ans:List (Int×Wo)) (ws:List Wo):Wo:=(ans.find? fun p=>decide (some p.1∈ws)).map (·.1)
noncomputable def xY (i:Int):List Int→List Int
 | []=>[i]
 | j::r=>if i < j then i::j::r else if i=j then j::r else j::xY i r
noncomputable def cG (pend:List Int):List Wo→List Int
 | []=>[]
 | none::r=>cG pend r
 | some i::r=>if i∈pend then xY i (cG pend r) else cG pend r
noncomputable def deed (S:Pu):Stm→Pu×Cmds
 | .set x s=>({S with nm:=dA S.nm x (S.worth s)},[])
 | .order x y s=>(S.newT x,[[.str "order",.int S.made,.str y,wv (S.worth s)]])
 | .child x y s=>(S.newT x,[[.str "child",.int S.made,.str y,wv (S.worth s)]])
 | .timer x s=>(S.newT x,[[.str "timer",.int S.made,.int (dueOf S.nw (S.worth s))]])
 | .send s k r=>(S,[[.str "send",wv (S.worth s),.str k,wv (S.worth r)]])
 | .drop s=>match S.worth s with
  | some i=>if i∈S.pend then ({S with pend:=S.pend.filter fun j=>decide (j≠i)},[[.str "drop",.int i]]) else (S,[])
  | none=>(S,[])
 | .hear x k=>match (cC S.lt k).getD [] with
  | w::r=>({S with nm:=dA S.nm x w,lt:=eO S.lt k r},[])
  | []=>({S with sl:=.hear k},[])
 | .wait x ss=>if bW S.ans (ss.map S.worth)=none∧cG S.pend (ss.map S.worth)≠[] then ({S with sl:=.wait (cG S.pend (ss.map S.worth))},[]) else ({S with nm:=dA S.nm x (bW S.ans (ss.map S.worth))},[])
 | .fin s=>S.ends (S.worth s)
 | .whl _ _=>(S,[])
 | .iff _ _ _=>(S,[])
noncomputable def Stm.isB:Stm→Bool
 | .whl _ _=>true
 | .iff _ _ _=>true
 | _=>false
noncomputable def Pu.enter (S:Pu) (c:Nat) (b:List Stm):Pu:={S with stk:=(c,b,0)::S.stk}
noncomputable def qX (S:Pu):Stm→Pu
 | .whl s b=>if num (S.worth s)=0 then S.pass else S.enter 0 b
 | .iff s b o=>if num (S.worth s)=0 then S.enter 1 o else S.enter 0 b
 | _=>S
noncomputable def one (S:Pu) (m:Stm):Pu×Cmds:=if m.isB=true then (qX S m,[]) else (if (deed S m).1.sl.isN=true then (deed S m).1.pass else (deed S m).1,(deed S m).2)
noncomputable def Pu.come (S:Pu):Pu:={S with stk:=cM S.stk}
noncomputable def gR:Nat→Pu→Pu×Cmds
 | 0,S=>match stand S.come.stk with
  | none=>S.come.ends none
  | some _=>S.come.wears
 | n+1,S=>match stand S.come.stk with
  | none=>S.come.ends none
  | some m=>if (one S.come m).1.sl.isN=true then ((gR n (one S.come m).1).1,(one S.come m).2++(gR n (one S.come m).1).2) else one S.come m
noncomputable def Pu.wake (S:Pu) (w:Wo):Pu×Cmds:=match stand S.stk with
 | some (.hear x _)=>gR 300 {S with nm:=dA S.nm x w,stk:=gQ S.stk,sl:=.non}
 | some (.wait x _)=>gR 300 {S with nm:=dA S.nm x w,stk:=gQ S.stk,sl:=.non}
 | _=>(S,[])
noncomputable def later (nw m:Int):Int:=if m > nw then m else nw
noncomputable def Say.sok (s:Say):Prop:=s.ok∧s.depth≤6
mutual
noncomputable def Stm.gd (wt:Bool):Stm→Prop
 | .set _ s=>s.sok
 | .order _ _ s=>s.sok
 | .child _ _ s=>s.sok
 | .timer _ s=>s.sok
 | .send s _ r=>s.sok∧r.sok
 | .drop s=>s.sok
 | .wait _ ss=>wt=true∧ss.length≤4∧∀ s∈ss,s.sok
 | .hear _ _=>True
 | .fin s=>s.sok
 | .whl s b=>s.sok∧pS wt b
 | .iff s b o=>s.sok∧pS wt b∧pS wt o
noncomputable def pS (wt:Bool):List Stm→Prop
 | []=>True
 | m::ms=>m.gd wt∧pS wt ms
end
theorem gdL_at {wt:Bool}:∀ {b:List Stm} {i:Nat} {m:Stm},pS wt b→b[i]?=some m→m.gd wt
 | [],_,_,_,h=>by simp at h
 | _::_,0,_,g,h=>by simp only [List.getElem?_cons_zero,Option.some.injEq] at h;subst h;simp only [pS] at g;exact g.1
 | _::b,i+1,_,g,h=>by simp only [pS] at g;exact gdL_at g.2 (by simpa using h)
theorem dpL_at:∀ {b:List Stm} {i:Nat} {m:Stm},b[i]?=some m→m.dp≤qI b
 | [],_,_,h=>by simp at h
 | _::_,0,_,h=>by simp only [List.getElem?_cons_zero,Option.some.injEq] at h;subst h;simp only [qI];omega
 | _::b,i+1,_,h=>by have:=dpL_at (b:=b) (by simpa using h);simp only [qI];omega
noncomputable def DpS:Stk→Prop
 | []=>True
 | (_,b,_)::r=>qI b+r.length≤20∧DpS r
structure tJ (wt:Bool) (st:Stk):Prop where
 ok:uN st
 gd:∀ x∈st,pS wt x.2.1
 dp:DpS st
structure Fit (wt:Bool) (S:Pu) (N:Nat):Prop where
 nm:S.nm.length≤N
 md:S.made≤N
 pd:S.pend.length≤N
 an:S.ans.length≤N
 lt:S.lt.length≤N
 lw:∀ k ws,cC S.lt k=some ws→ws.length≤N∧∀ w∈ws,eC w
 pl:S.pl.Ok
 nw:0≤S.nw∧S.nw≤1000000000000
 sk:tJ wt S.stk
 sl:(∀ k,S.sl=.hear k→∃ x,stand S.stk=some (.hear x k))∧∀ ts,S.sl=.wait ts→∃ x ss,stand S.stk=some (.wait x ss)
structure Cl where
 r:Addr
 w:Addr
 t:Addr
structure Rn where
 x:Addr
 dx:Addr
 wk:Addr
 wx:Addr
 lb:Addr
 ln:Addr
 nm:Addr
 tk:Addr
 tx:Addr
 dp:Addr
 da:Addr
 lt:Addr
noncomputable def Rn.cells (R:Rn):List Addr:=[R.x,R.lb,R.ln,R.nm,R.tk,R.dp,R.da,R.lt]
theorem iS.keep {C:Addr} {H H':Hp} {wk wx lb ln:Addr} {st:Stk} (W:iS C H wk wx lb ln st) (k1:∀ o,H wk=some o→H' wk=some o) (k2:∀ o,H lb=some o→H' lb=some o) (k3:∀ o,H ln=some o→H' ln=some o) (kt:aK H H'):iS C H' wk wx lb ln st:=by
 obtain ⟨vs,e,h⟩:=W.bl
 exact ⟨k1 _ W.ins,⟨vs,k2 _ e,h.kp kt⟩,k3 _ W.nu,W.ne,W.few⟩
theorem gX.keep {C:Addr} {H H':Hp} {tk tx dp da:Addr} {made:Nat} {pend:List Int} {ans:List (Int×Wo)} (T:gX C H tk tx dp da made pend ans) (k1:∀ o,H tk=some o→H' tk=some o) (k2:∀ o,H dp=some o→H' dp=some o) (k3:∀ o,H da=some o→H' da=some o):gX C H' tk tx dp da made pend ans :=
 ⟨k1 _ T.ins,k2 _ T.hp,k3 _ T.ha,T.nda,T.lt,T.asc,T.la,T.dis,T.small⟩
structure aW (C:Cl) (H:Hp) (R:Rn) (as:List Addr) (sl:V) (S:Pu):Prop where
 ins:H R.x=some (.ins C.r R.dx [("walk",.ref R.wk),("sleep",sl),("arg",wv S.ar),("now",.int S.nw),("names",.ref R.nm),("tickets",.ref R.tk),("letters",.ref R.lt)])
 slp:jC H sl S.sl
 wk:iS C.w H R.wk R.wx R.lb R.ln S.stk
 tk:gX C.t H R.tk R.tx R.dp R.da S.made S.pend S.ans
 nm:H R.nm=some (.dK (j5 S.nm))
 lt:∃ kvs,H R.lt=some (.dK kvs)∧iT H kvs as S.lt
 nas:as.Nodup
 ab:∀ a∈as,a≠R.lb∧a≠R.ln
 xw:R.x≠R.wk
 xt:R.x≠R.tk
 wt:R.wk≠R.tk
 n1:R.nm≠R.dp
 n2:R.nm≠R.da
 n3:R.nm≠R.lt
 n4:R.lt≠R.dp
 n5:R.lt≠R.da
theorem iK {H:Hp} {p b:Addr} {o u v:HO} (e:H p=some o) (h:H b=some v) (d:v≠o):upd H p u b=some v:=by
 rw [aI (dE h e d)]
 exact h
theorem aK.setO {H:Hp} {p:Addr} {o u:HO} (e:H p=some o) (d:∀ xs,o≠.tup xs):aK H (upd H p u):=fun a xs h=>iK e h (d xs).symm
section
variable {C:Cl} {H H':Hp} {R:Rn} {as as':List Addr} {sl:V} {S:Pu}
theorem aW.keep (A:aW C H R as sl S) (k:∀ b o,H b=some o→b=R.wk∨b∈R.cells∨b∈as→H' b=some o) (kt:aK H H'):aW C H' R as sl S:=by
 obtain ⟨kvs,e,L⟩:=A.lt
 have c:∀ {b:Addr} {o:HO},b∈R.cells→H b=some o→H' b=some o:=fun {b o} h e=>k b o e (.inr (.inl h))
 exact {A with
  ins:=c (by simp [Rn.cells]) A.ins
  slp:=A.slp.kt kt
  wk:=A.wk.keep (fun o h=>k _ o h (.inl rfl)) (fun o h=>c (by simp [Rn.cells]) h) (fun o h=>c (by simp [Rn.cells]) h) kt
  tk:=A.tk.keep (fun o h=>c (by simp [Rn.cells]) h) (fun o h=>c (by simp [Rn.cells]) h) (fun o h=>c (by simp [Rn.cells]) h)
  nm:=c (by simp [Rn.cells]) A.nm
  lt:=⟨kvs,c (by simp [Rn.cells]) e,L.keep fun a ha o h=>k a o h (.inr (.inr ha))⟩}
theorem aW.kp (A:aW C H R as sl S) (k:Kp [] H H'):aW C H' R as sl S:=A.keep (fun _ _ h _=>k.at h) (aK.nil k)
theorem aW.cellK (A:aW C H R as sl S) {b:Addr} (h:b∈R.cells∨b∈as):∃ o,H b=some o∧∀ xs,o≠.tup xs:=by
 obtain ⟨kvs,e,L⟩:=A.lt
 obtain ⟨vs,el,_⟩:=A.wk.bl
 rcases h with h | h
 ·simp only [Rn.cells,List.mem_cons,List.not_mem_nil,or_false] at h
  rcases h with rfl | rfl | rfl | rfl | rfl | rfl | rfl | rfl
  ·exact ⟨_,A.ins,fun _ z=>by cases z⟩
  ·exact ⟨_,el,fun _ z=>by cases z⟩
  ·exact ⟨_,A.wk.nu,fun _ z=>by cases z⟩
  ·exact ⟨_,A.nm,fun _ z=>by cases z⟩
  ·exact ⟨_,A.tk.ins,fun _ z=>by cases z⟩
  ·exact ⟨_,A.tk.hp,fun _ z=>by cases z⟩
  ·exact ⟨_,A.tk.ha,fun _ z=>by cases z⟩
  ·exact ⟨_,e,fun _ z=>by cases z⟩
 ·obtain ⟨xs,ex⟩:=L.ex b h
  exact ⟨_,ex,fun _ z=>by cases z⟩
structure Fw (R:Rn) (as as':List Addr) (H H':Hp):Prop where
 kp:∀ b o,H b=some o→b∉R.cells→b∉as→H' b=some o
 dom:∀ b o,H b=some o→∃ o',H' b=some o'
 new:∀ a∈as',a∈as∨H a=none
theorem Fw.refl:Fw R as as H H:=⟨fun _ _ h _ _=>h,fun _ o h=>⟨o,h⟩,fun _ h=>.inl h⟩
theorem Fw.free (F:Fw R as as' H H') {c:Addr} (h:H' c=none):H c=none:=by
 cases z:H c with
 | none=>rfl
 | some o=>obtain ⟨o',z'⟩:=F.dom c o z;rw [h] at z';cases z'
theorem Fw.trans {as'':List Addr} {H'':Hp} (a:Fw R as as' H H') (b:Fw R as' as'' H' H''):Fw R as as'' H H'' :=
  ⟨fun c o h n m=>b.kp c o (a.kp c o h n m) n (fun z=>by
      rcases a.new c z with y | y
      · exact m y
      · rw [h] at y;cases y),fun c o h=>(by obtain ⟨o',h'⟩:=a.dom c o h;exact b.dom c o' h'),fun c h=>by
    rcases b.new c h with y | y
    · exact a.new c y
    · exact .inr (a.free y)⟩
theorem Fw.of (k:Kp [] H H'):Fw R as as H H':=⟨fun b o h _ _=>k.at h,fun b o h=>⟨o,k.at h⟩,fun _ h=>.inl h⟩
theorem Fw.set {p:Addr} {o:HO} (h:p∈R.cells∨p∈as):Fw R as as H (upd H p o) :=
 ⟨fun b u e n m=>by rw [aI (fun z=>by rcases h with h | h;exact n (by rw [z];exact h);exact m (by rw [z];exact h))];exact e,fun b u e=>by by_cases z:b=p;exact ⟨o,by rw [z,aA]⟩;exact ⟨u,by rw [aI z];exact e⟩,fun _ h=>.inl h⟩
theorem Fw.ofD {D:List Addr} (k:Kp D H H') (h:∀ b∈D,b∈R.cells∧∃ o,H' b=some o):Fw R as as H H' :=
 ⟨fun b o e n _=>k b o e fun z=>n (h b z).1,fun b o e=>by by_cases z:b∈D;exact (h b z).2;exact ⟨o,k b o e z⟩,fun _ h=>.inl h⟩
theorem Fw.fresh {c:Addr} {o:HO} (F:Fw R as as' H H') (h:H c=none):Fw R as as' H (upd H' c o) :=
 ⟨fun b u e n m=>by rw [aI (aL e h)];exact F.kp b u e n m,fun b u e=>by rw [aI (aL e h)];exact F.dom b u e,F.new⟩
theorem aW.tkp (A:aW C H R as sl S) (F:Fw R as as' H H'):aK H H':=fun b xs h=>F.kp b _ h (fun z=>by
    obtain ⟨o,e,d⟩:=A.cellK (.inl z)
    rw [h] at e
    exact d xs (Option.some.inj e).symm) fun z=>by
    obtain ⟨o,e,d⟩:=A.cellK (.inr z)
    rw [h] at e
    exact d xs (Option.some.inj e).symm
theorem aW.nofree (A:aW C H R as sl S) {c:Addr} (h:H c=none):c∉R.cells∧c∉as:=by
 refine ⟨fun z=>?_,fun z=>?_⟩
 ·obtain ⟨o,e,d⟩:=A.cellK (.inl z)
  rw [h] at e
  cases e
 ·obtain ⟨o,e,d⟩:=A.cellK (.inr z)
  rw [h] at e
  cases e
theorem aW.attr (A:aW C H R as sl S) (sl':V) (s':Slp) (ar':Wo) (nw':Int) (h:jC H sl' s'):aW C (upd H R.x (.ins C.r R.dx [("walk",.ref R.wk),("sleep",sl'),("arg",wv ar'),("now",.int nw'),("names",.ref R.nm),("tickets",.ref R.tk),("letters",.ref R.lt)])) R as sl' {S with sl:=s',ar:=ar',nw:=nw'}:=by
 obtain ⟨kvs,e,L⟩:=A.lt
 obtain ⟨vs,el,_⟩:=A.wk.bl
 have kt:aK H (upd H R.x (.ins C.r R.dx [("walk",.ref R.wk),("sleep",sl'),("arg",wv ar'),("now",.int nw'),("names",.ref R.nm),("tickets",.ref R.tk),("letters",.ref R.lt)])):=aK.setO A.ins (by intro _ z;cases z)
 exact {A with
  ins:=aA
  slp:=h.kt kt
  wk:=A.wk.keep (fun o h=>by rw [aI A.xw.symm];exact h) (fun o h=>by rw [el] at h;cases h;exact iK A.ins el (by intro z;cases z)) (fun o h=>by rw [A.wk.nu] at h;cases h;exact iK A.ins A.wk.nu (by intro z;cases z)) kt
  tk:=A.tk.keep (fun o h=>by rw [aI A.xt.symm];exact h) (fun o h=>by rw [A.tk.hp] at h;cases h;exact iK A.ins A.tk.hp (by intro z;cases z)) (fun o h=>by rw [A.tk.ha] at h;cases h;exact iK A.ins A.tk.ha (by intro z;cases z))
  nm:=iK A.ins A.nm (by intro z;cases z)
  lt:=⟨kvs,iK A.ins e (by intro z;cases z),L.keep fun a ha o h=>by obtain ⟨xs,ex⟩:=L.ex a ha;rw [ex] at h;cases h;exact iK A.ins ex (by intro z;cases z)⟩}
theorem aW.walk (A:aW C H R as sl S) {st:Stk} (W:iS C.w H' R.wk R.wx R.lb R.ln st) (k:Kp [R.lb,R.ln] H H'):aW C H' R as sl {S with stk:=st}:=by
 obtain ⟨kvs,e,L⟩:=A.lt
 obtain ⟨vs,el,_⟩:=A.wk.bl
 have at':∀ {b:Addr} {o:HO},H b=some o→(∀ xs,o≠.lst xs)→H' b=some o:=fun {b o} h d=>k b o h (by
  simp only [List.mem_cons,List.not_mem_nil,or_false,not_or]
  exact ⟨dE h el (d _),dE h A.wk.nu (d _)⟩)
 have kt:aK H H':=fun b xs h=>at' h (by intro _ z;cases z)
 exact {A with
  ins:=at' A.ins (by intro _ z;cases z)
  slp:=A.slp.kt kt
  wk:=W
  tk:=⟨at' A.tk.ins (by intro _ z;cases z),at' A.tk.hp (by intro _ z;cases z),at' A.tk.ha (by intro _ z;cases z),A.tk.nda,A.tk.lt,A.tk.asc,A.tk.la,A.tk.dis,A.tk.small⟩
  nm:=at' A.nm (by intro _ z;cases z)
  lt:=⟨kvs,at' e (by intro _ z;cases z),L.keep fun a ha o h=>k a o h (by
   simp only [List.mem_cons,List.not_mem_nil,or_false,not_or]
   exact A.ab a ha)⟩}
theorem aW.fwalk (_:aW C H R as sl S) {st:Stk} (W:iS C.w H' R.wk R.wx R.lb R.ln st) (k:Kp [R.lb,R.ln] H H'):Fw R as as H H':=Fw.ofD k fun b hb=>by
 obtain ⟨vs,el,_⟩:=W.bl
 simp only [List.mem_cons,List.not_mem_nil,or_false] at hb
 rcases hb with rfl | rfl
 ·exact ⟨by simp [Rn.cells],_,el⟩
 ·exact ⟨by simp [Rn.cells],_,W.nu⟩
theorem aW.tick (A:aW C H R as sl S) {md:Nat} {pd:List Int} {an:List (Int×Wo)} (T:gX C.t H' R.tk R.tx R.dp R.da md pd an) (k:Kp [R.tk,R.dp,R.da] H H'):aW C H' R as sl {S with made:=md,pend:=pd,ans:=an}:=by
 obtain ⟨kvs,e,L⟩:=A.lt
 obtain ⟨vs,el,_⟩:=A.wk.bl
 have at':∀ {b:Addr} {o:HO},H b=some o→(∀ xs,o≠.dK xs)→(∀ C d f,o≠.ins C d f)→H' b=some o:=fun {b o} h d d2=>k b o h (by
  simp only [List.mem_cons,List.not_mem_nil,or_false,not_or]
  exact ⟨dE h A.tk.ins (d2 _ _ _),dE h A.tk.hp (d _),dE h A.tk.ha (d _)⟩)
 have j6:∀ {b:Addr} {o:HO},H b=some o→(∀ xs,o≠.dK xs)→b≠R.tk→H' b=some o:=fun {b o} h d d2=>k b o h (by
  simp only [List.mem_cons,List.not_mem_nil,or_false,not_or]
  exact ⟨d2,dE h A.tk.hp (d _),dE h A.tk.ha (d _)⟩)
 have atD:∀ {b:Addr} {o:HO},H b=some o→(∀ C d f,o≠.ins C d f)→b≠R.dp→b≠R.da→H' b=some o:=fun {b o} h d d2 d3=>k b o h (by
  simp only [List.mem_cons,List.not_mem_nil,or_false,not_or]
  exact ⟨dE h A.tk.ins (d _ _ _),d2,d3⟩)
 have kt:aK H H':=fun b xs h=>at' h (by intro _ z;cases z) (by intro _ _ _ z;cases z)
 exact {A with
  ins:=j6 A.ins (by intro _ z;cases z) A.xt
  slp:=A.slp.kt kt
  wk:=A.wk.keep (fun o h=>by rw [A.wk.ins] at h;cases h;exact j6 A.wk.ins (by intro _ z;cases z) A.wt) (fun o h=>by rw [el] at h;cases h;exact at' el (by intro _ z;cases z) (by intro _ _ _ z;cases z)) (fun o h=>by rw [A.wk.nu] at h;cases h;exact at' A.wk.nu (by intro _ z;cases z) (by intro _ _ _ z;cases z)) kt
  tk:=T
  nm:=atD A.nm (by intro _ _ _ z;cases z) A.n1 A.n2
  lt:=⟨kvs,atD e (by intro _ _ _ z;cases z) A.n4 A.n5,L.keep fun a ha o h=>by obtain ⟨xs,ex⟩:=L.ex a ha;rw [ex] at h;cases h;exact at' ex (by intro _ z;cases z) (by intro _ _ _ z;cases z)⟩}
theorem aW.ftick (_:aW C H R as sl S) {md:Nat} {pd:List Int} {an:List (Int×Wo)} (T:gX C.t H' R.tk R.tx R.dp R.da md pd an) (k:Kp [R.tk,R.dp,R.da] H H'):Fw R as as H H':=Fw.ofD k fun b hb=>by
 simp only [List.mem_cons,List.not_mem_nil,or_false] at hb
 rcases hb with rfl | rfl | rfl
 ·exact ⟨by simp [Rn.cells],_,T.ins⟩
 ·exact ⟨by simp [Rn.cells],_,T.hp⟩
 ·exact ⟨by simp [Rn.cells],_,T.ha⟩
theorem aW.name (A:aW C H R as sl S) (n:Str) (w:Wo):aW C (upd H R.nm (.dK (j5 (dA S.nm n w)))) R as sl {S with nm:=dA S.nm n w}:=by
 obtain ⟨kvs,e,L⟩:=A.lt
 obtain ⟨vs,el,_⟩:=A.wk.bl
 have at':∀ {b:Addr} {o:HO},H b=some o→(∀ xs,o≠.dK xs)→upd H R.nm (.dK (j5 (dA S.nm n w))) b=some o:=fun {b o} h d=>iK A.nm h (d _)
 have kt:aK H _:=fun b xs h=>at' h (by intro _ z;cases z)
 exact {A with
  ins:=at' A.ins (by intro _ z;cases z)
  slp:=A.slp.kt kt
  wk:=A.wk.keep (fun o h=>by rw [A.wk.ins] at h;cases h;exact at' A.wk.ins (by intro _ z;cases z)) (fun o h=>by rw [el] at h;cases h;exact at' el (by intro _ z;cases z)) (fun o h=>by rw [A.wk.nu] at h;cases h;exact at' A.wk.nu (by intro _ z;cases z)) kt
  tk:=A.tk.keep (fun o h=>by rw [A.tk.ins] at h;cases h;exact at' A.tk.ins (by intro _ z;cases z)) (fun o h=>by rw [aI A.n1.symm];exact h) (fun o h=>by rw [aI A.n2.symm];exact h)
  nm:=aA
  lt:=⟨kvs,by rw [aI A.n3.symm];exact e,L.keep fun a ha o h=>by obtain ⟨xs,ex⟩:=L.ex a ha;rw [ex] at h;cases h;exact at' ex (by intro _ z;cases z)⟩}
theorem aW.lset (A:aW C H R as sl S) {kvs:List (Key×V)} {k:Str} {l:Addr} (e:H R.lt=some (.dK kvs)) (hk:bY kvs (.inr k)=some (.ref l)) (r:List Wo):aW C (upd H l (.lst (r.map wv))) R as sl {S with lt:=eO S.lt k r}∧l∈as:=by
 obtain ⟨kvs',e',L⟩:=A.lt
 rw [e] at e'
 cases e'
 obtain ⟨vs,el,_⟩:=A.wk.bl
 obtain ⟨ws,hl,hla⟩:∃ ws:List Wo,H l=some (.lst (ws.map wv))∧l∈as:=by
  rcases L.look k with ⟨x,_⟩ | ⟨c,ws,x,_,y,z⟩
  ·rw [x] at hk;cases hk
  ·rw [x] at hk;cases hk;exact ⟨ws,z,y⟩
 have at':∀ {b:Addr} {o:HO},H b=some o→(∀ xs,o≠.lst xs)→upd H l (.lst (r.map wv)) b=some o:=fun {b o} h d=>iK hl h (d _)
 have kt:aK H _:=fun b xs h=>at' h (by intro _ z;cases z)
 have nb:=A.ab l hla
 refine ⟨{A with
  ins:=at' A.ins (by intro _ z;cases z)
  slp:=A.slp.kt kt
  wk:=A.wk.keep (fun o h=>by rw [A.wk.ins] at h;cases h;exact at' A.wk.ins (by intro _ z;cases z)) (fun o h=>by rw [aI nb.1.symm];exact h) (fun o h=>by rw [aI nb.2.symm];exact h) kt
  tk:=A.tk.keep (fun o h=>by rw [A.tk.ins] at h;cases h;exact at' A.tk.ins (by intro _ z;cases z)) (fun o h=>by rw [A.tk.hp] at h;cases h;exact at' A.tk.hp (by intro _ z;cases z)) (fun o h=>by rw [A.tk.ha] at h;cases h;exact at' A.tk.ha (by intro _ z;cases z))
  nm:=at' A.nm (by intro _ z;cases z)
  lt:=⟨kvs,at' e (by intro _ z;cases z),L.set r hk A.nas⟩},hla⟩
theorem aW.lnew (A:aW C H R as sl S) {kvs:List (Key×V)} {k:Str} {l:Addr} {ws:List Wo} (e:H R.lt=some (.dK kvs)) (hk:bY kvs (.inr k)=none) (hl:H l=some (.lst (ws.map wv))) (n1:l∉R.cells) (n2:l∉as):aW C (upd H R.lt (.dK (d9 kvs (.inr k) (.ref l)))) R (as++[l]) sl {S with lt:=S.lt++[(k,ws)]}:=by
 obtain ⟨kvs',e',L⟩:=A.lt
 rw [e] at e'
 cases e'
 obtain ⟨vs,el,_⟩:=A.wk.bl
 have at':∀ {b:Addr} {o:HO},H b=some o→(∀ xs,o≠.dK xs)→upd H R.lt (.dK (d9 kvs (.inr k) (.ref l))) b=some o:=fun {b o} h d=>iK e h (d _)
 have kt:aK H _:=fun b xs h=>at' h (by intro _ z;cases z)
 exact {A with
  ins:=at' A.ins (by intro _ z;cases z)
  slp:=A.slp.kt kt
  wk:=A.wk.keep (fun o h=>by rw [A.wk.ins] at h;cases h;exact at' A.wk.ins (by intro _ z;cases z)) (fun o h=>by rw [el] at h;cases h;exact at' el (by intro _ z;cases z)) (fun o h=>by rw [A.wk.nu] at h;cases h;exact at' A.wk.nu (by intro _ z;cases z)) kt
  tk:=A.tk.keep (fun o h=>by rw [A.tk.ins] at h;cases h;exact at' A.tk.ins (by intro _ z;cases z)) (fun o h=>by rw [aI A.n4.symm];exact h) (fun o h=>by rw [aI A.n5.symm];exact h)
  nm:=by rw [aI A.n3];exact A.nm
  lt:=⟨_,aA,by
   rw [rW _ hk]
   exact (L.keep fun a ha o h=>by obtain ⟨xs,ex⟩:=L.ex a ha;rw [ex] at h;cases h;exact iK e ex (by intro z;cases z)).snoc (iK e hl (by intro z;cases z))⟩
  nas:=List.nodup_append.mpr ⟨A.nas,by simp,fun a ha b hb=>by rw [show b=l by simpa using hb];exact fun z=>n2 (by rw [← z];exact ha)⟩
  ab:=fun a ha=>by
   rcases List.mem_append.mp ha with ha | ha
   ·exact A.ab a ha
   ·rw [show a=l by simpa using ha]
    exact ⟨fun z=>n1 (by simp [Rn.cells,z]),fun z=>n1 (by simp [Rn.cells,z])⟩}
theorem aW.other (A:aW C H R as sl S) {c:Addr} {us vs:List V} (hc:H c=some (.lst us)) (n1:c∉R.cells) (n2:c∉as):aW C (upd H c (.lst vs)) R as sl S :=
 A.keep (fun b o h m=>by
  rw [aI (fun z=>by
   rcases m with m | m | m
   ·rw [z] at m
    rw [m,A.wk.ins] at hc
    cases hc
   ·exact n1 (by rw [← z];exact m)
   ·exact n2 (by rw [← z];exact m))]
  exact h) (aK.setO hc (by intro _ z;cases z))
end
theorem put2 {H:Hp} {x p:Addr} {o o' u:HO} (hx:H x=some u) (hp:H p=none):upd (upd H p o) x o' x=some o'∧upd (upd H p o) x o' p=some o∧Kp [x] H (upd (upd H p o) x o')∧x≠p:=by
 have n:x≠p:=aL hx hp
 exact ⟨aA,by rw [aI n.symm];exact aA,(Kp.new hp).trans (Kp.set (by simp)),n⟩
theorem cK {H:Hp} {a p:Addr} {o:HO} (h:upd H a o p=none):H p=none:=by
 by_cases e:p=a
 ·subst e;rw [aA] at h;cases h
 ·rwa [aI e] at h
noncomputable def Told (C:Cl) (R:Rn) (as as':List Addr) (H:Hp) (Q:VK) (z:Pu×Cmds):Prop:=∀(sl:V) (c:Addr) (us:List V) (H':Hp),aW C H' R as' sl z.1→H c=none→H' c=some (.lst us)→gA H' us z.2→Fw R as as' H H'→Q (.ref c) H'
noncomputable def spWorthR (C:Cl):Sp:=fun vs H Q _=>∃(R:Rn) (as:List Addr) (sl:V) (S:Pu) (v:V) (s:Say),vs=[.ref R.x,v]∧aW C H R as sl S∧S.pl.Ok∧cQ H v s∧s.sok∧Q (wv (S.worth s)) H
noncomputable def spNewT (C:Cl):Sp:=fun vs H Q _=>∃(R:Rn) (as:List Addr) (sl:V) (S:Pu) (n:Str),vs=[.ref R.x,.str n]∧aW C H R as sl S∧S.made < 1000000∧S.pend.length < 1000000∧S.nm.length≤1000000∧∀ H',aW C H' R as sl (S.newT n)→Fw R as as H H'→Q (.int S.made) H'
noncomputable def spEndR (C:Cl):Sp:=fun vs H Q _=>∃(R:Rn) (as:List Addr) (sl:V) (S:Pu) (w:Wo),vs=[.ref R.x,wv w]∧aW C H R as sl S∧Told C R as as H Q (S.ends w)
noncomputable def spWear (C:Cl):Sp:=fun vs H Q _=>∃(R:Rn) (as:List Addr) (sl:V) (S:Pu),vs=[.ref R.x]∧aW C H R as sl S∧Told C R as as H Q S.wears
noncomputable def cY (C:Cl) (wt:Bool) (g:Stm→Prop):Sp:=fun vs H Q _=>∃(R:Rn) (as:List Addr) (sl:V) (S:Pu) (a:V) (m:Stm) (N:Nat),vs=[.ref R.x,a]∧aW C H R as sl S∧S.sl=.non∧dC H a m∧g m∧Fit wt S N∧m.gd wt∧N≤900000∧Told C R as as H Q (deed S m)
noncomputable def spLookR (C:Cl) (wt:Bool):Sp:=fun vs H Q _=>∃(R:Rn) (as:List Addr) (sl:V) (S:Pu) (a:V) (m:Stm) (N:Nat),vs=[.ref R.x,a]∧aW C H R as sl S∧dC H a m∧m.isB=true∧Fit wt S N∧m.gd wt∧stand S.stk=some m∧∀ H',aW C H' R as sl (qX S m)→Fw R as as H H'→Q .non H'
noncomputable def spOneR (C:Cl) (wt:Bool):Sp:=fun vs H Q _=>∃(R:Rn) (as:List Addr) (sl:V) (S:Pu) (a:V) (m:Stm) (N:Nat),vs=[.ref R.x,a]∧aW C H R as sl S∧S.sl=.non∧dC H a m∧Fit wt S N∧m.gd wt∧stand S.stk=some m∧N≤900000∧Told C R as as H Q (one S m)
noncomputable def spGoR (C:Cl) (wt:Bool):Sp:=fun vs H Q _=>∃(R:Rn) (as:List Addr) (sl:V) (S:Pu) (N:Nat),vs=[.ref R.x]∧aW C H R as sl S∧Fit wt {S with sl:=.non} N∧N≤800000∧Told C R as as H Q (gR 300 {S with sl:=.non})
noncomputable def spWaitsR (C:Cl):Sp:=fun vs H Q _=>∃(R:Rn) (as:List Addr) (sl:V) (S:Pu),vs=[.ref R.x]∧aW C H R as sl S∧Q sl H
noncomputable def spOpenR (C:Cl):Sp:=fun vs H Q _=>∃(R:Rn) (as:List Addr) (sl:V) (S:Pu),vs=[.ref R.x]∧aW C H R as sl S∧S.pend.length≤1000000∧∀ l,H l=none→Q (.ref l) (upd H l (.lst (S.pend.map V.int)))
theorem gd_pl {wt:Bool} {S:Pu} {N:Nat} (F:Fit wt S N) {s:Say} (h:s.sok):eC (S.worth s):=ev_wo F.pl h.1
theorem lkP {y:Str} {a:Sp} {r:List (Str×Sp)}:List.lookup y ((y,a)::r)=some a:=by simp only [List.lookup,beq_self_eq_true]
theorem kQ {a b:String} {s:Sp} {r:List (Str×Sp)} (h:a≠b):List.lookup (Str.ofString a) ((Str.ofString b,s)::r)=List.lookup (Str.ofString a) r:=by
 have:((Str.ofString a:Str) == Str.ofString b)=false:=beq_eq_false_iff_ne.mpr fun z=>h (by rwa [lK] at z)
 simp only [List.lookup,this]
theorem lkC {y k:Str} {a sp:Sp} {r:List (Str×Sp)} (h:List.lookup y ((k,a)::r)=some sp):(y=k∧sp=a)∨List.lookup y r=some sp:=by
 simp only [List.lookup] at h
 split at h
 ·next z=>cases h;exact .inl ⟨eq_of_beq z,rfl⟩
 ·exact .inr h
theorem fB {st:Stk} {m:Stm} (h:stand st=some m):∃ k b n r,st=(k,b,n)::r∧b[n]?=some m:=by
 match st,h with
 | (k,b,n)::r,h=>exact ⟨k,b,n,r,rfl,h⟩
theorem rL (S:Pu) (m:Stm):(deed S m).1.stk=S.stk:=by
 cases m<;>simp only [deed,Pu.newT,Pu.ends]
 ·split
  ·split<;>rfl
  ·rfl
 ·split<;>rfl
 ·split<;>rfl
theorem yG {wt:Bool}:∀ st,tJ wt st→tJ wt (cM st)
 | [],h=>h.ok.elim
 | [x],h=>by simp only [cM];exact h
 | (k,b,n)::(k2,b2,n2)::r,h=>by
  rw [cM]
  split
  ·have o:=h.ok.2 (k2,b2,n2) (by simp)
   exact yG ((k2,b2,sO b2 n2)::r) ⟨⟨wU o,fun x hx=>h.ok.2 x (List.mem_cons_of_mem _ hx)⟩,fun x hx=>by
    rcases List.mem_cons.mp hx with rfl | hx
    ·exact h.gd (k2,b2,n2) (by simp)
    ·exact h.gd x (by simp [hx]),⟨h.dp.2.1,h.dp.2.2⟩⟩
  ·exact h
termination_by st=>st.length
theorem Fit.come {wt:Bool} {S:Pu} {N:Nat} (F:Fit wt S N) (h:S.sl=.non):Fit wt S.come N :=
 {F with sk:=yG _ F.sk,sl:=⟨fun k e=>(by rw [show S.come.sl=S.sl from rfl,h] at e;cases e),fun k e=>(by rw [show S.come.sl=S.sl from rfl,h] at e;cases e)⟩}
theorem Fit.more {wt:Bool} {S:Pu} {N M:Nat} (F:Fit wt S N) (h:N≤M):Fit wt S M :=
 {F with nm:=Nat.le_trans F.nm h,md:=Nat.le_trans F.md h,pd:=Nat.le_trans F.pd h,an:=Nat.le_trans F.an h,lt:=Nat.le_trans F.lt h,lw:=fun k ws e=>⟨Nat.le_trans (F.lw k ws e).1 h,(F.lw k ws e).2⟩}
theorem tJ.pass {wt:Bool} {st:Stk} {m:Stm} (G:tJ wt st) (h:stand st=some m):tJ wt (gQ st):=by
 obtain ⟨k,b,n,r,rfl,hm⟩:=fB h
 have hn:=(List.getElem?_eq_some_iff.mp hm).1
 exact ⟨⟨hn,G.ok.2⟩,fun x hx=>by
  rcases List.mem_cons.mp hx with rfl | hx
  ·exact G.gd (k,b,n) (by simp)
  ·exact G.gd x (by simp [hx]),G.dp⟩
theorem tJ.enter {wt:Bool} {st:Stk} {m:Stm} {c:Nat} {bb:List Stm} (G:tJ wt st) (h:stand st=some m) (hg:pS wt bb) (hd:qI bb+1≤m.dp):tJ wt ((c,bb,0)::st):=by
 obtain ⟨k,b,n,r,rfl,hm⟩:=fB h
 have hn:=(List.getElem?_eq_some_iff.mp hm).1
 have h2:=dpL_at hm
 have h3:=G.dp.1
 refine ⟨⟨Nat.zero_le _,fun x hx=>?_⟩,fun x hx=>?_,?_,G.dp⟩
 ·rcases List.mem_cons.mp hx with rfl | hx
  ·exact hn
  ·exact G.ok.2 x hx
 ·rcases List.mem_cons.mp hx with rfl | hx
  ·exact hg
  ·exact G.gd x hx
 ·simp only [List.length_cons]
  omega
theorem Fit.stm {wt:Bool} {S:Pu} {N:Nat} (F:Fit wt S N) {m:Stm} (h:stand S.stk=some m):m.gd wt:=by
 obtain ⟨k,b,n,r,e,hm⟩:=fB h
 exact gdL_at (F.sk.gd (k,b,n) (by rw [e];simp)) hm
theorem ok_put {S:Pu} (h:S.pl.Ok) (n:Str) {w:Wo} (hw:eC w):({S with nm:=dA S.nm n w}:Pu).pl.Ok :=
 ⟨fun x=>by show eC (jD (dA S.nm n w) x);rw [abQ];split;exact hw;exact h.nm x,h.ar,h.an⟩
theorem pA:∀(l:List (Str×List Wo)) (k:Str) (r:List Wo) (j:Str) (ws:List Wo),cC (eO l k r) j=some ws→(j=k∧ws=r)∨cC l j=some ws
 | [],_,_,_,_,h=>by simp [eO,cC] at h
 | p::l,k,r,j,ws,h=>by
  by_cases e:p.1=k
  ·rw [eO,if_pos e,cC] at h
   by_cases e2:p.1=j
   ·rw [if_pos e2] at h
    cases h
    exact .inl ⟨by rw [← e2,e],rfl⟩
   ·rw [if_neg e2] at h
    exact .inr (by rw [cC,if_neg e2];exact h)
  ·rw [eO,if_neg e,cC] at h
   by_cases e2:p.1=j
   ·rw [if_pos e2] at h
    exact .inr (by rw [cC,if_pos e2];exact h)
   ·rw [if_neg e2] at h
    rcases pA l k r j ws h with x | x
    ·exact .inl x
    ·exact .inr (by rw [cC,if_neg e2];exact x)
theorem sH:∀(l:List (Str×List Wo)) (k:Str) (r:List Wo),(eO l k r).length=l.length
 | [],_,_=>rfl
 | p::l,k,r=>by
  rw [eO]
  split
  ·rfl
  ·simp [sH l k r]
theorem vY {ans:List (Int×Wo)} {ws:List Wo} (h:∀ w∈ws,eC w):eC (bW ans ws):=by
 unfold bW
 cases e:ans.find? fun p=>decide (some p.1∈ws) with
 | none=>exact j4
 | some p =>
  have:=List.find?_some e
  exact h _ (by simpa using this)
theorem uK {α:Type} {p:α→Bool} {l:List α}:(l.filter p).length≤l.length:=List.length_filter_le p l
theorem Fit.deed {wt:Bool} {S:Pu} {N:Nat} (F:Fit wt S N) {m:Stm} (h:stand S.stk=some m) (hs:S.sl=.non) (hN:N≤900000):Fit wt (deed S m).1 (N+1):=by
 have g:=F.stm h
 have F1:=F.more (Nat.le_succ N)
 have hsl:(∀ k,S.sl=.hear k→∃ x,stand S.stk=some (.hear x k))∧∀ ts,S.sl=.wait ts→∃ x ss,stand S.stk=some (.wait x ss):=F.sl
 have put:∀(n:Str) {w:Wo},eC w→Fit wt {S with nm:=dA S.nm n w} (N+1):=fun n w hw =>
  {F1 with nm:=by (have:=xW S.nm n w;have:=F.nm;show (dA S.nm n w).length≤N+1;omega),pl:=ok_put F.pl n hw}
 have newT:∀ n,Fit wt (S.newT n) (N+1):=fun n =>
  have hw:eC (some (S.made:Int)):=eI (by omega) (by have:=F.md;omega)
  {F1 with
   nm:=(put n hw).nm
   pl:=(put n hw).pl
   md:=(by have:=F.md;show S.made+1≤N+1;omega)
   pd:=(by have:=F.pd;show (S.pend++[(S.made:Int)]).length≤N+1;rw [List.length_append];simp;exact this)}
 cases m with
 | set x s=>exact put x (gd_pl F g)
 | order x y s=>exact newT x
 | child x y s=>exact newT x
 | timer x s=>exact newT x
 | send s k r=>exact F1
 | drop s =>
  simp only [Own.deed]
  split
  ·split
   ·exact {F1 with pd:=Nat.le_trans uK (Nat.le_succ_of_le F.pd)}
   ·exact F1
  ·exact F1
 | wait x ss =>
  simp only [Own.deed]
  split
  ·exact {F1 with sl:=⟨fun k e=>(by cases e),fun ts e=>⟨x,ss,h⟩⟩}
  ·exact put x (vY fun w hw=>by
    obtain ⟨s,hs',rfl⟩:=List.mem_map.mp hw
    exact gd_pl F (g.2.2 s hs'))
 | hear x k =>
  simp only [Own.deed]
  split
  ·next w r e =>
   obtain ⟨ws,el,rfl⟩:∃ ws,cC S.lt k=some ws∧ws=w::r:=by
    cases el:cC S.lt k with
    | none=>rw [el] at e;cases e
    | some ws=>rw [el] at e;exact ⟨ws,rfl,e⟩
   have hl:=F.lw k _ el
   exact {put x (hl.2 w (by simp)) with
    lt:=(by have:=F.lt;show (eO S.lt k r).length≤N+1;rw [sH];omega)
    lw:=fun j vs hj=>by
     rcases pA S.lt k r j vs hj with ⟨_,rfl⟩ | z
     ·exact ⟨by have:=hl.1;simp only [List.length_cons] at this;omega,fun w hw=>hl.2 w (List.mem_cons_of_mem _ hw)⟩
     ·exact F1.lw j vs z}
  ·exact {F1 with sl:=⟨fun k' e=>(by cases e;exact ⟨x,h⟩),fun ts e=>(by cases e)⟩}
 | fin s=>exact {F1 with pd:=Nat.zero_le _,sl:=⟨fun k e=>(by cases e),fun k e=>(by cases e)⟩}
 | whl s b=>exact F1
 | iff s b o=>exact F1
theorem vL {s:Slp} (h:s.isN=true):s=.non:=by cases s<;>first | rfl | cases h
theorem Fit.one {wt:Bool} {S:Pu} {N:Nat} (F:Fit wt S N) {m:Stm} (h:stand S.stk=some m) (hs:S.sl=.non) (hN:N≤900000):Fit wt (one S m).1 (N+1):=by
 have g:=F.stm h
 have F1:=F.more (Nat.le_succ N)
 have nosl:∀ {st:Stk},Fit wt {S with stk:=st} (N+1)→Fit wt {S with stk:=st} (N+1):=fun z=>z
 have pass:∀ {S':Pu},Fit wt S' (N+1)→S'.sl=.non→S'.stk=S.stk→Fit wt S'.pass (N+1):=fun {S'} z a b =>
  {z with sk:=(by have:=z.sk;rw [b] at this;show tJ wt (gQ S'.stk);rw [b];exact this.pass h),sl:=⟨fun k e=>(by rw [show S'.pass.sl=S'.sl from rfl,a] at e;cases e),fun k e=>(by rw [show S'.pass.sl=S'.sl from rfl,a] at e;cases e)⟩}
 have enter:∀(c:Nat) (bb:List Stm),pS wt bb→qI bb+1≤m.dp→Fit wt (S.enter c bb) (N+1):=fun c bb hg hd =>
  {F1 with sk:=F.sk.enter h hg hd,sl:=⟨fun k e=>(by rw [show (S.enter c bb).sl=S.sl from rfl,hs] at e;cases e),fun k e=>(by rw [show (S.enter c bb).sl=S.sl from rfl,hs] at e;cases e)⟩}
 by_cases hB:m.isB=true
 ·simp only [Own.one,if_pos hB]
  cases m with
  | whl s b =>
   simp only [qX]
   split
   ·exact pass F1 hs rfl
   ·exact enter 0 b g.2 (by simp [Stm.dp])
  | iff s b o =>
   simp only [qX]
   split
   ·exact enter 1 o g.2.2 (by simp [Stm.dp];omega)
   ·exact enter 0 b g.2.1 (by simp [Stm.dp];omega)
  | _=>cases hB
 ·simp only [Own.one,if_neg hB]
  have D:=F.deed h hs hN
  split
  ·next z=>exact pass D (vL z) (rL S m)
  ·exact D
theorem one_nb {S:Pu} {m:Stm} (h:m.isB=false):one S m=(if (deed S m).1.sl.isN=true then (deed S m).1.pass else (deed S m).1,(deed S m).2):=by simp [one,h]
theorem one_b {S:Pu} {m:Stm} (h:m.isB=true):one S m=(qX S m,[]):=by simp [one,h]
theorem j7 {s0 s1 s2 s3 s4 s5 s6 s7 s8:Sp}:List.lookup (Str.ofString "set") [((Str.ofString "set":Str),s0),((Str.ofString "order":Str),s1),((Str.ofString "timer":Str),s2),((Str.ofString "child":Str),s3),((Str.ofString "send":Str),s4),((Str.ofString "drop":Str),s5),((Str.ofString "wait":Str),s6),((Str.ofString "hear":Str),s7),((Str.ofString "end":Str),s8)]=some s0:=by rw [lkP]
theorem fP {s0 s1 s2 s3 s4 s5 s6 s7 s8:Sp}:List.lookup (Str.ofString "order") [((Str.ofString "set":Str),s0),((Str.ofString "order":Str),s1),((Str.ofString "timer":Str),s2),((Str.ofString "child":Str),s3),((Str.ofString "send":Str),s4),((Str.ofString "drop":Str),s5),((Str.ofString "wait":Str),s6),((Str.ofString "hear":Str),s7),((Str.ofString "end":Str),s8)]=some s1:=by rw [kQ (by decide),lkP]
theorem fR {s0 s1 s2 s3 s4 s5 s6 s7 s8:Sp}:List.lookup (Str.ofString "timer") [((Str.ofString "set":Str),s0),((Str.ofString "order":Str),s1),((Str.ofString "timer":Str),s2),((Str.ofString "child":Str),s3),((Str.ofString "send":Str),s4),((Str.ofString "drop":Str),s5),((Str.ofString "wait":Str),s6),((Str.ofString "hear":Str),s7),((Str.ofString "end":Str),s8)]=some s2:=by rw [kQ (by decide),kQ (by decide),lkP]
theorem fQ {s0 s1 s2 s3 s4 s5 s6 s7 s8:Sp}:List.lookup (Str.ofString "child") [((Str.ofString "set":Str),s0),((Str.ofString "order":Str),s1),((Str.ofString "timer":Str),s2),((Str.ofString "child":Str),s3),((Str.ofString "send":Str),s4),((Str.ofString "drop":Str),s5),((Str.ofString "wait":Str),s6),((Str.ofString "hear":Str),s7),((Str.ofString "end":Str),s8)]=some s3:=by rw [kQ (by decide),kQ (by decide),kQ (by decide),lkP]
theorem gY {s0 s1 s2 s3 s4 s5 s6 s7 s8:Sp}:List.lookup (Str.ofString "send") [((Str.ofString "set":Str),s0),((Str.ofString "order":Str),s1),((Str.ofString "timer":Str),s2),((Str.ofString "child":Str),s3),((Str.ofString "send":Str),s4),((Str.ofString "drop":Str),s5),((Str.ofString "wait":Str),s6),((Str.ofString "hear":Str),s7),((Str.ofString "end":Str),s8)]=some s4:=by rw [kQ (by decide),kQ (by decide),kQ (by decide),kQ (by decide),lkP]
theorem hE {s0 s1 s2 s3 s4 s5 s6 s7 s8:Sp}:List.lookup (Str.ofString "drop") [((Str.ofString "set":Str),s0),((Str.ofString "order":Str),s1),((Str.ofString "timer":Str),s2),((Str.ofString "child":Str),s3),((Str.ofString "send":Str),s4),((Str.ofString "drop":Str),s5),((Str.ofString "wait":Str),s6),((Str.ofString "hear":Str),s7),((Str.ofString "end":Str),s8)]=some s5:=by rw [kQ (by decide),kQ (by decide),kQ (by decide),kQ (by decide),kQ (by decide),lkP]
theorem gZ {s0 s1 s2 s3 s4 s5 s6 s7 s8:Sp}:List.lookup (Str.ofString "wait") [((Str.ofString "set":Str),s0),((Str.ofString "order":Str),s1),((Str.ofString "timer":Str),s2),((Str.ofString "child":Str),s3),((Str.ofString "send":Str),s4),((Str.ofString "drop":Str),s5),((Str.ofString "wait":Str),s6),((Str.ofString "hear":Str),s7),((Str.ofString "end":Str),s8)]=some s6:=by rw [kQ (by decide),kQ (by decide),kQ (by decide),kQ (by decide),kQ (by decide),kQ (by decide),lkP]
theorem hZ {s0 s1 s2 s3 s4 s5 s6 s7 s8:Sp}:List.lookup (Str.ofString "hear") [((Str.ofString "set":Str),s0),((Str.ofString "order":Str),s1),((Str.ofString "timer":Str),s2),((Str.ofString "child":Str),s3),((Str.ofString "send":Str),s4),((Str.ofString "drop":Str),s5),((Str.ofString "wait":Str),s6),((Str.ofString "hear":Str),s7),((Str.ofString "end":Str),s8)]=some s7:=by rw [kQ (by decide),kQ (by decide),kQ (by decide),kQ (by decide),kQ (by decide),kQ (by decide),kQ (by decide),lkP]
theorem kC {s0 s1 s2 s3 s4 s5 s6 s7 s8:Sp}:List.lookup (Str.ofString "end") [((Str.ofString "set":Str),s0),((Str.ofString "order":Str),s1),((Str.ofString "timer":Str),s2),((Str.ofString "child":Str),s3),((Str.ofString "send":Str),s4),((Str.ofString "drop":Str),s5),((Str.ofString "wait":Str),s6),((Str.ofString "hear":Str),s7),((Str.ofString "end":Str),s8)]=some s8:=by rw [kQ (by decide),kQ (by decide),kQ (by decide),kQ (by decide),kQ (by decide),kQ (by decide),kQ (by decide),kQ (by decide),lkP]
theorem deeds9 {Z:Str→Sp→Prop} {y:Str} {sp s0 s1 s2 s3 s4 s5 s6 s7 s8:Sp} (h:List.lookup y [((Str.ofString "set":Str),s0),((Str.ofString "order":Str),s1),((Str.ofString "timer":Str),s2),((Str.ofString "child":Str),s3),((Str.ofString "send":Str),s4),((Str.ofString "drop":Str),s5),((Str.ofString "wait":Str),s6),((Str.ofString "hear":Str),s7),((Str.ofString "end":Str),s8)]=some sp) (z0:Z "set" s0) (z1:Z "order" s1) (z2:Z "timer" s2) (z3:Z "child" s3) (z4:Z "send" s4) (z5:Z "drop" s5) (z6:Z "wait" s6) (z7:Z "hear" s7) (z8:Z "end" s8):Z y sp:=by
 rcases lkC h with ⟨rfl,rfl⟩ | h
 ·exact z0
 rcases lkC h with ⟨rfl,rfl⟩ | h
 ·exact z1
 rcases lkC h with ⟨rfl,rfl⟩ | h
 ·exact z2
 rcases lkC h with ⟨rfl,rfl⟩ | h
 ·exact z3
 rcases lkC h with ⟨rfl,rfl⟩ | h
 ·exact z4
 rcases lkC h with ⟨rfl,rfl⟩ | h
 ·exact z5
 rcases lkC h with ⟨rfl,rfl⟩ | h
 ·exact z6
 rcases lkC h with ⟨rfl,rfl⟩ | h
 ·exact z7
 rcases lkC h with ⟨rfl,rfl⟩ | h
 ·exact z8
 cases h
theorem dG {S:Pu} (h:stand S.come.stk=none) (n:Nat):gR n S=S.come.ends none:=by
 cases n<;>simp only [gR,h]
theorem h8 {S:Pu} {m:Stm} (h:stand S.come.stk=some m):gR 0 S=S.come.wears:=by simp only [gR,h]
theorem mD {S:Pu} {m:Stm} (h:stand S.come.stk=some m) (z:(one S.come m).1.sl.isN=true) (n:Nat):gR (n+1) S=((gR n (one S.come m).1).1,(one S.come m).2++(gR n (one S.come m).1).2):=by simp only [gR,h,z,if_true]
theorem iJ {S:Pu} {m:Stm} (h:stand S.come.stk=some m) (z:(one S.come m).1.sl.isN=false) (n:Nat):gR (n+1) S=one S.come m:=by simp only [gR,h,z,if_false,Bool.false_eq_true]
theorem xP (S:Pu) (m:Stm):(deed S m).2.length≤1:=by
 cases m<;>simp only [deed,Pu.ends,List.length_cons,List.length_nil,Nat.zero_le,Nat.le_refl,Nat.zero_add]
 ·split
  ·split<;>simp
  ·simp
 ·split<;>simp
 ·split<;>simp
theorem one_len (S:Pu) (m:Stm):(one S m).2.length≤1:=by
 unfold one
 split
 ·simp
 ·exact xP S m
inductive Hap where
 | beg (m:Int) (w:Wo) | don (m t:Int) (w:Wo) | ltr (m:Int) (k:Str) (w:Wo)
noncomputable def Hap.ini:Hap→List V
 | .beg m _=>[.str "begin",.int m]
 | .don m t _=>[.str "done",.int m,.int t]
 | .ltr m k _=>[.str "letter",.int m,.str k]
noncomputable def Hap.w:Hap→Wo
 | .beg _ w | .don _ _ w | .ltr _ _ w=>w
noncomputable def Hap.vs (h:Hap):List V:=h.ini++[wv h.w]
noncomputable def Hap.m:Hap→Int
 | .beg m _ | .don m _ _ | .ltr m _ _=>m
noncomputable def pG (H:Hp) (v:V) (h:Hap):Prop:=∃ a,v=.ref a∧H a=some (.tup h.vs)
noncomputable def Pu.over (S:Pu) (h:Hap):Bool:=match S.sl with
 | .new=>(match h with
  | .beg _ _=>false
  | _=>true)
 | .ended _=>true
 | .worn=>true
 | _=>(match h with
  | .beg _ _=>true
  | .don _ i _=>!decide (i∈S.pend)
  | .ltr _ _ _=>false)
noncomputable def fU (l:List (Str×List Wo)) (k:Str) (w:Wo):List (Str×List Wo):=match cC l k with
 | some ws=>eO l k (ws++[w])
 | none=>l++[(k,[w])]
noncomputable def Pu.at' (S:Pu) (m:Int):Pu:={S with nw:=later S.nw m}
noncomputable def Pu.done (S:Pu) (i:Int) (w:Wo):Pu:={S with pend:=S.pend.filter fun j=>decide (j≠i),ans:=S.ans++[(i,w)]}
noncomputable def Pu.takeD (S:Pu) (i:Int) (w:Wo):Pu×Cmds:=match S.sl with
 | .wait ts=>if i∈ts then (S.done i w).wake (some i) else (S.done i w,[])
 | _=>(S.done i w,[])
noncomputable def Pu.takeL (S:Pu) (k:Str) (w:Wo):Pu×Cmds:=match S.sl with
 | .hear k'=>if k'=k then S.wake w else ({S with lt:=fU S.lt k w},[])
 | _=>({S with lt:=fU S.lt k w},[])
noncomputable def Pu.take (S:Pu) (h:Hap):Pu×Cmds:=if S.over h=true then (S,[]) else match h with
 | .beg m w=>gR 300 {S with nw:=later S.nw m,ar:=w,sl:=.non}
 | .don m i w=>(S.at' m).takeD i w
 | .ltr m k w=>(S.at' m).takeL k w
noncomputable def dU (b:List Stm):Pu:=⟨[(0,b,0)],.new,none,0,[],0,[],[],[]⟩
noncomputable def spOver (C:Cl):Sp:=fun vs H Q _=>∃(R:Rn) (as:List Addr) (sl:V) (S:Pu) (v:V) (h:Hap),vs=[.ref R.x,v]∧aW C H R as sl S∧S.sl.isN=false∧pG H v h∧∀ H',Kp [] H H'→Q (.bl (S.over h)) H'
noncomputable def spWakeR (C:Cl) (wt:Bool):Sp:=fun vs H Q _=>∃(R:Rn) (as:List Addr) (sl:V) (S:Pu) (w:Wo) (N:Nat),vs=[.ref R.x,wv w]∧aW C H R as sl S∧Fit wt S N∧N≤700000∧eC w∧((∃ k,S.sl=.hear k)∨∃ ts,S.sl=.wait ts)∧Told C R as as H Q (S.wake w)
noncomputable def spTDone (C:Cl) (wt:Bool):Sp:=fun vs H Q _=>∃(R:Rn) (as:List Addr) (sl:V) (S:Pu) (i:Int) (w:Wo) (N:Nat),vs=[.ref R.x,.int i,wv w]∧aW C H R as sl S∧Fit wt S N∧N≤600000∧eC w∧i∈S.pend∧S.sl.isN=false∧Told C R as as H Q (S.takeD i w)
noncomputable def ToldN (C:Cl) (R:Rn) (as as':List Addr) (H:Hp) (Q:VK) (z:Pu×Cmds):Prop:=∀(sl:V) (c:Addr) (us:List V) (H':Hp),aW C H' R as' sl z.1→H c=none→c∉as'→H' c=some (.lst us)→gA H' us z.2→Fw R as as' H H'→Q (.ref c) H'
noncomputable def spTLet (C:Cl) (wt:Bool):Sp:=fun vs H Q _=>∃(R:Rn) (as:List Addr) (sl:V) (S:Pu) (k:Str) (w:Wo) (N:Nat),vs=[.ref R.x,.str k,wv w]∧aW C H R as sl S∧Fit wt S N∧N≤600000∧eC w∧((∃ k,S.sl=.hear k)∨∃ ts,S.sl=.wait ts)∧∀ as',ToldN C R as as' H Q (S.takeL k w)
noncomputable def spTakeR (C:Cl) (wt:Bool):Sp:=fun vs H Q _=>∃(R:Rn) (as:List Addr) (sl:V) (S:Pu) (v:V) (h:Hap) (N:Nat),vs=[.ref R.x,v]∧aW C H R as sl S∧Fit wt S N∧N≤500000∧S.sl.isN=false∧pG H v h∧((0≤h.m∧h.m≤1000000000000)∧eC h.w)∧∀ as',ToldN C R as as' H Q (S.take h)
noncomputable def aaR (C:Cl):Sp:=fun vs H Q _=>∃(x dx pg:Addr) (us:List V) (b:List Stm),vs=[.ref x,.ref pg]∧H x=some (.ins C.r dx [])∧H pg=some (.tup us)∧cA H us b ∧
 ∀(R:Rn) (sl:V) (H':Hp),R.x=x→aW C H' R [] sl (dU b)→Kp [x] H H'→(∀ a∈R.cells,a=x∨H a=none)→Q .non H'
theorem in_ints (i:Int) (ts:List Int):vC (.int i) (ts.map V.int)=decide (i∈ts):=by
 rw [Bool.eq_iff_iff]
 simp [vC,oJ]
theorem abU (ts:List Int):(ts.map V.int).all dP=true:=by simp [dP]
theorem hear_eq {K:PySem.W.Frag} {H:Hp} {a b:Addr} {z x y:Str} (n:Nat) (ha:H a=some (.tup [.str z,.str x])) (hb:H b=some (.tup [.str z,.str y])):n9 K H (n+1) a b (decide (x=y)):=by
 have:=n9.tup (K:=K) (H:=H) (n:=n) (e:=fun j=>if j=0 then true else decide (x=y)) (gO.of ha) (gO.of hb) fun j u v e1 e2=>by
  rcases j with _ | _ | j
  ·simp only [List.getElem?_cons_zero,Option.some.injEq] at e1 e2
   subst e1 e2
   have:=pT.flat (K:=K) (H:=H) (n:=n) (x:=.str z) (y:=.str z) rfl rfl
   rwa [show oJ (.str z) (.str z)=true by simp [oJ]] at this
  ·simp only [List.getElem?_cons_succ,List.getElem?_cons_zero,Option.some.injEq] at e1 e2
   subst e1 e2
   have:=pT.flat (K:=K) (H:=H) (n:=n) (x:=.str x) (y:=.str y) rfl rfl
   rwa [aaJ] at this
  ·simp at e1
 rw [show ((List.range (min [V.str z,V.str x].length [V.str z,V.str y].length)).all (fun j=>if j=0 then true else decide (x=y)) && [V.str z,V.str x].length == [V.str z,V.str y].length)=decide (x=y) by simp [List.range_succ]] at this
 exact this
theorem Fit.at' {wt:Bool} {S:Pu} {N:Nat} (F:Fit wt S N) {m:Int} (h:0≤m∧m≤1000000000000):Fit wt (S.at' m) N :=
 {F with pl:=⟨F.pl.nm,F.pl.ar,F.pl.an⟩,nw:=(by have:=F.nw;show 0≤later S.nw m∧later S.nw m≤1000000000000;unfold later;split<;>omega)}
theorem rY {i:Int} {w:Wo}:∀(l:List (Int×Wo)) (x:Wo),e8 (l++[(i,w)]) x=e8 l x∨e8 (l++[(i,w)]) x=w
 | _,none=>.inl (by simp [e8])
 | [],some j=>by
  by_cases h:i=j
  ·exact .inr (by simp [e8,h])
  ·exact .inl (by simp [e8,h])
 | p::r,some j=>by
  by_cases h:p.1=j
  ·exact .inl (by simp [e8,h])
  ·rcases rY (i:=i) (w:=w) r (some j) with z | z
   ·exact .inl (by simp [e8,h,z])
   ·exact .inr (by simp [e8,h,z])
theorem Fit.done {wt:Bool} {S:Pu} {N:Nat} (F:Fit wt S N) {i:Int} {w:Wo} (hw:eC w):Fit wt (S.done i w) (N+1) :=
 {F.more (Nat.le_succ N) with
  pd:=Nat.le_trans uK (Nat.le_succ_of_le F.pd)
  an:=(by have:=F.an;show (S.ans++[(i,w)]).length≤N+1;simp;exact this)
  pl:=⟨F.pl.nm,F.pl.ar,fun x=>(by
   show eC (e8 (S.ans++[(i,w)]) x)
   rcases rY (i:=i) (w:=w) S.ans x with z | z
   ·rw [z];exact F.pl.an x
   ·rw [z];exact hw)⟩}
theorem sM {k:Str} {ws:List Wo}:∀(l:List (Str×List Wo)) (j:Str) (vs:List Wo),cC (l++[(k,ws)]) j=some vs→(j=k∧vs=ws)∨cC l j=some vs
 | [],j,vs,h=>by
  rw [List.nil_append,cC] at h
  by_cases e:k=j
  ·rw [if_pos e] at h;cases h;exact .inl ⟨e.symm,rfl⟩
  ·rw [if_neg e] at h;cases h
 | p::r,j,vs,h=>by
  rw [List.cons_append,cC] at h
  by_cases e:p.1=j
  ·rw [if_pos e] at h;exact .inr (by rw [cC,if_pos e];exact h)
  ·rw [if_neg e] at h
   rcases sM r j vs h with z | z
   ·exact .inl z
   ·exact .inr (by rw [cC,if_neg e];exact z)
theorem Fit.fU {wt:Bool} {S:Pu} {N:Nat} (F:Fit wt S N) {k:Str} {w:Wo} (hw:eC w):Fit wt {S with lt:=fU S.lt k w} (N+1):=by
 have F1:=F.more (Nat.le_succ N)
 unfold Own.fU
 cases e:cC S.lt k with
 | some ws =>
  have hl:=F.lw k ws e
  exact {F1 with
   lt:=(by have:=F.lt;show (eO S.lt k (ws++[w])).length≤N+1;rw [sH];omega)
   lw:=fun j vs h=>by
    rcases pA S.lt k _ j vs h with ⟨_,rfl⟩ | z
    ·exact ⟨by have:=hl.1;simp;exact this,fun u hu=>by
      rcases List.mem_append.mp hu with hu | hu
      ·exact hl.2 u hu
      ·rw [show u=w by simpa using hu];exact hw⟩
    ·exact F1.lw j vs z}
 | none =>
  exact {F1 with
   lt:=(by have:=F.lt;show (S.lt++[(k,[w])]).length≤N+1;simp;exact this)
   lw:=fun j vs h=>by
    rcases sM S.lt j vs h with ⟨_,rfl⟩ | z
    ·exact ⟨by simp,fun u hu=>by rw [show u=w by simpa using hu];exact hw⟩
    ·exact F1.lw j vs z}
theorem vJ {k:Str} {a b:List Wo}:∀ {l:List (Str×List Wo)},cC l k=none→eO (l++[(k,a)]) k b=l++[(k,b)]
 | [],_=>by simp [eO]
 | p::r,h=>by
  rw [cC] at h
  by_cases e:p.1=k
  ·rw [if_pos e] at h;cases h
  ·rw [if_neg e] at h
   rw [List.cons_append,eO,if_neg e,vJ h]
   rfl
theorem Fit.wake {wt:Bool} {S:Pu} {N:Nat} (F:Fit wt S N) {m:Stm} (h:stand S.stk=some m) {w:Wo} (hw:eC w) (n:Str):Fit wt {S with nm:=dA S.nm n w,stk:=gQ S.stk,sl:=.non} (N+1) :=
 {F.more (Nat.le_succ N) with
  nm:=(by have:=xW S.nm n w;have:=F.nm;show (dA S.nm n w).length≤N+1;omega)
  pl:=(ok_put F.pl n hw)
  sk:=F.sk.pass h
  sl:=⟨fun k e=>(by cases e),fun k e=>(by cases e)⟩}
theorem frJ {x:Addr} {H G:Hp} {p:Addr} {u:HO} (k:Kp [x] H G) (gx:G x=some u) (hp:G p=none):H p=none:=by
 cases z:H p with
 | none=>rfl
 | some o =>
  by_cases hz:p=x
  ·subst hz
   rw [gx] at hp
   cases hp
  ·rw [k.at1 z hz] at hp
   cases hp
theorem mk_walk {C:Addr} {H1:Hp} {pg:Addr} {us:List V} {b:List Stm} {Q:Addr→Hp→Prop} {E:XK} (ep:H1 pg=some (.tup us)) (hs:cA H1 us b)
    (q:∀ x wx lb ln H',Kp [] H1 H'→H1 x=none→H1 lb=none→H1 ln=none→iS C H' x wx lb ln [(0,b,0)]→Q x H') :
    ∀ x dx,H1 x=none→H1 dx=none→dx≠x→xX C [.ref x,.ref pg] (upd (upd H1 dx (.own x)) x (.ins C dx [])) (fun v H2=>v=.non∧Q x H2) E:=fun x dx hx hdx ne=>by
  have K1:Kp [] H1 (upd (upd H1 dx (.own x)) x (.ins C dx [])):=(Kp.new hdx).trans (Kp.new (by rw [aI ne.symm];exact hx))
  exact ⟨x,dx,pg,us,b,rfl,aA,K1.at ep,hs.kp (aK.nil K1),fun lb ln H' f1 f2 W K=>⟨rfl,q x dx lb ln H' (Kp.drop ((K1.mono (by simp)).trans K) hx) hx (cK (cK f1)) (cK (cK f2)) W⟩⟩
theorem mk_tk {C:Addr} {H1:Hp} {Q:Addr→Hp→Prop} {E:XK}
    (q:∀ x tx dp da H',Kp [] H1 H'→H1 x=none→H1 dp=none→H1 da=none→gX C H' x tx dp da 0 [] []→Q x H') :
    ∀ x dx,H1 x=none→H1 dx=none→dx≠x→xO C [.ref x] (upd (upd H1 dx (.own x)) x (.ins C dx [])) (fun v H2=>v=.non∧Q x H2) E:=fun x dx hx hdx ne=>by
  have K1:Kp [] H1 (upd (upd H1 dx (.own x)) x (.ins C dx [])):=(Kp.new hdx).trans (Kp.new (by rw [aI ne.symm];exact hx))
  exact ⟨x,dx,rfl,aA,fun dp da H' f1 f2 T K=>⟨rfl,q x dx dp da H' (Kp.drop ((K1.mono (by simp)).trans K) hx) hx (cK (cK f1)) (cK (cK f2)) T⟩⟩
theorem mk_run {C:Cl} {H1:Hp} {pg:Addr} {us:List V} {b:List Stm} {Q:Addr→Hp→Prop} {E:XK} (ep:H1 pg=some (.tup us)) (hs:cA H1 us b)
    (q:∀(R:Rn) (sl:V) H',aW C H' R [] sl (dU b)→Kp [] H1 H'→(∀ a∈R.cells,H1 a=none)→Q R.x H') :
    ∀ x dx,H1 x=none→H1 dx=none→dx≠x→aaR C [.ref x,.ref pg] (upd (upd H1 dx (.own x)) x (.ins C.r dx [])) (fun v H2=>v=.non∧Q x H2) E:=fun x dx hx hdx ne=>by
  have K1:Kp [] H1 (upd (upd H1 dx (.own x)) x (.ins C.r dx [])):=(Kp.new hdx).trans (Kp.new (by rw [aI ne.symm];exact hx))
  refine ⟨x,dx,pg,us,b,rfl,aA,K1.at ep,hs.kp (aK.nil K1),fun R sl H' e1 A K M=>⟨rfl,?_⟩⟩
  subst e1
  exact q R sl H' A (Kp.drop ((K1.mono (by simp)).trans K) hx) fun a ha=>by
    rcases M a ha with rfl | z
    · exact hx
    · exact cK (cK z)
noncomputable def abT (C:Addr):Sp:=fun vs H Q _=>∃(tk tx dp da l:Addr) (made:Nat) (pend:List Int) (ans:List (Int×Wo)) (ws:List Wo),vs=[.ref tk,.ref l]∧gX C H tk tx dp da made pend ans∧H l=some (.lst (ws.map wv))∧ws.length≤4∧ans.length≤1000000∧∀ H',Kp [] H H'→Q (wv (bW ans ws)) H'
noncomputable def inA (ans:List (Int×Wo)) (w:Wo):Bool:=ans.any fun p=>decide (w=some p.1)
noncomputable def bP (ans:List (Int×Wo)):List Wo→List Int
 | []=>[]
 | none::r=>bP ans r
 | some i::r=>if inA ans (some i)=true then i::bP ans r else bP ans r
theorem ans_val (ans:List (Int×Wo)) (w:Wo):(bY (iU ans) (wk w)).isSome=inA ans w:=by
 induction ans with
 | nil=>simp [iU,wJ,inA]
 | cons p r ih =>
  have e:iU (p::r)=(Key.inl p.1,wv p.2)::iU r:=rfl
  rw [e]
  by_cases h:w=some p.1
  ·subst h
   rw [show wk (some p.1)=Key.inl p.1 from rfl,cE rfl]
   simp [inA]
  ·rw [bZ (fun z=>h (by cases w with
    | none=>cases z
    | some j=>cases z;rfl)),ih]
   simp [inA,h]
theorem inA_none (ans:List (Int×Wo)):inA ans none=false:=by simp [inA]
theorem oY (ans:List (Int×Wo)):∀(l r:List Wo),bP ans (l++r)=bP ans l++bP ans r
 | [],r=>rfl
 | none::l,r=>by simp only [List.cons_append,bP,oY ans l r]
 | some i::l,r=>by
  simp only [List.cons_append,bP,oY ans l r]
  split<;>simp
theorem zY {ans:List (Int×Wo)} {ws:List Wo} {i:Nat} {w:Wo} (e:ws[i]?=some w):(bP ans (ws.take (i+1))).map V.int=if inA ans w=true then (bP ans (ws.take i)).map V.int++[wv w] else (bP ans (ws.take i)).map V.int:=by
 rw [List.take_add_one,e]
 simp only [Option.toList_some,oY,List.map_append]
 cases w with
 | none=>rw [inA_none];simp [bP]
 | some j =>
  simp only [bP]
  split<;>simp [wv]
theorem mE (ans:List (Int×Wo)):∀ ws:List Wo,(bP ans ws).length≤ws.length
 | []=>Nat.le_refl _
 | none::r=>by have:=mE ans r;simp only [bP,List.length_cons];omega
 | some i::r=>by
  have:=mE ans r
  simp only [bP,List.length_cons]
  split
  ·simp only [List.length_cons];omega
  ·omega
theorem jT {ans:List (Int×Wo)} {i:Int}:∀ {ws:List Wo},i∈bP ans ws↔inA ans (some i)=true∧some i∈ws
 | []=>by simp [bP]
 | none::r=>by simp [bP,jT (ws:=r)]
 | some j::r=>by
  have ih:=jT (ans:=ans) (i:=i) (ws:=r)
  simp only [bP]
  split
  ·next h =>
   simp only [List.mem_cons,ih,Option.some.injEq]
   constructor
   ·rintro (rfl | ⟨a,b⟩)
    ·exact ⟨h,.inl rfl⟩
    ·exact ⟨a,.inr b⟩
   ·rintro ⟨a,b | b⟩
    ·exact .inl b
    ·exact .inr ⟨a,b⟩
  ·next h =>
   rw [ih]
   simp only [List.mem_cons,Option.some.injEq]
   constructor
   ·rintro ⟨a,b⟩;exact ⟨a,.inr b⟩
   ·rintro ⟨a,b | b⟩
    ·subst b;exact absurd a h
    ·exact ⟨a,b⟩
theorem xR (i:Int):∀ ns:List Int,vC (.int i) (ns.map V.int)=decide (i∈ns)
 | []=>by simp [vC]
 | n::r=>by
  have ih:=xR i r
  simp only [vC,List.map_cons,List.any_cons] at ih ⊢
  rw [ih]
  by_cases h:n=i
  ·subst h;simp [oJ]
  ·have:oJ (V.int n) (V.int i)=false:=by simp [oJ,h]
   rw [this]
   simp [Ne.symm h]
theorem sV {α:Type} {p q:α→Bool}:∀ {l:List α},(∀ x∈l,p x=q x)→l.find? p=l.find? q
 | [],_=>rfl
 | x::l,h=>by
  simp only [List.find?,h x (by simp),sV fun y hy=>h y (List.mem_cons_of_mem _ hy)]
theorem sK (ans:List (Int×Wo)) (ws:List Wo):bW ans ws=((ans.map (·.1)).filter fun i=>decide (i∈bP ans ws)).head?:=by
 unfold bW
 rw [List.head?_filter,List.find?_map]
 congr 1
 refine sV fun p hp=>?_
 have:inA ans (some p.1)=true:=by simp only [inA,List.any_eq_true];exact ⟨p,hp,by simp⟩
 simp only [Function.comp,jT,this,true_and]
theorem qU {val:Nat→Int} {j:Int}:∀ {n:Nat},j∈once val n↔∃ k,k < n∧val k=j
 | 0=>by simp [once]
 | n+1=>by
  have ih:=qU (val:=val) (j:=j) (n:=n)
  have up:(∃ k,k < n+1∧val k=j)↔(∃ k,k < n∧val k=j)∨val n=j:=by
   constructor
   ·rintro ⟨k,hk,e⟩
    by_cases h:k=n
    ·subst h;exact .inr e
    ·exact .inl ⟨k,by omega,e⟩
   ·rintro (⟨k,hk,e⟩ | e)
    ·exact ⟨k,by omega,e⟩
    ·exact ⟨n,by omega,e⟩
  rw [up,once]
  split
  ·next h =>
   rw [ih]
   constructor
   ·exact .inl
   ·rintro (z | z)
    ·exact z
    ·subst z;exact qU.mp h
  ·simp only [List.mem_append,List.mem_singleton,ih]
   constructor
   ·rintro (z | z)
    ·exact .inl z
    ·exact .inr z.symm
   ·rintro (z | z)
    ·exact .inl z
    ·exact .inr z.symm
theorem lW {ns:List Int} {j:Int}:j∈kO ns↔j∈ns:=by
 unfold kO
 rw [qU,List.mem_iff_getElem]
 constructor
 ·rintro ⟨k,hk,e⟩
  exact ⟨k,hk,by rw [List.getD_eq_getElem?_getD,List.getElem?_eq_getElem hk] at e;exact e⟩
 ·rintro ⟨k,hk,e⟩
  exact ⟨k,hk,by rw [List.getD_eq_getElem?_getD,List.getElem?_eq_getElem hk];exact e⟩
theorem once_one {ns:List Int} (h:(kO ns).length < 2) {i j:Int} (hi:i∈ns) (hj:j∈ns):i=j:=by
 have a:=lW.mpr hi
 have b:=lW.mpr hj
 match e:kO ns,h with
 | [],_=>rw [e] at a;cases a
 | [x],_ =>
  rw [e] at a b
  rw [List.mem_singleton.mp a,List.mem_singleton.mp b]
theorem first_one {ans:List (Int×Wo)} {ws:List Wo} (h:(kO (bP ans ws)).length < 2):bW ans ws=(bP ans ws).head?:=by
 rw [sK]
 cases e:bP ans ws with
 | nil=>simp
 | cons i r =>
  have hi:i∈bP ans ws:=by rw [e];simp
  have he:∀ j∈bP ans ws,j=i:=fun j hj=>once_one h hj hi
  obtain ⟨p,hp,ep⟩:=List.any_eq_true.mp (jT.mp hi).1
  have ep:i=p.1:=by simpa using ep
  show _=some i
  have hm:i∈((ans.map (·.1)).filter fun j=>decide (j∈i::r)):=List.mem_filter.mpr ⟨List.mem_map.mpr ⟨p,hp,ep.symm⟩,by simp⟩
  cases z:((ans.map (·.1)).filter fun j=>decide (j∈i::r)) with
  | nil=>rw [z] at hm;cases hm
  | cons x xs =>
   have hx:x∈((ans.map (·.1)).filter fun j=>decide (j∈i::r)):=by rw [z];simp
   have:=he x (by rw [e];simpa using (List.mem_filter.mp hx).2)
   rw [this]
   rfl
theorem yX {ans:List (Int×Wo)} {ws:List Wo} (h:¬ (kO (bP ans ws)).length < 2):∃ i r,((ans.map (·.1)).filter fun i=>decide (i∈bP ans ws))=i::r∧bW ans ws=some i:=by
 have hf:=sK ans ws
 cases z:((ans.map (·.1)).filter fun i=>decide (i∈bP ans ws)) with
 | cons i r=>rw [z] at hf;exact ⟨i,r,rfl,hf⟩
 | nil =>
  exfalso
  cases e:kO (bP ans ws) with
  | nil=>rw [e] at h;exact h (by simp)
  | cons i r =>
   have hi:i∈bP ans ws:=lW.mp (by rw [e];simp)
   obtain ⟨p,hp,ep⟩:=List.any_eq_true.mp (jT.mp hi).1
   have ep:i=p.1:=by simpa using ep
   have hm:i∈((ans.map (·.1)).filter fun i=>decide (i∈bP ans ws)):=List.mem_filter.mpr ⟨List.mem_map.mpr ⟨p,hp,ep.symm⟩,by simpa using hi⟩
   rw [z] at hm
   cases hm
theorem eW.atW {H:Hp} {vs:List V} {ss:List Say} (h:eW H vs ss):∀ {i:Nat} {x:V},vs[i]?=some x→∃ y,ss[i]?=some y∧cQ H x y:=by
 induction h with
 | nil=>intro i x e;simp at e
 | cons h _ ih =>
  intro i x e
  cases i with
  | zero=>simp only [List.getElem?_cons_zero,Option.some.injEq] at e;subst e;exact ⟨_,rfl,h⟩
  | succ i=>exact ih (by simpa using e)
theorem eW.lenW {H:Hp} {vs:List V} {ss:List Say} (h:eW H vs ss):vs.length=ss.length:=by
 induction h with
 | nil=>rfl
 | cons _ _ ih=>simp [ih]
noncomputable def dH (pend:List Int):List Wo→List Int
 | []=>[]
 | none::r=>dH pend r
 | some i::r=>if i∈pend then i::dH pend r else dH pend r
theorem oP (pend:List Int):∀(l r:List Wo),dH pend (l++r)=dH pend l++dH pend r
 | [],r=>rfl
 | none::l,r=>by simp only [List.cons_append,dH,oP pend l r]
 | some i::l,r=>by
  simp only [List.cons_append,dH,oP pend l r]
  split<;>simp
theorem yU {pend:List Int} {ws:List Wo} {i:Nat} {w:Wo} (e:ws[i]?=some w):(dH pend (ws.take (i+1))).map V.int=if decide (∃ j∈pend,w=some j)=true then (dH pend (ws.take i)).map V.int++[wv w] else (dH pend (ws.take i)).map V.int:=by
 rw [List.take_add_one,e]
 simp only [Option.toList_some,oP,List.map_append]
 cases w with
 | none=>simp [dH]
 | some j =>
  by_cases h:j∈pend
  ·simp [dH,h,wv]
  ·simp [dH,h]
theorem jR (pend:List Int):∀ ws:List Wo,(dH pend ws).length≤ws.length
 | []=>Nat.le_refl _
 | none::r=>by have:=jR pend r;simp only [dH,List.length_cons];omega
 | some i::r=>by
  have:=jR pend r
  simp only [dH,List.length_cons]
  split
  ·simp only [List.length_cons];omega
  ·omega
theorem sJ {i j:Int}:∀ {l:List Int},j∈xY i l↔j=i∨j∈l
 | []=>by simp [xY]
 | k::r=>by
  have ih:=sJ (i:=i) (j:=j) (l:=r)
  simp only [xY]
  split
  ·simp
  ·split
   ·next h =>
    subst h
    simp only [List.mem_cons]
    constructor
    ·exact .inr
    ·rintro (z | z)
     ·exact .inl z
     ·exact z
   ·simp only [List.mem_cons,ih]
    constructor
    ·rintro (z | z | z)
     ·exact .inr (.inl z)
     ·exact .inl z
     ·exact .inr (.inr z)
    ·rintro (z | z | z)
     ·exact .inr (.inl z)
     ·exact .inl z
     ·exact .inr (.inr z)
theorem xT {i:Int}:∀ {l:List Int},l.Pairwise (· < ·)→(xY i l).Pairwise (· < ·)
 | [],_=>by simp [xY]
 | k::r,h=>by
  obtain ⟨h1,h2⟩:=List.pairwise_cons.mp h
  simp only [xY]
  split
  ·next c=>exact List.pairwise_cons.mpr ⟨fun x hx=>by
    rcases List.mem_cons.mp hx with rfl | hx
    ·exact c
    ·have:=h1 x hx;omega,h⟩
  ·split
   ·exact h
   ·exact List.pairwise_cons.mpr ⟨fun x hx=>by
     rcases sJ.mp hx with rfl | hx
     ·omega
     ·exact h1 x hx,xT h2⟩
theorem iQ (pend:List Int):∀ ws:List Wo,(cG pend ws).Pairwise (· < ·)
 | []=>.nil
 | none::r=>iQ pend r
 | some i::r=>by
  simp only [cG]
  split
  ·exact xT (iQ pend r)
  ·exact iQ pend r
theorem m9 {pend:List Int} {j:Int}:∀ {ws:List Wo},j∈cG pend ws↔j∈dH pend ws
 | []=>by simp [cG,dH]
 | none::r=>by simp only [cG,dH];exact m9
 | some i::r=>by
  have ih:=m9 (pend:=pend) (j:=j) (ws:=r)
  simp only [cG,dH]
  split
  ·rw [sJ,ih,List.mem_cons]
  ·exact ih
theorem sG (val:Nat→Int):∀ n,(once val n).Nodup
 | 0=>by simp [once]
 | n+1=>by
  have ih:=sG val n
  rw [once]
  split
  ·exact ih
  ·next h=>exact List.nodup_append.mpr ⟨ih,by simp,fun a ha b hb=>by
    rw [List.mem_singleton.mp hb]
    exact fun z=>h (z ▸ ha)⟩
theorem wZ {pend:List Int} {ws:List Wo} {ns:List Int} (hp:ns.Perm (kO (dH pend ws))) (hs:ns.Pairwise (·≤·)):ns=cG pend ws:=by
 refine pJ (hp.trans ?_) hs (iQ pend ws)
 refine (List.perm_ext_iff_of_nodup (sG _ _) ((iQ pend ws).imp fun h=>by omega)).mpr fun j=>?_
 show j∈kO _↔_
 rw [lW,m9]
inductive eU (H:Hp):List V→List (V×V)→Prop
 | nil:eU H [] []
 | cons {a:Addr} {x y:V} {us:List V} {ps:List (V×V)}:H a=some (.tup [x,y])→eU H us ps→eU H (.ref a::us) ((x,y)::ps)
theorem eU.kt {H H':Hp} {us:List V} {ps:List (V×V)} (h:eU H us ps) (k:aK H H'):eU H' us ps:=by
 induction h with
 | nil=>exact .nil
 | cons a _ ih=>exact .cons (k _ _ a) ih
theorem eU.snoc {H:Hp} {us:List V} {ps:List (V×V)} {a:Addr} {x y:V} (h:eU H us ps) (e:H a=some (.tup [x,y])):eU H (us++[.ref a]) (ps++[(x,y)]):=by
 induction h with
 | nil=>exact .cons e .nil
 | cons b _ ih=>exact .cons b ih
theorem eU.len {H:Hp} {us:List V} {ps:List (V×V)} (h:eU H us ps):us.length=ps.length:=by
 induction h with
 | nil=>rfl
 | cons _ _ ih=>simp [ih]
theorem eU.of {H:Hp}:∀ {as:List Addr} {ps:List (V×V)},as.length=ps.length→(∀(j:Nat) (a:Addr) (x y:V),as[j]?=some a→ps[j]?=some (x,y)→H a=some (.tup [x,y]))→eU H (as.map V.ref) ps
 | [],[],_,_=>.nil
 | [],_::_,h,_=>by simp at h
 | _::_,[],h,_=>by simp at h
 | a::as,(x,y)::ps,h,g=>.cons (g 0 a x y rfl rfl) (eU.of (by simpa using h) fun j b x y e1 e2=>g (j+1) b x y (by simpa using e1) (by simpa using e2))
inductive gW (H:Hp):List V→List (Str×List Wo)→Prop
 | nil:gW H [] []
 | cons {a b:Addr} {k:Str} {ws:List Wo} {us:List V} {ps:List (Str×List Wo)}:H a=some (.tup [.str k,.ref b])→H b=some (.tup (ws.map wv))→gW H us ps→gW H (.ref a::us) ((k,ws)::ps)
theorem gW.kt {H H':Hp} {us:List V} {ps:List (Str×List Wo)} (h:gW H us ps) (k:aK H H'):gW H' us ps:=by
 induction h with
 | nil=>exact .nil
 | cons a b _ ih=>exact .cons (k _ _ a) (k _ _ b) ih
theorem gW.snoc {H:Hp} {us:List V} {ps:List (Str×List Wo)} {a b:Addr} {k:Str} {ws:List Wo} (h:gW H us ps) (e:H a=some (.tup [.str k,.ref b])) (f:H b=some (.tup (ws.map wv))):gW H (us++[.ref a]) (ps++[(k,ws)]):=by
 induction h with
 | nil=>exact .cons e f .nil
 | cons c d _ ih=>exact .cons c d ih
theorem gW.len {H:Hp} {us:List V} {ps:List (Str×List Wo)} (h:gW H us ps):us.length=ps.length:=by
 induction h with
 | nil=>rfl
 | cons _ _ _ ih=>simp [ih]
noncomputable def eY (nm:List (Str×Wo)):List Str→List (V×V)
 | []=>[]
 | n::r=>if jD nm n=none then eY nm r else (.str n,wv (jD nm n))::eY nm r
theorem tZ (nm:List (Str×Wo)):∀ l r:List Str,eY nm (l++r)=eY nm l++eY nm r
 | [],_=>rfl
 | n::l,r=>by
  simp only [List.cons_append,eY,tZ nm l r]
  split<;>rfl
noncomputable def gM (lt:List (Str×List Wo)):List Str→List (Str×List Wo)
 | []=>[]
 | k::r=>if (cC lt k).getD []=[] then gM lt r else (k,(cC lt k).getD [])::gM lt r
theorem t8 (lt:List (Str×List Wo)):∀ l r:List Str,gM lt (l++r)=gM lt l++gM lt r
 | [],_=>rfl
 | n::l,r=>by
  simp only [List.cons_append,gM,t8 lt l r]
  split<;>rfl
theorem oM (nm:List (Str×Wo)):∀ l:List Str,(eY nm l).length≤l.length
 | []=>Nat.le_refl _
 | n::l=>by
  have:=oM nm l
  simp only [eY]
  split<;>simp only [List.length_cons]<;>omega
theorem oS (lt:List (Str×List Wo)):∀ l:List Str,(gM lt l).length≤l.length
 | []=>Nat.le_refl _
 | n::l=>by
  have:=oS lt l
  simp only [gM]
  split<;>simp only [List.length_cons]<;>omega
noncomputable def Pu.nmS (S:Pu):List (V×V):=eY S.nm (srt (S.nm.map (·.1)))
noncomputable def Pu.ltS (S:Pu):List (Str×List Wo):=gM S.lt (srt (S.lt.map (·.1)))
noncomputable def Pu.anS (S:Pu):List (V×V):=S.ans.map fun p=>(.int p.1,wv p.2)
noncomputable def Slp.going:Slp→Bool
 | .wait _=>true
 | .hear _=>true
 | _=>false
noncomputable def sB (H:Hp) (v:V) (S:Pu):Prop:=if S.sl.going=true then ∃(p pl pn po pa pt:Addr) (sl:V) (un ua ut:List V),v=.ref p∧H p=some (.tup [sl,.ref pl,wv S.ar,.int S.nw,.ref pn,.int S.made,.ref po,.ref pa,.ref pt])∧jC H sl S.sl ∧
    H pl=some (.tup ((bV S.stk).map V.int))∧H pn=some (.tup un)∧eU H un S.nmS∧H po=some (.tup (S.pend.map V.int))∧H pa=some (.tup ua)∧eU H ua S.anS∧H pt=some (.tup ut)∧gW H ut S.ltS
  else jC H v S.sl
theorem aaN:∀ nm:List (Str×Wo),hX (j5 nm)=some (nm.map (·.1))
 | []=>rfl
 | p::r=>by
  have ih:=aaN r
  show (hX (j5 r)).map (p.1::·)=_
  rw [ih]
  rfl
theorem strK_lt {H:Hp} {kvs:List (Key×V)} {as:List Addr} {lt:List (Str×List Wo)} (h:iT H kvs as lt):hX kvs=some (lt.map (·.1)):=by
 induction h with
 | nil=>rfl
 | @cons a k ws kvs as lt _ _ ih =>
  show (hX kvs).map (k::·)=_
  rw [ih]
  rfl
theorem nmK_in:∀ {nm:List (Str×Wo)} {n:Str},n∈nm.map (·.1)→bY (j5 nm) (.inr n)=some (wv (jD nm n))
 | [],n,h=>by simp at h
 | p::r,n,h=>by
  show bY ((Key.inr p.1,wv p.2)::j5 r) (.inr n)=_
  by_cases e:p.1=n
  ·rw [cE (by rw [e]),jD,if_pos e]
  ·rw [bZ (fun z=>e (Key.inr.inj z)),jD,if_neg e]
   refine nmK_in ?_
   rcases List.mem_cons.mp h with h | h
   ·exact absurd h.symm e
   ·exact h
theorem iT.inS {H:Hp} {kvs:List (Key×V)} {as:List Addr} {lt:List (Str×List Wo)} (h:iT H kvs as lt) {k:Str} (hk:k∈lt.map (·.1)):∃ a ws,bY kvs (.inr k)=some (.ref a)∧cC lt k=some ws∧H a=some (.lst (ws.map wv)):=by
 rcases h.look k with ⟨_,e⟩ | ⟨a,ws,x,y,_,u⟩
 ·exfalso
  clear h
  induction lt with
  | nil=>simp at hk
  | cons p r ih =>
   simp only [cC] at e
   split at e
   ·cases e
   ·next hp =>
    rcases List.mem_cons.mp hk with z | z
    ·exact hp z.symm
    ·exact ih z e
 ·exact ⟨a,ws,x,y,u⟩
theorem jC.word {H:Hp} {v:V} {s:Slp} (h:jC H v s) (hn:s.isN=false):∃(p:Addr) (s0:Str) (r0:List V),v=.ref p∧H p=some (.tup (.str s0::r0))∧vC (.str s0) [.str "wait",.str "hear"]=s.going:=by
 cases s with
 | non=>cases hn
 | new=>obtain ⟨p,rfl,e⟩:=h;exact ⟨p,_,_,rfl,e,by simp [vC,oJ,lK,Slp.going]⟩
 | wait ts=>obtain ⟨p,p2,rfl,e,_⟩:=h;exact ⟨p,_,_,rfl,e,by simp [vC,oJ,lK,Slp.going]⟩
 | hear k=>obtain ⟨p,rfl,e⟩:=h;exact ⟨p,_,_,rfl,e,by simp [vC,oJ,lK,Slp.going]⟩
 | ended w=>obtain ⟨p,rfl,e⟩:=h;exact ⟨p,_,_,rfl,e,by simp [vC,oJ,lK,Slp.going]⟩
 | worn=>obtain ⟨p,rfl,e⟩:=h;exact ⟨p,_,_,rfl,e,by simp [vC,oJ,lK,Slp.going]⟩
theorem oN {c:TT} {t u:TS} {D:Ends} {σ:St} {H:Hp} (h:∀ R:St→Hp→Prop,(∀ σ' H',t D σ' H'→R σ' H')→tIfS c (fun _=>R) u D σ H):tIfS c t u D σ H:=h (t D) fun _ _ z=>z
noncomputable def spPlace (C:Addr):Sp:=fun vs H Q _=>∃(wk wx lb ln:Addr) (st:Stk),vs=[.ref wk]∧iS C H wk wx lb ln st∧∀ p,H p=none→Q (.ref p) (upd H p (.tup ((bV st).map V.int)))
noncomputable def spState (C:Cl):Sp:=fun vs H Q _=>∃(R:Rn) (as:List Addr) (sl:V) (S:Pu),vs=[.ref R.x]∧aW C H R as sl S∧S.sl.isN=false∧S.pend.length≤1000000∧S.nm.length < 64∧S.lt.length < 64∧S.ans.length≤1000000∧(∀ k ws,cC S.lt k=some ws→ws.length≤1000000)∧∀(v:V) (H':Hp),sB H' v S→Kp [] H H'→Q v H'
theorem q_i0 {w:Wo} {k:Int→Prop} {u:Tg k}:onI0 (wv w) k u=k (num w):=by cases w<;>rfl
noncomputable def spCell (K:PySem.W.Frag):Sp:=fun vs H Q _=>∃(a:Addr) (ns:List Int) (k:Int),vs=[.ref a,.int k]∧eA K H a (ns.map V.int)∧0≤k∧∀ z:Int,Q (.int z) H
structure bX (H:Hp) (r:Addr):Prop where
 ex:∃ c f:Int,H r=some (.lst [.int c,.int f])∧(f=0∨(0≤c∧c < 982451653))
theorem bX.kp {S:List Addr} {H H':Hp} {r:Addr} (R:bX H r) (h:Kp S H H') (n:r∉S:=by first | exact List.not_mem_nil | simp_all):bX H' r:=by
 obtain ⟨c,f,e,x⟩:=R
 exact ⟨c,f,h _ _ e n,x⟩
theorem bX.new {H:Hp} {r p:Addr} {o:HO} (R:bX H r) (h:H p=none):bX (upd H p o) r:=R.kp (S:=[]) (Kp.new h)
theorem bX.none {H:Hp} {r p:Addr} (R:bX H r) (h:H p=Option.none):p≠r:=by
 obtain ⟨c,f,e,_⟩:=R
 exact (aL e h).symm
theorem _root_.L2.Kp.madeJ {r p:Addr} {H H':Hp} {o:HO} (x:Kp [r] (upd H p o) H') (R:bX H r) (h:H p=Option.none):H' p=some o:=x.at1 aA (R.none h)
noncomputable def spJar:Sp:=fun vs H Q _=>∃ c:Int,vs=[.int c]∧∀(r:Addr) (H':Hp),H r=none→Kp [] H H'→bX H' r→Q (.ref r) H'
theorem q_jar {c:Int} {H:Hp} {Q:VK} {E:XK}:spJar [.int c] H Q E = ∀(r:Addr) (H':Hp),H r=none→Kp [] H H'→bX H' r→Q (.ref r) H':=propext ⟨fun ⟨_,e,h⟩=>by cases e;exact h,fun h=>⟨_,rfl,h⟩⟩
noncomputable def spJTk:Sp:=fun vs H Q _=>∃(r:Addr) (m:Int),vs=[.ref r,.int m]∧0 < m∧m≤10 ^ 45∧bX H r ∧
 ∀(g:Int) (H':Hp),0≤g→g < m→bX H' r→Kp [r] H H'→Q (.int g) H'
theorem q_jtake {r:Addr} {m:Int} {H:Hp} {Q:VK} {E:XK}:spJTk [.ref r,.int m] H Q E=(0 < m∧m≤10 ^ 45∧bX H r∧∀(g:Int) (H':Hp),0≤g→g < m→bX H' r→Kp [r] H H'→Q (.int g) H') :=
 propext ⟨fun ⟨_,_,e,h⟩=>by cases e;exact h,fun h=>⟨_,_,rfl,h⟩⟩
theorem e_cpowJ:CPow 86028157 2=True:=eq_true ⟨by decide,by decide,by decide⟩
noncomputable def xV:Sp:=fun vs H Q _=>∃ r:Addr,vs=[.ref r]∧bX H r∧∀(w:Wo) (H':Hp),eC w→bX H' r→Kp [r] H H'→Q (wv w) H'
theorem q_jworth {r:Addr} {H:Hp} {Q:VK} {E:XK}:xV [.ref r] H Q E=(bX H r∧∀(w:Wo) (H':Hp),eC w→bX H' r→Kp [r] H H'→Q (wv w) H') :=
 propext ⟨fun ⟨_,e,h⟩=>by cases e;exact h,fun h=>⟨_,rfl,h⟩⟩
noncomputable def uF:Sp:=fun vs H Q _=>∃ r:Addr,vs=[.ref r]∧bX H r∧∀(m:Int) (H':Hp),0≤m→m≤1000000000000→bX H' r→Kp [r] H H'→Q (.int m) H'
theorem q_jmoment {r:Addr} {H:Hp} {Q:VK} {E:XK}:uF [.ref r] H Q E=(bX H r∧∀(m:Int) (H':Hp),0≤m→m≤1000000000000→bX H' r→Kp [r] H H'→Q (.int m) H') :=
 propext ⟨fun ⟨_,e,h⟩=>by cases e;exact h,fun h=>⟨_,rfl,h⟩⟩
mutual
noncomputable def Stm.nmIn (L:List Str):Stm→Prop
 | .set x _=>x∈L
 | .order x _ _=>x∈L
 | .child x _ _=>x∈L
 | .timer x _=>x∈L
 | .wait x _=>x∈L
 | .hear x _=>x∈L
 | .whl _ b=>dO L b
 | .iff _ b o=>dO L b∧dO L o
 | _=>True
noncomputable def dO (L:List Str):List Stm→Prop
 | []=>True
 | m::ms=>m.nmIn L∧dO L ms
end
theorem wV {L:List Str}:∀ {b:List Stm} {i:Nat} {m:Stm},dO L b→b[i]?=some m→m.nmIn L
 | [],_,_,_,h=>by simp at h
 | _::_,0,_,g,h=>by simp only [List.getElem?_cons_zero,Option.some.injEq] at h;subst h;simp only [dO] at g;exact g.1
 | _::b,i+1,_,g,h=>by simp only [dO] at g;exact wV g.2 (by simpa using h)
theorem putN_keys (l:List (Str×Wo)) (n:Str) (w:Wo):(dA l n w).map (·.1)=if n∈l.map (·.1) then l.map (·.1) else l.map (·.1)++[n]:=by
 have e:(l.any fun p=>decide (p.1=n))=true↔n∈l.map (·.1):=by
  rw [List.any_eq_true,List.mem_map]
  constructor
  ·rintro ⟨p,h,e⟩;exact ⟨p,h,by simpa using e⟩
  ·rintro ⟨p,h,e⟩;exact ⟨p,h,by simpa using e⟩
 unfold dA
 by_cases h:n∈l.map (·.1)
 ·rw [if_pos (e.mpr h),if_pos h,List.map_map]
  refine List.map_congr_left fun p _=>?_
  simp only [Function.comp]
  split<;>rfl
 ·rw [if_neg (fun z=>h (e.mp z)),if_neg h]
  simp
structure dN (L:List Str) (S:Pu):Prop where
 nd:(S.nm.map (·.1)).Nodup
 sub:∀ n∈S.nm.map (·.1),n∈L
 stk:∀ x∈S.stk,dO L x.2.1
theorem dN.put {L:List Str} {S:Pu} (h:dN L S) {n:Str} (hn:n∈L) (w:Wo):dN L {S with nm:=dA S.nm n w}:=by
 have e:=putN_keys S.nm n w
 refine ⟨?_,?_,h.stk⟩
 ·show ((dA S.nm n w).map (·.1)).Nodup
  rw [e]
  split
  ·exact h.nd
  ·next hc =>
   rw [List.nodup_append]
   exact ⟨h.nd,by simp,fun a ha b hb=>by rw [show b=n by simpa using hb];intro z;exact hc (z ▸ ha)⟩
 ·show ∀ x∈(dA S.nm n w).map (·.1),x∈L
  rw [e]
  split
  ·exact h.sub
  ·intro x hx
   rcases List.mem_append.mp hx with hx | hx
   ·exact h.sub x hx
   ·rw [show x=n by simpa using hx];exact hn
theorem dN.same {L:List Str} {S T:Pu} (h:dN L S) (e1:T.nm=S.nm) (e2:T.stk=S.stk):dN L T:=⟨by rw [e1];exact h.nd,by rw [e1];exact h.sub,by rw [e2];exact h.stk⟩
theorem dN.deed {L:List Str} {S:Pu} (h:dN L S) {m:Stm} (g:m.nmIn L):dN L (deed S m).1:=by
 cases m with
 | set x s=>simp only [Stm.nmIn] at g;exact h.put g _
 | order x y s=>simp only [Stm.nmIn] at g;exact (h.put g _).same rfl rfl
 | child x y s=>simp only [Stm.nmIn] at g;exact (h.put g _).same rfl rfl
 | timer x s=>simp only [Stm.nmIn] at g;exact (h.put g _).same rfl rfl
 | send s k r=>exact h
 | drop s =>
  simp only [Own.deed]
  split
  ·split
   ·exact h.same rfl rfl
   ·exact h
  ·exact h
 | hear x k =>
  simp only [Stm.nmIn] at g
  simp only [Own.deed]
  split
  ·exact (h.put g _).same rfl rfl
  ·exact h.same rfl rfl
 | wait x ss =>
  simp only [Stm.nmIn] at g
  simp only [Own.deed]
  split
  ·exact h.same rfl rfl
  ·exact h.put g _
 | fin s=>exact h.same rfl rfl
 | whl s b=>exact h
 | iff s b o=>exact h
theorem oZ {L:List Str}:∀ st:Stk,(∀ x∈st,dO L x.2.1)→∀ x∈cM st,dO L x.2.1
 | [],h=>by simpa [cM] using h
 | [a],h=>by simpa [cM] using h
 | (k,b,n)::(k2,b2,n2)::r,h=>by
  rw [cM]
  split
  ·refine oZ ((k2,b2,sO b2 n2)::r) fun x hx=>?_
   rcases List.mem_cons.mp hx with rfl | hx
   ·exact h (k2,b2,n2) (by simp)
   ·exact h x (by simp [hx])
  ·exact h
termination_by st=>st.length
theorem oQ {L:List Str} {st:Stk} (h:∀ x∈st,dO L x.2.1):∀ x∈gQ st,dO L x.2.1:=by
 cases st with
 | nil=>exact h
 | cons a r =>
  obtain ⟨k,b,n⟩:=a
  intro x hx
  simp only [gQ,List.mem_cons] at hx
  rcases hx with rfl | hx
  ·exact h (k,b,n) (by simp)
  ·exact h x (by simp [hx])
theorem dN.stand {L:List Str} {S:Pu} (h:dN L S) {m:Stm} (e:stand S.stk=some m):m.nmIn L:=by
 cases hs:S.stk with
 | nil=>rw [hs] at e;cases e
 | cons a r =>
  obtain ⟨k,b,n⟩:=a
  rw [hs] at e
  exact wV (h.stk (k,b,n) (by rw [hs];simp)) e
theorem dN.one {L:List Str} {S:Pu} (h:dN L S) {m:Stm} (e:Own.stand S.stk=some m):dN L (one S m).1:=by
 have g:=h.stand e
 have en:∀(c:Nat) (b:List Stm),dO L b→dN L (S.enter c b):=fun c b hb=>⟨h.nd,h.sub,fun x hx=>by
  rcases List.mem_cons.mp hx with rfl | hx
  ·exact hb
  ·exact h.stk x hx⟩
 have ps:∀ T:Pu,dN L T→dN L T.pass:=fun T hT=>⟨hT.nd,hT.sub,oQ hT.stk⟩
 unfold Own.one
 split
 ·cases m with
  | whl s b =>
   simp only [Stm.nmIn] at g
   show dN L (if _ then S.pass else S.enter 0 b)
   split
   ·exact ps S h
   ·exact en 0 b g
  | iff s b o =>
   simp only [Stm.nmIn] at g
   show dN L (if _ then S.enter 1 o else S.enter 0 b)
   split
   ·exact en 1 o g.2
   ·exact en 0 b g.1
  | _=>exact h
 ·show dN L (if _ then (Own.deed S m).1.pass else (Own.deed S m).1)
  split
  ·exact ps _ (h.deed g)
  ·exact h.deed g
theorem qK {L:List Str}:∀(n:Nat) {S:Pu},dN L S→dN L (gR n S).1
 | 0,S,h=>by
  have hc:dN L S.come:=⟨h.nd,h.sub,oZ _ h.stk⟩
  cases e:stand S.come.stk with
  | none=>rw [dG e];exact hc.same rfl rfl
  | some m=>rw [h8 e];exact hc.same rfl rfl
 | n+1,S,h=>by
  have hc:dN L S.come:=⟨h.nd,h.sub,oZ _ h.stk⟩
  cases e:stand S.come.stk with
  | none=>rw [dG e];exact hc.same rfl rfl
  | some m =>
   cases z:(one S.come m).1.sl.isN with
   | true=>rw [mD e z];exact qK n (hc.one e)
   | false=>rw [iJ e z];exact hc.one e
theorem dN.wake {L:List Str} {S:Pu} (h:dN L S) (w:Wo):dN L (S.wake w).1:=by
 unfold Pu.wake
 split
 ·next x k e =>
  have g:=h.stand e
  simp only [Stm.nmIn] at g
  have h1:=h.put g w
  exact qK 300 ⟨h1.nd,h1.sub,oQ h.stk⟩
 ·next x ss e =>
  have g:=h.stand e
  simp only [Stm.nmIn] at g
  have h1:=h.put g w
  exact qK 300 ⟨h1.nd,h1.sub,oQ h.stk⟩
 ·exact h
theorem dN.take {L:List Str} {S:Pu} (h:dN L S) (x:Hap):dN L (S.take x).1:=by
 unfold Pu.take
 split
 ·exact h
 cases x with
 | beg m w=>exact qK 300 (h.same rfl rfl)
 | don m i w =>
  show dN L ((S.at' m).takeD i w).1
  unfold Pu.takeD
  split
  ·split
   ·exact (h.same (T:=(S.at' m).done i w) rfl rfl).wake _
   ·exact h.same rfl rfl
  ·exact h.same rfl rfl
 | ltr m k w =>
  show dN L ((S.at' m).takeL k w).1
  unfold Pu.takeL
  split
  ·split
   ·exact (h.same (T:=S.at' m) rfl rfl).wake _
   ·exact h.same rfl rfl
  ·exact h.same rfl rfl
theorem oA:∀ {a L:List Str},a.Nodup→(∀ x∈a,x∈L)→a.length≤L.length
 | [],L,_,_=>Nat.zero_le _
 | x::a,L,nd,h=>by
  rw [List.nodup_cons] at nd
  have hx:=h x (by simp)
  have:=oA (a:=a) (L:=L.erase x) nd.2 fun y hy=>(List.mem_erase_of_ne (fun z:y=x=>nd.1 (by rw [← z];exact hy))).mpr (h y (List.mem_cons_of_mem _ hy))
  have hl:=List.length_erase_of_mem hx
  have hp:0 < L.length:=List.length_pos_of_mem hx
  simp only [List.length_cons]
  omega
theorem dN.len {L:List Str} {S:Pu} (h:dN L S):S.nm.length≤L.length:=by
 have:=oA h.nd h.sub
 rwa [List.length_map] at this
structure eF (K:List Str) (S:Pu):Prop where
 nd:(S.lt.map (·.1)).Nodup
 sub:∀ n∈S.lt.map (·.1),n∈K
theorem mI (r:List Wo):∀(l:List (Str×List Wo)) (k:Str),(eO l k r).map (·.1)=l.map (·.1)
 | [],_=>rfl
 | p::l,k=>by
  simp only [eO]
  split
  ·rfl
  ·simp only [List.map_cons,mI r l k]
theorem rZ:∀ {l:List (Str×List Wo)} {k:Str},cC l k=none→k∉l.map (·.1)
 | [],_,_=>by simp
 | p::l,k,h=>by
  simp only [cC] at h
  split at h
  ·cases h
  ·next hp =>
   simp only [List.map_cons,List.mem_cons,not_or]
   exact ⟨fun z=>hp z.symm,rZ h⟩
theorem eF.same {K:List Str} {S T:Pu} (h:eF K S) (e:T.lt=S.lt):eF K T:=⟨by rw [e];exact h.nd,by rw [e];exact h.sub⟩
theorem eF.add {K:List Str} {S:Pu} (h:eF K S) {k:Str} (hk:k∈K) (w:Wo):eF K {S with lt:=fU S.lt k w}:=by
 cases e:cC S.lt k with
 | some ws =>
  have ea:fU S.lt k w=eO S.lt k (ws++[w]):=by simp only [fU,e]
  have kk:=mI (ws++[w]) S.lt k
  exact ⟨by show ((fU S.lt k w).map (·.1)).Nodup;rw [ea,kk];exact h.nd,by show ∀ n∈(fU S.lt k w).map (·.1),n∈K;rw [ea,kk];exact h.sub⟩
 | none =>
  have ea:fU S.lt k w=S.lt++[(k,[w])]:=by simp only [fU,e]
  have nk:=rZ e
  refine ⟨?_,?_⟩
  ·show ((fU S.lt k w).map (·.1)).Nodup
   rw [ea,List.map_append,List.nodup_append]
   exact ⟨h.nd,by simp,fun a ha b hb=>by rw [show b=k by simpa using hb];intro z;exact nk (z ▸ ha)⟩
  ·show ∀ n∈(fU S.lt k w).map (·.1),n∈K
   rw [ea,List.map_append]
   intro n hn
   rcases List.mem_append.mp hn with hn | hn
   ·exact h.sub n hn
   ·rw [show n=k by simpa using hn];exact hk
theorem eF.deed {K:List Str} {S:Pu} (h:eF K S) (m:Stm):eF K (deed S m).1:=by
 cases m with
 | drop s =>
  simp only [Own.deed]
  split
  ·split
   ·exact h.same rfl
   ·exact h
  ·exact h
 | hear x k =>
  simp only [Own.deed]
  split
  ·next w r e=>exact ⟨by show ((eO S.lt k r).map (·.1)).Nodup;rw [mI];exact h.nd,by show ∀ n∈(eO S.lt k r).map (·.1),n∈K;rw [mI];exact h.sub⟩
  ·exact h.same rfl
 | wait x ss =>
  simp only [Own.deed]
  split
  ·exact h.same rfl
  ·exact h.same rfl
 | _=>exact h.same rfl
theorem eF.one {K:List Str} {S:Pu} (h:eF K S) (m:Stm):eF K (one S m).1:=by
 unfold Own.one
 split
 ·cases m with
  | whl s b=>show eF K (if _ then S.pass else S.enter 0 b);split<;>exact h.same rfl
  | iff s b o=>show eF K (if _ then S.enter 1 o else S.enter 0 b);split<;>exact h.same rfl
  | _=>exact h
 ·show eF K (if _ then (Own.deed S m).1.pass else (Own.deed S m).1)
  split
  ·exact (h.deed m).same rfl
  ·exact h.deed m
theorem qJ {K:List Str}:∀(n:Nat) {S:Pu},eF K S→eF K (gR n S).1
 | 0,S,h=>by
  have hc:eF K S.come:=h.same rfl
  cases e:stand S.come.stk with
  | none=>rw [dG e];exact hc.same rfl
  | some m=>rw [h8 e];exact hc.same rfl
 | n+1,S,h=>by
  have hc:eF K S.come:=h.same rfl
  cases e:stand S.come.stk with
  | none=>rw [dG e];exact hc.same rfl
  | some m =>
   cases z:(one S.come m).1.sl.isN with
   | true=>rw [mD e z];exact qJ n (hc.one m)
   | false=>rw [iJ e z];exact hc.one m
theorem eF.wake {K:List Str} {S:Pu} (h:eF K S) (w:Wo):eF K (S.wake w).1:=by
 unfold Pu.wake
 split
 ·exact qJ 300 (h.same rfl)
 ·exact qJ 300 (h.same rfl)
 ·exact h
theorem eF.take {K:List Str} {S:Pu} (h:eF K S) (x:Hap) (hx:∀ m k w,x=.ltr m k w→k∈K):eF K (S.take x).1:=by
 unfold Pu.take
 split
 ·exact h
 cases x with
 | beg m w=>exact qJ 300 (h.same rfl)
 | don m i w =>
  show eF K ((S.at' m).takeD i w).1
  unfold Pu.takeD
  split
  ·split
   ·exact (h.same (T:=(S.at' m).done i w) rfl).wake _
   ·exact h.same rfl
  ·exact h.same rfl
 | ltr m k w =>
  show eF K ((S.at' m).takeL k w).1
  unfold Pu.takeL
  split
  ·split
   ·exact (h.same (T:=S.at' m) rfl).wake _
   ·exact ((h.same (T:=S.at' m) rfl).add (hx m k w rfl) w).same rfl
  ·exact ((h.same (T:=S.at' m) rfl).add (hx m k w rfl) w).same rfl
theorem eF.len {K:List Str} {S:Pu} (h:eF K S):S.lt.length≤K.length:=by
 have:=oA h.nd h.sub
 rwa [List.length_map] at this
noncomputable def NM4:List Str:=["a","b","aa","d"]
noncomputable def KY3:List Str:=["k","kk","m"]
theorem bX.tk {H H':Hp} {r:Addr} (R:bX H r) (k:Kp [r] H H'):aK H H':=.of k fun a ha=>by
 obtain ⟨c,f,e,_⟩:=R
 have:a=r:=by simpa using ha
 exact ⟨_,this ▸ e,fun _ h=>by cases h⟩
theorem made1J {r p:Addr} {H H':Hp} {o:HO} (x:Kp [r] (upd H p o) H') (R:bX H r) (h:H p=Option.none):H' p=some o:=x.at1 aA (R.none h)
theorem f_and {a b:Prop} [Decidable a] [Decidable b] {P R:Prop}:(if a then (if b then P else R) else R)=if a∧b then P else R:=by
 by_cases ha:a<;>by_cases hb:b<;>simp [ha,hb]
noncomputable def zB (d:Nat):Sp:=fun vs H Q _=>∃(r:Addr) (dp:Int),vs=[.ref r,.int dp]∧0≤dp∧dp < d∧bX H r∧∀(v:V) (s:Say) (H':Hp),cQ H' v s→s.ok→(s.depth:Int)≤dp+1→bX H' r→Kp [r] H H'→Q v H'
noncomputable def spJHap:Sp:=fun vs H Q _=>∃ r:Addr,vs=[.ref r]∧bX H r∧∀(v:V) (h:Hap) (H':Hp),pG H' v h→(0≤h.m∧h.m≤1000000000000)→eC h.w→(∀ m k w,h=.ltr m k w→k∈KY3)→bX H' r→Kp [r] H H'→Q v H'
noncomputable def spJWait:Sp:=fun vs H Q _=>∃(r:Addr) (x:Str),vs=[.ref r,.str x]∧bX H r∧∀(v:V) (ss:List Say) (H':Hp),dC H' v (.wait x ss)→ss.length≤4→(∀ s∈ss,s.sok)→bX H' r→Kp [r] H H'→Q v H'
noncomputable def fF (H:Hp) (m:Addr):Prop:=∃ n:Int,H m=some (.lst [.int n])∧n≤40
noncomputable def zP (d:Nat):Sp:=fun vs H Q _=>∃(r m:Addr) (dp:Int),vs=[.ref r,.int dp,.ref m]∧0≤dp∧dp≤d∧bX H r∧fF H m∧r≠m∧∀(v:V) (x:Stm) (H':Hp),dC H' v x→x.gd true→x.nmIn NM4→(x.dp:Int)≤dp→bX H' r→fF H' m→Kp [r,m] H H'→Q v H'
noncomputable def vH (d:Nat):Sp:=fun vs H Q _=>∃(r m:Addr) (dp:Int),vs=[.ref r,.int dp,.ref m]∧0≤dp∧dp < d∧bX H r∧fF H m∧r≠m∧∀(p:Addr) (us:List V) (b:List Stm) (H':Hp),H' p=some (.tup us)→cA H' us b→pS true b→dO NM4 b→(qI b:Int)≤dp→b.length≤7→bX H' r→fF H' m→Kp [r,m] H H'→Q (.ref p) H'
noncomputable def spJPrg:Sp:=fun vs H Q _=>∃ c:Int,vs=[.int c]∧∀(p:Addr) (us:List V) (b:List Stm) (H':Hp),H' p=some (.tup us)→cA H' us b→pS true b→dO NM4 b→qI b≤4→b.length≤8→Kp [] H H'→Q (.ref p) H'
theorem eW.snoc {H:Hp} {vs:List V} {ss:List Say} {v:V} {s:Say} (h:eW H vs ss) (e:cQ H v s):eW H (vs++[v]) (ss++[s]):=by
 induction h with
 | nil=>exact .cons e .nil
 | cons a _ ih=>exact .cons a ih
theorem fF.kp {H H':Hp} {m:Addr} (h:fF H m) (k:Kp [] H H'):fF H' m:=let ⟨n,e,f⟩:=h;⟨n,k.at e,f⟩
theorem fF.kj {H H':Hp} {r m:Addr} (h:fF H m) (k:Kp [r] H H') (n:r≠m):fF H' m:=let ⟨n',e,f⟩:=h;⟨n',k.at1 e n.symm,f⟩
theorem bX.tk2 {H H':Hp} {r m:Addr} (R:bX H r) (M:fF H m) (k:Kp [r,m] H H'):aK H H':=.of k fun a ha=>by
 obtain ⟨c,f,e,_⟩:=R
 obtain ⟨n,e',_⟩:=M
 simp only [List.mem_cons,List.not_mem_nil,or_false] at ha
 rcases ha with rfl | rfl
 ·exact ⟨_,e,fun _ h=>by cases h⟩
 ·exact ⟨_,e',fun _ h=>by cases h⟩
theorem sP:∀(b:List Stm) (x:Stm),qI (b++[x])=max (qI b) x.dp
 | [],x=>by simp [qI]
 | y::b,x=>by
  simp only [List.cons_append,qI,sP b x]
  omega
theorem gdL_of {wt:Bool}:∀ {b:List Stm},(∀ m∈b,m.gd wt)→pS wt b
 | [],_=>by simp only [pS]
 | m::b,h=>by simp only [pS];exact ⟨h m (by simp),gdL_of fun x hx=>h x (List.mem_cons_of_mem _ hx)⟩
theorem xL {b:List Stm} {x:Stm} (h:pS true b) (g:x.gd true):pS true (b++[x]):=by
 induction b with
 | nil=>simp only [List.nil_append,pS];exact ⟨g,trivial⟩
 | cons y b ih=>simp only [List.cons_append,pS] at h ⊢;exact ⟨h.1,ih h.2⟩
theorem yF {L:List Str} {b:List Stm} {x:Stm} (h:dO L b) (g:x.nmIn L):dO L (b++[x]):=by
 induction b with
 | nil=>simp only [List.nil_append,dO];exact ⟨g,trivial⟩
 | cons y b ih=>simp only [List.cons_append,dO] at h ⊢;exact ⟨h.1,ih h.2⟩
theorem cA.snoc {H:Hp} {vs:List V} {ms:List Stm} {v:V} {m:Stm} (h:cA H vs ms) (e:dC H v m):cA H (vs++[v]) (ms++[m]):=by
 induction ms generalizing vs with
 | nil=>cases h;exact .cons e .nil
 | cons m ms ih =>
  cases h with
  | cons a b=>exact .cons a (ih b)
theorem Fit.slp {wt:Bool} {S:Pu} {N:Nat} (F:Fit wt S N) (x:Slp) (h1:∀ k,x≠.hear k) (h2:∀ ts,x≠.wait ts):Fit wt {S with sl:=x,pend:=[]} N :=
 ⟨F.nm,F.md,Nat.zero_le _,F.an,F.lt,F.lw,F.pl,F.nw,F.sk,fun k e=>absurd e (h1 k),fun ts e=>absurd e (h2 ts)⟩
theorem jO {wt:Bool}:∀(n:Nat) {S:Pu} {N:Nat},Fit wt S N→S.sl=.non→N+n≤900000→Fit wt (gR n S).1 (N+n)
 | 0,S,N,F,h,_=>by
  cases e:stand S.come.stk with
  | none=>rw [dG e];exact (F.come h).slp _ (fun _ z=>by cases z) (fun _ z=>by cases z)
  | some m=>rw [h8 e];exact (F.come h).slp _ (fun _ z=>by cases z) (fun _ z=>by cases z)
 | n+1,S,N,F,h,hN=>by
  cases e:stand S.come.stk with
  | none=>rw [dG e];exact ((F.come h).slp _ (fun _ z=>by cases z) (fun _ z=>by cases z)).more (by omega)
  | some m =>
   have F1:=(F.come h).one e h (by omega)
   cases z:(one S.come m).1.sl.isN with
   | true =>
    rw [mD e z]
    exact (jO n F1 (vL z) (by omega)).more (by omega)
   | false=>rw [iJ e z];exact F1.more (by omega)
theorem Fit.takeDon {wt:Bool} {S:Pu} {N:Nat} (F:Fit wt S N) {m i:Int} {w:Wo} (hm:0≤m∧m≤1000000000000) (hw:eC w) (hi:eC (some i)) (hN:N≤800000):Fit wt (S.take (.don m i w)).1 (N+302):=by
 have F1:=F.at' hm
 have F2:=F1.done (i:=i) hw
 unfold Pu.take
 split
 ·exact F.more (by omega)
 show Fit wt ((S.at' m).takeD i w).1 (N+302)
 unfold Pu.takeD
 split
 ·split
  ·unfold Pu.wake
   split
   ·next e=>exact (jO 300 (F2.wake e hi _) rfl (by omega)).more (by omega)
   ·next e=>exact (jO 300 (F2.wake e hi _) rfl (by omega)).more (by omega)
   ·exact F2.more (by omega)
  ·exact F2.more (by omega)
 ·exact F2.more (by omega)
theorem Fit.takeAny {wt:Bool} {S:Pu} {N:Nat} (F:Fit wt S N) (h:Hap) (hm:0≤h.m∧h.m≤1000000000000) (hw:eC h.w) (hi:∀ i∈S.pend,eC (some i)) (hN:N≤800000):Fit wt (S.take h).1 (N+302):=by
 cases h with
 | beg m w =>
  unfold Pu.take
  split
  ·exact F.more (by omega)
  have F1:=F.at' hm
  have F2:Fit wt {S with nw:=later S.nw m,ar:=w,sl:=.non} N:=⟨F1.nm,F1.md,F1.pd,F1.an,F1.lt,F1.lw,⟨F1.pl.nm,hw,F1.pl.an⟩,F1.nw,F1.sk,fun k e=>(by cases e),fun k e=>(by cases e)⟩
  exact (jO 300 F2 rfl (by omega)).more (by omega)
 | don m i w =>
  by_cases hp:i∈S.pend
  ·exact F.takeDon hm hw (hi i hp) hN
  ·have F1:=F.at' hm
   unfold Pu.take
   split
   ·exact F.more (by omega)
   ·next ho =>
    have F2:=F1.done (i:=i) hw
    show Fit wt ((S.at' m).takeD i w).1 (N+302)
    exfalso
    refine ho ?_
    unfold Pu.over
    cases S.sl<;>simp [hp]
 | ltr m k w =>
  have F1:=F.at' hm
  unfold Pu.take
  split
  ·exact F.more (by omega)
  show Fit wt ((S.at' m).takeL k w).1 (N+302)
  unfold Pu.takeL
  split
  ·split
   ·unfold Pu.wake
    split
    ·next e=>exact (jO 300 (F1.wake e hw _) rfl (by omega)).more (by omega)
    ·next e=>exact (jO 300 (F1.wake e hw _) rfl (by omega)).more (by omega)
    ·exact F1.more (by omega)
   ·exact (F1.fU hw).more (by omega)
  ·exact (F1.fU hw).more (by omega)
inductive bJ (H:Hp):List V→List Hap→Prop
 | nil:bJ H [] []
 | cons {v:V} {vs:List V} {h:Hap} {hs:List Hap}:pG H v h→bJ H vs hs→bJ H (v::vs) (h::hs)
theorem hap_kt {H H':Hp} {v:V} {h:Hap} (x:pG H v h) (k:aK H H'):pG H' v h:=by
 obtain ⟨a,e,f⟩:=x
 exact ⟨a,e,k _ _ f⟩
theorem bJ.kt {H H':Hp} {vs:List V} {hs:List Hap} (h:bJ H vs hs) (k:aK H H'):bJ H' vs hs:=by
 induction h with
 | nil=>exact .nil
 | cons a _ ih=>exact .cons (hap_kt a k) ih
theorem bJ.len {H:Hp} {vs:List V} {hs:List Hap} (h:bJ H vs hs):vs.length=hs.length:=by
 induction h with
 | nil=>rfl
 | cons _ _ ih=>simp [ih]
theorem n8:∀(n:Nat) (S:Pu),(gR n S).1.sl.isN=false
 | 0,S=>by
  cases e:stand S.come.stk with
  | none=>rw [dG e];rfl
  | some m=>rw [h8 e];rfl
 | n+1,S=>by
  cases e:stand S.come.stk with
  | none=>rw [dG e];rfl
  | some m =>
   cases z:(one S.come m).1.sl.isN with
   | true=>rw [mD e z];exact n8 n _
   | false=>rw [iJ e z];exact z
theorem wP {S:Pu} (h:S.sl.isN=false) (w:Wo):(S.wake w).1.sl.isN=false:=by
 unfold Pu.wake
 split
 ·exact n8 _ _
 ·exact n8 _ _
 ·exact h
theorem sN {S:Pu} (h:S.sl.isN=false) (x:Hap):(S.take x).1.sl.isN=false:=by
 unfold Pu.take
 split
 ·exact h
 cases x with
 | beg m w=>exact n8 _ _
 | don m i w =>
  show ((S.at' m).takeD i w).1.sl.isN=false
  unfold Pu.takeD
  split
  ·split
   ·exact wP (show ((S.at' m).done i w).sl.isN=false from h) _
   ·exact h
  ·exact h
 | ltr m k w =>
  show ((S.at' m).takeL k w).1.sl.isN=false
  unfold Pu.takeL
  split
  ·split
   ·exact wP (show (S.at' m).sl.isN=false from h) _
   ·exact h
  ·exact h
noncomputable def takes:Pu→List Hap→Pu×List Cmds
 | S,[]=>(S,[])
 | S,h::r=>((takes (S.take h).1 r).1,(S.take h).2::(takes (S.take h).1 r).2)
theorem mU (h:Hap):∀(l:List Hap) (S:Pu),takes S (l++[h])=(((takes S l).1.take h).1,(takes S l).2++[((takes S l).1.take h).2])
 | [],S=>by simp [takes]
 | x::l,S=>by
  have:=mU h l (S.take x).1
  simp only [List.cons_append,takes,this]
noncomputable def Hap.fine (h:Hap):Prop:=(0≤h.m∧h.m≤1000000000000)∧eC h.w
inductive eE (H:Hp):List Addr→List Cmds→Prop
 | nil:eE H [] []
 | cons {a:Addr} {us:List V} {cs:Cmds} {as:List Addr} {css:List Cmds}:H a=some (.lst us)→gA H us cs→eE H as css→eE H (a::as) (cs::css)
theorem eE.keep {H H':Hp} {as:List Addr} {css:List Cmds} (h:eE H as css) (k:∀ a∈as,∀ o,H a=some o→H' a=some o) (t:aK H H'):eE H' as css:=by
 induction h with
 | nil=>exact .nil
 | cons e c _ ih=>exact .cons (k _ (by simp) _ e) (c.kt t) (ih fun a ha=>k a (List.mem_cons_of_mem _ ha))
theorem eE.snoc {H:Hp} {as:List Addr} {css:List Cmds} {a:Addr} {us:List V} {cs:Cmds} (h:eE H as css) (e:H a=some (.lst us)) (c:gA H us cs):eE H (as++[a]) (css++[cs]):=by
 induction h with
 | nil=>exact .cons e c .nil
 | cons x y _ ih=>exact .cons x y ih
theorem eE.len {H:Hp} {as:List Addr} {css:List Cmds} (h:eE H as css):as.length=css.length:=by
 induction h with
 | nil=>rfl
 | cons _ _ _ ih=>simp [ih]
theorem eE.there {H:Hp} {as:List Addr} {css:List Cmds} (h:eE H as css):∀ a∈as,∃ o,H a=some o:=by
 induction h with
 | nil=>intro a ha;simp at ha
 | cons e _ _ ih =>
  intro a ha
  rcases List.mem_cons.mp ha with rfl | ha
  ·exact ⟨_,e⟩
  ·exact ih a ha
theorem mK:∀(l:List Hap) (S:Pu),(takes S l).2.length=l.length
 | [],_=>rfl
 | h::l,S=>by simp only [takes,List.length_cons,mK l]
theorem bJ.j6 {H:Hp} {vs:List V} {hs:List Hap} (h:bJ H vs hs):∀ {i:Nat} {v:V},vs[i]?=some v→∃ x,hs[i]?=some x∧pG H v x:=by
 induction h with
 | nil=>intro i v e;simp at e
 | cons a _ ih =>
  intro i v e
  cases i with
  | zero=>simp only [List.getElem?_cons_zero,Option.some.injEq] at e;subst e;exact ⟨_,rfl,a⟩
  | succ i=>exact ih (by simpa using e)
theorem Fw.kpNew {R:Rn} {as as':List Addr} {G0 G H':Hp} (F:Fw R as as' G H') (k:Kp [] G0 G) (h:∀ a,a∈R.cells∨a∈as→G0 a=none):Kp [] G0 H':=fun b o e _=>F.kp b o (k.at e) (fun z=>by rw [h b (.inl z)] at e;cases e) (fun z=>by rw [h b (.inr z)] at e;cases e)
theorem _root_.L2.Kp.wasFree {H H':Hp} {p:Addr} (k:Kp [] H H') (h:H' p=none):H p=none:=by
 cases e:H p with
 | none=>rfl
 | some o=>rw [k.at e] at h;cases h
theorem lookA_nil (w:Wo):e8 [] w=none:=by cases w<;>rfl
theorem aaG {wt:Bool} {b:List Stm} (g:pS wt b) (d:qI b≤20):Fit wt (dU b) 0 :=
 {nm:=Nat.le_refl _,md:=Nat.le_refl _,pd:=Nat.le_refl _,an:=Nat.le_refl _,lt:=Nat.le_refl _,lw:=fun k ws h=>(by cases h)
  pl:=⟨fun _=>j4,j4,fun w=>(by show eC (e8 [] w);rw [lookA_nil];exact j4)⟩
  nw:=⟨Int.le_refl _,by show (0:Int)≤1000000000000;decide⟩
  sk:=⟨⟨Nat.zero_le _,by simp⟩,fun x hx=>(by rw [show x=(0,b,0) by simpa [dU] using hx];exact g),⟨by simpa using d,trivial⟩⟩
  sl:=⟨fun k e=>(by cases e),fun k e=>(by cases e)⟩}
theorem sB.kt {H H':Hp} {v:V} {S:Pu} (h:sB H v S) (k:aK H H'):sB H' v S:=by
 unfold sB at *
 split at h
 ·next hg =>
  rw [if_pos hg]
  obtain ⟨p,pl,pn,po,pa,pt,sl,un,ua,ut,e,a1,a2,a3,a4,a5,a6,a7,a8,a9,a10⟩:=h
  exact ⟨p,pl,pn,po,pa,pt,sl,un,ua,ut,e,k _ _ a1,a2.kt k,k _ _ a3,k _ _ a4,a5.kt k,k _ _ a6,k _ _ a7,a8.kt k,k _ _ a9,a10.kt k⟩
 ·next hg =>
  rw [if_neg hg]
  exact h.kt k
noncomputable def lZ (H:Hp) (p:Addr) (S:Pu):Prop:=∃(v sl:V) (lo:Addr),H p=some (.tup [v,sl,.ref lo])∧sB H v S∧jC H sl S.sl∧H lo=some (.lst (S.pend.map V.int))
noncomputable def spStand (C:Cl):Sp:=fun vs H Q _=>∃(R:Rn) (as:List Addr) (sl:V) (S:Pu),vs=[.ref R.x]∧aW C H R as sl S∧S.sl.isN=false∧S.pend.length≤1000000∧S.nm.length < 64∧S.lt.length < 64∧S.ans.length≤1000000∧(∀ k ws,cC S.lt k=some ws→ws.length≤1000000)∧∀(p:Addr) (H':Hp),lZ H' p S→Kp [] H H'→Q (.ref p) H'
noncomputable def aaZ (C:Cl):Sp:=fun vs H Q _=>∃(pg hl:Addr) (us hv:List V) (b:List Stm) (hs:List Hap),vs=[.ref pg,.ref hl]∧H pg=some (.tup us)∧cA H us b∧pS true b∧qI b≤20∧H hl=some (.lst hv)∧bJ H hv hs∧(∀ h∈hs,h.fine)∧hs.length≤1000 ∧
 ∀(t:Addr) (R:Rn) (as:List Addr) (sl:V) (cl:Addr) (rs:List Addr) (H':Hp),H' t=some (.tup [.ref R.x,.ref cl])→aW C H' R as sl (takes (dU b) hs).1→Fit true (takes (dU b) hs).1 (302 * hs.length)→(takes (dU b) hs).1.sl.isN=false→H' cl=some (.lst (rs.map V.ref))→eE H' rs (takes (dU b) hs).2→rs.Nodup→(∀ a∈rs,a∉R.cells∧a∉as∧H a=none∧a≠cl)→(cl∉R.cells∧cl∉as)→(∀ a,a∈R.cells∨a∈as→H a=none)→H cl=none→Kp [] H H'→Q (.ref t) H'
theorem sR:∀(l:List Hap) (S:Pu) (n:Nat),(takes S (l.take n)).2=(takes S l).2.take n
 | [],S,n=>by simp [takes]
 | h::l,S,0=>by simp [takes]
 | h::l,S,n+1=>by simp only [List.take_succ_cons,takes,sR l]
theorem aaH {K:PySem.W.Frag} {H:Hp} {n:Nat} {a b:Addr} {xs ys:List V} (ha:H a=some (.tup xs)) (hb:H b=some (.tup ys)) (hl:xs.length=ys.length) (h:∀(j:Nat) x y,xs[j]?=some x→ys[j]?=some y→pT K H n x y true):pT K H (n+1) (.ref a) (.ref b) true:=by
 by_cases hab:a=b
 ·subst hab
  exact .same
 ·refine .refs hab ?_
  have:=n9.tup (K:=K) (H:=H) (n:=n) (e:=fun _=>true) (gO.of ha) (gO.of hb) h
  rwa [show ((List.range (min xs.length ys.length)).all (fun _=>true) && xs.length == ys.length)=true by simp [hl]] at this
theorem vG {K:PySem.W.Frag} {H:Hp} {n:Nat} {a b:Addr} {xs ys:List V} (ha:H a=some (.lst xs)) (hb:H b=some (.lst ys)) (hl:xs.length=ys.length) (h:∀(j:Nat) x y,xs[j]?=some x→ys[j]?=some y→pT K H n x y true):n9 K H (n+1) a b true:=by
 have:=n9.list (K:=K) (H:=H) (n:=n) (e:=fun _=>true) (eA.of ha) (eA.of hb) hl h
 rwa [show (List.range xs.length).all (fun _=>true)=true by simp] at this
theorem eqA_lst {K:PySem.W.Frag} {H:Hp} {n:Nat} {a b:Addr} {xs ys:List V} (ha:H a=some (.lst xs)) (hb:H b=some (.lst ys)) (hl:xs.length=ys.length) (h:∀(j:Nat) x y,xs[j]?=some x→ys[j]?=some y→pT K H n x y true):pT K H (n+1) (.ref a) (.ref b) true:=by
 by_cases hab:a=b
 ·subst hab
  exact .same
 ·exact .refs hab (vG ha hb hl h)
theorem wK {K:PySem.W.Frag} {H:Hp} {n:Nat} {x:V} (h:dP x=true) (e:oJ x x=true):pT K H n x x true:=by
 have:=pT.flat (K:=K) (H:=H) (n:=n) h h
 rwa [e] at this
noncomputable def pQ (cs:Cmds):Prop:=∀ c∈cs,∀ v∈c,dP v=true∧oJ v v=true
theorem cs_eqA {K:PySem.W.Frag} {H:Hp} {n:Nat} {us vs:List V} {cs:Cmds} (h:gA H us cs) (g:gA H vs cs) (f:pQ cs):∀(j:Nat) x y,us[j]?=some x→vs[j]?=some y→pT K H (n+1) x y true:=fun j x y e1 e2=>by
 obtain ⟨a,c,rfl,e3,ha⟩:=h.at e1
 obtain ⟨b,c',rfl,e4,hb⟩:=g.at e2
 rw [e3] at e4
 cases e4
 refine aaH ha hb rfl fun i v w e5 e6=>?_
 rw [e5] at e6
 cases e6
 have:=f c (List.mem_of_getElem? e3) v (List.mem_of_getElem? e5)
 exact wK this.1 this.2
theorem bJ.snoc {H:Hp} {vs:List V} {hs:List Hap} {v:V} {h:Hap} (x:bJ H vs hs) (a:pG H v h):bJ H (vs++[v]) (hs++[h]):=by
 induction x with
 | nil=>exact .cons a .nil
 | cons b _ ih=>exact .cons b ih
theorem bJ.app {H:Hp} {vs us:List V} {hs gs:List Hap} (x:bJ H vs hs) (y:bJ H us gs):bJ H (vs++us) (hs++gs):=by
 induction x with
 | nil=>exact y
 | cons b _ ih=>exact .cons b ih
theorem bJ.drop {H:Hp} {vs:List V} {hs:List Hap} (n:Nat) (x:bJ H vs hs):bJ H (vs.drop n) (hs.drop n):=by
 induction x generalizing n with
 | nil=>simpa using bJ.nil
 | cons a b ih =>
  cases n with
  | zero=>exact .cons a b
  | succ n=>exact ih n
theorem bJ.take {H:Hp} {vs:List V} {hs:List Hap} (n:Nat) (x:bJ H vs hs):bJ H (vs.take n) (hs.take n):=by
 induction x generalizing n with
 | nil=>simpa using bJ.nil
 | cons a b ih =>
  cases n with
  | zero=>exact .nil
  | succ n=>exact .cons a (ih n)
theorem bJ.cut {H:Hp} {vs:List V} {hs:List Hap} (x:bJ H vs hs) (lo hi:Option Int):∃ gs,bJ H (kH vs lo hi) gs∧(∀ g∈gs,g∈hs)∧gs.length≤hs.length :=
 ⟨_,(x.drop _).take _,fun _ h=>List.mem_of_mem_drop (List.mem_of_mem_take h),by rw [List.length_take,List.length_drop];omega⟩
theorem bJ.rep {H:Hp} {vs:List V} {hs:List Hap} (x:bJ H vs hs):∀ n:Nat,bJ H (List.replicate n vs).flatten (List.replicate n hs).flatten
 | 0=>.nil
 | n+1=>by
  rw [List.replicate_succ,List.replicate_succ,List.flatten_cons,List.flatten_cons]
  exact x.app (x.rep n)
theorem bJ.refs {H:Hp} {vs:List V} {hs:List Hap} (x:bJ H vs hs):∀ v∈vs,∃ c,v=.ref c:=by
 induction x with
 | nil=>intro v h;cases h
 | cons a _ ih =>
  intro v h
  rcases List.mem_cons.mp h with rfl | h
  ·obtain ⟨c,e,_⟩:=a
   exact ⟨c,e⟩
  ·exact ih v h
theorem qG {xs:List V} {m:Nat}:kH xs none (some (m:Int))=xs.take m:=by
 unfold kH
 rw [HT.sIx_none,HT.sIx_nat,List.drop_zero,Nat.sub_zero,List.take_eq_take_iff]
 omega
noncomputable def yZ (v:V):Prop:=dP v=true∧oJ v v=true
theorem cB (x:Str):yZ (.str x):=⟨rfl,by simp [aaJ]⟩
theorem gJ (i:Int):yZ (.int i):=⟨rfl,by simp [eqV_int]⟩
theorem gT (w:Wo):yZ (wv w):=by
 cases w with
 | none=>exact ⟨rfl,rfl⟩
 | some i=>exact gJ i
structure iR (K:PySem.W.Frag) (H:Hp) (n:Nat) (xs ys:List V):Prop where
 len:xs.length=ys.length
 at':∀(j:Nat) x y,xs[j]?=some x→ys[j]?=some y→pT K H n x y true
section
variable {K:PySem.W.Frag} {H:Hp} {n:Nat} {a b:Addr} {x y:V} {xs ys us vs:List V}
theorem iR.nil:iR K H n [] []:=⟨rfl,fun j x y e=>by simp at e⟩
theorem iR.cons (h:pT K H n x y true) (t:iR K H n xs ys):iR K H n (x::xs) (y::ys):=⟨by simp [t.len],fun j u v e1 e2=>by
 cases j with
 | zero =>
  simp only [List.getElem?_cons_zero,Option.some.injEq] at e1 e2
  subst e1 e2
  exact h
 | succ j=>exact t.at' j u v (by simpa using e1) (by simpa using e2)⟩
theorem iR.app (h:iR K H n xs ys) (t:iR K H n us vs):iR K H n (xs++us) (ys++vs):=⟨by simp [h.len,t.len],fun j u v e1 e2=>by
 by_cases c:j < xs.length
 ·rw [List.getElem?_append_left c] at e1
  rw [List.getElem?_append_left (by rw [← h.len];exact c)] at e2
  exact h.at' j u v e1 e2
 ·rw [List.getElem?_append_right (by omega)] at e1
  rw [List.getElem?_append_right (by rw [← h.len];omega),← h.len] at e2
  exact t.at' _ u v e1 e2⟩
theorem yZ.eq (h:yZ x):pT K H n x x true:=wK h.1 h.2
theorem iR.refl (h:∀ v∈xs,yZ v):iR K H n xs xs:=⟨rfl,fun j u v e1 e2=>by
 rw [e1] at e2
 cases e2
 exact (h u (List.mem_of_getElem? e1)).eq⟩
theorem iR.tup (h:iR K H n xs ys) (ha:H a=some (.tup xs)) (hb:H b=some (.tup ys)):pT K H (n+1) (.ref a) (.ref b) true:=aaH ha hb h.len h.at'
theorem iR.rcL (h:iR K H n xs ys) (ha:H a=some (.lst xs)) (hb:H b=some (.lst ys)):n9 K H (n+1) a b true:=vG ha hb h.len h.at'
theorem iR.lst (h:iR K H n xs ys) (ha:H a=some (.lst xs)) (hb:H b=some (.lst ys)):pT K H (n+1) (.ref a) (.ref b) true:=eqA_lst ha hb h.len h.at'
theorem iR.rcT (h:iR K H n xs ys) (ha:H a=some (.tup xs)) (hb:H b=some (.tup ys)):n9 K H (n+1) a b true:=by
 have:=n9.tup (K:=K) (H:=H) (n:=n) (e:=fun _=>true) (gO.of ha) (gO.of hb) h.at'
 rwa [show ((List.range (min xs.length ys.length)).all (fun _=>true) && xs.length == ys.length)=true by simp [h.len]] at this
theorem cs_eqL {cs:Cmds} (h:gA H us cs) (g:gA H vs cs) (f:pQ cs):iR K H (n+1) us vs:=⟨by rw [h.len,g.len],cs_eqA h g f⟩
theorem abD {ps:List (V×V)} (h:eU H us ps) (g:eU H vs ps) (f:∀ p∈ps,yZ p.1∧yZ p.2):iR K H (n+1) us vs:=by
 induction h generalizing vs with
 | nil=>cases g;exact .nil
 | @cons a x y us ps e _ ih =>
  cases g with
  | cons e2 g =>
   have:=f (x,y) (by simp)
   exact .cons (iR.tup (.cons this.1.eq (.cons this.2.eq .nil)) e e2) (ih g fun p hp=>f p (List.mem_cons_of_mem _ hp))
theorem lts_eqL {ps:List (Str×List Wo)} (h:gW H us ps) (g:gW H vs ps):iR K H (n+2) us vs:=by
 induction h generalizing vs with
 | nil=>cases g;exact .nil
 | @cons a b k ws us ps e e' _ ih =>
  cases g with
  | cons e2 e2' g =>
   refine .cons (iR.tup (.cons (cB k).eq (.cons (iR.tup (iR.refl fun v hv=>?_) e' e2') .nil)) e e2) (ih g)
   obtain ⟨w,_,rfl⟩:=List.mem_map.mp hv
   exact gT w
theorem nT (ts:List Int):∀ v∈ts.map V.int,yZ v:=fun v hv=>by
 obtain ⟨i,_,rfl⟩:=List.mem_map.mp hv
 exact gJ i
theorem zT {s:Slp} (h:jC H x s) (g:jC H y s):pT K H (n+2) x y true:=by
 cases s with
 | non =>
  rw [show x=.non from h,show y=.non from g]
  exact (show yZ .non from ⟨rfl,rfl⟩).eq
 | new =>
  obtain ⟨p,rfl,e⟩:=h
  obtain ⟨p2,rfl,e2⟩:=g
  exact iR.tup (.cons (cB _).eq .nil) e e2
 | wait ts =>
  obtain ⟨p,p2,rfl,e,f⟩:=h
  obtain ⟨q,q2,rfl,e2,f2⟩:=g
  exact iR.tup (.cons (cB _).eq (.cons (iR.tup (iR.refl (nT ts)) f f2) .nil)) e e2
 | hear k =>
  obtain ⟨p,rfl,e⟩:=h
  obtain ⟨p2,rfl,e2⟩:=g
  exact iR.tup (.cons (cB _).eq (.cons (cB _).eq .nil)) e e2
 | ended w =>
  obtain ⟨p,rfl,e⟩:=h
  obtain ⟨p2,rfl,e2⟩:=g
  exact iR.tup (.cons (cB _).eq (.cons (gT _).eq .nil)) e e2
 | worn =>
  obtain ⟨p,rfl,e⟩:=h
  obtain ⟨p2,rfl,e2⟩:=g
  exact iR.tup (.cons (cB _).eq .nil) e e2
theorem sZ (nm:List (Str×Wo)):∀(l:List Str),∀ p∈eY nm l,yZ p.1∧yZ p.2
 | [],p,h=>by simp [eY] at h
 | k::l,p,h=>by
  simp only [eY] at h
  split at h
  ·exact sZ nm l p h
  ·rcases List.mem_cons.mp h with rfl | h
   ·exact ⟨cB _,gT _⟩
   ·exact sZ nm l p h
theorem st_eq {S:Pu} (h:sB H x S) (g:sB H y S):pT K H (n+4) x y true:=by
 unfold sB at h g
 split at h
 ·next hg =>
  rw [if_pos hg] at g
  obtain ⟨p,pl,pn,po,pa,pt,sl,un,ua,ut,rfl,a1,a2,a3,a4,a5,a6,a7,a8,a9,a10⟩:=h
  obtain ⟨q,ql,qn,qo,qa,qt,sl',un',ua',ut',rfl,b1,b2,b3,b4,b5,b6,b7,b8,b9,b10⟩:=g
  refine iR.tup (n:=n+3) (.cons (zT (n:=n+1) a2 b2) (.cons (iR.tup (n:=n+2) (iR.refl (nT _)) a3 b3) (.cons (gT _).eq (.cons (gJ _).eq (.cons (iR.tup (n:=n+2) (abD (n:=n+1) a5 b5 (sZ _ _)) a4 b4) (.cons (gJ _).eq (.cons (iR.tup (n:=n+2) (iR.refl (nT _)) a6 b6) (.cons (iR.tup (n:=n+2) (abD (n:=n+1) a8 b8 fun p hp=>?_) a7 b7) (.cons (iR.tup (n:=n+2) (lts_eqL (n:=n) a10 b10) a9 b9) .nil))))))))) a1 b1
  obtain ⟨z,_,rfl⟩:=List.mem_map.mp hp
  exact ⟨gJ _,gT _⟩
 ·next hg =>
  rw [if_neg hg] at g
  exact zT (n:=n+2) h g
theorem xS {S:Pu} (h:lZ H a S) (g:lZ H b S):n9 K H (n+5) a b true:=by
 obtain ⟨v,sl,lo,e,hv,hs,eo⟩:=h
 obtain ⟨v',sl',lo',e',hv',hs',eo'⟩:=g
 exact iR.rcT (n:=n+4) (.cons (st_eq hv hv') (.cons (zT (n:=n+2) hs hs') (.cons (iR.lst (n:=n+3) (iR.refl (nT _)) eo eo') .nil))) e e'
end
theorem d8:pQ []:=fun _ h=>by cases h
theorem flatC_app {a b:Cmds} (h:pQ a) (g:pQ b):pQ (a++b):=fun c hc=>by
 rcases List.mem_append.mp hc with hc | hc
 ·exact h c hc
 ·exact g c hc
theorem eP {c:List V} (h:∀ v∈c,yZ v):pQ [c]:=fun x hx=>by
 rw [show x=c by simpa using hx]
 exact h
noncomputable def okC (m:Nat) (cs:Cmds):Prop:=pQ cs∧cs.length≤m
theorem deed_okC (S:Pu) (m:Stm):okC 1 (deed S m).2:=by
 refine ⟨?_,xP S m⟩
 cases m with
 | set x s=>exact d8
 | order x y s=>exact eP (by simp only [List.forall_mem_cons];exact ⟨cB _,gJ _,cB _,gT _,by simp⟩)
 | child x y s=>exact eP (by simp only [List.forall_mem_cons];exact ⟨cB _,gJ _,cB _,gT _,by simp⟩)
 | timer x s=>exact eP (by simp only [List.forall_mem_cons];exact ⟨cB _,gJ _,gJ _,by simp⟩)
 | send s k r=>exact eP (by simp only [List.forall_mem_cons];exact ⟨cB _,gT _,cB _,gT _,by simp⟩)
 | drop s =>
  simp only [Own.deed]
  split
  ·split
   ·exact eP (by simp only [List.forall_mem_cons];exact ⟨cB _,gJ _,by simp⟩)
   ·exact d8
  ·exact d8
 | hear x k =>
  simp only [Own.deed]
  split<;>exact d8
 | wait x ss =>
  simp only [Own.deed]
  split<;>exact d8
 | fin s=>exact eP (by simp only [List.forall_mem_cons];exact ⟨cB _,gT _,by simp⟩)
 | whl s b=>exact d8
 | iff s b o=>exact d8
theorem one_okC (S:Pu) (m:Stm):okC 1 (one S m).2:=by
 unfold one
 split
 ·exact ⟨d8,by simp⟩
 ·exact deed_okC S m
theorem nZ:∀(n:Nat) (S:Pu),okC (n+1) (gR n S).2
 | 0,S=>by
  cases e:stand S.come.stk with
  | none=>rw [dG e];exact ⟨eP (by simp only [List.forall_mem_cons];exact ⟨cB _,gT _,by simp⟩),by simp [Pu.ends]⟩
  | some m=>rw [h8 e];exact ⟨eP (by simp only [List.forall_mem_cons];exact ⟨cB _,by simp⟩),by simp [Pu.wears]⟩
 | n+1,S=>by
  cases e:stand S.come.stk with
  | none=>rw [dG e];exact ⟨eP (by simp only [List.forall_mem_cons];exact ⟨cB _,gT _,by simp⟩),by simp [Pu.ends]⟩
  | some m =>
   have h1:=one_okC S.come m
   cases z:(one S.come m).1.sl.isN with
   | true =>
    rw [mD e z]
    have h2:=nZ n (one S.come m).1
    exact ⟨flatC_app h1.1 h2.1,by simp only [List.length_append];have:=h1.2;have:=h2.2;omega⟩
   | false=>rw [iJ e z];exact ⟨h1.1,by have:=h1.2;omega⟩
theorem wY (S:Pu) (w:Wo):okC 301 (S.wake w).2:=by
 unfold Pu.wake
 split
 ·exact nZ 300 _
 ·exact nZ 300 _
 ·exact ⟨d8,by simp⟩
theorem xM (S:Pu) (x:Hap):okC 301 (S.take x).2:=by
 have nl:okC 301 []:=⟨d8,by simp⟩
 unfold Pu.take
 split
 ·exact nl
 cases x with
 | beg m w=>exact nZ 300 _
 | don m i w =>
  show okC 301 ((S.at' m).takeD i w).2
  unfold Pu.takeD
  split
  ·split
   ·exact wY _ _
   ·exact nl
  ·exact nl
 | ltr m k w =>
  show okC 301 ((S.at' m).takeL k w).2
  unfold Pu.takeL
  split
  ·split
   ·exact wY _ _
   ·exact nl
  ·exact nl
theorem uJ:∀(l:List Hap) (S:Pu),∀ cs∈(takes S l).2,okC 301 cs
 | [],S,cs,h=>by simp [takes] at h
 | x::l,S,cs,h=>by
  simp only [takes,List.mem_cons] at h
  rcases h with rfl | h
  ·exact xM S x
  ·exact uJ l _ cs h
noncomputable def Hap.inK (h:Hap):Prop:=h.fine∧∀ m k w,h=.ltr m k w→k∈KY3
theorem dN.takes {L:List Str}:∀(l:List Hap) {S:Pu},dN L S→dN L (takes S l).1
 | [],_,h=>h
 | x::l,_,h=>dN.takes l (h.take x)
theorem eF.takes:∀(l:List Hap) {S:Pu},eF KY3 S→(∀ h∈l,h.inK)→eF KY3 (takes S l).1
 | [],_,h,_=>h
 | x::l,_,h,f=>eF.takes l (h.take x (f x (by simp)).2) fun y hy=>f y (List.mem_cons_of_mem _ hy)
theorem nm_new {b:List Stm} (h:dO NM4 b):dN NM4 (dU b):=⟨by simp [dU],by simp [dU],fun x hx=>by rw [show x=(0,b,0) by simpa [dU] using hx];exact h⟩
theorem lt_new {b:List Stm}:eF KY3 (dU b):=⟨by simp [dU],by simp [dU]⟩
structure Fine (S:Pu) (N:Nat):Prop where
 fit:Fit true S N
 isN:S.sl.isN=false
 nm:dN NM4 S
 lt:eF KY3 S
noncomputable def kP (H:Hp) (tl:Nat→List V) (rs:List Addr) (css:List Cmds):Prop:=rs.length=css.length∧∀(j:Nat) (a:Addr) (cs:Cmds),rs[j]?=some a→css[j]?=some cs→∃ us,H a=some (.lst (us++tl j))∧gA H us cs
theorem kP.of {H:Hp} {rs:List Addr} {css:List Cmds} (h:eE H rs css):kP H (fun _=>[]) rs css:=by
 induction h with
 | nil=>exact ⟨rfl,fun j a cs e=>by simp at e⟩
 | @cons a us cs as css e c _ ih =>
  refine ⟨by simp [ih.1],fun j b ds e1 e2=>?_⟩
  cases j with
  | zero =>
   simp only [List.getElem?_cons_zero,Option.some.injEq] at e1 e2
   subst e1 e2
   exact ⟨us,by simpa using e,c⟩
  | succ j=>exact ih.2 j b ds (by simpa using e1) (by simpa using e2)
theorem kP.keep {H H':Hp} {tl:Nat→List V} {rs:List Addr} {css:List Cmds} (h:kP H tl rs css) (k:∀ a∈rs,∀ o,H a=some o→H' a=some o) (t:aK H H'):kP H' tl rs css:=⟨h.1,fun j a cs e1 e2=>by
 obtain ⟨us,e,c⟩:=h.2 j a cs e1 e2
 exact ⟨us,k a (List.mem_of_getElem? e1) _ e,c.kt t⟩⟩
theorem kP.kp {H H':Hp} {tl:Nat→List V} {rs:List Addr} {css:List Cmds} (h:kP H tl rs css) (k:Kp [] H H'):kP H' tl rs css:=h.keep (fun _ _ _ e=>k.at e) (aK.nil k)
theorem kP.take {H:Hp} {tl:Nat→List V} {rs:List Addr} {css:List Cmds} (h:kP H tl rs css) (m:Nat):kP H tl (rs.take m) (css.take m):=⟨by simp [h.1],fun j a cs e1 e2=>by
 rw [List.getElem?_take] at e1 e2
 split at e1
 ·next hj=>rw [if_pos hj] at e2;exact h.2 j a cs e1 e2
 ·cases e1⟩
theorem kP.at' {H:Hp} {tl:Nat→List V} {rs:List Addr} {css:List Cmds} (h:kP H tl rs css) {j:Nat} {a:Addr} (e:rs[j]?=some a):∃ us cs,css[j]?=some cs∧H a=some (.lst (us++tl j))∧gA H us cs:=by
 have hj:j < css.length:=by rw [← h.1];exact (List.getElem?_eq_some_iff.mp e).1
 obtain ⟨us,e1,c⟩:=h.2 j a css[j] e (List.getElem?_eq_getElem hj)
 exact ⟨us,css[j],List.getElem?_eq_getElem hj,e1,c⟩
theorem kP.there {H:Hp} {tl:Nat→List V} {rs:List Addr} {css:List Cmds} (h:kP H tl rs css):∀ a∈rs,∃ us,H a=some (.lst us):=fun a ha=>by
 obtain ⟨j,e⟩:=List.mem_iff_getElem?.mp ha
 obtain ⟨us,cs,_,e1,_⟩:=h.at' e
 exact ⟨_,e1⟩
theorem kP.rc {K:PySem.W.Frag} {H:Hp} {n:Nat} {tl:Nat→List V} {rs rs':List Addr} {css:List Cmds} {a b:Addr} (h:kP H tl rs css) (g:kP H tl rs' css) (ha:H a=some (.lst (rs.map V.ref))) (hb:H b=some (.lst (rs'.map V.ref))) (f:∀ cs∈css,okC 301 cs) (ft:∀ j,∀ v∈tl j,yZ v):n9 K H (n+3) a b true:=by
 refine vG ha hb (by simp [h.1,g.1]) fun j x y e1 e2=>?_
 rw [List.getElem?_map] at e1 e2
 obtain ⟨c,e3,rfl⟩:=Option.map_eq_some_iff.mp e1
 obtain ⟨d,e4,rfl⟩:=Option.map_eq_some_iff.mp e2
 obtain ⟨us,cs,e5,e6,hc⟩:=h.at' e3
 obtain ⟨vs,e7,hd⟩:=g.2 j d cs e4 e5
 exact iR.lst ((cs_eqL hc hd (f cs (List.mem_of_getElem? e5)).1).app (iR.refl (ft j))) e6 e7
noncomputable def iN (i:Nat):Nat→List V:=fun j=>if j < i then [.str "more"] else []
theorem kP.more {H:Hp} {rs:List Addr} {css:List Cmds} {i:Nat} {a:Addr} {us:List V} (h:kP H (iN i) rs css) (nd:rs.Nodup) (e:rs[i]?=some a) (ea:H a=some (.lst us)):kP (upd H a (.lst (us++[.str "more"]))) (iN (i+1)) rs css:=⟨h.1,fun j b cs e1 e2=>by
 obtain ⟨vs,e3,c⟩:=h.2 j b cs e1 e2
 have t:aK H (upd H a (.lst (us++[.str "more"]))):=aK.setO ea (by intro _ z;cases z)
 by_cases hj:j=i
 ·subst hj
  rw [e] at e1
  cases e1
  rw [ea] at e3
  have e4:us=vs++iN j j:=by simpa using e3
  have e5:iN j j=[]:=if_neg (by omega)
  rw [e5,List.append_nil] at e4
  subst e4
  exact ⟨us,by rw [aA,iN,if_pos (by omega)],c.kt t⟩
 ·have nb:b≠a:=fun z=>by
   subst z
   exact hj ((List.getElem?_inj (List.getElem?_eq_some_iff.mp e1).1 nd).mp (by rw [e1,e]))
  refine ⟨vs,?_,c.kt t⟩
  rw [aI nb,e3]
  have:iN i j=iN (i+1) j:=by
   unfold iN
   by_cases h1:j < i
   ·rw [if_pos h1,if_pos (by omega)]
   ·rw [if_neg h1,if_neg (by omega)]
  rw [this]⟩
theorem kP.all {H:Hp} {rs:List Addr} {css:List Cmds} {i:Nat} (h:kP H (iN i) rs css) (l:rs.length≤i):kP H (fun _=>[.str "more"]) rs css:=⟨h.1,fun j a cs e1 e2=>by
 obtain ⟨us,e,c⟩:=h.2 j a cs e1 e2
 have hj:j < rs.length:=(List.getElem?_eq_some_iff.mp e1).1
 exact ⟨us,by rw [e,iN,if_pos (by omega)],c⟩⟩
theorem kP.snoc {H:Hp} {t:List V} {rs:List Addr} {css:List Cmds} {a:Addr} {us:List V} {cs:Cmds} (h:kP H (fun _=>t) rs css) (e:H a=some (.lst (us++t))) (c:gA H us cs):kP H (fun _=>t) (rs++[a]) (css++[cs]):=⟨by simp [h.1],fun j b ds e1 e2=>by
 by_cases hj:j < rs.length
 ·rw [List.getElem?_append_left hj] at e1
  rw [List.getElem?_append_left (by rw [← h.1];exact hj)] at e2
  exact h.2 j b ds e1 e2
 ·rw [List.getElem?_append_right (by omega)] at e1
  rw [List.getElem?_append_right (by rw [← h.1];omega),← h.1] at e2
  cases hk:j - rs.length with
  | zero =>
   rw [hk] at e1 e2
   simp only [List.getElem?_cons_zero,Option.some.injEq] at e1 e2
   subst e1 e2
   exact ⟨us,e,c⟩
  | succ k=>rw [hk] at e1;simp at e1⟩
theorem aW.wkNot {C:Cl} {H:Hp} {R R':Rn} {as as':List Addr} {sl sl':V} {S S':Pu} (A:aW C H R as sl S) (B:aW C H R' as' sl' S'):R'.wk∉R.cells∧R'.wk∉as:=by
 obtain ⟨kvs,e,L⟩:=A.lt
 obtain ⟨vs,el,_⟩:=A.wk.bl
 have w:=B.wk.ins
 refine ⟨fun h=>?_,fun h=>?_⟩
 ·simp only [Rn.cells,List.mem_cons,List.not_mem_nil,or_false] at h
  rcases h with h | h | h | h | h | h | h | h<;>rw [h] at w
  ·rw [A.ins] at w;simp at w
  ·rw [el] at w;cases w
  ·rw [A.wk.nu] at w;cases w
  ·rw [A.nm] at w;cases w
  ·rw [A.tk.ins] at w;simp at w
  ·rw [A.tk.hp] at w;cases w
  ·rw [A.tk.ha] at w;cases w
  ·rw [e] at w;cases w
 ·obtain ⟨xs,ex⟩:=L.ex _ h
  rw [ex] at w
  cases w
structure Two (C:Cl) (G:Hp) (R1 R2:Rn) (as1 as2:List Addr) (sl1 sl2:V) (S1 S2:Pu) (L:List Addr):Prop where
 a1:aW C G R1 as1 sl1 S1
 a2:aW C G R2 as2 sl2 S2
 dis:∀ a,a∈R1.cells∨a∈as1→a∉R2.cells∧a∉as2
 sf:∀ a∈L,(∃ o,G a=some o)∧(a∉R1.cells∧a∉as1)∧a∉R2.cells∧a∉as2
section
variable {C:Cl} {G G':Hp} {R1 R2:Rn} {as1 as2 as':List Addr} {sl1 sl2 sl':V} {S1 S2 S':Pu} {L:List Addr}
theorem Two.symm (h:Two C G R1 R2 as1 as2 sl1 sl2 S1 S2 L):Two C G R2 R1 as2 as1 sl2 sl1 S2 S1 L :=
 ⟨h.a2,h.a1,fun a ha=>⟨fun z=>by rcases ha with y | y;exact (h.dis a (.inl z)).1 y;exact (h.dis a (.inl z)).2 y,fun z=>by rcases ha with y | y;exact (h.dis a (.inr z)).1 y;exact (h.dis a (.inr z)).2 y⟩,fun a ha=>⟨(h.sf a ha).1,(h.sf a ha).2.2,(h.sf a ha).2.1⟩⟩
theorem Two.keep (h:Two C G R1 R2 as1 as2 sl1 sl2 S1 S2 L) (F:Fw R1 as1 as' G G'):∀ a∈L,∀ o,G a=some o→G' a=some o:=fun a ha o e=>F.kp a o e (h.sf a ha).2.1.1 (h.sf a ha).2.1.2
theorem Two.step (h:Two C G R1 R2 as1 as2 sl1 sl2 S1 S2 L) (F:Fw R1 as1 as' G G') (A:aW C G' R1 as' sl' S'):Two C G' R1 R2 as' as2 sl' sl2 S' S2 L:=by
 have d:=h.symm.dis
 refine ⟨A,h.a2.keep (fun b o e hb=>?_) (h.a1.tkp F),fun a ha=>?_,fun a ha=>?_⟩
 ·rcases hb with rfl | hb
  ·exact F.kp _ o e (h.a1.wkNot h.a2).1 (h.a1.wkNot h.a2).2
  ·exact F.kp b o e (d b hb).1 (d b hb).2
 ·rcases ha with ha | ha
  ·exact h.dis a (.inl ha)
  ·rcases F.new a ha with z | z
   ·exact h.dis a (.inr z)
   ·exact h.a2.nofree z
 ·obtain ⟨⟨o,e⟩,n1,n2⟩:=h.sf a ha
  refine ⟨⟨o,h.keep F a ha o e⟩,⟨n1.1,fun z=>?_⟩,n2⟩
  rcases F.new a z with y | y
  ·exact n1.2 y
  ·rw [e] at y;cases y
theorem Two.kp (h:Two C G R1 R2 as1 as2 sl1 sl2 S1 S2 L) (k:Kp [] G G'):Two C G' R1 R2 as1 as2 sl1 sl2 S1 S2 L:=⟨h.a1.kp k,h.a2.kp k,h.dis,fun a ha=>by
 obtain ⟨⟨o,e⟩,n⟩:=h.sf a ha
 exact ⟨⟨o,k.at e⟩,n⟩⟩
theorem Two.more {L':List Addr} {st:Addr} {o:HO} (h:Two C G R1 R2 as1 as2 sl1 sl2 S1 S2 L) (e:G st=some o) (n1:st∉R1.cells∧st∉as1) (n2:st∉R2.cells∧st∉as2) (sub:∀ a∈L',a=st∨a∈L):Two C G R1 R2 as1 as2 sl1 sl2 S1 S2 L':=⟨h.a1,h.a2,h.dis,fun a ha=>by
 rcases sub a ha with rfl | z
 ·exact ⟨⟨o,e⟩,n1,n2⟩
 ·exact h.sf a z⟩
theorem Two.app {hd:Addr} {us vs:List V} (h:Two C G R1 R2 as1 as2 sl1 sl2 S1 S2 L) (e:G hd=some (.lst us)) (hh:hd∈L):Two C (upd G hd (.lst vs)) R1 R2 as1 as2 sl1 sl2 S1 S2 L:=by
 obtain ⟨_,n1,n2⟩:=h.sf hd hh
 refine ⟨h.a1.other e n1.1 n1.2,h.a2.other e n2.1 n2.2,h.dis,fun a ha=>⟨?_,(h.sf a ha).2⟩⟩
 by_cases z:a=hd
 ·exact ⟨_,by rw [z,aA]⟩
 ·obtain ⟨o,eo⟩:=(h.sf a ha).1
  exact ⟨o,by rw [aI z,eo]⟩
structure Hld (G:Hp) (t2 x2 cl hl hd st:Addr) (rs2 rs3:List Addr) (hv:List V) (css:List Cmds):Prop where
 et:G t2=some (.tup [.ref x2,.ref cl])
 c2:G cl=some (.lst (rs2.map V.ref))
 w2:kP G (fun _=>[.str "more"]) rs2 css
 c3:G hl=some (.lst (rs3.map V.ref))
 w3:kP G (fun _=>[.str "more"]) rs3 css
 eh:G hd=some (.lst hv)
 es:G st=some (.lst hv)
variable {t2 x2 cl1 cl2 cl hl hd st:Addr} {rs1 rs2 rs3:List Addr} {hv hv':List V} {css:List Cmds}
theorem Hld.keep (h:Hld G t2 x2 cl hl hd st rs2 rs3 hv css) (k:∀ a∈cl::hl::hd::st::(rs2++rs3),∀ o,G a=some o→G' a=some o) (t:aK G G'):Hld G' t2 x2 cl hl hd st rs2 rs3 hv css :=
 ⟨t _ _ h.et,k _ (by simp) _ h.c2,h.w2.keep (fun a ha=>k a (by simp [ha])) t,k _ (by simp) _ h.c3,h.w3.keep (fun a ha=>k a (by simp [ha])) t,k _ (by simp) _ h.eh,k _ (by simp) _ h.es⟩
theorem Hld.kp (h:Hld G t2 x2 cl hl hd st rs2 rs3 hv css) (k:Kp [] G G'):Hld G' t2 x2 cl hl hd st rs2 rs3 hv css:=h.keep (fun _ _ _ e=>k.at e) (aK.nil k)
theorem Hld.app (h:Hld G t2 x2 cl hl hd hd rs2 rs3 hv css) (n:∀ a∈cl::hl::(rs2++rs3),a≠hd):Hld (upd G hd (.lst hv')) t2 x2 cl hl hd hd rs2 rs3 hv' css:=by
 have t:aK G (upd G hd (.lst hv')):=aK.setO h.eh (by intro _ z;cases z)
 have k:∀ a∈cl::hl::(rs2++rs3),∀ o,G a=some o→upd G hd (.lst hv') a=some o:=fun a ha o e=>by rw [aI (n a ha),e]
 exact ⟨t _ _ h.et,k _ (by simp) _ h.c2,h.w2.keep (fun a ha=>k a (by simp [ha])) t,k _ (by simp) _ h.c3,h.w3.keep (fun a ha=>k a (by simp [ha])) t,aA,aA⟩
structure Mid (C:Cl) (G0 G:Hp) (R1 R2:Rn) (as1 as2:List Addr) (sl1 sl2:V) (S:Pu) (cl1 cl2 hd t2:Addr) (rs1 rs2:List Addr) (css:List Cmds) (hv:List V) (i:Nat):Prop where
 k:Kp [] G0 G
 a1:aW C G R1 as1 sl1 S
 a2:aW C G R2 as2 sl2 S
 c1:G cl1=some (.lst (rs1.map V.ref))
 w1:kP G (fun _=>[]) rs1 css
 c2:G cl2=some (.lst (rs2.map V.ref))
 w2:kP G (iN i) rs2 css
 et:G t2=some (.tup [.ref R2.x,.ref cl2])
 eh:G hd=some (.lst hv)
structure Apt (G0:Hp) (R1 R2:Rn) (as1 as2:List Addr) (cl1 cl2 hd:Addr) (rs1 rs2:List Addr):Prop where
 dis:∀ a,a∈R1.cells∨a∈as1→a∉R2.cells∧a∉as2
 h1:hd∉R1.cells∧hd∉as1
 h2:hd∉R2.cells∧hd∉as2
 d1:cl2∉R1.cells∧cl2∉as1
 d2:cl2∉R2.cells∧cl2∉as2
 dh:cl2≠hd
 nd:rs2.Nodup
 rs:∀ a∈rs2,(a∉R1.cells∧a∉as1)∧(a∉R2.cells∧a∉as2)∧a≠cl2∧a≠hd∧a∉rs1∧a≠cl1∧G0 a=none
 g1:∀ a,a∈R1.cells∨a∈as1→G0 a=none
 g2:∀ a,a∈R2.cells∨a∈as2→G0 a=none
 gh:G0 hd=none
variable {G0:Hp} {S:Pu} {i:Nat}
theorem Mid.kp (h:Mid C G0 G R1 R2 as1 as2 sl1 sl2 S cl1 cl2 hd t2 rs1 rs2 css hv i) (k:Kp [] G G'):Mid C G0 G' R1 R2 as1 as2 sl1 sl2 S cl1 cl2 hd t2 rs1 rs2 css hv i:=⟨h.k.trans k,h.a1.kp k,h.a2.kp k,k.at h.c1,h.w1.kp k,k.at h.c2,h.w2.kp k,k.at h.et,k.at h.eh⟩
theorem Mid.more (h:Mid C G0 G R1 R2 as1 as2 sl1 sl2 S cl1 cl2 hd t2 rs1 rs2 css hv i) (p:Apt G0 R1 R2 as1 as2 cl1 cl2 hd rs1 rs2) {a:Addr} {us:List V} (e:rs2[i]?=some a) (ea:G a=some (.lst us)):Mid C G0 (upd G a (.lst (us++[.str "more"]))) R1 R2 as1 as2 sl1 sl2 S cl1 cl2 hd t2 rs1 rs2 css hv (i+1):=by
 obtain ⟨n1,n2,n3,n4,n5,n6,n7⟩:=p.rs a (List.mem_of_getElem? e)
 have t:aK G (upd G a (.lst (us++[.str "more"]))):=aK.setO ea (by intro _ z;cases z)
 refine ⟨fun b o eb _=>?_,h.a1.other ea n1.1 n1.2,h.a2.other ea n2.1 n2.2,?_,h.w1.keep (fun b hb o eb=>?_) t,?_,h.w2.more p.nd e ea,t _ _ h.et,?_⟩
 ·rw [aI (aL eb n7)];exact h.k.at eb
 ·rw [aI (fun z=>n6 z.symm)];exact h.c1
 ·rw [aI (fun z=>n5 (by rw [← z];exact hb))];exact eb
 ·rw [aI (fun z=>n3 z.symm)];exact h.c2
 ·rw [aI (fun z=>n4 z.symm)];exact h.eh
theorem yA (i:Nat):∀ j,∀ v∈iN i j,yZ v:=fun j v hv=>by
 unfold iN at hv
 split at hv
 ·rw [show v=.str "more" by simpa using hv];exact cB _
 ·cases hv
theorem lZ.kp {G G':Hp} {p:Addr} {S:Pu} (h:lZ G p S) (k:Kp [] G G'):lZ G' p S:=by
 obtain ⟨v,sl,lo,e,hv,hs,eo⟩:=h
 exact ⟨v,sl,lo,k.at e,hv.kt (aK.nil k),hs.kt (aK.nil k),k.at eo⟩
theorem mB:iN 0=fun _=>[]:=funext fun j=>if_neg (Nat.not_lt_zero j)
end
theorem Fine.args {S:Pu} {N:Nat} (h:Fine S N) (l:N≤900000):S.sl.isN=false∧S.pend.length≤1000000∧S.nm.length < 64∧S.lt.length < 64∧S.ans.length≤1000000∧(∀ k ws,cC S.lt k=some ws→ws.length≤1000000):=by
 have h1:=h.nm.len
 have h2:=h.lt.len
 have h3:NM4.length=4:=rfl
 have h4:KY3.length=3:=rfl
 have h5:=h.fit.pd
 have h6:=h.fit.an
 exact ⟨h.isN,by omega,by omega,by omega,by omega,fun k ws e=>by have:=h.fit.lw k ws e;omega⟩
theorem Fine.take {S:Pu} {N:Nat} (h:Fine S N) {x:Hap} (f:x.inK) (l:N≤400000) (hp:∀ j∈S.pend,eC (some j)):Fine (S.take x).1 (N+302):=⟨h.fit.takeAny x f.1.1 f.1.2 hp (by omega),sN h.isN x,h.nm.take x,h.lt.take x f.2⟩
theorem Fine.pend {C:Cl} {H:Hp} {R:Rn} {as:List Addr} {sl:V} {S:Pu} {N:Nat} (h:Fine S N) (A:aW C H R as sl S) (l:N≤900000):∀ j∈S.pend,eC (some j):=fun j hj=>by
 have:=A.tk.lt j hj
 have:=h.fit.md
 exact eI (by omega) (by omega)
theorem Fine.new {b:List Stm} {l:List Hap} (g:Fit true (takes (dU b) l).1 (302 * l.length)) (n:(takes (dU b) l).1.sl.isN=false) (nb:dO NM4 b) (f:∀ h∈l,h.inK):Fine (takes (dU b) l).1 (302 * l.length):=⟨g,n,(nm_new nb).takes l,lt_new.takes l f⟩
local macro_rules | `(tactic| wp_walk) => `(tactic| wp_walk using true_and)
local macro_rules | `(tactic| wp_walk using $ts,*) => do
  let us ← ts.getElems.mapM fun t => `(Lean.Parser.Tactic.simpLemma| $t:term)
  let vs ← ("↓q_kept ↓q_num ↓yJ ↓wk_key ↓q_i0 ↓q_jar ↓q_jtake ↓q_jworth ↓q_jmoment ↓e_seq ↓e_asg ↓e_name ↓e_ret ↓e_ifS ↓e_test ↓e_tB ↓e_if ↓e_op ↓e_un ↓e_c ↓e_cons ↓e_nil ↓e_call ↓e_cb ↓e_lst ↓e_tup ↓e_dnew ↓e_drop ↓e_next ↓e_andV ↓e_orV ↓e_notV ↓e_and ↓e_or ↓e_not ↓e_sl ↓e_part ↓e_nopart ↓e_gsub ↓e_gnil ↓e_gcons ↓e_get1 ↓e_get ↓e_put ↓e_app ↓e_pop ↓e_onO ↓e_onB ↓e_onRef ↓e_onInt ↓e_onLst ↓e_onSeqL ↓e_onSeqT ↓e_onDct ↓e_ixR ↓e_ixS ↓e_addI ↓e_addS ↓e_addR ↓e_catL ↓e_slS ↓e_slR ↓e_cutL ↓e_lenS ↓e_lenR ↓e_set ↓e_in ↓e_keyI ↓e_keyS ↓e_keyN ↓e_at0 ↓e_at1 ↓e_at2 ↓e_at3 ↓e_cmul2 ↓e_cpow9 ↓e_cpow12 ↓e_cpow18 ↓e_ixN0 ↓e_intI ↓e_intB ↓e_is ↓e_isnot ↓e_max ↓e_min ↓tN ↓sL ↓tS ↓pU ↓zC ↓e_chk ↓e_chn ↓e_ite1 ↓e_ite0 ↓e_on1 ↓e_forR1 ↓e_on2 ↓e_forL ↓e_forT ↓e_compR ↓e_compL ↓e_onStr ↓e_true ↓e_cs0 ↓e_slLr ↓e_gtup ↓e_c0 ↓e_c1 ↓e_c2 ↓e_onTup ↓e_tcat ↓e_cutT ↓e_compD ↓e_tupOf ↓e_estr ↓e_lm ↓e_ext ↓e_pop0 ↓e_truth ↓e_truN ↓e_truB ↓e_truI ↓e_truRef ↓e_truL ↓e_truT ↓e_truD ↓e_compT ↓e_neA ↓e_rep ↓e_lstOf ↓e_lenK ↓abA ↓e_fld ↓e_setF ↓e_augF ↓e_meth ↓e_make ↓e_lookup ↓e_lookup0 ↓e_putF ↓e_putF0 ↓e_thaw ↓e_dinC ↓e_dpopC ↓e_dget2C ↓e_dclear ↓e_dsetC ↓e_deed ↓e_getL ↓e_ipA ↓e_augS ↓e_aug ↓e_isiL ↓e_kll ↓e_klt ↓e_trep ↓e_setSt ↓e_lenSt ↓e_sortSt ↓e_eqW ↓e_sortX ↓e_items ↓e_tupIt ↓e_sortU ↓w_v1 ↓w_v2 ↓w_v3 ↓w_v4 ↓w_v5 ↓w_v6 ↓w_v7 ↓w_v8 ↓w_v9 ↓w_v10 ↓w_v11 ↓w_v12 ↓w_v0s ↓w_rI0 ↓w_rU ↓w_eqI ↓w_eqS ↓w_neI ↓w_neS ↓w_rI ↓aA ↓List.set_cons_zero ↓List.set_cons_succ ↓List.getElem?_cons_zero ↓List.getElem?_cons_succ L2.start aY bD List.cons_append List.nil_append List.append_nil List.replicate_succ List.replicate_zero List.length_cons List.length_nil Nat.reduceAdd Nat.reduceSub Nat.zero_add Nat.add_zero Nat.reduceLeDiff Nat.reducePow Nat.reduceLT true_and and_true false_and and_false forall_const ↓reduceIte lK String.reduceEq Int.reduceToNat Int.reducePow Int.reduceNeg Int.reduceSub Int.reduceAdd Int.reduceMul Int.reduceLT Int.reduceLE Int.reduceEq sizeLine w_K w_Kn decide_true decide_false Bool.not_true Bool.not_false Bool.false_eq_true".splitOn " ").toArray.mapM fun(n:String)=>do
    let p:=n.splitOn "↓"
    let x:=Lean.mkIdent (p.getLastD "").toName
    if p.length = 1 then `(Lean.Parser.Tactic.simpLemma| $x:term) else `(Lean.Parser.Tactic.simpLemma| ↓ $x:term)
  let ws:=us++vs
  `(tactic| try simp (config := { dsimp := false }) only [$ws,*])
noncomputable def aaV (K:PySem.W.Frag):Sp:=fun vs H Q _=>∃(a:Addr) (ns:List Int),vs=[.ref a]∧eA K H a (ns.map V.int)∧ns.length≤63∧∀ H',Q (.bl true) H'
section
variable {P:Program} {w:World} {K:PySem.W.Frag} {mg:Str→Option Value} {base:Heap}
theorem uB {t:Ad} (T:Tx w K mg t):bG P w K mg base CX0 1 t.alawjar t.dlawjar ["cell"] spJar:=by
 refine T.flawjar.ok oX (fun vs H Q E h=>?_) (fun cdv A outer s H vs Q E hr h=>?_)
 ·obtain ⟨c,rfl,_⟩:=h
  rfl
 ·obtain ⟨c,rfl,q⟩:=h
  refine ⟨_,(aC (bH (aQ op_ge (pv 0) (bF lO aD aD) (nomark _)) (aJ (aN (bN (aE (bF gS (pv 0) (bF lO aD aD)) (aE aD aB))))) aV)
   (aC (bA (i:=1) oX.nd rfl (Or.inl rfl) (bF jK (pv 0) aD))
   (aC (bA (i:=1) oX.nd rfl (Or.inl rfl) (bF jK (bF mY (pv 1) (pv 1)) aD))
   (aJ (aN (bN (aE (bF jK (bF mY (pv 1) (bF eM (pv 1) aD)) aD) (aE aD aB)))))))),?_⟩
  try dsimp only [L2.start,aY,bD,List.cons_append,List.nil_append,List.replicate_succ,List.replicate_zero,List.length_cons,List.length_nil,Nat.reduceAdd,Nat.reduceSub,Nat.zero_add]
  wp_walk
  have m0:=Int.emod_nonneg c (show (982451653:Int)≠0 by decide)
  have m1:=Int.emod_lt_of_pos c (show (0:Int) < 982451653 by decide)
  have n0:=Int.emod_nonneg (c % 982451653 * (c % 982451653)) (show (982451653:Int)≠0 by decide)
  have n1:=Int.emod_lt_of_pos (c % 982451653 * (c % 982451653)) (show (0:Int) < 982451653 by decide)
  split
  ·exact fun r hr'=>q r _ hr' (Kp.new hr') ⟨_,_,aA,.inl rfl⟩
  ·refine ⟨tW (by omega) (by omega),tW (by omega) (by omega),fun r hr'=>?_⟩
   exact q r _ hr' (Kp.new hr') ⟨_,_,aA,.inr ⟨Int.emod_nonneg _ (by decide),Int.emod_lt_of_pos _ (by decide)⟩⟩
theorem bE {t:Ad} (T:Tx w K mg t):bG P w K mg base CX0 1 t.alawtake t.dlawtake ["jar","many"] spJTk:=by
 refine T.flawtake.ok rE (fun vs H Q E h=>?_) (fun cdv A outer s H vs Q E hr h=>?_)
 ·obtain ⟨r,m,rfl,_⟩:=h
  rfl
 ·obtain ⟨r,m,rfl,m0,m1,⟨c,f,hr0,hx⟩,q⟩:=h
  refine ⟨_,(aC (bH (aQ cD (aX bL (pv 0) aD (fun _ _=>rfl)) aD (nomark _)) (aC (bA (i:=2) rE.nd rfl (Or.inl rfl) (bF jK (aX bL (pv 0) aD (fun _ _=>rfl)) (pv 1)))
   (aC (vM (bF nL (aX bL (pv 0) aD (fun _ _=>rfl)) (pv 1)) (y8 (pv 0) aD aa5))
   (aJ (aN (pv 2))))) aV)
   (aC (vM (bF jK (bF mY (bF eM (aX bL (pv 0) aD (fun _ _=>rfl)) aD) (bF eM (aX bL (pv 0) aD (fun _ _=>rfl)) aD)) aD) (y8 (pv 0) aD aa5))
   (aJ (aN (bF jK (bF nL (bF mY (aX bL (pv 0) aD (fun _ _=>rfl)) (bF lO aD aD)) aD) (pv 1)))))),?_⟩
  try dsimp only [L2.start,aY,bD,List.cons_append,List.nil_append,List.replicate_succ,List.replicate_zero,List.length_cons,List.length_nil,Nat.reduceAdd,Nat.reduceSub,Nat.zero_add]
  wp_walk using hr0,e_cpowJ
  have n0:=Int.emod_nonneg ((c+15485863) * (c+32452867)) (show (982451653:Int)≠0 by decide)
  have n1:=Int.emod_lt_of_pos ((c+15485863) * (c+32452867)) (show (0:Int) < 982451653 by decide)
  split
  ·next hf=>exact ⟨m0,⟨m0,log2_lt m0 m1⟩,q _ _ (Int.emod_nonneg _ (by omega)) (Int.emod_lt_of_pos _ m0) ⟨_,_,aA,.inl hf⟩ (Kp.set (by simp))⟩
  ·next hf =>
   rcases hx with hx | ⟨h0,h1⟩
   ·exact absurd hx hf
   ·exact ⟨tW (by omega) (by omega),tW (by omega) (by omega),⟨by decide,by decide⟩,m0,q _ _ (Int.emod_nonneg _ (by omega)) (Int.emod_lt_of_pos _ m0) ⟨_,_,aA,.inr ⟨n0,n1⟩⟩ (Kp.set (by simp))⟩
theorem jA {t:Ad} (T:Tx w K mg t):bG P w K mg base CX0 2 t.alawworth t.dlawworth ["jar"] xV:=by
 refine T.flawworth.ok pF (fun vs H Q E h=>?_) (fun cdv A outer s H vs Q E hr h=>?_)
 ·obtain ⟨r,rfl,_⟩:=h
  rfl
 ·obtain ⟨r,rfl,hR,q⟩:=h
  refine ⟨_,(aC (bA (i:=1) pF.nd rfl (Or.inl rfl) (bF gS (aO (bE T) (hr.mono (by omega)) rfl T.mlawtake T.flawtake.kp T.blawtake .nil pass0 (aE (pv 0) (aE (bF eM (bF mY aD (bF lO aD aD)) aD) aB))) (bF lO aD aD)))
   (aJ (aN (aX bL (bN (aE eV (aE aD (aE aD (aE aD (aE aD (aE (qO nB aD) (aE (bF lO aD aD) (aE (pv 1) aB))))))))) (aO (bE T) (hr.mono (by omega)) rfl T.mlawtake T.flawtake.kp T.blawtake .nil pass0 (aE (pv 0) (aE aD aB))) (fun _ _=>rfl))))),?_⟩
  try dsimp only [L2.start,aY,bD,List.cons_append,List.nil_append,List.replicate_succ,List.replicate_zero,List.length_cons,List.length_nil,Nat.reduceAdd,Nat.reduceSub,Nat.zero_add]
  wp_walk
  refine ⟨hR,fun g H1 a1 b1 R1 K1 p hp=>⟨R1.new hp,fun g2 H2 a2 b2 R2 K2=>?_⟩⟩
  wp_walk using K2.madeJ R1 hp
  refine jH a2 b2 fun v hv=>?_
  wp_walk
  have K:=K1.trans ((Kp.new hp).trans K2)
  simp only [List.mem_cons,List.not_mem_nil,or_false] at hv
  rcases hv with rfl | rfl | rfl | rfl | rfl | rfl | rfl | rfl
  ·exact q none _ j4 R2 K
  all_goals exact q (some _) _ (eI (by omega) (by omega)) R2 K
theorem u8 {t:Ad} (T:Tx w K mg t) {n d:Nat} (hn:3≤n) (IH:bG P w K mg base CX0 n t.alawsaying t.dlawsaying ["jar","deep"] (zB d)):bG P w K mg base CX0 (n+1) t.alawsaying t.dlawsaying ["jar","deep"] (zB (d+1)):=by
 refine T.flawsaying.ok eJ (fun vs H Q E h=>?_) (fun cdv A outer s H vs Q E hr h=>?_)
 ·obtain ⟨r,dp,rfl,_⟩:=h
  rfl
 ·obtain ⟨r,dp,rfl,d1,d2,hR,q⟩:=h
  refine ⟨_,(aC (bA (i:=2) eJ.nd rfl (Or.inl rfl) (aO (bE T) (hr.mono (by omega)) rfl T.mlawtake T.flawtake.kp T.blawtake .nil pass0 (aE (pv 0) (aE aD aB))))
   (aC (bA (i:=3) eJ.nd rfl (Or.inl rfl) (aX bL (bN (aE aP (aE aP (aE aP (aE aP aB))))) (aO (bE T) (hr.mono (by omega)) rfl T.mlawtake T.flawtake.kp T.blawtake .nil pass0 (aE (pv 0) (aE aD aB))) (fun _ _=>rfl)))
   (aC (bH (PW.pt (mS (aQ cD (pv 1) aD (nomark _)) (mZ (aQ mP (pv 2) aD (nomark _))))) (aC (bA (i:=4) eJ.nd rfl (Or.inl rfl) (aO (jA T) (hr.mono (by omega)) rfl T.mlawworth T.flawworth.kp T.blawworth .nil pass0 (aE (pv 0) aB)))
   (aC (bH (aQ mW (pv 4) eV (nomark _)) (aJ (bA (i:=4) eJ.nd rfl (Or.inl rfl) aD)) aV)
   (aJ (aN (aX bL (bN (aE (bB (aE aP (aE (pv 4) aB))) (aE (bB (aE aP (aE (pv 3) aB))) (aE (bB (aE aP (aE (pv 3) aB))) (aE (bB (aE aP aB)) (aE (bB (aE aP aB)) (aE (bB (aE aP aB)) aB))))))) (bF jK (pv 2) aD) (fun _ _=>rfl)))))) aV)
   (aC (bH (aQ cD (pv 2) aD (nomark _)) (aJ (aN (bB (aE aP (aE (aO IH (hr.mono (by omega)) rfl T.mlawsaying T.flawsaying.kp T.blawsaying .nil pass0 (aE (pv 0) (aE (bF gS (pv 1) aD) aB))) aB))))) aV)
   (aC (bH (aQ cD (pv 2) aD (nomark _)) (aJ (aN (bB (aE aP (aE (aO IH (hr.mono (by omega)) rfl T.mlawsaying T.flawsaying.kp T.blawsaying .nil pass0 (aE (pv 0) (aE (bF gS (pv 1) aD) aB))) aB))))) aV)
   (aC (bA (i:=5) eJ.nd rfl (Or.inl rfl) (aO IH (hr.mono (by omega)) rfl T.mlawsaying T.flawsaying.kp T.blawsaying .nil pass0 (aE (pv 0) (aE (bF gS (pv 1) aD) aB))))
   (aJ (aN (bB (aE (aX bL (bN (aE aP (aE aP (aE aP (aE aP (aE aP aB)))))) (aO (bE T) (hr.mono (by omega)) rfl T.mlawtake T.flawtake.kp T.blawtake .nil pass0 (aE (pv 0) (aE aD aB))) (fun _ _=>rfl)) (aE (pv 5) (aE (aO IH (hr.mono (by omega)) rfl T.mlawsaying T.flawsaying.kp T.blawsaying .nil pass0 (aE (pv 0) (aE (bF gS (pv 1) aD) aB))) aB)))))))))))),?_⟩
  try dsimp only [L2.start,aY,bD,List.cons_append,List.nil_append,List.replicate_succ,List.replicate_zero,List.length_cons,List.length_nil,Nat.reduceAdd,Nat.reduceSub,Nat.zero_add]
  refine aG fun R1 hR1=>?_
  wp_walk
  refine ⟨hR,fun g H1 a1 b1 J1 K1=>?_⟩
  wp_walk
  refine hR1 _ _ ?_
  clear hR1
  clear R1
  refine aG fun R2 hR2=>?_
  wp_walk
  refine fun p2 h2=>⟨J1.new h2,fun g2 G2 a2 b2 J2 K2=>?_⟩
  wp_walk using made1J K2 J1 h2
  refine jH a2 b2 fun y2 hy2=>?_
  obtain ⟨x2,rfl⟩:∃ z:Str,y2=.str z:=by simp only [List.mem_cons,List.not_mem_nil,or_false] at hy2;rcases hy2 with rfl | rfl | rfl | rfl<;>exact ⟨_,rfl⟩
  wp_walk
  refine hR2 _ _ ?_
  clear hR2
  clear R2
  have KK:Kp [r] H G2:=K1.trans ((Kp.new h2).trans K2)
  clear K1 K2 h2 J1
  refine aG fun R3 hR3=>?_
  refine oN fun RI hRI=>?_
  wp_walk
  simp only [f_or]
  split
  ·refine hRI _ _ ?_
   clear hRI RI
   refine aG fun Ra hRa=>?_
   wp_walk
   refine ⟨J2,fun w3 H3 hw J3 K3=>?_⟩
   wp_walk
   refine hRa _ _ ?_
   clear hRa Ra
   refine aG fun Ra hRa=>?_
   obtain ⟨z,hz,ez⟩:∃ z:Int,(-1000000000≤z∧z≤1000000000)∧(w3=none∧z=4∨w3=some z):=by
    cases w3 with
    | none=>exact ⟨4,⟨by decide,by decide⟩,.inl ⟨rfl,rfl⟩⟩
    | some z=>exact ⟨z,hw z rfl,.inr rfl⟩
   have K5:Kp [r] H H3:=KK.trans K3
   clear K3 KK
   have fin:Ra [some (.ref r),some (.int dp),some (.int g),some (.str x2),some (.int z),none] H3:=by
    refine hRa _ _ ?_
    clear hRa Ra
    wp_walk
    refine fun p1 m1 p2 m2 p3 m3 p4 m4 p5 m5 p6 m6 p7 m7=>?_
    have M_1:=Kp.new (S:=[]) (o:=.tup [.str "number",.int z]) m1
    have M_2:=Kp.new (S:=[]) (o:=.tup [.str "name",.str x2]) m2
    have M_3:=Kp.new (S:=[]) (o:=.tup [.str "name",.str x2]) m3
    have M_4:=Kp.new (S:=[]) (o:=.tup [.str "arg"]) m4
    have M_5:=Kp.new (S:=[]) (o:=.tup [.str "now"]) m5
    have M_6:=Kp.new (S:=[]) (o:=.tup [.str "none"]) m6
    have M_7:=Kp.new (S:=[]) (o:=.lst [.ref p1,.ref p2,.ref p3,.ref p4,.ref p5,.ref p6]) m7
    have f1:=(((((M_2.trans M_3).trans M_4).trans M_5).trans M_6).trans M_7).at (aA:(upd H3 p1 (.tup [.str "number",.int z])) p1=some (.tup [.str "number",.int z]))
    have f2:=((((M_3.trans M_4).trans M_5).trans M_6).trans M_7).at (aA:(upd (upd H3 p1 (.tup [.str "number",.int z])) p2 (.tup [.str "name",.str x2])) p2=some (.tup [.str "name",.str x2]))
    have f3:=(((M_4.trans M_5).trans M_6).trans M_7).at (aA:(upd (upd (upd H3 p1 (.tup [.str "number",.int z])) p2 (.tup [.str "name",.str x2])) p3 (.tup [.str "name",.str x2])) p3=some (.tup [.str "name",.str x2]))
    have f4:=((M_5.trans M_6).trans M_7).at (aA:(upd (upd (upd (upd H3 p1 (.tup [.str "number",.int z])) p2 (.tup [.str "name",.str x2])) p3 (.tup [.str "name",.str x2])) p4 (.tup [.str "arg"])) p4=some (.tup [.str "arg"]))
    have f5:=(M_6.trans M_7).at (aA:(upd (upd (upd (upd (upd H3 p1 (.tup [.str "number",.int z])) p2 (.tup [.str "name",.str x2])) p3 (.tup [.str "name",.str x2])) p4 (.tup [.str "arg"])) p5 (.tup [.str "now"])) p5=some (.tup [.str "now"]))
    have f6:=M_7.at (aA:(upd (upd (upd (upd (upd (upd H3 p1 (.tup [.str "number",.int z])) p2 (.tup [.str "name",.str x2])) p3 (.tup [.str "name",.str x2])) p4 (.tup [.str "arg"])) p5 (.tup [.str "now"])) p6 (.tup [.str "none"])) p6=some (.tup [.str "none"]))
    have f7:(upd (upd (upd (upd (upd (upd (upd H3 p1 (.tup [.str "number",.int z])) p2 (.tup [.str "name",.str x2])) p3 (.tup [.str "name",.str x2])) p4 (.tup [.str "arg"])) p5 (.tup [.str "now"])) p6 (.tup [.str "none"])) p7 (.lst [.ref p1,.ref p2,.ref p3,.ref p4,.ref p5,.ref p6])) p7=some (.lst [.ref p1,.ref p2,.ref p3,.ref p4,.ref p5,.ref p6]):=aA
    have MM:=((((((M_1.trans M_2).trans M_3).trans M_4).trans M_5).trans M_6).trans M_7)
    generalize upd (upd (upd (upd (upd (upd (upd H3 p1 (.tup [.str "number",.int z])) p2 (.tup [.str "name",.str x2])) p3 (.tup [.str "name",.str x2])) p4 (.tup [.str "arg"])) p5 (.tup [.str "now"])) p6 (.tup [.str "none"])) p7 (.lst [.ref p1,.ref p2,.ref p3,.ref p4,.ref p5,.ref p6])=H4 at *
    clear M_1 M_2 M_3 M_4 M_5 M_6 M_7 m1 m2 m3 m4 m5 m6 m7
    have J4:=J3.kp MM
    have K6:=K5.trans (MM.mono (T:=[r]) (by simp))
    wp_walk using f7
    have g0:0≤g % 6:=Int.emod_nonneg _ (by decide)
    have g1:g % 6 < 6:=Int.emod_lt_of_pos _ (by decide)
    refine jH g0 g1 fun v hv=>?_
    simp only [List.mem_cons,List.not_mem_nil,or_false] at hv
    rcases hv with rfl | rfl | rfl | rfl | rfl | rfl
    ·exact q _ (.num z) H4 (.num f1) hz (by simp only [Say.depth];omega) J4 K6
    ·exact q _ (.name x2) H4 (.name f2) trivial (by simp only [Say.depth];omega) J4 K6
    ·exact q _ (.name x2) H4 (.name f3) trivial (by simp only [Say.depth];omega) J4 K6
    ·exact q _ .arg H4 (.arg f4) trivial (by simp only [Say.depth];omega) J4 K6
    ·exact q _ .now H4 (.now f5) trivial (by simp only [Say.depth];omega) J4 K6
    ·exact q _ .non H4 (.non f6) trivial (by simp only [Say.depth];omega) J4 K6
   clear hRa
   rcases ez with ⟨rfl,rfl⟩ | rfl
   ·wp_walk using wv
    exact fin
   ·wp_walk using wv,reduceCtorEq,if_false
    exact fin
  ·next hc =>
   clear hRI RI
   refine hR3 _ _ ?_
   clear hR3
   clear R3
   refine aG fun R4 hR4=>?_
   wp_walk
   split
   ·refine ⟨r,dp - 1,rfl,by omega,by omega,J2,fun v s H3 hv ok hdp J3 K3=>?_⟩
    wp_walk
    exact fun p hp=>q _ (.ans s) _ (.ans aA (hv.kp (aK.new hp))) ok (by simp only [Say.depth];omega) (J3.new hp) ((KK.trans K3).trans (Kp.new hp))
   refine hR4 _ _ ?_
   clear hR4
   clear R4
   refine aG fun R5 hR5=>?_
   wp_walk
   split
   ·refine ⟨r,dp - 1,rfl,by omega,by omega,J2,fun v s H3 hv ok hdp J3 K3=>?_⟩
    wp_walk
    exact fun p hp=>q _ (.neg s) _ (.neg aA (hv.kp (aK.new hp))) ok (by simp only [Say.depth];omega) (J3.new hp) ((KK.trans K3).trans (Kp.new hp))
   refine hR5 _ _ ?_
   clear hR5
   clear R5
   refine aG fun R6 hR6=>?_
   wp_walk
   refine ⟨r,dp - 1,rfl,by omega,by omega,J2,fun u s1 H3 hv1 ok1 hd1 J3 K3=>?_⟩
   wp_walk
   refine hR6 _ _ ?_
   clear hR6
   clear R6
   wp_walk
   refine fun p hp=>⟨J3.new hp,fun g4 H4 a4 b4 J4 K4=>?_⟩
   wp_walk using made1J K4 J3 hp
   refine jH a4 b4 fun v hv=>?_
   wp_walk
   refine ⟨r,dp - 1,rfl,by omega,by omega,J4,fun u2 s2 H5 hv2 ok2 hd2 J5 K5 p2 h2=>?_⟩
   have K:=((KK.trans K3).trans ((Kp.new hp).trans K4)).trans (K5.trans (Kp.new (o:=.tup [v,u,u2]) h2))
   have T1:aK H3 (upd H5 p2 (.tup [v,u,u2])):=(((aK.new hp).trans ((J3.new hp).tk K4)).trans (J4.tk K5)).trans (aK.new h2)
   have fin:∀ gg:Sg,v=.str gg.s→Q (.ref p2) (upd H5 p2 (.tup [v,u,u2])):=fun gg e=>by
    subst e
    exact q _ (.two gg s1 s2) _ (.two aA (hv1.kp T1) (hv2.kp (aK.new h2))) ⟨ok1,ok2⟩ (by simp only [Say.depth];omega) (J5.new h2) K
   simp only [List.mem_cons,List.not_mem_nil,or_false] at hv
   rcases hv with e | e | e | e | e
   ·exact fin .add e
   ·exact fin .sub e
   ·exact fin .mul e
   ·exact fin .lt e
   ·exact fin .eq e
theorem cJ {t:Ad} (T:Tx w K mg t):∀ d,bG P w K mg base CX0 (d+3) t.alawsaying t.dlawsaying ["jar","deep"] (zB d):=by
 intro d
 induction d with
 | zero=>exact ⟨fun _ _ _ _ x=>by (obtain ⟨_,_,_,h,h',_⟩:=x;exact absurd h (by omega)),fun _ _ _ _ _ _ _ _ _ _ _ _ _ x=>by (obtain ⟨_,_,_,h,h',_⟩:=x;exact absurd h (by omega))⟩
 | succ d ih=>exact u8 T (by omega) ih
theorem tP {t:Ad} (T:Tx w K mg t):bG P w K mg base CX0 9 t.alawwaiting t.dlawwaiting ["jar","name"] spJWait:=by
 refine T.flawwaiting.ok gI (fun vs H Q E h=>?_) (fun cdv A outer s H vs Q E hr h=>?_)
 ·obtain ⟨r,x,rfl,_⟩:=h
  rfl
 ·obtain ⟨r,x,rfl,hR,q⟩:=h
  refine ⟨_,(aC (bA (i:=2) gI.nd rfl (Or.inl rfl) (bN aB))
   (aC (rJ PassesOwn.never rfl (uQ rfl T.zrange (aE (bF eM aD (aO (bE T) (hr.mono (by omega)) rfl T.mlawtake T.flawtake.kp T.blawtake .nil pass0 (aE (pv 0) (aE aD aB)))) aB)) (i0 (i:=3) gI.nd rfl (Or.inl rfl)) (aC (bA (i:=4) gI.nd rfl (Or.inl rfl) (bN (aE (bB (aE aP (aE (aX bL (bN (aE aP (aE aP (aE aP (aE aP aB))))) (aO (bE T) (hr.mono (by omega)) rfl T.mlawtake T.flawtake.kp T.blawtake .nil pass0 (aE (pv 0) (aE aD aB))) (fun _ _=>rfl)) aB))) (aE (aO (cJ T 4) (hr.mono (by omega)) rfl T.mlawsaying T.flawsaying.kp T.blawsaying .nil pass0 (aE (pv 0) (aE aD aB))) aB))))
   (aJ (bQ (lU (pv 2) (aX bL (pv 4) (cI uP rfl T.zint bt_int (aE (jB cD (aO (bE T) (hr.mono (by omega)) rfl T.mlawtake T.flawtake.kp T.blawtake .nil pass0 (aE (pv 0) (aE aD aB))) aD (nomark _)) aB)) (fun _ _=>rfl)))))))
   (aJ (aN (bB (aE aP (aE (pv 1) (aE (cI fI rfl T.ztuple eX (aE (pv 2) aB)) aB)))))))),?_⟩
  try dsimp only [L2.start,aY,bD,List.cons_append,List.nil_append,List.replicate_succ,List.replicate_zero,List.length_cons,List.length_nil,Nat.reduceAdd,Nat.reduceSub,Nat.zero_add]
  refine aG fun R1 hR1=>?_
  wp_walk
  refine fun sl hsl=>?_
  have N1:=Kp.new (S:=[]) (o:=.lst []) hsl
  have esl:upd H sl (.lst []) sl=some (.lst []):=aA
  have nsr:sl≠r:=hR.none hsl
  have J1:=hR.new (o:=.lst []) hsl
  have KS:Kp [sl,r] H (upd H sl (.lst [])):=N1.mono (by simp)
  generalize upd H sl (.lst [])=G1 at *
  clear N1
  refine hR1 _ _ ?_
  clear hR1
  clear R1
  refine aG fun R2 hR2=>?_
  wp_walk
  refine ⟨J1,fun g G2 a2 b2 J2 K2=>⟨⟨by omega,by omega⟩,?_⟩⟩
  replace esl:=K2.at1 esl nsr
  replace KS:=KS.trans (K2.mono (T:=[sl,r]) (by simp))
  clear K2 J1
  obtain ⟨Pv,hPv⟩:∃ Pv:Nat→St→Hp→Prop,∀ i σ G,Pv i σ G = ∃(v3 v4:Option V) (vs:List V) (ss:List Say),σ=[some (.ref r),some (.str x),some (.ref sl),v3,v4]∧G sl=some (.lst vs)∧eW G vs ss∧ss.length=i∧(∀ s∈ss,s.sok)∧bX G r∧Kp [sl,r] H G:=⟨_,fun _ _ _=>rfl⟩
  refine tV (lo:=0) Pv ?_ ?_ ?_
  ·rw [hPv]
   exact ⟨none,none,[],[],rfl,esl,.nil,rfl,by simp,J2,KS⟩
  ·intro i σ G hi hG
   rw [hPv] at hG
   obtain ⟨v3,v4,vs,ss,rfl,eS,hS,lS,hL,JG,KG⟩:=hG
   have lv:=hS.lenW
   have fin:∀(v3 v4:Option V) (v:V) (s:Say) (G':Hp),cQ G' v s→s.sok→G' sl=some (.lst vs)→eW G' vs ss→bX G' r→Kp [sl,r] H G'→Pv (i+1) [some (.ref r),some (.str x),some (.ref sl),v3,v4] (upd G' sl (.lst (vs++[v]))):=fun v3 v4 v s G' x1 x2 x3 x4 x5 x6=>by
    have t:aK G' (upd G' sl (.lst (vs++[v]))):=aK.setO x3 (by intro _ z;cases z)
    have kd:Kp [sl] G' (upd G' sl (.lst (vs++[v]))):=Kp.set (by simp)
    rw [hPv]
    refine ⟨v3,v4,_,ss++[s],rfl,aA,(x4.kp t).snoc (x1.kp t),by simp [lS],fun y hy=>?_,?_,x6.trans (kd.mono (by simp))⟩
    ·rcases List.mem_append.mp hy with hy | hy
     ·exact hL y hy
     ·rw [show y=s by simpa using hy];exact x2
    ·obtain ⟨c,f,e,b⟩:=x5
     exact ⟨c,f,kd.at1 e nsr.symm,b⟩
   clear hPv
   refine aG fun Ra hRa=>?_
   wp_walk
   refine fun p3 h3=>⟨JG.new h3,fun g3 G3 a3 b3 J3 K3=>?_⟩
   wp_walk using made1J K3 JG h3
   refine jH a3 b3 fun y3 hy3=>?_
   obtain ⟨x3,rfl⟩:∃ z:Str,y3=.str z:=by simp only [List.mem_cons,List.not_mem_nil,or_false] at hy3;rcases hy3 with rfl | rfl | rfl | rfl<;>exact ⟨_,rfl⟩
   wp_walk
   refine fun p4 h4=>?_
   have N4:=Kp.new (S:=[]) (o:=.tup [.str "name",.str x3]) h4
   have f4:upd G3 p4 (.tup [.str "name",.str x3]) p4=some (.tup [.str "name",.str x3]):=aA
   have KG4:Kp [sl,r] H (upd G3 p4 (.tup [.str "name",.str x3])):=((KG.trans (Kp.new h3)).trans (K3.mono (by simp))).trans (N4.mono (by simp))
   have e4:=N4.at (K3.at1 ((Kp.new (S:=[]) (o:=.lst [.str "a",.str "b",.str "aa",.str "d"]) h3).at eS) nsr)
   have hS4:=((hS.kp (aK.new (o:=.lst [.str "a",.str "b",.str "aa",.str "d"]) h3)).kp ((JG.new h3).tk K3)).kp (aK.nil N4)
   have J4:=J3.new (o:=.tup [.str "name",.str x3]) h4
   generalize upd G3 p4 (.tup [.str "name",.str x3])=G4 at *
   refine ⟨r,1,rfl,by decide,by decide,J4,fun v s G5 hv ok hd J5 K5 p6 h6=>?_⟩
   have N6:=Kp.new (S:=[]) (o:=.lst [.ref p4,v]) h6
   have f6:upd G5 p6 (.lst [.ref p4,v]) p6=some (.lst [.ref p4,v]):=aA
   have T5:=J4.tk K5
   have f4':=N6.at (T5 _ _ f4)
   have e6:=N6.at (K5.at1 e4 nsr)
   have hS6:=(hS4.kp T5).kp (aK.nil N6)
   have hv6:=hv.kp (aK.nil N6)
   have J6:=J5.new (o:=.lst [.ref p4,v]) h6
   have KG6:Kp [sl,r] H (upd G5 p6 (.lst [.ref p4,v])):=(KG4.trans (K5.mono (by simp))).trans (N6.mono (by simp))
   have n6:p6≠r:=J5.none h6
   generalize upd G5 p6 (.lst [.ref p4,v])=G6 at *
   wp_walk
   refine hRa _ _ ?_
   clear hRa Ra KG4 e4 hS4 J4 f4 N4 h4 N6 h6 hv hS JG KG eS J3 K3 K5 J5 T5
   wp_walk using e6
   refine ⟨J6,fun g7 G7 a7 b7 J7 K7=>?_⟩
   have T7:=J6.tk K7
   have e7:=K7.at1 e6 nsr
   have f7:=K7.at1 f6 n6
   wp_walk using f7
   have back:∀ v':V,v'=.ref p4∨v'=v→Pv (i+1) [some (.ref r),some (.str x),some (.ref sl),some (.int (0+(i:Nat))),some (.ref p6)] (upd G7 sl (.lst (vs++[v']))):=fun v' hv'=>by
    rcases hv' with rfl | rfl
    ·exact fin _ _ _ (.name x3) G7 (.name (T7 _ _ f4')) ⟨trivial,by simp [Say.depth]⟩ e7 (hS6.kp T7) J7 (KG6.trans (K7.mono (by simp)))
    ·exact fin _ _ _ s G7 (hv6.kp T7) ⟨ok,by omega⟩ e7 (hS6.kp T7) J7 (KG6.trans (K7.mono (by simp)))
   have i1:j6 [V.ref p4,v] (if decide (g7=0)=true then 1 else 0)=some (if g7=0 then v else .ref p4):=by
    by_cases hz:g7=0
    ·rw [if_pos (decide_eq_true hz),if_pos hz];rfl
    ·rw [if_neg (by simpa using hz),if_neg hz];rfl
   wp_walk using i1,e7
   exact ⟨by omega,back _ (by split;exact .inr rfl;exact .inl rfl)⟩
  intro σ G hG
  rw [hPv] at hG
  obtain ⟨v3,v4,vs,ss,rfl,eS,hS,lS,hL,JG,KG⟩:=hG
  clear hPv
  refine hR2 _ _ ?_
  clear hR2
  clear R2
  wp_walk using eS
  intro l m1 p m2
  have N:=(Kp.new (S:=[]) (o:=.tup vs) m1).trans (Kp.new (o:=.tup [.str "wait",.str x,.ref l]) m2)
  exact q _ ss _ (.wait aA ((Kp.new (S:=[]) m2).at aA) (hS.kp (aK.nil N))) (by omega) hL ((JG.new m1).new m2) ((Kp.drop KG hsl).trans (N.mono (by simp)))
theorem kN {t:Ad} (T:Tx w K mg t) {n d:Nat} (hn:9≤n) (IH:bG P w K mg base CX0 n t.alawblock t.dlawblock ["jar","deep","room"] (vH d)):bG P w K mg base CX0 (n+1) t.alawstatement t.dlawstatement ["jar","deep","room"] (zP d):=by
 refine T.flawstatement.ok dY (fun vs H Q E h=>?_) (fun cdv A outer s H vs Q E hr h=>?_)
 ·obtain ⟨r,m,dp,rfl,_⟩:=h
  rfl
 ·obtain ⟨r,m,dp,rfl,d1,d2,hR,hM,nrm,q⟩:=h
  refine ⟨_,(aC (bA (i:=3) dY.nd rfl (Or.inl rfl) (aO (bE T) (hr.mono (by omega)) rfl T.mlawtake T.flawtake.kp T.blawtake .nil pass0 (aE (pv 0) (aE aD aB))))
   (aC (bA (i:=4) dY.nd rfl (Or.inl rfl) (aX bL (bN (aE aP (aE aP (aE aP (aE aP aB))))) (aO (bE T) (hr.mono (by omega)) rfl T.mlawtake T.flawtake.kp T.blawtake .nil pass0 (aE (pv 0) (aE aD aB))) (fun _ _=>rfl)))
   (aC (bA (i:=5) dY.nd rfl (Or.inl rfl) (aX bL (bN (aE aP (aE aP (aE aP aB)))) (aO (bE T) (hr.mono (by omega)) rfl T.mlawtake T.flawtake.kp T.blawtake .nil pass0 (aE (pv 0) (aE aD aB))) (fun _ _=>rfl)))
   (aC (bH (aQ mP (pv 3) aD (nomark _)) (aJ (aN (bB (aE aP (aE (pv 4) (aE (pv 5) (aE (aO (cJ T 4) (hr.mono (by omega)) rfl T.mlawsaying T.flawsaying.kp T.blawsaying .nil pass0 (aE (pv 0) (aE aD aB))) aB))))))) aV)
   (aC (bH (aQ mP (pv 3) aD (nomark _)) (aJ (aN (aO (tP T) (hr.mono (by omega)) rfl T.mlawwaiting T.flawwaiting.kp T.blawwaiting .nil pass0 (aE (pv 0) (aE (pv 4) aB))))) aV)
   (aC (bH (aQ mP (pv 3) aD (nomark _)) (aJ (aN (bB (aE aP (aE (pv 4) (aE (pv 5) aB)))))) aV)
   (aC (bH (PW.pt (vU (aQ mP (pv 3) aD (nomark _)) (qD (aQ op_gt (pv 1) aD (nomark _))))) (aJ (aN (bB (aE aP (aE (aO (cJ T 4) (hr.mono (by omega)) rfl T.mlawsaying T.flawsaying.kp T.blawsaying .nil pass0 (aE (pv 0) (aE aD aB))) (aE (aO IH (hr.mono (by omega)) rfl T.mlawblock T.flawblock.kp T.blawblock .nil pass0 (aE (pv 0) (aE (bF gS (pv 1) aD) (aE (pv 2) aB)))) (aE (aO IH (hr.mono (by omega)) rfl T.mlawblock T.flawblock.kp T.blawblock .nil pass0 (aE (pv 0) (aE (bF gS (pv 1) aD) (aE (pv 2) aB)))) aB))))))) aV)
   (aC (bH (PW.pt (vU (aQ mP (pv 3) aD (nomark _)) (qD (aQ op_gt (pv 1) aD (nomark _))))) (aJ (aN (bB (aE aP (aE (aO (cJ T 4) (hr.mono (by omega)) rfl T.mlawsaying T.flawsaying.kp T.blawsaying .nil pass0 (aE (pv 0) (aE aD aB))) (aE (aO IH (hr.mono (by omega)) rfl T.mlawblock T.flawblock.kp T.blawblock .nil pass0 (aE (pv 0) (aE (bF gS (pv 1) aD) (aE (pv 2) aB)))) aB)))))) aV)
   (aC (bH (aQ cD (pv 3) aD (nomark _)) (aJ (aN (bB (aE aP (aE (aO (cJ T 4) (hr.mono (by omega)) rfl T.mlawsaying T.flawsaying.kp T.blawsaying .nil pass0 (aE (pv 0) (aE aD aB))) (aE (pv 5) (aE (aO (cJ T 4) (hr.mono (by omega)) rfl T.mlawsaying T.flawsaying.kp T.blawsaying .nil pass0 (aE (pv 0) (aE aD aB))) aB))))))) aV)
   (aC (bH (aQ cD (pv 3) aD (nomark _)) (aC (bA (i:=6) dY.nd rfl (Or.inl rfl) (aO (cJ T 4) (hr.mono (by omega)) rfl T.mlawsaying T.flawsaying.kp T.blawsaying .nil pass0 (aE (pv 0) (aE aD aB))))
   (aJ (aN (aX bL (bN (aE (bB (aE aP (aE (pv 4) (aE (pv 6) aB)))) (aE (bB (aE aP (aE (pv 4) (aE (pv 5) (aE (pv 6) aB))))) aB))) (aO (bE T) (hr.mono (by omega)) rfl T.mlawtake T.flawtake.kp T.blawtake .nil pass0 (aE (pv 0) (aE aD aB))) (fun _ _=>rfl))))) aV)
   (aC (bH (aQ cD (pv 3) aD (nomark _)) (aJ (aN (bB (aE aP (aE (aO (cJ T 4) (hr.mono (by omega)) rfl T.mlawsaying T.flawsaying.kp T.blawsaying .nil pass0 (aE (pv 0) (aE aD aB))) aB))))) aV)
   (aJ (aN (bB (aE aP (aE (pv 4) (aE (aO (cJ T 4) (hr.mono (by omega)) rfl T.mlawsaying T.flawsaying.kp T.blawsaying .nil pass0 (aE (pv 0) (aE aD aB))) aB))))))))))))))))),?_⟩
  try dsimp only [L2.start,aY,bD,List.cons_append,List.nil_append,List.replicate_succ,List.replicate_zero,List.length_cons,List.length_nil,Nat.reduceAdd,Nat.reduceSub,Nat.zero_add]
  refine aG fun R1 hR1=>?_
  wp_walk
  refine ⟨hR,fun g G1 a1 b1 J1 K1=>?_⟩
  wp_walk
  refine hR1 _ _ ?_
  clear hR1
  clear R1
  refine aG fun R2 hR2=>?_
  wp_walk
  refine fun p2 h2=>⟨J1.new h2,fun g2 G2 a2 b2 J2 K2=>?_⟩
  wp_walk using made1J K2 J1 h2
  refine jH a2 b2 fun y2 hy2=>?_
  obtain ⟨x2,rfl,hx2⟩:∃ z:Str,y2=.str z∧z∈NM4:=by simp only [List.mem_cons,List.not_mem_nil,or_false] at hy2;rcases hy2 with rfl | rfl | rfl | rfl<;>exact ⟨_,rfl,by simp [NM4]⟩
  wp_walk
  refine hR2 _ _ ?_
  clear hR2
  clear R2
  refine aG fun R3 hR3=>?_
  wp_walk
  refine fun p3 h3=>⟨J2.new h3,fun g3 G3 a3 b3 J3 K3=>?_⟩
  wp_walk using made1J K3 J2 h3
  refine jH a3 b3 fun y3 hy3=>?_
  obtain ⟨x3,rfl,hx3⟩:∃ z:Str,y3=.str z∧z∈KY3:=by simp only [List.mem_cons,List.not_mem_nil,or_false] at hy3;rcases hy3 with rfl | rfl | rfl<;>exact ⟨_,rfl,by simp [KY3]⟩
  wp_walk
  refine hR3 _ _ ?_
  clear hR3
  clear R3
  have K13:Kp [r] H G3:=(K1.trans ((Kp.new h2).trans K2)).trans ((Kp.new h3).trans K3)
  have M3:=hM.kj K13 nrm
  have KK:Kp [r,m] H G3:=K13.mono (by simp)
  clear K1 K2 K3 h2 h3 J1 J2 K13 hR hM
  refine aG fun R4 hR4=>?_
  wp_walk
  split
  ·skip
   refine ⟨r,1,rfl,by decide,by decide,J3,fun u4 s4 G4 hv4 ok4 hd4 J4 K4=>?_⟩
   wp_walk
   refine fun p hp=>?_
   have N:=Kp.new (S:=[]) (o:=.tup [.str "order",.str x2,.str x3,u4]) hp
   have w4:=hv4.kp (aK.nil N)
   exact q _ (.order x2 x3 s4) _ (.order aA w4) ⟨ok4,by omega⟩ (by first | (simp only [Stm.nmIn];done) | (simp only [Stm.nmIn];exact hx2)) (by simp only [Stm.dp];omega) (J4.new hp) ((M3.kj K4 nrm).kp N) ((KK.trans (K4.mono (by simp))).trans (N.mono (by simp)))
  refine hR4 _ _ ?_
  clear hR4
  clear R4
  refine aG fun R5 hR5=>?_
  wp_walk
  split
  ·refine ⟨r,x2,rfl,J3,fun v ss G4 hv l4 hs J4 K4=>?_⟩
   wp_walk
   exact q v (.wait x2 ss) G4 hv ⟨rfl,l4,hs⟩ (by first | (simp only [Stm.nmIn];done) | (simp only [Stm.nmIn];exact hx2)) (by simp only [Stm.dp];omega) J4 (M3.kj K4 nrm) (KK.trans (K4.mono (by simp)))
  refine hR5 _ _ ?_
  clear hR5
  clear R5
  refine aG fun R6 hR6=>?_
  wp_walk
  split
  ·skip
   refine fun p hp=>?_
   have N:=Kp.new (S:=[]) (o:=.tup [.str "hear",.str x2,.str x3]) hp
   exact q _ (.hear x2 x3) _ (.hear aA) trivial (by first | (simp only [Stm.nmIn];done) | (simp only [Stm.nmIn];exact hx2)) (by simp only [Stm.dp];omega) (J3.new hp) (M3.kp N) (KK.trans (N.mono (by simp)))
  refine hR6 _ _ ?_
  clear hR6
  clear R6
  refine aG fun R7 hR7=>?_
  refine oN fun RI hRI=>?_
  wp_walk
  simp only [f_and]
  split
  ·next hc =>
   refine hRI _ _ ?_
   clear hRI RI
   wp_walk
   refine ⟨r,2,rfl,by decide,by decide,J3,fun u4 s4 G4 hv4 ok4 hd4 J4 K4=>?_⟩
   have M4:=M3.kj K4 nrm
   wp_walk
   refine ⟨r,m,dp - 1,rfl,by omega,by omega,J4,M4,nrm,fun p5 us5 b5 G5 e5 hs5 gd5 nm5 dp5 _ J5 M5 K5=>?_⟩
   wp_walk
   refine ⟨r,m,dp - 1,rfl,by omega,by omega,J5,M5,nrm,fun p6 us6 b6 G6 e6 hs6 gd6 nm6 dp6 _ J6 M6 K6=>?_⟩
   wp_walk
   refine fun p hp=>?_
   have N:=Kp.new (S:=[]) (o:=.tup [.str "if",u4,.ref p5,.ref p6]) hp
   have T6:=(J5.tk2 M5 K6).trans (aK.nil N)
   have T5:=(J4.tk2 M4 K5).trans T6
   exact q _ (.iff s4 b5 b6) _ (.iff aA (hv4.kp T5) (T6 _ _ e5) (hs5.kp T6) (N.at e6) (hs6.kp (aK.nil N))) ⟨⟨ok4,by omega⟩,gd5,gd6⟩ (by simp only [Stm.nmIn];exact ⟨nm5,nm6⟩) (by simp only [Stm.dp];omega) (J6.new hp) (M6.kp N) ((((KK.trans (K4.mono (by simp))).trans K5).trans K6).trans (N.mono (by simp)))
  clear hRI RI
  refine hR7 _ _ ?_
  clear hR7
  clear R7
  refine aG fun R8 hR8=>?_
  refine oN fun RI hRI=>?_
  wp_walk
  simp only [f_and]
  split
  ·next hc =>
   refine hRI _ _ ?_
   clear hRI RI
   wp_walk
   refine ⟨r,2,rfl,by decide,by decide,J3,fun u4 s4 G4 hv4 ok4 hd4 J4 K4=>?_⟩
   have M4:=M3.kj K4 nrm
   wp_walk
   refine ⟨r,m,dp - 1,rfl,by omega,by omega,J4,M4,nrm,fun p5 us5 b5 G5 e5 hs5 gd5 nm5 dp5 _ J5 M5 K5=>?_⟩
   wp_walk
   refine fun p hp=>?_
   have N:=Kp.new (S:=[]) (o:=.tup [.str "while",u4,.ref p5]) hp
   have T5:=(J4.tk2 M4 K5).trans (aK.nil N)
   exact q _ (.whl s4 b5) _ (.whl aA (hv4.kp T5) (N.at e5) (hs5.kp (aK.nil N))) ⟨⟨ok4,by omega⟩,gd5⟩ (by simp only [Stm.nmIn];exact nm5) (by simp only [Stm.dp];omega) (J5.new hp) (M5.kp N) (((KK.trans (K4.mono (by simp))).trans K5).trans (N.mono (by simp)))
  clear hRI RI
  refine hR8 _ _ ?_
  clear hR8
  clear R8
  refine aG fun R9 hR9=>?_
  wp_walk
  split
  ·skip
   refine ⟨r,1,rfl,by decide,by decide,J3,fun u4 s4 G4 hv4 ok4 hd4 J4 K4=>?_⟩
   wp_walk
   refine ⟨r,2,rfl,by decide,by decide,J4,fun u5 s5 G5 hv5 ok5 hd5 J5 K5=>?_⟩
   wp_walk
   refine fun p hp=>?_
   have N:=Kp.new (S:=[]) (o:=.tup [.str "send",u4,.str x3,u5]) hp
   have w4:=hv4.kp ((J4.tk K5).trans (aK.nil N))
   have w5:=hv5.kp (aK.nil N)
   exact q _ (.send s4 x3 s5) _ (.send aA w4 w5) ⟨⟨ok4,by omega⟩,ok5,by omega⟩ (by first | (simp only [Stm.nmIn];done) | (simp only [Stm.nmIn];exact hx2)) (by simp only [Stm.dp];omega) (J5.new hp) (((M3.kj K4 nrm).kj K5 nrm).kp N) (((KK.trans (K4.mono (by simp))).trans (K5.mono (by simp))).trans (N.mono (by simp)))
  refine hR9 _ _ ?_
  clear hR9
  clear R9
  refine aG fun R10 hR10=>?_
  refine oN fun RI hRI=>?_
  wp_walk
  split
  ·refine hRI _ _ ?_
   clear hRI RI
   refine aG fun Ra hRa=>?_
   wp_walk
   refine ⟨r,1,rfl,by decide,by decide,J3,fun u4 s4 G4 hv4 ok4 hd4 J4 K4=>?_⟩
   wp_walk
   refine hRa _ _ ?_
   clear hRa
   clear Ra
   wp_walk
   refine fun p5 h5 p6 h6 p7 h7=>?_
   have M_1:=Kp.new (S:=[]) (o:=.tup [.str "timer",.str x2,u4]) h5
   have M_2:=Kp.new (S:=[]) (o:=.tup [.str "child",.str x2,.str x3,u4]) h6
   have M_3:=Kp.new (S:=[]) (o:=.lst [.ref p5,.ref p6]) h7
   have f1:=(M_2.trans M_3).at (aA:(upd G4 p5 (.tup [.str "timer",.str x2,u4])) p5=some (.tup [.str "timer",.str x2,u4]))
   have f2:=M_3.at (aA:(upd (upd G4 p5 (.tup [.str "timer",.str x2,u4])) p6 (.tup [.str "child",.str x2,.str x3,u4])) p6=some (.tup [.str "child",.str x2,.str x3,u4]))
   have f3:(upd (upd (upd G4 p5 (.tup [.str "timer",.str x2,u4])) p6 (.tup [.str "child",.str x2,.str x3,u4])) p7 (.lst [.ref p5,.ref p6])) p7=some (.lst [.ref p5,.ref p6]):=aA
   have MM:=((M_1.trans M_2).trans M_3)
   generalize upd (upd (upd G4 p5 (.tup [.str "timer",.str x2,u4])) p6 (.tup [.str "child",.str x2,.str x3,u4])) p7 (.lst [.ref p5,.ref p6])=G7 at *
   clear M_1 M_2 M_3 h5 h6 h7
   have J7:=J4.kp MM
   have n7:p7≠r:=by
    obtain ⟨_,_,e,_⟩:=J7
    exact dE f3 e (by intro z;simp at z)
   refine ⟨J7,fun g8 G8 a8 b8 J8 K8=>?_⟩
   have T8:=J7.tk K8
   wp_walk using K8.at1 f3 n7
   have T:=(aK.nil MM).trans T8
   have KF:Kp [r,m] H G8:=((KK.trans (K4.mono (by simp))).trans (MM.mono (by simp))).trans (K8.mono (by simp))
   have MF:=((M3.kj K4 nrm).kp MM).kj K8 nrm
   refine jH a8 b8 fun v hv=>?_
   simp only [List.mem_cons,List.not_mem_nil,or_false] at hv
   rcases hv with rfl | rfl
   ·exact q _ (.timer x2 s4) _ (.timer (T8 _ _ f1) (hv4.kp T)) ⟨ok4,by omega⟩ (by first | (simp only [Stm.nmIn];done) | (simp only [Stm.nmIn];exact hx2)) (by simp only [Stm.dp];omega) J8 MF KF
   ·exact q _ (.child x2 x3 s4) _ (.child (T8 _ _ f2) (hv4.kp T)) ⟨ok4,by omega⟩ (by first | (simp only [Stm.nmIn];done) | (simp only [Stm.nmIn];exact hx2)) (by simp only [Stm.dp];omega) J8 MF KF
  clear hRI RI
  refine hR10 _ _ ?_
  clear hR10
  clear R10
  refine aG fun R11 hR11=>?_
  wp_walk
  split
  ·skip
   refine ⟨r,1,rfl,by decide,by decide,J3,fun u4 s4 G4 hv4 ok4 hd4 J4 K4=>?_⟩
   wp_walk
   refine fun p hp=>?_
   have N:=Kp.new (S:=[]) (o:=.tup [.str "drop",u4]) hp
   have w4:=hv4.kp (aK.nil N)
   exact q _ (.drop s4) _ (.drop aA w4) ⟨ok4,by omega⟩ (by first | (simp only [Stm.nmIn];done) | (simp only [Stm.nmIn];exact hx2)) (by simp only [Stm.dp];omega) (J4.new hp) ((M3.kj K4 nrm).kp N) ((KK.trans (K4.mono (by simp))).trans (N.mono (by simp)))
  refine hR11 _ _ ?_
  clear hR11
  clear R11
  wp_walk
  refine ⟨r,3,rfl,by decide,by decide,J3,fun u4 s4 G4 hv4 ok4 hd4 J4 K4=>?_⟩
  wp_walk
  refine fun p hp=>?_
  have N:=Kp.new (S:=[]) (o:=.tup [.str "set",.str x2,u4]) hp
  have w4:=hv4.kp (aK.nil N)
  exact q _ (.set x2 s4) _ (.set aA w4) ⟨ok4,by omega⟩ (by first | (simp only [Stm.nmIn];done) | (simp only [Stm.nmIn];exact hx2)) (by simp only [Stm.dp];omega) (J4.new hp) ((M3.kj K4 nrm).kp N) ((KK.trans (K4.mono (by simp))).trans (N.mono (by simp)))
theorem pR {t:Ad} (T:Tx w K mg t) {n d:Nat} (hn:3≤n) (IH:bG P w K mg base CX0 n t.alawstatement t.dlawstatement ["jar","deep","room"] (zP d)):bG P w K mg base CX0 (n+1) t.alawblock t.dlawblock ["jar","deep","room"] (vH (d+1)):=by
 refine T.flawblock.ok lP (fun vs H Q E h=>?_) (fun cdv A outer s H vs Q E hr h=>?_)
 ·obtain ⟨r,m,dp,rfl,_⟩:=h
  rfl
 ·obtain ⟨r,m,dp,rfl,d1,d2,hR,hM,nrm,q⟩:=h
  refine ⟨_,(aC (bA (i:=3) lP.nd rfl (Or.inl rfl) (bN aB))
   (aC (rJ PassesOwn.never rfl (uQ rfl T.zrange (aE (bF eM (aO (bE T) (hr.mono (by omega)) rfl T.mlawtake T.flawtake.kp T.blawtake .nil pass0 (aE (pv 0) (aE aD aB))) (bF mY aD (cI uP rfl T.zint bt_int (aE (jB cD (pv 1) aD (nomark _)) aB)))) aB)) (i0 (i:=4) lP.nd rfl (Or.inl rfl)) (aJ (bH (aQ op_gt (aX bL (pv 2) aD (fun _ _=>rfl)) aD (nomark _)) (aC (vM (bF gS (aX bL (pv 2) aD (fun _ _=>rfl)) aD) (y8 (pv 2) aD aa5))
   (aJ (bQ (lU (pv 3) (aO IH (hr.mono (by omega)) rfl T.mlawstatement T.flawstatement.kp T.blawstatement .nil pass0 (aE (pv 0) (aE (pv 1) (aE (pv 2) aB)))))))) aV)))
   (aJ (aN (cI fI rfl T.ztuple eX (aE (pv 3) aB)))))),?_⟩
  try dsimp only [L2.start,aY,bD,List.cons_append,List.nil_append,List.replicate_succ,List.replicate_zero,List.length_cons,List.length_nil,Nat.reduceAdd,Nat.reduceSub,Nat.zero_add]
  refine aG fun R1 hR1=>?_
  wp_walk
  refine fun bl hbl=>?_
  have N1:=Kp.new (S:=[]) (o:=.lst []) hbl
  have ebl:upd H bl (.lst []) bl=some (.lst []):=aA
  have nbr:bl≠r:=hR.none hbl
  have nbm:bl≠m:=by
   obtain ⟨_,e,_⟩:=hM
   exact (aL e hbl).symm
  have J1:=hR.new (o:=.lst []) hbl
  have M1:=hM.kp N1
  have KS:Kp [bl,r,m] H (upd H bl (.lst [])):=N1.mono (by simp)
  generalize upd H bl (.lst [])=G1 at *
  clear N1 hR hM
  refine hR1 _ _ ?_
  clear hR1
  clear R1
  refine aG fun R2 hR2=>?_
  wp_walk
  refine ⟨J1,fun g G2 a2 b2 J2 K2=>?_⟩
  obtain ⟨f,hf,ef⟩:∃ f:Int,(0≤f∧f≤1)∧(if decide (dp=3)=true then (1:Int) else 0)=f:=⟨_,by split<;>omega,rfl⟩
  rw [ef]
  refine ⟨tW (by omega) (by omega),⟨by omega,by omega⟩,?_⟩
  replace ebl:=K2.at1 ebl nbr
  replace KS:=KS.trans (K2.mono (T:=[bl,r,m]) (by simp))
  have M2:=M1.kj K2 nrm
  clear K2 J1 M1 ef
  obtain ⟨Pv,hPv⟩:∃ Pv:Nat→St→Hp→Prop,∀ i σ G,Pv i σ G = ∃(v4:Option V) (us:List V) (b:List Stm),σ=[some (.ref r),some (.int dp),some (.ref m),some (.ref bl),v4]∧G bl=some (.lst us)∧cA G us b∧b.length≤i∧pS true b∧dO NM4 b∧(qI b:Int)≤dp∧bX G r∧fF G m∧Kp [bl,r,m] H G:=⟨_,fun _ _ _=>rfl⟩
  refine tV (lo:=0) Pv ?_ ?_ ?_
  ·rw [hPv]
   exact ⟨none,[],[],rfl,ebl,.nil,Nat.le_refl _,by simp only [pS],by simp only [dO],by simpa [qI] using d1,J2,M2,KS⟩
  ·intro i σ G hi hG
   rw [hPv] at hG
   obtain ⟨v4,us,b,rfl,eB,hs,lb,gb,nb,db,JG,MG,KG⟩:=hG
   have back:∀(v4:Option V) (us:List V) (b:List Stm) (G':Hp),G' bl=some (.lst us)→cA G' us b→b.length≤i+1→pS true b→dO NM4 b→(qI b:Int)≤dp→bX G' r→fF G' m→Kp [bl,r,m] H G'→Pv (i+1) [some (.ref r),some (.int dp),some (.ref m),some (.ref bl),v4] G':=fun v4 us b G' x1 x2 x3 x4 x5 x6 x7 x8 x9=>by
    rw [hPv]
    exact ⟨_,_,_,rfl,x1,x2,x3,x4,x5,x6,x7,x8,x9⟩
   clear hPv
   obtain ⟨n0,em,hn0⟩:=id MG
   have lu:=hs.len
   refine oN fun RI hRI=>?_
   wp_walk using em
   split
   ·next hc =>
    refine hRI _ _ ?_
    clear hRI RI
    refine aG fun Ra hRa=>?_
    wp_walk using em
    have km:Kp [m] G (upd G m (.lst [.int (n0 - 1)])):=Kp.set (by simp)
    have t3:aK G (upd G m (.lst [.int (n0 - 1)])):=aK.setO em (by intro _ z;cases z)
    have M3:fF (upd G m (.lst [.int (n0 - 1)])) m:=⟨n0 - 1,aA,by omega⟩
    have J3:bX (upd G m (.lst [.int (n0 - 1)])) r:=by
     obtain ⟨c,f,e,x⟩:=JG
     exact ⟨c,f,km.at1 e nrm,x⟩
    have eB3:=km.at1 eB nbm
    have hs3:=hs.kp t3
    have KG3:=KG.trans (km.mono (T:=[bl,r,m]) (by simp))
    generalize upd G m (.lst [.int (n0 - 1)])=G3 at *
    refine hRa _ _ ?_
    clear hRa Ra km t3
    wp_walk using eB3
    refine ⟨r,m,dp,rfl,d1,by omega,J3,M3,nrm,fun v x G4 hv gx nx dx J4 M4 K4=>?_⟩
    have T4:=J3.tk2 M3 K4
    have eB4:=K4 _ _ eB3 (by simp only [List.mem_cons,List.not_mem_nil,or_false,not_or];exact ⟨nbr,nbm⟩)
    wp_walk using eB4
    refine ⟨by omega,?_⟩
    have kb:Kp [bl] G4 (upd G4 bl (.lst (us++[v]))):=Kp.set (by simp)
    have t5:aK G4 (upd G4 bl (.lst (us++[v]))):=aK.setO eB4 (by intro _ z;cases z)
    refine back _ _ (b++[x]) _ aA (((hs3.kp T4).snoc hv).kp t5) (by simp;omega) (xL gb gx) (yF nb nx) (by rw [sP];omega) ?_ ?_ ((KG3.trans (K4.mono (by simp))).trans (kb.mono (by simp)))
    ·obtain ⟨c,f,e,x⟩:=J4
     exact ⟨c,f,kb.at1 e nbr.symm,x⟩
    ·obtain ⟨c,e,x⟩:=M4
     exact ⟨c,kb.at1 e nbm.symm,x⟩
   ·wp_walk
    exact back _ us b G eB hs (by omega) gb nb db JG MG KG
  intro σ G hG
  rw [hPv] at hG
  obtain ⟨v4,us,b,rfl,eB,hs,lb,gb,nb,db,JG,MG,KG⟩:=hG
  clear hPv
  refine hR2 _ _ ?_
  clear hR2
  clear R2
  wp_walk using eB
  intro p hp
  have N:=Kp.new (S:=[]) (o:=.tup us) hp
  exact q p us b _ aA (hs.kp (aK.nil N)) gb nb db (by omega) (JG.new hp) (MG.kp N) ((Kp.drop KG hbl).trans (N.mono (by simp)))
theorem blk0 {t:Ad} (T:Tx w K mg t):bG P w K mg base CX0 9 t.alawblock t.dlawblock ["jar","deep","room"] (vH 0) :=
 ⟨fun _ _ _ _ x=>by (obtain ⟨_,_,_,_,h,h',_⟩:=x;exact absurd h (by omega)),fun _ _ _ _ _ _ _ _ _ _ _ _ _ x=>by (obtain ⟨_,_,_,_,h,h',_⟩:=x;exact absurd h (by omega))⟩
theorem aaP {t:Ad} (T:Tx w K mg t):∀ d:Nat,bG P w K mg base CX0 (2 * d+10) t.alawstatement t.dlawstatement ["jar","deep","room"] (zP d)∧bG P w K mg base CX0 (2 * d+11) t.alawblock t.dlawblock ["jar","deep","room"] (vH (d+1))
 | 0=>by
  have a:=kN (P:=P) (base:=base) T (n:=9) (d:=0) (Nat.le_refl _) (blk0 T)
  exact ⟨a,pR T (by omega) a⟩
 | d+1=>by
  have a:=kN (P:=P) (base:=base) T (n:=2 * d+11) (d:=d+1) (by omega) (aaP T d).2
  exact ⟨a,pR T (by omega) a⟩
theorem tF {t:Ad} (T:Tx w K mg t):bG P w K mg base CX0 20 t.alawprogram t.dlawprogram ["cell"] spJPrg:=by
 refine T.flawprogram.ok jG (fun vs H Q E h=>?_) (fun cdv A outer s H vs Q E hr h=>?_)
 ·obtain ⟨c,rfl,_⟩:=h
  rfl
 ·obtain ⟨c,rfl,q⟩:=h
  refine ⟨_,(aC (bA (i:=1) jG.nd rfl (Or.inl rfl) (aO (uB T) (hr.mono (by omega)) rfl T.mlawjar T.flawjar.kp T.blawjar .nil pass0 (aE (pv 0) aB)))
   (aC (bA (i:=2) jG.nd rfl (Or.inl rfl) (aO (aaP T 3).2 (hr.mono (by omega)) rfl T.mlawblock T.flawblock.kp T.blawblock .nil pass0 (aE (pv 1) (aE aD (aE (bN (aE aD aB)) aB)))))
   (aJ (aN (bF op_tcat (pv 2) (bF op_trep (bB (aE (bB (aE aP (aE (aO (cJ T 4) (hr.mono (by omega)) rfl T.mlawsaying T.flawsaying.kp T.blawsaying .nil pass0 (aE (pv 1) (aE aD aB))) aB))) aB)) (aO (bE T) (hr.mono (by omega)) rfl T.mlawtake T.flawtake.kp T.blawtake .nil pass0 (aE (pv 1) (aE aD aB))))))))),?_⟩
  try dsimp only [L2.start,aY,bD,List.cons_append,List.nil_append,List.replicate_succ,List.replicate_zero,List.length_cons,List.length_nil,Nat.reduceAdd,Nat.reduceSub,Nat.zero_add]
  refine aG fun R1 hR1=>?_
  wp_walk
  refine fun r G1 hr1 K1 J1=>?_
  refine hR1 _ _ ?_
  clear hR1
  clear R1
  refine aG fun R2 hR2=>?_
  wp_walk
  refine fun m hm=>?_
  have N2:=Kp.new (S:=[]) (o:=.lst [.int 40]) hm
  have M2:fF (upd G1 m (.lst [.int 40])) m:=⟨40,aA,by decide⟩
  have J2:=J1.new (o:=.lst [.int 40]) hm
  have nrm:r≠m:=(J1.none hm).symm
  have hmH:H m=none:=by
   cases e:H m with
   | none=>rfl
   | some o=>rw [K1.at e] at hm;cases hm
  have K2:Kp [r,m] H (upd G1 m (.lst [.int 40])):=(K1.trans N2).mono (by simp)
  generalize upd G1 m (.lst [.int 40])=G2 at *
  clear N2 K1 J1 hm
  refine ⟨r,m,3,rfl,by decide,by decide,J2,M2,nrm,fun p us b G3 ep hs gb nb db lb J3 M3 K3=>?_⟩
  have K3':Kp [r,m] H G3:=K2.trans K3
  clear K2 K3 J2 M2
  wp_walk
  refine hR2 _ _ ?_
  clear hR2
  clear R2
  wp_walk
  refine ⟨r,1,rfl,by decide,by decide,J3,fun u s G4 hv ok hd J4 K4 p1 m1 p2 m2=>⟨(J4.new m1).new m2,fun g G6 g0 g1 J6 K6=>?_⟩⟩
  have M_1:=Kp.new (S:=[]) (o:=.tup [.str "end",u]) m1
  have M_2:=Kp.new (S:=[]) (o:=.tup [.ref p1]) m2
  have f1:=M_2.at (aA:(upd G4 p1 (.tup [.str "end",u])) p1=some (.tup [.str "end",u]))
  have f2:(upd (upd G4 p1 (.tup [.str "end",u])) p2 (.tup [.ref p1])) p2=some (.tup [.ref p1]):=aA
  have MM:=(M_1.trans M_2)
  generalize upd (upd G4 p1 (.tup [.str "end",u])) p2 (.tup [.ref p1])=G5 at *
  clear M_1 M_2 m1 m2
  have J5:=J4.kp MM
  have T6:=J5.tk K6
  have T4:=(J3.tk K4).trans ((aK.nil MM).trans T6)
  have f1':=T6 _ _ f1
  have f2':=T6 _ _ f2
  have ep6:=T4 _ _ ep
  have hs6:=hs.kp T4
  have sv:dC G6 (.ref p1) (.fin s):=.fin f1' (hv.kp ((aK.nil MM).trans T6))
  have gs:(Stm.fin s).gd true:=⟨ok,by omega⟩
  have KF:Kp [] H G6:=Kp.drop (Kp.drop (((K3'.trans (K4.mono (by simp))).trans (MM.mono (by simp))).trans (K6.mono (by simp))) hr1) hmH
  have lu:=hs.len
  wp_walk using f2'
  refine ⟨by simp,?_⟩
  have lf:qI [Stm.fin s]=0:=by simp [qI,Stm.dp]
  by_cases hg:g=1
  ·refine .inl ⟨hg,?_⟩
   wp_walk using f2',ep6
   refine ⟨by omega,?_⟩
   split
   ·exact q p2 _ [.fin s] G6 f2' (.cons sv .nil) (gdL_of fun y hy=>by rw [show y=.fin s by simpa using hy];exact gs) (by simp only [dO,Stm.nmIn];exact ⟨trivial,trivial⟩) (by omega) (by simp) KF
   ·intro p3 h3
    have N:=Kp.new (S:=[]) (o:=.tup (us++[.ref p1])) h3
    exact q p3 _ (b++[.fin s]) _ aA ((hs6.snoc sv).kp (aK.nil N)) (xL gb gs) (yF nb (by simp only [Stm.nmIn])) (by rw [sP];simp only [Stm.dp];omega) (by simp;omega) (KF.trans N)
  ·refine .inr ⟨by omega,fun p3 h3=>?_⟩
   have N:=Kp.new (S:=[]) (o:=.tup []) h3
   have e3:upd G6 p3 (.tup []) p3=some (.tup []):=aA
   replace ep6:=N.at ep6
   replace hs6:=hs6.kp (aK.nil N)
   replace KF:=KF.trans N
   generalize upd G6 p3 (.tup [])=G7 at *
   wp_walk using e3,ep6
   refine ⟨by omega,?_⟩
   split
   ·exact q p3 [] [] G7 e3 .nil (by simp only [pS]) (by simp only [dO]) (by simp [qI]) (by simp) KF
   ·exact q p us b G7 ep6 hs6 gb nb (by omega) (by omega) KF
theorem uY {t:Ad} (T:Tx w K mg t):bG P w K mg base CX0 1 t.alawcellat t.dlawcellat ["script","k"] (spCell K):=by
 refine T.flawcellat.ok u6 (fun vs H Q E h=>?_) (fun cdv A outer s H vs Q E hr h=>?_)
 ·obtain ⟨a,ns,k,rfl,_⟩:=h
  rfl
 ·obtain ⟨a,ns,k,rfl,hS,hk,q⟩:=h
  refine ⟨_,(aC (bH (aQ mP (pv 1) (bU mG rfl T.zlen jL (aE (pv 0) aB)) (nomark _)) (aJ (aN (aX aaM (pv 0) (pv 1) (fun _ _=>rfl)))) aV)
   (aJ (aN aD))),?_⟩
  try dsimp only [L2.start,aY,bD,List.cons_append,List.nil_append,List.replicate_succ,List.replicate_zero,List.length_cons,List.length_nil,Nat.reduceAdd,Nat.reduceSub,Nat.zero_add]
  wp_walk
  refine ⟨_,hS,?_⟩
  split
  ·next h =>
   rw [List.length_map] at h
   have hj:k.toNat < ns.length:=by omega
   have ek:k=((k.toNat:Nat):Int):=by omega
   have e:j6 (ns.map V.int) ((k.toNat:Nat):Int)=some (.int ns[k.toNat]):=qC (by rw [List.getElem?_map,List.getElem?_eq_getElem hj];rfl)
   rw [← ek] at e
   exact ⟨a,_,k,_,rfl,rfl,hS,e,q _⟩
  ·exact q 0
theorem vZ {t:Ad} (T:Tx w K mg t):bG P w K mg base CX0 2 t.alawmoment t.dlawmoment ["jar"] uF:=by
 refine T.flawmoment.ok vE (fun vs H Q E h=>?_) (fun cdv A outer s H vs Q E hr h=>?_)
 ·obtain ⟨r,rfl,_⟩:=h
  rfl
 ·obtain ⟨r,rfl,hR,q⟩:=h
  refine ⟨_,(aJ (aN (aX bL (bN (aE (aO (bE T) (hr.mono (by omega)) rfl T.mlawtake T.flawtake.kp T.blawtake .nil pass0 (aE (pv 0) (aE aD aB))) (aE (bF gS (bF lO aD aD) (aO (bE T) (hr.mono (by omega)) rfl T.mlawtake T.flawtake.kp T.blawtake .nil pass0 (aE (pv 0) (aE aD aB)))) (aE (aO (bE T) (hr.mono (by omega)) rfl T.mlawtake T.flawtake.kp T.blawtake .nil pass0 (aE (pv 0) (aE (bF eM (bF lO aD aD) aD) aB))) aB)))) (aO (bE T) (hr.mono (by omega)) rfl T.mlawtake T.flawtake.kp T.blawtake .nil pass0 (aE (pv 0) (aE aD aB))) (fun _ _=>rfl)))),?_⟩
  try dsimp only [L2.start,aY,bD,List.cons_append,List.nil_append,List.replicate_succ,List.replicate_zero,List.length_cons,List.length_nil,Nat.reduceAdd,Nat.reduceSub,Nat.zero_add]
  wp_walk
  refine ⟨hR,fun g1 H1 a1 b1 R1 K1=>⟨R1,fun g2 H2 a2 b2 R2 K2=>⟨R2,fun g3 H3 a3 b3 R3 K3 p hp=>⟨R3.new hp,fun g4 H4 a4 b4 R4 K4=>?_⟩⟩⟩⟩
  wp_walk using K4.madeJ R3 hp
  refine jH a4 b4 fun v hv=>?_
  wp_walk
  have K:=((K1.trans K2).trans K3).trans ((Kp.new hp).trans K4)
  simp only [List.mem_cons,List.not_mem_nil,or_false] at hv
  rcases hv with rfl | rfl | rfl<;>exact q _ _ (by omega) (by omega) R4 K
theorem pY {t:Ad} (T:Tx w K mg t):bG P w K mg base CX0 3 t.alawhappening t.dlawhappening ["jar"] spJHap:=by
 refine T.flawhappening.ok gP (fun vs H Q E h=>?_) (fun cdv A outer s H vs Q E hr h=>?_)
 ·obtain ⟨r,rfl,_⟩:=h
  rfl
 ·obtain ⟨r,rfl,hR,q⟩:=h
  refine ⟨_,(aC (bA (i:=1) gP.nd rfl (Or.inl rfl) (aO (vZ T) (hr.mono (by omega)) rfl T.mlawmoment T.flawmoment.kp T.blawmoment .nil pass0 (aE (pv 0) aB)))
   (aC (bA (i:=2) gP.nd rfl (Or.inl rfl) (aO (bE T) (hr.mono (by omega)) rfl T.mlawtake T.flawtake.kp T.blawtake .nil pass0 (aE (pv 0) (aE aD aB))))
   (aC (bH (aQ cD (pv 2) aD (nomark _)) (aJ (aN (bB (aE aP (aE (pv 1) (aE (aO (jA T) (hr.mono (by omega)) rfl T.mlawworth T.flawworth.kp T.blawworth .nil pass0 (aE (pv 0) aB)) aB)))))) aV)
   (aC (bH (aQ mP (pv 2) aD (nomark _)) (aJ (aN (bB (aE aP (aE (pv 1) (aE (aO (bE T) (hr.mono (by omega)) rfl T.mlawtake T.flawtake.kp T.blawtake .nil pass0 (aE (pv 0) (aE aD aB))) (aE (aO (jA T) (hr.mono (by omega)) rfl T.mlawworth T.flawworth.kp T.blawworth .nil pass0 (aE (pv 0) aB)) aB))))))) aV)
   (aJ (aN (bB (aE aP (aE (pv 1) (aE (aX bL (bN (aE aP (aE aP (aE aP aB)))) (aO (bE T) (hr.mono (by omega)) rfl T.mlawtake T.flawtake.kp T.blawtake .nil pass0 (aE (pv 0) (aE aD aB))) (fun _ _=>rfl)) (aE (aO (jA T) (hr.mono (by omega)) rfl T.mlawworth T.flawworth.kp T.blawworth .nil pass0 (aE (pv 0) aB)) aB))))))))))),?_⟩
  try dsimp only [L2.start,aY,bD,List.cons_append,List.nil_append,List.replicate_succ,List.replicate_zero,List.length_cons,List.length_nil,Nat.reduceAdd,Nat.reduceSub,Nat.zero_add]
  wp_walk
  refine ⟨hR,fun m H1 m0 m1 R1 K1=>⟨R1,fun g H2 a2 b2 R2 K2=>?_⟩⟩
  split
  ·wp_walk
   refine ⟨R2,fun w H3 hw R3 K3 p hp=>?_⟩
   exact q _ (.beg m w) _ ⟨p,rfl,aA⟩ ⟨m0,m1⟩ hw (fun _ _ _ z=>by cases z) (R3.new hp) (((K1.trans K2).trans K3).trans (Kp.new hp))
  split
  ·wp_walk
   refine ⟨R2,fun g3 H3 a3 b3 R3 K3=>⟨R3,fun w H4 hw R4 K4 p hp=>?_⟩⟩
   exact q _ (.don m g3 w) _ ⟨p,rfl,aA⟩ ⟨m0,m1⟩ hw (fun _ _ _ z=>by cases z) (R4.new hp) (((K1.trans K2).trans (K3.trans K4)).trans (Kp.new hp))
  ·wp_walk
   refine fun p1 h1=>⟨R2.new h1,fun g3 H3 a3 b3 R3 K3=>?_⟩
   wp_walk using made1J K3 R2 h1
   refine jH a3 b3 fun y hy=>?_
   wp_walk
   obtain ⟨z,rfl,hz⟩:∃ z:Str,y=.str z∧z∈KY3:=by simp only [List.mem_cons,List.not_mem_nil,or_false] at hy;rcases hy with rfl | rfl | rfl<;>exact ⟨_,rfl,by simp [KY3]⟩
   refine ⟨R3,fun w H4 hw R4 K4 p hp=>?_⟩
   exact q _ (.ltr m z w) _ ⟨p,rfl,aA⟩ ⟨m0,m1⟩ hw (fun _ _ _ e=>by cases e;exact hz) (R4.new hp) ((((K1.trans K2).trans (Kp.new h1)).trans (K3.trans K4)).trans (Kp.new hp))
theorem xN {t:Ad} (T:Tx w K mg t):bG P w K mg base CX0 1 t.aWalkinit t.dWalkinit ["self","program"] (xX t.CWalk):=by
 refine T.fWalkinit.ok wR (fun vs H Q E h=>?_) (fun cdv A outer s H vs Q E hr h=>?_)
 ·obtain ⟨x,dx,p,us,b,rfl,_⟩:=h
  rfl
 ·obtain ⟨x,dx,p,us,b,rfl,e,ep,hU,q⟩:=h
  refine ⟨_,(aC (cP T.clWalk T.nablocks (pv 0) (bN (aE (pv 1) aB)))
   (aJ (cP T.clWalk T.nanumbers (pv 0) (bN (aE aD aB))))),?_⟩
  try dsimp only [L2.start,aY,bD,List.cons_append,List.nil_append,List.replicate_succ,List.replicate_zero,List.length_cons,List.length_nil,Nat.reduceAdd,Nat.reduceSub,Nat.zero_add]
  wp_walk using e
  refine fun lb f1=>?_
  have n1:x≠lb:=aL e f1
  wp_walk using aI n1,e
  refine fun ln f2=>?_
  have n2:x≠ln:=aL aA f2
  have n3:lb≠ln:=aL (by rw [aI n1.symm];exact aA) f2
  wp_walk using aI n2
  rw [aI n2.symm,aI n3.symm] at f2
  have npx:p≠x:=dE ep e (by intro z;cases z)
  have npl:=aL ep f1
  have npn:=aL ep f2
  have KK:Kp [x] H (upd (upd (upd (upd H lb (.lst [.ref p])) x (.ins t.CWalk dx [("blocks",.ref lb)])) ln (.lst [.int 0])) x (.ins t.CWalk dx [("blocks",.ref lb),("numbers",.ref ln)])):=fun b o eb nb=>by
   have nb':b≠x:=by simpa using nb
   rw [aI nb',aI (aL eb f2),aI nb',aI (aL eb f1)]
   exact eb
  have TT:aK H _:=fun a xs ea=>KK a _ ea (by simp only [List.mem_cons,List.not_mem_nil,or_false];exact dE ea e (by intro z;cases z))
  refine q lb ln _ f1 f2 ⟨aA,⟨[.ref p],?_,.one (TT _ _ ep) (hU.kp TT)⟩,?_,n3,by simp⟩ KK
  ·rw [aI n1.symm,aI n3,aI n1.symm]
   exact aA
  ·rw [aI n2.symm]
   exact aA
theorem sY {t:Ad} (T:Tx w K mg t):bG P w K mg base CX0 1 t.aTicketsinit t.dTicketsinit ["self"] (xO t.CTickets):=by
 refine T.fTicketsinit.ok tE (fun vs H Q E h=>?_) (fun cdv A outer s H vs Q E hr h=>?_)
 ·obtain ⟨x,dx,rfl,_⟩:=h
  rfl
 ·obtain ⟨x,dx,rfl,e,q⟩:=h
  refine ⟨_,(aC (cP T.clTickets T.namade (pv 0) aD)
   (aC (cP T.clTickets T.napending (pv 0) nE)
   (aJ (cP T.clTickets T.naanswers (pv 0) nE)))),?_⟩
  try dsimp only [L2.start,aY,bD,List.cons_append,List.nil_append,List.replicate_succ,List.replicate_zero,List.length_cons,List.length_nil,Nat.reduceAdd,Nat.reduceSub,Nat.zero_add]
  wp_walk using e
  refine fun dp f1=>?_
  have n1:x≠dp:=aL aA f1
  wp_walk using aI n1
  refine fun da f2=>?_
  have n2:x≠da:=aL aA f2
  have n3:dp≠da:=aL (by rw [aI n1.symm];exact aA) f2
  wp_walk using aI n2
  rw [aI n1.symm] at f1
  rw [aI n2.symm,aI n3.symm,aI n2.symm] at f2
  refine q dp da _ f1 f2 ⟨aA,?_,?_,n3,by simp,.nil,by simp,by simp,by decide⟩ ?_
  ·rw [aI n1.symm,aI n3,aI n1.symm]
   exact aA
  ·rw [aI n2.symm]
   exact aA
  ·intro b o eb nb
   have nb':b≠x:=by simpa using nb
   rw [aI nb',aI (aL eb f2),aI nb',aI (aL eb f1),aI nb']
   exact eb
theorem qV {t:Ad} (T:Tx w K mg t):bG P w K mg base CX0 3 t.aRuninit t.dRuninit ["self","program"] (aaR ⟨t.CRun,t.CWalk,t.CTickets⟩):=by
 refine T.fRuninit.ok zM (fun vs H Q E h=>?_) (fun cdv A outer s H vs Q E hr h=>?_)
 ·obtain ⟨x,dx,pg,us,b,rfl,_⟩:=h
  rfl
 ·obtain ⟨x,dx,pg,us,b,rfl,e,ep,hs,q⟩:=h
  refine ⟨_,(aC (cP T.clRun T.nawalk (pv 0) (vN T.mkWalk (xN T) (hr.mono (by omega)) rfl T.mWalk T.bWalkinit .nil pass0 (aE (pv 1) aB)))
   (aC (cP T.clRun T.nasleep (pv 0) (bB (aE aP aB)))
   (aC (cP T.clRun T.naarg (pv 0) eV)
   (aC (cP T.clRun T.nanow (pv 0) aD)
   (aC (cP T.clRun T.nanames (pv 0) nE)
   (aC (cP T.clRun T.natickets (pv 0) (pe_make0 T.mkTickets (sY T) (hr.mono (by omega)) rfl T.mTickets T.bTicketsinit .nil pass0))
   (aJ (cP T.clRun T.naletters (pv 0) nE)))))))),?_⟩
  try dsimp only [L2.start,aY,bD,List.cons_append,List.nil_append,List.replicate_succ,List.replicate_zero,List.length_cons,List.length_nil,Nat.reduceAdd,Nat.reduceSub,Nat.zero_add]
  refine aG fun R1 hR1=>?_
  wp_walk using e
  refine mk_walk ep hs fun wk wx lb ln Gw Kw hwk hlb hln W0=>?_
  have ew:=Kw.at e
  wp_walk using ew
  have g1:upd Gw x (.ins t.CRun dx [("walk",.ref wk)]) x=some (.ins t.CRun dx [("walk",.ref wk)]):=aA
  have K1:Kp [x] Gw (upd Gw x (.ins t.CRun dx [("walk",.ref wk)])):=Kp.set (by simp)
  generalize upd Gw x (.ins t.CRun dx [("walk",.ref wk)])=G1 at *
  refine hR1 _ _ ?_
  clear hR1
  clear R1
  refine aG fun R2 hR2=>?_
  wp_walk using g1
  refine fun p h2=>?_
  obtain ⟨g2,f2,K2,n2⟩:=put2 (o:=.tup [.str "new"]) (o':=.ins t.CRun dx [("walk",.ref wk),("sleep",.ref p)]) g1 h2
  wp_walk using aI n2,g1
  generalize upd (upd G1 p (.tup [.str "new"])) x (.ins t.CRun dx [("walk",.ref wk),("sleep",.ref p)])=G2 at *
  refine hR2 _ _ ?_
  clear hR2
  clear R2
  refine aG fun R3 hR3=>?_
  wp_walk using g2
  have g3:upd G2 x (.ins t.CRun dx [("walk",.ref wk),("sleep",.ref p),("arg",.non)]) x=some (.ins t.CRun dx [("walk",.ref wk),("sleep",.ref p),("arg",.non)]):=aA
  have K3:Kp [x] G2 (upd G2 x (.ins t.CRun dx [("walk",.ref wk),("sleep",.ref p),("arg",.non)])):=Kp.set (by simp)
  generalize upd G2 x (.ins t.CRun dx [("walk",.ref wk),("sleep",.ref p),("arg",.non)])=G3 at *
  refine hR3 _ _ ?_
  clear hR3
  clear R3
  refine aG fun R4 hR4=>?_
  wp_walk using g3
  have g4:upd G3 x (.ins t.CRun dx [("walk",.ref wk),("sleep",.ref p),("arg",.non),("now",.int 0)]) x=some (.ins t.CRun dx [("walk",.ref wk),("sleep",.ref p),("arg",.non),("now",.int 0)]):=aA
  have K4:Kp [x] G3 (upd G3 x (.ins t.CRun dx [("walk",.ref wk),("sleep",.ref p),("arg",.non),("now",.int 0)])):=Kp.set (by simp)
  generalize upd G3 x (.ins t.CRun dx [("walk",.ref wk),("sleep",.ref p),("arg",.non),("now",.int 0)])=G4 at *
  refine hR4 _ _ ?_
  clear hR4
  clear R4
  refine aG fun R5 hR5=>?_
  wp_walk using g4
  refine fun nm h5=>?_
  obtain ⟨g5,f5,K5,n5⟩:=put2 (o:=.dK []) (o':=.ins t.CRun dx [("walk",.ref wk),("sleep",.ref p),("arg",.non),("now",.int 0),("names",.ref nm)]) g4 h5
  wp_walk using aI n5,g4
  generalize upd (upd G4 nm (.dK [])) x (.ins t.CRun dx [("walk",.ref wk),("sleep",.ref p),("arg",.non),("now",.int 0),("names",.ref nm)])=G5 at *
  refine hR5 _ _ ?_
  clear hR5
  clear R5
  refine aG fun R6 hR6=>?_
  wp_walk using g5
  refine mk_tk fun tk tx dp da Gt Kt htk hdp hda T0=>?_
  have et:=Kt.at g5
  wp_walk using et
  have g6:upd Gt x (.ins t.CRun dx [("walk",.ref wk),("sleep",.ref p),("arg",.non),("now",.int 0),("names",.ref nm),("tickets",.ref tk)]) x=some (.ins t.CRun dx [("walk",.ref wk),("sleep",.ref p),("arg",.non),("now",.int 0),("names",.ref nm),("tickets",.ref tk)]):=aA
  have K6:Kp [x] Gt (upd Gt x (.ins t.CRun dx [("walk",.ref wk),("sleep",.ref p),("arg",.non),("now",.int 0),("names",.ref nm),("tickets",.ref tk)])):=Kp.set (by simp)
  generalize upd Gt x (.ins t.CRun dx [("walk",.ref wk),("sleep",.ref p),("arg",.non),("now",.int 0),("names",.ref nm),("tickets",.ref tk)])=G6 at *
  refine hR6 _ _ ?_
  clear hR6
  clear R6
  wp_walk using g6
  refine fun lt h7=>?_
  obtain ⟨g7,f7,K7,n7⟩:=put2 (o:=.dK []) (o':=.ins t.CRun dx [("walk",.ref wk),("sleep",.ref p),("arg",.non),("now",.int 0),("names",.ref nm),("tickets",.ref tk),("letters",.ref lt)]) g6 h7
  wp_walk using aI n7,g6
  generalize upd (upd G6 lt (.dK [])) x (.ins t.CRun dx [("walk",.ref wk),("sleep",.ref p),("arg",.non),("now",.int 0),("names",.ref nm),("tickets",.ref tk),("letters",.ref lt)])=G7 at *
  have KA:Kp [x] H G4:=((((Kw.mono (by simp)).trans K1).trans K2).trans K3).trans K4
  have KB:Kp [x] H Gt:=(KA.trans K5).trans (Kt.mono (by simp))
  have KC:Kp [x] H G6:=KB.trans K6
  have xwk:x≠wk:=aL e hwk
  have xtk:x≠tk:=aL g5 htk
  have W7:Kp [x] Gw G7:=(((((K1.trans K2).trans K3).trans K4).trans K5).trans (Kt.mono (by simp))).trans (K6.trans K7)
  have P7:Kp [x] G2 G7:=(((K3.trans K4).trans K5).trans (Kt.mono (by simp))).trans (K6.trans K7)
  have N7:Kp [x] G5 G7:=(Kt.mono (by simp)).trans (K6.trans K7)
  have T7:Kp [x] Gt G7:=K6.trans K7
  have KD:Kp [x] H G7:=KC.trans K7
  have W5:Kp [x] Gw G5:=((((K1.trans K2).trans K3).trans K4).trans K5)
  have xlb:lb≠x:=(aL e hlb).symm
  have xln:ln≠x:=(aL e hln).symm
  have xdp:dp≠x:=(aL g5 hdp).symm
  have xda:da≠x:=(aL g5 hda).symm
  have nm6:=K6.at1 (Kt.at f5) n5.symm
  have dp6:=K6.at1 T0.hp xdp
  have da6:=K6.at1 T0.ha xda
  have wk5:=W5.at1 W0.ins xwk.symm
  have fr4:H nm=none:=frJ KA g4 h5
  have fr5:∀ {a:Addr},G5 a=none→H a=none:=fun h=>frJ (KA.trans K5) g5 h
  have frlt:H lt=none:=frJ KC g6 h7
  have kt7:aK Gw G7:=fun b xs hb=>W7.at1 hb (dE hb ew (by intro z;cases z))
  refine q ⟨x,dx,wk,wx,lb,ln,nm,tk,tx,dp,da,lt⟩ (.ref p) G7 rfl ⟨g7,⟨p,rfl,P7.at1 f2 n2.symm⟩,W0.keep (fun o h=>W7.at1 h xwk.symm) (fun o h=>W7.at1 h xlb) (fun o h=>W7.at1 h xln) kt7,T0.keep (fun o h=>T7.at1 h xtk.symm) (fun o h=>T7.at1 h xdp) (fun o h=>T7.at1 h xda),N7.at1 f5 n5.symm,⟨[],f7,.nil⟩,by simp,by simp,xwk,xtk,aL wk5 htk,aL f5 hdp,aL f5 hda,aL nm6 h7,(aL dp6 h7).symm,(aL da6 h7).symm⟩ KD fun a ha=>?_
  simp only [Rn.cells,List.mem_cons,List.not_mem_nil,or_false] at ha
  rcases ha with rfl | rfl | rfl | rfl | rfl | rfl | rfl | rfl
  ·exact .inl rfl
  ·exact .inr hlb
  ·exact .inr hln
  ·exact .inr fr4
  ·exact .inr (fr5 htk)
  ·exact .inr (fr5 hdp)
  ·exact .inr (fr5 hda)
  ·exact .inr frlt
theorem gB {t:Ad} (T:Tx w K mg t):bG P w K mg base CX0 1 t.aTicketsisopen t.dTicketsisopen ["self","ticket"] (spTkOpen t.CTickets):=by
 refine T.fTicketsisopen.ok oC (fun vs H Q E h=>?_) (fun cdv A outer s H vs Q E hr h=>?_)
 ·obtain ⟨tk,tx,dp,da,made,pend,ans,w,rfl,_⟩:=h
  rfl
 ·obtain ⟨tk,tx,dp,da,made,pend,ans,w,rfl,R,q⟩:=h
  have hu:=kX hr
  refine ⟨_,(aJ (aN (pe_cmp (aa9 hu (pv 1) (aM T.clTickets T.napending (pv 0)))))),?_⟩
  try dsimp only [L2.start,aY,bD,List.cons_append,List.nil_append,List.replicate_succ,List.replicate_zero,List.length_cons,List.length_nil,Nat.reduceAdd,Nat.reduceSub,Nat.zero_add]
  wp_walk using R.ins,R.hp,rA
  exact q
theorem oB {t:Ad} (T:Tx w K mg t):bG P w K mg base CX0 2 t.aRunpassesover t.dRunpassesover ["self","happening"] (spOver ⟨t.CRun,t.CWalk,t.CTickets⟩):=by
 refine T.fRunpassesover.ok jQ (fun vs H Q E h=>?_) (fun cdv A outer s H vs Q E hr h=>?_)
 ·obtain ⟨R,as,sl,S,v,h,rfl,_⟩:=h
  rfl
 ·obtain ⟨R,as,sl,S,v,h,rfl,A,hn,hH,q⟩:=h
  refine ⟨_,(aC (bA (i:=2) jQ.nd rfl (Or.inl rfl) (aX bL (pv 1) aD (fun _ _=>rfl)))
   (aC (bH (aQ cD (aX bL (aM T.clRun T.nasleep (pv 0)) aD (fun _ _=>rfl)) aP (nomark _)) (aJ (aN (jB op_ne (pv 2) aP (nomark _)))) aV)
   (aC (bH (aQ zK (aX bL (aM T.clRun T.nasleep (pv 0)) aD (fun _ _=>rfl)) (bB (aE aP (aE aP aB))) (by with_unfolding_all rfl)) (aJ (aN nS)) aV)
   (aJ (aN (pe_or (jB cD (pv 2) aP (nomark _)) (pe_one (pe_and (jB cD (pv 2) aP (nomark _)) (pe_one (pe_not (bK (aM T.clRun T.natickets (pv 0)) T.clTickets T.meTicketsisopen (gB T) (hr.mono (by omega)) T.bTicketsisopen .nil pass0 (aE (aX bL (pv 1) aD (fun _ _=>rfl)) aB)))))))))))),?_⟩
  try dsimp only [L2.start,aY,bD,List.cons_append,List.nil_append,List.replicate_succ,List.replicate_zero,List.length_cons,List.length_nil,Nat.reduceAdd,Nat.reduceSub,Nat.zero_add]
  obtain ⟨a,rfl,eh⟩:=hH
  cases es:S.sl with
  | non=>rw [es] at hn;cases hn
  | new =>
   have hsl:=A.slp
   rw [es] at hsl
   obtain ⟨p,rfl,ep⟩:=hsl
   cases h with
   | beg m w =>
    simp only [Hap.vs,Hap.ini,Hap.w,List.cons_append,List.nil_append] at eh
    rw [show S.over (.beg m w)=false by simp only [Pu.over,es]] at q
    wp_walk using A.ins,eh,ep
    exact q _ Kp.refl
   | don m i w =>
    simp only [Hap.vs,Hap.ini,Hap.w,List.cons_append,List.nil_append] at eh
    rw [show S.over (.don m i w)=true by simp only [Pu.over,es]] at q
    wp_walk using A.ins,eh,ep
    exact q _ Kp.refl
   | ltr m k w =>
    simp only [Hap.vs,Hap.ini,Hap.w,List.cons_append,List.nil_append] at eh
    rw [show S.over (.ltr m k w)=true by simp only [Pu.over,es]] at q
    wp_walk using A.ins,eh,ep
    exact q _ Kp.refl
  | wait ts =>
   have hsl:=A.slp
   rw [es] at hsl
   obtain ⟨p,p2,rfl,ep,ep2⟩:=hsl
   cases h with
   | beg m w =>
    simp only [Hap.vs,Hap.ini,Hap.w,List.cons_append,List.nil_append] at eh
    rw [show S.over (.beg m w)=true by simp only [Pu.over,es]] at q
    wp_walk using A.ins,eh,ep
    refine fun p9 h9=>⟨rfl,by decide +kernel,?_⟩
    rw [if_neg (by decide +kernel)]
    have N9:=Kp.new (S:=[]) (o:=.tup [.str "ended",.str "worn"]) h9
    wp_walk using N9.at eh
    exact q _ N9
   | don m i w =>
    simp only [Hap.vs,Hap.ini,Hap.w,List.cons_append,List.nil_append] at eh
    rw [show S.over (.don m i w) = !decide (i∈S.pend) by simp only [Pu.over,es]] at q
    wp_walk using A.ins,eh,ep
    refine fun p9 h9=>⟨rfl,by decide +kernel,?_⟩
    rw [if_neg (by decide +kernel)]
    have N9:=Kp.new (S:=[]) (o:=.tup [.str "ended",.str "worn"]) h9
    have A9:=A.kp N9
    have eh9:=N9.at eh
    generalize upd H p9 (.tup [.str "ended",.str "worn"])=G9 at *
    wp_walk using A9.ins,A9.tk.ins,eh9
    refine ⟨R.tk,R.tx,R.dp,R.da,_,_,_,some i,rfl,A9.tk,?_⟩
    wp_walk
    rw [show decide (∃ j,j∈S.pend∧(some i:Wo)=some j)=decide (i∈S.pend) by simp]
    exact q _ N9
   | ltr m k0 w =>
    simp only [Hap.vs,Hap.ini,Hap.w,List.cons_append,List.nil_append] at eh
    rw [show S.over (.ltr m k0 w)=false by simp only [Pu.over,es]] at q
    wp_walk using A.ins,eh,ep
    refine fun p9 h9=>⟨rfl,by decide +kernel,?_⟩
    rw [if_neg (by decide +kernel)]
    have N9:=Kp.new (S:=[]) (o:=.tup [.str "ended",.str "worn"]) h9
    wp_walk using N9.at eh
    exact q _ N9
  | hear k =>
   have hsl:=A.slp
   rw [es] at hsl
   obtain ⟨p,rfl,ep⟩:=hsl
   cases h with
   | beg m w =>
    simp only [Hap.vs,Hap.ini,Hap.w,List.cons_append,List.nil_append] at eh
    rw [show S.over (.beg m w)=true by simp only [Pu.over,es]] at q
    wp_walk using A.ins,eh,ep
    refine fun p9 h9=>⟨rfl,by decide +kernel,?_⟩
    rw [if_neg (by decide +kernel)]
    have N9:=Kp.new (S:=[]) (o:=.tup [.str "ended",.str "worn"]) h9
    wp_walk using N9.at eh
    exact q _ N9
   | don m i w =>
    simp only [Hap.vs,Hap.ini,Hap.w,List.cons_append,List.nil_append] at eh
    rw [show S.over (.don m i w) = !decide (i∈S.pend) by simp only [Pu.over,es]] at q
    wp_walk using A.ins,eh,ep
    refine fun p9 h9=>⟨rfl,by decide +kernel,?_⟩
    rw [if_neg (by decide +kernel)]
    have N9:=Kp.new (S:=[]) (o:=.tup [.str "ended",.str "worn"]) h9
    have A9:=A.kp N9
    have eh9:=N9.at eh
    generalize upd H p9 (.tup [.str "ended",.str "worn"])=G9 at *
    wp_walk using A9.ins,A9.tk.ins,eh9
    refine ⟨R.tk,R.tx,R.dp,R.da,_,_,_,some i,rfl,A9.tk,?_⟩
    wp_walk
    rw [show decide (∃ j,j∈S.pend∧(some i:Wo)=some j)=decide (i∈S.pend) by simp]
    exact q _ N9
   | ltr m k0 w =>
    simp only [Hap.vs,Hap.ini,Hap.w,List.cons_append,List.nil_append] at eh
    rw [show S.over (.ltr m k0 w)=false by simp only [Pu.over,es]] at q
    wp_walk using A.ins,eh,ep
    refine fun p9 h9=>⟨rfl,by decide +kernel,?_⟩
    rw [if_neg (by decide +kernel)]
    have N9:=Kp.new (S:=[]) (o:=.tup [.str "ended",.str "worn"]) h9
    wp_walk using N9.at eh
    exact q _ N9
  | ended w =>
   have hsl:=A.slp
   rw [es] at hsl
   obtain ⟨p,rfl,ep⟩:=hsl
   have e0:∃(kd:Str) (xs:List V),H a=some (.tup (.str kd::xs)):=by cases h<;>exact ⟨_,_,eh⟩
   obtain ⟨kd,xs,e0⟩:=e0
   rw [show S.over (h)=true by simp only [Pu.over,es]] at q
   wp_walk using A.ins,e0,ep
   refine fun p9 h9=>⟨rfl,by decide +kernel,?_⟩
   rw [if_pos (by decide +kernel)]
   exact q _ (Kp.new h9)
  | worn =>
   have hsl:=A.slp
   rw [es] at hsl
   obtain ⟨p,rfl,ep⟩:=hsl
   have e0:∃(kd:Str) (xs:List V),H a=some (.tup (.str kd::xs)):=by cases h<;>exact ⟨_,_,eh⟩
   obtain ⟨kd,xs,e0⟩:=e0
   rw [show S.over (h)=true by simp only [Pu.over,es]] at q
   wp_walk using A.ins,e0,ep
   refine fun p9 h9=>⟨rfl,by decide +kernel,?_⟩
   rw [if_pos (by decide +kernel)]
   exact q _ (Kp.new h9)
theorem gK {t:Ad} (T:Tx w K mg t):bG P w K mg base CX0 1 t.aWalkpassby t.dWalkpassby ["self"] (rC t.CWalk):=by
 refine T.fWalkpassby.ok tH (fun vs H Q E h=>?_) (fun cdv A outer s H vs Q E hr h=>?_)
 ·obtain ⟨wk,wx,lb,ln,k,n,b,r,rfl,_⟩:=h
  rfl
 ·obtain ⟨wk,wx,lb,ln,k,n,b,r,rfl,W,q⟩:=h
  refine ⟨_,(aJ (ps_augS (aM T.clWalk T.nanumbers (pv 0)) (qO nB aD) get_c aD aaO aa5)),?_⟩
  try dsimp only [L2.start,aY,bD,List.cons_append,List.nil_append,List.replicate_succ,List.replicate_zero,List.length_cons,List.length_nil,Nat.reduceAdd,Nat.reduceSub,Nat.zero_add]
  obtain ⟨vs,eb,hB⟩:=W.bl
  obtain ⟨l,el,el2⟩:=oF k n b r
  have en:=W.nu
  rw [el] at en
  have i2:j6 ((l++[(n:Int)]).map V.int) (-1)=some (.int n):=by rw [List.map_append];exact lL _ _
  have i3:yK ((l++[(n:Int)]).map V.int).length (-1)=some l.length:=by
   unfold yK
   simp
   omega
  have i4:((l++[(n:Int)]).map V.int).set l.length (.int ((n:Int)+1))=(l++[((n+1:Nat):Int)]).map V.int:=by simp
  wp_walk using W.ins,en,i2,i3,i4
  have n1:wk≠ln:=dE W.ins W.nu (by intro z;cases z)
  have K1:Kp [ln] H (upd H ln (.lst ((l++[((n+1:Nat):Int)]).map V.int))):=Kp.set1J
  have T1:aK H (upd H ln (.lst ((l++[((n+1:Nat):Int)]).map V.int))):=fun a xs e=>by rw [aI (dE e W.nu (by intro z;cases z))];exact e
  exact q _ ⟨by rw [aI n1];exact W.ins,⟨vs,by rw [aI W.ne];exact eb,(hB.kp T1).turn⟩,by rw [aA,el2],W.ne,W.few⟩ K1
theorem fA {t:Ad} (T:Tx w K mg t):bG P w K mg base CX0 1 t.aWalkstandsat t.dWalkstandsat ["self"] (zV t.CWalk):=by
 refine T.fWalkstandsat.ok pZ (fun vs H Q E h=>?_) (fun cdv A outer s H vs Q E hr h=>?_)
 ·obtain ⟨wk,wx,lb,ln,k,n,b,r,m,rfl,_⟩:=h
  rfl
 ·obtain ⟨wk,wx,lb,ln,k,n,b,r,m,rfl,W,hm,q⟩:=h
  refine ⟨_,(aJ (aN (aX bL (aX bL (aM T.clWalk T.nablocks (pv 0)) (qO nB aD) (fun _ _=>rfl)) (aX bL (aM T.clWalk T.nanumbers (pv 0)) (qO nB aD) (fun _ _=>rfl)) (fun _ _=>rfl)))),?_⟩
  try dsimp only [L2.start,aY,bD,List.cons_append,List.nil_append,List.replicate_succ,List.replicate_zero,List.length_cons,List.length_nil,Nat.reduceAdd,Nat.reduceSub,Nat.zero_add]
  obtain ⟨vs,eb,hB⟩:=W.bl
  obtain ⟨ws,p,us,rfl,ep,hU,_,_⟩:=hB.last
  obtain ⟨l,el,_⟩:=oF k n b r
  have en:=W.nu
  rw [el] at en
  have hn:n < us.length:=by
   have:=(List.getElem?_eq_some_iff.mp hm).1
   have:=hU.len
   omega
  obtain ⟨m',hm',hM⟩:=hU.at (List.getElem?_eq_getElem hn)
  rw [hm] at hm'
  cases hm'
  have i1:j6 (ws++[V.ref p]) (-1)=some (.ref p):=lL _ _
  have i2:j6 ((l++[(n:Int)]).map V.int) (-1)=some (.int n):=by rw [List.map_append];exact lL _ _
  have i3:j6 us (n:Int)=some us[n]:=qC (List.getElem?_eq_getElem hn)
  wp_walk using W.ins,eb,en,i1,i2,ep,i3
  exact q _ hM
theorem vP {t:Ad} (T:Tx w K mg t):bG P w K mg base CX0 2 t.aWalkleave t.dWalkleave ["self"] (spWkLeave t.CWalk):=by
 refine T.fWalkleave.ok vF (fun vs H Q E h=>?_) (fun cdv A outer s H vs Q E hr h=>?_)
 ·obtain ⟨wk,wx,lb,ln,k,n,b,x,r,m,rfl,_⟩:=h
  rfl
 ·obtain ⟨wk,wx,lb,ln,k,n,b,⟨kx,bx,nx⟩,r,m,rfl,W,hm,q⟩:=h
  refine ⟨_,(aC (bQ (vK (aM T.clWalk T.nablocks (pv 0))))
   (aC (bQ (vK (aM T.clWalk T.nanumbers (pv 0))))
   (aC (bQ (vK (aM T.clWalk T.nanumbers (pv 0))))
   (aJ (bH (aQ cD (aX bL (bT (pv 0) T.clWalk T.meWalkstandsat (fA T) (hr.mono (by omega)) T.bWalkstandsat .nil pass0) aD (fun _ _=>rfl)) aP (nomark _)) (aJ (bQ (bT (pv 0) T.clWalk T.meWalkpassby (gK T) (hr.mono (by omega)) T.bWalkpassby .nil pass0))) aV))))),?_⟩
  try dsimp only [L2.start,aY,bD,List.cons_append,List.nil_append,List.replicate_succ,List.replicate_zero,List.length_cons,List.length_nil,Nat.reduceAdd,Nat.reduceSub,Nat.zero_add]
  obtain ⟨vs,eb,hB⟩:=W.bl
  have n1:wk≠ln:=dE W.ins W.nu (by intro z;cases z)
  have n2:wk≠lb:=dE W.ins eb (by intro z;cases z)
  obtain ⟨ws,p,us,rfl,ep,hU,hBr,_⟩:=hB.last
  have hB2:=hBr (by simp)
  have nu0:H ln=some (.lst (((bV ((k,b,n)::r)).map V.int++[.int kx])++[.int nx])):=by rw [W.nu,oE];simp
  have few:=W.few
  simp only [List.length_cons] at few
  refine aG fun R1 hR1=>?_
  wp_walk using W.ins,eb,pB,List.dropLast_concat
  have T1:=aK.eO (ys:=ws) eb
  have i1:upd H lb (.lst ws) wk=some (.ins t.CWalk wx [("blocks",.ref lb),("numbers",.ref ln)]):=by rw [aI n2];exact W.ins
  have i2:upd H lb (.lst ws) ln=some (.lst (((bV ((k,b,n)::r)).map V.int++[.int kx])++[.int nx])):=by rw [aI W.ne.symm];exact nu0
  have i3:upd H lb (.lst ws) lb=some (.lst ws):=aA
  have K1:Kp [lb] H (upd H lb (.lst ws)):=Kp.set1J
  have B1:=hB2.kp T1
  generalize upd H lb (.lst ws)=G at *
  refine hR1 _ _ ?_
  clear hR1
  clear R1
  refine aG fun R2 hR2=>?_
  wp_walk using i1,i2,pB,List.dropLast_concat
  have T2:=aK.eO (ys:=(bV ((k,b,n)::r)).map V.int++[.int kx]) i2
  have j1:upd G ln (.lst ((bV ((k,b,n)::r)).map V.int++[.int kx])) wk=some (.ins t.CWalk wx [("blocks",.ref lb),("numbers",.ref ln)]):=by rw [aI n1];exact i1
  have j2:upd G ln (.lst ((bV ((k,b,n)::r)).map V.int++[.int kx])) ln=some (.lst ((bV ((k,b,n)::r)).map V.int++[.int kx])):=aA
  have j3:upd G ln (.lst ((bV ((k,b,n)::r)).map V.int++[.int kx])) lb=some (.lst ws):=by rw [aI W.ne];exact i3
  have K2:Kp [ln] G (upd G ln (.lst ((bV ((k,b,n)::r)).map V.int++[.int kx]))):=Kp.set1J
  have B2:=B1.kp T2
  generalize upd G ln (.lst ((bV ((k,b,n)::r)).map V.int++[.int kx]))=G2 at *
  refine hR2 _ _ ?_
  clear hR2
  clear R2
  refine aG fun R3 hR3=>?_
  wp_walk using j1,j2,pB,List.dropLast_concat
  have T3:=aK.eO (ys:=(bV ((k,b,n)::r)).map V.int) j2
  have W3:iS t.CWalk (upd G2 ln (.lst ((bV ((k,b,n)::r)).map V.int))) wk wx lb ln ((k,b,n)::r):=⟨by rw [aI n1];exact j1,⟨ws,by rw [aI W.ne];exact j3,B2.kp T3⟩,aA,W.ne,by simp only [List.length_cons];omega⟩
  have K3:Kp [ln] G2 (upd G2 ln (.lst ((bV ((k,b,n)::r)).map V.int))):=Kp.set1J
  generalize upd G2 ln (.lst ((bV ((k,b,n)::r)).map V.int))=G3 at *
  refine hR3 _ _ ?_
  clear hR3
  clear R3
  have K13:Kp [lb,ln] H G3:=((K1.mono (by simp)).trans (K2.mono (by simp))).trans (K3.mono (by simp))
  wp_walk using W3.ins
  refine ⟨wk,wx,lb,ln,k,n,b,r,m,rfl,W3,hm,fun v hv=>?_⟩
  obtain ⟨a,kd,xs,rfl,ea,hk⟩:=hv.kind0
  wp_walk using ea
  by_cases hi:m.isIf=true
  ·rw [hi] at hk q
   have hkd:kd = "if":=by simpa using hk
   subst hkd
   wp_walk using W3.ins
   exact ⟨wk,wx,lb,ln,k,n,b,r,rfl,W3,fun H4 W4 K4=>q H4 W4 (K13.trans (K4.mono (by simp)))⟩
  ·have hi':m.isIf=false:=by simpa using hi
   rw [hi'] at hk q
   have hkd:(kd = "if")=False:=by simpa using hk
   wp_walk using hkd
   exact q G3 W3 K13
theorem tQ {t:Ad} (T:Tx w K mg t):bG P w K mg base CX0 3 t.aWalkcometo t.dWalkcometo ["self"] (spWkCome t.CWalk):=by
 refine T.fWalkcometo.ok tK (fun vs H Q E h=>?_) (fun cdv A outer s H vs Q E hr h=>?_)
 ·obtain ⟨wk,wx,lb,ln,st,rfl,_⟩:=h
  rfl
 ·obtain ⟨wk,wx,lb,ln,st,rfl,W0,ok0,q0,q1⟩:=h
  refine ⟨_,(aC (wW PassesOwn.never (aQ cD (aX bL (aM T.clWalk T.nanumbers (pv 0)) (qO nB aD) (fun _ _=>rfl)) (bU jW rfl T.zlen jL (aE (aX bL (aM T.clWalk T.nablocks (pv 0)) (qO nB aD) (fun _ _=>rfl)) aB)) (nomark _)) (aC (bH (aQ cD (bU jW rfl T.zlen jL (aE (aM T.clWalk T.nablocks (pv 0)) aB)) aD (nomark _)) (aJ (aN eV)) aV)
   (aJ (bQ (bT (pv 0) T.clWalk T.meWalkleave (vP T) (hr.mono (by omega)) T.bWalkleave .nil pass0)))))
   (aJ (aN (bT (pv 0) T.clWalk T.meWalkstandsat (fA T) (hr.mono (by omega)) T.bWalkstandsat .nil pass0)))),?_⟩
  try dsimp only [L2.start,aY,bD,List.cons_append,List.nil_append,List.replicate_succ,List.replicate_zero,List.length_cons,List.length_nil,Nat.reduceAdd,Nat.reduceSub,Nat.zero_add]
  obtain ⟨Y,hV⟩:∃ Y:Nat→St→Hp→Prop,∀ m σ G,Y m σ G = ∃ st':Stk,σ=[some (.ref wk)]∧iS t.CWalk G wk wx lb ln st'∧uN st'∧cM st'=cM st∧m=st'.length∧Kp [lb,ln] H G:=⟨_,fun _ _ _=>rfl⟩
  try simp only [L2.start,List.map_cons,List.map_nil,List.length_cons,List.length_nil,Nat.reduceAdd,Nat.reduceSub,List.replicate_zero,List.append_nil]
  refine ⟨Y,⟨st.length,?_⟩,?_⟩
  ·rw [hV]
   exact ⟨st,rfl,W0,ok0,rfl,rfl,Kp.refl⟩
  intro m σ G hG
  rw [hV] at hG
  obtain ⟨st',rfl,W,ok,hct,rfl,KG⟩:=hG
  have back:∀(st2:Stk) (G2:Hp),iS t.CWalk G2 wk wx lb ln st2→uN st2→cM st2=cM st→st2.length < st'.length→Kp [lb,ln] H G2→∃ m',m' < st'.length∧Y m' [some (.ref wk)] G2:=fun st2 G2 a b c d e=>by
   refine ⟨st2.length,d,?_⟩
   rw [hV]
   exact ⟨st2,rfl,a,b,c,rfl,e⟩
  clear hV
  match st',ok with
  | (k,b,n)::r,ok =>
   obtain ⟨vs,eb,hB⟩:=W.bl
   obtain ⟨ws,p,us,rfl,ep,hU,hBr,hBn⟩:=hB.last
   obtain ⟨l,el,_⟩:=oF k n b r
   have en:=W.nu
   rw [el] at en
   have i1:j6 (ws++[V.ref p]) (-1)=some (.ref p):=lL _ _
   have i2:j6 ((l++[(n:Int)]).map V.int) (-1)=some (.int n):=by rw [List.map_append];exact lL _ _
   have lu:=hU.len
   have lw:=hB.len
   wp_walk using W.ins,eb,en,i1,i2,ep
   by_cases hn:n=b.length
   ·rw [if_pos (by omega)]
    wp_walk using W.ins,eb,en
    refine ⟨fun σ' G'=>∃ m',m' < r.length+1∧Y m' σ' G',fun _ _ z=>z,?_⟩
    match r,ok,W,hct,back,hBn,lw with
    | [],ok,W,hct,back,hBn,lw =>
     have e0:cM st=[(k,b,n)]:=by rw [← hct];simp [cM]
     rw [if_pos (by have:=lw.1;simp only [List.length_cons,List.length_nil] at this;omega)]
     exact q0 G (by rw [e0];exact W) (by rw [e0];exact ok) (by rw [e0];simp [stand,hn]) KG
    | (k2,b2,n2)::r,ok,W,hct,back,hBn,lw =>
     rw [if_neg (by have:=lw.1;simp only [List.length_cons] at this;omega)]
     have h2:n2 < b2.length:=ok.2 (k2,b2,n2) (by simp)
     have hm:b2[n2]?=some b2[n2]:=List.getElem?_eq_getElem h2
     have ho:sO b2 n2=if (b2[n2]).isIf=true then n2+1 else n2:=by unfold sO;rw [hm]
     refine ⟨wk,wx,lb,ln,k2,n2,b2,(k,b,n),r,b2[n2],rfl,W,hm,fun H' W' K'=>?_⟩
     rw [← ho] at W'
     refine back _ H' W' ⟨wU h2,fun x hx=>ok.2 x (List.mem_cons_of_mem _ hx)⟩ ?_ (by simp) (Kp.trans KG K')
     rw [← hct]
     conv=>rhs;rw [cM]
     rw [if_pos hn]
   ·rw [if_neg (by omega)]
    have h2:n < b.length:=by have:=ok.1;omega
    have hm:b[n]?=some b[n]:=List.getElem?_eq_getElem h2
    have e0:cM st=(k,b,n)::r:=by
     rw [← hct]
     cases r with
     | nil=>simp [cM]
     | cons x r=>obtain ⟨k2,b2,n2⟩:=x;simp [cM,hn]
    exact ⟨wk,wx,lb,ln,k,n,b,r,b[n],rfl,W,hm,fun v hv=>q1 b[n] v G (by rw [e0];exact W) (by rw [e0];exact ok) (by rw [e0];exact hm) hv KG⟩
theorem iX {t:Ad} (T:Tx w K mg t):bG P w K mg base CX0 1 t.aTicketsshutall t.dTicketsshutall ["self"] (spTkAll t.CTickets):=by
 refine T.fTicketsshutall.ok nU (fun vs H Q E h=>?_) (fun cdv A outer s H vs Q E hr h=>?_)
 ·obtain ⟨tk,tx,dp,da,made,pend,ans,rfl,_⟩:=h
  rfl
 ·obtain ⟨tk,tx,dp,da,made,pend,ans,rfl,R,q⟩:=h
  refine ⟨_,(aJ (bQ (pe_dclear (aM T.clTickets T.napending (pv 0))))),?_⟩
  try dsimp only [L2.start,aY,bD,List.cons_append,List.nil_append,List.replicate_succ,List.replicate_zero,List.length_cons,List.length_nil,Nat.reduceAdd,Nat.reduceSub,Nat.zero_add]
  wp_walk using R.ins,R.hp
  have n1:=R.n1
  exact q _ ⟨by rw [aI n1.1];exact R.ins,aA,by rw [aI R.nda.symm];exact R.ha,R.nda,by simp,.nil,R.la,by simp,R.small⟩ Kp.set1J
theorem uR {t:Ad} (T:Tx w K mg t):bG P w K mg base CX0 2 t.aRunend t.dRunend ["self","worth"] (spEndR ⟨t.CRun,t.CWalk,t.CTickets⟩):=by
 refine T.fRunend.ok abL (fun vs H Q E h=>?_) (fun cdv A outer s H vs Q E hr h=>?_)
 ·obtain ⟨R,as,sl,S,w,rfl,_⟩:=h
  rfl
 ·obtain ⟨R,as,sl,S,w,rfl,A,q⟩:=h
  refine ⟨_,(aC (cP T.clRun T.nasleep (pv 0) (bB (aE aP (aE (pv 1) aB))))
   (aC (bQ (bT (aM T.clRun T.natickets (pv 0)) T.clTickets T.meTicketsshutall (iX T) (hr.mono (by omega)) T.bTicketsshutall .nil pass0))
   (aJ (aN (bN (aE (bB (aE aP (aE (pv 1) aB))) aB)))))),?_⟩
  try dsimp only [L2.start,aY,bD,List.cons_append,List.nil_append,List.replicate_succ,List.replicate_zero,List.length_cons,List.length_nil,Nat.reduceAdd,Nat.reduceSub,Nat.zero_add]
  refine aG fun R1 hR1=>?_
  wp_walk using A.ins
  refine fun p hp=>?_
  have N1:=Kp.new (S:=[]) (o:=.tup [.str "ended",wv w]) hp
  have e1:upd H p (.tup [.str "ended",wv w]) p=some (.tup [.str "ended",wv w]):=aA
  have A1:=A.kp N1
  wp_walk using N1.at A.ins
  have A2:=A1.attr (.ref p) (.ended w) S.ar S.nw ⟨p,rfl,e1⟩
  have F2:=(Fw.of (R:=R) (as:=as) N1).trans (Fw.set (p:=R.x) (o:=(.ins t.CRun R.dx [("walk",.ref R.wk),("sleep",.ref p),("arg",wv S.ar),("now",.int S.nw),("names",.ref R.nm),("tickets",.ref R.tk),("letters",.ref R.lt)])) (.inl (by simp [Rn.cells])))
  generalize upd (upd H p (.tup [.str "ended",wv w])) R.x (.ins t.CRun R.dx [("walk",.ref R.wk),("sleep",.ref p),("arg",wv S.ar),("now",.int S.nw),("names",.ref R.nm),("tickets",.ref R.tk),("letters",.ref R.lt)])=G2 at *
  refine hR1 _ _ ?_
  clear hR1
  clear R1
  refine aG fun R2 hR2=>?_
  wp_walk using A2.ins,A2.tk.ins
  refine ⟨R.tk,R.tx,R.dp,R.da,_,_,_,rfl,A2.tk,fun H3 T3 K3=>?_⟩
  have K4:Kp [R.tk,R.dp,R.da] G2 H3:=K3.mono (by simp;try omega)
  have A3:=A2.tick T3 K4
  have F3:=F2.trans (A2.ftick T3 K4)
  wp_walk
  refine hR2 _ _ ?_
  clear hR2
  clear R2
  wp_walk
  refine fun p3 h3 c h4=>?_
  have N3:=(Kp.new (S:=[]) (o:=.tup [.str "end",wv w]) h3).trans (Kp.new (o:=.lst [.ref p3]) h4)
  exact q _ c [.ref p3] _ (A3.kp N3) (F3.free (cK h4)) aA (.cons ((Kp.new (S:=[]) h4).at aA) .nil) (F3.trans (Fw.of N3))
theorem tM {t:Ad} (T:Tx w K mg t):bG P w K mg base CX0 2 t.aRunwearout t.dRunwearout ["self"] (spWear ⟨t.CRun,t.CWalk,t.CTickets⟩):=by
 refine T.fRunwearout.ok tG (fun vs H Q E h=>?_) (fun cdv A outer s H vs Q E hr h=>?_)
 ·obtain ⟨R,as,sl,S,rfl,_⟩:=h
  rfl
 ·obtain ⟨R,as,sl,S,rfl,A,q⟩:=h
  refine ⟨_,(aC (cP T.clRun T.nasleep (pv 0) (bB (aE aP aB)))
   (aC (bQ (bT (aM T.clRun T.natickets (pv 0)) T.clTickets T.meTicketsshutall (iX T) (hr.mono (by omega)) T.bTicketsshutall .nil pass0))
   (aJ (aN (bN (aE (bB (aE aP aB)) aB)))))),?_⟩
  try dsimp only [L2.start,aY,bD,List.cons_append,List.nil_append,List.replicate_succ,List.replicate_zero,List.length_cons,List.length_nil,Nat.reduceAdd,Nat.reduceSub,Nat.zero_add]
  refine aG fun R1 hR1=>?_
  wp_walk using A.ins
  refine fun p hp=>?_
  have N1:=Kp.new (S:=[]) (o:=.tup [.str "worn"]) hp
  have e1:upd H p (.tup [.str "worn"]) p=some (.tup [.str "worn"]):=aA
  have A1:=A.kp N1
  wp_walk using N1.at A.ins
  have A2:=A1.attr (.ref p) (.worn) S.ar S.nw ⟨p,rfl,e1⟩
  have F2:=(Fw.of (R:=R) (as:=as) N1).trans (Fw.set (p:=R.x) (o:=(.ins t.CRun R.dx [("walk",.ref R.wk),("sleep",.ref p),("arg",wv S.ar),("now",.int S.nw),("names",.ref R.nm),("tickets",.ref R.tk),("letters",.ref R.lt)])) (.inl (by simp [Rn.cells])))
  generalize upd (upd H p (.tup [.str "worn"])) R.x (.ins t.CRun R.dx [("walk",.ref R.wk),("sleep",.ref p),("arg",wv S.ar),("now",.int S.nw),("names",.ref R.nm),("tickets",.ref R.tk),("letters",.ref R.lt)])=G2 at *
  refine hR1 _ _ ?_
  clear hR1
  clear R1
  refine aG fun R2 hR2=>?_
  wp_walk using A2.ins,A2.tk.ins
  refine ⟨R.tk,R.tx,R.dp,R.da,_,_,_,rfl,A2.tk,fun H3 T3 K3=>?_⟩
  have K4:Kp [R.tk,R.dp,R.da] G2 H3:=K3.mono (by simp;try omega)
  have A3:=A2.tick T3 K4
  have F3:=F2.trans (A2.ftick T3 K4)
  wp_walk
  refine hR2 _ _ ?_
  clear hR2
  clear R2
  wp_walk
  refine fun p3 h3 c h4=>?_
  have N3:=(Kp.new (S:=[]) (o:=.tup [.str "worn"]) h3).trans (Kp.new (o:=.lst [.ref p3]) h4)
  exact q _ c [.ref p3] _ (A3.kp N3) (F3.free (cK h4)) aA (.cons ((Kp.new (S:=[]) h4).at aA) .nil) (F3.trans (Fw.of N3))
theorem kR {t:Ad} (T:Tx w K mg t):bG P w K mg base CX0 1 t.anumberof t.dnumberof ["worth"] spNum:=by
 refine T.fnumberof.ok wN (fun vs H Q E h=>?_) (fun cdv A outer s H vs Q E hr h=>?_)
 ·obtain ⟨w,rfl,_⟩:=h
  rfl
 ·obtain ⟨w,rfl,q⟩:=h
  refine ⟨_,(aJ (aN (nH (aQ mW (pv 0) eV (nomark _)) aD (pv 0)))),?_⟩
  try dsimp only [L2.start,aY,bD,List.cons_append,List.nil_append,List.replicate_succ,List.replicate_zero,List.length_cons,List.length_nil,Nat.reduceAdd,Nat.reduceSub,Nat.zero_add]
  wp_walk using yM
  cases w with
  | none=>exact q
  | some n=>exact q
theorem qH {t:Ad} (T:Tx w K mg t):bG P w K mg base CX0 1 t.akept t.dkept ["number"] spKept:=by
 refine T.fkept.ok sc_kept (fun vs H Q E h=>?_) (fun cdv A outer s H vs Q E hr h=>?_)
 ·obtain ⟨n,rfl,_⟩:=h
  rfl
 ·obtain ⟨n,rfl,q⟩:=h
  refine ⟨_,(aJ (aN (bU (oO rfl) rfl T.zmax yS (aE (qO nB (nJ (v:=.int 1000000000) rfl T.cGREATESTWORTH ⟨_,rfl⟩)) (aE (bU (uV rfl) rfl T.zmin bt_min (aE (nJ (v:=.int 1000000000) rfl T.cGREATESTWORTH ⟨_,rfl⟩) (aE (pv 0) aB))) aB))))),?_⟩
  try dsimp only [L2.start,aY,bD,List.cons_append,List.nil_append,List.replicate_succ,List.replicate_zero,List.length_cons,List.length_nil,Nat.reduceAdd,Nat.reduceSub,Nat.zero_add]
  wp_walk
  exact q
theorem iL {t:Ad} (T:Tx w K mg t):bG P w K mg base CX0 1 t.aoneornought t.doneornought ["truth"] spOne:=by
 refine T.foneornought.ok qR (fun vs H Q E h=>?_) (fun cdv A outer s H vs Q E hr h=>?_)
 ·obtain ⟨b,rfl,_⟩:=h
  rfl
 ·obtain ⟨b,rfl,q⟩:=h
  refine ⟨_,(aJ (aN (nH (mX (pv 0)) aD aD))),?_⟩
  try dsimp only [L2.start,aY,bD,List.cons_append,List.nil_append,List.replicate_succ,List.replicate_zero,List.length_cons,List.length_nil,Nat.reduceAdd,Nat.reduceSub,Nat.zero_add]
  wp_walk
  cases b<;>exact q
theorem ok_joined {t:Ad} (T:Tx w K mg t):bG P w K mg base CX0 2 t.ajoined t.djoined ["sign","one","other"] spJoined:=by
 refine T.fjoined.ok oK (fun vs H Q E h=>?_) (fun cdv A outer s H vs Q E hr h=>?_)
 ·obtain ⟨g,a,b,rfl,_⟩:=h
  rfl
 ·obtain ⟨g,a,b,rfl,ha,q⟩:=h
  refine ⟨_,(aC (bH (aQ cD (pv 0) aP (nomark _)) (aJ (aN (aO (iL T) (hr.mono (by omega)) rfl T.moneornought T.foneornought.kp T.boneornought .nil pass0 (aE (jB cD (pv 1) (pv 2) (nomark _)) aB)))) aV)
   (aC (bA (i:=3) oK.nd rfl (Or.inl rfl) (aO (kR T) (hr.mono (by omega)) rfl T.mnumberof T.fnumberof.kp T.bnumberof .nil pass0 (aE (pv 1) aB)))
   (aC (bA (i:=4) oK.nd rfl (Or.inl rfl) (aO (kR T) (hr.mono (by omega)) rfl T.mnumberof T.fnumberof.kp T.bnumberof .nil pass0 (aE (pv 2) aB)))
   (aC (bH (aQ cD (pv 0) aP (nomark _)) (aJ (aN (aO (iL T) (hr.mono (by omega)) rfl T.moneornought T.foneornought.kp T.boneornought .nil pass0 (aE (jB mP (pv 3) (pv 4) (nomark _)) aB)))) aV)
   (aC (bH (aQ cD (pv 0) aP (nomark _)) (aJ (aN (aO (qH T) (hr.mono (by omega)) rfl T.mkept T.fkept.kp T.bkept .nil pass0 (aE (bF eM (pv 3) (pv 4)) aB)))) aV)
   (aC (bH (aQ cD (pv 0) aP (nomark _)) (aJ (aN (aO (qH T) (hr.mono (by omega)) rfl T.mkept T.fkept.kp T.bkept .nil pass0 (aE (bF gS (pv 3) (pv 4)) aB)))) aV)
   (aJ (aN (aO (qH T) (hr.mono (by omega)) rfl T.mkept T.fkept.kp T.bkept .nil pass0 (aE (bF mY (pv 3) (pv 4)) aB)))))))))),?_⟩
  try dsimp only [L2.start,aY,bD,List.cons_append,List.nil_append,List.replicate_succ,List.replicate_zero,List.length_cons,List.length_nil,Nat.reduceAdd,Nat.reduceSub,Nat.zero_add]
  have b1:=isWo_num ha
  cases g with
  | eq =>
   wp_walk using Sg.s
   cases a with
   | none=>cases b with
    | none=>simpa [rEq,scal,wv,yJ,Sg.of] using q
    | some n=>simpa [rEq,scal,wv,yJ,Sg.of] using q
   | some m=>cases b with
    | none=>simpa [rEq,scal,wv,yJ,Sg.of] using q
    | some n=>simpa [rEq,scal,wv,yJ,Sg.of] using q
  | lt =>
   wp_walk using Sg.s,decide_eq_true_eq
   exact q
  | add =>
   wp_walk using Sg.s
   exact q
  | sub =>
   wp_walk using Sg.s
   exact q
  | mul =>
   wp_walk using Sg.s
   exact ⟨tW (by omega) (by omega),q⟩
theorem aaC {t:Ad} (T:Tx w K mg t) {n d:Nat} (hn:3≤n) (IH:bG P w K mg base CX0 n t.aworthof t.dworthof ["saying","names","arg","now","answers"] (spWo d)):bG P w K mg base CX0 (n+1) t.aworthof t.dworthof ["saying","names","arg","now","answers"] (spWo (d+1)):=by
  refine T.fworthof.ok kD (fun vs H Q E h=>?_) (fun cdv A outer s H vs Q E hr h=>?_)
  · obtain ⟨v,dn,da,p,s,rfl,_⟩:=h
    rfl
  · obtain ⟨v,dn,da,p,s,rfl,hS,hd,hok,hN,hA,hP,q⟩:=h
    have hu:=kX hr
    refine ⟨_,(aC (bA (i:=5) kD.nd rfl (Or.inl rfl) (aX bL (pv 0) aD (fun _ _=>rfl)))
      (aC (bH (aQ cD (pv 5) aP (nomark _)) (aJ (aN (aX bL (pv 0) aD (fun _ _=>rfl)))) aV)
      (aC (bH (aQ cD (pv 5) aP (nomark _)) (aJ (aN eV)) aV)
      (aC (bH (aQ cD (pv 5) aP (nomark _)) (aJ (aN (abB hu (pv 1) (aX bL (pv 0) aD (fun _ _=>rfl)) ⟨rfl,rfl,rfl,rfl⟩))) aV)
      (aC (bH (aQ cD (pv 5) aP (nomark _)) (aJ (aN (pv 2))) aV)
      (aC (bH (aQ cD (pv 5) aP (nomark _)) (aJ (aN (aO (qH T) (hr.mono (by omega)) rfl T.mkept T.fkept.kp T.bkept .nil pass0 (aE (pv 3) aB)))) aV)
      (aC (bA (i:=6) kD.nd rfl (Or.inl rfl) (aO IH (hr.mono (by omega)) rfl T.mworthof T.fworthof.kp T.bworthof .nil pass0 (aE (aX bL (pv 0) aD (fun _ _=>rfl)) (aE (pv 1) (aE (pv 2) (aE (pv 3) (aE (pv 4) aB)))))))
      (aC (bH (aQ cD (pv 5) aP (nomark _)) (aJ (aN (abB hu (pv 4) (pv 6) ⟨rfl,rfl,rfl,rfl⟩))) aV)
      (aC (bH (aQ cD (pv 5) aP (nomark _)) (aJ (aN (aO (iL T) (hr.mono (by omega)) rfl T.moneornought T.foneornought.kp T.boneornought .nil pass0 (aE (jB cD (aO (kR T) (hr.mono (by omega)) rfl T.mnumberof T.fnumberof.kp T.bnumberof .nil pass0 (aE (pv 6) aB)) aD (nomark _)) aB)))) aV)
      (aC (bA (i:=7) kD.nd rfl (Or.inl rfl) (aO IH (hr.mono (by omega)) rfl T.mworthof T.fworthof.kp T.bworthof .nil pass0 (aE (aX bL (pv 0) aD (fun _ _=>rfl)) (aE (pv 1) (aE (pv 2) (aE (pv 3) (aE (pv 4) aB)))))))
      (aJ (aN (aO (ok_joined T) (hr.mono (by omega)) rfl T.mjoined T.fjoined.kp T.bjoined .nil pass0 (aE (pv 5) (aE (pv 6) (aE (pv 7) aB)))))))))))))))),?_⟩
    try dsimp only [L2.start,aY,bD,List.cons_append,List.nil_append,List.replicate_succ,List.replicate_zero,List.length_cons,List.length_nil,Nat.reduceAdd,Nat.reduceSub,Nat.zero_add]
    cases hS with
    | num e =>
      wp_walk using e
      exact q
    | non e =>
      wp_walk using e
      exact q
    | name e =>
      obtain ⟨kvs,ek,hk⟩:=hN
      wp_walk using e,ek,hk
      exact q
    | arg e =>
      wp_walk using e
      exact q
    | now e =>
      wp_walk using e
      exact q
    | ans e h1 =>
      wp_walk using e
      simp only [Say.depth] at hd
      refine ⟨_,_,_,p,_,rfl,h1,by omega,hok,hN,hA,hP,?_⟩
      obtain ⟨kvs,ek,hk⟩:=hA
      wp_walk using e,ek,hk
      exact q
    | neg e h1 =>
      wp_walk using e
      simp only [Say.depth] at hd
      refine ⟨_,_,_,p,_,rfl,h1,by omega,hok,hN,hA,hP,?_⟩
      wp_walk using e,decide_eq_true_eq
      exact q
    | @two a v u g s1 s2 e h1 h2 =>
      simp only [Say.depth] at hd
      cases g <;>
      ( wp_walk using e,Sg.s
        refine ⟨_,_,_,p,_,rfl,h1,by omega,hok.1,hN,hA,hP,?_⟩
        wp_walk using e,Sg.s
        refine ⟨_,_,_,p,_,rfl,h2,by omega,hok.2,hN,hA,hP,?_⟩
        wp_walk using e,Sg.s
        exact ⟨_,_,_,rfl,ev_wo hP hok.1,q⟩)
theorem zE {t:Ad} (T:Tx w K mg t):∀ d,bG P w K mg base CX0 (d+3) t.aworthof t.dworthof ["saying","names","arg","now","answers"] (spWo d):=by
 intro d
 induction d with
 | zero=>exact ⟨fun _ _ _ _ x=>by (obtain ⟨_,_,_,_,s,_,_,h,_⟩:=x;exact absurd h (by have:=s.depth_pos;omega)),fun _ _ _ _ _ _ _ _ _ _ _ _ _ x=>by (obtain ⟨_,_,_,_,s,_,_,h,_⟩:=x;exact absurd h (by have:=s.depth_pos;omega))⟩
 | succ d ih=>exact aaC T (by omega) ih
theorem dB {t:Ad} (T:Tx w K mg t):bG P w K mg base CX0 10 t.aRunworth t.dRunworth ["self","saying"] (spWorthR ⟨t.CRun,t.CWalk,t.CTickets⟩):=by
 refine T.fRunworth.ok yD (fun vs H Q E h=>?_) (fun cdv A outer s H vs Q E hr h=>?_)
 ·obtain ⟨R,as,sl,S,v,s,rfl,_⟩:=h
  rfl
 ·obtain ⟨R,as,sl,S,v,s,rfl,A,ok,hS,so,q⟩:=h
  refine ⟨_,(aJ (aN (aO (zE T 6) (hr.mono (by omega)) rfl T.mworthof T.fworthof.kp T.bworthof .nil pass0 (aE (pv 1) (aE (aM T.clRun T.nanames (pv 0)) (aE (aM T.clRun T.naarg (pv 0)) (aE (aM T.clRun T.nanow (pv 0)) (aE (aM T.clTickets T.naanswers (aM T.clRun T.natickets (pv 0))) aB)))))))),?_⟩
  try dsimp only [L2.start,aY,bD,List.cons_append,List.nil_append,List.replicate_succ,List.replicate_zero,List.length_cons,List.length_nil,Nat.reduceAdd,Nat.reduceSub,Nat.zero_add]
  wp_walk using A.ins,A.tk.ins
  exact ⟨v,R.nm,R.da,S.pl,s,rfl,hS,so.2,so.1,⟨_,A.nm,qL S.nm⟩,⟨_,A.tk.ha,rD S.ans⟩,ok,q⟩
theorem nK {t:Ad} (T:Tx w K mg t):bG P w K mg base CX0 2 t.aWalkenter t.dWalkenter ["self","which"] (uC t.CWalk):=by
 refine T.fWalkenter.ok uW (fun vs H Q E h=>?_) (fun cdv A outer s H vs Q E hr h=>?_)
 ·obtain ⟨wk,wx,lb,ln,k,n,c,b,bb,r,m,rfl,_⟩:=h
  rfl
 ·obtain ⟨wk,wx,lb,ln,k,n,c,b,bb,r,m,rfl,W,hm,hs,hr90,q⟩:=h
  refine ⟨_,(aC (bQ (lU (aM T.clWalk T.nablocks (pv 0)) (aX bL (bT (pv 0) T.clWalk T.meWalkstandsat (fA T) (hr.mono (by omega)) T.bWalkstandsat .nil pass0) (bF eM aD (pv 1)) (fun _ _=>rfl))))
   (aJ (bQ (wS PySem.F.slot_list_extend PySem.F.type_list_extend p8 (aM T.clWalk T.nanumbers (pv 0)) (aE (bN (aE (pv 1) (aE aD aB))) aB))))),?_⟩
  try dsimp only [L2.start,aY,bD,List.cons_append,List.nil_append,List.replicate_succ,List.replicate_zero,List.length_cons,List.length_nil,Nat.reduceAdd,Nat.reduceSub,Nat.zero_add]
  obtain ⟨vs,eb,hB⟩:=W.bl
  have n1:wk≠ln:=dE W.ins W.nu (by intro z;cases z)
  have n2:wk≠lb:=dE W.ins eb (by intro z;cases z)
  have lv:=hB.len
  wp_walk using W.ins,eb
  refine ⟨wk,wx,lb,ln,k,n,b,r,m,rfl,W,hm,fun v hv=>?_⟩
  obtain ⟨a,p,xs,us,rfl,ea,hat,ep,hU⟩:=hv.subAt hs
  wp_walk using ea,hat,eb
  have lf:=W.few
  simp only [List.length_cons] at lv lf
  refine ⟨by omega,?_⟩
  have T1:=aK.eO (ys:=vs++[V.ref p]) eb
  have i1:upd H lb (.lst (vs++[.ref p])) wk=some (.ins t.CWalk wx [("blocks",.ref lb),("numbers",.ref ln)]):=by rw [aI n2];exact W.ins
  have i2:upd H lb (.lst (vs++[.ref p])) ln=some (.lst ((bV ((k,b,n)::r)).map V.int)):=by rw [aI W.ne.symm];exact W.nu
  have i3:upd H lb (.lst (vs++[.ref p])) lb=some (.lst (vs++[.ref p])):=aA
  have K1:Kp [lb] H (upd H lb (.lst (vs++[.ref p]))):=Kp.set1J
  have B1:=hB.kp T1
  have U1:=hU.kp T1
  have p1:=T1 _ _ ep
  generalize upd H lb (.lst (vs++[.ref p]))=G at *
  wp_walk using i1,i2
  refine fun l0 f0=>?_
  have N0:=Kp.new (S:=[]) (o:=.lst [.int c,.int 0]) f0
  wp_walk using N0.at i2,List.length_map
  have ll:=wT ((k,b,n)::r)
  simp only [List.length_cons] at ll
  refine ⟨by omega,?_⟩
  have nl0:ln≠l0:=aL i2 f0
  have nb0:lb≠l0:=aL i3 f0
  have nw0:wk≠l0:=aL i1 f0
  have T2:aK G (upd (upd G l0 (.lst [.int c,.int 0])) ln (.lst ((bV ((k,b,n)::r)).map V.int++[.int c,.int 0]))):=(aK.nil N0).tr (aK.eO (N0.at i2))
  refine q _ ⟨by rw [aI n1,aI nw0];exact i1,⟨_,by rw [aI W.ne,aI nb0];exact i3,.cons (B1.kp T2) (T2 _ _ p1) (U1.kp T2)⟩,by rw [aA,oE];simp,W.ne,by simp only [List.length_cons];omega⟩ ?_
  intro d o ed nd
  simp only [List.mem_cons,List.not_mem_nil,or_false,not_or] at nd
  have g1:=K1.at1 ed nd.1
  rw [aI nd.2,aI (aL g1 f0)]
  exact g1
theorem zU {t:Ad} (T:Tx w K mg t):bG P w K mg base CX0 11 t.aRunlook t.dRunlook ["self","statement"] (spLookR ⟨t.CRun,t.CWalk,t.CTickets⟩ true):=by
 refine T.fRunlook.ok y9 (fun vs H Q E h=>?_) (fun cdv A outer s H vs Q E hr h=>?_)
 ·obtain ⟨R,as,sl,S,a,m,N,rfl,_⟩:=h
  rfl
 ·obtain ⟨R,as,sl,S,a,m,N,rfl,A,hs,hB,F,g,hst,q⟩:=h
  refine ⟨_,(aJ (bH (aQ uM (bK (pv 0) T.clRun T.meRunworth (dB T) (hr.mono (by omega)) T.bRunworth .nil pass0 (aE (aX bL (pv 1) aD (fun _ _=>rfl)) aB)) (bB (aE eV (aE aD aB))) (by with_unfolding_all rfl)) (aJ (bQ (bK (aM T.clRun T.nawalk (pv 0)) T.clWalk T.meWalkenter (nK T) (hr.mono (by omega)) T.bWalkenter .nil pass0 (aE aD aB)))) (aJ (bH (aQ cD (aX bL (pv 1) aD (fun _ _=>rfl)) aP (nomark _)) (aJ (bQ (bK (aM T.clRun T.nawalk (pv 0)) T.clWalk T.meWalkenter (nK T) (hr.mono (by omega)) T.bWalkenter .nil pass0 (aE aD aB)))) (aJ (bQ (bT (aM T.clRun T.nawalk (pv 0)) T.clWalk T.meWalkpassby (gK T) (hr.mono (by omega)) T.bWalkpassby .nil pass0))))))),?_⟩
  try dsimp only [L2.start,aY,bD,List.cons_append,List.nil_append,List.replicate_succ,List.replicate_zero,List.length_cons,List.length_nil,Nat.reduceAdd,Nat.reduceSub,Nat.zero_add]
  obtain ⟨k0,b0,n0,r0,est,hm0⟩:=fB hst
  have d0:=F.sk.dp
  rw [est] at d0
  have hr90:r0.length≤90:=by have:=d0.1;omega
  have enter:∀(G:Hp) (_:aW ⟨t.CRun,t.CWalk,t.CTickets⟩ G R as sl S) (_:Fw R as as H G) (c:Nat) (bb:List Stm),m.sub c=some bb→(∀ H',aW ⟨t.CRun,t.CWalk,t.CTickets⟩ H' R as sl (S.enter c bb)→Fw R as as H H'→Q .non H')→uC t.CWalk [.ref R.wk,.int (c:Int)] G (fun _ H1=>Q .non H1) E0:=fun G A FG c bb hsub q=>by
   have W:=A.wk
   rw [est] at W
   refine ⟨R.wk,R.wx,R.lb,R.ln,k0,n0,c,b0,bb,r0,m,rfl,W,hm0,hsub,hr90,fun H1 W1 K1=>?_⟩
   rw [← est] at W1
   exact q H1 (A.walk W1 K1) (FG.trans (A.fwalk W1 K1))
  have pass:∀(G:Hp) (_:aW ⟨t.CRun,t.CWalk,t.CTickets⟩ G R as sl S) (_:Fw R as as H G),(∀ H',aW ⟨t.CRun,t.CWalk,t.CTickets⟩ H' R as sl S.pass→Fw R as as H H'→Q .non H')→rC t.CWalk [.ref R.wk] G (fun _ H1=>Q .non H1) E0:=fun G A FG q=>by
   have W:=A.wk
   rw [est] at W
   refine ⟨R.wk,R.wx,R.lb,R.ln,k0,n0,b0,r0,rfl,W,fun H1 W1 K1=>?_⟩
   have e:(k0,b0,n0+1)::r0=gQ S.stk:=by rw [est];rfl
   rw [e] at W1
   exact q H1 (A.walk W1 (K1.mono (by simp))) (FG.trans (A.fwalk W1 (K1.mono (by simp))))
  cases hs with
  | @whl a p v s vs b e1 h1 e2 h2 =>
   simp only [qX] at q
   wp_walk using A.ins,e1
   refine ⟨R,as,sl,S,v,s,rfl,A,F.pl,h1,g.1,?_⟩
   wp_walk using A.ins,A.wk.ins,e1
   refine fun p0 h0=>⟨aa4 _,flat01,?_⟩
   rw [tU]
   have N0:=Kp.new (S:=[]) (o:=.tup [.non,.int 0]) h0
   have A0:=A.kp N0
   have e0:=N0.at e1
   have F0:=Fw.of (R:=R) (as:=as) N0
   generalize upd H p0 (.tup [.non,.int 0])=G0 at *
   by_cases hw:num (S.worth s)=0
   ·rw [if_pos hw] at q
    rw [decide_eq_true hw]
    wp_walk using A0.ins,A0.wk.ins,e0
    exact pass G0 A0 F0 q
   ·rw [if_neg hw] at q
    rw [decide_eq_false hw]
    wp_walk using A0.ins,A0.wk.ins,e0
    exact enter G0 A0 F0 0 b rfl q
  | @iff a p p2 v s vs us b o e1 h1 e2 h2 e3 h3 =>
   simp only [qX] at q
   wp_walk using A.ins,e1
   refine ⟨R,as,sl,S,v,s,rfl,A,F.pl,h1,g.1,?_⟩
   wp_walk using A.ins,A.wk.ins,e1
   refine fun p0 h0=>⟨aa4 _,flat01,?_⟩
   rw [tU]
   have N0:=Kp.new (S:=[]) (o:=.tup [.non,.int 0]) h0
   have A0:=A.kp N0
   have e0:=N0.at e1
   have F0:=Fw.of (R:=R) (as:=as) N0
   generalize upd H p0 (.tup [.non,.int 0])=G0 at *
   by_cases hw:num (S.worth s)=0
   ·rw [if_pos hw] at q
    rw [decide_eq_true hw]
    wp_walk using A0.ins,A0.wk.ins,e0
    exact enter G0 A0 F0 1 o rfl q
   ·rw [if_neg hw] at q
    rw [decide_eq_false hw]
    wp_walk using A0.ins,A0.wk.ins,e0
    exact enter G0 A0 F0 0 b rfl q
  | _=>cases hB
theorem ok_doset {t:Ad} (T:Tx w K mg t):bG P w K mg base CX0 11 t.adoset t.ddoset ["run","statement"] (cY ⟨t.CRun,t.CWalk,t.CTickets⟩ true (fun m=>∃ x s,m=.set x s)):=by
 refine T.fdoset.ok sc_doset (fun vs H Q E h=>?_) (fun cdv A outer s H vs Q E hr h=>?_)
 ·obtain ⟨R,as,sl,S,a,m,N,rfl,_⟩:=h
  rfl
 ·obtain ⟨R,as,sl,S,a,m,N,rfl,A,hsl,hs,⟨x,s,rfl⟩,F,g,hN,q⟩:=h
  have hu:=kX hr
  refine ⟨_,(aC (kA hu (aM T.clRun T.nanames (pv 0)) (aX bL (pv 1) aD (fun _ _=>rfl)) (bK (pv 0) T.clRun T.meRunworth (dB T) (hr.mono (by omega)) T.bRunworth .nil pass0 (aE (aX bL (pv 1) aD (fun _ _=>rfl)) aB)))
   (aJ (aN (bN aB)))),?_⟩
  try dsimp only [L2.start,aY,bD,List.cons_append,List.nil_append,List.replicate_succ,List.replicate_zero,List.length_cons,List.length_nil,Nat.reduceAdd,Nat.reduceSub,Nat.zero_add]
  cases hs with
  | @set a x v s e1 h1 =>
   have l1:(j5 S.nm).length≤N:=by rw [j5,List.length_map];exact F.nm
   refine aG fun R1 hR1=>?_
   wp_walk using A.ins,e1
   refine ⟨R,as,sl,S,v,s,rfl,A,F.pl,h1,g,?_⟩
   wp_walk using A.ins,e1,A.nm,kI
   refine ⟨by omega,?_⟩
   have A1:=A.name x (S.worth s)
   have F1:=Fw.set (R:=R) (as:=as) (H:=H) (o:=.dK (j5 (dA S.nm x (S.worth s)))) (p:=R.nm) (.inl (by simp [Rn.cells]))
   generalize upd H R.nm (.dK (j5 (dA S.nm x (S.worth s))))=G1 at *
   refine hR1 _ _ ?_
   clear hR1
   clear R1
   wp_walk
   refine fun c hc=>?_
   have N4:=Kp.new (S:=[]) (o:=.lst []) hc
   exact q _ c [] _ (A1.kp N4) (F1.free hc) aA .nil (F1.trans (Fw.of N4))
theorem r9 {t:Ad} (T:Tx w K mg t):bG P w K mg base CX0 1 t.aTicketsmake t.dTicketsmake ["self"] (spTkMake t.CTickets):=by
 refine T.fTicketsmake.ok lD (fun vs H Q E h=>?_) (fun cdv A outer s H vs Q E hr h=>?_)
 ·obtain ⟨tk,tx,dp,da,made,pend,ans,rfl,_⟩:=h
  rfl
 ·obtain ⟨tk,tx,dp,da,made,pend,ans,rfl,R,hm,hl,q⟩:=h
  have hu:=kX hr
  refine ⟨_,(aC (bA (i:=1) lD.nd rfl (Or.inl rfl) (aM T.clTickets T.namade (pv 0)))
   (aC (ps_augF T.clTickets T.namade (pv 0) aD)
   (aC (kA hu (aM T.clTickets T.napending (pv 0)) (pv 1) nS)
   (aJ (aN (pv 1)))))),?_⟩
  try dsimp only [L2.start,aY,bD,List.cons_append,List.nil_append,List.replicate_succ,List.replicate_zero,List.length_cons,List.length_nil,Nat.reduceAdd,Nat.reduceSub,Nat.zero_add]
  wp_walk using R.ins
  have n1:=R.n1
  have nk:(made:Int)∉pend:=fun z=>by have:=R.lt _ z;omega
  wp_walk using aI n1.1.symm,R.hp,rW (.bl true) (abK nk)
  refine ⟨by simp only [iO,List.length_map];omega,?_⟩
  refine q _ ⟨by rw [aI n1.1];exact aA,by rw [aA];simp [iO],by rw [aI R.nda.symm,aI n1.2.symm];exact R.ha,R.nda,fun i hi=>?_,?_,fun p hp=>?_,fun p hp z=>?_,by omega⟩ ?_
  ·rcases List.mem_append.mp hi with hi | hi
   ·have:=R.lt i hi
    omega
   ·rw [show i=(made:Int) by simpa using hi]
    omega
  ·refine List.pairwise_append.mpr ⟨R.asc,by simp,fun i hi j hj=>?_⟩
   rw [show j=(made:Int) by simpa using hj]
   exact (R.lt i hi).2
  ·have:=R.la p hp
   omega
  ·rcases List.mem_append.mp z with z | z
   ·exact R.dis p hp z
   ·have:=R.la p hp
    rw [show p.1=(made:Int) by simpa using z] at this
    omega
  ·intro b o eb nb
   simp only [List.mem_cons,List.not_mem_nil,or_false,not_or] at nb
   rw [aI nb.2,aI nb.1]
   exact eb
theorem kM {t:Ad} (T:Tx w K mg t):bG P w K mg base CX0 2 t.aRunnewticket t.dRunnewticket ["self","name"] (spNewT ⟨t.CRun,t.CWalk,t.CTickets⟩):=by
 refine T.fRunnewticket.ok kK (fun vs H Q E h=>?_) (fun cdv A outer s H vs Q E hr h=>?_)
 ·obtain ⟨R,as,sl,S,n,rfl,_⟩:=h
  rfl
 ·obtain ⟨R,as,sl,S,n,rfl,A,b1,b2,b3,q⟩:=h
  have hu:=kX hr
  refine ⟨_,(aC (bA (i:=2) kK.nd rfl (Or.inl rfl) (bT (aM T.clRun T.natickets (pv 0)) T.clTickets T.meTicketsmake (r9 T) (hr.mono (by omega)) T.bTicketsmake .nil pass0))
   (aC (kA hu (aM T.clRun T.nanames (pv 0)) (pv 1) (pv 2))
   (aJ (aN (pv 2))))),?_⟩
  try dsimp only [L2.start,aY,bD,List.cons_append,List.nil_append,List.replicate_succ,List.replicate_zero,List.length_cons,List.length_nil,Nat.reduceAdd,Nat.reduceSub,Nat.zero_add]
  refine aG fun R1 hR1=>?_
  wp_walk using A.ins,A.tk.ins
  refine ⟨R.tk,R.tx,R.dp,R.da,S.made,S.pend,S.ans,rfl,A.tk,b1,b2,fun H1 T1 K1=>?_⟩
  have K2:Kp [R.tk,R.dp,R.da] H H1:=K1.mono (by simp;try omega)
  have A1:=A.tick T1 K2
  have F1:=A.ftick T1 K2
  wp_walk
  refine hR1 _ _ ?_
  clear hR1
  clear R1
  refine aG fun R2 hR2=>?_
  have ep:d9 (j5 S.nm) (.inr n) (.int (S.made:Int))=j5 (dA S.nm n (some (S.made:Int))):=kI S.nm n (some (S.made:Int))
  have l1:(j5 S.nm).length≤1000000:=by rw [j5,List.length_map];exact b3
  wp_walk using A1.ins,A1.nm,ep
  refine ⟨by omega,?_⟩
  have A2:=A1.name n (some (S.made:Int))
  have F2:=F1.trans (Fw.set (R:=R) (as:=as) (H:=H1) (o:=.dK (j5 (dA S.nm n (some (S.made:Int))))) (p:=R.nm) (.inl (by simp [Rn.cells])))
  generalize upd H1 R.nm (.dK (j5 (dA S.nm n (some (S.made:Int)))))=G2 at *
  refine hR2 _ _ ?_
  clear hR2
  clear R2
  wp_walk
  exact q G2 A2 F2
theorem rN {t:Ad} (T:Tx w K mg t):bG P w K mg base CX0 11 t.adoorder t.ddoorder ["run","statement"] (cY ⟨t.CRun,t.CWalk,t.CTickets⟩ true (fun m=>∃ x y s,m=.order x y s∨m=.child x y s)):=by
 refine T.fdoorder.ok mV (fun vs H Q E h=>?_) (fun cdv A outer s H vs Q E hr h=>?_)
 ·obtain ⟨R,as,sl,S,a,m,N,rfl,_⟩:=h
  rfl
 ·obtain ⟨R,as,sl,S,a,m,N,rfl,A,hsl,hs,⟨x,y,s,hm⟩,F,g,hN,q⟩:=h
  refine ⟨_,(aC (bA (i:=2) mV.nd rfl (Or.inl rfl) (bK (pv 0) T.clRun T.meRunworth (dB T) (hr.mono (by omega)) T.bRunworth .nil pass0 (aE (aX bL (pv 1) aD (fun _ _=>rfl)) aB)))
   (aC (bA (i:=3) mV.nd rfl (Or.inl rfl) (bK (pv 0) T.clRun T.meRunnewticket (kM T) (hr.mono (by omega)) T.bRunnewticket .nil pass0 (aE (aX bL (pv 1) aD (fun _ _=>rfl)) aB)))
   (aJ (aN (bN (aE (bB (aE (aX bL (pv 1) aD (fun _ _=>rfl)) (aE (pv 3) (aE (aX bL (pv 1) aD (fun _ _=>rfl)) (aE (pv 2) aB))))) aB)))))),?_⟩
  try dsimp only [L2.start,aY,bD,List.cons_append,List.nil_append,List.replicate_succ,List.replicate_zero,List.length_cons,List.length_nil,Nat.reduceAdd,Nat.reduceSub,Nat.zero_add]
  rcases hm with rfl | rfl
  ·cases hs with
   | @order a x y v s e1 h1 =>
    refine aG fun R1 hR1=>?_
    wp_walk using A.ins,e1
    refine ⟨R,as,sl,S,v,s,rfl,A,F.pl,h1,g,?_⟩
    wp_walk
    refine hR1 _ _ ?_
    clear hR1
    clear R1
    refine aG fun R2 hR2=>?_
    wp_walk using A.ins,e1
    refine ⟨R,as,sl,S,x,rfl,A,by have:=F.md;omega,by have:=F.pd;omega,by have:=F.nm;omega,fun H1 A1 F1=>?_⟩
    have e2:=A.tkp F1 _ _ e1
    wp_walk
    refine hR2 _ _ ?_
    clear hR2
    clear R2
    wp_walk using e2
    refine fun p3 h3 c h4=>?_
    have N3:=(Kp.new (S:=[]) (o:=.tup [.str "order",.int S.made,.str y,wv (S.worth s)]) h3).trans (Kp.new (o:=.lst [.ref p3]) h4)
    exact q _ c [.ref p3] _ (A1.kp N3) (F1.free (cK h4)) aA (.cons ((Kp.new (S:=[]) h4).at aA) .nil) (F1.trans (Fw.of N3))
  ·cases hs with
   | @child a x y v s e1 h1 =>
    refine aG fun R1 hR1=>?_
    wp_walk using A.ins,e1
    refine ⟨R,as,sl,S,v,s,rfl,A,F.pl,h1,g,?_⟩
    wp_walk
    refine hR1 _ _ ?_
    clear hR1
    clear R1
    refine aG fun R2 hR2=>?_
    wp_walk using A.ins,e1
    refine ⟨R,as,sl,S,x,rfl,A,by have:=F.md;omega,by have:=F.pd;omega,by have:=F.nm;omega,fun H1 A1 F1=>?_⟩
    have e2:=A.tkp F1 _ _ e1
    wp_walk
    refine hR2 _ _ ?_
    clear hR2
    clear R2
    wp_walk using e2
    refine fun p3 h3 c h4=>?_
    have N3:=(Kp.new (S:=[]) (o:=.tup [.str "child",.int S.made,.str y,wv (S.worth s)]) h3).trans (Kp.new (o:=.lst [.ref p3]) h4)
    exact q _ c [.ref p3] _ (A1.kp N3) (F1.free (cK h4)) aA (.cons ((Kp.new (S:=[]) h4).at aA) .nil) (F1.trans (Fw.of N3))
theorem yL {t:Ad} (T:Tx w K mg t):bG P w K mg base CX0 11 t.adotimer t.ddotimer ["run","statement"] (cY ⟨t.CRun,t.CWalk,t.CTickets⟩ true (fun m=>∃ x s,m=.timer x s)):=by
 refine T.fdotimer.ok j8 (fun vs H Q E h=>?_) (fun cdv A outer s H vs Q E hr h=>?_)
 ·obtain ⟨R,as,sl,S,a,m,N,rfl,_⟩:=h
  rfl
 ·obtain ⟨R,as,sl,S,a,m,N,rfl,A,hsl,hs,⟨x,s,rfl⟩,F,g,hN,q⟩:=h
  refine ⟨_,(aC (bA (i:=2) j8.nd rfl (Or.inl rfl) (bK (pv 0) T.clRun T.meRunworth (dB T) (hr.mono (by omega)) T.bRunworth .nil pass0 (aE (aX bL (pv 1) aD (fun _ _=>rfl)) aB)))
   (aC (bA (i:=3) j8.nd rfl (Or.inl rfl) (bU (uV rfl) rfl T.zmin bt_min (aE (nJ (v:=.int 1000000000000) rfl T.cGREATESTMOMENT ⟨_,rfl⟩) (aE (nH (aQ mW (pv 2) eV (nomark _)) (aM T.clRun T.nanow (pv 0)) (bF eM (aM T.clRun T.nanow (pv 0)) (bU (oO rfl) rfl T.zmax yS (aE aD (aE (pv 2) aB))))) aB))))
   (aC (bA (i:=4) j8.nd rfl (Or.inl rfl) (bK (pv 0) T.clRun T.meRunnewticket (kM T) (hr.mono (by omega)) T.bRunnewticket .nil pass0 (aE (aX bL (pv 1) aD (fun _ _=>rfl)) aB)))
   (aJ (aN (bN (aE (bB (aE aP (aE (pv 4) (aE (pv 3) aB)))) aB))))))),?_⟩
  try dsimp only [L2.start,aY,bD,List.cons_append,List.nil_append,List.replicate_succ,List.replicate_zero,List.length_cons,List.length_nil,Nat.reduceAdd,Nat.reduceSub,Nat.zero_add]
  cases hs with
  | @timer a x v s e1 h1 =>
   refine aG fun R1 hR1=>?_
   wp_walk using A.ins,e1
   refine ⟨R,as,sl,S,v,s,rfl,A,F.pl,h1,g,?_⟩
   wp_walk
   refine hR1 _ _ ?_
   clear hR1
   clear R1
   refine aG fun R2 hR2=>?_
   wp_walk using A.ins,yM
   have rest:R2 [some (V.ref R.x),some (V.ref a),some (wv (S.worth s)),some (V.int (dueOf S.nw (S.worth s))),none] H:=by
    refine hR2 _ _ ?_
    refine aG fun R3 hR3=>?_
    wp_walk using A.ins,e1
    refine ⟨R,as,sl,S,x,rfl,A,by have:=F.md;omega,by have:=F.pd;omega,by have:=F.nm;omega,fun H1 A1 F1=>?_⟩
    wp_walk
    refine hR3 _ _ ?_
    clear hR3
    clear R3
    wp_walk
    refine fun p3 h3 c h4=>?_
    have N3:=(Kp.new (S:=[]) (o:=.tup [.str "timer",.int S.made,.int (dueOf S.nw (S.worth s))]) h3).trans (Kp.new (o:=.lst [.ref p3]) h4)
    exact q _ c [.ref p3] _ (A1.kp N3) (F1.free (cK h4)) aA (.cons ((Kp.new (S:=[]) h4).at aA) .nil) (F1.trans (Fw.of N3))
   cases hw:S.worth s with
   | none =>
    rw [hw] at rest
    rw [if_pos rfl]
    exact rest
   | some z =>
    rw [hw] at rest
    rw [if_neg (by simp)]
    wp_walk using wv
    exact rest
theorem ok_dosend {t:Ad} (T:Tx w K mg t):bG P w K mg base CX0 11 t.adosend t.ddosend ["run","statement"] (cY ⟨t.CRun,t.CWalk,t.CTickets⟩ true (fun m=>∃ s k r,m=.send s k r)):=by
 refine T.fdosend.ok sc_dosend (fun vs H Q E h=>?_) (fun cdv A outer s H vs Q E hr h=>?_)
 ·obtain ⟨R,as,sl,S,a,m,N,rfl,_⟩:=h
  rfl
 ·obtain ⟨R,as,sl,S,a,m,N,rfl,A,hsl,hs,⟨s,k,r,rfl⟩,F,g,hN,q⟩:=h
  refine ⟨_,(aJ (aN (bN (aE (bB (aE aP (aE (bK (pv 0) T.clRun T.meRunworth (dB T) (hr.mono (by omega)) T.bRunworth .nil pass0 (aE (aX bL (pv 1) aD (fun _ _=>rfl)) aB)) (aE (aX bL (pv 1) aD (fun _ _=>rfl)) (aE (bK (pv 0) T.clRun T.meRunworth (dB T) (hr.mono (by omega)) T.bRunworth .nil pass0 (aE (aX bL (pv 1) aD (fun _ _=>rfl)) aB)) aB))))) aB)))),?_⟩
  try dsimp only [L2.start,aY,bD,List.cons_append,List.nil_append,List.replicate_succ,List.replicate_zero,List.length_cons,List.length_nil,Nat.reduceAdd,Nat.reduceSub,Nat.zero_add]
  cases hs with
  | @send a k v u s r e1 h1 h2 =>
   wp_walk using A.ins,e1
   refine ⟨R,as,sl,S,v,s,rfl,A,F.pl,h1,g.1,?_⟩
   wp_walk using A.ins,e1
   refine ⟨R,as,sl,S,u,r,rfl,A,F.pl,h2,g.2,?_⟩
   wp_walk
   have F1:Fw R as as H H:=Fw.refl
   refine fun p3 h3 c h4=>?_
   have N3:=(Kp.new (S:=[]) (o:=.tup [.str "send",wv (S.worth s),.str k,wv (S.worth r)]) h3).trans (Kp.new (o:=.lst [.ref p3]) h4)
   exact q _ c [.ref p3] _ (A.kp N3) (F1.free (cK h4)) aA (.cons ((Kp.new (S:=[]) h4).at aA) .nil) (F1.trans (Fw.of N3))
theorem lM {t:Ad} (T:Tx w K mg t):bG P w K mg base CX0 1 t.aTicketsshut t.dTicketsshut ["self","ticket"] (spTkShut t.CTickets):=by
 refine T.fTicketsshut.ok sD (fun vs H Q E h=>?_) (fun cdv A outer s H vs Q E hr h=>?_)
 ·obtain ⟨tk,tx,dp,da,made,pend,ans,i,rfl,_⟩:=h
  rfl
 ·obtain ⟨tk,tx,dp,da,made,pend,ans,i,rfl,R,hi,q⟩:=h
  refine ⟨_,(aJ (bQ (pe_dpopC (aM T.clTickets T.napending (pv 0)) (pv 1) ⟨rfl,rfl,rfl,rfl⟩))),?_⟩
  try dsimp only [L2.start,aY,bD,List.cons_append,List.nil_append,List.replicate_succ,List.replicate_zero,List.length_cons,List.length_nil,Nat.reduceAdd,Nat.reduceSub,Nat.zero_add]
  obtain ⟨v,hv⟩:=abS hi
  wp_walk using R.ins,R.hp,hv,abP
  have n1:=R.n1
  exact q _ ⟨by rw [aI n1.1];exact R.ins,aA,by rw [aI R.nda.symm];exact R.ha,R.nda,fun j hj=>R.lt j ((List.mem_filter.mp hj).1),R.asc.filter _,R.la,fun p hp z=>R.dis p hp ((List.mem_filter.mp z).1),R.small⟩ Kp.set1J
theorem abY {t:Ad} (T:Tx w K mg t):bG P w K mg base CX0 11 t.adodrop t.ddodrop ["run","statement"] (cY ⟨t.CRun,t.CWalk,t.CTickets⟩ true (fun m=>∃ s,m=.drop s)):=by
 refine T.fdodrop.ok uE (fun vs H Q E h=>?_) (fun cdv A outer s H vs Q E hr h=>?_)
 ·obtain ⟨R,as,sl,S,a,m,N,rfl,_⟩:=h
  rfl
 ·obtain ⟨R,as,sl,S,a,m,N,rfl,A,hsl,hs,⟨s,rfl⟩,F,g,hN,q⟩:=h
  refine ⟨_,(aC (bA (i:=2) uE.nd rfl (Or.inl rfl) (bK (pv 0) T.clRun T.meRunworth (dB T) (hr.mono (by omega)) T.bRunworth .nil pass0 (aE (aX bL (pv 1) aD (fun _ _=>rfl)) aB)))
   (aC (bH (vV (mX (bK (aM T.clRun T.natickets (pv 0)) T.clTickets T.meTicketsisopen (gB T) (hr.mono (by omega)) T.bTicketsisopen .nil pass0 (aE (pv 2) aB)))) (aJ (aN (bN aB))) aV)
   (aC (bQ (bK (aM T.clRun T.natickets (pv 0)) T.clTickets T.meTicketsshut (lM T) (hr.mono (by omega)) T.bTicketsshut .nil pass0 (aE (pv 2) aB)))
   (aJ (aN (bN (aE (bB (aE aP (aE (pv 2) aB))) aB))))))),?_⟩
  try dsimp only [L2.start,aY,bD,List.cons_append,List.nil_append,List.replicate_succ,List.replicate_zero,List.length_cons,List.length_nil,Nat.reduceAdd,Nat.reduceSub,Nat.zero_add]
  cases hs with
  | @drop a v s e1 h1 =>
   refine aG fun R1 hR1=>?_
   wp_walk using A.ins,e1
   refine ⟨R,as,sl,S,v,s,rfl,A,F.pl,h1,g,?_⟩
   wp_walk
   refine hR1 _ _ ?_
   clear hR1
   clear R1
   refine aG fun R2 hR2=>?_
   wp_walk using A.ins,A.tk.ins
   refine ⟨R.tk,R.tx,R.dp,R.da,_,_,_,S.worth s,rfl,A.tk,?_⟩
   by_cases hp:∃ i,i∈S.pend∧S.worth s=some i
   ·rw [decide_eq_true hp]
    obtain ⟨i,hi,hw⟩:=hp
    have hwv:wv (S.worth s)=.int i:=by rw [hw];rfl
    have hd:deed S (.drop s)=({S with pend:=S.pend.filter fun j=>decide (j≠i)},[[.str "drop",.int i]]):=by simp only [deed,hw,if_pos hi]
    rw [hd] at q
    wp_walk
    refine hR2 _ _ ?_
    clear hR2
    clear R2
    refine aG fun R3 hR3=>?_
    wp_walk using A.ins,A.tk.ins,hwv
    refine ⟨R.tk,R.tx,R.dp,R.da,_,_,_,i,rfl,A.tk,hi,fun H3 T3 K3=>?_⟩
    have K4:Kp [R.tk,R.dp,R.da] H H3:=K3.mono (by simp;try omega)
    have A3:=A.tick T3 K4
    have F3:=A.ftick T3 K4
    wp_walk
    refine hR3 _ _ ?_
    clear hR3
    clear R3
    wp_walk
    refine fun p3 h3 c h4=>?_
    have N3:=(Kp.new (S:=[]) (o:=.tup [.str "drop",.int i]) h3).trans (Kp.new (o:=.lst [.ref p3]) h4)
    exact q _ c [.ref p3] _ (A3.kp N3) (F3.free (cK h4)) aA (.cons ((Kp.new (S:=[]) h4).at aA) .nil) (F3.trans (Fw.of N3))
   ·rw [decide_eq_false hp]
    have hd:deed S (.drop s)=(S,[]):=by
     cases hw:S.worth s with
     | none=>simp only [deed,hw]
     | some i=>simp only [deed,hw,if_neg (show ¬ i∈S.pend from fun z=>hp ⟨i,z,hw⟩)]
    rw [hd] at q
    wp_walk
    have F1:Fw R as as H H:=Fw.refl
    refine fun c hc=>?_
    have N4:=Kp.new (S:=[]) (o:=.lst []) hc
    exact q _ c [] _ (A.kp N4) (F1.free hc) aA .nil (F1.trans (Fw.of N4))
theorem mM {t:Ad} (T:Tx w K mg t):bG P w K mg base CX0 1 t.aTicketsfirstdone t.dTicketsfirstdone ["self","worths"] (abT t.CTickets):=by
 refine T.fTicketsfirstdone.ok gU (fun vs H Q E h=>?_) (fun cdv A outer s H vs Q E hr h=>?_)
 ·obtain ⟨tk,tx,dp,da,l,made,pend,ans,ws,rfl,_⟩:=h
  rfl
 ·obtain ⟨tk,tx,dp,da,l,made,pend,ans,ws,rfl,A,el,h4,ha,q⟩:=h
  have hu:=kX hr
  refine ⟨_,(aC (bA (i:=2) gU.nd rfl (Or.inr rfl) (u1 (fr:=[0]) (N:=["worth","self"]) rfl (fun _ _ h=>h) (dW.free rfl rfl rfl rfl rfl (fun _ _ h=>look1 rfl h) rfl (by decide) rfl (fun j hj=>by rw [show j=0 by simpa using hj];exact ⟨_,rfl,rfl,.inl rfl⟩)) (fS (pv 1)) (fun C s H ex pn=>⟨nO (pt_cmp (aa9 hu (pv 0) (aM T.clTickets T.naanswers (pv 1)))),(pv 0)⟩)))
   (aC (bH (aQ mP (bU aaB rfl T.zlen jL (aE (cI (uL rfl) rfl T.zset bt_set (aE (pv 2) aB)) aB)) aD (nomark _)) (aJ (aN (nH (qB (pv 2) (fun _=>rfl)) (aX bL (pv 2) aD (fun _ _=>rfl)) eV))) aV)
   (aJ (ps_thaw (aN (aX bL (u1 (fr:=[2]) (N:=["ticket","tickets"]) rfl (fun _ _ h=>h) (dW.free rfl rfl rfl rfl rfl (fun _ _ h=>look1 rfl h) rfl (by decide) rfl (fun j hj=>by rw [show j=2 by simpa using hj];exact ⟨_,rfl,rfl,.inl rfl⟩)) (pi_dict (aM T.clTickets T.naanswers (pv 0))) (fun C s H ex pn=>⟨nO (aQ zK (pv 0) (pv 1) (by with_unfolding_all rfl)),(pv 0)⟩)) aD (fun _ _=>rfl))))))),?_⟩
  try dsimp only [L2.start,aY,bD,List.cons_append,List.nil_append,List.replicate_succ,List.replicate_zero,List.length_cons,List.length_nil,Nat.reduceAdd,Nat.reduceSub,Nat.zero_add]
  refine aG fun R1 hR1=>?_
  wp_walk using el
  refine ⟨⟨_,eA.of el⟩,?_⟩
  obtain ⟨Pv,hPv⟩:∃ Pv:Nat→List V→Hp→Prop,∀ i xs G,Pv i xs G=(G=H∧xs=(bP ans (ws.take i)).map V.int):=⟨_,fun _ _ _=>rfl⟩
  refine iZ (ys:=ws.map wv) Pv ?_ ?_ ?_ ?_ ?_
  ·rw [hPv];exact ⟨rfl,rfl⟩
  ·intro i xs G h
   rw [hPv] at h
   rw [h.2,List.length_map]
   have:=mE ans (ws.take i)
   have:(ws.take i).length≤ws.length:=by rw [List.length_take];omega
   omega
  ·intro i xs G h
   rw [hPv] at h
   rw [h.1]
   exact eA.of el
  ·intro i y xs G hi ey h
   rw [hPv] at h
   obtain ⟨rfl,rfl⟩:=h
   obtain ⟨w0,ew,rfl⟩:∃ w0,ws[i]?=some w0∧y=wv w0:=by
    rw [List.getElem?_map] at ey
    obtain ⟨w0,a,b⟩:=Option.map_eq_some_iff.mp ey
    exact ⟨w0,a,b.symm⟩
   wp_walk using bM,Option.join_some,A.ins,A.ha,ans_val
   rw [hPv,hPv,zY ew]
   split
   ·exact ⟨rfl,rfl⟩
   ·exact ⟨rfl,rfl⟩
  intro xs G h p hp
  rw [hPv] at h
  obtain ⟨rfl,rfl⟩:=h
  rw [show ws.take (ws.map wv).length=ws by rw [List.length_map,List.take_length]]
  refine hR1 _ _ ?_
  clear hR1
  clear R1
  wp_walk using aA
  refine ⟨bP ans ws,rfl,Nat.le_trans (mE ans ws) h4,fun c hc=>⟨_,rfl,?_⟩⟩
  have n1:p≠c:=aL aA hc
  have K2:∀ o,Kp [] G (upd (upd G p (.lst ((bP ans ws).map V.int))) c o):=fun o=>(Kp.new hp).trans (Kp.new hc)
  have e2:∀ o,upd (upd G p (.lst ((bP ans ws).map V.int))) c o p=some (.lst ((bP ans ws).map V.int)):=fun o=>by rw [aI n1,aA]
  generalize hG2:upd (upd G p (.lst ((bP ans ws).map V.int))) c _=G2
  replace K2:Kp [] G G2:=hG2 ▸ K2 _
  replace e2:G2 p=some (.lst ((bP ans ws).map V.int)):=hG2 ▸ e2 _
  clear hG2
  have A2:=A.kp K2
  have qq:=q G2 K2
  by_cases hl:(kO (bP ans ws)).length < 2
  ·rw [if_pos (by omega)]
   rw [first_one hl] at qq
   cases ed:bP ans ws with
   | nil =>
    rw [ed] at e2 qq
    wp_walk using e2
    rw [if_neg (by simp)]
    exact qq
   | cons i r =>
    rw [ed] at e2 qq
    wp_walk using e2
    rw [if_pos (by simp)]
    exact qq
  rw [if_neg (by omega)]
  obtain ⟨i,r,ef,fo⟩:=yX hl
  rw [fo] at qq
  wp_walk using A2.ins,A2.ha,e2
  refine fun o=>?_
  have npd:p≠da:=fun z=>by
   rw [z,A2.ha] at e2
   cases e2
  generalize hG3:upd G2 da (.frz o (.dK (iU ans)))=G3
  have e3:G3 p=some (.lst ((bP ans ws).map V.int)):=by rw [← hG3,aI npd];exact e2
  have d3:G3 da=some (.frz o (.dK (iU ans))):=by rw [← hG3];exact aA
  obtain ⟨Pw,hPw⟩:∃ Pw:Nat→List V→Hp→Prop,∀ i xs G',Pw i xs G'=(G'=G3∧xs=(((ans.map (·.1)).take i).filter fun i=>decide (i∈bP ans ws)).map V.int):=⟨_,fun _ _ _=>rfl⟩
  refine lc_dict Pw ?_ ?_ ?_ ?_ ?_
  ·rw [hPw];exact ⟨rfl,rfl⟩
  ·intro j xs G' h
   rw [hPw] at h
   rw [h.2,List.length_map]
   have h1:=List.length_filter_le (fun i=>decide (i∈bP ans ws)) ((ans.map (·.1)).take j)
   have h2:((ans.map (·.1)).take j).length≤ans.length:=by rw [List.length_take,List.length_map];omega
   omega
  ·intro j xs G' h
   rw [hPw] at h
   rw [h.1]
   exact d3
  ·intro j kv xs G' hj ekv h
   rw [hPw] at h
   obtain ⟨rfl,rfl⟩:=h
   obtain ⟨a0,ea,rfl⟩:∃ a0,ans[j]?=some a0∧kv=(Key.inl a0.1,wv a0.2):=by
    rw [iU,List.getElem?_map] at ekv
    obtain ⟨a0,x,y⟩:=Option.map_eq_some_iff.mp ekv
    exact ⟨a0,x,y.symm⟩
   have es:(((ans.map (·.1)).take (j+1)).filter fun i=>decide (i∈bP ans ws)).map V.int=if a0.1∈bP ans ws then (((ans.map (·.1)).take j).filter fun i=>decide (i∈bP ans ws)).map V.int++[V.int a0.1] else (((ans.map (·.1)).take j).filter fun i=>decide (i∈bP ans ws)).map V.int:=by
    rw [List.take_add_one,List.getElem?_map,ea]
    simp only [Option.map_some,Option.toList_some,List.filter_append,List.map_append]
    split
    ·next h=>simp [h]
    ·next h=>simp [h]
   show yH _ (some (V.int a0.1)::_) _ _
   wp_walk using bM,Option.join_some,e3
   refine ⟨rfl,by simp [dP],?_⟩
   rw [hPw,hPw,es,xR]
   by_cases hm:a0.1∈bP ans ws
   ·rw [if_pos (by simpa using hm),if_pos hm]
    exact ⟨rfl,rfl⟩
   ·rw [if_neg (by simpa using hm),if_neg hm]
    exact ⟨rfl,rfl⟩
  intro xs G' h pp hpp
  rw [hPw] at h
  obtain ⟨rfl,rfl⟩:=h
  rw [show (ans.map (·.1)).take (iU ans).length=ans.map (·.1) by rw [iU,List.length_map,← List.length_map (f:=fun p:Int×Wo=>p.1) (as:=ans),List.take_length],ef]
  wp_walk using aA,List.map_cons
  have npp:da≠pp:=aL d3 hpp
  have KK:Kp [] G (upd (upd G' pp (.lst (V.int i::r.map V.int))) da (.dK (iU ans))):=fun b ob eb nb=>by
   by_cases hb:b=da
   ·subst hb
    rw [aA]
    rw [A.ha] at eb
    exact eb
   ·have e4:G' b=some ob:=by rw [← hG3,aI hb];exact K2 b ob eb nb
    rw [aI hb,aI (aL e4 hpp)]
    exact e4
  have q3:=q _ KK
  rw [fo] at q3
  exact ⟨da,o,iU ans,by rw [aI npp];exact d3,(fun ob u z=>by
   have z:G da=some (.frz ob u):=z
   rw [A.ha] at z
   cases z),q3⟩
theorem abJ {t:Ad} (T:Tx w K mg t):bG P w K mg base CX0 11 t.adowait t.ddowait ["run","statement"] (cY ⟨t.CRun,t.CWalk,t.CTickets⟩ true (fun m=>∃ x ss,m=.wait x ss)):=by
 refine T.fdowait.ok lT (fun vs H Q E h=>?_) (fun cdv A outer s H vs Q E hr h=>?_)
 ·obtain ⟨R,as,sl,S,a,m,N,rfl,_⟩:=h
  rfl
 ·obtain ⟨R,as,sl,S,a,m,N,rfl,A,hsl,hs,⟨x,ss,rfl⟩,F,g,hN,q⟩:=h
  have hu:=kX hr
  refine ⟨_,(aC (fG (i:=2) (fr:=[0]) (N:=["saying","run"]) rfl (fun _ _ h=>h) (dW.free rfl rfl rfl rfl rfl (fun _ _ h=>h) rfl (by decide) rfl (fun j hj=>by rw [show j=0 by simpa using hj];exact ⟨_,rfl,rfl,.inl rfl⟩)) (pi_tup (aX bL (pv 1) aD (fun _ _=>rfl))) (fun C s H ex pn=>⟨nN,(bK (pv 1) T.clRun T.meRunworth (dB T) (hr.mono (by omega)) T.bRunworth .nil pass0 (aE (pv 0) aB))⟩) lT.nd rfl (Or.inl rfl))
   (aC (bA (i:=3) lT.nd rfl (Or.inl rfl) (bK (aM T.clRun T.natickets (pv 0)) T.clTickets T.meTicketsfirstdone (mM T) (hr.mono (by omega)) T.bTicketsfirstdone .nil pass0 (aE (pv 2) aB)))
   (aC (bA (i:=4) lT.nd rfl (Or.inl rfl) (bU (zJ rfl) rfl T.zsorted mF (aE (cI (uL rfl) rfl T.zset bt_set (aE (u1 (fr:=[0]) (N:=["worth","run"]) rfl (fun _ _ h=>h) (dW.free rfl rfl rfl rfl rfl (fun _ _ h=>h) rfl (by decide) rfl (fun j hj=>by rw [show j=0 by simpa using hj];exact ⟨_,rfl,rfl,.inl rfl⟩)) (fS (pv 2)) (fun C s H ex pn=>⟨nO (mX (bK (aM T.clRun T.natickets (pv 1)) T.clTickets T.meTicketsisopen (gB T) (hr.mono (by omega)) T.bTicketsisopen .nil pass0 (aE (pv 0) aB))),(pv 0)⟩)) aB)) aB)))
   (aC (bH (PW.pt (vU (aQ mW (pv 3) eV (nomark _)) (qD (qB (pv 4) (fun _=>rfl))))) (aJ (cP T.clRun T.nasleep (pv 0) (bB (aE aP (aE (cI fI rfl T.ztuple eX (aE (pv 4) aB)) aB))))) (aJ (kA hu (aM T.clRun T.nanames (pv 0)) (aX bL (pv 1) aD (fun _ _=>rfl)) (pv 3))))
   (aJ (aN (bN aB))))))),?_⟩
  try dsimp only [L2.start,aY,bD,List.cons_append,List.nil_append,List.replicate_succ,List.replicate_zero,List.length_cons,List.length_nil,Nat.reduceAdd,Nat.reduceSub,Nat.zero_add]
  cases hs with
  | @wait a pw x vs ss e1 e2 hs2 =>
   obtain ⟨_,g4,gs⟩:=g
   have l1:(j5 S.nm).length≤N:=by rw [j5,List.length_map];exact F.nm
   have lv:=hs2.lenW
   refine aG fun R1 hR1=>?_
   wp_walk using A.ins,e1
   refine ⟨⟨_,gO.of e2⟩,?_⟩
   obtain ⟨Pv,hPv⟩:∃ Pv:Nat→List V→Hp→Prop,∀ i xs G,Pv i xs G=(G=H∧xs=((ss.take i).map S.worth).map wv):=⟨_,fun _ _ _=>rfl⟩
   refine lc_tup (ys:=vs) Pv ?_ ?_ ?_ ?_ ?_
   ·rw [hPv];exact ⟨rfl,rfl⟩
   ·intro i xs G h
    rw [hPv] at h
    rw [h.2,List.length_map,List.length_map,List.length_take]
    omega
   ·intro i xs G h
    rw [hPv] at h
    rw [h.1]
    exact gO.of e2
   ·intro i y xs G hi ey h
    rw [hPv] at h
    obtain ⟨rfl,rfl⟩:=h
    obtain ⟨s0,es,h0⟩:=hs2.atW ey
    wp_walk using bM,Option.join_some,A.ins
    refine ⟨R,as,sl,S,y,s0,rfl,A,F.pl,h0,gs s0 (List.mem_of_getElem? es),?_⟩
    show Pv (i+1) _ _
    rw [hPv,List.take_add_one,es]
    exact ⟨rfl,by simp⟩
   intro xs G h p1 hp1
   rw [hPv] at h
   obtain ⟨rfl,rfl⟩:=h
   rw [lv,List.take_length]
   obtain ⟨ws,hws⟩:∃ ws,ws=ss.map S.worth:=⟨_,rfl⟩
   have hd:deed S (.wait x ss)=if bW S.ans ws=none∧cG S.pend ws≠[] then ({S with sl:=.wait (cG S.pend ws)},[]) else ({S with nm:=dA S.nm x (bW S.ans ws)},[]):=by rw [hws];rfl
   rw [← hws]
   have lw:ws.length≤4:=by rw [hws,List.length_map];exact g4
   clear hws hPv Pv
   rw [hd] at q
   clear hd
   have N1:=Kp.new (S:=[]) (o:=.lst (ws.map wv)) hp1
   have f1:upd G p1 (.lst (ws.map wv)) p1=some (.lst (ws.map wv)):=aA
   have A1:=A.kp N1
   have e3:=N1.at e1
   have F1:=Fw.of (R:=R) (as:=as) N1
   generalize upd G p1 (.lst (ws.map wv))=G1 at *
   refine hR1 _ _ ?_
   clear hR1
   clear R1
   refine aG fun R2 hR2=>?_
   wp_walk using A1.ins,A1.tk.ins
   refine ⟨R.tk,R.tx,R.dp,R.da,p1,_,_,_,ws,rfl,A1.tk,f1,lw,by have:=F.an;omega,fun G2 K2=>?_⟩
   have A2:=A1.kp K2
   have f2:=K2.at f1
   have e4:=K2.at e3
   have F2:=F1.trans (Fw.of K2)
   wp_walk
   refine hR2 _ _ ?_
   clear hR2
   clear R2
   refine aG fun R3 hR3=>?_
   wp_walk using A2.ins,A2.tk.ins,f2
   refine ⟨⟨_,eA.of f2⟩,?_⟩
   obtain ⟨Pw,hPw⟩:∃ Pw:Nat→List V→Hp→Prop,∀ i xs G',Pw i xs G'=(G'=G2∧xs=(dH S.pend (ws.take i)).map V.int):=⟨_,fun _ _ _=>rfl⟩
   refine iZ (ys:=ws.map wv) Pw ?_ ?_ ?_ ?_ ?_
   ·rw [hPw];exact ⟨rfl,rfl⟩
   ·intro i xs G' h
    rw [hPw] at h
    rw [h.2,List.length_map]
    have:=jR S.pend (ws.take i)
    have:(ws.take i).length≤ws.length:=by rw [List.length_take];omega
    omega
   ·intro i xs G' h
    rw [hPw] at h
    rw [h.1]
    exact eA.of f2
   ·intro i y xs G' hi ey h
    rw [hPw] at h
    obtain ⟨rfl,rfl⟩:=h
    obtain ⟨w0,ew,rfl⟩:∃ w0,ws[i]?=some w0∧y=wv w0:=by
     rw [List.getElem?_map] at ey
     obtain ⟨w0,a,b⟩:=Option.map_eq_some_iff.mp ey
     exact ⟨w0,a,b.symm⟩
    wp_walk using bM,Option.join_some,A2.ins,A2.tk.ins
    refine ⟨R.tk,R.tx,R.dp,R.da,_,_,_,w0,rfl,A2.tk,?_⟩
    show onB (V.bl _) _
    wp_walk
    rw [hPw,hPw,yU ew]
    split
    ·next h=>exact ⟨rfl,(if_pos (decide_eq_true h)).symm⟩
    ·next h=>exact ⟨rfl,(if_neg (by simpa using h)).symm⟩
   intro xs G' h p3 hp3
   rw [hPw] at h
   obtain ⟨rfl,rfl⟩:=h
   rw [show ws.take (ws.map wv).length=ws by rw [List.length_map,List.take_length]]
   clear hPw Pw
   wp_walk using aA
   refine ⟨dH S.pend ws,rfl,Nat.le_trans (jR S.pend ws) lw,fun c hc=>⟨_,rfl,?_,fun l4 ns h4 hperm hsort=>?_⟩⟩
   ·have:=rV (fun i=>(dH S.pend ws).getD i 0) (dH S.pend ws).length
    have:=jR S.pend ws
    show (once _ _).length < 64
    omega
   obtain rfl:=wZ hperm hsort
   have N3:=((Kp.new (S:=[]) hp3).trans (Kp.new hc)).trans (Kp.new (o:=.lst ((cG S.pend ws).map V.int)) h4)
   have f4:∀ G5:Hp,upd G5 l4 (.lst ((cG S.pend ws).map V.int)) l4=some (.lst ((cG S.pend ws).map V.int)):=fun _=>aA
   generalize hG4:upd (upd (upd G' p3 (.lst ((dH S.pend ws).map V.int))) c _) l4 (.lst ((cG S.pend ws).map V.int))=G4 at N3 ⊢
   replace f4:G4 l4=some (.lst ((cG S.pend ws).map V.int)):=hG4 ▸ f4 _
   clear hG4 hperm hsort h4 hc hp3
   have A4:=A2.kp N3
   have e5:=N3.at e4
   have F4:=F2.trans (Fw.of N3)
   refine hR3 _ _ ?_
   clear hR3
   clear R3
   refine aG fun R4 hR4=>?_
   have named:¬ (bW S.ans ws=none∧cG S.pend ws≠[])→R4 [some (V.ref R.x),some (V.ref a),some (V.ref p1),some (wv (bW S.ans ws)),some (V.ref l4)] (upd G4 R.nm (.dK (j5 (dA S.nm x (bW S.ans ws))))):=fun hn=>by
    rw [if_neg hn] at q
    have A6:=A4.name x (bW S.ans ws)
    have F6:=F4.trans (Fw.set (p:=R.nm) (o:=.dK (j5 (dA S.nm x (bW S.ans ws)))) (.inl (by simp [Rn.cells])))
    refine hR4 _ _ ?_
    generalize upd G4 R.nm (.dK (j5 (dA S.nm x (bW S.ans ws))))=G6 at *
    wp_walk
    refine fun c hc=>?_
    have N4:=Kp.new (S:=[]) (o:=.lst []) hc
    exact q _ c [] _ (A6.kp N4) (F6.free hc) aA .nil (F6.trans (Fw.of N4))
   wp_walk using A4.ins,f4,yM,e5,A4.nm,kI
   by_cases hf:bW S.ans ws=none
   ·rw [if_pos hf]
    by_cases ho:cG S.pend ws=[]
    ·rw [if_neg (by rw [ho];simp)]
     exact ⟨by first | omega | (rw [sizeLine_eq];omega),named fun z=>z.2 ho⟩
    ·rw [if_pos (by simpa using ho)]
     rw [if_pos ⟨hf,ho⟩] at q
     refine fun l5 h5 p6 h6=>?_
     have N5:=(Kp.new (S:=[]) (o:=.tup ((cG S.pend ws).map V.int)) h5).trans (Kp.new (o:=.tup [.str "wait",.ref l5]) h6)
     have f6:upd (upd G4 l5 (.tup ((cG S.pend ws).map V.int))) p6 (.tup [.str "wait",.ref l5]) p6=some (.tup [.str "wait",.ref l5]):=aA
     have f5:upd (upd G4 l5 (.tup ((cG S.pend ws).map V.int))) p6 (.tup [.str "wait",.ref l5]) l5=some (.tup ((cG S.pend ws).map V.int)):=by rw [aI (aL aA h6),aA]
     have A5:=A4.kp N5
     clear named h6 h5
     generalize upd (upd G4 l5 (.tup ((cG S.pend ws).map V.int))) p6 (.tup [.str "wait",.ref l5])=G5 at *
     wp_walk using A5.ins
     have A6:=A5.attr (.ref p6) (.wait (cG S.pend ws)) S.ar S.nw ⟨p6,l5,rfl,f6,f5⟩
     have F6:=(F4.trans (Fw.of N5)).trans (Fw.set (p:=R.x) (o:=(.ins t.CRun R.dx [("walk",.ref R.wk),("sleep",.ref p6),("arg",wv S.ar),("now",.int S.nw),("names",.ref R.nm),("tickets",.ref R.tk),("letters",.ref R.lt)])) (.inl (by simp [Rn.cells])))
     refine hR4 _ _ ?_
     generalize upd G5 R.x (.ins t.CRun R.dx [("walk",.ref R.wk),("sleep",.ref p6),("arg",wv S.ar),("now",.int S.nw),("names",.ref R.nm),("tickets",.ref R.tk),("letters",.ref R.lt)])=G6 at *
     wp_walk
     refine fun c hc=>?_
     have N4:=Kp.new (S:=[]) (o:=.lst []) hc
     exact q _ c [] _ (A6.kp N4) (F6.free hc) aA .nil (F6.trans (Fw.of N4))
   ·rw [if_neg hf]
    exact ⟨by first | omega | (rw [sizeLine_eq];omega),named fun z=>hf z.1⟩
theorem ok_dohear {t:Ad} (T:Tx w K mg t):bG P w K mg base CX0 11 t.adohear t.ddohear ["run","statement"] (cY ⟨t.CRun,t.CWalk,t.CTickets⟩ true (fun m=>∃ x k,m=.hear x k)):=by
 refine T.fdohear.ok tX (fun vs H Q E h=>?_) (fun cdv A outer s H vs Q E hr h=>?_)
 ·obtain ⟨R,as,sl,S,a,m,N,rfl,_⟩:=h
  rfl
 ·obtain ⟨R,as,sl,S,a,m,N,rfl,A,hsl,hs,⟨x,k,rfl⟩,F,g,hN,q⟩:=h
  have hu:=kX hr
  refine ⟨_,(aC (bA (i:=2) tX.nd rfl (Or.inl rfl) (pe_dget2C hu (aM T.clRun T.naletters (pv 0)) (aX bL (pv 1) aD (fun _ _=>rfl)) (bN aB) ⟨rfl,rfl,rfl,rfl⟩))
   (aC (bH (qB (pv 2) (fun _=>rfl)) (aJ (kA hu (aM T.clRun T.nanames (pv 0)) (aX bL (pv 1) aD (fun _ _=>rfl)) (wS PySem.F.slot_list_pop PySem.F.type_list_pop mt_pop0 (pv 2) (aE aD aB)))) (aJ (cP T.clRun T.nasleep (pv 0) (bB (aE aP (aE (aX bL (pv 1) aD (fun _ _=>rfl)) aB))))))
   (aJ (aN (bN aB))))),?_⟩
  try dsimp only [L2.start,aY,bD,List.cons_append,List.nil_append,List.replicate_succ,List.replicate_zero,List.length_cons,List.length_nil,Nat.reduceAdd,Nat.reduceSub,Nat.zero_add]
  cases hs with
  | @hear a x k e1 =>
   obtain ⟨kvs,el,L⟩:=A.lt
   have l1:(j5 S.nm).length≤N:=by rw [j5,List.length_map];exact F.nm
   refine aG fun R1 hR1=>?_
   wp_walk using A.ins,el,e1
   refine fun p1 h1=>?_
   have N1:=Kp.new (S:=[]) (o:=.lst []) h1
   have f1:upd H p1 (.lst []) p1=some (.lst []):=aA
   have A1:=A.kp N1
   have e1':=N1.at e1
   have el1:=N1.at el
   have L1:=L.keep (fun a _ o h=>N1.at h)
   have F1:=Fw.of (R:=R) (as:=as) N1
   generalize upd H p1 (.lst [])=G1 at *
   have slept:∀ l:Addr,G1 l=some (.lst [])→(cC S.lt k).getD []=[]→R1 [some (.ref R.x),some (.ref a),some (.ref l)] G1:=fun l hl hq=>by
    have hd:deed S (.hear x k)=({S with sl:=.hear k},[]):=by simp only [deed,hq]
    rw [hd] at q
    refine hR1 _ _ ?_
    refine aG fun R2 hR2=>?_
    wp_walk using hl,e1'
    refine fun p2 h2=>?_
    have N2:=Kp.new (S:=[]) (o:=.tup [.str "hear",.str k]) h2
    have f2:upd G1 p2 (.tup [.str "hear",.str k]) p2=some (.tup [.str "hear",.str k]):=aA
    have A2:=A1.kp N2
    wp_walk using N2.at A1.ins
    have A3:=A2.attr (.ref p2) (.hear k) S.ar S.nw ⟨p2,rfl,f2⟩
    have F3:=(F1.trans (Fw.of N2)).trans (Fw.set (p:=R.x) (o:=(.ins t.CRun R.dx [("walk",.ref R.wk),("sleep",.ref p2),("arg",wv S.ar),("now",.int S.nw),("names",.ref R.nm),("tickets",.ref R.tk),("letters",.ref R.lt)])) (.inl (by simp [Rn.cells])))
    refine hR2 _ _ ?_
    generalize upd (upd G1 p2 (.tup [.str "hear",.str k])) R.x (.ins t.CRun R.dx [("walk",.ref R.wk),("sleep",.ref p2),("arg",wv S.ar),("now",.int S.nw),("names",.ref R.nm),("tickets",.ref R.tk),("letters",.ref R.lt)])=G3 at *
    wp_walk
    refine fun c hc=>?_
    have N4:=Kp.new (S:=[]) (o:=.lst []) hc
    exact q _ c [] _ (A3.kp N4) (F3.free hc) aA .nil (F3.trans (Fw.of N4))
   rcases L1.look k with ⟨hv,hn⟩ | ⟨l,ws,hv,hn,hl,ew⟩
   ·wp_walk using A1.ins,el1,e1',hv,Option.getD_none
    exact slept p1 f1 (by rw [hn];rfl)
   ·wp_walk using A1.ins,el1,e1',hv,Option.getD_some
    cases ws with
    | nil=>exact slept l ew (by rw [hn];rfl)
    | cons w r =>
     have hd:deed S (.hear x k)=({S with nm:=dA S.nm x w,lt:=eO S.lt k r},[]):=by simp only [deed,hn,Option.getD_some]
     rw [hd] at q
     rw [List.map_cons] at ew
     refine hR1 _ _ ?_
     refine aG fun R2 hR2=>?_
     obtain ⟨A2,hla⟩:=A1.lset el1 hv r
     have F2:=F1.trans (Fw.set (p:=l) (o:=.lst (r.map wv)) (.inr hla))
     have e2:=A1.tkp (Fw.set (p:=l) (o:=.lst (r.map wv)) (.inr hla)) _ _ e1'
     wp_walk using ew,List.tail_cons,List.isEmpty_cons,Bool.not_false,A2.ins,e2,A2.nm,kI
     have A3:=A2.name x w
     have F3:=F2.trans (Fw.set (p:=R.nm) (o:=.dK (j5 (dA S.nm x w))) (.inl (by simp [Rn.cells])))
     refine ⟨by omega,hR2 _ _ ?_⟩
     generalize upd (upd G1 l (.lst (r.map wv))) R.nm (.dK (j5 (dA S.nm x w)))=G3 at *
     wp_walk
     refine fun c hc=>?_
     have N4:=Kp.new (S:=[]) (o:=.lst []) hc
     exact q _ c [] _ (A3.kp N4) (F3.free hc) aA .nil (F3.trans (Fw.of N4))
theorem ok_doend {t:Ad} (T:Tx w K mg t):bG P w K mg base CX0 11 t.adoend t.ddoend ["run","statement"] (cY ⟨t.CRun,t.CWalk,t.CTickets⟩ true (fun m=>∃ s,m=.fin s)):=by
 refine T.fdoend.ok sc_doend (fun vs H Q E h=>?_) (fun cdv A outer s H vs Q E hr h=>?_)
 ·obtain ⟨R,as,sl,S,a,m,N,rfl,_⟩:=h
  rfl
 ·obtain ⟨R,as,sl,S,a,m,N,rfl,A,hsl,hs,⟨s,rfl⟩,F,g,hN,q⟩:=h
  refine ⟨_,(aJ (aN (bK (pv 0) T.clRun T.meRunend (uR T) (hr.mono (by omega)) T.bRunend .nil pass0 (aE (bK (pv 0) T.clRun T.meRunworth (dB T) (hr.mono (by omega)) T.bRunworth .nil pass0 (aE (aX bL (pv 1) aD (fun _ _=>rfl)) aB)) aB)))),?_⟩
  try dsimp only [L2.start,aY,bD,List.cons_append,List.nil_append,List.replicate_succ,List.replicate_zero,List.length_cons,List.length_nil,Nat.reduceAdd,Nat.reduceSub,Nat.zero_add]
  cases hs with
  | @fin a v s e1 h1 =>
   wp_walk using A.ins,e1
   refine ⟨R,as,sl,S,v,s,rfl,A,F.pl,h1,g,?_⟩
   wp_walk
   exact ⟨R,as,sl,S,_,rfl,A,q⟩
theorem wQ {t:Ad} (T:Tx w K mg t):bG P w K mg base CX0 12 t.aRundoone t.dRundoone ["self","statement"] (spOneR ⟨t.CRun,t.CWalk,t.CTickets⟩ true):=by
  refine T.fRundoone.ok kW (fun vs H Q E h=>?_) (fun cdv A outer s H vs Q E hr h=>?_)
  · obtain ⟨R,as,sl,S,a,m,N,rfl,_⟩:=h
    rfl
  · obtain ⟨R,as,sl,S,a,m,N,rfl,A,hsl,hs,F,g,hst,hN,q⟩:=h
    refine ⟨_,(aC (bA (i:=2) kW.nd rfl (Or.inl rfl) (aX bL (pv 1) aD (fun _ _=>rfl)))
      (aC (bH (PW.pt (mS (aQ cD (pv 2) aP (nomark _)) (mZ (aQ cD (pv 2) aP (nomark _))))) (aC (bQ (bK (pv 0) T.clRun T.meRunlook (zU T) (hr.mono (by omega)) T.bRunlook .nil pass0 (aE (pv 1) aB)))
      (aJ (aN (bN aB)))) aV)
      (aC (bA (i:=3) kW.nd rfl (Or.inl rfl) (pe_deed (tab:=[("set",(cY ⟨t.CRun,t.CWalk,t.CTickets⟩ true (fun m=>∃ x s,m=.set x s))),("order",(cY ⟨t.CRun,t.CWalk,t.CTickets⟩ true (fun m=>∃ x y s,m=.order x y s∨m=.child x y s))),("timer",(cY ⟨t.CRun,t.CWalk,t.CTickets⟩ true (fun m=>∃ x s,m=.timer x s))),("child",(cY ⟨t.CRun,t.CWalk,t.CTickets⟩ true (fun m=>∃ x y s,m=.order x y s∨m=.child x y s))),("send",(cY ⟨t.CRun,t.CWalk,t.CTickets⟩ true (fun m=>∃ s k r,m=.send s k r))),("drop",(cY ⟨t.CRun,t.CWalk,t.CTickets⟩ true (fun m=>∃ s,m=.drop s))),("wait",(cY ⟨t.CRun,t.CWalk,t.CTickets⟩ true (fun m=>∃ x ss,m=.wait x ss))),("hear",(cY ⟨t.CRun,t.CWalk,t.CTickets⟩ true (fun m=>∃ x k,m=.hear x k))),("end",(cY ⟨t.CRun,t.CWalk,t.CTickets⟩ true (fun m=>∃ s,m=.fin s)))]) rfl T.cDEEDS T.mdDEEDS (pv 2) (fun _ _=>rfl) (fun y sp h=>deeds9 (Z:=fun y sp=>∃ f fd ps,PySem.W.nsIn K t.kDEEDS y=some (some (.ref f))∧bG P w K mg base CX0 11 f fd ps sp∧PySem.W.keepIn K (.ref f)=true∧Binds K fd ps []) h ⟨_,_,_,T.nDEEDSset,(ok_doset T).mono (by decide),T.fdoset.kp,T.bdoset⟩ ⟨_,_,_,T.nDEEDSorder,(rN T).mono (by decide),T.fdoorder.kp,T.bdoorder⟩ ⟨_,_,_,T.nDEEDStimer,(yL T).mono (by decide),T.fdotimer.kp,T.bdotimer⟩ ⟨_,_,_,T.nDEEDSchild,(rN T).mono (by decide),T.fdoorder.kp,T.bdoorder⟩ ⟨_,_,_,T.nDEEDSsend,(ok_dosend T).mono (by decide),T.fdosend.kp,T.bdosend⟩ ⟨_,_,_,T.nDEEDSdrop,(abY T).mono (by decide),T.fdodrop.kp,T.bdodrop⟩ ⟨_,_,_,T.nDEEDSwait,(abJ T).mono (by decide),T.fdowait.kp,T.bdowait⟩ ⟨_,_,_,T.nDEEDShear,(ok_dohear T).mono (by decide),T.fdohear.kp,T.bdohear⟩ ⟨_,_,_,T.nDEEDSend,(ok_doend T).mono (by decide),T.fdoend.kp,T.bdoend⟩) (hr.mono (by omega)) (aE (pv 0) (aE (pv 1) aB))))
      (aC (bH (aQ mW (aM T.clRun T.nasleep (pv 0)) eV (nomark _)) (aJ (bQ (bT (aM T.clRun T.nawalk (pv 0)) T.clWalk T.meWalkpassby (gK T) (hr.mono (by omega)) T.bWalkpassby .nil pass0))) aV)
      (aJ (aN (pv 3))))))),?_⟩
    try dsimp only [L2.start,aY,bD,List.cons_append,List.nil_append,List.replicate_succ,List.replicate_zero,List.length_cons,List.length_nil,Nat.reduceAdd,Nat.reduceSub,Nat.zero_add]
    have tail:m.isB=false→∀(kd sl':V) (c:Addr) (us:List V) (H':Hp),aW ⟨t.CRun,t.CWalk,t.CTickets⟩ H' R as sl' (deed S m).1→H c=none→H' c=some (.lst us)→gA H' us (deed S m).2→Fw R as as H H' →
        tSeq (tIfS (yH (tOp cIsN (cFld t.CRun "sleep" (iW 0)) (tC .non))) (tDrop (xB t.CWalk "pass_by" (rC t.CWalk) [] E0 (cFld t.CRun "walk" (iW 0)) yO)) tNext) (tRet (iW 3)) {nx:=fun _ H'=>Q .non H',rt:=Q} [some (.ref R.x),some a,some kd,some (.ref c)] H':=fun hB kd sl' c us H' A' hc ec hC FF=>by
      rw [one_nb hB] at q
      refine aG fun R4 hR4=>?_
      rcases A'.slp.isN with ⟨hn,rfl⟩ | ⟨hn,p,rfl⟩
      · simp only [hn,if_true] at q
        obtain ⟨k0,b0,n0,r0,est,hm0⟩:=fB hst
        wp_walk using A'.ins,A'.wk.ins
        have W:=A'.wk
        rw [rL,est] at W
        refine ⟨R.wk,R.wx,R.lb,R.ln,k0,n0,b0,r0,rfl,W,fun H1 W1 K1=>?_⟩
        have e:(k0,b0,n0+1)::r0=gQ (deed S m).1.stk:=by rw [rL,est];rfl
        rw [e] at W1
        have A2:=A'.walk W1 (K1.mono (by simp))
        have F2:=A'.fwalk W1 (K1.mono (by simp))
        wp_walk
        refine hR4 _ _ ?_
        wp_walk
        have nc:=A.nofree hc
        exact q .non c us H1 A2 hc (F2.kp _ _ ec nc.1 nc.2) (hC.kt (A'.tkp F2)) (FF.trans F2)
      · simp only [hn,if_false,Bool.false_eq_true] at q
        wp_walk using A'.ins
        refine hR4 _ _ ?_
        wp_walk
        exact q (.ref p) c us H' A' hc ec hC FF
    cases hs with
    | @set a0 x v s e1 h1 =>
      refine aG fun R1 hR1=>?_
      wp_walk using e1
      refine hR1 _ _ ?_
      refine aG fun R2 hR2=>?_
      wp_walk
      refine hR2 _ _ ?_
      refine aG fun R3 hR3=>?_
      wp_walk using j7,fP,fR,fQ,gY,hE,gZ,hZ,kC
      refine ⟨R,as,sl,S,_,_,N,rfl,A,hsl,.set e1 h1,⟨_,_,rfl⟩,F,g,hN,fun sl' c us H' A' hc ec hC FF=>?_⟩
      wp_walk
      exact hR3 _ _ (tail rfl _ sl' c us H' A' hc ec hC FF)
    | @order a0 x y v s e1 h1 =>
      refine aG fun R1 hR1=>?_
      wp_walk using e1
      refine hR1 _ _ ?_
      refine aG fun R2 hR2=>?_
      wp_walk
      refine hR2 _ _ ?_
      refine aG fun R3 hR3=>?_
      wp_walk using j7,fP,fR,fQ,gY,hE,gZ,hZ,kC
      refine ⟨R,as,sl,S,_,_,N,rfl,A,hsl,.order e1 h1,⟨_,_,_,.inl rfl⟩,F,g,hN,fun sl' c us H' A' hc ec hC FF=>?_⟩
      wp_walk
      exact hR3 _ _ (tail rfl _ sl' c us H' A' hc ec hC FF)
    | @timer a0 x v s e1 h1 =>
      refine aG fun R1 hR1=>?_
      wp_walk using e1
      refine hR1 _ _ ?_
      refine aG fun R2 hR2=>?_
      wp_walk
      refine hR2 _ _ ?_
      refine aG fun R3 hR3=>?_
      wp_walk using j7,fP,fR,fQ,gY,hE,gZ,hZ,kC
      refine ⟨R,as,sl,S,_,_,N,rfl,A,hsl,.timer e1 h1,⟨_,_,rfl⟩,F,g,hN,fun sl' c us H' A' hc ec hC FF=>?_⟩
      wp_walk
      exact hR3 _ _ (tail rfl _ sl' c us H' A' hc ec hC FF)
    | @child a0 x y v s e1 h1 =>
      refine aG fun R1 hR1=>?_
      wp_walk using e1
      refine hR1 _ _ ?_
      refine aG fun R2 hR2=>?_
      wp_walk
      refine hR2 _ _ ?_
      refine aG fun R3 hR3=>?_
      wp_walk using j7,fP,fR,fQ,gY,hE,gZ,hZ,kC
      refine ⟨R,as,sl,S,_,_,N,rfl,A,hsl,.child e1 h1,⟨_,_,_,.inr rfl⟩,F,g,hN,fun sl' c us H' A' hc ec hC FF=>?_⟩
      wp_walk
      exact hR3 _ _ (tail rfl _ sl' c us H' A' hc ec hC FF)
    | @send a0 k v u s r e1 h1 h2 =>
      refine aG fun R1 hR1=>?_
      wp_walk using e1
      refine hR1 _ _ ?_
      refine aG fun R2 hR2=>?_
      wp_walk
      refine hR2 _ _ ?_
      refine aG fun R3 hR3=>?_
      wp_walk using j7,fP,fR,fQ,gY,hE,gZ,hZ,kC
      refine ⟨R,as,sl,S,_,_,N,rfl,A,hsl,.send e1 h1 h2,⟨_,_,_,rfl⟩,F,g,hN,fun sl' c us H' A' hc ec hC FF=>?_⟩
      wp_walk
      exact hR3 _ _ (tail rfl _ sl' c us H' A' hc ec hC FF)
    | @drop a0 v s e1 h1 =>
      refine aG fun R1 hR1=>?_
      wp_walk using e1
      refine hR1 _ _ ?_
      refine aG fun R2 hR2=>?_
      wp_walk
      refine hR2 _ _ ?_
      refine aG fun R3 hR3=>?_
      wp_walk using j7,fP,fR,fQ,gY,hE,gZ,hZ,kC
      refine ⟨R,as,sl,S,_,_,N,rfl,A,hsl,.drop e1 h1,⟨_,rfl⟩,F,g,hN,fun sl' c us H' A' hc ec hC FF=>?_⟩
      wp_walk
      exact hR3 _ _ (tail rfl _ sl' c us H' A' hc ec hC FF)
    | @hear a0 x k e1 =>
      refine aG fun R1 hR1=>?_
      wp_walk using e1
      refine hR1 _ _ ?_
      refine aG fun R2 hR2=>?_
      wp_walk
      refine hR2 _ _ ?_
      refine aG fun R3 hR3=>?_
      wp_walk using j7,fP,fR,fQ,gY,hE,gZ,hZ,kC
      refine ⟨R,as,sl,S,_,_,N,rfl,A,hsl,.hear e1,⟨_,_,rfl⟩,F,g,hN,fun sl' c us H' A' hc ec hC FF=>?_⟩
      wp_walk
      exact hR3 _ _ (tail rfl _ sl' c us H' A' hc ec hC FF)
    | @fin a0 v s e1 h1 =>
      refine aG fun R1 hR1=>?_
      wp_walk using e1
      refine hR1 _ _ ?_
      refine aG fun R2 hR2=>?_
      wp_walk
      refine hR2 _ _ ?_
      refine aG fun R3 hR3=>?_
      wp_walk using j7,fP,fR,fQ,gY,hE,gZ,hZ,kC
      refine ⟨R,as,sl,S,_,_,N,rfl,A,hsl,.fin e1 h1,⟨_,rfl⟩,F,g,hN,fun sl' c us H' A' hc ec hC FF=>?_⟩
      wp_walk
      exact hR3 _ _ (tail rfl _ sl' c us H' A' hc ec hC FF)
    | @wait a0 p x vs ss e1 e2 h1 =>
      refine aG fun R1 hR1=>?_
      wp_walk using e1
      refine hR1 _ _ ?_
      refine aG fun R2 hR2=>?_
      wp_walk
      refine hR2 _ _ ?_
      refine aG fun R3 hR3=>?_
      wp_walk using j7,fP,fR,fQ,gY,hE,gZ,hZ,kC
      refine ⟨R,as,sl,S,_,_,N,rfl,A,hsl,.wait e1 e2 h1,⟨_,_,rfl⟩,F,g,hN,fun sl' c us H' A' hc ec hC FF=>?_⟩
      wp_walk
      exact hR3 _ _ (tail rfl _ sl' c us H' A' hc ec hC FF)
    | @whl a0 p v s vs b e1 h1 e2 h2 =>
      rw [one_b rfl] at q
      refine aG fun R1 hR1=>?_
      wp_walk using e1
      refine hR1 _ _ ?_
      wp_walk using A.ins
      refine ⟨R,as,sl,S,_,_,N,rfl,A,.whl e1 h1 e2 h2,rfl,F,g,hst,fun H1 A1 F1=>?_⟩
      wp_walk
      refine fun c hc=>?_
      have N4:=Kp.new (S:=[]) (o:=.lst []) hc
      exact q _ c [] _ (A1.kp N4) (F1.free hc) aA .nil (F1.trans (Fw.of N4))
    | @iff a0 p p2 v s vs us b o e1 h1 e2 h2 e3 h3 =>
      rw [one_b rfl] at q
      refine aG fun R1 hR1=>?_
      wp_walk using e1
      refine hR1 _ _ ?_
      wp_walk using A.ins
      refine ⟨R,as,sl,S,_,_,N,rfl,A,.iff e1 h1 e2 h2 e3 h3,rfl,F,g,hst,fun H1 A1 F1=>?_⟩
      wp_walk
      refine fun c hc=>?_
      have N4:=Kp.new (S:=[]) (o:=.lst []) hc
      exact q _ c [] _ (A1.kp N4) (F1.free hc) aA .nil (F1.trans (Fw.of N4))
theorem rB {t:Ad} (T:Tx w K mg t):bG P w K mg base CX0 13 t.aRungoon t.dRungoon ["self"] (spGoR ⟨t.CRun,t.CWalk,t.CTickets⟩ true):=by
  refine T.fRungoon.ok iM (fun vs H Q E h=>?_) (fun cdv A outer s H vs Q E hr h=>?_)
  · obtain ⟨R,as,sl,S,N,rfl,_⟩:=h
    rfl
  · obtain ⟨R,as,sl,S,N,rfl,A,FN,hN,q⟩:=h
    refine ⟨_,(aC (cP T.clRun T.nasleep (pv 0) eV)
      (aC (bA (i:=1) iM.nd rfl (Or.inl rfl) (bN aB))
      (aC (bA (i:=2) iM.nd rfl (Or.inl rfl) aD)
      (aC (wW PassesOwn.never (aQ mW (aM T.clRun T.nasleep (pv 0)) eV (nomark _)) (aC (bA (i:=3) iM.nd rfl (Or.inl rfl) (bT (aM T.clRun T.nawalk (pv 0)) T.clWalk T.meWalkcometo (tQ T) (hr.mono (by omega)) T.bWalkcometo .nil pass0))
      (aJ (bH (aQ mW (pv 3) eV (nomark _)) (aJ (bQ (wS PySem.F.slot_list_extend PySem.F.type_list_extend p8 (pv 1) (aE (bK (pv 0) T.clRun T.meRunend (uR T) (hr.mono (by omega)) T.bRunend .nil pass0 (aE eV aB)) aB)))) (aJ (bH (aQ cD (pv 2) (nJ (v:=.int 300) rfl T.cMOSTATONCE ⟨_,rfl⟩) (nomark _)) (aJ (bQ (wS PySem.F.slot_list_extend PySem.F.type_list_extend p8 (pv 1) (aE (bT (pv 0) T.clRun T.meRunwearout (tM T) (hr.mono (by omega)) T.bRunwearout .nil pass0) aB)))) (aC (ps_aug (i:=2) iM.nd rfl (Or.inl rfl) aD aaO)
      (aJ (bQ (wS PySem.F.slot_list_extend PySem.F.type_list_extend p8 (pv 1) (aE (bK (pv 0) T.clRun T.meRundoone (wQ T) (hr.mono (by omega)) T.bRundoone .nil pass0 (aE (pv 3) aB)) aB)))))))))))
      (aJ (aN (pv 1))))))),?_⟩
    try dsimp only [L2.start,aY,bD,List.cons_append,List.nil_append,List.replicate_succ,List.replicate_zero,List.length_cons,List.length_nil,Nat.reduceAdd,Nat.reduceSub,Nat.zero_add]
    refine aG fun R1 hR1=>?_
    wp_walk using A.ins
    have A1:=A.attr .non .non S.ar S.nw rfl
    have F1:=Fw.set (R:=R) (as:=as) (H:=H) (p:=R.x) (o:=(.ins t.CRun R.dx [("walk",.ref R.wk),("sleep",.non),("arg",wv S.ar),("now",.int S.nw),("names",.ref R.nm),("tickets",.ref R.tk),("letters",.ref R.lt)])) (.inl (by simp [Rn.cells]))
    generalize upd H R.x (.ins t.CRun R.dx [("walk",.ref R.wk),("sleep",.non),("arg",wv S.ar),("now",.int S.nw),("names",.ref R.nm),("tickets",.ref R.tk),("letters",.ref R.lt)])=G1 at *
    refine hR1 _ _ ?_
    clear hR1
    clear R1
    refine aG fun R2 hR2=>?_
    wp_walk
    refine fun c hc=>?_
    have fc:H c=none:=F1.free hc
    have nc:=A.nofree fc
    have N2:=Kp.new (S:=[]) (o:=.lst []) hc
    have ec:upd G1 c (.lst []) c=some (.lst []):=aA
    replace A1:=A1.kp N2
    replace F1:=F1.trans (Fw.of N2)
    generalize upd G1 c (.lst [])=G2 at *
    refine hR2 _ _ ?_
    clear hR2
    clear R2
    refine aG fun R3 hR3=>?_
    wp_walk
    refine hR3 _ _ ?_
    clear hR3
    clear R3
    refine aG fun R4 hR4=>?_
    obtain ⟨S0,hS0⟩:∃ S0:Pu,S0={S with sl:=.non}:=⟨_,rfl⟩
    rw [← hS0] at q FN
    replace A1:aW ⟨t.CRun,t.CWalk,t.CTickets⟩ G2 R as .non S0:=by rw [hS0];exact A1
    have s0:S0.sl=.non:=by rw [hS0]
    clear hS0
    obtain ⟨Y,hY⟩:∃ Y:Nat→St→Hp→Prop,∀ m σ G,Y m σ G = ∃(many:Nat) (u:Option V) (us:List V) (cs:Cmds) (S1:Pu) (sl1:V),σ=[some (.ref R.x),some (.ref c),some (.int many),u]∧G c=some (.lst us)∧Fw R as as H G∧gA G us cs∧aW ⟨t.CRun,t.CWalk,t.CTickets⟩ G R as sl1 S1 ∧
        ((S1.sl=.non∧many≤300∧cs.length≤many∧m=301 - many∧Fit true S1 (N+many)∧gR 300 S0=((gR (300 - many) S1).1,cs++(gR (300 - many) S1).2))∨(S1.sl.isN=false∧gR 300 S0=(S1,cs))):=⟨_,fun _ _ _=>rfl⟩
    refine ⟨Y,⟨301,?_⟩,?_⟩
    · rw [hY]
      exact ⟨0,none,[],[],S0,.non,rfl,ec,F1,.nil,A1,.inl ⟨s0,by decide,Nat.zero_le _,rfl,FN,rfl⟩⟩
    intro m σ G hG
    rw [hY] at hG
    obtain ⟨many,u,us,cs,S1,sl1,rfl,eG,FG,hC,A2,hG⟩:=hG
    rcases hG with ⟨hs1,hm,lC,rfl,F0,eq⟩ | ⟨hs1,eq⟩
    · have:sl1=.non:=by have:=A2.slp;rw [hs1] at this;exact this
      subst this
      wp_walk using A2.ins
      refine ⟨fun σ' G'=>∃ m',m' < 301 - many∧Y m' σ' G',fun _ _ z=>z,?_⟩
      wp_walk using A2.wk.ins,A2.ins
      refine ⟨R.wk,R.wx,R.lb,R.ln,S1.stk,rfl,A2.wk,F0.sk.ok,fun H1 W1 _ hst K1=>?_,fun m v H1 W1 _ hst hv K1=>?_⟩
      · have A3:aW ⟨t.CRun,t.CWalk,t.CTickets⟩ H1 R as .non S1.come:=A2.walk W1 K1
        have F2:=A2.fwalk W1 K1
        replace eG:=F2.kp _ _ eG nc.1 nc.2
        rw [dG hst] at eq
        wp_walk using A3.ins,eG
        refine ⟨R,as,.non,S1.come,none,rfl,A3,fun sl3 c3 us3 H3 A4 hc3 ec3 hC3 F3=>?_⟩
        have lc3:(S1.come.ends none).2.length≤1:=by simp [Pu.ends]
        have eG3:=F3.kp _ _ eG nc.1 nc.2
        have l1:=hC.len
        have l3:=hC3.len
        wp_walk using eG3,ec3
        refine ⟨by omega,?_⟩
        have A5:=A4.other (vs:=us++us3) eG3 nc.1 nc.2
        have F5:=((FG.trans F2).trans F3).fresh (o:=.lst (us++us3)) fc
        have tk5:aK H3 (upd H3 c (.lst (us++us3))):=aK.setO eG3 (by intro _ z;cases z)
        have hC5:=((hC.kt (A2.tkp F2)).kt (A3.tkp F3)).app hC3 |>.kt tk5
        refine ⟨0,by omega,?_⟩
        rw [hY]
        exact ⟨many,some .non,_,_,_,sl3,rfl,aA,F5,hC5,A5,.inr ⟨rfl,by rw [eq]⟩⟩
      · have A3:aW ⟨t.CRun,t.CWalk,t.CTickets⟩ H1 R as .non S1.come:=A2.walk W1 K1
        have F2:=A2.fwalk W1 K1
        have FC:=F0.come hs1
        replace eG:=F2.kp _ _ eG nc.1 nc.2
        obtain ⟨a,rfl⟩:∃ a,v=.ref a:=by cases hv<;>exact ⟨_,rfl⟩
        wp_walk using reduceCtorEq,if_false
        by_cases h3:many=300
        · subst h3
          rw [if_pos (by decide)]
          rw [h8 hst] at eq
          wp_walk using A3.ins,eG
          refine ⟨R,as,.non,S1.come,rfl,A3,fun sl3 c3 us3 H3 A4 hc3 ec3 hC3 F3=>?_⟩
          have lc3:(S1.come.wears).2.length≤1:=by simp [Pu.wears]
          have eG3:=F3.kp _ _ eG nc.1 nc.2
          have l1:=hC.len
          have l3:=hC3.len
          wp_walk using eG3,ec3
          refine ⟨by omega,?_⟩
          have A5:=A4.other (vs:=us++us3) eG3 nc.1 nc.2
          have F5:=((FG.trans F2).trans F3).fresh (o:=.lst (us++us3)) fc
          have tk5:aK H3 (upd H3 c (.lst (us++us3))):=aK.setO eG3 (by intro _ z;cases z)
          have hC5:=((hC.kt (A2.tkp F2)).kt (A3.tkp F3)).app hC3 |>.kt tk5
          refine ⟨0,by omega,?_⟩
          rw [hY]
          exact ⟨300,some (.ref a),_,_,_,sl3,rfl,aA,F5,hC5,A5,.inr ⟨rfl,by rw [eq]⟩⟩
        · rw [if_neg (by omega)]
          obtain ⟨n,hn⟩:∃ n,300 - many=n+1:=⟨299 - many,by omega⟩
          rw [hn] at eq
          refine ⟨_,rfl,?_⟩
          wp_walk using A3.ins,eG
          refine ⟨R,as,.non,S1.come,.ref a,m,N+many,rfl,A3,hs1,hv,FC,FC.stm hst,hst,by omega,fun sl3 c3 us3 H3 A4 hc3 ec3 hC3 F3=>?_⟩
          have lc3:=one_len S1.come m
          have eG3:=F3.kp _ _ eG nc.1 nc.2
          have l1:=hC.len
          have l3:=hC3.len
          wp_walk using eG3,ec3
          refine ⟨by omega,?_⟩
          have A5:=A4.other (vs:=us++us3) eG3 nc.1 nc.2
          have F5:=((FG.trans F2).trans F3).fresh (o:=.lst (us++us3)) fc
          have tk5:aK H3 (upd H3 c (.lst (us++us3))):=aK.setO eG3 (by intro _ z;cases z)
          have hC5:=((hC.kt (A2.tkp F2)).kt (A3.tkp F3)).app hC3 |>.kt tk5
          cases hz:(one S1.come m).1.sl.isN with
          | true =>
            rw [mD hst hz] at eq
            refine ⟨301 - (many+1),by omega,?_⟩
            rw [hY]
            exact ⟨many+1,some (.ref a),_,_,_,sl3,rfl,aA,F5,hC5,A5,.inl ⟨vL hz,by omega,by rw [List.length_append];omega,rfl,FC.one hst hs1 (by omega),by rw [eq,show 300 - (many+1)=n by omega,List.append_assoc]⟩⟩
          | false =>
            rw [iJ hst hz] at eq
            refine ⟨0,by omega,?_⟩
            rw [hY]
            exact ⟨many+1,some (.ref a),_,_,_,sl3,rfl,aA,F5,hC5,A5,.inr ⟨hz,by rw [eq]⟩⟩
    · rcases A2.slp.isN with ⟨z,_⟩ | ⟨_,p,rfl⟩
      · rw [hs1] at z;cases z
      wp_walk using A2.ins,reduceCtorEq,if_false
      refine hR4 _ _ ?_
      wp_walk
      rw [eq] at q
      exact q _ c us G A2 fc eG hC FG
theorem rR {t:Ad} (T:Tx w K mg t):bG P w K mg base CX0 14 t.aRunwake t.dRunwake ["self","worth"] (spWakeR ⟨t.CRun,t.CWalk,t.CTickets⟩ true):=by
 refine T.fRunwake.ok zN (fun vs H Q E h=>?_) (fun cdv A outer s H vs Q E hr h=>?_)
 ·obtain ⟨R,as,sl,S,w,N,rfl,_⟩:=h
  rfl
 ·obtain ⟨R,as,sl,S,w,N,rfl,A,F,hN,hw,hsl,q⟩:=h
  have hu:=kX hr
  refine ⟨_,(aC (kA hu (aM T.clRun T.nanames (pv 0)) (aX bL (bT (aM T.clRun T.nawalk (pv 0)) T.clWalk T.meWalkstandsat (fA T) (hr.mono (by omega)) T.bWalkstandsat .nil pass0) aD (fun _ _=>rfl)) (pv 1))
   (aC (bQ (bT (aM T.clRun T.nawalk (pv 0)) T.clWalk T.meWalkpassby (gK T) (hr.mono (by omega)) T.bWalkpassby .nil pass0))
   (aJ (aN (bT (pv 0) T.clRun T.meRungoon (rB T) (hr.mono (by omega)) T.bRungoon .nil pass0))))),?_⟩
  try dsimp only [L2.start,aY,bD,List.cons_append,List.nil_append,List.replicate_succ,List.replicate_zero,List.length_cons,List.length_nil,Nat.reduceAdd,Nat.reduceSub,Nat.zero_add]
  have l1:(j5 S.nm).length≤N:=by rw [j5,List.length_map];exact F.nm
  rcases hsl with ⟨k,hk⟩ | ⟨ts,hk⟩
  ·obtain ⟨x,hst⟩:=F.sl.1 k hk
   obtain ⟨k0,b0,n0,r0,est,hm0⟩:=fB hst
   have nm1:∀ v,dC H v (.hear x k)→∃ a xs,v=.ref a∧H a=some (.tup (.str "hear"::.str x::xs)):=fun v h=>by cases h with | hear e=>exact ⟨_,_,rfl,e⟩
   simp only [Pu.wake,hst] at q
   refine aG fun R1 hR1=>?_
   wp_walk using A.ins,A.wk.ins,A.nm
   have W:=A.wk
   rw [est] at W
   refine ⟨R.wk,R.wx,R.lb,R.ln,k0,n0,b0,r0,_,rfl,W,hm0,fun v hv=>?_⟩
   obtain ⟨a,xs,rfl,e1⟩:=nm1 v hv
   wp_walk using e1,A.nm,kI
   refine ⟨by omega,?_⟩
   have A1:=A.name x w
   have F1:=Fw.set (R:=R) (as:=as) (H:=H) (o:=.dK (j5 (dA S.nm x w))) (p:=R.nm) (.inl (by simp [Rn.cells]))
   generalize upd H R.nm (.dK (j5 (dA S.nm x w)))=G1 at *
   refine hR1 _ _ ?_
   clear hR1
   clear R1
   refine aG fun R2 hR2=>?_
   wp_walk using A1.ins,A1.wk.ins
   have W1:=A1.wk
   rw [show ({S with nm:=dA S.nm x w}:Pu).stk=S.stk from rfl,est] at W1
   refine ⟨R.wk,R.wx,R.lb,R.ln,k0,n0,b0,r0,rfl,W1,fun H2 W2 K2=>?_⟩
   have e:(k0,b0,n0+1)::r0=gQ S.stk:=by rw [est];rfl
   rw [e] at W2
   have A2:=A1.walk W2 (K2.mono (by simp))
   have F2:=F1.trans (A1.fwalk W2 (K2.mono (by simp)))
   wp_walk
   refine hR2 _ _ ?_
   clear hR2
   clear R2
   wp_walk using A2.ins
   exact ⟨R,as,sl,_,N+1,rfl,A2,F.wake hst hw x,by omega,fun sl3 c us H3 A3 hc ec hC F3=>q sl3 c us H3 A3 (F2.free hc) ec hC (F2.trans F3)⟩
  ·obtain ⟨x,ss,hst⟩:=F.sl.2 ts hk
   obtain ⟨k0,b0,n0,r0,est,hm0⟩:=fB hst
   have nm1:∀ v,dC H v (.wait x ss)→∃ a xs,v=.ref a∧H a=some (.tup (.str "wait"::.str x::xs)):=fun v h=>by cases h with | wait e _ _=>exact ⟨_,_,rfl,e⟩
   simp only [Pu.wake,hst] at q
   refine aG fun R1 hR1=>?_
   wp_walk using A.ins,A.wk.ins,A.nm
   have W:=A.wk
   rw [est] at W
   refine ⟨R.wk,R.wx,R.lb,R.ln,k0,n0,b0,r0,_,rfl,W,hm0,fun v hv=>?_⟩
   obtain ⟨a,xs,rfl,e1⟩:=nm1 v hv
   wp_walk using e1,A.nm,kI
   refine ⟨by omega,?_⟩
   have A1:=A.name x w
   have F1:=Fw.set (R:=R) (as:=as) (H:=H) (o:=.dK (j5 (dA S.nm x w))) (p:=R.nm) (.inl (by simp [Rn.cells]))
   generalize upd H R.nm (.dK (j5 (dA S.nm x w)))=G1 at *
   refine hR1 _ _ ?_
   clear hR1
   clear R1
   refine aG fun R2 hR2=>?_
   wp_walk using A1.ins,A1.wk.ins
   have W1:=A1.wk
   rw [show ({S with nm:=dA S.nm x w}:Pu).stk=S.stk from rfl,est] at W1
   refine ⟨R.wk,R.wx,R.lb,R.ln,k0,n0,b0,r0,rfl,W1,fun H2 W2 K2=>?_⟩
   have e:(k0,b0,n0+1)::r0=gQ S.stk:=by rw [est];rfl
   rw [e] at W2
   have A2:=A1.walk W2 (K2.mono (by simp))
   have F2:=F1.trans (A1.fwalk W2 (K2.mono (by simp)))
   wp_walk
   refine hR2 _ _ ?_
   clear hR2
   clear R2
   wp_walk using A2.ins
   exact ⟨R,as,sl,_,N+1,rfl,A2,F.wake hst hw x,by omega,fun sl3 c us H3 A3 hc ec hC F3=>q sl3 c us H3 A3 (F2.free hc) ec hC (F2.trans F3)⟩
theorem oG {t:Ad} (T:Tx w K mg t):bG P w K mg base CX0 15 t.aRuntakeletter t.dRuntakeletter ["self","key","worth"] (spTLet ⟨t.CRun,t.CWalk,t.CTickets⟩ true):=by
 refine T.fRuntakeletter.ok oR (fun vs H Q E h=>?_) (fun cdv A outer s H vs Q E hr h=>?_)
 ·obtain ⟨R,as,sl,S,k,w,N,rfl,_⟩:=h
  rfl
 ·obtain ⟨R,as,sl,S,k,w,N,rfl,A,F,hN,hw,hsl,q⟩:=h
  refine ⟨_,(aC (bH (aQ (op_eqW 2 (by decide) (q9 hr (by decide))) (aM T.clRun T.nasleep (pv 0)) (bB (aE aP (aE (pv 1) aB))) (nomark _)) (aJ (aN (bK (pv 0) T.clRun T.meRunwake (rR T) (hr.mono (by omega)) T.bRunwake .nil pass0 (aE (pv 2) aB)))) aV)
   (aC (bQ (lU (pe_dsetC (aM T.clRun T.naletters (pv 0)) (pv 1) (bN aB) ⟨rfl,rfl,rfl,rfl⟩) (pv 2)))
   (aJ (aN (bN aB))))),?_⟩
  try dsimp only [L2.start,aY,bD,List.cons_append,List.nil_append,List.replicate_succ,List.replicate_zero,List.length_cons,List.length_nil,Nat.reduceAdd,Nat.reduceSub,Nat.zero_add]
  have tl:=A.slp
  rcases hsl with ⟨k',es⟩ | ⟨ts,es⟩
  ·rw [es] at tl
   obtain ⟨p,rfl,ep⟩:=tl
   refine aG fun R1 hR1=>?_
   wp_walk using A.ins
   refine fun p1 h1=>?_
   have N1:=Kp.new (S:=[]) (o:=.tup [.str "hear",.str k]) h1
   have f1:upd H p1 (.tup [.str "hear",.str k]) p1=some (.tup [.str "hear",.str k]):=aA
   have A1:=A.kp N1
   have hp1:=N1.at ep
   have F1:=Fw.of (R:=R) (as:=as) N1
   generalize upd H p1 (.tup [.str "hear",.str k])=G1 at *
   refine .inl ⟨_,hear_eq 1 hp1 f1,?_⟩
   by_cases hk:k'=k
   ·subst hk
    simp only [Pu.takeL,es,if_true] at q
    wp_walk using decide_true,A1.ins
    exact ⟨R,as,.ref p,S,w,N,rfl,A1,F,by omega,hw,.inl ⟨k',es⟩,fun sl3 c us H3 A3 hc ec hC F3=>q as sl3 c us H3 A3 (F1.free hc) (A.nofree (F1.free hc)).2 ec hC (F1.trans F3)⟩
   ·have hq:S.takeL k w=({S with lt:=fU S.lt k w},[]):=by simp only [Pu.takeL,es,if_neg hk]
    rw [hq] at q
    wp_walk using decide_false,hk
    refine hR1 _ _ ?_
    clear hR1
    clear R1
    refine aG fun R2 hR2=>?_
    obtain ⟨kvs,el,L⟩:=A1.lt
    have ll:=L.len
    have fl:=F.lt
    wp_walk using A1.ins,el
    refine fun p2 h2=>?_
    have hp2:=F1.free h2
    have N2:=Kp.new (S:=[]) (o:=.lst []) h2
    have f2:upd G1 p2 (.lst []) p2=some (.lst []):=aA
    have A2:=A1.kp N2
    have el2:=N2.at el
    have LL:=L.keep (fun a _ o h=>N2.at h)
    have F2:=F1.trans (Fw.of N2)
    have nc:=A1.nofree h2
    generalize upd G1 p2 (.lst [])=G2 at *
    wp_walk using el2
    refine ⟨by omega,fun v hv=>?_,fun hv=>?_⟩
    ·rcases LL.look k with ⟨z,_⟩ | ⟨l,ws,z,hn,hla,hl⟩
     ·rw [z] at hv;cases hv
     rw [z] at hv
     cases hv
     have lw:=(F.lw k ws hn).1
     obtain ⟨A3,_⟩:=A2.lset el2 z (ws++[w])
     have F3:=F2.trans (Fw.set (p:=l) (o:=.lst ((ws++[w]).map wv)) (.inr hla))
     rw [show eO S.lt k (ws++[w])=fU S.lt k w by rw [fU,hn]] at A3
     rw [List.map_append,List.map_cons,List.map_nil] at A3 F3
     wp_walk using hl
     refine ⟨by simp;omega,?_⟩
     generalize upd G2 l (.lst (ws.map wv++[wv w]))=G3 at *
     wp_walk
     refine hR2 _ _ ?_
     wp_walk
     refine fun c hc=>?_
     have N4:=Kp.new (S:=[]) (o:=.lst []) hc
     exact q as _ c [] _ (A3.kp N4) (F3.free hc) (A3.nofree hc).2 aA .nil (F3.trans (Fw.of N4))
    ·rcases LL.look k with ⟨z,hn⟩ | ⟨l,ws,z,_⟩
     rotate_left
     ·rw [z] at hv;cases hv
     have A3:=A2.lnew (ws:=[]) el2 z f2 nc.1 nc.2
     have F3:=F2.trans (Fw.set (p:=R.lt) (o:=.dK (d9 kvs (.inr k) (.ref p2))) (.inl (by simp [Rn.cells])))
     have f3:upd G2 R.lt (.dK (d9 kvs (.inr k) (.ref p2))) p2=some (.lst []):=iK el2 f2 (by intro z;cases z)
     have el3:upd G2 R.lt (.dK (d9 kvs (.inr k) (.ref p2))) R.lt=some (.dK (d9 kvs (.inr k) (.ref p2))):=aA
     have z3:bY (d9 kvs (.inr k) (.ref p2)) (.inr k)=some (.ref p2):=by rw [qQ,if_pos rfl]
     generalize upd G2 R.lt (.dK (d9 kvs (.inr k) (.ref p2)))=G3 at *
     wp_walk using f3
     obtain ⟨A4,_⟩:=A3.lset el3 z3 [w]
     have e4:eO (S.lt++[(k,([]:List Wo))]) k [w]=fU S.lt k w:=by rw [vJ hn,fU,hn]
     rw [show ({S with lt:=S.lt++[(k,([]:List Wo))]}:Pu).lt=S.lt++[(k,[])] from rfl,e4] at A4
     have F4:Fw R as (as++[p2]) H (upd G3 p2 (.lst [wv w])):=by
      have z:=F3.fresh (o:=.lst [wv w]) hp2
      exact ⟨z.kp,z.dom,fun a ha=>by
       rcases List.mem_append.mp ha with ha | ha
       ·exact .inl ha
       ·exact .inr (by rw [show a=p2 by simpa using ha];exact hp2)⟩
     replace A4:aW ⟨t.CRun,t.CWalk,t.CTickets⟩ (upd G3 p2 (.lst [wv w])) R (as++[p2]) (.ref p) {S with lt:=fU S.lt k w}:=A4
     generalize upd G3 p2 (.lst [wv w])=G4 at *
     refine hR2 _ _ ?_
     wp_walk
     refine fun c hc=>?_
     have N4:=Kp.new (S:=[]) (o:=.lst []) hc
     exact q (as++[p2]) _ c [] _ (A4.kp N4) (F4.free hc) (A4.nofree hc).2 aA .nil (F4.trans (Fw.of N4))
  ·rw [es] at tl
   obtain ⟨p,pw,rfl,ep,epw⟩:=tl
   refine aG fun R1 hR1=>?_
   wp_walk using A.ins
   refine fun p1 h1=>?_
   have N1:=Kp.new (S:=[]) (o:=.tup [.str "hear",.str k]) h1
   have f1:upd H p1 (.tup [.str "hear",.str k]) p1=some (.tup [.str "hear",.str k]):=aA
   have A1:=A.kp N1
   have hp1:=N1.at ep
   have hpw:=N1.at epw
   have F1:=Fw.of (R:=R) (as:=as) N1
   generalize upd H p1 (.tup [.str "hear",.str k])=G1 at *
   refine .inr ⟨Str.ofString "wait",Str.ofString "hear",k,pw,_,hp1,hpw,rfl,by decide,?_⟩
   have hq:S.takeL k w=({S with lt:=fU S.lt k w},[]):=by simp only [Pu.takeL,es]
   rw [hq] at q
   wp_walk
   refine hR1 _ _ ?_
   clear hR1
   clear R1
   refine aG fun R2 hR2=>?_
   obtain ⟨kvs,el,L⟩:=A1.lt
   have ll:=L.len
   have fl:=F.lt
   wp_walk using A1.ins,el
   refine fun p2 h2=>?_
   have hp2:=F1.free h2
   have N2:=Kp.new (S:=[]) (o:=.lst []) h2
   have f2:upd G1 p2 (.lst []) p2=some (.lst []):=aA
   have A2:=A1.kp N2
   have el2:=N2.at el
   have LL:=L.keep (fun a _ o h=>N2.at h)
   have F2:=F1.trans (Fw.of N2)
   have nc:=A1.nofree h2
   generalize upd G1 p2 (.lst [])=G2 at *
   wp_walk using el2
   refine ⟨by omega,fun v hv=>?_,fun hv=>?_⟩
   ·rcases LL.look k with ⟨z,_⟩ | ⟨l,ws,z,hn,hla,hl⟩
    ·rw [z] at hv;cases hv
    rw [z] at hv
    cases hv
    have lw:=(F.lw k ws hn).1
    obtain ⟨A3,_⟩:=A2.lset el2 z (ws++[w])
    have F3:=F2.trans (Fw.set (p:=l) (o:=.lst ((ws++[w]).map wv)) (.inr hla))
    rw [show eO S.lt k (ws++[w])=fU S.lt k w by rw [fU,hn]] at A3
    rw [List.map_append,List.map_cons,List.map_nil] at A3 F3
    wp_walk using hl
    refine ⟨by simp;omega,?_⟩
    generalize upd G2 l (.lst (ws.map wv++[wv w]))=G3 at *
    wp_walk
    refine hR2 _ _ ?_
    wp_walk
    refine fun c hc=>?_
    have N4:=Kp.new (S:=[]) (o:=.lst []) hc
    exact q as _ c [] _ (A3.kp N4) (F3.free hc) (A3.nofree hc).2 aA .nil (F3.trans (Fw.of N4))
   ·rcases LL.look k with ⟨z,hn⟩ | ⟨l,ws,z,_⟩
    rotate_left
    ·rw [z] at hv;cases hv
    have A3:=A2.lnew (ws:=[]) el2 z f2 nc.1 nc.2
    have F3:=F2.trans (Fw.set (p:=R.lt) (o:=.dK (d9 kvs (.inr k) (.ref p2))) (.inl (by simp [Rn.cells])))
    have f3:upd G2 R.lt (.dK (d9 kvs (.inr k) (.ref p2))) p2=some (.lst []):=iK el2 f2 (by intro z;cases z)
    have el3:upd G2 R.lt (.dK (d9 kvs (.inr k) (.ref p2))) R.lt=some (.dK (d9 kvs (.inr k) (.ref p2))):=aA
    have z3:bY (d9 kvs (.inr k) (.ref p2)) (.inr k)=some (.ref p2):=by rw [qQ,if_pos rfl]
    generalize upd G2 R.lt (.dK (d9 kvs (.inr k) (.ref p2)))=G3 at *
    wp_walk using f3
    obtain ⟨A4,_⟩:=A3.lset el3 z3 [w]
    have e4:eO (S.lt++[(k,([]:List Wo))]) k [w]=fU S.lt k w:=by rw [vJ hn,fU,hn]
    rw [show ({S with lt:=S.lt++[(k,([]:List Wo))]}:Pu).lt=S.lt++[(k,[])] from rfl,e4] at A4
    have F4:Fw R as (as++[p2]) H (upd G3 p2 (.lst [wv w])):=by
     have z:=F3.fresh (o:=.lst [wv w]) hp2
     exact ⟨z.kp,z.dom,fun a ha=>by
      rcases List.mem_append.mp ha with ha | ha
      ·exact .inl ha
      ·exact .inr (by rw [show a=p2 by simpa using ha];exact hp2)⟩
    replace A4:aW ⟨t.CRun,t.CWalk,t.CTickets⟩ (upd G3 p2 (.lst [wv w])) R (as++[p2]) (.ref p) {S with lt:=fU S.lt k w}:=A4
    generalize upd G3 p2 (.lst [wv w])=G4 at *
    refine hR2 _ _ ?_
    wp_walk
    refine fun c hc=>?_
    have N4:=Kp.new (S:=[]) (o:=.lst []) hc
    exact q (as++[p2]) _ c [] _ (A4.kp N4) (F4.free hc) (A4.nofree hc).2 aA .nil (F4.trans (Fw.of N4))
theorem pE {t:Ad} (T:Tx w K mg t):bG P w K mg base CX0 2 t.aTicketsfinish t.dTicketsfinish ["self","ticket","worth"] (zQ t.CTickets):=by
 refine T.fTicketsfinish.ok oH (fun vs H Q E h=>?_) (fun cdv A outer s H vs Q E hr h=>?_)
 ·obtain ⟨tk,tx,dp,da,made,pend,ans,i,w,rfl,_⟩:=h
  rfl
 ·obtain ⟨tk,tx,dp,da,made,pend,ans,i,w,rfl,R,hi,hl,q⟩:=h
  have hu:=kX hr
  refine ⟨_,(aC (bQ (bK (pv 0) T.clTickets T.meTicketsshut (lM T) (hr.mono (by omega)) T.bTicketsshut .nil pass0 (aE (pv 1) aB)))
   (aJ (kA hu (aM T.clTickets T.naanswers (pv 0)) (pv 1) (pv 2)))),?_⟩
  try dsimp only [L2.start,aY,bD,List.cons_append,List.nil_append,List.replicate_succ,List.replicate_zero,List.length_cons,List.length_nil,Nat.reduceAdd,Nat.reduceSub,Nat.zero_add]
  wp_walk using R.ins
  refine ⟨tk,tx,dp,da,made,pend,ans,i,rfl,R,hi,fun H1 R1 K1=>?_⟩
  wp_walk using R1.ins,R1.ha,rW (wv w) (ans_none fun p hp z=>R.dis p hp (z ▸ hi))
  have n1:=R.n1
  refine ⟨by simp only [iU,List.length_map];omega,q _ ⟨by rw [aI n1.2];exact R1.ins,by rw [aI R.nda];exact R1.hp,by rw [aA];simp [iU],R.nda,R1.lt,R1.asc,fun p hp=>?_,fun p hp z=>?_,R.small⟩ ?_⟩
  ·rcases List.mem_append.mp hp with hp | hp
   ·exact R.la p hp
   ·rw [show p=(i,w) by simpa using hp]
    exact R.lt i hi
  ·rcases List.mem_append.mp hp with hp | hp
   ·exact R1.dis p hp z
   ·rw [show p=(i,w) by simpa using hp] at z
    simpa using (List.mem_filter.mp z).2
  ·intro b o eb nb
   simp only [List.mem_cons,List.not_mem_nil,or_false,not_or] at nb
   rw [aI nb.2]
   exact K1.at1 eb nb.1
theorem rH {t:Ad} (T:Tx w K mg t):bG P w K mg base CX0 15 t.aRuntakedone t.dRuntakedone ["self","ticket","worth"] (spTDone ⟨t.CRun,t.CWalk,t.CTickets⟩ true):=by
 refine T.fRuntakedone.ok sC (fun vs H Q E h=>?_) (fun cdv A outer s H vs Q E hr h=>?_)
 ·obtain ⟨R,as,sl,S,i,w,N,rfl,_⟩:=h
  rfl
 ·obtain ⟨R,as,sl,S,i,w,N,rfl,A,F,hN,hw,hi,hn,q⟩:=h
  refine ⟨_,(aC (bQ (bK (aM T.clRun T.natickets (pv 0)) T.clTickets T.meTicketsfinish (pE T) (hr.mono (by omega)) T.bTicketsfinish .nil pass0 (aE (pv 1) (aE (pv 2) aB))))
   (aC (bH (PW.pt (vU (aQ cD (aX bL (aM T.clRun T.nasleep (pv 0)) aD (fun _ _=>rfl)) aP (nomark _)) (qD (aQ zK (pv 1) (aX bL (aM T.clRun T.nasleep (pv 0)) aD (fun _ _=>rfl)) (by with_unfolding_all rfl))))) (aJ (aN (bK (pv 0) T.clRun T.meRunwake (rR T) (hr.mono (by omega)) T.bRunwake .nil pass0 (aE (pv 1) aB)))) aV)
   (aJ (aN (bN aB))))),?_⟩
  try dsimp only [L2.start,aY,bD,List.cons_append,List.nil_append,List.replicate_succ,List.replicate_zero,List.length_cons,List.length_nil,Nat.reduceAdd,Nat.reduceSub,Nat.zero_add]
  refine aG fun R1 hR1=>?_
  wp_walk using A.ins,A.tk.ins
  refine ⟨R.tk,R.tx,R.dp,R.da,_,_,_,i,w,rfl,A.tk,hi,by have:=F.an;omega,fun H1 T1 K1=>?_⟩
  have K2:Kp [R.tk,R.dp,R.da] H H1:=K1.mono (by simp;try omega)
  have A1:aW ⟨t.CRun,t.CWalk,t.CTickets⟩ H1 R as sl (S.done i w):=A.tick T1 K2
  have F1:=A.ftick T1 K2
  have FD:=F.done (i:=i) hw
  have wi:eC (some i):=eI (by have:=(A.tk.lt i hi).1;omega) (by have:=(A.tk.lt i hi).2;have:=F.md;omega)
  wp_walk
  refine hR1 _ _ ?_
  clear hR1
  clear R1
  refine aG fun R2 hR2=>?_
  cases es:S.sl with
  | non=>rw [es] at hn;cases hn
  | wait ts =>
   have hsl:=A1.slp
   rw [show (S.done i w).sl=S.sl from rfl,es] at hsl
   obtain ⟨p,p2,rfl,ep,ep2⟩:=hsl
   simp only [Pu.takeD,es] at q
   wp_walk using A1.ins,ep,ep2,in_ints,abU
   refine ⟨rfl,?_⟩
   by_cases ht:i∈ts
   ·rw [if_pos ht] at q
    wp_walk using ht,decide_true,A1.ins
    exact ⟨R,as,.ref p,_,some i,N+1,rfl,A1,FD,by omega,wi,.inr ⟨ts,es⟩,fun sl3 c us H3 A3 hc ec hC F3=>q sl3 c us H3 A3 (F1.free hc) ec hC (F1.trans F3)⟩
   ·rw [if_neg ht] at q
    wp_walk using ht,decide_false
    refine hR2 _ _ ?_
    wp_walk
    refine fun c hc=>?_
    have N4:=Kp.new (S:=[]) (o:=.lst []) hc
    exact q _ c [] _ (A1.kp N4) (F1.free hc) aA .nil (F1.trans (Fw.of N4))
  | new =>
   have hsl:=A1.slp
   rw [show (S.done i w).sl=S.sl from rfl,es] at hsl
   obtain ⟨p,rfl,ep⟩:=hsl
   simp only [Pu.takeD,es] at q
   wp_walk using A1.ins,ep
   refine hR2 _ _ ?_
   wp_walk
   refine fun c hc=>?_
   have N4:=Kp.new (S:=[]) (o:=.lst []) hc
   exact q _ c [] _ (A1.kp N4) (F1.free hc) aA .nil (F1.trans (Fw.of N4))
  | hear k =>
   have hsl:=A1.slp
   rw [show (S.done i w).sl=S.sl from rfl,es] at hsl
   obtain ⟨p,rfl,ep⟩:=hsl
   simp only [Pu.takeD,es] at q
   wp_walk using A1.ins,ep
   refine hR2 _ _ ?_
   wp_walk
   refine fun c hc=>?_
   have N4:=Kp.new (S:=[]) (o:=.lst []) hc
   exact q _ c [] _ (A1.kp N4) (F1.free hc) aA .nil (F1.trans (Fw.of N4))
  | ended u =>
   have hsl:=A1.slp
   rw [show (S.done i w).sl=S.sl from rfl,es] at hsl
   obtain ⟨p,rfl,ep⟩:=hsl
   simp only [Pu.takeD,es] at q
   wp_walk using A1.ins,ep
   refine hR2 _ _ ?_
   wp_walk
   refine fun c hc=>?_
   have N4:=Kp.new (S:=[]) (o:=.lst []) hc
   exact q _ c [] _ (A1.kp N4) (F1.free hc) aA .nil (F1.trans (Fw.of N4))
  | worn =>
   have hsl:=A1.slp
   rw [show (S.done i w).sl=S.sl from rfl,es] at hsl
   obtain ⟨p,rfl,ep⟩:=hsl
   simp only [Pu.takeD,es] at q
   wp_walk using A1.ins,ep
   refine hR2 _ _ ?_
   wp_walk
   refine fun c hc=>?_
   have N4:=Kp.new (S:=[]) (o:=.lst []) hc
   exact q _ c [] _ (A1.kp N4) (F1.free hc) aA .nil (F1.trans (Fw.of N4))
theorem kE {t:Ad} (T:Tx w K mg t):bG P w K mg base CX0 16 t.aRuntake t.dRuntake ["self","happening"] (spTakeR ⟨t.CRun,t.CWalk,t.CTickets⟩ true):=by
 refine T.fRuntake.ok yQ (fun vs H Q E h=>?_) (fun cdv A outer s H vs Q E hr h=>?_)
 ·obtain ⟨R,as,sl,S,v,h,N,rfl,_⟩:=h
  rfl
 ·obtain ⟨R,as,sl,S,v,h,N,rfl,A,F,hN,hn,hH,ok,q⟩:=h
  refine ⟨_,(aC (bH (mX (bK (pv 0) T.clRun T.meRunpassesover (oB T) (hr.mono (by omega)) T.bRunpassesover .nil pass0 (aE (pv 1) aB))) (aJ (aN (bN aB))) aV)
   (aC (cP T.clRun T.nanow (pv 0) (bU (oO rfl) rfl T.zmax yS (aE (aM T.clRun T.nanow (pv 0)) (aE (aX bL (pv 1) aD (fun _ _=>rfl)) aB))))
   (aC (bH (aQ cD (aX bL (pv 1) aD (fun _ _=>rfl)) aP (nomark _)) (aC (cP T.clRun T.naarg (pv 0) (aX bL (pv 1) aD (fun _ _=>rfl)))
   (aJ (aN (bT (pv 0) T.clRun T.meRungoon (rB T) (hr.mono (by omega)) T.bRungoon .nil pass0)))) aV)
   (aC (bH (aQ cD (aX bL (pv 1) aD (fun _ _=>rfl)) aP (nomark _)) (aJ (aN (bK (pv 0) T.clRun T.meRuntakedone (rH T) (hr.mono (by omega)) T.bRuntakedone .nil pass0 (aE (aX bL (pv 1) aD (fun _ _=>rfl)) (aE (aX bL (pv 1) aD (fun _ _=>rfl)) aB))))) aV)
   (aJ (aN (bK (pv 0) T.clRun T.meRuntakeletter (oG T) (hr.mono (by omega)) T.bRuntakeletter .nil pass0 (aE (aX bL (pv 1) aD (fun _ _=>rfl)) (aE (aX bL (pv 1) aD (fun _ _=>rfl)) aB))))))))),?_⟩
  try dsimp only [L2.start,aY,bD,List.cons_append,List.nil_append,List.replicate_succ,List.replicate_zero,List.length_cons,List.length_nil,Nat.reduceAdd,Nat.reduceSub,Nat.zero_add]
  refine aG fun R1 hR1=>?_
  wp_walk using A.ins
  refine ⟨R,as,sl,S,v,h,rfl,A,hn,hH,fun H1 K1=>?_⟩
  have A1:=A.kp K1
  obtain ⟨a,rfl,eh⟩:=hH
  have eh1:=K1.at eh
  cases ho:S.over h with
  | true =>
   simp only [Pu.take,ho,if_true] at q
   wp_walk
   have F1:=Fw.of (R:=R) (as:=as) K1
   refine fun c hc=>?_
   have N4:=Kp.new (S:=[]) (o:=.lst []) hc
   exact q as _ c [] _ (A1.kp N4) (F1.free hc) (A1.nofree hc).2 aA .nil (F1.trans (Fw.of N4))
  | false =>
   simp only [Pu.take,ho,if_false,Bool.false_eq_true] at q
   wp_walk
   refine hR1 _ _ ?_
   clear hR1
   clear R1
   cases h with
   | beg m w =>
    simp only [Hap.vs,Hap.ini,Hap.w,List.cons_append,List.nil_append] at eh1
    refine aG fun R2 hR2=>?_
    wp_walk using A1.ins,eh1
    have F1:=Fw.of (R:=R) (as:=as) K1
    have A2:=A1.attr sl S.sl S.ar (later S.nw m) A1.slp
    have F2s:=Fw.set (R:=R) (as:=as) (H:=H1) (p:=R.x) (o:=(.ins t.CRun R.dx [("walk",.ref R.wk),("sleep",sl),("arg",wv S.ar),("now",.int (later S.nw m)),("names",.ref R.nm),("tickets",.ref R.tk),("letters",.ref R.lt)])) (.inl (by simp [Rn.cells]))
    have eh2:=A1.tkp F2s _ _ eh1
    have F2:=F1.trans F2s
    clear F2s
    change R2 _ (upd H1 R.x (.ins t.CRun R.dx [("walk",.ref R.wk),("sleep",sl),("arg",wv S.ar),("now",.int (later S.nw m)),("names",.ref R.nm),("tickets",.ref R.tk),("letters",.ref R.lt)]))
    generalize upd H1 R.x (.ins t.CRun R.dx [("walk",.ref R.wk),("sleep",sl),("arg",wv S.ar),("now",.int (later S.nw m)),("names",.ref R.nm),("tickets",.ref R.tk),("letters",.ref R.lt)])=G2 at *
    refine hR2 _ _ ?_
    clear hR2
    clear R2
    wp_walk using A2.ins,eh2
    have A3:=A2.attr sl S.sl w (later S.nw m) A2.slp
    have F3:=F2.trans (Fw.set (p:=R.x) (o:=(.ins t.CRun R.dx [("walk",.ref R.wk),("sleep",sl),("arg",wv w),("now",.int (later S.nw m)),("names",.ref R.nm),("tickets",.ref R.tk),("letters",.ref R.lt)])) (.inl (by simp [Rn.cells])))
    generalize upd G2 R.x (.ins t.CRun R.dx [("walk",.ref R.wk),("sleep",sl),("arg",wv w),("now",.int (later S.nw m)),("names",.ref R.nm),("tickets",.ref R.tk),("letters",.ref R.lt)])=G3 at *
    wp_walk using A3.ins
    have FF:Fit true ({S with nw:=later S.nw m,ar:=w,sl:=.non}:Pu) N:={F with pl:=⟨F.pl.nm,ok.2,F.pl.an⟩,nw:=(F.at' ok.1).nw,sl:=⟨fun k e=>(by cases e),fun k e=>(by cases e)⟩}
    exact ⟨R,as,sl,_,N,rfl,A3,FF,by omega,fun sl3 c us H3 A4 hc ec hC F4=>q as sl3 c us H3 A4 (F3.free hc) (A.nofree (F3.free hc)).2 ec hC (F3.trans F4)⟩
   | don m i w =>
    simp only [Hap.vs,Hap.ini,Hap.w,List.cons_append,List.nil_append] at eh1
    have hi:i∈S.pend:=by
     cases es:S.sl<;>simp only [Pu.over,es,Bool.not_eq_false',decide_eq_true_eq] at ho
     all_goals first | exact ho | cases ho
    refine aG fun R2 hR2=>?_
    wp_walk using A1.ins,eh1
    have F1:=Fw.of (R:=R) (as:=as) K1
    have A2:=A1.attr sl S.sl S.ar (later S.nw m) A1.slp
    have F2s:=Fw.set (R:=R) (as:=as) (H:=H1) (p:=R.x) (o:=(.ins t.CRun R.dx [("walk",.ref R.wk),("sleep",sl),("arg",wv S.ar),("now",.int (later S.nw m)),("names",.ref R.nm),("tickets",.ref R.tk),("letters",.ref R.lt)])) (.inl (by simp [Rn.cells]))
    have eh2:=A1.tkp F2s _ _ eh1
    have F2:=F1.trans F2s
    clear F2s
    change R2 _ (upd H1 R.x (.ins t.CRun R.dx [("walk",.ref R.wk),("sleep",sl),("arg",wv S.ar),("now",.int (later S.nw m)),("names",.ref R.nm),("tickets",.ref R.tk),("letters",.ref R.lt)]))
    generalize upd H1 R.x (.ins t.CRun R.dx [("walk",.ref R.wk),("sleep",sl),("arg",wv S.ar),("now",.int (later S.nw m)),("names",.ref R.nm),("tickets",.ref R.tk),("letters",.ref R.lt)])=G2 at *
    refine hR2 _ _ ?_
    clear hR2
    clear R2
    wp_walk using A2.ins,eh2
    exact ⟨R,as,sl,S.at' m,i,w,N,rfl,A2,F.at' ok.1,by omega,ok.2,hi,hn,fun sl3 c us H3 A4 hc ec hC F4=>q as sl3 c us H3 A4 (F2.free hc) (A.nofree (F2.free hc)).2 ec hC (F2.trans F4)⟩
   | ltr m k w =>
    simp only [Hap.vs,Hap.ini,Hap.w,List.cons_append,List.nil_append] at eh1
    have hs:(∃ k,S.sl=.hear k)∨∃ ts,S.sl=.wait ts:=by
     cases es:S.sl with
     | hear k=>exact .inl ⟨k,rfl⟩
     | wait ts=>exact .inr ⟨ts,rfl⟩
     | non=>rw [es] at hn;cases hn
     | _=>simp only [Pu.over,es] at ho;cases ho
    refine aG fun R2 hR2=>?_
    wp_walk using A1.ins,eh1
    have F1:=Fw.of (R:=R) (as:=as) K1
    have A2:=A1.attr sl S.sl S.ar (later S.nw m) A1.slp
    have F2s:=Fw.set (R:=R) (as:=as) (H:=H1) (p:=R.x) (o:=(.ins t.CRun R.dx [("walk",.ref R.wk),("sleep",sl),("arg",wv S.ar),("now",.int (later S.nw m)),("names",.ref R.nm),("tickets",.ref R.tk),("letters",.ref R.lt)])) (.inl (by simp [Rn.cells]))
    have eh2:=A1.tkp F2s _ _ eh1
    have F2:=F1.trans F2s
    clear F2s
    change R2 _ (upd H1 R.x (.ins t.CRun R.dx [("walk",.ref R.wk),("sleep",sl),("arg",wv S.ar),("now",.int (later S.nw m)),("names",.ref R.nm),("tickets",.ref R.tk),("letters",.ref R.lt)]))
    generalize upd H1 R.x (.ins t.CRun R.dx [("walk",.ref R.wk),("sleep",sl),("arg",wv S.ar),("now",.int (later S.nw m)),("names",.ref R.nm),("tickets",.ref R.tk),("letters",.ref R.lt)])=G2 at *
    refine hR2 _ _ ?_
    clear hR2
    clear R2
    wp_walk using A2.ins,eh2
    exact ⟨R,as,sl,S.at' m,k,w,N,rfl,A2,F.at' ok.1,by omega,ok.2,hs,fun as' sl3 c us H3 A4 hc nc ec hC F4=>q as' sl3 c us H3 A4 (F2.free hc) nc ec hC (F2.trans F4)⟩
theorem pK {t:Ad} (T:Tx w K mg t):bG P w K mg base CX0 18 t.alawtaken t.dlawtaken ["program","happenings"] (aaZ ⟨t.CRun,t.CWalk,t.CTickets⟩):=by
 refine T.flawtaken.ok lR (fun vs H Q E h=>?_) (fun cdv A outer s H vs Q E hr h=>?_)
 ·obtain ⟨pg,hl,us,hv,b,hs,rfl,_⟩:=h
  rfl
 ·obtain ⟨pg,hl,us,hv,b,hs,rfl,ep,hsP,gb,db,eh,hH,fine,l1,q⟩:=h
  refine ⟨_,(aC (bA (i:=2) lR.nd rfl (Or.inr rfl) (vN T.mkRun (qV T) (hr.mono (by omega)) rfl T.mRun T.bRuninit .nil pass0 (aE (pv 0) aB)))
   (aC (fG (i:=3) (fr:=[2]) (N:=["happening","run"]) rfl (fun _ _ h=>h) (dW.free rfl rfl rfl rfl rfl (fun _ _ h=>h) rfl (by decide) rfl (fun j hj=>by rw [show j=2 by simpa using hj];exact ⟨_,rfl,rfl,.inl rfl⟩)) (fS (pv 1)) (fun C s H ex pn=>⟨nN,(bK (pv 1) T.clRun T.meRuntake (kE T) (hr.mono (by omega)) T.bRuntake .nil pass0 (aE (pv 0) aB))⟩) lR.nd rfl (Or.inl rfl))
   (aJ (aN (bB (aE (pv 2) (aE (pv 3) aB))))))),?_⟩
  try dsimp only [L2.start,aY,bD,List.cons_append,List.nil_append,List.replicate_succ,List.replicate_zero,List.length_cons,List.length_nil,Nat.reduceAdd,Nat.reduceSub,Nat.zero_add]
  refine aG fun R1 hR1=>?_
  have lu:=hsP.len
  wp_walk using ep
  refine mk_run ep hsP fun R sl G0 RA K0 NR=>?_
  have eh0:=K0.at eh
  have hH0:=hH.kt (aK.nil K0)
  have lh:=hH.len
  have ehH:=eh
  clear lu ep hsP eh hH
  refine hR1 _ _ ?_
  clear hR1
  clear R1
  refine aG fun R2 hR2=>?_
  wp_walk using eh0
  refine ⟨⟨_,eA.of eh0⟩,?_⟩
  obtain ⟨Pv,hPv⟩:∃ Pv:Nat→List V→Hp→Prop,∀ i xs G,Pv i xs G = ∃(as:List Addr) (sl:V) (rs:List Addr),xs=rs.map V.ref∧aW ⟨t.CRun,t.CWalk,t.CTickets⟩ G R as sl (takes (dU b) (hs.take i)).1∧Fit true (takes (dU b) (hs.take i)).1 (302 * i)∧(takes (dU b) (hs.take i)).1.sl.isN=false∧eE G rs (takes (dU b) (hs.take i)).2∧rs.Nodup∧rs.length≤i∧(∀ a∈rs,a∉R.cells∧a∉as∧H a=none)∧(∀ a,a∈R.cells∨a∈as→H a=none)∧Kp [] H G∧G hl=some (.lst hv)∧bJ G hv hs:=⟨_,fun _ _ _=>rfl⟩
  have NR0:∀ a,a∈R.cells∨a∈([]:List Addr)→H a=none:=fun a ha=>by
   rcases ha with ha | ha
   ·exact NR a ha
   ·simp at ha
  refine iZ (ys:=hv) Pv ?_ ?_ ?_ ?_ ?_
  ·rw [hPv]
   exact ⟨[],sl,[],rfl,RA,aaG gb db,rfl,.nil,.nil,Nat.le_refl _,by simp,NR0,K0,eh0,hH0⟩
  ·intro i xs G h
   rw [hPv] at h
   obtain ⟨_,_,rs,rfl,_,_,_,hr,_,hl,_⟩:=h
   rw [List.length_map,hr.len,mK,List.length_take]
   omega
  ·intro i xs G h
   rw [hPv] at h
   obtain ⟨_,_,_,_,_,_,_,_,_,_,_,_,_,e,_⟩:=h
   exact eA.of e
  ·intro i y xs G hi ey h
   rw [hPv] at h
   obtain ⟨as,sl,rs,rfl,RA,FA,hN,hr,nd,lr,hf,hR,KG,eG,hG⟩:=h
   obtain ⟨x,ex,hx⟩:=hG.j6 ey
   have es:takes (dU b) (hs.take (i+1))=(((takes (dU b) (hs.take i)).1.take x).1,(takes (dU b) (hs.take i)).2++[((takes (dU b) (hs.take i)).1.take x).2]):=by rw [List.take_add_one,ex,Option.toList_some,mU]
   have fx:=fine x (List.mem_of_getElem? ex)
   generalize takes (dU b) (hs.take i)=Z at *
   obtain ⟨S,css⟩:=Z
   have il:i < hs.length:=(List.getElem?_eq_some_iff.mp ex).1
   wp_walk using bM,Option.join_some,RA.ins
   refine ⟨R,as,_,S,y,x,302 * i,rfl,RA,FA,by omega,hN,hx,fx,fun as' sl2 c uc G2 A2 hc nc ec hC F2=>?_⟩
   have T2:=RA.tkp F2
   have FA2:=FA.takeAny x fx.1 fx.2 (fun j hj=>by
    have:=RA.tk.lt j hj
    have:=FA.md
    exact eI (by omega) (by simp only at *;omega)) (by omega)
   have hcH:=KG.wasFree hc
   have ncf:=RA.nofree hc
   show Pv (i+1) _ _
   rw [hPv,es]
   refine ⟨as',sl2,rs++[c],by simp,A2,FA2.more (by omega),sN hN x,(hr.keep (fun a ha o e=>F2.kp a o e (hf a ha).1 (hf a ha).2.1) T2).snoc ec hC,?_,by simp;omega,fun a ha=>?_,fun a ha=>?_,F2.kpNew KG hR,F2.kp _ _ eG ?_ ?_,hG.kt T2⟩
   ·rw [List.nodup_append]
    refine ⟨nd,by simp,fun a ha y hy=>?_⟩
    rw [show y=c by simpa using hy]
    intro z
    obtain ⟨o,e⟩:=hr.there a ha
    rw [z,hc] at e
    cases e
   ·rcases List.mem_append.mp ha with ha | ha
    ·refine ⟨(hf a ha).1,fun z=>?_,(hf a ha).2.2⟩
     rcases F2.new a z with y | y
     ·exact (hf a ha).2.1 y
     ·obtain ⟨o,e⟩:=hr.there a ha
      rw [y] at e
      cases e
    ·rw [show a=c by simpa using ha]
     exact ⟨ncf.1,nc,hcH⟩
   ·rcases ha with ha | ha
    ·exact hR a (.inl ha)
    ·rcases F2.new a ha with z | z
     ·exact hR a (.inr z)
     ·exact KG.wasFree z
   ·exact fun z=>by rw [hR hl (.inl z)] at ehH;cases ehH
   ·exact fun z=>by rw [hR hl (.inr z)] at ehH;cases ehH
  intro xs G h cl hcl
  rw [hPv] at h
  obtain ⟨as,sl,rs,rfl,RA,FA,hN,hr,nd,lr,hf,hR,KG,eG,hG⟩:=h
  rw [lh,List.take_length] at RA FA hN hr
  clear hPv
  have ncl:=RA.nofree hcl
  have hclH:=KG.wasFree hcl
  have N1:=Kp.new (S:=[]) (o:=.lst (rs.map V.ref)) hcl
  have ecl:upd G cl (.lst (rs.map V.ref)) cl=some (.lst (rs.map V.ref)):=aA
  have hrc:∀ a∈rs,a≠cl:=fun a ha z=>by
   obtain ⟨o,e⟩:=hr.there a ha
   rw [z,hcl] at e
   cases e
  replace hr:=hr.keep (fun a _ o e=>N1.at e) (aK.nil N1)
  replace RA:=RA.kp N1
  replace KG:=KG.trans N1
  generalize upd G cl (.lst (rs.map V.ref))=G2 at *
  clear N1 hcl eG hG
  refine hR2 _ _ ?_
  clear hR2
  clear R2
  wp_walk
  intro t0 ht
  have N2:=Kp.new (S:=[]) (o:=.tup [.ref R.x,.ref cl]) ht
  exact q t0 R as sl cl rs _ aA (RA.kp N2) FA hN (N2.at ecl) (hr.keep (fun a _ o e=>N2.at e) (aK.nil N2)) nd (fun a ha=>⟨(hf a ha).1,(hf a ha).2.1,(hf a ha).2.2,hrc a ha⟩) ncl hR hclH (KG.trans N2)
theorem pO {t:Ad} (T:Tx w K mg t):bG P w K mg base CX0 18 t.arunagain t.drunagain ["program","happenings"] (aaZ ⟨t.CRun,t.CWalk,t.CTickets⟩):=by
 refine T.frunagain.ok kT (fun vs H Q E h=>?_) (fun cdv A outer s H vs Q E hr h=>?_)
 ·obtain ⟨pg,hl,us,hv,b,hs,rfl,_⟩:=h
  rfl
 ·obtain ⟨pg,hl,us,hv,b,hs,rfl,ep,hsP,gb,db,eh,hH,fine,l1,q⟩:=h
  refine ⟨_,(aC (bA (i:=2) kT.nd rfl (Or.inr rfl) (vN T.mkRun (qV T) (hr.mono (by omega)) rfl T.mRun T.bRuninit .nil pass0 (aE (pv 0) aB)))
   (aC (fG (i:=3) (fr:=[2]) (N:=["happening","run"]) rfl (fun _ _ h=>h) (dW.free rfl rfl rfl rfl rfl (fun _ _ h=>h) rfl (by decide) rfl (fun j hj=>by rw [show j=2 by simpa using hj];exact ⟨_,rfl,rfl,.inl rfl⟩)) (fS (pv 1)) (fun C s H ex pn=>⟨nN,(bK (pv 1) T.clRun T.meRuntake (kE T) (hr.mono (by omega)) T.bRuntake .nil pass0 (aE (pv 0) aB))⟩) kT.nd rfl (Or.inl rfl))
   (aJ (aN (bB (aE (pv 2) (aE (pv 3) aB))))))),?_⟩
  try dsimp only [L2.start,aY,bD,List.cons_append,List.nil_append,List.replicate_succ,List.replicate_zero,List.length_cons,List.length_nil,Nat.reduceAdd,Nat.reduceSub,Nat.zero_add]
  refine aG fun R1 hR1=>?_
  have lu:=hsP.len
  wp_walk using ep
  refine mk_run ep hsP fun R sl G0 RA K0 NR=>?_
  have eh0:=K0.at eh
  have hH0:=hH.kt (aK.nil K0)
  have lh:=hH.len
  have ehH:=eh
  clear lu ep hsP eh hH
  refine hR1 _ _ ?_
  clear hR1
  clear R1
  refine aG fun R2 hR2=>?_
  wp_walk using eh0
  refine ⟨⟨_,eA.of eh0⟩,?_⟩
  obtain ⟨Pv,hPv⟩:∃ Pv:Nat→List V→Hp→Prop,∀ i xs G,Pv i xs G = ∃(as:List Addr) (sl:V) (rs:List Addr),xs=rs.map V.ref∧aW ⟨t.CRun,t.CWalk,t.CTickets⟩ G R as sl (takes (dU b) (hs.take i)).1∧Fit true (takes (dU b) (hs.take i)).1 (302 * i)∧(takes (dU b) (hs.take i)).1.sl.isN=false∧eE G rs (takes (dU b) (hs.take i)).2∧rs.Nodup∧rs.length≤i∧(∀ a∈rs,a∉R.cells∧a∉as∧H a=none)∧(∀ a,a∈R.cells∨a∈as→H a=none)∧Kp [] H G∧G hl=some (.lst hv)∧bJ G hv hs:=⟨_,fun _ _ _=>rfl⟩
  have NR0:∀ a,a∈R.cells∨a∈([]:List Addr)→H a=none:=fun a ha=>by
   rcases ha with ha | ha
   ·exact NR a ha
   ·simp at ha
  refine iZ (ys:=hv) Pv ?_ ?_ ?_ ?_ ?_
  ·rw [hPv]
   exact ⟨[],sl,[],rfl,RA,aaG gb db,rfl,.nil,.nil,Nat.le_refl _,by simp,NR0,K0,eh0,hH0⟩
  ·intro i xs G h
   rw [hPv] at h
   obtain ⟨_,_,rs,rfl,_,_,_,hr,_,hl,_⟩:=h
   rw [List.length_map,hr.len,mK,List.length_take]
   omega
  ·intro i xs G h
   rw [hPv] at h
   obtain ⟨_,_,_,_,_,_,_,_,_,_,_,_,_,e,_⟩:=h
   exact eA.of e
  ·intro i y xs G hi ey h
   rw [hPv] at h
   obtain ⟨as,sl,rs,rfl,RA,FA,hN,hr,nd,lr,hf,hR,KG,eG,hG⟩:=h
   obtain ⟨x,ex,hx⟩:=hG.j6 ey
   have es:takes (dU b) (hs.take (i+1))=(((takes (dU b) (hs.take i)).1.take x).1,(takes (dU b) (hs.take i)).2++[((takes (dU b) (hs.take i)).1.take x).2]):=by rw [List.take_add_one,ex,Option.toList_some,mU]
   have fx:=fine x (List.mem_of_getElem? ex)
   generalize takes (dU b) (hs.take i)=Z at *
   obtain ⟨S,css⟩:=Z
   have il:i < hs.length:=(List.getElem?_eq_some_iff.mp ex).1
   wp_walk using bM,Option.join_some,RA.ins
   refine ⟨R,as,_,S,y,x,302 * i,rfl,RA,FA,by omega,hN,hx,fx,fun as' sl2 c uc G2 A2 hc nc ec hC F2=>?_⟩
   have T2:=RA.tkp F2
   have FA2:=FA.takeAny x fx.1 fx.2 (fun j hj=>by
    have:=RA.tk.lt j hj
    have:=FA.md
    exact eI (by omega) (by simp only at *;omega)) (by omega)
   have hcH:=KG.wasFree hc
   have ncf:=RA.nofree hc
   show Pv (i+1) _ _
   rw [hPv,es]
   refine ⟨as',sl2,rs++[c],by simp,A2,FA2.more (by omega),sN hN x,(hr.keep (fun a ha o e=>F2.kp a o e (hf a ha).1 (hf a ha).2.1) T2).snoc ec hC,?_,by simp;omega,fun a ha=>?_,fun a ha=>?_,F2.kpNew KG hR,F2.kp _ _ eG ?_ ?_,hG.kt T2⟩
   ·rw [List.nodup_append]
    refine ⟨nd,by simp,fun a ha y hy=>?_⟩
    rw [show y=c by simpa using hy]
    intro z
    obtain ⟨o,e⟩:=hr.there a ha
    rw [z,hc] at e
    cases e
   ·rcases List.mem_append.mp ha with ha | ha
    ·refine ⟨(hf a ha).1,fun z=>?_,(hf a ha).2.2⟩
     rcases F2.new a z with y | y
     ·exact (hf a ha).2.1 y
     ·obtain ⟨o,e⟩:=hr.there a ha
      rw [y] at e
      cases e
    ·rw [show a=c by simpa using ha]
     exact ⟨ncf.1,nc,hcH⟩
   ·rcases ha with ha | ha
    ·exact hR a (.inl ha)
    ·rcases F2.new a ha with z | z
     ·exact hR a (.inr z)
     ·exact KG.wasFree z
   ·exact fun z=>by rw [hR hl (.inl z)] at ehH;cases ehH
   ·exact fun z=>by rw [hR hl (.inr z)] at ehH;cases ehH
  intro xs G h cl hcl
  rw [hPv] at h
  obtain ⟨as,sl,rs,rfl,RA,FA,hN,hr,nd,lr,hf,hR,KG,eG,hG⟩:=h
  rw [lh,List.take_length] at RA FA hN hr
  clear hPv
  have ncl:=RA.nofree hcl
  have hclH:=KG.wasFree hcl
  have N1:=Kp.new (S:=[]) (o:=.lst (rs.map V.ref)) hcl
  have ecl:upd G cl (.lst (rs.map V.ref)) cl=some (.lst (rs.map V.ref)):=aA
  have hrc:∀ a∈rs,a≠cl:=fun a ha z=>by
   obtain ⟨o,e⟩:=hr.there a ha
   rw [z,hcl] at e
   cases e
  replace hr:=hr.keep (fun a _ o e=>N1.at e) (aK.nil N1)
  replace RA:=RA.kp N1
  replace KG:=KG.trans N1
  generalize upd G cl (.lst (rs.map V.ref))=G2 at *
  clear N1 hcl eG hG
  refine hR2 _ _ ?_
  clear hR2
  clear R2
  wp_walk
  intro t0 ht
  have N2:=Kp.new (S:=[]) (o:=.tup [.ref R.x,.ref cl]) ht
  exact q t0 R as sl cl rs _ aA (RA.kp N2) FA hN (N2.at ecl) (hr.keep (fun a _ o e=>N2.at e) (aK.nil N2)) nd (fun a ha=>⟨(hf a ha).1,(hf a ha).2.1,(hf a ha).2.2,hrc a ha⟩) ncl hR hclH (KG.trans N2)
theorem vW {t:Ad} (T:Tx w K mg t):bG P w K mg base CX0 1 t.aWalkplace t.dWalkplace ["self"] (spPlace t.CWalk):=by
 refine T.fWalkplace.ok u7 (fun vs H Q E h=>?_) (fun cdv A outer s H vs Q E hr h=>?_)
 ·obtain ⟨wk,wx,lb,ln,st,rfl,_⟩:=h
  rfl
 ·obtain ⟨wk,wx,lb,ln,st,rfl,W,q⟩:=h
  refine ⟨_,(aJ (aN (cI fI rfl T.ztuple eX (aE (aM T.clWalk T.nanumbers (pv 0)) aB)))),?_⟩
  try dsimp only [L2.start,aY,bD,List.cons_append,List.nil_append,List.replicate_succ,List.replicate_zero,List.length_cons,List.length_nil,Nat.reduceAdd,Nat.reduceSub,Nat.zero_add]
  wp_walk using W.ins,W.nu
  exact q
theorem mN {t:Ad} (T:Tx w K mg t):bG P w K mg base CX0 1 t.aTicketsthoseopen t.dTicketsthoseopen ["self"] (spTkThose t.CTickets):=by
 refine T.fTicketsthoseopen.ok mO (fun vs H Q E h=>?_) (fun cdv A outer s H vs Q E hr h=>?_)
 ·obtain ⟨tk,tx,dp,da,made,pend,ans,rfl,_⟩:=h
  rfl
 ·obtain ⟨tk,tx,dp,da,made,pend,ans,rfl,R,h64,q⟩:=h
  refine ⟨_,(aJ (aN (bU (y1 rfl) rfl T.zsorted mF (aE (aM T.clTickets T.napending (pv 0)) aB)))),?_⟩
  try dsimp only [L2.start,aY,bD,List.cons_append,List.nil_append,List.replicate_succ,List.replicate_zero,List.length_cons,List.length_nil,Nat.reduceAdd,Nat.reduceSub,Nat.zero_add]
  wp_walk using R.ins,R.hp,pend_keys
  exact ⟨R.asc,fun l ns' hl hp hs=>by rw [pJ hp hs R.asc];exact q l hl⟩
theorem iY {t:Ad} (T:Tx w K mg t):bG P w K mg base CX0 2 t.aRunopentickets t.dRunopentickets ["self"] (spOpenR ⟨t.CRun,t.CWalk,t.CTickets⟩):=by
 refine T.fRunopentickets.ok nF (fun vs H Q E h=>?_) (fun cdv A outer s H vs Q E hr h=>?_)
 ·obtain ⟨R,as,sl,S,rfl,_⟩:=h
  rfl
 ·obtain ⟨R,as,sl,S,rfl,A,h64,q⟩:=h
  refine ⟨_,(aJ (aN (bT (aM T.clRun T.natickets (pv 0)) T.clTickets T.meTicketsthoseopen (mN T) (hr.mono (by omega)) T.bTicketsthoseopen .nil pass0))),?_⟩
  try dsimp only [L2.start,aY,bD,List.cons_append,List.nil_append,List.replicate_succ,List.replicate_zero,List.length_cons,List.length_nil,Nat.reduceAdd,Nat.reduceSub,Nat.zero_add]
  wp_walk using A.ins,A.tk.ins
  exact ⟨R.tk,R.tx,R.dp,R.da,_,_,_,rfl,A.tk,h64,q⟩
theorem xK {t:Ad} (T:Tx w K mg t):bG P w K mg base CX0 3 t.aRunstate t.dRunstate ["self"] (spState ⟨t.CRun,t.CWalk,t.CTickets⟩):=by
 refine T.fRunstate.ok lA (fun vs H Q E h=>?_) (fun cdv A outer s H vs Q E hr h=>?_)
 ·obtain ⟨R,as,sl,S,rfl,_⟩:=h
  rfl
 ·obtain ⟨R,as,sl,S,rfl,A,hn,b1,b2,b3,b4,b5,q⟩:=h
  have hu:=kX hr
  refine ⟨_,(aC (bH (aQ uM (aX bL (aM T.clRun T.nasleep (pv 0)) aD (fun _ _=>rfl)) (bB (aE aP (aE aP aB))) (by with_unfolding_all rfl)) (aJ (aN (aM T.clRun T.nasleep (pv 0)))) aV)
   (aC (fG (i:=1) (fr:=[0]) (N:=["name","self"]) rfl (fun _ _ h=>h) (dW.free rfl rfl rfl rfl rfl (fun _ _ h=>h) rfl (by decide) rfl (fun j hj=>by rw [show j=0 by simpa using hj];exact ⟨_,rfl,rfl,.inl rfl⟩)) (fS (bU (sA rfl) rfl T.zsorted mF (aE (aM T.clRun T.nanames (pv 0)) aB))) (fun C s H ex pn=>⟨nO (aQ op_isnotC (nG hu (aM T.clRun T.nanames (pv 1)) (pv 0) (fun _ _=>rfl)) eV (nomark _)),(bB (aE (pv 0) (aE (nG hu (aM T.clRun T.nanames (pv 1)) (pv 0) (fun _ _=>rfl)) aB)))⟩) lA.nd rfl (Or.inl rfl))
   (aC (fG (i:=2) (fr:=[0]) (N:=["key","self"]) rfl (fun _ _ h=>h) (dW.free rfl rfl rfl rfl rfl (fun _ _ h=>h) rfl (by decide) rfl (fun j hj=>by rw [show j=0 by simpa using hj];exact ⟨_,rfl,rfl,.inl rfl⟩)) (fS (bU (sA rfl) rfl T.zsorted mF (aE (aM T.clRun T.naletters (pv 0)) aB))) (fun C s H ex pn=>⟨nO (qB (nG hu (aM T.clRun T.naletters (pv 1)) (pv 0) (fun _ _=>rfl)) (fun _=>rfl)),(bB (aE (pv 0) (aE (cI fI rfl T.ztuple eX (aE (nG hu (aM T.clRun T.naletters (pv 1)) (pv 0) (fun _ _=>rfl)) aB)) aB)))⟩) lA.nd rfl (Or.inl rfl))
   (aJ (aN (bB (aE (aM T.clRun T.nasleep (pv 0)) (aE (bT (aM T.clRun T.nawalk (pv 0)) T.clWalk T.meWalkplace (vW T) (hr.mono (by omega)) T.bWalkplace .nil pass0) (aE (aM T.clRun T.naarg (pv 0)) (aE (aM T.clRun T.nanow (pv 0)) (aE (cI fI rfl T.ztuple eX (aE (pv 1) aB)) (aE (aM T.clTickets T.namade (aM T.clRun T.natickets (pv 0))) (aE (cI fI rfl T.ztuple eX (aE (bT (pv 0) T.clRun T.meRunopentickets (iY T) (hr.mono (by omega)) T.bRunopentickets .nil pass0) aB)) (aE (cI (y7 rfl) rfl T.ztuple eX (aE (pe_items (aM T.clTickets T.naanswers (aM T.clRun T.natickets (pv 0)))) aB)) (aE (cI fI rfl T.ztuple eX (aE (pv 2) aB)) aB))))))))))))))),?_⟩
  try dsimp only [L2.start,aY,bD,List.cons_append,List.nil_append,List.replicate_succ,List.replicate_zero,List.length_cons,List.length_nil,Nat.reduceAdd,Nat.reduceSub,Nat.zero_add]
  refine aG fun R1 hR1=>?_
  obtain ⟨ps,s0,r0,rfl,ep,hin⟩:=A.slp.word hn
  refine oN fun RI hRI=>?_
  wp_walk using A.ins,ep
  refine fun p1 m1=>⟨rfl,rfl,?_⟩
  rw [hin]
  have N1:=Kp.new (S:=[]) (o:=.tup [.str "wait",.str "hear"]) m1
  replace A:=A.kp N1
  generalize upd H p1 (.tup [.str "wait",.str "hear"])=G1 at *
  clear m1 ep hin
  cases hg:S.sl.going with
  | false =>
   rw [if_pos (show (!false)=true from rfl)]
   refine hRI _ _ ?_
   wp_walk using A.ins
   exact q _ _ (by unfold sB;rw [if_neg (by rw [hg];simp)];exact A.slp) N1
  | true =>
   rw [if_neg (by simp)]
   clear hRI RI
   refine hR1 _ _ ?_
   clear hR1
   clear R1
   refine aG fun R2 hR2=>?_
   wp_walk using A.ins,A.nm,aaN
   refine ⟨by rw [List.length_map];exact b2,fun l ns hl hp hs=>?_⟩
   have hks:∀ n∈ns,n∈S.nm.map (·.1):=fun n hn=>hp.mem_iff.mp hn
   have lns:ns.length < 64:=by rw [hp.length_eq,List.length_map];exact b2
   have ens:=srt_of hp hs
   have N2:=Kp.new (S:=[]) (o:=.lst (ns.map V.str)) hl
   have el:upd G1 l (.lst (ns.map V.str)) l=some (.lst (ns.map V.str)):=aA
   replace A:=A.kp N2
   replace N1:=N1.trans N2
   generalize upd G1 l (.lst (ns.map V.str))=G2 at *
   clear hp hs hl N2
   refine ⟨⟨_,eA.of el⟩,?_⟩
   obtain ⟨Pv,hPv⟩:∃ Pv:Nat→List V→Hp→Prop,∀ i xs G,Pv i xs G=(eU G xs (eY S.nm (ns.take i))∧Kp [] G2 G):=⟨_,fun _ _ _=>rfl⟩
   refine iZ (ys:=ns.map V.str) Pv ?_ ?_ ?_ ?_ ?_
   ·rw [hPv];exact ⟨.nil,Kp.refl⟩
   ·intro i xs G h
    rw [hPv] at h
    rw [h.1.len]
    have h1:=oM S.nm (ns.take i)
    rw [List.length_take] at h1
    omega
   ·intro i xs G h
    rw [hPv] at h
    exact eA.of (h.2.at el)
   ·intro i y xs G hi ey h
    rw [hPv] at h
    obtain ⟨hP,KG⟩:=h
    obtain ⟨n,en,rfl⟩:∃ n,ns[i]?=some n∧y=V.str n:=by
     rw [List.getElem?_map] at ey
     obtain ⟨n,a0,b0⟩:=Option.map_eq_some_iff.mp ey
     exact ⟨n,a0,b0.symm⟩
    have vn:=nmK_in (hks n (List.mem_of_getElem? en))
    have AG:=A.kp KG
    have es:eY S.nm (ns.take (i+1))=eY S.nm (ns.take i)++eY S.nm [n]:=by rw [List.take_add_one,en,Option.toList_some,tZ]
    wp_walk using bM,Option.join_some,AG.ins,AG.nm,vn
    cases hw:jD S.nm n with
    | none =>
     rw [if_pos (show wv none=V.non from rfl),hPv,es]
     exact ⟨by rw [show eY S.nm [n]=[] by simp [eY,hw],List.append_nil];exact hP,KG⟩
    | some z =>
     rw [if_neg (by simp [wv])]
     intro p hp
     rw [hPv,es,show eY S.nm [n]=[(.str n,wv (some z))] by simp [eY,hw]]
     exact ⟨(hP.kt (aK.new hp)).snoc aA,KG.trans (Kp.new hp)⟩
   intro un G h ln2 hln
   rw [hPv] at h
   obtain ⟨hP,KG⟩:=h
   rw [List.length_map,List.take_length,ens] at hP
   replace hP:eU G un S.nmS:=hP
   have lun:un.length≤64:=by
    rw [hP.len]
    have h1:=oM S.nm (srt (S.nm.map (·.1)))
    rw [← ens] at h1
    show (eY S.nm (srt (S.nm.map (·.1)))).length≤64
    rw [← ens]
    omega
   have N3:=Kp.new (S:=[]) (o:=.lst un) hln
   have eun:upd G ln2 (.lst un) ln2=some (.lst un):=aA
   replace hP:=hP.kt (aK.nil N3)
   replace A:=A.kp (KG.trans N3)
   replace N1:=N1.trans (KG.trans N3)
   generalize upd G ln2 (.lst un)=G3 at *
   clear hPv KG N3 hln el hks ens lns
   refine hR2 _ _ ?_
   clear hR2
   clear R2
   refine aG fun R3 hR3=>?_
   obtain ⟨kvs,ek,hL⟩:=A.lt
   have sk:=strK_lt hL
   wp_walk using A.ins,ek,sk
   refine ⟨by rw [List.length_map];exact b3,fun l ns hl hp hs=>?_⟩
   have hks:∀ n∈ns,n∈S.lt.map (·.1):=fun n hn=>hp.mem_iff.mp hn
   have lns:ns.length < 64:=by rw [hp.length_eq,List.length_map];exact b3
   have ens:=srt_of hp hs
   have N2:=Kp.new (S:=[]) (o:=.lst (ns.map V.str)) hl
   have el:upd G3 l (.lst (ns.map V.str)) l=some (.lst (ns.map V.str)):=aA
   replace A:=A.kp N2
   replace N1:=N1.trans N2
   replace hP:=hP.kt (aK.nil N2)
   replace eun:=N2.at eun
   replace ek:=N2.at ek
   replace hL:=hL.keep (fun a _ o e=>N2.at e)
   generalize upd G3 l (.lst (ns.map V.str))=G4 at *
   clear hp hs hl N2 sk
   refine ⟨⟨_,eA.of el⟩,?_⟩
   obtain ⟨Pv,hPv⟩:∃ Pv:Nat→List V→Hp→Prop,∀ i xs G,Pv i xs G=(gW G xs (gM S.lt (ns.take i))∧Kp [] G4 G):=⟨_,fun _ _ _=>rfl⟩
   refine iZ (ys:=ns.map V.str) Pv ?_ ?_ ?_ ?_ ?_
   ·rw [hPv];exact ⟨.nil,Kp.refl⟩
   ·intro i xs G h
    rw [hPv] at h
    rw [h.1.len]
    have h1:=oS S.lt (ns.take i)
    rw [List.length_take] at h1
    omega
   ·intro i xs G h
    rw [hPv] at h
    exact eA.of (h.2.at el)
   ·intro i y xs G hi ey h
    rw [hPv] at h
    obtain ⟨hT,KG⟩:=h
    obtain ⟨n,en,rfl⟩:∃ n,ns[i]?=some n∧y=V.str n:=by
     rw [List.getElem?_map] at ey
     obtain ⟨n,a0,b0⟩:=Option.map_eq_some_iff.mp ey
     exact ⟨n,a0,b0.symm⟩
    obtain ⟨la,ws,vn,lw,ela⟩:=hL.inS (hks n (List.mem_of_getElem? en))
    have AG:=A.kp KG
    have ekG:=KG.at ek
    have elG:=KG.at ela
    have es:gM S.lt (ns.take (i+1))=gM S.lt (ns.take i)++gM S.lt [n]:=by rw [List.take_add_one,en,Option.toList_some,t8]
    wp_walk using bM,Option.join_some,AG.ins,ekG,vn,elG
    cases ws with
    | nil =>
     rw [if_neg (by simp),hPv,es]
     exact ⟨by rw [show gM S.lt [n]=[] by simp [gM,lw],List.append_nil];exact hT,KG⟩
    | cons w r =>
     rw [if_pos (by simp)]
     wp_walk using AG.ins,ekG,vn,elG
     intro q1 m1 q2 m2
     rw [hPv,es,show gM S.lt [n]=[(n,w::r)] by simp [gM,lw]]
     exact ⟨((hT.kt (aK.new m1)).kt (aK.new m2)).snoc aA ((Kp.new (S:=[]) m2).at aA),(KG.trans (Kp.new m1)).trans (Kp.new m2)⟩
   intro ut G h ln3 hln
   rw [hPv] at h
   obtain ⟨hT,KG⟩:=h
   rw [List.length_map,List.take_length] at hT
   have lut:ut.length≤64:=by
    rw [hT.len]
    have h1:=oS S.lt ns
    omega
   rw [ens] at hT
   replace hT:gW G ut S.ltS:=hT
   have N3:=Kp.new (S:=[]) (o:=.lst ut) hln
   have eut:upd G ln3 (.lst ut) ln3=some (.lst ut):=aA
   replace hT:=hT.kt (aK.nil N3)
   replace hP:=hP.kt (aK.nil (KG.trans N3))
   replace eun:=(KG.trans N3).at eun
   replace A:=A.kp (KG.trans N3)
   replace N1:=N1.trans (KG.trans N3)
   generalize upd G ln3 (.lst ut)=G5 at *
   clear hPv KG N3 hln el hks ens lns ek hL
   refine hR3 _ _ ?_
   clear hR3
   clear R3
   wp_walk using A.ins,A.wk.ins
   refine ⟨R.wk,R.wx,R.lb,R.ln,S.stk,rfl,A.wk,fun pl m1=>?_⟩
   have N4:=Kp.new (S:=[]) (o:=.tup ((bV S.stk).map V.int)) m1
   have epl:upd G5 pl (.tup ((bV S.stk).map V.int)) pl=some (.tup ((bV S.stk).map V.int)):=aA
   replace A:=A.kp N4
   replace N1:=N1.trans N4
   replace hP:=hP.kt (aK.nil N4)
   replace hT:=hT.kt (aK.nil N4)
   replace eun:=N4.at eun
   replace eut:=N4.at eut
   generalize upd G5 pl (.tup ((bV S.stk).map V.int))=G6 at *
   clear N4 m1
   wp_walk using A.ins,A.tk.ins,eun
   refine fun pn m2=>?_
   have N4:=Kp.new (S:=[]) (o:=.tup un) m2
   have epn:upd G6 pn (.tup un) pn=some (.tup un):=aA
   replace A:=A.kp N4
   replace N1:=N1.trans N4
   replace hP:=hP.kt (aK.nil N4)
   replace hT:=hT.kt (aK.nil N4)
   replace eun:=N4.at eun
   replace eut:=N4.at eut
   replace epl:=N4.at epl
   generalize upd G6 pn (.tup un)=G7 at *
   clear N4 m2
   wp_walk using A.ins,A.tk.ins
   refine ⟨R,as,_,S,rfl,A,b1,fun lo m3=>?_⟩
   have N4:=Kp.new (S:=[]) (o:=.lst (S.pend.map V.int)) m3
   have elo:upd G7 lo (.lst (S.pend.map V.int)) lo=some (.lst (S.pend.map V.int)):=aA
   replace A:=A.kp N4
   replace N1:=N1.trans N4
   replace hP:=hP.kt (aK.nil N4)
   replace hT:=hT.kt (aK.nil N4)
   replace eun:=N4.at eun
   replace eut:=N4.at eut
   replace epl:=N4.at epl
   replace epn:=N4.at epn
   generalize upd G7 lo (.lst (S.pend.map V.int))=G8 at *
   clear N4 m3
   wp_walk using elo
   refine fun po m4=>?_
   have N4:=Kp.new (S:=[]) (o:=.tup (S.pend.map V.int)) m4
   have epo:upd G8 po (.tup (S.pend.map V.int)) po=some (.tup (S.pend.map V.int)):=aA
   replace A:=A.kp N4
   replace N1:=N1.trans N4
   replace hP:=hP.kt (aK.nil N4)
   replace hT:=hT.kt (aK.nil N4)
   replace eun:=N4.at eun
   replace eut:=N4.at eut
   replace epl:=N4.at epl
   replace epn:=N4.at epn
   generalize upd G8 po (.tup (S.pend.map V.int))=G9 at *
   clear N4 m4
   wp_walk using A.ins,A.tk.ins,A.tk.ha
   refine fun rv m5=>?_
   have N4:=Kp.new (S:=[]) (o:=ItE rv R.da) m5
   have erv:upd G9 rv (ItE rv R.da) rv=some (ItE rv R.da):=aA
   replace A:=A.kp N4
   replace N1:=N1.trans N4
   replace hP:=hP.kt (aK.nil N4)
   replace hT:=hT.kt (aK.nil N4)
   replace eun:=N4.at eun
   replace eut:=N4.at eut
   replace epl:=N4.at epl
   replace epn:=N4.at epn
   replace epo:=N4.at epo
   generalize upd G9 rv (ItE rv R.da)=GA at *
   clear N4 m5
   refine ⟨R.da,_,rfl,A.tk.ha,fun pa aa GB m6 sm epa hla hpa=>?_⟩
   have N4:Kp [] GA GB:=Kp.of sm
   replace A:=A.kp N4
   replace N1:=N1.trans N4
   replace hP:=hP.kt (aK.nil N4)
   replace hT:=hT.kt (aK.nil N4)
   replace eun:=N4.at eun
   replace eut:=N4.at eut
   replace epl:=N4.at epl
   replace epn:=N4.at epn
   replace epo:=N4.at epo
   have hA:eU GB (aa.map V.ref) S.anS:=eU.of (by rw [hla,Pu.anS,List.length_map,iU,List.length_map]) fun j a x y e1 e2=>by
    rw [Pu.anS,List.getElem?_map] at e2
    obtain ⟨p0,e3,e4⟩:=Option.map_eq_some_iff.mp e2
    cases e4
    exact hpa j a (.inl p0.1) (wv p0.2) e1 (by rw [iU,List.getElem?_map,e3];rfl)
   clear N4 sm hla hpa m6 erv
   wp_walk using eut
   refine fun pt m7 p m8=>?_
   have N4:=(Kp.new (S:=[]) (o:=.tup ut) m7).trans (Kp.new (o:=.tup [.ref ps,.ref pl,wv S.ar,.int S.nw,.ref pn,.int S.made,.ref po,.ref pa,.ref pt]) m8)
   refine q _ _ ?_ (N1.trans N4)
   unfold sB
   rw [if_pos hg]
   have T:=aK.nil N4
   exact ⟨p,pl,pn,po,pa,pt,.ref ps,un,_,ut,rfl,aA,A.slp.kt T,N4.at epl,N4.at epn,hP.kt T,N4.at epo,N4.at epa,hA.kt T,(Kp.new (S:=[]) m8).at aA,hT.kt T⟩
theorem wH {t:Ad} (T:Tx w K mg t):bG P w K mg base CX0 1 t.aRunwaits t.dRunwaits ["self"] (spWaitsR ⟨t.CRun,t.CWalk,t.CTickets⟩):=by
 refine T.fRunwaits.ok xC (fun vs H Q E h=>?_) (fun cdv A outer s H vs Q E hr h=>?_)
 ·obtain ⟨R,as,sl,S,rfl,_⟩:=h
  rfl
 ·obtain ⟨R,as,sl,S,rfl,A,q⟩:=h
  refine ⟨_,(aJ (aN (aM T.clRun T.nasleep (pv 0)))),?_⟩
  try dsimp only [L2.start,aY,bD,List.cons_append,List.nil_append,List.replicate_succ,List.replicate_zero,List.length_cons,List.length_nil,Nat.reduceAdd,Nat.reduceSub,Nat.zero_add]
  wp_walk using A.ins
  exact q
theorem hJ {t:Ad} (T:Tx w K mg t):bG P w K mg base CX0 4 t.alawstands t.dlawstands ["run"] (spStand ⟨t.CRun,t.CWalk,t.CTickets⟩):=by
 refine T.flawstands.ok wE (fun vs H Q E h=>?_) (fun cdv A outer s H vs Q E hr h=>?_)
 ·obtain ⟨R,as,sl,S,rfl,_⟩:=h
  rfl
 ·obtain ⟨R,as,sl,S,rfl,A,hn,b1,b2,b3,b4,b5,q⟩:=h
  refine ⟨_,(aJ (aN (bB (aE (bT (pv 0) T.clRun T.meRunstate (xK T) (hr.mono (by omega)) T.bRunstate .nil pass0) (aE (bT (pv 0) T.clRun T.meRunwaits (wH T) (hr.mono (by omega)) T.bRunwaits .nil pass0) (aE (bT (pv 0) T.clRun T.meRunopentickets (iY T) (hr.mono (by omega)) T.bRunopentickets .nil pass0) aB)))))),?_⟩
  try dsimp only [L2.start,aY,bD,List.cons_append,List.nil_append,List.replicate_succ,List.replicate_zero,List.length_cons,List.length_nil,Nat.reduceAdd,Nat.reduceSub,Nat.zero_add]
  wp_walk using A.ins
  refine ⟨R,as,sl,S,rfl,A,hn,b1,b2,b3,b4,b5,fun v G1 hv K1=>?_⟩
  have A1:=A.kp K1
  wp_walk using A1.ins
  refine ⟨R,as,sl,S,rfl,A1,?_⟩
  wp_walk using A1.ins
  refine ⟨R,as,sl,S,rfl,A1,b1,fun lo m1=>?_⟩
  have N1:=Kp.new (S:=[]) (o:=.lst (S.pend.map V.int)) m1
  wp_walk
  intro p m2
  have N2:=Kp.new (S:=[]) (o:=.tup [v,sl,.ref lo]) m2
  have T:=aK.nil (N1.trans N2)
  exact q p _ ⟨v,sl,lo,aA,hv.kt T,A1.slp.kt T,N2.at aA⟩ (K1.trans (N1.trans N2))
theorem ok_law {t:Ad} (T:Tx w K mg t):bG P w K mg base CX0 30 t.alaw t.dlaw ["script"] (aaV K):=by
 refine T.flaw.ok fE (fun vs H Q E h=>?_) (fun cdv A outer s H vs Q E hr h=>?_)
 ·obtain ⟨a,ns,rfl,_⟩:=h
  rfl
 ·obtain ⟨a,ns,rfl,hS,h63,q⟩:=h
  refine ⟨_,(aC (bA (i:=1) fE.nd rfl (Or.inl rfl) (aO (tF T) (hr.mono (by omega)) rfl T.mlawprogram T.flawprogram.kp T.blawprogram .nil pass0 (aE (aO (uY T) (hr.mono (by omega)) rfl T.mlawcellat T.flawcellat.kp T.blawcellat .nil pass0 (aE (pv 0) (aE aD aB))) aB)))
   (aC (fG (i:=2) (cl:=[]) (fr:=[]) (N:=["cell"]) rfl (fun _ _ h=>h) (dW.nofree rfl rfl rfl rfl) (fS (gL abE (pv 0) (gH aD) (gH aD))) (fun C s H ex pn=>⟨nN,(aO (pY T) (hr.mono (by omega)) rfl T.mlawhappening T.flawhappening.kp T.blawhappening .nil pass0 (aE (aO (uB T) (hr.mono (by omega)) rfl T.mlawjar T.flawjar.kp T.blawjar .nil pass0 (aE (pv 0) aB)) aB))⟩) fE.nd rfl (Or.inl rfl))
   (aC (bH (aQ cD (bF jK (bU mG rfl T.zlen jL (aE (pv 0) aB)) aD) aD (nomark _)) (aJ (bA (i:=2) fE.nd rfl (Or.inl rfl) (gL z9 (bF op_repC (pv 2) aD) lX (gH aD)))) aV)
   (aC (bA (i:=2) fE.nd rfl (Or.inl rfl) (bF eM (gL z9 (bN (aE (bB (aE aP (aE aD (aE aD aB)))) aB)) (gH (bF nL (bF jK (bU mG rfl T.zlen jL (aE (pv 0) aB)) aD) aD)) lX) (pv 2)))
   (aC (bA (i:=3) fE.nd rfl (Or.inl rfl) (aX bL (aO (pK T) (hr.mono (by omega)) rfl T.mlawtaken T.flawtaken.kp T.blawtaken .nil pass0 (aE (pv 1) (aE (pv 2) aB))) aD (fun _ _=>rfl)))
   (aC (rJ PassesOwn.never rfl (fS (bN (aE aD (aE aD (aE (bF nL (bU jW rfl T.zlen jL (aE (pv 2) aB)) aD) (aE (bU jW rfl T.zlen jL (aE (pv 2) aB)) aB)))))) (i0 (i:=4) fE.nd rfl (Or.inl rfl)) (aC (vM (aO (pK T) (hr.mono (by omega)) rfl T.mlawtaken T.flawtaken.kp T.blawtaken .nil pass0 (aE (pv 1) (aE (gL z9 (pv 2) lX (gH (pv 4))) aB))) (pg_tup rfl (wI (i0 (i:=5) fE.nd rfl (Or.inl rfl)) (wI (i0 (i:=6) fE.nd rfl (Or.inl rfl)) pgs_nil))))
   (aC (bA (i:=7) fE.nd rfl (Or.inl rfl) (cI uD rfl T.zlist qE (aE (gL z9 (pv 2) lX (gH (pv 4))) aB)))
   (aC (bA (i:=8) fE.nd rfl (Or.inl rfl) (aO (pO T) (hr.mono (by omega)) rfl T.mrunagain T.frunagain.kp T.brunagain .nil pass0 (aE (pv 1) (aE (pv 7) aB))))
   (aC (bH (PW.pt (mS (vV (mX (bU call_isiC rfl T.zisinstance jJ (aE (pv 8) (aE (wC (v:=.ty "tuple") rfl T.ztuple eX rfl) aB))))) (mS (aQ op_ne (bU jW rfl T.zlen jL (aE (pv 8) aB)) aD (nomark _)) (mS (vV (mX (bU t7 rfl T.zisinstance jJ (aE (aX bL (pv 8) aD (fun _ _=>rfl)) (aE (wC (v:=.ty "list") rfl T.zlist qE rfl) aB))))) (mZ (aQ (jI 3 (q9 hr (by decide))) (aX bL (pv 8) aD (fun _ _=>rfl)) (gL z9 (pv 3) lX (gH (pv 4))) (nomark _))))))) (aJ (aN nS)) aV)
   (aC (bH (PW.pt (mS (aQ (jI 3 (q9 hr (by decide))) (pv 6) (aX bL (pv 8) aD (fun _ _=>rfl)) (nomark _)) (mS (aQ (jI 5 (q9 hr (by decide))) (aO (hJ T) (hr.mono (by omega)) rfl T.mlawstands T.flawstands.kp T.blawstands .nil pass0 (aE (aX bL (pv 8) aD (fun _ _=>rfl)) aB)) (aO (hJ T) (hr.mono (by omega)) rfl T.mlawstands T.flawstands.kp T.blawstands .nil pass0 (aE (pv 5) aB)) (nomark _)) (mZ (aQ (jI 1 (q9 hr (by decide))) (pv 7) (gL z9 (pv 2) lX (gH (pv 4))) (nomark _)))))) (aJ (aN nS)) aV)
   (aC (rJ PassesOwn.never rfl (fS (aX bL (pv 8) aD (fun _ _=>rfl))) (i0 (i:=9) fE.nd rfl (Or.inl rfl)) (aC (bH (vV (mX (bU t7 rfl T.zisinstance jJ (aE (pv 9) (aE (wC (v:=.ty "list") rfl T.zlist qE rfl) aB))))) (aJ (aN nS)) aV)
   (aJ (bQ (lU (pv 9) aP)))))
   (aC (fG (i:=10) (cl:=[]) (fr:=[]) (N:=["row"]) rfl (fun _ _ h=>h) (dW.nofree rfl rfl rfl rfl) (fS (pv 6)) (fun C s H ex pn=>⟨nN,(bF eM (pv 0) (bN (aE aP aB)))⟩) fE.nd rfl (Or.inl rfl))
   (aC (bH (PW.pt (mS (aQ (jI 3 (q9 hr (by decide))) (aX bL (aO (pO T) (hr.mono (by omega)) rfl T.mrunagain T.frunagain.kp T.brunagain .nil pass0 (aE (pv 1) (aE (pv 7) aB))) aD (fun _ _=>rfl)) (pv 6) (nomark _)) (mZ (aQ (jI 3 (q9 hr (by decide))) (aX bL (pv 8) aD (fun _ _=>rfl)) (pv 10) (nomark _))))) (aJ (aN nS)) aV)
   (aC (bH (aQ cD (bF jK (bU mG rfl T.zlen jL (aE (pv 0) aB)) aD) aD (nomark _)) (aJ (bQ (lU (pv 7) (bB (aE aP (aE aD (aE aP (aE aD aB)))))))) aV)
   (aC (bA (i:=11) fE.nd rfl (Or.inl rfl) (cI uD rfl T.zlist qE (aE (pv 7) aB)))
   (aC (rJ PassesOwn.never rfl (fS (gL z9 (pv 2) (gH (pv 4)) (gH (bF eM (pv 4) aD)))) (i0 (i:=12) fE.nd rfl (Or.inl rfl)) (aJ (bH (PW.pt (mS (aQ (jI 2 (q9 hr (by decide))) (bK (aX bL (pv 8) aD (fun _ _=>rfl)) T.clRun T.meRuntake (kE T) (hr.mono (by omega)) T.bRuntake .nil pass0 (aE (pv 12) aB)) (bK (pv 5) T.clRun T.meRuntake (kE T) (hr.mono (by omega)) T.bRuntake .nil pass0 (aE (pv 12) aB)) (nomark _)) (mZ (aQ (jI 5 (q9 hr (by decide))) (aO (hJ T) (hr.mono (by omega)) rfl T.mlawstands T.flawstands.kp T.blawstands .nil pass0 (aE (aX bL (pv 8) aD (fun _ _=>rfl)) aB)) (aO (hJ T) (hr.mono (by omega)) rfl T.mlawstands T.flawstands.kp T.blawstands .nil pass0 (aE (pv 5) aB)) (nomark _))))) (aJ (aN nS)) aV)))
   (aJ (bH (PW.pt (mS (aQ (jI 1 (q9 hr (by decide))) (pv 7) (pv 11) (nomark _)) (mZ (aQ (jI 3 (q9 hr (by decide))) (aX bL (pv 8) aD (fun _ _=>rfl)) (pv 10) (nomark _))))) (aJ (aN nS)) aV))))))))))))))
   (aJ (aN nS)))))))),?_⟩
  try dsimp only [L2.start,aY,bD,List.cons_append,List.nil_append,List.replicate_succ,List.replicate_zero,List.length_cons,List.length_nil,Nat.reduceAdd,Nat.reduceSub,Nat.zero_add]
  refine aG fun R1 hR1=>?_
  wp_walk
  refine ⟨a,ns,0,rfl,hS,Int.le_refl _,fun z=>?_⟩
  wp_walk
  refine ⟨z,rfl,fun pg us b G1 ep hsP gb nb db lb K1=>?_⟩
  have hS1:=K1.same.seq hS
  clear hS K1 lb
  wp_walk
  refine hR1 _ _ ?_
  clear hR1
  clear R1
  refine aG fun R2 hR2=>?_
  wp_walk
  refine ⟨_,hS1,fun p1 h1=>?_⟩
  obtain ⟨ms,em,lm⟩:=cut_ints ns (some 1) (some 51)
  rw [em]
  have N1:=Kp.new (S:=[]) (o:=.lst (ms.map V.int)) h1
  have e1:upd G1 p1 (.lst (ms.map V.int)) p1=some (.lst (ms.map V.int)):=aA
  replace hS1:=N1.same.seq hS1
  replace ep:=N1.at ep
  replace hsP:=hsP.kp (aK.nil N1)
  generalize upd G1 p1 (.lst (ms.map V.int))=G2 at *
  clear N1 h1 em
  refine ⟨⟨_,eA.of e1⟩,?_⟩
  obtain ⟨Pv,hPv⟩:∃ Pv:Nat→List V→Hp→Prop,∀ i xs G,Pv i xs G = ∃ hs:List Hap,bJ G xs hs∧(∀ h∈hs,h.inK)∧hs.length≤i∧i≤63∧Kp [] G2 G:=⟨_,fun _ _ _=>rfl⟩
  refine iZ (ys:=ms.map V.int) Pv ?_ ?_ ?_ ?_ ?_
  ·rw [hPv]
   exact ⟨[],.nil,by simp,by simp,by decide,Kp.refl⟩
  ·intro i xs G h
   rw [hPv] at h
   obtain ⟨hs,hH,_,hj,hj2,_⟩:=h
   have:=hH.len
   omega
  ·intro i xs G h
   rw [hPv] at h
   obtain ⟨_,_,_,_,_,k⟩:=h
   exact eA.of (k.at e1)
  ·intro i y xs G hi ey h
   rw [hPv] at h
   obtain ⟨hs,hH,ok,hj1,hj2,k⟩:=h
   obtain ⟨z,rfl⟩:=ints_at ey
   rw [List.length_map] at hi
   wp_walk using bM,Option.join_some
   refine fun r H2 nr K2 J2=>⟨r,rfl,J2,fun v h H3 hA hm hw hk J3 K3=>?_⟩
   have K23:Kp [] G H3:=fun b o e _=>K3.at1 (K2.at e) (aL e nr)
   show Pv (i+1) _ _
   rw [hPv]
   exact ⟨hs++[h],(hH.kt (aK.nil K23)).snoc hA,fun g hg=>by
    rcases List.mem_append.mp hg with hg | hg
    ·exact ok g hg
    ·rw [show g=h by simpa using hg];exact ⟨⟨hm,hw⟩,hk⟩,by simp;omega,by omega,k.trans K23⟩
  intro xs G h x0 hx0
  rw [hPv] at h
  obtain ⟨hs,hH,ok,hj1,hj2,k⟩:=h
  have KX:=Kp.new (S:=[]) (o:=.lst xs) hx0
  have ex:upd G x0 (.lst xs) x0=some (.lst xs):=aA
  replace hH:=hH.kt (aK.nil KX)
  replace k:=k.trans KX
  replace hS1:=k.same.seq hS1
  replace ep:=k.at ep
  replace hsP:=hsP.kp (aK.nil k)
  generalize upd G x0 (.lst xs)=G3 at *
  rw [List.length_map] at hj1 hj2
  clear hPv e1 KX k hx0
  refine hR2 _ _ ?_
  clear hR2
  clear R2
  refine aG fun R3 hR3=>?_
  suffices fin:∀(x0:Addr) (xs:List V) (hs:List Hap) (G:Hp),G x0=some (.lst xs)→bJ G xs hs→(∀ h∈hs,h.inK)→hs.length≤315→Kp [] G3 G→R3 [some (.ref a),some (.ref pg),some (.ref x0),none,none,none,none,none,none,none,none,none,none] G by
   have lH:=hH.len
   wp_walk
   refine ⟨_,hS1,?_⟩
   split
   ·wp_walk using ex
    refine ⟨by omega,fun p3 hp3=>?_⟩
    have K3:=Kp.new (S:=[]) (o:=.lst (repV 5 xs)) hp3
    wp_walk
    refine fun p4 hp4=>?_
    have K4:=K3.trans (Kp.new (S:=[]) (o:=.lst (kH (repV 5 xs) none (some 200))) hp4)
    obtain ⟨gs,hg,mg,lg⟩:=((show bJ G3 (repV 5 xs) (List.replicate 5 hs).flatten from hH.rep 5).cut none (some 200))
    refine fin p4 _ gs _ aA (hg.kt (aK.nil K4)) (fun g hm=>?_) ?_ K4
    ·obtain ⟨l,hl,hm⟩:=List.mem_flatten.mp (mg g hm)
     rw [(List.mem_replicate.mp hl).2] at hm
     exact ok g hm
    ·have h2:=(hH.rep 5).len
     have h3:(List.replicate 5 xs).flatten.length=5 * xs.length:=aa6 xs 5
     omega
   ·exact fin x0 xs hs G3 ex hH ok (by omega) Kp.refl
  clear ex hH ok hj1 hj2 xs hs x0
  intro x0 xsA hsA G ex hH ok lh k
  replace hS1:=k.same.seq hS1
  replace ep:=k.at ep
  replace hsP:=hsP.kp (aK.nil k)
  clear k
  refine hR3 _ _ ?_
  clear hR3
  clear R3
  refine aG fun R4 hR4=>?_
  wp_walk using ex
  refine fun q1 m1 q2 m2=>?_
  have N1:=Kp.new (S:=[]) (o:=.tup [.str "begin",.int 3,.int 2]) m1
  have N2:=N1.trans (Kp.new (o:=.lst [.ref q1]) m2)
  refine ⟨_,N2.same.seq hS1,?_⟩
  wp_walk
  refine ⟨⟨by decide,by decide⟩,fun q3 m3=>?_⟩
  obtain ⟨gs,hg,mg,lg⟩:=bJ.cut (show bJ (upd (upd G q1 (.tup [.str "begin",.int 3,.int 2])) q2 (.lst [.ref q1])) [.ref q1] [.beg 3 (some 2)] from .cons ⟨q1,rfl,(Kp.new (S:=[]) m2).at aA⟩ .nil) (some (((ns.map V.int).length:Int) % 3 / 2)) none
  generalize kH [.ref q1] (some (((ns.map V.int).length:Int) % 3 / 2)) none=ys at *
  have N3:=N2.trans (Kp.new (o:=.lst ys) m3)
  replace hg:=hg.kt (aK.nil (Kp.new (S:=[]) (o:=.lst ys) m3))
  have e3:upd (upd (upd G q1 (.tup [.str "begin",.int 3,.int 2])) q2 (.lst [.ref q1])) q3 (.lst ys) q3=some (.lst ys):=aA
  generalize upd (upd (upd G q1 (.tup [.str "begin",.int 3,.int 2])) q2 (.lst [.ref q1])) q3 (.lst ys)=G4 at *
  replace ex:=N3.at ex
  replace hH:=hH.kt (aK.nil N3)
  replace hS1:=N3.same.seq hS1
  replace ep:=N3.at ep
  replace hsP:=hsP.kp (aK.nil N3)
  replace lg:gs.length≤1:=lg
  have l1:=hg.len
  have l2:=hH.len
  clear N1 N2 N3 m1 m2 m3
  wp_walk using ex,e3
  refine ⟨by omega,fun x nx=>?_⟩
  have N1:=Kp.new (S:=[]) (o:=.lst (ys++xsA)) nx
  have ey:upd G4 x (.lst (ys++xsA)) x=some (.lst (ys++xsA)):=aA
  have hY:=(hg.app hH).kt (aK.nil N1)
  replace hS1:=N1.same.seq hS1
  replace ep:=N1.at ep
  replace hsP:=hsP.kp (aK.nil N1)
  have okY:∀ h∈gs++hsA,h.inK:=fun h hh=>by
   rcases List.mem_append.mp hh with hh | hh
   ·rw [show h=.beg 3 (some 2) by simpa using mg h hh]
    exact ⟨⟨⟨by decide,by decide⟩,eI (by decide) (by decide)⟩,fun _ _ _ z=>by cases z⟩
   ·exact ok h hh
  have lY:(gs++hsA).length≤316:=by rw [List.length_append];omega
  generalize upd G4 x (.lst (ys++xsA))=G5 at *
  generalize gs++hsA=hs at *
  generalize ys++xsA=xs at *
  clear ex hH ok lh hg mg lg l1 l2 e3 N1 nx
  refine hR4 _ _ ?_
  clear hR4
  clear R4
  refine aG fun R5 hR5=>?_
  wp_walk
  refine ⟨pg,x,us,xs,b,hs,rfl,ep,hsP,gb,by omega,ey,hY,fun h hh=>(okY h hh).1,by omega,fun tw Rw asw slw wl rsW GG et RA FA hN ew hr nd hf nc NR fc Kw=>?_⟩
  wp_walk using et
  have hW:=kP.of hr
  replace hS1:=Kw.same.seq hS1
  replace ep:=Kw.at ep
  replace hsP:=hsP.kp (aK.nil Kw)
  replace ex:=Kw.at ey
  replace hH:=hY.kt (aK.nil Kw)
  clear et RA FA hN hr nd hf nc NR fc Kw ey hY
  have ok:=okY
  have lh:=lY
  clear okY lY
  refine hR5 _ _ ?_
  clear hR5
  clear R5
  refine aG fun R6 hR6=>?_
  wp_walk using ex
  refine ⟨⟨by decide,by decide⟩,fun p6 hp6=>⟨⟨_,eA.of aA⟩,?_⟩⟩
  have K6:=Kp.new (S:=[]) (o:=.lst [.int 0,.int 1,.int ((xs.length:Int) / 2),.int (xs.length:Int)]) hp6
  obtain ⟨Pv,hPv⟩:∃ Pv:Nat→St→Hp→Prop,∀ i σ G,Pv i σ G = ∃(v4 v5 v6 v7 v8 v9 v10 v11 v12:Option V),σ=[some (.ref a),some (.ref pg),some (.ref x),some (.ref wl),v4,v5,v6,v7,v8,v9,v10,v11,v12]∧Kp [] GG G∧G p6=some (.lst [.int 0,.int 1,.int ((xs.length:Int) / 2),.int (xs.length:Int)]):=⟨_,fun _ _ _=>rfl⟩
  refine rP (xs:=[.int 0,.int 1,.int ((xs.length:Int) / 2),.int (xs.length:Int)]) Pv ?_ ?_ ?_ ?_
  ·rw [hPv]
   exact ⟨none,none,none,none,none,none,none,none,none,rfl,K6,aA⟩
  ·intro i σ G _ hG
   rw [hPv] at hG
   obtain ⟨_,_,_,_,_,_,_,_,_,_,_,e⟩:=hG
   exact eA.of e
  ·intro i y σ G hi hG
   rw [hPv] at hG
   obtain ⟨v4,v5,v6,v7,v8,v9,v10,v11,v12,rfl,KG,e6⟩:=hG
   obtain ⟨m,rfl⟩:∃ m:Nat,y=.int m:=by
    have:=List.mem_of_getElem? hi
    simp only [List.mem_cons,List.not_mem_nil,or_false] at this
    rcases this with rfl | rfl | rfl | rfl
    ·exact ⟨0,rfl⟩
    ·exact ⟨1,rfl⟩
    ·exact ⟨xs.length / 2,rfl⟩
    ·exact ⟨xs.length,rfl⟩
   have back:∀(w4 w5 w6 w7 w8 w9 w10 w11 w12:Option V) (G':Hp),Kp [] G G'→Pv (i+1) [some (.ref a),some (.ref pg),some (.ref x),some (.ref wl),w4,w5,w6,w7,w8,w9,w10,w11,w12] G':=fun w4 w5 w6 w7 w8 w9 w10 w11 w12 G' e=>by
    rw [hPv]
    exact ⟨_,_,_,_,_,_,_,_,_,rfl,KG.trans e,e.at e6⟩
   clear hPv
   have epG:=KG.at ep
   have hsG:=hsP.kp (aK.nil KG)
   have exG:=KG.at ex
   have hHG:=hH.kt (aK.nil KG)
   have ewG:=KG.at ew
   have hWm:=(hW.kp KG).take m
   have hSG:=KG.same.seq hS1
   have fm:∀ h∈hs.take m,h.inK:=fun h hh=>ok h (List.mem_of_mem_take hh)
   have ff:∀ h∈hs.take m,h.fine:=fun h hh=>(fm h hh).1
   have lm:(hs.take m).length≤316:=by rw [List.length_take];omega
   have hHm:=hHG.take m
   have okc:=uJ (hs.take m) (dU b)
   rw [← sR,← mB] at hWm
   generalize hs.take m=hm at *
   clear hi e6 KG ep hsP ex hH ew hW hS1
   refine aG fun Ra hRa=>?_
   wp_walk using exG
   refine fun q1 n1=>?_
   rw [qG]
   have K1:=Kp.new (S:=[]) (o:=.lst (xs.take m)) n1
   refine ⟨pg,q1,us,xs.take m,b,hm,rfl,K1.at epG,hsG.kp (aK.nil K1),gb,by omega,aA,hHm.kt (aK.nil K1),ff,by omega,fun t1 R1 as1 sl1 cl1 rs1 G1 et1 A1 F1 hN e1 hr1 nd1 hf1 nc1 NR1 fc1 Ka=>?_⟩
   have fn:=Fine.new F1 hN nb fm
   have w1:=kP.of hr1
   replace Ka:=K1.trans Ka
   replace NR1:∀ a,a∈R1.cells∨a∈as1→G a=none:=fun a ha=>K1.wasFree (NR1 a ha)
   generalize eZ:takes (dU b) hm=Z at *
   obtain ⟨S,css⟩:=Z
   simp only at A1 w1 fn hWm okc
   clear K1 n1 hr1 nd1 hf1 fc1 F1 hN
   wp_walk using et1
   refine ⟨_,gO.of et1,rfl,?_⟩
   wp_walk
   refine hRa _ _ ?_
   clear hRa Ra et1
   refine aG fun Ra hRa=>?_
   have exA:=Ka.at exG
   wp_walk using exA
   refine fun q1 n1=>?_
   rw [qG]
   have K1:=Kp.new (S:=[]) (o:=.lst (xs.take m)) n1
   wp_walk
   refine fun hd nh=>?_
   have nhR:=A1.nofree (K1.wasFree nh)
   have hdG:=Ka.wasFree (K1.wasFree nh)
   have K2:=K1.trans (Kp.new (S:=[]) (o:=.lst (xs.take m)) nh)
   have eh:upd (upd G1 q1 (.lst (xs.take m))) hd (.lst (xs.take m)) hd=some (.lst (xs.take m)):=aA
   generalize upd (upd G1 q1 (.lst (xs.take m))) hd (.lst (xs.take m))=G2 at *
   replace Ka:=Ka.trans K2
   replace A1:=A1.kp K2
   replace w1:=w1.kp K2
   replace e1:=K2.at e1
   refine hRa _ _ ?_
   clear hRa Ra K1 K2 n1 nh exA
   refine aG fun Ra hRa=>?_
   wp_walk
   refine ⟨pg,hd,us,xs.take m,b,hm,rfl,Ka.at epG,hsG.kp (aK.nil Ka),gb,by omega,eh,hHm.kt (aK.nil Ka),ff,by omega,fun t2 R2 as2 sl2 cl2 rs2 G3 et2 A2 F2 hN e2 hr2 nd2 hf2 nc2 NR2 fc2 Kb=>?_⟩
   have w2:=kP.of hr2
   rw [eZ] at A2 w2
   simp only at A2 w2
   rw [← mB] at w2
   have ap:Apt G R1 R2 as1 as2 cl1 cl2 hd rs1 rs2 :=
    {dis:=fun a ha=>⟨fun z=>by have y:=A1.nofree (NR2 a (.inl z));rcases ha with ha | ha;exact y.1 ha;exact y.2 ha,fun z=>by have y:=A1.nofree (NR2 a (.inr z));rcases ha with ha | ha;exact y.1 ha;exact y.2 ha⟩
     h1:=nhR
     h2:=⟨fun z=>by (rw [NR2 hd (.inl z)] at eh;cases eh),fun z=>by (rw [NR2 hd (.inr z)] at eh;cases eh)⟩
     d1:=A1.nofree fc2
     d2:=nc2
     dh:=fun z=>by rw [← z,fc2] at eh;cases eh
     nd:=nd2
     rs:=fun a ha=>by
      obtain ⟨x1,x2,x3,x4⟩:=hf2 a ha
      refine ⟨A1.nofree x3,⟨x1,x2⟩,x4,fun z=>?_,fun z=>?_,fun z=>?_,Ka.wasFree x3⟩
      ·rw [← z,x3] at eh;cases eh
      ·obtain ⟨us,e⟩:=w1.there a z
       rw [x3] at e;cases e
      ·rw [← z,x3] at e1;cases e1
     g1:=NR1
     g2:=fun a ha=>Ka.wasFree (NR2 a ha)
     gh:=hdG}
   have M:Mid ⟨t.CRun,t.CWalk,t.CTickets⟩ G G3 R1 R2 as1 as2 sl1 sl2 S cl1 cl2 hd t2 rs1 rs2 css (xs.take m) 0:=⟨Ka.trans Kb,A1.kp Kb,A2,Kb.at e1,w1.kp Kb,e2,w2,et2,Kb.at eh⟩
   refine hRa _ _ ?_
   clear hRa Ra Kb hr2 F2 hN NR2 hf2 fc2 nc2 nd2 Ka A1 A2 e1 w1 e2 w2 et2 eh NR1 nhR hdG nc1
   refine aG fun Ra hRa=>?_
   have ewM:=M.k.at ewG
   wp_walk using M.et,M.c2,ewM
   refine fun q1 n1=>?_
   rw [qG,← List.map_take]
   have K1:=Kp.new (S:=[]) (o:=.lst ((rsW.take m).map V.ref)) n1
   refine ⟨true,?_,?_⟩
   ·rw [mB] at hWm
    exact (M.w2.kp K1).rc ((hWm.kp M.k).kp K1) (K1.at M.c2) aA okc (yA 0)
   wp_walk
   refine hRa _ _ ?_
   clear hRa Ra ewM
   replace M:=M.kp K1
   generalize upd G3 q1 (.lst ((rsW.take m).map V.ref))=G4 at *
   clear K1 n1
   refine aG fun Ra hRa=>?_
   wp_walk using M.et,M.c1
   refine ⟨true,?_,?_⟩
   ·have w1:=M.w1
    rw [← mB] at w1
    exact w1.rc M.w2 M.c1 M.c2 okc (yA 0)
   obtain ⟨b0,b1,b2,b3,b4,b5⟩:=fn.args (by omega)
   wp_walk using M.et
   refine ⟨R2,as2,sl2,S,rfl,M.a2,b0,b1,b2,b3,b4,b5,fun s2 G5 hs2 K5=>?_⟩
   replace M:=M.kp K5
   wp_walk using M.et
   refine ⟨R1,as1,sl1,S,rfl,M.a1,b0,b1,b2,b3,b4,b5,fun s1 G6 hs1 K6=>?_⟩
   replace M:=M.kp K6
   replace hs2:=hs2.kp K6
   have exM:=M.k.at exG
   wp_walk using M.et,exM
   refine ⟨true,xS (n:=0) hs2 hs1,fun q1 n1=>?_⟩
   rw [qG]
   have K1:=Kp.new (S:=[]) (o:=.lst (xs.take m)) n1
   refine ⟨true,n9.same (K1.at M.eh) aA (hHm.refs),?_⟩
   wp_walk
   refine hRa _ _ ?_
   clear hRa Ra exM
   replace M:=M.kp K1
   generalize upd G6 q1 (.lst (xs.take m))=G7 at *
   clear K1 n1 hs1 hs2 K5 K6 b0 b1 b2 b3 b4 b5
   have lc:css.length=hm.length:=by
    have:=mK hm (dU b)
    rw [eZ] at this
    exact this
   refine aG fun Ra hRa=>?_
   wp_walk using M.et
   refine ⟨⟨_,eA.of M.c2⟩,?_⟩
   obtain ⟨Pw,hPw⟩:∃ Pw:Nat→St→Hp→Prop,∀ i σ G',Pw i σ G' = ∃ u9:Option V,σ=[some (.ref a),some (.ref pg),some (.ref x),some (.ref wl),some (.int (m:Int)),some (.ref R1.x),some (.ref cl1),some (.ref hd),some (.ref t2),u9,v10,v11,v12]∧Mid ⟨t.CRun,t.CWalk,t.CTickets⟩ G G' R1 R2 as1 as2 sl1 sl2 S cl1 cl2 hd t2 rs1 rs2 css (xs.take m) i:=⟨_,fun _ _ _=>rfl⟩
   refine rP (xs:=rs2.map V.ref) Pw ?_ ?_ ?_ ?_
   ·rw [hPw]
    exact ⟨_,rfl,M⟩
   ·intro j σ G' _ h
    rw [hPw] at h
    obtain ⟨_,_,M⟩:=h
    exact eA.of M.c2
   ·intro j y σ G' hj h
    rw [hPw] at h
    obtain ⟨u9,rfl,M⟩:=h
    rw [List.getElem?_map] at hj
    obtain ⟨r0,er,rfl⟩:=Option.map_eq_some_iff.mp hj
    obtain ⟨u0,cs0,ec,ea,hc⟩:=M.w2.at' er
    have e0:iN j j=[]:=if_neg (by omega)
    rw [e0,List.append_nil] at ea
    have l0:=(okc cs0 (List.mem_of_getElem? ec)).2
    have l1:=hc.len
    wp_walk using ea
    refine ⟨by omega,?_⟩
    rw [hPw]
    exact ⟨_,rfl,M.more ap er ea⟩
   intro σ G8 h
   rw [hPw,List.length_map] at h
   clear M
   obtain ⟨u9,rfl,M⟩:=h
   refine hRa _ _ ?_
   clear hRa Ra hPw Pw
   refine aG fun Ra hRa=>?_
   wp_walk using M.c1
   refine ⟨⟨_,eA.of M.c1⟩,?_⟩
   obtain ⟨Pw,hPw⟩:∃ Pw:Nat→List V→Hp→Prop,∀ i zs G',Pw i zs G' = ∃ rs3:List Addr,zs=rs3.map V.ref∧kP G' (fun _=>[.str "more"]) rs3 (css.take i)∧(∀ a∈rs3,G8 a=none)∧Kp [] G8 G':=⟨_,fun _ _ _=>rfl⟩
   refine iZ (ys:=rs1.map V.ref) Pw ?_ ?_ ?_ ?_ ?_
   ·rw [hPw]
    exact ⟨[],rfl,⟨by simp,fun j a cs e=>by simp at e⟩,by simp,Kp.refl⟩
   ·intro j zs G' h
    rw [hPw] at h
    obtain ⟨rs3,rfl,w,_,_⟩:=h
    rw [List.length_map,w.1,List.length_take]
    omega
   ·intro j zs G' h
    rw [hPw] at h
    obtain ⟨_,_,_,_,k⟩:=h
    exact eA.of (k.at M.c1)
   ·intro j y zs G' _ hj h
    rw [hPw] at h
    obtain ⟨rs3,rfl,w,fr,k⟩:=h
    rw [List.getElem?_map] at hj
    obtain ⟨r0,er,rfl⟩:=Option.map_eq_some_iff.mp hj
    obtain ⟨u0,cs0,ec,ea,hc⟩:=M.w1.at' er
    rw [List.append_nil] at ea
    have l0:=(okc cs0 (List.mem_of_getElem? ec)).2
    have l1:=hc.len
    have eaK:=k.at ea
    wp_walk using bM,Option.join_some
    refine fun q1 n1=>?_
    have N1:=Kp.new (S:=[]) (o:=.lst [.str "more"]) n1
    have ea1:=N1.at eaK
    wp_walk using ea1
    refine ⟨by first | omega | (rw [List.length_cons,List.length_nil];omega),fun q2 n2=>?_⟩
    have N2:=N1.trans (Kp.new (S:=[]) (o:=.lst (u0++[.str "more"])) n2)
    show Pw (j+1) _ _
    rw [hPw,List.take_add_one,ec,Option.toList_some]
    refine ⟨rs3++[q2],by simp,(w.kp N2).snoc aA (hc.kt (aK.nil (k.trans N2))),fun a ha=>?_,k.trans N2⟩
    rcases List.mem_append.mp ha with ha | ha
    ·exact fr a ha
    ·rw [show a=q2 by simpa using ha]
     exact k.wasFree (N1.wasFree n2)
   intro zs G9 h hl nl
   rw [hPw,List.length_map,M.w1.1,List.take_length] at h
   obtain ⟨rs3,rfl,w3,fr,k⟩:=h
   have fl:=k.wasFree nl
   have N1:=Kp.new (S:=[]) (o:=.lst (rs3.map V.ref)) nl
   have e3:upd G9 hl (.lst (rs3.map V.ref)) hl=some (.lst (rs3.map V.ref)):=aA
   replace w3:=w3.kp N1
   replace k:=k.trans N1
   generalize upd G9 hl (.lst (rs3.map V.ref))=GA at *
   have M8:=M
   replace M:=M.kp k
   refine hRa _ _ ?_
   clear hRa Ra hPw Pw nl N1 k
   refine aG fun Ra hRa=>?_
   wp_walk
   refine ⟨pg,hd,us,xs.take m,b,hm,rfl,M.k.at epG,hsG.kp (aK.nil M.k),gb,by omega,M.eh,hHm.kt (aK.nil M.k),ff,by omega,fun t3 R3 as3 sl3 cl3 rs4 GB et3 A3 F3 hN e4 hr4 nd3 hf3 nc3 NR3 fc3 Kb=>?_⟩
   have w4:=kP.of hr4
   rw [eZ] at w4
   simp only at w4
   replace M:=M.kp Kb
   replace w3:=w3.kp Kb
   replace e3:=Kb.at e3
   clear A3 F3 hN hr4 nd3 hf3 nc3 NR3 fc3 Kb
   wp_walk using et3
   refine ⟨true,w4.rc M.w1 e4 M.c1 okc (by simp),?_⟩
   wp_walk using M.et
   have w2:=M.w2.all (Nat.le_refl _)
   refine ⟨true,w2.rc w3 M.c2 e3 okc (fun _ v hv=>by rw [show v=.str "more" by simpa using hv];exact cB _),?_⟩
   wp_walk
   refine hRa _ _ ?_
   clear hRa Ra w4 e4 et3
   have T:Two ⟨t.CRun,t.CWalk,t.CTickets⟩ GB R1 R2 as1 as2 sl1 sl2 S S (cl2::hl::hd::hd::(rs2++rs3)):=⟨M.a1,M.a2,ap.dis,fun a ha=>by
    simp only [List.mem_cons,List.mem_append] at ha
    rcases ha with rfl | rfl | rfl | rfl | ha | ha
    ·exact ⟨⟨_,M.c2⟩,ap.d1,ap.d2⟩
    ·exact ⟨⟨_,e3⟩,M8.a1.nofree fl,M8.a2.nofree fl⟩
    ·exact ⟨⟨_,M.eh⟩,ap.h1,ap.h2⟩
    ·exact ⟨⟨_,M.eh⟩,ap.h1,ap.h2⟩
    ·obtain ⟨_,e⟩:=w2.there a ha
     exact ⟨⟨_,e⟩,(ap.rs a ha).1,(ap.rs a ha).2.1⟩
    ·obtain ⟨_,e⟩:=w3.there a ha
     exact ⟨⟨_,e⟩,M8.a1.nofree (fr a ha),M8.a2.nofree (fr a ha)⟩⟩
   have D:Hld GB t2 R2.x cl2 hl hd hd rs2 rs3 (xs.take m) css:=⟨M.et,M.c2,w2,e3,w3,M.eh,M.eh⟩
   have nh:∀ a∈cl2::hl::(rs2++rs3),a≠hd:=fun a ha=>by
    simp only [List.mem_cons,List.mem_append] at ha
    rcases ha with rfl | rfl | ha | ha
    ·exact ap.dh
    ·exact (aL M8.eh fl).symm
    ·exact (ap.rs a ha).2.2.2.1
    ·exact (aL M8.eh (fr a ha)).symm
   have kB:=M.k
   have g1:=ap.g1
   have g2:=ap.g2
   have gh:=ap.gh
   clear M M8 w2 w3 e3 fl fr ap
   refine aG fun Ra hRa=>?_
   suffices fin:∀(hv:List V) (G':Hp),(∀ v∈hv,∃ c,v=.ref c)→hv.length≤400→Two ⟨t.CRun,t.CWalk,t.CTickets⟩ G' R1 R2 as1 as2 sl1 sl2 S S (cl2::hl::hd::hd::(rs2++rs3))→Hld G' t2 R2.x cl2 hl hd hd rs2 rs3 hv css→Kp [] G G'→Ra [some (.ref a),some (.ref pg),some (.ref x),some (.ref wl),some (.int (m:Int)),some (.ref R1.x),some (.ref cl1),some (.ref hd),some (.ref t2),u9,some (.ref hl),v11,v12] G' by
    have hSM:=kB.same.seq hSG
    have lx:=hHm.len
    wp_walk
    refine ⟨_,hSM,?_⟩
    split
    ·wp_walk using D.eh
     refine fun q1 n1=>?_
     have K1:=Kp.new (S:=[]) (o:=.tup [.str "letter",.int 0,.str "k",.int 1]) n1
     have eh1:=K1.at D.eh
     wp_walk using eh1
     refine ⟨by omega,?_⟩
     refine fin _ _ (fun v hv=>?_) (by rw [List.length_append,List.length_cons,List.length_nil];omega) ((T.kp K1).app eh1 (by simp)) ((D.kp K1).app nh) fun b o e _=>by rw [aI (aL e gh)];exact (kB.trans K1).at e
     rcases List.mem_append.mp hv with hv | hv
     ·exact hHm.refs v hv
     ·exact ⟨q1,by simpa using hv⟩
    ·exact fin _ _ hHm.refs (by omega) T D kB
   clear T D nh kB
   intro hv GC rf lv T D kB
   refine hRa _ _ ?_
   clear hRa Ra
   refine aG fun Ra hRa=>?_
   wp_walk using D.eh
   refine fun st ns=>?_
   have K1:=Kp.new (S:=[]) (o:=.lst hv) ns
   have es:upd GC st (.lst hv) st=some (.lst hv):=aA
   have n1:=T.a1.nofree ns
   have n2:=T.a2.nofree ns
   replace kB:=kB.trans K1
   replace T:=(T.kp K1).more (L':=cl2::hl::hd::st::(rs2++rs3)) es n1 n2 (fun a ha=>by
    simp only [List.mem_cons,List.mem_append] at ha ⊢
    rcases ha with h | h | h | h | h | h<;>simp [h])
   replace D:Hld (upd GC st (.lst hv)) t2 R2.x cl2 hl hd st rs2 rs3 hv css:={D.kp K1 with es:=es}
   generalize upd GC st (.lst hv)=GD at *
   refine hRa _ _ ?_
   clear hRa Ra K1 es n1 n2 ns
   refine aG fun Ra hRa=>?_
   have exD:=kB.at exG
   wp_walk using exD
   refine fun p7 n7=>?_
   obtain ⟨gs,hg,mg,lg⟩:=(hHG.kt (aK.nil kB)).cut (some (m:Int)) (some ((m:Int)+3))
   generalize kH xs (some (m:Int)) (some ((m:Int)+3))=ys at *
   have K1:=Kp.new (S:=[]) (o:=.lst ys) n7
   have e7:upd GD p7 (.lst ys) p7=some (.lst ys):=aA
   replace T:=(T.kp K1).more (L':=p7::cl2::hl::hd::st::(rs2++rs3)) e7 (T.a1.nofree n7) (T.a2.nofree n7) (fun a ha=>List.mem_cons.mp ha)
   replace D:=D.kp K1
   replace kB:=kB.trans K1
   replace hg:=hg.kt (aK.nil K1)
   generalize upd GD p7 (.lst ys)=GE at *
   clear K1 n7 exD
   refine ⟨⟨_,eA.of e7⟩,?_⟩
   obtain ⟨Pw,hPw⟩:∃ Pw:Nat→St→Hp→Prop,∀ i σ G',Pw i σ G' = ∃(u12:Option V) (as1 as2:List Addr) (sl1 sl2:V) (S:Pu) (N:Nat),σ=[some (.ref a),some (.ref pg),some (.ref x),some (.ref wl),some (.int (m:Int)),some (.ref R1.x),some (.ref cl1),some (.ref hd),some (.ref t2),u9,some (.ref hl),some (.ref st),u12]∧Two ⟨t.CRun,t.CWalk,t.CTickets⟩ G' R1 R2 as1 as2 sl1 sl2 S S (p7::cl2::hl::hd::st::(rs2++rs3))∧Hld G' t2 R2.x cl2 hl hd st rs2 rs3 hv css∧Fine S N∧N≤95432+302 * i∧Kp [] G G'∧(∀ a,a∈R1.cells∨a∈as1→G a=none)∧(∀ a,a∈R2.cells∨a∈as2→G a=none)∧G' p7=some (.lst ys)∧bJ G' ys gs:=⟨_,fun _ _ _=>rfl⟩
   have lg2:=hg.len
   refine rP (xs:=ys) Pw ?_ ?_ ?_ ?_
   ·rw [hPw]
    exact ⟨_,as1,as2,sl1,sl2,S,_,rfl,T,D,fn,by omega,kB,g1,g2,e7,hg⟩
   ·intro j σ G' _ h
    rw [hPw] at h
    obtain ⟨_,_,_,_,_,_,_,_,_,_,_,_,_,_,_,e,_⟩:=h
    exact eA.of e
   ·clear T D fn kB g1 g2 e7 hg
    intro j y σ G' hj h
    rw [hPw] at h
    obtain ⟨u12,as1,as2,sl1,sl2,S,N,rfl,T,D,fn,lN,kB,g1,g2,e7,hg⟩:=h
    obtain ⟨z,ez,hz⟩:=hg.j6 hj
    have lj:j < ys.length:=(List.getElem?_eq_some_iff.mp hj).1
    have zk:=ok z (mg z (List.mem_of_getElem? ez))
    have pw:=fn.pend T.a1 (by omega)
    have fn':=fn.take zk (by omega) pw
    have oz:=xM S z
    wp_walk using D.et,T.a2.ins
    refine ⟨R2,as2,_,S,y,z,N,rfl,T.a2,fn.fit,by omega,fn.isN,hz,zk.1,fun as' sl' c uc Ga Aa hc _ ec hC Fa=>?_⟩
    have n1:=T.a1.nofree hc
    have t1:=T.a2.tkp Fa
    have T1:=T.symm.step Fa Aa
    have D1:=D.keep (fun a ha=>T.symm.keep Fa a (List.mem_cons_of_mem _ ha)) t1
    have k1:=Fa.kpNew kB g2
    have e71:=T.symm.keep Fa p7 (by simp) _ e7
    replace g2:∀ a,a∈R2.cells∨a∈as'→G a=none:=fun a ha=>by
     rcases ha with ha | ha
     ·exact g2 a (.inl ha)
     ·rcases Fa.new a ha with z | z
      ·exact g2 a (.inr z)
      ·exact kB.wasFree z
    replace hg:=hg.kt t1
    replace hz:=hap_kt hz t1
    clear T D kB e7 hc
    wp_walk using D1.et,T1.a2.ins
    refine ⟨R1,as1,_,S,y,z,N,rfl,T1.a2,fn.fit,by omega,fn.isN,hz,zk.1,fun as'' sl'' d ud Gb Ab _ _ ed hD Fb=>?_⟩
    have t2':=T1.a2.tkp Fb
    have T:=T1.symm.step Fb Ab
    have D:=D1.keep (fun a ha=>T1.symm.keep Fb a (List.mem_cons_of_mem _ ha)) t2'
    have kB:=Fb.kpNew k1 g1
    have e7:=T1.symm.keep Fb p7 (by simp) _ e71
    replace g1:∀ a,a∈R1.cells∨a∈as''→G a=none:=fun a ha=>by
     rcases ha with ha | ha
     ·exact g1 a (.inl ha)
     ·rcases Fb.new a ha with z | z
      ·exact g1 a (.inr z)
      ·exact k1.wasFree z
    replace hg:=hg.kt t2'
    replace hC:=hC.kt t2'
    replace ec:=Fb.kp _ _ ec n1.1 n1.2
    clear T1 D1 k1 e71 hz t1 t2' Fa Fb Aa Ab n1
    wp_walk
    refine ⟨true,iR.rcL (cs_eqL (n:=0) hC hD oz.1) ec ed,?_⟩
    obtain ⟨b0,b1,b2,b3,b4,b5⟩:=fn'.args (by omega)
    wp_walk using D.et
    refine ⟨R2,_,_,_,rfl,T.a2,b0,b1,b2,b3,b4,b5,fun s2 G5 hs2 K5=>?_⟩
    wp_walk
    refine ⟨R1,_,_,_,rfl,T.a1.kp K5,b0,b1,b2,b3,b4,b5,fun s1 G6 hs1 K6=>?_⟩
    replace K5:=K5.trans K6
    wp_walk
    refine ⟨true,xS (n:=0) (hs2.kp K6) hs1,?_⟩
    rw [hPw]
    exact ⟨_,_,_,_,_,_,_,rfl,T.kp K5,D.kp K5,fn',by omega,kB.trans K5,g1,g2,K5.at e7,hg.kt (aK.nil K5)⟩
   clear T D fn kB g1 g2 e7 hg
   intro σ GF h
   rw [hPw] at h
   obtain ⟨u12,as1,as2,sl1,sl2,S,N,rfl,T,D,fn,lN,kB,g1,g2,e7,hg⟩:=h
   refine hRa _ _ ?_
   clear hRa Ra hPw Pw T g1 g2 e7 hg fn lN
   wp_walk using D.et
   refine ⟨true,n9.same D.eh D.es rf,?_⟩
   wp_walk using D.et
   refine ⟨true,D.w2.rc D.w3 D.c2 D.c3 okc (fun _ v hv=>by rw [show v=.str "more" by simpa using hv];exact cB _),?_⟩
   wp_walk
   exact back _ _ _ _ _ _ _ _ _ _ kB
  ·intro σ G hG
   rw [hPv] at hG
   obtain ⟨v4,v5,v6,v7,v8,v9,v10,v11,v12,rfl,KG,e6⟩:=hG
   refine hR6 _ _ ?_
   clear hR6
   clear R6
   wp_walk
   exact q _
end
theorem ln1 {us:List Value} {x0:Str} (h:us.length=[x0].length):∃ a0,us=[a0]:=by
 obtain ⟨a0,rfl⟩:=List.length_eq_one_iff.mp h;exact ⟨a0,rfl⟩
theorem ln2 {us:List Value} {x0 x1:Str} (h:us.length=[x0,x1].length):∃ a0 a1,us=[a0,a1]:=by
 cases us with
 | nil=>cases h
 | cons a0 us=>obtain ⟨b0,rfl⟩:=ln1 (x0:=x0) (us:=us) (Nat.succ.inj h);exact ⟨a0,b0,rfl⟩
theorem ln3 {us:List Value} {x0 x1 x2:Str} (h:us.length=[x0,x1,x2].length):∃ a0 a1 a2,us=[a0,a1,a2]:=by
 cases us with
 | nil=>cases h
 | cons a0 us=>obtain ⟨b0,b1,rfl⟩:=ln2 (x0:=x0) (x1:=x0) (us:=us) (Nat.succ.inj h);exact ⟨a0,b0,b1,rfl⟩
theorem ln4 {us:List Value} {x0 x1 x2 x3:Str} (h:us.length=[x0,x1,x2,x3].length):∃ a0 a1 a2 a3,us=[a0,a1,a2,a3]:=by
 cases us with
 | nil=>cases h
 | cons a0 us=>obtain ⟨b0,b1,b2,rfl⟩:=ln3 (x0:=x0) (x1:=x0) (x2:=x0) (us:=us) (Nat.succ.inj h);exact ⟨a0,b0,b1,b2,rfl⟩
theorem ln5 {us:List Value} {x0 x1 x2 x3 x4:Str} (h:us.length=[x0,x1,x2,x3,x4].length):∃ a0 a1 a2 a3 a4,us=[a0,a1,a2,a3,a4]:=by
 cases us with
 | nil=>cases h
 | cons a0 us=>obtain ⟨b0,b1,b2,b3,rfl⟩:=ln4 (x0:=x0) (x1:=x0) (x2:=x0) (x3:=x0) (us:=us) (Nat.succ.inj h);exact ⟨a0,b0,b1,b2,b3,rfl⟩
theorem walkX_of {q:Program} {loose:List Str} {XP:(Str→Option Value)→Heap→Prop} {K:Params→PySem.W.Frag} {as:List Addr} {n t:Nat} {r:PySem.W.RowW} {d:DefRec} {kwd:List (Str×Expr)} {run:Value→List Value→Sem Value} (e:∀ P:Params,as=List.map (fun x=>x.fst) (K P)) (H:PySem.W.WalkO q loose XP (PySem.W.kHook K as e).says r d kwd run):PySem.W.WalkX q loose XP (PySem.W.X.obsZ as) (PySem.W.X.valZ K n t) r d kwd run:=fun w s₀ s₁ mg mb G y a o pm cd doc dV kV h1 h2 h3 h4 h5 h6 args vals bs L=>by
 obtain ⟨_,f,_,_⟩:=PySem.W.X.z_facts e y
 exact H w s₀ s₁ mg mb G (show PySem.W.InK K w s₁.heap from fun p ob hp=>L.keeps _ _ (f p ob hp)) a o pm cd doc dV kV h1 h2 h3 h4 h5 h6 args vals bs
theorem all_mk {l:PySem.W.OpenLaw} {w:World} {K:PySem.W.Frag} {h:Heap} {mg:Str→Option Value} {fa:Addr} (X:K.In h) (G:h.Ns mainGlobals mg) (hfa:mg "law"=some (.ref fa))
    {f0:Addr} {od0 an0:Option Addr} {sl0:Array (Option Value)} {oc0 kV0 dc0 pm0 cd0 ct0:Value}
    {f1:Addr} {od1 an1:Option Addr} {sl1:Array (Option Value)} {oc1 kV1 dc1 pm1 cd1 ct1:Value}
    {f2:Addr} {od2 an2:Option Addr} {sl2:Array (Option Value)} {oc2 kV2 dc2 pm2 cd2 ct2:Value}
    {f3:Addr} {od3 an3:Option Addr} {sl3:Array (Option Value)} {oc3 kV3 dc3 pm3 cd3 ct3:Value}
    {f4:Addr} {od4 an4:Option Addr} {sl4:Array (Option Value)} {oc4 kV4 dc4 pm4 cd4 ct4:Value}
    {f5:Addr} {od5 an5:Option Addr} {sl5:Array (Option Value)} {oc5 kV5 dc5 pm5 cd5 ct5:Value}
    {f6:Addr} {od6 an6:Option Addr} {sl6:Array (Option Value)} {oc6 kV6 dc6 pm6 cd6 ct6:Value}
    {f7:Addr} {od7 an7:Option Addr} {sl7:Array (Option Value)} {oc7 kV7 dc7 pm7 cd7 ct7:Value}
    {f8:Addr} {od8 an8:Option Addr} {sl8:Array (Option Value)} {oc8 kV8 dc8 pm8 cd8 ct8:Value}
    {f9:Addr} {od9 an9:Option Addr} {sl9:Array (Option Value)} {oc9 kV9 dc9 pm9 cd9 ct9:Value}
    {f10:Addr} {od10 an10:Option Addr} {sl10:Array (Option Value)} {oc10 kV10 dc10 pm10 cd10 ct10:Value}
    {f11:Addr} {od11 an11:Option Addr} {sl11:Array (Option Value)} {oc11 kV11 dc11 pm11 cd11 ct11:Value}
    {f12:Addr} {od12 an12:Option Addr} {sl12:Array (Option Value)} {oc12 kV12 dc12 pm12 cd12 ct12:Value}
    {f13:Addr} {od13 an13:Option Addr} {sl13:Array (Option Value)} {oc13 kV13 dc13 pm13 cd13 ct13:Value}
    {f14:Addr} {od14 an14:Option Addr} {sl14:Array (Option Value)} {oc14 kV14 dc14 pm14 cd14 ct14:Value}
    {f15:Addr} {od15 an15:Option Addr} {sl15:Array (Option Value)} {oc15 kV15 dc15 pm15 cd15 ct15:Value}
    {f16:Addr} {od16 an16:Option Addr} {sl16:Array (Option Value)} {oc16 kV16 dc16 pm16 cd16 ct16:Value}
    {f17:Addr} {od17 an17:Option Addr} {sl17:Array (Option Value)} {oc17 kV17 dc17 pm17 cd17 ct17:Value}
    {f18:Addr} {od18 an18:Option Addr} {sl18:Array (Option Value)} {oc18 kV18 dc18 pm18 cd18 ct18:Value}
    {f19:Addr} {od19 an19:Option Addr} {sl19:Array (Option Value)} {oc19 kV19 dc19 pm19 cd19 ct19:Value}
    {f20:Addr} {od20 an20:Option Addr} {sl20:Array (Option Value)} {oc20 kV20 dc20 pm20 cd20 ct20:Value}
    {f21:Addr} {od21 an21:Option Addr} {sl21:Array (Option Value)} {oc21 kV21 dc21 pm21 cd21 ct21:Value}
    {f22:Addr} {od22 an22:Option Addr} {sl22:Array (Option Value)} {oc22 kV22 dc22 pm22 cd22 ct22:Value}
    {f23:Addr} {od23 an23:Option Addr} {sl23:Array (Option Value)} {oc23 kV23 dc23 pm23 cd23 ct23:Value}
    {f24:Addr} {od24 an24:Option Addr} {sl24:Array (Option Value)} {oc24 kV24 dc24 pm24 cd24 ct24:Value}
    {f25:Addr} {od25 an25:Option Addr} {sl25:Array (Option Value)} {oc25 kV25 dc25 pm25 cd25 ct25:Value}
    {f26:Addr} {od26 an26:Option Addr} {sl26:Array (Option Value)} {oc26 kV26 dc26 pm26 cd26 ct26:Value}
    {f27:Addr} {od27 an27:Option Addr} {sl27:Array (Option Value)} {oc27 kV27 dc27 pm27 cd27 ct27:Value}
    {f28:Addr} {od28 an28:Option Addr} {sl28:Array (Option Value)} {oc28 kV28 dc28 pm28 cd28 ct28:Value}
    {f29:Addr} {od29 an29:Option Addr} {sl29:Array (Option Value)} {oc29 kV29 dc29 pm29 cd29 ct29:Value}
    {f30:Addr} {od30 an30:Option Addr} {sl30:Array (Option Value)} {oc30 kV30 dc30 pm30 cd30 ct30:Value}
    {f31:Addr} {od31 an31:Option Addr} {sl31:Array (Option Value)} {oc31 kV31 dc31 pm31 cd31 ct31:Value}
    {f32:Addr} {od32 an32:Option Addr} {sl32:Array (Option Value)} {oc32 kV32 dc32 pm32 cd32 ct32:Value}
    {f33:Addr} {od33 an33:Option Addr} {sl33:Array (Option Value)} {oc33 kV33 dc33 pm33 cd33 ct33:Value}
    {f34:Addr} {od34 an34:Option Addr} {sl34:Array (Option Value)} {oc34 kV34 dc34 pm34 cd34 ct34:Value}
    {f35:Addr} {od35 an35:Option Addr} {sl35:Array (Option Value)} {oc35 kV35 dc35 pm35 cd35 ct35:Value}
    {f36:Addr} {od36 an36:Option Addr} {sl36:Array (Option Value)} {oc36 kV36 dc36 pm36 cd36 ct36:Value}
    {f37:Addr} {od37 an37:Option Addr} {sl37:Array (Option Value)} {oc37 kV37 dc37 pm37 cd37 ct37:Value}
    {f38:Addr} {od38 an38:Option Addr} {sl38:Array (Option Value)} {oc38 kV38 dc38 pm38 cd38 ct38:Value}
    {f39:Addr} {od39 an39:Option Addr} {sl39:Array (Option Value)} {oc39 kV39 dc39 pm39 cd39 ct39:Value}
    {f40:Addr} {od40 an40:Option Addr} {sl40:Array (Option Value)} {oc40 kV40 dc40 pm40 cd40 ct40:Value}
    {f41:Addr} {od41 an41:Option Addr} {sl41:Array (Option Value)} {oc41 kV41 dc41 pm41 cd41 ct41:Value}
    {f42:Addr} {od42 an42:Option Addr} {sl42:Array (Option Value)} {oc42 kV42 dc42 pm42 cd42 ct42:Value}
    {f43:Addr} {od43 an43:Option Addr} {sl43:Array (Option Value)} {oc43 kV43 dc43 pm43 cd43 ct43:Value}
    {f44:Addr} {od44 an44:Option Addr} {sl44:Array (Option Value)} {oc44 kV44 dc44 pm44 cd44 ct44:Value}
    {f45:Addr} {od45 an45:Option Addr} {sl45:Array (Option Value)} {oc45 kV45 dc45 pm45 cd45 ct45:Value}
    {f46:Addr} {od46 an46:Option Addr} {sl46:Array (Option Value)} {oc46 kV46 dc46 pm46 cd46 ct46:Value}
    {f47:Addr} {od47 an47:Option Addr} {sl47:Array (Option Value)} {oc47 kV47 dc47 pm47 cd47 ct47:Value}
    {f48:Addr} {od48 an48:Option Addr} {sl48:Array (Option Value)} {oc48 kV48 dc48 pm48 cd48 ct48:Value}
    {f49:Addr} {od49 an49:Option Addr} {sl49:Array (Option Value)} {oc49 kV49 dc49 pm49 cd49 ct49:Value}
    {f50:Addr} {od50 an50:Option Addr} {sl50:Array (Option Value)} {oc50 kV50 dc50 pm50 cd50 ct50:Value}
    {f51:Addr} {od51 an51:Option Addr} {sl51:Array (Option Value)} {oc51 kV51 dc51 pm51 cd51 ct51:Value}
    {f52:Addr} {od52 an52:Option Addr} {sl52:Array (Option Value)} {oc52 kV52 dc52 pm52 cd52 ct52:Value}
    {f53:Addr} {od53 an53:Option Addr} {sl53:Array (Option Value)} {oc53 kV53 dc53 pm53 cd53 ct53:Value}
    {f54:Addr} {od54 an54:Option Addr} {sl54:Array (Option Value)} {oc54 kV54 dc54 pm54 cd54 ct54:Value}
    {f55:Addr} {od55 an55:Option Addr} {sl55:Array (Option Value)} {oc55 kV55 dc55 pm55 cd55 ct55:Value}
    {f56:Addr} {od56 an56:Option Addr} {sl56:Array (Option Value)} {oc56 kV56 dc56 pm56 cd56 ct56:Value}
    {f57:Addr} {od57 an57:Option Addr} {sl57:Array (Option Value)} {oc57 kV57 dc57 pm57 cd57 ct57:Value}
    {f58:Addr} {od58 an58:Option Addr} {sl58:Array (Option Value)} {oc58 kV58 dc58 pm58 cd58 ct58:Value}
    {CTickets:Addr}
    {CWalk:Addr}
    {CRun:Addr}
    {tk0:Tok}
    {tk1:Tok}
    {tk2:Tok}
    {tp3:Addr} {te3:Array DictEntry} {tn3:Nat}
    (a0:PySem.W.nsIn K mainGlobals "kept"=some (some (.ref f0)))
    (l0:K.lookup f0=some ⟨oc0,od0,.func (PySem.W.fnOf "kept" "kept" (aS oV) (aR oV) (aF oV) .none kV0 dc0 pm0 an0 cd0 ct0),sl0⟩) (c0:PySem.W.codeIn K cd0 "kept"=true) (k0:PySem.W.keepIn K (.ref f0)=true)
    (a1:PySem.W.nsIn K mainGlobals "worth_of"=some (some (.ref f1)))
    (l1:K.lookup f1=some ⟨oc1,od1,.func (PySem.W.fnOf "worth_of" "worth_of" (aS iF) (aR iF) (aF iF) .none kV1 dc1 pm1 an1 cd1 ct1),sl1⟩) (c1:PySem.W.codeIn K cd1 "worth_of"=true) (k1:PySem.W.keepIn K (.ref f1)=true)
    (a2:PySem.W.nsIn K mainGlobals "joined"=some (some (.ref f2)))
    (l2:K.lookup f2=some ⟨oc2,od2,.func (PySem.W.fnOf "joined" "joined" (aS jZ) (aR jZ) (aF jZ) .none kV2 dc2 pm2 an2 cd2 ct2),sl2⟩) (c2:PySem.W.codeIn K cd2 "joined"=true) (k2:PySem.W.keepIn K (.ref f2)=true)
    (a3:PySem.W.nsIn K mainGlobals "number_of"=some (some (.ref f3)))
    (l3:K.lookup f3=some ⟨oc3,od3,.func (PySem.W.fnOf "number_of" "number_of" (aS fY) (aR fY) (aF fY) .none kV3 dc3 pm3 an3 cd3 ct3),sl3⟩) (c3:PySem.W.codeIn K cd3 "number_of"=true) (k3:PySem.W.keepIn K (.ref f3)=true)
    (a4:PySem.W.nsIn K mainGlobals "one_or_nought"=some (some (.ref f4)))
    (l4:K.lookup f4=some ⟨oc4,od4,.func (PySem.W.fnOf "one_or_nought" "one_or_nought" (aS dZ) (aR dZ) (aF dZ) .none kV4 dc4 pm4 an4 cd4 ct4),sl4⟩) (c4:PySem.W.codeIn K cd4 "one_or_nought"=true) (k4:PySem.W.keepIn K (.ref f4)=true)
    (a5:PySem.W.findIn K (.ref CTickets) "__init__"=some (some (.ref f5))) (i5:PySem.W.isFn K (.ref f5)=true)
    (l5:K.lookup f5=some ⟨oc5,od5,.func (PySem.W.fnOf "__init__" "Tickets.__init__" (aS d6) (aR d6) (aF d6) .none kV5 dc5 pm5 an5 cd5 ct5),sl5⟩) (c5:PySem.W.codeIn K cd5 "Tickets.__init__"=true) (k5:PySem.W.keepIn K (.ref f5)=true)
    (a6:PySem.W.findIn K (.ref CTickets) "make"=some (some (.ref f6))) (i6:PySem.W.isFn K (.ref f6)=true)
    (l6:K.lookup f6=some ⟨oc6,od6,.func (PySem.W.fnOf "make" "Tickets.make" (aS d7) (aR d7) (aF d7) .none kV6 dc6 pm6 an6 cd6 ct6),sl6⟩) (c6:PySem.W.codeIn K cd6 "Tickets.make"=true) (k6:PySem.W.keepIn K (.ref f6)=true)
    (a7:PySem.W.findIn K (.ref CTickets) "is_open"=some (some (.ref f7))) (i7:PySem.W.isFn K (.ref f7)=true)
    (l7:K.lookup f7=some ⟨oc7,od7,.func (PySem.W.fnOf "is_open" "Tickets.is_open" (aS cU) (aR cU) (aF cU) .none kV7 dc7 pm7 an7 cd7 ct7),sl7⟩) (c7:PySem.W.codeIn K cd7 "Tickets.is_open"=true) (k7:PySem.W.keepIn K (.ref f7)=true)
    (a8:PySem.W.findIn K (.ref CTickets) "those_open"=some (some (.ref f8))) (i8:PySem.W.isFn K (.ref f8)=true)
    (l8:K.lookup f8=some ⟨oc8,od8,.func (PySem.W.fnOf "those_open" "Tickets.those_open" (aS cF) (aR cF) (aF cF) .none kV8 dc8 pm8 an8 cd8 ct8),sl8⟩) (c8:PySem.W.codeIn K cd8 "Tickets.those_open"=true) (k8:PySem.W.keepIn K (.ref f8)=true)
    (a9:PySem.W.findIn K (.ref CTickets) "finish"=some (some (.ref f9))) (i9:PySem.W.isFn K (.ref f9)=true)
    (l9:K.lookup f9=some ⟨oc9,od9,.func (PySem.W.fnOf "finish" "Tickets.finish" (aS cT) (aR cT) (aF cT) .none kV9 dc9 pm9 an9 cd9 ct9),sl9⟩) (c9:PySem.W.codeIn K cd9 "Tickets.finish"=true) (k9:PySem.W.keepIn K (.ref f9)=true)
    (a10:PySem.W.findIn K (.ref CTickets) "shut"=some (some (.ref f10))) (i10:PySem.W.isFn K (.ref f10)=true)
    (l10:K.lookup f10=some ⟨oc10,od10,.func (PySem.W.fnOf "shut" "Tickets.shut" (aS d4) (aR d4) (aF d4) .none kV10 dc10 pm10 an10 cd10 ct10),sl10⟩) (c10:PySem.W.codeIn K cd10 "Tickets.shut"=true) (k10:PySem.W.keepIn K (.ref f10)=true)
    (a11:PySem.W.findIn K (.ref CTickets) "shut_all"=some (some (.ref f11))) (i11:PySem.W.isFn K (.ref f11)=true)
    (l11:K.lookup f11=some ⟨oc11,od11,.func (PySem.W.fnOf "shut_all" "Tickets.shut_all" (aS cR) (aR cR) (aF cR) .none kV11 dc11 pm11 an11 cd11 ct11),sl11⟩) (c11:PySem.W.codeIn K cd11 "Tickets.shut_all"=true) (k11:PySem.W.keepIn K (.ref f11)=true)
    (a12:PySem.W.findIn K (.ref CTickets) "first_done"=some (some (.ref f12))) (i12:PySem.W.isFn K (.ref f12)=true)
    (l12:K.lookup f12=some ⟨oc12,od12,.func (PySem.W.fnOf "first_done" "Tickets.first_done" (aS cH) (aR cH) (aF cH) .none kV12 dc12 pm12 an12 cd12 ct12),sl12⟩) (c12:PySem.W.codeIn K cd12 "Tickets.first_done"=true) (k12:PySem.W.keepIn K (.ref f12)=true)
    (a13:PySem.W.findIn K (.ref CWalk) "__init__"=some (some (.ref f13))) (i13:PySem.W.isFn K (.ref f13)=true)
    (l13:K.lookup f13=some ⟨oc13,od13,.func (PySem.W.fnOf "__init__" "Walk.__init__" (aS gD) (aR gD) (aF gD) .none kV13 dc13 pm13 an13 cd13 ct13),sl13⟩) (c13:PySem.W.codeIn K cd13 "Walk.__init__"=true) (k13:PySem.W.keepIn K (.ref f13)=true)
    (a14:PySem.W.findIn K (.ref CWalk) "come_to"=some (some (.ref f14))) (i14:PySem.W.isFn K (.ref f14)=true)
    (l14:K.lookup f14=some ⟨oc14,od14,.func (PySem.W.fnOf "come_to" "Walk.come_to" (aS eN) (aR eN) (aF eN) .none kV14 dc14 pm14 an14 cd14 ct14),sl14⟩) (c14:PySem.W.codeIn K cd14 "Walk.come_to"=true) (k14:PySem.W.keepIn K (.ref f14)=true)
    (a15:PySem.W.findIn K (.ref CWalk) "stands_at"=some (some (.ref f15))) (i15:PySem.W.isFn K (.ref f15)=true)
    (l15:K.lookup f15=some ⟨oc15,od15,.func (PySem.W.fnOf "stands_at" "Walk.stands_at" (aS dF) (aR dF) (aF dF) .none kV15 dc15 pm15 an15 cd15 ct15),sl15⟩) (c15:PySem.W.codeIn K cd15 "Walk.stands_at"=true) (k15:PySem.W.keepIn K (.ref f15)=true)
    (a16:PySem.W.findIn K (.ref CWalk) "pass_by"=some (some (.ref f16))) (i16:PySem.W.isFn K (.ref f16)=true)
    (l16:K.lookup f16=some ⟨oc16,od16,.func (PySem.W.fnOf "pass_by" "Walk.pass_by" (aS eR) (aR eR) (aF eR) .none kV16 dc16 pm16 an16 cd16 ct16),sl16⟩) (c16:PySem.W.codeIn K cd16 "Walk.pass_by"=true) (k16:PySem.W.keepIn K (.ref f16)=true)
    (a17:PySem.W.findIn K (.ref CWalk) "enter"=some (some (.ref f17))) (i17:PySem.W.isFn K (.ref f17)=true)
    (l17:K.lookup f17=some ⟨oc17,od17,.func (PySem.W.fnOf "enter" "Walk.enter" (aS fJ) (aR fJ) (aF fJ) .none kV17 dc17 pm17 an17 cd17 ct17),sl17⟩) (c17:PySem.W.codeIn K cd17 "Walk.enter"=true) (k17:PySem.W.keepIn K (.ref f17)=true)
    (a18:PySem.W.findIn K (.ref CWalk) "leave"=some (some (.ref f18))) (i18:PySem.W.isFn K (.ref f18)=true)
    (l18:K.lookup f18=some ⟨oc18,od18,.func (PySem.W.fnOf "leave" "Walk.leave" (aS fK) (aR fK) (aF fK) .none kV18 dc18 pm18 an18 cd18 ct18),sl18⟩) (c18:PySem.W.codeIn K cd18 "Walk.leave"=true) (k18:PySem.W.keepIn K (.ref f18)=true)
    (a19:PySem.W.findIn K (.ref CWalk) "place"=some (some (.ref f19))) (i19:PySem.W.isFn K (.ref f19)=true)
    (l19:K.lookup f19=some ⟨oc19,od19,.func (PySem.W.fnOf "place" "Walk.place" (aS fM) (aR fM) (aF fM) .none kV19 dc19 pm19 an19 cd19 ct19),sl19⟩) (c19:PySem.W.codeIn K cd19 "Walk.place"=true) (k19:PySem.W.keepIn K (.ref f19)=true)
    (a20:PySem.W.nsIn K mainGlobals "do_set"=some (some (.ref f20)))
    (l20:K.lookup f20=some ⟨oc20,od20,.func (PySem.W.fnOf "do_set" "do_set" (aS mH) (aR mH) (aF mH) .none kV20 dc20 pm20 an20 cd20 ct20),sl20⟩) (c20:PySem.W.codeIn K cd20 "do_set"=true) (k20:PySem.W.keepIn K (.ref f20)=true)
    (a21:PySem.W.nsIn K mainGlobals "do_order"=some (some (.ref f21)))
    (l21:K.lookup f21=some ⟨oc21,od21,.func (PySem.W.fnOf "do_order" "do_order" (aS iE) (aR iE) (aF iE) .none kV21 dc21 pm21 an21 cd21 ct21),sl21⟩) (c21:PySem.W.codeIn K cd21 "do_order"=true) (k21:PySem.W.keepIn K (.ref f21)=true)
    (a22:PySem.W.nsIn K mainGlobals "do_timer"=some (some (.ref f22)))
    (l22:K.lookup f22=some ⟨oc22,od22,.func (PySem.W.fnOf "do_timer" "do_timer" (aS iB) (aR iB) (aF iB) .none kV22 dc22 pm22 an22 cd22 ct22),sl22⟩) (c22:PySem.W.codeIn K cd22 "do_timer"=true) (k22:PySem.W.keepIn K (.ref f22)=true)
    (a23:PySem.W.nsIn K mainGlobals "do_send"=some (some (.ref f23)))
    (l23:K.lookup f23=some ⟨oc23,od23,.func (PySem.W.fnOf "do_send" "do_send" (aS jU) (aR jU) (aF jU) .none kV23 dc23 pm23 an23 cd23 ct23),sl23⟩) (c23:PySem.W.codeIn K cd23 "do_send"=true) (k23:PySem.W.keepIn K (.ref f23)=true)
    (a24:PySem.W.nsIn K mainGlobals "do_drop"=some (some (.ref f24)))
    (l24:K.lookup f24=some ⟨oc24,od24,.func (PySem.W.fnOf "do_drop" "do_drop" (aS jS) (aR jS) (aF jS) .none kV24 dc24 pm24 an24 cd24 ct24),sl24⟩) (c24:PySem.W.codeIn K cd24 "do_drop"=true) (k24:PySem.W.keepIn K (.ref f24)=true)
    (a25:PySem.W.nsIn K mainGlobals "do_wait"=some (some (.ref f25)))
    (l25:K.lookup f25=some ⟨oc25,od25,.func (PySem.W.fnOf "do_wait" "do_wait" (aS j0) (aR j0) (aF j0) .none kV25 dc25 pm25 an25 cd25 ct25),sl25⟩) (c25:PySem.W.codeIn K cd25 "do_wait"=true) (k25:PySem.W.keepIn K (.ref f25)=true)
    (a26:PySem.W.nsIn K mainGlobals "do_hear"=some (some (.ref f26)))
    (l26:K.lookup f26=some ⟨oc26,od26,.func (PySem.W.fnOf "do_hear" "do_hear" (aS jP) (aR jP) (aF jP) .none kV26 dc26 pm26 an26 cd26 ct26),sl26⟩) (c26:PySem.W.codeIn K cd26 "do_hear"=true) (k26:PySem.W.keepIn K (.ref f26)=true)
    (a27:PySem.W.nsIn K mainGlobals "do_end"=some (some (.ref f27)))
    (l27:K.lookup f27=some ⟨oc27,od27,.func (PySem.W.fnOf "do_end" "do_end" (aS mC) (aR mC) (aF mC) .none kV27 dc27 pm27 an27 cd27 ct27),sl27⟩) (c27:PySem.W.codeIn K cd27 "do_end"=true) (k27:PySem.W.keepIn K (.ref f27)=true)
    (a28:PySem.W.findIn K (.ref CRun) "__init__"=some (some (.ref f28))) (i28:PySem.W.isFn K (.ref f28)=true)
    (l28:K.lookup f28=some ⟨oc28,od28,.func (PySem.W.fnOf "__init__" "Run.__init__" (aS iH) (aR iH) (aF iH) .none kV28 dc28 pm28 an28 cd28 ct28),sl28⟩) (c28:PySem.W.codeIn K cd28 "Run.__init__"=true) (k28:PySem.W.keepIn K (.ref f28)=true)
    (a29:PySem.W.findIn K (.ref CRun) "waits"=some (some (.ref f29))) (i29:PySem.W.isFn K (.ref f29)=true)
    (l29:K.lookup f29=some ⟨oc29,od29,.func (PySem.W.fnOf "waits" "Run.waits" (aS fV) (aR fV) (aF fV) .none kV29 dc29 pm29 an29 cd29 ct29),sl29⟩) (c29:PySem.W.codeIn K cd29 "Run.waits"=true) (k29:PySem.W.keepIn K (.ref f29)=true)
    (a30:PySem.W.findIn K (.ref CRun) "open_tickets"=some (some (.ref f30))) (i30:PySem.W.isFn K (.ref f30)=true)
    (l30:K.lookup f30=some ⟨oc30,od30,.func (PySem.W.fnOf "open_tickets" "Run.open_tickets" (aS cS) (aR cS) (aF cS) .none kV30 dc30 pm30 an30 cd30 ct30),sl30⟩) (c30:PySem.W.codeIn K cd30 "Run.open_tickets"=true) (k30:PySem.W.keepIn K (.ref f30)=true)
    (a31:PySem.W.findIn K (.ref CRun) "state"=some (some (.ref f31))) (i31:PySem.W.isFn K (.ref f31)=true)
    (l31:K.lookup f31=some ⟨oc31,od31,.func (PySem.W.fnOf "state" "Run.state" (aS fX) (aR fX) (aF fX) .none kV31 dc31 pm31 an31 cd31 ct31),sl31⟩) (c31:PySem.W.codeIn K cd31 "Run.state"=true) (k31:PySem.W.keepIn K (.ref f31)=true)
    (a32:PySem.W.findIn K (.ref CRun) "take"=some (some (.ref f32))) (i32:PySem.W.isFn K (.ref f32)=true)
    (l32:K.lookup f32=some ⟨oc32,od32,.func (PySem.W.fnOf "take" "Run.take" (aS iA) (aR iA) (aF iA) .none kV32 dc32 pm32 an32 cd32 ct32),sl32⟩) (c32:PySem.W.codeIn K cd32 "Run.take"=true) (k32:PySem.W.keepIn K (.ref f32)=true)
    (a33:PySem.W.findIn K (.ref CRun) "passes_over"=some (some (.ref f33))) (i33:PySem.W.isFn K (.ref f33)=true)
    (l33:K.lookup f33=some ⟨oc33,od33,.func (PySem.W.fnOf "passes_over" "Run.passes_over" (aS cV) (aR cV) (aF cV) .none kV33 dc33 pm33 an33 cd33 ct33),sl33⟩) (c33:PySem.W.codeIn K cd33 "Run.passes_over"=true) (k33:PySem.W.keepIn K (.ref f33)=true)
    (a34:PySem.W.findIn K (.ref CRun) "take_done"=some (some (.ref f34))) (i34:PySem.W.isFn K (.ref f34)=true)
    (l34:K.lookup f34=some ⟨oc34,od34,.func (PySem.W.fnOf "take_done" "Run.take_done" (aS d5) (aR d5) (aF d5) .none kV34 dc34 pm34 an34 cd34 ct34),sl34⟩) (c34:PySem.W.codeIn K cd34 "Run.take_done"=true) (k34:PySem.W.keepIn K (.ref f34)=true)
    (a35:PySem.W.findIn K (.ref CRun) "take_letter"=some (some (.ref f35))) (i35:PySem.W.isFn K (.ref f35)=true)
    (l35:K.lookup f35=some ⟨oc35,od35,.func (PySem.W.fnOf "take_letter" "Run.take_letter" (aS cX) (aR cX) (aF cX) .none kV35 dc35 pm35 an35 cd35 ct35),sl35⟩) (c35:PySem.W.codeIn K cd35 "Run.take_letter"=true) (k35:PySem.W.keepIn K (.ref f35)=true)
    (a36:PySem.W.findIn K (.ref CRun) "wake"=some (some (.ref f36))) (i36:PySem.W.isFn K (.ref f36)=true)
    (l36:K.lookup f36=some ⟨oc36,od36,.func (PySem.W.fnOf "wake" "Run.wake" (aS iI) (aR iI) (aF iI) .none kV36 dc36 pm36 an36 cd36 ct36),sl36⟩) (c36:PySem.W.codeIn K cd36 "Run.wake"=true) (k36:PySem.W.keepIn K (.ref f36)=true)
    (a37:PySem.W.findIn K (.ref CRun) "go_on"=some (some (.ref f37))) (i37:PySem.W.isFn K (.ref f37)=true)
    (l37:K.lookup f37=some ⟨oc37,od37,.func (PySem.W.fnOf "go_on" "Run.go_on" (aS iG) (aR iG) (aF iG) .none kV37 dc37 pm37 an37 cd37 ct37),sl37⟩) (c37:PySem.W.codeIn K cd37 "Run.go_on"=true) (k37:PySem.W.keepIn K (.ref f37)=true)
    (a38:PySem.W.findIn K (.ref CRun) "do_one"=some (some (.ref f38))) (i38:PySem.W.isFn K (.ref f38)=true)
    (l38:K.lookup f38=some ⟨oc38,od38,.func (PySem.W.fnOf "do_one" "Run.do_one" (aS fW) (aR fW) (aF fW) .none kV38 dc38 pm38 an38 cd38 ct38),sl38⟩) (c38:PySem.W.codeIn K cd38 "Run.do_one"=true) (k38:PySem.W.keepIn K (.ref f38)=true)
    (a39:PySem.W.findIn K (.ref CRun) "look"=some (some (.ref f39))) (i39:PySem.W.isFn K (.ref f39)=true)
    (l39:K.lookup f39=some ⟨oc39,od39,.func (PySem.W.fnOf "look" "Run.look" (aS iC) (aR iC) (aF iC) .none kV39 dc39 pm39 an39 cd39 ct39),sl39⟩) (c39:PySem.W.codeIn K cd39 "Run.look"=true) (k39:PySem.W.keepIn K (.ref f39)=true)
    (a40:PySem.W.findIn K (.ref CRun) "end"=some (some (.ref f40))) (i40:PySem.W.isFn K (.ref f40)=true)
    (l40:K.lookup f40=some ⟨oc40,od40,.func (PySem.W.fnOf "end" "Run.end" (aS jN) (aR jN) (aF jN) .none kV40 dc40 pm40 an40 cd40 ct40),sl40⟩) (c40:PySem.W.codeIn K cd40 "Run.end"=true) (k40:PySem.W.keepIn K (.ref f40)=true)
    (a41:PySem.W.findIn K (.ref CRun) "wear_out"=some (some (.ref f41))) (i41:PySem.W.isFn K (.ref f41)=true)
    (l41:K.lookup f41=some ⟨oc41,od41,.func (PySem.W.fnOf "wear_out" "Run.wear_out" (aS eT) (aR eT) (aF eT) .none kV41 dc41 pm41 an41 cd41 ct41),sl41⟩) (c41:PySem.W.codeIn K cd41 "Run.wear_out"=true) (k41:PySem.W.keepIn K (.ref f41)=true)
    (a42:PySem.W.findIn K (.ref CRun) "worth"=some (some (.ref f42))) (i42:PySem.W.isFn K (.ref f42)=true)
    (l42:K.lookup f42=some ⟨oc42,od42,.func (PySem.W.fnOf "worth" "Run.worth" (aS gE) (aR gE) (aF gE) .none kV42 dc42 pm42 an42 cd42 ct42),sl42⟩) (c42:PySem.W.codeIn K cd42 "Run.worth"=true) (k42:PySem.W.keepIn K (.ref f42)=true)
    (a43:PySem.W.findIn K (.ref CRun) "new_ticket"=some (some (.ref f43))) (i43:PySem.W.isFn K (.ref f43)=true)
    (l43:K.lookup f43=some ⟨oc43,od43,.func (PySem.W.fnOf "new_ticket" "Run.new_ticket" (aS dL) (aR dL) (aF dL) .none kV43 dc43 pm43 an43 cd43 ct43),sl43⟩) (c43:PySem.W.codeIn K cd43 "Run.new_ticket"=true) (k43:PySem.W.keepIn K (.ref f43)=true)
    (a44:PySem.W.nsIn K mainGlobals "run_again"=some (some (.ref f44)))
    (l44:K.lookup f44=some ⟨oc44,od44,.func (PySem.W.fnOf "run_again" "run_again" (aS fZ) (aR fZ) (aF fZ) .none kV44 dc44 pm44 an44 cd44 ct44),sl44⟩) (c44:PySem.W.codeIn K cd44 "run_again"=true) (k44:PySem.W.keepIn K (.ref f44)=true)
    (a45:PySem.W.nsIn K mainGlobals "_law_cell_at"=some (some (.ref f45)))
    (l45:K.lookup f45=some ⟨oc45,od45,.func (PySem.W.fnOf "_law_cell_at" "_law_cell_at" (aS fL) (aR fL) (aF fL) .none kV45 dc45 pm45 an45 cd45 ct45),sl45⟩) (c45:PySem.W.codeIn K cd45 "_law_cell_at"=true) (k45:PySem.W.keepIn K (.ref f45)=true)
    (a46:PySem.W.nsIn K mainGlobals "_law_jar"=some (some (.ref f46)))
    (l46:K.lookup f46=some ⟨oc46,od46,.func (PySem.W.fnOf "_law_jar" "_law_jar" (aS jV) (aR jV) (aF jV) .none kV46 dc46 pm46 an46 cd46 ct46),sl46⟩) (c46:PySem.W.codeIn K cd46 "_law_jar"=true) (k46:PySem.W.keepIn K (.ref f46)=true)
    (a47:PySem.W.nsIn K mainGlobals "_law_take"=some (some (.ref f47)))
    (l47:K.lookup f47=some ⟨oc47,od47,.func (PySem.W.fnOf "_law_take" "_law_take" (aS iD) (aR iD) (aF iD) .none kV47 dc47 pm47 an47 cd47 ct47),sl47⟩) (c47:PySem.W.codeIn K cd47 "_law_take"=true) (k47:PySem.W.keepIn K (.ref f47)=true)
    (a48:PySem.W.nsIn K mainGlobals "_law_worth"=some (some (.ref f48)))
    (l48:K.lookup f48=some ⟨oc48,od48,.func (PySem.W.fnOf "_law_worth" "_law_worth" (aS gC) (aR gC) (aF gC) .none kV48 dc48 pm48 an48 cd48 ct48),sl48⟩) (c48:PySem.W.codeIn K cd48 "_law_worth"=true) (k48:PySem.W.keepIn K (.ref f48)=true)
    (a49:PySem.W.nsIn K mainGlobals "_law_moment"=some (some (.ref f49)))
    (l49:K.lookup f49=some ⟨oc49,od49,.func (PySem.W.fnOf "_law_moment" "_law_moment" (aS fH) (aR fH) (aF fH) .none kV49 dc49 pm49 an49 cd49 ct49),sl49⟩) (c49:PySem.W.codeIn K cd49 "_law_moment"=true) (k49:PySem.W.keepIn K (.ref f49)=true)
    (a50:PySem.W.nsIn K mainGlobals "_law_happening"=some (some (.ref f50)))
    (l50:K.lookup f50=some ⟨oc50,od50,.func (PySem.W.fnOf "_law_happening" "_law_happening" (aS dM) (aR dM) (aF dM) .none kV50 dc50 pm50 an50 cd50 ct50),sl50⟩) (c50:PySem.W.codeIn K cd50 "_law_happening"=true) (k50:PySem.W.keepIn K (.ref f50)=true)
    (a51:PySem.W.nsIn K mainGlobals "_law_saying"=some (some (.ref f51)))
    (l51:K.lookup f51=some ⟨oc51,od51,.func (PySem.W.fnOf "_law_saying" "_law_saying" (aS fO) (aR fO) (aF fO) .none kV51 dc51 pm51 an51 cd51 ct51),sl51⟩) (c51:PySem.W.codeIn K cd51 "_law_saying"=true) (k51:PySem.W.keepIn K (.ref f51)=true)
    (a52:PySem.W.nsIn K mainGlobals "_law_waiting"=some (some (.ref f52)))
    (l52:K.lookup f52=some ⟨oc52,od52,.func (PySem.W.fnOf "_law_waiting" "_law_waiting" (aS eK) (aR eK) (aF eK) .none kV52 dc52 pm52 an52 cd52 ct52),sl52⟩) (c52:PySem.W.codeIn K cd52 "_law_waiting"=true) (k52:PySem.W.keepIn K (.ref f52)=true)
    (a53:PySem.W.nsIn K mainGlobals "_law_statement"=some (some (.ref f53)))
    (l53:K.lookup f53=some ⟨oc53,od53,.func (PySem.W.fnOf "_law_statement" "_law_statement" (aS dI) (aR dI) (aF dI) .none kV53 dc53 pm53 an53 cd53 ct53),sl53⟩) (c53:PySem.W.codeIn K cd53 "_law_statement"=true) (k53:PySem.W.keepIn K (.ref f53)=true)
    (a54:PySem.W.nsIn K mainGlobals "_law_block"=some (some (.ref f54)))
    (l54:K.lookup f54=some ⟨oc54,od54,.func (PySem.W.fnOf "_law_block" "_law_block" (aS gF) (aR gF) (aF gF) .none kV54 dc54 pm54 an54 cd54 ct54),sl54⟩) (c54:PySem.W.codeIn K cd54 "_law_block"=true) (k54:PySem.W.keepIn K (.ref f54)=true)
    (a55:PySem.W.nsIn K mainGlobals "_law_program"=some (some (.ref f55)))
    (l55:K.lookup f55=some ⟨oc55,od55,.func (PySem.W.fnOf "_law_program" "_law_program" (aS eQ) (aR eQ) (aF eQ) .none kV55 dc55 pm55 an55 cd55 ct55),sl55⟩) (c55:PySem.W.codeIn K cd55 "_law_program"=true) (k55:PySem.W.keepIn K (.ref f55)=true)
    (a56:PySem.W.nsIn K mainGlobals "_law_stands"=some (some (.ref f56)))
    (l56:K.lookup f56=some ⟨oc56,od56,.func (PySem.W.fnOf "_law_stands" "_law_stands" (aS fN) (aR fN) (aF fN) .none kV56 dc56 pm56 an56 cd56 ct56),sl56⟩) (c56:PySem.W.codeIn K cd56 "_law_stands"=true) (k56:PySem.W.keepIn K (.ref f56)=true)
    (a57:PySem.W.nsIn K mainGlobals "_law_taken"=some (some (.ref f57)))
    (l57:K.lookup f57=some ⟨oc57,od57,.func (PySem.W.fnOf "_law_taken" "_law_taken" (aS gG) (aR gG) (aF gG) .none kV57 dc57 pm57 an57 cd57 ct57),sl57⟩) (c57:PySem.W.codeIn K cd57 "_law_taken"=true) (k57:PySem.W.keepIn K (.ref f57)=true)
    (a58:PySem.W.nsIn K mainGlobals "law"=some (some (.ref f58)))
    (l58:K.lookup f58=some ⟨oc58,od58,.func (PySem.W.fnOf "law" "law" (aS nP) (aR nP) (aF nP) .none kV58 dc58 pm58 an58 cd58 ct58),sl58⟩) (c58:PySem.W.codeIn K cd58 "law"=true) (k58:PySem.W.keepIn K (.ref f58)=true)
    (aCTickets:PySem.W.nsIn K mainGlobals "Tickets"=some (some (.ref CTickets))) (pgTickets:PySem.W.plainGet K CTickets Str.empty=true) (hdTickets:PySem.W.hasDictIn K CTickets=true) (poTickets:PySem.W.plainOver K CTickets=true) (saTickets:PySem.W.findIn K (.ref CTickets) "__setattr__"=some (some (.builtin "object.__setattr__"))) (mkTickets:PySem.W.makesIn K CTickets=true) (kcTickets:PySem.W.keepIn K (.ref CTickets)=true)
    (aCWalk:PySem.W.nsIn K mainGlobals "Walk"=some (some (.ref CWalk))) (pgWalk:PySem.W.plainGet K CWalk Str.empty=true) (hdWalk:PySem.W.hasDictIn K CWalk=true) (poWalk:PySem.W.plainOver K CWalk=true) (saWalk:PySem.W.findIn K (.ref CWalk) "__setattr__"=some (some (.builtin "object.__setattr__"))) (mkWalk:PySem.W.makesIn K CWalk=true) (kcWalk:PySem.W.keepIn K (.ref CWalk)=true)
    (aCRun:PySem.W.nsIn K mainGlobals "Run"=some (some (.ref CRun))) (pgRun:PySem.W.plainGet K CRun Str.empty=true) (hdRun:PySem.W.hasDictIn K CRun=true) (poRun:PySem.W.plainOver K CRun=true) (saRun:PySem.W.findIn K (.ref CRun) "__setattr__"=some (some (.builtin "object.__setattr__"))) (mkRun:PySem.W.makesIn K CRun=true) (kcRun:PySem.W.keepIn K (.ref CRun)=true)
    (namade:PySem.W.findIn K (.ref CTickets) "made"=some none)
    (napending:PySem.W.findIn K (.ref CTickets) "pending"=some none)
    (naanswers:PySem.W.findIn K (.ref CTickets) "answers"=some none)
    (nablocks:PySem.W.findIn K (.ref CWalk) "blocks"=some none)
    (nanumbers:PySem.W.findIn K (.ref CWalk) "numbers"=some none)
    (nawalk:PySem.W.findIn K (.ref CRun) "walk"=some none)
    (nasleep:PySem.W.findIn K (.ref CRun) "sleep"=some none)
    (naarg:PySem.W.findIn K (.ref CRun) "arg"=some none)
    (nanow:PySem.W.findIn K (.ref CRun) "now"=some none)
    (nanames:PySem.W.findIn K (.ref CRun) "names"=some none)
    (natickets:PySem.W.findIn K (.ref CRun) "tickets"=some none)
    (naletters:PySem.W.findIn K (.ref CRun) "letters"=some none)
    (v0:PySem.W.nsIn K mainGlobals "GREATEST_WORTH"=some (some (.int 1000000000 tk0)))
    (v1:PySem.W.nsIn K mainGlobals "GREATEST_MOMENT"=some (some (.int 1000000000000 tk1)))
    (v2:PySem.W.nsIn K mainGlobals "MOST_AT_ONCE"=some (some (.int 300 tk2)))
    (v3:PySem.W.nsIn K mainGlobals "DEEDS"=some (some (.ref tp3))) (u3:K.lookup tp3=some {cls:=.type "dict",data:=.dict te3 tn3}) (kl3:PySem.W.KeysLit w.params te3.toList)
    (x3_0:PySem.W.nsIn K tp3 "set"=some (some (.ref f20)))
    (x3_1:PySem.W.nsIn K tp3 "order"=some (some (.ref f21)))
    (x3_2:PySem.W.nsIn K tp3 "timer"=some (some (.ref f22)))
    (x3_3:PySem.W.nsIn K tp3 "child"=some (some (.ref f21)))
    (x3_4:PySem.W.nsIn K tp3 "send"=some (some (.ref f23)))
    (x3_5:PySem.W.nsIn K tp3 "drop"=some (some (.ref f24)))
    (x3_6:PySem.W.nsIn K tp3 "wait"=some (some (.ref f25)))
    (x3_7:PySem.W.nsIn K tp3 "hear"=some (some (.ref f26)))
    (x3_8:PySem.W.nsIn K tp3 "end"=some (some (.ref f27)))
    (zint:PySem.W.nsIn K mainGlobals "int"=some none)
    (zisinstance:PySem.W.nsIn K mainGlobals "isinstance"=some none)
    (zlen:PySem.W.nsIn K mainGlobals "len"=some none)
    (zlist:PySem.W.nsIn K mainGlobals "list"=some none)
    (zmax:PySem.W.nsIn K mainGlobals "max"=some none)
    (zmin:PySem.W.nsIn K mainGlobals "min"=some none)
    (zrange:PySem.W.nsIn K mainGlobals "range"=some none)
    (zset:PySem.W.nsIn K mainGlobals "set"=some none)
    (zsorted:PySem.W.nsIn K mainGlobals "sorted"=some none)
    (ztuple:PySem.W.nsIn K mainGlobals "tuple"=some none)
    : ∃ fd:FuncData,(∀(s:Shared) (v:Value),BindsTo s fd ⟨[v],[]⟩ [("script",v)])∧∀ base:Heap,K.In base→base.Ns mainGlobals mg→bG l.prog w K mg base CX0 30 fa fd ["script"] (aaV K):=by
  have e:=hfa.symm.trans (PySem.W.mg_of X G a58)
  cases e
  have F0:=aZ (st:=oV) l0 c0 k0
  have B0:=F0.binds (ps:=["number"]) fun _ _ _ _ _ _ us hl=>by obtain ⟨_,rfl⟩:=ln1 hl;rfl
  have F1:=aZ (st:=iF) l1 c1 k1
  have B1:=F1.binds (ps:=["saying","names","arg","now","answers"]) fun _ _ _ _ _ _ us hl=>by obtain ⟨_,_,_,_,_,rfl⟩:=ln5 hl;rfl
  have F2:=aZ (st:=jZ) l2 c2 k2
  have B2:=F2.binds (ps:=["sign","one","other"]) fun _ _ _ _ _ _ us hl=>by obtain ⟨_,_,_,rfl⟩:=ln3 hl;rfl
  have F3:=aZ (st:=fY) l3 c3 k3
  have B3:=F3.binds (ps:=["worth"]) fun _ _ _ _ _ _ us hl=>by obtain ⟨_,rfl⟩:=ln1 hl;rfl
  have F4:=aZ (st:=dZ) l4 c4 k4
  have B4:=F4.binds (ps:=["truth"]) fun _ _ _ _ _ _ us hl=>by obtain ⟨_,rfl⟩:=ln1 hl;rfl
  have F5:=aZ (st:=d6) l5 c5 k5
  have B5:=F5.binds (ps:=["self"]) fun _ _ _ _ _ _ us hl=>by obtain ⟨_,rfl⟩:=ln1 hl;rfl
  have F6:=aZ (st:=d7) l6 c6 k6
  have B6:=F6.binds (ps:=["self"]) fun _ _ _ _ _ _ us hl=>by obtain ⟨_,rfl⟩:=ln1 hl;rfl
  have F7:=aZ (st:=cU) l7 c7 k7
  have B7:=F7.binds (ps:=["self","ticket"]) fun _ _ _ _ _ _ us hl=>by obtain ⟨_,_,rfl⟩:=ln2 hl;rfl
  have F8:=aZ (st:=cF) l8 c8 k8
  have B8:=F8.binds (ps:=["self"]) fun _ _ _ _ _ _ us hl=>by obtain ⟨_,rfl⟩:=ln1 hl;rfl
  have F9:=aZ (st:=cT) l9 c9 k9
  have B9:=F9.binds (ps:=["self","ticket","worth"]) fun _ _ _ _ _ _ us hl=>by obtain ⟨_,_,_,rfl⟩:=ln3 hl;rfl
  have F10:=aZ (st:=d4) l10 c10 k10
  have B10:=F10.binds (ps:=["self","ticket"]) fun _ _ _ _ _ _ us hl=>by obtain ⟨_,_,rfl⟩:=ln2 hl;rfl
  have F11:=aZ (st:=cR) l11 c11 k11
  have B11:=F11.binds (ps:=["self"]) fun _ _ _ _ _ _ us hl=>by obtain ⟨_,rfl⟩:=ln1 hl;rfl
  have F12:=aZ (st:=cH) l12 c12 k12
  have B12:=F12.binds (ps:=["self","worths"]) fun _ _ _ _ _ _ us hl=>by obtain ⟨_,_,rfl⟩:=ln2 hl;rfl
  have F13:=aZ (st:=gD) l13 c13 k13
  have B13:=F13.binds (ps:=["self","program"]) fun _ _ _ _ _ _ us hl=>by obtain ⟨_,_,rfl⟩:=ln2 hl;rfl
  have F14:=aZ (st:=eN) l14 c14 k14
  have B14:=F14.binds (ps:=["self"]) fun _ _ _ _ _ _ us hl=>by obtain ⟨_,rfl⟩:=ln1 hl;rfl
  have F15:=aZ (st:=dF) l15 c15 k15
  have B15:=F15.binds (ps:=["self"]) fun _ _ _ _ _ _ us hl=>by obtain ⟨_,rfl⟩:=ln1 hl;rfl
  have F16:=aZ (st:=eR) l16 c16 k16
  have B16:=F16.binds (ps:=["self"]) fun _ _ _ _ _ _ us hl=>by obtain ⟨_,rfl⟩:=ln1 hl;rfl
  have F17:=aZ (st:=fJ) l17 c17 k17
  have B17:=F17.binds (ps:=["self","which"]) fun _ _ _ _ _ _ us hl=>by obtain ⟨_,_,rfl⟩:=ln2 hl;rfl
  have F18:=aZ (st:=fK) l18 c18 k18
  have B18:=F18.binds (ps:=["self"]) fun _ _ _ _ _ _ us hl=>by obtain ⟨_,rfl⟩:=ln1 hl;rfl
  have F19:=aZ (st:=fM) l19 c19 k19
  have B19:=F19.binds (ps:=["self"]) fun _ _ _ _ _ _ us hl=>by obtain ⟨_,rfl⟩:=ln1 hl;rfl
  have F20:=aZ (st:=mH) l20 c20 k20
  have B20:=F20.binds (ps:=["run","statement"]) fun _ _ _ _ _ _ us hl=>by obtain ⟨_,_,rfl⟩:=ln2 hl;rfl
  have F21:=aZ (st:=iE) l21 c21 k21
  have B21:=F21.binds (ps:=["run","statement"]) fun _ _ _ _ _ _ us hl=>by obtain ⟨_,_,rfl⟩:=ln2 hl;rfl
  have F22:=aZ (st:=iB) l22 c22 k22
  have B22:=F22.binds (ps:=["run","statement"]) fun _ _ _ _ _ _ us hl=>by obtain ⟨_,_,rfl⟩:=ln2 hl;rfl
  have F23:=aZ (st:=jU) l23 c23 k23
  have B23:=F23.binds (ps:=["run","statement"]) fun _ _ _ _ _ _ us hl=>by obtain ⟨_,_,rfl⟩:=ln2 hl;rfl
  have F24:=aZ (st:=jS) l24 c24 k24
  have B24:=F24.binds (ps:=["run","statement"]) fun _ _ _ _ _ _ us hl=>by obtain ⟨_,_,rfl⟩:=ln2 hl;rfl
  have F25:=aZ (st:=j0) l25 c25 k25
  have B25:=F25.binds (ps:=["run","statement"]) fun _ _ _ _ _ _ us hl=>by obtain ⟨_,_,rfl⟩:=ln2 hl;rfl
  have F26:=aZ (st:=jP) l26 c26 k26
  have B26:=F26.binds (ps:=["run","statement"]) fun _ _ _ _ _ _ us hl=>by obtain ⟨_,_,rfl⟩:=ln2 hl;rfl
  have F27:=aZ (st:=mC) l27 c27 k27
  have B27:=F27.binds (ps:=["run","statement"]) fun _ _ _ _ _ _ us hl=>by obtain ⟨_,_,rfl⟩:=ln2 hl;rfl
  have F28:=aZ (st:=iH) l28 c28 k28
  have B28:=F28.binds (ps:=["self","program"]) fun _ _ _ _ _ _ us hl=>by obtain ⟨_,_,rfl⟩:=ln2 hl;rfl
  have F29:=aZ (st:=fV) l29 c29 k29
  have B29:=F29.binds (ps:=["self"]) fun _ _ _ _ _ _ us hl=>by obtain ⟨_,rfl⟩:=ln1 hl;rfl
  have F30:=aZ (st:=cS) l30 c30 k30
  have B30:=F30.binds (ps:=["self"]) fun _ _ _ _ _ _ us hl=>by obtain ⟨_,rfl⟩:=ln1 hl;rfl
  have F31:=aZ (st:=fX) l31 c31 k31
  have B31:=F31.binds (ps:=["self"]) fun _ _ _ _ _ _ us hl=>by obtain ⟨_,rfl⟩:=ln1 hl;rfl
  have F32:=aZ (st:=iA) l32 c32 k32
  have B32:=F32.binds (ps:=["self","happening"]) fun _ _ _ _ _ _ us hl=>by obtain ⟨_,_,rfl⟩:=ln2 hl;rfl
  have F33:=aZ (st:=cV) l33 c33 k33
  have B33:=F33.binds (ps:=["self","happening"]) fun _ _ _ _ _ _ us hl=>by obtain ⟨_,_,rfl⟩:=ln2 hl;rfl
  have F34:=aZ (st:=d5) l34 c34 k34
  have B34:=F34.binds (ps:=["self","ticket","worth"]) fun _ _ _ _ _ _ us hl=>by obtain ⟨_,_,_,rfl⟩:=ln3 hl;rfl
  have F35:=aZ (st:=cX) l35 c35 k35
  have B35:=F35.binds (ps:=["self","key","worth"]) fun _ _ _ _ _ _ us hl=>by obtain ⟨_,_,_,rfl⟩:=ln3 hl;rfl
  have F36:=aZ (st:=iI) l36 c36 k36
  have B36:=F36.binds (ps:=["self","worth"]) fun _ _ _ _ _ _ us hl=>by obtain ⟨_,_,rfl⟩:=ln2 hl;rfl
  have F37:=aZ (st:=iG) l37 c37 k37
  have B37:=F37.binds (ps:=["self"]) fun _ _ _ _ _ _ us hl=>by obtain ⟨_,rfl⟩:=ln1 hl;rfl
  have F38:=aZ (st:=fW) l38 c38 k38
  have B38:=F38.binds (ps:=["self","statement"]) fun _ _ _ _ _ _ us hl=>by obtain ⟨_,_,rfl⟩:=ln2 hl;rfl
  have F39:=aZ (st:=iC) l39 c39 k39
  have B39:=F39.binds (ps:=["self","statement"]) fun _ _ _ _ _ _ us hl=>by obtain ⟨_,_,rfl⟩:=ln2 hl;rfl
  have F40:=aZ (st:=jN) l40 c40 k40
  have B40:=F40.binds (ps:=["self","worth"]) fun _ _ _ _ _ _ us hl=>by obtain ⟨_,_,rfl⟩:=ln2 hl;rfl
  have F41:=aZ (st:=eT) l41 c41 k41
  have B41:=F41.binds (ps:=["self"]) fun _ _ _ _ _ _ us hl=>by obtain ⟨_,rfl⟩:=ln1 hl;rfl
  have F42:=aZ (st:=gE) l42 c42 k42
  have B42:=F42.binds (ps:=["self","saying"]) fun _ _ _ _ _ _ us hl=>by obtain ⟨_,_,rfl⟩:=ln2 hl;rfl
  have F43:=aZ (st:=dL) l43 c43 k43
  have B43:=F43.binds (ps:=["self","name"]) fun _ _ _ _ _ _ us hl=>by obtain ⟨_,_,rfl⟩:=ln2 hl;rfl
  have F44:=aZ (st:=fZ) l44 c44 k44
  have B44:=F44.binds (ps:=["program","happenings"]) fun _ _ _ _ _ _ us hl=>by obtain ⟨_,_,rfl⟩:=ln2 hl;rfl
  have F45:=aZ (st:=fL) l45 c45 k45
  have B45:=F45.binds (ps:=["script","k"]) fun _ _ _ _ _ _ us hl=>by obtain ⟨_,_,rfl⟩:=ln2 hl;rfl
  have F46:=aZ (st:=jV) l46 c46 k46
  have B46:=F46.binds (ps:=["cell"]) fun _ _ _ _ _ _ us hl=>by obtain ⟨_,rfl⟩:=ln1 hl;rfl
  have F47:=aZ (st:=iD) l47 c47 k47
  have B47:=F47.binds (ps:=["jar","many"]) fun _ _ _ _ _ _ us hl=>by obtain ⟨_,_,rfl⟩:=ln2 hl;rfl
  have F48:=aZ (st:=gC) l48 c48 k48
  have B48:=F48.binds (ps:=["jar"]) fun _ _ _ _ _ _ us hl=>by obtain ⟨_,rfl⟩:=ln1 hl;rfl
  have F49:=aZ (st:=fH) l49 c49 k49
  have B49:=F49.binds (ps:=["jar"]) fun _ _ _ _ _ _ us hl=>by obtain ⟨_,rfl⟩:=ln1 hl;rfl
  have F50:=aZ (st:=dM) l50 c50 k50
  have B50:=F50.binds (ps:=["jar"]) fun _ _ _ _ _ _ us hl=>by obtain ⟨_,rfl⟩:=ln1 hl;rfl
  have F51:=aZ (st:=fO) l51 c51 k51
  have B51:=F51.binds (ps:=["jar","deep"]) fun _ _ _ _ _ _ us hl=>by obtain ⟨_,_,rfl⟩:=ln2 hl;rfl
  have F52:=aZ (st:=eK) l52 c52 k52
  have B52:=F52.binds (ps:=["jar","name"]) fun _ _ _ _ _ _ us hl=>by obtain ⟨_,_,rfl⟩:=ln2 hl;rfl
  have F53:=aZ (st:=dI) l53 c53 k53
  have B53:=F53.binds (ps:=["jar","deep","room"]) fun _ _ _ _ _ _ us hl=>by obtain ⟨_,_,_,rfl⟩:=ln3 hl;rfl
  have F54:=aZ (st:=gF) l54 c54 k54
  have B54:=F54.binds (ps:=["jar","deep","room"]) fun _ _ _ _ _ _ us hl=>by obtain ⟨_,_,_,rfl⟩:=ln3 hl;rfl
  have F55:=aZ (st:=eQ) l55 c55 k55
  have B55:=F55.binds (ps:=["cell"]) fun _ _ _ _ _ _ us hl=>by obtain ⟨_,rfl⟩:=ln1 hl;rfl
  have F56:=aZ (st:=fN) l56 c56 k56
  have B56:=F56.binds (ps:=["run"]) fun _ _ _ _ _ _ us hl=>by obtain ⟨_,rfl⟩:=ln1 hl;rfl
  have F57:=aZ (st:=gG) l57 c57 k57
  have B57:=F57.binds (ps:=["program","happenings"]) fun _ _ _ _ _ _ us hl=>by obtain ⟨_,_,rfl⟩:=ln2 hl;rfl
  have F58:=aZ (st:=nP) l58 c58 k58
  have B58:=F58.binds (ps:=["script"]) fun _ _ _ _ _ _ us hl=>by obtain ⟨_,rfl⟩:=ln1 hl;rfl
  have T:Tx w K mg ⟨f0,_,f1,_,f2,_,f3,_,f4,_,f5,_,f6,_,f7,_,f8,_,f9,_,f10,_,f11,_,f12,_,f13,_,f14,_,f15,_,f16,_,f17,_,f18,_,f19,_,f20,_,f21,_,f22,_,f23,_,f24,_,f25,_,f26,_,f27,_,f28,_,f29,_,f30,_,f31,_,f32,_,f33,_,f34,_,f35,_,f36,_,f37,_,f38,_,f39,_,f40,_,f41,_,f42,_,f43,_,f44,_,f45,_,f46,_,f47,_,f48,_,f49,_,f50,_,f51,_,f52,_,f53,_,f54,_,f55,_,f56,_,f57,_,fa,_,tk0,tk1,tk2,tp3,CTickets,CWalk,CRun⟩:=⟨F0,B0,(PySem.W.mg_of X G a0),F1,B1,(PySem.W.mg_of X G a1),F2,B2,(PySem.W.mg_of X G a2),F3,B3,(PySem.W.mg_of X G a3),F4,B4,(PySem.W.mg_of X G a4),F5,B5,⟨a5,i5,k5⟩,F6,B6,⟨a6,i6,k6⟩,F7,B7,⟨a7,i7,k7⟩,F8,B8,⟨a8,i8,k8⟩,F9,B9,⟨a9,i9,k9⟩,F10,B10,⟨a10,i10,k10⟩,F11,B11,⟨a11,i11,k11⟩,F12,B12,⟨a12,i12,k12⟩,F13,B13,⟨a13,i13,k13⟩,F14,B14,⟨a14,i14,k14⟩,F15,B15,⟨a15,i15,k15⟩,F16,B16,⟨a16,i16,k16⟩,F17,B17,⟨a17,i17,k17⟩,F18,B18,⟨a18,i18,k18⟩,F19,B19,⟨a19,i19,k19⟩,F20,B20,(PySem.W.mg_of X G a20),F21,B21,(PySem.W.mg_of X G a21),F22,B22,(PySem.W.mg_of X G a22),F23,B23,(PySem.W.mg_of X G a23),F24,B24,(PySem.W.mg_of X G a24),F25,B25,(PySem.W.mg_of X G a25),F26,B26,(PySem.W.mg_of X G a26),F27,B27,(PySem.W.mg_of X G a27),F28,B28,⟨a28,i28,k28⟩,F29,B29,⟨a29,i29,k29⟩,F30,B30,⟨a30,i30,k30⟩,F31,B31,⟨a31,i31,k31⟩,F32,B32,⟨a32,i32,k32⟩,F33,B33,⟨a33,i33,k33⟩,F34,B34,⟨a34,i34,k34⟩,F35,B35,⟨a35,i35,k35⟩,F36,B36,⟨a36,i36,k36⟩,F37,B37,⟨a37,i37,k37⟩,F38,B38,⟨a38,i38,k38⟩,F39,B39,⟨a39,i39,k39⟩,F40,B40,⟨a40,i40,k40⟩,F41,B41,⟨a41,i41,k41⟩,F42,B42,⟨a42,i42,k42⟩,F43,B43,⟨a43,i43,k43⟩,F44,B44,(PySem.W.mg_of X G a44),F45,B45,(PySem.W.mg_of X G a45),F46,B46,(PySem.W.mg_of X G a46),F47,B47,(PySem.W.mg_of X G a47),F48,B48,(PySem.W.mg_of X G a48),F49,B49,(PySem.W.mg_of X G a49),F50,B50,(PySem.W.mg_of X G a50),F51,B51,(PySem.W.mg_of X G a51),F52,B52,(PySem.W.mg_of X G a52),F53,B53,(PySem.W.mg_of X G a53),F54,B54,(PySem.W.mg_of X G a54),F55,B55,(PySem.W.mg_of X G a55),F56,B56,(PySem.W.mg_of X G a56),F57,B57,(PySem.W.mg_of X G a57),F58,B58,(PySem.W.mg_of X G a58),⟨pgTickets,hdTickets,poTickets,saTickets⟩,(PySem.W.mg_of X G aCTickets),⟨mkTickets,a5,i5,kcTickets⟩,⟨pgWalk,hdWalk,poWalk,saWalk⟩,(PySem.W.mg_of X G aCWalk),⟨mkWalk,a13,i13,kcWalk⟩,⟨pgRun,hdRun,poRun,saRun⟩,(PySem.W.mg_of X G aCRun),⟨mkRun,a28,i28,kcRun⟩,namade,napending,naanswers,nablocks,nanumbers,nawalk,nasleep,naarg,nanow,nanames,natickets,naletters,(PySem.W.mg_of X G v0),(PySem.W.mg_of X G v1),(PySem.W.mg_of X G v2),(PySem.W.mg_of X G v3),⟨_,_,u3,kl3⟩,x3_0,x3_1,x3_2,x3_3,x3_4,x3_5,x3_6,x3_7,x3_8,(PySem.W.mg_none_of X G zint),(PySem.W.mg_none_of X G zisinstance),(PySem.W.mg_none_of X G zlen),(PySem.W.mg_none_of X G zlist),(PySem.W.mg_none_of X G zmax),(PySem.W.mg_none_of X G zmin),(PySem.W.mg_none_of X G zrange),(PySem.W.mg_none_of X G zset),(PySem.W.mg_none_of X G zsorted),(PySem.W.mg_none_of X G ztuple)⟩
  exact ⟨PySem.W.fnOf "law" "law" (aS nP) (aR nP) (aF nP) .none kV58 dc58 pm58 an58 cd58 ct58,fun s v=>.of_eq rfl,fun base _ _=>ok_law T⟩
theorem walk {l:PySem.W.OpenLaw} {q:Program} {loose:List Str} {XP:(Str→Option Value)→Heap→Prop} {YP:World→Heap→Prop} {d:DefRec} {K:Params→PySem.W.Frag} (hn:l.most=some 63) (hdf:d.params.defaults=[])
    (hY:∀(w:World) (h:Heap),YP w h→(K w.params).In h)
    (F:∀(w:World) (mg:Str→Option Value) (fa:Addr) (h:Heap),(K w.params).In h→h.Ns mainGlobals mg→mg d.name=some (.ref fa) →
      ∃ fd:FuncData,(∀(s:Shared) (u:Value),BindsTo s fd ⟨[u],[]⟩ [("script",u)])∧∀ base:Heap,(K w.params).In base→base.Ns mainGlobals mg→bG l.prog w (K w.params) mg base CX0 30 fa fd ["script"] (aaV (K w.params))) :
    PySem.W.WalkO q loose XP YP l.row.toRowW d [] (fun f vs=>PySem.call f vs) :=
  L2.walk_of (n:=63) (k:=30) (x:="script") (CX:=fun _=>CX0) (sp:=fun w=>aaV (K w.params)) hn (by decide) hdf ⟨rfl,by decide,by decide⟩ hY F (fun _ _ a ns hl _ hS=>⟨a,ns,rfl,hS,hl,fun _=>rfl⟩) fun _ _ _ _ _ z=>z
end Own
open PySem PySem.W PyProof.Rows
set_option maxRecDepth 100000 in
set_option maxHeartbeats 0 in
theorem PySem.Challenge.cw_outlast_k26_run_again_holds : PySem.Challenge.rw_outlast_k26_run_again.Holds := by
 w_on;o_law;z_head;(case hw=>w_witness2)
 k_fill
 refine Own.walkX_of (fun _=>rfl) ?_
 refine Own.walk (l:=PySem.Challenge.rw_outlast_k26_run_again) rfl rfl (fun w h Y=>PySem.W.kIn_of Y) ?F
 case F =>
  intro w mg fa h KX G hmg
  refine' Own.all_mk KX G hmg ?a0 ?l0 ?c0 ?k0 ?a1 ?l1 ?c1 ?k1 ?a2 ?l2 ?c2 ?k2 ?a3 ?l3 ?c3 ?k3 ?a4 ?l4 ?c4 ?k4 ?a5 ?i5 ?l5 ?c5 ?k5 ?a6 ?i6 ?l6 ?c6 ?k6 ?a7 ?i7 ?l7 ?c7 ?k7 ?a8 ?i8 ?l8 ?c8 ?k8 ?a9 ?i9 ?l9 ?c9 ?k9 ?a10 ?i10 ?l10 ?c10 ?k10 ?a11 ?i11 ?l11 ?c11 ?k11 ?a12 ?i12 ?l12 ?c12 ?k12 ?a13 ?i13 ?l13 ?c13 ?k13 ?a14 ?i14 ?l14 ?c14 ?k14 ?a15 ?i15 ?l15 ?c15 ?k15 ?a16 ?i16 ?l16 ?c16 ?k16 ?a17 ?i17 ?l17 ?c17 ?k17 ?a18 ?i18 ?l18 ?c18 ?k18 ?a19 ?i19 ?l19 ?c19 ?k19 ?a20 ?l20 ?c20 ?k20 ?a21 ?l21 ?c21 ?k21 ?a22 ?l22 ?c22 ?k22 ?a23 ?l23 ?c23 ?k23 ?a24 ?l24 ?c24 ?k24 ?a25 ?l25 ?c25 ?k25 ?a26 ?l26 ?c26 ?k26 ?a27 ?l27 ?c27 ?k27 ?a28 ?i28 ?l28 ?c28 ?k28 ?a29 ?i29 ?l29 ?c29 ?k29 ?a30 ?i30 ?l30 ?c30 ?k30 ?a31 ?i31 ?l31 ?c31 ?k31 ?a32 ?i32 ?l32 ?c32 ?k32 ?a33 ?i33 ?l33 ?c33 ?k33 ?a34 ?i34 ?l34 ?c34 ?k34 ?a35 ?i35 ?l35 ?c35 ?k35 ?a36 ?i36 ?l36 ?c36 ?k36 ?a37 ?i37 ?l37 ?c37 ?k37 ?a38 ?i38 ?l38 ?c38 ?k38 ?a39 ?i39 ?l39 ?c39 ?k39 ?a40 ?i40 ?l40 ?c40 ?k40 ?a41 ?i41 ?l41 ?c41 ?k41 ?a42 ?i42 ?l42 ?c42 ?k42 ?a43 ?i43 ?l43 ?c43 ?k43 ?a44 ?l44 ?c44 ?k44 ?a45 ?l45 ?c45 ?k45 ?a46 ?l46 ?c46 ?k46 ?a47 ?l47 ?c47 ?k47 ?a48 ?l48 ?c48 ?k48 ?a49 ?l49 ?c49 ?k49 ?a50 ?l50 ?c50 ?k50 ?a51 ?l51 ?c51 ?k51 ?a52 ?l52 ?c52 ?k52 ?a53 ?l53 ?c53 ?k53 ?a54 ?l54 ?c54 ?k54 ?a55 ?l55 ?c55 ?k55 ?a56 ?l56 ?c56 ?k56 ?a57 ?l57 ?c57 ?k57 ?a58 ?l58 ?c58 ?k58 ?aCTickets ?pgTickets ?hdTickets ?poTickets ?saTickets ?mkTickets ?kcTickets ?aCWalk ?pgWalk ?hdWalk ?poWalk ?saWalk ?mkWalk ?kcWalk ?aCRun ?pgRun ?hdRun ?poRun ?saRun ?mkRun ?kcRun ?namade ?napending ?naanswers ?nablocks ?nanumbers ?nawalk ?nasleep ?naarg ?nanow ?nanames ?natickets ?naletters ?v0 ?v1 ?v2 ?v3 ?u3 ?kl3 ?x3_0 ?x3_1 ?x3_2 ?x3_3 ?x3_4 ?x3_5 ?x3_6 ?x3_7 ?x3_8 ?zint ?zisinstance ?zlen ?zlist ?zmax ?zmin ?zrange ?zset ?zsorted ?ztuple
  (case aCTickets=>k_is)
  (case aCWalk=>k_is)
  (case aCRun=>k_is)
  (case a0=>k_is)
  (case l0=>k_is)
  (case c0=>k_is)
  (case k0=>k_is)
  (case a1=>k_is)
  (case l1=>k_is)
  (case c1=>k_is)
  (case k1=>k_is)
  (case a2=>k_is)
  (case l2=>k_is)
  (case c2=>k_is)
  (case k2=>k_is)
  (case a3=>k_is)
  (case l3=>k_is)
  (case c3=>k_is)
  (case k3=>k_is)
  (case a4=>k_is)
  (case l4=>k_is)
  (case c4=>k_is)
  (case k4=>k_is)
  (case a5=>k_is)
  (case i5=>k_is)
  (case l5=>k_is)
  (case c5=>k_is)
  (case k5=>k_is)
  (case a6=>k_is)
  (case i6=>k_is)
  (case l6=>k_is)
  (case c6=>k_is)
  (case k6=>k_is)
  (case a7=>k_is)
  (case i7=>k_is)
  (case l7=>k_is)
  (case c7=>k_is)
  (case k7=>k_is)
  (case a8=>k_is)
  (case i8=>k_is)
  (case l8=>k_is)
  (case c8=>k_is)
  (case k8=>k_is)
  (case a9=>k_is)
  (case i9=>k_is)
  (case l9=>k_is)
  (case c9=>k_is)
  (case k9=>k_is)
  (case a10=>k_is)
  (case i10=>k_is)
  (case l10=>k_is)
  (case c10=>k_is)
  (case k10=>k_is)
  (case a11=>k_is)
  (case i11=>k_is)
  (case l11=>k_is)
  (case c11=>k_is)
  (case k11=>k_is)
  (case a12=>k_is)
  (case i12=>k_is)
  (case l12=>k_is)
  (case c12=>k_is)
  (case k12=>k_is)
  (case a13=>k_is)
  (case i13=>k_is)
  (case l13=>k_is)
  (case c13=>k_is)
  (case k13=>k_is)
  (case a14=>k_is)
  (case i14=>k_is)
  (case l14=>k_is)
  (case c14=>k_is)
  (case k14=>k_is)
  (case a15=>k_is)
  (case i15=>k_is)
  (case l15=>k_is)
  (case c15=>k_is)
  (case k15=>k_is)
  (case a16=>k_is)
  (case i16=>k_is)
  (case l16=>k_is)
  (case c16=>k_is)
  (case k16=>k_is)
  (case a17=>k_is)
  (case i17=>k_is)
  (case l17=>k_is)
  (case c17=>k_is)
  (case k17=>k_is)
  (case a18=>k_is)
  (case i18=>k_is)
  (case l18=>k_is)
  (case c18=>k_is)
  (case k18=>k_is)
  (case a19=>k_is)
  (case i19=>k_is)
  (case l19=>k_is)
  (case c19=>k_is)
  (case k19=>k_is)
  (case a20=>k_is)
  (case l20=>k_is)
  (case c20=>k_is)
  (case k20=>k_is)
  (case a21=>k_is)
  (case l21=>k_is)
  (case c21=>k_is)
  (case k21=>k_is)
  (case a22=>k_is)
  (case l22=>k_is)
  (case c22=>k_is)
  (case k22=>k_is)
  (case a23=>k_is)
  (case l23=>k_is)
  (case c23=>k_is)
  (case k23=>k_is)
  (case a24=>k_is)
  (case l24=>k_is)
  (case c24=>k_is)
  (case k24=>k_is)
  (case a25=>k_is)
  (case l25=>k_is)
  (case c25=>k_is)
  (case k25=>k_is)
  (case a26=>k_is)
  (case l26=>k_is)
  (case c26=>k_is)
  (case k26=>k_is)
  (case a27=>k_is)
  (case l27=>k_is)
  (case c27=>k_is)
  (case k27=>k_is)
  (case a28=>k_is)
  (case i28=>k_is)
  (case l28=>k_is)
  (case c28=>k_is)
  (case k28=>k_is)
  (case a29=>k_is)
  (case i29=>k_is)
  (case l29=>k_is)
  (case c29=>k_is)
  (case k29=>k_is)
  (case a30=>k_is)
  (case i30=>k_is)
  (case l30=>k_is)
  (case c30=>k_is)
  (case k30=>k_is)
  (case a31=>k_is)
  (case i31=>k_is)
  (case l31=>k_is)
  (case c31=>k_is)
  (case k31=>k_is)
  (case a32=>k_is)
  (case i32=>k_is)
  (case l32=>k_is)
  (case c32=>k_is)
  (case k32=>k_is)
  (case a33=>k_is)
  (case i33=>k_is)
  (case l33=>k_is)
  (case c33=>k_is)
  (case k33=>k_is)
  (case a34=>k_is)
  (case i34=>k_is)
  (case l34=>k_is)
  (case c34=>k_is)
  (case k34=>k_is)
  (case a35=>k_is)
  (case i35=>k_is)
  (case l35=>k_is)
  (case c35=>k_is)
  (case k35=>k_is)
  (case a36=>k_is)
  (case i36=>k_is)
  (case l36=>k_is)
  (case c36=>k_is)
  (case k36=>k_is)
  (case a37=>k_is)
  (case i37=>k_is)
  (case l37=>k_is)
  (case c37=>k_is)
  (case k37=>k_is)
  (case a38=>k_is)
  (case i38=>k_is)
  (case l38=>k_is)
  (case c38=>k_is)
  (case k38=>k_is)
  (case a39=>k_is)
  (case i39=>k_is)
  (case l39=>k_is)
  (case c39=>k_is)
  (case k39=>k_is)
  (case a40=>k_is)
  (case i40=>k_is)
  (case l40=>k_is)
  (case c40=>k_is)
  (case k40=>k_is)
  (case a41=>k_is)
  (case i41=>k_is)
  (case l41=>k_is)
  (case c41=>k_is)
  (case k41=>k_is)
  (case a42=>k_is)
  (case i42=>k_is)
  (case l42=>k_is)
  (case c42=>k_is)
  (case k42=>k_is)
  (case a43=>k_is)
  (case i43=>k_is)
  (case l43=>k_is)
  (case c43=>k_is)
  (case k43=>k_is)
  (case a44=>k_is)
  (case l44=>k_is)
  (case c44=>k_is)
  (case k44=>k_is)
  (case a45=>k_is)
  (case l45=>k_is)
  (case c45=>k_is)
  (case k45=>k_is)
  (case a46=>k_is)
  (case l46=>k_is)
  (case c46=>k_is)
  (case k46=>k_is)
  (case a47=>k_is)
  (case l47=>k_is)
  (case c47=>k_is)
  (case k47=>k_is)
  (case a48=>k_is)
  (case l48=>k_is)
  (case c48=>k_is)
  (case k48=>k_is)
  (case a49=>k_is)
  (case l49=>k_is)
  (case c49=>k_is)
  (case k49=>k_is)
  (case a50=>k_is)
  (case l50=>k_is)
  (case c50=>k_is)
  (case k50=>k_is)
  (case a51=>k_is)
  (case l51=>k_is)
  (case c51=>k_is)
  (case k51=>k_is)
  (case a52=>k_is)
  (case l52=>k_is)
  (case c52=>k_is)
  (case k52=>k_is)
  (case a53=>k_is)
  (case l53=>k_is)
  (case c53=>k_is)
  (case k53=>k_is)
  (case a54=>k_is)
  (case l54=>k_is)
  (case c54=>k_is)
  (case k54=>k_is)
  (case a55=>k_is)
  (case l55=>k_is)
  (case c55=>k_is)
  (case k55=>k_is)
  (case a56=>k_is)
  (case l56=>k_is)
  (case c56=>k_is)
  (case k56=>k_is)
  (case a57=>k_is)
  (case l57=>k_is)
  (case c57=>k_is)
  (case k57=>k_is)
  (case a58=>k_is)
  (case l58=>k_is)
  (case c58=>k_is)
  (case k58=>k_is)
  (case pgTickets=>k_is)
  (case hdTickets=>k_is)
  (case poTickets=>k_is)
  (case saTickets=>k_is)
  (case mkTickets=>k_is)
  (case kcTickets=>k_is)
  (case pgWalk=>k_is)
  (case hdWalk=>k_is)
  (case poWalk=>k_is)
  (case saWalk=>k_is)
  (case mkWalk=>k_is)
  (case kcWalk=>k_is)
  (case pgRun=>k_is)
  (case hdRun=>k_is)
  (case poRun=>k_is)
  (case saRun=>k_is)
  (case mkRun=>k_is)
  (case kcRun=>k_is)
  (case namade=>k_is)
  (case napending=>k_is)
  (case naanswers=>k_is)
  (case nablocks=>k_is)
  (case nanumbers=>k_is)
  (case nawalk=>k_is)
  (case nasleep=>k_is)
  (case naarg=>k_is)
  (case nanow=>k_is)
  (case nanames=>k_is)
  (case natickets=>k_is)
  (case naletters=>k_is)
  (case v0=>k_is)
  (case v1=>k_is)
  (case v2=>k_is)
  (case v3=>k_is)
  (case u3=>k_is)
  (case kl3=>exact ⟨⟨_,_,rfl,rfl⟩,⟨_,_,rfl,rfl⟩,⟨_,_,rfl,rfl⟩,⟨_,_,rfl,rfl⟩,⟨_,_,rfl,rfl⟩,⟨_,_,rfl,rfl⟩,⟨_,_,rfl,rfl⟩,⟨_,_,rfl,rfl⟩,⟨_,_,rfl,rfl⟩,trivial⟩)
  (case x3_0=>k_is)
  (case x3_1=>k_is)
  (case x3_2=>k_is)
  (case x3_3=>k_is)
  (case x3_4=>k_is)
  (case x3_5=>k_is)
  (case x3_6=>k_is)
  (case x3_7=>k_is)
  (case x3_8=>k_is)
  (case zint=>k_is)
  (case zisinstance=>k_is)
  (case zlen=>k_is)
  (case zlist=>k_is)
  (case zmax=>k_is)
  (case zmin=>k_is)
  (case zrange=>k_is)
  (case zset=>k_is)
  (case zsorted=>k_is)
  (case ztuple=>k_is)
