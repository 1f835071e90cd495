import PyProof.Rows.All
import Wide.All
import OpenK.AllK
import Wide.FinOn
import Lean
import PyProof.EqAt
import PyProof.EqKinds
import PyProof.TupleCall
import PySem.Challenge.RW_outlast_k28_kept_texts
set_option Elab.async false
set_option linter.all false
set_option maxRecDepth 100000
local macro_rules | `(tactic| omega) => `(tactic| first | assumption | lia | omega +splitDisjunctions)
namespace PySem.W.Fast
theorem tw10032110340193081751:True:=⟨⟩
theorem tw10052957530068229405:True:=⟨⟩
theorem tw10331958434501590135:True:=⟨⟩
theorem tw103992177563049984:True:=⟨⟩
theorem tw1047685814305571037:True:=⟨⟩
theorem tw10486897790250899422:True:=⟨⟩
theorem tw105108939537607504:True:=⟨⟩
theorem tw10703226190229103885:True:=⟨⟩
theorem tw10739546314968377168:True:=⟨⟩
theorem tw10926583052976591909:True:=⟨⟩
theorem tw10979030016863098834:True:=⟨⟩
theorem tw10995848192161236098:True:=⟨⟩
theorem tw11091268282724260724:True:=⟨⟩
theorem tw11435501338893688200:True:=⟨⟩
theorem tw11697737723539238858:True:=⟨⟩
theorem tw12063409529227412722:True:=⟨⟩
theorem tw12299387808987378870:True:=⟨⟩
theorem tw12522939999562620515:True:=⟨⟩
theorem tw12801383024855395512:True:=⟨⟩
theorem tw1298779050894895923:True:=⟨⟩
theorem tw12990410749040391226:True:=⟨⟩
theorem tw13022603958715733108:True:=⟨⟩
theorem tw13132495788978869962:True:=⟨⟩
theorem tw13205851239878500798:True:=⟨⟩
theorem tw13304044530942305601:True:=⟨⟩
theorem tw13350358872458032330:True:=⟨⟩
theorem tw13465159986698677587:True:=⟨⟩
theorem tw13583248853226211951:True:=⟨⟩
theorem tw1428421375842684015:True:=⟨⟩
theorem tw14529192544853520121:True:=⟨⟩
theorem tw14615965973643002768:True:=⟨⟩
theorem tw14766792432779176423:True:=⟨⟩
theorem tw14775363415657191276:True:=⟨⟩
theorem tw15173616981526477517:True:=⟨⟩
theorem tw15337522195961928298:True:=⟨⟩
theorem tw15349900865609118402:True:=⟨⟩
theorem tw154356506366270558:True:=⟨⟩
theorem tw15487301782916782055:True:=⟨⟩
theorem tw15519485719862330652:True:=⟨⟩
theorem tw1556326950820655364:True:=⟨⟩
theorem tw15663552976830285540:True:=⟨⟩
theorem tw1578215088412584696:True:=⟨⟩
theorem tw16006113600581993835:True:=⟨⟩
theorem tw16072540220336962618:True:=⟨⟩
theorem tw16120696148844553807:True:=⟨⟩
theorem tw16156735569133807044:True:=⟨⟩
theorem tw16394808051785478818:True:=⟨⟩
theorem tw16469264009801772728:True:=⟨⟩
theorem tw16622787645213782614:True:=⟨⟩
theorem tw16723330243101621724:True:=⟨⟩
theorem tw16806457878462647873:True:=⟨⟩
theorem tw1681309404980186977:True:=⟨⟩
theorem tw17039397920297637570:True:=⟨⟩
theorem tw17152653638918170295:True:=⟨⟩
theorem tw17258271636358092150:True:=⟨⟩
theorem tw17480506867316992608:True:=⟨⟩
theorem tw17623501388772888818:True:=⟨⟩
theorem tw17688609953978269364:True:=⟨⟩
theorem tw1778035692589286726:True:=⟨⟩
theorem tw17848941488663391468:True:=⟨⟩
theorem tw18327195185170453997:True:=⟨⟩
theorem tw18426391251626466195:True:=⟨⟩
theorem tw1846898546944943611:True:=⟨⟩
theorem tw1958657674501803847:True:=⟨⟩
theorem tw2313788825754427492:True:=⟨⟩
theorem tw2317770315138553958:True:=⟨⟩
theorem tw2421143856010799217:True:=⟨⟩
theorem tw2450733433607881956:True:=⟨⟩
theorem tw2503025214214960299:True:=⟨⟩
theorem tw2531621154161723655:True:=⟨⟩
theorem tw256929885045638317:True:=⟨⟩
theorem tw2666909164915761927:True:=⟨⟩
theorem tw2771271601865791081:True:=⟨⟩
theorem tw3098019645554191418:True:=⟨⟩
theorem tw3098578692225635743:True:=⟨⟩
theorem tw3211005487794702487:True:=⟨⟩
theorem tw3402257739317671623:True:=⟨⟩
theorem tw3452367422254320152:True:=⟨⟩
theorem tw347467306870565385:True:=⟨⟩
theorem tw3537821965091064213:True:=⟨⟩
theorem tw3949394055737078207:True:=⟨⟩
theorem tw4259436097381230743:True:=⟨⟩
theorem tw437256733306370342:True:=⟨⟩
theorem tw4543608375282109863:True:=⟨⟩
theorem tw4562825419832876858:True:=⟨⟩
theorem tw4585385195230043090:True:=⟨⟩
theorem tw4804220119999398796:True:=⟨⟩
theorem tw4963376131095008174:True:=⟨⟩
theorem tw4982831396248800645:True:=⟨⟩
theorem tw540493775918197149:True:=⟨⟩
theorem tw5478589882589182530:True:=⟨⟩
theorem tw5520912657537789716:True:=⟨⟩
theorem tw5893281928399144385:True:=⟨⟩
theorem tw6193155380101834379:True:=⟨⟩
theorem tw6346244251428186087:True:=⟨⟩
theorem tw6353666777723895264:True:=⟨⟩
theorem tw6790025411032471179:True:=⟨⟩
theorem tw6902347716551043363:True:=⟨⟩
theorem tw6904191366517218502:True:=⟨⟩
theorem tw7003064895121740189:True:=⟨⟩
theorem tw7109644595530768033:True:=⟨⟩
theorem tw7136385846023497628:True:=⟨⟩
theorem tw7273670271507113343:True:=⟨⟩
theorem tw7326561859717475504:True:=⟨⟩
theorem tw752741312551747378:True:=⟨⟩
theorem tw7558023530429935677:True:=⟨⟩
theorem tw7563211924253044702:True:=⟨⟩
theorem tw7640286604062826825:True:=⟨⟩
theorem tw778422326164455110:True:=⟨⟩
theorem tw7897318553405817494:True:=⟨⟩
theorem tw7967824801441001918:True:=⟨⟩
theorem tw8061296222784337428:True:=⟨⟩
theorem tw8080644617807161952:True:=⟨⟩
theorem tw8126199370329856375:True:=⟨⟩
theorem tw8165556602265451061:True:=⟨⟩
theorem tw8368573288038707818:True:=⟨⟩
theorem tw8437936593959153423:True:=⟨⟩
theorem tw8599957544926474363:True:=⟨⟩
theorem tw8630171868697083:True:=⟨⟩
theorem tw8715326554602849032:True:=⟨⟩
theorem tw8735173247107157386:True:=⟨⟩
theorem tw876305408696117021:True:=⟨⟩
theorem tw8765118333948197862:True:=⟨⟩
theorem tw8794406172058581454:True:=⟨⟩
theorem tw8824314975609034631:True:=⟨⟩
theorem tw8913479796531057172:True:=⟨⟩
theorem tw9071450820850835267:True:=⟨⟩
theorem tw9113755192306953259:True:=⟨⟩
theorem tw9120344047598604988:True:=⟨⟩
theorem tw9332211354363670141:True:=⟨⟩
theorem tw9480682087722741955:True:=⟨⟩
theorem tw9659369739760503727:True:=⟨⟩
theorem tw9835092297855949508:True:=⟨⟩
theorem tw9983737288199586911:True:=⟨⟩
theorem tw998844402138817492:True:=⟨⟩
end PySem.W.Fast
namespace L2
open PySem PySem.Spec PyProof.Rows
inductive Key where
 | inl (i:Int) | inr (x:Str) | no
 deriving DecidableEq
noncomputable def ab4:Key->Value->Bool
 | .inl k,v=>Value.isInt k v
 | .inr x,v=>Value.isStrOf x v
 | .no,.none=>true
 | .no,_=>false
noncomputable def aBS (w:World):Key->Int
 | .inl k=>hashInt k
 | .inr x=>hashStr w x
 | .no=>reduceHash 0xFCA86420
theorem dU:∀ {k:Key} {v:Value},ab4 k v=true->(∃ i t,k=Key.inl i/\v=Value.int i t)\/(∃ x t,k=Key.inr x/\v=Value.str x t)\/(k=Key.no/\v=Value.none)
 | .inl i,v,h=>by
  obtain ⟨t,e⟩:=Value.isInt_shape (k:=i) (v:=v) h;exact .inl ⟨i,t,rfl,e⟩
 | .inr x,v,h=>by
  obtain ⟨t,e⟩:=Value.isStrOf_shape (x:=x) (v:=v) h;exact .inr (.inl ⟨x,t,rfl,e⟩)
 | .no,v,h=>by
  cases v<;>first | exact .inr (.inr ⟨rfl,rfl⟩) | cases h
theorem alX (i:Int) (t:Tok):ab4 (.inl i) (.int i t)=true:=by simp [ab4,Value.isInt]
theorem al2 (x:Str) (t:Tok):ab4 (.inr x) (.str x t)=true:=by simp [ab4,Value.isStrOf]
theorem ayE (a b:Int):decide (Key.inl a=Key.inl b)=(a == b):=by
 by_cases e:a=b
 ·subst e;simp
 ·have h:¬ Key.inl a=Key.inl b:=fun q=>e (Key.inl.inj q);rw [decide_eq_false h];exact (beq_eq_false_iff_ne.mpr e).symm
theorem auW (a b:Str):decide (Key.inr a=Key.inr b)=decide (a=b):=by
 by_cases e:a=b
 ·subst e;simp
 ·have h:¬ Key.inr a=Key.inr b:=fun q=>e (Key.inr.inj q);rw [decide_eq_false h,decide_eq_false e]
noncomputable def bY (prog:Program) (w:World):PySem.KeyKind prog w Key where
 is:=ab4
 hash:=aBS w
 inj:=fun v a b ha hb=>by
  rcases dU ha with ⟨i,t,rfl,rfl⟩ | ⟨x,t,rfl,rfl⟩ | ⟨rfl,rfl⟩<;>rcases dU hb with ⟨j,u,rfl,e⟩ | ⟨y,u,rfl,e⟩ | ⟨rfl,e⟩ <;>
   first | rfl | (cases e<;>rfl)
 byValue:=fun k v h=>by
  rcases dU h with ⟨i,t,rfl,rfl⟩ | ⟨x,t,rfl,rfl⟩ | ⟨rfl,rfl⟩<;>rfl
 pyHash:=fun hv h=>by
  rcases dU hv with ⟨i,t,rfl,rfl⟩ | ⟨x,t,rfl,rfl⟩ | ⟨rfl,rfl⟩
  ·exact wpAny_pyHash_int h
  ·exact wpAny_pyHash_str h
  ·exact PySem.W.pyHash_slot (T:="NoneType") rfl F.slot_NoneType_hash F.entry_NoneType_hash (F.args_NoneType_hash_1 _) (beq_builtin_none _) (.inl rfl) (wpAny_bind (wpAny_pure (wpAny_bind (wpAny_mkInt (wpAny_pure ⟨_,_,rfl,h⟩)))))
 eqBool:=fun hu hv h=>by
  rcases dU hu with ⟨i,t,rfl,rfl⟩ | ⟨x,t,rfl,rfl⟩ | ⟨rfl,rfl⟩<;>rcases dU hv with ⟨j,u,rfl,rfl⟩ | ⟨y,u,rfl,rfl⟩ | ⟨rfl,rfl⟩
  ·rw [ayE] at h;exact wpAny_eqBool_int h
  ·exact SeqAt.EqAt.int_str i t y u _ _ _ _ h
  ·exact SeqAt.EqAt.int_none i t _ _ _ _ h
  ·exact SeqAt.EqAt.str_int x t j u _ _ _ _ h
  ·rw [auW] at h;exact wpAny_eqBool_str h
  ·exact SeqAt.EqAt.str_none x t _ _ _ _ h
  ·exact SeqAt.EqAt.none_int j u _ _ _ _ h
  ·exact SeqAt.EqAt.none_str y u _ _ _ _ h
  ·exact SeqAt.EqAt.same .none _ _ _ _ h
 «strs»:=fun k x t v h=>by
  rcases dU h with ⟨i,u,rfl,e⟩ | ⟨y,u,rfl,e⟩ | ⟨rfl,e⟩
  ·exact nomatch e
  ·injection e with e1 _
   subst e1;cases v<;>rfl
  ·exact nomatch e
theorem ae4 (prog:Program) (w:World) (i:Int) (t:Tok):(bY prog w).is (.inl i) (.int i t)=true:=alX i t
theorem aeQ (prog:Program) (w:World) (x:Str) (t:Tok):(bY prog w).is (.inr x) (.str x t)=true:=al2 x t
end L2
namespace L2
open PySem PySem.Spec PyProof.Rows
inductive V where
 | non | bl (b:Bool) | int (i:Int) | str (x:Str) | byt (b:Array UInt8) | flt (b:UInt64) | ref (a:Addr) | ty (n:String)
 deriving DecidableEq
noncomputable def bO:V->Value->Prop
 | .non,u=>u=Value.none
 | .bl b,u=>u=Value.bool b
 | .int i,u=>∃ t,u=Value.int i t
 | .str x,u=>∃ t,u=Value.str x t
 | .byt b,u=>∃ t,u=Value.bytes b t
 | .flt b,u=>∃ t,u=Value.float b t
 | .ref a,u=>u=Value.ref a
 | .ty n,u=>u=Value.type n
noncomputable abbrev Vals:List V->List Value->Prop:=Paired bO
theorem Vals.length {xs:List V} {us:List Value} (r:Vals xs us):xs.length=us.length:=Paired.length r
theorem Vals.get:∀ {xs:List V} {us:List Value} {i:Nat} {x:V},Vals xs us->xs[i]?=some x->∃ u,us[i]?=some u/\bO x u
 | _,_,_,_,.nil,e=>by simp at e
 | _,_,0,_,.cons r _,e=>by simp at e;subst e;exact ⟨_,rfl,r⟩
 | _,_,i+1,x,.cons _ t,e=>by
  obtain ⟨u,h1,h2⟩:=Vals.get (i:=i) (x:=x) t (by simpa using e);exact ⟨u,by simpa using h1,h2⟩
theorem Vals.set {x:V} {u:Value} (r:bO x u):∀ {xs:List V} {us:List Value} (i:Nat),Vals xs us->Vals (xs.set i x) (us.set i u)
 | _,_,_,.nil=>.nil
 | _,_,0,.cons _ t=>.cons r t
 | _,_,i+1,.cons q t=>.cons q (Vals.set r i t)
theorem Vals.append {xs ys:List V} {us ws:List Value} (h:Vals xs us) (s:Vals ys ws):Vals (xs++ys) (us++ws):=by
 induction h with
 | nil=>exact s
 | cons r _ ih=>exact .cons r ih
theorem Vals.take:∀ {xs:List V} {us:List Value} (n:Nat),Vals xs us->Vals (xs.take n) (us.take n)
 | _,_,0,_=>.nil
 | _,_,_+1,.nil=>.nil
 | _,_,n+1,.cons r t=>.cons r (Vals.take n t)
theorem Vals.drop:∀ {xs:List V} {us:List Value} (n:Nat),Vals xs us->Vals (xs.drop n) (us.drop n)
 | _,_,0,r=>r
 | _,_,_+1,.nil=>.nil
 | _,_,n+1,.cons _ t=>Vals.drop n t
noncomputable def lA:Option V->Option Value->Prop
 | some v,some u=>bO v u
 | none,none=>True
 | _,_=>False
noncomputable def KV {κ:Type}:List (κ×V)->List (κ×Value)->Prop:=Paired fun(p:κ×V) (q:κ×Value)=>p.1=q.1/\bO p.2 q.2
noncomputable def kV:Key->V
 | .inl i=>.int i
 | .inr x=>.str x
 | .no=>.non
inductive HO where
 /-- a list -/
 | lst (xs:List V)
 /-- a tuple (never changes) -/
 | tup (xs:List V)
 /-- a dict whose keys are ints and texts;one whose keys are tuples of ints and texts (the empty one is both) -/
 | dK (kvs:List (Key×V)) | dT (kvs:List (List Key×V))
 /-- a set of ints: its members,its size -/
 | set (S:Int->Bool) (n:Nat)
 /-- an instance of the class at C,its dict at dx,its attributes -/
 | ins (C dx:Addr) (fs:List (Str×V))
 /-- the dict of the instance at x -/
 | own (x:Addr)
 /-- the dict of an exception -/
 | xd (fs:List (Str×V))
 /-- a bound method,f of x -/
 | met (f x:Addr)
 /-- a range object lo,lo+1,.. below hi -/
 | rng (lo hi:Int)
 /-- a thing that is known to the object (the script;a dict while a loop walks it): read,never written while it is so -/
 | frz (o:Obj) (u:HO)
 /-- a code object's table -/
 | tbl (ps:Array Value)
 /-- any other thing,by what is true of its one object (a def of one's own: SetO a S n:=HO.ext fun h=>..) -/
 | ext (φ:Heap->Prop)
noncomputable abbrev Hp:=Addr->Option HO
noncomputable def upd (H:Hp) (a:Addr) (o:HO):Hp:=fun b=>if b=a then some o else H b
theorem aA {H:Hp} {a:Addr} {o:HO}:upd H a o a=some o:=by unfold upd;rw [if_pos rfl]
theorem aI {H:Hp} {a b:Addr} {o:HO} (h:b≠a):upd H a o b=H b:=by unfold upd;rw [if_neg h]
theorem dP {H:Hp} {a b:Addr} {o u:HO} (h:H a=some o) (h':H b=some u) (d:o≠u):a≠b:=by
 intro e;subst e;rw [h] at h';exact d (Option.some.inj h')
theorem aL {H:Hp} {a b:Addr} {o:HO} (h:H a=some o) (h':H b=none):a≠b:=by
 intro e;subst e;rw [h] at h';cases h'
section
variable (P:Program) (w:World)
noncomputable def dM (H:Hp) (h:Heap) (a:Addr):HO->Prop
  | .lst xs=>xs.length<=sizeLine/\∃(its:List Value) (n:Nat),Vals xs its/\h.get? a=some {cls:=.type "list",data:=.seq its.toArray n}
  | .tup xs=>xs.length<=sizeLine/\∃ its:List Value,Vals xs its/\IsTup h a its.toArray
  | .dK kvs=>kvs.length<=sizeLine/\(a == sysModules)=false/\∃ vs,KV kvs vs/\h.DictOf (bY P w) a vs
  | .dT kvs=>kvs.length<=sizeLine/\(a == sysModules)=false/\∃ xs:List (List Key×Addr×Value),
      Paired (fun(p:List Key×V) (q:List Key×Addr×Value)=>p.1=q.1/\H q.2.1=some (.tup (p.1.map kV))/\bO p.2 q.2.2) kvs xs /\
      ∃ o es ep,h.get? a=some o/\o.ExactDict/\o.data=.dict es ep/\es.toList=xs.map (entryOfKey (tupleKind (bY P w)))/\(xs.map (·.1)).Nodup
  | .set S n=>h.SetOf (intKind P w) a S n
  | .ins C dx fs=>H dx=some (.own a)/\fs.length<=1000/\dx≠a/\h.get? a=some (PySem.W.instObj C dx) /\
      ∃ mA,h.Ns1 dx mA/\(∀ f,lA (fs.lookup f) (mA f))/\PySem.Within mA (fs.map (·.1))
  | .own _=>∃ o,h.get? a=some o
  | .xd fs=>∃ mA,h.Ns1 a mA/\∀ f,lA (fs.lookup f) (mA f)
  | .rng lo hi=>∃ t u v,h.get? a=some {cls:=.type "range",data:=.fields #[.int lo t,.int hi u,.int 1 v]}
  | .frz o u=>h.get? a=some o/\dM H h a u
  | .tbl ps=>h.get? a=some {cls:=.none,data:=.fields ps}
  | .met f x=>h.get? a=some (PySem.W.methodObj (.ref f) (.ref x))
  | .ext φ=>φ h/\(∃ o,h.get? a=some o)/\∀ h1 h2:Heap,φ h1->(∀ o,h1.get? a=some o->h2.get? a=some o)->φ h2
noncomputable def HOk (H:Hp) (h:Heap):Prop:=∀ a o,H a=some o->dM P w H h a o
end
section
variable {P:Program} {w:World} {H H':Hp} {h h':Heap} {a:Addr} {o:HO}
theorem dM.lt (x:dM P w H h a o):a < h.objs.size:=by
 cases o with
 | lst xs=>obtain ⟨_,_,_,_,e⟩:=x;exact Heap.lt_size e
 | tup xs=>obtain ⟨_,_,_,p⟩:=x;exact p.lt
 | dK kvs=>obtain ⟨_,_,_,_,o,_,_,e,_⟩:=x;exact Heap.lt_size e
 | dT kvs=>obtain ⟨_,_,_,_,o,_,_,e,_⟩:=x;exact Heap.lt_size e
 | set S n=>obtain ⟨o,_,_,_,e,_⟩:=x;exact Heap.lt_size e
 | ins C dx fs=>obtain ⟨_,_,_,e,_⟩:=x;exact Heap.lt_size e
 | own y=>obtain ⟨_,e⟩:=x;exact Heap.lt_size e
 | xd fs=>obtain ⟨_,⟨_,_,_,e,_⟩,_⟩:=x;exact Heap.lt_size e
 | rng lo hi=>obtain ⟨_,_,_,e⟩:=x;exact Heap.lt_size e
 | frz ob u=>obtain ⟨e,_⟩:=x;exact Heap.lt_size e
 | tbl ps=>exact Heap.lt_size (show h.get? a=some _ from x)
 | met f y=>exact Heap.lt_size (show h.get? a=some _ from x)
 | ext φ=>obtain ⟨_,⟨_,e⟩,_⟩:=x;exact Heap.lt_size e
theorem Paired.mapP {α β:Type} {F G:α->β->Prop}:∀ {l₁:List α} {l₂:List β},Paired F l₁ l₂->(∀ a b,F a b->G a b)->Paired G l₁ l₂
 | _,_,.nil,_=>.nil
 | _,_,.cons r t,f=>.cons (f _ _ r) (Paired.mapP t f)
theorem dM.stay (x:dM P w H h a o) (k:∀ b u,(b=a\/H b=some (.own a))->h.get? b=some u->h'.get? b=some u)
    (ho:∀ b,H b=some (.own a)->H' b=some (.own a)) (ht:∀ b xs,H b=some (.tup xs)->H' b=some (.tup xs)):dM P w H' h' a o:=by
  induction o with
  | lst xs=>obtain ⟨z,its,n,r,e⟩:=x;exact ⟨z,its,n,r,k _ _ (.inl rfl) e⟩
  | tup xs=>obtain ⟨z,its,r,ob,e,c⟩:=x;exact ⟨z,its,r,ob,k _ _ (.inl rfl) e,c⟩
  | dK kvs=>obtain ⟨z,y,vs,r,ob,es,ep,e,c⟩:=x;exact ⟨z,y,vs,r,ob,es,ep,k _ _ (.inl rfl) e,c⟩
  | dT kvs =>
    obtain ⟨z,y,xs,r,ob,es,ep,e,c⟩:=x;exact ⟨z,y,xs,Paired.mapP r fun p q z=>⟨z.1,ht _ _ z.2.1,z.2.2⟩,ob,es,ep,k _ _ (.inl rfl) e,c⟩
  | set S n=>obtain ⟨ob,es,ep,t,e,c⟩:=x;exact ⟨ob,es,ep,t,k _ _ (.inl rfl) e,c⟩
  | ins C dx fs =>
    obtain ⟨d,z,ne,e,mA,⟨od,es,ep,e2,c⟩,r⟩:=x;exact ⟨ho _ d,z,ne,k _ _ (.inl rfl) e,mA,⟨od,es,ep,k _ _ (.inr d) e2,c⟩,r⟩
  | own y=>obtain ⟨ob,e⟩:=x;exact ⟨ob,k _ _ (.inl rfl) e⟩
  | xd fs=>obtain ⟨mA,⟨od,es,ep,e,c⟩,r⟩:=x;exact ⟨mA,⟨od,es,ep,k _ _ (.inl rfl) e,c⟩,r⟩
  | rng lo hi=>obtain ⟨t,u,v,e⟩:=x;exact ⟨t,u,v,k _ _ (.inl rfl) e⟩
  | frz ob u ih=>obtain ⟨e,q⟩:=x;exact ⟨k _ _ (.inl rfl) e,ih q⟩
  | tbl ps =>
    have e:h.get? a=some {cls:=.none,data:=.fields ps}:=x;show h'.get? a=some {cls:=.none,data:=.fields ps};exact k a _ (.inl rfl) e
  | met f y =>
    have e:h.get? a=some (PySem.W.methodObj (.ref f) (.ref y)):=x;show h'.get? a=some (PySem.W.methodObj (.ref f) (.ref y));exact k a _ (.inl rfl) e
  | ext φ=>obtain ⟨p,⟨o,e⟩,st⟩:=x;exact ⟨st _ _ p fun o q=>k _ _ (.inl rfl) q,⟨o,k _ _ (.inl rfl) e⟩,st⟩
theorem HOk.lt (x:HOk P w H h) (e:H a=some o):a < h.objs.size:=(x a o e).lt
theorem HOk.fresh (x:HOk P w H h) (e:h.objs.size<=a):H a=none:=by
 cases q:H a with
 | none=>rfl
 | some u=>exact absurd (Nat.lt_of_lt_of_le (x.lt q) e) (Nat.lt_irrefl _)
theorem HOk.kept (x:HOk P w H h) (k:∀ b u,h.get? b=some u->h'.get? b=some u):HOk P w H h':=fun a o e =>
 (x a o e).stay (fun b u _ q=>k b u q) (fun _ q=>q) fun _ _ q=>q
theorem HOk.laid (x:HOk P w H h) (k:∀ b u,h.get? b=some u->h'.get? b=some u) (hp:h.objs.size<=a) (new:dM P w (upd H a o) h' a o):HOk P w (upd H a o) h':=fun b u e=>by
 have hn:=x.fresh hp;by_cases hb:b=a
 ·subst hb;rw [aA] at e;cases e;exact new
 ·rw [aI hb] at e;exact (x b u e).stay (fun c v _ q=>k c v q) (fun c q=>by rw [aI (aL q hn)];exact q) fun c xs q=>by rw [aI (aL q hn)];exact q
end
noncomputable def Rd (H:Hp) (a:Addr) (u:HO):Prop:=H a=some u\/∃ o,H a=some (.frz o u)
theorem Rd.ok {P:Program} {w:World} {H:Hp} {h:Heap} {a:Addr} {u:HO} (r:Rd H a u) (x:HOk P w H h):dM P w H h a u:=by
 rcases r with r | ⟨o,r⟩
 ·exact x a u r
 ·obtain ⟨_,q⟩:=x a _ r;exact q
noncomputable def Mut:Option HO->Prop
 | some (.lst _)=>True
 | some (.dK _)=>True
 | some (.dT _)=>True
 | some (.set _ _)=>True
 | some (.ins _ _ _)=>True
 | some (.ext _)=>True
 | _=>False
section
variable {P:Program} {w:World} {H:Hp} {h h':Heap} {x e:Addr} {o':HO}
theorem HOk.write (ok:HOk P w H h) (mu:Mut (H x)) (he:e=x\/H e=some (.own x)) (k:∀ b u,b≠e->h.get? b=some u->h'.get? b=some u) (heo:∃ u,h'.get? e=some u)
    (new:dM P w (upd H x o') h' x o'):HOk P w (upd H x o') h':=fun b u q=>by
  have nown:∀ c y,H c=some (.own y)->c≠x:=fun c y r z=>by subst z;rw [r] at mu;exact mu
  have ntup:∀ c xs,H c=some (.tup xs)->c≠x:=fun c xs r z=>by subst z;rw [r] at mu;exact mu
  by_cases hb:b=x
  · subst hb;rw [aA] at q;cases q;exact new
  · rw [aI hb] at q;by_cases hbe:b=e
    · have q':H b=some (.own x):=by
        rcases he with z | z
        · exact absurd (hbe.trans z) hb
        · rw [hbe];exact z
      rw [q] at q';cases q';obtain ⟨v,hv⟩:=heo;exact ⟨v,by rw [hbe];exact hv⟩
    · refine (ok b u q).stay (fun c v hc r=>k c v ?_ r) (fun c r=>by rw [aI (nown c b r)];exact r) fun c xs r=>by rw [aI (ntup c xs r)];exact r
      rcases hc with rfl | hc
      · exact hbe
      · rintro rfl;rcases he with z | z
        · exact nown c b hc z
        · rw [hc] at z;cases z;exact hb rfl
end
structure Un (fs ex:List Addr) (H H':Hp) (h h':Heap):Prop where
 keep:∀ b o,h.get? b=some o->H b=none->b∉fs->b∉ex->h'.get? b=some o
 slot:∀ b o,h.get? b=some o->H b=none->b∈fs->b∉ex->∃ sl,h'.get? b=some {o with slots:=sl}
 free:∀ b o,h.get? b=some o->H b=none->b∉ex->H' b=none
 there:∀ b o,h.get? b=some o->b∉ex->∃ o',h'.get? b=some o'
 tups:∀ b xs,H b=some (.tup xs)->H' b=some (.tup xs)
 frzs:∀ b o u,H b=some (.frz o u)->H' b=some (.frz o u)
 tbls:∀ b ps,H b=some (.tbl ps)->∃ more,H' b=some (.tbl (ps++more))
section
variable {fs fs' ex ex':List Addr} {H H1 H2:Hp} {h h1 h2 h':Heap} {a x e:Addr} {o:HO}
theorem Un.any (u:Un fs ex H H1 h h1) {b:Addr} {ob:Obj} (q:h.get? b=some ob) (n:H b=none) (hx:b∉ex):∃ sl,h1.get? b=some {ob with slots:=sl}:=by
 by_cases hb:b∈fs
 ·exact u.slot b ob q n hb hx
 ·exact ⟨ob.slots,u.keep b ob q n hb hx⟩
theorem Un.kept (k:∀ b u,h.get? b=some u->h'.get? b=some u):Un fs ex H H h h' :=
 ⟨fun b ob q _ _ _=>k b ob q,fun b ob q _ _ _=>⟨ob.slots,k b ob q⟩,fun _ _ _ n _=>n,fun b ob q _=>⟨ob,k b ob q⟩,fun _ _ q=>q,fun _ _ _ q=>q,fun _ ps q=>⟨#[],by rw [q];simp⟩⟩
theorem Un.refl:Un fs ex H H h h:=Un.kept fun _ _ q=>q
theorem Un.laid (k:∀ b u,h.get? b=some u->h'.get? b=some u) (hp:h.objs.size<=a) (hn:H a=none):Un fs ex H (upd H a o) h h' where
 keep:=fun b u q _ _ _=>k b u q
 slot:=fun b u q _ _ _=>⟨u.slots,k b u q⟩
 free:=fun b u q n _=>by rw [aI (Nat.ne_of_lt (Nat.lt_of_lt_of_le (Heap.lt_size q) hp))];exact n
 there:=fun b u q _=>⟨u,k b u q⟩
 tups:=fun b xs q=>by rw [aI (aL q hn)];exact q
 frzs:=fun b u xs q=>by rw [aI (aL q hn)];exact q
 tbls:=fun b ps q=>⟨#[],by rw [aI (aL q hn),q];simp⟩
theorem Un.write (mu:Mut (H x)) (he:e=x\/H e=some (.own x)) (k:∀ b u,b≠e->h.get? b=some u->h'.get? b=some u) (heo:∃ u,h'.get? e=some u):Un fs ex H (upd H x o) h h':=by
 have hx:∀ b,H b=none->b≠x:=fun b n z=>by subst z;rw [n] at mu;exact mu
 have hb:∀ b,H b=none->b≠e:=fun b n z=>by
  subst z;rcases he with r | r
  ·exact hx b n r
  ·rw [n] at r;cases r
 have hm:∀ b u,H b=some u->¬ Mut (some u)->b≠x:=fun b u q nm z=>by subst z;rw [q] at mu;exact nm mu
 refine ⟨fun b u q n _ _=>k b u (hb b n) q,fun b u q n _ _=>⟨u.slots,k b u (hb b n) q⟩,fun b u q n _=>by rw [aI (hx b n)];exact n,fun b u q _=>?_,
  fun b xs q=>by rw [aI (hm b _ q fun z=>z)];exact q,fun b u xs q=>by rw [aI (hm b _ q fun z=>z)];exact q,fun b ps q=>⟨#[],by rw [aI (hm b _ q fun z=>z),q];simp⟩⟩
 by_cases hbe:b=e
 ·subst hbe;exact heo
 ·exact ⟨u,k b u hbe q⟩
end
noncomputable def trk (h:Heap) (H:Hp):List Addr:=(List.range h.objs.size).filter fun a=>(H a).isSome
noncomputable def ad0 (h:Heap) (H:Hp):Heap:=PySem.W.hideAll h (trk h H)
theorem akT (h:Heap) (H:Hp):(ad0 h H).objs.size=h.objs.size:=PySem.W.hideAll_size _ _
theorem anX {h:Heap} {H:Hp} {b:Addr} {o:Obj} (e:h.get? b=some o) (n:H b=none):(ad0 h H).get? b=some o :=
 PySem.W.hideAll_get _ e fun hm=>by
  have q:(H b).isSome=true:=(List.mem_filter.mp hm).2;rw [n] at q;simp at q
theorem aq7 {h:Heap} {H:Hp} {b:Addr} {o:Obj} (e:(ad0 h H).get? b=some o):h.get? b=some o/\H b=none:=by
 have e':h.get? b=some o:=PySem.W.of_hideAll (trk h H) e;refine ⟨e',?_⟩;cases q:H b with
 | none=>rfl
 | some x =>
  have hm:b∈trk h H:=List.mem_filter.mpr ⟨List.mem_range.mpr (Heap.lt_size e'),by simp [q]⟩;have z:(ad0 h H).get? b=none:=PySem.W.hideAll_none (trk h H) hm;rw [z] at e;cases e
noncomputable def asG (g h:Heap) (L:Addr):List (Addr×Obj):=(List.range h.objs.size).filterMap fun a=>if a=L\/(g.get? a).isSome=true then none else (h.get? a).map fun o=>(a,o)
noncomputable def rest (g h:Heap) (L d:Addr):List (Addr×Obj):=(asG g h L).filter fun p=>decide (p.1≠d)
end L2
namespace L2
open PySem PySem.Spec PyProof.Rows
structure Mod (K:PySem.W.Frag) (mg:Str->Option Value) (base:Heap):Prop where
 kin:K.In base
 glob:base.Ns mainGlobals mg
 blt:∃ mb,base.Ns builtinsNs mb/\∀ x:Str,x≠"__name__"->mb x=bootBuiltins x
 nolimit:base.NoLimit
structure Cx where
 prog:Program
 w:World
 K:PySem.W.Frag
 mg:Str->Option Value
 base:Heap
 A:Around
 N:List Str
 s₀:Shared
 H₀:Hp
 env:Env
 outer:List Env
 stack:List Env
 ex:List Addr
 fn:Str->Bool
 calm:Bool
 pn:List (Addr×Obj)
 xe:Value->Shared->Prop
noncomputable def frs (l:List Env):List Addr:=l.filterMap (·.frame)
noncomputable abbrev Cx.fs (X:Cx):List Addr:=frs X.outer
noncomputable def Vis (sc:Scope) (x:Str):Prop:=sc.names.lookup x=some .local\/sc.names.lookup x=some .cell\/sc.names.lookup x=some .free
noncomputable def Loc (sc:Scope) (x:Str):Prop:=sc.names.lookup x=some .local\/sc.names.lookup x=some .cell
noncomputable def Look (env:Env) (h:Heap) (m:Str->Option Value) (x:Str) (u:Value):Prop :=
 (env.kindOf x=some .local/\m x=some u)\/((env.kindOf x=some .cell\/env.kindOf x=some .free)/\∃ c,env.cells.lookup x=some c/\h.IsCell c (some u))
structure Cx.Ok (X:Cx):Prop where
 mod:Mod X.K X.mg X.base
 kind:X.env.scope.kind=.function
 glob:X.env.globals=mainGlobals
 blt:X.env.builtins=builtinsNs
 above:X.s₀.heap.objs.size<=X.env.locals
 inj:∀ x y c,X.env.cells.lookup x=some c->X.env.cells.lookup y=some c->x=y
 has:∀ x,(X.env.kindOf x=some .cell\/X.env.kindOf x=some .free)->∃ c,X.env.cells.lookup x=some c
 cab:∀ x c,X.fn x=true->X.env.cells.lookup x=some c->X.s₀.heap.objs.size<=c
 hd:X.calm=true->X.A.handled=none
 frames:X.A.frames=some X.stack
 stk:X.stack=X.outer\/(X.stack=X.env::X.outer/\X.env.frame=some X.env.locals)
 exf:∀ b∈X.ex,b≠X.env.locals/\∀ x c,X.env.cells.lookup x=some c->c≠b
 bs:∀ b o,X.base.get? b=some o->X.s₀.heap.get? b=some o/\X.H₀ b=none
 bsz:X.base.objs.size<=X.s₀.heap.objs.size
 noex:∀ b o,X.base.get? b=some o->b∉X.ex
 exfs:∀ b∈X.ex,b∉X.fs
 funs:X.s₀.heap.FunFrames X.base X.outer
 frf:∀ b∈X.fs,X.H₀ b=none
structure Inv (X:Cx) (pins:List (Addr×Obj)) (σ:List (Option V)) (H:Hp) (s:Shared):Prop where
 ok:X.Ok
 os:s.os=X.s₀.os
 bare:AllBare s.gens
 base:Un X.fs X.ex X.H₀ H X.s₀.heap s.heap
 loc:∃ m,s.heap.Ns X.env.locals m/\∀(i:Nat) (x:Str) (v:V),X.N[i]?=some x->σ[i]?=some (some v)->Vis X.env.scope x->∃ u,bO v u/\Look X.env s.heap m x u
 cell:∀ x c,X.env.cells.lookup x=some c->∃ v,s.heap.IsCell c v
 free:H X.env.locals=none
 freeC:∀ x c,X.env.cells.lookup x=some c->H c=none
 pin:∀ p∈X.pn++pins,s.heap.get? p.1=some p.2/\H p.1=none/\p.1≠X.env.locals/\p.1∉X.fs/\∀ v,p.2.data≠.cell v
 hok:HOk X.prog X.w H s.heap
 len:σ.length=X.N.length
section
variable {X:Cx} {pins:List (Addr×Obj)} {σ:List (Option V)} {H H':Hp} {s:Shared} {h':Heap}
theorem Cx.Ok.nofr (ok:X.Ok) {b:Addr} {o:Obj} (e:X.base.get? b=some o):b∉X.fs:=fun hb=>by
 have:=(ok.funs.mem hb).1;rw [e] at this;cases this
theorem Inv.bs (I:Inv X pins σ H s):∀ b o,X.base.get? b=some o->s.heap.get? b=some o/\H b=none:=fun b o e =>
 ⟨I.base.keep b o (I.ok.bs b o e).1 (I.ok.bs b o e).2 (I.ok.nofr e) (I.ok.noex b o e),I.base.free b o (I.ok.bs b o e).1 (I.ok.bs b o e).2 (I.ok.noex b o e)⟩
theorem Inv.bk (I:Inv X pins σ H s):∀ b o,X.base.get? b=some o->s.heap.get? b=some o:=fun b o e=>(I.bs b o e).1
theorem Inv.mod (I:Inv X pins σ H s):Mod X.K X.mg X.base:=I.ok.mod
theorem Inv.kIn (I:Inv X pins σ H s):X.K.In s.heap:=I.ok.mod.kin.keeps I.bk
theorem Inv.fr (I:Inv X pins σ H s):∃ m,Fr X.base X.env.locals s.heap m :=
 let ⟨m,hn,_⟩:=I.loc
 ⟨m,hn,I.bk,Nat.le_trans I.ok.bsz I.ok.above⟩
theorem Inv.lt (I:Inv X pins σ H s):X.env.locals < s.heap.objs.size:=let ⟨_,hn,_⟩:=I.loc;hn.lt
theorem Inv.sz (I:Inv X pins σ H s):X.s₀.heap.objs.size<=s.heap.objs.size:=Nat.le_trans I.ok.above (Nat.le_of_lt I.lt)
theorem Inv.nofs (I:Inv X pins σ H s) {a:Addr} (h:s.heap.objs.size<=a):a∉X.fs:=fun hb=>by
 obtain ⟨_,o,ho,_⟩:=I.ok.funs.mem hb;exact absurd (Nat.lt_of_lt_of_le (Heap.lt_size ho) (Nat.le_trans I.sz h)) (Nat.lt_irrefl _)
theorem Inv.cne (I:Inv X pins σ H s):∀ x c,X.env.cells.lookup x=some c->c≠X.env.locals:=fun x c e z=>by
 obtain ⟨v,o,ho,hd⟩:=I.cell x c e;obtain ⟨m,⟨o',es,ep,ho',hd',_⟩,_⟩:=I.loc;rw [z,ho'] at ho;cases ho;rw [hd'] at hd;cases hd
theorem Inv.funs (I:Inv X pins σ H s):s.heap.FunFrames X.base X.outer:=by
 have all:∀(l:List Env),(∀ b∈frs l,b∈X.fs)->X.s₀.heap.FunFrames X.base l->s.heap.FunFrames X.base l:=by
  intro l
  induction l with
  | nil=>intro _ _;trivial
  | cons env r ih =>
   intro hs hl;obtain ⟨hk,⟨L,o,hf,hn,ho,hd⟩,hr⟩:=hl;have hL:L∈X.fs:=hs L (by unfold frs;rw [List.filterMap_cons,hf];exact List.mem_cons_self);obtain ⟨sl,e⟩:=I.base.slot L o ho (I.ok.frf L hL) hL fun z=>I.ok.exfs L z hL;exact ⟨hk,⟨L,_,hf,hn,e,hd⟩,ih (fun b hb=>hs b (by unfold frs;rw [List.filterMap_cons,hf];exact List.mem_cons_of_mem _ hb)) hr⟩
 exact all X.outer (fun _ hb=>hb) I.ok.funs
theorem Inv.stack (I:Inv X pins σ H s):s.heap.FunFrames X.base X.stack:=by
 rcases I.ok.stk with e | ⟨e,hf⟩
 ·rw [e];exact I.funs
 ·rw [e];obtain ⟨m,hn,_⟩:=I.loc;refine .cons (by rw [I.ok.kind];decide) hf hn ?_ I.funs;exact Heap.get?_none_of_le (Nat.le_trans I.ok.bsz I.ok.above)
theorem Inv.stkSub (I:Inv X pins σ H s):∀ b∈frs X.stack,b∈X.env.locals::X.fs:=fun b hb=>by
 rcases I.ok.stk with e | ⟨e,hf⟩
 ·rw [e] at hb;exact List.mem_cons_of_mem _ hb
 ·rw [e] at hb;unfold frs at hb;rw [List.filterMap_cons,hf] at hb;exact hb
theorem Inv.stkFree (I:Inv X pins σ H s):∀ b∈frs X.stack,H b=none:=fun b hb=>by
 rcases List.mem_cons.mp (I.stkSub b hb) with e | hb
 ·rw [e];exact I.free
 ·obtain ⟨_,o,ho,_⟩:=I.ok.funs.mem hb;exact I.base.free b o ho (I.ok.frf b hb) fun z=>I.ok.exfs b z hb
theorem Inv.step {g':Array GenState} {t':Nat} {d':Drawn} {ch:List Addr} (I:Inv X pins σ H s)
    (hch:∀ b∈ch,(b∈X.ex\/X.s₀.heap.objs.size<=b)/\b≠X.env.locals/\(∀ x c,X.env.cells.lookup x=some c->c≠b)/\∀ p∈X.pn++pins,p.1≠b)
    (keep:∀ b o,b≠X.env.locals->b∉X.fs->b∉ch->s.heap.get? b=some o->H b=none->h'.get? b=some o)
    (slot:∀ b o,b≠X.env.locals->b∈X.fs->b∉ch->s.heap.get? b=some o->H b=none->∃ sl,h'.get? b=some {o with slots:=sl}) (free:∀ b o,b∉ch->s.heap.get? b=some o->H b=none->H' b=none)
    (there:∀ b o,b∉ch->s.heap.get? b=some o->∃ o',h'.get? b=some o')
    (tups:∀ b xs,H b=some (.tup xs)->H' b=some (.tup xs)) (frzs:∀ b o u,H b=some (.frz o u)->H' b=some (.frz o u)) (tbls:∀ b ps,H b=some (.tbl ps)->∃ more,H' b=some (.tbl (ps++more)))
    (ns:∀ m,s.heap.Ns X.env.locals m->h'.Ns X.env.locals m) (hok:HOk X.prog X.w H' h') (hg:AllBare g') :
    Inv X pins σ H' {s with heap:=h',gens:=g',drawn:=d',toks:=t'}:=by
  have neL:∀ b o,X.s₀.heap.get? b=some o->b≠X.env.locals:=fun b o e=>Nat.ne_of_lt (Nat.lt_of_lt_of_le (Heap.lt_size e) I.ok.above);have neC:∀ b o,X.s₀.heap.get? b=some o->b∉X.ex->b∉ch:=fun b o e hx hb=>by
    rcases (hch b hb).1 with z | z
    · exact hx z
    · exact absurd (Nat.lt_of_lt_of_le (Heap.lt_size e) z) (Nat.lt_irrefl _)
  have cellK:∀ x c,X.env.cells.lookup x=some c->∀ v,s.heap.IsCell c v->h'.IsCell c v:=fun x c e v ⟨o,ho,hd⟩=>by
    have nch:c∉ch:=fun z=>(hch c z).2.2.1 x c e rfl;by_cases hc:c∈X.fs
    · obtain ⟨sl,q⟩:=slot c o (I.cne x c e) hc nch ho (I.freeC x c e);exact ⟨_,q,hd⟩
    · exact ⟨o,keep c o (I.cne x c e) hc nch ho (I.freeC x c e),hd⟩
  refine ⟨I.ok,I.os,hg,⟨fun b o e n hb hx=>?_,fun b o e n hb hx=>?_,fun b o e n hx=>?_,fun b o e hx=>?_,fun b xs e=>tups b xs (I.base.tups b xs e),fun b o xs e=>frzs b o xs (I.base.frzs b o xs e),fun b ps e=>?_⟩,?_,fun x c e=>?_,?_,fun x c e=>?_,fun p hp=>?_,hok,I.len⟩
  · exact keep b o (neL b o e) hb (neC b o e hx) (I.base.keep b o e n hb hx) (I.base.free b o e n hx)
  · obtain ⟨sl,e1⟩:=I.base.slot b o e n hb hx;obtain ⟨sl',e2⟩:=slot b _ (neL b o e) hb (neC b o e hx) e1 (I.base.free b o e n hx);exact ⟨sl',e2⟩
  · obtain ⟨o',e1⟩:=I.base.there b o e hx;exact free b o' (neC b o e hx) e1 (I.base.free b o e n hx)
  · obtain ⟨o',e1⟩:=I.base.there b o e hx;exact there b o' (neC b o e hx) e1
  · obtain ⟨m1,e1⟩:=I.base.tbls b ps e;obtain ⟨m2,e2⟩:=tbls b _ e1;exact ⟨m1++m2,by rw [e2,Array.append_assoc]⟩
  · obtain ⟨m,hn,hl⟩:=I.loc;refine ⟨m,ns m hn,fun i x v e1 e2 e3=>?_⟩;obtain ⟨u,r,l⟩:=hl i x v e1 e2 e3;refine ⟨u,r,?_⟩;rcases l with l | ⟨k,c,e,z⟩
    · exact .inl l
    · exact .inr ⟨k,c,e,cellK x c e _ z⟩
  · obtain ⟨v,z⟩:=I.cell x c e;exact ⟨v,cellK x c e v z⟩
  · obtain ⟨m,⟨o,_,_,ho,_⟩,_⟩:=I.loc;exact free _ o (fun z=>(hch _ z).2.1 rfl) ho I.free
  · obtain ⟨v,o,ho,hd⟩:=I.cell x c e;exact free c o (fun z=>(hch c z).2.2.1 x c e rfl) ho (I.freeC x c e)
  · obtain ⟨e,n,ne,nf,d⟩:=I.pin p hp;have nch:p.1∉ch:=fun z=>(hch p.1 z).2.2.2 p hp rfl;exact ⟨keep p.1 p.2 ne nf nch e n,free p.1 p.2 nch e n,ne,nf,d⟩
theorem Inv.un {t':Nat} (I:Inv X pins σ H s) (u:Un X.fs [] H H' s.heap h') (hok:HOk X.prog X.w H' h'):Inv X pins σ H' {s with heap:=h',toks:=t'}:=by
 obtain ⟨m,⟨o,es,ep,ho,r⟩,_⟩:=id I.loc;obtain ⟨sl,hL⟩:=u.any ho I.free (by simp);exact I.step (g':=s.gens) (d':=s.drawn) (ch:=[]) (fun _ z=>nomatch z) (fun b o _ hb _ e n=>u.keep b o e n hb (by simp)) (fun b o _ hb _ e n=>u.slot b o e n hb (by simp)) (fun b o _ e n=>u.free b o e n (by simp)) (fun b o _ e=>u.there b o e (by simp)) u.tups u.frzs u.tbls (fun m' hm=>by
  obtain ⟨o',es',ep',ho',r'⟩:=hm;rw [ho] at ho';cases ho';exact ⟨_,es',ep',hL,r'⟩) hok I.bare
theorem Inv.call {g':Array GenState} {t':Nat} {d':Drawn} {ch:List Addr} (I:Inv X pins σ H s) (u:Un (frs X.stack) ch H H' s.heap h') (hok:HOk X.prog X.w H' h') (hg:AllBare g')
    (hch:∀ b∈ch,(b∈X.ex\/X.s₀.heap.objs.size<=b)/\b≠X.env.locals/\(∀ x c,X.env.cells.lookup x=some c->c≠b)/\∀ p∈X.pn++pins,p.1≠b) :
    Inv X pins σ H' {s with heap:=h',gens:=g',drawn:=d',toks:=t'}:=by
  obtain ⟨m,⟨o,es,ep,ho,r⟩,_⟩:=id I.loc;obtain ⟨sl,hL⟩:=u.any ho I.free fun z=>(hch _ z).2.1 rfl;exact I.step (ch:=ch) hch (fun b o hL hb hc e n=>u.keep b o e n (fun z=>(List.mem_cons.mp (I.stkSub b z)).elim hL hb) hc) (fun b o _ _ hc e n=>u.any e n hc) (fun b o hc e n=>u.free b o e n hc) (fun b o hc e=>u.there b o e hc) u.tups u.frzs u.tbls (fun m' hm=>by
    obtain ⟨o',es',ep',ho',r'⟩:=hm;rw [ho] at ho';cases ho';exact ⟨_,es',ep',hL,r'⟩) hok hg
theorem Inv.turned {t':Nat} {it:Addr} (I:Inv X pins σ H s) (k:∀ b o,b≠it->s.heap.get? b=some o->h'.get? b=some o) (hn:H it=none) (hL:it≠X.env.locals)
    (h1:it∈X.ex\/X.s₀.heap.objs.size<=it) (h2:∀ x c,X.env.cells.lookup x=some c->c≠it) (h3:∀ p∈X.pn++pins,p.1≠it):Inv X pins σ H {s with heap:=h',toks:=t'}:=by
  have nit:∀ b u,H b=some u->b≠it:=fun b u e z=>by rw [z,hn] at e;cases e
  refine I.step (g':=s.gens) (d':=s.drawn) (ch:=[it]) (fun b hb=>?_) (fun b o _ _ hc e _=>k b o (fun z=>hc (by simp [z])) e) (fun b o _ _ hc e _=>⟨o.slots,k b o (fun z=>hc (by simp [z])) e⟩) (fun _ _ _ _ n=>n)
    (fun b o hc e=>⟨o,k b o (fun z=>hc (by simp [z])) e⟩) (fun _ _ e=>e) (fun _ _ _ e=>e) (fun b ps e=>⟨#[],by rw [e];simp⟩) (fun m hm=>?_) (fun b u e=>?_) I.bare
  · have e:b=it:=by simpa using hb
    subst e;exact ⟨h1,hL,h2,h3⟩
  · obtain ⟨o,es,ep,ho,r⟩:=hm;exact ⟨o,es,ep,k _ o (Ne.symm hL) ho,r⟩
  · refine (I.hok b u e).stay (fun c v hc q=>k c v ?_ q) (fun _ q=>q) fun _ _ q=>q;rcases hc with z | z
    · rw [z];exact nit b u e
    · exact nit c _ z
theorem Inv.tok (I:Inv X pins σ H s) (t:Nat):Inv X pins σ H {s with toks:=t}:=I.un (h':=s.heap) (t':=t) Un.refl I.hok
theorem Inv.kept {t':Nat} (I:Inv X pins σ H s) (k:∀ b u,s.heap.get? b=some u->h'.get? b=some u):Inv X pins σ H {s with heap:=h',toks:=t'}:=I.un (Un.kept k) (I.hok.kept k)
theorem Inv.laid {a:Addr} {o:HO} {t':Nat} (I:Inv X pins σ H s) (k:∀ b u,s.heap.get? b=some u->h'.get? b=some u) (hp:s.heap.objs.size<=a) (new:dM X.prog X.w (upd H a o) h' a o) :
    Inv X pins σ (upd H a o) {s with heap:=h',toks:=t'}:=I.un (Un.laid k hp (I.hok.fresh hp)) (I.hok.laid k hp new)
theorem Inv.write {x e:Addr} {o:HO} {t':Nat} (I:Inv X pins σ H s) (mu:Mut (H x)) (he:e=x\/H e=some (.own x)) (k:∀ b u,b≠e->s.heap.get? b=some u->h'.get? b=some u) (heo:∃ u,h'.get? e=some u)
    (new:dM X.prog X.w (upd H x o) h' x o):Inv X pins σ (upd H x o) {s with heap:=h',toks:=t'}:=I.un (Un.write mu he k heo) (I.hok.write mu he k heo new)
theorem Inv.pins_of {pins':List (Addr×Obj)} (I:Inv X pins σ H s) (h:∀ p∈pins',s.heap.get? p.1=some p.2/\H p.1=none/\p.1≠X.env.locals/\p.1∉X.fs/\∀ v,p.2.data≠.cell v):Inv X pins' σ H s :=
 ⟨I.ok,I.os,I.bare,I.base,I.loc,I.cell,I.free,I.freeC,fun p hp=>(List.mem_append.mp hp).elim (fun z=>I.pin p (List.mem_append_left _ z)) (h p),I.hok,I.len⟩
theorem aeI {N:List Str} (hN:N.Nodup) {i j:Nat} {x:Str} (a:N[i]?=some x) (b:N[j]?=some x):i=j:=by
 obtain ⟨h1,e1⟩:=List.getElem?_eq_some_iff.mp a;obtain ⟨h2,e2⟩:=List.getElem?_eq_some_iff.mp b;exact (List.getElem_inj hN).mp (e1.trans e2.symm)
theorem acF {M:Model} {A:Around} {E:Value->Shared->Prop} {i:Nat} {x:Str} {v:V} {u:Value} {Q:Unit->Shared->Prop} (I:Inv X pins σ H s) (hN:X.N.Nodup) (hi:X.N[i]?=some x) (hx:Loc X.env.scope x) (r:bO v u)
    (h:∀ s',Inv X pins (σ.set i (some v)) H s'->(∃ a,Heap.SameBut a s.heap s'.heap/\(a=X.env.locals\/X.env.cells.lookup x=some a))->Q () s') (hf:X.fn x=true\/X.env.scope.names.lookup x=some .local:=by first | exact .inl rfl | exact .inr rfl | assumption):wpAny M A (storeName X.env x u) Q E s:=by
  obtain ⟨m,hn,hl⟩:=id I.loc;have hcls:(X.env.scope.kind == .class || (X.env.scope.kind == .module && X.env.locals != X.env.globals))=false:=by rw [I.ok.kind];rfl
  have hiσ:i < σ.length:=by rw [I.len];exact (List.getElem?_eq_some_iff.mp hi).1
  have cne:=I.cne;have tracked:∀ {a:Addr} {h':Heap},(∃ o,s.heap.get? a=some o/\H a=none)->Heap.SameBut a s.heap h'->HOk X.prog X.w H h':=fun {a h'} ha hs b ob e=>by
    obtain ⟨_,_,hfree⟩:=ha;refine (I.hok b ob e).stay (fun c w' hc q=>(hs.2 c ?_).trans q) (fun _ q=>q) fun _ _ q=>q;rintro rfl;rcases hc with rfl | hc
    · rw [hfree] at e;cases e
    · rw [hfree] at hc;cases hc
  rcases hx with hk | hk
  · refine wpAny_storeName_local hk hn (fun h' hn' hs=>?_) hcls;obtain ⟨oL,_,_,hoL,_⟩:=id hn;refine h _ ⟨I.ok,I.os,I.bare,⟨fun b o e n hb hx=>?_,fun b o e n hb hx=>?_,I.base.free,fun b o e hx=>?_,I.base.tups,I.base.frzs,I.base.tbls⟩,⟨_,hn',fun j y v' e1 e2 e3=>?_⟩,fun y c e=>?_,I.free,I.freeC,fun p hp=>?_,tracked ⟨oL,hoL,I.free⟩ hs,by simpa using I.len⟩ ⟨_,hs,.inl rfl⟩
    · exact (hs.2 b (Nat.ne_of_lt (Nat.lt_of_lt_of_le (Heap.lt_size e) I.ok.above))).trans (I.base.keep b o e n hb hx)
    · obtain ⟨sl,e1⟩:=I.base.slot b o e n hb hx;exact ⟨sl,(hs.2 b (Nat.ne_of_lt (Nat.lt_of_lt_of_le (Heap.lt_size e) I.ok.above))).trans e1⟩
    · obtain ⟨o',e1⟩:=I.base.there b o e hx;exact ⟨o',(hs.2 b (Nat.ne_of_lt (Nat.lt_of_lt_of_le (Heap.lt_size e) I.ok.above))).trans e1⟩
    · by_cases hj:j=i
      · subst hj;rw [hi] at e1;cases e1;rw [List.getElem?_set_self hiσ] at e2;cases e2;exact ⟨u,r,.inl ⟨hk,by simp⟩⟩
      · rw [List.getElem?_set_ne (Ne.symm hj)] at e2;obtain ⟨u',r',q⟩:=hl j y v' e1 e2 e3;refine ⟨u',r',?_⟩;rcases q with ⟨k,e⟩ | ⟨k,c,e,z⟩
        · refine .inl ⟨k,?_⟩;have:y≠x:=fun e=>hj (aeI hN e1 (e ▸ hi));simp [this,e]
        · exact .inr ⟨k,c,e,z.sameBut hs (cne y c e)⟩
    · obtain ⟨w',z⟩:=I.cell y c e;exact ⟨w',z.sameBut hs (cne y c e)⟩
    · obtain ⟨e,n,ne,nf,d⟩:=I.pin p hp;exact ⟨(hs.2 p.1 ne).trans e,n,ne,nf,d⟩
  · have hfn:X.fn x=true:=by
      rcases hf with z | z
      · exact z
      · rw [z] at hk;cases hk
    obtain ⟨c,hc⟩:=I.ok.has x (.inl hk);obtain ⟨w',z⟩:=I.cell x c hc;refine wpAny_storeName_cell I.ok.kind hk hc z (fun h' hc' hs=>?_);obtain ⟨oc,hoc,hocd⟩:=id z;refine h {s with heap:=h'} ⟨I.ok,I.os,I.bare,⟨fun b o e n hb hx=>?_,fun b o e n hb hx=>?_,I.base.free,fun b o e hx=>?_,I.base.tups,I.base.frzs,I.base.tbls⟩,⟨m,hn.sameBut hs (Ne.symm (cne x c hc)),fun j y v' e1 e2 e3=>?_⟩,fun y c' e=>?_,I.free,I.freeC,fun p hp=>?_,tracked ⟨oc,hoc,I.freeC x c hc⟩ hs,by simpa using I.len⟩ ⟨c,hs,.inr hc⟩
    · exact (hs.2 b (Nat.ne_of_lt (Nat.lt_of_lt_of_le (Heap.lt_size e) (I.ok.cab x c hfn hc)))).trans (I.base.keep b o e n hb hx)
    · obtain ⟨sl,e1⟩:=I.base.slot b o e n hb hx;exact ⟨sl,(hs.2 b (Nat.ne_of_lt (Nat.lt_of_lt_of_le (Heap.lt_size e) (I.ok.cab x c hfn hc)))).trans e1⟩
    · obtain ⟨o',e1⟩:=I.base.there b o e hx;exact ⟨o',(hs.2 b (Nat.ne_of_lt (Nat.lt_of_lt_of_le (Heap.lt_size e) (I.ok.cab x c hfn hc)))).trans e1⟩
    · by_cases hj:j=i
      · subst hj;rw [hi] at e1;cases e1;rw [List.getElem?_set_self hiσ] at e2;cases e2;exact ⟨u,r,.inr ⟨.inl hk,c,hc,hc'⟩⟩
      · rw [List.getElem?_set_ne (Ne.symm hj)] at e2;obtain ⟨u',r',q⟩:=hl j y v' e1 e2 e3;refine ⟨u',r',?_⟩;rcases q with q | ⟨k,c',e,z'⟩
        · exact .inl q
        · refine .inr ⟨k,c',e,z'.sameBut hs ?_⟩;rintro rfl;exact hj (aeI hN e1 (I.ok.inj _ _ _ e hc ▸ hi))
    · by_cases hcc:c'=c
      · subst hcc;exact ⟨_,hc'⟩
      · obtain ⟨w2,z2⟩:=I.cell y c' e;exact ⟨w2,z2.sameBut hs hcc⟩
    · obtain ⟨e,n,ne,nf,d⟩:=I.pin p hp;refine ⟨(hs.2 p.1 ?_).trans e,n,ne,nf,d⟩;intro q;rw [q,hoc] at e;have q':oc=p.2:=Option.some.inj e;exact d w' (by rw [<- q'];exact hocd)
theorem aaA {M:Model} {A:Around} {E:Value->Shared->Prop} {i:Nat} {x:Str} {v:V} {u:Value} {Q:Unit->Shared->Prop} (I:Inv X pins σ H s) (hN:X.N.Nodup) (hi:X.N[i]?=some x) (hx:Loc X.env.scope x) (r:bO v u)
    (h:∀ s',Inv X pins (σ.set i (some v)) H s'->Q () s') (hf:X.fn x=true\/X.env.scope.names.lookup x=some .local:=by first | exact .inl rfl | exact .inr rfl | assumption):wpAny M A (storeName X.env x u) Q E s :=
  acF I hN hi hx r (fun s' I' _=>h s' I') hf
theorem Inv.call' {s':Shared} {ch:List Addr} (I:Inv X pins σ H s) (ho:s'.os=s.os) (u:Un (frs X.stack) ch H H' s.heap s'.heap) (hok:HOk X.prog X.w H' s'.heap) (hg:AllBare s'.gens)
    (hch:∀ b∈ch,(b∈X.ex\/X.s₀.heap.objs.size<=b)/\b≠X.env.locals/\(∀ x c,X.env.cells.lookup x=some c->c≠b)/\∀ p∈X.pn++pins,p.1≠b):Inv X pins σ H' s':=by
  obtain ⟨h',g',d',t',o'⟩:=s';have e:o'=s.os:=ho;subst e;exact I.call (g':=g') (t':=t') (d':=d') u hok hg hch
end
noncomputable abbrev XK:=Value->Option Addr->Hp->Prop
noncomputable abbrev St:=List (Option V)
noncomputable abbrev VK:=V->Hp->Prop
noncomputable abbrev TE:=St->Hp->VK->Prop
noncomputable abbrev TT:=St->Hp->(Bool->Hp->Prop)->Prop
noncomputable abbrev TA:=St->Hp->(List V->Hp->Prop)->Prop
structure Ends where
 nx:St->Hp->Prop
 rt:VK
 bk:St->Hp->Prop:=fun _ _=>False
 ct:St->Hp->Prop:=fun _ _=>False
noncomputable abbrev TS:=Ends->St->Hp->Prop
noncomputable def EP (X:Cx) (pins:List (Addr×Obj)) (σ:St) (Q:VK) (u:Value) (s':Shared):Prop:=∃ v H',Inv X pins σ H' s'/\bO v u/\Q v H'
noncomputable def TP (X:Cx) (pins:List (Addr×Obj)) (σ:St) (Q:Bool->Hp->Prop) (b:Bool) (s':Shared):Prop:=∃ H',Inv X pins σ H' s'/\Q b H'
noncomputable def AP (X:Cx) (pins:List (Addr×Obj)) (σ:St) (Q:List V->Hp->Prop) (us:List Value) (s':Shared):Prop:=∃ vs H',Inv X pins σ H' s'/\Vals vs us/\Q vs H'
noncomputable def SP (X:Cx) (pins:List (Addr×Obj)) (D:Ends) (f:Flow) (s':Shared):Prop :=
 match f with
 | .next=>∃ σ' H',Inv X pins σ' H' s'/\D.nx σ' H'
 | .brk=>∃ σ' H',Inv X pins σ' H' s'/\D.bk σ' H'
 | .cont=>∃ σ' H',Inv X pins σ' H' s'/\D.ct σ' H'
 | .ret u=>∃ v σ' H',Inv X pins σ' H' s'/\bO v u/\D.rt v H'
noncomputable def PE (X:Cx) (e:Expr) (t:TE):Prop :=
 ∀(pins:List (Addr×Obj)) (s:Shared) (σ:St) (H:Hp) (Q:VK),Inv X pins σ H s->t σ H Q->wpAny (model X.prog X.w) X.A (eval e X.env) (EP X pins σ Q) X.xe s
noncomputable def PT (X:Cx) (e:Expr) (t:TT):Prop :=
 ∀(pins:List (Addr×Obj)) (s:Shared) (σ:St) (H:Hp) (Q:Bool->Hp->Prop),Inv X pins σ H s->t σ H Q->wpAny (model X.prog X.w) X.A (isTrue e X.env (eval e X.env)) (TP X pins σ Q) X.xe s
noncomputable def PW (X:Cx) (e:Expr) (t:TT):Prop :=
 ∀(whole:Sem Value) (pins:List (Addr×Obj)) (s:Shared) (σ:St) (H:Hp) (Q:Bool->Hp->Prop),Inv X pins σ H s->t σ H Q->wpAny (model X.prog X.w) X.A (isTrue e X.env whole) (TP X pins σ Q) X.xe s
theorem PW.pt {X:Cx} {e:Expr} {t:TT} (h:PW X e t):PT X e t:=h _
noncomputable def PA (X:Cx) (es:List Expr) (t:TA):Prop :=
 ∀(pos:Pos) (pins:List (Addr×Obj)) (s:Shared) (σ:St) (H:Hp) (Q:List V->Hp->Prop),Inv X pins σ H s->t σ H Q->wpAny (model X.prog X.w) X.A (spliced (backTo pos (starEach es X.env))) (AP X pins σ Q) X.xe s
noncomputable def PS (X:Cx) (st:Stmt) (t:TS):Prop :=
 ∀(pins:List (Addr×Obj)) (s:Shared) (σ:St) (H:Hp) (D:Ends),Inv X pins σ H s->t D σ H->wpAny (model X.prog X.w) X.A (exec st X.env) (SP X pins D) X.xe s
noncomputable def PSs (X:Cx) (st:List Stmt) (t:TS):Prop :=
 ∀(pins:List (Addr×Obj)) (s:Shared) (σ:St) (H:Hp) (D:Ends),Inv X pins σ H s->t D σ H->wpAny (model X.prog X.w) X.A (execs st X.env) (SP X pins D) X.xe s
theorem thn {α:Type} {t:Sem α} {Q Q':α->Shared->Prop} {M:Model} {A:Around} {E:Value->Shared->Prop} {s:Shared} (h:wpAny M A t Q E s) (hQ:∀ a s,Q a s->Q' a s):wpAny M A t Q' E s:=wpAny_mono h hQ fun _ _ x=>x
end L2
namespace L2
open PySem PySem.Spec PyProof.Rows
section
variable {X:Cx}
noncomputable def jW (i:Nat):TE:=fun σ H Q=>∃ v,σ[i]?=some (some v)/\Q v H
noncomputable def tC (v:V):TE:=fun _ H Q=>Q v H
theorem avT {i:Nat} {x:Str} {pos:Pos} (hN:X.N[i]?=some x) (hv:Vis X.env.scope x) (hd:(x == ("__debug__":Str))=false:=by decide) (hcd:(x == ("__classdict__":Str))=false:=by decide):PE X (.Name x pos) (jW i):=by
 intro pins s σ H Q I h;obtain ⟨v,e,h⟩:=h;obtain ⟨m,hn,hl⟩:=I.loc;obtain ⟨u,r,l⟩:=hl i x v hN e hv;have fin:EP X pins σ Q u s:=⟨v,H,I,r,h⟩;rcases l with ⟨hk,hm⟩ | ⟨hk,c,hc,hcell⟩
 ·exact wpAny_Name (wpAny_loadName_local I.ok.kind hk hn hm fin) hd
 ·rcases hk with hk | hk
  ·exact wpAny_Name (wpAny_loadName_cell I.ok.kind hk hc hcell fin) hd
  ·exact wpAny_Name (wpAny_loadName_free I.ok.kind hk hc hcell fin hcd) hd
theorem aE {i j pos}:PE X (.Constant (.int i) j pos) (tC (.int i)):=fun _ _ _ H _ I h=>wpAny_Constant_int ⟨.int i,H,I.tok _,⟨_,rfl⟩,h⟩
theorem ajA {b j pos}:PE X (.Constant (.bool b) j pos) (tC (.bl b)):=fun _ _ _ H _ I h=>Constant_bool ⟨.bl b,H,I,rfl,h⟩
theorem eJ {j pos}:PE X (.Constant .none j pos) (tC .non):=fun _ _ _ H _ I h=>Constant_none ⟨.non,H,I,rfl,h⟩
theorem aK {x j pos}:PE X (.Constant (.str x) j pos) (tC (.str x)):=fun _ _ _ H _ I h=>Calls.Constant_str ⟨.str x,H,I.tok _,⟨_,rfl⟩,h⟩
noncomputable def Gl (X:Cx) (x:Str):Prop:=X.env.kindOf x=some .globalImplicit
theorem wD {E:Value->Shared->Prop} {pins:List (Addr×Obj)} {s:Shared} {σ:St} {H:Hp} {x:Str} {u:Value} {pos:Pos} {Q:Value->Shared->Prop} (I:Inv X pins σ H s) (hg:Gl X x) (hm:X.mg x=some u) (h:Q u s)
    (hd:(x == ("__debug__":Str))=false:=by decide):wpAny (model X.prog X.w) X.A (eval (.Name x pos) X.env) Q E s :=
  Calls.Name_function_global I.ok.kind hg (Calls.loadGlobal_global (by rw [I.ok.glob];exact I.mod.glob.keeps I.bk) hm h) hd
theorem adO {E:Value->Shared->Prop} {pins:List (Addr×Obj)} {s:Shared} {σ:St} {H:Hp} {x:Str} {u:Value} {pos:Pos} {Q:Value->Shared->Prop} (I:Inv X pins σ H s) (hg:Gl X x) (hm:X.mg x=none) (hv:bootBuiltins x=some u) (h:Q u s)
    (hn:x≠"__name__":=by decide) (hd:(x == ("__debug__":Str))=false:=by decide):wpAny (model X.prog X.w) X.A (eval (.Name x pos) X.env) Q E s:=by
  obtain ⟨mb,h1,h2⟩:=I.mod.blt;exact Calls.Name_function_global I.ok.kind hg (Calls.loadGlobal_builtin (by rw [I.ok.glob];exact I.mod.glob.keeps I.bk) hm (by rw [I.ok.blt];exact h1.keeps I.bk) ((h2 x hn).trans hv) h) hd
theorem oG {x:Str} {v:V} {u:Value} {pos:Pos} (hg:Gl X x) (hm:X.mg x=some u) (r:bO v u) (hd:(x == ("__debug__":Str))=false:=by decide):PE X (.Name x pos) (tC v) :=
 fun _ _ _ H _ I h=>wD I hg hm ⟨v,H,I,r,h⟩ hd
theorem aqY {x:Str} {v:V} {u:Value} {pos:Pos} (hg:Gl X x) (hm:X.mg x=none) (hv:bootBuiltins x=some u) (r:bO v u) (hn:x≠"__name__":=by decide) (hd:(x == ("__debug__":Str))=false:=by decide):PE X (.Name x pos) (tC v) :=
 fun _ _ _ H _ I h=>adO I hg hm hv ⟨v,H,I,r,h⟩ hn hd
variable {a b:Expr} {ta tb:TE} {pos:Pos}
noncomputable def PC (X:Cx) (op:CmpOp) (a b:Expr) (t:TE):Prop :=
 ∀(pins:List (Addr×Obj)) (s:Shared) (σ:St) (H:Hp) (Q:VK),Inv X pins σ H s->t σ H Q ->
  wpAny (model X.prog X.w) X.A (eval a X.env) (fun v s₁=>wpAny (model X.prog X.w) X.A (eval b X.env) (fun u s₂=>wpAny (model X.prog X.w) X.A (compareOp op v u) (EP X pins σ Q) X.xe s₂) X.xe s₁) X.xe s
theorem nobehind (b:Expr) {op:CmpOp} (h:op≠.In) (h2:op≠.NotIn):behindInMarks op b=false:=by
 have e1:(op == CmpOp.In)=false:=by cases op<;>first | rfl | exact absurd rfl h
 have e2:(op == CmpOp.NotIn)=false:=by cases op<;>first | rfl | exact absurd rfl h2
 cases b<;>simp [behindInMarks,e1,e2]
noncomputable def tB (t:TE):TT:=fun σ H Q=>t σ H fun x H1=>∃ c,x=.bl c/\Q c H1
theorem avL {op:CmpOp} {t:TE} (h:PC X op a b t) (h1:behindInMarks op b=false:=by first | exact nobehind _ (by decide) (by decide) | rfl):PE X (.Compare a [op] [b] pos) t:=fun pins s σ H Q I hw=>wpAny_Compare1 (h pins s σ H Q I hw) h1
theorem avN {op:CmpOp} {t:TE} (h:PC X op a b t) (h1:behindInMarks op b=false:=by first | exact nobehind _ (by decide) (by decide) | rfl):PT X (.Compare a [op] [b] pos) (tB t):=by
 intro pins s σ H Q I hw;refine wpAny_isTrue_Compare1 (thn (h pins s σ H _ I hw) fun v s1 h1=>thn h1 fun u s2 h2=>thn h2 fun c s3 ⟨x,H1,I1,r1,q1⟩=>?_) h1;obtain ⟨d,rfl,q⟩:=q1;cases r1;exact wpAny_truthy_bool ⟨H1,I1,q⟩
theorem sK {e:Expr} {t:TE} (h:PE X e t) (he:∀ whole,isTrue e X.env whole=(do let v <- whole;standAt e.pos;holding [v] (truthy v)):=by intro _;rfl):PT X e (tB t):=by
 intro pins s σ H Q I hw;refine isTrue_plain (thn (h pins s σ H _ I hw) fun v s1 ⟨x,H1,I1,r1,q1⟩=>?_) (he _);obtain ⟨d,rfl,q⟩:=q1;cases r1;exact wpAny_truthy_bool ⟨H1,I1,q⟩
variable {tA tB':TT} {rest:List Expr}
noncomputable def ay2 (t u:TT):TT:=fun σ H Q=>t σ H fun c H1=>if c=true then u σ H1 Q else Q false H1
noncomputable def tOr (t u:TT):TT:=fun σ H Q=>t σ H fun c H1=>if c=true then Q true H1 else u σ H1 Q
noncomputable def az3 (t:TT):TT:=fun σ H Q=>t σ H fun c H1=>Q (!c) H1
theorem v7 (ha:PT X a tA):PW X (.BoolOp .And [a] pos) tA:=by
 intro wh pins s σ H Q I h;refine isTrue_and (thn (ha pins s σ H Q I h) fun c s1 e=>?_);cases c with
 | true=>exact isTrue_and_nil e
 | false=>exact e
theorem agX (ha:PT X a tA):PW X (.BoolOp .Or [a] pos) tA:=by
 intro wh pins s σ H Q I h;refine isTrue_or (thn (ha pins s σ H Q I h) fun c s1 e=>?_);cases c with
 | false=>exact isTrue_or_nil e
 | true=>exact e
theorem ad3 (ha:PT X a tA) (hb:PW X (.BoolOp .And (b::rest) pos) tB'):PW X (.BoolOp .And (a::b::rest) pos) (ay2 tA tB'):=by
 intro wh pins s σ H Q I h;refine isTrue_and (thn (ha pins s σ H _ I h) fun c s1 ⟨H1,I1,q1⟩=>?_);cases c with
 | true=>exact hb wh pins s1 σ H1 Q I1 q1
 | false=>exact ⟨H1,I1,q1⟩
theorem anE (ha:PT X a tA) (hb:PW X (.BoolOp .Or (b::rest) pos) tB'):PW X (.BoolOp .Or (a::b::rest) pos) (tOr tA tB'):=by
 intro wh pins s σ H Q I h;refine isTrue_or (thn (ha pins s σ H _ I h) fun c s1 ⟨H1,I1,q1⟩=>?_);cases c with
 | true=>exact ⟨H1,I1,q1⟩
 | false=>exact hb wh pins s1 σ H1 Q I1 q1
theorem aiL (ha:PT X a tA):PT X (.UnaryOp .Not a pos) (az3 tA):=by
 intro pins s σ H Q I h;exact isTrue_not (ha pins s σ H (fun c H1=>Q (!c) H1) I h)
noncomputable def aoM (ta tb:TE):TE:=fun σ H Q=>ta σ H fun x H1=>∃ c,x=.bl c/\if c=true then tb σ H1 Q else Q (.bl false) H1
noncomputable def au1 (ta tb:TE):TE:=fun σ H Q=>ta σ H fun x H1=>∃ c,x=.bl c/\if c=true then Q (.bl true) H1 else tb σ H1 Q
noncomputable def ao8 (ta:TE):TE:=fun σ H Q=>ta σ H fun x H1=>∃ c,x=.bl c/\Q (.bl (!c)) H1
theorem aiF {op} {t:TE} (h:PE X a t):PE X (.BoolOp op [a] pos) t:=fun pins s σ H Q I hw=>BoolOp_one (h pins s σ H Q I hw)
theorem ahN (ha:PE X a ta) (hb:PE X (.BoolOp .And (b::rest) pos) tb):PE X (.BoolOp .And (a::b::rest) pos) (aoM ta tb):=by
 intro pins s σ H Q I h;refine BoolOp_and (thn (ha pins s σ H _ I h) fun v s1 ⟨x,H1,I1,r1,q1⟩=>?_);obtain ⟨c,rfl,q1⟩:=q1;cases r1;refine wpAny_truthy_bool ?_;cases c with
 | true=>exact hb pins s1 σ H1 Q I1 q1
 | false=>exact ⟨.bl false,H1,I1,rfl,q1⟩
theorem aAU (ha:PE X a ta) (hb:PE X (.BoolOp .Or (b::rest) pos) tb):PE X (.BoolOp .Or (a::b::rest) pos) (au1 ta tb):=by
 intro pins s σ H Q I h;refine BoolOp_or (thn (ha pins s σ H _ I h) fun v s1 ⟨x,H1,I1,r1,q1⟩=>?_);obtain ⟨c,rfl,q1⟩:=q1;cases r1;refine wpAny_truthy_bool ?_;cases c with
 | false=>exact hb pins s1 σ H1 Q I1 q1
 | true=>exact ⟨.bl true,H1,I1,rfl,q1⟩
theorem auU (ha:PE X a ta):PE X (.UnaryOp .Not a pos) (ao8 ta):=by
 intro pins s σ H Q I h;refine UnaryOp_ (thn (ha pins s σ H _ I h) fun v s1 ⟨x,H1,I1,r1,q1⟩=>?_);obtain ⟨c,rfl,q1⟩:=q1;cases r1;exact not_of (wpAny_truthy_bool ⟨.bl (!c),H1,I1,rfl,q1⟩)
noncomputable def tIf (t:TT) (ta tb:TE):TE:=fun σ H Q=>t σ H fun c H1=>if c=true then ta σ H1 Q else tb σ H1 Q
theorem nD {c:Expr} (hc:PT X c tA) (ha:PE X a ta) (hb:PE X b tb):PE X (.IfExp c a b pos) (tIf tA ta tb):=by
 intro pins s σ H Q I h;refine wpAny_IfExp (thn (hc pins s σ H _ I h) fun d s1 ⟨H1,I1,q1⟩=>?_);cases d with
 | true=>exact ha pins s1 σ H1 Q I1 q1
 | false=>exact hb pins s1 σ H1 Q I1 q1
end
end L2
namespace L2
open PySem PySem.Spec PyProof.Rows
noncomputable def eZ (K:PySem.W.Frag) (H:Hp) (a:Addr) (xs:List V):Prop :=
 Rd H a (.lst xs) \/
  ∃(o:Obj) (its:Array Value) (n:Nat),K.lookup a=some o/\o.cls=.type "list"/\o.dict=none/\o.data=.seq its n/\its.size<=sizeLine/\Vals xs its.toList
noncomputable def dF (K:PySem.W.Frag) (H:Hp) (a:Addr) (xs:List V):Prop :=
 Rd H a (.tup xs) \/
  ∃(o:Obj) (its:Array Value) (n:Nat),K.lookup a=some o/\o.cls=.type "tuple"/\o.data=.seq its n/\its.size<=sizeLine/\Vals xs its.toList
noncomputable def aCA:Value->Option V
 | .none=>some .non
 | .bool b=>some (.bl b)
 | .int i _=>some (.int i)
 | .str x _=>some (.str x)
 | .bytes b _=>some (.byt b)
 | .float b _=>some (.flt b)
 | .ref a=>some (.ref a)
 | .type n=>some (.ty n)
 | _=>none
theorem bO.abs {x:V} {u:Value} (r:bO x u):aCA u=some x:=by
 cases x with
 | non=>cases r;rfl
 | bl _=>cases r;rfl
 | int _=>obtain ⟨t,rfl⟩:=r;rfl
 | str _=>obtain ⟨t,rfl⟩:=r;rfl
 | byt _=>obtain ⟨t,rfl⟩:=r;rfl
 | flt _=>obtain ⟨t,rfl⟩:=r;rfl
 | ref _=>cases r;rfl
 | ty _=>cases r;rfl
theorem bO.inj {x y:V} {u:Value} (r:bO x u) (q:bO y u):x=y:=Option.some.inj (r.abs.symm.trans q.abs)
theorem Vals.inj {xs ys:List V} {us:List Value} (h:Vals xs us) (g:Vals ys us):xs=ys:=by
 induction h generalizing ys with
 | nil=>cases g;rfl
 | cons r t ih =>
  cases g with
  | cons r' t'=>rw [r.inj r',ih t']
section
variable {X:Cx} {pins:List (Addr×Obj)} {σ:St} {H:Hp} {s:Shared} {a:Addr} {xs ys:List V}
theorem eZ.of {K:PySem.W.Frag} (h:H a=some (.lst xs)):eZ K H a xs:=.inl (.inl h)
theorem dF.of {K:PySem.W.Frag} (h:H a=some (.tup xs)):dF K H a xs:=.inl (.inl h)
theorem Inv.list (I:Inv X pins σ H s) (h:eZ X.K H a xs):∃ its:List Value,Vals xs its/\PlainL s.heap a its.toArray/\xs.length<=sizeLine:=by
 rcases h with h | ⟨o,its,n,hk,hc,hd,hs,hz,r⟩
 ·obtain ⟨z,its,n,r,e⟩:=h.ok I.hok;exact ⟨its,r,⟨_,n,e,rfl,rfl,rfl⟩,z⟩
 ·refine ⟨its.toList,r,⟨o,n,I.kIn a o hk,hc,hd,by simpa using hs⟩,?_⟩;have e:=r.length;simp only [Array.length_toList] at e;omega
theorem Inv.tuple (I:Inv X pins σ H s) (h:dF X.K H a xs):∃ its:List Value,Vals xs its/\IsTup s.heap a its.toArray/\xs.length<=sizeLine:=by
 rcases h with h | ⟨o,its,n,hk,hc,hs,hz,r⟩
 ·obtain ⟨z,its,r,p⟩:=h.ok I.hok;exact ⟨its,r,p,z⟩
 ·refine ⟨its.toList,r,⟨o,I.kIn a o hk,hc,n,by simpa using hs⟩,?_⟩;have e:=r.length;simp only [Array.length_toList] at e;omega
theorem Inv.list_inj (I:Inv X pins σ H s) (h:eZ X.K H a xs) (h':eZ X.K H a ys):xs=ys:=by
 obtain ⟨its,r,⟨o,n,e,_,_,d⟩,_⟩:=I.list h;obtain ⟨its',r',⟨o',n',e',_,_,d'⟩,_⟩:=I.list h';rw [e] at e';cases e';rw [d] at d';injection d' with d1 _
 have:its=its':=by simpa using congrArg Array.toList d1
 subst this;exact r.inj r'
theorem Inv.tuple_inj (I:Inv X pins σ H s) (h:dF X.K H a xs) (h':dF X.K H a ys):xs=ys:=by
 obtain ⟨its,r,⟨o,e,_,n,d⟩,_⟩:=I.tuple h;obtain ⟨its',r',⟨o',e',_,n',d'⟩,_⟩:=I.tuple h';rw [e] at e';cases e';rw [d] at d';injection d' with d1 _
 have:its=its':=by simpa using congrArg Array.toList d1
 subst this;exact r.inj r'
end
noncomputable abbrev Cx.wish (X:Cx) (E:Value->Shared->Prop):Cx:={X with xe:=E}
noncomputable abbrev Cx.nox (X:Cx):Cx:=X.wish fun _ _=>False
theorem Cx.Ok.wish {X:Cx} (ok:X.Ok) (E:Value->Shared->Prop):(X.wish E).Ok :=
 ⟨ok.mod,ok.kind,ok.glob,ok.blt,ok.above,ok.inj,ok.has,ok.cab,ok.hd,ok.frames,ok.stk,ok.exf,ok.bs,ok.bsz,ok.noex,ok.exfs,ok.funs,ok.frf⟩
theorem Cx.Ok.unwish {X:Cx} {E:Value->Shared->Prop} (ok:(X.wish E).Ok):X.Ok :=
 ⟨ok.mod,ok.kind,ok.glob,ok.blt,ok.above,ok.inj,ok.has,ok.cab,ok.hd,ok.frames,ok.stk,ok.exf,ok.bs,ok.bsz,ok.noex,ok.exfs,ok.funs,ok.frf⟩
section
variable {X:Cx} {pins:List (Addr×Obj)} {σ:St} {H:Hp} {s:Shared} {E:Value->Shared->Prop}
theorem Inv.wish (I:Inv X pins σ H s) (E:Value->Shared->Prop):Inv (X.wish E) pins σ H s:=⟨I.ok.wish E,I.os,I.bare,I.base,I.loc,I.cell,I.free,I.freeC,I.pin,I.hok,I.len⟩
theorem Inv.unwish (I:Inv (X.wish E) pins σ H s):Inv X pins σ H s:=⟨I.ok.unwish,I.os,I.bare,I.base,I.loc,I.cell,I.free,I.freeC,I.pin,I.hok,I.len⟩
theorem SP.unwish {D:Ends} {f:Flow} {s':Shared} (h:SP (X.wish E) pins D f s'):SP X pins D f s':=by
 cases f with
 | next=>obtain ⟨σ',H',I,q⟩:=h;exact ⟨σ',H',I.unwish,q⟩
 | brk=>obtain ⟨σ',H',I,q⟩:=h;exact ⟨σ',H',I.unwish,q⟩
 | cont=>obtain ⟨σ',H',I,q⟩:=h;exact ⟨σ',H',I.unwish,q⟩
 | ret u=>obtain ⟨v,σ',H',I,r,q⟩:=h;exact ⟨v,σ',H',I.unwish,r,q⟩
theorem PSs.nox {st:List Stmt} {t:TS} (h:PSs X.nox st t):PSs X st t:=fun pins s σ H D I hw =>
 wpAny_mono (h pins s σ H D (I.wish _) hw) (fun _ _ q=>q.unwish) fun _ _ z=>False.elim z
end
section
variable {X:Cx} {st:Stmt} {rest:List Stmt} {t u:TS} {e:Expr} {te:TE} {pos:Pos}
noncomputable def amO:TS:=fun D σ H=>D.nx σ H
noncomputable def ar1 (t u:TS):TS:=fun D σ H=>t {D with nx:=u D} σ H
theorem bA:PSs X [] amO:=fun _ _ σ H _ I h=>wpAny_execs_nil ⟨σ,H,I,h⟩
theorem aC (h1:PS X st t) (h2:PSs X rest u):PSs X (st::rest) (ar1 t u):=by
 intro pins s σ H D I h;refine wpAny_execs_cons (thn (h1 pins s σ H {D with nx:=u D} I h) fun f s1 q=>?_);cases f with
 | next =>
  obtain ⟨σ',H',I',q⟩:=q;exact h2 pins s1 σ' H' D I' q
 | ret v=>exact q
 | brk=>exact q
 | cont=>exact q
theorem aG (h1:PS X st t):PSs X [st] t:=by
 intro pins s σ H D I h;refine wpAny_execs_cons (thn (h1 pins s σ H D I h) fun f s1 q=>?_);cases f with
 | next=>exact wpAny_execs_nil q
 | ret v=>exact q
 | brk=>exact q
 | cont=>exact q
theorem Inv.quiet {pins:List (Addr×Obj)} {σ:St} {H:Hp} {s:Shared} (I:Inv X pins σ H s):interactive X.env=false:=by simp [interactive,I.ok.kind]
noncomputable def apW (te:TE):TS:=fun D σ H=>te σ H fun _ H1=>D.nx σ H1
theorem bL (he:PE X e te) (hs:swapsWith e none pos.line X.env=pure false:=by rfl):PS X (.Expr e pos) (apW te):=by
 intro pins s σ H D I h;exact wpAny_Expr_any (thn (he pins s σ H _ I h) fun v s1 ⟨x,H1,I1,r1,q1⟩=>⟨σ,H1,I1,q1⟩) I.quiet hs
noncomputable def awS (te:TE):TS:=fun D σ H=>te σ H D.rt
theorem aO (he:PE X e te):PS X (.Return (some e) pos) (awS te):=by
 intro pins s σ H D I h;exact wpAny_Return_some (thn (he pins s σ H _ I h) fun v s1 ⟨x,H1,I1,r1,q1⟩=>⟨x,σ,H1,I1,r1,q1⟩)
noncomputable def apO (c:TT) (t u:TS):TS:=fun D σ H=>c σ H fun b H1=>if b=true then t D σ H1 else u D σ H1
theorem bP {c:Expr} {a b:List Stmt} {tc:TT} (hc:PT X c tc) (ha:PSs X a t) (hb:PSs X b u):PS X (.If c a b pos) (apO tc t u):=by
 intro pins s σ H D I h;refine wpAny_If (thn (hc pins s σ H _ I h) fun d s1 ⟨H1,I1,q1⟩=>?_);cases d with
 | true=>exact ha pins s1 σ H1 D I1 q1
 | false=>exact hb pins s1 σ H1 D I1 q1
end
noncomputable abbrev TG:=V->St->Hp->(St->Hp->Prop)->Prop
noncomputable abbrev TGs:=List V->St->Hp->(St->Hp->Prop)->Prop
noncomputable def PG (X:Cx) (target:Expr) (t:TG):Prop :=
 ∀(pins:List (Addr×Obj)) (s:Shared) (σ:St) (H:Hp) (v:V) (u:Value) (Q:St->Hp->Prop),Inv X pins σ H s->bO v u->t v σ H Q ->
  wpAny (model X.prog X.w) X.A (assign target X.env u) (fun _ s'=>∃ σ' H',Inv X pins σ' H' s'/\Q σ' H') X.xe s
noncomputable def PGs (X:Cx) (ts:List Expr) (t:TGs):Prop :=
 ∀(pins:List (Addr×Obj)) (s:Shared) (σ:St) (H:Hp) (vs:List V) (us:List Value) (Q:St->Hp->Prop),Inv X pins σ H s->Vals vs us->t vs σ H Q ->
  wpAny (model X.prog X.w) X.A (assignInOrder ((assignEach ts X.env).map (·.2)) us) (fun _ s'=>∃ σ' H',Inv X pins σ' H' s'/\Q σ' H') X.xe s
noncomputable abbrev TSet:=V->V->V->Hp->(Hp->Prop)->Prop
noncomputable def PSet (X:Cx) (t:TSet):Prop :=
 ∀(pins:List (Addr×Obj)) (s:Shared) (σ:St) (H:Hp) (o i v:V) (ov iv u:Value) (Q:Hp->Prop),Inv X pins σ H s->bO o ov->bO i iv->bO v u->t o i v H Q ->
  wpAny (model X.prog X.w) X.A (setItem ov iv u) (fun _ s'=>∃ H',Inv X pins σ H' s'/\Q H') X.xe s
noncomputable abbrev TIp:=V->V->Hp->VK->Prop
noncomputable def PIp (X:Cx) (op:Operator) (t:TIp):Prop :=
 ∀(pins:List (Addr×Obj)) (s:Shared) (σ:St) (H:Hp) (x y:V) (v u:Value) (Q:VK),Inv X pins σ H s->bO x v->bO y u->t x y H Q ->
  wpAny (model X.prog X.w) X.A (inplaceOp op v u) (EP X pins σ Q) X.xe s
section
variable {X:Cx} {pos:Pos}
noncomputable def rE (i:Nat):TG:=fun v σ H Q=>Q (σ.set i (some v)) H
theorem c7 {i:Nat} {x:Str} (hN:X.N.Nodup) (hi:X.N[i]?=some x) (hx:Loc X.env.scope x) (hf:X.fn x=true\/X.env.scope.names.lookup x=some .local:=by first | exact .inl rfl | exact .inr rfl | assumption):PG X (.Name x pos) (rE i):=by
 intro pins s σ H v u Q I r h;exact wpAny_assign_Name (aaA I hN hi hx r (fun s' I'=>⟨_,H,I',h⟩) hf)
noncomputable def as4:TGs:=fun vs σ H Q=>vs=[]/\Q σ H
noncomputable def ajU (t:TG) (u:TGs):TGs:=fun vs σ H Q=>∃ v r,vs=v::r/\t v σ H fun σ' H'=>u r σ' H' Q
theorem rK:PGs X [] as4:=by
 intro pins s σ H vs us Q I r h;obtain ⟨e,h⟩:=h;subst e;cases r;exact assignInOrder_nil ⟨σ,H,I,h⟩
theorem dD {e:Expr} {es:List Expr} {t:TG} {u:TGs} (h1:PG X e t) (h2:PGs X es u)
    (hs:(assignEach (e::es) X.env).map (·.2)=assign e X.env::(assignEach es X.env).map (·.2):=by rfl):PGs X (e::es) (ajU t u):=by
  intro pins s σ H vs us Q I r h;obtain ⟨v,vr,e1,h⟩:=h;subst e1;cases r with
  | cons r rr =>
    rw [hs];refine assignInOrder_cons (thn (h1 pins s σ H _ _ _ I r h) fun _ s1 ⟨σ1,H1,I1,q1⟩=>?_);exact h2 pins s1 σ1 H1 _ _ Q I1 rr q1
noncomputable def aqW (K:PySem.W.Frag) (n:Nat) (t:TGs):TG:=fun v σ H Q=>∃ a xs,v=.ref a/\dF K H a xs/\xs.length=n/\t xs σ H Q
theorem yC {es:List Expr} {k:Nat} {t:TGs} {n:Nat} (hc:X.calm=true) (h:PGs X es t)
    (hn:(assignEach es X.env).length=n:=by rfl) (hst:(assignEach es X.env).findIdx? (·.1)=none:=by rfl):PG X (.Tuple es k pos) (aqW X.K n t):=by
  intro pins s σ H v u Q I r hw;obtain ⟨a,xs,e1,hq,hl,hw⟩:=hw;subst e1;cases r;obtain ⟨its,rv,ht,hz⟩:=I.tuple hq;refine assign_Tuple_tuple (I.ok.hd hc) ht (by simp [hn,<- hl,rv.length]) hst fun h' hx=>?_;have I1:Inv X pins σ H {s with heap:=h'}:=I.kept (t':=s.toks) fun b o e=>hx b o (Nat.ne_of_lt (Heap.lt_size e)) e;exact h pins _ σ H xs _ Q I1 (by simpa using rv) hw
noncomputable def azT (to ti:TE) (t:TSet):TG:=fun v σ H Q=>to σ H fun o H1=>ti σ H1 fun i H2=>t o i v H2 fun H3=>Q σ H3
theorem ahJ {o i:Expr} {to ti:TE} {t:TSet} (ho:PE X o to) (hi:PE X i ti) (hs:PSet X t)
    (ha:∀ v,assign (.Subscript o i pos) X.env v=(do
      let ov <- holding [v] (eval o X.env);let iv <- holding [v,ov] (eval i X.env)
      standAt pos
      holding [v,ov,iv] (setItem ov iv v)
      release [v,ov,iv] []):=by intro _;rfl):PG X (.Subscript o i pos) (azT to ti t):=by
  intro pins s σ H v u Q I r h;rw [ha];refine wpAny_bind (wpAny_holding (thn (ho pins s σ H _ I h) fun ov s1 ⟨x,H1,I1,r1,q1⟩=>?_));refine wpAny_bind (wpAny_holding (thn (hi pins s1 σ H1 _ I1 q1) fun iv s2 ⟨y,H2,I2,r2,q2⟩=>?_));refine wpAny_bind (wpAny_standAt (wpAny_bind (wpAny_holding (thn (hs pins s2 σ H2 x y v ov iv u _ I2 r1 r2 r q2) fun _ s3 ⟨H3,I3,q3⟩=>?_))));exact wpAny_release ⟨σ,H3,I3,q3⟩
noncomputable def aq5 (te:TE) (g:TG):TS:=fun D σ H=>te σ H fun x H1=>g x σ H1 D.nx
theorem xJ {tg e:Expr} {te:TE} {g:TG} (he:PE X e te) (hg:PG X tg g) (hs:swapsWithSole [tg] e pos.line X.env=pure false:=by rfl) (hw:swappedStores [tg] e X.env=pure none:=by rfl)
    (h1:(assignEach [tg] X.env).map (·.2)=[assign tg X.env]:=by rfl):PS X (.Assign [tg] e pos) (aq5 te g):=by
  intro pins s σ H D I h;refine wpAny_Assign_stores (thn (he pins s σ H _ I h) fun v s1 ⟨x,H1,I1,r1,q1⟩=>?_) hs hw;rw [h1];exact thn (hg pins s1 σ H1 x v _ I1 r1 q1) fun _ s2 q=>q
theorem bC {i:Nat} {x:Str} {e:Expr} {te:TE} {pos':Pos} (hN:X.N.Nodup) (hi:X.N[i]?=some x) (hx:Loc X.env.scope x) (he:PE X e te) (hs:swapsWith e (some (.Name x pos')) pos.line X.env=pure false:=by rfl) (hf:X.fn x=true\/X.env.scope.names.lookup x=some .local:=by first | exact .inl rfl | exact .inr rfl | assumption) :
    PS X (.Assign [.Name x pos'] e pos) (aq5 te (rE i)):=by
  intro pins s σ H D I h;refine wpAny_Assign_Name (thn (he pins s σ H _ I h) fun v s1 ⟨y,H1,I1,r1,q1⟩=>?_) hs;exact aaA I1 hN hi hx r1 (fun s2 I2=>⟨_,H1,I2,q1⟩) hf
noncomputable def aAF (i:Nat) (te:TE) (ti:TIp):TS:=fun D σ H=>∃ x,σ[i]?=some (some x)/\te σ H fun y H1=>ti x y H1 fun z H2=>D.nx (σ.set i (some z)) H2
theorem auS {i:Nat} {x:Str} {e:Expr} {te:TE} {op:Operator} {ti:TIp} {pos':Pos} (hN:X.N.Nodup) (hi:X.N[i]?=some x) (hx:Loc X.env.scope x) (he:PE X e te) (ho:PIp X op ti) (hf:X.fn x=true\/X.env.scope.names.lookup x=some .local:=by first | exact .inl rfl | exact .inr rfl | assumption) :
    PS X (.AugAssign (.Name x pos') op e pos) (aAF i te ti):=by
  intro pins s σ H D I h;obtain ⟨v,e1,h⟩:=h;obtain ⟨m,hn,hl⟩:=I.loc;have vis:Vis X.env.scope x:=by rcases hx with k | k;exact .inl k;exact .inr (.inl k)
  obtain ⟨u,r,l⟩:=hl i x v hi e1 vis;refine wpAny_AugAssign_Name ?_;have go:wpAny (model X.prog X.w) X.A (eval e X.env) (fun w s₂=>wpAny (model X.prog X.w) X.A (inplaceOp op u w) (fun r s₃=>wpAny (model X.prog X.w) X.A (storeName X.env x r) (fun _=>SP X pins D .next) X.xe s₃) X.xe s₂) X.xe s:=by
    refine thn (he pins s σ H _ I h) fun w s1 ⟨y,H1,I1,r1,q1⟩=>?_;refine thn (ho pins s1 σ H1 v y u w _ I1 r r1 q1) fun z s2 ⟨zv,H2,I2,r2,q2⟩=>?_;exact aaA I2 hN hi hx r2 (fun s3 I3=>⟨_,H2,I3,q2⟩) hf
  rcases l with ⟨hk,hm⟩ | ⟨hk,c,hc,hcell⟩
  · exact wpAny_loadName_local I.ok.kind hk hn hm go
  · rcases hk with hk | hk
    · exact wpAny_loadName_cell I.ok.kind hk hc hcell go
    · rcases hx with k | k
      · have:X.env.scope.names.lookup x=some .free:=hk;rw [k] at this;cases this
      · have:X.env.scope.names.lookup x=some .free:=hk;rw [k] at this;cases this
noncomputable def auF (to ti te:TE) (tget:V->V->Hp->VK->Prop) (tip:TIp) (tset:TSet):TS:=fun D σ H=>to σ H fun o H1=>ti σ H1 fun i H2=>tget o i H2 fun x H3=>te σ H3 fun y H4=>tip x y H4 fun z H5=>tset o i z H5 fun H6=>D.nx σ H6
noncomputable def PGet (X:Cx) (t:V->V->Hp->VK->Prop):Prop :=
 ∀(pins:List (Addr×Obj)) (s:Shared) (σ:St) (H:Hp) (o i:V) (ov iv:Value) (Q:VK),Inv X pins σ H s->bO o ov->bO i iv->t o i H Q ->
  wpAny (model X.prog X.w) X.A (getItem ov iv) (EP X pins σ Q) X.xe s
theorem arT {o i e:Expr} {to ti te:TE} {tget:V->V->Hp->VK->Prop} {tip:TIp} {tset:TSet} {op:Operator} {tpos:Pos} (ho:PE X o to) (hi:PE X i ti) (hg:PGet X tget) (he:PE X e te) (hp:PIp X op tip) (hs:PSet X tset)
    (ha:∀ ov iv new,augStore i ov iv new=(do holding [new,ov,iv] (setItem ov iv new);release [new,ov,iv] [];pure .next):=by intros;rfl):PS X (.AugAssign (.Subscript o i tpos) op e pos) (auF to ti te tget tip tset):=by
  intro pins s σ H D I h;refine wpAny_AugAssign_SubscriptAny (thn (ho pins s σ H _ I h) fun ov s1 ⟨x1,H1,I1,r1,q1⟩=>?_) ha;refine thn (hi pins s1 σ H1 _ I1 q1) fun iv s2 ⟨x2,H2,I2,r2,q2⟩=>?_;refine thn (hg pins s2 σ H2 x1 x2 ov iv _ I2 r1 r2 q2) fun old s3 ⟨x3,H3,I3,r3,q3⟩=>?_;refine thn (he pins s3 σ H3 _ I3 q3) fun v s4 ⟨x4,H4,I4,r4,q4⟩=>?_;refine thn (hp pins s4 σ H4 x3 x4 old v _ I4 r3 r4 q4) fun new s5 ⟨x5,H5,I5,r5,q5⟩=>?_;exact thn (hs pins s5 σ H5 x1 x2 x5 ov iv new _ I5 r1 r2 r5 q5) fun _ s6 ⟨H6,I6,q6⟩=>⟨σ,H6,I6,q6⟩
noncomputable def ipI (f:Int->Int->Int):TIp:=fun x y H Q=>∃ i j,x=.int i/\y=.int j/\Q (.int (f i j)) H
theorem aw7:PIp X .Add (ipI fun i j=>i+j):=by
 intro pins s σ H x y v u Q I r1 r2 h;obtain ⟨i,j,e1,e2,q⟩:=h;subst e1;subst e2;obtain ⟨t,rfl⟩:=r1;obtain ⟨t',rfl⟩:=r2;exact iadd_int ⟨.int _,H,I.tok _,⟨_,rfl⟩,q⟩
end
section
variable {X:Cx} {pos:Pos}
noncomputable def axB (c:TT) (tb:TS):TS:=fun D σ H=>∃ W:Nat->St->Hp->Prop,(∃ m,W m σ H)/\∀ m σ H,W m σ H ->
 c σ H fun b H1=>if b=true then ∃ N:St->Hp->Prop,(∀ σ' H',N σ' H'->∃ m',m' < m/\W m' σ' H')/\tb {D with nx:=N,ct:=N,bk:=D.nx} σ H1 else D.nx σ H1
theorem ae8 {c:Expr} {body:List Stmt} {tc:TT} {tb:TS} (hp:PassesOwn (model X.prog X.w) X.A X.env X.xe) (hc:PT X c tc) (hb:PSs X body tb):PS X (.While c body [] pos) (axB tc tb):=by
 intro pins s σ H D I h;obtain ⟨W,⟨m0,w0⟩,turn⟩:=h;refine wpAny_While (codeAny_whileLoop (fun n s'=>∃ σ' H',Inv X pins σ' H' s'/\W n σ' H') ?_ m0 ⟨σ,H,I,w0⟩);rintro n s1 ⟨σ1,H1,I1,w1⟩;refine wpAny_passesOwn hp (thn (hc pins s1 σ1 H1 _ I1 (turn n σ1 H1 w1)) fun b s2 ⟨H2,I2,q2⟩=>?_);cases b with
 | true =>
  obtain ⟨N,hN,q2⟩:=q2;rw [if_pos rfl];refine wpAny_passesOwn hp (thn (hb pins s2 σ1 H2 _ I2 q2) fun f s3 q3=>?_);cases f with
  | next =>
   obtain ⟨σ3,H3,I3,n3⟩:=q3;obtain ⟨m',hm,w3⟩:=hN σ3 H3 n3;exact ⟨m',hm,σ3,H3,I3,w3⟩
  | cont =>
   obtain ⟨σ3,H3,I3,n3⟩:=q3;obtain ⟨m',hm,w3⟩:=hN σ3 H3 n3;exact ⟨m',hm,σ3,H3,I3,w3⟩
  | brk=>exact q3
  | ret v=>exact q3
 | false =>
  rw [if_neg Bool.false_ne_true];exact wpAny_execs_nil ⟨σ1,H2,I2,q2⟩
end
structure It where
 go:Nat->Hp->Prop
 yld:Nat->Hp->V->Hp->Prop
 stop:Nat->Hp->Prop
noncomputable def mR (X:Cx) (pins:List (Addr×Obj)) (H:Hp) (b:Addr):Prop :=
 H b=none/\b≠X.env.locals/\b∉X.fs/\(b∈X.ex\/X.s₀.heap.objs.size<=b)/\(∀ x c,X.env.cells.lookup x=some c->c≠b)/\∀ p∈X.pn++pins,p.1≠b
theorem Inv.fpOk {X:Cx} {pins:List (Addr×Obj)} {σ:St} {H H':Hp} {s:Shared} {b:Addr} (I:Inv X pins σ H s) (hb:s.heap.objs.size<=b) (hn:H' b=none):mR X pins H' b:=by
 refine ⟨hn,Nat.ne_of_gt (Nat.lt_of_lt_of_le I.lt hb),I.nofs hb,.inr (Nat.le_trans I.sz hb),fun x c e z=>?_,fun p hp z=>?_⟩
 ·obtain ⟨v,q⟩:=I.cell x c e;exact absurd (Nat.lt_of_lt_of_le q.lt (by rw [z];exact hb)) (Nat.lt_irrefl _)
 ·exact absurd (Nat.lt_of_lt_of_le (Heap.lt_size (I.pin p hp).1) (by rw [z];exact hb)) (Nat.lt_irrefl _)
structure Turn (P:Program) (w:World) (K:PySem.W.Frag) (tg:Expr) (J:It) (fp:List Addr) (it:Addr) (tn:Nat->Heap->Prop):Prop where
 mem:it∈fp
 obj:∀ i h,tn i h->∀ b∈fp,∃ o,h.get? b=some o/\∀ v,o.data≠.cell v
 keep:∀ i h h',tn i h->(∀ b∈fp,∀ o,h.get? b=some o->h'.get? b=some o)->tn i h'
 item:∀(X:Cx),X.prog=P->X.w=w->X.K=K->X.calm=true->∀(i:Nat) (pins:List (Addr×Obj)) (s:Shared) (σ:St) (H:Hp) (E:Value->Shared->Prop),Inv X pins σ H s->(∀ b∈fp,mR X pins H b)->tn i s.heap->J.go i H ->
  wpAny (model P w) X.A (pyNext (.ref it)) (fun r s1=>∃ u,r=some u /\
   wpAny (model P w) X.A (letOwnedTupleGo tg (.ref it) u) (fun _ s2=>∃ x H',Inv X pins σ H' s2/\bO x u/\J.yld i H x H'/\tn (i+1) s2.heap/\∀ b∈fp,H' b=none) E s1) E s
 done:∀(X:Cx),X.prog=P->X.w=w->X.K=K->X.calm=true->∀(i:Nat) (pins:List (Addr×Obj)) (s:Shared) (σ:St) (H:Hp) (E:Value->Shared->Prop),Inv X pins σ H s->(∀ b∈fp,mR X pins H b)->tn i s.heap->J.stop i H ->
  wpAny (model P w) X.A (pyNext (.ref it)) (fun r s1=>r=none/\Inv X pins σ H s1) E s
 self:∀(A:Around) (i:Nat) (s:Shared) (Q:Value->Shared->Prop) (E:Value->Shared->Prop),tn i s.heap->Q (.ref it) s->wpAny (model P w) A (pyIter (.ref it)) Q E s
noncomputable abbrev TI:=St->Hp->(It->Hp->Prop)->Prop
noncomputable def PIE (X:Cx) (pins:List (Addr×Obj)) (σ:St) (tg:Expr) (R:It->Hp->Prop) (itv:Value) (s2:Shared):Prop :=
 ∃(it:Addr) (fp:List Addr) (tn:Nat->Heap->Prop) (J:It) (H':Hp),itv=.ref it/\Inv X pins σ H' s2/\Turn X.prog X.w X.K tg J fp it tn/\tn 0 s2.heap/\(∀ b∈fp,mR X pins H' b)/\R J H'
noncomputable def PI (X:Cx) (tg iter:Expr) (wi:TI):Prop :=
 ∀(pins:List (Addr×Obj)) (s:Shared) (σ:St) (H:Hp) (R:It->Hp->Prop),Inv X pins σ H s->wi σ H R ->
  wpAny (model X.prog X.w) X.A (eval iter X.env) (fun v s1=>wpAny (model X.prog X.w) X.A (pyIter v) (PIE X pins σ tg R) X.xe s1) X.xe s
theorem aj7 {M:Model} {A:Around} {E:Value->Shared->Prop} {s:Shared} {tg:Expr} {it:Addr} {u:Value} {o:Obj} {n:String} {vs:Array Value} {Q:Unit->Shared->Prop} (ho:s.heap.get? it=some o) (hc:o.cls=.type n) (hd:o.data=.fields vs)
    (hn:["enumerate","zip","dict_itemiterator","dict_reverseitemiterator","odict_iterator","itertools.zip_longest","itertools.pairwise"].contains n=false) (hQ:Q () s):wpAny M A (letOwnedTupleGo tg (.ref it) u) Q E s:=by
  unfold letOwnedTupleGo;cases tg<;>first
    | exact wpAny_pure hQ
    | (cases u<;>first
        | exact wpAny_pure hQ
        | (refine wpAny_bind (wpAny_load ho ?_)
           rw [hc,hd];show wpAny M A (if (["enumerate","zip","dict_itemiterator","dict_reverseitemiterator","odict_iterator","itertools.zip_longest","itertools.pairwise"].contains n && vs[0]? == some (rawInt _))=true then _ else _) Q E s;rw [if_neg (by intro h;rw [hn,Bool.false_and] at h;cases h)];exact wpAny_pure hQ))
noncomputable def Itl (K:PySem.W.Frag) (a:Addr):It :=
 ⟨fun i H=>∃ xs x,eZ K H a xs/\xs[i]?=some x,fun i H x H'=>H'=H/\∀ xs,eZ K H a xs->xs[i]?=some x,fun i H=>∃ xs,eZ K H a xs/\xs.length<=i⟩
noncomputable def Itt (K:PySem.W.Frag) (a:Addr):It :=
 ⟨fun i H=>∃ xs x,dF K H a xs/\xs[i]?=some x,fun i H x H'=>H'=H/\∀ xs,dF K H a xs->xs[i]?=some x,fun i H=>∃ xs,dF K H a xs/\xs.length<=i⟩
noncomputable def Itr (lo:Int) (n:Nat):It:=⟨fun i _=>i < n,fun i H x H'=>H'=H/\x=.int (lo+i),fun i _=>n<=i⟩
theorem ak4 {P:Program} {w:World} {K:PySem.W.Frag} {tg:Expr} (a it:Addr):Turn P w K tg (Itl K a) [it] it (fun i h=>h.IsListIter it a i) where
 mem:=by simp
 obj:=fun i h st b hb=>by
  have e:b=it:=by simpa using hb
  subst e;obtain ⟨o,e,c,d⟩:=st;exact ⟨o,e,fun v z=>by rw [d] at z;cases z⟩
 keep:=fun i h h' st k=>st.at fun o e=>k it (by simp) o e
 item:=by
  intro X hP hw hK hc i pins s σ H E I hf st hg;subst hP hw hK;obtain ⟨xs,x,hq,hx⟩:=hg;obtain ⟨its,rv,p,hz⟩:=I.list hq;obtain ⟨u,hu,ru⟩:=rv.get hx;obtain ⟨f0,f1,f2,f3,f4,f5⟩:=hf it (by simp);refine wpAny_pyNext_list_item st p.isList (x:=u) (by simpa using hu) fun h' st' sb=>?_;have I1:Inv X pins σ H {s with heap:=h'}:=I.turned (t':=s.toks) (fun b o hb e=>(sb.2 b hb).trans e) f0 f1 f3 f4 f5;obtain ⟨o,e,c,d⟩:=id st';exact ⟨u,rfl,aj7 (s:={s with heap:=h'}) e c d (by decide) ⟨x,H,I1,ru,⟨rfl,fun ys hy=>by rw [I.list_inj hy hq];exact hx⟩,st',fun b hb=>(hf b hb).1⟩⟩
 done:=by
  intro X hP hw hK hc i pins s σ H E I hf st hg;subst hP hw hK;obtain ⟨xs,hq,hx⟩:=hg;obtain ⟨its,rv,p,hz⟩:=I.list hq;obtain ⟨f0,f1,f2,f3,f4,f5⟩:=hf it (by simp);have hl:=rv.length;exact wpAny_pyNext_list_end (I.ok.hd hc) st p.isList (by simp;omega) fun h' eb=>⟨rfl,I.turned (t':=s.toks) (fun b o hb e=>eb b o hb e) f0 f1 f3 f4 f5⟩
 self:=fun _ _ _ _ _ st h=>wpAny_pyIter_listiter st h
theorem aiQ {P:Program} {w:World} {K:PySem.W.Frag} {tg:Expr} (a it:Addr):Turn P w K tg (Itt K a) [it] it (fun i h=>h.IsTupleIter it a i) where
 mem:=by simp
 obj:=fun i h st b hb=>by
  have e:b=it:=by simpa using hb
  subst e;obtain ⟨o,e,c,d⟩:=st;exact ⟨o,e,fun v z=>by rw [d] at z;cases z⟩
 keep:=fun i h h' st k=>st.at fun o e=>k it (by simp) o e
 item:=by
  intro X hP hw hK hc i pins s σ H E I hf st hg;subst hP hw hK;obtain ⟨xs,x,hq,hx⟩:=hg;obtain ⟨its,rv,p,hz⟩:=I.tuple hq;obtain ⟨u,hu,ru⟩:=rv.get hx;obtain ⟨f0,f1,f2,f3,f4,f5⟩:=hf it (by simp);refine wpAny_pyNext_tuple_item st (show s.heap.IsTuple a its.toArray from p) (x:=u) (by simpa using hu) fun h' st' sb=>?_;have I1:Inv X pins σ H {s with heap:=h'}:=I.turned (t':=s.toks) (fun b o hb e=>(sb.2 b hb).trans e) f0 f1 f3 f4 f5;obtain ⟨o,e,c,d⟩:=id st';exact ⟨u,rfl,aj7 (s:={s with heap:=h'}) e c d (by decide) ⟨x,H,I1,ru,⟨rfl,fun ys hy=>by rw [I.tuple_inj hy hq];exact hx⟩,st',fun b hb=>(hf b hb).1⟩⟩
 done:=by
  intro X hP hw hK hc i pins s σ H E I hf st hg;subst hP hw hK;obtain ⟨xs,hq,hx⟩:=hg;obtain ⟨its,rv,p,hz⟩:=I.tuple hq;obtain ⟨f0,f1,f2,f3,f4,f5⟩:=hf it (by simp);have hl:=rv.length;exact wpAny_pyNext_tuple_end (I.ok.hd hc) st (show s.heap.IsTuple a its.toArray from p) (by simp;omega) fun h' eb=>⟨rfl,I.turned (t':=s.toks) (fun b o hb e=>eb b o hb e) f0 f1 f3 f4 f5⟩
 self:=fun _ _ _ _ _ st h=>wpAny_pyIter_tupleiter st h
theorem ahD {P:Program} {w:World} {K:PySem.W.Frag} {tg:Expr} (it:Addr) (lo:Int) (n:Nat):Turn P w K tg (Itr lo n) [it] it (fun i h=>IsRangeIter h it (lo+(i:Nat) * 1) ((n:Int) - (i:Nat)) 1) where
 mem:=by simp
 obj:=fun i h st b hb=>by
  have e:b=it:=by simpa using hb
  subst e;exact ⟨_,st,fun v z=>by
   have z':Data.fields _=Data.cell v:=z;cases z'⟩
 keep:=fun i h h' st k=>k it (by simp) _ st
 item:=by
  intro X hP hw hK hc i pins s σ H E I hf st hg;subst hP hw hK;obtain ⟨f0,f1,f2,f3,f4,f5⟩:=hf it (by simp);have W:=Walks.range (prog:=X.prog) (w:=X.w) (I.ok.hd hc) it lo 1 n;refine W.item i s _ _ hg st fun v h' tk hv st' kk=>?_;obtain ⟨t,rfl⟩:=hv;have I1:Inv X pins σ H {s with heap:=h',toks:=tk}:=I.turned (fun b o hb e=>kk b o (by simpa using hb) e) f0 f1 f3 f4 f5;refine ⟨_,rfl,aj7 (s:={s with heap:=h',toks:=tk}) (n:="range_iterator") st' rfl rfl (by decide) ⟨.int (lo+i),H,I1,⟨t,?_⟩,⟨rfl,rfl⟩,st',fun b hb=>(hf b hb).1⟩⟩;rw [Int.mul_one]
 done:=by
  intro X hP hw hK hc i pins s σ H E I hf st hg;subst hP hw hK;obtain ⟨f0,f1,f2,f3,f4,f5⟩:=hf it (by simp);exact wpAny_pyNext_range_end (I.ok.hd hc) st (by have:n<=i:=hg;omega) fun h' eb=>⟨rfl,I.turned (t':=s.toks) (fun b o hb e=>eb b o hb e) f0 f1 f3 f4 f5⟩
 self:=fun _ _ _ _ _ st h=>wpAny_pyIter_rangeiter st h
end L2
namespace L2
open PySem PySem.Spec PyProof.Rows
section
variable {X:Cx} {tg:Expr}
noncomputable def acJ (K:PySem.W.Frag) (tl:TE):TI:=fun σ H R=>tl σ H fun x H1=>∃ a,x=.ref a/\(∃ xs,eZ K H1 a xs)/\R (Itl K a) H1
noncomputable def aiN (K:PySem.W.Frag) (tl:TE):TI:=fun σ H R=>tl σ H fun x H1=>∃ a,x=.ref a/\(∃ xs,dF K H1 a xs)/\R (Itt K a) H1
theorem iT {l:Expr} {tl:TE} (hl:PE X l tl):PI X tg l (acJ X.K tl):=by
 intro pins s σ H R I h;refine thn (hl pins s σ H _ I h) fun v s1 ⟨x,H1,I1,r1,q1⟩=>?_;obtain ⟨a,e,⟨xs,hq⟩,q⟩:=q1;subst e;cases r1;obtain ⟨its,rv,p,hz⟩:=I1.list hq;refine wpAny_pyIter_list p.isList ?_;refine ⟨s1.heap.objs.size,[s1.heap.objs.size],_,_,H1,rfl,I1.kept (t':=s1.toks) fun b o e=>Heap.get?_push_of_some _ e,ak4 a _,⟨_,Heap.get?_push_size _ rfl,rfl,rfl⟩,fun b hb=>?_,q⟩;have e:b=s1.heap.objs.size:=by simpa using hb
 subst e;exact I1.fpOk (Nat.le_refl _) (I1.hok.fresh (Nat.le_refl _))
theorem iD {l:Expr} {tl:TE} (hl:PE X l tl):PI X tg l (aiN X.K tl):=by
 intro pins s σ H R I h;refine thn (hl pins s σ H _ I h) fun v s1 ⟨x,H1,I1,r1,q1⟩=>?_;obtain ⟨a,e,⟨xs,hq⟩,q⟩:=q1;subst e;cases r1;obtain ⟨its,rv,p,hz⟩:=I1.tuple hq;refine wpAny_pyIter_tuple (show s1.heap.IsTuple a its.toArray from p) ?_;refine ⟨s1.heap.objs.size,[s1.heap.objs.size],_,_,H1,rfl,I1.kept (t':=s1.toks) fun b o e=>Heap.get?_push_of_some _ e,aiQ a _,⟨_,Heap.get?_push_size _ rfl,rfl,rfl⟩,fun b hb=>?_,q⟩;have e:b=s1.heap.objs.size:=by simpa using hb
 subst e;exact I1.fpOk (Nat.le_refl _) (I1.hok.fresh (Nat.le_refl _))
theorem am8 {pins:List (Addr×Obj)} {σ:St} {H:Hp} {s:Shared} {R:It->Hp->Prop} {E:Value->Shared->Prop} {lo hi:Int} {t u v:Tok} {tk:Nat} (I:Inv X pins σ H s) (h1:-(2 ^ 62)<=lo) (h2:lo < 2 ^ 62) (h3:-(2 ^ 62)<=hi) (h4:hi < 2 ^ 62)
    (q:R (Itr lo (hi - lo).toNat) H):wpAny (model X.prog X.w) X.A (pyIter (.ref s.heap.objs.size)) (PIE X pins σ tg R) E {s with heap:=s.heap.push {cls:=.type "range",data:=.fields #[.int lo t,.int hi u,.int 1 v]},toks:=tk}:=by
  refine wpAny_pyIter_range (IsRange.new ..) (small_one h1 h2 h3 h4) ?_;have I1:Inv X pins σ H {s with heap:=s.heap.push {cls:=.type "range",data:=.fields #[.int lo t,.int hi u,.int 1 v]},toks:=tk}:=I.kept fun b o e=>Heap.get?_push_of_some _ e;refine ⟨(s.heap.push {cls:=.type "range",data:=.fields #[.int lo t,.int hi u,.int 1 v]}).objs.size,[(s.heap.push {cls:=.type "range",data:=.fields #[.int lo t,.int hi u,.int 1 v]}).objs.size],_,_,H,rfl,
    I1.kept (t':=tk) fun b o e=>Heap.get?_push_of_some _ e,ahD _ lo (hi - lo).toNat,?_,fun b hb=>?_,q⟩
  · have e1:lo+((0:Nat):Int) * 1=lo:=by simp
    have e2:(((hi - lo).toNat:Nat):Int) - ((0:Nat):Int)=Builtin.Range.rangeSize lo hi 1:=by rw [rangeSize_one];split<;>omega
    show IsRangeIter _ _ (lo+((0:Nat):Int) * 1) ((((hi - lo).toNat:Nat):Int) - ((0:Nat):Int)) 1;rw [e1,e2];exact Heap.get?_push_size _ rfl
  · have e:b=(s.heap.push {cls:=.type "range",data:=.fields #[.int lo t,.int hi u,.int 1 v]}).objs.size:=by simpa using hb
    subst e;exact I1.fpOk (Nat.le_refl _) (I1.hok.fresh (Nat.le_refl _))
noncomputable def af4 (ta:TA):TI:=fun σ H R=>ta σ H fun vs H1=>∃ j:Int,vs=[.int j]/\-(2 ^ 62)<=j/\j < 2 ^ 62/\R (Itr 0 j.toNat) H1
theorem abV {a:Expr} {ta:TA} {p pos:Pos} (hg:Gl X "range") (hm:X.mg "range"=none) (ha:PA X [a] ta) (hs:starEach [a] X.env=[(false,eval a X.env)]:=by rfl):PI X tg (.Call (.Name "range" p) [a] [] pos) (af4 ta):=by
 intro pins s σ H R I h;refine Call_ (adO I hg hm boot_range (PyProof.Rows.callWith_type1 (thn (ha pos pins s σ H _ I h) fun us s1 ⟨vs,H1,I1,r1,q1⟩=>?_) hs rfl));obtain ⟨j,e,q1,q2,q⟩:=q1;subst e;cases r1 with
 | cons r rr =>
  cases rr;obtain ⟨t,rfl⟩:=r;exact call_range_1 (am8 I1 (by omega) (by omega) q1 q2 (by simpa using q))
noncomputable def aiC (wi:TI) (g:TG) (tb:TS):TS:=fun D σ H=>wi σ H fun J H1=>∃ W:Nat->Nat->St->Hp->Prop,(∃ m,W 0 m σ H1)/\∀ i m σ H,W i m σ H ->
 (J.stop i H/\D.nx σ H)\/(J.go i H/\∃ N:St->Hp->Prop,(∀ σ' H',N σ' H'->∃ m',m' < m/\W (i+1) m' σ' H')/\∀ x H',J.yld i H x H'->g x σ H' fun σ2 H2=>tb {D with nx:=N,ct:=N,bk:=D.nx} σ2 H2)
noncomputable def uO (fp:List Addr) (h:Heap):List (Addr×Obj):=fp.filterMap fun b=>(h.get? b).map fun o=>(b,o)
theorem gK {fp:List Addr} {h:Heap} {b:Addr} {o:Obj} (hb:b∈fp) (e:h.get? b=some o):(b,o)∈uO fp h:=List.mem_filterMap.mpr ⟨b,hb,by rw [e];rfl⟩
theorem ak6 {fp:List Addr} {h:Heap} {p:Addr×Obj} (hp:p∈uO fp h):p.1∈fp/\h.get? p.1=some p.2:=by
 obtain ⟨b,hb,e⟩:=List.mem_filterMap.mp hp;cases q:h.get? b with
 | none=>rw [q] at e;cases e
 | some o =>
  rw [q] at e;have e':(b,o)=p:=Option.some.inj e;subst e';exact ⟨hb,q⟩
theorem Inv.pinned {pins:List (Addr×Obj)} {σ:St} {H:Hp} {s:Shared} {fp:List Addr} (I:Inv X pins σ H s) (hf:∀ b∈fp,mR X pins H b) (ho:∀ b∈fp,∃ o,s.heap.get? b=some o/\∀ v,o.data≠.cell v):Inv X (pins++uO fp s.heap) σ H s :=
 I.pins_of fun p hp=>(List.mem_append.mp hp).elim (fun z=>I.pin p (List.mem_append_right _ z)) fun z=>by
  obtain ⟨hb,e⟩:=ak6 z;obtain ⟨f0,f1,f2,_⟩:=hf p.1 hb;obtain ⟨o,e',d⟩:=ho p.1 hb;rw [e] at e';cases e';exact ⟨e,f0,f1,f2,d⟩
theorem Inv.unpinned {pins pl:List (Addr×Obj)} {σ:St} {H:Hp} {s:Shared} (I:Inv X (pins++pl) σ H s):Inv X pins σ H s:=I.pins_of fun p hp=>I.pin p (List.mem_append_right _ (List.mem_append_left _ hp))
theorem zF {iter:Expr} {body:List Stmt} {wi:TI} {g:TG} {tb:TS} {pos:Pos} (hp:PassesOwn (model X.prog X.w) X.A X.env X.xe) (hc:X.calm=true) (hi:PI X tg iter wi) (hg:PG X tg g) (hb:PSs X body tb)
    (hs:∀ x,foldedSetIterable iter X.env x=pure x:=by intro _;rfl):PS X (.For tg iter body [] pos) (aiC wi g tb):=by
  intro pins s σ H D I h;refine wpAny_For (thn (hi pins s σ H _ I h) fun v s1 h1=>thn h1 fun itv s2 h2=>?_) hs;obtain ⟨it,fp,tn,J,H2,e,I2,T,st2,f2,W,⟨m0,w0⟩,turn⟩:=h2;subst e
  -- what stays true of the iterator's objects through the loop
  have stat:∀ {H':Hp},(∀ b∈fp,H' b=none)->∀ b∈fp,mR X pins H' b:=fun hn b hb=>⟨hn b hb,(f2 b hb).2⟩;refine codeAny_forLoop_any (fun n s'=>∃ i σ' H',Inv X pins σ' H' s'/\tn i s'.heap/\(∀ b∈fp,H' b=none)/\W i n σ' H') ?_ m0 ⟨0,σ,H2,I2,st2,fun b hb=>(f2 b hb).1,w0⟩;rintro n s3 ⟨i,σ3,H3,I3,st3,fr3,w3⟩;rcases turn i n σ3 H3 w3 with ⟨stop,qn⟩ | ⟨go,N,hN,step⟩
  · refine wpAny_passesOwn hp (thn (T.done X rfl rfl rfl hc i pins s3 σ3 H3 X.xe I3 (stat fr3) st3 stop) fun r s4 ⟨hr,I4⟩=>?_);subst hr;exact wpAny_execs_nil ⟨σ3,H3,I4,qn⟩
  · refine wpAny_passesOwn hp (thn (T.item X rfl rfl rfl hc i pins s3 σ3 H3 X.xe I3 (stat fr3) st3 go) fun r s4 ⟨u,hr,h4⟩=>?_);subst hr;refine wpAny_passesOwn hp (thn h4 fun _ s5 ⟨x,H5,I5,r5,y5,st5,fr5⟩=>?_);have I5':=I5.pinned (stat fr5) (T.obj _ _ st5);refine wpAny_passesOwn hp (thn (hg _ s5 σ3 H5 x u _ I5' r5 (step x H5 y5)) fun _ s6 ⟨σ6,H6,I6,q6⟩=>?_);refine wpAny_passesOwn hp (thn (hb _ s6 σ6 H6 _ I6 q6) fun f s7 q7=>?_);have again:∀ {σ7:St} {H7:Hp},Inv X (pins++uO fp s5.heap) σ7 H7 s7->N σ7 H7->∃ m,m < n/\∃ i σ' H',Inv X pins σ' H' s7/\tn i s7.heap/\(∀ b∈fp,H' b=none)/\W i m σ' H':=fun {σ7 H7} I7 n7=>by
      obtain ⟨m',hm,w7⟩:=hN σ7 H7 n7;refine ⟨m',hm,i+1,σ7,H7,I7.unpinned,T.keep _ _ _ st5 fun b hb o e=>(I7.pin (b,o) (List.mem_append_right _ (List.mem_append_right _ (gK hb e)))).1,fun b hb=>?_,w7⟩;obtain ⟨o,e,d⟩:=T.obj _ _ st5 b hb;exact (I7.pin (b,o) (List.mem_append_right _ (List.mem_append_right _ (gK hb e)))).2.1
    cases f with
    | next=>obtain ⟨σ7,H7,I7,n7⟩:=q7;exact again I7 n7
    | cont=>obtain ⟨σ7,H7,I7,n7⟩:=q7;exact again I7 n7
    | brk=>obtain ⟨σ7,H7,I7,q7⟩:=q7;exact ⟨σ7,H7,I7.unpinned,q7⟩
    | ret v=>obtain ⟨x7,σ7,H7,I7,r7,q7⟩:=q7;exact ⟨x7,σ7,H7,I7.unpinned,r7,q7⟩
end
theorem ap3 {K:PySem.W.Frag} {a:Addr} {xs:List V} {g:TG} {tb:TS} {D:Ends} {σ:St} {H:Hp} (Pv:Nat->St->Hp->Prop) (h0:Pv 0 σ H) (hl:∀ i σ H,i<=xs.length->Pv i σ H->eZ K H a xs)
    (hs:∀ i x σ H,xs[i]?=some x->Pv i σ H->g x σ H fun σ2 H2=>tb {D with nx:=Pv (i+1),ct:=Pv (i+1),bk:=D.nx} σ2 H2) (hd:∀ σ H,Pv xs.length σ H->D.nx σ H) :
    ∃ W:Nat->Nat->St->Hp->Prop,(∃ m,W 0 m σ H)/\∀ i m σ H,W i m σ H ->
      ((Itl K a).stop i H/\D.nx σ H)\/((Itl K a).go i H/\∃ N:St->Hp->Prop,(∀ σ' H',N σ' H'->∃ m',m' < m/\W (i+1) m' σ' H')/\∀ x H',(Itl K a).yld i H x H'->g x σ H' fun σ2 H2=>tb {D with nx:=N,ct:=N,bk:=D.nx} σ2 H2):=by
  refine ⟨fun i m σ H=>m=xs.length - i/\i<=xs.length/\Pv i σ H,⟨xs.length,by simp,Nat.zero_le _,h0⟩,?_⟩;rintro i m σ H ⟨rfl,hi,p⟩;have q:=hl i σ H hi p;by_cases hlt:i < xs.length
  · refine .inr ⟨⟨xs,xs[i],q,by simp [hlt]⟩,Pv (i+1),fun σ' H' p'=>⟨xs.length - (i+1),by omega,rfl,hlt,p'⟩,fun x H' y=>?_⟩;obtain ⟨e,y⟩:=y;subst e;exact hs i x σ _ (y xs q) p
  · have e:i=xs.length:=by omega
    subst e;exact .inl ⟨⟨xs,q,Nat.le_refl _⟩,hd σ H p⟩
theorem ai4 {K:PySem.W.Frag} {a:Addr} {xs:List V} {g:TG} {tb:TS} {D:Ends} {σ:St} {H:Hp} (Pv:Nat->St->Hp->Prop) (h0:Pv 0 σ H) (hl:∀ i σ H,i<=xs.length->Pv i σ H->dF K H a xs)
    (hs:∀ i x σ H,xs[i]?=some x->Pv i σ H->g x σ H fun σ2 H2=>tb {D with nx:=Pv (i+1),ct:=Pv (i+1),bk:=D.nx} σ2 H2) (hd:∀ σ H,Pv xs.length σ H->D.nx σ H) :
    ∃ W:Nat->Nat->St->Hp->Prop,(∃ m,W 0 m σ H)/\∀ i m σ H,W i m σ H ->
      ((Itt K a).stop i H/\D.nx σ H)\/((Itt K a).go i H/\∃ N:St->Hp->Prop,(∀ σ' H',N σ' H'->∃ m',m' < m/\W (i+1) m' σ' H')/\∀ x H',(Itt K a).yld i H x H'->g x σ H' fun σ2 H2=>tb {D with nx:=N,ct:=N,bk:=D.nx} σ2 H2):=by
  refine ⟨fun i m σ H=>m=xs.length - i/\i<=xs.length/\Pv i σ H,⟨xs.length,by simp,Nat.zero_le _,h0⟩,?_⟩;rintro i m σ H ⟨rfl,hi,p⟩;have q:=hl i σ H hi p;by_cases hlt:i < xs.length
  · refine .inr ⟨⟨xs,xs[i],q,by simp [hlt]⟩,Pv (i+1),fun σ' H' p'=>⟨xs.length - (i+1),by omega,rfl,hlt,p'⟩,fun x H' y=>?_⟩;obtain ⟨e,y⟩:=y;subst e;exact hs i x σ _ (y xs q) p
  · have e:i=xs.length:=by omega
    subst e;exact .inl ⟨⟨xs,q,Nat.le_refl _⟩,hd σ H p⟩
theorem abZ {lo:Int} {n:Nat} {g:TG} {tb:TS} {D:Ends} {σ:St} {H:Hp} (Pv:Nat->St->Hp->Prop) (h0:Pv 0 σ H)
    (hs:∀ i σ H,i < n->Pv i σ H->g (.int (lo+i)) σ H fun σ2 H2=>tb {D with nx:=Pv (i+1),ct:=Pv (i+1),bk:=D.nx} σ2 H2) (hd:∀ σ H,Pv n σ H->D.nx σ H) :
    ∃ W:Nat->Nat->St->Hp->Prop,(∃ m,W 0 m σ H)/\∀ i m σ H,W i m σ H ->
      ((Itr lo n).stop i H/\D.nx σ H)\/((Itr lo n).go i H/\∃ N:St->Hp->Prop,(∀ σ' H',N σ' H'->∃ m',m' < m/\W (i+1) m' σ' H')/\∀ x H',(Itr lo n).yld i H x H'->g x σ H' fun σ2 H2=>tb {D with nx:=N,ct:=N,bk:=D.nx} σ2 H2):=by
  refine ⟨fun i m σ H=>m=n - i/\i<=n/\Pv i σ H,⟨n,by simp,Nat.zero_le _,h0⟩,?_⟩;rintro i m σ H ⟨rfl,hi,p⟩;by_cases hlt:i < n
  · refine .inr ⟨hlt,Pv (i+1),fun σ' H' p'=>⟨n - (i+1),by omega,rfl,hlt,p'⟩,fun x H' y=>?_⟩;obtain ⟨e,y⟩:=y;subst e y;exact hs i σ _ hlt p
  · have e:i=n:=by omega
    subst e;exact .inl ⟨Nat.le_refl _,hd σ H p⟩
end L2
namespace L2
open PySem PySem.Spec PyProof.Rows
noncomputable abbrev R2:=V->V->Hp->VK->Prop
noncomputable def jZ (X:Cx) (f:Value->Value->Sem Value) (r:R2):Prop :=
 ∀(pins:List (Addr×Obj)) (s:Shared) (σ:St) (H:Hp) (x y:V) (v u:Value) (Q:VK),Inv X pins σ H s->bO x v->bO y u->r x y H Q ->
  wpAny (model X.prog X.w) X.A (f v u) (EP X pins σ Q) X.xe s
noncomputable def UnR (X:Cx) (f:Value->Sem Value) (r:V->Hp->VK->Prop):Prop :=
 ∀(pins:List (Addr×Obj)) (s:Shared) (σ:St) (H:Hp) (x:V) (v:Value) (Q:VK),Inv X pins σ H s->bO x v->r x H Q ->
  wpAny (model X.prog X.w) X.A (f v) (EP X pins σ Q) X.xe s
noncomputable def dW (X:Cx) (f:Value) (r:List V->Hp->VK->Prop):Prop :=
 ∀(pins:List (Addr×Obj)) (s:Shared) (σ:St) (H:Hp) (xs:List V) (us:List Value) (Q:VK),Inv X pins σ H s->Vals xs us->r xs H Q ->
  wpAny (model X.prog X.w) X.A (call f us) (EP X pins σ Q) X.xe s
noncomputable def aBR (X:Cx) (r:V->Hp->(Bool->Hp->Prop)->Prop):Prop :=
 ∀(pins:List (Addr×Obj)) (s:Shared) (σ:St) (H:Hp) (x:V) (v:Value) (Q:Bool->Hp->Prop),Inv X pins σ H s->bO x v->r x H Q ->
  wpAny (model X.prog X.w) X.A (truthy v) (TP X pins σ Q) X.xe s
noncomputable def tOp (r:R2) (ta tb:TE):TE:=fun σ H Q=>ta σ H fun x H1=>tb σ H1 fun y H2=>r x y H2 Q
noncomputable def tUn (r:V->Hp->VK->Prop) (ta:TE):TE:=fun σ H Q=>ta σ H fun x H1=>r x H1 Q
noncomputable def rI (C:Int->Int->Prop) (g:Int->Int->V):R2:=fun x y H Q=>∃ i j,x=.int i/\y=.int j/\C i j/\Q (g i j) H
noncomputable def rI0 (g:Int->Int->V):R2:=fun x y H Q=>∃ i j,x=.int i/\y=.int j/\Q (g i j) H
noncomputable def rU (g:Int->V):V->Hp->VK->Prop:=fun x H Q=>∃ i,x=.int i/\Q (g i) H
section
variable {X:Cx} {a b c:Expr} {ta tb tc:TE} {pos:Pos}
theorem axW (ha:PE X a ta) (hb:PE X b tb) {pins:List (Addr×Obj)} {s:Shared} {σ:St} {H:Hp} {R:V->V->Hp->Prop} (I:Inv X pins σ H s)
    (h:ta σ H fun x H1=>tb σ H1 fun y H2=>R x y H2) {Q:Value->Shared->Prop} {f:Value->Value->Sem Value}
    (hf:∀ v u s2 x y H2,Inv X pins σ H2 s2->bO x v->bO y u->R x y H2->wpAny (model X.prog X.w) X.A (f v u) Q X.xe s2) :
    wpAny (model X.prog X.w) X.A (eval a X.env) (fun v s₁=>wpAny (model X.prog X.w) X.A (eval b X.env) (fun u s₂=>wpAny (model X.prog X.w) X.A (f v u) Q X.xe s₂) X.xe s₁) X.xe s:=by
  refine thn (ha pins s σ H _ I h) fun v s1 ⟨x,H1,I1,r1,q1⟩=>?_;refine thn (hb pins s1 σ H1 _ I1 q1) fun u s2 ⟨y,H2,I2,r2,q2⟩=>?_;exact hf v u s2 x y H2 I2 r1 r2 q2
theorem bH {op:Operator} {r:R2} (ho:jZ X (binaryOp op) r) (ha:PE X a ta) (hb:PE X b tb):PE X (.BinOp a op b pos) (tOp r ta tb):=by
 intro pins s σ H Q I h;exact wpAny_BinOp (axW ha hb I h fun v u s2 x y H2 I2 rx ry q=>ho pins s2 σ H2 x y v u Q I2 rx ry q)
theorem yF {op:UnaryOp} {r:V->Hp->VK->Prop} (ho:UnR X (unaryOp op) r) (ha:PE X a ta):PE X (.UnaryOp op a pos) (tUn r ta):=by
 intro pins s σ H Q I h;exact UnaryOp_ (thn (ha pins s σ H _ I h) fun v s1 ⟨x,H1,I1,r1,q1⟩=>ho pins s1 σ H1 x v Q I1 r1 q1)
theorem opI {f:Value->Value->Sem Value} {C:Int->Int->Prop} {g:Int->Int->Int}
    (rule:∀(i j:Int) (t u:Tok) (s:Shared) (Q:Value->Shared->Prop) (E:Value->Shared->Prop),C i j->Q (.int (g i j) s.toks) {s with toks:=s.toks+1}->wpAny (model X.prog X.w) X.A (f (.int i t) (.int j u)) Q E s) :
    jZ X f (rI C fun i j=>.int (g i j)):=by
  intro pins s σ H x y v u Q I rx ry h;obtain ⟨i,j,rfl,rfl,hc,q⟩:=h;obtain ⟨t,rfl⟩:=rx;obtain ⟨t',rfl⟩:=ry;exact rule i j t t' s _ _ hc ⟨.int (g i j),H,I.tok _,⟨_,rfl⟩,q⟩
theorem aAT {f:Value->Value->Sem Value} {g:Int->Int->Int}
    (rule:∀(i j:Int) (t u:Tok) (s:Shared) (Q:Value->Shared->Prop) (E:Value->Shared->Prop),Q (.int (g i j) s.toks) {s with toks:=s.toks+1}->wpAny (model X.prog X.w) X.A (f (.int i t) (.int j u)) Q E s) :
    jZ X f (rI0 fun i j=>.int (g i j)):=by
  intro pins s σ H x y v u Q I rx ry h;obtain ⟨i,j,rfl,rfl,q⟩:=h;obtain ⟨t,rfl⟩:=rx;obtain ⟨t',rfl⟩:=ry;exact rule i j t t' s _ _ ⟨.int (g i j),H,I.tok _,⟨_,rfl⟩,q⟩
theorem axA {f:Value->Value->Sem Value} {g:Int->Int->Bool}
    (rule:∀(i j:Int) (t u:Tok) (s:Shared) (Q:Value->Shared->Prop) (E:Value->Shared->Prop),Q (.bool (g i j)) s->wpAny (model X.prog X.w) X.A (f (.int i t) (.int j u)) Q E s) :
    jZ X f (rI0 fun i j=>.bl (g i j)):=by
  intro pins s σ H x y v u Q I rx ry h;obtain ⟨i,j,rfl,rfl,q⟩:=h;obtain ⟨t,rfl⟩:=rx;obtain ⟨t',rfl⟩:=ry;exact rule i j t t' s _ _ ⟨.bl (g i j),H,I,rfl,q⟩
noncomputable def CPow (i j:Int):Prop:=0<=j/\j<=1000000/\i.natAbs < 2 ^ 64
noncomputable def CMul (i j:Int):Prop:=(-(2 ^ 64) < i/\i < 2 ^ 64)\/(-(2 ^ 64) < j/\j < 2 ^ 64)
theorem CMul.ok {i j:Int} (h:CMul i j):IntMulOk i j:=by
 rcases h with ⟨h1,h2⟩ | ⟨h1,h2⟩
 ·exact .of_left (intBits_le_64 h1 h2)
 ·exact .of_right (intBits_le_64 h1 h2)
theorem awP:jZ X (binaryOp .Add) (rI0 fun i j=>.int (i+j)):=aAT fun _ _ _ _ _ _ _ q=>add_int q
theorem g9:jZ X (binaryOp .Sub) (rI0 fun i j=>.int (i - j)):=aAT fun _ _ _ _ _ _ _ q=>sub_int q
theorem pT:jZ X (binaryOp .Mult) (rI CMul fun i j=>.int (i * j)):=opI fun _ _ _ _ _ _ _ hc q=>mul_int q hc.ok
theorem pY:jZ X (binaryOp .Mod) (rI (fun _ j=>0 < j) fun i j=>.int (i % j)):=opI fun i j _ _ _ _ _ hc q=>by
 have h1:(0:Int) < j:=hc;exact mod_int' (by omega) (by rw [Int.fmod_eq_emod_of_nonneg i (by omega)];exact q)
theorem nB:jZ X (binaryOp .Pow) (rI CPow fun i j=>.int (i ^ j.toNat)):=opI fun _ _ _ _ _ _ _ hc q=>pow_int_small hc.1 hc.2.1 hc.2.2 q
theorem unI {f:Value->Sem Value} {g:Int->Int}
    (rule:∀(i:Int) (t:Tok) (s:Shared) (Q:Value->Shared->Prop) (E:Value->Shared->Prop),Q (.int (g i) s.toks) {s with toks:=s.toks+1}->wpAny (model X.prog X.w) X.A (f (.int i t)) Q E s) :
    UnR X f (rU fun i=>.int (g i)):=by
  intro pins s σ H x v Q I rx h;obtain ⟨i,rfl,q⟩:=h;obtain ⟨t,rfl⟩:=rx;exact rule i t s _ _ ⟨.int (g i),H,I.tok _,⟨_,rfl⟩,q⟩
theorem pS:UnR X (unaryOp .USub) (rU fun i=>.int (-i)):=unI fun _ _ _ _ _ q=>neg_int q
end
noncomputable def scal:V->V->Bool
 | .non,.non=>true | .non,.int _=>true | .int _,.non=>true | .non,.bl _=>true | .bl _,.non=>true | .non,.str _=>true | .str _,.non=>true
 | .int _,.int _=>true | .bl _,.bl _=>true | .str _,.str _=>true | .byt _,.byt _=>true
 | .int _,.str _=>true | .str _,.int _=>true | .bl _,.str _=>true | .str _,.bl _=>true
 | _,_=>false
noncomputable def rEq:R2:=fun x y H Q=>scal x y=true/\Q (.bl (decide (x=y))) H
noncomputable def rNe:R2:=fun x y H Q=>scal x y=true/\Q (.bl (!decide (x=y))) H
theorem akE {i j:Int}:decide (V.int i=V.int j)=(i == j):=by
 rw [Bool.eq_iff_iff];simp
theorem anN {i j:Bool}:decide (V.bl i=V.bl j)=(i == j):=by
 rw [Bool.eq_iff_iff];simp
theorem ajF {i j:Str}:decide (V.str i=V.str j)=(i == j):=by
 rw [Bool.eq_iff_iff];simp
theorem akA {i j:Array UInt8}:decide (V.byt i=V.byt j)=(i.toList == j.toList):=by
 rw [Bool.eq_iff_iff];cases i;cases j;simp
section
variable {X:Cx} {a b c:Expr} {ta tb tc:TE} {pos:Pos}
theorem bR {pins:List (Addr×Obj)} {σ:St} {H:Hp} {s:Shared} {Q:VK} {k k':Bool} (I:Inv X pins σ H s) (q:Q (.bl k) H) (e:k=k'):EP X pins σ Q (.bool k') s:=by
 subst e;exact ⟨.bl k,H,I,rfl,q⟩
theorem cJ:jZ X (compareOp .Eq) rEq:=by
 intro pins s σ H x y v u Q I rx ry h;obtain ⟨hs,q⟩:=h;cases x with
 | non =>
  cases rx;cases y with
  | non=>cases ry;exact PySem.EqNone.eq_none_none (bR I q (by simp))
  | bl j=>cases ry;exact PySem.EqNone.eq_none_bool (bR I q (by simp))
  | int j=>obtain ⟨t',rfl⟩:=ry;exact PySem.EqNone.eq_none_int (bR I q (by simp))
  | str j=>obtain ⟨t',rfl⟩:=ry;exact PySem.EqNone.eq_none_str (bR I q (by simp))
  | _=>exact absurd (show false=true from hs) Bool.false_ne_true
 | bl i =>
  cases rx;cases y with
  | non=>cases ry;exact PySem.EqNone.eq_bool_none (bR I q (by simp))
  | bl j=>cases ry;exact eq_bool (bR I q anN)
  | str j=>obtain ⟨t',rfl⟩:=ry;exact PySem.EqMixed.eq_bool_str (bR I q (by simp))
  | _=>exact absurd (show false=true from hs) Bool.false_ne_true
 | int i =>
  obtain ⟨t,rfl⟩:=rx;cases y with
  | non=>cases ry;exact PySem.EqNone.eq_int_none (bR I q (by simp))
  | int j=>obtain ⟨t',rfl⟩:=ry;exact eq_int (bR I q akE)
  | str j=>obtain ⟨t',rfl⟩:=ry;exact PySem.EqMixed.eq_int_str (bR I q (by simp))
  | _=>exact absurd (show false=true from hs) Bool.false_ne_true
 | str i =>
  obtain ⟨t,rfl⟩:=rx;cases y with
  | non=>cases ry;exact PySem.EqNone.eq_str_none (bR I q (by simp))
  | bl j=>cases ry;exact PySem.EqMixed.eq_str_bool (bR I q (by simp))
  | int j=>obtain ⟨t',rfl⟩:=ry;exact PySem.EqMixed.eq_str_int (bR I q (by simp))
  | str j=>obtain ⟨t',rfl⟩:=ry;exact eq_str (bR I q ajF)
  | _=>exact absurd (show false=true from hs) Bool.false_ne_true
 | byt i =>
  obtain ⟨t,rfl⟩:=rx;cases y with
  | byt j=>obtain ⟨t',rfl⟩:=ry;exact PySem.W.eq_bytes (bR I q akA)
  | _=>exact absurd (show false=true from hs) Bool.false_ne_true
 | _=>cases y<;>exact absurd (show false=true from hs) Bool.false_ne_true
theorem aBC:jZ X (compareOp .NotEq) rNe:=by
 intro pins s σ H x y v u Q I rx ry h;obtain ⟨hs,q⟩:=h;cases x with
 | non =>
  cases rx;cases y with
  | non=>cases ry;exact PySem.EqNone.ne_none_none (bR I q (by simp))
  | bl j=>cases ry;exact PySem.EqNone.ne_none_bool (bR I q (by simp))
  | int j=>obtain ⟨t',rfl⟩:=ry;exact PySem.EqNone.ne_none_int (bR I q (by simp))
  | str j=>obtain ⟨t',rfl⟩:=ry;exact PySem.EqNone.ne_none_str (bR I q (by simp))
  | _=>exact absurd (show false=true from hs) Bool.false_ne_true
 | bl i =>
  cases rx;cases y with
  | non=>cases ry;exact PySem.EqNone.ne_bool_none (bR I q (by simp))
  | bl j=>cases ry;exact ne_bool (bR I q (congrArg not anN))
  | str j=>obtain ⟨t',rfl⟩:=ry;exact PySem.EqMixed.ne_bool_str (bR I q (by simp))
  | _=>exact absurd (show false=true from hs) Bool.false_ne_true
 | int i =>
  obtain ⟨t,rfl⟩:=rx;cases y with
  | non=>cases ry;exact PySem.EqNone.ne_int_none (bR I q (by simp))
  | int j=>obtain ⟨t',rfl⟩:=ry;exact ne_int (bR I q (congrArg not akE))
  | str j=>obtain ⟨t',rfl⟩:=ry;exact PySem.EqMixed.ne_int_str (bR I q (by simp))
  | _=>exact absurd (show false=true from hs) Bool.false_ne_true
 | str i =>
  obtain ⟨t,rfl⟩:=rx;cases y with
  | non=>cases ry;exact PySem.EqNone.ne_str_none (bR I q (by simp))
  | bl j=>cases ry;exact PySem.EqMixed.ne_str_bool (bR I q (by simp))
  | int j=>obtain ⟨t',rfl⟩:=ry;exact PySem.EqMixed.ne_str_int (bR I q (by simp))
  | str j=>obtain ⟨t',rfl⟩:=ry;exact ne_str (bR I q (congrArg not ajF))
  | _=>exact absurd (show false=true from hs) Bool.false_ne_true
 | byt i =>
  obtain ⟨t,rfl⟩:=rx;cases y with
  | byt j=>obtain ⟨t',rfl⟩:=ry;exact PySem.W.ne_bytes (bR I q (congrArg not akA))
  | _=>exact absurd (show false=true from hs) Bool.false_ne_true
 | _=>cases y<;>exact absurd (show false=true from hs) Bool.false_ne_true
theorem pK:jZ X (compareOp .Lt) (rI0 fun i j=>.bl (decide (i < j))):=axA fun _ _ _ _ _ _ _ q=>lt_int q
theorem amU:jZ X (compareOp .Gt) (rI0 fun i j=>.bl (decide (j < i))):=axA fun _ _ _ _ _ _ _ q=>gt_int q
theorem azH:jZ X (compareOp .GtE) (rI0 fun i j=>.bl (decide (j<=i))):=axA fun _ _ _ _ _ _ _ q=>ge_int q
theorem axZ:jZ X (compareOp .Is) (fun x y H Q=>y=.non/\Q (.bl (decide (x=.non))) H):=by
 intro pins s σ H x y v u Q I rx ry h;obtain ⟨rfl,q⟩:=h;cases ry;refine is_none_gen (bR I q ?_);cases x<;>first
  | (cases rx;rfl)
  | (obtain ⟨t,rfl⟩:=rx;rfl)
theorem arI:jZ X (compareOp .IsNot) (fun x y H Q=>y=.non/\Q (.bl (!decide (x=.non))) H):=by
 intro pins s σ H x y v u Q I rx ry h;obtain ⟨rfl,q⟩:=h;cases ry;refine isnot_none_gen (bR I q ?_);cases x<;>first
  | (cases rx;rfl)
  | (obtain ⟨t,rfl⟩:=rx;rfl)
theorem jZ.or {f:Value->Value->Sem Value} {r r':R2} (h:jZ X f r) (h':jZ X f r'):jZ X f (fun x y H Q=>r x y H Q\/r' x y H Q):=by
 intro pins s σ H x y v u Q I rx ry q;rcases q with q | q
 ·exact h pins s σ H x y v u Q I rx ry q
 ·exact h' pins s σ H x y v u Q I rx ry q
theorem nomark (b:Expr) {op:CmpOp} (h:op≠.In:=by decide) (h2:op≠.NotIn:=by decide):behindInMarks op b=false:=by
 have e1:(op == CmpOp.In)=false:=by cases op<;>first | rfl | exact absurd rfl h
 have e2:(op == CmpOp.NotIn)=false:=by cases op<;>first | rfl | exact absurd rfl h2
 cases b<;>simp [behindInMarks,e1,e2]
theorem fY {op:CmpOp} {r:R2} (ho:jZ X (compareOp op) r) (ha:PE X a ta) (hb:PE X b tb) (hm:behindInMarks op b=false):PE X (.Compare a [op] [b] pos) (tOp r ta tb):=by
 intro pins s σ H Q I h;exact wpAny_Compare1 (axW ha hb I h fun v u s2 x y H2 I2 rx ry q=>ho pins s2 σ H2 x y v u Q I2 rx ry q) hm
noncomputable def afZ (t:TE):TT:=fun σ H Q=>t σ H fun x H'=>∃ k,x=.bl k/\Q k H'
theorem aS {op:CmpOp} {r:R2} (ho:jZ X (compareOp op) r) (ha:PE X a ta) (hb:PE X b tb) (hm:behindInMarks op b=false):PT X (.Compare a [op] [b] pos) (afZ (tOp r ta tb)):=by
 intro pins s σ H Q I h;refine wpAny_isTrue_Compare1 (thn (ha pins s σ H _ I h) fun v s1 ⟨x,H1,I1,r1,q1⟩=>thn (hb pins s1 σ H1 _ I1 q1) fun u s2 ⟨y,H2,I2,r2,q2⟩ =>
  thn (ho pins s2 σ H2 x y v u _ I2 r1 r2 q2) fun c s3 ⟨z,H3,I3,r3,k,e,q3⟩=>?_) hm
 subst e;cases r3;exact wpAny_truthy_bool ⟨H3,I3,q3⟩
noncomputable def ayU (K:PySem.W.Frag) (x:V) (H:Hp) (k:Bool):Prop :=
 match x with
 | .non=>k=false
 | .bl b=>k=b
 | .int i=>k=(i != 0)
 | .str y=>y.length<=sizeLine/\k=((y.length:Int) != 0)
 | .byt y=>y.size<=sizeLine/\k=((y.size:Int) != 0)
 | .ref p=>(∃ xs,eZ K H p xs/\k = !xs.isEmpty)\/(∃ xs,dF K H p xs/\k = !xs.isEmpty)\/∃ kvs,H p=some (.dK kvs)/\k = !kvs.isEmpty
 | _=>False
theorem ag1 {κ:Type} {kvs:List (κ×V)} {vs:List (κ×Value)} (r:KV kvs vs):(!vs.isEmpty) = !kvs.isEmpty:=by
 cases r<;>rfl
theorem y9 {xs:List V} {its:List Value} (r:Vals xs its):(!its.toArray.isEmpty) = !xs.isEmpty:=by
 cases r<;>simp
theorem line63:(sizeLine:Nat) < 2 ^ 63:=by rw [sizeLine_eq];decide
theorem au7:aBR X (fun x H Q=>∃ k,ayU X.K x H k/\Q k H):=by
 intro pins s σ H x v Q I rx h;obtain ⟨k,e,q⟩:=h;have hl:=line63;have hs:sizeLine=16777216:=sizeLine_eq;cases x with
 | non =>
  cases rx;have e':k=false:=e;subst e';exact truthy_none ⟨H,I,q⟩
 | bl b =>
  cases rx;have e':k=b:=e;subst e';exact wpAny_truthy_bool ⟨H,I,q⟩
 | int i =>
  obtain ⟨t,rfl⟩:=rx;have e':k=(i != 0):=e;subst e';exact PySem.P.truthy_int ⟨H,I,q⟩
 | str y =>
  obtain ⟨t,rfl⟩:=rx;obtain ⟨hy,e'⟩:y.length<=sizeLine/\k=((y.length:Int) != 0):=e;subst e';exact PySem.P.truthy_str (by omega) ⟨H,I.tok _,q⟩
 | byt y =>
  obtain ⟨t,rfl⟩:=rx;obtain ⟨hy,e'⟩:y.size<=sizeLine/\k=((y.size:Int) != 0):=e;subst e';exact PySem.W.truthy_bytes (by omega) ⟨H,I.tok _,q⟩
 | ref p =>
  cases rx;have e':(∃ xs,eZ X.K H p xs/\k = !xs.isEmpty)\/(∃ xs,dF X.K H p xs/\k = !xs.isEmpty)\/∃ kvs,H p=some (.dK kvs)/\k = !kvs.isEmpty:=e;rcases e' with ⟨xs,hx,e'⟩ | ⟨xs,hx,e'⟩ | ⟨kvs,hx,e'⟩
  ·subst e';obtain ⟨its,r,pl,hz⟩:=I.list hx;have hlen:=r.length;exact wpAny_truthy_list pl.isList (by simp only [List.size_toArray];omega) ⟨H,I.tok _,by rw [y9 r];exact q⟩
  ·subst e';obtain ⟨its,r,pl,hz⟩:=I.tuple hx;have hlen:=r.length;exact truthy_tuple pl (by simp only [List.size_toArray];omega) ⟨H,I.tok _,by rw [y9 r];exact q⟩
  ·subst e';obtain ⟨hz,hS,vs,r,m⟩:kvs.length<=sizeLine/\(p == sysModules)=false/\∃ vs,KV kvs vs/\s.heap.DictOf (bY X.prog X.w) p vs:=I.hok p _ hx;have hlen:kvs.length=vs.length:=Paired.length r;exact wpAny_truthy_dict hS m (by omega) ⟨H,I.tok _,by rw [ag1 r];exact q⟩
 | _=>exact (show False from e).elim
theorem ah4:jZ X (binaryOp .Add) (fun x y H Q=>∃ i j,x=.str i/\y=.str j/\i.length+j.length<=sizeLine/\Q (.str (i++j)) H):=by
 intro pins s σ H x y v u Q I rx ry h;obtain ⟨i,j,rfl,rfl,hz,q⟩:=h;obtain ⟨t,rfl⟩:=rx;obtain ⟨t',rfl⟩:=ry;exact add_str (fun t' tk=>⟨.str (i++j),H,I.tok _,⟨_,rfl⟩,q⟩) hz
theorem vals1 {x:V} {us:List Value} (r:Vals [x] us):∃ u,us=[u]/\bO x u:=by
 cases r with
 | cons r1 r2=>cases r2;exact ⟨_,rfl,r1⟩
theorem vals2 {x y:V} {us:List Value} (r:Vals [x,y] us):∃ u w',us=[u,w']/\bO x u/\bO y w':=by
 cases r with
 | cons r1 r2 =>
  cases r2 with
  | cons r3 r4=>cases r4;exact ⟨_,_,rfl,r1,r3⟩
theorem alU (hc:X.calm=true):dW X (.builtin "max") (fun xs H Q=>∃ i j,xs=[.int i,.int j]/\Q (.int (if j > i then j else i)) H):=by
 intro pins s σ H xs us Q I r h;obtain ⟨i,j,rfl,q⟩:=h;obtain ⟨u,w',rfl,⟨t,rfl⟩,⟨t',rfl⟩⟩:=vals2 r;refine max_two_ints (I.ok.hd hc) fun h' tk k=>⟨_,H,I.kept k,?_,q⟩;by_cases hj:j > i
 ·rw [if_pos hj,if_pos hj];exact ⟨_,rfl⟩
 ·rw [if_neg hj,if_neg hj];exact ⟨_,rfl⟩
theorem akX (hc:X.calm=true):dW X (.builtin "min") (fun xs H Q=>∃ i j,xs=[.int i,.int j]/\Q (.int (if j < i then j else i)) H):=by
 intro pins s σ H xs us Q I r h;obtain ⟨i,j,rfl,q⟩:=h;obtain ⟨u,w',rfl,⟨t,rfl⟩,⟨t',rfl⟩⟩:=vals2 r;refine min_two_ints (I.ok.hd hc) fun h' tk k=>⟨_,H,I.kept k,?_,q⟩;by_cases hj:j < i
 ·rw [if_pos hj,if_pos hj];exact ⟨_,rfl⟩
 ·rw [if_neg hj,if_neg hj];exact ⟨_,rfl⟩
theorem alS:dW X (.type "int") (fun xs H Q=>(∃ i,xs=[.int i]/\Q (.int i) H)\/∃ k,xs=[.bl k]/\Q (.int (if k then 1 else 0)) H):=by
 intro pins s σ H xs us Q I r h;rcases h with ⟨i,rfl,q⟩ | ⟨k,rfl,q⟩
 ·obtain ⟨u,rfl,t,rfl⟩:=vals1 r;exact call_int_int ⟨.int i,H,I,⟨_,rfl⟩,q⟩
 ·obtain ⟨u,rfl,r1⟩:=vals1 r;cases r1;exact call_int_bool ⟨.int (if k then 1 else 0),H,I.tok _,⟨_,rfl⟩,q⟩
theorem adW:dW X (.type "str") (fun xs H Q=>∃ i,xs=[.int i]/\i.natAbs.log2 < 1920/\Q (.str (toString i)) H):=by
 intro pins s σ H xs us Q I r h;obtain ⟨i,rfl,hz,q⟩:=h;obtain ⟨u,rfl,t,rfl⟩:=vals1 r;exact PySem.P.str_of_int hz ⟨.str _,H,I.tok _,⟨_,rfl⟩,q⟩
noncomputable def aB0 (K:PySem.W.Frag) (x:V) (H:Hp) (n:Nat):Prop :=
 match x with
 | .str y=>y.length<=sizeLine/\n=y.length
 | .byt y=>y.size<=sizeLine/\n=y.size
 | .ref p=>(∃ xs,eZ K H p xs/\n=xs.length)\/∃ xs,dF K H p xs/\n=xs.length
 | _=>False
theorem xG:dW X (.builtin "len") (fun xs H Q=>∃ x n,xs=[x]/\aB0 X.K x H n/\Q (.int n) H):=by
 intro pins s σ H xs us Q I r h;obtain ⟨x,n,rfl,e,q⟩:=h;obtain ⟨u,rfl,rx⟩:=vals1 r;have hl:=line63;have hs:sizeLine=16777216:=sizeLine_eq;cases x with
 | str y =>
  obtain ⟨t,rfl⟩:=rx;obtain ⟨hy,e'⟩:y.length<=sizeLine/\n=y.length:=e;subst e';exact len_str (by omega) ⟨.int _,H,I.tok _,⟨_,rfl⟩,q⟩
 | byt y =>
  obtain ⟨t,rfl⟩:=rx;obtain ⟨hy,e'⟩:y.size<=sizeLine/\n=y.size:=e;subst e';exact PySem.W.len_bytes (by omega) ⟨.int _,H,I.tok _,⟨_,rfl⟩,q⟩
 | ref p =>
  cases rx;have e':(∃ xs,eZ X.K H p xs/\n=xs.length)\/∃ xs,dF X.K H p xs/\n=xs.length:=e;rcases e' with ⟨xs,hx,e'⟩ | ⟨xs,hx,e'⟩
  ·subst e';obtain ⟨its,r',pl,hz⟩:=I.list hx;have hlen:=r'.length;exact Calls.call_len_list pl.isList (by simp only [List.size_toArray];omega) ⟨.int xs.length,H,I.tok _,⟨_,by simp only [List.size_toArray];rw [hlen]⟩,q⟩
  ·subst e';obtain ⟨its,r',pl,hz⟩:=I.tuple hx;have hlen:=r'.length;exact len_tuple pl (by simp only [List.size_toArray];omega) ⟨.int xs.length,H,I.tok _,⟨_,by simp only [List.size_toArray];rw [hlen]⟩,q⟩
 | _=>exact (show False from e).elim
end
end L2
namespace L2
open PySem PySem.Spec PyProof.Rows
structure ahF (h:Heap) (x dx C:Addr) (mA:Str->Option Value):Prop where
 obj:h.get? x=some (PySem.W.instObj C dx)
 ns:h.Ns1 dx mA
 ne:dx≠x
theorem alJ {h:Heap} {dx:Addr} {mA:Str->Option Value} (n:h.Ns1 dx mA):∃ od,h.get? dx=some od/\∀ name,PySem.W.lookIn name od=some (mA name):=by
 obtain ⟨o,es,ep,ho,hd,hk,_,hm⟩:=n;refine ⟨o,ho,fun name=>?_⟩;have e:=hm name;unfold nsFind findBy at e;rw [<- Array.find?_toList] at e;unfold PySem.W.lookIn;rw [hd];dsimp only;split
 ·rename_i y q
  rw [q] at e;exact congrArg some e
 ·rename_i q
  rw [q] at e;have a:es.toList.any (·.refKey)=false:=by
   rw [List.any_eq_false];intro y hy;obtain ⟨z,t,hkey⟩:=hk y (Array.mem_toList_iff.mp hy);simp [DictEntry.refKey,hkey]
  have a':¬ es.toList.any (·.refKey)=true:=by rw [a];exact Bool.false_ne_true
  rw [if_neg a'];exact congrArg some e
theorem ahF.look {h:Heap} {x dx C:Addr} {mA:Str->Option Value} (I:ahF h x dx C mA):∃ od,PySem.W.InstAt h x (PySem.W.instObj C dx) C (some od)/\∀ name,PySem.W.lookIn name od=some (mA name) :=
 let ⟨od,ho,hl⟩:=alJ I.ns
 ⟨od,⟨I.obj,rfl,rfl,ho⟩,hl⟩
section
variable {prog:Program} {w:World} {A:Around} {E:Value->Shared->Prop} {s:Shared} {K:PySem.W.Frag} {x dx C f:Addr} {mA:Str->Option Value} {name:Str} {v:Value}
theorem ar7 {expr:Bool} {Q:Value->Shared->Prop} (X:K.In s.heap) (I:ahF s.heap x dx C mA) (hg:PySem.W.plainGet K C name=true) (hh:PySem.W.hasDictIn K C=true)
    (ha:PySem.W.findIn K (.ref C) name=some none) (hv:mA name=some v) (hv':PySem.W.handedIn v=true) (h:Q v {s with toks:=s.toks+1}) :
    wpAny (model prog w) A (getAttr (.ref x) name expr) Q E s:=by
  obtain ⟨od,J,hl⟩:=I.look;exact PySem.W.get_value X J (PySem.W.plainGet_of hg).1 (PySem.W.findObj_own hh ha rfl (by rw [hl,hv])) hv' h
theorem anT {pl:Sem Bool} {Q:Value×List Value->Shared->Prop} (X:K.In s.heap) (I:ahF s.heap x dx C mA) (hg:PySem.W.plainGet K C name=true)
    (hf:PySem.W.findIn K (.ref C) name=some (some (.ref f))) (ht:PySem.W.isFn K (.ref f)=true) (hv:mA name=none) (h:Q (.ref f,[.ref x]) s) :
    wpAny (model prog w) A (getMethod (.ref x) name pl) Q E s:=by
  obtain ⟨od,J,hl⟩:=I.look;exact PySem.W.method_fn X J (PySem.W.plainGet_of hg).1 (PySem.W.plainGet_of hg).2 hf (beq_iff_eq.mp ht) (by show (PySem.W.lookIn name od).map (·.isSome)=some false;rw [hl,hv];rfl) h
theorem aqX {ns:List Str} {Q:Unit->Shared->Prop} (X:K.In s.heap) (I:ahF s.heap x dx C mA)
    (hs:PySem.W.findIn K (.ref C) "__setattr__"=some (some (.builtin "object.__setattr__"))) (hp:PySem.W.plainOver K C=true) (ht:PySem.W.takerIn K C name=some none) (hh:PySem.W.hasDictIn K C=true)
    (hw:PySem.Within mA ns) (hsz:ns.length<=sizeLine)
    (h:∀ h',ahF h' x dx C (fun y=>if y=name then some v else mA y)->Heap.SameBut dx s.heap h'->Q () {s with heap:=h',toks:=s.toks+2}) :
    wpAny (model prog w) A (setAttr (.ref x) name v) Q E s:=by
  obtain ⟨od,J,hl⟩:=I.look;refine PySem.W.set_plain X J hs (PySem.W.osa_open (s:={s with toks:=s.toks+1}) (r:=none) X J hp ht fun b=>?_);obtain ⟨cd,hc,hd'⟩:=PySem.W.any_some hh;have hx:s.heap.get? x=some ⟨.ref C,some dx,.plain,#[]⟩:=I.obj;refine wpAny_bind (wpAny_pure (wpAny_bind (wpAny_bind (wpAny_loadPart hx (wpAny_bind (PySem.W.Looks.here (s:={s with toks:=s.toks+1}) (PySem.W.looks_clsIn X hc) ?_))))));rw [hd'];refine wpAny_pure (a:=some dx) (wpAny_bind (wpAny_pure (wpAny_bind ?_)));refine wpAny_nsSet1 (s:={s with toks:=s.toks+1}) I.ns fun h' hn2 hs2=>?_;obtain ⟨oD,esD,epD,hoD,hdD,hcD⟩:=hn2.count (PySem.Within.cons name v hw);refine wpAny_bind (wpAny_lookBehind hoD (by rw [hdD];exact pastItsLine_dict (Nat.le_trans hcD (by rw [List.length_cons];omega))) ?_);exact wpAny_pure (h _ ⟨(hs2.2 _ (Ne.symm I.ne)).trans I.obj,hn2,I.ne⟩ hs2)
theorem anI {R:Result->Shared->Prop} {vs:List Value} {kw:List (Str×Value)} (X:K.In s.heap) (hm:PySem.W.makesIn K C=true)
    (hi:PySem.W.findIn K (.ref C) "__init__"=some (some (.ref f))) (hf:PySem.W.typeIn K (.ref f)=some (.type "function"))
    (h:codeAny (model prog w) (A.under (.builtin "type.__call__" ⟨.ref C::vs,kw⟩)) (.call (.ref f) ⟨.ref (s.heap.objs.size+1)::vs,kw⟩) (PySem.W.InitBack (s.heap.objs.size+1) R)
      {s with heap:=(s.heap.push PySem.W.emptyDict).push (PySem.W.instObj C s.heap.objs.size)}) :
    codeAny (model prog w) A (.call (.ref C) ⟨vs,kw⟩) R s:=by
  obtain ⟨hh,g,d,t,os⟩:=s;exact PySem.W.make_core (PySem.W.makes_of X hm) (PySem.W.looks_findIn X hi) (fun self=>PySem.W.bind_fn X self hf) (.inl rfl) h
end
noncomputable def iL (f:Str) (v:V):List (Str×V)->List (Str×V)
 | []=>[(f,v)]
 | (g,x)::r=>if g=f then (g,v)::r else (g,x)::iL f v r
theorem vB (f g:Str) (v:V):∀ fs:List (Str×V),(iL f v fs).lookup g=if g=f then some v else fs.lookup g
 | []=>by
  show List.lookup g [(f,v)]=_;by_cases h:g=f
  ·have hb:(g == f)=true:=beq_iff_eq.mpr h;simp only [List.lookup,hb,if_pos h]
  ·have hb:(g == f)=false:=beq_eq_false_iff_ne.mpr h;simp only [List.lookup,hb,if_neg h]
 | (k,x)::r=>by
  have ih:=vB f g v r;rw [show iL f v ((k,x)::r)=(if k=f then (k,v)::r else (k,x)::iL f v r) from rfl];by_cases hk:k=f
  ·rw [if_pos hk];by_cases h:g=k
   ·have hb:(g == k)=true:=beq_iff_eq.mpr h;simp only [List.lookup,hb,if_pos (h.trans hk)]
   ·have hb:(g == k)=false:=beq_eq_false_iff_ne.mpr h;simp only [List.lookup,hb,if_neg (fun e:g=f=>h (e.trans hk.symm))]
  ·rw [if_neg hk];by_cases h:g=k
   ·have hb:(g == k)=true:=beq_iff_eq.mpr h;simp only [List.lookup,hb,if_neg (fun e:g=f=>hk (h.symm.trans e))]
   ·have hb:(g == k)=false:=beq_eq_false_iff_ne.mpr h;simp only [List.lookup,hb];exact ih
theorem tX (f:Str) (v:V):∀ fs:List (Str×V),f∈(iL f v fs).map (·.1)/\∀ g,g∈fs.map (·.1)->g∈(iL f v fs).map (·.1)
 | []=>⟨by simp [iL],fun g h=>by simp at h⟩
 | (k,x)::r=>by
  obtain ⟨i1,i2⟩:=tX f v r;rw [show iL f v ((k,x)::r)=(if k=f then (k,v)::r else (k,x)::iL f v r) from rfl];by_cases hk:k=f
  ·rw [if_pos hk];subst hk;exact ⟨by simp,fun g h=>by simpa using h⟩
  ·rw [if_neg hk];refine ⟨?_,fun g h=>?_⟩
   ·rw [List.map_cons];exact List.mem_cons_of_mem _ i1
   ·rw [List.map_cons] at h ⊢;rcases List.mem_cons.mp h with e | e
    ·exact List.mem_cons.mpr (.inl e)
    ·exact List.mem_cons_of_mem _ (i2 g e)
theorem u7 (f:Str) (v:V):∀ fs:List (Str×V),(iL f v fs).length<=fs.length+1
 | []=>by simp [iL]
 | (k,x)::r=>by
  have ih:=u7 f v r;rw [show iL f v ((k,x)::r)=(if k=f then (k,v)::r else (k,x)::iL f v r) from rfl];by_cases hk:k=f
  ·rw [if_pos hk,List.length_cons,List.length_cons];omega
  ·rw [if_neg hk,List.length_cons,List.length_cons];omega
theorem lA.some_of {v:V} {o:Option Value} (r:lA (some v) o):∃ u,o=some u/\bO v u:=by
 cases o with
 | none=>exact (show False from r).elim
 | some u=>exact ⟨u,rfl,r⟩
theorem lA.none_of {o:Option Value} (r:lA none o):o=none:=by
 cases o with
 | none=>rfl
 | some u=>exact (show False from r).elim
theorem al8 {v:V} {u:Value} (r:bO v u):PySem.W.handedIn u=true:=by
 cases v with
 | non=>cases (show u=Value.none from r);rfl
 | bl b=>cases (show u=Value.bool b from r);rfl
 | int i=>obtain ⟨t,e⟩:=(show ∃ t,u=Value.int i t from r);cases e;rfl
 | str x=>obtain ⟨t,e⟩:=(show ∃ t,u=Value.str x t from r);cases e;rfl
 | byt b=>obtain ⟨t,e⟩:=(show ∃ t,u=Value.bytes b t from r);cases e;rfl
 | flt b=>obtain ⟨t,e⟩:=(show ∃ t,u=Value.float b t from r);cases e;rfl
 | ref a=>cases (show u=Value.ref a from r);rfl
 | ty n=>cases (show u=Value.type n from r);rfl
section
variable {P:Program} {w:World} {H H':Hp} {h h':Heap} {a C dx:Addr} {fs fs':List (Str×V)}
theorem adN (hok:HOk P w H h) (e:H a=some (.ins C dx fs)):∃ mA,ahF h a dx C mA/\(∀ f,lA (fs.lookup f) (mA f))/\PySem.Within mA (fs.map (·.1))/\fs.length<=1000/\H dx=some (.own a):=by
 obtain ⟨d,z,ne,ob,mA,n,r,q⟩:=(show dM P w H h a (.ins C dx fs) from hok a _ e);exact ⟨mA,⟨ob,n,ne⟩,r,q,z,d⟩
end
structure Cls (K:PySem.W.Frag) (C:Addr):Prop where
 pg:PySem.W.plainGet K C Str.empty=true
 hd:PySem.W.hasDictIn K C=true
 po:PySem.W.plainOver K C=true
 sa:PySem.W.findIn K (.ref C) "__setattr__"=some (some (.builtin "object.__setattr__"))
theorem Cls.get {K:PySem.W.Frag} {C:Addr} (c:Cls K C) (f:Str):PySem.W.plainGet K C f=true:=c.pg
noncomputable def eA (K:PySem.W.Frag) (C:Addr) (f:Str):Prop:=PySem.W.findIn K (.ref C) f=some none
theorem eA.taker {K:PySem.W.Frag} {C:Addr} {f:Str} (n:eA K C f):PySem.W.takerIn K C f=some none:=by
 unfold PySem.W.takerIn;rw [show PySem.W.findIn K (.ref C) f=some none from n];rfl
structure Meth (K:PySem.W.Frag) (C:Addr) (m:Str) (f:Addr):Prop where
 at_:PySem.W.findIn K (.ref C) m=some (some (.ref f))
 fn:PySem.W.isFn K (.ref f)=true
 kp:PySem.W.keepIn K (.ref f)=true
section
variable {X:Cx} {pins:List (Addr×Obj)} {σ:St} {H:Hp} {s:Shared} {a C dx:Addr} {fs:List (Str×V)} {f:Str} {v:V} {A:Around} {E:Value->Shared->Prop}
theorem zE {b:Bool} {Q:Value->Shared->Prop} (I:Inv X pins σ H s) (e:H a=some (.ins C dx fs)) (c:Cls X.K C) (n:eA X.K C f) (l:fs.lookup f=some v)
    (h:∀ u s',Inv X pins σ H s'->bO v u->Q u s'):wpAny (model X.prog X.w) A (getAttr (.ref a) f b) Q E s:=by
  obtain ⟨mA,O,r,_,_,_⟩:=adN I.hok e;obtain ⟨u,hu,ru⟩:=lA.some_of (v:=v) (o:=mA f) (by rw [<- l];exact r f);exact ar7 I.kIn O (c.get f) c.hd n hu (al8 ru) (h u _ (I.tok _) ru)
theorem zJ {m:Str} {g:Addr} {pl:Sem Bool} {Q:Value×List Value->Shared->Prop} (I:Inv X pins σ H s) (e:H a=some (.ins C dx fs)) (c:Cls X.K C) (k:Meth X.K C m g) (l:fs.lookup m=none)
    (h:Q (.ref g,[.ref a]) s):wpAny (model X.prog X.w) A (getMethod (.ref a) m pl) Q E s:=by
  obtain ⟨mA,O,r,_,_,_⟩:=adN I.hok e;have hn:mA m=none:=lA.none_of (by rw [<- l];exact r m);exact anT I.kIn O (c.get m) k.at_ k.fn hn h
theorem aaQ {y:V} {u:Value} {Q:Unit->Shared->Prop} (I:Inv X pins σ H s) (e:H a=some (.ins C dx fs)) (c:Cls X.K C) (n:eA X.K C f) (hl:fs.length < 1000) (ry:bO y u)
    (h:∀ s',Inv X pins σ (upd H a (.ins C dx (iL f y fs))) s'->Q () s'):wpAny (model X.prog X.w) A (setAttr (.ref a) f u) Q E s:=by
  obtain ⟨mA,O,r,wi,_,ho⟩:=adN I.hok e;have hz:(fs.map (·.1)).length<=sizeLine:=by rw [List.length_map,sizeLine_eq];omega
  refine aqX I.kIn O c.sa c.po n.taker c.hd wi hz fun h' O' sb=>h _ ?_;have hd:∃ o,h'.get? dx=some o:=let ⟨o,_,_,e',_⟩:=O'.ns;⟨o,e'⟩;refine I.write (x:=a) (e:=dx) (by rw [e];exact True.intro) (.inr ho) (fun b q hb z=>(sb.2 b hb).trans z) hd ?_;refine ⟨by rw [aI O.ne];exact ho,?_,O.ne,O'.obj,_,O'.ns,fun g=>?_,fun g hg=>?_⟩
  · have:=u7 f y fs;omega
  · show lA ((iL f y fs).lookup g) (if g=f then some u else mA g);rw [vB];by_cases q:g=f
    · rw [if_pos q,if_pos q];exact ry
    · rw [if_neg q,if_neg q];exact r g
  · by_cases q:g=f
    · rw [q];exact (tX f y fs).1
    · refine (tX f y fs).2 g (wi g fun z=>hg ?_);show (if g=f then some u else mA g)=none;rw [if_neg q];exact z
theorem Inv.made (I:Inv X pins σ H s):Inv X pins σ (upd (upd H s.heap.objs.size (.own (s.heap.objs.size+1))) (s.heap.objs.size+1) (.ins C s.heap.objs.size []))
    {s with heap:=(s.heap.push PySem.W.emptyDict).push (PySem.W.instObj C s.heap.objs.size)}:=by
  have e1:(s.heap.push PySem.W.emptyDict).get? s.heap.objs.size=some PySem.W.emptyDict:=Heap.get?_push_size s.heap rfl;have e2:((s.heap.push PySem.W.emptyDict).push (PySem.W.instObj C s.heap.objs.size)).get? (s.heap.objs.size+1)=some (PySem.W.instObj C s.heap.objs.size):=by
    have:=Heap.get?_push_size (s.heap.push PySem.W.emptyDict) (o:=PySem.W.instObj C s.heap.objs.size) rfl
    rwa [Heap.size_push] at this
  have e3:(s.heap.push PySem.W.emptyDict).Ns s.heap.objs.size (fun _=>none):=⟨PySem.W.emptyDict,#[],_,e1,rfl,(fun e he=>absurd he (by simp)),fun _=>rfl⟩;have I1:=I.laid (a:=s.heap.objs.size) (o:=.own (s.heap.objs.size+1)) (h':=s.heap.push PySem.W.emptyDict) (t':=s.toks) (fun b u q=>Heap.get?_push_of_some _ q) (Nat.le_refl _) ⟨_,e1⟩;refine I1.laid (a:=s.heap.objs.size+1) (o:=.ins C s.heap.objs.size []) (t':=s.toks) (fun b u q=>Heap.get?_push_of_some _ q) (Nat.le_of_eq (Heap.size_push _ _)) ?_;have ne:s.heap.objs.size≠s.heap.objs.size+1:=Nat.ne_of_lt (Nat.lt_succ_self _);refine ⟨by rw [aI ne,aA],Nat.zero_le _,ne,e2,fun _=>none,(Heap.Ns1.of_empty e3).at fun o q=>Heap.get?_push_of_some _ q,fun _=>True.intro,fun y hy=>absurd rfl hy⟩
theorem asR {prog:Program} {w:World} {env:Env} {e:Expr} {f:Str} {pos:Pos} {s:Shared} {Q:Value->Shared->Prop} (hb:attributeBase e f env (eval e env)=eval e env)
    (h:wpAny (model prog w) A (eval e env) (fun o s₁=>wpAny (model prog w) A (getAttr o f true) Q E s₁) E s):wpAny (model prog w) A (eval (.Attribute e f pos) env) Q E s :=
  Attribute_any_ h (by rw [arm_eval_Attribute,hb])
end
noncomputable def aB4 (X:Cx) (op:Operator) (rd:V->V->Hp->VK->Prop):Prop :=
 ∀(pins:List (Addr×Obj)) (s:Shared) (σ:St) (H:Hp) (x y:V) (u v:Value) (Q:VK),Inv X pins σ H s->bO x u->bO y v->rd x y H Q->wpAny (model X.prog X.w) X.A (inplaceOp op u v) (EP X pins σ Q) X.xe s
section
variable {X:Cx} {o e value:Expr} {f:Str} {pos pos' tpos:Pos} {ta tv:TE}
noncomputable def aB3:V->V->Hp->VK->Prop:=fun x y H Q=>∃ i j,x=.int i/\y=.int j/\Q (.int (i+j)) H
theorem axP:aB4 X .Add aB3:=by
 rintro pins s σ H x y u v Q I rx ry ⟨i,j,rfl,rfl,q⟩;obtain ⟨t,rfl⟩:=(show ∃ t,u=Value.int i t from rx);obtain ⟨t',rfl⟩:=(show ∃ t',v=Value.int j t' from ry);exact PyProof.Rows.iadd_int ⟨.int (i+j),H,I.tok _,⟨_,rfl⟩,q⟩
end
section
variable {X:Cx} {pins:List (Addr×Obj)} {σ:St} {H:Hp} {s:Shared} {A:Around} {E:Value->Shared->Prop} {Q:Value->Shared->Prop} {c:Value} {b:Bool}
end
end L2
namespace L2
open PySem PySem.Spec PyProof.Rows
structure Room (k:Nat) (A:Around):Prop where
 hd:A.handled=none
 dp:A.depth+3 * k+5 < recursionLimit
 un:A.units+16 * k+200 < cLine
theorem Room.mono {j k:Nat} {A:Around} (r:Room k A) (h:j<=k):Room j A:=⟨r.hd,by have:=r.dp;omega,by have:=r.un;omega⟩
theorem Room.deeper {k:Nat} {A:Around} (r:Room (k+1) A) (env:Env):Room k (A.deeper env) :=
 ⟨r.hd,by have:=r.dp;show A.depth+1+3 * k+5 < _;omega,by have:=r.un;show A.units+3+16 * k+200 < _;omega⟩
theorem aiU {A:Around} {C:Addr} {us:List Value} {kw:List (Str×Value)}:(A.under (.builtin "type.__call__" ⟨.ref C::us,kw⟩)).depth=A.depth+1:=by
 first | rfl | simp [Around.under,Code.weight,Code.isCreation,Code.isGuard,Code.isCaller,Code.frames,Code.isFrame,guardIds]
theorem aiG {A:Around} {C:Addr} {us:List Value} {kw:List (Str×Value)}:(A.under (.builtin "type.__call__" ⟨.ref C::us,kw⟩)).units=A.units+1:=by
 first | rfl | simp [Around.under,Code.cUnits,Code.frames,Code.isFrame]
theorem Room.make {k:Nat} {A:Around} (r:Room (k+1) A) (C:Addr) (us:List Value) (kw:List (Str×Value)):Room k (A.under (.builtin "type.__call__" ⟨.ref C::us,kw⟩)) :=
 ⟨r.hd,by have:=r.dp;rw [aiU];omega,by have:=r.un;rw [aiG];omega⟩
theorem Room.depth {k:Nat} {A:Around} (r:Room k A):A.depth < recursionLimit:=by have:=r.dp;omega
theorem Room.units {k:Nat} {A:Around} (r:Room k A):A.units+64 < cLine:=by have:=r.un;omega
noncomputable def agU:TA:=fun _ H Q=>Q [] H
noncomputable def afN (ta:TE) (tr:TA):TA:=fun σ H Q=>ta σ H fun x H1=>tr σ H1 fun xs H2=>Q (x::xs) H2
section
variable {X:Cx} {e:Expr} {es:List Expr} {te:TE} {t:TA} {pos:Pos}
theorem aB:PA X [] agU:=fun _ _ _ _ H Q I h=>Calls.spliced_nil ⟨[],H,I,.nil,h⟩
theorem aj6 (ha:PE X e te) (hr:PA X es t) (hs:starEach (e::es) X.env=(false,eval e X.env)::starEach es X.env:=by rfl):PA X (e::es) (afN te t):=by
 intro pos pins s σ H Q I h;rw [hs];show wpAny _ _ (spliced ((false,eval e X.env)::backTo pos (starEach es X.env))) _ _ s;refine Calls.spliced_cons (thn (ha pins s σ H _ I h) fun u s1 ⟨x,H1,I1,r1,q1⟩=>?_);exact thn (hr pos pins s1 σ H1 _ I1 q1) fun us s2 ⟨xs,H2,I2,r2,q2⟩=>⟨x::xs,H2,I2,.cons r1 r2,q2⟩
noncomputable def aAL (t:TA):TE:=fun σ H Q=>t σ H fun xs H1=>xs.length<=sizeLine/\∀ p,H1 p=none->Q (.ref p) (upd H1 p (.tup xs))
noncomputable def aA0 (t:TA):TE:=fun σ H Q=>t σ H fun xs H1=>xs.length<=sizeLine/\∀ p,H1 p=none->Q (.ref p) (upd H1 p (.lst xs))
theorem bD {x1} (h:PA X es t):PE X (.Tuple es x1 pos) (aAL t):=by
 intro pins s σ H Q I hq;refine wpAny_Tuple_spliced (thn (h pos pins s σ H _ I hq) fun us s1 ⟨xs,H1,I1,r,z,q⟩=>⟨by rw [<- r.length];exact z,?_⟩);have hf:H1 s1.heap.objs.size=none:=I1.hok.fresh (Nat.le_refl _);refine ⟨.ref s1.heap.objs.size,upd H1 s1.heap.objs.size (.tup xs),I1.laid (t':=s1.toks) (fun b u e=>Heap.get?_push_of_some _ e) (Nat.le_refl _) ?_,rfl,q _ hf⟩;exact ⟨z,us,r,⟨_,Heap.get?_push_size _ rfl,rfl,_,rfl⟩⟩
theorem bE (h:PA X es t):PE X (.List es pos) (aA0 t):=by
 intro pins s σ H Q I hq;refine wpAny_List_spliced (thn (h pos pins s σ H _ I hq) fun us s1 ⟨xs,H1,I1,r,z,q⟩=>⟨by rw [<- r.length];exact z,?_⟩);have hf:H1 s1.heap.objs.size=none:=I1.hok.fresh (Nat.le_refl _);refine ⟨.ref s1.heap.objs.size,upd H1 s1.heap.objs.size (.lst xs),I1.laid (t':=s1.toks) (fun b u e=>Heap.get?_push_of_some _ e) (Nat.le_refl _) ?_,rfl,q _ hf⟩;exact ⟨z,us,0,r,Heap.get?_push_size _ rfl⟩
end
noncomputable abbrev Sp:=List V->Hp->VK->XK->Prop
noncomputable abbrev CXT:=List Env->Hp->Shared->XK->Value->Shared->Prop
structure Env0 (P:Program) (w:World) (K:PySem.W.Frag) (mg:Str->Option Value) (base:Heap) (A:Around) (outer:List Env) (s:Shared) (H:Hp):Prop where
 frames:A.frames=some outer
 mod:Mod K mg base
 bs:∀ b o,base.get? b=some o->s.heap.get? b=some o/\H b=none
 bsz:base.objs.size<=s.heap.objs.size
 funs:s.heap.FunFrames base outer
 frf:∀ b∈frs outer,H b=none
 hok:HOk P w H s.heap
 bare:AllBare s.gens
noncomputable def CE (outer:List Env) (P:Program) (w:World) (H:Hp) (s:Shared) (Q:VK) (u:Value) (s':Shared):Prop :=
 ∃ v H',s'.os=s.os/\AllBare s'.gens/\Un (frs outer) [] H H' s.heap s'.heap/\HOk P w H' s'.heap/\bO v u/\Q v H'
noncomputable def CR (CX:CXT) (outer:List Env) (P:Program) (w:World) (H:Hp) (s:Shared) (Q:VK) (E:XK) (r:Result) (s':Shared):Prop :=
 match r with
 | .ok (.ret u)=>CE outer P w H s Q u s'
 | .ok _=>False
 | .error e=>CX outer H s E e s'
structure bK (P:Program) (w:World) (K:PySem.W.Frag) (mg:Str->Option Value) (base:Heap) (CX:CXT) (k:Nat) (f:Addr) (fd:FuncData) (ps:List Str) (sp:Sp):Prop where
 len:∀ vs H Q E,sp vs H Q E->vs.length=ps.length
 run:∀(A:Around) (outer:List Env) (s:Shared) (H:Hp) (args:Args) (us:List Value) (vs:List V) (Q:VK) (E:XK),Room k A->Env0 P w K mg base A outer s H->BindsTo s fd args (ps.zip us)->Vals vs us->sp vs H Q E ->
  codeAny (model P w) A (.call (.ref f) args) (CR CX outer P w H s Q E) s
theorem bK.mono {P:Program} {w:World} {K:PySem.W.Frag} {mg:Str->Option Value} {base:Heap} {CX:CXT} {j k:Nat} {f:Addr} {fd:FuncData} {ps:List Str} {sp:Sp} (F:bK P w K mg base CX j f fd ps sp) (h:j<=k) :
    bK P w K mg base CX k f fd ps sp:=⟨F.len,fun A outer s H args us vs Q E hr=>F.run A outer s H args us vs Q E (hr.mono h)⟩
theorem Env0.make {P:Program} {w:World} {K:PySem.W.Frag} {mg:Str->Option Value} {base:Heap} {A:Around} {outer:List Env} {s:Shared} {H:Hp} (e:Env0 P w K mg base A outer s H) (C:Addr) (us:List Value) (kw:List (Str×Value)) :
    Env0 P w K mg base (A.under (.builtin "type.__call__" ⟨.ref C::us,kw⟩)) outer s H:=⟨by first | exact e.frames | (simpa [Around.under,Code.envs,Code.isFrame,pushEnvs] using e.frames),e.mod,e.bs,e.bsz,e.funs,e.frf,e.hok,e.bare⟩
section
variable {X:Cx} {pins:List (Addr×Obj)} {σ:St} {H:Hp} {s s':Shared}
theorem Inv.env0 (I:Inv X pins σ H s):Env0 X.prog X.w X.K X.mg X.base X.A X.stack s H :=
 ⟨I.ok.frames,I.ok.mod,I.bs,Nat.le_trans I.ok.bsz I.sz,I.stack,I.stkFree,I.hok,I.bare⟩
theorem Inv.after {Q:VK} {u:Value} (I:Inv X pins σ H s) (h:CE X.stack X.prog X.w H s Q u s'):EP X pins σ Q u s':=by
 obtain ⟨v,H',os,bare,un,hok,r,q⟩:=h;obtain ⟨hh,g,d,t,os'⟩:=s';obtain rfl:os'=s.os:=os;exact ⟨v,H',I.call (h':=hh) (g':=g) (d':=d) (t':=t) (ch:=[]) un hok bare (fun b z=>absurd z (by simp)),r,q⟩
end
noncomputable def aoU (sp:Sp) (dvs:List V) (E:XK) (t:TA):TE:=fun σ H Q=>t σ H fun vs H1=>sp (vs++dvs) H1 Q E
noncomputable def aeW (C:Addr) (m:Str) (sp:Sp) (dvs:List V) (E:XK) (ta:TE) (t:TA):TE:=fun σ H Q=>ta σ H fun x H1=>∃ a dx fs,x=.ref a/\H1 a=some (.ins C dx fs)/\fs.lookup m=none /\
 t σ H1 fun vs H2=>sp (x::(vs++dvs)) H2 Q E
noncomputable def akN (C:Addr) (sp:Sp) (dvs:List V) (E:XK) (t:TA):TE:=fun σ H Q=>t σ H fun vs H1=>∀ x dx,H1 x=none->H1 dx=none->dx≠x ->
 sp (.ref x::(vs++dvs)) (upd (upd H1 dx (.own x)) x (.ins C dx [])) (fun v H2=>v=.non/\Q (.ref x) H2) E
noncomputable def Binds (K:PySem.W.Frag) (fd:FuncData) (ps:List Str) (ds:List Value):Prop :=
 ∀(s:Shared) (us:List Value),K.In s.heap->(us++ds).length=ps.length->BindsTo s fd ⟨us,[]⟩ (ps.zip (us++ds))
theorem Binds.all {K:PySem.W.Frag} {fd:FuncData} {ps:List Str} (h:∀ us:List Value,us.length=ps.length->bindArgs fd ⟨us,[]⟩=pure (ps.zip us)):Binds K fd ps []:=fun s us _ hl=>by
 rw [List.append_nil] at hl ⊢;exact .of_eq (h us hl)
noncomputable def Passes (CX:CXT) (X:Cx) (E:XK):Prop:=∀(pins:List (Addr×Obj)) (σ:St) (H:Hp) (s:Shared) (e:Value) (s':Shared),Inv X pins σ H s->CX X.stack H s E e s'->X.xe e s'
section
variable {X:Cx} {CX:CXT} {k:Nat} {f C:Addr} {fd:FuncData} {ps:List Str} {sp:Sp} {dvs:List V} {ds:List Value} {E:XK} {x m:Str} {p pos apos:Pos} {e o:Expr} {es:List Expr} {ta:TE} {t:TA}
theorem aeC {pins:List (Addr×Obj)} {σ:St} {H:Hp} {s:Shared} {Q:VK} {us:List Value} {vs:List V} (F:bK X.prog X.w X.K X.mg X.base CX k f fd ps sp) (hr:Room k X.A) (hb:Binds X.K fd ps ds) (hd:Vals dvs ds) (hx:Passes CX X E)
    (I:Inv X pins σ H s) (r:Vals vs us) (h:sp (vs++dvs) H Q E):wpAny (model X.prog X.w) X.A (call (.ref f) us) (EP X pins σ Q) X.xe s:=by
  have r2:Vals (vs++dvs) (us++ds):=r.append hd;have hl:(us++ds).length=ps.length:=by rw [<- r2.length];exact F.len _ _ _ _ h
  refine wpAny_call (codeAny_mono (F.run X.A X.stack s H ⟨us,[]⟩ (us++ds) (vs++dvs) Q E hr I.env0 (hb s us I.kIn hl) r2 h) fun r s' hq=>?_);cases r with
  | error e=>exact hx pins σ H s e s' I hq
  | ok fl =>
    cases fl with
    | ret u=>exact I.after hq
    | next=>exact False.elim hq
    | brk=>exact False.elim hq
    | cont=>exact False.elim hq
theorem aN (F:bK X.prog X.w X.K X.mg X.base CX k f fd ps sp) (hr:Room k X.A) (hg:Gl X x) (hm:X.mg x=some (.ref f)) (hk:PySem.W.keepIn X.K (.ref f)=true) (hb:Binds X.K fd ps ds) (hd:Vals dvs ds) (hx:Passes CX X E)
    (ha:PA X (e::es) t) (hdb:(x == ("__debug__":Str))=false:=by decide) (he:starEach (e::es) X.env=(false,eval e X.env)::starEach es X.env:=by rfl) (hpl:(backTo pos (starEach es X.env)).any (·.1)=false:=by rfl) :
    PE X (.Call (.Name x p) (e::es) [] pos) (aoU sp dvs E t):=by
  intro pins s σ H Q I h;refine wpAny_Call_Name_kw (wD I hg hm ?_ hdb);refine PySem.W.callWith_K (h₀:=X.base) I.ok.mod.kin hk (thn (ha pos pins s σ H _ I h) fun us s1 ⟨vs,H1,I1,r,q⟩=>⟨I1.kIn,?_⟩) he hpl;exact aeC F hr hb hd hx I1 r q
theorem bQ {pl:Sem Bool} (he:PE X o ta) (c:Cls X.K C) (hm:Meth X.K C m f) (F:bK X.prog X.w X.K X.mg X.base CX k f fd ps sp) (hr:Room k X.A) (hb:Binds X.K fd ps ds) (hd:Vals dvs ds) (hx:Passes CX X E) (ha:PA X (e::es) t)
    (hst:starEach (e::es) X.env=(false,eval e X.env)::starEach es X.env:=by rfl) (hpl:(backTo pos (starEach es X.env)).any (·.1)=false:=by rfl)
    (ht:eval (.Call (.Attribute o m apos) (e::es) [] pos) X.env=(do
      let ov <- eval o X.env
      standAt apos.atName
      let (f,first) <- holding [ov] (getMethod ov m pl)
      callWith pos f first (backTo pos (starEach (e::es) X.env)) (backToKw pos (keywordEach [] X.env))):=by rfl) :
    PE X (.Call (.Attribute o m apos) (e::es) [] pos) (aeW C m sp dvs E ta t):=by
  intro pins s σ H Q I h;refine PySem.W.methodCall_KW (pl:=pl) (thn (he pins s σ H _ I h) fun u s1 ⟨x,H1,I1,rx,a,dx,fs,ex,ea,l,q⟩=>?_) ht;subst ex;obtain rfl:u=Value.ref a:=rx;refine zJ I1 ea c hm l ?_;refine PySem.W.callWith_K (first:=[.ref a]) (h₀:=X.base) I.ok.mod.kin hm.kp (thn (ha pos pins s1 σ H1 _ I1 q) fun us s2 ⟨vs,H2,I2,r,q2⟩=>⟨I2.kIn,?_⟩) hst hpl;exact aeC (us:=.ref a::us) (vs:=.ref a::vs) F hr hb hd hx I2 (.cons rfl r) q2
theorem bX {pl:Sem Bool} (he:PE X o ta) (c:Cls X.K C) (hm:Meth X.K C m f) (F:bK X.prog X.w X.K X.mg X.base CX k f fd ps sp) (hr:Room k X.A) (hb:Binds X.K fd ps ds) (hd:Vals dvs ds) (hx:Passes CX X E)
    (ht:eval (.Call (.Attribute o m apos) [] [] pos) X.env=(do
      let ov <- eval o X.env
      standAt apos.atName
      let (f,first) <- holding [ov] (getMethod ov m pl)
      callWith pos f first (backTo pos (starEach [] X.env)) (backToKw pos (keywordEach [] X.env))):=by rfl) :
    PE X (.Call (.Attribute o m apos) [] [] pos) (aeW C m sp dvs E ta agU):=by
  intro pins s σ H Q I h;refine PySem.W.methodCall_KW (pl:=pl) (thn (he pins s σ H _ I h) fun u s1 ⟨x,H1,I1,rx,a,dx,fs,ex,ea,l,q⟩=>?_) ht;subst ex;obtain rfl:u=Value.ref a:=rx;refine zJ I1 ea c hm l ?_;exact PySem.W.callWith_K0 (first:=[.ref a]) I1.kIn hm.kp (aeC (us:=[.ref a]) (vs:=[.ref a]) F hr hb hd hx I1 (.cons rfl .nil) q)
structure Mk (K:PySem.W.Frag) (C f:Addr):Prop where
 makes:PySem.W.makesIn K C=true
 init:PySem.W.findIn K (.ref C) "__init__"=some (some (.ref f))
 fn:PySem.W.isFn K (.ref f)=true
 kp:PySem.W.keepIn K (.ref C)=true
theorem aeM {pins:List (Addr×Obj)} {σ:St} {H:Hp} {s:Shared} {Q:VK} {us:List Value} {vs:List V} (M:Mk X.K C f) (F:bK X.prog X.w X.K X.mg X.base CX k f fd ps sp) (hr:Room (k+1) X.A) (hb:Binds X.K fd ps ds) (hd:Vals dvs ds)
    (hx:Passes CX X E) (I:Inv X pins σ H s) (r:Vals vs us)
    (h:∀ x dx,H x=none->H dx=none->dx≠x->sp (.ref x::(vs++dvs)) (upd (upd H dx (.own x)) x (.ins C dx [])) (fun v H2=>v=.non/\Q (.ref x) H2) E) :
    wpAny (model X.prog X.w) X.A (call (.ref C) us) (EP X pins σ Q) X.xe s:=by
  have hq:=h (s.heap.objs.size+1) s.heap.objs.size (I.hok.fresh (Nat.le_succ _)) (I.hok.fresh (Nat.le_refl _)) (Nat.ne_of_lt (Nat.lt_succ_self _));have I2:=Inv.made (C:=C) I;have r2:Vals (V.ref (s.heap.objs.size+1)::(vs++dvs)) (Value.ref (s.heap.objs.size+1)::(us++ds)):=.cons rfl (r.append hd);have hl:(Value.ref (s.heap.objs.size+1)::us++ds).length=ps.length:=by
    have e:=r2.length;rw [F.len _ _ _ _ hq] at e;exact e.symm
  refine wpAny_call (anI (f:=f) I.kIn M.makes M.init (beq_iff_eq.mp M.fn) (codeAny_mono (F.run _ X.stack _ _ ⟨Value.ref (s.heap.objs.size+1)::us,[]⟩ (Value.ref (s.heap.objs.size+1)::(us++ds)) _ _ E (hr.make C us [])
    (I2.env0.make C us []) (hb _ (Value.ref (s.heap.objs.size+1)::us) I2.kIn hl) r2 hq) fun r s' hq'=>?_))
  cases r with
  | error e=>exact hx pins σ _ _ e s' I2 hq'
  | ok fl =>
    cases fl with
    | ret u =>
      obtain ⟨v,H',I3,rv,ev,q3⟩:=I2.after hq';subst ev;exact ⟨rv,⟨V.ref (s.heap.objs.size+1),H',I3,rfl,q3⟩⟩
    | next=>exact False.elim hq'
    | brk=>exact False.elim hq'
    | cont=>exact False.elim hq'
theorem adX (M:Mk X.K C f) (F:bK X.prog X.w X.K X.mg X.base CX k f fd ps sp) (hr:Room (k+1) X.A) (hg:Gl X x) (hm:X.mg x=some (.ref C)) (hb:Binds X.K fd ps ds) (hd:Vals dvs ds) (hx:Passes CX X E)
    (ha:PA X (e::es) t) (hdb:(x == ("__debug__":Str))=false:=by decide) (he:starEach (e::es) X.env=(false,eval e X.env)::starEach es X.env:=by rfl) (hpl:(backTo pos (starEach es X.env)).any (·.1)=false:=by rfl) :
    PE X (.Call (.Name x p) (e::es) [] pos) (akN C sp dvs E t):=by
  intro pins s σ H Q I h;refine wpAny_Call_Name_kw (wD I hg hm ?_ hdb);refine PySem.W.callWith_K (h₀:=X.base) I.ok.mod.kin M.kp (thn (ha pos pins s σ H _ I h) fun us s1 ⟨vs,H1,I1,r,q⟩=>⟨I1.kIn,?_⟩) he hpl;exact aeM M F hr hb hd hx I1 r q
theorem ap0 (M:Mk X.K C f) (F:bK X.prog X.w X.K X.mg X.base CX k f fd ps sp) (hr:Room (k+1) X.A) (hg:Gl X x) (hm:X.mg x=some (.ref C)) (hb:Binds X.K fd ps ds) (hd:Vals dvs ds) (hx:Passes CX X E)
    (hdb:(x == ("__debug__":Str))=false:=by decide):PE X (.Call (.Name x p) [] [] pos) (akN C sp dvs E agU):=by
  intro pins s σ H Q I h;refine wpAny_Call_Name_kw (wD I hg hm ?_ hdb);exact PySem.W.callWith_K0 I.kIn M.kp (aeM (us:=[]) M F hr hb hd hx I .nil h)
end
section
variable {X:Cx} {CX:CXT} {k:Nat} {f C:Addr} {fd:FuncData} {ps ks:List Str} {sp:Sp} {E:XK} {x m:Str} {p pos apos kpos:Pos} {e o:Expr} {es:List Expr} {kws:List Keyword} {te ta:TE} {t tk:TA} {nm:Option Str}
variable {g:List Value->List Value->List Value} {gV:List V->List V->List V}
end
structure aR (N P:List Str) (sc:Scope):Prop where
 kind:sc.kind=.function
 co:sc.isCoroutine=false
 gen:sc.isGenerator=false
 nd:N.Nodup
 pre:N.take P.length=P
 par:∀ x∈P,sc.names.lookup x=some .local\/sc.names.lookup x=some .cell
 nofree:∀ y∈sc.names,y.2≠.free
theorem abL {kindOf:Str->Option NameKind} {x:Str}:∀ {binds:List (Str×Value)} {m:Str->Option Value},(∀ v,(x,v)∉binds)->bindL kindOf binds m x=m x
 | [],_,_=>rfl
 | (n,v)::r,m,h=>by
  unfold bindL;rw [abL fun w hw=>h w (List.mem_cons_of_mem _ hw)];split
  ·have:x≠n:=by rintro rfl;exact h v List.mem_cons_self
   simp [this]
  ·rfl
theorem ab8 {kindOf:Str->Option NameKind} {x:Str}:∀ {binds:List (Str×Value)} {m:Str->Option Value},(∀ v,(x,v)∉binds)->bindC kindOf binds m x=m x
 | [],_,_=>rfl
 | (n,v)::r,m,h=>by
  unfold bindC;rw [ab8 fun w hw=>h w (List.mem_cons_of_mem _ hw)];split
  ·rfl
  ·have:x≠n:=by rintro rfl;exact h v List.mem_cons_self
   simp [this]
theorem acB {kindOf:Str->Option NameKind} {x:Str} {v:Value}:∀ {P:List Str} {vs:List Value} {i:Nat} {m:Str->Option Value},P.Nodup->P[i]?=some x->vs[i]?=some v->kindOf x=some .local ->
    bindL kindOf (P.zip vs) m x=some v
  | [],_,_,_,_,h,_,_=>by simp at h
  | _::_,[],_,_,_,_,h,_=>by simp at h
  | p::P,w::vs,0,m,nd,h1,h2,hk=>by
    simp at h1 h2;subst h1;subst h2;show bindL kindOf ((p,w)::P.zip vs) m p=_;unfold bindL;rw [abL fun v hv=>(List.nodup_cons.mp nd).1 (List.of_mem_zip hv).1,if_pos hk];simp
  | p::P,w::vs,i+1,m,nd,h1,h2,hk=>by
    show bindL kindOf ((p,w)::P.zip vs) m x=_;unfold bindL;exact acB (i:=i) (List.nodup_cons.mp nd).2 (by simpa using h1) (by simpa using h2) hk
theorem abQ {kindOf:Str->Option NameKind} {x:Str} {v:Value}:∀ {P:List Str} {vs:List Value} {i:Nat} {m:Str->Option Value},P.Nodup->P[i]?=some x->vs[i]?=some v->kindOf x≠some .local ->
    bindC kindOf (P.zip vs) m x=some v
  | [],_,_,_,_,h,_,_=>by simp at h
  | _::_,[],_,_,_,_,h,_=>by simp at h
  | p::P,w::vs,0,m,nd,h1,h2,hk=>by
    simp at h1 h2;subst h1;subst h2;show bindC kindOf ((p,w)::P.zip vs) m p=_;unfold bindC;rw [ab8 fun v hv=>(List.nodup_cons.mp nd).1 (List.of_mem_zip hv).1,if_neg hk];simp
  | p::P,w::vs,i+1,m,nd,h1,h2,hk=>by
    show bindC kindOf ((p,w)::P.zip vs) m x=_;unfold bindC;exact abQ (i:=i) (List.nodup_cons.mp nd).2 (by simpa using h1) (by simpa using h2) hk
noncomputable def start (N:List Str) (vs:List V):St:=vs.map some++List.replicate (N.length - vs.length) none
noncomputable def agG (CX:CXT) (P:Program) (w:World) (K:PySem.W.Frag) (mg:Str->Option Value) (base:Heap) (N:List Str) (qual:Str) (scope:Scope) (f:Addr) (cd:Value) (A:Around) (outer:List Env) (s:Shared) (H:Hp) (E:XK):Cx where
 prog:=P
 w:=w
 K:=K
 mg:=mg
 base:=base
 A:=A.deeper (envOfC qual scope s.heap.objs.size f cd)
 N:=N
 s₀:=s
 H₀:=H
 env:=envOfC qual scope s.heap.objs.size f cd
 outer:=outer
 stack:=envOfC qual scope s.heap.objs.size f cd::outer
 ex:=[]
 calm:=true
 fn:=fun _=>true
 pn:=[]
 xe:=fun e s'=>wpAny (model P w) (A.deeper (envOfC qual scope s.heap.objs.size f cd)) (leaving (envOfC qual scope s.heap.objs.size f cd) e) (fun _ s''=>CX outer H s E e s'') (fun e' s''=>CX outer H s E e' s'') s'
theorem afE {sc:Scope} {n:Nat} {x:Str} (h:sc.names.lookup x=some .cell):∃ c,(cellsFrom n sc.names []).lookup x=some c:=by
 have q:=PySem.W.cellsFrom_some sc.names n [] (.inl h);exact Option.isSome_iff_exists.mp q
theorem ak0 {CX:CXT} {P:Program} {w:World} {K:PySem.W.Frag} {mg:Str->Option Value} {base:Heap} {N ps:List Str} {qual:Str} {scope:Scope} {f:Addr} {cd:Value} {A:Around} {outer:List Env} {s s1:Shared} {H:Hp} {E:XK} {us:List Value} {vs:List V}
    (S:aR N ps scope) (hd:A.handled=none) (e0:Env0 P w K mg base A outer s H) (hl:vs.length=ps.length) (r:Vals vs us)
    (x:InCallC s s.heap.objs.size (bindL (envOfC qual scope s.heap.objs.size f cd).kindOf (ps.zip us) fun _=>none) (cellsFrom (s.heap.objs.size+1) scope.names []) (bindC (envOfC qual scope s.heap.objs.size f cd).kindOf (ps.zip us) fun _=>none) s1) :
    Inv (agG CX P w K mg base N qual scope f cd A outer s H E) [] (start N vs) H s1:=by
  have hpl:ps.length<=N.length:=by have:=congrArg List.length S.pre;rw [List.length_take] at this;omega
  obtain ⟨h1,tk,rfl,hk⟩:=x.done;have noA:∀ b:Addr,b∉(agG CX P w K mg base N qual scope f cd A outer s H E).ex:=fun b z=>absurd (show b∈([]:List Addr) from z) (by simp);refine ⟨⟨e0.mod,S.kind,rfl,rfl,Nat.le_refl _,fun y z c h1 h2=>?_,fun y hy=>?_,fun y c _ h=>?_,fun _=>hd,Around.frames_deeper e0.frames,.inr ⟨rfl,rfl⟩,fun b z=>absurd z (noA b),e0.bs,e0.bsz,fun b _ _=>noA b,fun b z=>absurd z (noA b),e0.funs,e0.frf⟩,
    rfl,e0.bare,Un.kept hk,⟨_,x.toInCall.ns,fun i y v h1 h2 h3=>?_⟩,fun y c h=>⟨_,x.cell y c h⟩,e0.hok.fresh (Nat.le_refl _),fun y c h=>?_,fun p hp=>absurd (show p∈([]:List (Addr×Obj)) from hp) (by simp),e0.hok.kept hk,?_⟩
  · exact name_of_addr x.apart (PySem.mem_of_lookup h1) (PySem.mem_of_lookup h2)
  · have hy:scope.names.lookup y=some .cell\/scope.names.lookup y=some .free:=hy;rcases hy with hy | hy
    · exact afE hy
    · exact absurd rfl (S.nofree _ (PySem.mem_of_lookup hy))
  · exact Nat.le_of_lt (x.above y c (PySem.mem_of_lookup h))
  · have hi:i < vs.length:=by
      unfold start at h2;by_cases hi:i < vs.length
      · exact hi
      · rw [List.getElem?_append_right (by simpa using hi)] at h2;rw [List.getElem?_replicate] at h2;split at h2<;>cases h2
    have ha:vs[i]?=some v:=by
      unfold start at h2;rw [List.getElem?_append_left (by simpa using hi),List.getElem?_map] at h2;cases e:vs[i]? with
      | none=>rw [e] at h2;cases h2
      | some a=>rw [e] at h2;cases h2;rfl
    obtain ⟨u,hu,rv⟩:=r.get ha;have hp:ps[i]?=some y:=by
      rw [<- S.pre,List.getElem?_take_of_lt (by omega)];exact h1
    have ndP:ps.Nodup:=by rw [<- S.pre];exact S.nd.sublist (List.take_sublist _ _)
    refine ⟨u,rv,?_⟩;rcases S.par y (List.mem_of_getElem? hp) with k | k
    · exact .inl ⟨k,acB ndP hp hu k⟩
    · obtain ⟨c,e⟩:=afE (n:=s.heap.objs.size+1) k;refine .inr ⟨.inl k,c,e,?_⟩;have q:=x.cell y c e;rw [abQ ndP hp hu (by show scope.names.lookup y≠_;rw [k];decide)] at q;exact q
  · exact e0.hok.fresh (Nat.le_of_lt (x.above y c (PySem.mem_of_lookup h)))
  · unfold start;show _=N.length;rw [List.length_append,List.length_map,List.length_replicate];omega
theorem aAI {CX:CXT} {P:Program} {w:World} {K:PySem.W.Frag} {mg:Str->Option Value} {base:Heap} {k:Nat} {f:Addr} {name qual:Str} {params:Arguments} {body:List Stmt} {scope:Scope} {dV kV doc pm cdv ct oc:Value} {an od:Option Addr}
    {osl:Array (Option Value)} {N ps:List Str} {sp:Sp} (lk:K.lookup f=some ⟨oc,od,.func (PySem.W.fnOf name qual params body scope dV kV doc pm an cdv ct),osl⟩) (hcd:PySem.W.codeIn K cdv qual=true) (S:aR N ps scope)
    (len:∀ vs H Q E,sp vs H Q E->vs.length=ps.length)
    (hbody:∀(A:Around) (outer:List Env) (s:Shared) (H:Hp) (vs:List V) (Q:VK) (E:XK),Room k (A.deeper (envOfC qual scope s.heap.objs.size f cdv))->sp vs H Q E ->
      ∃ t,PSs (agG CX P w K mg base N qual scope f cdv A outer s H E) body t/\t {nx:=fun _ H'=>Q .non H',rt:=Q} (start N vs) H) :
    bK P w K mg base CX (k+1) f (PySem.W.fnOf name qual params body scope dV kV doc pm an cdv ct) ps sp:=by
  refine ⟨len,fun A outer s H args us vs Q E hr e0 hb r hsp=>?_⟩;have hl:=len _ _ _ _ hsp;have KX:K.In s.heap:=e0.mod.kin.keeps fun b o e=>(e0.bs b o e).1;have lim:s.heap.NoLimit:=e0.mod.nolimit.keeps fun b o e=>(e0.bs b o e).1;have hkind:∀ y∈ps.zip us,scope.names.lookup y.1=some .local\/(scope.names.lookup y.1=some .cell/\((cellsFrom (s.heap.objs.size+1) scope.names []).lookup y.1).isSome=true):=fun ⟨n,v⟩ hy=>by
    rcases S.par n (List.of_mem_zip hy).1 with q | q
    · exact .inl q
    · exact .inr ⟨q,PySem.W.cellsFrom_some _ _ _ (.inl q)⟩
  refine codeAny_call_function hr.depth (KX _ _ lk) rfl S.co S.gen rfl (PySem.W.codeRec_of KX hcd) (hb _ _ _ _ ?_);refine wpAny_newFunctionEnv_cells S.kind hkind fun env he s1 x=>?_;subst he;refine ⟨lim.keeps x.toInCall.keep,codeAny_func ?_⟩;obtain ⟨t,ht,hq⟩:=hbody A outer s H vs Q E (hr.deeper _) hsp;have I:Inv (agG CX P w K mg base N qual scope f cdv A outer s H E) [] (start N vs) H s1:=ak0 S hr.hd e0 hl r x;refine wpAny_mono (ht [] s1 (start N vs) H _ I hq) (fun fl s' hs=>?_) fun e s' hs=>hs;have fin:∀ {σ':St} {H':Hp} {v:V} {u:Value},Inv (agG CX P w K mg base N qual scope f cdv A outer s H E) [] σ' H' s'->bO v u->Q v H'->CE outer P w H s Q u s' :=
    fun {σ' H' v u} J rv q=>⟨v,H',J.os,J.bare,J.base,J.hok,rv,q⟩
  cases fl with
  | ret u =>
    obtain ⟨v,σ',H',J,rv,q⟩:=hs;exact fin J rv q
  | next =>
    obtain ⟨σ',H',J,q⟩:=hs;exact fin (v:=V.non) (u:=Value.none) J rfl q
  | brk =>
    obtain ⟨_,_,_,q⟩:=hs;exact False.elim q
  | cont =>
    obtain ⟨_,_,_,q⟩:=hs;exact False.elim q
end L2
namespace L2
open PySem PySem.Spec PyProof.Rows
section
variable {X:Cx} {x:Str} {p pos:Pos} {e:Expr} {es:List Expr} {t:TA} {id T:String} {r:List V->Hp->VK->Prop}
noncomputable def tCB (r:List V->Hp->VK->Prop) (t:TA):TE:=fun σ H Q=>t σ H fun vs H1=>r vs H1 Q
theorem dB (hc:dW X (.builtin id) r) (hg:Gl X x) (hm:X.mg x=none) (hv:bootBuiltins x=some (.builtin id)) (ha:PA X (e::es) t) (hn:x≠"__name__":=by decide) (hdb:(x == ("__debug__":Str))=false:=by decide)
    (he:starEach (e::es) X.env=(false,eval e X.env)::starEach es X.env:=by rfl) (hpl:(backTo pos (starEach es X.env)).any (·.1)=false:=by rfl):PE X (.Call (.Name x p) (e::es) [] pos) (tCB r t):=by
  intro pins s σ H Q I h;refine wpAny_Call_Name_kw (adO I hg hm hv ?_ hn hdb);exact PyProof.Rows.callWith_builtin1 (thn (ha pos pins s σ H _ I h) fun us s1 ⟨vs,H1,I1,r1,q1⟩=>hc pins s1 σ H1 vs us Q I1 r1 q1) he hpl
theorem cC (hc:dW X (.type T) r) (hg:Gl X x) (hm:X.mg x=none) (hv:bootBuiltins x=some (.type T)) (ha:PA X (e::es) t) (hn:x≠"__name__":=by decide) (hdb:(x == ("__debug__":Str))=false:=by decide)
    (he:starEach (e::es) X.env=(false,eval e X.env)::starEach es X.env:=by rfl) (hpl:(backTo pos (starEach es X.env)).any (·.1)=false:=by rfl):PE X (.Call (.Name x p) (e::es) [] pos) (tCB r t):=by
  intro pins s σ H Q I h;refine wpAny_Call_Name_kw (adO I hg hm hv ?_ hn hdb);exact PyProof.Rows.callWith_type1 (thn (ha pos pins s σ H _ I h) fun us s1 ⟨vs,H1,I1,r1,q1⟩=>hc pins s1 σ H1 vs us Q I1 r1 q1) he hpl
end
end L2
namespace HT
open PySem PyProof.Rows
section
open PySem.SeqAt
open PySem.AutoSeq1 (wpAny_loadPart')
open PySem.MeetsSeq PySem.MeetsSeq2 PySem.MeetsSeq3
end
section
variable {prog:Program} {w:World} {A:Around} {E:Value->Shared->Prop} {s:Shared}
theorem ar2 {t b:Addr} {vs ws:List Value} {Q:Value->Shared->Prop} (ht:IsTup s.heap t vs.toArray) (hb:IsTup s.heap b ws.toArray) (hv:vs≠[])
    (h1:ws=[]->Q (.ref t) s) (h2:ws≠[]->Q (.ref s.heap.objs.size) {s with heap:=s.heap.push {cls:=.type "tuple",data:=.seq (vs++ws).toArray}})
    (hsz:vs.length+ws.length<=sizeLine):wpAny (model prog w) A (binaryOp .Add (.ref t) (.ref b)) Q E s:=by
  obtain ⟨⟨cls,dd,data,sl⟩,ho,hc,n,hd⟩:=id ht;obtain ⟨⟨cls2,dd2,data2,sl2⟩,ho2,hc2,n2,hd2⟩:=id hb;simp only at hc hd hc2 hd2;subst hc hd hc2 hd2;have e:vs.toArray++ws.toArray=(vs++ws).toArray:=by simp
  by_cases hw:ws=[]
  · exact concat_meets ⟨_,ho,rfl⟩ ⟨_,ho2,rfl⟩ noFill_tuple_add seq_tuple_add PySem.F.slot_tuple_add PySem.F.entry_tuple_add (PySem.F.args_tuple_add_2 _ _)
      (tuple_addW1 t b vs.toArray ws.toArray n n2 dd dd2 sl sl2 (by simpa using hv) (by simp [hw])) ⟨ho,ho2,h1 hw⟩
  · refine concat_meets ⟨_,ho,rfl⟩ ⟨_,ho2,rfl⟩ noFill_tuple_add seq_tuple_add PySem.F.slot_tuple_add PySem.F.entry_tuple_add (PySem.F.args_tuple_add_2 _ _)
      (tuple_addW2 t b vs.toArray ws.toArray n n2 dd dd2 sl sl2 (by simpa using hv) (by simpa using hw) (by rw [List.size_toArray,List.size_toArray];exact hsz)) ⟨ho,ho2,?_⟩
    rw [e];exact h2 hw
noncomputable def gL (n d:Nat):Option Int->Nat
 | none=>d
 | some v=>if v < 0 then (v+(n:Int)).toNat else min v.toNat n
theorem awM (n d:Nat) (hd:d<=n) (o:Option Int):gL n d o<=n:=by
 cases o with
 | none=>exact hd
 | some v =>
  show (if v < 0 then (v+(n:Int)).toNat else min v.toNat n)<=n;by_cases hv:v < 0
  ·rw [if_pos hv];omega
  ·rw [if_neg hv];exact Nat.min_le_right _ _
theorem ai8 (v:Int) (n d:Nat):(if v < 0 then max (v+(n:Int)) 0 else min v (n:Int))=((gL n d (some v):Nat):Int):=by
 show (if v < 0 then max (v+(n:Int)) 0 else min v (n:Int))=(((if v < 0 then (v+(n:Int)).toNat else min v.toNat n):Nat):Int);by_cases hv:v < 0
 ·simp only [if_pos hv];omega
 ·simp only [if_neg hv];omega
theorem aiW (lo hi:Option Int) (n:Nat):Builtin.Slice.sliceAdjust lo hi 1 (n:Int)=(((gL n 0 lo:Nat):Int),((gL n n hi:Nat):Int)):=by
 have h1:¬ ((1:Int) < 0):=by omega
 unfold Builtin.Slice.sliceAdjust;simp only [h1,if_false];refine Prod.ext ?_ ?_
 ·cases lo with
  | none=>rfl
  | some v=>exact ai8 v n 0
 ·cases hi with
  | none=>rfl
  | some v=>exact ai8 v n n
theorem ahC (i j:Nat):Builtin.Slice.slicePlaces (i:Int) (j:Int) 1=j - i:=by
 unfold Builtin.Slice.slicePlaces;have h1:(1:Int) > 0:=by omega
 simp only [h1,if_true,Int.ediv_one];split<;>omega
theorem xI {v:Value} {o:Option Int} {Q:Option Int->Shared->Prop} (p:IsPart v o) (h:Q o s):wpAny (model prog w) A (Builtin.Slice.slicePartIndex v) Q E s:=by
 cases p with
 | none=>exact slicePart_none h
 | int i t=>exact slicePart_int h
theorem t0 {sl:Addr} {vl vu:Value} {lo hi:Option Int} {n:Nat} {Q:Int×Int×Nat->Shared->Prop} (hs:s.heap.IsSliceOf sl vl vu .none) (pl:IsPart vl lo) (pu:IsPart vu hi)
    (h:Q (((gL n 0 lo:Nat):Int),1,gL n n hi - gL n 0 lo) s):wpAny (model prog w) A (Builtin.Slice.sliceApplied (.ref sl) (pure (n:Int))) Q E s:=by
  obtain ⟨os,hos,hcs,hds⟩:=id hs;unfold Builtin.Slice.sliceApplied Builtin.Slice.sliceFields;refine wpAny_bind (wpAny_bind (wpAny_field hos hds (x:=vl) rfl (wpAny_bind (wpAny_field hos hds (x:=vu) rfl (wpAny_bind (wpAny_field hos hds (x:=.none) rfl (wpAny_pure ?_)))))));refine wpAny_bind (slicePart_none ?_);show wpAny _ _ (if ((1:Int) == 0)=true then _ else _) _ _ s;rw [if_neg (by decide)];refine wpAny_bind (xI pl (wpAny_bind (xI pu (wpAny_bind (wpAny_pure ?_)))));show wpAny _ _ (match Builtin.Slice.sliceAdjust lo hi 1 (n:Int) with | (lo,hi)=>pure (lo,(1:Int),Builtin.Slice.slicePlaces lo hi 1)) _ _ s;rw [aiW lo hi n];show wpAny _ _ (pure (((gL n 0 lo:Nat):Int),(1:Int),Builtin.Slice.slicePlaces ((gL n 0 lo:Nat):Int) ((gL n n hi:Nat):Int) 1)) _ _ s;rw [ahC];exact wpAny_pure h
theorem an3 (xs:Array Value) (i k:Nat):((List.range k).filterMap fun(m:Nat)=>xs[((i:Int)+(m:Int) * 1).toNat]?).toArray=((xs.toList.drop i).take k).toArray:=by
 have e:(fun(m:Nat)=>xs[((i:Int)+(m:Int) * 1).toNat]?)=fun m=>xs[i+m]?:=by
  funext m;have:((i:Int)+(m:Int) * 1).toNat=i+m:=by omega
  rw [this]
 rw [e];have:=pick_run xs i k;rw [List.filterMap_map] at this;have e2:((fun x=>xs[x]?) ∘ fun x=>i+x)=fun m=>xs[i+m]?:=rfl;rw [e2] at this;rw [this]
theorem rS {t sl:Addr} {items:Array Value} {vl vu:Value} {lo hi:Option Int} {Q:Value->Shared->Prop} (ht:IsTup s.heap t items) (hs:s.heap.IsSliceOf sl vl vu .none) (pl:IsPart vl lo) (pu:IsPart vu hi)
    (hw:¬ (gL items.size 0 lo=0/\gL items.size items.size hi=items.size))
    (h:Q (.ref s.heap.objs.size) {s with heap:=s.heap.push {cls:=.type "tuple",data:=.seq ((items.toList.drop (gL items.size 0 lo)).take (gL items.size items.size hi - gL items.size 0 lo)).toArray}})
    (hsz:items.size<=sizeLine):wpAny (model prog w) A (getItem (.ref t) (.ref sl)) Q E s:=by
  have htake:sizeOk (.seq ((items.toList.drop (gL items.size 0 lo)).take (gL items.size items.size hi - gL items.size 0 lo)).toArray):=by
    show ((items.toList.drop (gL items.size 0 lo)).take (gL items.size items.size hi - gL items.size 0 lo)).toArray.size<=sizeLine;rw [List.size_toArray,List.length_take,List.length_drop,Array.length_toList];omega
  have hj:gL items.size items.size hi<=items.size:=awM _ _ (Nat.le_refl _) hi;obtain ⟨os,hos,hcs,hds⟩:=id hs;have hTs:s.TypeIs (.ref sl) "slice":=⟨os,hos,hcs⟩;unfold getItem
  try with_reducible refine wpAny_holding ?_
  first | refine wpAny_bind (wpAny_pure ?_) | skip
  refine wpAny_bind (wpAny_sequenceKey ht.typeIs (by decide) ?_);refine wpAny_bind (wpAny_callSpecial?_slot (name:=Str.ofString "__getitem__") ht.typeIs PyProof.Rows.slot_tuple_getitem
    (wpAny_call_entry PyProof.Rows.slot_tuple_getitem ht.typeIs entry_tuple_getitem ?_ (args_tuple_getitem _ _)))
  show wpAny _ _ (Builtin.Tuple.tupleItemsOf (.ref t) >>= _) _ _ s;refine wpAny_bind (tupleItemsOf_ ht ?_);refine wpAny_bind (wpAny_typeOf hTs ?_);rw [if_pos (by decide)];refine wpAny_bind (t0 hs pl pu ?_);have hno:¬ ((((gL items.size 0 lo:Nat):Int) == 0 && (1:Int) == 1 && (gL items.size items.size hi - gL items.size 0 lo) == items.size)=true):=by
    intro q;rw [Bool.and_eq_true,Bool.and_eq_true] at q;have q1:((gL items.size 0 lo:Nat):Int)=0:=eq_of_beq q.1.1;have q2:gL items.size items.size hi - gL items.size 0 lo=items.size:=eq_of_beq q.2;exact hw ⟨by omega,by omega⟩
  show wpAny _ _ (if (((gL items.size 0 lo:Nat):Int) == 0 && (1:Int) == 1 && (gL items.size items.size hi - gL items.size 0 lo) == items.size)=true then _ else _) _ _ s;rw [if_neg hno,an3]
  first
    | exact wpAny_bind (m:=Builtin.Tuple.tupleExact _) (wpAny_newObj_type (wpAny_pure ⟨_,rfl,wpAny_pure h⟩) htake)
    | exact wpAny_bind (m:=Builtin.Tuple.tupleExact _) (wpAny_newObj_type (wpAny_bind (wpAny_pure (wpAny_pure ⟨_,rfl,wpAny_pure h⟩))) htake)
    | exact wpAny_bind (wpAny_bind (m:=Builtin.Tuple.tupleExact _) (wpAny_newObj_type (wpAny_pure (wpAny_pure ⟨_,rfl,wpAny_pure h⟩)) htake))
    | exact wpAny_bind (wpAny_bind (m:=Builtin.Tuple.tupleExact _) (wpAny_newObj_type (wpAny_pure ⟨_,rfl,wpAny_pure h⟩) htake))
end
end HT
namespace L2
open PySem PySem.Spec PyProof.Rows
noncomputable abbrev TO:=St->Hp->(Option Int->Hp->Prop)->Prop
noncomputable def PO (X:Cx) (e:Option Expr) (t:TO):Prop :=
 ∀(pins:List (Addr×Obj)) (s:Shared) (σ:St) (H:Hp) (Q:Option Int->Hp->Prop),Inv X pins σ H s->t σ H Q ->
  wpAny (model X.prog X.w) X.A (evalPart e X.env) (fun u s'=>∃ o H',Inv X pins σ H' s'/\IsPart u o/\Q o H') X.xe s
noncomputable def aj4:TO:=fun _ H Q=>Q none H
noncomputable def ao6 (t:TE):TO:=fun σ H Q=>t σ H fun x H1=>∃ i,x=.int i/\Q (some i) H1
theorem ag7 {ns:List Int}:∀ {us:List Value},Vals (ns.map V.int) us->IntsAre us ns:=by
 induction ns with
 | nil=>intro us r;rw [List.map_nil] at r;cases r;exact .nil
 | cons n ns ih =>
  intro us r;rw [List.map_cons] at r;cases r with
  | cons r1 r2 =>
   obtain ⟨t,e⟩:=r1;subst e;exact .cons n t (ih r2)
section
variable {X:Cx} {e:Expr} {te:TE} {lo hi:Option Expr} {tl th:TO} {pos p2:Pos}
theorem ai6:PO X none aj4:=by
 intro pins s σ H Q I h;rw [evalPart_none];exact wpAny_pure ⟨none,H,I,.none,h⟩
theorem wC (h:PE X e te):PO X (some e) (ao6 te):=by
 intro pins s σ H Q I hw;rw [evalPart_some];refine thn (h pins s σ H _ I hw) fun u s1 ⟨x,H1,I1,r1,q1⟩=>?_;obtain ⟨i,rfl,q⟩:=q1;obtain ⟨t,rfl⟩:=r1;exact ⟨some i,H1,I1,.int i t,q⟩
noncomputable def SlR (X:Cx) (r:V->Option Int->Option Int->Hp->VK->Prop):Prop :=
 ∀(pins:List (Addr×Obj)) (s:Shared) (σ:St) (H:Hp) (x:V) (v vl vu:Value) (lo hi:Option Int) (sl:Addr) (Q:VK),Inv X pins σ H s->bO x v->s.heap.IsSliceOf sl vl vu .none->IsPart vl lo->IsPart vu hi->r x lo hi H Q ->
  ∃ T id,typeLookup (.type T) "__getitem__"=pure (some (.builtin id))/\s.TypeIs v T/\wpAny (model X.prog X.w) X.A (getItem v (.ref sl)) (EP X pins σ Q) X.xe s
theorem SlR.or {r r':V->Option Int->Option Int->Hp->VK->Prop} (h:SlR X r) (h':SlR X r'):SlR X (fun x lo hi H Q=>r x lo hi H Q\/r' x lo hi H Q):=by
 intro pins s σ H x v vl vu lo hi sl Q I rx hs pl pu q;rcases q with q | q
 ·exact h pins s σ H x v vl vu lo hi sl Q I rx hs pl pu q
 ·exact h' pins s σ H x v vl vu lo hi sl Q I rx hs pl pu q
noncomputable def tSl (r:V->Option Int->Option Int->Hp->VK->Prop) (te:TE) (tl th:TO):TE:=fun σ H Q=>te σ H fun x H1=>tl σ H1 fun l H2=>th σ H2 fun u H3=>r x l u H3 Q
theorem zN {r:V->Option Int->Option Int->Hp->VK->Prop} (hr:SlR X r) (he:PE X e te) (hl:PO X lo tl) (hu:PO X hi th):PE X (.Subscript e (.Slice lo hi none p2) pos) (tSl r te tl th):=by
 intro pins s σ H Q I h;refine Subscript_ (thn (he pins s σ H _ I h) fun v s1 ⟨x,H1,I1,r1,q1⟩=>?_);refine wpAny_Slice (thn (hl pins s1 σ H1 _ I1 q1) fun vl s2 ⟨l,H2,I2,pl,q2⟩=>thn (hu pins s2 σ H2 _ I2 q2) fun vu s3 ⟨u,H3,I3,pu,q3⟩=>?_);rw [evalPart_none];refine wpAny_pure ?_;have I4:Inv X pins σ H3 {s3 with heap:=s3.heap.push {cls:=.type "slice",data:=.fields #[vl,vu,.none]}}:=I3.kept (t':=s3.toks) fun b ob q=>Heap.get?_push_of_some _ q;obtain ⟨T,id,hT,ht,hg⟩:=hr pins {s3 with heap:=s3.heap.push {cls:=.type "slice",data:=.fields #[vl,vu,.none]}} σ H3 x v vl vu l u s3.heap.objs.size Q I4 r1 (Heap.IsSliceOf.new ..) pl pu q3;show wpAny (model X.prog X.w) X.A (subscriptTail e (.Slice lo hi none p2) v (.ref s3.heap.objs.size)) (EP X pins σ Q) X.xe {s3 with heap:=s3.heap.push {cls:=.type "slice",data:=.fields #[vl,vu,.none]}};exact tail_any (ops:=[.ref s3.heap.objs.size,v]) ht hT hg (by with_unfolding_all rfl)
noncomputable def pQ (xs:List V) (lo hi:Option Int):List V:=(xs.drop (HT.gL xs.length 0 lo)).take (HT.gL xs.length xs.length hi - HT.gL xs.length 0 lo)
theorem u8 (xs:List V) (lo hi:Option Int):(pQ xs lo hi).length<=xs.length:=by
 unfold pQ;rw [List.length_take,List.length_drop];omega
noncomputable def aCH (K:PySem.W.Frag):V->Option Int->Option Int->Hp->VK->Prop:=fun x lo hi H Q=>∃ a xs,x=.ref a/\dF K H a xs /\
 ¬ (HT.gL xs.length 0 lo=0/\HT.gL xs.length xs.length hi=xs.length)/\∀ p,H p=none->Q (.ref p) (upd H p (.tup (pQ xs lo hi)))
theorem av7:SlR X (aCH X.K):=by
 intro pins s σ H x v vl vu lo hi sl Q I rx hs pl pu h;obtain ⟨a,xs,rfl,hx,hw,q⟩:=h;cases rx;obtain ⟨its,r,ht,hz⟩:=I.tuple hx;have hlen:its.toArray.size=xs.length:=by rw [List.size_toArray];exact r.length.symm
 refine ⟨"tuple",_,PyProof.Rows.slot_tuple_getitem.lookup,ht.typeIs,?_⟩;refine HT.rS ht hs pl pu (by rw [hlen];exact hw) ?_ (by rw [hlen];exact hz);rw [hlen];refine ⟨.ref s.heap.objs.size,_,I.laid (t':=s.toks) (o:=.tup (pQ xs lo hi)) (fun b ob q=>Heap.get?_push_of_some _ q) (Nat.le_refl _) ?_,rfl,q _ (I.hok.fresh (Nat.le_refl _))⟩;exact ⟨Nat.le_trans (u8 xs lo hi) hz,_,(r.drop (HT.gL xs.length 0 lo)).take (HT.gL xs.length xs.length hi - HT.gL xs.length 0 lo),IsTup.new _ _⟩
noncomputable def azE (K:PySem.W.Frag):R2:=fun x y H Q=>∃ a b xs ys,x=.ref a/\y=.ref b/\dF K H a xs/\dF K H b ys/\xs≠[]/\xs.length+ys.length<=sizeLine /\
 (ys=[]->Q (.ref a) H)/\(ys≠[]->∀ p,H p=none->Q (.ref p) (upd H p (.tup (xs++ys))))
theorem Vals.nil_iff {xs:List V} {us:List Value} (r:Vals xs us):us=[]↔xs=[]:=by
 cases r with
 | nil=>simp
 | cons _ _=>simp
theorem ajH:jZ X (binaryOp .Add) (azE X.K):=by
 intro pins s σ H x y v u Q I rx ry h;obtain ⟨a,b,xs,ys,rfl,rfl,ha,hb,hx,hz,q1,q2⟩:=h;cases rx;cases ry;obtain ⟨its,r1,p1,_⟩:=I.tuple ha;obtain ⟨its2,r2,p2,_⟩:=I.tuple hb;refine HT.ar2 p1 p2 (fun z=>hx (r1.nil_iff.mp z)) (fun z=>⟨.ref a,H,I,rfl,q1 (r2.nil_iff.mp z)⟩) (fun z=>?_) (by rw [<- r1.length,<- r2.length];exact hz);refine ⟨.ref s.heap.objs.size,_,I.laid (t':=s.toks) (o:=.tup (xs++ys)) (fun b ob q=>Heap.get?_push_of_some _ q) (Nat.le_refl _) ?_,rfl,q2 (fun w=>z (r2.nil_iff.mpr w)) _ (I.hok.fresh (Nat.le_refl _))⟩;exact ⟨by rw [List.length_append];exact hz,_,r1.append r2,IsTup.new _ _⟩
end
end L2
namespace L2
open PySem PySem.Spec PyProof.Rows
noncomputable def ixN (n:Nat) (i:Int):Option Nat:=if 0<=i then (if i < n then some i.toNat else none) else if -(n:Int)<=i then some (i+n).toNat else none
noncomputable def kC {α:Type} (xs:List α) (i:Int):Option α:=(ixN xs.length i).bind fun j=>xs[j]?
theorem akF {n:Nat} {i:Int} {j:Nat} (h:ixN n i=some j):seqIndex? i n=some j/\j < n/\-(n:Int)<=i/\i < n:=by
 unfold ixN at h;by_cases h0:0<=i
 ·rw [if_pos h0] at h;by_cases h1:i < n
  ·rw [if_pos h1] at h;have e:i.toNat=j:=Option.some.inj h;exact ⟨by rw [seqIndex_of h0 h1,e],by omega,by omega,h1⟩
  ·rw [if_neg h1] at h;cases h
 ·rw [if_neg h0] at h;by_cases h1:-(n:Int)<=i
  ·rw [if_pos h1] at h;have e:(i+n).toNat=j:=Option.some.inj h;exact ⟨by rw [seqIndex_neg (by omega) h1,e],by omega,h1,by omega⟩
  ·rw [if_neg h1] at h;cases h
theorem wO {α:Type} {xs:List α} {i:Int} {v:α} (h:kC xs i=some v):∃ j,seqIndex? i xs.length=some j/\xs[j]?=some v/\j < xs.length/\-(xs.length:Int)<=i/\i < xs.length:=by
 unfold kC at h;cases e:ixN xs.length i with
 | none=>rw [e] at h;cases h
 | some j =>
  rw [e] at h;obtain ⟨h1,h2,h3,h4⟩:=akF e;exact ⟨j,h1,h,h2,h3,h4⟩
theorem wP {α:Type} {xs:List α} {j:Nat} {v:α} (h:xs[j]?=some v):kC xs (j:Int)=some v:=by
 have hj:j < xs.length:=(List.getElem?_eq_some_iff.mp h).1;have e:ixN xs.length (j:Int)=some j:=by
  unfold ixN;rw [if_pos (by omega),if_pos (by omega)];simp
 unfold kC;rw [e];exact h
theorem mZ {α:Type} (xs:List α) (v:α):kC (xs++[v]) (-1)=some v:=by
 have hl:(xs++[v]).length=xs.length+1:=by simp
 have e:ixN (xs++[v]).length (-1)=some xs.length:=by
  unfold ixN;rw [hl,if_neg (by decide),if_pos (by omega)]
  congr 1
  omega
 unfold kC;rw [e];show (xs++[v])[xs.length]?=some v;simp
noncomputable def as3 (b:Expr):Prop:=∀ o i,subscripted b false o i=operate [o,i] (getItem o i)
noncomputable def IxR (X:Cx) (r:R2):Prop :=
 ∀(value slice:Expr) (pins:List (Addr×Obj)) (s:Shared) (σ:St) (H:Hp) (x y:V) (v u:Value) (Q:VK),Inv X pins σ H s->bO x v->bO y u->r x y H Q ->
  subscripted slice false v u=operate [v,u] (getItem v u)->wpAny (model X.prog X.w) X.A (subscriptTail value slice v u) (EP X pins σ Q) X.xe s
noncomputable def MtR (X:Cx) (id:String) (r:V->List V->Hp->VK->Prop):Prop :=
 ∀(pins:List (Addr×Obj)) (s:Shared) (σ:St) (H:Hp) (x:V) (xs:List V) (v:Value) (us:List Value) (Q:VK),Inv X pins σ H s->bO x v->Vals xs us->r x xs H Q ->
  wpAny (model X.prog X.w) X.A (call (.builtin id) (v::us)) (EP X pins σ Q) X.xe s
section
variable {X:Cx} {a b:Expr} {ta tb:TE} {pos:Pos}
theorem IxR.or {r r':R2} (h:IxR X r) (h':IxR X r'):IxR X (fun x y H Q=>r x y H Q\/r' x y H Q):=by
 intro value slice pins s σ H x y v u Q I rx ry q hs;rcases q with q | q
 ·exact h value slice pins s σ H x y v u Q I rx ry q hs
 ·exact h' value slice pins s σ H x y v u Q I rx ry q hs
theorem aX {r:R2} (hr:IxR X r) (ha:PE X a ta) (hb:PE X b tb) (hs:as3 b):PE X (.Subscript a b pos) (tOp r ta tb):=by
 intro pins s σ H Q I h;exact Subscript_ (axW ha hb I h fun v u s2 x y H2 I2 rx ry q=>hr a b pins s2 σ H2 x y v u Q I2 rx ry q (hs _ _))
noncomputable def aAQ (K:PySem.W.Frag):R2:=fun x y H Q=>∃ p xs i v,x=.ref p/\y=.int i/\eZ K H p xs/\kC xs i=some v/\Q v H
noncomputable def aAZ (K:PySem.W.Frag):R2:=fun x y H Q=>∃ p xs i v,x=.ref p/\y=.int i/\dF K H p xs/\kC xs i=some v/\Q v H
noncomputable def az9:R2:=fun x y H Q=>∃ z i c,x=.str z/\y=.int i/\z.length<=sizeLine/\kC z.cps.toList i=some c/\Q (.str ⟨#[c]⟩) H
theorem ajS:IxR X (aAQ X.K):=by
 intro value slice pins s σ H x y v u Q I rx ry h hs;obtain ⟨p,xs,i,z,rfl,rfl,hq,he,q⟩:=h;cases rx;obtain ⟨t,rfl⟩:=ry;obtain ⟨its,r,pl,hz⟩:=I.list hq;obtain ⟨j,h1,h2,h3,h4,h5⟩:=wO he;obtain ⟨w,ew,rw'⟩:=r.get h2;have hl:=r.length;have hn:=line63;have fin:EP X pins σ Q w s:=⟨z,H,I,rw',q⟩;by_cases h0:0<=i
 ·have hj:i.toNat=j:=by
   rw [seqIndex_of h0 h5] at h1;exact Option.some.inj h1
  exact item_listR pl.isList h0 (by omega) (by rw [hj];simpa using ew) fin hs
 ·have hj:(i+(its.toArray.size:Int)).toNat=j:=by
   rw [seqIndex_neg (by omega) h4] at h1;rw [List.size_toArray,<- hl];exact Option.some.inj h1
  exact subscriptTail_builtinR (x:=w) pl.isList.typeIs slot_list_getitem.lookup
   (wpAny_getItem_list_neg (Q:=fun r s'=>r=w/\EP X pins σ Q r s') pl.isList (by omega) (by rw [List.size_toArray]<;>omega) (by omega) (by rw [hj];simpa using ew) ⟨rfl,fin⟩) hs
theorem axX:IxR X (aAZ X.K):=by
 intro value slice pins s σ H x y v u Q I rx ry h hs;obtain ⟨p,xs,i,z,rfl,rfl,hq,he,q⟩:=h;cases rx;obtain ⟨t,rfl⟩:=ry;obtain ⟨its,r,pl,hz⟩:=I.tuple hq;obtain ⟨j,h1,h2,h3,h4,h5⟩:=wO he;obtain ⟨w,ew,rw'⟩:=r.get h2;have hl:=r.length;have hn:=line63;have fin:EP X pins σ Q w s:=⟨z,H,I,rw',q⟩;exact subscriptTail_builtinR (x:=w) pl.typeIs slot_tuple_getitem.lookup
  (getItem_tuple (j:=j) (Q:=fun r s'=>r=w/\EP X pins σ Q r s') pl (by omega) (by omega) (by rw [List.size_toArray,<- hl];exact h1) (by simpa using ew) ⟨rfl,fin⟩) hs
theorem ayB:IxR X az9:=by
 intro value slice pins s σ H x y v u Q I rx ry h hs;obtain ⟨z,i,c,rfl,rfl,hz,he,q⟩:=h;obtain ⟨t,rfl⟩:=rx;obtain ⟨t',rfl⟩:=ry;obtain ⟨j,h1,h2,h3,h4,h5⟩:=wO he;have hl:z.cps.toList.length=z.length:=by simp [Str.length]
 rw [hl] at h1 h4 h5;have hn:=line63;exact tail_any (typeIs_str s z t) slot_str_getitem.lookup (getItem_str (c:=c) (by
  have e1:decide (i < -(2 ^ 63:Int))=false:=decide_eq_false (by omega);have e2:decide (i >= 2 ^ 63)=false:=decide_eq_false (by omega);rw [e1,e2,Bool.or_false]) (by rw [h1];simpa using h2) ⟨.str ⟨#[c]⟩,H,I.tok _,⟨_,rfl⟩,q⟩) hs
noncomputable def rIx (K:PySem.W.Frag):R2:=fun x y H Q=>aAQ K x y H Q\/aAZ K x y H Q\/az9 x y H Q
theorem auZ:IxR X (rIx X.K):=ajS.or (axX.or ayB)
theorem ahG (its:List Value) (n j:Nat) (u:Value):Obj.mapSeq (·.setIfInBounds j u) {cls:=.type "list",data:=.seq its.toArray n}={cls:=.type "list",data:=.seq (its.set j u).toArray n}:=by
 simp [Obj.mapSeq]
theorem Inv.lst {pins:List (Addr×Obj)} {σ:St} {H:Hp} {s:Shared} {p:Addr} {xs:List V} (I:Inv X pins σ H s) (h:H p=some (.lst xs)) :
    ∃(its:List Value) (n:Nat),Vals xs its/\s.heap.get? p=some {cls:=.type "list",data:=.seq its.toArray n}/\xs.length<=sizeLine:=by
  obtain ⟨z,its,n,r,e⟩:=I.hok p _ h;exact ⟨its,n,r,e,z⟩
theorem Inv.lstUpd {pins:List (Addr×Obj)} {σ:St} {H:Hp} {s:Shared} {p:Addr} {xs ys:List V} {its its':List Value} {n n':Nat} {f:Obj->Obj} (I:Inv X pins σ H s) (h:H p=some (.lst xs))
    (ho:s.heap.get? p=some {cls:=.type "list",data:=.seq its.toArray n}) (hf:f {cls:=.type "list",data:=.seq its.toArray n}={cls:=.type "list",data:=.seq its'.toArray n'}) (r:Vals ys its') (hz:ys.length<=sizeLine) (t:Nat) :
    Inv X pins σ (upd H p (.lst ys)) {s with heap:=s.heap.update p f,toks:=t}:=by
  have e:(s.heap.update p f).get? p=some {cls:=.type "list",data:=.seq its'.toArray n'}:=by
    rw [Heap.get?_update_self f ho (by rw [hf]<;>rfl),hf]
  refine I.write (x:=p) (e:=p) (by rw [h];trivial) (.inl rfl) (fun b u hb q=>(Heap.get?_update_other _ _ (Ne.symm hb)).trans q) ⟨_,e⟩ ?_;exact ⟨hz,its',n',r,e⟩
noncomputable def azQ:V->V->V->Hp->(Hp->Prop)->Prop:=fun o i v H Q=>∃ p xs k j,o=.ref p/\i=.int k/\H p=some (.lst xs)/\ixN xs.length k=some j/\Q (upd H p (.lst (xs.set j v)))
theorem amS:PSet X azQ:=by
 intro pins s σ H o i v ov iv u Q I ro ri rv h;obtain ⟨p,xs,k,j,rfl,rfl,hp,hj,q⟩:=h;cases ro;obtain ⟨t,rfl⟩:=ri;obtain ⟨its,n,r,ho,hz⟩:=I.lst hp;obtain ⟨h1,h2,h3,h4⟩:=akF hj;have hl:=r.length;have hn:=line63;have I':Inv X pins σ (upd H p (.lst (xs.set j v))) {s with heap:=s.heap.update p (Obj.mapSeq (·.setIfInBounds j u))} :=
  I.lstUpd hp ho (ahG its n j u) (r.set rv j) (by rw [List.length_set];exact hz) s.toks
 by_cases h0:0<=k
 ·have hk:k.toNat=j:=by
   rw [seqIndex_of h0 h4] at h1;exact Option.some.inj h1
  exact PySem.W.ki_setAt ho h0 (by omega) (by rw [List.size_toArray,<- hl];exact h4) (by rw [hk];exact ⟨_,I',q⟩)
 ·have hk:(k+(its.toArray.size:Int)).toNat=j:=by
   rw [seqIndex_neg (by omega) h3] at h1;rw [List.size_toArray,<- hl];exact Option.some.inj h1
  exact PySem.W.ki_setBack ho (by omega) (by rw [List.size_toArray,<- hl];exact h3) (by omega) (by rw [hk];exact ⟨_,I',q⟩)
theorem adP (lo hi:Option Int) (n:Nat):(sliceBounds lo hi none n).1=((HT.gL n 0 lo:Nat):Int)/\(sliceBounds lo hi none n).2.1=((HT.gL n n hi:Nat):Int)/\(sliceBounds lo hi none n).2.2=1:=by
 refine ⟨?_,?_,rfl⟩
 ·cases lo with
  | none=>simp [sliceBounds,HT.gL]
  | some i =>
   simp only [sliceBounds,HT.gL,Option.getD_none,show (1:Int) > 0 by decide,if_true];by_cases h:i < 0
   ·simp only [h,if_true]<;>omega
   ·simp only [h,if_false]<;>omega
 ·cases hi with
  | none=>simp [sliceBounds,HT.gL]
  | some i =>
   simp only [sliceBounds,HT.gL,Option.getD_none,show (1:Int) > 0 by decide,if_true];by_cases h:i < 0
   ·simp only [h,if_true]<;>omega
   ·simp only [h,if_false]<;>omega
theorem aa3 (its:List Value) (lo hi:Option Int):slicePick its.toArray lo hi none=((its.drop (HT.gL its.length 0 lo)).take (HT.gL its.length its.length hi - HT.gL its.length 0 lo)).toArray:=by
 obtain ⟨h1,h2,h3⟩:=adP lo hi its.toArray.size;unfold slicePick;rw [h1,h2,h3];simp only [sliceRange_one,pick_run,List.size_toArray]<;>rfl
noncomputable def avA (K:PySem.W.Frag):V->Option Int->Option Int->Hp->VK->Prop:=fun x lo hi H Q=>∃ a xs,x=.ref a/\eZ K H a xs/\∀ p,H p=none->Q (.ref p) (upd H p (.lst (pQ xs lo hi)))
theorem ai2:SlR X (avA X.K):=by
 intro pins s σ H x v vl vu lo hi sl Q I rx hs pl pu h;obtain ⟨a,xs,rfl,hx,q⟩:=h;cases rx;obtain ⟨its,r,ht,hz⟩:=I.list hx;have hlen:=r.length;refine ⟨"list",_,slot_list_getitem.lookup,ht.isList.typeIs,?_⟩;refine wpAny_getItem_list_slice ht.isList hs pl pu .none (by simp) ?_ (by rw [List.size_toArray]<;>omega);rw [aa3,<- hlen];refine ⟨.ref s.heap.objs.size,_,I.laid (t':=s.toks) (o:=.lst (pQ xs lo hi)) (fun b ob q=>Heap.get?_push_of_some _ q) (Nat.le_refl _) ?_,rfl,q _ (I.hok.fresh (Nat.le_refl _))⟩;exact ⟨Nat.le_trans (u8 xs lo hi) hz,_,0,(r.drop (HT.gL xs.length 0 lo)).take (HT.gL xs.length xs.length hi - HT.gL xs.length 0 lo),Heap.get?_push_size _ rfl⟩
noncomputable def dR:V->Bool
 | .non=>true
 | .bl _=>true
 | .int _=>true
 | .str _=>true
 | _=>false
noncomputable def qU:V->V->Bool
 | .non,.non=>true
 | .bl a,.bl b=>a == b
 | .bl a,.int b=>(if a then 1 else 0) == b
 | .int a,.bl b=>a == (if b then 1 else 0)
 | .int a,.int b=>a == b
 | .str a,.str b=>a == b
 | _,_=>false
theorem aoQ {A:Around} {s:Shared} {y x:V} {u v:Value} (ry:bO y u) (rx:bO x v) (fy:dR y=true) (fx:dR x=true):SeqAt.EqAt A s u v (qU y x):=by
 cases y with
 | non =>
  cases ry;cases x with
  | non=>cases rx;exact SeqAt.EqAt.same _
  | bl b=>cases rx;exact SeqAt.EqAt.none_bool b
  | int b=>obtain ⟨t,rfl⟩:=rx;exact SeqAt.EqAt.none_int b t
  | str b=>obtain ⟨t,rfl⟩:=rx;exact SeqAt.EqAt.none_str b t
  | _=>exact absurd (show false=true from fx) Bool.false_ne_true
 | bl a =>
  cases ry;cases x with
  | non=>cases rx;exact SeqAt.EqAt.bool_none a
  | bl b=>cases rx;exact SeqAt.EqAt.bool_bool a b
  | int b=>obtain ⟨t,rfl⟩:=rx;exact SeqAt.EqAt.bool_int a b t
  | str b=>obtain ⟨t,rfl⟩:=rx;exact SeqAt.EqAt.bool_str a b t
  | _=>exact absurd (show false=true from fx) Bool.false_ne_true
 | int a =>
  obtain ⟨t',rfl⟩:=ry;cases x with
  | non=>cases rx;exact SeqAt.EqAt.int_none a t'
  | bl b=>cases rx;exact SeqAt.EqAt.int_bool a t' b
  | int b=>obtain ⟨t,rfl⟩:=rx;exact SeqAt.EqAt.int_int a t' b t
  | str b=>obtain ⟨t,rfl⟩:=rx;exact SeqAt.EqAt.int_str a t' b t
  | _=>exact absurd (show false=true from fx) Bool.false_ne_true
 | str a =>
  obtain ⟨t',rfl⟩:=ry;cases x with
  | non=>cases rx;exact SeqAt.EqAt.str_none a t'
  | bl b=>cases rx;exact SeqAt.EqAt.str_bool a t' b
  | int b=>obtain ⟨t,rfl⟩:=rx;exact SeqAt.EqAt.str_int a t' b t
  | str b=>obtain ⟨t,rfl⟩:=rx;exact SeqAt.EqAt.str_str a t' b t
  | _=>exact absurd (show false=true from fx) Bool.false_ne_true
 | _=>exact absurd (show false=true from fy) Bool.false_ne_true
noncomputable def eqU (x:V) (u:Value):Bool:=match u with
 | .none=>qU .non x
 | .bool b=>qU (.bl b) x
 | .int i _=>qU (.int i) x
 | .str z _=>qU (.str z) x
 | _=>false
theorem an4 {x y:V} {u:Value} (r:bO y u) (f:dR y=true):eqU x u=qU y x:=by
 cases y with
 | non=>cases r;rfl
 | bl b=>cases r;rfl
 | int i=>obtain ⟨t,rfl⟩:=r;rfl
 | str z=>obtain ⟨t,rfl⟩:=r;rfl
 | _=>exact absurd (show false=true from f) Bool.false_ne_true
theorem sC {x:V}:∀ {xs:List V} {us:List Value},Vals xs us->xs.all dR=true->us.any (eqU x)=xs.any fun y=>qU y x
 | _,_,.nil,_=>rfl
 | y::xs,u::us,.cons r t,f=>by
  rw [List.all_cons,Bool.and_eq_true] at f;rw [List.any_cons,List.any_cons,an4 r f.1,sC t f.2]
theorem nP {A:Around} {s:Shared} {x:V} {v:Value} (rx:bO x v) (fx:dR x=true):∀ {xs:List V} {us:List Value},Vals xs us->xs.all dR=true->∀ u∈us,SeqAt.EqAt A s u v (eqU x u)
 | _,_,.nil,_=>fun u hu=>by cases hu
 | y::xs,u::us,.cons r t,f=>fun u' hu=>by
  rw [List.all_cons,Bool.and_eq_true] at f;rcases List.mem_cons.mp hu with rfl | hu
  ·rw [an4 r f.1];exact aoQ r rx f.1 fx
  ·exact nP rx fx t f.2 u' hu
noncomputable def u0 (x:V) (xs:List V):Bool:=xs.any fun y=>qU y x
noncomputable def rIn (K:PySem.W.Frag) (neg:Bool):R2:=fun x y H Q=>∃ p xs,y=.ref p/\(eZ K H p xs\/dF K H p xs)/\dR x=true/\xs.all dR=true/\Q (.bl (if neg then !u0 x xs else u0 x xs)) H
theorem acL:jZ X (compareOp .In) (rIn X.K false):=by
 intro pins s σ H x y v u Q I rx ry h;obtain ⟨p,xs,rfl,hq,fx,fs,q⟩:=h;cases ry;rcases hq with hq | hq
 ·obtain ⟨its,r,pl,hz⟩:=I.list hq;refine SeqAt.in_listAt (eqU x) pl.isList (fun w hw=>nP rx fx r fs w (by simpa using hw)) ⟨.bl _,H,I,rfl,?_⟩;rw [show its.toArray.any (eqU x)=its.any (eqU x) by simp,sC r fs];exact q
 ·obtain ⟨its,r,pl,hz⟩:=I.tuple hq;refine SeqAt.in_tupleAt (eqU x) pl (fun w hw=>nP rx fx r fs w (by simpa using hw)) ⟨.bl _,H,I,rfl,?_⟩;rw [show its.toArray.any (eqU x)=its.any (eqU x) by simp,sC r fs];exact q
theorem adE:jZ X (compareOp .NotIn) (rIn X.K true):=by
 intro pins s σ H x y v u Q I rx ry h;obtain ⟨p,xs,rfl,hq,fx,fs,q⟩:=h;cases ry;rcases hq with hq | hq
 ·obtain ⟨its,r,pl,hz⟩:=I.list hq;refine SeqAt.notIn_listAt (eqU x) pl.isList (fun w hw=>nP rx fx r fs w (by simpa using hw)) ⟨.bl _,H,I,rfl,?_⟩;rw [show its.toArray.any (eqU x)=its.any (eqU x) by simp,sC r fs];exact q
 ·obtain ⟨its,r,pl,hz⟩:=I.tuple hq;refine SeqAt.notIn_tupleAt (eqU x) pl (fun w hw=>nP rx fx r fs w (by simpa using hw)) ⟨.bl _,H,I,rfl,?_⟩;rw [show its.toArray.any (eqU x)=its.any (eqU x) by simp,sC r fs];exact q
theorem acZ:dW X (.builtin "len") (fun xs H Q=>∃ p ys,xs=[.ref p]/\(eZ X.K H p ys\/dF X.K H p ys)/\Q (.int ys.length) H):=by
 intro pins s σ H xs us Q I r h;obtain ⟨p,ys,rfl,hq,q⟩:=h;obtain ⟨u,rfl,rx⟩:=vals1 r;cases rx;have hn:=line63;rcases hq with hq | hq
 ·obtain ⟨its,r',pl,hz⟩:=I.list hq;have hlen:=r'.length;exact Calls.call_len_list pl.isList (by simp only [List.size_toArray]<;>omega) ⟨.int ys.length,H,I.tok _,⟨s.toks+1,by rw [List.size_toArray,hlen]⟩,q⟩
 ·obtain ⟨its,r',pl,hz⟩:=I.tuple hq;have hlen:=r'.length;exact len_tuple pl (by simp only [List.size_toArray]<;>omega) ⟨.int ys.length,H,I.tok _,⟨s.toks+1,by rw [List.size_toArray,hlen]⟩,q⟩
theorem adL:dW X (.type "list") (fun xs H Q=>∃ p ys,xs=[.ref p]/\(eZ X.K H p ys\/dF X.K H p ys)/\∀ l,H l=none->Q (.ref l) (upd H l (.lst ys))):=by
  intro pins s σ H xs us Q I r h;obtain ⟨p,ys,rfl,hq,q⟩:=h;obtain ⟨u,rfl,rx⟩:=vals1 r;cases rx;have fin:∀(its:List Value),Vals ys its->ys.length<=sizeLine->∀(h':Heap) (c':Nat),(∀ b o',s.heap.get? b=some o'->h'.get? b=some o') ->
      h'.get? s.heap.objs.size=some {cls:=.type "list",dict:=none,data:=.seq its.toArray c',slots:=#[]}->EP X pins σ Q (.ref s.heap.objs.size) {s with heap:=h'}:=fun its r' hz h' c' kp e =>
    ⟨.ref s.heap.objs.size,_,I.laid (t':=s.toks) kp (Nat.le_refl _) (show dM X.prog X.w _ h' _ (.lst ys) from ⟨hz,its,c',r',e⟩),rfl,q _ (I.hok.fresh (Nat.le_refl _))⟩
  rcases hq with hq | hq
  · obtain ⟨its,r',pl,hz⟩:=I.list hq;have hlen:=r'.length;obtain ⟨o,ho,hc,n,hd⟩:=pl.isList;exact call_list_seq p (.inl rfl) ho hc hd (fun h' c' kp e=>fin its r' hz h' c' kp e) (by simp only [List.size_toArray]<;>omega)
  · obtain ⟨its,r',pl,hz⟩:=I.tuple hq;have hlen:=r'.length;obtain ⟨o,ho,hc,n,hd⟩:=pl;exact call_list_seq p (.inr rfl) ho hc hd (fun h' c' kp e=>fin its r' hz h' c' kp e) (by simp only [List.size_toArray]<;>omega)
theorem aa5:dW X (.type "tuple") (fun xs H Q=>∃ p ys,xs=[.ref p]/\((eZ X.K H p ys/\∀ l,H l=none->Q (.ref l) (upd H l (.tup ys)))\/(dF X.K H p ys/\Q (.ref p) H))):=by
 intro pins s σ H xs us Q I r h;obtain ⟨p,ys,rfl,h⟩:=h;obtain ⟨u,rfl,rx⟩:=vals1 r;cases rx;rcases h with ⟨hq,q⟩ | ⟨hq,q⟩
 ·obtain ⟨its,r',pl,hz⟩:=I.list hq;have hlen:=r'.length;refine call_tuple_list pl.isList (fun h' kp=>?_) (by simp only [List.size_toArray]<;>omega);have I1:Inv X pins σ H {s with heap:=h'}:=I.kept (t':=s.toks) kp;have I2:Inv X pins σ (upd H h'.objs.size (.tup ys)) {s with heap:=h'.push {cls:=.type "tuple",data:=.seq its.toArray}} :=
   I1.laid (t':=s.toks) (fun b o e=>Heap.get?_push_of_some _ e) (Nat.le_refl _) (show dM X.prog X.w _ _ _ (.tup ys) from ⟨hz,its,r',IsTup.new _ _⟩)
  exact ⟨.ref h'.objs.size,_,I2,rfl,q _ (I1.hok.fresh (Nat.le_refl _))⟩
 ·obtain ⟨its,r',pl,hz⟩:=I.tuple hq;exact call_tuple_same pl ⟨.ref p,H,I,rfl,q⟩
noncomputable def tyV (K:PySem.W.Frag) (T:String) (x:V) (H:Hp):Prop:=match x with
  | .str _=>T = "str"
  | .int _=>T = "int"
  | .ref p=>(T = "list"/\∃ xs,eZ K H p xs)\/(T = "tuple"/\∃ o,K.lookup p=some o/\o.cls=.type "tuple"/\o.dict=none) \/
      (T = "dict"/\((∃ kvs,H p=some (.dK kvs))\/∃ kvs,H p=some (.dT kvs)))\/(T = "set"/\∃ S n,H p=some (.set S n))
  | _=>False
theorem ac1 {pins:List (Addr×Obj)} {σ:St} {H:Hp} {s:Shared} {T:String} {x:V} {v:Value} (I:Inv X pins σ H s) (r:bO x v) (ty:tyV X.K T x H) :
    s.TypeIs v T/\∀ a,v=.ref a->∃ ob,s.heap.get? a=some ob/\ob.dict=none:=by
  cases x with
  | str z =>
    obtain ⟨t,rfl⟩:=r;cases (show T = "str" from ty);exact ⟨typeIs_str s z t,fun _ e=>nomatch e⟩
  | int i =>
    obtain ⟨t,rfl⟩:=r;cases (show T = "int" from ty);exact ⟨typeIs_int s i t,fun _ e=>nomatch e⟩
  | ref p =>
    cases r;rcases ty with ⟨rfl,xs,hq⟩ | ⟨rfl,o,hk,hc,hd⟩ | ⟨rfl,hk⟩ | ⟨rfl,S,n,hk⟩
    · obtain ⟨its,_,pl,_⟩:=I.list hq;refine ⟨pl.isList.typeIs,fun a e=>?_⟩;cases e;obtain ⟨o,n,e,c,hd,_⟩:=pl;exact ⟨o,e,hd⟩
    · refine ⟨⟨o,I.kIn p o hk,hc⟩,fun a e=>?_⟩;cases e;exact ⟨o,I.kIn _ o hk,hd⟩
    · have z:∃ o,s.heap.get? p=some o/\o.ExactDict:=by
        rcases hk with ⟨kvs,hk⟩ | ⟨kvs,hk⟩
        · obtain ⟨_,_,_,_,o,_,_,e,ex,_⟩:=I.hok p _ hk;exact ⟨o,e,ex⟩
        · obtain ⟨_,_,_,_,o,_,_,e,ex,_⟩:=I.hok p _ hk;exact ⟨o,e,ex⟩
      obtain ⟨o,e,ex⟩:=z;refine ⟨⟨o,e,ex.1⟩,fun a e2=>?_⟩;cases e2;exact ⟨o,e,ex.2.1⟩
    · obtain ⟨o,_,_,_,e,ex,_⟩:=I.hok p _ hk;refine ⟨⟨o,e,ex.1⟩,fun a e2=>?_⟩;cases e2;exact ⟨o,e,ex.2.1⟩
  | _=>exact False.elim ty
noncomputable def tBM (K:PySem.W.Frag) (T:String) (r:V->List V->Hp->VK->Prop) (to:TE) (t:TA):TE:=fun σ H Q=>to σ H fun x H1=>tyV K T x H1/\t σ H1 fun xs H2=>r x xs H2 Q
variable {o e:Expr} {es:List Expr} {to:TE} {t:TA} {name:Str} {apos cpos:Pos} {T id:String} {r:V->List V->Hp->VK->Prop}
theorem ajO (pa:PlainAttrs T) (slot:Slot T name id) (hty:typeOf (.builtin id)=pure (.type "method_descriptor")) (hm:MtR X id r) (ho:PE X o to) (ha:PA X (e::es) t)
    (hbase:attributeBase o name X.env (eval o X.env)=eval o X.env:=by rfl)
    (hfew:((backTo cpos (starEach (e::es) X.env)).all (fun x=>!x.1) && (backToKw cpos (keywordEach [] X.env)).all (fun x=>x.1.isSome)
      && decide ((e::es).length+([]:List Keyword).length+(if ([]:List Keyword).isEmpty then 0 else 1) < 30))=true:=by rfl)
    (hline:(apos.endLine == cpos.line)=true:=by rfl) (hs:starEach (e::es) X.env=(false,eval e X.env)::starEach es X.env:=by rfl) (hplain:(backTo cpos (starEach es X.env)).any (·.1)=false:=by rfl) :
    PE X (.Call (.Attribute o name apos) (e::es) [] cpos) (tBM X.K T r to t):=by
  intro pins s σ H Q I h;refine wpAny_Call_method_late hbase hfew hline rfl (thn (ho pins s σ H _ I h) fun v s1 ⟨x,H1,I1,r1,ty,q1⟩=>?_);obtain ⟨h1,h2⟩:=ac1 I1 r1 ty;refine ⟨T,id,pa,slot,hty,h1,h2,?_⟩;have hA:=ha cpos pins s1 σ H1 _ I1 q1;rw [hs] at hA ⊢;refine Calls.callWith_builtin (by show (false || (backTo cpos (starEach es X.env)).any (·.1))=false;rw [hplain]<;>rfl) (Calls.evalArgs_plain ?_);exact thn hA fun us s2 ⟨vs,H2,I2,r2,q2⟩=>hm pins s2 σ H2 x vs v us Q I2 r1 r2 q2
/- xs.append(e),list.index on a module's tuple .. are MtR facts of 06m -/
end
end L2
namespace L2
open PySem PySem.Spec PyProof.Rows
noncomputable def MtM (X:Cx) (id:String) (r:V->List V->Hp->VK->Prop):Prop :=
 ∀(pins:List (Addr×Obj)) (s:Shared) (σ:St) (H:Hp) (x:V) (xs:List V) (v:Value) (us:List Value) (Q:VK),Inv X pins σ H s->bO x v->Vals xs us->r x xs H Q ->
  wpAny (model X.prog X.w) X.A (call (.builtin id) (v::us)) (EP X pins σ Q) X.xe s
theorem Vals.one {x:V} {us:List Value} (h:Vals [x] us):∃ u,us=[u]/\bO x u:=by
 cases h with
 | cons r t=>cases t;exact ⟨_,rfl,r⟩
theorem Vals.zero:∀ {us:List Value},Vals [] us->us=[]
 | _,.nil=>rfl
theorem Vals.dropLast {xs:List V} {us:List Value} (h:Vals xs us):Vals xs.dropLast us.dropLast:=by
 induction h with
 | nil=>exact .nil
 | cons r t ih =>
  cases t with
  | nil=>exact .nil
  | cons q t'=>exact .cons r ih
theorem Vals.eraseIdx:∀ {xs:List V} {us:List Value} (i:Nat),Vals xs us->Vals (xs.eraseIdx i) (us.eraseIdx i)
 | _,_,_,.nil=>.nil
 | _,_,0,.cons _ t=>t
 | _,_,i+1,.cons r t=>.cons r (Vals.eraseIdx i t)
theorem aiH {α:Type} (l:List α):l.eraseIdx (l.length - 1)=l.dropLast:=by
 induction l with
 | nil=>rfl
 | cons a r ih =>
  cases r with
  | nil=>rfl
  | cons b r =>
   have e:(a::b::r).length - 1=((b::r).length - 1)+1:=by
    have h1:(a::b::r).length=r.length+2:=rfl;have h2:(b::r).length=r.length+1:=rfl;omega
   rw [e,List.eraseIdx_cons_succ,ih]
   all_goals rfl
theorem abM {α:Type}:∀(l:List α) (i:Nat),(l.eraseIdx i).length<=l.length
 | [],_=>Nat.le_refl _
 | _::_,0=>Nat.le_succ _
 | _::r,i+1=>Nat.succ_le_succ (abM r i)
section
variable {X:Cx} {pins:List (Addr×Obj)} {σ:St} {H:Hp} {s:Shared} {l b:Addr} {xs ys zs:List V}
theorem Inv.lset {its its':List Value} {n:Nat} {f:Array Value->Array Value} {t':Nat} (I:Inv X pins σ H s) (hH:H l=some (.lst xs))
    (e:s.heap.get? l=some {cls:=.type "list",data:=.seq its.toArray n}) (hf:f its.toArray=its'.toArray) (hv:Vals ys its') (hz:ys.length<=sizeLine) :
    Inv X pins σ (upd H l (.lst ys)) {s with heap:=s.heap.update l (Obj.mapSeq f),toks:=t'}:=by
  have q:=PySem.IsL.update e f;rw [hf] at q;refine I.write (x:=l) (e:=l) (by rw [hH];exact trivial) (.inl rfl) (fun b' u hb hu=>(Heap.get?_update_other s.heap (Obj.mapSeq f) (Ne.symm hb)).trans hu) ⟨_,q⟩ ?_;exact ⟨hz,its',_,hv,q⟩
theorem Inv.lnew {its:List Value} {t':Nat} (I:Inv X pins σ H s) (hv:Vals ys its) (hz:ys.length<=sizeLine) :
    Inv X pins σ (upd H s.heap.objs.size (.lst ys)) {s with heap:=s.heap.push {cls:=.type "list",data:=.seq its.toArray},toks:=t'} :=
  I.laid (fun _ _ q=>Heap.get?_push_of_some _ q) (Nat.le_refl _) ⟨hz,its,0,hv,Heap.get?_push_size _ rfl⟩
theorem Inv.fresh (I:Inv X pins σ H s):H s.heap.objs.size=none:=I.hok.fresh (Nat.le_refl _)
theorem Inv.lstM (I:Inv X pins σ H s) (hH:H l=some (.lst xs)):xs.length<=sizeLine/\∃(its:List Value) (n:Nat),Vals xs its/\xs.length=its.length/\s.heap.get? l=some {cls:=.type "list",data:=.seq its.toArray n}:=by
 obtain ⟨z,its,n,r,e⟩:=I.hok l _ hH;exact ⟨z,its,n,r,r.length,e⟩
theorem aoN {n:Nat} (h:n<=sizeLine):Builtin.List.listTooLong n=false:=by
 unfold Builtin.List.listTooLong;exact decide_eq_false (by omega)
end
section
variable {X:Cx}
noncomputable def asI:V->List V->Hp->VK->Prop:=fun x vs H Q=>∃ l xs y,x=.ref l/\vs=[y]/\H l=some (.lst xs)/\xs.length < sizeLine/\Q .non (upd H l (.lst (xs++[y])))
theorem alN:MtM X "list.append" asI:=by
 intro pins s σ H x vs v us Q I rx rv h;obtain ⟨l,xs,y,rfl,rfl,hH,hz,q⟩:=h;cases rx;obtain ⟨u,rfl,ru⟩:=rv.one;obtain ⟨z,its,n,r,hl,e⟩:=I.lstM hH;refine call_meets F.slot_list_append ⟨_,e,rfl⟩ F.entry_list_append (F.args_list_append_2 _ _) (PySem.list_append l its.toArray n u (by rw [List.size_toArray];omega)) ⟨e,?_⟩;refine ⟨.non,_,I.lset (its':=its++[u]) hH e (by simp) (r.append (.cons ru .nil)) ?_,rfl,q⟩;rw [List.length_append,List.length_singleton];omega
noncomputable def asQ:V->List V->Hp->VK->Prop:=fun x vs H Q=>∃ l b xs zs,x=.ref l/\vs=[.ref b]/\H l=some (.lst xs)/\H b=some (.lst zs)/\xs.length+zs.length<=sizeLine/\Q .non (upd H l (.lst (xs++zs)))
theorem amI:MtM X "list.extend" asQ:=by
 intro pins s σ H x vs v us Q I rx rv h;obtain ⟨l,b,xs,zs,rfl,rfl,hH,hB,hz,q⟩:=h;cases rx;obtain ⟨u,rfl,ru⟩:=rv.one;cases ru;obtain ⟨z,its,n,r,hl,e⟩:=I.lstM hH;obtain ⟨z2,its2,n2,r2,hl2,e2⟩:=I.lstM hB;have hsz:its.toArray.size+its2.toArray.size<=sizeLine:=by rw [List.size_toArray,List.size_toArray];omega
 have hlong:¬ (!its.toArray.isEmpty && Builtin.List.listTooLong (its.toArray.size+its2.toArray.size))=true:=by
  rw [aoN hsz,Bool.and_false];exact Bool.false_ne_true
 refine call_meets F.slot_list_extend ⟨_,e,rfl⟩ F.entry_list_extend (F.args_list_extend_2 _ _)
  (AutoSeq1.list_extend_list_list_0 l its.toArray n b its2.toArray n2 hlong (by rw [List.size_toArray];omega) (by omega)) ⟨e,e2,?_⟩
 refine ⟨.non,_,I.lset (its':=its++its2) hH e (by simp) (r.append r2) ?_,rfl,q⟩;rw [List.length_append];omega
noncomputable def aCK:V->List V->Hp->VK->Prop:=fun x vs H Q=>∃ l xs y,x=.ref l/\vs=[]/\H l=some (.lst xs)/\xs[xs.length - 1]?=some y/\Q y (upd H l (.lst xs.dropLast))
theorem axL:MtM X "list.pop" aCK:=by
 intro pins s σ H x vs v us Q I rx rv h;obtain ⟨l,xs,y,rfl,rfl,hH,hy,q⟩:=h;cases rx;have hus:=rv.zero;subst hus;obtain ⟨z,its,n,r,hl,e⟩:=I.lstM hH;obtain ⟨u,hu,ru⟩:=r.get hy;have hy':its.toArray[its.toArray.size - 1]?=some u:=by
  show its.toArray[its.length - 1]?=some u;rw [<- Array.getElem?_toList,<- hl];exact hu
 refine call_meets F.slot_list_pop ⟨_,e,rfl⟩ F.entry_list_pop (F.args_list_pop_1 _) (MeetsSeq.list_pop_last l its.toArray n u hy' (by rw [List.size_toArray];omega)) ⟨e,?_⟩;refine ⟨y,_,I.lset (its':=its.dropLast) hH e ?_ r.dropLast ?_,ru,q⟩
 ·show its.toArray.eraseIdxIfInBounds (its.toArray.size - 1)=its.dropLast.toArray;rw [List.size_toArray,List.eraseIdxIfInBounds_toArray,aiH]
 ·rw [List.length_dropLast];omega
noncomputable def axE:V->List V->Hp->VK->Prop:=fun x vs H Q=>∃ l xs i k y,x=.ref l/\vs=[.int i]/\H l=some (.lst xs)/\-(2 ^ 63)<=i/\i < 2 ^ 63/\seqIndex? i xs.length=some k/\xs[k]?=some y/\Q y (upd H l (.lst (xs.eraseIdx k)))
theorem apP:MtM X "list.pop" axE:=by
 intro pins s σ H x vs v us Q I rx rv h;obtain ⟨l,xs,i,k,y,rfl,rfl,hH,h1,h2,hk,hy,q⟩:=h;cases rx;obtain ⟨u,rfl,ru⟩:=rv.one;obtain ⟨t,rfl⟩:=ru;obtain ⟨z,its,n,r,hl,e⟩:=I.lstM hH;obtain ⟨w,hw,rw'⟩:=r.get hy;refine call_meets F.slot_list_pop ⟨_,e,rfl⟩ F.entry_list_pop (F.args_list_pop_2 _ _)
  (MeetsSeq.list_pop_at l its.toArray n i t k w (fitsIndex_both h1 h2) (by rw [List.size_toArray,<- hl];exact hk) (by rw [<- Array.getElem?_toList];exact hw) (by rw [List.size_toArray];omega)) ⟨e,?_⟩
 refine ⟨y,_,I.lset (its':=its.eraseIdx k) hH e ?_ (r.eraseIdx k) ?_,rw',q⟩
 ·show its.toArray.eraseIdxIfInBounds k=(its.eraseIdx k).toArray;rw [List.eraseIdxIfInBounds_toArray]
 ·have:=abM xs k;omega
noncomputable def aBJ:R2:=fun x y H Q=>∃ l b xs zs,x=.ref l/\y=.ref b/\H l=some (.lst xs)/\H b=some (.lst zs)/\xs.length+zs.length<=sizeLine/\∀ p,H p=none->Q (.ref p) (upd H p (.lst (xs++zs)))
theorem av0:jZ X (binaryOp .Add) aBJ:=by
 intro pins s σ H x y v u Q I rx ry h;obtain ⟨l,b,xs,zs,rfl,rfl,hH,hB,hz,q⟩:=h;cases rx;cases ry;obtain ⟨z,its,n,r,hl,e⟩:=I.lstM hH;obtain ⟨z2,its2,n2,r2,hl2,e2⟩:=I.lstM hB;refine PySem.P.add_list e e2 ?_ (by rw [List.size_toArray,List.size_toArray];omega);have ea:its.toArray++its2.toArray=(its++its2).toArray:=by simp
 rw [ea];exact ⟨.ref _,_,I.lnew (t':=s.toks) (r.append r2) (by rw [List.length_append];omega),rfl,q _ I.fresh⟩
end
end L2
namespace L2
open PySem PySem.Spec PyProof.Rows
section
variable {κ:Type} [DecidableEq κ]
noncomputable def cI (kvs:List (κ×V)) (k:κ):Option V:=(kvs.find? fun kv=>decide (kv.1=k)).map (·.2)
noncomputable def eI (kvs:List (κ×V)) (k:κ) (v:V):List (κ×V) :=
 if (kvs.any fun kv=>decide (kv.1=k))=true then kvs.map (fun kv=>if kv.1=k then (kv.1,v) else kv) else kvs++[(k,v)]
noncomputable def vI (kvs:List (κ×V)) (k:κ):List (κ×V):=kvs.filter fun kv=>decide (kv.1≠k)
theorem afI {k:κ}:cI ([]:List (κ×V)) k=none:=rfl
theorem cU {p:κ×V} {r:List (κ×V)} {k:κ} (e:p.1=k):cI (p::r) k=some p.2:=by simp [cI,List.find?_cons,e]
theorem cH {p:κ×V} {r:List (κ×V)} {k:κ} (e:¬ p.1=k):cI (p::r) k=cI r k:=by simp [cI,List.find?_cons,e]
theorem nY (k:κ):∀ kvs:List (κ×V),(kvs.any fun kv=>decide (kv.1=k))=(cI kvs k).isSome
 | []=>rfl
 | p::r=>by
  rw [List.any_cons];by_cases e:p.1=k
  ·simp only [cU e,decide_eq_true e,Bool.true_or,Option.isSome_some]
  ·rw [cH e,decide_eq_false e,Bool.false_or];exact nY k r
theorem af5 (k j:κ) (y:V):∀ kvs:List (κ×V),cI (kvs.map fun kv=>if kv.1=k then (kv.1,y) else kv) j=(cI kvs j).map fun x=>if j=k then y else x
 | []=>rfl
 | p::r=>by
  have ih:=af5 k j y r;rw [List.map_cons];by_cases h:p.1=k
  ·rw [if_pos h];by_cases e:p.1=j
   ·rw [cU (p:=(p.1,y)) e,cU e,Option.map_some,if_pos (e.symm.trans h)]
   ·rw [cH (p:=(p.1,y)) e,cH e,ih]
  ·rw [if_neg h];by_cases e:p.1=j
   ·rw [cU (p:=p) e,cU e,Option.map_some,if_neg (fun z=>h (e.trans z))]
   ·rw [cH (p:=p) e,cH e,ih]
theorem acA (k j:κ) (y:V):∀ kvs:List (κ×V),cI kvs k=none->cI (kvs++[(k,y)]) j=if j=k then some y else cI kvs j
 | [],_=>by
  by_cases e:k=j
  ·rw [if_pos e.symm];exact cU (p:=(k,y)) e
  ·rw [if_neg (fun z=>e z.symm)];exact cH (p:=(k,y)) e
 | p::r,hn=>by
  rw [List.cons_append];have hk:¬ p.1=k:=fun z=>by rw [cU z] at hn;cases hn
  rw [cH hk] at hn;have ih:=acA k j y r hn;by_cases e:p.1=j
  ·rw [cU e,cU e,if_neg (fun z=>hk (e.trans z))]
  ·rw [cH e,cH e,ih]
theorem yL (kvs:List (κ×V)) (k j:κ) (y:V):cI (eI kvs k y) j=if j=k then some y else cI kvs j:=by
 unfold eI;by_cases a:(kvs.any fun kv=>decide (kv.1=k))=true
 ·rw [if_pos a,af5];rw [nY] at a;by_cases e:j=k
  ·obtain ⟨x,hx⟩:=Option.isSome_iff_exists.mp a;rw [if_pos e,e,hx,Option.map_some,if_pos rfl]
  ·rw [if_neg e];cases cI kvs j with
   | none=>rfl
   | some x=>rw [Option.map_some,if_neg e]
 ·rw [if_neg a];refine acA k j y kvs ?_;rw [nY] at a;cases q:cI kvs k with
  | none=>rfl
  | some x=>rw [q] at a;exact (a rfl).elim
theorem nS (kvs:List (κ×V)) (k:κ) (v:V):(eI kvs k v).length<=kvs.length+1:=by
 unfold eI;split
 ·rw [List.length_map];omega
 ·rw [List.length_append,List.length_cons,List.length_nil];omega
theorem yZ {kvs:List (κ×V)} {k:κ} (v:V) (h:cI kvs k=none):eI kvs k v=kvs++[(k,v)]:=by
 unfold eI;rw [nY,h];exact if_neg (by decide)
theorem lA.isSome_eq {o:Option V} {u:Option Value} (r:lA o u):o.isSome=u.isSome:=by
 cases o with
 | none=>cases u with
  | none=>rfl
  | some _=>exact (show False from r).elim
 | some _=>cases u with
  | none=>exact (show False from r).elim
  | some _=>rfl
theorem lA.getD {o:Option V} {u:Option Value} {d:V} {d':Value} (r:lA o u) (rd:bO d d'):bO (o.getD d) (u.getD d'):=by
 cases o with
 | none=>cases u with
  | none=>exact rd
  | some _=>exact (show False from r).elim
 | some _=>cases u with
  | none=>exact (show False from r).elim
  | some _=>exact r
theorem KV.val {kvs:List (κ×V)} {vs:List (κ×Value)} (r:KV kvs vs) (k:κ):lA (cI kvs k) (valueAt vs k):=by
 unfold KV at r
 induction r with
 | nil=>exact True.intro
 | @cons p q ps qs h t ih =>
  obtain ⟨h1,h2⟩:=h;by_cases e:p.1=k
  ·have e':q.1=k:=h1.symm.trans e;have b:valueAt (q::qs) k=some q.2:=by simp [valueAt,List.find?_cons,e']
   rw [cU e,b];exact h2
  ·have e':¬ q.1=k:=fun z=>e (h1.trans z);have b:valueAt (q::qs) k=valueAt qs k:=by simp [valueAt,List.find?_cons,e']
   rw [cH e,b];exact ih
theorem KV.any {kvs:List (κ×V)} {vs:List (κ×Value)} (r:KV kvs vs) (k:κ):(kvs.any fun kv=>decide (kv.1=k))=vs.any fun kv=>decide (kv.1=k):=by
 unfold KV at r
 induction r with
 | nil=>rfl
 | cons h t ih=>rw [List.any_cons,List.any_cons,ih,h.1]
theorem KV.repl {kvs:List (κ×V)} {vs:List (κ×Value)} (r:KV kvs vs) (k:κ) {y:V} {u:Value} (ry:bO y u) :
    KV (kvs.map fun kv=>if kv.1=k then (kv.1,y) else kv) (vs.map fun kv=>if kv.1=k then (kv.1,u) else kv):=by
  unfold KV at r ⊢
  induction r with
  | nil=>exact .nil
  | @cons p q ps qs h t ih =>
    rw [List.map_cons,List.map_cons];refine .cons ?_ ih;obtain ⟨h1,h2⟩:=h;by_cases e:p.1=k
    · rw [if_pos e,if_pos (h1.symm.trans e)];exact ⟨h1,ry⟩
    · rw [if_neg e,if_neg (fun z=>e (h1.trans z))];exact ⟨h1,h2⟩
theorem KV.put {kvs:List (κ×V)} {vs:List (κ×Value)} (r:KV kvs vs) (k:κ) {y:V} {u:Value} (ry:bO y u):KV (eI kvs k y) (stored vs k u):=by
 unfold eI stored;rw [r.any k];by_cases e:(vs.any fun kv=>decide (kv.1=k))=true
 ·rw [if_pos e,if_pos e];exact r.repl k ry
 ·rw [if_neg e,if_neg e];exact Paired.snoc r ⟨rfl,ry⟩
theorem KV.drop {kvs:List (κ×V)} {vs:List (κ×Value)} (r:KV kvs vs) (k:κ):KV (vI kvs k) (without vs k):=by
 unfold KV at r ⊢;unfold vI without
 induction r with
 | nil=>exact .nil
 | @cons p q ps qs h t ih =>
  obtain ⟨h1,h2⟩:=h;rw [List.filter_cons,List.filter_cons];by_cases e:p.1=k
  ·have a:¬ decide (p.1≠k)=true:=by simp [e]
   have b:¬ decide (q.1≠k)=true:=by simp [h1.symm.trans e]
   rw [if_neg a,if_neg b];exact ih
  ·have e':¬ q.1=k:=fun z=>e (h1.trans z);have a:decide (p.1≠k)=true:=by simp [e]
   have b:decide (q.1≠k)=true:=by simp [e']
   rw [if_pos a,if_pos b];exact .cons ⟨h1,h2⟩ ih
theorem KV.length {kvs:List (κ×V)} {vs:List (κ×Value)} (r:KV kvs vs):kvs.length=vs.length:=Paired.length r
theorem aoX (kvs:List (κ×V)) (k:κ):(vI kvs k).length<=kvs.length:=List.length_filter_le _ _
end
theorem vK {P:Program} {w:World} {k:Key} {u:Value} (r:bO (kV k) u):(bY P w).is k u=true:=by
 cases k with
 | inl i=>obtain ⟨t,e⟩:=(show ∃ t,u=Value.int i t from r);subst e;exact ae4 P w i t
 | inr x=>obtain ⟨t,e⟩:=(show ∃ t,u=Value.str x t from r);subst e;exact aeQ P w x t
 | no=>cases (show u=Value.none from r);rfl
theorem abY {P:Program} {w:World}:∀ {ks:List Key} {us:List Value},Vals (ks.map kV) us->ItemsAre (bY P w) ks us
 | [],_,r=>by rw [List.map_nil] at r;cases r;exact .nil
 | k::ks,_,r=>by
  rw [List.map_cons] at r;cases r with
  | cons h t=>exact .cons (vK h) (abY t)
noncomputable abbrev KT (H:Hp):List (List Key×V)->List (List Key×Addr×Value)->Prop:=Paired fun p q=>p.1=q.1/\H q.2.1=some (.tup (p.1.map kV))/\bO p.2 q.2.2
theorem KT.val {H:Hp} {kvs:List (List Key×V)} {xs:List (List Key×Addr×Value)} (r:KT H kvs xs) (k:List Key):lA (cI kvs k) ((atKey xs k).map (·.2)):=by
 induction r with
 | nil=>exact True.intro
 | @cons p q ps qs h t ih =>
  obtain ⟨h1,_,h2⟩:=h;by_cases e:p.1=k
  ·have e':q.1=k:=h1.symm.trans e;have b:atKey (q::qs) k=some q.2:=by simp [atKey,List.find?_cons,e']
   rw [cU e,b];exact h2
  ·have e':¬ q.1=k:=fun z=>e (h1.trans z);have b:atKey (q::qs) k=atKey qs k:=by simp [atKey,List.find?_cons,e']
   rw [cH e,b];exact ih
theorem KT.repl {H:Hp} {kvs:List (List Key×V)} {xs:List (List Key×Addr×Value)} (r:KT H kvs xs) (k:List Key) {y:V} {u:Value} (ry:bO y u) :
    KT H (kvs.map fun kv=>if kv.1=k then (kv.1,y) else kv) (xs.map (putAt k u)):=by
  induction r with
  | nil=>exact .nil
  | @cons p q ps qs h t ih =>
    rw [List.map_cons,List.map_cons];refine .cons ?_ ih;obtain ⟨h1,h2,h3⟩:=h;unfold putAt;by_cases e:p.1=k
    · rw [if_pos e,if_pos (h1.symm.trans e)];exact ⟨h1,h2,ry⟩
    · rw [if_neg e,if_neg (fun z=>e (h1.trans z))];exact ⟨h1,h2,h3⟩
theorem KT.put {H:Hp} {kvs:List (List Key×V)} {xs:List (List Key×Addr×Value)} (r:KT H kvs xs) (k:List Key) {b:Addr} {y:V} {u:Value} (hb:H b=some (.tup (k.map kV))) (ry:bO y u) :
    KT H (eI kvs k y) (storedH xs k b u):=by
  have e:(kvs.any fun kv=>decide (kv.1=k))=(atKey xs k).isSome:=by
    rw [nY,(r.val k).isSome_eq,Option.isSome_map]
  unfold eI storedH;rw [e];by_cases q:(atKey xs k).isSome=true
  · rw [if_pos q,if_pos q];exact r.repl k ry
  · rw [if_neg q,if_neg q];exact Paired.snoc r ⟨rfl,hb,ry⟩
theorem KT.keeps {H H':Hp} {kvs:List (List Key×V)} {xs:List (List Key×Addr×Value)} (r:KT H kvs xs) (ht:∀ b ys,H b=some (.tup ys)->H' b=some (.tup ys)):KT H' kvs xs :=
 Paired.mapP r fun _ _ z=>⟨z.1,ht _ _ z.2.1,z.2.2⟩
section
variable {P:Program} {w:World} {H:Hp} {h:Heap} {a:Addr}
theorem at0 {u:HO} (ok:HOk P w H h) (e:Rd H a u):dM P w H h a u:=e.ok ok
theorem xV {kvs:List (Key×V)} (ok:HOk P w H h) (e:Rd H a (.dK kvs)):kvs.length<=sizeLine/\(a == sysModules)=false/\∃ vs,KV kvs vs/\h.DictOf (bY P w) a vs :=
 show dM P w H h a (.dK kvs) from at0 ok e
theorem rV {kvs:List (Key×V)} (ok:HOk P w H h) (e:H a=some (.dK kvs)):kvs.length<=sizeLine/\(a == sysModules)=false/\∃ vs,KV kvs vs/\h.DictOf (bY P w) a vs:=xV ok (.inl e)
theorem uN {ks:List Key} (ok:HOk P w H h) (e:H a=some (.tup (ks.map kV))):(tupleKind (bY P w)).is h ks a:=by
 obtain ⟨_,its,r,o,h1,h2,n,h3⟩:=(show dM P w H h a (.tup (ks.map kV)) from ok a _ e);exact ⟨o,its.toArray,n,h1,h2,h3,by simpa using abY r⟩
theorem zG {kvs:List (List Key×V)} (ok:HOk P w H h) (e:Rd H a (.dT kvs)):kvs.length<=sizeLine/\(a == sysModules)=false /\
    ∃ xs,KT H kvs xs/\h.DictOfH (tupleKind (bY P w)) a xs:=by
  obtain ⟨z,y,xs,r,o,es,ep,h1,h2,h3,h4,h5⟩:=(show dM P w H h a (.dT kvs) from at0 ok e);refine ⟨z,y,xs,r,o,es,ep,h1,h2,h3,h4,fun x hx=>?_,h5⟩;have all:∀ {l:List (List Key×V)} {m:List (List Key×Addr×Value)},KT H l m->∀ x∈m,(tupleKind (bY P w)).is h x.1 x.2.1:=by
    intro l m q
    induction q with
    | nil=>intro x hx;exact nomatch hx
    | @cons p q ps qs hq t ih =>
      intro x hx;rcases List.mem_cons.mp hx with e | hx
      · subst e;exact uN ok (by rw [<- hq.1];exact hq.2.1)
      · exact ih x hx
  exact all r x hx
theorem aA9 {kvs:List (List Key×V)} (ok:HOk P w H h) (e:H a=some (.dT kvs)):kvs.length<=sizeLine/\(a == sysModules)=false /\
    ∃ xs,KT H kvs xs/\h.DictOfH (tupleKind (bY P w)) a xs:=zG ok (.inl e)
end
noncomputable def DGet (H:Hp) (a:Addr) (y:V) (r:Option V):Prop :=
 (∃ kvs k,Rd H a (.dK kvs)/\y=kV k/\r=cI kvs k)\/∃ kvs k b,Rd H a (.dT kvs)/\y=.ref b/\H b=some (.tup (k.map kV))/\r=cI kvs k
noncomputable def DPut (H:Hp) (a:Addr) (y v:V) (H':Hp):Prop :=
 (∃ kvs k,H a=some (.dK kvs)/\y=kV k/\kvs.length < sizeLine/\H'=upd H a (.dK (eI kvs k v))) \/
 ∃ kvs k b,H a=some (.dT kvs)/\y=.ref b/\H b=some (.tup (k.map kV))/\kvs.length < sizeLine/\H'=upd H a (.dT (eI kvs k v))
theorem DGet.k {H:Hp} {a:Addr} {kvs:List (Key×V)} {k:Key} (e:H a=some (.dK kvs)):DGet H a (kV k) (cI kvs k):=.inl ⟨kvs,k,.inl e,rfl,rfl⟩
theorem DPut.k {H:Hp} {a:Addr} {kvs:List (Key×V)} {k:Key} {v:V} (e:H a=some (.dK kvs)) (hl:kvs.length < sizeLine):DPut H a (kV k) v (upd H a (.dK (eI kvs k v))):=.inl ⟨kvs,k,e,rfl,hl,rfl⟩
section
variable {X:Cx} {pins:List (Addr×Obj)} {σ:St} {H:Hp} {s:Shared} {a:Addr} {y v:V} {u r:Value} {o:Option V} {A:Around} {E:Value->Shared->Prop}
theorem Inv.big (I:Inv X pins σ H s):sysModules < s.heap.objs.size:=by
 have h:mainGlobals < s.heap.objs.size:=(I.mod.glob.keeps I.bk).lt;exact Nat.lt_trans (by decide) h
theorem ak5 {Q:Value->Shared->Prop} (hu:A.units+1 < cLine) (I:Inv X pins σ H s) (g:DGet H a y (some v)) (ry:bO y u) (h:∀ w' s',Inv X pins σ H s'->bO v w'->Q w' s') :
    wpAny (model X.prog X.w) A (getItem (.ref a) u) Q E s:=by
  rcases g with ⟨kvs,k,e,ey,l⟩ | ⟨kvs,k,b,e,ey,eb,l⟩
  · subst ey;obtain ⟨z,hd,vs,rel,dd⟩:=xV I.hok e;obtain ⟨w',hw,rw'⟩:=lA.some_of (v:=v) (o:=valueAt vs k) (by rw [l];exact rel.val k);exact wpAny_getItem_of (vK ry) dd.mapOf hw (h w' _ (I.tok _) rw')
  · subst ey;cases (show u=Value.ref b from ry);obtain ⟨z,hd,xs,rel,dd⟩:=zG I.hok e;obtain ⟨w',hw,rw'⟩:=lA.some_of (v:=v) (o:=(atKey xs k).map (·.2)) (by rw [l];exact rel.val k);obtain ⟨p,hp,hp2⟩:=Option.map_eq_some_iff.mp hw;refine wpAny_getItem_heap (tupleKind_room_in1 hu) (uN I.hok eb) dd hp ?_;rw [hp2];exact h w' _ (I.tok _) rw'
theorem aCB {Q:Value->Shared->Prop} (hu:A.units+1 < cLine) (I:Inv X pins σ H s) (g:DGet H a y o) (ry:bO y u) (h:∀ s',Inv X pins σ H s'->Q (.bool o.isSome) s') :
    wpAny (model X.prog X.w) A (compareOp .In u (.ref a)) Q E s:=by
  rcases g with ⟨kvs,k,e,ey,l⟩ | ⟨kvs,k,b,e,ey,eb,l⟩
  · subst ey;obtain ⟨z,hd,vs,rel,dd⟩:=xV I.hok e;refine wpAny_in_of (vK ry) hd dd.mapOf ?_;rw [<- (rel.val k).isSome_eq,<- l];exact h _ (I.tok _)
  · subst ey;cases (show u=Value.ref b from ry);obtain ⟨z,hd,xs,rel,dd⟩:=zG I.hok e;refine wpAny_in_heap (tupleKind_room_in1 hu) (uN I.hok eb) hd dd ?_;have q:=(rel.val k).isSome_eq;rw [Option.isSome_map] at q;rw [<- q,<- l];exact h _ (I.tok _)
theorem rO {h':Heap} {t':Nat} {ob:HO} (I:Inv X pins σ H s) (mu:Mut (H a)) (hs:Heap.SameBut a s.heap h') (he:∃ q,h'.get? a=some q) (new:dM X.prog X.w (upd H a ob) h' a ob) :
    Inv X pins σ (upd H a ob) {s with heap:=h',toks:=t'} :=
  I.write (x:=a) (e:=a) mu (.inl rfl) (fun b q hb z=>(hs.2 b hb).trans z) he new
theorem aaJ {P:Program} {w:World} {H':Hp} {h':Heap} {kvs:List (Key×V)} {vs:List (Key×Value)} (z:kvs.length<=sizeLine) (hd:(a == sysModules)=false) (rel:KV kvs vs) (dd:h'.DictOf (bY P w) a vs) :
    dM P w H' h' a (.dK kvs):=⟨z,hd,vs,rel,dd⟩
theorem akR {H':Hp} {Q:Unit->Shared->Prop} (hu:A.units+1 < cLine) (I:Inv X pins σ H s) (g:DPut H a y v H') (ry:bO y u) (rv:bO v r) (h:∀ s',Inv X pins σ H' s'->Q () s') :
    wpAny (model X.prog X.w) A (setItem (.ref a) u r) Q E s:=by
  rcases g with ⟨kvs,k,e,ey,l,eH⟩ | ⟨kvs,k,b,e,ey,eb,l,eH⟩
  · subst ey eH;obtain ⟨z,hd,vs,rel,dd⟩:=rV I.hok e;have hz:vs.length<=sizeLine:=by rw [<- rel.length];exact z
    have hl:(eI kvs k v).length<=sizeLine:=by have:=nS kvs k v;omega
    refine wpAny_setItem_pairs (hsz:=hz) (vK ry) dd fun h' dd' hs=>h _ ?_;have he:∃ q,h'.get? a=some q:=let ⟨q,_,_,hq,_⟩:=dd';⟨q,hq⟩;exact rO I (by rw [e];exact True.intro) hs he (aaJ hl hd (rel.put k rv) dd')
  · subst ey eH;cases (show u=Value.ref b from ry);obtain ⟨z,hd,xs,rel,dd⟩:=aA9 I.hok e;have hz:xs.length<=sizeLine:=by rw [<- Paired.length rel];exact z
    have hl:(eI kvs k v).length<=sizeLine:=by have:=nS kvs k v;omega
    refine wpAny_setItem_heap (hsz:=hz) (tupleKind_room_in1 hu) (uN I.hok eb) dd fun h' dd' hs=>h _ ?_;obtain ⟨q,es,ep,hq,h2,h3,h4,_,h5⟩:=dd';refine rO I (by rw [e];exact True.intro) hs ⟨q,hq⟩ ⟨hl,hd,_,(rel.put k eb rv).keeps fun c ys ec=>?_,q,es,ep,hq,h2,h3,h4,h5⟩;rw [aI (dP ec e (fun z=>nomatch z))];exact ec
end
section
variable {X:Cx} {pins:List (Addr×Obj)} {σ:St} {H:Hp} {s:Shared} {a:Addr} {kvs:List (Key×V)} {k:Key} {u:Value} {A:Around} {E:Value->Shared->Prop}
theorem aA3 {v:V} {more:List Value} {Q:Value->Shared->Prop} (I:Inv X pins σ H s) (e:H a=some (.dK kvs)) (ry:bO (kV k) u) (l:cI kvs k=some v) (hm:more=[]\/∃ x,more=[x])
    (h:∀ w' s',Inv X pins σ (upd H a (.dK (vI kvs k))) s'->bO v w'->Q w' s'):wpAny (model X.prog X.w) A (call (.builtin "dict.pop") (.ref a::u::more)) Q E s:=by
  obtain ⟨z,hd,vs,rel,dd⟩:=rV I.hok e;obtain ⟨w',hw,rw'⟩:=lA.some_of (v:=v) (o:=valueAt vs k) (by rw [<- l];exact rel.val k);have hp:(keyPart u).isSome=true:=by
    cases k with
    | inl i=>obtain ⟨t,q⟩:=(show ∃ t,u=Value.int i t from ry);subst q;rfl
    | inr x=>obtain ⟨t,q⟩:=(show ∃ t,u=Value.str x t from ry);subst q;rfl
    | no=>cases (show u=Value.none from ry);rfl
  have ha:argsOk "dict.pop" ⟨.ref a::u::more,[]⟩:=by
    rcases hm with q | ⟨x,q⟩
    · subst q;exact PySem.F.args_dict_pop_2 _ _
    · subst q;exact PySem.F.args_dict_pop_3 _ _ _
  refine call_meetsIn PySem.F.slot_dict_pop dd.typeIs PySem.F.entry_dict_pop ha (meets_dict_pop_there (bY X.prog X.w) a (vK ry) more hm hp)
    ⟨vs,w',dd,by rw [<- rel.length];exact z,hw,fun h' dd' hs=>h w' _ ?_ rw'⟩
  have he:∃ q,h'.get? a=some q:=let ⟨q,_,_,hq,_⟩:=dd';⟨q,hq⟩;exact rO I (by rw [e];exact True.intro) hs he (aaJ (Nat.le_trans (aoX kvs k) z) hd (rel.drop k) dd')
end
noncomputable def awU (i:Expr):Prop:=∀ ov iv,subscripted i false ov iv=operate [ov,iv] (getItem ov iv)
theorem ajD {prog:Program} {w:World} {A:Around} {E:Value->Shared->Prop} {s:Shared} {env:Env} {value slice:Expr} {pos:Pos} {T id:String} {Q:Value->Shared->Prop}
    (hl:typeLookup (.type T) "__getitem__"=pure (some (.builtin id))) (hs:awU slice)
    (h:wpAny (model prog w) A (eval value env) (fun o s₁=>wpAny (model prog w) A (eval slice env) (fun i s₂=>s₂.TypeIs o T/\wpAny (model prog w) A (getItem o i) Q E s₂) E s₁) E s) :
    wpAny (model prog w) A (eval (.Subscript value slice pos) env) Q E s:=by
  refine Subscript_ (wpAny_mono h (fun o s₁ h₁=>wpAny_mono h₁ (fun i s₂ h₂=>?_) fun _ _ x=>x) fun _ _ x=>x);obtain ⟨hT,h₂⟩:=h₂;unfold subscriptTail;refine wpAny_bind ?_;rw [getitemInPython_of_ne hT.not_modules];refine wpAny_bind (wpAny_specialOf hT hl ?_);have fin:wpAny (model prog w) A (subscripted slice false o i) (fun r s₃=>wpAny (model prog w) A (letTemporaryGo value o r >>= fun _=>pure r) Q E s₃) E s₂:=by
    rw [hs o i];exact wpAny_operating (wpAny_mono h₂ (fun r s₃ h₃=>wpAny_bind (wpAny_letTemporaryGo (wpAny_pure h₃))) fun _ _ x=>x)
  first
    | exact wpAny_pure (wpAny_bind fin)
    | exact wpAny_bind (wpAny_pure (wpAny_bind fin))
    | exact wpAny_bind fin
theorem vH {X:Cx} {pins:List (Addr×Obj)} {σ:St} {H:Hp} {s:Shared} {a:Addr} {y:V} {o:Option V} (I:Inv X pins σ H s) (g:DGet H a y o):s.TypeIs (.ref a) "dict":=by
 rcases g with ⟨kvs,k,e,_,_⟩ | ⟨kvs,k,b,e,_,_,_⟩
 ·obtain ⟨_,_,vs,_,dd⟩:=xV I.hok e;exact dd.typeIs
 ·obtain ⟨_,_,xs,_,dd⟩:=zG I.hok e;exact dd.typeIs
section
variable {X:Cx} {o i e value:Expr} {pos pos' tpos:Pos} {td ty tv:TE}
end
theorem apU {P:Program} {w:World} {H:Hp} (h:Heap) (hb:sysModules < h.objs.size):dM P w H (h.push {cls:=.type "dict",data:=.dict #[]}) h.objs.size (.dK []) :=
 ⟨Nat.zero_le _,beq_eq_false_iff_ne.mpr (Ne.symm (Nat.ne_of_lt hb)),[],.nil,Heap.DictOf.new h⟩
noncomputable def aoZ:TE:=fun _ H Q=>∀ p,H p=none->Q (.ref p) (upd H p (.dK []))
section
variable {X:Cx} {pos:Pos}
theorem rW:PE X (.Dict [] [] pos) aoZ:=fun pins s σ H Q I h =>
 wpAny_Dict_empty ⟨.ref s.heap.objs.size,_,I.laid (a:=s.heap.objs.size) (o:=.dK []) (t':=s.toks) (fun _ _ q=>Heap.get?_push_of_some _ q) (Nat.le_refl _) (apU s.heap I.big),rfl,h _ (I.hok.fresh (Nat.le_refl _))⟩
end
noncomputable def an7:List (TE×TE)->St->Hp->(List (V×V)->Hp->Prop)->Prop
 | [],_,H,Q=>Q [] H
 | (tk,tv)::r,σ,H,Q=>tk σ H fun x H1=>tv σ H1 fun y H2=>an7 r σ H2 fun ps H3=>Q ((x,y)::ps) H3
noncomputable abbrev VV:List (V×V)->List (Value×Value)->Prop:=Paired fun p q=>bO p.1 q.1/\bO p.2 q.2
noncomputable def PPs (X:Cx) (pos:Pos) (keys:List (Option Expr)) (values:List Expr) (trs:List (TE×TE)):Prop :=
 ∀(pins:List (Addr×Obj)) (s:Shared) (σ:St) (H:Hp) (Q:List (V×V)->Hp->Prop),Inv X pins σ H s->an7 trs σ H Q ->
  wpAny (model X.prog X.w) X.A (evalPairs (pairTrees keys values X.env pos)) (fun vs s'=>∃ ps H',Inv X pins σ H' s'/\VV ps vs/\Q ps H') X.xe s
structure M1 (X:Cx) (o:Expr) (m:Str) (apos:Pos) (e:Expr) (cpos:Pos):Prop where
 base:attributeBase o m X.env (eval o X.env)=eval o X.env
 few:((backTo cpos (starEach [e] X.env)).all (fun x=>!x.1) && (backToKw cpos (keywordEach [] X.env)).all (fun x=>x.1.isSome)
  && decide (([e]:List Expr).length+([]:List Keyword).length+(if ([]:List Keyword).isEmpty then 0 else 1) < 30))=true
 line:(apos.endLine == cpos.line)=true
 trees:backTo cpos (starEach [e] X.env)=[(false,eval e X.env)]
structure M2 (X:Cx) (o:Expr) (m:Str) (apos:Pos) (e f:Expr) (cpos:Pos):Prop where
 base:attributeBase o m X.env (eval o X.env)=eval o X.env
 few:((backTo cpos (starEach [e,f] X.env)).all (fun x=>!x.1) && (backToKw cpos (keywordEach [] X.env)).all (fun x=>x.1.isSome)
  && decide (([e,f]:List Expr).length+([]:List Keyword).length+(if ([]:List Keyword).isEmpty then 0 else 1) < 30))=true
 line:(apos.endLine == cpos.line)=true
 trees:backTo cpos (starEach [e,f] X.env)=[(false,eval e X.env),(false,eval f X.env)]
noncomputable def IsD (H:Hp) (a:Addr):Prop:=(∃ kvs,Rd H a (.dK kvs))\/∃ kvs,Rd H a (.dT kvs)
theorem tZ {X:Cx} {pins:List (Addr×Obj)} {σ:St} {H:Hp} {s:Shared} {a:Addr} (I:Inv X pins σ H s) (d:IsD H a) :
    s.TypeIs (.ref a) "dict"/\(∀ b,Value.ref a=.ref b->∃ ob,s.heap.get? b=some ob/\ob.dict=none)/\(a == sysModules)=false:=by
  rcases d with ⟨kvs,e⟩ | ⟨kvs,e⟩
  · obtain ⟨_,hd,vs,_,dd⟩:=xV I.hok e;refine ⟨dd.typeIs,fun b q=>?_,hd⟩;cases q;obtain ⟨ob,_,_,h1,h2,_⟩:=dd;exact ⟨ob,h1,h2.2.1⟩
  · obtain ⟨_,hd,xs,_,dd⟩:=zG I.hok e;refine ⟨dd.typeIs,fun b q=>?_,hd⟩;cases q;obtain ⟨ob,_,_,h1,h2,_⟩:=dd;exact ⟨ob,h1,h2.2.1⟩
section
variable {X:Cx} {pins:List (Addr×Obj)} {σ:St} {H:Hp} {s:Shared} {a:Addr} {y d:V} {u r:Value} {o:Option V} {A:Around} {E:Value->Shared->Prop}
theorem au9 {Q:Value->Shared->Prop} (hu:A.units+1 < cLine) (I:Inv X pins σ H s) (g:DGet H a y o) (ry:bO y u) (h:∀ w' s',Inv X pins σ H s'->bO (o.getD .non) w'->Q w' s') :
    wpAny (model X.prog X.w) A (call (.builtin "dict.get") [.ref a,u]) Q E s:=by
  rcases g with ⟨kvs,k,e,ey,l⟩ | ⟨kvs,k,b,e,ey,eb,l⟩
  · subst ey;obtain ⟨z,hd,vs,rel,dd⟩:=xV I.hok e;refine call_meetsIn PySem.F.slot_dict_get dd.typeIs PySem.F.entry_dict_get (PySem.F.args_dict_get_2 _ _) (meets_dict_get (bY X.prog X.w) a (vK ry) hd) ⟨_,dd.mapOf,h _ _ (I.tok _) ?_⟩;rw [l];exact (rel.val k).getD rfl
  · subst ey;cases (show u=Value.ref b from ry);obtain ⟨z,hd,xs,rel,dd⟩:=zG I.hok e;refine call_meetsIn PySem.F.slot_dict_get dd.typeIs PySem.F.entry_dict_get (PySem.F.args_dict_get_2 _ _) (meetsH_dict_get (tupleKind (bY X.prog X.w)) a b hd) ⟨tupleKind_room_in1 hu,k,xs,uN I.hok eb,dd,h _ _ (I.tok _) ?_⟩;rw [l];exact (rel.val k).getD rfl
theorem axI {Q:Value->Shared->Prop} (hu:A.units+1 < cLine) (I:Inv X pins σ H s) (g:DGet H a y o) (ry:bO y u) (rd:bO d r) (h:∀ w' s',Inv X pins σ H s'->bO (o.getD d) w'->Q w' s') :
    wpAny (model X.prog X.w) A (call (.builtin "dict.get") [.ref a,u,r]) Q E s:=by
  rcases g with ⟨kvs,k,e,ey,l⟩ | ⟨kvs,k,b,e,ey,eb,l⟩
  · subst ey;obtain ⟨z,hd,vs,rel,dd⟩:=xV I.hok e;refine call_meetsIn PySem.F.slot_dict_get dd.typeIs PySem.F.entry_dict_get (PySem.F.args_dict_get_3 _ _ _) (meets_dict_get_default (bY X.prog X.w) a (vK ry) hd r) ⟨_,dd.mapOf,h _ _ (I.tok _) ?_⟩;rw [l];exact (rel.val k).getD rd
  · subst ey;cases (show u=Value.ref b from ry);obtain ⟨z,hd,xs,rel,dd⟩:=zG I.hok e;refine call_meetsIn PySem.F.slot_dict_get dd.typeIs PySem.F.entry_dict_get (PySem.F.args_dict_get_3 _ _ _) (meetsH_dict_get_default (tupleKind (bY X.prog X.w)) a b hd r) ⟨tupleKind_room_in1 hu,k,xs,uN I.hok eb,dd,h _ _ (I.tok _) ?_⟩;rw [l];exact (rel.val k).getD rd
end
section
variable {X:Cx} {o e f:Expr} {apos cpos:Pos} {td ty tx:TE}
end
section
variable {X:Cx} {pins:List (Addr×Obj)} {σ:St} {H:Hp} {s:Shared} {a:Addr} {kvs:List (Key×V)} {A:Around} {E:Value->Shared->Prop}
end
section
variable {X:Cx} {pins:List (Addr×Obj)} {σ:St} {H:Hp} {s:Shared} {a:Addr} {y:V} {u:Value} {A:Around} {E:Value->Shared->Prop}
end
end L2
namespace Att
open PySem PySem.W PySem.Calls PyProof.Rows
theorem vY {P:Params} {h:Heap}:∀(ns:List Int) (vs:List Value),WellAll P h vs (ns.map WData.int)->IntsAre vs ns:=by
 intro ns
 induction ns with
 | nil =>
  intro vs w;rw [List.map_nil] at w;cases w;exact .nil
 | cons n ns ih =>
  intro vs w;rw [List.map_cons] at w;cases w with
  | cons a b =>
   cases a;exact .cons _ _ (ih _ b)
theorem amD {l:OpenLaw} {n:Nat} (hn:l.most=some n) {P:Params} {h:Heap} {args:List WData} {vals:List Value}
    (hpre:l.row.toRowW.claim.pre args=true) (hwl:WellAll P h vals args) :
    ∃ a vs ns,vals=[Value.ref a]/\args=[WData.list (ns.map WData.int)]/\h.get? a=some {cls:=.type "list",data:=.seq vs.toArray}/\IntsAre vs ns/\ns.length<=n:=by
  have hsh:WShape.hasAll [] args [.list .int]=true:=(pre_splitW hpre).1;have hc:l.pre.holds [] {args:=args}=true:=(pre_splitW hpre).2;obtain ⟨d,r,rfl,h1,h2⟩:=hasAllW_cons hsh;obtain rfl:=hasAllW_nil h2;obtain ⟨xs,rfl,h3⟩:=hasW_list h1;obtain ⟨ns,rfl⟩:=items_int h3;have hlen:ns.length<=n:=by
    unfold OpenLaw.pre at hc;have h4:(WTm.not (.lt (.lit (.int (n:Int))) (.len (.arg 0)))).holds [] {args:=[.list (ns.map .int)]}=true:=by
      have h4:=(holds_andW hc).1;rw [hn] at h4;exact h4
    have h5:=condW_of h4 (w_not (w_lt w_lit (w_len_list (w_arg rfl))));rw [List.length_map] at h5;refine Nat.le_of_not_lt fun q=>?_;have q':(n:Int) < ((ns.length:Nat):Int):=by omega
    first
      | (rw [decide_eq_true q'] at h5;exact absurd h5 (by decide))
      | (simp at h5;omega)
  cases hwl with
  | cons w1 w2 =>
    cases w2;cases w1 with
    | list ho hall=>exact ⟨_,_,ns,rfl,rfl,ho,vY ns _ hall,hlen⟩
theorem amB (l:OpenLaw) (args:List WData):l.row.toRowW.claim.post args (.bool true) args=true :=
 postW_of (r:=l.row.toRowW) (X:=(true == true))
  (show WShape.has [] (.bool true) .bool=true by first | rfl | decide | simp [WShape.has,WShape.arms,WShape.armsAll])
  (show (WTm.eq .res (.lit (.bool true))).value [] {args:=args,res:=some (.bool true),after:=args}=some (.bool (true == true)) from w_eq_bool (w_res rfl) w_lit) rfl
theorem ae0 {l:OpenLaw} {n:Nat} {q:Program} {loose:List Str} {XP:(Str->Option Value)->Heap->Prop} {YP:World->Heap->Prop} {d:DefRec}
    (hn:l.most=some n) (hdf:d.params.defaults=[])
    (call:∀(w:World) (s₀ s₁:Shared) (mg mb:Str->Option Value) (fa:Addr) (o:Obj) (pm cd doc:Value) (a:Addr) (vs:List Value) (ns:List Int),
      Ground q loose [] XP w s₀ mg mb s₁.heap->YP w s₁.heap ->
      s₁.heap.get? fa=some o->o.data=.func (docDef d.name d.params d.body d.scope pm cd doc)->s₁.heap.CodeRec cd d.name->mg d.name=some (.ref fa) ->
      s₁.heap.get? a=some {cls:=.type "list",data:=.seq vs.toArray}->IntsAre vs ns->ns.length<=n->s₁.gens = #[] ->
      codeAny (model l.prog w) callerA (.call (.ref fa) ⟨[.ref a],[]⟩) (fun r s'=>r=.ok (.ret (.bool true))/\OldK s₁.heap s'.heap/\s'.os=s₁.os/\AllBare s'.gens) s₁) :
    WalkO q loose XP YP l.row.toRowW d [] (fun f vs=>PySem.call f vs):=by
  intro w s₀ s₁ mg mb G Y fa o pm cd doc dV kV ho hd hcd hD hmg hg args vals as hpre hlay hrd hwl hlo;obtain rfl:dV=.none:=Dflts.none hD hdf;obtain rfl:kV=.none:=Dflts.noKw hD;obtain ⟨a,vs,ns,rfl,rfl,hobj,hints,hlen⟩:=amD hn hpre hwl;refine enter_call (codeAny_mono (call w s₀ s₁ mg mb fa o pm cd doc a vs ns G Y ho (fd_plain hd) hcd hmg hobj hints hlen hg) fun r s' hq=>?_);obtain ⟨rfl,h2,h3,h4⟩:=hq;exact ⟨.inl ⟨.bool true,.bool true,[],rfl,fun _=>rfl,.bool true,amB l _,fun _=>⟨List.Pairwise.nil,fun _ hm=>(nomatch hm)⟩⟩,h2,h3,h4⟩
section
variable {prog:Program} {w:World} {A:Around} {E:Value->Shared->Prop} {s:Shared} {K:Frag}
noncomputable def adK (h:Heap):Heap:={h with objs:=#[]}
theorem pX (h:Heap) (b:Addr):(adK h).get? b=none:=by
 cases e:(adK h).get? b with
 | none=>rfl
 | some o=>exact absurd (Heap.lt_size e) (Nat.not_lt_zero _)
noncomputable def ledger (h:Heap) (L d:Addr):List (Addr×Obj):=(List.range h.objs.size).filterMap fun a=>if a=L\/a=d then none else (h.get? a).map fun o=>(a,o)
theorem lM {h:Heap} {L d a:Addr} {o:Obj}:(a,o)∈ledger h L d↔a≠L/\a≠d/\h.get? a=some o:=by
 unfold ledger;rw [List.mem_filterMap];constructor
 ·rintro ⟨b,_,e⟩;split at e
  ·cases e
  ·rename_i hb
   obtain ⟨o',ho,e'⟩:=Option.map_eq_some_iff.mp e;cases e';exact ⟨fun q=>hb (.inl q),fun q=>hb (.inr q),ho⟩
 ·rintro ⟨n1,n2,ho⟩;refine ⟨a,List.mem_range.mpr (Heap.lt_size ho),?_⟩;rw [if_neg (show ¬ (a=L\/a=d) from fun q=>q.elim n1 n2),ho]<;>rfl
theorem mX {h:Heap} {L d:Addr} {od:Obj} (hne:d≠L) (ho:h.get? d=some od):News (adK h) L h ([]++(d,od)::ledger h L d):=by
 rintro ⟨a,o⟩ hp;rcases List.mem_cons.mp hp with e | hp
 ·cases e;exact ⟨ho,hne,pX _ _⟩
 ·obtain ⟨n1,n2,e⟩:=lM.mp hp;exact ⟨e,n1,pX _ _⟩
theorem ahY {h:Heap} {L:Addr} {m:Str->Option Value} (n:h.Ns L m):Fr (adK h) L h m :=
 ⟨n,fun b o e=>(by rw [pX] at e;cases e),Nat.zero_le _⟩
end
end Att
namespace L2
open PySem PySem.Spec PyProof.Rows
theorem oE:∀ {vs:List Value} {ns:List Int},IntsAre vs ns->Vals (ns.map V.int) vs
 | _,_,.nil=>.nil
 | _,_,.cons n t h=>.cons ⟨t,rfl⟩ (oE h)
noncomputable def Only (H:Hp):Prop:=∀ b,H b=none\/∃ o xs,H b=some (.frz o (.lst xs))
theorem apN {P:Program} {w:World} {K:PySem.W.Frag} {mg mb:Str->Option Value} {CX:CXT} {k:Nat} {fa a:Addr} {fd:FuncData} {x:Str} {sp:Sp} {s₁:Shared} {vs:List Value} {ns:List Int}
    (KX:K.In s₁.heap) (hns:s₁.heap.Ns mainGlobals mg) (hb:s₁.heap.Ns builtinsNs mb) (hbb:∀ x:Str,x≠"__name__"->mb x=bootBuiltins x) (hlim:s₁.heap.NoLimit) (hg:s₁.gens = #[])
    (ha:s₁.heap.get? a=some {cls:=.type "list",data:=.seq vs.toArray}) (hi:IntsAre vs ns) (hl:ns.length<=sizeLine) (hr:Room k callerA)
    (F:∀ base:Heap,K.In base->base.Ns mainGlobals mg->bK P w K mg base CX k fa fd [x] sp) (hbind:∀(s:Shared) (u:Value),BindsTo s fd ⟨[u],[]⟩ [(x,u)])
    (hsp:∀ H:Hp,Only H->eZ K H a (ns.map V.int)->sp [.ref a] H (fun v _=>v=.bl true) fun _ _ _=>False)
    (hCX:∀ H e s',CX [] H s₁ (fun _ _ _=>False) e s'->False) :
    codeAny (model P w) callerA (.call (.ref fa) ⟨[.ref a],[]⟩) (fun r s'=>r=.ok (.ret (.bool true))/\OldK s₁.heap s'.heap/\s'.os=s₁.os/\AllBare s'.gens) s₁:=by
  have rv:=oE hi;have lenV:=hi.length
  -- from an abstract heap in which nothing but the script may be tracked
  have core:∀ H:Hp,Only H->eZ K H a (ns.map V.int)->HOk P w H s₁.heap->(∀ b,H b≠none->b=a)->(H a≠none->K.lookup a=none) ->
      codeAny (model P w) callerA (.call (.ref fa) ⟨[.ref a],[]⟩) (fun r s'=>r=.ok (.ret (.bool true))/\OldK s₁.heap s'.heap/\s'.os=s₁.os/\AllBare s'.gens) s₁:=by
    intro H hO hS hok hA hK;have base_of:∀ {b:Addr} {o:Obj},s₁.heap.get? b=some o->H b=none->(ad0 s₁.heap H).get? b=some o:=fun e n=>anX e n;have noA:∀ {b:Addr} {o:Obj} {es:Array DictEntry} {ep:Nat},s₁.heap.get? b=some o->o.data=.dict es ep->H b=none:=fun {b o es ep} e d=>by
      cases q:H b with
      | none=>rfl
      | some u =>
        have e':b=a:=hA b (by rw [q];simp);subst e';rw [ha] at e;cases e;have d':Data.seq vs.toArray _=Data.dict es ep:=d;cases d'
    have nsK:∀ {b:Addr} {m:Str->Option Value},s₁.heap.Ns b m->(ad0 s₁.heap H).Ns b m:=fun {b m} ⟨o,es,ep,e,d,r⟩=>⟨o,es,ep,base_of e (noA e d),d,r⟩;have hKb:K.In (ad0 s₁.heap H):=fun b o e=>base_of (KX b o e) (by
      cases q:H b with
      | none=>rfl
      | some u =>
        have e':b=a:=hA b (by rw [q];simp);subst e';rw [hK (by rw [q];simp)] at e;cases e)
    have hM:Mod K mg (ad0 s₁.heap H):=⟨hKb,nsK hns,⟨mb,nsK hb,hbb⟩,let ⟨mc,h1,h2⟩:=hlim;⟨mc,nsK h1,h2⟩⟩;have e0:Env0 P w K mg (ad0 s₁.heap H) callerA [] s₁ H:=⟨rfl,hM,fun b o e=>aq7 e,Nat.le_of_eq (akT _ _),trivial,fun b hb=>absurd (show b∈([]:List Addr) from hb) (by simp),hok,.of_eq hg⟩;refine codeAny_mono ((F _ hKb (nsK hns)).run callerA [] s₁ H ⟨[.ref a],[]⟩ [.ref a] [.ref a] _ _ hr e0 (hbind s₁ (.ref a)) (.cons rfl .nil) (hsp H hO hS)) fun r s' h=>?_;cases r with
    | error e=>exact (hCX H e s' h).elim
    | ok fl =>
      cases fl with
      | next=>exact False.elim h
      | brk=>exact False.elim h
      | cont=>exact False.elim h
      | ret u =>
        obtain ⟨v,H',os,bare,un,hok',r',q⟩:=h;have q':v=.bl true:=q;subst q';obtain rfl:u=Value.bool true:=r';refine ⟨rfl,OldK.of_keep fun b o e=>?_,os,bare⟩;cases q:H b with
        | none=>exact un.keep b o e q (by intro z;exact absurd (show b∈([]:List Addr) from z) (by simp)) (by simp)
        | some u =>
          rcases hO b with z | ⟨ob,xs,z⟩
          · rw [q] at z;cases z
          · have z2:=un.frzs b ob _ z;obtain ⟨e1,_⟩:=hok b _ z;obtain ⟨e2,_⟩:=hok' b _ z2;rw [e] at e1;cases e1;exact e2
  cases hk:K.lookup a with
  | some o =>
    -- the script is one of the module's own objects
    have e:=KX a o hk;rw [ha] at e;cases e;refine core (fun _=>none) (fun _=>.inl rfl) (.inr ⟨_,vs.toArray,_,hk,rfl,rfl,rfl,by rw [List.size_toArray,lenV];exact hl,by simpa using rv⟩) (fun b u z=>by have z':(none:Option HO)=some u:=z;cases z') (fun b z=>absurd rfl z) fun z=>absurd rfl z
  | none =>
    refine core (fun b=>if b=a then some (.frz {cls:=.type "list",data:=.seq vs.toArray} (.lst (ns.map V.int))) else none) (fun b=>?_) (.inl (.inr ⟨{cls:=.type "list",data:=.seq vs.toArray},if_pos rfl⟩)) (fun b u z=>?_) (fun b z=>?_) fun _=>hk
    · by_cases hb:b=a
      · exact .inr ⟨_,_,if_pos hb⟩
      · exact .inl (if_neg hb)
    · by_cases hb:b=a
      · have z':=(if_pos hb).symm.trans z;cases z';subst hb;exact ⟨ha,by rw [List.length_map];exact hl,vs,_,rv,ha⟩
      · have z':=(if_neg hb).symm.trans z;cases z'
    · by_cases hb:b=a
      · exact hb
      · exact absurd (if_neg hb) z
end L2
namespace L2
open PySem PySem.Spec PyProof.Rows
theorem aqP {l:PySem.W.OpenLaw} {n k:Nat} {q:Program} {loose:List Str} {XP:(Str->Option Value)->Heap->Prop} {YP:World->Heap->Prop} {d:DefRec} {K:Params->PySem.W.Frag} {CX:World->CXT} {sp:World->Sp} {x:Str}
    (hn:l.most=some n) (hn2:n<=sizeLine) (hdf:d.params.defaults=[]) (hr:Room k callerA)
    (hY:∀(w:World) (h:Heap),YP w h->(K w.params).In h)
    (F:∀(w:World) (mg:Str->Option Value) (fa:Addr) (h:Heap),(K w.params).In h->h.Ns mainGlobals mg->mg d.name=some (.ref fa) ->
      ∃ fd:FuncData,(∀(s:Shared) (u:Value),BindsTo s fd ⟨[u],[]⟩ [(x,u)]) /\
        ∀ base:Heap,(K w.params).In base->base.Ns mainGlobals mg->bK l.prog w (K w.params) mg base (CX w) k fa fd [x] (sp w))
    (hsp:∀(w:World) (H:Hp) (a:Addr) (ns:List Int),ns.length<=n->Only H->eZ (K w.params) H a (ns.map V.int)->sp w [.ref a] H (fun v _=>v=.bl true) fun _ _ _=>False)
    (hCX:∀(w:World) (H:Hp) (s:Shared) (e:Value) (s':Shared),CX w [] H s (fun _ _ _=>False) e s'->False) :
    PySem.W.WalkO q loose XP YP l.row.toRowW d [] (fun f vs=>PySem.call f vs):=by
  refine Att.ae0 hn hdf fun w s₀ s₁ mg mb fa o pm cd doc a vs ns G Y ho hd hcd hmg hobj hints hlen hg=>?_;have KX:=hY w _ Y;obtain ⟨fd,hb,hF⟩:=F w mg fa _ KX G.T.g hmg;exact apN KX G.T.g G.T.b G.T.builtins G.T.nolimit hg hobj hints (Nat.le_trans hlen hn2) hr hF hb (fun H hO hS=>hsp w H a ns hlen hO hS) fun H e s'=>hCX w H s₁ e s'
end L2
namespace L2
open PySem PySem.Spec PyProof.Rows
noncomputable def bU (s:Stmt) (j:Nat):Stmt:=match s with
 | .ClassDef _ _ _ body _ _ _ _ _ _ _=>body.getD j (.Pass ⟨0,0,0,0⟩)
 | _=>.Pass ⟨0,0,0,0⟩
noncomputable def wE (s:Stmt):Arguments:=match s with
 | .FunctionDef _ a _ _ _ _ _ _ _ _=>a
 | _=>{posonlyargs:=[],args:=[],vararg:=none,kwonlyargs:=[],kw_defaults:=[],kwarg:=none,defaults:=[]}
noncomputable def rN (s:Stmt):List Stmt:=match s with
 | .FunctionDef _ _ b _ _ _ _ _ _ _=>b
 | _=>[]
noncomputable def aM (s:Stmt):Scope:=match s with
 | .FunctionDef _ _ _ _ _ _ sc _ _ _=>sc
 | _=>{kind:=.function,names:=[],isGenerator:=false,isCoroutine:=false}
noncomputable abbrev CX0:CXT:=fun _ _ _ _ _ _=>False
noncomputable abbrev E0:XK:=fun _ _ _=>False
theorem pass0 {X:Cx}:Passes CX0 X E0:=fun _ _ _ _ _ _ _ h=>h.elim
structure Fun (K:PySem.W.Frag) (x qual:Str) (st:Stmt) (f:Addr) (fd:FuncData):Prop where
 ex:∃(oc:Value) (od:Option Addr) (kV doc pm:Value) (an:Option Addr) (cdv ct:Value) (osl:Array (Option Value)),
  fd=PySem.W.fnOf x qual (wE st) (rN st) (aM st) .none kV doc pm an cdv ct/\K.lookup f=some ⟨oc,od,.func fd,osl⟩/\PySem.W.codeIn K cdv qual=true
 kp:PySem.W.keepIn K (.ref f)=true
section
variable {P:Program} {w:World} {K:PySem.W.Frag} {mg:Str->Option Value} {base:Heap}
theorem Fun.ok {x qual:Str} {st:Stmt} {f:Addr} {fd:FuncData} {N ps:List Str} {k:Nat} {sp:Sp} (F:Fun K x qual st f fd) (S:aR N ps (aM st)) (len:∀ vs H Q E,sp vs H Q E->vs.length=ps.length)
    (hbody:∀(cdv:Value) (A:Around) (outer:List Env) (s:Shared) (H:Hp) (vs:List V) (Q:VK) (E:XK),Room k (A.deeper (envOfC qual (aM st) s.heap.objs.size f cdv))->sp vs H Q E ->
      ∃ t,PSs (agG CX0 P w K mg base N qual (aM st) f cdv A outer s H E).nox (rN st) t/\t {nx:=fun _ H'=>Q .non H',rt:=Q} (start N vs) H):bK P w K mg base CX0 (k+1) f fd ps sp:=by
  obtain ⟨oc,od,kV,doc,pm,an,cdv,ct,osl,rfl,lk,hcd⟩:=F.ex;refine aAI lk hcd S len fun A outer s H vs Q E hr hsp=>?_;obtain ⟨t,h,q⟩:=hbody cdv A outer s H vs Q E hr hsp;exact ⟨t,h.nox,q⟩
theorem Fun.binds {x qual:Str} {st:Stmt} {f:Addr} {fd:FuncData} {ps:List Str} (F:Fun K x qual st f fd)
    (h:∀(kV doc pm:Value) (an:Option Addr) (cdv ct:Value) (us:List Value),us.length=ps.length->bindArgs (PySem.W.fnOf x qual (wE st) (rN st) (aM st) .none kV doc pm an cdv ct) ⟨us,[]⟩=pure (ps.zip us)):Binds K fd ps []:=by
  obtain ⟨oc,od,kV,doc,pm,an,cdv,ct,osl,rfl,lk,hcd⟩:=F.ex;exact .all (h kV doc pm an cdv ct)
theorem axY {x qual:Str} {st:Stmt} {f:Addr} {oc:Value} {od an:Option Addr} {osl:Array (Option Value)} {kV doc pm cdv ct:Value} (l:K.lookup f=some ⟨oc,od,.func (PySem.W.fnOf x qual (wE st) (rN st) (aM st) .none kV doc pm an cdv ct),osl⟩)
    (c:PySem.W.codeIn K cdv qual=true) (k:PySem.W.keepIn K (.ref f)=true):Fun K x qual st f (PySem.W.fnOf x qual (wE st) (rN st) (aM st) .none kV doc pm an cdv ct):=⟨⟨oc,od,kV,doc,pm,an,cdv,ct,osl,rfl,l,c⟩,k⟩
end
theorem nA {A:Around} {k:Nat} (hr:Room k A):A.units+1 < cLine:=Nat.lt_of_le_of_lt (Nat.add_le_add_left (by decide:1<=64) _) hr.units
theorem small1000 {n:Nat} (h:n<=1000):n < sizeLine:=Nat.lt_of_le_of_lt h (by decide)
section
variable {X:Cx}
theorem pv (i:Nat) {x:Str} {pos:Pos} (hN:X.N[i]?=some x:=by rfl) (hv:Vis X.env.scope x:=by first | exact Or.inl rfl | exact Or.inr (Or.inl rfl) | exact Or.inr (Or.inr rfl)) (hd:(x == ("__debug__":Str))=false:=by decide)
    (hcd:(x == ("__classdict__":Str))=false:=by decide):PE X (.Name x pos) (jW i):=avT hN hv hd hcd
end
noncomputable def Same (H H':Hp):Prop:=∀ b o,H b=some o->H' b=some o
theorem Same.seq {K:PySem.W.Frag} {H H':Hp} {a:Addr} {xs:List V} (e:Same H H') (h:eZ K H a xs):eZ K H' a xs:=by
 rcases h with (h | ⟨o,h⟩) | h
 ·exact .inl (.inl (e _ _ h))
 ·exact .inl (.inr ⟨o,e _ _ h⟩)
 ·exact .inr h
end L2
namespace L2
open PySem PySem.Spec PyProof.Rows
section
variable {X:Cx}
end
end L2
namespace L2
open PySem PySem.Spec PyProof.Rows
section
variable {κ:Type} [DecidableEq κ]
end
end L2
set_option maxHeartbeats 4000000
namespace L2
open PySem PySem.Spec PyProof.Rows
theorem amW:bootBuiltins "int"=some (.type "int"):=by decide +kernel
theorem adB:bootBuiltins "str"=some (.type "str"):=by decide +kernel
theorem ajQ:bootBuiltins "list"=some (.type "list"):=by decide +kernel
theorem fZ:bootBuiltins "tuple"=some (.type "tuple"):=by decide +kernel
theorem aaW:bootBuiltins "isinstance"=some (.builtin "isinstance"):=by decide +kernel
theorem ahX:bootBuiltins "max"=some (.builtin "max"):=by decide +kernel
theorem apS:bootBuiltins "min"=some (.builtin "min"):=by decide +kernel
theorem oM:bootBuiltins "sorted"=some (.builtin "sorted"):=by decide +kernel
theorem w9:bootBuiltins "len"=some (.builtin "len"):=by decide +kernel
section
variable {X:Cx}
noncomputable def ay5 (_ j:Int):Prop:=0 < j/\j.natAbs.log2 < 9000
theorem afS:jZ X (binaryOp .FloorDiv) (rI ay5 fun i j=>.int (i / j)):=opI fun i j _ _ _ _ _ hc q=>by
 have h1:(0:Int) < j:=hc.1;exact floordiv_int (by omega) (by rw [Int.fdiv_eq_ediv_of_nonneg i (by omega)];exact q) (.inl (PyProof.noPylong_of_log2 hc.2))
theorem log2_lt {j:Int} (h0:0 < j) (h:j<=10 ^ 45):j.natAbs.log2 < 9000:=by
 have h1:j.natAbs<=10 ^ 45:=by omega
 have h2:j.natAbs < 2 ^ 150:=Nat.lt_of_le_of_lt h1 (by decide);have h3:j.natAbs.log2 < 150:=(Nat.log2_lt (by omega)).mpr h2;omega
inductive qV (K:PySem.W.Frag) (H:Hp):V->String->Bool->Prop
 | ii (n:Int):qV K H (.int n) "int" true
 | ib (n:Int):qV K H (.int n) "bool" false
 | is (n:Int):qV K H (.int n) "str" false
 | it (n:Int):qV K H (.int n) "tuple" false
 | bi (b:Bool):qV K H (.bl b) "int" true
 | bb (b:Bool):qV K H (.bl b) "bool" true
 | bs (b:Bool):qV K H (.bl b) "str" false
 | bt (b:Bool):qV K H (.bl b) "tuple" false
 | si (x:Str):qV K H (.str x) "int" false
 | sb (x:Str):qV K H (.str x) "bool" false
 | ss (x:Str):qV K H (.str x) "str" true
 | st (x:Str):qV K H (.str x) "tuple" false
 | ni:qV K H .non "int" false
 | nb:qV K H .non "bool" false
 | ns:qV K H .non "str" false
 | nt:qV K H .non "tuple" false
 | li {a:Addr} {xs:List V}:eZ K H a xs->qV K H (.ref a) "int" false
 | lb {a:Addr} {xs:List V}:eZ K H a xs->qV K H (.ref a) "bool" false
 | ls {a:Addr} {xs:List V}:eZ K H a xs->qV K H (.ref a) "str" false
 | lt {a:Addr} {xs:List V}:eZ K H a xs->qV K H (.ref a) "tuple" false
 | ti {a:Addr} {xs:List V}:dF K H a xs->qV K H (.ref a) "int" false
 | tb {a:Addr} {xs:List V}:dF K H a xs->qV K H (.ref a) "bool" false
 | ts {a:Addr} {xs:List V}:dF K H a xs->qV K H (.ref a) "str" false
 | tt {a:Addr} {xs:List V}:dF K H a xs->qV K H (.ref a) "tuple" true
 | di {a:Addr} {kvs:List (Key×V)}:H a=some (.dK kvs)->qV K H (.ref a) "int" false
 | db {a:Addr} {kvs:List (Key×V)}:H a=some (.dK kvs)->qV K H (.ref a) "bool" false
 | ds {a:Addr} {kvs:List (Key×V)}:H a=some (.dK kvs)->qV K H (.ref a) "str" false
theorem Inv.listObj {pins:List (Addr×Obj)} {σ:St} {H:Hp} {s:Shared} {a:Addr} {xs:List V} (I:Inv X pins σ H s) (h:eZ X.K H a xs):∃ o,s.heap.get? a=some o/\o.cls=.type "list":=by
 obtain ⟨its,_,⟨o,n,e,c,_,_⟩,_⟩:=I.list h;exact ⟨o,e,c⟩
theorem Inv.tupObj {pins:List (Addr×Obj)} {σ:St} {H:Hp} {s:Shared} {a:Addr} {xs:List V} (I:Inv X pins σ H s) (h:dF X.K H a xs):∃ o,s.heap.get? a=some o/\o.cls=.type "tuple":=by
 obtain ⟨its,_,⟨o,e,c,_⟩,_⟩:=I.tuple h;exact ⟨o,e,c⟩
theorem Inv.dictObj {pins:List (Addr×Obj)} {σ:St} {H:Hp} {s:Shared} {a:Addr} {kvs:List (Key×V)} (I:Inv X pins σ H s) (h:H a=some (.dK kvs)):∃ o,s.heap.get? a=some o/\o.cls=.type "dict" :=
 vH I (DGet.k (k:=.inl 0) h)
theorem aoD:dW X (.builtin "isinstance") (fun xs H Q=>∃ v T b,xs=[v,.ty T]/\qV X.K H v T b/\Q (.bl b) H):=by
 intro pins s σ H xs us Q I r h;obtain ⟨v,T,b,rfl,hi,q⟩:=h;obtain ⟨u,w',rfl,r1,r2⟩:=vals2 r;cases r2;have fin:EP X pins σ Q (.bool b) s:=⟨.bl b,H,I,rfl,q⟩;have fin':EP X pins σ Q (.bool b) {s with toks:=s.toks+1}:=⟨.bl b,H,I.tok _,rfl,q⟩;cases hi with
 | ii n=>obtain ⟨t,rfl⟩:=r1;exact IsiPair.int_int fin
 | ib n=>obtain ⟨t,rfl⟩:=r1;exact IsiPair.int_bool fin'
 | is n=>obtain ⟨t,rfl⟩:=r1;exact IsiPair.int_str fin'
 | it n=>obtain ⟨t,rfl⟩:=r1;exact IsiPair.int_tuple fin'
 | bi b=>cases r1;exact IsiPair.bool_int fin
 | bb b=>cases r1;exact IsiPair.bool_bool fin
 | bs b=>cases r1;exact IsiPair.bool_str fin'
 | bt b=>cases r1;exact IsiPair.bool_tuple fin'
 | si x=>obtain ⟨t,rfl⟩:=r1;exact IsiPair.str_int fin'
 | sb x=>obtain ⟨t,rfl⟩:=r1;exact IsiPair.str_bool fin'
 | ss x=>obtain ⟨t,rfl⟩:=r1;exact IsiPair.str_str fin
 | st x=>obtain ⟨t,rfl⟩:=r1;exact IsiPair.str_tuple fin'
 | ni=>cases r1;exact IsiPair.NoneType_int fin'
 | nb=>cases r1;exact IsiPair.NoneType_bool fin'
 | ns=>cases r1;exact IsiPair.NoneType_str fin'
 | nt=>cases r1;exact IsiPair.NoneType_tuple fin'
 | li hl=>cases r1;obtain ⟨o,e,c⟩:=Inv.listObj I hl;exact IsiPair.list_int e c fin'
 | lb hl=>cases r1;obtain ⟨o,e,c⟩:=Inv.listObj I hl;exact IsiPair.list_bool e c fin'
 | ls hl=>cases r1;obtain ⟨o,e,c⟩:=Inv.listObj I hl;exact IsiPair.list_str e c fin'
 | lt hl=>cases r1;obtain ⟨o,e,c⟩:=Inv.listObj I hl;exact IsiPair.list_tuple e c fin'
 | ti hl=>cases r1;obtain ⟨o,e,c⟩:=Inv.tupObj I hl;exact IsiPair.tuple_int e c fin'
 | tb hl=>cases r1;obtain ⟨o,e,c⟩:=Inv.tupObj I hl;exact IsiPair.tuple_bool e c fin'
 | ts hl=>cases r1;obtain ⟨o,e,c⟩:=Inv.tupObj I hl;exact IsiPair.tuple_str e c fin'
 | tt hl=>cases r1;obtain ⟨o,e,c⟩:=Inv.tupObj I hl;exact IsiPair.tuple_tuple e c fin
 | di hl=>cases r1;obtain ⟨o,e,c⟩:=Inv.dictObj I hl;exact IsiPair.dict_int e c fin'
 | db hl=>cases r1;obtain ⟨o,e,c⟩:=Inv.dictObj I hl;exact IsiPair.dict_bool e c fin'
 | ds hl=>cases r1;obtain ⟨o,e,c⟩:=Inv.dictObj I hl;exact IsiPair.dict_str e c fin'
end
noncomputable def amV:Expr->Bool
 | .Starred ..=>true
 | _=>false
theorem alR {e:Expr} {es:List Expr} {env:Env} (h:amV e=false):starEach (e::es) env=(false,eval e env)::starEach es env:=by
 cases e<;>first | rfl | cases h
section
variable {X:Cx} {e:Expr} {es:List Expr} {te:TE} {t:TA}
theorem aD (ha:PE X e te) (hr:PA X es t) (h:amV e=false:=by rfl):PA X (e::es) (afN te t):=aj6 ha hr (alR h)
end
end L2
namespace L2
open PySem PySem.Spec PyProof.Rows
noncomputable abbrev vM (prog:Program) (w:World) (A:Around) (env:Env) (R:Result->Shared->Prop):Value->Shared->Prop:=notedBy (model prog w) A env fun e s'=>R (.error e) s'
noncomputable abbrev akI (ifs:List Expr) (env:Env):Sem Bool:=forIn ifs true fun c r=>if r=true then do let ok <- isTrue c env (eval c env);pure (ForInStep.yield ok) else pure (ForInStep.yield r)
section
variable {prog:Program} {w:World} {A:Around} {R:Result->Shared->Prop} {s:Shared}
theorem vD {elt target iter:Expr} {ifs:List Expr} {scope:Scope} {pos:Pos} {it acc:Value} {env:Env} (I:Nat->Shared->Prop)
    (turn:∀ n s,I n s->wpAny (model prog w) A (pyNext it) (fun r s₁=>match r with
      | none=>R (.ok .next) s₁
      | some v=>wpAny (model prog w) A (letOwnedTupleGo target it v) (fun _ s₁'=>wpAny (model prog w) A (assign target env v) (fun _ s₂ =>
          wpAny (model prog w) A (akI ifs env) (fun ok s₃ =>
            if ok=true then wpAny (model prog w) A (eval elt env) (fun x s₄ =>
              wpAny (model prog w) A (call (.builtin "list.append") [acc,x]) (fun _ s₅=>∃ m,m < n/\I m s₅) (vM prog w A env R) s₄) (vM prog w A env R) s₃
            else ∃ m,m < n/\I m s₃) (vM prog w A env R) s₂) (vM prog w A env R) s₁') (vM prog w A env R) s₁) (vM prog w A env R) s)
    (n:Nat) (h:I n s):codeAny (model prog w) A (.compLoop (.ListComp elt [⟨target,iter,ifs,0⟩] scope pos) 0 it acc env) R s:=by
  refine codeAny_loop rfl I (fun n s hI=>?_) n h;show wpAny _ A ((compTurn (.ListComp elt [⟨target,iter,ifs,0⟩] scope pos) 0 it acc env).onRaise (fun x=>do noteFrame x env;theTreesLotGoes x)) _ _ s;refine wpAny_noted ?_;rw [compTurn_list];refine wpAny_bind (wpAny_standAt (wpAny_bind (wpAny_mono (turn n s hI) (fun r s₁ h₁=>?_) fun _ _ h'=>h')));cases r with
  | none=>exact wpAny_pure h₁
  | some v =>
    refine wpAny_bind (wpAny_mono h₁ (fun _ s₁' h₁'=>?_) fun _ _ h'=>h');refine wpAny_bind (wpAny_mono h₁' (fun _ s₂ h₂=>wpAny_bind (wpAny_mono h₂ (fun ok s₃ h₃=>?_) fun _ _ h'=>h')) fun _ _ h'=>h');cases ok with
    | false=>exact wpAny_pure ⟨rfl,h₃⟩
    | true =>
      exact wpAny_bind (wpAny_bind (wpAny_mono h₃ (fun x s₄ h₄=>wpAny_bind (wpAny_mono h₄ (fun _ s₅ h₅=>wpAny_pure (wpAny_pure ⟨rfl,h₅⟩)) fun _ _ h'=>h')) fun _ _ h'=>h'))
end
noncomputable def bT (X:Cx) (sc:Scope) (cl:List (Str×Addr)) (C:Addr) (N:List Str) (s:Shared) (H:Hp) (ex:List Addr) (pn:List (Addr×Obj)):Cx :=
 {X with env:=compEnvC sc cl C X.env,N:=N,s₀:=s,H₀:=H,outer:=X.stack,ex:=ex,fn:=fun _=>false,pn:=pn}
structure cO (X:Cx) (sc:Scope) (cl:List (Str×Addr)) (x:Str) (fr:List Nat) (N:List Str):Prop where
 kind:sc.kind=.function
 nocell:∀ y∈sc.names,y.2≠.cell
 names:∀ y∈sc.names,y.2=.local->sc.names.lookup y.1=some .local
 clos:closureFor sc X.env=pure cl
 sub:∀ y c,cl.lookup y=some c->X.env.cells.lookup y=some c
 has:∀ y,((relabel sc X.env).names.lookup y=some .cell\/(relabel sc X.env).names.lookup y=some .free)->∃ c,cl.lookup y=some c
 tgt:sc.names.lookup x=some .local
 nd:N.Nodup
 N0:N=x::fr.map fun j=>X.N.getD j x
 frc:∀ j∈fr,∃ y,X.N[j]?=some y/\X.env.kindOf y=some .cell/\((relabel sc X.env).names.lookup y=some .cell\/(relabel sc X.env).names.lookup y=some .free)
noncomputable def aY (fr:List Nat) (σ:St):St:=fr.map fun j=>(σ[j]?).join
section
variable {X:Cx} {pins:List (Addr×Obj)} {σ:St} {H:Hp} {s:Shared} {sc:Scope} {cl:List (Str×Addr)} {C:Addr} {x:Str} {fr:List Nat} {N:List Str} {fp:List Addr}
theorem aqN (I:Inv X pins σ H s) (S:cO X sc cl x fr N) (hf:∀ b∈fp,mR X pins H b) (hfo:∀ b∈fp,b < s.heap.objs.size) (hC:s.heap.objs.size<=C) :
    (bT X sc cl C N s H fp (X.pn++pins)).Ok where
  mod:=I.ok.mod
  kind:=S.kind
  glob:=I.ok.glob
  blt:=I.ok.blt
  above:=hC
  inj:=fun y z c h1 h2=>I.ok.inj y z c (S.sub y c h1) (S.sub z c h2)
  has:=S.has
  cab:=fun _ _ h=>by cases h
  hd:=I.ok.hd
  frames:=I.ok.frames
  stk:=.inl rfl
  exf:=fun b hb=>⟨Nat.ne_of_lt (Nat.lt_of_lt_of_le (hfo b hb) hC),fun y c e=>(hf b hb).2.2.2.2.1 y c (S.sub y c e)⟩
  bs:=I.bs
  bsz:=Nat.le_trans I.ok.bsz I.sz
  noex:=fun b o e hb=>by
    rcases (hf b hb).2.2.2.1 with z | z
    · exact I.ok.noex b o e z
    · exact absurd (Nat.lt_of_lt_of_le (Heap.lt_size e) (Nat.le_trans I.ok.bsz z)) (Nat.lt_irrefl _)
  exfs:=fun b hb hm=>by
    rcases List.mem_cons.mp (I.stkSub b hm) with z | z
    · exact (hf b hb).2.1 z
    · exact (hf b hb).2.2.1 z
  funs:=I.stack
  frf:=I.stkFree
theorem nostk (I:Inv X pins σ H s) {b:Addr} (h1:b≠X.env.locals) (h2:b∉X.fs):b∉frs X.stack:=fun hm=>by
 rcases List.mem_cons.mp (I.stkSub b hm) with z | z
 ·exact h1 z
 ·exact h2 z
theorem am9 (I:Inv X pins σ H s) (S:cO X sc cl x fr N) (hf:∀ b∈fp,mR X pins H b) (hfo:∀ b∈fp,b < s.heap.objs.size) (hC:s.heap.objs.size<=C) {h1:Heap} {t1:Nat} {m0:Str->Option Value}
    (hn:h1.Ns C m0) (hk:∀ b o,s.heap.get? b=some o->h1.get? b=some o):Inv (bT X sc cl C N s H fp (X.pn++pins)) [] (none::aY fr σ) H {s with heap:=h1,toks:=t1}:=by
  refine ⟨aqN I S hf hfo hC,rfl,I.bare,Un.kept hk,⟨m0,hn,fun i y v e1 e2 e3=>?_⟩,fun y c e=>?_,I.hok.fresh hC,fun y c e=>I.freeC y c (S.sub y c e),fun p hp=>?_,I.hok.kept hk,?_⟩
  · have e1':N[i]?=some y:=e1;rw [S.N0] at e1';cases i with
    | zero =>
      have z:(some (none:Option V))=some (some v):=e2;cases z
    | succ j =>
      have e1'':(fr.map fun j=>X.N.getD j x)[j]?=some y:=e1';have e2':(aY fr σ)[j]?=some (some v):=e2;unfold aY at e2';rw [List.getElem?_map] at e1'' e2';cases q:fr[j]? with
      | none=>rw [q] at e1'';cases e1''
      | some k =>
        rw [q] at e1'' e2';have ey:X.N.getD k x=y:=Option.some.inj e1'';have ev:(σ[k]?).join=some v:=Option.some.inj e2';obtain ⟨y',hy,hkind,hvis⟩:=S.frc k (List.mem_of_getElem? q);have eyy:y=y':=by
          rw [<- ey,List.getD_eq_getElem?_getD,hy];rfl
        subst eyy;have ev':σ[k]?=some (some v):=by
          cases z:σ[k]? with
          | none=>rw [z] at ev;cases ev
          | some o =>
            rw [z] at ev;have ev2:o=some v:=ev;rw [ev2]
        obtain ⟨m,_,hl⟩:=I.loc;obtain ⟨u,r,l⟩:=hl k y v hy ev' (.inr (.inl hkind));refine ⟨u,r,.inr ⟨hvis,?_⟩⟩;rcases l with ⟨z,_⟩ | ⟨_,c,hc,o,ho,hd⟩
        · rw [hkind] at z;cases z
        · obtain ⟨c',hc'⟩:=S.has y hvis;have z:=S.sub y c' hc';rw [hc] at z;cases z;exact ⟨c,hc',o,hk c o ho,hd⟩
  · obtain ⟨v,o,ho,hd⟩:=I.cell y c (S.sub y c e);exact ⟨v,o,hk c o ho,hd⟩
  · have hp':p∈X.pn++pins:=by
      have z:p∈(X.pn++pins)++[]:=hp;simpa using z
    obtain ⟨e,n,ne,nf,d⟩:=I.pin p hp';exact ⟨hk _ _ e,n,Nat.ne_of_lt (Nat.lt_of_lt_of_le (Heap.lt_size e) hC),nostk I ne nf,d⟩
  · show (none::aY fr σ).length=N.length;rw [S.N0];simp [aY]
theorem agO (I:Inv X pins σ H s) (hf:∀ b∈fp,mR X pins H b) {D:Addr} {pl:List (Addr×Obj)} {σ':St} {H':Hp} {s':Shared} (J:Inv (bT X sc cl C N s H fp (X.pn++pins)) pl σ' H' s')
    (hC:s.heap.objs.size<=C) (hD:s.heap.objs.size<=D) (hDC:D≠C) (hDn:H' D=none) {xs:List V} {vals:List Value} {k:Nat} (hg:s'.heap.get? D=some {cls:=.type "list",data:=.seq vals.toArray k}) (rv:Vals xs vals) (hz:xs.length<=sizeLine)
    {h':Heap} (hs:Heap.SameBut C s'.heap h'):Inv X pins σ (upd H' D (.lst xs)) {s' with heap:=h'}:=by
  have lt:∀ {b:Addr} {o:Obj},s.heap.get? b=some o->b < s.heap.objs.size:=fun e=>Heap.lt_size e;have neC:∀ {b:Addr} {o:Obj},s.heap.get? b=some o->b≠C:=fun e=>Nat.ne_of_lt (Nat.lt_of_lt_of_le (Heap.lt_size e) hC);have neD:∀ {b:Addr} {o:Obj},s.heap.get? b=some o->b≠D:=fun e=>Nat.ne_of_lt (Nat.lt_of_lt_of_le (Heap.lt_size e) hD);have neDt:∀ {b:Addr} {o:HO},H b=some o->b≠D:=fun e=>Nat.ne_of_lt (Nat.lt_of_lt_of_le (I.hok.lt e) hD);have base:Un (frs X.stack) fp H H' s.heap s'.heap:=J.base;have HC:H' C=none:=J.free;refine I.call' (s':={s' with heap:=h'}) (ch:=fp) J.os ⟨fun b o e n hb hx=>?_,fun b o e n hb hx=>?_,fun b o e n hx=>?_,fun b o e hx=>?_,fun b ys e=>?_,fun b o u e=>?_,fun b ps e=>?_⟩ (fun b u e=>?_) J.bare (fun b hb=>?_)
  · exact (hs.2 b (neC e)).trans (base.keep b o e n hb hx)
  · obtain ⟨sl,q⟩:=base.slot b o e n hb hx;exact ⟨sl,(hs.2 b (neC e)).trans q⟩
  · rw [aI (neD e)];exact base.free b o e n hx
  · obtain ⟨o',q⟩:=base.there b o e hx;exact ⟨o',(hs.2 b (neC e)).trans q⟩
  · rw [aI (neDt e)];exact base.tups b ys e
  · rw [aI (neDt e)];exact base.frzs b o u e
  · rw [aI (neDt e)];exact base.tbls b ps e
  · by_cases hb:b=D
    · subst hb;rw [aA] at e;cases e;exact ⟨hz,vals,k,rv,(hs.2 b hDC).trans hg⟩
    · rw [aI hb] at e;have tC:∀ {c:Addr} {o:HO},H' c=some o->c≠C:=fun q z=>by rw [z,HC] at q;cases q
      have tD:∀ {c:Addr} {o:HO},H' c=some o->c≠D:=fun q z=>by rw [z,hDn] at q;cases q
      refine (J.hok b u e).stay (fun c v hc q=>(hs.2 c ?_).trans q) (fun c q=>by rw [aI (tD q)];exact q) fun c ys q=>by rw [aI (tD q)];exact q
      rcases hc with z | z
      · rw [z];exact tC e
      · exact tC z
  · obtain ⟨_,f1,_,f3,f4,f5⟩:=hf b hb;exact ⟨f3,f1,f4,f5⟩
end
noncomputable def PTs (Y:Cx) (ifs:List Expr) (t:TT):Prop :=
 ∀(pins:List (Addr×Obj)) (s:Shared) (σ:St) (H:Hp) (Q:Bool->Hp->Prop),Inv Y pins σ H s->t σ H Q->wpAny (model Y.prog Y.w) Y.A (akI ifs Y.env) (TP Y pins σ Q) Y.xe s
noncomputable def atV:TT:=fun _ H Q=>Q true H
theorem eL {Y:Cx}:PTs Y [] atV:=fun _ _ _ H _ I h=>wpAny_tests_nil ⟨H,I,h⟩
theorem rL {Y:Cx} {c:Expr} {t:TT} (h:PT Y c t):PTs Y [c] t:=fun pins s σ H Q I hw=>wpAny_tests_one (h pins s σ H Q I hw)
@[irreducible] def kS (wi:TI) (fr:List Nat) (tc:TT) (te:TE):TE:=fun σ H Q=>wi σ H fun J H1=>∃ W:Nat->Nat->List V->Hp->Prop,(∃ m,W 0 m [] H1)/\∀ i m xs H,W i m xs H->xs.length<=1000000 /\
  ((J.stop i H/\∀ p,H p=none->Q (.ref p) (upd H p (.lst xs))) \/
   (J.go i H/\∀ y H',J.yld i H y H'->tc (some y::aY fr σ) H' fun b H2=>if b=true then te (some y::aY fr σ) H2 (fun z H3=>∃ m',m' < m/\W (i+1) m' (xs++[z]) H3) else ∃ m',m' < m/\W (i+1) m' xs H2))
section
variable {X:Cx} {sc:Scope} {cl:List (Str×Addr)} {x:Str} {fr:List Nat} {N:List Str} {elt iter:Expr} {px pos:Pos} {ifs:List Expr} {wi:TI} {tc:TT} {te:TE}
theorem xB (hc:X.calm=true) (hx:∀ e s,¬ X.xe e s) (S:cO X sc cl x fr N)
    (hb:∀ C s H ex pn,PTs (bT X sc cl C N s H ex pn) ifs tc/\PE (bT X sc cl C N s H ex pn) elt te)
    {pins:List (Addr×Obj)} {σ:St} {H:Hp} {s:Shared} {it:Addr} {fp:List Addr} {tn:Nat->Heap->Prop} {J:It} {Q:VK} {RR:Value->Addr->Result->Shared->Prop} {E:Value->Shared->Prop}
    (I:Inv X pins σ H s) (T:Turn X.prog X.w X.K (.Name x px) J fp it tn) (st:tn 0 s.heap) (hf:∀ b∈fp,mR X pins H b)
    {W:Nat->Nat->List V->Hp->Prop} {m0:Nat} (w0:W 0 m0 [] H)
    (turn:∀ i m xs H,W i m xs H->xs.length<=1000000 /\
      ((J.stop i H/\∀ p,H p=none->Q (.ref p) (upd H p (.lst xs))) \/
       (J.go i H/\∀ y H',J.yld i H y H'->tc (some y::aY fr σ) H' fun b H2=>if b=true then te (some y::aY fr σ) H2 (fun z H3=>∃ m',m' < m/\W (i+1) m' (xs++[z]) H3) else ∃ m',m' < m/\W (i+1) m' xs H2)))
    (fin:∀(D C:Addr) (s':Shared) (m':Str->Option Value) (H':Hp),s'.heap.Ns C m'->mR X pins H' C->(∀ h',Heap.SameBut C s'.heap h'->Inv X pins σ H' {s' with heap:=h'})->Q (.ref D) H'->RR (.ref D) C (.ok .next) s') :
    wpAny (model X.prog X.w) X.A (newList []) (fun acc s₃=>wpAny (model X.prog X.w) X.A (newFunctionEnv sc X.env.globals cl [] X.env.qual none .none (some X.env)) (fun cenv s₄ =>
      codeAny (model X.prog X.w) X.A (.compStart (.ListComp elt [⟨.Name x px,iter,ifs,0⟩] sc pos) 0 (.ref it) acc {cenv with scope:=relabel sc X.env}) (RR acc cenv.locals) s₄) E s₃) E s:=by
  refine wpAny_newObj_type (wpAny_newFunctionEnv S.nocell (by intro y hy;simp at hy) (fun h₁ hns₁ hsb₁=>?_) S.kind);dsimp only at hns₁ hsb₁ ⊢;generalize hH2:s.heap.push {cls:=.type "list",dict:=none,data:=.seq ([]:List Value).toArray}=G2 at hns₁ hsb₁ ⊢;have hCs:G2.objs.size=s.heap.objs.size+1:=by rw [<- hH2,Heap.size_push]
  have hDC:s.heap.objs.size≠G2.objs.size:=by rw [hCs];exact Nat.ne_of_lt (Nat.lt_succ_self _)
  have hC:s.heap.objs.size<=G2.objs.size:=by rw [hCs];exact Nat.le_succ _
  have below:∀ b,b < s.heap.objs.size->b≠G2.objs.size:=fun b hb=>by rw [hCs];exact Nat.ne_of_lt (Nat.lt_succ_of_lt hb)
  have old:∀ b o,s.heap.get? b=some o->h₁.get? b=some o:=fun b o e=>hsb₁.extBut b o (below b (Heap.lt_size e)) (Heap.get?_push_of_some _ (hH2 ▸ Heap.get?_push_of_some _ e));have hD1:h₁.get? s.heap.objs.size=some {cls:=.type "list",data:=.seq ([]:List Value).toArray 0}:=hsb₁.extBut _ _ hDC (Heap.get?_push_of_some _ (hH2 ▸ Heap.get?_push_size _ rfl));have hfo:∀ b∈fp,b < s.heap.objs.size:=fun b hbm=>by
    obtain ⟨o,e,_⟩:=T.obj 0 s.heap st b hbm;exact Heap.lt_size e
  have hDn:H s.heap.objs.size=none:=I.hok.fresh (Nat.le_refl _)
  -- what stays true of the made list's place
  have Dstk:s.heap.objs.size∉frs X.stack:=fun hm=>by
    rcases List.mem_cons.mp (I.stkSub _ hm) with z | z
    · exact absurd I.lt (by rw [<- z];exact Nat.lt_irrefl _)
    · exact I.nofs (Nat.le_refl _) z
  have Dcell:∀ y c,cl.lookup y=some c->c≠s.heap.objs.size:=fun y c e z=>by
    obtain ⟨v,q⟩:=I.cell y c (S.sub y c e);exact absurd q.lt (by rw [z];exact Nat.lt_irrefl _)
  have Dpin:∀ p∈X.pn++pins,p.1≠s.heap.objs.size:=fun p hp z=>absurd (Heap.lt_size (I.pin p hp).1) (by rw [z];exact Nat.lt_irrefl _);have Dfp:s.heap.objs.size∉fp:=fun hm=>Nat.lt_irrefl _ (hfo _ hm);have loop:∀ s₃:Shared,s₃={s with heap:=h₁,toks:=s.toks+([]:List (Str×Value)).length} ->
      codeAny (model X.prog X.w) X.A (.compLoop (.ListComp elt [⟨.Name x px,iter,ifs,0⟩] sc pos) 0 (.ref it) (.ref s.heap.objs.size) (compEnvC sc cl G2.objs.size X.env)) (RR (.ref s.heap.objs.size) G2.objs.size) s₃:=by
    rintro s₃ rfl;have I0:Inv (bT X sc cl G2.objs.size N s H fp (X.pn++pins)) [] (none::aY fr σ) H {s with heap:=h₁,toks:=s.toks+([]:List (Str×Value)).length}:=am9 I S hf hfo hC hns₁ old;refine vD (fun n s'=>∃(i:Nat) (xs:List V) (vals:List Value) (k:Nat) (v0:Option V) (H':Hp),Inv (bT X sc cl G2.objs.size N s H fp (X.pn++pins)) [] (v0::aY fr σ) H' s'/\tn i s'.heap/\(∀ b∈fp,H' b=none) /\
      s'.heap.get? s.heap.objs.size=some {cls:=.type "list",data:=.seq vals.toArray k}/\Vals xs vals/\H' s.heap.objs.size=none/\W i n xs H') ?_ m0
      ⟨0,[],[],0,none,H,I0,T.keep _ _ _ st fun b _ o e=>old b o e,fun b hb=>(hf b hb).1,hD1,.nil,hDn,w0⟩
    rintro n s1 ⟨i,xs,vals,k,v0,H1,I1,st1,fr1,hg1,rv1,hD1',w1⟩;have hlen:=rv1.length;obtain ⟨hz,step⟩:=turn i n xs H1 w1;have hz2:xs.length<=sizeLine:=Nat.le_trans hz (by decide);have stat:∀ {H':Hp} {pl:List (Addr×Obj)},(∀ b∈fp,H' b=none)->(∀ p∈pl,p.1=s.heap.objs.size)->∀ b∈fp,mR (bT X sc cl G2.objs.size N s H fp (X.pn++pins)) pl H' b:=fun {H' pl} hn hpl b hb =>
      ⟨hn b hb,below b (hfo b hb),nostk I (hf b hb).2.1 (hf b hb).2.2.1,.inl hb,fun y c e=>(hf b hb).2.2.2.2.1 y c (S.sub y c e),fun p hp z=>by
        rcases List.mem_append.mp hp with q | q
        · exact (hf b hb).2.2.2.2.2 p q z
        · exact Dfp (by rw [<- hpl p q,z];exact hb)⟩
    have I1':Inv (bT X sc cl G2.objs.size N s H fp (X.pn++pins)) [(s.heap.objs.size,{cls:=.type "list",data:=.seq vals.toArray k})] (v0::aY fr σ) H1 s1:=I1.pins_of fun p hp=>by
      have e:p=(s.heap.objs.size,{cls:=.type "list",data:=.seq vals.toArray k}):=by simpa using hp
      subst e;exact ⟨hg1,hD1',hDC,Dstk,fun v z=>by cases z⟩
    rcases step with ⟨stop,hq⟩ | ⟨go,step⟩
    · refine thn (T.done (bT X sc cl G2.objs.size N s H fp (X.pn++pins)) rfl rfl rfl hc i [(s.heap.objs.size,{cls:=.type "list",data:=.seq vals.toArray k})] s1 _ H1 _ I1' (stat fr1 fun p hp=>by
        have e:p=(s.heap.objs.size,{cls:=.type "list",data:=.seq vals.toArray k}):=by simpa using hp
        rw [e]) st1 stop) fun r s2 ⟨hr,I2⟩=>?_
      subst hr;obtain ⟨g2,n2,_⟩:=I2.pin (s.heap.objs.size,{cls:=.type "list",data:=.seq vals.toArray k}) (List.mem_append_right _ (by simp));obtain ⟨m2,hn2,_⟩:=I2.loc;have hCn:upd H1 s.heap.objs.size (.lst xs) G2.objs.size=none:=by
        rw [aI (Ne.symm hDC)];exact I2.free
      exact fin s.heap.objs.size G2.objs.size s2 m2 _ hn2 (I.fpOk hC hCn) (fun h' hs'=>agO I hf I2 hC (Nat.le_refl _) hDC n2 g2 rv1 hz2 hs') (hq _ n2)
    · refine thn (T.item (bT X sc cl G2.objs.size N s H fp (X.pn++pins)) rfl rfl rfl hc i [(s.heap.objs.size,{cls:=.type "list",data:=.seq vals.toArray k})] s1 _ H1 _ I1' (stat fr1 fun p hp=>by
        have e:p=(s.heap.objs.size,{cls:=.type "list",data:=.seq vals.toArray k}):=by simpa using hp
        rw [e]) st1 go) fun r s2 ⟨u,hr,h2⟩=>?_
      subst hr;refine thn h2 fun _ s3 ⟨y,H3,I3,r3,y3,st3,fr3⟩=>?_;have I3':=I3.pinned (stat fr3 fun p hp=>by
        have e:p=(s.heap.objs.size,{cls:=.type "list",data:=.seq vals.toArray k}):=by simpa using hp
        rw [e]) (T.obj _ _ st3)
      -- what the pins say again behind each part
      have back:∀ {σ9:St} {H9:Hp} {s9:Shared},Inv (bT X sc cl G2.objs.size N s H fp (X.pn++pins)) ([(s.heap.objs.size,{cls:=.type "list",data:=.seq vals.toArray k})]++uO fp s3.heap) σ9 H9 s9 ->
          tn (i+1) s9.heap/\(∀ b∈fp,H9 b=none)/\s9.heap.get? s.heap.objs.size=some {cls:=.type "list",data:=.seq vals.toArray k}/\H9 s.heap.objs.size=none:=fun {σ9 H9 s9} I9=>by
        refine ⟨T.keep _ _ _ st3 fun b hb o e=>(I9.pin (b,o) (List.mem_append_right _ (List.mem_append_right _ (gK hb e)))).1,fun b hb=>?_,?_⟩
        · obtain ⟨o,e,d⟩:=T.obj _ _ st3 b hb;exact (I9.pin (b,o) (List.mem_append_right _ (List.mem_append_right _ (gK hb e)))).2.1
        · obtain ⟨a1,a2,_⟩:=I9.pin (s.heap.objs.size,{cls:=.type "list",data:=.seq vals.toArray k}) (List.mem_append_right _ (List.mem_append_left _ (by simp)));exact ⟨a1,a2⟩
      have hN0:(bT X sc cl G2.objs.size N s H fp (X.pn++pins)).N[0]?=some x:=by
        show N[0]?=some x;rw [S.N0];rfl
      have hloc:(relabel sc X.env).names.lookup x=some .local:=lookup_relabel_local S.tgt;have hpg:PG (bT X sc cl G2.objs.size N s H fp (X.pn++pins)) (.Name x px) (rE 0):=c7 (i:=0) S.nd hN0 (.inl hloc) (.inr hloc);have noX:∀ e s',(bT X sc cl G2.objs.size N s H fp (X.pn++pins)).xe e s'->vM X.prog X.w X.A (compEnvC sc cl G2.objs.size X.env) (RR (.ref s.heap.objs.size) G2.objs.size) e s':=fun e s' z=>(hx e s' z).elim;have hstep:=step y H3 y3;refine wpAny_mono (hpg _ s3 _ H3 y u (fun σ' H'=>σ'=some y::aY fr σ/\H'=H3) I3' r3 ⟨rfl,rfl⟩) (fun _ s4 ⟨σ4,H4,I4,e4,e4'⟩=>?_) noX;subst e4 e4';obtain ⟨hbT,hbE⟩:=hb G2.objs.size s H fp (X.pn++pins);refine wpAny_mono (hbT _ s4 _ H4 _ I4 hstep) (fun ok s5 ⟨H5,I5,q5⟩=>?_) noX;cases ok with
      | false =>
        rw [if_neg Bool.false_ne_true];have q5':∃ m',m' < n/\W (i+1) m' xs H5:=q5;obtain ⟨m',hm,w5⟩:=q5';obtain ⟨b1,b2,b3,b4⟩:=back I5;exact ⟨m',hm,i+1,xs,vals,k,some y,H5,I5.pins_of (fun p hp=>absurd hp (by simp)),b1,b2,b3,rv1,b4,w5⟩
      | true =>
        rw [if_pos rfl];refine wpAny_mono (hbE _ s5 _ H5 _ I5 q5) (fun z s6 ⟨v6,H6,I6,r6,q6⟩=>?_) noX;obtain ⟨m',hm,w6⟩:=q6;obtain ⟨b1,b2,b3,b4⟩:=back I6;refine call_meets F.slot_list_append ⟨_,b3,rfl⟩ F.entry_list_append (F.args_list_append_2 _ _) (PySem.list_append s.heap.objs.size vals.toArray k z (by rw [List.size_toArray];omega)) ⟨b3,?_⟩;have q7:=PySem.IsL.update b3 (fun a:Array Value=>a.push z);have hpush:vals.toArray.push z=(vals++[z]).toArray:=by simp
        rw [hpush] at q7;have I6':Inv (bT X sc cl G2.objs.size N s H fp (X.pn++pins)) [] (some y::aY fr σ) H6 s6:=I6.pins_of (fun p hp=>absurd hp (by simp));have others:∀ b o,b≠s.heap.objs.size->s6.heap.get? b=some o->(s6.heap.update s.heap.objs.size (Obj.mapSeq fun a=>a.push z)).get? b=some o:=fun b o hb' e=>(Heap.get?_update_other _ _ (Ne.symm hb')).trans e;refine ⟨m',hm,i+1,xs++[v6],vals++[z],_,some y,H6,I6'.turned (it:=s.heap.objs.size) others b4 hDC (.inr (Nat.le_refl _)) Dcell (fun p hp z'=>?_),T.keep _ _ _ b1 fun b hb' o e=>others b o (fun z'=>Dfp (by rw [<- z'];exact hb')) e,b2,q7,rv1.append (.cons r6 .nil),b4,w6⟩;have hp':p∈X.pn++pins:=by
          have z2:p∈(X.pn++pins)++[]:=hp;simpa using z2
        exact Dpin p hp' z'
  exact codeAny_compStart_list (loop _ rfl) (T.self _ _ _ _ _ (T.keep _ _ _ st fun b _ o e=>old b o e) (loop _ rfl))
theorem eM (hc:X.calm=true) (hx:∀ e s,¬ X.xe e s) (S:cO X sc cl x fr N) (hi:PI X (.Name x px) iter wi)
    (hb:∀ C s H ex pn,PTs (bT X sc cl C N s H ex pn) ifs tc/\PE (bT X sc cl C N s H ex pn) elt te)
    (hs:∀ v,foldedSetIterable iter X.env v=pure v:=by intro _;rfl):PE X (.ListComp elt [⟨.Name x px,iter,ifs,0⟩] sc pos) (kS wi fr tc te):=by
  intro pins s σ H Q I h;unfold kS at h;rw [eval_ListComp];refine wpAny_comprehension_free (use:=none) rfl hs S.clos S.kind S.names ?_;refine thn (hi pins s σ H _ I h) fun v s1 h1=>thn h1 fun itv s2 h2=>?_;obtain ⟨it,fp,tn,J,H2,e,I2,T,st2,f2,W,⟨m0,w0⟩,turn⟩:=h2;subst e;refine xB (RR:=fun acc C=>compPost (model X.prog X.w) X.A X.xe none (EP X pins σ Q) acc C) hc hx S hb I2 T st2 f2 w0 turn ?_;intro D C s' m' H' hn _ hfin q;exact ⟨m',hn,fun h' hs'=>⟨.ref D,H',hfin h' hs',rfl,q⟩⟩
end
theorem cO.nofree {X:Cx} {sc:Scope} {x:Str} (kind:sc.kind=.function) (nc:(sc.names.all fun y=>y.2 != .cell && y.2 != .free)=true)
    (nm:(sc.names.all fun y=>!(y.2 == .local) || sc.names.lookup y.1 == some .local)=true) (tgt:sc.names.lookup x=some .local):cO X sc [] x [] [x] where
  kind:=kind
  nocell:=fun y hy e=>by
    have h:=List.all_eq_true.mp nc y hy;rw [e] at h;exact absurd h (by decide)
  names:=fun y hy e=>by
    have h:=List.all_eq_true.mp nm y hy;rw [e] at h;simpa using h
  clos:=closureFor_none fun y hy e=>by
    have h:=List.all_eq_true.mp nc y hy;rw [e] at h;exact absurd h (by decide)
  sub:=fun y c h=>by cases h
  has:=fun y h=>by
    exfalso;have key:∀ l:List (Str×NameKind),(l.all fun y=>y.2 != .cell && y.2 != .free)=true->∀ k,(l.map fun(n,k)=>if (k == NameKind.free && X.env.scope.kind == .function && X.env.kindOf n == some .cell) then (n,NameKind.cell) else (n,k)).lookup y=some k->k≠.cell/\k≠.free:=by
      intro l
      induction l with
      | nil=>intro _ k e;cases e
      | cons p r ih =>
        obtain ⟨n,kk⟩:=p;intro ha k e;rw [List.all_cons,Bool.and_eq_true,Bool.and_eq_true] at ha;obtain ⟨⟨h1,h2⟩,h3⟩:=ha;have h2':(kk == NameKind.free)=false:=by simpa using h2
        rw [List.map_cons] at e;dsimp only at e;rw [h2',Bool.false_and,Bool.false_and,if_neg Bool.false_ne_true,List.lookup_cons] at e;cases q:(y == n) with
        | true =>
          rw [q] at e;have e':kk=k:=Option.some.inj e;subst e';exact ⟨by simpa using h1,by simpa using h2⟩
        | false =>
          rw [q] at e;exact ih h3 k e
    rcases h with h | h
    · exact (key sc.names nc _ h).1 rfl
    · exact (key sc.names nc _ h).2 rfl
  tgt:=tgt
  nd:=by simp
  N0:=rfl
  frc:=fun j hj=>by cases hj
end L2
namespace L2
open PySem PySem.Spec PyProof.Rows
section
variable {X:Cx}
theorem avP:SlR X (fun x lo hi H Q=>∃ z,x=.str z/\z.length<=sizeLine/\Q (.str (Txt.slice z lo hi)) H):=by
 intro pins s σ H x v vl vu lo hi sl Q I rx hs pl pu h;obtain ⟨z,rfl,hz,q⟩:=h;obtain ⟨t,rfl⟩:=rx;have fin:∀ t' k,EP X pins σ Q (.str (Txt.slice z lo hi) t') {s with toks:=k}:=fun t' k=>⟨.str _,H,I.tok _,⟨_,rfl⟩,q⟩;refine ⟨"str",_,F.slot_str_getitem.lookup,typeIs_str s z t,?_⟩;cases pl with
 | none =>
  cases pu with
  | none=>exact wpAny_getItem_str_slice (l:=none) (u:=none) (st:=none) hs rfl (post_val_or_str ⟨Nat.le_trans (Txt.slice_le z _ _) hz,fin⟩)
  | int j uj=>exact wpAny_getItem_str_slice (l:=none) (u:=some (j,uj)) (st:=none) hs rfl (post_val_or_str ⟨Nat.le_trans (Txt.slice_le z _ _) hz,fin⟩)
 | int i ui =>
  cases pu with
  | none=>exact wpAny_getItem_str_slice (l:=some (i,ui)) (u:=none) (st:=none) hs rfl (post_val_or_str ⟨Nat.le_trans (Txt.slice_le z _ _) hz,fin⟩)
  | int j uj=>exact wpAny_getItem_str_slice (l:=some (i,ui)) (u:=some (j,uj)) (st:=none) hs rfl (post_val_or_str ⟨Nat.le_trans (Txt.slice_le z _ _) hz,fin⟩)
end
section
variable {X:Cx} {tg:Expr}
end
noncomputable def cW (n:Nat) (Pv:Nat->List V->Hp->Prop) (i m:Nat) (xs:List V) (H:Hp):Prop:=m=n - i/\i<=n/\Pv i xs H
theorem cW.next {n:Nat} {Pv:Nat->List V->Hp->Prop} {i:Nat} {xs:List V} {H:Hp} (hi:i < n) (p:Pv (i+1) xs H):∃ m',m' < n - i/\cW n Pv (i+1) m' xs H:=⟨n - (i+1),by omega,rfl,hi,p⟩
section
variable {fr:List Nat} {tc:TT} {te:TE} {σ:St} {H:Hp} {Q:VK}
theorem amG {K:PySem.W.Frag} {a:Addr} {ys:List V} (Pv:Nat->List V->Hp->Prop) (h0:Pv 0 [] H) (hz:∀ i xs H,Pv i xs H->xs.length<=1000000) (hl:∀ i xs H,Pv i xs H->eZ K H a ys)
    (hs:∀ i y xs H,i < ys.length->ys[i]?=some y->Pv i xs H->tc (some y::aY fr σ) H fun b H2=>if b=true then te (some y::aY fr σ) H2 (fun z H3=>∃ m',m' < ys.length - i/\cW ys.length Pv (i+1) m' (xs++[z]) H3) else ∃ m',m' < ys.length - i/\cW ys.length Pv (i+1) m' xs H2)
    (hd:∀ xs H,Pv ys.length xs H->∀ p,H p=none->Q (.ref p) (upd H p (.lst xs))) :
    ∃ W:Nat->Nat->List V->Hp->Prop,(∃ m,W 0 m [] H)/\∀ i m xs H,W i m xs H->xs.length<=1000000 /\
      (((Itl K a).stop i H/\∀ p,H p=none->Q (.ref p) (upd H p (.lst xs))) \/
       ((Itl K a).go i H/\∀ y H',(Itl K a).yld i H y H'->tc (some y::aY fr σ) H' fun b H2=>if b=true then te (some y::aY fr σ) H2 (fun z H3=>∃ m',m' < m/\W (i+1) m' (xs++[z]) H3) else ∃ m',m' < m/\W (i+1) m' xs H2)):=by
  refine ⟨cW ys.length Pv,⟨ys.length,by simp,Nat.zero_le _,h0⟩,?_⟩;rintro i m xs H ⟨rfl,hi,p⟩;refine ⟨hz i xs H p,?_⟩;have q:=hl i xs H p;by_cases hlt:i < ys.length
  · refine .inr ⟨⟨ys,ys[i],q,by simp [hlt]⟩,fun y H' yy=>?_⟩;obtain ⟨e,yy⟩:=yy;subst e;exact hs i y xs _ hlt (yy ys q) p
  · have e:i=ys.length:=by omega
    subst e;exact .inl ⟨⟨ys,q,Nat.le_refl _⟩,hd xs H p⟩
end
section
variable {fr:List Nat} {tc:TT} {te:TE} {σ:St} {H H1:Hp} {Q:VK}
end
end L2
namespace L2
open PySem PySem.Spec PyProof.Rows
theorem aaG {l:List (Str×NameKind)} {y:Str} {k:NameKind} (h:l.lookup y=some k):(y,k)∈l:=PySem.mem_of_lookup h
theorem cO.free {X:Cx} {sc:Scope} {cl:List (Str×Addr)} {x:Str} {fr:List Nat} {N:List Str} (kind:sc.kind=.function) (nc:(sc.names.all fun y=>y.2 != .cell)=true)
    (nm:(sc.names.all fun y=>!(y.2 == .local) || sc.names.lookup y.1 == some .local)=true) (tgt:sc.names.lookup x=some .local) (clos:closureFor sc X.env=pure cl)
    (sub:∀ y c,cl.lookup y=some c->X.env.cells.lookup y=some c) (has:((relabel sc X.env).names.all fun y=>(y.2 != .cell && y.2 != .free) || (cl.lookup y.1).isSome)=true)
    (nd:N.Nodup) (N0:N=x::fr.map fun j=>X.N.getD j x) (frc:∀ j∈fr,∃ y,X.N[j]?=some y/\X.env.kindOf y=some .cell/\((relabel sc X.env).names.lookup y=some .cell\/(relabel sc X.env).names.lookup y=some .free)):cO X sc cl x fr N where
  kind:=kind
  nocell:=fun y hy e=>by
    have h:=List.all_eq_true.mp nc y hy;rw [e] at h;exact absurd h (by decide)
  names:=fun y hy e=>by
    have h:=List.all_eq_true.mp nm y hy;rw [e] at h;simpa using h
  clos:=clos
  sub:=sub
  has:=fun y h=>by
    have key:∀ k,(relabel sc X.env).names.lookup y=some k->(k=.cell\/k=.free)->∃ c,cl.lookup y=some c:=fun k e hk=>by
      have h:=List.all_eq_true.mp has (y,k) (aaG e);rcases hk with rfl | rfl
      · exact Option.isSome_iff_exists.mp (by simpa using h)
      · exact Option.isSome_iff_exists.mp (by simpa using h)
    rcases h with h | h
    · exact key _ h (.inl rfl)
    · exact key _ h (.inr rfl)
  tgt:=tgt
  nd:=nd
  N0:=N0
  frc:=frc
section
variable {X:Cx} {sc:Scope} {cl:List (Str×Addr)} {x:Str} {fr:List Nat} {N:List Str} {elt iter:Expr} {px pos:Pos} {ifs:List Expr} {wi:TI} {tc:TT} {te:TE}
theorem qQ {i:Nat} {y:Str} {py spos:Pos} (hc:X.calm=true) (hx:∀ e s,¬ X.xe e s) (S:cO X sc cl x fr N) (hi:PI X (.Name x px) iter wi)
    (hb:∀ C s H ex pn,PTs (bT X sc cl C N s H ex pn) ifs tc/\PE (bT X sc cl C N s H ex pn) elt te)
    (hN:X.N.Nodup) (hy:X.N[i]?=some y) (hl:Loc X.env.scope y) (hsw:swapsWith (.ListComp elt [⟨.Name x px,iter,ifs,0⟩] sc pos) (some (.Name y py)) spos.line X.env=pure true:=by rfl)
    (hs:∀ v,foldedSetIterable iter X.env v=pure v:=by intro _;rfl) (hf:X.fn y=true\/X.env.scope.names.lookup y=some .local:=by first | exact .inl rfl | exact .inr rfl | assumption) :
    PS X (.Assign [.Name y py] (.ListComp elt [⟨.Name x px,iter,ifs,0⟩] sc pos) spos) (aq5 (kS wi fr tc te) (rE i)):=by
  intro pins s σ H D I h;have h:kS wi fr tc te σ H (fun x H1=>rE i x σ H1 D.nx):=h;unfold kS at h;rw [exec_Assign_Name_used _ _ _ _ hsw];refine wpAny_bind (wpAny_standAt (wpAny_bind ?_));show wpAny _ X.A (do let _ <- comprehension (.ListComp elt [⟨.Name x px,iter,ifs,0⟩] sc pos) sc X.env _ (newList []) false (eval iter X.env) (some (assign (.Name y py) X.env))) _ _ s;refine wpAny_bind (wpAny_mono (wpAny_comprehension_free (use:=some (assign (.Name y py) X.env)) (Q:=fun _ s'=>SP X pins D .next s') rfl hs S.clos S.kind S.names
    (thn (hi pins s σ H _ I h) fun v s1 h1=>thn h1 fun itv s2 h2=>?_)) (fun _ s' hq=>wpAny_pure (wpAny_pure hq)) fun _ _ e=>e)
  obtain ⟨it,fp,tn,J,H2,e,I2,T,st2,f2,W,⟨m0,w0⟩,turn⟩:=h2;subst e;refine xB (Q:=fun x H1=>rE i x σ H1 D.nx) (RR:=fun acc C=>compPost (model X.prog X.w) X.A X.xe (some (assign (.Name y py) X.env)) (fun _ s'=>SP X pins D .next s') acc C) hc hx S hb I2 T st2 f2 w0 turn ?_;intro D' C s' m' H' hn fC hfin q;show wpAny _ X.A (assign (.Name y py) X.env (.ref D')) _ _ _;have I':Inv X pins σ H' s':=hfin s'.heap (Heap.SameBut.refl ..);refine wpAny_assign_Name (acF (v:=.ref D') I' hN hy hl rfl (fun s'' I'' ⟨a,hsa,ha⟩=>?_) hf);obtain ⟨f0,f1,f2',f3,f4,f5⟩:=fC;have hCa:C≠a:=fun z=>by
    rcases ha with ha | ha
    · exact f1 (z.trans ha)
    · exact f4 y a ha z.symm
  refine ⟨m',hn.sameBut hsa hCa,fun h' hs'=>?_⟩;exact ⟨σ.set i (some (.ref D')),H',I''.turned (t':=s''.toks) (fun b o hb' e=>(hs'.2 b hb').trans e) f0 f1 f3 f4 f5,q⟩
end
section
variable {prog:Program} {w:World} {A:Around} {E:Value->Shared->Prop} {s:Shared}
end
end L2
namespace L2
open PySem PySem.Spec PyProof.Rows
section
variable {σ:St} {H:Hp} {Q:VK} {i j:Int} {x y:Str} {v:V} {n:Nat} {a:Addr}
theorem auE:jW 0 (some v::σ) H Q=Q v H:=by simp [jW]
theorem vZ {o:Option V}:jW (n+1) (o::σ) H Q=jW n σ H Q:=by simp [jW]
theorem az4 {o0:Option V}:jW 1 (o0::some v::σ) H Q=Q v H:=(vZ.trans auE)
theorem azI {o0 o1:Option V}:jW 2 (o0::o1::some v::σ) H Q=Q v H:=(vZ.trans az4)
theorem az5 {o0 o1 o2:Option V}:jW 3 (o0::o1::o2::some v::σ) H Q=Q v H:=(vZ.trans azI)
theorem aA4 {o0 o1 o2 o3:Option V}:jW 4 (o0::o1::o2::o3::some v::σ) H Q=Q v H:=(vZ.trans az5)
theorem ayT {o0 o1 o2 o3 o4:Option V}:jW 5 (o0::o1::o2::o3::o4::some v::σ) H Q=Q v H:=(vZ.trans aA4)
theorem aA5 {o0 o1 o2 o3 o4 o5:Option V}:jW 6 (o0::o1::o2::o3::o4::o5::some v::σ) H Q=Q v H:=(vZ.trans ayT)
theorem ayY {o0 o1 o2 o3 o4 o5 o6:Option V}:jW 7 (o0::o1::o2::o3::o4::o5::o6::some v::σ) H Q=Q v H:=(vZ.trans aA5)
theorem azJ {o0 o1 o2 o3 o4 o5 o6 o7:Option V}:jW 8 (o0::o1::o2::o3::o4::o5::o6::o7::some v::σ) H Q=Q v H:=(vZ.trans ayY)
theorem aAG {o0 o1 o2 o3 o4 o5 o6 o7 o8:Option V}:jW 9 (o0::o1::o2::o3::o4::o5::o6::o7::o8::some v::σ) H Q=Q v H:=(vZ.trans azJ)
theorem auL {o0 o1 o2 o3 o4 o5 o6 o7 o8 o9:Option V}:jW 10 (o0::o1::o2::o3::o4::o5::o6::o7::o8::o9::some v::σ) H Q=Q v H:=(vZ.trans aAG)
theorem atZ {o0 o1 o2 o3 o4 o5 o6 o7 o8 o9 o10:Option V}:jW 11 (o0::o1::o2::o3::o4::o5::o6::o7::o8::o9::o10::some v::σ) H Q=Q v H:=(vZ.trans auL)
theorem azO {o0 o1 o2 o3 o4 o5 o6 o7 o8 o9 o10 o11:Option V}:jW 12 (o0::o1::o2::o3::o4::o5::o6::o7::o8::o9::o10::o11::some v::σ) H Q=Q v H:=(vZ.trans atZ)
theorem aZ {α β:Type} {f:α->β} {a:α} {l:List α}:List.map f (a::l)=f a::List.map f l:=rfl
theorem bJ {α β:Type} {f:α->β}:List.map f []=[]:=rfl
theorem aBU {C:Int->Int->Prop} {g:Int->Int->V}:rI C g (.int i) (.int j) H Q=(C i j/\Q (g i j) H):=by simp [rI]
theorem aAK {g:Int->Int->V}:rI0 g (.int i) (.int j) H Q=Q (g i j) H:=by simp [rI0]
theorem aCC {g:Int->V}:rU g (.int i) H Q=Q (g i) H:=by simp [rU]
theorem w_lit (h:Nat.ble n 1000=true):(n<=sizeLine)=True:=eq_true (Nat.le_of_lt (small1000 (Nat.le_of_ble_eq_true h)))
theorem aBB:rEq (.int i) (.int j) H Q=Q (.bl (decide (i=j))) H:=by simp only [rEq,show scal (.int i) (.int j)=true from rfl,V.int.injEq,true_and]
theorem aBE:rEq (.str x) (.str y) H Q=Q (.bl (decide (x=y))) H:=by simp only [rEq,show scal (.str x) (.str y)=true from rfl,V.str.injEq,true_and]
theorem az7:rNe (.str x) (.str y) H Q=Q (.bl (!decide (x=y))) H:=by simp only [rNe,show scal (.str x) (.str y)=true from rfl,V.str.injEq,true_and]
end
theorem e9 {a b:String}:(Str.ofString a=Str.ofString b)=(a=b):=by
 refine propext ⟨fun h=>?_,fun h=>by rw [h]⟩;rw [Str.ofString_eq_toList,Str.ofString_eq_toList] at h;have e:(a.toList.map Char.toNat)=(b.toList.map Char.toNat):=by
  have:=congrArg (fun z:Str=>z.cps.toList) h;simpa using this
 have inj:∀ x y:Char,x.toNat=y.toNat->x=y:=fun x y q=>Char.ext (UInt32.toNat_inj.mp q);have:=(List.map_inj_right (f:=Char.toNat) (fun x y q=>inj x y q)).mp e;exact String.toList_inj.mp this
noncomputable def Kp (S:List Addr) (H H':Hp):Prop:=∀ b o,H b=some o->b∉S->H' b=some o
section
variable {S T:List Addr} {H H1 H2:Hp} {a p:Addr} {o:HO}
theorem Kp.refl:Kp S H H:=fun _ _ h _=>h
theorem Kp.trans (x:Kp S H H1) (y:Kp S H1 H2):Kp S H H2:=fun b o h n=>y b o (x b o h n) n
theorem Kp.mono (x:Kp S H H1) (h:∀ b∈S,b∈T):Kp T H H1:=fun b o e n=>x b o e fun z=>n (h b z)
theorem Kp.new (h:H p=none):Kp S H (upd H p o):=fun b u e _=>by rw [aI (aL e h)];exact e
theorem Kp.set (h:p∈S):Kp S H (upd H p o):=fun b u e n=>by rw [aI (show b≠p from fun z=>n (by rw [z];exact h))];exact e
theorem Kp.at (x:Kp S H H1) (e:H a=some o) (n:a∉S:=by first | exact List.not_mem_nil | simp_all):H1 a=some o:=x a o e n
theorem Kp.same (x:Kp [] H H1):Same H H1:=fun b o e=>x b o e (by simp)
theorem Kp.of (x:Same H H1):Kp S H H1:=fun b o e _=>x b o e
theorem Kp.drop (x:Kp (p::S) H H1) (h:H p=none):Kp S H H1:=fun b o e n=>x b o e (by
 simp only [List.mem_cons,not_or];exact ⟨aL e h,n⟩)
end
end L2
namespace L2
open PySem PySem.Spec PyProof.Rows
noncomputable abbrev Tg {α:Type} (_:α):Type:=Unit
noncomputable def gR {α:Type} (o:Option α) (k:α->Prop) (_u:Tg k:=()):Prop:=match o with
 | some x=>k x
 | none=>False
noncomputable def onB (x:V) (k:Bool->Prop) (_u:Tg k:=()):Prop:=match x with
 | .bl b=>k b
 | _=>False
noncomputable def dX (o:Option HO) (k:List V->Prop) (_u:Tg k:=()):Prop:=match o with
 | some (.lst xs)=>k xs
 | _=>False
noncomputable def mJ (o:Option HO) (k:List V->Prop) (_u:Tg k:=()):Prop:=match o with
 | some (.lst xs)=>k xs
 | some (.tup xs)=>k xs
 | _=>False
noncomputable def c0 (o:Option HO) (k:List (Key×V)->Prop) (_u:Tg k:=()):Prop:=match o with
 | some (.dK xs)=>k xs
 | _=>False
noncomputable def bF (x:V) (k:Addr->Prop) (_u:Tg k:=()):Prop:=match x with
 | .ref p=>k p
 | _=>False
noncomputable def fP (x:V) (k:Int->Prop) (_u:Tg k:=()):Prop:=match x with
 | .int i=>k i
 | _=>False
theorem c8 {α:Type} {o:Option α} {k:α->Prop} (h:gR o k):∃ x,o=some x/\k x:=by
 cases o with
 | none=>exact h.elim
 | some x=>exact ⟨x,rfl,h⟩
theorem awN {x:V} {k:Bool->Prop} (h:onB x k):∃ b,x=.bl b/\k b:=by
 cases x with
 | bl b=>exact ⟨b,rfl,h⟩
 | _=>exact h.elim
theorem yO {x:V} {k:Bool->Prop}:(∃ b,x=.bl b/\k b)=onB x k:=by
 refine propext ⟨fun ⟨b,e,h⟩=>by subst e;exact h,awN⟩
theorem aT {x:V} {k:Addr->Prop} (h:bF x k):∃ b,x=.ref b/\k b:=by
 cases x with
 | ref b=>exact ⟨b,rfl,h⟩
 | _=>exact h.elim
theorem dS {x:V} {k:Int->Prop} (h:fP x k):∃ b,x=.int b/\k b:=by
 cases x with
 | int b=>exact ⟨b,rfl,h⟩
 | _=>exact h.elim
theorem eQ {o:Option HO} {k:List V->Prop} (h:dX o k):∃ xs,o=some (.lst xs)/\k xs:=by
 unfold dX at h;split at h
 ·exact ⟨_,rfl,h⟩
 ·exact h.elim
theorem oA {o:Option HO} {k:List V->Prop} (h:mJ o k):∃ xs,(o=some (.lst xs)\/o=some (.tup xs))/\k xs:=by
 unfold mJ at h;split at h
 ·exact ⟨_,.inl rfl,h⟩
 ·exact ⟨_,.inr rfl,h⟩
 ·exact h.elim
theorem c5 {o:Option HO} {k:List (Key×V)->Prop} (h:c0 o k):∃ xs,o=some (.dK xs)/\k xs:=by
 unfold c0 at h;split at h
 ·exact ⟨_,rfl,h⟩
 ·exact h.elim
noncomputable def cIx:R2:=fun x y H Q=>match x with
 | .ref p=>mJ (H p) fun xs=>fP y fun i=>gR (kC xs i) fun v=>Q v H
 | .str z=>fP y fun i=>z.length<=sizeLine/\gR (kC z.cps.toList i) fun c=>Q (.str ⟨#[c]⟩) H
 | _=>False
noncomputable def asV (H:Hp) (Q:VK) (a:Addr) (oa ob:Option HO):Prop:=match oa,ob with
 | some (.lst xs),some (.lst ys)=>xs.length+ys.length<=sizeLine/\∀ p,H p=none->Q (.ref p) (upd H p (.lst (xs++ys)))
 | some (.tup xs),some (.tup ys)=>xs≠[]/\xs.length+ys.length<=sizeLine/\(ys≠[]->∀ p,H p=none->Q (.ref p) (upd H p (.tup (xs++ys))))/\(ys=[]->Q (.ref a) H)
 | _,_=>False
noncomputable def aoV:R2:=fun x y H Q=>match x,y with
 | .int i,.int j=>Q (.int (i+j)) H
 | .str a,.str b=>a.length+b.length<=sizeLine/\Q (.str (a++b)) H
 | .ref a,.ref b=>asV H Q a (H a) (H b)
 | _,_=>False
noncomputable def aoA (lo hi:Option Int) (H:Hp) (Q:VK) (o:Option HO):Prop:=match o with
 | some (.lst xs)=>∀ p,H p=none->Q (.ref p) (upd H p (.lst (pQ xs lo hi)))
 | some (.tup xs)=>¬ (HT.gL xs.length 0 lo=0/\HT.gL xs.length xs.length hi=xs.length)/\∀ p,H p=none->Q (.ref p) (upd H p (.tup (pQ xs lo hi)))
 | _=>False
noncomputable def cSl:V->Option Int->Option Int->Hp->VK->Prop:=fun x lo hi H Q=>match x with
 | .str z=>z.length<=sizeLine/\Q (.str (Txt.slice z lo hi)) H
 | .ref a=>aoA lo hi H Q (H a)
 | _=>False
noncomputable def as9:List V->Hp->VK->Prop:=fun vs H Q=>match vs with
 | [.str z]=>z.length<=sizeLine/\Q (.int z.length) H
 | [.ref p]=>mJ (H p) fun xs=>Q (.int xs.length) H
 | _=>False
noncomputable def aA2:V->V->V->Hp->(Hp->Prop)->Prop:=fun o i v H Q=>bF o fun p=>fP i fun k=>dX (H p) fun xs=>gR (ixN xs.length k) fun j=>Q (upd H p (.lst (xs.set j v)))
noncomputable def jV:V->Option Key
 | .int i=>some (.inl i)
 | .str x=>some (.inr x)
 | .non=>some .no
 | _=>none
theorem adZ {y:V} {k:Key} (h:jV y=some k):y=kV k:=by
 cases y<;>simp only [jV,Option.some.injEq,reduceCtorEq] at h<;>subst h<;>rfl
noncomputable def at4 (td ty:TE):TE:=fun σ H Q=>td σ H fun x H1=>bF x fun a=>c0 (H1 a) fun _=>ty σ H1 fun y H2=>c0 (H2 a) fun kvs=>gR (jV y) fun k=>Q ((cI kvs k).getD .non) H2
noncomputable def azZ (td ty:TE):TE:=fun σ H Q=>td σ H fun x H1=>ty σ H1 fun y H2=>bF x fun a=>c0 (H2 a) fun kvs=>gR (jV y) fun k=>gR (cI kvs k) fun v=>Q v H2
noncomputable def azC (td ty tv:TE):TS:=fun D σ H=>tv σ H fun v H1=>td σ H1 fun x H2=>ty σ H2 fun y H3=>bF x fun a=>c0 (H3 a) fun kvs=>gR (jV y) fun k=>kvs.length < sizeLine/\D.nx σ (upd H3 a (.dK (eI kvs k v)))
noncomputable def cIn (neg:Bool):R2:=fun x y H Q=>bF y fun p=>mJ (H p) fun xs=>dR x=true/\xs.all dR=true/\Q (.bl (if neg=true then !u0 x xs else u0 x xs)) H
noncomputable def atJ:List V->Hp->VK->Prop:=fun vs H Q=>match vs with
 | [.int i]=>Q (.int i) H
 | [.bl k]=>Q (.int (if k=true then 1 else 0)) H
 | _=>False
noncomputable def av5:R2:=fun x y H Q=>match y with
 | .non=>Q (.bl (decide (x=.non))) H
 | _=>False
noncomputable def atU:R2:=fun x y H Q=>match y with
 | .non=>Q (.bl (!decide (x=.non))) H
 | _=>False
noncomputable def awA:List V->Hp->VK->Prop:=fun vs H Q=>match vs with
 | [.int i,.int j]=>Q (.int (if j > i then j else i)) H
 | _=>False
noncomputable def axR:List V->Hp->VK->Prop:=fun vs H Q=>match vs with
 | [.int i,.int j]=>Q (.int (if j < i then j else i)) H
 | _=>False
noncomputable def kSc (v:V) (T:String):Option Bool:=match v with
 | .int _=>if T = "int" then some true else if T = "bool"\/T = "str"\/T = "tuple" then some false else none
 | .bl _=>if T = "int"\/T = "bool" then some true else if T = "str"\/T = "tuple" then some false else none
 | .str _=>if T = "str" then some true else if T = "int"\/T = "bool"\/T = "tuple" then some false else none
 | .non=>if T = "int"\/T = "bool"\/T = "str"\/T = "tuple" then some false else none
 | _=>none
noncomputable def ag3 (o:Option HO) (T:String):Option Bool:=match o with
 | some (.lst _)=>if T = "int"\/T = "bool"\/T = "str"\/T = "tuple" then some false else none
 | some (.tup _)=>if T = "tuple" then some true else if T = "int"\/T = "bool"\/T = "str" then some false else none
 | some (.dK _)=>if T = "int"\/T = "bool"\/T = "str" then some false else none
 | _=>none
noncomputable def afT:List V->Hp->VK->Prop:=fun vs H Q=>match vs with
 | [.ref p,.ty T]=>gR (ag3 (H p) T) fun b=>Q (.bl b) H
 | [v,.ty T]=>gR (kSc v T) fun b=>Q (.bl b) H
 | _=>False
theorem au8 {K:PySem.W.Frag} {H:Hp} {v:V} {T:String} {b:Bool} (h:kSc v T=some b):qV K H v T b:=by
 unfold kSc at h;split at h
 all_goals (repeat' split at h)
 all_goals first
  | cases h
  | skip
 all_goals first
  | (subst_vars;constructor)
  | (rename_i q;rcases q with rfl | rfl<;>constructor)
  | (rename_i q _;rcases q with rfl | rfl<;>constructor)
  | (rename_i q;rcases q with rfl | rfl | rfl<;>constructor)
  | (rename_i q;rcases q with rfl | rfl | rfl | rfl<;>constructor)
theorem asD {K:PySem.W.Frag} {H:Hp} {p:Addr} {T:String} {b:Bool} (h:ag3 (H p) T=some b):qV K H (.ref p) T b:=by
 unfold ag3 at h;split at h
 ·rename_i xs e
  have q:eZ K H p xs:=.inl (.inl e);split at h
  ·cases h
   rename_i z
   rcases z with rfl | rfl | rfl | rfl
   ·exact .li q
   ·exact .lb q
   ·exact .ls q
   ·exact .lt q
  ·cases h
 ·rename_i xs e
  have q:dF K H p xs:=.inl (.inl e);split at h
  ·cases h
   subst_vars
   exact .tt q
  ·split at h
   ·cases h
    rename_i z
    rcases z with rfl | rfl | rfl
    ·exact .ti q
    ·exact .tb q
    ·exact .ts q
   ·cases h
 ·rename_i kvs e
  split at h
  ·cases h
   rename_i z
   rcases z with rfl | rfl | rfl
   ·exact .di e
   ·exact .db e
   ·exact .ds e
  ·cases h
 ·cases h
noncomputable def aAN (to te:TE):TE:=fun σ H Q=>to σ H fun x H1=>bF x fun a=>dX (H1 a) fun _=>te σ H1 fun y H2=>dX (H2 a) fun xs=>xs.length < sizeLine/\Q .non (upd H2 a (.lst (xs++[y])))
noncomputable def ayO (to:TE):TE:=fun σ H Q=>to σ H fun x H1=>bF x fun a=>dX (H1 a) fun xs=>gR (xs[xs.length - 1]?) fun y=>Q y (upd H1 a (.lst xs.dropLast))
section
variable {X:Cx}
theorem IxR.imp {r r':R2} (h:IxR X r) (f:∀ x y H Q,r' x y H Q->r x y H Q):IxR X r':=fun value slice pins s σ H x y v u Q I rx ry q=>h value slice pins s σ H x y v u Q I rx ry (f _ _ _ _ q)
theorem jZ.imp {f:Value->Value->Sem Value} {r r':R2} (h:jZ X f r) (g:∀ x y H Q,r' x y H Q->r x y H Q):jZ X f r':=fun pins s σ H x y v u Q I rx ry q=>h pins s σ H x y v u Q I rx ry (g _ _ _ _ q)
theorem bN:IxR X cIx:=auZ.imp fun x y H Q h=>by
 cases x with
 | ref p =>
  obtain ⟨xs,e,h⟩:=oA h;obtain ⟨i,rfl,h⟩:=dS h;obtain ⟨v,e2,h⟩:=c8 h;rcases e with e | e
  ·exact .inl ⟨_,_,_,_,rfl,rfl,.inl (.inl e),e2,h⟩
  ·exact .inr (.inl ⟨_,_,_,_,rfl,rfl,.inl (.inl e),e2,h⟩)
 | str z =>
  obtain ⟨i,rfl,h1,h⟩:=dS h;obtain ⟨v,e2,h⟩:=c8 h;exact .inr (.inr ⟨_,_,_,rfl,rfl,h1,e2,h⟩)
 | _=>exact h.elim
theorem cN:jZ X (binaryOp .Add) aoV:=(awP.or (ah4.or (av0.or ajH))).imp fun x y H Q h=>by
 unfold aoV asV at h;split at h
 ·exact .inl ⟨_,_,rfl,rfl,h⟩
 ·exact .inr (.inl ⟨_,_,rfl,rfl,h.1,h.2⟩)
 ·split at h
  ·exact .inr (.inr (.inl ⟨_,_,_,_,rfl,rfl,‹_›,‹_›,h.1,h.2⟩))
  ·exact .inr (.inr (.inr ⟨_,_,_,_,rfl,rfl,.inl (.inl ‹_›),.inl (.inl ‹_›),h.1,h.2.1,h.2.2.2,h.2.2.1⟩))
  ·exact h.elim
 ·exact h.elim
theorem azP:SlR X cSl:=fun pins s σ H x v vl vu lo hi sl Q I rx hs pl pu h=>by
 refine (ai2.or (av7.or avP)) pins s σ H x v vl vu lo hi sl Q I rx hs pl pu ?_;unfold cSl aoA at h;split at h
 ·exact .inr (.inr ⟨_,rfl,h.1,h.2⟩)
 ·split at h
  ·exact .inl ⟨_,_,rfl,.inl (.inl ‹_›),h⟩
  ·exact .inr (.inl ⟨_,_,rfl,.inl (.inl ‹_›),h.1,h.2⟩)
  ·exact h.elim
 ·exact h.elim
theorem sL:dW X (.builtin "len") as9:=fun pins s σ H xs us Q I r h=>by
 unfold as9 at h;split at h
 ·exact xG pins s σ H _ us Q I r ⟨_,_,rfl,⟨h.1,rfl⟩,h.2⟩
 ·obtain ⟨ys,e,h⟩:=oA h;rcases e with e | e
  ·exact xG pins s σ H _ us Q I r ⟨_,_,rfl,.inl ⟨_,.inl (.inl e),rfl⟩,h⟩
  ·exact xG pins s σ H _ us Q I r ⟨_,_,rfl,.inr ⟨_,.inl (.inl e),rfl⟩,h⟩
 ·exact h.elim
theorem ajE:PSet X aA2:=fun pins s σ H o i v ov iv u Q I ro ri rv h=>by
 obtain ⟨p,rfl,h⟩:=aT h;obtain ⟨k,rfl,h⟩:=dS h;obtain ⟨xs,e,h⟩:=eQ h;obtain ⟨j,e2,h⟩:=c8 h;exact amS pins s σ H _ _ v ov iv u Q I ro ri rv ⟨_,_,_,_,rfl,rfl,e,e2,h⟩
theorem ahQ:jZ X (compareOp .In) (cIn false):=acL.imp fun x y H Q h=>by
 obtain ⟨p,rfl,h⟩:=aT h;obtain ⟨xs,e,h1,h2,h⟩:=oA h;exact ⟨_,_,rfl,e.imp (fun e=>.inl (.inl e)) (fun e=>.inl (.inl e)),h1,h2,h⟩
theorem acO:jZ X (compareOp .NotIn) (cIn true):=adE.imp fun x y H Q h=>by
 obtain ⟨p,rfl,h⟩:=aT h;obtain ⟨xs,e,h1,h2,h⟩:=oA h;exact ⟨_,_,rfl,e.imp (fun e=>.inl (.inl e)) (fun e=>.inl (.inl e)),h1,h2,h⟩
theorem abT:dW X (.type "int") atJ:=fun pins s σ H xs us Q I r h=>by
 refine alS pins s σ H xs us Q I r ?_;unfold atJ at h;split at h
 ·exact .inl ⟨_,rfl,h⟩
 ·exact .inr ⟨_,rfl,by
   rename_i k
   cases k<;>exact h⟩
 ·exact h.elim
theorem lP:jZ X (compareOp .Is) av5:=axZ.imp fun x y H Q h=>by
 cases y with
 | non=>exact ⟨rfl,h⟩
 | _=>exact h.elim
theorem alI:jZ X (compareOp .IsNot) atU:=arI.imp fun x y H Q h=>by
 cases y with
 | non=>exact ⟨rfl,h⟩
 | _=>exact h.elim
theorem tF (hc:X.calm=true):dW X (.builtin "max") awA:=fun pins s σ H xs us Q I r h=>by
 refine alU hc pins s σ H xs us Q I r ?_;unfold awA at h;split at h
 ·exact ⟨_,_,rfl,h⟩
 ·exact h.elim
theorem acG (hc:X.calm=true):dW X (.builtin "min") axR:=fun pins s σ H xs us Q I r h=>by
 refine akX hc pins s σ H xs us Q I r ?_;unfold axR at h;split at h
 ·exact ⟨_,_,rfl,h⟩
 ·exact h.elim
theorem alV:dW X (.builtin "isinstance") afT:=fun pins s σ H xs us Q I r h=>by
 refine aoD pins s σ H xs us Q I r ?_;unfold afT at h;split at h
 ·obtain ⟨b,e,h⟩:=c8 h;exact ⟨_,_,b,rfl,asD e,h⟩
 ·obtain ⟨b,e,h⟩:=c8 h;exact ⟨_,_,b,rfl,au8 e,h⟩
 ·exact h.elim
variable {o e:Expr} {to te:TE} {apos cpos:Pos}
theorem j4 (ho:PE X o to) (he:PE X e te) (hbase:attributeBase o "append" X.env (eval o X.env)=eval o X.env:=by rfl)
    (hfew:((backTo cpos (starEach [e] X.env)).all (fun x=>!x.1) && (backToKw cpos (keywordEach [] X.env)).all (fun x=>x.1.isSome)
      && decide ([e].length+([]:List Keyword).length+(if ([]:List Keyword).isEmpty then 0 else 1) < 30))=true:=by rfl)
    (hline:(apos.endLine == cpos.line)=true:=by rfl) (hs:starEach [e] X.env=(false,eval e X.env)::starEach [] X.env:=by rfl) (hplain:(backTo cpos (starEach [] X.env)).any (·.1)=false:=by rfl) :
    PE X (.Call (.Attribute o "append" apos) [e] [] cpos) (aAN to te):=by
  intro pins s σ H Q I h;refine wpAny_Call_method_late hbase hfew hline rfl (thn (ho pins s σ H _ I h) fun v s1 ⟨x,H1,I1,r1,q1⟩=>?_);obtain ⟨a,rfl,q1⟩:=aT q1;obtain ⟨xs,e1,q1⟩:=eQ q1;obtain ⟨h1,h2⟩:=ac1 (T:="list") I1 r1 (.inl ⟨rfl,xs,.inl (.inl e1)⟩);refine ⟨"list","list.append",PySem.F.plainAttrs_list,PySem.F.slot_list_append,PySem.F.type_list_append,h1,h2,?_⟩;have q2:afN te agU σ H1 (fun vs H2=>vs.length=1/\dX (H2 a) fun xs=>xs.length < sizeLine/\Q .non (upd H2 a (.lst (xs++vs)))):=by
    simpa only [afN,agU,List.length_cons,List.length_nil,Nat.zero_add,true_and] using q1
  have hA:=aj6 he aB hs cpos pins s1 σ H1 _ I1 q2;rw [hs] at hA ⊢;refine Calls.callWith_builtin (by show (false || (backTo cpos (starEach [] X.env)).any (·.1))=false;rw [hplain]<;>rfl) (Calls.evalArgs_plain ?_);refine thn hA fun us s2 ⟨vs,H2,I2,r2,l2,q3⟩=>?_;obtain ⟨xs,e3,q4,q5⟩:=eQ q3
  match vs,l2,r2,q5 with
  | [y],_,r2,q5=>exact alN pins s2 σ H2 _ _ v us Q I2 r1 r2 ⟨_,_,_,rfl,rfl,e3,q4,q5⟩
theorem adU (ho:PE X o to) (hbase:attributeBase o "pop" X.env (eval o X.env)=eval o X.env:=by rfl) (hline:(apos.endLine == cpos.line)=true:=by rfl):PE X (.Call (.Attribute o "pop" apos) [] [] cpos) (ayO to):=by
 intro pins s σ H Q I h;refine wpAny_Call_method0_late hbase hline (thn (ho pins s σ H _ I h) fun v s1 ⟨x,H1,I1,r1,q1⟩=>?_);obtain ⟨a,rfl,q1⟩:=aT q1;obtain ⟨xs,e1,q1⟩:=eQ q1;obtain ⟨y,e2,q1⟩:=c8 q1;obtain ⟨h1,h2⟩:=ac1 (T:="list") I1 r1 (.inl ⟨rfl,xs,.inl (.inl e1)⟩);exact ⟨"list","list.pop",PySem.F.plainAttrs_list,PySem.F.slot_list_pop,PySem.F.type_list_pop,h1,h2,Calls.callWith_builtin rfl (PySem.evalArgs_none (axL pins s1 σ H1 _ [] v [] Q I1 r1 .nil ⟨_,_,_,rfl,rfl,e1,e2,q1⟩))⟩
end
section
variable {X:Cx} {o i e value:Expr} {pos pos' apos cpos:Pos} {td ty tv:TE}
theorem akK (hu:X.A.units+1 < cLine) (ho:PE X o td) (he:PE X e ty) (m:M1 X o "get" apos e cpos):PE X (.Call (.Attribute o "get" apos) [e] [] cpos) (at4 td ty):=by
 intro pins s σ H Q I h;refine wpAny_Call_method m.base m.few m.line PySem.F.plainAttrs_dict PySem.F.slot_dict_get PySem.F.type_dict_get (thn (ho pins s σ H _ I h) fun u s1 ⟨x,H1,I1,rx,q1⟩=>?_);obtain ⟨a,rfl,q1⟩:=aT q1;obtain ⟨kvs,e1,q1⟩:=c5 q1;obtain rfl:u=Value.ref a:=rx;obtain ⟨t1,t2,_⟩:=tZ I1 (.inl ⟨_,.inl e1⟩);refine ⟨t1,t2,?_⟩;rw [m.trees];refine Calls.callWith_builtin rfl (Calls.evalArgs_plain (Calls.spliced_cons (thn (he pins s1 σ H1 _ I1 q1) fun iv s2 ⟨y,H2,I2,ry,q2⟩=>Calls.spliced_nil ?_)));obtain ⟨kvs,e1,q2⟩:=c5 q2;obtain ⟨k,e2,q2⟩:=c8 q2;have g:DGet H2 a y (cI kvs k):=by rw [adZ e2];exact DGet.k e1
 exact au9 hu I2 g ry fun w' s3 I3 rw'=>⟨_,H2,I3,rw',q2⟩
theorem rA (hu:X.A.units+1 < cLine) (ho:PE X o td) (hi:PE X i ty) (hs:awU i):PE X (.Subscript o i pos) (azZ td ty):=by
 intro pins s σ H Q I h;refine ajD PySem.F.slot_dict_getitem.lookup hs (thn (ho pins s σ H _ I h) fun u s1 ⟨x,H1,I1,rx,q1⟩=>thn (hi pins s1 σ H1 _ I1 q1) fun iv s2 ⟨y,H2,I2,ry,q2⟩=>?_);obtain ⟨a,rfl,q2⟩:=aT q2;obtain ⟨kvs,e1,q2⟩:=c5 q2;obtain ⟨k,e2,q2⟩:=c8 q2;obtain ⟨v,e3,q2⟩:=c8 q2;obtain rfl:u=Value.ref a:=rx;have g:DGet H2 a y (some v):=by rw [adZ e2,<- e3];exact DGet.k e1
 exact ⟨vH I2 g,ak5 hu I2 g ry fun w' s3 I3 rw'=>⟨v,H2,I3,rw',q2⟩⟩
theorem mD (hu:X.A.units+1 < cLine) (ho:PE X o td) (hi:PE X i ty) (hv:PE X value tv) (hs:swapsWith value (some (.Subscript o i pos')) pos.line X.env=pure false:=by rfl) :
    PS X (.Assign [.Subscript o i pos'] value pos) (azC td ty tv):=by
  intro pins s σ H D I h;refine wpAny_Assign_Subscript (thn (hv pins s σ H _ I h) fun r s1 ⟨v,H1,I1,rv,q1⟩=>thn (ho pins s1 σ H1 _ I1 q1) fun u s2 ⟨x,H2,I2,rx,q2⟩=>thn (hi pins s2 σ H2 _ I2 q2) fun iv s3 ⟨y,H3,I3,ry,q3⟩=>?_) hs;obtain ⟨a,rfl,q3⟩:=aT q3;obtain ⟨kvs,e1,q3⟩:=c5 q3;obtain ⟨k,e2,q3⟩:=c8 q3;obtain rfl:u=Value.ref a:=rx;have g:DPut H3 a y v (upd H3 a (.dK (eI kvs k v))):=by rw [adZ e2];exact DPut.k e1 q3.1
  exact akR hu I3 g ry rv fun s4 I4=>⟨σ,_,I4,q3.2⟩
end
end L2
namespace L2
open PySem PySem.Spec PyProof.Rows
section
variable {σ:St} {H:Hp} {Q:VK} {D:Ends} {t u:TS} {te ta tb tc to ti:TE} {tl th:TO} {g:TG} {gs:TGs} {tt tt':TT} {as:TA} {i j:Int} {n:Nat} {x y:Str} {v w:V} {vs:List V} {b:Bool} {p a:Addr} {r r':R2} {B:Bool->Hp->Prop} {K:PySem.W.Frag}
theorem az6:ar1 t u D σ H=t {D with nx:=u D} σ H:=rfl
theorem azL:aq5 te g D σ H=te σ H fun x H1=>g x σ H1 D.nx:=rfl
theorem au6 {N:St->Hp->Prop}:rE n v σ H N=N (σ.set n (some v)) H:=rfl
theorem aAO:awS te D σ H=te σ H D.rt:=rfl
theorem aAM:apO tt t u D σ H=tt σ H fun b H1=>if b=true then t D σ H1 else u D σ H1:=rfl
theorem aw6:afZ te σ H B=te σ H fun x H'=>onB x fun k=>B k H':=by simp only [afZ,yO]
theorem aBZ:tB te σ H B=te σ H fun x H'=>onB x fun k=>B k H':=by simp only [tB,yO]
theorem aCI:tIf tt ta tb σ H Q=tt σ H fun c H1=>if c=true then ta σ H1 Q else tb σ H1 Q:=rfl
theorem aB6:tOp r ta tb σ H Q=ta σ H fun x H1=>tb σ H1 fun y H2=>r x y H2 Q:=rfl
theorem aB2 {q:V->Hp->VK->Prop}:tUn q ta σ H Q=ta σ H fun x H1=>q x H1 Q:=rfl
theorem e_c:tC v σ H Q=Q v H:=rfl
theorem axJ {A:List V->Hp->Prop}:afN te as σ H A=te σ H fun x H1=>as σ H1 fun xs H2=>A (x::xs) H2:=rfl
theorem ayK {A:List V->Hp->Prop}:agU σ H A=A [] H:=rfl
theorem av8 {sp:Sp} {E:XK}:aoU sp [] E as σ H Q=as σ H fun vs H1=>sp vs H1 Q E:=by simp only [aoU,List.append_nil]
theorem aBN {q:List V->Hp->VK->Prop}:tCB q as σ H Q=as σ H fun vs H1=>q vs H1 Q:=rfl
theorem azF:aA0 as σ H Q=as σ H fun xs H1=>xs.length<=sizeLine/\∀ p,H1 p=none->Q (.ref p) (upd H1 p (.lst xs)):=rfl
theorem ay7:aAL as σ H Q=as σ H fun xs H1=>xs.length<=sizeLine/\∀ p,H1 p=none->Q (.ref p) (upd H1 p (.tup xs)):=rfl
theorem ax9:aoZ σ H Q = ∀ p,H p=none->Q (.ref p) (upd H p (.dK [])):=rfl
theorem avI:apW te D σ H=te σ H fun _ H1=>D.nx σ H1:=rfl
theorem av6:amO D σ H=D.nx σ H:=rfl
theorem avD:aoM ta tb σ H Q=ta σ H fun x H1=>onB x fun c=>if c=true then tb σ H1 Q else Q (.bl false) H1:=by simp only [aoM,yO]
theorem aBA:au1 ta tb σ H Q=ta σ H fun x H1=>onB x fun c=>if c=true then Q (.bl true) H1 else tb σ H1 Q:=by simp only [au1,yO]
theorem av3:ao8 ta σ H Q=ta σ H fun x H1=>onB x fun c=>Q (.bl (!c)) H1:=by simp only [ao8,yO]
theorem ayS:ay2 tt tt' σ H B=tt σ H fun c H1=>if c=true then tt' σ H1 B else B false H1:=rfl
theorem aBW:tOr tt tt' σ H B=tt σ H fun c H1=>if c=true then B true H1 else tt' σ H1 B:=rfl
theorem aAE:az3 tt σ H B=tt σ H fun c H1=>B (!c) H1:=rfl
theorem aB1 {q:V->Option Int->Option Int->Hp->VK->Prop}:tSl q te tl th σ H Q=te σ H fun x H1=>tl σ H1 fun l H2=>th σ H2 fun u H3=>q x l u H3 Q:=rfl
theorem ao0 {k:Int->Prop}:(∃ i,v=.int i/\k i)=fP v k:=propext ⟨fun ⟨i,e,h⟩=>by subst e;exact h,dS⟩
theorem awE {O:Option Int->Hp->Prop}:ao6 te σ H O=te σ H fun x H1=>fP x fun i=>O (some i) H1:=by simp only [ao6,ao0]
theorem apL {O:Option Int->Hp->Prop}:aj4 σ H O=O none H:=rfl
theorem au3 {s:TSet} {N:St->Hp->Prop}:azT to ti s v σ H N=to σ H fun o H1=>ti σ H1 fun i H2=>s o i v H2 fun H3=>N σ H3:=rfl
theorem aw1 {N:St->Hp->Prop}:as4 [] σ H N=N σ H:=by simp [as4]
theorem atE {N:St->Hp->Prop}:ajU g gs (v::vs) σ H N=g v σ H fun σ' H'=>gs vs σ' H' N:=propext ⟨fun ⟨_,_,e,h⟩=>by cases e;exact h,fun h=>⟨_,_,rfl,h⟩⟩
theorem avB:at4 ta tb σ H Q=ta σ H fun x H1=>bF x fun a=>c0 (H1 a) fun _=>tb σ H1 fun y H2=>c0 (H2 a) fun kvs=>gR (jV y) fun k=>Q ((cI kvs k).getD .non) H2:=rfl
theorem aA8:azZ ta tb σ H Q=ta σ H fun x H1=>tb σ H1 fun y H2=>bF x fun a=>c0 (H2 a) fun kvs=>gR (jV y) fun k=>gR (cI kvs k) fun v=>Q v H2:=rfl
theorem azY:azC ta tb tc D σ H=tc σ H fun v H1=>ta σ H1 fun x H2=>tb σ H2 fun y H3=>bF x fun a=>c0 (H3 a) fun kvs=>gR (jV y) fun k=>kvs.length < sizeLine/\D.nx σ (upd H3 a (.dK (eI kvs k v))):=rfl
theorem aA6:aAN to te σ H Q=to σ H fun x H1=>bF x fun a=>dX (H1 a) fun _=>te σ H1 fun y H2=>dX (H2 a) fun xs=>xs.length < sizeLine/\Q .non (upd H2 a (.lst (xs++[y]))):=rfl
theorem aA7:ayO to σ H Q=to σ H fun x H1=>bF x fun a=>dX (H1 a) fun xs=>gR (xs[xs.length - 1]?) fun y=>Q y (upd H1 a (.lst xs.dropLast)):=rfl
theorem az8 {α:Type} {z:α} {k:α->Prop} {u:Tg k}:@gR _ (some z) k u=k z:=rfl
theorem ayL {k:Bool->Prop} {u:Tg k}:@onB (.bl b) k u=k b:=rfl
theorem asC {k:Addr->Prop} {u:Tg k}:@bF (.ref p) k u=k p:=rfl
theorem asO {k:Int->Prop} {u:Tg k}:@fP (.int i) k u=k i:=rfl
theorem asM {k:List V->Prop} {u:Tg k}:@dX (some (.lst vs)) k u=k vs:=rfl
theorem an0 {k:List V->Prop} {u:Tg k}:@mJ (some (.lst vs)) k u=k vs:=rfl
theorem apR {k:List V->Prop} {u:Tg k}:@mJ (some (.tup vs)) k u=k vs:=rfl
theorem as0 {kvs:List (Key×V)} {k:List (Key×V)->Prop} {u:Tg k}:@c0 (some (.dK kvs)) k u=k kvs:=rfl
theorem ayZ:cIx (.ref p) w H Q=mJ (H p) fun xs=>fP w fun i=>gR (kC xs i) fun v=>Q v H:=rfl
theorem ayM:cIx (.str x) w H Q=fP w fun i=>x.length<=sizeLine/\gR (kC x.cps.toList i) fun c=>Q (.str ⟨#[c]⟩) H:=rfl
theorem avH:aoV (.int i) (.int j) H Q=Q (.int (i+j)) H:=rfl
theorem auY:aoV (.str x) (.str y) H Q=(x.length+y.length<=sizeLine/\Q (.str (x++y)) H):=rfl
theorem avS:aoV (.ref a) (.ref p) H Q=asV H Q a (H a) (H p):=rfl
theorem awZ {us:List V}:asV H Q a (some (.lst vs)) (some (.lst us))=(vs.length+us.length<=sizeLine/\∀ p,H p=none->Q (.ref p) (upd H p (.lst (vs++us)))):=rfl
theorem aAC {lo hi:Option Int}:cSl (.str x) lo hi H Q=(x.length<=sizeLine/\Q (.str (Txt.slice x lo hi)) H):=rfl
theorem ay0 {lo hi:Option Int}:cSl (.ref a) lo hi H Q=aoA lo hi H Q (H a):=rfl
theorem av4 {lo hi:Option Int}:aoA lo hi H Q (some (.lst vs)) = ∀ p,H p=none->Q (.ref p) (upd H p (.lst (pQ vs lo hi))):=rfl
theorem axO:as9 [.str x] H Q=(x.length<=sizeLine/\Q (.int x.length) H):=rfl
theorem aw5:as9 [.ref p] H Q=mJ (H p) fun xs=>Q (.int xs.length) H:=rfl
theorem ayI {N:Hp->Prop}:aA2 (.ref p) (.int i) v H N=dX (H p) fun xs=>gR (ixN xs.length i) fun j=>N (upd H p (.lst (xs.set j v))):=rfl
theorem aB7 {neg:Bool}:cIn neg v (.ref p) H Q=mJ (H p) fun xs=>dR v=true/\xs.all dR=true/\Q (.bl (if neg=true then !u0 v xs else u0 v xs)) H:=rfl
theorem awV:jV (.int i)=some (.inl i):=rfl
theorem avV:jV (.str x)=some (.inr x):=rfl
theorem awD:jV .non=some .no:=rfl
theorem qX {α:Type} {xs:List α} {k:Nat}:kC xs (OfNat.ofNat k)=xs[k]?:=by
 show kC xs ((k:Nat):Int)=xs[k]?;cases e:xs[k]? with
 | some z=>exact wP e
 | none =>
  have:=List.getElem?_eq_none_iff.mp e;unfold kC ixN;rw [if_pos (by omega),if_neg (by omega)];rfl
theorem ayQ {α:Type} {xs:List α}:kC xs 0=xs[0]?:=qX (k:=0)
theorem ayP {α:Type} {xs:List α}:kC xs 1=xs[1]?:=qX (k:=1)
theorem azU {α:Type} {xs:List α}:kC xs 2=xs[2]?:=qX (k:=2)
theorem ay9 {α:Type} {xs:List α}:kC xs 3=xs[3]?:=qX (k:=3)
theorem aBD {α:Type} {xs:List α}:kC xs 4=xs[4]?:=qX (k:=4)
theorem azN {α:Type} {xs:List α}:kC xs 5=xs[5]?:=qX (k:=5)
theorem aAW {α:Type} {xs:List α}:kC xs 6=xs[6]?:=qX (k:=6)
theorem az0 {α:Type} {xs:List α}:kC xs 7=xs[7]?:=qX (k:=7)
theorem azS {α:Type} {xs:List α}:kC xs 8=xs[8]?:=qX (k:=8)
theorem ar6:CMul 2 j=True:=eq_true (.inl ⟨by decide,by decide⟩)
theorem ar0:CPow 10 9=True:=eq_true ⟨by decide,by decide,by decide⟩
theorem apI:CPow 10 12=True:=eq_true ⟨by decide,by decide,by decide⟩
theorem apQ:CPow 10 18=True:=eq_true ⟨by decide,by decide,by decide⟩
theorem aw2 {m:Nat}:ixN (m+1) 0=some 0:=by simp [ixN]<;>omega
theorem ax7:atJ [.int i] H Q=Q (.int i) H:=rfl
theorem awC:atJ [.bl b] H Q=Q (.int (if b=true then 1 else 0)) H:=rfl
theorem aCL:av5 v .non H Q=Q (.bl (decide (v=.non))) H:=by cases v<;>rfl
theorem aqT:atU v .non H Q=Q (.bl (!decide (v=.non))) H:=by cases v<;>rfl
theorem azD:awA [.int i,.int j] H Q=Q (.int (if j > i then j else i)) H:=rfl
theorem aAJ:axR [.int i,.int j] H Q=Q (.int (if j < i then j else i)) H:=rfl
theorem abD:afT [.ref p,.ty "int"] H Q=gR (ag3 (H p) "int") fun b=>Q (.bl b) H:=rfl
theorem yK:afT [.ref p,.ty "bool"] H Q=gR (ag3 (H p) "bool") fun b=>Q (.bl b) H:=rfl
theorem aa9:afT [(.str x),.ty "str"] H Q=Q (.bl true) H:=by simp [afT,kSc,gR]
theorem abF:afT [.ref p,.ty "str"] H Q=gR (ag3 (H p) "str") fun b=>Q (.bl b) H:=rfl
theorem vS:afT [.ref p,.ty "tuple"] H Q=gR (ag3 (H p) "tuple") fun b=>Q (.bl b) H:=rfl
theorem ayX {c:Prop} [Decidable c] {P R:Prop}:(if (decide c)=true then P else R)=if c then P else R:=by
 by_cases h:c<;>simp [h]
theorem azV {c:Prop} [Decidable c] {P R:Prop}:(if (!decide c)=true then P else R)=if c then R else P:=by
 by_cases h:c<;>simp [h]
theorem axS {P R:Prop}:(if true=true then P else R)=P:=by simp
theorem avY {P R:Prop}:(if false=true then P else R)=R:=by simp
end
theorem aCE {a b:Prop} [Decidable a] [Decidable b] {P R:Prop}:(if a then P else if b then P else R)=if a\/b then P else R:=by
 by_cases ha:a<;>by_cases hb:b<;>simp [ha,hb]
theorem Kp.at1 {r a:Addr} {H H':Hp} {o:HO} (x:Kp [r] H H') (e:H a=some o) (n:a≠r):H' a=some o:=x a o e (by simpa using n)
theorem kH {xs:List V} {i:Int} {k:V->Prop} (h0:0<=i) (h1:i < (xs.length:Int)) (q:∀ v∈xs,k v):gR (kC xs i) k:=by
 have hk:i.toNat < xs.length:=by omega
 have ek:i=((i.toNat:Nat):Int):=by omega
 have e:kC xs ((i.toNat:Nat):Int)=some xs[i.toNat]:=wP (List.getElem?_eq_getElem hk);rw [<- ek] at e;rw [e];exact q _ (List.getElem_mem hk)
end L2
namespace L2
open PySem PySem.Spec PyProof.Rows
noncomputable def on1 (vs:List V) (k:V->Prop) (_u:Tg k:=()):Prop:=match vs with
 | [v]=>k v
 | _=>False
noncomputable def lp (J:It) (g:TG) (tb:TS) (D:Ends) (σ:St) (H:Hp):Prop:=∃ W:Nat->Nat->St->Hp->Prop,(∃ m,W 0 m σ H)/\∀ i m σ H,W i m σ H ->
 (J.stop i H/\D.nx σ H)\/(J.go i H/\∃ N:St->Hp->Prop,(∀ σ' H',N σ' H'->∃ m',m' < m/\W (i+1) m' σ' H')/\∀ x H',J.yld i H x H'->g x σ H' fun σ2 H2=>tb {D with nx:=N,ct:=N,bk:=D.nx} σ2 H2)
section
variable {σ:St} {H:Hp} {D:Ends} {g:TG} {tb:TS} {as:TA} {te:TE} {K:PySem.W.Frag} {v w:V}
theorem azM {k:V->Prop} {u:Tg k}:@on1 [v] k u=k v:=rfl
theorem atN:aiC (af4 as) g tb D σ H=as σ H fun vs H1=>on1 vs fun v=>fP v fun j=>(-(2 ^ 62)<=j/\j < 2 ^ 62)/\lp (Itr 0 j.toNat) g tb D σ H1:=by
 unfold aiC af4
 congr 1
 funext vs H1;refine propext ⟨fun ⟨j,e,h1,h2,h⟩=>by subst e;exact ⟨⟨h1,h2⟩,h⟩,fun h=>?_⟩;unfold on1 at h;split at h
 ·obtain ⟨j,rfl,⟨h1,h2⟩,h⟩:=dS h;exact ⟨j,rfl,h1,h2,h⟩
 ·exact h.elim
theorem aw0:aiC (acJ K te) g tb D σ H=te σ H fun x H1=>bF x fun a=>(∃ xs,eZ K H1 a xs)/\lp (Itl K a) g tb D σ H1:=by
 unfold aiC acJ
 congr 1
 funext x H1;exact propext ⟨fun ⟨a,e,h1,h⟩=>by subst e;exact ⟨h1,h⟩,fun h=>by obtain ⟨a,rfl,h1,h⟩:=aT h;exact ⟨a,rfl,h1,h⟩⟩
theorem awX:aiC (aiN K te) g tb D σ H=te σ H fun x H1=>bF x fun a=>(∃ xs,dF K H1 a xs)/\lp (Itt K a) g tb D σ H1:=by
 unfold aiC aiN
 congr 1
 funext x H1;exact propext ⟨fun ⟨a,e,h1,h⟩=>by subst e;exact ⟨h1,h⟩,fun h=>by obtain ⟨a,rfl,h1,h⟩:=aT h;exact ⟨a,rfl,h1,h⟩⟩
end
end L2
namespace L2
open PySem PySem.Spec PyProof.Rows
noncomputable def lc (J:It) (fr:List Nat) (tc:TT) (te:TE) (σ:St) (H:Hp) (Q:VK):Prop:=∃ W:Nat->Nat->List V->Hp->Prop,(∃ m,W 0 m [] H)/\∀ i m xs H,W i m xs H->xs.length<=1000000 /\
  ((J.stop i H/\∀ p,H p=none->Q (.ref p) (upd H p (.lst xs))) \/
   (J.go i H/\∀ y H',J.yld i H y H'->tc (some y::aY fr σ) H' fun b H2=>if b=true then te (some y::aY fr σ) H2 (fun z H3=>∃ m',m' < m/\W (i+1) m' (xs++[z]) H3) else ∃ m',m' < m/\W (i+1) m' xs H2))
section
variable {fr:List Nat} {tc:TT} {te tl:TE} {σ:St} {H H1:Hp} {Q:VK} {as:TA} {K:PySem.W.Frag}
theorem arB:kS (af4 as) fr tc te σ H Q=as σ H fun vs H1=>on1 vs fun v=>fP v fun j=>(-(2 ^ 62)<=j/\j < 2 ^ 62)/\lc (Itr 0 j.toNat) fr tc te σ H1 Q:=by
 unfold kS af4
 congr 1
 funext vs H1;refine propext ⟨fun ⟨j,e,h1,h2,h⟩=>by subst e;exact ⟨⟨h1,h2⟩,h⟩,fun h=>?_⟩;unfold on1 at h;split at h
 ·obtain ⟨j,rfl,⟨h1,h2⟩,h⟩:=dS h;exact ⟨j,rfl,h1,h2,h⟩
 ·exact h.elim
theorem asH:kS (acJ K tl) fr tc te σ H Q=tl σ H fun x H1=>bF x fun a=>(∃ xs,eZ K H1 a xs)/\lc (Itl K a) fr tc te σ H1 Q:=by
 unfold kS acJ
 congr 1
 funext x H1;exact propext ⟨fun ⟨a,e,h1,h⟩=>by subst e;exact ⟨h1,h⟩,fun h=>by obtain ⟨a,rfl,h1,h⟩:=aT h;exact ⟨a,rfl,h1,h⟩⟩
noncomputable def yA (x:V) (k:Str->Prop) (_u:Tg k:=()):Prop:=match x with
 | .str p=>k p
 | _=>False
theorem atB {x:Str} {k:Str->Prop} {u:Tg k}:@yA (.str x) k u=k x:=rfl
theorem axU {B:Bool->Hp->Prop}:atV σ H B=B true H:=rfl
theorem azW:aY [] σ=[]:=rfl
theorem akO {n:Nat} {Pv:Nat->List V->Hp->Prop} {i:Nat} {xs:List V} (hi:i < n):(∃ m',m' < n - i/\cW n Pv (i+1) m' xs H)=Pv (i+1) xs H :=
 propext ⟨fun ⟨_,_,_,_,h⟩=>h,fun h=>cW.next hi h⟩
theorem j9 {a:Addr} {ys:List V} (Pv:Nat->List V->Hp->Prop) (h0:Pv 0 [] H) (hz:∀ i xs H,Pv i xs H->xs.length<=1000000) (hl:∀ i xs H,Pv i xs H->eZ K H a ys)
    (hs:∀ i y xs H,i < ys.length->ys[i]?=some y->Pv i xs H->tc (some y::aY fr σ) H fun b H2=>if b=true then te (some y::aY fr σ) H2 (fun z H3=>Pv (i+1) (xs++[z]) H3) else Pv (i+1) xs H2)
    (hd:∀ xs H,Pv ys.length xs H->∀ p,H p=none->Q (.ref p) (upd H p (.lst xs))):lc (Itl K a) fr tc te σ H Q :=
  amG Pv h0 hz hl (fun i y xs H hi e h=>by simp only [akO hi];exact hs i y xs H hi e h) hd
end
end L2
namespace L2
open PySem PySem.Spec PyProof.Rows
noncomputable def asW (kb:List (Key×V)):List (Key×V)->Bool
 | []=>true
 | (k,v)::r=>match cI kb k with
  | none=>false
  | some y=>qU v y && asW kb r
mutual
inductive EqA (K:PySem.W.Frag) (H:Hp):Nat->V->V->Bool->Prop
 | flat {n:Nat} {x y:V}:dR x=true->dR y=true->EqA K H n x y (qU x y)
 | same {n:Nat} {a:Addr}:EqA K H n (.ref a) (.ref a) true
 | refs {n:Nat} {a b:Addr} {r:Bool}:a≠b->vO K H n a b r->EqA K H n (.ref a) (.ref b) r
inductive vO (K:PySem.W.Frag) (H:Hp):Nat->Addr->Addr->Bool->Prop
 | list {n:Nat} {a b:Addr} {xs ys:List V} {e:Nat->Bool}:eZ K H a xs->eZ K H b ys->xs.length=ys.length->(∀ j x y,xs[j]?=some x->ys[j]?=some y->EqA K H n x y (e j))->vO K H (n+1) a b ((List.range xs.length).all e)
 | listLen {n:Nat} {a b:Addr} {xs ys:List V}:eZ K H a xs->eZ K H b ys->xs.length≠ys.length->vO K H (n+1) a b false
 | tup {n:Nat} {a b:Addr} {xs ys:List V} {e:Nat->Bool}:dF K H a xs->dF K H b ys->(∀ j x y,xs[j]?=some x->ys[j]?=some y->EqA K H n x y (e j))->vO K H (n+1) a b ((List.range (min xs.length ys.length)).all e && xs.length == ys.length)
end
section
variable {X:Cx} {pins:List (Addr×Obj)} {σ:St} {H:Hp} {s:Shared}
theorem jY {xs:List V} {its:List Value} (r:Vals xs its) {j:Nat} (h:j < its.toArray.size):∃ x,xs[j]?=some x/\bO x its.toArray[j]:=by
 have hj:j < xs.length:=by have:=r.length;simp only [List.size_toArray] at h;omega
 have e:=List.getElem?_eq_getElem hj;obtain ⟨u,g,ru⟩:=r.get e;refine ⟨_,e,?_⟩;obtain ⟨_,q⟩:=List.getElem?_eq_some_iff.mp g;have:its.toArray[j]=u:=by simpa using q
 rw [this];exact ru
theorem ajV:∀(n:Nat),(∀ {a b:Addr} {r:Bool},vO X.K H n a b r->∀ {A:Around},Inv X pins σ H s->A.units+n < cLine->SeqAt.RcAt A s (.ref a) (.ref b) r)/\(∀ {x y:V} {b:Bool},EqA X.K H n x y b->∀ {A:Around} {v u:Value},Inv X pins σ H s->bO x v->bO y u->A.units+n < cLine->SeqAt.EqAt A s v u b):=by
 intro n;have up:∀ {n:Nat},(∀ {a b:Addr} {r:Bool},vO X.K H n a b r->∀ {A:Around},Inv X pins σ H s->A.units+n < cLine->SeqAt.RcAt A s (.ref a) (.ref b) r)->(∀ {x y:V} {b:Bool},EqA X.K H n x y b->∀ {A:Around} {v u:Value},Inv X pins σ H s->bO x v->bO y u->A.units+n < cLine->SeqAt.EqAt A s v u b):=by
  intro n rc x y b h A v u I rx ry hu;cases h with
  | flat fx fy=>exact aoQ rx ry fx fy
  | same =>
   cases rx;cases ry;exact SeqAt.EqAt.same _
  | refs ne h =>
   cases rx;cases ry;exact SeqAt.EqAt.of_refs ne (rc h I hu)
 suffices g:∀ {a b:Addr} {r:Bool},vO X.K H n a b r->∀ {A:Around},Inv X pins σ H s->A.units+n < cLine->SeqAt.RcAt A s (.ref a) (.ref b) r from ⟨g,up g⟩
 induction n with
 | zero=>intro a b r h;cases h
 | succ n ih =>
  intro a b r h A I hu;have ih:=@up n @ih;cases h with
  | list hx hy hl he =>
   obtain ⟨its,r1,p1,z1⟩:=I.list hx;obtain ⟨jts,r2,p2,z2⟩:=I.list hy;have l1:=r1.length;have l2:=r2.length;have:=SeqAt.RcAt.lists p1.isList p2.isList (by simp only [List.size_toArray];omega) (by omega) (A:=A) (fun j h1 h2=>by
    obtain ⟨x,ex,rx⟩:=jY r1 h1;obtain ⟨y,ey,ry⟩:=jY r2 h2;exact ih (he j x y ex ey) I rx ry (by show A.units+1+_ < _;omega))
   rw [List.size_toArray,<- l1] at this;exact this
  | listLen hx hy hl =>
   obtain ⟨its,r1,p1,z1⟩:=I.list hx;obtain ⟨jts,r2,p2,z2⟩:=I.list hy;have l1:=r1.length;have l2:=r2.length;exact SeqAt.RcAt.lists_lengths p1.isList p2.isList (by simp only [List.size_toArray,bne_iff_ne,ne_eq];omega) (by omega)
  | tup hx hy he =>
   obtain ⟨its,r1,p1,z1⟩:=I.tuple hx;obtain ⟨jts,r2,p2,z2⟩:=I.tuple hy;have l1:=r1.length;have l2:=r2.length;have:=SeqAt.RcAt.tuples (show s.heap.IsTuple _ its.toArray from p1) (show s.heap.IsTuple _ jts.toArray from p2) (by omega) (A:=A) (fun j h1 h2=>by
    obtain ⟨x,ex,rx⟩:=jY r1 h1;obtain ⟨y,ey,ry⟩:=jY r2 h2;exact ih (he j x y ex ey) I rx ry (by show A.units+1+_ < _;omega))
   rw [List.size_toArray,List.size_toArray,<- l1,<- l2] at this;exact this
theorem an9 {n:Nat} {x y:V} {b:Bool} (h:EqA X.K H n x y b) {A:Around} {v u:Value} (I:Inv X pins σ H s) (rx:bO x v) (ry:bO y u) (hu:A.units+n < cLine):SeqAt.EqAt A s v u b:=(ajV n).2 h I rx ry hu
theorem aoO {n:Nat} {a b:Addr} {r:Bool} (h:vO X.K H n a b r) {A:Around} (I:Inv X pins σ H s) (hu:A.units+n < cLine):SeqAt.RcAt A s (.ref a) (.ref b) r:=(ajV n).1 h I hu
end
inductive DPairs (H:Hp):List V->List V->Bool->Prop
  | nil:DPairs H [] [] true
  | cons {a b:Addr} {ka kb:List (Key×V)} {xs ys:List V} {r:Bool}:a≠b->H a=some (.dK ka)->H b=some (.dK kb)->(ka.all fun kv=>dR kv.2)=true->(kb.all fun kv=>dR kv.2)=true->DPairs H xs ys r ->
      DPairs H (.ref a::xs) (.ref b::ys) ((ka.length == kb.length && asW kb ka) && r)
theorem DPairs.at {H:Hp} {xs ys:List V} {r:Bool} (h:DPairs H xs ys r):∃ f:Nat->Bool,(List.range xs.length).all f=r/\∀ j x y,xs[j]?=some x->ys[j]?=some y->∃ a b ka kb,x=.ref a/\y=.ref b/\a≠b/\H a=some (.dK ka)/\H b=some (.dK kb)/\(ka.all fun kv=>dR kv.2)=true/\(kb.all fun kv=>dR kv.2)=true/\f j=(ka.length == kb.length && asW kb ka):=by
 induction h with
 | nil=>exact ⟨fun _=>true,rfl,fun j x y e=>by simp at e⟩
 | @cons a b ka kb xs ys r ne ea eb fa fb _ ih =>
  obtain ⟨f,hf,hp⟩:=ih;refine ⟨fun j=>match j with | 0=>(ka.length == kb.length && asW kb ka) | j+1=>f j,?_,?_⟩
  ·rw [List.length_cons,List.range_succ_eq_map,List.all_cons,List.all_map,<- hf];rfl
  ·intro j x y e1 e2;cases j with
   | zero =>
    simp only [List.getElem?_cons_zero,Option.some.injEq] at e1 e2;exact ⟨a,b,ka,kb,e1.symm,e2.symm,ne,ea,eb,fa,fb,rfl⟩
   | succ j=>exact hp j x y (by simpa using e1) (by simpa using e2)
end L2
namespace L2
open PySem PySem.Spec PyProof.Rows
section
variable {X:Cx}
variable {o e:Expr} {to te:TE} {apos cpos:Pos}
end
section
variable {H:Hp} {Q:VK} {a b p:Addr} {x:V}
theorem ayC {K:PySem.W.Frag} {lo hi:Option Int}:avA K (.ref a) lo hi H Q = ∃ xs,eZ K H a xs/\∀ p,H p=none->Q (.ref p) (upd H p (.lst (pQ xs lo hi))):=by simp [avA]
theorem av9 {K:PySem.W.Frag} {n:Nat} {t:TGs} {σ:St} {N:St->Hp->Prop}:aqW K n t (.ref a) σ H N = ∃ xs,dF K H a xs/\xs.length=n/\t xs σ H N:=by simp [aqW]
theorem aCJ:((0:Nat):Int)=0:=rfl
theorem aB5:((1:Nat):Int)=1:=rfl
theorem aBX:((2:Nat):Int)=2:=rfl
end
end L2
namespace L2
open PySem PySem.Spec PyProof.Rows
noncomputable def qZ (o:Option HO) (k:List V->Prop) (_u:Tg k:=()):Prop:=match o with
 | some (.tup xs)=>k xs
 | _=>False
theorem aaC {o:Option HO} {k:List V->Prop} (h:qZ o k):∃ xs,o=some (.tup xs)/\k xs:=by
 unfold qZ at h;split at h
 ·exact ⟨_,rfl,h⟩
 ·exact h.elim
noncomputable def at5:R2:=fun x y H Q=>bF x fun a=>bF y fun b=>qZ (H a) fun xs=>qZ (H b) fun ys=>xs.length+ys.length<=sizeLine/\(if xs=[] then Q y H else if ys=[] then Q x H else ∀ p,H p=none->Q (.ref p) (upd H p (.tup (xs++ys))))
section
variable {X:Cx}
theorem ap8:jZ X (binaryOp .Add) (fun x y H Q=>∃ a b ys,x=.ref a/\y=.ref b/\dF X.K H a []/\dF X.K H b ys/\Q (.ref b) H):=by
 intro pins s σ H x y v u Q I rx ry h;obtain ⟨a,b,ys,rfl,rfl,ha,hb,q⟩:=h;cases rx;cases ry;obtain ⟨its,r1,p1,_⟩:=I.tuple ha;obtain ⟨its2,r2,p2,_⟩:=I.tuple hb;have l1:its=[]:=r1.nil_iff.mpr rfl;obtain ⟨⟨c1,d1,t1,o1⟩,ho,rfl,n,rfl⟩:=p1;obtain ⟨⟨c2,d2,t2,o2⟩,ho2,rfl,n2,rfl⟩:=p2;exact concat_meets ⟨_,ho,rfl⟩ ⟨_,ho2,rfl⟩ noFill_tuple_add seq_tuple_add PySem.F.slot_tuple_add PySem.F.entry_tuple_add (PySem.F.args_tuple_add_2 _ _) (tuple_addW0 a b its.toArray its2.toArray n n2 d1 d2 o1 o2 (by simp [l1])) ⟨ho,ho2,.ref b,H,I,rfl,q⟩
theorem rY:jZ X (binaryOp .Add) at5:=(ap8.or ajH).imp fun x y H Q h=>by
 obtain ⟨a,rfl,h1⟩:=aT h;obtain ⟨b,rfl,h2⟩:=aT h1;obtain ⟨xs,e1,h3⟩:=aaC h2;obtain ⟨ys,e2,h4,h5⟩:=aaC h3;by_cases c:xs=[]
 ·rw [if_pos c] at h5;subst c;exact .inl ⟨a,b,ys,rfl,rfl,.inl (.inl e1),.inl (.inl e2),h5⟩
 ·rw [if_neg c] at h5;refine .inr ⟨a,b,xs,ys,rfl,rfl,.inl (.inl e1),.inl (.inl e2),c,h4,fun z=>?_,fun z=>?_⟩
  ·rw [if_pos z] at h5;exact h5
  ·rw [if_neg z] at h5;exact h5
end
section
variable {H:Hp} {Q:VK} {a b p:Addr} {vs:List V} {lo hi:Option Int}
theorem atA {k:List V->Prop} {u:Tg k}:@qZ (some (.tup vs)) k u=k vs:=rfl
theorem auR:at5 (.ref a) (.ref b) H Q=qZ (H a) fun xs=>qZ (H b) fun ys=>xs.length+ys.length<=sizeLine/\(if xs=[] then Q (.ref b) H else if ys=[] then Q (.ref a) H else ∀ p,H p=none->Q (.ref p) (upd H p (.tup (xs++ys)))):=rfl
theorem avG:aoA lo hi H Q (some (.tup vs))=(¬ (HT.gL vs.length 0 lo=0/\HT.gL vs.length vs.length hi=vs.length)/\∀ p,H p=none->Q (.ref p) (upd H p (.tup (pQ vs lo hi)))):=rfl
end
end L2
namespace L2
open PySem PySem.Spec PyProof.Rows
section
variable {prog:Program} {w:World} {A:Around} {E:Value->Shared->Prop}
end
end L2
namespace L2
open PySem PySem.Spec PyProof.Rows
noncomputable def Itd (a:Addr) (o:Obj) (kvs:List (Key×V)):It :=
 ⟨fun i H=>i < kvs.length/\H a=some (.frz o (.dK kvs)),fun i H x H'=>H'=H/\∃ kv,kvs[i]?=some kv/\x=kV kv.1,fun i H=>i=kvs.length/\H a=some (.frz o (.dK kvs))⟩
theorem rJ {P:Program} {W:World} {k:Key} {v:Value} (h:(bY P W).is k v=true):bO (kV k) v:=by
 rcases dU h with ⟨i,t,rfl,rfl⟩ | ⟨x,t,rfl,rfl⟩ | ⟨rfl,rfl⟩
 ·exact ⟨t,rfl⟩
 ·exact ⟨t,rfl⟩
 ·rfl
theorem ao3 {X:Cx} {pins:List (Addr×Obj)} {σ:St} {H:Hp} {s:Shared} {a:Addr} {o:Obj} {kvs:List (Key×V)} {es:Array DictEntry} {ep:Nat} (I:Inv X pins σ H s) (e:H a=some (.frz o (.dK kvs))) (ho:o.data=.dict es ep) :
    ∃ vs,KV kvs vs/\s.heap.DictAt (bY X.prog X.w) a vs ep:=by
  obtain ⟨h1,_,_,vs,rel,o',es',ep',h2,h3,h4,r⟩:=(show dM X.prog X.w H s.heap a (.frz o (.dK kvs)) from I.hok a _ e);rw [h1] at h2;cases h2;rw [ho] at h4;cases h4;exact ⟨vs,rel,o,es,h1,h3,ho,r⟩
theorem KV.at {kvs:List (Key×V)} {vs:List (Key×Value)} (r:KV kvs vs) {i:Nat} {kv:Key×V} (e:kvs[i]?=some kv):∃ v,vs[i]?=some (kv.1,v):=by
 unfold KV at r
 induction r generalizing i with
 | nil=>simp at e
 | @cons p q ps qs h t ih=>cases i with
  | zero =>
   have e':p=kv:=by simpa using e
   subst e';exact ⟨q.2,by simp [h.1]⟩
  | succ i=>simpa using ih (i:=i) (by simpa using e)
theorem akP {P:Program} {w:World} {K:PySem.W.Frag} {tg:Expr} (a it:Addr) (o:Obj) (kvs:List (Key×V)) (es:Array DictEntry) (ep:Nat) (ho:o.data=.dict es ep):Turn P w K tg (Itd a o kvs) [it] it (fun i h=>h.IsKeyIter it a i kvs.length ep) where
 mem:=by simp
 obj:=fun i h st b hb=>by
  have e:b=it:=by simpa using hb
  subst e;obtain ⟨o,e,c,d⟩:=st;exact ⟨o,e,fun v z=>by rw [d] at z;cases z⟩
 keep:=fun i h h' st k=>st.at fun o e=>k it (by simp) o e
 item:=by
  intro X hP hw hK hc i pins s σ H E I hf st hg;subst hP hw hK;obtain ⟨hi,hq⟩:=hg;obtain ⟨vs,rel,dd⟩:=ao3 I hq ho;have hk:=List.getElem?_eq_getElem hi;obtain ⟨v,hv⟩:=rel.at hk;obtain ⟨f0,f1,f2,f3,f4,f5⟩:=hf it (by simp);rw [rel.length] at st;refine wpAny_pyNext_dict_item st dd hv fun key h' hkey st' sb=>?_;have I1:Inv X pins σ H {s with heap:=h'}:=I.turned (t':=s.toks) (fun b o hb e=>(sb.2 b hb).trans e) f0 f1 f3 f4 f5;rw [<- rel.length] at st';obtain ⟨o',e,c,d⟩:=id st';exact ⟨key,rfl,aj7 (s:={s with heap:=h'}) e c d (by decide) ⟨kV (kvs[i]).1,H,I1,rJ hkey,⟨rfl,_,hk,rfl⟩,st',fun b hb=>(hf b hb).1⟩⟩
 done:=by
  intro X hP hw hK hc i pins s σ H E I hf st hg;subst hP hw hK;obtain ⟨hi,hq⟩:=hg;obtain ⟨vs,rel,dd⟩:=ao3 I hq ho;obtain ⟨f0,f1,f2,f3,f4,f5⟩:=hf it (by simp);rw [rel.length] at st hi;exact wpAny_pyNext_dict_end (I.ok.hd hc) st dd (List.getElem?_eq_none_iff.mpr (by omega)) fun h' eb=>⟨rfl,I.turned (t':=s.toks) (fun b o hb e=>eb b o hb e) f0 f1 f3 f4 f5⟩
 self:=fun _ _ _ _ _ st h=>wpAny_pyIter_keyiter st h
noncomputable def ax4 (tl:TE):TI:=fun σ H R=>tl σ H fun x H1=>bF x fun a=>c0 (H1 a) fun kvs=>∀ o,R (Itd a o kvs) (upd H1 a (.frz o (.dK kvs)))
theorem arN {X:Cx} {tg l:Expr} {tl:TE} (hl:PE X l tl):PI X tg l (ax4 tl):=by
 intro pins s σ H R I h;refine thn (hl pins s σ H _ I h) fun v s1 ⟨x,H1,I1,r1,q1⟩=>?_;obtain ⟨a,rfl,q2⟩:=aT q1;obtain ⟨kvs,e,q⟩:=c5 q2;cases r1;obtain ⟨z,hd,vs,rel,dd⟩:=rV I1.hok e;obtain ⟨ep,dat⟩:=dd.dictAt;obtain ⟨o,es,ho,hx,hdat,r⟩:=id dat;have I2:Inv X pins σ (upd H1 a (.frz o (.dK kvs))) s1:=I1.write (t':=s1.toks) (x:=a) (e:=a) (by rw [e];exact True.intro) (.inl rfl) (fun _ _ _ q=>q) ⟨o,ho⟩ ⟨ho,aaJ z hd rel dd⟩;refine wpAny_pyIter_dict hd dat ?_;have F:(upd H1 a (.frz o (.dK kvs))) s1.heap.objs.size=none:=I2.hok.fresh (Nat.le_refl _);refine ⟨s1.heap.objs.size,[s1.heap.objs.size],_,_,_,rfl,I2.kept (t':=s1.toks) fun b o e=>Heap.get?_push_of_some _ e,akP a _ o kvs es ep hdat,?_,fun b hb=>?_,q o⟩
 ·rw [rel.length];exact ⟨_,Heap.get?_push_size _ rfl,rfl,rfl⟩
 ·have e:b=s1.heap.objs.size:=by simpa using hb
  subst e;exact I2.fpOk (Nat.le_refl _) F
section
variable {fr:List Nat} {tc:TT} {te tl:TE} {σ:St} {H:Hp} {Q:VK}
theorem aq2:kS (ax4 tl) fr tc te σ H Q=tl σ H fun x H1=>bF x fun a=>c0 (H1 a) fun kvs=>∀ o,lc (Itd a o kvs) fr tc te σ (upd H1 a (.frz o (.dK kvs))) Q:=by
 unfold kS ax4;rfl
theorem arF {a:Addr} {o:Obj} {kvs:List (Key×V)} (Pv:Nat->List V->Hp->Prop) (h0:Pv 0 [] H) (hz:∀ i xs H,Pv i xs H->xs.length<=1000000) (hl:∀ i xs H,Pv i xs H->H a=some (.frz o (.dK kvs)))
    (hs:∀ i kv xs H,i < kvs.length->kvs[i]?=some kv->Pv i xs H->tc (some (kV kv.1)::aY fr σ) H fun b H2=>if b=true then te (some (kV kv.1)::aY fr σ) H2 (fun z H3=>Pv (i+1) (xs++[z]) H3) else Pv (i+1) xs H2)
    (hd:∀ xs H,Pv kvs.length xs H->∀ p,H p=none->Q (.ref p) (upd H p (.lst xs))):lc (Itd a o kvs) fr tc te σ H Q:=by
  refine ⟨cW kvs.length Pv,⟨kvs.length,by simp,Nat.zero_le _,h0⟩,?_⟩;rintro i m xs H ⟨rfl,hi,p⟩;refine ⟨hz i xs H p,?_⟩;by_cases hlt:i < kvs.length
  · refine .inr ⟨⟨hlt,hl i xs H p⟩,fun y H' yy=>?_⟩;obtain ⟨e,kv,hk,rfl⟩:=yy;subst e;simp only [akO hlt];exact hs i kv xs _ hlt hk p
  · have e:i=kvs.length:=by omega
    subst e;exact .inl ⟨⟨rfl,hl _ xs H p⟩,hd xs H p⟩
end
section
variable {td ty tx:TE} {σ:St} {H:Hp} {Q:VK} {D:Ends} {a:Addr} {v w x:V}
end
end L2
namespace L2
open PySem PySem.Spec PyProof.Rows
noncomputable def u9:List V->Option (List Str)
 | []=>some []
 | .str x::vs=>(u9 vs).map (x::·)
 | _::_=>none
theorem acE:∀ ys:List Str,u9 (ys.map V.str)=some ys
 | []=>rfl
 | y::ys=>by
  show (u9 (ys.map V.str)).map (y::·)=_;rw [acE ys];rfl
theorem aeP:∀ {xs:List V} {ys:List Str},u9 xs=some ys->xs=ys.map V.str
 | [],ys,h=>by cases h;rfl
 | x::xs,ys,h=>by
  cases x with
  | str z =>
   simp only [u9,Option.map_eq_some_iff] at h;obtain ⟨zs,e,rfl⟩:=h;rw [aeP e];rfl
  | _=>cases h
theorem akL:∀ {ys:List Str} {its:List Value},Vals (ys.map V.str) its->StrsAre its ys
 | [],_,.nil=>.nil
 | _::_,_,.cons ⟨_,h⟩ r=>by subst h;exact .cons _ _ (akL r)
noncomputable def ar9:List V->Hp->VK->Prop:=fun vs H Q=>match vs with
 | [.int i]=>i.natAbs.log2 < 1920/\Q (.str (toString i)) H
 | [.str x]=>Q (.str x) H
 | _=>False
noncomputable def auI:V->List V->Hp->VK->Prop:=fun x vs H Q=>yA x fun sep=>on1 vs fun y=>bF y fun l=>dX (H l) fun xs=>gR (u9 xs) fun ys=>(ys.map fun z=>z.length).sum+ys.length * sep.length<=16777216/\Q (.str (Txt.join sep ys)) H
noncomputable def aoE:List V->Hp->VK->Prop:=fun vs H Q=>on1 vs fun x=>bF x fun p=>dX (H p) fun ys=>∀ l,H l=none->Q (.ref l) (upd H l (.tup ys))
theorem zH {x:V} {k:Str->Prop} (h:yA x k):∃ z,x=.str z/\k z:=by
 unfold yA at h;split at h
 ·exact ⟨_,rfl,h⟩
 ·exact h.elim
theorem hJ {vs:List V} {k:V->Prop} (h:on1 vs k):∃ v,vs=[v]/\k v:=by
 unfold on1 at h;split at h
 ·exact ⟨_,rfl,h⟩
 ·exact h.elim
section
variable {X:Cx}
theorem sM:dW X (.type "str") ar9:=fun pins s σ H xs us Q I r h=>by
 unfold ar9 at h;split at h
 ·exact adW pins s σ H _ us Q I r ⟨_,rfl,h.1,h.2⟩
 ·obtain ⟨u,rfl,t,rfl⟩:=vals1 r;exact PySem.P.str_of_str ⟨.str _,H,I,⟨_,rfl⟩,h⟩
 ·exact h.elim
theorem fS:dW X (.type "tuple") aoE:=fun pins s σ H xs us Q I r h=>by
 obtain ⟨x,rfl,h⟩:=hJ h;obtain ⟨p,rfl,h⟩:=aT h;obtain ⟨ys,e,h⟩:=eQ h;exact aa5 pins s σ H _ us Q I r ⟨_,_,rfl,.inl ⟨.inl (.inl e),h⟩⟩
theorem v9:MtR X "str.join" auI:=by
 intro pins s σ H x xs v us Q I rx r h;obtain ⟨sep,rfl,h⟩:=zH h;obtain ⟨y,rfl,h⟩:=hJ h;obtain ⟨l,rfl,h⟩:=aT h;obtain ⟨zs,e,h⟩:=eQ h;obtain ⟨ys,ey,hz,q⟩:=c8 h;cases aeP ey;obtain ⟨u,rfl,ru⟩:=vals1 r;cases ru;obtain ⟨t,rfl⟩:=rx;obtain ⟨its,r',pl,_⟩:=I.list (.inl (.inl e):eZ X.K H l _);exact join_list pl.isList (by simpa using akL r') hz fun t' k=>⟨.str _,H,I.tok _,⟨_,rfl⟩,q⟩
end
section
variable {K:PySem.W.Frag} {T:String} {r:V->List V->Hp->VK->Prop} {to:TE} {t:TA} {σ:St} {H:Hp} {Q:VK} {x y:Str} {i:Int} {p:Addr} {ys:List Str}
theorem aB9:tBM K T r to t σ H Q=to σ H fun x H1=>tyV K T x H1/\t σ H1 fun xs H2=>r x xs H2 Q:=rfl
theorem ay4:tyV K "str" (.str x) H=True:=eq_true rfl
theorem avC:ar9 [.int i] H Q=(i.natAbs.log2 < 1920/\Q (.str (toString i)) H):=rfl
theorem ax0:ar9 [.str x] H Q=Q (.str x) H:=rfl
theorem avR:auI (.str x) [.ref p] H Q=dX (H p) fun xs=>gR (u9 xs) fun ys=>(ys.map fun z=>z.length).sum+ys.length * x.length<=16777216/\Q (.str (Txt.join x ys)) H:=rfl
theorem asE:u9 (ys.map V.str)=some ys:=acE ys
theorem as6:aoE [.ref p] H Q=dX (H p) fun ys=>∀ l,H l=none->Q (.ref l) (upd H l (.tup ys)):=rfl
end
end L2
namespace L2
open PySem PySem.Spec PyProof.Rows
noncomputable abbrev TJ:=Str->St->Hp->(Str->Hp->Prop)->Prop
section
variable {X:Cx} {e a b:Expr} {es:List Expr} {te:TE} {tj:TJ} {pos:Pos}
end
noncomputable def tLM (r:V->List V->Hp->VK->Prop) (to:TE) (t:TA):TE:=fun σ H Q=>to σ H fun x H1=>bF x fun a=>dX (H1 a) fun _=>t σ H1 fun xs H2=>r (.ref a) xs H2 Q
noncomputable def azA:V->List V->Hp->VK->Prop:=fun x vs H Q=>bF x fun a=>on1 vs fun y=>bF y fun b=>dX (H a) fun xs=>dX (H b) fun zs=>xs.length+zs.length<=sizeLine/\Q .non (upd H a (.lst (xs++zs)))
noncomputable def at3:V->List V->Hp->VK->Prop:=fun x vs H Q=>bF x fun a=>on1 vs fun y=>fP y fun i=>dX (H a) fun xs=>i=0/\gR xs[0]? fun v=>Q v (upd H a (.lst xs.tail))
section
variable {X:Cx} {o e:Expr} {es:List Expr} {to:TE} {t:TA} {name:Str} {apos cpos:Pos} {id:String} {r:V->List V->Hp->VK->Prop}
theorem pJ (slot:Slot "list" name id) (hty:typeOf (.builtin id)=pure (.type "method_descriptor")) (hm:MtM X id r) (ho:PE X o to) (ha:PA X (e::es) t)
    (hbase:attributeBase o name X.env (eval o X.env)=eval o X.env:=by rfl)
    (hfew:((backTo cpos (starEach (e::es) X.env)).all (fun x=>!x.1) && (backToKw cpos (keywordEach [] X.env)).all (fun x=>x.1.isSome)
      && decide ((e::es).length+([]:List Keyword).length+(if ([]:List Keyword).isEmpty then 0 else 1) < 30))=true:=by rfl)
    (hline:(apos.endLine == cpos.line)=true:=by rfl) (hs:starEach (e::es) X.env=(false,eval e X.env)::starEach es X.env:=by rfl) (hplain:(backTo cpos (starEach es X.env)).any (·.1)=false:=by rfl) :
    PE X (.Call (.Attribute o name apos) (e::es) [] cpos) (tLM r to t):=by
  intro pins s σ H Q I h;refine wpAny_Call_method_late hbase hfew hline rfl (thn (ho pins s σ H _ I h) fun v s1 ⟨x,H1,I1,r1,q1⟩=>?_);obtain ⟨a,rfl,q1⟩:=aT q1;obtain ⟨xs,e1,q1⟩:=eQ q1;obtain ⟨h1,h2⟩:=ac1 (T:="list") I1 r1 (.inl ⟨rfl,xs,.inl (.inl e1)⟩);refine ⟨"list",id,PySem.F.plainAttrs_list,slot,hty,h1,h2,?_⟩;have hA:=ha cpos pins s1 σ H1 _ I1 q1;rw [hs] at hA ⊢;refine Calls.callWith_builtin (by show (false || (backTo cpos (starEach es X.env)).any (·.1))=false;rw [hplain]<;>rfl) (Calls.evalArgs_plain ?_);exact thn hA fun us s2 ⟨vs,H2,I2,r2,q2⟩=>hm pins s2 σ H2 _ vs v us Q I2 r1 r2 q2
theorem iN:MtM X "list.extend" azA:=fun pins s σ H x vs v us Q I rx rv h=>by
 obtain ⟨a,rfl,h1⟩:=aT h;obtain ⟨y,rfl,h2⟩:=hJ h1;obtain ⟨b,rfl,h3⟩:=aT h2;obtain ⟨xs,e1,h4⟩:=eQ h3;obtain ⟨zs,e2,h5⟩:=eQ h4;exact amI pins s σ H _ _ v us Q I rx rv ⟨_,_,_,_,rfl,rfl,e1,e2,h5⟩
theorem arS:MtM X "list.pop" at3:=fun pins s σ H x vs v us Q I rx rv h=>by
 obtain ⟨a,rfl,h1⟩:=aT h;obtain ⟨y,rfl,h2⟩:=hJ h1;obtain ⟨i,rfl,h3⟩:=dS h2;obtain ⟨xs,e1,rfl,h4⟩:=eQ h3;obtain ⟨y,e2,h5⟩:=c8 h4;cases xs with
 | nil=>cases e2
 | cons z zs=>exact apP pins s σ H _ _ v us Q I rx rv ⟨_,_,_,0,y,rfl,rfl,e1,by decide,by decide,by simp [seqIndex?],e2,h5⟩
end
noncomputable def ak2:Option HO->Option Bool
 | some (.lst xs)=>some (!xs.isEmpty)
 | some (.tup xs)=>some (!xs.isEmpty)
 | some (.dK kvs)=>some (!kvs.isEmpty)
 | _=>none
noncomputable def afQ (H:Hp):V->Option Bool
 | .non=>some false
 | .bl b=>some b
 | .int i=>some (i != 0)
 | .ref p=>ak2 (H p)
 | _=>none
theorem aq8 {K:PySem.W.Frag} {H:Hp} {x:V} {k:Bool} (h:afQ H x=some k):ayU K x H k:=by
 cases x with
 | non=>cases h;rfl
 | bl b=>cases h;rfl
 | int i=>cases h;rfl
 | ref p =>
  simp only [afQ] at h;unfold ak2 at h;split at h
  ·next e=>cases h;exact .inl ⟨_,.inl (.inl e),rfl⟩
  ·next e=>cases h;exact .inr (.inl ⟨_,dF.of e,rfl⟩)
  ·next e=>cases h;exact .inr (.inr ⟨_,e,rfl⟩)
  ·cases h
 | _=>cases h
noncomputable def aoK (ta:TE):TT:=fun σ H Q=>ta σ H fun x H'=>gR (afQ H' x) fun k=>Q k H'
theorem wM {X:Cx} {a:Expr} {ta:TE} (ha:PE X a ta) (he:∀ whole,isTrue a X.env whole=(do let v <- whole;standAt a.pos;holding [v] (truthy v))):PT X a (aoK ta):=by
 intro pins s σ H Q I h;exact isTrue_plain (thn (ha pins s σ H _ I h) fun v s1 ⟨x,H1,I1,r1,q1⟩=>by
  obtain ⟨k,e,q⟩:=c8 q1;exact au7 pins s1 σ H1 x v Q I1 r1 ⟨k,aq8 e,q⟩) (he _)
section
variable {te to:TE} {t:TA} {tj:TJ} {σ:St} {H:Hp} {Q:VK} {x acc:Str} {r:V->List V->Hp->VK->Prop} {QS:Str->Hp->Prop} {B:Bool->Hp->Prop} {D:Ends} {p q:Addr} {vs:List V} {kvs:List (Key×V)} {v:V} {b:Bool} {i:Int}
theorem axD:Str.empty++x=x:=by
 show (⟨#[]++x.cps⟩:Str)=x;rw [Array.empty_append]
theorem aBO:tLM r to t σ H Q=to σ H fun x H1=>bF x fun a=>dX (H1 a) fun _=>t σ H1 fun xs H2=>r (.ref a) xs H2 Q:=rfl
theorem ayJ:azA (.ref p) [.ref q] H Q=dX (H p) fun xs=>dX (H q) fun zs=>xs.length+zs.length<=sizeLine/\Q .non (upd H p (.lst (xs++zs))):=rfl
theorem axC:at3 (.ref p) [.int 0] H Q=dX (H p) fun xs=>(0:Int)=0/\gR xs[0]? fun v=>Q v (upd H p (.lst xs.tail)):=rfl
theorem aqZ:aoK te σ H B=te σ H fun x H'=>gR (afQ H' x) fun k=>B k H':=rfl
theorem awF:afQ H .non=some false:=rfl
theorem aw9:afQ H (.bl b)=some b:=rfl
theorem aw4:afQ H (.int i)=some (i != 0):=rfl
theorem amP:afQ H (.ref p)=ak2 (H p):=rfl
theorem avO:ak2 (some (.lst vs))=some (!vs.isEmpty):=rfl
theorem awW:ak2 (some (.tup vs))=some (!vs.isEmpty):=rfl
theorem avU:ak2 (some (.dK kvs))=some (!kvs.isEmpty):=rfl
variable {fr:List Nat} {tc:TT} {tl:TE} {K:PySem.W.Frag}
theorem aq0:kS (aiN K tl) fr tc te σ H Q=tl σ H fun x H1=>bF x fun a=>(∃ xs,dF K H1 a xs)/\lc (Itt K a) fr tc te σ H1 Q:=by
 unfold kS aiN
 congr 1
 funext x H1;exact propext ⟨fun ⟨a,e,h1,h⟩=>by subst e;exact ⟨h1,h⟩,fun h=>by obtain ⟨a,rfl,h1,h⟩:=aT h;exact ⟨a,rfl,h1,h⟩⟩
theorem mP {a:Addr} {ys:List V} (Pv:Nat->List V->Hp->Prop) (h0:Pv 0 [] H) (hz:∀ i xs H,Pv i xs H->xs.length<=1000000) (hl:∀ i xs H,Pv i xs H->dF K H a ys)
    (hs:∀ i y xs H,i < ys.length->ys[i]?=some y->Pv i xs H->tc (some y::aY fr σ) H fun b H2=>if b=true then te (some y::aY fr σ) H2 (fun z H3=>Pv (i+1) (xs++[z]) H3) else Pv (i+1) xs H2)
    (hd:∀ xs H,Pv ys.length xs H->∀ p,H p=none->Q (.ref p) (upd H p (.lst xs))):lc (Itt K a) fr tc te σ H Q:=by
  refine ⟨cW ys.length Pv,⟨ys.length,by simp,Nat.zero_le _,h0⟩,?_⟩;rintro i m xs H ⟨rfl,hi,p⟩;refine ⟨hz i xs H p,?_⟩;have q:=hl i xs H p;by_cases hlt:i < ys.length
  · refine .inr ⟨⟨ys,ys[i],q,by simp [hlt]⟩,fun y H' yy=>?_⟩;obtain ⟨e,yy⟩:=yy;subst e;simp only [akO hlt];exact hs i y xs _ hlt (yy ys q) p
  · have e:i=ys.length:=by omega
    subst e;exact .inl ⟨⟨ys,q,Nat.le_refl _⟩,hd xs H p⟩
end
end L2
namespace L2
open PySem PySem.Spec PyProof.Rows
section
variable {X:Cx} {pins:List (Addr×Obj)} {σ:St} {H:Hp} {s:Shared}
theorem asZ {n:Nat} {a b:Addr} {r:Bool} {A:Around} (h:vO X.K H n a b r) (I:Inv X pins σ H s) (hu:A.units+n < cLine):SeqAt.RcNeAt A s (.ref a) (.ref b) (!r):=by
 cases h with
 | list hx hy hl he =>
  obtain ⟨its,r1,p1,z1⟩:=I.list hx;obtain ⟨jts,r2,p2,z2⟩:=I.list hy;have l1:=r1.length;have l2:=r2.length;have:=SeqAt.RcNeAt.lists p1.isList p2.isList (by simp only [List.size_toArray];omega) (by omega) (A:=A) (fun j h1 h2=>by
   obtain ⟨x,ex,rx⟩:=jY r1 h1;obtain ⟨y,ey,ry⟩:=jY r2 h2;exact an9 (he j x y ex ey) I rx ry (by show A.units+1+_ < _;omega))
  rw [List.size_toArray,<- l1] at this;exact this
 | listLen hx hy hl =>
  obtain ⟨its,r1,p1,z1⟩:=I.list hx;obtain ⟨jts,r2,p2,z2⟩:=I.list hy;have l1:=r1.length;have l2:=r2.length;exact SeqAt.RcNeAt.lists_lengths p1.isList p2.isList (by simp only [List.size_toArray,bne_iff_ne,ne_eq];omega) (by omega)
 | tup hx hy he =>
  obtain ⟨its,r1,p1,z1⟩:=I.tuple hx;obtain ⟨jts,r2,p2,z2⟩:=I.tuple hy;have l1:=r1.length;have l2:=r2.length;have:=SeqAt.RcNeAt.tuples (show s.heap.IsTuple _ its.toArray from p1) (show s.heap.IsTuple _ jts.toArray from p2) (by omega) (A:=A) (fun j h1 h2=>by
   obtain ⟨x,ex,rx⟩:=jY r1 h1;obtain ⟨y,ey,ry⟩:=jY r2 h2;exact an9 (he j x y ex ey) I rx ry (by show A.units+1+_ < _;omega))
  rw [List.size_toArray,List.size_toArray,<- l1,<- l2] at this;exact this
end
noncomputable def aAB (K:PySem.W.Frag) (n:Nat):R2:=fun x y H Q=>bF x fun a=>bF y fun b=>∃ r,vO K H n a b r/\Q (.bl (!r)) H
noncomputable def aAX (K:PySem.W.Frag) (n:Nat):R2:=fun x y H Q=>bF x fun a=>bF y fun b=>∃ r,vO K H n a b r/\Q (.bl r) H
theorem am3 {A:Around} {k:Nat} (hr:Room k A) {n:Nat} (h:n<=60):A.units+n < cLine:=Nat.lt_of_le_of_lt (Nat.add_le_add_left (by omega:n<=64) _) hr.units
noncomputable def aoB:List V->Hp->VK->Prop:=fun vs H Q=>on1 vs fun x=>bF x fun p=>mJ (H p) fun ys=>∀ l,H l=none->Q (.ref l) (upd H l (.lst ys))
noncomputable def auK (K:PySem.W.Frag):List V->Hp->VK->Prop:=fun vs H Q=>on1 vs fun x=>bF x fun p=>∃ xs,eZ K H p xs/\Q (.int xs.length) H
section
variable {X:Cx}
theorem auT (n:Nat) (hu:X.A.units+n < cLine):jZ X (compareOp .NotEq) (aAB X.K n):=fun pins s σ H x y v u Q I rx ry h=>by
 obtain ⟨a,rfl,h1⟩:=aT h;obtain ⟨b,rfl,r,e,q⟩:=aT h1;cases rx;cases ry;exact asZ e I hu X.prog X.w X.xe _ (bR I q rfl)
theorem axG (n:Nat) (hu:X.A.units+n < cLine):jZ X (compareOp .Eq) (aAX X.K n):=fun pins s σ H x y v u Q I rx ry h=>by
 obtain ⟨a,rfl,h1⟩:=aT h;obtain ⟨b,rfl,r,e,q⟩:=aT h1;cases rx;cases ry;exact aoO e I hu X.prog X.w X.xe _ (bR I q rfl)
theorem abU:dW X (.type "list") aoB:=fun pins s σ H xs us Q I r h=>by
 obtain ⟨x,rfl,h1⟩:=hJ h;obtain ⟨p,rfl,h2⟩:=aT h1;obtain ⟨ys,e,h3⟩:=oA h2;refine adL pins s σ H _ us Q I r ⟨p,ys,rfl,?_,h3⟩;rcases e with e | e
 ·exact .inl (eZ.of e)
 ·exact .inr (dF.of e)
theorem alE:dW X (.builtin "len") (auK X.K):=fun pins s σ H xs us Q I r h=>by
 obtain ⟨x,rfl,h1⟩:=hJ h;obtain ⟨p,rfl,ys,e,q⟩:=aT h1;exact acZ pins s σ H _ us Q I r ⟨p,ys,rfl,.inl e,q⟩
end
section
variable {K:PySem.W.Frag} {H:Hp} {Q:VK} {a b p:Addr} {n:Nat} {i:Int}
theorem ayN:aAB K n (.ref a) (.ref b) H Q = ∃ r,vO K H n a b r/\Q (.bl (!r)) H:=rfl
theorem aA1:aAX K n (.ref a) (.ref b) H Q = ∃ r,vO K H n a b r/\Q (.bl r) H:=rfl
theorem arD:aoB [.ref p] H Q=mJ (H p) fun ys=>∀ l,H l=none->Q (.ref l) (upd H l (.lst ys)):=rfl
theorem awJ:auK K [.ref p] H Q = ∃ xs,eZ K H p xs/\Q (.int xs.length) H:=rfl
end
end L2
namespace L2
open PySem PySem.Spec PyProof.Rows
noncomputable def Str.cs (x:Str):List Nat:=x.cps.toList
section
variable {X:Cx}
end
section
variable {K:PySem.W.Frag} {H:Hp} {Q:VK} {p:Addr} {x y z:Str} {neg:Bool} {v:V}
end
end L2
namespace L2
open PySem PySem.Spec PyProof.Rows
noncomputable def j7 (C:Addr) (o:Option HO) (k:Addr->List (Str×V)->Prop) (_u:Tg k:=()):Prop:=match o with
 | some (.ins C' dx fs)=>C'=C/\k dx fs
 | _=>False
theorem oB {C:Addr} {o:Option HO} {k:Addr->List (Str×V)->Prop} (h:j7 C o k):∃ dx fs,o=some (.ins C dx fs)/\k dx fs:=by
 unfold j7 at h;split at h
 ·obtain ⟨rfl,h⟩:=h;exact ⟨_,_,rfl,h⟩
 ·exact h.elim
noncomputable def as8 (C:Addr) (f:Str) (ta:TE):TE:=fun σ H Q=>ta σ H fun x H1=>bF x fun a=>j7 C (H1 a) fun _ fs=>gR (fs.lookup f) fun v=>Q v H1
noncomputable def auO (C:Addr) (f:Str) (ta tv:TE):TS:=fun D σ H=>tv σ H fun y H1=>ta σ H1 fun x H2=>bF x fun a=>j7 C (H2 a) fun dx fs=>fs.length < 1000/\D.nx σ (upd H2 a (.ins C dx (iL f y fs)))
noncomputable def auN (C:Addr) (f:Str) (ta tv:TE):TS:=fun D σ H=>ta σ H fun x H1=>bF x fun a=>j7 C (H1 a) fun _ fs=>gR (fs.lookup f) fun v=>tv σ H1 fun y H2=>fP v fun i=>fP y fun j=>j7 C (H2 a) fun dx fs'=>fs'.length < 1000/\D.nx σ (upd H2 a (.ins C dx (iL f (.int (i+j)) fs')))
section
variable {X:Cx} {o e value:Expr} {f:Str} {pos pos' tpos:Pos} {ta tv:TE} {C:Addr}
theorem aQ (c:Cls X.K C) (n:eA X.K C f) (he:PE X e ta) (hb:attributeBase e f X.env (eval e X.env)=eval e X.env:=by rfl):PE X (.Attribute e f pos) (as8 C f ta):=fun pins s σ H Q I h=>by
 refine asR hb (thn (he pins s σ H _ I h) fun u s1 ⟨x,H1,I1,rx,q1⟩=>?_);obtain ⟨a,rfl,q2⟩:=aT q1;obtain ⟨dx,fs,ea,q3⟩:=oB q2;obtain ⟨v,l,q⟩:=c8 q3;obtain rfl:u=Value.ref a:=rx;exact zE I1 ea c n l fun u' s2 I2 ru=>⟨v,H1,I2,ru,q⟩
theorem c6 (c:Cls X.K C) (n:eA X.K C f) (ha:PE X o ta) (hv:PE X value tv) (hs:swapsWith value (some (.Attribute o f pos')) pos.line X.env=pure false:=by rfl):PS X (.Assign [.Attribute o f pos'] value pos) (auO C f ta tv):=fun pins s σ H D I h=>by
 refine plainObj_wpAny_Assign_Attribute (thn (hv pins s σ H _ I h) fun u s1 ⟨y,H1,I1,ry,q⟩=>thn (ha pins s1 σ H1 _ I1 q) fun ov s2 ⟨x,H2,I2,rx,q1⟩=>?_) hs;obtain ⟨a,rfl,q2⟩:=aT q1;obtain ⟨dx,fs,ea,l,q3⟩:=oB q2;obtain rfl:ov=Value.ref a:=rx;exact aaQ I2 ea c n l ry fun s3 I3=>⟨σ,_,I3,q3⟩
theorem atS (c:Cls X.K C) (n:eA X.K C f) (ha:PE X o ta) (hv:PE X value tv):PS X (.AugAssign (.Attribute o f tpos) .Add value pos) (auN C f ta tv):=fun pins s σ H D I h=>by
 refine wpAny_AugAssign_AttributeAny (thn (ha pins s σ H _ I h) fun ov s1 ⟨x,H1,I1,rx,q1⟩=>?_);obtain ⟨a,rfl,q2⟩:=aT q1;obtain ⟨dx,fs,ea,q3⟩:=oB q2;obtain ⟨v,l,q⟩:=c8 q3;obtain rfl:ov=Value.ref a:=rx;refine zE I1 ea c n l fun u s2 I2 ru=>thn (hv pins s2 σ H1 _ I2 q) fun w3 s3 ⟨y,H2,I3,ry,q4⟩=>?_;obtain ⟨i,rfl,q5⟩:=dS q4;obtain ⟨j,rfl,q6⟩:=dS q5;obtain ⟨dx',fs',ea',l',q7⟩:=oB q6;refine thn (axP pins s3 σ H2 (.int i) (.int j) u w3 (fun z H3=>z=.int (i+j)/\H3=H2) I3 ru ry ⟨i,j,rfl,rfl,rfl,rfl⟩) fun w4 s4 ⟨z,H3,I4,rz,ez,eH⟩=>?_;subst ez eH;exact aaQ I4 ea' c n l' rz fun s5 I5=>⟨σ,_,I5,q7⟩
end
section
variable {C a dx:Addr} {fs:List (Str×V)} {k:Addr->List (Str×V)->Prop} {m f:Str} {sp:Sp} {E:XK} {ta tv:TE} {t:TA} {σ:St} {H:Hp} {Q:VK} {D:Ends} {v u:V} {r:List (Str×V)}
theorem akM {k:Addr->List (Str×V)->Prop} {u:Tg k}:@j7 C (some (.ins C dx fs)) k u=k dx fs:=by simp [j7]
theorem ay3:as8 C f ta σ H Q=ta σ H fun x H1=>bF x fun a=>j7 C (H1 a) fun _ fs=>gR (fs.lookup f) fun v=>Q v H1:=rfl
theorem ax6:auO C f ta tv D σ H=tv σ H fun y H1=>ta σ H1 fun x H2=>bF x fun a=>j7 C (H2 a) fun dx fs=>fs.length < 1000/\D.nx σ (upd H2 a (.ins C dx (iL f y fs))):=rfl
theorem axK:auN C f ta tv D σ H=ta σ H fun x H1=>bF x fun a=>j7 C (H1 a) fun _ fs=>gR (fs.lookup f) fun v=>tv σ H1 fun y H2=>fP v fun i=>fP y fun j=>j7 C (H2 a) fun dx fs'=>fs'.length < 1000/\D.nx σ (upd H2 a (.ins C dx (iL f (.int (i+j)) fs'))):=rfl
theorem au4:aeW C m sp [] E ta t σ H Q=ta σ H fun x H1=>bF x fun a=>j7 C (H1 a) fun _ fs=>fs.lookup m=none/\t σ H1 fun vs H2=>sp (.ref a::vs) H2 Q E:=by
 unfold aeW
 congr 1
 funext x H1;refine propext ⟨fun ⟨a,dx,fs,e,e1,l,h⟩=>?_,fun h=>?_⟩
 ·subst e;show j7 C (H1 a) _;rw [e1,akM];simp only [List.append_nil] at h;exact ⟨l,h⟩
 ·obtain ⟨a,rfl,h⟩:=aT h;obtain ⟨dx,fs,e1,l,h⟩:=oB h;exact ⟨a,dx,fs,rfl,e1,l,by simpa only [List.append_nil] using h⟩
theorem awR:akN C sp [] E t σ H Q=t σ H fun vs H1=>∀ x dx,H1 x=none->H1 dx=none->dx≠x->sp (.ref x::vs) (upd (upd H1 dx (.own x)) x (.ins C dx [])) (fun v H2=>v=.non/\Q (.ref x) H2) E:=by
 unfold akN;simp only [List.append_nil]
theorem aqE {x y:String}:(Str.ofString x=Str.ofString y)=(x=y):=e9
theorem anC {x y:String}:List.lookup (Str.ofString x) ((Str.ofString y,v)::r)=if x=y then some v else List.lookup (Str.ofString x) r:=by
 by_cases h:x=y
 ·subst h;simp [List.lookup]
 ·have:(Str.ofString x == Str.ofString y)=false:=beq_eq_false_iff_ne.mpr fun z=>h (aqE ▸ z);simp only [List.lookup,this,if_neg h]
theorem amH {x:Str}:List.lookup x ([]:List (Str×V))=none:=rfl
theorem ayA {x y:String}:iL (Str.ofString x) u ((Str.ofString y,v)::r)=if y=x then (Str.ofString y,u)::r else (Str.ofString y,v)::iL (Str.ofString x) u r:=by
 rw [show iL (Str.ofString x) u ((Str.ofString y,v)::r)=(if Str.ofString y=Str.ofString x then (Str.ofString y,u)::r else (Str.ofString y,v)::iL (Str.ofString x) u r) from rfl];by_cases h:y=x
 ·rw [if_pos h,if_pos (by rw [h])]
 ·rw [if_neg h,if_neg fun z=>h (aqE ▸ z)]
theorem aq3 {x:Str}:iL x u []=[(x,u)]:=rfl
end
end L2
namespace L2
open PySem PySem.Spec PyProof.Rows
section
variable {X:Cx}
end
section
variable {H:Hp} {Q:VK} {x:V} {p:Addr} {σ:St} {t:TA} {vs:List V} {i:Int} {z:Str} {b:Bool}
end
theorem aj5 {a b:Str}:qU (.str a) (.str b)=(a == b):=rfl
theorem arZ {a b:Int}:qU (.int a) (.int b)=(a == b):=rfl
end L2
namespace L2
open PySem PySem.Spec PyProof.Rows
section
variable {X:Cx} {pins:List (Addr×Obj)} {σ:St} {H:Hp} {s:Shared} {a:Addr} {o:Obj} {kvs:List (Key×V)}
theorem Inv.thaw (I:Inv X pins σ H s) (e:H a=some (.frz o (.dK kvs))) (hne:∀ ob u,X.H₀ a≠some (.frz ob u)):Inv X pins σ (upd H a (.dK kvs)) s:=by
 have nn:∀ {b:Addr},H b=none->b≠a:=fun h z=>by subst z;rw [e] at h;cases h
 refine ⟨I.ok,I.os,I.bare,⟨I.base.keep,I.base.slot,fun b ob q n hx=>?_,I.base.there,fun b xs q=>?_,fun b ob u q=>?_,fun b ps q=>?_⟩,I.loc,I.cell,?_,fun x c hc=>?_,fun p hp=>?_,fun b u q=>?_,I.len⟩
 ·have:=I.base.free b ob q n hx;rw [aI (nn this)];exact this
 ·have:=I.base.tups b xs q;rw [aI (dP this e (by intro z;cases z))];exact this
 ·have h1:=I.base.frzs b ob u q;rw [aI (fun z=>by subst z;exact hne _ _ q)];exact h1
 ·obtain ⟨more,h1⟩:=I.base.tbls b ps q;exact ⟨more,by rw [aI (dP h1 e (by intro z;cases z))];exact h1⟩
 ·rw [aI (nn I.free)];exact I.free
 ·rw [aI (nn (I.freeC x c hc))];exact I.freeC x c hc
 ·obtain ⟨h1,h2,h3⟩:=I.pin p hp;exact ⟨h1,by rw [aI (nn h2)];exact h2,h3⟩
 ·have own:∀ b c,H b=some (.own c)->upd H a (.dK kvs) b=some (.own c):=fun b c q=>by rw [aI (dP q e (by intro z;cases z))];exact q
  have tup:∀ b xs,H b=some (.tup xs)->upd H a (.dK kvs) b=some (.tup xs):=fun b c q=>by rw [aI (dP q e (by intro z;cases z))];exact q
  by_cases hb:b=a
  ·subst hb;rw [aA] at q;cases q;exact dM.stay (I.hok b _ e).2 (fun _ _ _ z=>z) (fun b q=>own b _ q) tup
  ·rw [aI hb] at q;exact (I.hok b u q).stay (fun _ _ _ z=>z) (fun b q=>own b _ q) tup
end
noncomputable def at9 (H₀:Hp) (D:Ends):Ends :=
 {nx:=fun σ H=>∃ a o kvs,H a=some (.frz o (.dK kvs))/\(∀ ob u,H₀ a≠some (.frz ob u))/\D.nx σ (upd H a (.dK kvs))
  bk:=fun σ H=>∃ a o kvs,H a=some (.frz o (.dK kvs))/\(∀ ob u,H₀ a≠some (.frz ob u))/\D.bk σ (upd H a (.dK kvs))
  ct:=fun σ H=>∃ a o kvs,H a=some (.frz o (.dK kvs))/\(∀ ob u,H₀ a≠some (.frz ob u))/\D.ct σ (upd H a (.dK kvs))
  rt:=fun v H=>∃ a o kvs,H a=some (.frz o (.dK kvs))/\(∀ ob u,H₀ a≠some (.frz ob u))/\D.rt v (upd H a (.dK kvs))}
noncomputable def auJ (H₀:Hp) (t:TS):TS:=fun D σ H=>t (at9 H₀ D) σ H
theorem arO {X:Cx} {st:Stmt} {t:TS} (h:PS X st t):PS X st (auJ X.H₀ t):=fun pins s σ H D I hq =>
 thn (h pins s σ H _ I hq) fun f s' q=>by
  cases f with
  | next=>obtain ⟨σ',H',I',a,o,kvs,e,hne,q⟩:=q;exact ⟨σ',_,I'.thaw e hne,q⟩
  | brk=>obtain ⟨σ',H',I',a,o,kvs,e,hne,q⟩:=q;exact ⟨σ',_,I'.thaw e hne,q⟩
  | cont=>obtain ⟨σ',H',I',a,o,kvs,e,hne,q⟩:=q;exact ⟨σ',_,I'.thaw e hne,q⟩
  | ret u=>obtain ⟨v,σ',H',I',r,a,o,kvs,e,hne,q⟩:=q;exact ⟨v,σ',_,I'.thaw e hne,r,q⟩
noncomputable def azK (ty td:TE):TE:=fun σ H Q=>ty σ H fun y H1=>td σ H1 fun x H2=>bF x fun a=>c0 (H2 a) fun kvs=>gR (jV y) fun k=>Q (.bl (cI kvs k).isSome) H2
noncomputable def anP (td ty:TE):TE:=fun σ H Q=>td σ H fun x H1=>bF x fun a=>c0 (H1 a) fun _=>ty σ H1 fun y H2=>c0 (H2 a) fun kvs=>gR (jV y) fun k=>gR (cI kvs k) fun v=>Q v (upd H2 a (.dK (vI kvs k)))
noncomputable def aqA (td ty tx:TE):TE:=fun σ H Q=>td σ H fun x H1=>bF x fun a=>c0 (H1 a) fun _=>ty σ H1 fun y H2=>tx σ H2 fun z H3=>c0 (H3 a) fun kvs=>gR (jV y) fun k=>Q ((cI kvs k).getD z) H3
theorem adM {y:V} {k:Key} (h:jV y=some k):y=kV k:=by
 cases y<;>simp [jV] at h<;>subst h<;>rfl
section
variable {X:Cx} {o e f:Expr} {apos cpos:Pos} {td ty tx:TE}
theorem aoT (ho:PE X o td) (he:PE X e ty) (m:M1 X o "pop" apos e cpos):PE X (.Call (.Attribute o "pop" apos) [e] [] cpos) (anP td ty):=fun pins s σ H Q I h=>by
 refine wpAny_Call_method m.base m.few m.line PySem.F.plainAttrs_dict PySem.F.slot_dict_pop PySem.F.type_dict_pop (thn (ho pins s σ H _ I h) fun u s1 ⟨x,H1,I1,rx,q1⟩=>?_);obtain ⟨a,rfl,q2⟩:=aT q1;obtain ⟨kv0,e0,q3⟩:=c5 q2;obtain rfl:u=Value.ref a:=rx;obtain ⟨t1,t2,_⟩:=tZ I1 (.inl ⟨kv0,.inl e0⟩);refine ⟨t1,t2,?_⟩;rw [m.trees];refine Calls.callWith_builtin rfl (Calls.evalArgs_plain (Calls.spliced_cons (thn (he pins s1 σ H1 _ I1 q3) fun iv s2 ⟨y,H2,I2,ry,q4⟩=>Calls.spliced_nil ?_)));obtain ⟨kvs,ea,q5⟩:=c5 q4;obtain ⟨k,ek,q6⟩:=c8 q5;obtain ⟨v,l,q7⟩:=c8 q6;cases adM ek;exact aA3 I2 ea ry l (.inl rfl) fun w' s3 I3 rw'=>⟨v,_,I3,rw',q7⟩
theorem amK (hu:X.A.units+1 < cLine) (ho:PE X o td) (he:PE X e ty) (hf:PE X f tx) (m:M2 X o "get" apos e f cpos):PE X (.Call (.Attribute o "get" apos) [e,f] [] cpos) (aqA td ty tx):=fun pins s σ H Q I h=>by
 refine wpAny_Call_method m.base m.few m.line PySem.F.plainAttrs_dict PySem.F.slot_dict_get PySem.F.type_dict_get (thn (ho pins s σ H _ I h) fun u s1 ⟨x,H1,I1,rx,q1⟩=>?_);obtain ⟨a,rfl,q2⟩:=aT q1;obtain ⟨kv0,e0,q3⟩:=c5 q2;obtain rfl:u=Value.ref a:=rx;obtain ⟨t1,t2,_⟩:=tZ I1 (.inl ⟨kv0,.inl e0⟩);refine ⟨t1,t2,?_⟩;rw [m.trees];refine Calls.callWith_builtin rfl (Calls.evalArgs_plain (Calls.spliced_cons (thn (he pins s1 σ H1 _ I1 q3) fun iv s2 ⟨y,H2,I2,ry,q4⟩ =>
  Calls.spliced_cons (thn (hf pins s2 σ H2 _ I2 q4) fun fv s3 ⟨z,H3,I3,rz,q5⟩=>Calls.spliced_nil ?_))))
 obtain ⟨kvs,ea,q6⟩:=c5 q5;obtain ⟨k,ek,q7⟩:=c8 q6;cases adM ek;exact axI hu I3 (DGet.k ea) ry rz fun w' s4 I4 rw'=>⟨_,H3,I4,rw',q7⟩
theorem ajR (hu:X.A.units+1 < cLine) (hi:PE X e ty) (ho:PE X o td):PC X .In e o (azK ty td):=fun pins s σ H Q I h=>by
 refine thn (hi pins s σ H _ I h) fun iv s1 ⟨y,H1,I1,ry,q1⟩=>thn (ho pins s1 σ H1 _ I1 q1) fun u s2 ⟨x,H2,I2,rx,q2⟩=>?_;obtain ⟨a,rfl,q3⟩:=aT q2;obtain ⟨kvs,e0,q4⟩:=c5 q3;obtain ⟨k,ek,q5⟩:=c8 q4;obtain rfl:u=Value.ref a:=rx;cases adM ek;exact aCB hu I2 (DGet.k e0) ry fun s3 I3=>⟨.bl (cI kvs k).isSome,H2,I3,rfl,q5⟩
noncomputable def ajB (td:TE):TE:=fun σ H Q=>td σ H fun x H1=>bF x fun a=>c0 (H1 a) fun _=>Q .non (upd H1 a (.dK []))
theorem ak8 (ho:PE X o td) (hbase:attributeBase o "clear" X.env (eval o X.env)=eval o X.env:=by rfl) (hline:(apos.endLine == cpos.line)=true:=by rfl):PE X (.Call (.Attribute o "clear" apos) [] [] cpos) (ajB td):=fun pins s σ H Q I h=>by
 refine wpAny_Call_method0_late hbase hline (thn (ho pins s σ H _ I h) fun v s1 ⟨x,H1,I1,r1,q1⟩=>?_);obtain ⟨a,rfl,q2⟩:=aT q1;obtain ⟨kvs,e0,q3⟩:=c5 q2;obtain rfl:v=Value.ref a:=r1;obtain ⟨t1,t2,_⟩:=tZ I1 (.inl ⟨kvs,.inl e0⟩);refine ⟨"dict","dict.clear",PySem.F.plainAttrs_dict,PySem.F.slot_dict_clear,PySem.F.type_dict_clear,t1,t2,Calls.callWith_builtin rfl (PySem.evalArgs_none ?_)⟩;obtain ⟨z,hd,vs,rel,dd⟩:=rV I1.hok e0;refine call_meetsIn PySem.F.slot_dict_clear dd.typeIs PySem.F.entry_dict_clear (PySem.F.args_dict_clear_1 _) (meets_dict_clear (bY X.prog X.w) a)
  ⟨vs,dd,by rw [<- rel.length];exact z,fun h' dd' hs=>⟨.non,_,?_,rfl,q3⟩⟩
 have he:∃ q,h'.get? a=some q:=let ⟨q,_,_,hq,_⟩:=dd';⟨q,hq⟩;exact rO I1 (by rw [e0];exact True.intro) hs he (aaJ (Nat.zero_le _) hd .nil dd')
noncomputable def auD (td ty tx:TE):TE:=fun σ H Q=>td σ H fun x H1=>bF x fun a=>c0 (H1 a) fun _=>ty σ H1 fun y H2=>tx σ H2 fun z H3=>c0 (H3 a) fun kvs=>gR (jV y) fun k=>kvs.length < sizeLine /\
 (∀ v,cI kvs k=some v->Q v H3)/\(cI kvs k=none->Q z (upd H3 a (.dK (eI kvs k z))))
theorem anM (ho:PE X o td) (he:PE X e ty) (hf:PE X f tx) (m:M2 X o "setdefault" apos e f cpos):PE X (.Call (.Attribute o "setdefault" apos) [e,f] [] cpos) (auD td ty tx):=fun pins s σ H Q I h=>by
 refine wpAny_Call_method m.base m.few m.line PySem.F.plainAttrs_dict PySem.F.slot_dict_setdefault PySem.F.type_dict_setdefault (thn (ho pins s σ H _ I h) fun u s1 ⟨x,H1,I1,rx,q1⟩=>?_);obtain ⟨a,rfl,q2⟩:=aT q1;obtain ⟨kv0,e0,q3⟩:=c5 q2;obtain rfl:u=Value.ref a:=rx;obtain ⟨t1,t2,_⟩:=tZ I1 (.inl ⟨kv0,.inl e0⟩);refine ⟨t1,t2,?_⟩;rw [m.trees];refine Calls.callWith_builtin rfl (Calls.evalArgs_plain (Calls.spliced_cons (thn (he pins s1 σ H1 _ I1 q3) fun iv s2 ⟨y,H2,I2,ry,q4⟩ =>
  Calls.spliced_cons (thn (hf pins s2 σ H2 _ I2 q4) fun fv s3 ⟨z,H3,I3,rz,q5⟩=>Calls.spliced_nil ?_))))
 obtain ⟨kvs,ea,q6⟩:=c5 q5;obtain ⟨k,ek,hl,q7,q8⟩:=c8 q6;cases adM ek;obtain ⟨z',hd,vs,rel,dd⟩:=rV I3.hok ea;refine call_meetsIn PySem.F.slot_dict_setdefault dd.typeIs PySem.F.entry_dict_setdefault (PySem.F.args_dict_setdefault_3 _ _ _) (kt_meets_setdefault (bY X.prog X.w) a (vK ry) hd fv)
  ⟨vs,dd,by rw [<- rel.length];exact z',fun v hv=>?_,fun hv h' dd' hs=>?_⟩
 ·have:=rel.val k;rw [hv] at this;cases l:cI kvs k with
  | none=>rw [l] at this;exact this.elim
  | some w=>rw [l] at this;exact ⟨w,H3,I3.tok _,this,q7 w l⟩
 ·have:=rel.val k;rw [hv] at this;cases l:cI kvs k with
  | some w=>rw [l] at this;exact this.elim
  | none =>
   have he:∃ q,h'.get? a=some q:=let ⟨q,_,_,hq,_⟩:=dd';⟨q,hq⟩;exact ⟨z,_,rO I3 (by rw [ea];exact True.intro) hs he (aaJ (by have:=nS kvs k z;omega) hd (rel.put k rz) dd'),rz,q8 l⟩
end
section
variable {td ty tx:TE} {σ:St} {H H₀:Hp} {Q:VK} {t:TS} {D:Ends} {v:V}
theorem ax1:auJ H₀ t D σ H=t (at9 H₀ D) σ H:=rfl
theorem au5:azK ty td σ H Q=ty σ H fun y H1=>td σ H1 fun x H2=>bF x fun a=>c0 (H2 a) fun kvs=>gR (jV y) fun k=>Q (.bl (cI kvs k).isSome) H2:=rfl
theorem arY:anP td ty σ H Q=td σ H fun x H1=>bF x fun a=>c0 (H1 a) fun _=>ty σ H1 fun y H2=>c0 (H2 a) fun kvs=>gR (jV y) fun k=>gR (cI kvs k) fun v=>Q v (upd H2 a (.dK (vI kvs k))):=rfl
theorem amY:aqA td ty tx σ H Q=td σ H fun x H1=>bF x fun a=>c0 (H1 a) fun _=>ty σ H1 fun y H2=>tx σ H2 fun z H3=>c0 (H3 a) fun kvs=>gR (jV y) fun k=>Q ((cI kvs k).getD z) H3:=rfl
theorem aoG:ajB td σ H Q=td σ H fun x H1=>bF x fun a=>c0 (H1 a) fun _=>Q .non (upd H1 a (.dK [])):=rfl
theorem aqJ:auD td ty tx σ H Q=td σ H fun x H1=>bF x fun a=>c0 (H1 a) fun _=>ty σ H1 fun y H2=>tx σ H2 fun z H3=>c0 (H3 a) fun kvs=>gR (jV y) fun k=>kvs.length < sizeLine/\(∀ v,cI kvs k=some v->Q v H3)/\(cI kvs k=none->Q z (upd H3 a (.dK (eI kvs k z)))):=rfl
end
noncomputable def auA:V->V->Hp->VK->Prop:=fun x y H Q=>bF x fun p=>fP y fun i=>dX (H p) fun xs=>gR (kC xs i) fun v=>Q v H
noncomputable def azG:TIp:=fun x y H Q=>fP x fun i=>fP y fun j=>Q (.int (i+j)) H
section
variable {X:Cx}
theorem ayV:PGet X auA:=fun pins s σ H o i ov iv Q I ro ri h=>by
 obtain ⟨p,rfl,h1⟩:=aT h;obtain ⟨k,rfl,h2⟩:=dS h1;obtain ⟨xs,e,h3⟩:=eQ h2;obtain ⟨v,ea,q⟩:=c8 h3;cases ro;obtain ⟨t,rfl⟩:=ri;obtain ⟨its,r,pl,hz⟩:=I.list (eZ.of e);obtain ⟨j,g1,g2,g3,g4,g5⟩:=wO ea;obtain ⟨w,ew,rw'⟩:=r.get g2;have hl:=r.length;have hn:=line63;have fin:EP X pins σ Q w s:=⟨v,H,I,rw',q⟩;by_cases h0:0<=k
 ·have hj:k.toNat=j:=by
   rw [seqIndex_of h0 g5] at g1;exact Option.some.inj g1
  exact wpAny_getItem_list pl.isList h0 (by omega) (by rw [hj];simpa using ew) fin
 ·have hj:(k+(its.toArray.size:Int)).toNat=j:=by
   rw [seqIndex_neg (by omega) g4] at g1;rw [List.size_toArray,<- hl];exact Option.some.inj g1
  exact wpAny_getItem_list_neg pl.isList (by omega) (by rw [List.size_toArray];omega) (by omega) (by rw [hj];simpa using ew) fin
theorem aj1:PIp X .Add azG:=fun pins s σ H x y v u Q I r1 r2 h=>by
 obtain ⟨i,rfl,h1⟩:=dS h;obtain ⟨j,rfl,q⟩:=dS h1;exact aw7 pins s σ H _ _ v u Q I r1 r2 ⟨i,j,rfl,rfl,q⟩
end
structure aAA (P:Params) (K:PySem.W.Frag) (d:Addr):Prop where
 ex:∃ es n,K.lookup d=some {cls:=.type "dict",data:=.dict es n}/\PySem.W.KeysLit P es.toList
noncomputable def auM (tab:List (Str×Sp)) (tk:TE) (t:TA):TE:=fun σ H Q=>tk σ H fun y H1=>yA y fun x=>gR (tab.lookup x) fun sp=>t σ H1 fun vs H2=>sp vs H2 Q E0
theorem arC {X:Cx} {x:Str} {p pos pos':Pos} {d:Addr} {ke e:Expr} {es:List Expr} {tk:TE} {t:TA} {k:Nat} {tab:List (Str×Sp)} (hg:Gl X x) (hm:X.mg x=some (.ref d)) (M:aAA X.w.params X.K d) (hk:PE X ke tk) (hs:awU ke)
    (F:∀ y sp,tab.lookup y=some sp->∃ f fd ps,PySem.W.nsIn X.K d y=some (some (.ref f))/\bK X.prog X.w X.K X.mg X.base CX0 k f fd ps sp/\PySem.W.keepIn X.K (.ref f)=true/\Binds X.K fd ps [])
    (hr:Room k X.A) (ha:PA X (e::es) t) (hd:(x == ("__debug__":Str))=false:=by decide) (he:starEach (e::es) X.env=(false,eval e X.env)::starEach es X.env:=by rfl) (hpl:(backTo pos (starEach es X.env)).any (·.1)=false:=by rfl)
    (hc:eval (.Call (.Subscript (.Name x p) ke pos') (e::es) [] pos) X.env=(do
      let f <- eval (.Subscript (.Name x p) ke pos') X.env
      callWith pos f [] (backTo pos (starEach (e::es) X.env)) (backToKw pos (keywordEach [] X.env))):=by rfl) :
    PE X (.Call (.Subscript (.Name x p) ke pos') (e::es) [] pos) (auM tab tk t):=fun pins s σ H Q I h=>by
  obtain ⟨es',n',lk,kl⟩:=M.ex;refine PyProof.Rows.Call_ (ajD (T:="dict") PySem.F.slot_dict_getitem.lookup hs (thn (oG (v:=.ref d) hg hm rfl hd pins s σ H (fun v H'=>v=.ref d/\tk σ H' _) I ⟨rfl,h⟩) fun o s1 ⟨v,H1,I1,r1,ev,q1⟩=>?_)) hc;subst ev;obtain rfl:o=Value.ref d:=r1;refine thn (hk pins s1 σ H1 _ I1 q1) fun i s2 ⟨y,H2,I2,ry,q2⟩=>?_;obtain ⟨z,rfl,q3⟩:=zH q2;obtain ⟨sp,el,q4⟩:=c8 q3;obtain ⟨f,fd,ps,hns,hf,hkp,hb⟩:=F z sp el;obtain ⟨t',rfl⟩:=ry;obtain ⟨m,fr⟩:=I2.fr;refine ⟨⟨_,I2.kIn _ _ lk,rfl⟩,PySem.W.topGetDict_K fr I2.mod.kin lk kl hns ?_⟩;refine PySem.W.callWith_K (h₀:=X.base) I2.mod.kin hkp (thn (ha pos pins _ σ H2 _ (I2.tok _) q4) fun us s3 ⟨vs,H3,I3,r3,q5⟩=>⟨I3.kIn,?_⟩) he hpl;exact aeC (E:=E0) hf hr hb .nil pass0 I3 r3 (by simpa using q5)
section
variable {tab:List (Str×Sp)} {tk to ti te:TE} {t:TA} {σ:St} {H:Hp} {Q:VK} {D:Ends} {p:Addr} {i j:Int} {tget:V->V->Hp->VK->Prop} {tip:TIp} {tset:TSet}
theorem au2:auM tab tk t σ H Q=tk σ H fun y H1=>yA y fun x=>gR (tab.lookup x) fun sp=>t σ H1 fun vs H2=>sp vs H2 Q E0:=rfl
theorem awK:auA (.ref p) (.int i) H Q=dX (H p) fun xs=>gR (kC xs i) fun v=>Q v H:=rfl
theorem aAP:azG (.int i) (.int j) H Q=Q (.int (i+j)) H:=rfl
theorem axM:auF to ti te tget tip tset D σ H=to σ H fun o H1=>ti σ H1 fun i H2=>tget o i H2 fun x H3=>te σ H3 fun y H4=>tip x y H4 fun z H5=>tset o i z H5 fun H6=>D.nx σ H6:=rfl
theorem ay8 {i:Nat} {ti:TIp}:aAF i te ti D σ H = ∃ x,σ[i]?=some (some x)/\te σ H fun y H1=>ti x y H1 fun z H2=>D.nx (σ.set i (some z)) H2:=rfl
end
end L2
namespace L2
open PySem PySem.Spec PyProof.Rows
noncomputable def intKeys:List (Key×V)->Option (List Int)
 | []=>some []
 | (.inl i,_)::r=>(intKeys r).map (i::·)
 | _=>none
theorem w8:∀ {kvs:List (Key×V)} {ns:List Int},intKeys kvs=some ns->kvs.length=ns.length/\∀(j:Nat) (k:Key) (x:V),kvs[j]?=some (k,x)->∃ i:Int,k=.inl i/\ns[j]?=some i
 | [],ns,h=>by cases h;exact ⟨rfl,fun j k x e=>by simp at e⟩
 | (k,v)::kvs,ns,h=>by
  cases k with
  | inl i =>
   simp only [intKeys,Option.map_eq_some_iff] at h;obtain ⟨ms,e,rfl⟩:=h;obtain ⟨l,f⟩:=w8 e;refine ⟨by simp [l],fun j k x ej=>?_⟩;cases j with
   | zero=>simp only [List.getElem?_cons_zero,Option.some.injEq,Prod.mk.injEq] at ej;exact ⟨i,ej.1.symm,rfl⟩
   | succ j=>exact f j k x (by simpa using ej)
  | _=>cases h
theorem ajI {ns:List Int}:∀ {vs:List Value},vs.length=ns.length->(∀(j:Nat) (v:Value),vs[j]?=some v->∃ i t,ns[j]?=some i/\v=Value.int i t)->IntsAre vs ns:=by
 induction ns with
 | nil =>
  intro vs hl _;cases vs with
  | nil=>exact .nil
  | cons _ _=>simp at hl
 | cons n ns ih =>
  intro vs hl h;cases vs with
  | nil=>simp at hl
  | cons v vs =>
   obtain ⟨i,t,e,rfl⟩:=h 0 v rfl;cases e;exact .cons _ _ (ih (by simpa using hl) fun j v e=>h (j+1) v (by simpa using e))
theorem dM.there {P:Program} {w:World} {H:Hp} {h:Heap} {a:Addr} {o:HO} (x:dM P w H h a o):∃ ob,h.get? a=some ob:=by
 cases o with
 | lst xs=>obtain ⟨_,_,_,_,e⟩:=x;exact ⟨_,e⟩
 | tup xs=>obtain ⟨_,_,_,o,e,_⟩:=x;exact ⟨_,e⟩
 | dK kvs=>obtain ⟨_,_,_,_,o,_,_,e,_⟩:=x;exact ⟨_,e⟩
 | dT kvs=>obtain ⟨_,_,_,_,o,_,_,e,_⟩:=x;exact ⟨_,e⟩
 | set S n=>obtain ⟨o,_,_,_,e,_⟩:=x;exact ⟨_,e⟩
 | ins C dx fs=>obtain ⟨_,_,_,e,_⟩:=x;exact ⟨_,e⟩
 | own y=>obtain ⟨_,e⟩:=x;exact ⟨_,e⟩
 | xd fs=>obtain ⟨_,⟨_,_,_,e,_⟩,_⟩:=x;exact ⟨_,e⟩
 | rng lo hi=>obtain ⟨_,_,_,e⟩:=x;exact ⟨_,e⟩
 | frz ob u=>obtain ⟨e,_⟩:=x;exact ⟨_,e⟩
 | tbl ps=>exact ⟨_,(show h.get? a=some _ from x)⟩
 | met f y=>exact ⟨_,(show h.get? a=some _ from x)⟩
 | ext φ=>obtain ⟨_,⟨_,e⟩,_⟩:=x;exact ⟨_,e⟩
section
variable {H:Hp} {Q:VK} {p:Addr}
end
end L2
namespace L2
open PySem PySem.Spec PyProof.Rows
section
variable {X:Cx} {pins:List (Addr×Obj)} {σ:St} {H:Hp} {s:Shared} {h':Heap}
end
noncomputable def SOk (t:Bool) (h:Heap) (a:Addr) (us:Array Value):Prop:=match t with
 | true=>h.IsTuple a us
 | false=>h.IsList a us
section
variable {prog:Program} {w:World} {A:Around} {E:Value->Shared->Prop} {s:Shared}
end
end L2
namespace L2
open PySem PySem.Spec PyProof.Rows
section
variable {prog:Program} {w:World} {A:Around} {E:Value->Shared->Prop} {s:Shared}
end
section
variable {X:Cx} {pins:List (Addr×Obj)} {σ:St} {H:Hp} {s:Shared} {a:Addr} {xs ys:List V} {t:Bool}
end
section
variable {X:Cx} {elts:List Expr} {k:Nat} {tp:Pos}
end
section
variable {σ:St} {H:Hp} {D:Ends} {g:TG} {tb:TS} {as:TA} {K:PySem.W.Frag}
end
end L2
namespace L2
open PySem PySem.Spec PyProof.Rows
structure j0 (X:Cx) (sc:Scope) (cl:List (Str×Addr)) (x y0:Str) (fr:List Nat) (N:List Str):Prop where
 kind:sc.kind=.function
 nocell:∀ y∈sc.names,y.2≠.cell
 names:∀ y∈sc.names,y.2=.local->sc.names.lookup y.1=some .local
 clos:closureFor sc X.env=pure cl
 sub:∀ y c,cl.lookup y=some c->X.env.cells.lookup y=some c
 has:∀ y,((relabel sc X.env).names.lookup y=some .cell\/(relabel sc X.env).names.lookup y=some .free)->∃ c,cl.lookup y=some c
 tgt:sc.names.lookup x=some .local
 tgt2:sc.names.lookup y0=some .local
 nd:N.Nodup
 N0:N=x::y0::fr.map fun j=>X.N.getD j x
 frc:∀ j∈fr,∃ y,X.N[j]?=some y/\X.env.kindOf y=some .cell/\((relabel sc X.env).names.lookup y=some .cell\/(relabel sc X.env).names.lookup y=some .free)
section
variable {X:Cx} {pins:List (Addr×Obj)} {σ:St} {H:Hp} {s:Shared} {sc:Scope} {cl:List (Str×Addr)} {C:Addr} {x y0:Str} {fr:List Nat} {N:List Str} {fp:List Addr}
theorem anA (I:Inv X pins σ H s) (S:j0 X sc cl x y0 fr N) (hf:∀ b∈fp,mR X pins H b) (hfo:∀ b∈fp,b < s.heap.objs.size) (hC:s.heap.objs.size<=C) :
    (bT X sc cl C N s H fp (X.pn++pins)).Ok where
  mod:=I.ok.mod
  kind:=S.kind
  glob:=I.ok.glob
  blt:=I.ok.blt
  above:=hC
  inj:=fun n z c h1 h2=>I.ok.inj n z c (S.sub n c h1) (S.sub z c h2)
  has:=S.has
  cab:=fun _ _ h=>by cases h
  hd:=I.ok.hd
  frames:=I.ok.frames
  stk:=.inl rfl
  exf:=fun b hb=>⟨Nat.ne_of_lt (Nat.lt_of_lt_of_le (hfo b hb) hC),fun n c e=>(hf b hb).2.2.2.2.1 n c (S.sub n c e)⟩
  bs:=I.bs
  bsz:=Nat.le_trans I.ok.bsz I.sz
  noex:=fun b o e hb=>by
    rcases (hf b hb).2.2.2.1 with z | z
    · exact I.ok.noex b o e z
    · exact absurd (Nat.lt_of_lt_of_le (Heap.lt_size e) (Nat.le_trans I.ok.bsz z)) (Nat.lt_irrefl _)
  exfs:=fun b hb hm=>by
    rcases List.mem_cons.mp (I.stkSub b hm) with z | z
    · exact (hf b hb).2.1 z
    · exact (hf b hb).2.2.1 z
  funs:=I.stack
  frf:=I.stkFree
theorem al1 (I:Inv X pins σ H s) (S:j0 X sc cl x y0 fr N) (hf:∀ b∈fp,mR X pins H b) (hfo:∀ b∈fp,b < s.heap.objs.size) (hC:s.heap.objs.size<=C) {h1:Heap} {t1:Nat} {m0:Str->Option Value}
    (hn:h1.Ns C m0) (hk:∀ b o,s.heap.get? b=some o->h1.get? b=some o):Inv (bT X sc cl C N s H fp (X.pn++pins)) [] (none::none::aY fr σ) H {s with heap:=h1,toks:=t1}:=by
  refine ⟨anA I S hf hfo hC,rfl,I.bare,Un.kept hk,⟨m0,hn,fun i y v e1 e2 e3=>?_⟩,fun y c e=>?_,I.hok.fresh hC,fun y c e=>I.freeC y c (S.sub y c e),fun p hp=>?_,I.hok.kept hk,?_⟩
  · have e1':N[i]?=some y:=e1;rw [S.N0] at e1'
    match i,e1',e2 with
    | 0,_,e2=>exact absurd (show (some (none:Option V))=some (some v) from e2) (by simp)
    | 1,_,e2=>exact absurd (show (some (none:Option V))=some (some v) from e2) (by simp)
    | j+2,e1',e2 =>
      have e1'':(fr.map fun j=>X.N.getD j x)[j]?=some y:=e1';have e2':(aY fr σ)[j]?=some (some v):=e2;unfold aY at e2';rw [List.getElem?_map] at e1'' e2';cases q:fr[j]? with
      | none=>rw [q] at e1'';cases e1''
      | some k =>
        rw [q] at e1'' e2';have ey:X.N.getD k x=y:=Option.some.inj e1'';have ev:(σ[k]?).join=some v:=Option.some.inj e2';obtain ⟨y',hy,hkind,hvis⟩:=S.frc k (List.mem_of_getElem? q);have eyy:y=y':=by
          rw [<- ey,List.getD_eq_getElem?_getD,hy];rfl
        subst eyy;have ev':σ[k]?=some (some v):=by
          cases z:σ[k]? with
          | none=>rw [z] at ev;cases ev
          | some o =>
            rw [z] at ev;have ev2:o=some v:=ev;rw [ev2]
        obtain ⟨m,_,hl⟩:=I.loc;obtain ⟨u,r,l⟩:=hl k y v hy ev' (.inr (.inl hkind));refine ⟨u,r,.inr ⟨hvis,?_⟩⟩;rcases l with ⟨z,_⟩ | ⟨_,c,hc,o,ho,hd⟩
        · rw [hkind] at z;cases z
        · obtain ⟨c',hc'⟩:=S.has y hvis;have z:=S.sub y c' hc';rw [hc] at z;cases z;exact ⟨c,hc',o,hk c o ho,hd⟩
  · obtain ⟨v,o,ho,hd⟩:=I.cell y c (S.sub y c e);exact ⟨v,o,hk c o ho,hd⟩
  · have hp':p∈X.pn++pins:=by
      have z:p∈(X.pn++pins)++[]:=hp;simpa using z
    obtain ⟨e,n,ne,nf,d⟩:=I.pin p hp';exact ⟨hk _ _ e,n,Nat.ne_of_lt (Nat.lt_of_lt_of_le (Heap.lt_size e) hC),nostk I ne nf,d⟩
  · show (none::none::aY fr σ).length=N.length;rw [S.N0];simp [aY]
end
@[irreducible] def ac2 (K:PySem.W.Frag) (wi:TI) (fr:List Nat) (tc:TT) (te:TE):TE:=fun σ H Q=>wi σ H fun J H1=>∃ W:Nat->Nat->List V->Hp->Prop,(∃ m,W 0 m [] H1)/\∀ i m xs H,W i m xs H->xs.length<=1000000 /\
  ((J.stop i H/\∀ p,H p=none->Q (.ref p) (upd H p (.lst xs))) \/
   (J.go i H/\∀ v H',J.yld i H v H'->∃ p y y2,v=.ref p/\dF K H' p [y,y2]/\tc (some y::some y2::aY fr σ) H' fun b H2=>if b=true then te (some y::some y2::aY fr σ) H2 (fun z H3=>∃ m',m' < m/\W (i+1) m' (xs++[z]) H3) else ∃ m',m' < m/\W (i+1) m' xs H2))
section
variable {X:Cx} {sc:Scope} {cl:List (Str×Addr)} {x y0:Str} {fr:List Nat} {N:List Str} {elt iter:Expr} {px py tp pos:Pos} {tk:Nat} {ifs:List Expr} {wi:TI} {tc:TT} {te:TE}
theorem agR (hc:X.calm=true) (hx:∀ e s,¬ X.xe e s) (S:j0 X sc cl x y0 fr N)
    (hb:∀ C s H ex pn,PTs (bT X sc cl C N s H ex pn) ifs tc/\PE (bT X sc cl C N s H ex pn) elt te)
    {pins:List (Addr×Obj)} {σ:St} {H:Hp} {s:Shared} {it:Addr} {fp:List Addr} {tn:Nat->Heap->Prop} {J:It} {Q:VK} {RR:Value->Addr->Result->Shared->Prop} {E:Value->Shared->Prop}
    (I:Inv X pins σ H s) (T:Turn X.prog X.w X.K (.Tuple [.Name x px,.Name y0 py] tk tp) J fp it tn) (st:tn 0 s.heap) (hf:∀ b∈fp,mR X pins H b)
    {W:Nat->Nat->List V->Hp->Prop} {m0:Nat} (w0:W 0 m0 [] H)
    (turn:∀ i m xs H,W i m xs H->xs.length<=1000000 /\
      ((J.stop i H/\∀ p,H p=none->Q (.ref p) (upd H p (.lst xs))) \/
       (J.go i H/\∀ v H',J.yld i H v H'->∃ p y y2,v=.ref p/\dF X.K H' p [y,y2]/\tc (some y::some y2::aY fr σ) H' fun b H2=>if b=true then te (some y::some y2::aY fr σ) H2 (fun z H3=>∃ m',m' < m/\W (i+1) m' (xs++[z]) H3) else ∃ m',m' < m/\W (i+1) m' xs H2)))
    (fin:∀(D C:Addr) (s':Shared) (m':Str->Option Value) (H':Hp),s'.heap.Ns C m'->mR X pins H' C->(∀ h',Heap.SameBut C s'.heap h'->Inv X pins σ H' {s' with heap:=h'})->Q (.ref D) H'->RR (.ref D) C (.ok .next) s') :
    wpAny (model X.prog X.w) X.A (newList []) (fun acc s₃=>wpAny (model X.prog X.w) X.A (newFunctionEnv sc X.env.globals cl [] X.env.qual none .none (some X.env)) (fun cenv s₄ =>
      codeAny (model X.prog X.w) X.A (.compStart (.ListComp elt [⟨.Tuple [.Name x px,.Name y0 py] tk tp,iter,ifs,0⟩] sc pos) 0 (.ref it) acc {cenv with scope:=relabel sc X.env}) (RR acc cenv.locals) s₄) E s₃) E s:=by
  refine wpAny_newObj_type (wpAny_newFunctionEnv S.nocell (by intro y hy;simp at hy) (fun h₁ hns₁ hsb₁=>?_) S.kind);dsimp only at hns₁ hsb₁ ⊢;generalize hH2:s.heap.push {cls:=.type "list",dict:=none,data:=.seq ([]:List Value).toArray}=G2 at hns₁ hsb₁ ⊢;have hCs:G2.objs.size=s.heap.objs.size+1:=by rw [<- hH2,Heap.size_push]
  have hDC:s.heap.objs.size≠G2.objs.size:=by rw [hCs];exact Nat.ne_of_lt (Nat.lt_succ_self _)
  have hC:s.heap.objs.size<=G2.objs.size:=by rw [hCs];exact Nat.le_succ _
  have below:∀ b,b < s.heap.objs.size->b≠G2.objs.size:=fun b hb=>by rw [hCs];exact Nat.ne_of_lt (Nat.lt_succ_of_lt hb)
  have old:∀ b o,s.heap.get? b=some o->h₁.get? b=some o:=fun b o e=>hsb₁.extBut b o (below b (Heap.lt_size e)) (Heap.get?_push_of_some _ (hH2 ▸ Heap.get?_push_of_some _ e));have hD1:h₁.get? s.heap.objs.size=some {cls:=.type "list",data:=.seq ([]:List Value).toArray 0}:=hsb₁.extBut _ _ hDC (Heap.get?_push_of_some _ (hH2 ▸ Heap.get?_push_size _ rfl));have hfo:∀ b∈fp,b < s.heap.objs.size:=fun b hbm=>by
    obtain ⟨o,e,_⟩:=T.obj 0 s.heap st b hbm;exact Heap.lt_size e
  have hDn:H s.heap.objs.size=none:=I.hok.fresh (Nat.le_refl _)
  -- what stays true of the made list's place
  have Dstk:s.heap.objs.size∉frs X.stack:=fun hm=>by
    rcases List.mem_cons.mp (I.stkSub _ hm) with z | z
    · exact absurd I.lt (by rw [<- z];exact Nat.lt_irrefl _)
    · exact I.nofs (Nat.le_refl _) z
  have Dcell:∀ y c,cl.lookup y=some c->c≠s.heap.objs.size:=fun y c e z=>by
    obtain ⟨v,q⟩:=I.cell y c (S.sub y c e);exact absurd q.lt (by rw [z];exact Nat.lt_irrefl _)
  have Dpin:∀ p∈X.pn++pins,p.1≠s.heap.objs.size:=fun p hp z=>absurd (Heap.lt_size (I.pin p hp).1) (by rw [z];exact Nat.lt_irrefl _);have Dfp:s.heap.objs.size∉fp:=fun hm=>Nat.lt_irrefl _ (hfo _ hm);have loop:∀ s₃:Shared,s₃={s with heap:=h₁,toks:=s.toks+([]:List (Str×Value)).length} ->
      codeAny (model X.prog X.w) X.A (.compLoop (.ListComp elt [⟨.Tuple [.Name x px,.Name y0 py] tk tp,iter,ifs,0⟩] sc pos) 0 (.ref it) (.ref s.heap.objs.size) (compEnvC sc cl G2.objs.size X.env)) (RR (.ref s.heap.objs.size) G2.objs.size) s₃:=by
    rintro s₃ rfl;have I0:Inv (bT X sc cl G2.objs.size N s H fp (X.pn++pins)) [] (none::none::aY fr σ) H {s with heap:=h₁,toks:=s.toks+([]:List (Str×Value)).length}:=al1 I S hf hfo hC hns₁ old;refine vD (fun n s'=>∃(i:Nat) (xs:List V) (vals:List Value) (k:Nat) (v0 v1:Option V) (H':Hp),Inv (bT X sc cl G2.objs.size N s H fp (X.pn++pins)) [] (v0::v1::aY fr σ) H' s'/\tn i s'.heap/\(∀ b∈fp,H' b=none) /\
      s'.heap.get? s.heap.objs.size=some {cls:=.type "list",data:=.seq vals.toArray k}/\Vals xs vals/\H' s.heap.objs.size=none/\W i n xs H') ?_ m0
      ⟨0,[],[],0,none,none,H,I0,T.keep _ _ _ st fun b _ o e=>old b o e,fun b hb=>(hf b hb).1,hD1,.nil,hDn,w0⟩
    rintro n s1 ⟨i,xs,vals,k,v0,v1,H1,I1,st1,fr1,hg1,rv1,hD1',w1⟩;have hlen:=rv1.length;obtain ⟨hz,step⟩:=turn i n xs H1 w1;have hz2:xs.length<=sizeLine:=Nat.le_trans hz (by decide);have stat:∀ {H':Hp} {pl:List (Addr×Obj)},(∀ b∈fp,H' b=none)->(∀ p∈pl,p.1=s.heap.objs.size)->∀ b∈fp,mR (bT X sc cl G2.objs.size N s H fp (X.pn++pins)) pl H' b:=fun {H' pl} hn hpl b hb =>
      ⟨hn b hb,below b (hfo b hb),nostk I (hf b hb).2.1 (hf b hb).2.2.1,.inl hb,fun y c e=>(hf b hb).2.2.2.2.1 y c (S.sub y c e),fun p hp z=>by
        rcases List.mem_append.mp hp with q | q
        · exact (hf b hb).2.2.2.2.2 p q z
        · exact Dfp (by rw [<- hpl p q,z];exact hb)⟩
    have I1':Inv (bT X sc cl G2.objs.size N s H fp (X.pn++pins)) [(s.heap.objs.size,{cls:=.type "list",data:=.seq vals.toArray k})] (v0::v1::aY fr σ) H1 s1:=I1.pins_of fun p hp=>by
      have e:p=(s.heap.objs.size,{cls:=.type "list",data:=.seq vals.toArray k}):=by simpa using hp
      subst e;exact ⟨hg1,hD1',hDC,Dstk,fun v z=>by cases z⟩
    rcases step with ⟨stop,hq⟩ | ⟨go,step⟩
    · refine thn (T.done (bT X sc cl G2.objs.size N s H fp (X.pn++pins)) rfl rfl rfl hc i [(s.heap.objs.size,{cls:=.type "list",data:=.seq vals.toArray k})] s1 _ H1 _ I1' (stat fr1 fun p hp=>by
        have e:p=(s.heap.objs.size,{cls:=.type "list",data:=.seq vals.toArray k}):=by simpa using hp
        rw [e]) st1 stop) fun r s2 ⟨hr,I2⟩=>?_
      subst hr;obtain ⟨g2,n2,_⟩:=I2.pin (s.heap.objs.size,{cls:=.type "list",data:=.seq vals.toArray k}) (List.mem_append_right _ (by simp));obtain ⟨m2,hn2,_⟩:=I2.loc;have hCn:upd H1 s.heap.objs.size (.lst xs) G2.objs.size=none:=by
        rw [aI (Ne.symm hDC)];exact I2.free
      exact fin s.heap.objs.size G2.objs.size s2 m2 _ hn2 (I.fpOk hC hCn) (fun h' hs'=>agO I hf I2 hC (Nat.le_refl _) hDC n2 g2 rv1 hz2 hs') (hq _ n2)
    · refine thn (T.item (bT X sc cl G2.objs.size N s H fp (X.pn++pins)) rfl rfl rfl hc i [(s.heap.objs.size,{cls:=.type "list",data:=.seq vals.toArray k})] s1 _ H1 _ I1' (stat fr1 fun p hp=>by
        have e:p=(s.heap.objs.size,{cls:=.type "list",data:=.seq vals.toArray k}):=by simpa using hp
        rw [e]) st1 go) fun r s2 ⟨u,hr,h2⟩=>?_
      subst hr;refine thn h2 fun _ s3 ⟨vv,H3,I3,r3,y3,st3,fr3⟩=>?_;have I3':=I3.pinned (stat fr3 fun p hp=>by
        have e:p=(s.heap.objs.size,{cls:=.type "list",data:=.seq vals.toArray k}):=by simpa using hp
        rw [e]) (T.obj _ _ st3)
      -- what the pins say again behind each part
      have back:∀ {σ9:St} {H9:Hp} {s9:Shared},Inv (bT X sc cl G2.objs.size N s H fp (X.pn++pins)) ([(s.heap.objs.size,{cls:=.type "list",data:=.seq vals.toArray k})]++uO fp s3.heap) σ9 H9 s9 ->
          tn (i+1) s9.heap/\(∀ b∈fp,H9 b=none)/\s9.heap.get? s.heap.objs.size=some {cls:=.type "list",data:=.seq vals.toArray k}/\H9 s.heap.objs.size=none:=fun {σ9 H9 s9} I9=>by
        refine ⟨T.keep _ _ _ st3 fun b hb o e=>(I9.pin (b,o) (List.mem_append_right _ (List.mem_append_right _ (gK hb e)))).1,fun b hb=>?_,?_⟩
        · obtain ⟨o,e,d⟩:=T.obj _ _ st3 b hb;exact (I9.pin (b,o) (List.mem_append_right _ (List.mem_append_right _ (gK hb e)))).2.1
        · obtain ⟨a1,a2,_⟩:=I9.pin (s.heap.objs.size,{cls:=.type "list",data:=.seq vals.toArray k}) (List.mem_append_right _ (List.mem_append_left _ (by simp)));exact ⟨a1,a2⟩
      have hN0:(bT X sc cl G2.objs.size N s H fp (X.pn++pins)).N[0]?=some x:=by
        show N[0]?=some x;rw [S.N0];rfl
      have hN1:(bT X sc cl G2.objs.size N s H fp (X.pn++pins)).N[1]?=some y0:=by
        show N[1]?=some y0;rw [S.N0];rfl
      have hloc:(relabel sc X.env).names.lookup x=some .local:=lookup_relabel_local S.tgt;have hloc2:(relabel sc X.env).names.lookup y0=some .local:=lookup_relabel_local S.tgt2;have hpg:PG (bT X sc cl G2.objs.size N s H fp (X.pn++pins)) (.Tuple [.Name x px,.Name y0 py] tk tp) (aqW X.K 2 (ajU (rE 0) (ajU (rE 1) as4))):=yC hc (dD (c7 (i:=0) S.nd hN0 (.inl hloc) (.inr hloc)) (dD (c7 (i:=1) S.nd hN1 (.inl hloc2) (.inr hloc2)) rK));have noX:∀ e s',(bT X sc cl G2.objs.size N s H fp (X.pn++pins)).xe e s'->vM X.prog X.w X.A (compEnvC sc cl G2.objs.size X.env) (RR (.ref s.heap.objs.size) G2.objs.size) e s':=fun e s' z=>(hx e s' z).elim;obtain ⟨pp,y,y2,rfl,hpp,hstep⟩:=step vv H3 y3;refine wpAny_mono (hpg _ s3 _ H3 (.ref pp) u (fun σ' H'=>σ'=some y::some y2::aY fr σ/\H'=H3) I3' r3 ⟨pp,[y,y2],rfl,hpp,rfl,_,_,rfl,_,_,rfl,rfl,rfl,rfl⟩) (fun _ s4 ⟨σ4,H4,I4,e4,e4'⟩=>?_) noX;subst e4 e4';obtain ⟨hbT,hbE⟩:=hb G2.objs.size s H fp (X.pn++pins);refine wpAny_mono (hbT _ s4 _ H4 _ I4 hstep) (fun ok s5 ⟨H5,I5,q5⟩=>?_) noX;cases ok with
      | false =>
        rw [if_neg Bool.false_ne_true];have q5':∃ m',m' < n/\W (i+1) m' xs H5:=q5;obtain ⟨m',hm,w5⟩:=q5';obtain ⟨b1,b2,b3,b4⟩:=back I5;exact ⟨m',hm,i+1,xs,vals,k,some y,some y2,H5,I5.pins_of (fun p hp=>absurd hp (by simp)),b1,b2,b3,rv1,b4,w5⟩
      | true =>
        rw [if_pos rfl];refine wpAny_mono (hbE _ s5 _ H5 _ I5 q5) (fun z s6 ⟨v6,H6,I6,r6,q6⟩=>?_) noX;obtain ⟨m',hm,w6⟩:=q6;obtain ⟨b1,b2,b3,b4⟩:=back I6;refine call_meets F.slot_list_append ⟨_,b3,rfl⟩ F.entry_list_append (F.args_list_append_2 _ _) (PySem.list_append s.heap.objs.size vals.toArray k z (by rw [List.size_toArray];omega)) ⟨b3,?_⟩;have q7:=PySem.IsL.update b3 (fun a:Array Value=>a.push z);have hpush:vals.toArray.push z=(vals++[z]).toArray:=by simp
        rw [hpush] at q7;have I6':Inv (bT X sc cl G2.objs.size N s H fp (X.pn++pins)) [] (some y::some y2::aY fr σ) H6 s6:=I6.pins_of (fun p hp=>absurd hp (by simp));have others:∀ b o,b≠s.heap.objs.size->s6.heap.get? b=some o->(s6.heap.update s.heap.objs.size (Obj.mapSeq fun a=>a.push z)).get? b=some o:=fun b o hb' e=>(Heap.get?_update_other _ _ (Ne.symm hb')).trans e;refine ⟨m',hm,i+1,xs++[v6],vals++[z],_,some y,some y2,H6,I6'.turned (it:=s.heap.objs.size) others b4 hDC (.inr (Nat.le_refl _)) Dcell (fun p hp z'=>?_),T.keep _ _ _ b1 fun b hb' o e=>others b o (fun z'=>Dfp (by rw [<- z'];exact hb')) e,b2,q7,rv1.append (.cons r6 .nil),b4,w6⟩;have hp':p∈X.pn++pins:=by
          have z2:p∈(X.pn++pins)++[]:=hp;simpa using z2
        exact Dpin p hp' z'
  exact codeAny_compStart_list (loop _ rfl) (T.self _ _ _ _ _ (T.keep _ _ _ st fun b _ o e=>old b o e) (loop _ rfl))
theorem aeV (hc:X.calm=true) (hx:∀ e s,¬ X.xe e s) (S:j0 X sc cl x y0 fr N) (hi:PI X (.Tuple [.Name x px,.Name y0 py] tk tp) iter wi)
    (hb:∀ C s H ex pn,PTs (bT X sc cl C N s H ex pn) ifs tc/\PE (bT X sc cl C N s H ex pn) elt te)
    (hs:∀ v,foldedSetIterable iter X.env v=pure v:=by intro _;rfl):PE X (.ListComp elt [⟨.Tuple [.Name x px,.Name y0 py] tk tp,iter,ifs,0⟩] sc pos) (ac2 X.K wi fr tc te):=by
  intro pins s σ H Q I h;unfold ac2 at h;rw [eval_ListComp];refine wpAny_comprehension_free (use:=none) rfl hs S.clos S.kind S.names ?_;refine thn (hi pins s σ H _ I h) fun v s1 h1=>thn h1 fun itv s2 h2=>?_;obtain ⟨it,fp,tn,J,H2,e,I2,T,st2,f2,W,⟨m0,w0⟩,turn⟩:=h2;subst e;refine agR (RR:=fun acc C=>compPost (model X.prog X.w) X.A X.xe none (EP X pins σ Q) acc C) hc hx S hb I2 T st2 f2 w0 turn ?_;intro D C s' m' H' hn _ hfin q;exact ⟨m',hn,fun h' hs'=>⟨.ref D,H',hfin h' hs',rfl,q⟩⟩
end
theorem j0.of {X:Cx} {sc:Scope} {cl:List (Str×Addr)} {x y0:Str} {fr:List Nat} {N M:List Str} (S:cO X sc cl x fr M) (tgt2:sc.names.lookup y0=some .local) (nd:N.Nodup) (N0:N=x::y0::fr.map fun j=>X.N.getD j x):j0 X sc cl x y0 fr N :=
 ⟨S.kind,S.nocell,S.names,S.clos,S.sub,S.has,S.tgt,tgt2,nd,N0,S.frc⟩
noncomputable def lc2 (K:PySem.W.Frag) (J:It) (fr:List Nat) (tc:TT) (te:TE) (σ:St) (H:Hp) (Q:VK):Prop:=∃ W:Nat->Nat->List V->Hp->Prop,(∃ m,W 0 m [] H)/\∀ i m xs H,W i m xs H->xs.length<=1000000 /\
  ((J.stop i H/\∀ p,H p=none->Q (.ref p) (upd H p (.lst xs))) \/
   (J.go i H/\∀ v H',J.yld i H v H'->∃ p y y2,v=.ref p/\dF K H' p [y,y2]/\tc (some y::some y2::aY fr σ) H' fun b H2=>if b=true then te (some y::some y2::aY fr σ) H2 (fun z H3=>∃ m',m' < m/\W (i+1) m' (xs++[z]) H3) else ∃ m',m' < m/\W (i+1) m' xs H2))
section
variable {fr:List Nat} {tc:TT} {te:TE} {σ:St} {H:Hp} {Q:VK} {as:TA} {K:PySem.W.Frag}
end
end L2
namespace L2
open PySem PySem.Spec PyProof.Rows
section
variable {X:Cx}
variable {o:Expr} {to:TE} {apos cpos:Pos}
end
section
variable {H:Hp} {Q:VK} {p:Addr} {σ:St} {to:TE} {vs:List V}
end
end L2
namespace L2
open PySem PySem.Spec PyProof.Rows
section
variable {X:Cx}
end
section
variable {K:PySem.W.Frag} {H:Hp} {Q:VK} {p a b:Addr}
end
section
variable {X:Cx} {sc:Scope} {cl:List (Str×Addr)} {x y0:Str} {fr:List Nat} {N:List Str} {elt iter:Expr} {px px0 tp pos:Pos} {tk:Nat} {ifs:List Expr} {wi:TI} {tc:TT} {te:TE}
end
end L2
namespace L2
open PySem PySem.Spec PyProof.Rows
section
variable {a b:TS} {D:Ends} {σ:St} {H:Hp}
theorem aF (h:∀ R:St->Hp->Prop,(∀ σ' H',b D σ' H'->R σ' H')->a {D with nx:=R} σ H):ar1 a b D σ H:=h (b D) fun _ _ x=>x
end
end L2
namespace L2
open PySem PySem.Spec PyProof.Rows
section
variable {td ty tv:TE} {trs:List (TE×TE)} {tk:TE} {σ:St} {H:Hp} {Q:VK} {D:Ends}
end
end L2
namespace L2
open PySem PySem.Spec PyProof.Rows
section
variable {P:Program} {W:World} {A:Around} {E:Value->Shared->Prop} {s:Shared} {dd it:Addr} {es:Array DictEntry} {ep i:Nat}
end
section
open PySem.W
variable {n:Nat} {p:Array Nat}
end
section
open PySem.W
variable {P:Program} {W:World} {A:Around} {E:Value->Shared->Prop} {s:Shared}
end
end L2
namespace L2
open PySem PySem.Spec PyProof.Rows
section
variable {P:Program} {W:World} {A:Around} {E:Value->Shared->Prop} {s:Shared} {a b:Addr} {es fs:Array DictEntry} {ep fp:Nat}
end
section
variable {X:Cx} {tg:Expr}
end
section
variable {σ:St} {H:Hp} {D:Ends} {g:TG} {tb:TS} {as:TA} {Q:VK} {a b:Addr} {p:Addr}
end
end L2
namespace L2
open PySem PySem.Spec PyProof.Rows
section
variable {H:Hp} {Q:VK} {x:V} {p:Addr} {i:Int} {z:Str}
end
end L2
namespace L2
open PySem PySem.Spec PyProof.Rows
section
variable {X:Cx} {a b:Expr} {rest:List Expr} {pos:Pos} {ta tb:TE}
end
noncomputable def aBV (x:V) (k:Int->Prop) (_u:Tg k:=()):Prop:=match x with
 | .non=>k 0
 | .int i=>k i
 | _=>False
section
variable {X:Cx}
end
theorem aqB:fillsNumberSlot (.type "tuple") "mul"=pure false:=PySem.fillsNumberSlot_seq (r:=some (.builtin "tuple.__rmul__")) PySem.F.slot_tuple_mul.lookup (by decide +kernel) PySem.F.slot_tuple_rmul.lookup (by decide +kernel)
theorem aqM:seqRepeat? (.type "tuple")=pure (some (.builtin "tuple.__mul__")):=by
 have h1:=PySem.seqSlot_of (T:="tuple") (name:="__mul__") PySem.F.slot_tuple_mul.lookup (by decide +kernel);have h2:=PySem.seqSlot_of (T:="tuple") (name:="__rmul__") PySem.F.slot_tuple_rmul.lookup (by decide +kernel);unfold seqRepeat?;rw [h1,h2];rfl
theorem ap1 (a:Int) (t:Tok) (l:Addr) (dd:Option Addr) (its:Array Value) (n:Nat) (sl:Array (Option Value)):Meets (Builtin.«int.__rmul__» ⟨[.int a t,.ref l],[]⟩) (fun _ R s=>s.heap.get? l=some ⟨.type "tuple",dd,.seq its n,sl⟩/\R (.ok (.ret Value.notImplemented)) s) :=
 .of_wp fun prog w A R s h=>by
  obtain ⟨hp,g,d,tk,os⟩:=s;obtain ⟨hl,h⟩:=h;wp_walk;exact ⟨_,rfl,h⟩
theorem am2 (l:Addr) (dd:Option Addr) (its:Array Value) (n:Nat) (sl:Array (Option Value)) (t:Tok):Meets (Builtin.«tuple.__mul__» ⟨[.ref l,.int 1 t],[]⟩) (fun _ R s=>s.heap.get? l=some ⟨.type "tuple",dd,.seq its n,sl⟩/\R (.ok (.ret (.ref l))) s) :=
 .of_wp fun prog w A R s h=>by
  obtain ⟨hp,g,d,tk,os⟩:=s;obtain ⟨hl,h⟩:=h;have f1:=AutoSeq1.idx_int;wp_walk using wpAny_loadPart' hl;exact ⟨_,rfl,h⟩
theorem apD (l:Addr) (dd:Option Addr) (its:Array Value) (n:Nat) (sl:Array (Option Value)) (t:Tok) (hc:¬ its.isEmpty=true):Meets (Builtin.«tuple.__mul__» ⟨[.ref l,.int 0 t],[]⟩) (fun _ R s=>s.heap.get? l=some ⟨.type "tuple",dd,.seq its n,sl⟩/\R (.ok (.ret (.ref s.heap.objs.size))) {s with heap:=s.heap.push {cls:=.type "tuple",data:=.seq #[]}}) :=
 .of_wp fun prog w A R s h=>by
  obtain ⟨hp,g,d,tk,os⟩:=s;obtain ⟨hl,h⟩:=h;have f1:=AutoSeq1.idx_int;wp_walk using wpAny_loadPart' hl;exact ⟨_,rfl,h⟩
noncomputable def at6:R2:=fun x y H Q=>bF x fun a=>fP y fun k=>qZ (H a) fun xs=>xs≠[]/\((k=1/\Q x H)\/(k=0/\∀ p,H p=none->Q (.ref p) (upd H p (.tup []))))
section
variable {X:Cx}
theorem asN:jZ X (binaryOp .Mult) at6:=fun pins s σ H x y v u Q I rx ry h=>by
 obtain ⟨a,rfl,h1⟩:=aT h;obtain ⟨k,rfl,h2⟩:=dS h1;obtain ⟨xs,e1,hx,h3⟩:=aaC h2;cases rx;obtain ⟨t,rfl⟩:=ry;obtain ⟨its,r1,p1,z1⟩:=I.tuple (.inl (.inl e1));have l1:its≠[]:=fun z=>hx (r1.nil_iff.mp z);obtain ⟨⟨c1,d1,t1,o1⟩,ho,rfl,n,rfl⟩:=p1;refine wpAny_binaryOp_repeat_ref (T:="tuple") (U:="int") (by decide) ⟨_,ho,rfl⟩ (fun s'=>typeIs_int s' k t) aqB PySem.F.fills_int_mul PySem.F.slot_int_rmul aqM PySem.F.slot_int_index.lookup
  (call_meets PySem.F.slot_int_rmul (typeIs_int s k t) PySem.F.entry_int_rmul (PySem.F.args_int_rmul_2 _ _) (ap1 k t a d1 its.toArray n o1) ⟨ho,rfl,⟨_,ho,rfl⟩,?_⟩)
 rcases h3 with ⟨rfl,q⟩ | ⟨rfl,q⟩
 ·exact call_meets PySem.F.slot_tuple_mul ⟨_,ho,rfl⟩ PySem.F.entry_tuple_mul (PySem.F.args_tuple_mul_2 _ _) (am2 a d1 its.toArray n o1 t) ⟨ho,.ref a,H,I,rfl,q⟩
 ·refine call_meets PySem.F.slot_tuple_mul ⟨_,ho,rfl⟩ PySem.F.entry_tuple_mul (PySem.F.args_tuple_mul_2 _ _) (apD a d1 its.toArray n o1 t (by simpa using l1)) ⟨ho,?_⟩;have I2:Inv X pins σ (upd H s.heap.objs.size (.tup [])) {s with heap:=s.heap.push {cls:=.type "tuple",data:=.seq #[]}} :=
   I.laid (t':=s.toks) (fun b o e=>Heap.get?_push_of_some _ e) (Nat.le_refl _) (show dM X.prog X.w _ _ _ (.tup []) from ⟨Nat.zero_le _,[],.nil,IsTup.new _ _⟩)
  exact ⟨.ref s.heap.objs.size,_,I2,rfl,q _ (I.hok.fresh (Nat.le_refl _))⟩
end
section
variable {σ:St} {H:Hp} {Q:VK} {ta tb:TE} {l a:Addr} {i:Int}
theorem avZ:at6 (.ref a) (.int i) H Q=qZ (H a) fun xs=>xs≠[]/\((i=1/\Q (.ref a) H)\/(i=0/\∀ p,H p=none->Q (.ref p) (upd H p (.tup [])))):=rfl
end
end L2
namespace L2
open PySem PySem.Spec PyProof.Rows
noncomputable def Rising (l:List Nat):Prop:=l.Pairwise (· < ·)
theorem xC (xs:Array Nat) (j:Nat) (hr:Rising xs.toList):∀(fuel lo hi:Nat),hi - lo<=fuel->lo<=hi->hi<=xs.size ->
    (∀ i (h:i < xs.size),i < lo->xs[i] < j)->(∀ i (h:i < xs.size),hi<=i->j<=xs[i]) ->
    (∀ i (h:i < xs.size),i < SetTable.below.go xs j fuel lo hi->xs[i] < j)/\(∀ i (h:i < xs.size),SetTable.below.go xs j fuel lo hi<=i->j<=xs[i])/\SetTable.below.go xs j fuel lo hi<=xs.size
  | 0,lo,hi,hf,hl,hh,h1,h2=>by
    have:lo=hi:=by omega
    subst this;exact ⟨h1,h2,hh⟩
  | fuel+1,lo,hi,hf,hl,hh,h1,h2=>by
    have mono:∀ i k (hi:i < xs.size) (hk:k < xs.size),i < k->xs[i] < xs[k]:=fun i k hi hk hik=>by
      have:=List.pairwise_iff_getElem.mp hr i k (by simpa using hi) (by simpa using hk) hik;simpa using this
    unfold SetTable.below.go;by_cases c:lo < hi
    · rw [if_pos c];have hm:(lo+hi) / 2 < xs.size:=by omega
      have em:xs.getD ((lo+hi) / 2) j=xs[(lo+hi) / 2]:=by simp [Array.getD,hm]
      simp only [em];by_cases d:xs[(lo+hi) / 2] < j
      · rw [if_pos d];refine xC xs j hr fuel _ hi (by omega) (by omega) hh (fun i h hlt=>?_) h2;by_cases e:i=(lo+hi) / 2
        · subst e;exact d
        · exact Nat.lt_trans (mono i _ h hm (by omega)) d
      · rw [if_neg d];refine xC xs j hr fuel lo _ (by omega) (by omega) (by omega) h1 (fun i h hle=>?_);by_cases e:i=(lo+hi) / 2
        · subst e;omega
        · have:=mono _ i hm h (by omega);omega
    · rw [if_neg c];have:lo=hi:=by omega
      subst this;exact ⟨h1,h2,hh⟩
theorem qM (xs:Array Nat) (j:Nat) (hr:Rising xs.toList):(∀ i (h:i < xs.size),i < SetTable.below xs j->xs[i] < j)/\(∀ i (h:i < xs.size),SetTable.below xs j<=i->j<=xs[i])/\SetTable.below xs j<=xs.size :=
 xC xs j hr xs.size 0 xs.size (by omega) (by omega) (Nat.le_refl _) (fun i h hlt=>absurd hlt (by omega)) (fun i h hle=>absurd h (by omega))
theorem abI {xs:Array Nat} {j:Nat} (hr:Rising xs.toList) (hn:¬ xs[SetTable.below xs j]?=some j):Rising (SetTable.insertAt xs (SetTable.below xs j) j).toList:=by
 obtain ⟨h1,h2,h3⟩:=qM xs j hr;rw [SetTable.toList_insertAt];generalize hb:SetTable.below xs j=b at *;unfold Rising at *;have split:=List.pairwise_append.mp (show (xs.toList.take b++xs.toList.drop b).Pairwise (· < ·) by rw [List.take_append_drop];exact hr);have lt:∀ x∈xs.toList.take b,x < j:=fun x hx=>by
  obtain ⟨i,hi,rfl⟩:=List.mem_iff_getElem.mp hx;have hi':i < b/\i < xs.size:=by simpa [Nat.lt_min] using hi
  have:=h1 i hi'.2 hi'.1;simpa using this
 have gt:∀ x∈xs.toList.drop b,j < x:=fun x hx=>by
  obtain ⟨i,hi,rfl⟩:=List.mem_iff_getElem.mp hx;have hi':b+i < xs.size:=by simp at hi;omega
  have hle:=h2 (b+i) hi' (by omega);have hne:xs[b+i]≠j:=fun e=>by
   by_cases hz:i=0
   ·subst hz;exact hn (by rw [Array.getElem?_eq_getElem (by simpa using hi')];simpa using e)
   ·have hb':b < xs.size:=by omega
    have h0:=h2 b hb' (Nat.le_refl _);have:=List.pairwise_iff_getElem.mp hr b (b+i) (by simpa using hb') (by simpa using hi') (by omega);simp at this;omega
  have:xs.toList.drop b=xs.toList.drop b:=rfl;simp only [List.getElem_drop,Array.getElem_toList];omega
 refine List.pairwise_append.mpr ⟨split.1,List.pairwise_cons.mpr ⟨gt,split.2.1⟩,fun x hx y hy=>?_⟩;rcases List.mem_cons.mp hy with rfl | hy
 ·exact lt x hx
 ·exact split.2.2 x hx y hy
theorem wV {α:Type}:∀ {l:List α} {i:Nat} (h:i < l.length),(l[i]::l.eraseIdx i).Perm l
 | a::l,0,_=>by simp
 | a::l,i+1,h=>by
  have:=wV (l:=l) (i:=i) (by simpa using h);simp only [List.getElem_cons_succ,List.eraseIdx_cons_succ];exact (List.Perm.swap _ _ _).trans (this.cons a)
theorem akD {α:Type} (next:Nat->Nat):∀(fuel k:Nat) (left:List α) (out:Array α),fuel=left.length->∃ out':Array α,pickOrder.go next fuel k left out=out'/\out'.toList.Perm (out.toList++left)
 | 0,k,left,out,h=>by
  have:left=[]:=List.length_eq_zero_iff.mp h.symm;subst this;exact ⟨out,by simp [pickOrder.go],by simp⟩
 | fuel+1,k,left,out,h=>by
  have hp:0 < left.length:=by omega
  have hi:next k % left.length < left.length:=Nat.mod_lt _ hp;obtain ⟨o,e,p⟩:=akD next fuel (k+1) (left.eraseIdx (next k % left.length)) (out.push left[next k % left.length]) (by rw [List.length_eraseIdx_of_lt hi];omega);refine ⟨o,?_,p.trans ?_⟩
  ·rw [pickOrder.go,List.getElem?_eq_getElem hi];exact e
  ·rw [Array.toList_push,List.append_assoc];refine List.Perm.append_left _ ?_;exact wV hi
theorem akW {α:Type} (next:Nat->Nat) (xs:Array α):(pickOrder next xs).toList.Perm xs.toList:=by
 obtain ⟨o,e,p⟩:=akD next xs.size 0 xs.toList #[] (by simp);unfold pickOrder;rw [e];simpa using p
structure pG (w:World) (t:SetTable):Prop where
 rise:Rising t.place.toList
 led:w.params.followText "set-order"=true\/t.led=true
 dum:t.dummies = #[]
 msk:t.mask=7
 pln:t.plain=true
theorem afB (j:Nat):SetTable.has #[] j=false:=by simp [SetTable.has]
theorem aiO {t:SetTable} {j:Nat} (h:t.slot j=.empty):¬ t.place[SetTable.below t.place j]?=some j:=fun e=>by
 unfold SetTable.slot at h;simp only [e,beq_self_eq_true,if_true] at h;cases h
theorem wS {t:SetTable} (hd:t.dummies = #[]) (j:Nat):t.slot j=.empty\/(∃ i,t.slot j=.live i/\j∈t.place.toList):=by
 unfold SetTable.slot;rw [hd,afB];by_cases h:t.place[SetTable.below t.place j]?=some j
 ·refine .inr ⟨SetTable.below t.place j,by simp only [h,beq_self_eq_true,if_true],?_⟩;rw [<- Array.getElem?_toList] at h;exact List.mem_of_getElem? h
 ·refine .inl ?_;have:(t.place[SetTable.below t.place j]? == some j)=false:=by simpa using h
  simp [this]
theorem free4 {l:List Nat} (h:l.length<=3):∃ j,j < 8/\j∉l:=by
 match l,h with
 | [],_=>exact ⟨0,by decide,by simp⟩
 | [a],_=>by_cases h0:a=0;exact ⟨1,by decide,by simp;omega⟩;exact ⟨0,by decide,by simp;omega⟩
 | [a,b],_ =>
  by_cases h0:a=0\/b=0
  ·by_cases h1:a=1\/b=1
   ·exact ⟨2,by decide,by simp;omega⟩
   ·exact ⟨1,by decide,by simp;omega⟩
  ·exact ⟨0,by decide,by simp;omega⟩
 | [a,b,c],_ =>
  by_cases h0:a=0\/b=0\/c=0
  ·by_cases h1:a=1\/b=1\/c=1
   ·by_cases h2:a=2\/b=2\/c=2
    ·exact ⟨3,by decide,by simp;omega⟩
    ·exact ⟨2,by decide,by simp;omega⟩
   ·exact ⟨1,by decide,by simp;omega⟩
  ·exact ⟨0,by decide,by simp;omega⟩
noncomputable def hop (i:Nat):Nat:=(i * 5+1) % 8
noncomputable def hops:Nat->Nat->Nat
 | 0,i=>i
 | m+1,i=>hops m (hop i)
theorem ap7:∀ i,i < 8->∀ j,j < 8->∃ m,m < 8/\hops m i=j:=by decide
section
variable {t:SetTable} (hd:t.dummies = #[]) (hm:t.mask=7) {h:Int}
noncomputable abbrev prb (i pt:Nat):SetTable.Probe:=⟨i,0,i,pt,none⟩
include hd hm
theorem adv (i pt:Nat):t.advance (prb i pt)=prb ((i * 5+1+pt / 32) % 8) (pt / 32):=by
 have:(i * 5+1+pt / 32) % 8 < 8:=Nat.mod_lt _ (by decide);simp only [SetTable.advance,SetTable.leap,hm,SetTable.runEnd];simp
 try omega
theorem aiZ (fuel i pt:Nat):(t.slot i=.empty/\SetTable.probe.go t (fun _=>h+1) h (fuel+1) (prb i pt)=some (.empty i none))\/SetTable.probe.go t (fun _=>h+1) h (fuel+1) (prb i pt)=SetTable.probe.go t (fun _=>h+1) h fuel (prb ((i * 5+1+pt / 32) % 8) (pt / 32)):=by
 rcases wS hd i with e | ⟨k,e,_⟩
 ·refine .inl ⟨e,?_⟩;unfold SetTable.probe.go;simp only [e]
 ·refine .inr ?_
  conv=>lhs;unfold SetTable.probe.go
  simp only [e];rw [if_neg (by simp;try omega),adv hd hm]
theorem aiY:∀(m fuel i:Nat),m < fuel->i < 8->t.slot (hops m i)=.empty->∃ j,t.slot j=.empty/\SetTable.probe.go t (fun _=>h+1) h fuel (prb i 0)=some (.empty j none)
 | 0,fuel+1,i,_,hi,he=>by
  refine ⟨i,he,?_⟩;have e:t.slot i=.empty:=he;unfold SetTable.probe.go;simp only [e]
 | m+1,fuel+1,i,hf,hi,he=>by
  rcases aiZ hd hm (h:=h) fuel i 0 with ⟨e,g⟩ | g
  ·exact ⟨i,e,g⟩
  ·rw [g];exact aiY m fuel _ (by omega) (Nat.mod_lt _ (by decide)) he
theorem am7 (hp:t.place.size<=3):∀(d fuel i pt:Nat),pt < 32 ^ d->d+8<=fuel->i < 8->∃ j,t.slot j=.empty/\SetTable.probe.go t (fun _=>h+1) h fuel (prb i pt)=some (.empty j none)
 | 0,fuel,i,pt,h1,h2,hi=>by
  have:pt=0:=by simpa using h1
  subst this;obtain ⟨j,hj,hn⟩:=free4 (l:=t.place.toList) (by simpa using hp);obtain ⟨m,hm',e⟩:=ap7 i hi j hj;refine aiY hd hm m fuel i (by omega) hi ?_;rw [e];rcases wS hd j with z | ⟨_,_,z⟩
  ·exact z
  ·exact absurd z hn
 | d+1,0,i,pt,h1,h2,hi=>absurd h2 (by omega)
 | d+1,fuel+1,i,pt,h1,h2,hi=>by
  rcases aiZ hd hm (h:=h) fuel i pt with ⟨e,g⟩ | g
  ·exact ⟨i,e,g⟩
  ·rw [g];exact am7 hp d fuel _ _ (by rw [Nat.pow_succ] at h1;omega) (by omega) (Nat.mod_lt _ (by decide))
theorem alK (hp:t.place.size<=3):∃ j,t.slot j=.empty/\t.freeSlot h=some (j,false):=by
 have hb:SetTable.bits h < 32 ^ 13:=by
  unfold SetTable.bits;have h1:=Int.emod_lt_of_pos h (show (0:Int) < 2 ^ 64 by decide);have h2:=Int.emod_nonneg h (show (2 ^ 64:Int)≠0 by decide);have:(32:Nat) ^ 13=36893488147419103232:=by decide
  omega
 have hs:t.probeStart h=prb (SetTable.bits h % 8) (SetTable.bits h):=by
  unfold SetTable.probeStart SetTable.runEnd;rw [hm];have:SetTable.bits h % 8 < 8:=Nat.mod_lt _ (by decide);simp
  try omega
 obtain ⟨j,e,g⟩:=am7 hd hm (h:=h) hp 13 (10 * SetTable.turns t.mask) (SetTable.bits h % 8) (SetTable.bits h) hb (by rw [hm];decide) (Nat.mod_lt _ (by decide));refine ⟨j,e,?_⟩;unfold SetTable.freeSlot SetTable.probe;rw [hs,g];rfl
end
theorem asT {w:World} {t:SetTable} (T:pG w t) (es:Array (Int×Value)) (h:Int) (x:Value) (hp:t.place.size<=3) (hf:t.place.size=es.size):pG w (layNew t es h x).2.1:=by
 obtain ⟨slot,hs,e⟩:=alK T.dum T.msk (h:=h) hp;have Tp:pG w (t.put slot).1:=by
  refine ⟨abI T.rise (aiO hs),T.led,?_,T.msk,T.pln⟩;show (if SetTable.has t.dummies slot=true then _ else t.dummies) = #[];rw [T.dum,afB];rfl
 unfold layNew;rw [e];show pG w ((t.put slot).1.orStandIn _);have h1:=(SetTable.insertAt_perm es (t.put slot).2 (h,x)).length_eq;rw [Array.length_toList,Array.length_toList,Array.size_push] at h1;have h2:(t.put slot).1.place.size=t.place.size+1:=by
  have:=(SetTable.insertAt_perm t.place (SetTable.below t.place slot) slot).length_eq;rw [Array.length_toList,Array.length_toList,Array.size_push] at this;exact this
 have fit:(t.put slot).1.fits (SetTable.insertAt es (t.put slot).2 (h,x)).size=true:=by
  unfold SetTable.fits SetTable.fill;rw [Tp.dum,h2,h1,Tp.msk,hf];simp;omega
 unfold SetTable.orStandIn;rw [if_pos fit];exact Tp
noncomputable def agM:Value->Int
 | .int i _=>i
 | _=>0
noncomputable def sS (P:Program) (w:World) (a:Addr) (ns:List Int) (h:Heap):Prop:=∃(o:Obj) (es:Array (Int×Value)) (ep:Nat) (t:SetTable),h.get? a=some o/\o.ExactSet/\o.data=.set es ep t/\ElemsOf (intKind P w) es.toList/\es.size < scanBound/\t.fits es.size=true/\pG w t/\(∀ e∈es.toList,∃ i tk,e.2=Value.int i tk)/\(es.toList.map fun e=>agM e.2).Perm ns
theorem sS.keep {P:Program} {w:World} {a:Addr} {ns:List Int} {h h':Heap} (x:sS P w a ns h) (k:∀ o,h.get? a=some o->h'.get? a=some o):sS P w a ns h':=by
 obtain ⟨o,es,ep,t,e,r⟩:=x;exact ⟨o,es,ep,t,k o e,r⟩
section
variable {P:Program} {w:World} {A:Around} {E:Value->Shared->Prop} {s:Shared}
theorem ayG {P:Program} {w:World} {i:Int} {v:Value}:(intKind P w).is i v=true↔∃ tk,v=.int i tk:=by
 constructor
 ·intro h;cases v with
  | int j tk=>exact ⟨tk,by have:Value.isInt i (.int j tk)=true:=h;simp [Value.isInt] at this;rw [this]⟩
  | _=>cases h
 ·rintro ⟨tk,rfl⟩;exact intKind_is _ _ _ _
theorem af0 {a:Addr} {o:Obj} {es:Array (Int×Value)} {ep:Nat} {t:SetTable} (ho:s.heap.get? a=some o) (hex:o.ExactSet) (hd:o.data=.set es ep t)
    {es1:Array (Int×Value)} {t2:SetTable} {ns:List Int} (hel:ElemsOf (intKind P w) es1.toList) (hb:es1.size < scanBound) (hf:t2.fits es1.size=true) (T:pG w t2) (hi:∀ e∈es1.toList,∃ i tk,e.2=Value.int i tk) (hp:(es1.toList.map fun e=>agM e.2).Perm ns) (h4:es1.size<=4)
    {wasDummy:Bool} {X:Sem (Option Bool)} {R:Option Bool->Shared->Prop} (h:∀ h',Heap.SameBut a s.heap h'->sS P w a ns h'->R (some true) {s with heap:=h'}) :
    wpAny (model P w) A (do
        storeSet a es1 t2
        if (!wasDummy && t2.tooFull)=true then X else pure (some true)) R E s:=by
  refine wpAny_bind (wpAny_storeSet_of ho hd ?_ (fits_of_scanBound hb));have full:t2.tooFull=false:=by
    have h1:t2.place.size=es1.size:=by
      have:=hf;unfold SetTable.fits at this;simp only [Bool.and_eq_true,beq_iff_eq] at this;exact this.1
    unfold SetTable.tooFull SetTable.fill;rw [T.dum,h1];have:=T.msk;simp;omega
  rw [full,Bool.and_false];simp only [Bool.false_eq_true,if_false];have hg:(s.heap.update a (Obj.putSet es1 t2)).get? a=some {o with data:=.set es1 (ep+1) t2}:=by
    have:=Heap.get?_update_self (Obj.putSet es1 t2) ho (by rw [putSet_of es1 t2 hd];rfl);rw [putSet_of es1 t2 hd] at this;exact this
  exact wpAny_pure (h _ (Heap.SameBut.update s.heap a (Obj.putSet es1 t2)) ⟨_,es1,ep+1,t2,hg,hex,rfl,hel,hb,hf,T,hi,hp⟩)
theorem ahR {a:Addr} {ns:List Int} {i:Int} {tk:Tok} {Q:Bool->Shared->Prop} (hS:sS P w a ns s.heap) (hn:ns.length<=3)
    (h:∀ h',Heap.SameBut a s.heap h'->sS P w a (if i∈ns then ns else ns++[i]) h'->∀ b,Q b {s with heap:=h'}):wpAny (model P w) A (setAddHashed a (.int i tk) ((intKind P w).hash i)) Q E s:=by
  obtain ⟨o,es,ep,t,ho,hex,hd,hel,hb,hf,T,hi,hp⟩:=hS;have hkey:(intKind P w).is i (.int i tk)=true:=intKind_is _ _ _ _;have hl:es.size=ns.length:=by have:=hp.length_eq;simpa using this
  have b1:scanBound=4096:=rfl;unfold setAddHashed setAddHashedIn;refine wpAny_holding (wpAny_bind (wpAny_setState_of ho hd hf ?_));dsimp only;rw [byScan_of (knd:=intKind P w) rfl hb hel];simp only [↓reduceIte];unfold setAddByScan;refine wpAny_bind ?_;refine wpAny_bind (wpAny_rule ?_);refine wpAny_bind (wpAny_setScan_of hkey ho hd hf hel ?_);cases hr:List.findIdx? (fun e=>(intKind P w).is i e.2) es.toList with
  | some j =>
    dsimp only;obtain ⟨hj,hpj,_⟩:=List.findIdx?_eq_some_iff_getElem.mp hr;obtain ⟨tk',et⟩:=ayG.mp hpj;have hm:i∈ns:=hp.mem_iff.mp (List.mem_map.mpr ⟨es.toList[j],List.getElem_mem hj,by rw [et];rfl⟩);rw [if_pos hm] at h;refine wpAny_pure (wpAny_pure ?_);exact h s.heap (Heap.SameBut.refl a s.heap) ⟨o,es,ep,t,ho,hex,hd,hel,hb,hf,T,hi,hp⟩ _
  | none =>
    dsimp only;have hm:i∉ns:=fun z=>by
      obtain ⟨e,he,ek⟩:=List.mem_map.mp (hp.mem_iff.mpr z);obtain ⟨k,tk',ev⟩:=hi e he;have h1:=List.findIdx?_eq_none_iff.mp hr e he;rw [ev] at ek h1;have:k=i:=ek;subst this;rw [intKind_is] at h1;cases h1
    rw [if_neg hm] at h;have hperm:=layNew_perm t es ((intKind P w).hash i) (.int i tk);have hfits:=layNew_fits t es ((intKind P w).hash i) (.int i tk);have hsz:t.place.size=es.size:=by
      have:=hf;unfold SetTable.fits at this;simp only [Bool.and_eq_true,beq_iff_eq] at this;exact this.1
    have T1:=asT T es ((intKind P w).hash i) (.int i tk) (by omega) hsz;generalize layNew t es ((intKind P w).hash i) (.int i tk)=Y at hperm hfits T1 ⊢;obtain ⟨es1,t1,wasDummy,gave⟩:=Y;dsimp only at hperm hfits T1 ⊢;rw [Array.toList_push] at hperm;have hel1:ElemsOf (intKind P w) es1.toList:=(hel.push hkey rfl).perm hperm;have sz:es1.size=es.size+1:=by
      have:=hperm.length_eq;simpa using this
    have hi1:∀ e∈es1.toList,∃ i tk,e.2=Value.int i tk:=fun e he=>by
      rcases List.mem_append.mp (hperm.mem_iff.mp he) with he | he
      · exact hi e he
      · rw [show e=_ by simpa using he];exact ⟨i,tk,rfl⟩
    have hp1:(es1.toList.map fun e=>agM e.2).Perm (ns++[i]):=by
      refine (hperm.map _).trans ?_;rw [List.map_append];exact hp.append (.refl _)
    have hgw:∀(b:Bool) {s₁:Shared} {Q':Unit->Shared->Prop},Q' () s₁->wpAny (model P w) A (match b with | true=>rule "set.scan.the-table-gave-way" | false=>pure ()) Q' E s₁:=fun b s₁ Q' hq=>by
      cases b
      · exact wpAny_pure hq
      · exact wpAny_rule hq
    refine wpAny_bind (hgw _ ?_);split
    · refine wpAny_bind ?_;rw [hashByValue_scannable 8 rfl];refine wpAny_pure ?_;simp only [plainKind,↓reduceIte];exact af0 ho hex hd hel1 (by omega) hfits T1 hi1 hp1 (by omega) fun h' hs hS'=>wpAny_pure (h h' hs hS' _)
    · refine wpAny_bind (wpAny_pure ?_);simp only [↓reduceIte];exact af0 ho hex hd hel1 (by omega) hfits T1 hi1 hp1 (by omega) fun h' hs hS'=>wpAny_pure (h h' hs hS' _)
end
noncomputable def once (val:Nat->Int):Nat->List Int
 | 0=>[]
 | i+1=>if val i∈once val i then once val i else once val i++[val i]
theorem wQ (val:Nat->Int):∀ i,(once val i).length<=i
 | 0=>Nat.le_refl _
 | i+1=>by
  have:=wQ val i;rw [once];split
  ·omega
  ·rw [List.length_append];simp;omega
section
variable {P:Program} {w:World} {A:Around} {R:Result->Shared->Prop} {it:Addr} {fp wr:List Addr} {Gs:Array GenState->Array GenState->Prop} {n:Nat} {Pi:Nat->Value->Prop} {St:Nat->Shared->Prop}
theorem afX (W:WalksS P w A.in1 it fp wr Gs n Pi St) (z:Addr) (hz:z∉fp) (val:Nat->Int) (hval:∀ i v,Pi i v->∃ t,v=.int (val i) t) (hn:n<=4) :
    ∀(k i:Nat) (s:Shared),n - i=k->i<=n->St i s->sS P w z (once val i) s.heap ->
      (∀ s',Moved (z::wr) Gs s s'->sS P w z (once val n) s'.heap->R (.ok (.ret .none)) s')->codeAny (model P w) A (.builtin "set.update.loop" ⟨[.ref z,.ref it],[]⟩) R s:=by
  have zw:z∉wr:=fun h=>hz (W.sub _ h);have up:∀ b∈wr,b∈z::wr:=fun b hb=>List.mem_cons_of_mem _ hb;intro k
  induction k with
  | zero =>
    intro i s hk hi st hS hR;obtain rfl:i=n:=by omega
    refine codeAny_builtin PyProof.Rows.F.entry_set_update_loop ?_;rw [Around.under_plainId PyProof.Rows.F.plain_set_update_loop _];show wpAny _ A.in1 (pyNext (.ref it) >>= _) _ _ s;refine wpAny_bind (W.done s _ _ st fun s' hm=>?_);show wpAny _ A.in1 (ret Value.none) _ _ s';exact wpAny_pure (hR s' (hm.mono up) (hS.keep fun o e=>hm.heap z _ zw e))
  | succ k ih =>
    intro i s hk hi st hS hR;have lt:i < n:=by omega
    refine codeAny_builtin PyProof.Rows.F.entry_set_update_loop ?_;rw [Around.under_plainId PyProof.Rows.F.plain_set_update_loop _];show wpAny _ A.in1 (pyNext (.ref it) >>= _) _ _ s;refine wpAny_bind (W.item i s _ _ lt st fun v s' hP st' hm=>?_);obtain ⟨t,rfl⟩:=hval i v hP;have hS':sS P w z (once val i) s'.heap:=hS.keep fun o e=>hm.heap z _ zw e;show wpAny _ A.in1 (holding [Value.int (val i) t] (setAdd z (.int (val i) t)) >>= _) _ _ s';refine wpAny_bind (wpAny_holding ?_);unfold setAdd;refine wpAny_holding ?_;refine wpAny_bind ((intKind P w).pyHash (k:=val i) (intKind_is _ _ _ _) ?_);have room:(once val i).length<=3:=by have:=wQ val i;omega
    refine ahR (s:={s' with toks:=s'.toks+1}) hS' room fun h' sb hS2 b=>?_;refine wpAny_pure ⟨plainId_quiet PyProof.Rows.F.plain_set_update_loop _,ih (i+1) _ (by omega) lt (W.frame _ s' _ _ st' (Nat.le_succ _) fun c hc o e=>?_) hS2 fun s2 hm2 hS3=>?_⟩
    · rw [sb.2 c (fun h:c=z=>hz (by rw [<- h];exact hc))];exact e
    · refine hR s2 (Moved.trans W.gtrans ((hm.mono up).then_heap (Nat.le_succ _) fun c o hc e=>?_) hm2) hS3;rw [sb.2 c (fun h:c=z=>hc (by rw [h];exact List.mem_cons_self))];exact e
end
section
variable {P:Program} {w:World} {A:Around} {E:Value->Shared->Prop} {s:Shared}
noncomputable abbrev pE (led:Bool):Obj:={cls:=.type "set",dict:=none,data:=.set #[] 0 (.fresh 0 0 led)}
theorem ahS (a:Value) {Q₁:Value->Shared->Prop} (h:∀ led:Bool,(w.params.followText "set-order"=true\/led=true)->Q₁ (.ref s.heap.objs.size) {s with heap:=s.heap.push (pE led)}) :
    codeAny (model P w) A (.call (.builtin "set.__new__") ⟨[.type "set",a],[]⟩) (wants Q₁ E) s:=by
  refine codeAny_of_tree ?_;show wpAny _ A.in1 (do checkBuiltinCall "set.__new__" ⟨[.type "set",a],[]⟩;again (.builtin "set.__new__" ⟨[.type "set",a],[]⟩)) _ _ s;refine wpAny_bind (wpAny_of_eq (PySem.F.newCall_set_1 a) (wpAny_pure ⟨plainId_quiet PySem.F.plain_set_new _,codeAny_builtin PySem.F.entry_set_new ?_⟩));rw [Around.under_plainId PySem.F.plain_set_new _];unfold Builtin.«set.__new__» Builtin.Frozenset.newClass;have hsub:=sub_set_self;obtain ⟨hp,g,d,tk,os⟩:=s;dsimp only;wp_walk;refine wpAny_askSetting (wpAny_pure ?_);dsimp only;simp only [newObj];refine wpAny_bind (wpAny_alloc (wpAny_pure ?_));refine wpAny_pure (h _ ?_);cases e:w.params.followText "set-order" with
  | true=>exact .inl rfl
  | false =>
    refine .inr ?_;show (!w.params.followText "set-order")=true;rw [e];rfl
theorem alF {led:Bool} (h:w.params.followText "set-order"=true\/led=true):pG w (.fresh 0 0 led):=⟨.nil,h,rfl,rfl,rfl⟩
set_option maxHeartbeats 8000000 in
theorem agL {l:Addr} {items:Array Value} {ns:List Int} {Q:Value->Shared->Prop} (hh:A.handled=none) (hl:s.heap.IsList l items) (hi:IntsAre items.toList ns) (h4:items.size<=4)
    (h:∀(h':Heap) (tk:Nat),sS P w s.heap.objs.size (once (fun i=>ns.getD i 0) items.size) h'->(∀ b o,b < s.heap.objs.size->s.heap.get? b=some o->h'.get? b=some o)->Q (.ref s.heap.objs.size) {s with heap:=h',toks:=tk}) :
    wpAny (model P w) A (call (.type "set") [.ref l]) Q E s:=by
  obtain ⟨c,tl,hmro⟩:=PySem.F.called_set.mro;have hmade:=PySem.F.called_set.made;have hsub:=PySem.F.called_set.sub;refine wpAny_call (codeAny_of_tree ?_);show wpAny _ _ (callAny (.type "set") _) _ _ _;refine wpAny_pure ⟨Code.quiet_builtin _ (by decide +kernel),codeAny_builtin PySem.F.entry_type_call ?_⟩;rw [Around.under_plain (weight_type_call_type "set" [.ref l] []) rfl];have h1:=PySem.F.called_set.notType;have h2:=PySem.F.called_set.canCreate;have hct:=PySem.F.typeCall_set_1 (.ref l)
  repeat (any_goals (first | assumption | wp_step))
  refine codeAny_mono (ahS (.ref l) (E:=E) (Q₁:=fun obj s₁=>∃ led:Bool,(w.params.followText "set-order"=true\/led=true)/\obj=.ref s.heap.objs.size/\s₁={s with heap:=s.heap.push (pE led)}) fun led hled=>⟨led,hled,rfl,rfl⟩) fun r s₁ hr=>?_;cases r with
  | error e=>exact hr
  | ok fl =>
    cases fl with
    | ret obj =>
      obtain ⟨led,hled,rfl,rfl⟩:=hr;have hS:(s.heap.push (pE led)).get? s.heap.objs.size=some (pE led):=Heap.get?_push_size _ rfl;have hT:Shared.TypeIs {s with heap:=s.heap.push (pE led)} (.ref s.heap.objs.size) "set":=⟨_,hS,rfl⟩;have hli:=PySem.F.called_set.init.lookup;have hbi:=PySem.F.called_set.init.bind (.ref s.heap.objs.size)
      repeat (any_goals (first | assumption | wp_step))
      refine codeAny_mono (codeAny_call_builtin (R:=wants (fun r s₂=>r=.none/\∃ h' tk,s₂={s with heap:=h',toks:=tk}/\sS P w s.heap.objs.size (once (fun i=>ns.getD i 0) items.size) h' /\
          (∀ b o,b < s.heap.objs.size->s.heap.get? b=some o->h'.get? b=some o)) E) PySem.F.called_set.init.plain PySem.F.entry_set_init (check_set_init_1 hT ?_)) fun r₂ s₂ hr₂=>?_
      · obtain ⟨ol,hol,hcl,nl,hdl⟩:=hl;obtain ⟨ocls,odict,odata,oslots⟩:=ol;simp only at hcl hdl;subst hcl hdl;have hol':(s.heap.push (pE led)).get? l=some ⟨.type "list",odict,.seq items nl,oslots⟩:=Heap.get?_push_of_some _ hol;have hsls:=PySem.F.sub_list_set;have hslf:=PySem.F.sub_list_frozenset;have hne:(Value.type "list" == Value.type "dict")=false:=by decide
        have hl1:(s.heap.push (pE led)).IsList l items:=⟨_,hol',rfl,nl,rfl⟩;unfold Builtin.«set.__init__» noKeywords Builtin.Frozenset.updateFrom;generalize hPI:pyIter=PI;wp_walk;subst hPI;refine wpAny_pyIter_list hl1 ?_;refine wpAny_bind (wpAny_runValue ?_);have lS:l < s.heap.objs.size:=Heap.lt_size hol;have hh3:A.in1.in1.in1.handled=none:=by simp [hh]
        have sz:(s.heap.push (pE led)).objs.size=s.heap.objs.size+1:=Heap.size_push _ _;have hneI:l≠(s.heap.push (pE led)).objs.size:=Nat.ne_of_lt (by rw [sz];exact Nat.lt_succ_of_lt lS);have hSf:s.heap.objs.size∉[(s.heap.push (pE led)).objs.size,l]:=by
          simp only [List.mem_cons,List.not_mem_nil,or_false,not_or];exact ⟨Nat.ne_of_lt (by rw [sz];exact Nat.lt_succ_self _),Nat.ne_of_gt lS⟩
        have hval:∀(i:Nat) (v:Value),items[i]?=some v->∃ t,v=.int ((fun i=>ns.getD i 0) i) t:=fun i v hv=>IntsAre.int_at hi i v (by rw [Array.getElem?_toList];exact hv);refine afX ((Walks.list hh3 _ l hneI items).toS) s.heap.objs.size hSf (fun i=>ns.getD i 0) hval h4 (items.size - 0) 0 _ (by omega) (Nat.zero_le _) ⟨⟨_,Heap.get?_push_size _ rfl,rfl,rfl⟩,(hl1.push _)⟩ ?hS0 ?hR
        case hS0=>exact ⟨_,#[],0,_,Heap.get?_push_of_some _ hS,⟨rfl,rfl,rfl⟩,rfl,fun e he=>(by simp at he),by decide,rfl,alF hled,by simp,.nil⟩
        case hR =>
          intro s' hm hS';obtain ⟨h',g',d',tk',os'⟩:=s';have eg:g'=s.gens:=hm.gens;have ed:d'=s.drawn:=hm.drawn;have eo:os'=s.os:=hm.os;subst eg ed eo;show wpAny _ _ _ _ _ _;refine wpAny_pure ?_;show wpAny _ _ (ret Value.none) _ _ _;refine wpAny_pure ⟨rfl,h',tk',rfl,hS',fun b o hb e=>?_⟩;exact hm.heap b o (by simp only [List.mem_cons,List.not_mem_nil,or_false,not_or];exact ⟨Nat.ne_of_lt hb,Nat.ne_of_lt (by rw [sz];exact Nat.lt_succ_of_lt hb)⟩) (Heap.get?_push_of_some _ (Heap.get?_push_of_some _ e))
      · cases r₂ with
        | error e=>exact hr₂
        | ok fl₂ =>
          cases fl₂ with
          | ret r =>
            obtain ⟨rfl,h',tk,rfl,hS',hk'⟩:=hr₂
            repeat (any_goals (first | assumption | wp_step))
            exact h _ _ hS' hk'
          | _=>exact hr₂.elim
    | _=>exact hr.elim
end
end L2
namespace L2
open PySem PySem.Spec PyProof.Rows
theorem agJ:Manifest.owners.lookup (String.ofList ['r','o','t','a','r','e','t','i','_','t','e','s'].reverse)=some Manifest.sig_set_iterator:=by kernel_rfl
theorem eW:Slot "set_iterator" "__next__" "set_iterator.__next__" :=
 .of (owner:="set_iterator") (n:="__next__") (by rw [typeLookup_type,builtinLookup_eq_fast];kernel_rfl) (by decide +kernel) (by decide +kernel) (by decide +kernel)
  (by first | exact .inl (by decide +kernel) | exact .inr (by decide +kernel)) (by rw [isSubtype_type];kernel_rfl)
theorem pF:entryFor table "set_iterator.__next__"=some Builtin.«set_iterator.__next__»:=entryFor_of_tree (by kernel_rfl)
theorem rB (a:Value):argsOk "set_iterator.__next__" ⟨[a],[]⟩:=by
 unfold argsOk;rw [signature?_of (id:="set_iterator.__next__") (n:=['_','_','t','x','e','n','_','_']) (o:=['r','o','t','a','r','e','t','i','_','t','e','s']) (by kernel_rfl) agJ];kernel_rfl
theorem rP:Slot "set_iterator" "__iter__" "set_iterator.__iter__" :=
 .of (owner:="set_iterator") (n:="__iter__") (by rw [typeLookup_type,builtinLookup_eq_fast];kernel_rfl) (by decide +kernel) (by decide +kernel) (by decide +kernel)
  (by first | exact .inl (by decide +kernel) | exact .inr (by decide +kernel)) (by rw [isSubtype_type];kernel_rfl)
theorem aa4:entryFor table "set_iterator.__iter__"=some Builtin.«dict_keyiterator.__iter__» :=
 entryFor_alias (id':="dict_keyiterator.__iter__") (by kernel_rfl) rfl (by decide +kernel) (by kernel_rfl)
theorem ad7 (a:Value):argsOk "set_iterator.__iter__" ⟨[a],[]⟩:=by
 unfold argsOk;rw [signature?_of (id:="set_iterator.__iter__") (n:=['_','_','r','e','t','i','_','_']) (o:=['r','o','t','a','r','e','t','i','_','t','e','s']) (by kernel_rfl) agJ];kernel_rfl
theorem xP:entryFor table "set.__iter__"=some Builtin.«frozenset.__iter__» :=
 entryFor_alias (id':="frozenset.__iter__") (by kernel_rfl) rfl (by decide +kernel) (by kernel_rfl)
section
variable {P:Program} {w:World} {A:Around} {E:Value->Shared->Prop} {s:Shared} {a it:Addr} {es:Array (Int×Value)} {ep i:Nat} {t:SetTable}
noncomputable def kW (w:World) (h:Heap) (a:Addr) (es:Array (Int×Value)) (ep:Nat) (t:SetTable):Prop:=∃ o,h.get? a=some o/\o.ExactSet/\o.data=.set es ep t/\t.fits es.size=true/\pG w t
theorem kW.to {h h':Heap} (x:kW w h a es ep t) (k:∀ o,h.get? a=some o->h'.get? a=some o):kW w h' a es ep t:=let ⟨o,e,r⟩:=x;⟨o,k _ e,r⟩
theorem kW.lt {h:Heap} (x:kW w h a es ep t):a < h.objs.size:=let ⟨_,e,_⟩:=x;Heap.lt_size e
theorem kW.ty (x:kW w s.heap a es ep t):s.TypeIs (.ref a) "set":=let ⟨o,e,c,_⟩:=x;⟨o,e,c.1⟩
noncomputable def mF (w:World) (a:Addr) (es:Array (Int×Value)) (ep:Nat):Array (Int×Value):=if w.params.followText "set-order"=true then pickOrder (w.params.setOrder a ep) es else es
theorem xY:(mF w a es ep).toList.Perm es.toList:=by
 unfold mF;split
 ·exact akW _ _
 ·exact .refl _
theorem nJ:(mF w a es ep).size=es.size:=by have:=(xY (w:=w) (a:=a) (es:=es) (ep:=ep)).length_eq;simpa using this
noncomputable def adA (w:World) (t:SetTable) (i sl:Nat):Prop:=w.params.followText "set-order"=true\/SetTable.below t.place sl=i
noncomputable def abC (w:World) (h:Heap) (it a:Addr) (i n ep:Nat) (t:SetTable):Prop:=∃ o sl,h.get? it=some o/\o.cls=.type "set_iterator"/\o.data=.fields #[.int (sl:Nat) 0,.int (i:Nat) 0,.ref a,.int (n:Nat) 0,.int (ep:Nat) 0]/\adA w t i sl
theorem abC.to {h h':Heap} {n:Nat} (x:abC w h it a i n ep t) (k:∀ o,h.get? it=some o->h'.get? it=some o):abC w h' it a i n ep t:=let ⟨o,sl,e,r⟩:=x;⟨o,sl,k _ e,r⟩
theorem abC.ty {n:Nat} (x:abC w s.heap it a i n ep t):s.TypeIs (.ref it) "set_iterator":=let ⟨o,_,e,c,_⟩:=x;⟨o,e,c⟩
theorem alG (T:pG w t):adA w t 0 0:=.inr (by
 obtain ⟨h1,h2,h3⟩:=qM t.place 0 T.rise;by_cases z:SetTable.below t.place 0=0
 ·exact z
 ·have:=h1 0 (by omega) (by omega);omega)
theorem amJ (T:pG w t) {j:Nat} (e:t.place[i]?=some j):SetTable.below t.place (j+1)=i+1:=by
 obtain ⟨hi,ej⟩:=Array.getElem?_eq_some_iff.mp e;obtain ⟨h1,h2,h3⟩:=qM t.place (j+1) T.rise;by_cases c:SetTable.below t.place (j+1)<=i
 ·have:=h2 i hi c;omega
 ·by_cases d:i+1 < SetTable.below t.place (j+1)
  ·have h4:i+1 < t.place.size:=by omega
   have h5:=h1 (i+1) h4 d;have h6:=List.pairwise_iff_getElem.mp T.rise i (i+1) (by simpa using hi) (by simpa using h4) (by omega);simp at h6;omega
  ·omega
theorem aoI {Q:Value->Shared->Prop} (x:kW w s.heap a es ep t)
    (q:Q (.ref s.heap.objs.size) {s with heap:=s.heap.push {cls:=.type "set_iterator",data:=.fields #[.int 0 0,.int 0 0,.ref a,.int es.size 0,.int ep 0]}}):wpAny (model P w) A (pyIter (.ref a)) Q E s:=by
  obtain ⟨o,e1,e2,e3,e4,T⟩:=id x;refine wpAny_pyIter_slot x.ty F.slot_set_iter (wpAny_call_entry F.slot_set_iter x.ty xP ?_ (F.args_set_iter_1 _));unfold Builtin.«frozenset.__iter__»;refine wpAny_bind ?_;show wpAny _ _ ((pure (Value.ref a,([]:List Value)):Sem _) >>= fun z=>Builtin.Frozenset.addrOf z.1) _ _ s;refine wpAny_bind (wpAny_pure (wpAny_pure ?_));refine wpAny_bind (wpAny_bind (wpAny_bind (wpAny_setState_of e1 e3 e4 (wpAny_pure (wpAny_pure ?_)))));refine wpAny_bind (wpAny_bind (wpAny_setState_of e1 e3 e4 ?_));refine wpAny_bind (wpAny_bind (wpAny_askSetting (wpAny_pure ?_)));refine wpAny_pure ?_;show wpAny _ _ (if (!w.params.followText "set-order" && (!t.plain && decide (es.size > 1)))=true then _ else _) _ _ s;rw [T.pln];simp only [Bool.not_true,Bool.false_and,Bool.and_false,Bool.false_eq_true,if_false];refine wpAny_bind (wpAny_pure (wpAny_bind (wpAny_bind (wpAny_setState_of e1 e3 e4 (wpAny_pure ?_)))));refine wpAny_bind (wpAny_newObj_type (wpAny_pure ⟨_,rfl,"set_iterator",_,⟨_,Heap.get?_push_size _ rfl,rfl⟩,eW.lookup,by simpa [rawInt] using q⟩))
theorem zM {sl:Nat} {Q:Option (Value×Nat)->Shared->Prop} (x:kW w s.heap a es ep t) (hs:adA w t i sl)
    (q1:∀ e sl',(mF w a es ep)[i]?=some e->adA w t (i+1) sl'->Q (some (e.2,sl')) s) (q0:(mF w a es ep)[i]?=none->Q none s):wpAny (model P w) A (setNext a sl i ep) Q E s:=by
  obtain ⟨o,e1,e2,e3,e4,T⟩:=id x;unfold setNext;refine wpAny_bind (wpAny_setState_of e1 e3 e4 ?_);dsimp only;refine wpAny_bind (wpAny_bind (wpAny_askSetting (wpAny_pure ?_)));show wpAny _ _ (if w.params.followText "set-order"=true then _ else _) _ _ s;by_cases c:w.params.followText "set-order"=true
  · rw [if_pos c,if_neg (by simp)];unfold setWalk;refine wpAny_bind (wpAny_bind (wpAny_setState_of e1 e3 e4 ?_));dsimp only;refine wpAny_bind (wpAny_bind (wpAny_askSetting (wpAny_pure ?_)));show wpAny _ _ (if w.params.followText "set-order"=true then _ else _) _ _ s;rw [if_pos c];refine wpAny_bind (wpAny_askSetting (wpAny_pure (wpAny_pure ?_)));show Q (Option.map _ (pickOrder (w.params.setOrder a ep) es)[i]?) s;have eo:mF w a es ep=pickOrder (w.params.setOrder a ep) es:=if_pos c;rw [eo] at q1 q0;cases h:(pickOrder (w.params.setOrder a ep) es)[i]? with
    | none=>exact q0 h
    | some e=>exact q1 e sl h (.inl c)
  · rw [if_neg c];have eo:mF w a es ep=es:=if_neg c;rw [eo] at q1 q0;have hb:SetTable.below t.place sl=i:=hs.resolve_left c;have hl:t.led=true:=T.led.resolve_left c;show wpAny _ _ (if (!t.plain && decide (es.size > 1))=true then _ else _) _ _ s;rw [T.pln];simp only [Bool.not_true,Bool.false_and,Bool.false_eq_true,if_false];show wpAny _ _ ((if (!t.led && !es.isEmpty)=true then unsupported "set:maker-not-led" else pure ()) >>= fun _=>_) _ _ s;rw [hl];simp only [Bool.not_true,Bool.false_and,Bool.false_eq_true,if_false];refine wpAny_bind (wpAny_pure (wpAny_pure ?_));rw [hb];have hz:t.place.size=es.size:=by
      have:=e4;unfold SetTable.fits at this;simp only [Bool.and_eq_true,beq_iff_eq] at this;exact this.1
    by_cases d:i < es.size
    · have h1:es[i]?=some es[i]:=Array.getElem?_eq_getElem d;have h2:t.place[i]?=some (t.place[i]'(by omega)):=Array.getElem?_eq_getElem (by omega);rw [h1,h2];exact q1 _ _ h1 (.inr (amJ T h2))
    · have h1:es[i]?=none:=Array.getElem?_eq_none (by omega);rw [h1];exact q0 h1
theorem anO {Q:Option Value->Shared->Prop} (ki:abC w s.heap it a i es.size ep t) (x:kW w s.heap a es ep t) {e:Int×Value} (he:(mF w a es ep)[i]?=some e)
    (q:∀ h',abC w h' it a (i+1) es.size ep t->Heap.SameBut it s.heap h'->Q (some e.2) {s with heap:=h'}):wpAny (model P w) A (pyNext (.ref it)) Q E s:=by
  obtain ⟨oi,sl,i1,i2,i3,i4⟩:=id ki;obtain ⟨o,e1,e2,e3,e4,T⟩:=id x;have lt:i < es.size:=by have:=(Array.getElem?_eq_some_iff.mp he).1;rw [nJ] at this;exact this
  unfold pyNext;refine wpAny_bind (wpAny_attempt (wpAny_callSpecial?_slot (name:=Str.ofString "__next__") ki.ty eW
    (wpAny_call_entry eW ki.ty pF ?_ (rB _))))
  unfold Builtin.«set_iterator.__next__»;refine wpAny_bind (wpAny_pure (wpAny_bind (wpAny_fieldsOf i1 i3 ?_)));show wpAny _ _ (setEntries a >>= fun _=>_) _ _ s;refine wpAny_bind (wpAny_bind (wpAny_setState_of e1 e3 e4 (wpAny_pure ?_)));rw [if_neg (by simp)];show wpAny _ _ (setNext a (Int.toNat (sl:Nat)) (Int.toNat (i:Nat)) (Int.toNat (ep:Nat)) >>= fun z=>_) _ _ s;simp only [Int.toNat_natCast];refine wpAny_bind ?_;refine zM x i4 (fun e' sl' he' hs'=>?_) fun z=>by rw [z] at he;cases he
  rw [he] at he';cases he';show wpAny _ _ (setField (.ref it) 0 (rawInt (sl':Nat)) >>= fun _=>_) _ _ s;refine wpAny_bind (wpAny_setField i1 i3 (by simp) ?_);have j1:(s.heap.update it (Obj.mapFields (·.setIfInBounds 0 (rawInt (sl':Nat))))).get? it=some (Obj.mapFields (·.setIfInBounds 0 (rawInt (sl':Nat))) oi):=Heap.get?_update_self _ i1 (Obj.isFreed_of_fields (Obj.data_mapFields i3 _));have j3:(Obj.mapFields (·.setIfInBounds 0 (rawInt (sl':Nat))) oi).data=.fields #[.int (sl':Nat) 0,.int (i:Nat) 0,.ref a,.int (es.size:Nat) 0,.int (ep:Nat) 0]:=by rw [Obj.data_mapFields i3];simp [rawInt]
  show wpAny _ _ (setField (.ref it) 1 (rawInt ((i:Int)+1)) >>= fun _=>_) _ _ _;refine wpAny_bind (wpAny_setField j1 j3 (by simp) ?_);refine wpAny_pure ⟨_,rfl,wpAny_pure (q _ ⟨_,sl',Heap.get?_update_self _ j1 (Obj.isFreed_of_fields (Obj.data_mapFields j3 _)),((Obj.cls_mapFields ..).trans (Obj.cls_mapFields ..)).trans i2,by rw [Obj.data_mapFields j3];simp [rawInt],hs'⟩ ((Heap.SameBut.update ..).trans (Heap.SameBut.update ..)))⟩
theorem asJ {Q:Option Value->Shared->Prop} (hh:A.handled=none) (ki:abC w s.heap it a es.size es.size ep t) (x:kW w s.heap a es ep t)
    (q:∀ h',Heap.ExtBut it s.heap h'->Q none {s with heap:=h'}):wpAny (model P w) A (pyNext (.ref it)) Q E s:=by
  obtain ⟨oi,sl,i1,i2,i3,i4⟩:=id ki;obtain ⟨o,e1,e2,e3,e4,T⟩:=id x;unfold pyNext;refine wpAny_bind (wpAny_attempt (wpAny_callSpecial?_slot (name:=Str.ofString "__next__") ki.ty eW
    (wpAny_call_entry eW ki.ty pF ?_ (rB _))))
  unfold Builtin.«set_iterator.__next__»;refine wpAny_bind (wpAny_pure (wpAny_bind (wpAny_fieldsOf i1 i3 ?_)));show wpAny _ _ (setEntries a >>= fun _=>_) _ _ s;refine wpAny_bind (wpAny_bind (wpAny_setState_of e1 e3 e4 (wpAny_pure ?_)));rw [if_neg (by simp)];show wpAny _ _ (setNext a (Int.toNat (sl:Nat)) (Int.toNat (es.size:Nat)) (Int.toNat (ep:Nat)) >>= fun z=>_) _ _ s;simp only [Int.toNat_natCast];refine wpAny_bind ?_;refine zM x i4 (fun e' sl' he' hs'=>by
    have:=(Array.getElem?_eq_some_iff.mp he').1;rw [nJ] at this;omega) fun _=>?_
  show wpAny _ _ (setField (.ref it) 2 .none >>= fun _=>_) _ _ s;refine wpAny_bind (wpAny_setField i1 i3 (by simp) ?_);show wpAny _ _ (newExc (.type "StopIteration") [] >>= fun _=>_) _ _ _;refine wpAny_bind ?_;simp only [newExc,newTuple];refine wpAny_bind (wpAny_newObj_type ?_ (by size_fits));refine wpAny_bind (m:=firstArgMember _ _) (wpAny_of_eq (a:=Value.none) (by first | rfl | (simp only [firstArgMember];rfl)) (wpAny_newObj_type ?_ (by size_fits)));simp only [raiseNew];refine wpAny_bind (wpAny_handled ?_);rw [show A.in1.handled=none from hh];refine wpAny_bind (wpAny_pure (wpAny_throw ?_));refine wpAny_bind (wpAny_isInstance (T:="StopIteration") (b:=true) ⟨_,Heap.get?_push_size _ rfl,rfl⟩ (show _ from isSubtype_stop) ?_);exact wpAny_pure (q _ (((Heap.SameBut.update ..).extBut.push _).push _))
theorem ap4 {n:Nat} {Q:Value->Shared->Prop} (ki:abC w s.heap it a i n ep t) (h:Q (.ref it) s):wpAny (model P w) A (pyIter (.ref it)) Q E s:=by
 refine wpAny_pyIter_slot ki.ty rP (wpAny_call_entry rP ki.ty aa4 ?_ (ad7 _));show wpAny _ _ (ret (.ref it)) _ _ s;exact wpAny_pure ⟨_,rfl,"set_iterator",_,ki.ty,eW.lookup,h⟩
theorem alT (hh:A.handled=none) (it a:Addr) (ne:a≠it) (es:Array (Int×Value)) (ep:Nat) (t:SetTable) :
    Walks P w A it [it,a] [it] es.size (fun i v=>∃ e,(mF w a es ep)[i]?=some e/\v=e.2) (fun i h=>abC w h it a i es.size ep t/\kW w h a es ep t) where
  sub:=fun b hb=>by simp at hb;simp [hb]
  frame:=fun _ _ _ st hk=>⟨st.1.to fun o e=>hk it (by simp) o e,st.2.to fun o e=>hk a (by simp) o e⟩
  item:=fun i s Q E hi st hQ=>anO st.1 st.2 (Array.getElem?_eq_getElem (by rw [nJ];exact hi)) fun h' k2 sb=>hQ _ h' s.toks ⟨_,Array.getElem?_eq_getElem (by rw [nJ];exact hi),rfl⟩ ⟨k2,st.2.to fun o e=>sb.extBut a o ne e⟩ fun b o hb e=>sb.extBut b o (fun h=>hb (by simp [h])) e
  done:=fun s Q E st hQ=>asJ hh st.1 st.2 fun h' he=>hQ h' s.toks fun b o hb e=>he b o (fun h=>hb (by simp [h])) e
  self:=fun _ _ _ _ st hQ=>ap4 st.1 hQ
end
end L2
namespace L2
open PySem PySem.Spec PyProof.Rows
section
variable {prog:Program} {w:World} {A:Around} {E:Value->Shared->Prop} {s:Shared} {r a:Addr} {es:Array (Int×Value)} {ep:Nat} {t:SetTable}
theorem ao9 {Q:Bool->Shared->Prop} (hT:s.TypeIs (.ref r) "set") (h:Q false s):wpAny (model prog w) A (Builtin.List.listLengthHint (.ref r)) Q E s:=by
 unfold Builtin.List.listLengthHint;refine wpAny_bind (wpAny_specialOf hT PySem.F.slot_set_len.lookup ?_);generalize hid:("set.__len__":String)=id0
 wp_delta
 rw [show splitId id0=some ("set","__len__") from by subst hid;decide +kernel];subst hid;refine wpAny_bind (wpAny_isInstance (T:="set") (b:=true) hT (by rw [isSubtype_type];kernel_rfl) ?_);refine wpAny_ite_split (fun hab=>absurd hab (by decide)) (fun _=>?_);refine wpAny_ite_split (fun _=>?_) (fun hab=>absurd (by decide +kernel) hab);refine wpAny_bind (wpAny_typeOf hT ?_);exact wpAny_pure h
open PySem.W in
theorem atM:KdlSrc prog w "set" a a es.size (fun i v=>∃ e,(mF w a es ep)[i]?=some e/\v=e.2) (fun h=>kW w h a es ep t) where
 type:=fun _ hm=>hm.ty
 there:=fun _ hm=>⟨hm.lt,hm.lt⟩
 keep:=fun _ _ hm hk=>hm.to fun o e=>hk a (.inl rfl) o e
 notList:=by decide
 notTuple:=by decide
 hint:=fun _ _ _ _ hm hq=>ao9 hm.ty hq
 iter:=fun _ _ hh hm=>⟨_,_,(fun _ _ hq=>aoI hm hq),alT hh _ a (Nat.ne_of_lt hm.lt) es ep t,⟨⟨_,0,Heap.get?_push_size _ rfl,rfl,rfl,alG (let ⟨_,_,_,_,_,T⟩:=hm;T)⟩,hm.to fun o e=>Heap.get?_push_of_some _ e⟩⟩
end
theorem anH:bootBuiltins "set"=some (.type "set"):=by decide +kernel
theorem look1 {k z:Str} {a c:Addr} {r:List (Str×Addr)} (e:List.lookup k r=some a) (h:List.lookup z [(k,a)]=some c):List.lookup z r=some c:=by
 simp only [List.lookup] at h;split at h
 ·next y=>cases h;rw [eq_of_beq y];exact e
 ·cases h
noncomputable def ag6 (P:Program) (w:World) (a:Addr) (ns:List Int):HO:=.ext (sS P w a ns)
theorem aqQ {X:Cx} {H:Hp} {h:Heap} {a:Addr} {ns:List Int} (x:sS X.prog X.w a ns h):dM X.prog X.w H h a (ag6 X.prog X.w a ns) :=
 ⟨x,let ⟨o,_,_,_,e,_⟩:=x;⟨o,e⟩,fun _ _ y k=>y.keep k⟩
noncomputable def mK (ns:List Int):List Int:=once (fun i=>ns.getD i 0) ns.length
noncomputable def aoR (P:Program) (w:World):List V->Hp->VK->Prop:=fun vs H Q=>on1 vs fun x=>bF x fun p=>∃ ns:List Int,H p=some (.lst (ns.map V.int))/\ns.length<=4/\∀ l,H l=none->Q (.ref l) (upd H l (ag6 P w l (mK ns)))
theorem abS {X:Cx} (hc:X.calm=true):dW X (.type "set") (aoR X.prog X.w):=fun pins s σ H xs us Q I r h=>by
 obtain ⟨x,rfl,h1⟩:=hJ h;obtain ⟨p,rfl,ns,e,h4,q⟩:=aT h1;obtain ⟨u,rfl,ru⟩:=vals1 r;cases ru;obtain ⟨its,r',pl,hz⟩:=I.list (eZ.of e);have hi:IntsAre its ns:=ag7 r';have hlen:=r'.length;have lm:its.toArray.size=ns.length:=by simpa using hlen.symm
 refine agL (items:=its.toArray) (I.ok.hd hc) pl.isList (by simpa using hi) (by omega) fun h' tk hS kp=>?_;rw [lm] at hS;exact ⟨.ref s.heap.objs.size,_,I.laid (t':=tk) (fun b o e=>kp b o (Heap.lt_size e) e) (Nat.le_refl _) (aqQ hS),rfl,q _ (I.hok.fresh (Nat.le_refl _))⟩
noncomputable def am6 (P:Program) (w:World):List V->Hp->VK->Prop:=fun vs H Q=>on1 vs fun x=>bF x fun p=>∃ ns:List Int,H p=some (ag6 P w p ns)/\Q (.int ns.length) H
theorem agW {X:Cx}:dW X (.builtin "len") (am6 X.prog X.w):=fun pins s σ H xs us Q I r h=>by
 obtain ⟨x,rfl,h1⟩:=hJ h;obtain ⟨p,rfl,ns,e,q⟩:=aT h1;obtain ⟨u,rfl,ru⟩:=vals1 r;cases ru;obtain ⟨⟨o,es,ep,t,ho,hex,hd,hel,hb,hf,T,hi,hp⟩,_⟩:=I.hok p _ e;have hl:es.size=ns.length:=by have:=hp.length_eq;simpa using this
 have b1:scanBound=4096:=rfl;refine call_len_set ho hex hd hf (by omega) ?_;exact ⟨.int ns.length,H,I.tok _,⟨_,by rw [hl]⟩,q⟩
noncomputable def ao1 (P:Program) (w:World):List V->Hp->VK->Prop:=fun vs H Q=>on1 vs fun x=>bF x fun p=>∃ ns:List Int,H p=some (ag6 P w p ns)/\ns.length < 64/\∀(l:Addr) (ns':List Int),H l=none->ns'.Perm ns->ns'.Pairwise (·<=·)->Q (.ref l) (upd H l (.lst (ns'.map V.int)))
theorem ag8 {X:Cx} (hc:X.calm=true):dW X (.builtin "sorted") (ao1 X.prog X.w):=fun pins s σ H xs us Q I r h=>by
 obtain ⟨x,rfl,h1⟩:=hJ h;obtain ⟨p,rfl,ns0,e,h64,q0⟩:=aT h1;obtain ⟨u,rfl,ru⟩:=vals1 r;cases ru;obtain ⟨⟨od,es,ep,t,ho,hex,hd,hel,hb,hf,T,hi,hp0⟩,_⟩:=I.hok p _ e;have hl:es.size=ns0.length:=by have:=hp0.length_eq;simpa using this
 obtain ⟨m,hn,_⟩:=I.loc;have hne:p≠X.env.locals:=aL e I.free;obtain ⟨ns,ens⟩:∃ ns,ns=(mF X.w p es ep).toList.map fun e=>agM e.2:=⟨_,rfl⟩;have pns:ns.Perm ns0:=by rw [ens];exact (xY.map _).trans hp0
 have lns:ns.length=es.size:=by rw [ens];simp [nJ]
 have q:∀(l:Addr) (ns':List Int),H l=none->ns'.Perm ns->ns'.Pairwise (·<=·)->Q (.ref l) (upd H l (.lst (ns'.map V.int))):=fun l ns' a b c=>q0 l ns' a (b.trans pns) c;refine PySem.W.kdu_sorted (atM (a:=p) (es:=es) (ep:=ep) (t:=t)) (I.ok.hd hc) (Att.ahY hn) (Att.mX hne ho) ⟨od,ho,hex,hd,hf,T⟩ (by rw [sizeLine_eq];omega) fun D h' tk vs F N lt hlen hP=>?_;have hI:IntsAre vs ns:=ajI (by omega) fun j v ev=>by
  obtain ⟨e,e1,rfl⟩:=hP j v ev;have e1':(mF X.w p es ep).toList[j]?=some e:=by rw [Array.getElem?_toList];exact e1
  obtain ⟨i,tk,et⟩:=hi e (xY.mem_iff.mp (List.mem_of_getElem? e1'));exact ⟨i,tk,by rw [ens,List.getElem?_map,e1'];simp only [Option.map_some,et,agM],et⟩
 have hD:h'.get? D=some (seqObj "list" vs.toArray 0):=(N _ (List.Mem.head _)).1;have old:∀ b o,b≠X.env.locals->s.heap.get? b=some o->h'.get? b=some o/\b < D:=fun b o nb eb=>by
  by_cases hb:b=p
  ·subst hb;rw [ho] at eb;cases eb;exact ⟨(N _ (List.Mem.tail _ (List.Mem.head _))).1,lt _ (List.Mem.head _)⟩
  ·have mem:=Att.lM (h:=s.heap) (L:=X.env.locals) (d:=p) |>.mpr ⟨nb,hb,eb⟩;exact ⟨(N _ (List.Mem.tail _ (List.Mem.tail _ mem))).1,lt _ (List.Mem.tail _ mem)⟩
 have g:MeetsIn X.prog X.w (Builtin.«list.sort» ⟨[.ref D],[]⟩) (fun _ R s=>s.heap.get? D=some (seqObj "list" vs.toArray 0)/\∀(out:Array Value) (ns':List Int),IntsAre out.toList ns'->ns'.Perm ns->ns'.Pairwise (·<=·)->R (.ok (.ret .none)) {s with heap:=sortedHeap s.heap D vs out}) :=
  fun A R s ⟨g1,g2⟩=>list_sort_tree g1 hI (by omega) fun out ns' a b c=>g2 out ns' a b c
 refine call_meetsIn PySem.F.slot_list_sort ⟨_,hD,rfl⟩ PySem.F.entry_list_sort (PySem.F.args_list_sort_1 _) g ⟨hD,fun out ns' hI' hp hs=>?_⟩;have hDL:D≠X.env.locals:=(N _ (List.Mem.head _)).2.1;have hDn:H D=none:=by
  cases z:H D with
  | none=>rfl
  | some o =>
   obtain ⟨ob,eb⟩:=(I.hok D o z).there;exact absurd (old D ob hDL eb).2 (Nat.lt_irrefl _)
 have new:∀ b o,b≠X.env.locals->s.heap.get? b=some o->(sortedHeap h' D vs out).get? b=some o:=fun b o nb eb=>by
  obtain ⟨h1,h2⟩:=old b o nb eb;rw [sortedHeap_old (Nat.ne_of_lt h2) (Heap.lt_size h1)];exact h1
 obtain ⟨e',hD'⟩:=sortedHeap_at (out:=out) hD;have hns:∀ m',s.heap.Ns X.env.locals m'->(sortedHeap h' D vs out).Ns X.env.locals m':=fun m' hm=>by
  have em:m'=m:=by
   obtain ⟨o1,es1,ep1,a1,b1,_,c1⟩:=hm;obtain ⟨o2,es2,ep2,a2,b2,_,c2⟩:=hn;rw [a1] at a2;cases a2;rw [b1] at b2;cases b2;funext y;rw [<- c1,<- c2]
  subst em;obtain ⟨o1,es1,ep1,a1,r1⟩:=F.ns;exact ⟨o1,es1,ep1,by rw [sortedHeap_old hDL.symm (Heap.lt_size a1)];exact a1,r1⟩
 have nn:∀ {b:Addr} {o:HO},H b=some o->b≠D:=fun h z=>by subst z;rw [hDn] at h;cases h
 have nl:∀ {b:Addr} {o:HO},H b=some o->b≠X.env.locals:=fun h=>aL h I.free;refine ⟨.ref D,upd H D (.lst (ns'.map V.int)),show Inv X pins σ _ {s with heap:=sortedHeap h' D vs out,gens:=s.gens,drawn:=s.drawn,toks:=tk} from I.step (g':=s.gens) (d':=s.drawn) (t':=tk) (ch:=[]) (fun _ z=>nomatch z) (fun b o nb _ _ eb _=>new b o nb eb) (fun b o nb _ _ eb _=>⟨o.slots,new b o nb eb⟩) (fun b o _ eb hb=>?_) (fun b o _ eb=>?_)
  (fun b xs hb=>by rw [aI (nn hb)];exact hb) (fun b o u hb=>by rw [aI (nn hb)];exact hb) (fun b ps hb=>⟨#[],by rw [aI (nn hb),hb];simp⟩) hns (fun b o hb=>?_) I.bare,rfl,q D ns' hDn hp hs⟩
 ·by_cases hbD:b=D
  ·subst hbD;by_cases hbL:b=X.env.locals
   ·exact absurd hbL hDL
   ·exact absurd (old b o hbL eb).2 (Nat.lt_irrefl _)
  ·rw [aI hbD];exact hb
 ·by_cases hbL:b=X.env.locals
  ·subst hbL;obtain ⟨o1,es1,ep1,a1,r1⟩:=hns m hn;exact ⟨o1,a1⟩
  ·exact ⟨o,new b o hbL eb⟩
 ·by_cases hbD:b=D
  ·subst hbD;rw [aA] at hb;cases hb;exact ⟨by rw [List.length_map,hp.length_eq,sizeLine_eq];omega,out.toList,e',oE hI',hD'⟩
  ·rw [aI hbD] at hb;refine (I.hok b o hb).stay (fun c v hc ev=>?_) (fun c hc=>by rw [aI (nn hc)];exact hc) fun c xs hc=>by rw [aI (nn hc)];exact hc
   rcases hc with hc | hc
   ·subst hc;exact new c v (nl hb) ev
   ·exact new c v (nl hc) ev
section
variable {P:Program} {w:World} {H:Hp} {Q:VK} {p:Addr}
theorem aqK:aoR P w [.ref p] H Q = ∃ ns:List Int,H p=some (.lst (ns.map V.int))/\ns.length<=4/\∀ l,H l=none->Q (.ref l) (upd H l (ag6 P w l (mK ns))):=rfl
theorem aqL:am6 P w [.ref p] H Q = ∃ ns:List Int,H p=some (ag6 P w p ns)/\Q (.int ns.length) H:=rfl
theorem aoF:ao1 P w [.ref p] H Q = ∃ ns:List Int,H p=some (ag6 P w p ns)/\ns.length < 64/\∀(l:Addr) (ns':List Int),H l=none->ns'.Perm ns->ns'.Pairwise (·<=·)->Q (.ref l) (upd H l (.lst (ns'.map V.int))):=rfl
end
end L2
namespace L2
open PySem PySem.Spec PyProof.Rows
noncomputable def azR (K:PySem.W.Frag) (n:Nat):R2:=fun x y H Q=>bF x fun a=>bF y fun b=>(∃ r,vO K H n a b r/\Q (.bl r) H) \/
 ∃(z z' u:Str) (p:Addr) (ts:List V),H a=some (.tup [.str z,.ref p])/\H p=some (.tup ts)/\H b=some (.tup [.str z',.str u])/\z≠z'/\Q (.bl false) H
theorem axH {X:Cx} (n:Nat) (hn:2<=n) (hu:X.A.units+n < cLine):jZ X (compareOp .Eq) (azR X.K n):=fun pins s σ H x y v u Q I rx ry h=>by
 obtain ⟨a,rfl,h1⟩:=aT h;obtain ⟨b,rfl,h2⟩:=aT h1;cases rx;cases ry;rcases h2 with ⟨r,e,q⟩ | ⟨z,z',k,p,ts,ea,ep,eb,ne,q⟩
 ·exact aoO e I hu X.prog X.w X.xe _ (bR I q rfl)
 ·obtain ⟨its,r1,p1,_⟩:=I.tuple (dF.of ea);obtain ⟨jts,r2,p2,_⟩:=I.tuple (dF.of eb);obtain ⟨kts,r3,p3,_⟩:=I.tuple (dF.of ep);cases r1 with
  | cons a1 r1 =>
  cases r1 with
  | cons a2 r1 =>
  cases r1;cases r2 with
  | cons b1 r2 =>
  cases r2 with
  | cons b2 r2 =>
  cases r2;obtain ⟨t1,rfl⟩:=a1;cases a2;obtain ⟨t2,rfl⟩:=b1;obtain ⟨t3,rfl⟩:=b2;have:=SeqAt.RcAt.tuples (A:=X.A) (e:=fun j=>if j=0 then (z == z') else false) (show s.heap.IsTuple a #[_,_] from p1) (show s.heap.IsTuple b #[_,_] from p2) (by omega) (fun j h1 h2=>by
   match j,h1 with
   | 0,_=>exact SeqAt.EqAt.str_str z t1 z' t2
   | 1,_=>exact SeqAt.EqAt.tuple_str k t3 (show s.heap.IsTuple p kts.toArray from p3) (by show X.A.units+1 < _;omega))
  have nz:(z == z')=false:=beq_eq_false_iff_ne.mpr ne;have ef:((List.range (min (2:Nat) 2)).all (fun j=>if j=0 then (z == z') else false) && ((2:Nat) == 2))=false:=by rw [nz];rfl
  have:=this X.prog X.w X.xe (EP X pins σ Q) (by
   show EP X pins σ Q (.bool ((List.range (min (2:Nat) 2)).all (fun j=>if j=0 then (z == z') else false) && ((2:Nat) == 2))) s;rw [ef];exact bR I q rfl)
  exact this
section
variable {K:PySem.W.Frag} {n:Nat} {H:Hp} {Q:VK} {a b:Addr}
theorem azX:azR K n (.ref a) (.ref b) H Q=((∃ r,vO K H n a b r/\Q (.bl r) H)\/∃(z z' u:Str) (p:Addr) (ts:List V),H a=some (.tup [.str z,.ref p])/\H p=some (.tup ts)/\H b=some (.tup [.str z',.str u])/\z≠z'/\Q (.bl false) H):=rfl
end
end L2
namespace L2
open PySem PySem.Spec PyProof.Rows
noncomputable def iJ:List (Key×V)->Option (List Str)
 | []=>some []
 | (.inr i,_)::r=>(iJ r).map (i::·)
 | _=>none
theorem zO:∀ {kvs:List (Key×V)} {ns:List Str},iJ kvs=some ns->kvs.length=ns.length/\∀(j:Nat) (k:Key) (x:V),kvs[j]?=some (k,x)->∃ i:Str,k=.inr i/\ns[j]?=some i
 | [],ns,h=>by cases h;exact ⟨rfl,fun j k x e=>by simp at e⟩
 | (k,v)::kvs,ns,h=>by
  cases k with
  | inr i =>
   simp only [iJ,Option.map_eq_some_iff] at h;obtain ⟨ms,e,rfl⟩:=h;obtain ⟨l,f⟩:=zO e;refine ⟨by simp [l],fun j k x ej=>?_⟩;cases j with
   | zero=>simp only [List.getElem?_cons_zero,Option.some.injEq,Prod.mk.injEq] at ej;exact ⟨i,ej.1.symm,rfl⟩
   | succ j=>exact f j k x (by simpa using ej)
  | _=>cases h
theorem aq1 {ns:List Str}:∀ {vs:List Value},vs.length=ns.length->(∀(j:Nat) (v:Value),vs[j]?=some v->∃ i t,ns[j]?=some i/\v=Value.str i t)->StrsAre vs ns:=by
 induction ns with
 | nil =>
  intro vs hl _;cases vs with
  | nil=>exact .nil
  | cons _ _=>simp at hl
 | cons n ns ih =>
  intro vs hl h;cases vs with
  | nil=>simp at hl
  | cons v vs =>
   obtain ⟨i,t,e,rfl⟩:=h 0 v rfl;cases e;exact .cons _ _ (ih (by simpa using hl) fun j v e=>h (j+1) v (by simpa using e))
theorem ah0 {vs:List Value} {ss:List Str} (h:StrsAre vs ss):Vals (ss.map V.str) vs:=by
 induction h with
 | nil=>exact .nil
 | cons y t _ ih=>exact .cons ⟨t,rfl⟩ ih
noncomputable def anV:List V->Hp->VK->Prop:=fun vs H Q=>on1 vs fun x=>bF x fun p=>c0 (H p) fun kvs=>gR (iJ kvs) fun ns=>ns.length < 64/\∀(l:Addr) (ns':List Str),H l=none->ns'.Perm ns->sortedS ns'=true->Q (.ref l) (upd H l (.lst (ns'.map V.str)))
theorem aaM {X:Cx} (hc:X.calm=true):dW X (.builtin "sorted") anV:=fun pins s σ H xs us Q I r h=>by
 obtain ⟨x,rfl,h1⟩:=hJ h;obtain ⟨p,rfl,h2⟩:=aT h1;obtain ⟨kvs,e,h3⟩:=c5 h2;obtain ⟨ns,ek,h64,q⟩:=c8 h3;obtain ⟨u,rfl,ru⟩:=vals1 r;cases ru;obtain ⟨hl,hk⟩:=zO ek;obtain ⟨z,hd,vs0,rel,dd⟩:=rV I.hok e;obtain ⟨ep,dat⟩:=dd.dictAt;obtain ⟨od,es,ho,_⟩:=id dat;obtain ⟨m,hn,_⟩:=I.loc;have hne:p≠X.env.locals:=aL e I.free;have l0:=rel.length;refine PySem.W.kdu_sorted (PySem.W.kdl_dict (knd:=bY X.prog X.w) (kvs:=vs0) (ep:=ep) hd) (I.ok.hd hc) (Att.ahY hn) (Att.mX hne ho) dat (by omega) fun D h' tk vs F N lt hlen hP=>?_;have hI:StrsAre vs ns:=aq1 (by omega) fun j v ev=>by
  obtain ⟨k,x,e1,e2⟩:=hP j v ev;have hj:j < kvs.length:=by
   have:=(List.getElem?_eq_some_iff.mp e1).1;omega
  obtain ⟨⟨k',x'⟩,ekv⟩:∃ y,kvs[j]?=some y:=⟨_,List.getElem?_eq_getElem hj⟩;obtain ⟨v',e3⟩:=KV.at rel ekv;rw [e1] at e3;cases e3;obtain ⟨i,rfl,ei⟩:=hk j _ _ ekv;obtain ⟨t,et⟩:=(show ∃ t,v=Value.str i t from rJ e2);exact ⟨i,t,ei,et⟩
 have hD:h'.get? D=some (seqObj "list" vs.toArray 0):=(N _ (List.Mem.head _)).1;have old:∀ b o,b≠X.env.locals->s.heap.get? b=some o->h'.get? b=some o/\b < D:=fun b o nb eb=>by
  by_cases hb:b=p
  ·subst hb;rw [ho] at eb;cases eb;exact ⟨(N _ (List.Mem.tail _ (List.Mem.head _))).1,lt _ (List.Mem.head _)⟩
  ·have mem:=Att.lM (h:=s.heap) (L:=X.env.locals) (d:=p) |>.mpr ⟨nb,hb,eb⟩;exact ⟨(N _ (List.Mem.tail _ (List.Mem.tail _ mem))).1,lt _ (List.Mem.tail _ mem)⟩
 have g:MeetsIn X.prog X.w (Builtin.«list.sort» ⟨[.ref D],[]⟩) (fun _ R s=>s.heap.get? D=some (seqObj "list" vs.toArray 0)/\∀(out:Array Value) (ns':List Str),StrsAre out.toList ns'->ns'.Perm ns->sortedS ns'=true->R (.ok (.ret .none)) {s with heap:=sortedHeap s.heap D vs out}) :=
  fun A R s ⟨g1,g2⟩=>list_sort_treeK strKind_oneLt g1 hI.keysOf (fun v₁ v₂ rest e=>keyKind_strs (by rw [<- e];exact hI)) (by omega) fun st' hp hs=>by
   obtain ⟨ss',h1,h2,h3⟩:=sorted_out_str hI hp hs;exact g2 _ ss' h1 h2 h3
 refine call_meetsIn PySem.F.slot_list_sort ⟨_,hD,rfl⟩ PySem.F.entry_list_sort (PySem.F.args_list_sort_1 _) g ⟨hD,fun out ns' hI' hp hs=>?_⟩;have hDL:D≠X.env.locals:=(N _ (List.Mem.head _)).2.1;have hDn:H D=none:=by
  cases z:H D with
  | none=>rfl
  | some o =>
   obtain ⟨ob,eb⟩:=(I.hok D o z).there;exact absurd (old D ob hDL eb).2 (Nat.lt_irrefl _)
 have new:∀ b o,b≠X.env.locals->s.heap.get? b=some o->(sortedHeap h' D vs out).get? b=some o:=fun b o nb eb=>by
  obtain ⟨h1,h2⟩:=old b o nb eb;rw [sortedHeap_old (Nat.ne_of_lt h2) (Heap.lt_size h1)];exact h1
 obtain ⟨e',hD'⟩:=sortedHeap_at (out:=out) hD;have hns:∀ m',s.heap.Ns X.env.locals m'->(sortedHeap h' D vs out).Ns X.env.locals m':=fun m' hm=>by
  have em:m'=m:=by
   obtain ⟨o1,es1,ep1,a1,b1,_,c1⟩:=hm;obtain ⟨o2,es2,ep2,a2,b2,_,c2⟩:=hn;rw [a1] at a2;cases a2;rw [b1] at b2;cases b2;funext y;rw [<- c1,<- c2]
  subst em;obtain ⟨o1,es1,ep1,a1,r1⟩:=F.ns;exact ⟨o1,es1,ep1,by rw [sortedHeap_old hDL.symm (Heap.lt_size a1)];exact a1,r1⟩
 have nn:∀ {b:Addr} {o:HO},H b=some o->b≠D:=fun h z=>by subst z;rw [hDn] at h;cases h
 have nl:∀ {b:Addr} {o:HO},H b=some o->b≠X.env.locals:=fun h=>aL h I.free;refine ⟨.ref D,upd H D (.lst (ns'.map V.str)),show Inv X pins σ _ {s with heap:=sortedHeap h' D vs out,gens:=s.gens,drawn:=s.drawn,toks:=tk} from I.step (g':=s.gens) (d':=s.drawn) (t':=tk) (ch:=[]) (fun _ z=>nomatch z) (fun b o nb _ _ eb _=>new b o nb eb) (fun b o nb _ _ eb _=>⟨o.slots,new b o nb eb⟩) (fun b o _ eb hb=>?_) (fun b o _ eb=>?_)
  (fun b xs hb=>by rw [aI (nn hb)];exact hb) (fun b o u hb=>by rw [aI (nn hb)];exact hb) (fun b ps hb=>⟨#[],by rw [aI (nn hb),hb];simp⟩) hns (fun b o hb=>?_) I.bare,rfl,q D ns' hDn hp hs⟩
 ·by_cases hbD:b=D
  ·subst hbD;by_cases hbL:b=X.env.locals
   ·exact absurd hbL hDL
   ·exact absurd (old b o hbL eb).2 (Nat.lt_irrefl _)
  ·rw [aI hbD];exact hb
 ·by_cases hbL:b=X.env.locals
  ·subst hbL;obtain ⟨o1,es1,ep1,a1,r1⟩:=hns m hn;exact ⟨o1,a1⟩
  ·exact ⟨o,new b o hbL eb⟩
 ·by_cases hbD:b=D
  ·subst hbD;rw [aA] at hb;cases hb;exact ⟨by rw [List.length_map,hp.length_eq];omega,out.toList,e',ah0 hI',hD'⟩
  ·rw [aI hbD] at hb;refine (I.hok b o hb).stay (fun c v hc ev=>?_) (fun c hc=>by rw [aI (nn hc)];exact hc) fun c xs hc=>by rw [aI (nn hc)];exact hc
   rcases hc with hc | hc
   ·subst hc;exact new c v (nl hb) ev
   ·exact new c v (nl hc) ev
section
variable {H:Hp} {Q:VK} {p:Addr}
theorem asB:anV [.ref p] H Q=c0 (H p) fun kvs=>gR (iJ kvs) fun ns=>ns.length < 64/\∀(l:Addr) (ns':List Str),H l=none->ns'.Perm ns->sortedS ns'=true->Q (.ref l) (upd H l (.lst (ns'.map V.str))):=rfl
end
end L2
namespace PySem
open AutoSeq1 (wpAny_loadPart')
open PyProof.Rows PySem.W
section
variable {prog:Program} {w:World} {A:Around} {E:Value->Shared->Prop} {s:Shared} {K:Type} [DecidableEq K] {knd:KeyKind prog w K} {r d:Addr} {kvs:List (K×Value)} {ep:Nat}
theorem nM {Q₁:Value->Shared->Prop} (hh:A.handled=none) (hv:s.heap.IsItemsView r d) (hm:s.heap.DictAt knd d kvs ep) (hn:kvs.length<=sizeLine)
    (hQ:∀(h':Heap) (tk:Nat) (as:List Addr),(∀ b o,s.heap.get? b=some o->h'.get? b=some o)->as.length=kvs.length->KdxG knd kvs s.heap.objs.size h' as->Q₁ (.ref h'.objs.size) {s with heap:=h'.push {cls:=.type "tuple",data:=.seq (as.map Value.ref).toArray},toks:=tk}) :
    codeAny (model prog w) A (.call (.builtin "tuple.__new__") ⟨[.type "tuple",.ref r],[]⟩) (wants Q₁ E) s:=by
  refine codeAny_of_tree ?_;show wpAny _ A.in1 (do checkBuiltinCall "tuple.__new__" ⟨[.type "tuple",.ref r],[]⟩;again (.builtin "tuple.__new__" ⟨[.type "tuple",.ref r],[]⟩)) _ _ s;refine wpAny_bind (wpAny_of_eq (F.newCall_tuple_1 _) (wpAny_pure ⟨plainId_quiet F.plain_tuple_new _,codeAny_builtin F.entry_tuple_new ?_⟩));rw [Around.under_plainId F.plain_tuple_new _];have hsub:=sub_tuple_self;have hinit:=init_tuple_lookup;have hmh:=madeHere_tuple;have hTI:s.TypeIs (.ref r) "dict_items":=let ⟨o,ho,x,_⟩:=hv;⟨o,ho,x⟩;wp_walk using wpAny_typeOf hTI,kdx_collect (A:=A.in1) (knd:=knd) (kvs:=kvs) (ep:=ep) hh hv hm hn;intro h' tk as hk hl hG;show wpAny _ _ (Builtin.Tuple.tupleExact (as.map Value.ref).toArray >>= fun v=>ret v) _ _ _;unfold Builtin.Tuple.tupleExact;refine wpAny_bind (wpAny_newObj_type ?_ (by show (as.map Value.ref).toArray.size<=sizeLine;simpa [hl] using hn));refine wpAny_pure ?_;exact hQ h' tk as hk hl hG
theorem uS {Q:Value->Shared->Prop} (hh:A.handled=none) (hv:s.heap.IsItemsView r d) (hm:s.heap.DictAt knd d kvs ep) (hn:kvs.length<=sizeLine)
    (hQ:∀(h':Heap) (tk:Nat) (as:List Addr),(∀ b o,s.heap.get? b=some o->h'.get? b=some o)->as.length=kvs.length->KdxG knd kvs s.heap.objs.size h' as->Q (.ref h'.objs.size) {s with heap:=h'.push {cls:=.type "tuple",data:=.seq (as.map Value.ref).toArray},toks:=tk}) :
    wpAny (model prog w) A (call (.type "tuple") [.ref r]) Q E s:=by
  refine callType_codes (Q₁:=fun obj s₁=>s₁.TypeIs obj "tuple"/\Q obj s₁) F.called_tuple (F.typeCall_tuple_1 _) F.entry_object_init
    (nM (knd:=knd) (kvs:=kvs) (ep:=ep) hh hv hm hn fun h' tk as hk hl hG=>⟨⟨_,Heap.get?_push_size _ rfl,rfl⟩,hQ h' tk as hk hl hG⟩) fun obj s₁ h₁=>?_
  exact ⟨h₁.1,F.args_object_init_2 obj _,object_init_meets F.called_tuple.init.lookup F.called_tuple.made (by decide) prog w A.in1 _ s₁ ⟨h₁.1,rfl,h₁.2⟩⟩
end
end PySem
namespace L2
open PySem PySem.Spec PyProof.Rows
noncomputable def ItE (a d:Addr):HO:=.ext fun h=>h.IsItemsView a d
section
variable {X:Cx} {o:Expr} {td:TE} {apos cpos:Pos}
noncomputable def ao2 (td:TE):TE:=fun σ H Q=>td σ H fun x H1=>bF x fun a=>c0 (H1 a) fun _=>∀ r,H1 r=none->Q (.ref r) (upd H1 r (ItE r a))
theorem ap6 (ho:PE X o td) (hbase:attributeBase o "items" X.env (eval o X.env)=eval o X.env:=by rfl) (hline:(apos.endLine == cpos.line)=true:=by rfl):PE X (.Call (.Attribute o "items" apos) [] [] cpos) (ao2 td):=fun pins s σ H Q I h=>by
 refine wpAny_Call_method0_late hbase hline (thn (ho pins s σ H _ I h) fun v s1 ⟨x,H1,I1,r1,q1⟩=>?_);obtain ⟨a,rfl,q2⟩:=aT q1;obtain ⟨kvs,e0,q3⟩:=c5 q2;obtain rfl:v=Value.ref a:=r1;obtain ⟨t1,t2,_⟩:=tZ I1 (.inl ⟨kvs,.inl e0⟩);refine ⟨"dict","dict.items",PySem.F.plainAttrs_dict,PySem.F.slot_dict_items,PySem.F.type_dict_items,t1,t2,Calls.callWith_builtin rfl (PySem.evalArgs_none ?_)⟩;obtain ⟨z,hd,vs,rel,dd⟩:=rV I1.hok e0;refine call_meetsIn PySem.F.slot_dict_items dd.typeIs PySem.F.entry_dict_items (PySem.F.args_dict_items_1 _) (meets_dict_items (bY X.prog X.w) a hd) ⟨⟨vs,dd⟩,?_⟩;have I2:=I1.laid (t':=s1.toks) (fun b o e=>Heap.get?_push_of_some _ e) (Nat.le_refl _) (show dM X.prog X.w _ (s1.heap.push {cls:=.type "dict_items",data:=.fields #[.ref a]}) _ (ItE s1.heap.objs.size a) from ⟨⟨_,Heap.get?_push_size _ rfl,rfl,rfl⟩,⟨_,Heap.get?_push_size _ rfl⟩,fun h1 h2 ⟨o,ho,x⟩ k=>⟨o,k o ho,x⟩⟩);exact ⟨.ref _,_,I2,rfl,q3 _ (I1.hok.fresh (Nat.le_refl _))⟩
end
theorem KV.atR {kvs:List (Key×V)} {vs:List (Key×Value)} (r:KV kvs vs) {i:Nat} {k:Key} {x:V} (e:kvs[i]?=some (k,x)):∃ v,vs[i]?=some (k,v)/\bO x v:=by
 unfold KV at r
 induction r generalizing i with
 | nil=>simp at e
 | @cons p q ps qs h t ih=>cases i with
  | zero =>
   have e':p=(k,x):=by simpa using e
   subst e';exact ⟨q.2,by rw [List.getElem?_cons_zero,show k=q.1 from h.1],h.2⟩
  | succ i=>simpa using ih (i:=i) (by simpa using e)
theorem acN:∀ as:List Addr,Vals (as.map V.ref) (as.map Value.ref)
 | []=>.nil
 | a::as=>.cons rfl (acN as)
noncomputable def mN:List Addr->List (Key×V)->Hp->Hp
 | a::as,(k,x)::kvs,H=>upd (mN as kvs H) a (.tup [kV k,x])
 | _,_,H=>H
theorem oH {H:Hp} {b:Addr}:∀ {as:List Addr} {kvs:List (Key×V)},b∉as->mN as kvs H b=H b
 | [],_,_=>by simp [mN]
 | a::as,[],_=>by simp [mN]
 | a::as,(k,x)::kvs,h=>by
  simp only [List.mem_cons,not_or] at h;rw [mN,aI h.1,oH h.2]
theorem wZ {H:Hp} {a:Addr} {k:Key} {x:V}:∀ {as:List Addr} {kvs:List (Key×V)} {j:Nat},as.Nodup->as[j]?=some a->kvs[j]?=some (k,x)->mN as kvs H a=some (.tup [kV k,x])
 | [],_,_,_,h,_=>by simp at h
 | b::as,[],_,_,_,h=>by simp at h
 | b::as,(k',x')::kvs,0,_,h1,h2=>by
  simp only [List.getElem?_cons_zero,Option.some.injEq,Prod.mk.injEq] at h1 h2;obtain ⟨rfl,rfl⟩:=h2;subst h1;rw [mN,aA]
 | b::as,(k',x')::kvs,j+1,nd,h1,h2=>by
  rw [List.nodup_cons] at nd;simp only [List.getElem?_cons_succ] at h1 h2;have:a≠b:=fun z=>nd.1 (by rw [<- z];exact List.mem_of_getElem? h1);rw [mN,aI this,wZ nd.2 h1 h2]
theorem ap5 {H:Hp} {b:Addr} {o:HO} {as:List Addr} {kvs:List (Key×V)} (nd:as.Nodup) (hl:as.length=kvs.length) (hb:b∈as) (h:mN as kvs H b=some o):∃(j:Nat) (k:Key) (x:V),as[j]?=some b/\kvs[j]?=some (k,x)/\o=.tup [kV k,x]:=by
 obtain ⟨j,hj⟩:=List.mem_iff_getElem?.mp hb;have hlt:j < kvs.length:=by have:=(List.getElem?_eq_some_iff.mp hj).1;omega
 obtain ⟨⟨k,x⟩,e⟩:∃ y,kvs[j]?=some y:=⟨_,List.getElem?_eq_getElem hlt⟩;rw [wZ nd hj e] at h;exact ⟨j,k,x,hj,e,(Option.some.inj h).symm⟩
noncomputable def apC:List V->Hp->VK->Prop:=fun vs H Q=>on1 vs fun x=>bF x fun r=>∃(d:Addr) (kvs:List (Key×V)),H r=some (ItE r d)/\H d=some (.dK kvs)/\∀(l:Addr) (as:List Addr) (H':Hp),H l=none->Same H H'->H' l=some (.tup (as.map V.ref))->as.length=kvs.length->(∀(j:Nat) (a:Addr) (k:Key) (x:V),as[j]?=some a->kvs[j]?=some (k,x)->H' a=some (.tup [kV k,x]))->Q (.ref l) H'
theorem ahB {X:Cx} (hc:X.calm=true):dW X (.type "tuple") apC:=fun pins s σ H xs us Q I rr h=>by
 obtain ⟨x,rfl,h1⟩:=hJ h;obtain ⟨r,rfl,d,kvs,er,ed,q⟩:=aT h1;obtain ⟨u,rfl,ru⟩:=vals1 rr;cases ru;have hv:s.heap.IsItemsView r d:=(I.hok r _ er).1;obtain ⟨z,hd,vs0,rel,dd⟩:=rV I.hok ed;obtain ⟨ep,dat⟩:=dd.dictAt;have l0:=rel.length;refine uS (knd:=bY X.prog X.w) (kvs:=vs0) (ep:=ep) (I.ok.hd hc) hv dat (by omega) fun h' tk as hk hl hG=>?_;have fresh:∀ {b:Addr},s.heap.objs.size<=b->H b=none:=fun hb=>I.hok.fresh hb;have thereH:∀ b o,H b=some o->∃ ob,s.heap.get? b=some ob:=fun b o e=>(I.hok b o e).there;have hl0:H h'.objs.size=none:=by
  cases e:H h'.objs.size with
  | none=>rfl
  | some o =>
   obtain ⟨ob,eb⟩:=thereH _ _ e;exact absurd (Heap.lt_size (hk _ _ eb)) (Nat.lt_irrefl _)
 have nd:as.Nodup:=hG.rise.imp fun h=>Nat.ne_of_lt h;have aH:∀ a∈as,H a=none:=fun a ha=>fresh (Nat.le_of_lt (hG.above a ha));have nl:h'.objs.size∉as:=fun z=>absurd (hG.there z) (Nat.lt_irrefl _);have hlk:as.length=kvs.length:=by omega
 have same:Same H (upd (mN as kvs H) h'.objs.size (.tup (as.map V.ref))):=fun b o e=>by
  have h1:b≠h'.objs.size:=fun z=>by rw [z,hl0] at e;cases e
  have h2:b∉as:=fun z=>by rw [aH b z] at e;cases e
  rw [aI h1,oH h2];exact e
 have pushK:∀ b o,s.heap.get? b=some o->(h'.push {cls:=.type "tuple",data:=.seq (as.map Value.ref).toArray}).get? b=some o:=fun b o e=>Heap.get?_push_of_some _ (hk b o e);refine ⟨.ref h'.objs.size,upd (mN as kvs H) h'.objs.size (.tup (as.map V.ref)),show Inv X pins σ _ {s with heap:=h'.push {cls:=.type "tuple",data:=.seq (as.map Value.ref).toArray},gens:=s.gens,drawn:=s.drawn,toks:=tk} from I.step (g':=s.gens) (d':=s.drawn) (t':=tk) (ch:=[]) (fun _ z=>nomatch z) (fun b o nb _ _ eb _=>pushK b o eb) (fun b o nb _ _ eb _=>⟨o.slots,pushK b o eb⟩) (fun b o _ eb hb=>?_) (fun b o _ eb=>⟨o,pushK b o eb⟩)
  (fun b xs hb=>same b _ hb) (fun b o u hb=>same b _ hb) (fun b ps hb=>⟨#[],by rw [same b _ hb];simp⟩) (fun m hm=>?_) (fun b o hb=>?_) I.bare,rfl,q _ as _ hl0 same aA hlk fun j a k x e1 e2=>?_⟩
 ·have h1:b≠h'.objs.size:=Nat.ne_of_lt (Heap.lt_size (hk b o eb));have h2:b∉as:=fun z=>absurd (Nat.lt_trans (hG.above b z) (Heap.lt_size eb)) (Nat.lt_irrefl _);rw [aI h1,oH h2];exact hb
 ·obtain ⟨o1,es1,ep1,a1,r1⟩:=hm;exact ⟨o1,es1,ep1,pushK _ _ a1,r1⟩
 ·by_cases h1:b=h'.objs.size
  ·subst h1;rw [aA] at hb;cases hb;exact ⟨by rw [List.length_map];omega,as.map Value.ref,acN as,IsTup.new _ _⟩
  ·rw [aI h1] at hb;by_cases h2:b∈as
   ·obtain ⟨j,k,x,e1,e2,rfl⟩:=ap5 nd hlk h2 hb;obtain ⟨key,k',x',e3,e4,e5⟩:=hG.pairs j b e1;obtain ⟨v,e6,e7⟩:=KV.atR rel e2;rw [e3] at e6;cases e6;exact ⟨by show 2<=sizeLine;rw [sizeLine_eq];decide,[key,x'],.cons (rJ e4) (.cons e7 .nil),⟨_,Heap.get?_push_of_some _ e5,rfl,_,rfl⟩⟩
   ·rw [oH h2] at hb;exact (I.hok b o hb).stay (fun c v _ ev=>pushK c v ev) (fun c hc=>same _ _ hc) fun c xs hc=>same _ _ hc
 ·have:a≠h'.objs.size:=fun z=>nl (by rw [<- z];exact List.mem_of_getElem? e1);rw [aI this,wZ nd e1 e2]
section
variable {H:Hp} {Q:VK} {p:Addr} {td:TE} {σ:St}
theorem as7:ao2 td σ H Q=td σ H fun x H1=>bF x fun a=>c0 (H1 a) fun _=>∀ r,H1 r=none->Q (.ref r) (upd H1 r (ItE r a)):=rfl
theorem atC:apC [.ref p] H Q = ∃(d:Addr) (kvs:List (Key×V)),H p=some (ItE p d)/\H d=some (.dK kvs)/\∀(l:Addr) (as:List Addr) (H':Hp),H l=none->Same H H'->H' l=some (.tup (as.map V.ref))->as.length=kvs.length->(∀(j:Nat) (a:Addr) (k:Key) (x:V),as[j]?=some a->kvs[j]?=some (k,x)->H' a=some (.tup [kV k,x]))->Q (.ref l) H':=rfl
end
end L2
namespace L2
open PySem PySem.Spec PyProof.Rows
noncomputable def leS (a b:Str):Prop:=a.cps.toList<=b.cps.toList
theorem ab2 {a b c:Str} (h:leS a b) (g:leS b c):leS a c:=List.le_trans h g
theorem anL {a b:Str} (h:leS a b) (g:leS b a):a=b:=by
 have e:=List.le_antisymm h g;obtain ⟨⟨x⟩⟩:=a;obtain ⟨⟨y⟩⟩:=b;simp only at e;rw [e]
theorem amA (a b:Str):leS a b\/leS b a:=List.le_total a.cps.toList b.cps.toList
theorem zC:∀ {l:List Str} {p:Str},risingS p l=true->(p::l).Pairwise leS
 | [],p,_=>by simp
 | x::r,p,h=>by
  rw [risingS,Bool.and_eq_true,Bool.not_eq_true',ltCps_eq,decide_eq_false_iff_not,List.not_lt] at h;have ih:=zC h.2;rw [List.pairwise_cons];refine ⟨fun y hy=>?_,ih⟩;rcases List.mem_cons.mp hy with rfl | hy
  ·exact h.1
  ·exact ab2 h.1 ((List.pairwise_cons.mp ih).1 y hy)
theorem agZ {l:List Str} (h:sortedS l=true):l.Pairwise leS:=by
 cases l with
 | nil=>exact .nil
 | cons x r=>exact zC h
theorem ai5:∀ {a b:List Str},a.Perm b->a.Pairwise leS->b.Pairwise leS->a=b
 | [],b,p,_,_=>by rw [List.nil_perm.mp p]
 | x::a,[],p,_,_=>by have:=p.length_eq;simp at this
 | x::a,y::b,p,ha,hb=>by
  rw [List.pairwise_cons] at ha hb;have e:x=y:=by
   have h1:x∈y::b:=p.mem_iff.mp (by simp);have h2:y∈x::a:=p.mem_iff.mpr (by simp);rcases List.mem_cons.mp h1 with h1 | h1
   ·exact h1
   rcases List.mem_cons.mp h2 with h2 | h2
   ·exact h2.symm
   exact anL (ha.1 y h2) (hb.1 x h1)
  subst e;rw [ai5 p.cons_inv ha.2 hb.2]
noncomputable def leB (a b:Str):Bool:=!(ltCps b.cps.toList a.cps.toList)
theorem oN {a b:Str}:leB a b=true↔leS a b:=by
 rw [leB,Bool.not_eq_true',ltCps_eq,decide_eq_false_iff_not,List.not_lt];exact Iff.rfl
noncomputable def srt (l:List Str):List Str:=l.mergeSort leB
theorem aoC {l ns:List Str} (p:ns.Perm l) (h:sortedS ns=true):ns=srt l:=by
 refine ai5 (p.trans (List.mergeSort_perm l leB).symm) (agZ h) ?_;have:=List.pairwise_mergeSort (le:=leB) (fun a b c h g=>oN.mpr (ab2 (oN.mp h) (oN.mp g))) (fun a b=>by
  rcases amA a b with h | h
  ·rw [oN.mpr h];simp
  ·rw [oN.mpr h];simp) l
 exact this.imp fun h=>oN.mp h
end L2
namespace L2
open PySem PySem.Spec PyProof.Rows
theorem aj3:∀(f n r:Nat),r<=1->minRun' f n r<=n+r
 | 0,n,r,_=>Nat.le_of_eq rfl
 | f+1,n,r,hr=>by
  rw [minRun'_succ];split
  ·omega
  ·have:=aj3 f (n / 2) (max r (n % 2)) (by omega);omega
section
variable {prog:Program} {w:World} {A:Around} {E:Value->Shared->Prop} {s:Shared} {b0:Array Keyed}
theorem aw3 {st:SortSt} {C:Option Nat->SortSt->Prop} (ik:IntKeys b0) (sb:SBase b0 st) (one:1<=b0.size) (up:∀ n,1<=n->n < b0.size->K (arrOf st) (n - 1)<=K (arrOf st) n)
    (q:SortedTo (arrOf st) b0.size->C (some b0.size) st):wpS (model prog w) A E s (countRun' 0 b0.size) C st:=by
  rw [countRun0_eq];refine wpS_bind (wpS_ascLoop ik (Nat.le_refl _) (Nat.le_refl 1) one sb (fun i j a b=>?_) fun n n1 n2 so oz=>?_)
  · obtain rfl:i=j:=by omega
    exact Int.le_refl _
  · have en:n=b0.size:=by
      rcases oz with z | z
      · exact z
      · rcases Nat.lt_or_ge n b0.size with y | y
        · have:=up n n1 y;omega
        · omega
    dsimp only;rw [en] at so ⊢;rw [if_pos (by simp)];exact wpS_pure (q so)
theorem arH {st:SortSt} {C:Unit->SortSt->Prop} (ik:IntKeys b0) (sb:SBase b0 st) (two:2<=b0.size) (up:∀ n,1<=n->n < b0.size->K (arrOf st) (n - 1)<=K (arrOf st) n)
    (q:∀ st',(arrOf st').Perm b0->failedOf st'=none->SortedTo (arrOf st') b0.size->C () st'):wpS (model prog w) A E s sortRuns' C st:=by
  rw [sortRuns'_eq];refine wpS_bind (wpS_get ?_);dsimp only;have mr:=aj3 b0.size b0.size 0 (by omega);simp only [sb.size];obtain ⟨P1,hP1⟩:∃ P1:SortSt->Prop,∀ z,P1 z=(arrOf z=arrOf st/\failedOf z=none/\pendingOf z = #[(0,b0.size,0)]/\SortedTo (arrOf z) b0.size):=⟨_,fun _=>rfl⟩;refine wpS_bind (wpS_mono (wpS_forRange (I:=fun x c z=>(x=0/\c=(none,0)/\z=st)\/(1<=x/\c=(none,b0.size)/\P1 z)) (Q:=fun c z=>c=(none,b0.size)/\P1 z) ?stp ?end0 (.inl ⟨rfl,rfl,rfl⟩)) ?aft)
  case end0 =>
    rintro c z (⟨a,_,_⟩ | ⟨_,a,b⟩)
    · omega
    · exact ⟨a,b⟩
  case stp =>
    rintro x c z _ _ (⟨rfl,rfl,rfl⟩ | ⟨_,rfl,b⟩)
    · dsimp only;rw [if_neg (by omega)];simp only [Nat.sub_zero,Nat.zero_add];refine wpS_bind (aw3 ik sb (by omega) up fun so=>?_);dsimp only;rw [if_neg (by omega)];refine wpS_bind (wpS_get ?_);rw [show (pendingOf z).back?=none by rw [sb.pend];rfl];dsimp only;refine wpS_bind (wpS_modify (wpS_pure (.inr ⟨Nat.le_refl _,rfl,?_⟩)));rw [hP1];exact ⟨rfl,sb.failed,by show (pendingOf z).push _=_;rw [sb.pend];rfl,so⟩
    · dsimp only;rw [if_pos (Nat.le_refl _)];exact wpS_pure ⟨rfl,b⟩
  case aft =>
    rintro c z ⟨rfl,b⟩;rw [hP1] at b;dsimp only;refine wpS_bind (wpS_mono (wpS_forRange (I:=fun _ c y=>y=z/\c=(none,())) (Q:=fun c y=>y=z/\c=(none,())) ?_ (fun _ _ e=>e) ⟨rfl,rfl⟩) ?_)
    · rintro x c y _ _ ⟨rfl,rfl⟩;refine wpS_bind (wpS_get ?_);rw [if_pos (by rw [b.2.2.1];exact Nat.le_refl 1)];exact wpS_pure ⟨rfl,rfl⟩
    · rintro c y ⟨rfl,rfl⟩;exact wpS_pure (q _ (b.1 ▸ sb.perm) b.2.1 b.2.2.2)
theorem apY {vs:List Value} {ns:List Int} (hI:IntsAre vs ns):∀ {i:Nat} {n:Int},ns[i]?=some n->∃ t,vs[i]?=some (.int n t):=by
 induction hI with
 | nil=>intro i n h;simp at h
 | cons m t _ ih =>
  intro i n h;cases i with
  | zero =>
   simp only [List.getElem?_cons_zero,Option.some.injEq] at h;subst h;exact ⟨t,rfl⟩
  | succ i=>exact ih (by simpa using h)
theorem at2 {vs:List Value} {ns:List Int} (hI:IntsAre vs ns) {i:Nat} {n:Int} (h:ns[i]?=some n):K (pairsOf vs) i=n:=by
 obtain ⟨t,e⟩:=apY hI h;have z:(pairsOf vs)[i]?=some (.int n t,.int n t):=by
  rw [<- Array.getElem?_toList,pairsOf_toList,List.getElem?_zip_eq_some];exact ⟨e,e⟩
 unfold K;rw [z];rfl
theorem adV {a:Addr} {vs:List Value} {ns:List Int} {n:Nat} {C:Fin->Shared->Prop} (ho:s.heap.get? a=some (seqObj "list" vs.toArray n)) (hI:IntsAre vs ns) (hr:ns.Pairwise (·<=·)) (hz:vs.length<=sizeLine)
    (q:∀(out:Array Value) (ns':List Int),IntsAre out.toList ns'->ns'.Perm ns->ns'.Pairwise (·<=·)->C (.done (.ret .none)) {s with heap:=sortedHeap s.heap a vs out}) :
    wpAny (model prog w) A (Builtin.«list.sort» ⟨[.ref a],[]⟩) C E s:=by
  by_cases few:vs.length < 64
  · exact list_sort_tree ho hI few q
  have lI:vs.length=ns.length:=hI.length;have la:a < s.heap.objs.size:=Heap.lt_size ho;rw [list_sort_plain];refine wpAny_bind (listItems_at ho rfl (wpAny_bind (listUpdate_at ho rfl ?_)));obtain ⟨e1,o1⟩:∃ e1,(s.heap.update a (Obj.mapSeq fun _=>#[])).get? a=some (seqObj "list" #[] e1):=⟨_,get?_update_seq ho (fun _=>#[])⟩;refine wpAny_bind (seqEpoch_at o1 rfl (wpAny_bind (wpAny_newTuple (wpAny_bind (wpAny_newList (wpAny_holding ?_))))));have o6:(((s.heap.update a (Obj.mapSeq fun _=>#[])).push (seqObj "tuple" vs.toArray 0)).push (seqObj "list" #[] 0)).get? a=some (seqObj "list" #[] e1):=Heap.get?_push_of_some _ (Heap.get?_push_of_some _ o1);show wpAny (model prog w) A _ C E {s with heap:=((s.heap.update a (Obj.mapSeq fun _=>#[])).push (seqObj "tuple" vs.toArray 0)).push (seqObj "list" #[] 0)};dsimp only;have hne:¬ vs.toArray.size < 2:=by rw [List.size_toArray];omega
  rw [if_neg hne,if_neg hne];obtain ⟨u,v,rest,rfl⟩:∃ u v rest,vs=u::v::rest:=by
    match vs,few with
    | [],z=>exact absurd (by simp) z
    | [_],z=>exact absurd (by simp) z
    | u::v::rest,_=>exact ⟨u,v,rest,rfl⟩
  rw [keyKind_ints hI];refine wpAny_bind (wpAny_pure (wpAny_bind (wpAny_mono (arH (b0:=pairsOf (u::v::rest)) (st:=SortSt.mk' oneType' ((u::v::rest).toArray.zip (u::v::rest).toArray) #[] 7 none)
    (C:=fun _ z=>(arrOf z).Perm (pairsOf (u::v::rest))/\failedOf z=none/\SortedTo (arrOf z) (pairsOf (u::v::rest)).size)
    hI.intKeys ⟨Array.Perm.refl _,rfl,rfl,rfl⟩ (by rw [pairsOf_size];simp) (fun i i1 i2=>?_) fun z x y c=>⟨x,y,c⟩) ?_ fun _ _ e=>e)))
  · rw [pairsOf_size] at i2;have l1:i - 1 < ns.length:=by omega
    have l2:i < ns.length:=by omega
    show K (pairsOf (u::v::rest)) (i - 1)<=K (pairsOf (u::v::rest)) i;rw [at2 hI (List.getElem?_eq_getElem l1),at2 hI (List.getElem?_eq_getElem l2)];exact List.pairwise_iff_getElem.mp hr (i - 1) i l1 l2 (by omega)
  rintro ⟨⟨⟩,z⟩ s' ⟨rfl,hp,hf,hs⟩;dsimp only;refine wpAny_bind (seqEpoch_at o6 rfl (wpAny_bind (listUpdate_at o6 rfl ?_ (hsz2:=by refine Nat.le_trans (Nat.le_of_eq ((Array.size_map ..).trans (hp.size_eq.trans (pairsOf_size _)))) ?_;omega))));rw [hf];simp only [bne_self_eq_false,Bool.false_eq_true,if_false];obtain ⟨ns',h1,h2,h3⟩:=sorted_out hI hp hs;exact wpAny_pure (q _ ns' h1 h2 h3)
end
noncomputable def anF:List V->Hp->VK->Prop:=fun vs H Q=>on1 vs fun x=>bF x fun p=>c0 (H p) fun kvs=>gR (intKeys kvs) fun ns=>ns.Pairwise (· < ·)/\∀(l:Addr) (ns':List Int),H l=none->ns'.Perm ns->ns'.Pairwise (·<=·)->Q (.ref l) (upd H l (.lst (ns'.map V.int)))
theorem aiP {X:Cx} (hc:X.calm=true):dW X (.builtin "sorted") anF:=fun pins s σ H xs us Q I r h=>by
 obtain ⟨x,rfl,h1⟩:=hJ h;obtain ⟨p,rfl,h2⟩:=aT h1;obtain ⟨kvs,e,h3⟩:=c5 h2;obtain ⟨ns,ek,hasc,q⟩:=c8 h3;obtain ⟨u,rfl,ru⟩:=vals1 r;cases ru;obtain ⟨hl,hk⟩:=w8 ek;obtain ⟨z,hd,vs0,rel,dd⟩:=rV I.hok e;obtain ⟨ep,dat⟩:=dd.dictAt;obtain ⟨od,es,ho,_⟩:=id dat;obtain ⟨m,hn,_⟩:=I.loc;have hne:p≠X.env.locals:=aL e I.free;have l0:=rel.length;refine PySem.W.kdu_sorted (PySem.W.kdl_dict (knd:=bY X.prog X.w) (kvs:=vs0) (ep:=ep) hd) (I.ok.hd hc) (Att.ahY hn) (Att.mX hne ho) dat (by omega) fun D h' tk vs F N lt hlen hP=>?_;have hI:IntsAre vs ns:=ajI (by omega) fun j v ev=>by
  obtain ⟨k,x,e1,e2⟩:=hP j v ev;have hj:j < kvs.length:=by
   have:=(List.getElem?_eq_some_iff.mp e1).1;omega
  obtain ⟨⟨k',x'⟩,ekv⟩:∃ y,kvs[j]?=some y:=⟨_,List.getElem?_eq_getElem hj⟩;obtain ⟨v',e3⟩:=KV.at rel ekv;rw [e1] at e3;cases e3;obtain ⟨i,rfl,ei⟩:=hk j _ _ ekv;obtain ⟨t,et⟩:=(show ∃ t,v=Value.int i t from rJ e2);exact ⟨i,t,ei,et⟩
 have hD:h'.get? D=some (seqObj "list" vs.toArray 0):=(N _ (List.Mem.head _)).1;have old:∀ b o,b≠X.env.locals->s.heap.get? b=some o->h'.get? b=some o/\b < D:=fun b o nb eb=>by
  by_cases hb:b=p
  ·subst hb;rw [ho] at eb;cases eb;exact ⟨(N _ (List.Mem.tail _ (List.Mem.head _))).1,lt _ (List.Mem.head _)⟩
  ·have mem:=Att.lM (h:=s.heap) (L:=X.env.locals) (d:=p) |>.mpr ⟨nb,hb,eb⟩;exact ⟨(N _ (List.Mem.tail _ (List.Mem.tail _ mem))).1,lt _ (List.Mem.tail _ mem)⟩
 have g:MeetsIn X.prog X.w (Builtin.«list.sort» ⟨[.ref D],[]⟩) (fun _ R s=>s.heap.get? D=some (seqObj "list" vs.toArray 0)/\∀(out:Array Value) (ns':List Int),IntsAre out.toList ns'->ns'.Perm ns->ns'.Pairwise (·<=·)->R (.ok (.ret .none)) {s with heap:=sortedHeap s.heap D vs out}) :=
  fun A R s ⟨g1,g2⟩=>adV g1 hI (hasc.imp fun h=>Int.le_of_lt h) (by omega) fun out ns' a b c=>g2 out ns' a b c
 refine call_meetsIn PySem.F.slot_list_sort ⟨_,hD,rfl⟩ PySem.F.entry_list_sort (PySem.F.args_list_sort_1 _) g ⟨hD,fun out ns' hI' hp hs=>?_⟩;have hDL:D≠X.env.locals:=(N _ (List.Mem.head _)).2.1;have hDn:H D=none:=by
  cases z:H D with
  | none=>rfl
  | some o =>
   obtain ⟨ob,eb⟩:=(I.hok D o z).there;exact absurd (old D ob hDL eb).2 (Nat.lt_irrefl _)
 have new:∀ b o,b≠X.env.locals->s.heap.get? b=some o->(sortedHeap h' D vs out).get? b=some o:=fun b o nb eb=>by
  obtain ⟨h1,h2⟩:=old b o nb eb;rw [sortedHeap_old (Nat.ne_of_lt h2) (Heap.lt_size h1)];exact h1
 obtain ⟨e',hD'⟩:=sortedHeap_at (out:=out) hD;have hns:∀ m',s.heap.Ns X.env.locals m'->(sortedHeap h' D vs out).Ns X.env.locals m':=fun m' hm=>by
  have em:m'=m:=by
   obtain ⟨o1,es1,ep1,a1,b1,_,c1⟩:=hm;obtain ⟨o2,es2,ep2,a2,b2,_,c2⟩:=hn;rw [a1] at a2;cases a2;rw [b1] at b2;cases b2;funext y;rw [<- c1,<- c2]
  subst em;obtain ⟨o1,es1,ep1,a1,r1⟩:=F.ns;exact ⟨o1,es1,ep1,by rw [sortedHeap_old hDL.symm (Heap.lt_size a1)];exact a1,r1⟩
 have nn:∀ {b:Addr} {o:HO},H b=some o->b≠D:=fun h z=>by subst z;rw [hDn] at h;cases h
 have nl:∀ {b:Addr} {o:HO},H b=some o->b≠X.env.locals:=fun h=>aL h I.free;refine ⟨.ref D,upd H D (.lst (ns'.map V.int)),show Inv X pins σ _ {s with heap:=sortedHeap h' D vs out,gens:=s.gens,drawn:=s.drawn,toks:=tk} from I.step (g':=s.gens) (d':=s.drawn) (t':=tk) (ch:=[]) (fun _ z=>nomatch z) (fun b o nb _ _ eb _=>new b o nb eb) (fun b o nb _ _ eb _=>⟨o.slots,new b o nb eb⟩) (fun b o _ eb hb=>?_) (fun b o _ eb=>?_)
  (fun b xs hb=>by rw [aI (nn hb)];exact hb) (fun b o u hb=>by rw [aI (nn hb)];exact hb) (fun b ps hb=>⟨#[],by rw [aI (nn hb),hb];simp⟩) hns (fun b o hb=>?_) I.bare,rfl,q D ns' hDn hp hs⟩
 ·by_cases hbD:b=D
  ·subst hbD;by_cases hbL:b=X.env.locals
   ·exact absurd hbL hDL
   ·exact absurd (old b o hbL eb).2 (Nat.lt_irrefl _)
  ·rw [aI hbD];exact hb
 ·by_cases hbL:b=X.env.locals
  ·subst hbL;obtain ⟨o1,es1,ep1,a1,r1⟩:=hns m hn;exact ⟨o1,a1⟩
  ·exact ⟨o,new b o hbL eb⟩
 ·by_cases hbD:b=D
  ·subst hbD;rw [aA] at hb;cases hb;exact ⟨by rw [List.length_map,hp.length_eq];omega,out.toList,e',oE hI',hD'⟩
  ·rw [aI hbD] at hb;refine (I.hok b o hb).stay (fun c v hc ev=>?_) (fun c hc=>by rw [aI (nn hc)];exact hc) fun c xs hc=>by rw [aI (nn hc)];exact hc
   rcases hc with hc | hc
   ·subst hc;exact new c v (nl hb) ev
   ·exact new c v (nl hc) ev
section
variable {H:Hp} {Q:VK} {p:Addr}
theorem asL:anF [.ref p] H Q=c0 (H p) fun kvs=>gR (intKeys kvs) fun ns=>ns.Pairwise (· < ·)/\∀(l:Addr) (ns':List Int),H l=none->ns'.Perm ns->ns'.Pairwise (·<=·)->Q (.ref l) (upd H l (.lst (ns'.map V.int))):=rfl
end
end L2
namespace L2
open PySem PySem.Spec PyProof.Rows
noncomputable def at7 (K:PySem.W.Frag):R2:=fun x y H Q=>yA y fun z=>(∃ u,x=.str u/\Q (.bl (decide (u=z))) H)\/∃ a xs,x=.ref a/\dF K H a xs/\Q (.bl false) H
noncomputable def atY (K:PySem.W.Frag):R2:=fun x y H Q=>bF y fun p=>∃ zs:List Str,dF K H p (zs.map V.str)/\((∃ u,x=.str u/\Q (.bl (u0 (.str u) (zs.map V.str))) H)\/∃ a xs,x=.ref a/\dF K H a xs/\Q (.bl false) H)
theorem aeH:∀ {zs:List Str} {us:List Value},Vals (zs.map V.str) us->∀ w∈us,∃ z t,w=.str z t
 | [],us,r=>by cases r;simp
 | z::zs,us,r=>by
  cases r with
  | cons a r =>
   obtain ⟨t,rfl⟩:=a;intro w hw;rcases List.mem_cons.mp hw with rfl | hw
   ·exact ⟨z,t,rfl⟩
   ·exact aeH r w hw
section
variable {X:Cx}
theorem atP (hu:X.A.units+1 < cLine):jZ X (compareOp .Eq) (at7 X.K):=fun pins s σ H x y v u Q I rx ry h=>by
 obtain ⟨z,rfl,h1⟩:=zH h;rcases h1 with ⟨k,rfl,q⟩ | ⟨a,xs,rfl,e,q⟩
 ·exact cJ pins s σ H _ _ v u Q I rx ry ⟨rfl,by rw [show decide (V.str k=V.str z)=decide (k=z) by simp];exact q⟩
 ·obtain ⟨its,r1,p1,_⟩:=I.tuple e;obtain ⟨t,rfl⟩:=ry;cases rx;exact SeqAt.RcAt.tuple_str z t (show s.heap.IsTuple a its.toArray from p1) (by omega) X.prog X.w X.xe _ (bR I q rfl)
theorem arA (hu:X.A.units+1 < cLine):jZ X (compareOp .In) (atY X.K):=fun pins s σ H x y v u Q I rx ry h=>by
 obtain ⟨p,rfl,zs,hp,h1⟩:=aT h;rcases h1 with ⟨k,rfl,q⟩ | ⟨a,xs,rfl,e,q⟩
 ·exact acL pins s σ H _ _ v u Q I rx ry ⟨_,_,rfl,.inr hp,rfl,by simp [List.all_eq_true,dR],q⟩
 ·obtain ⟨its,r1,p1,_⟩:=I.tuple e;obtain ⟨jts,r2,p2,_⟩:=I.tuple hp;cases rx;cases ry;refine SeqAt.in_tupleAt (fun _=>false) (show s.heap.IsTuple p jts.toArray from p2) (fun w hw=>?_) ?_
  ·obtain ⟨z,t,rfl⟩:=aeH r2 w (by simpa using hw);exact SeqAt.EqAt.str_tuple z t (show s.heap.IsTuple a its.toArray from p1) (by show X.A.units+1 < _;omega)
  ·rw [show (jts.toArray.any fun _=>false)=false by simp];exact bR I q rfl
end
section
variable {fr:List Nat} {tc:TT} {te tl:TE} {σ:St} {H:Hp} {Q:VK} {K:PySem.W.Frag} {x:V} {z:Str} {p:Addr}
theorem av1:at7 K x (.str z) H Q=((∃ u,x=.str u/\Q (.bl (decide (u=z))) H)\/∃ a xs,x=.ref a/\dF K H a xs/\Q (.bl false) H):=rfl
theorem aw8:atY K x (.ref p) H Q = ∃ zs:List Str,dF K H p (zs.map V.str)/\((∃ u,x=.str u/\Q (.bl (u0 (.str u) (zs.map V.str))) H)\/∃ a xs,x=.ref a/\dF K H a xs/\Q (.bl false) H):=rfl
theorem an2:ac2 K (aiN K tl) fr tc te σ H Q=tl σ H fun x H1=>bF x fun a=>(∃ xs,dF K H1 a xs)/\lc2 K (Itt K a) fr tc te σ H1 Q:=by
 unfold ac2 aiN
 congr 1
 funext x H1;exact propext ⟨fun ⟨a,e,h1,h⟩=>by subst e;exact ⟨h1,h⟩,fun h=>by obtain ⟨a,rfl,h1,h⟩:=aT h;exact ⟨a,rfl,h1,h⟩⟩
theorem ai1 {a:Addr} {ys:List V} (Pv:Nat->List V->Hp->Prop) (h0:Pv 0 [] H) (hz:∀ i xs H,Pv i xs H->xs.length<=1000000) (hl:∀ i xs H,Pv i xs H->dF K H a ys)
    (hs:∀(i:Nat) y xs H,i < ys.length->ys[i]?=some y->Pv i xs H->∃ p y1 y2,y=.ref p/\dF K H p [y1,y2]/\tc (some y1::some y2::aY fr σ) H fun b H2=>if b=true then te (some y1::some y2::aY fr σ) H2 (fun z H3=>Pv (i+1) (xs++[z]) H3) else Pv (i+1) xs H2)
    (hd:∀ xs H,Pv ys.length xs H->∀ p,H p=none->Q (.ref p) (upd H p (.lst xs))):lc2 K (Itt K a) fr tc te σ H Q:=by
  refine ⟨cW ys.length Pv,⟨ys.length,by simp,Nat.zero_le _,h0⟩,?_⟩;rintro i m xs H ⟨rfl,hi,pv⟩;refine ⟨hz i xs H pv,?_⟩;have q1:=hl i xs H pv;by_cases lt:i < ys.length
  · refine .inr ⟨⟨ys,ys[i],q1,by simp [lt]⟩,fun v H' yy=>?_⟩;obtain ⟨e,yy⟩:=yy;subst e;obtain ⟨p,y1,y2,ey,hp,hh⟩:=hs i v xs H' lt (yy ys q1) pv;refine ⟨p,y1,y2,ey,hp,?_⟩;simp only [akO lt];exact hh
  · refine .inl ⟨⟨ys,q1,by omega⟩,?_⟩;exact hd xs H ((show i=ys.length by omega) ▸ pv)
end
section
variable {X:Cx} {K:PySem.W.Frag} {o e:Expr} {es:List Expr} {to:TE} {t:TA} {name:Str} {apos cpos:Pos} {T id:String} {r:V->List V->Hp->VK->Prop}
theorem awG (K:PySem.W.Frag) (pa:PlainAttrs T) (slot:Slot T name id) (hty:typeOf (.builtin id)=pure (.type "method_descriptor")) (hm:MtR X id r) (ho:PE X o to) (ha:PA X (e::es) t)
    (hbase:attributeBase o name X.env (eval o X.env)=eval o X.env:=by rfl)
    (hfew:((backTo cpos (starEach (e::es) X.env)).all (fun x=>!x.1) && (backToKw cpos (keywordEach [] X.env)).all (fun x=>x.1.isSome)
      && decide ((e::es).length+([]:List Keyword).length+(if ([]:List Keyword).isEmpty then 0 else 1) < 30))=true:=by rfl)
    (hline:(apos.endLine == cpos.line)=true:=by rfl) (hs:starEach (e::es) X.env=(false,eval e X.env)::starEach es X.env:=by rfl) (hplain:(backTo cpos (starEach es X.env)).any (·.1)=false:=by rfl) (hK:X.K=K:=by rfl) :
    PE X (.Call (.Attribute o name apos) (e::es) [] cpos) (tBM K T r to t):=by
  subst hK;exact ajO pa slot hty hm ho ha hbase hfew hline hs hplain
theorem ao4 (K:PySem.W.Frag) {tg l:Expr} {tl:TE} (hl:PE X l tl) (hK:X.K=K:=by rfl):PI X tg l (acJ K tl):=by
 subst hK;exact iT hl
end
end L2
namespace L2
open PySem PySem.Spec PyProof.Rows
section
variable {X:Cx}
end
section
variable {z y:Str} {i:Int} {H:Hp} {Q:VK}
end
end L2
namespace Own
open PySem L2
seal PE PA PT PW PS PSs PI PG PGs PTs PO PPs
noncomputable def top (i:Nat):Stmt:=PySem.Challenge.pw_outlast_k28_kept_texts.main.body.getD i (.Pass ⟨0,0,0,0⟩)
noncomputable abbrev aiS:Stmt:=top 4
noncomputable abbrev qH:Stmt:=top 6
noncomputable abbrev uX:Stmt:=top 7
noncomputable abbrev p8:Stmt:=top 8
noncomputable abbrev sU:Stmt:=top 10
noncomputable abbrev yH:Stmt:=top 11
noncomputable abbrev pZ:Stmt:=top 12
noncomputable abbrev kM:Stmt:=top 13
noncomputable abbrev kO:Stmt:=bU (top 15) 0
noncomputable abbrev kE:Stmt:=bU (top 15) 1
noncomputable abbrev h8:Stmt:=bU (top 15) 2
noncomputable abbrev fM:Stmt:=bU (top 15) 3
noncomputable abbrev iA:Stmt:=bU (top 15) 4
noncomputable abbrev kG:Stmt:=bU (top 15) 5
noncomputable abbrev gO:Stmt:=bU (top 15) 6
noncomputable abbrev fK:Stmt:=bU (top 15) 7
noncomputable abbrev pR:Stmt:=bU (top 17) 0
noncomputable abbrev lU:Stmt:=bU (top 17) 1
noncomputable abbrev jK:Stmt:=bU (top 17) 2
noncomputable abbrev lY:Stmt:=bU (top 17) 3
noncomputable abbrev nG:Stmt:=bU (top 17) 4
noncomputable abbrev nR:Stmt:=bU (top 17) 5
noncomputable abbrev nC:Stmt:=bU (top 17) 6
noncomputable abbrev acY:Stmt:=top 20
noncomputable abbrev sI:Stmt:=top 21
noncomputable abbrev sN:Stmt:=top 22
noncomputable abbrev zA:Stmt:=top 23
noncomputable abbrev zI:Stmt:=top 24
noncomputable abbrev aaS:Stmt:=top 25
noncomputable abbrev wT:Stmt:=top 26
noncomputable abbrev ac8:Stmt:=top 27
noncomputable abbrev tK:Stmt:=bU (top 29) 0
noncomputable abbrev gQ:Stmt:=bU (top 29) 2
noncomputable abbrev pN:Stmt:=bU (top 29) 3
noncomputable abbrev sZ:Stmt:=bU (top 29) 4
noncomputable abbrev iH:Stmt:=bU (top 29) 5
noncomputable abbrev kN:Stmt:=bU (top 29) 6
noncomputable abbrev hZ:Stmt:=bU (top 29) 7
noncomputable abbrev sP:Stmt:=bU (top 29) 8
noncomputable abbrev tL:Stmt:=bU (top 29) 9
noncomputable abbrev qA:Stmt:=bU (top 29) 10
noncomputable abbrev tO:Stmt:=bU (top 29) 11
noncomputable abbrev xS:Stmt:=bU (top 29) 12
noncomputable abbrev mC:Stmt:=bU (top 29) 13
noncomputable abbrev qR:Stmt:=bU (top 29) 14
noncomputable abbrev jM:Stmt:=bU (top 29) 15
noncomputable abbrev tJ:Stmt:=top 32
noncomputable abbrev nU:Stmt:=top 33
noncomputable abbrev nE:Stmt:=top 35
noncomputable abbrev yP:Stmt:=top 36
noncomputable abbrev uK:Stmt:=top 37
noncomputable abbrev qT:Stmt:=top 38
noncomputable abbrev m9:Stmt:=top 39
noncomputable abbrev jR:Stmt:=top 40
noncomputable abbrev mU:Stmt:=top 41
noncomputable abbrev l7:Stmt:=top 42
noncomputable abbrev iX:Stmt:=top 43
noncomputable abbrev qF:Stmt:=top 44
noncomputable abbrev lO:Stmt:=top 45
noncomputable abbrev hX:Stmt:=top 46
noncomputable abbrev tS:Stmt:=top 47
noncomputable abbrev qO:Stmt:=top 48
noncomputable abbrev aoP:Stmt:=top 49
set_option genInjectivity false in
set_option genSizeOf false in
structure Ad where
 apK:Addr
 apH:FuncData
 tN:Addr
 tI:FuncData
 aaI:Addr
 zP:FuncData
 sY:Addr
 tR:FuncData
 nX:Addr
 nL:FuncData
 ad5:Addr
 ac9:FuncData
 uQ:Addr
 sV:FuncData
 lL:Addr
 k8:FuncData
 iR:Addr
 k9:FuncData
 lD:Addr
 l9:FuncData
 jS:Addr
 jE:FuncData
 fT:Addr
 fX:FuncData
 jI:Addr
 jH:FuncData
 lX:Addr
 lT:FuncData
 iC:Addr
 iF:FuncData
 gH:Addr
 gA:FuncData
 oW:Addr
 uE:FuncData
 mT:Addr
 nO:FuncData
 kL:Addr
 kI:FuncData
 nN:Addr
 nH:FuncData
 qG:Addr
 qK:FuncData
 pM:Addr
 qJ:FuncData
 pU:Addr
 pO:FuncData
 aeB:Addr
 ah3:FuncData
 mY:Addr
 xD:FuncData
 qW:Addr
 yD:FuncData
 wB:Addr
 acW:FuncData
 wL:Addr
 ac7:FuncData
 wJ:Addr
 acX:FuncData
 wI:Addr
 acU:FuncData
 ac4:Addr
 ahA:FuncData
 rZ:Addr
 xR:FuncData
 iE:Addr
 iB:FuncData
 uD:Addr
 tT:FuncData
 wU:Addr
 yX:FuncData
 i5:Addr
 iY:FuncData
 lW:Addr
 lZ:FuncData
 iZ:Addr
 jA:FuncData
 aaN:Addr
 xZ:FuncData
 zT:Addr
 zZ:FuncData
 sH:Addr
 tE:FuncData
 xA:Addr
 zK:FuncData
 ad2:Addr
 acQ:FuncData
 nI:Addr
 nT:FuncData
 sW:Addr
 uP:FuncData
 kF:Addr
 kR:FuncData
 xF:Addr
 yQ:FuncData
 qD:Addr
 qB:FuncData
 qP:Addr
 qS:FuncData
 ad8:Addr
 adF:FuncData
 zX:Addr
 y6:FuncData
 uB:Addr
 tG:FuncData
 qN:Addr
 qL:FuncData
 kK:Addr
 kD:FuncData
 jB:Addr
 jD:FuncData
 mW:Addr
 mV:FuncData
 fB:Addr
 fD:FuncData
 iW:Addr
 iV:FuncData
 nF:Addr
 mQ:FuncData
 jJ:Addr
 jN:FuncData
 wR:Addr
 yY:FuncData
 sO:Addr
 tH:FuncData
 awI:Addr
 auX:FuncData
 yI:Tok
 v5:Tok
 afG:Tok
 hE:Addr
 lE:Addr
 aJ:Addr
 aV:Addr
 aU:Addr
structure Tx (w:World) (K:PySem.W.Frag) (mg:Str->Option Value) (t:Ad):Prop where
 afW:Fun K "kept" "kept" aiS t.apK t.apH
 aj0:Binds K t.apH ["number"] []
 ajY:mg "kept"=some (.ref t.apK)
 ab1:Fun K "show_rows" "show_rows" qH t.tN t.tI
 alM:Binds K t.tI ["rows"] []
 alO:mg "show_rows"=some (.ref t.tN)
 agA:Fun K "show_row" "show_row" uX t.aaI t.zP
 am1:Binds K t.zP ["row"] []
 apZ:mg "show_row"=some (.ref t.aaI)
 abP:Fun K "show_word" "show_word" p8 t.sY t.tR
 akU:Binds K t.tR ["thing"] []
 amE:mg "show_word"=some (.ref t.sY)
 rT:Fun K "worth_of" "worth_of" sU t.nX t.nL
 xM:Binds K t.nL ["saying","names","arg","now","answers"] []
 zU:mg "worth_of"=some (.ref t.nX)
 akB:Fun K "joined" "joined" yH t.ad5 t.ac9
 arG:Binds K t.ac9 ["sign","one","other"] []
 asX:mg "joined"=some (.ref t.ad5)
 oF:Fun K "number_of" "number_of" pZ t.uQ t.sV
 tQ:Binds K t.sV ["worth"] []
 uA:mg "number_of"=some (.ref t.uQ)
 iK:Fun K "one_or_nought" "one_or_nought" kM t.lL t.k8
 lQ:Binds K t.k8 ["truth"] []
 lJ:mg "one_or_nought"=some (.ref t.lL)
 adY:Fun K "__init__" "Tickets.__init__" kO t.iR t.k9
 ac0:Binds K t.k9 ["self"] []
 aqF:Meth K t.aJ "__init__" t.iR
 aeE:Fun K "make" "Tickets.make" kE t.lD t.l9
 acT:Binds K t.l9 ["self"] []
 aa8:Meth K t.aJ "make" t.lD
 yV:Fun K "is_open" "Tickets.is_open" h8 t.jS t.jE
 jQ:Binds K t.jE ["self","ticket"] []
 iG:Meth K t.aJ "is_open" t.jS
 rG:Fun K "those_open" "Tickets.those_open" fM t.fT t.fX
 rF:Binds K t.fX ["self"] []
 pV:Meth K t.aJ "those_open" t.fT
 aaR:Fun K "finish" "Tickets.finish" iA t.jI t.jH
 y8:Binds K t.jH ["self","ticket","worth"] []
 vW:Meth K t.aJ "finish" t.jI
 adR:Fun K "shut" "Tickets.shut" kG t.lX t.lT
 rR:Binds K t.lT ["self","ticket"] []
 pH:Meth K t.aJ "shut" t.lX
 vT:Fun K "shut_all" "Tickets.shut_all" gO t.iC t.iF
 mI:Binds K t.iF ["self"] []
 k5:Meth K t.aJ "shut_all" t.iC
 rD:Fun K "first_done" "Tickets.first_done" fK t.gH t.gA
 r9:Binds K t.gA ["self","worths"] []
 qC:Meth K t.aJ "first_done" t.gH
 amC:Fun K "__init__" "Walk.__init__" pR t.oW t.uE
 alL:Binds K t.uE ["self","program"] []
 awQ:Meth K t.aV "__init__" t.oW
 afV:Fun K "come_to" "Walk.come_to" lU t.mT t.nO
 agD:Binds K t.nO ["self"] []
 ac6:Meth K t.aV "come_to" t.mT
 abA:Fun K "stands_at" "Walk.stands_at" jK t.kL t.kI
 gW:Binds K t.kI ["self"] []
 fW:Meth K t.aV "stands_at" t.kL
 aeJ:Fun K "pass_by" "Walk.pass_by" lY t.nN t.nH
 j5:Binds K t.nH ["self"] []
 iM:Meth K t.aV "pass_by" t.nN
 aiA:Fun K "enter" "Walk.enter" nG t.qG t.qK
 xW:Binds K t.qK ["self","which"] []
 u1:Meth K t.aV "enter" t.qG
 ahW:Fun K "leave" "Walk.leave" nR t.pM t.qJ
 aiJ:Binds K t.qJ ["self"] []
 aeG:Meth K t.aV "leave" t.pM
 aiV:Fun K "place" "Walk.place" nC t.pU t.pO
 ahZ:Binds K t.pO ["self"] []
 agS:Meth K t.aV "place" t.pU
 anJ:Fun K "do_set" "do_set" acY t.aeB t.ah3
 axQ:Binds K t.ah3 ["run","statement"] []
 aBT:mg "do_set"=some (.ref t.aeB)
 zQ:Fun K "do_order" "do_order" sI t.mY t.xD
 afO:Binds K t.xD ["run","statement"] []
 ay1:mg "do_order"=some (.ref t.mY)
 af8:Fun K "do_timer" "do_timer" sN t.qW t.yD
 anY:Binds K t.yD ["run","statement"] []
 aAS:mg "do_timer"=some (.ref t.qW)
 ajC:Fun K "do_send" "do_send" zA t.wB t.acW
 arW:Binds K t.acW ["run","statement"] []
 aBH:mg "do_send"=some (.ref t.wB)
 ajG:Fun K "do_drop" "do_drop" zI t.wL t.ac7
 ar5:Binds K t.ac7 ["run","statement"] []
 aBF:mg "do_drop"=some (.ref t.wL)
 ai3:Fun K "do_wait" "do_wait" aaS t.wJ t.acX
 arU:Binds K t.acX ["run","statement"] []
 aBG:mg "do_wait"=some (.ref t.wJ)
 akG:Fun K "do_hear" "do_hear" wT t.wI t.acU
 aqV:Binds K t.acU ["run","statement"] []
 aBI:mg "do_hear"=some (.ref t.wI)
 aoW:Fun K "do_end" "do_end" ac8 t.ac4 t.ahA
 av2:Binds K t.ahA ["run","statement"] []
 aBQ:mg "do_end"=some (.ref t.ac4)
 anU:Fun K "__init__" "Run.__init__" tK t.rZ t.xR
 aeK:Binds K t.xR ["self","program"] []
 ayH:Meth K t.aU "__init__" t.rZ
 vP:Fun K "open_tickets" "Run.open_tickets" gQ t.iE t.iB
 vX:Binds K t.iB ["self"] []
 sX:Meth K t.aU "open_tickets" t.iE
 al3:Fun K "state" "Run.state" pN t.uD t.tT
 oP:Binds K t.tT ["self"] []
 lG:Meth K t.aU "state" t.uD
 anZ:Fun K "take" "Run.take" sZ t.wU t.yX
 af2:Binds K t.yX ["self","happening"] []
 ab9:Meth K t.aU "take" t.wU
 yG:Fun K "passes_over" "Run.passes_over" iH t.i5 t.iY
 xE:Binds K t.iY ["self","happening"] []
 vR:Meth K t.aU "passes_over" t.i5
 adD:Fun K "take_done" "Run.take_done" kN t.lW t.lZ
 acS:Binds K t.lZ ["self","ticket","worth"] []
 aaY:Meth K t.aU "take_done" t.lW
 aaB:Fun K "take_letter" "Run.take_letter" hZ t.iZ t.jA
 wX:Binds K t.jA ["self","key","worth"] []
 vV:Meth K t.aU "take_letter" t.iZ
 apG:Fun K "wake" "Run.wake" sP t.aaN t.xZ
 afA:Binds K t.xZ ["self","worth"] []
 abR:Meth K t.aU "wake" t.aaN
 amQ:Fun K "go_on" "Run.go_on" tL t.zT t.zZ
 af6:Binds K t.zZ ["self"] []
 acI:Meth K t.aU "go_on" t.zT
 akZ:Fun K "do_one" "Run.do_one" qA t.sH t.tE
 akV:Binds K t.tE ["self","statement"] []
 ahV:Meth K t.aU "do_one" t.sH
 apM:Fun K "look" "Run.look" tO t.xA t.zK
 apV:Binds K t.zK ["self","statement"] []
 akS:Meth K t.aU "look" t.xA
 aqH:Fun K "end" "Run.end" xS t.ad2 t.acQ
 aj9:Binds K t.acQ ["self","worth"] []
 ae5:Meth K t.aU "end" t.ad2
 afM:Fun K "wear_out" "Run.wear_out" mC t.nI t.nT
 agE:Binds K t.nT ["self"] []
 adC:Meth K t.aU "wear_out" t.nI
 ak3:Fun K "worth" "Run.worth" qR t.sW t.uP
 eV:Binds K t.uP ["self","saying"] []
 dZ:Meth K t.aU "worth" t.sW
 abB:Fun K "new_ticket" "Run.new_ticket" jM t.kF t.kR
 pI:Binds K t.kR ["self","name"] []
 mM:Meth K t.aU "new_ticket" t.kF
 zS:Fun K "keep_run" "keep_run" tJ t.xF t.yQ
 agN:Binds K t.yQ ["run"] []
 afP:mg "keep_run"=some (.ref t.xF)
 yN:Fun K "state_rows" "state_rows" nU t.qD t.qB
 aiK:Binds K t.qB ["state"] []
 ah8:mg "state_rows"=some (.ref t.qD)
 xT:Fun K "_law_cell_at" "_law_cell_at" nE t.qP t.qS
 aiE:Binds K t.qS ["script","k"] []
 aiD:mg "_law_cell_at"=some (.ref t.qP)
 adH:Fun K "_law_jar" "_law_jar" yP t.ad8 t.adF
 ajX:Binds K t.adF ["cell"] []
 ajT:mg "_law_jar"=some (.ref t.ad8)
 bZ:Fun K "_law_take" "_law_take" uK t.zX t.y6
 cF:Binds K t.y6 ["jar","many"] []
 cG:mg "_law_take"=some (.ref t.zX)
 kY:Fun K "_law_worth" "_law_worth" qT t.uB t.tG
 oT:Binds K t.tG ["jar"] []
 oJ:mg "_law_worth"=some (.ref t.uB)
 yR:Fun K "_law_moment" "_law_moment" m9 t.qN t.qL
 aiR:Binds K t.qL ["jar"] []
 ah7:mg "_law_moment"=some (.ref t.qN)
 pL:Fun K "_law_happening" "_law_happening" jR t.kK t.kD
 aa7:Binds K t.kD ["jar"] []
 aa2:mg "_law_happening"=some (.ref t.kK)
 cK:Fun K "_law_saying" "_law_saying" mU t.jB t.jD
 cS:Binds K t.jD ["jar","deep"] []
 cP:mg "_law_saying"=some (.ref t.jB)
 vF:Fun K "_law_waiting" "_law_waiting" l7 t.mW t.mV
 aeU:Binds K t.mV ["jar","name"] []
 afU:mg "_law_waiting"=some (.ref t.mW)
 pD:Fun K "_law_statement" "_law_statement" iX t.fB t.fD
 aaX:Binds K t.fD ["jar","deep","room"] []
 abE:mg "_law_statement"=some (.ref t.fB)
 kT:Fun K "_law_block" "_law_block" qF t.iW t.iV
 oS:Binds K t.iV ["jar","deep","room"] []
 oU:mg "_law_block"=some (.ref t.iW)
 uY:Fun K "_law_program" "_law_program" lO t.nF t.mQ
 ae3:Binds K t.mQ ["cell"] []
 agH:mg "_law_program"=some (.ref t.nF)
 dO:Fun K "_law_number_word" "_law_number_word" hX t.jJ t.jN
 eR:Binds K t.jN ["worth"] []
 eP:mg "_law_number_word"=some (.ref t.jJ)
 afY:Fun K "_law_text" "_law_text" tS t.wR t.yY
 amX:Binds K t.yY ["state"] []
 anD:mg "_law_text"=some (.ref t.wR)
 uM:Fun K "_law_right" "_law_right" qO t.sO t.tH
 ab3:Binds K t.tH ["run"] []
 ab6:mg "_law_right"=some (.ref t.sO)
 aBY:Fun K "law" "law" aoP t.awI t.auX
 aCO:Binds K t.auX ["script"] []
 aCN:mg "law"=some (.ref t.awI)
 bI:Cls K t.aJ
 apX:mg "Tickets"=some (.ref t.aJ)
 sF:Mk K t.aJ t.iR
 cX:Cls K t.aV
 aAV:mg "Walk"=some (.ref t.aV)
 aiT:Mk K t.aV t.oW
 aW:Cls K t.aU
 ayR:mg "Run"=some (.ref t.aU)
 ajK:Mk K t.aU t.rZ
 uR:eA K t.aJ "made"
 fO:eA K t.aJ "pending"
 fN:eA K t.aJ "answers"
 gX:eA K t.aV "blocks"
 eF:eA K t.aV "numbers"
 i7:eA K t.aU "walk"
 dE:eA K t.aU "sleep"
 abX:eA K t.aU "arg"
 rC:eA K t.aU "now"
 fG:eA K t.aU "names"
 cT:eA K t.aU "tickets"
 fQ:eA K t.aU "letters"
 nK:mg "GREATEST_WORTH"=some (.int 1000000000 t.yI)
 vU:mg "GREATEST_MOMENT"=some (.int 1000000000000 t.v5)
 aeL:mg "MOST_AT_ONCE"=some (.int 300 t.afG)
 awY:mg "DEEDS"=some (.ref t.hE)
 as5:aAA w.params K t.hE
 al4:PySem.W.nsIn K t.hE "set"=some (some (.ref t.aeB))
 af1:PySem.W.nsIn K t.hE "order"=some (some (.ref t.mY))
 aeR:PySem.W.nsIn K t.hE "timer"=some (some (.ref t.qW))
 agC:PySem.W.nsIn K t.hE "child"=some (some (.ref t.mY))
 ahI:PySem.W.nsIn K t.hE "send"=some (some (.ref t.wB))
 ag9:PySem.W.nsIn K t.hE "drop"=some (some (.ref t.wL))
 aiB:PySem.W.nsIn K t.hE "wait"=some (some (.ref t.wJ))
 ah6:PySem.W.nsIn K t.hE "hear"=some (some (.ref t.wI))
 alY:PySem.W.nsIn K t.hE "end"=some (some (.ref t.ac4))
 adQ:mg "SHORT_STATES"=some (.ref t.lE)
 rM:∀ H:Hp,dF K H t.lE [.str "new",.str "ended",.str "worn"]
 atG:mg "int"=none
 oC:mg "isinstance"=none
 ahP:mg "len"=none
 akH:mg "list"=none
 anK:mg "max"=none
 aq4:mg "min"=none
 ad6:mg "range"=none
 atF:mg "set"=none
 oX:mg "sorted"=none
 akY:mg "str"=none
 jG:mg "tuple"=none
theorem ar4:aR ["number"] ["number"] (aM aiS):=⟨rfl,rfl,rfl,by decide +kernel,rfl,by decide +kernel,by decide +kernel⟩
theorem aeT:aR ["rows"] ["rows"] (aM qH):=⟨rfl,rfl,rfl,by decide +kernel,rfl,by decide +kernel,by decide +kernel⟩
theorem ag4:aR ["row"] ["row"] (aM uX):=⟨rfl,rfl,rfl,by decide +kernel,rfl,by decide +kernel,by decide +kernel⟩
theorem afH:aR ["thing"] ["thing"] (aM p8):=⟨rfl,rfl,rfl,by decide +kernel,rfl,by decide +kernel,by decide +kernel⟩
theorem lF:aR ["saying","names","arg","now","answers","kind","one","other"] ["saying","names","arg","now","answers"] (aM sU):=⟨rfl,rfl,rfl,by decide +kernel,rfl,by decide +kernel,by decide +kernel⟩
theorem sR:aR ["sign","one","other","left","right"] ["sign","one","other"] (aM yH):=⟨rfl,rfl,rfl,by decide +kernel,rfl,by decide +kernel,by decide +kernel⟩
theorem aeS:aR ["worth"] ["worth"] (aM pZ):=⟨rfl,rfl,rfl,by decide +kernel,rfl,by decide +kernel,by decide +kernel⟩
theorem aaE:aR ["truth"] ["truth"] (aM kM):=⟨rfl,rfl,rfl,by decide +kernel,rfl,by decide +kernel,by decide +kernel⟩
theorem aaL:aR ["self"] ["self"] (aM kO):=⟨rfl,rfl,rfl,by decide +kernel,rfl,by decide +kernel,by decide +kernel⟩
theorem mS:aR ["self","ticket"] ["self"] (aM kE):=⟨rfl,rfl,rfl,by decide +kernel,rfl,by decide +kernel,by decide +kernel⟩
theorem uI:aR ["self","ticket"] ["self","ticket"] (aM h8):=⟨rfl,rfl,rfl,by decide +kernel,rfl,by decide +kernel,by decide +kernel⟩
theorem pB:aR ["self"] ["self"] (aM fM):=⟨rfl,rfl,rfl,by decide +kernel,rfl,by decide +kernel,by decide +kernel⟩
theorem uG:aR ["self","ticket","worth"] ["self","ticket","worth"] (aM iA):=⟨rfl,rfl,rfl,by decide +kernel,rfl,by decide +kernel,by decide +kernel⟩
theorem aaK:aR ["self","ticket"] ["self","ticket"] (aM kG):=⟨rfl,rfl,rfl,by decide +kernel,rfl,by decide +kernel,by decide +kernel⟩
theorem rQ:aR ["self"] ["self"] (aM gO):=⟨rfl,rfl,rfl,by decide +kernel,rfl,by decide +kernel,by decide +kernel⟩
theorem iI:aR ["self","worths","tickets"] ["self","worths"] (aM fK):=⟨rfl,rfl,rfl,by decide +kernel,rfl,by decide +kernel,by decide +kernel⟩
theorem afD:aR ["self","program"] ["self","program"] (aM pR):=⟨rfl,rfl,rfl,by decide +kernel,rfl,by decide +kernel,by decide +kernel⟩
theorem aa6:aR ["self"] ["self"] (aM lU):=⟨rfl,rfl,rfl,by decide +kernel,rfl,by decide +kernel,by decide +kernel⟩
theorem vN:aR ["self"] ["self"] (aM jK):=⟨rfl,rfl,rfl,by decide +kernel,rfl,by decide +kernel,by decide +kernel⟩
theorem abG:aR ["self"] ["self"] (aM lY):=⟨rfl,rfl,rfl,by decide +kernel,rfl,by decide +kernel,by decide +kernel⟩
theorem adG:aR ["self","which"] ["self","which"] (aM nG):=⟨rfl,rfl,rfl,by decide +kernel,rfl,by decide +kernel,by decide +kernel⟩
theorem ad4:aR ["self"] ["self"] (aM nR):=⟨rfl,rfl,rfl,by decide +kernel,rfl,by decide +kernel,by decide +kernel⟩
theorem acR:aR ["self"] ["self"] (aM nC):=⟨rfl,rfl,rfl,by decide +kernel,rfl,by decide +kernel,by decide +kernel⟩
theorem anG:aR ["run","statement"] ["run","statement"] (aM acY):=⟨rfl,rfl,rfl,by decide +kernel,rfl,by decide +kernel,by decide +kernel⟩
theorem pW:aR ["run","statement","worth","ticket"] ["run","statement"] (aM sI):=⟨rfl,rfl,rfl,by decide +kernel,rfl,by decide +kernel,by decide +kernel⟩
theorem lV:aR ["run","statement","worth","due","ticket"] ["run","statement"] (aM sN):=⟨rfl,rfl,rfl,by decide +kernel,rfl,by decide +kernel,by decide +kernel⟩
theorem amM:aR ["run","statement"] ["run","statement"] (aM zA):=⟨rfl,rfl,rfl,by decide +kernel,rfl,by decide +kernel,by decide +kernel⟩
theorem abO:aR ["run","statement","ticket"] ["run","statement"] (aM zI):=⟨rfl,rfl,rfl,by decide +kernel,rfl,by decide +kernel,by decide +kernel⟩
theorem oV:aR ["run","statement","worths","ticket","pending"] ["run","statement"] (aM aaS):=⟨rfl,rfl,rfl,by decide +kernel,rfl,by decide +kernel,by decide +kernel⟩
theorem ab0:aR ["run","statement","worths"] ["run","statement"] (aM wT):=⟨rfl,rfl,rfl,by decide +kernel,rfl,by decide +kernel,by decide +kernel⟩
theorem aoY:aR ["run","statement"] ["run","statement"] (aM ac8):=⟨rfl,rfl,rfl,by decide +kernel,rfl,by decide +kernel,by decide +kernel⟩
theorem aiX:aR ["self","program"] ["self","program"] (aM tK):=⟨rfl,rfl,rfl,by decide +kernel,rfl,by decide +kernel,by decide +kernel⟩
theorem sA:aR ["self"] ["self"] (aM gQ):=⟨rfl,rfl,rfl,by decide +kernel,rfl,by decide +kernel,by decide +kernel⟩
theorem mO:aR ["self","names","letters"] ["self"] (aM pN):=⟨rfl,rfl,rfl,by decide +kernel,rfl,by decide +kernel,by decide +kernel⟩
theorem ahU:aR ["self","happening"] ["self","happening"] (aM sZ):=⟨rfl,rfl,rfl,by decide +kernel,rfl,by decide +kernel,by decide +kernel⟩
theorem k4:aR ["self","happening","kind"] ["self","happening"] (aM iH):=⟨rfl,rfl,rfl,by decide +kernel,rfl,by decide +kernel,by decide +kernel⟩
theorem yS:aR ["self","ticket","worth"] ["self","ticket","worth"] (aM kN):=⟨rfl,rfl,rfl,by decide +kernel,rfl,by decide +kernel,by decide +kernel⟩
theorem sQ:aR ["self","key","worth"] ["self","key","worth"] (aM hZ):=⟨rfl,rfl,rfl,by decide +kernel,rfl,by decide +kernel,by decide +kernel⟩
theorem ag5:aR ["self","worth"] ["self","worth"] (aM sP):=⟨rfl,rfl,rfl,by decide +kernel,rfl,by decide +kernel,by decide +kernel⟩
theorem jP:aR ["self","commands","many","statement"] ["self"] (aM tL):=⟨rfl,rfl,rfl,by decide +kernel,rfl,by decide +kernel,by decide +kernel⟩
theorem nV:aR ["self","statement","kind","commands"] ["self","statement"] (aM qA):=⟨rfl,rfl,rfl,by decide +kernel,rfl,by decide +kernel,by decide +kernel⟩
theorem ahE:aR ["self","statement"] ["self","statement"] (aM tO):=⟨rfl,rfl,rfl,by decide +kernel,rfl,by decide +kernel,by decide +kernel⟩
theorem al9:aR ["self","worth"] ["self","worth"] (aM xS):=⟨rfl,rfl,rfl,by decide +kernel,rfl,by decide +kernel,by decide +kernel⟩
theorem abH:aR ["self"] ["self"] (aM mC):=⟨rfl,rfl,rfl,by decide +kernel,rfl,by decide +kernel,by decide +kernel⟩
theorem af3:aR ["self","saying"] ["self","saying"] (aM qR):=⟨rfl,rfl,rfl,by decide +kernel,rfl,by decide +kernel,by decide +kernel⟩
theorem mG:aR ["self","name","ticket"] ["self","name"] (aM jM):=⟨rfl,rfl,rfl,by decide +kernel,rfl,by decide +kernel,by decide +kernel⟩
theorem ahO:aR ["run"] ["run"] (aM tJ):=⟨rfl,rfl,rfl,by decide +kernel,rfl,by decide +kernel,by decide +kernel⟩
theorem gF:aR ["state","sleep","rows","key","worths"] ["state"] (aM nU):=⟨rfl,rfl,rfl,by decide +kernel,rfl,by decide +kernel,by decide +kernel⟩
theorem adS:aR ["script","k"] ["script","k"] (aM nE):=⟨rfl,rfl,rfl,by decide +kernel,rfl,by decide +kernel,by decide +kernel⟩
theorem sT:aR ["cell","low"] ["cell"] (aM yP):=⟨rfl,rfl,rfl,by decide +kernel,rfl,by decide +kernel,by decide +kernel⟩
theorem xL:aR ["jar","many","got"] ["jar","many"] (aM uK):=⟨rfl,rfl,rfl,by decide +kernel,rfl,by decide +kernel,by decide +kernel⟩
theorem vE:aR ["jar","far"] ["jar"] (aM qT):=⟨rfl,rfl,rfl,by decide +kernel,rfl,by decide +kernel,by decide +kernel⟩
theorem adJ:aR ["jar"] ["jar"] (aM m9):=⟨rfl,rfl,rfl,by decide +kernel,rfl,by decide +kernel,by decide +kernel⟩
theorem hW:aR ["jar","moment","kind"] ["jar"] (aM jR):=⟨rfl,rfl,rfl,by decide +kernel,rfl,by decide +kernel,by decide +kernel⟩
theorem eX:aR ["jar","deep","kind","name","worth","one"] ["jar","deep"] (aM mU):=⟨rfl,rfl,rfl,by decide +kernel,rfl,by decide +kernel,by decide +kernel⟩
theorem gS:aR ["jar","name","sayings","k","some"] ["jar","name"] (aM l7):=⟨rfl,rfl,rfl,by decide +kernel,rfl,by decide +kernel,by decide +kernel⟩
theorem eC:aR ["jar","deep","room","kind","name","word","saying"] ["jar","deep","room"] (aM iX):=⟨rfl,rfl,rfl,by decide +kernel,rfl,by decide +kernel,by decide +kernel⟩
theorem n8:aR ["jar","deep","room","block","k"] ["jar","deep","room"] (aM qF):=⟨rfl,rfl,rfl,by decide +kernel,rfl,by decide +kernel,by decide +kernel⟩
theorem kQ:aR ["cell","jar","program"] ["cell"] (aM lO):=⟨rfl,rfl,rfl,by decide +kernel,rfl,by decide +kernel,by decide +kernel⟩
theorem uJ:aR ["worth"] ["worth"] (aM hX):=⟨rfl,rfl,rfl,by decide +kernel,rfl,by decide +kernel,by decide +kernel⟩
theorem bV:aR ["state","waiting","place","arg","now","names","made","not_done","done","letters","rows","key","worths"] ["state"] (aM tS):=⟨rfl,rfl,rfl,by decide +kernel,rfl,by decide +kernel,by decide +kernel⟩
theorem vA:aR ["run","text"] ["run"] (aM qO):=⟨rfl,rfl,rfl,by decide +kernel,rfl,by decide +kernel,by decide +kernel⟩
theorem aaP:aR ["script","program","run","beside","happening"] ["script"] (aM aoP):=⟨rfl,rfl,rfl,by decide +kernel,rfl,by decide +kernel,by decide +kernel⟩
theorem w_K {CX:CXT} {P:Program} {w:World} {K:PySem.W.Frag} {mg:Str->Option Value} {base:Heap} {N:List Str} {q:Str} {sc:Scope} {f:Addr} {cd:Value} {A:Around} {o:List Env} {s:Shared} {H:Hp} {E:XK}:(agG CX P w K mg base N q sc f cd A o s H E).K=K:=rfl
theorem aBK {CX:CXT} {P:Program} {w:World} {K:PySem.W.Frag} {mg:Str->Option Value} {base:Heap} {N:List Str} {q:Str} {sc:Scope} {f:Addr} {cd:Value} {A:Around} {o:List Env} {s:Shared} {H:Hp} {E:XK}:(agG CX P w K mg base N q sc f cd A o s H E).nox.K=K:=rfl
theorem small {n:Nat} (h:n<=1000):n<=sizeLine:=Nat.le_of_lt (small1000 h)
theorem acD {i j:Int} (h0:-(2 ^ 64) < i) (h1:i < 2 ^ 64):CMul i j:=.inl ⟨h0,h1⟩
structure aCM (H:Hp) (r:Addr):Prop where
 ex:∃ c l f:Int,H r=some (.lst [.int c,.int l,.int f])/\0<=l/\l < 536870909
noncomputable def clamp (n:Int):Int:=if (if n < 1000000000 then n else 1000000000) > -1000000000 then (if n < 1000000000 then n else 1000000000) else -1000000000
noncomputable def apE:Sp:=fun vs H Q _=>∃ n:Int,vs=[.int n]/\Q (.int (clamp n)) H
theorem awB {n:Int} {H:Hp} {Q:VK} {E:XK}:apE [.int n] H Q E=Q (.int (clamp n)) H:=propext ⟨fun ⟨_,e,h⟩=>by cases e;exact h,fun h=>⟨_,rfl,h⟩⟩
theorem nZ (n:Int):-1000000000<=clamp n/\clamp n<=1000000000:=by
 unfold clamp
 repeat' split
 all_goals omega
noncomputable abbrev Wo:=Option Int
noncomputable def wv:Wo->V
 | none=>.non
 | some n=>.int n
noncomputable def num (w:Wo):Int:=w.getD 0
noncomputable def wk:Wo->Key
 | none=>.no
 | some n=>.inl n
noncomputable def cV (w:Wo):Prop:=∀ n,w=some n->-1000000000<=n/\n<=1000000000
theorem agV {a b:Wo} (h:wv a=wv b):a=b:=by cases a<;>cases b<;>simp_all [wv]
theorem ayD (w:Wo):jV (wv w)=some (wk w):=by cases w<;>rfl
theorem ahT (w:Wo):(wv w=.non)=(w=none):=by cases w<;>simp [wv]
theorem ajN (w:Wo):dR (wv w)=true:=by cases w<;>rfl
theorem gZ:cV none:=fun _ h=>nomatch h
theorem fE {n:Int} (h0:-1000000000<=n) (h1:n<=1000000000):cV (some n):=fun m h=>by cases h;exact ⟨h0,h1⟩
theorem aoJ {w:Wo} (h:cV w):-1000000000<=num w/\num w<=1000000000:=by
 cases w with
 | none=>exact ⟨by decide,by decide⟩
 | some n=>exact h n rfl
noncomputable def atX:Sp:=fun vs H Q _=>∃ w:Wo,vs=[wv w]/\Q (.int (num w)) H
theorem ayW {w:Wo} {H:Hp} {Q:VK} {E:XK}:atX [wv w] H Q E=Q (.int (num w)) H :=
 propext ⟨fun ⟨u,e,h⟩=>by simp only [List.cons.injEq,and_true] at e;rw [agV e];exact h,fun h=>⟨w,rfl,h⟩⟩
noncomputable def auC:Sp:=fun vs H Q _=>∃ b:Bool,vs=[.bl b]/\Q (.int (if b=true then 1 else 0)) H
theorem ae6 {b:Bool} {H:Hp} {Q:VK} {E:XK}:auC [.bl b] H Q E=Q (.int (if b=true then 1 else 0)) H :=
 propext ⟨fun ⟨u,e,h⟩=>by cases e;exact h,fun h=>⟨b,rfl,h⟩⟩
inductive Sg where
 | add | sub | mul | lt | eq
noncomputable def Sg.s:Sg->Str
 | .add=>"+" | .sub=>"-" | .mul=>"*" | .lt=>"<" | .eq=>"="
noncomputable def Sg.of (g:Sg) (a b:Wo):Int :=
 match g with
 | .add=>clamp (num a+num b) | .sub=>clamp (num a - num b) | .mul=>clamp (num a * num b) | .lt=>if num a < num b then 1 else 0 | .eq=>if a=b then 1 else 0
theorem Sg.of_in (g:Sg) (a b:Wo):-1000000000<=g.of a b/\g.of a b<=1000000000:=by
 cases g
 ·exact nZ _
 ·exact nZ _
 ·exact nZ _
 ·show -1000000000<=(if num a < num b then (1:Int) else 0)/\(if num a < num b then (1:Int) else 0)<=1000000000;split<;>decide
 ·show -1000000000<=(if a=b then (1:Int) else 0)/\(if a=b then (1:Int) else 0)<=1000000000;split<;>decide
noncomputable def anR:Sp:=fun vs H Q _=>∃(g:Sg) (a b:Wo),vs=[.str g.s,wv a,wv b]/\cV a/\Q (.int (g.of a b)) H
inductive Say where
 | num (n:Int) | non | name (x:Str) | arg | now | ans (s:Say) | neg (s:Say) | two (g:Sg) (a b:Say)
inductive c9 (H:Hp):V->Say->Prop
 | num {a:Addr} {n:Int}:H a=some (.tup [.str "number",.int n])->c9 H (.ref a) (.num n)
 | non {a:Addr}:H a=some (.tup [.str "none"])->c9 H (.ref a) .non
 | name {a:Addr} {x:Str}:H a=some (.tup [.str "name",.str x])->c9 H (.ref a) (.name x)
 | arg {a:Addr}:H a=some (.tup [.str "arg"])->c9 H (.ref a) .arg
 | now {a:Addr}:H a=some (.tup [.str "now"])->c9 H (.ref a) .now
 | ans {a:Addr} {v:V} {s:Say}:H a=some (.tup [.str "answer",v])->c9 H v s->c9 H (.ref a) (.ans s)
 | neg {a:Addr} {v:V} {s:Say}:H a=some (.tup [.str "not",v])->c9 H v s->c9 H (.ref a) (.neg s)
 | two {a:Addr} {v u:V} {g:Sg} {s r:Say}:H a=some (.tup [.str g.s,v,u])->c9 H v s->c9 H u r->c9 H (.ref a) (.two g s r)
noncomputable def aP (H H':Hp):Prop:=∀ a xs,H a=some (.tup xs)->H' a=some (.tup xs)
theorem c9.kp {H H':Hp} {v:V} {s:Say} (h:c9 H v s) (k:aP H H'):c9 H' v s:=by
 induction h with
 | num e=>exact .num (k _ _ e)
 | non e=>exact .non (k _ _ e)
 | name e=>exact .name (k _ _ e)
 | arg e=>exact .arg (k _ _ e)
 | now e=>exact .now (k _ _ e)
 | ans e _ ih=>exact .ans (k _ _ e) ih
 | neg e _ ih=>exact .neg (k _ _ e) ih
 | two e _ _ i1 i2=>exact .two (k _ _ e) i1 i2
theorem aP.of {S:List Addr} {H H':Hp} (k:Kp S H H') (h:∀ a∈S,∃ o,H a=some o/\∀ xs,o≠.tup xs):aP H H':=fun a xs e=>k a _ e fun z=>by
 obtain ⟨o,e',d⟩:=h a z;rw [e] at e';exact d xs (Option.some.inj e').symm
theorem aP.new {H:Hp} {p:Addr} {o:HO} (h:H p=none):aP H (upd H p o):=fun a xs e=>by rw [aI (aL e h)];exact e
theorem aP.trans {H H1 H2:Hp} (a:aP H H1) (b:aP H1 H2):aP H H2:=fun x xs e=>b x xs (a x xs e)
noncomputable def Say.depth:Say->Nat
 | .ans s=>s.depth+1 | .neg s=>s.depth+1 | .two _ a b=>max a.depth b.depth+1 | .num _=>1 | .non=>1 | .name _=>1 | .arg=>1 | .now=>1
noncomputable def Say.ok:Say->Prop
 | .num n=>-1000000000<=n/\n<=1000000000 | .ans s=>s.ok | .neg s=>s.ok | .two _ a b=>a.ok/\b.ok | _=>True
theorem Say.depth_pos (s:Say):1<=s.depth:=by cases s<;>simp [Say.depth]
structure Pl where
 nm:Str->Wo
 ar:Wo
 now:Int
 an:Wo->Wo
structure Pl.Ok (p:Pl):Prop where
 nm:∀ x,cV (p.nm x)
 ar:cV p.ar
 an:∀ w,cV (p.an w)
noncomputable def ev (p:Pl):Say->Wo
 | .num n=>some n
 | .non=>none
 | .name x=>p.nm x
 | .arg=>p.ar
 | .now=>some (clamp p.now)
 | .ans s=>p.an (ev p s)
 | .neg s=>some (if num (ev p s)=0 then 1 else 0)
 | .two g a b=>some (g.of (ev p a) (ev p b))
theorem auH {p:Pl} (hp:p.Ok):∀ {s:Say},s.ok->cV (ev p s)
 | .num n,h=>fE h.1 h.2
 | .non,_=>gZ
 | .name x,_=>hp.nm x
 | .arg,_=>hp.ar
 | .now,_=>fE (nZ _).1 (nZ _).2
 | .ans s,_=>hp.an _
 | .neg s,_=>by
  show cV (some (if num (ev p s)=0 then 1 else 0));split<;>exact fE (by decide) (by decide)
 | .two g a b,_=>fE (g.of_in _ _).1 (g.of_in _ _).2
noncomputable def aBP (H:Hp) (d:Addr) (f:Str->Wo):Prop:=∃ kvs,H d=some (.dK kvs)/\∀ x,(cI kvs (.inr x)).getD .non=wv (f x)
noncomputable def aB8 (H:Hp) (d:Addr) (f:Wo->Wo):Prop:=∃ kvs,H d=some (.dK kvs)/\∀ w,(cI kvs (wk w)).getD .non=wv (f w)
noncomputable def axF (d:Nat):Sp:=fun vs H Q _=>∃(v:V) (dn da:Addr) (p:Pl) (s:Say),vs=[v,.ref dn,wv p.ar,.int p.now,.ref da]/\c9 H v s/\s.depth<=d/\s.ok/\aBP H dn p.nm/\aB8 H da p.an/\p.Ok/\Q (wv (ev p s)) H
inductive Stm where
 | set (x:Str) (s:Say) | order (x y:Str) (s:Say) | timer (x:Str) (s:Say) | child (x y:Str) (s:Say) | send (s:Say) (k:Str) (r:Say) | drop (s:Say)
 | wait (x:Str) (ss:List Say) | hear (x k:Str) | fin (s:Say) | whl (s:Say) (b:List Stm) | iff (s:Say) (b o:List Stm)
inductive e8 (H:Hp):List V->List Say->Prop
 | nil:e8 H [] []
 | cons {v:V} {vs:List V} {s:Say} {ss:List Say}:c9 H v s->e8 H vs ss->e8 H (v::vs) (s::ss)
theorem e8.kp {H H':Hp} {vs:List V} {ss:List Say} (h:e8 H vs ss) (k:aP H H'):e8 H' vs ss:=by
 induction h with
 | nil=>exact .nil
 | cons a _ ih=>exact .cons (a.kp k) ih
mutual
inductive dJ (H:Hp):V->Stm->Prop
 | set {a:Addr} {x:Str} {v:V} {s:Say}:H a=some (.tup [.str "set",.str x,v])->c9 H v s->dJ H (.ref a) (.set x s)
 | order {a:Addr} {x y:Str} {v:V} {s:Say}:H a=some (.tup [.str "order",.str x,.str y,v])->c9 H v s->dJ H (.ref a) (.order x y s)
 | timer {a:Addr} {x:Str} {v:V} {s:Say}:H a=some (.tup [.str "timer",.str x,v])->c9 H v s->dJ H (.ref a) (.timer x s)
 | child {a:Addr} {x y:Str} {v:V} {s:Say}:H a=some (.tup [.str "child",.str x,.str y,v])->c9 H v s->dJ H (.ref a) (.child x y s)
 | send {a:Addr} {k:Str} {v u:V} {s r:Say}:H a=some (.tup [.str "send",v,.str k,u])->c9 H v s->c9 H u r->dJ H (.ref a) (.send s k r)
 | drop {a:Addr} {v:V} {s:Say}:H a=some (.tup [.str "drop",v])->c9 H v s->dJ H (.ref a) (.drop s)
 | wait {a p:Addr} {x:Str} {vs:List V} {ss:List Say}:H a=some (.tup [.str "wait",.str x,.ref p])->H p=some (.tup vs)->e8 H vs ss->dJ H (.ref a) (.wait x ss)
 | hear {a:Addr} {x k:Str}:H a=some (.tup [.str "hear",.str x,.str k])->dJ H (.ref a) (.hear x k)
 | fin {a:Addr} {v:V} {s:Say}:H a=some (.tup [.str "end",v])->c9 H v s->dJ H (.ref a) (.fin s)
 | whl {a p:Addr} {v:V} {s:Say} {vs:List V} {b:List Stm}:H a=some (.tup [.str "while",v,.ref p])->c9 H v s->H p=some (.tup vs)->cM H vs b->dJ H (.ref a) (.whl s b)
 | iff {a p q:Addr} {v:V} {s:Say} {vs us:List V} {b o:List Stm}:H a=some (.tup [.str "if",v,.ref p,.ref q])->c9 H v s->H p=some (.tup vs)->cM H vs b->H q=some (.tup us)->cM H us o->dJ H (.ref a) (.iff s b o)
inductive cM (H:Hp):List V->List Stm->Prop
 | nil:cM H [] []
 | cons {v:V} {vs:List V} {x:Stm} {xs:List Stm}:dJ H v x->cM H vs xs->cM H (v::vs) (x::xs)
end
theorem cM.kp {H H':Hp} (k:aP H H') {vs:List V} {ms:List Stm} (h:cM H vs ms):cM H' vs ms :=
 cM.rec (motive_1:=fun v m _=>dJ H' v m) (motive_2:=fun vs ms _=>cM H' vs ms)
  (fun e s=>.set (k _ _ e) (s.kp k)) (fun e s=>.order (k _ _ e) (s.kp k)) (fun e s=>.timer (k _ _ e) (s.kp k)) (fun e s=>.child (k _ _ e) (s.kp k))
  (fun e s r=>.send (k _ _ e) (s.kp k) (r.kp k)) (fun e s=>.drop (k _ _ e) (s.kp k)) (fun e f s=>.wait (k _ _ e) (k _ _ f) (s.kp k)) (fun e=>.hear (k _ _ e)) (fun e s=>.fin (k _ _ e) (s.kp k))
  (fun e s f _ b=>.whl (k _ _ e) (s.kp k) (k _ _ f) b) (fun e s f _ f' _ b b'=>.iff (k _ _ e) (s.kp k) (k _ _ f) b (k _ _ f') b') .nil (fun _ _ a b=>.cons a b) h
mutual
noncomputable def Stm.dp:Stm->Nat
 | .whl _ b=>dpL b+1
 | .iff _ b o=>max (dpL b) (dpL o)+1
 | .set _ _=>0
 | .order _ _ _=>0
 | .timer _ _=>0
 | .child _ _ _=>0
 | .send _ _ _=>0
 | .drop _=>0
 | .wait _ _=>0
 | .hear _ _=>0
 | .fin _=>0
noncomputable def dpL:List Stm->Nat
 | []=>0
 | m::ms=>max m.dp (dpL ms)
end
theorem cM.at {H:Hp} {vs:List V} {ms:List Stm} (h:cM H vs ms):∀ {i:Nat} {x:V},vs[i]?=some x->∃ m,ms[i]?=some m/\dJ H x m:=by
 induction ms generalizing vs with
 | nil=>cases h;intro i x e;simp at e
 | cons m ms ih =>
  cases h with
  | cons a b =>
   intro i x e;cases i with
   | zero=>simp only [List.getElem?_cons_zero,Option.some.injEq] at e;subst e;exact ⟨_,rfl,a⟩
   | succ i=>exact ih b (by simpa using e)
theorem cM.len {H:Hp} {vs:List V} {ms:List Stm} (h:cM H vs ms):ms.length=vs.length:=by
 induction ms generalizing vs with
 | nil=>cases h;rfl
 | cons m ms ih =>
  cases h with
  | cons a b=>simp [ih b]
theorem ap9 (ns:List Int) (lo hi:Option Int):∃ ms:List Int,pQ (ns.map V.int) lo hi=ms.map V.int/\ms.length<=ns.length:=by
 unfold pQ;rw [<- List.map_drop,<- List.map_take];exact ⟨_,rfl,by rw [List.length_take,List.length_drop];omega⟩
theorem arV {ms:List Int} {i:Nat} {y:V} (h:(ms.map V.int)[i]?=some y):∃ z:Int,y=.int z:=by
 rw [List.getElem?_map] at h;cases e:ms[i]? with
 | none=>rw [e] at h;cases h
 | some z=>rw [e] at h;exact ⟨z,(Option.some.inj h).symm⟩
theorem acH (w:Wo):u0 (wv w) [.non,.int 0]=decide (num w=0):=by
 cases w with
 | none=>rfl
 | some n =>
  by_cases h:n=0
  ·subst h;rfl
  ·have h':¬ (0=n):=fun z=>h z.symm;simp [u0,wv,qU,num,h,h']
theorem flat01:([.non,.int 0]:List V).all dR=true:=by decide
theorem aP.nil {H H':Hp} (k:Kp [] H H'):aP H H':=fun a xs e=>k a _ e (by simp)
theorem _root_.L2.Kp.set1J {a:Addr} {H:Hp} {o:HO}:Kp [a] H (upd H a o):=Kp.set (by simp)
noncomputable def jC (pend:List Int):List (Key×V):=pend.map fun i=>(.inl i,.bl true)
noncomputable def jT (ans:List (Int×Wo)):List (Key×V):=ans.map fun p=>(.inl p.1,wv p.2)
structure iP (C:Addr) (H:Hp) (tk tx dp da:Addr) (made:Nat) (pend:List Int) (ans:List (Int×Wo)):Prop where
 ins:H tk=some (.ins C tx [("made",.int made),("pending",.ref dp),("answers",.ref da)])
 hp:H dp=some (.dK (jC pend))
 ha:H da=some (.dK (jT ans))
 nda:dp≠da
 lt:∀ i∈pend,0<=i/\i < made
 asc:pend.Pairwise (· < ·)
 la:∀ p∈ans,0<=p.1/\p.1 < made
 dis:∀ p∈ans,p.1∉pend
 small:made<=1000000
theorem iP.n1 {C:Addr} {H:Hp} {tk tx dp da:Addr} {made:Nat} {pend:List Int} {ans:List (Int×Wo)} (T:iP C H tk tx dp da made pend ans):tk≠dp/\tk≠da:=⟨dP T.ins T.hp (by intro z;cases z),dP T.ins T.ha (by intro z;cases z)⟩
theorem iP.kp {C:Addr} {H H':Hp} {tk tx dp da:Addr} {made:Nat} {pend:List Int} {ans:List (Int×Wo)} (T:iP C H tk tx dp da made pend ans) (k:Kp [] H H'):iP C H' tk tx dp da made pend ans :=
 ⟨k.at T.ins,k.at T.hp,k.at T.ha,T.nda,T.lt,T.asc,T.la,T.dis,T.small⟩
theorem zW (pend:List Int) (w:Wo):(cI (jC pend) (wk w)).isSome=decide (∃ i∈pend,w=some i):=by
 induction pend with
 | nil=>simp [jC,afI]
 | cons i r ih =>
  have e:jC (i::r)=(Key.inl i,V.bl true)::jC r:=rfl;rw [e];by_cases h:w=some i
  ·subst h;rw [show wk (some i)=Key.inl i from rfl,cU rfl];simp
  ·rw [cH (fun z=>h (by cases w with
    | none=>cases z
    | some j=>cases z;rfl)),ih]
   simp [h]
theorem al5 (pend:List Int) (i:Int):vI (jC pend) (.inl i)=jC (pend.filter fun j=>decide (j≠i)):=by
 unfold vI jC;rw [List.filter_map]
 congr 1
 apply List.filter_congr;intro j _;simp
theorem ak1 (pend:List Int):intKeys (jC pend)=some pend:=by
 induction pend with
 | nil=>rfl
 | cons i r ih =>
  show (intKeys (jC r)).map (i::·)=_;rw [ih];rfl
theorem alH {pend:List Int} {i:Int} (h:i∉pend):cI (jC pend) (.inl i)=none:=by
 have:=zW pend (some i);rw [show decide (∃ j∈pend,some i=some j)=false by simp [h]] at this;cases e:cI (jC pend) (.inl i) with
 | none=>rfl
 | some v=>rw [show wk (some i)=.inl i from rfl,e] at this;cases this
theorem alC {pend:List Int} {i:Int} (h:i∈pend):∃ v,cI (jC pend) (.inl i)=some v:=by
 have:=zW pend (some i);rw [show decide (∃ j∈pend,some i=some j)=true by simpa using h] at this;exact Option.isSome_iff_exists.mp this
theorem aoS {ans:List (Int×Wo)} {i:Int} (h:∀ p∈ans,p.1≠i):cI (jT ans) (.inl i)=none:=by
 induction ans with
 | nil=>rfl
 | cons p r ih =>
  have e:jT (p::r)=(Key.inl p.1,wv p.2)::jT r:=rfl;rw [e,cH (fun z=>h p (by simp) (by cases z;rfl)),ih fun q hq=>h q (List.mem_cons_of_mem _ hq)]
theorem vG {a b:List Int} (p:a.Perm b) (ha:a.Pairwise (·<=·)) (hb:b.Pairwise (· < ·)):a=b :=
 List.Perm.eq_of_pairwise (fun x y _ _ h1 h2=>Int.le_antisymm h1 h2) ha (hb.imp fun h=>Int.le_of_lt h) p
noncomputable def aeF (C:Addr):Sp:=fun vs H Q _=>∃ x dx:Addr,vs=[.ref x]/\H x=some (.ins C dx [])/\∀(dp da:Addr) (H':Hp),H dp=none->H da=none->iP C H' x dx dp da 0 [] []->Kp [x] H H'->Q .non H'
noncomputable def ao7 (C:Addr):Sp:=fun vs H Q _=>∃(tk tx dp da:Addr) (made:Nat) (pend:List Int) (ans:List (Int×Wo)),vs=[.ref tk]/\iP C H tk tx dp da made pend ans/\made < 1000000/\pend.length < 1000000 /\
 ∀ H',iP C H' tk tx dp da (made+1) (pend++[(made:Int)]) ans->Kp [tk,dp] H H'->Q (.int made) H'
noncomputable def am5 (C:Addr):Sp:=fun vs H Q _=>∃(tk tx dp da:Addr) (made:Nat) (pend:List Int) (ans:List (Int×Wo)) (w:Wo),vs=[.ref tk,wv w]/\iP C H tk tx dp da made pend ans/\Q (.bl (decide (∃ i∈pend,w=some i))) H
noncomputable def amL (C:Addr):Sp:=fun vs H Q _=>∃(tk tx dp da:Addr) (made:Nat) (pend:List Int) (ans:List (Int×Wo)),vs=[.ref tk]/\iP C H tk tx dp da made pend ans/\pend.length<=1000000/\∀ l,H l=none->Q (.ref l) (upd H l (.lst (pend.map V.int)))
noncomputable def anB (C:Addr):Sp:=fun vs H Q _=>∃(tk tx dp da:Addr) (made:Nat) (pend:List Int) (ans:List (Int×Wo)) (i:Int),vs=[.ref tk,.int i]/\iP C H tk tx dp da made pend ans/\i∈pend /\
 ∀ H',iP C H' tk tx dp da made (pend.filter fun j=>decide (j≠i)) ans->Kp [dp] H H'->Q .non H'
noncomputable def agT (C:Addr):Sp:=fun vs H Q _=>∃(tk tx dp da:Addr) (made:Nat) (pend:List Int) (ans:List (Int×Wo)) (i:Int) (w:Wo),vs=[.ref tk,.int i,wv w]/\iP C H tk tx dp da made pend ans/\i∈pend/\ans.length < 1000000 /\
 ∀ H',iP C H' tk tx dp da made (pend.filter fun j=>decide (j≠i)) (ans++[(i,w)])->Kp [dp,da] H H'->Q .non H'
noncomputable def arL (C:Addr):Sp:=fun vs H Q _=>∃(tk tx dp da:Addr) (made:Nat) (pend:List Int) (ans:List (Int×Wo)),vs=[.ref tk]/\iP C H tk tx dp da made pend ans /\
 ∀ H',iP C H' tk tx dp da made [] ans->Kp [dp] H H'->Q .non H'
noncomputable abbrev Stk:=List (Nat×List Stm×Nat)
noncomputable def bG:Stk->List Int
 | []=>[]
 | [(_,_,n)]=>[(n:Int)]
 | (k,_,n)::r=>bG r++[(k:Int),(n:Int)]
inductive fH (H:Hp):List V->Stk->Prop
 | one {p:Addr} {us:List V} {k n:Nat} {b:List Stm}:H p=some (.tup us)->cM H us b->fH H [.ref p] [(k,b,n)]
 | cons {p:Addr} {us vs:List V} {k n:Nat} {b:List Stm} {r:Stk}:fH H vs r->H p=some (.tup us)->cM H us b->fH H (vs++[.ref p]) ((k,b,n)::r)
theorem fH.kp {H H':Hp} {vs:List V} {st:Stk} (h:fH H vs st) (k:aP H H'):fH H' vs st:=by
 induction h with
 | one e s=>exact .one (k _ _ e) (s.kp k)
 | cons _ e s ih=>exact .cons ih (k _ _ e) (s.kp k)
theorem fH.len {H:Hp} {vs:List V} {st:Stk} (h:fH H vs st):vs.length=st.length/\1<=st.length:=by
 induction h with
 | one=>exact ⟨rfl,Nat.le_refl _⟩
 | cons _ _ _ ih=>simp [ih.1]
theorem fH.last {H:Hp} {vs:List V} {k n:Nat} {b:List Stm} {r:Stk} (h:fH H vs ((k,b,n)::r)):∃(ws:List V) (p:Addr) (us:List V),vs=ws++[.ref p]/\H p=some (.tup us)/\cM H us b/\(r≠[]->fH H ws r)/\(r=[]->ws=[]):=by
 cases h with
 | one e s=>exact ⟨[],_,_,rfl,e,s,fun z=>absurd rfl z,fun _=>rfl⟩
 | @cons p us vs k n b r hr e s=>exact ⟨vs,_,_,rfl,e,s,fun _=>hr,fun z=>by subst z;cases hr⟩
theorem fH.turn {H:Hp} {vs:List V} {k n n':Nat} {b:List Stm} {r:Stk} (h:fH H vs ((k,b,n)::r)):fH H vs ((k,b,n')::r):=by
 cases h with
 | one e s=>exact .one e s
 | cons hr e s=>exact .cons hr e s
theorem uT (k n:Nat) (b:List Stm) (r:Stk):∃ l,bG ((k,b,n)::r)=l++[(n:Int)]/\∀ n',bG ((k,b,n')::r)=l++[((n':Nat):Int)]:=by
 cases r with
 | nil=>exact ⟨[],rfl,fun _=>rfl⟩
 | cons x r=>exact ⟨bG (x::r)++[(k:Int)],by simp [bG],fun n'=>by simp [bG]⟩
theorem oI (k:Nat) (b:List Stm) (n:Nat) (x:Nat×List Stm×Nat) (r:Stk):bG ((k,b,n)::x::r)=bG (x::r)++[(k:Int),(n:Int)]:=rfl
structure jU (C:Addr) (H:Hp) (wk wx lb ln:Addr) (st:Stk):Prop where
 ins:H wk=some (.ins C wx [("blocks",.ref lb),("numbers",.ref ln)])
 bl:∃ vs,H lb=some (.lst vs)/\fH H vs st
 nu:H ln=some (.lst ((bG st).map V.int))
 ne:lb≠ln
 few:st.length<=100
noncomputable def fV:Stk->Stk
 | (k,b,n)::r=>(k,b,n+1)::r
 | []=>[]
noncomputable def ah2 (C:Addr):Sp:=fun vs H Q _=>∃(wk wx lb ln:Addr) (k n:Nat) (b:List Stm) (r:Stk) (m:Stm),vs=[.ref wk]/\jU C H wk wx lb ln ((k,b,n)::r)/\b[n]?=some m/\∀ v,dJ H v m->Q v H
noncomputable def wY (C:Addr):Sp:=fun vs H Q _=>∃(wk wx lb ln:Addr) (k n:Nat) (b:List Stm) (r:Stk),vs=[.ref wk]/\jU C H wk wx lb ln ((k,b,n)::r)/\∀ H',jU C H' wk wx lb ln ((k,b,n+1)::r)->Kp [ln] H H'->Q .non H'
noncomputable def agP (C:Addr):Sp:=fun vs H Q _=>∃(x dx p:Addr) (us:List V) (b:List Stm),vs=[.ref x,.ref p]/\H x=some (.ins C dx [])/\H p=some (.tup us)/\cM H us b/\∀(lb ln:Addr) (H':Hp),H lb=none->H ln=none->jU C H' x dx lb ln [(0,b,0)]->Kp [x] H H'->Q .non H'
noncomputable def Stm.sub:Stm->Nat->Option (List Stm)
 | .whl _ b,0=>some b
 | .iff _ b _,0=>some b
 | .iff _ _ o,1=>some o
 | _,_=>none
noncomputable def Stm.isIf:Stm->Bool
 | .iff _ _ _=>true
 | _=>false
noncomputable def abJ (C:Addr):Sp:=fun vs H Q _=>∃(wk wx lb ln:Addr) (k n c:Nat) (b bb:List Stm) (r:Stk) (m:Stm),vs=[.ref wk,.int c]/\jU C H wk wx lb ln ((k,b,n)::r)/\b[n]?=some m/\m.sub c=some bb/\r.length<=90 /\
 ∀ H',jU C H' wk wx lb ln ((c,bb,0)::(k,b,n)::r)->Kp [lb,ln] H H'->Q .non H'
noncomputable def alB (C:Addr):Sp:=fun vs H Q _=>∃(wk wx lb ln:Addr) (k n:Nat) (b:List Stm) (x:Nat×List Stm×Nat) (r:Stk) (m:Stm),vs=[.ref wk]/\jU C H wk wx lb ln (x::(k,b,n)::r)/\b[n]?=some m /\
 ∀ H',jU C H' wk wx lb ln ((k,b,if m.isIf=true then n+1 else n)::r)->Kp [lb,ln] H H'->Q .non H'
theorem dJ.subAt {H:Hp} {v:V} {m:Stm} {c:Nat} {bb:List Stm} (h:dJ H v m) (hs:m.sub c=some bb):∃(a p:Addr) (xs us:List V),v=.ref a/\H a=some (.tup xs)/\kC xs (2+(c:Int))=some (.ref p)/\H p=some (.tup us)/\cM H us bb:=by
 cases h with
 | @whl a p v s vs b e h1 f hb =>
  match c,hs with
  | 0,hs=>cases hs;exact ⟨a,p,_,vs,rfl,e,rfl,f,hb⟩
 | @iff a p q v s vs us b o e h1 f hb f2 hb2 =>
  match c,hs with
  | 0,hs=>cases hs;exact ⟨a,p,_,vs,rfl,e,rfl,f,hb⟩
  | 1,hs=>cases hs;exact ⟨a,q,_,us,rfl,e,rfl,f2,hb2⟩
 | _=>cases hs
theorem dJ.kind0 {H:Hp} {v:V} {m:Stm} (h:dJ H v m):∃(a:Addr) (x:String) (xs:List V),v=.ref a/\H a=some (.tup (.str (Str.ofString x)::xs))/\decide (x = "if")=m.isIf:=by
 cases h<;>exact ⟨_,_,_,rfl,by assumption,rfl⟩
theorem aP.eY {H:Hp} {l:Addr} {xs ys:List V} (e:H l=some (.lst xs)):aP H (upd H l (.lst ys)):=fun a zs h=>by
 rw [aI (dP h e (by intro z;cases z))];exact h
theorem xO:∀ st:Stk,(bG st).length<=2 * st.length
 | []=>by simp [bG]
 | [(_,_,n)]=>by simp [bG]
 | (k,b,n)::x::r=>by
  have:=xO (x::r);rw [oI,List.length_append];simp only [List.length_cons,List.length_nil] at this ⊢;omega
theorem tV {α:Type} (l:List α) (x:α):(l++[x])[(l++[x]).length - 1]?=some x:=by simp
theorem aP.tr {H H1 H2:Hp} (a:aP H H1) (b:aP H1 H2):aP H H2:=fun c xs e=>b c xs (a c xs e)
noncomputable def vJ (b:List Stm) (n:Nat):Nat:=match b[n]? with
 | some m=>if m.isIf=true then n+1 else n
 | none=>n
noncomputable def cQ:Stk->Stk
 | (k,b,n)::(k2,b2,n2)::r=>if n=b.length then cQ ((k2,b2,vJ b2 n2)::r) else (k,b,n)::(k2,b2,n2)::r
 | st=>st
termination_by st=>st.length
noncomputable def zV:Stk->Prop
 | []=>False
 | (_,b,n)::r=>n<=b.length/\∀ x∈r,x.2.2 < x.2.1.length
noncomputable def stand:Stk->Option Stm
 | (_,b,n)::_=>b[n]?
 | []=>none
theorem afJ {b:List Stm} {n:Nat} (h:n < b.length):vJ b n<=b.length:=by
 unfold vJ;split
 ·split<;>omega
 ·omega
noncomputable def aqD (C:Addr):Sp:=fun vs H Q _=>∃(wk wx lb ln:Addr) (st:Stk),vs=[.ref wk]/\jU C H wk wx lb ln st/\zV st /\
 (∀ H',jU C H' wk wx lb ln (cQ st)->zV (cQ st)->stand (cQ st)=none->Kp [lb,ln] H H'->Q .non H') /\
 ∀(m:Stm) (v:V) (H':Hp),jU C H' wk wx lb ln (cQ st)->zV (cQ st)->stand (cQ st)=some m->dJ H' v m->Kp [lb,ln] H H'->Q v H'
noncomputable abbrev Cmds:=List (List V)
inductive eT (H:Hp):List V->Cmds->Prop
 | nil:eT H [] []
 | cons {a:Addr} {c:List V} {us:List V} {cs:Cmds}:H a=some (.tup c)->eT H us cs->eT H (.ref a::us) (c::cs)
theorem eT.kt {H H':Hp} {us:List V} {cs:Cmds} (h:eT H us cs) (k:aP H H'):eT H' us cs:=by
 induction h with
 | nil=>exact .nil
 | cons a _ ih=>exact .cons (k _ _ a) ih
theorem eT.len {H:Hp} {us:List V} {cs:Cmds} (h:eT H us cs):us.length=cs.length:=by
 induction h with
 | nil=>rfl
 | cons _ _ ih=>simp [ih]
theorem eT.app {H:Hp} {us vs:List V} {ps qs:Cmds} (h:eT H us ps) (g:eT H vs qs):eT H (us++vs) (ps++qs):=by
 induction h with
 | nil=>exact g
 | cons e _ ih=>exact .cons e ih
theorem eT.at {H:Hp} {us:List V} {cs:Cmds} (h:eT H us cs):∀ {i:Nat} {v:V},us[i]?=some v->∃ a c,v=.ref a/\cs[i]?=some c/\H a=some (.tup c):=by
 induction h with
 | nil=>intro i v e;simp at e
 | cons x _ ih =>
  intro i v e;cases i with
  | zero=>simp only [List.getElem?_cons_zero,Option.some.injEq] at e;subst e;exact ⟨_,_,rfl,rfl,x⟩
  | succ i=>exact ih (by simpa using e)
inductive Slp where
 | non | new | wait (ts:List Int) | hear (k:Str) | ended (w:Wo) | worn
noncomputable def Slp.isN:Slp->Bool
 | .non=>true
 | _=>false
noncomputable def fU (H:Hp) (v:V):Slp->Prop
 | .non=>v=.non
 | .new=>∃ p,v=.ref p/\H p=some (.tup [.str "new"])
 | .wait ts=>∃ p p2,v=.ref p/\H p=some (.tup [.str "wait",.ref p2])/\H p2=some (.tup (ts.map V.int))
 | .hear k=>∃ p,v=.ref p/\H p=some (.tup [.str "hear",.str k])
 | .ended w=>∃ p,v=.ref p/\H p=some (.tup [.str "ended",wv w])
 | .worn=>∃ p,v=.ref p/\H p=some (.tup [.str "worn"])
theorem fU.kt {H H':Hp} {v:V} {s:Slp} (h:fU H v s) (k:aP H H'):fU H' v s:=by
 cases s with
 | non=>exact h
 | wait ts=>obtain ⟨p,p2,e,a,b⟩:=h;exact ⟨p,p2,e,k _ _ a,k _ _ b⟩
 | _=>obtain ⟨p,e,a⟩:=h;exact ⟨p,e,k _ _ a⟩
theorem fU.isN {H:Hp} {v:V} {s:Slp} (h:fU H v s):(s.isN=true/\v=.non)\/(s.isN=false/\∃ p,v=.ref p):=by
 cases s with
 | non=>exact .inl ⟨rfl,h⟩
 | wait ts=>obtain ⟨p,p2,e,a,b⟩:=h;exact .inr ⟨rfl,p,e⟩
 | _=>obtain ⟨p,e,a⟩:=h;exact .inr ⟨rfl,p,e⟩
noncomputable def k7 (l:List (Str×Wo)):List (Key×V):=l.map fun p=>(.inr p.1,wv p.2)
noncomputable def dH (l:List (Str×Wo)) (n:Str) (w:Wo):List (Str×Wo):=if (l.any fun p=>decide (p.1=n))=true then l.map (fun p=>if p.1=n then (p.1,w) else p) else l++[(n,w)]
theorem lK (l:List (Str×Wo)) (n:Str) (w:Wo):eI (k7 l) (.inr n) (wv w)=k7 (dH l n w):=by
 have e:((k7 l).any fun kv=>decide (kv.1=Key.inr n))=(l.any fun p=>decide (p.1=n)):=by
  simp only [k7,List.any_map,Function.comp_def,Key.inr.injEq]
 unfold eI dH;rw [e];split
 ·simp only [k7,List.map_map,Function.comp_def,Key.inr.injEq];refine List.map_congr_left fun p _=>?_;by_cases h:p.1=n
  ·simp [h]
  ·simp [h]
 ·simp [k7]
theorem af9 (l:List (Str×Wo)) (n:Str) (w:Wo):(dH l n w).length<=l.length+1:=by
 unfold dH;split
 ·rw [List.length_map];omega
 ·simp
noncomputable def jO:List (Str×Wo)->Str->Wo
 | [],_=>none
 | p::r,x=>if p.1=x then p.2 else jO r x
theorem wA:∀(l:List (Str×Wo)) (x:Str),(cI (k7 l) (.inr x)).getD .non=wv (jO l x)
 | [],x=>rfl
 | p::r,x=>by
  have ih:=wA r x;show (cI ((Key.inr p.1,wv p.2)::k7 r) (.inr x)).getD .non=_;by_cases h:p.1=x
  ·rw [cU (by rw [h]),jO,if_pos h];rfl
  ·rw [cH (fun z=>h (Key.inr.inj z)),jO,if_neg h];exact ih
theorem amN (l:List (Str×Wo)) (n:Str) (w:Wo) (x:Str):jO (dH l n w) x=if x=n then w else jO l x:=by
 have h1:=wA (dH l n w) x;rw [<- lK,yL] at h1;by_cases h:x=n
 ·rw [if_pos (by rw [h])] at h1;rw [if_pos h];exact (agV h1).symm
 ·rw [if_neg (fun z=>h (Key.inr.inj z)),wA] at h1;rw [if_neg h];exact (agV h1).symm
noncomputable def fA (l:List (Int×Wo)):Wo->Wo
 | none=>none
 | some i=>match l with
  | []=>none
  | p::r=>if p.1=i then p.2 else fA r (some i)
theorem wW:∀(l:List (Int×Wo)) (w:Wo),(cI (jT l) (wk w)).getD .non=wv (fA l w)
 | [],none=>rfl
 | [],some _=>rfl
 | p::r,none=>by
  have ih:=wW r none;show (cI ((Key.inl p.1,wv p.2)::jT r) .no).getD .non=_;rw [cH (by intro z;cases z)];rw [show fA (p::r) none=fA r none from by rw [fA,fA]];exact ih
 | p::r,some i=>by
  have ih:=wW r (some i);show (cI ((Key.inl p.1,wv p.2)::jT r) (.inl i)).getD .non=_;by_cases h:p.1=i
  ·rw [cU (by rw [h]),fA,if_pos h];rfl
  ·rw [cH (fun z=>h (Key.inl.inj z)),fA,if_neg h];exact ih
inductive jX (H:Hp):List (Key×V)->List Addr->List (Str×List Wo)->Prop
 | nil:jX H [] [] []
 | cons {a:Addr} {k:Str} {ws:List Wo} {kvs:List (Key×V)} {as:List Addr} {lt:List (Str×List Wo)}:H a=some (.lst (ws.map wv))->jX H kvs as lt->jX H ((.inr k,.ref a)::kvs) (a::as) ((k,ws)::lt)
theorem jX.keep {H H':Hp} {kvs:List (Key×V)} {as:List Addr} {lt:List (Str×List Wo)} (h:jX H kvs as lt) (k:∀ a∈as,∀ o,H a=some o->H' a=some o):jX H' kvs as lt:=by
 induction h with
 | nil=>exact .nil
 | cons e _ ih=>exact .cons (k _ (by simp) _ e) (ih fun a ha=>k a (List.mem_cons_of_mem _ ha))
theorem jX.ex {H:Hp} {kvs:List (Key×V)} {as:List Addr} {lt:List (Str×List Wo)} (h:jX H kvs as lt):∀ a∈as,∃ xs,H a=some (.lst xs):=by
 induction h with
 | nil=>intro a ha;simp at ha
 | cons e _ ih=>intro a ha;rcases List.mem_cons.mp ha with rfl | ha;exact ⟨_,e⟩;exact ih a ha
theorem jX.len {H:Hp} {kvs:List (Key×V)} {as:List Addr} {lt:List (Str×List Wo)} (h:jX H kvs as lt):kvs.length=lt.length:=by
 induction h with
 | nil=>rfl
 | cons _ _ ih=>simp [ih]
noncomputable def cL:List (Str×List Wo)->Str->Option (List Wo)
 | [],_=>none
 | p::r,k=>if p.1=k then some p.2 else cL r k
noncomputable def eY:List (Str×List Wo)->Str->List Wo->List (Str×List Wo)
 | [],_,_=>[]
 | p::r,k,ws=>if p.1=k then (p.1,ws)::r else p::eY r k ws
theorem jX.look {H:Hp} {kvs:List (Key×V)} {as:List Addr} {lt:List (Str×List Wo)} (h:jX H kvs as lt) (k:Str):(cI kvs (.inr k)=none/\cL lt k=none) \/
    ∃ a ws,cI kvs (.inr k)=some (.ref a)/\cL lt k=some ws/\a∈as/\H a=some (.lst (ws.map wv)):=by
  induction h with
  | nil=>exact .inl ⟨rfl,rfl⟩
  | @cons a j ws kvs as lt e _ ih =>
    by_cases hj:j=k
    · subst hj;exact .inr ⟨a,ws,cU rfl,by simp [cL],by simp,e⟩
    · rcases ih with ⟨x,y⟩ | ⟨b,vs,x,y,z,u⟩
      · exact .inl ⟨by rw [cH (fun z=>hj (Key.inr.inj z))];exact x,by simp [cL,hj,y]⟩
      · exact .inr ⟨b,vs,by rw [cH (fun z=>hj (Key.inr.inj z))];exact x,by simp [cL,hj,y],List.mem_cons_of_mem _ z,u⟩
theorem jX.set {H:Hp} {kvs:List (Key×V)} {as:List Addr} {lt:List (Str×List Wo)} (h:jX H kvs as lt) {k:Str} {a:Addr} (r:List Wo) (hk:cI kvs (.inr k)=some (.ref a)) (nd:as.Nodup):jX (upd H a (.lst (r.map wv))) kvs as (eY lt k r):=by
 induction h with
 | nil=>cases hk
 | @cons b j ws kvs as lt e hr ih =>
  rw [List.nodup_cons] at nd;by_cases hj:j=k
  ·subst hj;rw [cU rfl] at hk;cases hk;rw [eY,if_pos rfl];exact .cons aA (hr.keep fun c hc o h=>by rw [aI (show c≠a from fun z=>nd.1 (by rw [<- z];exact hc))];exact h)
  ·rw [cH (fun z=>hj (Key.inr.inj z))] at hk;rw [eY,if_neg hj];have ha:a∈as:=by
    rcases hr.look k with ⟨x,_⟩ | ⟨c,_,x,_,y,_⟩
    ·rw [x] at hk;cases hk
    ·rw [x] at hk;cases hk;exact y
   exact .cons (by rw [aI (show b≠a from fun z=>nd.1 (by rw [z];exact ha))];exact e) (ih hk nd.2)
theorem jX.snoc {H:Hp} {kvs:List (Key×V)} {as:List Addr} {lt:List (Str×List Wo)} (h:jX H kvs as lt) {k:Str} {a:Addr} {ws:List Wo} (e:H a=some (.lst (ws.map wv))):jX H (kvs++[(.inr k,.ref a)]) (as++[a]) (lt++[(k,ws)]):=by
 induction h with
 | nil=>exact .cons e .nil
 | cons f _ ih=>exact .cons f ih
structure Pu where
 stk:Stk
 sl:Slp
 ar:Wo
 nw:Int
 nm:List (Str×Wo)
 made:Nat
 pend:List Int
 ans:List (Int×Wo)
 lt:List (Str×List Wo)
noncomputable def Pu.pl (S:Pu):Pl:=⟨jO S.nm,S.ar,S.nw,fA S.ans⟩
noncomputable def Pu.worth (S:Pu) (s:Say):Wo:=ev S.pl s
noncomputable def Pu.newT (S:Pu) (n:Str):Pu:={S with made:=S.made+1,pend:=S.pend++[(S.made:Int)],nm:=dH S.nm n (some (S.made:Int))}
noncomputable def Pu.pass (S:Pu):Pu:={S with stk:=fV S.stk}
noncomputable def anQ (nw:Int):Wo->Int
 | none=>if nw < 1000000000000 then nw else 1000000000000
 | some z=>if nw+(if z > 0 then z else 0) < 1000000000000 then nw+(if z > 0 then z else 0) else 1000000000000
noncomputable def Pu.ends (S:Pu) (w:Wo):Pu×Cmds:=({S with sl:=.ended w,pend:=[]},[[.str "end",wv w]])
noncomputable def Pu.wears (S:Pu):Pu×Cmds:=({S with sl:=.worn,pend:=[]},[[.str "worn"]])
noncomputable def cB (ans:List (Int×Wo)) (ws:List Wo):Wo:=(ans.find? fun p=>decide (some p.1∈ws)).map (·.1)
noncomputable def y7 (i:Int):List Int->List Int
 | []=>[i]
 | j::r=>if i < j then i::j::r else if i=j then j::r else j::y7 i r
noncomputable def cE (pend:List Int):List Wo->List Int
 | []=>[]
 | none::r=>cE pend r
 | some i::r=>if i∈pend then y7 i (cE pend r) else cE pend r
noncomputable def deed (S:Pu):Stm->Pu×Cmds
 | .set x s=>({S with nm:=dH S.nm x (S.worth s)},[])
 | .order x y s=>(S.newT x,[[.str "order",.int S.made,.str y,wv (S.worth s)]])
 | .child x y s=>(S.newT x,[[.str "child",.int S.made,.str y,wv (S.worth s)]])
 | .timer x s=>(S.newT x,[[.str "timer",.int S.made,.int (anQ S.nw (S.worth s))]])
 | .send s k r=>(S,[[.str "send",wv (S.worth s),.str k,wv (S.worth r)]])
 | .drop s=>match S.worth s with
  | some i=>if i∈S.pend then ({S with pend:=S.pend.filter fun j=>decide (j≠i)},[[.str "drop",.int i]]) else (S,[])
  | none=>(S,[])
 | .hear x k=>match (cL S.lt k).getD [] with
  | w::r=>({S with nm:=dH S.nm x w,lt:=eY S.lt k r},[])
  | []=>({S with sl:=.hear k},[])
 | .wait x ss=>if cB S.ans (ss.map S.worth)=none/\cE S.pend (ss.map S.worth)≠[] then ({S with sl:=.wait (cE S.pend (ss.map S.worth))},[]) else ({S with nm:=dH S.nm x (cB S.ans (ss.map S.worth))},[])
 | .fin s=>S.ends (S.worth s)
 | .whl _ _=>(S,[])
 | .iff _ _ _=>(S,[])
noncomputable def Stm.isB:Stm->Bool
 | .whl _ _=>true
 | .iff _ _ _=>true
 | _=>false
noncomputable def Pu.enter (S:Pu) (c:Nat) (b:List Stm):Pu:={S with stk:=(c,b,0)::S.stk}
noncomputable def xX (S:Pu):Stm->Pu
 | .whl s b=>if num (S.worth s)=0 then S.pass else S.enter 0 b
 | .iff s b o=>if num (S.worth s)=0 then S.enter 1 o else S.enter 0 b
 | _=>S
noncomputable def one (S:Pu) (m:Stm):Pu×Cmds:=if m.isB=true then (xX S m,[]) else (if (deed S m).1.sl.isN=true then (deed S m).1.pass else (deed S m).1,(deed S m).2)
noncomputable def Pu.come (S:Pu):Pu:={S with stk:=cQ S.stk}
noncomputable def gY:Nat->Pu->Pu×Cmds
 | 0,S=>match stand S.come.stk with
  | none=>S.come.ends none
  | some _=>S.come.wears
 | n+1,S=>match stand S.come.stk with
  | none=>S.come.ends none
  | some m=>if (one S.come m).1.sl.isN=true then ((gY n (one S.come m).1).1,(one S.come m).2++(gY n (one S.come m).1).2) else one S.come m
noncomputable def Pu.wake (S:Pu) (w:Wo):Pu×Cmds:=match stand S.stk with
 | some (.hear x _)=>gY 300 {S with nm:=dH S.nm x w,stk:=fV S.stk,sl:=.non}
 | some (.wait x _)=>gY 300 {S with nm:=dH S.nm x w,stk:=fV S.stk,sl:=.non}
 | _=>(S,[])
noncomputable def later (nw m:Int):Int:=if m > nw then m else nw
noncomputable def Say.sok (s:Say):Prop:=s.ok/\s.depth<=6
mutual
noncomputable def Stm.gd (wt:Bool):Stm->Prop
 | .set _ s=>s.sok
 | .order _ _ s=>s.sok
 | .child _ _ s=>s.sok
 | .timer _ s=>s.sok
 | .send s _ r=>s.sok/\r.sok
 | .drop s=>s.sok
 | .wait _ ss=>wt=true/\ss.length<=4/\∀ s∈ss,s.sok
 | .hear _ _=>True
 | .fin s=>s.sok
 | .whl s b=>s.sok/\wH wt b
 | .iff s b o=>s.sok/\wH wt b/\wH wt o
noncomputable def wH (wt:Bool):List Stm->Prop
 | []=>True
 | m::ms=>m.gd wt/\wH wt ms
end
theorem an1 {wt:Bool}:∀ {b:List Stm} {i:Nat} {m:Stm},wH wt b->b[i]?=some m->m.gd wt
 | [],_,_,_,h=>by simp at h
 | _::_,0,_,g,h=>by simp only [List.getElem?_cons_zero,Option.some.injEq] at h;subst h;simp only [wH] at g;exact g.1
 | _::b,i+1,_,g,h=>by simp only [wH] at g;exact an1 g.2 (by simpa using h)
theorem aoL:∀ {b:List Stm} {i:Nat} {m:Stm},b[i]?=some m->m.dp<=dpL b
 | [],_,_,h=>by simp at h
 | _::_,0,_,h=>by simp only [List.getElem?_cons_zero,Option.some.injEq] at h;subst h;simp only [dpL];omega
 | _::b,i+1,_,h=>by have:=aoL (b:=b) (by simpa using h);simp only [dpL];omega
noncomputable def DpS:Stk->Prop
 | []=>True
 | (_,b,_)::r=>dpL b+r.length<=20/\DpS r
structure aa0 (wt:Bool) (st:Stk):Prop where
 ok:zV st
 gd:∀ x∈st,wH wt x.2.1
 dp:DpS st
structure Fit (wt:Bool) (S:Pu) (N:Nat):Prop where
 nm:S.nm.length<=N
 md:S.made<=N
 pd:S.pend.length<=N
 an:S.ans.length<=N
 lt:S.lt.length<=N
 lw:∀ k ws,cL S.lt k=some ws->ws.length<=N/\∀ w∈ws,cV w
 pl:S.pl.Ok
 nw:0<=S.nw/\S.nw<=1000000000000
 sk:aa0 wt S.stk
 sl:(∀ k,S.sl=.hear k->∃ x,stand S.stk=some (.hear x k))/\∀ ts,S.sl=.wait ts->∃ x ss,stand S.stk=some (.wait x ss)
structure Cl where
 r:Addr
 w:Addr
 t:Addr
structure Rn where
 x:Addr
 dx:Addr
 wk:Addr
 wx:Addr
 lb:Addr
 ln:Addr
 nm:Addr
 tk:Addr
 tx:Addr
 dp:Addr
 da:Addr
 lt:Addr
noncomputable def Rn.cells (R:Rn):List Addr:=[R.x,R.lb,R.ln,R.nm,R.tk,R.dp,R.da,R.lt]
theorem jU.keep {C:Addr} {H H':Hp} {wk wx lb ln:Addr} {st:Stk} (W:jU C H wk wx lb ln st) (k1:∀ o,H wk=some o->H' wk=some o) (k2:∀ o,H lb=some o->H' lb=some o) (k3:∀ o,H ln=some o->H' ln=some o) (kt:aP H H'):jU C H' wk wx lb ln st:=by
 obtain ⟨vs,e,h⟩:=W.bl;exact ⟨k1 _ W.ins,⟨vs,k2 _ e,h.kp kt⟩,k3 _ W.nu,W.ne,W.few⟩
theorem iP.keep {C:Addr} {H H':Hp} {tk tx dp da:Addr} {made:Nat} {pend:List Int} {ans:List (Int×Wo)} (T:iP C H tk tx dp da made pend ans) (k1:∀ o,H tk=some o->H' tk=some o) (k2:∀ o,H dp=some o->H' dp=some o) (k3:∀ o,H da=some o->H' da=some o):iP C H' tk tx dp da made pend ans :=
 ⟨k1 _ T.ins,k2 _ T.hp,k3 _ T.ha,T.nda,T.lt,T.asc,T.la,T.dis,T.small⟩
structure bB (C:Cl) (H:Hp) (R:Rn) (as:List Addr) (sl:V) (S:Pu):Prop where
 ins:H R.x=some (.ins C.r R.dx [("walk",.ref R.wk),("sleep",sl),("arg",wv S.ar),("now",.int S.nw),("names",.ref R.nm),("tickets",.ref R.tk),("letters",.ref R.lt)])
 slp:fU H sl S.sl
 wk:jU C.w H R.wk R.wx R.lb R.ln S.stk
 tk:iP C.t H R.tk R.tx R.dp R.da S.made S.pend S.ans
 nm:H R.nm=some (.dK (k7 S.nm))
 lt:∃ kvs,H R.lt=some (.dK kvs)/\jX H kvs as S.lt
 nas:as.Nodup
 ab:∀ a∈as,a≠R.lb/\a≠R.ln
 xw:R.x≠R.wk
 xt:R.x≠R.tk
 wt:R.wk≠R.tk
 n1:R.nm≠R.dp
 n2:R.nm≠R.da
 n3:R.nm≠R.lt
 n4:R.lt≠R.dp
 n5:R.lt≠R.da
theorem jL {H:Hp} {p b:Addr} {o u v:HO} (e:H p=some o) (h:H b=some v) (d:v≠o):upd H p u b=some v:=by
 rw [aI (dP h e d)];exact h
theorem aP.setO {H:Hp} {p:Addr} {o u:HO} (e:H p=some o) (d:∀ xs,o≠.tup xs):aP H (upd H p u):=fun a xs h=>jL e h (d xs).symm
section
variable {C:Cl} {H H':Hp} {R:Rn} {as as':List Addr} {sl:V} {S:Pu}
theorem bB.keep (A:bB C H R as sl S) (k:∀ b o,H b=some o->b=R.wk\/b∈R.cells\/b∈as->H' b=some o) (kt:aP H H'):bB C H' R as sl S:=by
 obtain ⟨kvs,e,L⟩:=A.lt;have c:∀ {b:Addr} {o:HO},b∈R.cells->H b=some o->H' b=some o:=fun {b o} h e=>k b o e (.inr (.inl h));exact {A with
  ins:=c (by simp [Rn.cells]) A.ins
  slp:=A.slp.kt kt
  wk:=A.wk.keep (fun o h=>k _ o h (.inl rfl)) (fun o h=>c (by simp [Rn.cells]) h) (fun o h=>c (by simp [Rn.cells]) h) kt
  tk:=A.tk.keep (fun o h=>c (by simp [Rn.cells]) h) (fun o h=>c (by simp [Rn.cells]) h) (fun o h=>c (by simp [Rn.cells]) h)
  nm:=c (by simp [Rn.cells]) A.nm
  lt:=⟨kvs,c (by simp [Rn.cells]) e,L.keep fun a ha o h=>k a o h (.inr (.inr ha))⟩}
theorem bB.kp (A:bB C H R as sl S) (k:Kp [] H H'):bB C H' R as sl S:=A.keep (fun _ _ h _=>k.at h) (aP.nil k)
theorem bB.cellK (A:bB C H R as sl S) {b:Addr} (h:b∈R.cells\/b∈as):∃ o,H b=some o/\∀ xs,o≠.tup xs:=by
 obtain ⟨kvs,e,L⟩:=A.lt;obtain ⟨vs,el,_⟩:=A.wk.bl;rcases h with h | h
 ·simp only [Rn.cells,List.mem_cons,List.not_mem_nil,or_false] at h;rcases h with rfl | rfl | rfl | rfl | rfl | rfl | rfl | rfl
  ·exact ⟨_,A.ins,fun _ z=>by cases z⟩
  ·exact ⟨_,el,fun _ z=>by cases z⟩
  ·exact ⟨_,A.wk.nu,fun _ z=>by cases z⟩
  ·exact ⟨_,A.nm,fun _ z=>by cases z⟩
  ·exact ⟨_,A.tk.ins,fun _ z=>by cases z⟩
  ·exact ⟨_,A.tk.hp,fun _ z=>by cases z⟩
  ·exact ⟨_,A.tk.ha,fun _ z=>by cases z⟩
  ·exact ⟨_,e,fun _ z=>by cases z⟩
 ·obtain ⟨xs,ex⟩:=L.ex b h;exact ⟨_,ex,fun _ z=>by cases z⟩
structure Fw (R:Rn) (as as':List Addr) (H H':Hp):Prop where
 kp:∀ b o,H b=some o->b∉R.cells->b∉as->H' b=some o
 dom:∀ b o,H b=some o->∃ o',H' b=some o'
 new:∀ a∈as',a∈as\/H a=none
theorem Fw.refl:Fw R as as H H:=⟨fun _ _ h _ _=>h,fun _ o h=>⟨o,h⟩,fun _ h=>.inl h⟩
theorem Fw.free (F:Fw R as as' H H') {c:Addr} (h:H' c=none):H c=none:=by
 cases z:H c with
 | none=>rfl
 | some o=>obtain ⟨o',z'⟩:=F.dom c o z;rw [h] at z';cases z'
theorem Fw.trans {as'':List Addr} {H'':Hp} (a:Fw R as as' H H') (b:Fw R as' as'' H' H''):Fw R as as'' H H'' :=
  ⟨fun c o h n m=>b.kp c o (a.kp c o h n m) n (fun z=>by
      rcases a.new c z with y | y
      · exact m y
      · rw [h] at y;cases y),fun c o h=>(by obtain ⟨o',h'⟩:=a.dom c o h;exact b.dom c o' h'),fun c h=>by
    rcases b.new c h with y | y
    · exact a.new c y
    · exact .inr (a.free y)⟩
theorem Fw.of (k:Kp [] H H'):Fw R as as H H':=⟨fun b o h _ _=>k.at h,fun b o h=>⟨o,k.at h⟩,fun _ h=>.inl h⟩
theorem Fw.set {p:Addr} {o:HO} (h:p∈R.cells\/p∈as):Fw R as as H (upd H p o) :=
 ⟨fun b u e n m=>by rw [aI (fun z=>by rcases h with h | h;exact n (by rw [z];exact h);exact m (by rw [z];exact h))];exact e,fun b u e=>by by_cases z:b=p;exact ⟨o,by rw [z,aA]⟩;exact ⟨u,by rw [aI z];exact e⟩,fun _ h=>.inl h⟩
theorem Fw.ofD {D:List Addr} (k:Kp D H H') (h:∀ b∈D,b∈R.cells/\∃ o,H' b=some o):Fw R as as H H' :=
 ⟨fun b o e n _=>k b o e fun z=>n (h b z).1,fun b o e=>by by_cases z:b∈D;exact (h b z).2;exact ⟨o,k b o e z⟩,fun _ h=>.inl h⟩
theorem Fw.fresh {c:Addr} {o:HO} (F:Fw R as as' H H') (h:H c=none):Fw R as as' H (upd H' c o) :=
 ⟨fun b u e n m=>by rw [aI (aL e h)];exact F.kp b u e n m,fun b u e=>by rw [aI (aL e h)];exact F.dom b u e,F.new⟩
theorem bB.tkp (A:bB C H R as sl S) (F:Fw R as as' H H'):aP H H':=fun b xs h=>F.kp b _ h (fun z=>by
    obtain ⟨o,e,d⟩:=A.cellK (.inl z);rw [h] at e;exact d xs (Option.some.inj e).symm) fun z=>by
    obtain ⟨o,e,d⟩:=A.cellK (.inr z);rw [h] at e;exact d xs (Option.some.inj e).symm
theorem bB.nofree (A:bB C H R as sl S) {c:Addr} (h:H c=none):c∉R.cells/\c∉as:=by
 refine ⟨fun z=>?_,fun z=>?_⟩
 ·obtain ⟨o,e,d⟩:=A.cellK (.inl z);rw [h] at e;cases e
 ·obtain ⟨o,e,d⟩:=A.cellK (.inr z);rw [h] at e;cases e
theorem bB.attr (A:bB C H R as sl S) (sl':V) (s':Slp) (ar':Wo) (nw':Int) (h:fU H sl' s'):bB C (upd H R.x (.ins C.r R.dx [("walk",.ref R.wk),("sleep",sl'),("arg",wv ar'),("now",.int nw'),("names",.ref R.nm),("tickets",.ref R.tk),("letters",.ref R.lt)])) R as sl' {S with sl:=s',ar:=ar',nw:=nw'}:=by
 obtain ⟨kvs,e,L⟩:=A.lt;obtain ⟨vs,el,_⟩:=A.wk.bl;have kt:aP H (upd H R.x (.ins C.r R.dx [("walk",.ref R.wk),("sleep",sl'),("arg",wv ar'),("now",.int nw'),("names",.ref R.nm),("tickets",.ref R.tk),("letters",.ref R.lt)])):=aP.setO A.ins (by intro _ z;cases z);exact {A with
  ins:=aA
  slp:=h.kt kt
  wk:=A.wk.keep (fun o h=>by rw [aI A.xw.symm];exact h) (fun o h=>by rw [el] at h;cases h;exact jL A.ins el (by intro z;cases z)) (fun o h=>by rw [A.wk.nu] at h;cases h;exact jL A.ins A.wk.nu (by intro z;cases z)) kt
  tk:=A.tk.keep (fun o h=>by rw [aI A.xt.symm];exact h) (fun o h=>by rw [A.tk.hp] at h;cases h;exact jL A.ins A.tk.hp (by intro z;cases z)) (fun o h=>by rw [A.tk.ha] at h;cases h;exact jL A.ins A.tk.ha (by intro z;cases z))
  nm:=jL A.ins A.nm (by intro z;cases z)
  lt:=⟨kvs,jL A.ins e (by intro z;cases z),L.keep fun a ha o h=>by obtain ⟨xs,ex⟩:=L.ex a ha;rw [ex] at h;cases h;exact jL A.ins ex (by intro z;cases z)⟩}
theorem bB.walk (A:bB C H R as sl S) {st:Stk} (W:jU C.w H' R.wk R.wx R.lb R.ln st) (k:Kp [R.lb,R.ln] H H'):bB C H' R as sl {S with stk:=st}:=by
 obtain ⟨kvs,e,L⟩:=A.lt;obtain ⟨vs,el,_⟩:=A.wk.bl;have at':∀ {b:Addr} {o:HO},H b=some o->(∀ xs,o≠.lst xs)->H' b=some o:=fun {b o} h d=>k b o h (by
  simp only [List.mem_cons,List.not_mem_nil,or_false,not_or];exact ⟨dP h el (d _),dP h A.wk.nu (d _)⟩)
 have kt:aP H H':=fun b xs h=>at' h (by intro _ z;cases z);exact {A with
  ins:=at' A.ins (by intro _ z;cases z)
  slp:=A.slp.kt kt
  wk:=W
  tk:=⟨at' A.tk.ins (by intro _ z;cases z),at' A.tk.hp (by intro _ z;cases z),at' A.tk.ha (by intro _ z;cases z),A.tk.nda,A.tk.lt,A.tk.asc,A.tk.la,A.tk.dis,A.tk.small⟩
  nm:=at' A.nm (by intro _ z;cases z)
  lt:=⟨kvs,at' e (by intro _ z;cases z),L.keep fun a ha o h=>k a o h (by
   simp only [List.mem_cons,List.not_mem_nil,or_false,not_or];exact A.ab a ha)⟩}
theorem bB.fwalk (_:bB C H R as sl S) {st:Stk} (W:jU C.w H' R.wk R.wx R.lb R.ln st) (k:Kp [R.lb,R.ln] H H'):Fw R as as H H':=Fw.ofD k fun b hb=>by
 obtain ⟨vs,el,_⟩:=W.bl;simp only [List.mem_cons,List.not_mem_nil,or_false] at hb;rcases hb with rfl | rfl
 ·exact ⟨by simp [Rn.cells],_,el⟩
 ·exact ⟨by simp [Rn.cells],_,W.nu⟩
theorem bB.tick (A:bB C H R as sl S) {md:Nat} {pd:List Int} {an:List (Int×Wo)} (T:iP C.t H' R.tk R.tx R.dp R.da md pd an) (k:Kp [R.tk,R.dp,R.da] H H'):bB C H' R as sl {S with made:=md,pend:=pd,ans:=an}:=by
 obtain ⟨kvs,e,L⟩:=A.lt;obtain ⟨vs,el,_⟩:=A.wk.bl;have at':∀ {b:Addr} {o:HO},H b=some o->(∀ xs,o≠.dK xs)->(∀ C d f,o≠.ins C d f)->H' b=some o:=fun {b o} h d d2=>k b o h (by
  simp only [List.mem_cons,List.not_mem_nil,or_false,not_or];exact ⟨dP h A.tk.ins (d2 _ _ _),dP h A.tk.hp (d _),dP h A.tk.ha (d _)⟩)
 have kC:∀ {b:Addr} {o:HO},H b=some o->(∀ xs,o≠.dK xs)->b≠R.tk->H' b=some o:=fun {b o} h d d2=>k b o h (by
  simp only [List.mem_cons,List.not_mem_nil,or_false,not_or];exact ⟨d2,dP h A.tk.hp (d _),dP h A.tk.ha (d _)⟩)
 have atD:∀ {b:Addr} {o:HO},H b=some o->(∀ C d f,o≠.ins C d f)->b≠R.dp->b≠R.da->H' b=some o:=fun {b o} h d d2 d3=>k b o h (by
  simp only [List.mem_cons,List.not_mem_nil,or_false,not_or];exact ⟨dP h A.tk.ins (d _ _ _),d2,d3⟩)
 have kt:aP H H':=fun b xs h=>at' h (by intro _ z;cases z) (by intro _ _ _ z;cases z);exact {A with
  ins:=kC A.ins (by intro _ z;cases z) A.xt
  slp:=A.slp.kt kt
  wk:=A.wk.keep (fun o h=>by rw [A.wk.ins] at h;cases h;exact kC A.wk.ins (by intro _ z;cases z) A.wt) (fun o h=>by rw [el] at h;cases h;exact at' el (by intro _ z;cases z) (by intro _ _ _ z;cases z)) (fun o h=>by rw [A.wk.nu] at h;cases h;exact at' A.wk.nu (by intro _ z;cases z) (by intro _ _ _ z;cases z)) kt
  tk:=T
  nm:=atD A.nm (by intro _ _ _ z;cases z) A.n1 A.n2
  lt:=⟨kvs,atD e (by intro _ _ _ z;cases z) A.n4 A.n5,L.keep fun a ha o h=>by obtain ⟨xs,ex⟩:=L.ex a ha;rw [ex] at h;cases h;exact at' ex (by intro _ z;cases z) (by intro _ _ _ z;cases z)⟩}
theorem bB.ftick (_:bB C H R as sl S) {md:Nat} {pd:List Int} {an:List (Int×Wo)} (T:iP C.t H' R.tk R.tx R.dp R.da md pd an) (k:Kp [R.tk,R.dp,R.da] H H'):Fw R as as H H':=Fw.ofD k fun b hb=>by
 simp only [List.mem_cons,List.not_mem_nil,or_false] at hb;rcases hb with rfl | rfl | rfl
 ·exact ⟨by simp [Rn.cells],_,T.ins⟩
 ·exact ⟨by simp [Rn.cells],_,T.hp⟩
 ·exact ⟨by simp [Rn.cells],_,T.ha⟩
theorem bB.name (A:bB C H R as sl S) (n:Str) (w:Wo):bB C (upd H R.nm (.dK (k7 (dH S.nm n w)))) R as sl {S with nm:=dH S.nm n w}:=by
 obtain ⟨kvs,e,L⟩:=A.lt;obtain ⟨vs,el,_⟩:=A.wk.bl;have at':∀ {b:Addr} {o:HO},H b=some o->(∀ xs,o≠.dK xs)->upd H R.nm (.dK (k7 (dH S.nm n w))) b=some o:=fun {b o} h d=>jL A.nm h (d _);have kt:aP H _:=fun b xs h=>at' h (by intro _ z;cases z);exact {A with
  ins:=at' A.ins (by intro _ z;cases z)
  slp:=A.slp.kt kt
  wk:=A.wk.keep (fun o h=>by rw [A.wk.ins] at h;cases h;exact at' A.wk.ins (by intro _ z;cases z)) (fun o h=>by rw [el] at h;cases h;exact at' el (by intro _ z;cases z)) (fun o h=>by rw [A.wk.nu] at h;cases h;exact at' A.wk.nu (by intro _ z;cases z)) kt
  tk:=A.tk.keep (fun o h=>by rw [A.tk.ins] at h;cases h;exact at' A.tk.ins (by intro _ z;cases z)) (fun o h=>by rw [aI A.n1.symm];exact h) (fun o h=>by rw [aI A.n2.symm];exact h)
  nm:=aA
  lt:=⟨kvs,by rw [aI A.n3.symm];exact e,L.keep fun a ha o h=>by obtain ⟨xs,ex⟩:=L.ex a ha;rw [ex] at h;cases h;exact at' ex (by intro _ z;cases z)⟩}
theorem bB.lset (A:bB C H R as sl S) {kvs:List (Key×V)} {k:Str} {l:Addr} (e:H R.lt=some (.dK kvs)) (hk:cI kvs (.inr k)=some (.ref l)) (r:List Wo):bB C (upd H l (.lst (r.map wv))) R as sl {S with lt:=eY S.lt k r}/\l∈as:=by
 obtain ⟨kvs',e',L⟩:=A.lt;rw [e] at e';cases e';obtain ⟨vs,el,_⟩:=A.wk.bl;obtain ⟨ws,hl,hla⟩:∃ ws:List Wo,H l=some (.lst (ws.map wv))/\l∈as:=by
  rcases L.look k with ⟨x,_⟩ | ⟨c,ws,x,_,y,z⟩
  ·rw [x] at hk;cases hk
  ·rw [x] at hk;cases hk;exact ⟨ws,z,y⟩
 have at':∀ {b:Addr} {o:HO},H b=some o->(∀ xs,o≠.lst xs)->upd H l (.lst (r.map wv)) b=some o:=fun {b o} h d=>jL hl h (d _);have kt:aP H _:=fun b xs h=>at' h (by intro _ z;cases z);have nb:=A.ab l hla;refine ⟨{A with
  ins:=at' A.ins (by intro _ z;cases z)
  slp:=A.slp.kt kt
  wk:=A.wk.keep (fun o h=>by rw [A.wk.ins] at h;cases h;exact at' A.wk.ins (by intro _ z;cases z)) (fun o h=>by rw [aI nb.1.symm];exact h) (fun o h=>by rw [aI nb.2.symm];exact h) kt
  tk:=A.tk.keep (fun o h=>by rw [A.tk.ins] at h;cases h;exact at' A.tk.ins (by intro _ z;cases z)) (fun o h=>by rw [A.tk.hp] at h;cases h;exact at' A.tk.hp (by intro _ z;cases z)) (fun o h=>by rw [A.tk.ha] at h;cases h;exact at' A.tk.ha (by intro _ z;cases z))
  nm:=at' A.nm (by intro _ z;cases z)
  lt:=⟨kvs,at' e (by intro _ z;cases z),L.set r hk A.nas⟩},hla⟩
theorem bB.lnew (A:bB C H R as sl S) {kvs:List (Key×V)} {k:Str} {l:Addr} {ws:List Wo} (e:H R.lt=some (.dK kvs)) (hk:cI kvs (.inr k)=none) (hl:H l=some (.lst (ws.map wv))) (n1:l∉R.cells) (n2:l∉as):bB C (upd H R.lt (.dK (eI kvs (.inr k) (.ref l)))) R (as++[l]) sl {S with lt:=S.lt++[(k,ws)]}:=by
 obtain ⟨kvs',e',L⟩:=A.lt;rw [e] at e';cases e';obtain ⟨vs,el,_⟩:=A.wk.bl;have at':∀ {b:Addr} {o:HO},H b=some o->(∀ xs,o≠.dK xs)->upd H R.lt (.dK (eI kvs (.inr k) (.ref l))) b=some o:=fun {b o} h d=>jL e h (d _);have kt:aP H _:=fun b xs h=>at' h (by intro _ z;cases z);exact {A with
  ins:=at' A.ins (by intro _ z;cases z)
  slp:=A.slp.kt kt
  wk:=A.wk.keep (fun o h=>by rw [A.wk.ins] at h;cases h;exact at' A.wk.ins (by intro _ z;cases z)) (fun o h=>by rw [el] at h;cases h;exact at' el (by intro _ z;cases z)) (fun o h=>by rw [A.wk.nu] at h;cases h;exact at' A.wk.nu (by intro _ z;cases z)) kt
  tk:=A.tk.keep (fun o h=>by rw [A.tk.ins] at h;cases h;exact at' A.tk.ins (by intro _ z;cases z)) (fun o h=>by rw [aI A.n4.symm];exact h) (fun o h=>by rw [aI A.n5.symm];exact h)
  nm:=by rw [aI A.n3];exact A.nm
  lt:=⟨_,aA,by
   rw [yZ _ hk];exact (L.keep fun a ha o h=>by obtain ⟨xs,ex⟩:=L.ex a ha;rw [ex] at h;cases h;exact jL e ex (by intro z;cases z)).snoc (jL e hl (by intro z;cases z))⟩
  nas:=List.nodup_append.mpr ⟨A.nas,by simp,fun a ha b hb=>by rw [show b=l by simpa using hb];exact fun z=>n2 (by rw [<- z];exact ha)⟩
  ab:=fun a ha=>by
   rcases List.mem_append.mp ha with ha | ha
   ·exact A.ab a ha
   ·rw [show a=l by simpa using ha];exact ⟨fun z=>n1 (by simp [Rn.cells,z]),fun z=>n1 (by simp [Rn.cells,z])⟩}
theorem bB.other (A:bB C H R as sl S) {c:Addr} {us vs:List V} (hc:H c=some (.lst us)) (n1:c∉R.cells) (n2:c∉as):bB C (upd H c (.lst vs)) R as sl S :=
 A.keep (fun b o h m=>by
  rw [aI (fun z=>by
   rcases m with m | m | m
   ·rw [z] at m;rw [m,A.wk.ins] at hc;cases hc
   ·exact n1 (by rw [<- z];exact m)
   ·exact n2 (by rw [<- z];exact m))]
  exact h) (aP.setO hc (by intro _ z;cases z))
end
theorem put2 {H:Hp} {x p:Addr} {o o' u:HO} (hx:H x=some u) (hp:H p=none):upd (upd H p o) x o' x=some o'/\upd (upd H p o) x o' p=some o/\Kp [x] H (upd (upd H p o) x o')/\x≠p:=by
 have n:x≠p:=aL hx hp;exact ⟨aA,by rw [aI n.symm];exact aA,(Kp.new hp).trans (Kp.set (by simp)),n⟩
theorem cZ {H:Hp} {a p:Addr} {o:HO} (h:upd H a o p=none):H p=none:=by
 by_cases e:p=a
 ·subst e;rw [aA] at h;cases h
 ·rwa [aI e] at h
noncomputable def Told (C:Cl) (R:Rn) (as as':List Addr) (H:Hp) (Q:VK) (z:Pu×Cmds):Prop:=∀(sl:V) (c:Addr) (us:List V) (H':Hp),bB C H' R as' sl z.1->H c=none->H' c=some (.lst us)->eT H' us z.2->Fw R as as' H H'->Q (.ref c) H'
noncomputable def am4 (C:Cl):Sp:=fun vs H Q _=>∃(R:Rn) (as:List Addr) (sl:V) (S:Pu) (v:V) (s:Say),vs=[.ref R.x,v]/\bB C H R as sl S/\S.pl.Ok/\c9 H v s/\s.sok/\Q (wv (S.worth s)) H
noncomputable def awO (C:Cl):Sp:=fun vs H Q _=>∃(R:Rn) (as:List Addr) (sl:V) (S:Pu) (n:Str),vs=[.ref R.x,.str n]/\bB C H R as sl S/\S.made < 1000000/\S.pend.length < 1000000/\S.nm.length<=1000000/\∀ H',bB C H' R as sl (S.newT n)->Fw R as as H H'->Q (.int S.made) H'
noncomputable def axV (C:Cl):Sp:=fun vs H Q _=>∃(R:Rn) (as:List Addr) (sl:V) (S:Pu) (w:Wo),vs=[.ref R.x,wv w]/\bB C H R as sl S/\Told C R as as H Q (S.ends w)
noncomputable def ax3 (C:Cl):Sp:=fun vs H Q _=>∃(R:Rn) (as:List Addr) (sl:V) (S:Pu),vs=[.ref R.x]/\bB C H R as sl S/\Told C R as as H Q S.wears
noncomputable def dL (C:Cl) (wt:Bool) (g:Stm->Prop):Sp:=fun vs H Q _=>∃(R:Rn) (as:List Addr) (sl:V) (S:Pu) (a:V) (m:Stm) (N:Nat),vs=[.ref R.x,a]/\bB C H R as sl S/\S.sl=.non/\dJ H a m/\g m/\Fit wt S N/\m.gd wt/\N<=900000/\Told C R as as H Q (deed S m)
noncomputable def atQ (C:Cl) (wt:Bool):Sp:=fun vs H Q _=>∃(R:Rn) (as:List Addr) (sl:V) (S:Pu) (a:V) (m:Stm) (N:Nat),vs=[.ref R.x,a]/\bB C H R as sl S/\dJ H a m/\m.isB=true/\Fit wt S N/\m.gd wt/\stand S.stk=some m/\∀ H',bB C H' R as sl (xX S m)->Fw R as as H H'->Q .non H'
noncomputable def ayF (C:Cl) (wt:Bool):Sp:=fun vs H Q _=>∃(R:Rn) (as:List Addr) (sl:V) (S:Pu) (a:V) (m:Stm) (N:Nat),vs=[.ref R.x,a]/\bB C H R as sl S/\S.sl=.non/\dJ H a m/\Fit wt S N/\m.gd wt/\stand S.stk=some m/\N<=900000/\Told C R as as H Q (one S m)
noncomputable def az1 (C:Cl) (wt:Bool):Sp:=fun vs H Q _=>∃(R:Rn) (as:List Addr) (sl:V) (S:Pu) (N:Nat),vs=[.ref R.x]/\bB C H R as sl S/\Fit wt {S with sl:=.non} N/\N<=800000/\Told C R as as H Q (gY 300 {S with sl:=.non})
noncomputable def atK (C:Cl):Sp:=fun vs H Q _=>∃(R:Rn) (as:List Addr) (sl:V) (S:Pu),vs=[.ref R.x]/\bB C H R as sl S/\S.pend.length<=1000000/\∀ l,H l=none->Q (.ref l) (upd H l (.lst (S.pend.map V.int)))
theorem apA {wt:Bool} {S:Pu} {N:Nat} (F:Fit wt S N) {s:Say} (h:s.sok):cV (S.worth s):=auH F.pl h.1
theorem lkP {y:Str} {a:Sp} {r:List (Str×Sp)}:List.lookup y ((y,a)::r)=some a:=by simp only [List.lookup,beq_self_eq_true]
theorem mL {a b:String} {s:Sp} {r:List (Str×Sp)} (h:a≠b):List.lookup (Str.ofString a) ((Str.ofString b,s)::r)=List.lookup (Str.ofString a) r:=by
 have:((Str.ofString a:Str) == Str.ofString b)=false:=beq_eq_false_iff_ne.mpr fun z=>h (by rwa [e9] at z);simp only [List.lookup,this]
theorem lkC {y k:Str} {a sp:Sp} {r:List (Str×Sp)} (h:List.lookup y ((k,a)::r)=some sp):(y=k/\sp=a)\/List.lookup y r=some sp:=by
 simp only [List.lookup] at h;split at h
 ·next z=>cases h;exact .inl ⟨eq_of_beq z,rfl⟩
 ·exact .inr h
theorem fI {st:Stk} {m:Stm} (h:stand st=some m):∃ k b n r,st=(k,b,n)::r/\b[n]?=some m:=by
 match st,h with
 | (k,b,n)::r,h=>exact ⟨k,b,n,r,rfl,h⟩
theorem yU (S:Pu) (m:Stm):(deed S m).1.stk=S.stk:=by
 cases m<;>simp only [deed,Pu.newT,Pu.ends]
 ·split
  ·split<;>rfl
  ·rfl
 ·split<;>rfl
 ·split<;>rfl
theorem ae9 {wt:Bool}:∀ st,aa0 wt st->aa0 wt (cQ st)
 | [],h=>h.ok.elim
 | [x],h=>by simp only [cQ];exact h
 | (k,b,n)::(k2,b2,n2)::r,h=>by
  rw [cQ];split
  ·have o:=h.ok.2 (k2,b2,n2) (by simp);exact ae9 ((k2,b2,vJ b2 n2)::r) ⟨⟨afJ o,fun x hx=>h.ok.2 x (List.mem_cons_of_mem _ hx)⟩,fun x hx=>by
    rcases List.mem_cons.mp hx with rfl | hx
    ·exact h.gd (k2,b2,n2) (by simp)
    ·exact h.gd x (by simp [hx]),⟨h.dp.2.1,h.dp.2.2⟩⟩
  ·exact h
termination_by st=>st.length
theorem Fit.come {wt:Bool} {S:Pu} {N:Nat} (F:Fit wt S N) (h:S.sl=.non):Fit wt S.come N :=
 {F with sk:=ae9 _ F.sk,sl:=⟨fun k e=>(by rw [show S.come.sl=S.sl from rfl,h] at e;cases e),fun k e=>(by rw [show S.come.sl=S.sl from rfl,h] at e;cases e)⟩}
theorem Fit.more {wt:Bool} {S:Pu} {N M:Nat} (F:Fit wt S N) (h:N<=M):Fit wt S M :=
 {F with nm:=Nat.le_trans F.nm h,md:=Nat.le_trans F.md h,pd:=Nat.le_trans F.pd h,an:=Nat.le_trans F.an h,lt:=Nat.le_trans F.lt h,lw:=fun k ws e=>⟨Nat.le_trans (F.lw k ws e).1 h,(F.lw k ws e).2⟩}
theorem aa0.pass {wt:Bool} {st:Stk} {m:Stm} (G:aa0 wt st) (h:stand st=some m):aa0 wt (fV st):=by
 obtain ⟨k,b,n,r,rfl,hm⟩:=fI h;have hn:=(List.getElem?_eq_some_iff.mp hm).1;exact ⟨⟨hn,G.ok.2⟩,fun x hx=>by
  rcases List.mem_cons.mp hx with rfl | hx
  ·exact G.gd (k,b,n) (by simp)
  ·exact G.gd x (by simp [hx]),G.dp⟩
theorem aa0.enter {wt:Bool} {st:Stk} {m:Stm} {c:Nat} {bb:List Stm} (G:aa0 wt st) (h:stand st=some m) (hg:wH wt bb) (hd:dpL bb+1<=m.dp):aa0 wt ((c,bb,0)::st):=by
 obtain ⟨k,b,n,r,rfl,hm⟩:=fI h;have hn:=(List.getElem?_eq_some_iff.mp hm).1;have h2:=aoL hm;have h3:=G.dp.1;refine ⟨⟨Nat.zero_le _,fun x hx=>?_⟩,fun x hx=>?_,?_,G.dp⟩
 ·rcases List.mem_cons.mp hx with rfl | hx
  ·exact hn
  ·exact G.ok.2 x hx
 ·rcases List.mem_cons.mp hx with rfl | hx
  ·exact hg
  ·exact G.gd x hx
 ·simp only [List.length_cons];omega
theorem Fit.stm {wt:Bool} {S:Pu} {N:Nat} (F:Fit wt S N) {m:Stm} (h:stand S.stk=some m):m.gd wt:=by
 obtain ⟨k,b,n,r,e,hm⟩:=fI h;exact an1 (F.sk.gd (k,b,n) (by rw [e];simp)) hm
theorem ap2 {S:Pu} (h:S.pl.Ok) (n:Str) {w:Wo} (hw:cV w):({S with nm:=dH S.nm n w}:Pu).pl.Ok :=
 ⟨fun x=>by show cV (jO (dH S.nm n w) x);rw [amN];split;exact hw;exact h.nm x,h.ar,h.an⟩
theorem sG:∀(l:List (Str×List Wo)) (k:Str) (r:List Wo) (j:Str) (ws:List Wo),cL (eY l k r) j=some ws->(j=k/\ws=r)\/cL l j=some ws
 | [],_,_,_,_,h=>by simp [eY,cL] at h
 | p::l,k,r,j,ws,h=>by
  by_cases e:p.1=k
  ·rw [eY,if_pos e,cL] at h;by_cases e2:p.1=j
   ·rw [if_pos e2] at h;cases h;exact .inl ⟨by rw [<- e2,e],rfl⟩
   ·rw [if_neg e2] at h;exact .inr (by rw [cL,if_neg e2];exact h)
  ·rw [eY,if_neg e,cL] at h;by_cases e2:p.1=j
   ·rw [if_pos e2] at h;exact .inr (by rw [cL,if_pos e2];exact h)
   ·rw [if_neg e2] at h;rcases sG l k r j ws h with x | x
    ·exact .inl x
    ·exact .inr (by rw [cL,if_neg e2];exact x)
theorem aaT:∀(l:List (Str×List Wo)) (k:Str) (r:List Wo),(eY l k r).length=l.length
 | [],_,_=>rfl
 | p::l,k,r=>by
  rw [eY];split
  ·rfl
  ·simp [aaT l k r]
theorem ac5 {ans:List (Int×Wo)} {ws:List Wo} (h:∀ w∈ws,cV w):cV (cB ans ws):=by
 unfold cB;cases e:ans.find? fun p=>decide (some p.1∈ws) with
 | none=>exact gZ
 | some p =>
  have:=List.find?_some e;exact h _ (by simpa using this)
theorem ab5 {α:Type} {p:α->Bool} {l:List α}:(l.filter p).length<=l.length:=List.length_filter_le p l
theorem Fit.deed {wt:Bool} {S:Pu} {N:Nat} (F:Fit wt S N) {m:Stm} (h:stand S.stk=some m) (hs:S.sl=.non) (hN:N<=900000):Fit wt (deed S m).1 (N+1):=by
 have g:=F.stm h;have F1:=F.more (Nat.le_succ N);have hsl:(∀ k,S.sl=.hear k->∃ x,stand S.stk=some (.hear x k))/\∀ ts,S.sl=.wait ts->∃ x ss,stand S.stk=some (.wait x ss):=F.sl;have put:∀(n:Str) {w:Wo},cV w->Fit wt {S with nm:=dH S.nm n w} (N+1):=fun n w hw =>
  {F1 with nm:=by (have:=af9 S.nm n w;have:=F.nm;show (dH S.nm n w).length<=N+1;omega),pl:=ap2 F.pl n hw}
 have newT:∀ n,Fit wt (S.newT n) (N+1):=fun n =>
  have hw:cV (some (S.made:Int)):=fE (by omega) (by have:=F.md;omega)
  {F1 with
   nm:=(put n hw).nm
   pl:=(put n hw).pl
   md:=(by have:=F.md;show S.made+1<=N+1;omega)
   pd:=(by have:=F.pd;show (S.pend++[(S.made:Int)]).length<=N+1;rw [List.length_append];simp;exact this)}
 cases m with
 | set x s=>exact put x (apA F g)
 | order x y s=>exact newT x
 | child x y s=>exact newT x
 | timer x s=>exact newT x
 | send s k r=>exact F1
 | drop s =>
  simp only [Own.deed];split
  ·split
   ·exact {F1 with pd:=Nat.le_trans ab5 (Nat.le_succ_of_le F.pd)}
   ·exact F1
  ·exact F1
 | wait x ss =>
  simp only [Own.deed];split
  ·exact {F1 with sl:=⟨fun k e=>(by cases e),fun ts e=>⟨x,ss,h⟩⟩}
  ·exact put x (ac5 fun w hw=>by
    obtain ⟨s,hs',rfl⟩:=List.mem_map.mp hw;exact apA F (g.2.2 s hs'))
 | hear x k =>
  simp only [Own.deed];split
  ·next w r e =>
   obtain ⟨ws,el,rfl⟩:∃ ws,cL S.lt k=some ws/\ws=w::r:=by
    cases el:cL S.lt k with
    | none=>rw [el] at e;cases e
    | some ws=>rw [el] at e;exact ⟨ws,rfl,e⟩
   have hl:=F.lw k _ el;exact {put x (hl.2 w (by simp)) with
    lt:=(by have:=F.lt;show (eY S.lt k r).length<=N+1;rw [aaT];omega)
    lw:=fun j vs hj=>by
     rcases sG S.lt k r j vs hj with ⟨_,rfl⟩ | z
     ·exact ⟨by have:=hl.1;simp only [List.length_cons] at this;omega,fun w hw=>hl.2 w (List.mem_cons_of_mem _ hw)⟩
     ·exact F1.lw j vs z}
  ·exact {F1 with sl:=⟨fun k' e=>(by cases e;exact ⟨x,h⟩),fun ts e=>(by cases e)⟩}
 | fin s=>exact {F1 with pd:=Nat.zero_le _,sl:=⟨fun k e=>(by cases e),fun k e=>(by cases e)⟩}
 | whl s b=>exact F1
 | iff s b o=>exact F1
theorem wN {s:Slp} (h:s.isN=true):s=.non:=by cases s<;>first | rfl | cases h
theorem Fit.one {wt:Bool} {S:Pu} {N:Nat} (F:Fit wt S N) {m:Stm} (h:stand S.stk=some m) (hs:S.sl=.non) (hN:N<=900000):Fit wt (one S m).1 (N+1):=by
 have g:=F.stm h;have F1:=F.more (Nat.le_succ N);have nosl:∀ {st:Stk},Fit wt {S with stk:=st} (N+1)->Fit wt {S with stk:=st} (N+1):=fun z=>z;have pass:∀ {S':Pu},Fit wt S' (N+1)->S'.sl=.non->S'.stk=S.stk->Fit wt S'.pass (N+1):=fun {S'} z a b =>
  {z with sk:=(by have:=z.sk;rw [b] at this;show aa0 wt (fV S'.stk);rw [b];exact this.pass h),sl:=⟨fun k e=>(by rw [show S'.pass.sl=S'.sl from rfl,a] at e;cases e),fun k e=>(by rw [show S'.pass.sl=S'.sl from rfl,a] at e;cases e)⟩}
 have enter:∀(c:Nat) (bb:List Stm),wH wt bb->dpL bb+1<=m.dp->Fit wt (S.enter c bb) (N+1):=fun c bb hg hd =>
  {F1 with sk:=F.sk.enter h hg hd,sl:=⟨fun k e=>(by rw [show (S.enter c bb).sl=S.sl from rfl,hs] at e;cases e),fun k e=>(by rw [show (S.enter c bb).sl=S.sl from rfl,hs] at e;cases e)⟩}
 by_cases hB:m.isB=true
 ·simp only [Own.one,if_pos hB];cases m with
  | whl s b =>
   simp only [xX];split
   ·exact pass F1 hs rfl
   ·exact enter 0 b g.2 (by simp [Stm.dp])
  | iff s b o =>
   simp only [xX];split
   ·exact enter 1 o g.2.2 (by simp [Stm.dp];omega)
   ·exact enter 0 b g.2.1 (by simp [Stm.dp];omega)
  | _=>cases hB
 ·simp only [Own.one,if_neg hB];have D:=F.deed h hs hN;split
  ·next z=>exact pass D (wN z) (yU S m)
  ·exact D
theorem axT {S:Pu} {m:Stm} (h:m.isB=false):one S m=(if (deed S m).1.sl.isN=true then (deed S m).1.pass else (deed S m).1,(deed S m).2):=by simp [one,h]
theorem auP {S:Pu} {m:Stm} (h:m.isB=true):one S m=(xX S m,[]):=by simp [one,h]
theorem lH {s0 s1 s2 s3 s4 s5 s6 s7 s8:Sp}:List.lookup (Str.ofString "set") [((Str.ofString "set":Str),s0),((Str.ofString "order":Str),s1),((Str.ofString "timer":Str),s2),((Str.ofString "child":Str),s3),((Str.ofString "send":Str),s4),((Str.ofString "drop":Str),s5),((Str.ofString "wait":Str),s6),((Str.ofString "hear":Str),s7),((Str.ofString "end":Str),s8)]=some s0:=by rw [lkP]
theorem gE {s0 s1 s2 s3 s4 s5 s6 s7 s8:Sp}:List.lookup (Str.ofString "order") [((Str.ofString "set":Str),s0),((Str.ofString "order":Str),s1),((Str.ofString "timer":Str),s2),((Str.ofString "child":Str),s3),((Str.ofString "send":Str),s4),((Str.ofString "drop":Str),s5),((Str.ofString "wait":Str),s6),((Str.ofString "hear":Str),s7),((Str.ofString "end":Str),s8)]=some s1:=by rw [mL (by decide),lkP]
theorem gD {s0 s1 s2 s3 s4 s5 s6 s7 s8:Sp}:List.lookup (Str.ofString "timer") [((Str.ofString "set":Str),s0),((Str.ofString "order":Str),s1),((Str.ofString "timer":Str),s2),((Str.ofString "child":Str),s3),((Str.ofString "send":Str),s4),((Str.ofString "drop":Str),s5),((Str.ofString "wait":Str),s6),((Str.ofString "hear":Str),s7),((Str.ofString "end":Str),s8)]=some s2:=by rw [mL (by decide),mL (by decide),lkP]
theorem gB {s0 s1 s2 s3 s4 s5 s6 s7 s8:Sp}:List.lookup (Str.ofString "child") [((Str.ofString "set":Str),s0),((Str.ofString "order":Str),s1),((Str.ofString "timer":Str),s2),((Str.ofString "child":Str),s3),((Str.ofString "send":Str),s4),((Str.ofString "drop":Str),s5),((Str.ofString "wait":Str),s6),((Str.ofString "hear":Str),s7),((Str.ofString "end":Str),s8)]=some s3:=by rw [mL (by decide),mL (by decide),mL (by decide),lkP]
theorem iU {s0 s1 s2 s3 s4 s5 s6 s7 s8:Sp}:List.lookup (Str.ofString "send") [((Str.ofString "set":Str),s0),((Str.ofString "order":Str),s1),((Str.ofString "timer":Str),s2),((Str.ofString "child":Str),s3),((Str.ofString "send":Str),s4),((Str.ofString "drop":Str),s5),((Str.ofString "wait":Str),s6),((Str.ofString "hear":Str),s7),((Str.ofString "end":Str),s8)]=some s4:=by rw [mL (by decide),mL (by decide),mL (by decide),mL (by decide),lkP]
theorem iQ {s0 s1 s2 s3 s4 s5 s6 s7 s8:Sp}:List.lookup (Str.ofString "drop") [((Str.ofString "set":Str),s0),((Str.ofString "order":Str),s1),((Str.ofString "timer":Str),s2),((Str.ofString "child":Str),s3),((Str.ofString "send":Str),s4),((Str.ofString "drop":Str),s5),((Str.ofString "wait":Str),s6),((Str.ofString "hear":Str),s7),((Str.ofString "end":Str),s8)]=some s5:=by rw [mL (by decide),mL (by decide),mL (by decide),mL (by decide),mL (by decide),lkP]
theorem iS {s0 s1 s2 s3 s4 s5 s6 s7 s8:Sp}:List.lookup (Str.ofString "wait") [((Str.ofString "set":Str),s0),((Str.ofString "order":Str),s1),((Str.ofString "timer":Str),s2),((Str.ofString "child":Str),s3),((Str.ofString "send":Str),s4),((Str.ofString "drop":Str),s5),((Str.ofString "wait":Str),s6),((Str.ofString "hear":Str),s7),((Str.ofString "end":Str),s8)]=some s6:=by rw [mL (by decide),mL (by decide),mL (by decide),mL (by decide),mL (by decide),mL (by decide),lkP]
theorem iO {s0 s1 s2 s3 s4 s5 s6 s7 s8:Sp}:List.lookup (Str.ofString "hear") [((Str.ofString "set":Str),s0),((Str.ofString "order":Str),s1),((Str.ofString "timer":Str),s2),((Str.ofString "child":Str),s3),((Str.ofString "send":Str),s4),((Str.ofString "drop":Str),s5),((Str.ofString "wait":Str),s6),((Str.ofString "hear":Str),s7),((Str.ofString "end":Str),s8)]=some s7:=by rw [mL (by decide),mL (by decide),mL (by decide),mL (by decide),mL (by decide),mL (by decide),mL (by decide),lkP]
theorem l8 {s0 s1 s2 s3 s4 s5 s6 s7 s8:Sp}:List.lookup (Str.ofString "end") [((Str.ofString "set":Str),s0),((Str.ofString "order":Str),s1),((Str.ofString "timer":Str),s2),((Str.ofString "child":Str),s3),((Str.ofString "send":Str),s4),((Str.ofString "drop":Str),s5),((Str.ofString "wait":Str),s6),((Str.ofString "hear":Str),s7),((Str.ofString "end":Str),s8)]=some s8:=by rw [mL (by decide),mL (by decide),mL (by decide),mL (by decide),mL (by decide),mL (by decide),mL (by decide),mL (by decide),lkP]
theorem deeds9 {Z:Str->Sp->Prop} {y:Str} {sp s0 s1 s2 s3 s4 s5 s6 s7 s8:Sp} (h:List.lookup y [((Str.ofString "set":Str),s0),((Str.ofString "order":Str),s1),((Str.ofString "timer":Str),s2),((Str.ofString "child":Str),s3),((Str.ofString "send":Str),s4),((Str.ofString "drop":Str),s5),((Str.ofString "wait":Str),s6),((Str.ofString "hear":Str),s7),((Str.ofString "end":Str),s8)]=some sp) (z0:Z "set" s0) (z1:Z "order" s1) (z2:Z "timer" s2) (z3:Z "child" s3) (z4:Z "send" s4) (z5:Z "drop" s5) (z6:Z "wait" s6) (z7:Z "hear" s7) (z8:Z "end" s8):Z y sp:=by
 rcases lkC h with ⟨rfl,rfl⟩ | h
 ·exact z0
 rcases lkC h with ⟨rfl,rfl⟩ | h
 ·exact z1
 rcases lkC h with ⟨rfl,rfl⟩ | h
 ·exact z2
 rcases lkC h with ⟨rfl,rfl⟩ | h
 ·exact z3
 rcases lkC h with ⟨rfl,rfl⟩ | h
 ·exact z4
 rcases lkC h with ⟨rfl,rfl⟩ | h
 ·exact z5
 rcases lkC h with ⟨rfl,rfl⟩ | h
 ·exact z6
 rcases lkC h with ⟨rfl,rfl⟩ | h
 ·exact z7
 rcases lkC h with ⟨rfl,rfl⟩ | h
 ·exact z8
 cases h
theorem dA {S:Pu} (h:stand S.come.stk=none) (n:Nat):gY n S=S.come.ends none:=by
 cases n<;>simp only [gY,h]
theorem gP {S:Pu} {m:Stm} (h:stand S.come.stk=some m):gY 0 S=S.come.wears:=by simp only [gY,h]
theorem lR {S:Pu} {m:Stm} (h:stand S.come.stk=some m) (z:(one S.come m).1.sl.isN=true) (n:Nat):gY (n+1) S=((gY n (one S.come m).1).1,(one S.come m).2++(gY n (one S.come m).1).2):=by simp only [gY,h,z,if_true]
theorem gM {S:Pu} {m:Stm} (h:stand S.come.stk=some m) (z:(one S.come m).1.sl.isN=false) (n:Nat):gY (n+1) S=one S.come m:=by simp only [gY,h,z,if_false,Bool.false_eq_true]
theorem agK (S:Pu) (m:Stm):(deed S m).2.length<=1:=by
 cases m<;>simp only [deed,Pu.ends,List.length_cons,List.length_nil,Nat.zero_le,Nat.le_refl,Nat.zero_add]
 ·split
  ·split<;>simp
  ·simp
 ·split<;>simp
 ·split<;>simp
theorem arJ (S:Pu) (m:Stm):(one S m).2.length<=1:=by
 unfold one;split
 ·simp
 ·exact agK S m
inductive Hap where
 | beg (m:Int) (w:Wo) | don (m t:Int) (w:Wo) | ltr (m:Int) (k:Str) (w:Wo)
noncomputable def Hap.ini:Hap->List V
 | .beg m _=>[.str "begin",.int m]
 | .don m t _=>[.str "done",.int m,.int t]
 | .ltr m k _=>[.str "letter",.int m,.str k]
noncomputable def Hap.w:Hap->Wo
 | .beg _ w | .don _ _ w | .ltr _ _ w=>w
noncomputable def Hap.vs (h:Hap):List V:=h.ini++[wv h.w]
noncomputable def Hap.m:Hap->Int
 | .beg m _ | .don m _ _ | .ltr m _ _=>m
noncomputable def u6 (H:Hp) (v:V) (h:Hap):Prop:=∃ a,v=.ref a/\H a=some (.tup h.vs)
noncomputable def Pu.over (S:Pu) (h:Hap):Bool:=match S.sl with
 | .new=>(match h with
  | .beg _ _=>false
  | _=>true)
 | .ended _=>true
 | .worn=>true
 | _=>(match h with
  | .beg _ _=>true
  | .don _ i _=>!decide (i∈S.pend)
  | .ltr _ _ _=>false)
noncomputable def gI (l:List (Str×List Wo)) (k:Str) (w:Wo):List (Str×List Wo):=match cL l k with
 | some ws=>eY l k (ws++[w])
 | none=>l++[(k,[w])]
noncomputable def Pu.at' (S:Pu) (m:Int):Pu:={S with nw:=later S.nw m}
noncomputable def Pu.done (S:Pu) (i:Int) (w:Wo):Pu:={S with pend:=S.pend.filter fun j=>decide (j≠i),ans:=S.ans++[(i,w)]}
noncomputable def Pu.takeD (S:Pu) (i:Int) (w:Wo):Pu×Cmds:=match S.sl with
 | .wait ts=>if i∈ts then (S.done i w).wake (some i) else (S.done i w,[])
 | _=>(S.done i w,[])
noncomputable def Pu.takeL (S:Pu) (k:Str) (w:Wo):Pu×Cmds:=match S.sl with
 | .hear k'=>if k'=k then S.wake w else ({S with lt:=gI S.lt k w},[])
 | _=>({S with lt:=gI S.lt k w},[])
noncomputable def Pu.take (S:Pu) (h:Hap):Pu×Cmds:=if S.over h=true then (S,[]) else match h with
 | .beg m w=>gY 300 {S with nw:=later S.nw m,ar:=w,sl:=.non}
 | .don m i w=>(S.at' m).takeD i w
 | .ltr m k w=>(S.at' m).takeL k w
noncomputable def pA (b:List Stm):Pu:=⟨[(0,b,0)],.new,none,0,[],0,[],[],[]⟩
noncomputable def au0 (C:Cl):Sp:=fun vs H Q _=>∃(R:Rn) (as:List Addr) (sl:V) (S:Pu) (v:V) (h:Hap),vs=[.ref R.x,v]/\bB C H R as sl S/\S.sl.isN=false/\u6 H v h/\∀ H',Kp [] H H'->Q (.bl (S.over h)) H'
noncomputable def atL (C:Cl) (wt:Bool):Sp:=fun vs H Q _=>∃(R:Rn) (as:List Addr) (sl:V) (S:Pu) (w:Wo) (N:Nat),vs=[.ref R.x,wv w]/\bB C H R as sl S/\Fit wt S N/\N<=700000/\cV w/\((∃ k,S.sl=.hear k)\/∃ ts,S.sl=.wait ts)/\Told C R as as H Q (S.wake w)
noncomputable def asA (C:Cl) (wt:Bool):Sp:=fun vs H Q _=>∃(R:Rn) (as:List Addr) (sl:V) (S:Pu) (i:Int) (w:Wo) (N:Nat),vs=[.ref R.x,.int i,wv w]/\bB C H R as sl S/\Fit wt S N/\N<=600000/\cV w/\i∈S.pend/\S.sl.isN=false/\Told C R as as H Q (S.takeD i w)
noncomputable def auB (C:Cl) (R:Rn) (as as':List Addr) (H:Hp) (Q:VK) (z:Pu×Cmds):Prop:=∀(sl:V) (c:Addr) (us:List V) (H':Hp),bB C H' R as' sl z.1->H c=none->c∉as'->H' c=some (.lst us)->eT H' us z.2->Fw R as as' H H'->Q (.ref c) H'
noncomputable def avM (C:Cl) (wt:Bool):Sp:=fun vs H Q _=>∃(R:Rn) (as:List Addr) (sl:V) (S:Pu) (k:Str) (w:Wo) (N:Nat),vs=[.ref R.x,.str k,wv w]/\bB C H R as sl S/\Fit wt S N/\N<=600000/\cV w/\((∃ k,S.sl=.hear k)\/∃ ts,S.sl=.wait ts)/\∀ as',auB C R as as' H Q (S.takeL k w)
noncomputable def arX (C:Cl) (wt:Bool):Sp:=fun vs H Q _=>∃(R:Rn) (as:List Addr) (sl:V) (S:Pu) (v:V) (h:Hap) (N:Nat),vs=[.ref R.x,v]/\bB C H R as sl S/\Fit wt S N/\N<=500000/\S.sl.isN=false/\u6 H v h/\((0<=h.m/\h.m<=1000000000000)/\cV h.w)/\∀ as',auB C R as as' H Q (S.take h)
noncomputable def ajM (C:Cl):Sp:=fun vs H Q _=>∃(x dx pg:Addr) (us:List V) (b:List Stm),vs=[.ref x,.ref pg]/\H x=some (.ins C.r dx [])/\H pg=some (.tup us)/\cM H us b /\
 ∀(R:Rn) (sl:V) (H':Hp),R.x=x->bB C H' R [] sl (pA b)->Kp [x] H H'->(∀ a∈R.cells,a=x\/H a=none)->Q .non H'
theorem ar3 (i:Int) (ts:List Int):u0 (.int i) (ts.map V.int)=decide (i∈ts):=by
 rw [Bool.eq_iff_iff];simp [u0,qU]
theorem alW (ts:List Int):(ts.map V.int).all dR=true:=by simp [dR]
theorem arM {K:PySem.W.Frag} {H:Hp} {a b:Addr} {z x y:Str} (n:Nat) (ha:H a=some (.tup [.str z,.str x])) (hb:H b=some (.tup [.str z,.str y])):vO K H (n+1) a b (decide (x=y)):=by
 have:=vO.tup (K:=K) (H:=H) (n:=n) (e:=fun j=>if j=0 then true else decide (x=y)) (dF.of ha) (dF.of hb) fun j u v e1 e2=>by
  rcases j with _ | _ | j
  ·simp only [List.getElem?_cons_zero,Option.some.injEq] at e1 e2;subst e1 e2;have:=EqA.flat (K:=K) (H:=H) (n:=n) (x:=.str z) (y:=.str z) rfl rfl
   rwa [show qU (.str z) (.str z)=true by simp [qU]] at this
  ·simp only [List.getElem?_cons_succ,List.getElem?_cons_zero,Option.some.injEq] at e1 e2;subst e1 e2;have:=EqA.flat (K:=K) (H:=H) (n:=n) (x:=.str x) (y:=.str y) rfl rfl
   rwa [aj5] at this
  ·simp at e1
 rw [show ((List.range (min [V.str z,V.str x].length [V.str z,V.str y].length)).all (fun j=>if j=0 then true else decide (x=y)) && [V.str z,V.str x].length == [V.str z,V.str y].length)=decide (x=y) by simp [List.range_succ]] at this;exact this
theorem Fit.at' {wt:Bool} {S:Pu} {N:Nat} (F:Fit wt S N) {m:Int} (h:0<=m/\m<=1000000000000):Fit wt (S.at' m) N :=
 {F with pl:=⟨F.pl.nm,F.pl.ar,F.pl.an⟩,nw:=(by have:=F.nw;show 0<=later S.nw m/\later S.nw m<=1000000000000;unfold later;split<;>omega)}
theorem aaD {i:Int} {w:Wo}:∀(l:List (Int×Wo)) (x:Wo),fA (l++[(i,w)]) x=fA l x\/fA (l++[(i,w)]) x=w
 | _,none=>.inl (by simp [fA])
 | [],some j=>by
  by_cases h:i=j
  ·exact .inr (by simp [fA,h])
  ·exact .inl (by simp [fA,h])
 | p::r,some j=>by
  by_cases h:p.1=j
  ·exact .inl (by simp [fA,h])
  ·rcases aaD (i:=i) (w:=w) r (some j) with z | z
   ·exact .inl (by simp [fA,h,z])
   ·exact .inr (by simp [fA,h,z])
theorem Fit.done {wt:Bool} {S:Pu} {N:Nat} (F:Fit wt S N) {i:Int} {w:Wo} (hw:cV w):Fit wt (S.done i w) (N+1) :=
 {F.more (Nat.le_succ N) with
  pd:=Nat.le_trans ab5 (Nat.le_succ_of_le F.pd)
  an:=(by have:=F.an;show (S.ans++[(i,w)]).length<=N+1;simp;exact this)
  pl:=⟨F.pl.nm,F.pl.ar,fun x=>(by
   show cV (fA (S.ans++[(i,w)]) x);rcases aaD (i:=i) (w:=w) S.ans x with z | z
   ·rw [z];exact F.pl.an x
   ·rw [z];exact hw)⟩}
theorem aaF {k:Str} {ws:List Wo}:∀(l:List (Str×List Wo)) (j:Str) (vs:List Wo),cL (l++[(k,ws)]) j=some vs->(j=k/\vs=ws)\/cL l j=some vs
 | [],j,vs,h=>by
  rw [List.nil_append,cL] at h;by_cases e:k=j
  ·rw [if_pos e] at h;cases h;exact .inl ⟨e.symm,rfl⟩
  ·rw [if_neg e] at h;cases h
 | p::r,j,vs,h=>by
  rw [List.cons_append,cL] at h;by_cases e:p.1=j
  ·rw [if_pos e] at h;exact .inr (by rw [cL,if_pos e];exact h)
  ·rw [if_neg e] at h;rcases aaF r j vs h with z | z
   ·exact .inl z
   ·exact .inr (by rw [cL,if_neg e];exact z)
theorem Fit.gI {wt:Bool} {S:Pu} {N:Nat} (F:Fit wt S N) {k:Str} {w:Wo} (hw:cV w):Fit wt {S with lt:=gI S.lt k w} (N+1):=by
 have F1:=F.more (Nat.le_succ N);unfold Own.gI;cases e:cL S.lt k with
 | some ws =>
  have hl:=F.lw k ws e;exact {F1 with
   lt:=(by have:=F.lt;show (eY S.lt k (ws++[w])).length<=N+1;rw [aaT];omega)
   lw:=fun j vs h=>by
    rcases sG S.lt k _ j vs h with ⟨_,rfl⟩ | z
    ·exact ⟨by have:=hl.1;simp;exact this,fun u hu=>by
      rcases List.mem_append.mp hu with hu | hu
      ·exact hl.2 u hu
      ·rw [show u=w by simpa using hu];exact hw⟩
    ·exact F1.lw j vs z}
 | none =>
  exact {F1 with
   lt:=(by have:=F.lt;show (S.lt++[(k,[w])]).length<=N+1;simp;exact this)
   lw:=fun j vs h=>by
    rcases aaF S.lt j vs h with ⟨_,rfl⟩ | z
    ·exact ⟨by simp,fun u hu=>by rw [show u=w by simpa using hu];exact hw⟩
    ·exact F1.lw j vs z}
theorem aeA {k:Str} {a b:List Wo}:∀ {l:List (Str×List Wo)},cL l k=none->eY (l++[(k,a)]) k b=l++[(k,b)]
 | [],_=>by simp [eY]
 | p::r,h=>by
  rw [cL] at h;by_cases e:p.1=k
  ·rw [if_pos e] at h;cases h
  ·rw [if_neg e] at h;rw [List.cons_append,eY,if_neg e,aeA h];rfl
theorem Fit.wake {wt:Bool} {S:Pu} {N:Nat} (F:Fit wt S N) {m:Stm} (h:stand S.stk=some m) {w:Wo} (hw:cV w) (n:Str):Fit wt {S with nm:=dH S.nm n w,stk:=fV S.stk,sl:=.non} (N+1) :=
 {F.more (Nat.le_succ N) with
  nm:=(by have:=af9 S.nm n w;have:=F.nm;show (dH S.nm n w).length<=N+1;omega)
  pl:=(ap2 F.pl n hw)
  sk:=F.sk.pass h
  sl:=⟨fun k e=>(by cases e),fun k e=>(by cases e)⟩}
theorem frJ {x:Addr} {H G:Hp} {p:Addr} {u:HO} (k:Kp [x] H G) (gx:G x=some u) (hp:G p=none):H p=none:=by
 cases z:H p with
 | none=>rfl
 | some o =>
  by_cases hz:p=x
  ·subst hz;rw [gx] at hp;cases hp
  ·rw [k.at1 z hz] at hp;cases hp
theorem atO {C:Addr} {H1:Hp} {pg:Addr} {us:List V} {b:List Stm} {Q:Addr->Hp->Prop} {E:XK} (ep:H1 pg=some (.tup us)) (hs:cM H1 us b)
    (q:∀ x wx lb ln H',Kp [] H1 H'->H1 x=none->H1 lb=none->H1 ln=none->jU C H' x wx lb ln [(0,b,0)]->Q x H') :
    ∀ x dx,H1 x=none->H1 dx=none->dx≠x->agP C [.ref x,.ref pg] (upd (upd H1 dx (.own x)) x (.ins C dx [])) (fun v H2=>v=.non/\Q x H2) E:=fun x dx hx hdx ne=>by
  have K1:Kp [] H1 (upd (upd H1 dx (.own x)) x (.ins C dx [])):=(Kp.new hdx).trans (Kp.new (by rw [aI ne.symm];exact hx));exact ⟨x,dx,pg,us,b,rfl,aA,K1.at ep,hs.kp (aP.nil K1),fun lb ln H' f1 f2 W K=>⟨rfl,q x dx lb ln H' (Kp.drop ((K1.mono (by simp)).trans K) hx) hx (cZ (cZ f1)) (cZ (cZ f2)) W⟩⟩
theorem az2 {C:Addr} {H1:Hp} {Q:Addr->Hp->Prop} {E:XK}
    (q:∀ x tx dp da H',Kp [] H1 H'->H1 x=none->H1 dp=none->H1 da=none->iP C H' x tx dp da 0 [] []->Q x H') :
    ∀ x dx,H1 x=none->H1 dx=none->dx≠x->aeF C [.ref x] (upd (upd H1 dx (.own x)) x (.ins C dx [])) (fun v H2=>v=.non/\Q x H2) E:=fun x dx hx hdx ne=>by
  have K1:Kp [] H1 (upd (upd H1 dx (.own x)) x (.ins C dx [])):=(Kp.new hdx).trans (Kp.new (by rw [aI ne.symm];exact hx));exact ⟨x,dx,rfl,aA,fun dp da H' f1 f2 T K=>⟨rfl,q x dx dp da H' (Kp.drop ((K1.mono (by simp)).trans K) hx) hx (cZ (cZ f1)) (cZ (cZ f2)) T⟩⟩
theorem an8 {C:Cl} {H1:Hp} {pg:Addr} {us:List V} {b:List Stm} {Q:Addr->Hp->Prop} {E:XK} (ep:H1 pg=some (.tup us)) (hs:cM H1 us b)
    (q:∀(R:Rn) (sl:V) H',bB C H' R [] sl (pA b)->Kp [] H1 H'->(∀ a∈R.cells,H1 a=none)->Q R.x H') :
    ∀ x dx,H1 x=none->H1 dx=none->dx≠x->ajM C [.ref x,.ref pg] (upd (upd H1 dx (.own x)) x (.ins C.r dx [])) (fun v H2=>v=.non/\Q x H2) E:=fun x dx hx hdx ne=>by
  have K1:Kp [] H1 (upd (upd H1 dx (.own x)) x (.ins C.r dx [])):=(Kp.new hdx).trans (Kp.new (by rw [aI ne.symm];exact hx));refine ⟨x,dx,pg,us,b,rfl,aA,K1.at ep,hs.kp (aP.nil K1),fun R sl H' e1 A K M=>⟨rfl,?_⟩⟩;subst e1;exact q R sl H' A (Kp.drop ((K1.mono (by simp)).trans K) hx) fun a ha=>by
    rcases M a ha with rfl | z
    · exact hx
    · exact cZ (cZ z)
noncomputable def ak7 (C:Addr):Sp:=fun vs H Q _=>∃(tk tx dp da l:Addr) (made:Nat) (pend:List Int) (ans:List (Int×Wo)) (ws:List Wo),vs=[.ref tk,.ref l]/\iP C H tk tx dp da made pend ans/\H l=some (.lst (ws.map wv))/\ws.length<=4/\ans.length<=1000000/\∀ H',Kp [] H H'->Q (wv (cB ans ws)) H'
noncomputable def inA (ans:List (Int×Wo)) (w:Wo):Bool:=ans.any fun p=>decide (w=some p.1)
noncomputable def bW (ans:List (Int×Wo)):List Wo->List Int
 | []=>[]
 | none::r=>bW ans r
 | some i::r=>if inA ans (some i)=true then i::bW ans r else bW ans r
theorem aqU (ans:List (Int×Wo)) (w:Wo):(cI (jT ans) (wk w)).isSome=inA ans w:=by
 induction ans with
 | nil=>simp [jT,afI,inA]
 | cons p r ih =>
  have e:jT (p::r)=(Key.inl p.1,wv p.2)::jT r:=rfl;rw [e];by_cases h:w=some p.1
  ·subst h;rw [show wk (some p.1)=Key.inl p.1 from rfl,cU rfl];simp [inA]
  ·rw [cH (fun z=>h (by cases w with
    | none=>cases z
    | some j=>cases z;rfl)),ih]
   simp [inA,h]
theorem amT (ans:List (Int×Wo)):inA ans none=false:=by simp [inA]
theorem sJ (ans:List (Int×Wo)):∀(l r:List Wo),bW ans (l++r)=bW ans l++bW ans r
 | [],r=>rfl
 | none::l,r=>by simp only [List.cons_append,bW,sJ ans l r]
 | some i::l,r=>by
  simp only [List.cons_append,bW,sJ ans l r];split<;>simp
theorem ah9 {ans:List (Int×Wo)} {ws:List Wo} {i:Nat} {w:Wo} (e:ws[i]?=some w):(bW ans (ws.take (i+1))).map V.int=if inA ans w=true then (bW ans (ws.take i)).map V.int++[wv w] else (bW ans (ws.take i)).map V.int:=by
 rw [List.take_add_one,e];simp only [Option.toList_some,sJ,List.map_append];cases w with
 | none=>rw [amT];simp [bW]
 | some j =>
  simp only [bW];split<;>simp [wv]
theorem oK (ans:List (Int×Wo)):∀ ws:List Wo,(bW ans ws).length<=ws.length
 | []=>Nat.le_refl _
 | none::r=>by have:=oK ans r;simp only [bW,List.length_cons];omega
 | some i::r=>by
  have:=oK ans r;simp only [bW,List.length_cons];split
  ·simp only [List.length_cons];omega
  ·omega
theorem kX {ans:List (Int×Wo)} {i:Int}:∀ {ws:List Wo},i∈bW ans ws↔inA ans (some i)=true/\some i∈ws
 | []=>by simp [bW]
 | none::r=>by simp [bW,kX (ws:=r)]
 | some j::r=>by
  have ih:=kX (ans:=ans) (i:=i) (ws:=r);simp only [bW];split
  ·next h =>
   simp only [List.mem_cons,ih,Option.some.injEq];constructor
   ·rintro (rfl | ⟨a,b⟩)
    ·exact ⟨h,.inl rfl⟩
    ·exact ⟨a,.inr b⟩
   ·rintro ⟨a,b | b⟩
    ·exact .inl b
    ·exact .inr ⟨a,b⟩
  ·next h =>
   rw [ih];simp only [List.mem_cons,Option.some.injEq];constructor
   ·rintro ⟨a,b⟩;exact ⟨a,.inr b⟩
   ·rintro ⟨a,b | b⟩
    ·subst b;exact absurd a h
    ·exact ⟨a,b⟩
theorem afR (i:Int):∀ ns:List Int,u0 (.int i) (ns.map V.int)=decide (i∈ns)
 | []=>by simp [u0]
 | n::r=>by
  have ih:=afR i r;simp only [u0,List.map_cons,List.any_cons] at ih ⊢;rw [ih];by_cases h:n=i
  ·subst h;simp [qU]
  ·have:qU (V.int n) (V.int i)=false:=by simp [qU,h]
   rw [this];simp [Ne.symm h]
theorem yJ {α:Type} {p q:α->Bool}:∀ {l:List α},(∀ x∈l,p x=q x)->l.find? p=l.find? q
 | [],_=>rfl
 | x::l,h=>by
  simp only [List.find?,h x (by simp),yJ fun y hy=>h y (List.mem_cons_of_mem _ hy)]
theorem yB (ans:List (Int×Wo)) (ws:List Wo):cB ans ws=((ans.map (·.1)).filter fun i=>decide (i∈bW ans ws)).head?:=by
 unfold cB;rw [List.head?_filter,List.find?_map]
 congr 1
 refine yJ fun p hp=>?_;have:inA ans (some p.1)=true:=by simp only [inA,List.any_eq_true];exact ⟨p,hp,by simp⟩
 simp only [Function.comp,kX,this,true_and]
theorem aaH {val:Nat->Int} {j:Int}:∀ {n:Nat},j∈once val n↔∃ k,k < n/\val k=j
 | 0=>by simp [once]
 | n+1=>by
  have ih:=aaH (val:=val) (j:=j) (n:=n);have up:(∃ k,k < n+1/\val k=j)↔(∃ k,k < n/\val k=j)\/val n=j:=by
   constructor
   ·rintro ⟨k,hk,e⟩;by_cases h:k=n
    ·subst h;exact .inr e
    ·exact .inl ⟨k,by omega,e⟩
   ·rintro (⟨k,hk,e⟩ | e)
    ·exact ⟨k,by omega,e⟩
    ·exact ⟨n,by omega,e⟩
  rw [up,once];split
  ·next h =>
   rw [ih];constructor
   ·exact .inl
   ·rintro (z | z)
    ·exact z
    ·subst z;exact aaH.mp h
  ·simp only [List.mem_append,List.mem_singleton,ih];constructor
   ·rintro (z | z)
    ·exact .inl z
    ·exact .inr z.symm
   ·rintro (z | z)
    ·exact .inl z
    ·exact .inr z.symm
theorem oR {ns:List Int} {j:Int}:j∈mK ns↔j∈ns:=by
 unfold mK;rw [aaH,List.mem_iff_getElem];constructor
 ·rintro ⟨k,hk,e⟩;exact ⟨k,hk,by rw [List.getD_eq_getElem?_getD,List.getElem?_eq_getElem hk] at e;exact e⟩
 ·rintro ⟨k,hk,e⟩;exact ⟨k,hk,by rw [List.getD_eq_getElem?_getD,List.getElem?_eq_getElem hk];exact e⟩
theorem apT {ns:List Int} (h:(mK ns).length < 2) {i j:Int} (hi:i∈ns) (hj:j∈ns):i=j:=by
 have a:=oR.mpr hi;have b:=oR.mpr hj
 match e:mK ns,h with
 | [],_=>rw [e] at a;cases a
 | [x],_ =>
  rw [e] at a b;rw [List.mem_singleton.mp a,List.mem_singleton.mp b]
theorem akQ {ans:List (Int×Wo)} {ws:List Wo} (h:(mK (bW ans ws)).length < 2):cB ans ws=(bW ans ws).head?:=by
 rw [yB];cases e:bW ans ws with
 | nil=>simp
 | cons i r =>
  have hi:i∈bW ans ws:=by rw [e];simp
  have he:∀ j∈bW ans ws,j=i:=fun j hj=>apT h hj hi;obtain ⟨p,hp,ep⟩:=List.any_eq_true.mp (kX.mp hi).1;have ep:i=p.1:=by simpa using ep
  show _=some i;have hm:i∈((ans.map (·.1)).filter fun j=>decide (j∈i::r)):=List.mem_filter.mpr ⟨List.mem_map.mpr ⟨p,hp,ep.symm⟩,by simp⟩;cases z:((ans.map (·.1)).filter fun j=>decide (j∈i::r)) with
  | nil=>rw [z] at hm;cases hm
  | cons x xs =>
   have hx:x∈((ans.map (·.1)).filter fun j=>decide (j∈i::r)):=by rw [z];simp
   have:=he x (by rw [e];simpa using (List.mem_filter.mp hx).2);rw [this];rfl
theorem ahM {ans:List (Int×Wo)} {ws:List Wo} (h:¬ (mK (bW ans ws)).length < 2):∃ i r,((ans.map (·.1)).filter fun i=>decide (i∈bW ans ws))=i::r/\cB ans ws=some i:=by
 have hf:=yB ans ws;cases z:((ans.map (·.1)).filter fun i=>decide (i∈bW ans ws)) with
 | cons i r=>rw [z] at hf;exact ⟨i,r,rfl,hf⟩
 | nil =>
  exfalso;cases e:mK (bW ans ws) with
  | nil=>rw [e] at h;exact h (by simp)
  | cons i r =>
   have hi:i∈bW ans ws:=oR.mp (by rw [e];simp);obtain ⟨p,hp,ep⟩:=List.any_eq_true.mp (kX.mp hi).1;have ep:i=p.1:=by simpa using ep
   have hm:i∈((ans.map (·.1)).filter fun i=>decide (i∈bW ans ws)):=List.mem_filter.mpr ⟨List.mem_map.mpr ⟨p,hp,ep.symm⟩,by simpa using hi⟩;rw [z] at hm;cases hm
theorem e8.atW {H:Hp} {vs:List V} {ss:List Say} (h:e8 H vs ss):∀ {i:Nat} {x:V},vs[i]?=some x->∃ y,ss[i]?=some y/\c9 H x y:=by
 induction h with
 | nil=>intro i x e;simp at e
 | cons h _ ih =>
  intro i x e;cases i with
  | zero=>simp only [List.getElem?_cons_zero,Option.some.injEq] at e;subst e;exact ⟨_,rfl,h⟩
  | succ i=>exact ih (by simpa using e)
theorem e8.lenW {H:Hp} {vs:List V} {ss:List Say} (h:e8 H vs ss):vs.length=ss.length:=by
 induction h with
 | nil=>rfl
 | cons _ _ ih=>simp [ih]
noncomputable def dC (pend:List Int):List Wo->List Int
 | []=>[]
 | none::r=>dC pend r
 | some i::r=>if i∈pend then i::dC pend r else dC pend r
theorem tY (pend:List Int):∀(l r:List Wo),dC pend (l++r)=dC pend l++dC pend r
 | [],r=>rfl
 | none::l,r=>by simp only [List.cons_append,dC,tY pend l r]
 | some i::l,r=>by
  simp only [List.cons_append,dC,tY pend l r];split<;>simp
theorem ahH {pend:List Int} {ws:List Wo} {i:Nat} {w:Wo} (e:ws[i]?=some w):(dC pend (ws.take (i+1))).map V.int=if decide (∃ j∈pend,w=some j)=true then (dC pend (ws.take i)).map V.int++[wv w] else (dC pend (ws.take i)).map V.int:=by
 rw [List.take_add_one,e];simp only [Option.toList_some,tY,List.map_append];cases w with
 | none=>simp [dC]
 | some j =>
  by_cases h:j∈pend
  ·simp [dC,h,wv]
  ·simp [dC,h]
theorem kZ (pend:List Int):∀ ws:List Wo,(dC pend ws).length<=ws.length
 | []=>Nat.le_refl _
 | none::r=>by have:=kZ pend r;simp only [dC,List.length_cons];omega
 | some i::r=>by
  have:=kZ pend r;simp only [dC,List.length_cons];split
  ·simp only [List.length_cons];omega
  ·omega
theorem uL {pend:List Int} {i:Int}:∀ {ws:List Wo},i∈dC pend ws↔i∈pend/\some i∈ws
 | []=>by simp [dC]
 | none::r=>by simp [dC,uL (ws:=r)]
 | some j::r=>by
  have ih:=uL (pend:=pend) (i:=i) (ws:=r);simp only [dC];split
  ·next h =>
   simp only [List.mem_cons,ih,Option.some.injEq];constructor
   ·rintro (rfl | ⟨a,b⟩)
    ·exact ⟨h,.inl rfl⟩
    ·exact ⟨a,.inr b⟩
   ·rintro ⟨a,b | b⟩
    ·exact .inl b
    ·exact .inr ⟨a,b⟩
  ·next h =>
   rw [ih];simp only [List.mem_cons,Option.some.injEq];constructor
   ·rintro ⟨a,b⟩;exact ⟨a,.inr b⟩
   ·rintro ⟨a,b | b⟩
    ·subst b;exact absurd a h
    ·exact ⟨a,b⟩
theorem xU {i j:Int}:∀ {l:List Int},j∈y7 i l↔j=i\/j∈l
 | []=>by simp [y7]
 | k::r=>by
  have ih:=xU (i:=i) (j:=j) (l:=r);simp only [y7];split
  ·simp
  ·split
   ·next h =>
    subst h;simp only [List.mem_cons];constructor
    ·exact .inr
    ·rintro (z | z)
     ·exact .inl z
     ·exact z
   ·simp only [List.mem_cons,ih];constructor
    ·rintro (z | z | z)
     ·exact .inr (.inl z)
     ·exact .inl z
     ·exact .inr (.inr z)
    ·rintro (z | z | z)
     ·exact .inr (.inl z)
     ·exact .inl z
     ·exact .inr (.inr z)
theorem aeX {i:Int}:∀ {l:List Int},l.Pairwise (· < ·)->(y7 i l).Pairwise (· < ·)
 | [],_=>by simp [y7]
 | k::r,h=>by
  obtain ⟨h1,h2⟩:=List.pairwise_cons.mp h;simp only [y7];split
  ·next c=>exact List.pairwise_cons.mpr ⟨fun x hx=>by
    rcases List.mem_cons.mp hx with rfl | hx
    ·exact c
    ·have:=h1 x hx;omega,h⟩
  ·split
   ·exact h
   ·exact List.pairwise_cons.mpr ⟨fun x hx=>by
     rcases xU.mp hx with rfl | hx
     ·omega
     ·exact h1 x hx,aeX h2⟩
theorem i6 (pend:List Int):∀ ws:List Wo,(cE pend ws).Pairwise (· < ·)
 | []=>.nil
 | none::r=>i6 pend r
 | some i::r=>by
  simp only [cE];split
  ·exact aeX (i6 pend r)
  ·exact i6 pend r
theorem mB {pend:List Int} {j:Int}:∀ {ws:List Wo},j∈cE pend ws↔j∈dC pend ws
 | []=>by simp [cE,dC]
 | none::r=>by simp only [cE,dC];exact mB
 | some i::r=>by
  have ih:=mB (pend:=pend) (j:=j) (ws:=r);simp only [cE,dC];split
  ·rw [xU,ih,List.mem_cons]
  ·exact ih
theorem xQ (val:Nat->Int):∀ n,(once val n).Nodup
 | 0=>by simp [once]
 | n+1=>by
  have ih:=xQ val n;rw [once];split
  ·exact ih
  ·next h=>exact List.nodup_append.mpr ⟨ih,by simp,fun a ha b hb=>by
    rw [List.mem_singleton.mp hb];exact fun z=>h (z ▸ ha)⟩
theorem ae1 {pend:List Int} {ws:List Wo} {ns:List Int} (hp:ns.Perm (mK (dC pend ws))) (hs:ns.Pairwise (·<=·)):ns=cE pend ws:=by
 refine vG (hp.trans ?_) hs (i6 pend ws);refine (List.perm_ext_iff_of_nodup (xQ _ _) ((i6 pend ws).imp fun h=>by omega)).mpr fun j=>?_;show j∈mK _↔_;rw [oR,mB]
inductive dY (H:Hp):List V->List (V×V)->Prop
 | nil:dY H [] []
 | cons {a:Addr} {x y:V} {us:List V} {ps:List (V×V)}:H a=some (.tup [x,y])->dY H us ps->dY H (.ref a::us) ((x,y)::ps)
theorem dY.kt {H H':Hp} {us:List V} {ps:List (V×V)} (h:dY H us ps) (k:aP H H'):dY H' us ps:=by
 induction h with
 | nil=>exact .nil
 | cons a _ ih=>exact .cons (k _ _ a) ih
theorem dY.snoc {H:Hp} {us:List V} {ps:List (V×V)} {a:Addr} {x y:V} (h:dY H us ps) (e:H a=some (.tup [x,y])):dY H (us++[.ref a]) (ps++[(x,y)]):=by
 induction h with
 | nil=>exact .cons e .nil
 | cons b _ ih=>exact .cons b ih
theorem dY.len {H:Hp} {us:List V} {ps:List (V×V)} (h:dY H us ps):us.length=ps.length:=by
 induction h with
 | nil=>rfl
 | cons _ _ ih=>simp [ih]
theorem dY.of {H:Hp}:∀ {as:List Addr} {ps:List (V×V)},as.length=ps.length->(∀(j:Nat) (a:Addr) (x y:V),as[j]?=some a->ps[j]?=some (x,y)->H a=some (.tup [x,y]))->dY H (as.map V.ref) ps
 | [],[],_,_=>.nil
 | [],_::_,h,_=>by simp at h
 | _::_,[],h,_=>by simp at h
 | a::as,(x,y)::ps,h,g=>.cons (g 0 a x y rfl rfl) (dY.of (by simpa using h) fun j b x y e1 e2=>g (j+1) b x y (by simpa using e1) (by simpa using e2))
inductive gG (H:Hp):List V->List (Str×List Wo)->Prop
 | nil:gG H [] []
 | cons {a b:Addr} {k:Str} {ws:List Wo} {us:List V} {ps:List (Str×List Wo)}:H a=some (.tup [.str k,.ref b])->H b=some (.tup (ws.map wv))->gG H us ps->gG H (.ref a::us) ((k,ws)::ps)
theorem gG.kt {H H':Hp} {us:List V} {ps:List (Str×List Wo)} (h:gG H us ps) (k:aP H H'):gG H' us ps:=by
 induction h with
 | nil=>exact .nil
 | cons a b _ ih=>exact .cons (k _ _ a) (k _ _ b) ih
theorem gG.snoc {H:Hp} {us:List V} {ps:List (Str×List Wo)} {a b:Addr} {k:Str} {ws:List Wo} (h:gG H us ps) (e:H a=some (.tup [.str k,.ref b])) (f:H b=some (.tup (ws.map wv))):gG H (us++[.ref a]) (ps++[(k,ws)]):=by
 induction h with
 | nil=>exact .cons e f .nil
 | cons c d _ ih=>exact .cons c d ih
theorem gG.len {H:Hp} {us:List V} {ps:List (Str×List Wo)} (h:gG H us ps):us.length=ps.length:=by
 induction h with
 | nil=>rfl
 | cons _ _ _ ih=>simp [ih]
noncomputable def eK (nm:List (Str×Wo)):List Str->List (V×V)
 | []=>[]
 | n::r=>if jO nm n=none then eK nm r else (.str n,wv (jO nm n))::eK nm r
theorem abN (nm:List (Str×Wo)):∀ l r:List Str,eK nm (l++r)=eK nm l++eK nm r
 | [],_=>rfl
 | n::l,r=>by
  simp only [List.cons_append,eK,abN nm l r];split<;>rfl
noncomputable def fR (lt:List (Str×List Wo)):List Str->List (Str×List Wo)
 | []=>[]
 | k::r=>if (cL lt k).getD []=[] then fR lt r else (k,(cL lt k).getD [])::fR lt r
theorem abW (lt:List (Str×List Wo)):∀ l r:List Str,fR lt (l++r)=fR lt l++fR lt r
 | [],_=>rfl
 | n::l,r=>by
  simp only [List.cons_append,fR,abW lt l r];split<;>rfl
theorem oO (nm:List (Str×Wo)):∀ l:List Str,(eK nm l).length<=l.length
 | []=>Nat.le_refl _
 | n::l=>by
  have:=oO nm l;simp only [eK];split<;>simp only [List.length_cons]<;>omega
theorem oQ (lt:List (Str×List Wo)):∀ l:List Str,(fR lt l).length<=l.length
 | []=>Nat.le_refl _
 | n::l=>by
  have:=oQ lt l;simp only [fR];split<;>simp only [List.length_cons]<;>omega
noncomputable def Pu.nmS (S:Pu):List (V×V):=eK S.nm (srt (S.nm.map (·.1)))
noncomputable def Pu.ltS (S:Pu):List (Str×List Wo):=fR S.lt (srt (S.lt.map (·.1)))
noncomputable def Pu.anS (S:Pu):List (V×V):=S.ans.map fun p=>(.int p.1,wv p.2)
noncomputable def Slp.going:Slp->Bool
 | .wait _=>true
 | .hear _=>true
 | _=>false
noncomputable def kJ (H:Hp) (v:V) (S:Pu):Prop:=if S.sl.going=true then ∃(p pl pn po pa pt:Addr) (sl:V) (un ua ut:List V),v=.ref p/\H p=some (.tup [sl,.ref pl,wv S.ar,.int S.nw,.ref pn,.int S.made,.ref po,.ref pa,.ref pt])/\fU H sl S.sl /\
    H pl=some (.tup ((bG S.stk).map V.int))/\H pn=some (.tup un)/\dY H un S.nmS/\H po=some (.tup (S.pend.map V.int))/\H pa=some (.tup ua)/\dY H ua S.anS/\H pt=some (.tup ut)/\gG H ut S.ltS
  else fU H v S.sl
theorem aj8:∀ nm:List (Str×Wo),iJ (k7 nm)=some (nm.map (·.1))
 | []=>rfl
 | p::r=>by
  have ih:=aj8 r;show (iJ (k7 r)).map (p.1::·)=_;rw [ih];rfl
theorem arR {H:Hp} {kvs:List (Key×V)} {as:List Addr} {lt:List (Str×List Wo)} (h:jX H kvs as lt):iJ kvs=some (lt.map (·.1)):=by
 induction h with
 | nil=>rfl
 | @cons a k ws kvs as lt _ _ ih =>
  show (iJ kvs).map (k::·)=_;rw [ih];rfl
theorem apB:∀ {nm:List (Str×Wo)} {n:Str},n∈nm.map (·.1)->cI (k7 nm) (.inr n)=some (wv (jO nm n))
 | [],n,h=>by simp at h
 | p::r,n,h=>by
  show cI ((Key.inr p.1,wv p.2)::k7 r) (.inr n)=_;by_cases e:p.1=n
  ·rw [cU (by rw [e]),jO,if_pos e]
  ·rw [cH (fun z=>e (Key.inr.inj z)),jO,if_neg e];refine apB ?_;rcases List.mem_cons.mp h with h | h
   ·exact absurd h.symm e
   ·exact h
theorem jX.inS {H:Hp} {kvs:List (Key×V)} {as:List Addr} {lt:List (Str×List Wo)} (h:jX H kvs as lt) {k:Str} (hk:k∈lt.map (·.1)):∃ a ws,cI kvs (.inr k)=some (.ref a)/\cL lt k=some ws/\H a=some (.lst (ws.map wv)):=by
 rcases h.look k with ⟨_,e⟩ | ⟨a,ws,x,y,_,u⟩
 ·exfalso;clear h
  induction lt with
  | nil=>simp at hk
  | cons p r ih =>
   simp only [cL] at e;split at e
   ·cases e
   ·next hp =>
    rcases List.mem_cons.mp hk with z | z
    ·exact hp z.symm
    ·exact ih z e
 ·exact ⟨a,ws,x,y,u⟩
theorem fU.word {H:Hp} {v:V} {s:Slp} (h:fU H v s) (hn:s.isN=false):∃(p:Addr) (s0:Str) (r0:List V),v=.ref p/\H p=some (.tup (.str s0::r0))/\u0 (.str s0) [.str "wait",.str "hear"]=s.going:=by
 cases s with
 | non=>cases hn
 | new=>obtain ⟨p,rfl,e⟩:=h;exact ⟨p,_,_,rfl,e,by simp [u0,qU,e9,Slp.going]⟩
 | wait ts=>obtain ⟨p,p2,rfl,e,_⟩:=h;exact ⟨p,_,_,rfl,e,by simp [u0,qU,e9,Slp.going]⟩
 | hear k=>obtain ⟨p,rfl,e⟩:=h;exact ⟨p,_,_,rfl,e,by simp [u0,qU,e9,Slp.going]⟩
 | ended w=>obtain ⟨p,rfl,e⟩:=h;exact ⟨p,_,_,rfl,e,by simp [u0,qU,e9,Slp.going]⟩
 | worn=>obtain ⟨p,rfl,e⟩:=h;exact ⟨p,_,_,rfl,e,by simp [u0,qU,e9,Slp.going]⟩
theorem uW {c:TT} {t u:TS} {D:Ends} {σ:St} {H:Hp} (h:∀ R:St->Hp->Prop,(∀ σ' H',t D σ' H'->R σ' H')->apO c (fun _=>R) u D σ H):apO c t u D σ H:=h (t D) fun _ _ z=>z
noncomputable def ar8 (C:Addr):Sp:=fun vs H Q _=>∃(wk wx lb ln:Addr) (st:Stk),vs=[.ref wk]/\jU C H wk wx lb ln st/\∀ p,H p=none->Q (.ref p) (upd H p (.tup ((bG st).map V.int)))
noncomputable def arE (C:Cl):Sp:=fun vs H Q _=>∃(R:Rn) (as:List Addr) (sl:V) (S:Pu),vs=[.ref R.x]/\bB C H R as sl S/\S.sl.isN=false/\S.pend.length<=1000000/\S.nm.length < 64/\S.lt.length < 64/\S.ans.length<=1000000/\(∀ k ws,cL S.lt k=some ws->ws.length<=1000000)/\∀(v:V) (H':Hp),kJ H' v S->Kp [] H H'->Q v H'
theorem aBM {w:Wo} {k:Int->Prop} {u:Tg k}:aBV (wv w) k u=k (num w):=by cases w<;>rfl
noncomputable def awT (K:PySem.W.Frag):Sp:=fun vs H Q _=>∃(a:Addr) (ns:List Int) (k:Int),vs=[.ref a,.int k]/\eZ K H a (ns.map V.int)/\0<=k/\∀ z:Int,Q (.int z) H
structure cD (H:Hp) (r:Addr):Prop where
 ex:∃ c f:Int,H r=some (.lst [.int c,.int f])/\(f=0\/(0<=c/\c < 982451653))
theorem cD.kp {S:List Addr} {H H':Hp} {r:Addr} (R:cD H r) (h:Kp S H H') (n:r∉S:=by first | exact List.not_mem_nil | simp_all):cD H' r:=by
 obtain ⟨c,f,e,x⟩:=R;exact ⟨c,f,h _ _ e n,x⟩
theorem cD.new {H:Hp} {r p:Addr} {o:HO} (R:cD H r) (h:H p=none):cD (upd H p o) r:=R.kp (S:=[]) (Kp.new h)
theorem cD.none {H:Hp} {r p:Addr} (R:cD H r) (h:H p=Option.none):p≠r:=by
 obtain ⟨c,f,e,_⟩:=R;exact (aL e h).symm
theorem _root_.L2.Kp.madeJ {r p:Addr} {H H':Hp} {o:HO} (x:Kp [r] (upd H p o) H') (R:cD H r) (h:H p=Option.none):H' p=some o:=x.at1 aA (R.none h)
noncomputable def auG:Sp:=fun vs H Q _=>∃ c:Int,vs=[.int c]/\∀(r:Addr) (H':Hp),H r=none->Kp [] H H'->cD H' r->Q (.ref r) H'
theorem azB {c:Int} {H:Hp} {Q:VK} {E:XK}:auG [.int c] H Q E = ∀(r:Addr) (H':Hp),H r=none->Kp [] H H'->cD H' r->Q (.ref r) H':=propext ⟨fun ⟨_,e,h⟩=>by cases e;exact h,fun h=>⟨_,rfl,h⟩⟩
noncomputable def auQ:Sp:=fun vs H Q _=>∃(r:Addr) (m:Int),vs=[.ref r,.int m]/\0 < m/\m<=10 ^ 45/\cD H r /\
 ∀(g:Int) (H':Hp),0<=g->g < m->cD H' r->Kp [r] H H'->Q (.int g) H'
theorem aq6 {r:Addr} {m:Int} {H:Hp} {Q:VK} {E:XK}:auQ [.ref r,.int m] H Q E=(0 < m/\m<=10 ^ 45/\cD H r/\∀(g:Int) (H':Hp),0<=g->g < m->cD H' r->Kp [r] H H'->Q (.int g) H') :=
 propext ⟨fun ⟨_,_,e,h⟩=>by cases e;exact h,fun h=>⟨_,_,rfl,h⟩⟩
theorem asP:CPow 86028157 2=True:=eq_true ⟨by decide,by decide,by decide⟩
noncomputable def afF:Sp:=fun vs H Q _=>∃ r:Addr,vs=[.ref r]/\cD H r/\∀(w:Wo) (H':Hp),cV w->cD H' r->Kp [r] H H'->Q (wv w) H'
theorem anW {r:Addr} {H:Hp} {Q:VK} {E:XK}:afF [.ref r] H Q E=(cD H r/\∀(w:Wo) (H':Hp),cV w->cD H' r->Kp [r] H H'->Q (wv w) H') :=
 propext ⟨fun ⟨_,e,h⟩=>by cases e;exact h,fun h=>⟨_,rfl,h⟩⟩
noncomputable def acP:Sp:=fun vs H Q _=>∃ r:Addr,vs=[.ref r]/\cD H r/\∀(m:Int) (H':Hp),0<=m->m<=1000000000000->cD H' r->Kp [r] H H'->Q (.int m) H'
theorem al7 {r:Addr} {H:Hp} {Q:VK} {E:XK}:acP [.ref r] H Q E=(cD H r/\∀(m:Int) (H':Hp),0<=m->m<=1000000000000->cD H' r->Kp [r] H H'->Q (.int m) H') :=
 propext ⟨fun ⟨_,e,h⟩=>by cases e;exact h,fun h=>⟨_,rfl,h⟩⟩
mutual
noncomputable def Stm.nmIn (L:List Str):Stm->Prop
 | .set x _=>x∈L
 | .order x _ _=>x∈L
 | .child x _ _=>x∈L
 | .timer x _=>x∈L
 | .wait x ss=>x∈L/\ss.length<=4
 | .hear x _=>x∈L
 | .whl _ b=>b.length<=8/\dI L b
 | .iff _ b o=>(b.length<=8/\o.length<=8)/\dI L b/\dI L o
 | _=>True
noncomputable def dI (L:List Str):List Stm->Prop
 | []=>True
 | m::ms=>m.nmIn L/\dI L ms
end
theorem zB {L:List Str}:∀ {b:List Stm} {i:Nat} {m:Stm},dI L b->b[i]?=some m->m.nmIn L
 | [],_,_,_,h=>by simp at h
 | _::_,0,_,g,h=>by simp only [List.getElem?_cons_zero,Option.some.injEq] at h;subst h;simp only [dI] at g;exact g.1
 | _::b,i+1,_,g,h=>by simp only [dI] at g;exact zB g.2 (by simpa using h)
theorem al6 (l:List (Str×Wo)) (n:Str) (w:Wo):(dH l n w).map (·.1)=if n∈l.map (·.1) then l.map (·.1) else l.map (·.1)++[n]:=by
 have e:(l.any fun p=>decide (p.1=n))=true↔n∈l.map (·.1):=by
  rw [List.any_eq_true,List.mem_map];constructor
  ·rintro ⟨p,h,e⟩;exact ⟨p,h,by simpa using e⟩
  ·rintro ⟨p,h,e⟩;exact ⟨p,h,by simpa using e⟩
 unfold dH;by_cases h:n∈l.map (·.1)
 ·rw [if_pos (e.mpr h),if_pos h,List.map_map];refine List.map_congr_left fun p _=>?_;simp only [Function.comp];split<;>rfl
 ·rw [if_neg (fun z=>h (e.mp z)),if_neg h];simp
structure eN (L:List Str) (S:Pu):Prop where
 nd:(S.nm.map (·.1)).Nodup
 sub:∀ n∈S.nm.map (·.1),n∈L
 stk:∀ x∈S.stk,dI L x.2.1
theorem eN.put {L:List Str} {S:Pu} (h:eN L S) {n:Str} (hn:n∈L) (w:Wo):eN L {S with nm:=dH S.nm n w}:=by
 have e:=al6 S.nm n w;refine ⟨?_,?_,h.stk⟩
 ·show ((dH S.nm n w).map (·.1)).Nodup;rw [e];split
  ·exact h.nd
  ·next hc =>
   rw [List.nodup_append];exact ⟨h.nd,by simp,fun a ha b hb=>by rw [show b=n by simpa using hb];intro z;exact hc (z ▸ ha)⟩
 ·show ∀ x∈(dH S.nm n w).map (·.1),x∈L;rw [e];split
  ·exact h.sub
  ·intro x hx;rcases List.mem_append.mp hx with hx | hx
   ·exact h.sub x hx
   ·rw [show x=n by simpa using hx];exact hn
theorem eN.same {L:List Str} {S T:Pu} (h:eN L S) (e1:T.nm=S.nm) (e2:T.stk=S.stk):eN L T:=⟨by rw [e1];exact h.nd,by rw [e1];exact h.sub,by rw [e2];exact h.stk⟩
theorem eN.deed {L:List Str} {S:Pu} (h:eN L S) {m:Stm} (g:m.nmIn L):eN L (deed S m).1:=by
 cases m with
 | set x s=>simp only [Stm.nmIn] at g;exact h.put g _
 | order x y s=>simp only [Stm.nmIn] at g;exact (h.put g _).same rfl rfl
 | child x y s=>simp only [Stm.nmIn] at g;exact (h.put g _).same rfl rfl
 | timer x s=>simp only [Stm.nmIn] at g;exact (h.put g _).same rfl rfl
 | send s k r=>exact h
 | drop s =>
  simp only [Own.deed];split
  ·split
   ·exact h.same rfl rfl
   ·exact h
  ·exact h
 | hear x k =>
  simp only [Stm.nmIn] at g;simp only [Own.deed];split
  ·exact (h.put g _).same rfl rfl
  ·exact h.same rfl rfl
 | wait x ss =>
  simp only [Stm.nmIn] at g;simp only [Own.deed];split
  ·exact h.same rfl rfl
  ·exact h.put g.1 _
 | fin s=>exact h.same rfl rfl
 | whl s b=>exact h
 | iff s b o=>exact h
theorem uV {L:List Str}:∀ st:Stk,(∀ x∈st,dI L x.2.1)->∀ x∈cQ st,dI L x.2.1
 | [],h=>by simpa [cQ] using h
 | [a],h=>by simpa [cQ] using h
 | (k,b,n)::(k2,b2,n2)::r,h=>by
  rw [cQ];split
  ·refine uV ((k2,b2,vJ b2 n2)::r) fun x hx=>?_;rcases List.mem_cons.mp hx with rfl | hx
   ·exact h (k2,b2,n2) (by simp)
   ·exact h x (by simp [hx])
  ·exact h
termination_by st=>st.length
theorem tM {L:List Str} {st:Stk} (h:∀ x∈st,dI L x.2.1):∀ x∈fV st,dI L x.2.1:=by
 cases st with
 | nil=>exact h
 | cons a r =>
  obtain ⟨k,b,n⟩:=a;intro x hx;simp only [fV,List.mem_cons] at hx;rcases hx with rfl | hx
  ·exact h (k,b,n) (by simp)
  ·exact h x (by simp [hx])
theorem eN.stand {L:List Str} {S:Pu} (h:eN L S) {m:Stm} (e:stand S.stk=some m):m.nmIn L:=by
 cases hs:S.stk with
 | nil=>rw [hs] at e;cases e
 | cons a r =>
  obtain ⟨k,b,n⟩:=a;rw [hs] at e;exact zB (h.stk (k,b,n) (by rw [hs];simp)) e
theorem eN.one {L:List Str} {S:Pu} (h:eN L S) {m:Stm} (e:Own.stand S.stk=some m):eN L (one S m).1:=by
 have g:=h.stand e;have en:∀(c:Nat) (b:List Stm),dI L b->eN L (S.enter c b):=fun c b hb=>⟨h.nd,h.sub,fun x hx=>by
  rcases List.mem_cons.mp hx with rfl | hx
  ·exact hb
  ·exact h.stk x hx⟩
 have ps:∀ T:Pu,eN L T->eN L T.pass:=fun T hT=>⟨hT.nd,hT.sub,tM hT.stk⟩;unfold Own.one;split
 ·cases m with
  | whl s b =>
   simp only [Stm.nmIn] at g;show eN L (if _ then S.pass else S.enter 0 b);split
   ·exact ps S h
   ·exact en 0 b g.2
  | iff s b o =>
   simp only [Stm.nmIn] at g;show eN L (if _ then S.enter 1 o else S.enter 0 b);split
   ·exact en 1 o g.2.2
   ·exact en 0 b g.2.1
  | _=>exact h
 ·show eN L (if _ then (Own.deed S m).1.pass else (Own.deed S m).1);split
  ·exact ps _ (h.deed g)
  ·exact h.deed g
theorem v8 {L:List Str}:∀(n:Nat) {S:Pu},eN L S->eN L (gY n S).1
 | 0,S,h=>by
  have hc:eN L S.come:=⟨h.nd,h.sub,uV _ h.stk⟩;cases e:stand S.come.stk with
  | none=>rw [dA e];exact hc.same rfl rfl
  | some m=>rw [gP e];exact hc.same rfl rfl
 | n+1,S,h=>by
  have hc:eN L S.come:=⟨h.nd,h.sub,uV _ h.stk⟩;cases e:stand S.come.stk with
  | none=>rw [dA e];exact hc.same rfl rfl
  | some m =>
   cases z:(one S.come m).1.sl.isN with
   | true=>rw [lR e z];exact v8 n (hc.one e)
   | false=>rw [gM e z];exact hc.one e
theorem eN.wake {L:List Str} {S:Pu} (h:eN L S) (w:Wo):eN L (S.wake w).1:=by
 unfold Pu.wake;split
 ·next x k e =>
  have g:=h.stand e;simp only [Stm.nmIn] at g;have h1:=h.put g w;exact v8 300 ⟨h1.nd,h1.sub,tM h.stk⟩
 ·next x ss e =>
  have g:=h.stand e;simp only [Stm.nmIn] at g;have h1:=h.put g.1 w;exact v8 300 ⟨h1.nd,h1.sub,tM h.stk⟩
 ·exact h
theorem eN.take {L:List Str} {S:Pu} (h:eN L S) (x:Hap):eN L (S.take x).1:=by
 unfold Pu.take;split
 ·exact h
 cases x with
 | beg m w=>exact v8 300 (h.same rfl rfl)
 | don m i w =>
  show eN L ((S.at' m).takeD i w).1;unfold Pu.takeD;split
  ·split
   ·exact (h.same (T:=(S.at' m).done i w) rfl rfl).wake _
   ·exact h.same rfl rfl
  ·exact h.same rfl rfl
 | ltr m k w =>
  show eN L ((S.at' m).takeL k w).1;unfold Pu.takeL;split
  ·split
   ·exact (h.same (T:=S.at' m) rfl rfl).wake _
   ·exact h.same rfl rfl
  ·exact h.same rfl rfl
theorem uH:∀ {a L:List Str},a.Nodup->(∀ x∈a,x∈L)->a.length<=L.length
 | [],L,_,_=>Nat.zero_le _
 | x::a,L,nd,h=>by
  rw [List.nodup_cons] at nd;have hx:=h x (by simp);have:=uH (a:=a) (L:=L.erase x) nd.2 fun y hy=>(List.mem_erase_of_ne (fun z:y=x=>nd.1 (by rw [<- z];exact hy))).mpr (h y (List.mem_cons_of_mem _ hy));have hl:=List.length_erase_of_mem hx;have hp:0 < L.length:=List.length_pos_of_mem hx;simp only [List.length_cons];omega
theorem eN.len {L:List Str} {S:Pu} (h:eN L S):S.nm.length<=L.length:=by
 have:=uH h.nd h.sub
 rwa [List.length_map] at this
structure fJ (K:List Str) (S:Pu):Prop where
 nd:(S.lt.map (·.1)).Nodup
 sub:∀ n∈S.lt.map (·.1),n∈K
theorem oY (r:List Wo):∀(l:List (Str×List Wo)) (k:Str),(eY l k r).map (·.1)=l.map (·.1)
 | [],_=>rfl
 | p::l,k=>by
  simp only [eY];split
  ·rfl
  ·simp only [List.map_cons,oY r l k]
theorem z9:∀ {l:List (Str×List Wo)} {k:Str},cL l k=none->k∉l.map (·.1)
 | [],_,_=>by simp
 | p::l,k,h=>by
  simp only [cL] at h;split at h
  ·cases h
  ·next hp =>
   simp only [List.map_cons,List.mem_cons,not_or];exact ⟨fun z=>hp z.symm,z9 h⟩
theorem fJ.same {K:List Str} {S T:Pu} (h:fJ K S) (e:T.lt=S.lt):fJ K T:=⟨by rw [e];exact h.nd,by rw [e];exact h.sub⟩
theorem fJ.add {K:List Str} {S:Pu} (h:fJ K S) {k:Str} (hk:k∈K) (w:Wo):fJ K {S with lt:=gI S.lt k w}:=by
 cases e:cL S.lt k with
 | some ws =>
  have ea:gI S.lt k w=eY S.lt k (ws++[w]):=by simp only [gI,e]
  have kk:=oY (ws++[w]) S.lt k;exact ⟨by show ((gI S.lt k w).map (·.1)).Nodup;rw [ea,kk];exact h.nd,by show ∀ n∈(gI S.lt k w).map (·.1),n∈K;rw [ea,kk];exact h.sub⟩
 | none =>
  have ea:gI S.lt k w=S.lt++[(k,[w])]:=by simp only [gI,e]
  have nk:=z9 e;refine ⟨?_,?_⟩
  ·show ((gI S.lt k w).map (·.1)).Nodup;rw [ea,List.map_append,List.nodup_append];exact ⟨h.nd,by simp,fun a ha b hb=>by rw [show b=k by simpa using hb];intro z;exact nk (z ▸ ha)⟩
  ·show ∀ n∈(gI S.lt k w).map (·.1),n∈K;rw [ea,List.map_append];intro n hn;rcases List.mem_append.mp hn with hn | hn
   ·exact h.sub n hn
   ·rw [show n=k by simpa using hn];exact hk
theorem fJ.deed {K:List Str} {S:Pu} (h:fJ K S) (m:Stm):fJ K (deed S m).1:=by
 cases m with
 | drop s =>
  simp only [Own.deed];split
  ·split
   ·exact h.same rfl
   ·exact h
  ·exact h
 | hear x k =>
  simp only [Own.deed];split
  ·next w r e=>exact ⟨by show ((eY S.lt k r).map (·.1)).Nodup;rw [oY];exact h.nd,by show ∀ n∈(eY S.lt k r).map (·.1),n∈K;rw [oY];exact h.sub⟩
  ·exact h.same rfl
 | wait x ss =>
  simp only [Own.deed];split
  ·exact h.same rfl
  ·exact h.same rfl
 | _=>exact h.same rfl
theorem fJ.one {K:List Str} {S:Pu} (h:fJ K S) (m:Stm):fJ K (one S m).1:=by
 unfold Own.one;split
 ·cases m with
  | whl s b=>show fJ K (if _ then S.pass else S.enter 0 b);split<;>exact h.same rfl
  | iff s b o=>show fJ K (if _ then S.enter 1 o else S.enter 0 b);split<;>exact h.same rfl
  | _=>exact h
 ·show fJ K (if _ then (Own.deed S m).1.pass else (Own.deed S m).1);split
  ·exact (h.deed m).same rfl
  ·exact h.deed m
theorem wG {K:List Str}:∀(n:Nat) {S:Pu},fJ K S->fJ K (gY n S).1
 | 0,S,h=>by
  have hc:fJ K S.come:=h.same rfl;cases e:stand S.come.stk with
  | none=>rw [dA e];exact hc.same rfl
  | some m=>rw [gP e];exact hc.same rfl
 | n+1,S,h=>by
  have hc:fJ K S.come:=h.same rfl;cases e:stand S.come.stk with
  | none=>rw [dA e];exact hc.same rfl
  | some m =>
   cases z:(one S.come m).1.sl.isN with
   | true=>rw [lR e z];exact wG n (hc.one m)
   | false=>rw [gM e z];exact hc.one m
theorem fJ.wake {K:List Str} {S:Pu} (h:fJ K S) (w:Wo):fJ K (S.wake w).1:=by
 unfold Pu.wake;split
 ·exact wG 300 (h.same rfl)
 ·exact wG 300 (h.same rfl)
 ·exact h
theorem fJ.take {K:List Str} {S:Pu} (h:fJ K S) (x:Hap) (hx:∀ m k w,x=.ltr m k w->k∈K):fJ K (S.take x).1:=by
 unfold Pu.take;split
 ·exact h
 cases x with
 | beg m w=>exact wG 300 (h.same rfl)
 | don m i w =>
  show fJ K ((S.at' m).takeD i w).1;unfold Pu.takeD;split
  ·split
   ·exact (h.same (T:=(S.at' m).done i w) rfl).wake _
   ·exact h.same rfl
  ·exact h.same rfl
 | ltr m k w =>
  show fJ K ((S.at' m).takeL k w).1;unfold Pu.takeL;split
  ·split
   ·exact (h.same (T:=S.at' m) rfl).wake _
   ·exact ((h.same (T:=S.at' m) rfl).add (hx m k w rfl) w).same rfl
  ·exact ((h.same (T:=S.at' m) rfl).add (hx m k w rfl) w).same rfl
theorem fJ.len {K:List Str} {S:Pu} (h:fJ K S):S.lt.length<=K.length:=by
 have:=uH h.nd h.sub
 rwa [List.length_map] at this
noncomputable def NM4:List Str:=["a","b","aa","d"]
noncomputable def KY3:List Str:=["k","kk","m"]
theorem cD.tk {H H':Hp} {r:Addr} (R:cD H r) (k:Kp [r] H H'):aP H H':=.of k fun a ha=>by
 obtain ⟨c,f,e,_⟩:=R;have:a=r:=by simpa using ha
 exact ⟨_,this ▸ e,fun _ h=>by cases h⟩
theorem made1J {r p:Addr} {H H':Hp} {o:HO} (x:Kp [r] (upd H p o) H') (R:cD H r) (h:H p=Option.none):H' p=some o:=x.at1 aA (R.none h)
theorem at8 {a b:Prop} [Decidable a] [Decidable b] {P R:Prop}:(if a then (if b then P else R) else R)=if a/\b then P else R:=by
 by_cases ha:a<;>by_cases hb:b<;>simp [ha,hb]
noncomputable def ah5 (d:Nat):Sp:=fun vs H Q _=>∃(r:Addr) (dp:Int),vs=[.ref r,.int dp]/\0<=dp/\dp < d/\cD H r/\∀(v:V) (s:Say) (H':Hp),c9 H' v s->s.ok->(s.depth:Int)<=dp+1->cD H' r->Kp [r] H H'->Q v H'
noncomputable def avX:Sp:=fun vs H Q _=>∃ r:Addr,vs=[.ref r]/\cD H r/\∀(v:V) (h:Hap) (H':Hp),u6 H' v h->(0<=h.m/\h.m<=1000000000000)->cV h.w->(∀ m k w,h=.ltr m k w->k∈KY3)->cD H' r->Kp [r] H H'->Q v H'
noncomputable def aqS:Sp:=fun vs H Q _=>∃(r:Addr) (x:Str),vs=[.ref r,.str x]/\cD H r/\∀(v:V) (ss:List Say) (H':Hp),dJ H' v (.wait x ss)->ss.length<=4->(∀ s∈ss,s.sok)->cD H' r->Kp [r] H H'->Q v H'
noncomputable def fL (H:Hp) (m:Addr):Prop:=∃ n:Int,H m=some (.lst [.int n])/\n<=40
noncomputable def ah1 (d:Nat):Sp:=fun vs H Q _=>∃(r m:Addr) (dp:Int),vs=[.ref r,.int dp,.ref m]/\0<=dp/\dp<=d/\cD H r/\fL H m/\r≠m/\∀(v:V) (x:Stm) (H':Hp),dJ H' v x->x.gd true->x.nmIn NM4->(x.dp:Int)<=dp->cD H' r->fL H' m->Kp [r,m] H H'->Q v H'
noncomputable def adI (d:Nat):Sp:=fun vs H Q _=>∃(r m:Addr) (dp:Int),vs=[.ref r,.int dp,.ref m]/\0<=dp/\dp < d/\cD H r/\fL H m/\r≠m/\∀(p:Addr) (us:List V) (b:List Stm) (H':Hp),H' p=some (.tup us)->cM H' us b->wH true b->dI NM4 b->(dpL b:Int)<=dp->b.length<=7->cD H' r->fL H' m->Kp [r,m] H H'->Q (.ref p) H'
noncomputable def avK:Sp:=fun vs H Q _=>∃ c:Int,vs=[.int c]/\∀(p:Addr) (us:List V) (b:List Stm) (H':Hp),H' p=some (.tup us)->cM H' us b->wH true b->dI NM4 b->dpL b<=4->b.length<=8->Kp [] H H'->Q (.ref p) H'
theorem e8.snoc {H:Hp} {vs:List V} {ss:List Say} {v:V} {s:Say} (h:e8 H vs ss) (e:c9 H v s):e8 H (vs++[v]) (ss++[s]):=by
 induction h with
 | nil=>exact .cons e .nil
 | cons a _ ih=>exact .cons a ih
theorem fL.kp {H H':Hp} {m:Addr} (h:fL H m) (k:Kp [] H H'):fL H' m:=let ⟨n,e,f⟩:=h;⟨n,k.at e,f⟩
theorem fL.kj {H H':Hp} {r m:Addr} (h:fL H m) (k:Kp [r] H H') (n:r≠m):fL H' m:=let ⟨n',e,f⟩:=h;⟨n',k.at1 e n.symm,f⟩
theorem cD.tk2 {H H':Hp} {r m:Addr} (R:cD H r) (M:fL H m) (k:Kp [r,m] H H'):aP H H':=.of k fun a ha=>by
 obtain ⟨c,f,e,_⟩:=R;obtain ⟨n,e',_⟩:=M;simp only [List.mem_cons,List.not_mem_nil,or_false] at ha;rcases ha with rfl | rfl
 ·exact ⟨_,e,fun _ h=>by cases h⟩
 ·exact ⟨_,e',fun _ h=>by cases h⟩
theorem xK:∀(b:List Stm) (x:Stm),dpL (b++[x])=max (dpL b) x.dp
 | [],x=>by simp [dpL]
 | y::b,x=>by
  simp only [List.cons_append,dpL,xK b x];omega
theorem an6 {wt:Bool}:∀ {b:List Stm},(∀ m∈b,m.gd wt)->wH wt b
 | [],_=>by simp only [wH]
 | m::b,h=>by simp only [wH];exact ⟨h m (by simp),an6 fun x hx=>h x (List.mem_cons_of_mem _ hx)⟩
theorem afL {b:List Stm} {x:Stm} (h:wH true b) (g:x.gd true):wH true (b++[x]):=by
 induction b with
 | nil=>simp only [List.nil_append,wH];exact ⟨g,trivial⟩
 | cons y b ih=>simp only [List.cons_append,wH] at h ⊢;exact ⟨h.1,ih h.2⟩
theorem agQ {L:List Str} {b:List Stm} {x:Stm} (h:dI L b) (g:x.nmIn L):dI L (b++[x]):=by
 induction b with
 | nil=>simp only [List.nil_append,dI];exact ⟨g,trivial⟩
 | cons y b ih=>simp only [List.cons_append,dI] at h ⊢;exact ⟨h.1,ih h.2⟩
theorem cM.snoc {H:Hp} {vs:List V} {ms:List Stm} {v:V} {m:Stm} (h:cM H vs ms) (e:dJ H v m):cM H (vs++[v]) (ms++[m]):=by
 induction ms generalizing vs with
 | nil=>cases h;exact .cons e .nil
 | cons m ms ih =>
  cases h with
  | cons a b=>exact .cons a (ih b)
theorem Fit.slp {wt:Bool} {S:Pu} {N:Nat} (F:Fit wt S N) (x:Slp) (h1:∀ k,x≠.hear k) (h2:∀ ts,x≠.wait ts):Fit wt {S with sl:=x,pend:=[]} N :=
 ⟨F.nm,F.md,Nat.zero_le _,F.an,F.lt,F.lw,F.pl,F.nw,F.sk,fun k e=>absurd e (h1 k),fun ts e=>absurd e (h2 ts)⟩
theorem k6 {wt:Bool}:∀(n:Nat) {S:Pu} {N:Nat},Fit wt S N->S.sl=.non->N+n<=900000->Fit wt (gY n S).1 (N+n)
 | 0,S,N,F,h,_=>by
  cases e:stand S.come.stk with
  | none=>rw [dA e];exact (F.come h).slp _ (fun _ z=>by cases z) (fun _ z=>by cases z)
  | some m=>rw [gP e];exact (F.come h).slp _ (fun _ z=>by cases z) (fun _ z=>by cases z)
 | n+1,S,N,F,h,hN=>by
  cases e:stand S.come.stk with
  | none=>rw [dA e];exact ((F.come h).slp _ (fun _ z=>by cases z) (fun _ z=>by cases z)).more (by omega)
  | some m =>
   have F1:=(F.come h).one e h (by omega);cases z:(one S.come m).1.sl.isN with
   | true =>
    rw [lR e z];exact (k6 n F1 (wN z) (by omega)).more (by omega)
   | false=>rw [gM e z];exact F1.more (by omega)
theorem Fit.takeDon {wt:Bool} {S:Pu} {N:Nat} (F:Fit wt S N) {m i:Int} {w:Wo} (hm:0<=m/\m<=1000000000000) (hw:cV w) (hi:cV (some i)) (hN:N<=800000):Fit wt (S.take (.don m i w)).1 (N+302):=by
 have F1:=F.at' hm;have F2:=F1.done (i:=i) hw;unfold Pu.take;split
 ·exact F.more (by omega)
 show Fit wt ((S.at' m).takeD i w).1 (N+302);unfold Pu.takeD;split
 ·split
  ·unfold Pu.wake;split
   ·next e=>exact (k6 300 (F2.wake e hi _) rfl (by omega)).more (by omega)
   ·next e=>exact (k6 300 (F2.wake e hi _) rfl (by omega)).more (by omega)
   ·exact F2.more (by omega)
  ·exact F2.more (by omega)
 ·exact F2.more (by omega)
theorem Fit.takeAny {wt:Bool} {S:Pu} {N:Nat} (F:Fit wt S N) (h:Hap) (hm:0<=h.m/\h.m<=1000000000000) (hw:cV h.w) (hi:∀ i∈S.pend,cV (some i)) (hN:N<=800000):Fit wt (S.take h).1 (N+302):=by
 cases h with
 | beg m w =>
  unfold Pu.take;split
  ·exact F.more (by omega)
  have F1:=F.at' hm;have F2:Fit wt {S with nw:=later S.nw m,ar:=w,sl:=.non} N:=⟨F1.nm,F1.md,F1.pd,F1.an,F1.lt,F1.lw,⟨F1.pl.nm,hw,F1.pl.an⟩,F1.nw,F1.sk,fun k e=>(by cases e),fun k e=>(by cases e)⟩;exact (k6 300 F2 rfl (by omega)).more (by omega)
 | don m i w =>
  by_cases hp:i∈S.pend
  ·exact F.takeDon hm hw (hi i hp) hN
  ·have F1:=F.at' hm;unfold Pu.take;split
   ·exact F.more (by omega)
   ·next ho =>
    have F2:=F1.done (i:=i) hw;show Fit wt ((S.at' m).takeD i w).1 (N+302);exfalso;refine ho ?_;unfold Pu.over;cases S.sl<;>simp [hp]
 | ltr m k w =>
  have F1:=F.at' hm;unfold Pu.take;split
  ·exact F.more (by omega)
  show Fit wt ((S.at' m).takeL k w).1 (N+302);unfold Pu.takeL;split
  ·split
   ·unfold Pu.wake;split
    ·next e=>exact (k6 300 (F1.wake e hw _) rfl (by omega)).more (by omega)
    ·next e=>exact (k6 300 (F1.wake e hw _) rfl (by omega)).more (by omega)
    ·exact F1.more (by omega)
   ·exact (F1.gI hw).more (by omega)
  ·exact (F1.gI hw).more (by omega)
inductive eO (H:Hp):List V->List Hap->Prop
 | nil:eO H [] []
 | cons {v:V} {vs:List V} {h:Hap} {hs:List Hap}:u6 H v h->eO H vs hs->eO H (v::vs) (h::hs)
theorem apF {H H':Hp} {v:V} {h:Hap} (x:u6 H v h) (k:aP H H'):u6 H' v h:=by
 obtain ⟨a,e,f⟩:=x;exact ⟨a,e,k _ _ f⟩
theorem eO.kt {H H':Hp} {vs:List V} {hs:List Hap} (h:eO H vs hs) (k:aP H H'):eO H' vs hs:=by
 induction h with
 | nil=>exact .nil
 | cons a _ ih=>exact .cons (apF a k) ih
theorem eO.len {H:Hp} {vs:List V} {hs:List Hap} (h:eO H vs hs):vs.length=hs.length:=by
 induction h with
 | nil=>rfl
 | cons _ _ ih=>simp [ih]
theorem sB:∀(n:Nat) (S:Pu),(gY n S).1.sl.isN=false
 | 0,S=>by
  cases e:stand S.come.stk with
  | none=>rw [dA e];rfl
  | some m=>rw [gP e];rfl
 | n+1,S=>by
  cases e:stand S.come.stk with
  | none=>rw [dA e];rfl
  | some m =>
   cases z:(one S.come m).1.sl.isN with
   | true=>rw [lR e z];exact sB n _
   | false=>rw [gM e z];exact z
theorem ae7 {S:Pu} (h:S.sl.isN=false) (w:Wo):(S.wake w).1.sl.isN=false:=by
 unfold Pu.wake;split
 ·exact sB _ _
 ·exact sB _ _
 ·exact h
theorem aoH {S:Pu} (h:S.sl.isN=false) (x:Hap):(S.take x).1.sl.isN=false:=by
 unfold Pu.take;split
 ·exact h
 cases x with
 | beg m w=>exact sB _ _
 | don m i w =>
  show ((S.at' m).takeD i w).1.sl.isN=false;unfold Pu.takeD;split
  ·split
   ·exact ae7 (show ((S.at' m).done i w).sl.isN=false from h) _
   ·exact h
  ·exact h
 | ltr m k w =>
  show ((S.at' m).takeL k w).1.sl.isN=false;unfold Pu.takeL;split
  ·split
   ·exact ae7 (show (S.at' m).sl.isN=false from h) _
   ·exact h
  ·exact h
noncomputable def takes:Pu->List Hap->Pu×List Cmds
 | S,[]=>(S,[])
 | S,h::r=>((takes (S.take h).1 r).1,(S.take h).2::(takes (S.take h).1 r).2)
noncomputable def Hap.fine (h:Hap):Prop:=(0<=h.m/\h.m<=1000000000000)/\cV h.w
theorem eO.kC {H:Hp} {vs:List V} {hs:List Hap} (h:eO H vs hs):∀ {i:Nat} {v:V},vs[i]?=some v->∃ x,hs[i]?=some x/\u6 H v x:=by
 induction h with
 | nil=>intro i v e;simp at e
 | cons a _ ih =>
  intro i v e;cases i with
  | zero=>simp only [List.getElem?_cons_zero,Option.some.injEq] at e;subst e;exact ⟨_,rfl,a⟩
  | succ i=>exact ih (by simpa using e)
theorem _root_.L2.Kp.wasFree {H H':Hp} {p:Addr} (k:Kp [] H H') (h:H' p=none):H p=none:=by
 cases e:H p with
 | none=>rfl
 | some o=>rw [k.at e] at h;cases h
theorem amF (w:Wo):fA [] w=none:=by cases w<;>rfl
theorem asY {wt:Bool} {b:List Stm} (g:wH wt b) (d:dpL b<=20):Fit wt (pA b) 0 :=
 {nm:=Nat.le_refl _,md:=Nat.le_refl _,pd:=Nat.le_refl _,an:=Nat.le_refl _,lt:=Nat.le_refl _,lw:=fun k ws h=>(by cases h)
  pl:=⟨fun _=>gZ,gZ,fun w=>(by show cV (fA [] w);rw [amF];exact gZ)⟩
  nw:=⟨Int.le_refl _,by show (0:Int)<=1000000000000;decide⟩
  sk:=⟨⟨Nat.zero_le _,by simp⟩,fun x hx=>(by rw [show x=(0,b,0) by simpa [pA] using hx];exact g),⟨by simpa using d,trivial⟩⟩
  sl:=⟨fun k e=>(by cases e),fun k e=>(by cases e)⟩}
theorem kJ.kt {H H':Hp} {v:V} {S:Pu} (h:kJ H v S) (k:aP H H'):kJ H' v S:=by
 unfold kJ at *;split at h
 ·next hg =>
  rw [if_pos hg];obtain ⟨p,pl,pn,po,pa,pt,sl,un,ua,ut,e,a1,a2,a3,a4,a5,a6,a7,a8,a9,a10⟩:=h;exact ⟨p,pl,pn,po,pa,pt,sl,un,ua,ut,e,k _ _ a1,a2.kt k,k _ _ a3,k _ _ a4,a5.kt k,k _ _ a6,k _ _ a7,a8.kt k,k _ _ a9,a10.kt k⟩
 ·next hg =>
  rw [if_neg hg];exact h.kt k
theorem ajP {K:PySem.W.Frag} {H:Hp} {n:Nat} {a b:Addr} {xs ys:List V} (ha:H a=some (.tup xs)) (hb:H b=some (.tup ys)) (hl:xs.length=ys.length) (h:∀(j:Nat) x y,xs[j]?=some x->ys[j]?=some y->EqA K H n x y true):EqA K H (n+1) (.ref a) (.ref b) true:=by
 by_cases hab:a=b
 ·subst hab;exact .same
 ·refine .refs hab ?_;have:=vO.tup (K:=K) (H:=H) (n:=n) (e:=fun _=>true) (dF.of ha) (dF.of hb) h
  rwa [show ((List.range (min xs.length ys.length)).all (fun _=>true) && xs.length == ys.length)=true by simp [hl]] at this
theorem aqO {K:PySem.W.Frag} {H:Hp} {n:Nat} {a b:Addr} {xs ys:List V} (ha:H a=some (.lst xs)) (hb:H b=some (.lst ys)) (hl:xs.length=ys.length) (h:∀(j:Nat) x y,xs[j]?=some x->ys[j]?=some y->EqA K H n x y true):vO K H (n+1) a b true:=by
 have:=vO.list (K:=K) (H:=H) (n:=n) (e:=fun _=>true) (eZ.of ha) (eZ.of hb) hl h
 rwa [show (List.range xs.length).all (fun _=>true)=true by simp] at this
theorem agI {K:PySem.W.Frag} {H:Hp} {n:Nat} {x:V} (h:dR x=true) (e:qU x x=true):EqA K H n x x true:=by
 have:=EqA.flat (K:=K) (H:=H) (n:=n) h h
 rwa [e] at this
noncomputable def vL (cs:Cmds):Prop:=∀ c∈cs,∀ v∈c,dR v=true/\qU v v=true
theorem ax8 {K:PySem.W.Frag} {H:Hp} {n:Nat} {us vs:List V} {cs:Cmds} (h:eT H us cs) (g:eT H vs cs) (f:vL cs):∀(j:Nat) x y,us[j]?=some x->vs[j]?=some y->EqA K H (n+1) x y true:=fun j x y e1 e2=>by
 obtain ⟨a,c,rfl,e3,ha⟩:=h.at e1;obtain ⟨b,c',rfl,e4,hb⟩:=g.at e2;rw [e3] at e4;cases e4;refine ajP ha hb rfl fun i v w e5 e6=>?_;rw [e5] at e6;cases e6;have:=f c (List.mem_of_getElem? e3) v (List.mem_of_getElem? e5);exact agI this.1 this.2
theorem eO.snoc {H:Hp} {vs:List V} {hs:List Hap} {v:V} {h:Hap} (x:eO H vs hs) (a:u6 H v h):eO H (vs++[v]) (hs++[h]):=by
 induction x with
 | nil=>exact .cons a .nil
 | cons b _ ih=>exact .cons b ih
noncomputable def okV (v:V):Prop:=dR v=true/\qU v v=true
theorem cA (x:Str):okV (.str x):=⟨rfl,by simp [aj5]⟩
theorem gT (i:Int):okV (.int i):=⟨rfl,by simp [arZ]⟩
theorem gJ (w:Wo):okV (wv w):=by
 cases w with
 | none=>exact ⟨rfl,rfl⟩
 | some i=>exact gT i
structure kP (K:PySem.W.Frag) (H:Hp) (n:Nat) (xs ys:List V):Prop where
 len:xs.length=ys.length
 at':∀(j:Nat) x y,xs[j]?=some x->ys[j]?=some y->EqA K H n x y true
section
variable {K:PySem.W.Frag} {H:Hp} {n:Nat} {a b:Addr} {x y:V} {xs ys us vs:List V}
theorem kP.nil:kP K H n [] []:=⟨rfl,fun j x y e=>by simp at e⟩
theorem kP.cons (h:EqA K H n x y true) (t:kP K H n xs ys):kP K H n (x::xs) (y::ys):=⟨by simp [t.len],fun j u v e1 e2=>by
 cases j with
 | zero =>
  simp only [List.getElem?_cons_zero,Option.some.injEq] at e1 e2;subst e1 e2;exact h
 | succ j=>exact t.at' j u v (by simpa using e1) (by simpa using e2)⟩
theorem okV.eq (h:okV x):EqA K H n x x true:=agI h.1 h.2
theorem kP.refl (h:∀ v∈xs,okV v):kP K H n xs xs:=⟨rfl,fun j u v e1 e2=>by
 rw [e1] at e2;cases e2;exact (h u (List.mem_of_getElem? e1)).eq⟩
theorem kP.tup (h:kP K H n xs ys) (ha:H a=some (.tup xs)) (hb:H b=some (.tup ys)):EqA K H (n+1) (.ref a) (.ref b) true:=ajP ha hb h.len h.at'
theorem kP.rcL (h:kP K H n xs ys) (ha:H a=some (.lst xs)) (hb:H b=some (.lst ys)):vO K H (n+1) a b true:=aqO ha hb h.len h.at'
theorem kP.rcT (h:kP K H n xs ys) (ha:H a=some (.tup xs)) (hb:H b=some (.tup ys)):vO K H (n+1) a b true:=by
 have:=vO.tup (K:=K) (H:=H) (n:=n) (e:=fun _=>true) (dF.of ha) (dF.of hb) h.at'
 rwa [show ((List.range (min xs.length ys.length)).all (fun _=>true) && xs.length == ys.length)=true by simp [h.len]] at this
theorem axN {cs:Cmds} (h:eT H us cs) (g:eT H vs cs) (f:vL cs):kP K H (n+1) us vs:=⟨by rw [h.len,g.len],ax8 h g f⟩
theorem ajJ {ps:List (V×V)} (h:dY H us ps) (g:dY H vs ps) (f:∀ p∈ps,okV p.1/\okV p.2):kP K H (n+1) us vs:=by
 induction h generalizing vs with
 | nil=>cases g;exact .nil
 | @cons a x y us ps e _ ih =>
  cases g with
  | cons e2 g =>
   have:=f (x,y) (by simp);exact .cons (kP.tup (.cons this.1.eq (.cons this.2.eq .nil)) e e2) (ih g fun p hp=>f p (List.mem_cons_of_mem _ hp))
theorem aq9 {ps:List (Str×List Wo)} (h:gG H us ps) (g:gG H vs ps):kP K H (n+2) us vs:=by
 induction h generalizing vs with
 | nil=>cases g;exact .nil
 | @cons a b k ws us ps e e' _ ih =>
  cases g with
  | cons e2 e2' g =>
   refine .cons (kP.tup (.cons (cA k).eq (.cons (kP.tup (kP.refl fun v hv=>?_) e' e2') .nil)) e e2) (ih g);obtain ⟨w,_,rfl⟩:=List.mem_map.mp hv;exact gJ w
theorem rH (ts:List Int):∀ v∈ts.map V.int,okV v:=fun v hv=>by
 obtain ⟨i,_,rfl⟩:=List.mem_map.mp hv;exact gT i
theorem avE {s:Slp} (h:fU H x s) (g:fU H y s):EqA K H (n+2) x y true:=by
 cases s with
 | non =>
  rw [show x=.non from h,show y=.non from g];exact (show okV .non from ⟨rfl,rfl⟩).eq
 | new =>
  obtain ⟨p,rfl,e⟩:=h;obtain ⟨p2,rfl,e2⟩:=g;exact kP.tup (.cons (cA _).eq .nil) e e2
 | wait ts =>
  obtain ⟨p,p2,rfl,e,f⟩:=h;obtain ⟨q,q2,rfl,e2,f2⟩:=g;exact kP.tup (.cons (cA _).eq (.cons (kP.tup (kP.refl (rH ts)) f f2) .nil)) e e2
 | hear k =>
  obtain ⟨p,rfl,e⟩:=h;obtain ⟨p2,rfl,e2⟩:=g;exact kP.tup (.cons (cA _).eq (.cons (cA _).eq .nil)) e e2
 | ended w =>
  obtain ⟨p,rfl,e⟩:=h;obtain ⟨p2,rfl,e2⟩:=g;exact kP.tup (.cons (cA _).eq (.cons (gJ _).eq .nil)) e e2
 | worn =>
  obtain ⟨p,rfl,e⟩:=h;obtain ⟨p2,rfl,e2⟩:=g;exact kP.tup (.cons (cA _).eq .nil) e e2
theorem aaO (nm:List (Str×Wo)):∀(l:List Str),∀ p∈eK nm l,okV p.1/\okV p.2
 | [],p,h=>by simp [eK] at h
 | k::l,p,h=>by
  simp only [eK] at h;split at h
  ·exact aaO nm l p h
  ·rcases List.mem_cons.mp h with rfl | h
   ·exact ⟨cA _,gJ _⟩
   ·exact aaO nm l p h
end
theorem eE:vL []:=fun _ h=>by cases h
theorem alA {a b:Cmds} (h:vL a) (g:vL b):vL (a++b):=fun c hc=>by
 rcases List.mem_append.mp hc with hc | hc
 ·exact h c hc
 ·exact g c hc
theorem eU {c:List V} (h:∀ v∈c,okV v):vL [c]:=fun x hx=>by
 rw [show x=c by simpa using hx];exact h
noncomputable def okC (m:Nat) (cs:Cmds):Prop:=vL cs/\cs.length<=m
theorem aqC (S:Pu) (m:Stm):okC 1 (deed S m).2:=by
 refine ⟨?_,agK S m⟩;cases m with
 | set x s=>exact eE
 | order x y s=>exact eU (by simp only [List.forall_mem_cons];exact ⟨cA _,gT _,cA _,gJ _,by simp⟩)
 | child x y s=>exact eU (by simp only [List.forall_mem_cons];exact ⟨cA _,gT _,cA _,gJ _,by simp⟩)
 | timer x s=>exact eU (by simp only [List.forall_mem_cons];exact ⟨cA _,gT _,gT _,by simp⟩)
 | send s k r=>exact eU (by simp only [List.forall_mem_cons];exact ⟨cA _,gJ _,cA _,gJ _,by simp⟩)
 | drop s =>
  simp only [Own.deed];split
  ·split
   ·exact eU (by simp only [List.forall_mem_cons];exact ⟨cA _,gT _,by simp⟩)
   ·exact eE
  ·exact eE
 | hear x k =>
  simp only [Own.deed];split<;>exact eE
 | wait x ss =>
  simp only [Own.deed];split<;>exact eE
 | fin s=>exact eU (by simp only [List.forall_mem_cons];exact ⟨cA _,gJ _,by simp⟩)
 | whl s b=>exact eE
 | iff s b o=>exact eE
theorem arP (S:Pu) (m:Stm):okC 1 (one S m).2:=by
 unfold one;split
 ·exact ⟨eE,by simp⟩
 ·exact aqC S m
theorem qY:∀(n:Nat) (S:Pu),okC (n+1) (gY n S).2
 | 0,S=>by
  cases e:stand S.come.stk with
  | none=>rw [dA e];exact ⟨eU (by simp only [List.forall_mem_cons];exact ⟨cA _,gJ _,by simp⟩),by simp [Pu.ends]⟩
  | some m=>rw [gP e];exact ⟨eU (by simp only [List.forall_mem_cons];exact ⟨cA _,by simp⟩),by simp [Pu.wears]⟩
 | n+1,S=>by
  cases e:stand S.come.stk with
  | none=>rw [dA e];exact ⟨eU (by simp only [List.forall_mem_cons];exact ⟨cA _,gJ _,by simp⟩),by simp [Pu.ends]⟩
  | some m =>
   have h1:=arP S.come m;cases z:(one S.come m).1.sl.isN with
   | true =>
    rw [lR e z];have h2:=qY n (one S.come m).1;exact ⟨alA h1.1 h2.1,by simp only [List.length_append];have:=h1.2;have:=h2.2;omega⟩
   | false=>rw [gM e z];exact ⟨h1.1,by have:=h1.2;omega⟩
theorem ae2 (S:Pu) (w:Wo):okC 301 (S.wake w).2:=by
 unfold Pu.wake;split
 ·exact qY 300 _
 ·exact qY 300 _
 ·exact ⟨eE,by simp⟩
theorem apJ (S:Pu) (x:Hap):okC 301 (S.take x).2:=by
 have nl:okC 301 []:=⟨eE,by simp⟩;unfold Pu.take;split
 ·exact nl
 cases x with
 | beg m w=>exact qY 300 _
 | don m i w =>
  show okC 301 ((S.at' m).takeD i w).2;unfold Pu.takeD;split
  ·split
   ·exact ae2 _ _
   ·exact nl
  ·exact nl
 | ltr m k w =>
  show okC 301 ((S.at' m).takeL k w).2;unfold Pu.takeL;split
  ·split
   ·exact ae2 _ _
   ·exact nl
  ·exact nl
noncomputable def Hap.inK (h:Hap):Prop:=h.fine/\∀ m k w,h=.ltr m k w->k∈KY3
theorem avJ {b:List Stm} (h:dI NM4 b):eN NM4 (pA b):=⟨by simp [pA],by simp [pA],fun x hx=>by rw [show x=(0,b,0) by simpa [pA] using hx];exact h⟩
theorem ax2 {b:List Stm}:fJ KY3 (pA b):=⟨by simp [pA],by simp [pA]⟩
structure Fine (S:Pu) (N:Nat):Prop where
 fit:Fit true S N
 isN:S.sl.isN=false
 nm:eN NM4 S
 lt:fJ KY3 S
theorem bB.wkNot {C:Cl} {H:Hp} {R R':Rn} {as as':List Addr} {sl sl':V} {S S':Pu} (A:bB C H R as sl S) (B:bB C H R' as' sl' S'):R'.wk∉R.cells/\R'.wk∉as:=by
 obtain ⟨kvs,e,L⟩:=A.lt;obtain ⟨vs,el,_⟩:=A.wk.bl;have w:=B.wk.ins;refine ⟨fun h=>?_,fun h=>?_⟩
 ·simp only [Rn.cells,List.mem_cons,List.not_mem_nil,or_false] at h;rcases h with h | h | h | h | h | h | h | h<;>rw [h] at w
  ·rw [A.ins] at w;simp at w
  ·rw [el] at w;cases w
  ·rw [A.wk.nu] at w;cases w
  ·rw [A.nm] at w;cases w
  ·rw [A.tk.ins] at w;simp at w
  ·rw [A.tk.hp] at w;cases w
  ·rw [A.tk.ha] at w;cases w
  ·rw [e] at w;cases w
 ·obtain ⟨xs,ex⟩:=L.ex _ h;rw [ex] at w;cases w
structure Two (C:Cl) (G:Hp) (R1 R2:Rn) (as1 as2:List Addr) (sl1 sl2:V) (S1 S2:Pu) (L:List Addr):Prop where
 a1:bB C G R1 as1 sl1 S1
 a2:bB C G R2 as2 sl2 S2
 dis:∀ a,a∈R1.cells\/a∈as1->a∉R2.cells/\a∉as2
 sf:∀ a∈L,(∃ o,G a=some o)/\(a∉R1.cells/\a∉as1)/\a∉R2.cells/\a∉as2
section
variable {C:Cl} {G G':Hp} {R1 R2:Rn} {as1 as2 as':List Addr} {sl1 sl2 sl':V} {S1 S2 S':Pu} {L:List Addr}
theorem Two.symm (h:Two C G R1 R2 as1 as2 sl1 sl2 S1 S2 L):Two C G R2 R1 as2 as1 sl2 sl1 S2 S1 L :=
 ⟨h.a2,h.a1,fun a ha=>⟨fun z=>by rcases ha with y | y;exact (h.dis a (.inl z)).1 y;exact (h.dis a (.inl z)).2 y,fun z=>by rcases ha with y | y;exact (h.dis a (.inr z)).1 y;exact (h.dis a (.inr z)).2 y⟩,fun a ha=>⟨(h.sf a ha).1,(h.sf a ha).2.2,(h.sf a ha).2.1⟩⟩
theorem Two.keep (h:Two C G R1 R2 as1 as2 sl1 sl2 S1 S2 L) (F:Fw R1 as1 as' G G'):∀ a∈L,∀ o,G a=some o->G' a=some o:=fun a ha o e=>F.kp a o e (h.sf a ha).2.1.1 (h.sf a ha).2.1.2
theorem Two.step (h:Two C G R1 R2 as1 as2 sl1 sl2 S1 S2 L) (F:Fw R1 as1 as' G G') (A:bB C G' R1 as' sl' S'):Two C G' R1 R2 as' as2 sl' sl2 S' S2 L:=by
 have d:=h.symm.dis;refine ⟨A,h.a2.keep (fun b o e hb=>?_) (h.a1.tkp F),fun a ha=>?_,fun a ha=>?_⟩
 ·rcases hb with rfl | hb
  ·exact F.kp _ o e (h.a1.wkNot h.a2).1 (h.a1.wkNot h.a2).2
  ·exact F.kp b o e (d b hb).1 (d b hb).2
 ·rcases ha with ha | ha
  ·exact h.dis a (.inl ha)
  ·rcases F.new a ha with z | z
   ·exact h.dis a (.inr z)
   ·exact h.a2.nofree z
 ·obtain ⟨⟨o,e⟩,n1,n2⟩:=h.sf a ha;refine ⟨⟨o,h.keep F a ha o e⟩,⟨n1.1,fun z=>?_⟩,n2⟩;rcases F.new a z with y | y
  ·exact n1.2 y
  ·rw [e] at y;cases y
theorem Two.kp (h:Two C G R1 R2 as1 as2 sl1 sl2 S1 S2 L) (k:Kp [] G G'):Two C G' R1 R2 as1 as2 sl1 sl2 S1 S2 L:=⟨h.a1.kp k,h.a2.kp k,h.dis,fun a ha=>by
 obtain ⟨⟨o,e⟩,n⟩:=h.sf a ha;exact ⟨⟨o,k.at e⟩,n⟩⟩
theorem Two.more {L':List Addr} {st:Addr} {o:HO} (h:Two C G R1 R2 as1 as2 sl1 sl2 S1 S2 L) (e:G st=some o) (n1:st∉R1.cells/\st∉as1) (n2:st∉R2.cells/\st∉as2) (sub:∀ a∈L',a=st\/a∈L):Two C G R1 R2 as1 as2 sl1 sl2 S1 S2 L':=⟨h.a1,h.a2,h.dis,fun a ha=>by
 rcases sub a ha with rfl | z
 ·exact ⟨⟨o,e⟩,n1,n2⟩
 ·exact h.sf a z⟩
variable {t2 x2 cl1 cl2 cl hl hd st:Addr} {rs1 rs2 rs3:List Addr} {hv hv':List V} {css:List Cmds}
variable {G0:Hp} {S:Pu} {i:Nat}
end
theorem Fine.args {S:Pu} {N:Nat} (h:Fine S N) (l:N<=900000):S.sl.isN=false/\S.pend.length<=1000000/\S.nm.length < 64/\S.lt.length < 64/\S.ans.length<=1000000/\(∀ k ws,cL S.lt k=some ws->ws.length<=1000000):=by
 have h1:=h.nm.len;have h2:=h.lt.len;have h3:NM4.length=4:=rfl;have h4:KY3.length=3:=rfl;have h5:=h.fit.pd;have h6:=h.fit.an;exact ⟨h.isN,by omega,by omega,by omega,by omega,fun k ws e=>by have:=h.fit.lw k ws e;omega⟩
theorem Fine.take {S:Pu} {N:Nat} (h:Fine S N) {x:Hap} (f:x.inK) (l:N<=400000) (hp:∀ j∈S.pend,cV (some j)):Fine (S.take x).1 (N+302):=⟨h.fit.takeAny x f.1.1 f.1.2 hp (by omega),aoH h.isN x,h.nm.take x,h.lt.take x f.2⟩
theorem Fine.pend {C:Cl} {H:Hp} {R:Rn} {as:List Addr} {sl:V} {S:Pu} {N:Nat} (h:Fine S N) (A:bB C H R as sl S) (l:N<=900000):∀ j∈S.pend,cV (some j):=fun j hj=>by
 have:=A.tk.lt j hj;have:=h.fit.md;exact fE (by omega) (by omega)
theorem akC (a b:Str):(a++b).length=a.length+b.length:=by
 show (a.cps++b.cps).size=_;rw [Array.size_append];rfl
noncomputable def tw:V->Str
 | .non=>"-"
 | .str x=>x
 | .int i=>Str.ofString (toString i)
 | _=>""
noncomputable def Tw:V->Prop
 | .non=>True
 | .str x=>x.length<=20
 | .int i=>-1000000000000<=i/\i<=1000000000000
 | _=>False
theorem tlen {n:Int} (h0:-1000000000000<=n) (h1:n<=1000000000000):(Str.ofString (toString n)).length<=20:=by
 rw [show (Str.ofString (toString n)).length=(toString n).length from PySem.ofString_length _];cases n with
 | ofNat m =>
  show (Nat.repr m).length<=20;have:(Nat.repr m).length<=19:=(Nat.length_repr_le_iff (by decide)).mpr (by have:(Int.ofNat m)=(m:Int):=rfl;omega);omega
 | negSucc m =>
  show ("-"++Nat.repr (m+1)).length<=20;have:(Nat.repr (m+1)).length<=19:=(Nat.length_repr_le_iff (by decide)).mpr (by
   have:Int.negSucc m = -((m:Int)+1):=by omega
   omega)
  rw [String.length_append];show 1+_<=20;omega
theorem tlog {n:Int} (h0:-1000000000000<=n) (h1:n<=1000000000000):n.natAbs.log2 < 1920:=by
 have h:n.natAbs < 2 ^ 1920:=Nat.lt_of_le_of_lt (show n.natAbs<=1000000000000 by omega) (Nat.lt_of_lt_of_le (show 1000000000000 < 2 ^ 40 by decide) (Nat.pow_le_pow_right (by decide) (by decide)));by_cases z:n.natAbs=0
 ·rw [z];decide
 ·exact (Nat.log2_lt z).mpr h
theorem Tw.len {v:V} (h:Tw v):(tw v).length<=20:=by
 cases v with
 | non=>exact by decide +kernel
 | str x=>exact h
 | int i=>exact tlen h.1 h.2
 | _=>exact h.elim
theorem zL {w:Wo} (h:cV w):Tw (wv w):=by
 cases w with
 | none=>trivial
 | some n=>have:=h n rfl;exact ⟨by omega,by omega⟩
theorem aqG {B:Nat}:∀ {ys:List Str},(∀ y∈ys,y.length<=B)->(ys.map fun z=>z.length).sum<=B * ys.length
 | [],_=>by simp
 | y::ys,h=>by
  have h1:=aqG (ys:=ys) fun z hz=>h z (List.mem_cons_of_mem _ hz);have h2:=h y (by simp);simp only [List.map_cons,List.sum_cons,List.length_cons,Nat.mul_add,Nat.mul_one];omega
theorem afK (g:Str):∀ ys:List Str,(Txt.join g ys).length<=(ys.map fun z=>z.length).sum+ys.length * g.length:=by
 have f:∀(l:List Str) (a:Array Nat),(List.foldl (fun acc (p:Str)=>acc++g.cps++p.cps) a l).size=a.size+(l.map fun z=>z.length).sum+l.length * g.length:=by
  intro l
  induction l with
  | nil=>intro a;simp
  | cons y l ih =>
   intro a;rw [List.foldl_cons,ih];simp only [Array.size_append,List.map_cons,List.sum_cons,List.length_cons,Nat.succ_mul];have h1:g.length=g.cps.size:=rfl;have h2:y.length=y.cps.size:=rfl;omega
 intro ys;cases ys with
 | nil=>exact Nat.zero_le _
 | cons y l =>
  have h:=f l y.cps;show (List.foldl (fun acc (p:Str)=>acc++g.cps++p.cps) y.cps l).size<=_;rw [h];have h2:y.length=y.cps.size:=rfl;simp only [List.map_cons,List.sum_cons,List.length_cons,Nat.succ_mul];omega
theorem jlens:(" ":Str).length=1/\("\n":Str).length=1/\("":Str).length=0:=by decide +kernel
noncomputable def aAH:Sp:=fun vs H Q _=>∃ v:V,vs=[v]/\Tw v/\Q (.str (tw v)) H
theorem aCD {v:V} {H:Hp} {Q:VK} {E:XK}:aAH [v] H Q E=(Tw v/\Q (.str (tw v)) H):=propext ⟨fun ⟨_,e,h⟩=>by cases e;exact h,fun h=>⟨_,rfl,h⟩⟩
noncomputable def aAR:Sp:=fun vs H Q _=>∃ w:Wo,vs=[wv w]/\cV w/\Q (.str (tw (wv w))) H
theorem cR {α:Type} {l:List α} {i:Nat} {y:α} (h:l[i]?=some y):l.take (i+1)=l.take i++[y]:=by rw [List.take_add_one,h];rfl
theorem aCF {w:Wo} {H:Hp} {Q:VK} {E:XK}:aAR [wv w] H Q E=(cV w/\Q (.str (tw (wv w))) H):=propext ⟨fun ⟨u,e,h⟩=>by
 have:w=u:=by
  cases w<;>cases u<;>simp_all [wv]
 rw [this];exact h,fun h=>⟨_,rfl,h⟩⟩
noncomputable def al0 (r:List V):Str:=Txt.join " " (r.map tw)
noncomputable def j6 (r:List V):Str:=al0 r++"\n"
noncomputable def akJ (rs:List (List V)):Str:=Txt.join "" (rs.map j6)
noncomputable def Trow (r:List V):Prop:=(∀ v∈r,Tw v)/\r.length<=300
theorem aeN {r:List V} (h:Trow r):(al0 r).length<=21 * r.length:=by
 have h1:=afK " " (r.map tw);have h2:=aqG (B:=20) (ys:=r.map tw) fun y hy=>by
  obtain ⟨v,hv,rfl⟩:=List.mem_map.mp hy;exact (h.1 v hv).len
 rw [jlens.1,List.length_map] at h1;rw [List.length_map] at h2;unfold al0;omega
noncomputable def wds (rs:List (List V)):Nat:=(rs.map List.length).sum
theorem aqI (a b:List (List V)):wds (a++b)=wds a+wds b:=by simp [wds]
theorem zY {B:Nat} {rs:List (List V)} (h:∀ r∈rs,r.length<=B):wds rs<=B * rs.length:=by
 induction rs with
 | nil=>simp [wds]
 | cons r rs ih =>
  have h1:=ih fun x hx=>h x (List.mem_cons_of_mem _ hx);have h2:=h r (by simp);simp only [wds,List.map_cons,List.sum_cons,List.length_cons,Nat.mul_add,Nat.mul_one] at *;omega
theorem acM {rs:List (List V)} (h:∀ r∈rs,Trow r):((rs.map j6).map fun z=>z.length).sum<=21 * wds rs+rs.length:=by
 induction rs with
 | nil=>simp [wds]
 | cons r rs ih =>
  have h1:=ih fun x hx=>h x (List.mem_cons_of_mem _ hx);have h2:=aeN (h r (by simp));have h3:(j6 r).length=(al0 r).length+1:=by
   unfold j6;rw [akC,jlens.2.1]
  simp only [wds,List.map_cons,List.sum_cons,List.length_cons,Nat.mul_add] at *;omega
noncomputable def auV:Sp:=fun vs H Q _=>∃(a:Addr) (r:List V),vs=[.ref a]/\H a=some (.tup r)/\Trow r/\∀ H',Kp [] H H'->Q (.str (al0 r)) H'
noncomputable def arK:Sp:=fun vs H Q _=>∃(p:Addr) (us:List V) (rs:List (List V)),vs=[.ref p]/\H p=some (.lst us)/\eT H us rs/\(∀ r∈rs,Trow r)/\rs.length<=200000/\wds rs<=600000/\∀ H',Kp [] H H'->Q (.str (akJ rs)) H'
noncomputable def sD (p:Str×List Wo):List (List V):=p.2.map fun w=>[.str "letter",.str p.1,wv w]
noncomputable def dN (S:Pu) (mid:List (List V)):List (List V):=[.str "at"::(bG S.stk).map V.int]++mid++[[.str "now",.int S.nw],[.str "arg",wv S.ar]]++S.nmS.map (fun p=>[.str "name",p.1,p.2])++[[.str "made",.int S.made]]++S.pend.map (fun i=>[.str "open",.int i])++S.anS.map (fun p=>[.str "done",p.1,p.2])++S.ltS.flatMap sD
noncomputable def Pu.rowsS (S:Pu):List (List V):=match S.sl with
 | .wait ts=>dN S [.str "for"::ts.map V.int]
 | .hear _=>dN S []
 | .new=>[[.str "new"]]
 | .ended w=>[[.str "ended",wv w]]
 | .worn=>[[.str "worn"]]
 | .non=>[]
theorem dY.at' {H:Hp} {us:List V} {ps:List (V×V)} (h:dY H us ps):∀ {i:Nat} {v:V},us[i]?=some v->∃ a x y,v=.ref a/\ps[i]?=some (x,y)/\H a=some (.tup [x,y]):=by
 induction h with
 | nil=>intro i v e;simp at e
 | cons a _ ih =>
  intro i v e;cases i with
  | zero=>simp only [List.getElem?_cons_zero,Option.some.injEq] at e;subst e;exact ⟨_,_,_,rfl,rfl,a⟩
  | succ i=>exact ih (by simpa using e)
theorem gG.at' {H:Hp} {us:List V} {ps:List (Str×List Wo)} (h:gG H us ps):∀ {i:Nat} {v:V},us[i]?=some v->∃ a b k ws,v=.ref a/\ps[i]?=some (k,ws)/\H a=some (.tup [.str k,.ref b])/\H b=some (.tup (ws.map wv)):=by
 induction h with
 | nil=>intro i v e;simp at e
 | cons a b _ ih =>
  intro i v e;cases i with
  | zero=>simp only [List.getElem?_cons_zero,Option.some.injEq] at e;subst e;exact ⟨_,_,_,_,rfl,rfl,a,b⟩
  | succ i=>exact ih (by simpa using e)
structure RwL (H G:Hp) (l:Addr) (us:List V) (rs:List (List V)):Prop where
 k:Kp [] H G
 n:H l=none
 e:G l=some (.lst us)
 c:eT G us rs
theorem RwL.kp {H G G':Hp} {l:Addr} {us:List V} {rs:List (List V)} (h:RwL H G l us rs) (k:Kp [] G G'):RwL H G' l us rs:=⟨h.k.trans k,h.n,k.at h.e,h.c.kt (aP.nil k)⟩
theorem RwL.add {H G:Hp} {l:Addr} {us ws:List V} {rs nw:List (List V)} (h:RwL H G l us rs) (cn:eT G ws nw):RwL H (upd G l (.lst (us++ws))) l (us++ws) (rs++nw) :=
 ⟨fun b o e _=>by rw [aI (aL e h.n)];exact h.k.at e,h.n,aA,(h.c.app cn).kt (aP.setO h.e (by intro _ z;cases z))⟩
theorem eT.snoc1 {H:Hp} {us:List V} {cs:Cmds} {a:Addr} {c:List V} (h:eT H us cs) (e:H a=some (.tup c)):eT H (us++[.ref a]) (cs++[c]):=h.app (.cons e .nil)
theorem qE {B:Nat} {ps:List (Str×List Wo)} (h:∀ p∈ps,p.2.length<=B):(ps.flatMap sD).length<=B * ps.length:=by
 induction ps with
 | nil=>simp
 | cons p ps ih =>
  have h1:=ih fun x hx=>h x (List.mem_cons_of_mem _ hx);have h2:=h p (by simp);simp only [List.flatMap_cons,List.length_append,sD,List.length_map,List.length_cons,Nat.mul_add,Nat.mul_one] at *;omega
structure Few (S:Pu):Prop where
 pd:S.pend.length<=100000
 an:S.ans.length<=100000
 nm:S.nm.length < 64
 lt:S.lt.length < 16
 lw:∀ p∈S.ltS,p.2.length<=100000
 ls:S.ltS.length < 16
 ns:S.nmS.length < 64
 nu:(bG S.stk).length<=200
 ts:∀ ts,S.sl=.wait ts->ts.length<=4
noncomputable def aCG:Sp:=fun vs H Q _=>∃(v:V) (S:Pu),vs=[v]/\kJ H v S/\S.sl.isN=false/\Few S/\∀(l:Addr) (us:List V) (H':Hp),H' l=some (.lst us)->eT H' us S.rowsS->Kp [] H H'->Q (.ref l) H'
theorem kJ.short {H:Hp} {v:V} {S:Pu} (h:kJ H v S) (hg:S.sl.going=false) (hn:S.sl.isN=false):∃(p:Addr) (s0:Str) (r0:List V),v=.ref p/\H p=some (.tup (.str s0::r0))/\u0 (.str s0) [.str "new",.str "ended",.str "worn"]=true/\S.rowsS=[.str s0::r0]:=by
 unfold kJ at h;rw [if_neg (by rw [hg];simp)] at h;unfold Pu.rowsS;cases e:S.sl with
 | non=>rw [e] at hn;cases hn
 | wait ts=>rw [e] at hg;cases hg
 | hear k=>rw [e] at hg;cases hg
 | new=>rw [e] at h;obtain ⟨p,rfl,e⟩:=h;exact ⟨p,_,_,rfl,e,by simp [u0,qU,e9],rfl⟩
 | ended w=>rw [e] at h;obtain ⟨p,rfl,e⟩:=h;exact ⟨p,_,_,rfl,e,by simp [u0,qU,e9],rfl⟩
 | worn=>rw [e] at h;obtain ⟨p,rfl,e⟩:=h;exact ⟨p,_,_,rfl,e,by simp [u0,qU,e9],rfl⟩
structure asF (H:Hp) (S:Pu) (p ps pl pn po pa pt:Addr) (un ua ut:List V):Prop where
 a1:H p=some (.tup [.ref ps,.ref pl,wv S.ar,.int S.nw,.ref pn,.int S.made,.ref po,.ref pa,.ref pt])
 a2:fU H (.ref ps) S.sl
 a3:H pl=some (.tup ((bG S.stk).map V.int))
 a4:H pn=some (.tup un)
 a5:dY H un S.nmS
 a6:H po=some (.tup (S.pend.map V.int))
 a7:H pa=some (.tup ua)
 a8:dY H ua S.anS
 a9:H pt=some (.tup ut)
 a10:gG H ut S.ltS
theorem kJ.go {H:Hp} {v:V} {S:Pu} (h:kJ H v S) (hg:S.sl.going=true):∃(p ps pl pn po pa pt:Addr) (un ua ut:List V),v=.ref p/\asF H S p ps pl pn po pa pt un ua ut:=by
 unfold kJ at h;rw [if_pos hg] at h;obtain ⟨p,pl,pn,po,pa,pt,sl,un,ua,ut,rfl,a1,a2,a3,a4,a5,a6,a7,a8,a9,a10⟩:=h;obtain ⟨ps,rfl⟩:∃ ps,sl=.ref ps:=by
  cases e:S.sl<;>rw [e] at a2 hg
  ·cases hg
  ·cases hg
  ·obtain ⟨x,_,rfl,_⟩:=a2;exact ⟨x,rfl⟩
  ·obtain ⟨x,rfl,_⟩:=a2;exact ⟨x,rfl⟩
  ·cases hg
  ·cases hg
 exact ⟨p,ps,pl,pn,po,pa,pt,un,ua,ut,rfl,a1,a2,a3,a4,a5,a6,a7,a8,a9,a10⟩
theorem asF.kp {H H':Hp} {S:Pu} {p ps pl pn po pa pt:Addr} {un ua ut:List V} (h:asF H S p ps pl pn po pa pt un ua ut) (k:Kp [] H H'):asF H' S p ps pl pn po pa pt un ua ut :=
 have T:=aP.nil k
 ⟨k.at h.a1,h.a2.kt T,k.at h.a3,k.at h.a4,h.a5.kt T,k.at h.a6,k.at h.a7,h.a8.kt T,k.at h.a9,h.a10.kt T⟩
noncomputable def uU:Slp->List (List V)
 | .wait ts=>[.str "for"::ts.map V.int]
 | _=>[]
theorem af7 {S:Pu} (hg:S.sl.going=true):S.rowsS=dN S (uU S.sl):=by
 unfold Pu.rowsS uU;cases e:S.sl<;>first | rfl | (rw [e] at hg;cases hg)
theorem ag2 {H:Hp} {ps:Addr} {s:Slp} (h:fU H (.ref ps) s) (hg:s.going=true):(∃ ts p2,s=.wait ts/\H ps=some (.tup [.str "wait",.ref p2])/\H p2=some (.tup (ts.map V.int)))\/∃ k,s=.hear k/\H ps=some (.tup [.str "hear",.str k]):=by
 cases s with
 | wait ts=>obtain ⟨p,p2,e,a,b⟩:=h;cases e;exact .inl ⟨ts,p2,rfl,a,b⟩
 | hear k=>obtain ⟨p,e,a⟩:=h;cases e;exact .inr ⟨k,rfl,a⟩
 | _=>cases hg
theorem ajL {H:Hp} {ps:Addr} {s:Slp} (h:fU H (.ref ps) s) (hg:s.going=true):∃ w y,H ps=some (.tup [.str w,y])/\(decide (w=("wait":Str))=match s with | .wait _=>true | _=>false):=by
 rcases ag2 h hg with ⟨ts,p2,rfl,e,_⟩ | ⟨k,rfl,e⟩
 ·exact ⟨_,_,e,by simp⟩
 ·exact ⟨_,_,e,by simp [e9]⟩
noncomputable def Sw:V->Prop
 | .str x=>x.length<=20
 | .int i=>-1000000000000<=i/\i<=1000000000000
 | _=>False
noncomputable def Alike (r' r:List V):Prop:=r'.map tw=r.map tw/\(∀ v∈r',Sw v)/\r'.length<=300
theorem Sw.len {v:V} (h:Sw v):(tw v).length<=20:=by
 cases v with
 | str x=>exact h
 | int i=>exact tlen h.1 h.2
 | _=>exact h.elim
theorem aAY {w:Wo} (h:cV w):Sw (.str (tw (wv w))):=(zL h).len
inductive gC (H:Hp):List V->List (List V)->Prop
 | nil:gC H [] []
 | cons {a:Addr} {r' r:List V} {us:List V} {rs:List (List V)}:H a=some (.lst r')->Alike r' r->gC H us rs->gC H (.ref a::us) (r::rs)
theorem gC.keep {H H':Hp} {us:List V} {rs:List (List V)} (h:gC H us rs) (k:∀ a o,V.ref a∈us->H a=some o->H' a=some o):gC H' us rs:=by
 induction h with
 | nil=>exact .nil
 | cons e al _ ih=>exact .cons (k _ _ (by simp) e) al (ih fun a o ha=>k a o (List.mem_cons_of_mem _ ha))
theorem gC.kp {H H':Hp} {us:List V} {rs:List (List V)} (h:gC H us rs) (k:Kp [] H H'):gC H' us rs:=h.keep fun _ _ _ e=>k.at e
theorem gC.app {H:Hp} {us vs:List V} {ps qs:List (List V)} (h:gC H us ps) (g:gC H vs qs):gC H (us++vs) (ps++qs):=by
 induction h with
 | nil=>exact g
 | cons e al _ ih=>exact .cons e al ih
theorem gC.len {H:Hp} {us:List V} {rs:List (List V)} (h:gC H us rs):us.length=rs.length:=by
 induction h with
 | nil=>rfl
 | cons _ _ _ ih=>simp [ih]
theorem gC.there {H:Hp} {us:List V} {rs:List (List V)} (h:gC H us rs):∀ v∈us,∃ a o,v=.ref a/\H a=some o:=by
 induction h with
 | nil=>intro v hv;cases hv
 | cons e _ _ ih =>
  intro v hv;rcases List.mem_cons.mp hv with rfl | hv
  ·exact ⟨_,_,rfl,e⟩
  ·exact ih v hv
theorem gC.at' {H:Hp} {us:List V} {rs:List (List V)} (h:gC H us rs):∀ {i:Nat} {v:V},us[i]?=some v->∃ a r' r,v=.ref a/\rs[i]?=some r/\H a=some (.lst r')/\Alike r' r:=by
 induction h with
 | nil=>intro i v e;simp at e
 | cons x al _ ih =>
  intro i v e;cases i with
  | zero=>simp only [List.getElem?_cons_zero,Option.some.injEq] at e;subst e;exact ⟨_,_,_,rfl,rfl,x,al⟩
  | succ i=>exact ih (by simpa using e)
structure RwM (H G:Hp) (l:Addr) (us:List V) (rs:List (List V)):Prop where
 k:Kp [] H G
 n:H l=none
 e:G l=some (.lst us)
 c:gC G us rs
 ne:V.ref l∉us
theorem RwM.kp {H G G':Hp} {l:Addr} {us:List V} {rs:List (List V)} (h:RwM H G l us rs) (k:Kp [] G G'):RwM H G' l us rs:=⟨h.k.trans k,h.n,k.at h.e,h.c.kp k,h.ne⟩
theorem RwM.app {H G:Hp} {l a:Addr} {us r' r:List V} {rs:List (List V)} (h:RwM H G l us rs) (ea:G a=some (.lst r')) (na:a≠l) (al:Alike r' r):RwM H (upd G l (.lst (us++[.ref a]))) l (us++[.ref a]) (rs++[r]):=by
 have nn:V.ref l∉us++[.ref a]:=fun z=>by
  rcases List.mem_append.mp z with z | z
  ·exact h.ne z
  ·exact na (by simpa using z:l=a).symm
 exact ⟨fun b o e _=>by rw [aI (aL e h.n)];exact h.k.at e,h.n,aA,(h.c.app (.cons ea al .nil)).keep fun b o hb e=>by rw [aI (fun z=>nn (by rw [<- z];exact hb))];exact e,nn⟩
theorem RwM.cat {H G:Hp} {l l':Addr} {us ws:List V} {rs nw:List (List V)} (h:RwM H G l us rs) (g:gC G ws nw) (hl:G l'=none):RwM H (upd G l' (.lst (us++ws))) l' (us++ws) (rs++nw) :=
 ⟨h.k.trans (Kp.new hl),h.k.wasFree hl,aA,(h.c.app g).kp (Kp.new hl),fun z=>by
  obtain ⟨a,o,e1,e2⟩:=(h.c.app g).there _ z;cases e1;rw [hl] at e2;cases e2⟩
structure Wos (S:Pu):Prop where
 en:∀ w,S.sl=.ended w->cV w
 nm:∀ p∈S.nmS,∃ n w,p=(.str n,wv w)/\cV w
 an:∀ p∈S.ans,cV p.2
 lt:∀ p∈S.ltS,∀ w∈p.2,cV w
 ar:cV S.ar
theorem atT {v:V} (h:Tw v) (n:v≠.non):Sw v:=by
 cases v with
 | non=>exact absurd rfl n
 | str x=>exact h
 | int i=>exact h
 | _=>exact h.elim
theorem ay6 (w:Wo):tw (.str (tw (wv w)))=tw (wv w):=rfl
theorem Alike.refl {r:List V} (h:Trow r) (n:∀ v∈r,v≠.non):Alike r r:=⟨rfl,fun v hv=>atT (h.1 v hv) (n v hv),h.2⟩
theorem Alike.last {r:List V} {w:Wo} (h:Trow (r++[wv w])) (n:∀ v∈r,v≠.non) (hw:cV w):Alike (r++[.str (tw (wv w))]) (r++[wv w]):=⟨by simp only [List.map_append,List.map_cons,List.map_nil,ay6],fun v hv=>by
 rcases List.mem_append.mp hv with hv | hv
 ·exact atT (h.1 v (List.mem_append_left _ hv)) (n v hv)
 ·rw [show v=.str (tw (wv w)) by simpa using hv];exact aAY hw,by have:=h.2;simp only [List.length_append,List.length_cons,List.length_nil] at *;omega⟩
theorem cut6 (a b c d e f g h i:V):pQ [a,b,c,d,e,f,g,h,i] none (some 6)=[a,b,c,d,e,f]:=rfl
theorem cut3 (a b c d e f g h i:V):pQ [a,b,c,d,e,f,g,h,i] (some 6) none=[g,h,i]:=rfl
theorem atH (w:Wo):akJ [[.str "ended",wv w]]=("ended ":Str)++tw (wv w)++"\n":=by
 show (⟨(("ended":Str).cps++(" ":Str).cps++(tw (wv w)).cps)++("\n":Str).cps⟩:Str)=⟨(("ended ":Str).cps++(tw (wv w)).cps)++("\n":Str).cps⟩;rw [show ("ended":Str).cps++(" ":Str).cps=("ended ":Str).cps by decide +kernel]
theorem RwM.one {H G:Hp} {a l:Addr} {r' r:List V} (K:Kp [] H G) (ea:G a=some (.lst r')) (hl:G l=none) (al:Alike r' r):RwM H (upd G l (.lst [.ref a])) l [.ref a] [r] :=
 ⟨K.trans (Kp.new hl),K.wasFree hl,aA,.cons ((Kp.new (S:=[]) hl).at ea) al .nil,fun z=>by
  have:l=a:=by simpa using z
  rw [<- this,hl] at ea;cases ea⟩
theorem aj2 (ns:List Int):∀ v∈ns.map V.int,v≠.non:=fun v hv=>by
 obtain ⟨i,_,rfl⟩:=List.mem_map.mp hv;intro z;cases z
theorem ajZ {x:Str} {r:List V} (h:∀ v∈r,v≠.non):∀ v∈(.str x::r:List V),v≠.non:=fun v hv=>by
 rcases List.mem_cons.mp hv with rfl | hv
 ·intro z;cases z
 ·exact h v hv
theorem gC.snoc1 {H:Hp} {us:List V} {rs:List (List V)} {a:Addr} {r' r:List V} (h:gC H us rs) (e:H a=some (.lst r')) (al:Alike r' r):gC H (us++[.ref a]) (rs++[r]):=h.app (.cons e al .nil)
noncomputable def aBL:Sp:=fun vs H Q _=>∃(v:V) (S:Pu),vs=[v]/\kJ H v S/\S.sl.isN=false/\Few S/\(∀ r∈S.rowsS,Trow r)/\wds S.rowsS<=600000/\S.rowsS.length<=200000/\Wos S/\∀ H',Kp [] H H'->Q (.str (akJ S.rowsS)) H'
structure Txo (S:Pu):Prop where
 isN:S.sl.isN=false
 b1:S.pend.length<=1000000
 b2:S.nm.length < 64
 b3:S.lt.length < 64
 b4:S.ans.length<=1000000
 b5:∀ k ws,cL S.lt k=some ws->ws.length<=1000000
 few:Few S
 tr:∀ r∈S.rowsS,Trow r
 lw:wds S.rowsS<=600000
 lr:S.rowsS.length<=200000
 ws:Wos S
noncomputable def avW (C:Cl):Sp:=fun vs H Q _=>∃(R:Rn) (as:List Addr) (sl:V) (S:Pu),vs=[.ref R.x]/\bB C H R as sl S/\Txo S/\∀ H',Kp [] H H'->Q (.str (akJ S.rowsS)) H'
noncomputable def asS (C:Cl):Sp:=fun vs H Q _=>∃(R:Rn) (as:List Addr) (sl:V) (S:Pu),vs=[.ref R.x]/\bB C H R as sl S/\Txo S/\∀ H',Kp [] H H'->Q (.bl true) H'
structure c4 (S:Pu):Prop where
 pd:∀ i∈S.pend,0<=i/\i < (S.made:Int)
 ts:∀ ts,S.sl=.wait ts->ts.length<=4/\∀ i∈ts,0<=i/\i < (S.made:Int)
 an:∀ p∈S.ans,cV p.2
 st:∀ x∈S.stk,x.1<=1/\x.2.1.length<=8/\dI NM4 x.2.1
 en:∀ w,S.sl=.ended w->cV w
theorem c4.same {S T:Pu} (h:c4 S) (e1:T.pend=S.pend) (e2:T.made=S.made) (e3:T.ans=S.ans) (e4:T.stk=S.stk) (e5:T.sl=S.sl):c4 T:=⟨by rw [e1,e2];exact h.pd,by rw [e5,e2];exact h.ts,by rw [e3];exact h.an,by rw [e4];exact h.st,by rw [e5];exact h.en⟩
theorem c4.awake {S T:Pu} (h:c4 S) (e1:T.pend=S.pend) (e2:T.made=S.made) (e3:T.ans=S.ans) (e4:∀ x∈T.stk,x.1<=1/\x.2.1.length<=8/\dI NM4 x.2.1) (n1:∀ ts,T.sl≠.wait ts) (n2:∀ w,T.sl=.ended w->cV w):c4 T:=⟨by rw [e1,e2];exact h.pd,fun ts e=>absurd e (n1 ts),by rw [e3];exact h.an,e4,n2⟩
theorem aeY (i:Int):∀ l:List Int,(y7 i l).length<=l.length+1
 | []=>by simp [y7]
 | j::r=>by
  have:=aeY i r;simp only [y7];split
  ·simp
  ·split
   ·simp
   ·simp only [List.length_cons];omega
theorem qI (pend:List Int):∀ ws:List Wo,(cE pend ws).length<=ws.length
 | []=>by simp [cE]
 | none::r=>by have:=qI pend r;simp only [cE,List.length_cons];omega
 | some i::r=>by
  have:=qI pend r;have:=aeY i (cE pend r);simp only [cE,List.length_cons];split<;>omega
theorem c4.stm {S:Pu} (h:c4 S) {m:Stm} (e:stand S.stk=some m):m.nmIn NM4:=by
 cases hs:S.stk with
 | nil=>rw [hs] at e;cases e
 | cons a r =>
  obtain ⟨k,b,n⟩:=a;rw [hs] at e;exact zB (h.st (k,b,n) (by rw [hs];simp)).2.2 e
theorem c4.deed {S:Pu} {N:Nat} (h:c4 S) (F:Fit true S N) {m:Stm} (e:stand S.stk=some m) (hs:S.sl=.non):c4 (deed S m).1:=by
 have g:=h.stm e;have gf:=F.stm e;have newT:∀ n,c4 (S.newT n):=fun n=>⟨fun i hi=>by
  have hi:i∈S.pend++[(S.made:Int)]:=hi;show 0<=i/\i < ((S.made+1:Nat):Int);rcases List.mem_append.mp hi with hi | hi
  ·have:=h.pd i hi;omega
  ·rw [show i=(S.made:Int) by simpa using hi];omega,fun ts e=>(by rw [show (S.newT n).sl=S.sl from rfl,hs] at e;cases e),h.an,h.st,h.en⟩
 cases m with
 | set x s=>exact h.same rfl rfl rfl rfl rfl
 | order x y s=>exact newT x
 | child x y s=>exact newT x
 | timer x s=>exact newT x
 | send s k r=>exact h
 | drop s =>
  simp only [Own.deed];split
  ·split
   ·exact ⟨fun i hi=>h.pd i (List.mem_filter.mp hi).1,h.ts,h.an,h.st,h.en⟩
   ·exact h
  ·exact h
 | hear x k =>
  simp only [Own.deed];split
  ·exact h.same rfl rfl rfl rfl rfl
  ·exact h.awake rfl rfl rfl h.st (fun _ z=>by cases z) (fun _ z=>by cases z)
 | wait x ss =>
  simp only [Stm.nmIn] at g;simp only [Own.deed];split
  ·refine ⟨h.pd,fun ts et=>?_,h.an,h.st,fun _ z=>by cases z⟩;cases et;refine ⟨?_,fun i hi=>h.pd i (uL.mp (mB.mp hi)).1⟩;have:=qI S.pend (ss.map S.worth);rw [List.length_map] at this;omega
  ·exact h.same rfl rfl rfl rfl rfl
 | fin s =>
  refine ⟨fun i hi=>?_,fun ts z=>?_,h.an,h.st,fun w z=>?_⟩
  ·cases hi
  ·cases z
  ·cases z;exact apA F gf
 | whl s b=>exact h
 | iff s b o=>exact h
theorem acC {P:List Stm->Prop}:∀ st:Stk,(∀ x∈st,x.1<=1/\x.2.1.length<=8/\P x.2.1)->∀ x∈cQ st,x.1<=1/\x.2.1.length<=8/\P x.2.1
 | [],h=>by simpa [cQ] using h
 | [a],h=>by simpa [cQ] using h
 | (k,b,n)::(k2,b2,n2)::r,h=>by
  rw [cQ];split
  ·refine acC ((k2,b2,vJ b2 n2)::r) fun x hx=>?_;rcases List.mem_cons.mp hx with rfl | hx
   ·exact h (k2,b2,n2) (by simp)
   ·exact h x (by simp [hx])
  ·exact h
termination_by st=>st.length
theorem tW {P:List Stm->Prop} {st:Stk} (h:∀ x∈st,x.1<=1/\x.2.1.length<=8/\P x.2.1):∀ x∈fV st,x.1<=1/\x.2.1.length<=8/\P x.2.1:=by
 cases st with
 | nil=>exact h
 | cons a r =>
  obtain ⟨k,b,n⟩:=a;intro x hx;simp only [fV,List.mem_cons] at hx;rcases hx with rfl | hx
  ·exact h (k,b,n) (by simp)
  ·exact h x (by simp [hx])
theorem c4.pass {S:Pu} (h:c4 S):c4 S.pass:=⟨h.pd,h.ts,h.an,tW h.st,h.en⟩
theorem c4.come {S:Pu} (h:c4 S):c4 S.come:=⟨h.pd,h.ts,h.an,acC _ h.st,h.en⟩
theorem c4.one {S:Pu} {N:Nat} (h:c4 S) (F:Fit true S N) {m:Stm} (e:stand S.stk=some m) (hs:S.sl=.non):c4 (one S m).1:=by
 have g:=h.stm e;have en:∀(c:Nat) (b:List Stm),c<=1->b.length<=8->dI NM4 b->c4 (S.enter c b):=fun c b hc hb hn=>⟨h.pd,h.ts,h.an,fun x hx=>by
  rcases List.mem_cons.mp hx with rfl | hx
  ·exact ⟨hc,hb,hn⟩
  ·exact h.st x hx,h.en⟩
 unfold Own.one;split
 ·cases m with
  | whl s b =>
   simp only [Stm.nmIn] at g;show c4 (if _ then S.pass else S.enter 0 b);split
   ·exact h.pass
   ·exact en 0 b (by omega) g.1 g.2
  | iff s b o =>
   simp only [Stm.nmIn] at g;show c4 (if _ then S.enter 1 o else S.enter 0 b);split
   ·exact en 1 o (by omega) g.1.2 g.2.2
   ·exact en 0 b (by omega) g.1.1 g.2.1
  | _=>exact h
 ·show c4 (if _ then (Own.deed S m).1.pass else (Own.deed S m).1);split
  ·exact (h.deed F e hs).pass
  ·exact h.deed F e hs
theorem c4.ends {S:Pu} (h:c4 S) {w:Wo} (hw:cV w):c4 (S.ends w).1:=⟨fun i hi=>(by cases hi),fun ts z=>(by cases z),h.an,h.st,fun u z=>(by cases z;exact hw)⟩
theorem c4.wears {S:Pu} (h:c4 S):c4 (S.wears).1:=⟨fun i hi=>(by cases hi),fun ts z=>(by cases z),h.an,h.st,fun u z=>(by cases z)⟩
theorem wK:∀(n:Nat) {S:Pu} {N:Nat},c4 S->Fit true S N->S.sl=.non->N+n<=900000->c4 (gY n S).1
 | 0,S,N,h,F,hs,_=>by
  cases e:stand S.come.stk with
  | none=>rw [dA e];exact h.come.ends gZ
  | some m=>rw [gP e];exact h.come.wears
 | n+1,S,N,h,F,hs,hN=>by
  cases e:stand S.come.stk with
  | none=>rw [dA e];exact h.come.ends gZ
  | some m =>
   have F1:=F.come hs;cases z:(Own.one S.come m).1.sl.isN with
   | true=>rw [lR e z];exact wK n (h.come.one F1 e hs) (F1.one e hs (by omega)) (wN z) (by omega)
   | false=>rw [gM e z];exact h.come.one F1 e hs
theorem c4.wake {S:Pu} {N:Nat} (h:c4 S) (F:Fit true S N) {w:Wo} (hw:cV w) (hN:N<=800000):c4 (S.wake w).1:=by
 unfold Pu.wake;split
 ·next x k e=>exact wK 300 (h.awake rfl rfl rfl (tW h.st) (fun _ z=>by cases z) (fun _ z=>by cases z)) (F.wake e hw x) rfl (by omega)
 ·next x ss e=>exact wK 300 (h.awake rfl rfl rfl (tW h.st) (fun _ z=>by cases z) (fun _ z=>by cases z)) (F.wake e hw x) rfl (by omega)
 ·exact h
theorem c4.done {S:Pu} (h:c4 S) (i:Int) {w:Wo} (hw:cV w):c4 (S.done i w):=⟨fun j hj=>h.pd j (List.mem_filter.mp hj).1,h.ts,fun p hp=>by
 have hp:p∈S.ans++[(i,w)]:=hp;rcases List.mem_append.mp hp with hp | hp
 ·exact h.an p hp
 ·rw [show p=(i,w) by simpa using hp];exact hw,h.st,h.en⟩
theorem c4.take {S:Pu} {N:Nat} (h:c4 S) (F:Fit true S N) {x:Hap} (f:x.fine) (hN:N<=700000):c4 (S.take x).1:=by
 obtain ⟨hm,hw⟩:=f;unfold Pu.take;split
 ·exact h
 cases x with
 | beg m w =>
  have F1:=F.at' hm;have F2:Fit true {S with nw:=later S.nw m,ar:=w,sl:=.non} N:=⟨F1.nm,F1.md,F1.pd,F1.an,F1.lt,F1.lw,⟨F1.pl.nm,hw,F1.pl.an⟩,F1.nw,F1.sk,fun k e=>(by cases e),fun k e=>(by cases e)⟩;exact wK 300 (h.awake rfl rfl rfl h.st (fun _ z=>by cases z) (fun _ z=>by cases z)) F2 rfl (by omega)
 | don m i w =>
  have h1:c4 (S.at' m):=h.same rfl rfl rfl rfl rfl;have F1:=F.at' hm;show c4 ((S.at' m).takeD i w).1;unfold Pu.takeD;split
  ·next ts et =>
   split
   ·next hi =>
    have b:0<=i/\i < (S.made:Int):=(h1.ts ts et).2 i hi;have md:S.made<=N:=F.md;exact (h1.done i hw).wake (F1.done hw) (fE (by omega) (by omega)) (by omega)
   ·exact h1.done i hw
  ·exact h1.done i hw
 | ltr m k w =>
  have h1:c4 (S.at' m):=h.same rfl rfl rfl rfl rfl;have F1:=F.at' hm;show c4 ((S.at' m).takeL k w).1;unfold Pu.takeL;split
  ·split
   ·exact h1.wake F1 hw (by omega)
   ·exact h1.same rfl rfl rfl rfl rfl
  ·exact h1.same rfl rfl rfl rfl rfl
theorem awL {b:List Stm} (h:dI NM4 b) (l:b.length<=8):c4 (pA b):=⟨fun i hi=>(by cases hi),fun ts e=>(by cases e),fun p hp=>(by cases hp),fun x hx=>by rw [show x=(0,b,0) by simpa [pA] using hx];exact ⟨Nat.zero_le _,l,h⟩,fun w e=>(by cases e)⟩
theorem ajW {l:List Str} {x:Str}:x∈srt l↔x∈l:=(List.mergeSort_perm l leB).mem_iff
theorem ai7 {l:List Str}:(srt l).length=l.length:=(List.mergeSort_perm l leB).length_eq
theorem tP {nm:List (Str×Wo)} {p:V×V}:∀ {l:List Str},p∈eK nm l->∃ n∈l,p=(.str n,wv (jO nm n))
 | [],h=>by simp [eK] at h
 | k::l,h=>by
  simp only [eK] at h;split at h
  ·obtain ⟨n,a,b⟩:=tP h;exact ⟨n,List.mem_cons_of_mem _ a,b⟩
  ·rcases List.mem_cons.mp h with rfl | h
   ·exact ⟨k,by simp,rfl⟩
   ·obtain ⟨n,a,b⟩:=tP h;exact ⟨n,List.mem_cons_of_mem _ a,b⟩
theorem kU {lt:List (Str×List Wo)} {p:Str×List Wo}:∀ {l:List Str},p∈fR lt l->p.1∈l/\cL lt p.1=some p.2
 | [],h=>by simp [fR] at h
 | k::l,h=>by
  simp only [fR] at h;split at h
  ·exact ⟨List.mem_cons_of_mem _ (kU h).1,(kU h).2⟩
  ·next hk =>
   rcases List.mem_cons.mp h with rfl | h
   ·refine ⟨by simp,?_⟩;cases e:cL lt k with
    | none=>rw [e] at hk;exact absurd rfl hk
    | some ws=>rfl
   ·exact ⟨List.mem_cons_of_mem _ (kU h).1,(kU h).2⟩
theorem aeZ {B:Nat}:∀(st:Stk),(∀ x∈st,x.1<=B/\x.2.2<=B)->∀ i∈bG st,0<=i/\i<=(B:Int)
 | [],_,i,h=>by simp [bG] at h
 | [(k,b,n)],g,i,h=>by
  have:=g (k,b,n) (by simp);simp only [bG,List.mem_cons,List.not_mem_nil,or_false] at h;simp only at this;omega
 | (k,b,n)::y::r,g,i,h=>by
  have:=g (k,b,n) (by simp);rw [oI] at h;simp only at this;rcases List.mem_append.mp h with h | h
  ·exact aeZ (y::r) (fun x hx=>g x (List.mem_cons_of_mem _ hx)) i h
  ·simp only [List.mem_cons,List.not_mem_nil,or_false] at h;omega
theorem awH {S:Pu} (h:c4 S) (g:zV S.stk):∀ x∈S.stk,x.1<=8/\x.2.2<=8:=fun x hx=>by
 have h1:=h.st x hx;refine ⟨by omega,?_⟩;cases e:S.stk with
 | nil=>rw [e] at hx;cases hx
 | cons a r =>
  obtain ⟨k,b,n⟩:=a;rw [e] at g hx;rcases List.mem_cons.mp hx with rfl | hx
  ·have:=g.1;simp only at h1 ⊢;omega
  ·have:=g.2 x hx;omega
theorem asK:∀ n∈NM4,n.length<=20:=by decide +kernel
theorem arQ:∀ n∈KY3,n.length<=20:=by decide +kernel
theorem len20:("at":Str).length<=20/\("for":Str).length<=20/\("now":Str).length<=20/\("arg":Str).length<=20/\("name":Str).length<=20/\("made":Str).length<=20/\("open":Str).length<=20/\("done":Str).length<=20/\("letter":Str).length<=20/\("new":Str).length<=20/\("ended":Str).length<=20/\("worn":Str).length<=20:=by decide +kernel
theorem aqR:wds []=0:=rfl
theorem am0 (r:List V) (rs:List (List V)):wds (r::rs)=r.length+wds rs:=by simp [wds]
theorem nQ {x:Str} {v:V} (h:x.length<=20) (g:Tw v):Trow [.str x,v]:=⟨by simp only [List.forall_mem_cons];exact ⟨h,g,by simp⟩,by simp⟩
theorem pP {x:Str} {u v:V} (h:x.length<=20) (f:Tw u) (g:Tw v):Trow [.str x,u,v]:=⟨by simp only [List.forall_mem_cons];exact ⟨h,f,g,by simp⟩,by simp⟩
theorem rX {i:Int} (h:0<=i) (g:i<=1000000):Tw (.int i):=⟨by omega,by omega⟩
theorem ab7 {x:Str} {l:List Int} (h:x.length<=20) (g:∀ i∈l,0<=i/\i<=1000000) (n:l.length<=200):Trow (.str x::l.map V.int):=⟨fun v hv=>by
 rcases List.mem_cons.mp hv with rfl | hv
 ·exact h
 ·obtain ⟨i,hi,rfl⟩:=List.mem_map.mp hv;exact rX (g i hi).1 (g i hi).2,by simp only [List.length_cons,List.length_map];omega⟩
theorem Txo.of {C:Cl} {H:Hp} {R:Rn} {as:List Addr} {sl:V} {S:Pu} {N:Nat} (f:Fine S N) (t:c4 S) (A:bB C H R as sl S) (hN:N<=20000):Txo S:=by
 obtain ⟨b0,b1,b2,b3,b4,b5⟩:=f.args (by omega);have F:=f.fit;have n4:=f.nm.len;have n3:=f.lt.len;have e4:NM4.length=4:=rfl;have e3:KY3.length=3:=rfl;have ln:S.nmS.length<=4:=by
  have:=oO S.nm (srt (S.nm.map (·.1)));rw [ai7,List.length_map] at this;exact Nat.le_trans this (by omega)
 have ll:S.ltS.length<=3:=by
  have:=oQ S.lt (srt (S.lt.map (·.1)));rw [ai7,List.length_map] at this;exact Nat.le_trans this (by omega)
 have hlt:∀ p∈S.ltS,p.1∈KY3/\p.2.length<=N/\∀ w∈p.2,cV w:=fun p hp=>by
  have:=kU hp;exact ⟨f.lt.sub _ (ajW.mp this.1),F.lw _ _ this.2⟩
 have hnm:∀ p∈S.nmS,∃ n w,p=(.str n,wv w)/\n∈NM4/\cV w:=fun p hp=>by
  obtain ⟨n,hn,e⟩:=tP hp;exact ⟨n,_,e,f.nm.sub _ (ajW.mp hn),F.pl.nm n⟩
 have nl:=xO S.stk;have wf:=A.wk.few;have few:Few S:=⟨by have:=F.pd;omega,by have:=F.an;omega,by omega,by omega,fun p hp=>by have:=(hlt p hp).2.1;omega,by omega,by omega,by omega,fun ts e=>(t.ts ts e).1⟩;have md:=F.md;obtain ⟨q1,q2,q3,q4,q5,q6,q7,q8,q9,q10,q11,q12⟩:=len20;have go:∀ mid:List (List V),mid.length<=1->(∀ r∈mid,Trow r/\r.length<=5)->(∀ r∈dN S mid,Trow r)/\wds (dN S mid)<=600000/\(dN S mid).length<=200000:=fun mid hm ht=>by
  have lr:=qE (ps:=S.ltS) (B:=N) fun p hp=>(hlt p hp).2.1;have lr2:N * S.ltS.length<=N * 3:=Nat.mul_le_mul_left _ ll;have pd:=F.pd;have an:=F.an;have la:S.anS.length=S.ans.length:=by unfold Pu.anS;rw [List.length_map]
  refine ⟨fun r hr=>?_,?_,?_⟩
  ·unfold dN at hr;simp only [List.mem_append,List.mem_cons,List.mem_map,List.mem_flatMap,List.not_mem_nil,or_false] at hr;rcases hr with (((((((rfl | hr) | rfl | rfl) | ⟨p,hp,rfl⟩) | rfl) | ⟨i,hi,rfl⟩) | ⟨p,hp,rfl⟩) | ⟨p,hp,hr⟩)
   ·exact ab7 q1 (fun i hi=>by have:=aeZ (B:=8) S.stk (awH t F.sk.ok) i hi;omega) (by omega)
   ·exact (ht r hr).1
   ·exact nQ q3 ⟨by have:=F.nw;omega,by have:=F.nw;omega⟩
   ·exact nQ q4 (zL F.pl.ar)
   ·obtain ⟨n,w,rfl,hn,iw⟩:=hnm p hp;exact pP q5 (asK n hn) (zL iw)
   ·exact nQ q6 (rX (by omega) (by omega))
   ·have:=t.pd i hi;exact nQ q7 (rX (by omega) (by omega))
   ·obtain ⟨z,hz,rfl⟩:=List.mem_map.mp hp;have:=A.tk.la z hz;exact pP q8 (rX (by omega) (by omega)) (zL (t.an z hz))
   ·obtain ⟨w,hw,rfl⟩:=List.mem_map.mp hr;exact pP q9 (arQ _ (hlt p hp).1) (zL ((hlt p hp).2.2 w hw))
  ·have w1:wds mid<=5:=by
    have:=zY (B:=5) (rs:=mid) fun r hr=>(ht r hr).2;omega
   have w2:wds (S.nmS.map fun p=>[V.str "name",p.1,p.2])<=3 * 4:=by
    have:=zY (B:=3) (rs:=S.nmS.map fun p=>[V.str "name",p.1,p.2]) fun r hr=>by
     obtain ⟨_,_,rfl⟩:=List.mem_map.mp hr;simp
    rw [List.length_map] at this;omega
   have w3:wds (S.pend.map fun i=>[V.str "open",V.int i])<=2 * N:=by
    have:=zY (B:=2) (rs:=S.pend.map fun i=>[V.str "open",V.int i]) fun r hr=>by
     obtain ⟨_,_,rfl⟩:=List.mem_map.mp hr;simp
    rw [List.length_map] at this;omega
   have w4:wds (S.anS.map fun p=>[V.str "done",p.1,p.2])<=3 * N:=by
    have:=zY (B:=3) (rs:=S.anS.map fun p=>[V.str "done",p.1,p.2]) fun r hr=>by
     obtain ⟨_,_,rfl⟩:=List.mem_map.mp hr;simp
    rw [List.length_map] at this;omega
   have w5:wds (S.ltS.flatMap sD)<=3 * (N * 3):=by
    have:=zY (B:=3) (rs:=S.ltS.flatMap sD) fun r hr=>by
     obtain ⟨p,_,hr⟩:=List.mem_flatMap.mp hr;obtain ⟨_,_,rfl⟩:=List.mem_map.mp hr;simp
    omega
   unfold dN;simp only [aqI,am0,aqR,List.length_cons,List.length_nil,List.length_map];omega
  ·unfold dN;simp only [List.length_append,List.length_cons,List.length_nil,List.length_map];omega
 have all:(∀ r∈S.rowsS,Trow r)/\wds S.rowsS<=600000/\S.rowsS.length<=200000:=by
  unfold Pu.rowsS;cases e:S.sl with
  | non=>rw [e] at b0;cases b0
  | new=>exact ⟨fun r hr=>by rw [show r=[.str "new"] by simpa using hr];exact ⟨by simp only [List.forall_mem_cons];exact ⟨q10,by simp⟩,by simp⟩,by simp [wds],by simp⟩
  | worn=>exact ⟨fun r hr=>by rw [show r=[.str "worn"] by simpa using hr];exact ⟨by simp only [List.forall_mem_cons];exact ⟨q12,by simp⟩,by simp⟩,by simp [wds],by simp⟩
  | ended w=>exact ⟨fun r hr=>by rw [show r=[.str "ended",wv w] by simpa using hr];exact nQ q11 (zL (t.en w e)),by simp [wds],by simp⟩
  | hear k=>exact go [] (by simp) (by simp)
  | wait ts =>
   have ht:=t.ts ts e;exact go _ (by simp) fun r hr=>by
    rw [show r=.str "for"::ts.map V.int by simpa using hr];exact ⟨ab7 q2 (fun i hi=>by have:=ht.2 i hi;omega) (by omega),by simp only [List.length_cons,List.length_map];omega⟩
 exact ⟨b0,b1,b2,b3,b4,fun k ws e=>b5 k ws e,few,all.1,all.2.1,all.2.2,⟨t.en,fun p hp=>by obtain ⟨n,w,e,_,iw⟩:=hnm p hp;exact ⟨n,w,e,iw⟩,t.an,fun p hp=>(hlt p hp).2.2,F.pl.ar⟩⟩
section
variable {K:PySem.W.Frag} {H:Hp} {n:Nat} {a b:Addr}
theorem ax5 {s:Slp} (hn:s.isN=false) (h:fU H (.ref a) s) (g:fU H (.ref b) s):vO K H (n+2) a b true:=by
 cases s with
 | non=>cases hn
 | new =>
  obtain ⟨p,e0,e⟩:=h;obtain ⟨p2,e1,e2⟩:=g;cases e0;cases e1;exact kP.rcT (.cons (cA _).eq .nil) e e2
 | wait ts =>
  obtain ⟨p,p2,e0,e,f⟩:=h;obtain ⟨q,q2,e1,e2,f2⟩:=g;cases e0;cases e1;exact kP.rcT (.cons (cA _).eq (.cons (kP.tup (kP.refl (rH ts)) f f2) .nil)) e e2
 | hear k =>
  obtain ⟨p,e0,e⟩:=h;obtain ⟨p2,e1,e2⟩:=g;cases e0;cases e1;exact kP.rcT (.cons (cA _).eq (.cons (cA _).eq .nil)) e e2
 | ended w =>
  obtain ⟨p,e0,e⟩:=h;obtain ⟨p2,e1,e2⟩:=g;cases e0;cases e1;exact kP.rcT (.cons (cA _).eq (.cons (gJ _).eq .nil)) e e2
 | worn =>
  obtain ⟨p,e0,e⟩:=h;obtain ⟨p2,e1,e2⟩:=g;cases e0;cases e1;exact kP.rcT (.cons (cA _).eq .nil) e e2
theorem asU {v:V} {s:Slp} (hn:s.isN=false) (h:fU H v s):∃ a,v=.ref a:=by
 obtain ⟨p,_,_,e,_⟩:=h.word hn;exact ⟨p,e⟩
theorem amR {v:V} {S:Pu} (hn:S.sl.isN=false) (h:kJ H v S):∃ a,v=.ref a:=by
 unfold kJ at h;split at h
 ·obtain ⟨p,_,_,_,_,_,_,_,_,_,e,_⟩:=h;exact ⟨p,e⟩
 ·exact asU hn h
theorem aAD {S:Pu} (hn:S.sl.isN=false) (h:kJ H (.ref a) S) (g:kJ H (.ref b) S):vO K H (n+4) a b true:=by
 unfold kJ at h g;split at h
 ·next hg =>
  rw [if_pos hg] at g;obtain ⟨p,pl,pn,po,pa,pt,sl,un,ua,ut,ep,a1,a2,a3,a4,a5,a6,a7,a8,a9,a10⟩:=h;obtain ⟨q,ql,qn,qo,qa,qt,sl',un',ua',ut',eq,b1,b2,b3,b4,b5,b6,b7,b8,b9,b10⟩:=g;cases ep;cases eq;refine kP.rcT (n:=n+3) (.cons (avE (n:=n+1) a2 b2) (.cons (kP.tup (n:=n+2) (kP.refl (rH _)) a3 b3) (.cons (gJ _).eq (.cons (gT _).eq (.cons (kP.tup (n:=n+2) (ajJ (n:=n+1) a5 b5 (aaO _ _)) a4 b4) (.cons (gT _).eq (.cons (kP.tup (n:=n+2) (kP.refl (rH _)) a6 b6) (.cons (kP.tup (n:=n+2) (ajJ (n:=n+1) a8 b8 fun p hp=>?_) a7 b7) (.cons (kP.tup (n:=n+2) (aq9 (n:=n) a10 b10) a9 b9) .nil))))))))) a1 b1;obtain ⟨z,_,rfl⟩:=List.mem_map.mp hp;exact ⟨gT _,gJ _⟩
 ·next hg =>
  rw [if_neg hg] at g;exact ax5 (n:=n+2) hn h g
end
local macro_rules | `(tactic| wp_walk) => `(tactic| wp_walk using true_and)
local macro_rules | `(tactic| wp_walk using $ts,*) => do
  let us ← ts.getElems.mapM fun t => `(Lean.Parser.Tactic.simpLemma| $t:term)
  let vs <- ("↓awB ↓ayW ↓ae6 ↓ayD ↓aBM ↓azB ↓aq6 ↓anW ↓al7 ↓aCD ↓aCF ↓az6 ↓azL ↓au6 ↓aAO ↓aAM ↓aw6 ↓aBZ ↓aCI ↓aB6 ↓aB2 ↓e_c ↓axJ ↓ayK ↓av8 ↓aBN ↓azF ↓ay7 ↓ax9 ↓avI ↓av6 ↓avD ↓aBA ↓av3 ↓ayS ↓aBW ↓aAE ↓aB1 ↓awE ↓apL ↓au3 ↓aw1 ↓atE ↓avB ↓aA8 ↓azY ↓aA6 ↓aA7 ↓az8 ↓ayL ↓asC ↓asO ↓asM ↓an0 ↓apR ↓as0 ↓ayZ ↓ayM ↓avH ↓auY ↓avS ↓awZ ↓aAC ↓ay0 ↓av4 ↓axO ↓aw5 ↓ayI ↓aB7 ↓awV ↓avV ↓awD ↓ayQ ↓ayP ↓azU ↓ay9 ↓aBD ↓azN ↓aAW ↓az0 ↓azS ↓ar6 ↓ar0 ↓apI ↓apQ ↓aw2 ↓ax7 ↓awC ↓aCL ↓aqT ↓azD ↓aAJ ↓abD ↓yK ↓aa9 ↓abF ↓vS ↓ayX ↓azV ↓axS ↓avY ↓azM ↓atN ↓aw0 ↓awX ↓arB ↓asH ↓atB ↓axU ↓azW ↓ayC ↓av9 ↓aCJ ↓aB5 ↓aBX ↓atA ↓auR ↓avG ↓aq2 ↓aB9 ↓ay4 ↓avC ↓ax0 ↓avR ↓asE ↓as6 ↓axD ↓aBO ↓ayJ ↓axC ↓aqZ ↓awF ↓aw9 ↓aw4 ↓amP ↓avO ↓awW ↓avU ↓aq0 ↓ayN ↓aA1 ↓arD ↓awJ ↓akM ↓ay3 ↓ax6 ↓axK ↓au4 ↓awR ↓anC ↓amH ↓ayA ↓aq3 ↓ax1 ↓au5 ↓arY ↓amY ↓aoG ↓aqJ ↓au2 ↓awK ↓aAP ↓axM ↓ay8 ↓avZ ↓aqK ↓aqL ↓aoF ↓azX ↓asB ↓as7 ↓atC ↓asL ↓av1 ↓aw8 ↓an2 ↓az4 ↓azI ↓az5 ↓aA4 ↓ayT ↓aA5 ↓ayY ↓azJ ↓aAG ↓auL ↓atZ ↓azO ↓auE ↓aAK ↓aCC ↓aBB ↓aBE ↓az7 ↓aBU ↓aA ↓List.set_cons_zero ↓List.set_cons_succ ↓List.getElem?_cons_zero ↓List.getElem?_cons_succ L2.start aZ bJ List.cons_append List.nil_append List.append_nil List.replicate_succ List.replicate_zero List.length_cons List.length_nil Nat.reduceAdd Nat.reduceSub Nat.zero_add Nat.add_zero Nat.reduceLeDiff Nat.reducePow Nat.reduceLT true_and and_true false_and and_false forall_const ↓reduceIte e9 String.reduceEq Int.reduceToNat Int.reducePow Int.reduceNeg Int.reduceSub Int.reduceAdd Int.reduceMul Int.reduceLT Int.reduceLE Int.reduceEq sizeLine w_K aBK decide_true decide_false Bool.not_true Bool.not_false Bool.false_eq_true".splitOn " ").toArray.mapM fun(n:String)=>do
    let p:=n.splitOn "↓";let x:=Lean.mkIdent (p.getLastD "").toName
    if p.length = 1 then `(Lean.Parser.Tactic.simpLemma| $x:term) else `(Lean.Parser.Tactic.simpLemma| ↓ $x:term)
  let ws:=us++vs
  `(tactic| try simp (config := { dsimp := false }) only [$ws,*])
noncomputable def ai9 (K:PySem.W.Frag):Sp:=fun vs H Q _=>∃(a:Addr) (ns:List Int),vs=[.ref a]/\eZ K H a (ns.map V.int)/\ns.length<=63/\∀ H',Q (.bl true) H'
section
variable {P:Program} {w:World} {K:PySem.W.Frag} {mg:Str->Option Value} {base:Heap}
theorem acK {t:Ad} (T:Tx w K mg t):bK P w K mg base CX0 1 t.ad8 t.adF ["cell"] auG:=by
 refine T.adH.ok sT (fun vs H Q E h=>?_) (fun cdv A outer s H vs Q E hr h=>?_)
 ·obtain ⟨c,rfl,_⟩:=h;rfl
 ·obtain ⟨c,rfl,q⟩:=h;refine ⟨_,(aC (bP (aS azH (pv 0) (bH nB aE aE) (nomark _)) (aG (aO (bE (aD (bH g9 (pv 0) (bH nB aE aE)) (aD aE aB))))) bA)
   (aC (bC (i:=1) sT.nd rfl (Or.inl rfl) (bH pY (pv 0) aE))
   (aC (bC (i:=1) sT.nd rfl (Or.inl rfl) (bH pY (bH pT (pv 1) (pv 1)) aE))
   (aG (aO (bE (aD (bH pY (bH pT (pv 1) (bH cN (pv 1) aE)) aE) (aD aE aB)))))))),?_⟩
  try dsimp only [L2.start,aZ,bJ,List.cons_append,List.nil_append,List.replicate_succ,List.replicate_zero,List.length_cons,List.length_nil,Nat.reduceAdd,Nat.reduceSub,Nat.zero_add]
  wp_walk;have m0:=Int.emod_nonneg c (show (982451653:Int)≠0 by decide);have m1:=Int.emod_lt_of_pos c (show (0:Int) < 982451653 by decide);have n0:=Int.emod_nonneg (c % 982451653 * (c % 982451653)) (show (982451653:Int)≠0 by decide);have n1:=Int.emod_lt_of_pos (c % 982451653 * (c % 982451653)) (show (0:Int) < 982451653 by decide);split
  ·exact fun r hr'=>q r _ hr' (Kp.new hr') ⟨_,_,aA,.inl rfl⟩
  ·refine ⟨acD (by omega) (by omega),acD (by omega) (by omega),fun r hr'=>?_⟩;exact q r _ hr' (Kp.new hr') ⟨_,_,aA,.inr ⟨Int.emod_nonneg _ (by decide),Int.emod_lt_of_pos _ (by decide)⟩⟩
theorem bM {t:Ad} (T:Tx w K mg t):bK P w K mg base CX0 1 t.zX t.y6 ["jar","many"] auQ:=by
 refine T.bZ.ok xL (fun vs H Q E h=>?_) (fun cdv A outer s H vs Q E hr h=>?_)
 ·obtain ⟨r,m,rfl,_⟩:=h;rfl
 ·obtain ⟨r,m,rfl,m0,m1,⟨c,f,hr0,hx⟩,q⟩:=h;refine ⟨_,(aC (bP (aS cJ (aX bN (pv 0) aE (fun _ _=>rfl)) aE (nomark _)) (aC (bC (i:=2) xL.nd rfl (Or.inl rfl) (bH pY (aX bN (pv 0) aE (fun _ _=>rfl)) (pv 1)))
   (aC (xJ (bH afS (aX bN (pv 0) aE (fun _ _=>rfl)) (pv 1)) (ahJ (pv 0) aE ajE))
   (aG (aO (pv 2))))) bA)
   (aC (xJ (bH pY (bH pT (bH cN (aX bN (pv 0) aE (fun _ _=>rfl)) aE) (bH cN (aX bN (pv 0) aE (fun _ _=>rfl)) aE)) aE) (ahJ (pv 0) aE ajE))
   (aG (aO (bH pY (bH afS (bH pT (aX bN (pv 0) aE (fun _ _=>rfl)) (bH nB aE aE)) aE) (pv 1)))))),?_⟩
  try dsimp only [L2.start,aZ,bJ,List.cons_append,List.nil_append,List.replicate_succ,List.replicate_zero,List.length_cons,List.length_nil,Nat.reduceAdd,Nat.reduceSub,Nat.zero_add]
  wp_walk using hr0,asP;have n0:=Int.emod_nonneg ((c+15485863) * (c+32452867)) (show (982451653:Int)≠0 by decide);have n1:=Int.emod_lt_of_pos ((c+15485863) * (c+32452867)) (show (0:Int) < 982451653 by decide);split
  ·next hf=>exact ⟨m0,⟨m0,log2_lt m0 m1⟩,q _ _ (Int.emod_nonneg _ (by omega)) (Int.emod_lt_of_pos _ m0) ⟨_,_,aA,.inl hf⟩ (Kp.set (by simp))⟩
  ·next hf =>
   rcases hx with hx | ⟨h0,h1⟩
   ·exact absurd hx hf
   ·exact ⟨acD (by omega) (by omega),acD (by omega) (by omega),⟨by decide,by decide⟩,m0,q _ _ (Int.emod_nonneg _ (by omega)) (Int.emod_lt_of_pos _ m0) ⟨_,_,aA,.inr ⟨n0,n1⟩⟩ (Kp.set (by simp))⟩
theorem j8 {t:Ad} (T:Tx w K mg t):bK P w K mg base CX0 2 t.uB t.tG ["jar"] afF:=by
 refine T.kY.ok vE (fun vs H Q E h=>?_) (fun cdv A outer s H vs Q E hr h=>?_)
 ·obtain ⟨r,rfl,_⟩:=h;rfl
 ·obtain ⟨r,rfl,hR,q⟩:=h;refine ⟨_,(aC (bC (i:=1) vE.nd rfl (Or.inl rfl) (bH g9 (aN (bM T) (hr.mono (by omega)) rfl T.cG T.bZ.kp T.cF .nil pass0 (aD (pv 0) (aD (bH cN (bH pT aE (bH nB aE aE)) aE) aB))) (bH nB aE aE)))
   (aG (aO (aX bN (bE (aD eJ (aD aE (aD aE (aD aE (aD aE (aD (yF pS aE) (aD (bH nB aE aE) (aD (pv 1) aB))))))))) (aN (bM T) (hr.mono (by omega)) rfl T.cG T.bZ.kp T.cF .nil pass0 (aD (pv 0) (aD aE aB))) (fun _ _=>rfl))))),?_⟩
  try dsimp only [L2.start,aZ,bJ,List.cons_append,List.nil_append,List.replicate_succ,List.replicate_zero,List.length_cons,List.length_nil,Nat.reduceAdd,Nat.reduceSub,Nat.zero_add]
  wp_walk;refine ⟨hR,fun g H1 a1 b1 R1 K1 p hp=>⟨R1.new hp,fun g2 H2 a2 b2 R2 K2=>?_⟩⟩;wp_walk using K2.madeJ R1 hp;refine kH a2 b2 fun v hv=>?_;wp_walk;have K:=K1.trans ((Kp.new hp).trans K2);simp only [List.mem_cons,List.not_mem_nil,or_false] at hv;rcases hv with rfl | rfl | rfl | rfl | rfl | rfl | rfl | rfl
  ·exact q none _ gZ R2 K
  all_goals exact q (some _) _ (fE (by omega) (by omega)) R2 K
theorem ad1 {t:Ad} (T:Tx w K mg t) {n d:Nat} (hn:3<=n) (IH:bK P w K mg base CX0 n t.jB t.jD ["jar","deep"] (ah5 d)):bK P w K mg base CX0 (n+1) t.jB t.jD ["jar","deep"] (ah5 (d+1)):=by
 refine T.cK.ok eX (fun vs H Q E h=>?_) (fun cdv A outer s H vs Q E hr h=>?_)
 ·obtain ⟨r,dp,rfl,_⟩:=h;rfl
 ·obtain ⟨r,dp,rfl,d1,d2,hR,q⟩:=h;refine ⟨_,(aC (bC (i:=2) eX.nd rfl (Or.inl rfl) (aN (bM T) (hr.mono (by omega)) rfl T.cG T.bZ.kp T.cF .nil pass0 (aD (pv 0) (aD aE aB))))
   (aC (bC (i:=3) eX.nd rfl (Or.inl rfl) (aX bN (bE (aD aK (aD aK (aD aK (aD aK aB))))) (aN (bM T) (hr.mono (by omega)) rfl T.cG T.bZ.kp T.cF .nil pass0 (aD (pv 0) (aD aE aB))) (fun _ _=>rfl)))
   (aC (bP (PW.pt (anE (aS cJ (pv 1) aE (nomark _)) (agX (aS pK (pv 2) aE (nomark _))))) (aC (bC (i:=4) eX.nd rfl (Or.inl rfl) (aN (j8 T) (hr.mono (by omega)) rfl T.oJ T.kY.kp T.oT .nil pass0 (aD (pv 0) aB)))
   (aC (bP (aS lP (pv 4) eJ (nomark _)) (aG (bC (i:=4) eX.nd rfl (Or.inl rfl) aE)) bA)
   (aG (aO (aX bN (bE (aD (bD (aD aK (aD (pv 4) aB))) (aD (bD (aD aK (aD (pv 3) aB))) (aD (bD (aD aK (aD (pv 3) aB))) (aD (bD (aD aK aB)) (aD (bD (aD aK aB)) (aD (bD (aD aK aB)) aB))))))) (bH pY (pv 2) aE) (fun _ _=>rfl)))))) bA)
   (aC (bP (aS cJ (pv 2) aE (nomark _)) (aG (aO (bD (aD aK (aD (aN IH (hr.mono (by omega)) rfl T.cP T.cK.kp T.cS .nil pass0 (aD (pv 0) (aD (bH g9 (pv 1) aE) aB))) aB))))) bA)
   (aC (bP (aS cJ (pv 2) aE (nomark _)) (aG (aO (bD (aD aK (aD (aN IH (hr.mono (by omega)) rfl T.cP T.cK.kp T.cS .nil pass0 (aD (pv 0) (aD (bH g9 (pv 1) aE) aB))) aB))))) bA)
   (aC (bC (i:=5) eX.nd rfl (Or.inl rfl) (aN IH (hr.mono (by omega)) rfl T.cP T.cK.kp T.cS .nil pass0 (aD (pv 0) (aD (bH g9 (pv 1) aE) aB))))
   (aG (aO (bD (aD (aX bN (bE (aD aK (aD aK (aD aK (aD aK (aD aK aB)))))) (aN (bM T) (hr.mono (by omega)) rfl T.cG T.bZ.kp T.cF .nil pass0 (aD (pv 0) (aD aE aB))) (fun _ _=>rfl)) (aD (pv 5) (aD (aN IH (hr.mono (by omega)) rfl T.cP T.cK.kp T.cS .nil pass0 (aD (pv 0) (aD (bH g9 (pv 1) aE) aB))) aB)))))))))))),?_⟩
  try dsimp only [L2.start,aZ,bJ,List.cons_append,List.nil_append,List.replicate_succ,List.replicate_zero,List.length_cons,List.length_nil,Nat.reduceAdd,Nat.reduceSub,Nat.zero_add]
  refine aF fun R1 hR1=>?_;wp_walk;refine ⟨hR,fun g H1 a1 b1 J1 K1=>?_⟩;wp_walk;refine hR1 _ _ ?_;clear hR1;clear R1;refine aF fun R2 hR2=>?_;wp_walk;refine fun p2 h2=>⟨J1.new h2,fun g2 G2 a2 b2 J2 K2=>?_⟩;wp_walk using made1J K2 J1 h2;refine kH a2 b2 fun y2 hy2=>?_;obtain ⟨x2,rfl⟩:∃ z:Str,y2=.str z:=by simp only [List.mem_cons,List.not_mem_nil,or_false] at hy2;rcases hy2 with rfl | rfl | rfl | rfl<;>exact ⟨_,rfl⟩
  wp_walk;refine hR2 _ _ ?_;clear hR2;clear R2;have KK:Kp [r] H G2:=K1.trans ((Kp.new h2).trans K2);clear K1 K2 h2 J1;refine aF fun R3 hR3=>?_;refine uW fun RI hRI=>?_;wp_walk;simp only [aCE];split
  ·refine hRI _ _ ?_;clear hRI RI;refine aF fun Ra hRa=>?_;wp_walk;refine ⟨J2,fun w3 H3 hw J3 K3=>?_⟩;wp_walk;refine hRa _ _ ?_;clear hRa Ra;refine aF fun Ra hRa=>?_;obtain ⟨z,hz,ez⟩:∃ z:Int,(-1000000000<=z/\z<=1000000000)/\(w3=none/\z=4\/w3=some z):=by
    cases w3 with
    | none=>exact ⟨4,⟨by decide,by decide⟩,.inl ⟨rfl,rfl⟩⟩
    | some z=>exact ⟨z,hw z rfl,.inr rfl⟩
   have K5:Kp [r] H H3:=KK.trans K3;clear K3 KK;have fin:Ra [some (.ref r),some (.int dp),some (.int g),some (.str x2),some (.int z),none] H3:=by
    refine hRa _ _ ?_;clear hRa Ra;wp_walk;refine fun p1 m1 p2 m2 p3 m3 p4 m4 p5 m5 p6 m6 p7 m7=>?_;have M_1:=Kp.new (S:=[]) (o:=.tup [.str "number",.int z]) m1;have M_2:=Kp.new (S:=[]) (o:=.tup [.str "name",.str x2]) m2;have M_3:=Kp.new (S:=[]) (o:=.tup [.str "name",.str x2]) m3;have M_4:=Kp.new (S:=[]) (o:=.tup [.str "arg"]) m4;have M_5:=Kp.new (S:=[]) (o:=.tup [.str "now"]) m5;have M_6:=Kp.new (S:=[]) (o:=.tup [.str "none"]) m6;have M_7:=Kp.new (S:=[]) (o:=.lst [.ref p1,.ref p2,.ref p3,.ref p4,.ref p5,.ref p6]) m7;have f1:=(((((M_2.trans M_3).trans M_4).trans M_5).trans M_6).trans M_7).at (aA:(upd H3 p1 (.tup [.str "number",.int z])) p1=some (.tup [.str "number",.int z]));have f2:=((((M_3.trans M_4).trans M_5).trans M_6).trans M_7).at (aA:(upd (upd H3 p1 (.tup [.str "number",.int z])) p2 (.tup [.str "name",.str x2])) p2=some (.tup [.str "name",.str x2]));have f3:=(((M_4.trans M_5).trans M_6).trans M_7).at (aA:(upd (upd (upd H3 p1 (.tup [.str "number",.int z])) p2 (.tup [.str "name",.str x2])) p3 (.tup [.str "name",.str x2])) p3=some (.tup [.str "name",.str x2]));have f4:=((M_5.trans M_6).trans M_7).at (aA:(upd (upd (upd (upd H3 p1 (.tup [.str "number",.int z])) p2 (.tup [.str "name",.str x2])) p3 (.tup [.str "name",.str x2])) p4 (.tup [.str "arg"])) p4=some (.tup [.str "arg"]));have f5:=(M_6.trans M_7).at (aA:(upd (upd (upd (upd (upd H3 p1 (.tup [.str "number",.int z])) p2 (.tup [.str "name",.str x2])) p3 (.tup [.str "name",.str x2])) p4 (.tup [.str "arg"])) p5 (.tup [.str "now"])) p5=some (.tup [.str "now"]));have f6:=M_7.at (aA:(upd (upd (upd (upd (upd (upd H3 p1 (.tup [.str "number",.int z])) p2 (.tup [.str "name",.str x2])) p3 (.tup [.str "name",.str x2])) p4 (.tup [.str "arg"])) p5 (.tup [.str "now"])) p6 (.tup [.str "none"])) p6=some (.tup [.str "none"]));have f7:(upd (upd (upd (upd (upd (upd (upd H3 p1 (.tup [.str "number",.int z])) p2 (.tup [.str "name",.str x2])) p3 (.tup [.str "name",.str x2])) p4 (.tup [.str "arg"])) p5 (.tup [.str "now"])) p6 (.tup [.str "none"])) p7 (.lst [.ref p1,.ref p2,.ref p3,.ref p4,.ref p5,.ref p6])) p7=some (.lst [.ref p1,.ref p2,.ref p3,.ref p4,.ref p5,.ref p6]):=aA;have MM:=((((((M_1.trans M_2).trans M_3).trans M_4).trans M_5).trans M_6).trans M_7);generalize upd (upd (upd (upd (upd (upd (upd H3 p1 (.tup [.str "number",.int z])) p2 (.tup [.str "name",.str x2])) p3 (.tup [.str "name",.str x2])) p4 (.tup [.str "arg"])) p5 (.tup [.str "now"])) p6 (.tup [.str "none"])) p7 (.lst [.ref p1,.ref p2,.ref p3,.ref p4,.ref p5,.ref p6])=H4 at *;clear M_1 M_2 M_3 M_4 M_5 M_6 M_7 m1 m2 m3 m4 m5 m6 m7;have J4:=J3.kp MM;have K6:=K5.trans (MM.mono (T:=[r]) (by simp));wp_walk using f7;have g0:0<=g % 6:=Int.emod_nonneg _ (by decide);have g1:g % 6 < 6:=Int.emod_lt_of_pos _ (by decide);refine kH g0 g1 fun v hv=>?_;simp only [List.mem_cons,List.not_mem_nil,or_false] at hv;rcases hv with rfl | rfl | rfl | rfl | rfl | rfl
    ·exact q _ (.num z) H4 (.num f1) hz (by simp only [Say.depth];omega) J4 K6
    ·exact q _ (.name x2) H4 (.name f2) trivial (by simp only [Say.depth];omega) J4 K6
    ·exact q _ (.name x2) H4 (.name f3) trivial (by simp only [Say.depth];omega) J4 K6
    ·exact q _ .arg H4 (.arg f4) trivial (by simp only [Say.depth];omega) J4 K6
    ·exact q _ .now H4 (.now f5) trivial (by simp only [Say.depth];omega) J4 K6
    ·exact q _ .non H4 (.non f6) trivial (by simp only [Say.depth];omega) J4 K6
   clear hRa;rcases ez with ⟨rfl,rfl⟩ | rfl
   ·wp_walk using wv;exact fin
   ·wp_walk using wv,reduceCtorEq,if_false;exact fin
  ·next hc =>
   clear hRI RI;refine hR3 _ _ ?_;clear hR3;clear R3;refine aF fun R4 hR4=>?_;wp_walk;split
   ·refine ⟨r,dp - 1,rfl,by omega,by omega,J2,fun v s H3 hv ok hdp J3 K3=>?_⟩;wp_walk;exact fun p hp=>q _ (.ans s) _ (.ans aA (hv.kp (aP.new hp))) ok (by simp only [Say.depth];omega) (J3.new hp) ((KK.trans K3).trans (Kp.new hp))
   refine hR4 _ _ ?_;clear hR4;clear R4;refine aF fun R5 hR5=>?_;wp_walk;split
   ·refine ⟨r,dp - 1,rfl,by omega,by omega,J2,fun v s H3 hv ok hdp J3 K3=>?_⟩;wp_walk;exact fun p hp=>q _ (.neg s) _ (.neg aA (hv.kp (aP.new hp))) ok (by simp only [Say.depth];omega) (J3.new hp) ((KK.trans K3).trans (Kp.new hp))
   refine hR5 _ _ ?_;clear hR5;clear R5;refine aF fun R6 hR6=>?_;wp_walk;refine ⟨r,dp - 1,rfl,by omega,by omega,J2,fun u s1 H3 hv1 ok1 hd1 J3 K3=>?_⟩;wp_walk;refine hR6 _ _ ?_;clear hR6;clear R6;wp_walk;refine fun p hp=>⟨J3.new hp,fun g4 H4 a4 b4 J4 K4=>?_⟩;wp_walk using made1J K4 J3 hp;refine kH a4 b4 fun v hv=>?_;wp_walk;refine ⟨r,dp - 1,rfl,by omega,by omega,J4,fun u2 s2 H5 hv2 ok2 hd2 J5 K5 p2 h2=>?_⟩;have K:=((KK.trans K3).trans ((Kp.new hp).trans K4)).trans (K5.trans (Kp.new (o:=.tup [v,u,u2]) h2));have T1:aP H3 (upd H5 p2 (.tup [v,u,u2])):=(((aP.new hp).trans ((J3.new hp).tk K4)).trans (J4.tk K5)).trans (aP.new h2);have fin:∀ gg:Sg,v=.str gg.s->Q (.ref p2) (upd H5 p2 (.tup [v,u,u2])):=fun gg e=>by
    subst e;exact q _ (.two gg s1 s2) _ (.two aA (hv1.kp T1) (hv2.kp (aP.new h2))) ⟨ok1,ok2⟩ (by simp only [Say.depth];omega) (J5.new h2) K
   simp only [List.mem_cons,List.not_mem_nil,or_false] at hv;rcases hv with e | e | e | e | e
   ·exact fin .add e
   ·exact fin .sub e
   ·exact fin .mul e
   ·exact fin .lt e
   ·exact fin .eq e
theorem cY {t:Ad} (T:Tx w K mg t):∀ d,bK P w K mg base CX0 (d+3) t.jB t.jD ["jar","deep"] (ah5 d):=by
 intro d
 induction d with
 | zero=>exact ⟨fun _ _ _ _ x=>by (obtain ⟨_,_,_,h,h',_⟩:=x;exact absurd h (by omega)),fun _ _ _ _ _ _ _ _ _ _ _ _ _ x=>by (obtain ⟨_,_,_,h,h',_⟩:=x;exact absurd h (by omega))⟩
 | succ d ih=>exact ad1 T (by omega) ih
theorem aaV {t:Ad} (T:Tx w K mg t):bK P w K mg base CX0 9 t.mW t.mV ["jar","name"] aqS:=by
 refine T.vF.ok gS (fun vs H Q E h=>?_) (fun cdv A outer s H vs Q E hr h=>?_)
 ·obtain ⟨r,x,rfl,_⟩:=h;rfl
 ·obtain ⟨r,x,rfl,hR,q⟩:=h;refine ⟨_,(aC (bC (i:=2) gS.nd rfl (Or.inl rfl) (bE aB))
   (aC (zF PassesOwn.never rfl (abV rfl T.ad6 (aD (bH cN aE (aN (bM T) (hr.mono (by omega)) rfl T.cG T.bZ.kp T.cF .nil pass0 (aD (pv 0) (aD aE aB)))) aB)) (c7 (i:=3) gS.nd rfl (Or.inl rfl)) (aC (bC (i:=4) gS.nd rfl (Or.inl rfl) (bE (aD (bD (aD aK (aD (aX bN (bE (aD aK (aD aK (aD aK (aD aK aB))))) (aN (bM T) (hr.mono (by omega)) rfl T.cG T.bZ.kp T.cF .nil pass0 (aD (pv 0) (aD aE aB))) (fun _ _=>rfl)) aB))) (aD (aN (cY T 4) (hr.mono (by omega)) rfl T.cP T.cK.kp T.cS .nil pass0 (aD (pv 0) (aD aE aB))) aB))))
   (aG (bL (j4 (pv 2) (aX bN (pv 4) (cC abT rfl T.atG amW (aD (fY cJ (aN (bM T) (hr.mono (by omega)) rfl T.cG T.bZ.kp T.cF .nil pass0 (aD (pv 0) (aD aE aB))) aE (nomark _)) aB)) (fun _ _=>rfl)))))))
   (aG (aO (bD (aD aK (aD (pv 1) (aD (cC fS rfl T.jG fZ (aD (pv 2) aB)) aB)))))))),?_⟩
  try dsimp only [L2.start,aZ,bJ,List.cons_append,List.nil_append,List.replicate_succ,List.replicate_zero,List.length_cons,List.length_nil,Nat.reduceAdd,Nat.reduceSub,Nat.zero_add]
  refine aF fun R1 hR1=>?_;wp_walk;refine fun sl hsl=>?_;have N1:=Kp.new (S:=[]) (o:=.lst []) hsl;have esl:upd H sl (.lst []) sl=some (.lst []):=aA;have nsr:sl≠r:=hR.none hsl;have J1:=hR.new (o:=.lst []) hsl;have KS:Kp [sl,r] H (upd H sl (.lst [])):=N1.mono (by simp);generalize upd H sl (.lst [])=G1 at *;clear N1;refine hR1 _ _ ?_;clear hR1;clear R1;refine aF fun R2 hR2=>?_;wp_walk;refine ⟨J1,fun g G2 a2 b2 J2 K2=>⟨⟨by omega,by omega⟩,?_⟩⟩;replace esl:=K2.at1 esl nsr;replace KS:=KS.trans (K2.mono (T:=[sl,r]) (by simp));clear K2 J1;obtain ⟨Pv,hPv⟩:∃ Pv:Nat->St->Hp->Prop,∀ i σ G,Pv i σ G = ∃(v3 v4:Option V) (vs:List V) (ss:List Say),σ=[some (.ref r),some (.str x),some (.ref sl),v3,v4]/\G sl=some (.lst vs)/\e8 G vs ss/\ss.length=i/\(∀ s∈ss,s.sok)/\cD G r/\Kp [sl,r] H G:=⟨_,fun _ _ _=>rfl⟩;refine abZ (lo:=0) Pv ?_ ?_ ?_
  ·rw [hPv];exact ⟨none,none,[],[],rfl,esl,.nil,rfl,by simp,J2,KS⟩
  ·intro i σ G hi hG;rw [hPv] at hG;obtain ⟨v3,v4,vs,ss,rfl,eS,hS,lS,hL,JG,KG⟩:=hG;have lv:=hS.lenW;have fin:∀(v3 v4:Option V) (v:V) (s:Say) (G':Hp),c9 G' v s->s.sok->G' sl=some (.lst vs)->e8 G' vs ss->cD G' r->Kp [sl,r] H G'->Pv (i+1) [some (.ref r),some (.str x),some (.ref sl),v3,v4] (upd G' sl (.lst (vs++[v]))):=fun v3 v4 v s G' x1 x2 x3 x4 x5 x6=>by
    have t:aP G' (upd G' sl (.lst (vs++[v]))):=aP.setO x3 (by intro _ z;cases z);have kd:Kp [sl] G' (upd G' sl (.lst (vs++[v]))):=Kp.set (by simp);rw [hPv];refine ⟨v3,v4,_,ss++[s],rfl,aA,(x4.kp t).snoc (x1.kp t),by simp [lS],fun y hy=>?_,?_,x6.trans (kd.mono (by simp))⟩
    ·rcases List.mem_append.mp hy with hy | hy
     ·exact hL y hy
     ·rw [show y=s by simpa using hy];exact x2
    ·obtain ⟨c,f,e,b⟩:=x5;exact ⟨c,f,kd.at1 e nsr.symm,b⟩
   clear hPv;refine aF fun Ra hRa=>?_;wp_walk;refine fun p3 h3=>⟨JG.new h3,fun g3 G3 a3 b3 J3 K3=>?_⟩;wp_walk using made1J K3 JG h3;refine kH a3 b3 fun y3 hy3=>?_;obtain ⟨x3,rfl⟩:∃ z:Str,y3=.str z:=by simp only [List.mem_cons,List.not_mem_nil,or_false] at hy3;rcases hy3 with rfl | rfl | rfl | rfl<;>exact ⟨_,rfl⟩
   wp_walk;refine fun p4 h4=>?_;have N4:=Kp.new (S:=[]) (o:=.tup [.str "name",.str x3]) h4;have f4:upd G3 p4 (.tup [.str "name",.str x3]) p4=some (.tup [.str "name",.str x3]):=aA;have KG4:Kp [sl,r] H (upd G3 p4 (.tup [.str "name",.str x3])):=((KG.trans (Kp.new h3)).trans (K3.mono (by simp))).trans (N4.mono (by simp));have e4:=N4.at (K3.at1 ((Kp.new (S:=[]) (o:=.lst [.str "a",.str "b",.str "aa",.str "d"]) h3).at eS) nsr);have hS4:=((hS.kp (aP.new (o:=.lst [.str "a",.str "b",.str "aa",.str "d"]) h3)).kp ((JG.new h3).tk K3)).kp (aP.nil N4);have J4:=J3.new (o:=.tup [.str "name",.str x3]) h4;generalize upd G3 p4 (.tup [.str "name",.str x3])=G4 at *;refine ⟨r,1,rfl,by decide,by decide,J4,fun v s G5 hv ok hd J5 K5 p6 h6=>?_⟩;have N6:=Kp.new (S:=[]) (o:=.lst [.ref p4,v]) h6;have f6:upd G5 p6 (.lst [.ref p4,v]) p6=some (.lst [.ref p4,v]):=aA;have T5:=J4.tk K5;have f4':=N6.at (T5 _ _ f4);have e6:=N6.at (K5.at1 e4 nsr);have hS6:=(hS4.kp T5).kp (aP.nil N6);have hv6:=hv.kp (aP.nil N6);have J6:=J5.new (o:=.lst [.ref p4,v]) h6;have KG6:Kp [sl,r] H (upd G5 p6 (.lst [.ref p4,v])):=(KG4.trans (K5.mono (by simp))).trans (N6.mono (by simp));have n6:p6≠r:=J5.none h6;generalize upd G5 p6 (.lst [.ref p4,v])=G6 at *;wp_walk;refine hRa _ _ ?_;clear hRa Ra KG4 e4 hS4 J4 f4 N4 h4 N6 h6 hv hS JG KG eS J3 K3 K5 J5 T5;wp_walk using e6;refine ⟨J6,fun g7 G7 a7 b7 J7 K7=>?_⟩;have T7:=J6.tk K7;have e7:=K7.at1 e6 nsr;have f7:=K7.at1 f6 n6;wp_walk using f7;have back:∀ v':V,v'=.ref p4\/v'=v->Pv (i+1) [some (.ref r),some (.str x),some (.ref sl),some (.int (0+(i:Nat))),some (.ref p6)] (upd G7 sl (.lst (vs++[v']))):=fun v' hv'=>by
    rcases hv' with rfl | rfl
    ·exact fin _ _ _ (.name x3) G7 (.name (T7 _ _ f4')) ⟨trivial,by simp [Say.depth]⟩ e7 (hS6.kp T7) J7 (KG6.trans (K7.mono (by simp)))
    ·exact fin _ _ _ s G7 (hv6.kp T7) ⟨ok,by omega⟩ e7 (hS6.kp T7) J7 (KG6.trans (K7.mono (by simp)))
   have i1:kC [V.ref p4,v] (if decide (g7=0)=true then 1 else 0)=some (if g7=0 then v else .ref p4):=by
    by_cases hz:g7=0
    ·rw [if_pos (decide_eq_true hz),if_pos hz];rfl
    ·rw [if_neg (by simpa using hz),if_neg hz];rfl
   wp_walk using i1,e7;exact ⟨by omega,back _ (by split;exact .inr rfl;exact .inl rfl)⟩
  intro σ G hG;rw [hPv] at hG;obtain ⟨v3,v4,vs,ss,rfl,eS,hS,lS,hL,JG,KG⟩:=hG;clear hPv;refine hR2 _ _ ?_;clear hR2;clear R2;wp_walk using eS;intro l m1 p m2;have N:=(Kp.new (S:=[]) (o:=.tup vs) m1).trans (Kp.new (o:=.tup [.str "wait",.str x,.ref l]) m2);exact q _ ss _ (.wait aA ((Kp.new (S:=[]) m2).at aA) (hS.kp (aP.nil N))) (by omega) hL ((JG.new m1).new m2) ((Kp.drop KG hsl).trans (N.mono (by simp)))
theorem mH {t:Ad} (T:Tx w K mg t) {n d:Nat} (hn:9<=n) (IH:bK P w K mg base CX0 n t.iW t.iV ["jar","deep","room"] (adI d)):bK P w K mg base CX0 (n+1) t.fB t.fD ["jar","deep","room"] (ah1 d):=by
 refine T.pD.ok eC (fun vs H Q E h=>?_) (fun cdv A outer s H vs Q E hr h=>?_)
 ·obtain ⟨r,m,dp,rfl,_⟩:=h;rfl
 ·obtain ⟨r,m,dp,rfl,d1,d2,hR,hM,nrm,q⟩:=h;refine ⟨_,(aC (bC (i:=3) eC.nd rfl (Or.inl rfl) (aN (bM T) (hr.mono (by omega)) rfl T.cG T.bZ.kp T.cF .nil pass0 (aD (pv 0) (aD aE aB))))
   (aC (bC (i:=4) eC.nd rfl (Or.inl rfl) (aX bN (bE (aD aK (aD aK (aD aK (aD aK aB))))) (aN (bM T) (hr.mono (by omega)) rfl T.cG T.bZ.kp T.cF .nil pass0 (aD (pv 0) (aD aE aB))) (fun _ _=>rfl)))
   (aC (bC (i:=5) eC.nd rfl (Or.inl rfl) (aX bN (bE (aD aK (aD aK (aD aK aB)))) (aN (bM T) (hr.mono (by omega)) rfl T.cG T.bZ.kp T.cF .nil pass0 (aD (pv 0) (aD aE aB))) (fun _ _=>rfl)))
   (aC (bP (aS pK (pv 3) aE (nomark _)) (aG (aO (bD (aD aK (aD (pv 4) (aD (pv 5) (aD (aN (cY T 4) (hr.mono (by omega)) rfl T.cP T.cK.kp T.cS .nil pass0 (aD (pv 0) (aD aE aB))) aB))))))) bA)
   (aC (bP (aS pK (pv 3) aE (nomark _)) (aG (aO (aN (aaV T) (hr.mono (by omega)) rfl T.afU T.vF.kp T.aeU .nil pass0 (aD (pv 0) (aD (pv 4) aB))))) bA)
   (aC (bP (aS pK (pv 3) aE (nomark _)) (aG (aO (bD (aD aK (aD (pv 4) (aD (pv 5) aB)))))) bA)
   (aC (bP (PW.pt (ad3 (aS pK (pv 3) aE (nomark _)) (v7 (aS amU (pv 1) aE (nomark _))))) (aG (aO (bD (aD aK (aD (aN (cY T 4) (hr.mono (by omega)) rfl T.cP T.cK.kp T.cS .nil pass0 (aD (pv 0) (aD aE aB))) (aD (aN IH (hr.mono (by omega)) rfl T.oU T.kT.kp T.oS .nil pass0 (aD (pv 0) (aD (bH g9 (pv 1) aE) (aD (pv 2) aB)))) (aD (aN IH (hr.mono (by omega)) rfl T.oU T.kT.kp T.oS .nil pass0 (aD (pv 0) (aD (bH g9 (pv 1) aE) (aD (pv 2) aB)))) aB))))))) bA)
   (aC (bP (PW.pt (ad3 (aS pK (pv 3) aE (nomark _)) (v7 (aS amU (pv 1) aE (nomark _))))) (aG (aO (bD (aD aK (aD (aN (cY T 4) (hr.mono (by omega)) rfl T.cP T.cK.kp T.cS .nil pass0 (aD (pv 0) (aD aE aB))) (aD (aN IH (hr.mono (by omega)) rfl T.oU T.kT.kp T.oS .nil pass0 (aD (pv 0) (aD (bH g9 (pv 1) aE) (aD (pv 2) aB)))) aB)))))) bA)
   (aC (bP (aS cJ (pv 3) aE (nomark _)) (aG (aO (bD (aD aK (aD (aN (cY T 4) (hr.mono (by omega)) rfl T.cP T.cK.kp T.cS .nil pass0 (aD (pv 0) (aD aE aB))) (aD (pv 5) (aD (aN (cY T 4) (hr.mono (by omega)) rfl T.cP T.cK.kp T.cS .nil pass0 (aD (pv 0) (aD aE aB))) aB))))))) bA)
   (aC (bP (aS cJ (pv 3) aE (nomark _)) (aC (bC (i:=6) eC.nd rfl (Or.inl rfl) (aN (cY T 4) (hr.mono (by omega)) rfl T.cP T.cK.kp T.cS .nil pass0 (aD (pv 0) (aD aE aB))))
   (aG (aO (aX bN (bE (aD (bD (aD aK (aD (pv 4) (aD (pv 6) aB)))) (aD (bD (aD aK (aD (pv 4) (aD (pv 5) (aD (pv 6) aB))))) aB))) (aN (bM T) (hr.mono (by omega)) rfl T.cG T.bZ.kp T.cF .nil pass0 (aD (pv 0) (aD aE aB))) (fun _ _=>rfl))))) bA)
   (aC (bP (aS cJ (pv 3) aE (nomark _)) (aG (aO (bD (aD aK (aD (aN (cY T 4) (hr.mono (by omega)) rfl T.cP T.cK.kp T.cS .nil pass0 (aD (pv 0) (aD aE aB))) aB))))) bA)
   (aG (aO (bD (aD aK (aD (pv 4) (aD (aN (cY T 4) (hr.mono (by omega)) rfl T.cP T.cK.kp T.cS .nil pass0 (aD (pv 0) (aD aE aB))) aB))))))))))))))))),?_⟩
  try dsimp only [L2.start,aZ,bJ,List.cons_append,List.nil_append,List.replicate_succ,List.replicate_zero,List.length_cons,List.length_nil,Nat.reduceAdd,Nat.reduceSub,Nat.zero_add]
  refine aF fun R1 hR1=>?_;wp_walk;refine ⟨hR,fun g G1 a1 b1 J1 K1=>?_⟩;wp_walk;refine hR1 _ _ ?_;clear hR1;clear R1;refine aF fun R2 hR2=>?_;wp_walk;refine fun p2 h2=>⟨J1.new h2,fun g2 G2 a2 b2 J2 K2=>?_⟩;wp_walk using made1J K2 J1 h2;refine kH a2 b2 fun y2 hy2=>?_;obtain ⟨x2,rfl,hx2⟩:∃ z:Str,y2=.str z/\z∈NM4:=by simp only [List.mem_cons,List.not_mem_nil,or_false] at hy2;rcases hy2 with rfl | rfl | rfl | rfl<;>exact ⟨_,rfl,by simp [NM4]⟩
  wp_walk;refine hR2 _ _ ?_;clear hR2;clear R2;refine aF fun R3 hR3=>?_;wp_walk;refine fun p3 h3=>⟨J2.new h3,fun g3 G3 a3 b3 J3 K3=>?_⟩;wp_walk using made1J K3 J2 h3;refine kH a3 b3 fun y3 hy3=>?_;obtain ⟨x3,rfl,hx3⟩:∃ z:Str,y3=.str z/\z∈KY3:=by simp only [List.mem_cons,List.not_mem_nil,or_false] at hy3;rcases hy3 with rfl | rfl | rfl<;>exact ⟨_,rfl,by simp [KY3]⟩
  wp_walk;refine hR3 _ _ ?_;clear hR3;clear R3;have K13:Kp [r] H G3:=(K1.trans ((Kp.new h2).trans K2)).trans ((Kp.new h3).trans K3);have M3:=hM.kj K13 nrm;have KK:Kp [r,m] H G3:=K13.mono (by simp);clear K1 K2 K3 h2 h3 J1 J2 K13 hR hM;refine aF fun R4 hR4=>?_;wp_walk;split
  ·skip;refine ⟨r,1,rfl,by decide,by decide,J3,fun u4 s4 G4 hv4 ok4 hd4 J4 K4=>?_⟩;wp_walk;refine fun p hp=>?_;have N:=Kp.new (S:=[]) (o:=.tup [.str "order",.str x2,.str x3,u4]) hp;have w4:=hv4.kp (aP.nil N);exact q _ (.order x2 x3 s4) _ (.order aA w4) ⟨ok4,by omega⟩ (by first | (simp only [Stm.nmIn];done) | (simp only [Stm.nmIn];exact hx2)) (by simp only [Stm.dp];omega) (J4.new hp) ((M3.kj K4 nrm).kp N) ((KK.trans (K4.mono (by simp))).trans (N.mono (by simp)))
  refine hR4 _ _ ?_;clear hR4;clear R4;refine aF fun R5 hR5=>?_;wp_walk;split
  ·refine ⟨r,x2,rfl,J3,fun v ss G4 hv l4 hs J4 K4=>?_⟩;wp_walk;exact q v (.wait x2 ss) G4 hv ⟨rfl,l4,hs⟩ (by simp only [Stm.nmIn];exact ⟨hx2,l4⟩) (by simp only [Stm.dp];omega) J4 (M3.kj K4 nrm) (KK.trans (K4.mono (by simp)))
  refine hR5 _ _ ?_;clear hR5;clear R5;refine aF fun R6 hR6=>?_;wp_walk;split
  ·skip;refine fun p hp=>?_;have N:=Kp.new (S:=[]) (o:=.tup [.str "hear",.str x2,.str x3]) hp;exact q _ (.hear x2 x3) _ (.hear aA) trivial (by first | (simp only [Stm.nmIn];done) | (simp only [Stm.nmIn];exact hx2)) (by simp only [Stm.dp];omega) (J3.new hp) (M3.kp N) (KK.trans (N.mono (by simp)))
  refine hR6 _ _ ?_;clear hR6;clear R6;refine aF fun R7 hR7=>?_;refine uW fun RI hRI=>?_;wp_walk;simp only [at8];split
  ·next hc =>
   refine hRI _ _ ?_;clear hRI RI;wp_walk;refine ⟨r,2,rfl,by decide,by decide,J3,fun u4 s4 G4 hv4 ok4 hd4 J4 K4=>?_⟩;have M4:=M3.kj K4 nrm;wp_walk;refine ⟨r,m,dp - 1,rfl,by omega,by omega,J4,M4,nrm,fun p5 us5 b5 G5 e5 hs5 gd5 nm5 dp5 l5 J5 M5 K5=>?_⟩;wp_walk;refine ⟨r,m,dp - 1,rfl,by omega,by omega,J5,M5,nrm,fun p6 us6 b6 G6 e6 hs6 gd6 nm6 dp6 l6 J6 M6 K6=>?_⟩;wp_walk;refine fun p hp=>?_;have N:=Kp.new (S:=[]) (o:=.tup [.str "if",u4,.ref p5,.ref p6]) hp;have T6:=(J5.tk2 M5 K6).trans (aP.nil N);have T5:=(J4.tk2 M4 K5).trans T6;exact q _ (.iff s4 b5 b6) _ (.iff aA (hv4.kp T5) (T6 _ _ e5) (hs5.kp T6) (N.at e6) (hs6.kp (aP.nil N))) ⟨⟨ok4,by omega⟩,gd5,gd6⟩ (by simp only [Stm.nmIn];exact ⟨⟨by omega,by omega⟩,nm5,nm6⟩) (by simp only [Stm.dp];omega) (J6.new hp) (M6.kp N) ((((KK.trans (K4.mono (by simp))).trans K5).trans K6).trans (N.mono (by simp)))
  clear hRI RI;refine hR7 _ _ ?_;clear hR7;clear R7;refine aF fun R8 hR8=>?_;refine uW fun RI hRI=>?_;wp_walk;simp only [at8];split
  ·next hc =>
   refine hRI _ _ ?_;clear hRI RI;wp_walk;refine ⟨r,2,rfl,by decide,by decide,J3,fun u4 s4 G4 hv4 ok4 hd4 J4 K4=>?_⟩;have M4:=M3.kj K4 nrm;wp_walk;refine ⟨r,m,dp - 1,rfl,by omega,by omega,J4,M4,nrm,fun p5 us5 b5 G5 e5 hs5 gd5 nm5 dp5 l5 J5 M5 K5=>?_⟩;wp_walk;refine fun p hp=>?_;have N:=Kp.new (S:=[]) (o:=.tup [.str "while",u4,.ref p5]) hp;have T5:=(J4.tk2 M4 K5).trans (aP.nil N);exact q _ (.whl s4 b5) _ (.whl aA (hv4.kp T5) (N.at e5) (hs5.kp (aP.nil N))) ⟨⟨ok4,by omega⟩,gd5⟩ (by simp only [Stm.nmIn];exact ⟨by omega,nm5⟩) (by simp only [Stm.dp];omega) (J5.new hp) (M5.kp N) (((KK.trans (K4.mono (by simp))).trans K5).trans (N.mono (by simp)))
  clear hRI RI;refine hR8 _ _ ?_;clear hR8;clear R8;refine aF fun R9 hR9=>?_;wp_walk;split
  ·skip;refine ⟨r,1,rfl,by decide,by decide,J3,fun u4 s4 G4 hv4 ok4 hd4 J4 K4=>?_⟩;wp_walk;refine ⟨r,2,rfl,by decide,by decide,J4,fun u5 s5 G5 hv5 ok5 hd5 J5 K5=>?_⟩;wp_walk;refine fun p hp=>?_;have N:=Kp.new (S:=[]) (o:=.tup [.str "send",u4,.str x3,u5]) hp;have w4:=hv4.kp ((J4.tk K5).trans (aP.nil N));have w5:=hv5.kp (aP.nil N);exact q _ (.send s4 x3 s5) _ (.send aA w4 w5) ⟨⟨ok4,by omega⟩,ok5,by omega⟩ (by first | (simp only [Stm.nmIn];done) | (simp only [Stm.nmIn];exact hx2)) (by simp only [Stm.dp];omega) (J5.new hp) (((M3.kj K4 nrm).kj K5 nrm).kp N) (((KK.trans (K4.mono (by simp))).trans (K5.mono (by simp))).trans (N.mono (by simp)))
  refine hR9 _ _ ?_;clear hR9;clear R9;refine aF fun R10 hR10=>?_;refine uW fun RI hRI=>?_;wp_walk;split
  ·refine hRI _ _ ?_;clear hRI RI;refine aF fun Ra hRa=>?_;wp_walk;refine ⟨r,1,rfl,by decide,by decide,J3,fun u4 s4 G4 hv4 ok4 hd4 J4 K4=>?_⟩;wp_walk;refine hRa _ _ ?_;clear hRa;clear Ra;wp_walk;refine fun p5 h5 p6 h6 p7 h7=>?_;have M_1:=Kp.new (S:=[]) (o:=.tup [.str "timer",.str x2,u4]) h5;have M_2:=Kp.new (S:=[]) (o:=.tup [.str "child",.str x2,.str x3,u4]) h6;have M_3:=Kp.new (S:=[]) (o:=.lst [.ref p5,.ref p6]) h7;have f1:=(M_2.trans M_3).at (aA:(upd G4 p5 (.tup [.str "timer",.str x2,u4])) p5=some (.tup [.str "timer",.str x2,u4]));have f2:=M_3.at (aA:(upd (upd G4 p5 (.tup [.str "timer",.str x2,u4])) p6 (.tup [.str "child",.str x2,.str x3,u4])) p6=some (.tup [.str "child",.str x2,.str x3,u4]));have f3:(upd (upd (upd G4 p5 (.tup [.str "timer",.str x2,u4])) p6 (.tup [.str "child",.str x2,.str x3,u4])) p7 (.lst [.ref p5,.ref p6])) p7=some (.lst [.ref p5,.ref p6]):=aA;have MM:=((M_1.trans M_2).trans M_3);generalize upd (upd (upd G4 p5 (.tup [.str "timer",.str x2,u4])) p6 (.tup [.str "child",.str x2,.str x3,u4])) p7 (.lst [.ref p5,.ref p6])=G7 at *;clear M_1 M_2 M_3 h5 h6 h7;have J7:=J4.kp MM;have n7:p7≠r:=by
    obtain ⟨_,_,e,_⟩:=J7;exact dP f3 e (by intro z;simp at z)
   refine ⟨J7,fun g8 G8 a8 b8 J8 K8=>?_⟩;have T8:=J7.tk K8;wp_walk using K8.at1 f3 n7;have T:=(aP.nil MM).trans T8;have KF:Kp [r,m] H G8:=((KK.trans (K4.mono (by simp))).trans (MM.mono (by simp))).trans (K8.mono (by simp));have MF:=((M3.kj K4 nrm).kp MM).kj K8 nrm;refine kH a8 b8 fun v hv=>?_;simp only [List.mem_cons,List.not_mem_nil,or_false] at hv;rcases hv with rfl | rfl
   ·exact q _ (.timer x2 s4) _ (.timer (T8 _ _ f1) (hv4.kp T)) ⟨ok4,by omega⟩ (by first | (simp only [Stm.nmIn];done) | (simp only [Stm.nmIn];exact hx2)) (by simp only [Stm.dp];omega) J8 MF KF
   ·exact q _ (.child x2 x3 s4) _ (.child (T8 _ _ f2) (hv4.kp T)) ⟨ok4,by omega⟩ (by first | (simp only [Stm.nmIn];done) | (simp only [Stm.nmIn];exact hx2)) (by simp only [Stm.dp];omega) J8 MF KF
  clear hRI RI;refine hR10 _ _ ?_;clear hR10;clear R10;refine aF fun R11 hR11=>?_;wp_walk;split
  ·skip;refine ⟨r,1,rfl,by decide,by decide,J3,fun u4 s4 G4 hv4 ok4 hd4 J4 K4=>?_⟩;wp_walk;refine fun p hp=>?_;have N:=Kp.new (S:=[]) (o:=.tup [.str "drop",u4]) hp;have w4:=hv4.kp (aP.nil N);exact q _ (.drop s4) _ (.drop aA w4) ⟨ok4,by omega⟩ (by first | (simp only [Stm.nmIn];done) | (simp only [Stm.nmIn];exact hx2)) (by simp only [Stm.dp];omega) (J4.new hp) ((M3.kj K4 nrm).kp N) ((KK.trans (K4.mono (by simp))).trans (N.mono (by simp)))
  refine hR11 _ _ ?_;clear hR11;clear R11;wp_walk;refine ⟨r,3,rfl,by decide,by decide,J3,fun u4 s4 G4 hv4 ok4 hd4 J4 K4=>?_⟩;wp_walk;refine fun p hp=>?_;have N:=Kp.new (S:=[]) (o:=.tup [.str "set",.str x2,u4]) hp;have w4:=hv4.kp (aP.nil N);exact q _ (.set x2 s4) _ (.set aA w4) ⟨ok4,by omega⟩ (by first | (simp only [Stm.nmIn];done) | (simp only [Stm.nmIn];exact hx2)) (by simp only [Stm.dp];omega) (J4.new hp) ((M3.kj K4 nrm).kp N) ((KK.trans (K4.mono (by simp))).trans (N.mono (by simp)))
theorem vC {t:Ad} (T:Tx w K mg t) {n d:Nat} (hn:3<=n) (IH:bK P w K mg base CX0 n t.fB t.fD ["jar","deep","room"] (ah1 d)):bK P w K mg base CX0 (n+1) t.iW t.iV ["jar","deep","room"] (adI (d+1)):=by
 refine T.kT.ok n8 (fun vs H Q E h=>?_) (fun cdv A outer s H vs Q E hr h=>?_)
 ·obtain ⟨r,m,dp,rfl,_⟩:=h;rfl
 ·obtain ⟨r,m,dp,rfl,d1,d2,hR,hM,nrm,q⟩:=h;refine ⟨_,(aC (bC (i:=3) n8.nd rfl (Or.inl rfl) (bE aB))
   (aC (zF PassesOwn.never rfl (abV rfl T.ad6 (aD (bH cN (aN (bM T) (hr.mono (by omega)) rfl T.cG T.bZ.kp T.cF .nil pass0 (aD (pv 0) (aD aE aB))) (bH pT aE (cC abT rfl T.atG amW (aD (fY cJ (pv 1) aE (nomark _)) aB)))) aB)) (c7 (i:=4) n8.nd rfl (Or.inl rfl)) (aG (bP (aS amU (aX bN (pv 2) aE (fun _ _=>rfl)) aE (nomark _)) (aC (xJ (bH g9 (aX bN (pv 2) aE (fun _ _=>rfl)) aE) (ahJ (pv 2) aE ajE))
   (aG (bL (j4 (pv 3) (aN IH (hr.mono (by omega)) rfl T.abE T.pD.kp T.aaX .nil pass0 (aD (pv 0) (aD (pv 1) (aD (pv 2) aB)))))))) bA)))
   (aG (aO (cC fS rfl T.jG fZ (aD (pv 3) aB)))))),?_⟩
  try dsimp only [L2.start,aZ,bJ,List.cons_append,List.nil_append,List.replicate_succ,List.replicate_zero,List.length_cons,List.length_nil,Nat.reduceAdd,Nat.reduceSub,Nat.zero_add]
  refine aF fun R1 hR1=>?_;wp_walk;refine fun bl hbl=>?_;have N1:=Kp.new (S:=[]) (o:=.lst []) hbl;have ebl:upd H bl (.lst []) bl=some (.lst []):=aA;have nbr:bl≠r:=hR.none hbl;have nbm:bl≠m:=by
   obtain ⟨_,e,_⟩:=hM;exact (aL e hbl).symm
  have J1:=hR.new (o:=.lst []) hbl;have M1:=hM.kp N1;have KS:Kp [bl,r,m] H (upd H bl (.lst [])):=N1.mono (by simp);generalize upd H bl (.lst [])=G1 at *;clear N1 hR hM;refine hR1 _ _ ?_;clear hR1;clear R1;refine aF fun R2 hR2=>?_;wp_walk;refine ⟨J1,fun g G2 a2 b2 J2 K2=>?_⟩;obtain ⟨f,hf,ef⟩:∃ f:Int,(0<=f/\f<=1)/\(if decide (dp=3)=true then (1:Int) else 0)=f:=⟨_,by split<;>omega,rfl⟩;rw [ef];refine ⟨acD (by omega) (by omega),⟨by omega,by omega⟩,?_⟩;replace ebl:=K2.at1 ebl nbr;replace KS:=KS.trans (K2.mono (T:=[bl,r,m]) (by simp));have M2:=M1.kj K2 nrm;clear K2 J1 M1 ef;obtain ⟨Pv,hPv⟩:∃ Pv:Nat->St->Hp->Prop,∀ i σ G,Pv i σ G = ∃(v4:Option V) (us:List V) (b:List Stm),σ=[some (.ref r),some (.int dp),some (.ref m),some (.ref bl),v4]/\G bl=some (.lst us)/\cM G us b/\b.length<=i/\wH true b/\dI NM4 b/\(dpL b:Int)<=dp/\cD G r/\fL G m/\Kp [bl,r,m] H G:=⟨_,fun _ _ _=>rfl⟩;refine abZ (lo:=0) Pv ?_ ?_ ?_
  ·rw [hPv];exact ⟨none,[],[],rfl,ebl,.nil,Nat.le_refl _,by simp only [wH],by simp only [dI],by simpa [dpL] using d1,J2,M2,KS⟩
  ·intro i σ G hi hG;rw [hPv] at hG;obtain ⟨v4,us,b,rfl,eB,hs,lb,gb,nb,db,JG,MG,KG⟩:=hG;have back:∀(v4:Option V) (us:List V) (b:List Stm) (G':Hp),G' bl=some (.lst us)->cM G' us b->b.length<=i+1->wH true b->dI NM4 b->(dpL b:Int)<=dp->cD G' r->fL G' m->Kp [bl,r,m] H G'->Pv (i+1) [some (.ref r),some (.int dp),some (.ref m),some (.ref bl),v4] G':=fun v4 us b G' x1 x2 x3 x4 x5 x6 x7 x8 x9=>by
    rw [hPv];exact ⟨_,_,_,rfl,x1,x2,x3,x4,x5,x6,x7,x8,x9⟩
   clear hPv;obtain ⟨n0,em,hn0⟩:=id MG;have lu:=hs.len;refine uW fun RI hRI=>?_;wp_walk using em;split
   ·next hc =>
    refine hRI _ _ ?_;clear hRI RI;refine aF fun Ra hRa=>?_;wp_walk using em;have km:Kp [m] G (upd G m (.lst [.int (n0 - 1)])):=Kp.set (by simp);have t3:aP G (upd G m (.lst [.int (n0 - 1)])):=aP.setO em (by intro _ z;cases z);have M3:fL (upd G m (.lst [.int (n0 - 1)])) m:=⟨n0 - 1,aA,by omega⟩;have J3:cD (upd G m (.lst [.int (n0 - 1)])) r:=by
     obtain ⟨c,f,e,x⟩:=JG;exact ⟨c,f,km.at1 e nrm,x⟩
    have eB3:=km.at1 eB nbm;have hs3:=hs.kp t3;have KG3:=KG.trans (km.mono (T:=[bl,r,m]) (by simp));generalize upd G m (.lst [.int (n0 - 1)])=G3 at *;refine hRa _ _ ?_;clear hRa Ra km t3;wp_walk using eB3;refine ⟨r,m,dp,rfl,d1,by omega,J3,M3,nrm,fun v x G4 hv gx nx dx J4 M4 K4=>?_⟩;have T4:=J3.tk2 M3 K4;have eB4:=K4 _ _ eB3 (by simp only [List.mem_cons,List.not_mem_nil,or_false,not_or];exact ⟨nbr,nbm⟩);wp_walk using eB4;refine ⟨by omega,?_⟩;have kb:Kp [bl] G4 (upd G4 bl (.lst (us++[v]))):=Kp.set (by simp);have t5:aP G4 (upd G4 bl (.lst (us++[v]))):=aP.setO eB4 (by intro _ z;cases z);refine back _ _ (b++[x]) _ aA (((hs3.kp T4).snoc hv).kp t5) (by simp;omega) (afL gb gx) (agQ nb nx) (by rw [xK];omega) ?_ ?_ ((KG3.trans (K4.mono (by simp))).trans (kb.mono (by simp)))
    ·obtain ⟨c,f,e,x⟩:=J4;exact ⟨c,f,kb.at1 e nbr.symm,x⟩
    ·obtain ⟨c,e,x⟩:=M4;exact ⟨c,kb.at1 e nbm.symm,x⟩
   ·wp_walk;exact back _ us b G eB hs (by omega) gb nb db JG MG KG
  intro σ G hG;rw [hPv] at hG;obtain ⟨v4,us,b,rfl,eB,hs,lb,gb,nb,db,JG,MG,KG⟩:=hG;clear hPv;refine hR2 _ _ ?_;clear hR2;clear R2;wp_walk using eB;intro p hp;have N:=Kp.new (S:=[]) (o:=.tup us) hp;exact q p us b _ aA (hs.kp (aP.nil N)) gb nb db (by omega) (JG.new hp) (MG.kp N) ((Kp.drop KG hbl).trans (N.mono (by simp)))
theorem blk0 {t:Ad} (T:Tx w K mg t):bK P w K mg base CX0 9 t.iW t.iV ["jar","deep","room"] (adI 0) :=
 ⟨fun _ _ _ _ x=>by (obtain ⟨_,_,_,_,h,h',_⟩:=x;exact absurd h (by omega)),fun _ _ _ _ _ _ _ _ _ _ _ _ _ x=>by (obtain ⟨_,_,_,_,h,h',_⟩:=x;exact absurd h (by omega))⟩
theorem ai0 {t:Ad} (T:Tx w K mg t):∀ d:Nat,bK P w K mg base CX0 (2 * d+10) t.fB t.fD ["jar","deep","room"] (ah1 d)/\bK P w K mg base CX0 (2 * d+11) t.iW t.iV ["jar","deep","room"] (adI (d+1))
 | 0=>by
  have a:=mH (P:=P) (base:=base) T (n:=9) (d:=0) (Nat.le_refl _) (blk0 T);exact ⟨a,vC T (by omega) a⟩
 | d+1=>by
  have a:=mH (P:=P) (base:=base) T (n:=2 * d+11) (d:=d+1) (by omega) (ai0 T d).2;exact ⟨a,vC T (by omega) a⟩
theorem aaZ {t:Ad} (T:Tx w K mg t):bK P w K mg base CX0 20 t.nF t.mQ ["cell"] avK:=by
 refine T.uY.ok kQ (fun vs H Q E h=>?_) (fun cdv A outer s H vs Q E hr h=>?_)
 ·obtain ⟨c,rfl,_⟩:=h;rfl
 ·obtain ⟨c,rfl,q⟩:=h;refine ⟨_,(aC (bC (i:=1) kQ.nd rfl (Or.inl rfl) (aN (acK T) (hr.mono (by omega)) rfl T.ajT T.adH.kp T.ajX .nil pass0 (aD (pv 0) aB)))
   (aC (bC (i:=2) kQ.nd rfl (Or.inl rfl) (aN (ai0 T 3).2 (hr.mono (by omega)) rfl T.oU T.kT.kp T.oS .nil pass0 (aD (pv 1) (aD aE (aD (bE (aD aE aB)) aB)))))
   (aG (aO (bH rY (pv 2) (bH asN (bD (aD (bD (aD aK (aD (aN (cY T 4) (hr.mono (by omega)) rfl T.cP T.cK.kp T.cS .nil pass0 (aD (pv 1) (aD aE aB))) aB))) aB)) (aN (bM T) (hr.mono (by omega)) rfl T.cG T.bZ.kp T.cF .nil pass0 (aD (pv 1) (aD aE aB))))))))),?_⟩
  try dsimp only [L2.start,aZ,bJ,List.cons_append,List.nil_append,List.replicate_succ,List.replicate_zero,List.length_cons,List.length_nil,Nat.reduceAdd,Nat.reduceSub,Nat.zero_add]
  refine aF fun R1 hR1=>?_;wp_walk;refine fun r G1 hr1 K1 J1=>?_;refine hR1 _ _ ?_;clear hR1;clear R1;refine aF fun R2 hR2=>?_;wp_walk;refine fun m hm=>?_;have N2:=Kp.new (S:=[]) (o:=.lst [.int 40]) hm;have M2:fL (upd G1 m (.lst [.int 40])) m:=⟨40,aA,by decide⟩;have J2:=J1.new (o:=.lst [.int 40]) hm;have nrm:r≠m:=(J1.none hm).symm;have hmH:H m=none:=by
   cases e:H m with
   | none=>rfl
   | some o=>rw [K1.at e] at hm;cases hm
  have K2:Kp [r,m] H (upd G1 m (.lst [.int 40])):=(K1.trans N2).mono (by simp);generalize upd G1 m (.lst [.int 40])=G2 at *;clear N2 K1 J1 hm;refine ⟨r,m,3,rfl,by decide,by decide,J2,M2,nrm,fun p us b G3 ep hs gb nb db lb J3 M3 K3=>?_⟩;have K3':Kp [r,m] H G3:=K2.trans K3;clear K2 K3 J2 M2;wp_walk;refine hR2 _ _ ?_;clear hR2;clear R2;wp_walk;refine ⟨r,1,rfl,by decide,by decide,J3,fun u s G4 hv ok hd J4 K4 p1 m1 p2 m2=>⟨(J4.new m1).new m2,fun g G6 g0 g1 J6 K6=>?_⟩⟩;have M_1:=Kp.new (S:=[]) (o:=.tup [.str "end",u]) m1;have M_2:=Kp.new (S:=[]) (o:=.tup [.ref p1]) m2;have f1:=M_2.at (aA:(upd G4 p1 (.tup [.str "end",u])) p1=some (.tup [.str "end",u]));have f2:(upd (upd G4 p1 (.tup [.str "end",u])) p2 (.tup [.ref p1])) p2=some (.tup [.ref p1]):=aA;have MM:=(M_1.trans M_2);generalize upd (upd G4 p1 (.tup [.str "end",u])) p2 (.tup [.ref p1])=G5 at *;clear M_1 M_2 m1 m2;have J5:=J4.kp MM;have T6:=J5.tk K6;have T4:=(J3.tk K4).trans ((aP.nil MM).trans T6);have f1':=T6 _ _ f1;have f2':=T6 _ _ f2;have ep6:=T4 _ _ ep;have hs6:=hs.kp T4;have sv:dJ G6 (.ref p1) (.fin s):=.fin f1' (hv.kp ((aP.nil MM).trans T6));have gs:(Stm.fin s).gd true:=⟨ok,by omega⟩;have KF:Kp [] H G6:=Kp.drop (Kp.drop (((K3'.trans (K4.mono (by simp))).trans (MM.mono (by simp))).trans (K6.mono (by simp))) hr1) hmH;have lu:=hs.len;wp_walk using f2';refine ⟨by simp,?_⟩;have lf:dpL [Stm.fin s]=0:=by simp [dpL,Stm.dp]
  by_cases hg:g=1
  ·refine .inl ⟨hg,?_⟩;wp_walk using f2',ep6;refine ⟨by omega,?_⟩;split
   ·exact q p2 _ [.fin s] G6 f2' (.cons sv .nil) (an6 fun y hy=>by rw [show y=.fin s by simpa using hy];exact gs) (by simp only [dI,Stm.nmIn];exact ⟨trivial,trivial⟩) (by omega) (by simp) KF
   ·intro p3 h3;have N:=Kp.new (S:=[]) (o:=.tup (us++[.ref p1])) h3;exact q p3 _ (b++[.fin s]) _ aA ((hs6.snoc sv).kp (aP.nil N)) (afL gb gs) (agQ nb (by simp only [Stm.nmIn])) (by rw [xK];simp only [Stm.dp];omega) (by simp;omega) (KF.trans N)
  ·refine .inr ⟨by omega,fun p3 h3=>?_⟩;have N:=Kp.new (S:=[]) (o:=.tup []) h3;have e3:upd G6 p3 (.tup []) p3=some (.tup []):=aA;replace ep6:=N.at ep6;replace hs6:=hs6.kp (aP.nil N);replace KF:=KF.trans N;generalize upd G6 p3 (.tup [])=G7 at *;wp_walk using e3,ep6;refine ⟨by omega,?_⟩;split
   ·exact q p3 [] [] G7 e3 .nil (by simp only [wH]) (by simp only [dI]) (by simp [dpL]) (by simp) KF
   ·exact q p us b G7 ep6 hs6 gb nb (by omega) (by omega) KF
theorem afC {t:Ad} (T:Tx w K mg t):bK P w K mg base CX0 1 t.oW t.uE ["self","program"] (agP t.aV):=by
 refine T.amC.ok afD (fun vs H Q E h=>?_) (fun cdv A outer s H vs Q E hr h=>?_)
 ·obtain ⟨x,dx,p,us,b,rfl,_⟩:=h;rfl
 ·obtain ⟨x,dx,p,us,b,rfl,e,ep,hU,q⟩:=h;refine ⟨_,(aC (c6 T.cX T.gX (pv 0) (bE (aD (pv 1) aB)))
   (aG (c6 T.cX T.eF (pv 0) (bE (aD aE aB))))),?_⟩
  try dsimp only [L2.start,aZ,bJ,List.cons_append,List.nil_append,List.replicate_succ,List.replicate_zero,List.length_cons,List.length_nil,Nat.reduceAdd,Nat.reduceSub,Nat.zero_add]
  wp_walk using e;refine fun lb f1=>?_;have n1:x≠lb:=aL e f1;wp_walk using aI n1,e;refine fun ln f2=>?_;have n2:x≠ln:=aL aA f2;have n3:lb≠ln:=aL (by rw [aI n1.symm];exact aA) f2;wp_walk using aI n2;rw [aI n2.symm,aI n3.symm] at f2;have npx:p≠x:=dP ep e (by intro z;cases z);have npl:=aL ep f1;have npn:=aL ep f2;have KK:Kp [x] H (upd (upd (upd (upd H lb (.lst [.ref p])) x (.ins t.aV dx [("blocks",.ref lb)])) ln (.lst [.int 0])) x (.ins t.aV dx [("blocks",.ref lb),("numbers",.ref ln)])):=fun b o eb nb=>by
   have nb':b≠x:=by simpa using nb
   rw [aI nb',aI (aL eb f2),aI nb',aI (aL eb f1)];exact eb
  have TT:aP H _:=fun a xs ea=>KK a _ ea (by simp only [List.mem_cons,List.not_mem_nil,or_false];exact dP ea e (by intro z;cases z));refine q lb ln _ f1 f2 ⟨aA,⟨[.ref p],?_,.one (TT _ _ ep) (hU.kp TT)⟩,?_,n3,by simp⟩ KK
  ·rw [aI n1.symm,aI n3,aI n1.symm];exact aA
  ·rw [aI n2.symm];exact aA
theorem zD {t:Ad} (T:Tx w K mg t):bK P w K mg base CX0 1 t.iR t.k9 ["self"] (aeF t.aJ):=by
 refine T.adY.ok aaL (fun vs H Q E h=>?_) (fun cdv A outer s H vs Q E hr h=>?_)
 ·obtain ⟨x,dx,rfl,_⟩:=h;rfl
 ·obtain ⟨x,dx,rfl,e,q⟩:=h;refine ⟨_,(aC (c6 T.bI T.uR (pv 0) aE)
   (aC (c6 T.bI T.fO (pv 0) rW)
   (aG (c6 T.bI T.fN (pv 0) rW)))),?_⟩
  try dsimp only [L2.start,aZ,bJ,List.cons_append,List.nil_append,List.replicate_succ,List.replicate_zero,List.length_cons,List.length_nil,Nat.reduceAdd,Nat.reduceSub,Nat.zero_add]
  wp_walk using e;refine fun dp f1=>?_;have n1:x≠dp:=aL aA f1;wp_walk using aI n1;refine fun da f2=>?_;have n2:x≠da:=aL aA f2;have n3:dp≠da:=aL (by rw [aI n1.symm];exact aA) f2;wp_walk using aI n2;rw [aI n1.symm] at f1;rw [aI n2.symm,aI n3.symm,aI n2.symm] at f2;refine q dp da _ f1 f2 ⟨aA,?_,?_,n3,by simp,.nil,by simp,by simp,by decide⟩ ?_
  ·rw [aI n1.symm,aI n3,aI n1.symm];exact aA
  ·rw [aI n2.symm];exact aA
  ·intro b o eb nb;have nb':b≠x:=by simpa using nb
   rw [aI nb',aI (aL eb f2),aI nb',aI (aL eb f1),aI nb'];exact eb
theorem yM {t:Ad} (T:Tx w K mg t):bK P w K mg base CX0 3 t.rZ t.xR ["self","program"] (ajM ⟨t.aU,t.aV,t.aJ⟩):=by
 refine T.anU.ok aiX (fun vs H Q E h=>?_) (fun cdv A outer s H vs Q E hr h=>?_)
 ·obtain ⟨x,dx,pg,us,b,rfl,_⟩:=h;rfl
 ·obtain ⟨x,dx,pg,us,b,rfl,e,ep,hs,q⟩:=h;refine ⟨_,(aC (c6 T.aW T.i7 (pv 0) (adX T.aiT (afC T) (hr.mono (by omega)) rfl T.aAV T.alL .nil pass0 (aD (pv 1) aB)))
   (aC (c6 T.aW T.dE (pv 0) (bD (aD aK aB)))
   (aC (c6 T.aW T.abX (pv 0) eJ)
   (aC (c6 T.aW T.rC (pv 0) aE)
   (aC (c6 T.aW T.fG (pv 0) rW)
   (aC (c6 T.aW T.cT (pv 0) (ap0 T.sF (zD T) (hr.mono (by omega)) rfl T.apX T.ac0 .nil pass0))
   (aG (c6 T.aW T.fQ (pv 0) rW)))))))),?_⟩
  try dsimp only [L2.start,aZ,bJ,List.cons_append,List.nil_append,List.replicate_succ,List.replicate_zero,List.length_cons,List.length_nil,Nat.reduceAdd,Nat.reduceSub,Nat.zero_add]
  refine aF fun R1 hR1=>?_;wp_walk using e;refine atO ep hs fun wk wx lb ln Gw Kw hwk hlb hln W0=>?_;have ew:=Kw.at e;wp_walk using ew;have g1:upd Gw x (.ins t.aU dx [("walk",.ref wk)]) x=some (.ins t.aU dx [("walk",.ref wk)]):=aA;have K1:Kp [x] Gw (upd Gw x (.ins t.aU dx [("walk",.ref wk)])):=Kp.set (by simp);generalize upd Gw x (.ins t.aU dx [("walk",.ref wk)])=G1 at *;refine hR1 _ _ ?_;clear hR1;clear R1;refine aF fun R2 hR2=>?_;wp_walk using g1;refine fun p h2=>?_;obtain ⟨g2,f2,K2,n2⟩:=put2 (o:=.tup [.str "new"]) (o':=.ins t.aU dx [("walk",.ref wk),("sleep",.ref p)]) g1 h2;wp_walk using aI n2,g1;generalize upd (upd G1 p (.tup [.str "new"])) x (.ins t.aU dx [("walk",.ref wk),("sleep",.ref p)])=G2 at *;refine hR2 _ _ ?_;clear hR2;clear R2;refine aF fun R3 hR3=>?_;wp_walk using g2;have g3:upd G2 x (.ins t.aU dx [("walk",.ref wk),("sleep",.ref p),("arg",.non)]) x=some (.ins t.aU dx [("walk",.ref wk),("sleep",.ref p),("arg",.non)]):=aA;have K3:Kp [x] G2 (upd G2 x (.ins t.aU dx [("walk",.ref wk),("sleep",.ref p),("arg",.non)])):=Kp.set (by simp);generalize upd G2 x (.ins t.aU dx [("walk",.ref wk),("sleep",.ref p),("arg",.non)])=G3 at *;refine hR3 _ _ ?_;clear hR3;clear R3;refine aF fun R4 hR4=>?_;wp_walk using g3;have g4:upd G3 x (.ins t.aU dx [("walk",.ref wk),("sleep",.ref p),("arg",.non),("now",.int 0)]) x=some (.ins t.aU dx [("walk",.ref wk),("sleep",.ref p),("arg",.non),("now",.int 0)]):=aA;have K4:Kp [x] G3 (upd G3 x (.ins t.aU dx [("walk",.ref wk),("sleep",.ref p),("arg",.non),("now",.int 0)])):=Kp.set (by simp);generalize upd G3 x (.ins t.aU dx [("walk",.ref wk),("sleep",.ref p),("arg",.non),("now",.int 0)])=G4 at *;refine hR4 _ _ ?_;clear hR4;clear R4;refine aF fun R5 hR5=>?_;wp_walk using g4;refine fun nm h5=>?_;obtain ⟨g5,f5,K5,n5⟩:=put2 (o:=.dK []) (o':=.ins t.aU dx [("walk",.ref wk),("sleep",.ref p),("arg",.non),("now",.int 0),("names",.ref nm)]) g4 h5;wp_walk using aI n5,g4;generalize upd (upd G4 nm (.dK [])) x (.ins t.aU dx [("walk",.ref wk),("sleep",.ref p),("arg",.non),("now",.int 0),("names",.ref nm)])=G5 at *;refine hR5 _ _ ?_;clear hR5;clear R5;refine aF fun R6 hR6=>?_;wp_walk using g5;refine az2 fun tk tx dp da Gt Kt htk hdp hda T0=>?_;have et:=Kt.at g5;wp_walk using et;have g6:upd Gt x (.ins t.aU dx [("walk",.ref wk),("sleep",.ref p),("arg",.non),("now",.int 0),("names",.ref nm),("tickets",.ref tk)]) x=some (.ins t.aU dx [("walk",.ref wk),("sleep",.ref p),("arg",.non),("now",.int 0),("names",.ref nm),("tickets",.ref tk)]):=aA;have K6:Kp [x] Gt (upd Gt x (.ins t.aU dx [("walk",.ref wk),("sleep",.ref p),("arg",.non),("now",.int 0),("names",.ref nm),("tickets",.ref tk)])):=Kp.set (by simp);generalize upd Gt x (.ins t.aU dx [("walk",.ref wk),("sleep",.ref p),("arg",.non),("now",.int 0),("names",.ref nm),("tickets",.ref tk)])=G6 at *;refine hR6 _ _ ?_;clear hR6;clear R6;wp_walk using g6;refine fun lt h7=>?_;obtain ⟨g7,f7,K7,n7⟩:=put2 (o:=.dK []) (o':=.ins t.aU dx [("walk",.ref wk),("sleep",.ref p),("arg",.non),("now",.int 0),("names",.ref nm),("tickets",.ref tk),("letters",.ref lt)]) g6 h7;wp_walk using aI n7,g6;generalize upd (upd G6 lt (.dK [])) x (.ins t.aU dx [("walk",.ref wk),("sleep",.ref p),("arg",.non),("now",.int 0),("names",.ref nm),("tickets",.ref tk),("letters",.ref lt)])=G7 at *;have KA:Kp [x] H G4:=((((Kw.mono (by simp)).trans K1).trans K2).trans K3).trans K4;have KB:Kp [x] H Gt:=(KA.trans K5).trans (Kt.mono (by simp));have KC:Kp [x] H G6:=KB.trans K6;have xwk:x≠wk:=aL e hwk;have xtk:x≠tk:=aL g5 htk;have W7:Kp [x] Gw G7:=(((((K1.trans K2).trans K3).trans K4).trans K5).trans (Kt.mono (by simp))).trans (K6.trans K7);have P7:Kp [x] G2 G7:=(((K3.trans K4).trans K5).trans (Kt.mono (by simp))).trans (K6.trans K7);have N7:Kp [x] G5 G7:=(Kt.mono (by simp)).trans (K6.trans K7);have T7:Kp [x] Gt G7:=K6.trans K7;have KD:Kp [x] H G7:=KC.trans K7;have W5:Kp [x] Gw G5:=((((K1.trans K2).trans K3).trans K4).trans K5);have xlb:lb≠x:=(aL e hlb).symm;have xln:ln≠x:=(aL e hln).symm;have xdp:dp≠x:=(aL g5 hdp).symm;have xda:da≠x:=(aL g5 hda).symm;have nm6:=K6.at1 (Kt.at f5) n5.symm;have dp6:=K6.at1 T0.hp xdp;have da6:=K6.at1 T0.ha xda;have wk5:=W5.at1 W0.ins xwk.symm;have fr4:H nm=none:=frJ KA g4 h5;have fr5:∀ {a:Addr},G5 a=none->H a=none:=fun h=>frJ (KA.trans K5) g5 h;have frlt:H lt=none:=frJ KC g6 h7;have kt7:aP Gw G7:=fun b xs hb=>W7.at1 hb (dP hb ew (by intro z;cases z));refine q ⟨x,dx,wk,wx,lb,ln,nm,tk,tx,dp,da,lt⟩ (.ref p) G7 rfl ⟨g7,⟨p,rfl,P7.at1 f2 n2.symm⟩,W0.keep (fun o h=>W7.at1 h xwk.symm) (fun o h=>W7.at1 h xlb) (fun o h=>W7.at1 h xln) kt7,T0.keep (fun o h=>T7.at1 h xtk.symm) (fun o h=>T7.at1 h xdp) (fun o h=>T7.at1 h xda),N7.at1 f5 n5.symm,⟨[],f7,.nil⟩,by simp,by simp,xwk,xtk,aL wk5 htk,aL f5 hdp,aL f5 hda,aL nm6 h7,(aL dp6 h7).symm,(aL da6 h7).symm⟩ KD fun a ha=>?_;simp only [Rn.cells,List.mem_cons,List.not_mem_nil,or_false] at ha;rcases ha with rfl | rfl | rfl | rfl | rfl | rfl | rfl | rfl
  ·exact .inl rfl
  ·exact .inr hlb
  ·exact .inr hln
  ·exact .inr fr4
  ·exact .inr (fr5 htk)
  ·exact .inr (fr5 hdp)
  ·exact .inr (fr5 hda)
  ·exact .inr frlt
theorem ac3 {t:Ad} (T:Tx w K mg t):bK P w K mg base CX0 1 t.qP t.qS ["script","k"] (awT K):=by
 refine T.xT.ok adS (fun vs H Q E h=>?_) (fun cdv A outer s H vs Q E hr h=>?_)
 ·obtain ⟨a,ns,k,rfl,_⟩:=h;rfl
 ·obtain ⟨a,ns,k,rfl,hS,hk,q⟩:=h;refine ⟨_,(aC (bP (aS pK (pv 1) (dB alE rfl T.ahP w9 (aD (pv 0) aB)) (nomark _)) (aG (aO (aX ajS (pv 0) (pv 1) (fun _ _=>rfl)))) bA)
   (aG (aO aE))),?_⟩
  try dsimp only [L2.start,aZ,bJ,List.cons_append,List.nil_append,List.replicate_succ,List.replicate_zero,List.length_cons,List.length_nil,Nat.reduceAdd,Nat.reduceSub,Nat.zero_add]
  wp_walk;refine ⟨_,hS,?_⟩;split
  ·next h =>
   rw [List.length_map] at h;have hj:k.toNat < ns.length:=by omega
   have ek:k=((k.toNat:Nat):Int):=by omega
   have e:kC (ns.map V.int) ((k.toNat:Nat):Int)=some (.int ns[k.toNat]):=wP (by rw [List.getElem?_map,List.getElem?_eq_getElem hj];rfl);rw [<- ek] at e;exact ⟨a,_,k,_,rfl,rfl,hS,e,q _⟩
  ·exact q 0
theorem aeO {t:Ad} (T:Tx w K mg t):bK P w K mg base CX0 1 t.sY t.tR ["thing"] aAH:=by
 refine T.abP.ok afH (fun vs H Q E h=>?_) (fun cdv A outer s H vs Q E hr h=>?_)
 ·obtain ⟨v,rfl,_⟩:=h;rfl
 ·obtain ⟨v,rfl,hT,q⟩:=h;refine ⟨_,(aG (aO (nD (aS lP (pv 0) eJ (nomark _)) aK (cC sM rfl T.akY adB (aD (pv 0) aB))))),?_⟩
  try dsimp only [L2.start,aZ,bJ,List.cons_append,List.nil_append,List.replicate_succ,List.replicate_zero,List.length_cons,List.length_nil,Nat.reduceAdd,Nat.reduceSub,Nat.zero_add]
  cases v with
  | non =>
   wp_walk;exact q
  | str x =>
   wp_walk using reduceCtorEq;exact q
  | int i =>
   wp_walk using reduceCtorEq;exact ⟨tlog hT.1 hT.2,q⟩
  | _=>exact hT.elim
theorem ag0 {t:Ad} (T:Tx w K mg t):bK P w K mg base CX0 3 t.aaI t.zP ["row"] auV:=by
 refine T.agA.ok ag4 (fun vs H Q E h=>?_) (fun cdv A outer s H vs Q E hr h=>?_)
 ·obtain ⟨a,r,rfl,_⟩:=h;rfl
 ·obtain ⟨a,r,rfl,ha,hT,q⟩:=h;refine ⟨_,(aG (aO (ajO PySem.F.plainAttrs_str PySem.F.slot_str_join PySem.F.type_str_join v9 aK (aD (eM (cl:=[]) (fr:=[]) (N:=["thing"]) rfl (fun _ _ h=>h) (cO.nofree rfl rfl rfl rfl) (iD (pv 0)) (fun C s H ex pn=>⟨eL,(aN (aeO T) (hr.mono (by omega)) rfl T.amE T.abP.kp T.akU .nil pass0 (aD (pv 0) aB))⟩)) aB)))),?_⟩
  try dsimp only [L2.start,aZ,bJ,List.cons_append,List.nil_append,List.replicate_succ,List.replicate_zero,List.length_cons,List.length_nil,Nat.reduceAdd,Nat.reduceSub,Nat.zero_add]
  wp_walk;refine ⟨⟨_,dF.of ha⟩,?_⟩;have l4:=hT.2;refine mP (ys:=r) (fun j xs G=>xs=((r.map tw).take j).map V.str/\Kp [] H G) ⟨rfl,Kp.refl⟩ ?_ ?_ ?_ ?_
  ·rintro j xs G ⟨rfl,_⟩;simp only [List.length_map,List.length_take];omega
  ·rintro j xs G ⟨_,k⟩;exact dF.of (k.at ha)
  ·rintro j y xs G _ hj ⟨rfl,k⟩;have e5:=cR (show (r.map tw)[j]?=some (tw y) by rw [List.getElem?_map,hj];rfl);wp_walk using aY,Option.join_some;refine ⟨hT.1 y (List.mem_of_getElem? hj),?_,k⟩;rw [e5];simp
  ·rintro xs G ⟨rfl,k⟩ l hl;rw [show r.length=(r.map tw).length by simp,List.take_length];have sb:=aqG (B:=20) (ys:=r.map tw) fun y hy=>by
    obtain ⟨v,hv,rfl⟩:=List.mem_map.mp hy;exact (hT.1 v hv).len
   rw [List.length_map] at sb;wp_walk using List.length_map,jlens.1;exact ⟨by omega,q _ (k.trans (Kp.new hl))⟩
theorem agF {t:Ad} (T:Tx w K mg t):bK P w K mg base CX0 5 t.tN t.tI ["rows"] arK:=by
 refine T.ab1.ok aeT (fun vs H Q E h=>?_) (fun cdv A outer s H vs Q E hr h=>?_)
 ·obtain ⟨p,us,rs,rfl,_⟩:=h;rfl
 ·obtain ⟨p,us,rs,rfl,hp,hC,hT,l1,l2,q⟩:=h;refine ⟨_,(aG (aO (ajO PySem.F.plainAttrs_str PySem.F.slot_str_join PySem.F.type_str_join v9 aK (aD (eM (cl:=[]) (fr:=[]) (N:=["row"]) rfl (fun _ _ h=>h) (cO.nofree rfl rfl rfl rfl) (iT (pv 0)) (fun C s H ex pn=>⟨eL,(bH cN (aN (ag0 T) (hr.mono (by omega)) rfl T.apZ T.agA.kp T.am1 .nil pass0 (aD (pv 0) aB)) aK)⟩)) aB)))),?_⟩
  try dsimp only [L2.start,aZ,bJ,List.cons_append,List.nil_append,List.replicate_succ,List.replicate_zero,List.length_cons,List.length_nil,Nat.reduceAdd,Nat.reduceSub,Nat.zero_add]
  wp_walk;refine ⟨⟨_,eZ.of hp⟩,?_⟩;have ll:=hC.len;refine j9 (ys:=us) (fun j xs G=>xs=((rs.map j6).take j).map V.str/\Kp [] H G) ⟨rfl,Kp.refl⟩ ?_ ?_ ?_ ?_
  ·rintro j xs G ⟨rfl,_⟩;simp only [List.length_map,List.length_take];omega
  ·rintro j xs G ⟨_,k⟩;exact eZ.of (k.at hp)
  ·rintro j y xs G _ hj ⟨rfl,k⟩;obtain ⟨a,r,rfl,ej,ha⟩:=hC.at hj;have e5:=cR (show (rs.map j6)[j]?=some (j6 r) by rw [List.getElem?_map,ej];rfl);have hr0:=hT r (List.mem_of_getElem? ej);have lr:=aeN hr0;have lr2:=hr0.2;wp_walk using aY,Option.join_some;refine ⟨a,r,rfl,k.at ha,hr0,fun H2 K2=>?_⟩;wp_walk using jlens.2.1;refine ⟨by omega,?_,k.trans K2⟩;rw [e5];simp [j6]
  ·rintro xs G ⟨rfl,k⟩ l hl2;rw [show us.length=(rs.map j6).length by rw [List.length_map,ll],List.take_length];have sb:=acM hT;wp_walk using List.length_map,jlens.2.2,Nat.mul_zero;exact ⟨by omega,q _ (k.trans (Kp.new hl2))⟩
theorem ad9 {t:Ad} (T:Tx w K mg t):bK P w K mg base CX0 4 t.qD t.qB ["state"] aCG:=by
 refine T.yN.ok gF (fun vs H Q E h=>?_) (fun cdv A outer s H vs Q E hr h=>?_)
 ·obtain ⟨v,S,rfl,_⟩:=h;rfl
 ·obtain ⟨v,S,rfl,h,hn,few,q⟩:=h;refine ⟨_,(aC (bP (aS (arA (am3 hr (by decide))) (aX bN (pv 0) aE (fun _ _=>rfl)) (oG (v:=.ref t.lE) rfl T.adQ rfl) (by with_unfolding_all rfl)) (aG (aO (bE (aD (pv 0) aB)))) bA)
   (aC (bC (i:=1) gF.nd rfl (Or.inl rfl) (aX bN (pv 0) aE (fun _ _=>rfl)))
   (aC (bC (i:=2) gF.nd rfl (Or.inl rfl) (bE (aD (bH rY (bD (aD aK aB)) (aX bN (pv 0) aE (fun _ _=>rfl))) aB)))
   (aC (bP (aS cJ (aX bN (pv 1) aE (fun _ _=>rfl)) aK (nomark _)) (aG (bL (j4 (pv 2) (bH rY (bD (aD aK aB)) (aX bN (pv 1) aE (fun _ _=>rfl)))))) bA)
   (aC (bL (pJ PySem.F.slot_list_extend PySem.F.type_list_extend iN (pv 2) (aD (bE (aD (bD (aD aK (aD (aX bN (pv 0) aE (fun _ _=>rfl)) aB))) (aD (bD (aD aK (aD (aX bN (pv 0) aE (fun _ _=>rfl)) aB))) aB))) aB)))
   (aC (bL (pJ PySem.F.slot_list_extend PySem.F.type_list_extend iN (pv 2) (aD (eM (cl:=[]) (fr:=[]) (N:=["pair"]) rfl (fun _ _ h=>h) (cO.nofree rfl rfl rfl rfl) (iD (aX bN (pv 0) aE (fun _ _=>rfl))) (fun C s H ex pn=>⟨eL,(bH rY (bD (aD aK aB)) (pv 0))⟩)) aB)))
   (aC (bL (j4 (pv 2) (bD (aD aK (aD (aX bN (pv 0) aE (fun _ _=>rfl)) aB)))))
   (aC (bL (pJ PySem.F.slot_list_extend PySem.F.type_list_extend iN (pv 2) (aD (eM (cl:=[]) (fr:=[]) (N:=["ticket"]) rfl (fun _ _ h=>h) (cO.nofree rfl rfl rfl rfl) (iD (aX bN (pv 0) aE (fun _ _=>rfl))) (fun C s H ex pn=>⟨eL,(bD (aD aK (aD (pv 0) aB)))⟩)) aB)))
   (aC (bL (pJ PySem.F.slot_list_extend PySem.F.type_list_extend iN (pv 2) (aD (eM (cl:=[]) (fr:=[]) (N:=["pair"]) rfl (fun _ _ h=>h) (cO.nofree rfl rfl rfl rfl) (iD (aX bN (pv 0) aE (fun _ _=>rfl))) (fun C s H ex pn=>⟨eL,(bH rY (bD (aD aK aB)) (pv 0))⟩)) aB)))
   (aC (zF PassesOwn.never rfl (iD (aX bN (pv 0) aE (fun _ _=>rfl))) (yC rfl (dD (c7 (i:=3) gF.nd rfl (Or.inr rfl)) (dD (c7 (i:=4) gF.nd rfl (Or.inl rfl)) rK))) (aG (bL (pJ PySem.F.slot_list_extend PySem.F.type_list_extend iN (pv 2) (aD (eM (fr:=[3]) (N:=["worth","key"]) rfl (fun _ _ h=>h) (cO.free rfl rfl rfl rfl rfl (fun _ _ h=>h) rfl (by decide) rfl (fun j hj=>by rw [show j=3 by simpa using hj];exact ⟨_,rfl,rfl,.inl rfl⟩)) (iD (pv 4)) (fun C s H ex pn=>⟨eL,(bD (aD aK (aD (pv 1) (aD (pv 0) aB))))⟩)) aB)))))
   (aG (aO (pv 2))))))))))))),?_⟩
  try dsimp only [L2.start,aZ,bJ,List.cons_append,List.nil_append,List.replicate_succ,List.replicate_zero,List.length_cons,List.length_nil,Nat.reduceAdd,Nat.reduceSub,Nat.zero_add]
  cases hg:S.sl.going with
  | false =>
   obtain ⟨p,s0,r0,rfl,ep,hin,er⟩:=h.short hg hn;wp_walk using ep;refine ⟨["new","ended","worn"],T.rM _,.inl ⟨_,rfl,?_⟩⟩;rw [show u0 (.str s0) ((["new","ended","worn"]:List Str).map V.str)=true from hin];wp_walk;exact fun l hl=>q l [.ref p] _ aA (by rw [er];exact .cons ((Kp.new (S:=[]) hl).at ep) .nil) (Kp.new hl)
  | true =>
   obtain ⟨p,ps,pl,pn,po,pa,pt,un,ua,ut,rfl,A⟩:=h.go hg;rw [af7 hg] at q;clear h;obtain ⟨w0,y0,e0,d0⟩:=ajL A.a2 hg;refine aF fun R1 hR1=>?_;wp_walk using A.a1;refine ⟨["new","ended","worn"],T.rM _,.inr ⟨ps,_,rfl,dF.of e0,?_⟩⟩;wp_walk;refine hR1 _ _ ?_;clear hR1;clear R1;refine aF fun R2 hR2=>?_;wp_walk using A.a1;refine hR2 _ _ ?_;clear hR2;clear R2;refine aF fun R3 hR3=>?_;wp_walk using A.a1;have fp:=few.pd;have fa:S.anS.length<=100000:=by unfold Pu.anS;rw [List.length_map];exact few.an
   have fn:=few.ns;have fm:=few.nu;refine fun t1 m1=>?_
   suffices fin:∀(c:Addr) (G':Hp),G' c=some (.tup (.str "at"::(bG S.stk).map V.int))->Kp [] H G'->∀ l,G' l=none->R3 [some (.ref p),some (.ref ps),some (.ref l),none,none] (upd G' l (.lst [.ref c])) by
    have N1:=Kp.new (S:=[]) (o:=.tup [.str "at"]) m1;have f1:upd H t1 (.tup [.str "at"]) t1=some (.tup [.str "at"]):=aA;have A1:=A.kp N1;generalize upd H t1 (.tup [.str "at"])=G1 at *;wp_walk using A1.a1,f1,A1.a3;refine ⟨by rw [List.length_map];omega,?_⟩;rw [if_neg (by simp)];split
    ·next z=>exact fin t1 G1 (by rw [f1,z]) N1
    ·intro c m;exact fin c _ aA (N1.trans (Kp.new m))
   clear m1 t1;intro c G ec k l hl;have D:RwL H (upd G l (.lst [.ref c])) l [.ref c] [.str "at"::(bG S.stk).map V.int]:=⟨k.trans (Kp.new hl),k.wasFree hl,aA,.cons ((Kp.new (S:=[]) hl).at ec) .nil⟩;generalize upd G l (.lst [.ref c])=G0 at *;clear ec k hl;refine hR3 _ _ ?_;clear hR3;clear R3;refine aF fun R4 hR4=>?_
   suffices fin:∀(us:List V) (G:Hp),RwL H G l us ([.str "at"::(bG S.stk).map V.int]++uU S.sl)->R4 [some (.ref p),some (.ref ps),some (.ref l),none,none] G by
    rcases ag2 A.a2 hg with ⟨ts,p2,es,e1,e2⟩ | ⟨k,es,e1⟩
    ·have ft:=few.ts ts es;have eD:=D.e;replace e1:=D.k.at e1;replace e2:=D.k.at e2;wp_walk using e1,eD;refine fun t1 m1=>?_;have N1:=Kp.new (S:=[]) (o:=.tup [.str "for"]) m1;have f1:upd G0 t1 (.tup [.str "for"]) t1=some (.tup [.str "for"]):=aA;replace D:=D.kp N1;replace e1:=N1.at e1;replace e2:=N1.at e2;replace eD:=N1.at eD;generalize upd G0 t1 (.tup [.str "for"])=G1 at *;wp_walk using e1,f1,e2;refine ⟨by rw [List.length_map];omega,?_⟩;rw [if_neg (by simp)];split
     ·next z =>
      wp_walk using eD;refine fin [.ref c,.ref t1] _ ?_;rw [es];exact D.add (.cons (by rw [f1,z]) .nil)
     ·intro c2 m2;simp only [List.cons_append,List.nil_append] at m2 ⊢;have N2:=Kp.new (S:=[]) (o:=.tup (.str "for"::ts.map V.int)) m2;replace eD:=N2.at eD;wp_walk using eD;refine fin [.ref c,.ref c2] _ ?_;rw [es];exact (D.kp N2).add (.cons aA .nil)
    ·replace e1:=D.k.at e1;wp_walk using e1;refine fin [.ref c] _ ?_;rw [es];exact D
   clear D;intro us G D;have lm:(uU S.sl).length<=1:=by unfold uU;split<;>simp
   refine hR4 _ _ ?_;clear hR4;clear R4;refine aF fun R5 hR5=>?_;have eD:=D.e;have A1:=A.kp D.k;wp_walk using eD,A1.a1;refine fun t1 m1=>?_;replace A1:=A1.kp (Kp.new (S:=[]) (o:=.tup [.str "now",.int S.nw]) m1);wp_walk using A1.a1;refine fun t2 m2 lz mz=>?_;have NZ:=((Kp.new (S:=[]) (o:=.tup [.str "now",.int S.nw]) m1).trans (Kp.new (o:=.tup [.str "arg",wv S.ar]) m2)).trans (Kp.new (o:=.lst [.ref t1,.ref t2]) mz);have hz:eT (upd (upd (upd G t1 (.tup [.str "now",.int S.nw])) t2 (.tup [.str "arg",wv S.ar])) lz (.lst [.ref t1,.ref t2])) [.ref t1,.ref t2] [[.str "now",.int S.nw],[.str "arg",wv S.ar]]:=.cons (((Kp.new (S:=[]) m2).trans (Kp.new mz)).at aA) (.cons ((Kp.new (S:=[]) mz).at aA) .nil);have ez:upd (upd (upd G t1 (.tup [.str "now",.int S.nw])) t2 (.tup [.str "arg",wv S.ar])) lz (.lst [.ref t1,.ref t2]) lz=some (.lst [.ref t1,.ref t2]):=aA;replace D:=D.kp NZ;replace eD:=NZ.at eD;generalize upd (upd (upd G t1 (.tup [.str "now",.int S.nw])) t2 (.tup [.str "arg",wv S.ar])) lz (.lst [.ref t1,.ref t2])=G2 at *;have lz2:=D.c.len;wp_walk using eD,ez;refine ⟨by simp only [List.length_append,List.length_cons,List.length_nil] at lz2 ⊢;omega,?_⟩;replace D:=D.add hz;generalize upd G2 l (.lst (us++[.ref t1,.ref t2]))=G3 at *;generalize us++[.ref t1,.ref t2]=us3 at *;clear NZ hz ez eD lz2 A1 m1 m2 mz;refine hR5 _ _ ?_;clear hR5;clear R5;clear us;obtain ⟨us,rfl⟩:∃ us,us=us3:=⟨_,rfl⟩;obtain ⟨G,rfl⟩:∃ G,G=G3:=⟨_,rfl⟩;have eD:=D.e;have A1:=A.kp D.k;refine aF fun R6 hR6=>?_;wp_walk using eD,A1.a1;refine ⟨⟨_,dF.of A1.a4⟩,?_⟩;obtain ⟨Pw,hPw⟩:∃ Pw:Nat->List V->Hp->Prop,∀ i zs G',Pw i zs G'=(eT G' zs ((S.nmS.map (fun p=>[V.str "name",p.1,p.2])).take i)/\Kp [] G G'):=⟨_,fun _ _ _=>rfl⟩;have ln:(un).length=(S.nmS.map (fun p=>[V.str "name",p.1,p.2])).length:=by rw [A1.a5.len,List.length_map]
   have lb:(S.nmS.map (fun p=>[V.str "name",p.1,p.2])).length<=100000:=by rw [List.length_map];omega
   refine mP (ys:=un) Pw ?_ ?_ ?_ ?_ ?_
   ·rw [hPw];exact ⟨by rw [List.take_zero];exact .nil,Kp.refl⟩
   ·intro i zs G' h;rw [hPw] at h;rw [h.1.len,List.length_take];omega
   ·intro i zs G' h;rw [hPw] at h;exact dF.of (h.2.at A1.a4)
   ·intro i y zs G' _ hi h;rw [hPw] at h;obtain ⟨hz,k⟩:=h;obtain ⟨a,x1,x2,rfl,ej,ea⟩:=A1.a5.at' hi;have es:=cR (show (S.nmS.map (fun p=>[V.str "name",p.1,p.2]))[i]?=some [.str "name",x1,x2] by rw [List.getElem?_map,ej];rfl);replace ea:=k.at ea;wp_walk using aY,Option.join_some;refine fun t1 m1=>?_;have N1:=Kp.new (S:=[]) (o:=.tup [.str "name"]) m1;have f1:upd G' t1 (.tup [.str "name"]) t1=some (.tup [.str "name"]):=aA;replace ea:=N1.at ea;wp_walk using f1,ea;intro c mc;show Pw (i+1) _ _;rw [hPw,es];have N2:=N1.trans (Kp.new (o:=.tup [.str "name",x1,x2]) mc);exact ⟨(hz.kt (aP.nil N2)).snoc1 aA,k.trans N2⟩
   intro zs G' h lz mz;rw [hPw] at h;obtain ⟨hz,k⟩:=h;rw [List.take_of_length_le (by rw [ln];exact Nat.le_refl _)] at hz;have NZ:=Kp.new (S:=[]) (o:=.lst zs) mz;have ez:upd G' lz (.lst zs) lz=some (.lst zs):=aA;replace hz:=hz.kt (aP.nil NZ);replace D:=(D.kp k).kp NZ;generalize upd G' lz (.lst zs)=G2 at *;have lz1:=hz.len;have lz2:=D.c.len;replace eD:=D.e;clear hPw Pw NZ k mz;wp_walk using eD,ez;refine ⟨by simp only [List.length_append,List.length_cons,List.length_nil,List.length_map] at lz1 lz2;omega,?_⟩;replace D:=D.add hz;generalize upd G2 l (.lst (us++zs))=G3 at *;generalize us++zs=us3 at *;clear hz ez eD lz1 lz2 ln lb;refine hR6 _ _ ?_;clear hR6;clear R6;clear us;obtain ⟨us,rfl⟩:∃ us,us=us3:=⟨_,rfl⟩;clear A1 G;obtain ⟨G,rfl⟩:∃ G,G=G3:=⟨_,rfl⟩;have eD:=D.e;have A1:=A.kp D.k;refine aF fun R7 hR7=>?_;wp_walk using eD,A1.a1;refine fun t1 m1=>?_;have NZ:=Kp.new (S:=[]) (o:=.tup [.str "made",.int S.made]) m1;replace eD:=NZ.at eD;have lz2:=D.c.len;wp_walk using eD;refine ⟨by simp only [List.length_append,List.length_cons,List.length_nil,List.length_map] at lz2;omega,?_⟩;replace D:=(D.kp NZ).add (.cons (aA:upd G t1 (.tup [.str "made",.int S.made]) t1=_) .nil);generalize upd (upd G t1 (.tup [.str "made",.int S.made])) l (.lst (us++[.ref t1]))=G3 at *;generalize us++[.ref t1]=us3 at *;clear NZ eD lz2 m1;refine hR7 _ _ ?_;clear hR7;clear R7;clear us;obtain ⟨us,rfl⟩:∃ us,us=us3:=⟨_,rfl⟩;clear A1 G;obtain ⟨G,rfl⟩:∃ G,G=G3:=⟨_,rfl⟩;have eD:=D.e;have A1:=A.kp D.k;refine aF fun R8 hR8=>?_;wp_walk using eD,A1.a1;refine ⟨⟨_,dF.of A1.a6⟩,?_⟩;obtain ⟨Pw,hPw⟩:∃ Pw:Nat->List V->Hp->Prop,∀ i zs G',Pw i zs G'=(eT G' zs ((S.pend.map (fun i=>[V.str "open",V.int i])).take i)/\Kp [] G G'):=⟨_,fun _ _ _=>rfl⟩;have ln:(S.pend.map V.int).length=(S.pend.map (fun i=>[V.str "open",V.int i])).length:=by rw [List.length_map,List.length_map]
   have lb:(S.pend.map (fun i=>[V.str "open",V.int i])).length<=100000:=by rw [List.length_map];omega
   refine mP (ys:=S.pend.map V.int) Pw ?_ ?_ ?_ ?_ ?_
   ·rw [hPw];exact ⟨by rw [List.take_zero];exact .nil,Kp.refl⟩
   ·intro i zs G' h;rw [hPw] at h;rw [h.1.len,List.length_take];omega
   ·intro i zs G' h;rw [hPw] at h;exact dF.of (h.2.at A1.a6)
   ·intro i y zs G' _ hi h;rw [hPw] at h;obtain ⟨hz,k⟩:=h;obtain ⟨x1,ej,rfl⟩:∃ x1,S.pend[i]?=some x1/\y=.int x1:=by
     rw [List.getElem?_map] at hi;obtain ⟨x1,a0,b0⟩:=Option.map_eq_some_iff.mp hi;exact ⟨x1,a0,b0.symm⟩
    have es:=cR (show (S.pend.map (fun i=>[V.str "open",V.int i]))[i]?=some [.str "open",.int x1] by rw [List.getElem?_map,ej];rfl);wp_walk using aY,Option.join_some;intro c mc;show Pw (i+1) _ _;rw [hPw,es];have N2:=Kp.new (S:=[]) (o:=.tup [.str "open",.int x1]) mc;exact ⟨(hz.kt (aP.nil N2)).snoc1 aA,k.trans N2⟩
   intro zs G' h lz mz;rw [hPw] at h;obtain ⟨hz,k⟩:=h;rw [List.take_of_length_le (by rw [ln];exact Nat.le_refl _)] at hz;have NZ:=Kp.new (S:=[]) (o:=.lst zs) mz;have ez:upd G' lz (.lst zs) lz=some (.lst zs):=aA;replace hz:=hz.kt (aP.nil NZ);replace D:=(D.kp k).kp NZ;generalize upd G' lz (.lst zs)=G2 at *;have lz1:=hz.len;have lz2:=D.c.len;replace eD:=D.e;clear hPw Pw NZ k mz;wp_walk using eD,ez;refine ⟨by simp only [List.length_append,List.length_cons,List.length_nil,List.length_map] at lz1 lz2;omega,?_⟩;replace D:=D.add hz;generalize upd G2 l (.lst (us++zs))=G3 at *;generalize us++zs=us3 at *;clear hz ez eD lz1 lz2 ln lb;refine hR8 _ _ ?_;clear hR8;clear R8;clear us;obtain ⟨us,rfl⟩:∃ us,us=us3:=⟨_,rfl⟩;clear A1 G;obtain ⟨G,rfl⟩:∃ G,G=G3:=⟨_,rfl⟩;have eD:=D.e;have A1:=A.kp D.k;refine aF fun R9 hR9=>?_;wp_walk using eD,A1.a1;refine ⟨⟨_,dF.of A1.a7⟩,?_⟩;obtain ⟨Pw,hPw⟩:∃ Pw:Nat->List V->Hp->Prop,∀ i zs G',Pw i zs G'=(eT G' zs ((S.anS.map (fun p=>[V.str "done",p.1,p.2])).take i)/\Kp [] G G'):=⟨_,fun _ _ _=>rfl⟩;have ln:(ua).length=(S.anS.map (fun p=>[V.str "done",p.1,p.2])).length:=by rw [A1.a8.len,List.length_map]
   have lb:(S.anS.map (fun p=>[V.str "done",p.1,p.2])).length<=100000:=by rw [List.length_map];omega
   refine mP (ys:=ua) Pw ?_ ?_ ?_ ?_ ?_
   ·rw [hPw];exact ⟨by rw [List.take_zero];exact .nil,Kp.refl⟩
   ·intro i zs G' h;rw [hPw] at h;rw [h.1.len,List.length_take];omega
   ·intro i zs G' h;rw [hPw] at h;exact dF.of (h.2.at A1.a7)
   ·intro i y zs G' _ hi h;rw [hPw] at h;obtain ⟨hz,k⟩:=h;obtain ⟨a,x1,x2,rfl,ej,ea⟩:=A1.a8.at' hi;have es:=cR (show (S.anS.map (fun p=>[V.str "done",p.1,p.2]))[i]?=some [.str "done",x1,x2] by rw [List.getElem?_map,ej];rfl);replace ea:=k.at ea;wp_walk using aY,Option.join_some;refine fun t1 m1=>?_;have N1:=Kp.new (S:=[]) (o:=.tup [.str "done"]) m1;have f1:upd G' t1 (.tup [.str "done"]) t1=some (.tup [.str "done"]):=aA;replace ea:=N1.at ea;wp_walk using f1,ea;intro c mc;show Pw (i+1) _ _;rw [hPw,es];have N2:=N1.trans (Kp.new (o:=.tup [.str "done",x1,x2]) mc);exact ⟨(hz.kt (aP.nil N2)).snoc1 aA,k.trans N2⟩
   intro zs G' h lz mz;rw [hPw] at h;obtain ⟨hz,k⟩:=h;rw [List.take_of_length_le (by rw [ln];exact Nat.le_refl _)] at hz;have NZ:=Kp.new (S:=[]) (o:=.lst zs) mz;have ez:upd G' lz (.lst zs) lz=some (.lst zs):=aA;replace hz:=hz.kt (aP.nil NZ);replace D:=(D.kp k).kp NZ;generalize upd G' lz (.lst zs)=G2 at *;have lz1:=hz.len;have lz2:=D.c.len;replace eD:=D.e;clear hPw Pw NZ k mz;wp_walk using eD,ez;refine ⟨by simp only [List.length_append,List.length_cons,List.length_nil,List.length_map] at lz1 lz2;omega,?_⟩;replace D:=D.add hz;generalize upd G2 l (.lst (us++zs))=G3 at *;generalize us++zs=us3 at *;clear hz ez eD lz1 lz2 ln lb;refine hR9 _ _ ?_;clear hR9;clear R9;clear us;obtain ⟨us,rfl⟩:∃ us,us=us3:=⟨_,rfl⟩;clear A1 G;obtain ⟨G,rfl⟩:∃ G,G=G3:=⟨_,rfl⟩;have eD:=D.e;have A1:=A.kp D.k;refine aF fun R10 hR10=>?_;wp_walk using A1.a1;refine ⟨⟨_,dF.of A1.a9⟩,?_⟩;obtain ⟨rs0,DB,hB,lB⟩:∃ r,RwL H G l us r/\r++S.ltS.flatMap sD=dN S (uU S.sl)/\r.length<=300000:=⟨_,D,rfl,by simp only [List.length_append,List.length_cons,List.length_nil,List.length_map];omega⟩;obtain ⟨Pv,hPv⟩:∃ Pv:Nat->St->Hp->Prop,∀ i σ G',Pv i σ G' = ∃(v3 v4:Option V) (us:List V),σ=[some (.ref p),some (.ref ps),some (.ref l),v3,v4]/\RwL H G' l us (rs0++(S.ltS.take i).flatMap sD):=⟨_,fun _ _ _=>rfl⟩;refine ai4 (xs:=ut) Pv ?_ ?_ ?_ ?_
   ·rw [hPv];exact ⟨_,_,us,rfl,by rw [List.take_zero,List.flatMap_nil,List.append_nil];exact DB⟩
   ·intro i σ G' _ h;rw [hPv] at h;obtain ⟨_,_,_,_,D⟩:=h;exact dF.of (D.k.at A.a9)
   ·intro i0 y0 σ G hy h;rw [hPv] at h;clear D DB A1 eD us;obtain ⟨v3,v4,us,rfl,D⟩:=h;have A1:=A.kp D.k;have eD:=D.e;obtain ⟨a0,b0,k0,ws,rfl,ej,ea,eb⟩:=A1.a10.at' hy;have fw:=few.lw _ (List.mem_of_getElem? ej);have fl:=few.ls;have lt1:=qE (ps:=S.ltS.take i0) (fun p hp=>few.lw p (List.mem_of_mem_take hp));rw [List.length_take] at lt1;simp only at fw;have et:=cR ej;wp_walk;refine ⟨_,dF.of ea,rfl,?_⟩;wp_walk using eD;refine ⟨⟨_,dF.of eb⟩,?_⟩;obtain ⟨Pw,hPw⟩:∃ Pw:Nat->List V->Hp->Prop,∀ i zs G',Pw i zs G'=(eT G' zs ((ws.map (fun w=>[V.str "letter",V.str k0,wv w])).take i)/\Kp [] G G'):=⟨_,fun _ _ _=>rfl⟩;have ln:(ws.map wv).length=(ws.map (fun w=>[V.str "letter",V.str k0,wv w])).length:=by rw [List.length_map,List.length_map]
    have lb:(ws.map (fun w=>[V.str "letter",V.str k0,wv w])).length<=100000:=by rw [List.length_map];omega
    refine mP (ys:=ws.map wv) Pw ?_ ?_ ?_ ?_ ?_
    ·rw [hPw];exact ⟨by rw [List.take_zero];exact .nil,Kp.refl⟩
    ·intro i zs G' h;rw [hPw] at h;rw [h.1.len,List.length_take];omega
    ·intro i zs G' h;rw [hPw] at h;exact dF.of (h.2.at eb)
    ·intro i y zs G' _ hi h;rw [hPw] at h;obtain ⟨hz,k⟩:=h;obtain ⟨x1,ej1,rfl⟩:∃ x1,ws[i]?=some x1/\y=wv x1:=by
      rw [List.getElem?_map] at hi;obtain ⟨x1,a0,b0⟩:=Option.map_eq_some_iff.mp hi;exact ⟨x1,a0,b0.symm⟩
     have es:=cR (show (ws.map (fun w=>[V.str "letter",V.str k0,wv w]))[i]?=some [.str "letter",.str k0,wv x1] by rw [List.getElem?_map,ej1];rfl);wp_walk using aY,Option.join_some;intro c mc;show Pw (i+1) _ _;rw [hPw,es];have N2:=Kp.new (S:=[]) (o:=.tup [.str "letter",.str k0,wv x1]) mc;exact ⟨(hz.kt (aP.nil N2)).snoc1 aA,k.trans N2⟩
    intro zs G' h lz mz;rw [hPw] at h;obtain ⟨hz,k⟩:=h;rw [List.take_of_length_le (by rw [ln];exact Nat.le_refl _)] at hz;have NZ:=Kp.new (S:=[]) (o:=.lst zs) mz;have ez:upd G' lz (.lst zs) lz=some (.lst zs):=aA;replace hz:=hz.kt (aP.nil NZ);replace D:=(D.kp k).kp NZ;generalize upd G' lz (.lst zs)=G2 at *;have lz1:=hz.len;have lz2:=D.c.len;replace eD:=D.e;clear hPw Pw NZ k mz;wp_walk using eD,ez;refine ⟨by simp only [List.length_append,List.length_cons,List.length_nil,List.length_map] at lz1 lz2;omega,?_⟩;replace D:=D.add hz;generalize upd G2 l (.lst (us++zs))=G3 at *;generalize us++zs=us3 at *;clear hz ez eD lz1 lz2 ln lb;rw [hPv,et,List.flatMap_append,List.flatMap_singleton,<- List.append_assoc];exact ⟨_,_,us3,rfl,D⟩
   clear D DB A1 eD us;intro σ G h;rw [hPv] at h;obtain ⟨v3,v4,us,rfl,D⟩:=h;rw [A.a10.len,List.take_length,hB] at D;refine hR10 _ _ ?_;clear hR10;clear R10;wp_walk;exact q l us G D.e D.c D.k
theorem aeD {t:Ad} (T:Tx w K mg t):bK P w K mg base CX0 1 t.pU t.pO ["self"] (ar8 t.aV):=by
 refine T.aiV.ok acR (fun vs H Q E h=>?_) (fun cdv A outer s H vs Q E hr h=>?_)
 ·obtain ⟨wk,wx,lb,ln,st,rfl,_⟩:=h;rfl
 ·obtain ⟨wk,wx,lb,ln,st,rfl,W,q⟩:=h;refine ⟨_,(aG (aO (cC fS rfl T.jG fZ (aD (aQ T.cX T.eF (pv 0)) aB)))),?_⟩
  try dsimp only [L2.start,aZ,bJ,List.cons_append,List.nil_append,List.replicate_succ,List.replicate_zero,List.length_cons,List.length_nil,Nat.reduceAdd,Nat.reduceSub,Nat.zero_add]
  wp_walk using W.ins,W.nu;exact q
theorem pC {t:Ad} (T:Tx w K mg t):bK P w K mg base CX0 1 t.fT t.fX ["self"] (amL t.aJ):=by
 refine T.rG.ok pB (fun vs H Q E h=>?_) (fun cdv A outer s H vs Q E hr h=>?_)
 ·obtain ⟨tk,tx,dp,da,made,pend,ans,rfl,_⟩:=h;rfl
 ·obtain ⟨tk,tx,dp,da,made,pend,ans,rfl,R,h64,q⟩:=h;refine ⟨_,(aG (aO (dB (aiP rfl) rfl T.oX oM (aD (aQ T.bI T.fO (pv 0)) aB)))),?_⟩
  try dsimp only [L2.start,aZ,bJ,List.cons_append,List.nil_append,List.replicate_succ,List.replicate_zero,List.length_cons,List.length_nil,Nat.reduceAdd,Nat.reduceSub,Nat.zero_add]
  wp_walk using R.ins,R.hp,ak1;exact ⟨R.asc,fun l ns' hl hp hs=>by rw [vG hp hs R.asc];exact q l hl⟩
theorem r8 {t:Ad} (T:Tx w K mg t):bK P w K mg base CX0 2 t.iE t.iB ["self"] (atK ⟨t.aU,t.aV,t.aJ⟩):=by
 refine T.vP.ok sA (fun vs H Q E h=>?_) (fun cdv A outer s H vs Q E hr h=>?_)
 ·obtain ⟨R,as,sl,S,rfl,_⟩:=h;rfl
 ·obtain ⟨R,as,sl,S,rfl,A,h64,q⟩:=h;refine ⟨_,(aG (aO (bX (aQ T.aW T.cT (pv 0)) T.bI T.pV (pC T) (hr.mono (by omega)) T.rF .nil pass0))),?_⟩
  try dsimp only [L2.start,aZ,bJ,List.cons_append,List.nil_append,List.replicate_succ,List.replicate_zero,List.length_cons,List.length_nil,Nat.reduceAdd,Nat.reduceSub,Nat.zero_add]
  wp_walk using A.ins,A.tk.ins;exact ⟨R.tk,R.tx,R.dp,R.da,_,_,_,rfl,A.tk,h64,q⟩
theorem kB {t:Ad} (T:Tx w K mg t):bK P w K mg base CX0 3 t.uD t.tT ["self"] (arE ⟨t.aU,t.aV,t.aJ⟩):=by
 refine T.al3.ok mO (fun vs H Q E h=>?_) (fun cdv A outer s H vs Q E hr h=>?_)
 ·obtain ⟨R,as,sl,S,rfl,_⟩:=h;rfl
 ·obtain ⟨R,as,sl,S,rfl,A,hn,b1,b2,b3,b4,b5,q⟩:=h;have hu:=nA hr;refine ⟨_,(aC (bP (aS acO (aX bN (aQ T.aW T.dE (pv 0)) aE (fun _ _=>rfl)) (bD (aD aK (aD aK aB))) (by with_unfolding_all rfl)) (aG (aO (aQ T.aW T.dE (pv 0)))) bA)
   (aC (qQ (i:=1) (fr:=[0]) (N:=["name","self"]) rfl (fun _ _ h=>h) (cO.free rfl rfl rfl rfl rfl (fun _ _ h=>h) rfl (by decide) rfl (fun j hj=>by rw [show j=0 by simpa using hj];exact ⟨_,rfl,rfl,.inl rfl⟩)) (iT (dB (aaM rfl) rfl T.oX oM (aD (aQ T.aW T.fG (pv 0)) aB))) (fun C s H ex pn=>⟨rL (aS alI (rA hu (aQ T.aW T.fG (pv 1)) (pv 0) (fun _ _=>rfl)) eJ (nomark _)),(bD (aD (pv 0) (aD (rA hu (aQ T.aW T.fG (pv 1)) (pv 0) (fun _ _=>rfl)) aB)))⟩) mO.nd rfl (Or.inl rfl))
   (aC (qQ (i:=2) (fr:=[0]) (N:=["key","self"]) rfl (fun _ _ h=>h) (cO.free rfl rfl rfl rfl rfl (fun _ _ h=>h) rfl (by decide) rfl (fun j hj=>by rw [show j=0 by simpa using hj];exact ⟨_,rfl,rfl,.inl rfl⟩)) (iT (dB (aaM rfl) rfl T.oX oM (aD (aQ T.aW T.fQ (pv 0)) aB))) (fun C s H ex pn=>⟨rL (wM (rA hu (aQ T.aW T.fQ (pv 1)) (pv 0) (fun _ _=>rfl)) (fun _=>rfl)),(bD (aD (pv 0) (aD (cC fS rfl T.jG fZ (aD (rA hu (aQ T.aW T.fQ (pv 1)) (pv 0) (fun _ _=>rfl)) aB)) aB)))⟩) mO.nd rfl (Or.inl rfl))
   (aG (aO (bD (aD (aQ T.aW T.dE (pv 0)) (aD (bX (aQ T.aW T.i7 (pv 0)) T.cX T.agS (aeD T) (hr.mono (by omega)) T.ahZ .nil pass0) (aD (aQ T.aW T.abX (pv 0)) (aD (aQ T.aW T.rC (pv 0)) (aD (cC fS rfl T.jG fZ (aD (pv 1) aB)) (aD (aQ T.bI T.uR (aQ T.aW T.cT (pv 0))) (aD (cC fS rfl T.jG fZ (aD (bX (pv 0) T.aW T.sX (r8 T) (hr.mono (by omega)) T.vX .nil pass0) aB)) (aD (cC (ahB rfl) rfl T.jG fZ (aD (ap6 (aQ T.bI T.fN (aQ T.aW T.cT (pv 0)))) aB)) (aD (cC fS rfl T.jG fZ (aD (pv 2) aB)) aB))))))))))))))),?_⟩
  try dsimp only [L2.start,aZ,bJ,List.cons_append,List.nil_append,List.replicate_succ,List.replicate_zero,List.length_cons,List.length_nil,Nat.reduceAdd,Nat.reduceSub,Nat.zero_add]
  refine aF fun R1 hR1=>?_;obtain ⟨ps,s0,r0,rfl,ep,hin⟩:=A.slp.word hn;refine uW fun RI hRI=>?_;wp_walk using A.ins,ep;refine fun p1 m1=>⟨rfl,rfl,?_⟩;rw [hin];have N1:=Kp.new (S:=[]) (o:=.tup [.str "wait",.str "hear"]) m1;replace A:=A.kp N1;generalize upd H p1 (.tup [.str "wait",.str "hear"])=G1 at *;clear m1 ep hin;cases hg:S.sl.going with
  | false =>
   rw [if_pos (show (!false)=true from rfl)];refine hRI _ _ ?_;wp_walk using A.ins;exact q _ _ (by unfold kJ;rw [if_neg (by rw [hg];simp)];exact A.slp) N1
  | true =>
   rw [if_neg (by simp)];clear hRI RI;refine hR1 _ _ ?_;clear hR1;clear R1;refine aF fun R2 hR2=>?_;wp_walk using A.ins,A.nm,aj8;refine ⟨by rw [List.length_map];exact b2,fun l ns hl hp hs=>?_⟩;have hks:∀ n∈ns,n∈S.nm.map (·.1):=fun n hn=>hp.mem_iff.mp hn;have lns:ns.length < 64:=by rw [hp.length_eq,List.length_map];exact b2
   have ens:=aoC hp hs;have N2:=Kp.new (S:=[]) (o:=.lst (ns.map V.str)) hl;have el:upd G1 l (.lst (ns.map V.str)) l=some (.lst (ns.map V.str)):=aA;replace A:=A.kp N2;replace N1:=N1.trans N2;generalize upd G1 l (.lst (ns.map V.str))=G2 at *;clear hp hs hl N2;refine ⟨⟨_,eZ.of el⟩,?_⟩;obtain ⟨Pv,hPv⟩:∃ Pv:Nat->List V->Hp->Prop,∀ i xs G,Pv i xs G=(dY G xs (eK S.nm (ns.take i))/\Kp [] G2 G):=⟨_,fun _ _ _=>rfl⟩;refine j9 (ys:=ns.map V.str) Pv ?_ ?_ ?_ ?_ ?_
   ·rw [hPv];exact ⟨.nil,Kp.refl⟩
   ·intro i xs G h;rw [hPv] at h;rw [h.1.len];have h1:=oO S.nm (ns.take i);rw [List.length_take] at h1;omega
   ·intro i xs G h;rw [hPv] at h;exact eZ.of (h.2.at el)
   ·intro i y xs G hi ey h;rw [hPv] at h;obtain ⟨hP,KG⟩:=h;obtain ⟨n,en,rfl⟩:∃ n,ns[i]?=some n/\y=V.str n:=by
     rw [List.getElem?_map] at ey;obtain ⟨n,a0,b0⟩:=Option.map_eq_some_iff.mp ey;exact ⟨n,a0,b0.symm⟩
    have vn:=apB (hks n (List.mem_of_getElem? en));have AG:=A.kp KG;have es:eK S.nm (ns.take (i+1))=eK S.nm (ns.take i)++eK S.nm [n]:=by rw [List.take_add_one,en,Option.toList_some,abN]
    wp_walk using aY,Option.join_some,AG.ins,AG.nm,vn;cases hw:jO S.nm n with
    | none =>
     rw [if_pos (show wv none=V.non from rfl),hPv,es];exact ⟨by rw [show eK S.nm [n]=[] by simp [eK,hw],List.append_nil];exact hP,KG⟩
    | some z =>
     rw [if_neg (by simp [wv])];intro p hp;rw [hPv,es,show eK S.nm [n]=[(.str n,wv (some z))] by simp [eK,hw]];exact ⟨(hP.kt (aP.new hp)).snoc aA,KG.trans (Kp.new hp)⟩
   intro un G h ln2 hln;rw [hPv] at h;obtain ⟨hP,KG⟩:=h;rw [List.length_map,List.take_length,ens] at hP;replace hP:dY G un S.nmS:=hP;have lun:un.length<=64:=by
    rw [hP.len];have h1:=oO S.nm (srt (S.nm.map (·.1)));rw [<- ens] at h1;show (eK S.nm (srt (S.nm.map (·.1)))).length<=64;rw [<- ens];omega
   have N3:=Kp.new (S:=[]) (o:=.lst un) hln;have eun:upd G ln2 (.lst un) ln2=some (.lst un):=aA;replace hP:=hP.kt (aP.nil N3);replace A:=A.kp (KG.trans N3);replace N1:=N1.trans (KG.trans N3);generalize upd G ln2 (.lst un)=G3 at *;clear hPv KG N3 hln el hks ens lns;refine hR2 _ _ ?_;clear hR2;clear R2;refine aF fun R3 hR3=>?_;obtain ⟨kvs,ek,hL⟩:=A.lt;have sk:=arR hL;wp_walk using A.ins,ek,sk;refine ⟨by rw [List.length_map];exact b3,fun l ns hl hp hs=>?_⟩;have hks:∀ n∈ns,n∈S.lt.map (·.1):=fun n hn=>hp.mem_iff.mp hn;have lns:ns.length < 64:=by rw [hp.length_eq,List.length_map];exact b3
   have ens:=aoC hp hs;have N2:=Kp.new (S:=[]) (o:=.lst (ns.map V.str)) hl;have el:upd G3 l (.lst (ns.map V.str)) l=some (.lst (ns.map V.str)):=aA;replace A:=A.kp N2;replace N1:=N1.trans N2;replace hP:=hP.kt (aP.nil N2);replace eun:=N2.at eun;replace ek:=N2.at ek;replace hL:=hL.keep (fun a _ o e=>N2.at e);generalize upd G3 l (.lst (ns.map V.str))=G4 at *;clear hp hs hl N2 sk;refine ⟨⟨_,eZ.of el⟩,?_⟩;obtain ⟨Pv,hPv⟩:∃ Pv:Nat->List V->Hp->Prop,∀ i xs G,Pv i xs G=(gG G xs (fR S.lt (ns.take i))/\Kp [] G4 G):=⟨_,fun _ _ _=>rfl⟩;refine j9 (ys:=ns.map V.str) Pv ?_ ?_ ?_ ?_ ?_
   ·rw [hPv];exact ⟨.nil,Kp.refl⟩
   ·intro i xs G h;rw [hPv] at h;rw [h.1.len];have h1:=oQ S.lt (ns.take i);rw [List.length_take] at h1;omega
   ·intro i xs G h;rw [hPv] at h;exact eZ.of (h.2.at el)
   ·intro i y xs G hi ey h;rw [hPv] at h;obtain ⟨hT,KG⟩:=h;obtain ⟨n,en,rfl⟩:∃ n,ns[i]?=some n/\y=V.str n:=by
     rw [List.getElem?_map] at ey;obtain ⟨n,a0,b0⟩:=Option.map_eq_some_iff.mp ey;exact ⟨n,a0,b0.symm⟩
    obtain ⟨la,ws,vn,lw,ela⟩:=hL.inS (hks n (List.mem_of_getElem? en));have AG:=A.kp KG;have ekG:=KG.at ek;have elG:=KG.at ela;have es:fR S.lt (ns.take (i+1))=fR S.lt (ns.take i)++fR S.lt [n]:=by rw [List.take_add_one,en,Option.toList_some,abW]
    wp_walk using aY,Option.join_some,AG.ins,ekG,vn,elG;cases ws with
    | nil =>
     rw [if_neg (by simp),hPv,es];exact ⟨by rw [show fR S.lt [n]=[] by simp [fR,lw],List.append_nil];exact hT,KG⟩
    | cons w r =>
     rw [if_pos (by simp)];wp_walk using AG.ins,ekG,vn,elG;intro q1 m1 q2 m2;rw [hPv,es,show fR S.lt [n]=[(n,w::r)] by simp [fR,lw]];exact ⟨((hT.kt (aP.new m1)).kt (aP.new m2)).snoc aA ((Kp.new (S:=[]) m2).at aA),(KG.trans (Kp.new m1)).trans (Kp.new m2)⟩
   intro ut G h ln3 hln;rw [hPv] at h;obtain ⟨hT,KG⟩:=h;rw [List.length_map,List.take_length] at hT;have lut:ut.length<=64:=by
    rw [hT.len];have h1:=oQ S.lt ns;omega
   rw [ens] at hT;replace hT:gG G ut S.ltS:=hT;have N3:=Kp.new (S:=[]) (o:=.lst ut) hln;have eut:upd G ln3 (.lst ut) ln3=some (.lst ut):=aA;replace hT:=hT.kt (aP.nil N3);replace hP:=hP.kt (aP.nil (KG.trans N3));replace eun:=(KG.trans N3).at eun;replace A:=A.kp (KG.trans N3);replace N1:=N1.trans (KG.trans N3);generalize upd G ln3 (.lst ut)=G5 at *;clear hPv KG N3 hln el hks ens lns ek hL;refine hR3 _ _ ?_;clear hR3;clear R3;wp_walk using A.ins,A.wk.ins;refine ⟨R.wk,R.wx,R.lb,R.ln,S.stk,rfl,A.wk,fun pl m1=>?_⟩;have N4:=Kp.new (S:=[]) (o:=.tup ((bG S.stk).map V.int)) m1;have epl:upd G5 pl (.tup ((bG S.stk).map V.int)) pl=some (.tup ((bG S.stk).map V.int)):=aA;replace A:=A.kp N4;replace N1:=N1.trans N4;replace hP:=hP.kt (aP.nil N4);replace hT:=hT.kt (aP.nil N4);replace eun:=N4.at eun;replace eut:=N4.at eut;generalize upd G5 pl (.tup ((bG S.stk).map V.int))=G6 at *;clear N4 m1;wp_walk using A.ins,A.tk.ins,eun;refine fun pn m2=>?_;have N4:=Kp.new (S:=[]) (o:=.tup un) m2;have epn:upd G6 pn (.tup un) pn=some (.tup un):=aA;replace A:=A.kp N4;replace N1:=N1.trans N4;replace hP:=hP.kt (aP.nil N4);replace hT:=hT.kt (aP.nil N4);replace eun:=N4.at eun;replace eut:=N4.at eut;replace epl:=N4.at epl;generalize upd G6 pn (.tup un)=G7 at *;clear N4 m2;wp_walk using A.ins,A.tk.ins;refine ⟨R,as,_,S,rfl,A,b1,fun lo m3=>?_⟩;have N4:=Kp.new (S:=[]) (o:=.lst (S.pend.map V.int)) m3;have elo:upd G7 lo (.lst (S.pend.map V.int)) lo=some (.lst (S.pend.map V.int)):=aA;replace A:=A.kp N4;replace N1:=N1.trans N4;replace hP:=hP.kt (aP.nil N4);replace hT:=hT.kt (aP.nil N4);replace eun:=N4.at eun;replace eut:=N4.at eut;replace epl:=N4.at epl;replace epn:=N4.at epn;generalize upd G7 lo (.lst (S.pend.map V.int))=G8 at *;clear N4 m3;wp_walk using elo;refine fun po m4=>?_;have N4:=Kp.new (S:=[]) (o:=.tup (S.pend.map V.int)) m4;have epo:upd G8 po (.tup (S.pend.map V.int)) po=some (.tup (S.pend.map V.int)):=aA;replace A:=A.kp N4;replace N1:=N1.trans N4;replace hP:=hP.kt (aP.nil N4);replace hT:=hT.kt (aP.nil N4);replace eun:=N4.at eun;replace eut:=N4.at eut;replace epl:=N4.at epl;replace epn:=N4.at epn;generalize upd G8 po (.tup (S.pend.map V.int))=G9 at *;clear N4 m4;wp_walk using A.ins,A.tk.ins,A.tk.ha;refine fun rv m5=>?_;have N4:=Kp.new (S:=[]) (o:=ItE rv R.da) m5;have erv:upd G9 rv (ItE rv R.da) rv=some (ItE rv R.da):=aA;replace A:=A.kp N4;replace N1:=N1.trans N4;replace hP:=hP.kt (aP.nil N4);replace hT:=hT.kt (aP.nil N4);replace eun:=N4.at eun;replace eut:=N4.at eut;replace epl:=N4.at epl;replace epn:=N4.at epn;replace epo:=N4.at epo;generalize upd G9 rv (ItE rv R.da)=GA at *;clear N4 m5;refine ⟨R.da,_,rfl,A.tk.ha,fun pa aa GB m6 sm epa hla hpa=>?_⟩;have N4:Kp [] GA GB:=Kp.of sm;replace A:=A.kp N4;replace N1:=N1.trans N4;replace hP:=hP.kt (aP.nil N4);replace hT:=hT.kt (aP.nil N4);replace eun:=N4.at eun;replace eut:=N4.at eut;replace epl:=N4.at epl;replace epn:=N4.at epn;replace epo:=N4.at epo;have hA:dY GB (aa.map V.ref) S.anS:=dY.of (by rw [hla,Pu.anS,List.length_map,jT,List.length_map]) fun j a x y e1 e2=>by
    rw [Pu.anS,List.getElem?_map] at e2;obtain ⟨p0,e3,e4⟩:=Option.map_eq_some_iff.mp e2;cases e4;exact hpa j a (.inl p0.1) (wv p0.2) e1 (by rw [jT,List.getElem?_map,e3];rfl)
   clear N4 sm hla hpa m6 erv;wp_walk using eut;refine fun pt m7 p m8=>?_;have N4:=(Kp.new (S:=[]) (o:=.tup ut) m7).trans (Kp.new (o:=.tup [.ref ps,.ref pl,wv S.ar,.int S.nw,.ref pn,.int S.made,.ref po,.ref pa,.ref pt]) m8);refine q _ _ ?_ (N1.trans N4);unfold kJ;rw [if_pos hg];have T:=aP.nil N4;exact ⟨p,pl,pn,po,pa,pt,.ref ps,un,_,ut,rfl,aA,A.slp.kt T,N4.at epl,N4.at epn,hP.kt T,N4.at epo,N4.at epa,hA.kt T,(Kp.new (S:=[]) m8).at aA,hT.kt T⟩
theorem zR {t:Ad} (T:Tx w K mg t):bK P w K mg base CX0 8 t.xF t.yQ ["run"] (avW ⟨t.aU,t.aV,t.aJ⟩):=by
 refine T.zS.ok ahO (fun vs H Q E h=>?_) (fun cdv A outer s H vs Q E hr h=>?_)
 ·obtain ⟨R,as,sl,S,rfl,_⟩:=h;rfl
 ·obtain ⟨R,as,sl,S,rfl,A,X,q⟩:=h;refine ⟨_,(aG (aO (aN (agF T) (hr.mono (by omega)) rfl T.alO T.ab1.kp T.alM .nil pass0 (aD (aN (ad9 T) (hr.mono (by omega)) rfl T.ah8 T.yN.kp T.aiK .nil pass0 (aD (bX (pv 0) T.aW T.lG (kB T) (hr.mono (by omega)) T.oP .nil pass0) aB)) aB)))),?_⟩
  try dsimp only [L2.start,aZ,bJ,List.cons_append,List.nil_append,List.replicate_succ,List.replicate_zero,List.length_cons,List.length_nil,Nat.reduceAdd,Nat.reduceSub,Nat.zero_add]
  wp_walk using A.ins;refine ⟨R,as,sl,S,rfl,A,X.isN,X.b1,X.b2,X.b3,X.b4,X.b5,fun v G1 hv K1=>?_⟩;wp_walk;refine ⟨v,S,rfl,hv,X.isN,X.few,fun l us G2 el hc K2=>?_⟩;wp_walk;refine ⟨l,us,_,rfl,el,hc,X.tr,X.lr,X.lw,fun G3 K3=>?_⟩;exact q _ (K1.trans (K2.trans K3))
theorem dQ {t:Ad} (T:Tx w K mg t):bK P w K mg base CX0 1 t.jJ t.jN ["worth"] aAR:=by
 refine T.dO.ok uJ (fun vs H Q E h=>?_) (fun cdv A outer s H vs Q E hr h=>?_)
 ·obtain ⟨w,rfl,_⟩:=h;rfl
 ·obtain ⟨w,rfl,hw,q⟩:=h;refine ⟨_,(aC (bP (aS lP (pv 0) eJ (nomark _)) (aG (aO aK)) bA)
   (aG (aO (cC sM rfl T.akY adB (aD (pv 0) aB))))),?_⟩
  try dsimp only [L2.start,aZ,bJ,List.cons_append,List.nil_append,List.replicate_succ,List.replicate_zero,List.length_cons,List.length_nil,Nat.reduceAdd,Nat.reduceSub,Nat.zero_add]
  cases w with
  | none =>
   simp only [wv];wp_walk;exact q
  | some n =>
   have:=hw n rfl;simp only [wv];wp_walk using reduceCtorEq;exact ⟨tlog (by omega) (by omega),q⟩
theorem aiI {t:Ad} (T:Tx w K mg t):bK P w K mg base CX0 4 t.wR t.yY ["state"] aBL:=by
 refine T.afY.ok bV (fun vs H Q E h=>?_) (fun cdv A outer s H vs Q E hr h=>?_)
 ·obtain ⟨v,S,rfl,_⟩:=h;rfl
 ·obtain ⟨v,S,rfl,h,hn,few,tr,lw,lr,ws,q⟩:=h;refine ⟨_,(aC (bP (aS (atP (am3 hr (by decide))) (aX bN (pv 0) aE (fun _ _=>rfl)) aK (nomark _)) (aG (aO (bH cN (bH cN aK (aN (dQ T) (hr.mono (by omega)) rfl T.eP T.dO.kp T.eR .nil pass0 (aD (aX bN (pv 0) aE (fun _ _=>rfl)) aB))) aK))) bA)
   (aC (bP (aS cJ (dB sL rfl T.ahP w9 (aD (pv 0) aB)) aE (nomark _)) (aG (aO (bH cN (aX bN (pv 0) aE (fun _ _=>rfl)) aK))) bA)
   (aC (xJ (zN azP (pv 0) ai6 (wC aE)) (yC rfl (dD (c7 (i:=1) bV.nd rfl (Or.inl rfl)) (dD (c7 (i:=2) bV.nd rfl (Or.inl rfl)) (dD (c7 (i:=3) bV.nd rfl (Or.inl rfl)) (dD (c7 (i:=4) bV.nd rfl (Or.inl rfl)) (dD (c7 (i:=5) bV.nd rfl (Or.inl rfl)) (dD (c7 (i:=6) bV.nd rfl (Or.inl rfl)) rK))))))))
   (aC (xJ (zN azP (pv 0) (wC aE) ai6) (yC rfl (dD (c7 (i:=7) bV.nd rfl (Or.inl rfl)) (dD (c7 (i:=8) bV.nd rfl (Or.inl rfl)) (dD (c7 (i:=9) bV.nd rfl (Or.inl rfl)) rK)))))
   (aC (bC (i:=10) bV.nd rfl (Or.inl rfl) (bE (aD (bH cN (bE (aD aK aB)) (cC abU rfl T.akH ajQ (aD (pv 2) aB))) aB)))
   (aC (bP (aS cJ (aX bN (pv 1) aE (fun _ _=>rfl)) aK (nomark _)) (aG (bL (j4 (pv 10) (bH cN (bE (aD aK aB)) (cC abU rfl T.akH ajQ (aD (aX bN (pv 1) aE (fun _ _=>rfl)) aB)))))) bA)
   (aC (bC (i:=10) bV.nd rfl (Or.inl rfl) (bH cN (pv 10) (bE (aD (bE (aD aK (aD (pv 4) aB))) (aD (bE (aD aK (aD (aN (dQ T) (hr.mono (by omega)) rfl T.eP T.dO.kp T.eR .nil pass0 (aD (pv 3) aB)) aB))) aB)))))
   (aC (bC (i:=10) bV.nd rfl (Or.inl rfl) (bH cN (pv 10) (aeV (cl:=[]) (fr:=[]) (N:=["name","worth"]) rfl (fun _ _ h=>h) (j0.of (M:=["name"]) (cO.nofree rfl rfl rfl rfl) rfl (by decide) rfl) (iD (pv 5)) (fun C s H ex pn=>⟨eL,(bE (aD aK (aD (pv 0) (aD (aN (dQ T) (hr.mono (by omega)) rfl T.eP T.dO.kp T.eR .nil pass0 (aD (pv 1) aB)) aB))))⟩))))
   (aC (bL (j4 (pv 10) (bE (aD aK (aD (pv 6) aB)))))
   (aC (bC (i:=10) bV.nd rfl (Or.inl rfl) (bH cN (pv 10) (eM (cl:=[]) (fr:=[]) (N:=["ticket"]) rfl (fun _ _ h=>h) (cO.nofree rfl rfl rfl rfl) (iD (pv 7)) (fun C s H ex pn=>⟨eL,(bE (aD aK (aD (pv 0) aB)))⟩))))
   (aC (bC (i:=10) bV.nd rfl (Or.inl rfl) (bH cN (pv 10) (aeV (cl:=[]) (fr:=[]) (N:=["ticket","worth"]) rfl (fun _ _ h=>h) (j0.of (M:=["ticket"]) (cO.nofree rfl rfl rfl rfl) rfl (by decide) rfl) (iD (pv 8)) (fun C s H ex pn=>⟨eL,(bE (aD aK (aD (pv 0) (aD (aN (dQ T) (hr.mono (by omega)) rfl T.eP T.dO.kp T.eR .nil pass0 (aD (pv 1) aB)) aB))))⟩))))
   (aC (zF PassesOwn.never rfl (iD (pv 9)) (yC rfl (dD (c7 (i:=11) bV.nd rfl (Or.inr rfl)) (dD (c7 (i:=12) bV.nd rfl (Or.inl rfl)) rK))) (aG (bC (i:=10) bV.nd rfl (Or.inl rfl) (bH cN (pv 10) (eM (fr:=[11]) (N:=["worth","key"]) rfl (fun _ _ h=>h) (cO.free rfl rfl rfl rfl rfl (fun _ _ h=>h) rfl (by decide) rfl (fun j hj=>by rw [show j=11 by simpa using hj];exact ⟨_,rfl,rfl,.inl rfl⟩)) (iD (pv 12)) (fun C s H ex pn=>⟨eL,(bE (aD aK (aD (pv 1) (aD (aN (dQ T) (hr.mono (by omega)) rfl T.eP T.dO.kp T.eR .nil pass0 (aD (pv 0) aB)) aB))))⟩))))))
   (aG (aO (ajO PySem.F.plainAttrs_str PySem.F.slot_str_join PySem.F.type_str_join v9 aK (aD (eM (cl:=[]) (fr:=[]) (N:=["row"]) rfl (fun _ _ h=>h) (cO.nofree rfl rfl rfl rfl) (iT (pv 10)) (fun C s H ex pn=>⟨eL,bH cN (awG K PySem.F.plainAttrs_str PySem.F.slot_str_join PySem.F.type_str_join v9 aK (aD (eM (cl:=[]) (fr:=[]) (N:=["word"]) rfl (fun _ _ h=>h) (cO.nofree rfl rfl rfl rfl) (ao4 K (pv 0)) (fun C s H ex pn=>⟨eL,cC sM rfl T.akY adB (aD (pv 0) aB)⟩)) aB)) aK⟩)) aB)))))))))))))))),?_⟩
  try dsimp only [L2.start,aZ,bJ,List.cons_append,List.nil_append,List.replicate_succ,List.replicate_zero,List.length_cons,List.length_nil,Nat.reduceAdd,Nat.reduceSub,Nat.zero_add]
  cases hg:S.sl.going with
  | false =>
   unfold kJ at h;rw [if_neg (by rw [hg];simp)] at h;unfold Pu.rowsS at q tr;cases e:S.sl with
   | non=>rw [e] at hn;cases hn
   | wait ts=>rw [e] at hg;cases hg
   | hear k=>rw [e] at hg;cases hg
   | new =>
    rw [e] at h q;obtain ⟨p,rfl,ep⟩:=h;wp_walk using ep;refine .inl ⟨_,rfl,?_⟩;wp_walk using ep,e9;exact ⟨by decide +kernel,q _ Kp.refl⟩
   | ended w =>
    have iw:=ws.en w e;have l20:=(zL iw).len;have l6:("ended ":Str).length=6:=by decide +kernel
    have l1:=jlens.2.1;rw [e] at h q;obtain ⟨p,rfl,ep⟩:=h;wp_walk using ep;refine .inl ⟨_,rfl,?_⟩;wp_walk using ep,e9;rw [atH] at q;exact ⟨iw,by omega,by rw [akC];omega,q _ Kp.refl⟩
   | worn =>
    rw [e] at h q;obtain ⟨p,rfl,ep⟩:=h;wp_walk using ep;refine .inl ⟨_,rfl,?_⟩;wp_walk using ep,e9;exact ⟨by decide +kernel,q _ Kp.refl⟩
  | true =>
   obtain ⟨p,ps,pl,pn,po,pa,pt,un,ua,ut,rfl,A⟩:=h.go hg;obtain ⟨w0,y0,e0,d0⟩:=ajL A.a2 hg;have A0:=A;refine aF fun R1 hR1=>?_;wp_walk using A.a1;refine .inr ⟨ps,_,rfl,dF.of e0,?_⟩;wp_walk;refine hR1 _ _ ?_;clear hR1;clear R1;refine aF fun R2 hR2=>?_;wp_walk using A.a1;clear d0;refine hR2 _ _ ?_;clear hR2;clear R2;rw [af7 hg] at q tr lw lr;have t1:Trow (.str "at"::(bG S.stk).map V.int):=tr _ (by unfold dN;simp);have t2:∀ r∈uU S.sl,Trow r:=fun r hr=>tr _ (by unfold dN;simp [hr]);have t3:Trow [.str "now",.int S.nw]:=tr _ (by unfold dN;simp);have t4:Trow [.str "arg",wv S.ar]:=tr _ (by unfold dN;simp);have t5:∀ p∈S.nmS,Trow [.str "name",p.1,p.2]:=fun p hp=>tr _ (by unfold dN;simp only [List.mem_append,List.mem_map];exact .inl (.inl (.inl (.inl (.inr ⟨p,hp,rfl⟩)))));have t6:Trow [.str "made",.int S.made]:=tr _ (by unfold dN;simp);have t7:∀ i∈S.pend,Trow [.str "open",.int i]:=fun i hi=>tr _ (by unfold dN;simp only [List.mem_append,List.mem_map];exact .inl (.inl (.inr ⟨i,hi,rfl⟩)));have t8:∀ p∈S.anS,Trow [.str "done",p.1,p.2]:=fun p hp=>tr _ (by unfold dN;simp only [List.mem_append,List.mem_map];exact .inl (.inr ⟨p,hp,rfl⟩));have t9:∀ p∈S.ltS,∀ w∈p.2,Trow [.str "letter",.str p.1,wv w]:=fun p hp w hw=>tr _ (by unfold dN;simp only [List.mem_append,List.mem_flatMap];exact .inr ⟨p,hp,List.mem_map.mpr ⟨w,hw,rfl⟩⟩);have fp:=few.pd;have fa:S.anS.length<=100000:=by unfold Pu.anS;rw [List.length_map];exact few.an
   have fn:=few.ns;have fm:=few.nu;refine aF fun R3 hR3=>?_;wp_walk using A.a1;refine ⟨by decide,fun q1 m1=>⟨_,dF.of aA,rfl,?_⟩⟩;rw [cut6];have N1:=Kp.new (S:=[]) (o:=.tup [.ref ps,.ref pl,wv S.ar,.int S.nw,.ref pn,.int S.made]) m1;replace A:=A.kp N1;generalize hGa:upd H q1 (.tup [.ref ps,.ref pl,wv S.ar,.int S.nw,.ref pn,.int S.made])=Ga at *;clear hGa m1;wp_walk;refine hR3 _ _ ?_;clear hR3;clear R3;refine aF fun R4 hR4=>?_;wp_walk using A.a1;refine ⟨by decide,fun q2 m2=>⟨_,dF.of aA,rfl,?_⟩⟩;rw [cut3];have N2:=N1.trans (Kp.new (S:=[]) (o:=.tup [.ref po,.ref pa,.ref pt]) m2);replace A:=A.kp (Kp.new (S:=[]) (o:=.tup [.ref po,.ref pa,.ref pt]) m2);generalize hGb:upd Ga q2 (.tup [.ref po,.ref pa,.ref pt])=Gb at *;clear hGb m2 N1;wp_walk;refine hR4 _ _ ?_;clear hR4;clear R4;refine aF fun R5 hR5=>?_;wp_walk;refine fun t1a m1=>?_;have N3:=Kp.new (S:=[]) (o:=.lst [.str "at"]) m1;replace A:=A.kp N3;wp_walk using A.a3;refine fun t2a m2=>?_;have N4:=N2.trans (N3.trans (Kp.new (o:=.lst ((bG S.stk).map V.int)) m2));have f1:=(Kp.new (S:=[]) (o:=.lst ((bG S.stk).map V.int)) m2).at (aA:upd Gb t1a (.lst [.str "at"]) t1a=_);generalize upd (upd Gb t1a (.lst [.str "at"])) t2a (.lst ((bG S.stk).map V.int))=Gc at *;wp_walk using f1;refine ⟨by first | omega | (rw [List.length_map];omega),fun t3a m3 l hl=>?_⟩;have D:=RwM.one (r:=.str "at"::(bG S.stk).map V.int) (N4.trans (Kp.new m3)) aA hl (Alike.refl t1 (ajZ (aj2 _)));generalize hGd:upd (upd Gc t3a (.lst (.str "at"::(bG S.stk).map V.int))) l (.lst [.ref t3a])=G at *;generalize hus:[V.ref t3a]=us at *;clear hGd hus m1 m2 m3 hl f1 N2 N3 N4 A;refine hR5 _ _ ?_;clear hR5;clear R5;refine aF fun R6 hR6=>?_
   suffices fin:∀(us:List V) (G:Hp),RwM H G l us ([.str "at"::(bG S.stk).map V.int]++uU S.sl)->R6 [some (.ref p),some (.ref ps),some (.ref pl),some (wv S.ar),some (.int S.nw),some (.ref pn),some (.int S.made),some (.ref po),some (.ref pa),some (.ref pt),some (.ref l),none,none] G by
    rcases ag2 (A0.kp D.k).a2 hg with ⟨ts,p2,es,e1,e2⟩ | ⟨k,es,e1⟩
    ·have ft:=few.ts ts es;have eD:=D.e;have lz2:=D.c.len;wp_walk using e1,eD;refine fun t1a m1=>?_;have N3:=Kp.new (S:=[]) (o:=.lst [.str "for"]) m1;replace e1:=N3.at e1;replace e2:=N3.at e2;wp_walk using e1,e2;refine fun t2a m2=>?_;have N4:=N3.trans (Kp.new (o:=.lst (ts.map V.int)) m2);have f1:=(Kp.new (S:=[]) (o:=.lst (ts.map V.int)) m2).at (aA:upd G t1a (.lst [.str "for"]) t1a=_);replace D:=D.kp N4;generalize upd (upd G t1a (.lst [.str "for"])) t2a (.lst (ts.map V.int))=Gc at *;wp_walk using f1;refine ⟨by first | omega | (rw [List.length_map];omega),fun t3a m3=>?_⟩;have nl:=(aL D.e m3).symm;replace D:=D.kp (Kp.new (o:=.lst (.str "for"::ts.map V.int)) m3);have f3:upd Gc t3a (.lst (.str "for"::ts.map V.int)) t3a=some (.lst (.str "for"::ts.map V.int)):=aA;replace eD:=D.e;wp_walk using eD;refine ⟨by simp only [List.length_cons,List.length_nil] at lz2;omega,fin (us++[.ref t3a]) _ ?_⟩;rw [es];exact D.app f3 nl (Alike.refl (t2 _ (by rw [es];simp [uU])) (ajZ (aj2 _)))
    ·skip;wp_walk using e1,e9;refine fin us _ ?_;rw [es];exact D
   clear D;clear us G;intro us G D;have lm:(uU S.sl).length<=1:=by unfold uU;split<;>simp
   have eD:=D.e;refine hR6 _ _ ?_;clear hR6;clear R6;refine aF fun R7 hR7=>?_;wp_walk using eD;refine fun t1a m1=>⟨ws.ar,fun t2a m2 t3a m3=>?_⟩;have NZ:=((Kp.new (S:=[]) (o:=.lst [.str "now",.int S.nw]) m1).trans (Kp.new (o:=.lst [.str "arg",.str (tw (wv S.ar))]) m2)).trans (Kp.new (o:=.lst [.ref t1a,.ref t2a]) m3);have hz:gC (upd (upd (upd G t1a (.lst [.str "now",.int S.nw])) t2a (.lst [.str "arg",.str (tw (wv S.ar))])) t3a (.lst [.ref t1a,.ref t2a])) [.ref t1a,.ref t2a] [[.str "now",.int S.nw],[.str "arg",wv S.ar]]:=.cons (((Kp.new (S:=[]) m2).trans (Kp.new m3)).at aA) (Alike.refl t3 (by simp)) (.cons ((Kp.new (S:=[]) m3).at aA) (Alike.last (r:=[.str "arg"]) t4 (by simp) ws.ar) .nil);have ez:upd (upd (upd G t1a (.lst [.str "now",.int S.nw])) t2a (.lst [.str "arg",.str (tw (wv S.ar))])) t3a (.lst [.ref t1a,.ref t2a]) t3a=some (.lst [.ref t1a,.ref t2a]):=aA;replace D:=D.kp NZ;replace eD:=D.e;generalize upd (upd (upd G t1a (.lst [.str "now",.int S.nw])) t2a (.lst [.str "arg",.str (tw (wv S.ar))])) t3a (.lst [.ref t1a,.ref t2a])=G2 at *;have lz2:=D.c.len;wp_walk using eD,ez;refine ⟨by simp only [List.length_append,List.length_cons,List.length_nil] at lz2;omega,fun l3 m4=>?_⟩;replace D:=D.cat hz m4;generalize upd G2 l3 (.lst (us++[.ref t1a,.ref t2a]))=G3 at *;generalize us++[.ref t1a,.ref t2a]=us3 at *;clear NZ hz ez eD lz2 m1 m2 m3 m4;refine hR7 _ _ ?_;clear hR7;clear R7;clear us;obtain ⟨us,rfl⟩:∃ us,us=us3:=⟨_,rfl⟩;clear G;obtain ⟨G,rfl⟩:∃ G,G=G3:=⟨_,rfl⟩;clear l;obtain ⟨l,rfl⟩:∃ l,l=l3:=⟨_,rfl⟩;have eD:=D.e;have A1:=A0.kp D.k;refine aF fun R8 hR8=>?_;wp_walk using eD;refine ⟨⟨_,dF.of A1.a4⟩,?_⟩;obtain ⟨Pw,hPw⟩:∃ Pw:Nat->List V->Hp->Prop,∀ i zs G',Pw i zs G'=(gC G' zs ((S.nmS.map (fun p=>[V.str "name",p.1,p.2])).take i)/\Kp [] G G'):=⟨_,fun _ _ _=>rfl⟩;have ln:(un).length=(S.nmS.map (fun p=>[V.str "name",p.1,p.2])).length:=by rw [A1.a5.len,List.length_map]
   have lb:(S.nmS.map (fun p=>[V.str "name",p.1,p.2])).length<=100000:=by rw [List.length_map];omega
   refine ai1 (ys:=un) Pw ?_ ?_ ?_ ?_ ?_
   ·rw [hPw];exact ⟨by rw [List.take_zero];exact .nil,Kp.refl⟩
   ·intro i zs G' h;rw [hPw] at h;rw [h.1.len,List.length_take];omega
   ·intro i zs G' h;rw [hPw] at h;exact dF.of (h.2.at A1.a4)
   ·intro i y zs G' _ hi h;rw [hPw] at h;obtain ⟨hz,k⟩:=h;obtain ⟨a,x1,x2,rfl,ej,ea⟩:=A1.a5.at' hi;obtain ⟨n0,w0,ep,iw⟩:=ws.nm _ (List.mem_of_getElem? ej);cases ep;have es:=cR (show (S.nmS.map (fun p=>[V.str "name",p.1,p.2]))[i]?=some [.str "name",.str n0,wv w0] by rw [List.getElem?_map,ej];rfl);have tt:=t5 _ (List.mem_of_getElem? ej);refine ⟨a,_,_,rfl,dF.of (k.at ea),?_⟩;wp_walk using aY,Option.join_some;refine ⟨iw,fun c mc=>?_⟩;rw [hPw,es];have N2:=Kp.new (S:=[]) (o:=.lst [.str "name",.str n0,.str (tw (wv w0))]) mc;exact ⟨(hz.kp N2).snoc1 aA (Alike.last (r:=[.str "name",.str n0]) tt (by simp) iw),k.trans N2⟩
   intro zs G' h lz mz;rw [hPw] at h;obtain ⟨hz,k⟩:=h;rw [List.take_of_length_le (by rw [ln];exact Nat.le_refl _)] at hz;have NZ:=Kp.new (S:=[]) (o:=.lst zs) mz;have ez:upd G' lz (.lst zs) lz=some (.lst zs):=aA;replace hz:=hz.kp NZ;replace D:=(D.kp k).kp NZ;generalize upd G' lz (.lst zs)=G2 at *;have lz1:=hz.len;have lz2:=D.c.len;replace eD:=D.e;clear hPw Pw NZ k mz;wp_walk using eD,ez;refine ⟨by simp only [List.length_append,List.length_cons,List.length_nil,List.length_map] at lz1 lz2;omega,fun l3 m3=>?_⟩;replace D:=D.cat hz m3;generalize upd G2 l3 (.lst (us++zs))=G3 at *;generalize us++zs=us3 at *;clear hz ez eD lz1 lz2 ln lb m3;refine hR8 _ _ ?_;clear hR8;clear R8;clear us;obtain ⟨us,rfl⟩:∃ us,us=us3:=⟨_,rfl⟩;clear A1 G;obtain ⟨G,rfl⟩:∃ G,G=G3:=⟨_,rfl⟩;clear l;obtain ⟨l,rfl⟩:∃ l,l=l3:=⟨_,rfl⟩;have eD:=D.e;have A1:=A0.kp D.k;refine aF fun R9 hR9=>?_;wp_walk using eD;refine fun t1a m1=>?_;have nl:=(aL eD m1).symm;have NZ:=Kp.new (S:=[]) (o:=.lst [.str "made",.int S.made]) m1;have f1:upd G t1a (.lst [.str "made",.int S.made]) t1a=some (.lst [.str "made",.int S.made]):=aA;replace D:=D.kp NZ;replace eD:=D.e;generalize upd G t1a (.lst [.str "made",.int S.made])=G2 at *;have lz2:=D.c.len;wp_walk using eD;refine ⟨by simp only [List.length_append,List.length_cons,List.length_nil,List.length_map] at lz2;omega,?_⟩;replace D:=D.app f1 nl (Alike.refl t6 (by simp));generalize upd G2 l (.lst (us++[.ref t1a]))=G3 at *;generalize us++[.ref t1a]=us3 at *;clear NZ eD lz2 m1 f1 nl;refine hR9 _ _ ?_;clear hR9;clear R9;clear us;obtain ⟨us,rfl⟩:∃ us,us=us3:=⟨_,rfl⟩;clear A1 G;obtain ⟨G,rfl⟩:∃ G,G=G3:=⟨_,rfl⟩;have eD:=D.e;have A1:=A0.kp D.k;refine aF fun R10 hR10=>?_;wp_walk using eD;refine ⟨⟨_,dF.of A1.a6⟩,?_⟩;obtain ⟨Pw,hPw⟩:∃ Pw:Nat->List V->Hp->Prop,∀ i zs G',Pw i zs G'=(gC G' zs ((S.pend.map (fun i=>[V.str "open",V.int i])).take i)/\Kp [] G G'):=⟨_,fun _ _ _=>rfl⟩;have ln:(S.pend.map V.int).length=(S.pend.map (fun i=>[V.str "open",V.int i])).length:=by rw [List.length_map,List.length_map]
   have lb:(S.pend.map (fun i=>[V.str "open",V.int i])).length<=100000:=by rw [List.length_map];omega
   refine mP (ys:=S.pend.map V.int) Pw ?_ ?_ ?_ ?_ ?_
   ·rw [hPw];exact ⟨by rw [List.take_zero];exact .nil,Kp.refl⟩
   ·intro i zs G' h;rw [hPw] at h;rw [h.1.len,List.length_take];omega
   ·intro i zs G' h;rw [hPw] at h;exact dF.of (h.2.at A1.a6)
   ·intro i y zs G' _ hi h;rw [hPw] at h;obtain ⟨hz,k⟩:=h;obtain ⟨x1,ej,rfl⟩:∃ x1,S.pend[i]?=some x1/\y=.int x1:=by
     rw [List.getElem?_map] at hi;obtain ⟨x1,a0,b0⟩:=Option.map_eq_some_iff.mp hi;exact ⟨x1,a0,b0.symm⟩
    have es:=cR (show (S.pend.map (fun i=>[V.str "open",V.int i]))[i]?=some [.str "open",.int x1] by rw [List.getElem?_map,ej];rfl);have tt:=t7 _ (List.mem_of_getElem? ej);wp_walk using aY,Option.join_some;refine fun c mc=>?_;rw [hPw,es];have N2:=Kp.new (S:=[]) (o:=.lst [.str "open",.int x1]) mc;exact ⟨(hz.kp N2).snoc1 aA (Alike.refl tt (by simp)),k.trans N2⟩
   intro zs G' h lz mz;rw [hPw] at h;obtain ⟨hz,k⟩:=h;rw [List.take_of_length_le (by rw [ln];exact Nat.le_refl _)] at hz;have NZ:=Kp.new (S:=[]) (o:=.lst zs) mz;have ez:upd G' lz (.lst zs) lz=some (.lst zs):=aA;replace hz:=hz.kp NZ;replace D:=(D.kp k).kp NZ;generalize upd G' lz (.lst zs)=G2 at *;have lz1:=hz.len;have lz2:=D.c.len;replace eD:=D.e;clear hPw Pw NZ k mz;wp_walk using eD,ez;refine ⟨by simp only [List.length_append,List.length_cons,List.length_nil,List.length_map] at lz1 lz2;omega,fun l3 m3=>?_⟩;replace D:=D.cat hz m3;generalize upd G2 l3 (.lst (us++zs))=G3 at *;generalize us++zs=us3 at *;clear hz ez eD lz1 lz2 ln lb m3;refine hR10 _ _ ?_;clear hR10;clear R10;clear us;obtain ⟨us,rfl⟩:∃ us,us=us3:=⟨_,rfl⟩;clear A1 G;obtain ⟨G,rfl⟩:∃ G,G=G3:=⟨_,rfl⟩;clear l;obtain ⟨l,rfl⟩:∃ l,l=l3:=⟨_,rfl⟩;have eD:=D.e;have A1:=A0.kp D.k;refine aF fun R11 hR11=>?_;wp_walk using eD;refine ⟨⟨_,dF.of A1.a7⟩,?_⟩;obtain ⟨Pw,hPw⟩:∃ Pw:Nat->List V->Hp->Prop,∀ i zs G',Pw i zs G'=(gC G' zs ((S.anS.map (fun p=>[V.str "done",p.1,p.2])).take i)/\Kp [] G G'):=⟨_,fun _ _ _=>rfl⟩;have ln:(ua).length=(S.anS.map (fun p=>[V.str "done",p.1,p.2])).length:=by rw [A1.a8.len,List.length_map]
   have lb:(S.anS.map (fun p=>[V.str "done",p.1,p.2])).length<=100000:=by rw [List.length_map];omega
   refine ai1 (ys:=ua) Pw ?_ ?_ ?_ ?_ ?_
   ·rw [hPw];exact ⟨by rw [List.take_zero];exact .nil,Kp.refl⟩
   ·intro i zs G' h;rw [hPw] at h;rw [h.1.len,List.length_take];omega
   ·intro i zs G' h;rw [hPw] at h;exact dF.of (h.2.at A1.a7)
   ·intro i y zs G' _ hi h;rw [hPw] at h;obtain ⟨hz,k⟩:=h;obtain ⟨a,x1,x2,rfl,ej,ea⟩:=A1.a8.at' hi;obtain ⟨p0,ep0,ep⟩:∃ p0,S.ans[i]?=some p0/\(V.int p0.1,wv p0.2)=(x1,x2):=by
     have:=ej;unfold Pu.anS at this;rw [List.getElem?_map] at this;exact Option.map_eq_some_iff.mp this
    cases ep;have iw:=ws.an _ (List.mem_of_getElem? ep0);have es:=cR (show (S.anS.map (fun p=>[V.str "done",p.1,p.2]))[i]?=some [.str "done",.int p0.1,wv p0.2] by rw [List.getElem?_map,ej];rfl);have tt:=t8 _ (List.mem_of_getElem? ej);refine ⟨a,_,_,rfl,dF.of (k.at ea),?_⟩;wp_walk using aY,Option.join_some;refine ⟨iw,fun c mc=>?_⟩;rw [hPw,es];have N2:=Kp.new (S:=[]) (o:=.lst [.str "done",.int p0.1,.str (tw (wv p0.2))]) mc;exact ⟨(hz.kp N2).snoc1 aA (Alike.last (r:=[.str "done",.int p0.1]) tt (by simp) iw),k.trans N2⟩
   intro zs G' h lz mz;rw [hPw] at h;obtain ⟨hz,k⟩:=h;rw [List.take_of_length_le (by rw [ln];exact Nat.le_refl _)] at hz;have NZ:=Kp.new (S:=[]) (o:=.lst zs) mz;have ez:upd G' lz (.lst zs) lz=some (.lst zs):=aA;replace hz:=hz.kp NZ;replace D:=(D.kp k).kp NZ;generalize upd G' lz (.lst zs)=G2 at *;have lz1:=hz.len;have lz2:=D.c.len;replace eD:=D.e;clear hPw Pw NZ k mz;wp_walk using eD,ez;refine ⟨by simp only [List.length_append,List.length_cons,List.length_nil,List.length_map] at lz1 lz2;omega,fun l3 m3=>?_⟩;replace D:=D.cat hz m3;generalize upd G2 l3 (.lst (us++zs))=G3 at *;generalize us++zs=us3 at *;clear hz ez eD lz1 lz2 ln lb m3;refine hR11 _ _ ?_;clear hR11;clear R11;clear us;obtain ⟨us,rfl⟩:∃ us,us=us3:=⟨_,rfl⟩;clear A1 G;obtain ⟨G,rfl⟩:∃ G,G=G3:=⟨_,rfl⟩;clear l;obtain ⟨l,rfl⟩:∃ l,l=l3:=⟨_,rfl⟩;have eD:=D.e;have A1:=A0.kp D.k;refine aF fun R12 hR12=>?_;wp_walk;refine ⟨⟨_,dF.of A1.a9⟩,?_⟩;obtain ⟨rs0,DB,hB,lB⟩:∃ r,RwM H G l us r/\r++S.ltS.flatMap sD=dN S (uU S.sl)/\r.length<=300000:=⟨_,D,rfl,by simp only [List.length_append,List.length_cons,List.length_nil,List.length_map];omega⟩;obtain ⟨Pv,hPv⟩:∃ Pv:Nat->St->Hp->Prop,∀ i σ G',Pv i σ G' = ∃(l:Addr) (v3 v4:Option V) (us:List V),σ=[some (.ref p),some (.ref ps),some (.ref pl),some (wv S.ar),some (.int S.nw),some (.ref pn),some (.int S.made),some (.ref po),some (.ref pa),some (.ref pt),some (.ref l),v3,v4]/\RwM H G' l us (rs0++(S.ltS.take i).flatMap sD):=⟨_,fun _ _ _=>rfl⟩;refine ai4 (xs:=ut) Pv ?_ ?_ ?_ ?_
   ·rw [hPv];exact ⟨l,_,_,us,rfl,by rw [List.take_zero,List.flatMap_nil,List.append_nil];exact DB⟩
   ·intro i σ G' _ h;rw [hPv] at h;obtain ⟨_,_,_,_,_,D⟩:=h;exact dF.of (D.k.at A0.a9)
   ·intro i0 y0 σ G hy h;rw [hPv] at h;clear D DB A1 eD us l;obtain ⟨l,v3,v4,us,rfl,D⟩:=h;have A1:=A0.kp D.k;have eD:=D.e;obtain ⟨a0,b0,k0,wl,rfl,ej,ea,eb⟩:=A1.a10.at' hy;have fw:=few.lw _ (List.mem_of_getElem? ej);have fl:=few.ls;have lt1:=qE (ps:=S.ltS.take i0) (fun p hp=>few.lw p (List.mem_of_mem_take hp));rw [List.length_take] at lt1;simp only at fw;have et:=cR ej;wp_walk;refine ⟨_,dF.of ea,rfl,?_⟩;wp_walk using eD;refine ⟨⟨_,dF.of eb⟩,?_⟩;obtain ⟨Pw,hPw⟩:∃ Pw:Nat->List V->Hp->Prop,∀ i zs G',Pw i zs G'=(gC G' zs ((wl.map (fun w=>[V.str "letter",V.str k0,wv w])).take i)/\Kp [] G G'):=⟨_,fun _ _ _=>rfl⟩;have ln:(wl.map wv).length=(wl.map (fun w=>[V.str "letter",V.str k0,wv w])).length:=by rw [List.length_map,List.length_map]
    have lb:(wl.map (fun w=>[V.str "letter",V.str k0,wv w])).length<=100000:=by rw [List.length_map];omega
    refine mP (ys:=wl.map wv) Pw ?_ ?_ ?_ ?_ ?_
    ·rw [hPw];exact ⟨by rw [List.take_zero];exact .nil,Kp.refl⟩
    ·intro i zs G' h;rw [hPw] at h;rw [h.1.len,List.length_take];omega
    ·intro i zs G' h;rw [hPw] at h;exact dF.of (h.2.at eb)
    ·intro i y zs G' _ hi h;rw [hPw] at h;obtain ⟨hz,k⟩:=h;obtain ⟨x1,ej1,rfl⟩:∃ x1,wl[i]?=some x1/\y=wv x1:=by
      rw [List.getElem?_map] at hi;obtain ⟨x1,a0,b0⟩:=Option.map_eq_some_iff.mp hi;exact ⟨x1,a0,b0.symm⟩
     have iw:=ws.lt _ (List.mem_of_getElem? ej) x1 (List.mem_of_getElem? ej1);have tt:=t9 _ (List.mem_of_getElem? ej) x1 (List.mem_of_getElem? ej1);have es:=cR (show (wl.map (fun w=>[V.str "letter",V.str k0,wv w]))[i]?=some [.str "letter",.str k0,wv x1] by rw [List.getElem?_map,ej1];rfl);wp_walk using aY,Option.join_some;refine ⟨iw,fun c mc=>?_⟩;rw [hPw,es];have N2:=Kp.new (S:=[]) (o:=.lst [.str "letter",.str k0,.str (tw (wv x1))]) mc;exact ⟨(hz.kp N2).snoc1 aA (Alike.last (r:=[.str "letter",.str k0]) tt (by simp) iw),k.trans N2⟩
    intro zs G' h lz mz;rw [hPw] at h;obtain ⟨hz,k⟩:=h;rw [List.take_of_length_le (by rw [ln];exact Nat.le_refl _)] at hz;have NZ:=Kp.new (S:=[]) (o:=.lst zs) mz;have ez:upd G' lz (.lst zs) lz=some (.lst zs):=aA;replace hz:=hz.kp NZ;replace D:=(D.kp k).kp NZ;generalize upd G' lz (.lst zs)=G2 at *;have lz1:=hz.len;have lz2:=D.c.len;replace eD:=D.e;clear hPw Pw NZ k mz;wp_walk using eD,ez;refine ⟨by simp only [List.length_append,List.length_cons,List.length_nil,List.length_map] at lz1 lz2;omega,fun l3 m3=>?_⟩;replace D:=D.cat hz m3;generalize upd G2 l3 (.lst (us++zs))=G3 at *;generalize us++zs=us3 at *;clear hz ez eD lz1 lz2 ln lb m3;rw [hPv,et,List.flatMap_append,List.flatMap_singleton,<- List.append_assoc];exact ⟨l3,_,_,us3,rfl,D⟩
   clear D DB A1 eD us l;intro σ G h;rw [hPv] at h;obtain ⟨l,v3,v4,us,rfl,D⟩:=h;rw [A0.a10.len,List.take_length,hB] at D;clear hPv;refine hR12 _ _ ?_;clear hR12;clear R12;wp_walk;refine ⟨⟨_,eZ.of D.e⟩,?_⟩;have ll:=D.c.len;generalize dN S (uU S.sl)=rs at *;have KD:=D.k;refine j9 (ys:=us) (fun j xs G'=>xs=((rs.map j6).take j).map V.str/\Kp [] G G') ⟨rfl,Kp.refl⟩ ?_ ?_ ?_ ?_
   ·rintro j xs G' ⟨rfl,_⟩;simp only [List.length_map,List.length_take];omega
   ·rintro j xs G' ⟨_,k⟩;exact eZ.of (k.at D.e)
   ·rintro j y xs G' _ hj ⟨rfl,k⟩;obtain ⟨a,r',r,rfl,ej,ea,al⟩:=D.c.at' hj;have e5:=cR (show (rs.map j6)[j]?=some (j6 r) by rw [List.getElem?_map,ej];rfl);replace ea:=k.at ea;have l300:=al.2.2;wp_walk using aY,Option.join_some;refine ⟨⟨_,eZ.of ea⟩,?_⟩;refine j9 (ys:=r') (fun j xs G2=>xs=((r'.map tw).take j).map V.str/\Kp [] G' G2) ⟨rfl,Kp.refl⟩ ?_ ?_ ?_ ?_
    ·rintro j2 xs2 G2 ⟨rfl,_⟩;simp only [List.length_map,List.length_take];omega
    ·rintro j2 xs2 G2 ⟨_,k2⟩;exact eZ.of (k2.at ea)
    ·rintro j2 y xs2 G2 _ hj2 ⟨rfl,k2⟩;have e6:=cR (show (r'.map tw)[j2]?=some (tw y) by rw [List.getElem?_map,hj2];rfl);have sy:=al.2.1 y (List.mem_of_getElem? hj2);have fin:∀ x:Str,x=tw y->(fun j xs G2=>xs=((r'.map tw).take j).map V.str/\Kp [] G' G2) (j2+1) (((r'.map tw).take j2).map V.str++[.str x]) G2:=fun x ex=>by
      subst ex;refine ⟨?_,k2⟩;rw [e6];simp
     cases y with
     | str x =>
      wp_walk using aY,Option.join_some;exact fin x rfl
     | int i =>
      wp_walk using aY,Option.join_some;exact ⟨tlog sy.1 sy.2,fin _ rfl⟩
     | _=>exact sy.elim
    rintro xs2 G2 ⟨rfl,k2⟩ lz mz;rw [show r'.length=(r'.map tw).length by simp,List.take_length];have sb:=aqG (B:=20) (ys:=r'.map tw) fun y hy=>by
     obtain ⟨v,hv,rfl⟩:=List.mem_map.mp hy;exact (al.2.1 v hv).len
    have jl:=afK " " (r'.map tw);rw [jlens.1,List.length_map] at jl;rw [List.length_map] at sb;wp_walk using List.length_map,jlens.1,jlens.2.1;refine ⟨by omega,by omega,?_,k.trans (k2.trans (Kp.new mz))⟩;rw [e5,al.1];simp [j6,al0]
   rintro xs G' ⟨rfl,k⟩ lz mz;rw [show us.length=(rs.map j6).length by rw [List.length_map,ll],List.take_length];have sb:=acM tr;wp_walk using List.length_map,jlens.2.2,Nat.mul_zero;exact ⟨by omega,q _ (KD.trans (k.trans (Kp.new mz)))⟩
theorem uZ {t:Ad} (T:Tx w K mg t):bK P w K mg base CX0 9 t.sO t.tH ["run"] (asS ⟨t.aU,t.aV,t.aJ⟩):=by
 refine T.uM.ok vA (fun vs H Q E h=>?_) (fun cdv A outer s H vs Q E hr h=>?_)
 ·obtain ⟨R,as,sl,S,rfl,_⟩:=h;rfl
 ·obtain ⟨R,as,sl,S,rfl,A,X,q⟩:=h;refine ⟨_,(aC (bC (i:=1) vA.nd rfl (Or.inl rfl) (aN (zR T) (hr.mono (by omega)) rfl T.afP T.zS.kp T.agN .nil pass0 (aD (pv 0) aB)))
   (aG (aO (ahN (dB alV rfl T.oC aaW (aD (pv 1) (aD (aqY (v:=.ty "str") rfl T.akY adB rfl) aB))) (ahN (fY cJ (pv 1) (aN (aiI T) (hr.mono (by omega)) rfl T.anD T.afY.kp T.amX .nil pass0 (aD (bX (pv 0) T.aW T.lG (kB T) (hr.mono (by omega)) T.oP .nil pass0) aB)) (nomark _)) (aiF (fY cJ (aN (zR T) (hr.mono (by omega)) rfl T.afP T.zS.kp T.agN .nil pass0 (aD (pv 0) aB)) (pv 1) (nomark _)))))))),?_⟩
  try dsimp only [L2.start,aZ,bJ,List.cons_append,List.nil_append,List.replicate_succ,List.replicate_zero,List.length_cons,List.length_nil,Nat.reduceAdd,Nat.reduceSub,Nat.zero_add]
  refine aF fun R1 hR1=>?_;wp_walk;refine ⟨R,as,sl,S,rfl,A,X,fun G1 K1=>?_⟩;have A1:=A.kp K1;refine hR1 _ _ ?_;clear hR1;clear R1;wp_walk using A1.ins;refine ⟨R,as,sl,S,rfl,A1,X.isN,X.b1,X.b2,X.b3,X.b4,X.b5,fun v G2 hv K2=>?_⟩;wp_walk;refine ⟨v,S,rfl,hv,X.isN,X.few,X.tr,X.lw,X.lr,X.ws,fun G3 K3=>?_⟩;wp_walk;refine ⟨R,as,sl,S,rfl,(A1.kp K2).kp K3,X,fun G4 K4=>?_⟩;wp_walk using decide_true;exact q _ (K1.trans (K2.trans (K3.trans K4)))
theorem acV {t:Ad} (T:Tx w K mg t):bK P w K mg base CX0 2 t.qN t.qL ["jar"] acP:=by
 refine T.yR.ok adJ (fun vs H Q E h=>?_) (fun cdv A outer s H vs Q E hr h=>?_)
 ·obtain ⟨r,rfl,_⟩:=h;rfl
 ·obtain ⟨r,rfl,hR,q⟩:=h;refine ⟨_,(aG (aO (aX bN (bE (aD (aN (bM T) (hr.mono (by omega)) rfl T.cG T.bZ.kp T.cF .nil pass0 (aD (pv 0) (aD aE aB))) (aD (bH g9 (bH nB aE aE) (aN (bM T) (hr.mono (by omega)) rfl T.cG T.bZ.kp T.cF .nil pass0 (aD (pv 0) (aD aE aB)))) (aD (aN (bM T) (hr.mono (by omega)) rfl T.cG T.bZ.kp T.cF .nil pass0 (aD (pv 0) (aD (bH cN (bH nB aE aE) aE) aB))) aB)))) (aN (bM T) (hr.mono (by omega)) rfl T.cG T.bZ.kp T.cF .nil pass0 (aD (pv 0) (aD aE aB))) (fun _ _=>rfl)))),?_⟩
  try dsimp only [L2.start,aZ,bJ,List.cons_append,List.nil_append,List.replicate_succ,List.replicate_zero,List.length_cons,List.length_nil,Nat.reduceAdd,Nat.reduceSub,Nat.zero_add]
  wp_walk;refine ⟨hR,fun g1 H1 a1 b1 R1 K1=>⟨R1,fun g2 H2 a2 b2 R2 K2=>⟨R2,fun g3 H3 a3 b3 R3 K3 p hp=>⟨R3.new hp,fun g4 H4 a4 b4 R4 K4=>?_⟩⟩⟩⟩;wp_walk using K4.madeJ R3 hp;refine kH a4 b4 fun v hv=>?_;wp_walk;have K:=((K1.trans K2).trans K3).trans ((Kp.new hp).trans K4);simp only [List.mem_cons,List.not_mem_nil,or_false] at hv;rcases hv with rfl | rfl | rfl<;>exact q _ _ (by omega) (by omega) R4 K
theorem vQ {t:Ad} (T:Tx w K mg t):bK P w K mg base CX0 3 t.kK t.kD ["jar"] avX:=by
 refine T.pL.ok hW (fun vs H Q E h=>?_) (fun cdv A outer s H vs Q E hr h=>?_)
 ·obtain ⟨r,rfl,_⟩:=h;rfl
 ·obtain ⟨r,rfl,hR,q⟩:=h;refine ⟨_,(aC (bC (i:=1) hW.nd rfl (Or.inl rfl) (aN (acV T) (hr.mono (by omega)) rfl T.ah7 T.yR.kp T.aiR .nil pass0 (aD (pv 0) aB)))
   (aC (bC (i:=2) hW.nd rfl (Or.inl rfl) (aN (bM T) (hr.mono (by omega)) rfl T.cG T.bZ.kp T.cF .nil pass0 (aD (pv 0) (aD aE aB))))
   (aC (bP (aS cJ (pv 2) aE (nomark _)) (aG (aO (bD (aD aK (aD (pv 1) (aD (aN (j8 T) (hr.mono (by omega)) rfl T.oJ T.kY.kp T.oT .nil pass0 (aD (pv 0) aB)) aB)))))) bA)
   (aC (bP (aS pK (pv 2) aE (nomark _)) (aG (aO (bD (aD aK (aD (pv 1) (aD (aN (bM T) (hr.mono (by omega)) rfl T.cG T.bZ.kp T.cF .nil pass0 (aD (pv 0) (aD aE aB))) (aD (aN (j8 T) (hr.mono (by omega)) rfl T.oJ T.kY.kp T.oT .nil pass0 (aD (pv 0) aB)) aB))))))) bA)
   (aG (aO (bD (aD aK (aD (pv 1) (aD (aX bN (bE (aD aK (aD aK (aD aK aB)))) (aN (bM T) (hr.mono (by omega)) rfl T.cG T.bZ.kp T.cF .nil pass0 (aD (pv 0) (aD aE aB))) (fun _ _=>rfl)) (aD (aN (j8 T) (hr.mono (by omega)) rfl T.oJ T.kY.kp T.oT .nil pass0 (aD (pv 0) aB)) aB))))))))))),?_⟩
  try dsimp only [L2.start,aZ,bJ,List.cons_append,List.nil_append,List.replicate_succ,List.replicate_zero,List.length_cons,List.length_nil,Nat.reduceAdd,Nat.reduceSub,Nat.zero_add]
  wp_walk;refine ⟨hR,fun m H1 m0 m1 R1 K1=>⟨R1,fun g H2 a2 b2 R2 K2=>?_⟩⟩;split
  ·wp_walk;refine ⟨R2,fun w H3 hw R3 K3 p hp=>?_⟩;exact q _ (.beg m w) _ ⟨p,rfl,aA⟩ ⟨m0,m1⟩ hw (fun _ _ _ z=>by cases z) (R3.new hp) (((K1.trans K2).trans K3).trans (Kp.new hp))
  split
  ·wp_walk;refine ⟨R2,fun g3 H3 a3 b3 R3 K3=>⟨R3,fun w H4 hw R4 K4 p hp=>?_⟩⟩;exact q _ (.don m g3 w) _ ⟨p,rfl,aA⟩ ⟨m0,m1⟩ hw (fun _ _ _ z=>by cases z) (R4.new hp) (((K1.trans K2).trans (K3.trans K4)).trans (Kp.new hp))
  ·wp_walk;refine fun p1 h1=>⟨R2.new h1,fun g3 H3 a3 b3 R3 K3=>?_⟩;wp_walk using made1J K3 R2 h1;refine kH a3 b3 fun y hy=>?_;wp_walk;obtain ⟨z,rfl,hz⟩:∃ z:Str,y=.str z/\z∈KY3:=by simp only [List.mem_cons,List.not_mem_nil,or_false] at hy;rcases hy with rfl | rfl | rfl<;>exact ⟨_,rfl,by simp [KY3]⟩
   refine ⟨R3,fun w H4 hw R4 K4 p hp=>?_⟩;exact q _ (.ltr m z w) _ ⟨p,rfl,aA⟩ ⟨m0,m1⟩ hw (fun _ _ _ e=>by cases e;exact hz) (R4.new hp) ((((K1.trans K2).trans (Kp.new h1)).trans (K3.trans K4)).trans (Kp.new hp))
theorem gN {t:Ad} (T:Tx w K mg t):bK P w K mg base CX0 1 t.jS t.jE ["self","ticket"] (am5 t.aJ):=by
 refine T.yV.ok uI (fun vs H Q E h=>?_) (fun cdv A outer s H vs Q E hr h=>?_)
 ·obtain ⟨tk,tx,dp,da,made,pend,ans,w,rfl,_⟩:=h;rfl
 ·obtain ⟨tk,tx,dp,da,made,pend,ans,w,rfl,R,q⟩:=h;have hu:=nA hr;refine ⟨_,(aG (aO (avL (ajR hu (pv 1) (aQ T.bI T.fO (pv 0)))))),?_⟩
  try dsimp only [L2.start,aZ,bJ,List.cons_append,List.nil_append,List.replicate_succ,List.replicate_zero,List.length_cons,List.length_nil,Nat.reduceAdd,Nat.reduceSub,Nat.zero_add]
  wp_walk using R.ins,R.hp,zW;exact q
theorem uC {t:Ad} (T:Tx w K mg t):bK P w K mg base CX0 2 t.i5 t.iY ["self","happening"] (au0 ⟨t.aU,t.aV,t.aJ⟩):=by
 refine T.yG.ok k4 (fun vs H Q E h=>?_) (fun cdv A outer s H vs Q E hr h=>?_)
 ·obtain ⟨R,as,sl,S,v,h,rfl,_⟩:=h;rfl
 ·obtain ⟨R,as,sl,S,v,h,rfl,A,hn,hH,q⟩:=h;refine ⟨_,(aC (bC (i:=2) k4.nd rfl (Or.inl rfl) (aX bN (pv 1) aE (fun _ _=>rfl)))
   (aC (bP (aS cJ (aX bN (aQ T.aW T.dE (pv 0)) aE (fun _ _=>rfl)) aK (nomark _)) (aG (aO (fY aBC (pv 2) aK (nomark _)))) bA)
   (aC (bP (aS ahQ (aX bN (aQ T.aW T.dE (pv 0)) aE (fun _ _=>rfl)) (bD (aD aK (aD aK aB))) (by with_unfolding_all rfl)) (aG (aO ajA)) bA)
   (aG (aO (aAU (fY cJ (pv 2) aK (nomark _)) (aiF (ahN (fY cJ (pv 2) aK (nomark _)) (aiF (auU (bQ (aQ T.aW T.cT (pv 0)) T.bI T.iG (gN T) (hr.mono (by omega)) T.jQ .nil pass0 (aD (aX bN (pv 1) aE (fun _ _=>rfl)) aB)))))))))))),?_⟩
  try dsimp only [L2.start,aZ,bJ,List.cons_append,List.nil_append,List.replicate_succ,List.replicate_zero,List.length_cons,List.length_nil,Nat.reduceAdd,Nat.reduceSub,Nat.zero_add]
  obtain ⟨a,rfl,eh⟩:=hH;cases es:S.sl with
  | non=>rw [es] at hn;cases hn
  | new =>
   have hsl:=A.slp;rw [es] at hsl;obtain ⟨p,rfl,ep⟩:=hsl;cases h with
   | beg m w =>
    simp only [Hap.vs,Hap.ini,Hap.w,List.cons_append,List.nil_append] at eh;rw [show S.over (.beg m w)=false by simp only [Pu.over,es]] at q;wp_walk using A.ins,eh,ep;exact q _ Kp.refl
   | don m i w =>
    simp only [Hap.vs,Hap.ini,Hap.w,List.cons_append,List.nil_append] at eh;rw [show S.over (.don m i w)=true by simp only [Pu.over,es]] at q;wp_walk using A.ins,eh,ep;exact q _ Kp.refl
   | ltr m k w =>
    simp only [Hap.vs,Hap.ini,Hap.w,List.cons_append,List.nil_append] at eh;rw [show S.over (.ltr m k w)=true by simp only [Pu.over,es]] at q;wp_walk using A.ins,eh,ep;exact q _ Kp.refl
  | wait ts =>
   have hsl:=A.slp;rw [es] at hsl;obtain ⟨p,p2,rfl,ep,ep2⟩:=hsl;cases h with
   | beg m w =>
    simp only [Hap.vs,Hap.ini,Hap.w,List.cons_append,List.nil_append] at eh;rw [show S.over (.beg m w)=true by simp only [Pu.over,es]] at q;wp_walk using A.ins,eh,ep;refine fun p9 h9=>⟨rfl,by decide +kernel,?_⟩;rw [if_neg (by decide +kernel)];have N9:=Kp.new (S:=[]) (o:=.tup [.str "ended",.str "worn"]) h9;wp_walk using N9.at eh;exact q _ N9
   | don m i w =>
    simp only [Hap.vs,Hap.ini,Hap.w,List.cons_append,List.nil_append] at eh;rw [show S.over (.don m i w) = !decide (i∈S.pend) by simp only [Pu.over,es]] at q;wp_walk using A.ins,eh,ep;refine fun p9 h9=>⟨rfl,by decide +kernel,?_⟩;rw [if_neg (by decide +kernel)];have N9:=Kp.new (S:=[]) (o:=.tup [.str "ended",.str "worn"]) h9;have A9:=A.kp N9;have eh9:=N9.at eh;generalize upd H p9 (.tup [.str "ended",.str "worn"])=G9 at *;wp_walk using A9.ins,A9.tk.ins,eh9;refine ⟨R.tk,R.tx,R.dp,R.da,_,_,_,some i,rfl,A9.tk,?_⟩;wp_walk;rw [show decide (∃ j,j∈S.pend/\(some i:Wo)=some j)=decide (i∈S.pend) by simp];exact q _ N9
   | ltr m k0 w =>
    simp only [Hap.vs,Hap.ini,Hap.w,List.cons_append,List.nil_append] at eh;rw [show S.over (.ltr m k0 w)=false by simp only [Pu.over,es]] at q;wp_walk using A.ins,eh,ep;refine fun p9 h9=>⟨rfl,by decide +kernel,?_⟩;rw [if_neg (by decide +kernel)];have N9:=Kp.new (S:=[]) (o:=.tup [.str "ended",.str "worn"]) h9;wp_walk using N9.at eh;exact q _ N9
  | hear k =>
   have hsl:=A.slp;rw [es] at hsl;obtain ⟨p,rfl,ep⟩:=hsl;cases h with
   | beg m w =>
    simp only [Hap.vs,Hap.ini,Hap.w,List.cons_append,List.nil_append] at eh;rw [show S.over (.beg m w)=true by simp only [Pu.over,es]] at q;wp_walk using A.ins,eh,ep;refine fun p9 h9=>⟨rfl,by decide +kernel,?_⟩;rw [if_neg (by decide +kernel)];have N9:=Kp.new (S:=[]) (o:=.tup [.str "ended",.str "worn"]) h9;wp_walk using N9.at eh;exact q _ N9
   | don m i w =>
    simp only [Hap.vs,Hap.ini,Hap.w,List.cons_append,List.nil_append] at eh;rw [show S.over (.don m i w) = !decide (i∈S.pend) by simp only [Pu.over,es]] at q;wp_walk using A.ins,eh,ep;refine fun p9 h9=>⟨rfl,by decide +kernel,?_⟩;rw [if_neg (by decide +kernel)];have N9:=Kp.new (S:=[]) (o:=.tup [.str "ended",.str "worn"]) h9;have A9:=A.kp N9;have eh9:=N9.at eh;generalize upd H p9 (.tup [.str "ended",.str "worn"])=G9 at *;wp_walk using A9.ins,A9.tk.ins,eh9;refine ⟨R.tk,R.tx,R.dp,R.da,_,_,_,some i,rfl,A9.tk,?_⟩;wp_walk;rw [show decide (∃ j,j∈S.pend/\(some i:Wo)=some j)=decide (i∈S.pend) by simp];exact q _ N9
   | ltr m k0 w =>
    simp only [Hap.vs,Hap.ini,Hap.w,List.cons_append,List.nil_append] at eh;rw [show S.over (.ltr m k0 w)=false by simp only [Pu.over,es]] at q;wp_walk using A.ins,eh,ep;refine fun p9 h9=>⟨rfl,by decide +kernel,?_⟩;rw [if_neg (by decide +kernel)];have N9:=Kp.new (S:=[]) (o:=.tup [.str "ended",.str "worn"]) h9;wp_walk using N9.at eh;exact q _ N9
  | ended w =>
   have hsl:=A.slp;rw [es] at hsl;obtain ⟨p,rfl,ep⟩:=hsl;have e0:∃(kd:Str) (xs:List V),H a=some (.tup (.str kd::xs)):=by cases h<;>exact ⟨_,_,eh⟩
   obtain ⟨kd,xs,e0⟩:=e0;rw [show S.over (h)=true by simp only [Pu.over,es]] at q;wp_walk using A.ins,e0,ep;refine fun p9 h9=>⟨rfl,by decide +kernel,?_⟩;rw [if_pos (by decide +kernel)];exact q _ (Kp.new h9)
  | worn =>
   have hsl:=A.slp;rw [es] at hsl;obtain ⟨p,rfl,ep⟩:=hsl;have e0:∃(kd:Str) (xs:List V),H a=some (.tup (.str kd::xs)):=by cases h<;>exact ⟨_,_,eh⟩
   obtain ⟨kd,xs,e0⟩:=e0;rw [show S.over (h)=true by simp only [Pu.over,es]] at q;wp_walk using A.ins,e0,ep;refine fun p9 h9=>⟨rfl,by decide +kernel,?_⟩;rw [if_pos (by decide +kernel)];exact q _ (Kp.new h9)
theorem gU {t:Ad} (T:Tx w K mg t):bK P w K mg base CX0 1 t.nN t.nH ["self"] (wY t.aV):=by
 refine T.aeJ.ok abG (fun vs H Q E h=>?_) (fun cdv A outer s H vs Q E hr h=>?_)
 ·obtain ⟨wk,wx,lb,ln,k,n,b,r,rfl,_⟩:=h;rfl
 ·obtain ⟨wk,wx,lb,ln,k,n,b,r,rfl,W,q⟩:=h;refine ⟨_,(aG (arT (aQ T.cX T.eF (pv 0)) (yF pS aE) ayV aE aj1 ajE)),?_⟩
  try dsimp only [L2.start,aZ,bJ,List.cons_append,List.nil_append,List.replicate_succ,List.replicate_zero,List.length_cons,List.length_nil,Nat.reduceAdd,Nat.reduceSub,Nat.zero_add]
  obtain ⟨vs,eb,hB⟩:=W.bl;obtain ⟨l,el,el2⟩:=uT k n b r;have en:=W.nu;rw [el] at en;have i2:kC ((l++[(n:Int)]).map V.int) (-1)=some (.int n):=by rw [List.map_append];exact mZ _ _
  have i3:ixN ((l++[(n:Int)]).map V.int).length (-1)=some l.length:=by
   unfold ixN;simp;omega
  have i4:((l++[(n:Int)]).map V.int).set l.length (.int ((n:Int)+1))=(l++[((n+1:Nat):Int)]).map V.int:=by simp
  wp_walk using W.ins,en,i2,i3,i4;have n1:wk≠ln:=dP W.ins W.nu (by intro z;cases z);have K1:Kp [ln] H (upd H ln (.lst ((l++[((n+1:Nat):Int)]).map V.int))):=Kp.set1J;have T1:aP H (upd H ln (.lst ((l++[((n+1:Nat):Int)]).map V.int))):=fun a xs e=>by rw [aI (dP e W.nu (by intro z;cases z))];exact e
  exact q _ ⟨by rw [aI n1];exact W.ins,⟨vs,by rw [aI W.ne];exact eb,(hB.kp T1).turn⟩,by rw [aA,el2],W.ne,W.few⟩ K1
theorem fF {t:Ad} (T:Tx w K mg t):bK P w K mg base CX0 1 t.kL t.kI ["self"] (ah2 t.aV):=by
 refine T.abA.ok vN (fun vs H Q E h=>?_) (fun cdv A outer s H vs Q E hr h=>?_)
 ·obtain ⟨wk,wx,lb,ln,k,n,b,r,m,rfl,_⟩:=h;rfl
 ·obtain ⟨wk,wx,lb,ln,k,n,b,r,m,rfl,W,hm,q⟩:=h;refine ⟨_,(aG (aO (aX bN (aX bN (aQ T.cX T.gX (pv 0)) (yF pS aE) (fun _ _=>rfl)) (aX bN (aQ T.cX T.eF (pv 0)) (yF pS aE) (fun _ _=>rfl)) (fun _ _=>rfl)))),?_⟩
  try dsimp only [L2.start,aZ,bJ,List.cons_append,List.nil_append,List.replicate_succ,List.replicate_zero,List.length_cons,List.length_nil,Nat.reduceAdd,Nat.reduceSub,Nat.zero_add]
  obtain ⟨vs,eb,hB⟩:=W.bl;obtain ⟨ws,p,us,rfl,ep,hU,_,_⟩:=hB.last;obtain ⟨l,el,_⟩:=uT k n b r;have en:=W.nu;rw [el] at en;have hn:n < us.length:=by
   have:=(List.getElem?_eq_some_iff.mp hm).1;have:=hU.len;omega
  obtain ⟨m',hm',hM⟩:=hU.at (List.getElem?_eq_getElem hn);rw [hm] at hm';cases hm';have i1:kC (ws++[V.ref p]) (-1)=some (.ref p):=mZ _ _;have i2:kC ((l++[(n:Int)]).map V.int) (-1)=some (.int n):=by rw [List.map_append];exact mZ _ _
  have i3:kC us (n:Int)=some us[n]:=wP (List.getElem?_eq_getElem hn);wp_walk using W.ins,eb,en,i1,i2,ep,i3;exact q _ hM
theorem adT {t:Ad} (T:Tx w K mg t):bK P w K mg base CX0 2 t.pM t.qJ ["self"] (alB t.aV):=by
 refine T.ahW.ok ad4 (fun vs H Q E h=>?_) (fun cdv A outer s H vs Q E hr h=>?_)
 ·obtain ⟨wk,wx,lb,ln,k,n,b,x,r,m,rfl,_⟩:=h;rfl
 ·obtain ⟨wk,wx,lb,ln,k,n,b,⟨kx,bx,nx⟩,r,m,rfl,W,hm,q⟩:=h;refine ⟨_,(aC (bL (adU (aQ T.cX T.gX (pv 0))))
   (aC (bL (adU (aQ T.cX T.eF (pv 0))))
   (aC (bL (adU (aQ T.cX T.eF (pv 0))))
   (aG (bP (aS cJ (aX bN (bX (pv 0) T.cX T.fW (fF T) (hr.mono (by omega)) T.gW .nil pass0) aE (fun _ _=>rfl)) aK (nomark _)) (aG (bL (bX (pv 0) T.cX T.iM (gU T) (hr.mono (by omega)) T.j5 .nil pass0))) bA))))),?_⟩
  try dsimp only [L2.start,aZ,bJ,List.cons_append,List.nil_append,List.replicate_succ,List.replicate_zero,List.length_cons,List.length_nil,Nat.reduceAdd,Nat.reduceSub,Nat.zero_add]
  obtain ⟨vs,eb,hB⟩:=W.bl;have n1:wk≠ln:=dP W.ins W.nu (by intro z;cases z);have n2:wk≠lb:=dP W.ins eb (by intro z;cases z);obtain ⟨ws,p,us,rfl,ep,hU,hBr,_⟩:=hB.last;have hB2:=hBr (by simp);have nu0:H ln=some (.lst (((bG ((k,b,n)::r)).map V.int++[.int kx])++[.int nx])):=by rw [W.nu,oI];simp
  have few:=W.few;simp only [List.length_cons] at few;refine aF fun R1 hR1=>?_;wp_walk using W.ins,eb,tV,List.dropLast_concat;have T1:=aP.eY (ys:=ws) eb;have i1:upd H lb (.lst ws) wk=some (.ins t.aV wx [("blocks",.ref lb),("numbers",.ref ln)]):=by rw [aI n2];exact W.ins
  have i2:upd H lb (.lst ws) ln=some (.lst (((bG ((k,b,n)::r)).map V.int++[.int kx])++[.int nx])):=by rw [aI W.ne.symm];exact nu0
  have i3:upd H lb (.lst ws) lb=some (.lst ws):=aA;have K1:Kp [lb] H (upd H lb (.lst ws)):=Kp.set1J;have B1:=hB2.kp T1;generalize upd H lb (.lst ws)=G at *;refine hR1 _ _ ?_;clear hR1;clear R1;refine aF fun R2 hR2=>?_;wp_walk using i1,i2,tV,List.dropLast_concat;have T2:=aP.eY (ys:=(bG ((k,b,n)::r)).map V.int++[.int kx]) i2;have j1:upd G ln (.lst ((bG ((k,b,n)::r)).map V.int++[.int kx])) wk=some (.ins t.aV wx [("blocks",.ref lb),("numbers",.ref ln)]):=by rw [aI n1];exact i1
  have j2:upd G ln (.lst ((bG ((k,b,n)::r)).map V.int++[.int kx])) ln=some (.lst ((bG ((k,b,n)::r)).map V.int++[.int kx])):=aA;have j3:upd G ln (.lst ((bG ((k,b,n)::r)).map V.int++[.int kx])) lb=some (.lst ws):=by rw [aI W.ne];exact i3
  have K2:Kp [ln] G (upd G ln (.lst ((bG ((k,b,n)::r)).map V.int++[.int kx]))):=Kp.set1J;have B2:=B1.kp T2;generalize upd G ln (.lst ((bG ((k,b,n)::r)).map V.int++[.int kx]))=G2 at *;refine hR2 _ _ ?_;clear hR2;clear R2;refine aF fun R3 hR3=>?_;wp_walk using j1,j2,tV,List.dropLast_concat;have T3:=aP.eY (ys:=(bG ((k,b,n)::r)).map V.int) j2;have W3:jU t.aV (upd G2 ln (.lst ((bG ((k,b,n)::r)).map V.int))) wk wx lb ln ((k,b,n)::r):=⟨by rw [aI n1];exact j1,⟨ws,by rw [aI W.ne];exact j3,B2.kp T3⟩,aA,W.ne,by simp only [List.length_cons];omega⟩;have K3:Kp [ln] G2 (upd G2 ln (.lst ((bG ((k,b,n)::r)).map V.int))):=Kp.set1J;generalize upd G2 ln (.lst ((bG ((k,b,n)::r)).map V.int))=G3 at *;refine hR3 _ _ ?_;clear hR3;clear R3;have K13:Kp [lb,ln] H G3:=((K1.mono (by simp)).trans (K2.mono (by simp))).trans (K3.mono (by simp));wp_walk using W3.ins;refine ⟨wk,wx,lb,ln,k,n,b,r,m,rfl,W3,hm,fun v hv=>?_⟩;obtain ⟨a,kd,xs,rfl,ea,hk⟩:=hv.kind0;wp_walk using ea;by_cases hi:m.isIf=true
  ·rw [hi] at hk q;have hkd:kd = "if":=by simpa using hk
   subst hkd;wp_walk using W3.ins;exact ⟨wk,wx,lb,ln,k,n,b,r,rfl,W3,fun H4 W4 K4=>q H4 W4 (K13.trans (K4.mono (by simp)))⟩
  ·have hi':m.isIf=false:=by simpa using hi
   rw [hi'] at hk q;have hkd:(kd = "if")=False:=by simpa using hk
   wp_walk using hkd;exact q G3 W3 K13
theorem aa1 {t:Ad} (T:Tx w K mg t):bK P w K mg base CX0 3 t.mT t.nO ["self"] (aqD t.aV):=by
 refine T.afV.ok aa6 (fun vs H Q E h=>?_) (fun cdv A outer s H vs Q E hr h=>?_)
 ·obtain ⟨wk,wx,lb,ln,st,rfl,_⟩:=h;rfl
 ·obtain ⟨wk,wx,lb,ln,st,rfl,W0,ok0,q0,q1⟩:=h;refine ⟨_,(aC (ae8 PassesOwn.never (aS cJ (aX bN (aQ T.cX T.eF (pv 0)) (yF pS aE) (fun _ _=>rfl)) (dB sL rfl T.ahP w9 (aD (aX bN (aQ T.cX T.gX (pv 0)) (yF pS aE) (fun _ _=>rfl)) aB)) (nomark _)) (aC (bP (aS cJ (dB sL rfl T.ahP w9 (aD (aQ T.cX T.gX (pv 0)) aB)) aE (nomark _)) (aG (aO eJ)) bA)
   (aG (bL (bX (pv 0) T.cX T.aeG (adT T) (hr.mono (by omega)) T.aiJ .nil pass0)))))
   (aG (aO (bX (pv 0) T.cX T.fW (fF T) (hr.mono (by omega)) T.gW .nil pass0)))),?_⟩
  try dsimp only [L2.start,aZ,bJ,List.cons_append,List.nil_append,List.replicate_succ,List.replicate_zero,List.length_cons,List.length_nil,Nat.reduceAdd,Nat.reduceSub,Nat.zero_add]
  obtain ⟨Y,hV⟩:∃ Y:Nat->St->Hp->Prop,∀ m σ G,Y m σ G = ∃ st':Stk,σ=[some (.ref wk)]/\jU t.aV G wk wx lb ln st'/\zV st'/\cQ st'=cQ st/\m=st'.length/\Kp [lb,ln] H G:=⟨_,fun _ _ _=>rfl⟩
  try simp only [L2.start,List.map_cons,List.map_nil,List.length_cons,List.length_nil,Nat.reduceAdd,Nat.reduceSub,List.replicate_zero,List.append_nil]
  refine ⟨Y,⟨st.length,?_⟩,?_⟩
  ·rw [hV];exact ⟨st,rfl,W0,ok0,rfl,rfl,Kp.refl⟩
  intro m σ G hG;rw [hV] at hG;obtain ⟨st',rfl,W,ok,hct,rfl,KG⟩:=hG;have back:∀(st2:Stk) (G2:Hp),jU t.aV G2 wk wx lb ln st2->zV st2->cQ st2=cQ st->st2.length < st'.length->Kp [lb,ln] H G2->∃ m',m' < st'.length/\Y m' [some (.ref wk)] G2:=fun st2 G2 a b c d e=>by
   refine ⟨st2.length,d,?_⟩;rw [hV];exact ⟨st2,rfl,a,b,c,rfl,e⟩
  clear hV
  match st',ok with
  | (k,b,n)::r,ok =>
   obtain ⟨vs,eb,hB⟩:=W.bl;obtain ⟨ws,p,us,rfl,ep,hU,hBr,hBn⟩:=hB.last;obtain ⟨l,el,_⟩:=uT k n b r;have en:=W.nu;rw [el] at en;have i1:kC (ws++[V.ref p]) (-1)=some (.ref p):=mZ _ _;have i2:kC ((l++[(n:Int)]).map V.int) (-1)=some (.int n):=by rw [List.map_append];exact mZ _ _
   have lu:=hU.len;have lw:=hB.len;wp_walk using W.ins,eb,en,i1,i2,ep;by_cases hn:n=b.length
   ·rw [if_pos (by omega)];wp_walk using W.ins,eb,en;refine ⟨fun σ' G'=>∃ m',m' < r.length+1/\Y m' σ' G',fun _ _ z=>z,?_⟩
    match r,ok,W,hct,back,hBn,lw with
    | [],ok,W,hct,back,hBn,lw =>
     have e0:cQ st=[(k,b,n)]:=by rw [<- hct];simp [cQ]
     rw [if_pos (by have:=lw.1;simp only [List.length_cons,List.length_nil] at this;omega)];exact q0 G (by rw [e0];exact W) (by rw [e0];exact ok) (by rw [e0];simp [stand,hn]) KG
    | (k2,b2,n2)::r,ok,W,hct,back,hBn,lw =>
     rw [if_neg (by have:=lw.1;simp only [List.length_cons] at this;omega)];have h2:n2 < b2.length:=ok.2 (k2,b2,n2) (by simp);have hm:b2[n2]?=some b2[n2]:=List.getElem?_eq_getElem h2;have ho:vJ b2 n2=if (b2[n2]).isIf=true then n2+1 else n2:=by unfold vJ;rw [hm]
     refine ⟨wk,wx,lb,ln,k2,n2,b2,(k,b,n),r,b2[n2],rfl,W,hm,fun H' W' K'=>?_⟩;rw [<- ho] at W';refine back _ H' W' ⟨afJ h2,fun x hx=>ok.2 x (List.mem_cons_of_mem _ hx)⟩ ?_ (by simp) (Kp.trans KG K');rw [<- hct]
     conv=>rhs;rw [cQ]
     rw [if_pos hn]
   ·rw [if_neg (by omega)];have h2:n < b.length:=by have:=ok.1;omega
    have hm:b[n]?=some b[n]:=List.getElem?_eq_getElem h2;have e0:cQ st=(k,b,n)::r:=by
     rw [<- hct];cases r with
     | nil=>simp [cQ]
     | cons x r=>obtain ⟨k2,b2,n2⟩:=x;simp [cQ,hn]
    exact ⟨wk,wx,lb,ln,k,n,b,r,b[n],rfl,W,hm,fun v hv=>q1 b[n] v G (by rw [e0];exact W) (by rw [e0];exact ok) (by rw [e0];exact hm) hv KG⟩
theorem kA {t:Ad} (T:Tx w K mg t):bK P w K mg base CX0 1 t.iC t.iF ["self"] (arL t.aJ):=by
 refine T.vT.ok rQ (fun vs H Q E h=>?_) (fun cdv A outer s H vs Q E hr h=>?_)
 ·obtain ⟨tk,tx,dp,da,made,pend,ans,rfl,_⟩:=h;rfl
 ·obtain ⟨tk,tx,dp,da,made,pend,ans,rfl,R,q⟩:=h;refine ⟨_,(aG (bL (ak8 (aQ T.bI T.fO (pv 0))))),?_⟩
  try dsimp only [L2.start,aZ,bJ,List.cons_append,List.nil_append,List.replicate_succ,List.replicate_zero,List.length_cons,List.length_nil,Nat.reduceAdd,Nat.reduceSub,Nat.zero_add]
  wp_walk using R.ins,R.hp;have n1:=R.n1;exact q _ ⟨by rw [aI n1.1];exact R.ins,aA,by rw [aI R.nda.symm];exact R.ha,R.nda,by simp,.nil,R.la,by simp,R.small⟩ Kp.set1J
theorem abK {t:Ad} (T:Tx w K mg t):bK P w K mg base CX0 2 t.ad2 t.acQ ["self","worth"] (axV ⟨t.aU,t.aV,t.aJ⟩):=by
 refine T.aqH.ok al9 (fun vs H Q E h=>?_) (fun cdv A outer s H vs Q E hr h=>?_)
 ·obtain ⟨R,as,sl,S,w,rfl,_⟩:=h;rfl
 ·obtain ⟨R,as,sl,S,w,rfl,A,q⟩:=h;refine ⟨_,(aC (c6 T.aW T.dE (pv 0) (bD (aD aK (aD (pv 1) aB))))
   (aC (bL (bX (aQ T.aW T.cT (pv 0)) T.bI T.k5 (kA T) (hr.mono (by omega)) T.mI .nil pass0))
   (aG (aO (bE (aD (bD (aD aK (aD (pv 1) aB))) aB)))))),?_⟩
  try dsimp only [L2.start,aZ,bJ,List.cons_append,List.nil_append,List.replicate_succ,List.replicate_zero,List.length_cons,List.length_nil,Nat.reduceAdd,Nat.reduceSub,Nat.zero_add]
  refine aF fun R1 hR1=>?_;wp_walk using A.ins;refine fun p hp=>?_;have N1:=Kp.new (S:=[]) (o:=.tup [.str "ended",wv w]) hp;have e1:upd H p (.tup [.str "ended",wv w]) p=some (.tup [.str "ended",wv w]):=aA;have A1:=A.kp N1;wp_walk using N1.at A.ins;have A2:=A1.attr (.ref p) (.ended w) S.ar S.nw ⟨p,rfl,e1⟩;have F2:=(Fw.of (R:=R) (as:=as) N1).trans (Fw.set (p:=R.x) (o:=(.ins t.aU R.dx [("walk",.ref R.wk),("sleep",.ref p),("arg",wv S.ar),("now",.int S.nw),("names",.ref R.nm),("tickets",.ref R.tk),("letters",.ref R.lt)])) (.inl (by simp [Rn.cells])));generalize upd (upd H p (.tup [.str "ended",wv w])) R.x (.ins t.aU R.dx [("walk",.ref R.wk),("sleep",.ref p),("arg",wv S.ar),("now",.int S.nw),("names",.ref R.nm),("tickets",.ref R.tk),("letters",.ref R.lt)])=G2 at *;refine hR1 _ _ ?_;clear hR1;clear R1;refine aF fun R2 hR2=>?_;wp_walk using A2.ins,A2.tk.ins;refine ⟨R.tk,R.tx,R.dp,R.da,_,_,_,rfl,A2.tk,fun H3 T3 K3=>?_⟩;have K4:Kp [R.tk,R.dp,R.da] G2 H3:=K3.mono (by simp;try omega);have A3:=A2.tick T3 K4;have F3:=F2.trans (A2.ftick T3 K4);wp_walk;refine hR2 _ _ ?_;clear hR2;clear R2;wp_walk;refine fun p3 h3 c h4=>?_;have N3:=(Kp.new (S:=[]) (o:=.tup [.str "end",wv w]) h3).trans (Kp.new (o:=.lst [.ref p3]) h4);exact q _ c [.ref p3] _ (A3.kp N3) (F3.free (cZ h4)) aA (.cons ((Kp.new (S:=[]) h4).at aA) .nil) (F3.trans (Fw.of N3))
theorem aaU {t:Ad} (T:Tx w K mg t):bK P w K mg base CX0 2 t.nI t.nT ["self"] (ax3 ⟨t.aU,t.aV,t.aJ⟩):=by
 refine T.afM.ok abH (fun vs H Q E h=>?_) (fun cdv A outer s H vs Q E hr h=>?_)
 ·obtain ⟨R,as,sl,S,rfl,_⟩:=h;rfl
 ·obtain ⟨R,as,sl,S,rfl,A,q⟩:=h;refine ⟨_,(aC (c6 T.aW T.dE (pv 0) (bD (aD aK aB)))
   (aC (bL (bX (aQ T.aW T.cT (pv 0)) T.bI T.k5 (kA T) (hr.mono (by omega)) T.mI .nil pass0))
   (aG (aO (bE (aD (bD (aD aK aB)) aB)))))),?_⟩
  try dsimp only [L2.start,aZ,bJ,List.cons_append,List.nil_append,List.replicate_succ,List.replicate_zero,List.length_cons,List.length_nil,Nat.reduceAdd,Nat.reduceSub,Nat.zero_add]
  refine aF fun R1 hR1=>?_;wp_walk using A.ins;refine fun p hp=>?_;have N1:=Kp.new (S:=[]) (o:=.tup [.str "worn"]) hp;have e1:upd H p (.tup [.str "worn"]) p=some (.tup [.str "worn"]):=aA;have A1:=A.kp N1;wp_walk using N1.at A.ins;have A2:=A1.attr (.ref p) (.worn) S.ar S.nw ⟨p,rfl,e1⟩;have F2:=(Fw.of (R:=R) (as:=as) N1).trans (Fw.set (p:=R.x) (o:=(.ins t.aU R.dx [("walk",.ref R.wk),("sleep",.ref p),("arg",wv S.ar),("now",.int S.nw),("names",.ref R.nm),("tickets",.ref R.tk),("letters",.ref R.lt)])) (.inl (by simp [Rn.cells])));generalize upd (upd H p (.tup [.str "worn"])) R.x (.ins t.aU R.dx [("walk",.ref R.wk),("sleep",.ref p),("arg",wv S.ar),("now",.int S.nw),("names",.ref R.nm),("tickets",.ref R.tk),("letters",.ref R.lt)])=G2 at *;refine hR1 _ _ ?_;clear hR1;clear R1;refine aF fun R2 hR2=>?_;wp_walk using A2.ins,A2.tk.ins;refine ⟨R.tk,R.tx,R.dp,R.da,_,_,_,rfl,A2.tk,fun H3 T3 K3=>?_⟩;have K4:Kp [R.tk,R.dp,R.da] G2 H3:=K3.mono (by simp;try omega);have A3:=A2.tick T3 K4;have F3:=F2.trans (A2.ftick T3 K4);wp_walk;refine hR2 _ _ ?_;clear hR2;clear R2;wp_walk;refine fun p3 h3 c h4=>?_;have N3:=(Kp.new (S:=[]) (o:=.tup [.str "worn"]) h3).trans (Kp.new (o:=.lst [.ref p3]) h4);exact q _ c [.ref p3] _ (A3.kp N3) (F3.free (cZ h4)) aA (.cons ((Kp.new (S:=[]) h4).at aA) .nil) (F3.trans (Fw.of N3))
theorem nW {t:Ad} (T:Tx w K mg t):bK P w K mg base CX0 1 t.uQ t.sV ["worth"] atX:=by
 refine T.oF.ok aeS (fun vs H Q E h=>?_) (fun cdv A outer s H vs Q E hr h=>?_)
 ·obtain ⟨w,rfl,_⟩:=h;rfl
 ·obtain ⟨w,rfl,q⟩:=h;refine ⟨_,(aG (aO (nD (aS lP (pv 0) eJ (nomark _)) aE (pv 0)))),?_⟩
  try dsimp only [L2.start,aZ,bJ,List.cons_append,List.nil_append,List.replicate_succ,List.replicate_zero,List.length_cons,List.length_nil,Nat.reduceAdd,Nat.reduceSub,Nat.zero_add]
  wp_walk using ahT;cases w with
  | none=>exact q
  | some n=>exact q
theorem wF {t:Ad} (T:Tx w K mg t):bK P w K mg base CX0 1 t.apK t.apH ["number"] apE:=by
 refine T.afW.ok ar4 (fun vs H Q E h=>?_) (fun cdv A outer s H vs Q E hr h=>?_)
 ·obtain ⟨n,rfl,_⟩:=h;rfl
 ·obtain ⟨n,rfl,q⟩:=h;refine ⟨_,(aG (aO (dB (tF rfl) rfl T.anK ahX (aD (yF pS (oG (v:=.int 1000000000) rfl T.nK ⟨_,rfl⟩)) (aD (dB (acG rfl) rfl T.aq4 apS (aD (oG (v:=.int 1000000000) rfl T.nK ⟨_,rfl⟩) (aD (pv 0) aB))) aB))))),?_⟩
  try dsimp only [L2.start,aZ,bJ,List.cons_append,List.nil_append,List.replicate_succ,List.replicate_zero,List.length_cons,List.length_nil,Nat.reduceAdd,Nat.reduceSub,Nat.zero_add]
  wp_walk;exact q
theorem jF {t:Ad} (T:Tx w K mg t):bK P w K mg base CX0 1 t.lL t.k8 ["truth"] auC:=by
 refine T.iK.ok aaE (fun vs H Q E h=>?_) (fun cdv A outer s H vs Q E hr h=>?_)
 ·obtain ⟨b,rfl,_⟩:=h;rfl
 ·obtain ⟨b,rfl,q⟩:=h;refine ⟨_,(aG (aO (nD (sK (pv 0)) aE aE))),?_⟩
  try dsimp only [L2.start,aZ,bJ,List.cons_append,List.nil_append,List.replicate_succ,List.replicate_zero,List.length_cons,List.length_nil,Nat.reduceAdd,Nat.reduceSub,Nat.zero_add]
  wp_walk;cases b<;>exact q
theorem ak9 {t:Ad} (T:Tx w K mg t):bK P w K mg base CX0 2 t.ad5 t.ac9 ["sign","one","other"] anR:=by
 refine T.akB.ok sR (fun vs H Q E h=>?_) (fun cdv A outer s H vs Q E hr h=>?_)
 ·obtain ⟨g,a,b,rfl,_⟩:=h;rfl
 ·obtain ⟨g,a,b,rfl,ha,q⟩:=h;refine ⟨_,(aC (bP (aS cJ (pv 0) aK (nomark _)) (aG (aO (aN (jF T) (hr.mono (by omega)) rfl T.lJ T.iK.kp T.lQ .nil pass0 (aD (fY cJ (pv 1) (pv 2) (nomark _)) aB)))) bA)
   (aC (bC (i:=3) sR.nd rfl (Or.inl rfl) (aN (nW T) (hr.mono (by omega)) rfl T.uA T.oF.kp T.tQ .nil pass0 (aD (pv 1) aB)))
   (aC (bC (i:=4) sR.nd rfl (Or.inl rfl) (aN (nW T) (hr.mono (by omega)) rfl T.uA T.oF.kp T.tQ .nil pass0 (aD (pv 2) aB)))
   (aC (bP (aS cJ (pv 0) aK (nomark _)) (aG (aO (aN (jF T) (hr.mono (by omega)) rfl T.lJ T.iK.kp T.lQ .nil pass0 (aD (fY pK (pv 3) (pv 4) (nomark _)) aB)))) bA)
   (aC (bP (aS cJ (pv 0) aK (nomark _)) (aG (aO (aN (wF T) (hr.mono (by omega)) rfl T.ajY T.afW.kp T.aj0 .nil pass0 (aD (bH cN (pv 3) (pv 4)) aB)))) bA)
   (aC (bP (aS cJ (pv 0) aK (nomark _)) (aG (aO (aN (wF T) (hr.mono (by omega)) rfl T.ajY T.afW.kp T.aj0 .nil pass0 (aD (bH g9 (pv 3) (pv 4)) aB)))) bA)
   (aG (aO (aN (wF T) (hr.mono (by omega)) rfl T.ajY T.afW.kp T.aj0 .nil pass0 (aD (bH pT (pv 3) (pv 4)) aB)))))))))),?_⟩
  try dsimp only [L2.start,aZ,bJ,List.cons_append,List.nil_append,List.replicate_succ,List.replicate_zero,List.length_cons,List.length_nil,Nat.reduceAdd,Nat.reduceSub,Nat.zero_add]
  have b1:=aoJ ha;cases g with
  | eq =>
   wp_walk using Sg.s;cases a with
   | none=>cases b with
    | none=>simpa [rEq,scal,wv,ae6,Sg.of] using q
    | some n=>simpa [rEq,scal,wv,ae6,Sg.of] using q
   | some m=>cases b with
    | none=>simpa [rEq,scal,wv,ae6,Sg.of] using q
    | some n=>simpa [rEq,scal,wv,ae6,Sg.of] using q
  | lt =>
   wp_walk using Sg.s,decide_eq_true_eq;exact q
  | add =>
   wp_walk using Sg.s;exact q
  | sub =>
   wp_walk using Sg.s;exact q
  | mul =>
   wp_walk using Sg.s;exact ⟨acD (by omega) (by omega),q⟩
theorem ahK {t:Ad} (T:Tx w K mg t) {n d:Nat} (hn:3<=n) (IH:bK P w K mg base CX0 n t.nX t.nL ["saying","names","arg","now","answers"] (axF d)):bK P w K mg base CX0 (n+1) t.nX t.nL ["saying","names","arg","now","answers"] (axF (d+1)):=by
  refine T.rT.ok lF (fun vs H Q E h=>?_) (fun cdv A outer s H vs Q E hr h=>?_)
  · obtain ⟨v,dn,da,p,s,rfl,_⟩:=h;rfl
  · obtain ⟨v,dn,da,p,s,rfl,hS,hd,hok,hN,hA,hP,q⟩:=h;have hu:=nA hr;refine ⟨_,(aC (bC (i:=5) lF.nd rfl (Or.inl rfl) (aX bN (pv 0) aE (fun _ _=>rfl)))
      (aC (bP (aS cJ (pv 5) aK (nomark _)) (aG (aO (aX bN (pv 0) aE (fun _ _=>rfl)))) bA)
      (aC (bP (aS cJ (pv 5) aK (nomark _)) (aG (aO eJ)) bA)
      (aC (bP (aS cJ (pv 5) aK (nomark _)) (aG (aO (akK hu (pv 1) (aX bN (pv 0) aE (fun _ _=>rfl)) ⟨rfl,rfl,rfl,rfl⟩))) bA)
      (aC (bP (aS cJ (pv 5) aK (nomark _)) (aG (aO (pv 2))) bA)
      (aC (bP (aS cJ (pv 5) aK (nomark _)) (aG (aO (aN (wF T) (hr.mono (by omega)) rfl T.ajY T.afW.kp T.aj0 .nil pass0 (aD (pv 3) aB)))) bA)
      (aC (bC (i:=6) lF.nd rfl (Or.inl rfl) (aN IH (hr.mono (by omega)) rfl T.zU T.rT.kp T.xM .nil pass0 (aD (aX bN (pv 0) aE (fun _ _=>rfl)) (aD (pv 1) (aD (pv 2) (aD (pv 3) (aD (pv 4) aB)))))))
      (aC (bP (aS cJ (pv 5) aK (nomark _)) (aG (aO (akK hu (pv 4) (pv 6) ⟨rfl,rfl,rfl,rfl⟩))) bA)
      (aC (bP (aS cJ (pv 5) aK (nomark _)) (aG (aO (aN (jF T) (hr.mono (by omega)) rfl T.lJ T.iK.kp T.lQ .nil pass0 (aD (fY cJ (aN (nW T) (hr.mono (by omega)) rfl T.uA T.oF.kp T.tQ .nil pass0 (aD (pv 6) aB)) aE (nomark _)) aB)))) bA)
      (aC (bC (i:=7) lF.nd rfl (Or.inl rfl) (aN IH (hr.mono (by omega)) rfl T.zU T.rT.kp T.xM .nil pass0 (aD (aX bN (pv 0) aE (fun _ _=>rfl)) (aD (pv 1) (aD (pv 2) (aD (pv 3) (aD (pv 4) aB)))))))
      (aG (aO (aN (ak9 T) (hr.mono (by omega)) rfl T.asX T.akB.kp T.arG .nil pass0 (aD (pv 5) (aD (pv 6) (aD (pv 7) aB)))))))))))))))),?_⟩
    try dsimp only [L2.start,aZ,bJ,List.cons_append,List.nil_append,List.replicate_succ,List.replicate_zero,List.length_cons,List.length_nil,Nat.reduceAdd,Nat.reduceSub,Nat.zero_add]
    cases hS with
    | num e =>
      wp_walk using e;exact q
    | non e =>
      wp_walk using e;exact q
    | name e =>
      obtain ⟨kvs,ek,hk⟩:=hN;wp_walk using e,ek,hk;exact q
    | arg e =>
      wp_walk using e;exact q
    | now e =>
      wp_walk using e;exact q
    | ans e h1 =>
      wp_walk using e;simp only [Say.depth] at hd;refine ⟨_,_,_,p,_,rfl,h1,by omega,hok,hN,hA,hP,?_⟩;obtain ⟨kvs,ek,hk⟩:=hA;wp_walk using e,ek,hk;exact q
    | neg e h1 =>
      wp_walk using e;simp only [Say.depth] at hd;refine ⟨_,_,_,p,_,rfl,h1,by omega,hok,hN,hA,hP,?_⟩;wp_walk using e,decide_eq_true_eq;exact q
    | @two a v u g s1 s2 e h1 h2 =>
      simp only [Say.depth] at hd;cases g <;>
      ( wp_walk using e,Sg.s
        refine ⟨_,_,_,p,_,rfl,h1,by omega,hok.1,hN,hA,hP,?_⟩;wp_walk using e,Sg.s;refine ⟨_,_,_,p,_,rfl,h2,by omega,hok.2,hN,hA,hP,?_⟩;wp_walk using e,Sg.s;exact ⟨_,_,_,rfl,auH hP hok.1,q⟩)
theorem ahL {t:Ad} (T:Tx w K mg t):∀ d,bK P w K mg base CX0 (d+3) t.nX t.nL ["saying","names","arg","now","answers"] (axF d):=by
 intro d
 induction d with
 | zero=>exact ⟨fun _ _ _ _ x=>by (obtain ⟨_,_,_,_,s,_,_,h,_⟩:=x;exact absurd h (by have:=s.depth_pos;omega)),fun _ _ _ _ _ _ _ _ _ _ _ _ _ x=>by (obtain ⟨_,_,_,_,s,_,_,h,_⟩:=x;exact absurd h (by have:=s.depth_pos;omega))⟩
 | succ d ih=>exact ahK T (by omega) ih
theorem dG {t:Ad} (T:Tx w K mg t):bK P w K mg base CX0 10 t.sW t.uP ["self","saying"] (am4 ⟨t.aU,t.aV,t.aJ⟩):=by
 refine T.ak3.ok af3 (fun vs H Q E h=>?_) (fun cdv A outer s H vs Q E hr h=>?_)
 ·obtain ⟨R,as,sl,S,v,s,rfl,_⟩:=h;rfl
 ·obtain ⟨R,as,sl,S,v,s,rfl,A,ok,hS,so,q⟩:=h;refine ⟨_,(aG (aO (aN (ahL T 6) (hr.mono (by omega)) rfl T.zU T.rT.kp T.xM .nil pass0 (aD (pv 1) (aD (aQ T.aW T.fG (pv 0)) (aD (aQ T.aW T.abX (pv 0)) (aD (aQ T.aW T.rC (pv 0)) (aD (aQ T.bI T.fN (aQ T.aW T.cT (pv 0))) aB)))))))),?_⟩
  try dsimp only [L2.start,aZ,bJ,List.cons_append,List.nil_append,List.replicate_succ,List.replicate_zero,List.length_cons,List.length_nil,Nat.reduceAdd,Nat.reduceSub,Nat.zero_add]
  wp_walk using A.ins,A.tk.ins;exact ⟨v,R.nm,R.da,S.pl,s,rfl,hS,so.2,so.1,⟨_,A.nm,wA S.nm⟩,⟨_,A.tk.ha,wW S.ans⟩,ok,q⟩
theorem sE {t:Ad} (T:Tx w K mg t):bK P w K mg base CX0 2 t.qG t.qK ["self","which"] (abJ t.aV):=by
 refine T.aiA.ok adG (fun vs H Q E h=>?_) (fun cdv A outer s H vs Q E hr h=>?_)
 ·obtain ⟨wk,wx,lb,ln,k,n,c,b,bb,r,m,rfl,_⟩:=h;rfl
 ·obtain ⟨wk,wx,lb,ln,k,n,c,b,bb,r,m,rfl,W,hm,hs,hr90,q⟩:=h;refine ⟨_,(aC (bL (j4 (aQ T.cX T.gX (pv 0)) (aX bN (bX (pv 0) T.cX T.fW (fF T) (hr.mono (by omega)) T.gW .nil pass0) (bH cN aE (pv 1)) (fun _ _=>rfl))))
   (aG (bL (pJ PySem.F.slot_list_extend PySem.F.type_list_extend iN (aQ T.cX T.eF (pv 0)) (aD (bE (aD (pv 1) (aD aE aB))) aB))))),?_⟩
  try dsimp only [L2.start,aZ,bJ,List.cons_append,List.nil_append,List.replicate_succ,List.replicate_zero,List.length_cons,List.length_nil,Nat.reduceAdd,Nat.reduceSub,Nat.zero_add]
  obtain ⟨vs,eb,hB⟩:=W.bl;have n1:wk≠ln:=dP W.ins W.nu (by intro z;cases z);have n2:wk≠lb:=dP W.ins eb (by intro z;cases z);have lv:=hB.len;wp_walk using W.ins,eb;refine ⟨wk,wx,lb,ln,k,n,b,r,m,rfl,W,hm,fun v hv=>?_⟩;obtain ⟨a,p,xs,us,rfl,ea,hat,ep,hU⟩:=hv.subAt hs;wp_walk using ea,hat,eb;have lf:=W.few;simp only [List.length_cons] at lv lf;refine ⟨by omega,?_⟩;have T1:=aP.eY (ys:=vs++[V.ref p]) eb;have i1:upd H lb (.lst (vs++[.ref p])) wk=some (.ins t.aV wx [("blocks",.ref lb),("numbers",.ref ln)]):=by rw [aI n2];exact W.ins
  have i2:upd H lb (.lst (vs++[.ref p])) ln=some (.lst ((bG ((k,b,n)::r)).map V.int)):=by rw [aI W.ne.symm];exact W.nu
  have i3:upd H lb (.lst (vs++[.ref p])) lb=some (.lst (vs++[.ref p])):=aA;have K1:Kp [lb] H (upd H lb (.lst (vs++[.ref p]))):=Kp.set1J;have B1:=hB.kp T1;have U1:=hU.kp T1;have p1:=T1 _ _ ep;generalize upd H lb (.lst (vs++[.ref p]))=G at *;wp_walk using i1,i2;refine fun l0 f0=>?_;have N0:=Kp.new (S:=[]) (o:=.lst [.int c,.int 0]) f0;wp_walk using N0.at i2,List.length_map;have ll:=xO ((k,b,n)::r);simp only [List.length_cons] at ll;refine ⟨by omega,?_⟩;have nl0:ln≠l0:=aL i2 f0;have nb0:lb≠l0:=aL i3 f0;have nw0:wk≠l0:=aL i1 f0;have T2:aP G (upd (upd G l0 (.lst [.int c,.int 0])) ln (.lst ((bG ((k,b,n)::r)).map V.int++[.int c,.int 0]))):=(aP.nil N0).tr (aP.eY (N0.at i2));refine q _ ⟨by rw [aI n1,aI nw0];exact i1,⟨_,by rw [aI W.ne,aI nb0];exact i3,.cons (B1.kp T2) (T2 _ _ p1) (U1.kp T2)⟩,by rw [aA,oI];simp,W.ne,by simp only [List.length_cons];omega⟩ ?_;intro d o ed nd;simp only [List.mem_cons,List.not_mem_nil,or_false,not_or] at nd;have g1:=K1.at1 ed nd.1;rw [aI nd.2,aI (aL g1 f0)];exact g1
theorem aiM {t:Ad} (T:Tx w K mg t):bK P w K mg base CX0 11 t.xA t.zK ["self","statement"] (atQ ⟨t.aU,t.aV,t.aJ⟩ true):=by
 refine T.apM.ok ahE (fun vs H Q E h=>?_) (fun cdv A outer s H vs Q E hr h=>?_)
 ·obtain ⟨R,as,sl,S,a,m,N,rfl,_⟩:=h;rfl
 ·obtain ⟨R,as,sl,S,a,m,N,rfl,A,hs,hB,F,g,hst,q⟩:=h;refine ⟨_,(aG (bP (aS acO (bQ (pv 0) T.aW T.dZ (dG T) (hr.mono (by omega)) T.eV .nil pass0 (aD (aX bN (pv 1) aE (fun _ _=>rfl)) aB)) (bD (aD eJ (aD aE aB))) (by with_unfolding_all rfl)) (aG (bL (bQ (aQ T.aW T.i7 (pv 0)) T.cX T.u1 (sE T) (hr.mono (by omega)) T.xW .nil pass0 (aD aE aB)))) (aG (bP (aS cJ (aX bN (pv 1) aE (fun _ _=>rfl)) aK (nomark _)) (aG (bL (bQ (aQ T.aW T.i7 (pv 0)) T.cX T.u1 (sE T) (hr.mono (by omega)) T.xW .nil pass0 (aD aE aB)))) (aG (bL (bX (aQ T.aW T.i7 (pv 0)) T.cX T.iM (gU T) (hr.mono (by omega)) T.j5 .nil pass0))))))),?_⟩
  try dsimp only [L2.start,aZ,bJ,List.cons_append,List.nil_append,List.replicate_succ,List.replicate_zero,List.length_cons,List.length_nil,Nat.reduceAdd,Nat.reduceSub,Nat.zero_add]
  obtain ⟨k0,b0,n0,r0,est,hm0⟩:=fI hst;have d0:=F.sk.dp;rw [est] at d0;have hr90:r0.length<=90:=by have:=d0.1;omega
  have enter:∀(G:Hp) (_:bB ⟨t.aU,t.aV,t.aJ⟩ G R as sl S) (_:Fw R as as H G) (c:Nat) (bb:List Stm),m.sub c=some bb->(∀ H',bB ⟨t.aU,t.aV,t.aJ⟩ H' R as sl (S.enter c bb)->Fw R as as H H'->Q .non H')->abJ t.aV [.ref R.wk,.int (c:Int)] G (fun _ H1=>Q .non H1) E0:=fun G A FG c bb hsub q=>by
   have W:=A.wk;rw [est] at W;refine ⟨R.wk,R.wx,R.lb,R.ln,k0,n0,c,b0,bb,r0,m,rfl,W,hm0,hsub,hr90,fun H1 W1 K1=>?_⟩;rw [<- est] at W1;exact q H1 (A.walk W1 K1) (FG.trans (A.fwalk W1 K1))
  have pass:∀(G:Hp) (_:bB ⟨t.aU,t.aV,t.aJ⟩ G R as sl S) (_:Fw R as as H G),(∀ H',bB ⟨t.aU,t.aV,t.aJ⟩ H' R as sl S.pass->Fw R as as H H'->Q .non H')->wY t.aV [.ref R.wk] G (fun _ H1=>Q .non H1) E0:=fun G A FG q=>by
   have W:=A.wk;rw [est] at W;refine ⟨R.wk,R.wx,R.lb,R.ln,k0,n0,b0,r0,rfl,W,fun H1 W1 K1=>?_⟩;have e:(k0,b0,n0+1)::r0=fV S.stk:=by rw [est];rfl
   rw [e] at W1;exact q H1 (A.walk W1 (K1.mono (by simp))) (FG.trans (A.fwalk W1 (K1.mono (by simp))))
  cases hs with
  | @whl a p v s vs b e1 h1 e2 h2 =>
   simp only [xX] at q;wp_walk using A.ins,e1;refine ⟨R,as,sl,S,v,s,rfl,A,F.pl,h1,g.1,?_⟩;wp_walk using A.ins,A.wk.ins,e1;refine fun p0 h0=>⟨ajN _,flat01,?_⟩;rw [acH];have N0:=Kp.new (S:=[]) (o:=.tup [.non,.int 0]) h0;have A0:=A.kp N0;have e0:=N0.at e1;have F0:=Fw.of (R:=R) (as:=as) N0;generalize upd H p0 (.tup [.non,.int 0])=G0 at *;by_cases hw:num (S.worth s)=0
   ·rw [if_pos hw] at q;rw [decide_eq_true hw];wp_walk using A0.ins,A0.wk.ins,e0;exact pass G0 A0 F0 q
   ·rw [if_neg hw] at q;rw [decide_eq_false hw];wp_walk using A0.ins,A0.wk.ins,e0;exact enter G0 A0 F0 0 b rfl q
  | @iff a p p2 v s vs us b o e1 h1 e2 h2 e3 h3 =>
   simp only [xX] at q;wp_walk using A.ins,e1;refine ⟨R,as,sl,S,v,s,rfl,A,F.pl,h1,g.1,?_⟩;wp_walk using A.ins,A.wk.ins,e1;refine fun p0 h0=>⟨ajN _,flat01,?_⟩;rw [acH];have N0:=Kp.new (S:=[]) (o:=.tup [.non,.int 0]) h0;have A0:=A.kp N0;have e0:=N0.at e1;have F0:=Fw.of (R:=R) (as:=as) N0;generalize upd H p0 (.tup [.non,.int 0])=G0 at *;by_cases hw:num (S.worth s)=0
   ·rw [if_pos hw] at q;rw [decide_eq_true hw];wp_walk using A0.ins,A0.wk.ins,e0;exact enter G0 A0 F0 1 o rfl q
   ·rw [if_neg hw] at q;rw [decide_eq_false hw];wp_walk using A0.ins,A0.wk.ins,e0;exact enter G0 A0 F0 0 b rfl q
  | _=>cases hB
theorem ao5 {t:Ad} (T:Tx w K mg t):bK P w K mg base CX0 11 t.aeB t.ah3 ["run","statement"] (dL ⟨t.aU,t.aV,t.aJ⟩ true (fun m=>∃ x s,m=.set x s)):=by
 refine T.anJ.ok anG (fun vs H Q E h=>?_) (fun cdv A outer s H vs Q E hr h=>?_)
 ·obtain ⟨R,as,sl,S,a,m,N,rfl,_⟩:=h;rfl
 ·obtain ⟨R,as,sl,S,a,m,N,rfl,A,hsl,hs,⟨x,s,rfl⟩,F,g,hN,q⟩:=h;have hu:=nA hr;refine ⟨_,(aC (mD hu (aQ T.aW T.fG (pv 0)) (aX bN (pv 1) aE (fun _ _=>rfl)) (bQ (pv 0) T.aW T.dZ (dG T) (hr.mono (by omega)) T.eV .nil pass0 (aD (aX bN (pv 1) aE (fun _ _=>rfl)) aB)))
   (aG (aO (bE aB)))),?_⟩
  try dsimp only [L2.start,aZ,bJ,List.cons_append,List.nil_append,List.replicate_succ,List.replicate_zero,List.length_cons,List.length_nil,Nat.reduceAdd,Nat.reduceSub,Nat.zero_add]
  cases hs with
  | @set a x v s e1 h1 =>
   have l1:(k7 S.nm).length<=N:=by rw [k7,List.length_map];exact F.nm
   refine aF fun R1 hR1=>?_;wp_walk using A.ins,e1;refine ⟨R,as,sl,S,v,s,rfl,A,F.pl,h1,g,?_⟩;wp_walk using A.ins,e1,A.nm,lK;refine ⟨by omega,?_⟩;have A1:=A.name x (S.worth s);have F1:=Fw.set (R:=R) (as:=as) (H:=H) (o:=.dK (k7 (dH S.nm x (S.worth s)))) (p:=R.nm) (.inl (by simp [Rn.cells]));generalize upd H R.nm (.dK (k7 (dH S.nm x (S.worth s))))=G1 at *;refine hR1 _ _ ?_;clear hR1;clear R1;wp_walk;refine fun c hc=>?_;have N4:=Kp.new (S:=[]) (o:=.lst []) hc;exact q _ c [] _ (A1.kp N4) (F1.free hc) aA .nil (F1.trans (Fw.of N4))
theorem yE {t:Ad} (T:Tx w K mg t):bK P w K mg base CX0 1 t.lD t.l9 ["self"] (ao7 t.aJ):=by
 refine T.aeE.ok mS (fun vs H Q E h=>?_) (fun cdv A outer s H vs Q E hr h=>?_)
 ·obtain ⟨tk,tx,dp,da,made,pend,ans,rfl,_⟩:=h;rfl
 ·obtain ⟨tk,tx,dp,da,made,pend,ans,rfl,R,hm,hl,q⟩:=h;have hu:=nA hr;refine ⟨_,(aC (bC (i:=1) mS.nd rfl (Or.inl rfl) (aQ T.bI T.uR (pv 0)))
   (aC (atS T.bI T.uR (pv 0) aE)
   (aC (mD hu (aQ T.bI T.fO (pv 0)) (pv 1) ajA)
   (aG (aO (pv 1)))))),?_⟩
  try dsimp only [L2.start,aZ,bJ,List.cons_append,List.nil_append,List.replicate_succ,List.replicate_zero,List.length_cons,List.length_nil,Nat.reduceAdd,Nat.reduceSub,Nat.zero_add]
  wp_walk using R.ins;have n1:=R.n1;have nk:(made:Int)∉pend:=fun z=>by have:=R.lt _ z;omega
  wp_walk using aI n1.1.symm,R.hp,yZ (.bl true) (alH nk);refine ⟨by simp only [jC,List.length_map];omega,?_⟩;refine q _ ⟨by rw [aI n1.1];exact aA,by rw [aA];simp [jC],by rw [aI R.nda.symm,aI n1.2.symm];exact R.ha,R.nda,fun i hi=>?_,?_,fun p hp=>?_,fun p hp z=>?_,by omega⟩ ?_
  ·rcases List.mem_append.mp hi with hi | hi
   ·have:=R.lt i hi;omega
   ·rw [show i=(made:Int) by simpa using hi];omega
  ·refine List.pairwise_append.mpr ⟨R.asc,by simp,fun i hi j hj=>?_⟩;rw [show j=(made:Int) by simpa using hj];exact (R.lt i hi).2
  ·have:=R.la p hp;omega
  ·rcases List.mem_append.mp z with z | z
   ·exact R.dis p hp z
   ·have:=R.la p hp;rw [show p.1=(made:Int) by simpa using z] at this;omega
  ·intro b o eb nb;simp only [List.mem_cons,List.not_mem_nil,or_false,not_or] at nb;rw [aI nb.2,aI nb.1];exact eb
theorem mE {t:Ad} (T:Tx w K mg t):bK P w K mg base CX0 2 t.kF t.kR ["self","name"] (awO ⟨t.aU,t.aV,t.aJ⟩):=by
 refine T.abB.ok mG (fun vs H Q E h=>?_) (fun cdv A outer s H vs Q E hr h=>?_)
 ·obtain ⟨R,as,sl,S,n,rfl,_⟩:=h;rfl
 ·obtain ⟨R,as,sl,S,n,rfl,A,b1,b2,b3,q⟩:=h;have hu:=nA hr;refine ⟨_,(aC (bC (i:=2) mG.nd rfl (Or.inl rfl) (bX (aQ T.aW T.cT (pv 0)) T.bI T.aa8 (yE T) (hr.mono (by omega)) T.acT .nil pass0))
   (aC (mD hu (aQ T.aW T.fG (pv 0)) (pv 1) (pv 2))
   (aG (aO (pv 2))))),?_⟩
  try dsimp only [L2.start,aZ,bJ,List.cons_append,List.nil_append,List.replicate_succ,List.replicate_zero,List.length_cons,List.length_nil,Nat.reduceAdd,Nat.reduceSub,Nat.zero_add]
  refine aF fun R1 hR1=>?_;wp_walk using A.ins,A.tk.ins;refine ⟨R.tk,R.tx,R.dp,R.da,S.made,S.pend,S.ans,rfl,A.tk,b1,b2,fun H1 T1 K1=>?_⟩;have K2:Kp [R.tk,R.dp,R.da] H H1:=K1.mono (by simp;try omega);have A1:=A.tick T1 K2;have F1:=A.ftick T1 K2;wp_walk;refine hR1 _ _ ?_;clear hR1;clear R1;refine aF fun R2 hR2=>?_;have ep:eI (k7 S.nm) (.inr n) (.int (S.made:Int))=k7 (dH S.nm n (some (S.made:Int))):=lK S.nm n (some (S.made:Int));have l1:(k7 S.nm).length<=1000000:=by rw [k7,List.length_map];exact b3
  wp_walk using A1.ins,A1.nm,ep;refine ⟨by omega,?_⟩;have A2:=A1.name n (some (S.made:Int));have F2:=F1.trans (Fw.set (R:=R) (as:=as) (H:=H1) (o:=.dK (k7 (dH S.nm n (some (S.made:Int))))) (p:=R.nm) (.inl (by simp [Rn.cells])));generalize upd H1 R.nm (.dK (k7 (dH S.nm n (some (S.made:Int)))))=G2 at *;refine hR2 _ _ ?_;clear hR2;clear R2;wp_walk;exact q G2 A2 F2
theorem xH {t:Ad} (T:Tx w K mg t):bK P w K mg base CX0 11 t.mY t.xD ["run","statement"] (dL ⟨t.aU,t.aV,t.aJ⟩ true (fun m=>∃ x y s,m=.order x y s\/m=.child x y s)):=by
 refine T.zQ.ok pW (fun vs H Q E h=>?_) (fun cdv A outer s H vs Q E hr h=>?_)
 ·obtain ⟨R,as,sl,S,a,m,N,rfl,_⟩:=h;rfl
 ·obtain ⟨R,as,sl,S,a,m,N,rfl,A,hsl,hs,⟨x,y,s,hm⟩,F,g,hN,q⟩:=h;refine ⟨_,(aC (bC (i:=2) pW.nd rfl (Or.inl rfl) (bQ (pv 0) T.aW T.dZ (dG T) (hr.mono (by omega)) T.eV .nil pass0 (aD (aX bN (pv 1) aE (fun _ _=>rfl)) aB)))
   (aC (bC (i:=3) pW.nd rfl (Or.inl rfl) (bQ (pv 0) T.aW T.mM (mE T) (hr.mono (by omega)) T.pI .nil pass0 (aD (aX bN (pv 1) aE (fun _ _=>rfl)) aB)))
   (aG (aO (bE (aD (bD (aD (aX bN (pv 1) aE (fun _ _=>rfl)) (aD (pv 3) (aD (aX bN (pv 1) aE (fun _ _=>rfl)) (aD (pv 2) aB))))) aB)))))),?_⟩
  try dsimp only [L2.start,aZ,bJ,List.cons_append,List.nil_append,List.replicate_succ,List.replicate_zero,List.length_cons,List.length_nil,Nat.reduceAdd,Nat.reduceSub,Nat.zero_add]
  rcases hm with rfl | rfl
  ·cases hs with
   | @order a x y v s e1 h1 =>
    refine aF fun R1 hR1=>?_;wp_walk using A.ins,e1;refine ⟨R,as,sl,S,v,s,rfl,A,F.pl,h1,g,?_⟩;wp_walk;refine hR1 _ _ ?_;clear hR1;clear R1;refine aF fun R2 hR2=>?_;wp_walk using A.ins,e1;refine ⟨R,as,sl,S,x,rfl,A,by have:=F.md;omega,by have:=F.pd;omega,by have:=F.nm;omega,fun H1 A1 F1=>?_⟩;have e2:=A.tkp F1 _ _ e1;wp_walk;refine hR2 _ _ ?_;clear hR2;clear R2;wp_walk using e2;refine fun p3 h3 c h4=>?_;have N3:=(Kp.new (S:=[]) (o:=.tup [.str "order",.int S.made,.str y,wv (S.worth s)]) h3).trans (Kp.new (o:=.lst [.ref p3]) h4);exact q _ c [.ref p3] _ (A1.kp N3) (F1.free (cZ h4)) aA (.cons ((Kp.new (S:=[]) h4).at aA) .nil) (F1.trans (Fw.of N3))
  ·cases hs with
   | @child a x y v s e1 h1 =>
    refine aF fun R1 hR1=>?_;wp_walk using A.ins,e1;refine ⟨R,as,sl,S,v,s,rfl,A,F.pl,h1,g,?_⟩;wp_walk;refine hR1 _ _ ?_;clear hR1;clear R1;refine aF fun R2 hR2=>?_;wp_walk using A.ins,e1;refine ⟨R,as,sl,S,x,rfl,A,by have:=F.md;omega,by have:=F.pd;omega,by have:=F.nm;omega,fun H1 A1 F1=>?_⟩;have e2:=A.tkp F1 _ _ e1;wp_walk;refine hR2 _ _ ?_;clear hR2;clear R2;wp_walk using e2;refine fun p3 h3 c h4=>?_;have N3:=(Kp.new (S:=[]) (o:=.tup [.str "child",.int S.made,.str y,wv (S.worth s)]) h3).trans (Kp.new (o:=.lst [.ref p3]) h4);exact q _ c [.ref p3] _ (A1.kp N3) (F1.free (cZ h4)) aA (.cons ((Kp.new (S:=[]) h4).at aA) .nil) (F1.trans (Fw.of N3))
theorem agY {t:Ad} (T:Tx w K mg t):bK P w K mg base CX0 11 t.qW t.yD ["run","statement"] (dL ⟨t.aU,t.aV,t.aJ⟩ true (fun m=>∃ x s,m=.timer x s)):=by
 refine T.af8.ok lV (fun vs H Q E h=>?_) (fun cdv A outer s H vs Q E hr h=>?_)
 ·obtain ⟨R,as,sl,S,a,m,N,rfl,_⟩:=h;rfl
 ·obtain ⟨R,as,sl,S,a,m,N,rfl,A,hsl,hs,⟨x,s,rfl⟩,F,g,hN,q⟩:=h;refine ⟨_,(aC (bC (i:=2) lV.nd rfl (Or.inl rfl) (bQ (pv 0) T.aW T.dZ (dG T) (hr.mono (by omega)) T.eV .nil pass0 (aD (aX bN (pv 1) aE (fun _ _=>rfl)) aB)))
   (aC (bC (i:=3) lV.nd rfl (Or.inl rfl) (dB (acG rfl) rfl T.aq4 apS (aD (oG (v:=.int 1000000000000) rfl T.vU ⟨_,rfl⟩) (aD (nD (aS lP (pv 2) eJ (nomark _)) (aQ T.aW T.rC (pv 0)) (bH cN (aQ T.aW T.rC (pv 0)) (dB (tF rfl) rfl T.anK ahX (aD aE (aD (pv 2) aB))))) aB))))
   (aC (bC (i:=4) lV.nd rfl (Or.inl rfl) (bQ (pv 0) T.aW T.mM (mE T) (hr.mono (by omega)) T.pI .nil pass0 (aD (aX bN (pv 1) aE (fun _ _=>rfl)) aB)))
   (aG (aO (bE (aD (bD (aD aK (aD (pv 4) (aD (pv 3) aB)))) aB))))))),?_⟩
  try dsimp only [L2.start,aZ,bJ,List.cons_append,List.nil_append,List.replicate_succ,List.replicate_zero,List.length_cons,List.length_nil,Nat.reduceAdd,Nat.reduceSub,Nat.zero_add]
  cases hs with
  | @timer a x v s e1 h1 =>
   refine aF fun R1 hR1=>?_;wp_walk using A.ins,e1;refine ⟨R,as,sl,S,v,s,rfl,A,F.pl,h1,g,?_⟩;wp_walk;refine hR1 _ _ ?_;clear hR1;clear R1;refine aF fun R2 hR2=>?_;wp_walk using A.ins,ahT;have rest:R2 [some (V.ref R.x),some (V.ref a),some (wv (S.worth s)),some (V.int (anQ S.nw (S.worth s))),none] H:=by
    refine hR2 _ _ ?_;refine aF fun R3 hR3=>?_;wp_walk using A.ins,e1;refine ⟨R,as,sl,S,x,rfl,A,by have:=F.md;omega,by have:=F.pd;omega,by have:=F.nm;omega,fun H1 A1 F1=>?_⟩;wp_walk;refine hR3 _ _ ?_;clear hR3;clear R3;wp_walk;refine fun p3 h3 c h4=>?_;have N3:=(Kp.new (S:=[]) (o:=.tup [.str "timer",.int S.made,.int (anQ S.nw (S.worth s))]) h3).trans (Kp.new (o:=.lst [.ref p3]) h4);exact q _ c [.ref p3] _ (A1.kp N3) (F1.free (cZ h4)) aA (.cons ((Kp.new (S:=[]) h4).at aA) .nil) (F1.trans (Fw.of N3))
   cases hw:S.worth s with
   | none =>
    rw [hw] at rest;rw [if_pos rfl];exact rest
   | some z =>
    rw [hw] at rest;rw [if_neg (by simp)];wp_walk using wv;exact rest
theorem alZ {t:Ad} (T:Tx w K mg t):bK P w K mg base CX0 11 t.wB t.acW ["run","statement"] (dL ⟨t.aU,t.aV,t.aJ⟩ true (fun m=>∃ s k r,m=.send s k r)):=by
 refine T.ajC.ok amM (fun vs H Q E h=>?_) (fun cdv A outer s H vs Q E hr h=>?_)
 ·obtain ⟨R,as,sl,S,a,m,N,rfl,_⟩:=h;rfl
 ·obtain ⟨R,as,sl,S,a,m,N,rfl,A,hsl,hs,⟨s,k,r,rfl⟩,F,g,hN,q⟩:=h;refine ⟨_,(aG (aO (bE (aD (bD (aD aK (aD (bQ (pv 0) T.aW T.dZ (dG T) (hr.mono (by omega)) T.eV .nil pass0 (aD (aX bN (pv 1) aE (fun _ _=>rfl)) aB)) (aD (aX bN (pv 1) aE (fun _ _=>rfl)) (aD (bQ (pv 0) T.aW T.dZ (dG T) (hr.mono (by omega)) T.eV .nil pass0 (aD (aX bN (pv 1) aE (fun _ _=>rfl)) aB)) aB))))) aB)))),?_⟩
  try dsimp only [L2.start,aZ,bJ,List.cons_append,List.nil_append,List.replicate_succ,List.replicate_zero,List.length_cons,List.length_nil,Nat.reduceAdd,Nat.reduceSub,Nat.zero_add]
  cases hs with
  | @send a k v u s r e1 h1 h2 =>
   wp_walk using A.ins,e1;refine ⟨R,as,sl,S,v,s,rfl,A,F.pl,h1,g.1,?_⟩;wp_walk using A.ins,e1;refine ⟨R,as,sl,S,u,r,rfl,A,F.pl,h2,g.2,?_⟩;wp_walk;have F1:Fw R as as H H:=Fw.refl;refine fun p3 h3 c h4=>?_;have N3:=(Kp.new (S:=[]) (o:=.tup [.str "send",wv (S.worth s),.str k,wv (S.worth r)]) h3).trans (Kp.new (o:=.lst [.ref p3]) h4);exact q _ c [.ref p3] _ (A.kp N3) (F1.free (cZ h4)) aA (.cons ((Kp.new (S:=[]) h4).at aA) .nil) (F1.trans (Fw.of N3))
theorem n9 {t:Ad} (T:Tx w K mg t):bK P w K mg base CX0 1 t.lX t.lT ["self","ticket"] (anB t.aJ):=by
 refine T.adR.ok aaK (fun vs H Q E h=>?_) (fun cdv A outer s H vs Q E hr h=>?_)
 ·obtain ⟨tk,tx,dp,da,made,pend,ans,i,rfl,_⟩:=h;rfl
 ·obtain ⟨tk,tx,dp,da,made,pend,ans,i,rfl,R,hi,q⟩:=h;refine ⟨_,(aG (bL (aoT (aQ T.bI T.fO (pv 0)) (pv 1) ⟨rfl,rfl,rfl,rfl⟩))),?_⟩
  try dsimp only [L2.start,aZ,bJ,List.cons_append,List.nil_append,List.replicate_succ,List.replicate_zero,List.length_cons,List.length_nil,Nat.reduceAdd,Nat.reduceSub,Nat.zero_add]
  obtain ⟨v,hv⟩:=alC hi;wp_walk using R.ins,R.hp,hv,al5;have n1:=R.n1;exact q _ ⟨by rw [aI n1.1];exact R.ins,aA,by rw [aI R.nda.symm];exact R.ha,R.nda,fun j hj=>R.lt j ((List.mem_filter.mp hj).1),R.asc.filter _,R.la,fun p hp z=>R.dis p hp ((List.mem_filter.mp z).1),R.small⟩ Kp.set1J
theorem alD {t:Ad} (T:Tx w K mg t):bK P w K mg base CX0 11 t.wL t.ac7 ["run","statement"] (dL ⟨t.aU,t.aV,t.aJ⟩ true (fun m=>∃ s,m=.drop s)):=by
 refine T.ajG.ok abO (fun vs H Q E h=>?_) (fun cdv A outer s H vs Q E hr h=>?_)
 ·obtain ⟨R,as,sl,S,a,m,N,rfl,_⟩:=h;rfl
 ·obtain ⟨R,as,sl,S,a,m,N,rfl,A,hsl,hs,⟨s,rfl⟩,F,g,hN,q⟩:=h;refine ⟨_,(aC (bC (i:=2) abO.nd rfl (Or.inl rfl) (bQ (pv 0) T.aW T.dZ (dG T) (hr.mono (by omega)) T.eV .nil pass0 (aD (aX bN (pv 1) aE (fun _ _=>rfl)) aB)))
   (aC (bP (aiL (sK (bQ (aQ T.aW T.cT (pv 0)) T.bI T.iG (gN T) (hr.mono (by omega)) T.jQ .nil pass0 (aD (pv 2) aB)))) (aG (aO (bE aB))) bA)
   (aC (bL (bQ (aQ T.aW T.cT (pv 0)) T.bI T.pH (n9 T) (hr.mono (by omega)) T.rR .nil pass0 (aD (pv 2) aB)))
   (aG (aO (bE (aD (bD (aD aK (aD (pv 2) aB))) aB))))))),?_⟩
  try dsimp only [L2.start,aZ,bJ,List.cons_append,List.nil_append,List.replicate_succ,List.replicate_zero,List.length_cons,List.length_nil,Nat.reduceAdd,Nat.reduceSub,Nat.zero_add]
  cases hs with
  | @drop a v s e1 h1 =>
   refine aF fun R1 hR1=>?_;wp_walk using A.ins,e1;refine ⟨R,as,sl,S,v,s,rfl,A,F.pl,h1,g,?_⟩;wp_walk;refine hR1 _ _ ?_;clear hR1;clear R1;refine aF fun R2 hR2=>?_;wp_walk using A.ins,A.tk.ins;refine ⟨R.tk,R.tx,R.dp,R.da,_,_,_,S.worth s,rfl,A.tk,?_⟩;by_cases hp:∃ i,i∈S.pend/\S.worth s=some i
   ·rw [decide_eq_true hp];obtain ⟨i,hi,hw⟩:=hp;have hwv:wv (S.worth s)=.int i:=by rw [hw];rfl
    have hd:deed S (.drop s)=({S with pend:=S.pend.filter fun j=>decide (j≠i)},[[.str "drop",.int i]]):=by simp only [deed,hw,if_pos hi]
    rw [hd] at q;wp_walk;refine hR2 _ _ ?_;clear hR2;clear R2;refine aF fun R3 hR3=>?_;wp_walk using A.ins,A.tk.ins,hwv;refine ⟨R.tk,R.tx,R.dp,R.da,_,_,_,i,rfl,A.tk,hi,fun H3 T3 K3=>?_⟩;have K4:Kp [R.tk,R.dp,R.da] H H3:=K3.mono (by simp;try omega);have A3:=A.tick T3 K4;have F3:=A.ftick T3 K4;wp_walk;refine hR3 _ _ ?_;clear hR3;clear R3;wp_walk;refine fun p3 h3 c h4=>?_;have N3:=(Kp.new (S:=[]) (o:=.tup [.str "drop",.int i]) h3).trans (Kp.new (o:=.lst [.ref p3]) h4);exact q _ c [.ref p3] _ (A3.kp N3) (F3.free (cZ h4)) aA (.cons ((Kp.new (S:=[]) h4).at aA) .nil) (F3.trans (Fw.of N3))
   ·rw [decide_eq_false hp];have hd:deed S (.drop s)=(S,[]):=by
     cases hw:S.worth s with
     | none=>simp only [deed,hw]
     | some i=>simp only [deed,hw,if_neg (show ¬ i∈S.pend from fun z=>hp ⟨i,z,hw⟩)]
    rw [hd] at q;wp_walk;have F1:Fw R as as H H:=Fw.refl;refine fun c hc=>?_;have N4:=Kp.new (S:=[]) (o:=.lst []) hc;exact q _ c [] _ (A.kp N4) (F1.free hc) aA .nil (F1.trans (Fw.of N4))
theorem oZ {t:Ad} (T:Tx w K mg t):bK P w K mg base CX0 1 t.gH t.gA ["self","worths"] (ak7 t.aJ):=by
 refine T.rD.ok iI (fun vs H Q E h=>?_) (fun cdv A outer s H vs Q E hr h=>?_)
 ·obtain ⟨tk,tx,dp,da,l,made,pend,ans,ws,rfl,_⟩:=h;rfl
 ·obtain ⟨tk,tx,dp,da,l,made,pend,ans,ws,rfl,A,el,h4,ha,q⟩:=h;have hu:=nA hr;refine ⟨_,(aC (bC (i:=2) iI.nd rfl (Or.inr rfl) (eM (fr:=[0]) (N:=["worth","self"]) rfl (fun _ _ h=>h) (cO.free rfl rfl rfl rfl rfl (fun _ _ h=>look1 rfl h) rfl (by decide) rfl (fun j hj=>by rw [show j=0 by simpa using hj];exact ⟨_,rfl,rfl,.inl rfl⟩)) (iT (pv 1)) (fun C s H ex pn=>⟨rL (avN (ajR hu (pv 0) (aQ T.bI T.fN (pv 1)))),(pv 0)⟩)))
   (aC (bP (aS pK (dB agW rfl T.ahP w9 (aD (cC (abS rfl) rfl T.atF anH (aD (pv 2) aB)) aB)) aE (nomark _)) (aG (aO (nD (wM (pv 2) (fun _=>rfl)) (aX bN (pv 2) aE (fun _ _=>rfl)) eJ))) bA)
   (aG (arO (aO (aX bN (eM (fr:=[2]) (N:=["ticket","tickets"]) rfl (fun _ _ h=>h) (cO.free rfl rfl rfl rfl rfl (fun _ _ h=>look1 rfl h) rfl (by decide) rfl (fun j hj=>by rw [show j=2 by simpa using hj];exact ⟨_,rfl,rfl,.inl rfl⟩)) (arN (aQ T.bI T.fN (pv 0))) (fun C s H ex pn=>⟨rL (aS ahQ (pv 0) (pv 1) (by with_unfolding_all rfl)),(pv 0)⟩)) aE (fun _ _=>rfl))))))),?_⟩
  try dsimp only [L2.start,aZ,bJ,List.cons_append,List.nil_append,List.replicate_succ,List.replicate_zero,List.length_cons,List.length_nil,Nat.reduceAdd,Nat.reduceSub,Nat.zero_add]
  refine aF fun R1 hR1=>?_;wp_walk using el;refine ⟨⟨_,eZ.of el⟩,?_⟩;obtain ⟨Pv,hPv⟩:∃ Pv:Nat->List V->Hp->Prop,∀ i xs G,Pv i xs G=(G=H/\xs=(bW ans (ws.take i)).map V.int):=⟨_,fun _ _ _=>rfl⟩;refine j9 (ys:=ws.map wv) Pv ?_ ?_ ?_ ?_ ?_
  ·rw [hPv];exact ⟨rfl,rfl⟩
  ·intro i xs G h;rw [hPv] at h;rw [h.2,List.length_map];have:=oK ans (ws.take i);have:(ws.take i).length<=ws.length:=by rw [List.length_take];omega
   omega
  ·intro i xs G h;rw [hPv] at h;rw [h.1];exact eZ.of el
  ·intro i y xs G hi ey h;rw [hPv] at h;obtain ⟨rfl,rfl⟩:=h;obtain ⟨w0,ew,rfl⟩:∃ w0,ws[i]?=some w0/\y=wv w0:=by
    rw [List.getElem?_map] at ey;obtain ⟨w0,a,b⟩:=Option.map_eq_some_iff.mp ey;exact ⟨w0,a,b.symm⟩
   wp_walk using aY,Option.join_some,A.ins,A.ha,aqU;rw [hPv,hPv,ah9 ew];split
   ·exact ⟨rfl,rfl⟩
   ·exact ⟨rfl,rfl⟩
  intro xs G h p hp;rw [hPv] at h;obtain ⟨rfl,rfl⟩:=h;rw [show ws.take (ws.map wv).length=ws by rw [List.length_map,List.take_length]];refine hR1 _ _ ?_;clear hR1;clear R1;wp_walk using aA;refine ⟨bW ans ws,rfl,Nat.le_trans (oK ans ws) h4,fun c hc=>⟨_,rfl,?_⟩⟩;have n1:p≠c:=aL aA hc;have K2:∀ o,Kp [] G (upd (upd G p (.lst ((bW ans ws).map V.int))) c o):=fun o=>(Kp.new hp).trans (Kp.new hc);have e2:∀ o,upd (upd G p (.lst ((bW ans ws).map V.int))) c o p=some (.lst ((bW ans ws).map V.int)):=fun o=>by rw [aI n1,aA]
  generalize hG2:upd (upd G p (.lst ((bW ans ws).map V.int))) c _=G2;replace K2:Kp [] G G2:=hG2 ▸ K2 _;replace e2:G2 p=some (.lst ((bW ans ws).map V.int)):=hG2 ▸ e2 _;clear hG2;have A2:=A.kp K2;have qq:=q G2 K2;by_cases hl:(mK (bW ans ws)).length < 2
  ·rw [if_pos (by omega)];rw [akQ hl] at qq;cases ed:bW ans ws with
   | nil =>
    rw [ed] at e2 qq;wp_walk using e2;rw [if_neg (by simp)];exact qq
   | cons i r =>
    rw [ed] at e2 qq;wp_walk using e2;rw [if_pos (by simp)];exact qq
  rw [if_neg (by omega)];obtain ⟨i,r,ef,fo⟩:=ahM hl;rw [fo] at qq;wp_walk using A2.ins,A2.ha,e2;refine fun o=>?_;have npd:p≠da:=fun z=>by
   rw [z,A2.ha] at e2;cases e2
  generalize hG3:upd G2 da (.frz o (.dK (jT ans)))=G3;have e3:G3 p=some (.lst ((bW ans ws).map V.int)):=by rw [<- hG3,aI npd];exact e2
  have d3:G3 da=some (.frz o (.dK (jT ans))):=by rw [<- hG3];exact aA
  obtain ⟨Pw,hPw⟩:∃ Pw:Nat->List V->Hp->Prop,∀ i xs G',Pw i xs G'=(G'=G3/\xs=(((ans.map (·.1)).take i).filter fun i=>decide (i∈bW ans ws)).map V.int):=⟨_,fun _ _ _=>rfl⟩;refine arF Pw ?_ ?_ ?_ ?_ ?_
  ·rw [hPw];exact ⟨rfl,rfl⟩
  ·intro j xs G' h;rw [hPw] at h;rw [h.2,List.length_map];have h1:=List.length_filter_le (fun i=>decide (i∈bW ans ws)) ((ans.map (·.1)).take j);have h2:((ans.map (·.1)).take j).length<=ans.length:=by rw [List.length_take,List.length_map];omega
   omega
  ·intro j xs G' h;rw [hPw] at h;rw [h.1];exact d3
  ·intro j kv xs G' hj ekv h;rw [hPw] at h;obtain ⟨rfl,rfl⟩:=h;obtain ⟨a0,ea,rfl⟩:∃ a0,ans[j]?=some a0/\kv=(Key.inl a0.1,wv a0.2):=by
    rw [jT,List.getElem?_map] at ekv;obtain ⟨a0,x,y⟩:=Option.map_eq_some_iff.mp ekv;exact ⟨a0,x,y.symm⟩
   have es:(((ans.map (·.1)).take (j+1)).filter fun i=>decide (i∈bW ans ws)).map V.int=if a0.1∈bW ans ws then (((ans.map (·.1)).take j).filter fun i=>decide (i∈bW ans ws)).map V.int++[V.int a0.1] else (((ans.map (·.1)).take j).filter fun i=>decide (i∈bW ans ws)).map V.int:=by
    rw [List.take_add_one,List.getElem?_map,ea];simp only [Option.map_some,Option.toList_some,List.filter_append,List.map_append];split
    ·next h=>simp [h]
    ·next h=>simp [h]
   show afZ _ (some (V.int a0.1)::_) _ _;wp_walk using aY,Option.join_some,e3;refine ⟨rfl,by simp [dR],?_⟩;rw [hPw,hPw,es,afR];by_cases hm:a0.1∈bW ans ws
   ·rw [if_pos (by simpa using hm),if_pos hm];exact ⟨rfl,rfl⟩
   ·rw [if_neg (by simpa using hm),if_neg hm];exact ⟨rfl,rfl⟩
  intro xs G' h pp hpp;rw [hPw] at h;obtain ⟨rfl,rfl⟩:=h;rw [show (ans.map (·.1)).take (jT ans).length=ans.map (·.1) by rw [jT,List.length_map,<- List.length_map (f:=fun p:Int×Wo=>p.1) (as:=ans),List.take_length],ef];wp_walk using aA,List.map_cons;have npp:da≠pp:=aL d3 hpp;have KK:Kp [] G (upd (upd G' pp (.lst (V.int i::r.map V.int))) da (.dK (jT ans))):=fun b ob eb nb=>by
   by_cases hb:b=da
   ·subst hb;rw [aA];rw [A.ha] at eb;exact eb
   ·have e4:G' b=some ob:=by rw [<- hG3,aI hb];exact K2 b ob eb nb
    rw [aI hb,aI (aL e4 hpp)];exact e4
  have q3:=q _ KK;rw [fo] at q3;exact ⟨da,o,jT ans,by rw [aI npp];exact d3,(fun ob u z=>by
   have z:G da=some (.frz ob u):=z;rw [A.ha] at z;cases z),q3⟩
theorem alQ {t:Ad} (T:Tx w K mg t):bK P w K mg base CX0 11 t.wJ t.acX ["run","statement"] (dL ⟨t.aU,t.aV,t.aJ⟩ true (fun m=>∃ x ss,m=.wait x ss)):=by
 refine T.ai3.ok oV (fun vs H Q E h=>?_) (fun cdv A outer s H vs Q E hr h=>?_)
 ·obtain ⟨R,as,sl,S,a,m,N,rfl,_⟩:=h;rfl
 ·obtain ⟨R,as,sl,S,a,m,N,rfl,A,hsl,hs,⟨x,ss,rfl⟩,F,g,hN,q⟩:=h;have hu:=nA hr;refine ⟨_,(aC (qQ (i:=2) (fr:=[0]) (N:=["saying","run"]) rfl (fun _ _ h=>h) (cO.free rfl rfl rfl rfl rfl (fun _ _ h=>h) rfl (by decide) rfl (fun j hj=>by rw [show j=0 by simpa using hj];exact ⟨_,rfl,rfl,.inl rfl⟩)) (iD (aX bN (pv 1) aE (fun _ _=>rfl))) (fun C s H ex pn=>⟨eL,(bQ (pv 1) T.aW T.dZ (dG T) (hr.mono (by omega)) T.eV .nil pass0 (aD (pv 0) aB))⟩) oV.nd rfl (Or.inl rfl))
   (aC (bC (i:=3) oV.nd rfl (Or.inl rfl) (bQ (aQ T.aW T.cT (pv 0)) T.bI T.qC (oZ T) (hr.mono (by omega)) T.r9 .nil pass0 (aD (pv 2) aB)))
   (aC (bC (i:=4) oV.nd rfl (Or.inl rfl) (dB (ag8 rfl) rfl T.oX oM (aD (cC (abS rfl) rfl T.atF anH (aD (eM (fr:=[0]) (N:=["worth","run"]) rfl (fun _ _ h=>h) (cO.free rfl rfl rfl rfl rfl (fun _ _ h=>h) rfl (by decide) rfl (fun j hj=>by rw [show j=0 by simpa using hj];exact ⟨_,rfl,rfl,.inl rfl⟩)) (iT (pv 2)) (fun C s H ex pn=>⟨rL (sK (bQ (aQ T.aW T.cT (pv 1)) T.bI T.iG (gN T) (hr.mono (by omega)) T.jQ .nil pass0 (aD (pv 0) aB))),(pv 0)⟩)) aB)) aB)))
   (aC (bP (PW.pt (ad3 (aS lP (pv 3) eJ (nomark _)) (v7 (wM (pv 4) (fun _=>rfl))))) (aG (c6 T.aW T.dE (pv 0) (bD (aD aK (aD (cC fS rfl T.jG fZ (aD (pv 4) aB)) aB))))) (aG (mD hu (aQ T.aW T.fG (pv 0)) (aX bN (pv 1) aE (fun _ _=>rfl)) (pv 3))))
   (aG (aO (bE aB))))))),?_⟩
  try dsimp only [L2.start,aZ,bJ,List.cons_append,List.nil_append,List.replicate_succ,List.replicate_zero,List.length_cons,List.length_nil,Nat.reduceAdd,Nat.reduceSub,Nat.zero_add]
  cases hs with
  | @wait a pw x vs ss e1 e2 hs2 =>
   obtain ⟨_,g4,gs⟩:=g;have l1:(k7 S.nm).length<=N:=by rw [k7,List.length_map];exact F.nm
   have lv:=hs2.lenW;refine aF fun R1 hR1=>?_;wp_walk using A.ins,e1;refine ⟨⟨_,dF.of e2⟩,?_⟩;obtain ⟨Pv,hPv⟩:∃ Pv:Nat->List V->Hp->Prop,∀ i xs G,Pv i xs G=(G=H/\xs=((ss.take i).map S.worth).map wv):=⟨_,fun _ _ _=>rfl⟩;refine mP (ys:=vs) Pv ?_ ?_ ?_ ?_ ?_
   ·rw [hPv];exact ⟨rfl,rfl⟩
   ·intro i xs G h;rw [hPv] at h;rw [h.2,List.length_map,List.length_map,List.length_take];omega
   ·intro i xs G h;rw [hPv] at h;rw [h.1];exact dF.of e2
   ·intro i y xs G hi ey h;rw [hPv] at h;obtain ⟨rfl,rfl⟩:=h;obtain ⟨s0,es,h0⟩:=hs2.atW ey;wp_walk using aY,Option.join_some,A.ins;refine ⟨R,as,sl,S,y,s0,rfl,A,F.pl,h0,gs s0 (List.mem_of_getElem? es),?_⟩;show Pv (i+1) _ _;rw [hPv,List.take_add_one,es];exact ⟨rfl,by simp⟩
   intro xs G h p1 hp1;rw [hPv] at h;obtain ⟨rfl,rfl⟩:=h;rw [lv,List.take_length];obtain ⟨ws,hws⟩:∃ ws,ws=ss.map S.worth:=⟨_,rfl⟩;have hd:deed S (.wait x ss)=if cB S.ans ws=none/\cE S.pend ws≠[] then ({S with sl:=.wait (cE S.pend ws)},[]) else ({S with nm:=dH S.nm x (cB S.ans ws)},[]):=by rw [hws];rfl
   rw [<- hws];have lw:ws.length<=4:=by rw [hws,List.length_map];exact g4
   clear hws hPv Pv;rw [hd] at q;clear hd;have N1:=Kp.new (S:=[]) (o:=.lst (ws.map wv)) hp1;have f1:upd G p1 (.lst (ws.map wv)) p1=some (.lst (ws.map wv)):=aA;have A1:=A.kp N1;have e3:=N1.at e1;have F1:=Fw.of (R:=R) (as:=as) N1;generalize upd G p1 (.lst (ws.map wv))=G1 at *;refine hR1 _ _ ?_;clear hR1;clear R1;refine aF fun R2 hR2=>?_;wp_walk using A1.ins,A1.tk.ins;refine ⟨R.tk,R.tx,R.dp,R.da,p1,_,_,_,ws,rfl,A1.tk,f1,lw,by have:=F.an;omega,fun G2 K2=>?_⟩;have A2:=A1.kp K2;have f2:=K2.at f1;have e4:=K2.at e3;have F2:=F1.trans (Fw.of K2);wp_walk;refine hR2 _ _ ?_;clear hR2;clear R2;refine aF fun R3 hR3=>?_;wp_walk using A2.ins,A2.tk.ins,f2;refine ⟨⟨_,eZ.of f2⟩,?_⟩;obtain ⟨Pw,hPw⟩:∃ Pw:Nat->List V->Hp->Prop,∀ i xs G',Pw i xs G'=(G'=G2/\xs=(dC S.pend (ws.take i)).map V.int):=⟨_,fun _ _ _=>rfl⟩;refine j9 (ys:=ws.map wv) Pw ?_ ?_ ?_ ?_ ?_
   ·rw [hPw];exact ⟨rfl,rfl⟩
   ·intro i xs G' h;rw [hPw] at h;rw [h.2,List.length_map];have:=kZ S.pend (ws.take i);have:(ws.take i).length<=ws.length:=by rw [List.length_take];omega
    omega
   ·intro i xs G' h;rw [hPw] at h;rw [h.1];exact eZ.of f2
   ·intro i y xs G' hi ey h;rw [hPw] at h;obtain ⟨rfl,rfl⟩:=h;obtain ⟨w0,ew,rfl⟩:∃ w0,ws[i]?=some w0/\y=wv w0:=by
     rw [List.getElem?_map] at ey;obtain ⟨w0,a,b⟩:=Option.map_eq_some_iff.mp ey;exact ⟨w0,a,b.symm⟩
    wp_walk using aY,Option.join_some,A2.ins,A2.tk.ins;refine ⟨R.tk,R.tx,R.dp,R.da,_,_,_,w0,rfl,A2.tk,?_⟩;show onB (V.bl _) _;wp_walk;rw [hPw,hPw,ahH ew];split
    ·next h=>exact ⟨rfl,(if_pos (decide_eq_true h)).symm⟩
    ·next h=>exact ⟨rfl,(if_neg (by simpa using h)).symm⟩
   intro xs G' h p3 hp3;rw [hPw] at h;obtain ⟨rfl,rfl⟩:=h;rw [show ws.take (ws.map wv).length=ws by rw [List.length_map,List.take_length]];clear hPw Pw;wp_walk using aA;refine ⟨dC S.pend ws,rfl,Nat.le_trans (kZ S.pend ws) lw,fun c hc=>⟨_,rfl,?_,fun l4 ns h4 hperm hsort=>?_⟩⟩
   ·have:=wQ (fun i=>(dC S.pend ws).getD i 0) (dC S.pend ws).length;have:=kZ S.pend ws;show (once _ _).length < 64;omega
   obtain rfl:=ae1 hperm hsort;have N3:=((Kp.new (S:=[]) hp3).trans (Kp.new hc)).trans (Kp.new (o:=.lst ((cE S.pend ws).map V.int)) h4);have f4:∀ G5:Hp,upd G5 l4 (.lst ((cE S.pend ws).map V.int)) l4=some (.lst ((cE S.pend ws).map V.int)):=fun _=>aA;generalize hG4:upd (upd (upd G' p3 (.lst ((dC S.pend ws).map V.int))) c _) l4 (.lst ((cE S.pend ws).map V.int))=G4 at N3 ⊢;replace f4:G4 l4=some (.lst ((cE S.pend ws).map V.int)):=hG4 ▸ f4 _;clear hG4 hperm hsort h4 hc hp3;have A4:=A2.kp N3;have e5:=N3.at e4;have F4:=F2.trans (Fw.of N3);refine hR3 _ _ ?_;clear hR3;clear R3;refine aF fun R4 hR4=>?_;have named:¬ (cB S.ans ws=none/\cE S.pend ws≠[])->R4 [some (V.ref R.x),some (V.ref a),some (V.ref p1),some (wv (cB S.ans ws)),some (V.ref l4)] (upd G4 R.nm (.dK (k7 (dH S.nm x (cB S.ans ws))))):=fun hn=>by
    rw [if_neg hn] at q;have A6:=A4.name x (cB S.ans ws);have F6:=F4.trans (Fw.set (p:=R.nm) (o:=.dK (k7 (dH S.nm x (cB S.ans ws)))) (.inl (by simp [Rn.cells])));refine hR4 _ _ ?_;generalize upd G4 R.nm (.dK (k7 (dH S.nm x (cB S.ans ws))))=G6 at *;wp_walk;refine fun c hc=>?_;have N4:=Kp.new (S:=[]) (o:=.lst []) hc;exact q _ c [] _ (A6.kp N4) (F6.free hc) aA .nil (F6.trans (Fw.of N4))
   wp_walk using A4.ins,f4,ahT,e5,A4.nm,lK;by_cases hf:cB S.ans ws=none
   ·rw [if_pos hf];by_cases ho:cE S.pend ws=[]
    ·rw [if_neg (by rw [ho];simp)];exact ⟨by first | omega | (rw [sizeLine_eq];omega),named fun z=>z.2 ho⟩
    ·rw [if_pos (by simpa using ho)];rw [if_pos ⟨hf,ho⟩] at q;refine fun l5 h5 p6 h6=>?_;have N5:=(Kp.new (S:=[]) (o:=.tup ((cE S.pend ws).map V.int)) h5).trans (Kp.new (o:=.tup [.str "wait",.ref l5]) h6);have f6:upd (upd G4 l5 (.tup ((cE S.pend ws).map V.int))) p6 (.tup [.str "wait",.ref l5]) p6=some (.tup [.str "wait",.ref l5]):=aA;have f5:upd (upd G4 l5 (.tup ((cE S.pend ws).map V.int))) p6 (.tup [.str "wait",.ref l5]) l5=some (.tup ((cE S.pend ws).map V.int)):=by rw [aI (aL aA h6),aA]
     have A5:=A4.kp N5;clear named h6 h5;generalize upd (upd G4 l5 (.tup ((cE S.pend ws).map V.int))) p6 (.tup [.str "wait",.ref l5])=G5 at *;wp_walk using A5.ins;have A6:=A5.attr (.ref p6) (.wait (cE S.pend ws)) S.ar S.nw ⟨p6,l5,rfl,f6,f5⟩;have F6:=(F4.trans (Fw.of N5)).trans (Fw.set (p:=R.x) (o:=(.ins t.aU R.dx [("walk",.ref R.wk),("sleep",.ref p6),("arg",wv S.ar),("now",.int S.nw),("names",.ref R.nm),("tickets",.ref R.tk),("letters",.ref R.lt)])) (.inl (by simp [Rn.cells])));refine hR4 _ _ ?_;generalize upd G5 R.x (.ins t.aU R.dx [("walk",.ref R.wk),("sleep",.ref p6),("arg",wv S.ar),("now",.int S.nw),("names",.ref R.nm),("tickets",.ref R.tk),("letters",.ref R.lt)])=G6 at *;wp_walk;refine fun c hc=>?_;have N4:=Kp.new (S:=[]) (o:=.lst []) hc;exact q _ c [] _ (A6.kp N4) (F6.free hc) aA .nil (F6.trans (Fw.of N4))
   ·rw [if_neg hf];exact ⟨by first | omega | (rw [sizeLine_eq];omega),named fun z=>hf z.1⟩
theorem alP {t:Ad} (T:Tx w K mg t):bK P w K mg base CX0 11 t.wI t.acU ["run","statement"] (dL ⟨t.aU,t.aV,t.aJ⟩ true (fun m=>∃ x k,m=.hear x k)):=by
 refine T.akG.ok ab0 (fun vs H Q E h=>?_) (fun cdv A outer s H vs Q E hr h=>?_)
 ·obtain ⟨R,as,sl,S,a,m,N,rfl,_⟩:=h;rfl
 ·obtain ⟨R,as,sl,S,a,m,N,rfl,A,hsl,hs,⟨x,k,rfl⟩,F,g,hN,q⟩:=h;have hu:=nA hr;refine ⟨_,(aC (bC (i:=2) ab0.nd rfl (Or.inl rfl) (amK hu (aQ T.aW T.fQ (pv 0)) (aX bN (pv 1) aE (fun _ _=>rfl)) (bE aB) ⟨rfl,rfl,rfl,rfl⟩))
   (aC (bP (wM (pv 2) (fun _=>rfl)) (aG (mD hu (aQ T.aW T.fG (pv 0)) (aX bN (pv 1) aE (fun _ _=>rfl)) (pJ PySem.F.slot_list_pop PySem.F.type_list_pop arS (pv 2) (aD aE aB)))) (aG (c6 T.aW T.dE (pv 0) (bD (aD aK (aD (aX bN (pv 1) aE (fun _ _=>rfl)) aB))))))
   (aG (aO (bE aB))))),?_⟩
  try dsimp only [L2.start,aZ,bJ,List.cons_append,List.nil_append,List.replicate_succ,List.replicate_zero,List.length_cons,List.length_nil,Nat.reduceAdd,Nat.reduceSub,Nat.zero_add]
  cases hs with
  | @hear a x k e1 =>
   obtain ⟨kvs,el,L⟩:=A.lt;have l1:(k7 S.nm).length<=N:=by rw [k7,List.length_map];exact F.nm
   refine aF fun R1 hR1=>?_;wp_walk using A.ins,el,e1;refine fun p1 h1=>?_;have N1:=Kp.new (S:=[]) (o:=.lst []) h1;have f1:upd H p1 (.lst []) p1=some (.lst []):=aA;have A1:=A.kp N1;have e1':=N1.at e1;have el1:=N1.at el;have L1:=L.keep (fun a _ o h=>N1.at h);have F1:=Fw.of (R:=R) (as:=as) N1;generalize upd H p1 (.lst [])=G1 at *;have slept:∀ l:Addr,G1 l=some (.lst [])->(cL S.lt k).getD []=[]->R1 [some (.ref R.x),some (.ref a),some (.ref l)] G1:=fun l hl hq=>by
    have hd:deed S (.hear x k)=({S with sl:=.hear k},[]):=by simp only [deed,hq]
    rw [hd] at q;refine hR1 _ _ ?_;refine aF fun R2 hR2=>?_;wp_walk using hl,e1';refine fun p2 h2=>?_;have N2:=Kp.new (S:=[]) (o:=.tup [.str "hear",.str k]) h2;have f2:upd G1 p2 (.tup [.str "hear",.str k]) p2=some (.tup [.str "hear",.str k]):=aA;have A2:=A1.kp N2;wp_walk using N2.at A1.ins;have A3:=A2.attr (.ref p2) (.hear k) S.ar S.nw ⟨p2,rfl,f2⟩;have F3:=(F1.trans (Fw.of N2)).trans (Fw.set (p:=R.x) (o:=(.ins t.aU R.dx [("walk",.ref R.wk),("sleep",.ref p2),("arg",wv S.ar),("now",.int S.nw),("names",.ref R.nm),("tickets",.ref R.tk),("letters",.ref R.lt)])) (.inl (by simp [Rn.cells])));refine hR2 _ _ ?_;generalize upd (upd G1 p2 (.tup [.str "hear",.str k])) R.x (.ins t.aU R.dx [("walk",.ref R.wk),("sleep",.ref p2),("arg",wv S.ar),("now",.int S.nw),("names",.ref R.nm),("tickets",.ref R.tk),("letters",.ref R.lt)])=G3 at *;wp_walk;refine fun c hc=>?_;have N4:=Kp.new (S:=[]) (o:=.lst []) hc;exact q _ c [] _ (A3.kp N4) (F3.free hc) aA .nil (F3.trans (Fw.of N4))
   rcases L1.look k with ⟨hv,hn⟩ | ⟨l,ws,hv,hn,hl,ew⟩
   ·wp_walk using A1.ins,el1,e1',hv,Option.getD_none;exact slept p1 f1 (by rw [hn];rfl)
   ·wp_walk using A1.ins,el1,e1',hv,Option.getD_some;cases ws with
    | nil=>exact slept l ew (by rw [hn];rfl)
    | cons w r =>
     have hd:deed S (.hear x k)=({S with nm:=dH S.nm x w,lt:=eY S.lt k r},[]):=by simp only [deed,hn,Option.getD_some]
     rw [hd] at q;rw [List.map_cons] at ew;refine hR1 _ _ ?_;refine aF fun R2 hR2=>?_;obtain ⟨A2,hla⟩:=A1.lset el1 hv r;have F2:=F1.trans (Fw.set (p:=l) (o:=.lst (r.map wv)) (.inr hla));have e2:=A1.tkp (Fw.set (p:=l) (o:=.lst (r.map wv)) (.inr hla)) _ _ e1';wp_walk using ew,List.tail_cons,List.isEmpty_cons,Bool.not_false,A2.ins,e2,A2.nm,lK;have A3:=A2.name x w;have F3:=F2.trans (Fw.set (p:=R.nm) (o:=.dK (k7 (dH S.nm x w))) (.inl (by simp [Rn.cells])));refine ⟨by omega,hR2 _ _ ?_⟩;generalize upd (upd G1 l (.lst (r.map wv))) R.nm (.dK (k7 (dH S.nm x w)))=G3 at *;wp_walk;refine fun c hc=>?_;have N4:=Kp.new (S:=[]) (o:=.lst []) hc;exact q _ c [] _ (A3.kp N4) (F3.free hc) aA .nil (F3.trans (Fw.of N4))
theorem an5 {t:Ad} (T:Tx w K mg t):bK P w K mg base CX0 11 t.ac4 t.ahA ["run","statement"] (dL ⟨t.aU,t.aV,t.aJ⟩ true (fun m=>∃ s,m=.fin s)):=by
 refine T.aoW.ok aoY (fun vs H Q E h=>?_) (fun cdv A outer s H vs Q E hr h=>?_)
 ·obtain ⟨R,as,sl,S,a,m,N,rfl,_⟩:=h;rfl
 ·obtain ⟨R,as,sl,S,a,m,N,rfl,A,hsl,hs,⟨s,rfl⟩,F,g,hN,q⟩:=h;refine ⟨_,(aG (aO (bQ (pv 0) T.aW T.ae5 (abK T) (hr.mono (by omega)) T.aj9 .nil pass0 (aD (bQ (pv 0) T.aW T.dZ (dG T) (hr.mono (by omega)) T.eV .nil pass0 (aD (aX bN (pv 1) aE (fun _ _=>rfl)) aB)) aB)))),?_⟩
  try dsimp only [L2.start,aZ,bJ,List.cons_append,List.nil_append,List.replicate_succ,List.replicate_zero,List.length_cons,List.length_nil,Nat.reduceAdd,Nat.reduceSub,Nat.zero_add]
  cases hs with
  | @fin a v s e1 h1 =>
   wp_walk using A.ins,e1;refine ⟨R,as,sl,S,v,s,rfl,A,F.pl,h1,g,?_⟩;wp_walk;exact ⟨R,as,sl,S,_,rfl,A,q⟩
theorem agB {t:Ad} (T:Tx w K mg t):bK P w K mg base CX0 12 t.sH t.tE ["self","statement"] (ayF ⟨t.aU,t.aV,t.aJ⟩ true):=by
  refine T.akZ.ok nV (fun vs H Q E h=>?_) (fun cdv A outer s H vs Q E hr h=>?_)
  · obtain ⟨R,as,sl,S,a,m,N,rfl,_⟩:=h;rfl
  · obtain ⟨R,as,sl,S,a,m,N,rfl,A,hsl,hs,F,g,hst,hN,q⟩:=h;refine ⟨_,(aC (bC (i:=2) nV.nd rfl (Or.inl rfl) (aX bN (pv 1) aE (fun _ _=>rfl)))
      (aC (bP (PW.pt (anE (aS cJ (pv 2) aK (nomark _)) (agX (aS cJ (pv 2) aK (nomark _))))) (aC (bL (bQ (pv 0) T.aW T.akS (aiM T) (hr.mono (by omega)) T.apV .nil pass0 (aD (pv 1) aB)))
      (aG (aO (bE aB)))) bA)
      (aC (bC (i:=3) nV.nd rfl (Or.inl rfl) (arC (tab:=[("set",(dL ⟨t.aU,t.aV,t.aJ⟩ true (fun m=>∃ x s,m=.set x s))),("order",(dL ⟨t.aU,t.aV,t.aJ⟩ true (fun m=>∃ x y s,m=.order x y s\/m=.child x y s))),("timer",(dL ⟨t.aU,t.aV,t.aJ⟩ true (fun m=>∃ x s,m=.timer x s))),("child",(dL ⟨t.aU,t.aV,t.aJ⟩ true (fun m=>∃ x y s,m=.order x y s\/m=.child x y s))),("send",(dL ⟨t.aU,t.aV,t.aJ⟩ true (fun m=>∃ s k r,m=.send s k r))),("drop",(dL ⟨t.aU,t.aV,t.aJ⟩ true (fun m=>∃ s,m=.drop s))),("wait",(dL ⟨t.aU,t.aV,t.aJ⟩ true (fun m=>∃ x ss,m=.wait x ss))),("hear",(dL ⟨t.aU,t.aV,t.aJ⟩ true (fun m=>∃ x k,m=.hear x k))),("end",(dL ⟨t.aU,t.aV,t.aJ⟩ true (fun m=>∃ s,m=.fin s)))]) rfl T.awY T.as5 (pv 2) (fun _ _=>rfl) (fun y sp h=>deeds9 (Z:=fun y sp=>∃ f fd ps,PySem.W.nsIn K t.hE y=some (some (.ref f))/\bK P w K mg base CX0 11 f fd ps sp/\PySem.W.keepIn K (.ref f)=true/\Binds K fd ps []) h ⟨_,_,_,T.al4,(ao5 T).mono (by decide),T.anJ.kp,T.axQ⟩ ⟨_,_,_,T.af1,(xH T).mono (by decide),T.zQ.kp,T.afO⟩ ⟨_,_,_,T.aeR,(agY T).mono (by decide),T.af8.kp,T.anY⟩ ⟨_,_,_,T.agC,(xH T).mono (by decide),T.zQ.kp,T.afO⟩ ⟨_,_,_,T.ahI,(alZ T).mono (by decide),T.ajC.kp,T.arW⟩ ⟨_,_,_,T.ag9,(alD T).mono (by decide),T.ajG.kp,T.ar5⟩ ⟨_,_,_,T.aiB,(alQ T).mono (by decide),T.ai3.kp,T.arU⟩ ⟨_,_,_,T.ah6,(alP T).mono (by decide),T.akG.kp,T.aqV⟩ ⟨_,_,_,T.alY,(an5 T).mono (by decide),T.aoW.kp,T.av2⟩) (hr.mono (by omega)) (aD (pv 0) (aD (pv 1) aB))))
      (aC (bP (aS lP (aQ T.aW T.dE (pv 0)) eJ (nomark _)) (aG (bL (bX (aQ T.aW T.i7 (pv 0)) T.cX T.iM (gU T) (hr.mono (by omega)) T.j5 .nil pass0))) bA)
      (aG (aO (pv 3))))))),?_⟩
    try dsimp only [L2.start,aZ,bJ,List.cons_append,List.nil_append,List.replicate_succ,List.replicate_zero,List.length_cons,List.length_nil,Nat.reduceAdd,Nat.reduceSub,Nat.zero_add]
    have tail:m.isB=false->∀(kd sl':V) (c:Addr) (us:List V) (H':Hp),bB ⟨t.aU,t.aV,t.aJ⟩ H' R as sl' (deed S m).1->H c=none->H' c=some (.lst us)->eT H' us (deed S m).2->Fw R as as H H' ->
        ar1 (apO (afZ (tOp av5 (as8 t.aU "sleep" (jW 0)) (tC .non))) (apW (aeW t.aV "pass_by" (wY t.aV) [] E0 (as8 t.aU "walk" (jW 0)) agU)) amO) (awS (jW 3)) {nx:=fun _ H'=>Q .non H',rt:=Q} [some (.ref R.x),some a,some kd,some (.ref c)] H':=fun hB kd sl' c us H' A' hc ec hC FF=>by
      rw [axT hB] at q;refine aF fun R4 hR4=>?_;rcases A'.slp.isN with ⟨hn,rfl⟩ | ⟨hn,p,rfl⟩
      · simp only [hn,if_true] at q;obtain ⟨k0,b0,n0,r0,est,hm0⟩:=fI hst;wp_walk using A'.ins,A'.wk.ins;have W:=A'.wk;rw [yU,est] at W;refine ⟨R.wk,R.wx,R.lb,R.ln,k0,n0,b0,r0,rfl,W,fun H1 W1 K1=>?_⟩;have e:(k0,b0,n0+1)::r0=fV (deed S m).1.stk:=by rw [yU,est];rfl
        rw [e] at W1;have A2:=A'.walk W1 (K1.mono (by simp));have F2:=A'.fwalk W1 (K1.mono (by simp));wp_walk;refine hR4 _ _ ?_;wp_walk;have nc:=A.nofree hc;exact q .non c us H1 A2 hc (F2.kp _ _ ec nc.1 nc.2) (hC.kt (A'.tkp F2)) (FF.trans F2)
      · simp only [hn,if_false,Bool.false_eq_true] at q;wp_walk using A'.ins;refine hR4 _ _ ?_;wp_walk;exact q (.ref p) c us H' A' hc ec hC FF
    cases hs with
    | @set a0 x v s e1 h1 =>
      refine aF fun R1 hR1=>?_;wp_walk using e1;refine hR1 _ _ ?_;refine aF fun R2 hR2=>?_;wp_walk;refine hR2 _ _ ?_;refine aF fun R3 hR3=>?_;wp_walk using lH,gE,gD,gB,iU,iQ,iS,iO,l8;refine ⟨R,as,sl,S,_,_,N,rfl,A,hsl,.set e1 h1,⟨_,_,rfl⟩,F,g,hN,fun sl' c us H' A' hc ec hC FF=>?_⟩;wp_walk;exact hR3 _ _ (tail rfl _ sl' c us H' A' hc ec hC FF)
    | @order a0 x y v s e1 h1 =>
      refine aF fun R1 hR1=>?_;wp_walk using e1;refine hR1 _ _ ?_;refine aF fun R2 hR2=>?_;wp_walk;refine hR2 _ _ ?_;refine aF fun R3 hR3=>?_;wp_walk using lH,gE,gD,gB,iU,iQ,iS,iO,l8;refine ⟨R,as,sl,S,_,_,N,rfl,A,hsl,.order e1 h1,⟨_,_,_,.inl rfl⟩,F,g,hN,fun sl' c us H' A' hc ec hC FF=>?_⟩;wp_walk;exact hR3 _ _ (tail rfl _ sl' c us H' A' hc ec hC FF)
    | @timer a0 x v s e1 h1 =>
      refine aF fun R1 hR1=>?_;wp_walk using e1;refine hR1 _ _ ?_;refine aF fun R2 hR2=>?_;wp_walk;refine hR2 _ _ ?_;refine aF fun R3 hR3=>?_;wp_walk using lH,gE,gD,gB,iU,iQ,iS,iO,l8;refine ⟨R,as,sl,S,_,_,N,rfl,A,hsl,.timer e1 h1,⟨_,_,rfl⟩,F,g,hN,fun sl' c us H' A' hc ec hC FF=>?_⟩;wp_walk;exact hR3 _ _ (tail rfl _ sl' c us H' A' hc ec hC FF)
    | @child a0 x y v s e1 h1 =>
      refine aF fun R1 hR1=>?_;wp_walk using e1;refine hR1 _ _ ?_;refine aF fun R2 hR2=>?_;wp_walk;refine hR2 _ _ ?_;refine aF fun R3 hR3=>?_;wp_walk using lH,gE,gD,gB,iU,iQ,iS,iO,l8;refine ⟨R,as,sl,S,_,_,N,rfl,A,hsl,.child e1 h1,⟨_,_,_,.inr rfl⟩,F,g,hN,fun sl' c us H' A' hc ec hC FF=>?_⟩;wp_walk;exact hR3 _ _ (tail rfl _ sl' c us H' A' hc ec hC FF)
    | @send a0 k v u s r e1 h1 h2 =>
      refine aF fun R1 hR1=>?_;wp_walk using e1;refine hR1 _ _ ?_;refine aF fun R2 hR2=>?_;wp_walk;refine hR2 _ _ ?_;refine aF fun R3 hR3=>?_;wp_walk using lH,gE,gD,gB,iU,iQ,iS,iO,l8;refine ⟨R,as,sl,S,_,_,N,rfl,A,hsl,.send e1 h1 h2,⟨_,_,_,rfl⟩,F,g,hN,fun sl' c us H' A' hc ec hC FF=>?_⟩;wp_walk;exact hR3 _ _ (tail rfl _ sl' c us H' A' hc ec hC FF)
    | @drop a0 v s e1 h1 =>
      refine aF fun R1 hR1=>?_;wp_walk using e1;refine hR1 _ _ ?_;refine aF fun R2 hR2=>?_;wp_walk;refine hR2 _ _ ?_;refine aF fun R3 hR3=>?_;wp_walk using lH,gE,gD,gB,iU,iQ,iS,iO,l8;refine ⟨R,as,sl,S,_,_,N,rfl,A,hsl,.drop e1 h1,⟨_,rfl⟩,F,g,hN,fun sl' c us H' A' hc ec hC FF=>?_⟩;wp_walk;exact hR3 _ _ (tail rfl _ sl' c us H' A' hc ec hC FF)
    | @hear a0 x k e1 =>
      refine aF fun R1 hR1=>?_;wp_walk using e1;refine hR1 _ _ ?_;refine aF fun R2 hR2=>?_;wp_walk;refine hR2 _ _ ?_;refine aF fun R3 hR3=>?_;wp_walk using lH,gE,gD,gB,iU,iQ,iS,iO,l8;refine ⟨R,as,sl,S,_,_,N,rfl,A,hsl,.hear e1,⟨_,_,rfl⟩,F,g,hN,fun sl' c us H' A' hc ec hC FF=>?_⟩;wp_walk;exact hR3 _ _ (tail rfl _ sl' c us H' A' hc ec hC FF)
    | @fin a0 v s e1 h1 =>
      refine aF fun R1 hR1=>?_;wp_walk using e1;refine hR1 _ _ ?_;refine aF fun R2 hR2=>?_;wp_walk;refine hR2 _ _ ?_;refine aF fun R3 hR3=>?_;wp_walk using lH,gE,gD,gB,iU,iQ,iS,iO,l8;refine ⟨R,as,sl,S,_,_,N,rfl,A,hsl,.fin e1 h1,⟨_,rfl⟩,F,g,hN,fun sl' c us H' A' hc ec hC FF=>?_⟩;wp_walk;exact hR3 _ _ (tail rfl _ sl' c us H' A' hc ec hC FF)
    | @wait a0 p x vs ss e1 e2 h1 =>
      refine aF fun R1 hR1=>?_;wp_walk using e1;refine hR1 _ _ ?_;refine aF fun R2 hR2=>?_;wp_walk;refine hR2 _ _ ?_;refine aF fun R3 hR3=>?_;wp_walk using lH,gE,gD,gB,iU,iQ,iS,iO,l8;refine ⟨R,as,sl,S,_,_,N,rfl,A,hsl,.wait e1 e2 h1,⟨_,_,rfl⟩,F,g,hN,fun sl' c us H' A' hc ec hC FF=>?_⟩;wp_walk;exact hR3 _ _ (tail rfl _ sl' c us H' A' hc ec hC FF)
    | @whl a0 p v s vs b e1 h1 e2 h2 =>
      rw [auP rfl] at q;refine aF fun R1 hR1=>?_;wp_walk using e1;refine hR1 _ _ ?_;wp_walk using A.ins;refine ⟨R,as,sl,S,_,_,N,rfl,A,.whl e1 h1 e2 h2,rfl,F,g,hst,fun H1 A1 F1=>?_⟩;wp_walk;refine fun c hc=>?_;have N4:=Kp.new (S:=[]) (o:=.lst []) hc;exact q _ c [] _ (A1.kp N4) (F1.free hc) aA .nil (F1.trans (Fw.of N4))
    | @iff a0 p p2 v s vs us b o e1 h1 e2 h2 e3 h3 =>
      rw [auP rfl] at q;refine aF fun R1 hR1=>?_;wp_walk using e1;refine hR1 _ _ ?_;wp_walk using A.ins;refine ⟨R,as,sl,S,_,_,N,rfl,A,.iff e1 h1 e2 h2 e3 h3,rfl,F,g,hst,fun H1 A1 F1=>?_⟩;wp_walk;refine fun c hc=>?_;have N4:=Kp.new (S:=[]) (o:=.lst []) hc;exact q _ c [] _ (A1.kp N4) (F1.free hc) aA .nil (F1.trans (Fw.of N4))
theorem xN {t:Ad} (T:Tx w K mg t):bK P w K mg base CX0 13 t.zT t.zZ ["self"] (az1 ⟨t.aU,t.aV,t.aJ⟩ true):=by
  refine T.amQ.ok jP (fun vs H Q E h=>?_) (fun cdv A outer s H vs Q E hr h=>?_)
  · obtain ⟨R,as,sl,S,N,rfl,_⟩:=h;rfl
  · obtain ⟨R,as,sl,S,N,rfl,A,FN,hN,q⟩:=h;refine ⟨_,(aC (c6 T.aW T.dE (pv 0) eJ)
      (aC (bC (i:=1) jP.nd rfl (Or.inl rfl) (bE aB))
      (aC (bC (i:=2) jP.nd rfl (Or.inl rfl) aE)
      (aC (ae8 PassesOwn.never (aS lP (aQ T.aW T.dE (pv 0)) eJ (nomark _)) (aC (bC (i:=3) jP.nd rfl (Or.inl rfl) (bX (aQ T.aW T.i7 (pv 0)) T.cX T.ac6 (aa1 T) (hr.mono (by omega)) T.agD .nil pass0))
      (aG (bP (aS lP (pv 3) eJ (nomark _)) (aG (bL (pJ PySem.F.slot_list_extend PySem.F.type_list_extend iN (pv 1) (aD (bQ (pv 0) T.aW T.ae5 (abK T) (hr.mono (by omega)) T.aj9 .nil pass0 (aD eJ aB)) aB)))) (aG (bP (aS cJ (pv 2) (oG (v:=.int 300) rfl T.aeL ⟨_,rfl⟩) (nomark _)) (aG (bL (pJ PySem.F.slot_list_extend PySem.F.type_list_extend iN (pv 1) (aD (bX (pv 0) T.aW T.adC (aaU T) (hr.mono (by omega)) T.agE .nil pass0) aB)))) (aC (auS (i:=2) jP.nd rfl (Or.inl rfl) aE aj1)
      (aG (bL (pJ PySem.F.slot_list_extend PySem.F.type_list_extend iN (pv 1) (aD (bQ (pv 0) T.aW T.ahV (agB T) (hr.mono (by omega)) T.akV .nil pass0 (aD (pv 3) aB)) aB)))))))))))
      (aG (aO (pv 1))))))),?_⟩
    try dsimp only [L2.start,aZ,bJ,List.cons_append,List.nil_append,List.replicate_succ,List.replicate_zero,List.length_cons,List.length_nil,Nat.reduceAdd,Nat.reduceSub,Nat.zero_add]
    refine aF fun R1 hR1=>?_;wp_walk using A.ins;have A1:=A.attr .non .non S.ar S.nw rfl;have F1:=Fw.set (R:=R) (as:=as) (H:=H) (p:=R.x) (o:=(.ins t.aU R.dx [("walk",.ref R.wk),("sleep",.non),("arg",wv S.ar),("now",.int S.nw),("names",.ref R.nm),("tickets",.ref R.tk),("letters",.ref R.lt)])) (.inl (by simp [Rn.cells]));generalize upd H R.x (.ins t.aU R.dx [("walk",.ref R.wk),("sleep",.non),("arg",wv S.ar),("now",.int S.nw),("names",.ref R.nm),("tickets",.ref R.tk),("letters",.ref R.lt)])=G1 at *;refine hR1 _ _ ?_;clear hR1;clear R1;refine aF fun R2 hR2=>?_;wp_walk;refine fun c hc=>?_;have fc:H c=none:=F1.free hc;have nc:=A.nofree fc;have N2:=Kp.new (S:=[]) (o:=.lst []) hc;have ec:upd G1 c (.lst []) c=some (.lst []):=aA;replace A1:=A1.kp N2;replace F1:=F1.trans (Fw.of N2);generalize upd G1 c (.lst [])=G2 at *;refine hR2 _ _ ?_;clear hR2;clear R2;refine aF fun R3 hR3=>?_;wp_walk;refine hR3 _ _ ?_;clear hR3;clear R3;refine aF fun R4 hR4=>?_;obtain ⟨S0,hS0⟩:∃ S0:Pu,S0={S with sl:=.non}:=⟨_,rfl⟩;rw [<- hS0] at q FN;replace A1:bB ⟨t.aU,t.aV,t.aJ⟩ G2 R as .non S0:=by rw [hS0];exact A1
    have s0:S0.sl=.non:=by rw [hS0]
    clear hS0;obtain ⟨Y,hY⟩:∃ Y:Nat->St->Hp->Prop,∀ m σ G,Y m σ G = ∃(many:Nat) (u:Option V) (us:List V) (cs:Cmds) (S1:Pu) (sl1:V),σ=[some (.ref R.x),some (.ref c),some (.int many),u]/\G c=some (.lst us)/\Fw R as as H G/\eT G us cs/\bB ⟨t.aU,t.aV,t.aJ⟩ G R as sl1 S1 /\
        ((S1.sl=.non/\many<=300/\cs.length<=many/\m=301 - many/\Fit true S1 (N+many)/\gY 300 S0=((gY (300 - many) S1).1,cs++(gY (300 - many) S1).2))\/(S1.sl.isN=false/\gY 300 S0=(S1,cs))):=⟨_,fun _ _ _=>rfl⟩
    refine ⟨Y,⟨301,?_⟩,?_⟩
    · rw [hY];exact ⟨0,none,[],[],S0,.non,rfl,ec,F1,.nil,A1,.inl ⟨s0,by decide,Nat.zero_le _,rfl,FN,rfl⟩⟩
    intro m σ G hG;rw [hY] at hG;obtain ⟨many,u,us,cs,S1,sl1,rfl,eG,FG,hC,A2,hG⟩:=hG;rcases hG with ⟨hs1,hm,lC,rfl,F0,eq⟩ | ⟨hs1,eq⟩
    · have:sl1=.non:=by have:=A2.slp;rw [hs1] at this;exact this
      subst this;wp_walk using A2.ins;refine ⟨fun σ' G'=>∃ m',m' < 301 - many/\Y m' σ' G',fun _ _ z=>z,?_⟩;wp_walk using A2.wk.ins,A2.ins;refine ⟨R.wk,R.wx,R.lb,R.ln,S1.stk,rfl,A2.wk,F0.sk.ok,fun H1 W1 _ hst K1=>?_,fun m v H1 W1 _ hst hv K1=>?_⟩
      · have A3:bB ⟨t.aU,t.aV,t.aJ⟩ H1 R as .non S1.come:=A2.walk W1 K1;have F2:=A2.fwalk W1 K1;replace eG:=F2.kp _ _ eG nc.1 nc.2;rw [dA hst] at eq;wp_walk using A3.ins,eG;refine ⟨R,as,.non,S1.come,none,rfl,A3,fun sl3 c3 us3 H3 A4 hc3 ec3 hC3 F3=>?_⟩;have lc3:(S1.come.ends none).2.length<=1:=by simp [Pu.ends]
        have eG3:=F3.kp _ _ eG nc.1 nc.2;have l1:=hC.len;have l3:=hC3.len;wp_walk using eG3,ec3;refine ⟨by omega,?_⟩;have A5:=A4.other (vs:=us++us3) eG3 nc.1 nc.2;have F5:=((FG.trans F2).trans F3).fresh (o:=.lst (us++us3)) fc;have tk5:aP H3 (upd H3 c (.lst (us++us3))):=aP.setO eG3 (by intro _ z;cases z);have hC5:=((hC.kt (A2.tkp F2)).kt (A3.tkp F3)).app hC3 |>.kt tk5;refine ⟨0,by omega,?_⟩;rw [hY];exact ⟨many,some .non,_,_,_,sl3,rfl,aA,F5,hC5,A5,.inr ⟨rfl,by rw [eq]⟩⟩
      · have A3:bB ⟨t.aU,t.aV,t.aJ⟩ H1 R as .non S1.come:=A2.walk W1 K1;have F2:=A2.fwalk W1 K1;have FC:=F0.come hs1;replace eG:=F2.kp _ _ eG nc.1 nc.2;obtain ⟨a,rfl⟩:∃ a,v=.ref a:=by cases hv<;>exact ⟨_,rfl⟩
        wp_walk using reduceCtorEq,if_false;by_cases h3:many=300
        · subst h3;rw [if_pos (by decide)];rw [gP hst] at eq;wp_walk using A3.ins,eG;refine ⟨R,as,.non,S1.come,rfl,A3,fun sl3 c3 us3 H3 A4 hc3 ec3 hC3 F3=>?_⟩;have lc3:(S1.come.wears).2.length<=1:=by simp [Pu.wears]
          have eG3:=F3.kp _ _ eG nc.1 nc.2;have l1:=hC.len;have l3:=hC3.len;wp_walk using eG3,ec3;refine ⟨by omega,?_⟩;have A5:=A4.other (vs:=us++us3) eG3 nc.1 nc.2;have F5:=((FG.trans F2).trans F3).fresh (o:=.lst (us++us3)) fc;have tk5:aP H3 (upd H3 c (.lst (us++us3))):=aP.setO eG3 (by intro _ z;cases z);have hC5:=((hC.kt (A2.tkp F2)).kt (A3.tkp F3)).app hC3 |>.kt tk5;refine ⟨0,by omega,?_⟩;rw [hY];exact ⟨300,some (.ref a),_,_,_,sl3,rfl,aA,F5,hC5,A5,.inr ⟨rfl,by rw [eq]⟩⟩
        · rw [if_neg (by omega)];obtain ⟨n,hn⟩:∃ n,300 - many=n+1:=⟨299 - many,by omega⟩;rw [hn] at eq;refine ⟨_,rfl,?_⟩;wp_walk using A3.ins,eG;refine ⟨R,as,.non,S1.come,.ref a,m,N+many,rfl,A3,hs1,hv,FC,FC.stm hst,hst,by omega,fun sl3 c3 us3 H3 A4 hc3 ec3 hC3 F3=>?_⟩;have lc3:=arJ S1.come m;have eG3:=F3.kp _ _ eG nc.1 nc.2;have l1:=hC.len;have l3:=hC3.len;wp_walk using eG3,ec3;refine ⟨by omega,?_⟩;have A5:=A4.other (vs:=us++us3) eG3 nc.1 nc.2;have F5:=((FG.trans F2).trans F3).fresh (o:=.lst (us++us3)) fc;have tk5:aP H3 (upd H3 c (.lst (us++us3))):=aP.setO eG3 (by intro _ z;cases z);have hC5:=((hC.kt (A2.tkp F2)).kt (A3.tkp F3)).app hC3 |>.kt tk5;cases hz:(one S1.come m).1.sl.isN with
          | true =>
            rw [lR hst hz] at eq;refine ⟨301 - (many+1),by omega,?_⟩;rw [hY];exact ⟨many+1,some (.ref a),_,_,_,sl3,rfl,aA,F5,hC5,A5,.inl ⟨wN hz,by omega,by rw [List.length_append];omega,rfl,FC.one hst hs1 (by omega),by rw [eq,show 300 - (many+1)=n by omega,List.append_assoc]⟩⟩
          | false =>
            rw [gM hst hz] at eq;refine ⟨0,by omega,?_⟩;rw [hY];exact ⟨many+1,some (.ref a),_,_,_,sl3,rfl,aA,F5,hC5,A5,.inr ⟨hz,by rw [eq]⟩⟩
    · rcases A2.slp.isN with ⟨z,_⟩ | ⟨_,p,rfl⟩
      · rw [hs1] at z;cases z
      wp_walk using A2.ins,reduceCtorEq,if_false;refine hR4 _ _ ?_;wp_walk;rw [eq] at q;exact q _ c us G A2 fc eG hC FG
theorem y4 {t:Ad} (T:Tx w K mg t):bK P w K mg base CX0 14 t.aaN t.xZ ["self","worth"] (atL ⟨t.aU,t.aV,t.aJ⟩ true):=by
 refine T.apG.ok ag5 (fun vs H Q E h=>?_) (fun cdv A outer s H vs Q E hr h=>?_)
 ·obtain ⟨R,as,sl,S,w,N,rfl,_⟩:=h;rfl
 ·obtain ⟨R,as,sl,S,w,N,rfl,A,F,hN,hw,hsl,q⟩:=h;have hu:=nA hr;refine ⟨_,(aC (mD hu (aQ T.aW T.fG (pv 0)) (aX bN (bX (aQ T.aW T.i7 (pv 0)) T.cX T.fW (fF T) (hr.mono (by omega)) T.gW .nil pass0) aE (fun _ _=>rfl)) (pv 1))
   (aC (bL (bX (aQ T.aW T.i7 (pv 0)) T.cX T.iM (gU T) (hr.mono (by omega)) T.j5 .nil pass0))
   (aG (aO (bX (pv 0) T.aW T.acI (xN T) (hr.mono (by omega)) T.af6 .nil pass0))))),?_⟩
  try dsimp only [L2.start,aZ,bJ,List.cons_append,List.nil_append,List.replicate_succ,List.replicate_zero,List.length_cons,List.length_nil,Nat.reduceAdd,Nat.reduceSub,Nat.zero_add]
  have l1:(k7 S.nm).length<=N:=by rw [k7,List.length_map];exact F.nm
  rcases hsl with ⟨k,hk⟩ | ⟨ts,hk⟩
  ·obtain ⟨x,hst⟩:=F.sl.1 k hk;obtain ⟨k0,b0,n0,r0,est,hm0⟩:=fI hst;have nm1:∀ v,dJ H v (.hear x k)->∃ a xs,v=.ref a/\H a=some (.tup (.str "hear"::.str x::xs)):=fun v h=>by cases h with | hear e=>exact ⟨_,_,rfl,e⟩
   simp only [Pu.wake,hst] at q;refine aF fun R1 hR1=>?_;wp_walk using A.ins,A.wk.ins,A.nm;have W:=A.wk;rw [est] at W;refine ⟨R.wk,R.wx,R.lb,R.ln,k0,n0,b0,r0,_,rfl,W,hm0,fun v hv=>?_⟩;obtain ⟨a,xs,rfl,e1⟩:=nm1 v hv;wp_walk using e1,A.nm,lK;refine ⟨by omega,?_⟩;have A1:=A.name x w;have F1:=Fw.set (R:=R) (as:=as) (H:=H) (o:=.dK (k7 (dH S.nm x w))) (p:=R.nm) (.inl (by simp [Rn.cells]));generalize upd H R.nm (.dK (k7 (dH S.nm x w)))=G1 at *;refine hR1 _ _ ?_;clear hR1;clear R1;refine aF fun R2 hR2=>?_;wp_walk using A1.ins,A1.wk.ins;have W1:=A1.wk;rw [show ({S with nm:=dH S.nm x w}:Pu).stk=S.stk from rfl,est] at W1;refine ⟨R.wk,R.wx,R.lb,R.ln,k0,n0,b0,r0,rfl,W1,fun H2 W2 K2=>?_⟩;have e:(k0,b0,n0+1)::r0=fV S.stk:=by rw [est];rfl
   rw [e] at W2;have A2:=A1.walk W2 (K2.mono (by simp));have F2:=F1.trans (A1.fwalk W2 (K2.mono (by simp)));wp_walk;refine hR2 _ _ ?_;clear hR2;clear R2;wp_walk using A2.ins;exact ⟨R,as,sl,_,N+1,rfl,A2,F.wake hst hw x,by omega,fun sl3 c us H3 A3 hc ec hC F3=>q sl3 c us H3 A3 (F2.free hc) ec hC (F2.trans F3)⟩
  ·obtain ⟨x,ss,hst⟩:=F.sl.2 ts hk;obtain ⟨k0,b0,n0,r0,est,hm0⟩:=fI hst;have nm1:∀ v,dJ H v (.wait x ss)->∃ a xs,v=.ref a/\H a=some (.tup (.str "wait"::.str x::xs)):=fun v h=>by cases h with | wait e _ _=>exact ⟨_,_,rfl,e⟩
   simp only [Pu.wake,hst] at q;refine aF fun R1 hR1=>?_;wp_walk using A.ins,A.wk.ins,A.nm;have W:=A.wk;rw [est] at W;refine ⟨R.wk,R.wx,R.lb,R.ln,k0,n0,b0,r0,_,rfl,W,hm0,fun v hv=>?_⟩;obtain ⟨a,xs,rfl,e1⟩:=nm1 v hv;wp_walk using e1,A.nm,lK;refine ⟨by omega,?_⟩;have A1:=A.name x w;have F1:=Fw.set (R:=R) (as:=as) (H:=H) (o:=.dK (k7 (dH S.nm x w))) (p:=R.nm) (.inl (by simp [Rn.cells]));generalize upd H R.nm (.dK (k7 (dH S.nm x w)))=G1 at *;refine hR1 _ _ ?_;clear hR1;clear R1;refine aF fun R2 hR2=>?_;wp_walk using A1.ins,A1.wk.ins;have W1:=A1.wk;rw [show ({S with nm:=dH S.nm x w}:Pu).stk=S.stk from rfl,est] at W1;refine ⟨R.wk,R.wx,R.lb,R.ln,k0,n0,b0,r0,rfl,W1,fun H2 W2 K2=>?_⟩;have e:(k0,b0,n0+1)::r0=fV S.stk:=by rw [est];rfl
   rw [e] at W2;have A2:=A1.walk W2 (K2.mono (by simp));have F2:=F1.trans (A1.fwalk W2 (K2.mono (by simp)));wp_walk;refine hR2 _ _ ?_;clear hR2;clear R2;wp_walk using A2.ins;exact ⟨R,as,sl,_,N+1,rfl,A2,F.wake hst hw x,by omega,fun sl3 c us H3 A3 hc ec hC F3=>q sl3 c us H3 A3 (F2.free hc) ec hC (F2.trans F3)⟩
theorem uF {t:Ad} (T:Tx w K mg t):bK P w K mg base CX0 15 t.iZ t.jA ["self","key","worth"] (avM ⟨t.aU,t.aV,t.aJ⟩ true):=by
 refine T.aaB.ok sQ (fun vs H Q E h=>?_) (fun cdv A outer s H vs Q E hr h=>?_)
 ·obtain ⟨R,as,sl,S,k,w,N,rfl,_⟩:=h;rfl
 ·obtain ⟨R,as,sl,S,k,w,N,rfl,A,F,hN,hw,hsl,q⟩:=h;refine ⟨_,(aC (bP (aS (axH 2 (by decide) (am3 hr (by decide))) (aQ T.aW T.dE (pv 0)) (bD (aD aK (aD (pv 1) aB))) (nomark _)) (aG (aO (bQ (pv 0) T.aW T.abR (y4 T) (hr.mono (by omega)) T.afA .nil pass0 (aD (pv 2) aB)))) bA)
   (aC (bL (j4 (anM (aQ T.aW T.fQ (pv 0)) (pv 1) (bE aB) ⟨rfl,rfl,rfl,rfl⟩) (pv 2)))
   (aG (aO (bE aB))))),?_⟩
  try dsimp only [L2.start,aZ,bJ,List.cons_append,List.nil_append,List.replicate_succ,List.replicate_zero,List.length_cons,List.length_nil,Nat.reduceAdd,Nat.reduceSub,Nat.zero_add]
  have tl:=A.slp;rcases hsl with ⟨k',es⟩ | ⟨ts,es⟩
  ·rw [es] at tl;obtain ⟨p,rfl,ep⟩:=tl;refine aF fun R1 hR1=>?_;wp_walk using A.ins;refine fun p1 h1=>?_;have N1:=Kp.new (S:=[]) (o:=.tup [.str "hear",.str k]) h1;have f1:upd H p1 (.tup [.str "hear",.str k]) p1=some (.tup [.str "hear",.str k]):=aA;have A1:=A.kp N1;have hp1:=N1.at ep;have F1:=Fw.of (R:=R) (as:=as) N1;generalize upd H p1 (.tup [.str "hear",.str k])=G1 at *;refine .inl ⟨_,arM 1 hp1 f1,?_⟩;by_cases hk:k'=k
   ·subst hk;simp only [Pu.takeL,es,if_true] at q;wp_walk using decide_true,A1.ins;exact ⟨R,as,.ref p,S,w,N,rfl,A1,F,by omega,hw,.inl ⟨k',es⟩,fun sl3 c us H3 A3 hc ec hC F3=>q as sl3 c us H3 A3 (F1.free hc) (A.nofree (F1.free hc)).2 ec hC (F1.trans F3)⟩
   ·have hq:S.takeL k w=({S with lt:=gI S.lt k w},[]):=by simp only [Pu.takeL,es,if_neg hk]
    rw [hq] at q;wp_walk using decide_false,hk;refine hR1 _ _ ?_;clear hR1;clear R1;refine aF fun R2 hR2=>?_;obtain ⟨kvs,el,L⟩:=A1.lt;have ll:=L.len;have fl:=F.lt;wp_walk using A1.ins,el;refine fun p2 h2=>?_;have hp2:=F1.free h2;have N2:=Kp.new (S:=[]) (o:=.lst []) h2;have f2:upd G1 p2 (.lst []) p2=some (.lst []):=aA;have A2:=A1.kp N2;have el2:=N2.at el;have LL:=L.keep (fun a _ o h=>N2.at h);have F2:=F1.trans (Fw.of N2);have nc:=A1.nofree h2;generalize upd G1 p2 (.lst [])=G2 at *;wp_walk using el2;refine ⟨by omega,fun v hv=>?_,fun hv=>?_⟩
    ·rcases LL.look k with ⟨z,_⟩ | ⟨l,ws,z,hn,hla,hl⟩
     ·rw [z] at hv;cases hv
     rw [z] at hv;cases hv;have lw:=(F.lw k ws hn).1;obtain ⟨A3,_⟩:=A2.lset el2 z (ws++[w]);have F3:=F2.trans (Fw.set (p:=l) (o:=.lst ((ws++[w]).map wv)) (.inr hla));rw [show eY S.lt k (ws++[w])=gI S.lt k w by rw [gI,hn]] at A3;rw [List.map_append,List.map_cons,List.map_nil] at A3 F3;wp_walk using hl;refine ⟨by simp;omega,?_⟩;generalize upd G2 l (.lst (ws.map wv++[wv w]))=G3 at *;wp_walk;refine hR2 _ _ ?_;wp_walk;refine fun c hc=>?_;have N4:=Kp.new (S:=[]) (o:=.lst []) hc;exact q as _ c [] _ (A3.kp N4) (F3.free hc) (A3.nofree hc).2 aA .nil (F3.trans (Fw.of N4))
    ·rcases LL.look k with ⟨z,hn⟩ | ⟨l,ws,z,_⟩
     rotate_left
     ·rw [z] at hv;cases hv
     have A3:=A2.lnew (ws:=[]) el2 z f2 nc.1 nc.2;have F3:=F2.trans (Fw.set (p:=R.lt) (o:=.dK (eI kvs (.inr k) (.ref p2))) (.inl (by simp [Rn.cells])));have f3:upd G2 R.lt (.dK (eI kvs (.inr k) (.ref p2))) p2=some (.lst []):=jL el2 f2 (by intro z;cases z);have el3:upd G2 R.lt (.dK (eI kvs (.inr k) (.ref p2))) R.lt=some (.dK (eI kvs (.inr k) (.ref p2))):=aA;have z3:cI (eI kvs (.inr k) (.ref p2)) (.inr k)=some (.ref p2):=by rw [yL,if_pos rfl]
     generalize upd G2 R.lt (.dK (eI kvs (.inr k) (.ref p2)))=G3 at *;wp_walk using f3;obtain ⟨A4,_⟩:=A3.lset el3 z3 [w];have e4:eY (S.lt++[(k,([]:List Wo))]) k [w]=gI S.lt k w:=by rw [aeA hn,gI,hn]
     rw [show ({S with lt:=S.lt++[(k,([]:List Wo))]}:Pu).lt=S.lt++[(k,[])] from rfl,e4] at A4;have F4:Fw R as (as++[p2]) H (upd G3 p2 (.lst [wv w])):=by
      have z:=F3.fresh (o:=.lst [wv w]) hp2;exact ⟨z.kp,z.dom,fun a ha=>by
       rcases List.mem_append.mp ha with ha | ha
       ·exact .inl ha
       ·exact .inr (by rw [show a=p2 by simpa using ha];exact hp2)⟩
     replace A4:bB ⟨t.aU,t.aV,t.aJ⟩ (upd G3 p2 (.lst [wv w])) R (as++[p2]) (.ref p) {S with lt:=gI S.lt k w}:=A4;generalize upd G3 p2 (.lst [wv w])=G4 at *;refine hR2 _ _ ?_;wp_walk;refine fun c hc=>?_;have N4:=Kp.new (S:=[]) (o:=.lst []) hc;exact q (as++[p2]) _ c [] _ (A4.kp N4) (F4.free hc) (A4.nofree hc).2 aA .nil (F4.trans (Fw.of N4))
  ·rw [es] at tl;obtain ⟨p,pw,rfl,ep,epw⟩:=tl;refine aF fun R1 hR1=>?_;wp_walk using A.ins;refine fun p1 h1=>?_;have N1:=Kp.new (S:=[]) (o:=.tup [.str "hear",.str k]) h1;have f1:upd H p1 (.tup [.str "hear",.str k]) p1=some (.tup [.str "hear",.str k]):=aA;have A1:=A.kp N1;have hp1:=N1.at ep;have hpw:=N1.at epw;have F1:=Fw.of (R:=R) (as:=as) N1;generalize upd H p1 (.tup [.str "hear",.str k])=G1 at *;refine .inr ⟨Str.ofString "wait",Str.ofString "hear",k,pw,_,hp1,hpw,rfl,by decide,?_⟩;have hq:S.takeL k w=({S with lt:=gI S.lt k w},[]):=by simp only [Pu.takeL,es]
   rw [hq] at q;wp_walk;refine hR1 _ _ ?_;clear hR1;clear R1;refine aF fun R2 hR2=>?_;obtain ⟨kvs,el,L⟩:=A1.lt;have ll:=L.len;have fl:=F.lt;wp_walk using A1.ins,el;refine fun p2 h2=>?_;have hp2:=F1.free h2;have N2:=Kp.new (S:=[]) (o:=.lst []) h2;have f2:upd G1 p2 (.lst []) p2=some (.lst []):=aA;have A2:=A1.kp N2;have el2:=N2.at el;have LL:=L.keep (fun a _ o h=>N2.at h);have F2:=F1.trans (Fw.of N2);have nc:=A1.nofree h2;generalize upd G1 p2 (.lst [])=G2 at *;wp_walk using el2;refine ⟨by omega,fun v hv=>?_,fun hv=>?_⟩
   ·rcases LL.look k with ⟨z,_⟩ | ⟨l,ws,z,hn,hla,hl⟩
    ·rw [z] at hv;cases hv
    rw [z] at hv;cases hv;have lw:=(F.lw k ws hn).1;obtain ⟨A3,_⟩:=A2.lset el2 z (ws++[w]);have F3:=F2.trans (Fw.set (p:=l) (o:=.lst ((ws++[w]).map wv)) (.inr hla));rw [show eY S.lt k (ws++[w])=gI S.lt k w by rw [gI,hn]] at A3;rw [List.map_append,List.map_cons,List.map_nil] at A3 F3;wp_walk using hl;refine ⟨by simp;omega,?_⟩;generalize upd G2 l (.lst (ws.map wv++[wv w]))=G3 at *;wp_walk;refine hR2 _ _ ?_;wp_walk;refine fun c hc=>?_;have N4:=Kp.new (S:=[]) (o:=.lst []) hc;exact q as _ c [] _ (A3.kp N4) (F3.free hc) (A3.nofree hc).2 aA .nil (F3.trans (Fw.of N4))
   ·rcases LL.look k with ⟨z,hn⟩ | ⟨l,ws,z,_⟩
    rotate_left
    ·rw [z] at hv;cases hv
    have A3:=A2.lnew (ws:=[]) el2 z f2 nc.1 nc.2;have F3:=F2.trans (Fw.set (p:=R.lt) (o:=.dK (eI kvs (.inr k) (.ref p2))) (.inl (by simp [Rn.cells])));have f3:upd G2 R.lt (.dK (eI kvs (.inr k) (.ref p2))) p2=some (.lst []):=jL el2 f2 (by intro z;cases z);have el3:upd G2 R.lt (.dK (eI kvs (.inr k) (.ref p2))) R.lt=some (.dK (eI kvs (.inr k) (.ref p2))):=aA;have z3:cI (eI kvs (.inr k) (.ref p2)) (.inr k)=some (.ref p2):=by rw [yL,if_pos rfl]
    generalize upd G2 R.lt (.dK (eI kvs (.inr k) (.ref p2)))=G3 at *;wp_walk using f3;obtain ⟨A4,_⟩:=A3.lset el3 z3 [w];have e4:eY (S.lt++[(k,([]:List Wo))]) k [w]=gI S.lt k w:=by rw [aeA hn,gI,hn]
    rw [show ({S with lt:=S.lt++[(k,([]:List Wo))]}:Pu).lt=S.lt++[(k,[])] from rfl,e4] at A4;have F4:Fw R as (as++[p2]) H (upd G3 p2 (.lst [wv w])):=by
     have z:=F3.fresh (o:=.lst [wv w]) hp2;exact ⟨z.kp,z.dom,fun a ha=>by
      rcases List.mem_append.mp ha with ha | ha
      ·exact .inl ha
      ·exact .inr (by rw [show a=p2 by simpa using ha];exact hp2)⟩
    replace A4:bB ⟨t.aU,t.aV,t.aJ⟩ (upd G3 p2 (.lst [wv w])) R (as++[p2]) (.ref p) {S with lt:=gI S.lt k w}:=A4;generalize upd G3 p2 (.lst [wv w])=G4 at *;refine hR2 _ _ ?_;wp_walk;refine fun c hc=>?_;have N4:=Kp.new (S:=[]) (o:=.lst []) hc;exact q (as++[p2]) _ c [] _ (A4.kp N4) (F4.free hc) (A4.nofree hc).2 aA .nil (F4.trans (Fw.of N4))
theorem tU {t:Ad} (T:Tx w K mg t):bK P w K mg base CX0 2 t.jI t.jH ["self","ticket","worth"] (agT t.aJ):=by
 refine T.aaR.ok uG (fun vs H Q E h=>?_) (fun cdv A outer s H vs Q E hr h=>?_)
 ·obtain ⟨tk,tx,dp,da,made,pend,ans,i,w,rfl,_⟩:=h;rfl
 ·obtain ⟨tk,tx,dp,da,made,pend,ans,i,w,rfl,R,hi,hl,q⟩:=h;have hu:=nA hr;refine ⟨_,(aC (bL (bQ (pv 0) T.bI T.pH (n9 T) (hr.mono (by omega)) T.rR .nil pass0 (aD (pv 1) aB)))
   (aG (mD hu (aQ T.bI T.fN (pv 0)) (pv 1) (pv 2)))),?_⟩
  try dsimp only [L2.start,aZ,bJ,List.cons_append,List.nil_append,List.replicate_succ,List.replicate_zero,List.length_cons,List.length_nil,Nat.reduceAdd,Nat.reduceSub,Nat.zero_add]
  wp_walk using R.ins;refine ⟨tk,tx,dp,da,made,pend,ans,i,rfl,R,hi,fun H1 R1 K1=>?_⟩;wp_walk using R1.ins,R1.ha,yZ (wv w) (aoS fun p hp z=>R.dis p hp (z ▸ hi));have n1:=R.n1;refine ⟨by simp only [jT,List.length_map];omega,q _ ⟨by rw [aI n1.2];exact R1.ins,by rw [aI R.nda];exact R1.hp,by rw [aA];simp [jT],R.nda,R1.lt,R1.asc,fun p hp=>?_,fun p hp z=>?_,R.small⟩ ?_⟩
  ·rcases List.mem_append.mp hp with hp | hp
   ·exact R.la p hp
   ·rw [show p=(i,w) by simpa using hp];exact R.lt i hi
  ·rcases List.mem_append.mp hp with hp | hp
   ·exact R1.dis p hp z
   ·rw [show p=(i,w) by simpa using hp] at z;simpa using (List.mem_filter.mp z).2
  ·intro b o eb nb;simp only [List.mem_cons,List.not_mem_nil,or_false,not_or] at nb;rw [aI nb.2];exact K1.at1 eb nb.1
theorem yW {t:Ad} (T:Tx w K mg t):bK P w K mg base CX0 15 t.lW t.lZ ["self","ticket","worth"] (asA ⟨t.aU,t.aV,t.aJ⟩ true):=by
 refine T.adD.ok yS (fun vs H Q E h=>?_) (fun cdv A outer s H vs Q E hr h=>?_)
 ·obtain ⟨R,as,sl,S,i,w,N,rfl,_⟩:=h;rfl
 ·obtain ⟨R,as,sl,S,i,w,N,rfl,A,F,hN,hw,hi,hn,q⟩:=h;refine ⟨_,(aC (bL (bQ (aQ T.aW T.cT (pv 0)) T.bI T.vW (tU T) (hr.mono (by omega)) T.y8 .nil pass0 (aD (pv 1) (aD (pv 2) aB))))
   (aC (bP (PW.pt (ad3 (aS cJ (aX bN (aQ T.aW T.dE (pv 0)) aE (fun _ _=>rfl)) aK (nomark _)) (v7 (aS ahQ (pv 1) (aX bN (aQ T.aW T.dE (pv 0)) aE (fun _ _=>rfl)) (by with_unfolding_all rfl))))) (aG (aO (bQ (pv 0) T.aW T.abR (y4 T) (hr.mono (by omega)) T.afA .nil pass0 (aD (pv 1) aB)))) bA)
   (aG (aO (bE aB))))),?_⟩
  try dsimp only [L2.start,aZ,bJ,List.cons_append,List.nil_append,List.replicate_succ,List.replicate_zero,List.length_cons,List.length_nil,Nat.reduceAdd,Nat.reduceSub,Nat.zero_add]
  refine aF fun R1 hR1=>?_;wp_walk using A.ins,A.tk.ins;refine ⟨R.tk,R.tx,R.dp,R.da,_,_,_,i,w,rfl,A.tk,hi,by have:=F.an;omega,fun H1 T1 K1=>?_⟩;have K2:Kp [R.tk,R.dp,R.da] H H1:=K1.mono (by simp;try omega);have A1:bB ⟨t.aU,t.aV,t.aJ⟩ H1 R as sl (S.done i w):=A.tick T1 K2;have F1:=A.ftick T1 K2;have FD:=F.done (i:=i) hw;have wi:cV (some i):=fE (by have:=(A.tk.lt i hi).1;omega) (by have:=(A.tk.lt i hi).2;have:=F.md;omega);wp_walk;refine hR1 _ _ ?_;clear hR1;clear R1;refine aF fun R2 hR2=>?_;cases es:S.sl with
  | non=>rw [es] at hn;cases hn
  | wait ts =>
   have hsl:=A1.slp;rw [show (S.done i w).sl=S.sl from rfl,es] at hsl;obtain ⟨p,p2,rfl,ep,ep2⟩:=hsl;simp only [Pu.takeD,es] at q;wp_walk using A1.ins,ep,ep2,ar3,alW;refine ⟨rfl,?_⟩;by_cases ht:i∈ts
   ·rw [if_pos ht] at q;wp_walk using ht,decide_true,A1.ins;exact ⟨R,as,.ref p,_,some i,N+1,rfl,A1,FD,by omega,wi,.inr ⟨ts,es⟩,fun sl3 c us H3 A3 hc ec hC F3=>q sl3 c us H3 A3 (F1.free hc) ec hC (F1.trans F3)⟩
   ·rw [if_neg ht] at q;wp_walk using ht,decide_false;refine hR2 _ _ ?_;wp_walk;refine fun c hc=>?_;have N4:=Kp.new (S:=[]) (o:=.lst []) hc;exact q _ c [] _ (A1.kp N4) (F1.free hc) aA .nil (F1.trans (Fw.of N4))
  | new =>
   have hsl:=A1.slp;rw [show (S.done i w).sl=S.sl from rfl,es] at hsl;obtain ⟨p,rfl,ep⟩:=hsl;simp only [Pu.takeD,es] at q;wp_walk using A1.ins,ep;refine hR2 _ _ ?_;wp_walk;refine fun c hc=>?_;have N4:=Kp.new (S:=[]) (o:=.lst []) hc;exact q _ c [] _ (A1.kp N4) (F1.free hc) aA .nil (F1.trans (Fw.of N4))
  | hear k =>
   have hsl:=A1.slp;rw [show (S.done i w).sl=S.sl from rfl,es] at hsl;obtain ⟨p,rfl,ep⟩:=hsl;simp only [Pu.takeD,es] at q;wp_walk using A1.ins,ep;refine hR2 _ _ ?_;wp_walk;refine fun c hc=>?_;have N4:=Kp.new (S:=[]) (o:=.lst []) hc;exact q _ c [] _ (A1.kp N4) (F1.free hc) aA .nil (F1.trans (Fw.of N4))
  | ended u =>
   have hsl:=A1.slp;rw [show (S.done i w).sl=S.sl from rfl,es] at hsl;obtain ⟨p,rfl,ep⟩:=hsl;simp only [Pu.takeD,es] at q;wp_walk using A1.ins,ep;refine hR2 _ _ ?_;wp_walk;refine fun c hc=>?_;have N4:=Kp.new (S:=[]) (o:=.lst []) hc;exact q _ c [] _ (A1.kp N4) (F1.free hc) aA .nil (F1.trans (Fw.of N4))
  | worn =>
   have hsl:=A1.slp;rw [show (S.done i w).sl=S.sl from rfl,es] at hsl;obtain ⟨p,rfl,ep⟩:=hsl;simp only [Pu.takeD,es] at q;wp_walk using A1.ins,ep;refine hR2 _ _ ?_;wp_walk;refine fun c hc=>?_;have N4:=Kp.new (S:=[]) (o:=.lst []) hc;exact q _ c [] _ (A1.kp N4) (F1.free hc) aA .nil (F1.trans (Fw.of N4))
theorem yT {t:Ad} (T:Tx w K mg t):bK P w K mg base CX0 16 t.wU t.yX ["self","happening"] (arX ⟨t.aU,t.aV,t.aJ⟩ true):=by
 refine T.anZ.ok ahU (fun vs H Q E h=>?_) (fun cdv A outer s H vs Q E hr h=>?_)
 ·obtain ⟨R,as,sl,S,v,h,N,rfl,_⟩:=h;rfl
 ·obtain ⟨R,as,sl,S,v,h,N,rfl,A,F,hN,hn,hH,ok,q⟩:=h;refine ⟨_,(aC (bP (sK (bQ (pv 0) T.aW T.vR (uC T) (hr.mono (by omega)) T.xE .nil pass0 (aD (pv 1) aB))) (aG (aO (bE aB))) bA)
   (aC (c6 T.aW T.rC (pv 0) (dB (tF rfl) rfl T.anK ahX (aD (aQ T.aW T.rC (pv 0)) (aD (aX bN (pv 1) aE (fun _ _=>rfl)) aB))))
   (aC (bP (aS cJ (aX bN (pv 1) aE (fun _ _=>rfl)) aK (nomark _)) (aC (c6 T.aW T.abX (pv 0) (aX bN (pv 1) aE (fun _ _=>rfl)))
   (aG (aO (bX (pv 0) T.aW T.acI (xN T) (hr.mono (by omega)) T.af6 .nil pass0)))) bA)
   (aC (bP (aS cJ (aX bN (pv 1) aE (fun _ _=>rfl)) aK (nomark _)) (aG (aO (bQ (pv 0) T.aW T.aaY (yW T) (hr.mono (by omega)) T.acS .nil pass0 (aD (aX bN (pv 1) aE (fun _ _=>rfl)) (aD (aX bN (pv 1) aE (fun _ _=>rfl)) aB))))) bA)
   (aG (aO (bQ (pv 0) T.aW T.vV (uF T) (hr.mono (by omega)) T.wX .nil pass0 (aD (aX bN (pv 1) aE (fun _ _=>rfl)) (aD (aX bN (pv 1) aE (fun _ _=>rfl)) aB))))))))),?_⟩
  try dsimp only [L2.start,aZ,bJ,List.cons_append,List.nil_append,List.replicate_succ,List.replicate_zero,List.length_cons,List.length_nil,Nat.reduceAdd,Nat.reduceSub,Nat.zero_add]
  refine aF fun R1 hR1=>?_;wp_walk using A.ins;refine ⟨R,as,sl,S,v,h,rfl,A,hn,hH,fun H1 K1=>?_⟩;have A1:=A.kp K1;obtain ⟨a,rfl,eh⟩:=hH;have eh1:=K1.at eh;cases ho:S.over h with
  | true =>
   simp only [Pu.take,ho,if_true] at q;wp_walk;have F1:=Fw.of (R:=R) (as:=as) K1;refine fun c hc=>?_;have N4:=Kp.new (S:=[]) (o:=.lst []) hc;exact q as _ c [] _ (A1.kp N4) (F1.free hc) (A1.nofree hc).2 aA .nil (F1.trans (Fw.of N4))
  | false =>
   simp only [Pu.take,ho,if_false,Bool.false_eq_true] at q;wp_walk;refine hR1 _ _ ?_;clear hR1;clear R1;cases h with
   | beg m w =>
    simp only [Hap.vs,Hap.ini,Hap.w,List.cons_append,List.nil_append] at eh1;refine aF fun R2 hR2=>?_;wp_walk using A1.ins,eh1;have F1:=Fw.of (R:=R) (as:=as) K1;have A2:=A1.attr sl S.sl S.ar (later S.nw m) A1.slp;have F2s:=Fw.set (R:=R) (as:=as) (H:=H1) (p:=R.x) (o:=(.ins t.aU R.dx [("walk",.ref R.wk),("sleep",sl),("arg",wv S.ar),("now",.int (later S.nw m)),("names",.ref R.nm),("tickets",.ref R.tk),("letters",.ref R.lt)])) (.inl (by simp [Rn.cells]));have eh2:=A1.tkp F2s _ _ eh1;have F2:=F1.trans F2s;clear F2s;change R2 _ (upd H1 R.x (.ins t.aU R.dx [("walk",.ref R.wk),("sleep",sl),("arg",wv S.ar),("now",.int (later S.nw m)),("names",.ref R.nm),("tickets",.ref R.tk),("letters",.ref R.lt)]));generalize upd H1 R.x (.ins t.aU R.dx [("walk",.ref R.wk),("sleep",sl),("arg",wv S.ar),("now",.int (later S.nw m)),("names",.ref R.nm),("tickets",.ref R.tk),("letters",.ref R.lt)])=G2 at *;refine hR2 _ _ ?_;clear hR2;clear R2;wp_walk using A2.ins,eh2;have A3:=A2.attr sl S.sl w (later S.nw m) A2.slp;have F3:=F2.trans (Fw.set (p:=R.x) (o:=(.ins t.aU R.dx [("walk",.ref R.wk),("sleep",sl),("arg",wv w),("now",.int (later S.nw m)),("names",.ref R.nm),("tickets",.ref R.tk),("letters",.ref R.lt)])) (.inl (by simp [Rn.cells])));generalize upd G2 R.x (.ins t.aU R.dx [("walk",.ref R.wk),("sleep",sl),("arg",wv w),("now",.int (later S.nw m)),("names",.ref R.nm),("tickets",.ref R.tk),("letters",.ref R.lt)])=G3 at *;wp_walk using A3.ins;have FF:Fit true ({S with nw:=later S.nw m,ar:=w,sl:=.non}:Pu) N:={F with pl:=⟨F.pl.nm,ok.2,F.pl.an⟩,nw:=(F.at' ok.1).nw,sl:=⟨fun k e=>(by cases e),fun k e=>(by cases e)⟩};exact ⟨R,as,sl,_,N,rfl,A3,FF,by omega,fun sl3 c us H3 A4 hc ec hC F4=>q as sl3 c us H3 A4 (F3.free hc) (A.nofree (F3.free hc)).2 ec hC (F3.trans F4)⟩
   | don m i w =>
    simp only [Hap.vs,Hap.ini,Hap.w,List.cons_append,List.nil_append] at eh1;have hi:i∈S.pend:=by
     cases es:S.sl<;>simp only [Pu.over,es,Bool.not_eq_false',decide_eq_true_eq] at ho
     all_goals first | exact ho | cases ho
    refine aF fun R2 hR2=>?_;wp_walk using A1.ins,eh1;have F1:=Fw.of (R:=R) (as:=as) K1;have A2:=A1.attr sl S.sl S.ar (later S.nw m) A1.slp;have F2s:=Fw.set (R:=R) (as:=as) (H:=H1) (p:=R.x) (o:=(.ins t.aU R.dx [("walk",.ref R.wk),("sleep",sl),("arg",wv S.ar),("now",.int (later S.nw m)),("names",.ref R.nm),("tickets",.ref R.tk),("letters",.ref R.lt)])) (.inl (by simp [Rn.cells]));have eh2:=A1.tkp F2s _ _ eh1;have F2:=F1.trans F2s;clear F2s;change R2 _ (upd H1 R.x (.ins t.aU R.dx [("walk",.ref R.wk),("sleep",sl),("arg",wv S.ar),("now",.int (later S.nw m)),("names",.ref R.nm),("tickets",.ref R.tk),("letters",.ref R.lt)]));generalize upd H1 R.x (.ins t.aU R.dx [("walk",.ref R.wk),("sleep",sl),("arg",wv S.ar),("now",.int (later S.nw m)),("names",.ref R.nm),("tickets",.ref R.tk),("letters",.ref R.lt)])=G2 at *;refine hR2 _ _ ?_;clear hR2;clear R2;wp_walk using A2.ins,eh2;exact ⟨R,as,sl,S.at' m,i,w,N,rfl,A2,F.at' ok.1,by omega,ok.2,hi,hn,fun sl3 c us H3 A4 hc ec hC F4=>q as sl3 c us H3 A4 (F2.free hc) (A.nofree (F2.free hc)).2 ec hC (F2.trans F4)⟩
   | ltr m k w =>
    simp only [Hap.vs,Hap.ini,Hap.w,List.cons_append,List.nil_append] at eh1;have hs:(∃ k,S.sl=.hear k)\/∃ ts,S.sl=.wait ts:=by
     cases es:S.sl with
     | hear k=>exact .inl ⟨k,rfl⟩
     | wait ts=>exact .inr ⟨ts,rfl⟩
     | non=>rw [es] at hn;cases hn
     | _=>simp only [Pu.over,es] at ho;cases ho
    refine aF fun R2 hR2=>?_;wp_walk using A1.ins,eh1;have F1:=Fw.of (R:=R) (as:=as) K1;have A2:=A1.attr sl S.sl S.ar (later S.nw m) A1.slp;have F2s:=Fw.set (R:=R) (as:=as) (H:=H1) (p:=R.x) (o:=(.ins t.aU R.dx [("walk",.ref R.wk),("sleep",sl),("arg",wv S.ar),("now",.int (later S.nw m)),("names",.ref R.nm),("tickets",.ref R.tk),("letters",.ref R.lt)])) (.inl (by simp [Rn.cells]));have eh2:=A1.tkp F2s _ _ eh1;have F2:=F1.trans F2s;clear F2s;change R2 _ (upd H1 R.x (.ins t.aU R.dx [("walk",.ref R.wk),("sleep",sl),("arg",wv S.ar),("now",.int (later S.nw m)),("names",.ref R.nm),("tickets",.ref R.tk),("letters",.ref R.lt)]));generalize upd H1 R.x (.ins t.aU R.dx [("walk",.ref R.wk),("sleep",sl),("arg",wv S.ar),("now",.int (later S.nw m)),("names",.ref R.nm),("tickets",.ref R.tk),("letters",.ref R.lt)])=G2 at *;refine hR2 _ _ ?_;clear hR2;clear R2;wp_walk using A2.ins,eh2;exact ⟨R,as,sl,S.at' m,k,w,N,rfl,A2,F.at' ok.1,by omega,ok.2,hs,fun as' sl3 c us H3 A4 hc nc ec hC F4=>q as' sl3 c us H3 A4 (F2.free hc) nc ec hC (F2.trans F4)⟩
theorem avQ {t:Ad} (T:Tx w K mg t):bK P w K mg base CX0 30 t.awI t.auX ["script"] (ai9 K):=by
 refine T.aBY.ok aaP (fun vs H Q E h=>?_) (fun cdv A outer s H vs Q E hr h=>?_)
 ·obtain ⟨a,ns,rfl,_⟩:=h;rfl
 ·obtain ⟨a,ns,rfl,hS,h63,q⟩:=h;refine ⟨_,(aC (bC (i:=1) aaP.nd rfl (Or.inl rfl) (aN (aaZ T) (hr.mono (by omega)) rfl T.agH T.uY.kp T.ae3 .nil pass0 (aD (aN (ac3 T) (hr.mono (by omega)) rfl T.aiD T.xT.kp T.aiE .nil pass0 (aD (pv 0) (aD aE aB))) aB)))
   (aC (bC (i:=2) aaP.nd rfl (Or.inl rfl) (adX T.ajK (yM T) (hr.mono (by omega)) rfl T.ayR T.aeK .nil pass0 (aD (pv 1) aB)))
   (aC (bC (i:=3) aaP.nd rfl (Or.inl rfl) (adX T.ajK (yM T) (hr.mono (by omega)) rfl T.ayR T.aeK .nil pass0 (aD (pv 1) aB)))
   (aC (bP (aiL (sK (aN (uZ T) (hr.mono (by omega)) rfl T.ab6 T.uM.kp T.ab3 .nil pass0 (aD (pv 2) aB)))) (aG (aO ajA)) bA)
   (aC (zF PassesOwn.never rfl (iT (bH cN (bE (aD (bD (aD aK (aD aE (aD aE aB)))) aB)) (eM (cl:=[]) (fr:=[]) (N:=["cell"]) rfl (fun _ _ h=>h) (cO.nofree rfl rfl rfl rfl) (iT (zN ai2 (pv 0) (wC aE) (wC aE))) (fun C s H ex pn=>⟨eL,(aN (vQ T) (hr.mono (by omega)) rfl T.aa2 T.pL.kp T.aa7 .nil pass0 (aD (aN (acK T) (hr.mono (by omega)) rfl T.ajT T.adH.kp T.ajX .nil pass0 (aD (pv 0) aB)) aB))⟩)))) (c7 (i:=4) aaP.nd rfl (Or.inl rfl)) (aG (bP (PW.pt (anE (aS (auT 2 (am3 hr (by decide))) (bQ (pv 2) T.aW T.ab9 (yT T) (hr.mono (by omega)) T.af2 .nil pass0 (aD (pv 4) aB)) (bQ (pv 3) T.aW T.ab9 (yT T) (hr.mono (by omega)) T.af2 .nil pass0 (aD (pv 4) aB)) (nomark _)) (agX (aiL (sK (aN (uZ T) (hr.mono (by omega)) rfl T.ab6 T.uM.kp T.ab3 .nil pass0 (aD (pv 2) aB))))))) (aG (aO ajA)) bA)))
   (aG (aO (fY (axG 4 (am3 hr (by decide))) (bX (pv 2) T.aW T.lG (kB T) (hr.mono (by omega)) T.oP .nil pass0) (bX (pv 3) T.aW T.lG (kB T) (hr.mono (by omega)) T.oP .nil pass0) (nomark _))))))))),?_⟩
  try dsimp only [L2.start,aZ,bJ,List.cons_append,List.nil_append,List.replicate_succ,List.replicate_zero,List.length_cons,List.length_nil,Nat.reduceAdd,Nat.reduceSub,Nat.zero_add]
  refine aF fun R1 hR1=>?_;wp_walk;refine ⟨a,ns,0,rfl,hS,Int.le_refl _,fun z=>?_⟩;wp_walk;refine ⟨z,rfl,fun pg us b G1 ep hsP gb nb db lb K1=>?_⟩;have hS1:=K1.same.seq hS;have lu:=hsP.len;clear hS K1;wp_walk;refine hR1 _ _ ?_;clear hR1;clear R1;refine aF fun R2 hR2=>?_;wp_walk using ep;refine an8 ep hsP fun R1 sl1 G2 A1 K2 NR1=>?_;replace ep:=K2.at ep;replace hsP:=hsP.kp (aP.nil K2);replace hS1:=K2.same.seq hS1;clear NR1 K2;wp_walk;refine hR2 _ _ ?_;clear hR2;clear R2;refine aF fun R3 hR3=>?_;wp_walk using ep;refine an8 ep hsP fun R2 sl2 G3 A2 K3 NR2=>?_;replace hS1:=K3.same.seq hS1;have dis:∀ a,a∈R1.cells\/a∈([]:List Addr)->a∉R2.cells/\a∉([]:List Addr):=fun a ha=>⟨fun z=>by
   have y:=A1.nofree (NR2 a z);rcases ha with ha | ha
   ·exact y.1 ha
   ·(cases ha),by simp⟩
  replace A1:=A1.kp K3;have T:Two ⟨t.aU,t.aV,t.aJ⟩ G3 R1 R2 [] [] sl1 sl2 (pA b) (pA b) []:=⟨A1,A2,dis,by simp⟩;have fn:Fine (pA b) 0:=⟨asY gb (by omega),rfl,avJ nb,ax2⟩;have tx:=awL nb lb;clear NR2 K3 ep hsP dis A1 A2;wp_walk;refine hR3 _ _ ?_;clear hR3;clear R3;refine aF fun R4 hR4=>?_;wp_walk;refine ⟨R1,[],sl1,_,rfl,T.a1,Txo.of fn tx T.a1 (by omega),fun G4 K4=>?_⟩;replace T:=T.kp K4;replace hS1:=K4.same.seq hS1;clear K4;wp_walk;refine hR4 _ _ ?_;clear hR4;clear R4;refine aF fun R5 hR5=>?_;wp_walk;refine fun q1 m1 q2 m2=>?_;have N1:=(Kp.new (S:=[]) (o:=.tup [.str "begin",.int 3,.int 2]) m1).trans (Kp.new (o:=.lst [.ref q1]) m2);have e1:=(Kp.new (S:=[]) (o:=.lst [.ref q1]) m2).at (aA:upd G4 q1 (.tup [.str "begin",.int 3,.int 2]) q1=_);have e2:upd (upd G4 q1 (.tup [.str "begin",.int 3,.int 2])) q2 (.lst [.ref q1]) q2=some (.lst [.ref q1]):=aA;replace T:=T.kp N1;replace hS1:=N1.same.seq hS1;generalize upd (upd G4 q1 (.tup [.str "begin",.int 3,.int 2])) q2 (.lst [.ref q1])=G5 at *;clear N1 m1 m2;refine ⟨_,hS1,fun p1 h1=>?_⟩;obtain ⟨ms,em,lm⟩:=ap9 ns (some 1) (some 51);rw [em];have N1:=Kp.new (S:=[]) (o:=.lst (ms.map V.int)) h1;have ep1:upd G5 p1 (.lst (ms.map V.int)) p1=some (.lst (ms.map V.int)):=aA;replace T:=T.kp N1;replace e1:=N1.at e1;replace e2:=N1.at e2;generalize upd G5 p1 (.lst (ms.map V.int))=G6 at *;clear N1 h1 em;refine ⟨⟨_,eZ.of ep1⟩,?_⟩;obtain ⟨Pv,hPv⟩:∃ Pv:Nat->List V->Hp->Prop,∀ i xs G,Pv i xs G = ∃ hs:List Hap,eO G xs hs/\(∀ h∈hs,h.inK)/\hs.length<=i/\i<=63/\Kp [] G6 G:=⟨_,fun _ _ _=>rfl⟩;refine j9 (ys:=ms.map V.int) Pv ?_ ?_ ?_ ?_ ?_
  ·rw [hPv];exact ⟨[],.nil,by simp,by simp,by decide,Kp.refl⟩
  ·intro i xs G h;rw [hPv] at h;obtain ⟨hs,hH,_,hj,hj2,_⟩:=h;have:=hH.len;omega
  ·intro i xs G h;rw [hPv] at h;obtain ⟨_,_,_,_,_,k⟩:=h;exact eZ.of (k.at ep1)
  ·intro i y xs G hi ey h;rw [hPv] at h;obtain ⟨hs,hH,ok,hj1,hj2,k⟩:=h;obtain ⟨z,rfl⟩:=arV ey;rw [List.length_map] at hi;wp_walk using aY,Option.join_some;refine fun r H2 nr K2 J2=>⟨r,rfl,J2,fun v h H3 hA hm hw hk J3 K3=>?_⟩;have K23:Kp [] G H3:=fun b o e _=>K3.at1 (K2.at e) (aL e nr);show Pv (i+1) _ _;rw [hPv];exact ⟨hs++[h],(hH.kt (aP.nil K23)).snoc hA,fun g hg=>by
    rcases List.mem_append.mp hg with hg | hg
    ·exact ok g hg
    ·rw [show g=h by simpa using hg];exact ⟨⟨hm,hw⟩,hk⟩,by simp;omega,by omega,k.trans K23⟩
  intro xs G h x0 hx0;rw [hPv] at h;obtain ⟨hs,hH,ok,hj1,hj2,k⟩:=h;have KX:=Kp.new (S:=[]) (o:=.lst xs) hx0;have ex:upd G x0 (.lst xs) x0=some (.lst xs):=aA;replace hH:=hH.kt (aP.nil KX);replace k:=k.trans KX;replace T:=T.kp k;replace e1:=k.at e1;replace e2:=k.at e2;generalize upd G x0 (.lst xs)=G7 at *;rw [List.length_map] at hj1 hj2;have lx:=hH.len;clear hPv Pv ep1 KX k hx0;wp_walk using ex,e2;refine ⟨by omega,fun p7 n7=>?_⟩;have K7:=Kp.new (S:=[]) (o:=.lst (.ref q1::xs)) n7;have e7:upd G7 p7 (.lst (.ref q1::xs)) p7=some (.lst (.ref q1::xs)):=aA;replace T:=(T.kp K7).more (L':=[p7]) e7 (T.a1.nofree n7) (T.a2.nofree n7) (fun a ha=>.inl (by simpa using ha));have hg:eO (upd G7 p7 (.lst (.ref q1::xs))) (.ref q1::xs) (.beg 3 (some 2)::hs):=eO.kt (.cons ⟨q1,rfl,e1⟩ hH) (aP.nil K7);replace ok:∀ h∈Hap.beg 3 (some 2)::hs,h.inK:=fun h hh=>by
   rcases List.mem_cons.mp hh with rfl | hh
   ·exact ⟨⟨⟨by decide,by decide⟩,fE (by decide) (by decide)⟩,fun _ _ _ z=>by cases z⟩
   ·exact ok h hh
  have lg:(V.ref q1::xs).length<=64:=by rw [List.length_cons];omega
  generalize upd G7 p7 (.lst (.ref q1::xs))=G8 at *;generalize Hap.beg 3 (some 2)::hs=gs at *;generalize V.ref q1::xs=ys at *;clear e1 e2 ex hH hj1 hj2 lx K7 n7;refine ⟨⟨_,eZ.of e7⟩,?_⟩;obtain ⟨Pw,hPw⟩:∃ Pw:Nat->St->Hp->Prop,∀ i σ G',Pw i σ G' = ∃(u4:Option V) (as1 as2:List Addr) (sl1 sl2:V) (S:Pu) (N:Nat),σ=[some (.ref a),some (.ref pg),some (.ref R1.x),some (.ref R2.x),u4]/\Two ⟨t.aU,t.aV,t.aJ⟩ G' R1 R2 as1 as2 sl1 sl2 S S [p7]/\Fine S N/\c4 S/\N<=302 * i/\G' p7=some (.lst ys)/\eO G' ys gs:=⟨_,fun _ _ _=>rfl⟩;have fin:∀ σ G,Pw ys.length σ G->R5 σ G:=fun σ G h=>by
   rw [hPw] at h;clear T fn tx e7 hg;obtain ⟨u4,as1,as2,sl1,sl2,S,N,rfl,T,fn,tx,lN,e7,hg⟩:=h;obtain ⟨b0,b1,b2,b3,b4,b5⟩:=fn.args (by omega);refine hR5 _ _ ?_;clear hR5;clear R5;wp_walk using T.a1.ins;refine ⟨R1,_,_,_,rfl,T.a1,b0,b1,b2,b3,b4,b5,fun v1 Ga hv1 Ka=>?_⟩;replace T:=T.kp Ka;wp_walk using T.a2.ins;refine ⟨R2,_,_,_,rfl,T.a2,b0,b1,b2,b3,b4,b5,fun v2 Gb hv2 Kb=>?_⟩;obtain ⟨x1,rfl⟩:=amR b0 hv1;obtain ⟨x2,rfl⟩:=amR b0 hv2;replace hv1:=hv1.kt (aP.nil Kb);wp_walk;refine ⟨true,aAD (n:=0) b0 hv1 hv2,?_⟩;exact q _
  refine ap3 (xs:=ys) Pw ?_ ?_ ?_ fin
  ·rw [hPw];exact ⟨_,_,_,_,_,_,_,rfl,T,fn,tx,by omega,e7,hg⟩
  ·intro j σ G' _ h;rw [hPw] at h;obtain ⟨_,_,_,_,_,_,_,_,_,_,_,_,e,_⟩:=h;exact eZ.of e
  ·clear T fn tx e7 hg fin;intro j y σ G' hj h;rw [hPw] at h;obtain ⟨u4,as1,as2,sl1,sl2,S,N,rfl,T,fn,tx,lN,e7,hg⟩:=h;obtain ⟨z,ez,hz⟩:=hg.kC hj;have lj:j < ys.length:=(List.getElem?_eq_some_iff.mp hj).1;have zk:=ok z (List.mem_of_getElem? ez);have pw:=fn.pend T.a1 (by omega);have fn':=fn.take zk (by omega) pw;have tx':=tx.take fn.fit zk.1 (by omega);have oz:=apJ S z;wp_walk using T.a1.ins;refine ⟨R1,as1,_,S,y,z,N,rfl,T.a1,fn.fit,by omega,fn.isN,hz,zk.1,fun as' sl' c uc Ga Aa hc _ ec hC Fa=>?_⟩;have n1:=T.a2.nofree hc;have t1:=T.a1.tkp Fa;have T1:=T.step Fa Aa;replace e7:=T.keep Fa p7 (by simp) _ e7;replace hg:=hg.kt t1;replace hz:=apF hz t1;clear T hc;wp_walk using T1.a2.ins;refine ⟨R2,as2,_,S,y,z,N,rfl,T1.a2,fn.fit,by omega,fn.isN,hz,zk.1,fun as'' sl'' d ud Gb Ab _ _ ed hD Fb=>?_⟩;have t2:=T1.a2.tkp Fb;have T:=(T1.symm.step Fb Ab).symm;replace e7:=T1.symm.keep Fb p7 (by simp) _ e7;replace hg:=hg.kt t2;replace hC:=hC.kt t2;replace ec:=Fb.kp _ _ ec n1.1 n1.2;clear T1 hz t1 t2 Fa Fb Aa Ab n1;wp_walk;refine ⟨true,kP.rcL (axN (n:=0) hC hD oz.1) ec ed,?_⟩;wp_walk;refine ⟨R1,_,_,_,rfl,T.a1,Txo.of fn' tx' T.a1 (by omega),fun G9 K9=>?_⟩;wp_walk;rw [hPw];exact ⟨_,_,_,_,_,_,_,rfl,T.kp K9,fn',tx',by omega,K9.at e7,hg.kt (aP.nil K9)⟩
end
theorem b0 {P:List Value->Prop} (h:P []):∀ us:List Value,us.length=0->P us:=fun us e=>by rw [List.length_eq_zero_iff.mp e];exact h
theorem bS {P:List Value->Prop} {n:Nat} (h:∀ a,∀ us:List Value,us.length=n->P (a::us)):∀ us:List Value,us.length=n+1->P us
 | [],e=>by cases e
 | a::us,e=>h a us (Nat.succ.inj e)
theorem amZ {q:Program} {loose:List Str} {XP:(Str->Option Value)->Heap->Prop} {K:Params->PySem.W.Frag} {as:List Addr} {n t:Nat} {r:PySem.W.RowW} {d:DefRec} {kwd:List (Str×Expr)} {run:Value->List Value->Sem Value} (e:∀ P:Params,as=List.map (fun x=>x.fst) (K P)) (H:PySem.W.WalkO q loose XP (PySem.W.kHook K as e).says r d kwd run):PySem.W.WalkX q loose XP (PySem.W.X.obsZ as) (PySem.W.X.valZ K n t) r d kwd run:=fun w s₀ s₁ mg mb G y a o pm cd doc dV kV h1 h2 h3 h4 h5 h6 args vals bs L=>by
 obtain ⟨_,f,_,_⟩:=PySem.W.X.z_facts e y;exact H w s₀ s₁ mg mb G (show PySem.W.InK K w s₁.heap from fun p ob hp=>L.keeps _ _ (f p ob hp)) a o pm cd doc dV kV h1 h2 h3 h4 h5 h6 args vals bs
theorem avF {l:PySem.W.OpenLaw} {w:World} {K:PySem.W.Frag} {h:Heap} {mg:Str->Option Value} {fa:Addr} (X:K.In h) (G:h.Ns mainGlobals mg) (hfa:mg "law"=some (.ref fa))
    {f0 f1 f2 f3 f4 f5 f6 f7 f8 f9 f10 f11 f12 f13 f14 f15 f16 f17 f18 f19 f20 f21 f22 f23 f24 f25 f26 f27 f28 f29 f30 f31 f32 f33 f34 f35 f36 f37 f38 f39 f40 f41 f42 f43 f44 f45 f46 f47 f48 f49 f50 f51 f52 f53 f54 f55 f56 f57 f58 f59 f60 f61 f62:Addr} {d0 d1 d2 d3 d4 d5 d6 d7 d8 d9 d10 d11 d12 d13 d14 d15 d16 d17 d18 d19 d20 d21 d22 d23 d24 d25 d26 d27 d28 d29 d30 d31 d32 d33 d34 d35 d36 d37 d38 d39 d40 d41 d42 d43 d44 d45 d46 d47 d48 d49 d50 d51 d52 d53 d54 d55 d56 d57 d58 d59 d60 d61 d62:FuncData}
    {aJ:Addr}
    {aV:Addr}
    {aU:Addr}
    {tk0:Tok}
    {tk1:Tok}
    {tk2:Tok}
    {tp3:Addr} {te3:Array DictEntry} {tn3:Nat}
    {tp4:Addr} {td4:Option Addr} {tn4:Nat} {ts4:Array (Option Value)} {tw4_0 tw4_1 tw4_2:Tok}
    (aCTickets:PySem.W.nsIn K mainGlobals "Tickets"=some (some (.ref aJ))) (pgTickets:PySem.W.plainGet K aJ Str.empty=true) (hdTickets:PySem.W.hasDictIn K aJ=true) (poTickets:PySem.W.plainOver K aJ=true) (saTickets:PySem.W.findIn K (.ref aJ) "__setattr__"=some (some (.builtin "object.__setattr__"))) (sF:PySem.W.makesIn K aJ=true) (kcTickets:PySem.W.keepIn K (.ref aJ)=true)
    (aCWalk:PySem.W.nsIn K mainGlobals "Walk"=some (some (.ref aV))) (pgWalk:PySem.W.plainGet K aV Str.empty=true) (hdWalk:PySem.W.hasDictIn K aV=true) (poWalk:PySem.W.plainOver K aV=true) (saWalk:PySem.W.findIn K (.ref aV) "__setattr__"=some (some (.builtin "object.__setattr__"))) (aiT:PySem.W.makesIn K aV=true) (kcWalk:PySem.W.keepIn K (.ref aV)=true)
    (aCRun:PySem.W.nsIn K mainGlobals "Run"=some (some (.ref aU))) (pgRun:PySem.W.plainGet K aU Str.empty=true) (hdRun:PySem.W.hasDictIn K aU=true) (poRun:PySem.W.plainOver K aU=true) (saRun:PySem.W.findIn K (.ref aU) "__setattr__"=some (some (.builtin "object.__setattr__"))) (ajK:PySem.W.makesIn K aU=true) (kcRun:PySem.W.keepIn K (.ref aU)=true)
    (a0:PySem.W.nsIn K mainGlobals "kept"=some (some (.ref f0)))
    (F0:Fun K "kept" "kept" aiS f0 d0)
    (a1:PySem.W.nsIn K mainGlobals "show_rows"=some (some (.ref f1)))
    (F1:Fun K "show_rows" "show_rows" qH f1 d1)
    (a2:PySem.W.nsIn K mainGlobals "show_row"=some (some (.ref f2)))
    (F2:Fun K "show_row" "show_row" uX f2 d2)
    (a3:PySem.W.nsIn K mainGlobals "show_word"=some (some (.ref f3)))
    (F3:Fun K "show_word" "show_word" p8 f3 d3)
    (a4:PySem.W.nsIn K mainGlobals "worth_of"=some (some (.ref f4)))
    (F4:Fun K "worth_of" "worth_of" sU f4 d4)
    (a5:PySem.W.nsIn K mainGlobals "joined"=some (some (.ref f5)))
    (F5:Fun K "joined" "joined" yH f5 d5)
    (a6:PySem.W.nsIn K mainGlobals "number_of"=some (some (.ref f6)))
    (F6:Fun K "number_of" "number_of" pZ f6 d6)
    (a7:PySem.W.nsIn K mainGlobals "one_or_nought"=some (some (.ref f7)))
    (F7:Fun K "one_or_nought" "one_or_nought" kM f7 d7)
    (a8:PySem.W.findIn K (.ref aJ) "__init__"=some (some (.ref f8))) (i8:PySem.W.isFn K (.ref f8)=true)
    (F8:Fun K "__init__" "Tickets.__init__" kO f8 d8)
    (a9:PySem.W.findIn K (.ref aJ) "make"=some (some (.ref f9))) (i9:PySem.W.isFn K (.ref f9)=true)
    (F9:Fun K "make" "Tickets.make" kE f9 d9)
    (a10:PySem.W.findIn K (.ref aJ) "is_open"=some (some (.ref f10))) (i10:PySem.W.isFn K (.ref f10)=true)
    (F10:Fun K "is_open" "Tickets.is_open" h8 f10 d10)
    (a11:PySem.W.findIn K (.ref aJ) "those_open"=some (some (.ref f11))) (i11:PySem.W.isFn K (.ref f11)=true)
    (F11:Fun K "those_open" "Tickets.those_open" fM f11 d11)
    (a12:PySem.W.findIn K (.ref aJ) "finish"=some (some (.ref f12))) (i12:PySem.W.isFn K (.ref f12)=true)
    (F12:Fun K "finish" "Tickets.finish" iA f12 d12)
    (a13:PySem.W.findIn K (.ref aJ) "shut"=some (some (.ref f13))) (i13:PySem.W.isFn K (.ref f13)=true)
    (F13:Fun K "shut" "Tickets.shut" kG f13 d13)
    (a14:PySem.W.findIn K (.ref aJ) "shut_all"=some (some (.ref f14))) (i14:PySem.W.isFn K (.ref f14)=true)
    (F14:Fun K "shut_all" "Tickets.shut_all" gO f14 d14)
    (a15:PySem.W.findIn K (.ref aJ) "first_done"=some (some (.ref f15))) (i15:PySem.W.isFn K (.ref f15)=true)
    (F15:Fun K "first_done" "Tickets.first_done" fK f15 d15)
    (a16:PySem.W.findIn K (.ref aV) "__init__"=some (some (.ref f16))) (i16:PySem.W.isFn K (.ref f16)=true)
    (F16:Fun K "__init__" "Walk.__init__" pR f16 d16)
    (a17:PySem.W.findIn K (.ref aV) "come_to"=some (some (.ref f17))) (i17:PySem.W.isFn K (.ref f17)=true)
    (F17:Fun K "come_to" "Walk.come_to" lU f17 d17)
    (a18:PySem.W.findIn K (.ref aV) "stands_at"=some (some (.ref f18))) (i18:PySem.W.isFn K (.ref f18)=true)
    (F18:Fun K "stands_at" "Walk.stands_at" jK f18 d18)
    (a19:PySem.W.findIn K (.ref aV) "pass_by"=some (some (.ref f19))) (i19:PySem.W.isFn K (.ref f19)=true)
    (F19:Fun K "pass_by" "Walk.pass_by" lY f19 d19)
    (a20:PySem.W.findIn K (.ref aV) "enter"=some (some (.ref f20))) (i20:PySem.W.isFn K (.ref f20)=true)
    (F20:Fun K "enter" "Walk.enter" nG f20 d20)
    (a21:PySem.W.findIn K (.ref aV) "leave"=some (some (.ref f21))) (i21:PySem.W.isFn K (.ref f21)=true)
    (F21:Fun K "leave" "Walk.leave" nR f21 d21)
    (a22:PySem.W.findIn K (.ref aV) "place"=some (some (.ref f22))) (i22:PySem.W.isFn K (.ref f22)=true)
    (F22:Fun K "place" "Walk.place" nC f22 d22)
    (a23:PySem.W.nsIn K mainGlobals "do_set"=some (some (.ref f23)))
    (F23:Fun K "do_set" "do_set" acY f23 d23)
    (a24:PySem.W.nsIn K mainGlobals "do_order"=some (some (.ref f24)))
    (F24:Fun K "do_order" "do_order" sI f24 d24)
    (a25:PySem.W.nsIn K mainGlobals "do_timer"=some (some (.ref f25)))
    (F25:Fun K "do_timer" "do_timer" sN f25 d25)
    (a26:PySem.W.nsIn K mainGlobals "do_send"=some (some (.ref f26)))
    (F26:Fun K "do_send" "do_send" zA f26 d26)
    (a27:PySem.W.nsIn K mainGlobals "do_drop"=some (some (.ref f27)))
    (F27:Fun K "do_drop" "do_drop" zI f27 d27)
    (a28:PySem.W.nsIn K mainGlobals "do_wait"=some (some (.ref f28)))
    (F28:Fun K "do_wait" "do_wait" aaS f28 d28)
    (a29:PySem.W.nsIn K mainGlobals "do_hear"=some (some (.ref f29)))
    (F29:Fun K "do_hear" "do_hear" wT f29 d29)
    (a30:PySem.W.nsIn K mainGlobals "do_end"=some (some (.ref f30)))
    (F30:Fun K "do_end" "do_end" ac8 f30 d30)
    (a31:PySem.W.findIn K (.ref aU) "__init__"=some (some (.ref f31))) (i31:PySem.W.isFn K (.ref f31)=true)
    (F31:Fun K "__init__" "Run.__init__" tK f31 d31)
    (a32:PySem.W.findIn K (.ref aU) "open_tickets"=some (some (.ref f32))) (i32:PySem.W.isFn K (.ref f32)=true)
    (F32:Fun K "open_tickets" "Run.open_tickets" gQ f32 d32)
    (a33:PySem.W.findIn K (.ref aU) "state"=some (some (.ref f33))) (i33:PySem.W.isFn K (.ref f33)=true)
    (F33:Fun K "state" "Run.state" pN f33 d33)
    (a34:PySem.W.findIn K (.ref aU) "take"=some (some (.ref f34))) (i34:PySem.W.isFn K (.ref f34)=true)
    (F34:Fun K "take" "Run.take" sZ f34 d34)
    (a35:PySem.W.findIn K (.ref aU) "passes_over"=some (some (.ref f35))) (i35:PySem.W.isFn K (.ref f35)=true)
    (F35:Fun K "passes_over" "Run.passes_over" iH f35 d35)
    (a36:PySem.W.findIn K (.ref aU) "take_done"=some (some (.ref f36))) (i36:PySem.W.isFn K (.ref f36)=true)
    (F36:Fun K "take_done" "Run.take_done" kN f36 d36)
    (a37:PySem.W.findIn K (.ref aU) "take_letter"=some (some (.ref f37))) (i37:PySem.W.isFn K (.ref f37)=true)
    (F37:Fun K "take_letter" "Run.take_letter" hZ f37 d37)
    (a38:PySem.W.findIn K (.ref aU) "wake"=some (some (.ref f38))) (i38:PySem.W.isFn K (.ref f38)=true)
    (F38:Fun K "wake" "Run.wake" sP f38 d38)
    (a39:PySem.W.findIn K (.ref aU) "go_on"=some (some (.ref f39))) (i39:PySem.W.isFn K (.ref f39)=true)
    (F39:Fun K "go_on" "Run.go_on" tL f39 d39)
    (a40:PySem.W.findIn K (.ref aU) "do_one"=some (some (.ref f40))) (i40:PySem.W.isFn K (.ref f40)=true)
    (F40:Fun K "do_one" "Run.do_one" qA f40 d40)
    (a41:PySem.W.findIn K (.ref aU) "look"=some (some (.ref f41))) (i41:PySem.W.isFn K (.ref f41)=true)
    (F41:Fun K "look" "Run.look" tO f41 d41)
    (a42:PySem.W.findIn K (.ref aU) "end"=some (some (.ref f42))) (i42:PySem.W.isFn K (.ref f42)=true)
    (F42:Fun K "end" "Run.end" xS f42 d42)
    (a43:PySem.W.findIn K (.ref aU) "wear_out"=some (some (.ref f43))) (i43:PySem.W.isFn K (.ref f43)=true)
    (F43:Fun K "wear_out" "Run.wear_out" mC f43 d43)
    (a44:PySem.W.findIn K (.ref aU) "worth"=some (some (.ref f44))) (i44:PySem.W.isFn K (.ref f44)=true)
    (F44:Fun K "worth" "Run.worth" qR f44 d44)
    (a45:PySem.W.findIn K (.ref aU) "new_ticket"=some (some (.ref f45))) (i45:PySem.W.isFn K (.ref f45)=true)
    (F45:Fun K "new_ticket" "Run.new_ticket" jM f45 d45)
    (a46:PySem.W.nsIn K mainGlobals "keep_run"=some (some (.ref f46)))
    (F46:Fun K "keep_run" "keep_run" tJ f46 d46)
    (a47:PySem.W.nsIn K mainGlobals "state_rows"=some (some (.ref f47)))
    (F47:Fun K "state_rows" "state_rows" nU f47 d47)
    (a48:PySem.W.nsIn K mainGlobals "_law_cell_at"=some (some (.ref f48)))
    (F48:Fun K "_law_cell_at" "_law_cell_at" nE f48 d48)
    (a49:PySem.W.nsIn K mainGlobals "_law_jar"=some (some (.ref f49)))
    (F49:Fun K "_law_jar" "_law_jar" yP f49 d49)
    (a50:PySem.W.nsIn K mainGlobals "_law_take"=some (some (.ref f50)))
    (F50:Fun K "_law_take" "_law_take" uK f50 d50)
    (a51:PySem.W.nsIn K mainGlobals "_law_worth"=some (some (.ref f51)))
    (F51:Fun K "_law_worth" "_law_worth" qT f51 d51)
    (a52:PySem.W.nsIn K mainGlobals "_law_moment"=some (some (.ref f52)))
    (F52:Fun K "_law_moment" "_law_moment" m9 f52 d52)
    (a53:PySem.W.nsIn K mainGlobals "_law_happening"=some (some (.ref f53)))
    (F53:Fun K "_law_happening" "_law_happening" jR f53 d53)
    (a54:PySem.W.nsIn K mainGlobals "_law_saying"=some (some (.ref f54)))
    (F54:Fun K "_law_saying" "_law_saying" mU f54 d54)
    (a55:PySem.W.nsIn K mainGlobals "_law_waiting"=some (some (.ref f55)))
    (F55:Fun K "_law_waiting" "_law_waiting" l7 f55 d55)
    (a56:PySem.W.nsIn K mainGlobals "_law_statement"=some (some (.ref f56)))
    (F56:Fun K "_law_statement" "_law_statement" iX f56 d56)
    (a57:PySem.W.nsIn K mainGlobals "_law_block"=some (some (.ref f57)))
    (F57:Fun K "_law_block" "_law_block" qF f57 d57)
    (a58:PySem.W.nsIn K mainGlobals "_law_program"=some (some (.ref f58)))
    (F58:Fun K "_law_program" "_law_program" lO f58 d58)
    (a59:PySem.W.nsIn K mainGlobals "_law_number_word"=some (some (.ref f59)))
    (F59:Fun K "_law_number_word" "_law_number_word" hX f59 d59)
    (a60:PySem.W.nsIn K mainGlobals "_law_text"=some (some (.ref f60)))
    (F60:Fun K "_law_text" "_law_text" tS f60 d60)
    (a61:PySem.W.nsIn K mainGlobals "_law_right"=some (some (.ref f61)))
    (F61:Fun K "_law_right" "_law_right" qO f61 d61)
    (a62:PySem.W.nsIn K mainGlobals "law"=some (some (.ref f62)))
    (F62:Fun K "law" "law" aoP f62 d62)
    (uR:PySem.W.findIn K (.ref aJ) "made"=some none)
    (fO:PySem.W.findIn K (.ref aJ) "pending"=some none)
    (fN:PySem.W.findIn K (.ref aJ) "answers"=some none)
    (gX:PySem.W.findIn K (.ref aV) "blocks"=some none)
    (eF:PySem.W.findIn K (.ref aV) "numbers"=some none)
    (i7:PySem.W.findIn K (.ref aU) "walk"=some none)
    (dE:PySem.W.findIn K (.ref aU) "sleep"=some none)
    (abX:PySem.W.findIn K (.ref aU) "arg"=some none)
    (rC:PySem.W.findIn K (.ref aU) "now"=some none)
    (fG:PySem.W.findIn K (.ref aU) "names"=some none)
    (cT:PySem.W.findIn K (.ref aU) "tickets"=some none)
    (fQ:PySem.W.findIn K (.ref aU) "letters"=some none)
    (v0:PySem.W.nsIn K mainGlobals "GREATEST_WORTH"=some (some (.int 1000000000 tk0)))
    (v1:PySem.W.nsIn K mainGlobals "GREATEST_MOMENT"=some (some (.int 1000000000000 tk1)))
    (v2:PySem.W.nsIn K mainGlobals "MOST_AT_ONCE"=some (some (.int 300 tk2)))
    (v3:PySem.W.nsIn K mainGlobals "DEEDS"=some (some (.ref tp3))) (u3:K.lookup tp3=some {cls:=.type "dict",data:=.dict te3 tn3})
    (x3_0:PySem.W.nsIn K tp3 "set"=some (some (.ref f23)))
    (x3_1:PySem.W.nsIn K tp3 "order"=some (some (.ref f24)))
    (x3_2:PySem.W.nsIn K tp3 "timer"=some (some (.ref f25)))
    (x3_3:PySem.W.nsIn K tp3 "child"=some (some (.ref f24)))
    (x3_4:PySem.W.nsIn K tp3 "send"=some (some (.ref f26)))
    (x3_5:PySem.W.nsIn K tp3 "drop"=some (some (.ref f27)))
    (x3_6:PySem.W.nsIn K tp3 "wait"=some (some (.ref f28)))
    (x3_7:PySem.W.nsIn K tp3 "hear"=some (some (.ref f29)))
    (x3_8:PySem.W.nsIn K tp3 "end"=some (some (.ref f30)))
    (v4:PySem.W.nsIn K mainGlobals "SHORT_STATES"=some (some (.ref tp4))) (u4:K.lookup tp4=some ⟨.type "tuple",td4,.seq #[.str "new" tw4_0,.str "ended" tw4_1,.str "worn" tw4_2] tn4,ts4⟩)
    (atG:PySem.W.nsIn K mainGlobals "int"=some none)
    (oC:PySem.W.nsIn K mainGlobals "isinstance"=some none)
    (ahP:PySem.W.nsIn K mainGlobals "len"=some none)
    (akH:PySem.W.nsIn K mainGlobals "list"=some none)
    (anK:PySem.W.nsIn K mainGlobals "max"=some none)
    (aq4:PySem.W.nsIn K mainGlobals "min"=some none)
    (ad6:PySem.W.nsIn K mainGlobals "range"=some none)
    (atF:PySem.W.nsIn K mainGlobals "set"=some none)
    (oX:PySem.W.nsIn K mainGlobals "sorted"=some none)
    (akY:PySem.W.nsIn K mainGlobals "str"=some none)
    (jG:PySem.W.nsIn K mainGlobals "tuple"=some none)
    (kl3:PySem.W.KeysLit w.params te3.toList)
    : ∃ fd:FuncData,(∀(s:Shared) (v:Value),BindsTo s fd ⟨[v],[]⟩ [("script",v)])/\∀ base:Heap,K.In base->base.Ns mainGlobals mg->bK l.prog w K mg base CX0 30 fa fd ["script"] (ai9 K):=by
  have e:=hfa.symm.trans (PySem.W.mg_of X G a62);cases e;have B0:=F0.binds (ps:=["number"]) fun _ _ _ _ _ _=>bS fun _=>b0 rfl;have B1:=F1.binds (ps:=["rows"]) fun _ _ _ _ _ _=>bS fun _=>b0 rfl;have B2:=F2.binds (ps:=["row"]) fun _ _ _ _ _ _=>bS fun _=>b0 rfl;have B3:=F3.binds (ps:=["thing"]) fun _ _ _ _ _ _=>bS fun _=>b0 rfl;have B4:=F4.binds (ps:=["saying","names","arg","now","answers"]) fun _ _ _ _ _ _=>bS fun _=>bS fun _=>bS fun _=>bS fun _=>bS fun _=>b0 rfl;have B5:=F5.binds (ps:=["sign","one","other"]) fun _ _ _ _ _ _=>bS fun _=>bS fun _=>bS fun _=>b0 rfl;have B6:=F6.binds (ps:=["worth"]) fun _ _ _ _ _ _=>bS fun _=>b0 rfl;have B7:=F7.binds (ps:=["truth"]) fun _ _ _ _ _ _=>bS fun _=>b0 rfl;have B8:=F8.binds (ps:=["self"]) fun _ _ _ _ _ _=>bS fun _=>b0 rfl;have B9:=F9.binds (ps:=["self"]) fun _ _ _ _ _ _=>bS fun _=>b0 rfl;have B10:=F10.binds (ps:=["self","ticket"]) fun _ _ _ _ _ _=>bS fun _=>bS fun _=>b0 rfl;have B11:=F11.binds (ps:=["self"]) fun _ _ _ _ _ _=>bS fun _=>b0 rfl;have B12:=F12.binds (ps:=["self","ticket","worth"]) fun _ _ _ _ _ _=>bS fun _=>bS fun _=>bS fun _=>b0 rfl;have B13:=F13.binds (ps:=["self","ticket"]) fun _ _ _ _ _ _=>bS fun _=>bS fun _=>b0 rfl;have B14:=F14.binds (ps:=["self"]) fun _ _ _ _ _ _=>bS fun _=>b0 rfl;have B15:=F15.binds (ps:=["self","worths"]) fun _ _ _ _ _ _=>bS fun _=>bS fun _=>b0 rfl;have B16:=F16.binds (ps:=["self","program"]) fun _ _ _ _ _ _=>bS fun _=>bS fun _=>b0 rfl;have B17:=F17.binds (ps:=["self"]) fun _ _ _ _ _ _=>bS fun _=>b0 rfl;have B18:=F18.binds (ps:=["self"]) fun _ _ _ _ _ _=>bS fun _=>b0 rfl;have B19:=F19.binds (ps:=["self"]) fun _ _ _ _ _ _=>bS fun _=>b0 rfl;have B20:=F20.binds (ps:=["self","which"]) fun _ _ _ _ _ _=>bS fun _=>bS fun _=>b0 rfl;have B21:=F21.binds (ps:=["self"]) fun _ _ _ _ _ _=>bS fun _=>b0 rfl;have B22:=F22.binds (ps:=["self"]) fun _ _ _ _ _ _=>bS fun _=>b0 rfl;have B23:=F23.binds (ps:=["run","statement"]) fun _ _ _ _ _ _=>bS fun _=>bS fun _=>b0 rfl;have B24:=F24.binds (ps:=["run","statement"]) fun _ _ _ _ _ _=>bS fun _=>bS fun _=>b0 rfl;have B25:=F25.binds (ps:=["run","statement"]) fun _ _ _ _ _ _=>bS fun _=>bS fun _=>b0 rfl;have B26:=F26.binds (ps:=["run","statement"]) fun _ _ _ _ _ _=>bS fun _=>bS fun _=>b0 rfl;have B27:=F27.binds (ps:=["run","statement"]) fun _ _ _ _ _ _=>bS fun _=>bS fun _=>b0 rfl;have B28:=F28.binds (ps:=["run","statement"]) fun _ _ _ _ _ _=>bS fun _=>bS fun _=>b0 rfl;have B29:=F29.binds (ps:=["run","statement"]) fun _ _ _ _ _ _=>bS fun _=>bS fun _=>b0 rfl;have B30:=F30.binds (ps:=["run","statement"]) fun _ _ _ _ _ _=>bS fun _=>bS fun _=>b0 rfl;have B31:=F31.binds (ps:=["self","program"]) fun _ _ _ _ _ _=>bS fun _=>bS fun _=>b0 rfl;have B32:=F32.binds (ps:=["self"]) fun _ _ _ _ _ _=>bS fun _=>b0 rfl;have B33:=F33.binds (ps:=["self"]) fun _ _ _ _ _ _=>bS fun _=>b0 rfl;have B34:=F34.binds (ps:=["self","happening"]) fun _ _ _ _ _ _=>bS fun _=>bS fun _=>b0 rfl;have B35:=F35.binds (ps:=["self","happening"]) fun _ _ _ _ _ _=>bS fun _=>bS fun _=>b0 rfl;have B36:=F36.binds (ps:=["self","ticket","worth"]) fun _ _ _ _ _ _=>bS fun _=>bS fun _=>bS fun _=>b0 rfl;have B37:=F37.binds (ps:=["self","key","worth"]) fun _ _ _ _ _ _=>bS fun _=>bS fun _=>bS fun _=>b0 rfl;have B38:=F38.binds (ps:=["self","worth"]) fun _ _ _ _ _ _=>bS fun _=>bS fun _=>b0 rfl;have B39:=F39.binds (ps:=["self"]) fun _ _ _ _ _ _=>bS fun _=>b0 rfl;have B40:=F40.binds (ps:=["self","statement"]) fun _ _ _ _ _ _=>bS fun _=>bS fun _=>b0 rfl;have B41:=F41.binds (ps:=["self","statement"]) fun _ _ _ _ _ _=>bS fun _=>bS fun _=>b0 rfl;have B42:=F42.binds (ps:=["self","worth"]) fun _ _ _ _ _ _=>bS fun _=>bS fun _=>b0 rfl;have B43:=F43.binds (ps:=["self"]) fun _ _ _ _ _ _=>bS fun _=>b0 rfl;have B44:=F44.binds (ps:=["self","saying"]) fun _ _ _ _ _ _=>bS fun _=>bS fun _=>b0 rfl;have B45:=F45.binds (ps:=["self","name"]) fun _ _ _ _ _ _=>bS fun _=>bS fun _=>b0 rfl;have B46:=F46.binds (ps:=["run"]) fun _ _ _ _ _ _=>bS fun _=>b0 rfl;have B47:=F47.binds (ps:=["state"]) fun _ _ _ _ _ _=>bS fun _=>b0 rfl;have B48:=F48.binds (ps:=["script","k"]) fun _ _ _ _ _ _=>bS fun _=>bS fun _=>b0 rfl;have B49:=F49.binds (ps:=["cell"]) fun _ _ _ _ _ _=>bS fun _=>b0 rfl;have B50:=F50.binds (ps:=["jar","many"]) fun _ _ _ _ _ _=>bS fun _=>bS fun _=>b0 rfl;have B51:=F51.binds (ps:=["jar"]) fun _ _ _ _ _ _=>bS fun _=>b0 rfl;have B52:=F52.binds (ps:=["jar"]) fun _ _ _ _ _ _=>bS fun _=>b0 rfl;have B53:=F53.binds (ps:=["jar"]) fun _ _ _ _ _ _=>bS fun _=>b0 rfl;have B54:=F54.binds (ps:=["jar","deep"]) fun _ _ _ _ _ _=>bS fun _=>bS fun _=>b0 rfl;have B55:=F55.binds (ps:=["jar","name"]) fun _ _ _ _ _ _=>bS fun _=>bS fun _=>b0 rfl;have B56:=F56.binds (ps:=["jar","deep","room"]) fun _ _ _ _ _ _=>bS fun _=>bS fun _=>bS fun _=>b0 rfl;have B57:=F57.binds (ps:=["jar","deep","room"]) fun _ _ _ _ _ _=>bS fun _=>bS fun _=>bS fun _=>b0 rfl;have B58:=F58.binds (ps:=["cell"]) fun _ _ _ _ _ _=>bS fun _=>b0 rfl;have B59:=F59.binds (ps:=["worth"]) fun _ _ _ _ _ _=>bS fun _=>b0 rfl;have B60:=F60.binds (ps:=["state"]) fun _ _ _ _ _ _=>bS fun _=>b0 rfl;have B61:=F61.binds (ps:=["run"]) fun _ _ _ _ _ _=>bS fun _=>b0 rfl;have B62:=F62.binds (ps:=["script"]) fun _ _ _ _ _ _=>bS fun _=>b0 rfl;have T:Tx w K mg ⟨f0,_,f1,_,f2,_,f3,_,f4,_,f5,_,f6,_,f7,_,f8,_,f9,_,f10,_,f11,_,f12,_,f13,_,f14,_,f15,_,f16,_,f17,_,f18,_,f19,_,f20,_,f21,_,f22,_,f23,_,f24,_,f25,_,f26,_,f27,_,f28,_,f29,_,f30,_,f31,_,f32,_,f33,_,f34,_,f35,_,f36,_,f37,_,f38,_,f39,_,f40,_,f41,_,f42,_,f43,_,f44,_,f45,_,f46,_,f47,_,f48,_,f49,_,f50,_,f51,_,f52,_,f53,_,f54,_,f55,_,f56,_,f57,_,f58,_,f59,_,f60,_,f61,_,fa,_,tk0,tk1,tk2,tp3,tp4,aJ,aV,aU⟩:=⟨F0,B0,(PySem.W.mg_of X G a0),F1,B1,(PySem.W.mg_of X G a1),F2,B2,(PySem.W.mg_of X G a2),F3,B3,(PySem.W.mg_of X G a3),F4,B4,(PySem.W.mg_of X G a4),F5,B5,(PySem.W.mg_of X G a5),F6,B6,(PySem.W.mg_of X G a6),F7,B7,(PySem.W.mg_of X G a7),F8,B8,⟨a8,i8,F8.kp⟩,F9,B9,⟨a9,i9,F9.kp⟩,F10,B10,⟨a10,i10,F10.kp⟩,F11,B11,⟨a11,i11,F11.kp⟩,F12,B12,⟨a12,i12,F12.kp⟩,F13,B13,⟨a13,i13,F13.kp⟩,F14,B14,⟨a14,i14,F14.kp⟩,F15,B15,⟨a15,i15,F15.kp⟩,F16,B16,⟨a16,i16,F16.kp⟩,F17,B17,⟨a17,i17,F17.kp⟩,F18,B18,⟨a18,i18,F18.kp⟩,F19,B19,⟨a19,i19,F19.kp⟩,F20,B20,⟨a20,i20,F20.kp⟩,F21,B21,⟨a21,i21,F21.kp⟩,F22,B22,⟨a22,i22,F22.kp⟩,F23,B23,(PySem.W.mg_of X G a23),F24,B24,(PySem.W.mg_of X G a24),F25,B25,(PySem.W.mg_of X G a25),F26,B26,(PySem.W.mg_of X G a26),F27,B27,(PySem.W.mg_of X G a27),F28,B28,(PySem.W.mg_of X G a28),F29,B29,(PySem.W.mg_of X G a29),F30,B30,(PySem.W.mg_of X G a30),F31,B31,⟨a31,i31,F31.kp⟩,F32,B32,⟨a32,i32,F32.kp⟩,F33,B33,⟨a33,i33,F33.kp⟩,F34,B34,⟨a34,i34,F34.kp⟩,F35,B35,⟨a35,i35,F35.kp⟩,F36,B36,⟨a36,i36,F36.kp⟩,F37,B37,⟨a37,i37,F37.kp⟩,F38,B38,⟨a38,i38,F38.kp⟩,F39,B39,⟨a39,i39,F39.kp⟩,F40,B40,⟨a40,i40,F40.kp⟩,F41,B41,⟨a41,i41,F41.kp⟩,F42,B42,⟨a42,i42,F42.kp⟩,F43,B43,⟨a43,i43,F43.kp⟩,F44,B44,⟨a44,i44,F44.kp⟩,F45,B45,⟨a45,i45,F45.kp⟩,F46,B46,(PySem.W.mg_of X G a46),F47,B47,(PySem.W.mg_of X G a47),F48,B48,(PySem.W.mg_of X G a48),F49,B49,(PySem.W.mg_of X G a49),F50,B50,(PySem.W.mg_of X G a50),F51,B51,(PySem.W.mg_of X G a51),F52,B52,(PySem.W.mg_of X G a52),F53,B53,(PySem.W.mg_of X G a53),F54,B54,(PySem.W.mg_of X G a54),F55,B55,(PySem.W.mg_of X G a55),F56,B56,(PySem.W.mg_of X G a56),F57,B57,(PySem.W.mg_of X G a57),F58,B58,(PySem.W.mg_of X G a58),F59,B59,(PySem.W.mg_of X G a59),F60,B60,(PySem.W.mg_of X G a60),F61,B61,(PySem.W.mg_of X G a61),F62,B62,(PySem.W.mg_of X G a62),⟨pgTickets,hdTickets,poTickets,saTickets⟩,(PySem.W.mg_of X G aCTickets),⟨sF,a8,i8,kcTickets⟩,⟨pgWalk,hdWalk,poWalk,saWalk⟩,(PySem.W.mg_of X G aCWalk),⟨aiT,a16,i16,kcWalk⟩,⟨pgRun,hdRun,poRun,saRun⟩,(PySem.W.mg_of X G aCRun),⟨ajK,a31,i31,kcRun⟩,uR,fO,fN,gX,eF,i7,dE,abX,rC,fG,cT,fQ,(PySem.W.mg_of X G v0),(PySem.W.mg_of X G v1),(PySem.W.mg_of X G v2),(PySem.W.mg_of X G v3),⟨_,_,u3,kl3⟩,x3_0,x3_1,x3_2,x3_3,x3_4,x3_5,x3_6,x3_7,x3_8,(PySem.W.mg_of X G v4),(fun H=>.inr ⟨_,_,_,u4,rfl,rfl,(by show 3<=sizeLine;decide),(.cons ⟨_,rfl⟩ (.cons ⟨_,rfl⟩ (.cons ⟨_,rfl⟩ .nil)))⟩),(PySem.W.mg_none_of X G atG),(PySem.W.mg_none_of X G oC),(PySem.W.mg_none_of X G ahP),(PySem.W.mg_none_of X G akH),(PySem.W.mg_none_of X G anK),(PySem.W.mg_none_of X G aq4),(PySem.W.mg_none_of X G ad6),(PySem.W.mg_none_of X G atF),(PySem.W.mg_none_of X G oX),(PySem.W.mg_none_of X G akY),(PySem.W.mg_none_of X G jG)⟩;refine ⟨d62,?_,fun base _ _=>avQ T⟩;obtain ⟨_,_,_,_,_,_,_,_,_,rfl,_⟩:=F62.ex;exact fun s v=>.of_eq rfl
theorem walk {l:PySem.W.OpenLaw} {q:Program} {loose:List Str} {XP:(Str->Option Value)->Heap->Prop} {YP:World->Heap->Prop} {d:DefRec} {K:Params->PySem.W.Frag} (hn:l.most=some 63) (hdf:d.params.defaults=[])
    (hY:∀(w:World) (h:Heap),YP w h->(K w.params).In h)
    (F:∀(w:World) (mg:Str->Option Value) (fa:Addr) (h:Heap),(K w.params).In h->h.Ns mainGlobals mg->mg d.name=some (.ref fa) ->
      ∃ fd:FuncData,(∀(s:Shared) (u:Value),BindsTo s fd ⟨[u],[]⟩ [("script",u)])/\∀ base:Heap,(K w.params).In base->base.Ns mainGlobals mg->bK l.prog w (K w.params) mg base CX0 30 fa fd ["script"] (ai9 (K w.params))) :
    PySem.W.WalkO q loose XP YP l.row.toRowW d [] (fun f vs=>PySem.call f vs) :=
  L2.aqP (n:=63) (k:=30) (x:="script") (CX:=fun _=>CX0) (sp:=fun w=>ai9 (K w.params)) hn (by decide) hdf ⟨rfl,by decide,by decide⟩ hY F (fun _ _ a ns hl _ hS=>⟨a,ns,rfl,hS,hl,fun _=>rfl⟩) fun _ _ _ _ _ z=>z
end Own
open PySem PySem.W PyProof.Rows
set_option maxRecDepth 100000 in
set_option maxHeartbeats 0 in
theorem PySem.Challenge.cw_outlast_k28_kept_texts_holds : PySem.Challenge.rw_outlast_k28_kept_texts.Holds := by
 w_on;o_law;z_head;(case hw=>w_witness2)
 k_fill
 refine Own.amZ (fun _=>rfl) ?_;refine Own.walk (l:=PySem.Challenge.rw_outlast_k28_kept_texts) rfl rfl (fun w h Y=>PySem.W.kIn_of Y) ?F
 case F =>
  intro w mg fa h KX G hmg;apply Own.avF KX G hmg
  iterate 216 (first | (apply L2.axY<;>k_is) | k_is)
  exact ⟨⟨_,_,rfl,rfl⟩,⟨_,_,rfl,rfl⟩,⟨_,_,rfl,rfl⟩,⟨_,_,rfl,rfl⟩,⟨_,_,rfl,rfl⟩,⟨_,_,rfl,rfl⟩,⟨_,_,rfl,rfl⟩,⟨_,_,rfl,rfl⟩,⟨_,_,rfl,rfl⟩,trivial⟩
