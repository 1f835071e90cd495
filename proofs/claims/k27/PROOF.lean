import PyProof.Rows.All
import Wide.All
import OpenK.AllK
import Wide.FinOn
import Lean
import PyProof.EqAt
import PyProof.EqKinds
import PyProof.TupleCall
import PySem.Challenge.RW_outlast_k27_whole_cut_anywhere
set_option Elab.async false
set_option linter.all false
set_option maxRecDepth 100000
local macro_rules | `(tactic| omega) => `(tactic| first | assumption | lia | omega +splitDisjunctions)
noncomputable section
namespace PySem.W.Fast
def tw10141858773563343092:=0
def tw10258043387782696366:=0
def tw1030751206127391704:=0
def tw10356888190184337534:=0
def tw1037086795526093645:=0
def tw10866910222389115427:=0
def tw10922493007213896424:=0
def tw11071068802615710627:=0
def tw11116180451574967366:=0
def tw11198871603967516550:=0
def tw11233704320896790831:=0
def tw11276368293000553117:=0
def tw11303160589549713840:=0
def tw11310523308629498773:=0
def tw11411343741353347139:=0
def tw11503953540337304675:=0
def tw11518193791012345251:=0
def tw11761063416150684974:=0
def tw11778548299254209142:=0
def tw11787984648377183794:=0
def tw12141514209337100680:=0
def tw123140257350731585:=0
def tw12393439857718390853:=0
def tw12459366300517485117:=0
def tw12516865444452483228:=0
def tw12598842383805698299:=0
def tw12709068092193963930:=0
def tw12846912998532789861:=0
def tw12965196999861015879:=0
def tw12977271721647107884:=0
def tw13435511752037218400:=0
def tw13445070427814129487:=0
def tw13615092929270762448:=0
def tw13637094990265454792:=0
def tw1371483473973582228:=0
def tw1382054296035089103:=0
def tw13894928959882103089:=0
def tw14404302549715103279:=0
def tw14415373281276488431:=0
def tw14781400256360863870:=0
def tw14826467606744410602:=0
def tw14860144682794748289:=0
def tw14878918374024866849:=0
def tw1491433224629647468:=0
def tw14984290988586433066:=0
def tw15013039374806865017:=0
def tw15039049029620838477:=0
def tw15050466276954550613:=0
def tw15099142129167912357:=0
def tw15137453912381648734:=0
def tw15223633513055427761:=0
def tw15270480906836729318:=0
def tw15427254889772246062:=0
def tw15429874649079958011:=0
def tw15486356306110296982:=0
def tw15504826524577526453:=0
def tw15652357981728093906:=0
def tw15661504440709482486:=0
def tw1577077747617457395:=0
def tw15802391423671168800:=0
def tw15939140892557008689:=0
def tw16009342590606586856:=0
def tw16107974855959185330:=0
def tw16325877114691516621:=0
def tw16432613336996686259:=0
def tw16540732083662146717:=0
def tw16573622737486002912:=0
def tw16595633922152435716:=0
def tw16607111741285619910:=0
def tw16948648137661411414:=0
def tw17030313409686434614:=0
def tw17094922999263910988:=0
def tw17125013496865605588:=0
def tw17140878117294221389:=0
def tw17184818562241606386:=0
def tw17476334952786718556:=0
def tw17655801245854696363:=0
def tw17676144260043226408:=0
def tw17687093299768675669:=0
def tw17853087622893033167:=0
def tw17961224973563597073:=0
def tw1803404610485452078:=0
def tw1807040745644081378:=0
def tw18102013417869985437:=0
def tw1814539754208462807:=0
def tw18203067117068257228:=0
def tw18276315110227070613:=0
def tw18279938303587361756:=0
def tw18383622166278074092:=0
def tw1897842329124564840:=0
def tw2012995693832629125:=0
def tw2194304068986446730:=0
def tw2200544213737995969:=0
def tw2419839120645945134:=0
def tw2503096219782404114:=0
def tw2790847054997989927:=0
def tw2792250325573060956:=0
def tw2796816086727734858:=0
def tw2913229545289499288:=0
def tw3015743535271783819:=0
def tw3143575794441368824:=0
def tw3357089289725217867:=0
def tw3426267474713128898:=0
def tw3449658732698220849:=0
def tw3542112513092350592:=0
def tw3555871862579083836:=0
def tw378212995594421945:=0
def tw3788660632929555565:=0
def tw3843888832031035361:=0
def tw3886873698721296943:=0
def tw3978196640110323404:=0
def tw4117578243054031807:=0
def tw4158960235121162706:=0
def tw4449496840154038126:=0
def tw4507336975634533527:=0
def tw4536386004319588414:=0
def tw458967041725556144:=0
def tw4622497192472253237:=0
def tw4679413211747616962:=0
def tw4767776892783553206:=0
def tw4850768262414628779:=0
def tw493214768494459270:=0
def tw4991125042319766174:=0
def tw5123533602928875480:=0
def tw5509469207502167536:=0
def tw5595166155752024030:=0
def tw5618443619365170841:=0
def tw6068999651160637776:=0
def tw6223761846959056347:=0
def tw6257835879566135172:=0
def tw6261099086553262082:=0
def tw6291319689977848062:=0
def tw6312955569342850931:=0
def tw6484399748655552149:=0
def tw6548560145740437358:=0
def tw6810961079057100344:=0
def tw6813980335207649633:=0
def tw6819743771201471503:=0
def tw6841499045186601592:=0
def tw6918901702709397028:=0
def tw6997532862180324834:=0
def tw7115686364669373587:=0
def tw7128364890422429016:=0
def tw7367781785304403486:=0
def tw7568829708684277190:=0
def tw7674265576942740911:=0
def tw7750257730332581451:=0
def tw8007950517042267187:=0
def tw806195710269834858:=0
def tw8439439476302054835:=0
def tw858315299780793776:=0
def tw8709269037700517002:=0
def tw8778470928892683972:=0
def tw8880307554539453021:=0
def tw909359521346494734:=0
def tw9245016548072962995:=0
def tw9415124711120916351:=0
def tw9698296031430204862:=0
def tw9745193242248426365:=0
def tw9772008876472289324:=0
def tw9778344884338769474:=0
def tw9812976035925815378:=0
def tw9826159090667004463:=0
def tw9843449971856457935:=0
def tw9956517978254616099:=0
def tw9969282594103199885:=0
def tw6275412402613797081:=0
def tw12729880022648660799:=0
def tw9749594453267638762:=0
def tw7388397420501306740:=0
def tw15878008766613459303:=0
def tw14349395192555134266:=0
def tw17187674014210649253:=0
def tw15456630551705593885:=0
def tw2106205462856447852:=0
def tw6256536247091690484:=0
def tw5563860475095579304:=0
def tw8852481357281536066:=0
def tw8434861931889617133:=0
def tw4634764341346421142:=0
end PySem.W.Fast
abbrev q0A:=PySem.Value->PySem.Shared->Prop
abbrev q0B:=PySem.W.Frag
abbrev q0C:=PySem.Str->Option PySem.Value
namespace L2
open PySem PySem.Spec PyProof.Rows
inductive Key where
 | inl (i:Int)|inr (x:Str)|no
 deriving DecidableEq
def C6:Key->Value->Bool
 | .inl k,v=>Value.isInt k v
 | .inr x,v=>Value.isStrOf x v
 | .no,.none=>true
 | .no,_=>false
def Zu(w:World):Key->Int
 | .inl k=>hashInt k
 | .inr x=>hashStr w x
 | .no=>reduceHash 0xFCA86420
def dY:∀ {k:Key} {v:Value},C6 k v=true->(∃ i t,k=Key.inl i/\v=Value.int i t)\/(∃ x t,k=Key.inr x/\v=Value.str x t)\/(k=Key.no/\v=Value.none)
 | .inl i,v,h=>by
  obtain⟨t,e⟩:=Value.isInt_shape (k:=i) (v:=v) h;exact .inl ⟨i,t,rfl,e⟩
 | .inr x,v,h=>by
  obtain⟨t,e⟩:=Value.isStrOf_shape (x:=x) (v:=v) h;exact .inr (.inl ⟨x,t,rfl,e⟩)
 | .no,v,h=>by
  cases v<;>first|exact .inr (.inr ⟨rfl,rfl⟩)|cases h
def LF(i:Int)(t:Tok):C6 (.inl i) (.int i t)=true:=by simp[C6,Value.isInt]
def LG(x:Str)(t:Tok):C6 (.inr x) (.str x t)=true:=by simp[C6,Value.isStrOf]
def VZ(a b:Int):decide (Key.inl a=Key.inl b)=(a==b):=by
 by_cases e:a=b
 ·subst e;simp
 ·have h:¬ Key.inl a=Key.inl b:=fun q=>e (Key.inl.inj q);rw[decide_eq_false h];exact(beq_eq_false_iff_ne.mpr e).symm
def V0(a b:Str):decide (Key.inr a=Key.inr b)=decide (a=b):=by
 by_cases e:a=b
 ·subst e;simp
 ·have h:¬ Key.inr a=Key.inr b:=fun q=>e (Key.inr.inj q);rw[decide_eq_false h,decide_eq_false e]
def bT(prog:Program)(w:World):PySem.KeyKind prog w Key where
 is:=C6
 hash:=Zu w
 inj:=fun v a b ha hb=>by
  rcases dY ha with⟨i,t,rfl,rfl⟩|⟨x,t,rfl,rfl⟩|⟨rfl,rfl⟩<;>rcases dY hb with⟨j,u,rfl,e⟩|⟨y,u,rfl,e⟩|⟨rfl,e⟩ <;>
   first|rfl|(cases e<;>rfl)
 byValue:=fun k v h=>by
  rcases dY h with⟨i,t,rfl,rfl⟩|⟨x,t,rfl,rfl⟩|⟨rfl,rfl⟩<;>rfl
 pyHash:=fun hv h=>by
  rcases dY hv with⟨i,t,rfl,rfl⟩|⟨x,t,rfl,rfl⟩|⟨rfl,rfl⟩
  ·exact wpAny_pyHash_int h
  ·exact wpAny_pyHash_str h
  ·exact PySem.W.pyHash_slot (T:="NoneType") rfl F.slot_NoneType_hash F.entry_NoneType_hash (F.args_NoneType_hash_1 _) (beq_builtin_none _) (.inl rfl) (wpAny_bind (wpAny_pure (wpAny_bind (wpAny_mkInt (wpAny_pure ⟨_,_,rfl,h⟩)))))
 eqBool:=fun hu hv h=>by
  rcases dY hu with⟨i,t,rfl,rfl⟩|⟨x,t,rfl,rfl⟩|⟨rfl,rfl⟩<;>rcases dY hv with⟨j,u,rfl,rfl⟩|⟨y,u,rfl,rfl⟩|⟨rfl,rfl⟩
  ·rw[VZ] at h;exact wpAny_eqBool_int h
  ·exact SeqAt.EqAt.int_str i t y u _ _ _ _ h
  ·exact SeqAt.EqAt.int_none i t _ _ _ _ h
  ·exact SeqAt.EqAt.str_int x t j u _ _ _ _ h
  ·rw[V0] at h;exact wpAny_eqBool_str h
  ·exact SeqAt.EqAt.str_none x t _ _ _ _ h
  ·exact SeqAt.EqAt.none_int j u _ _ _ _ h
  ·exact SeqAt.EqAt.none_str y u _ _ _ _ h
  ·exact SeqAt.EqAt.same .none _ _ _ _ h
 «strs»:=fun k x t v h=>by
  rcases dY h with⟨i,u,rfl,e⟩|⟨y,u,rfl,e⟩|⟨rfl,e⟩
  ·exact nomatch e
  ·injection e with e1 _
   subst e1;cases v<;>rfl
  ·exact nomatch e
def Gh(prog:Program)(w:World)(i:Int)(t:Tok):(bT prog w).is (.inl i) (.int i t)=true:=LF i t
def oI(prog:Program)(w:World)(x:Str)(t:Tok):(bT prog w).is (.inr x) (.str x t)=true:=LG x t
inductive V where
 | non|bl (b:Bool)|int (i:Int)|str (x:Str)|byt (b:Array UInt8)|flt (b:UInt64)|ref (a:Addr)|ty (n:String)
 deriving DecidableEq
def bJ:V->Value->Prop
 | .non,u=>u=Value.none
 | .bl b,u=>u=Value.bool b
 | .int i,u=>∃ t,u=Value.int i t
 | .str x,u=>∃ t,u=Value.str x t
 | .byt b,u=>∃ t,u=Value.bytes b t
 | .flt b,u=>∃ t,u=Value.float b t
 | .ref a,u=>u=Value.ref a
 | .ty n,u=>u=Value.type n
abbrev Vals:List V->List Value->Prop:=Paired bJ
def Vals.length{xs:List V}{us:List Value}(r:Vals xs us):xs.length=us.length:=Paired.length r
def Vals.get:∀ {xs:List V} {us:List Value} {i:Nat} {x:V},Vals xs us->xs[i]?=some x->∃ u,us[i]?=some u/\bJ x u
 | _,_,_,_,.nil,e=>by simp at e
 | _,_,0,_,.cons r _,e=>by simp at e;subst e;exact⟨_,rfl,r⟩
 | _,_,i+1,x,.cons _ t,e=>by
  obtain⟨u,h1,h2⟩:=Vals.get (i:=i) (x:=x) t (by simpa using e);exact⟨u,by simpa using h1,h2⟩
def Vals.set{x:V}{u:Value}(r:bJ x u):∀ {xs:List V} {us:List Value} (i:Nat),Vals xs us->Vals (xs.set i x) (us.set i u)
 | _,_,_,.nil=>.nil
 | _,_,0,.cons _ t=>.cons r t
 | _,_,i+1,.cons q t=>.cons q (Vals.set r i t)
def Vals.append{xs ys:List V}{us ws:List Value}(h:Vals xs us)(s:Vals ys ws):Vals (xs++ys) (us++ws):=by
 induction h with
 | nil=>exact s
 | cons r _ ih=>exact .cons r ih
def Vals.take:∀ {xs:List V} {us:List Value} (n:Nat),Vals xs us->Vals (xs.take n) (us.take n)
 | _,_,0,_=>.nil
 | _,_,_+1,.nil=>.nil
 | _,_,n+1,.cons r t=>.cons r (Vals.take n t)
def Vals.drop:∀ {xs:List V} {us:List Value} (n:Nat),Vals xs us->Vals (xs.drop n) (us.drop n)
 | _,_,0,r=>r
 | _,_,_+1,.nil=>.nil
 | _,_,n+1,.cons _ t=>Vals.drop n t
def lY:Option V->Option Value->Prop
 | some v,some u=>bJ v u
 | none,none=>True
 | _,_=>False
def KV{κ:Type}:List (κ×V)->List (κ×Value)->Prop:=Paired fun(p:κ×V) (q:κ×Value)=>p.1=q.1/\bJ p.2 q.2
def kV:Key->V
 | .inl i=>.int i
 | .inr x=>.str x
 | .no=>.non
inductive HO where
 /-- a list -/
 | lst (xs:List V)
 /-- a tuple (never changes) -/
 | tup (xs:List V)
 /-- a dict whose keys are ints and texts;one whose keys are tuples of ints and texts (the empty one is both) -/
 | dK (kvs:List (Key×V))|dT (kvs:List (List Key×V))
 /-- a set of ints: its members,its size -/
 | set (S:Int->Bool) (n:Nat)
 /-- an instance of the class at C,its dict at dx,its attributes -/
 | ins (C dx:Addr) (fs:List (Str×V))
 /-- the dict of the instance at x -/
 | own (x:Addr)
 /-- the dict of an exception -/
 | xd (fs:List (Str×V))
 /-- a bound method,f of x -/
 | met (f x:Addr)
 /-- a range object lo,lo+1,.. below hi -/
 | rng (lo hi:Int)
 /-- a thing that is known to the object (the script;a dict while a loop walks it): read,never written while it is so -/
 | frz (o:Obj) (u:HO)
 /-- a code object's table -/
 | tbl (ps:Array Value)
 /-- any other thing,by what is true of its one object (a def of aeO own: SetO a S n:=HO.ext fun h=>..) -/
 | ext (φ:Heap->Prop)
abbrev Hp:=Addr->Option HO
def Z8(H:Hp)(a:Addr)(o:HO):Hp:=fun b=>if b=a then some o else H b
def aA{H:Hp}{a:Addr}{o:HO}:Z8 H a o a=some o:=by unfold Z8;rw[if_pos rfl]
def aG{H:Hp}{a b:Addr}{o:HO}(h:b≠a):Z8 H a o b=H b:=by unfold Z8;rw[if_neg h]
def dO{H:Hp}{a b:Addr}{o u:HO}(h:H a=some o)(h':H b=some u)(d:o≠u):a≠b:=by
 intro e;subst e;rw[h] at h';exact d (Option.some.inj h')
def aL{H:Hp}{a b:Addr}{o:HO}(h:H a=some o)(h':H b=none):a≠b:=by
 intro e;subst e;rw[h] at h';cases h'
section
variable (P:Program) (w:World)
def dF(H:Hp)(h:Heap)(a:Addr):HO->Prop
  | .lst xs=>xs.length<=sizeLine/\∃(its:List Value) (n:Nat),Vals xs its/\h.get? a=some {cls:=.type "list",data:=.seq its.toArray n}
  | .tup xs=>xs.length<=sizeLine/\∃ its:List Value,Vals xs its/\IsTup h a its.toArray
  | .dK kvs=>kvs.length<=sizeLine/\(a==sysModules)=false/\∃ vs,KV kvs vs/\h.DictOf (bT P w) a vs
  | .dT kvs=>kvs.length<=sizeLine/\(a==sysModules)=false/\∃ xs:List (List Key×Addr×Value),
      Paired (fun(p:List Key×V) (q:List Key×Addr×Value)=>p.1=q.1/\H q.2.1=some (.tup (p.1.map kV))/\bJ p.2 q.2.2) kvs xs /\
      ∃ o es ep,h.get? a=some o/\o.ExactDict/\o.data=.dict es ep/\es.toList=xs.map (entryOfKey (tupleKind (bT P w)))/\(xs.map (·.1)).Nodup
  | .set S n=>h.SetOf (intKind P w) a S n
  | .ins C dx fs=>H dx=some (.own a)/\fs.length<=1000/\dx≠a/\h.get? a=some (PySem.W.instObj C dx) /\
      ∃ mA,h.Ns1 dx mA/\(∀ f,lY (fs.lookup f) (mA f))/\PySem.Within mA (fs.map (·.1))
  | .own _=>∃ o,h.get? a=some o
  | .xd fs=>∃ mA,h.Ns1 a mA/\∀ f,lY (fs.lookup f) (mA f)
  | .rng lo hi=>∃ t u v,h.get? a=some {cls:=.type "range",data:=.fields #[.int lo t,.int hi u,.int 1 v]}
  | .frz o u=>h.get? a=some o/\dF H h a u
  | .tbl ps=>h.get? a=some {cls:=.none,data:=.fields ps}
  | .met f x=>h.get? a=some (PySem.W.methodObj (.ref f) (.ref x))
  | .ext φ=>φ h/\(∃ o,h.get? a=some o)/\∀ h1 h2:Heap,φ h1->(∀ o,h1.get? a=some o->h2.get? a=some o)->φ h2
def HOk(H:Hp)(h:Heap):Prop:=∀ a o,H a=some o->dF P w H h a o
end
section
variable {P:Program} {w:World} {H H':Hp} {h h':Heap} {a:Addr} {o:HO}
def dF.lt(x:dF P w H h a o):a < h.objs.size:=by
 cases o with
 | lst xs=>obtain⟨_,_,_,_,e⟩:=x;exact Heap.lt_size e
 | tup xs=>obtain⟨_,_,_,p⟩:=x;exact p.lt
 | dK kvs=>obtain⟨_,_,_,_,o,_,_,e,_⟩:=x;exact Heap.lt_size e
 | dT kvs=>obtain⟨_,_,_,_,o,_,_,e,_⟩:=x;exact Heap.lt_size e
 | set S n=>obtain⟨o,_,_,_,e,_⟩:=x;exact Heap.lt_size e
 | ins C dx fs=>obtain⟨_,_,_,e,_⟩:=x;exact Heap.lt_size e
 | own y=>obtain⟨_,e⟩:=x;exact Heap.lt_size e
 | xd fs=>obtain⟨_,⟨_,_,_,e,_⟩,_⟩:=x;exact Heap.lt_size e
 | rng lo hi=>obtain⟨_,_,_,e⟩:=x;exact Heap.lt_size e
 | frz ob u=>obtain⟨e,_⟩:=x;exact Heap.lt_size e
 | tbl ps=>exact Heap.lt_size (show h.get? a=some _ from x)
 | met f y=>exact Heap.lt_size (show h.get? a=some _ from x)
 | ext φ=>obtain⟨_,⟨_,e⟩,_⟩:=x;exact Heap.lt_size e
def Paired.V3{α β:Type}{F G:α->β->Prop}:∀ {l₁:List α} {l₂:List β},Paired F l₁ l₂->(∀ a b,F a b->G a b)->Paired G l₁ l₂
 | _,_,.nil,_=>.nil
 | _,_,.cons r t,f=>.cons (f _ _ r) (Paired.V3 t f)
def dF.tW(x:dF P w H h a o)(k:∀ b u,(b=a\/H b=some (.own a))->h.get? b=some u->h'.get? b=some u)
    (ho:∀ b,H b=some (.own a)->H' b=some (.own a)) (ht:∀ b xs,H b=some (.tup xs)->H' b=some (.tup xs)):dF P w H' h' a o:=by
  induction o with
  | lst xs=>obtain⟨z,its,n,r,e⟩:=x;exact⟨z,its,n,r,k _ _ (.inl rfl) e⟩
  | tup xs=>obtain⟨z,its,r,ob,e,c⟩:=x;exact⟨z,its,r,ob,k _ _ (.inl rfl) e,c⟩
  | dK kvs=>obtain⟨z,y,vs,r,ob,es,ep,e,c⟩:=x;exact⟨z,y,vs,r,ob,es,ep,k _ _ (.inl rfl) e,c⟩
  | dT kvs =>
    obtain⟨z,y,xs,r,ob,es,ep,e,c⟩:=x;exact⟨z,y,xs,Paired.V3 r fun p q z=>⟨z.1,ht _ _ z.2.1,z.2.2⟩,ob,es,ep,k _ _ (.inl rfl) e,c⟩
  | set S n=>obtain⟨ob,es,ep,t,e,c⟩:=x;exact⟨ob,es,ep,t,k _ _ (.inl rfl) e,c⟩
  | ins C dx fs =>
    obtain⟨d,z,ne,e,mA,⟨od,es,ep,e2,c⟩,r⟩:=x;exact⟨ho _ d,z,ne,k _ _ (.inl rfl) e,mA,⟨od,es,ep,k _ _ (.inr d) e2,c⟩,r⟩
  | own y=>obtain⟨ob,e⟩:=x;exact⟨ob,k _ _ (.inl rfl) e⟩
  | xd fs=>obtain⟨mA,⟨od,es,ep,e,c⟩,r⟩:=x;exact⟨mA,⟨od,es,ep,k _ _ (.inl rfl) e,c⟩,r⟩
  | rng lo hi=>obtain⟨t,u,v,e⟩:=x;exact⟨t,u,v,k _ _ (.inl rfl) e⟩
  | frz ob u ih=>obtain⟨e,q⟩:=x;exact⟨k _ _ (.inl rfl) e,ih q⟩
  | tbl ps =>
    have e:h.get? a=some {cls:=.none,data:=.fields ps}:=x;show h'.get? a=some {cls:=.none,data:=.fields ps};exact k a _ (.inl rfl) e
  | met f y =>
    have e:h.get? a=some (PySem.W.methodObj (.ref f) (.ref y)):=x;show h'.get? a=some (PySem.W.methodObj (.ref f) (.ref y));exact k a _ (.inl rfl) e
  | ext φ=>obtain⟨p,⟨o,e⟩,st⟩:=x;exact⟨st _ _ p fun o q=>k _ _ (.inl rfl) q,⟨o,k _ _ (.inl rfl) e⟩,st⟩
def HOk.lt(x:HOk P w H h)(e:H a=some o):a < h.objs.size:=(x a o e).lt
def HOk.fresh(x:HOk P w H h)(e:h.objs.size<=a):H a=none:=by
 cases q:H a with
 | none=>rfl
 | some u=>exact absurd (Nat.lt_of_lt_of_le (x.lt q) e) (Nat.lt_irrefl _)
def HOk.kept(x:HOk P w H h)(k:∀ b u,h.get? b=some u->h'.get? b=some u):HOk P w H h':=fun a o e =>
 (x a o e).tW (fun b u _ q=>k b u q) (fun _ q=>q) fun _ _ q=>q
def HOk.laid(x:HOk P w H h)(k:∀ b u,h.get? b=some u->h'.get? b=some u)(hp:h.objs.size<=a)(new:dF P w (Z8 H a o) h' a o):HOk P w (Z8 H a o) h':=fun b u e=>by
 have hn:=x.fresh hp;by_cases hb:b=a
 ·subst hb;rw[aA] at e;cases e;exact new
 ·rw[aG hb] at e;exact(x b u e).tW (fun c v _ q=>k c v q) (fun c q=>by rw[aG (aL q hn)];exact q) fun c xs q=>by rw[aG (aL q hn)];exact q
end
def Rd(H:Hp)(a:Addr)(u:HO):Prop:=H a=some u\/∃ o,H a=some (.frz o u)
def Rd.ok{P:Program}{w:World}{H:Hp}{h:Heap}{a:Addr}{u:HO}(r:Rd H a u)(x:HOk P w H h):dF P w H h a u:=by
 rcases r with r|⟨o,r⟩
 ·exact x a u r
 ·obtain⟨_,q⟩:=x a _ r;exact q
def Mut:Option HO->Prop
 | some (.lst _)=>True
 | some (.dK _)=>True
 | some (.dT _)=>True
 | some (.set _ _)=>True
 | some (.ins _ _ _)=>True
 | some (.ext _)=>True
 | _=>False
section
variable {P:Program} {w:World} {H:Hp} {h h':Heap} {x e:Addr} {o':HO}
def HOk.write(ok:HOk P w H h)(mu:Mut (H x))(he:e=x\/H e=some (.own x))(k:∀ b u,b≠e->h.get? b=some u->h'.get? b=some u)(heo:∃ u,h'.get? e=some u)
    (new:dF P w (Z8 H x o') h' x o'):HOk P w (Z8 H x o') h':=fun b u q=>by
  have ac4:∀ c y,H c=some (.own y)->c≠x:=fun c y r z=>by subst z;rw[r] at mu;exact mu
  have ad8:∀ c xs,H c=some (.tup xs)->c≠x:=fun c xs r z=>by subst z;rw[r] at mu;exact mu
  by_cases hb:b=x
  · subst hb;rw[aA] at q;cases q;exact new
  · rw[aG hb] at q;by_cases hbe:b=e
    · have q':H b=some (.own x):=by
        rcases he with z|z
        · exact absurd (hbe.trans z) hb
        · rw[hbe];exact z
      rw[q] at q';cases q';obtain⟨v,hv⟩:=heo;exact⟨v,by rw[hbe];exact hv⟩
    · refine(ok b u q).tW (fun c v hc r=>k c v ?_ r) (fun c r=>by rw[aG (ac4 c b r)];exact r) fun c xs r=>by rw[aG (ad8 c xs r)];exact r
      rcases hc with rfl|hc
      · exact hbe
      · rintro rfl;rcases he with z|z
        · exact ac4 c b hc z
        · rw[hc] at z;cases z;exact hb rfl
end
structure Un(fs ex:List Addr)(H H':Hp)(h h':Heap):Prop where
 keep:∀ b o,h.get? b=some o->H b=none->b∉fs->b∉ex->h'.get? b=some o
 slot:∀ b o,h.get? b=some o->H b=none->b∈fs->b∉ex->∃ sl,h'.get? b=some {o with slots:=sl}
 free:∀ b o,h.get? b=some o->H b=none->b∉ex->H' b=none
 there:∀ b o,h.get? b=some o->b∉ex->∃ o',h'.get? b=some o'
 CA:∀ b xs,H b=some (.tup xs)->H' b=some (.tup xs)
 AF:∀ b o u,H b=some (.frz o u)->H' b=some (.frz o u)
 Cz:∀ b ps,H b=some (.tbl ps)->∃ more,H' b=some (.tbl (ps++more))
section
variable {fs fs' ex ex':List Addr} {H H1 H2:Hp} {h h1 h2 h':Heap} {a x e:Addr} {o:HO}
def Un.any(u:Un fs ex H H1 h h1){b:Addr}{ob:Obj}(q:h.get? b=some ob)(n:H b=none)(hx:b∉ex):∃ sl,h1.get? b=some {ob with slots:=sl}:=by
 by_cases hb:b∈fs
 ·exact u.slot b ob q n hb hx
 ·exact⟨ob.slots,u.keep b ob q n hb hx⟩
def Un.kept(k:∀ b u,h.get? b=some u->h'.get? b=some u):Un fs ex H H h h' :=
 ⟨fun b ob q _ _ _=>k b ob q,fun b ob q _ _ _=>⟨ob.slots,k b ob q⟩,fun _ _ _ n _=>n,fun b ob q _=>⟨ob,k b ob q⟩,fun _ _ q=>q,fun _ _ _ q=>q,fun _ ps q=>⟨#[],by rw[q];simp⟩⟩
def Un.refl:Un fs ex H H h h:=Un.kept fun _ _ q=>q
def Un.laid(k:∀ b u,h.get? b=some u->h'.get? b=some u)(hp:h.objs.size<=a)(hn:H a=none):Un fs ex H (Z8 H a o) h h' where
 keep:=fun b u q _ _ _=>k b u q
 slot:=fun b u q _ _ _=>⟨u.slots,k b u q⟩
 free:=fun b u q n _=>by rw[aG (Nat.ne_of_lt (Nat.lt_of_lt_of_le (Heap.lt_size q) hp))];exact n
 there:=fun b u q _=>⟨u,k b u q⟩
 CA:=fun b xs q=>by rw[aG (aL q hn)];exact q
 AF:=fun b u xs q=>by rw[aG (aL q hn)];exact q
 Cz:=fun b ps q=>⟨#[],by rw[aG (aL q hn),q];simp⟩
def Un.write(mu:Mut (H x))(he:e=x\/H e=some (.own x))(k:∀ b u,b≠e->h.get? b=some u->h'.get? b=some u)(heo:∃ u,h'.get? e=some u):Un fs ex H (Z8 H x o) h h':=by
 have hx:∀ b,H b=none->b≠x:=fun b n z=>by subst z;rw[n] at mu;exact mu
 have hb:∀ b,H b=none->b≠e:=fun b n z=>by
  subst z;rcases he with r|r
  ·exact hx b n r
  ·rw[n] at r;cases r
 have hm:∀ b u,H b=some u->¬ Mut (some u)->b≠x:=fun b u q nm z=>by subst z;rw[q] at mu;exact nm mu
 refine⟨fun b u q n _ _=>k b u (hb b n) q,fun b u q n _ _=>⟨u.slots,k b u (hb b n) q⟩,fun b u q n _=>by rw[aG (hx b n)];exact n,fun b u q _=>?_,
  fun b xs q=>by rw[aG (hm b _ q fun z=>z)];exact q,fun b u xs q=>by rw[aG (hm b _ q fun z=>z)];exact q,fun b ps q=>⟨#[],by rw[aG (hm b _ q fun z=>z),q];simp⟩⟩
 by_cases hbe:b=e
 ·subst hbe;exact heo
 ·exact⟨u,k b u hbe q⟩
end
def trk(h:Heap)(H:Hp):List Addr:=(List.range h.objs.size).filter fun a=>(H a).isSome
def D7(h:Heap)(H:Hp):Heap:=PySem.W.hideAll h (trk h H)
def LB(h:Heap)(H:Hp):(D7 h H).objs.size=h.objs.size:=PySem.W.hideAll_size _ _
def Oq{h:Heap}{H:Hp}{b:Addr}{o:Obj}(e:h.get? b=some o)(n:H b=none):(D7 h H).get? b=some o :=
 PySem.W.hideAll_get _ e fun hm=>by
  have q:(H b).isSome=true:=(List.mem_filter.mp hm).2;rw[n] at q;simp at q
def Sb{h:Heap}{H:Hp}{b:Addr}{o:Obj}(e:(D7 h H).get? b=some o):h.get? b=some o/\H b=none:=by
 have e':h.get? b=some o:=PySem.W.of_hideAll (trk h H) e;refine⟨e',?_⟩;cases q:H b with
 | none=>rfl
 | some x =>
  have hm:b∈trk h H:=List.mem_filter.mpr ⟨List.mem_range.mpr (Heap.lt_size e'),by simp[q]⟩;have z:(D7 h H).get? b=none:=PySem.W.hideAll_none (trk h H) hm;rw[z] at e;cases e
def Qw(g h:Heap)(L:Addr):List (Addr×Obj):=(List.range h.objs.size).filterMap fun a=>if a=L\/(g.get? a).isSome=true then none else (h.get? a).map fun o=>(a,o)
def rest(g h:Heap)(L d:Addr):List (Addr×Obj):=(Qw g h L).filter fun p=>decide (p.1≠d)
structure Mod(K:q0B)(mg:q0C)(base:Heap):Prop where
 kin:K.In base
 glob:base.Ns mainGlobals mg
 blt:∃ mb,base.Ns builtinsNs mb/\∀ x:Str,x≠"__name__"->mb x=bootBuiltins x
 nolimit:base.NoLimit
structure Cx where
 prog:Program
 w:World
 K:q0B
 mg:Str->Option Value
 base:Heap
 A:Around
 N:List Str
 s₀:Shared
 H₀:Hp
 env:Env
 outer:List Env
 stack:List Env
 ex:List Addr
 fn:Str->Bool
 calm:Bool
 pn:List (Addr×Obj)
 xe:Value->Shared->Prop
def frs(l:List Env):List Addr:=l.filterMap (·.frame)
abbrev Cx.fs(X:Cx):List Addr:=frs X.outer
def Vis(sc:Scope)(x:Str):Prop:=sc.names.lookup x=some .local\/sc.names.lookup x=some .cell\/sc.names.lookup x=some .free
def Loc(sc:Scope)(x:Str):Prop:=sc.names.lookup x=some .local\/sc.names.lookup x=some .cell
def Look(env:Env)(h:Heap)(m:q0C)(x:Str)(u:Value):Prop :=
 (env.kindOf x=some .local/\m x=some u)\/((env.kindOf x=some .cell\/env.kindOf x=some .free)/\∃ c,env.cells.lookup x=some c/\h.IsCell c (some u))
structure Cx.Ok(X:Cx):Prop where
 mod:Mod X.K X.mg X.base
 kind:X.env.scope.kind=.function
 glob:X.env.globals=mainGlobals
 blt:X.env.builtins=builtinsNs
 above:X.s₀.heap.objs.size<=X.env.locals
 inj:∀ x y c,X.env.cells.lookup x=some c->X.env.cells.lookup y=some c->x=y
 has:∀ x,(X.env.kindOf x=some .cell\/X.env.kindOf x=some .free)->∃ c,X.env.cells.lookup x=some c
 cab:∀ x c,X.fn x=true->X.env.cells.lookup x=some c->X.s₀.heap.objs.size<=c
 hd:X.calm=true->X.A.handled=none
 frames:X.A.frames=some X.stack
 stk:X.stack=X.outer\/(X.stack=X.env::X.outer/\X.env.frame=some X.env.locals)
 exf:∀ b∈X.ex,b≠X.env.locals/\∀ x c,X.env.cells.lookup x=some c->c≠b
 bs:∀ b o,X.base.get? b=some o->X.s₀.heap.get? b=some o/\X.H₀ b=none
 bsz:X.base.objs.size<=X.s₀.heap.objs.size
 Gx:∀ b o,X.base.get? b=some o->b∉X.ex
 Lp:∀ b∈X.ex,b∉X.fs
 sQ:X.s₀.heap.FunFrames X.base X.outer
 frf:∀ b∈X.fs,X.H₀ b=none
structure Z9(X:Cx)(Z7:List (Addr×Obj))(σ:List (Option V))(H:Hp)(s:Shared):Prop where
 ok:X.Ok
 os:s.os=X.s₀.os
 bare:AllBare s.gens
 base:Un X.fs X.ex X.H₀ H X.s₀.heap s.heap
 loc:∃ m,s.heap.Ns X.env.locals m/\∀(i:Nat) (x:Str) (v:V),X.N[i]?=some x->σ[i]?=some (some v)->Vis X.env.scope x->∃ u,bJ v u/\Look X.env s.heap m x u
 cell:∀ x c,X.env.cells.lookup x=some c->∃ v,s.heap.IsCell c v
 free:H X.env.locals=none
 lM:∀ x c,X.env.cells.lookup x=some c->H c=none
 pin:∀ p∈X.pn++Z7,s.heap.get? p.1=some p.2/\H p.1=none/\p.1≠X.env.locals/\p.1∉X.fs/\∀ v,p.2.data≠.cell v
 hok:HOk X.prog X.w H s.heap
 len:σ.length=X.N.length
section
variable {X:Cx} {Z7:List (Addr×Obj)} {σ:List (Option V)} {H H':Hp} {s:Shared} {h':Heap}
def Cx.Ok.Zx(ok:X.Ok){b:Addr}{o:Obj}(e:X.base.get? b=some o):b∉X.fs:=fun hb=>by
 have:=(ok.sQ.mem hb).1;rw[e] at this;cases this
def Z9.bs(I:Z9 X Z7 σ H s):∀ b o,X.base.get? b=some o->s.heap.get? b=some o/\H b=none:=fun b o e =>
 ⟨I.base.keep b o (I.ok.bs b o e).1 (I.ok.bs b o e).2 (I.ok.Zx e) (I.ok.Gx b o e),I.base.free b o (I.ok.bs b o e).1 (I.ok.bs b o e).2 (I.ok.Gx b o e)⟩
def Z9.bk(I:Z9 X Z7 σ H s):∀ b o,X.base.get? b=some o->s.heap.get? b=some o:=fun b o e=>(I.bs b o e).1
def Z9.mod(I:Z9 X Z7 σ H s):Mod X.K X.mg X.base:=I.ok.mod
def Z9.kIn(I:Z9 X Z7 σ H s):X.K.In s.heap:=I.ok.mod.kin.keeps I.bk
def Z9.fr(I:Z9 X Z7 σ H s):∃ m,Fr X.base X.env.locals s.heap m :=
 let ⟨m,hn,_⟩:=I.loc
 ⟨m,hn,I.bk,Nat.le_trans I.ok.bsz I.ok.above⟩
def Z9.lt(I:Z9 X Z7 σ H s):X.env.locals < s.heap.objs.size:=let ⟨_,hn,_⟩:=I.loc;hn.lt
def Z9.sz(I:Z9 X Z7 σ H s):X.s₀.heap.objs.size<=s.heap.objs.size:=Nat.le_trans I.ok.above (Nat.le_of_lt I.lt)
def Z9.Wa(I:Z9 X Z7 σ H s){a:Addr}(h:s.heap.objs.size<=a):a∉X.fs:=fun hb=>by
 obtain⟨_,o,ho,_⟩:=I.ok.sQ.mem hb;exact absurd (Nat.lt_of_lt_of_le (Heap.lt_size ho) (Nat.le_trans I.sz h)) (Nat.lt_irrefl _)
def Z9.cne(I:Z9 X Z7 σ H s):∀ x c,X.env.cells.lookup x=some c->c≠X.env.locals:=fun x c e z=>by
 obtain⟨v,o,ho,hd⟩:=I.cell x c e;obtain⟨m,⟨o',es,ep,ho',hd',_⟩,_⟩:=I.loc;rw[z,ho'] at ho;cases ho;rw[hd'] at hd;cases hd
def Z9.sQ(I:Z9 X Z7 σ H s):s.heap.FunFrames X.base X.outer:=by
 have all:∀(l:List Env),(∀ b∈frs l,b∈X.fs)->X.s₀.heap.FunFrames X.base l->s.heap.FunFrames X.base l:=by
  intro l
  induction l with
  | nil=>intro _ _;trivial
  | cons env r ih =>
   intro hs hl;obtain⟨hk,⟨L,o,hf,hn,ho,hd⟩,hr⟩:=hl;have hL:L∈X.fs:=hs L (by unfold frs;rw[List.filterMap_cons,hf];exact List.mem_cons_self);obtain⟨sl,e⟩:=I.base.slot L o ho (I.ok.frf L hL) hL fun z=>I.ok.Lp L z hL;exact⟨hk,⟨L,_,hf,hn,e,hd⟩,ih (fun b hb=>hs b (by unfold frs;rw[List.filterMap_cons,hf];exact List.mem_cons_of_mem _ hb)) hr⟩
 exact all X.outer (fun _ hb=>hb) I.ok.sQ
def Z9.stack(I:Z9 X Z7 σ H s):s.heap.FunFrames X.base X.stack:=by
 rcases I.ok.stk with e|⟨e,hf⟩
 ·rw[e];exact I.sQ
 ·rw[e];obtain⟨m,hn,_⟩:=I.loc;refine .cons (by rw[I.ok.kind];decide) hf hn ?_ I.sQ;exact Heap.get?_none_of_le (Nat.le_trans I.ok.bsz I.ok.above)
def Z9.r8(I:Z9 X Z7 σ H s):∀ b∈frs X.stack,b∈X.env.locals::X.fs:=fun b hb=>by
 rcases I.ok.stk with e|⟨e,hf⟩
 ·rw[e] at hb;exact List.mem_cons_of_mem _ hb
 ·rw[e] at hb;unfold frs at hb;rw[List.filterMap_cons,hf] at hb;exact hb
def Z9.EV(I:Z9 X Z7 σ H s):∀ b∈frs X.stack,H b=none:=fun b hb=>by
 rcases List.mem_cons.mp (I.r8 b hb) with e|hb
 ·rw[e];exact I.free
 ·obtain⟨_,o,ho,_⟩:=I.ok.sQ.mem hb;exact I.base.free b o ho (I.ok.frf b hb) fun z=>I.ok.Lp b z hb
def Z9.step{g':Array GenState}{t':Nat}{d':Drawn}{ch:List Addr}(I:Z9 X Z7 σ H s)
    (hch:∀ b∈ch,(b∈X.ex\/X.s₀.heap.objs.size<=b)/\b≠X.env.locals/\(∀ x c,X.env.cells.lookup x=some c->c≠b)/\∀ p∈X.pn++Z7,p.1≠b)
    (keep:∀ b o,b≠X.env.locals->b∉X.fs->b∉ch->s.heap.get? b=some o->H b=none->h'.get? b=some o)
    (slot:∀ b o,b≠X.env.locals->b∈X.fs->b∉ch->s.heap.get? b=some o->H b=none->∃ sl,h'.get? b=some {o with slots:=sl}) (free:∀ b o,b∉ch->s.heap.get? b=some o->H b=none->H' b=none)
    (there:∀ b o,b∉ch->s.heap.get? b=some o->∃ o',h'.get? b=some o')
    (CA:∀ b xs,H b=some (.tup xs)->H' b=some (.tup xs)) (AF:∀ b o u,H b=some (.frz o u)->H' b=some (.frz o u)) (Cz:∀ b ps,H b=some (.tbl ps)->∃ more,H' b=some (.tbl (ps++more)))
    (ns:∀ m,s.heap.Ns X.env.locals m->h'.Ns X.env.locals m) (hok:HOk X.prog X.w H' h') (hg:AllBare g') :
    Z9 X Z7 σ H' {s with heap:=h',gens:=g',drawn:=d',toks:=t'}:=by
  have neL:∀ b o,X.s₀.heap.get? b=some o->b≠X.env.locals:=fun b o e=>Nat.ne_of_lt (Nat.lt_of_lt_of_le (Heap.lt_size e) I.ok.above);have neC:∀ b o,X.s₀.heap.get? b=some o->b∉X.ex->b∉ch:=fun b o e hx hb=>by
    rcases(hch b hb).1 with z|z
    · exact hx z
    · exact absurd (Nat.lt_of_lt_of_le (Heap.lt_size e) z) (Nat.lt_irrefl _)
  have cellK:∀ x c,X.env.cells.lookup x=some c->∀ v,s.heap.IsCell c v->h'.IsCell c v:=fun x c e v ⟨o,ho,hd⟩=>by
    have nch:c∉ch:=fun z=>(hch c z).2.2.1 x c e rfl;by_cases hc:c∈X.fs
    · obtain⟨sl,q⟩:=slot c o (I.cne x c e) hc nch ho (I.lM x c e);exact⟨_,q,hd⟩
    · exact⟨o,keep c o (I.cne x c e) hc nch ho (I.lM x c e),hd⟩
  refine⟨I.ok,I.os,hg,⟨fun b o e n hb hx=>?_,fun b o e n hb hx=>?_,fun b o e n hx=>?_,fun b o e hx=>?_,fun b xs e=>CA b xs (I.base.CA b xs e),fun b o xs e=>AF b o xs (I.base.AF b o xs e),fun b ps e=>?_⟩,?_,fun x c e=>?_,?_,fun x c e=>?_,fun p hp=>?_,hok,I.len⟩
  · exact keep b o (neL b o e) hb (neC b o e hx) (I.base.keep b o e n hb hx) (I.base.free b o e n hx)
  · obtain⟨sl,e1⟩:=I.base.slot b o e n hb hx;obtain⟨sl',e2⟩:=slot b _ (neL b o e) hb (neC b o e hx) e1 (I.base.free b o e n hx);exact⟨sl',e2⟩
  · obtain⟨o',e1⟩:=I.base.there b o e hx;exact free b o' (neC b o e hx) e1 (I.base.free b o e n hx)
  · obtain⟨o',e1⟩:=I.base.there b o e hx;exact there b o' (neC b o e hx) e1
  · obtain⟨m1,e1⟩:=I.base.Cz b ps e;obtain⟨m2,e2⟩:=Cz b _ e1;exact⟨m1++m2,by rw[e2,Array.append_assoc]⟩
  · obtain⟨m,hn,hl⟩:=I.loc;refine⟨m,ns m hn,fun i x v e1 e2 e3=>?_⟩;obtain⟨u,r,l⟩:=hl i x v e1 e2 e3;refine⟨u,r,?_⟩;rcases l with l|⟨k,c,e,z⟩
    · exact .inl l
    · exact .inr ⟨k,c,e,cellK x c e _ z⟩
  · obtain⟨v,z⟩:=I.cell x c e;exact⟨v,cellK x c e v z⟩
  · obtain⟨m,⟨o,_,_,ho,_⟩,_⟩:=I.loc;exact free _ o (fun z=>(hch _ z).2.1 rfl) ho I.free
  · obtain⟨v,o,ho,hd⟩:=I.cell x c e;exact free c o (fun z=>(hch c z).2.2.1 x c e rfl) ho (I.lM x c e)
  · obtain⟨e,n,ne,nf,d⟩:=I.pin p hp;have nch:p.1∉ch:=fun z=>(hch p.1 z).2.2.2 p hp rfl;exact⟨keep p.1 p.2 ne nf nch e n,free p.1 p.2 nch e n,ne,nf,d⟩
def Z9.un{t':Nat}(I:Z9 X Z7 σ H s)(u:Un X.fs [] H H' s.heap h')(hok:HOk X.prog X.w H' h'):Z9 X Z7 σ H' {s with heap:=h',toks:=t'}:=by
 obtain⟨m,⟨o,es,ep,ho,r⟩,_⟩:=id I.loc;obtain⟨sl,hL⟩:=u.any ho I.free (by simp);exact I.step (g':=s.gens) (d':=s.drawn) (ch:=[]) (fun _ z=>nomatch z) (fun b o _ hb _ e n=>u.keep b o e n hb (by simp)) (fun b o _ hb _ e n=>u.slot b o e n hb (by simp)) (fun b o _ e n=>u.free b o e n (by simp)) (fun b o _ e=>u.there b o e (by simp)) u.CA u.AF u.Cz (fun m' hm=>by
  obtain⟨o',es',ep',ho',r'⟩:=hm;rw[ho] at ho';cases ho';exact⟨_,es',ep',hL,r'⟩) hok I.bare
def Z9.call{g':Array GenState}{t':Nat}{d':Drawn}{ch:List Addr}(I:Z9 X Z7 σ H s)(u:Un (frs X.stack) ch H H' s.heap h')(hok:HOk X.prog X.w H' h')(hg:AllBare g')
    (hch:∀ b∈ch,(b∈X.ex\/X.s₀.heap.objs.size<=b)/\b≠X.env.locals/\(∀ x c,X.env.cells.lookup x=some c->c≠b)/\∀ p∈X.pn++Z7,p.1≠b) :
    Z9 X Z7 σ H' {s with heap:=h',gens:=g',drawn:=d',toks:=t'}:=by
  obtain⟨m,⟨o,es,ep,ho,r⟩,_⟩:=id I.loc;obtain⟨sl,hL⟩:=u.any ho I.free fun z=>(hch _ z).2.1 rfl;exact I.step (ch:=ch) hch (fun b o hL hb hc e n=>u.keep b o e n (fun z=>(List.mem_cons.mp (I.r8 b z)).elim hL hb) hc) (fun b o _ _ hc e n=>u.any e n hc) (fun b o hc e n=>u.free b o e n hc) (fun b o hc e=>u.there b o e hc) u.CA u.AF u.Cz (fun m' hm=>by
    obtain⟨o',es',ep',ho',r'⟩:=hm;rw[ho] at ho';cases ho';exact⟨_,es',ep',hL,r'⟩) hok hg
def Z9.turned{t':Nat}{it:Addr}(I:Z9 X Z7 σ H s)(k:∀ b o,b≠it->s.heap.get? b=some o->h'.get? b=some o)(hn:H it=none)(hL:it≠X.env.locals)
    (h1:it∈X.ex\/X.s₀.heap.objs.size<=it) (h2:∀ x c,X.env.cells.lookup x=some c->c≠it) (h3:∀ p∈X.pn++Z7,p.1≠it):Z9 X Z7 σ H {s with heap:=h',toks:=t'}:=by
  have nit:∀ b u,H b=some u->b≠it:=fun b u e z=>by rw[z,hn] at e;cases e
  refine I.step (g':=s.gens) (d':=s.drawn) (ch:=[it]) (fun b hb=>?_) (fun b o _ _ hc e _=>k b o (fun z=>hc (by simp[z])) e) (fun b o _ _ hc e _=>⟨o.slots,k b o (fun z=>hc (by simp[z])) e⟩) (fun _ _ _ _ n=>n)
    (fun b o hc e=>⟨o,k b o (fun z=>hc (by simp[z])) e⟩) (fun _ _ e=>e) (fun _ _ _ e=>e) (fun b ps e=>⟨#[],by rw[e];simp⟩) (fun m hm=>?_) (fun b u e=>?_) I.bare
  · have e:b=it:=by simpa using hb
    subst e;exact⟨h1,hL,h2,h3⟩
  · obtain⟨o,es,ep,ho,r⟩:=hm;exact⟨o,es,ep,k _ o (Ne.symm hL) ho,r⟩
  · refine(I.hok b u e).tW (fun c v hc q=>k c v ?_ q) (fun _ q=>q) fun _ _ q=>q;rcases hc with z|z
    · rw[z];exact nit b u e
    · exact nit c _ z
def Z9.tok(I:Z9 X Z7 σ H s)(t:Nat):Z9 X Z7 σ H {s with toks:=t}:=I.un (h':=s.heap) (t':=t) Un.refl I.hok
def Z9.kept{t':Nat}(I:Z9 X Z7 σ H s)(k:∀ b u,s.heap.get? b=some u->h'.get? b=some u):Z9 X Z7 σ H {s with heap:=h',toks:=t'}:=I.un (Un.kept k) (I.hok.kept k)
def Z9.laid{a:Addr}{o:HO}{t':Nat}(I:Z9 X Z7 σ H s)(k:∀ b u,s.heap.get? b=some u->h'.get? b=some u)(hp:s.heap.objs.size<=a)(new:dF X.prog X.w (Z8 H a o) h' a o) :
    Z9 X Z7 σ (Z8 H a o) {s with heap:=h',toks:=t'}:=I.un (Un.laid k hp (I.hok.fresh hp)) (I.hok.laid k hp new)
def Z9.write{x e:Addr}{o:HO}{t':Nat}(I:Z9 X Z7 σ H s)(mu:Mut (H x))(he:e=x\/H e=some (.own x))(k:∀ b u,b≠e->s.heap.get? b=some u->h'.get? b=some u)(heo:∃ u,h'.get? e=some u)
    (new:dF X.prog X.w (Z8 H x o) h' x o):Z9 X Z7 σ (Z8 H x o) {s with heap:=h',toks:=t'}:=I.un (Un.write mu he k heo) (I.hok.write mu he k heo new)
def Z9.kS{abZ:List (Addr×Obj)}(I:Z9 X Z7 σ H s)(h:∀ p∈abZ,s.heap.get? p.1=some p.2/\H p.1=none/\p.1≠X.env.locals/\p.1∉X.fs/\∀ v,p.2.data≠.cell v):Z9 X abZ σ H s :=
 ⟨I.ok,I.os,I.bare,I.base,I.loc,I.cell,I.free,I.lM,fun p hp=>(List.mem_append.mp hp).elim (fun z=>I.pin p (List.mem_append_left _ z)) (h p),I.hok,I.len⟩
def Gv{N:List Str}(hN:N.Nodup){i j:Nat}{x:Str}(a:N[i]?=some x)(b:N[j]?=some x):i=j:=by
 obtain⟨h1,e1⟩:=List.getElem?_eq_some_iff.mp a;obtain⟨h2,e2⟩:=List.getElem?_eq_some_iff.mp b;exact(List.getElem_inj hN).mp (e1.trans e2.symm)
def Ds{M:Model}{A:Around}{E:q0A}{i:Nat}{x:Str}{v:V}{u:Value}{Q:Unit->Shared->Prop}(I:Z9 X Z7 σ H s)(hN:X.N.Nodup)(hi:X.N[i]?=some x)(hx:Loc X.env.scope x)(r:bJ v u)
    (h:∀ s',Z9 X Z7 (σ.set i (some v)) H s'->(∃ a,Heap.SameBut a s.heap s'.heap/\(a=X.env.locals\/X.env.cells.lookup x=some a))->Q () s') (hf:X.fn x=true\/X.env.scope.names.lookup x=some .local:=by first|exact .inl rfl|exact .inr rfl|assumption):wpAny M A (storeName X.env x u) Q E s:=by
  obtain⟨m,hn,hl⟩:=id I.loc;have adZ:(X.env.scope.kind==.class||(X.env.scope.kind==.module&&X.env.locals !=X.env.globals))=false:=by rw[I.ok.kind];rfl
  have hiσ:i < σ.length:=by rw[I.len];exact(List.getElem?_eq_some_iff.mp hi).1
  have cne:=I.cne;have tracked:∀ {a:Addr} {h':Heap},(∃ o,s.heap.get? a=some o/\H a=none)->Heap.SameBut a s.heap h'->HOk X.prog X.w H h':=fun {a h'} ha hs b ob e=>by
    obtain⟨_,_,abW⟩:=ha;refine(I.hok b ob e).tW (fun c w' hc q=>(hs.2 c ?_).trans q) (fun _ q=>q) fun _ _ q=>q;rintro rfl;rcases hc with rfl|hc
    · rw[abW] at e;cases e
    · rw[abW] at hc;cases hc
  rcases hx with hk|hk
  · refine wpAny_storeName_local hk hn (fun h' hn' hs=>?_) adZ;obtain⟨oL,_,_,hoL,_⟩:=id hn;refine h _ ⟨I.ok,I.os,I.bare,⟨fun b o e n hb hx=>?_,fun b o e n hb hx=>?_,I.base.free,fun b o e hx=>?_,I.base.CA,I.base.AF,I.base.Cz⟩,⟨_,hn',fun j y v' e1 e2 e3=>?_⟩,fun y c e=>?_,I.free,I.lM,fun p hp=>?_,tracked ⟨oL,hoL,I.free⟩ hs,by simpa using I.len⟩ ⟨_,hs,.inl rfl⟩
    · exact(hs.2 b (Nat.ne_of_lt (Nat.lt_of_lt_of_le (Heap.lt_size e) I.ok.above))).trans (I.base.keep b o e n hb hx)
    · obtain⟨sl,e1⟩:=I.base.slot b o e n hb hx;exact⟨sl,(hs.2 b (Nat.ne_of_lt (Nat.lt_of_lt_of_le (Heap.lt_size e) I.ok.above))).trans e1⟩
    · obtain⟨o',e1⟩:=I.base.there b o e hx;exact⟨o',(hs.2 b (Nat.ne_of_lt (Nat.lt_of_lt_of_le (Heap.lt_size e) I.ok.above))).trans e1⟩
    · by_cases hj:j=i
      · subst hj;rw[hi] at e1;cases e1;rw[List.getElem?_set_self hiσ] at e2;cases e2;exact⟨u,r,.inl ⟨hk,by simp⟩⟩
      · rw[List.getElem?_set_ne (Ne.symm hj)] at e2;obtain⟨u',r',q⟩:=hl j y v' e1 e2 e3;refine⟨u',r',?_⟩;rcases q with⟨k,e⟩|⟨k,c,e,z⟩
        · refine .inl ⟨k,?_⟩;have:y≠x:=fun e=>hj (Gv hN e1 (e▸hi));simp[this,e]
        · exact .inr ⟨k,c,e,z.sameBut hs (cne y c e)⟩
    · obtain⟨w',z⟩:=I.cell y c e;exact⟨w',z.sameBut hs (cne y c e)⟩
    · obtain⟨e,n,ne,nf,d⟩:=I.pin p hp;exact⟨(hs.2 p.1 ne).trans e,n,ne,nf,d⟩
  · have hfn:X.fn x=true:=by
      rcases hf with z|z
      · exact z
      · rw[z] at hk;cases hk
    obtain⟨c,hc⟩:=I.ok.has x (.inl hk);obtain⟨w',z⟩:=I.cell x c hc;refine wpAny_storeName_cell I.ok.kind hk hc z (fun h' hc' hs=>?_);obtain⟨oc,hoc,ad3⟩:=id z;refine h {s with heap:=h'} ⟨I.ok,I.os,I.bare,⟨fun b o e n hb hx=>?_,fun b o e n hb hx=>?_,I.base.free,fun b o e hx=>?_,I.base.CA,I.base.AF,I.base.Cz⟩,⟨m,hn.sameBut hs (Ne.symm (cne x c hc)),fun j y v' e1 e2 e3=>?_⟩,fun y c' e=>?_,I.free,I.lM,fun p hp=>?_,tracked ⟨oc,hoc,I.lM x c hc⟩ hs,by simpa using I.len⟩ ⟨c,hs,.inr hc⟩
    · exact(hs.2 b (Nat.ne_of_lt (Nat.lt_of_lt_of_le (Heap.lt_size e) (I.ok.cab x c hfn hc)))).trans (I.base.keep b o e n hb hx)
    · obtain⟨sl,e1⟩:=I.base.slot b o e n hb hx;exact⟨sl,(hs.2 b (Nat.ne_of_lt (Nat.lt_of_lt_of_le (Heap.lt_size e) (I.ok.cab x c hfn hc)))).trans e1⟩
    · obtain⟨o',e1⟩:=I.base.there b o e hx;exact⟨o',(hs.2 b (Nat.ne_of_lt (Nat.lt_of_lt_of_le (Heap.lt_size e) (I.ok.cab x c hfn hc)))).trans e1⟩
    · by_cases hj:j=i
      · subst hj;rw[hi] at e1;cases e1;rw[List.getElem?_set_self hiσ] at e2;cases e2;exact⟨u,r,.inr ⟨.inl hk,c,hc,hc'⟩⟩
      · rw[List.getElem?_set_ne (Ne.symm hj)] at e2;obtain⟨u',r',q⟩:=hl j y v' e1 e2 e3;refine⟨u',r',?_⟩;rcases q with q|⟨k,c',e,z'⟩
        · exact .inl q
        · refine .inr ⟨k,c',e,z'.sameBut hs ?_⟩;rintro rfl;exact hj (Gv hN e1 (I.ok.inj _ _ _ e hc▸hi))
    · by_cases hcc:c'=c
      · subst hcc;exact⟨_,hc'⟩
      · obtain⟨w2,z2⟩:=I.cell y c' e;exact⟨w2,z2.sameBut hs hcc⟩
    · obtain⟨e,n,ne,nf,d⟩:=I.pin p hp;refine⟨(hs.2 p.1 ?_).trans e,n,ne,nf,d⟩;intro q;rw[q,hoc] at e;have q':oc=p.2:=Option.some.inj e;exact d w' (by rw[<- q'];exact ad3)
def BQ{M:Model}{A:Around}{E:q0A}{i:Nat}{x:Str}{v:V}{u:Value}{Q:Unit->Shared->Prop}(I:Z9 X Z7 σ H s)(hN:X.N.Nodup)(hi:X.N[i]?=some x)(hx:Loc X.env.scope x)(r:bJ v u)
    (h:∀ s',Z9 X Z7 (σ.set i (some v)) H s'->Q () s') (hf:X.fn x=true\/X.env.scope.names.lookup x=some .local:=by first|exact .inl rfl|exact .inr rfl|assumption):wpAny M A (storeName X.env x u) Q E s :=
  Ds I hN hi hx r (fun s' I' _=>h s' I') hf
def Z9.Xi{s':Shared}{ch:List Addr}(I:Z9 X Z7 σ H s)(ho:s'.os=s.os)(u:Un (frs X.stack) ch H H' s.heap s'.heap)(hok:HOk X.prog X.w H' s'.heap)(hg:AllBare s'.gens)
    (hch:∀ b∈ch,(b∈X.ex\/X.s₀.heap.objs.size<=b)/\b≠X.env.locals/\(∀ x c,X.env.cells.lookup x=some c->c≠b)/\∀ p∈X.pn++Z7,p.1≠b):Z9 X Z7 σ H' s':=by
  obtain⟨h',g',d',t',o'⟩:=s';have e:o'=s.os:=ho;subst e;exact I.call (g':=g') (t':=t') (d':=d') u hok hg hch
end
abbrev XK:=Value->Option Addr->Hp->Prop
abbrev St:=List (Option V)
abbrev VK:=V->Hp->Prop
abbrev TE:=St->Hp->VK->Prop
abbrev TT:=St->Hp->(Bool->Hp->Prop)->Prop
abbrev TA:=St->Hp->(List V->Hp->Prop)->Prop
structure Ends where
 nx:St->Hp->Prop
 rt:VK
 bk:St->Hp->Prop:=fun _ _=>False
 ct:St->Hp->Prop:=fun _ _=>False
abbrev TS:=Ends->St->Hp->Prop
def EP(X:Cx)(Z7:List (Addr×Obj))(σ:St)(Q:VK)(u:Value)(s':Shared):Prop:=∃ v H',Z9 X Z7 σ H' s'/\bJ v u/\Q v H'
def TP(X:Cx)(Z7:List (Addr×Obj))(σ:St)(Q:Bool->Hp->Prop)(b:Bool)(s':Shared):Prop:=∃ H',Z9 X Z7 σ H' s'/\Q b H'
def AP(X:Cx)(Z7:List (Addr×Obj))(σ:St)(Q:List V->Hp->Prop)(us:List Value)(s':Shared):Prop:=∃ vs H',Z9 X Z7 σ H' s'/\Vals vs us/\Q vs H'
def SP(X:Cx)(Z7:List (Addr×Obj))(D:Ends)(f:Flow)(s':Shared):Prop :=
 match f with
 | .next=>∃ σ' H',Z9 X Z7 σ' H' s'/\D.nx σ' H'
 | .brk=>∃ σ' H',Z9 X Z7 σ' H' s'/\D.bk σ' H'
 | .cont=>∃ σ' H',Z9 X Z7 σ' H' s'/\D.ct σ' H'
 | .ret u=>∃ v σ' H',Z9 X Z7 σ' H' s'/\bJ v u/\D.rt v H'
def PE(X:Cx)(e:Expr)(t:TE):Prop :=
 ∀(Z7:List (Addr×Obj)) (s:Shared) (σ:St) (H:Hp) (Q:VK),Z9 X Z7 σ H s->t σ H Q->wpAny (model X.prog X.w) X.A (eval e X.env) (EP X Z7 σ Q) X.xe s
def PT(X:Cx)(e:Expr)(t:TT):Prop :=
 ∀(Z7:List (Addr×Obj)) (s:Shared) (σ:St) (H:Hp) (Q:Bool->Hp->Prop),Z9 X Z7 σ H s->t σ H Q->wpAny (model X.prog X.w) X.A (isTrue e X.env (eval e X.env)) (TP X Z7 σ Q) X.xe s
def PW(X:Cx)(e:Expr)(t:TT):Prop :=
 ∀(whole:Sem Value) (Z7:List (Addr×Obj)) (s:Shared) (σ:St) (H:Hp) (Q:Bool->Hp->Prop),Z9 X Z7 σ H s->t σ H Q->wpAny (model X.prog X.w) X.A (isTrue e X.env whole) (TP X Z7 σ Q) X.xe s
def PW.pt{X:Cx}{e:Expr}{t:TT}(h:PW X e t):PT X e t:=h _
def PA(X:Cx)(es:List Expr)(t:TA):Prop :=
 ∀(pos:Pos) (Z7:List (Addr×Obj)) (s:Shared) (σ:St) (H:Hp) (Q:List V->Hp->Prop),Z9 X Z7 σ H s->t σ H Q->wpAny (model X.prog X.w) X.A (spliced (backTo pos (starEach es X.env))) (AP X Z7 σ Q) X.xe s
def PS(X:Cx)(st:Stmt)(t:TS):Prop :=
 ∀(Z7:List (Addr×Obj)) (s:Shared) (σ:St) (H:Hp) (D:Ends),Z9 X Z7 σ H s->t D σ H->wpAny (model X.prog X.w) X.A (exec st X.env) (SP X Z7 D) X.xe s
def PSs(X:Cx)(st:List Stmt)(t:TS):Prop :=
 ∀(Z7:List (Addr×Obj)) (s:Shared) (σ:St) (H:Hp) (D:Ends),Z9 X Z7 σ H s->t D σ H->wpAny (model X.prog X.w) X.A (execs st X.env) (SP X Z7 D) X.xe s
def thn{α:Type}{t:Sem α}{Q Q':α->Shared->Prop}{M:Model}{A:Around}{E:q0A}{s:Shared}(h:wpAny M A t Q E s)(hQ:∀ a s,Q a s->Q' a s):wpAny M A t Q' E s:=wpAny_mono h hQ fun _ _ x=>x
section
variable {X:Cx}
def kA(i:Nat):TE:=fun σ H Q=>∃ v,σ[i]?=some (some v)/\Q v H
def tC(v:V):TE:=fun _ H Q=>Q v H
def Wl{i:Nat}{x:Str}{pos:Pos}(hN:X.N[i]?=some x)(hv:Vis X.env.scope x)(hd:(x==("__debug__":Str))=false:=by decide)(hcd:(x==("__classdict__":Str))=false:=by decide):PE X (.Name x pos) (kA i):=by
 intro Z7 s σ H Q I h;obtain⟨v,e,h⟩:=h;obtain⟨m,hn,hl⟩:=I.loc;obtain⟨u,r,l⟩:=hl i x v hN e hv;have fin:EP X Z7 σ Q u s:=⟨v,H,I,r,h⟩;rcases l with⟨hk,hm⟩|⟨hk,c,hc,aaY⟩
 ·exact wpAny_Name (wpAny_loadName_local I.ok.kind hk hn hm fin) hd
 ·rcases hk with hk|hk
  ·exact wpAny_Name (wpAny_loadName_cell I.ok.kind hk hc aaY fin) hd
  ·exact wpAny_Name (wpAny_loadName_free I.ok.kind hk hc aaY fin hcd) hd
def aE{i j pos}:PE X (.Constant (.int i) j pos) (tC (.int i)):=fun _ _ _ H _ I h=>wpAny_Constant_int ⟨.int i,H,I.tok _,⟨_,rfl⟩,h⟩
def oR{b j pos}:PE X (.Constant (.bool b) j pos) (tC (.bl b)):=fun _ _ _ H _ I h=>Constant_bool ⟨.bl b,H,I,rfl,h⟩
def eD{j pos}:PE X (.Constant .none j pos) (tC .non):=fun _ _ _ H _ I h=>Constant_none ⟨.non,H,I,rfl,h⟩
def aO{x j pos}:PE X (.Constant (.str x) j pos) (tC (.str x)):=fun _ _ _ H _ I h=>Calls.Constant_str ⟨.str x,H,I.tok _,⟨_,rfl⟩,h⟩
def Gl(X:Cx)(x:Str):Prop:=X.env.kindOf x=some .globalImplicit
def yY{E:q0A}{Z7:List (Addr×Obj)}{s:Shared}{σ:St}{H:Hp}{x:Str}{u:Value}{pos:Pos}{Q:q0A}(I:Z9 X Z7 σ H s)(hg:Gl X x)(hm:X.mg x=some u)(h:Q u s)
    (hd:(x==("__debug__":Str))=false:=by decide):wpAny (model X.prog X.w) X.A (eval (.Name x pos) X.env) Q E s :=
  Calls.Name_function_global I.ok.kind hg (Calls.loadGlobal_global (by rw[I.ok.glob];exact I.mod.glob.keeps I.bk) hm h) hd
def rA{E:q0A}{Z7:List (Addr×Obj)}{s:Shared}{σ:St}{H:Hp}{x:Str}{u:Value}{pos:Pos}{Q:q0A}(I:Z9 X Z7 σ H s)(hg:Gl X x)(hm:X.mg x=none)(hv:bootBuiltins x=some u)(h:Q u s)
    (hn:x≠"__name__":=by decide) (hd:(x==("__debug__":Str))=false:=by decide):wpAny (model X.prog X.w) X.A (eval (.Name x pos) X.env) Q E s:=by
  obtain⟨mb,h1,h2⟩:=I.mod.blt;exact Calls.Name_function_global I.ok.kind hg (Calls.loadGlobal_builtin (by rw[I.ok.glob];exact I.mod.glob.keeps I.bk) hm (by rw[I.ok.blt];exact h1.keeps I.bk) ((h2 x hn).trans hv) h) hd
def fM{x:Str}{v:V}{u:Value}{pos:Pos}(hg:Gl X x)(hm:X.mg x=some u)(r:bJ v u)(hd:(x==("__debug__":Str))=false:=by decide):PE X (.Name x pos) (tC v) :=
 fun _ _ _ H _ I h=>yY I hg hm ⟨v,H,I,r,h⟩ hd
def Sk{x:Str}{v:V}{u:Value}{pos:Pos}(hg:Gl X x)(hm:X.mg x=none)(hv:bootBuiltins x=some u)(r:bJ v u)(hn:x≠"__name__":=by decide)(hd:(x==("__debug__":Str))=false:=by decide):PE X (.Name x pos) (tC v) :=
 fun _ _ _ H _ I h=>rA I hg hm hv ⟨v,H,I,r,h⟩ hn hd
variable {a b:Expr} {ta tb:TE} {pos:Pos}
def PC(X:Cx)(op:CmpOp)(a b:Expr)(t:TE):Prop :=
 ∀(Z7:List (Addr×Obj)) (s:Shared) (σ:St) (H:Hp) (Q:VK),Z9 X Z7 σ H s->t σ H Q ->
  wpAny (model X.prog X.w) X.A (eval a X.env) (fun v s₁=>wpAny (model X.prog X.w) X.A (eval b X.env) (fun u s₂=>wpAny (model X.prog X.w) X.A (compareOp op v u) (EP X Z7 σ Q) X.xe s₂) X.xe s₁) X.xe s
def nobehind(b:Expr){op:CmpOp}(h:op≠.In)(h2:op≠.NotIn):behindInMarks op b=false:=by
 have e1:(op==CmpOp.In)=false:=by cases op<;>first|rfl|exact absurd rfl h
 have e2:(op==CmpOp.NotIn)=false:=by cases op<;>first|rfl|exact absurd rfl h2
 cases b<;>simp[behindInMarks,e1,e2]
def tB(t:TE):TT:=fun σ H Q=>t σ H fun x H1=>∃ c,x=.bl c/\Q c H1
def Wj{op:CmpOp}{t:TE}(h:PC X op a b t)(h1:behindInMarks op b=false:=by first|exact nobehind _ (by decide) (by decide)|rfl):PE X (.Compare a [op] [b] pos) t:=fun Z7 s σ H Q I hw=>wpAny_Compare1 (h Z7 s σ H Q I hw) h1
def Wn{op:CmpOp}{t:TE}(h:PC X op a b t)(h1:behindInMarks op b=false:=by first|exact nobehind _ (by decide) (by decide)|rfl):PT X (.Compare a [op] [b] pos) (tB t):=by
 intro Z7 s σ H Q I hw;refine wpAny_isTrue_Compare1 (thn (h Z7 s σ H _ I hw) fun v s1 h1=>thn h1 fun u s2 h2=>thn h2 fun c s3 ⟨x,H1,I1,r1,q1⟩=>?_) h1;obtain⟨d,rfl,q⟩:=q1;cases r1;exact wpAny_truthy_bool ⟨H1,I1,q⟩
def oT{e:Expr}{t:TE}(h:PE X e t)(he:∀ whole,isTrue e X.env whole=(do let v <- whole;standAt e.pos;holding [v] (truthy v)):=by intro _;rfl):PT X e (tB t):=by
 intro Z7 s σ H Q I hw;refine isTrue_plain (thn (h Z7 s σ H _ I hw) fun v s1 ⟨x,H1,I1,r1,q1⟩=>?_) (he _);obtain⟨d,rfl,q⟩:=q1;cases r1;exact wpAny_truthy_bool ⟨H1,I1,q⟩
variable {tA tB':TT} {rest:List Expr}
def Yy(t u:TT):TT:=fun σ H Q=>t σ H fun c H1=>if c=true then u σ H1 Q else Q false H1
def ZW(t u:TT):TT:=fun σ H Q=>t σ H fun c H1=>if c=true then Q true H1 else u σ H1 Q
def YB(t:TT):TT:=fun σ H Q=>t σ H fun c H1=>Q (!c) H1
def tS(ha:PT X a tA):PW X (.BoolOp .And [a] pos) tA:=by
 intro wh Z7 s σ H Q I h;refine isTrue_and (thn (ha Z7 s σ H Q I h) fun c s1 e=>?_);cases c with
 | true=>exact isTrue_and_nil e
 | false=>exact e
def oU(ha:PT X a tA):PW X (.BoolOp .Or [a] pos) tA:=by
 intro wh Z7 s σ H Q I h;refine isTrue_or (thn (ha Z7 s σ H Q I h) fun c s1 e=>?_);cases c with
 | false=>exact isTrue_or_nil e
 | true=>exact e
def Bu(ha:PT X a tA)(hb:PW X (.BoolOp .And (b::rest) pos) tB'):PW X (.BoolOp .And (a::b::rest) pos) (Yy tA tB'):=by
 intro wh Z7 s σ H Q I h;refine isTrue_and (thn (ha Z7 s σ H _ I h) fun c s1 ⟨H1,I1,q1⟩=>?_);cases c with
 | true=>exact hb wh Z7 s1 σ H1 Q I1 q1
 | false=>exact⟨H1,I1,q1⟩
def xP(ha:PT X a tA)(hb:PW X (.BoolOp .Or (b::rest) pos) tB'):PW X (.BoolOp .Or (a::b::rest) pos) (ZW tA tB'):=by
 intro wh Z7 s σ H Q I h;refine isTrue_or (thn (ha Z7 s σ H _ I h) fun c s1 ⟨H1,I1,q1⟩=>?_);cases c with
 | true=>exact⟨H1,I1,q1⟩
 | false=>exact hb wh Z7 s1 σ H1 Q I1 q1
def wA(ha:PT X a tA):PT X (.UnaryOp .Not a pos) (YB tA):=by
 intro Z7 s σ H Q I h;exact isTrue_not (ha Z7 s σ H (fun c H1=>Q (!c) H1) I h)
def P2(ta tb:TE):TE:=fun σ H Q=>ta σ H fun x H1=>∃ c,x=.bl c/\if c=true then tb σ H1 Q else Q (.bl false) H1
def WK(ta tb:TE):TE:=fun σ H Q=>ta σ H fun x H1=>∃ c,x=.bl c/\if c=true then Q (.bl true) H1 else tb σ H1 Q
def Qb(ta:TE):TE:=fun σ H Q=>ta σ H fun x H1=>∃ c,x=.bl c/\Q (.bl (!c)) H1
def Es{op}{t:TE}(h:PE X a t):PE X (.BoolOp op [a] pos) t:=fun Z7 s σ H Q I hw=>BoolOp_one (h Z7 s σ H Q I hw)
def Pb(ha:PE X a ta)(hb:PE X (.BoolOp .And (b::rest) pos) tb):PE X (.BoolOp .And (a::b::rest) pos) (P2 ta tb):=by
 intro Z7 s σ H Q I h;refine BoolOp_and (thn (ha Z7 s σ H _ I h) fun v s1 ⟨x,H1,I1,r1,q1⟩=>?_);obtain⟨c,rfl,q1⟩:=q1;cases r1;refine wpAny_truthy_bool ?_;cases c with
 | true=>exact hb Z7 s1 σ H1 Q I1 q1
 | false=>exact⟨.bl false,H1,I1,rfl,q1⟩
def TQ(ha:PE X a ta)(hb:PE X (.BoolOp .Or (b::rest) pos) tb):PE X (.BoolOp .Or (a::b::rest) pos) (WK ta tb):=by
 intro Z7 s σ H Q I h;refine BoolOp_or (thn (ha Z7 s σ H _ I h) fun v s1 ⟨x,H1,I1,r1,q1⟩=>?_);obtain⟨c,rfl,q1⟩:=q1;cases r1;refine wpAny_truthy_bool ?_;cases c with
 | false=>exact hb Z7 s1 σ H1 Q I1 q1
 | true=>exact⟨.bl true,H1,I1,rfl,q1⟩
def Wk(ha:PE X a ta):PE X (.UnaryOp .Not a pos) (Qb ta):=by
 intro Z7 s σ H Q I h;refine UnaryOp_ (thn (ha Z7 s σ H _ I h) fun v s1 ⟨x,H1,I1,r1,q1⟩=>?_);obtain⟨c,rfl,q1⟩:=q1;cases r1;exact not_of (wpAny_truthy_bool ⟨.bl (!c),H1,I1,rfl,q1⟩)
def ZU(t:TT)(ta tb:TE):TE:=fun σ H Q=>t σ H fun c H1=>if c=true then ta σ H1 Q else tb σ H1 Q
def jX{c:Expr}(hc:PT X c tA)(ha:PE X a ta)(hb:PE X b tb):PE X (.IfExp c a b pos) (ZU tA ta tb):=by
 intro Z7 s σ H Q I h;refine wpAny_IfExp (thn (hc Z7 s σ H _ I h) fun d s1 ⟨H1,I1,q1⟩=>?_);cases d with
 | true=>exact ha Z7 s1 σ H1 Q I1 q1
 | false=>exact hb Z7 s1 σ H1 Q I1 q1
end
def dR(K:q0B)(H:Hp)(a:Addr)(xs:List V):Prop :=
 Rd H a (.lst xs) \/
  ∃(o:Obj) (its:Array Value) (n:Nat),K.lookup a=some o/\o.cls=.type "list"/\o.dict=none/\o.data=.seq its n/\its.size<=sizeLine/\Vals xs its.toList
def fA(K:q0B)(H:Hp)(a:Addr)(xs:List V):Prop :=
 Rd H a (.tup xs) \/
  ∃(o:Obj) (its:Array Value) (n:Nat),K.lookup a=some o/\o.cls=.type "tuple"/\o.data=.seq its n/\its.size<=sizeLine/\Vals xs its.toList
def Y9:Value->Option V
 | .none=>some .non
 | .bool b=>some (.bl b)
 | .int i _=>some (.int i)
 | .str x _=>some (.str x)
 | .bytes b _=>some (.byt b)
 | .float b _=>some (.flt b)
 | .ref a=>some (.ref a)
 | .type n=>some (.ty n)
 | _=>none
def bJ.abs{x:V}{u:Value}(r:bJ x u):Y9 u=some x:=by
 cases x with
 | non=>cases r;rfl
 | bl _=>cases r;rfl
 | int _=>obtain⟨t,rfl⟩:=r;rfl
 | str _=>obtain⟨t,rfl⟩:=r;rfl
 | byt _=>obtain⟨t,rfl⟩:=r;rfl
 | flt _=>obtain⟨t,rfl⟩:=r;rfl
 | ref _=>cases r;rfl
 | ty _=>cases r;rfl
def bJ.inj{x y:V}{u:Value}(r:bJ x u)(q:bJ y u):x=y:=Option.some.inj (r.abs.symm.trans q.abs)
def Vals.inj{xs ys:List V}{us:List Value}(h:Vals xs us)(g:Vals ys us):xs=ys:=by
 induction h generalizing ys with
 | nil=>cases g;rfl
 | cons r t ih =>
  cases g with
  | cons r' t'=>rw[r.inj r',ih t']
section
variable {X:Cx} {Z7:List (Addr×Obj)} {σ:St} {H:Hp} {s:Shared} {a:Addr} {xs ys:List V}
def dR.of{K:q0B}(h:H a=some (.lst xs)):dR K H a xs:=.inl (.inl h)
def fA.of{K:q0B}(h:H a=some (.tup xs)):fA K H a xs:=.inl (.inl h)
def Z9.list(I:Z9 X Z7 σ H s)(h:dR X.K H a xs):∃ its:List Value,Vals xs its/\PlainL s.heap a its.toArray/\xs.length<=sizeLine:=by
 rcases h with h|⟨o,its,n,hk,hc,hd,hs,hz,r⟩
 ·obtain⟨z,its,n,r,e⟩:=h.ok I.hok;exact⟨its,r,⟨_,n,e,rfl,rfl,rfl⟩,z⟩
 ·refine⟨its.toList,r,⟨o,n,I.kIn a o hk,hc,hd,by simpa using hs⟩,?_⟩;have e:=r.length;simp only[Array.length_toList] at e;omega
def Z9.tuple(I:Z9 X Z7 σ H s)(h:fA X.K H a xs):∃ its:List Value,Vals xs its/\IsTup s.heap a its.toArray/\xs.length<=sizeLine:=by
 rcases h with h|⟨o,its,n,hk,hc,hs,hz,r⟩
 ·obtain⟨z,its,r,p⟩:=h.ok I.hok;exact⟨its,r,p,z⟩
 ·refine⟨its.toList,r,⟨o,I.kIn a o hk,hc,n,by simpa using hs⟩,?_⟩;have e:=r.length;simp only[Array.length_toList] at e;omega
def Z9.AO(I:Z9 X Z7 σ H s)(h:dR X.K H a xs)(h':dR X.K H a ys):xs=ys:=by
 obtain⟨its,r,⟨o,n,e,_,_,d⟩,_⟩:=I.list h;obtain⟨its',r',⟨o',n',e',_,_,d'⟩,_⟩:=I.list h';rw[e] at e';cases e';rw[d] at d';injection d' with d1 _
 have:its=its':=by simpa using congrArg Array.toList d1
 subst this;exact r.inj r'
def Z9.Dv(I:Z9 X Z7 σ H s)(h:fA X.K H a xs)(h':fA X.K H a ys):xs=ys:=by
 obtain⟨its,r,⟨o,e,_,n,d⟩,_⟩:=I.tuple h;obtain⟨its',r',⟨o',e',_,n',d'⟩,_⟩:=I.tuple h';rw[e] at e';cases e';rw[d] at d';injection d' with d1 _
 have:its=its':=by simpa using congrArg Array.toList d1
 subst this;exact r.inj r'
end
abbrev Cx.CB(X:Cx)(E:q0A):Cx:={X with xe:=E}
abbrev Cx.nox(X:Cx):Cx:=X.CB fun _ _=>False
def Cx.Ok.CB{X:Cx}(ok:X.Ok)(E:q0A):(X.CB E).Ok :=
 ⟨ok.mod,ok.kind,ok.glob,ok.blt,ok.above,ok.inj,ok.has,ok.cab,ok.hd,ok.frames,ok.stk,ok.exf,ok.bs,ok.bsz,ok.Gx,ok.Lp,ok.sQ,ok.frf⟩
def Cx.Ok.pH{X:Cx}{E:q0A}(ok:(X.CB E).Ok):X.Ok :=
 ⟨ok.mod,ok.kind,ok.glob,ok.blt,ok.above,ok.inj,ok.has,ok.cab,ok.hd,ok.frames,ok.stk,ok.exf,ok.bs,ok.bsz,ok.Gx,ok.Lp,ok.sQ,ok.frf⟩
section
variable {X:Cx} {Z7:List (Addr×Obj)} {σ:St} {H:Hp} {s:Shared} {E:q0A}
def Z9.CB(I:Z9 X Z7 σ H s)(E:q0A):Z9 (X.CB E) Z7 σ H s:=⟨I.ok.CB E,I.os,I.bare,I.base,I.loc,I.cell,I.free,I.lM,I.pin,I.hok,I.len⟩
def Z9.pH(I:Z9 (X.CB E) Z7 σ H s):Z9 X Z7 σ H s:=⟨I.ok.pH,I.os,I.bare,I.base,I.loc,I.cell,I.free,I.lM,I.pin,I.hok,I.len⟩
def SP.pH{D:Ends}{f:Flow}{s':Shared}(h:SP (X.CB E) Z7 D f s'):SP X Z7 D f s':=by
 cases f with
 | next=>obtain⟨σ',H',I,q⟩:=h;exact⟨σ',H',I.pH,q⟩
 | brk=>obtain⟨σ',H',I,q⟩:=h;exact⟨σ',H',I.pH,q⟩
 | cont=>obtain⟨σ',H',I,q⟩:=h;exact⟨σ',H',I.pH,q⟩
 | ret u=>obtain⟨v,σ',H',I,r,q⟩:=h;exact⟨v,σ',H',I.pH,r,q⟩
def PSs.nox{st:List Stmt}{t:TS}(h:PSs X.nox st t):PSs X st t:=fun Z7 s σ H D I hw =>
 wpAny_mono (h Z7 s σ H D (I.CB _) hw) (fun _ _ q=>q.pH) fun _ _ z=>False.elim z
end
section
variable {X:Cx} {st:Stmt} {rest:List Stmt} {t u:TS} {e:Expr} {te:TE} {pos:Pos}
def Qa:TS:=fun D σ H=>D.nx σ H
def S4(t u:TS):TS:=fun D σ H=>t {D with nx:=u D} σ H
def aX:PSs X [] Qa:=fun _ _ σ H _ I h=>wpAny_execs_nil ⟨σ,H,I,h⟩
def aC(h1:PS X st t)(h2:PSs X rest u):PSs X (st::rest) (S4 t u):=by
 intro Z7 s σ H D I h;refine wpAny_execs_cons (thn (h1 Z7 s σ H {D with nx:=u D} I h) fun f s1 q=>?_);cases f with
 | next =>
  obtain⟨σ',H',I',q⟩:=q;exact h2 Z7 s1 σ' H' D I' q
 | ret v=>exact q
 | brk=>exact q
 | cont=>exact q
def aF(h1:PS X st t):PSs X [st] t:=by
 intro Z7 s σ H D I h;refine wpAny_execs_cons (thn (h1 Z7 s σ H D I h) fun f s1 q=>?_);cases f with
 | next=>exact wpAny_execs_nil q
 | ret v=>exact q
 | brk=>exact q
 | cont=>exact q
def Z9.quiet{Z7:List (Addr×Obj)}{σ:St}{H:Hp}{s:Shared}(I:Z9 X Z7 σ H s):interactive X.env=false:=by simp[interactive,I.ok.kind]
def P6(te:TE):TS:=fun D σ H=>te σ H fun _ H1=>D.nx σ H1
def cA(he:PE X e te)(hs:swapsWith e none pos.line X.env=pure false:=by rfl):PS X (.Expr e pos) (P6 te):=by
 intro Z7 s σ H D I h;exact wpAny_Expr_any (thn (he Z7 s σ H _ I h) fun v s1 ⟨x,H1,I1,r1,q1⟩=>⟨σ,H1,I1,q1⟩) I.quiet hs
def WL(te:TE):TS:=fun D σ H=>te σ H D.rt
def aM(he:PE X e te):PS X (.Return (some e) pos) (WL te):=by
 intro Z7 s σ H D I h;exact wpAny_Return_some (thn (he Z7 s σ H _ I h) fun v s1 ⟨x,H1,I1,r1,q1⟩=>⟨x,σ,H1,I1,r1,q1⟩)
def P8(c:TT)(t u:TS):TS:=fun D σ H=>c σ H fun b H1=>if b=true then t D σ H1 else u D σ H1
def bF{c:Expr}{a b:List Stmt}{tc:TT}(hc:PT X c tc)(ha:PSs X a t)(hb:PSs X b u):PS X (.If c a b pos) (P8 tc t u):=by
 intro Z7 s σ H D I h;refine wpAny_If (thn (hc Z7 s σ H _ I h) fun d s1 ⟨H1,I1,q1⟩=>?_);cases d with
 | true=>exact ha Z7 s1 σ H1 D I1 q1
 | false=>exact hb Z7 s1 σ H1 D I1 q1
def P9:TS:=fun _ _ _=>False
def Pm:PS X st P9:=fun _ _ _ _ _ _ h=>h.elim
end
abbrev TG:=V->St->Hp->(St->Hp->Prop)->Prop
abbrev TGs:=List V->St->Hp->(St->Hp->Prop)->Prop
def PG(X:Cx)(target:Expr)(t:TG):Prop :=
 ∀(Z7:List (Addr×Obj)) (s:Shared) (σ:St) (H:Hp) (v:V) (u:Value) (Q:St->Hp->Prop),Z9 X Z7 σ H s->bJ v u->t v σ H Q ->
  wpAny (model X.prog X.w) X.A (assign target X.env u) (fun _ s'=>∃ σ' H',Z9 X Z7 σ' H' s'/\Q σ' H') X.xe s
def PGs(X:Cx)(ts:List Expr)(t:TGs):Prop :=
 ∀(Z7:List (Addr×Obj)) (s:Shared) (σ:St) (H:Hp) (vs:List V) (us:List Value) (Q:St->Hp->Prop),Z9 X Z7 σ H s->Vals vs us->t vs σ H Q ->
  wpAny (model X.prog X.w) X.A (assignInOrder ((assignEach ts X.env).map (·.2)) us) (fun _ s'=>∃ σ' H',Z9 X Z7 σ' H' s'/\Q σ' H') X.xe s
abbrev TSet:=V->V->V->Hp->(Hp->Prop)->Prop
def PSet(X:Cx)(t:TSet):Prop :=
 ∀(Z7:List (Addr×Obj)) (s:Shared) (σ:St) (H:Hp) (o i v:V) (ov iv u:Value) (Q:Hp->Prop),Z9 X Z7 σ H s->bJ o ov->bJ i iv->bJ v u->t o i v H Q ->
  wpAny (model X.prog X.w) X.A (setItem ov iv u) (fun _ s'=>∃ H',Z9 X Z7 σ H' s'/\Q H') X.xe s
abbrev TIp:=V->V->Hp->VK->Prop
def PIp(X:Cx)(op:Operator)(t:TIp):Prop :=
 ∀(Z7:List (Addr×Obj)) (s:Shared) (σ:St) (H:Hp) (x y:V) (v u:Value) (Q:VK),Z9 X Z7 σ H s->bJ x v->bJ y u->t x y H Q ->
  wpAny (model X.prog X.w) X.A (inplaceOp op v u) (EP X Z7 σ Q) X.xe s
section
variable {X:Cx} {pos:Pos}
def sS(i:Nat):TG:=fun v σ H Q=>Q (σ.set i (some v)) H
def gK{i:Nat}{x:Str}(hN:X.N.Nodup)(hi:X.N[i]?=some x)(hx:Loc X.env.scope x)(hf:X.fn x=true\/X.env.scope.names.lookup x=some .local:=by first|exact .inl rfl|exact .inr rfl|assumption):PG X (.Name x pos) (sS i):=by
 intro Z7 s σ H v u Q I r h;exact wpAny_assign_Name (BQ I hN hi hx r (fun s' I'=>⟨_,H,I',h⟩) hf)
def RD:TGs:=fun vs σ H Q=>vs=[]/\Q σ H
def JP(t:TG)(u:TGs):TGs:=fun vs σ H Q=>∃ v r,vs=v::r/\t v σ H fun σ' H'=>u r σ' H' Q
def Eu:PGs X [] RD:=by
 intro Z7 s σ H vs us Q I r h;obtain⟨e,h⟩:=h;subst e;cases r;exact assignInOrder_nil ⟨σ,H,I,h⟩
def lT{e:Expr}{es:List Expr}{t:TG}{u:TGs}(h1:PG X e t)(h2:PGs X es u)
    (hs:(assignEach (e::es) X.env).map (·.2)=assign e X.env::(assignEach es X.env).map (·.2):=by rfl):PGs X (e::es) (JP t u):=by
  intro Z7 s σ H vs us Q I r h;obtain⟨v,vr,e1,h⟩:=h;subst e1;cases r with
  | cons r rr =>
    rw[hs];refine assignInOrder_cons (thn (h1 Z7 s σ H _ _ _ I r h) fun _ s1 ⟨σ1,H1,I1,q1⟩=>?_);exact h2 Z7 s1 σ1 H1 _ _ Q I1 rr q1
def RE(K:q0B)(n:Nat)(t:TGs):TG:=fun v σ H Q=>∃ a xs,v=.ref a/\fA K H a xs/\xs.length=n/\t xs σ H Q
def IU{es:List Expr}{k:Nat}{t:TGs}{n:Nat}(hc:X.calm=true)(h:PGs X es t)
    (hn:(assignEach es X.env).length=n:=by rfl) (hst:(assignEach es X.env).findIdx? (·.1)=none:=by rfl):PG X (.Tuple es k pos) (RE X.K n t):=by
  intro Z7 s σ H v u Q I r hw;obtain⟨a,xs,e1,hq,hl,hw⟩:=hw;subst e1;cases r;obtain⟨its,rv,ht,hz⟩:=I.tuple hq;refine assign_Tuple_tuple (I.ok.hd hc) ht (by simp[hn,<- hl,rv.length]) hst fun h' hx=>?_;have I1:Z9 X Z7 σ H {s with heap:=h'}:=I.kept (t':=s.toks) fun b o e=>hx b o (Nat.ne_of_lt (Heap.lt_size e)) e;exact h Z7 _ σ H xs _ Q I1 (by simpa using rv) hw
def X7(to ti:TE)(t:TSet):TG:=fun v σ H Q=>to σ H fun o H1=>ti σ H1 fun i H2=>t o i v H2 fun H3=>Q σ H3
def IT{o i:Expr}{to ti:TE}{t:TSet}(ho:PE X o to)(hi:PE X i ti)(hs:PSet X t)
    (ha:∀ v,assign (.Subscript o i pos) X.env v=(do
      let ov <- holding [v] (eval o X.env);let iv <- holding [v,ov] (eval i X.env)
      standAt pos
      holding [v,ov,iv] (setItem ov iv v)
      release [v,ov,iv] []):=by intro _;rfl):PG X (.Subscript o i pos) (X7 to ti t):=by
  intro Z7 s σ H v u Q I r h;rw[ha];refine wpAny_bind (wpAny_holding (thn (ho Z7 s σ H _ I h) fun ov s1 ⟨x,H1,I1,r1,q1⟩=>?_));refine wpAny_bind (wpAny_holding (thn (hi Z7 s1 σ H1 _ I1 q1) fun iv s2 ⟨y,H2,I2,r2,q2⟩=>?_));refine wpAny_bind (wpAny_standAt (wpAny_bind (wpAny_holding (thn (hs Z7 s2 σ H2 x y v ov iv u _ I2 r1 r2 r q2) fun _ s3 ⟨H3,I3,q3⟩=>?_))));exact wpAny_release ⟨σ,H3,I3,q3⟩
def S3(te:TE)(g:TG):TS:=fun D σ H=>te σ H fun x H1=>g x σ H1 D.nx
def Ew{tg e:Expr}{te:TE}{g:TG}(he:PE X e te)(hg:PG X tg g)(hs:swapsWithSole [tg] e pos.line X.env=pure false:=by rfl)(hw:swappedStores [tg] e X.env=pure none:=by rfl)
    (h1:(assignEach [tg] X.env).map (·.2)=[assign tg X.env]:=by rfl):PS X (.Assign [tg] e pos) (S3 te g):=by
  intro Z7 s σ H D I h;refine wpAny_Assign_stores (thn (he Z7 s σ H _ I h) fun v s1 ⟨x,H1,I1,r1,q1⟩=>?_) hs hw;rw[h1];exact thn (hg Z7 s1 σ H1 x v _ I1 r1 q1) fun _ s2 q=>q
def bA{i:Nat}{x:Str}{e:Expr}{te:TE}{pos':Pos}(hN:X.N.Nodup)(hi:X.N[i]?=some x)(hx:Loc X.env.scope x)(he:PE X e te)(hs:swapsWith e (some (.Name x pos')) pos.line X.env=pure false:=by rfl)(hf:X.fn x=true\/X.env.scope.names.lookup x=some .local:=by first|exact .inl rfl|exact .inr rfl|assumption) :
    PS X (.Assign [.Name x pos'] e pos) (S3 te (sS i)):=by
  intro Z7 s σ H D I h;refine wpAny_Assign_Name (thn (he Z7 s σ H _ I h) fun v s1 ⟨y,H1,I1,r1,q1⟩=>?_) hs;exact BQ I1 hN hi hx r1 (fun s2 I2=>⟨_,H1,I2,q1⟩) hf
def Yz(i:Nat)(te:TE)(ti:TIp):TS:=fun D σ H=>∃ x,σ[i]?=some (some x)/\te σ H fun y H1=>ti x y H1 fun z H2=>D.nx (σ.set i (some z)) H2
def Wm{i:Nat}{x:Str}{e:Expr}{te:TE}{op:Operator}{ti:TIp}{pos':Pos}(hN:X.N.Nodup)(hi:X.N[i]?=some x)(hx:Loc X.env.scope x)(he:PE X e te)(ho:PIp X op ti)(hf:X.fn x=true\/X.env.scope.names.lookup x=some .local:=by first|exact .inl rfl|exact .inr rfl|assumption) :
    PS X (.AugAssign (.Name x pos') op e pos) (Yz i te ti):=by
  intro Z7 s σ H D I h;obtain⟨v,e1,h⟩:=h;obtain⟨m,hn,hl⟩:=I.loc;have vis:Vis X.env.scope x:=by rcases hx with k|k;exact .inl k;exact .inr (.inl k)
  obtain⟨u,r,l⟩:=hl i x v hi e1 vis;refine wpAny_AugAssign_Name ?_;have go:wpAny (model X.prog X.w) X.A (eval e X.env) (fun w s₂=>wpAny (model X.prog X.w) X.A (inplaceOp op u w) (fun r s₃=>wpAny (model X.prog X.w) X.A (storeName X.env x r) (fun _=>SP X Z7 D .next) X.xe s₃) X.xe s₂) X.xe s:=by
    refine thn (he Z7 s σ H _ I h) fun w s1 ⟨y,H1,I1,r1,q1⟩=>?_;refine thn (ho Z7 s1 σ H1 v y u w _ I1 r r1 q1) fun z s2 ⟨zv,H2,I2,r2,q2⟩=>?_;exact BQ I2 hN hi hx r2 (fun s3 I3=>⟨_,H2,I3,q2⟩) hf
  rcases l with⟨hk,hm⟩|⟨hk,c,hc,aaY⟩
  · exact wpAny_loadName_local I.ok.kind hk hn hm go
  · rcases hk with hk|hk
    · exact wpAny_loadName_cell I.ok.kind hk hc aaY go
    · rcases hx with k|k
      · have:X.env.scope.names.lookup x=some .free:=hk;rw[k] at this;cases this
      · have:X.env.scope.names.lookup x=some .free:=hk;rw[k] at this;cases this
def Uc(to ti te:TE)(aaV:V->V->Hp->VK->Prop)(tip:TIp)(aaW:TSet):TS:=fun D σ H=>to σ H fun o H1=>ti σ H1 fun i H2=>aaV o i H2 fun x H3=>te σ H3 fun y H4=>tip x y H4 fun z H5=>aaW o i z H5 fun H6=>D.nx σ H6
def PGet(X:Cx)(t:V->V->Hp->VK->Prop):Prop :=
 ∀(Z7:List (Addr×Obj)) (s:Shared) (σ:St) (H:Hp) (o i:V) (ov iv:Value) (Q:VK),Z9 X Z7 σ H s->bJ o ov->bJ i iv->t o i H Q ->
  wpAny (model X.prog X.w) X.A (getItem ov iv) (EP X Z7 σ Q) X.xe s
def Sq{o i e:Expr}{to ti te:TE}{aaV:V->V->Hp->VK->Prop}{tip:TIp}{aaW:TSet}{op:Operator}{abL:Pos}(ho:PE X o to)(hi:PE X i ti)(hg:PGet X aaV)(he:PE X e te)(hp:PIp X op tip)(hs:PSet X aaW)
    (ha:∀ ov iv new,augStore i ov iv new=(do holding [new,ov,iv] (setItem ov iv new);release [new,ov,iv] [];pure .next):=by intros;rfl):PS X (.AugAssign (.Subscript o i abL) op e pos) (Uc to ti te aaV tip aaW):=by
  intro Z7 s σ H D I h;refine wpAny_AugAssign_SubscriptAny (thn (ho Z7 s σ H _ I h) fun ov s1 ⟨x1,H1,I1,r1,q1⟩=>?_) ha;refine thn (hi Z7 s1 σ H1 _ I1 q1) fun iv s2 ⟨x2,H2,I2,r2,q2⟩=>?_;refine thn (hg Z7 s2 σ H2 x1 x2 ov iv _ I2 r1 r2 q2) fun old s3 ⟨x3,H3,I3,r3,q3⟩=>?_;refine thn (he Z7 s3 σ H3 _ I3 q3) fun v s4 ⟨x4,H4,I4,r4,q4⟩=>?_;refine thn (hp Z7 s4 σ H4 x3 x4 old v _ I4 r3 r4 q4) fun new s5 ⟨x5,H5,I5,r5,q5⟩=>?_;exact thn (hs Z7 s5 σ H5 x1 x2 x5 ov iv new _ I5 r1 r2 r5 q5) fun _ s6 ⟨H6,I6,q6⟩=>⟨σ,H6,I6,q6⟩
def Z2(f:Int->Int->Int):TIp:=fun x y H Q=>∃ i j,x=.int i/\y=.int j/\Q (.int (f i j)) H
def VS:PIp X .Add (Z2 fun i j=>i+j):=by
 intro Z7 s σ H x y v u Q I r1 r2 h;obtain⟨i,j,e1,e2,q⟩:=h;subst e1;subst e2;obtain⟨t,rfl⟩:=r1;obtain⟨t',rfl⟩:=r2;exact iadd_int ⟨.int _,H,I.tok _,⟨_,rfl⟩,q⟩
end
section
variable {X:Cx} {pos:Pos}
def WM(c:TT)(tb:TS):TS:=fun D σ H=>∃ W:Nat->St->Hp->Prop,(∃ m,W m σ H)/\∀ m σ H,W m σ H ->
 c σ H fun b H1=>if b=true then ∃ N:St->Hp->Prop,(∀ σ' H',N σ' H'->∃ m',m' < m/\W m' σ' H')/\tb {D with nx:=N,ct:=N,bk:=D.nx} σ H1 else D.nx σ H1
def GS{c:Expr}{body:List Stmt}{tc:TT}{tb:TS}(hp:PassesOwn (model X.prog X.w) X.A X.env X.xe)(hc:PT X c tc)(hb:PSs X body tb):PS X (.While c body [] pos) (WM tc tb):=by
 intro Z7 s σ H D I h;obtain⟨W,⟨m0,w0⟩,turn⟩:=h;refine wpAny_While (codeAny_whileLoop (fun n s'=>∃ σ' H',Z9 X Z7 σ' H' s'/\W n σ' H') ?_ m0 ⟨σ,H,I,w0⟩);rintro n s1 ⟨σ1,H1,I1,w1⟩;refine wpAny_passesOwn hp (thn (hc Z7 s1 σ1 H1 _ I1 (turn n σ1 H1 w1)) fun b s2 ⟨H2,I2,q2⟩=>?_);cases b with
 | true =>
  obtain⟨N,hN,q2⟩:=q2;rw[if_pos rfl];refine wpAny_passesOwn hp (thn (hb Z7 s2 σ1 H2 _ I2 q2) fun f s3 q3=>?_);cases f with
  | next =>
   obtain⟨σ3,H3,I3,n3⟩:=q3;obtain⟨m',hm,w3⟩:=hN σ3 H3 n3;exact⟨m',hm,σ3,H3,I3,w3⟩
  | cont =>
   obtain⟨σ3,H3,I3,n3⟩:=q3;obtain⟨m',hm,w3⟩:=hN σ3 H3 n3;exact⟨m',hm,σ3,H3,I3,w3⟩
  | brk=>exact q3
  | ret v=>exact q3
 | false =>
  rw[if_neg Bool.false_ne_true];exact wpAny_execs_nil ⟨σ1,H2,I2,q2⟩
end
structure It where
 go:Nat->Hp->Prop
 yld:Nat->Hp->V->Hp->Prop
 stop:Nat->Hp->Prop
def lX(X:Cx)(Z7:List (Addr×Obj))(H:Hp)(b:Addr):Prop :=
 H b=none/\b≠X.env.locals/\b∉X.fs/\(b∈X.ex\/X.s₀.heap.objs.size<=b)/\(∀ x c,X.env.cells.lookup x=some c->c≠b)/\∀ p∈X.pn++Z7,p.1≠b
def Z9.Cd{X:Cx}{Z7:List (Addr×Obj)}{σ:St}{H H':Hp}{s:Shared}{b:Addr}(I:Z9 X Z7 σ H s)(hb:s.heap.objs.size<=b)(hn:H' b=none):lX X Z7 H' b:=by
 refine⟨hn,Nat.ne_of_gt (Nat.lt_of_lt_of_le I.lt hb),I.Wa hb,.inr (Nat.le_trans I.sz hb),fun x c e z=>?_,fun p hp z=>?_⟩
 ·obtain⟨v,q⟩:=I.cell x c e;exact absurd (Nat.lt_of_lt_of_le q.lt (by rw[z];exact hb)) (Nat.lt_irrefl _)
 ·exact absurd (Nat.lt_of_lt_of_le (Heap.lt_size (I.pin p hp).1) (by rw[z];exact hb)) (Nat.lt_irrefl _)
structure Turn(P:Program)(w:World)(K:q0B)(tg:Expr)(J:It)(fp:List Addr)(it:Addr)(tn:Nat->Heap->Prop):Prop where
 mem:it∈fp
 obj:∀ i h,tn i h->∀ b∈fp,∃ o,h.get? b=some o/\∀ v,o.data≠.cell v
 keep:∀ i h h',tn i h->(∀ b∈fp,∀ o,h.get? b=some o->h'.get? b=some o)->tn i h'
 item:∀(X:Cx),X.prog=P->X.w=w->X.K=K->X.calm=true->∀(i:Nat) (Z7:List (Addr×Obj)) (s:Shared) (σ:St) (H:Hp) (E:q0A),Z9 X Z7 σ H s->(∀ b∈fp,lX X Z7 H b)->tn i s.heap->J.go i H ->
  wpAny (model P w) X.A (pyNext (.ref it)) (fun r s1=>∃ u,r=some u /\
   wpAny (model P w) X.A (letOwnedTupleGo tg (.ref it) u) (fun _ s2=>∃ x H',Z9 X Z7 σ H' s2/\bJ x u/\J.yld i H x H'/\tn (i+1) s2.heap/\∀ b∈fp,H' b=none) E s1) E s
 done:∀(X:Cx),X.prog=P->X.w=w->X.K=K->X.calm=true->∀(i:Nat) (Z7:List (Addr×Obj)) (s:Shared) (σ:St) (H:Hp) (E:q0A),Z9 X Z7 σ H s->(∀ b∈fp,lX X Z7 H b)->tn i s.heap->J.stop i H ->
  wpAny (model P w) X.A (pyNext (.ref it)) (fun r s1=>r=none/\Z9 X Z7 σ H s1) E s
 self:∀(A:Around) (i:Nat) (s:Shared) (Q:q0A) (E:q0A),tn i s.heap->Q (.ref it) s->wpAny (model P w) A (pyIter (.ref it)) Q E s
abbrev TI:=St->Hp->(It->Hp->Prop)->Prop
def PIE(X:Cx)(Z7:List (Addr×Obj))(σ:St)(tg:Expr)(R:It->Hp->Prop)(itv:Value)(s2:Shared):Prop :=
 ∃(it:Addr) (fp:List Addr) (tn:Nat->Heap->Prop) (J:It) (H':Hp),itv=.ref it/\Z9 X Z7 σ H' s2/\Turn X.prog X.w X.K tg J fp it tn/\tn 0 s2.heap/\(∀ b∈fp,lX X Z7 H' b)/\R J H'
def PI(X:Cx)(tg iter:Expr)(wi:TI):Prop :=
 ∀(Z7:List (Addr×Obj)) (s:Shared) (σ:St) (H:Hp) (R:It->Hp->Prop),Z9 X Z7 σ H s->wi σ H R ->
  wpAny (model X.prog X.w) X.A (eval iter X.env) (fun v s1=>wpAny (model X.prog X.w) X.A (pyIter v) (PIE X Z7 σ tg R) X.xe s1) X.xe s
def FP{M:Model}{A:Around}{E:q0A}{s:Shared}{tg:Expr}{it:Addr}{u:Value}{o:Obj}{n:String}{vs:Array Value}{Q:Unit->Shared->Prop}(ho:s.heap.get? it=some o)(hc:o.cls=.type n)(hd:o.data=.fields vs)
    (hn:["enumerate","zip","dict_itemiterator","dict_reverseitemiterator","odict_iterator","itertools.zip_longest","itertools.pairwise"].contains n=false) (hQ:Q () s):wpAny M A (letOwnedTupleGo tg (.ref it) u) Q E s:=by
  unfold letOwnedTupleGo;cases tg<;>first
    | exact wpAny_pure hQ
    | (cases u<;>first
        | exact wpAny_pure hQ
        | (refine wpAny_bind (wpAny_load ho ?_)
           rw[hc,hd];show wpAny M A (if (["enumerate","zip","dict_itemiterator","dict_reverseitemiterator","odict_iterator","itertools.zip_longest","itertools.pairwise"].contains n&&vs[0]?==some (rawInt _))=true then _ else _) Q E s;rw[if_neg (by intro h;rw[hn,Bool.false_and] at h;cases h)];exact wpAny_pure hQ))
def Itl(K:q0B)(a:Addr):It :=
 ⟨fun i H=>∃ xs x,dR K H a xs/\xs[i]?=some x,fun i H x H'=>H'=H/\∀ xs,dR K H a xs->xs[i]?=some x,fun i H=>∃ xs,dR K H a xs/\xs.length<=i⟩
def Itt(K:q0B)(a:Addr):It :=
 ⟨fun i H=>∃ xs x,fA K H a xs/\xs[i]?=some x,fun i H x H'=>H'=H/\∀ xs,fA K H a xs->xs[i]?=some x,fun i H=>∃ xs,fA K H a xs/\xs.length<=i⟩
def Itr(lo:Int)(n:Nat):It:=⟨fun i _=>i < n,fun i H x H'=>H'=H/\x=.int (lo+i),fun i _=>n<=i⟩
def MK{P:Program}{w:World}{K:q0B}{tg:Expr}(a it:Addr):Turn P w K tg (Itl K a) [it] it (fun i h=>h.IsListIter it a i) where
 mem:=by simp
 obj:=fun i h st b hb=>by
  have e:b=it:=by simpa using hb
  subst e;obtain⟨o,e,c,d⟩:=st;exact⟨o,e,fun v z=>by rw[d] at z;cases z⟩
 keep:=fun i h h' st k=>st.at fun o e=>k it (by simp) o e
 item:=by
  intro X hP hw hK hc i Z7 s σ H E I hf st hg;subst hP hw hK;obtain⟨xs,x,hq,hx⟩:=hg;obtain⟨its,rv,p,hz⟩:=I.list hq;obtain⟨u,hu,ru⟩:=rv.get hx;obtain⟨f0,f1,f2,f3,f4,f5⟩:=hf it (by simp);refine wpAny_pyNext_list_item st p.isList (x:=u) (by simpa using hu) fun h' st' sb=>?_;have I1:Z9 X Z7 σ H {s with heap:=h'}:=I.turned (t':=s.toks) (fun b o hb e=>(sb.2 b hb).trans e) f0 f1 f3 f4 f5;obtain⟨o,e,c,d⟩:=id st';exact⟨u,rfl,FP (s:={s with heap:=h'}) e c d (by decide) ⟨x,H,I1,ru,⟨rfl,fun ys hy=>by rw[I.AO hy hq];exact hx⟩,st',fun b hb=>(hf b hb).1⟩⟩
 done:=by
  intro X hP hw hK hc i Z7 s σ H E I hf st hg;subst hP hw hK;obtain⟨xs,hq,hx⟩:=hg;obtain⟨its,rv,p,hz⟩:=I.list hq;obtain⟨f0,f1,f2,f3,f4,f5⟩:=hf it (by simp);have hl:=rv.length;exact wpAny_pyNext_list_end (I.ok.hd hc) st p.isList (by simp;omega) fun h' eb=>⟨rfl,I.turned (t':=s.toks) (fun b o hb e=>eb b o hb e) f0 f1 f3 f4 f5⟩
 self:=fun _ _ _ _ _ st h=>wpAny_pyIter_listiter st h
def Jo{P:Program}{w:World}{K:q0B}{tg:Expr}(a it:Addr):Turn P w K tg (Itt K a) [it] it (fun i h=>h.IsTupleIter it a i) where
 mem:=by simp
 obj:=fun i h st b hb=>by
  have e:b=it:=by simpa using hb
  subst e;obtain⟨o,e,c,d⟩:=st;exact⟨o,e,fun v z=>by rw[d] at z;cases z⟩
 keep:=fun i h h' st k=>st.at fun o e=>k it (by simp) o e
 item:=by
  intro X hP hw hK hc i Z7 s σ H E I hf st hg;subst hP hw hK;obtain⟨xs,x,hq,hx⟩:=hg;obtain⟨its,rv,p,hz⟩:=I.tuple hq;obtain⟨u,hu,ru⟩:=rv.get hx;obtain⟨f0,f1,f2,f3,f4,f5⟩:=hf it (by simp);refine wpAny_pyNext_tuple_item st (show s.heap.IsTuple a its.toArray from p) (x:=u) (by simpa using hu) fun h' st' sb=>?_;have I1:Z9 X Z7 σ H {s with heap:=h'}:=I.turned (t':=s.toks) (fun b o hb e=>(sb.2 b hb).trans e) f0 f1 f3 f4 f5;obtain⟨o,e,c,d⟩:=id st';exact⟨u,rfl,FP (s:={s with heap:=h'}) e c d (by decide) ⟨x,H,I1,ru,⟨rfl,fun ys hy=>by rw[I.Dv hy hq];exact hx⟩,st',fun b hb=>(hf b hb).1⟩⟩
 done:=by
  intro X hP hw hK hc i Z7 s σ H E I hf st hg;subst hP hw hK;obtain⟨xs,hq,hx⟩:=hg;obtain⟨its,rv,p,hz⟩:=I.tuple hq;obtain⟨f0,f1,f2,f3,f4,f5⟩:=hf it (by simp);have hl:=rv.length;exact wpAny_pyNext_tuple_end (I.ok.hd hc) st (show s.heap.IsTuple a its.toArray from p) (by simp;omega) fun h' eb=>⟨rfl,I.turned (t':=s.toks) (fun b o hb e=>eb b o hb e) f0 f1 f3 f4 f5⟩
 self:=fun _ _ _ _ _ st h=>wpAny_pyIter_tupleiter st h
def Jn{P:Program}{w:World}{K:q0B}{tg:Expr}(it:Addr)(lo:Int)(n:Nat):Turn P w K tg (Itr lo n) [it] it (fun i h=>IsRangeIter h it (lo+(i:Nat) * 1) ((n:Int) - (i:Nat)) 1) where
 mem:=by simp
 obj:=fun i h st b hb=>by
  have e:b=it:=by simpa using hb
  subst e;exact⟨_,st,fun v z=>by
   have z':Data.fields _=Data.cell v:=z;cases z'⟩
 keep:=fun i h h' st k=>k it (by simp) _ st
 item:=by
  intro X hP hw hK hc i Z7 s σ H E I hf st hg;subst hP hw hK;obtain⟨f0,f1,f2,f3,f4,f5⟩:=hf it (by simp);have W:=Walks.range (prog:=X.prog) (w:=X.w) (I.ok.hd hc) it lo 1 n;refine W.item i s _ _ hg st fun v h' tk hv st' kk=>?_;obtain⟨t,rfl⟩:=hv;have I1:Z9 X Z7 σ H {s with heap:=h',toks:=tk}:=I.turned (fun b o hb e=>kk b o (by simpa using hb) e) f0 f1 f3 f4 f5;refine⟨_,rfl,FP (s:={s with heap:=h',toks:=tk}) (n:="range_iterator") st' rfl rfl (by decide) ⟨.int (lo+i),H,I1,⟨t,?_⟩,⟨rfl,rfl⟩,st',fun b hb=>(hf b hb).1⟩⟩;rw[Int.mul_one]
 done:=by
  intro X hP hw hK hc i Z7 s σ H E I hf st hg;subst hP hw hK;obtain⟨f0,f1,f2,f3,f4,f5⟩:=hf it (by simp);exact wpAny_pyNext_range_end (I.ok.hd hc) st (by have:n<=i:=hg;omega) fun h' eb=>⟨rfl,I.turned (t':=s.toks) (fun b o hb e=>eb b o hb e) f0 f1 f3 f4 f5⟩
 self:=fun _ _ _ _ _ st h=>wpAny_pyIter_rangeiter st h
section
variable {X:Cx} {tg:Expr}
def FU(K:q0B)(tl:TE):TI:=fun σ H R=>tl σ H fun x H1=>∃ a,x=.ref a/\(∃ xs,dR K H1 a xs)/\R (Itl K a) H1
def Ii(K:q0B)(tl:TE):TI:=fun σ H R=>tl σ H fun x H1=>∃ a,x=.ref a/\(∃ xs,fA K H1 a xs)/\R (Itt K a) H1
def i9{l:Expr}{tl:TE}(hl:PE X l tl):PI X tg l (FU X.K tl):=by
 intro Z7 s σ H R I h;refine thn (hl Z7 s σ H _ I h) fun v s1 ⟨x,H1,I1,r1,q1⟩=>?_;obtain⟨a,e,⟨xs,hq⟩,q⟩:=q1;subst e;cases r1;obtain⟨its,rv,p,hz⟩:=I1.list hq;refine wpAny_pyIter_list p.isList ?_;refine⟨s1.heap.objs.size,[s1.heap.objs.size],_,_,H1,rfl,I1.kept (t':=s1.toks) fun b o e=>Heap.get?_push_of_some _ e,MK a _,⟨_,Heap.get?_push_size _ rfl,rfl,rfl⟩,fun b hb=>?_,q⟩;have e:b=s1.heap.objs.size:=by simpa using hb
 subst e;exact I1.Cd (Nat.le_refl _) (I1.hok.fresh (Nat.le_refl _))
def Ph{l:Expr}{tl:TE}(hl:PE X l tl):PI X tg l (Ii X.K tl):=by
 intro Z7 s σ H R I h;refine thn (hl Z7 s σ H _ I h) fun v s1 ⟨x,H1,I1,r1,q1⟩=>?_;obtain⟨a,e,⟨xs,hq⟩,q⟩:=q1;subst e;cases r1;obtain⟨its,rv,p,hz⟩:=I1.tuple hq;refine wpAny_pyIter_tuple (show s1.heap.IsTuple a its.toArray from p) ?_;refine⟨s1.heap.objs.size,[s1.heap.objs.size],_,_,H1,rfl,I1.kept (t':=s1.toks) fun b o e=>Heap.get?_push_of_some _ e,Jo a _,⟨_,Heap.get?_push_size _ rfl,rfl,rfl⟩,fun b hb=>?_,q⟩;have e:b=s1.heap.objs.size:=by simpa using hb
 subst e;exact I1.Cd (Nat.le_refl _) (I1.hok.fresh (Nat.le_refl _))
def GX{Z7:List (Addr×Obj)}{σ:St}{H:Hp}{s:Shared}{R:It->Hp->Prop}{E:q0A}{lo hi:Int}{t u v:Tok}{tk:Nat}(I:Z9 X Z7 σ H s)(h1:-(2 ^ 62)<=lo)(h2:lo < 2 ^ 62)(h3:-(2 ^ 62)<=hi)(h4:hi < 2 ^ 62)
    (q:R (Itr lo (hi - lo).toNat) H):wpAny (model X.prog X.w) X.A (pyIter (.ref s.heap.objs.size)) (PIE X Z7 σ tg R) E {s with heap:=s.heap.push {cls:=.type "range",data:=.fields #[.int lo t,.int hi u,.int 1 v]},toks:=tk}:=by
  refine wpAny_pyIter_range (IsRange.new ..) (small_one h1 h2 h3 h4) ?_;have I1:Z9 X Z7 σ H {s with heap:=s.heap.push {cls:=.type "range",data:=.fields #[.int lo t,.int hi u,.int 1 v]},toks:=tk}:=I.kept fun b o e=>Heap.get?_push_of_some _ e;refine⟨(s.heap.push {cls:=.type "range",data:=.fields #[.int lo t,.int hi u,.int 1 v]}).objs.size,[(s.heap.push {cls:=.type "range",data:=.fields #[.int lo t,.int hi u,.int 1 v]}).objs.size],_,_,H,rfl,
    I1.kept (t':=tk) fun b o e=>Heap.get?_push_of_some _ e,Jn _ lo (hi - lo).toNat,?_,fun b hb=>?_,q⟩
  · have e1:lo+((0:Nat):Int) * 1=lo:=by simp
    have e2:(((hi - lo).toNat:Nat):Int) - ((0:Nat):Int)=Builtin.Range.rangeSize lo hi 1:=by rw[rangeSize_one];split<;>omega
    show IsRangeIter _ _ (lo+((0:Nat):Int) * 1) ((((hi - lo).toNat:Nat):Int) - ((0:Nat):Int)) 1;rw[e1,e2];exact Heap.get?_push_size _ rfl
  · have e:b=(s.heap.push {cls:=.type "range",data:=.fields #[.int lo t,.int hi u,.int 1 v]}).objs.size:=by simpa using hb
    subst e;exact I1.Cd (Nat.le_refl _) (I1.hok.fresh (Nat.le_refl _))
def FV(ta:TA):TI:=fun σ H R=>ta σ H fun vs H1=>∃ j:Int,vs=[.int j]/\-(2 ^ 62)<=j/\j < 2 ^ 62/\R (Itr 0 j.toNat) H1
def Ov(ta:TA):TI:=fun σ H R=>ta σ H fun vs H1=>∃ i j:Int,vs=[.int i,.int j]/\(-(2 ^ 62)<=i/\i < 2 ^ 62/\-(2 ^ 62)<=j/\j < 2 ^ 62)/\R (Itr i (j - i).toNat) H1
def Dl{a:Expr}{ta:TA}{p pos:Pos}(hg:Gl X "range")(hm:X.mg "range"=none)(ha:PA X [a] ta)(hs:starEach [a] X.env=[(false,eval a X.env)]:=by rfl):PI X tg (.Call (.Name "range" p) [a] [] pos) (FV ta):=by
 intro Z7 s σ H R I h;refine Call_ (rA I hg hm boot_range (PyProof.Rows.callWith_type1 (thn (ha pos Z7 s σ H _ I h) fun us s1 ⟨vs,H1,I1,r1,q1⟩=>?_) hs rfl));obtain⟨j,e,q1,q2,q⟩:=q1;subst e;cases r1 with
 | cons r rr =>
  cases rr;obtain⟨t,rfl⟩:=r;exact call_range_1 (GX I1 (by omega) (by omega) q1 q2 (by simpa using q))
def Ml{a b:Expr}{ta:TA}{p pos:Pos}(hg:Gl X "range")(hm:X.mg "range"=none)(ha:PA X [a,b] ta)(hs:starEach [a,b] X.env=[(false,eval a X.env),(false,eval b X.env)]:=by rfl)(hs2:starEach [b] X.env=[(false,eval b X.env)]:=by rfl) :
    PI X tg (.Call (.Name "range" p) [a,b] [] pos) (Ov ta):=by
  intro Z7 s σ H R I h;refine Call_ (rA I hg hm boot_range (PyProof.Rows.callWith_type1 (thn (ha pos Z7 s σ H _ I h) fun us s1 ⟨vs,H1,I1,r1,q1⟩=>?_) (by rw[hs,hs2]) (by rw[hs2];rfl)));obtain⟨i,j,e,⟨q1,q2,q3,q4⟩,q⟩:=q1;subst e;cases r1 with
  | cons r rr =>
    cases rr with
    | cons r' rr =>
      cases rr;obtain⟨t,rfl⟩:=r;obtain⟨t',rfl⟩:=r';exact call_range_2 (GX I1 q1 q2 q3 q4 q)
def BS(wi:TI)(g:TG)(tb:TS):TS:=fun D σ H=>wi σ H fun J H1=>∃ W:Nat->Nat->St->Hp->Prop,(∃ m,W 0 m σ H1)/\∀ i m σ H,W i m σ H ->
 (J.stop i H/\D.nx σ H)\/(J.go i H/\∃ N:St->Hp->Prop,(∀ σ' H',N σ' H'->∃ m',m' < m/\W (i+1) m' σ' H')/\∀ x H',J.yld i H x H'->g x σ H' fun σ2 H2=>tb {D with nx:=N,ct:=N,bk:=D.nx} σ2 H2)
def v9(fp:List Addr)(h:Heap):List (Addr×Obj):=fp.filterMap fun b=>(h.get? b).map fun o=>(b,o)
def gS{fp:List Addr}{h:Heap}{b:Addr}{o:Obj}(hb:b∈fp)(e:h.get? b=some o):(b,o)∈v9 fp h:=List.mem_filterMap.mpr ⟨b,hb,by rw[e];rfl⟩
def L3{fp:List Addr}{h:Heap}{p:Addr×Obj}(hp:p∈v9 fp h):p.1∈fp/\h.get? p.1=some p.2:=by
 obtain⟨b,hb,e⟩:=List.mem_filterMap.mp hp;cases q:h.get? b with
 | none=>rw[q] at e;cases e
 | some o =>
  rw[q] at e;have e':(b,o)=p:=Option.some.inj e;subst e';exact⟨hb,q⟩
def Z9.pinned{Z7:List (Addr×Obj)}{σ:St}{H:Hp}{s:Shared}{fp:List Addr}(I:Z9 X Z7 σ H s)(hf:∀ b∈fp,lX X Z7 H b)(ho:∀ b∈fp,∃ o,s.heap.get? b=some o/\∀ v,o.data≠.cell v):Z9 X (Z7++v9 fp s.heap) σ H s :=
 I.kS fun p hp=>(List.mem_append.mp hp).elim (fun z=>I.pin p (List.mem_append_right _ z)) fun z=>by
  obtain⟨hb,e⟩:=L3 z;obtain⟨f0,f1,f2,_⟩:=hf p.1 hb;obtain⟨o,e',d⟩:=ho p.1 hb;rw[e] at e';cases e';exact⟨e,f0,f1,f2,d⟩
def Z9.BV{Z7 pl:List (Addr×Obj)}{σ:St}{H:Hp}{s:Shared}(I:Z9 X (Z7++pl) σ H s):Z9 X Z7 σ H s:=I.kS fun p hp=>I.pin p (List.mem_append_right _ (List.mem_append_left _ hp))
def Bs{iter:Expr}{body:List Stmt}{wi:TI}{g:TG}{tb:TS}{pos:Pos}(hp:PassesOwn (model X.prog X.w) X.A X.env X.xe)(hc:X.calm=true)(hi:PI X tg iter wi)(hg:PG X tg g)(hb:PSs X body tb)
    (hs:∀ x,foldedSetIterable iter X.env x=pure x:=by intro _;rfl):PS X (.For tg iter body [] pos) (BS wi g tb):=by
  intro Z7 s σ H D I h;refine wpAny_For (thn (hi Z7 s σ H _ I h) fun v s1 h1=>thn h1 fun itv s2 h2=>?_) hs;obtain⟨it,fp,tn,J,H2,e,I2,T,st2,f2,W,⟨m0,w0⟩,turn⟩:=h2;subst e
  -- what stays true of the iterator's objects through the loop
  have aaN:∀ {H':Hp},(∀ b∈fp,H' b=none)->∀ b∈fp,lX X Z7 H' b:=fun hn b hb=>⟨hn b hb,(f2 b hb).2⟩;refine codeAny_forLoop_any (fun n s'=>∃ i σ' H',Z9 X Z7 σ' H' s'/\tn i s'.heap/\(∀ b∈fp,H' b=none)/\W i n σ' H') ?_ m0 ⟨0,σ,H2,I2,st2,fun b hb=>(f2 b hb).1,w0⟩;rintro n s3 ⟨i,σ3,H3,I3,st3,fr3,w3⟩;rcases turn i n σ3 H3 w3 with⟨stop,qn⟩|⟨go,N,hN,step⟩
  · refine wpAny_passesOwn hp (thn (T.done X rfl rfl rfl hc i Z7 s3 σ3 H3 X.xe I3 (aaN fr3) st3 stop) fun r s4 ⟨hr,I4⟩=>?_);subst hr;exact wpAny_execs_nil ⟨σ3,H3,I4,qn⟩
  · refine wpAny_passesOwn hp (thn (T.item X rfl rfl rfl hc i Z7 s3 σ3 H3 X.xe I3 (aaN fr3) st3 go) fun r s4 ⟨u,hr,h4⟩=>?_);subst hr;refine wpAny_passesOwn hp (thn h4 fun _ s5 ⟨x,H5,I5,r5,y5,st5,fr5⟩=>?_);have I5':=I5.pinned (aaN fr5) (T.obj _ _ st5);refine wpAny_passesOwn hp (thn (hg _ s5 σ3 H5 x u _ I5' r5 (step x H5 y5)) fun _ s6 ⟨σ6,H6,I6,q6⟩=>?_);refine wpAny_passesOwn hp (thn (hb _ s6 σ6 H6 _ I6 q6) fun f s7 q7=>?_);have again:∀ {σ7:St} {H7:Hp},Z9 X (Z7++v9 fp s5.heap) σ7 H7 s7->N σ7 H7->∃ m,m < n/\∃ i σ' H',Z9 X Z7 σ' H' s7/\tn i s7.heap/\(∀ b∈fp,H' b=none)/\W i m σ' H':=fun {σ7 H7} I7 n7=>by
      obtain⟨m',hm,w7⟩:=hN σ7 H7 n7;refine⟨m',hm,i+1,σ7,H7,I7.BV,T.keep _ _ _ st5 fun b hb o e=>(I7.pin (b,o) (List.mem_append_right _ (List.mem_append_right _ (gS hb e)))).1,fun b hb=>?_,w7⟩;obtain⟨o,e,d⟩:=T.obj _ _ st5 b hb;exact(I7.pin (b,o) (List.mem_append_right _ (List.mem_append_right _ (gS hb e)))).2.1
    cases f with
    | next=>obtain⟨σ7,H7,I7,n7⟩:=q7;exact again I7 n7
    | cont=>obtain⟨σ7,H7,I7,n7⟩:=q7;exact again I7 n7
    | brk=>obtain⟨σ7,H7,I7,q7⟩:=q7;exact⟨σ7,H7,I7.BV,q7⟩
    | ret v=>obtain⟨x7,σ7,H7,I7,r7,q7⟩:=q7;exact⟨x7,σ7,H7,I7.BV,r7,q7⟩
end
def Og{K:q0B}{a:Addr}{xs:List V}{g:TG}{tb:TS}{D:Ends}{σ:St}{H:Hp}(Pv:Nat->St->Hp->Prop)(h0:Pv 0 σ H)(hl:∀ i σ H,i<=xs.length->Pv i σ H->dR K H a xs)
    (hs:∀ i x σ H,xs[i]?=some x->Pv i σ H->g x σ H fun σ2 H2=>tb {D with nx:=Pv (i+1),ct:=Pv (i+1),bk:=D.nx} σ2 H2) (hd:∀ σ H,Pv xs.length σ H->D.nx σ H) :
    ∃ W:Nat->Nat->St->Hp->Prop,(∃ m,W 0 m σ H)/\∀ i m σ H,W i m σ H ->
      ((Itl K a).stop i H/\D.nx σ H)\/((Itl K a).go i H/\∃ N:St->Hp->Prop,(∀ σ' H',N σ' H'->∃ m',m' < m/\W (i+1) m' σ' H')/\∀ x H',(Itl K a).yld i H x H'->g x σ H' fun σ2 H2=>tb {D with nx:=N,ct:=N,bk:=D.nx} σ2 H2):=by
  refine⟨fun i m σ H=>m=xs.length - i/\i<=xs.length/\Pv i σ H,⟨xs.length,by simp,Nat.zero_le _,h0⟩,?_⟩;rintro i m σ H ⟨rfl,hi,p⟩;have q:=hl i σ H hi p;by_cases hlt:i < xs.length
  · refine .inr ⟨⟨xs,xs[i],q,by simp[hlt]⟩,Pv (i+1),fun σ' H' p'=>⟨xs.length - (i+1),by omega,rfl,hlt,p'⟩,fun x H' y=>?_⟩;obtain⟨e,y⟩:=y;subst e;exact hs i x σ _ (y xs q) p
  · have e:i=xs.length:=by omega
    subst e;exact .inl ⟨⟨xs,q,Nat.le_refl _⟩,hd σ H p⟩
def vA{lo:Int}{n:Nat}{g:TG}{tb:TS}{D:Ends}{σ:St}{H:Hp}(Pv:Nat->St->Hp->Prop)(h0:Pv 0 σ H)
    (hs:∀ i σ H,i < n->Pv i σ H->g (.int (lo+i)) σ H fun σ2 H2=>tb {D with nx:=Pv (i+1),ct:=Pv (i+1),bk:=D.nx} σ2 H2) (hd:∀ σ H,Pv n σ H->D.nx σ H) :
    ∃ W:Nat->Nat->St->Hp->Prop,(∃ m,W 0 m σ H)/\∀ i m σ H,W i m σ H ->
      ((Itr lo n).stop i H/\D.nx σ H)\/((Itr lo n).go i H/\∃ N:St->Hp->Prop,(∀ σ' H',N σ' H'->∃ m',m' < m/\W (i+1) m' σ' H')/\∀ x H',(Itr lo n).yld i H x H'->g x σ H' fun σ2 H2=>tb {D with nx:=N,ct:=N,bk:=D.nx} σ2 H2):=by
  refine⟨fun i m σ H=>m=n - i/\i<=n/\Pv i σ H,⟨n,by simp,Nat.zero_le _,h0⟩,?_⟩;rintro i m σ H ⟨rfl,hi,p⟩;by_cases hlt:i < n
  · refine .inr ⟨hlt,Pv (i+1),fun σ' H' p'=>⟨n - (i+1),by omega,rfl,hlt,p'⟩,fun x H' y=>?_⟩;obtain⟨e,y⟩:=y;subst e y;exact hs i σ _ hlt p
  · have e:i=n:=by omega
    subst e;exact .inl ⟨Nat.le_refl _,hd σ H p⟩
abbrev R2:=V->V->Hp->VK->Prop
def iW(X:Cx)(f:Value->Value->Sem Value)(r:R2):Prop :=
 ∀(Z7:List (Addr×Obj)) (s:Shared) (σ:St) (H:Hp) (x y:V) (v u:Value) (Q:VK),Z9 X Z7 σ H s->bJ x v->bJ y u->r x y H Q ->
  wpAny (model X.prog X.w) X.A (f v u) (EP X Z7 σ Q) X.xe s
def Y8(X:Cx)(f:Value->Sem Value)(r:V->Hp->VK->Prop):Prop :=
 ∀(Z7:List (Addr×Obj)) (s:Shared) (σ:St) (H:Hp) (x:V) (v:Value) (Q:VK),Z9 X Z7 σ H s->bJ x v->r x H Q ->
  wpAny (model X.prog X.w) X.A (f v) (EP X Z7 σ Q) X.xe s
def dG(X:Cx)(f:Value)(r:List V->Hp->VK->Prop):Prop :=
 ∀(Z7:List (Addr×Obj)) (s:Shared) (σ:St) (H:Hp) (xs:List V) (us:List Value) (Q:VK),Z9 X Z7 σ H s->Vals xs us->r xs H Q ->
  wpAny (model X.prog X.w) X.A (call f us) (EP X Z7 σ Q) X.xe s
def Y7(X:Cx)(r:V->Hp->(Bool->Hp->Prop)->Prop):Prop :=
 ∀(Z7:List (Addr×Obj)) (s:Shared) (σ:St) (H:Hp) (x:V) (v:Value) (Q:Bool->Hp->Prop),Z9 X Z7 σ H s->bJ x v->r x H Q ->
  wpAny (model X.prog X.w) X.A (truthy v) (TP X Z7 σ Q) X.xe s
def WS(r:R2)(ta tb:TE):TE:=fun σ H Q=>ta σ H fun x H1=>tb σ H1 fun y H2=>r x y H2 Q
def ZY(r:V->Hp->VK->Prop)(ta:TE):TE:=fun σ H Q=>ta σ H fun x H1=>r x H1 Q
def rI(C:Int->Int->Prop)(g:Int->Int->V):R2:=fun x y H Q=>∃ i j,x=.int i/\y=.int j/\C i j/\Q (g i j) H
def Qs(g:Int->Int->V):R2:=fun x y H Q=>∃ i j,x=.int i/\y=.int j/\Q (g i j) H
def rU(g:Int->V):V->Hp->VK->Prop:=fun x H Q=>∃ i,x=.int i/\Q (g i) H
section
variable {X:Cx} {a b c:Expr} {ta tb tc:TE} {pos:Pos}
def Uu(ha:PE X a ta)(hb:PE X b tb){Z7:List (Addr×Obj)}{s:Shared}{σ:St}{H:Hp}{R:V->V->Hp->Prop}(I:Z9 X Z7 σ H s)
    (h:ta σ H fun x H1=>tb σ H1 fun y H2=>R x y H2) {Q:q0A} {f:Value->Value->Sem Value}
    (hf:∀ v u s2 x y H2,Z9 X Z7 σ H2 s2->bJ x v->bJ y u->R x y H2->wpAny (model X.prog X.w) X.A (f v u) Q X.xe s2) :
    wpAny (model X.prog X.w) X.A (eval a X.env) (fun v s₁=>wpAny (model X.prog X.w) X.A (eval b X.env) (fun u s₂=>wpAny (model X.prog X.w) X.A (f v u) Q X.xe s₂) X.xe s₁) X.xe s:=by
  refine thn (ha Z7 s σ H _ I h) fun v s1 ⟨x,H1,I1,r1,q1⟩=>?_;refine thn (hb Z7 s1 σ H1 _ I1 q1) fun u s2 ⟨y,H2,I2,r2,q2⟩=>?_;exact hf v u s2 x y H2 I2 r1 r2 q2
def bI{op:Operator}{r:R2}(ho:iW X (binaryOp op) r)(ha:PE X a ta)(hb:PE X b tb):PE X (.BinOp a op b pos) (WS r ta tb):=by
 intro Z7 s σ H Q I h;exact wpAny_BinOp (Uu ha hb I h fun v u s2 x y H2 I2 rx ry q=>ho Z7 s2 σ H2 x y v u Q I2 rx ry q)
def oS{op:UnaryOp}{r:V->Hp->VK->Prop}(ho:Y8 X (unaryOp op) r)(ha:PE X a ta):PE X (.UnaryOp op a pos) (ZY r ta):=by
 intro Z7 s σ H Q I h;exact UnaryOp_ (thn (ha Z7 s σ H _ I h) fun v s1 ⟨x,H1,I1,r1,q1⟩=>ho Z7 s1 σ H1 x v Q I1 r1 q1)
def Y1{f:Value->Value->Sem Value}{C:Int->Int->Prop}{g:Int->Int->Int}
    (rule:∀(i j:Int) (t u:Tok) (s:Shared) (Q:q0A) (E:q0A),C i j->Q (.int (g i j) s.toks) {s with toks:=s.toks+1}->wpAny (model X.prog X.w) X.A (f (.int i t) (.int j u)) Q E s) :
    iW X f (rI C fun i j=>.int (g i j)):=by
  intro Z7 s σ H x y v u Q I rx ry h;obtain⟨i,j,rfl,rfl,hc,q⟩:=h;obtain⟨t,rfl⟩:=rx;obtain⟨t',rfl⟩:=ry;exact rule i j t t' s _ _ hc ⟨.int (g i j),H,I.tok _,⟨_,rfl⟩,q⟩
def Yi{f:Value->Value->Sem Value}{g:Int->Int->Int}
    (rule:∀(i j:Int) (t u:Tok) (s:Shared) (Q:q0A) (E:q0A),Q (.int (g i j) s.toks) {s with toks:=s.toks+1}->wpAny (model X.prog X.w) X.A (f (.int i t) (.int j u)) Q E s) :
    iW X f (Qs fun i j=>.int (g i j)):=by
  intro Z7 s σ H x y v u Q I rx ry h;obtain⟨i,j,rfl,rfl,q⟩:=h;obtain⟨t,rfl⟩:=rx;obtain⟨t',rfl⟩:=ry;exact rule i j t t' s _ _ ⟨.int (g i j),H,I.tok _,⟨_,rfl⟩,q⟩
def Sf{f:Value->Value->Sem Value}{g:Int->Int->Bool}
    (rule:∀(i j:Int) (t u:Tok) (s:Shared) (Q:q0A) (E:q0A),Q (.bool (g i j)) s->wpAny (model X.prog X.w) X.A (f (.int i t) (.int j u)) Q E s) :
    iW X f (Qs fun i j=>.bl (g i j)):=by
  intro Z7 s σ H x y v u Q I rx ry h;obtain⟨i,j,rfl,rfl,q⟩:=h;obtain⟨t,rfl⟩:=rx;obtain⟨t',rfl⟩:=ry;exact rule i j t t' s _ _ ⟨.bl (g i j),H,I,rfl,q⟩
def CPow(i j:Int):Prop:=0<=j/\j<=1000000/\i.natAbs < 2 ^ 64
def CMul(i j:Int):Prop:=(-(2 ^ 64) < i/\i < 2 ^ 64)\/(-(2 ^ 64) < j/\j < 2 ^ 64)
def CMul.ok{i j:Int}(h:CMul i j):IntMulOk i j:=by
 rcases h with⟨h1,h2⟩|⟨h1,h2⟩
 ·exact .of_left (intBits_le_64 h1 h2)
 ·exact .of_right (intBits_le_64 h1 h2)
def Wf:iW X (binaryOp .Add) (Qs fun i j=>.int (i+j)):=Yi fun _ _ _ _ _ _ _ q=>add_int q
def gJ:iW X (binaryOp .Sub) (Qs fun i j=>.int (i - j)):=Yi fun _ _ _ _ _ _ _ q=>sub_int q
def rH:iW X (binaryOp .Mult) (rI CMul fun i j=>.int (i * j)):=Y1 fun _ _ _ _ _ _ _ hc q=>mul_int q hc.ok
def oP:iW X (binaryOp .Mod) (rI (fun _ j=>0 < j) fun i j=>.int (i % j)):=Y1 fun i j _ _ _ _ _ hc q=>by
 have h1:(0:Int) < j:=hc;exact mod_int' (by omega) (by rw[Int.fmod_eq_emod_of_nonneg i (by omega)];exact q)
def k7:iW X (binaryOp .Pow) (rI CPow fun i j=>.int (i ^ j.toNat)):=Y1 fun _ _ _ _ _ _ _ hc q=>pow_int_small hc.1 hc.2.1 hc.2.2 q
def Z5{f:Value->Sem Value}{g:Int->Int}
    (rule:∀(i:Int) (t:Tok) (s:Shared) (Q:q0A) (E:q0A),Q (.int (g i) s.toks) {s with toks:=s.toks+1}->wpAny (model X.prog X.w) X.A (f (.int i t)) Q E s) :
    Y8 X f (rU fun i=>.int (g i)):=by
  intro Z7 s σ H x v Q I rx h;obtain⟨i,rfl,q⟩:=h;obtain⟨t,rfl⟩:=rx;exact rule i t s _ _ ⟨.int (g i),H,I.tok _,⟨_,rfl⟩,q⟩
def kD:Y8 X (unaryOp .USub) (rU fun i=>.int (-i)):=Z5 fun _ _ _ _ _ q=>neg_int q
end
def scal:V->V->Bool
 | .non,.non=>true | .non,.int _=>true | .int _,.non=>true | .non,.bl _=>true | .bl _,.non=>true | .non,.str _=>true | .str _,.non=>true
 | .int _,.int _=>true | .bl _,.bl _=>true | .str _,.str _=>true | .byt _,.byt _=>true
 | .int _,.str _=>true | .str _,.int _=>true | .bl _,.str _=>true | .str _,.bl _=>true
 | _,_=>false
def Sw:R2:=fun x y H Q=>scal x y=true/\Q (.bl (decide (x=y))) H
def Ys:R2:=fun x y H Q=>scal x y=true/\Q (.bl (!decide (x=y))) H
def Jz{i j:Int}:decide (V.int i=V.int j)=(i==j):=by
 rw[Bool.eq_iff_iff];simp
def Ny{i j:Bool}:decide (V.bl i=V.bl j)=(i==j):=by
 rw[Bool.eq_iff_iff];simp
def JA{i j:Str}:decide (V.str i=V.str j)=(i==j):=by
 rw[Bool.eq_iff_iff];simp
def Jy{i j:Array UInt8}:decide (V.byt i=V.byt j)=(i.toList==j.toList):=by
 rw[Bool.eq_iff_iff];cases i;cases j;simp
section
variable {X:Cx} {a b c:Expr} {ta tb tc:TE} {pos:Pos}
def bU{Z7:List (Addr×Obj)}{σ:St}{H:Hp}{s:Shared}{Q:VK}{k k':Bool}(I:Z9 X Z7 σ H s)(q:Q (.bl k) H)(e:k=k'):EP X Z7 σ Q (.bool k') s:=by
 subst e;exact⟨.bl k,H,I,rfl,q⟩
def cB:iW X (compareOp .Eq) Sw:=by
 intro Z7 s σ H x y v u Q I rx ry h;obtain⟨hs,q⟩:=h;cases x with
 | non =>
  cases rx;cases y with
  | non=>cases ry;exact PySem.EqNone.eq_none_none (bU I q (by simp))
  | bl j=>cases ry;exact PySem.EqNone.eq_none_bool (bU I q (by simp))
  | int j=>obtain⟨t',rfl⟩:=ry;exact PySem.EqNone.eq_none_int (bU I q (by simp))
  | str j=>obtain⟨t',rfl⟩:=ry;exact PySem.EqNone.eq_none_str (bU I q (by simp))
  | _=>exact absurd (show false=true from hs) Bool.false_ne_true
 | bl i =>
  cases rx;cases y with
  | non=>cases ry;exact PySem.EqNone.eq_bool_none (bU I q (by simp))
  | bl j=>cases ry;exact eq_bool (bU I q Ny)
  | str j=>obtain⟨t',rfl⟩:=ry;exact PySem.EqMixed.eq_bool_str (bU I q (by simp))
  | _=>exact absurd (show false=true from hs) Bool.false_ne_true
 | int i =>
  obtain⟨t,rfl⟩:=rx;cases y with
  | non=>cases ry;exact PySem.EqNone.eq_int_none (bU I q (by simp))
  | int j=>obtain⟨t',rfl⟩:=ry;exact eq_int (bU I q Jz)
  | str j=>obtain⟨t',rfl⟩:=ry;exact PySem.EqMixed.eq_int_str (bU I q (by simp))
  | _=>exact absurd (show false=true from hs) Bool.false_ne_true
 | str i =>
  obtain⟨t,rfl⟩:=rx;cases y with
  | non=>cases ry;exact PySem.EqNone.eq_str_none (bU I q (by simp))
  | bl j=>cases ry;exact PySem.EqMixed.eq_str_bool (bU I q (by simp))
  | int j=>obtain⟨t',rfl⟩:=ry;exact PySem.EqMixed.eq_str_int (bU I q (by simp))
  | str j=>obtain⟨t',rfl⟩:=ry;exact eq_str (bU I q JA)
  | _=>exact absurd (show false=true from hs) Bool.false_ne_true
 | byt i =>
  obtain⟨t,rfl⟩:=rx;cases y with
  | byt j=>obtain⟨t',rfl⟩:=ry;exact PySem.W.eq_bytes (bU I q Jy)
  | _=>exact absurd (show false=true from hs) Bool.false_ne_true
 | _=>cases y<;>exact absurd (show false=true from hs) Bool.false_ne_true
def Pa:iW X (compareOp .NotEq) Ys:=by
 intro Z7 s σ H x y v u Q I rx ry h;obtain⟨hs,q⟩:=h;cases x with
 | non =>
  cases rx;cases y with
  | non=>cases ry;exact PySem.EqNone.ne_none_none (bU I q (by simp))
  | bl j=>cases ry;exact PySem.EqNone.ne_none_bool (bU I q (by simp))
  | int j=>obtain⟨t',rfl⟩:=ry;exact PySem.EqNone.ne_none_int (bU I q (by simp))
  | str j=>obtain⟨t',rfl⟩:=ry;exact PySem.EqNone.ne_none_str (bU I q (by simp))
  | _=>exact absurd (show false=true from hs) Bool.false_ne_true
 | bl i =>
  cases rx;cases y with
  | non=>cases ry;exact PySem.EqNone.ne_bool_none (bU I q (by simp))
  | bl j=>cases ry;exact ne_bool (bU I q (congrArg not Ny))
  | str j=>obtain⟨t',rfl⟩:=ry;exact PySem.EqMixed.ne_bool_str (bU I q (by simp))
  | _=>exact absurd (show false=true from hs) Bool.false_ne_true
 | int i =>
  obtain⟨t,rfl⟩:=rx;cases y with
  | non=>cases ry;exact PySem.EqNone.ne_int_none (bU I q (by simp))
  | int j=>obtain⟨t',rfl⟩:=ry;exact ne_int (bU I q (congrArg not Jz))
  | str j=>obtain⟨t',rfl⟩:=ry;exact PySem.EqMixed.ne_int_str (bU I q (by simp))
  | _=>exact absurd (show false=true from hs) Bool.false_ne_true
 | str i =>
  obtain⟨t,rfl⟩:=rx;cases y with
  | non=>cases ry;exact PySem.EqNone.ne_str_none (bU I q (by simp))
  | bl j=>cases ry;exact PySem.EqMixed.ne_str_bool (bU I q (by simp))
  | int j=>obtain⟨t',rfl⟩:=ry;exact PySem.EqMixed.ne_str_int (bU I q (by simp))
  | str j=>obtain⟨t',rfl⟩:=ry;exact ne_str (bU I q (congrArg not JA))
  | _=>exact absurd (show false=true from hs) Bool.false_ne_true
 | byt i =>
  obtain⟨t,rfl⟩:=rx;cases y with
  | byt j=>obtain⟨t',rfl⟩:=ry;exact PySem.W.ne_bytes (bU I q (congrArg not Jy))
  | _=>exact absurd (show false=true from hs) Bool.false_ne_true
 | _=>cases y<;>exact absurd (show false=true from hs) Bool.false_ne_true
def qO:iW X (compareOp .Lt) (Qs fun i j=>.bl (decide (i < j))):=Sf fun _ _ _ _ _ _ _ q=>lt_int q
def Dj:iW X (compareOp .LtE) (Qs fun i j=>.bl (decide (i<=j))):=Sf fun _ _ _ _ _ _ _ q=>le_int q
def O9:iW X (compareOp .Gt) (Qs fun i j=>.bl (decide (j < i))):=Sf fun _ _ _ _ _ _ _ q=>gt_int q
def Yj:iW X (compareOp .GtE) (Qs fun i j=>.bl (decide (j<=i))):=Sf fun _ _ _ _ _ _ _ q=>ge_int q
def Wi:iW X (compareOp .Is) (fun x y H Q=>y=.non/\Q (.bl (decide (x=.non))) H):=by
 intro Z7 s σ H x y v u Q I rx ry h;obtain⟨rfl,q⟩:=h;cases ry;refine is_none_gen (bU I q ?_);cases x<;>first
  | (cases rx;rfl)
  | (obtain⟨t,rfl⟩:=rx;rfl)
def Sh:iW X (compareOp .IsNot) (fun x y H Q=>y=.non/\Q (.bl (!decide (x=.non))) H):=by
 intro Z7 s σ H x y v u Q I rx ry h;obtain⟨rfl,q⟩:=h;cases ry;refine isnot_none_gen (bU I q ?_);cases x<;>first
  | (cases rx;rfl)
  | (obtain⟨t,rfl⟩:=rx;rfl)
def iW.or{f:Value->Value->Sem Value}{r r':R2}(h:iW X f r)(h':iW X f r'):iW X f (fun x y H Q=>r x y H Q\/r' x y H Q):=by
 intro Z7 s σ H x y v u Q I rx ry q;rcases q with q|q
 ·exact h Z7 s σ H x y v u Q I rx ry q
 ·exact h' Z7 s σ H x y v u Q I rx ry q
def nomark(b:Expr){op:CmpOp}(h:op≠.In:=by decide)(h2:op≠.NotIn:=by decide):behindInMarks op b=false:=by
 have e1:(op==CmpOp.In)=false:=by cases op<;>first|rfl|exact absurd rfl h
 have e2:(op==CmpOp.NotIn)=false:=by cases op<;>first|rfl|exact absurd rfl h2
 cases b<;>simp[behindInMarks,e1,e2]
def hE{op:CmpOp}{r:R2}(ho:iW X (compareOp op) r)(ha:PE X a ta)(hb:PE X b tb)(hm:behindInMarks op b=false):PE X (.Compare a [op] [b] pos) (WS r ta tb):=by
 intro Z7 s σ H Q I h;exact wpAny_Compare1 (Uu ha hb I h fun v u s2 x y H2 I2 rx ry q=>ho Z7 s2 σ H2 x y v u Q I2 rx ry q) hm
def Du(t:TE):TT:=fun σ H Q=>t σ H fun x H'=>∃ k,x=.bl k/\Q k H'
def aR{op:CmpOp}{r:R2}(ho:iW X (compareOp op) r)(ha:PE X a ta)(hb:PE X b tb)(hm:behindInMarks op b=false):PT X (.Compare a [op] [b] pos) (Du (WS r ta tb)):=by
 intro Z7 s σ H Q I h;refine wpAny_isTrue_Compare1 (thn (ha Z7 s σ H _ I h) fun v s1 ⟨x,H1,I1,r1,q1⟩=>thn (hb Z7 s1 σ H1 _ I1 q1) fun u s2 ⟨y,H2,I2,r2,q2⟩ =>
  thn (ho Z7 s2 σ H2 x y v u _ I2 r1 r2 q2) fun c s3 ⟨z,H3,I3,r3,k,e,q3⟩=>?_) hm
 subst e;cases r3;exact wpAny_truthy_bool ⟨H3,I3,q3⟩
def EY(r r':R2)(ta tb tc:TE):TE:=fun σ H Q=>ta σ H fun x H1=>tb σ H1 fun y H2=>r x y H2 fun z H3=>∃ k,z=.bl k /\
 (if k=true then tc σ H3 fun w' H4=>r' y w' H4 Q else Q (.bl false) H3)
def Bq{op op':CmpOp}{r r':R2}(ho:iW X (compareOp op) r)(ho':iW X (compareOp op') r')(ha:PE X a ta)(hb:PE X b tb)(hc:PE X c tc)
    (hm:lastMarks [op,op'] [b,c]=false:=by with_unfolding_all rfl):PE X (.Compare a [op,op'] [b,c] pos) (EY r r' ta tb tc):=by
  intro Z7 s σ H Q I h;refine Compare_chain (thn (ha Z7 s σ H _ I h) fun v s1 ⟨x,H1,I1,r1,q1⟩=>chain_link (thn (hb Z7 s1 σ H1 _ I1 q1) fun u s2 ⟨y,H2,I2,r2,q2⟩ =>
    thn (ho Z7 s2 σ H2 x y v u _ I2 r1 r2 q2) fun d s3 ⟨z,H3,I3,r3,k,e,q3⟩=>?_)) hm
  subst e;cases r3;refine wpAny_truthy_bool ?_;cases k with
  | false=>exact ite_ff ⟨.bl false,H3,I3,rfl,q3⟩
  | true=>exact ite_tt (chain_last (thn (hc Z7 s3 σ H3 _ I3 q3) fun w' s4 ⟨z',H4,I4,r4,q4⟩=>ho' Z7 s4 σ H4 y z' u w' Q I4 r2 r4 q4))
def GU{op op':CmpOp}{r r':R2}(ho:iW X (compareOp op) r)(ho':iW X (compareOp op') r')(ha:PE X a ta)(hb:PE X b tb)(hc:PE X c tc)
    (hm:lastMarks [op,op'] [b,c]=false:=by with_unfolding_all rfl):PT X (.Compare a [op,op'] [b,c] pos) (Du (EY r r' ta tb tc)):=by
  intro Z7 s σ H Q I h;refine isTrue_chain (thn (ha Z7 s σ H _ I h) fun v s1 ⟨x,H1,I1,r1,q1⟩=>test_link (thn (hb Z7 s1 σ H1 _ I1 q1) fun u s2 ⟨y,H2,I2,r2,q2⟩ =>
    thn (ho Z7 s2 σ H2 x y v u _ I2 r1 r2 q2) fun d s3 ⟨z,H3,I3,r3,k,e,q3⟩=>?_)) hm
  subst e;cases r3;refine wpAny_truthy_bool ?_;cases k with
  | false =>
    obtain⟨k',e',q'⟩:=q3;cases e';exact ite_ff ⟨H3,I3,q'⟩
  | true =>
    refine ite_tt (test_last (thn (hc Z7 s3 σ H3 _ I3 q3) fun w' s4 ⟨z',H4,I4,r4,q4⟩=>thn (ho' Z7 s4 σ H4 y z' u w' _ I4 r2 r4 q4) fun d' s5 ⟨z2,H5,I5,r5,k2,e2,q5⟩=>?_));subst e2;cases r5;exact wpAny_truthy_bool ⟨H5,I5,q5⟩
def WW(K:q0B)(x:V)(H:Hp)(k:Bool):Prop :=
 match x with
 | .non=>k=false
 | .bl b=>k=b
 | .int i=>k=(i !=0)
 | .str y=>y.length<=sizeLine/\k=((y.length:Int) !=0)
 | .byt y=>y.size<=sizeLine/\k=((y.size:Int) !=0)
 | .ref p=>(∃ xs,dR K H p xs/\k = !xs.isEmpty)\/(∃ xs,fA K H p xs/\k = !xs.isEmpty)\/∃ kvs,H p=some (.dK kvs)/\k = !kvs.isEmpty
 | _=>False
def Ik{κ:Type}{kvs:List (κ×V)}{vs:List (κ×Value)}(r:KV kvs vs):(!vs.isEmpty) = !kvs.isEmpty:=by
 cases r<;>rfl
def AL{xs:List V}{its:List Value}(r:Vals xs its):(!its.toArray.isEmpty) = !xs.isEmpty:=by
 cases r<;>simp
def line63:(sizeLine:Nat) < 2 ^ 63:=by rw[sizeLine_eq];decide
def WO:Y7 X (fun x H Q=>∃ k,WW X.K x H k/\Q k H):=by
 intro Z7 s σ H x v Q I rx h;obtain⟨k,e,q⟩:=h;have hl:=line63;have hs:sizeLine=16777216:=sizeLine_eq;cases x with
 | non =>
  cases rx;have e':k=false:=e;subst e';exact truthy_none ⟨H,I,q⟩
 | bl b =>
  cases rx;have e':k=b:=e;subst e';exact wpAny_truthy_bool ⟨H,I,q⟩
 | int i =>
  obtain⟨t,rfl⟩:=rx;have e':k=(i !=0):=e;subst e';exact PySem.P.truthy_int ⟨H,I,q⟩
 | str y =>
  obtain⟨t,rfl⟩:=rx;obtain⟨hy,e'⟩:y.length<=sizeLine/\k=((y.length:Int) !=0):=e;subst e';exact PySem.P.truthy_str (by omega) ⟨H,I.tok _,q⟩
 | byt y =>
  obtain⟨t,rfl⟩:=rx;obtain⟨hy,e'⟩:y.size<=sizeLine/\k=((y.size:Int) !=0):=e;subst e';exact PySem.W.truthy_bytes (by omega) ⟨H,I.tok _,q⟩
 | ref p =>
  cases rx;have e':(∃ xs,dR X.K H p xs/\k = !xs.isEmpty)\/(∃ xs,fA X.K H p xs/\k = !xs.isEmpty)\/∃ kvs,H p=some (.dK kvs)/\k = !kvs.isEmpty:=e;rcases e' with⟨xs,hx,e'⟩|⟨xs,hx,e'⟩|⟨kvs,hx,e'⟩
  ·subst e';obtain⟨its,r,pl,hz⟩:=I.list hx;have hlen:=r.length;exact wpAny_truthy_list pl.isList (by simp only[List.size_toArray];omega) ⟨H,I.tok _,by rw[AL r];exact q⟩
  ·subst e';obtain⟨its,r,pl,hz⟩:=I.tuple hx;have hlen:=r.length;exact truthy_tuple pl (by simp only[List.size_toArray];omega) ⟨H,I.tok _,by rw[AL r];exact q⟩
  ·subst e';obtain⟨hz,hS,vs,r,m⟩:kvs.length<=sizeLine/\(p==sysModules)=false/\∃ vs,KV kvs vs/\s.heap.DictOf (bT X.prog X.w) p vs:=I.hok p _ hx;have hlen:kvs.length=vs.length:=Paired.length r;exact wpAny_truthy_dict hS m (by omega) ⟨H,I.tok _,by rw[Ik r];exact q⟩
 | _=>exact(show False from e).elim
def IP:iW X (binaryOp .Add) (fun x y H Q=>∃ i j,x=.str i/\y=.str j/\i.length+j.length<=sizeLine/\Q (.str (i++j)) H):=by
 intro Z7 s σ H x y v u Q I rx ry h;obtain⟨i,j,rfl,rfl,hz,q⟩:=h;obtain⟨t,rfl⟩:=rx;obtain⟨t',rfl⟩:=ry;exact add_str (fun t' tk=>⟨.str (i++j),H,I.tok _,⟨_,rfl⟩,q⟩) hz
def vals1{x:V}{us:List Value}(r:Vals [x] us):∃ u,us=[u]/\bJ x u:=by
 cases r with
 | cons r1 r2=>cases r2;exact⟨_,rfl,r1⟩
def vals2{x y:V}{us:List Value}(r:Vals [x,y] us):∃ u w',us=[u,w']/\bJ x u/\bJ y w':=by
 cases r with
 | cons r1 r2 =>
  cases r2 with
  | cons r3 r4=>cases r4;exact⟨_,_,rfl,r1,r3⟩
def Le(hc:X.calm=true):dG X (.builtin "max") (fun xs H Q=>∃ i j,xs=[.int i,.int j]/\Q (.int (if j > i then j else i)) H):=by
 intro Z7 s σ H xs us Q I r h;obtain⟨i,j,rfl,q⟩:=h;obtain⟨u,w',rfl,⟨t,rfl⟩,⟨t',rfl⟩⟩:=vals2 r;refine max_two_ints (I.ok.hd hc) fun h' tk k=>⟨_,H,I.kept k,?_,q⟩;by_cases hj:j > i
 ·rw[if_pos hj,if_pos hj];exact⟨_,rfl⟩
 ·rw[if_neg hj,if_neg hj];exact⟨_,rfl⟩
def Lf(hc:X.calm=true):dG X (.builtin "min") (fun xs H Q=>∃ i j,xs=[.int i,.int j]/\Q (.int (if j < i then j else i)) H):=by
 intro Z7 s σ H xs us Q I r h;obtain⟨i,j,rfl,q⟩:=h;obtain⟨u,w',rfl,⟨t,rfl⟩,⟨t',rfl⟩⟩:=vals2 r;refine min_two_ints (I.ok.hd hc) fun h' tk k=>⟨_,H,I.kept k,?_,q⟩;by_cases hj:j < i
 ·rw[if_pos hj,if_pos hj];exact⟨_,rfl⟩
 ·rw[if_neg hj,if_neg hj];exact⟨_,rfl⟩
def La:dG X (.type "int") (fun xs H Q=>(∃ i,xs=[.int i]/\Q (.int i) H)\/∃ k,xs=[.bl k]/\Q (.int (if k then 1 else 0)) H):=by
 intro Z7 s σ H xs us Q I r h;rcases h with⟨i,rfl,q⟩|⟨k,rfl,q⟩
 ·obtain⟨u,rfl,t,rfl⟩:=vals1 r;exact call_int_int ⟨.int i,H,I,⟨_,rfl⟩,q⟩
 ·obtain⟨u,rfl,r1⟩:=vals1 r;cases r1;exact call_int_bool ⟨.int (if k then 1 else 0),H,I.tok _,⟨_,rfl⟩,q⟩
def DP:dG X (.type "str") (fun xs H Q=>∃ i,xs=[.int i]/\i.natAbs.log2 < 1920/\Q (.str (toString i)) H):=by
 intro Z7 s σ H xs us Q I r h;obtain⟨i,rfl,hz,q⟩:=h;obtain⟨u,rfl,t,rfl⟩:=vals1 r;exact PySem.P.str_of_int hz ⟨.str _,H,I.tok _,⟨_,rfl⟩,q⟩
def Y5(K:q0B)(x:V)(H:Hp)(n:Nat):Prop :=
 match x with
 | .str y=>y.length<=sizeLine/\n=y.length
 | .byt y=>y.size<=sizeLine/\n=y.size
 | .ref p=>(∃ xs,dR K H p xs/\n=xs.length)\/∃ xs,fA K H p xs/\n=xs.length
 | _=>False
def zV:dG X (.builtin "len") (fun xs H Q=>∃ x n,xs=[x]/\Y5 X.K x H n/\Q (.int n) H):=by
 intro Z7 s σ H xs us Q I r h;obtain⟨x,n,rfl,e,q⟩:=h;obtain⟨u,rfl,rx⟩:=vals1 r;have hl:=line63;have hs:sizeLine=16777216:=sizeLine_eq;cases x with
 | str y =>
  obtain⟨t,rfl⟩:=rx;obtain⟨hy,e'⟩:y.length<=sizeLine/\n=y.length:=e;subst e';exact len_str (by omega) ⟨.int _,H,I.tok _,⟨_,rfl⟩,q⟩
 | byt y =>
  obtain⟨t,rfl⟩:=rx;obtain⟨hy,e'⟩:y.size<=sizeLine/\n=y.size:=e;subst e';exact PySem.W.len_bytes (by omega) ⟨.int _,H,I.tok _,⟨_,rfl⟩,q⟩
 | ref p =>
  cases rx;have e':(∃ xs,dR X.K H p xs/\n=xs.length)\/∃ xs,fA X.K H p xs/\n=xs.length:=e;rcases e' with⟨xs,hx,e'⟩|⟨xs,hx,e'⟩
  ·subst e';obtain⟨its,r',pl,hz⟩:=I.list hx;have hlen:=r'.length;exact Calls.call_len_list pl.isList (by simp only[List.size_toArray];omega) ⟨.int xs.length,H,I.tok _,⟨_,by simp only[List.size_toArray];rw[hlen]⟩,q⟩
  ·subst e';obtain⟨its,r',pl,hz⟩:=I.tuple hx;have hlen:=r'.length;exact len_tuple pl (by simp only[List.size_toArray];omega) ⟨.int xs.length,H,I.tok _,⟨_,by simp only[List.size_toArray];rw[hlen]⟩,q⟩
 | _=>exact(show False from e).elim
end
structure HB(h:Heap)(x dx C:Addr)(mA:q0C):Prop where
 obj:h.get? x=some (PySem.W.instObj C dx)
 ns:h.Ns1 dx mA
 ne:dx≠x
def LJ{h:Heap}{dx:Addr}{mA:q0C}(n:h.Ns1 dx mA):∃ od,h.get? dx=some od/\∀ name,PySem.W.lookIn name od=some (mA name):=by
 obtain⟨o,es,ep,ho,hd,hk,_,hm⟩:=n;refine⟨o,ho,fun name=>?_⟩;have e:=hm name;unfold nsFind findBy at e;rw[<- Array.find?_toList] at e;unfold PySem.W.lookIn;rw[hd];dsimp only;split
 ·rename_i y q
  rw[q] at e;exact congrArg some e
 ·rename_i q
  rw[q] at e;have a:es.toList.any (·.refKey)=false:=by
   rw[List.any_eq_false];intro y hy;obtain⟨z,t,aa7⟩:=hk y (Array.mem_toList_iff.mp hy);simp[DictEntry.refKey,aa7]
  have a':¬ es.toList.any (·.refKey)=true:=by rw[a];exact Bool.false_ne_true
  rw[if_neg a'];exact congrArg some e
def HB.look{h:Heap}{x dx C:Addr}{mA:q0C}(I:HB h x dx C mA):∃ od,PySem.W.InstAt h x (PySem.W.instObj C dx) C (some od)/\∀ name,PySem.W.lookIn name od=some (mA name) :=
 let ⟨od,ho,hl⟩:=LJ I.ns
 ⟨od,⟨I.obj,rfl,rfl,ho⟩,hl⟩
section
variable {prog:Program} {w:World} {A:Around} {E:q0A} {s:Shared} {K:q0B} {x dx C f:Addr} {mA:q0C} {name:Str} {v:Value}
def RF{expr:Bool}{Q:q0A}(X:K.In s.heap)(I:HB s.heap x dx C mA)(hg:PySem.W.plainGet K C name=true)(hh:PySem.W.hasDictIn K C=true)
    (ha:PySem.W.findIn K (.ref C) name=some none) (hv:mA name=some v) (hv':PySem.W.handedIn v=true) (h:Q v {s with toks:=s.toks+1}) :
    wpAny (model prog w) A (getAttr (.ref x) name expr) Q E s:=by
  obtain⟨od,J,hl⟩:=I.look;exact PySem.W.get_value X J (PySem.W.plainGet_of hg).1 (PySem.W.findObj_own hh ha rfl (by rw[hl,hv])) hv' h
def Om{pl:Sem Bool}{Q:Value×List Value->Shared->Prop}(X:K.In s.heap)(I:HB s.heap x dx C mA)(hg:PySem.W.plainGet K C name=true)
    (hf:PySem.W.findIn K (.ref C) name=some (some (.ref f))) (ht:PySem.W.isFn K (.ref f)=true) (hv:mA name=none) (h:Q (.ref f,[.ref x]) s) :
    wpAny (model prog w) A (getMethod (.ref x) name pl) Q E s:=by
  obtain⟨od,J,hl⟩:=I.look;exact PySem.W.method_fn X J (PySem.W.plainGet_of hg).1 (PySem.W.plainGet_of hg).2 hf (beq_iff_eq.mp ht) (by show(PySem.W.lookIn name od).map (·.isSome)=some false;rw[hl,hv];rfl) h
def SH{ns:List Str}{Q:Unit->Shared->Prop}(X:K.In s.heap)(I:HB s.heap x dx C mA)
    (hs:PySem.W.findIn K (.ref C) "__setattr__"=some (some (.builtin "object.__setattr__"))) (hp:PySem.W.plainOver K C=true) (ht:PySem.W.takerIn K C name=some none) (hh:PySem.W.hasDictIn K C=true)
    (hw:PySem.Within mA ns) (hsz:ns.length<=sizeLine)
    (h:∀ h',HB h' x dx C (fun y=>if y=name then some v else mA y)->Heap.SameBut dx s.heap h'->Q () {s with heap:=h',toks:=s.toks+2}) :
    wpAny (model prog w) A (setAttr (.ref x) name v) Q E s:=by
  obtain⟨od,J,hl⟩:=I.look;refine PySem.W.set_plain X J hs (PySem.W.osa_open (s:={s with toks:=s.toks+1}) (r:=none) X J hp ht fun b=>?_);obtain⟨cd,hc,hd'⟩:=PySem.W.any_some hh;have hx:s.heap.get? x=some ⟨.ref C,some dx,.plain,#[]⟩:=I.obj;refine wpAny_bind (wpAny_pure (wpAny_bind (wpAny_bind (wpAny_loadPart hx (wpAny_bind (PySem.W.Looks.here (s:={s with toks:=s.toks+1}) (PySem.W.looks_clsIn X hc) ?_))))));rw[hd'];refine wpAny_pure (a:=some dx) (wpAny_bind (wpAny_pure (wpAny_bind ?_)));refine wpAny_nsSet1 (s:={s with toks:=s.toks+1}) I.ns fun h' hn2 hs2=>?_;obtain⟨oD,esD,epD,hoD,hdD,hcD⟩:=hn2.count (PySem.Within.cons name v hw);refine wpAny_bind (wpAny_lookBehind hoD (by rw[hdD];exact pastItsLine_dict (Nat.le_trans hcD (by rw[List.length_cons];omega))) ?_);exact wpAny_pure (h _ ⟨(hs2.2 _ (Ne.symm I.ne)).trans I.obj,hn2,I.ne⟩ hs2)
def OK{R:Result->Shared->Prop}{vs:List Value}{kw:List (Str×Value)}(X:K.In s.heap)(hm:PySem.W.makesIn K C=true)
    (hi:PySem.W.findIn K (.ref C) "__init__"=some (some (.ref f))) (hf:PySem.W.typeIn K (.ref f)=some (.type "function"))
    (h:codeAny (model prog w) (A.under (.builtin "type.__call__" ⟨.ref C::vs,kw⟩)) (.call (.ref f) ⟨.ref (s.heap.objs.size+1)::vs,kw⟩) (PySem.W.InitBack (s.heap.objs.size+1) R)
      {s with heap:=(s.heap.push PySem.W.emptyDict).push (PySem.W.instObj C s.heap.objs.size)}) :
    codeAny (model prog w) A (.call (.ref C) ⟨vs,kw⟩) R s:=by
  obtain⟨hh,g,d,t,os⟩:=s;exact PySem.W.make_core (PySem.W.makes_of X hm) (PySem.W.looks_findIn X hi) (fun self=>PySem.W.bind_fn X self hf) (.inl rfl) h
end
def jA(f:Str)(v:V):List (Str×V)->List (Str×V)
 | []=>[(f,v)]
 | (g,x)::r=>if g=f then (g,v)::r else (g,x)::jA f v r
def xJ(f g:Str)(v:V):∀ fs:List (Str×V),(jA f v fs).lookup g=if g=f then some v else fs.lookup g
 | []=>by
  show List.lookup g [(f,v)]=_;by_cases h:g=f
  ·have hb:(g==f)=true:=beq_iff_eq.mpr h;simp only[List.lookup,hb,if_pos h]
  ·have hb:(g==f)=false:=beq_eq_false_iff_ne.mpr h;simp only[List.lookup,hb,if_neg h]
 | (k,x)::r=>by
  have ih:=xJ f g v r;rw[show jA f v ((k,x)::r)=(if k=f then (k,v)::r else (k,x)::jA f v r) from rfl];by_cases hk:k=f
  ·rw[if_pos hk];by_cases h:g=k
   ·have hb:(g==k)=true:=beq_iff_eq.mpr h;simp only[List.lookup,hb,if_pos (h.trans hk)]
   ·have hb:(g==k)=false:=beq_eq_false_iff_ne.mpr h;simp only[List.lookup,hb,if_neg (fun e:g=f=>h (e.trans hk.symm))]
  ·rw[if_neg hk];by_cases h:g=k
   ·have hb:(g==k)=true:=beq_iff_eq.mpr h;simp only[List.lookup,hb,if_neg (fun e:g=f=>hk (h.symm.trans e))]
   ·have hb:(g==k)=false:=beq_eq_false_iff_ne.mpr h;simp only[List.lookup,hb];exact ih
def vF(f:Str)(v:V):∀ fs:List (Str×V),f∈(jA f v fs).map (·.1)/\∀ g,g∈fs.map (·.1)->g∈(jA f v fs).map (·.1)
 | []=>⟨by simp[jA],fun g h=>by simp at h⟩
 | (k,x)::r=>by
  obtain⟨i1,i2⟩:=vF f v r;rw[show jA f v ((k,x)::r)=(if k=f then (k,v)::r else (k,x)::jA f v r) from rfl];by_cases hk:k=f
  ·rw[if_pos hk];subst hk;exact⟨by simp,fun g h=>by simpa using h⟩
  ·rw[if_neg hk];refine⟨?_,fun g h=>?_⟩
   ·rw[List.map_cons];exact List.mem_cons_of_mem _ i1
   ·rw[List.map_cons] at h ⊢;rcases List.mem_cons.mp h with e|e
    ·exact List.mem_cons.mpr (.inl e)
    ·exact List.mem_cons_of_mem _ (i2 g e)
def xI(f:Str)(v:V):∀ fs:List (Str×V),(jA f v fs).length<=fs.length+1
 | []=>by simp[jA]
 | (k,x)::r=>by
  have ih:=xI f v r;rw[show jA f v ((k,x)::r)=(if k=f then (k,v)::r else (k,x)::jA f v r) from rfl];by_cases hk:k=f
  ·rw[if_pos hk,List.length_cons,List.length_cons];omega
  ·rw[if_neg hk,List.length_cons,List.length_cons];omega
def lY.some_of{v:V}{o:Option Value}(r:lY (some v) o):∃ u,o=some u/\bJ v u:=by
 cases o with
 | none=>exact(show False from r).elim
 | some u=>exact⟨u,rfl,r⟩
def lY.none_of{o:Option Value}(r:lY none o):o=none:=by
 cases o with
 | none=>rfl
 | some u=>exact(show False from r).elim
def LA{v:V}{u:Value}(r:bJ v u):PySem.W.handedIn u=true:=by
 cases v with
 | non=>cases (show u=Value.none from r);rfl
 | bl b=>cases (show u=Value.bool b from r);rfl
 | int i=>obtain⟨t,e⟩:=(show ∃ t,u=Value.int i t from r);cases e;rfl
 | str x=>obtain⟨t,e⟩:=(show ∃ t,u=Value.str x t from r);cases e;rfl
 | byt b=>obtain⟨t,e⟩:=(show ∃ t,u=Value.bytes b t from r);cases e;rfl
 | flt b=>obtain⟨t,e⟩:=(show ∃ t,u=Value.float b t from r);cases e;rfl
 | ref a=>cases (show u=Value.ref a from r);rfl
 | ty n=>cases (show u=Value.type n from r);rfl
section
variable {P:Program} {w:World} {H H':Hp} {h h':Heap} {a C dx:Addr} {fs fs':List (Str×V)}
def D8(hok:HOk P w H h)(e:H a=some (.ins C dx fs)):∃ mA,HB h a dx C mA/\(∀ f,lY (fs.lookup f) (mA f))/\PySem.Within mA (fs.map (·.1))/\fs.length<=1000/\H dx=some (.own a):=by
 obtain⟨d,z,ne,ob,mA,n,r,q⟩:=(show dF P w H h a (.ins C dx fs) from hok a _ e);exact⟨mA,⟨ob,n,ne⟩,r,q,z,d⟩
end
structure Cls(K:q0B)(C:Addr):Prop where
 pg:PySem.W.plainGet K C Str.empty=true
 hd:PySem.W.hasDictIn K C=true
 po:PySem.W.plainOver K C=true
 sa:PySem.W.findIn K (.ref C) "__setattr__"=some (some (.builtin "object.__setattr__"))
def Cls.get{K:q0B}{C:Addr}(c:Cls K C)(f:Str):PySem.W.plainGet K C f=true:=c.pg
def eA(K:q0B)(C:Addr)(f:Str):Prop:=PySem.W.findIn K (.ref C) f=some none
def eA.YD{K:q0B}{C:Addr}{f:Str}(n:eA K C f):PySem.W.takerIn K C f=some none:=by
 unfold PySem.W.takerIn;rw[show PySem.W.findIn K (.ref C) f=some none from n];rfl
structure Meth(K:q0B)(C:Addr)(m:Str)(f:Addr):Prop where
 at_:PySem.W.findIn K (.ref C) m=some (some (.ref f))
 fn:PySem.W.isFn K (.ref f)=true
 kp:PySem.W.keepIn K (.ref f)=true
section
variable {X:Cx} {Z7:List (Addr×Obj)} {σ:St} {H:Hp} {s:Shared} {a C dx:Addr} {fs:List (Str×V)} {f:Str} {v:V} {A:Around} {E:q0A}
def AI{b:Bool}{Q:q0A}(I:Z9 X Z7 σ H s)(e:H a=some (.ins C dx fs))(c:Cls X.K C)(n:eA X.K C f)(l:fs.lookup f=some v)
    (h:∀ u s',Z9 X Z7 σ H s'->bJ v u->Q u s'):wpAny (model X.prog X.w) A (getAttr (.ref a) f b) Q E s:=by
  obtain⟨mA,O,r,_,_,_⟩:=D8 I.hok e;obtain⟨u,hu,ru⟩:=lY.some_of (v:=v) (o:=mA f) (by rw[<- l];exact r f);exact RF I.kIn O (c.get f) c.hd n hu (LA ru) (h u _ (I.tok _) ru)
def AJ{m:Str}{g:Addr}{pl:Sem Bool}{Q:Value×List Value->Shared->Prop}(I:Z9 X Z7 σ H s)(e:H a=some (.ins C dx fs))(c:Cls X.K C)(k:Meth X.K C m g)(l:fs.lookup m=none)
    (h:Q (.ref g,[.ref a]) s):wpAny (model X.prog X.w) A (getMethod (.ref a) m pl) Q E s:=by
  obtain⟨mA,O,r,_,_,_⟩:=D8 I.hok e;have hn:mA m=none:=lY.none_of (by rw[<- l];exact r m);exact Om I.kIn O (c.get m) k.at_ k.fn hn h
def BM{y:V}{u:Value}{Q:Unit->Shared->Prop}(I:Z9 X Z7 σ H s)(e:H a=some (.ins C dx fs))(c:Cls X.K C)(n:eA X.K C f)(hl:fs.length < 1000)(ry:bJ y u)
    (h:∀ s',Z9 X Z7 σ (Z8 H a (.ins C dx (jA f y fs))) s'->Q () s'):wpAny (model X.prog X.w) A (setAttr (.ref a) f u) Q E s:=by
  obtain⟨mA,O,r,wi,_,ho⟩:=D8 I.hok e;have hz:(fs.map (·.1)).length<=sizeLine:=by rw[List.length_map,sizeLine_eq];omega
  refine SH I.kIn O c.sa c.po n.YD c.hd wi hz fun h' O' sb=>h _ ?_;have hd:∃ o,h'.get? dx=some o:=let ⟨o,_,_,e',_⟩:=O'.ns;⟨o,e'⟩;refine I.write (x:=a) (e:=dx) (by rw[e];exact True.intro) (.inr ho) (fun b q hb z=>(sb.2 b hb).trans z) hd ?_;refine⟨by rw[aG O.ne];exact ho,?_,O.ne,O'.obj,_,O'.ns,fun g=>?_,fun g hg=>?_⟩
  · have:=xI f y fs;omega
  · show lY ((jA f y fs).lookup g) (if g=f then some u else mA g);rw[xJ];by_cases q:g=f
    · rw[if_pos q,if_pos q];exact ry
    · rw[if_neg q,if_neg q];exact r g
  · by_cases q:g=f
    · rw[q];exact(vF f y fs).1
    · refine(vF f y fs).2 g (wi g fun z=>hg ?_);show(if g=f then some u else mA g)=none;rw[if_neg q];exact z
def Z9.made(I:Z9 X Z7 σ H s):Z9 X Z7 σ (Z8 (Z8 H s.heap.objs.size (.own (s.heap.objs.size+1))) (s.heap.objs.size+1) (.ins C s.heap.objs.size []))
    {s with heap:=(s.heap.push PySem.W.emptyDict).push (PySem.W.instObj C s.heap.objs.size)}:=by
  have e1:(s.heap.push PySem.W.emptyDict).get? s.heap.objs.size=some PySem.W.emptyDict:=Heap.get?_push_size s.heap rfl;have e2:((s.heap.push PySem.W.emptyDict).push (PySem.W.instObj C s.heap.objs.size)).get? (s.heap.objs.size+1)=some (PySem.W.instObj C s.heap.objs.size):=by
    have:=Heap.get?_push_size (s.heap.push PySem.W.emptyDict) (o:=PySem.W.instObj C s.heap.objs.size) rfl
    rwa [Heap.size_push] at this
  have e3:(s.heap.push PySem.W.emptyDict).Ns s.heap.objs.size (fun _=>none):=⟨PySem.W.emptyDict,#[],_,e1,rfl,(fun e he=>absurd he (by simp)),fun _=>rfl⟩;have I1:=I.laid (a:=s.heap.objs.size) (o:=.own (s.heap.objs.size+1)) (h':=s.heap.push PySem.W.emptyDict) (t':=s.toks) (fun b u q=>Heap.get?_push_of_some _ q) (Nat.le_refl _) ⟨_,e1⟩;refine I1.laid (a:=s.heap.objs.size+1) (o:=.ins C s.heap.objs.size []) (t':=s.toks) (fun b u q=>Heap.get?_push_of_some _ q) (Nat.le_of_eq (Heap.size_push _ _)) ?_;have ne:s.heap.objs.size≠s.heap.objs.size+1:=Nat.ne_of_lt (Nat.lt_succ_self _);refine⟨by rw[aG ne,aA],Nat.zero_le _,ne,e2,fun _=>none,(Heap.Ns1.of_empty e3).at fun o q=>Heap.get?_push_of_some _ q,fun _=>True.intro,fun y hy=>absurd rfl hy⟩
def Qy{prog:Program}{w:World}{env:Env}{e:Expr}{f:Str}{pos:Pos}{s:Shared}{Q:q0A}(hb:attributeBase e f env (eval e env)=eval e env)
    (h:wpAny (model prog w) A (eval e env) (fun o s₁=>wpAny (model prog w) A (getAttr o f true) Q E s₁) E s):wpAny (model prog w) A (eval (.Attribute e f pos) env) Q E s :=
  Attribute_any_ h (by rw[arm_eval_Attribute,hb])
end
def Y4(X:Cx)(op:Operator)(rd:V->V->Hp->VK->Prop):Prop :=
 ∀(Z7:List (Addr×Obj)) (s:Shared) (σ:St) (H:Hp) (x y:V) (u v:Value) (Q:VK),Z9 X Z7 σ H s->bJ x u->bJ y v->rd x y H Q->wpAny (model X.prog X.w) X.A (inplaceOp op u v) (EP X Z7 σ Q) X.xe s
section
variable {X:Cx} {o e value:Expr} {f:Str} {pos pos' abL:Pos} {ta tv:TE}
def ZC:V->V->Hp->VK->Prop:=fun x y H Q=>∃ i j,x=.int i/\y=.int j/\Q (.int (i+j)) H
def VR:Y4 X .Add ZC:=by
 rintro Z7 s σ H x y u v Q I rx ry ⟨i,j,rfl,rfl,q⟩;obtain⟨t,rfl⟩:=(show ∃ t,u=Value.int i t from rx);obtain⟨t',rfl⟩:=(show ∃ t',v=Value.int j t' from ry);exact PyProof.Rows.iadd_int ⟨.int (i+j),H,I.tok _,⟨_,rfl⟩,q⟩
end
section
variable {X:Cx} {Z7:List (Addr×Obj)} {σ:St} {H:Hp} {s:Shared} {A:Around} {E:q0A} {Q:q0A} {c:Value} {b:Bool}
end
structure Room(k:Nat)(A:Around):Prop where
 hd:A.handled=none
 dp:A.depth+3 * k+5 < recursionLimit
 un:A.units+16 * k+200 < cLine
def Room.mono{j k:Nat}{A:Around}(r:Room k A)(h:j<=k):Room j A:=⟨r.hd,by have:=r.dp;omega,by have:=r.un;omega⟩
def Room.deeper{k:Nat}{A:Around}(r:Room (k+1) A)(env:Env):Room k (A.deeper env) :=
 ⟨r.hd,by have:=r.dp;show A.depth+1+3 * k+5 < _;omega,by have:=r.un;show A.units+3+16 * k+200 < _;omega⟩
def Ip{A:Around}{C:Addr}{us:List Value}{kw:List (Str×Value)}:(A.under (.builtin "type.__call__" ⟨.ref C::us,kw⟩)).depth=A.depth+1:=by
 first|rfl|simp[Around.under,Code.weight,Code.isCreation,Code.isGuard,Code.isCaller,Code.frames,Code.isFrame,guardIds]
def Iq{A:Around}{C:Addr}{us:List Value}{kw:List (Str×Value)}:(A.under (.builtin "type.__call__" ⟨.ref C::us,kw⟩)).units=A.units+1:=by
 first|rfl|simp[Around.under,Code.cUnits,Code.frames,Code.isFrame]
def Room.make{k:Nat}{A:Around}(r:Room (k+1) A)(C:Addr)(us:List Value)(kw:List (Str×Value)):Room k (A.under (.builtin "type.__call__" ⟨.ref C::us,kw⟩)) :=
 ⟨r.hd,by have:=r.dp;rw[Ip];omega,by have:=r.un;rw[Iq];omega⟩
def Room.depth{k:Nat}{A:Around}(r:Room k A):A.depth < recursionLimit:=by have:=r.dp;omega
def Room.units{k:Nat}{A:Around}(r:Room k A):A.units+64 < cLine:=by have:=r.un;omega
def Jm:TA:=fun _ H Q=>Q [] H
def Hq(ta:TE)(tr:TA):TA:=fun σ H Q=>ta σ H fun x H1=>tr σ H1 fun xs H2=>Q (x::xs) H2
section
variable {X:Cx} {e:Expr} {es:List Expr} {te:TE} {t:TA} {pos:Pos}
def aB:PA X [] Jm:=fun _ _ _ _ H Q I h=>Calls.spliced_nil ⟨[],H,I,.nil,h⟩
def Ke(ha:PE X e te)(hr:PA X es t)(hs:starEach (e::es) X.env=(false,eval e X.env)::starEach es X.env:=by rfl):PA X (e::es) (Hq te t):=by
 intro pos Z7 s σ H Q I h;rw[hs];show wpAny _ _ (spliced ((false,eval e X.env)::backTo pos (starEach es X.env))) _ _ s;refine Calls.spliced_cons (thn (ha Z7 s σ H _ I h) fun u s1 ⟨x,H1,I1,r1,q1⟩=>?_);exact thn (hr pos Z7 s1 σ H1 _ I1 q1) fun us s2 ⟨xs,H2,I2,r2,q2⟩=>⟨x::xs,H2,I2,.cons r1 r2,q2⟩
def YC(t:TA):TE:=fun σ H Q=>t σ H fun xs H1=>xs.length<=sizeLine/\∀ p,H1 p=none->Q (.ref p) (Z8 H1 p (.tup xs))
def YA(t:TA):TE:=fun σ H Q=>t σ H fun xs H1=>xs.length<=sizeLine/\∀ p,H1 p=none->Q (.ref p) (Z8 H1 p (.lst xs))
def bH{x1}(h:PA X es t):PE X (.Tuple es x1 pos) (YC t):=by
 intro Z7 s σ H Q I hq;refine wpAny_Tuple_spliced (thn (h pos Z7 s σ H _ I hq) fun us s1 ⟨xs,H1,I1,r,z,q⟩=>⟨by rw[<- r.length];exact z,?_⟩);have hf:H1 s1.heap.objs.size=none:=I1.hok.fresh (Nat.le_refl _);refine⟨.ref s1.heap.objs.size,Z8 H1 s1.heap.objs.size (.tup xs),I1.laid (t':=s1.toks) (fun b u e=>Heap.get?_push_of_some _ e) (Nat.le_refl _) ?_,rfl,q _ hf⟩;exact⟨z,us,r,⟨_,Heap.get?_push_size _ rfl,rfl,_,rfl⟩⟩
def bL(h:PA X es t):PE X (.List es pos) (YA t):=by
 intro Z7 s σ H Q I hq;refine wpAny_List_spliced (thn (h pos Z7 s σ H _ I hq) fun us s1 ⟨xs,H1,I1,r,z,q⟩=>⟨by rw[<- r.length];exact z,?_⟩);have hf:H1 s1.heap.objs.size=none:=I1.hok.fresh (Nat.le_refl _);refine⟨.ref s1.heap.objs.size,Z8 H1 s1.heap.objs.size (.lst xs),I1.laid (t':=s1.toks) (fun b u e=>Heap.get?_push_of_some _ e) (Nat.le_refl _) ?_,rfl,q _ hf⟩;exact⟨z,us,0,r,Heap.get?_push_size _ rfl⟩
end
abbrev Sp:=List V->Hp->VK->XK->Prop
abbrev CXT:=List Env->Hp->Shared->XK->Value->Shared->Prop
structure Env0(P:Program)(w:World)(K:q0B)(mg:q0C)(base:Heap)(A:Around)(outer:List Env)(s:Shared)(H:Hp):Prop where
 frames:A.frames=some outer
 mod:Mod K mg base
 bs:∀ b o,base.get? b=some o->s.heap.get? b=some o/\H b=none
 bsz:base.objs.size<=s.heap.objs.size
 sQ:s.heap.FunFrames base outer
 frf:∀ b∈frs outer,H b=none
 hok:HOk P w H s.heap
 bare:AllBare s.gens
def CE(outer:List Env)(P:Program)(w:World)(H:Hp)(s:Shared)(Q:VK)(u:Value)(s':Shared):Prop :=
 ∃ v H',s'.os=s.os/\AllBare s'.gens/\Un (frs outer) [] H H' s.heap s'.heap/\HOk P w H' s'.heap/\bJ v u/\Q v H'
def CR(CX:CXT)(outer:List Env)(P:Program)(w:World)(H:Hp)(s:Shared)(Q:VK)(E:XK)(r:Result)(s':Shared):Prop :=
 match r with
 | .ok (.ret u)=>CE outer P w H s Q u s'
 | .ok _=>False
 | .error e=>CX outer H s E e s'
structure bD(P:Program)(w:World)(K:q0B)(mg:q0C)(base:Heap)(CX:CXT)(k:Nat)(f:Addr)(fd:FuncData)(ps:List Str)(sp:Sp):Prop where
 len:∀ vs H Q E,sp vs H Q E->vs.length=ps.length
 run:∀(A:Around) (outer:List Env) (s:Shared) (H:Hp) (args:Args) (us:List Value) (vs:List V) (Q:VK) (E:XK),Room k A->Env0 P w K mg base A outer s H->BindsTo s fd args (ps.zip us)->Vals vs us->sp vs H Q E ->
  codeAny (model P w) A (.call (.ref f) args) (CR CX outer P w H s Q E) s
def bD.mono{P:Program}{w:World}{K:q0B}{mg:q0C}{base:Heap}{CX:CXT}{j k:Nat}{f:Addr}{fd:FuncData}{ps:List Str}{sp:Sp}(F:bD P w K mg base CX j f fd ps sp)(h:j<=k) :
    bD P w K mg base CX k f fd ps sp:=⟨F.len,fun A outer s H args us vs Q E hr=>F.run A outer s H args us vs Q E (hr.mono h)⟩
def Env0.make{P:Program}{w:World}{K:q0B}{mg:q0C}{base:Heap}{A:Around}{outer:List Env}{s:Shared}{H:Hp}(e:Env0 P w K mg base A outer s H)(C:Addr)(us:List Value)(kw:List (Str×Value)) :
    Env0 P w K mg base (A.under (.builtin "type.__call__" ⟨.ref C::us,kw⟩)) outer s H:=⟨by first|exact e.frames|(simpa[Around.under,Code.envs,Code.isFrame,pushEnvs] using e.frames),e.mod,e.bs,e.bsz,e.sQ,e.frf,e.hok,e.bare⟩
section
variable {X:Cx} {Z7:List (Addr×Obj)} {σ:St} {H:Hp} {s s':Shared}
def Z9.X5(I:Z9 X Z7 σ H s):Env0 X.prog X.w X.K X.mg X.base X.A X.stack s H :=
 ⟨I.ok.frames,I.ok.mod,I.bs,Nat.le_trans I.ok.bsz I.sz,I.stack,I.EV,I.hok,I.bare⟩
def Z9.after{Q:VK}{u:Value}(I:Z9 X Z7 σ H s)(h:CE X.stack X.prog X.w H s Q u s'):EP X Z7 σ Q u s':=by
 obtain⟨v,H',os,bare,un,hok,r,q⟩:=h;obtain⟨hh,g,d,t,os'⟩:=s';obtain rfl:os'=s.os:=os;exact⟨v,H',I.call (h':=hh) (g':=g) (d':=d) (t':=t) (ch:=[]) un hok bare (fun b z=>absurd z (by simp)),r,q⟩
end
def P4(sp:Sp)(dvs:List V)(E:XK)(t:TA):TE:=fun σ H Q=>t σ H fun vs H1=>sp (vs++dvs) H1 Q E
def Hr(C:Addr)(m:Str)(sp:Sp)(dvs:List V)(E:XK)(ta:TE)(t:TA):TE:=fun σ H Q=>ta σ H fun x H1=>∃ a dx fs,x=.ref a/\H1 a=some (.ins C dx fs)/\fs.lookup m=none /\
 t σ H1 fun vs H2=>sp (x::(vs++dvs)) H2 Q E
def Ku(C:Addr)(sp:Sp)(dvs:List V)(E:XK)(t:TA):TE:=fun σ H Q=>t σ H fun vs H1=>∀ x dx,H1 x=none->H1 dx=none->dx≠x ->
 sp (.ref x::(vs++dvs)) (Z8 (Z8 H1 dx (.own x)) x (.ins C dx [])) (fun v H2=>v=.non/\Q (.ref x) H2) E
def Binds(K:q0B)(fd:FuncData)(ps:List Str)(ds:List Value):Prop :=
 ∀(s:Shared) (us:List Value),K.In s.heap->(us++ds).length=ps.length->BindsTo s fd ⟨us,[]⟩ (ps.zip (us++ds))
def Binds.all{K:q0B}{fd:FuncData}{ps:List Str}(h:∀ us:List Value,us.length=ps.length->bindArgs fd ⟨us,[]⟩=pure (ps.zip us)):Binds K fd ps []:=fun s us _ hl=>by
 rw[List.append_nil] at hl ⊢;exact .of_eq (h us hl)
def Passes(CX:CXT)(X:Cx)(E:XK):Prop:=∀(Z7:List (Addr×Obj)) (σ:St) (H:Hp) (s:Shared) (e:Value) (s':Shared),Z9 X Z7 σ H s->CX X.stack H s E e s'->X.xe e s'
section
variable {X:Cx} {CX:CXT} {k:Nat} {f C:Addr} {fd:FuncData} {ps:List Str} {sp:Sp} {dvs:List V} {ds:List Value} {E:XK} {x m:Str} {p pos apos:Pos} {e o:Expr} {es:List Expr} {ta:TE} {t:TA}
def EC{Z7:List (Addr×Obj)}{σ:St}{H:Hp}{s:Shared}{Q:VK}{us:List Value}{vs:List V}(F:bD X.prog X.w X.K X.mg X.base CX k f fd ps sp)(hr:Room k X.A)(hb:Binds X.K fd ps ds)(hd:Vals dvs ds)(hx:Passes CX X E)
    (I:Z9 X Z7 σ H s) (r:Vals vs us) (h:sp (vs++dvs) H Q E):wpAny (model X.prog X.w) X.A (call (.ref f) us) (EP X Z7 σ Q) X.xe s:=by
  have r2:Vals (vs++dvs) (us++ds):=r.append hd;have hl:(us++ds).length=ps.length:=by rw[<- r2.length];exact F.len _ _ _ _ h
  refine wpAny_call (codeAny_mono (F.run X.A X.stack s H ⟨us,[]⟩ (us++ds) (vs++dvs) Q E hr I.X5 (hb s us I.kIn hl) r2 h) fun r s' hq=>?_);cases r with
  | error e=>exact hx Z7 σ H s e s' I hq
  | ok fl =>
    cases fl with
    | ret u=>exact I.after hq
    | next=>exact False.elim hq
    | brk=>exact False.elim hq
    | cont=>exact False.elim hq
def aN(F:bD X.prog X.w X.K X.mg X.base CX k f fd ps sp)(hr:Room k X.A)(hg:Gl X x)(hm:X.mg x=some (.ref f))(hk:PySem.W.keepIn X.K (.ref f)=true)(hb:Binds X.K fd ps ds)(hd:Vals dvs ds)(hx:Passes CX X E)
    (ha:PA X (e::es) t) (hdb:(x==("__debug__":Str))=false:=by decide) (he:starEach (e::es) X.env=(false,eval e X.env)::starEach es X.env:=by rfl) (hpl:(backTo pos (starEach es X.env)).any (·.1)=false:=by rfl) :
    PE X (.Call (.Name x p) (e::es) [] pos) (P4 sp dvs E t):=by
  intro Z7 s σ H Q I h;refine wpAny_Call_Name_kw (yY I hg hm ?_ hdb);refine PySem.W.callWith_K (h₀:=X.base) I.ok.mod.kin hk (thn (ha pos Z7 s σ H _ I h) fun us s1 ⟨vs,H1,I1,r,q⟩=>⟨I1.kIn,?_⟩) he hpl;exact EC F hr hb hd hx I1 r q
def bK{pl:Sem Bool}(he:PE X o ta)(c:Cls X.K C)(hm:Meth X.K C m f)(F:bD X.prog X.w X.K X.mg X.base CX k f fd ps sp)(hr:Room k X.A)(hb:Binds X.K fd ps ds)(hd:Vals dvs ds)(hx:Passes CX X E)(ha:PA X (e::es) t)
    (hst:starEach (e::es) X.env=(false,eval e X.env)::starEach es X.env:=by rfl) (hpl:(backTo pos (starEach es X.env)).any (·.1)=false:=by rfl)
    (ht:eval (.Call (.Attribute o m apos) (e::es) [] pos) X.env=(do
      let ov <- eval o X.env
      standAt apos.atName
      let (f,first) <- holding [ov] (getMethod ov m pl)
      callWith pos f first (backTo pos (starEach (e::es) X.env)) (backToKw pos (keywordEach [] X.env))):=by rfl) :
    PE X (.Call (.Attribute o m apos) (e::es) [] pos) (Hr C m sp dvs E ta t):=by
  intro Z7 s σ H Q I h;refine PySem.W.methodCall_KW (pl:=pl) (thn (he Z7 s σ H _ I h) fun u s1 ⟨x,H1,I1,rx,a,dx,fs,ex,ea,l,q⟩=>?_) ht;subst ex;obtain rfl:u=Value.ref a:=rx;refine AJ I1 ea c hm l ?_;refine PySem.W.callWith_K (first:=[.ref a]) (h₀:=X.base) I.ok.mod.kin hm.kp (thn (ha pos Z7 s1 σ H1 _ I1 q) fun us s2 ⟨vs,H2,I2,r,q2⟩=>⟨I2.kIn,?_⟩) hst hpl
  exact EC (us:=.ref a::us) (vs:=.ref a::vs) F hr hb hd hx I2 (.cons rfl r) q2
def bX{pl:Sem Bool}(he:PE X o ta)(c:Cls X.K C)(hm:Meth X.K C m f)(F:bD X.prog X.w X.K X.mg X.base CX k f fd ps sp)(hr:Room k X.A)(hb:Binds X.K fd ps ds)(hd:Vals dvs ds)(hx:Passes CX X E)
    (ht:eval (.Call (.Attribute o m apos) [] [] pos) X.env=(do
      let ov <- eval o X.env
      standAt apos.atName
      let (f,first) <- holding [ov] (getMethod ov m pl)
      callWith pos f first (backTo pos (starEach [] X.env)) (backToKw pos (keywordEach [] X.env))):=by rfl) :
    PE X (.Call (.Attribute o m apos) [] [] pos) (Hr C m sp dvs E ta Jm):=by
  intro Z7 s σ H Q I h;refine PySem.W.methodCall_KW (pl:=pl) (thn (he Z7 s σ H _ I h) fun u s1 ⟨x,H1,I1,rx,a,dx,fs,ex,ea,l,q⟩=>?_) ht;subst ex;obtain rfl:u=Value.ref a:=rx;refine AJ I1 ea c hm l ?_;exact PySem.W.callWith_K0 (first:=[.ref a]) I1.kIn hm.kp (EC (us:=[.ref a]) (vs:=[.ref a]) F hr hb hd hx I1 (.cons rfl .nil) q)
structure Mk(K:q0B)(C f:Addr):Prop where
 makes:PySem.W.makesIn K C=true
 init:PySem.W.findIn K (.ref C) "__init__"=some (some (.ref f))
 fn:PySem.W.isFn K (.ref f)=true
 kp:PySem.W.keepIn K (.ref C)=true
def GZ{Z7:List (Addr×Obj)}{σ:St}{H:Hp}{s:Shared}{Q:VK}{us:List Value}{vs:List V}(M:Mk X.K C f)(F:bD X.prog X.w X.K X.mg X.base CX k f fd ps sp)(hr:Room (k+1) X.A)(hb:Binds X.K fd ps ds)(hd:Vals dvs ds)
    (hx:Passes CX X E) (I:Z9 X Z7 σ H s) (r:Vals vs us)
    (h:∀ x dx,H x=none->H dx=none->dx≠x->sp (.ref x::(vs++dvs)) (Z8 (Z8 H dx (.own x)) x (.ins C dx [])) (fun v H2=>v=.non/\Q (.ref x) H2) E) :
    wpAny (model X.prog X.w) X.A (call (.ref C) us) (EP X Z7 σ Q) X.xe s:=by
  have hq:=h (s.heap.objs.size+1) s.heap.objs.size (I.hok.fresh (Nat.le_succ _)) (I.hok.fresh (Nat.le_refl _)) (Nat.ne_of_lt (Nat.lt_succ_self _));have I2:=Z9.made (C:=C) I;have r2:Vals (V.ref (s.heap.objs.size+1)::(vs++dvs)) (Value.ref (s.heap.objs.size+1)::(us++ds)):=.cons rfl (r.append hd);have hl:(Value.ref (s.heap.objs.size+1)::us++ds).length=ps.length:=by
    have e:=r2.length;rw[F.len _ _ _ _ hq] at e;exact e.symm
  refine wpAny_call (OK (f:=f) I.kIn M.makes M.init (beq_iff_eq.mp M.fn) (codeAny_mono (F.run _ X.stack _ _ ⟨Value.ref (s.heap.objs.size+1)::us,[]⟩ (Value.ref (s.heap.objs.size+1)::(us++ds)) _ _ E (hr.make C us [])
    (I2.X5.make C us []) (hb _ (Value.ref (s.heap.objs.size+1)::us) I2.kIn hl) r2 hq) fun r s' hq'=>?_))
  cases r with
  | error e=>exact hx Z7 σ _ _ e s' I2 hq'
  | ok fl =>
    cases fl with
    | ret u =>
      obtain⟨v,H',I3,rv,ev,q3⟩:=I2.after hq';subst ev;exact⟨rv,⟨V.ref (s.heap.objs.size+1),H',I3,rfl,q3⟩⟩
    | next=>exact False.elim hq'
    | brk=>exact False.elim hq'
    | cont=>exact False.elim hq'
def Er(M:Mk X.K C f)(F:bD X.prog X.w X.K X.mg X.base CX k f fd ps sp)(hr:Room (k+1) X.A)(hg:Gl X x)(hm:X.mg x=some (.ref C))(hb:Binds X.K fd ps ds)(hd:Vals dvs ds)(hx:Passes CX X E)
    (ha:PA X (e::es) t) (hdb:(x==("__debug__":Str))=false:=by decide) (he:starEach (e::es) X.env=(false,eval e X.env)::starEach es X.env:=by rfl) (hpl:(backTo pos (starEach es X.env)).any (·.1)=false:=by rfl) :
    PE X (.Call (.Name x p) (e::es) [] pos) (Ku C sp dvs E t):=by
  intro Z7 s σ H Q I h;refine wpAny_Call_Name_kw (yY I hg hm ?_ hdb);refine PySem.W.callWith_K (h₀:=X.base) I.ok.mod.kin M.kp (thn (ha pos Z7 s σ H _ I h) fun us s1 ⟨vs,H1,I1,r,q⟩=>⟨I1.kIn,?_⟩) he hpl;exact GZ M F hr hb hd hx I1 r q
def Pf(M:Mk X.K C f)(F:bD X.prog X.w X.K X.mg X.base CX k f fd ps sp)(hr:Room (k+1) X.A)(hg:Gl X x)(hm:X.mg x=some (.ref C))(hb:Binds X.K fd ps ds)(hd:Vals dvs ds)(hx:Passes CX X E)
    (hdb:(x==("__debug__":Str))=false:=by decide):PE X (.Call (.Name x p) [] [] pos) (Ku C sp dvs E Jm):=by
  intro Z7 s σ H Q I h;refine wpAny_Call_Name_kw (yY I hg hm ?_ hdb);exact PySem.W.callWith_K0 I.kIn M.kp (GZ (us:=[]) M F hr hb hd hx I .nil h)
end
section
variable {X:Cx} {CX:CXT} {k:Nat} {f C:Addr} {fd:FuncData} {ps ks:List Str} {sp:Sp} {E:XK} {x m:Str} {p pos apos aeW:Pos} {e o:Expr} {es:List Expr} {kws:List Keyword} {te ta:TE} {t tk:TA} {nm:Option Str}
variable {g:List Value->List Value->List Value} {gV:List V->List V->List V}
end
structure aS(N P:List Str)(sc:Scope):Prop where
 kind:sc.kind=.function
 co:sc.isCoroutine=false
 gen:sc.isGenerator=false
 nd:N.Nodup
 pre:N.take P.length=P
 par:∀ x∈P,sc.names.lookup x=some .local\/sc.names.lookup x=some .cell
 cX:∀ y∈sc.names,y.2≠.free
def CJ{kindOf:Str->Option NameKind}{x:Str}:∀ {binds:List (Str×Value)} {m:q0C},(∀ v,(x,v)∉binds)->bindL kindOf binds m x=m x
 | [],_,_=>rfl
 | (n,v)::r,m,h=>by
  unfold bindL;rw[CJ fun w hw=>h w (List.mem_cons_of_mem _ hw)];split
  ·have:x≠n:=by rintro rfl;exact h v List.mem_cons_self
   simp[this]
  ·rfl
def CH{kindOf:Str->Option NameKind}{x:Str}:∀ {binds:List (Str×Value)} {m:q0C},(∀ v,(x,v)∉binds)->bindC kindOf binds m x=m x
 | [],_,_=>rfl
 | (n,v)::r,m,h=>by
  unfold bindC;rw[CH fun w hw=>h w (List.mem_cons_of_mem _ hw)];split
  ·rfl
  ·have:x≠n:=by rintro rfl;exact h v List.mem_cons_self
   simp[this]
def CI{kindOf:Str->Option NameKind}{x:Str}{v:Value}:∀ {P:List Str} {vs:List Value} {i:Nat} {m:q0C},P.Nodup->P[i]?=some x->vs[i]?=some v->kindOf x=some .local ->
    bindL kindOf (P.zip vs) m x=some v
  | [],_,_,_,_,h,_,_=>by simp at h
  | _::_,[],_,_,_,_,h,_=>by simp at h
  | p::P,w::vs,0,m,nd,h1,h2,hk=>by
    simp at h1 h2;subst h1;subst h2;show bindL kindOf ((p,w)::P.zip vs) m p=_;unfold bindL;rw[CJ fun v hv=>(List.nodup_cons.mp nd).1 (List.of_mem_zip hv).1,if_pos hk];simp
  | p::P,w::vs,i+1,m,nd,h1,h2,hk=>by
    show bindL kindOf ((p,w)::P.zip vs) m x=_;unfold bindL;exact CI (i:=i) (List.nodup_cons.mp nd).2 (by simpa using h1) (by simpa using h2) hk
def CG{kindOf:Str->Option NameKind}{x:Str}{v:Value}:∀ {P:List Str} {vs:List Value} {i:Nat} {m:q0C},P.Nodup->P[i]?=some x->vs[i]?=some v->kindOf x≠some .local ->
    bindC kindOf (P.zip vs) m x=some v
  | [],_,_,_,_,h,_,_=>by simp at h
  | _::_,[],_,_,_,_,h,_=>by simp at h
  | p::P,w::vs,0,m,nd,h1,h2,hk=>by
    simp at h1 h2;subst h1;subst h2;show bindC kindOf ((p,w)::P.zip vs) m p=_;unfold bindC;rw[CH fun v hv=>(List.nodup_cons.mp nd).1 (List.of_mem_zip hv).1,if_neg hk];simp
  | p::P,w::vs,i+1,m,nd,h1,h2,hk=>by
    show bindC kindOf ((p,w)::P.zip vs) m x=_;unfold bindC;exact CG (i:=i) (List.nodup_cons.mp nd).2 (by simpa using h1) (by simpa using h2) hk
def start(N:List Str)(vs:List V):St:=vs.map some++List.replicate (N.length - vs.length) none
def Fq(CX:CXT)(P:Program)(w:World)(K:q0B)(mg:q0C)(base:Heap)(N:List Str)(qual:Str)(scope:Scope)(f:Addr)(cd:Value)(A:Around)(outer:List Env)(s:Shared)(H:Hp)(E:XK):Cx where
 prog:=P
 w:=w
 K:=K
 mg:=mg
 base:=base
 A:=A.deeper (envOfC qual scope s.heap.objs.size f cd)
 N:=N
 s₀:=s
 H₀:=H
 env:=envOfC qual scope s.heap.objs.size f cd
 outer:=outer
 stack:=envOfC qual scope s.heap.objs.size f cd::outer
 ex:=[]
 calm:=true
 fn:=fun _=>true
 pn:=[]
 xe:=fun e s'=>wpAny (model P w) (A.deeper (envOfC qual scope s.heap.objs.size f cd)) (leaving (envOfC qual scope s.heap.objs.size f cd) e) (fun _ s''=>CX outer H s E e s'') (fun e' s''=>CX outer H s E e' s'') s'
def Fk{sc:Scope}{n:Nat}{x:Str}(h:sc.names.lookup x=some .cell):∃ c,(cellsFrom n sc.names []).lookup x=some c:=by
 have q:=PySem.W.cellsFrom_some sc.names n [] (.inl h);exact Option.isSome_iff_exists.mp q
def LC{CX:CXT}{P:Program}{w:World}{K:q0B}{mg:q0C}{base:Heap}{N ps:List Str}{qual:Str}{scope:Scope}{f:Addr}{cd:Value}{A:Around}{outer:List Env}{s s1:Shared}{H:Hp}{E:XK}{us:List Value}{vs:List V}
    (S:aS N ps scope) (hd:A.handled=none) (e0:Env0 P w K mg base A outer s H) (hl:vs.length=ps.length) (r:Vals vs us)
    (x:InCallC s s.heap.objs.size (bindL (envOfC qual scope s.heap.objs.size f cd).kindOf (ps.zip us) fun _=>none) (cellsFrom (s.heap.objs.size+1) scope.names []) (bindC (envOfC qual scope s.heap.objs.size f cd).kindOf (ps.zip us) fun _=>none) s1) :
    Z9 (Fq CX P w K mg base N qual scope f cd A outer s H E) [] (start N vs) H s1:=by
  have hpl:ps.length<=N.length:=by have:=congrArg List.length S.pre;rw[List.length_take] at this;omega
  obtain⟨h1,tk,rfl,hk⟩:=x.done;have noA:∀ b:Addr,b∉(Fq CX P w K mg base N qual scope f cd A outer s H E).ex:=fun b z=>absurd (show b∈([]:List Addr) from z) (by simp);refine⟨⟨e0.mod,S.kind,rfl,rfl,Nat.le_refl _,fun y z c h1 h2=>?_,fun y hy=>?_,fun y c _ h=>?_,fun _=>hd,Around.frames_deeper e0.frames,.inr ⟨rfl,rfl⟩,fun b z=>absurd z (noA b),e0.bs,e0.bsz,fun b _ _=>noA b,fun b z=>absurd z (noA b),e0.sQ,e0.frf⟩,
    rfl,e0.bare,Un.kept hk,⟨_,x.toInCall.ns,fun i y v h1 h2 h3=>?_⟩,fun y c h=>⟨_,x.cell y c h⟩,e0.hok.fresh (Nat.le_refl _),fun y c h=>?_,fun p hp=>absurd (show p∈([]:List (Addr×Obj)) from hp) (by simp),e0.hok.kept hk,?_⟩
  · exact name_of_addr x.apart (PySem.mem_of_lookup h1) (PySem.mem_of_lookup h2)
  · have hy:scope.names.lookup y=some .cell\/scope.names.lookup y=some .free:=hy;rcases hy with hy|hy
    · exact Fk hy
    · exact absurd rfl (S.cX _ (PySem.mem_of_lookup hy))
  · exact Nat.le_of_lt (x.above y c (PySem.mem_of_lookup h))
  · have hi:i < vs.length:=by
      unfold start at h2;by_cases hi:i < vs.length
      · exact hi
      · rw[List.getElem?_append_right (by simpa using hi)] at h2;rw[List.getElem?_replicate] at h2;split at h2<;>cases h2
    have ha:vs[i]?=some v:=by
      unfold start at h2;rw[List.getElem?_append_left (by simpa using hi),List.getElem?_map] at h2;cases e:vs[i]? with
      | none=>rw[e] at h2;cases h2
      | some a=>rw[e] at h2;cases h2;rfl
    obtain⟨u,hu,rv⟩:=r.get ha;have hp:ps[i]?=some y:=by
      rw[<- S.pre,List.getElem?_take_of_lt (by omega)];exact h1
    have ndP:ps.Nodup:=by rw[<- S.pre];exact S.nd.sublist (List.take_sublist _ _)
    refine⟨u,rv,?_⟩;rcases S.par y (List.mem_of_getElem? hp) with k|k
    · exact .inl ⟨k,CI ndP hp hu k⟩
    · obtain⟨c,e⟩:=Fk (n:=s.heap.objs.size+1) k;refine .inr ⟨.inl k,c,e,?_⟩;have q:=x.cell y c e;rw[CG ndP hp hu (by show scope.names.lookup y≠_;rw[k];decide)] at q;exact q
  · exact e0.hok.fresh (Nat.le_of_lt (x.above y c (PySem.mem_of_lookup h)))
  · unfold start;show _=N.length;rw[List.length_append,List.length_map,List.length_replicate];omega
def X6{CX:CXT}{P:Program}{w:World}{K:q0B}{mg:q0C}{base:Heap}{k:Nat}{f:Addr}{name qual:Str}{params:Arguments}{body:List Stmt}{scope:Scope}{dV kV doc pm cdv ct oc:Value}{an od:Option Addr}
    {osl:Array (Option Value)} {N ps:List Str} {sp:Sp} (lk:K.lookup f=some ⟨oc,od,.func (PySem.W.fnOf name qual params body scope dV kV doc pm an cdv ct),osl⟩) (hcd:PySem.W.codeIn K cdv qual=true) (S:aS N ps scope)
    (len:∀ vs H Q E,sp vs H Q E->vs.length=ps.length)
    (abE:∀(A:Around) (outer:List Env) (s:Shared) (H:Hp) (vs:List V) (Q:VK) (E:XK),Room k (A.deeper (envOfC qual scope s.heap.objs.size f cdv))->sp vs H Q E ->
      ∃ t,PSs (Fq CX P w K mg base N qual scope f cdv A outer s H E) body t/\t {nx:=fun _ H'=>Q .non H',rt:=Q} (start N vs) H) :
    bD P w K mg base CX (k+1) f (PySem.W.fnOf name qual params body scope dV kV doc pm an cdv ct) ps sp:=by
  refine⟨len,fun A outer s H args us vs Q E hr e0 hb r hsp=>?_⟩;have hl:=len _ _ _ _ hsp;have KX:K.In s.heap:=e0.mod.kin.keeps fun b o e=>(e0.bs b o e).1;have lim:s.heap.NoLimit:=e0.mod.nolimit.keeps fun b o e=>(e0.bs b o e).1;have aaL:∀ y∈ps.zip us,scope.names.lookup y.1=some .local\/(scope.names.lookup y.1=some .cell/\((cellsFrom (s.heap.objs.size+1) scope.names []).lookup y.1).isSome=true):=fun⟨n,v⟩ hy=>by
    rcases S.par n (List.of_mem_zip hy).1 with q|q
    · exact .inl q
    · exact .inr ⟨q,PySem.W.cellsFrom_some _ _ _ (.inl q)⟩
  refine codeAny_call_function hr.depth (KX _ _ lk) rfl S.co S.gen rfl (PySem.W.codeRec_of KX hcd) (hb _ _ _ _ ?_);refine wpAny_newFunctionEnv_cells S.kind aaL fun env he s1 x=>?_;subst he;refine⟨lim.keeps x.toInCall.keep,codeAny_func ?_⟩;obtain⟨t,ht,hq⟩:=abE A outer s H vs Q E (hr.deeper _) hsp;have I:Z9 (Fq CX P w K mg base N qual scope f cdv A outer s H E) [] (start N vs) H s1:=LC S hr.hd e0 hl r x;refine wpAny_mono (ht [] s1 (start N vs) H _ I hq) (fun fl s' hs=>?_) fun e s' hs=>hs;have fin:∀ {σ':St} {H':Hp} {v:V} {u:Value},Z9 (Fq CX P w K mg base N qual scope f cdv A outer s H E) [] σ' H' s'->bJ v u->Q v H'->CE outer P w H s Q u s' :=
    fun {σ' H' v u} J rv q=>⟨v,H',J.os,J.bare,J.base,J.hok,rv,q⟩
  cases fl with
  | ret u =>
    obtain⟨v,σ',H',J,rv,q⟩:=hs;exact fin J rv q
  | next =>
    obtain⟨σ',H',J,q⟩:=hs;exact fin (v:=V.non) (u:=Value.none) J rfl q
  | brk =>
    obtain⟨_,_,_,q⟩:=hs;exact False.elim q
  | cont =>
    obtain⟨_,_,_,q⟩:=hs;exact False.elim q
section
variable {X:Cx} {x:Str} {p pos:Pos} {e:Expr} {es:List Expr} {t:TA} {id T:String} {r:List V->Hp->VK->Prop}
def ZM(r:List V->Hp->VK->Prop)(t:TA):TE:=fun σ H Q=>t σ H fun vs H1=>r vs H1 Q
def bM(hc:dG X (.builtin id) r)(hg:Gl X x)(hm:X.mg x=none)(hv:bootBuiltins x=some (.builtin id))(ha:PA X (e::es) t)(hn:x≠"__name__":=by decide)(hdb:(x==("__debug__":Str))=false:=by decide)
    (he:starEach (e::es) X.env=(false,eval e X.env)::starEach es X.env:=by rfl) (hpl:(backTo pos (starEach es X.env)).any (·.1)=false:=by rfl):PE X (.Call (.Name x p) (e::es) [] pos) (ZM r t):=by
  intro Z7 s σ H Q I h;refine wpAny_Call_Name_kw (rA I hg hm hv ?_ hn hdb);exact PyProof.Rows.callWith_builtin1 (thn (ha pos Z7 s σ H _ I h) fun us s1 ⟨vs,H1,I1,r1,q1⟩=>hc Z7 s1 σ H1 vs us Q I1 r1 q1) he hpl
def bZ(hc:dG X (.type T) r)(hg:Gl X x)(hm:X.mg x=none)(hv:bootBuiltins x=some (.type T))(ha:PA X (e::es) t)(hn:x≠"__name__":=by decide)(hdb:(x==("__debug__":Str))=false:=by decide)
    (he:starEach (e::es) X.env=(false,eval e X.env)::starEach es X.env:=by rfl) (hpl:(backTo pos (starEach es X.env)).any (·.1)=false:=by rfl):PE X (.Call (.Name x p) (e::es) [] pos) (ZM r t):=by
  intro Z7 s σ H Q I h;refine wpAny_Call_Name_kw (rA I hg hm hv ?_ hn hdb);exact PyProof.Rows.callWith_type1 (thn (ha pos Z7 s σ H _ I h) fun us s1 ⟨vs,H1,I1,r1,q1⟩=>hc Z7 s1 σ H1 vs us Q I1 r1 q1) he hpl
end
end L2
namespace HT
open PySem PyProof.Rows
section
open PySem.SeqAt
open PySem.AutoSeq1 (wpAny_loadPart')
open PySem.MeetsSeq PySem.MeetsSeq2 PySem.MeetsSeq3
end
section
variable {prog:Program} {w:World} {A:Around} {E:q0A} {s:Shared}
def QL{t b:Addr}{vs ws:List Value}{Q:q0A}(ht:IsTup s.heap t vs.toArray)(hb:IsTup s.heap b ws.toArray)(hv:vs≠[])
    (h1:ws=[]->Q (.ref t) s) (h2:ws≠[]->Q (.ref s.heap.objs.size) {s with heap:=s.heap.push {cls:=.type "tuple",data:=.seq (vs++ws).toArray}})
    (hsz:vs.length+ws.length<=sizeLine):wpAny (model prog w) A (binaryOp .Add (.ref t) (.ref b)) Q E s:=by
  obtain⟨⟨cls,dd,data,sl⟩,ho,hc,n,hd⟩:=id ht;obtain⟨⟨aeQ,dd2,data2,sl2⟩,ho2,hc2,n2,hd2⟩:=id hb;simp only at hc hd hc2 hd2;subst hc hd hc2 hd2;have e:vs.toArray++ws.toArray=(vs++ws).toArray:=by simp
  by_cases hw:ws=[]
  · exact concat_meets ⟨_,ho,rfl⟩ ⟨_,ho2,rfl⟩ noFill_tuple_add seq_tuple_add PySem.F.slot_tuple_add PySem.F.entry_tuple_add (PySem.F.args_tuple_add_2 _ _)
      (tuple_addW1 t b vs.toArray ws.toArray n n2 dd dd2 sl sl2 (by simpa using hv) (by simp[hw])) ⟨ho,ho2,h1 hw⟩
  · refine concat_meets ⟨_,ho,rfl⟩ ⟨_,ho2,rfl⟩ noFill_tuple_add seq_tuple_add PySem.F.slot_tuple_add PySem.F.entry_tuple_add (PySem.F.args_tuple_add_2 _ _)
      (tuple_addW2 t b vs.toArray ws.toArray n n2 dd dd2 sl sl2 (by simpa using hv) (by simpa using hw) (by rw[List.size_toArray,List.size_toArray];exact hsz)) ⟨ho,ho2,?_⟩
    rw[e];exact h2 hw
def fX(n d:Nat):Option Int->Nat
 | none=>d
 | some v=>if v < 0 then (v+(n:Int)).toNat else min v.toNat n
def Pr(n d:Nat):fX n d none=d:=rfl
def SD(n d k:Nat):fX n d (some (k:Int))=min k n:=by
 show(if (k:Int) < 0 then ((k:Int)+(n:Int)).toNat else min (k:Int).toNat n)=min k n;rw[if_neg (by omega),Int.toNat_natCast]
def Wv(n d:Nat)(hd:d<=n)(o:Option Int):fX n d o<=n:=by
 cases o with
 | none=>exact hd
 | some v =>
  show(if v < 0 then (v+(n:Int)).toNat else min v.toNat n)<=n;by_cases hv:v < 0
  ·rw[if_pos hv];omega
  ·rw[if_neg hv];exact Nat.min_le_right _ _
def Jx(v:Int)(n d:Nat):(if v < 0 then max (v+(n:Int)) 0 else min v (n:Int))=((fX n d (some v):Nat):Int):=by
 show(if v < 0 then max (v+(n:Int)) 0 else min v (n:Int))=(((if v < 0 then (v+(n:Int)).toNat else min v.toNat n):Nat):Int);by_cases hv:v < 0
 ·simp only[if_pos hv];omega
 ·simp only[if_neg hv];omega
def HF(lo hi:Option Int)(n:Nat):Builtin.Slice.sliceAdjust lo hi 1 (n:Int)=(((fX n 0 lo:Nat):Int),((fX n n hi:Nat):Int)):=by
 have h1:¬ ((1:Int) < 0):=by omega
 unfold Builtin.Slice.sliceAdjust;simp only[h1,if_false];refine Prod.ext ?_ ?_
 ·cases lo with
  | none=>rfl
  | some v=>exact Jx v n 0
 ·cases hi with
  | none=>rfl
  | some v=>exact Jx v n n
def IV(i j:Nat):Builtin.Slice.slicePlaces (i:Int) (j:Int) 1=j - i:=by
 unfold Builtin.Slice.slicePlaces;have h1:(1:Int) > 0:=by omega
 simp only[h1,if_true,Int.ediv_one];split<;>omega
def BN{v:Value}{o:Option Int}{Q:Option Int->Shared->Prop}(p:IsPart v o)(h:Q o s):wpAny (model prog w) A (Builtin.Slice.slicePartIndex v) Q E s:=by
 cases p with
 | none=>exact slicePart_none h
 | int i t=>exact slicePart_int h
def wY{sl:Addr}{vl vu:Value}{lo hi:Option Int}{n:Nat}{Q:Int×Int×Nat->Shared->Prop}(hs:s.heap.IsSliceOf sl vl vu .none)(pl:IsPart vl lo)(pu:IsPart vu hi)
    (h:Q (((fX n 0 lo:Nat):Int),1,fX n n hi - fX n 0 lo) s):wpAny (model prog w) A (Builtin.Slice.sliceApplied (.ref sl) (pure (n:Int))) Q E s:=by
  obtain⟨os,hos,hcs,hds⟩:=id hs;unfold Builtin.Slice.sliceApplied Builtin.Slice.sliceFields;refine wpAny_bind (wpAny_bind (wpAny_field hos hds (x:=vl) rfl (wpAny_bind (wpAny_field hos hds (x:=vu) rfl (wpAny_bind (wpAny_field hos hds (x:=.none) rfl (wpAny_pure ?_)))))));refine wpAny_bind (slicePart_none ?_);show wpAny _ _ (if ((1:Int)==0)=true then _ else _) _ _ s;rw[if_neg (by decide)];refine wpAny_bind (BN pl (wpAny_bind (BN pu (wpAny_bind (wpAny_pure ?_)))));show wpAny _ _ (match Builtin.Slice.sliceAdjust lo hi 1 (n:Int) with|(lo,hi)=>pure (lo,(1:Int),Builtin.Slice.slicePlaces lo hi 1)) _ _ s;rw[HF lo hi n];show wpAny _ _ (pure (((fX n 0 lo:Nat):Int),(1:Int),Builtin.Slice.slicePlaces ((fX n 0 lo:Nat):Int) ((fX n n hi:Nat):Int) 1)) _ _ s;rw[IV];exact wpAny_pure h
def Pk(xs:Array Value)(i k:Nat):((List.range k).filterMap fun(m:Nat)=>xs[((i:Int)+(m:Int) * 1).toNat]?).toArray=((xs.toList.drop i).take k).toArray:=by
 have e:(fun(m:Nat)=>xs[((i:Int)+(m:Int) * 1).toNat]?)=fun m=>xs[i+m]?:=by
  funext m;have:((i:Int)+(m:Int) * 1).toNat=i+m:=by omega
  rw[this]
 rw[e];have:=pick_run xs i k;rw[List.filterMap_map] at this;have e2:((fun x=>xs[x]?)∘fun x=>i+x)=fun m=>xs[i+m]?:=rfl;rw[e2] at this;rw[this]
def sT{t sl:Addr}{items:Array Value}{vl vu:Value}{lo hi:Option Int}{Q:q0A}(ht:IsTup s.heap t items)(hs:s.heap.IsSliceOf sl vl vu .none)(pl:IsPart vl lo)(pu:IsPart vu hi)
    (hw:¬ (fX items.size 0 lo=0/\fX items.size items.size hi=items.size))
    (h:Q (.ref s.heap.objs.size) {s with heap:=s.heap.push {cls:=.type "tuple",data:=.seq ((items.toList.drop (fX items.size 0 lo)).take (fX items.size items.size hi - fX items.size 0 lo)).toArray}})
    (hsz:items.size<=sizeLine):wpAny (model prog w) A (getItem (.ref t) (.ref sl)) Q E s:=by
  have aa0:sizeOk (.seq ((items.toList.drop (fX items.size 0 lo)).take (fX items.size items.size hi - fX items.size 0 lo)).toArray):=by
    show((items.toList.drop (fX items.size 0 lo)).take (fX items.size items.size hi - fX items.size 0 lo)).toArray.size<=sizeLine;rw[List.size_toArray,List.length_take,List.length_drop,Array.length_toList];omega
  have hj:fX items.size items.size hi<=items.size:=Wv _ _ (Nat.le_refl _) hi;obtain⟨os,hos,hcs,hds⟩:=id hs;have hTs:s.TypeIs (.ref sl) "slice":=⟨os,hos,hcs⟩;unfold getItem
  try with_reducible refine wpAny_holding ?_
  first|refine wpAny_bind (wpAny_pure ?_)|skip
  refine wpAny_bind (wpAny_sequenceKey ht.typeIs (by decide) ?_);refine wpAny_bind (wpAny_callSpecial?_slot (name:=Str.ofString "__getitem__") ht.typeIs PyProof.Rows.slot_tuple_getitem
    (wpAny_call_entry PyProof.Rows.slot_tuple_getitem ht.typeIs entry_tuple_getitem ?_ (args_tuple_getitem _ _)))
  show wpAny _ _ (Builtin.Tuple.tupleItemsOf (.ref t) >>= _) _ _ s;refine wpAny_bind (tupleItemsOf_ ht ?_);refine wpAny_bind (wpAny_typeOf hTs ?_);rw[if_pos (by decide)];refine wpAny_bind (wY hs pl pu ?_);have hno:¬ ((((fX items.size 0 lo:Nat):Int)==0&&(1:Int)==1&&(fX items.size items.size hi - fX items.size 0 lo)==items.size)=true):=by
    intro q;rw[Bool.and_eq_true,Bool.and_eq_true] at q;have q1:((fX items.size 0 lo:Nat):Int)=0:=eq_of_beq q.1.1;have q2:fX items.size items.size hi - fX items.size 0 lo=items.size:=eq_of_beq q.2;exact hw ⟨by omega,by omega⟩
  show wpAny _ _ (if (((fX items.size 0 lo:Nat):Int)==0&&(1:Int)==1&&(fX items.size items.size hi - fX items.size 0 lo)==items.size)=true then _ else _) _ _ s;rw[if_neg hno,Pk]
  first
    | exact wpAny_bind (m:=Builtin.Tuple.tupleExact _) (wpAny_newObj_type (wpAny_pure ⟨_,rfl,wpAny_pure h⟩) aa0)
    | exact wpAny_bind (m:=Builtin.Tuple.tupleExact _) (wpAny_newObj_type (wpAny_bind (wpAny_pure (wpAny_pure ⟨_,rfl,wpAny_pure h⟩))) aa0)
    | exact wpAny_bind (wpAny_bind (m:=Builtin.Tuple.tupleExact _) (wpAny_newObj_type (wpAny_pure (wpAny_pure ⟨_,rfl,wpAny_pure h⟩)) aa0))
    | exact wpAny_bind (wpAny_bind (m:=Builtin.Tuple.tupleExact _) (wpAny_newObj_type (wpAny_pure ⟨_,rfl,wpAny_pure h⟩) aa0))
end
end HT
namespace L2
open PySem PySem.Spec PyProof.Rows
abbrev TO:=St->Hp->(Option Int->Hp->Prop)->Prop
def PO(X:Cx)(e:Option Expr)(t:TO):Prop :=
 ∀(Z7:List (Addr×Obj)) (s:Shared) (σ:St) (H:Hp) (Q:Option Int->Hp->Prop),Z9 X Z7 σ H s->t σ H Q ->
  wpAny (model X.prog X.w) X.A (evalPart e X.env) (fun u s'=>∃ o H',Z9 X Z7 σ H' s'/\IsPart u o/\Q o H') X.xe s
def Kv:TO:=fun _ H Q=>Q none H
def Qd(t:TE):TO:=fun σ H Q=>t σ H fun x H1=>∃ i,x=.int i/\Q (some i) H1
def Ij{ns:List Int}:∀ {us:List Value},Vals (ns.map V.int) us->IntsAre us ns:=by
 induction ns with
 | nil=>intro us r;rw[List.map_nil] at r;cases r;exact .nil
 | cons n ns ih =>
  intro us r;rw[List.map_cons] at r;cases r with
  | cons r1 r2 =>
   obtain⟨t,e⟩:=r1;subst e;exact .cons n t (ih r2)
section
variable {X:Cx} {e:Expr} {te:TE} {lo hi:Option Expr} {tl th:TO} {pos p2:Pos}
def gL:PO X none Kv:=by
 intro Z7 s σ H Q I h;rw[evalPart_none];exact wpAny_pure ⟨none,H,I,.none,h⟩
def eX(h:PE X e te):PO X (some e) (Qd te):=by
 intro Z7 s σ H Q I hw;rw[evalPart_some];refine thn (h Z7 s σ H _ I hw) fun u s1 ⟨x,H1,I1,r1,q1⟩=>?_;obtain⟨i,rfl,q⟩:=q1;obtain⟨t,rfl⟩:=r1;exact⟨some i,H1,I1,.int i t,q⟩
def Qv(X:Cx)(r:V->Option Int->Option Int->Hp->VK->Prop):Prop :=
 ∀(Z7:List (Addr×Obj)) (s:Shared) (σ:St) (H:Hp) (x:V) (v vl vu:Value) (lo hi:Option Int) (sl:Addr) (Q:VK),Z9 X Z7 σ H s->bJ x v->s.heap.IsSliceOf sl vl vu .none->IsPart vl lo->IsPart vu hi->r x lo hi H Q ->
  ∃ T id,typeLookup (.type T) "__getitem__"=pure (some (.builtin id))/\s.TypeIs v T/\wpAny (model X.prog X.w) X.A (getItem v (.ref sl)) (EP X Z7 σ Q) X.xe s
def Qv.or{r r':V->Option Int->Option Int->Hp->VK->Prop}(h:Qv X r)(h':Qv X r'):Qv X (fun x lo hi H Q=>r x lo hi H Q\/r' x lo hi H Q):=by
 intro Z7 s σ H x v vl vu lo hi sl Q I rx hs pl pu q;rcases q with q|q
 ·exact h Z7 s σ H x v vl vu lo hi sl Q I rx hs pl pu q
 ·exact h' Z7 s σ H x v vl vu lo hi sl Q I rx hs pl pu q
def ZX(r:V->Option Int->Option Int->Hp->VK->Prop)(te:TE)(tl th:TO):TE:=fun σ H Q=>te σ H fun x H1=>tl σ H1 fun l H2=>th σ H2 fun u H3=>r x l u H3 Q
def eF{r:V->Option Int->Option Int->Hp->VK->Prop}(hr:Qv X r)(he:PE X e te)(hl:PO X lo tl)(hu:PO X hi th):PE X (.Subscript e (.Slice lo hi none p2) pos) (ZX r te tl th):=by
 intro Z7 s σ H Q I h;refine Subscript_ (thn (he Z7 s σ H _ I h) fun v s1 ⟨x,H1,I1,r1,q1⟩=>?_);refine wpAny_Slice (thn (hl Z7 s1 σ H1 _ I1 q1) fun vl s2 ⟨l,H2,I2,pl,q2⟩=>thn (hu Z7 s2 σ H2 _ I2 q2) fun vu s3 ⟨u,H3,I3,pu,q3⟩=>?_);rw[evalPart_none];refine wpAny_pure ?_;have I4:Z9 X Z7 σ H3 {s3 with heap:=s3.heap.push {cls:=.type "slice",data:=.fields #[vl,vu,.none]}}:=I3.kept (t':=s3.toks) fun b ob q=>Heap.get?_push_of_some _ q;obtain⟨T,id,hT,ht,hg⟩:=hr Z7 {s3 with heap:=s3.heap.push {cls:=.type "slice",data:=.fields #[vl,vu,.none]}} σ H3 x v vl vu l u s3.heap.objs.size Q I4 r1 (Heap.IsSliceOf.new ..) pl pu q3;show wpAny (model X.prog X.w) X.A (subscriptTail e (.Slice lo hi none p2) v (.ref s3.heap.objs.size)) (EP X Z7 σ Q) X.xe {s3 with heap:=s3.heap.push {cls:=.type "slice",data:=.fields #[vl,vu,.none]}};exact tail_any (ops:=[.ref s3.heap.objs.size,v]) ht hT hg (by with_unfolding_all rfl)
def mC(xs:List V)(lo hi:Option Int):List V:=(xs.drop (HT.fX xs.length 0 lo)).take (HT.fX xs.length xs.length hi - HT.fX xs.length 0 lo)
def xA(xs:List V)(lo hi:Option Int):(mC xs lo hi).length<=xs.length:=by
 unfold mC;rw[List.length_take,List.length_drop];omega
def ZF(K:q0B):V->Option Int->Option Int->Hp->VK->Prop:=fun x lo hi H Q=>∃ a xs,x=.ref a/\fA K H a xs /\
 ¬ (HT.fX xs.length 0 lo=0/\HT.fX xs.length xs.length hi=xs.length)/\∀ p,H p=none->Q (.ref p) (Z8 H p (.tup (mC xs lo hi)))
def Wx:Qv X (ZF X.K):=by
 intro Z7 s σ H x v vl vu lo hi sl Q I rx hs pl pu h;obtain⟨a,xs,rfl,hx,hw,q⟩:=h;cases rx;obtain⟨its,r,ht,hz⟩:=I.tuple hx;have hlen:its.toArray.size=xs.length:=by rw[List.size_toArray];exact r.length.symm
 refine⟨"tuple",_,PyProof.Rows.slot_tuple_getitem.lookup,ht.typeIs,?_⟩;refine HT.sT ht hs pl pu (by rw[hlen];exact hw) ?_ (by rw[hlen];exact hz);rw[hlen];refine⟨.ref s.heap.objs.size,_,I.laid (t':=s.toks) (o:=.tup (mC xs lo hi)) (fun b ob q=>Heap.get?_push_of_some _ q) (Nat.le_refl _) ?_,rfl,q _ (I.hok.fresh (Nat.le_refl _))⟩;exact⟨Nat.le_trans (xA xs lo hi) hz,_,(r.drop (HT.fX xs.length 0 lo)).take (HT.fX xs.length xs.length hi - HT.fX xs.length 0 lo),IsTup.new _ _⟩
def Yo(K:q0B):R2:=fun x y H Q=>∃ a b xs ys,x=.ref a/\y=.ref b/\fA K H a xs/\fA K H b ys/\xs≠[]/\xs.length+ys.length<=sizeLine /\
 (ys=[]->Q (.ref a) H)/\(ys≠[]->∀ p,H p=none->Q (.ref p) (Z8 H p (.tup (xs++ys))))
def Vals.tH{xs:List V}{us:List Value}(r:Vals xs us):us=[]↔xs=[]:=by
 cases r with
 | nil=>simp
 | cons _ _=>simp
def Kd:iW X (binaryOp .Add) (Yo X.K):=by
 intro Z7 s σ H x y v u Q I rx ry h;obtain⟨a,b,xs,ys,rfl,rfl,ha,hb,hx,hz,q1,q2⟩:=h;cases rx;cases ry;obtain⟨its,r1,p1,_⟩:=I.tuple ha;obtain⟨aaO,r2,p2,_⟩:=I.tuple hb;refine HT.QL p1 p2 (fun z=>hx (r1.tH.mp z)) (fun z=>⟨.ref a,H,I,rfl,q1 (r2.tH.mp z)⟩) (fun z=>?_) (by rw[<- r1.length,<- r2.length];exact hz);refine⟨.ref s.heap.objs.size,_,I.laid (t':=s.toks) (o:=.tup (xs++ys)) (fun b ob q=>Heap.get?_push_of_some _ q) (Nat.le_refl _) ?_,rfl,q2 (fun w=>z (r2.tH.mpr w)) _ (I.hok.fresh (Nat.le_refl _))⟩;exact⟨by rw[List.length_append];exact hz,_,r1.append r2,IsTup.new _ _⟩
end
def HA(n:Nat)(i:Int):Option Nat:=if 0<=i then (if i < n then some i.toNat else none) else if -(n:Int)<=i then some (i+n).toNat else none
def kY{α:Type}(xs:List α)(i:Int):Option α:=(HA xs.length i).bind fun j=>xs[j]?
def JW{n:Nat}{i:Int}{j:Nat}(h:HA n i=some j):seqIndex? i n=some j/\j < n/\-(n:Int)<=i/\i < n:=by
 unfold HA at h;by_cases h0:0<=i
 ·rw[if_pos h0] at h;by_cases h1:i < n
  ·rw[if_pos h1] at h;have e:i.toNat=j:=Option.some.inj h;exact⟨by rw[seqIndex_of h0 h1,e],by omega,by omega,h1⟩
  ·rw[if_neg h1] at h;cases h
 ·rw[if_neg h0] at h;by_cases h1:-(n:Int)<=i
  ·rw[if_pos h1] at h;have e:(i+n).toNat=j:=Option.some.inj h;exact⟨by rw[seqIndex_neg (by omega) h1,e],by omega,h1,by omega⟩
  ·rw[if_neg h1] at h;cases h
def yQ{α:Type}{xs:List α}{i:Int}{v:α}(h:kY xs i=some v):∃ j,seqIndex? i xs.length=some j/\xs[j]?=some v/\j < xs.length/\-(xs.length:Int)<=i/\i < xs.length:=by
 unfold kY at h;cases e:HA xs.length i with
 | none=>rw[e] at h;cases h
 | some j =>
  rw[e] at h;obtain⟨h1,h2,h3,h4⟩:=JW e;exact⟨j,h1,h,h2,h3,h4⟩
def pN{α:Type}{xs:List α}{j:Nat}{v:α}(h:xs[j]?=some v):kY xs (j:Int)=some v:=by
 have hj:j < xs.length:=(List.getElem?_eq_some_iff.mp h).1;have e:HA xs.length (j:Int)=some j:=by
  unfold HA;rw[if_pos (by omega),if_pos (by omega)];simp
 unfold kY;rw[e];exact h
def nR{α:Type}(xs:List α)(v:α):kY (xs++[v]) (-1)=some v:=by
 have hl:(xs++[v]).length=xs.length+1:=by simp
 have e:HA (xs++[v]).length (-1)=some xs.length:=by
  unfold HA;rw[hl,if_neg (by decide),if_pos (by omega)]
  congr 1
  omega
 unfold kY;rw[e];show(xs++[v])[xs.length]?=some v;simp
def Qu(b:Expr):Prop:=∀ o i,subscripted b false o i=operate [o,i] (getItem o i)
def KI(X:Cx)(r:R2):Prop :=
 ∀(value slice:Expr) (Z7:List (Addr×Obj)) (s:Shared) (σ:St) (H:Hp) (x y:V) (v u:Value) (Q:VK),Z9 X Z7 σ H s->bJ x v->bJ y u->r x y H Q ->
  subscripted slice false v u=operate [v,u] (getItem v u)->wpAny (model X.prog X.w) X.A (subscriptTail value slice v u) (EP X Z7 σ Q) X.xe s
def Uo(X:Cx)(id:String)(r:V->List V->Hp->VK->Prop):Prop :=
 ∀(Z7:List (Addr×Obj)) (s:Shared) (σ:St) (H:Hp) (x:V) (xs:List V) (v:Value) (us:List Value) (Q:VK),Z9 X Z7 σ H s->bJ x v->Vals xs us->r x xs H Q ->
  wpAny (model X.prog X.w) X.A (call (.builtin id) (v::us)) (EP X Z7 σ Q) X.xe s
section
variable {X:Cx} {a b:Expr} {ta tb:TE} {pos:Pos}
def KI.or{r r':R2}(h:KI X r)(h':KI X r'):KI X (fun x y H Q=>r x y H Q\/r' x y H Q):=by
 intro value slice Z7 s σ H x y v u Q I rx ry q hs;rcases q with q|q
 ·exact h value slice Z7 s σ H x y v u Q I rx ry q hs
 ·exact h' value slice Z7 s σ H x y v u Q I rx ry q hs
def bB{r:R2}(hr:KI X r)(ha:PE X a ta)(hb:PE X b tb)(hs:Qu b):PE X (.Subscript a b pos) (WS r ta tb):=by
 intro Z7 s σ H Q I h;exact Subscript_ (Uu ha hb I h fun v u s2 x y H2 I2 rx ry q=>hr a b Z7 s2 σ H2 x y v u Q I2 rx ry q (hs _ _))
def Yp(K:q0B):R2:=fun x y H Q=>∃ p xs i v,x=.ref p/\y=.int i/\dR K H p xs/\kY xs i=some v/\Q v H
def Yr(K:q0B):R2:=fun x y H Q=>∃ p xs i v,x=.ref p/\y=.int i/\fA K H p xs/\kY xs i=some v/\Q v H
def Yq:R2:=fun x y H Q=>∃ z i c,x=.str z/\y=.int i/\z.length<=sizeLine/\kY z.cps.toList i=some c/\Q (.str ⟨#[c]⟩) H
def JX:KI X (Yp X.K):=by
 intro value slice Z7 s σ H x y v u Q I rx ry h hs;obtain⟨p,xs,i,z,rfl,rfl,hq,he,q⟩:=h;cases rx;obtain⟨t,rfl⟩:=ry;obtain⟨its,r,pl,hz⟩:=I.list hq;obtain⟨j,h1,h2,h3,h4,h5⟩:=yQ he;obtain⟨w,ew,rw'⟩:=r.get h2;have hl:=r.length;have hn:=line63;have fin:EP X Z7 σ Q w s:=⟨z,H,I,rw',q⟩;by_cases h0:0<=i
 ·have hj:i.toNat=j:=by
   rw[seqIndex_of h0 h5] at h1;exact Option.some.inj h1
  exact item_listR pl.isList h0 (by omega) (by rw[hj];simpa using ew) fin hs
 ·have hj:(i+(its.toArray.size:Int)).toNat=j:=by
   rw[seqIndex_neg (by omega) h4] at h1;rw[List.size_toArray,<- hl];exact Option.some.inj h1
  exact subscriptTail_builtinR (x:=w) pl.isList.typeIs slot_list_getitem.lookup
   (wpAny_getItem_list_neg (Q:=fun r s'=>r=w/\EP X Z7 σ Q r s') pl.isList (by omega) (by rw[List.size_toArray]<;>omega) (by omega) (by rw[hj];simpa using ew) ⟨rfl,fin⟩) hs
def VX:KI X (Yr X.K):=by
 intro value slice Z7 s σ H x y v u Q I rx ry h hs;obtain⟨p,xs,i,z,rfl,rfl,hq,he,q⟩:=h;cases rx;obtain⟨t,rfl⟩:=ry;obtain⟨its,r,pl,hz⟩:=I.tuple hq;obtain⟨j,h1,h2,h3,h4,h5⟩:=yQ he;obtain⟨w,ew,rw'⟩:=r.get h2;have hl:=r.length;have hn:=line63;have fin:EP X Z7 σ Q w s:=⟨z,H,I,rw',q⟩;exact subscriptTail_builtinR (x:=w) pl.typeIs slot_tuple_getitem.lookup
  (getItem_tuple (j:=j) (Q:=fun r s'=>r=w/\EP X Z7 σ Q r s') pl (by omega) (by omega) (by rw[List.size_toArray,<- hl];exact h1) (by simpa using ew) ⟨rfl,fin⟩) hs
def VW:KI X Yq:=by
 intro value slice Z7 s σ H x y v u Q I rx ry h hs;obtain⟨z,i,c,rfl,rfl,hz,he,q⟩:=h;obtain⟨t,rfl⟩:=rx;obtain⟨t',rfl⟩:=ry;obtain⟨j,h1,h2,h3,h4,h5⟩:=yQ he;have hl:z.cps.toList.length=z.length:=by simp[Str.length]
 rw[hl] at h1 h4 h5;have hn:=line63;exact tail_any (typeIs_str s z t) slot_str_getitem.lookup (getItem_str (c:=c) (by
  have e1:decide (i < -(2 ^ 63:Int))=false:=decide_eq_false (by omega);have e2:decide (i >= 2 ^ 63)=false:=decide_eq_false (by omega);rw[e1,e2,Bool.or_false]) (by rw[h1];simpa using h2) ⟨.str ⟨#[c]⟩,H,I.tok _,⟨_,rfl⟩,q⟩) hs
def Z4(K:q0B):R2:=fun x y H Q=>Yp K x y H Q\/Yr K x y H Q\/Yq x y H Q
def VU:KI X (Z4 X.K):=JX.or (VX.or VW)
def Ir(its:List Value)(n j:Nat)(u:Value):Obj.mapSeq (·.setIfInBounds j u) {cls:=.type "list",data:=.seq its.toArray n}={cls:=.type "list",data:=.seq (its.set j u).toArray n}:=by
 simp[Obj.mapSeq]
def Z9.lst{Z7:List (Addr×Obj)}{σ:St}{H:Hp}{s:Shared}{p:Addr}{xs:List V}(I:Z9 X Z7 σ H s)(h:H p=some (.lst xs)) :
    ∃(its:List Value) (n:Nat),Vals xs its/\s.heap.get? p=some {cls:=.type "list",data:=.seq its.toArray n}/\xs.length<=sizeLine:=by
  obtain⟨z,its,n,r,e⟩:=I.hok p _ h;exact⟨its,n,r,e,z⟩
def Z9.V1{Z7:List (Addr×Obj)}{σ:St}{H:Hp}{s:Shared}{p:Addr}{xs ys:List V}{its its':List Value}{n n':Nat}{f:Obj->Obj}(I:Z9 X Z7 σ H s)(h:H p=some (.lst xs))
    (ho:s.heap.get? p=some {cls:=.type "list",data:=.seq its.toArray n}) (hf:f {cls:=.type "list",data:=.seq its.toArray n}={cls:=.type "list",data:=.seq its'.toArray n'}) (r:Vals ys its') (hz:ys.length<=sizeLine) (t:Nat) :
    Z9 X Z7 σ (Z8 H p (.lst ys)) {s with heap:=s.heap.update p f,toks:=t}:=by
  have e:(s.heap.update p f).get? p=some {cls:=.type "list",data:=.seq its'.toArray n'}:=by
    rw[Heap.get?_update_self f ho (by rw[hf]<;>rfl),hf]
  refine I.write (x:=p) (e:=p) (by rw[h];trivial) (.inl rfl) (fun b u hb q=>(Heap.get?_update_other _ _ (Ne.symm hb)).trans q) ⟨_,e⟩ ?_;exact⟨hz,its',n',r,e⟩
def Yt:V->V->V->Hp->(Hp->Prop)->Prop:=fun o i v H Q=>∃ p xs k j,o=.ref p/\i=.int k/\H p=some (.lst xs)/\HA xs.length k=some j/\Q (Z8 H p (.lst (xs.set j v)))
def PF:PSet X Yt:=by
 intro Z7 s σ H o i v ov iv u Q I ro ri rv h;obtain⟨p,xs,k,j,rfl,rfl,hp,hj,q⟩:=h;cases ro;obtain⟨t,rfl⟩:=ri;obtain⟨its,n,r,ho,hz⟩:=I.lst hp;obtain⟨h1,h2,h3,h4⟩:=JW hj;have hl:=r.length;have hn:=line63;have I':Z9 X Z7 σ (Z8 H p (.lst (xs.set j v))) {s with heap:=s.heap.update p (Obj.mapSeq (·.setIfInBounds j u))} :=
  I.V1 hp ho (Ir its n j u) (r.set rv j) (by rw[List.length_set];exact hz) s.toks
 by_cases h0:0<=k
 ·have hk:k.toNat=j:=by
   rw[seqIndex_of h0 h4] at h1;exact Option.some.inj h1
  exact PySem.W.ki_setAt ho h0 (by omega) (by rw[List.size_toArray,<- hl];exact h4) (by rw[hk];exact⟨_,I',q⟩)
 ·have hk:(k+(its.toArray.size:Int)).toNat=j:=by
   rw[seqIndex_neg (by omega) h3] at h1;rw[List.size_toArray,<- hl];exact Option.some.inj h1
  exact PySem.W.ki_setBack ho (by omega) (by rw[List.size_toArray,<- hl];exact h3) (by omega) (by rw[hk];exact⟨_,I',q⟩)
def EO(lo hi:Option Int)(n:Nat):(sliceBounds lo hi none n).1=((HT.fX n 0 lo:Nat):Int)/\(sliceBounds lo hi none n).2.1=((HT.fX n n hi:Nat):Int)/\(sliceBounds lo hi none n).2.2=1:=by
 refine⟨?_,?_,rfl⟩
 ·cases lo with
  | none=>simp[sliceBounds,HT.fX]
  | some i =>
   simp only[sliceBounds,HT.fX,Option.getD_none,show(1:Int) > 0 by decide,if_true];by_cases h:i < 0
   ·simp only[h,if_true]<;>omega
   ·simp only[h,if_false]<;>omega
 ·cases hi with
  | none=>simp[sliceBounds,HT.fX]
  | some i =>
   simp only[sliceBounds,HT.fX,Option.getD_none,show(1:Int) > 0 by decide,if_true];by_cases h:i < 0
   ·simp only[h,if_true]<;>omega
   ·simp only[h,if_false]<;>omega
def Cy(its:List Value)(lo hi:Option Int):slicePick its.toArray lo hi none=((its.drop (HT.fX its.length 0 lo)).take (HT.fX its.length its.length hi - HT.fX its.length 0 lo)).toArray:=by
 obtain⟨h1,h2,h3⟩:=EO lo hi its.toArray.size;unfold slicePick;rw[h1,h2,h3];simp only[sliceRange_one,pick_run,List.size_toArray]<;>rfl
def Wr(K:q0B):V->Option Int->Option Int->Hp->VK->Prop:=fun x lo hi H Q=>∃ a xs,x=.ref a/\dR K H a xs/\∀ p,H p=none->Q (.ref p) (Z8 H p (.lst (mC xs lo hi)))
def EN:Qv X (Wr X.K):=by
 intro Z7 s σ H x v vl vu lo hi sl Q I rx hs pl pu h;obtain⟨a,xs,rfl,hx,q⟩:=h;cases rx;obtain⟨its,r,ht,hz⟩:=I.list hx;have hlen:=r.length;refine⟨"list",_,slot_list_getitem.lookup,ht.isList.typeIs,?_⟩;refine wpAny_getItem_list_slice ht.isList hs pl pu .none (by simp) ?_ (by rw[List.size_toArray]<;>omega);rw[Cy,<- hlen];refine⟨.ref s.heap.objs.size,_,I.laid (t':=s.toks) (o:=.lst (mC xs lo hi)) (fun b ob q=>Heap.get?_push_of_some _ q) (Nat.le_refl _) ?_,rfl,q _ (I.hok.fresh (Nat.le_refl _))⟩;exact⟨Nat.le_trans (xA xs lo hi) hz,_,0,(r.drop (HT.fX xs.length 0 lo)).take (HT.fX xs.length xs.length hi - HT.fX xs.length 0 lo),Heap.get?_push_size _ rfl⟩
def dC:V->Bool
 | .non=>true
 | .bl _=>true
 | .int _=>true
 | .str _=>true
 | _=>false
def uZ:V->V->Bool
 | .non,.non=>true
 | .bl a,.bl b=>a==b
 | .bl a,.int b=>(if a then 1 else 0)==b
 | .int a,.bl b=>a==(if b then 1 else 0)
 | .int a,.int b=>a==b
 | .str a,.str b=>a==b
 | _,_=>false
def NW{A:Around}{s:Shared}{y x:V}{u v:Value}(ry:bJ y u)(rx:bJ x v)(fy:dC y=true)(fx:dC x=true):SeqAt.EqAt A s u v (uZ y x):=by
 cases y with
 | non =>
  cases ry;cases x with
  | non=>cases rx;exact SeqAt.EqAt.same _
  | bl b=>cases rx;exact SeqAt.EqAt.none_bool b
  | int b=>obtain⟨t,rfl⟩:=rx;exact SeqAt.EqAt.none_int b t
  | str b=>obtain⟨t,rfl⟩:=rx;exact SeqAt.EqAt.none_str b t
  | _=>exact absurd (show false=true from fx) Bool.false_ne_true
 | bl a =>
  cases ry;cases x with
  | non=>cases rx;exact SeqAt.EqAt.bool_none a
  | bl b=>cases rx;exact SeqAt.EqAt.bool_bool a b
  | int b=>obtain⟨t,rfl⟩:=rx;exact SeqAt.EqAt.bool_int a b t
  | str b=>obtain⟨t,rfl⟩:=rx;exact SeqAt.EqAt.bool_str a b t
  | _=>exact absurd (show false=true from fx) Bool.false_ne_true
 | int a =>
  obtain⟨t',rfl⟩:=ry;cases x with
  | non=>cases rx;exact SeqAt.EqAt.int_none a t'
  | bl b=>cases rx;exact SeqAt.EqAt.int_bool a t' b
  | int b=>obtain⟨t,rfl⟩:=rx;exact SeqAt.EqAt.int_int a t' b t
  | str b=>obtain⟨t,rfl⟩:=rx;exact SeqAt.EqAt.int_str a t' b t
  | _=>exact absurd (show false=true from fx) Bool.false_ne_true
 | str a =>
  obtain⟨t',rfl⟩:=ry;cases x with
  | non=>cases rx;exact SeqAt.EqAt.str_none a t'
  | bl b=>cases rx;exact SeqAt.EqAt.str_bool a t' b
  | int b=>obtain⟨t,rfl⟩:=rx;exact SeqAt.EqAt.str_int a t' b t
  | str b=>obtain⟨t,rfl⟩:=rx;exact SeqAt.EqAt.str_str a t' b t
  | _=>exact absurd (show false=true from fx) Bool.false_ne_true
 | _=>exact absurd (show false=true from fy) Bool.false_ne_true
def H8(x:V)(u:Value):Bool:=match u with
 | .none=>uZ .non x
 | .bool b=>uZ (.bl b) x
 | .int i _=>uZ (.int i) x
 | .str z _=>uZ (.str z) x
 | _=>false
def NX{x y:V}{u:Value}(r:bJ y u)(f:dC y=true):H8 x u=uZ y x:=by
 cases y with
 | non=>cases r;rfl
 | bl b=>cases r;rfl
 | int i=>obtain⟨t,rfl⟩:=r;rfl
 | str z=>obtain⟨t,rfl⟩:=r;rfl
 | _=>exact absurd (show false=true from f) Bool.false_ne_true
def sE{x:V}:∀ {xs:List V} {us:List Value},Vals xs us->xs.all dC=true->us.any (H8 x)=xs.any fun y=>uZ y x
 | _,_,.nil,_=>rfl
 | y::xs,u::us,.cons r t,f=>by
  rw[List.all_cons,Bool.and_eq_true] at f;rw[List.any_cons,List.any_cons,NX r f.1,sE t f.2]
def oH{A:Around}{s:Shared}{x:V}{v:Value}(rx:bJ x v)(fx:dC x=true):∀ {xs:List V} {us:List Value},Vals xs us->xs.all dC=true->∀ u∈us,SeqAt.EqAt A s u v (H8 x u)
 | _,_,.nil,_=>fun u hu=>by cases hu
 | y::xs,u::us,.cons r t,f=>fun u' hu=>by
  rw[List.all_cons,Bool.and_eq_true] at f;rcases List.mem_cons.mp hu with rfl|hu
  ·rw[NX r f.1];exact NW r rx f.1 fx
  ·exact oH rx fx t f.2 u' hu
def sW(x:V)(xs:List V):Bool:=xs.any fun y=>uZ y x
def ZS(K:q0B)(neg:Bool):R2:=fun x y H Q=>∃ p xs,y=.ref p/\(dR K H p xs\/fA K H p xs)/\dC x=true/\xs.all dC=true/\Q (.bl (if neg then !sW x xs else sW x xs)) H
def Ma:iW X (compareOp .In) (ZS X.K false):=by
 intro Z7 s σ H x y v u Q I rx ry h;obtain⟨p,xs,rfl,hq,fx,fs,q⟩:=h;cases ry;rcases hq with hq|hq
 ·obtain⟨its,r,pl,hz⟩:=I.list hq;refine SeqAt.in_listAt (H8 x) pl.isList (fun w hw=>oH rx fx r fs w (by simpa using hw)) ⟨.bl _,H,I,rfl,?_⟩;rw[show its.toArray.any (H8 x)=its.any (H8 x) by simp,sE r fs];exact q
 ·obtain⟨its,r,pl,hz⟩:=I.tuple hq;refine SeqAt.in_tupleAt (H8 x) pl (fun w hw=>oH rx fx r fs w (by simpa using hw)) ⟨.bl _,H,I,rfl,?_⟩;rw[show its.toArray.any (H8 x)=its.any (H8 x) by simp,sE r fs];exact q
def tN:iW X (compareOp .NotIn) (ZS X.K true):=by
 intro Z7 s σ H x y v u Q I rx ry h;obtain⟨p,xs,rfl,hq,fx,fs,q⟩:=h;cases ry;rcases hq with hq|hq
 ·obtain⟨its,r,pl,hz⟩:=I.list hq;refine SeqAt.notIn_listAt (H8 x) pl.isList (fun w hw=>oH rx fx r fs w (by simpa using hw)) ⟨.bl _,H,I,rfl,?_⟩;rw[show its.toArray.any (H8 x)=its.any (H8 x) by simp,sE r fs];exact q
 ·obtain⟨its,r,pl,hz⟩:=I.tuple hq;refine SeqAt.notIn_tupleAt (H8 x) pl (fun w hw=>oH rx fx r fs w (by simpa using hw)) ⟨.bl _,H,I,rfl,?_⟩;rw[show its.toArray.any (H8 x)=its.any (H8 x) by simp,sE r fs];exact q
def sJ:dG X (.builtin "len") (fun xs H Q=>∃ p ys,xs=[.ref p]/\(dR X.K H p ys\/fA X.K H p ys)/\Q (.int ys.length) H):=by
 intro Z7 s σ H xs us Q I r h;obtain⟨p,ys,rfl,hq,q⟩:=h;obtain⟨u,rfl,rx⟩:=vals1 r;cases rx;have hn:=line63;rcases hq with hq|hq
 ·obtain⟨its,r',pl,hz⟩:=I.list hq;have hlen:=r'.length;exact Calls.call_len_list pl.isList (by simp only[List.size_toArray]<;>omega) ⟨.int ys.length,H,I.tok _,⟨s.toks+1,by rw[List.size_toArray,hlen]⟩,q⟩
 ·obtain⟨its,r',pl,hz⟩:=I.tuple hq;have hlen:=r'.length;exact len_tuple pl (by simp only[List.size_toArray]<;>omega) ⟨.int ys.length,H,I.tok _,⟨s.toks+1,by rw[List.size_toArray,hlen]⟩,q⟩
def B6:dG X (.type "tuple") (fun xs H Q=>∃ p ys,xs=[.ref p]/\((dR X.K H p ys/\∀ l,H l=none->Q (.ref l) (Z8 H l (.tup ys)))\/(fA X.K H p ys/\Q (.ref p) H))):=by
 intro Z7 s σ H xs us Q I r h;obtain⟨p,ys,rfl,h⟩:=h;obtain⟨u,rfl,rx⟩:=vals1 r;cases rx;rcases h with⟨hq,q⟩|⟨hq,q⟩
 ·obtain⟨its,r',pl,hz⟩:=I.list hq;have hlen:=r'.length;refine call_tuple_list pl.isList (fun h' kp=>?_) (by simp only[List.size_toArray]<;>omega);have I1:Z9 X Z7 σ H {s with heap:=h'}:=I.kept (t':=s.toks) kp;have I2:Z9 X Z7 σ (Z8 H h'.objs.size (.tup ys)) {s with heap:=h'.push {cls:=.type "tuple",data:=.seq its.toArray}} :=
   I1.laid (t':=s.toks) (fun b o e=>Heap.get?_push_of_some _ e) (Nat.le_refl _) (show dF X.prog X.w _ _ _ (.tup ys) from ⟨hz,its,r',IsTup.new _ _⟩)
  exact⟨.ref h'.objs.size,_,I2,rfl,q _ (I1.hok.fresh (Nat.le_refl _))⟩
 ·obtain⟨its,r',pl,hz⟩:=I.tuple hq;exact call_tuple_same pl ⟨.ref p,H,I,rfl,q⟩
def Y2(K:q0B)(T:String)(x:V)(H:Hp):Prop:=match x with
  | .str _=>T = "str"
  | .int _=>T = "int"
  | .ref p=>(T = "list"/\∃ xs,dR K H p xs)\/(T = "tuple"/\∃ o,K.lookup p=some o/\o.cls=.type "tuple"/\o.dict=none) \/
      (T = "dict"/\((∃ kvs,H p=some (.dK kvs))\/∃ kvs,H p=some (.dT kvs)))\/(T = "set"/\∃ S n,H p=some (.set S n))
  | _=>False
def E2{Z7:List (Addr×Obj)}{σ:St}{H:Hp}{s:Shared}{T:String}{x:V}{v:Value}(I:Z9 X Z7 σ H s)(r:bJ x v)(ty:Y2 X.K T x H) :
    s.TypeIs v T/\∀ a,v=.ref a->∃ ob,s.heap.get? a=some ob/\ob.dict=none:=by
  cases x with
  | str z =>
    obtain⟨t,rfl⟩:=r;cases (show T = "str" from ty);exact⟨typeIs_str s z t,fun _ e=>nomatch e⟩
  | int i =>
    obtain⟨t,rfl⟩:=r;cases (show T = "int" from ty);exact⟨typeIs_int s i t,fun _ e=>nomatch e⟩
  | ref p =>
    cases r;rcases ty with⟨rfl,xs,hq⟩|⟨rfl,o,hk,hc,hd⟩|⟨rfl,hk⟩|⟨rfl,S,n,hk⟩
    · obtain⟨its,_,pl,_⟩:=I.list hq;refine⟨pl.isList.typeIs,fun a e=>?_⟩;cases e;obtain⟨o,n,e,c,hd,_⟩:=pl;exact⟨o,e,hd⟩
    · refine⟨⟨o,I.kIn p o hk,hc⟩,fun a e=>?_⟩;cases e;exact⟨o,I.kIn _ o hk,hd⟩
    · have z:∃ o,s.heap.get? p=some o/\o.ExactDict:=by
        rcases hk with⟨kvs,hk⟩|⟨kvs,hk⟩
        · obtain⟨_,_,_,_,o,_,_,e,ex,_⟩:=I.hok p _ hk;exact⟨o,e,ex⟩
        · obtain⟨_,_,_,_,o,_,_,e,ex,_⟩:=I.hok p _ hk;exact⟨o,e,ex⟩
      obtain⟨o,e,ex⟩:=z;refine⟨⟨o,e,ex.1⟩,fun a e2=>?_⟩;cases e2;exact⟨o,e,ex.2.1⟩
    · obtain⟨o,_,_,_,e,ex,_⟩:=I.hok p _ hk;refine⟨⟨o,e,ex.1⟩,fun a e2=>?_⟩;cases e2;exact⟨o,e,ex.2.1⟩
  | _=>exact False.elim ty
def ZT(K:q0B)(T:String)(r:V->List V->Hp->VK->Prop)(to:TE)(t:TA):TE:=fun σ H Q=>to σ H fun x H1=>Y2 K T x H1/\t σ H1 fun xs H2=>r x xs H2 Q
variable {o e:Expr} {es:List Expr} {to:TE} {t:TA} {name:Str} {apos aaA:Pos} {T id:String} {r:V->List V->Hp->VK->Prop}
def Bp(pa:PlainAttrs T)(slot:Slot T name id)(hty:typeOf (.builtin id)=pure (.type "method_descriptor"))(hm:Uo X id r)(ho:PE X o to)(ha:PA X (e::es) t)
    (aaG:attributeBase o name X.env (eval o X.env)=eval o X.env:=by rfl)
    (abF:((backTo aaA (starEach (e::es) X.env)).all (fun x=>!x.1)&&(backToKw aaA (keywordEach [] X.env)).all (fun x=>x.1.isSome)
     &&decide ((e::es).length+([]:List Keyword).length+(if ([]:List Keyword).isEmpty then 0 else 1) < 30))=true:=by rfl)
    (aaH:(apos.endLine==aaA.line)=true:=by rfl) (hs:starEach (e::es) X.env=(false,eval e X.env)::starEach es X.env:=by rfl) (aaM:(backTo aaA (starEach es X.env)).any (·.1)=false:=by rfl) :
    PE X (.Call (.Attribute o name apos) (e::es) [] aaA) (ZT X.K T r to t):=by
  intro Z7 s σ H Q I h;refine wpAny_Call_method_late aaG abF aaH rfl (thn (ho Z7 s σ H _ I h) fun v s1 ⟨x,H1,I1,r1,ty,q1⟩=>?_);obtain⟨h1,h2⟩:=E2 I1 r1 ty;refine⟨T,id,pa,slot,hty,h1,h2,?_⟩;have hA:=ha aaA Z7 s1 σ H1 _ I1 q1;rw[hs] at hA ⊢;refine Calls.callWith_builtin (by show(false||(backTo aaA (starEach es X.env)).any (·.1))=false;rw[aaM]<;>rfl) (Calls.evalArgs_plain ?_);exact thn hA fun us s2 ⟨vs,H2,I2,r2,q2⟩=>hm Z7 s2 σ H2 x vs v us Q I2 r1 r2 q2
/- xs.append(e),list.index on a module's tuple .. are Uo facts of 06m -/
end
def Um(X:Cx)(id:String)(r:V->List V->Hp->VK->Prop):Prop :=
 ∀(Z7:List (Addr×Obj)) (s:Shared) (σ:St) (H:Hp) (x:V) (xs:List V) (v:Value) (us:List Value) (Q:VK),Z9 X Z7 σ H s->bJ x v->Vals xs us->r x xs H Q ->
  wpAny (model X.prog X.w) X.A (call (.builtin id) (v::us)) (EP X Z7 σ Q) X.xe s
def Vals.one{x:V}{us:List Value}(h:Vals [x] us):∃ u,us=[u]/\bJ x u:=by
 cases h with
 | cons r t=>cases t;exact⟨_,rfl,r⟩
def Vals.zero:∀ {us:List Value},Vals [] us->us=[]
 | _,.nil=>rfl
def Vals.dropLast{xs:List V}{us:List Value}(h:Vals xs us):Vals xs.dropLast us.dropLast:=by
 induction h with
 | nil=>exact .nil
 | cons r t ih =>
  cases t with
  | nil=>exact .nil
  | cons q t'=>exact .cons r ih
def Vals.eraseIdx:∀ {xs:List V} {us:List Value} (i:Nat),Vals xs us->Vals (xs.eraseIdx i) (us.eraseIdx i)
 | _,_,_,.nil=>.nil
 | _,_,0,.cons _ t=>t
 | _,_,i+1,.cons r t=>.cons r (Vals.eraseIdx i t)
def Ia{α:Type}(l:List α):l.eraseIdx (l.length - 1)=l.dropLast:=by
 induction l with
 | nil=>rfl
 | cons a r ih =>
  cases r with
  | nil=>rfl
  | cons b r =>
   have e:(a::b::r).length - 1=((b::r).length - 1)+1:=by
    have h1:(a::b::r).length=r.length+2:=rfl;have h2:(b::r).length=r.length+1:=rfl;omega
   rw[e,List.eraseIdx_cons_succ,ih]
   all_goals rfl
def C8{α:Type}:∀(l:List α) (i:Nat),(l.eraseIdx i).length<=l.length
 | [],_=>Nat.le_refl _
 | _::_,0=>Nat.le_succ _
 | _::r,i+1=>Nat.succ_le_succ (C8 r i)
section
variable {X:Cx} {Z7:List (Addr×Obj)} {σ:St} {H:Hp} {s:Shared} {l b:Addr} {xs ys zs:List V}
def Z9.Cf{its its':List Value}{n:Nat}{f:Array Value->Array Value}{t':Nat}(I:Z9 X Z7 σ H s)(hH:H l=some (.lst xs))
    (e:s.heap.get? l=some {cls:=.type "list",data:=.seq its.toArray n}) (hf:f its.toArray=its'.toArray) (hv:Vals ys its') (hz:ys.length<=sizeLine) :
    Z9 X Z7 σ (Z8 H l (.lst ys)) {s with heap:=s.heap.update l (Obj.mapSeq f),toks:=t'}:=by
  have q:=PySem.IsL.update e f;rw[hf] at q;refine I.write (x:=l) (e:=l) (by rw[hH];exact trivial) (.inl rfl) (fun b' u hb hu=>(Heap.get?_update_other s.heap (Obj.mapSeq f) (Ne.symm hb)).trans hu) ⟨_,q⟩ ?_;exact⟨hz,its',_,hv,q⟩
def Z9.RT{its:List Value}{t':Nat}(I:Z9 X Z7 σ H s)(hv:Vals ys its)(hz:ys.length<=sizeLine) :
    Z9 X Z7 σ (Z8 H s.heap.objs.size (.lst ys)) {s with heap:=s.heap.push {cls:=.type "list",data:=.seq its.toArray},toks:=t'} :=
  I.laid (fun _ _ q=>Heap.get?_push_of_some _ q) (Nat.le_refl _) ⟨hz,its,0,hv,Heap.get?_push_size _ rfl⟩
def Z9.fresh(I:Z9 X Z7 σ H s):H s.heap.objs.size=none:=I.hok.fresh (Nat.le_refl _)
def Z9.Io(I:Z9 X Z7 σ H s)(hH:H l=some (.lst xs)):xs.length<=sizeLine/\∃(its:List Value) (n:Nat),Vals xs its/\xs.length=its.length/\s.heap.get? l=some {cls:=.type "list",data:=.seq its.toArray n}:=by
 obtain⟨z,its,n,r,e⟩:=I.hok l _ hH;exact⟨z,its,n,r,r.length,e⟩
def OX{n:Nat}(h:n<=sizeLine):Builtin.List.listTooLong n=false:=by
 unfold Builtin.List.listTooLong;exact decide_eq_false (by omega)
end
section
variable {X:Cx}
def Sv:V->List V->Hp->VK->Prop:=fun x vs H Q=>∃ l xs y,x=.ref l/\vs=[y]/\H l=some (.lst xs)/\xs.length < sizeLine/\Q .non (Z8 H l (.lst (xs++[y])))
def LV:Um X "list.append" Sv:=by
 intro Z7 s σ H x vs v us Q I rx rv h;obtain⟨l,xs,y,rfl,rfl,hH,hz,q⟩:=h;cases rx;obtain⟨u,rfl,ru⟩:=rv.one;obtain⟨z,its,n,r,hl,e⟩:=I.Io hH;refine call_meets F.slot_list_append ⟨_,e,rfl⟩ F.entry_list_append (F.args_list_append_2 _ _) (PySem.list_append l its.toArray n u (by rw[List.size_toArray];omega)) ⟨e,?_⟩;refine⟨.non,_,I.Cf (its':=its++[u]) hH e (by simp) (r.append (.cons ru .nil)) ?_,rfl,q⟩;rw[List.length_append,List.length_singleton];omega
def Sx:V->List V->Hp->VK->Prop:=fun x vs H Q=>∃ l b xs zs,x=.ref l/\vs=[.ref b]/\H l=some (.lst xs)/\H b=some (.lst zs)/\xs.length+zs.length<=sizeLine/\Q .non (Z8 H l (.lst (xs++zs)))
def LW:Um X "list.extend" Sx:=by
 intro Z7 s σ H x vs v us Q I rx rv h;obtain⟨l,b,xs,zs,rfl,rfl,hH,hB,hz,q⟩:=h;cases rx;obtain⟨u,rfl,ru⟩:=rv.one;cases ru;obtain⟨z,its,n,r,hl,e⟩:=I.Io hH;obtain⟨z2,aaO,n2,r2,hl2,e2⟩:=I.Io hB;have hsz:its.toArray.size+aaO.toArray.size<=sizeLine:=by rw[List.size_toArray,List.size_toArray];omega
 have ac1:¬ (!its.toArray.isEmpty&&Builtin.List.listTooLong (its.toArray.size+aaO.toArray.size))=true:=by
  rw[OX hsz,Bool.and_false];exact Bool.false_ne_true
 refine call_meets F.slot_list_extend ⟨_,e,rfl⟩ F.entry_list_extend (F.args_list_extend_2 _ _)
  (AutoSeq1.list_extend_list_list_0 l its.toArray n b aaO.toArray n2 ac1 (by rw[List.size_toArray];omega) (by omega)) ⟨e,e2,?_⟩
 refine⟨.non,_,I.Cf (its':=its++aaO) hH e (by simp) (r.append r2) ?_,rfl,q⟩;rw[List.length_append];omega
def ZE:V->List V->Hp->VK->Prop:=fun x vs H Q=>∃ l xs y,x=.ref l/\vs=[]/\H l=some (.lst xs)/\xs[xs.length - 1]?=some y/\Q y (Z8 H l (.lst xs.dropLast))
def V7:Um X "list.pop" ZE:=by
 intro Z7 s σ H x vs v us Q I rx rv h;obtain⟨l,xs,y,rfl,rfl,hH,hy,q⟩:=h;cases rx;have hus:=rv.zero;subst hus;obtain⟨z,its,n,r,hl,e⟩:=I.Io hH;obtain⟨u,hu,ru⟩:=r.get hy;have hy':its.toArray[its.toArray.size - 1]?=some u:=by
  show its.toArray[its.length - 1]?=some u;rw[<- Array.getElem?_toList,<- hl];exact hu
 refine call_meets F.slot_list_pop ⟨_,e,rfl⟩ F.entry_list_pop (F.args_list_pop_1 _) (MeetsSeq.list_pop_last l its.toArray n u hy' (by rw[List.size_toArray];omega)) ⟨e,?_⟩;refine⟨y,_,I.Cf (its':=its.dropLast) hH e ?_ r.dropLast ?_,ru,q⟩
 ·show its.toArray.eraseIdxIfInBounds (its.toArray.size - 1)=its.dropLast.toArray;rw[List.size_toArray,List.eraseIdxIfInBounds_toArray,Ia]
 ·rw[List.length_dropLast];omega
def Wq:V->List V->Hp->VK->Prop:=fun x vs H Q=>∃ l xs i k y,x=.ref l/\vs=[.int i]/\H l=some (.lst xs)/\-(2 ^ 63)<=i/\i < 2 ^ 63/\seqIndex? i xs.length=some k/\xs[k]?=some y/\Q y (Z8 H l (.lst (xs.eraseIdx k)))
def OR:Um X "list.pop" Wq:=by
 intro Z7 s σ H x vs v us Q I rx rv h;obtain⟨l,xs,i,k,y,rfl,rfl,hH,h1,h2,hk,hy,q⟩:=h;cases rx;obtain⟨u,rfl,ru⟩:=rv.one;obtain⟨t,rfl⟩:=ru;obtain⟨z,its,n,r,hl,e⟩:=I.Io hH;obtain⟨w,hw,rw'⟩:=r.get hy;refine call_meets F.slot_list_pop ⟨_,e,rfl⟩ F.entry_list_pop (F.args_list_pop_2 _ _)
  (MeetsSeq.list_pop_at l its.toArray n i t k w (fitsIndex_both h1 h2) (by rw[List.size_toArray,<- hl];exact hk) (by rw[<- Array.getElem?_toList];exact hw) (by rw[List.size_toArray];omega)) ⟨e,?_⟩
 refine⟨y,_,I.Cf (its':=its.eraseIdx k) hH e ?_ (r.eraseIdx k) ?_,rw',q⟩
 ·show its.toArray.eraseIdxIfInBounds k=(its.eraseIdx k).toArray;rw[List.eraseIdxIfInBounds_toArray]
 ·have:=C8 xs k;omega
def ZD:R2:=fun x y H Q=>∃ l b xs zs,x=.ref l/\y=.ref b/\H l=some (.lst xs)/\H b=some (.lst zs)/\xs.length+zs.length<=sizeLine/\∀ p,H p=none->Q (.ref p) (Z8 H p (.lst (xs++zs)))
def Wg:iW X (binaryOp .Add) ZD:=by
 intro Z7 s σ H x y v u Q I rx ry h;obtain⟨l,b,xs,zs,rfl,rfl,hH,hB,hz,q⟩:=h;cases rx;cases ry;obtain⟨z,its,n,r,hl,e⟩:=I.Io hH;obtain⟨z2,aaO,n2,r2,hl2,e2⟩:=I.Io hB;refine PySem.P.add_list e e2 ?_ (by rw[List.size_toArray,List.size_toArray];omega);have ea:its.toArray++aaO.toArray=(its++aaO).toArray:=by simp
 rw[ea];exact⟨.ref _,_,I.RT (t':=s.toks) (r.append r2) (by rw[List.length_append];omega),rfl,q _ I.fresh⟩
end
section
variable {κ:Type} [DecidableEq κ]
def cC(kvs:List (κ×V))(k:κ):Option V:=(kvs.find? fun kv=>decide (kv.1=k)).map (·.2)
def eL(kvs:List (κ×V))(k:κ)(v:V):List (κ×V) :=
 if (kvs.any fun kv=>decide (kv.1=k))=true then kvs.map (fun kv=>if kv.1=k then (kv.1,v) else kv) else kvs++[(k,v)]
def xC(kvs:List (κ×V))(k:κ):List (κ×V):=kvs.filter fun kv=>decide (kv.1≠k)
def Hx{k:κ}:cC ([]:List (κ×V)) k=none:=rfl
def cR{p:κ×V}{r:List (κ×V)}{k:κ}(e:p.1=k):cC (p::r) k=some p.2:=by simp[cC,List.find?_cons,e]
def cG{p:κ×V}{r:List (κ×V)}{k:κ}(e:¬ p.1=k):cC (p::r) k=cC r k:=by simp[cC,List.find?_cons,e]
def pI(k:κ):∀ kvs:List (κ×V),(kvs.any fun kv=>decide (kv.1=k))=(cC kvs k).isSome
 | []=>rfl
 | p::r=>by
  rw[List.any_cons];by_cases e:p.1=k
  ·simp only[cR e,decide_eq_true e,Bool.true_or,Option.isSome_some]
  ·rw[cG e,decide_eq_false e,Bool.false_or];exact pI k r
def Hw(k j:κ)(y:V):∀ kvs:List (κ×V),cC (kvs.map fun kv=>if kv.1=k then (kv.1,y) else kv) j=(cC kvs j).map fun x=>if j=k then y else x
 | []=>rfl
 | p::r=>by
  have ih:=Hw k j y r;rw[List.map_cons];by_cases h:p.1=k
  ·rw[if_pos h];by_cases e:p.1=j
   ·rw[cR (p:=(p.1,y)) e,cR e,Option.map_some,if_pos (e.symm.trans h)]
   ·rw[cG (p:=(p.1,y)) e,cG e,ih]
  ·rw[if_neg h];by_cases e:p.1=j
   ·rw[cR (p:=p) e,cR e,Option.map_some,if_neg (fun z=>h (e.trans z))]
   ·rw[cG (p:=p) e,cG e,ih]
def Dw(k j:κ)(y:V):∀ kvs:List (κ×V),cC kvs k=none->cC (kvs++[(k,y)]) j=if j=k then some y else cC kvs j
 | [],_=>by
  by_cases e:k=j
  ·rw[if_pos e.symm];exact cR (p:=(k,y)) e
  ·rw[if_neg (fun z=>e z.symm)];exact cG (p:=(k,y)) e
 | p::r,hn=>by
  rw[List.cons_append];have hk:¬ p.1=k:=fun z=>by rw[cR z] at hn;cases hn
  rw[cG hk] at hn;have ih:=Dw k j y r hn;by_cases e:p.1=j
  ·rw[cR e,cR e,if_neg (fun z=>hk (e.trans z))]
  ·rw[cG e,cG e,ih]
def BW(kvs:List (κ×V))(k j:κ)(y:V):cC (eL kvs k y) j=if j=k then some y else cC kvs j:=by
 unfold eL;by_cases a:(kvs.any fun kv=>decide (kv.1=k))=true
 ·rw[if_pos a,Hw];rw[pI] at a;by_cases e:j=k
  ·obtain⟨x,hx⟩:=Option.isSome_iff_exists.mp a;rw[if_pos e,e,hx,Option.map_some,if_pos rfl]
  ·rw[if_neg e];cases cC kvs j with
   | none=>rfl
   | some x=>rw[Option.map_some,if_neg e]
 ·rw[if_neg a];refine Dw k j y kvs ?_;rw[pI] at a;cases q:cC kvs k with
  | none=>rfl
  | some x=>rw[q] at a;exact(a rfl).elim
def oF(kvs:List (κ×V))(k:κ)(v:V):(eL kvs k v).length<=kvs.length+1:=by
 unfold eL;split
 ·rw[List.length_map];omega
 ·rw[List.length_append,List.length_cons,List.length_nil];omega
def Bt{kvs:List (κ×V)}{k:κ}(v:V)(h:cC kvs k=none):eL kvs k v=kvs++[(k,v)]:=by
 unfold eL;rw[pI,h];exact if_neg (by decide)
def lY.vC{o:Option V}{u:Option Value}(r:lY o u):o.isSome=u.isSome:=by
 cases o with
 | none=>cases u with
  | none=>rfl
  | some _=>exact(show False from r).elim
 | some _=>cases u with
  | none=>exact(show False from r).elim
  | some _=>rfl
def lY.getD{o:Option V}{u:Option Value}{d:V}{d':Value}(r:lY o u)(rd:bJ d d'):bJ (o.getD d) (u.getD d'):=by
 cases o with
 | none=>cases u with
  | none=>exact rd
  | some _=>exact(show False from r).elim
 | some _=>cases u with
  | none=>exact(show False from r).elim
  | some _=>exact r
def KV.val{kvs:List (κ×V)}{vs:List (κ×Value)}(r:KV kvs vs)(k:κ):lY (cC kvs k) (valueAt vs k):=by
 unfold KV at r
 induction r with
 | nil=>exact True.intro
 | @cons p q ps qs h t ih =>
  obtain⟨h1,h2⟩:=h;by_cases e:p.1=k
  ·have e':q.1=k:=h1.symm.trans e;have b:valueAt (q::qs) k=some q.2:=by simp[valueAt,List.find?_cons,e']
   rw[cR e,b];exact h2
  ·have e':¬ q.1=k:=fun z=>e (h1.trans z);have b:valueAt (q::qs) k=valueAt qs k:=by simp[valueAt,List.find?_cons,e']
   rw[cG e,b];exact ih
def KV.any{kvs:List (κ×V)}{vs:List (κ×Value)}(r:KV kvs vs)(k:κ):(kvs.any fun kv=>decide (kv.1=k))=vs.any fun kv=>decide (kv.1=k):=by
 unfold KV at r
 induction r with
 | nil=>rfl
 | cons h t ih=>rw[List.any_cons,List.any_cons,ih,h.1]
def KV.Wt{kvs:List (κ×V)}{vs:List (κ×Value)}(r:KV kvs vs)(k:κ){y:V}{u:Value}(ry:bJ y u) :
    KV (kvs.map fun kv=>if kv.1=k then (kv.1,y) else kv) (vs.map fun kv=>if kv.1=k then (kv.1,u) else kv):=by
  unfold KV at r ⊢
  induction r with
  | nil=>exact .nil
  | @cons p q ps qs h t ih =>
    rw[List.map_cons,List.map_cons];refine .cons ?_ ih;obtain⟨h1,h2⟩:=h;by_cases e:p.1=k
    · rw[if_pos e,if_pos (h1.symm.trans e)];exact⟨h1,ry⟩
    · rw[if_neg e,if_neg (fun z=>e (h1.trans z))];exact⟨h1,h2⟩
def KV.put{kvs:List (κ×V)}{vs:List (κ×Value)}(r:KV kvs vs)(k:κ){y:V}{u:Value}(ry:bJ y u):KV (eL kvs k y) (stored vs k u):=by
 unfold eL stored;rw[r.any k];by_cases e:(vs.any fun kv=>decide (kv.1=k))=true
 ·rw[if_pos e,if_pos e];exact r.Wt k ry
 ·rw[if_neg e,if_neg e];exact Paired.snoc r ⟨rfl,ry⟩
def KV.drop{kvs:List (κ×V)}{vs:List (κ×Value)}(r:KV kvs vs)(k:κ):KV (xC kvs k) (without vs k):=by
 unfold KV at r ⊢;unfold xC without
 induction r with
 | nil=>exact .nil
 | @cons p q ps qs h t ih =>
  obtain⟨h1,h2⟩:=h;rw[List.filter_cons,List.filter_cons];by_cases e:p.1=k
  ·have a:¬ decide (p.1≠k)=true:=by simp[e]
   have b:¬ decide (q.1≠k)=true:=by simp[h1.symm.trans e]
   rw[if_neg a,if_neg b];exact ih
  ·have e':¬ q.1=k:=fun z=>e (h1.trans z);have a:decide (p.1≠k)=true:=by simp[e]
   have b:decide (q.1≠k)=true:=by simp[e']
   rw[if_pos a,if_pos b];exact .cons ⟨h1,h2⟩ ih
def KV.length{kvs:List (κ×V)}{vs:List (κ×Value)}(r:KV kvs vs):kvs.length=vs.length:=Paired.length r
def ND(kvs:List (κ×V))(k:κ):(xC kvs k).length<=kvs.length:=List.length_filter_le _ _
end
def xH{P:Program}{w:World}{k:Key}{u:Value}(r:bJ (kV k) u):(bT P w).is k u=true:=by
 cases k with
 | inl i=>obtain⟨t,e⟩:=(show ∃ t,u=Value.int i t from r);subst e;exact Gh P w i t
 | inr x=>obtain⟨t,e⟩:=(show ∃ t,u=Value.str x t from r);subst e;exact oI P w x t
 | no=>cases (show u=Value.none from r);rfl
def C4{P:Program}{w:World}:∀ {ks:List Key} {us:List Value},Vals (ks.map kV) us->ItemsAre (bT P w) ks us
 | [],_,r=>by rw[List.map_nil] at r;cases r;exact .nil
 | k::ks,_,r=>by
  rw[List.map_cons] at r;cases r with
  | cons h t=>exact .cons (xH h) (C4 t)
abbrev KT(H:Hp):List (List Key×V)->List (List Key×Addr×Value)->Prop:=Paired fun p q=>p.1=q.1/\H q.2.1=some (.tup (p.1.map kV))/\bJ p.2 q.2.2
def KT.val{H:Hp}{kvs:List (List Key×V)}{xs:List (List Key×Addr×Value)}(r:KT H kvs xs)(k:List Key):lY (cC kvs k) ((atKey xs k).map (·.2)):=by
 induction r with
 | nil=>exact True.intro
 | @cons p q ps qs h t ih =>
  obtain⟨h1,_,h2⟩:=h;by_cases e:p.1=k
  ·have e':q.1=k:=h1.symm.trans e;have b:atKey (q::qs) k=some q.2:=by simp[atKey,List.find?_cons,e']
   rw[cR e,b];exact h2
  ·have e':¬ q.1=k:=fun z=>e (h1.trans z);have b:atKey (q::qs) k=atKey qs k:=by simp[atKey,List.find?_cons,e']
   rw[cG e,b];exact ih
def KT.Wt{H:Hp}{kvs:List (List Key×V)}{xs:List (List Key×Addr×Value)}(r:KT H kvs xs)(k:List Key){y:V}{u:Value}(ry:bJ y u) :
    KT H (kvs.map fun kv=>if kv.1=k then (kv.1,y) else kv) (xs.map (putAt k u)):=by
  induction r with
  | nil=>exact .nil
  | @cons p q ps qs h t ih =>
    rw[List.map_cons,List.map_cons];refine .cons ?_ ih;obtain⟨h1,h2,h3⟩:=h;unfold putAt;by_cases e:p.1=k
    · rw[if_pos e,if_pos (h1.symm.trans e)];exact⟨h1,h2,ry⟩
    · rw[if_neg e,if_neg (fun z=>e (h1.trans z))];exact⟨h1,h2,h3⟩
def KT.put{H:Hp}{kvs:List (List Key×V)}{xs:List (List Key×Addr×Value)}(r:KT H kvs xs)(k:List Key){b:Addr}{y:V}{u:Value}(hb:H b=some (.tup (k.map kV)))(ry:bJ y u) :
    KT H (eL kvs k y) (storedH xs k b u):=by
  have e:(kvs.any fun kv=>decide (kv.1=k))=(atKey xs k).isSome:=by
    rw[pI,(r.val k).vC,Option.isSome_map]
  unfold eL storedH;rw[e];by_cases q:(atKey xs k).isSome=true
  · rw[if_pos q,if_pos q];exact r.Wt k ry
  · rw[if_neg q,if_neg q];exact Paired.snoc r ⟨rfl,hb,ry⟩
def KT.keeps{H H':Hp}{kvs:List (List Key×V)}{xs:List (List Key×Addr×Value)}(r:KT H kvs xs)(ht:∀ b ys,H b=some (.tup ys)->H' b=some (.tup ys)):KT H' kvs xs :=
 Paired.V3 r fun _ _ z=>⟨z.1,ht _ _ z.2.1,z.2.2⟩
section
variable {P:Program} {w:World} {H:Hp} {h:Heap} {a:Addr}
def TR{u:HO}(ok:HOk P w H h)(e:Rd H a u):dF P w H h a u:=e.ok ok
def Ai{kvs:List (Key×V)}(ok:HOk P w H h)(e:Rd H a (.dK kvs)):kvs.length<=sizeLine/\(a==sysModules)=false/\∃ vs,KV kvs vs/\h.DictOf (bT P w) a vs :=
 show dF P w H h a (.dK kvs) from TR ok e
def sN{kvs:List (Key×V)}(ok:HOk P w H h)(e:H a=some (.dK kvs)):kvs.length<=sizeLine/\(a==sysModules)=false/\∃ vs,KV kvs vs/\h.DictOf (bT P w) a vs:=Ai ok (.inl e)
def vE{ks:List Key}(ok:HOk P w H h)(e:H a=some (.tup (ks.map kV))):(tupleKind (bT P w)).is h ks a:=by
 obtain⟨_,its,r,o,h1,h2,n,h3⟩:=(show dF P w H h a (.tup (ks.map kV)) from ok a _ e);exact⟨o,its.toArray,n,h1,h2,h3,by simpa using C4 r⟩
def Ao{kvs:List (List Key×V)}(ok:HOk P w H h)(e:Rd H a (.dT kvs)):kvs.length<=sizeLine/\(a==sysModules)=false /\
    ∃ xs,KT H kvs xs/\h.DictOfH (tupleKind (bT P w)) a xs:=by
  obtain⟨z,y,xs,r,o,es,ep,h1,h2,h3,h4,h5⟩:=(show dF P w H h a (.dT kvs) from TR ok e);refine⟨z,y,xs,r,o,es,ep,h1,h2,h3,h4,fun x hx=>?_,h5⟩;have all:∀ {l:List (List Key×V)} {m:List (List Key×Addr×Value)},KT H l m->∀ x∈m,(tupleKind (bT P w)).is h x.1 x.2.1:=by
    intro l m q
    induction q with
    | nil=>intro x hx;exact nomatch hx
    | @cons p q ps qs hq t ih =>
      intro x hx;rcases List.mem_cons.mp hx with e|hx
      · subst e;exact vE ok (by rw[<- hq.1];exact hq.2.1)
      · exact ih x hx
  exact all r x hx
def Xk{kvs:List (List Key×V)}(ok:HOk P w H h)(e:H a=some (.dT kvs)):kvs.length<=sizeLine/\(a==sysModules)=false /\
    ∃ xs,KT H kvs xs/\h.DictOfH (tupleKind (bT P w)) a xs:=Ao ok (.inl e)
end
def DGet(H:Hp)(a:Addr)(y:V)(r:Option V):Prop :=
 (∃ kvs k,Rd H a (.dK kvs)/\y=kV k/\r=cC kvs k)\/∃ kvs k b,Rd H a (.dT kvs)/\y=.ref b/\H b=some (.tup (k.map kV))/\r=cC kvs k
def DPut(H:Hp)(a:Addr)(y v:V)(H':Hp):Prop :=
 (∃ kvs k,H a=some (.dK kvs)/\y=kV k/\kvs.length < sizeLine/\H'=Z8 H a (.dK (eL kvs k v))) \/
 ∃ kvs k b,H a=some (.dT kvs)/\y=.ref b/\H b=some (.tup (k.map kV))/\kvs.length < sizeLine/\H'=Z8 H a (.dT (eL kvs k v))
def DGet.k{H:Hp}{a:Addr}{kvs:List (Key×V)}{k:Key}(e:H a=some (.dK kvs)):DGet H a (kV k) (cC kvs k):=.inl ⟨kvs,k,.inl e,rfl,rfl⟩
def DPut.k{H:Hp}{a:Addr}{kvs:List (Key×V)}{k:Key}{v:V}(e:H a=some (.dK kvs))(hl:kvs.length < sizeLine):DPut H a (kV k) v (Z8 H a (.dK (eL kvs k v))):=.inl ⟨kvs,k,e,rfl,hl,rfl⟩
section
variable {X:Cx} {Z7:List (Addr×Obj)} {σ:St} {H:Hp} {s:Shared} {a:Addr} {y v:V} {u r:Value} {o:Option V} {A:Around} {E:q0A}
def Z9.big(I:Z9 X Z7 σ H s):sysModules < s.heap.objs.size:=by
 have h:mainGlobals < s.heap.objs.size:=(I.mod.glob.keeps I.bk).lt;exact Nat.lt_trans (by decide) h
def Lk{Q:q0A}(hu:A.units+1 < cLine)(I:Z9 X Z7 σ H s)(g:DGet H a y (some v))(ry:bJ y u)(h:∀ w' s',Z9 X Z7 σ H s'->bJ v w'->Q w' s') :
    wpAny (model X.prog X.w) A (getItem (.ref a) u) Q E s:=by
  rcases g with⟨kvs,k,e,ey,l⟩|⟨kvs,k,b,e,ey,eb,l⟩
  · subst ey;obtain⟨z,hd,vs,rel,dd⟩:=Ai I.hok e;obtain⟨w',hw,rw'⟩:=lY.some_of (v:=v) (o:=valueAt vs k) (by rw[l];exact rel.val k);exact wpAny_getItem_of (xH ry) dd.mapOf hw (h w' _ (I.tok _) rw')
  · subst ey;cases (show u=Value.ref b from ry);obtain⟨z,hd,xs,rel,dd⟩:=Ao I.hok e;obtain⟨w',hw,rw'⟩:=lY.some_of (v:=v) (o:=(atKey xs k).map (·.2)) (by rw[l];exact rel.val k);obtain⟨p,hp,hp2⟩:=Option.map_eq_some_iff.mp hw;refine wpAny_getItem_heap (tupleKind_room_in1 hu) (vE I.hok eb) dd hp ?_;rw[hp2];exact h w' _ (I.tok _) rw'
def Zc{Q:q0A}(hu:A.units+1 < cLine)(I:Z9 X Z7 σ H s)(g:DGet H a y o)(ry:bJ y u)(h:∀ s',Z9 X Z7 σ H s'->Q (.bool o.isSome) s') :
    wpAny (model X.prog X.w) A (compareOp .In u (.ref a)) Q E s:=by
  rcases g with⟨kvs,k,e,ey,l⟩|⟨kvs,k,b,e,ey,eb,l⟩
  · subst ey;obtain⟨z,hd,vs,rel,dd⟩:=Ai I.hok e;refine wpAny_in_of (xH ry) hd dd.mapOf ?_;rw[<- (rel.val k).vC,<- l];exact h _ (I.tok _)
  · subst ey;cases (show u=Value.ref b from ry);obtain⟨z,hd,xs,rel,dd⟩:=Ao I.hok e;refine wpAny_in_heap (tupleKind_room_in1 hu) (vE I.hok eb) hd dd ?_;have q:=(rel.val k).vC;rw[Option.isSome_map] at q;rw[<- q,<- l];exact h _ (I.tok _)
def sL{h':Heap}{t':Nat}{ob:HO}(I:Z9 X Z7 σ H s)(mu:Mut (H a))(hs:Heap.SameBut a s.heap h')(he:∃ q,h'.get? a=some q)(new:dF X.prog X.w (Z8 H a ob) h' a ob) :
    Z9 X Z7 σ (Z8 H a ob) {s with heap:=h',toks:=t'} :=
  I.write (x:=a) (e:=a) mu (.inl rfl) (fun b q hb z=>(hs.2 b hb).trans z) he new
def uR{P:Program}{w:World}{H':Hp}{h':Heap}{kvs:List (Key×V)}{vs:List (Key×Value)}(z:kvs.length<=sizeLine)(hd:(a==sysModules)=false)(rel:KV kvs vs)(dd:h'.DictOf (bT P w) a vs) :
    dF P w H' h' a (.dK kvs):=⟨z,hd,vs,rel,dd⟩
def Ll{H':Hp}{Q:Unit->Shared->Prop}(hu:A.units+1 < cLine)(I:Z9 X Z7 σ H s)(g:DPut H a y v H')(ry:bJ y u)(rv:bJ v r)(h:∀ s',Z9 X Z7 σ H' s'->Q () s') :
    wpAny (model X.prog X.w) A (setItem (.ref a) u r) Q E s:=by
  rcases g with⟨kvs,k,e,ey,l,eH⟩|⟨kvs,k,b,e,ey,eb,l,eH⟩
  · subst ey eH;obtain⟨z,hd,vs,rel,dd⟩:=sN I.hok e;have hz:vs.length<=sizeLine:=by rw[<- rel.length];exact z
    have hl:(eL kvs k v).length<=sizeLine:=by have:=oF kvs k v;omega
    refine wpAny_setItem_pairs (hsz:=hz) (xH ry) dd fun h' dd' hs=>h _ ?_;have he:∃ q,h'.get? a=some q:=let ⟨q,_,_,hq,_⟩:=dd';⟨q,hq⟩;exact sL I (by rw[e];exact True.intro) hs he (uR hl hd (rel.put k rv) dd')
  · subst ey eH;cases (show u=Value.ref b from ry);obtain⟨z,hd,xs,rel,dd⟩:=Xk I.hok e;have hz:xs.length<=sizeLine:=by rw[<- Paired.length rel];exact z
    have hl:(eL kvs k v).length<=sizeLine:=by have:=oF kvs k v;omega
    refine wpAny_setItem_heap (hsz:=hz) (tupleKind_room_in1 hu) (vE I.hok eb) dd fun h' dd' hs=>h _ ?_;obtain⟨q,es,ep,hq,h2,h3,h4,_,h5⟩:=dd';refine sL I (by rw[e];exact True.intro) hs ⟨q,hq⟩ ⟨hl,hd,_,(rel.put k eb rv).keeps fun c ys ec=>?_,q,es,ep,hq,h2,h3,h4,h5⟩;rw[aG (dO ec e (fun z=>nomatch z))];exact ec
end
section
variable {X:Cx} {Z7:List (Addr×Obj)} {σ:St} {H:Hp} {s:Shared} {a:Addr} {kvs:List (Key×V)} {k:Key} {u:Value} {A:Around} {E:q0A}
def Xj{v:V}{more:List Value}{Q:q0A}(I:Z9 X Z7 σ H s)(e:H a=some (.dK kvs))(ry:bJ (kV k) u)(l:cC kvs k=some v)(hm:more=[]\/∃ x,more=[x])
    (h:∀ w' s',Z9 X Z7 σ (Z8 H a (.dK (xC kvs k))) s'->bJ v w'->Q w' s'):wpAny (model X.prog X.w) A (call (.builtin "dict.pop") (.ref a::u::more)) Q E s:=by
  obtain⟨z,hd,vs,rel,dd⟩:=sN I.hok e;obtain⟨w',hw,rw'⟩:=lY.some_of (v:=v) (o:=valueAt vs k) (by rw[<- l];exact rel.val k);have hp:(keyPart u).isSome=true:=by
    cases k with
    | inl i=>obtain⟨t,q⟩:=(show ∃ t,u=Value.int i t from ry);subst q;rfl
    | inr x=>obtain⟨t,q⟩:=(show ∃ t,u=Value.str x t from ry);subst q;rfl
    | no=>cases (show u=Value.none from ry);rfl
  have ha:argsOk "dict.pop" ⟨.ref a::u::more,[]⟩:=by
    rcases hm with q|⟨x,q⟩
    · subst q;exact PySem.F.args_dict_pop_2 _ _
    · subst q;exact PySem.F.args_dict_pop_3 _ _ _
  refine call_meetsIn PySem.F.slot_dict_pop dd.typeIs PySem.F.entry_dict_pop ha (meets_dict_pop_there (bT X.prog X.w) a (xH ry) more hm hp)
    ⟨vs,w',dd,by rw[<- rel.length];exact z,hw,fun h' dd' hs=>h w' _ ?_ rw'⟩
  have he:∃ q,h'.get? a=some q:=let ⟨q,_,_,hq,_⟩:=dd';⟨q,hq⟩;exact sL I (by rw[e];exact True.intro) hs he (uR (Nat.le_trans (ND kvs k) z) hd (rel.drop k) dd')
end
def Up(i:Expr):Prop:=∀ ov iv,subscripted i false ov iv=operate [ov,iv] (getItem ov iv)
def Ks{prog:Program}{w:World}{A:Around}{E:q0A}{s:Shared}{env:Env}{value slice:Expr}{pos:Pos}{T id:String}{Q:q0A}
    (hl:typeLookup (.type T) "__getitem__"=pure (some (.builtin id))) (hs:Up slice)
    (h:wpAny (model prog w) A (eval value env) (fun o s₁=>wpAny (model prog w) A (eval slice env) (fun i s₂=>s₂.TypeIs o T/\wpAny (model prog w) A (getItem o i) Q E s₂) E s₁) E s) :
    wpAny (model prog w) A (eval (.Subscript value slice pos) env) Q E s:=by
  refine Subscript_ (wpAny_mono h (fun o s₁ h₁=>wpAny_mono h₁ (fun i s₂ h₂=>?_) fun _ _ x=>x) fun _ _ x=>x);obtain⟨hT,h₂⟩:=h₂;unfold subscriptTail;refine wpAny_bind ?_;rw[getitemInPython_of_ne hT.not_modules];refine wpAny_bind (wpAny_specialOf hT hl ?_);have fin:wpAny (model prog w) A (subscripted slice false o i) (fun r s₃=>wpAny (model prog w) A (letTemporaryGo value o r >>= fun _=>pure r) Q E s₃) E s₂:=by
    rw[hs o i];exact wpAny_operating (wpAny_mono h₂ (fun r s₃ h₃=>wpAny_bind (wpAny_letTemporaryGo (wpAny_pure h₃))) fun _ _ x=>x)
  first
    | exact wpAny_pure (wpAny_bind fin)
    | exact wpAny_bind (wpAny_pure (wpAny_bind fin))
    | exact wpAny_bind fin
def xB{X:Cx}{Z7:List (Addr×Obj)}{σ:St}{H:Hp}{s:Shared}{a:Addr}{y:V}{o:Option V}(I:Z9 X Z7 σ H s)(g:DGet H a y o):s.TypeIs (.ref a) "dict":=by
 rcases g with⟨kvs,k,e,_,_⟩|⟨kvs,k,b,e,_,_,_⟩
 ·obtain⟨_,_,vs,_,dd⟩:=Ai I.hok e;exact dd.typeIs
 ·obtain⟨_,_,xs,_,dd⟩:=Ao I.hok e;exact dd.typeIs
section
variable {X:Cx} {o i e value:Expr} {pos pos' abL:Pos} {td ty tv:TE}
end
def NA{P:Program}{w:World}{H:Hp}(h:Heap)(hb:sysModules < h.objs.size):dF P w H (h.push {cls:=.type "dict",data:=.dict #[]}) h.objs.size (.dK []) :=
 ⟨Nat.zero_le _,beq_eq_false_iff_ne.mpr (Ne.symm (Nat.ne_of_lt hb)),[],.nil,Heap.DictOf.new h⟩
def P5:TE:=fun _ H Q=>∀ p,H p=none->Q (.ref p) (Z8 H p (.dK []))
section
variable {X:Cx} {pos:Pos}
def tQ:PE X (.Dict [] [] pos) P5:=fun Z7 s σ H Q I h =>
 wpAny_Dict_empty ⟨.ref s.heap.objs.size,_,I.laid (a:=s.heap.objs.size) (o:=.dK []) (t':=s.toks) (fun _ _ q=>Heap.get?_push_of_some _ q) (Nat.le_refl _) (NA s.heap I.big),rfl,h _ (I.hok.fresh (Nat.le_refl _))⟩
end
def Qc:List (TE×TE)->St->Hp->(List (V×V)->Hp->Prop)->Prop
 | [],_,H,Q=>Q [] H
 | (tk,tv)::r,σ,H,Q=>tk σ H fun x H1=>tv σ H1 fun y H2=>Qc r σ H2 fun ps H3=>Q ((x,y)::ps) H3
abbrev VV:List (V×V)->List (Value×Value)->Prop:=Paired fun p q=>bJ p.1 q.1/\bJ p.2 q.2
def PPs(X:Cx)(pos:Pos)(keys:List (Option Expr))(values:List Expr)(trs:List (TE×TE)):Prop :=
 ∀(Z7:List (Addr×Obj)) (s:Shared) (σ:St) (H:Hp) (Q:List (V×V)->Hp->Prop),Z9 X Z7 σ H s->Qc trs σ H Q ->
  wpAny (model X.prog X.w) X.A (evalPairs (pairTrees keys values X.env pos)) (fun vs s'=>∃ ps H',Z9 X Z7 σ H' s'/\VV ps vs/\Q ps H') X.xe s
structure M1(X:Cx)(o:Expr)(m:Str)(apos:Pos)(e:Expr)(aaA:Pos):Prop where
 base:attributeBase o m X.env (eval o X.env)=eval o X.env
 few:((backTo aaA (starEach [e] X.env)).all (fun x=>!x.1)&&(backToKw aaA (keywordEach [] X.env)).all (fun x=>x.1.isSome)
 &&decide (([e]:List Expr).length+([]:List Keyword).length+(if ([]:List Keyword).isEmpty then 0 else 1) < 30))=true
 line:(apos.endLine==aaA.line)=true
 trees:backTo aaA (starEach [e] X.env)=[(false,eval e X.env)]
structure M2(X:Cx)(o:Expr)(m:Str)(apos:Pos)(e f:Expr)(aaA:Pos):Prop where
 base:attributeBase o m X.env (eval o X.env)=eval o X.env
 few:((backTo aaA (starEach [e,f] X.env)).all (fun x=>!x.1)&&(backToKw aaA (keywordEach [] X.env)).all (fun x=>x.1.isSome)
 &&decide (([e,f]:List Expr).length+([]:List Keyword).length+(if ([]:List Keyword).isEmpty then 0 else 1) < 30))=true
 line:(apos.endLine==aaA.line)=true
 trees:backTo aaA (starEach [e,f] X.env)=[(false,eval e X.env),(false,eval f X.env)]
def ZZ(H:Hp)(a:Addr):Prop:=(∃ kvs,Rd H a (.dK kvs))\/∃ kvs,Rd H a (.dT kvs)
def vB{X:Cx}{Z7:List (Addr×Obj)}{σ:St}{H:Hp}{s:Shared}{a:Addr}(I:Z9 X Z7 σ H s)(d:ZZ H a) :
    s.TypeIs (.ref a) "dict"/\(∀ b,Value.ref a=.ref b->∃ ob,s.heap.get? b=some ob/\ob.dict=none)/\(a==sysModules)=false:=by
  rcases d with⟨kvs,e⟩|⟨kvs,e⟩
  · obtain⟨_,hd,vs,_,dd⟩:=Ai I.hok e;refine⟨dd.typeIs,fun b q=>?_,hd⟩;cases q;obtain⟨ob,_,_,h1,h2,_⟩:=dd;exact⟨ob,h1,h2.2.1⟩
  · obtain⟨_,hd,xs,_,dd⟩:=Ao I.hok e;refine⟨dd.typeIs,fun b q=>?_,hd⟩;cases q;obtain⟨ob,_,_,h1,h2,_⟩:=dd;exact⟨ob,h1,h2.2.1⟩
section
variable {X:Cx} {Z7:List (Addr×Obj)} {σ:St} {H:Hp} {s:Shared} {a:Addr} {y d:V} {u r:Value} {o:Option V} {A:Around} {E:q0A}
def UC{Q:q0A}(hu:A.units+1 < cLine)(I:Z9 X Z7 σ H s)(g:DGet H a y o)(ry:bJ y u)(h:∀ w' s',Z9 X Z7 σ H s'->bJ (o.getD .non) w'->Q w' s') :
    wpAny (model X.prog X.w) A (call (.builtin "dict.get") [.ref a,u]) Q E s:=by
  rcases g with⟨kvs,k,e,ey,l⟩|⟨kvs,k,b,e,ey,eb,l⟩
  · subst ey;obtain⟨z,hd,vs,rel,dd⟩:=Ai I.hok e;refine call_meetsIn PySem.F.slot_dict_get dd.typeIs PySem.F.entry_dict_get (PySem.F.args_dict_get_2 _ _) (meets_dict_get (bT X.prog X.w) a (xH ry) hd) ⟨_,dd.mapOf,h _ _ (I.tok _) ?_⟩;rw[l];exact(rel.val k).getD rfl
  · subst ey;cases (show u=Value.ref b from ry);obtain⟨z,hd,xs,rel,dd⟩:=Ao I.hok e;refine call_meetsIn PySem.F.slot_dict_get dd.typeIs PySem.F.entry_dict_get (PySem.F.args_dict_get_2 _ _) (meetsH_dict_get (tupleKind (bT X.prog X.w)) a b hd) ⟨tupleKind_room_in1 hu,k,xs,vE I.hok eb,dd,h _ _ (I.tok _) ?_⟩;rw[l];exact(rel.val k).getD rfl
def UD{Q:q0A}(hu:A.units+1 < cLine)(I:Z9 X Z7 σ H s)(g:DGet H a y o)(ry:bJ y u)(rd:bJ d r)(h:∀ w' s',Z9 X Z7 σ H s'->bJ (o.getD d) w'->Q w' s') :
    wpAny (model X.prog X.w) A (call (.builtin "dict.get") [.ref a,u,r]) Q E s:=by
  rcases g with⟨kvs,k,e,ey,l⟩|⟨kvs,k,b,e,ey,eb,l⟩
  · subst ey;obtain⟨z,hd,vs,rel,dd⟩:=Ai I.hok e;refine call_meetsIn PySem.F.slot_dict_get dd.typeIs PySem.F.entry_dict_get (PySem.F.args_dict_get_3 _ _ _) (meets_dict_get_default (bT X.prog X.w) a (xH ry) hd r) ⟨_,dd.mapOf,h _ _ (I.tok _) ?_⟩;rw[l];exact(rel.val k).getD rd
  · subst ey;cases (show u=Value.ref b from ry);obtain⟨z,hd,xs,rel,dd⟩:=Ao I.hok e;refine call_meetsIn PySem.F.slot_dict_get dd.typeIs PySem.F.entry_dict_get (PySem.F.args_dict_get_3 _ _ _) (meetsH_dict_get_default (tupleKind (bT X.prog X.w)) a b hd r) ⟨tupleKind_room_in1 hu,k,xs,vE I.hok eb,dd,h _ _ (I.tok _) ?_⟩;rw[l];exact(rel.val k).getD rd
end
section
variable {X:Cx} {o e f:Expr} {apos aaA:Pos} {td ty tx:TE}
end
section
variable {X:Cx} {Z7:List (Addr×Obj)} {σ:St} {H:Hp} {s:Shared} {a:Addr} {kvs:List (Key×V)} {A:Around} {E:q0A}
end
section
variable {X:Cx} {Z7:List (Addr×Obj)} {σ:St} {H:Hp} {s:Shared} {a:Addr} {y:V} {u:Value} {A:Around} {E:q0A}
end
end L2
namespace Att
open PySem PySem.W PySem.Calls PyProof.Rows
def yC{P:Params}{h:Heap}:∀(ns:List Int) (vs:List Value),WellAll P h vs (ns.map WData.int)->IntsAre vs ns:=by
 intro ns
 induction ns with
 | nil =>
  intro vs w;rw[List.map_nil] at w;cases w;exact .nil
 | cons n ns ih =>
  intro vs w;rw[List.map_cons] at w;cases w with
  | cons a b =>
   cases a;exact .cons _ _ (ih _ b)
def Mv{l:OpenLaw}{n:Nat}(hn:l.most=some n){P:Params}{h:Heap}{args:List WData}{vals:List Value}
    (abM:l.row.toRowW.claim.pre args=true) (hwl:WellAll P h vals args) :
    ∃ a vs ns,vals=[Value.ref a]/\args=[WData.list (ns.map WData.int)]/\h.get? a=some {cls:=.type "list",data:=.seq vs.toArray}/\IntsAre vs ns/\ns.length<=n:=by
  have hsh:WShape.hasAll [] args [.list .int]=true:=(pre_splitW abM).1;have hc:l.pre.holds [] {args:=args}=true:=(pre_splitW abM).2;obtain⟨d,r,rfl,h1,h2⟩:=hasAllW_cons hsh;obtain rfl:=hasAllW_nil h2;obtain⟨xs,rfl,h3⟩:=hasW_list h1;obtain⟨ns,rfl⟩:=items_int h3;have hlen:ns.length<=n:=by
    unfold OpenLaw.pre at hc;have h4:(WTm.not (.lt (.lit (.int (n:Int))) (.len (.arg 0)))).holds [] {args:=[.list (ns.map .int)]}=true:=by
      have h4:=(holds_andW hc).1;rw[hn] at h4;exact h4
    have h5:=condW_of h4 (w_not (w_lt w_lit (w_len_list (w_arg rfl))));rw[List.length_map] at h5;refine Nat.le_of_not_lt fun q=>?_;have q':(n:Int) < ((ns.length:Nat):Int):=by omega
    first
      | (rw[decide_eq_true q'] at h5;exact absurd h5 (by decide))
      | (simp at h5;omega)
  cases hwl with
  | cons w1 w2 =>
    cases w2;cases w1 with
    | list ho adX=>exact⟨_,_,ns,rfl,rfl,ho,yC ns _ adX,hlen⟩
def Mn(l:OpenLaw)(args:List WData):l.row.toRowW.claim.post args (.bool true) args=true :=
 postW_of (r:=l.row.toRowW) (X:=(true==true))
  (show WShape.has [] (.bool true) .bool=true by first|rfl|decide|simp[WShape.has,WShape.arms,WShape.armsAll])
  (show(WTm.eq .res (.lit (.bool true))).value [] {args:=args,res:=some (.bool true),after:=args}=some (.bool (true==true)) from w_eq_bool (w_res rfl) w_lit) rfl
def E5{l:OpenLaw}{n:Nat}{q:Program}{loose:List Str}{XP:(q0C)->Heap->Prop}{YP:World->Heap->Prop}{d:DefRec}
    (hn:l.most=some n) (hdf:d.params.defaults=[])
    (call:∀(w:World) (s₀ s₁:Shared) (mg mb:q0C) (fa:Addr) (o:Obj) (pm cd doc:Value) (a:Addr) (vs:List Value) (ns:List Int),
      Ground q loose [] XP w s₀ mg mb s₁.heap->YP w s₁.heap ->
      s₁.heap.get? fa=some o->o.data=.func (docDef d.name d.params d.body d.scope pm cd doc)->s₁.heap.CodeRec cd d.name->mg d.name=some (.ref fa) ->
      s₁.heap.get? a=some {cls:=.type "list",data:=.seq vs.toArray}->IntsAre vs ns->ns.length<=n->s₁.gens = #[] ->
      codeAny (model l.prog w) callerA (.call (.ref fa) ⟨[.ref a],[]⟩) (fun r s'=>r=.ok (.ret (.bool true))/\OldK s₁.heap s'.heap/\s'.os=s₁.os/\AllBare s'.gens) s₁) :
    WalkO q loose XP YP l.row.toRowW d [] (fun f vs=>PySem.call f vs):=by
  intro w s₀ s₁ mg mb G Y fa o pm cd doc dV kV ho hd hcd hD hmg hg args vals as abM aeS hrd hwl hlo;obtain rfl:dV=.none:=Dflts.none hD hdf;obtain rfl:kV=.none:=Dflts.noKw hD;obtain⟨a,vs,ns,rfl,rfl,acE,hints,hlen⟩:=Mv hn abM hwl;refine enter_call (codeAny_mono (call w s₀ s₁ mg mb fa o pm cd doc a vs ns G Y ho (fd_plain hd) hcd hmg acE hints hlen hg) fun r s' hq=>?_);obtain⟨rfl,h2,h3,h4⟩:=hq;exact⟨.inl ⟨.bool true,.bool true,[],rfl,fun _=>rfl,.bool true,Mn l _,fun _=>⟨List.Pairwise.nil,fun _ hm=>(nomatch hm)⟩⟩,h2,h3,h4⟩
section
variable {prog:Program} {w:World} {A:Around} {E:q0A} {s:Shared} {K:Frag}
def Ej(h:Heap):Heap:={h with objs:=#[]}
def rF(h:Heap)(b:Addr):(Ej h).get? b=none:=by
 cases e:(Ej h).get? b with
 | none=>rfl
 | some o=>exact absurd (Heap.lt_size e) (Nat.not_lt_zero _)
def ledger(h:Heap)(L d:Addr):List (Addr×Obj):=(List.range h.objs.size).filterMap fun a=>if a=L\/a=d then none else (h.get? a).map fun o=>(a,o)
def mK{h:Heap}{L d a:Addr}{o:Obj}:(a,o)∈ledger h L d↔a≠L/\a≠d/\h.get? a=some o:=by
 unfold ledger;rw[List.mem_filterMap];constructor
 ·rintro⟨b,_,e⟩;split at e
  ·cases e
  ·rename_i hb
   obtain⟨o',ho,e'⟩:=Option.map_eq_some_iff.mp e;cases e';exact⟨fun q=>hb (.inl q),fun q=>hb (.inr q),ho⟩
 ·rintro⟨n1,n2,ho⟩;refine⟨a,List.mem_range.mpr (Heap.lt_size ho),?_⟩;rw[if_neg (show ¬ (a=L\/a=d) from fun q=>q.elim n1 n2),ho]<;>rfl
def oJ{h:Heap}{L d:Addr}{od:Obj}(hne:d≠L)(ho:h.get? d=some od):News (Ej h) L h ([]++(d,od)::ledger h L d):=by
 rintro⟨a,o⟩ hp;rcases List.mem_cons.mp hp with e|hp
 ·cases e;exact⟨ho,hne,rF _ _⟩
 ·obtain⟨n1,n2,e⟩:=mK.mp hp;exact⟨e,n1,rF _ _⟩
def Ih{h:Heap}{L:Addr}{m:q0C}(n:h.Ns L m):Fr (Ej h) L h m :=
 ⟨n,fun b o e=>(by rw[rF] at e;cases e),Nat.zero_le _⟩
end
end Att
namespace L2
open PySem PySem.Spec PyProof.Rows
def qB:∀ {vs:List Value} {ns:List Int},IntsAre vs ns->Vals (ns.map V.int) vs
 | _,_,.nil=>.nil
 | _,_,.cons n t h=>.cons ⟨t,rfl⟩ (qB h)
def Only(H:Hp):Prop:=∀ b,H b=none\/∃ o xs,H b=some (.frz o (.lst xs))
def OD{P:Program}{w:World}{K:q0B}{mg mb:q0C}{CX:CXT}{k:Nat}{fa a:Addr}{fd:FuncData}{x:Str}{sp:Sp}{s₁:Shared}{vs:List Value}{ns:List Int}
    (KX:K.In s₁.heap) (hns:s₁.heap.Ns mainGlobals mg) (hb:s₁.heap.Ns builtinsNs mb) (hbb:∀ x:Str,x≠"__name__"->mb x=bootBuiltins x) (ad1:s₁.heap.NoLimit) (hg:s₁.gens = #[])
    (ha:s₁.heap.get? a=some {cls:=.type "list",data:=.seq vs.toArray}) (hi:IntsAre vs ns) (hl:ns.length<=sizeLine) (hr:Room k callerA)
    (F:∀ base:Heap,K.In base->base.Ns mainGlobals mg->bD P w K mg base CX k fa fd [x] sp) (acY:∀(s:Shared) (u:Value),BindsTo s fd ⟨[u],[]⟩ [(x,u)])
    (hsp:∀ H:Hp,Only H->dR K H a (ns.map V.int)->sp [.ref a] H (fun v _=>v=.bl true) fun _ _ _=>False)
    (hCX:∀ H e s',CX [] H s₁ (fun _ _ _=>False) e s'->False) :
    codeAny (model P w) callerA (.call (.ref fa) ⟨[.ref a],[]⟩) (fun r s'=>r=.ok (.ret (.bool true))/\OldK s₁.heap s'.heap/\s'.os=s₁.os/\AllBare s'.gens) s₁:=by
  have rv:=qB hi;have ad7:=hi.length
  -- from an abstract heap in which nothing but the script may be tracked
  have core:∀ H:Hp,Only H->dR K H a (ns.map V.int)->HOk P w H s₁.heap->(∀ b,H b≠none->b=a)->(H a≠none->K.lookup a=none) ->
      codeAny (model P w) callerA (.call (.ref fa) ⟨[.ref a],[]⟩) (fun r s'=>r=.ok (.ret (.bool true))/\OldK s₁.heap s'.heap/\s'.os=s₁.os/\AllBare s'.gens) s₁:=by
    intro H hO hS hok hA hK;have aaX:∀ {b:Addr} {o:Obj},s₁.heap.get? b=some o->H b=none->(D7 s₁.heap H).get? b=some o:=fun e n=>Oq e n;have noA:∀ {b:Addr} {o:Obj} {es:Array DictEntry} {ep:Nat},s₁.heap.get? b=some o->o.data=.dict es ep->H b=none:=fun {b o es ep} e d=>by
      cases q:H b with
      | none=>rfl
      | some u =>
        have e':b=a:=hA b (by rw[q];simp);subst e';rw[ha] at e;cases e;have d':Data.seq vs.toArray _=Data.dict es ep:=d;cases d'
    have nsK:∀ {b:Addr} {m:q0C},s₁.heap.Ns b m->(D7 s₁.heap H).Ns b m:=fun {b m} ⟨o,es,ep,e,d,r⟩=>⟨o,es,ep,aaX e (noA e d),d,r⟩;have hKb:K.In (D7 s₁.heap H):=fun b o e=>aaX (KX b o e) (by
      cases q:H b with
      | none=>rfl
      | some u =>
        have e':b=a:=hA b (by rw[q];simp);subst e';rw[hK (by rw[q];simp)] at e;cases e)
    have hM:Mod K mg (D7 s₁.heap H):=⟨hKb,nsK hns,⟨mb,nsK hb,hbb⟩,let ⟨mc,h1,h2⟩:=ad1;⟨mc,nsK h1,h2⟩⟩;have e0:Env0 P w K mg (D7 s₁.heap H) callerA [] s₁ H:=⟨rfl,hM,fun b o e=>Sb e,Nat.le_of_eq (LB _ _),trivial,fun b hb=>absurd (show b∈([]:List Addr) from hb) (by simp),hok,.of_eq hg⟩;refine codeAny_mono ((F _ hKb (nsK hns)).run callerA [] s₁ H ⟨[.ref a],[]⟩ [.ref a] [.ref a] _ _ hr e0 (acY s₁ (.ref a)) (.cons rfl .nil) (hsp H hO hS)) fun r s' h=>?_;cases r with
    | error e=>exact(hCX H e s' h).elim
    | ok fl =>
      cases fl with
      | next=>exact False.elim h
      | brk=>exact False.elim h
      | cont=>exact False.elim h
      | ret u =>
        obtain⟨v,H',os,bare,un,ad4,r',q⟩:=h;have q':v=.bl true:=q;subst q';obtain rfl:u=Value.bool true:=r';refine⟨rfl,OldK.of_keep fun b o e=>?_,os,bare⟩;cases q:H b with
        | none=>exact un.keep b o e q (by intro z;exact absurd (show b∈([]:List Addr) from z) (by simp)) (by simp)
        | some u =>
          rcases hO b with z|⟨ob,xs,z⟩
          · rw[q] at z;cases z
          · have z2:=un.AF b ob _ z;obtain⟨e1,_⟩:=hok b _ z;obtain⟨e2,_⟩:=ad4 b _ z2;rw[e] at e1;cases e1;exact e2
  cases hk:K.lookup a with
  | some o =>
    -- the script is one of the module's own objects
    have e:=KX a o hk;rw[ha] at e;cases e;refine core (fun _=>none) (fun _=>.inl rfl) (.inr ⟨_,vs.toArray,_,hk,rfl,rfl,rfl,by rw[List.size_toArray,ad7];exact hl,by simpa using rv⟩) (fun b u z=>by have z':(none:Option HO)=some u:=z;cases z') (fun b z=>absurd rfl z) fun z=>absurd rfl z
  | none =>
    refine core (fun b=>if b=a then some (.frz {cls:=.type "list",data:=.seq vs.toArray} (.lst (ns.map V.int))) else none) (fun b=>?_) (.inl (.inr ⟨{cls:=.type "list",data:=.seq vs.toArray},if_pos rfl⟩)) (fun b u z=>?_) (fun b z=>?_) fun _=>hk
    · by_cases hb:b=a
      · exact .inr ⟨_,_,if_pos hb⟩
      · exact .inl (if_neg hb)
    · by_cases hb:b=a
      · have z':=(if_pos hb).symm.trans z;cases z';subst hb;exact⟨ha,by rw[List.length_map];exact hl,vs,_,rv,ha⟩
      · have z':=(if_neg hb).symm.trans z;cases z'
    · by_cases hb:b=a
      · exact hb
      · exact absurd (if_neg hb) z
def S9{l:PySem.W.OpenLaw}{n k:Nat}{q:Program}{loose:List Str}{XP:(q0C)->Heap->Prop}{YP:World->Heap->Prop}{d:DefRec}{K:Params->q0B}{CX:World->CXT}{sp:World->Sp}{x:Str}
    (hn:l.most=some n) (hn2:n<=sizeLine) (hdf:d.params.defaults=[]) (hr:Room k callerA)
    (hY:∀(w:World) (h:Heap),YP w h->(K w.params).In h)
    (F:∀(w:World) (mg:q0C) (fa:Addr) (h:Heap),(K w.params).In h->h.Ns mainGlobals mg->mg d.name=some (.ref fa) ->
      ∃ fd:FuncData,(∀(s:Shared) (u:Value),BindsTo s fd ⟨[u],[]⟩ [(x,u)]) /\
        ∀ base:Heap,(K w.params).In base->base.Ns mainGlobals mg->bD l.prog w (K w.params) mg base (CX w) k fa fd [x] (sp w))
    (hsp:∀(w:World) (H:Hp) (a:Addr) (ns:List Int),ns.length<=n->Only H->dR (K w.params) H a (ns.map V.int)->sp w [.ref a] H (fun v _=>v=.bl true) fun _ _ _=>False)
    (hCX:∀(w:World) (H:Hp) (s:Shared) (e:Value) (s':Shared),CX w [] H s (fun _ _ _=>False) e s'->False) :
    PySem.W.WalkO q loose XP YP l.row.toRowW d [] (fun f vs=>PySem.call f vs):=by
  refine Att.E5 hn hdf fun w s₀ s₁ mg mb fa o pm cd doc a vs ns G Y ho hd hcd hmg acE hints hlen hg=>?_;have KX:=hY w _ Y;obtain⟨fd,hb,hF⟩:=F w mg fa _ KX G.T.g hmg;exact OD KX G.T.g G.T.b G.T.builtins G.T.nolimit hg acE hints (Nat.le_trans hlen hn2) hr hF hb (fun H hO hS=>hsp w H a ns hlen hO hS) fun H e s'=>hCX w H s₁ e s'
def bN(s:Stmt)(j:Nat):Stmt:=match s with
 | .ClassDef _ _ _ body _ _ _ _ _ _ _=>body.getD j (.Pass ⟨0,0,0,0⟩)
 | _=>.Pass ⟨0,0,0,0⟩
def yT(s:Stmt):Arguments:=match s with
 | .FunctionDef _ a _ _ _ _ _ _ _ _=>a
 | _=>{posonlyargs:=[],args:=[],vararg:=none,kwonlyargs:=[],kw_defaults:=[],kwarg:=none,defaults:=[]}
def sM(s:Stmt):List Stmt:=match s with
 | .FunctionDef _ _ b _ _ _ _ _ _ _=>b
 | _=>[]
def aK(s:Stmt):Scope:=match s with
 | .FunctionDef _ _ _ _ _ _ sc _ _ _=>sc
 | _=>{kind:=.function,names:=[],isGenerator:=false,isCoroutine:=false}
abbrev CX0:CXT:=fun _ _ _ _ _ _=>False
abbrev E0:XK:=fun _ _ _=>False
def pass0{X:Cx}:Passes CX0 X E0:=fun _ _ _ _ _ _ _ h=>h.elim
structure Fun(K:q0B)(x qual:Str)(st:Stmt)(f:Addr)(fd:FuncData):Prop where
 ex:∃(oc:Value) (od:Option Addr) (kV doc pm:Value) (an:Option Addr) (cdv ct:Value) (osl:Array (Option Value)),
  fd=PySem.W.fnOf x qual (yT st) (sM st) (aK st) .none kV doc pm an cdv ct/\K.lookup f=some ⟨oc,od,.func fd,osl⟩/\PySem.W.codeIn K cdv qual=true
 kp:PySem.W.keepIn K (.ref f)=true
section
variable {P:Program} {w:World} {K:q0B} {mg:q0C} {base:Heap}
def Fun.ok{x qual:Str}{st:Stmt}{f:Addr}{fd:FuncData}{N ps:List Str}{k:Nat}{sp:Sp}(F:Fun K x qual st f fd)(S:aS N ps (aK st))(len:∀ vs H Q E,sp vs H Q E->vs.length=ps.length)
    (abE:∀(cdv:Value) (A:Around) (outer:List Env) (s:Shared) (H:Hp) (vs:List V) (Q:VK) (E:XK),Room k (A.deeper (envOfC qual (aK st) s.heap.objs.size f cdv))->sp vs H Q E ->
      ∃ t,PSs (Fq CX0 P w K mg base N qual (aK st) f cdv A outer s H E).nox (sM st) t/\t {nx:=fun _ H'=>Q .non H',rt:=Q} (start N vs) H):bD P w K mg base CX0 (k+1) f fd ps sp:=by
  obtain⟨oc,od,kV,doc,pm,an,cdv,ct,osl,rfl,lk,hcd⟩:=F.ex;refine X6 lk hcd S len fun A outer s H vs Q E hr hsp=>?_;obtain⟨t,h,q⟩:=abE cdv A outer s H vs Q E hr hsp;exact⟨t,h.nox,q⟩
def Fun.binds{x qual:Str}{st:Stmt}{f:Addr}{fd:FuncData}{ps:List Str}(F:Fun K x qual st f fd)
    (h:∀(kV doc pm:Value) (an:Option Addr) (cdv ct:Value) (us:List Value),us.length=ps.length->bindArgs (PySem.W.fnOf x qual (yT st) (sM st) (aK st) .none kV doc pm an cdv ct) ⟨us,[]⟩=pure (ps.zip us)):Binds K fd ps []:=by
  obtain⟨oc,od,kV,doc,pm,an,cdv,ct,osl,rfl,lk,hcd⟩:=F.ex;exact .all (h kV doc pm an cdv ct)
def VN{x qual:Str}{st:Stmt}{f:Addr}{oc:Value}{od an:Option Addr}{osl:Array (Option Value)}{kV doc pm cdv ct:Value}(l:K.lookup f=some ⟨oc,od,.func (PySem.W.fnOf x qual (yT st) (sM st) (aK st) .none kV doc pm an cdv ct),osl⟩)
    (c:PySem.W.codeIn K cdv qual=true) (k:PySem.W.keepIn K (.ref f)=true):Fun K x qual st f (PySem.W.fnOf x qual (yT st) (sM st) (aK st) .none kV doc pm an cdv ct):=⟨⟨oc,od,kV,doc,pm,an,cdv,ct,osl,rfl,l,c⟩,k⟩
end
def nA{A:Around}{k:Nat}(hr:Room k A):A.units+1 < cLine:=Nat.lt_of_le_of_lt (Nat.add_le_add_left (by decide:1<=64) _) hr.units
def small1000{n:Nat}(h:n<=1000):n < sizeLine:=Nat.lt_of_le_of_lt h (by decide)
section
variable {X:Cx}
def pv(i:Nat){x:Str}{pos:Pos}(hN:X.N[i]?=some x:=by rfl)(hv:Vis X.env.scope x:=by first|exact Or.inl rfl|exact Or.inr (Or.inl rfl)|exact Or.inr (Or.inr rfl))(hd:(x==("__debug__":Str))=false:=by decide)
    (hcd:(x==("__classdict__":Str))=false:=by decide):PE X (.Name x pos) (kA i):=Wl hN hv hd hcd
end
def Same(H H':Hp):Prop:=∀ b o,H b=some o->H' b=some o
def Same.seq{K:q0B}{H H':Hp}{a:Addr}{xs:List V}(e:Same H H')(h:dR K H a xs):dR K H' a xs:=by
 rcases h with(h|⟨o,h⟩)|h
 ·exact .inl (.inl (e _ _ h))
 ·exact .inl (.inr ⟨o,e _ _ h⟩)
 ·exact .inr h
section
variable {X:Cx}
end
section
variable {κ:Type} [DecidableEq κ]
end
end L2
set_option maxHeartbeats 4000000
namespace L2
open PySem PySem.Spec PyProof.Rows
def DM:bootBuiltins "int"=some (.type "int"):=by decide +kernel
def HN:bootBuiltins "str"=some (.type "str"):=by decide +kernel
def QF:bootBuiltins "dict"=some (.type "dict"):=by decide +kernel
def fE:bootBuiltins "tuple"=some (.type "tuple"):=by decide +kernel
def B5:bootBuiltins "isinstance"=some (.builtin "isinstance"):=by decide +kernel
def DN:bootBuiltins "max"=some (.builtin "max"):=by decide +kernel
def MZ:bootBuiltins "min"=some (.builtin "min"):=by decide +kernel
def pQ:bootBuiltins "sorted"=some (.builtin "sorted"):=by decide +kernel
def HM:bootBuiltins "all"=some (.builtin "all"):=by decide +kernel
def iF:bootBuiltins "len"=some (.builtin "len"):=by decide +kernel
section
variable {X:Cx}
def WT(_ j:Int):Prop:=0 < j/\j.natAbs.log2 < 9000
def GL:iW X (binaryOp .FloorDiv) (rI WT fun i j=>.int (i / j)):=Y1 fun i j _ _ _ _ _ hc q=>by
 have h1:(0:Int) < j:=hc.1;exact floordiv_int (by omega) (by rw[Int.fdiv_eq_ediv_of_nonneg i (by omega)];exact q) (.inl (PyProof.noPylong_of_log2 hc.2))
def log2_lt{j:Int}(h0:0 < j)(h:j<=10 ^ 45):j.natAbs.log2 < 9000:=by
 have h1:j.natAbs<=10 ^ 45:=by omega
 have h2:j.natAbs < 2 ^ 150:=Nat.lt_of_le_of_lt h1 (by decide);have h3:j.natAbs.log2 < 150:=(Nat.log2_lt (by omega)).mpr h2;omega
inductive sA(K:q0B)(H:Hp):V->String->Bool->Prop
 | ii (n:Int):sA K H (.int n) "int" true
 | ib (n:Int):sA K H (.int n) "bool" false
 | is (n:Int):sA K H (.int n) "str" false
 | it (n:Int):sA K H (.int n) "tuple" false
 | bi (b:Bool):sA K H (.bl b) "int" true
 | bb (b:Bool):sA K H (.bl b) "bool" true
 | bs (b:Bool):sA K H (.bl b) "str" false
 | bt (b:Bool):sA K H (.bl b) "tuple" false
 | si (x:Str):sA K H (.str x) "int" false
 | sb (x:Str):sA K H (.str x) "bool" false
 | ss (x:Str):sA K H (.str x) "str" true
 | st (x:Str):sA K H (.str x) "tuple" false
 | ni:sA K H .non "int" false
 | nb:sA K H .non "bool" false
 | ns:sA K H .non "str" false
 | nt:sA K H .non "tuple" false
 | li {a:Addr} {xs:List V}:dR K H a xs->sA K H (.ref a) "int" false
 | lb {a:Addr} {xs:List V}:dR K H a xs->sA K H (.ref a) "bool" false
 | ls {a:Addr} {xs:List V}:dR K H a xs->sA K H (.ref a) "str" false
 | lt {a:Addr} {xs:List V}:dR K H a xs->sA K H (.ref a) "tuple" false
 | ti {a:Addr} {xs:List V}:fA K H a xs->sA K H (.ref a) "int" false
 | tb {a:Addr} {xs:List V}:fA K H a xs->sA K H (.ref a) "bool" false
 | ts {a:Addr} {xs:List V}:fA K H a xs->sA K H (.ref a) "str" false
 | tt {a:Addr} {xs:List V}:fA K H a xs->sA K H (.ref a) "tuple" true
 | di {a:Addr} {kvs:List (Key×V)}:H a=some (.dK kvs)->sA K H (.ref a) "int" false
 | db {a:Addr} {kvs:List (Key×V)}:H a=some (.dK kvs)->sA K H (.ref a) "bool" false
 | ds {a:Addr} {kvs:List (Key×V)}:H a=some (.dK kvs)->sA K H (.ref a) "str" false
def Z9.yZ{Z7:List (Addr×Obj)}{σ:St}{H:Hp}{s:Shared}{a:Addr}{xs:List V}(I:Z9 X Z7 σ H s)(h:dR X.K H a xs):∃ o,s.heap.get? a=some o/\o.cls=.type "list":=by
 obtain⟨its,_,⟨o,n,e,c,_,_⟩,_⟩:=I.list h;exact⟨o,e,c⟩
def Z9.E1{Z7:List (Addr×Obj)}{σ:St}{H:Hp}{s:Shared}{a:Addr}{xs:List V}(I:Z9 X Z7 σ H s)(h:fA X.K H a xs):∃ o,s.heap.get? a=some o/\o.cls=.type "tuple":=by
 obtain⟨its,_,⟨o,e,c,_⟩,_⟩:=I.tuple h;exact⟨o,e,c⟩
def Z9.DW{Z7:List (Addr×Obj)}{σ:St}{H:Hp}{s:Shared}{a:Addr}{kvs:List (Key×V)}(I:Z9 X Z7 σ H s)(h:H a=some (.dK kvs)):∃ o,s.heap.get? a=some o/\o.cls=.type "dict" :=
 xB I (DGet.k (k:=.inl 0) h)
def Nr:dG X (.builtin "isinstance") (fun xs H Q=>∃ v T b,xs=[v,.ty T]/\sA X.K H v T b/\Q (.bl b) H):=by
 intro Z7 s σ H xs us Q I r h;obtain⟨v,T,b,rfl,hi,q⟩:=h;obtain⟨u,w',rfl,r1,r2⟩:=vals2 r;cases r2;have fin:EP X Z7 σ Q (.bool b) s:=⟨.bl b,H,I,rfl,q⟩;have aaF:EP X Z7 σ Q (.bool b) {s with toks:=s.toks+1}:=⟨.bl b,H,I.tok _,rfl,q⟩;cases hi with
 | ii n=>obtain⟨t,rfl⟩:=r1;exact IsiPair.int_int fin
 | ib n=>obtain⟨t,rfl⟩:=r1;exact IsiPair.int_bool aaF
 | is n=>obtain⟨t,rfl⟩:=r1;exact IsiPair.int_str aaF
 | it n=>obtain⟨t,rfl⟩:=r1;exact IsiPair.int_tuple aaF
 | bi b=>cases r1;exact IsiPair.bool_int fin
 | bb b=>cases r1;exact IsiPair.bool_bool fin
 | bs b=>cases r1;exact IsiPair.bool_str aaF
 | bt b=>cases r1;exact IsiPair.bool_tuple aaF
 | si x=>obtain⟨t,rfl⟩:=r1;exact IsiPair.str_int aaF
 | sb x=>obtain⟨t,rfl⟩:=r1;exact IsiPair.str_bool aaF
 | ss x=>obtain⟨t,rfl⟩:=r1;exact IsiPair.str_str fin
 | st x=>obtain⟨t,rfl⟩:=r1;exact IsiPair.str_tuple aaF
 | ni=>cases r1;exact IsiPair.NoneType_int aaF
 | nb=>cases r1;exact IsiPair.NoneType_bool aaF
 | ns=>cases r1;exact IsiPair.NoneType_str aaF
 | nt=>cases r1;exact IsiPair.NoneType_tuple aaF
 | li hl=>cases r1;obtain⟨o,e,c⟩:=Z9.yZ I hl;exact IsiPair.list_int e c aaF
 | lb hl=>cases r1;obtain⟨o,e,c⟩:=Z9.yZ I hl;exact IsiPair.list_bool e c aaF
 | ls hl=>cases r1;obtain⟨o,e,c⟩:=Z9.yZ I hl;exact IsiPair.list_str e c aaF
 | lt hl=>cases r1;obtain⟨o,e,c⟩:=Z9.yZ I hl;exact IsiPair.list_tuple e c aaF
 | ti hl=>cases r1;obtain⟨o,e,c⟩:=Z9.E1 I hl;exact IsiPair.tuple_int e c aaF
 | tb hl=>cases r1;obtain⟨o,e,c⟩:=Z9.E1 I hl;exact IsiPair.tuple_bool e c aaF
 | ts hl=>cases r1;obtain⟨o,e,c⟩:=Z9.E1 I hl;exact IsiPair.tuple_str e c aaF
 | tt hl=>cases r1;obtain⟨o,e,c⟩:=Z9.E1 I hl;exact IsiPair.tuple_tuple e c fin
 | di hl=>cases r1;obtain⟨o,e,c⟩:=Z9.DW I hl;exact IsiPair.dict_int e c aaF
 | db hl=>cases r1;obtain⟨o,e,c⟩:=Z9.DW I hl;exact IsiPair.dict_bool e c aaF
 | ds hl=>cases r1;obtain⟨o,e,c⟩:=Z9.DW I hl;exact IsiPair.dict_str e c aaF
end
def Oz:Expr->Bool
 | .Starred ..=>true
 | _=>false
def MD{e:Expr}{es:List Expr}{env:Env}(h:Oz e=false):starEach (e::es) env=(false,eval e env)::starEach es env:=by
 cases e<;>first|rfl|cases h
section
variable {X:Cx} {e:Expr} {es:List Expr} {te:TE} {t:TA}
def aD(ha:PE X e te)(hr:PA X es t)(h:Oz e=false:=by rfl):PA X (e::es) (Hq te t):=Ke ha hr (MD h)
end
abbrev xM(prog:Program)(w:World)(A:Around)(env:Env)(R:Result->Shared->Prop):Value->Shared->Prop:=notedBy (model prog w) A env fun e s'=>R (.error e) s'
abbrev Kx(ifs:List Expr)(env:Env):Sem Bool:=forIn ifs true fun c r=>if r=true then do let ok <- isTrue c env (eval c env);pure (ForInStep.yield ok) else pure (ForInStep.yield r)
section
variable {prog:Program} {w:World} {A:Around} {R:Result->Shared->Prop} {s:Shared}
def w9{elt target iter:Expr}{ifs:List Expr}{scope:Scope}{pos:Pos}{it acc:Value}{env:Env}(I:Nat->Shared->Prop)
    (turn:∀ n s,I n s->wpAny (model prog w) A (pyNext it) (fun r s₁=>match r with
      | none=>R (.ok .next) s₁
      | some v=>wpAny (model prog w) A (letOwnedTupleGo target it v) (fun _ s₁'=>wpAny (model prog w) A (assign target env v) (fun _ s₂ =>
          wpAny (model prog w) A (Kx ifs env) (fun ok s₃ =>
            if ok=true then wpAny (model prog w) A (eval elt env) (fun x s₄ =>
              wpAny (model prog w) A (call (.builtin "list.append") [acc,x]) (fun _ s₅=>∃ m,m < n/\I m s₅) (xM prog w A env R) s₄) (xM prog w A env R) s₃
            else ∃ m,m < n/\I m s₃) (xM prog w A env R) s₂) (xM prog w A env R) s₁') (xM prog w A env R) s₁) (xM prog w A env R) s)
    (n:Nat) (h:I n s):codeAny (model prog w) A (.compLoop (.ListComp elt [⟨target,iter,ifs,0⟩] scope pos) 0 it acc env) R s:=by
  refine codeAny_loop rfl I (fun n s hI=>?_) n h;show wpAny _ A ((compTurn (.ListComp elt [⟨target,iter,ifs,0⟩] scope pos) 0 it acc env).onRaise (fun x=>do noteFrame x env;theTreesLotGoes x)) _ _ s;refine wpAny_noted ?_;rw[compTurn_list];refine wpAny_bind (wpAny_standAt (wpAny_bind (wpAny_mono (turn n s hI) (fun r s₁ h₁=>?_) fun _ _ h'=>h')));cases r with
  | none=>exact wpAny_pure h₁
  | some v =>
    refine wpAny_bind (wpAny_mono h₁ (fun _ s₁' h₁'=>?_) fun _ _ h'=>h');refine wpAny_bind (wpAny_mono h₁' (fun _ s₂ h₂=>wpAny_bind (wpAny_mono h₂ (fun ok s₃ h₃=>?_) fun _ _ h'=>h')) fun _ _ h'=>h');cases ok with
    | false=>exact wpAny_pure ⟨rfl,h₃⟩
    | true =>
      exact wpAny_bind (wpAny_bind (wpAny_mono h₃ (fun x s₄ h₄=>wpAny_bind (wpAny_mono h₄ (fun _ s₅ h₅=>wpAny_pure (wpAny_pure ⟨rfl,h₅⟩)) fun _ _ h'=>h')) fun _ _ h'=>h'))
end
def bO(X:Cx)(sc:Scope)(cl:List (Str×Addr))(C:Addr)(N:List Str)(s:Shared)(H:Hp)(ex:List Addr)(pn:List (Addr×Obj)):Cx :=
 {X with env:=compEnvC sc cl C X.env,N:=N,s₀:=s,H₀:=H,outer:=X.stack,ex:=ex,fn:=fun _=>false,pn:=pn}
structure c5(X:Cx)(sc:Scope)(cl:List (Str×Addr))(x:Str)(fr:List Nat)(N:List Str):Prop where
 kind:sc.kind=.function
 vP:∀ y∈sc.names,y.2≠.cell
 names:∀ y∈sc.names,y.2=.local->sc.names.lookup y.1=some .local
 DQ:closureFor sc X.env=pure cl
 sub:∀ y c,cl.lookup y=some c->X.env.cells.lookup y=some c
 has:∀ y,((relabel sc X.env).names.lookup y=some .cell\/(relabel sc X.env).names.lookup y=some .free)->∃ c,cl.lookup y=some c
 tgt:sc.names.lookup x=some .local
 nd:N.Nodup
 N0:N=x::fr.map fun j=>X.N.getD j x
 frc:∀ j∈fr,∃ y,X.N[j]?=some y/\X.env.kindOf y=some .cell/\((relabel sc X.env).names.lookup y=some .cell\/(relabel sc X.env).names.lookup y=some .free)
def aY(fr:List Nat)(σ:St):St:=fr.map fun j=>(σ[j]?).join
section
variable {X:Cx} {Z7:List (Addr×Obj)} {σ:St} {H:Hp} {s:Shared} {sc:Scope} {cl:List (Str×Addr)} {C:Addr} {x:Str} {fr:List Nat} {N:List Str} {fp:List Addr}
def QN(I:Z9 X Z7 σ H s)(S:c5 X sc cl x fr N)(hf:∀ b∈fp,lX X Z7 H b)(hfo:∀ b∈fp,b < s.heap.objs.size)(hC:s.heap.objs.size<=C) :
    (bO X sc cl C N s H fp (X.pn++Z7)).Ok where
  mod:=I.ok.mod
  kind:=S.kind
  glob:=I.ok.glob
  blt:=I.ok.blt
  above:=hC
  inj:=fun y z c h1 h2=>I.ok.inj y z c (S.sub y c h1) (S.sub z c h2)
  has:=S.has
  cab:=fun _ _ h=>by cases h
  hd:=I.ok.hd
  frames:=I.ok.frames
  stk:=.inl rfl
  exf:=fun b hb=>⟨Nat.ne_of_lt (Nat.lt_of_lt_of_le (hfo b hb) hC),fun y c e=>(hf b hb).2.2.2.2.1 y c (S.sub y c e)⟩
  bs:=I.bs
  bsz:=Nat.le_trans I.ok.bsz I.sz
  Gx:=fun b o e hb=>by
    rcases(hf b hb).2.2.2.1 with z|z
    · exact I.ok.Gx b o e z
    · exact absurd (Nat.lt_of_lt_of_le (Heap.lt_size e) (Nat.le_trans I.ok.bsz z)) (Nat.lt_irrefl _)
  Lp:=fun b hb hm=>by
    rcases List.mem_cons.mp (I.r8 b hm) with z|z
    · exact(hf b hb).2.1 z
    · exact(hf b hb).2.2.1 z
  sQ:=I.stack
  frf:=I.EV
def nostk(I:Z9 X Z7 σ H s){b:Addr}(h1:b≠X.env.locals)(h2:b∉X.fs):b∉frs X.stack:=fun hm=>by
 rcases List.mem_cons.mp (I.r8 b hm) with z|z
 ·exact h1 z
 ·exact h2 z
def Nt(I:Z9 X Z7 σ H s)(S:c5 X sc cl x fr N)(hf:∀ b∈fp,lX X Z7 H b)(hfo:∀ b∈fp,b < s.heap.objs.size)(hC:s.heap.objs.size<=C){h1:Heap}{t1:Nat}{m0:q0C}
    (hn:h1.Ns C m0) (hk:∀ b o,s.heap.get? b=some o->h1.get? b=some o):Z9 (bO X sc cl C N s H fp (X.pn++Z7)) [] (none::aY fr σ) H {s with heap:=h1,toks:=t1}:=by
  refine⟨QN I S hf hfo hC,rfl,I.bare,Un.kept hk,⟨m0,hn,fun i y v e1 e2 e3=>?_⟩,fun y c e=>?_,I.hok.fresh hC,fun y c e=>I.lM y c (S.sub y c e),fun p hp=>?_,I.hok.kept hk,?_⟩
  · have e1':N[i]?=some y:=e1;rw[S.N0] at e1';cases i with
    | zero =>
      have z:(some (none:Option V))=some (some v):=e2;cases z
    | succ j =>
      have aaJ:(fr.map fun j=>X.N.getD j x)[j]?=some y:=e1';have e2':(aY fr σ)[j]?=some (some v):=e2;unfold aY at e2';rw[List.getElem?_map] at aaJ e2';cases q:fr[j]? with
      | none=>rw[q] at aaJ;cases aaJ
      | some k =>
        rw[q] at aaJ e2';have ey:X.N.getD k x=y:=Option.some.inj aaJ;have ev:(σ[k]?).join=some v:=Option.some.inj e2';obtain⟨y',hy,aaL,abK⟩:=S.frc k (List.mem_of_getElem? q);have eyy:y=y':=by
          rw[<- ey,List.getD_eq_getElem?_getD,hy];rfl
        subst eyy;have ev':σ[k]?=some (some v):=by
          cases z:σ[k]? with
          | none=>rw[z] at ev;cases ev
          | some o =>
            rw[z] at ev;have ev2:o=some v:=ev;rw[ev2]
        obtain⟨m,_,hl⟩:=I.loc;obtain⟨u,r,l⟩:=hl k y v hy ev' (.inr (.inl aaL));refine⟨u,r,.inr ⟨abK,?_⟩⟩;rcases l with⟨z,_⟩|⟨_,c,hc,o,ho,hd⟩
        · rw[aaL] at z;cases z
        · obtain⟨c',hc'⟩:=S.has y abK;have z:=S.sub y c' hc';rw[hc] at z;cases z;exact⟨c,hc',o,hk c o ho,hd⟩
  · obtain⟨v,o,ho,hd⟩:=I.cell y c (S.sub y c e);exact⟨v,o,hk c o ho,hd⟩
  · have hp':p∈X.pn++Z7:=by
      have z:p∈(X.pn++Z7)++[]:=hp;simpa using z
    obtain⟨e,n,ne,nf,d⟩:=I.pin p hp';exact⟨hk _ _ e,n,Nat.ne_of_lt (Nat.lt_of_lt_of_le (Heap.lt_size e) hC),nostk I ne nf,d⟩
  · show(none::aY fr σ).length=N.length;rw[S.N0];simp[aY]
def Fn(I:Z9 X Z7 σ H s)(hf:∀ b∈fp,lX X Z7 H b){D:Addr}{pl:List (Addr×Obj)}{σ':St}{H':Hp}{s':Shared}(J:Z9 (bO X sc cl C N s H fp (X.pn++Z7)) pl σ' H' s')
    (hC:s.heap.objs.size<=C) (hD:s.heap.objs.size<=D) (hDC:D≠C) (hDn:H' D=none) {xs:List V} {vals:List Value} {k:Nat} (hg:s'.heap.get? D=some {cls:=.type "list",data:=.seq vals.toArray k}) (rv:Vals xs vals) (hz:xs.length<=sizeLine)
    {h':Heap} (hs:Heap.SameBut C s'.heap h'):Z9 X Z7 σ (Z8 H' D (.lst xs)) {s' with heap:=h'}:=by
  have lt:∀ {b:Addr} {o:Obj},s.heap.get? b=some o->b < s.heap.objs.size:=fun e=>Heap.lt_size e;have neC:∀ {b:Addr} {o:Obj},s.heap.get? b=some o->b≠C:=fun e=>Nat.ne_of_lt (Nat.lt_of_lt_of_le (Heap.lt_size e) hC);have neD:∀ {b:Addr} {o:Obj},s.heap.get? b=some o->b≠D:=fun e=>Nat.ne_of_lt (Nat.lt_of_lt_of_le (Heap.lt_size e) hD);have acH:∀ {b:Addr} {o:HO},H b=some o->b≠D:=fun e=>Nat.ne_of_lt (Nat.lt_of_lt_of_le (I.hok.lt e) hD);have base:Un (frs X.stack) fp H H' s.heap s'.heap:=J.base;have HC:H' C=none:=J.free;refine I.Xi (s':={s' with heap:=h'}) (ch:=fp) J.os ⟨fun b o e n hb hx=>?_,fun b o e n hb hx=>?_,fun b o e n hx=>?_,fun b o e hx=>?_,fun b ys e=>?_,fun b o u e=>?_,fun b ps e=>?_⟩ (fun b u e=>?_) J.bare (fun b hb=>?_)
  · exact(hs.2 b (neC e)).trans (base.keep b o e n hb hx)
  · obtain⟨sl,q⟩:=base.slot b o e n hb hx;exact⟨sl,(hs.2 b (neC e)).trans q⟩
  · rw[aG (neD e)];exact base.free b o e n hx
  · obtain⟨o',q⟩:=base.there b o e hx;exact⟨o',(hs.2 b (neC e)).trans q⟩
  · rw[aG (acH e)];exact base.CA b ys e
  · rw[aG (acH e)];exact base.AF b o u e
  · rw[aG (acH e)];exact base.Cz b ps e
  · by_cases hb:b=D
    · subst hb;rw[aA] at e;cases e;exact⟨hz,vals,k,rv,(hs.2 b hDC).trans hg⟩
    · rw[aG hb] at e;have tC:∀ {c:Addr} {o:HO},H' c=some o->c≠C:=fun q z=>by rw[z,HC] at q;cases q
      have tD:∀ {c:Addr} {o:HO},H' c=some o->c≠D:=fun q z=>by rw[z,hDn] at q;cases q
      refine(J.hok b u e).tW (fun c v hc q=>(hs.2 c ?_).trans q) (fun c q=>by rw[aG (tD q)];exact q) fun c ys q=>by rw[aG (tD q)];exact q
      rcases hc with z|z
      · rw[z];exact tC e
      · exact tC z
  · obtain⟨_,f1,_,f3,f4,f5⟩:=hf b hb;exact⟨f3,f1,f4,f5⟩
end
def PTs(Y:Cx)(ifs:List Expr)(t:TT):Prop :=
 ∀(Z7:List (Addr×Obj)) (s:Shared) (σ:St) (H:Hp) (Q:Bool->Hp->Prop),Z9 Y Z7 σ H s->t σ H Q->wpAny (model Y.prog Y.w) Y.A (Kx ifs Y.env) (TP Y Z7 σ Q) Y.xe s
def Ug:TT:=fun _ H Q=>Q true H
def hJ{Y:Cx}:PTs Y [] Ug:=fun _ _ _ H _ I h=>wpAny_tests_nil ⟨H,I,h⟩
def tR{Y:Cx}{c:Expr}{t:TT}(h:PT Y c t):PTs Y [c] t:=fun Z7 s σ H Q I hw=>wpAny_tests_one (h Z7 s σ H Q I hw)
@[irreducible] def j9(wi:TI)(fr:List Nat)(tc:TT)(te:TE):TE:=fun σ H Q=>wi σ H fun J H1=>∃ W:Nat->Nat->List V->Hp->Prop,(∃ m,W 0 m [] H1)/\∀ i m xs H,W i m xs H->xs.length<=1000000 /\
  ((J.stop i H/\∀ p,H p=none->Q (.ref p) (Z8 H p (.lst xs))) \/
   (J.go i H/\∀ y H',J.yld i H y H'->tc (some y::aY fr σ) H' fun b H2=>if b=true then te (some y::aY fr σ) H2 (fun z H3=>∃ m',m' < m/\W (i+1) m' (xs++[z]) H3) else ∃ m',m' < m/\W (i+1) m' xs H2))
section
variable {X:Cx} {sc:Scope} {cl:List (Str×Addr)} {x:Str} {fr:List Nat} {N:List Str} {elt iter:Expr} {px pos:Pos} {ifs:List Expr} {wi:TI} {tc:TT} {te:TE}
def zX(hc:X.calm=true)(hx:∀ e s,¬ X.xe e s)(S:c5 X sc cl x fr N)
    (hb:∀ C s H ex pn,PTs (bO X sc cl C N s H ex pn) ifs tc/\PE (bO X sc cl C N s H ex pn) elt te)
    {Z7:List (Addr×Obj)} {σ:St} {H:Hp} {s:Shared} {it:Addr} {fp:List Addr} {tn:Nat->Heap->Prop} {J:It} {Q:VK} {RR:Value->Addr->Result->Shared->Prop} {E:q0A}
    (I:Z9 X Z7 σ H s) (T:Turn X.prog X.w X.K (.Name x px) J fp it tn) (st:tn 0 s.heap) (hf:∀ b∈fp,lX X Z7 H b)
    {W:Nat->Nat->List V->Hp->Prop} {m0:Nat} (w0:W 0 m0 [] H)
    (turn:∀ i m xs H,W i m xs H->xs.length<=1000000 /\
      ((J.stop i H/\∀ p,H p=none->Q (.ref p) (Z8 H p (.lst xs))) \/
       (J.go i H/\∀ y H',J.yld i H y H'->tc (some y::aY fr σ) H' fun b H2=>if b=true then te (some y::aY fr σ) H2 (fun z H3=>∃ m',m' < m/\W (i+1) m' (xs++[z]) H3) else ∃ m',m' < m/\W (i+1) m' xs H2)))
    (fin:∀(D C:Addr) (s':Shared) (m':q0C) (H':Hp),s'.heap.Ns C m'->lX X Z7 H' C->(∀ h',Heap.SameBut C s'.heap h'->Z9 X Z7 σ H' {s' with heap:=h'})->Q (.ref D) H'->RR (.ref D) C (.ok .next) s') :
    wpAny (model X.prog X.w) X.A (newList []) (fun acc s₃=>wpAny (model X.prog X.w) X.A (newFunctionEnv sc X.env.globals cl [] X.env.qual none .none (some X.env)) (fun abD s₄ =>
      codeAny (model X.prog X.w) X.A (.compStart (.ListComp elt [⟨.Name x px,iter,ifs,0⟩] sc pos) 0 (.ref it) acc {abD with scope:=relabel sc X.env}) (RR acc abD.locals) s₄) E s₃) E s:=by
  refine wpAny_newObj_type (wpAny_newFunctionEnv S.vP (by intro y hy;simp at hy) (fun h₁ aaU aaP=>?_) S.kind);dsimp only at aaU aaP ⊢;generalize hH2:s.heap.push {cls:=.type "list",dict:=none,data:=.seq ([]:List Value).toArray}=G2 at aaU aaP ⊢;have hCs:G2.objs.size=s.heap.objs.size+1:=by rw[<- hH2,Heap.size_push]
  have hDC:s.heap.objs.size≠G2.objs.size:=by rw[hCs];exact Nat.ne_of_lt (Nat.lt_succ_self _)
  have hC:s.heap.objs.size<=G2.objs.size:=by rw[hCs];exact Nat.le_succ _
  have below:∀ b,b < s.heap.objs.size->b≠G2.objs.size:=fun b hb=>by rw[hCs];exact Nat.ne_of_lt (Nat.lt_succ_of_lt hb)
  have old:∀ b o,s.heap.get? b=some o->h₁.get? b=some o:=fun b o e=>aaP.extBut b o (below b (Heap.lt_size e)) (Heap.get?_push_of_some _ (hH2▸Heap.get?_push_of_some _ e));have hD1:h₁.get? s.heap.objs.size=some {cls:=.type "list",data:=.seq ([]:List Value).toArray 0}:=aaP.extBut _ _ hDC (Heap.get?_push_of_some _ (hH2▸Heap.get?_push_size _ rfl));have hfo:∀ b∈fp,b < s.heap.objs.size:=fun b hbm=>by
    obtain⟨o,e,_⟩:=T.obj 0 s.heap st b hbm;exact Heap.lt_size e
  have hDn:H s.heap.objs.size=none:=I.hok.fresh (Nat.le_refl _)
  -- what stays true of the made list's place
  have ab8:s.heap.objs.size∉frs X.stack:=fun hm=>by
    rcases List.mem_cons.mp (I.r8 _ hm) with z|z
    · exact absurd I.lt (by rw[<- z];exact Nat.lt_irrefl _)
    · exact I.Wa (Nat.le_refl _) z
  have abC:∀ y c,cl.lookup y=some c->c≠s.heap.objs.size:=fun y c e z=>by
    obtain⟨v,q⟩:=I.cell y c (S.sub y c e);exact absurd q.lt (by rw[z];exact Nat.lt_irrefl _)
  have ab7:∀ p∈X.pn++Z7,p.1≠s.heap.objs.size:=fun p hp z=>absurd (Heap.lt_size (I.pin p hp).1) (by rw[z];exact Nat.lt_irrefl _);have Dfp:s.heap.objs.size∉fp:=fun hm=>Nat.lt_irrefl _ (hfo _ hm);have loop:∀ s₃:Shared,s₃={s with heap:=h₁,toks:=s.toks+([]:List (Str×Value)).length} ->
      codeAny (model X.prog X.w) X.A (.compLoop (.ListComp elt [⟨.Name x px,iter,ifs,0⟩] sc pos) 0 (.ref it) (.ref s.heap.objs.size) (compEnvC sc cl G2.objs.size X.env)) (RR (.ref s.heap.objs.size) G2.objs.size) s₃:=by
    rintro s₃ rfl;have I0:Z9 (bO X sc cl G2.objs.size N s H fp (X.pn++Z7)) [] (none::aY fr σ) H {s with heap:=h₁,toks:=s.toks+([]:List (Str×Value)).length}:=Nt I S hf hfo hC aaU old;refine w9 (fun n s'=>∃(i:Nat) (xs:List V) (vals:List Value) (k:Nat) (v0:Option V) (H':Hp),Z9 (bO X sc cl G2.objs.size N s H fp (X.pn++Z7)) [] (v0::aY fr σ) H' s'/\tn i s'.heap/\(∀ b∈fp,H' b=none) /\
      s'.heap.get? s.heap.objs.size=some {cls:=.type "list",data:=.seq vals.toArray k}/\Vals xs vals/\H' s.heap.objs.size=none/\W i n xs H') ?_ m0
      ⟨0,[],[],0,none,H,I0,T.keep _ _ _ st fun b _ o e=>old b o e,fun b hb=>(hf b hb).1,hD1,.nil,hDn,w0⟩
    rintro n s1 ⟨i,xs,vals,k,v0,H1,I1,st1,fr1,hg1,rv1,acA,w1⟩;have hlen:=rv1.length;obtain⟨hz,step⟩:=turn i n xs H1 w1;have hz2:xs.length<=sizeLine:=Nat.le_trans hz (by decide);have aaN:∀ {H':Hp} {pl:List (Addr×Obj)},(∀ b∈fp,H' b=none)->(∀ p∈pl,p.1=s.heap.objs.size)->∀ b∈fp,lX (bO X sc cl G2.objs.size N s H fp (X.pn++Z7)) pl H' b:=fun {H' pl} hn hpl b hb =>
      ⟨hn b hb,below b (hfo b hb),nostk I (hf b hb).2.1 (hf b hb).2.2.1,.inl hb,fun y c e=>(hf b hb).2.2.2.2.1 y c (S.sub y c e),fun p hp z=>by
        rcases List.mem_append.mp hp with q|q
        · exact(hf b hb).2.2.2.2.2 p q z
        · exact Dfp (by rw[<- hpl p q,z];exact hb)⟩
    have I1':Z9 (bO X sc cl G2.objs.size N s H fp (X.pn++Z7)) [(s.heap.objs.size,{cls:=.type "list",data:=.seq vals.toArray k})] (v0::aY fr σ) H1 s1:=I1.kS fun p hp=>by
      have e:p=(s.heap.objs.size,{cls:=.type "list",data:=.seq vals.toArray k}):=by simpa using hp
      subst e;exact⟨hg1,acA,hDC,ab8,fun v z=>by cases z⟩
    rcases step with⟨stop,hq⟩|⟨go,step⟩
    · refine thn (T.done (bO X sc cl G2.objs.size N s H fp (X.pn++Z7)) rfl rfl rfl hc i [(s.heap.objs.size,{cls:=.type "list",data:=.seq vals.toArray k})] s1 _ H1 _ I1' (aaN fr1 fun p hp=>by
        have e:p=(s.heap.objs.size,{cls:=.type "list",data:=.seq vals.toArray k}):=by simpa using hp
        rw[e]) st1 stop) fun r s2 ⟨hr,I2⟩=>?_
      subst hr;obtain⟨g2,n2,_⟩:=I2.pin (s.heap.objs.size,{cls:=.type "list",data:=.seq vals.toArray k}) (List.mem_append_right _ (by simp));obtain⟨m2,hn2,_⟩:=I2.loc;have hCn:Z8 H1 s.heap.objs.size (.lst xs) G2.objs.size=none:=by
        rw[aG (Ne.symm hDC)];exact I2.free
      exact fin s.heap.objs.size G2.objs.size s2 m2 _ hn2 (I.Cd hC hCn) (fun h' hs'=>Fn I hf I2 hC (Nat.le_refl _) hDC n2 g2 rv1 hz2 hs') (hq _ n2)
    · refine thn (T.item (bO X sc cl G2.objs.size N s H fp (X.pn++Z7)) rfl rfl rfl hc i [(s.heap.objs.size,{cls:=.type "list",data:=.seq vals.toArray k})] s1 _ H1 _ I1' (aaN fr1 fun p hp=>by
        have e:p=(s.heap.objs.size,{cls:=.type "list",data:=.seq vals.toArray k}):=by simpa using hp
        rw[e]) st1 go) fun r s2 ⟨u,hr,h2⟩=>?_
      subst hr;refine thn h2 fun _ s3 ⟨y,H3,I3,r3,y3,st3,fr3⟩=>?_;have I3':=I3.pinned (aaN fr3 fun p hp=>by
        have e:p=(s.heap.objs.size,{cls:=.type "list",data:=.seq vals.toArray k}):=by simpa using hp
        rw[e]) (T.obj _ _ st3)
      -- what the Z7 say again behind each part
      have back:∀ {σ9:St} {H9:Hp} {s9:Shared},Z9 (bO X sc cl G2.objs.size N s H fp (X.pn++Z7)) ([(s.heap.objs.size,{cls:=.type "list",data:=.seq vals.toArray k})]++v9 fp s3.heap) σ9 H9 s9 ->
          tn (i+1) s9.heap/\(∀ b∈fp,H9 b=none)/\s9.heap.get? s.heap.objs.size=some {cls:=.type "list",data:=.seq vals.toArray k}/\H9 s.heap.objs.size=none:=fun {σ9 H9 s9} I9=>by
        refine⟨T.keep _ _ _ st3 fun b hb o e=>(I9.pin (b,o) (List.mem_append_right _ (List.mem_append_right _ (gS hb e)))).1,fun b hb=>?_,?_⟩
        · obtain⟨o,e,d⟩:=T.obj _ _ st3 b hb;exact(I9.pin (b,o) (List.mem_append_right _ (List.mem_append_right _ (gS hb e)))).2.1
        · obtain⟨a1,a2,_⟩:=I9.pin (s.heap.objs.size,{cls:=.type "list",data:=.seq vals.toArray k}) (List.mem_append_right _ (List.mem_append_left _ (by simp)));exact⟨a1,a2⟩
      have hN0:(bO X sc cl G2.objs.size N s H fp (X.pn++Z7)).N[0]?=some x:=by
        show N[0]?=some x;rw[S.N0];rfl
      have abH:(relabel sc X.env).names.lookup x=some .local:=lookup_relabel_local S.tgt;have hpg:PG (bO X sc cl G2.objs.size N s H fp (X.pn++Z7)) (.Name x px) (sS 0):=gK (i:=0) S.nd hN0 (.inl abH) (.inr abH);have noX:∀ e s',(bO X sc cl G2.objs.size N s H fp (X.pn++Z7)).xe e s'->xM X.prog X.w X.A (compEnvC sc cl G2.objs.size X.env) (RR (.ref s.heap.objs.size) G2.objs.size) e s':=fun e s' z=>(hx e s' z).elim;have abJ:=step y H3 y3;refine wpAny_mono (hpg _ s3 _ H3 y u (fun σ' H'=>σ'=some y::aY fr σ/\H'=H3) I3' r3 ⟨rfl,rfl⟩) (fun _ s4 ⟨σ4,H4,I4,e4,e4'⟩=>?_) noX;subst e4 e4';obtain⟨hbT,hbE⟩:=hb G2.objs.size s H fp (X.pn++Z7);refine wpAny_mono (hbT _ s4 _ H4 _ I4 abJ) (fun ok s5 ⟨H5,I5,q5⟩=>?_) noX;cases ok with
      | false =>
        rw[if_neg Bool.false_ne_true];have q5':∃ m',m' < n/\W (i+1) m' xs H5:=q5;obtain⟨m',hm,w5⟩:=q5';obtain⟨b1,b2,b3,b4⟩:=back I5;exact⟨m',hm,i+1,xs,vals,k,some y,H5,I5.kS (fun p hp=>absurd hp (by simp)),b1,b2,b3,rv1,b4,w5⟩
      | true =>
        rw[if_pos rfl];refine wpAny_mono (hbE _ s5 _ H5 _ I5 q5) (fun z s6 ⟨v6,H6,I6,r6,q6⟩=>?_) noX;obtain⟨m',hm,w6⟩:=q6;obtain⟨b1,b2,b3,b4⟩:=back I6;refine call_meets F.slot_list_append ⟨_,b3,rfl⟩ F.entry_list_append (F.args_list_append_2 _ _) (PySem.list_append s.heap.objs.size vals.toArray k z (by rw[List.size_toArray];omega)) ⟨b3,?_⟩;have q7:=PySem.IsL.update b3 (fun a:Array Value=>a.push z);have abI:vals.toArray.push z=(vals++[z]).toArray:=by simp
        rw[abI] at q7;have I6':Z9 (bO X sc cl G2.objs.size N s H fp (X.pn++Z7)) [] (some y::aY fr σ) H6 s6:=I6.kS (fun p hp=>absurd hp (by simp));have others:∀ b o,b≠s.heap.objs.size->s6.heap.get? b=some o->(s6.heap.update s.heap.objs.size (Obj.mapSeq fun a=>a.push z)).get? b=some o:=fun b o hb' e=>(Heap.get?_update_other _ _ (Ne.symm hb')).trans e;refine⟨m',hm,i+1,xs++[v6],vals++[z],_,some y,H6,I6'.turned (it:=s.heap.objs.size) others b4 hDC (.inr (Nat.le_refl _)) abC (fun p hp z'=>?_),T.keep _ _ _ b1 fun b hb' o e=>others b o (fun z'=>Dfp (by rw[<- z'];exact hb')) e,b2,q7,rv1.append (.cons r6 .nil),b4,w6⟩;have hp':p∈X.pn++Z7:=by
          have z2:p∈(X.pn++Z7)++[]:=hp;simpa using z2
        exact ab7 p hp' z'
  exact codeAny_compStart_list (loop _ rfl) (T.self _ _ _ _ _ (T.keep _ _ _ st fun b _ o e=>old b o e) (loop _ rfl))
def kR(hc:X.calm=true)(hx:∀ e s,¬ X.xe e s)(S:c5 X sc cl x fr N)(hi:PI X (.Name x px) iter wi)
    (hb:∀ C s H ex pn,PTs (bO X sc cl C N s H ex pn) ifs tc/\PE (bO X sc cl C N s H ex pn) elt te)
    (hs:∀ v,foldedSetIterable iter X.env v=pure v:=by intro _;rfl):PE X (.ListComp elt [⟨.Name x px,iter,ifs,0⟩] sc pos) (j9 wi fr tc te):=by
  intro Z7 s σ H Q I h;unfold j9 at h;rw[eval_ListComp];refine wpAny_comprehension_free (use:=none) rfl hs S.DQ S.kind S.names ?_;refine thn (hi Z7 s σ H _ I h) fun v s1 h1=>thn h1 fun itv s2 h2=>?_;obtain⟨it,fp,tn,J,H2,e,I2,T,st2,f2,W,⟨m0,w0⟩,turn⟩:=h2;subst e;refine zX (RR:=fun acc C=>compPost (model X.prog X.w) X.A X.xe none (EP X Z7 σ Q) acc C) hc hx S hb I2 T st2 f2 w0 turn ?_;intro D C s' m' H' hn _ abG q;exact⟨m',hn,fun h' hs'=>⟨.ref D,H',abG h' hs',rfl,q⟩⟩
end
def c5.cX{X:Cx}{sc:Scope}{x:Str}(kind:sc.kind=.function)(nc:(sc.names.all fun y=>y.2 !=.cell&&y.2 !=.free)=true)
    (nm:(sc.names.all fun y=>!(y.2==.local)||sc.names.lookup y.1==some .local)=true) (tgt:sc.names.lookup x=some .local):c5 X sc [] x [] [x] where
  kind:=kind
  vP:=fun y hy e=>by
    have h:=List.all_eq_true.mp nc y hy;rw[e] at h;exact absurd h (by decide)
  names:=fun y hy e=>by
    have h:=List.all_eq_true.mp nm y hy;rw[e] at h;simpa using h
  DQ:=closureFor_none fun y hy e=>by
    have h:=List.all_eq_true.mp nc y hy;rw[e] at h;exact absurd h (by decide)
  sub:=fun y c h=>by cases h
  has:=fun y h=>by
    exfalso;have key:∀ l:List (Str×NameKind),(l.all fun y=>y.2 !=.cell&&y.2 !=.free)=true->∀ k,(l.map fun(n,k)=>if (k==NameKind.free&&X.env.scope.kind==.function&&X.env.kindOf n==some .cell) then (n,NameKind.cell) else (n,k)).lookup y=some k->k≠.cell/\k≠.free:=by
      intro l
      induction l with
      | nil=>intro _ k e;cases e
      | cons p r ih =>
        obtain⟨n,kk⟩:=p;intro ha k e;rw[List.all_cons,Bool.and_eq_true,Bool.and_eq_true] at ha;obtain⟨⟨h1,h2⟩,h3⟩:=ha;have h2':(kk==NameKind.free)=false:=by simpa using h2
        rw[List.map_cons] at e;dsimp only at e;rw[h2',Bool.false_and,Bool.false_and,if_neg Bool.false_ne_true,List.lookup_cons] at e;cases q:(y==n) with
        | true =>
          rw[q] at e;have e':kk=k:=Option.some.inj e;subst e';exact⟨by simpa using h1,by simpa using h2⟩
        | false =>
          rw[q] at e;exact ih h3 k e
    rcases h with h|h
    · exact(key sc.names nc _ h).1 rfl
    · exact(key sc.names nc _ h).2 rfl
  tgt:=tgt
  nd:=by simp
  N0:=rfl
  frc:=fun j hj=>by cases hj
section
variable {X:Cx}
def Mc:iW X (compareOp .LtE) (fun x y H Q=>∃ i j,x=.str i/\y=.str j/\Q (.bl (!decide (j.cps.toList < i.cps.toList))) H):=by
 intro Z7 s σ H x y v u Q I rx ry h;obtain⟨i,j,rfl,rfl,q⟩:=h;obtain⟨t,rfl⟩:=rx;obtain⟨t',rfl⟩:=ry;exact PySem.P.le_str (bU I q rfl)
def Ww:Qv X (fun x lo hi H Q=>∃ z,x=.str z/\z.length<=sizeLine/\Q (.str (Txt.slice z lo hi)) H):=by
 intro Z7 s σ H x v vl vu lo hi sl Q I rx hs pl pu h;obtain⟨z,rfl,hz,q⟩:=h;obtain⟨t,rfl⟩:=rx;have fin:∀ t' k,EP X Z7 σ Q (.str (Txt.slice z lo hi) t') {s with toks:=k}:=fun t' k=>⟨.str _,H,I.tok _,⟨_,rfl⟩,q⟩;refine⟨"str",_,F.slot_str_getitem.lookup,typeIs_str s z t,?_⟩;cases pl with
 | none =>
  cases pu with
  | none=>exact wpAny_getItem_str_slice (l:=none) (u:=none) (st:=none) hs rfl (post_val_or_str ⟨Nat.le_trans (Txt.slice_le z _ _) hz,fin⟩)
  | int j uj=>exact wpAny_getItem_str_slice (l:=none) (u:=some (j,uj)) (st:=none) hs rfl (post_val_or_str ⟨Nat.le_trans (Txt.slice_le z _ _) hz,fin⟩)
 | int i ui =>
  cases pu with
  | none=>exact wpAny_getItem_str_slice (l:=some (i,ui)) (u:=none) (st:=none) hs rfl (post_val_or_str ⟨Nat.le_trans (Txt.slice_le z _ _) hz,fin⟩)
  | int j uj=>exact wpAny_getItem_str_slice (l:=some (i,ui)) (u:=some (j,uj)) (st:=none) hs rfl (post_val_or_str ⟨Nat.le_trans (Txt.slice_le z _ _) hz,fin⟩)
def Nq(hc:X.calm=true):dG X (.builtin "all") (fun xs H Q=>∃(p:Addr) (bs:List Bool),xs=[.ref p]/\dR X.K H p (bs.map V.bl)/\Q (.bl (bs.all id)) H):=by
 intro Z7 s σ H xs us Q I r h;obtain⟨p,bs,rfl,hq,q⟩:=h;obtain⟨u,rfl,ru⟩:=vals1 r;cases ru;obtain⟨its,rv,pl,hz⟩:=I.list hq;have hl:=rv.length;rw[List.length_map] at hl;have plL:=pl.isList;have hlt:p < s.heap.objs.size:=by obtain⟨_,e,_⟩:=plL;exact Heap.lt_size e
 refine call_all_walk (wpAny_pyIter_list plL ?_);refine⟨s.heap.objs.size,[s.heap.objs.size,p],[s.heap.objs.size],its.toArray.size,_,_,fun i=>(bs[i]?).getD true,rfl,Walks.list (A:=X.A.in1) (I.ok.hd hc) _ p (Nat.ne_of_lt hlt) its.toArray,
  ⟨⟨_,Heap.get?_push_size _ rfl,rfl,rfl⟩,plL.push _⟩,fun i v s' Q' E' hP hQ=>?_,fun h' tk hk=>?_⟩
 ·have hP':its[i]?=some v:=by simpa using hP
  have hi:i < its.length:=(List.getElem?_eq_some_iff.mp hP').1;have e1:bs[i]?=some bs[i]:=List.getElem?_eq_getElem (by omega);obtain⟨u1,g1,s1⟩:=rv.get (i:=i) (x:=V.bl bs[i]) (by rw[List.getElem?_map,e1]<;>rfl);rw[hP'] at g1;cases g1;cases s1;simp only[e1,Option.getD_some] at hQ;exact wpAny_truthy_bool hQ
 ·have e:((List.range its.toArray.size).all fun i=>(bs[i]?).getD true)=bs.all id:=by
   rw[List.size_toArray,<- hl];rw[Bool.eq_iff_iff,List.all_eq_true,List.all_eq_true];constructor
   ·intro h x hx;obtain⟨i,hi,e⟩:=List.getElem_of_mem hx;have:=h i (List.mem_range.mpr hi);rw[List.getElem?_eq_getElem hi,Option.getD_some,e] at this;exact this
   ·intro h i hi;have hi':=List.mem_range.mp hi;rw[List.getElem?_eq_getElem hi',Option.getD_some];exact h _ (List.getElem_mem hi')
  rw[e];exact⟨.bl (bs.all id),H,I.kept (fun b o eb=>hk b o (fun hm=>by rw[List.mem_singleton.mp hm] at eb;exact Nat.lt_irrefl _ (Heap.lt_size eb)) (Heap.get?_push_of_some _ eb)),rfl,q⟩
end
def Its(x:Str):It:=⟨fun i _=>i < x.cps.size,fun i H y H'=>H'=H/\∃ c,x.cps[i]?=some c/\y=.str ⟨#[c]⟩,fun i _=>x.cps.size<=i⟩
def Hv{P:Program}{w:World}{K:q0B}{tg:Expr}{T:String}(hT:T = "str_ascii_iterator"\/T = "str_iterator")(x:Str)(t:Tok)(it:Addr) :
    Turn P w K tg (Its x) [it] it (fun i h=>i<=x.cps.size/\h.IsStrIter it T x t i) where
  mem:=by simp
  obj:=fun i h st b hb=>by
    have e:b=it:=by simpa using hb
    subst e;obtain⟨o,e,c,d⟩:=st.2;exact⟨o,e,fun v z=>by rw[d] at z;cases z⟩
  keep:=fun i h h' st k=>⟨st.1,let ⟨o,e,r⟩:=st.2;⟨o,k it (by simp) o e,r⟩⟩
  item:=by
    intro X hP hw hK hc i Z7 s σ H E I hf st hg;subst hP hw hK;obtain⟨f0,f1,f2,f3,f4,f5⟩:=hf it (by simp);have W:Walks X.prog X.w X.A it [it] [it] x.cps.size (SignAt x) (fun i h=>h.IsStrIter it T x t i):=by
      rcases hT with e|e
      · subst e;exact Walks.strAscii (I.ok.hd hc) it x t
      · subst e;exact Walks.strWide (I.ok.hd hc) it x t
    refine W.item i s _ _ hg st.2 fun v h' tk hv st' kk=>?_;obtain⟨c,u,hcx,rfl⟩:=hv;have I1:Z9 X Z7 σ H {s with heap:=h',toks:=tk}:=I.turned (fun b o hb e=>kk b o (by simpa using hb) e) f0 f1 f3 f4 f5;obtain⟨o,eo,co,d⟩:=id st';have hn:["enumerate","zip","dict_itemiterator","dict_reverseitemiterator","odict_iterator","itertools.zip_longest","itertools.pairwise"].contains T=false:=by
      rcases hT with e|e<;>subst e<;>decide
    exact⟨_,rfl,FP (s:={s with heap:=h',toks:=tk}) (n:=T) eo co d hn ⟨.str ⟨#[c]⟩,H,I1,⟨_,rfl⟩,⟨rfl,c,hcx,rfl⟩,⟨hg,st'⟩,fun b hb=>(hf b hb).1⟩⟩
  done:=by
    intro X hP hw hK hc i Z7 s σ H E I hf st hg;subst hP hw hK;obtain⟨f0,f1,f2,f3,f4,f5⟩:=hf it (by simp);have W:Walks X.prog X.w X.A it [it] [it] x.cps.size (SignAt x) (fun i h=>h.IsStrIter it T x t i):=by
      rcases hT with e|e
      · subst e;exact Walks.strAscii (I.ok.hd hc) it x t
      · subst e;exact Walks.strWide (I.ok.hd hc) it x t
    have ei:i=x.cps.size:=Nat.le_antisymm st.1 hg;subst ei;exact W.done s _ _ st.2 fun h' tk kk=>⟨rfl,I.turned (fun b o hb e=>kk b o (by simpa using hb) e) f0 f1 f3 f4 f5⟩
  self:=fun A i s Q E st h=>by
    rcases hT with e|e
    · subst e;exact wpAny_pyIter_striter_ascii st.2 h
    · subst e;exact wpAny_pyIter_striter_wide st.2 h
section
variable {X:Cx} {tg:Expr}
def VQ(tl:TE):TI:=fun σ H R=>tl σ H fun x H1=>∃ z,x=.str z/\R (Its z) H1
def Pg{l:Expr}{tl:TE}(hl:PE X l tl):PI X tg l (VQ tl):=by
 intro Z7 s σ H R I h;refine thn (hl Z7 s σ H _ I h) fun v s1 ⟨x,H1,I1,r1,q1⟩=>?_;obtain⟨z,e,q⟩:=q1;subst e;obtain⟨t,rfl⟩:=r1;cases ha:z.cps.all (· < 128) with
 | true =>
  refine wpAny_pyIter_ascii ha ⟨s1.heap.objs.size,[s1.heap.objs.size],_,_,H1,rfl,I1.kept (t':=s1.toks) fun b o e=>Heap.get?_push_of_some _ e,Hv (.inl rfl) z t _,⟨Nat.zero_le _,_,Heap.get?_push_size _ rfl,rfl,rfl⟩,fun b hb=>?_,q⟩;have e:b=s1.heap.objs.size:=by simpa using hb
  subst e;exact I1.Cd (Nat.le_refl _) (I1.hok.fresh (Nat.le_refl _))
 | false =>
  refine wpAny_pyIter_wide ha ⟨s1.heap.objs.size,[s1.heap.objs.size],_,_,H1,rfl,I1.kept (t':=s1.toks) fun b o e=>Heap.get?_push_of_some _ e,Hv (.inr rfl) z t _,⟨Nat.zero_le _,_,Heap.get?_push_size _ rfl,rfl,rfl⟩,fun b hb=>?_,q⟩;have e:b=s1.heap.objs.size:=by simpa using hb
  subst e;exact I1.Cd (Nat.le_refl _) (I1.hok.fresh (Nat.le_refl _))
end
def cW(n:Nat)(Pv:Nat->List V->Hp->Prop)(i m:Nat)(xs:List V)(H:Hp):Prop:=m=n - i/\i<=n/\Pv i xs H
def cW.next{n:Nat}{Pv:Nat->List V->Hp->Prop}{i:Nat}{xs:List V}{H:Hp}(hi:i < n)(p:Pv (i+1) xs H):∃ m',m' < n - i/\cW n Pv (i+1) m' xs H:=⟨n - (i+1),by omega,rfl,hi,p⟩
section
variable {fr:List Nat} {tc:TT} {te:TE} {σ:St} {H:Hp} {Q:VK}
def Li{K:q0B}{a:Addr}{ys:List V}(Pv:Nat->List V->Hp->Prop)(h0:Pv 0 [] H)(hz:∀ i xs H,Pv i xs H->xs.length<=1000000)(hl:∀ i xs H,Pv i xs H->dR K H a ys)
    (hs:∀ i y xs H,i < ys.length->ys[i]?=some y->Pv i xs H->tc (some y::aY fr σ) H fun b H2=>if b=true then te (some y::aY fr σ) H2 (fun z H3=>∃ m',m' < ys.length - i/\cW ys.length Pv (i+1) m' (xs++[z]) H3) else ∃ m',m' < ys.length - i/\cW ys.length Pv (i+1) m' xs H2)
    (hd:∀ xs H,Pv ys.length xs H->∀ p,H p=none->Q (.ref p) (Z8 H p (.lst xs))) :
    ∃ W:Nat->Nat->List V->Hp->Prop,(∃ m,W 0 m [] H)/\∀ i m xs H,W i m xs H->xs.length<=1000000 /\
      (((Itl K a).stop i H/\∀ p,H p=none->Q (.ref p) (Z8 H p (.lst xs))) \/
       ((Itl K a).go i H/\∀ y H',(Itl K a).yld i H y H'->tc (some y::aY fr σ) H' fun b H2=>if b=true then te (some y::aY fr σ) H2 (fun z H3=>∃ m',m' < m/\W (i+1) m' (xs++[z]) H3) else ∃ m',m' < m/\W (i+1) m' xs H2)):=by
  refine⟨cW ys.length Pv,⟨ys.length,by simp,Nat.zero_le _,h0⟩,?_⟩;rintro i m xs H ⟨rfl,hi,p⟩;refine⟨hz i xs H p,?_⟩;have q:=hl i xs H p;by_cases hlt:i < ys.length
  · refine .inr ⟨⟨ys,ys[i],q,by simp[hlt]⟩,fun y H' yy=>?_⟩;obtain⟨e,yy⟩:=yy;subst e;exact hs i y xs _ hlt (yy ys q) p
  · have e:i=ys.length:=by omega
    subst e;exact .inl ⟨⟨ys,q,Nat.le_refl _⟩,hd xs H p⟩
def Nv{x:Str}(Pv:Nat->List V->Hp->Prop)(h0:Pv 0 [] H)(hz:∀ i xs H,Pv i xs H->xs.length<=1000000)
    (hs:∀ i c xs H,i < x.cps.size->x.cps[i]?=some c->Pv i xs H->tc (some (.str ⟨#[c]⟩)::aY fr σ) H fun b H2=>if b=true then te (some (.str ⟨#[c]⟩)::aY fr σ) H2 (fun z H3=>∃ m',m' < x.cps.size - i/\cW x.cps.size Pv (i+1) m' (xs++[z]) H3) else ∃ m',m' < x.cps.size - i/\cW x.cps.size Pv (i+1) m' xs H2)
    (hd:∀ xs H,Pv x.cps.size xs H->∀ p,H p=none->Q (.ref p) (Z8 H p (.lst xs))) :
    ∃ W:Nat->Nat->List V->Hp->Prop,(∃ m,W 0 m [] H)/\∀ i m xs H,W i m xs H->xs.length<=1000000 /\
      (((Its x).stop i H/\∀ p,H p=none->Q (.ref p) (Z8 H p (.lst xs))) \/
       ((Its x).go i H/\∀ y H',(Its x).yld i H y H'->tc (some y::aY fr σ) H' fun b H2=>if b=true then te (some y::aY fr σ) H2 (fun z H3=>∃ m',m' < m/\W (i+1) m' (xs++[z]) H3) else ∃ m',m' < m/\W (i+1) m' xs H2)):=by
  refine⟨cW x.cps.size Pv,⟨x.cps.size,by simp,Nat.zero_le _,h0⟩,?_⟩;rintro i m xs H ⟨rfl,hi,p⟩;refine⟨hz i xs H p,?_⟩;by_cases hlt:i < x.cps.size
  · refine .inr ⟨hlt,fun y H' yy=>?_⟩;obtain⟨e,c,hc,rfl⟩:=yy;subst e;exact hs i c xs _ hlt hc p
  · have e:i=x.cps.size:=by omega
    subst e;exact .inl ⟨Nat.le_refl _,hd xs H p⟩
end
section
variable {fr:List Nat} {tc:TT} {te:TE} {σ:St} {H H1:Hp} {Q:VK}
end
def AZ{l:List (Str×NameKind)}{y:Str}{k:NameKind}(h:l.lookup y=some k):(y,k)∈l:=PySem.mem_of_lookup h
def c5.free{X:Cx}{sc:Scope}{cl:List (Str×Addr)}{x:Str}{fr:List Nat}{N:List Str}(kind:sc.kind=.function)(nc:(sc.names.all fun y=>y.2 !=.cell)=true)
    (nm:(sc.names.all fun y=>!(y.2==.local)||sc.names.lookup y.1==some .local)=true) (tgt:sc.names.lookup x=some .local) (DQ:closureFor sc X.env=pure cl)
    (sub:∀ y c,cl.lookup y=some c->X.env.cells.lookup y=some c) (has:((relabel sc X.env).names.all fun y=>(y.2 !=.cell&&y.2 !=.free)||(cl.lookup y.1).isSome)=true)
    (nd:N.Nodup) (N0:N=x::fr.map fun j=>X.N.getD j x) (frc:∀ j∈fr,∃ y,X.N[j]?=some y/\X.env.kindOf y=some .cell/\((relabel sc X.env).names.lookup y=some .cell\/(relabel sc X.env).names.lookup y=some .free)):c5 X sc cl x fr N where
  kind:=kind
  vP:=fun y hy e=>by
    have h:=List.all_eq_true.mp nc y hy;rw[e] at h;exact absurd h (by decide)
  names:=fun y hy e=>by
    have h:=List.all_eq_true.mp nm y hy;rw[e] at h;simpa using h
  DQ:=DQ
  sub:=sub
  has:=fun y h=>by
    have key:∀ k,(relabel sc X.env).names.lookup y=some k->(k=.cell\/k=.free)->∃ c,cl.lookup y=some c:=fun k e hk=>by
      have h:=List.all_eq_true.mp has (y,k) (AZ e);rcases hk with rfl|rfl
      · exact Option.isSome_iff_exists.mp (by simpa using h)
      · exact Option.isSome_iff_exists.mp (by simpa using h)
    rcases h with h|h
    · exact key _ h (.inl rfl)
    · exact key _ h (.inr rfl)
  tgt:=tgt
  nd:=nd
  N0:=N0
  frc:=frc
section
variable {X:Cx} {sc:Scope} {cl:List (Str×Addr)} {x:Str} {fr:List Nat} {N:List Str} {elt iter:Expr} {px pos:Pos} {ifs:List Expr} {wi:TI} {tc:TT} {te:TE}
def jZ{i:Nat}{y:Str}{py adB:Pos}(hc:X.calm=true)(hx:∀ e s,¬ X.xe e s)(S:c5 X sc cl x fr N)(hi:PI X (.Name x px) iter wi)
    (hb:∀ C s H ex pn,PTs (bO X sc cl C N s H ex pn) ifs tc/\PE (bO X sc cl C N s H ex pn) elt te)
    (hN:X.N.Nodup) (hy:X.N[i]?=some y) (hl:Loc X.env.scope y) (hsw:swapsWith (.ListComp elt [⟨.Name x px,iter,ifs,0⟩] sc pos) (some (.Name y py)) adB.line X.env=pure true:=by rfl)
    (hs:∀ v,foldedSetIterable iter X.env v=pure v:=by intro _;rfl) (hf:X.fn y=true\/X.env.scope.names.lookup y=some .local:=by first|exact .inl rfl|exact .inr rfl|assumption) :
    PS X (.Assign [.Name y py] (.ListComp elt [⟨.Name x px,iter,ifs,0⟩] sc pos) adB) (S3 (j9 wi fr tc te) (sS i)):=by
  intro Z7 s σ H D I h;have h:j9 wi fr tc te σ H (fun x H1=>sS i x σ H1 D.nx):=h;unfold j9 at h;rw[exec_Assign_Name_used _ _ _ _ hsw];refine wpAny_bind (wpAny_standAt (wpAny_bind ?_));show wpAny _ X.A (do let _ <- comprehension (.ListComp elt [⟨.Name x px,iter,ifs,0⟩] sc pos) sc X.env _ (newList []) false (eval iter X.env) (some (assign (.Name y py) X.env))) _ _ s;refine wpAny_bind (wpAny_mono (wpAny_comprehension_free (use:=some (assign (.Name y py) X.env)) (Q:=fun _ s'=>SP X Z7 D .next s') rfl hs S.DQ S.kind S.names
    (thn (hi Z7 s σ H _ I h) fun v s1 h1=>thn h1 fun itv s2 h2=>?_)) (fun _ s' hq=>wpAny_pure (wpAny_pure hq)) fun _ _ e=>e)
  obtain⟨it,fp,tn,J,H2,e,I2,T,st2,f2,W,⟨m0,w0⟩,turn⟩:=h2;subst e;refine zX (Q:=fun x H1=>sS i x σ H1 D.nx) (RR:=fun acc C=>compPost (model X.prog X.w) X.A X.xe (some (assign (.Name y py) X.env)) (fun _ s'=>SP X Z7 D .next s') acc C) hc hx S hb I2 T st2 f2 w0 turn ?_;intro D' C s' m' H' hn fC abG q;show wpAny _ X.A (assign (.Name y py) X.env (.ref D')) _ _ _;have I':Z9 X Z7 σ H' s':=abG s'.heap (Heap.SameBut.refl ..);refine wpAny_assign_Name (Ds (v:=.ref D') I' hN hy hl rfl (fun s'' I'' ⟨a,hsa,ha⟩=>?_) hf);obtain⟨f0,f1,f2',f3,f4,f5⟩:=fC;have hCa:C≠a:=fun z=>by
    rcases ha with ha|ha
    · exact f1 (z.trans ha)
    · exact f4 y a ha z.symm
  refine⟨m',hn.sameBut hsa hCa,fun h' hs'=>?_⟩;exact⟨σ.set i (some (.ref D')),H',I''.turned (t':=s''.toks) (fun b o hb' e=>(hs'.2 b hb').trans e) f0 f1 f3 f4 f5,q⟩
end
section
variable {prog:Program} {w:World} {A:Around} {E:q0A} {s:Shared}
end
section
variable {σ:St} {H:Hp} {Q:VK} {i j:Int} {x y:Str} {v:V} {n:Nat} {a:Addr}
def Ui:kA 0 (some v::σ) H Q=Q v H:=by simp[kA]
def w8{o:Option V}:kA (n+1) (o::σ) H Q=kA n σ H Q:=by simp[kA]
def YJ{o0:Option V}:kA 1 (o0::some v::σ) H Q=Q v H:=(w8.trans Ui)
def YL{o0 o1:Option V}:kA 2 (o0::o1::some v::σ) H Q=Q v H:=(w8.trans YJ)
def YM{o0 o1 o2:Option V}:kA 3 (o0::o1::o2::some v::σ) H Q=Q v H:=(w8.trans YL)
def YN{o0 o1 o2 o3:Option V}:kA 4 (o0::o1::o2::o3::some v::σ) H Q=Q v H:=(w8.trans YM)
def YO{o0 o1 o2 o3 o4:Option V}:kA 5 (o0::o1::o2::o3::o4::some v::σ) H Q=Q v H:=(w8.trans YN)
def YQ{o0 o1 o2 o3 o4 o5:Option V}:kA 6 (o0::o1::o2::o3::o4::o5::some v::σ) H Q=Q v H:=(w8.trans YO)
def YR{o0 o1 o2 o3 o4 o5 o6:Option V}:kA 7 (o0::o1::o2::o3::o4::o5::o6::some v::σ) H Q=Q v H:=(w8.trans YQ)
def YS{o0 o1 o2 o3 o4 o5 o6 o7:Option V}:kA 8 (o0::o1::o2::o3::o4::o5::o6::o7::some v::σ) H Q=Q v H:=(w8.trans YR)
def YT{o0 o1 o2 o3 o4 o5 o6 o7 o8:Option V}:kA 9 (o0::o1::o2::o3::o4::o5::o6::o7::o8::some v::σ) H Q=Q v H:=(w8.trans YS)
def Uj{o0 o1 o2 o3 o4 o5 o6 o7 o8 o9:Option V}:kA 10 (o0::o1::o2::o3::o4::o5::o6::o7::o8::o9::some v::σ) H Q=Q v H:=(w8.trans YT)
def Uk{o0 o1 o2 o3 o4 o5 o6 o7 o8 o9 o10:Option V}:kA 11 (o0::o1::o2::o3::o4::o5::o6::o7::o8::o9::o10::some v::σ) H Q=Q v H:=(w8.trans Uj)
def Ul{o0 o1 o2 o3 o4 o5 o6 o7 o8 o9 o10 o11:Option V}:kA 12 (o0::o1::o2::o3::o4::o5::o6::o7::o8::o9::o10::o11::some v::σ) H Q=Q v H:=(w8.trans Uk)
def YK{o0 o1 o2 o3 o4 o5 o6 o7 o8 o9 o10 o11 o12:Option V}:kA 13 (o0::o1::o2::o3::o4::o5::o6::o7::o8::o9::o10::o11::o12::some v::σ) H Q=Q v H:=(w8.trans Ul)
def OJ{α β:Type}{f:α->β}{a:α}{l:List α}:List.map f (a::l)=f a::List.map f l:=rfl
def TK{α β:Type}{f:α->β}:List.map f []=[]:=rfl
def ZO{C:Int->Int->Prop}{g:Int->Int->V}:rI C g (.int i) (.int j) H Q=(C i j/\Q (g i j) H):=by simp[rI]
def YI{g:Int->Int->V}:Qs g (.int i) (.int j) H Q=Q (g i j) H:=by simp[Qs]
def ZP{g:Int->V}:rU g (.int i) H Q=Q (g i) H:=by simp[rU]
def w_lit(h:Nat.ble n 1000=true):(n<=sizeLine)=True:=eq_true (Nat.le_of_lt (small1000 (Nat.le_of_ble_eq_true h)))
def YE:Sw (.int i) (.int j) H Q=Q (.bl (decide (i=j))) H:=by simp only[Sw,show scal (.int i) (.int j)=true from rfl,V.int.injEq,true_and]
def YF:Sw (.str x) (.str y) H Q=Q (.bl (decide (x=y))) H:=by simp only[Sw,show scal (.str x) (.str y)=true from rfl,V.str.injEq,true_and]
def YG:Ys (.int i) (.int j) H Q=Q (.bl (!decide (i=j))) H:=by simp only[Ys,show scal (.int i) (.int j)=true from rfl,V.int.injEq,true_and]
def YH:Ys (.str x) (.str y) H Q=Q (.bl (!decide (x=y))) H:=by simp only[Ys,show scal (.str x) (.str y)=true from rfl,V.str.injEq,true_and]
end
def kE{a b:String}:(Str.ofString a=Str.ofString b)=(a=b):=by
 refine propext ⟨fun h=>?_,fun h=>by rw[h]⟩;rw[Str.ofString_eq_toList,Str.ofString_eq_toList] at h;have e:(a.toList.map Char.toNat)=(b.toList.map Char.toNat):=by
  have:=congrArg (fun z:Str=>z.cps.toList) h;simpa using this
 have inj:∀ x y:Char,x.toNat=y.toNat->x=y:=fun x y q=>Char.ext (UInt32.toNat_inj.mp q);have:=(List.map_inj_right (f:=Char.toNat) (fun x y q=>inj x y q)).mp e;exact String.toList_inj.mp this
def Kp(S:List Addr)(H H':Hp):Prop:=∀ b o,H b=some o->b∉S->H' b=some o
section
variable {S T:List Addr} {H H1 H2:Hp} {a p:Addr} {o:HO}
def Kp.refl:Kp S H H:=fun _ _ h _=>h
def Kp.trans(x:Kp S H H1)(y:Kp S H1 H2):Kp S H H2:=fun b o h n=>y b o (x b o h n) n
def Kp.mono(x:Kp S H H1)(h:∀ b∈S,b∈T):Kp T H H1:=fun b o e n=>x b o e fun z=>n (h b z)
def Kp.new(h:H p=none):Kp S H (Z8 H p o):=fun b u e _=>by rw[aG (aL e h)];exact e
def q0D(h:H p=none):Kp [] H (Z8 H p o):=Kp.new h
def Kp.set(h:p∈S):Kp S H (Z8 H p o):=fun b u e n=>by rw[aG (show b≠p from fun z=>n (by rw[z];exact h))];exact e
def Kp.at(x:Kp S H H1)(e:H a=some o)(n:a∉S:=by first|exact List.not_mem_nil|simp_all):H1 a=some o:=x a o e n
def Kp.same(x:Kp [] H H1):Same H H1:=fun b o e=>x b o e (by simp)
def Kp.of(x:Same H H1):Kp S H H1:=fun b o e _=>x b o e
def Kp.drop(x:Kp (p::S) H H1)(h:H p=none):Kp S H H1:=fun b o e n=>x b o e (by
 simp only[List.mem_cons,not_or];exact⟨aL e h,n⟩)
end
abbrev Tg{α:Type}(_:α):Type:=Unit
def gM{α:Type}(o:Option α)(k:α->Prop)(_u:Tg k:=()):Prop:=match o with
 | some x=>k x
 | none=>False
def Qr(x:V)(k:Bool->Prop)(_u:Tg k:=()):Prop:=match x with
 | .bl b=>k b
 | _=>False
def dP(o:Option HO)(k:List V->Prop)(_u:Tg k:=()):Prop:=match o with
 | some (.lst xs)=>k xs
 | _=>False
def qN(o:Option HO)(k:List V->Prop)(_u:Tg k:=()):Prop:=match o with
 | some (.lst xs)=>k xs
 | some (.tup xs)=>k xs
 | _=>False
def cY(o:Option HO)(k:List (Key×V)->Prop)(_u:Tg k:=()):Prop:=match o with
 | some (.dK xs)=>k xs
 | _=>False
def bC(x:V)(k:Addr->Prop)(_u:Tg k:=()):Prop:=match x with
 | .ref p=>k p
 | _=>False
def eR(x:V)(k:Int->Prop)(_u:Tg k:=()):Prop:=match x with
 | .int i=>k i
 | _=>False
def cZ{α:Type}{o:Option α}{k:α->Prop}(h:gM o k):∃ x,o=some x/\k x:=by
 cases o with
 | none=>exact h.elim
 | some x=>exact⟨x,rfl,h⟩
def Wd{x:V}{k:Bool->Prop}(h:Qr x k):∃ b,x=.bl b/\k b:=by
 cases x with
 | bl b=>exact⟨b,rfl,h⟩
 | _=>exact h.elim
def vY{x:V}{k:Bool->Prop}:(∃ b,x=.bl b/\k b)=Qr x k:=by
 refine propext ⟨fun⟨b,e,h⟩=>by subst e;exact h,Wd⟩
def aT{x:V}{k:Addr->Prop}(h:bC x k):∃ b,x=.ref b/\k b:=by
 cases x with
 | ref b=>exact⟨b,rfl,h⟩
 | _=>exact h.elim
def c8{x:V}{k:Int->Prop}(h:eR x k):∃ b,x=.int b/\k b:=by
 cases x with
 | int b=>exact⟨b,rfl,h⟩
 | _=>exact h.elim
def eE{o:Option HO}{k:List V->Prop}(h:dP o k):∃ xs,o=some (.lst xs)/\k xs:=by
 unfold dP at h;split at h
 ·exact⟨_,rfl,h⟩
 ·exact h.elim
def tL{o:Option HO}{k:List V->Prop}(h:qN o k):∃ xs,(o=some (.lst xs)\/o=some (.tup xs))/\k xs:=by
 unfold qN at h;split at h
 ·exact⟨_,.inl rfl,h⟩
 ·exact⟨_,.inr rfl,h⟩
 ·exact h.elim
def c7{o:Option HO}{k:List (Key×V)->Prop}(h:cY o k):∃ xs,o=some (.dK xs)/\k xs:=by
 unfold cY at h;split at h
 ·exact⟨_,rfl,h⟩
 ·exact h.elim
def Zb:R2:=fun x y H Q=>match x with
 | .ref p=>qN (H p) fun xs=>eR y fun i=>gM (kY xs i) fun v=>Q v H
 | .str z=>eR y fun i=>z.length<=sizeLine/\gM (kY z.cps.toList i) fun c=>Q (.str ⟨#[c]⟩) H
 | _=>False
def QG(H:Hp)(Q:VK)(a:Addr)(oa ob:Option HO):Prop:=match oa,ob with
 | some (.lst xs),some (.lst ys)=>xs.length+ys.length<=sizeLine/\∀ p,H p=none->Q (.ref p) (Z8 H p (.lst (xs++ys)))
 | some (.tup xs),some (.tup ys)=>xs≠[]/\xs.length+ys.length<=sizeLine/\(ys≠[]->∀ p,H p=none->Q (.ref p) (Z8 H p (.tup (xs++ys))))/\(ys=[]->Q (.ref a) H)
 | _,_=>False
def M9:R2:=fun x y H Q=>match x,y with
 | .int i,.int j=>Q (.int (i+j)) H
 | .str a,.str b=>a.length+b.length<=sizeLine/\Q (.str (a++b)) H
 | .ref a,.ref b=>QG H Q a (H a) (H b)
 | _,_=>False
def Nb(lo hi:Option Int)(H:Hp)(Q:VK)(o:Option HO):Prop:=match o with
 | some (.lst xs)=>∀ p,H p=none->Q (.ref p) (Z8 H p (.lst (mC xs lo hi)))
 | some (.tup xs)=>¬ (HT.fX xs.length 0 lo=0/\HT.fX xs.length xs.length hi=xs.length)/\∀ p,H p=none->Q (.ref p) (Z8 H p (.tup (mC xs lo hi)))
 | _=>False
def YU:V->Option Int->Option Int->Hp->VK->Prop:=fun x lo hi H Q=>match x with
 | .str z=>z.length<=sizeLine/\Q (.str (Txt.slice z lo hi)) H
 | .ref a=>Nb lo hi H Q (H a)
 | _=>False
def QJ:List V->Hp->VK->Prop:=fun vs H Q=>match vs with
 | [.str z]=>z.length<=sizeLine/\Q (.int z.length) H
 | [.ref p]=>qN (H p) fun xs=>Q (.int xs.length) H
 | _=>False
def Xh:V->V->V->Hp->(Hp->Prop)->Prop:=fun o i v H Q=>bC o fun p=>eR i fun k=>dP (H p) fun xs=>gM (HA xs.length k) fun j=>Q (Z8 H p (.lst (xs.set j v)))
def kI:V->Option Key
 | .int i=>some (.inl i)
 | .str x=>some (.inr x)
 | .non=>some .no
 | _=>none
def Ec{y:V}{k:Key}(h:kI y=some k):y=kV k:=by
 cases y<;>simp only[kI,Option.some.injEq,reduceCtorEq] at h<;>subst h<;>rfl
def Ti(td ty:TE):TE:=fun σ H Q=>td σ H fun x H1=>bC x fun a=>cY (H1 a) fun _=>ty σ H1 fun y H2=>cY (H2 a) fun kvs=>gM (kI y) fun k=>Q ((cC kvs k).getD .non) H2
def Xa(td ty:TE):TE:=fun σ H Q=>td σ H fun x H1=>ty σ H1 fun y H2=>bC x fun a=>cY (H2 a) fun kvs=>gM (kI y) fun k=>gM (cC kvs k) fun v=>Q v H2
def Xg(td ty tv:TE):TS:=fun D σ H=>tv σ H fun v H1=>td σ H1 fun x H2=>ty σ H2 fun y H3=>bC x fun a=>cY (H3 a) fun kvs=>gM (kI y) fun k=>kvs.length < sizeLine/\D.nx σ (Z8 H3 a (.dK (eL kvs k v)))
def Za(neg:Bool):R2:=fun x y H Q=>bC y fun p=>qN (H p) fun xs=>dC x=true/\xs.all dC=true/\Q (.bl (if neg=true then !sW x xs else sW x xs)) H
def QI:List V->Hp->VK->Prop:=fun vs H Q=>match vs with
 | [.int i]=>Q (.int i) H
 | [.bl k]=>Q (.int (if k=true then 1 else 0)) H
 | _=>False
def Uy:R2:=fun x y H Q=>match y with
 | .non=>Q (.bl (decide (x=.non))) H
 | _=>False
def Ts:R2:=fun x y H Q=>match y with
 | .non=>Q (.bl (!decide (x=.non))) H
 | _=>False
def Uz:List V->Hp->VK->Prop:=fun vs H Q=>match vs with
 | [.int i,.int j]=>Q (.int (if j > i then j else i)) H
 | _=>False
def UA:List V->Hp->VK->Prop:=fun vs H Q=>match vs with
 | [.int i,.int j]=>Q (.int (if j < i then j else i)) H
 | _=>False
def YV(v:V)(T:String):Option Bool:=match v with
 | .int _=>if T = "int" then some true else if T = "bool"\/T = "str"\/T = "tuple" then some false else none
 | .bl _=>if T = "int"\/T = "bool" then some true else if T = "str"\/T = "tuple" then some false else none
 | .str _=>if T = "str" then some true else if T = "int"\/T = "bool"\/T = "tuple" then some false else none
 | .non=>if T = "int"\/T = "bool"\/T = "str"\/T = "tuple" then some false else none
 | _=>none
def Il(o:Option HO)(T:String):Option Bool:=match o with
 | some (.lst _)=>if T = "int"\/T = "bool"\/T = "str"\/T = "tuple" then some false else none
 | some (.tup _)=>if T = "tuple" then some true else if T = "int"\/T = "bool"\/T = "str" then some false else none
 | some (.dK _)=>if T = "int"\/T = "bool"\/T = "str" then some false else none
 | _=>none
def Fg:List V->Hp->VK->Prop:=fun vs H Q=>match vs with
 | [.ref p,.ty T]=>gM (Il (H p) T) fun b=>Q (.bl b) H
 | [v,.ty T]=>gM (YV v T) fun b=>Q (.bl b) H
 | _=>False
def VY{K:q0B}{H:Hp}{v:V}{T:String}{b:Bool}(h:YV v T=some b):sA K H v T b:=by
 unfold YV at h;split at h
 all_goals (repeat' split at h)
 all_goals first
  | cases h
  | skip
 all_goals first
  | (subst_vars;constructor)
  | (rename_i q;rcases q with rfl|rfl<;>constructor)
  | (rename_i q _;rcases q with rfl|rfl<;>constructor)
  | (rename_i q;rcases q with rfl|rfl|rfl<;>constructor)
  | (rename_i q;rcases q with rfl|rfl|rfl|rfl<;>constructor)
def RN{K:q0B}{H:Hp}{p:Addr}{T:String}{b:Bool}(h:Il (H p) T=some b):sA K H (.ref p) T b:=by
 unfold Il at h;split at h
 ·rename_i xs e
  have q:dR K H p xs:=.inl (.inl e);split at h
  ·cases h
   rename_i z
   rcases z with rfl|rfl|rfl|rfl
   ·exact .li q
   ·exact .lb q
   ·exact .ls q
   ·exact .lt q
  ·cases h
 ·rename_i xs e
  have q:fA K H p xs:=.inl (.inl e);split at h
  ·cases h
   subst_vars
   exact .tt q
  ·split at h
   ·cases h
    rename_i z
    rcases z with rfl|rfl|rfl
    ·exact .ti q
    ·exact .tb q
    ·exact .ts q
   ·cases h
 ·rename_i kvs e
  split at h
  ·cases h
   rename_i z
   rcases z with rfl|rfl|rfl
   ·exact .di e
   ·exact .db e
   ·exact .ds e
  ·cases h
 ·cases h
def WZ(to te:TE):TE:=fun σ H Q=>to σ H fun x H1=>bC x fun a=>dP (H1 a) fun _=>te σ H1 fun y H2=>dP (H2 a) fun xs=>xs.length < sizeLine/\Q .non (Z8 H2 a (.lst (xs++[y])))
def Xf(to:TE):TE:=fun σ H Q=>to σ H fun x H1=>bC x fun a=>dP (H1 a) fun xs=>gM (xs[xs.length - 1]?) fun y=>Q y (Z8 H1 a (.lst xs.dropLast))
section
variable {X:Cx}
def KI.imp{r r':R2}(h:KI X r)(f:∀ x y H Q,r' x y H Q->r x y H Q):KI X r':=fun value slice Z7 s σ H x y v u Q I rx ry q=>h value slice Z7 s σ H x y v u Q I rx ry (f _ _ _ _ q)
def iW.imp{f:Value->Value->Sem Value}{r r':R2}(h:iW X f r)(g:∀ x y H Q,r' x y H Q->r x y H Q):iW X f r':=fun Z7 s σ H x y v u Q I rx ry q=>h Z7 s σ H x y v u Q I rx ry (g _ _ _ _ q)
def bP:KI X Zb:=VU.imp fun x y H Q h=>by
 cases x with
 | ref p =>
  obtain⟨xs,e,h⟩:=tL h;obtain⟨i,rfl,h⟩:=c8 h;obtain⟨v,e2,h⟩:=cZ h;rcases e with e|e
  ·exact .inl ⟨_,_,_,_,rfl,rfl,.inl (.inl e),e2,h⟩
  ·exact .inr (.inl ⟨_,_,_,_,rfl,rfl,.inl (.inl e),e2,h⟩)
 | str z =>
  obtain⟨i,rfl,h1,h⟩:=c8 h;obtain⟨v,e2,h⟩:=cZ h;exact .inr (.inr ⟨_,_,_,rfl,rfl,h1,e2,h⟩)
 | _=>exact h.elim
def dJ:iW X (binaryOp .Add) M9:=(Wf.or (IP.or (Wg.or Kd))).imp fun x y H Q h=>by
 unfold M9 QG at h;split at h
 ·exact .inl ⟨_,_,rfl,rfl,h⟩
 ·exact .inr (.inl ⟨_,_,rfl,rfl,h.1,h.2⟩)
 ·split at h
  ·exact .inr (.inr (.inl ⟨_,_,_,_,rfl,rfl,‹_›,‹_›,h.1,h.2⟩))
  ·exact .inr (.inr (.inr ⟨_,_,_,_,rfl,rfl,.inl (.inl ‹_›),.inl (.inl ‹_›),h.1,h.2.1,h.2.2.2,h.2.2.1⟩))
  ·exact h.elim
 ·exact h.elim
def Cw:Qv X YU:=fun Z7 s σ H x v vl vu lo hi sl Q I rx hs pl pu h=>by
 refine(EN.or (Wx.or Ww)) Z7 s σ H x v vl vu lo hi sl Q I rx hs pl pu ?_;unfold YU Nb at h;split at h
 ·exact .inr (.inr ⟨_,rfl,h.1,h.2⟩)
 ·split at h
  ·exact .inl ⟨_,_,rfl,.inl (.inl ‹_›),h⟩
  ·exact .inr (.inl ⟨_,_,rfl,.inl (.inl ‹_›),h.1,h.2⟩)
  ·exact h.elim
 ·exact h.elim
def eU:dG X (.builtin "len") QJ:=fun Z7 s σ H xs us Q I r h=>by
 unfold QJ at h;split at h
 ·exact zV Z7 s σ H _ us Q I r ⟨_,_,rfl,⟨h.1,rfl⟩,h.2⟩
 ·obtain⟨ys,e,h⟩:=tL h;rcases e with e|e
  ·exact zV Z7 s σ H _ us Q I r ⟨_,_,rfl,.inl ⟨_,.inl (.inl e),rfl⟩,h⟩
  ·exact zV Z7 s σ H _ us Q I r ⟨_,_,rfl,.inr ⟨_,.inl (.inl e),rfl⟩,h⟩
 ·exact h.elim
def Kl:PSet X Xh:=fun Z7 s σ H o i v ov iv u Q I ro ri rv h=>by
 obtain⟨p,rfl,h⟩:=aT h;obtain⟨k,rfl,h⟩:=c8 h;obtain⟨xs,e,h⟩:=eE h;obtain⟨j,e2,h⟩:=cZ h;exact PF Z7 s σ H _ _ v ov iv u Q I ro ri rv ⟨_,_,_,_,rfl,rfl,e,e2,h⟩
def IQ:iW X (compareOp .In) (Za false):=Ma.imp fun x y H Q h=>by
 obtain⟨p,rfl,h⟩:=aT h;obtain⟨xs,e,h1,h2,h⟩:=tL h;exact⟨_,_,rfl,e.imp (fun e=>.inl (.inl e)) (fun e=>.inl (.inl e)),h1,h2,h⟩
def Dk:iW X (compareOp .NotIn) (Za true):=tN.imp fun x y H Q h=>by
 obtain⟨p,rfl,h⟩:=aT h;obtain⟨xs,e,h1,h2,h⟩:=tL h;exact⟨_,_,rfl,e.imp (fun e=>.inl (.inl e)) (fun e=>.inl (.inl e)),h1,h2,h⟩
def CL:dG X (.type "int") QI:=fun Z7 s σ H xs us Q I r h=>by
 refine La Z7 s σ H xs us Q I r ?_;unfold QI at h;split at h
 ·exact .inl ⟨_,rfl,h⟩
 ·exact .inr ⟨_,rfl,by
   rename_i k
   cases k<;>exact h⟩
 ·exact h.elim
def mN:iW X (compareOp .Is) Uy:=Wi.imp fun x y H Q h=>by
 cases y with
 | non=>exact⟨rfl,h⟩
 | _=>exact h.elim
def Mb:iW X (compareOp .IsNot) Ts:=Sh.imp fun x y H Q h=>by
 cases y with
 | non=>exact⟨rfl,h⟩
 | _=>exact h.elim
def pR(hc:X.calm=true):dG X (.builtin "max") Uz:=fun Z7 s σ H xs us Q I r h=>by
 refine Le hc Z7 s σ H xs us Q I r ?_;unfold Uz at h;split at h
 ·exact⟨_,_,rfl,h⟩
 ·exact h.elim
def CN(hc:X.calm=true):dG X (.builtin "min") UA:=fun Z7 s σ H xs us Q I r h=>by
 refine Lf hc Z7 s σ H xs us Q I r ?_;unfold UA at h;split at h
 ·exact⟨_,_,rfl,h⟩
 ·exact h.elim
def Lb:dG X (.builtin "isinstance") Fg:=fun Z7 s σ H xs us Q I r h=>by
 refine Nr Z7 s σ H xs us Q I r ?_;unfold Fg at h;split at h
 ·obtain⟨b,e,h⟩:=cZ h;exact⟨_,_,b,rfl,RN e,h⟩
 ·obtain⟨b,e,h⟩:=cZ h;exact⟨_,_,b,rfl,VY e,h⟩
 ·exact h.elim
variable {o e:Expr} {to te:TE} {apos aaA:Pos}
def tO(ho:PE X o to)(he:PE X e te)(aaG:attributeBase o "append" X.env (eval o X.env)=eval o X.env:=by rfl)
    (abF:((backTo aaA (starEach [e] X.env)).all (fun x=>!x.1)&&(backToKw aaA (keywordEach [] X.env)).all (fun x=>x.1.isSome)
     &&decide ([e].length+([]:List Keyword).length+(if ([]:List Keyword).isEmpty then 0 else 1) < 30))=true:=by rfl)
    (aaH:(apos.endLine==aaA.line)=true:=by rfl) (hs:starEach [e] X.env=(false,eval e X.env)::starEach [] X.env:=by rfl) (aaM:(backTo aaA (starEach [] X.env)).any (·.1)=false:=by rfl) :
    PE X (.Call (.Attribute o "append" apos) [e] [] aaA) (WZ to te):=by
  intro Z7 s σ H Q I h;refine wpAny_Call_method_late aaG abF aaH rfl (thn (ho Z7 s σ H _ I h) fun v s1 ⟨x,H1,I1,r1,q1⟩=>?_);obtain⟨a,rfl,q1⟩:=aT q1;obtain⟨xs,e1,q1⟩:=eE q1;obtain⟨h1,h2⟩:=E2 (T:="list") I1 r1 (.inl ⟨rfl,xs,.inl (.inl e1)⟩);refine⟨"list","list.append",PySem.F.plainAttrs_list,PySem.F.slot_list_append,PySem.F.type_list_append,h1,h2,?_⟩;have q2:Hq te Jm σ H1 (fun vs H2=>vs.length=1/\dP (H2 a) fun xs=>xs.length < sizeLine/\Q .non (Z8 H2 a (.lst (xs++vs)))):=by
    simpa only[Hq,Jm,List.length_cons,List.length_nil,Nat.zero_add,true_and] using q1
  have hA:=Ke he aB hs aaA Z7 s1 σ H1 _ I1 q2;rw[hs] at hA ⊢;refine Calls.callWith_builtin (by show(false||(backTo aaA (starEach [] X.env)).any (·.1))=false;rw[aaM]<;>rfl) (Calls.evalArgs_plain ?_);refine thn hA fun us s2 ⟨vs,H2,I2,r2,l2,q3⟩=>?_;obtain⟨xs,e3,q4,q5⟩:=eE q3
  match vs,l2,r2,q5 with
  | [y],_,r2,q5=>exact LV Z7 s2 σ H2 _ _ v us Q I2 r1 r2 ⟨_,_,_,rfl,rfl,e3,q4,q5⟩
def Et(ho:PE X o to)(aaG:attributeBase o "pop" X.env (eval o X.env)=eval o X.env:=by rfl)(aaH:(apos.endLine==aaA.line)=true:=by rfl):PE X (.Call (.Attribute o "pop" apos) [] [] aaA) (Xf to):=by
 intro Z7 s σ H Q I h;refine wpAny_Call_method0_late aaG aaH (thn (ho Z7 s σ H _ I h) fun v s1 ⟨x,H1,I1,r1,q1⟩=>?_);obtain⟨a,rfl,q1⟩:=aT q1;obtain⟨xs,e1,q1⟩:=eE q1;obtain⟨y,e2,q1⟩:=cZ q1;obtain⟨h1,h2⟩:=E2 (T:="list") I1 r1 (.inl ⟨rfl,xs,.inl (.inl e1)⟩);exact⟨"list","list.pop",PySem.F.plainAttrs_list,PySem.F.slot_list_pop,PySem.F.type_list_pop,h1,h2,Calls.callWith_builtin rfl (PySem.evalArgs_none (V7 Z7 s1 σ H1 _ [] v [] Q I1 r1 .nil ⟨_,_,_,rfl,rfl,e1,e2,q1⟩))⟩
end
section
variable {X:Cx} {o i e value:Expr} {pos pos' apos aaA:Pos} {td ty tv:TE}
def Ep(hu:X.A.units+1 < cLine)(ho:PE X o td)(he:PE X e ty)(m:M1 X o "get" apos e aaA):PE X (.Call (.Attribute o "get" apos) [e] [] aaA) (Ti td ty):=by
 intro Z7 s σ H Q I h;refine wpAny_Call_method m.base m.few m.line PySem.F.plainAttrs_dict PySem.F.slot_dict_get PySem.F.type_dict_get (thn (ho Z7 s σ H _ I h) fun u s1 ⟨x,H1,I1,rx,q1⟩=>?_);obtain⟨a,rfl,q1⟩:=aT q1;obtain⟨kvs,e1,q1⟩:=c7 q1;obtain rfl:u=Value.ref a:=rx;obtain⟨t1,t2,_⟩:=vB I1 (.inl ⟨_,.inl e1⟩);refine⟨t1,t2,?_⟩;rw[m.trees];refine Calls.callWith_builtin rfl (Calls.evalArgs_plain (Calls.spliced_cons (thn (he Z7 s1 σ H1 _ I1 q1) fun iv s2 ⟨y,H2,I2,ry,q2⟩=>Calls.spliced_nil ?_)));obtain⟨kvs,e1,q2⟩:=c7 q2;obtain⟨k,e2,q2⟩:=cZ q2;have g:DGet H2 a y (cC kvs k):=by rw[Ec e2];exact DGet.k e1
 exact UC hu I2 g ry fun w' s3 I3 rw'=>⟨_,H2,I3,rw',q2⟩
def tP(hu:X.A.units+1 < cLine)(ho:PE X o td)(hi:PE X i ty)(hs:Up i):PE X (.Subscript o i pos) (Xa td ty):=by
 intro Z7 s σ H Q I h;refine Ks PySem.F.slot_dict_getitem.lookup hs (thn (ho Z7 s σ H _ I h) fun u s1 ⟨x,H1,I1,rx,q1⟩=>thn (hi Z7 s1 σ H1 _ I1 q1) fun iv s2 ⟨y,H2,I2,ry,q2⟩=>?_);obtain⟨a,rfl,q2⟩:=aT q2;obtain⟨kvs,e1,q2⟩:=c7 q2;obtain⟨k,e2,q2⟩:=cZ q2;obtain⟨v,e3,q2⟩:=cZ q2;obtain rfl:u=Value.ref a:=rx;have g:DGet H2 a y (some v):=by rw[Ec e2,<- e3];exact DGet.k e1
 exact⟨xB I2 g,Lk hu I2 g ry fun w' s3 I3 rw'=>⟨v,H2,I3,rw',q2⟩⟩
def mO(hu:X.A.units+1 < cLine)(ho:PE X o td)(hi:PE X i ty)(hv:PE X value tv)(hs:swapsWith value (some (.Subscript o i pos')) pos.line X.env=pure false:=by rfl) :
    PS X (.Assign [.Subscript o i pos'] value pos) (Xg td ty tv):=by
  intro Z7 s σ H D I h;refine wpAny_Assign_Subscript (thn (hv Z7 s σ H _ I h) fun r s1 ⟨v,H1,I1,rv,q1⟩=>thn (ho Z7 s1 σ H1 _ I1 q1) fun u s2 ⟨x,H2,I2,rx,q2⟩=>thn (hi Z7 s2 σ H2 _ I2 q2) fun iv s3 ⟨y,H3,I3,ry,q3⟩=>?_) hs;obtain⟨a,rfl,q3⟩:=aT q3;obtain⟨kvs,e1,q3⟩:=c7 q3;obtain⟨k,e2,q3⟩:=cZ q3;obtain rfl:u=Value.ref a:=rx;have g:DPut H3 a y v (Z8 H3 a (.dK (eL kvs k v))):=by rw[Ec e2];exact DPut.k e1 q3.1
  exact Ll hu I3 g ry rv fun s4 I4=>⟨σ,_,I4,q3.2⟩
end
section
variable {σ:St} {H:Hp} {Q:VK} {D:Ends} {t u:TS} {te ta tb tc to ti:TE} {tl th:TO} {g:TG} {gs:TGs} {tt tt':TT} {as:TA} {i j:Int} {n:Nat} {x y:Str} {v w:V} {vs:List V} {b:Bool} {p a:Addr} {r r':R2} {B:Bool->Hp->Prop} {K:q0B}
def XZ:S4 t u D σ H=t {D with nx:=u D} σ H:=rfl
def Xo:S3 te g D σ H=te σ H fun x H1=>g x σ H1 D.nx:=rfl
def Vr{N:St->Hp->Prop}:sS n v σ H N=N (σ.set n (some v)) H:=rfl
def XY:WL te D σ H=te σ H D.rt:=rfl
def XB:P8 tt t u D σ H=tt σ H fun b H1=>if b=true then t D σ H1 else u D σ H1:=rfl
def VC:Du te σ H B=te σ H fun x H'=>Qr x fun k=>B k H':=by simp only[Du,vY]
def Zp:tB te σ H B=te σ H fun x H'=>Qr x fun k=>B k H':=by simp only[tB,vY]
def Zi:ZU tt ta tb σ H Q=tt σ H fun c H1=>if c=true then ta σ H1 Q else tb σ H1 Q:=rfl
def Zm:WS r ta tb σ H Q=ta σ H fun x H1=>tb σ H1 fun y H2=>r x y H2 Q:=rfl
def Zq{q:V->Hp->VK->Prop}:ZY q ta σ H Q=ta σ H fun x H1=>q x H1 Q:=rfl
def Z1:tC v σ H Q=Q v H:=rfl
def UO{A:List V->Hp->Prop}:Hq te as σ H A=te σ H fun x H1=>as σ H1 fun xs H2=>A (x::xs) H2:=rfl
def XN{A:List V->Hp->Prop}:Jm σ H A=A [] H:=rfl
def UM{sp:Sp}{E:XK}:P4 sp [] E as σ H Q=as σ H fun vs H1=>sp vs H1 Q E:=by simp only[P4,List.append_nil]
def Zh{q:List V->Hp->VK->Prop}:ZM q as σ H Q=as σ H fun vs H1=>q vs H1 Q:=rfl
def XH:YA as σ H Q=as σ H fun xs H1=>xs.length<=sizeLine/\∀ p,H1 p=none->Q (.ref p) (Z8 H1 p (.lst xs)):=rfl
def X3:YC as σ H Q=as σ H fun xs H1=>xs.length<=sizeLine/\∀ p,H1 p=none->Q (.ref p) (Z8 H1 p (.tup xs)):=rfl
def UT:P5 σ H Q = ∀ p,H p=none->Q (.ref p) (Z8 H p (.dK [])):=rfl
def UU:P6 te D σ H=te σ H fun _ H1=>D.nx σ H1:=rfl
def Vs:Qa D σ H=D.nx σ H:=rfl
def UJ:P2 ta tb σ H Q=ta σ H fun x H1=>Qr x fun c=>if c=true then tb σ H1 Q else Q (.bl false) H1:=by simp only[P2,vY]
def XU:WK ta tb σ H Q=ta σ H fun x H1=>Qr x fun c=>if c=true then Q (.bl true) H1 else tb σ H1 Q:=by simp only[WK,vY]
def Vt:Qb ta σ H Q=ta σ H fun x H1=>Qr x fun c=>Q (.bl (!c)) H1:=by simp only[Qb,vY]
def Xm:Yy tt tt' σ H B=tt σ H fun c H1=>if c=true then tt' σ H1 B else B false H1:=rfl
def Zn:ZW tt tt' σ H B=tt σ H fun c H1=>if c=true then B true H1 else tt' σ H1 B:=rfl
def XO:YB tt σ H B=tt σ H fun c H1=>B (!c) H1:=rfl
def QQ:EY r r' ta tb tc σ H Q=ta σ H fun x H1=>tb σ H1 fun y H2=>r x y H2 fun z H3=>Qr z fun k=>if k=true then tc σ H3 fun w' H4=>r' y w' H4 Q else Q (.bl false) H3:=by simp only[EY,vY]
def Zo{q:V->Option Int->Option Int->Hp->VK->Prop}:ZX q te tl th σ H Q=te σ H fun x H1=>tl σ H1 fun l H2=>th σ H2 fun u H3=>q x l u H3 Q:=rfl
def O6{k:Int->Prop}:(∃ i,v=.int i/\k i)=eR v k:=propext ⟨fun⟨i,e,h⟩=>by subst e;exact h,c8⟩
def Vu{O:Option Int->Hp->Prop}:Qd te σ H O=te σ H fun x H1=>eR x fun i=>O (some i) H1:=by simp only[Qd,O6]
def NO{O:Option Int->Hp->Prop}:Kv σ H O=O none H:=rfl
def U9{s:TSet}{N:St->Hp->Prop}:X7 to ti s v σ H N=to σ H fun o H1=>ti σ H1 fun i H2=>s o i v H2 fun H3=>N σ H3:=rfl
def U8{N:St->Hp->Prop}:RD [] σ H N=N σ H:=by simp[RD]
def Q7{N:St->Hp->Prop}:JP g gs (v::vs) σ H N=g v σ H fun σ' H'=>gs vs σ' H' N:=propext ⟨fun⟨_,_,e,h⟩=>by cases e;exact h,fun h=>⟨_,_,rfl,h⟩⟩
def U2:Ti ta tb σ H Q=ta σ H fun x H1=>bC x fun a=>cY (H1 a) fun _=>tb σ H1 fun y H2=>cY (H2 a) fun kvs=>gM (kI y) fun k=>Q ((cC kvs k).getD .non) H2:=rfl
def XA:Xa ta tb σ H Q=ta σ H fun x H1=>tb σ H1 fun y H2=>bC x fun a=>cY (H2 a) fun kvs=>gM (kI y) fun k=>gM (cC kvs k) fun v=>Q v H2:=rfl
def XX:Xg ta tb tc D σ H=tc σ H fun v H1=>ta σ H1 fun x H2=>tb σ H2 fun y H3=>bC x fun a=>cY (H3 a) fun kvs=>gM (kI y) fun k=>kvs.length < sizeLine/\D.nx σ (Z8 H3 a (.dK (eL kvs k v))):=rfl
def Xn:WZ to te σ H Q=to σ H fun x H1=>bC x fun a=>dP (H1 a) fun _=>te σ H1 fun y H2=>dP (H2 a) fun xs=>xs.length < sizeLine/\Q .non (Z8 H2 a (.lst (xs++[y]))):=rfl
def XW:Xf to σ H Q=to σ H fun x H1=>bC x fun a=>dP (H1 a) fun xs=>gM (xs[xs.length - 1]?) fun y=>Q y (Z8 H1 a (.lst xs.dropLast)):=rfl
def XT{α:Type}{z:α}{k:α->Prop}{u:Tg k}:@gM _ (some z) k u=k z:=rfl
def XS{k:Bool->Prop}{u:Tg k}:@Qr (.bl b) k u=k b:=rfl
def Ri{k:Addr->Prop}{u:Tg k}:@bC (.ref p) k u=k p:=rfl
def Rg{k:Int->Prop}{u:Tg k}:@eR (.int i) k u=k i:=rfl
def Rh{k:List V->Prop}{u:Tg k}:@dP (some (.lst vs)) k u=k vs:=rfl
def NP{k:List V->Prop}{u:Tg k}:@qN (some (.lst vs)) k u=k vs:=rfl
def NQ{k:List V->Prop}{u:Tg k}:@qN (some (.tup vs)) k u=k vs:=rfl
def Rf{kvs:List (Key×V)}{k:List (Key×V)->Prop}{u:Tg k}:@cY (some (.dK kvs)) k u=k kvs:=rfl
def XE:Zb (.ref p) w H Q=qN (H p) fun xs=>eR w fun i=>gM (kY xs i) fun v=>Q v H:=rfl
def XF:Zb (.str x) w H Q=eR w fun i=>x.length<=sizeLine/\gM (kY x.cps.toList i) fun c=>Q (.str ⟨#[c]⟩) H:=rfl
def UG:M9 (.int i) (.int j) H Q=Q (.int (i+j)) H:=rfl
def UI:M9 (.str x) (.str y) H Q=(x.length+y.length<=sizeLine/\Q (.str (x++y)) H):=rfl
def UH:M9 (.ref a) (.ref p) H Q=QG H Q a (H a) (H p):=rfl
def UN{us:List V}:QG H Q a (some (.lst vs)) (some (.lst us))=(vs.length+us.length<=sizeLine/\∀ p,H p=none->Q (.ref p) (Z8 H p (.lst (vs++us)))):=rfl
def X2{lo hi:Option Int}:YU (.str x) lo hi H Q=(x.length<=sizeLine/\Q (.str (Txt.slice x lo hi)) H):=rfl
def X1{lo hi:Option Int}:YU (.ref a) lo hi H Q=Nb lo hi H Q (H a):=rfl
def UP{lo hi:Option Int}:Nb lo hi H Q (some (.lst vs)) = ∀ p,H p=none->Q (.ref p) (Z8 H p (.lst (mC vs lo hi))):=rfl
def Vn:QJ [.str x] H Q=(x.length<=sizeLine/\Q (.int x.length) H):=rfl
def Vm:QJ [.ref p] H Q=qN (H p) fun xs=>Q (.int xs.length) H:=rfl
def X0{N:Hp->Prop}:Xh (.ref p) (.int i) v H N=dP (H p) fun xs=>gM (HA xs.length i) fun j=>N (Z8 H p (.lst (xs.set j v))):=rfl
def Zj{neg:Bool}:Za neg v (.ref p) H Q=qN (H p) fun xs=>dC v=true/\xs.all dC=true/\Q (.bl (if neg=true then !sW v xs else sW v xs)) H:=rfl
def Vi:kI (.int i)=some (.inl i):=rfl
def Vk:kI (.str x)=some (.inr x):=rfl
def Vj:kI .non=some .no:=rfl
def JB{α:Type}{xs:List α}{k:Nat}:kY xs (OfNat.ofNat k)=xs[k]?:=by
 show kY xs ((k:Nat):Int)=xs[k]?;cases e:xs[k]? with
 | some z=>exact pN e
 | none =>
  have:=List.getElem?_eq_none_iff.mp e;unfold kY HA;rw[if_pos (by omega),if_neg (by omega)];rfl
def Xp{α:Type}{xs:List α}:kY xs 0=xs[0]?:=JB (k:=0)
def Xq{α:Type}{xs:List α}:kY xs 1=xs[1]?:=JB (k:=1)
def Xr{α:Type}{xs:List α}:kY xs 2=xs[2]?:=JB (k:=2)
def Xs{α:Type}{xs:List α}:kY xs 3=xs[3]?:=JB (k:=3)
def QR:CMul 2 j=True:=eq_true (.inl ⟨by decide,by decide⟩)
def QZ:CPow 10 9=True:=eq_true ⟨by decide,by decide,by decide⟩
def NJ:CPow 10 12=True:=eq_true ⟨by decide,by decide,by decide⟩
def NK:CPow 10 18=True:=eq_true ⟨by decide,by decide,by decide⟩
def Vg{m:Nat}:HA (m+1) 0=some 0:=by simp[HA]<;>omega
def Vc:QI [.int i] H Q=Q (.int i) H:=rfl
def Vb:QI [.bl b] H Q=Q (.int (if b=true then 1 else 0)) H:=rfl
def Zk:Uy v .non H Q=Q (.bl (decide (v=.non))) H:=by cases v<;>rfl
def Q8:Ts v .non H Q=Q (.bl (!decide (v=.non))) H:=by cases v<;>rfl
def XI:Uz [.int i,.int j] H Q=Q (.int (if j > i then j else i)) H:=rfl
def XJ:UA [.int i,.int j] H Q=Q (.int (if j < i then j else i)) H:=rfl
def B7:Fg [.ref p,.ty "int"] H Q=gM (Il (H p) "int") fun b=>Q (.bl b) H:=rfl
def Ar:Fg [.ref p,.ty "bool"] H Q=gM (Il (H p) "bool") fun b=>Q (.bl b) H:=rfl
def B9:Fg [(.str x),.ty "str"] H Q=Q (.bl true) H:=by simp[Fg,YV,gM]
def B8:Fg [.ref p,.ty "str"] H Q=gM (Il (H p) "str") fun b=>Q (.bl b) H:=rfl
def xY:Fg [.ref p,.ty "tuple"] H Q=gM (Il (H p) "tuple") fun b=>Q (.bl b) H:=rfl
def Xu{c:Prop}[Decidable c]{P R:Prop}:(if (decide c)=true then P else R)=if c then P else R:=by
 by_cases h:c<;>simp[h]
def Xv{c:Prop}[Decidable c]{P R:Prop}:(if (!decide c)=true then P else R)=if c then R else P:=by
 by_cases h:c<;>simp[h]
def Vf{P R:Prop}:(if true=true then P else R)=P:=by simp
def Ve{P R:Prop}:(if false=true then P else R)=R:=by simp
end
def Zr{a b:Prop}[Decidable a][Decidable b]{P R:Prop}:(if a then P else if b then P else R)=if a\/b then P else R:=by
 by_cases ha:a<;>by_cases hb:b<;>simp[ha,hb]
def Kp.at1{r a:Addr}{H H':Hp}{o:HO}(x:Kp [r] H H')(e:H a=some o)(n:a≠r):H' a=some o:=x a o e (by simpa using n)
def k8{xs:List V}{i:Int}{k:V->Prop}(h0:0<=i)(h1:i < (xs.length:Int))(q:∀ v∈xs,k v):gM (kY xs i) k:=by
 have hk:i.toNat < xs.length:=by omega
 have ek:i=((i.toNat:Nat):Int):=by omega
 have e:kY xs ((i.toNat:Nat):Int)=some xs[i.toNat]:=pN (List.getElem?_eq_getElem hk);rw[<- ek] at e;rw[e];exact q _ (List.getElem_mem hk)
def on1(vs:List V)(k:V->Prop)(_u:Tg k:=()):Prop:=match vs with
 | [v]=>k v
 | _=>False
def lp(J:It)(g:TG)(tb:TS)(D:Ends)(σ:St)(H:Hp):Prop:=∃ W:Nat->Nat->St->Hp->Prop,(∃ m,W 0 m σ H)/\∀ i m σ H,W i m σ H ->
 (J.stop i H/\D.nx σ H)\/(J.go i H/\∃ N:St->Hp->Prop,(∀ σ' H',N σ' H'->∃ m',m' < m/\W (i+1) m' σ' H')/\∀ x H',J.yld i H x H'->g x σ H' fun σ2 H2=>tb {D with nx:=N,ct:=N,bk:=D.nx} σ2 H2)
section
variable {σ:St} {H:Hp} {D:Ends} {g:TG} {tb:TS} {as:TA} {te:TE} {K:q0B} {v w:V}
def Wc{vs:List V}{k:V->Prop}:(∃ z,vs=[z]/\k z)=on1 vs k:=by
 refine propext ⟨fun⟨z,e,h⟩=>by subst e;exact h,fun h=>?_⟩;unfold on1 at h;split at h
 ·exact⟨_,rfl,h⟩
 ·exact h.elim
def XQ{k:V->Prop}{u:Tg k}:@on1 [v] k u=k v:=rfl
def Q5:BS (FV as) g tb D σ H=as σ H fun vs H1=>on1 vs fun v=>eR v fun j=>(-(2 ^ 62)<=j/\j < 2 ^ 62)/\lp (Itr 0 j.toNat) g tb D σ H1:=by
 unfold BS FV
 congr 1
 funext vs H1;refine propext ⟨fun⟨j,e,h1,h2,h⟩=>by subst e;exact⟨⟨h1,h2⟩,h⟩,fun h=>?_⟩;unfold on1 at h;split at h
 ·obtain⟨j,rfl,⟨h1,h2⟩,h⟩:=c8 h;exact⟨j,rfl,h1,h2,h⟩
 ·exact h.elim
def on2(vs:List V)(k:V->V->Prop)(_u:Tg k:=()):Prop:=match vs with
 | [v,w]=>k v w
 | _=>False
def XR{k:V->V->Prop}{u:Tg k}:@on2 [v,w] k u=k v w:=rfl
def Q6:BS (Ov as) g tb D σ H=as σ H fun vs H1=>on2 vs fun v w=>eR v fun i=>eR w fun j=>(-(2 ^ 62)<=i/\i < 2 ^ 62/\-(2 ^ 62)<=j/\j < 2 ^ 62)/\lp (Itr i (j - i).toNat) g tb D σ H1:=by
 unfold BS Ov
 congr 1
 funext vs H1;refine propext ⟨fun⟨i,j,e,h1,h⟩=>by subst e;exact⟨h1,h⟩,fun h=>?_⟩;unfold on2 at h;split at h
 ·obtain⟨i,rfl,h'⟩:=c8 h;obtain⟨j,rfl,h1,h''⟩:=c8 h';exact⟨i,j,rfl,h1,h''⟩
 ·exact h.elim
def UY:BS (FU K te) g tb D σ H=te σ H fun x H1=>bC x fun a=>(∃ xs,dR K H1 a xs)/\lp (Itl K a) g tb D σ H1:=by
 unfold BS FU
 congr 1
 funext x H1;exact propext ⟨fun⟨a,e,h1,h⟩=>by subst e;exact⟨h1,h⟩,fun h=>by obtain⟨a,rfl,h1,h⟩:=aT h;exact⟨a,rfl,h1,h⟩⟩
def UZ:BS (Ii K te) g tb D σ H=te σ H fun x H1=>bC x fun a=>(∃ xs,fA K H1 a xs)/\lp (Itt K a) g tb D σ H1:=by
 unfold BS Ii
 congr 1
 funext x H1;exact propext ⟨fun⟨a,e,h1,h⟩=>by subst e;exact⟨h1,h⟩,fun h=>by obtain⟨a,rfl,h1,h⟩:=aT h;exact⟨a,rfl,h1,h⟩⟩
end
def lc(J:It)(fr:List Nat)(tc:TT)(te:TE)(σ:St)(H:Hp)(Q:VK):Prop:=∃ W:Nat->Nat->List V->Hp->Prop,(∃ m,W 0 m [] H)/\∀ i m xs H,W i m xs H->xs.length<=1000000 /\
  ((J.stop i H/\∀ p,H p=none->Q (.ref p) (Z8 H p (.lst xs))) \/
   (J.go i H/\∀ y H',J.yld i H y H'->tc (some y::aY fr σ) H' fun b H2=>if b=true then te (some y::aY fr σ) H2 (fun z H3=>∃ m',m' < m/\W (i+1) m' (xs++[z]) H3) else ∃ m',m' < m/\W (i+1) m' xs H2))
section
variable {fr:List Nat} {tc:TT} {te tl:TE} {σ:St} {H H1:Hp} {Q:VK} {as:TA} {K:q0B}
def QV:j9 (FV as) fr tc te σ H Q=as σ H fun vs H1=>on1 vs fun v=>eR v fun j=>(-(2 ^ 62)<=j/\j < 2 ^ 62)/\lc (Itr 0 j.toNat) fr tc te σ H1 Q:=by
 unfold j9 FV
 congr 1
 funext vs H1;refine propext ⟨fun⟨j,e,h1,h2,h⟩=>by subst e;exact⟨⟨h1,h2⟩,h⟩,fun h=>?_⟩;unfold on1 at h;split at h
 ·obtain⟨j,rfl,⟨h1,h2⟩,h⟩:=c8 h;exact⟨j,rfl,h1,h2,h⟩
 ·exact h.elim
def QU:j9 (FU K tl) fr tc te σ H Q=tl σ H fun x H1=>bC x fun a=>(∃ xs,dR K H1 a xs)/\lc (Itl K a) fr tc te σ H1 Q:=by
 unfold j9 FU
 congr 1
 funext x H1;exact propext ⟨fun⟨a,e,h1,h⟩=>by subst e;exact⟨h1,h⟩,fun h=>by obtain⟨a,rfl,h1,h⟩:=aT h;exact⟨a,rfl,h1,h⟩⟩
def gQ(x:V)(k:Str->Prop)(_u:Tg k:=()):Prop:=match x with
 | .str p=>k p
 | _=>False
def Rj{x:Str}{k:Str->Prop}{u:Tg k}:@gQ (.str x) k u=k x:=rfl
def QW:j9 (VQ tl) fr tc te σ H Q=tl σ H fun x H1=>gQ x fun z=>lc (Its z) fr tc te σ H1 Q:=by
 unfold j9 VQ
 congr 1
 funext x H1;refine propext ⟨fun⟨a,e,h⟩=>by subst e;exact h,fun h=>?_⟩;cases x with
 | str z=>exact⟨z,rfl,h⟩
 | _=>exact h.elim
def VM{B:Bool->Hp->Prop}:Ug σ H B=B true H:=rfl
def Xw:aY [] σ=[]:=rfl
def Fi{n:Nat}{Pv:Nat->List V->Hp->Prop}{i:Nat}{xs:List V}(hi:i < n):(∃ m',m' < n - i/\cW n Pv (i+1) m' xs H)=Pv (i+1) xs H :=
 propext ⟨fun⟨_,_,_,_,h⟩=>h,fun h=>cW.next hi h⟩
def kM{a:Addr}{ys:List V}(Pv:Nat->List V->Hp->Prop)(h0:Pv 0 [] H)(hz:∀ i xs H,Pv i xs H->xs.length<=1000000)(hl:∀ i xs H,Pv i xs H->dR K H a ys)
    (hs:∀ i y xs H,i < ys.length->ys[i]?=some y->Pv i xs H->tc (some y::aY fr σ) H fun b H2=>if b=true then te (some y::aY fr σ) H2 (fun z H3=>Pv (i+1) (xs++[z]) H3) else Pv (i+1) xs H2)
    (hd:∀ xs H,Pv ys.length xs H->∀ p,H p=none->Q (.ref p) (Z8 H p (.lst xs))):lc (Itl K a) fr tc te σ H Q :=
  Li Pv h0 hz hl (fun i y xs H hi e h=>by simp only[Fi hi];exact hs i y xs H hi e h) hd
def OE{x:Str}(Pv:Nat->List V->Hp->Prop)(h0:Pv 0 [] H)(hz:∀ i xs H,Pv i xs H->xs.length<=1000000)
    (hs:∀ i c xs H,i < x.cps.size->x.cps[i]?=some c->Pv i xs H->tc (some (.str ⟨#[c]⟩)::aY fr σ) H fun b H2=>if b=true then te (some (.str ⟨#[c]⟩)::aY fr σ) H2 (fun z H3=>Pv (i+1) (xs++[z]) H3) else Pv (i+1) xs H2)
    (hd:∀ xs H,Pv x.cps.size xs H->∀ p,H p=none->Q (.ref p) (Z8 H p (.lst xs))):lc (Its x) fr tc te σ H Q :=
  Nv Pv h0 hz (fun i c xs H hi e h=>by simp only[Fi hi];exact hs i c xs H hi e h) hd
end
def QP(kb:List (Key×V)):List (Key×V)->Bool
 | []=>true
 | (k,v)::r=>match cC kb k with
  | none=>false
  | some y=>uZ v y&&QP kb r
mutual
inductive yK(K:q0B)(H:Hp):Nat->V->V->Bool->Prop
 | flat {n:Nat} {x y:V}:dC x=true->dC y=true->yK K H n x y (uZ x y)
 | same {n:Nat} {a:Addr}:yK K H n (.ref a) (.ref a) true
 | refs {n:Nat} {a b:Addr} {r:Bool}:a≠b->yL K H n a b r->yK K H n (.ref a) (.ref b) r
inductive yL(K:q0B)(H:Hp):Nat->Addr->Addr->Bool->Prop
 | list {n:Nat} {a b:Addr} {xs ys:List V} {e:Nat->Bool}:dR K H a xs->dR K H b ys->xs.length=ys.length->(∀ j x y,xs[j]?=some x->ys[j]?=some y->yK K H n x y (e j))->yL K H (n+1) a b ((List.range xs.length).all e)
 | aa1 {n:Nat} {a b:Addr} {xs ys:List V}:dR K H a xs->dR K H b ys->xs.length≠ys.length->yL K H (n+1) a b false
 | tup {n:Nat} {a b:Addr} {xs ys:List V} {e:Nat->Bool}:fA K H a xs->fA K H b ys->(∀ j x y,xs[j]?=some x->ys[j]?=some y->yK K H n x y (e j))->yL K H (n+1) a b ((List.range (min xs.length ys.length)).all e&&xs.length==ys.length)
end
section
variable {X:Cx} {Z7:List (Addr×Obj)} {σ:St} {H:Hp} {s:Shared}
def kL{xs:List V}{its:List Value}(r:Vals xs its){j:Nat}(h:j < its.toArray.size):∃ x,xs[j]?=some x/\bJ x its.toArray[j]:=by
 have hj:j < xs.length:=by have:=r.length;simp only[List.size_toArray] at h;omega
 have e:=List.getElem?_eq_getElem hj;obtain⟨u,g,ru⟩:=r.get e;refine⟨_,e,?_⟩;obtain⟨_,q⟩:=List.getElem?_eq_some_iff.mp g;have:its.toArray[j]=u:=by simpa using q
 rw[this];exact ru
def JF:∀(n:Nat),(∀ {a b:Addr} {r:Bool},yL X.K H n a b r->∀ {A:Around},Z9 X Z7 σ H s->A.units+n < cLine->SeqAt.RcAt A s (.ref a) (.ref b) r)/\(∀ {x y:V} {b:Bool},yK X.K H n x y b->∀ {A:Around} {v u:Value},Z9 X Z7 σ H s->bJ x v->bJ y u->A.units+n < cLine->SeqAt.EqAt A s v u b):=by
 intro n;have up:∀ {n:Nat},(∀ {a b:Addr} {r:Bool},yL X.K H n a b r->∀ {A:Around},Z9 X Z7 σ H s->A.units+n < cLine->SeqAt.RcAt A s (.ref a) (.ref b) r)->(∀ {x y:V} {b:Bool},yK X.K H n x y b->∀ {A:Around} {v u:Value},Z9 X Z7 σ H s->bJ x v->bJ y u->A.units+n < cLine->SeqAt.EqAt A s v u b):=by
  intro n rc x y b h A v u I rx ry hu;cases h with
  | flat fx fy=>exact NW rx ry fx fy
  | same =>
   cases rx;cases ry;exact SeqAt.EqAt.same _
  | refs ne h =>
   cases rx;cases ry;exact SeqAt.EqAt.of_refs ne (rc h I hu)
 suffices g:∀ {a b:Addr} {r:Bool},yL X.K H n a b r->∀ {A:Around},Z9 X Z7 σ H s->A.units+n < cLine->SeqAt.RcAt A s (.ref a) (.ref b) r from ⟨g,up g⟩
 induction n with
 | zero=>intro a b r h;cases h
 | succ n ih =>
  intro a b r h A I hu;have ih:=@up n @ih;cases h with
  | list hx hy hl he =>
   obtain⟨its,r1,p1,z1⟩:=I.list hx;obtain⟨jts,r2,p2,z2⟩:=I.list hy;have l1:=r1.length;have l2:=r2.length;have:=SeqAt.RcAt.lists p1.isList p2.isList (by simp only[List.size_toArray];omega) (by omega) (A:=A) (fun j h1 h2=>by
    obtain⟨x,ex,rx⟩:=kL r1 h1;obtain⟨y,ey,ry⟩:=kL r2 h2;exact ih (he j x y ex ey) I rx ry (by show A.units+1+_ < _;omega))
   rw[List.size_toArray,<- l1] at this;exact this
  | aa1 hx hy hl =>
   obtain⟨its,r1,p1,z1⟩:=I.list hx;obtain⟨jts,r2,p2,z2⟩:=I.list hy;have l1:=r1.length;have l2:=r2.length;exact SeqAt.RcAt.lists_lengths p1.isList p2.isList (by simp only[List.size_toArray,bne_iff_ne,ne_eq];omega) (by omega)
  | tup hx hy he =>
   obtain⟨its,r1,p1,z1⟩:=I.tuple hx;obtain⟨jts,r2,p2,z2⟩:=I.tuple hy;have l1:=r1.length;have l2:=r2.length;have:=SeqAt.RcAt.tuples (show s.heap.IsTuple _ its.toArray from p1) (show s.heap.IsTuple _ jts.toArray from p2) (by omega) (A:=A) (fun j h1 h2=>by
    obtain⟨x,ex,rx⟩:=kL r1 h1;obtain⟨y,ey,ry⟩:=kL r2 h2;exact ih (he j x y ex ey) I rx ry (by show A.units+1+_ < _;omega))
   rw[List.size_toArray,List.size_toArray,<- l1,<- l2] at this;exact this
def NV{n:Nat}{x y:V}{b:Bool}(h:yK X.K H n x y b){A:Around}{v u:Value}(I:Z9 X Z7 σ H s)(rx:bJ x v)(ry:bJ y u)(hu:A.units+n < cLine):SeqAt.EqAt A s v u b:=(JF n).2 h I rx ry hu
def Ws{n:Nat}{a b:Addr}{r:Bool}(h:yL X.K H n a b r){A:Around}(I:Z9 X Z7 σ H s)(hu:A.units+n < cLine):SeqAt.RcAt A s (.ref a) (.ref b) r:=(JF n).1 h I hu
end
inductive DPairs(H:Hp):List V->List V->Bool->Prop
  | nil:DPairs H [] [] true
  | cons {a b:Addr} {ka kb:List (Key×V)} {xs ys:List V} {r:Bool}:a≠b->H a=some (.dK ka)->H b=some (.dK kb)->(ka.all fun kv=>dC kv.2)=true->(kb.all fun kv=>dC kv.2)=true->DPairs H xs ys r ->
      DPairs H (.ref a::xs) (.ref b::ys) ((ka.length==kb.length&&QP kb ka)&&r)
def DPairs.at{H:Hp}{xs ys:List V}{r:Bool}(h:DPairs H xs ys r):∃ f:Nat->Bool,(List.range xs.length).all f=r/\∀ j x y,xs[j]?=some x->ys[j]?=some y->∃ a b ka kb,x=.ref a/\y=.ref b/\a≠b/\H a=some (.dK ka)/\H b=some (.dK kb)/\(ka.all fun kv=>dC kv.2)=true/\(kb.all fun kv=>dC kv.2)=true/\f j=(ka.length==kb.length&&QP kb ka):=by
 induction h with
 | nil=>exact⟨fun _=>true,rfl,fun j x y e=>by simp at e⟩
 | @cons a b ka kb xs ys r ne ea eb fa fb _ ih =>
  obtain⟨f,hf,hp⟩:=ih;refine⟨fun j=>match j with|0=>(ka.length==kb.length&&QP kb ka)|j+1=>f j,?_,?_⟩
  ·rw[List.length_cons,List.range_succ_eq_map,List.all_cons,List.all_map,<- hf];rfl
  ·intro j x y e1 e2;cases j with
   | zero =>
    simp only[List.getElem?_cons_zero,Option.some.injEq] at e1 e2;exact⟨a,b,ka,kb,e1.symm,e2.symm,ne,ea,eb,fa,fb,rfl⟩
   | succ j=>exact hp j x y (by simpa using e1) (by simpa using e2)
section
variable {X:Cx}
variable {o e:Expr} {to te:TE} {apos aaA:Pos}
end
section
variable {H:Hp} {Q:VK} {a b p:Addr} {x:V}
def Vy{K:q0B}{lo hi:Option Int}:Wr K (.ref a) lo hi H Q = ∃ xs,dR K H a xs/\∀ p,H p=none->Q (.ref p) (Z8 H p (.lst (mC xs lo hi))):=by simp[Wr]
def Va{K:q0B}{n:Nat}{t:TGs}{σ:St}{N:St->Hp->Prop}:RE K n t (.ref a) σ H N = ∃ xs,fA K H a xs/\xs.length=n/\t xs σ H N:=by simp[RE]
def Ze:((0:Nat):Int)=0:=rfl
def Zf:((1:Nat):Int)=1:=rfl
def Zg:((2:Nat):Int)=2:=rfl
end
def tM(o:Option HO)(k:List V->Prop)(_u:Tg k:=()):Prop:=match o with
 | some (.tup xs)=>k xs
 | _=>False
def Bk{o:Option HO}{k:List V->Prop}(h:tM o k):∃ xs,o=some (.tup xs)/\k xs:=by
 unfold tM at h;split at h
 ·exact⟨_,rfl,h⟩
 ·exact h.elim
def Tv:R2:=fun x y H Q=>bC x fun a=>bC y fun b=>tM (H a) fun xs=>tM (H b) fun ys=>xs.length+ys.length<=sizeLine/\(if xs=[] then Q y H else if ys=[] then Q x H else ∀ p,H p=none->Q (.ref p) (Z8 H p (.tup (xs++ys))))
section
variable {X:Cx}
def O8:iW X (binaryOp .Add) (fun x y H Q=>∃ a b ys,x=.ref a/\y=.ref b/\fA X.K H a []/\fA X.K H b ys/\Q (.ref b) H):=by
 intro Z7 s σ H x y v u Q I rx ry h;obtain⟨a,b,ys,rfl,rfl,ha,hb,q⟩:=h;cases rx;cases ry;obtain⟨its,r1,p1,_⟩:=I.tuple ha;obtain⟨aaO,r2,p2,_⟩:=I.tuple hb;have l1:its=[]:=r1.tH.mpr rfl;obtain⟨⟨c1,d1,t1,o1⟩,ho,rfl,n,rfl⟩:=p1;obtain⟨⟨c2,d2,t2,o2⟩,ho2,rfl,n2,rfl⟩:=p2;exact concat_meets ⟨_,ho,rfl⟩ ⟨_,ho2,rfl⟩ noFill_tuple_add seq_tuple_add PySem.F.slot_tuple_add PySem.F.entry_tuple_add (PySem.F.args_tuple_add_2 _ _) (tuple_addW0 a b its.toArray aaO.toArray n n2 d1 d2 o1 o2 (by simp[l1])) ⟨ho,ho2,.ref b,H,I,rfl,q⟩
def Si:iW X (binaryOp .Add) Tv:=(O8.or Kd).imp fun x y H Q h=>by
 obtain⟨a,rfl,h1⟩:=aT h;obtain⟨b,rfl,h2⟩:=aT h1;obtain⟨xs,e1,h3⟩:=Bk h2;obtain⟨ys,e2,h4,h5⟩:=Bk h3;by_cases c:xs=[]
 ·rw[if_pos c] at h5;subst c;exact .inl ⟨a,b,ys,rfl,rfl,.inl (.inl e1),.inl (.inl e2),h5⟩
 ·rw[if_neg c] at h5;refine .inr ⟨a,b,xs,ys,rfl,rfl,.inl (.inl e1),.inl (.inl e2),c,h4,fun z=>?_,fun z=>?_⟩
  ·rw[if_pos z] at h5;exact h5
  ·rw[if_neg z] at h5;exact h5
end
section
variable {H:Hp} {Q:VK} {a b p:Addr} {vs:List V} {lo hi:Option Int}
def Rk{k:List V->Prop}{u:Tg k}:@tM (some (.tup vs)) k u=k vs:=rfl
def VB:Tv (.ref a) (.ref b) H Q=tM (H a) fun xs=>tM (H b) fun ys=>xs.length+ys.length<=sizeLine/\(if xs=[] then Q (.ref b) H else if ys=[] then Q (.ref a) H else ∀ p,H p=none->Q (.ref p) (Z8 H p (.tup (xs++ys)))):=rfl
def UQ:Nb lo hi H Q (some (.tup vs))=(¬ (HT.fX vs.length 0 lo=0/\HT.fX vs.length vs.length hi=vs.length)/\∀ p,H p=none->Q (.ref p) (Z8 H p (.tup (mC vs lo hi)))):=rfl
end
section
variable {prog:Program} {w:World} {A:Around} {E:q0A}
end
def Itd(a:Addr)(o:Obj)(kvs:List (Key×V)):It :=
 ⟨fun i H=>i < kvs.length/\H a=some (.frz o (.dK kvs)),fun i H x H'=>H'=H/\∃ kv,kvs[i]?=some kv/\x=kV kv.1,fun i H=>i=kvs.length/\H a=some (.frz o (.dK kvs))⟩
def tF{P:Program}{W:World}{k:Key}{v:Value}(h:(bT P W).is k v=true):bJ (kV k) v:=by
 rcases dY h with⟨i,t,rfl,rfl⟩|⟨x,t,rfl,rfl⟩|⟨rfl,rfl⟩
 ·exact⟨t,rfl⟩
 ·exact⟨t,rfl⟩
 ·rfl
def Oi{X:Cx}{Z7:List (Addr×Obj)}{σ:St}{H:Hp}{s:Shared}{a:Addr}{o:Obj}{kvs:List (Key×V)}{es:Array DictEntry}{ep:Nat}(I:Z9 X Z7 σ H s)(e:H a=some (.frz o (.dK kvs)))(ho:o.data=.dict es ep) :
    ∃ vs,KV kvs vs/\s.heap.DictAt (bT X.prog X.w) a vs ep:=by
  obtain⟨h1,_,_,vs,rel,o',es',ep',h2,h3,h4,r⟩:=(show dF X.prog X.w H s.heap a (.frz o (.dK kvs)) from I.hok a _ e);rw[h1] at h2;cases h2;rw[ho] at h4;cases h4;exact⟨vs,rel,o,es,h1,h3,ho,r⟩
def KV.at{kvs:List (Key×V)}{vs:List (Key×Value)}(r:KV kvs vs){i:Nat}{kv:Key×V}(e:kvs[i]?=some kv):∃ v,vs[i]?=some (kv.1,v):=by
 unfold KV at r
 induction r generalizing i with
 | nil=>simp at e
 | @cons p q ps qs h t ih=>cases i with
  | zero =>
   have e':p=kv:=by simpa using e
   subst e';exact⟨q.2,by simp[h.1]⟩
  | succ i=>simpa using ih (i:=i) (by simpa using e)
def MI{P:Program}{w:World}{K:q0B}{tg:Expr}(a it:Addr)(o:Obj)(kvs:List (Key×V))(es:Array DictEntry)(ep:Nat)(ho:o.data=.dict es ep):Turn P w K tg (Itd a o kvs) [it] it (fun i h=>h.IsKeyIter it a i kvs.length ep) where
 mem:=by simp
 obj:=fun i h st b hb=>by
  have e:b=it:=by simpa using hb
  subst e;obtain⟨o,e,c,d⟩:=st;exact⟨o,e,fun v z=>by rw[d] at z;cases z⟩
 keep:=fun i h h' st k=>st.at fun o e=>k it (by simp) o e
 item:=by
  intro X hP hw hK hc i Z7 s σ H E I hf st hg;subst hP hw hK;obtain⟨hi,hq⟩:=hg;obtain⟨vs,rel,dd⟩:=Oi I hq ho;have hk:=List.getElem?_eq_getElem hi;obtain⟨v,hv⟩:=rel.at hk;obtain⟨f0,f1,f2,f3,f4,f5⟩:=hf it (by simp);rw[rel.length] at st;refine wpAny_pyNext_dict_item st dd hv fun key h' aa7 st' sb=>?_;have I1:Z9 X Z7 σ H {s with heap:=h'}:=I.turned (t':=s.toks) (fun b o hb e=>(sb.2 b hb).trans e) f0 f1 f3 f4 f5;rw[<- rel.length] at st';obtain⟨o',e,c,d⟩:=id st';exact⟨key,rfl,FP (s:={s with heap:=h'}) e c d (by decide) ⟨kV (kvs[i]).1,H,I1,tF aa7,⟨rfl,_,hk,rfl⟩,st',fun b hb=>(hf b hb).1⟩⟩
 done:=by
  intro X hP hw hK hc i Z7 s σ H E I hf st hg;subst hP hw hK;obtain⟨hi,hq⟩:=hg;obtain⟨vs,rel,dd⟩:=Oi I hq ho;obtain⟨f0,f1,f2,f3,f4,f5⟩:=hf it (by simp);rw[rel.length] at st hi;exact wpAny_pyNext_dict_end (I.ok.hd hc) st dd (List.getElem?_eq_none_iff.mpr (by omega)) fun h' eb=>⟨rfl,I.turned (t':=s.toks) (fun b o hb e=>eb b o hb e) f0 f1 f3 f4 f5⟩
 self:=fun _ _ _ _ _ st h=>wpAny_pyIter_keyiter st h
def VP(tl:TE):TI:=fun σ H R=>tl σ H fun x H1=>bC x fun a=>cY (H1 a) fun kvs=>∀ o,R (Itd a o kvs) (Z8 H1 a (.frz o (.dK kvs)))
def Sm{X:Cx}{tg l:Expr}{tl:TE}(hl:PE X l tl):PI X tg l (VP tl):=by
 intro Z7 s σ H R I h;refine thn (hl Z7 s σ H _ I h) fun v s1 ⟨x,H1,I1,r1,q1⟩=>?_;obtain⟨a,rfl,q2⟩:=aT q1;obtain⟨kvs,e,q⟩:=c7 q2;cases r1;obtain⟨z,hd,vs,rel,dd⟩:=sN I1.hok e;obtain⟨ep,dat⟩:=dd.dictAt;obtain⟨o,es,ho,hx,ad0,r⟩:=id dat;have I2:Z9 X Z7 σ (Z8 H1 a (.frz o (.dK kvs))) s1:=I1.write (t':=s1.toks) (x:=a) (e:=a) (by rw[e];exact True.intro) (.inl rfl) (fun _ _ _ q=>q) ⟨o,ho⟩ ⟨ho,uR z hd rel dd⟩;refine wpAny_pyIter_dict hd dat ?_;have F:(Z8 H1 a (.frz o (.dK kvs))) s1.heap.objs.size=none:=I2.hok.fresh (Nat.le_refl _);refine⟨s1.heap.objs.size,[s1.heap.objs.size],_,_,_,rfl,I2.kept (t':=s1.toks) fun b o e=>Heap.get?_push_of_some _ e,MI a _ o kvs es ep ad0,?_,fun b hb=>?_,q o⟩
 ·rw[rel.length];exact⟨_,Heap.get?_push_size _ rfl,rfl,rfl⟩
 ·have e:b=s1.heap.objs.size:=by simpa using hb
  subst e;exact I2.Cd (Nat.le_refl _) F
section
variable {fr:List Nat} {tc:TT} {te tl:TE} {σ:St} {H:Hp} {Q:VK}
def QT:j9 (VP tl) fr tc te σ H Q=tl σ H fun x H1=>bC x fun a=>cY (H1 a) fun kvs=>∀ o,lc (Itd a o kvs) fr tc te σ (Z8 H1 a (.frz o (.dK kvs))) Q:=by
 unfold j9 VP;rfl
def RP{a:Addr}{o:Obj}{kvs:List (Key×V)}(Pv:Nat->List V->Hp->Prop)(h0:Pv 0 [] H)(hz:∀ i xs H,Pv i xs H->xs.length<=1000000)(hl:∀ i xs H,Pv i xs H->H a=some (.frz o (.dK kvs)))
    (hs:∀ i kv xs H,i < kvs.length->kvs[i]?=some kv->Pv i xs H->tc (some (kV kv.1)::aY fr σ) H fun b H2=>if b=true then te (some (kV kv.1)::aY fr σ) H2 (fun z H3=>Pv (i+1) (xs++[z]) H3) else Pv (i+1) xs H2)
    (hd:∀ xs H,Pv kvs.length xs H->∀ p,H p=none->Q (.ref p) (Z8 H p (.lst xs))):lc (Itd a o kvs) fr tc te σ H Q:=by
  refine⟨cW kvs.length Pv,⟨kvs.length,by simp,Nat.zero_le _,h0⟩,?_⟩;rintro i m xs H ⟨rfl,hi,p⟩;refine⟨hz i xs H p,?_⟩;by_cases hlt:i < kvs.length
  · refine .inr ⟨⟨hlt,hl i xs H p⟩,fun y H' yy=>?_⟩;obtain⟨e,kv,hk,rfl⟩:=yy;subst e;simp only[Fi hlt];exact hs i kv xs _ hlt hk p
  · have e:i=kvs.length:=by omega
    subst e;exact .inl ⟨⟨rfl,hl _ xs H p⟩,hd xs H p⟩
end
section
variable {td ty tx:TE} {σ:St} {H:Hp} {Q:VK} {D:Ends} {a:Addr} {v w x:V}
end
def xT:List V->Option (List Str)
 | []=>some []
 | .str x::vs=>(xT vs).map (x::·)
 | _::_=>none
def Dt:∀ ys:List Str,xT (ys.map V.str)=some ys
 | []=>rfl
 | y::ys=>by
  show(xT (ys.map V.str)).map (y::·)=_;rw[Dt ys];rfl
def Ho:∀ {xs:List V} {ys:List Str},xT xs=some ys->xs=ys.map V.str
 | [],ys,h=>by cases h;rfl
 | x::xs,ys,h=>by
  cases x with
  | str z =>
   simp only[xT,Option.map_eq_some_iff] at h;obtain⟨zs,e,rfl⟩:=h;rw[Ho e];rfl
  | _=>cases h
def Kr:∀ {ys:List Str} {its:List Value},Vals (ys.map V.str) its->StrsAre its ys
 | [],_,.nil=>.nil
 | _::_,_,.cons ⟨_,h⟩ r=>by subst h;exact .cons _ _ (Kr r)
def Dx:∀(ys:List Str) (k:Nat),Vals (ys.map V.str) (strsFrom k ys)
 | [],_=>.nil
 | _::ys,k=>.cons ⟨_,rfl⟩ (Dx ys (k+1))
def QK:List V->Hp->VK->Prop:=fun vs H Q=>match vs with
 | [.int i]=>i.natAbs.log2 < 1920/\Q (.str (toString i)) H
 | [.str x]=>Q (.str x) H
 | _=>False
def To:V->List V->Hp->VK->Prop:=fun x vs H Q=>gQ x fun sep=>on1 vs fun y=>bC y fun l=>dP (H l) fun xs=>gM (xT xs) fun ys=>(ys.map fun z=>z.length).sum+ys.length * sep.length<=16777216/\Q (.str (Txt.join sep ys)) H
def Nm:V->List V->Hp->VK->Prop:=fun x vs H Q=>gQ x fun z=>on1 vs fun y=>gQ y fun sep=>(sep.length==0)=false/\z.length+2<=sizeLine/\∀ l,H l=none->Q (.ref l) (Z8 H l (.lst ((Txt.split z sep).map V.str)))
def Np:List V->Hp->VK->Prop:=fun vs H Q=>on1 vs fun x=>bC x fun p=>dP (H p) fun ys=>∀ l,H l=none->Q (.ref l) (Z8 H l (.tup ys))
def dU{x:V}{k:Str->Prop}(h:gQ x k):∃ z,x=.str z/\k z:=by
 unfold gQ at h;split at h
 ·exact⟨_,rfl,h⟩
 ·exact h.elim
def eQ{vs:List V}{k:V->Prop}(h:on1 vs k):∃ v,vs=[v]/\k v:=by
 unfold on1 at h;split at h
 ·exact⟨_,rfl,h⟩
 ·exact h.elim
section
variable {X:Cx}
def CP:dG X (.type "str") QK:=fun Z7 s σ H xs us Q I r h=>by
 unfold QK at h;split at h
 ·exact DP Z7 s σ H _ us Q I r ⟨_,rfl,h.1,h.2⟩
 ·obtain⟨u,rfl,t,rfl⟩:=vals1 r;exact PySem.P.str_of_str ⟨.str _,H,I,⟨_,rfl⟩,h⟩
 ·exact h.elim
def eV:dG X (.type "tuple") Np:=fun Z7 s σ H xs us Q I r h=>by
 obtain⟨x,rfl,h⟩:=eQ h;obtain⟨p,rfl,h⟩:=aT h;obtain⟨ys,e,h⟩:=eE h;exact B6 Z7 s σ H _ us Q I r ⟨_,_,rfl,.inl ⟨.inl (.inl e),h⟩⟩
def Ka:Uo X "str.join" To:=by
 intro Z7 s σ H x xs v us Q I rx r h;obtain⟨sep,rfl,h⟩:=dU h;obtain⟨y,rfl,h⟩:=eQ h;obtain⟨l,rfl,h⟩:=aT h;obtain⟨zs,e,h⟩:=eE h;obtain⟨ys,ey,hz,q⟩:=cZ h;cases Ho ey;obtain⟨u,rfl,ru⟩:=vals1 r;cases ru;obtain⟨t,rfl⟩:=rx;obtain⟨its,r',pl,_⟩:=I.list (.inl (.inl e):dR X.K H l _);exact join_list pl.isList (by simpa using Kr r') hz fun t' k=>⟨.str _,H,I.tok _,⟨_,rfl⟩,q⟩
def Gk:Uo X "str.split" Nm:=by
 intro Z7 s σ H x xs v us Q I rx r h;obtain⟨z,rfl,h1⟩:=dU h;obtain⟨y,rfl,h2⟩:=eQ h1;obtain⟨sep,rfl,h0,hz,q⟩:=dU h2;obtain⟨u,rfl,t',rfl⟩:=vals1 r;obtain⟨t,rfl⟩:=rx;have fin:∀(l:List Value) (n:Nat) (k:Nat),Vals ((Txt.split z sep).map V.str) l->(Txt.split z sep).length<=sizeLine->EP X Z7 σ Q (.ref s.heap.objs.size) {s with heap:=s.heap.push {cls:=.type "list",data:=.seq l.toArray n},toks:=k}:=fun l n k hv hl=>by
  refine⟨.ref _,_,I.laid (t':=k) (fun b o e=>Heap.get?_push_of_some _ e) (Nat.le_refl _) (show dF X.prog X.w _ _ _ (.lst ((Txt.split z sep).map V.str)) from ⟨by simpa using hl,l,n,hv,?_⟩),rfl,q _ (I.hok.fresh (Nat.le_refl _))⟩;exact Heap.get?_push_size _ rfl
 have hl:(Txt.split z sep).length<=sizeLine:=by
  have:=len_le_of_split (l:=(Txt.split z sep).map fun a=>(a,(0:Nat))) (x:=z) (y:=sep) (by simp[Function.comp_def]);simp only[List.length_map] at this;omega
 unfold Txt.split at fin hl;by_cases c1:(decide (z.length < sep.length)||decide (Builtin.Str.strKind z < Builtin.Str.strKind sep))=true
 ·rw[if_pos c1] at fin hl;exact call_meets F.slot_str_split (typeIs_str s z t) F.entry_str_split (F.args_str_split_2 _ _) (meets_str_split_cannot_occur z sep t t' c1) (fin [.str z t] 0 s.toks (.cons ⟨_,rfl⟩ .nil) hl)
 rw[if_neg c1] at fin hl;by_cases c2:(Builtin.Str.occurrences z sep 0 z.length (z.length+1)).isEmpty=true
 ·rw[if_pos c2] at fin hl;exact call_meets F.slot_str_split (typeIs_str s z t) F.entry_str_split (F.args_str_split_2 _ _) (meets_str_split_not_found z sep t t' (by simpa using c1) h0 c2) (fin [.str z t] 0 s.toks (.cons ⟨_,rfl⟩ .nil) hl)
 ·rw[if_neg c2] at fin hl;exact call_meets F.slot_str_split (typeIs_str s z t) F.entry_str_split (F.args_str_split_2 _ _) (meets_str_split_sep z sep t t' (by simpa using c1) h0 (by simpa using c2) (by omega) hl) (fin _ 0 _ (Dx _ _) hl)
end
section
variable {K:q0B} {T:String} {r:V->List V->Hp->VK->Prop} {to:TE} {t:TA} {σ:St} {H:Hp} {Q:VK} {x y:Str} {i:Int} {p:Addr} {ys:List Str}
def Zd:ZT K T r to t σ H Q=to σ H fun x H1=>Y2 K T x H1/\t σ H1 fun xs H2=>r x xs H2 Q:=rfl
def X4:Y2 K "str" (.str x) H=True:=eq_true rfl
def Vz:QK [.int i] H Q=(i.natAbs.log2 < 1920/\Q (.str (toString i)) H):=rfl
def VA:QK [.str x] H Q=Q (.str x) H:=rfl
def Vh:To (.str x) [.ref p] H Q=dP (H p) fun xs=>gM (xT xs) fun ys=>(ys.map fun z=>z.length).sum+ys.length * x.length<=16777216/\Q (.str (Txt.join x ys)) H:=rfl
def Rr:xT (ys.map V.str)=some ys:=Dt ys
def Rq:Nm (.str x) [.str y] H Q=((y.length==0)=false/\x.length+2<=sizeLine/\∀ l,H l=none->Q (.ref l) (Z8 H l (.lst ((Txt.split x y).map V.str)))):=rfl
def Rv:Np [.ref p] H Q=dP (H p) fun ys=>∀ l,H l=none->Q (.ref l) (Z8 H l (.tup ys)):=rfl
end
abbrev TJ:=Str->St->Hp->(Str->Hp->Prop)->Prop
section
variable {X:Cx} {e a b:Expr} {es:List Expr} {te:TE} {tj:TJ} {pos:Pos}
end
def ZV(r:V->List V->Hp->VK->Prop)(to:TE)(t:TA):TE:=fun σ H Q=>to σ H fun x H1=>bC x fun a=>dP (H1 a) fun _=>t σ H1 fun xs H2=>r (.ref a) xs H2 Q
def W9:V->List V->Hp->VK->Prop:=fun x vs H Q=>bC x fun a=>on1 vs fun y=>bC y fun b=>dP (H a) fun xs=>dP (H b) fun zs=>xs.length+zs.length<=sizeLine/\Q .non (Z8 H a (.lst (xs++zs)))
def Tt:V->List V->Hp->VK->Prop:=fun x vs H Q=>bC x fun a=>on1 vs fun y=>eR y fun i=>dP (H a) fun xs=>i=0/\gM xs[0]? fun v=>Q v (Z8 H a (.lst xs.tail))
section
variable {X:Cx} {o e:Expr} {es:List Expr} {to:TE} {t:TA} {name:Str} {apos aaA:Pos} {id:String} {r:V->List V->Hp->VK->Prop}
def GR(slot:Slot "list" name id)(hty:typeOf (.builtin id)=pure (.type "method_descriptor"))(hm:Um X id r)(ho:PE X o to)(ha:PA X (e::es) t)
    (aaG:attributeBase o name X.env (eval o X.env)=eval o X.env:=by rfl)
    (abF:((backTo aaA (starEach (e::es) X.env)).all (fun x=>!x.1)&&(backToKw aaA (keywordEach [] X.env)).all (fun x=>x.1.isSome)
     &&decide ((e::es).length+([]:List Keyword).length+(if ([]:List Keyword).isEmpty then 0 else 1) < 30))=true:=by rfl)
    (aaH:(apos.endLine==aaA.line)=true:=by rfl) (hs:starEach (e::es) X.env=(false,eval e X.env)::starEach es X.env:=by rfl) (aaM:(backTo aaA (starEach es X.env)).any (·.1)=false:=by rfl) :
    PE X (.Call (.Attribute o name apos) (e::es) [] aaA) (ZV r to t):=by
  intro Z7 s σ H Q I h;refine wpAny_Call_method_late aaG abF aaH rfl (thn (ho Z7 s σ H _ I h) fun v s1 ⟨x,H1,I1,r1,q1⟩=>?_);obtain⟨a,rfl,q1⟩:=aT q1;obtain⟨xs,e1,q1⟩:=eE q1;obtain⟨h1,h2⟩:=E2 (T:="list") I1 r1 (.inl ⟨rfl,xs,.inl (.inl e1)⟩);refine⟨"list",id,PySem.F.plainAttrs_list,slot,hty,h1,h2,?_⟩;have hA:=ha aaA Z7 s1 σ H1 _ I1 q1;rw[hs] at hA ⊢;refine Calls.callWith_builtin (by show(false||(backTo aaA (starEach es X.env)).any (·.1))=false;rw[aaM]<;>rfl) (Calls.evalArgs_plain ?_);exact thn hA fun us s2 ⟨vs,H2,I2,r2,q2⟩=>hm Z7 s2 σ H2 _ vs v us Q I2 r1 r2 q2
def y6:Um X "list.extend" W9:=fun Z7 s σ H x vs v us Q I rx rv h=>by
 obtain⟨a,rfl,h1⟩:=aT h;obtain⟨y,rfl,h2⟩:=eQ h1;obtain⟨b,rfl,h3⟩:=aT h2;obtain⟨xs,e1,h4⟩:=eE h3;obtain⟨zs,e2,h5⟩:=eE h4;exact LW Z7 s σ H _ _ v us Q I rx rv ⟨_,_,_,_,rfl,rfl,e1,e2,h5⟩
def Sa:Um X "list.pop" Tt:=fun Z7 s σ H x vs v us Q I rx rv h=>by
 obtain⟨a,rfl,h1⟩:=aT h;obtain⟨y,rfl,h2⟩:=eQ h1;obtain⟨i,rfl,h3⟩:=c8 h2;obtain⟨xs,e1,rfl,h4⟩:=eE h3;obtain⟨y,e2,h5⟩:=cZ h4;cases xs with
 | nil=>cases e2
 | cons z zs=>exact OR Z7 s σ H _ _ v us Q I rx rv ⟨_,_,_,0,y,rfl,rfl,e1,by decide,by decide,by simp[seqIndex?],e2,h5⟩
end
def MH:Option HO->Option Bool
 | some (.lst xs)=>some (!xs.isEmpty)
 | some (.tup xs)=>some (!xs.isEmpty)
 | some (.dK kvs)=>some (!kvs.isEmpty)
 | _=>none
def Hu(H:Hp):V->Option Bool
 | .non=>some false
 | .bl b=>some b
 | .int i=>some (i !=0)
 | .ref p=>MH (H p)
 | _=>none
def S7{K:q0B}{H:Hp}{x:V}{k:Bool}(h:Hu H x=some k):WW K x H k:=by
 cases x with
 | non=>cases h;rfl
 | bl b=>cases h;rfl
 | int i=>cases h;rfl
 | ref p =>
  simp only[Hu] at h;unfold MH at h;split at h
  ·next e=>cases h;exact .inl ⟨_,.inl (.inl e),rfl⟩
  ·next e=>cases h;exact .inr (.inl ⟨_,fA.of e,rfl⟩)
  ·next e=>cases h;exact .inr (.inr ⟨_,e,rfl⟩)
  ·cases h
 | _=>cases h
def Qe(ta:TE):TT:=fun σ H Q=>ta σ H fun x H'=>gM (Hu H' x) fun k=>Q k H'
def zA{X:Cx}{a:Expr}{ta:TE}(ha:PE X a ta)(he:∀ whole,isTrue a X.env whole=(do let v <- whole;standAt a.pos;holding [v] (truthy v))):PT X a (Qe ta):=by
 intro Z7 s σ H Q I h;exact isTrue_plain (thn (ha Z7 s σ H _ I h) fun v s1 ⟨x,H1,I1,r1,q1⟩=>by
  obtain⟨k,e,q⟩:=cZ q1;exact WO Z7 s1 σ H1 x v Q I1 r1 ⟨k,S7 e,q⟩) (he _)
section
variable {te to:TE} {t:TA} {tj:TJ} {σ:St} {H:Hp} {Q:VK} {x acc:Str} {r:V->List V->Hp->VK->Prop} {QS:Str->Hp->Prop} {B:Bool->Hp->Prop} {D:Ends} {p q:Addr} {vs:List V} {kvs:List (Key×V)} {v:V} {b:Bool} {i:Int}
def UW:Str.empty++x=x:=by
 show(⟨#[]++x.cps⟩:Str)=x;rw[Array.empty_append]
def Zl:ZV r to t σ H Q=to σ H fun x H1=>bC x fun a=>dP (H1 a) fun _=>t σ H1 fun xs H2=>r (.ref a) xs H2 Q:=rfl
def Xy:W9 (.ref p) [.ref q] H Q=dP (H p) fun xs=>dP (H q) fun zs=>xs.length+zs.length<=sizeLine/\Q .non (Z8 H p (.lst (xs++zs))):=rfl
def Vv:Tt (.ref p) [.int 0] H Q=dP (H p) fun xs=>(0:Int)=0/\gM xs[0]? fun v=>Q v (Z8 H p (.lst xs.tail)):=rfl
def Rt:Qe te σ H B=te σ H fun x H'=>gM (Hu H' x) fun k=>B k H':=rfl
def VJ:Hu H .non=some false:=rfl
def VF:Hu H (.bl b)=some b:=rfl
def VH:Hu H (.int i)=some (i !=0):=rfl
def NU:Hu H (.ref p)=MH (H p):=rfl
def VI:MH (some (.lst vs))=some (!vs.isEmpty):=rfl
def VL:MH (some (.tup vs))=some (!vs.isEmpty):=rfl
def VG:MH (some (.dK kvs))=some (!kvs.isEmpty):=rfl
def Rc:P9 D σ H=False:=rfl
variable {fr:List Nat} {tc:TT} {tl:TE} {K:q0B}
def QX:j9 (Ii K tl) fr tc te σ H Q=tl σ H fun x H1=>bC x fun a=>(∃ xs,fA K H1 a xs)/\lc (Itt K a) fr tc te σ H1 Q:=by
 unfold j9 Ii
 congr 1
 funext x H1;exact propext ⟨fun⟨a,e,h1,h⟩=>by subst e;exact⟨h1,h⟩,fun h=>by obtain⟨a,rfl,h1,h⟩:=aT h;exact⟨a,rfl,h1,h⟩⟩
def OF{a:Addr}{ys:List V}(Pv:Nat->List V->Hp->Prop)(h0:Pv 0 [] H)(hz:∀ i xs H,Pv i xs H->xs.length<=1000000)(hl:∀ i xs H,Pv i xs H->fA K H a ys)
    (hs:∀ i y xs H,i < ys.length->ys[i]?=some y->Pv i xs H->tc (some y::aY fr σ) H fun b H2=>if b=true then te (some y::aY fr σ) H2 (fun z H3=>Pv (i+1) (xs++[z]) H3) else Pv (i+1) xs H2)
    (hd:∀ xs H,Pv ys.length xs H->∀ p,H p=none->Q (.ref p) (Z8 H p (.lst xs))):lc (Itt K a) fr tc te σ H Q:=by
  refine⟨cW ys.length Pv,⟨ys.length,by simp,Nat.zero_le _,h0⟩,?_⟩;rintro i m xs H ⟨rfl,hi,p⟩;refine⟨hz i xs H p,?_⟩;have q:=hl i xs H p;by_cases hlt:i < ys.length
  · refine .inr ⟨⟨ys,ys[i],q,by simp[hlt]⟩,fun y H' yy=>?_⟩;obtain⟨e,yy⟩:=yy;subst e;simp only[Fi hlt];exact hs i y xs _ hlt (yy ys q) p
  · have e:i=ys.length:=by omega
    subst e;exact .inl ⟨⟨ys,q,Nat.le_refl _⟩,hd xs H p⟩
end
section
variable {X:Cx} {Z7:List (Addr×Obj)} {σ:St} {H:Hp} {s:Shared}
def Sy{n:Nat}{a b:Addr}{r:Bool}{A:Around}(h:yL X.K H n a b r)(I:Z9 X Z7 σ H s)(hu:A.units+n < cLine):SeqAt.RcNeAt A s (.ref a) (.ref b) (!r):=by
 cases h with
 | list hx hy hl he =>
  obtain⟨its,r1,p1,z1⟩:=I.list hx;obtain⟨jts,r2,p2,z2⟩:=I.list hy;have l1:=r1.length;have l2:=r2.length;have:=SeqAt.RcNeAt.lists p1.isList p2.isList (by simp only[List.size_toArray];omega) (by omega) (A:=A) (fun j h1 h2=>by
   obtain⟨x,ex,rx⟩:=kL r1 h1;obtain⟨y,ey,ry⟩:=kL r2 h2;exact NV (he j x y ex ey) I rx ry (by show A.units+1+_ < _;omega))
  rw[List.size_toArray,<- l1] at this;exact this
 | aa1 hx hy hl =>
  obtain⟨its,r1,p1,z1⟩:=I.list hx;obtain⟨jts,r2,p2,z2⟩:=I.list hy;have l1:=r1.length;have l2:=r2.length;exact SeqAt.RcNeAt.lists_lengths p1.isList p2.isList (by simp only[List.size_toArray,bne_iff_ne,ne_eq];omega) (by omega)
 | tup hx hy he =>
  obtain⟨its,r1,p1,z1⟩:=I.tuple hx;obtain⟨jts,r2,p2,z2⟩:=I.tuple hy;have l1:=r1.length;have l2:=r2.length;have:=SeqAt.RcNeAt.tuples (show s.heap.IsTuple _ its.toArray from p1) (show s.heap.IsTuple _ jts.toArray from p2) (by omega) (A:=A) (fun j h1 h2=>by
   obtain⟨x,ex,rx⟩:=kL r1 h1;obtain⟨y,ey,ry⟩:=kL r2 h2;exact NV (he j x y ex ey) I rx ry (by show A.units+1+_ < _;omega))
  rw[List.size_toArray,List.size_toArray,<- l1,<- l2] at this;exact this
end
def Xe(K:q0B)(n:Nat):R2:=fun x y H Q=>bC x fun a=>bC y fun b=>∃ r,yL K H n a b r/\Q (.bl (!r)) H
def FT{A:Around}{k:Nat}(hr:Room k A){n:Nat}(h:n<=60):A.units+n < cLine:=Nat.lt_of_le_of_lt (Nat.add_le_add_left (by omega:n<=64) _) hr.units
def Tq(K:q0B):List V->Hp->VK->Prop:=fun vs H Q=>on1 vs fun x=>bC x fun p=>∃ xs,dR K H p xs/\Q (.int xs.length) H
section
variable {X:Cx}
def rJ(n:Nat)(hu:X.A.units+n < cLine):iW X (compareOp .NotEq) (Xe X.K n):=fun Z7 s σ H x y v u Q I rx ry h=>by
 obtain⟨a,rfl,h1⟩:=aT h;obtain⟨b,rfl,r,e,q⟩:=aT h1;cases rx;cases ry;exact Sy e I hu X.prog X.w X.xe _ (bU I q rfl)
def Lc:dG X (.builtin "len") (Tq X.K):=fun Z7 s σ H xs us Q I r h=>by
 obtain⟨x,rfl,h1⟩:=eQ h;obtain⟨p,rfl,ys,e,q⟩:=aT h1;exact sJ Z7 s σ H _ us Q I r ⟨p,ys,rfl,.inl e,q⟩
end
section
variable {K:q0B} {H:Hp} {Q:VK} {a b p:Addr} {n:Nat} {i:Int}
def XM:Xe K n (.ref a) (.ref b) H Q = ∃ r,yL K H n a b r/\Q (.bl (!r)) H:=rfl
def Vl:Tq K [.ref p] H Q = ∃ xs,dR K H p xs/\Q (.int xs.length) H:=rfl
end
def Str.cs(x:Str):List Nat:=x.cps.toList
def EW{x y:Str}(h:x.cps.toList=y.cps.toList):x=y:=by
 cases x;cases y;simp only[Str.mk.injEq];exact Array.toList_inj.mp h
def yR(a b:Str):(a++b).cps.toList=a.cps.toList++b.cps.toList:=Array.toList_append
def jn(c:Nat):List (List Nat)->List Nat
 | []=>[]
 | [w]=>w
 | w::v::r=>w++c::jn c (v::r)
def Nx{c:Nat}:∀ {u w R S:List Nat},c∉u->c∉w->u++c::R=w++c::S->u=w/\R=S
 | [],[],_,_,_,_,h=>by simpa using h
 | [],y::w,_,_,_,hw,h=>by
  simp only[List.nil_append,List.cons_append,List.cons.injEq] at h;exact absurd (List.mem_cons.mpr (.inl h.1)) hw
 | x::u,[],_,_,hu,_,h=>by
  simp only[List.nil_append,List.cons_append,List.cons.injEq] at h;exact absurd (List.mem_cons.mpr (.inl h.1.symm)) hu
 | x::u,y::w,R,S,hu,hw,h=>by
  simp only[List.cons_append,List.cons.injEq] at h;obtain⟨e,f⟩:=Nx (fun z=>hu (List.mem_cons_of_mem _ z)) (fun z=>hw (List.mem_cons_of_mem _ z)) h.2;exact⟨by rw[h.1,e],f⟩
def OB{c:Nat}:∀ {us ws:List (List Nat)},us≠[]->ws≠[]->(∀ u∈us,c∉u)->(∀ w∈ws,c∉w)->jn c us=jn c ws->us=ws
 | [],_,h,_,_,_,_=>absurd rfl h
 | _::_,[],_,h,_,_,_=>absurd rfl h
 | [u],[w],_,_,_,_,h=>by rw[show u=w from h]
 | [u],w::v::r,_,_,hu,_,h=>by
  have h:u=w++c::jn c (v::r):=h;exact absurd (by rw[h];simp) (hu u (by simp))
 | u::v::r,[w],_,_,_,hw,h=>by
  have h:u++c::jn c (v::r)=w:=h;exact absurd (by rw[<- h];simp) (hw w (by simp))
 | u::u2::us,w::w2::ws,_,_,hu,hw,h=>by
  obtain⟨e,f⟩:=Nx (hu u (by simp)) (hw w (by simp)) (show u++c::jn c (u2::us)=w++c::jn c (w2::ws) from h);rw[e,OB (by simp) (by simp) (fun z hz=>hu z (List.mem_cons_of_mem _ hz)) (fun z hz=>hw z (List.mem_cons_of_mem _ hz)) f]
def JO(c:Nat):∀(l:List Str) (x:List Nat),(List.foldl (fun acc (p:Str)=>acc++(#[c]:Array Nat)++p.cps) x.toArray l).toList=jn c (x::l.map fun p=>p.cps.toList)
 | [],x=>by simp[jn]
 | y::l,x=>by
  show(List.foldl _ (x.toArray++#[c]++y.cps) l).toList=_;have e:x.toArray++#[c]++y.cps=(x++c::y.cps.toList).toArray:=by apply Array.toList_inj.mp;simp
  rw[e,JO c l (x++c::y.cps.toList)];cases l with
  | nil=>simp[jn]
  | cons z l=>simp[jn]
def yX(c:Nat)(ws:List Str):(Txt.join ⟨#[c]⟩ ws).cps.toList=jn c (ws.map fun p=>p.cps.toList):=by
 cases ws with
 | nil=>rfl
 | cons w ws =>
  exact JO c ws w.cps.toList
def PY(x y:Str):Txt.split x y≠[]:=by
 unfold Txt.split;split
 ·simp
 ·split
  ·simp
  ·unfold Builtin.Str.partsBetween;simp only[ne_eq,List.map_eq_nil_iff];intro h;have:=congrArg List.length h;simp at this
def RV{us ws:List Str}(h:(us.map fun p=>p.cps.toList)=ws.map fun p=>p.cps.toList):us=ws:=by
 induction us generalizing ws with
 | nil=>cases ws with
  | nil=>rfl
  | cons w ws=>simp at h
 | cons u us ih=>cases ws with
  | nil=>simp at h
  | cons w ws =>
   simp only[List.map_cons,List.cons.injEq] at h;rw[EW h.1,ih h.2]
def Dr{c:Nat}{ws:List Str}(ne:ws≠[])(fr:∀ w∈ws,c∉w.cps.toList):Txt.split (Txt.join ⟨#[c]⟩ ws) ⟨#[c]⟩=ws:=by
 apply RV;refine OB (c:=c) (by simpa using PY _ _) (by simpa using ne) (fun u hu=>?_) (fun u hu=>?_) ?_
 ·obtain⟨p,hp,rfl⟩:=List.mem_map.mp hu;exact StrLaws.split_free _ _ p hp
 ·obtain⟨p,hp,rfl⟩:=List.mem_map.mp hu;exact fr p hp
 ·rw[<- yX,<- yX];show(Builtin.Str.glued _ _).cps.toList=_;rw[StrLaws.glued_eq_join,StrLaws.join_split]
def CY:∀(l:List Str) (x:List Nat),(List.foldl (fun acc (p:Str)=>acc++("":Str).cps++p.cps) x.toArray l).toList=x++(l.map fun p=>p.cps.toList).flatten
 | [],x=>by simp
 | y::l,x=>by
  have e0:("":Str).cps = #[]:=by decide +kernel
  show(List.foldl _ (x.toArray++("":Str).cps++y.cps) l).toList=_;have e:x.toArray++("":Str).cps++y.cps=(x++y.cps.toList).toArray:=by rw[e0];apply Array.toList_inj.mp;simp
  rw[e,CY l (x++y.cps.toList)];simp
def C5(ws:List Str):(Txt.join "" ws).cps.toList=(ws.map fun p=>p.cps.toList).flatten:=by
 cases ws with
 | nil=>rfl
 | cons w ws =>
  exact CY ws w.cps.toList
def oK:("\n":Str)=⟨#[10]⟩/\(" ":Str)=⟨#[32]⟩/\("-":Str)=⟨#[45]⟩/\("0":Str)=⟨#[48]⟩/\("9":Str)=⟨#[57]⟩:=by decide +kernel
def Im(rows:List Str)(tl:Str):Txt.join "" (rows.map fun r:Str=>r++"\n")++tl=Txt.join "\n" (rows++[tl]):=by
 apply EW;rw[yR,C5,oK.1,yX]
 induction rows with
 | nil=>simp[jn]
 | cons r rows ih =>
  simp only[List.map_cons,List.flatten_cons,yR,List.cons_append,List.append_assoc] at ih ⊢;rw[ih];cases rows with
  | nil=>simp[jn]
  | cons z l=>simp[jn]
def Gc{rows:List Str}{tl:Str}(h:∀ r∈rows,10∉r.cps.toList)(ht:10∉tl.cps.toList):Txt.split (Txt.join "" (rows.map fun r:Str=>r++"\n")++tl) "\n"=rows++[tl]:=by
 rw[Im,oK.1];exact Dr (by simp) fun w hw=>by
  rcases List.mem_append.mp hw with hw|hw
  ·exact h w hw
  ·rw[show w=tl by simpa using hw];exact ht
def Lj{α:Type}(f:α->V)(xs:List α)(y:α):mC ((xs++[y]).map f) none (some (-1))=xs.map f:=by
 have hl:((xs++[y]).map f).length=xs.length+1:=by simp
 unfold mC;have h1:HT.fX ((xs++[y]).map f).length 0 none=0:=rfl;have h2:HT.fX ((xs++[y]).map f).length ((xs++[y]).map f).length (some (-1))=xs.length:=by
  rw[hl];unfold HT.fX;simp;omega
 rw[h1,h2];simp
def Tn:List V->Hp->VK->Prop:=fun vs H Q=>on1 vs fun x=>gQ x fun z=>z.length<=640/\gM (intText? z) fun n=>Q (.int n) H
def Jw:V->List V->Hp->VK->Prop:=fun x vs H Q=>gQ x fun z=>on1 vs fun y=>gQ y fun p=>Q (.bl (Txt.startswith z p)) H
def Xd:R2:=fun x y H Q=>gQ x fun i=>gQ y fun j=>Q (.bl (!decide (j.cps.toList < i.cps.toList))) H
def nT:List V->Option (List Bool)
 | []=>some []
 | .bl b::r=>(nT r).map (b::·)
 | _=>none
def CK:∀ {xs:List V} {bs:List Bool},nT xs=some bs->xs=bs.map V.bl
 | [],bs,h=>by cases h;rfl
 | x::xs,bs,h=>by
  cases x with
  | bl b =>
   simp only[nT,Option.map_eq_some_iff] at h;obtain⟨cs,e,rfl⟩:=h;rw[CK e];rfl
  | _=>cases h
def Aq:∀ {bs:List Bool},nT (bs.map V.bl)=some bs
 | []=>rfl
 | b::bs=>by
  show(nT (bs.map V.bl)).map (b::·)=_;rw[Aq];rfl
def WY:List V->Hp->VK->Prop:=fun vs H Q=>on1 vs fun x=>bC x fun p=>dP (H p) fun xs=>gM (nT xs) fun bs=>Q (.bl (bs.all id)) H
def Xb(K:q0B)(neg:Bool):R2:=fun x y H Q=>bC y fun p=>∃ xs,fA K H p xs/\dC x=true/\xs.all dC=true/\Q (.bl (if neg=true then !sW x xs else sW x xs)) H
section
variable {X:Cx}
def CM:dG X (.type "int") Tn:=fun Z7 s σ H xs us Q I r h=>by
 obtain⟨x,rfl,h1⟩:=eQ h;obtain⟨z,rfl,hz,h2⟩:=dU h1;obtain⟨n,e,q⟩:=cZ h2;obtain⟨u,rfl,t,rfl⟩:=vals1 r;exact PySem.W.KIN.call_text e hz ⟨.int n,H,I.tok _,⟨_,rfl⟩,q⟩
def Cm:Uo X "str.startswith" Jw:=fun Z7 s σ H x xs v us Q I rx r h=>by
 obtain⟨z,rfl,h1⟩:=dU h;obtain⟨y,rfl,h2⟩:=eQ h1;obtain⟨p,rfl,q⟩:=dU h2;obtain⟨u,rfl,t',rfl⟩:=vals1 r;obtain⟨t,rfl⟩:=rx;exact PySem.SC.startswith ⟨.bl _,H,I,rfl,q⟩
def Eo:iW X (compareOp .LtE) Xd:=Mc.imp fun x y H Q h=>by
 obtain⟨i,rfl,h1⟩:=dU h;obtain⟨j,rfl,q⟩:=dU h1;exact⟨i,j,rfl,rfl,q⟩
def uH(hc:X.calm=true):dG X (.builtin "all") WY:=fun Z7 s σ H xs us Q I r h=>by
 obtain⟨x,rfl,h1⟩:=eQ h;obtain⟨p,rfl,h2⟩:=aT h1;obtain⟨ys,e,h3⟩:=eE h2;obtain⟨bs,eb,q⟩:=cZ h3;cases CK eb;exact Nq hc Z7 s σ H _ us Q I r ⟨p,bs,rfl,dR.of e,q⟩
def Md:iW X (compareOp .NotIn) (Xb X.K true):=tN.imp fun x y H Q h=>by
 obtain⟨p,rfl,xs,e,h1,h2,q⟩:=aT h;exact⟨_,_,rfl,.inr e,h1,h2,q⟩
end
section
variable {K:q0B} {H:Hp} {Q:VK} {p:Addr} {x y z:Str} {neg:Bool} {v:V}
def Vd:Tn [.str z] H Q=(z.length<=640/\gM (intText? z) fun n=>Q (.int n) H):=rfl
def NT:Jw (.str z) [.str y] H Q=Q (.bl (Txt.startswith z y)) H:=rfl
def XG:Xd (.str x) (.str y) H Q=Q (.bl (!decide (y.cps.toList < x.cps.toList))) H:=rfl
def Xl:WY [.ref p] H Q=dP (H p) fun xs=>gM (nT xs) fun bs=>Q (.bl (bs.all id)) H:=rfl
def XC:Xb K neg v (.ref p) H Q = ∃ xs,fA K H p xs/\dC v=true/\xs.all dC=true/\Q (.bl (if neg=true then !sW v xs else sW v xs)) H:=rfl
end
def aaC(n:Nat):List Nat:=(Nat.toDigits 10 n).map Char.toNat
def nZ(n:Nat):∀ c∈aaC n,48<=c/\c<=57:=by
 intro c hc;obtain⟨d,hd,rfl⟩:=List.mem_map.mp hc;have:=Nat.isDigit_of_mem_toDigits (by decide) (by decide) hd;simp only[Char.isDigit,Bool.and_eq_true,decide_eq_true_eq] at this;exact⟨this.1,this.2⟩
def yU(n:Nat):aaC n≠[]:=by simpa[aaC] using Nat.toDigits_ne_nil
def lH{n k:Nat}(hk:0 < k):(aaC n).length<=k↔n < 10 ^ k:=by
 rw[aaC,List.length_map];exact Nat.length_toDigits_le_iff (by decide) hk
def Ah(n:Nat):NumText.digitsVal (aaC n)=n:=PySem.W.KIN.val_back n
def Qh:∀(cs:List Nat) (a:Nat),(∀ c∈cs,48<=c/\c<=57)->List.foldl (fun acc c=>acc * 10+(c - 48)) a cs < (a+1) * 10 ^ cs.length
 | [],a,_=>by simp
 | c::cs,a,h=>by
  have h1:=h c (by simp);have h2:=Qh cs (a * 10+(c - 48)) fun z hz=>h z (List.mem_cons_of_mem _ hz);rw[List.foldl_cons];refine Nat.lt_of_lt_of_le h2 ?_;rw[List.length_cons,Nat.pow_succ,<- Nat.mul_assoc,Nat.mul_right_comm];exact Nat.mul_le_mul_right _ (by omega)
def CT{n:Nat}{cs:List Nat}(h:aaC n=48::cs):n=0:=by
 have hv:=Ah n;have ha:=nZ n;rw[h] at hv ha;cases cs with
 | nil=>rw[<- hv];rfl
 | cons c cs =>
  have h2:=Qh (c::cs) 0 fun z hz=>ha z (List.mem_cons_of_mem _ hz);have h3:NumText.digitsVal (48::c::cs)=NumText.digitsVal (c::cs):=by simp[NumText.digitsVal]
  rw[h3] at hv;have h4:n < 10 ^ (c::cs).length:=by
   rw[<- hv];simpa[NumText.digitsVal] using h2
  have h5:=(lH (n:=n) (k:=(c::cs).length) (by simp)).mpr h4;rw[h] at h5;simp at h5;omega
def yW(n:Nat):(Str.ofString (toString (n:Int))).cps.toList=aaC n:=by
 show(Str.ofString (Nat.repr n)).cps.toList=_;rw[Nat.repr_eq_ofList_toDigits,PySem.W.Fast.ofString_ofList];rfl
def JS(n:Nat):(Str.ofString (toString (Int.negSucc n))).cps.toList=45::aaC (n+1):=by
 show(Str.ofString ("-"++Nat.repr (n+1))).cps.toList=_;rw[PySem.Str.ofString_eq_toList,String.toList_append,Nat.repr_eq_ofList_toDigits];simp[aaC]
def lN(i:Int)(h:i.natAbs < 10 ^ 100):intText? (Str.ofString (toString i))=some i:=by
 cases i with
 | ofNat n =>
  have e:(Str.ofString (toString (Int.ofNat n))).cps.toList=aaC n:=yW n;have l:(aaC n).length<=100:=(lH (by decide)).mpr h;rw[intText_digits (by rw[e];exact nZ n) (by rw[e];exact yU n) (by show(Str.ofString (toString (Int.ofNat n))).cps.size<=4300;rw[<- Array.length_toList,e];omega),e,Ah];rfl
 | negSucc n =>
  have e:=JS n;have l:(aaC (n+1)).length<=100:=(lH (by decide)).mpr (by simpa[Int.natAbs] using h);rw[intText_neg e (nZ _) (yU _) (by show(Str.ofString (toString (Int.negSucc n))).cps.size<=4300;rw[<- Array.length_toList,e];simp;omega),Ah];rfl
def nH:List Nat->List Nat
 | 45::r=>r
 | l=>l
def L0(w:Str)(lo hi:Int):Bool :=
 let f:=nH w.cps.toList;decide (1<=f.length)&&decide (f.length<=(Str.ofString (toString (if hi > -lo then hi else -lo))).length)&&f.all (fun c=>decide (48<=c)&&decide (c<=57))&&!(decide (f[0]?=some 48)&&!decide (w = "0"))&&
  match intText? w with
  | some v=>decide (lo<=v)&&decide (v<=hi)
  | none=>false
def EU(w:Str):Txt.startswith w "-"=decide (w.cps.toList[0]?=some 45):=by
 rw[oK.2.2.1];have h:=StrLaws.subAt_one w 45 0;unfold Txt.startswith;rw[Bool.eq_iff_iff,Bool.and_eq_true,decide_eq_true_eq,decide_eq_true_eq];exact h
def Mx(w:Str)(h:1<=w.length):(Txt.slice w (some 1) none).cps.toList=w.cps.toList.drop 1:=by
 have e:Txt.slice w (some 1) none=StrLaws.sliceText w (some 1) none:=rfl;rw[e,StrLaws.sliceText_from (i:=1) ⟨by decide,by simp only[Array.length_toList];exact Int.ofNat_le.mpr h⟩];simp only[Int.toNat_one];apply List.take_of_length_le;simp only[List.length_drop];omega
def Rz(w:Str):(if Txt.startswith w "-"=true then Txt.slice w (some 1) none else w).cps.toList=nH w.cps.toList:=by
 rw[EU];cases h:w.cps.toList with
 | nil =>
  simp only[List.getElem?_nil,reduceCtorEq,decide_false,Bool.false_eq_true,if_false];rw[h];rfl
 | cons c r =>
  simp only[List.getElem?_cons_zero,Option.some.injEq];by_cases hc:c=45
  ·subst hc;simp only[decide_true,if_true];rw[Mx w (by show 1<=w.cps.size;rw[<- Array.length_toList,h];simp),h];rfl
  ·simp only[hc,decide_false,Bool.false_eq_true,if_false];rw[h];unfold nH;split
   ·next e=>simp only[List.cons.injEq] at e;exact absurd e.1 hc
   ·rfl
def kQ(C:Addr)(o:Option HO)(k:Addr->List (Str×V)->Prop)(_u:Tg k:=()):Prop:=match o with
 | some (.ins C' dx fs)=>C'=C/\k dx fs
 | _=>False
def oO{C:Addr}{o:Option HO}{k:Addr->List (Str×V)->Prop}(h:kQ C o k):∃ dx fs,o=some (.ins C dx fs)/\k dx fs:=by
 unfold kQ at h;split at h
 ·obtain⟨rfl,h⟩:=h;exact⟨_,_,rfl,h⟩
 ·exact h.elim
def QH(C:Addr)(f:Str)(ta:TE):TE:=fun σ H Q=>ta σ H fun x H1=>bC x fun a=>kQ C (H1 a) fun _ fs=>gM (fs.lookup f) fun v=>Q v H1
def Tu(C:Addr)(f:Str)(ta tv:TE):TS:=fun D σ H=>tv σ H fun y H1=>ta σ H1 fun x H2=>bC x fun a=>kQ C (H2 a) fun dx fs=>fs.length < 1000/\D.nx σ (Z8 H2 a (.ins C dx (jA f y fs)))
def Tf(C:Addr)(f:Str)(ta tv:TE):TS:=fun D σ H=>ta σ H fun x H1=>bC x fun a=>kQ C (H1 a) fun _ fs=>gM (fs.lookup f) fun v=>tv σ H1 fun y H2=>eR v fun i=>eR y fun j=>kQ C (H2 a) fun dx fs'=>fs'.length < 1000/\D.nx σ (Z8 H2 a (.ins C dx (jA f (.int (i+j)) fs')))
section
variable {X:Cx} {o e value:Expr} {f:Str} {pos pos' abL:Pos} {ta tv:TE} {C:Addr}
def aQ(c:Cls X.K C)(n:eA X.K C f)(he:PE X e ta)(hb:attributeBase e f X.env (eval e X.env)=eval e X.env:=by rfl):PE X (.Attribute e f pos) (QH C f ta):=fun Z7 s σ H Q I h=>by
 refine Qy hb (thn (he Z7 s σ H _ I h) fun u s1 ⟨x,H1,I1,rx,q1⟩=>?_);obtain⟨a,rfl,q2⟩:=aT q1;obtain⟨dx,fs,ea,q3⟩:=oO q2;obtain⟨v,l,q⟩:=cZ q3;obtain rfl:u=Value.ref a:=rx;exact AI I1 ea c n l fun u' s2 I2 ru=>⟨v,H1,I2,ru,q⟩
def dA(c:Cls X.K C)(n:eA X.K C f)(ha:PE X o ta)(hv:PE X value tv)(hs:swapsWith value (some (.Attribute o f pos')) pos.line X.env=pure false:=by rfl):PS X (.Assign [.Attribute o f pos'] value pos) (Tu C f ta tv):=fun Z7 s σ H D I h=>by
 refine plainObj_wpAny_Assign_Attribute (thn (hv Z7 s σ H _ I h) fun u s1 ⟨y,H1,I1,ry,q⟩=>thn (ha Z7 s1 σ H1 _ I1 q) fun ov s2 ⟨x,H2,I2,rx,q1⟩=>?_) hs;obtain⟨a,rfl,q2⟩:=aT q1;obtain⟨dx,fs,ea,l,q3⟩:=oO q2;obtain rfl:ov=Value.ref a:=rx;exact BM I2 ea c n l ry fun s3 I3=>⟨σ,_,I3,q3⟩
def So(c:Cls X.K C)(n:eA X.K C f)(ha:PE X o ta)(hv:PE X value tv):PS X (.AugAssign (.Attribute o f abL) .Add value pos) (Tf C f ta tv):=fun Z7 s σ H D I h=>by
 refine wpAny_AugAssign_AttributeAny (thn (ha Z7 s σ H _ I h) fun ov s1 ⟨x,H1,I1,rx,q1⟩=>?_);obtain⟨a,rfl,q2⟩:=aT q1;obtain⟨dx,fs,ea,q3⟩:=oO q2;obtain⟨v,l,q⟩:=cZ q3;obtain rfl:ov=Value.ref a:=rx;refine AI I1 ea c n l fun u s2 I2 ru=>thn (hv Z7 s2 σ H1 _ I2 q) fun w3 s3 ⟨y,H2,I3,ry,q4⟩=>?_;obtain⟨i,rfl,q5⟩:=c8 q4;obtain⟨j,rfl,q6⟩:=c8 q5;obtain⟨dx',fs',ea',l',q7⟩:=oO q6;refine thn (VR Z7 s3 σ H2 (.int i) (.int j) u w3 (fun z H3=>z=.int (i+j)/\H3=H2) I3 ru ry ⟨i,j,rfl,rfl,rfl,rfl⟩) fun w4 s4 ⟨z,H3,I4,rz,ez,eH⟩=>?_;subst ez eH;exact BM I4 ea' c n l' rz fun s5 I5=>⟨σ,_,I5,q7⟩
end
section
variable {C a dx:Addr} {fs:List (Str×V)} {k:Addr->List (Str×V)->Prop} {m f:Str} {sp:Sp} {E:XK} {ta tv:TE} {t:TA} {σ:St} {H:Hp} {Q:VK} {D:Ends} {v u:V} {r:List (Str×V)}
def JC{k:Addr->List (Str×V)->Prop}{u:Tg k}:@kQ C (some (.ins C dx fs)) k u=k dx fs:=by simp[kQ]
def Xz:QH C f ta σ H Q=ta σ H fun x H1=>bC x fun a=>kQ C (H1 a) fun _ fs=>gM (fs.lookup f) fun v=>Q v H1:=rfl
def Vx:Tu C f ta tv D σ H=tv σ H fun y H1=>ta σ H1 fun x H2=>bC x fun a=>kQ C (H2 a) fun dx fs=>fs.length < 1000/\D.nx σ (Z8 H2 a (.ins C dx (jA f y fs))):=rfl
def UK:Tf C f ta tv D σ H=ta σ H fun x H1=>bC x fun a=>kQ C (H1 a) fun _ fs=>gM (fs.lookup f) fun v=>tv σ H1 fun y H2=>eR v fun i=>eR y fun j=>kQ C (H2 a) fun dx fs'=>fs'.length < 1000/\D.nx σ (Z8 H2 a (.ins C dx (jA f (.int (i+j)) fs'))):=rfl
def Vq:Hr C m sp [] E ta t σ H Q=ta σ H fun x H1=>bC x fun a=>kQ C (H1 a) fun _ fs=>fs.lookup m=none/\t σ H1 fun vs H2=>sp (.ref a::vs) H2 Q E:=by
 unfold Hr
 congr 1
 funext x H1;refine propext ⟨fun⟨a,dx,fs,e,e1,l,h⟩=>?_,fun h=>?_⟩
 ·subst e;show kQ C (H1 a) _;rw[e1,JC];simp only[List.append_nil] at h;exact⟨l,h⟩
 ·obtain⟨a,rfl,h⟩:=aT h;obtain⟨dx,fs,e1,l,h⟩:=oO h;exact⟨a,dx,fs,rfl,e1,l,by simpa only[List.append_nil] using h⟩
def Vp:Ku C sp [] E t σ H Q=t σ H fun vs H1=>∀ x dx,H1 x=none->H1 dx=none->dx≠x->sp (.ref x::vs) (Z8 (Z8 H1 dx (.own x)) x (.ins C dx [])) (fun v H2=>v=.non/\Q (.ref x) H2) E:=by
 unfold Ku;simp only[List.append_nil]
def OZ{x y:String}:(Str.ofString x=Str.ofString y)=(x=y):=kE
def NN{x y:String}:List.lookup (Str.ofString x) ((Str.ofString y,v)::r)=if x=y then some v else List.lookup (Str.ofString x) r:=by
 by_cases h:x=y
 ·subst h;simp[List.lookup]
 ·have:(Str.ofString x==Str.ofString y)=false:=beq_eq_false_iff_ne.mpr fun z=>h (OZ▸z);simp only[List.lookup,this,if_neg h]
def Ln{x:Str}:List.lookup x ([]:List (Str×V))=none:=rfl
def Vw{x y:String}:jA (Str.ofString x) u ((Str.ofString y,v)::r)=if y=x then (Str.ofString y,u)::r else (Str.ofString y,v)::jA (Str.ofString x) u r:=by
 rw[show jA (Str.ofString x) u ((Str.ofString y,v)::r)=(if Str.ofString y=Str.ofString x then (Str.ofString y,u)::r else (Str.ofString y,v)::jA (Str.ofString x) u r) from rfl];by_cases h:y=x
 ·rw[if_pos h,if_pos (by rw[h])]
 ·rw[if_neg h,if_neg fun z=>h (OZ▸z)]
def Rl{x:Str}:jA x u []=[(x,u)]:=rfl
end
def O5{vs:List V}{k:V->V->Prop}(h:on2 vs k):∃ v w,vs=[v,w]/\k v w:=by
 unfold on2 at h;split at h
 ·exact⟨_,_,rfl,h⟩
 ·exact h.elim
section
variable {X:Cx}
end
section
variable {H:Hp} {Q:VK} {x:V} {p:Addr} {σ:St} {t:TA} {vs:List V} {i:Int} {z:Str} {b:Bool}
end
def JE{a b:Str}:uZ (.str a) (.str b)=(a==b):=rfl
def Rx{a b:Int}:uZ (.int a) (.int b)=(a==b):=rfl
section
variable {X:Cx} {Z7:List (Addr×Obj)} {σ:St} {H:Hp} {s:Shared} {a:Addr} {o:Obj} {kvs:List (Key×V)}
def Z9.S6(I:Z9 X Z7 σ H s)(e:H a=some (.frz o (.dK kvs)))(hne:∀ ob u,X.H₀ a≠some (.frz ob u)):Z9 X Z7 σ (Z8 H a (.dK kvs)) s:=by
 have nn:∀ {b:Addr},H b=none->b≠a:=fun h z=>by subst z;rw[e] at h;cases h
 refine⟨I.ok,I.os,I.bare,⟨I.base.keep,I.base.slot,fun b ob q n hx=>?_,I.base.there,fun b xs q=>?_,fun b ob u q=>?_,fun b ps q=>?_⟩,I.loc,I.cell,?_,fun x c hc=>?_,fun p hp=>?_,fun b u q=>?_,I.len⟩
 ·have:=I.base.free b ob q n hx;rw[aG (nn this)];exact this
 ·have:=I.base.CA b xs q;rw[aG (dO this e (by intro z;cases z))];exact this
 ·have h1:=I.base.AF b ob u q;rw[aG (fun z=>by subst z;exact hne _ _ q)];exact h1
 ·obtain⟨more,h1⟩:=I.base.Cz b ps q;exact⟨more,by rw[aG (dO h1 e (by intro z;cases z))];exact h1⟩
 ·rw[aG (nn I.free)];exact I.free
 ·rw[aG (nn (I.lM x c hc))];exact I.lM x c hc
 ·obtain⟨h1,h2,h3⟩:=I.pin p hp;exact⟨h1,by rw[aG (nn h2)];exact h2,h3⟩
 ·have own:∀ b c,H b=some (.own c)->Z8 H a (.dK kvs) b=some (.own c):=fun b c q=>by rw[aG (dO q e (by intro z;cases z))];exact q
  have tup:∀ b xs,H b=some (.tup xs)->Z8 H a (.dK kvs) b=some (.tup xs):=fun b c q=>by rw[aG (dO q e (by intro z;cases z))];exact q
  by_cases hb:b=a
  ·subst hb;rw[aA] at q;cases q;exact dF.tW (I.hok b _ e).2 (fun _ _ _ z=>z) (fun b q=>own b _ q) tup
  ·rw[aG hb] at q;exact(I.hok b u q).tW (fun _ _ _ z=>z) (fun b q=>own b _ q) tup
end
def Uh(H₀:Hp)(D:Ends):Ends :=
 {nx:=fun σ H=>∃ a o kvs,H a=some (.frz o (.dK kvs))/\(∀ ob u,H₀ a≠some (.frz ob u))/\D.nx σ (Z8 H a (.dK kvs))
  bk:=fun σ H=>∃ a o kvs,H a=some (.frz o (.dK kvs))/\(∀ ob u,H₀ a≠some (.frz ob u))/\D.bk σ (Z8 H a (.dK kvs))
  ct:=fun σ H=>∃ a o kvs,H a=some (.frz o (.dK kvs))/\(∀ ob u,H₀ a≠some (.frz ob u))/\D.ct σ (Z8 H a (.dK kvs))
  rt:=fun v H=>∃ a o kvs,H a=some (.frz o (.dK kvs))/\(∀ ob u,H₀ a≠some (.frz ob u))/\D.rt v (Z8 H a (.dK kvs))}
def Ue(H₀:Hp)(t:TS):TS:=fun D σ H=>t (Uh H₀ D) σ H
def Sr{X:Cx}{st:Stmt}{t:TS}(h:PS X st t):PS X st (Ue X.H₀ t):=fun Z7 s σ H D I hq =>
 thn (h Z7 s σ H _ I hq) fun f s' q=>by
  cases f with
  | next=>obtain⟨σ',H',I',a,o,kvs,e,hne,q⟩:=q;exact⟨σ',_,I'.S6 e hne,q⟩
  | brk=>obtain⟨σ',H',I',a,o,kvs,e,hne,q⟩:=q;exact⟨σ',_,I'.S6 e hne,q⟩
  | cont=>obtain⟨σ',H',I',a,o,kvs,e,hne,q⟩:=q;exact⟨σ',_,I'.S6 e hne,q⟩
  | ret u=>obtain⟨v,σ',H',I',r,a,o,kvs,e,hne,q⟩:=q;exact⟨v,σ',_,I'.S6 e hne,r,q⟩
def W6(ty td:TE):TE:=fun σ H Q=>ty σ H fun y H1=>td σ H1 fun x H2=>bC x fun a=>cY (H2 a) fun kvs=>gM (kI y) fun k=>Q (.bl (cC kvs k).isSome) H2
def Nd(td ty:TE):TE:=fun σ H Q=>td σ H fun x H1=>bC x fun a=>cY (H1 a) fun _=>ty σ H1 fun y H2=>cY (H2 a) fun kvs=>gM (kI y) fun k=>gM (cC kvs k) fun v=>Q v (Z8 H2 a (.dK (xC kvs k)))
def Nc(td ty tx:TE):TE:=fun σ H Q=>td σ H fun x H1=>bC x fun a=>cY (H1 a) fun _=>ty σ H1 fun y H2=>tx σ H2 fun z H3=>cY (H3 a) fun kvs=>gM (kI y) fun k=>Q ((cC kvs k).getD z) H3
def Eb{y:V}{k:Key}(h:kI y=some k):y=kV k:=by
 cases y<;>simp[kI] at h<;>subst h<;>rfl
section
variable {X:Cx} {o e f:Expr} {apos aaA:Pos} {td ty tx:TE}
def Pc(ho:PE X o td)(he:PE X e ty)(m:M1 X o "pop" apos e aaA):PE X (.Call (.Attribute o "pop" apos) [e] [] aaA) (Nd td ty):=fun Z7 s σ H Q I h=>by
 refine wpAny_Call_method m.base m.few m.line PySem.F.plainAttrs_dict PySem.F.slot_dict_pop PySem.F.type_dict_pop (thn (ho Z7 s σ H _ I h) fun u s1 ⟨x,H1,I1,rx,q1⟩=>?_);obtain⟨a,rfl,q2⟩:=aT q1;obtain⟨kv0,e0,q3⟩:=c7 q2;obtain rfl:u=Value.ref a:=rx;obtain⟨t1,t2,_⟩:=vB I1 (.inl ⟨kv0,.inl e0⟩);refine⟨t1,t2,?_⟩;rw[m.trees];refine Calls.callWith_builtin rfl (Calls.evalArgs_plain (Calls.spliced_cons (thn (he Z7 s1 σ H1 _ I1 q3) fun iv s2 ⟨y,H2,I2,ry,q4⟩=>Calls.spliced_nil ?_)));obtain⟨kvs,ea,q5⟩:=c7 q4;obtain⟨k,ek,q6⟩:=cZ q5;obtain⟨v,l,q7⟩:=cZ q6;cases Eb ek;exact Xj I2 ea ry l (.inl rfl) fun w' s3 I3 rw'=>⟨v,_,I3,rw',q7⟩
def Mf(hu:X.A.units+1 < cLine)(ho:PE X o td)(he:PE X e ty)(hf:PE X f tx)(m:M2 X o "get" apos e f aaA):PE X (.Call (.Attribute o "get" apos) [e,f] [] aaA) (Nc td ty tx):=fun Z7 s σ H Q I h=>by
 refine wpAny_Call_method m.base m.few m.line PySem.F.plainAttrs_dict PySem.F.slot_dict_get PySem.F.type_dict_get (thn (ho Z7 s σ H _ I h) fun u s1 ⟨x,H1,I1,rx,q1⟩=>?_);obtain⟨a,rfl,q2⟩:=aT q1;obtain⟨kv0,e0,q3⟩:=c7 q2;obtain rfl:u=Value.ref a:=rx;obtain⟨t1,t2,_⟩:=vB I1 (.inl ⟨kv0,.inl e0⟩);refine⟨t1,t2,?_⟩;rw[m.trees];refine Calls.callWith_builtin rfl (Calls.evalArgs_plain (Calls.spliced_cons (thn (he Z7 s1 σ H1 _ I1 q3) fun iv s2 ⟨y,H2,I2,ry,q4⟩ =>
  Calls.spliced_cons (thn (hf Z7 s2 σ H2 _ I2 q4) fun fv s3 ⟨z,H3,I3,rz,q5⟩=>Calls.spliced_nil ?_))))
 obtain⟨kvs,ea,q6⟩:=c7 q5;obtain⟨k,ek,q7⟩:=cZ q6;cases Eb ek;exact UD hu I3 (DGet.k ea) ry rz fun w' s4 I4 rw'=>⟨_,H3,I4,rw',q7⟩
def Kf(hu:X.A.units+1 < cLine)(hi:PE X e ty)(ho:PE X o td):PC X .In e o (W6 ty td):=fun Z7 s σ H Q I h=>by
 refine thn (hi Z7 s σ H _ I h) fun iv s1 ⟨y,H1,I1,ry,q1⟩=>thn (ho Z7 s1 σ H1 _ I1 q1) fun u s2 ⟨x,H2,I2,rx,q2⟩=>?_;obtain⟨a,rfl,q3⟩:=aT q2;obtain⟨kvs,e0,q4⟩:=c7 q3;obtain⟨k,ek,q5⟩:=cZ q4;obtain rfl:u=Value.ref a:=rx;cases Eb ek;exact Zc hu I2 (DGet.k e0) ry fun s3 I3=>⟨.bl (cC kvs k).isSome,H2,I3,rfl,q5⟩
def Jv(td:TE):TE:=fun σ H Q=>td σ H fun x H1=>bC x fun a=>cY (H1 a) fun _=>Q .non (Z8 H1 a (.dK []))
def Me(ho:PE X o td)(aaG:attributeBase o "clear" X.env (eval o X.env)=eval o X.env:=by rfl)(aaH:(apos.endLine==aaA.line)=true:=by rfl):PE X (.Call (.Attribute o "clear" apos) [] [] aaA) (Jv td):=fun Z7 s σ H Q I h=>by
 refine wpAny_Call_method0_late aaG aaH (thn (ho Z7 s σ H _ I h) fun v s1 ⟨x,H1,I1,r1,q1⟩=>?_);obtain⟨a,rfl,q2⟩:=aT q1;obtain⟨kvs,e0,q3⟩:=c7 q2;obtain rfl:v=Value.ref a:=r1;obtain⟨t1,t2,_⟩:=vB I1 (.inl ⟨kvs,.inl e0⟩);refine⟨"dict","dict.clear",PySem.F.plainAttrs_dict,PySem.F.slot_dict_clear,PySem.F.type_dict_clear,t1,t2,Calls.callWith_builtin rfl (PySem.evalArgs_none ?_)⟩;obtain⟨z,hd,vs,rel,dd⟩:=sN I1.hok e0;refine call_meetsIn PySem.F.slot_dict_clear dd.typeIs PySem.F.entry_dict_clear (PySem.F.args_dict_clear_1 _) (meets_dict_clear (bT X.prog X.w) a)
  ⟨vs,dd,by rw[<- rel.length];exact z,fun h' dd' hs=>⟨.non,_,?_,rfl,q3⟩⟩
 have he:∃ q,h'.get? a=some q:=let ⟨q,_,_,hq,_⟩:=dd';⟨q,hq⟩;exact sL I1 (by rw[e0];exact True.intro) hs he (uR (Nat.zero_le _) hd .nil dd')
def Th(td ty tx:TE):TE:=fun σ H Q=>td σ H fun x H1=>bC x fun a=>cY (H1 a) fun _=>ty σ H1 fun y H2=>tx σ H2 fun z H3=>cY (H3 a) fun kvs=>gM (kI y) fun k=>kvs.length < sizeLine /\
 (∀ v,cC kvs k=some v->Q v H3)/\(cC kvs k=none->Q z (Z8 H3 a (.dK (eL kvs k z))))
def Pd(ho:PE X o td)(he:PE X e ty)(hf:PE X f tx)(m:M2 X o "setdefault" apos e f aaA):PE X (.Call (.Attribute o "setdefault" apos) [e,f] [] aaA) (Th td ty tx):=fun Z7 s σ H Q I h=>by
 refine wpAny_Call_method m.base m.few m.line PySem.F.plainAttrs_dict PySem.F.slot_dict_setdefault PySem.F.type_dict_setdefault (thn (ho Z7 s σ H _ I h) fun u s1 ⟨x,H1,I1,rx,q1⟩=>?_);obtain⟨a,rfl,q2⟩:=aT q1;obtain⟨kv0,e0,q3⟩:=c7 q2;obtain rfl:u=Value.ref a:=rx;obtain⟨t1,t2,_⟩:=vB I1 (.inl ⟨kv0,.inl e0⟩);refine⟨t1,t2,?_⟩;rw[m.trees];refine Calls.callWith_builtin rfl (Calls.evalArgs_plain (Calls.spliced_cons (thn (he Z7 s1 σ H1 _ I1 q3) fun iv s2 ⟨y,H2,I2,ry,q4⟩ =>
  Calls.spliced_cons (thn (hf Z7 s2 σ H2 _ I2 q4) fun fv s3 ⟨z,H3,I3,rz,q5⟩=>Calls.spliced_nil ?_))))
 obtain⟨kvs,ea,q6⟩:=c7 q5;obtain⟨k,ek,hl,q7,q8⟩:=cZ q6;cases Eb ek;obtain⟨z',hd,vs,rel,dd⟩:=sN I3.hok ea;refine call_meetsIn PySem.F.slot_dict_setdefault dd.typeIs PySem.F.entry_dict_setdefault (PySem.F.args_dict_setdefault_3 _ _ _) (kt_meets_setdefault (bT X.prog X.w) a (xH ry) hd fv)
  ⟨vs,dd,by rw[<- rel.length];exact z',fun v hv=>?_,fun hv h' dd' hs=>?_⟩
 ·have:=rel.val k;rw[hv] at this;cases l:cC kvs k with
  | none=>rw[l] at this;exact this.elim
  | some w=>rw[l] at this;exact⟨w,H3,I3.tok _,this,q7 w l⟩
 ·have:=rel.val k;rw[hv] at this;cases l:cC kvs k with
  | some w=>rw[l] at this;exact this.elim
  | none =>
   have he:∃ q,h'.get? a=some q:=let ⟨q,_,_,hq,_⟩:=dd';⟨q,hq⟩;exact⟨z,_,sL I3 (by rw[ea];exact True.intro) hs he (uR (by have:=oF kvs k z;omega) hd (rel.put k rz) dd'),rz,q8 l⟩
end
section
variable {td ty tx:TE} {σ:St} {H H₀:Hp} {Q:VK} {t:TS} {D:Ends} {v:V}
def VD:Ue H₀ t D σ H=t (Uh H₀ D) σ H:=rfl
def US:W6 ty td σ H Q=ty σ H fun y H1=>td σ H1 fun x H2=>bC x fun a=>cY (H2 a) fun kvs=>gM (kI y) fun k=>Q (.bl (cC kvs k).isSome) H2:=rfl
def Q2:Nd td ty σ H Q=td σ H fun x H1=>bC x fun a=>cY (H1 a) fun _=>ty σ H1 fun y H2=>cY (H2 a) fun kvs=>gM (kI y) fun k=>gM (cC kvs k) fun v=>Q v (Z8 H2 a (.dK (xC kvs k))):=rfl
def NM:Nc td ty tx σ H Q=td σ H fun x H1=>bC x fun a=>cY (H1 a) fun _=>ty σ H1 fun y H2=>tx σ H2 fun z H3=>cY (H3 a) fun kvs=>gM (kI y) fun k=>Q ((cC kvs k).getD z) H3:=rfl
def NL:Jv td σ H Q=td σ H fun x H1=>bC x fun a=>cY (H1 a) fun _=>Q .non (Z8 H1 a (.dK [])):=rfl
def Q3:Th td ty tx σ H Q=td σ H fun x H1=>bC x fun a=>cY (H1 a) fun _=>ty σ H1 fun y H2=>tx σ H2 fun z H3=>cY (H3 a) fun kvs=>gM (kI y) fun k=>kvs.length < sizeLine/\(∀ v,cC kvs k=some v->Q v H3)/\(cC kvs k=none->Q z (Z8 H3 a (.dK (eL kvs k z)))):=rfl
end
def Tj:V->V->Hp->VK->Prop:=fun x y H Q=>bC x fun p=>eR y fun i=>dP (H p) fun xs=>gM (kY xs i) fun v=>Q v H
def Xc:TIp:=fun x y H Q=>eR x fun i=>eR y fun j=>Q (.int (i+j)) H
section
variable {X:Cx}
def X8:PGet X Tj:=fun Z7 s σ H o i ov iv Q I ro ri h=>by
 obtain⟨p,rfl,h1⟩:=aT h;obtain⟨k,rfl,h2⟩:=c8 h1;obtain⟨xs,e,h3⟩:=eE h2;obtain⟨v,ea,q⟩:=cZ h3;cases ro;obtain⟨t,rfl⟩:=ri;obtain⟨its,r,pl,hz⟩:=I.list (dR.of e);obtain⟨j,g1,g2,g3,g4,g5⟩:=yQ ea;obtain⟨w,ew,rw'⟩:=r.get g2;have hl:=r.length;have hn:=line63;have fin:EP X Z7 σ Q w s:=⟨v,H,I,rw',q⟩;by_cases h0:0<=k
 ·have hj:k.toNat=j:=by
   rw[seqIndex_of h0 g5] at g1;exact Option.some.inj g1
  exact wpAny_getItem_list pl.isList h0 (by omega) (by rw[hj];simpa using ew) fin
 ·have hj:(k+(its.toArray.size:Int)).toNat=j:=by
   rw[seqIndex_neg (by omega) g4] at g1;rw[List.size_toArray,<- hl];exact Option.some.inj g1
  exact wpAny_getItem_list_neg pl.isList (by omega) (by rw[List.size_toArray];omega) (by omega) (by rw[hj];simpa using ew) fin
def JV:PIp X .Add Xc:=fun Z7 s σ H x y v u Q I r1 r2 h=>by
 obtain⟨i,rfl,h1⟩:=c8 h;obtain⟨j,rfl,q⟩:=c8 h1;exact VS Z7 s σ H _ _ v u Q I r1 r2 ⟨i,j,rfl,rfl,q⟩
end
structure WU(P:Params)(K:q0B)(d:Addr):Prop where
 ex:∃ es n,K.lookup d=some {cls:=.type "dict",data:=.dict es n}/\PySem.W.KeysLit P es.toList
def Ud(tab:List (Str×Sp))(tk:TE)(t:TA):TE:=fun σ H Q=>tk σ H fun y H1=>gQ y fun x=>gM (tab.lookup x) fun sp=>t σ H1 fun vs H2=>sp vs H2 Q E0
def Sl{X:Cx}{x:Str}{p pos pos':Pos}{d:Addr}{ke e:Expr}{es:List Expr}{tk:TE}{t:TA}{k:Nat}{tab:List (Str×Sp)}(hg:Gl X x)(hm:X.mg x=some (.ref d))(M:WU X.w.params X.K d)(hk:PE X ke tk)(hs:Up ke)
    (F:∀ y sp,tab.lookup y=some sp->∃ f fd ps,PySem.W.nsIn X.K d y=some (some (.ref f))/\bD X.prog X.w X.K X.mg X.base CX0 k f fd ps sp/\PySem.W.keepIn X.K (.ref f)=true/\Binds X.K fd ps [])
    (hr:Room k X.A) (ha:PA X (e::es) t) (hd:(x==("__debug__":Str))=false:=by decide) (he:starEach (e::es) X.env=(false,eval e X.env)::starEach es X.env:=by rfl) (hpl:(backTo pos (starEach es X.env)).any (·.1)=false:=by rfl)
    (hc:eval (.Call (.Subscript (.Name x p) ke pos') (e::es) [] pos) X.env=(do
      let f <- eval (.Subscript (.Name x p) ke pos') X.env
      callWith pos f [] (backTo pos (starEach (e::es) X.env)) (backToKw pos (keywordEach [] X.env))):=by rfl) :
    PE X (.Call (.Subscript (.Name x p) ke pos') (e::es) [] pos) (Ud tab tk t):=fun Z7 s σ H Q I h=>by
  obtain⟨es',n',lk,kl⟩:=M.ex;refine PyProof.Rows.Call_ (Ks (T:="dict") PySem.F.slot_dict_getitem.lookup hs (thn (fM (v:=.ref d) hg hm rfl hd Z7 s σ H (fun v H'=>v=.ref d/\tk σ H' _) I ⟨rfl,h⟩) fun o s1 ⟨v,H1,I1,r1,ev,q1⟩=>?_)) hc;subst ev;obtain rfl:o=Value.ref d:=r1;refine thn (hk Z7 s1 σ H1 _ I1 q1) fun i s2 ⟨y,H2,I2,ry,q2⟩=>?_;obtain⟨z,rfl,q3⟩:=dU q2;obtain⟨sp,el,q4⟩:=cZ q3;obtain⟨f,fd,ps,hns,hf,hkp,hb⟩:=F z sp el;obtain⟨t',rfl⟩:=ry;obtain⟨m,fr⟩:=I2.fr;refine⟨⟨_,I2.kIn _ _ lk,rfl⟩,PySem.W.topGetDict_K fr I2.mod.kin lk kl hns ?_⟩;refine PySem.W.callWith_K (h₀:=X.base) I2.mod.kin hkp (thn (ha pos Z7 _ σ H2 _ (I2.tok _) q4) fun us s3 ⟨vs,H3,I3,r3,q5⟩=>⟨I3.kIn,?_⟩) he hpl;exact EC (E:=E0) hf hr hb .nil pass0 I3 r3 (by simpa using q5)
section
variable {tab:List (Str×Sp)} {tk to ti te:TE} {t:TA} {σ:St} {H:Hp} {Q:VK} {D:Ends} {p:Addr} {i j:Int} {aaV:V->V->Hp->VK->Prop} {tip:TIp} {aaW:TSet}
def UR:Ud tab tk t σ H Q=tk σ H fun y H1=>gQ y fun x=>gM (tab.lookup x) fun sp=>t σ H1 fun vs H2=>sp vs H2 Q E0:=rfl
def U3:Tj (.ref p) (.int i) H Q=dP (H p) fun xs=>gM (kY xs i) fun v=>Q v H:=rfl
def XD:Xc (.int i) (.int j) H Q=Q (.int (i+j)) H:=rfl
def UL:Uc to ti te aaV tip aaW D σ H=to σ H fun o H1=>ti σ H1 fun i H2=>aaV o i H2 fun x H3=>te σ H3 fun y H4=>tip x y H4 fun z H5=>aaW o i z H5 fun H6=>D.nx σ H6:=rfl
def Xt{i:Nat}{ti:TIp}:Yz i te ti D σ H = ∃ x,σ[i]?=some (some x)/\te σ H fun y H1=>ti x y H1 fun z H2=>D.nx (σ.set i (some z)) H2:=rfl
end
def intKeys:List (Key×V)->Option (List Int)
 | []=>some []
 | (.inl i,_)::r=>(intKeys r).map (i::·)
 | _=>none
def AK:∀ {kvs:List (Key×V)} {ns:List Int},intKeys kvs=some ns->kvs.length=ns.length/\∀(j:Nat) (k:Key) (x:V),kvs[j]?=some (k,x)->∃ i:Int,k=.inl i/\ns[j]?=some i
 | [],ns,h=>by cases h;exact⟨rfl,fun j k x e=>by simp at e⟩
 | (k,v)::kvs,ns,h=>by
  cases k with
  | inl i =>
   simp only[intKeys,Option.map_eq_some_iff] at h;obtain⟨ms,e,rfl⟩:=h;obtain⟨l,f⟩:=AK e;refine⟨by simp[l],fun j k x ej=>?_⟩;cases j with
   | zero=>simp only[List.getElem?_cons_zero,Option.some.injEq,Prod.mk.injEq] at ej;exact⟨i,ej.1.symm,rfl⟩
   | succ j=>exact f j k x (by simpa using ej)
  | _=>cases h
def JU{ns:List Int}:∀ {vs:List Value},vs.length=ns.length->(∀(j:Nat) (v:Value),vs[j]?=some v->∃ i t,ns[j]?=some i/\v=Value.int i t)->IntsAre vs ns:=by
 induction ns with
 | nil =>
  intro vs hl _;cases vs with
  | nil=>exact .nil
  | cons _ _=>simp at hl
 | cons n ns ih =>
  intro vs hl h;cases vs with
  | nil=>simp at hl
  | cons v vs =>
   obtain⟨i,t,e,rfl⟩:=h 0 v rfl;cases e;exact .cons _ _ (ih (by simpa using hl) fun j v e=>h (j+1) v (by simpa using e))
def dF.there{P:Program}{w:World}{H:Hp}{h:Heap}{a:Addr}{o:HO}(x:dF P w H h a o):∃ ob,h.get? a=some ob:=by
 cases o with
 | lst xs=>obtain⟨_,_,_,_,e⟩:=x;exact⟨_,e⟩
 | tup xs=>obtain⟨_,_,_,o,e,_⟩:=x;exact⟨_,e⟩
 | dK kvs=>obtain⟨_,_,_,_,o,_,_,e,_⟩:=x;exact⟨_,e⟩
 | dT kvs=>obtain⟨_,_,_,_,o,_,_,e,_⟩:=x;exact⟨_,e⟩
 | set S n=>obtain⟨o,_,_,_,e,_⟩:=x;exact⟨_,e⟩
 | ins C dx fs=>obtain⟨_,_,_,e,_⟩:=x;exact⟨_,e⟩
 | own y=>obtain⟨_,e⟩:=x;exact⟨_,e⟩
 | xd fs=>obtain⟨_,⟨_,_,_,e,_⟩,_⟩:=x;exact⟨_,e⟩
 | rng lo hi=>obtain⟨_,_,_,e⟩:=x;exact⟨_,e⟩
 | frz ob u=>obtain⟨e,_⟩:=x;exact⟨_,e⟩
 | tbl ps=>exact⟨_,(show h.get? a=some _ from x)⟩
 | met f y=>exact⟨_,(show h.get? a=some _ from x)⟩
 | ext φ=>obtain⟨_,⟨_,e⟩,_⟩:=x;exact⟨_,e⟩
section
variable {H:Hp} {Q:VK} {p:Addr}
end
section
variable {X:Cx} {Z7:List (Addr×Obj)} {σ:St} {H:Hp} {s:Shared} {h':Heap}
def Z9.Kz{t':Nat}{ch:List Addr}{p:Addr}{xs:List V}(I:Z9 X Z7 σ H s)(hf:∀ b∈ch,lX X Z7 H b)(k:∀ b o,b∉ch->s.heap.get? b=some o->h'.get? b=some o)(hp:s.heap.objs.size<=p)
    (new:dF X.prog X.w (Z8 H p (.tup xs)) h' p (.tup xs)):Z9 X Z7 σ (Z8 H p (.tup xs)) {s with heap:=h',toks:=t'}:=by
  have hn:H p=none:=I.hok.fresh hp;have nch:∀ b u,H b=some u->b∉ch:=fun b u e z=>by rw[(hf b z).1] at e;cases e
  have nep:∀ {b u},H b=some u->b≠p:=fun {b u} e z=>by rw[z,hn] at e;cases e
  have aaQ:∀ {b u},H b=some u->Z8 H p (.tup xs) b=some u:=fun {b u} e=>by rw[aG (nep e)];exact e
  refine I.step (g':=s.gens) (d':=s.drawn) (ch:=ch) (fun b hb=>?_) (fun b o _ _ hc e _=>k b o hc e) (fun b o _ _ hc e _=>⟨o.slots,k b o hc e⟩)
    (fun b o _ e n=>?_) (fun b o hc e=>⟨o,k b o hc e⟩) (fun _ _ e=>aaQ e) (fun _ _ _ e=>aaQ e) (fun b ps e=>⟨#[],by rw[aaQ e];simp⟩) (fun m hm=>?_) (fun b u e=>?_) I.bare
  · obtain⟨_,f1,_,f3,f4,f5⟩:=hf b hb;exact⟨f3,f1,f4,f5⟩
  · rw[aG (Nat.ne_of_lt (Nat.lt_of_lt_of_le (Heap.lt_size e) hp))];exact n
  · obtain⟨o,es,ep,ho,r⟩:=hm;exact⟨o,es,ep,k _ o (fun z=>(hf _ z).2.1 rfl) ho,r⟩
  · by_cases hb:b=p
    · subst hb;rw[aA] at e;cases e;exact new
    · rw[aG hb] at e;refine(I.hok b u e).tW (fun c v hc q=>k c v ?_ q) (fun _ q=>aaQ q) fun _ _ q=>aaQ q;rcases hc with z|z
      · rw[z];exact nch b u e
      · exact nch c _ z
def Z9.Ky{t':Nat}{ch:List Addr}(I:Z9 X Z7 σ H s)(hf:∀ b∈ch,lX X Z7 H b)(k:∀ b o,b∉ch->s.heap.get? b=some o->h'.get? b=some o):Z9 X Z7 σ H {s with heap:=h',toks:=t'}:=by
 have nch:∀ b u,H b=some u->b∉ch:=fun b u e z=>by rw[(hf b z).1] at e;cases e
 refine I.step (g':=s.gens) (d':=s.drawn) (ch:=ch) (fun b hb=>?_) (fun b o _ _ hc e _=>k b o hc e) (fun b o _ _ hc e _=>⟨o.slots,k b o hc e⟩)
  (fun b o _ e n=>n) (fun b o hc e=>⟨o,k b o hc e⟩) (fun _ _ e=>e) (fun _ _ _ e=>e) (fun b ps e=>⟨#[],by rw[e];simp⟩) (fun m hm=>?_) (fun b u e=>?_) I.bare
 ·obtain⟨_,f1,_,f3,f4,f5⟩:=hf b hb;exact⟨f3,f1,f4,f5⟩
 ·obtain⟨o,es,ep,ho,r⟩:=hm;exact⟨o,es,ep,k _ o (fun z=>(hf _ z).2.1 rfl) ho,r⟩
 ·refine(I.hok b u e).tW (fun c v hc q=>k c v ?_ q) (fun _ q=>q) fun _ _ q=>q;rcases hc with z|z
  ·rw[z];exact nch b u e
  ·exact nch c _ z
end
def SOk(t:Bool)(h:Heap)(a:Addr)(us:Array Value):Prop:=match t with
 | true=>h.IsTuple a us
 | false=>h.IsList a us
def aaD(t:Bool)(h:Heap)(it a:Addr)(i:Nat):Prop:=match t with
 | true=>h.IsTupleIter it a i
 | false=>h.IsListIter it a i
def TU(t:Bool):String:=match t with
 | true=>"tuple_iterator"
 | false=>"list_iterator"
def SOk.keep{t:Bool}{h h':Heap}{a:Addr}{us:Array Value}(x:SOk t h a us)(e:∀ o,h.get? a=some o->h'.get? a=some o):SOk t h' a us:=by
 cases t<;>(obtain⟨o,ho,r⟩:=x;exact⟨o,e o ho,r⟩)
def aaD.keep{t:Bool}{h h':Heap}{it a:Addr}{i:Nat}(x:aaD t h it a i)(e:∀ o,h.get? it=some o->h'.get? it=some o):aaD t h' it a i:=by
 cases t<;>(obtain⟨o,ho,r⟩:=x;exact⟨o,e o ho,r⟩)
def aaD.obj{t:Bool}{h:Heap}{it a:Addr}{i:Nat}(x:aaD t h it a i):∃ o,h.get? it=some o/\∀ v,o.data≠.cell v:=by
 cases t<;>(obtain⟨o,ho,c,d⟩:=x;exact⟨o,ho,fun v z=>by rw[d] at z;cases z⟩)
section
variable {prog:Program} {w:World} {A:Around} {E:q0A} {s:Shared}
def IE{it l:Addr}{i:Nat}{us:Array Value}{x:Value}{Q:q0A}(st:s.heap.IsTupleIter it l i)(sq:s.heap.IsTuple l us)(hx:us[i]?=some x)
    (fin:∀ h',h'.IsTupleIter it l (i+1)->Heap.SameBut it s.heap h'->Q x {s with heap:=h'}):wpAny (model prog w) A (Builtin.SmallTypes.nextOf (.ref it)) Q E s:=by
  obtain⟨oi,hoi,ci,di⟩:=id st;obtain⟨ot,hot,_,nt,dt⟩:=sq;unfold Builtin.SmallTypes.nextOf;refine wpAny_bind (wpAny_callSpecial?_slot (name:=Str.ofString "__next__") st.typeIs F.slot_tuple_iterator_next (wpAny_call_entry F.slot_tuple_iterator_next st.typeIs F.entry_tuple_iterator_next ?_ (F.args_tuple_iterator_next_1 _)));show wpAny _ _ (field (.ref it) 0 >>= _) _ _ s;refine wpAny_bind (wpAny_field hoi di (x:=.ref l) rfl ?_);show wpAny _ _ (if (Value.ref l==Value.none)=true then _ else _) _ _ s;rw[if_neg (show ¬ ((Value.ref l==Value.none)=true) from Bool.false_ne_true)];show wpAny _ _ (field (.ref it) 1 >>= _) _ _ s;refine wpAny_bind (wpAny_field hoi di (x:=.int i 0) rfl ?_);show wpAny _ _ (seqItems? (.ref l) >>= _) _ _ s;refine wpAny_bind (wpAny_seqItems hot dt ?_);simp only[hx,Int.toNat_natCast];refine wpAny_bind (wpAny_setField hoi di (by simp) (wpAny_pure ⟨x,rfl,wpAny_pure (fin _ ?_ (Heap.SameBut.update ..))⟩));exact⟨_,Heap.get?_update_self _ hoi (Obj.isFreed_of_fields (Obj.data_mapFields di _)),(Obj.cls_mapFields ..).trans ci,by rw[Obj.data_mapFields di];simp[rawInt]⟩
def LZ{it l:Addr}{i:Nat}{us:Array Value}{Q:q0A}(hh:A.handled=none)(st:s.heap.IsTupleIter it l i)(sq:s.heap.IsTuple l us)(hx:us[i]?=none)
    (fin:∀ h' e,Heap.ExtBut it s.heap h'->(∃ o,h'.get? e=some o/\o.cls=.type "StopIteration")->E (.ref e) {s with heap:=h'}):wpAny (model prog w) A (Builtin.SmallTypes.nextOf (.ref it)) Q E s:=by
  obtain⟨oi,hoi,ci,di⟩:=id st;obtain⟨ot,hot,_,nt,dt⟩:=sq;unfold Builtin.SmallTypes.nextOf;refine wpAny_bind (wpAny_callSpecial?_slot (name:=Str.ofString "__next__") st.typeIs F.slot_tuple_iterator_next (wpAny_call_entry F.slot_tuple_iterator_next st.typeIs F.entry_tuple_iterator_next ?_ (F.args_tuple_iterator_next_1 _)));show wpAny _ _ (field (.ref it) 0 >>= _) _ _ s;refine wpAny_bind (wpAny_field hoi di (x:=.ref l) rfl ?_);show wpAny _ _ (if (Value.ref l==Value.none)=true then _ else _) _ _ s;rw[if_neg (show ¬ ((Value.ref l==Value.none)=true) from Bool.false_ne_true)];show wpAny _ _ (field (.ref it) 1 >>= _) _ _ s;refine wpAny_bind (wpAny_field hoi di (x:=.int i 0) rfl ?_);show wpAny _ _ (seqItems? (.ref l) >>= _) _ _ s;refine wpAny_bind (wpAny_seqItems hot dt ?_);simp only[hx,Int.toNat_natCast];refine wpAny_bind (wpAny_rule (wpAny_bind (wpAny_setField hoi di (by simp) ?_)));show wpAny _ _ (newExc (.type "StopIteration") [] >>= _) _ _ _;refine wpAny_bind ?_;simp only[newTuple,newExc];refine wpAny_bind (wpAny_newObj_type ?_ (by size_fits));refine wpAny_bind (m:=firstArgMember _ _) (wpAny_of_eq (a:=Value.none) (by first|rfl|(simp only[firstArgMember];rfl)) ?_);refine wpAny_newObj_type ?_ (by size_fits)
  simp only[raiseNew];refine wpAny_bind (wpAny_handled ?_);first|rw[hh]|rw[show A.in1.handled=none from hh]
  exact wpAny_bind (wpAny_pure (wpAny_throw (fin _ _ (((Heap.SameBut.update ..).extBut.push _).push _) ⟨_,Heap.get?_push_size _ rfl,rfl⟩)))
def rE{t:Bool}{it l:Addr}{i:Nat}{us:Array Value}{x:Value}{Q:q0A}(st:aaD t s.heap it l i)(sq:SOk t s.heap l us)(hx:us[i]?=some x)
    (fin:∀ h',aaD t h' it l (i+1)->Heap.SameBut it s.heap h'->Q x {s with heap:=h'}):wpAny (model prog w) A (Builtin.SmallTypes.nextOf (.ref it)) Q E s:=by
  cases t
  · exact wpAny_nextOf_list_item st sq hx fin
  · exact IE st sq hx fin
def Dg{t:Bool}{it l:Addr}{i:Nat}{us:Array Value}{Q:q0A}(hh:A.handled=none)(st:aaD t s.heap it l i)(sq:SOk t s.heap l us)(hx:us[i]?=none)
    (fin:∀ h' e,Heap.ExtBut it s.heap h'->(∃ o,h'.get? e=some o/\o.cls=.type "StopIteration")->E (.ref e) {s with heap:=h'}):wpAny (model prog w) A (Builtin.SmallTypes.nextOf (.ref it)) Q E s:=by
  cases t
  · exact wpAny_nextOf_list_end hh st sq hx fin
  · exact LZ hh st sq hx fin
def MO{z ti to i1 i2 a b:Addr}{t1 t2:Bool}{k:Nat}{us vs:Array Value}{x y p q:Value}{Q:q0A}(D:ZipApart z ti to i1 i2 a b)
    (ez:IsZip s.heap z ti to .none) (et:IsPair s.heap ti (.ref i1) (.ref i2)) (eo:IsPair s.heap to p q) (w1:aaD t1 s.heap i1 a k) (w2:aaD t2 s.heap i2 b k) (q1:SOk t1 s.heap a us) (q2:SOk t2 s.heap b vs) (hx:us[k]?=some x) (hy:vs[k]?=some y)
    (done:∀ h',IsZip h' z ti to (rawInt s.heap.objs.size)->IsPair h' to x y->aaD t1 h' i1 a (k+1)->aaD t2 h' i2 b (k+1)->IsPair h' s.heap.objs.size x y ->
      (∀ c o,c∉[z,ti,to,i1,i2]->s.heap.get? c=some o->h'.get? c=some o)->IsPair h' ti (.ref i1) (.ref i2)->Q (.ref s.heap.objs.size) {s with heap:=h'}) :
    wpAny (model prog w) A (Builtin.«zip.__next__» ⟨[.ref z],[]⟩) (fun r s'=>∃ v,r=.done (.ret v)/\Q v s') E s:=by
  show wpAny _ _ (field (.ref z) 2 >>= _) _ _ _;refine wpAny_bind (wpAny_field ez rfl (x:=.bool false) rfl ?_);show wpAny _ _ (field (.ref z) 3 >>= _) _ _ _;refine wpAny_bind (wpAny_field ez rfl (x:=.ref ti) rfl (wpAny_bind (wpAny_seqItems et rfl ?_)));show wpAny _ _ (Builtin.SmallTypes.ownedTupleIsFree (.ref z) >>= _) _ _ _;refine wpAny_bind ?_;unfold Builtin.SmallTypes.ownedTupleIsFree;refine wpAny_bind (wpAny_field ez rfl (x:=.none) rfl (wpAny_pure ?_));simp only[if_true];refine wpAny_bind (wpAny_rule (wpAny_bind (wpAny_field ez rfl (x:=.ref to) rfl (wpAny_bind (wpAny_setField_rec ez (by simp) fun g1 z1 b1=>?_)))));replace z1:IsZip g1 z ti to .ellipsis:=z1;refine wpAny_bind ?_;simp only[List.forIn_cons,List.forIn_nil,List.zipIdx_cons,List.zipIdx_nil];refine wpAny_bind (wpAny_bind (wpAny_onRaise ?_));show wpAny _ _ (Builtin.SmallTypes.nextOf (.ref i1) >>= _) _ _ _;refine wpAny_bind (rE (w1.keep fun o e=>b1.extBut _ _ D.i1z e) (q1.keep fun o e=>b1.extBut _ _ D.l1z e) hx fun g2 v2 b2=>wpAny_pure ?_);have o2:IsPair g2 to p q:=b2.extBut _ _ D.TOi1 (b1.extBut _ _ D.TOz eo);refine wpAny_bind (wpAny_seqItems o2 rfl (wpAny_bind (wpAny_updateSeq_pair o2 fun g3 o3 b3=>?_)));replace o3:IsPair g3 to x q:=o3;refine wpAny_bind (wpAny_letGo (wpAny_pure (wpAny_bind (wpAny_bind (wpAny_onRaise ?_)))));show wpAny _ _ (Builtin.SmallTypes.nextOf (.ref i2) >>= _) _ _ _;refine wpAny_bind (rE (w2.keep fun o e=>b3.extBut _ _ D.TOi2.symm (b2.extBut _ _ D.i12.symm (b1.extBut _ _ D.i2z e))) (q2.keep fun o e=>b3.extBut _ _ D.l2TO (b2.extBut _ _ D.l2i1 (b1.extBut _ _ D.l2z e))) hy fun g4 v4 b4=>wpAny_pure ?_);have o4:IsPair g4 to x q:=b4.extBut _ _ D.TOi2 o3;refine wpAny_bind (wpAny_seqItems o4 rfl (wpAny_bind (wpAny_updateSeq_pair o4 fun g5 o5 b5=>?_)));replace o5:IsPair g5 to x y:=o5;refine wpAny_bind (wpAny_letGo (wpAny_pure (wpAny_pure (wpAny_bind (wpAny_seqItems o5 rfl (wpAny_bind (wpAny_newTuple ?_)))))));have sz:g5.objs.size=s.heap.objs.size:=by rw[b5.1,b4.1,b3.1,b2.1,b1.1]
  have z5:IsZip g5 z ti to .ellipsis:=b5.extBut _ _ D.TOz.symm (b4.extBut _ _ D.i2z.symm (b3.extBut _ _ D.TOz.symm (b2.extBut _ _ D.i1z.symm z1)));have lz:z < g5.objs.size:=Heap.lt_size z5;show wpAny _ _ (Builtin.SmallTypes.ownedTupleHandOut (.ref z) (.ref g5.objs.size) >>= _) _ _ _;refine wpAny_bind ?_;unfold Builtin.SmallTypes.ownedTupleHandOut;have z6:IsZip (g5.push {cls:=.type "tuple",data:=.seq #[x,y]}) z ti to .ellipsis:=Heap.get?_push_of_some _ z5;refine wpAny_bind (wpAny_setField_rec z6 (by simp) fun g7 z7 b7=>?_);replace z7:IsZip g7 z ti to (rawInt g5.objs.size):=z7;refine wpAny_setField_rec z7 (by simp) fun g8 z8 b8=>?_;replace z8:IsZip g8 z ti to (rawInt g5.objs.size):=z8;have up:∀ c o,c≠z->g5.get? c=some o->g8.get? c=some o:=fun c o n e=>b8.extBut _ _ n (b7.extBut _ _ n (Heap.get?_push_of_some _ e));have p8:IsPair g8 g5.objs.size x y:=b8.extBut _ _ (Nat.ne_of_gt lz) (b7.extBut _ _ (Nat.ne_of_gt lz) (Heap.get?_push_size _ rfl));rw[sz] at z8 p8;refine wpAny_pure ⟨_,rfl,?_⟩;show Q (.ref g5.objs.size) _;rw[sz];have all:∀ c o,c≠z->c≠to->c≠i1->c≠i2->s.heap.get? c=some o->g8.get? c=some o:=fun c o c1 c2 c3 c4 e=>up c o c1 (b5.extBut _ _ c2 (b4.extBut _ _ c4 (b3.extBut _ _ c2 (b2.extBut _ _ c3 (b1.extBut _ _ c1 e)))));refine done g8 z8 (up _ _ D.TOz o5) (v2.keep fun o e=>up _ o D.i1z (b5.extBut _ _ D.TOi1.symm (b4.extBut _ _ D.i12 (b3.extBut _ _ D.TOi1.symm e)))) (v4.keep fun o e=>up _ o D.i2z (b5.extBut _ _ D.TOi2.symm e)) p8 (fun c o hc e=>?_) (all _ _ D.TIz D.TITO D.TIi1 D.TIi2 et);simp only[List.mem_cons,List.not_mem_nil,or_false,not_or] at hc;exact all c o hc.1 hc.2.2.1 hc.2.2.2.1 hc.2.2.2.2 e
def Qm{z ti to i1 i2 a b:Addr}{t1 t2:Bool}{k:Nat}{us vs:Array Value}{p q:Value}{Q:Fin->Shared->Prop}(hh:A.handled=none)(D:ZipApart z ti to i1 i2 a b)
    (ez:IsZip s.heap z ti to .none) (et:IsPair s.heap ti (.ref i1) (.ref i2)) (eo:IsPair s.heap to p q) (w1:aaD t1 s.heap i1 a k) (w2:aaD t2 s.heap i2 b k) (q1:SOk t1 s.heap a us) (q2:SOk t2 s.heap b vs) (out:us[k]?=none\/vs[k]?=none)
    (done:∀ h' e,(∀ c o,c∉[z,ti,to,i1,i2]->s.heap.get? c=some o->h'.get? c=some o)->(∃ o,h'.get? e=some o/\o.cls=.type "StopIteration")->E (.ref e) {s with heap:=h'}) :
    wpAny (model prog w) A (Builtin.«zip.__next__» ⟨[.ref z],[]⟩) Q E s:=by
  have done:∀ h' e,(∀ c o,c≠z->c≠to->c≠i1->c≠i2->s.heap.get? c=some o->h'.get? c=some o)->(∃ o,h'.get? e=some o/\o.cls=.type "StopIteration")->E (.ref e) {s with heap:=h'}:=fun h' e hk=>done h' e fun c o hc=>by
    simp only[List.mem_cons,List.not_mem_nil,or_false,not_or] at hc;exact hk c o hc.1 hc.2.2.1 hc.2.2.2.1 hc.2.2.2.2
  show wpAny _ _ (field (.ref z) 2 >>= _) _ _ _;refine wpAny_bind (wpAny_field ez rfl (x:=.bool false) rfl ?_);show wpAny _ _ (field (.ref z) 3 >>= _) _ _ _;refine wpAny_bind (wpAny_field ez rfl (x:=.ref ti) rfl (wpAny_bind (wpAny_seqItems et rfl ?_)));show wpAny _ _ (Builtin.SmallTypes.ownedTupleIsFree (.ref z) >>= _) _ _ _;refine wpAny_bind ?_;unfold Builtin.SmallTypes.ownedTupleIsFree;refine wpAny_bind (wpAny_field ez rfl (x:=.none) rfl (wpAny_pure ?_));simp only[if_true];refine wpAny_bind (wpAny_rule (wpAny_bind (wpAny_field ez rfl (x:=.ref to) rfl (wpAny_bind (wpAny_setField_rec ez (by simp) fun g1 z1 b1=>?_)))));replace z1:IsZip g1 z ti to .ellipsis:=z1;refine wpAny_bind ?_;simp only[List.forIn_cons,List.forIn_nil,List.zipIdx_cons,List.zipIdx_nil];refine wpAny_bind (wpAny_bind (wpAny_onRaise ?_));show wpAny _ _ (Builtin.SmallTypes.nextOf (.ref i1) >>= _) _ _ _;cases hx:us[k]? with
  | none =>
    refine wpAny_bind (Dg hh (w1.keep fun o e=>b1.extBut _ _ D.i1z e) (q1.keep fun o e=>b1.extBut _ _ D.l1z e) hx fun g2 e b2 x2=>?_);obtain⟨oe,he,ce⟩:=x2;have z2:IsZip g2 z ti to .ellipsis:=b2 _ _ D.i1z.symm z1;have nz:e≠z:=fun x=>by subst x;rw[z2] at he;cases he;simp at ce
    exact wpAny_setField_rec z2 (by simp) fun g3 _ b3=>done g3 e (fun c o c1 _ c3 _ x=>b3.extBut _ _ c1 (b2 _ _ c3 (b1.extBut _ _ c1 x))) ⟨oe,b3.extBut _ _ nz he,ce⟩
  | some x =>
    have hy:vs[k]?=none:=out.elim (fun h=>by rw[hx] at h;cases h) id;refine wpAny_bind (rE (w1.keep fun o e=>b1.extBut _ _ D.i1z e) (q1.keep fun o e=>b1.extBut _ _ D.l1z e) hx fun g2 v2 b2=>wpAny_pure ?_);have o2:IsPair g2 to p q:=b2.extBut _ _ D.TOi1 (b1.extBut _ _ D.TOz eo);refine wpAny_bind (wpAny_seqItems o2 rfl (wpAny_bind (wpAny_updateSeq_pair o2 fun g3 o3 b3=>?_)));refine wpAny_bind (wpAny_letGo (wpAny_pure (wpAny_bind (wpAny_bind (wpAny_onRaise ?_)))));show wpAny _ _ (Builtin.SmallTypes.nextOf (.ref i2) >>= _) _ _ _;refine wpAny_bind (Dg hh (w2.keep fun o e=>b3.extBut _ _ D.TOi2.symm (b2.extBut _ _ D.i12.symm (b1.extBut _ _ D.i2z e))) (q2.keep fun o e=>b3.extBut _ _ D.l2TO (b2.extBut _ _ D.l2i1 (b1.extBut _ _ D.l2z e))) hy fun g4 e b4 x4=>?_);obtain⟨oe,he,ce⟩:=x4;have z4:IsZip g4 z ti to .ellipsis:=b4 _ _ D.i2z.symm (b3.extBut _ _ D.TOz.symm (b2.extBut _ _ D.i1z.symm z1));have nz:e≠z:=fun x=>by subst x;rw[z4] at he;cases he;simp at ce
    exact wpAny_setField_rec z4 (by simp) fun g5 _ b5=>done g5 e (fun c o c1 c2 c3 c4 x=>b5.extBut _ _ c1 (b4 _ _ c4 (b3.extBut _ _ c2 (b2.extBut _ _ c3 (b1.extBut _ _ c1 x))))) ⟨oe,b5.extBut _ _ nz he,ce⟩
end
section
variable {prog:Program} {w:World} {A:Around} {E:q0A} {s:Shared}
def TH{t:Bool}{a:Addr}{us:Array Value}{Q:q0A}(sq:SOk t s.heap a us)(q:Q (.ref s.heap.objs.size) {s with heap:=s.heap.push {cls:=.type (TU t),data:=.fields #[.ref a,.int 0 0]}}) :
    wpAny (model prog w) A (pyIter (.ref a)) Q E s:=by
  cases t
  · exact wpAny_pyIter_list sq q
  · exact wpAny_pyIter_tuple sq q
abbrev zs1(h:Heap)(t:Bool)(a:Addr):Heap:=h.push {cls:=.type (TU t),data:=.fields #[.ref a,.int 0 0]}
abbrev zs2(h:Heap)(t u:Bool)(a b:Addr):Heap:=zs1 (zs1 h t a) u b
abbrev zs3(h:Heap)(t u:Bool)(a b:Addr):Heap:=(zs2 h t u a b).push {cls:=.type "tuple",data:=.seq #[.ref h.objs.size,.ref (zs1 h t a).objs.size]}
abbrev zs4(h:Heap)(t u:Bool)(a b:Addr):Heap:=(zs3 h t u a b).push {cls:=.type "tuple",data:=.seq #[.none,.none]}
abbrev zs5(h:Heap)(t u:Bool)(a b:Addr):Heap:=(zs4 h t u a b).push {cls:=.type "zip",data:=.fields #[.none,.bool false,.bool false,.ref (zs2 h t u a b).objs.size,.ref (zs3 h t u a b).objs.size]}
def Qn(t u:Bool)(a b:Addr)(us vs:Array Value):Meets (Builtin.«zip.__new__» ⟨[.type "zip",.ref a,.ref b],[]⟩) (fun _ R s=>SOk t s.heap a us/\SOk u s.heap b vs/\R (.ok (.ret (.ref (zs4 s.heap t u a b).objs.size))) {s with heap:=zs5 s.heap t u a b}) :=
 .of_wp fun prog w A R s h=>by
  obtain⟨hp,g,d,tk,os⟩:=s;obtain⟨h1,h2,h⟩:=h;have hs:=sub_zip;have e1:SOk t (Shared.heap ⟨hp,g,d,tk,os⟩) a us:=h1;have e2:SOk u (Shared.heap ⟨zs1 hp t a,g,d,tk,os⟩) b vs:=h2.keep fun o e=>Heap.get?_push_of_some _ e;wp_walk using TH e1,TH e2;exact⟨_,rfl,h⟩
def Lg{t u:Bool}{a b:Addr}{us vs:Array Value}{Q:q0A}(q1:SOk t s.heap a us)(q2:SOk u s.heap b vs)
    (fin:∀ h',IsZip h' (s.heap.objs.size+4) (s.heap.objs.size+2) (s.heap.objs.size+3) .none->IsPair h' (s.heap.objs.size+2) (.ref s.heap.objs.size) (.ref (s.heap.objs.size+1))->IsPair h' (s.heap.objs.size+3) .none .none ->
      aaD t h' s.heap.objs.size a 0->aaD u h' (s.heap.objs.size+1) b 0->(∀ c o,s.heap.get? c=some o->h'.get? c=some o)->Q (.ref (s.heap.objs.size+4)) {s with heap:=h'}) :
    wpAny (model prog w) A (call (.type "zip") [.ref a,.ref b]) Q E s:=by
  refine callType_new F.called_zip (by decide) (F.typeCall_zip_2 _ _) (F.newCall_zip_2 _ _) (fun obj=>F.args_object_init_3 obj _ _) F.entry_zip_new (Qn t u a b us vs) ⟨q1,q2,?_⟩;have n1:(zs1 s.heap t a).objs.size=s.heap.objs.size+1:=Heap.size_push ..;have n2:(zs2 s.heap t u a b).objs.size=s.heap.objs.size+2:=by rw[Heap.size_push,n1]
  have n3:(zs3 s.heap t u a b).objs.size=s.heap.objs.size+3:=by rw[Heap.size_push,n2]
  have n4:(zs4 s.heap t u a b).objs.size=s.heap.objs.size+4:=by rw[Heap.size_push,n3]
  have up:∀ {h:Heap} {x y z:Obj} {c:Addr} {o:Obj},h.get? c=some o->(((h.push x).push y).push z).get? c=some o:=fun e=>Heap.get?_push_of_some _ (Heap.get?_push_of_some _ (Heap.get?_push_of_some _ e));have g5:(zs5 s.heap t u a b).get? (zs4 s.heap t u a b).objs.size=some _:=Heap.get?_push_size _ rfl;have g4:(zs5 s.heap t u a b).get? (zs3 s.heap t u a b).objs.size=some _:=Heap.get?_push_of_some _ (Heap.get?_push_size _ rfl);have g3:(zs5 s.heap t u a b).get? (zs2 s.heap t u a b).objs.size=some _:=Heap.get?_push_of_some _ (Heap.get?_push_of_some _ (Heap.get?_push_size _ rfl));have g2:(zs5 s.heap t u a b).get? (zs1 s.heap t a).objs.size=some _:=up (Heap.get?_push_size _ rfl);have g1:(zs5 s.heap t u a b).get? s.heap.objs.size=some _:=up (Heap.get?_push_of_some _ (Heap.get?_push_size _ rfl));show _/\_;rw[n2,n3,n4] at g5;rw[n1,n2] at g3;rw[n3] at g4;rw[n1] at g2;rw[n4];refine⟨⟨_,g5,rfl⟩,fin _ g5 g3 g4 ?_ ?_ fun c o x=>up (Heap.get?_push_of_some _ (Heap.get?_push_of_some _ x))⟩
  · cases t<;>exact⟨_,g1,rfl,rfl⟩
  · cases u<;>exact⟨_,g2,rfl,rfl⟩
end
def E3(K:q0B)(t:Bool)(H:Hp)(a:Addr)(xs:List V):Prop:=match t with
 | true=>fA K H a xs
 | false=>dR K H a xs
section
variable {X:Cx} {Z7:List (Addr×Obj)} {σ:St} {H:Hp} {s:Shared} {a:Addr} {xs ys:List V} {t:Bool}
def Z9.Je(I:Z9 X Z7 σ H s)(h:E3 X.K t H a xs):∃ its:List Value,Vals xs its/\SOk t s.heap a its.toArray:=by
 cases t
 ·obtain⟨its,rv,p,_⟩:=I.list h;exact⟨its,rv,p.isList⟩
 ·obtain⟨its,rv,p,_⟩:=I.tuple h;exact⟨its,rv,p⟩
def Z9.Hi(I:Z9 X Z7 σ H s)(h:E3 X.K t H a xs)(h':E3 X.K t H a ys):xs=ys:=by
 cases t
 ·exact I.AO h h'
 ·exact I.Dv h h'
def Z9.Kk(I:Z9 X Z7 σ H s)(h:E3 X.K t H a xs):a < s.heap.objs.size:=by
 obtain⟨its,_,q⟩:=I.Je h;cases t<;>(obtain⟨o,ho,_⟩:=q;exact Heap.lt_size ho)
end
def Itz(K:q0B)(t u:Bool)(a b:Addr):It :=
  ⟨fun i H=>∃ xs ys x y,E3 K t H a xs/\E3 K u H b ys/\xs[i]?=some x/\ys[i]?=some y,
   fun i H v H'=>∃ p x y,H p=none/\v=.ref p/\H'=Z8 H p (.tup [x,y])/\(∀ xs,E3 K t H a xs->xs[i]?=some x)/\∀ ys,E3 K u H b ys->ys[i]?=some y,
   fun i H=>∃ xs ys,E3 K t H a xs/\E3 K u H b ys/\(xs.length<=i\/ys.length<=i)⟩
def Ite(K:q0B)(a:Addr):It :=
  ⟨fun i H=>∃ xs x,dR K H a xs/\xs[i]?=some x,fun i H v H'=>∃ p x,H p=none/\v=.ref p/\H'=Z8 H p (.tup [.int i,x])/\∀ xs,dR K H a xs->xs[i]?=some x,
   fun i H=>∃ xs,dR K H a xs/\xs.length<=i⟩
structure WX(t u:Bool)(z ti to i1 i2 a b:Addr)(i:Nat)(h:Heap):Prop where
 ez:IsZip h z ti to .none
 et:IsPair h ti (.ref i1) (.ref i2)
 eo:∃ p q,IsPair h to p q
 e1:aaD t h i1 a i
 e2:aaD u h i2 b i
def Qg{P:Program}{w:World}{K:q0B}{elts:List Expr}{k:Nat}{pos:Pos}{t u:Bool}{z ti to i1 i2 a b:Addr}(D:ZipApart z ti to i1 i2 a b) :
    Turn P w K (.Tuple elts k pos) (Itz K t u a b) [z,ti,to,i1,i2] z (WX t u z ti to i1 i2 a b) where
  mem:=by simp
  obj:=fun i h st c hc=>by
    obtain⟨ez,et,⟨p,q,eo⟩,e1,e2⟩:=st;simp only[List.mem_cons,List.not_mem_nil,or_false] at hc;rcases hc with rfl|rfl|rfl|rfl|rfl
    · exact⟨_,ez,fun v y=>nomatch y⟩
    · exact⟨_,et,fun v y=>nomatch y⟩
    · exact⟨_,eo,fun v y=>nomatch y⟩
    · exact e1.obj
    · exact e2.obj
  keep:=fun i h h' st k=>by
    obtain⟨ez,et,⟨p,q,eo⟩,e1,e2⟩:=st;exact⟨k z (by simp) _ ez,k ti (by simp) _ et,⟨p,q,k to (by simp) _ eo⟩,e1.keep fun o e=>k i1 (by simp) o e,e2.keep fun o e=>k i2 (by simp) o e⟩
  item:=by
    intro X hP hw hK hc i Z7 s σ H E I hf st hg;subst hP hw hK;obtain⟨xs,ys,x,y,q1,q2,hx,hy⟩:=hg;obtain⟨ez,et,⟨p,q,eo⟩,e1,e2⟩:=st;obtain⟨us,r1,s1⟩:=I.Je q1;obtain⟨vs,r2,s2⟩:=I.Je q2;obtain⟨x',hx',rx⟩:=r1.get hx;obtain⟨y',hy',ry⟩:=r2.get hy;have hT:s.TypeIs (.ref z) "zip":=⟨_,ez,rfl⟩;unfold pyNext;refine wpAny_bind (wpAny_attempt (wpAny_callSpecial?_slot (name:=Str.ofString "__next__") hT F.slot_zip_next (wpAny_call_entry F.slot_zip_next hT F.entry_zip_next
      (MO (x:=x') (y:=y') D ez et eo e1 e2 s1 s2 (by simpa using hx') (by simpa using hy') fun h' z' o' v1 v2 np kk t'=>wpAny_pure ?_) (F.args_zip_next_1 _))))
    refine⟨_,rfl,wpAny_letOwnedTupleGo_zip z' fun h2 z2 b2=>?_⟩;have lt:∀ c∈[z,ti,to,i1,i2],c≠s.heap.objs.size:=fun c hc=>by
      simp only[List.mem_cons,List.not_mem_nil,or_false] at hc;rcases hc with rfl|rfl|rfl|rfl|rfl
      · exact Nat.ne_of_lt (Heap.lt_size ez)
      · exact Nat.ne_of_lt (Heap.lt_size et)
      · exact Nat.ne_of_lt (Heap.lt_size eo)
      · obtain⟨o,e,_⟩:=e1.obj;exact Nat.ne_of_lt (Heap.lt_size e)
      · obtain⟨o,e,_⟩:=e2.obj;exact Nat.ne_of_lt (Heap.lt_size e)
    refine⟨.ref s.heap.objs.size,Z8 H s.heap.objs.size (.tup [x,y]),I.Kz (t':=s.toks) (p:=s.heap.objs.size) (h':=h2) hf (fun c o hc e=>?_) (Nat.le_refl _) ⟨show 2<=sizeLine by decide,[x',y'],.cons rx (.cons ry .nil),?_⟩,rfl,⟨_,x,y,I.hok.fresh (Nat.le_refl _),rfl,rfl,fun l hl=>by rw[I.Hi hl q1];exact hx,fun l hl=>by rw[I.Hi hl q2];exact hy⟩,?_,fun c hc=>?_⟩
    · exact b2.extBut _ _ (fun q=>hc (by simp[q])) (kk c o hc e)
    · exact⟨_,b2.extBut _ _ (Ne.symm (lt z (by simp))) np,rfl,0,rfl⟩
    · exact⟨z2,b2.extBut _ _ D.TIz t',⟨_,_,b2.extBut _ _ D.TOz o'⟩,v1.keep fun o e=>b2.extBut _ _ D.i1z e,v2.keep fun o e=>b2.extBut _ _ D.i2z e⟩
    · rw[aG (lt c hc)];exact(hf c hc).1
  done:=by
    intro X hP hw hK hc i Z7 s σ H E I hf st hg;subst hP hw hK;obtain⟨xs,ys,q1,q2,hl⟩:=hg;obtain⟨ez,et,⟨p,q,eo⟩,e1,e2⟩:=st;obtain⟨us,r1,s1⟩:=I.Je q1;obtain⟨vs,r2,s2⟩:=I.Je q2;have l1:=r1.length;have l2:=r2.length;have hT:s.TypeIs (.ref z) "zip":=⟨_,ez,rfl⟩;unfold pyNext;refine wpAny_bind (wpAny_attempt (wpAny_callSpecial?_slot (name:=Str.ofString "__next__") hT F.slot_zip_next (wpAny_call_entry F.slot_zip_next hT F.entry_zip_next
      (Qm (I.ok.hd hc) D ez et eo e1 e2 s1 s2 (hl.imp (fun h=>by simp;omega) fun h=>by simp;omega) fun h' e kk he=>?_) (F.args_zip_next_1 _))))
    obtain⟨o,ho,co⟩:=he;exact wpAny_bind (wpAny_isInstance (T:="StopIteration") (b:=true) ⟨o,ho,co⟩ isSubtype_stop (wpAny_pure ⟨rfl,I.Ky (t':=s.toks) hf kk⟩))
  self:=fun _ _ _ _ _ st h=>wpAny_pyIter_zip st.ez h
def MJ{P:Program}{w:World}{K:q0B}{elts:List Expr}{k:Nat}{pos:Pos}{e it a:Addr}(ne:e≠it) :
    Turn P w K (.Tuple elts k pos) (Ite K a) [e,it] e (fun i h=>(∃ old,IsEnum h e it i old)/\h.IsListIter it a i) where
  mem:=by simp
  obj:=fun i h st c hc=>by
    obtain⟨⟨old,ee⟩,ei⟩:=st;simp only[List.mem_cons,List.not_mem_nil,or_false] at hc;rcases hc with rfl|rfl
    · exact⟨_,ee,fun v y=>nomatch y⟩
    · exact aaD.obj (t:=false) ei
  keep:=fun i h h' st k=>by
    obtain⟨⟨old,ee⟩,ei⟩:=st;exact⟨⟨old,k e (by simp) _ ee⟩,ei.at fun o q=>k it (by simp) o q⟩
  item:=by
    intro X hP hw hK hc i Z7 s σ H E I hf st hg;subst hP hw hK;obtain⟨xs,x,q1,hx⟩:=hg;obtain⟨⟨old,ee⟩,ei⟩:=st;obtain⟨us,r1,s1,_⟩:=I.list q1;obtain⟨x',hx',rx⟩:=r1.get hx;refine wpAny_pyNext_enum_item (x:=x') ee ei s1.isList (by simpa using hx') ne fun h' z' v' np _ kk=>?_;refine⟨_,rfl,wpAny_letOwnedTupleGo_enum z' fun h2 z2 b2=>?_⟩;have lt:∀ c∈[e,it],c≠s.heap.objs.size:=fun c hc=>by
      simp only[List.mem_cons,List.not_mem_nil,or_false] at hc;rcases hc with rfl|rfl
      · exact Nat.ne_of_lt (Heap.lt_size ee)
      · obtain⟨o,e,_⟩:=ei;exact Nat.ne_of_lt (Heap.lt_size e)
    refine⟨.ref s.heap.objs.size,Z8 H s.heap.objs.size (.tup [.int i,x]),I.Kz (t':=s.toks+1) (p:=s.heap.objs.size) (h':=h2) hf (fun c o hc e=>?_) (Nat.le_refl _) ⟨show 2<=sizeLine by decide,[.int i s.toks,x'],.cons ⟨_,rfl⟩ (.cons rx .nil),?_⟩,rfl,⟨_,x,I.hok.fresh (Nat.le_refl _),rfl,rfl,fun l hl=>by rw[I.AO hl q1];exact hx⟩,?_,fun c hc=>?_⟩
    · exact b2.extBut _ _ (fun q=>hc (by simp[q])) (kk c o (fun q=>hc (by simp[q])) (fun q=>hc (by simp[q])) e)
    · exact⟨_,b2.extBut _ _ (Ne.symm (lt e (by simp))) np,rfl,0,rfl⟩
    · exact⟨⟨_,by simpa using z2⟩,v'.extBut b2.extBut (Ne.symm ne)⟩
    · rw[aG (lt c hc)];exact(hf c hc).1
  done:=by
    intro X hP hw hK hc i Z7 s σ H E I hf st hg;subst hP hw hK;obtain⟨xs,q1,hl⟩:=hg;obtain⟨⟨old,ee⟩,ei⟩:=st;obtain⟨us,r1,s1,_⟩:=I.list q1;have l1:=r1.length;exact wpAny_pyNext_enum_end (I.ok.hd hc) ee ei s1.isList (by simp;omega) fun h' kk=>⟨rfl,I.Ky (t':=s.toks) hf fun c o hc q=>kk c o (fun z=>hc (by simp[z])) q⟩
  self:=fun _ _ _ _ _ st h=>by
    obtain⟨⟨old,ee⟩,_⟩:=st;exact wpAny_pyIter_enum ee h
section
variable {X:Cx} {elts:List Expr} {k:Nat} {tp:Pos}
def RK(K:q0B)(ta:TA):TI:=fun σ H R=>ta σ H fun vs H1=>on2 vs fun x y=>bC x fun a=>bC y fun b=>∃ t u,(∃ xs,E3 K t H1 a xs)/\(∃ ys,E3 K u H1 b ys)/\R (Itz K t u a b) H1
def RJ(K:q0B)(ta:TA):TI:=fun σ H R=>ta σ H fun vs H1=>on1 vs fun x=>bC x fun a=>(∃ xs,dR K H1 a xs)/\R (Ite K a) H1
def Pj{a b:Expr}{ta:TA}{p pos:Pos}(hg:Gl X "zip")(hm:X.mg "zip"=none)(ha:PA X [a,b] ta)(hs:starEach [a,b] X.env=[(false,eval a X.env),(false,eval b X.env)]:=by rfl)(hs2:starEach [b] X.env=[(false,eval b X.env)]:=by rfl) :
    PI X (.Tuple elts k tp) (.Call (.Name "zip" p) [a,b] [] pos) (RK X.K ta):=by
  intro Z7 s σ H R I h;refine Call_ (rA I hg hm boot_zip (PyProof.Rows.callWith_type1 (thn (ha pos Z7 s σ H _ I h) fun us s1 ⟨vs,H1,I1,r1,q1⟩=>?_) (by rw[hs,hs2]) (by rw[hs2];rfl)));obtain⟨x,y,rfl,q2⟩:=O5 q1;obtain⟨c,rfl,q3⟩:=aT q2;obtain⟨d,rfl,t,u,⟨xs,hx⟩,⟨ys,hy⟩,q⟩:=aT q3;cases r1 with
  | cons r rr =>
    cases rr with
    | cons r' rr =>
      cases rr;cases r;cases r';obtain⟨_,_,s2⟩:=I1.Je hx;obtain⟨_,_,s3⟩:=I1.Je hy;have l1:=I1.Kk hx;have l2:=I1.Kk hy;refine Lg s2 s3 fun h' ez et eo e1 e2 kk=>?_;have D:ZipApart (s1.heap.objs.size+4) (s1.heap.objs.size+2) (s1.heap.objs.size+3) s1.heap.objs.size (s1.heap.objs.size+1) c d:=by
        have ne:∀ j,c≠s1.heap.objs.size+j:=fun j=>Nat.ne_of_lt (Nat.lt_of_lt_of_le l1 (Nat.le_add_right _ _));have me:∀ j,d≠s1.heap.objs.size+j:=fun j=>Nat.ne_of_lt (Nat.lt_of_lt_of_le l2 (Nat.le_add_right _ _));have pp:∀ i j,i≠j->s1.heap.objs.size+i≠s1.heap.objs.size+j:=fun i j n q=>n (Nat.add_left_cancel q);exact⟨pp 2 4 (by decide),pp 3 4 (by decide),pp 0 4 (by decide),pp 1 4 (by decide),pp 2 3 (by decide),pp 2 0 (by decide),pp 2 1 (by decide),pp 3 0 (by decide),pp 3 1 (by decide),pp 0 1 (by decide),ne 4,ne 3,ne 0,ne 1,me 4,me 3,me 0,me 1⟩
      refine wpAny_pyIter_zip (s:={s1 with heap:=h'}) ez ⟨_,_,_,_,H1,rfl,I1.kept (t':=s1.toks) kk,Qg D,⟨ez,et,⟨_,_,eo⟩,e1,e2⟩,fun b hb=>?_,q⟩;have:s1.heap.objs.size<=b:=by
        simp only[List.mem_cons,List.not_mem_nil,or_false] at hb;rcases hb with rfl|rfl|rfl|rfl|rfl<;>first|exact Nat.le_add_right _ _|exact Nat.le_refl _
      exact I1.Cd this (I1.hok.fresh this)
def Sn{a:Expr}{ta:TA}{p pos:Pos}(hg:Gl X "enumerate")(hm:X.mg "enumerate"=none)(ha:PA X [a] ta)(hs:starEach [a] X.env=[(false,eval a X.env)]:=by rfl):PI X (.Tuple elts k tp) (.Call (.Name "enumerate" p) [a] [] pos) (RJ X.K ta):=by
 intro Z7 s σ H R I h;refine Call_ (rA I hg hm boot_enumerate (PyProof.Rows.callWith_type1 (thn (ha pos Z7 s σ H _ I h) fun us s1 ⟨vs,H1,I1,r1,q1⟩=>?_) hs rfl));have q1:on1 vs _:=q1;rw[<- Wc] at q1;obtain⟨x,rfl,q2⟩:=q1;obtain⟨c,rfl,⟨xs,hx⟩,q⟩:=aT q2;cases r1 with
 | cons r rr =>
  cases rr;cases r;obtain⟨_,_,s2,_⟩:=I1.list hx;refine call_enumerate_list s2.isList fun h' ee ei _ kk=>?_;refine wpAny_pyIter_enum (s:={s1 with heap:=h'}) ee ⟨_,_,_,_,H1,rfl,I1.kept (t':=s1.toks) kk,MJ (Nat.ne_of_gt (Nat.lt_succ_self _)),⟨⟨_,ee⟩,ei⟩,fun b hb=>?_,q⟩;have:s1.heap.objs.size<=b:=by
   simp only[List.mem_cons,List.not_mem_nil,or_false] at hb;rcases hb with rfl|rfl<;>first|exact Nat.le_succ _|exact Nat.le_refl _
  exact I1.Cd this (I1.hok.fresh this)
end
section
variable {σ:St} {H:Hp} {D:Ends} {g:TG} {tb:TS} {as:TA} {K:q0B}
def U0:BS (RK K as) g tb D σ H=as σ H fun vs H1=>on2 vs fun x y=>bC x fun a=>bC y fun b=>∃ t u,(∃ xs,E3 K t H1 a xs)/\(∃ ys,E3 K u H1 b ys)/\lp (Itz K t u a b) g tb D σ H1:=rfl
def UX:BS (RJ K as) g tb D σ H=as σ H fun vs H1=>on1 vs fun x=>bC x fun a=>(∃ xs,dR K H1 a xs)/\lp (Ite K a) g tb D σ H1:=rfl
def Of{a:Addr}{xs:List V}(Pv:Nat->St->Hp->Prop)(h0:Pv 0 σ H)(hl:∀ i σ H,i<=xs.length->Pv i σ H->dR K H a xs)
    (hs:∀(i:Nat) x σ H,xs[i]?=some x->Pv i σ H->∀ p,H p=none->g (.ref p) σ (Z8 H p (.tup [.int i,x])) fun σ2 H2=>tb {D with nx:=Pv (i+1),ct:=Pv (i+1),bk:=D.nx} σ2 H2) (hd:∀ σ H,Pv xs.length σ H->D.nx σ H):lp (Ite K a) g tb D σ H:=by
  refine⟨fun i m σ H=>m=xs.length - i/\i<=xs.length/\Pv i σ H,⟨xs.length,by simp,Nat.zero_le _,h0⟩,?_⟩;rintro i m σ H ⟨rfl,hi,pv⟩;have q1:=hl i σ H hi pv;by_cases lt:i < xs.length
  · refine .inr ⟨⟨xs,xs[i],q1,by simp[lt]⟩,Pv (i+1),fun σ' H' p'=>⟨xs.length - (i+1),by omega,rfl,lt,p'⟩,fun v H' yy=>?_⟩;obtain⟨p,x,hp,rfl,rfl,e1⟩:=yy;exact hs i x σ H (e1 xs q1) pv p hp
  · obtain rfl:i=xs.length:=by omega
    exact .inl ⟨⟨xs,q1,Nat.le_refl _⟩,hd σ H pv⟩
end
structure kJ(X:Cx)(sc:Scope)(cl:List (Str×Addr))(x y0:Str)(fr:List Nat)(N:List Str):Prop where
 kind:sc.kind=.function
 vP:∀ y∈sc.names,y.2≠.cell
 names:∀ y∈sc.names,y.2=.local->sc.names.lookup y.1=some .local
 DQ:closureFor sc X.env=pure cl
 sub:∀ y c,cl.lookup y=some c->X.env.cells.lookup y=some c
 has:∀ y,((relabel sc X.env).names.lookup y=some .cell\/(relabel sc X.env).names.lookup y=some .free)->∃ c,cl.lookup y=some c
 tgt:sc.names.lookup x=some .local
 WN:sc.names.lookup y0=some .local
 nd:N.Nodup
 N0:N=x::y0::fr.map fun j=>X.N.getD j x
 frc:∀ j∈fr,∃ y,X.N[j]?=some y/\X.env.kindOf y=some .cell/\((relabel sc X.env).names.lookup y=some .cell\/(relabel sc X.env).names.lookup y=some .free)
section
variable {X:Cx} {Z7:List (Addr×Obj)} {σ:St} {H:Hp} {s:Shared} {sc:Scope} {cl:List (Str×Addr)} {C:Addr} {x y0:Str} {fr:List Nat} {N:List Str} {fp:List Addr}
def Nu(I:Z9 X Z7 σ H s)(S:kJ X sc cl x y0 fr N)(hf:∀ b∈fp,lX X Z7 H b)(hfo:∀ b∈fp,b < s.heap.objs.size)(hC:s.heap.objs.size<=C) :
    (bO X sc cl C N s H fp (X.pn++Z7)).Ok where
  mod:=I.ok.mod
  kind:=S.kind
  glob:=I.ok.glob
  blt:=I.ok.blt
  above:=hC
  inj:=fun n z c h1 h2=>I.ok.inj n z c (S.sub n c h1) (S.sub z c h2)
  has:=S.has
  cab:=fun _ _ h=>by cases h
  hd:=I.ok.hd
  frames:=I.ok.frames
  stk:=.inl rfl
  exf:=fun b hb=>⟨Nat.ne_of_lt (Nat.lt_of_lt_of_le (hfo b hb) hC),fun n c e=>(hf b hb).2.2.2.2.1 n c (S.sub n c e)⟩
  bs:=I.bs
  bsz:=Nat.le_trans I.ok.bsz I.sz
  Gx:=fun b o e hb=>by
    rcases(hf b hb).2.2.2.1 with z|z
    · exact I.ok.Gx b o e z
    · exact absurd (Nat.lt_of_lt_of_le (Heap.lt_size e) (Nat.le_trans I.ok.bsz z)) (Nat.lt_irrefl _)
  Lp:=fun b hb hm=>by
    rcases List.mem_cons.mp (I.r8 b hm) with z|z
    · exact(hf b hb).2.1 z
    · exact(hf b hb).2.2.1 z
  sQ:=I.stack
  frf:=I.EV
def Lh(I:Z9 X Z7 σ H s)(S:kJ X sc cl x y0 fr N)(hf:∀ b∈fp,lX X Z7 H b)(hfo:∀ b∈fp,b < s.heap.objs.size)(hC:s.heap.objs.size<=C){h1:Heap}{t1:Nat}{m0:q0C}
    (hn:h1.Ns C m0) (hk:∀ b o,s.heap.get? b=some o->h1.get? b=some o):Z9 (bO X sc cl C N s H fp (X.pn++Z7)) [] (none::none::aY fr σ) H {s with heap:=h1,toks:=t1}:=by
  refine⟨Nu I S hf hfo hC,rfl,I.bare,Un.kept hk,⟨m0,hn,fun i y v e1 e2 e3=>?_⟩,fun y c e=>?_,I.hok.fresh hC,fun y c e=>I.lM y c (S.sub y c e),fun p hp=>?_,I.hok.kept hk,?_⟩
  · have e1':N[i]?=some y:=e1;rw[S.N0] at e1'
    match i,e1',e2 with
    | 0,_,e2=>exact absurd (show(some (none:Option V))=some (some v) from e2) (by simp)
    | 1,_,e2=>exact absurd (show(some (none:Option V))=some (some v) from e2) (by simp)
    | j+2,e1',e2 =>
      have aaJ:(fr.map fun j=>X.N.getD j x)[j]?=some y:=e1';have e2':(aY fr σ)[j]?=some (some v):=e2;unfold aY at e2';rw[List.getElem?_map] at aaJ e2';cases q:fr[j]? with
      | none=>rw[q] at aaJ;cases aaJ
      | some k =>
        rw[q] at aaJ e2';have ey:X.N.getD k x=y:=Option.some.inj aaJ;have ev:(σ[k]?).join=some v:=Option.some.inj e2';obtain⟨y',hy,aaL,abK⟩:=S.frc k (List.mem_of_getElem? q);have eyy:y=y':=by
          rw[<- ey,List.getD_eq_getElem?_getD,hy];rfl
        subst eyy;have ev':σ[k]?=some (some v):=by
          cases z:σ[k]? with
          | none=>rw[z] at ev;cases ev
          | some o =>
            rw[z] at ev;have ev2:o=some v:=ev;rw[ev2]
        obtain⟨m,_,hl⟩:=I.loc;obtain⟨u,r,l⟩:=hl k y v hy ev' (.inr (.inl aaL));refine⟨u,r,.inr ⟨abK,?_⟩⟩;rcases l with⟨z,_⟩|⟨_,c,hc,o,ho,hd⟩
        · rw[aaL] at z;cases z
        · obtain⟨c',hc'⟩:=S.has y abK;have z:=S.sub y c' hc';rw[hc] at z;cases z;exact⟨c,hc',o,hk c o ho,hd⟩
  · obtain⟨v,o,ho,hd⟩:=I.cell y c (S.sub y c e);exact⟨v,o,hk c o ho,hd⟩
  · have hp':p∈X.pn++Z7:=by
      have z:p∈(X.pn++Z7)++[]:=hp;simpa using z
    obtain⟨e,n,ne,nf,d⟩:=I.pin p hp';exact⟨hk _ _ e,n,Nat.ne_of_lt (Nat.lt_of_lt_of_le (Heap.lt_size e) hC),nostk I ne nf,d⟩
  · show(none::none::aY fr σ).length=N.length;rw[S.N0];simp[aY]
end
@[irreducible] def pG(K:q0B)(wi:TI)(fr:List Nat)(tc:TT)(te:TE):TE:=fun σ H Q=>wi σ H fun J H1=>∃ W:Nat->Nat->List V->Hp->Prop,(∃ m,W 0 m [] H1)/\∀ i m xs H,W i m xs H->xs.length<=1000000 /\
  ((J.stop i H/\∀ p,H p=none->Q (.ref p) (Z8 H p (.lst xs))) \/
   (J.go i H/\∀ v H',J.yld i H v H'->∃ p y y2,v=.ref p/\fA K H' p [y,y2]/\tc (some y::some y2::aY fr σ) H' fun b H2=>if b=true then te (some y::some y2::aY fr σ) H2 (fun z H3=>∃ m',m' < m/\W (i+1) m' (xs++[z]) H3) else ∃ m',m' < m/\W (i+1) m' xs H2))
section
variable {X:Cx} {sc:Scope} {cl:List (Str×Addr)} {x y0:Str} {fr:List Nat} {N:List Str} {elt iter:Expr} {px py tp pos:Pos} {tk:Nat} {ifs:List Expr} {wi:TI} {tc:TT} {te:TE}
def Fm(hc:X.calm=true)(hx:∀ e s,¬ X.xe e s)(S:kJ X sc cl x y0 fr N)
    (hb:∀ C s H ex pn,PTs (bO X sc cl C N s H ex pn) ifs tc/\PE (bO X sc cl C N s H ex pn) elt te)
    {Z7:List (Addr×Obj)} {σ:St} {H:Hp} {s:Shared} {it:Addr} {fp:List Addr} {tn:Nat->Heap->Prop} {J:It} {Q:VK} {RR:Value->Addr->Result->Shared->Prop} {E:q0A}
    (I:Z9 X Z7 σ H s) (T:Turn X.prog X.w X.K (.Tuple [.Name x px,.Name y0 py] tk tp) J fp it tn) (st:tn 0 s.heap) (hf:∀ b∈fp,lX X Z7 H b)
    {W:Nat->Nat->List V->Hp->Prop} {m0:Nat} (w0:W 0 m0 [] H)
    (turn:∀ i m xs H,W i m xs H->xs.length<=1000000 /\
      ((J.stop i H/\∀ p,H p=none->Q (.ref p) (Z8 H p (.lst xs))) \/
       (J.go i H/\∀ v H',J.yld i H v H'->∃ p y y2,v=.ref p/\fA X.K H' p [y,y2]/\tc (some y::some y2::aY fr σ) H' fun b H2=>if b=true then te (some y::some y2::aY fr σ) H2 (fun z H3=>∃ m',m' < m/\W (i+1) m' (xs++[z]) H3) else ∃ m',m' < m/\W (i+1) m' xs H2)))
    (fin:∀(D C:Addr) (s':Shared) (m':q0C) (H':Hp),s'.heap.Ns C m'->lX X Z7 H' C->(∀ h',Heap.SameBut C s'.heap h'->Z9 X Z7 σ H' {s' with heap:=h'})->Q (.ref D) H'->RR (.ref D) C (.ok .next) s') :
    wpAny (model X.prog X.w) X.A (newList []) (fun acc s₃=>wpAny (model X.prog X.w) X.A (newFunctionEnv sc X.env.globals cl [] X.env.qual none .none (some X.env)) (fun abD s₄ =>
      codeAny (model X.prog X.w) X.A (.compStart (.ListComp elt [⟨.Tuple [.Name x px,.Name y0 py] tk tp,iter,ifs,0⟩] sc pos) 0 (.ref it) acc {abD with scope:=relabel sc X.env}) (RR acc abD.locals) s₄) E s₃) E s:=by
  refine wpAny_newObj_type (wpAny_newFunctionEnv S.vP (by intro y hy;simp at hy) (fun h₁ aaU aaP=>?_) S.kind);dsimp only at aaU aaP ⊢;generalize hH2:s.heap.push {cls:=.type "list",dict:=none,data:=.seq ([]:List Value).toArray}=G2 at aaU aaP ⊢;have hCs:G2.objs.size=s.heap.objs.size+1:=by rw[<- hH2,Heap.size_push]
  have hDC:s.heap.objs.size≠G2.objs.size:=by rw[hCs];exact Nat.ne_of_lt (Nat.lt_succ_self _)
  have hC:s.heap.objs.size<=G2.objs.size:=by rw[hCs];exact Nat.le_succ _
  have below:∀ b,b < s.heap.objs.size->b≠G2.objs.size:=fun b hb=>by rw[hCs];exact Nat.ne_of_lt (Nat.lt_succ_of_lt hb)
  have old:∀ b o,s.heap.get? b=some o->h₁.get? b=some o:=fun b o e=>aaP.extBut b o (below b (Heap.lt_size e)) (Heap.get?_push_of_some _ (hH2▸Heap.get?_push_of_some _ e));have hD1:h₁.get? s.heap.objs.size=some {cls:=.type "list",data:=.seq ([]:List Value).toArray 0}:=aaP.extBut _ _ hDC (Heap.get?_push_of_some _ (hH2▸Heap.get?_push_size _ rfl));have hfo:∀ b∈fp,b < s.heap.objs.size:=fun b hbm=>by
    obtain⟨o,e,_⟩:=T.obj 0 s.heap st b hbm;exact Heap.lt_size e
  have hDn:H s.heap.objs.size=none:=I.hok.fresh (Nat.le_refl _)
  -- what stays true of the made list's place
  have ab8:s.heap.objs.size∉frs X.stack:=fun hm=>by
    rcases List.mem_cons.mp (I.r8 _ hm) with z|z
    · exact absurd I.lt (by rw[<- z];exact Nat.lt_irrefl _)
    · exact I.Wa (Nat.le_refl _) z
  have abC:∀ y c,cl.lookup y=some c->c≠s.heap.objs.size:=fun y c e z=>by
    obtain⟨v,q⟩:=I.cell y c (S.sub y c e);exact absurd q.lt (by rw[z];exact Nat.lt_irrefl _)
  have ab7:∀ p∈X.pn++Z7,p.1≠s.heap.objs.size:=fun p hp z=>absurd (Heap.lt_size (I.pin p hp).1) (by rw[z];exact Nat.lt_irrefl _);have Dfp:s.heap.objs.size∉fp:=fun hm=>Nat.lt_irrefl _ (hfo _ hm);have loop:∀ s₃:Shared,s₃={s with heap:=h₁,toks:=s.toks+([]:List (Str×Value)).length} ->
      codeAny (model X.prog X.w) X.A (.compLoop (.ListComp elt [⟨.Tuple [.Name x px,.Name y0 py] tk tp,iter,ifs,0⟩] sc pos) 0 (.ref it) (.ref s.heap.objs.size) (compEnvC sc cl G2.objs.size X.env)) (RR (.ref s.heap.objs.size) G2.objs.size) s₃:=by
    rintro s₃ rfl;have I0:Z9 (bO X sc cl G2.objs.size N s H fp (X.pn++Z7)) [] (none::none::aY fr σ) H {s with heap:=h₁,toks:=s.toks+([]:List (Str×Value)).length}:=Lh I S hf hfo hC aaU old;refine w9 (fun n s'=>∃(i:Nat) (xs:List V) (vals:List Value) (k:Nat) (v0 v1:Option V) (H':Hp),Z9 (bO X sc cl G2.objs.size N s H fp (X.pn++Z7)) [] (v0::v1::aY fr σ) H' s'/\tn i s'.heap/\(∀ b∈fp,H' b=none) /\
      s'.heap.get? s.heap.objs.size=some {cls:=.type "list",data:=.seq vals.toArray k}/\Vals xs vals/\H' s.heap.objs.size=none/\W i n xs H') ?_ m0
      ⟨0,[],[],0,none,none,H,I0,T.keep _ _ _ st fun b _ o e=>old b o e,fun b hb=>(hf b hb).1,hD1,.nil,hDn,w0⟩
    rintro n s1 ⟨i,xs,vals,k,v0,v1,H1,I1,st1,fr1,hg1,rv1,acA,w1⟩;have hlen:=rv1.length;obtain⟨hz,step⟩:=turn i n xs H1 w1;have hz2:xs.length<=sizeLine:=Nat.le_trans hz (by decide);have aaN:∀ {H':Hp} {pl:List (Addr×Obj)},(∀ b∈fp,H' b=none)->(∀ p∈pl,p.1=s.heap.objs.size)->∀ b∈fp,lX (bO X sc cl G2.objs.size N s H fp (X.pn++Z7)) pl H' b:=fun {H' pl} hn hpl b hb =>
      ⟨hn b hb,below b (hfo b hb),nostk I (hf b hb).2.1 (hf b hb).2.2.1,.inl hb,fun y c e=>(hf b hb).2.2.2.2.1 y c (S.sub y c e),fun p hp z=>by
        rcases List.mem_append.mp hp with q|q
        · exact(hf b hb).2.2.2.2.2 p q z
        · exact Dfp (by rw[<- hpl p q,z];exact hb)⟩
    have I1':Z9 (bO X sc cl G2.objs.size N s H fp (X.pn++Z7)) [(s.heap.objs.size,{cls:=.type "list",data:=.seq vals.toArray k})] (v0::v1::aY fr σ) H1 s1:=I1.kS fun p hp=>by
      have e:p=(s.heap.objs.size,{cls:=.type "list",data:=.seq vals.toArray k}):=by simpa using hp
      subst e;exact⟨hg1,acA,hDC,ab8,fun v z=>by cases z⟩
    rcases step with⟨stop,hq⟩|⟨go,step⟩
    · refine thn (T.done (bO X sc cl G2.objs.size N s H fp (X.pn++Z7)) rfl rfl rfl hc i [(s.heap.objs.size,{cls:=.type "list",data:=.seq vals.toArray k})] s1 _ H1 _ I1' (aaN fr1 fun p hp=>by
        have e:p=(s.heap.objs.size,{cls:=.type "list",data:=.seq vals.toArray k}):=by simpa using hp
        rw[e]) st1 stop) fun r s2 ⟨hr,I2⟩=>?_
      subst hr;obtain⟨g2,n2,_⟩:=I2.pin (s.heap.objs.size,{cls:=.type "list",data:=.seq vals.toArray k}) (List.mem_append_right _ (by simp));obtain⟨m2,hn2,_⟩:=I2.loc;have hCn:Z8 H1 s.heap.objs.size (.lst xs) G2.objs.size=none:=by
        rw[aG (Ne.symm hDC)];exact I2.free
      exact fin s.heap.objs.size G2.objs.size s2 m2 _ hn2 (I.Cd hC hCn) (fun h' hs'=>Fn I hf I2 hC (Nat.le_refl _) hDC n2 g2 rv1 hz2 hs') (hq _ n2)
    · refine thn (T.item (bO X sc cl G2.objs.size N s H fp (X.pn++Z7)) rfl rfl rfl hc i [(s.heap.objs.size,{cls:=.type "list",data:=.seq vals.toArray k})] s1 _ H1 _ I1' (aaN fr1 fun p hp=>by
        have e:p=(s.heap.objs.size,{cls:=.type "list",data:=.seq vals.toArray k}):=by simpa using hp
        rw[e]) st1 go) fun r s2 ⟨u,hr,h2⟩=>?_
      subst hr;refine thn h2 fun _ s3 ⟨vv,H3,I3,r3,y3,st3,fr3⟩=>?_;have I3':=I3.pinned (aaN fr3 fun p hp=>by
        have e:p=(s.heap.objs.size,{cls:=.type "list",data:=.seq vals.toArray k}):=by simpa using hp
        rw[e]) (T.obj _ _ st3)
      -- what the Z7 say again behind each part
      have back:∀ {σ9:St} {H9:Hp} {s9:Shared},Z9 (bO X sc cl G2.objs.size N s H fp (X.pn++Z7)) ([(s.heap.objs.size,{cls:=.type "list",data:=.seq vals.toArray k})]++v9 fp s3.heap) σ9 H9 s9 ->
          tn (i+1) s9.heap/\(∀ b∈fp,H9 b=none)/\s9.heap.get? s.heap.objs.size=some {cls:=.type "list",data:=.seq vals.toArray k}/\H9 s.heap.objs.size=none:=fun {σ9 H9 s9} I9=>by
        refine⟨T.keep _ _ _ st3 fun b hb o e=>(I9.pin (b,o) (List.mem_append_right _ (List.mem_append_right _ (gS hb e)))).1,fun b hb=>?_,?_⟩
        · obtain⟨o,e,d⟩:=T.obj _ _ st3 b hb;exact(I9.pin (b,o) (List.mem_append_right _ (List.mem_append_right _ (gS hb e)))).2.1
        · obtain⟨a1,a2,_⟩:=I9.pin (s.heap.objs.size,{cls:=.type "list",data:=.seq vals.toArray k}) (List.mem_append_right _ (List.mem_append_left _ (by simp)));exact⟨a1,a2⟩
      have hN0:(bO X sc cl G2.objs.size N s H fp (X.pn++Z7)).N[0]?=some x:=by
        show N[0]?=some x;rw[S.N0];rfl
      have hN1:(bO X sc cl G2.objs.size N s H fp (X.pn++Z7)).N[1]?=some y0:=by
        show N[1]?=some y0;rw[S.N0];rfl
      have abH:(relabel sc X.env).names.lookup x=some .local:=lookup_relabel_local S.tgt;have abX:(relabel sc X.env).names.lookup y0=some .local:=lookup_relabel_local S.WN;have hpg:PG (bO X sc cl G2.objs.size N s H fp (X.pn++Z7)) (.Tuple [.Name x px,.Name y0 py] tk tp) (RE X.K 2 (JP (sS 0) (JP (sS 1) RD))):=IU hc (lT (gK (i:=0) S.nd hN0 (.inl abH) (.inr abH)) (lT (gK (i:=1) S.nd hN1 (.inl abX) (.inr abX)) Eu));have noX:∀ e s',(bO X sc cl G2.objs.size N s H fp (X.pn++Z7)).xe e s'->xM X.prog X.w X.A (compEnvC sc cl G2.objs.size X.env) (RR (.ref s.heap.objs.size) G2.objs.size) e s':=fun e s' z=>(hx e s' z).elim;obtain⟨pp,y,y2,rfl,hpp,abJ⟩:=step vv H3 y3;refine wpAny_mono (hpg _ s3 _ H3 (.ref pp) u (fun σ' H'=>σ'=some y::some y2::aY fr σ/\H'=H3) I3' r3 ⟨pp,[y,y2],rfl,hpp,rfl,_,_,rfl,_,_,rfl,rfl,rfl,rfl⟩) (fun _ s4 ⟨σ4,H4,I4,e4,e4'⟩=>?_) noX;subst e4 e4';obtain⟨hbT,hbE⟩:=hb G2.objs.size s H fp (X.pn++Z7);refine wpAny_mono (hbT _ s4 _ H4 _ I4 abJ) (fun ok s5 ⟨H5,I5,q5⟩=>?_) noX;cases ok with
      | false =>
        rw[if_neg Bool.false_ne_true];have q5':∃ m',m' < n/\W (i+1) m' xs H5:=q5;obtain⟨m',hm,w5⟩:=q5';obtain⟨b1,b2,b3,b4⟩:=back I5;exact⟨m',hm,i+1,xs,vals,k,some y,some y2,H5,I5.kS (fun p hp=>absurd hp (by simp)),b1,b2,b3,rv1,b4,w5⟩
      | true =>
        rw[if_pos rfl];refine wpAny_mono (hbE _ s5 _ H5 _ I5 q5) (fun z s6 ⟨v6,H6,I6,r6,q6⟩=>?_) noX;obtain⟨m',hm,w6⟩:=q6;obtain⟨b1,b2,b3,b4⟩:=back I6;refine call_meets F.slot_list_append ⟨_,b3,rfl⟩ F.entry_list_append (F.args_list_append_2 _ _) (PySem.list_append s.heap.objs.size vals.toArray k z (by rw[List.size_toArray];omega)) ⟨b3,?_⟩;have q7:=PySem.IsL.update b3 (fun a:Array Value=>a.push z);have abI:vals.toArray.push z=(vals++[z]).toArray:=by simp
        rw[abI] at q7;have I6':Z9 (bO X sc cl G2.objs.size N s H fp (X.pn++Z7)) [] (some y::some y2::aY fr σ) H6 s6:=I6.kS (fun p hp=>absurd hp (by simp));have others:∀ b o,b≠s.heap.objs.size->s6.heap.get? b=some o->(s6.heap.update s.heap.objs.size (Obj.mapSeq fun a=>a.push z)).get? b=some o:=fun b o hb' e=>(Heap.get?_update_other _ _ (Ne.symm hb')).trans e;refine⟨m',hm,i+1,xs++[v6],vals++[z],_,some y,some y2,H6,I6'.turned (it:=s.heap.objs.size) others b4 hDC (.inr (Nat.le_refl _)) abC (fun p hp z'=>?_),T.keep _ _ _ b1 fun b hb' o e=>others b o (fun z'=>Dfp (by rw[<- z'];exact hb')) e,b2,q7,rv1.append (.cons r6 .nil),b4,w6⟩;have hp':p∈X.pn++Z7:=by
          have z2:p∈(X.pn++Z7)++[]:=hp;simpa using z2
        exact ab7 p hp' z'
  exact codeAny_compStart_list (loop _ rfl) (T.self _ _ _ _ _ (T.keep _ _ _ st fun b _ o e=>old b o e) (loop _ rfl))
def GQ(hc:X.calm=true)(hx:∀ e s,¬ X.xe e s)(S:kJ X sc cl x y0 fr N)(hi:PI X (.Tuple [.Name x px,.Name y0 py] tk tp) iter wi)
    (hb:∀ C s H ex pn,PTs (bO X sc cl C N s H ex pn) ifs tc/\PE (bO X sc cl C N s H ex pn) elt te)
    (hs:∀ v,foldedSetIterable iter X.env v=pure v:=by intro _;rfl):PE X (.ListComp elt [⟨.Tuple [.Name x px,.Name y0 py] tk tp,iter,ifs,0⟩] sc pos) (pG X.K wi fr tc te):=by
  intro Z7 s σ H Q I h;unfold pG at h;rw[eval_ListComp];refine wpAny_comprehension_free (use:=none) rfl hs S.DQ S.kind S.names ?_;refine thn (hi Z7 s σ H _ I h) fun v s1 h1=>thn h1 fun itv s2 h2=>?_;obtain⟨it,fp,tn,J,H2,e,I2,T,st2,f2,W,⟨m0,w0⟩,turn⟩:=h2;subst e;refine Fm (RR:=fun acc C=>compPost (model X.prog X.w) X.A X.xe none (EP X Z7 σ Q) acc C) hc hx S hb I2 T st2 f2 w0 turn ?_;intro D C s' m' H' hn _ abG q;exact⟨m',hn,fun h' hs'=>⟨.ref D,H',abG h' hs',rfl,q⟩⟩
end
def kJ.of{X:Cx}{sc:Scope}{cl:List (Str×Addr)}{x y0:Str}{fr:List Nat}{N M:List Str}(S:c5 X sc cl x fr M)(WN:sc.names.lookup y0=some .local)(nd:N.Nodup)(N0:N=x::y0::fr.map fun j=>X.N.getD j x):kJ X sc cl x y0 fr N :=
 ⟨S.kind,S.vP,S.names,S.DQ,S.sub,S.has,S.tgt,WN,nd,N0,S.frc⟩
def lc2(K:q0B)(J:It)(fr:List Nat)(tc:TT)(te:TE)(σ:St)(H:Hp)(Q:VK):Prop:=∃ W:Nat->Nat->List V->Hp->Prop,(∃ m,W 0 m [] H)/\∀ i m xs H,W i m xs H->xs.length<=1000000 /\
  ((J.stop i H/\∀ p,H p=none->Q (.ref p) (Z8 H p (.lst xs))) \/
   (J.go i H/\∀ v H',J.yld i H v H'->∃ p y y2,v=.ref p/\fA K H' p [y,y2]/\tc (some y::some y2::aY fr σ) H' fun b H2=>if b=true then te (some y::some y2::aY fr σ) H2 (fun z H3=>∃ m',m' < m/\W (i+1) m' (xs++[z]) H3) else ∃ m',m' < m/\W (i+1) m' xs H2))
section
variable {fr:List Nat} {tc:TT} {te:TE} {σ:St} {H:Hp} {Q:VK} {as:TA} {K:q0B}
def NI:pG K (RK K as) fr tc te σ H Q=as σ H fun vs H1=>on2 vs fun x y=>bC x fun a=>bC y fun b=>∃ t u,(∃ xs,E3 K t H1 a xs)/\(∃ ys,E3 K u H1 b ys)/\lc2 K (Itz K t u a b) fr tc te σ H1 Q:=by
 unfold pG RK;rfl
def NG:pG K (RJ K as) fr tc te σ H Q=as σ H fun vs H1=>on1 vs fun x=>bC x fun a=>(∃ xs,dR K H1 a xs)/\lc2 K (Ite K a) fr tc te σ H1 Q:=by
 unfold pG RJ;rfl
def OG{t u:Bool}{a b:Addr}{us vs:List V}(hlen:us.length=vs.length)(Pv:Nat->List V->Hp->Prop)(h0:Pv 0 [] H)(hz:∀ i xs H,Pv i xs H->xs.length<=1000000)(hl:∀ i xs H,Pv i xs H->E3 K t H a us/\E3 K u H b vs)
    (hs:∀ i y y2 xs H,i < us.length->us[i]?=some y->vs[i]?=some y2->Pv i xs H->∀ p,H p=none->tc (some y::some y2::aY fr σ) (Z8 H p (.tup [y,y2])) fun b H2=>if b=true then te (some y::some y2::aY fr σ) H2 (fun z H3=>Pv (i+1) (xs++[z]) H3) else Pv (i+1) xs H2)
    (hd:∀ xs H,Pv us.length xs H->∀ p,H p=none->Q (.ref p) (Z8 H p (.lst xs))):lc2 K (Itz K t u a b) fr tc te σ H Q:=by
  refine⟨cW us.length Pv,⟨us.length,by simp,Nat.zero_le _,h0⟩,?_⟩;rintro i m xs H ⟨rfl,hi,pv⟩;refine⟨hz i xs H pv,?_⟩;obtain⟨q1,q2⟩:=hl i xs H pv;by_cases lt:i < us.length
  · refine .inr ⟨⟨us,vs,us[i],vs[i],q1,q2,by simp[lt],by simp[<- hlen,lt]⟩,fun v H' yy=>?_⟩;obtain⟨p,x,y,hp,rfl,rfl,e1,e2⟩:=yy;refine⟨p,x,y,rfl,fA.of aA,?_⟩;simp only[Fi lt];exact hs i x y xs H lt (e1 us q1) (e2 vs q2) pv p hp
  · obtain rfl:i=us.length:=by omega
    exact .inl ⟨⟨us,vs,q1,q2,.inl (Nat.le_refl _)⟩,hd xs H pv⟩
end
inductive pK:List DictEntry->List (Key×V)->Prop
 | nil:pK [] []
 | cons {h:Int} {x:Str} {t:Tok} {u:Value} {v:V} {es:List DictEntry} {kvs:List (Key×V)}:bJ v u->pK es kvs->pK ({hash:=h,key:=.str x t,val:=u}::es) ((.inr x,v)::kvs)
structure WV(P:Params)(K:q0B)(d:Addr)(kvs:List (Key×V)):Prop where
 ex:∃ es n,K.lookup d=some {cls:=.type "dict",data:=.dict es n}/\PySem.W.KeysLit P es.toList/\pK es.toList kvs
 nd:(kvs.map (·.1)).Nodup
 ne:(d==sysModules)=false
 z:kvs.length<=sizeLine
def HP(d:Addr)(kvs:List (Key×V)):List V->Hp->VK->Prop:=fun vs H Q=>vs=[.ref d]/\∀ p,H p=none->Q (.ref p) (Z8 H p (.dK kvs))
def pK.vals{P:Program}{w:World}{es:List DictEntry}{kvs:List (Key×V)}(h:pK es kvs):∃ vs:List (Key×Value),KV kvs vs/\Pairs (bT P w) es vs:=by
 induction h with
 | nil=>exact⟨[],.nil,.nil⟩
 | @cons h x t u v es kvs r _ ih =>
  obtain⟨vs,a,b⟩:=ih;exact⟨(.inr x,u)::vs,.cons ⟨rfl,r⟩ a,.cons (oI P w x t) rfl b⟩
def KV.X9{κ:Type}{kvs:List (κ×V)}{vs:List (κ×Value)}(r:KV kvs vs):kvs.map (·.1)=vs.map (·.1):=by
 unfold KV at r
 induction r with
 | nil=>rfl
 | cons h _ ih=>rw[List.map_cons,List.map_cons,h.1,ih]
def HQ{X:Cx}{d:Addr}{kvs:List (Key×V)}(M:WV X.w.params X.K d kvs):dG X (.type "dict") (HP d kvs):=fun Z7 s σ H xs us Q I r h=>by
 obtain⟨rfl,q⟩:=h;obtain⟨u,rfl,ru⟩:=r.one;cases ru;obtain⟨es,n,lk,kl,en⟩:=M.ex;obtain⟨vs,rel,pr⟩:=en.vals (P:=X.prog) (w:=X.w);have nd:(vs.map (·.1)).Nodup:=by
  rw[<- rel.X9];exact M.nd
 have dd:s.heap.DictOf (bT X.prog X.w) d vs:=⟨_,es,n,I.kIn _ _ lk,⟨rfl,rfl,rfl⟩,rfl,fun e he=>by
  obtain⟨x,t,e1,e2⟩:=kl.all e (Array.mem_toList_iff.mpr he);exact⟨.inr x,by rw[e1];exact oI _ _ x t,e2⟩,pr,nd⟩
 refine kt_call_dict M.ne dd (by rw[<- rel.length];exact M.z) fun h' dd' hs=>⟨.ref s.heap.objs.size,Z8 H s.heap.objs.size (.dK kvs),I.laid (t':=s.toks) (fun b o e=>?_) (Nat.le_refl _) (uR M.z (beq_eq_false_iff_ne.mpr (Ne.symm (Nat.ne_of_lt I.big))) rel dd'),rfl,q _ (I.hok.fresh (Nat.le_refl _))⟩;exact(hs.2 b (Nat.ne_of_lt (Heap.lt_size e))).trans (Heap.get?_push_of_some _ e)
def Q1{d:Addr}{kvs:List (Key×V)}{H:Hp}{Q:VK}:HP d kvs [.ref d] H Q = ∀ p,H p=none->Q (.ref p) (Z8 H p (.dK kvs)):=by simp[HP]
section
variable {X:Cx}
def Tr(K:q0B):List V->Hp->VK->Prop:=fun vs H Q=>on1 vs fun x=>bC x fun p=>∃ xs,fA K H p xs/\Q (.int xs.length) H
def Ld:dG X (.builtin "len") (Tr X.K):=fun Z7 s σ H xs us Q I r h=>by
 obtain⟨x,rfl,h1⟩:=eQ h;obtain⟨p,rfl,ys,e,q⟩:=aT h1;exact sJ Z7 s σ H _ us Q I r ⟨p,ys,rfl,.inr e,q⟩
variable {o:Expr} {to:TE} {apos aaA:Pos}
end
section
variable {H:Hp} {Q:VK} {p:Addr} {σ:St} {to:TE} {vs:List V}
def Vo{K:q0B}:Tr K [.ref p] H Q = ∃ xs,fA K H p xs/\Q (.int xs.length) H:=rfl
end
section
variable {X:Cx}
end
section
variable {K:q0B} {H:Hp} {Q:VK} {p a b:Addr}
end
section
variable {X:Cx} {sc:Scope} {cl:List (Str×Addr)} {x y0:Str} {fr:List Nat} {N:List Str} {elt iter:Expr} {px px0 tp pos:Pos} {tk:Nat} {ifs:List Expr} {wi:TI} {tc:TT} {te:TE}
end
section
variable {a b:TS} {D:Ends} {σ:St} {H:Hp}
def aI(h:∀ R:St->Hp->Prop,(∀ σ' H',b D σ' H'->R σ' H')->a {D with nx:=R} σ H):S4 a b D σ H:=h (b D) fun _ _ x=>x
end
section
variable {td ty tv:TE} {trs:List (TE×TE)} {tk:TE} {σ:St} {H:Hp} {Q:VK} {D:Ends}
end
section
variable {P:Program} {W:World} {A:Around} {E:q0A} {s:Shared} {dd it:Addr} {es:Array DictEntry} {ep i:Nat}
end
section
open PySem.W
variable {n:Nat} {p:Array Nat}
end
section
open PySem.W
variable {P:Program} {W:World} {A:Around} {E:q0A} {s:Shared}
end
section
variable {P:Program} {W:World} {A:Around} {E:q0A} {s:Shared} {a b:Addr} {es fs:Array DictEntry} {ep fp:Nat}
end
section
variable {X:Cx} {tg:Expr}
end
section
variable {σ:St} {H:Hp} {D:Ends} {g:TG} {tb:TS} {as:TA} {Q:VK} {a b:Addr} {p:Addr}
end
section
variable {H:Hp} {Q:VK} {x:V} {p:Addr} {i:Int} {z:Str}
end
section
variable {X:Cx} {a b:Expr} {rest:List Expr} {pos:Pos} {ta tb:TE}
end
def Zy(x:V)(k:Int->Prop)(_u:Tg k:=()):Prop:=match x with
 | .non=>k 0
 | .int i=>k i
 | _=>False
section
variable {X:Cx}
end
def OW:fillsNumberSlot (.type "tuple") "mul"=pure false:=PySem.fillsNumberSlot_seq (r:=some (.builtin "tuple.__rmul__")) PySem.F.slot_tuple_mul.lookup (by decide +kernel) PySem.F.slot_tuple_rmul.lookup (by decide +kernel)
def SA:seqRepeat? (.type "tuple")=pure (some (.builtin "tuple.__mul__")):=by
 have h1:=PySem.seqSlot_of (T:="tuple") (name:="__mul__") PySem.F.slot_tuple_mul.lookup (by decide +kernel);have h2:=PySem.seqSlot_of (T:="tuple") (name:="__rmul__") PySem.F.slot_tuple_rmul.lookup (by decide +kernel);unfold seqRepeat?;rw[h1,h2];rfl
def Pp(a:Int)(t:Tok)(l:Addr)(dd:Option Addr)(its:Array Value)(n:Nat)(sl:Array (Option Value)):Meets (Builtin.«int.__rmul__» ⟨[.int a t,.ref l],[]⟩) (fun _ R s=>s.heap.get? l=some ⟨.type "tuple",dd,.seq its n,sl⟩/\R (.ok (.ret Value.notImplemented)) s) :=
 .of_wp fun prog w A R s h=>by
  obtain⟨hp,g,d,tk,os⟩:=s;obtain⟨hl,h⟩:=h;wp_walk;exact⟨_,rfl,h⟩
def OU(l:Addr)(dd:Option Addr)(its:Array Value)(n:Nat)(sl:Array (Option Value))(t:Tok):Meets (Builtin.«tuple.__mul__» ⟨[.ref l,.int 1 t],[]⟩) (fun _ R s=>s.heap.get? l=some ⟨.type "tuple",dd,.seq its n,sl⟩/\R (.ok (.ret (.ref l))) s) :=
 .of_wp fun prog w A R s h=>by
  obtain⟨hp,g,d,tk,os⟩:=s;obtain⟨hl,h⟩:=h;have f1:=AutoSeq1.idx_int;wp_walk using wpAny_loadPart' hl;exact⟨_,rfl,h⟩
def OT(l:Addr)(dd:Option Addr)(its:Array Value)(n:Nat)(sl:Array (Option Value))(t:Tok)(hc:¬ its.isEmpty=true):Meets (Builtin.«tuple.__mul__» ⟨[.ref l,.int 0 t],[]⟩) (fun _ R s=>s.heap.get? l=some ⟨.type "tuple",dd,.seq its n,sl⟩/\R (.ok (.ret (.ref s.heap.objs.size))) {s with heap:=s.heap.push {cls:=.type "tuple",data:=.seq #[]}}) :=
 .of_wp fun prog w A R s h=>by
  obtain⟨hp,g,d,tk,os⟩:=s;obtain⟨hl,h⟩:=h;have f1:=AutoSeq1.idx_int;wp_walk using wpAny_loadPart' hl;exact⟨_,rfl,h⟩
def Tz:R2:=fun x y H Q=>bC x fun a=>eR y fun k=>tM (H a) fun xs=>xs≠[]/\((k=1/\Q x H)\/(k=0/\∀ p,H p=none->Q (.ref p) (Z8 H p (.tup []))))
section
variable {X:Cx}
def Sj:iW X (binaryOp .Mult) Tz:=fun Z7 s σ H x y v u Q I rx ry h=>by
 obtain⟨a,rfl,h1⟩:=aT h;obtain⟨k,rfl,h2⟩:=c8 h1;obtain⟨xs,e1,hx,h3⟩:=Bk h2;cases rx;obtain⟨t,rfl⟩:=ry;obtain⟨its,r1,p1,z1⟩:=I.tuple (.inl (.inl e1));have l1:its≠[]:=fun z=>hx (r1.tH.mp z);obtain⟨⟨c1,d1,t1,o1⟩,ho,rfl,n,rfl⟩:=p1;refine wpAny_binaryOp_repeat_ref (T:="tuple") (U:="int") (by decide) ⟨_,ho,rfl⟩ (fun s'=>typeIs_int s' k t) OW PySem.F.fills_int_mul PySem.F.slot_int_rmul SA PySem.F.slot_int_index.lookup
  (call_meets PySem.F.slot_int_rmul (typeIs_int s k t) PySem.F.entry_int_rmul (PySem.F.args_int_rmul_2 _ _) (Pp k t a d1 its.toArray n o1) ⟨ho,rfl,⟨_,ho,rfl⟩,?_⟩)
 rcases h3 with⟨rfl,q⟩|⟨rfl,q⟩
 ·exact call_meets PySem.F.slot_tuple_mul ⟨_,ho,rfl⟩ PySem.F.entry_tuple_mul (PySem.F.args_tuple_mul_2 _ _) (OU a d1 its.toArray n o1 t) ⟨ho,.ref a,H,I,rfl,q⟩
 ·refine call_meets PySem.F.slot_tuple_mul ⟨_,ho,rfl⟩ PySem.F.entry_tuple_mul (PySem.F.args_tuple_mul_2 _ _) (OT a d1 its.toArray n o1 t (by simpa using l1)) ⟨ho,?_⟩;have I2:Z9 X Z7 σ (Z8 H s.heap.objs.size (.tup [])) {s with heap:=s.heap.push {cls:=.type "tuple",data:=.seq #[]}} :=
   I.laid (t':=s.toks) (fun b o e=>Heap.get?_push_of_some _ e) (Nat.le_refl _) (show dF X.prog X.w _ _ _ (.tup []) from ⟨Nat.zero_le _,[],.nil,IsTup.new _ _⟩)
  exact⟨.ref s.heap.objs.size,_,I2,rfl,q _ (I.hok.fresh (Nat.le_refl _))⟩
end
section
variable {σ:St} {H:Hp} {Q:VK} {ta tb:TE} {l a:Addr} {i:Int}
def VE:Tz (.ref a) (.int i) H Q=tM (H a) fun xs=>xs≠[]/\((i=1/\Q (.ref a) H)\/(i=0/\∀ p,H p=none->Q (.ref p) (Z8 H p (.tup [])))):=rfl
end
def Rising(l:List Nat):Prop:=l.Pairwise (· < ·)
def zS(xs:Array Nat)(j:Nat)(hr:Rising xs.toList):∀(fuel lo hi:Nat),hi - lo<=fuel->lo<=hi->hi<=xs.size ->
    (∀ i (h:i < xs.size),i < lo->xs[i] < j)->(∀ i (h:i < xs.size),hi<=i->j<=xs[i]) ->
    (∀ i (h:i < xs.size),i < SetTable.below.go xs j fuel lo hi->xs[i] < j)/\(∀ i (h:i < xs.size),SetTable.below.go xs j fuel lo hi<=i->j<=xs[i])/\SetTable.below.go xs j fuel lo hi<=xs.size
  | 0,lo,hi,hf,hl,hh,h1,h2=>by
    have:lo=hi:=by omega
    subst this;exact⟨h1,h2,hh⟩
  | fuel+1,lo,hi,hf,hl,hh,h1,h2=>by
    have mono:∀ i k (hi:i < xs.size) (hk:k < xs.size),i < k->xs[i] < xs[k]:=fun i k hi hk hik=>by
      have:=List.pairwise_iff_getElem.mp hr i k (by simpa using hi) (by simpa using hk) hik;simpa using this
    unfold SetTable.below.go;by_cases c:lo < hi
    · rw[if_pos c];have hm:(lo+hi) / 2 < xs.size:=by omega
      have em:xs.getD ((lo+hi) / 2) j=xs[(lo+hi) / 2]:=by simp[Array.getD,hm]
      simp only[em];by_cases d:xs[(lo+hi) / 2] < j
      · rw[if_pos d];refine zS xs j hr fuel _ hi (by omega) (by omega) hh (fun i h hlt=>?_) h2;by_cases e:i=(lo+hi) / 2
        · subst e;exact d
        · exact Nat.lt_trans (mono i _ h hm (by omega)) d
      · rw[if_neg d];refine zS xs j hr fuel lo _ (by omega) (by omega) (by omega) h1 (fun i h hle=>?_);by_cases e:i=(lo+hi) / 2
        · subst e;omega
        · have:=mono _ i hm h (by omega);omega
    · rw[if_neg c];have:lo=hi:=by omega
      subst this;exact⟨h1,h2,hh⟩
def qU(xs:Array Nat)(j:Nat)(hr:Rising xs.toList):(∀ i (h:i < xs.size),i < SetTable.below xs j->xs[i] < j)/\(∀ i (h:i < xs.size),SetTable.below xs j<=i->j<=xs[i])/\SetTable.below xs j<=xs.size :=
 zS xs j hr xs.size 0 xs.size (by omega) (by omega) (Nat.le_refl _) (fun i h hlt=>absurd hlt (by omega)) (fun i h hle=>absurd h (by omega))
def Ce{xs:Array Nat}{j:Nat}(hr:Rising xs.toList)(hn:¬ xs[SetTable.below xs j]?=some j):Rising (SetTable.insertAt xs (SetTable.below xs j) j).toList:=by
 obtain⟨h1,h2,h3⟩:=qU xs j hr;rw[SetTable.toList_insertAt];generalize hb:SetTable.below xs j=b at *;unfold Rising at *;have split:=List.pairwise_append.mp (show(xs.toList.take b++xs.toList.drop b).Pairwise (· < ·) by rw[List.take_append_drop];exact hr);have lt:∀ x∈xs.toList.take b,x < j:=fun x hx=>by
  obtain⟨i,hi,rfl⟩:=List.mem_iff_getElem.mp hx;have hi':i < b/\i < xs.size:=by simpa[Nat.lt_min] using hi
  have:=h1 i hi'.2 hi'.1;simpa using this
 have gt:∀ x∈xs.toList.drop b,j < x:=fun x hx=>by
  obtain⟨i,hi,rfl⟩:=List.mem_iff_getElem.mp hx;have hi':b+i < xs.size:=by simp at hi;omega
  have hle:=h2 (b+i) hi' (by omega);have hne:xs[b+i]≠j:=fun e=>by
   by_cases hz:i=0
   ·subst hz;exact hn (by rw[Array.getElem?_eq_getElem (by simpa using hi')];simpa using e)
   ·have hb':b < xs.size:=by omega
    have h0:=h2 b hb' (Nat.le_refl _);have:=List.pairwise_iff_getElem.mp hr b (b+i) (by simpa using hb') (by simpa using hi') (by omega);simp at this;omega
  have:xs.toList.drop b=xs.toList.drop b:=rfl;simp only[List.getElem_drop,Array.getElem_toList];omega
 refine List.pairwise_append.mpr ⟨split.1,List.pairwise_cons.mpr ⟨gt,split.2.1⟩,fun x hx y hy=>?_⟩;rcases List.mem_cons.mp hy with rfl|hy
 ·exact lt x hx
 ·exact split.2.2 x hx y hy
def Au{α:Type}:∀ {l:List α} {i:Nat} (h:i < l.length),(l[i]::l.eraseIdx i).Perm l
 | a::l,0,_=>by simp
 | a::l,i+1,h=>by
  have:=Au (l:=l) (i:=i) (by simpa using h);simp only[List.getElem_cons_succ,List.eraseIdx_cons_succ];exact(List.Perm.swap _ _ _).trans (this.cons a)
def Kg{α:Type}(next:Nat->Nat):∀(fuel k:Nat) (left:List α) (out:Array α),fuel=left.length->∃ ac7:Array α,pickOrder.go next fuel k left out=ac7/\ac7.toList.Perm (out.toList++left)
 | 0,k,left,out,h=>by
  have:left=[]:=List.length_eq_zero_iff.mp h.symm;subst this;exact⟨out,by simp[pickOrder.go],by simp⟩
 | fuel+1,k,left,out,h=>by
  have hp:0 < left.length:=by omega
  have hi:next k % left.length < left.length:=Nat.mod_lt _ hp
  obtain⟨o,e,p⟩:=Kg next fuel (k+1) (left.eraseIdx (next k % left.length)) (out.push left[next k % left.length]) (by rw[List.length_eraseIdx_of_lt hi];omega)
  refine⟨o,?_,p.trans ?_⟩
  ·rw[pickOrder.go,List.getElem?_eq_getElem hi];exact e
  ·rw[Array.toList_push,List.append_assoc];refine List.Perm.append_left _ ?_;exact Au hi
def Mm{α:Type}(next:Nat->Nat)(xs:Array α):(pickOrder next xs).toList.Perm xs.toList:=by
 obtain⟨o,e,p⟩:=Kg next xs.size 0 xs.toList #[] (by simp)
 unfold pickOrder;rw[e];simpa using p
structure qG(w:World)(t:SetTable):Prop where
 rise:Rising t.place.toList
 led:w.params.followText "set-order"=true\/t.led=true
 dum:t.dummies = #[]
 msk:t.mask=7
 pln:t.plain=true
def FR(j:Nat):SetTable.has #[] j=false:=by simp[SetTable.has]
def Jf{t:SetTable}{j:Nat}(h:t.slot j=.empty):¬ t.place[SetTable.below t.place j]?=some j:=fun e=>by
 unfold SetTable.slot at h;simp only[e,beq_self_eq_true,if_true] at h;cases h
def BO{t:SetTable}(hd:t.dummies = #[])(j:Nat):t.slot j=.empty\/(∃ i,t.slot j=.live i/\j∈t.place.toList):=by
 unfold SetTable.slot;rw[hd,FR];by_cases h:t.place[SetTable.below t.place j]?=some j
 ·refine .inr ⟨SetTable.below t.place j,by simp only[h,beq_self_eq_true,if_true],?_⟩;rw[<- Array.getElem?_toList] at h;exact List.mem_of_getElem? h
 ·refine .inl ?_;have:(t.place[SetTable.below t.place j]?==some j)=false:=by simpa using h
  simp[this]
def free4{l:List Nat}(h:l.length<=3):∃ j,j < 8/\j∉l:=by
 match l,h with
 | [],_=>exact⟨0,by decide,by simp⟩
 | [a],_=>by_cases h0:a=0;exact⟨1,by decide,by simp;omega⟩;exact⟨0,by decide,by simp;omega⟩
 | [a,b],_ =>
  by_cases h0:a=0\/b=0
  ·by_cases h1:a=1\/b=1
   ·exact⟨2,by decide,by simp;omega⟩
   ·exact⟨1,by decide,by simp;omega⟩
  ·exact⟨0,by decide,by simp;omega⟩
 | [a,b,c],_ =>
  by_cases h0:a=0\/b=0\/c=0
  ·by_cases h1:a=1\/b=1\/c=1
   ·by_cases h2:a=2\/b=2\/c=2
    ·exact⟨3,by decide,by simp;omega⟩
    ·exact⟨2,by decide,by simp;omega⟩
   ·exact⟨1,by decide,by simp;omega⟩
  ·exact⟨0,by decide,by simp;omega⟩
def hop(i:Nat):Nat:=(i * 5+1) % 8
def hops:Nat->Nat->Nat
 | 0,i=>i
 | m+1,i=>hops m (hop i)
def Ou:∀ i,i < 8->∀ j,j < 8->∃ m,m < 8/\hops m i=j:=by decide
section
variable {t:SetTable} (hd:t.dummies = #[]) (hm:t.mask=7) {h:Int}
abbrev prb(i pt:Nat):SetTable.Probe:=⟨i,0,i,pt,none⟩
include hd hm
theorem adv(i pt:Nat):t.advance (prb i pt)=prb ((i * 5+1+pt / 32) % 8) (pt / 32):=by
 have:(i * 5+1+pt / 32) % 8 < 8:=Nat.mod_lt _ (by decide);simp only[SetTable.advance,SetTable.leap,hm,SetTable.runEnd];simp
 try omega
theorem JQ(fuel i pt:Nat):(t.slot i=.empty/\SetTable.probe.go t (fun _=>h+1) h (fuel+1) (prb i pt)=some (.empty i none))\/SetTable.probe.go t (fun _=>h+1) h (fuel+1) (prb i pt)=SetTable.probe.go t (fun _=>h+1) h fuel (prb ((i * 5+1+pt / 32) % 8) (pt / 32)):=by
 rcases BO hd i with e|⟨k,e,_⟩
 ·refine .inl ⟨e,?_⟩;unfold SetTable.probe.go;simp only[e]
 ·refine .inr ?_
  conv=>lhs;unfold SetTable.probe.go
  simp only[e];rw[if_neg (by simp;try omega),adv hd hm]
theorem JR:∀(m fuel i:Nat),m < fuel->i < 8->t.slot (hops m i)=.empty->∃ j,t.slot j=.empty/\SetTable.probe.go t (fun _=>h+1) h fuel (prb i 0)=some (.empty j none)
 | 0,fuel+1,i,_,hi,he=>by
  refine⟨i,he,?_⟩;have e:t.slot i=.empty:=he;unfold SetTable.probe.go;simp only[e]
 | m+1,fuel+1,i,hf,hi,he=>by
  rcases JQ hd hm (h:=h) fuel i 0 with⟨e,g⟩|g
  ·exact⟨i,e,g⟩
  ·rw[g];exact JR m fuel _ (by omega) (Nat.mod_lt _ (by decide)) he
theorem Oo(hp:t.place.size<=3):∀(d fuel i pt:Nat),pt < 32 ^ d->d+8<=fuel->i < 8->∃ j,t.slot j=.empty/\SetTable.probe.go t (fun _=>h+1) h fuel (prb i pt)=some (.empty j none)
 | 0,fuel,i,pt,h1,h2,hi=>by
  have:pt=0:=by simpa using h1
  subst this;obtain⟨j,hj,hn⟩:=free4 (l:=t.place.toList) (by simpa using hp);obtain⟨m,hm',e⟩:=Ou i hi j hj;refine JR hd hm m fuel i (by omega) hi ?_;rw[e];rcases BO hd j with z|⟨_,_,z⟩
  ·exact z
  ·exact absurd z hn
 | d+1,0,i,pt,h1,h2,hi=>absurd h2 (by omega)
 | d+1,fuel+1,i,pt,h1,h2,hi=>by
  rcases JQ hd hm (h:=h) fuel i pt with⟨e,g⟩|g
  ·exact⟨i,e,g⟩
  ·rw[g];exact Oo hp d fuel _ _ (by rw[Nat.pow_succ] at h1;omega) (by omega) (Nat.mod_lt _ (by decide))
theorem Lz(hp:t.place.size<=3):∃ j,t.slot j=.empty/\t.freeSlot h=some (j,false):=by
 have hb:SetTable.bits h < 32 ^ 13:=by
  unfold SetTable.bits;have h1:=Int.emod_lt_of_pos h (show(0:Int) < 2 ^ 64 by decide);have h2:=Int.emod_nonneg h (show(2 ^ 64:Int)≠0 by decide);have:(32:Nat) ^ 13=36893488147419103232:=by decide
  omega
 have hs:t.probeStart h=prb (SetTable.bits h % 8) (SetTable.bits h):=by
  unfold SetTable.probeStart SetTable.runEnd;rw[hm];have:SetTable.bits h % 8 < 8:=Nat.mod_lt _ (by decide);simp
  try omega
 obtain⟨j,e,g⟩:=Oo hd hm (h:=h) hp 13 (10 * SetTable.turns t.mask) (SetTable.bits h % 8) (SetTable.bits h) hb (by rw[hm];decide) (Nat.mod_lt _ (by decide));refine⟨j,e,?_⟩;unfold SetTable.freeSlot SetTable.probe;rw[hs,g];rfl
end
def RO{w:World}{t:SetTable}(T:qG w t)(es:Array (Int×Value))(h:Int)(x:Value)(hp:t.place.size<=3)(hf:t.place.size=es.size):qG w (layNew t es h x).2.1:=by
 obtain⟨slot,hs,e⟩:=Lz T.dum T.msk (h:=h) hp;have Tp:qG w (t.put slot).1:=by
  refine⟨Ce T.rise (Jf hs),T.led,?_,T.msk,T.pln⟩;show(if SetTable.has t.dummies slot=true then _ else t.dummies) = #[];rw[T.dum,FR];rfl
 unfold layNew;rw[e];show qG w ((t.put slot).1.orStandIn _);have h1:=(SetTable.insertAt_perm es (t.put slot).2 (h,x)).length_eq;rw[Array.length_toList,Array.length_toList,Array.size_push] at h1;have h2:(t.put slot).1.place.size=t.place.size+1:=by
  have:=(SetTable.insertAt_perm t.place (SetTable.below t.place slot) slot).length_eq;rw[Array.length_toList,Array.length_toList,Array.size_push] at this;exact this
 have fit:(t.put slot).1.fits (SetTable.insertAt es (t.put slot).2 (h,x)).size=true:=by
  unfold SetTable.fits SetTable.fill;rw[Tp.dum,h2,h1,Tp.msk,hf];simp;omega
 unfold SetTable.orStandIn;rw[if_pos fit];exact Tp
def Gb:Value->Int
 | .int i _=>i
 | _=>0
def tY(P:Program)(w:World)(a:Addr)(ns:List Int)(h:Heap):Prop:=∃(o:Obj) (es:Array (Int×Value)) (ep:Nat) (t:SetTable),h.get? a=some o/\o.ExactSet/\o.data=.set es ep t/\ElemsOf (intKind P w) es.toList/\es.size < scanBound/\t.fits es.size=true/\qG w t/\(∀ e∈es.toList,∃ i tk,e.2=Value.int i tk)/\(es.toList.map fun e=>Gb e.2).Perm ns
def tY.keep{P:Program}{w:World}{a:Addr}{ns:List Int}{h h':Heap}(x:tY P w a ns h)(k:∀ o,h.get? a=some o->h'.get? a=some o):tY P w a ns h':=by
 obtain⟨o,es,ep,t,e,r⟩:=x;exact⟨o,es,ep,t,k o e,r⟩
section
variable {P:Program} {w:World} {A:Around} {E:q0A} {s:Shared}
def VT{P:Program}{w:World}{i:Int}{v:Value}:(intKind P w).is i v=true↔∃ tk,v=.int i tk:=by
 constructor
 ·intro h;cases v with
  | int j tk=>exact⟨tk,by have:Value.isInt i (.int j tk)=true:=h;simp[Value.isInt] at this;rw[this]⟩
  | _=>cases h
 ·rintro⟨tk,rfl⟩;exact intKind_is _ _ _ _
def E4{a:Addr}{o:Obj}{es:Array (Int×Value)}{ep:Nat}{t:SetTable}(ho:s.heap.get? a=some o)(hex:o.ExactSet)(hd:o.data=.set es ep t)
    {es1:Array (Int×Value)} {t2:SetTable} {ns:List Int} (hel:ElemsOf (intKind P w) es1.toList) (hb:es1.size < scanBound) (hf:t2.fits es1.size=true) (T:qG w t2) (hi:∀ e∈es1.toList,∃ i tk,e.2=Value.int i tk) (hp:(es1.toList.map fun e=>Gb e.2).Perm ns) (h4:es1.size<=4)
    {aaS:Bool} {X:Sem (Option Bool)} {R:Option Bool->Shared->Prop} (h:∀ h',Heap.SameBut a s.heap h'->tY P w a ns h'->R (some true) {s with heap:=h'}) :
    wpAny (model P w) A (do
        storeSet a es1 t2
        if (!aaS&&t2.tooFull)=true then X else pure (some true)) R E s:=by
  refine wpAny_bind (wpAny_storeSet_of ho hd ?_ (fits_of_scanBound hb));have full:t2.tooFull=false:=by
    have h1:t2.place.size=es1.size:=by
      have:=hf;unfold SetTable.fits at this;simp only[Bool.and_eq_true,beq_iff_eq] at this;exact this.1
    unfold SetTable.tooFull SetTable.fill;rw[T.dum,h1];have:=T.msk;simp;omega
  rw[full,Bool.and_false];simp only[Bool.false_eq_true,if_false];have hg:(s.heap.update a (Obj.putSet es1 t2)).get? a=some {o with data:=.set es1 (ep+1) t2}:=by
    have:=Heap.get?_update_self (Obj.putSet es1 t2) ho (by rw[putSet_of es1 t2 hd];rfl);rw[putSet_of es1 t2 hd] at this;exact this
  exact wpAny_pure (h _ (Heap.SameBut.update s.heap a (Obj.putSet es1 t2)) ⟨_,es1,ep+1,t2,hg,hex,rfl,hel,hb,hf,T,hi,hp⟩)
def HE{a:Addr}{ns:List Int}{i:Int}{tk:Tok}{Q:Bool->Shared->Prop}(hS:tY P w a ns s.heap)(hn:ns.length<=3)
    (h:∀ h',Heap.SameBut a s.heap h'->tY P w a (if i∈ns then ns else ns++[i]) h'->∀ b,Q b {s with heap:=h'}):wpAny (model P w) A (setAddHashed a (.int i tk) ((intKind P w).hash i)) Q E s:=by
  obtain⟨o,es,ep,t,ho,hex,hd,hel,hb,hf,T,hi,hp⟩:=hS;have aa7:(intKind P w).is i (.int i tk)=true:=intKind_is _ _ _ _;have hl:es.size=ns.length:=by have:=hp.length_eq;simpa using this
  have b1:scanBound=4096:=rfl;unfold setAddHashed setAddHashedIn;refine wpAny_holding (wpAny_bind (wpAny_setState_of ho hd hf ?_));dsimp only;rw[byScan_of (knd:=intKind P w) rfl hb hel];simp only[↓reduceIte];unfold setAddByScan;refine wpAny_bind ?_;refine wpAny_bind (wpAny_rule ?_);refine wpAny_bind (wpAny_setScan_of aa7 ho hd hf hel ?_);cases hr:List.findIdx? (fun e=>(intKind P w).is i e.2) es.toList with
  | some j =>
    dsimp only;obtain⟨hj,hpj,_⟩:=List.findIdx?_eq_some_iff_getElem.mp hr;obtain⟨tk',et⟩:=VT.mp hpj;have hm:i∈ns:=hp.mem_iff.mp (List.mem_map.mpr ⟨es.toList[j],List.getElem_mem hj,by rw[et];rfl⟩);rw[if_pos hm] at h;refine wpAny_pure (wpAny_pure ?_);exact h s.heap (Heap.SameBut.refl a s.heap) ⟨o,es,ep,t,ho,hex,hd,hel,hb,hf,T,hi,hp⟩ _
  | none =>
    dsimp only;have hm:i∉ns:=fun z=>by
      obtain⟨e,he,ek⟩:=List.mem_map.mp (hp.mem_iff.mpr z);obtain⟨k,tk',ev⟩:=hi e he;have h1:=List.findIdx?_eq_none_iff.mp hr e he;rw[ev] at ek h1;have:k=i:=ek;subst this;rw[intKind_is] at h1;cases h1
    rw[if_neg hm] at h;have aaI:=layNew_perm t es ((intKind P w).hash i) (.int i tk);have aaZ:=layNew_fits t es ((intKind P w).hash i) (.int i tk);have hsz:t.place.size=es.size:=by
      have:=hf;unfold SetTable.fits at this;simp only[Bool.and_eq_true,beq_iff_eq] at this;exact this.1
    have T1:=RO T es ((intKind P w).hash i) (.int i tk) (by omega) hsz;generalize layNew t es ((intKind P w).hash i) (.int i tk)=Y at aaI aaZ T1 ⊢;obtain⟨es1,t1,aaS,aeR⟩:=Y;dsimp only at aaI aaZ T1 ⊢;rw[Array.toList_push] at aaI;have ac0:ElemsOf (intKind P w) es1.toList:=(hel.push aa7 rfl).perm aaI;have sz:es1.size=es.size+1:=by
      have:=aaI.length_eq;simpa using this
    have hi1:∀ e∈es1.toList,∃ i tk,e.2=Value.int i tk:=fun e he=>by
      rcases List.mem_append.mp (aaI.mem_iff.mp he) with he|he
      · exact hi e he
      · rw[show e=_ by simpa using he];exact⟨i,tk,rfl⟩
    have hp1:(es1.toList.map fun e=>Gb e.2).Perm (ns++[i]):=by
      refine(aaI.map _).trans ?_;rw[List.map_append];exact hp.append (.refl _)
    have hgw:∀(b:Bool) {s₁:Shared} {Q':Unit->Shared->Prop},Q' () s₁->wpAny (model P w) A (match b with|true=>rule "set.scan.the-table-gave-way" | false=>pure ()) Q' E s₁:=fun b s₁ Q' hq=>by
      cases b
      · exact wpAny_pure hq
      · exact wpAny_rule hq
    refine wpAny_bind (hgw _ ?_);split
    · refine wpAny_bind ?_;rw[hashByValue_scannable 8 rfl];refine wpAny_pure ?_;simp only[plainKind,↓reduceIte];exact E4 ho hex hd ac0 (by omega) aaZ T1 hi1 hp1 (by omega) fun h' hs hS'=>wpAny_pure (h h' hs hS' _)
    · refine wpAny_bind (wpAny_pure ?_);simp only[↓reduceIte];exact E4 ho hex hd ac0 (by omega) aaZ T1 hi1 hp1 (by omega) fun h' hs hS'=>wpAny_pure (h h' hs hS' _)
end
def once(val:Nat->Int):Nat->List Int
 | 0=>[]
 | i+1=>if val i∈once val i then once val i else once val i++[val i]
def Bl(val:Nat->Int):∀ i,(once val i).length<=i
 | 0=>Nat.le_refl _
 | i+1=>by
  have:=Bl val i;rw[once];split
  ·omega
  ·rw[List.length_append];simp;omega
section
variable {P:Program} {w:World} {A:Around} {R:Result->Shared->Prop} {it:Addr} {fp wr:List Addr} {Gs:Array GenState->Array GenState->Prop} {n:Nat} {Pi:Nat->Value->Prop} {St:Nat->Shared->Prop}
def Gd(W:WalksS P w A.in1 it fp wr Gs n Pi St)(z:Addr)(hz:z∉fp)(val:Nat->Int)(acF:∀ i v,Pi i v->∃ t,v=.int (val i) t)(hn:n<=4) :
    ∀(k i:Nat) (s:Shared),n - i=k->i<=n->St i s->tY P w z (once val i) s.heap ->
      (∀ s',Moved (z::wr) Gs s s'->tY P w z (once val n) s'.heap->R (.ok (.ret .none)) s')->codeAny (model P w) A (.builtin "set.update.loop" ⟨[.ref z,.ref it],[]⟩) R s:=by
  have zw:z∉wr:=fun h=>hz (W.sub _ h);have up:∀ b∈wr,b∈z::wr:=fun b hb=>List.mem_cons_of_mem _ hb;intro k
  induction k with
  | zero =>
    intro i s hk hi st hS hR;obtain rfl:i=n:=by omega
    refine codeAny_builtin PyProof.Rows.F.entry_set_update_loop ?_;rw[Around.under_plainId PyProof.Rows.F.plain_set_update_loop _];show wpAny _ A.in1 (pyNext (.ref it) >>= _) _ _ s;refine wpAny_bind (W.done s _ _ st fun s' hm=>?_);show wpAny _ A.in1 (ret Value.none) _ _ s';exact wpAny_pure (hR s' (hm.mono up) (hS.keep fun o e=>hm.heap z _ zw e))
  | succ k ih =>
    intro i s hk hi st hS hR;have lt:i < n:=by omega
    refine codeAny_builtin PyProof.Rows.F.entry_set_update_loop ?_;rw[Around.under_plainId PyProof.Rows.F.plain_set_update_loop _];show wpAny _ A.in1 (pyNext (.ref it) >>= _) _ _ s;refine wpAny_bind (W.item i s _ _ lt st fun v s' hP st' hm=>?_);obtain⟨t,rfl⟩:=acF i v hP;have hS':tY P w z (once val i) s'.heap:=hS.keep fun o e=>hm.heap z _ zw e;show wpAny _ A.in1 (holding [Value.int (val i) t] (setAdd z (.int (val i) t)) >>= _) _ _ s';refine wpAny_bind (wpAny_holding ?_);unfold setAdd;refine wpAny_holding ?_;refine wpAny_bind ((intKind P w).pyHash (k:=val i) (intKind_is _ _ _ _) ?_);have room:(once val i).length<=3:=by have:=Bl val i;omega
    refine HE (s:={s' with toks:=s'.toks+1}) hS' room fun h' sb hS2 b=>?_;refine wpAny_pure ⟨plainId_quiet PyProof.Rows.F.plain_set_update_loop _,ih (i+1) _ (by omega) lt (W.frame _ s' _ _ st' (Nat.le_succ _) fun c hc o e=>?_) hS2 fun s2 hm2 hS3=>?_⟩
    · rw[sb.2 c (fun h:c=z=>hz (by rw[<- h];exact hc))];exact e
    · refine hR s2 (Moved.trans W.gtrans ((hm.mono up).then_heap (Nat.le_succ _) fun c o hc e=>?_) hm2) hS3;rw[sb.2 c (fun h:c=z=>hc (by rw[h];exact List.mem_cons_self))];exact e
end
section
variable {P:Program} {w:World} {A:Around} {E:q0A} {s:Shared}
abbrev qM(led:Bool):Obj:={cls:=.type "set",dict:=none,data:=.set #[] 0 (.fresh 0 0 led)}
def ID(a:Value){Q₁:q0A}(h:∀ led:Bool,(w.params.followText "set-order"=true\/led=true)->Q₁ (.ref s.heap.objs.size) {s with heap:=s.heap.push (qM led)}) :
    codeAny (model P w) A (.call (.builtin "set.__new__") ⟨[.type "set",a],[]⟩) (wants Q₁ E) s:=by
  refine codeAny_of_tree ?_;show wpAny _ A.in1 (do checkBuiltinCall "set.__new__" ⟨[.type "set",a],[]⟩;again (.builtin "set.__new__" ⟨[.type "set",a],[]⟩)) _ _ s;refine wpAny_bind (wpAny_of_eq (PySem.F.newCall_set_1 a) (wpAny_pure ⟨plainId_quiet PySem.F.plain_set_new _,codeAny_builtin PySem.F.entry_set_new ?_⟩));rw[Around.under_plainId PySem.F.plain_set_new _];unfold Builtin.«set.__new__» Builtin.Frozenset.newClass;have abN:=sub_set_self;obtain⟨hp,g,d,tk,os⟩:=s;dsimp only;wp_walk;refine wpAny_askSetting (wpAny_pure ?_);dsimp only;simp only[newObj];refine wpAny_bind (wpAny_alloc (wpAny_pure ?_));refine wpAny_pure (h _ ?_);cases e:w.params.followText "set-order" with
  | true=>exact .inl rfl
  | false =>
    refine .inr ?_;show(!w.params.followText "set-order")=true;rw[e];rfl
def Lo{led:Bool}(h:w.params.followText "set-order"=true\/led=true):qG w (.fresh 0 0 led):=⟨.nil,h,rfl,rfl,rfl⟩
set_option maxHeartbeats 8000000 in
def Fj{l:Addr}{items:Array Value}{ns:List Int}{Q:q0A}(hh:A.handled=none)(hl:s.heap.IsList l items)(hi:IntsAre items.toList ns)(h4:items.size<=4)
    (h:∀(h':Heap) (tk:Nat),tY P w s.heap.objs.size (once (fun i=>ns.getD i 0) items.size) h'->(∀ b o,b < s.heap.objs.size->s.heap.get? b=some o->h'.get? b=some o)->Q (.ref s.heap.objs.size) {s with heap:=h',toks:=tk}) :
    wpAny (model P w) A (call (.type "set") [.ref l]) Q E s:=by
  obtain⟨c,tl,aeT⟩:=PySem.F.called_set.mro;have aeM:=PySem.F.called_set.made;have abN:=PySem.F.called_set.sub;refine wpAny_call (codeAny_of_tree ?_);show wpAny _ _ (callAny (.type "set") _) _ _ _;refine wpAny_pure ⟨Code.quiet_builtin _ (by decide +kernel),codeAny_builtin PySem.F.entry_type_call ?_⟩;rw[Around.under_plain (weight_type_call_type "set" [.ref l] []) rfl];have h1:=PySem.F.called_set.notType;have h2:=PySem.F.called_set.canCreate;have hct:=PySem.F.typeCall_set_1 (.ref l)
  repeat (any_goals (first|assumption|wp_step))
  refine codeAny_mono (ID (.ref l) (E:=E) (Q₁:=fun obj s₁=>∃ led:Bool,(w.params.followText "set-order"=true\/led=true)/\obj=.ref s.heap.objs.size/\s₁={s with heap:=s.heap.push (qM led)}) fun led acD=>⟨led,acD,rfl,rfl⟩) fun r s₁ hr=>?_;cases r with
  | error e=>exact hr
  | ok fl =>
    cases fl with
    | ret obj =>
      obtain⟨led,acD,rfl,rfl⟩:=hr;have hS:(s.heap.push (qM led)).get? s.heap.objs.size=some (qM led):=Heap.get?_push_size _ rfl;have hT:Shared.TypeIs {s with heap:=s.heap.push (qM led)} (.ref s.heap.objs.size) "set":=⟨_,hS,rfl⟩;have hli:=PySem.F.called_set.init.lookup;have hbi:=PySem.F.called_set.init.bind (.ref s.heap.objs.size)
      repeat (any_goals (first|assumption|wp_step))
      refine codeAny_mono (codeAny_call_builtin (R:=wants (fun r s₂=>r=.none/\∃ h' tk,s₂={s with heap:=h',toks:=tk}/\tY P w s.heap.objs.size (once (fun i=>ns.getD i 0) items.size) h' /\
          (∀ b o,b < s.heap.objs.size->s.heap.get? b=some o->h'.get? b=some o)) E) PySem.F.called_set.init.plain PySem.F.entry_set_init (check_set_init_1 hT ?_)) fun r₂ s₂ hr₂=>?_
      · obtain⟨ol,hol,hcl,nl,hdl⟩:=hl;obtain⟨aeY,ac5,aeN,acI⟩:=ol;simp only at hcl hdl;subst hcl hdl;have ad5:(s.heap.push (qM led)).get? l=some ⟨.type "list",ac5,.seq items nl,acI⟩:=Heap.get?_push_of_some _ hol;have aeV:=PySem.F.sub_list_set;have aeU:=PySem.F.sub_list_frozenset;have hne:(Value.type "list"==Value.type "dict")=false:=by decide
        have hl1:(s.heap.push (qM led)).IsList l items:=⟨_,ad5,rfl,nl,rfl⟩;unfold Builtin.«set.__init__» noKeywords Builtin.Frozenset.updateFrom;generalize hPI:pyIter=PI;wp_walk;subst hPI;refine wpAny_pyIter_list hl1 ?_;refine wpAny_bind (wpAny_runValue ?_);have lS:l < s.heap.objs.size:=Heap.lt_size hol;have hh3:A.in1.in1.in1.handled=none:=by simp[hh]
        have sz:(s.heap.push (qM led)).objs.size=s.heap.objs.size+1:=Heap.size_push _ _;have ad2:l≠(s.heap.push (qM led)).objs.size:=Nat.ne_of_lt (by rw[sz];exact Nat.lt_succ_of_lt lS);have hSf:s.heap.objs.size∉[(s.heap.push (qM led)).objs.size,l]:=by
          simp only[List.mem_cons,List.not_mem_nil,or_false,not_or];exact⟨Nat.ne_of_lt (by rw[sz];exact Nat.lt_succ_self _),Nat.ne_of_gt lS⟩
        have acF:∀(i:Nat) (v:Value),items[i]?=some v->∃ t,v=.int ((fun i=>ns.getD i 0) i) t:=fun i v hv=>IntsAre.int_at hi i v (by rw[Array.getElem?_toList];exact hv);refine Gd ((Walks.list hh3 _ l ad2 items).toS) s.heap.objs.size hSf (fun i=>ns.getD i 0) acF h4 (items.size - 0) 0 _ (by omega) (Nat.zero_le _) ⟨⟨_,Heap.get?_push_size _ rfl,rfl,rfl⟩,(hl1.push _)⟩ ?hS0 ?hR
        case hS0=>exact⟨_,#[],0,_,Heap.get?_push_of_some _ hS,⟨rfl,rfl,rfl⟩,rfl,fun e he=>(by simp at he),by decide,rfl,Lo acD,by simp,.nil⟩
        case hR =>
          intro s' hm hS';obtain⟨h',g',d',tk',os'⟩:=s';have eg:g'=s.gens:=hm.gens;have ed:d'=s.drawn:=hm.drawn;have eo:os'=s.os:=hm.os;subst eg ed eo;show wpAny _ _ _ _ _ _;refine wpAny_pure ?_;show wpAny _ _ (ret Value.none) _ _ _;refine wpAny_pure ⟨rfl,h',tk',rfl,hS',fun b o hb e=>?_⟩;exact hm.heap b o (by simp only[List.mem_cons,List.not_mem_nil,or_false,not_or];exact⟨Nat.ne_of_lt hb,Nat.ne_of_lt (by rw[sz];exact Nat.lt_succ_of_lt hb)⟩) (Heap.get?_push_of_some _ (Heap.get?_push_of_some _ e))
      · cases r₂ with
        | error e=>exact hr₂
        | ok fl₂ =>
          cases fl₂ with
          | ret r =>
            obtain⟨rfl,h',tk,rfl,hS',hk'⟩:=hr₂
            repeat (any_goals (first|assumption|wp_step))
            exact h _ _ hS' hk'
          | _=>exact hr₂.elim
    | _=>exact hr.elim
end
def GP:Manifest.owners.lookup (String.ofList ['r','o','t','a','r','e','t','i','_','t','e','s'].reverse)=some Manifest.sig_set_iterator:=by kernel_rfl
def e8:Slot "set_iterator" "__next__" "set_iterator.__next__" :=
 .of (owner:="set_iterator") (n:="__next__") (by rw[typeLookup_type,builtinLookup_eq_fast];kernel_rfl) (by decide +kernel) (by decide +kernel) (by decide +kernel)
  (by first|exact .inl (by decide +kernel)|exact .inr (by decide +kernel)) (by rw[isSubtype_type];kernel_rfl)
def qI:entryFor table "set_iterator.__next__"=some Builtin.«set_iterator.__next__»:=entryFor_of_tree (by kernel_rfl)
def sF(a:Value):argsOk "set_iterator.__next__" ⟨[a],[]⟩:=by
 unfold argsOk;rw[signature?_of (id:="set_iterator.__next__") (n:=['_','_','t','x','e','n','_','_']) (o:=['r','o','t','a','r','e','t','i','_','t','e','s']) (by kernel_rfl) GP];kernel_rfl
def tV:Slot "set_iterator" "__iter__" "set_iterator.__iter__" :=
 .of (owner:="set_iterator") (n:="__iter__") (by rw[typeLookup_type,builtinLookup_eq_fast];kernel_rfl) (by decide +kernel) (by decide +kernel) (by decide +kernel)
  (by first|exact .inl (by decide +kernel)|exact .inr (by decide +kernel)) (by rw[isSubtype_type];kernel_rfl)
def Ca:entryFor table "set_iterator.__iter__"=some Builtin.«dict_keyiterator.__iter__» :=
 entryFor_alias (id':="dict_keyiterator.__iter__") (by kernel_rfl) rfl (by decide +kernel) (by kernel_rfl)
def DH(a:Value):argsOk "set_iterator.__iter__" ⟨[a],[]⟩:=by
 unfold argsOk;rw[signature?_of (id:="set_iterator.__iter__") (n:=['_','_','r','e','t','i','_','_']) (o:=['r','o','t','a','r','e','t','i','_','t','e','s']) (by kernel_rfl) GP];kernel_rfl
def As:entryFor table "set.__iter__"=some Builtin.«frozenset.__iter__» :=
 entryFor_alias (id':="frozenset.__iter__") (by kernel_rfl) rfl (by decide +kernel) (by kernel_rfl)
section
variable {P:Program} {w:World} {A:Around} {E:q0A} {s:Shared} {a it:Addr} {es:Array (Int×Value)} {ep i:Nat} {t:SetTable}
def lG(w:World)(h:Heap)(a:Addr)(es:Array (Int×Value))(ep:Nat)(t:SetTable):Prop:=∃ o,h.get? a=some o/\o.ExactSet/\o.data=.set es ep t/\t.fits es.size=true/\qG w t
def lG.to{h h':Heap}(x:lG w h a es ep t)(k:∀ o,h.get? a=some o->h'.get? a=some o):lG w h' a es ep t:=let ⟨o,e,r⟩:=x;⟨o,k _ e,r⟩
def lG.lt{h:Heap}(x:lG w h a es ep t):a < h.objs.size:=let ⟨_,e,_⟩:=x;Heap.lt_size e
def lG.ty(x:lG w s.heap a es ep t):s.TypeIs (.ref a) "set":=let ⟨o,e,c,_⟩:=x;⟨o,e,c.1⟩
def nD(w:World)(a:Addr)(es:Array (Int×Value))(ep:Nat):Array (Int×Value):=if w.params.followText "set-order"=true then pickOrder (w.params.setOrder a ep) es else es
def Bo:(nD w a es ep).toList.Perm es.toList:=by
 unfold nD;split
 ·exact Mm _ _
 ·exact .refl _
def oQ:(nD w a es ep).size=es.size:=by have:=(Bo (w:=w) (a:=a) (es:=es) (ep:=ep)).length_eq;simpa using this
def DA(w:World)(t:SetTable)(i sl:Nat):Prop:=w.params.followText "set-order"=true\/SetTable.below t.place sl=i
def BZ(w:World)(h:Heap)(it a:Addr)(i n ep:Nat)(t:SetTable):Prop:=∃ o sl,h.get? it=some o/\o.cls=.type "set_iterator"/\o.data=.fields #[.int (sl:Nat) 0,.int (i:Nat) 0,.ref a,.int (n:Nat) 0,.int (ep:Nat) 0]/\DA w t i sl
def BZ.to{h h':Heap}{n:Nat}(x:BZ w h it a i n ep t)(k:∀ o,h.get? it=some o->h'.get? it=some o):BZ w h' it a i n ep t:=let ⟨o,sl,e,r⟩:=x;⟨o,sl,k _ e,r⟩
def BZ.ty{n:Nat}(x:BZ w s.heap it a i n ep t):s.TypeIs (.ref it) "set_iterator":=let ⟨o,_,e,c,_⟩:=x;⟨o,e,c⟩
def Mz(T:qG w t):DA w t 0 0:=.inr (by
 obtain⟨h1,h2,h3⟩:=qU t.place 0 T.rise;by_cases z:SetTable.below t.place 0=0
 ·exact z
 ·have:=h1 0 (by omega) (by omega);omega)
def My(T:qG w t){j:Nat}(e:t.place[i]?=some j):SetTable.below t.place (j+1)=i+1:=by
 obtain⟨hi,ej⟩:=Array.getElem?_eq_some_iff.mp e;obtain⟨h1,h2,h3⟩:=qU t.place (j+1) T.rise;by_cases c:SetTable.below t.place (j+1)<=i
 ·have:=h2 i hi c;omega
 ·by_cases d:i+1 < SetTable.below t.place (j+1)
  ·have h4:i+1 < t.place.size:=by omega
   have h5:=h1 (i+1) h4 d;have h6:=List.pairwise_iff_getElem.mp T.rise i (i+1) (by simpa using hi) (by simpa using h4) (by omega);simp at h6;omega
  ·omega
def PD{Q:q0A}(x:lG w s.heap a es ep t)
    (q:Q (.ref s.heap.objs.size) {s with heap:=s.heap.push {cls:=.type "set_iterator",data:=.fields #[.int 0 0,.int 0 0,.ref a,.int es.size 0,.int ep 0]}}):wpAny (model P w) A (pyIter (.ref a)) Q E s:=by
  obtain⟨o,e1,e2,e3,e4,T⟩:=id x;refine wpAny_pyIter_slot x.ty F.slot_set_iter (wpAny_call_entry F.slot_set_iter x.ty As ?_ (F.args_set_iter_1 _));unfold Builtin.«frozenset.__iter__»;refine wpAny_bind ?_;show wpAny _ _ ((pure (Value.ref a,([]:List Value)):Sem _) >>= fun z=>Builtin.Frozenset.addrOf z.1) _ _ s;refine wpAny_bind (wpAny_pure (wpAny_pure ?_));refine wpAny_bind (wpAny_bind (wpAny_bind (wpAny_setState_of e1 e3 e4 (wpAny_pure (wpAny_pure ?_)))));refine wpAny_bind (wpAny_bind (wpAny_setState_of e1 e3 e4 ?_));refine wpAny_bind (wpAny_bind (wpAny_askSetting (wpAny_pure ?_)));refine wpAny_pure ?_;show wpAny _ _ (if (!w.params.followText "set-order"&&(!t.plain&&decide (es.size > 1)))=true then _ else _) _ _ s;rw[T.pln];simp only[Bool.not_true,Bool.false_and,Bool.and_false,Bool.false_eq_true,if_false];refine wpAny_bind (wpAny_pure (wpAny_bind (wpAny_bind (wpAny_setState_of e1 e3 e4 (wpAny_pure ?_)))));refine wpAny_bind (wpAny_newObj_type (wpAny_pure ⟨_,rfl,"set_iterator",_,⟨_,Heap.get?_push_size _ rfl,rfl⟩,e8.lookup,by simpa[rawInt] using q⟩))
def BX{sl:Nat}{Q:Option (Value×Nat)->Shared->Prop}(x:lG w s.heap a es ep t)(hs:DA w t i sl)
    (q1:∀ e sl',(nD w a es ep)[i]?=some e->DA w t (i+1) sl'->Q (some (e.2,sl')) s) (q0:(nD w a es ep)[i]?=none->Q none s):wpAny (model P w) A (setNext a sl i ep) Q E s:=by
  obtain⟨o,e1,e2,e3,e4,T⟩:=id x;unfold setNext;refine wpAny_bind (wpAny_setState_of e1 e3 e4 ?_);dsimp only;refine wpAny_bind (wpAny_bind (wpAny_askSetting (wpAny_pure ?_)));show wpAny _ _ (if w.params.followText "set-order"=true then _ else _) _ _ s;by_cases c:w.params.followText "set-order"=true
  · rw[if_pos c,if_neg (by simp)];unfold setWalk;refine wpAny_bind (wpAny_bind (wpAny_setState_of e1 e3 e4 ?_));dsimp only;refine wpAny_bind (wpAny_bind (wpAny_askSetting (wpAny_pure ?_)));show wpAny _ _ (if w.params.followText "set-order"=true then _ else _) _ _ s;rw[if_pos c];refine wpAny_bind (wpAny_askSetting (wpAny_pure (wpAny_pure ?_)));show Q (Option.map _ (pickOrder (w.params.setOrder a ep) es)[i]?) s;have eo:nD w a es ep=pickOrder (w.params.setOrder a ep) es:=if_pos c;rw[eo] at q1 q0;cases h:(pickOrder (w.params.setOrder a ep) es)[i]? with
    | none=>exact q0 h
    | some e=>exact q1 e sl h (.inl c)
  · rw[if_neg c];have eo:nD w a es ep=es:=if_neg c;rw[eo] at q1 q0;have hb:SetTable.below t.place sl=i:=hs.resolve_left c;have hl:t.led=true:=T.led.resolve_left c;show wpAny _ _ (if (!t.plain&&decide (es.size > 1))=true then _ else _) _ _ s;rw[T.pln];simp only[Bool.not_true,Bool.false_and,Bool.false_eq_true,if_false];show wpAny _ _ ((if (!t.led&&!es.isEmpty)=true then unsupported "set:maker-not-led" else pure ()) >>= fun _=>_) _ _ s;rw[hl];simp only[Bool.not_true,Bool.false_and,Bool.false_eq_true,if_false];refine wpAny_bind (wpAny_pure (wpAny_pure ?_));rw[hb];have hz:t.place.size=es.size:=by
      have:=e4;unfold SetTable.fits at this;simp only[Bool.and_eq_true,beq_iff_eq] at this;exact this.1
    by_cases d:i < es.size
    · have h1:es[i]?=some es[i]:=Array.getElem?_eq_getElem d;have h2:t.place[i]?=some (t.place[i]'(by omega)):=Array.getElem?_eq_getElem (by omega);rw[h1,h2];exact q1 _ _ h1 (.inr (My T h2))
    · have h1:es[i]?=none:=Array.getElem?_eq_none (by omega);rw[h1];exact q0 h1
def PH{Q:Option Value->Shared->Prop}(ki:BZ w s.heap it a i es.size ep t)(x:lG w s.heap a es ep t){e:Int×Value}(he:(nD w a es ep)[i]?=some e)
    (q:∀ h',BZ w h' it a (i+1) es.size ep t->Heap.SameBut it s.heap h'->Q (some e.2) {s with heap:=h'}):wpAny (model P w) A (pyNext (.ref it)) Q E s:=by
  obtain⟨oi,sl,i1,i2,i3,i4⟩:=id ki;obtain⟨o,e1,e2,e3,e4,T⟩:=id x;have lt:i < es.size:=by have:=(Array.getElem?_eq_some_iff.mp he).1;rw[oQ] at this;exact this
  unfold pyNext;refine wpAny_bind (wpAny_attempt (wpAny_callSpecial?_slot (name:=Str.ofString "__next__") ki.ty e8
    (wpAny_call_entry e8 ki.ty qI ?_ (sF _))))
  unfold Builtin.«set_iterator.__next__»;refine wpAny_bind (wpAny_pure (wpAny_bind (wpAny_fieldsOf i1 i3 ?_)));show wpAny _ _ (setEntries a >>= fun _=>_) _ _ s;refine wpAny_bind (wpAny_bind (wpAny_setState_of e1 e3 e4 (wpAny_pure ?_)));rw[if_neg (by simp)];show wpAny _ _ (setNext a (Int.toNat (sl:Nat)) (Int.toNat (i:Nat)) (Int.toNat (ep:Nat)) >>= fun z=>_) _ _ s;simp only[Int.toNat_natCast];refine wpAny_bind ?_;refine BX x i4 (fun e' sl' he' hs'=>?_) fun z=>by rw[z] at he;cases he
  rw[he] at he';cases he';show wpAny _ _ (setField (.ref it) 0 (rawInt (sl':Nat)) >>= fun _=>_) _ _ s;refine wpAny_bind (wpAny_setField i1 i3 (by simp) ?_);have j1:(s.heap.update it (Obj.mapFields (·.setIfInBounds 0 (rawInt (sl':Nat))))).get? it=some (Obj.mapFields (·.setIfInBounds 0 (rawInt (sl':Nat))) oi):=Heap.get?_update_self _ i1 (Obj.isFreed_of_fields (Obj.data_mapFields i3 _));have j3:(Obj.mapFields (·.setIfInBounds 0 (rawInt (sl':Nat))) oi).data=.fields #[.int (sl':Nat) 0,.int (i:Nat) 0,.ref a,.int (es.size:Nat) 0,.int (ep:Nat) 0]:=by rw[Obj.data_mapFields i3];simp[rawInt]
  show wpAny _ _ (setField (.ref it) 1 (rawInt ((i:Int)+1)) >>= fun _=>_) _ _ _;refine wpAny_bind (wpAny_setField j1 j3 (by simp) ?_);refine wpAny_pure ⟨_,rfl,wpAny_pure (q _ ⟨_,sl',Heap.get?_update_self _ j1 (Obj.isFreed_of_fields (Obj.data_mapFields j3 _)),((Obj.cls_mapFields ..).trans (Obj.cls_mapFields ..)).trans i2,by rw[Obj.data_mapFields j3];simp[rawInt],hs'⟩ ((Heap.SameBut.update ..).trans (Heap.SameBut.update ..)))⟩
def SG{Q:Option Value->Shared->Prop}(hh:A.handled=none)(ki:BZ w s.heap it a es.size es.size ep t)(x:lG w s.heap a es ep t)
    (q:∀ h',Heap.ExtBut it s.heap h'->Q none {s with heap:=h'}):wpAny (model P w) A (pyNext (.ref it)) Q E s:=by
  obtain⟨oi,sl,i1,i2,i3,i4⟩:=id ki;obtain⟨o,e1,e2,e3,e4,T⟩:=id x;unfold pyNext;refine wpAny_bind (wpAny_attempt (wpAny_callSpecial?_slot (name:=Str.ofString "__next__") ki.ty e8
    (wpAny_call_entry e8 ki.ty qI ?_ (sF _))))
  unfold Builtin.«set_iterator.__next__»;refine wpAny_bind (wpAny_pure (wpAny_bind (wpAny_fieldsOf i1 i3 ?_)));show wpAny _ _ (setEntries a >>= fun _=>_) _ _ s;refine wpAny_bind (wpAny_bind (wpAny_setState_of e1 e3 e4 (wpAny_pure ?_)));rw[if_neg (by simp)];show wpAny _ _ (setNext a (Int.toNat (sl:Nat)) (Int.toNat (es.size:Nat)) (Int.toNat (ep:Nat)) >>= fun z=>_) _ _ s;simp only[Int.toNat_natCast];refine wpAny_bind ?_;refine BX x i4 (fun e' sl' he' hs'=>by
    have:=(Array.getElem?_eq_some_iff.mp he').1;rw[oQ] at this;omega) fun _=>?_
  show wpAny _ _ (setField (.ref it) 2 .none >>= fun _=>_) _ _ s;refine wpAny_bind (wpAny_setField i1 i3 (by simp) ?_);show wpAny _ _ (newExc (.type "StopIteration") [] >>= fun _=>_) _ _ _;refine wpAny_bind ?_;simp only[newExc,newTuple];refine wpAny_bind (wpAny_newObj_type ?_ (by size_fits));refine wpAny_bind (m:=firstArgMember _ _) (wpAny_of_eq (a:=Value.none) (by first|rfl|(simp only[firstArgMember];rfl)) (wpAny_newObj_type ?_ (by size_fits)))
  simp only[raiseNew];refine wpAny_bind (wpAny_handled ?_);rw[show A.in1.handled=none from hh];refine wpAny_bind (wpAny_pure (wpAny_throw ?_));refine wpAny_bind (wpAny_isInstance (T:="StopIteration") (b:=true) ⟨_,Heap.get?_push_size _ rfl,rfl⟩ (show _ from isSubtype_stop) ?_);exact wpAny_pure (q _ (((Heap.SameBut.update ..).extBut.push _).push _))
def PJ{n:Nat}{Q:q0A}(ki:BZ w s.heap it a i n ep t)(h:Q (.ref it) s):wpAny (model P w) A (pyIter (.ref it)) Q E s:=by
 refine wpAny_pyIter_slot ki.ty tV (wpAny_call_entry tV ki.ty Ca ?_ (DH _));show wpAny _ _ (ret (.ref it)) _ _ s;exact wpAny_pure ⟨_,rfl,"set_iterator",_,ki.ty,e8.lookup,h⟩
def ML(hh:A.handled=none)(it a:Addr)(ne:a≠it)(es:Array (Int×Value))(ep:Nat)(t:SetTable) :
    Walks P w A it [it,a] [it] es.size (fun i v=>∃ e,(nD w a es ep)[i]?=some e/\v=e.2) (fun i h=>BZ w h it a i es.size ep t/\lG w h a es ep t) where
  sub:=fun b hb=>by simp at hb;simp[hb]
  frame:=fun _ _ _ st hk=>⟨st.1.to fun o e=>hk it (by simp) o e,st.2.to fun o e=>hk a (by simp) o e⟩
  item:=fun i s Q E hi st hQ=>PH st.1 st.2 (Array.getElem?_eq_getElem (by rw[oQ];exact hi)) fun h' k2 sb=>hQ _ h' s.toks ⟨_,Array.getElem?_eq_getElem (by rw[oQ];exact hi),rfl⟩ ⟨k2,st.2.to fun o e=>sb.extBut a o ne e⟩ fun b o hb e=>sb.extBut b o (fun h=>hb (by simp[h])) e
  done:=fun s Q E st hQ=>SG hh st.1 st.2 fun h' he=>hQ h' s.toks fun b o hb e=>he b o (fun h=>hb (by simp[h])) e
  self:=fun _ _ _ _ st hQ=>PJ st.1 hQ
end
section
variable {prog:Program} {w:World} {A:Around} {E:q0A} {s:Shared} {r a:Addr} {es:Array (Int×Value)} {ep:Nat} {t:SetTable}
def Ot{Q:Bool->Shared->Prop}(hT:s.TypeIs (.ref r) "set")(h:Q false s):wpAny (model prog w) A (Builtin.List.listLengthHint (.ref r)) Q E s:=by
 unfold Builtin.List.listLengthHint;refine wpAny_bind (wpAny_specialOf hT PySem.F.slot_set_len.lookup ?_);generalize hid:("set.__len__":String)=id0
 wp_delta
 rw[show splitId id0=some ("set","__len__") from by subst hid;decide +kernel];subst hid;refine wpAny_bind (wpAny_isInstance (T:="set") (b:=true) hT (by rw[isSubtype_type];kernel_rfl) ?_);refine wpAny_ite_split (fun hab=>absurd hab (by decide)) (fun _=>?_);refine wpAny_ite_split (fun _=>?_) (fun hab=>absurd (by decide +kernel) hab);refine wpAny_bind (wpAny_typeOf hT ?_);exact wpAny_pure h
open PySem.W in
def SW:KdlSrc prog w "set" a a es.size (fun i v=>∃ e,(nD w a es ep)[i]?=some e/\v=e.2) (fun h=>lG w h a es ep t) where
 type:=fun _ hm=>hm.ty
 there:=fun _ hm=>⟨hm.lt,hm.lt⟩
 keep:=fun _ _ hm hk=>hm.to fun o e=>hk a (.inl rfl) o e
 notList:=by decide
 notTuple:=by decide
 hint:=fun _ _ _ _ hm hq=>Ot hm.ty hq
 iter:=fun _ _ hh hm=>⟨_,_,(fun _ _ hq=>PD hm hq),ML hh _ a (Nat.ne_of_lt hm.lt) es ep t,⟨⟨_,0,Heap.get?_push_size _ rfl,rfl,rfl,Mz (let ⟨_,_,_,_,_,T⟩:=hm;T)⟩,hm.to fun o e=>Heap.get?_push_of_some _ e⟩⟩
end
def M7:bootBuiltins "set"=some (.type "set"):=by decide +kernel
def look1{k z:Str}{a c:Addr}{r:List (Str×Addr)}(e:List.lookup k r=some a)(h:List.lookup z [(k,a)]=some c):List.lookup z r=some c:=by
 simp only[List.lookup] at h;split at h
 ·next y=>cases h;rw[eq_of_beq y];exact e
 ·cases h
def HD(P:Program)(w:World)(a:Addr)(ns:List Int):HO:=.ext (tY P w a ns)
def SF{X:Cx}{H:Hp}{h:Heap}{a:Addr}{ns:List Int}(x:tY X.prog X.w a ns h):dF X.prog X.w H h a (HD X.prog X.w a ns) :=
 ⟨x,let ⟨o,_,_,_,e,_⟩:=x;⟨o,e⟩,fun _ _ y k=>y.keep k⟩
def nC(ns:List Int):List Int:=once (fun i=>ns.getD i 0) ns.length
def Ni(P:Program)(w:World):List V->Hp->VK->Prop:=fun vs H Q=>on1 vs fun x=>bC x fun p=>∃ ns:List Int,H p=some (.lst (ns.map V.int))/\ns.length<=4/\∀ l,H l=none->Q (.ref l) (Z8 H l (HD P w l (nC ns)))
def CO{X:Cx}(hc:X.calm=true):dG X (.type "set") (Ni X.prog X.w):=fun Z7 s σ H xs us Q I r h=>by
 obtain⟨x,rfl,h1⟩:=eQ h;obtain⟨p,rfl,ns,e,h4,q⟩:=aT h1;obtain⟨u,rfl,ru⟩:=vals1 r;cases ru;obtain⟨its,r',pl,hz⟩:=I.list (dR.of e);have hi:IntsAre its ns:=Ij r';have hlen:=r'.length;have lm:its.toArray.size=ns.length:=by simpa using hlen.symm
 refine Fj (items:=its.toArray) (I.ok.hd hc) pl.isList (by simpa using hi) (by omega) fun h' tk hS kp=>?_;rw[lm] at hS;exact⟨.ref s.heap.objs.size,_,I.laid (t':=tk) (fun b o e=>kp b o (Heap.lt_size e) e) (Nat.le_refl _) (SF hS),rfl,q _ (I.hok.fresh (Nat.le_refl _))⟩
def Nh(P:Program)(w:World):List V->Hp->VK->Prop:=fun vs H Q=>on1 vs fun x=>bC x fun p=>∃ ns:List Int,H p=some (HD P w p ns)/\Q (.int ns.length) H
def HR{X:Cx}:dG X (.builtin "len") (Nh X.prog X.w):=fun Z7 s σ H xs us Q I r h=>by
 obtain⟨x,rfl,h1⟩:=eQ h;obtain⟨p,rfl,ns,e,q⟩:=aT h1;obtain⟨u,rfl,ru⟩:=vals1 r;cases ru;obtain⟨⟨o,es,ep,t,ho,hex,hd,hel,hb,hf,T,hi,hp⟩,_⟩:=I.hok p _ e;have hl:es.size=ns.length:=by have:=hp.length_eq;simpa using this
 have b1:scanBound=4096:=rfl;refine call_len_set ho hex hd hf (by omega) ?_;exact⟨.int ns.length,H,I.tok _,⟨_,by rw[hl]⟩,q⟩
def Nj(P:Program)(w:World):List V->Hp->VK->Prop:=fun vs H Q=>on1 vs fun x=>bC x fun p=>∃ ns:List Int,H p=some (HD P w p ns)/\ns.length < 64/\∀(l:Addr) (ns':List Int),H l=none->ns'.Perm ns->ns'.Pairwise (·<=·)->Q (.ref l) (Z8 H l (.lst (ns'.map V.int)))
def HS{X:Cx}(hc:X.calm=true):dG X (.builtin "sorted") (Nj X.prog X.w):=fun Z7 s σ H xs us Q I r h=>by
 obtain⟨x,rfl,h1⟩:=eQ h;obtain⟨p,rfl,ns0,e,h64,q0⟩:=aT h1;obtain⟨u,rfl,ru⟩:=vals1 r;cases ru;obtain⟨⟨od,es,ep,t,ho,hex,hd,hel,hb,hf,T,hi,hp0⟩,_⟩:=I.hok p _ e;have hl:es.size=ns0.length:=by have:=hp0.length_eq;simpa using this
 obtain⟨m,hn,_⟩:=I.loc;have hne:p≠X.env.locals:=aL e I.free;obtain⟨ns,ens⟩:∃ ns,ns=(nD X.w p es ep).toList.map fun e=>Gb e.2:=⟨_,rfl⟩;have pns:ns.Perm ns0:=by rw[ens];exact(Bo.map _).trans hp0
 have lns:ns.length=es.size:=by rw[ens];simp[oQ]
 have q:∀(l:Addr) (ns':List Int),H l=none->ns'.Perm ns->ns'.Pairwise (·<=·)->Q (.ref l) (Z8 H l (.lst (ns'.map V.int))):=fun l ns' a b c=>q0 l ns' a (b.trans pns) c;refine PySem.W.kdu_sorted (SW (a:=p) (es:=es) (ep:=ep) (t:=t)) (I.ok.hd hc) (Att.Ih hn) (Att.oJ hne ho) ⟨od,ho,hex,hd,hf,T⟩ (by rw[sizeLine_eq];omega) fun D h' tk vs F N lt hlen hP=>?_;have hI:IntsAre vs ns:=JU (by omega) fun j v ev=>by
  obtain⟨e,e1,rfl⟩:=hP j v ev;have e1':(nD X.w p es ep).toList[j]?=some e:=by rw[Array.getElem?_toList];exact e1
  obtain⟨i,tk,et⟩:=hi e (Bo.mem_iff.mp (List.mem_of_getElem? e1'));exact⟨i,tk,by rw[ens,List.getElem?_map,e1'];simp only[Option.map_some,et,Gb],et⟩
 have hD:h'.get? D=some (seqObj "list" vs.toArray 0):=(N _ (List.Mem.head _)).1;have old:∀ b o,b≠X.env.locals->s.heap.get? b=some o->h'.get? b=some o/\b < D:=fun b o nb eb=>by
  by_cases hb:b=p
  ·subst hb;rw[ho] at eb;cases eb;exact⟨(N _ (List.Mem.tail _ (List.Mem.head _))).1,lt _ (List.Mem.head _)⟩
  ·have mem:=Att.mK (h:=s.heap) (L:=X.env.locals) (d:=p) |>.mpr ⟨nb,hb,eb⟩;exact⟨(N _ (List.Mem.tail _ (List.Mem.tail _ mem))).1,lt _ (List.Mem.tail _ mem)⟩
 have g:MeetsIn X.prog X.w (Builtin.«list.sort» ⟨[.ref D],[]⟩) (fun _ R s=>s.heap.get? D=some (seqObj "list" vs.toArray 0)/\∀(out:Array Value) (ns':List Int),IntsAre out.toList ns'->ns'.Perm ns->ns'.Pairwise (·<=·)->R (.ok (.ret .none)) {s with heap:=sortedHeap s.heap D vs out}) :=
  fun A R s ⟨g1,g2⟩=>list_sort_tree g1 hI (by omega) fun out ns' a b c=>g2 out ns' a b c
 refine call_meetsIn PySem.F.slot_list_sort ⟨_,hD,rfl⟩ PySem.F.entry_list_sort (PySem.F.args_list_sort_1 _) g ⟨hD,fun out ns' hI' hp hs=>?_⟩;have hDL:D≠X.env.locals:=(N _ (List.Mem.head _)).2.1;have hDn:H D=none:=by
  cases z:H D with
  | none=>rfl
  | some o =>
   obtain⟨ob,eb⟩:=(I.hok D o z).there;exact absurd (old D ob hDL eb).2 (Nat.lt_irrefl _)
 have new:∀ b o,b≠X.env.locals->s.heap.get? b=some o->(sortedHeap h' D vs out).get? b=some o:=fun b o nb eb=>by
  obtain⟨h1,h2⟩:=old b o nb eb;rw[sortedHeap_old (Nat.ne_of_lt h2) (Heap.lt_size h1)];exact h1
 obtain⟨e',hD'⟩:=sortedHeap_at (out:=out) hD;have hns:∀ m',s.heap.Ns X.env.locals m'->(sortedHeap h' D vs out).Ns X.env.locals m':=fun m' hm=>by
  have em:m'=m:=by
   obtain⟨o1,es1,ep1,a1,b1,_,c1⟩:=hm;obtain⟨o2,es2,ep2,a2,b2,_,c2⟩:=hn;rw[a1] at a2;cases a2;rw[b1] at b2;cases b2;funext y;rw[<- c1,<- c2]
  subst em;obtain⟨o1,es1,ep1,a1,r1⟩:=F.ns;exact⟨o1,es1,ep1,by rw[sortedHeap_old hDL.symm (Heap.lt_size a1)];exact a1,r1⟩
 have nn:∀ {b:Addr} {o:HO},H b=some o->b≠D:=fun h z=>by subst z;rw[hDn] at h;cases h
 have nl:∀ {b:Addr} {o:HO},H b=some o->b≠X.env.locals:=fun h=>aL h I.free;refine⟨.ref D,Z8 H D (.lst (ns'.map V.int)),show Z9 X Z7 σ _ {s with heap:=sortedHeap h' D vs out,gens:=s.gens,drawn:=s.drawn,toks:=tk} from I.step (g':=s.gens) (d':=s.drawn) (t':=tk) (ch:=[]) (fun _ z=>nomatch z) (fun b o nb _ _ eb _=>new b o nb eb) (fun b o nb _ _ eb _=>⟨o.slots,new b o nb eb⟩) (fun b o _ eb hb=>?_) (fun b o _ eb=>?_)
  (fun b xs hb=>by rw[aG (nn hb)];exact hb) (fun b o u hb=>by rw[aG (nn hb)];exact hb) (fun b ps hb=>⟨#[],by rw[aG (nn hb),hb];simp⟩) hns (fun b o hb=>?_) I.bare,rfl,q D ns' hDn hp hs⟩
 ·by_cases hbD:b=D
  ·subst hbD;by_cases hbL:b=X.env.locals
   ·exact absurd hbL hDL
   ·exact absurd (old b o hbL eb).2 (Nat.lt_irrefl _)
  ·rw[aG hbD];exact hb
 ·by_cases hbL:b=X.env.locals
  ·subst hbL;obtain⟨o1,es1,ep1,a1,r1⟩:=hns m hn;exact⟨o1,a1⟩
  ·exact⟨o,new b o hbL eb⟩
 ·by_cases hbD:b=D
  ·subst hbD;rw[aA] at hb;cases hb;exact⟨by rw[List.length_map,hp.length_eq,sizeLine_eq];omega,out.toList,e',qB hI',hD'⟩
  ·rw[aG hbD] at hb;refine(I.hok b o hb).tW (fun c v hc ev=>?_) (fun c hc=>by rw[aG (nn hc)];exact hc) fun c xs hc=>by rw[aG (nn hc)];exact hc
   rcases hc with hc|hc
   ·subst hc;exact new c v (nl hb) ev
   ·exact new c v (nl hc) ev
section
variable {P:Program} {w:World} {H:Hp} {Q:VK} {p:Addr}
def Rm:Ni P w [.ref p] H Q = ∃ ns:List Int,H p=some (.lst (ns.map V.int))/\ns.length<=4/\∀ l,H l=none->Q (.ref l) (Z8 H l (HD P w l (nC ns))):=rfl
def Rb:Nh P w [.ref p] H Q = ∃ ns:List Int,H p=some (HD P w p ns)/\Q (.int ns.length) H:=rfl
def NS:Nj P w [.ref p] H Q = ∃ ns:List Int,H p=some (HD P w p ns)/\ns.length < 64/\∀(l:Addr) (ns':List Int),H l=none->ns'.Perm ns->ns'.Pairwise (·<=·)->Q (.ref l) (Z8 H l (.lst (ns'.map V.int))):=rfl
end
def W8(K:q0B)(n:Nat):R2:=fun x y H Q=>bC x fun a=>bC y fun b=>(∃ r,yL K H n a b r/\Q (.bl r) H) \/
 ∃(z z' u:Str) (p:Addr) (ts:List V),H a=some (.tup [.str z,.ref p])/\H p=some (.tup ts)/\H b=some (.tup [.str z',.str u])/\z≠z'/\Q (.bl false) H
def Wh{X:Cx}(n:Nat)(hn:2<=n)(hu:X.A.units+n < cLine):iW X (compareOp .Eq) (W8 X.K n):=fun Z7 s σ H x y v u Q I rx ry h=>by
 obtain⟨a,rfl,h1⟩:=aT h;obtain⟨b,rfl,h2⟩:=aT h1;cases rx;cases ry;rcases h2 with⟨r,e,q⟩|⟨z,z',k,p,ts,ea,ep,eb,ne,q⟩
 ·exact Ws e I hu X.prog X.w X.xe _ (bU I q rfl)
 ·obtain⟨its,r1,p1,_⟩:=I.tuple (fA.of ea);obtain⟨jts,r2,p2,_⟩:=I.tuple (fA.of eb);obtain⟨kts,r3,p3,_⟩:=I.tuple (fA.of ep);cases r1 with
  | cons a1 r1 =>
  cases r1 with
  | cons a2 r1 =>
  cases r1;cases r2 with
  | cons b1 r2 =>
  cases r2 with
  | cons b2 r2 =>
  cases r2;obtain⟨t1,rfl⟩:=a1;cases a2;obtain⟨t2,rfl⟩:=b1;obtain⟨t3,rfl⟩:=b2;have:=SeqAt.RcAt.tuples (A:=X.A) (e:=fun j=>if j=0 then (z==z') else false) (show s.heap.IsTuple a #[_,_] from p1) (show s.heap.IsTuple b #[_,_] from p2) (by omega) (fun j h1 h2=>by
   match j,h1 with
   | 0,_=>exact SeqAt.EqAt.str_str z t1 z' t2
   | 1,_=>exact SeqAt.EqAt.tuple_str k t3 (show s.heap.IsTuple p kts.toArray from p3) (by show X.A.units+1 < _;omega))
  have nz:(z==z')=false:=beq_eq_false_iff_ne.mpr ne;have ef:((List.range (min (2:Nat) 2)).all (fun j=>if j=0 then (z==z') else false)&&((2:Nat)==2))=false:=by rw[nz];rfl
  have:=this X.prog X.w X.xe (EP X Z7 σ Q) (by
   show EP X Z7 σ Q (.bool ((List.range (min (2:Nat) 2)).all (fun j=>if j=0 then (z==z') else false)&&((2:Nat)==2))) s;rw[ef];exact bU I q rfl)
  exact this
section
variable {K:q0B} {n:Nat} {H:Hp} {Q:VK} {a b:Addr}
def Xx:W8 K n (.ref a) (.ref b) H Q=((∃ r,yL K H n a b r/\Q (.bl r) H)\/∃(z z' u:Str) (p:Addr) (ts:List V),H a=some (.tup [.str z,.ref p])/\H p=some (.tup ts)/\H b=some (.tup [.str z',.str u])/\z≠z'/\Q (.bl false) H):=rfl
end
def jB:List (Key×V)->Option (List Str)
 | []=>some []
 | (.inr i,_)::r=>(jB r).map (i::·)
 | _=>none
def BR:∀ {kvs:List (Key×V)} {ns:List Str},jB kvs=some ns->kvs.length=ns.length/\∀(j:Nat) (k:Key) (x:V),kvs[j]?=some (k,x)->∃ i:Str,k=.inr i/\ns[j]?=some i
 | [],ns,h=>by cases h;exact⟨rfl,fun j k x e=>by simp at e⟩
 | (k,v)::kvs,ns,h=>by
  cases k with
  | inr i =>
   simp only[jB,Option.map_eq_some_iff] at h;obtain⟨ms,e,rfl⟩:=h;obtain⟨l,f⟩:=BR e;refine⟨by simp[l],fun j k x ej=>?_⟩;cases j with
   | zero=>simp only[List.getElem?_cons_zero,Option.some.injEq,Prod.mk.injEq] at ej;exact⟨i,ej.1.symm,rfl⟩
   | succ j=>exact f j k x (by simpa using ej)
  | _=>cases h
def SY{ns:List Str}:∀ {vs:List Value},vs.length=ns.length->(∀(j:Nat) (v:Value),vs[j]?=some v->∃ i t,ns[j]?=some i/\v=Value.str i t)->StrsAre vs ns:=by
 induction ns with
 | nil =>
  intro vs hl _;cases vs with
  | nil=>exact .nil
  | cons _ _=>simp at hl
 | cons n ns ih =>
  intro vs hl h;cases vs with
  | nil=>simp at hl
  | cons v vs =>
   obtain⟨i,t,e,rfl⟩:=h 0 v rfl;cases e;exact .cons _ _ (ih (by simpa using hl) fun j v e=>h (j+1) v (by simpa using e))
def Jp{vs:List Value}{ss:List Str}(h:StrsAre vs ss):Vals (ss.map V.str) vs:=by
 induction h with
 | nil=>exact .nil
 | cons y t _ ih=>exact .cons ⟨t,rfl⟩ ih
def Nl:List V->Hp->VK->Prop:=fun vs H Q=>on1 vs fun x=>bC x fun p=>cY (H p) fun kvs=>gM (jB kvs) fun ns=>ns.length < 64/\∀(l:Addr) (ns':List Str),H l=none->ns'.Perm ns->sortedS ns'=true->Q (.ref l) (Z8 H l (.lst (ns'.map V.str)))
def zW{X:Cx}(hc:X.calm=true):dG X (.builtin "sorted") Nl:=fun Z7 s σ H xs us Q I r h=>by
 obtain⟨x,rfl,h1⟩:=eQ h;obtain⟨p,rfl,h2⟩:=aT h1;obtain⟨kvs,e,h3⟩:=c7 h2;obtain⟨ns,ek,h64,q⟩:=cZ h3;obtain⟨u,rfl,ru⟩:=vals1 r;cases ru;obtain⟨hl,hk⟩:=BR ek;obtain⟨z,hd,vs0,rel,dd⟩:=sN I.hok e;obtain⟨ep,dat⟩:=dd.dictAt;obtain⟨od,es,ho,_⟩:=id dat;obtain⟨m,hn,_⟩:=I.loc;have hne:p≠X.env.locals:=aL e I.free;have l0:=rel.length;refine PySem.W.kdu_sorted (PySem.W.kdl_dict (knd:=bT X.prog X.w) (kvs:=vs0) (ep:=ep) hd) (I.ok.hd hc) (Att.Ih hn) (Att.oJ hne ho) dat (by omega) fun D h' tk vs F N lt hlen hP=>?_;have hI:StrsAre vs ns:=SY (by omega) fun j v ev=>by
  obtain⟨k,x,e1,e2⟩:=hP j v ev;have hj:j < kvs.length:=by
   have:=(List.getElem?_eq_some_iff.mp e1).1;omega
  obtain⟨⟨k',x'⟩,ekv⟩:∃ y,kvs[j]?=some y:=⟨_,List.getElem?_eq_getElem hj⟩;obtain⟨v',e3⟩:=KV.at rel ekv;rw[e1] at e3;cases e3;obtain⟨i,rfl,ei⟩:=hk j _ _ ekv;obtain⟨t,et⟩:=(show ∃ t,v=Value.str i t from tF e2);exact⟨i,t,ei,et⟩
 have hD:h'.get? D=some (seqObj "list" vs.toArray 0):=(N _ (List.Mem.head _)).1;have old:∀ b o,b≠X.env.locals->s.heap.get? b=some o->h'.get? b=some o/\b < D:=fun b o nb eb=>by
  by_cases hb:b=p
  ·subst hb;rw[ho] at eb;cases eb;exact⟨(N _ (List.Mem.tail _ (List.Mem.head _))).1,lt _ (List.Mem.head _)⟩
  ·have mem:=Att.mK (h:=s.heap) (L:=X.env.locals) (d:=p) |>.mpr ⟨nb,hb,eb⟩;exact⟨(N _ (List.Mem.tail _ (List.Mem.tail _ mem))).1,lt _ (List.Mem.tail _ mem)⟩
 have g:MeetsIn X.prog X.w (Builtin.«list.sort» ⟨[.ref D],[]⟩) (fun _ R s=>s.heap.get? D=some (seqObj "list" vs.toArray 0)/\∀(out:Array Value) (ns':List Str),StrsAre out.toList ns'->ns'.Perm ns->sortedS ns'=true->R (.ok (.ret .none)) {s with heap:=sortedHeap s.heap D vs out}) :=
  fun A R s ⟨g1,g2⟩=>list_sort_treeK strKind_oneLt g1 hI.keysOf (fun v₁ v₂ rest e=>keyKind_strs (by rw[<- e];exact hI)) (by omega) fun st' hp hs=>by
   obtain⟨ss',h1,h2,h3⟩:=sorted_out_str hI hp hs;exact g2 _ ss' h1 h2 h3
 refine call_meetsIn PySem.F.slot_list_sort ⟨_,hD,rfl⟩ PySem.F.entry_list_sort (PySem.F.args_list_sort_1 _) g ⟨hD,fun out ns' hI' hp hs=>?_⟩;have hDL:D≠X.env.locals:=(N _ (List.Mem.head _)).2.1;have hDn:H D=none:=by
  cases z:H D with
  | none=>rfl
  | some o =>
   obtain⟨ob,eb⟩:=(I.hok D o z).there;exact absurd (old D ob hDL eb).2 (Nat.lt_irrefl _)
 have new:∀ b o,b≠X.env.locals->s.heap.get? b=some o->(sortedHeap h' D vs out).get? b=some o:=fun b o nb eb=>by
  obtain⟨h1,h2⟩:=old b o nb eb;rw[sortedHeap_old (Nat.ne_of_lt h2) (Heap.lt_size h1)];exact h1
 obtain⟨e',hD'⟩:=sortedHeap_at (out:=out) hD;have hns:∀ m',s.heap.Ns X.env.locals m'->(sortedHeap h' D vs out).Ns X.env.locals m':=fun m' hm=>by
  have em:m'=m:=by
   obtain⟨o1,es1,ep1,a1,b1,_,c1⟩:=hm;obtain⟨o2,es2,ep2,a2,b2,_,c2⟩:=hn;rw[a1] at a2;cases a2;rw[b1] at b2;cases b2;funext y;rw[<- c1,<- c2]
  subst em;obtain⟨o1,es1,ep1,a1,r1⟩:=F.ns;exact⟨o1,es1,ep1,by rw[sortedHeap_old hDL.symm (Heap.lt_size a1)];exact a1,r1⟩
 have nn:∀ {b:Addr} {o:HO},H b=some o->b≠D:=fun h z=>by subst z;rw[hDn] at h;cases h
 have nl:∀ {b:Addr} {o:HO},H b=some o->b≠X.env.locals:=fun h=>aL h I.free;refine⟨.ref D,Z8 H D (.lst (ns'.map V.str)),show Z9 X Z7 σ _ {s with heap:=sortedHeap h' D vs out,gens:=s.gens,drawn:=s.drawn,toks:=tk} from I.step (g':=s.gens) (d':=s.drawn) (t':=tk) (ch:=[]) (fun _ z=>nomatch z) (fun b o nb _ _ eb _=>new b o nb eb) (fun b o nb _ _ eb _=>⟨o.slots,new b o nb eb⟩) (fun b o _ eb hb=>?_) (fun b o _ eb=>?_)
  (fun b xs hb=>by rw[aG (nn hb)];exact hb) (fun b o u hb=>by rw[aG (nn hb)];exact hb) (fun b ps hb=>⟨#[],by rw[aG (nn hb),hb];simp⟩) hns (fun b o hb=>?_) I.bare,rfl,q D ns' hDn hp hs⟩
 ·by_cases hbD:b=D
  ·subst hbD;by_cases hbL:b=X.env.locals
   ·exact absurd hbL hDL
   ·exact absurd (old b o hbL eb).2 (Nat.lt_irrefl _)
  ·rw[aG hbD];exact hb
 ·by_cases hbL:b=X.env.locals
  ·subst hbL;obtain⟨o1,es1,ep1,a1,r1⟩:=hns m hn;exact⟨o1,a1⟩
  ·exact⟨o,new b o hbL eb⟩
 ·by_cases hbD:b=D
  ·subst hbD;rw[aA] at hb;cases hb;exact⟨by rw[List.length_map,hp.length_eq];omega,out.toList,e',Jp hI',hD'⟩
  ·rw[aG hbD] at hb;refine(I.hok b o hb).tW (fun c v hc ev=>?_) (fun c hc=>by rw[aG (nn hc)];exact hc) fun c xs hc=>by rw[aG (nn hc)];exact hc
   rcases hc with hc|hc
   ·subst hc;exact new c v (nl hb) ev
   ·exact new c v (nl hc) ev
section
variable {H:Hp} {Q:VK} {p:Addr}
def Rp:Nl [.ref p] H Q=cY (H p) fun kvs=>gM (jB kvs) fun ns=>ns.length < 64/\∀(l:Addr) (ns':List Str),H l=none->ns'.Perm ns->sortedS ns'=true->Q (.ref l) (Z8 H l (.lst (ns'.map V.str))):=rfl
end
end L2
namespace PySem
open AutoSeq1 (wpAny_loadPart')
open PyProof.Rows PySem.W
section
variable {prog:Program} {w:World} {A:Around} {E:q0A} {s:Shared} {K:Type} [DecidableEq K] {knd:KeyKind prog w K} {r d:Addr} {kvs:List (K×Value)} {ep:Nat}
def nV{Q₁:q0A}(hh:A.handled=none)(hv:s.heap.IsItemsView r d)(hm:s.heap.DictAt knd d kvs ep)(hn:kvs.length<=sizeLine)
    (hQ:∀(h':Heap) (tk:Nat) (as:List Addr),(∀ b o,s.heap.get? b=some o->h'.get? b=some o)->as.length=kvs.length->KdxG knd kvs s.heap.objs.size h' as->Q₁ (.ref h'.objs.size) {s with heap:=h'.push {cls:=.type "tuple",data:=.seq (as.map Value.ref).toArray},toks:=tk}) :
    codeAny (model prog w) A (.call (.builtin "tuple.__new__") ⟨[.type "tuple",.ref r],[]⟩) (wants Q₁ E) s:=by
  refine codeAny_of_tree ?_;show wpAny _ A.in1 (do checkBuiltinCall "tuple.__new__" ⟨[.type "tuple",.ref r],[]⟩;again (.builtin "tuple.__new__" ⟨[.type "tuple",.ref r],[]⟩)) _ _ s;refine wpAny_bind (wpAny_of_eq (F.newCall_tuple_1 _) (wpAny_pure ⟨plainId_quiet F.plain_tuple_new _,codeAny_builtin F.entry_tuple_new ?_⟩));rw[Around.under_plainId F.plain_tuple_new _];have abN:=sub_tuple_self;have aeL:=init_tuple_lookup;have hmh:=madeHere_tuple;have hTI:s.TypeIs (.ref r) "dict_items":=let ⟨o,ho,x,_⟩:=hv;⟨o,ho,x⟩;wp_walk using wpAny_typeOf hTI,kdx_collect (A:=A.in1) (knd:=knd) (kvs:=kvs) (ep:=ep) hh hv hm hn;intro h' tk as hk hl hG;show wpAny _ _ (Builtin.Tuple.tupleExact (as.map Value.ref).toArray >>= fun v=>ret v) _ _ _;unfold Builtin.Tuple.tupleExact;refine wpAny_bind (wpAny_newObj_type ?_ (by show(as.map Value.ref).toArray.size<=sizeLine;simpa[hl] using hn));refine wpAny_pure ?_;exact hQ h' tk as hk hl hG
def uI{Q:q0A}(hh:A.handled=none)(hv:s.heap.IsItemsView r d)(hm:s.heap.DictAt knd d kvs ep)(hn:kvs.length<=sizeLine)
    (hQ:∀(h':Heap) (tk:Nat) (as:List Addr),(∀ b o,s.heap.get? b=some o->h'.get? b=some o)->as.length=kvs.length->KdxG knd kvs s.heap.objs.size h' as->Q (.ref h'.objs.size) {s with heap:=h'.push {cls:=.type "tuple",data:=.seq (as.map Value.ref).toArray},toks:=tk}) :
    wpAny (model prog w) A (call (.type "tuple") [.ref r]) Q E s:=by
  refine callType_codes (Q₁:=fun obj s₁=>s₁.TypeIs obj "tuple"/\Q obj s₁) F.called_tuple (F.typeCall_tuple_1 _) F.entry_object_init
    (nV (knd:=knd) (kvs:=kvs) (ep:=ep) hh hv hm hn fun h' tk as hk hl hG=>⟨⟨_,Heap.get?_push_size _ rfl,rfl⟩,hQ h' tk as hk hl hG⟩) fun obj s₁ h₁=>?_
  exact⟨h₁.1,F.args_object_init_2 obj _,object_init_meets F.called_tuple.init.lookup F.called_tuple.made (by decide) prog w A.in1 _ s₁ ⟨h₁.1,rfl,h₁.2⟩⟩
end
end PySem
namespace L2
open PySem PySem.Spec PyProof.Rows
def Qt(a d:Addr):HO:=.ext fun h=>h.IsItemsView a d
section
variable {X:Cx} {o:Expr} {td:TE} {apos aaA:Pos}
def Ng(td:TE):TE:=fun σ H Q=>td σ H fun x H1=>bC x fun a=>cY (H1 a) fun _=>∀ r,H1 r=none->Q (.ref r) (Z8 H1 r (Qt r a))
def Pe(ho:PE X o td)(aaG:attributeBase o "items" X.env (eval o X.env)=eval o X.env:=by rfl)(aaH:(apos.endLine==aaA.line)=true:=by rfl):PE X (.Call (.Attribute o "items" apos) [] [] aaA) (Ng td):=fun Z7 s σ H Q I h=>by
 refine wpAny_Call_method0_late aaG aaH (thn (ho Z7 s σ H _ I h) fun v s1 ⟨x,H1,I1,r1,q1⟩=>?_);obtain⟨a,rfl,q2⟩:=aT q1;obtain⟨kvs,e0,q3⟩:=c7 q2;obtain rfl:v=Value.ref a:=r1;obtain⟨t1,t2,_⟩:=vB I1 (.inl ⟨kvs,.inl e0⟩);refine⟨"dict","dict.items",PySem.F.plainAttrs_dict,PySem.F.slot_dict_items,PySem.F.type_dict_items,t1,t2,Calls.callWith_builtin rfl (PySem.evalArgs_none ?_)⟩;obtain⟨z,hd,vs,rel,dd⟩:=sN I1.hok e0;refine call_meetsIn PySem.F.slot_dict_items dd.typeIs PySem.F.entry_dict_items (PySem.F.args_dict_items_1 _) (meets_dict_items (bT X.prog X.w) a hd) ⟨⟨vs,dd⟩,?_⟩;have I2:=I1.laid (t':=s1.toks) (fun b o e=>Heap.get?_push_of_some _ e) (Nat.le_refl _) (show dF X.prog X.w _ (s1.heap.push {cls:=.type "dict_items",data:=.fields #[.ref a]}) _ (Qt s1.heap.objs.size a) from ⟨⟨_,Heap.get?_push_size _ rfl,rfl,rfl⟩,⟨_,Heap.get?_push_size _ rfl⟩,fun h1 h2 ⟨o,ho,x⟩ k=>⟨o,k o ho,x⟩⟩);exact⟨.ref _,_,I2,rfl,q3 _ (I1.hok.fresh (Nat.le_refl _))⟩
end
def KV.atR{kvs:List (Key×V)}{vs:List (Key×Value)}(r:KV kvs vs){i:Nat}{k:Key}{x:V}(e:kvs[i]?=some (k,x)):∃ v,vs[i]?=some (k,v)/\bJ x v:=by
 unfold KV at r
 induction r generalizing i with
 | nil=>simp at e
 | @cons p q ps qs h t ih=>cases i with
  | zero =>
   have e':p=(k,x):=by simpa using e
   subst e';exact⟨q.2,by rw[List.getElem?_cons_zero,show k=q.1 from h.1],h.2⟩
  | succ i=>simpa using ih (i:=i) (by simpa using e)
def Dy:∀ as:List Addr,Vals (as.map V.ref) (as.map Value.ref)
 | []=>.nil
 | a::as=>.cons rfl (Dy as)
def nN:List Addr->List (Key×V)->Hp->Hp
 | a::as,(k,x)::kvs,H=>Z8 (nN as kvs H) a (.tup [kV k,x])
 | _,_,H=>H
def pM{H:Hp}{b:Addr}:∀ {as:List Addr} {kvs:List (Key×V)},b∉as->nN as kvs H b=H b
 | [],_,_=>by simp[nN]
 | a::as,[],_=>by simp[nN]
 | a::as,(k,x)::kvs,h=>by
  simp only[List.mem_cons,not_or] at h;rw[nN,aG h.1,pM h.2]
def zG{H:Hp}{a:Addr}{k:Key}{x:V}:∀ {as:List Addr} {kvs:List (Key×V)} {j:Nat},as.Nodup->as[j]?=some a->kvs[j]?=some (k,x)->nN as kvs H a=some (.tup [kV k,x])
 | [],_,_,_,h,_=>by simp at h
 | b::as,[],_,_,_,h=>by simp at h
 | b::as,(k',x')::kvs,0,_,h1,h2=>by
  simp only[List.getElem?_cons_zero,Option.some.injEq,Prod.mk.injEq] at h1 h2;obtain⟨rfl,rfl⟩:=h2;subst h1;rw[nN,aA]
 | b::as,(k',x')::kvs,j+1,nd,h1,h2=>by
  rw[List.nodup_cons] at nd;simp only[List.getElem?_cons_succ] at h1 h2;have:a≠b:=fun z=>nd.1 (by rw[<- z];exact List.mem_of_getElem? h1);rw[nN,aG this,zG nd.2 h1 h2]
def MR{H:Hp}{b:Addr}{o:HO}{as:List Addr}{kvs:List (Key×V)}(nd:as.Nodup)(hl:as.length=kvs.length)(hb:b∈as)(h:nN as kvs H b=some o):∃(j:Nat) (k:Key) (x:V),as[j]?=some b/\kvs[j]?=some (k,x)/\o=.tup [kV k,x]:=by
 obtain⟨j,hj⟩:=List.mem_iff_getElem?.mp hb;have hlt:j < kvs.length:=by have:=(List.getElem?_eq_some_iff.mp hj).1;omega
 obtain⟨⟨k,x⟩,e⟩:∃ y,kvs[j]?=some y:=⟨_,List.getElem?_eq_getElem hlt⟩;rw[zG nd hj e] at h;exact⟨j,k,x,hj,e,(Option.some.inj h).symm⟩
def Nn:List V->Hp->VK->Prop:=fun vs H Q=>on1 vs fun x=>bC x fun r=>∃(d:Addr) (kvs:List (Key×V)),H r=some (Qt r d)/\H d=some (.dK kvs)/\∀(l:Addr) (as:List Addr) (H':Hp),H l=none->Same H H'->H' l=some (.tup (as.map V.ref))->as.length=kvs.length->(∀(j:Nat) (a:Addr) (k:Key) (x:V),as[j]?=some a->kvs[j]?=some (k,x)->H' a=some (.tup [kV k,x]))->Q (.ref l) H'
def HV{X:Cx}(hc:X.calm=true):dG X (.type "tuple") Nn:=fun Z7 s σ H xs us Q I rr h=>by
 obtain⟨x,rfl,h1⟩:=eQ h;obtain⟨r,rfl,d,kvs,er,ed,q⟩:=aT h1;obtain⟨u,rfl,ru⟩:=vals1 rr;cases ru;have hv:s.heap.IsItemsView r d:=(I.hok r _ er).1;obtain⟨z,hd,vs0,rel,dd⟩:=sN I.hok ed;obtain⟨ep,dat⟩:=dd.dictAt;have l0:=rel.length;refine uI (knd:=bT X.prog X.w) (kvs:=vs0) (ep:=ep) (I.ok.hd hc) hv dat (by omega) fun h' tk as hk hl hG=>?_;have fresh:∀ {b:Addr},s.heap.objs.size<=b->H b=none:=fun hb=>I.hok.fresh hb;have acM:∀ b o,H b=some o->∃ ob,s.heap.get? b=some ob:=fun b o e=>(I.hok b o e).there;have hl0:H h'.objs.size=none:=by
  cases e:H h'.objs.size with
  | none=>rfl
  | some o =>
   obtain⟨ob,eb⟩:=acM _ _ e;exact absurd (Heap.lt_size (hk _ _ eb)) (Nat.lt_irrefl _)
 have nd:as.Nodup:=hG.rise.imp fun h=>Nat.ne_of_lt h;have aH:∀ a∈as,H a=none:=fun a ha=>fresh (Nat.le_of_lt (hG.above a ha));have nl:h'.objs.size∉as:=fun z=>absurd (hG.there z) (Nat.lt_irrefl _);have hlk:as.length=kvs.length:=by omega
 have same:Same H (Z8 (nN as kvs H) h'.objs.size (.tup (as.map V.ref))):=fun b o e=>by
  have h1:b≠h'.objs.size:=fun z=>by rw[z,hl0] at e;cases e
  have h2:b∉as:=fun z=>by rw[aH b z] at e;cases e
  rw[aG h1,pM h2];exact e
 have aaR:∀ b o,s.heap.get? b=some o->(h'.push {cls:=.type "tuple",data:=.seq (as.map Value.ref).toArray}).get? b=some o:=fun b o e=>Heap.get?_push_of_some _ (hk b o e);refine⟨.ref h'.objs.size,Z8 (nN as kvs H) h'.objs.size (.tup (as.map V.ref)),show Z9 X Z7 σ _ {s with heap:=h'.push {cls:=.type "tuple",data:=.seq (as.map Value.ref).toArray},gens:=s.gens,drawn:=s.drawn,toks:=tk} from I.step (g':=s.gens) (d':=s.drawn) (t':=tk) (ch:=[]) (fun _ z=>nomatch z) (fun b o nb _ _ eb _=>aaR b o eb) (fun b o nb _ _ eb _=>⟨o.slots,aaR b o eb⟩) (fun b o _ eb hb=>?_) (fun b o _ eb=>⟨o,aaR b o eb⟩)
  (fun b xs hb=>same b _ hb) (fun b o u hb=>same b _ hb) (fun b ps hb=>⟨#[],by rw[same b _ hb];simp⟩) (fun m hm=>?_) (fun b o hb=>?_) I.bare,rfl,q _ as _ hl0 same aA hlk fun j a k x e1 e2=>?_⟩
 ·have h1:b≠h'.objs.size:=Nat.ne_of_lt (Heap.lt_size (hk b o eb));have h2:b∉as:=fun z=>absurd (Nat.lt_trans (hG.above b z) (Heap.lt_size eb)) (Nat.lt_irrefl _);rw[aG h1,pM h2];exact hb
 ·obtain⟨o1,es1,ep1,a1,r1⟩:=hm;exact⟨o1,es1,ep1,aaR _ _ a1,r1⟩
 ·by_cases h1:b=h'.objs.size
  ·subst h1;rw[aA] at hb;cases hb;exact⟨by rw[List.length_map];omega,as.map Value.ref,Dy as,IsTup.new _ _⟩
  ·rw[aG h1] at hb;by_cases h2:b∈as
   ·obtain⟨j,k,x,e1,e2,rfl⟩:=MR nd hlk h2 hb;obtain⟨key,k',x',e3,e4,e5⟩:=hG.pairs j b e1;obtain⟨v,e6,e7⟩:=KV.atR rel e2;rw[e3] at e6;cases e6;exact⟨by show 2<=sizeLine;rw[sizeLine_eq];decide,[key,x'],.cons (tF e4) (.cons e7 .nil),⟨_,Heap.get?_push_of_some _ e5,rfl,_,rfl⟩⟩
   ·rw[pM h2] at hb;exact(I.hok b o hb).tW (fun c v _ ev=>aaR c v ev) (fun c hc=>same _ _ hc) fun c xs hc=>same _ _ hc
 ·have:a≠h'.objs.size:=fun z=>nl (by rw[<- z];exact List.mem_of_getElem? e1);rw[aG this,zG nd e1 e2]
section
variable {H:Hp} {Q:VK} {p:Addr} {td:TE} {σ:St}
def Q9:Ng td σ H Q=td σ H fun x H1=>bC x fun a=>cY (H1 a) fun _=>∀ r,H1 r=none->Q (.ref r) (Z8 H1 r (Qt r a)):=rfl
def Ru:Nn [.ref p] H Q = ∃(d:Addr) (kvs:List (Key×V)),H p=some (Qt p d)/\H d=some (.dK kvs)/\∀(l:Addr) (as:List Addr) (H':Hp),H l=none->Same H H'->H' l=some (.tup (as.map V.ref))->as.length=kvs.length->(∀(j:Nat) (a:Addr) (k:Key) (x:V),as[j]?=some a->kvs[j]?=some (k,x)->H' a=some (.tup [kV k,x]))->Q (.ref l) H':=rfl
end
def MQ(a b:Str):Prop:=a.cps.toList<=b.cps.toList
def C7{a b c:Str}(h:MQ a b)(g:MQ b c):MQ a c:=List.le_trans h g
def OH{a b:Str}(h:MQ a b)(g:MQ b a):a=b:=by
 have e:=List.le_antisymm h g;obtain⟨⟨x⟩⟩:=a;obtain⟨⟨y⟩⟩:=b;simp only at e;rw[e]
def LH(a b:Str):MQ a b\/MQ b a:=List.le_total a.cps.toList b.cps.toList
def Bv:∀ {l:List Str} {p:Str},risingS p l=true->(p::l).Pairwise MQ
 | [],p,_=>by simp
 | x::r,p,h=>by
  rw[risingS,Bool.and_eq_true,Bool.not_eq_true',ltCps_eq,decide_eq_false_iff_not,List.not_lt] at h;have ih:=Bv h.2;rw[List.pairwise_cons];refine⟨fun y hy=>?_,ih⟩;rcases List.mem_cons.mp hy with rfl|hy
  ·exact h.1
  ·exact C7 h.1 ((List.pairwise_cons.mp ih).1 y hy)
def Jg{l:List Str}(h:sortedS l=true):l.Pairwise MQ:=by
 cases l with
 | nil=>exact .nil
 | cons x r=>exact Bv h
def Ki:∀ {a b:List Str},a.Perm b->a.Pairwise MQ->b.Pairwise MQ->a=b
 | [],b,p,_,_=>by rw[List.nil_perm.mp p]
 | x::a,[],p,_,_=>by have:=p.length_eq;simp at this
 | x::a,y::b,p,ha,hb=>by
  rw[List.pairwise_cons] at ha hb;have e:x=y:=by
   have h1:x∈y::b:=p.mem_iff.mp (by simp);have h2:y∈x::a:=p.mem_iff.mpr (by simp);rcases List.mem_cons.mp h1 with h1|h1
   ·exact h1
   rcases List.mem_cons.mp h2 with h2|h2
   ·exact h2.symm
   exact OH (ha.1 y h2) (hb.1 x h1)
  subst e;rw[Ki p.cons_inv ha.2 hb.2]
def Yb(a b:Str):Bool:=!(ltCps b.cps.toList a.cps.toList)
def pV{a b:Str}:Yb a b=true↔MQ a b:=by
 rw[Yb,Bool.not_eq_true',ltCps_eq,decide_eq_false_iff_not,List.not_lt];exact Iff.rfl
def srt(l:List Str):List Str:=l.mergeSort Yb
def PZ{l ns:List Str}(p:ns.Perm l)(h:sortedS ns=true):ns=srt l:=by
 refine Ki (p.trans (List.mergeSort_perm l Yb).symm) (Jg h) ?_;have:=List.pairwise_mergeSort (le:=Yb) (fun a b c h g=>pV.mpr (C7 (pV.mp h) (pV.mp g))) (fun a b=>by
  rcases LH a b with h|h
  ·rw[pV.mpr h];simp
  ·rw[pV.mpr h];simp) l
 exact this.imp fun h=>pV.mp h
def JZ:∀(f n r:Nat),r<=1->minRun' f n r<=n+r
 | 0,n,r,_=>Nat.le_of_eq rfl
 | f+1,n,r,hr=>by
  rw[minRun'_succ];split
  ·omega
  ·have:=JZ f (n / 2) (max r (n % 2)) (by omega);omega
section
variable {prog:Program} {w:World} {A:Around} {E:q0A} {s:Shared} {b0:Array Keyed}
def Wu{st:SortSt}{C:Option Nat->SortSt->Prop}(ik:IntKeys b0)(sb:SBase b0 st)(one:1<=b0.size)(up:∀ n,1<=n->n < b0.size->K (arrOf st) (n - 1)<=K (arrOf st) n)
    (q:SortedTo (arrOf st) b0.size->C (some b0.size) st):wpS (model prog w) A E s (countRun' 0 b0.size) C st:=by
  rw[countRun0_eq];refine wpS_bind (wpS_ascLoop ik (Nat.le_refl _) (Nat.le_refl 1) one sb (fun i j a b=>?_) fun n n1 n2 so oz=>?_)
  · obtain rfl:i=j:=by omega
    exact Int.le_refl _
  · have en:n=b0.size:=by
      rcases oz with z|z
      · exact z
      · rcases Nat.lt_or_ge n b0.size with y|y
        · have:=up n n1 y;omega
        · omega
    dsimp only;rw[en] at so ⊢;rw[if_pos (by simp)];exact wpS_pure (q so)
def SI{st:SortSt}{C:Unit->SortSt->Prop}(ik:IntKeys b0)(sb:SBase b0 st)(two:2<=b0.size)(up:∀ n,1<=n->n < b0.size->K (arrOf st) (n - 1)<=K (arrOf st) n)
    (q:∀ st',(arrOf st').Perm b0->failedOf st'=none->SortedTo (arrOf st') b0.size->C () st'):wpS (model prog w) A E s sortRuns' C st:=by
  rw[sortRuns'_eq];refine wpS_bind (wpS_get ?_);dsimp only;have mr:=JZ b0.size b0.size 0 (by omega);simp only[sb.size];obtain⟨P1,hP1⟩:∃ P1:SortSt->Prop,∀ z,P1 z=(arrOf z=arrOf st/\failedOf z=none/\pendingOf z = #[(0,b0.size,0)]/\SortedTo (arrOf z) b0.size):=⟨_,fun _=>rfl⟩;refine wpS_bind (wpS_mono (wpS_forRange (I:=fun x c z=>(x=0/\c=(none,0)/\z=st)\/(1<=x/\c=(none,b0.size)/\P1 z)) (Q:=fun c z=>c=(none,b0.size)/\P1 z) ?stp ?end0 (.inl ⟨rfl,rfl,rfl⟩)) ?aft)
  case end0 =>
    rintro c z (⟨a,_,_⟩|⟨_,a,b⟩)
    · omega
    · exact⟨a,b⟩
  case stp =>
    rintro x c z _ _ (⟨rfl,rfl,rfl⟩|⟨_,rfl,b⟩)
    · dsimp only;rw[if_neg (by omega)];simp only[Nat.sub_zero,Nat.zero_add];refine wpS_bind (Wu ik sb (by omega) up fun so=>?_);dsimp only;rw[if_neg (by omega)];refine wpS_bind (wpS_get ?_);rw[show(pendingOf z).back?=none by rw[sb.pend];rfl];dsimp only;refine wpS_bind (wpS_modify (wpS_pure (.inr ⟨Nat.le_refl _,rfl,?_⟩)));rw[hP1];exact⟨rfl,sb.failed,by show(pendingOf z).push _=_;rw[sb.pend];rfl,so⟩
    · dsimp only;rw[if_pos (Nat.le_refl _)];exact wpS_pure ⟨rfl,b⟩
  case aft =>
    rintro c z ⟨rfl,b⟩;rw[hP1] at b;dsimp only;refine wpS_bind (wpS_mono (wpS_forRange (I:=fun _ c y=>y=z/\c=(none,())) (Q:=fun c y=>y=z/\c=(none,())) ?_ (fun _ _ e=>e) ⟨rfl,rfl⟩) ?_)
    · rintro x c y _ _ ⟨rfl,rfl⟩;refine wpS_bind (wpS_get ?_);rw[if_pos (by rw[b.2.2.1];exact Nat.le_refl 1)];exact wpS_pure ⟨rfl,rfl⟩
    · rintro c y ⟨rfl,rfl⟩;exact wpS_pure (q _ (b.1▸sb.perm) b.2.1 b.2.2.2)
def Oy{vs:List Value}{ns:List Int}(hI:IntsAre vs ns):∀ {i:Nat} {n:Int},ns[i]?=some n->∃ t,vs[i]?=some (.int n t):=by
 induction hI with
 | nil=>intro i n h;simp at h
 | cons m t _ ih =>
  intro i n h;cases i with
  | zero =>
   simp only[List.getElem?_cons_zero,Option.some.injEq] at h;subst h;exact⟨t,rfl⟩
  | succ i=>exact ih (by simpa using h)
def Td{vs:List Value}{ns:List Int}(hI:IntsAre vs ns){i:Nat}{n:Int}(h:ns[i]?=some n):K (pairsOf vs) i=n:=by
 obtain⟨t,e⟩:=Oy hI h;have z:(pairsOf vs)[i]?=some (.int n t,.int n t):=by
  rw[<- Array.getElem?_toList,pairsOf_toList,List.getElem?_zip_eq_some];exact⟨e,e⟩
 unfold K;rw[z];rfl
def Ed{a:Addr}{vs:List Value}{ns:List Int}{n:Nat}{C:Fin->Shared->Prop}(ho:s.heap.get? a=some (seqObj "list" vs.toArray n))(hI:IntsAre vs ns)(hr:ns.Pairwise (·<=·))(hz:vs.length<=sizeLine)
    (q:∀(out:Array Value) (ns':List Int),IntsAre out.toList ns'->ns'.Perm ns->ns'.Pairwise (·<=·)->C (.done (.ret .none)) {s with heap:=sortedHeap s.heap a vs out}) :
    wpAny (model prog w) A (Builtin.«list.sort» ⟨[.ref a],[]⟩) C E s:=by
  by_cases few:vs.length < 64
  · exact list_sort_tree ho hI few q
  have lI:vs.length=ns.length:=hI.length;have la:a < s.heap.objs.size:=Heap.lt_size ho;rw[list_sort_plain];refine wpAny_bind (listItems_at ho rfl (wpAny_bind (listUpdate_at ho rfl ?_)));obtain⟨e1,o1⟩:∃ e1,(s.heap.update a (Obj.mapSeq fun _=>#[])).get? a=some (seqObj "list" #[] e1):=⟨_,get?_update_seq ho (fun _=>#[])⟩;refine wpAny_bind (seqEpoch_at o1 rfl (wpAny_bind (wpAny_newTuple (wpAny_bind (wpAny_newList (wpAny_holding ?_))))));have o6:(((s.heap.update a (Obj.mapSeq fun _=>#[])).push (seqObj "tuple" vs.toArray 0)).push (seqObj "list" #[] 0)).get? a=some (seqObj "list" #[] e1):=Heap.get?_push_of_some _ (Heap.get?_push_of_some _ o1);show wpAny (model prog w) A _ C E {s with heap:=((s.heap.update a (Obj.mapSeq fun _=>#[])).push (seqObj "tuple" vs.toArray 0)).push (seqObj "list" #[] 0)};dsimp only;have hne:¬ vs.toArray.size < 2:=by rw[List.size_toArray];omega
  rw[if_neg hne,if_neg hne];obtain⟨u,v,rest,rfl⟩:∃ u v rest,vs=u::v::rest:=by
    match vs,few with
    | [],z=>exact absurd (by simp) z
    | [_],z=>exact absurd (by simp) z
    | u::v::rest,_=>exact⟨u,v,rest,rfl⟩
  rw[keyKind_ints hI];refine wpAny_bind (wpAny_pure (wpAny_bind (wpAny_mono (SI (b0:=pairsOf (u::v::rest)) (st:=SortSt.mk' oneType' ((u::v::rest).toArray.zip (u::v::rest).toArray) #[] 7 none)
    (C:=fun _ z=>(arrOf z).Perm (pairsOf (u::v::rest))/\failedOf z=none/\SortedTo (arrOf z) (pairsOf (u::v::rest)).size)
    hI.intKeys ⟨Array.Perm.refl _,rfl,rfl,rfl⟩ (by rw[pairsOf_size];simp) (fun i i1 i2=>?_) fun z x y c=>⟨x,y,c⟩) ?_ fun _ _ e=>e)))
  · rw[pairsOf_size] at i2;have l1:i - 1 < ns.length:=by omega
    have l2:i < ns.length:=by omega
    show K (pairsOf (u::v::rest)) (i - 1)<=K (pairsOf (u::v::rest)) i;rw[Td hI (List.getElem?_eq_getElem l1),Td hI (List.getElem?_eq_getElem l2)];exact List.pairwise_iff_getElem.mp hr (i - 1) i l1 l2 (by omega)
  rintro⟨⟨⟩,z⟩ s' ⟨rfl,hp,hf,hs⟩;dsimp only;refine wpAny_bind (seqEpoch_at o6 rfl (wpAny_bind (listUpdate_at o6 rfl ?_ (hsz2:=by refine Nat.le_trans (Nat.le_of_eq ((Array.size_map ..).trans (hp.size_eq.trans (pairsOf_size _)))) ?_;omega))));rw[hf];simp only[bne_self_eq_false,Bool.false_eq_true,if_false];obtain⟨ns',h1,h2,h3⟩:=sorted_out hI hp hs;exact wpAny_pure (q _ ns' h1 h2 h3)
end
def Nk:List V->Hp->VK->Prop:=fun vs H Q=>on1 vs fun x=>bC x fun p=>cY (H p) fun kvs=>gM (intKeys kvs) fun ns=>ns.Pairwise (· < ·)/\∀(l:Addr) (ns':List Int),H l=none->ns'.Perm ns->ns'.Pairwise (·<=·)->Q (.ref l) (Z8 H l (.lst (ns'.map V.int)))
def HU{X:Cx}(hc:X.calm=true):dG X (.builtin "sorted") Nk:=fun Z7 s σ H xs us Q I r h=>by
 obtain⟨x,rfl,h1⟩:=eQ h;obtain⟨p,rfl,h2⟩:=aT h1;obtain⟨kvs,e,h3⟩:=c7 h2;obtain⟨ns,ek,adY,q⟩:=cZ h3;obtain⟨u,rfl,ru⟩:=vals1 r;cases ru;obtain⟨hl,hk⟩:=AK ek;obtain⟨z,hd,vs0,rel,dd⟩:=sN I.hok e;obtain⟨ep,dat⟩:=dd.dictAt;obtain⟨od,es,ho,_⟩:=id dat;obtain⟨m,hn,_⟩:=I.loc;have hne:p≠X.env.locals:=aL e I.free;have l0:=rel.length;refine PySem.W.kdu_sorted (PySem.W.kdl_dict (knd:=bT X.prog X.w) (kvs:=vs0) (ep:=ep) hd) (I.ok.hd hc) (Att.Ih hn) (Att.oJ hne ho) dat (by omega) fun D h' tk vs F N lt hlen hP=>?_;have hI:IntsAre vs ns:=JU (by omega) fun j v ev=>by
  obtain⟨k,x,e1,e2⟩:=hP j v ev;have hj:j < kvs.length:=by
   have:=(List.getElem?_eq_some_iff.mp e1).1;omega
  obtain⟨⟨k',x'⟩,ekv⟩:∃ y,kvs[j]?=some y:=⟨_,List.getElem?_eq_getElem hj⟩;obtain⟨v',e3⟩:=KV.at rel ekv;rw[e1] at e3;cases e3;obtain⟨i,rfl,ei⟩:=hk j _ _ ekv;obtain⟨t,et⟩:=(show ∃ t,v=Value.int i t from tF e2);exact⟨i,t,ei,et⟩
 have hD:h'.get? D=some (seqObj "list" vs.toArray 0):=(N _ (List.Mem.head _)).1;have old:∀ b o,b≠X.env.locals->s.heap.get? b=some o->h'.get? b=some o/\b < D:=fun b o nb eb=>by
  by_cases hb:b=p
  ·subst hb;rw[ho] at eb;cases eb;exact⟨(N _ (List.Mem.tail _ (List.Mem.head _))).1,lt _ (List.Mem.head _)⟩
  ·have mem:=Att.mK (h:=s.heap) (L:=X.env.locals) (d:=p) |>.mpr ⟨nb,hb,eb⟩;exact⟨(N _ (List.Mem.tail _ (List.Mem.tail _ mem))).1,lt _ (List.Mem.tail _ mem)⟩
 have g:MeetsIn X.prog X.w (Builtin.«list.sort» ⟨[.ref D],[]⟩) (fun _ R s=>s.heap.get? D=some (seqObj "list" vs.toArray 0)/\∀(out:Array Value) (ns':List Int),IntsAre out.toList ns'->ns'.Perm ns->ns'.Pairwise (·<=·)->R (.ok (.ret .none)) {s with heap:=sortedHeap s.heap D vs out}) :=
  fun A R s ⟨g1,g2⟩=>Ed g1 hI (adY.imp fun h=>Int.le_of_lt h) (by omega) fun out ns' a b c=>g2 out ns' a b c
 refine call_meetsIn PySem.F.slot_list_sort ⟨_,hD,rfl⟩ PySem.F.entry_list_sort (PySem.F.args_list_sort_1 _) g ⟨hD,fun out ns' hI' hp hs=>?_⟩;have hDL:D≠X.env.locals:=(N _ (List.Mem.head _)).2.1;have hDn:H D=none:=by
  cases z:H D with
  | none=>rfl
  | some o =>
   obtain⟨ob,eb⟩:=(I.hok D o z).there;exact absurd (old D ob hDL eb).2 (Nat.lt_irrefl _)
 have new:∀ b o,b≠X.env.locals->s.heap.get? b=some o->(sortedHeap h' D vs out).get? b=some o:=fun b o nb eb=>by
  obtain⟨h1,h2⟩:=old b o nb eb;rw[sortedHeap_old (Nat.ne_of_lt h2) (Heap.lt_size h1)];exact h1
 obtain⟨e',hD'⟩:=sortedHeap_at (out:=out) hD;have hns:∀ m',s.heap.Ns X.env.locals m'->(sortedHeap h' D vs out).Ns X.env.locals m':=fun m' hm=>by
  have em:m'=m:=by
   obtain⟨o1,es1,ep1,a1,b1,_,c1⟩:=hm;obtain⟨o2,es2,ep2,a2,b2,_,c2⟩:=hn;rw[a1] at a2;cases a2;rw[b1] at b2;cases b2;funext y;rw[<- c1,<- c2]
  subst em;obtain⟨o1,es1,ep1,a1,r1⟩:=F.ns;exact⟨o1,es1,ep1,by rw[sortedHeap_old hDL.symm (Heap.lt_size a1)];exact a1,r1⟩
 have nn:∀ {b:Addr} {o:HO},H b=some o->b≠D:=fun h z=>by subst z;rw[hDn] at h;cases h
 have nl:∀ {b:Addr} {o:HO},H b=some o->b≠X.env.locals:=fun h=>aL h I.free;refine⟨.ref D,Z8 H D (.lst (ns'.map V.int)),show Z9 X Z7 σ _ {s with heap:=sortedHeap h' D vs out,gens:=s.gens,drawn:=s.drawn,toks:=tk} from I.step (g':=s.gens) (d':=s.drawn) (t':=tk) (ch:=[]) (fun _ z=>nomatch z) (fun b o nb _ _ eb _=>new b o nb eb) (fun b o nb _ _ eb _=>⟨o.slots,new b o nb eb⟩) (fun b o _ eb hb=>?_) (fun b o _ eb=>?_)
  (fun b xs hb=>by rw[aG (nn hb)];exact hb) (fun b o u hb=>by rw[aG (nn hb)];exact hb) (fun b ps hb=>⟨#[],by rw[aG (nn hb),hb];simp⟩) hns (fun b o hb=>?_) I.bare,rfl,q D ns' hDn hp hs⟩
 ·by_cases hbD:b=D
  ·subst hbD;by_cases hbL:b=X.env.locals
   ·exact absurd hbL hDL
   ·exact absurd (old b o hbL eb).2 (Nat.lt_irrefl _)
  ·rw[aG hbD];exact hb
 ·by_cases hbL:b=X.env.locals
  ·subst hbL;obtain⟨o1,es1,ep1,a1,r1⟩:=hns m hn;exact⟨o1,a1⟩
  ·exact⟨o,new b o hbL eb⟩
 ·by_cases hbD:b=D
  ·subst hbD;rw[aA] at hb;cases hb;exact⟨by rw[List.length_map,hp.length_eq];omega,out.toList,e',qB hI',hD'⟩
  ·rw[aG hbD] at hb;refine(I.hok b o hb).tW (fun c v hc ev=>?_) (fun c hc=>by rw[aG (nn hc)];exact hc) fun c xs hc=>by rw[aG (nn hc)];exact hc
   rcases hc with hc|hc
   ·subst hc;exact new c v (nl hb) ev
   ·exact new c v (nl hc) ev
section
variable {H:Hp} {Q:VK} {p:Addr}
def Ro:Nk [.ref p] H Q=cY (H p) fun kvs=>gM (intKeys kvs) fun ns=>ns.Pairwise (· < ·)/\∀(l:Addr) (ns':List Int),H l=none->ns'.Perm ns->ns'.Pairwise (·<=·)->Q (.ref l) (Z8 H l (.lst (ns'.map V.int))):=rfl
end
section
variable {X:Cx}
end
section
variable {fr:List Nat} {tc:TT} {te tl:TE} {σ:St} {H:Hp} {Q:VK} {K:q0B} {x:V} {z:Str} {p:Addr}
def NH:pG K (Ii K tl) fr tc te σ H Q=tl σ H fun x H1=>bC x fun a=>(∃ xs,fA K H1 a xs)/\lc2 K (Itt K a) fr tc te σ H1 Q:=by
 unfold pG Ii
 congr 1
 funext x H1;exact propext ⟨fun⟨a,e,h1,h⟩=>by subst e;exact⟨h1,h⟩,fun h=>by obtain⟨a,rfl,h1,h⟩:=aT h;exact⟨a,rfl,h1,h⟩⟩
end
section
variable {X:Cx} {K:q0B} {o e:Expr} {es:List Expr} {to:TE} {t:TA} {name:Str} {apos aaA:Pos} {T id:String} {r:V->List V->Hp->VK->Prop}
end
def Nf:V->List V->Hp->VK->Prop:=fun x vs H Q=>gQ x fun _=>on2 vs fun y i=>gQ y fun _=>eR i fun _=>∀ k:Int,Q (.int k) H
def Na:V->List V->Hp->VK->Prop:=fun x vs H Q=>gQ x fun z=>on1 vs fun y=>gQ y fun p=>Q (.int (Txt.count z p)) H
section
variable {X:Cx}
def R0:Uo X "str.find" Nf:=fun Z7 s σ H x xs v us Q I rx r h=>by
 obtain⟨z,rfl,h1⟩:=dU h;obtain⟨y,i,rfl,h2⟩:=O5 h1;obtain⟨p,rfl,h3⟩:=dU h2;obtain⟨n,rfl,q⟩:=c8 h3;obtain⟨u,u2,rfl,⟨t',rfl⟩,⟨t2,rfl⟩⟩:=vals2 r;obtain⟨t,rfl⟩:=rx;exact PySem.SC.find3 ⟨.int _,H,I.tok _,⟨_,rfl⟩,q _⟩
def OQ:Uo X "str.count" Na:=fun Z7 s σ H x xs v us Q I rx r h=>by
 obtain⟨z,rfl,h1⟩:=dU h;obtain⟨y,rfl,h2⟩:=eQ h1;obtain⟨p,rfl,q⟩:=dU h2;obtain⟨u,rfl,t',rfl⟩:=vals1 r;obtain⟨t,rfl⟩:=rx;exact PySem.SC.count ⟨.int _,H,I.tok _,⟨_,rfl⟩,q⟩
end
section
variable {z y:Str} {i:Int} {H:Hp} {Q:VK}
def Q4:Nf (.str z) [.str y,.int i] H Q = ∀ k:Int,Q (.int k) H:=rfl
def QY:Na (.str z) [.str y] H Q=Q (.int (Txt.count z y)) H:=rfl
end
def Fo(z:Str):Txt.count z "\n"=(((Txt.split z "\n").length - 1:Nat):Int):=by
 show(((Builtin.Str.occurrences z "\n" 0 z.length (z.length+1)).length:Nat):Int)=_;unfold Txt.split;have k1:Builtin.Str.strKind "\n"=1:=by decide +kernel
 have k2:1<=Builtin.Str.strKind z:=by unfold Builtin.Str.strKind;split<;>(try split)<;>omega
 have l1:("\n":Str).length=1:=by decide +kernel
 by_cases h0:z.length < 1
 ·have ez:z=⟨#[]⟩:=by
   obtain⟨c⟩:=z;have:c.size=0:=by have:c.size < 1:=h0;omega
   rw[Array.size_eq_zero_iff.mp this]
  subst ez;decide +kernel
 ·have hf:(decide (z.length < ("\n":Str).length)||decide (Builtin.Str.strKind z < Builtin.Str.strKind "\n"))=false:=by
   rw[k1,l1];simp;omega
  rw[hf,if_neg (by simp)];split
  ·next he=>rw[List.isEmpty_iff.mp he];rfl
  ·rw[length_partsBetween];rfl
end L2
namespace Own
open PySem L2
local macro_rules | `(tactic| and_intros) => `(tactic| try dsimp only [L2.start, OJ, TK, List.cons_append, List.nil_append, List.replicate_succ, List.replicate_zero, List.length_cons, List.length_nil, Nat.reduceAdd, Nat.reduceSub, Nat.zero_add])
local macro_rules | `(tactic| infer_instance) => `(tactic| exact ⟨rfl, rfl, rfl, by decide +kernel, rfl, by decide +kernel, by decide +kernel⟩)
seal PE PA PT PW PS PSs PI PG PGs PTs PO PPs
def top(i:Nat):Stmt:=PySem.Challenge.pw_outlast_k27_whole_cut_anywhere.main.body.getD i (.Pass ⟨0,0,0,0⟩)
abbrev j5:Stmt:=top 5
abbrev rP:Stmt:=top 6
abbrev iQ:Stmt:=top 12
abbrev BC:Stmt:=top 13
abbrev IW:Stmt:=top 14
abbrev rX:Stmt:=top 17
abbrev wM:Stmt:=top 18
abbrev rY:Stmt:=top 19
abbrev rV:Stmt:=top 20
abbrev EF:Stmt:=top 21
abbrev rQ:Stmt:=top 22
abbrev EG:Stmt:=top 23
abbrev wN:Stmt:=top 24
abbrev wO:Stmt:=top 26
abbrev BD:Stmt:=top 27
abbrev rT:Stmt:=top 28
abbrev lE:Stmt:=top 29
abbrev lA:Stmt:=bN (top 31) 0
abbrev lB:Stmt:=bN (top 31) 1
abbrev iP:Stmt:=bN (top 31) 2
abbrev fQ:Stmt:=bN (top 31) 3
abbrev iO:Stmt:=bN (top 31) 4
abbrev lD:Stmt:=bN (top 31) 5
abbrev gW:Stmt:=bN (top 31) 6
abbrev fP:Stmt:=bN (top 31) 7
abbrev rO:Stmt:=bN (top 33) 0
abbrev mQ:Stmt:=bN (top 33) 1
abbrev j4:Stmt:=bN (top 33) 2
abbrev mR:Stmt:=bN (top 33) 3
abbrev oV:Stmt:=bN (top 33) 4
abbrev oW:Stmt:=bN (top 33) 5
abbrev oX:Stmt:=bN (top 33) 6
abbrev EE:Stmt:=top 36
abbrev wH:Stmt:=top 37
abbrev wI:Stmt:=top 38
abbrev BA:Stmt:=top 39
abbrev By:Stmt:=top 40
abbrev BB:Stmt:=top 41
abbrev Bz:Stmt:=top 42
abbrev ED:Stmt:=top 43
abbrev wC:Stmt:=bN (top 45) 0
abbrev rM:Stmt:=bN (top 45) 1
abbrev gU:Stmt:=bN (top 45) 2
abbrev rL:Stmt:=bN (top 45) 3
abbrev wF:Stmt:=bN (top 45) 4
abbrev iM:Stmt:=bN (top 45) 5
abbrev k9:Stmt:=bN (top 45) 6
abbrev iN:Stmt:=bN (top 45) 7
abbrev wG:Stmt:=bN (top 45) 8
abbrev wB:Stmt:=bN (top 45) 9
abbrev rK:Stmt:=bN (top 45) 10
abbrev wD:Stmt:=bN (top 45) 11
abbrev Bx:Stmt:=bN (top 45) 12
abbrev mP:Stmt:=bN (top 45) 13
abbrev rN:Stmt:=bN (top 45) 14
abbrev j0:Stmt:=bN (top 45) 15
abbrev wL:Stmt:=top 48
abbrev wK:Stmt:=top 49
abbrev rW:Stmt:=top 50
abbrev oY:Stmt:=top 52
abbrev BE:Stmt:=top 53
abbrev wJ:Stmt:=top 54
abbrev rS:Stmt:=top 55
abbrev oZ:Stmt:=top 56
abbrev j6:Stmt:=top 57
abbrev pA:Stmt:=top 58
abbrev mT:Stmt:=top 59
abbrev j7:Stmt:=top 60
abbrev rR:Stmt:=top 61
abbrev mS:Stmt:=top 62
abbrev Pt:Stmt:=top 63
set_option genInjectivity false in
set_option genSizeOf false in
structure Ad where
 kW:Addr
 k5:FuncData
 t8:Addr
 uP:FuncData
 jK:Addr
 jR:FuncData
 DE:Addr
 DX:FuncData
 MS:Addr
 NB:FuncData
 uE:Addr
 uX:FuncData
 zL:Addr
 An:FuncData
 uF:Addr
 uY:FuncData
 uC:Addr
 uV:FuncData
 HG:Addr
 HY:FuncData
 t9:Addr
 uQ:FuncData
 HH:Addr
 H0:FuncData
 zM:Addr
 Ap:FuncData
 nS:Addr
 oA:FuncData
 DF:Addr
 DY:FuncData
 uB:Addr
 uT:FuncData
 l9:Addr
 mH:FuncData
 iY:Addr
 mE:FuncData
 l7:Addr
 mF:FuncData
 jJ:Addr
 jQ:FuncData
 fZ:Addr
 gC:FuncData
 jI:Addr
 jP:FuncData
 l8:Addr
 mG:FuncData
 iE:Addr
 iH:FuncData
 fY:Addr
 gB:FuncData
 pL:Addr
 uO:FuncData
 nL:Addr
 nX:FuncData
 kU:Addr
 k4:FuncData
 nM:Addr
 nY:FuncData
 qP:Addr
 qW:FuncData
 qQ:Addr
 qX:FuncData
 qR:Addr
 qY:FuncData
 DD:Addr
 HX:FuncData
 nO:Addr
 Ae:FuncData
 sD:Addr
 Af:FuncData
 yO:Addr
 DU:FuncData
 yM:Addr
 DS:FuncData
 yP:Addr
 DV:FuncData
 yN:Addr
 DT:FuncData
 DC:Addr
 HW:FuncData
 sC:Addr
 zZ:FuncData
 t6:Addr
 uM:FuncData
 iD:Addr
 iG:FuncData
 t4:Addr
 uL:FuncData
 zE:Addr
 Ab:FuncData
 jG:Addr
 jN:FuncData
 lZ:Addr
 mD:FuncData
 jH:Addr
 jO:FuncData
 zF:Addr
 Ac:FuncData
 zC:Addr
 zY:FuncData
 tZ:Addr
 uK:FuncData
 zD:Addr
 z9:FuncData
 DB:Addr
 DR:FuncData
 nK:Addr
 nW:FuncData
 t7:Addr
 uN:FuncData
 kT:Addr
 kZ:FuncData
 zK:Addr
 Am:FuncData
 zJ:Addr
 Al:FuncData
 uD:Addr
 uW:FuncData
 qS:Addr
 qZ:FuncData
 DG:Addr
 DZ:FuncData
 zH:Addr
 Aj:FuncData
 uA:Addr
 uS:FuncData
 qT:Addr
 q9:FuncData
 kX:Addr
 k6:FuncData
 jL:Addr
 jS:FuncData
 nQ:Addr
 n9:FuncData
 fD:Addr
 fF:FuncData
 jC:Addr
 jD:FuncData
 nP:Addr
 n8:FuncData
 Uq:Addr
 UE:FuncData
 AN:Tok
 yD:Tok
 Ea:Tok
 vD:Addr
 yE:Tok
 FZ:Tok
 iJ:Addr
 oE:Addr
 sY:Addr
 sZ:Addr
 tE:Addr
 aJ:Addr
 aV:Addr
 aU:Addr
structure Tx(w:World)(K:q0B)(mg:q0C)(t:Ad):Prop where
 fG:Fun K "is_number_word" "is_number_word" j5 t.kW t.k5
 gY:Binds K t.k5 ["word","least","greatest"] []
 gZ:mg "is_number_word"=some (.ref t.kW)
 CV:Fun K "is_figure" "is_figure" rP t.t8 t.uP
 KP:Binds K t.uP ["sign"] []
 LN:mg "is_figure"=some (.ref t.t8)
 oB:Fun K "is_small_letter" "is_small_letter" iQ t.jK t.jR
 zT:Binds K t.jR ["sign"] []
 A7:mg "is_small_letter"=some (.ref t.jK)
 JL:Fun K "is_name" "is_name" BC t.DE t.DX
 QD:Binds K t.DX ["thing"] []
 RX:mg "is_name"=some (.ref t.DE)
 FE:Fun K "kept" "kept" IW t.MS t.NB
 Ju:Binds K t.NB ["number"] []
 J9:mg "kept"=some (.ref t.MS)
 C1:Fun K "show_rows" "show_rows" rX t.uE t.uX
 KW:Binds K t.uX ["rows"] []
 LS:mg "show_rows"=some (.ref t.uE)
 FJ:Fun K "show_row" "show_row" wM t.zL t.An
 MY:Binds K t.An ["row"] []
 OP:mg "show_row"=some (.ref t.zL)
 C2:Fun K "show_word" "show_word" rY t.uF t.uY
 KY:Binds K t.uY ["thing"] []
 LU:mg "show_word"=some (.ref t.uF)
 CZ:Fun K "read_rows" "read_rows" rV t.uC t.uV
 KR:Binds K t.uV ["text","forms"] []
 LQ:mg "read_rows"=some (.ref t.uC)
 Oe:Fun K "is_row" "is_row" EF t.HG t.HY
 Uv:Binds K t.HY ["words","kinds"] []
 V5:mg "is_row"=some (.ref t.HG)
 CW:Fun K "is_word_of" "is_word_of" rQ t.t9 t.uQ
 KQ:Binds K t.uQ ["kind","word"] []
 LP:mg "is_word_of"=some (.ref t.t9)
 Oh:Fun K "row_of" "row_of" EG t.HH t.H0
 Uw:Binds K t.H0 ["words","kinds"] []
 V6:mg "row_of"=some (.ref t.HH)
 FK:Fun K "thing_of" "thing_of" wN t.zM t.Ap
 M8:Binds K t.Ap ["kind","word"] []
 OS:mg "thing_of"=some (.ref t.zM)
 sR:Fun K "worth_of" "worth_of" wO t.nS t.oA
 zU:Binds K t.oA ["saying","names","arg","now","answers"] []
 A8:mg "worth_of"=some (.ref t.nS)
 JN:Fun K "joined" "joined" BD t.DF t.DY
 QE:Binds K t.DY ["sign","one","other"] []
 RY:mg "joined"=some (.ref t.DF)
 pT:Fun K "number_of" "number_of" rT t.uB t.uT
 uG:Binds K t.uT ["worth"] []
 vM:mg "number_of"=some (.ref t.uB)
 iZ:Fun K "one_or_nought" "one_or_nought" lE t.l9 t.mH
 mB:Binds K t.mH ["truth"] []
 mL:mg "one_or_nought"=some (.ref t.l9)
 D1:Fun K "__init__" "Tickets.__init__" lA t.iY t.mE
 DJ:Binds K t.mE ["self"] []
 Qp:Meth K t.aJ "__init__" t.iY
 D2:Fun K "make" "Tickets.make" lB t.l7 t.mF
 DK:Binds K t.mF ["self"] []
 Ci:Meth K t.aJ "make" t.l7
 Ay:Fun K "is_open" "Tickets.is_open" iP t.jJ t.jQ
 jM:Binds K t.jQ ["self","ticket"] []
 iK:Meth K t.aJ "is_open" t.jJ
 sP:Fun K "those_open" "Tickets.those_open" fQ t.fZ t.gC
 sI:Binds K t.gC ["self"] []
 rC:Meth K t.aJ "those_open" t.fZ
 Ax:Fun K "finish" "Tickets.finish" iO t.jI t.jP
 zQ:Binds K t.jP ["self","ticket","worth"] []
 yH:Meth K t.aJ "finish" t.jI
 D3:Fun K "shut" "Tickets.shut" lD t.l8 t.mG
 sH:Binds K t.mG ["self","ticket"] []
 qL:Meth K t.aJ "shut" t.l8
 yA:Fun K "shut_all" "Tickets.shut_all" gW t.iE t.iH
 mZ:Binds K t.iH ["self"] []
 lP:Meth K t.aJ "shut_all" t.iE
 sO:Fun K "first_done" "Tickets.first_done" fP t.fY t.gB
 sG:Binds K t.gB ["self","worths"] []
 rB:Meth K t.aJ "first_done" t.fY
 Lv:Fun K "__init__" "Walk.__init__" rO t.pL t.uO
 KO:Binds K t.uO ["self","program"] []
 V4:Meth K t.aV "__init__" t.pL
 Fv:Fun K "come_to" "Walk.come_to" mQ t.nL t.nX
 Fb:Binds K t.nX ["self"] []
 Eg:Meth K t.aV "come_to" t.nL
 Cc:Fun K "stands_at" "Walk.stands_at" j4 t.kU t.k4
 gX:Binds K t.k4 ["self"] []
 gG:Meth K t.aV "stands_at" t.kU
 Fx:Fun K "pass_by" "Walk.pass_by" mR t.nM t.nY
 kK:Binds K t.nY ["self"] []
 i8:Meth K t.aV "pass_by" t.nM
 Ib:Fun K "enter" "Walk.enter" oV t.qP t.qW
 zR:Binds K t.qW ["self","which"] []
 xK:Meth K t.aV "enter" t.qP
 Ic:Fun K "leave" "Walk.leave" oW t.qQ t.qX
 HI:Binds K t.qX ["self"] []
 Gf:Meth K t.aV "leave" t.qQ
 Ie:Fun K "place" "Walk.place" oX t.qR t.qY
 HJ:Binds K t.qY ["self"] []
 Gg:Meth K t.aV "place" t.qR
 Od:Fun K "do_set" "do_set" EE t.DD t.HX
 Ut:Binds K t.HX ["run","statement"] []
 Zw:mg "do_set"=some (.ref t.DD)
 Az:Fun K "do_order" "do_order" wH t.nO t.Ae
 Fc:Binds K t.Ae ["run","statement"] []
 Yf:mg "do_order"=some (.ref t.nO)
 Fy:Fun K "do_timer" "do_timer" wI t.sD t.Af
 MV:Binds K t.Af ["run","statement"] []
 Yg:mg "do_timer"=some (.ref t.sD)
 JJ:Fun K "do_send" "do_send" BA t.yO t.DU
 QB:Binds K t.DU ["run","statement"] []
 YY:mg "do_send"=some (.ref t.yO)
 JH:Fun K "do_drop" "do_drop" By t.yM t.DS
 Qz:Binds K t.DS ["run","statement"] []
 YW:mg "do_drop"=some (.ref t.yM)
 JK:Fun K "do_wait" "do_wait" BB t.yP t.DV
 QC:Binds K t.DV ["run","statement"] []
 YZ:mg "do_wait"=some (.ref t.yP)
 JI:Fun K "do_hear" "do_hear" Bz t.yN t.DT
 QA:Binds K t.DT ["run","statement"] []
 YX:mg "do_hear"=some (.ref t.yN)
 Oc:Fun K "do_end" "do_end" ED t.DC t.HW
 Us:Binds K t.HW ["run","statement"] []
 Zv:mg "do_end"=some (.ref t.DC)
 NZ:Fun K "__init__" "Run.__init__" wC t.sC t.zZ
 E7:Binds K t.zZ ["self","program"] []
 WR:Meth K t.aU "__init__" t.sC
 Ls:Fun K "waits" "Run.waits" rM t.t6 t.uM
 CF:Binds K t.uM ["self"] []
 AX:Meth K t.aU "waits" t.t6
 xZ:Fun K "open_tickets" "Run.open_tickets" gU t.iD t.iG
 xV:Binds K t.iG ["self"] []
 vJ:Meth K t.aU "open_tickets" t.iD
 Lr:Fun K "state" "Run.state" rL t.t4 t.uL
 CD:Binds K t.uL ["self"] []
 AW:Meth K t.aU "state" t.t4
 Oa:Fun K "take" "Run.take" wF t.zE t.Ab
 zO:Binds K t.Ab ["self","happening"] []
 vK:Meth K t.aU "take" t.zE
 Av:Fun K "passes_over" "Run.passes_over" iM t.jG t.jN
 zN:Binds K t.jN ["self","happening"] []
 yF:Meth K t.aU "passes_over" t.jG
 D0:Fun K "take_done" "Run.take_done" k9 t.lZ t.mD
 DI:Binds K t.mD ["self","ticket","worth"] []
 Cg:Meth K t.aU "take_done" t.lZ
 Aw:Fun K "take_letter" "Run.take_letter" iN t.jH t.jO
 zP:Binds K t.jO ["self","key","worth"] []
 yG:Meth K t.aU "take_letter" t.jH
 Ob:Fun K "wake" "Run.wake" wG t.zF t.Ac
 E8:Binds K t.Ac ["self","worth"] []
 Dd:Meth K t.aU "wake" t.zF
 NY:Fun K "go_on" "Run.go_on" wB t.zC t.zY
 E6:Binds K t.zY ["self"] []
 Dc:Meth K t.aU "go_on" t.zC
 Lq:Fun K "do_one" "Run.do_one" rK t.tZ t.uK
 KL:Binds K t.uK ["self","statement"] []
 Iu:Meth K t.aU "do_one" t.tZ
 N8:Fun K "look" "Run.look" wD t.zD t.z9
 MU:Binds K t.z9 ["self","statement"] []
 LM:Meth K t.aU "look" t.zD
 Ry:Fun K "end" "Run.end" Bx t.DB t.DR
 Jt:Binds K t.DR ["self","worth"] []
 Ge:Meth K t.aU "end" t.DB
 Fu:Fun K "wear_out" "Run.wear_out" mP t.nK t.nW
 E9:Binds K t.nW ["self"] []
 Ef:Meth K t.aU "wear_out" t.nK
 Lu:Fun K "worth" "Run.worth" rN t.t7 t.uN
 eT:Binds K t.uN ["self","saying"] []
 eC:Meth K t.aU "worth" t.t7
 Cb:Fun K "new_ticket" "Run.new_ticket" j0 t.kT t.kZ
 qH:Binds K t.kZ ["self","name"] []
 oG:Meth K t.aU "new_ticket" t.kT
 FI:Fun K "show_log" "show_log" wL t.zK t.Am
 MX:Binds K t.Am ["happenings"] []
 OO:mg "show_log"=some (.ref t.zK)
 FH:Fun K "read_log" "read_log" wK t.zJ t.Al
 MW:Binds K t.Al ["text"] []
 ON:mg "read_log"=some (.ref t.zJ)
 C0:Fun K "run_again" "run_again" rW t.uD t.uW
 KU:Binds K t.uW ["program","happenings"] []
 LR:mg "run_again"=some (.ref t.uD)
 AD:Fun K "_law_cell_at" "_law_cell_at" oY t.qS t.qZ
 HK:Binds K t.qZ ["script","k"] []
 Iw:mg "_law_cell_at"=some (.ref t.qS)
 yV:Fun K "_law_jar" "_law_jar" BE t.DG t.DZ
 DL:Binds K t.DZ ["cell"] []
 Eh:mg "_law_jar"=some (.ref t.DG)
 bR:Fun K "_law_take" "_law_take" wJ t.zH t.Aj
 bV:Binds K t.Aj ["jar","many"] []
 bW:mg "_law_take"=some (.ref t.zH)
 lL:Fun K "_law_worth" "_law_worth" rS t.uA t.uS
 pP:Binds K t.uS ["jar"] []
 pX:mg "_law_worth"=some (.ref t.uA)
 AE:Fun K "_law_moment" "_law_moment" oZ t.qT t.q9
 HL:Binds K t.q9 ["jar"] []
 Iy:mg "_law_moment"=some (.ref t.qT)
 qJ:Fun K "_law_happening" "_law_happening" j6 t.kX t.k6
 B3:Binds K t.k6 ["jar"] []
 Cj:mg "_law_happening"=some (.ref t.kX)
 cI:Fun K "_law_saying" "_law_saying" pA t.jL t.jS
 cK:Binds K t.jS ["jar","deep"] []
 cL:mg "_law_saying"=some (.ref t.jL)
 xF:Fun K "_law_waiting" "_law_waiting" mT t.nQ t.n9
 Fe:Binds K t.n9 ["jar","name"] []
 Gj:mg "_law_waiting"=some (.ref t.nQ)
 qK:Fun K "_law_statement" "_law_statement" j7 t.fD t.fF
 B4:Binds K t.fF ["jar","deep","room"] []
 Ck:mg "_law_statement"=some (.ref t.fD)
 lK:Fun K "_law_block" "_law_block" rR t.jC t.jD
 pO:Binds K t.jD ["jar","deep","room"] []
 pW:mg "_law_block"=some (.ref t.jC)
 xE:Fun K "_law_program" "_law_program" mS t.nP t.n8
 Fd:Binds K t.n8 ["cell"] []
 Gi:mg "_law_program"=some (.ref t.nP)
 Zs:Fun K "law" "law" Pt t.Uq t.UE
 Z0:Binds K t.UE ["script"] []
 Z3:mg "law"=some (.ref t.Uq)
 bE:Cls K t.aJ
 OI:mg "Tickets"=some (.ref t.aJ)
 vL:Mk K t.aJ t.iY
 cS:Cls K t.aV
 Ye:mg "Walk"=some (.ref t.aV)
 Iv:Mk K t.aV t.pL
 aW:Cls K t.aU
 Yd:mg "Run"=some (.ref t.aU)
 J0:Mk K t.aU t.sC
 vN:eA K t.aJ "made"
 fV:eA K t.aJ "pending"
 fT:eA K t.aJ "answers"
 iA:eA K t.aV "blocks"
 eK:eA K t.aV "numbers"
 jU:eA K t.aU "walk"
 c9:eA K t.aU "sleep"
 Df:eA K t.aU "arg"
 tG:eA K t.aU "now"
 fJ:eA K t.aU "names"
 cN:eA K t.aU "tickets"
 fU:eA K t.aU "letters"
 gA:mg "GREATEST_WORTH"=some (.int 1000000000 t.AN)
 m9:mg "GREATEST_MOMENT"=some (.int 1000000000000 t.yD)
 DO:mg "LONGEST_NAME"=some (.int 6 t.Ea)
 KZ:mg "OWN_WORDS"=some (.ref t.vD)
 Mp:∀ H:Hp,fA K H t.vD [.str "order",.str "timer",.str "child",.str "send",.str "drop",.str "wait",.str "hear",.str "if",.str "else",.str "done",.str "while",.str "end",.str "none",.str "arg",.str "now",.str "answer",.str "not"]
 xW:mg "GREATEST_TICKET"=some (.int 1000000000 t.yE)
 Fh:mg "MOST_AT_ONCE"=some (.int 300 t.FZ)
 Ux:mg "DEEDS"=some (.ref t.iJ)
 RW:WU w.params K t.iJ
 LY:PySem.W.nsIn K t.iJ "set"=some (some (.ref t.DD))
 Gn:PySem.W.nsIn K t.iJ "order"=some (some (.ref t.nO))
 Gp:PySem.W.nsIn K t.iJ "timer"=some (some (.ref t.sD))
 Gm:PySem.W.nsIn K t.iJ "child"=some (some (.ref t.nO))
 IB:PySem.W.nsIn K t.iJ "send"=some (some (.ref t.yO))
 Iz:PySem.W.nsIn K t.iJ "drop"=some (some (.ref t.yM))
 IC:PySem.W.nsIn K t.iJ "wait"=some (some (.ref t.yP))
 IA:PySem.W.nsIn K t.iJ "hear"=some (some (.ref t.yN))
 LX:PySem.W.nsIn K t.iJ "end"=some (some (.ref t.DC))
 Ff:mg "HAPPENINGS"=some (.ref t.oE)
 Ei:WV w.params K t.oE [(.inr "begin",.ref t.sY),(.inr "done",.ref t.sZ),(.inr "letter",.ref t.tE)]
 Ex:∀ H:Hp,fA K H t.sY [.str "moment",.str "worth"]
 Ey:∀ H:Hp,fA K H t.sZ [.str "moment",.str "ticket",.str "worth"]
 Ez:∀ H:Hp,fA K H t.tE [.str "moment",.str "name",.str "worth"]
 Qk:mg "all"=none
 Ql:mg "dict"=none
 r9:mg "enumerate"=none
 MN:mg "int"=none
 pJ:mg "isinstance"=none
 tX:mg "len"=none
 MP:mg "max"=none
 Ta:mg "min"=none
 BY:mg "range"=none
 Tb:mg "set"=none
 qC:mg "sorted"=none
 Qo:mg "str"=none
 iS:mg "tuple"=none
 Tc:mg "zip"=none
def nF:aS ["word","least","greatest","figures"] ["word","least","greatest"] (aK j5):=by infer_instance
def Hd:aS ["sign"] ["sign"] (aK rP):=by infer_instance
def wV:aS ["sign"] ["sign"] (aK iQ):=by infer_instance
def Mu:aS ["thing"] ["thing"] (aK BC):=by infer_instance
def SE:aS ["number"] ["number"] (aK IW):=by infer_instance
def Hg:aS ["rows"] ["rows"] (aK rX):=by infer_instance
def Jc:aS ["row"] ["row"] (aK wM):=by infer_instance
def Hh:aS ["thing"] ["thing"] (aK rY):=by infer_instance
def fW:aS ["text","forms","rows","number","line","words","kinds"] ["text","forms"] (aK rV):=by infer_instance
def Pz:aS ["words","kinds"] ["words","kinds"] (aK EF):=by infer_instance
def He:aS ["kind","word"] ["kind","word"] (aK rQ):=by infer_instance
def PB:aS ["words","kinds"] ["words","kinds"] (aK EG):=by infer_instance
def Jd:aS ["kind","word"] ["kind","word"] (aK wN):=by infer_instance
def mV:aS ["saying","names","arg","now","answers","kind","one","other"] ["saying","names","arg","now","answers"] (aK wO):=by infer_instance
def wW:aS ["sign","one","other","left","right"] ["sign","one","other"] (aK BD):=by infer_instance
def Hf:aS ["worth"] ["worth"] (aK rT):=by infer_instance
def BJ:aS ["truth"] ["truth"] (aK lE):=by infer_instance
def BG:aS ["self"] ["self"] (aK lA):=by infer_instance
def pD:aS ["self","ticket"] ["self"] (aK lB):=by infer_instance
def wU:aS ["self","ticket"] ["self","ticket"] (aK iP):=by infer_instance
def qF:aS ["self"] ["self"] (aK fQ):=by infer_instance
def wR:aS ["self","ticket","worth"] ["self","ticket","worth"] (aK iO):=by infer_instance
def BH:aS ["self","ticket"] ["self","ticket"] (aK lD):=by infer_instance
def tU:aS ["self"] ["self"] (aK gW):=by infer_instance
def iV:aS ["self","worths","tickets"] ["self","worths"] (aK fP):=by infer_instance
def Hc:aS ["self","program"] ["self","program"] (aK rO):=by infer_instance
def Cu:aS ["self"] ["self"] (aK mQ):=by infer_instance
def yJ:aS ["self"] ["self"] (aK j4):=by infer_instance
def Cv:aS ["self"] ["self"] (aK mR):=by infer_instance
def EH:aS ["self","which"] ["self","which"] (aK oV):=by infer_instance
def EI:aS ["self"] ["self"] (aK oW):=by infer_instance
def EJ:aS ["self"] ["self"] (aK oX):=by infer_instance
def Py:aS ["run","statement"] ["run","statement"] (aK EE):=by infer_instance
def rZ:aS ["run","statement","worth","ticket"] ["run","statement"] (aK wH):=by infer_instance
def mU:aS ["run","statement","worth","due","ticket"] ["run","statement"] (aK wI):=by infer_instance
def Mt:aS ["run","statement"] ["run","statement"] (aK BA):=by infer_instance
def Dm:aS ["run","statement","ticket"] ["run","statement"] (aK By):=by infer_instance
def pZ:aS ["run","statement","worths","ticket","pending"] ["run","statement"] (aK BB):=by infer_instance
def Dn:aS ["run","statement","worths"] ["run","statement"] (aK Bz):=by infer_instance
def Px:aS ["run","statement"] ["run","statement"] (aK ED):=by infer_instance
def IX:aS ["self","program"] ["self","program"] (aK wC):=by infer_instance
def Ha:aS ["self"] ["self"] (aK rM):=by infer_instance
def tT:aS ["self"] ["self"] (aK gU):=by infer_instance
def pC:aS ["self","names","letters"] ["self"] (aK rL):=by infer_instance
def IZ:aS ["self","happening"] ["self","happening"] (aK wF):=by infer_instance
def lU:aS ["self","happening","kind"] ["self","happening"] (aK iM):=by infer_instance
def BF:aS ["self","ticket","worth"] ["self","ticket","worth"] (aK k9):=by infer_instance
def wQ:aS ["self","key","worth"] ["self","key","worth"] (aK iN):=by infer_instance
def I8:aS ["self","worth"] ["self","worth"] (aK wG):=by infer_instance
def j8:aS ["self","commands","many","statement"] ["self"] (aK wB):=by infer_instance
def pB:aS ["self","statement","kind","commands"] ["self","statement"] (aK rK):=by infer_instance
def IY:aS ["self","statement"] ["self","statement"] (aK wD):=by infer_instance
def Ms:aS ["self","worth"] ["self","worth"] (aK Bx):=by infer_instance
def Ct:aS ["self"] ["self"] (aK mP):=by infer_instance
def Hb:aS ["self","saying"] ["self","saying"] (aK rN):=by infer_instance
def nE:aS ["self","name","ticket"] ["self","name"] (aK j0):=by infer_instance
def Jb:aS ["happenings"] ["happenings"] (aK wL):=by infer_instance
def Ja:aS ["text"] ["text"] (aK wK):=by infer_instance
def pF:aS ["program","happenings","run","commands"] ["program","happenings"] (aK rW):=by infer_instance
def EK:aS ["script","k"] ["script","k"] (aK oY):=by infer_instance
def wX:aS ["cell","low"] ["cell"] (aK BE):=by infer_instance
def BI:aS ["jar","many","got"] ["jar","many"] (aK wJ):=by infer_instance
def xQ:aS ["jar","far"] ["jar"] (aK rS):=by infer_instance
def EL:aS ["jar"] ["jar"] (aK oZ):=by infer_instance
def iR:aS ["jar","moment","kind"] ["jar"] (aK j6):=by infer_instance
def eY:aS ["jar","deep","kind","name","worth","one"] ["jar","deep"] (aK pA):=by infer_instance
def hX:aS ["jar","name","sayings","k","some"] ["jar","name"] (aK mT):=by infer_instance
def eI:aS ["jar","deep","room","kind","name","word","saying"] ["jar","deep","room"] (aK j7):=by infer_instance
def pE:aS ["jar","deep","room","block","k"] ["jar","deep","room"] (aK rR):=by infer_instance
def lF:aS ["cell","jar","program"] ["cell"] (aK mS):=by infer_instance
def fR:aS ["script","program","cell","happenings","run","commands","text","jar","cut","many","left","other","told","k"] ["script"] (aK Pt):=by infer_instance
def Z6{CX:CXT}{P:Program}{w:World}{K:q0B}{mg:q0C}{base:Heap}{N:List Str}{q:Str}{sc:Scope}{f:Addr}{cd:Value}{A:Around}{o:List Env}{s:Shared}{H:Hp}{E:XK}:(Fq CX P w K mg base N q sc f cd A o s H E).K=K:=rfl
def ZN{CX:CXT}{P:Program}{w:World}{K:q0B}{mg:q0C}{base:Heap}{N:List Str}{q:Str}{sc:Scope}{f:Addr}{cd:Value}{A:Around}{o:List Env}{s:Shared}{H:Hp}{E:XK}:(Fq CX P w K mg base N q sc f cd A o s H E).nox.K=K:=rfl
def small{n:Nat}(h:n<=1000):n<=sizeLine:=Nat.le_of_lt (small1000 h)
def De{i j:Int}(h0:-(2 ^ 64) < i)(h1:i < 2 ^ 64):CMul i j:=.inl ⟨h0,h1⟩
structure ZR(H:Hp)(r:Addr):Prop where
 ex:∃ c l f:Int,H r=some (.lst [.int c,.int l,.int f])/\0<=l/\l < 536870909
def clamp(n:Int):Int:=if (if n < 1000000000 then n else 1000000000) > -1000000000 then (if n < 1000000000 then n else 1000000000) else -1000000000
def PM:Sp:=fun vs H Q _=>∃ n:Int,vs=[.int n]/\Q (.int (clamp n)) H
def Wp{n:Int}{H:Hp}{Q:VK}{E:XK}:PM [.int n] H Q E=Q (.int (clamp n)) H:=propext ⟨fun⟨_,e,h⟩=>by cases e;exact h,fun h=>⟨_,rfl,h⟩⟩
def nU(n:Int):-1000000000<=clamp n/\clamp n<=1000000000:=by
 unfold clamp
 repeat' split
 all_goals omega
abbrev Wo:=Option Int
def wv:Wo->V
 | none=>.non
 | some n=>.int n
def num(w:Wo):Int:=w.getD 0
def wk:Wo->Key
 | none=>.no
 | some n=>.inl n
def dQ(w:Wo):Prop:=∀ n,w=some n->-1000000000<=n/\n<=1000000000
def Jq{a b:Wo}(h:wv a=wv b):a=b:=by cases a<;>cases b<;>simp_all [wv]
def WQ(w:Wo):kI (wv w)=some (wk w):=by cases w<;>rfl
def Jr(w:Wo):(wv w=.non)=(w=none):=by cases w<;>simp[wv]
def KH(w:Wo):dC (wv w)=true:=by cases w<;>rfl
def lO:dQ none:=fun _ h=>nomatch h
def eO{n:Int}(h0:-1000000000<=n)(h1:n<=1000000000):dQ (some n):=fun m h=>by cases h;exact⟨h0,h1⟩
def OA{w:Wo}(h:dQ w):-1000000000<=num w/\num w<=1000000000:=by
 cases w with
 | none=>exact⟨by decide,by decide⟩
 | some n=>exact h n rfl
def Ua:Sp:=fun vs H Q _=>∃ w:Wo,vs=[wv w]/\Q (.int (num w)) H
def Yn{w:Wo}{H:Hp}{Q:VK}{E:XK}:Ua [wv w] H Q E=Q (.int (num w)) H :=
 propext ⟨fun⟨u,e,h⟩=>by simp only[List.cons.injEq,and_true] at e;rw[Jq e];exact h,fun h=>⟨w,rfl,h⟩⟩
def Ub:Sp:=fun vs H Q _=>∃ b:Bool,vs=[.bl b]/\Q (.int (if b=true then 1 else 0)) H
def GW{b:Bool}{H:Hp}{Q:VK}{E:XK}:Ub [.bl b] H Q E=Q (.int (if b=true then 1 else 0)) H :=
 propext ⟨fun⟨u,e,h⟩=>by cases e;exact h,fun h=>⟨b,rfl,h⟩⟩
inductive Sg where
 | add|sub|mul|lt|eq
def Sg.s:Sg->Str
 | .add=>"+" | .sub=>"-" | .mul=>"*" | .lt=>"<" | .eq=>"="
def Sg.of(g:Sg)(a b:Wo):Int :=
 match g with
 | .add=>clamp (num a+num b) | .sub=>clamp (num a - num b) | .mul=>clamp (num a * num b) | .lt=>if num a < num b then 1 else 0 | .eq=>if a=b then 1 else 0
def Sg.TM(g:Sg)(a b:Wo):-1000000000<=g.of a b/\g.of a b<=1000000000:=by
 cases g
 ·exact nU _
 ·exact nU _
 ·exact nU _
 ·show -1000000000<=(if num a < num b then (1:Int) else 0)/\(if num a < num b then (1:Int) else 0)<=1000000000;split<;>decide
 ·show -1000000000<=(if a=b then (1:Int) else 0)/\(if a=b then (1:Int) else 0)<=1000000000;split<;>decide
def PL:Sp:=fun vs H Q _=>∃(g:Sg) (a b:Wo),vs=[.str g.s,wv a,wv b]/\dQ a/\Q (.int (g.of a b)) H
inductive Say where
 | num (n:Int)|non|name (x:Str)|arg|now|ans (s:Say)|neg (s:Say)|two (g:Sg) (a b:Say)
inductive dB(H:Hp):V->Say->Prop
 | num {a:Addr} {n:Int}:H a=some (.tup [.str "number",.int n])->dB H (.ref a) (.num n)
 | non {a:Addr}:H a=some (.tup [.str "none"])->dB H (.ref a) .non
 | name {a:Addr} {x:Str}:H a=some (.tup [.str "name",.str x])->dB H (.ref a) (.name x)
 | arg {a:Addr}:H a=some (.tup [.str "arg"])->dB H (.ref a) .arg
 | now {a:Addr}:H a=some (.tup [.str "now"])->dB H (.ref a) .now
 | ans {a:Addr} {v:V} {s:Say}:H a=some (.tup [.str "answer",v])->dB H v s->dB H (.ref a) (.ans s)
 | neg {a:Addr} {v:V} {s:Say}:H a=some (.tup [.str "not",v])->dB H v s->dB H (.ref a) (.neg s)
 | two {a:Addr} {v u:V} {g:Sg} {s r:Say}:H a=some (.tup [.str g.s,v,u])->dB H v s->dB H u r->dB H (.ref a) (.two g s r)
def aP(H H':Hp):Prop:=∀ a xs,H a=some (.tup xs)->H' a=some (.tup xs)
def dB.kp{H H':Hp}{v:V}{s:Say}(h:dB H v s)(k:aP H H'):dB H' v s:=by
 induction h with
 | num e=>exact .num (k _ _ e)
 | non e=>exact .non (k _ _ e)
 | name e=>exact .name (k _ _ e)
 | arg e=>exact .arg (k _ _ e)
 | now e=>exact .now (k _ _ e)
 | ans e _ ih=>exact .ans (k _ _ e) ih
 | neg e _ ih=>exact .neg (k _ _ e) ih
 | two e _ _ i1 i2=>exact .two (k _ _ e) i1 i2
def aP.of{S:List Addr}{H H':Hp}(k:Kp S H H')(h:∀ a∈S,∃ o,H a=some o/\∀ xs,o≠.tup xs):aP H H':=fun a xs e=>k a _ e fun z=>by
 obtain⟨o,e',d⟩:=h a z;rw[e] at e';exact d xs (Option.some.inj e').symm
def aP.new{H:Hp}{p:Addr}{o:HO}(h:H p=none):aP H (Z8 H p o):=fun a xs e=>by rw[aG (aL e h)];exact e
def aP.trans{H H1 H2:Hp}(a:aP H H1)(b:aP H1 H2):aP H H2:=fun x xs e=>b x xs (a x xs e)
def Say.depth:Say->Nat
 | .ans s=>s.depth+1 | .neg s=>s.depth+1 | .two _ a b=>max a.depth b.depth+1 | .num _=>1 | .non=>1 | .name _=>1 | .arg=>1 | .now=>1
def Say.ok:Say->Prop
 | .num n=>-1000000000<=n/\n<=1000000000 | .ans s=>s.ok | .neg s=>s.ok | .two _ a b=>a.ok/\b.ok|_=>True
def Say.CS(s:Say):1<=s.depth:=by cases s<;>simp[Say.depth]
structure Pl where
 nm:Str->Wo
 ar:Wo
 now:Int
 an:Wo->Wo
structure Pl.Ok(p:Pl):Prop where
 nm:∀ x,dQ (p.nm x)
 ar:dQ p.ar
 an:∀ w,dQ (p.an w)
def ev(p:Pl):Say->Wo
 | .num n=>some n
 | .non=>none
 | .name x=>p.nm x
 | .arg=>p.ar
 | .now=>some (clamp p.now)
 | .ans s=>p.an (ev p s)
 | .neg s=>some (if num (ev p s)=0 then 1 else 0)
 | .two g a b=>some (g.of (ev p a) (ev p b))
def TB{p:Pl}(hp:p.Ok):∀ {s:Say},s.ok->dQ (ev p s)
 | .num n,h=>eO h.1 h.2
 | .non,_=>lO
 | .name x,_=>hp.nm x
 | .arg,_=>hp.ar
 | .now,_=>eO (nU _).1 (nU _).2
 | .ans s,_=>hp.an _
 | .neg s,_=>by
  show dQ (some (if num (ev p s)=0 then 1 else 0));split<;>exact eO (by decide) (by decide)
 | .two g a b,_=>eO (g.TM _ _).1 (g.TM _ _).2
def Y6(H:Hp)(d:Addr)(f:Str->Wo):Prop:=∃ kvs,H d=some (.dK kvs)/\∀ x,(cC kvs (.inr x)).getD .non=wv (f x)
def Y3(H:Hp)(d:Addr)(f:Wo->Wo):Prop:=∃ kvs,H d=some (.dK kvs)/\∀ w,(cC kvs (wk w)).getD .non=wv (f w)
def WJ(d:Nat):Sp:=fun vs H Q _=>∃(v:V) (dn da:Addr) (p:Pl) (s:Say),vs=[v,.ref dn,wv p.ar,.int p.now,.ref da]/\dB H v s/\s.depth<=d/\s.ok/\Y6 H dn p.nm/\Y3 H da p.an/\p.Ok/\Q (wv (ev p s)) H
inductive Stm where
 | set (x:Str) (s:Say)|order (x y:Str) (s:Say)|aaE (x:Str) (s:Say)|child (x y:Str) (s:Say)|send (s:Say) (k:Str) (r:Say)|drop (s:Say)
 | wait (x:Str) (ss:List Say)|aaB (x k:Str)|fin (s:Say)|whl (s:Say) (b:List Stm)|iff (s:Say) (b o:List Stm)
inductive fB(H:Hp):List V->List Say->Prop
 | nil:fB H [] []
 | cons {v:V} {vs:List V} {s:Say} {ss:List Say}:dB H v s->fB H vs ss->fB H (v::vs) (s::ss)
def fB.kp{H H':Hp}{vs:List V}{ss:List Say}(h:fB H vs ss)(k:aP H H'):fB H' vs ss:=by
 induction h with
 | nil=>exact .nil
 | cons a _ ih=>exact .cons (a.kp k) ih
mutual
inductive dH(H:Hp):V->Stm->Prop
 | set {a:Addr} {x:Str} {v:V} {s:Say}:H a=some (.tup [.str "set",.str x,v])->dB H v s->dH H (.ref a) (.set x s)
 | order {a:Addr} {x y:Str} {v:V} {s:Say}:H a=some (.tup [.str "order",.str x,.str y,v])->dB H v s->dH H (.ref a) (.order x y s)
 | aaE {a:Addr} {x:Str} {v:V} {s:Say}:H a=some (.tup [.str "timer",.str x,v])->dB H v s->dH H (.ref a) (.aaE x s)
 | child {a:Addr} {x y:Str} {v:V} {s:Say}:H a=some (.tup [.str "child",.str x,.str y,v])->dB H v s->dH H (.ref a) (.child x y s)
 | send {a:Addr} {k:Str} {v u:V} {s r:Say}:H a=some (.tup [.str "send",v,.str k,u])->dB H v s->dB H u r->dH H (.ref a) (.send s k r)
 | drop {a:Addr} {v:V} {s:Say}:H a=some (.tup [.str "drop",v])->dB H v s->dH H (.ref a) (.drop s)
 | wait {a p:Addr} {x:Str} {vs:List V} {ss:List Say}:H a=some (.tup [.str "wait",.str x,.ref p])->H p=some (.tup vs)->fB H vs ss->dH H (.ref a) (.wait x ss)
 | aaB {a:Addr} {x k:Str}:H a=some (.tup [.str "hear",.str x,.str k])->dH H (.ref a) (.aaB x k)
 | fin {a:Addr} {v:V} {s:Say}:H a=some (.tup [.str "end",v])->dB H v s->dH H (.ref a) (.fin s)
 | whl {a p:Addr} {v:V} {s:Say} {vs:List V} {b:List Stm}:H a=some (.tup [.str "while",v,.ref p])->dB H v s->H p=some (.tup vs)->cH H vs b->dH H (.ref a) (.whl s b)
 | iff {a p q:Addr} {v:V} {s:Say} {vs us:List V} {b o:List Stm}:H a=some (.tup [.str "if",v,.ref p,.ref q])->dB H v s->H p=some (.tup vs)->cH H vs b->H q=some (.tup us)->cH H us o->dH H (.ref a) (.iff s b o)
inductive cH(H:Hp):List V->List Stm->Prop
 | nil:cH H [] []
 | cons {v:V} {vs:List V} {x:Stm} {xs:List Stm}:dH H v x->cH H vs xs->cH H (v::vs) (x::xs)
end
def cH.kp{H H':Hp}(k:aP H H'){vs:List V}{ms:List Stm}(h:cH H vs ms):cH H' vs ms :=
 cH.rec (motive_1:=fun v m _=>dH H' v m) (motive_2:=fun vs ms _=>cH H' vs ms)
  (fun e s=>.set (k _ _ e) (s.kp k)) (fun e s=>.order (k _ _ e) (s.kp k)) (fun e s=>.aaE (k _ _ e) (s.kp k)) (fun e s=>.child (k _ _ e) (s.kp k))
  (fun e s r=>.send (k _ _ e) (s.kp k) (r.kp k)) (fun e s=>.drop (k _ _ e) (s.kp k)) (fun e f s=>.wait (k _ _ e) (k _ _ f) (s.kp k)) (fun e=>.aaB (k _ _ e)) (fun e s=>.fin (k _ _ e) (s.kp k))
  (fun e s f _ b=>.whl (k _ _ e) (s.kp k) (k _ _ f) b) (fun e s f _ f' _ b b'=>.iff (k _ _ e) (s.kp k) (k _ _ f) b (k _ _ f') b') .nil (fun _ _ a b=>.cons a b) h
mutual
def Stm.dp:Stm->Nat
 | .whl _ b=>xX b+1
 | .iff _ b o=>max (xX b) (xX o)+1
 | .set _ _=>0
 | .order _ _ _=>0
 | .aaE _ _=>0
 | .child _ _ _=>0
 | .send _ _ _=>0
 | .drop _=>0
 | .wait _ _=>0
 | .aaB _ _=>0
 | .fin _=>0
def xX:List Stm->Nat
 | []=>0
 | m::ms=>max m.dp (xX ms)
end
def cH.at{H:Hp}{vs:List V}{ms:List Stm}(h:cH H vs ms):∀ {i:Nat} {x:V},vs[i]?=some x->∃ m,ms[i]?=some m/\dH H x m:=by
 induction ms generalizing vs with
 | nil=>cases h;intro i x e;simp at e
 | cons m ms ih =>
  cases h with
  | cons a b =>
   intro i x e;cases i with
   | zero=>simp only[List.getElem?_cons_zero,Option.some.injEq] at e;subst e;exact⟨_,rfl,a⟩
   | succ i=>exact ih b (by simpa using e)
def cH.len{H:Hp}{vs:List V}{ms:List Stm}(h:cH H vs ms):ms.length=vs.length:=by
 induction ms generalizing vs with
 | nil=>cases h;rfl
 | cons m ms ih =>
  cases h with
  | cons a b=>simp[ih b]
def Fp(ns:List Int)(lo hi:Option Int):∃ ms:List Int,mC (ns.map V.int) lo hi=ms.map V.int/\ms.length<=ns.length:=by
 unfold mC;rw[<- List.map_drop,<- List.map_take];exact⟨_,rfl,by rw[List.length_take,List.length_drop];omega⟩
def JT{ms:List Int}{i:Nat}{y:V}(h:(ms.map V.int)[i]?=some y):∃ z:Int,y=.int z:=by
 rw[List.getElem?_map] at h;cases e:ms[i]? with
 | none=>rw[e] at h;cases h
 | some z=>rw[e] at h;exact⟨z,(Option.some.inj h).symm⟩
def C3(w:Wo):sW (wv w) [.non,.int 0]=decide (num w=0):=by
 cases w with
 | none=>rfl
 | some n =>
  by_cases h:n=0
  ·subst h;rfl
  ·have h':¬ (0=n):=fun z=>h z.symm;simp[sW,wv,uZ,num,h,h']
def flat01:([.non,.int 0]:List V).all dC=true:=by decide
def aP.nil{H H':Hp}(k:Kp [] H H'):aP H H':=fun a xs e=>k a _ e (by simp)
def _root_.L2.Kp.BK{a:Addr}{H:Hp}{o:HO}:Kp [a] H (Z8 H a o):=Kp.set (by simp)
def jY(pend:List Int):List (Key×V):=pend.map fun i=>(.inl i,.bl true)
def kH(ans:List (Int×Wo)):List (Key×V):=ans.map fun p=>(.inl p.1,wv p.2)
structure iX(C:Addr)(H:Hp)(tk tx dp da:Addr)(made:Nat)(pend:List Int)(ans:List (Int×Wo)):Prop where
 ins:H tk=some (.ins C tx [("made",.int made),("pending",.ref dp),("answers",.ref da)])
 hp:H dp=some (.dK (jY pend))
 ha:H da=some (.dK (kH ans))
 nda:dp≠da
 lt:∀ i∈pend,0<=i/\i < made
 asc:pend.Pairwise (· < ·)
 la:∀ p∈ans,0<=p.1/\p.1 < made
 dis:∀ p∈ans,p.1∉pend
 small:made<=1000000
def iX.n1{C:Addr}{H:Hp}{tk tx dp da:Addr}{made:Nat}{pend:List Int}{ans:List (Int×Wo)}(T:iX C H tk tx dp da made pend ans):tk≠dp/\tk≠da:=⟨dO T.ins T.hp (by intro z;cases z),dO T.ins T.ha (by intro z;cases z)⟩
def iX.kp{C:Addr}{H H':Hp}{tk tx dp da:Addr}{made:Nat}{pend:List Int}{ans:List (Int×Wo)}(T:iX C H tk tx dp da made pend ans)(k:Kp [] H H'):iX C H' tk tx dp da made pend ans :=
 ⟨k.at T.ins,k.at T.hp,k.at T.ha,T.nda,T.lt,T.asc,T.la,T.dis,T.small⟩
def Br(pend:List Int)(w:Wo):(cC (jY pend) (wk w)).isSome=decide (∃ i∈pend,w=some i):=by
 induction pend with
 | nil=>simp[jY,Hx]
 | cons i r ih =>
  have e:jY (i::r)=(Key.inl i,V.bl true)::jY r:=rfl;rw[e];by_cases h:w=some i
  ·subst h;rw[show wk (some i)=Key.inl i from rfl,cR rfl];simp
  ·rw[cG (fun z=>h (by cases w with
    | none=>cases z
    | some j=>cases z;rfl)),ih]
   simp[h]
def Mg(pend:List Int)(i:Int):xC (jY pend) (.inl i)=jY (pend.filter fun j=>decide (j≠i)):=by
 unfold xC jY;rw[List.filter_map]
 congr 1
 apply List.filter_congr;intro j _;simp
def Mh(pend:List Int):intKeys (jY pend)=some pend:=by
 induction pend with
 | nil=>rfl
 | cons i r ih =>
  show(intKeys (jY r)).map (i::·)=_;rw[ih];rfl
def Mi{pend:List Int}{i:Int}(h:i∉pend):cC (jY pend) (.inl i)=none:=by
 have:=Br pend (some i);rw[show decide (∃ j∈pend,some i=some j)=false by simp[h]] at this;cases e:cC (jY pend) (.inl i) with
 | none=>rfl
 | some v=>rw[show wk (some i)=.inl i from rfl,e] at this;cases this
def Mj{pend:List Int}{i:Int}(h:i∈pend):∃ v,cC (jY pend) (.inl i)=some v:=by
 have:=Br pend (some i);rw[show decide (∃ j∈pend,some i=some j)=true by simpa using h] at this;exact Option.isSome_iff_exists.mp this
def MT{ans:List (Int×Wo)}{i:Int}(h:∀ p∈ans,p.1≠i):cC (kH ans) (.inl i)=none:=by
 induction ans with
 | nil=>rfl
 | cons p r ih =>
  have e:kH (p::r)=(Key.inl p.1,wv p.2)::kH r:=rfl;rw[e,cG (fun z=>h p (by simp) (by cases z;rfl)),ih fun q hq=>h q (List.mem_cons_of_mem _ hq)]
def xR{a b:List Int}(p:a.Perm b)(ha:a.Pairwise (·<=·))(hb:b.Pairwise (· < ·)):a=b :=
 List.Perm.eq_of_pairwise (fun x y _ _ h1 h2=>Int.le_antisymm h1 h2) ha (hb.imp fun h=>Int.le_of_lt h) p
def Hm(C:Addr):Sp:=fun vs H Q _=>∃ x dx:Addr,vs=[.ref x]/\H x=some (.ins C dx [])/\∀(dp da:Addr) (H':Hp),H dp=none->H da=none->iX C H' x dx dp da 0 [] []->Kp [x] H H'->Q .non H'
def PN(C:Addr):Sp:=fun vs H Q _=>∃(tk tx dp da:Addr) (made:Nat) (pend:List Int) (ans:List (Int×Wo)),vs=[.ref tk]/\iX C H tk tx dp da made pend ans/\made < 1000000/\pend.length < 1000000 /\
 ∀ H',iX C H' tk tx dp da (made+1) (pend++[(made:Int)]) ans->Kp [tk,dp] H H'->Q (.int made) H'
def PQ(C:Addr):Sp:=fun vs H Q _=>∃(tk tx dp da:Addr) (made:Nat) (pend:List Int) (ans:List (Int×Wo)) (w:Wo),vs=[.ref tk,wv w]/\iX C H tk tx dp da made pend ans/\Q (.bl (decide (∃ i∈pend,w=some i))) H
def MB(C:Addr):Sp:=fun vs H Q _=>∃(tk tx dp da:Addr) (made:Nat) (pend:List Int) (ans:List (Int×Wo)),vs=[.ref tk]/\iX C H tk tx dp da made pend ans/\pend.length<=1000000/\∀ l,H l=none->Q (.ref l) (Z8 H l (.lst (pend.map V.int)))
def PR(C:Addr):Sp:=fun vs H Q _=>∃(tk tx dp da:Addr) (made:Nat) (pend:List Int) (ans:List (Int×Wo)) (i:Int),vs=[.ref tk,.int i]/\iX C H tk tx dp da made pend ans/\i∈pend /\
 ∀ H',iX C H' tk tx dp da made (pend.filter fun j=>decide (j≠i)) ans->Kp [dp] H H'->Q .non H'
def Jj(C:Addr):Sp:=fun vs H Q _=>∃(tk tx dp da:Addr) (made:Nat) (pend:List Int) (ans:List (Int×Wo)) (i:Int) (w:Wo),vs=[.ref tk,.int i,wv w]/\iX C H tk tx dp da made pend ans/\i∈pend/\ans.length < 1000000 /\
 ∀ H',iX C H' tk tx dp da made (pend.filter fun j=>decide (j≠i)) (ans++[(i,w)])->Kp [dp,da] H H'->Q .non H'
def SU(C:Addr):Sp:=fun vs H Q _=>∃(tk tx dp da:Addr) (made:Nat) (pend:List Int) (ans:List (Int×Wo)),vs=[.ref tk]/\iX C H tk tx dp da made pend ans /\
 ∀ H',iX C H' tk tx dp da made [] ans->Kp [dp] H H'->Q .non H'
abbrev Stk:=List (Nat×List Stm×Nat)
def cD:Stk->List Int
 | []=>[]
 | [(_,_,n)]=>[(n:Int)]
 | (k,_,n)::r=>cD r++[(k:Int),(n:Int)]
inductive fN(H:Hp):List V->Stk->Prop
 | one {p:Addr} {us:List V} {k n:Nat} {b:List Stm}:H p=some (.tup us)->cH H us b->fN H [.ref p] [(k,b,n)]
 | cons {p:Addr} {us vs:List V} {k n:Nat} {b:List Stm} {r:Stk}:fN H vs r->H p=some (.tup us)->cH H us b->fN H (vs++[.ref p]) ((k,b,n)::r)
def fN.kp{H H':Hp}{vs:List V}{st:Stk}(h:fN H vs st)(k:aP H H'):fN H' vs st:=by
 induction h with
 | one e s=>exact .one (k _ _ e) (s.kp k)
 | cons _ e s ih=>exact .cons ih (k _ _ e) (s.kp k)
def fN.len{H:Hp}{vs:List V}{st:Stk}(h:fN H vs st):vs.length=st.length/\1<=st.length:=by
 induction h with
 | one=>exact⟨rfl,Nat.le_refl _⟩
 | cons _ _ _ ih=>simp[ih.1]
def fN.last{H:Hp}{vs:List V}{k n:Nat}{b:List Stm}{r:Stk}(h:fN H vs ((k,b,n)::r)):∃(ws:List V) (p:Addr) (us:List V),vs=ws++[.ref p]/\H p=some (.tup us)/\cH H us b/\(r≠[]->fN H ws r)/\(r=[]->ws=[]):=by
 cases h with
 | one e s=>exact⟨[],_,_,rfl,e,s,fun z=>absurd rfl z,fun _=>rfl⟩
 | @cons p us vs k n b r hr e s=>exact⟨vs,_,_,rfl,e,s,fun _=>hr,fun z=>by subst z;cases hr⟩
def fN.turn{H:Hp}{vs:List V}{k n n':Nat}{b:List Stm}{r:Stk}(h:fN H vs ((k,b,n)::r)):fN H vs ((k,b,n')::r):=by
 cases h with
 | one e s=>exact .one e s
 | cons hr e s=>exact .cons hr e s
def vR(k n:Nat)(b:List Stm)(r:Stk):∃ l,cD ((k,b,n)::r)=l++[(n:Int)]/\∀ n',cD ((k,b,n')::r)=l++[((n':Nat):Int)]:=by
 cases r with
 | nil=>exact⟨[],rfl,fun _=>rfl⟩
 | cons x r=>exact⟨cD (x::r)++[(k:Int)],by simp[cD],fun n'=>by simp[cD]⟩
def vS(k:Nat)(b:List Stm)(n:Nat)(x:Nat×List Stm×Nat)(r:Stk):cD ((k,b,n)::x::r)=cD (x::r)++[(k:Int),(n:Int)]:=rfl
structure kG(C:Addr)(H:Hp)(wk wx lb ln:Addr)(st:Stk):Prop where
 ins:H wk=some (.ins C wx [("blocks",.ref lb),("numbers",.ref ln)])
 bl:∃ vs,H lb=some (.lst vs)/\fN H vs st
 nu:H ln=some (.lst ((cD st).map V.int))
 ne:lb≠ln
 few:st.length<=100
def iL:Stk->Stk
 | (k,b,n)::r=>(k,b,n+1)::r
 | []=>[]
def Jk(C:Addr):Sp:=fun vs H Q _=>∃(wk wx lb ln:Addr) (k n:Nat) (b:List Stm) (r:Stk) (m:Stm),vs=[.ref wk]/\kG C H wk wx lb ln ((k,b,n)::r)/\b[n]?=some m/\∀ v,dH H v m->Q v H
def BP(C:Addr):Sp:=fun vs H Q _=>∃(wk wx lb ln:Addr) (k n:Nat) (b:List Stm) (r:Stk),vs=[.ref wk]/\kG C H wk wx lb ln ((k,b,n)::r)/\∀ H',kG C H' wk wx lb ln ((k,b,n+1)::r)->Kp [ln] H H'->Q .non H'
def Hn(C:Addr):Sp:=fun vs H Q _=>∃(x dx p:Addr) (us:List V) (b:List Stm),vs=[.ref x,.ref p]/\H x=some (.ins C dx [])/\H p=some (.tup us)/\cH H us b/\∀(lb ln:Addr) (H':Hp),H lb=none->H ln=none->kG C H' x dx lb ln [(0,b,0)]->Kp [x] H H'->Q .non H'
def Stm.sub:Stm->Nat->Option (List Stm)
 | .whl _ b,0=>some b
 | .iff _ b _,0=>some b
 | .iff _ _ o,1=>some o
 | _,_=>none
def Stm.LD:Stm->Bool
 | .iff _ _ _=>true
 | _=>false
def Dq(C:Addr):Sp:=fun vs H Q _=>∃(wk wx lb ln:Addr) (k n c:Nat) (b bb:List Stm) (r:Stk) (m:Stm),vs=[.ref wk,.int c]/\kG C H wk wx lb ln ((k,b,n)::r)/\b[n]?=some m/\m.sub c=some bb/\r.length<=90 /\
 ∀ H',kG C H' wk wx lb ln ((c,bb,0)::(k,b,n)::r)->Kp [lb,ln] H H'->Q .non H'
def MC(C:Addr):Sp:=fun vs H Q _=>∃(wk wx lb ln:Addr) (k n:Nat) (b:List Stm) (x:Nat×List Stm×Nat) (r:Stk) (m:Stm),vs=[.ref wk]/\kG C H wk wx lb ln (x::(k,b,n)::r)/\b[n]?=some m /\
 ∀ H',kG C H' wk wx lb ln ((k,b,if m.LD=true then n+1 else n)::r)->Kp [lb,ln] H H'->Q .non H'
def dH.subAt{H:Hp}{v:V}{m:Stm}{c:Nat}{bb:List Stm}(h:dH H v m)(hs:m.sub c=some bb):∃(a p:Addr) (xs us:List V),v=.ref a/\H a=some (.tup xs)/\kY xs (2+(c:Int))=some (.ref p)/\H p=some (.tup us)/\cH H us bb:=by
 cases h with
 | @whl a p v s vs b e h1 f hb =>
  match c,hs with
  | 0,hs=>cases hs;exact⟨a,p,_,vs,rfl,e,rfl,f,hb⟩
 | @iff a p q v s vs us b o e h1 f hb f2 hb2 =>
  match c,hs with
  | 0,hs=>cases hs;exact⟨a,p,_,vs,rfl,e,rfl,f,hb⟩
  | 1,hs=>cases hs;exact⟨a,q,_,us,rfl,e,rfl,f2,hb2⟩
 | _=>cases hs
def dH.Ya{H:Hp}{v:V}{m:Stm}(h:dH H v m):∃(a:Addr) (x:String) (xs:List V),v=.ref a/\H a=some (.tup (.str (Str.ofString x)::xs))/\decide (x = "if")=m.LD:=by
 cases h<;>exact⟨_,_,_,rfl,by assumption,rfl⟩
def aP.eZ{H:Hp}{l:Addr}{xs ys:List V}(e:H l=some (.lst xs)):aP H (Z8 H l (.lst ys)):=fun a zs h=>by
 rw[aG (dO h e (by intro z;cases z))];exact h
def Gy:∀ st:Stk,(cD st).length<=2 * st.length
 | []=>by simp[cD]
 | [(_,_,n)]=>by simp[cD]
 | (k,b,n)::x::r=>by
  have:=Gy (x::r);rw[vS,List.length_append];simp only[List.length_cons,List.length_nil] at this ⊢;omega
def vG{α:Type}(l:List α)(x:α):(l++[x])[(l++[x]).length - 1]?=some x:=by simp
def aP.tr{H H1 H2:Hp}(a:aP H H1)(b:aP H1 H2):aP H H2:=fun c xs e=>b c xs (a c xs e)
def Bc(b:List Stm)(n:Nat):Nat:=match b[n]? with
 | some m=>if m.LD=true then n+1 else n
 | none=>n
def c6:Stk->Stk
 | (k,b,n)::(k2,b2,n2)::r=>if n=b.length then c6 ((k2,b2,Bc b2 n2)::r) else (k,b,n)::(k2,b2,n2)::r
 | st=>st
termination_by st=>st.length
def CC:Stk->Prop
 | []=>False
 | (_,b,n)::r=>n<=b.length/\∀ x∈r,x.2.2 < x.2.1.length
def cM:Stk->Option Stm
 | (_,b,n)::_=>b[n]?
 | []=>none
def Gz{b:List Stm}{n:Nat}(h:n < b.length):Bc b n<=b.length:=by
 unfold Bc;split
 ·split<;>omega
 ·omega
def PV(C:Addr):Sp:=fun vs H Q _=>∃(wk wx lb ln:Addr) (st:Stk),vs=[.ref wk]/\kG C H wk wx lb ln st/\CC st /\
 (∀ H',kG C H' wk wx lb ln (c6 st)->CC (c6 st)->cM (c6 st)=none->Kp [lb,ln] H H'->Q .non H') /\
 ∀(m:Stm) (v:V) (H':Hp),kG C H' wk wx lb ln (c6 st)->CC (c6 st)->cM (c6 st)=some m->dH H' v m->Kp [lb,ln] H H'->Q v H'
abbrev Cmds:=List (List V)
inductive hZ(H:Hp):List V->Cmds->Prop
 | nil:hZ H [] []
 | cons {a:Addr} {c:List V} {us:List V} {cs:Cmds}:H a=some (.tup c)->hZ H us cs->hZ H (.ref a::us) (c::cs)
def hZ.kt{H H':Hp}{us:List V}{cs:Cmds}(h:hZ H us cs)(k:aP H H'):hZ H' us cs:=by
 induction h with
 | nil=>exact .nil
 | cons a _ ih=>exact .cons (k _ _ a) ih
def hZ.len{H:Hp}{us:List V}{cs:Cmds}(h:hZ H us cs):us.length=cs.length:=by
 induction h with
 | nil=>rfl
 | cons _ _ ih=>simp[ih]
def hZ.app{H:Hp}{us vs:List V}{ps qs:Cmds}(h:hZ H us ps)(g:hZ H vs qs):hZ H (us++vs) (ps++qs):=by
 induction h with
 | nil=>exact g
 | cons e _ ih=>exact .cons e ih
def hZ.at{H:Hp}{us:List V}{cs:Cmds}(h:hZ H us cs):∀ {i:Nat} {v:V},us[i]?=some v->∃ a c,v=.ref a/\cs[i]?=some c/\H a=some (.tup c):=by
 induction h with
 | nil=>intro i v e;simp at e
 | cons x _ ih =>
  intro i v e;cases i with
  | zero=>simp only[List.getElem?_cons_zero,Option.some.injEq] at e;subst e;exact⟨_,_,rfl,rfl,x⟩
  | succ i=>exact ih (by simpa using e)
inductive Slp where
 | non|new|wait (ts:List Int)|aaB (k:Str)|ended (w:Wo)|worn
def Slp.isN:Slp->Bool
 | .non=>true
 | _=>false
def iU(H:Hp)(v:V):Slp->Prop
 | .non=>v=.non
 | .new=>∃ p,v=.ref p/\H p=some (.tup [.str "new"])
 | .wait ts=>∃ p p2,v=.ref p/\H p=some (.tup [.str "wait",.ref p2])/\H p2=some (.tup (ts.map V.int))
 | .aaB k=>∃ p,v=.ref p/\H p=some (.tup [.str "hear",.str k])
 | .ended w=>∃ p,v=.ref p/\H p=some (.tup [.str "ended",wv w])
 | .worn=>∃ p,v=.ref p/\H p=some (.tup [.str "worn"])
def iU.kt{H H':Hp}{v:V}{s:Slp}(h:iU H v s)(k:aP H H'):iU H' v s:=by
 cases s with
 | non=>exact h
 | wait ts=>obtain⟨p,p2,e,a,b⟩:=h;exact⟨p,p2,e,k _ _ a,k _ _ b⟩
 | _=>obtain⟨p,e,a⟩:=h;exact⟨p,e,k _ _ a⟩
def iU.isN{H:Hp}{v:V}{s:Slp}(h:iU H v s):(s.isN=true/\v=.non)\/(s.isN=false/\∃ p,v=.ref p):=by
 cases s with
 | non=>exact .inl ⟨rfl,h⟩
 | wait ts=>obtain⟨p,p2,e,a,b⟩:=h;exact .inr ⟨rfl,p,e⟩
 | _=>obtain⟨p,e,a⟩:=h;exact .inr ⟨rfl,p,e⟩
def lW(l:List (Str×Wo)):List (Key×V):=l.map fun p=>(.inr p.1,wv p.2)
def dM(l:List (Str×Wo))(n:Str)(w:Wo):List (Str×Wo):=if (l.any fun p=>decide (p.1=n))=true then l.map (fun p=>if p.1=n then (p.1,w) else p) else l++[(n,w)]
def mM(l:List (Str×Wo))(n:Str)(w:Wo):eL (lW l) (.inr n) (wv w)=lW (dM l n w):=by
 have e:((lW l).any fun kv=>decide (kv.1=Key.inr n))=(l.any fun p=>decide (p.1=n)):=by
  simp only[lW,List.any_map,Function.comp_def,Key.inr.injEq]
 unfold eL dM;rw[e];split
 ·simp only[lW,List.map_map,Function.comp_def,Key.inr.injEq];refine List.map_congr_left fun p _=>?_;by_cases h:p.1=n
  ·simp[h]
  ·simp[h]
 ·simp[lW]
def GV(l:List (Str×Wo))(n:Str)(w:Wo):(dM l n w).length<=l.length+1:=by
 unfold dM;split
 ·rw[List.length_map];omega
 ·simp
def kN:List (Str×Wo)->Str->Wo
 | [],_=>none
 | p::r,x=>if p.1=x then p.2 else kN r x
def y7:∀(l:List (Str×Wo)) (x:Str),(cC (lW l) (.inr x)).getD .non=wv (kN l x)
 | [],x=>rfl
 | p::r,x=>by
  have ih:=y7 r x;show(cC ((Key.inr p.1,wv p.2)::lW r) (.inr x)).getD .non=_;by_cases h:p.1=x
  ·rw[cR (by rw[h]),kN,if_pos h];rfl
  ·rw[cG (fun z=>h (Key.inr.inj z)),kN,if_neg h];exact ih
def LK(l:List (Str×Wo))(n:Str)(w:Wo)(x:Str):kN (dM l n w) x=if x=n then w else kN l x:=by
 have h1:=y7 (dM l n w) x;rw[<- mM,BW] at h1;by_cases h:x=n
 ·rw[if_pos (by rw[h])] at h1;rw[if_pos h];exact(Jq h1).symm
 ·rw[if_neg (fun z=>h (Key.inr.inj z)),y7] at h1;rw[if_neg h];exact(Jq h1).symm
def fH(l:List (Int×Wo)):Wo->Wo
 | none=>none
 | some i=>match l with
  | []=>none
  | p::r=>if p.1=i then p.2 else fH r (some i)
def zI:∀(l:List (Int×Wo)) (w:Wo),(cC (kH l) (wk w)).getD .non=wv (fH l w)
 | [],none=>rfl
 | [],some _=>rfl
 | p::r,none=>by
  have ih:=zI r none;show(cC ((Key.inl p.1,wv p.2)::kH r) .no).getD .non=_;rw[cG (by intro z;cases z)];rw[show fH (p::r) none=fH r none from by rw[fH,fH]];exact ih
 | p::r,some i=>by
  have ih:=zI r (some i);show(cC ((Key.inl p.1,wv p.2)::kH r) (.inl i)).getD .non=_;by_cases h:p.1=i
  ·rw[cR (by rw[h]),fH,if_pos h];rfl
  ·rw[cG (fun z=>h (Key.inl.inj z)),fH,if_neg h];exact ih
inductive kF(H:Hp):List (Key×V)->List Addr->List (Str×List Wo)->Prop
 | nil:kF H [] [] []
 | cons {a:Addr} {k:Str} {ws:List Wo} {kvs:List (Key×V)} {as:List Addr} {lt:List (Str×List Wo)}:H a=some (.lst (ws.map wv))->kF H kvs as lt->kF H ((.inr k,.ref a)::kvs) (a::as) ((k,ws)::lt)
def kF.keep{H H':Hp}{kvs:List (Key×V)}{as:List Addr}{lt:List (Str×List Wo)}(h:kF H kvs as lt)(k:∀ a∈as,∀ o,H a=some o->H' a=some o):kF H' kvs as lt:=by
 induction h with
 | nil=>exact .nil
 | cons e _ ih=>exact .cons (k _ (by simp) _ e) (ih fun a ha=>k a (List.mem_cons_of_mem _ ha))
def kF.ex{H:Hp}{kvs:List (Key×V)}{as:List Addr}{lt:List (Str×List Wo)}(h:kF H kvs as lt):∀ a∈as,∃ xs,H a=some (.lst xs):=by
 induction h with
 | nil=>intro a ha;simp at ha
 | cons e _ ih=>intro a ha;rcases List.mem_cons.mp ha with rfl|ha;exact⟨_,e⟩;exact ih a ha
def kF.len{H:Hp}{kvs:List (Key×V)}{as:List Addr}{lt:List (Str×List Wo)}(h:kF H kvs as lt):kvs.length=lt.length:=by
 induction h with
 | nil=>rfl
 | cons _ _ ih=>simp[ih]
def cO:List (Str×List Wo)->Str->Option (List Wo)
 | [],_=>none
 | p::r,k=>if p.1=k then some p.2 else cO r k
def eZ:List (Str×List Wo)->Str->List Wo->List (Str×List Wo)
 | [],_,_=>[]
 | p::r,k,ws=>if p.1=k then (p.1,ws)::r else p::eZ r k ws
def kF.look{H:Hp}{kvs:List (Key×V)}{as:List Addr}{lt:List (Str×List Wo)}(h:kF H kvs as lt)(k:Str):(cC kvs (.inr k)=none/\cO lt k=none) \/
    ∃ a ws,cC kvs (.inr k)=some (.ref a)/\cO lt k=some ws/\a∈as/\H a=some (.lst (ws.map wv)):=by
  induction h with
  | nil=>exact .inl ⟨rfl,rfl⟩
  | @cons a j ws kvs as lt e _ ih =>
    by_cases hj:j=k
    · subst hj;exact .inr ⟨a,ws,cR rfl,by simp[cO],by simp,e⟩
    · rcases ih with⟨x,y⟩|⟨b,vs,x,y,z,u⟩
      · exact .inl ⟨by rw[cG (fun z=>hj (Key.inr.inj z))];exact x,by simp[cO,hj,y]⟩
      · exact .inr ⟨b,vs,by rw[cG (fun z=>hj (Key.inr.inj z))];exact x,by simp[cO,hj,y],List.mem_cons_of_mem _ z,u⟩
def kF.set{H:Hp}{kvs:List (Key×V)}{as:List Addr}{lt:List (Str×List Wo)}(h:kF H kvs as lt){k:Str}{a:Addr}(r:List Wo)(hk:cC kvs (.inr k)=some (.ref a))(nd:as.Nodup):kF (Z8 H a (.lst (r.map wv))) kvs as (eZ lt k r):=by
 induction h with
 | nil=>cases hk
 | @cons b j ws kvs as lt e hr ih =>
  rw[List.nodup_cons] at nd;by_cases hj:j=k
  ·subst hj;rw[cR rfl] at hk;cases hk;rw[eZ,if_pos rfl];exact .cons aA (hr.keep fun c hc o h=>by rw[aG (show c≠a from fun z=>nd.1 (by rw[<- z];exact hc))];exact h)
  ·rw[cG (fun z=>hj (Key.inr.inj z))] at hk;rw[eZ,if_neg hj];have ha:a∈as:=by
    rcases hr.look k with⟨x,_⟩|⟨c,_,x,_,y,_⟩
    ·rw[x] at hk;cases hk
    ·rw[x] at hk;cases hk;exact y
   exact .cons (by rw[aG (show b≠a from fun z=>nd.1 (by rw[z];exact ha))];exact e) (ih hk nd.2)
def kF.snoc{H:Hp}{kvs:List (Key×V)}{as:List Addr}{lt:List (Str×List Wo)}(h:kF H kvs as lt){k:Str}{a:Addr}{ws:List Wo}(e:H a=some (.lst (ws.map wv))):kF H (kvs++[(.inr k,.ref a)]) (as++[a]) (lt++[(k,ws)]):=by
 induction h with
 | nil=>exact .cons e .nil
 | cons f _ ih=>exact .cons f ih
structure Pu where
 stk:Stk
 sl:Slp
 ar:Wo
 nw:Int
 nm:List (Str×Wo)
 made:Nat
 pend:List Int
 ans:List (Int×Wo)
 lt:List (Str×List Wo)
def Pu.pl(S:Pu):Pl:=⟨kN S.nm,S.ar,S.nw,fH S.ans⟩
def Pu.worth(S:Pu)(s:Say):Wo:=ev S.pl s
def Pu.Cn(S:Pu)(n:Str):Pu:={S with made:=S.made+1,pend:=S.pend++[(S.made:Int)],nm:=dM S.nm n (some (S.made:Int))}
def Pu.pass(S:Pu):Pu:={S with stk:=iL S.stk}
def NF(nw:Int):Wo->Int
 | none=>if nw < 1000000000000 then nw else 1000000000000
 | some z=>if nw+(if z > 0 then z else 0) < 1000000000000 then nw+(if z > 0 then z else 0) else 1000000000000
def Pu.ends(S:Pu)(w:Wo):Pu×Cmds:=({S with sl:=.ended w,pend:=[]},[[.str "end",wv w]])
def Pu.Dz(S:Pu):Pu×Cmds:=({S with sl:=.worn,pend:=[]},[[.str "worn"]])
def cE(ans:List (Int×Wo))(ws:List Wo):Wo:=(ans.find? fun p=>decide (some p.1∈ws)).map (·.1)
def FX(i:Int):List Int->List Int
 | []=>[i]
 | j::r=>if i < j then i::j::r else if i=j then j::r else j::FX i r
def cT(pend:List Int):List Wo->List Int
 | []=>[]
 | none::r=>cT pend r
 | some i::r=>if i∈pend then FX i (cT pend r) else cT pend r
def cU(S:Pu):Stm->Pu×Cmds
 | .set x s=>({S with nm:=dM S.nm x (S.worth s)},[])
 | .order x y s=>(S.Cn x,[[.str "order",.int S.made,.str y,wv (S.worth s)]])
 | .child x y s=>(S.Cn x,[[.str "child",.int S.made,.str y,wv (S.worth s)]])
 | .aaE x s=>(S.Cn x,[[.str "timer",.int S.made,.int (NF S.nw (S.worth s))]])
 | .send s k r=>(S,[[.str "send",wv (S.worth s),.str k,wv (S.worth r)]])
 | .drop s=>match S.worth s with
  | some i=>if i∈S.pend then ({S with pend:=S.pend.filter fun j=>decide (j≠i)},[[.str "drop",.int i]]) else (S,[])
  | none=>(S,[])
 | .aaB x k=>match (cO S.lt k).getD [] with
  | w::r=>({S with nm:=dM S.nm x w,lt:=eZ S.lt k r},[])
  | []=>({S with sl:=.aaB k},[])
 | .wait x ss=>if cE S.ans (ss.map S.worth)=none/\cT S.pend (ss.map S.worth)≠[] then ({S with sl:=.wait (cT S.pend (ss.map S.worth))},[]) else ({S with nm:=dM S.nm x (cE S.ans (ss.map S.worth))},[])
 | .fin s=>S.ends (S.worth s)
 | .whl _ _=>(S,[])
 | .iff _ _ _=>(S,[])
def Stm.isB:Stm->Bool
 | .whl _ _=>true
 | .iff _ _ _=>true
 | _=>false
def Pu.enter(S:Pu)(c:Nat)(b:List Stm):Pu:={S with stk:=(c,b,0)::S.stk}
def AS(S:Pu):Stm->Pu
 | .whl s b=>if num (S.worth s)=0 then S.pass else S.enter 0 b
 | .iff s b o=>if num (S.worth s)=0 then S.enter 1 o else S.enter 0 b
 | _=>S
def one(S:Pu)(m:Stm):Pu×Cmds:=if m.isB=true then (AS S m,[]) else (if (cU S m).1.sl.isN=true then (cU S m).1.pass else (cU S m).1,(cU S m).2)
def Pu.cJ(S:Pu):Pu:={S with stk:=c6 S.stk}
def iI:Nat->Pu->Pu×Cmds
 | 0,S=>match cM S.cJ.stk with
  | none=>S.cJ.ends none
  | some _=>S.cJ.Dz
 | n+1,S=>match cM S.cJ.stk with
  | none=>S.cJ.ends none
  | some m=>if (one S.cJ m).1.sl.isN=true then ((iI n (one S.cJ m).1).1,(one S.cJ m).2++(iI n (one S.cJ m).1).2) else one S.cJ m
def Pu.wake(S:Pu)(w:Wo):Pu×Cmds:=match cM S.stk with
 | some (.aaB x _)=>iI 300 {S with nm:=dM S.nm x w,stk:=iL S.stk,sl:=.non}
 | some (.wait x _)=>iI 300 {S with nm:=dM S.nm x w,stk:=iL S.stk,sl:=.non}
 | _=>(S,[])
def later(nw m:Int):Int:=if m > nw then m else nw
def Say.sok(s:Say):Prop:=s.ok/\s.depth<=6
mutual
def Stm.gd(wt:Bool):Stm->Prop
 | .set _ s=>s.sok
 | .order _ _ s=>s.sok
 | .child _ _ s=>s.sok
 | .aaE _ s=>s.sok
 | .send s _ r=>s.sok/\r.sok
 | .drop s=>s.sok
 | .wait _ ss=>wt=true/\ss.length<=4/\∀ s∈ss,s.sok
 | .aaB _ _=>True
 | .fin s=>s.sok
 | .whl s b=>s.sok/\yB wt b
 | .iff s b o=>s.sok/\yB wt b/\yB wt o
def yB(wt:Bool):List Stm->Prop
 | []=>True
 | m::ms=>m.gd wt/\yB wt ms
end
def Oj{wt:Bool}:∀ {b:List Stm} {i:Nat} {m:Stm},yB wt b->b[i]?=some m->m.gd wt
 | [],_,_,_,h=>by simp at h
 | _::_,0,_,g,h=>by simp only[List.getElem?_cons_zero,Option.some.injEq] at h;subst h;simp only[yB] at g;exact g.1
 | _::b,i+1,_,g,h=>by simp only[yB] at g;exact Oj g.2 (by simpa using h)
def NC:∀ {b:List Stm} {i:Nat} {m:Stm},b[i]?=some m->m.dp<=xX b
 | [],_,_,h=>by simp at h
 | _::_,0,_,h=>by simp only[List.getElem?_cons_zero,Option.some.injEq] at h;subst h;simp only[xX];omega
 | _::b,i+1,_,h=>by have:=NC (b:=b) (by simpa using h);simp only[xX];omega
def ZQ:Stk->Prop
 | []=>True
 | (_,b,_)::r=>xX b+r.length<=20/\ZQ r
structure B0(wt:Bool)(st:Stk):Prop where
 ok:CC st
 gd:∀ x∈st,yB wt x.2.1
 dp:ZQ st
structure Fit(wt:Bool)(S:Pu)(N:Nat):Prop where
 nm:S.nm.length<=N
 md:S.made<=N
 pd:S.pend.length<=N
 an:S.ans.length<=N
 lt:S.lt.length<=N
 lw:∀ k ws,cO S.lt k=some ws->ws.length<=N/\∀ w∈ws,dQ w
 pl:S.pl.Ok
 nw:0<=S.nw/\S.nw<=1000000000000
 sk:B0 wt S.stk
 sl:(∀ k,S.sl=.aaB k->∃ x,cM S.stk=some (.aaB x k))/\∀ ts,S.sl=.wait ts->∃ x ss,cM S.stk=some (.wait x ss)
structure Cl where
 r:Addr
 w:Addr
 t:Addr
structure Rn where
 x:Addr
 dx:Addr
 wk:Addr
 wx:Addr
 lb:Addr
 ln:Addr
 nm:Addr
 tk:Addr
 tx:Addr
 dp:Addr
 da:Addr
 lt:Addr
def Rn.cells(R:Rn):List Addr:=[R.x,R.lb,R.ln,R.nm,R.tk,R.dp,R.da,R.lt]
def kG.keep{C:Addr}{H H':Hp}{wk wx lb ln:Addr}{st:Stk}(W:kG C H wk wx lb ln st)(k1:∀ o,H wk=some o->H' wk=some o)(k2:∀ o,H lb=some o->H' lb=some o)(k3:∀ o,H ln=some o->H' ln=some o)(kt:aP H H'):kG C H' wk wx lb ln st:=by
 obtain⟨vs,e,h⟩:=W.bl;exact⟨k1 _ W.ins,⟨vs,k2 _ e,h.kp kt⟩,k3 _ W.nu,W.ne,W.few⟩
def iX.keep{C:Addr}{H H':Hp}{tk tx dp da:Addr}{made:Nat}{pend:List Int}{ans:List (Int×Wo)}(T:iX C H tk tx dp da made pend ans)(k1:∀ o,H tk=some o->H' tk=some o)(k2:∀ o,H dp=some o->H' dp=some o)(k3:∀ o,H da=some o->H' da=some o):iX C H' tk tx dp da made pend ans :=
 ⟨k1 _ T.ins,k2 _ T.hp,k3 _ T.ha,T.nda,T.lt,T.asc,T.la,T.dis,T.small⟩
structure aZ(C:Cl)(H:Hp)(R:Rn)(as:List Addr)(sl:V)(S:Pu):Prop where
 ins:H R.x=some (.ins C.r R.dx [("walk",.ref R.wk),("sleep",sl),("arg",wv S.ar),("now",.int S.nw),("names",.ref R.nm),("tickets",.ref R.tk),("letters",.ref R.lt)])
 slp:iU H sl S.sl
 wk:kG C.w H R.wk R.wx R.lb R.ln S.stk
 tk:iX C.t H R.tk R.tx R.dp R.da S.made S.pend S.ans
 nm:H R.nm=some (.dK (lW S.nm))
 lt:∃ kvs,H R.lt=some (.dK kvs)/\kF H kvs as S.lt
 nas:as.Nodup
 ab:∀ a∈as,a≠R.lb/\a≠R.ln
 xw:R.x≠R.wk
 xt:R.x≠R.tk
 wt:R.wk≠R.tk
 n1:R.nm≠R.dp
 n2:R.nm≠R.da
 n3:R.nm≠R.lt
 n4:R.lt≠R.dp
 n5:R.lt≠R.da
def jT{H:Hp}{p b:Addr}{o u v:HO}(e:H p=some o)(h:H b=some v)(d:v≠o):Z8 H p u b=some v:=by
 rw[aG (dO h e d)];exact h
def aP.Hj{H:Hp}{p:Addr}{o u:HO}(e:H p=some o)(d:∀ xs,o≠.tup xs):aP H (Z8 H p u):=fun a xs h=>jT e h (d xs).symm
section
variable {C:Cl} {H H':Hp} {R:Rn} {as as':List Addr} {sl:V} {S:Pu}
def aZ.keep(A:aZ C H R as sl S)(k:∀ b o,H b=some o->b=R.wk\/b∈R.cells\/b∈as->H' b=some o)(kt:aP H H'):aZ C H' R as sl S:=by
 obtain⟨kvs,e,L⟩:=A.lt;have c:∀ {b:Addr} {o:HO},b∈R.cells->H b=some o->H' b=some o:=fun {b o} h e=>k b o e (.inr (.inl h));exact {A with
  ins:=c (by simp[Rn.cells]) A.ins
  slp:=A.slp.kt kt
  wk:=A.wk.keep (fun o h=>k _ o h (.inl rfl)) (fun o h=>c (by simp[Rn.cells]) h) (fun o h=>c (by simp[Rn.cells]) h) kt
  tk:=A.tk.keep (fun o h=>c (by simp[Rn.cells]) h) (fun o h=>c (by simp[Rn.cells]) h) (fun o h=>c (by simp[Rn.cells]) h)
  nm:=c (by simp[Rn.cells]) A.nm
  lt:=⟨kvs,c (by simp[Rn.cells]) e,L.keep fun a ha o h=>k a o h (.inr (.inr ha))⟩}
def aZ.kp(A:aZ C H R as sl S)(k:Kp [] H H'):aZ C H' R as sl S:=A.keep (fun _ _ h _=>k.at h) (aP.nil k)
def aZ.cellK(A:aZ C H R as sl S){b:Addr}(h:b∈R.cells\/b∈as):∃ o,H b=some o/\∀ xs,o≠.tup xs:=by
 obtain⟨kvs,e,L⟩:=A.lt;obtain⟨vs,el,_⟩:=A.wk.bl;rcases h with h|h
 ·simp only[Rn.cells,List.mem_cons,List.not_mem_nil,or_false] at h;rcases h with rfl|rfl|rfl|rfl|rfl|rfl|rfl|rfl
  ·exact⟨_,A.ins,fun _ z=>by cases z⟩
  ·exact⟨_,el,fun _ z=>by cases z⟩
  ·exact⟨_,A.wk.nu,fun _ z=>by cases z⟩
  ·exact⟨_,A.nm,fun _ z=>by cases z⟩
  ·exact⟨_,A.tk.ins,fun _ z=>by cases z⟩
  ·exact⟨_,A.tk.hp,fun _ z=>by cases z⟩
  ·exact⟨_,A.tk.ha,fun _ z=>by cases z⟩
  ·exact⟨_,e,fun _ z=>by cases z⟩
 ·obtain⟨xs,ex⟩:=L.ex b h;exact⟨_,ex,fun _ z=>by cases z⟩
structure Fw(R:Rn)(as as':List Addr)(H H':Hp):Prop where
 kp:∀ b o,H b=some o->b∉R.cells->b∉as->H' b=some o
 dom:∀ b o,H b=some o->∃ o',H' b=some o'
 new:∀ a∈as',a∈as\/H a=none
def Fw.refl:Fw R as as H H:=⟨fun _ _ h _ _=>h,fun _ o h=>⟨o,h⟩,fun _ h=>.inl h⟩
def Fw.free(F:Fw R as as' H H'){c:Addr}(h:H' c=none):H c=none:=by
 cases z:H c with
 | none=>rfl
 | some o=>obtain⟨o',z'⟩:=F.dom c o z;rw[h] at z';cases z'
def Fw.trans{acV:List Addr}{H'':Hp}(a:Fw R as as' H H')(b:Fw R as' acV H' H''):Fw R as acV H H'' :=
  ⟨fun c o h n m=>b.kp c o (a.kp c o h n m) n (fun z=>by
      rcases a.new c z with y|y
      · exact m y
      · rw[h] at y;cases y),fun c o h=>(by obtain⟨o',h'⟩:=a.dom c o h;exact b.dom c o' h'),fun c h=>by
    rcases b.new c h with y|y
    · exact a.new c y
    · exact .inr (a.free y)⟩
def Fw.of(k:Kp [] H H'):Fw R as as H H':=⟨fun b o h _ _=>k.at h,fun b o h=>⟨o,k.at h⟩,fun _ h=>.inl h⟩
def Fw.set{p:Addr}{o:HO}(h:p∈R.cells\/p∈as):Fw R as as H (Z8 H p o) :=
 ⟨fun b u e n m=>by rw[aG (fun z=>by rcases h with h|h;exact n (by rw[z];exact h);exact m (by rw[z];exact h))];exact e,fun b u e=>by by_cases z:b=p;exact⟨o,by rw[z,aA]⟩;exact⟨u,by rw[aG z];exact e⟩,fun _ h=>.inl h⟩
def Fw.ofD{D:List Addr}(k:Kp D H H')(h:∀ b∈D,b∈R.cells/\∃ o,H' b=some o):Fw R as as H H' :=
 ⟨fun b o e n _=>k b o e fun z=>n (h b z).1,fun b o e=>by by_cases z:b∈D;exact(h b z).2;exact⟨o,k b o e z⟩,fun _ h=>.inl h⟩
def Fw.fresh{c:Addr}{o:HO}(F:Fw R as as' H H')(h:H c=none):Fw R as as' H (Z8 H' c o) :=
 ⟨fun b u e n m=>by rw[aG (aL e h)];exact F.kp b u e n m,fun b u e=>by rw[aG (aL e h)];exact F.dom b u e,F.new⟩
def aZ.tkp(A:aZ C H R as sl S)(F:Fw R as as' H H'):aP H H':=fun b xs h=>F.kp b _ h (fun z=>by
    obtain⟨o,e,d⟩:=A.cellK (.inl z);rw[h] at e;exact d xs (Option.some.inj e).symm) fun z=>by
    obtain⟨o,e,d⟩:=A.cellK (.inr z);rw[h] at e;exact d xs (Option.some.inj e).symm
def aZ.cX(A:aZ C H R as sl S){c:Addr}(h:H c=none):c∉R.cells/\c∉as:=by
 refine⟨fun z=>?_,fun z=>?_⟩
 ·obtain⟨o,e,d⟩:=A.cellK (.inl z);rw[h] at e;cases e
 ·obtain⟨o,e,d⟩:=A.cellK (.inr z);rw[h] at e;cases e
def aZ.attr(A:aZ C H R as sl S)(sl':V)(s':Slp)(ar':Wo)(nw':Int)(h:iU H sl' s'):aZ C (Z8 H R.x (.ins C.r R.dx [("walk",.ref R.wk),("sleep",sl'),("arg",wv ar'),("now",.int nw'),("names",.ref R.nm),("tickets",.ref R.tk),("letters",.ref R.lt)])) R as sl' {S with sl:=s',ar:=ar',nw:=nw'}:=by
 obtain⟨kvs,e,L⟩:=A.lt;obtain⟨vs,el,_⟩:=A.wk.bl;have kt:aP H (Z8 H R.x (.ins C.r R.dx [("walk",.ref R.wk),("sleep",sl'),("arg",wv ar'),("now",.int nw'),("names",.ref R.nm),("tickets",.ref R.tk),("letters",.ref R.lt)])):=aP.Hj A.ins (by intro _ z;cases z);exact {A with
  ins:=aA
  slp:=h.kt kt
  wk:=A.wk.keep (fun o h=>by rw[aG A.xw.symm];exact h) (fun o h=>by rw[el] at h;cases h;exact jT A.ins el (by intro z;cases z)) (fun o h=>by rw[A.wk.nu] at h;cases h;exact jT A.ins A.wk.nu (by intro z;cases z)) kt
  tk:=A.tk.keep (fun o h=>by rw[aG A.xt.symm];exact h) (fun o h=>by rw[A.tk.hp] at h;cases h;exact jT A.ins A.tk.hp (by intro z;cases z)) (fun o h=>by rw[A.tk.ha] at h;cases h;exact jT A.ins A.tk.ha (by intro z;cases z))
  nm:=jT A.ins A.nm (by intro z;cases z)
  lt:=⟨kvs,jT A.ins e (by intro z;cases z),L.keep fun a ha o h=>by obtain⟨xs,ex⟩:=L.ex a ha;rw[ex] at h;cases h;exact jT A.ins ex (by intro z;cases z)⟩}
def aZ.walk(A:aZ C H R as sl S){st:Stk}(W:kG C.w H' R.wk R.wx R.lb R.ln st)(k:Kp [R.lb,R.ln] H H'):aZ C H' R as sl {S with stk:=st}:=by
 obtain⟨kvs,e,L⟩:=A.lt;obtain⟨vs,el,_⟩:=A.wk.bl;have at':∀ {b:Addr} {o:HO},H b=some o->(∀ xs,o≠.lst xs)->H' b=some o:=fun {b o} h d=>k b o h (by
  simp only[List.mem_cons,List.not_mem_nil,or_false,not_or];exact⟨dO h el (d _),dO h A.wk.nu (d _)⟩)
 have kt:aP H H':=fun b xs h=>at' h (by intro _ z;cases z);exact {A with
  ins:=at' A.ins (by intro _ z;cases z)
  slp:=A.slp.kt kt
  wk:=W
  tk:=⟨at' A.tk.ins (by intro _ z;cases z),at' A.tk.hp (by intro _ z;cases z),at' A.tk.ha (by intro _ z;cases z),A.tk.nda,A.tk.lt,A.tk.asc,A.tk.la,A.tk.dis,A.tk.small⟩
  nm:=at' A.nm (by intro _ z;cases z)
  lt:=⟨kvs,at' e (by intro _ z;cases z),L.keep fun a ha o h=>k a o h (by
   simp only[List.mem_cons,List.not_mem_nil,or_false,not_or];exact A.ab a ha)⟩}
def aZ.AH(_:aZ C H R as sl S){st:Stk}(W:kG C.w H' R.wk R.wx R.lb R.ln st)(k:Kp [R.lb,R.ln] H H'):Fw R as as H H':=Fw.ofD k fun b hb=>by
 obtain⟨vs,el,_⟩:=W.bl;simp only[List.mem_cons,List.not_mem_nil,or_false] at hb;rcases hb with rfl|rfl
 ·exact⟨by simp[Rn.cells],_,el⟩
 ·exact⟨by simp[Rn.cells],_,W.nu⟩
def aZ.tick(A:aZ C H R as sl S){md:Nat}{pd:List Int}{an:List (Int×Wo)}(T:iX C.t H' R.tk R.tx R.dp R.da md pd an)(k:Kp [R.tk,R.dp,R.da] H H'):aZ C H' R as sl {S with made:=md,pend:=pd,ans:=an}:=by
 obtain⟨kvs,e,L⟩:=A.lt;obtain⟨vs,el,_⟩:=A.wk.bl;have at':∀ {b:Addr} {o:HO},H b=some o->(∀ xs,o≠.dK xs)->(∀ C d f,o≠.ins C d f)->H' b=some o:=fun {b o} h d d2=>k b o h (by
  simp only[List.mem_cons,List.not_mem_nil,or_false,not_or];exact⟨dO h A.tk.ins (d2 _ _ _),dO h A.tk.hp (d _),dO h A.tk.ha (d _)⟩)
 have kY:∀ {b:Addr} {o:HO},H b=some o->(∀ xs,o≠.dK xs)->b≠R.tk->H' b=some o:=fun {b o} h d d2=>k b o h (by
  simp only[List.mem_cons,List.not_mem_nil,or_false,not_or];exact⟨d2,dO h A.tk.hp (d _),dO h A.tk.ha (d _)⟩)
 have atD:∀ {b:Addr} {o:HO},H b=some o->(∀ C d f,o≠.ins C d f)->b≠R.dp->b≠R.da->H' b=some o:=fun {b o} h d d2 d3=>k b o h (by
  simp only[List.mem_cons,List.not_mem_nil,or_false,not_or];exact⟨dO h A.tk.ins (d _ _ _),d2,d3⟩)
 have kt:aP H H':=fun b xs h=>at' h (by intro _ z;cases z) (by intro _ _ _ z;cases z);exact {A with
  ins:=kY A.ins (by intro _ z;cases z) A.xt
  slp:=A.slp.kt kt
  wk:=A.wk.keep (fun o h=>by rw[A.wk.ins] at h;cases h;exact kY A.wk.ins (by intro _ z;cases z) A.wt) (fun o h=>by rw[el] at h;cases h;exact at' el (by intro _ z;cases z) (by intro _ _ _ z;cases z)) (fun o h=>by rw[A.wk.nu] at h;cases h;exact at' A.wk.nu (by intro _ z;cases z) (by intro _ _ _ z;cases z)) kt
  tk:=T
  nm:=atD A.nm (by intro _ _ _ z;cases z) A.n1 A.n2
  lt:=⟨kvs,atD e (by intro _ _ _ z;cases z) A.n4 A.n5,L.keep fun a ha o h=>by obtain⟨xs,ex⟩:=L.ex a ha;rw[ex] at h;cases h;exact at' ex (by intro _ z;cases z) (by intro _ _ _ z;cases z)⟩}
def aZ.FL(_:aZ C H R as sl S){md:Nat}{pd:List Int}{an:List (Int×Wo)}(T:iX C.t H' R.tk R.tx R.dp R.da md pd an)(k:Kp [R.tk,R.dp,R.da] H H'):Fw R as as H H':=Fw.ofD k fun b hb=>by
 simp only[List.mem_cons,List.not_mem_nil,or_false] at hb;rcases hb with rfl|rfl|rfl
 ·exact⟨by simp[Rn.cells],_,T.ins⟩
 ·exact⟨by simp[Rn.cells],_,T.hp⟩
 ·exact⟨by simp[Rn.cells],_,T.ha⟩
def aZ.name(A:aZ C H R as sl S)(n:Str)(w:Wo):aZ C (Z8 H R.nm (.dK (lW (dM S.nm n w)))) R as sl {S with nm:=dM S.nm n w}:=by
 obtain⟨kvs,e,L⟩:=A.lt;obtain⟨vs,el,_⟩:=A.wk.bl;have at':∀ {b:Addr} {o:HO},H b=some o->(∀ xs,o≠.dK xs)->Z8 H R.nm (.dK (lW (dM S.nm n w))) b=some o:=fun {b o} h d=>jT A.nm h (d _);have kt:aP H _:=fun b xs h=>at' h (by intro _ z;cases z);exact {A with
  ins:=at' A.ins (by intro _ z;cases z)
  slp:=A.slp.kt kt
  wk:=A.wk.keep (fun o h=>by rw[A.wk.ins] at h;cases h;exact at' A.wk.ins (by intro _ z;cases z)) (fun o h=>by rw[el] at h;cases h;exact at' el (by intro _ z;cases z)) (fun o h=>by rw[A.wk.nu] at h;cases h;exact at' A.wk.nu (by intro _ z;cases z)) kt
  tk:=A.tk.keep (fun o h=>by rw[A.tk.ins] at h;cases h;exact at' A.tk.ins (by intro _ z;cases z)) (fun o h=>by rw[aG A.n1.symm];exact h) (fun o h=>by rw[aG A.n2.symm];exact h)
  nm:=aA
  lt:=⟨kvs,by rw[aG A.n3.symm];exact e,L.keep fun a ha o h=>by obtain⟨xs,ex⟩:=L.ex a ha;rw[ex] at h;cases h;exact at' ex (by intro _ z;cases z)⟩}
def aZ.Cf(A:aZ C H R as sl S){kvs:List (Key×V)}{k:Str}{l:Addr}(e:H R.lt=some (.dK kvs))(hk:cC kvs (.inr k)=some (.ref l))(r:List Wo):aZ C (Z8 H l (.lst (r.map wv))) R as sl {S with lt:=eZ S.lt k r}/\l∈as:=by
 obtain⟨ad6,e',L⟩:=A.lt;rw[e] at e';cases e';obtain⟨vs,el,_⟩:=A.wk.bl;obtain⟨ws,hl,hla⟩:∃ ws:List Wo,H l=some (.lst (ws.map wv))/\l∈as:=by
  rcases L.look k with⟨x,_⟩|⟨c,ws,x,_,y,z⟩
  ·rw[x] at hk;cases hk
  ·rw[x] at hk;cases hk;exact⟨ws,z,y⟩
 have at':∀ {b:Addr} {o:HO},H b=some o->(∀ xs,o≠.lst xs)->Z8 H l (.lst (r.map wv)) b=some o:=fun {b o} h d=>jT hl h (d _);have kt:aP H _:=fun b xs h=>at' h (by intro _ z;cases z);have nb:=A.ab l hla;refine⟨{A with
  ins:=at' A.ins (by intro _ z;cases z)
  slp:=A.slp.kt kt
  wk:=A.wk.keep (fun o h=>by rw[A.wk.ins] at h;cases h;exact at' A.wk.ins (by intro _ z;cases z)) (fun o h=>by rw[aG nb.1.symm];exact h) (fun o h=>by rw[aG nb.2.symm];exact h) kt
  tk:=A.tk.keep (fun o h=>by rw[A.tk.ins] at h;cases h;exact at' A.tk.ins (by intro _ z;cases z)) (fun o h=>by rw[A.tk.hp] at h;cases h;exact at' A.tk.hp (by intro _ z;cases z)) (fun o h=>by rw[A.tk.ha] at h;cases h;exact at' A.tk.ha (by intro _ z;cases z))
  nm:=at' A.nm (by intro _ z;cases z)
  lt:=⟨kvs,at' e (by intro _ z;cases z),L.set r hk A.nas⟩},hla⟩
def aZ.RT(A:aZ C H R as sl S){kvs:List (Key×V)}{k:Str}{l:Addr}{ws:List Wo}(e:H R.lt=some (.dK kvs))(hk:cC kvs (.inr k)=none)(hl:H l=some (.lst (ws.map wv)))(n1:l∉R.cells)(n2:l∉as):aZ C (Z8 H R.lt (.dK (eL kvs (.inr k) (.ref l)))) R (as++[l]) sl {S with lt:=S.lt++[(k,ws)]}:=by
 obtain⟨ad6,e',L⟩:=A.lt;rw[e] at e';cases e';obtain⟨vs,el,_⟩:=A.wk.bl;have at':∀ {b:Addr} {o:HO},H b=some o->(∀ xs,o≠.dK xs)->Z8 H R.lt (.dK (eL kvs (.inr k) (.ref l))) b=some o:=fun {b o} h d=>jT e h (d _);have kt:aP H _:=fun b xs h=>at' h (by intro _ z;cases z);exact {A with
  ins:=at' A.ins (by intro _ z;cases z)
  slp:=A.slp.kt kt
  wk:=A.wk.keep (fun o h=>by rw[A.wk.ins] at h;cases h;exact at' A.wk.ins (by intro _ z;cases z)) (fun o h=>by rw[el] at h;cases h;exact at' el (by intro _ z;cases z)) (fun o h=>by rw[A.wk.nu] at h;cases h;exact at' A.wk.nu (by intro _ z;cases z)) kt
  tk:=A.tk.keep (fun o h=>by rw[A.tk.ins] at h;cases h;exact at' A.tk.ins (by intro _ z;cases z)) (fun o h=>by rw[aG A.n4.symm];exact h) (fun o h=>by rw[aG A.n5.symm];exact h)
  nm:=by rw[aG A.n3];exact A.nm
  lt:=⟨_,aA,by
   rw[Bt _ hk];exact(L.keep fun a ha o h=>by obtain⟨xs,ex⟩:=L.ex a ha;rw[ex] at h;cases h;exact jT e ex (by intro z;cases z)).snoc (jT e hl (by intro z;cases z))⟩
  nas:=List.nodup_append.mpr ⟨A.nas,by simp,fun a ha b hb=>by rw[show b=l by simpa using hb];exact fun z=>n2 (by rw[<- z];exact ha)⟩
  ab:=fun a ha=>by
   rcases List.mem_append.mp ha with ha|ha
   ·exact A.ab a ha
   ·rw[show a=l by simpa using ha];exact⟨fun z=>n1 (by simp[Rn.cells,z]),fun z=>n1 (by simp[Rn.cells,z])⟩}
def aZ.other(A:aZ C H R as sl S){c:Addr}{us vs:List V}(hc:H c=some (.lst us))(n1:c∉R.cells)(n2:c∉as):aZ C (Z8 H c (.lst vs)) R as sl S :=
 A.keep (fun b o h m=>by
  rw[aG (fun z=>by
   rcases m with m|m|m
   ·rw[z] at m;rw[m,A.wk.ins] at hc;cases hc
   ·exact n1 (by rw[<- z];exact m)
   ·exact n2 (by rw[<- z];exact m))]
  exact h) (aP.Hj hc (by intro _ z;cases z))
end
def put2{H:Hp}{x p:Addr}{o o' u:HO}(hx:H x=some u)(hp:H p=none):Z8 (Z8 H p o) x o' x=some o'/\Z8 (Z8 H p o) x o' p=some o/\Kp [x] H (Z8 (Z8 H p o) x o')/\x≠p:=by
 have n:x≠p:=aL hx hp;exact⟨aA,by rw[aG n.symm];exact aA,(Kp.new hp).trans (Kp.set (by simp)),n⟩
def cQ{H:Hp}{a p:Addr}{o:HO}(h:Z8 H a o p=none):H p=none:=by
 by_cases e:p=a
 ·subst e;rw[aA] at h;cases h
 ·rwa [aG e] at h
def Told(C:Cl)(R:Rn)(as as':List Addr)(H:Hp)(Q:VK)(z:Pu×Cmds):Prop:=∀(sl:V) (c:Addr) (us:List V) (H':Hp),aZ C H' R as' sl z.1->H c=none->H' c=some (.lst us)->hZ H' us z.2->Fw R as as' H H'->Q (.ref c) H'
def PX(C:Cl):Sp:=fun vs H Q _=>∃(R:Rn) (as:List Addr) (sl:V) (S:Pu) (v:V) (s:Say),vs=[.ref R.x,v]/\aZ C H R as sl S/\S.pl.Ok/\dB H v s/\s.sok/\Q (wv (S.worth s)) H
def WD(C:Cl):Sp:=fun vs H Q _=>∃(R:Rn) (as:List Addr) (sl:V) (S:Pu) (n:Str),vs=[.ref R.x,.str n]/\aZ C H R as sl S/\S.made < 1000000/\S.pend.length < 1000000/\S.nm.length<=1000000/\∀ H',aZ C H' R as sl (S.Cn n)->Fw R as as H H'->Q (.int S.made) H'
def WA(C:Cl):Sp:=fun vs H Q _=>∃(R:Rn) (as:List Addr) (sl:V) (S:Pu) (w:Wo),vs=[.ref R.x,wv w]/\aZ C H R as sl S/\Told C R as as H Q (S.ends w)
def WI(C:Cl):Sp:=fun vs H Q _=>∃(R:Rn) (as:List Addr) (sl:V) (S:Pu),vs=[.ref R.x]/\aZ C H R as sl S/\Told C R as as H Q S.Dz
def dN(C:Cl)(wt:Bool)(g:Stm->Prop):Sp:=fun vs H Q _=>∃(R:Rn) (as:List Addr) (sl:V) (S:Pu) (a:V) (m:Stm) (N:Nat),vs=[.ref R.x,a]/\aZ C H R as sl S/\S.sl=.non/\dH H a m/\g m/\Fit wt S N/\m.gd wt/\N<=900000/\Told C R as as H Q (cU S m)
def SM(C:Cl)(wt:Bool):Sp:=fun vs H Q _=>∃(R:Rn) (as:List Addr) (sl:V) (S:Pu) (a:V) (m:Stm) (N:Nat),vs=[.ref R.x,a]/\aZ C H R as sl S/\dH H a m/\m.isB=true/\Fit wt S N/\m.gd wt/\cM S.stk=some m/\∀ H',aZ C H' R as sl (AS S m)->Fw R as as H H'->Q .non H'
def WE(C:Cl)(wt:Bool):Sp:=fun vs H Q _=>∃(R:Rn) (as:List Addr) (sl:V) (S:Pu) (a:V) (m:Stm) (N:Nat),vs=[.ref R.x,a]/\aZ C H R as sl S/\S.sl=.non/\dH H a m/\Fit wt S N/\m.gd wt/\cM S.stk=some m/\N<=900000/\Told C R as as H Q (one S m)
def Yu(C:Cl)(wt:Bool):Sp:=fun vs H Q _=>∃(R:Rn) (as:List Addr) (sl:V) (S:Pu) (N:Nat),vs=[.ref R.x]/\aZ C H R as sl S/\Fit wt {S with sl:=.non} N/\N<=800000/\Told C R as as H Q (iI 300 {S with sl:=.non})
def PU(C:Cl):Sp:=fun vs H Q _=>∃(R:Rn) (as:List Addr) (sl:V) (S:Pu),vs=[.ref R.x]/\aZ C H R as sl S/\Q sl H
def SN(C:Cl):Sp:=fun vs H Q _=>∃(R:Rn) (as:List Addr) (sl:V) (S:Pu),vs=[.ref R.x]/\aZ C H R as sl S/\S.pend.length<=1000000/\∀ l,H l=none->Q (.ref l) (Z8 H l (.lst (S.pend.map V.int)))
def TF{wt:Bool}{S:Pu}{N:Nat}(F:Fit wt S N){s:Say}(h:s.sok):dQ (S.worth s):=TB F.pl h.1
def RS{y:Str}{a:Sp}{r:List (Str×Sp)}:List.lookup y ((y,a)::r)=some a:=by simp only[List.lookup,beq_self_eq_true]
def nJ{a b:String}{s:Sp}{r:List (Str×Sp)}(h:a≠b):List.lookup (Str.ofString a) ((Str.ofString b,s)::r)=List.lookup (Str.ofString a) r:=by
 have:((Str.ofString a:Str)==Str.ofString b)=false:=beq_eq_false_iff_ne.mpr fun z=>h (by rwa [kE] at z);simp only[List.lookup,this]
def RQ{y k:Str}{a sp:Sp}{r:List (Str×Sp)}(h:List.lookup y ((k,a)::r)=some sp):(y=k/\sp=a)\/List.lookup y r=some sp:=by
 simp only[List.lookup] at h;split at h
 ·next z=>cases h;exact .inl ⟨eq_of_beq z,rfl⟩
 ·exact .inr h
def fS{st:Stk}{m:Stm}(h:cM st=some m):∃ k b n r,st=(k,b,n)::r/\b[n]?=some m:=by
 match st,h with
 | (k,b,n)::r,h=>exact⟨k,b,n,r,rfl,h⟩
def Ag(S:Pu)(m:Stm):(cU S m).1.stk=S.stk:=by
 cases m<;>simp only[cU,Pu.Cn,Pu.ends]
 ·split
  ·split<;>rfl
  ·rfl
 ·split<;>rfl
 ·split<;>rfl
def Fl{wt:Bool}:∀ st,B0 wt st->B0 wt (c6 st)
 | [],h=>h.ok.elim
 | [x],h=>by simp only[c6];exact h
 | (k,b,n)::(k2,b2,n2)::r,h=>by
  rw[c6];split
  ·have o:=h.ok.2 (k2,b2,n2) (by simp);exact Fl ((k2,b2,Bc b2 n2)::r) ⟨⟨Gz o,fun x hx=>h.ok.2 x (List.mem_cons_of_mem _ hx)⟩,fun x hx=>by
    rcases List.mem_cons.mp hx with rfl|hx
    ·exact h.gd (k2,b2,n2) (by simp)
    ·exact h.gd x (by simp[hx]),⟨h.dp.2.1,h.dp.2.2⟩⟩
  ·exact h
termination_by st=>st.length
def Fit.cJ{wt:Bool}{S:Pu}{N:Nat}(F:Fit wt S N)(h:S.sl=.non):Fit wt S.cJ N :=
 {F with sk:=Fl _ F.sk,sl:=⟨fun k e=>(by rw[show S.cJ.sl=S.sl from rfl,h] at e;cases e),fun k e=>(by rw[show S.cJ.sl=S.sl from rfl,h] at e;cases e)⟩}
def Fit.more{wt:Bool}{S:Pu}{N M:Nat}(F:Fit wt S N)(h:N<=M):Fit wt S M :=
 {F with nm:=Nat.le_trans F.nm h,md:=Nat.le_trans F.md h,pd:=Nat.le_trans F.pd h,an:=Nat.le_trans F.an h,lt:=Nat.le_trans F.lt h,lw:=fun k ws e=>⟨Nat.le_trans (F.lw k ws e).1 h,(F.lw k ws e).2⟩}
def B0.pass{wt:Bool}{st:Stk}{m:Stm}(G:B0 wt st)(h:cM st=some m):B0 wt (iL st):=by
 obtain⟨k,b,n,r,rfl,hm⟩:=fS h;have hn:=(List.getElem?_eq_some_iff.mp hm).1;exact⟨⟨hn,G.ok.2⟩,fun x hx=>by
  rcases List.mem_cons.mp hx with rfl|hx
  ·exact G.gd (k,b,n) (by simp)
  ·exact G.gd x (by simp[hx]),G.dp⟩
def B0.enter{wt:Bool}{st:Stk}{m:Stm}{c:Nat}{bb:List Stm}(G:B0 wt st)(h:cM st=some m)(hg:yB wt bb)(hd:xX bb+1<=m.dp):B0 wt ((c,bb,0)::st):=by
 obtain⟨k,b,n,r,rfl,hm⟩:=fS h;have hn:=(List.getElem?_eq_some_iff.mp hm).1;have h2:=NC hm;have h3:=G.dp.1;refine⟨⟨Nat.zero_le _,fun x hx=>?_⟩,fun x hx=>?_,?_,G.dp⟩
 ·rcases List.mem_cons.mp hx with rfl|hx
  ·exact hn
  ·exact G.ok.2 x hx
 ·rcases List.mem_cons.mp hx with rfl|hx
  ·exact hg
  ·exact G.gd x hx
 ·simp only[List.length_cons];omega
def Fit.stm{wt:Bool}{S:Pu}{N:Nat}(F:Fit wt S N){m:Stm}(h:cM S.stk=some m):m.gd wt:=by
 obtain⟨k,b,n,r,e,hm⟩:=fS h;exact Oj (F.sk.gd (k,b,n) (by rw[e];simp)) hm
def O3{S:Pu}(h:S.pl.Ok)(n:Str){w:Wo}(hw:dQ w):({S with nm:=dM S.nm n w}:Pu).pl.Ok :=
 ⟨fun x=>by show dQ (kN (dM S.nm n w) x);rw[LK];split;exact hw;exact h.nm x,h.ar,h.an⟩
def vH:∀(l:List (Str×List Wo)) (k:Str) (r:List Wo) (j:Str) (ws:List Wo),cO (eZ l k r) j=some ws->(j=k/\ws=r)\/cO l j=some ws
 | [],_,_,_,_,h=>by simp[eZ,cO] at h
 | p::l,k,r,j,ws,h=>by
  by_cases e:p.1=k
  ·rw[eZ,if_pos e,cO] at h;by_cases e2:p.1=j
   ·rw[if_pos e2] at h;cases h;exact .inl ⟨by rw[<- e2,e],rfl⟩
   ·rw[if_neg e2] at h;exact .inr (by rw[cO,if_neg e2];exact h)
  ·rw[eZ,if_neg e,cO] at h;by_cases e2:p.1=j
   ·rw[if_pos e2] at h;exact .inr (by rw[cO,if_pos e2];exact h)
   ·rw[if_neg e2] at h;rcases vH l k r j ws h with x|x
    ·exact .inl x
    ·exact .inr (by rw[cO,if_neg e2];exact x)
def BL:∀(l:List (Str×List Wo)) (k:Str) (r:List Wo),(eZ l k r).length=l.length
 | [],_,_=>rfl
 | p::l,k,r=>by
  rw[eZ];split
  ·rfl
  ·simp[BL l k r]
def D5{ans:List (Int×Wo)}{ws:List Wo}(h:∀ w∈ws,dQ w):dQ (cE ans ws):=by
 unfold cE;cases e:ans.find? fun p=>decide (some p.1∈ws) with
 | none=>exact lO
 | some p =>
  have:=List.find?_some e;exact h _ (by simpa using this)
def CU{α:Type}{p:α->Bool}{l:List α}:(l.filter p).length<=l.length:=List.length_filter_le p l
def Fit.cU{wt:Bool}{S:Pu}{N:Nat}(F:Fit wt S N){m:Stm}(h:cM S.stk=some m)(hs:S.sl=.non)(hN:N<=900000):Fit wt (cU S m).1 (N+1):=by
 have g:=F.stm h;have F1:=F.more (Nat.le_succ N);have hsl:(∀ k,S.sl=.aaB k->∃ x,cM S.stk=some (.aaB x k))/\∀ ts,S.sl=.wait ts->∃ x ss,cM S.stk=some (.wait x ss):=F.sl;have put:∀(n:Str) {w:Wo},dQ w->Fit wt {S with nm:=dM S.nm n w} (N+1):=fun n w hw =>
  {F1 with nm:=by (have:=GV S.nm n w;have:=F.nm;show(dM S.nm n w).length<=N+1;omega),pl:=O3 F.pl n hw}
 have Cn:∀ n,Fit wt (S.Cn n) (N+1):=fun n =>
  have hw:dQ (some (S.made:Int)):=eO (by omega) (by have:=F.md;omega)
  {F1 with
   nm:=(put n hw).nm
   pl:=(put n hw).pl
   md:=(by have:=F.md;show S.made+1<=N+1;omega)
   pd:=(by have:=F.pd;show(S.pend++[(S.made:Int)]).length<=N+1;rw[List.length_append];simp;exact this)}
 cases m with
 | set x s=>exact put x (TF F g)
 | order x y s=>exact Cn x
 | child x y s=>exact Cn x
 | aaE x s=>exact Cn x
 | send s k r=>exact F1
 | drop s =>
  simp only[Own.cU];split
  ·split
   ·exact {F1 with pd:=Nat.le_trans CU (Nat.le_succ_of_le F.pd)}
   ·exact F1
  ·exact F1
 | wait x ss =>
  simp only[Own.cU];split
  ·exact {F1 with sl:=⟨fun k e=>(by cases e),fun ts e=>⟨x,ss,h⟩⟩}
  ·exact put x (D5 fun w hw=>by
    obtain⟨s,hs',rfl⟩:=List.mem_map.mp hw;exact TF F (g.2.2 s hs'))
 | aaB x k =>
  simp only[Own.cU];split
  ·next w r e =>
   obtain⟨ws,el,rfl⟩:∃ ws,cO S.lt k=some ws/\ws=w::r:=by
    cases el:cO S.lt k with
    | none=>rw[el] at e;cases e
    | some ws=>rw[el] at e;exact⟨ws,rfl,e⟩
   have hl:=F.lw k _ el;exact {put x (hl.2 w (by simp)) with
    lt:=(by have:=F.lt;show(eZ S.lt k r).length<=N+1;rw[BL];omega)
    lw:=fun j vs hj=>by
     rcases vH S.lt k r j vs hj with⟨_,rfl⟩|z
     ·exact⟨by have:=hl.1;simp only[List.length_cons] at this;omega,fun w hw=>hl.2 w (List.mem_cons_of_mem _ hw)⟩
     ·exact F1.lw j vs z}
  ·exact {F1 with sl:=⟨fun k' e=>(by cases e;exact⟨x,h⟩),fun ts e=>(by cases e)⟩}
 | fin s=>exact {F1 with pd:=Nat.zero_le _,sl:=⟨fun k e=>(by cases e),fun k e=>(by cases e)⟩}
 | whl s b=>exact F1
 | iff s b o=>exact F1
def D9{s:Slp}(h:s.isN=true):s=.non:=by cases s<;>first|rfl|cases h
def Fit.one{wt:Bool}{S:Pu}{N:Nat}(F:Fit wt S N){m:Stm}(h:cM S.stk=some m)(hs:S.sl=.non)(hN:N<=900000):Fit wt (one S m).1 (N+1):=by
 have g:=F.stm h;have F1:=F.more (Nat.le_succ N);have aeX:∀ {st:Stk},Fit wt {S with stk:=st} (N+1)->Fit wt {S with stk:=st} (N+1):=fun z=>z;have pass:∀ {S':Pu},Fit wt S' (N+1)->S'.sl=.non->S'.stk=S.stk->Fit wt S'.pass (N+1):=fun {S'} z a b =>
  {z with sk:=(by have:=z.sk;rw[b] at this;show B0 wt (iL S'.stk);rw[b];exact this.pass h),sl:=⟨fun k e=>(by rw[show S'.pass.sl=S'.sl from rfl,a] at e;cases e),fun k e=>(by rw[show S'.pass.sl=S'.sl from rfl,a] at e;cases e)⟩}
 have enter:∀(c:Nat) (bb:List Stm),yB wt bb->xX bb+1<=m.dp->Fit wt (S.enter c bb) (N+1):=fun c bb hg hd =>
  {F1 with sk:=F.sk.enter h hg hd,sl:=⟨fun k e=>(by rw[show(S.enter c bb).sl=S.sl from rfl,hs] at e;cases e),fun k e=>(by rw[show(S.enter c bb).sl=S.sl from rfl,hs] at e;cases e)⟩}
 by_cases hB:m.isB=true
 ·simp only[Own.one,if_pos hB];cases m with
  | whl s b =>
   simp only[AS];split
   ·exact pass F1 hs rfl
   ·exact enter 0 b g.2 (by simp[Stm.dp])
  | iff s b o =>
   simp only[AS];split
   ·exact enter 1 o g.2.2 (by simp[Stm.dp];omega)
   ·exact enter 0 b g.2.1 (by simp[Stm.dp];omega)
  | _=>cases hB
 ·simp only[Own.one,if_neg hB];have D:=F.cU h hs hN;split
  ·next z=>exact pass D (D9 z) (Ag S m)
  ·exact D
def We{S:Pu}{m:Stm}(h:m.isB=false):one S m=(if (cU S m).1.sl.isN=true then (cU S m).1.pass else (cU S m).1,(cU S m).2):=by simp[one,h]
def TN{S:Pu}{m:Stm}(h:m.isB=true):one S m=(AS S m,[]):=by simp[one,h]
def mJ{s0 s1 s2 s3 s4 s5 s6 s7 s8:Sp}:List.lookup (Str.ofString "set") [((Str.ofString "set":Str),s0),((Str.ofString "order":Str),s1),((Str.ofString "timer":Str),s2),((Str.ofString "child":Str),s3),((Str.ofString "send":Str),s4),((Str.ofString "drop":Str),s5),((Str.ofString "wait":Str),s6),((Str.ofString "hear":Str),s7),((Str.ofString "end":Str),s8)]=some s0:=by rw[RS]
def gE{s0 s1 s2 s3 s4 s5 s6 s7 s8:Sp}:List.lookup (Str.ofString "order") [((Str.ofString "set":Str),s0),((Str.ofString "order":Str),s1),((Str.ofString "timer":Str),s2),((Str.ofString "child":Str),s3),((Str.ofString "send":Str),s4),((Str.ofString "drop":Str),s5),((Str.ofString "wait":Str),s6),((Str.ofString "hear":Str),s7),((Str.ofString "end":Str),s8)]=some s1:=by rw[nJ (by decide),RS]
def gF{s0 s1 s2 s3 s4 s5 s6 s7 s8:Sp}:List.lookup (Str.ofString "timer") [((Str.ofString "set":Str),s0),((Str.ofString "order":Str),s1),((Str.ofString "timer":Str),s2),((Str.ofString "child":Str),s3),((Str.ofString "send":Str),s4),((Str.ofString "drop":Str),s5),((Str.ofString "wait":Str),s6),((Str.ofString "hear":Str),s7),((Str.ofString "end":Str),s8)]=some s2:=by rw[nJ (by decide),nJ (by decide),RS]
def gD{s0 s1 s2 s3 s4 s5 s6 s7 s8:Sp}:List.lookup (Str.ofString "child") [((Str.ofString "set":Str),s0),((Str.ofString "order":Str),s1),((Str.ofString "timer":Str),s2),((Str.ofString "child":Str),s3),((Str.ofString "send":Str),s4),((Str.ofString "drop":Str),s5),((Str.ofString "wait":Str),s6),((Str.ofString "hear":Str),s7),((Str.ofString "end":Str),s8)]=some s3:=by rw[nJ (by decide),nJ (by decide),nJ (by decide),RS]
def i6{s0 s1 s2 s3 s4 s5 s6 s7 s8:Sp}:List.lookup (Str.ofString "send") [((Str.ofString "set":Str),s0),((Str.ofString "order":Str),s1),((Str.ofString "timer":Str),s2),((Str.ofString "child":Str),s3),((Str.ofString "send":Str),s4),((Str.ofString "drop":Str),s5),((Str.ofString "wait":Str),s6),((Str.ofString "hear":Str),s7),((Str.ofString "end":Str),s8)]=some s4:=by rw[nJ (by decide),nJ (by decide),nJ (by decide),nJ (by decide),RS]
def i0{s0 s1 s2 s3 s4 s5 s6 s7 s8:Sp}:List.lookup (Str.ofString "drop") [((Str.ofString "set":Str),s0),((Str.ofString "order":Str),s1),((Str.ofString "timer":Str),s2),((Str.ofString "child":Str),s3),((Str.ofString "send":Str),s4),((Str.ofString "drop":Str),s5),((Str.ofString "wait":Str),s6),((Str.ofString "hear":Str),s7),((Str.ofString "end":Str),s8)]=some s5:=by rw[nJ (by decide),nJ (by decide),nJ (by decide),nJ (by decide),nJ (by decide),RS]
def i7{s0 s1 s2 s3 s4 s5 s6 s7 s8:Sp}:List.lookup (Str.ofString "wait") [((Str.ofString "set":Str),s0),((Str.ofString "order":Str),s1),((Str.ofString "timer":Str),s2),((Str.ofString "child":Str),s3),((Str.ofString "send":Str),s4),((Str.ofString "drop":Str),s5),((Str.ofString "wait":Str),s6),((Str.ofString "hear":Str),s7),((Str.ofString "end":Str),s8)]=some s6:=by rw[nJ (by decide),nJ (by decide),nJ (by decide),nJ (by decide),nJ (by decide),nJ (by decide),RS]
def i5{s0 s1 s2 s3 s4 s5 s6 s7 s8:Sp}:List.lookup (Str.ofString "hear") [((Str.ofString "set":Str),s0),((Str.ofString "order":Str),s1),((Str.ofString "timer":Str),s2),((Str.ofString "child":Str),s3),((Str.ofString "send":Str),s4),((Str.ofString "drop":Str),s5),((Str.ofString "wait":Str),s6),((Str.ofString "hear":Str),s7),((Str.ofString "end":Str),s8)]=some s7:=by rw[nJ (by decide),nJ (by decide),nJ (by decide),nJ (by decide),nJ (by decide),nJ (by decide),nJ (by decide),RS]
def mI{s0 s1 s2 s3 s4 s5 s6 s7 s8:Sp}:List.lookup (Str.ofString "end") [((Str.ofString "set":Str),s0),((Str.ofString "order":Str),s1),((Str.ofString "timer":Str),s2),((Str.ofString "child":Str),s3),((Str.ofString "send":Str),s4),((Str.ofString "drop":Str),s5),((Str.ofString "wait":Str),s6),((Str.ofString "hear":Str),s7),((Str.ofString "end":Str),s8)]=some s8:=by rw[nJ (by decide),nJ (by decide),nJ (by decide),nJ (by decide),nJ (by decide),nJ (by decide),nJ (by decide),nJ (by decide),RS]
def deeds9{Z:Str->Sp->Prop}{y:Str}{sp s0 s1 s2 s3 s4 s5 s6 s7 s8:Sp}(h:List.lookup y [((Str.ofString "set":Str),s0),((Str.ofString "order":Str),s1),((Str.ofString "timer":Str),s2),((Str.ofString "child":Str),s3),((Str.ofString "send":Str),s4),((Str.ofString "drop":Str),s5),((Str.ofString "wait":Str),s6),((Str.ofString "hear":Str),s7),((Str.ofString "end":Str),s8)]=some sp)(z0:Z "set" s0)(z1:Z "order" s1)(z2:Z "timer" s2)(z3:Z "child" s3)(z4:Z "send" s4)(z5:Z "drop" s5)(z6:Z "wait" s6)(z7:Z "hear" s7)(z8:Z "end" s8):Z y sp:=by
 rcases RQ h with⟨rfl,rfl⟩|h
 ·exact z0
 rcases RQ h with⟨rfl,rfl⟩|h
 ·exact z1
 rcases RQ h with⟨rfl,rfl⟩|h
 ·exact z2
 rcases RQ h with⟨rfl,rfl⟩|h
 ·exact z3
 rcases RQ h with⟨rfl,rfl⟩|h
 ·exact z4
 rcases RQ h with⟨rfl,rfl⟩|h
 ·exact z5
 rcases RQ h with⟨rfl,rfl⟩|h
 ·exact z6
 rcases RQ h with⟨rfl,rfl⟩|h
 ·exact z7
 rcases RQ h with⟨rfl,rfl⟩|h
 ·exact z8
 cases h
def dS{S:Pu}(h:cM S.cJ.stk=none)(n:Nat):iI n S=S.cJ.ends none:=by
 cases n<;>simp only[iI,h]
def jF{S:Pu}{m:Stm}(h:cM S.cJ.stk=some m):iI 0 S=S.cJ.Dz:=by simp only[iI,h]
def pU{S:Pu}{m:Stm}(h:cM S.cJ.stk=some m)(z:(one S.cJ m).1.sl.isN=true)(n:Nat):iI (n+1) S=((iI n (one S.cJ m).1).1,(one S.cJ m).2++(iI n (one S.cJ m).1).2):=by simp only[iI,h,z,if_true]
def jE{S:Pu}{m:Stm}(h:cM S.cJ.stk=some m)(z:(one S.cJ m).1.sl.isN=false)(n:Nat):iI (n+1) S=one S.cJ m:=by simp only[iI,h,z,if_false,Bool.false_eq_true]
def Fs(S:Pu)(m:Stm):(cU S m).2.length<=1:=by
 cases m<;>simp only[cU,Pu.ends,List.length_cons,List.length_nil,Nat.zero_le,Nat.le_refl,Nat.zero_add]
 ·split
  ·split<;>simp
  ·simp
 ·split<;>simp
 ·split<;>simp
def Sd(S:Pu)(m:Stm):(one S m).2.length<=1:=by
 unfold one;split
 ·simp
 ·exact Fs S m
inductive Hap where
 | beg (m:Int) (w:Wo)|don (m t:Int) (w:Wo)|ltr (m:Int) (k:Str) (w:Wo)
def Hap.ini:Hap->List V
 | .beg m _=>[.str "begin",.int m]
 | .don m t _=>[.str "done",.int m,.int t]
 | .ltr m k _=>[.str "letter",.int m,.str k]
def Hap.w:Hap->Wo
 | .beg _ w | .don _ _ w | .ltr _ _ w=>w
def Hap.vs(h:Hap):List V:=h.ini++[wv h.w]
def Hap.m:Hap->Int
 | .beg m _ | .don m _ _ | .ltr m _ _=>m
def mY(H:Hp)(v:V)(h:Hap):Prop:=∃ a,v=.ref a/\H a=some (.tup h.vs)
def mY.kp{S:List Addr}{H H':Hp}{v:V}{h:Hap}(x:mY H v h)(k:Kp [] H H'):mY H' v h:=by
 obtain⟨a,e,f⟩:=x;exact⟨a,e,k.at f⟩
def Pu.over(S:Pu)(h:Hap):Bool:=match S.sl with
 | .new=>(match h with
  | .beg _ _=>false
  | _=>true)
 | .ended _=>true
 | .worn=>true
 | _=>(match h with
  | .beg _ _=>true
  | .don _ i _=>!decide (i∈S.pend)
  | .ltr _ _ _=>false)
def gN(l:List (Str×List Wo))(k:Str)(w:Wo):List (Str×List Wo):=match cO l k with
 | some ws=>eZ l k (ws++[w])
 | none=>l++[(k,[w])]
def Pu.at'(S:Pu)(m:Int):Pu:={S with nw:=later S.nw m}
def Pu.done(S:Pu)(i:Int)(w:Wo):Pu:={S with pend:=S.pend.filter fun j=>decide (j≠i),ans:=S.ans++[(i,w)]}
def Pu.gR(S:Pu)(i:Int)(w:Wo):Pu×Cmds:=match S.sl with
 | .wait ts=>if i∈ts then (S.done i w).wake (some i) else (S.done i w,[])
 | _=>(S.done i w,[])
def Pu.iC(S:Pu)(k:Str)(w:Wo):Pu×Cmds:=match S.sl with
 | .aaB k'=>if k'=k then S.wake w else ({S with lt:=gN S.lt k w},[])
 | _=>({S with lt:=gN S.lt k w},[])
def Pu.take(S:Pu)(h:Hap):Pu×Cmds:=if S.over h=true then (S,[]) else match h with
 | .beg m w=>iI 300 {S with nw:=later S.nw m,ar:=w,sl:=.non}
 | .don m i w=>(S.at' m).gR i w
 | .ltr m k w=>(S.at' m).iC k w
def dD(b:List Stm):Pu:=⟨[(0,b,0)],.new,none,0,[],0,[],[],[]⟩
def WG(C:Cl):Sp:=fun vs H Q _=>∃(R:Rn) (as:List Addr) (sl:V) (S:Pu) (v:V) (h:Hap),vs=[.ref R.x,v]/\aZ C H R as sl S/\S.sl.isN=false/\mY H v h/\∀ H',Kp [] H H'->Q (.bl (S.over h)) H'
def SV(C:Cl)(wt:Bool):Sp:=fun vs H Q _=>∃(R:Rn) (as:List Addr) (sl:V) (S:Pu) (w:Wo) (N:Nat),vs=[.ref R.x,wv w]/\aZ C H R as sl S/\Fit wt S N/\N<=700000/\dQ w/\((∃ k,S.sl=.aaB k)\/∃ ts,S.sl=.wait ts)/\Told C R as as H Q (S.wake w)
def SR(C:Cl)(wt:Bool):Sp:=fun vs H Q _=>∃(R:Rn) (as:List Addr) (sl:V) (S:Pu) (i:Int) (w:Wo) (N:Nat),vs=[.ref R.x,.int i,wv w]/\aZ C H R as sl S/\Fit wt S N/\N<=600000/\dQ w/\i∈S.pend/\S.sl.isN=false/\Told C R as as H Q (S.gR i w)
def Te(C:Cl)(R:Rn)(as as':List Addr)(H:Hp)(Q:VK)(z:Pu×Cmds):Prop:=∀(sl:V) (c:Addr) (us:List V) (H':Hp),aZ C H' R as' sl z.1->H c=none->c∉as'->H' c=some (.lst us)->hZ H' us z.2->Fw R as as' H H'->Q (.ref c) H'
def WH(C:Cl)(wt:Bool):Sp:=fun vs H Q _=>∃(R:Rn) (as:List Addr) (sl:V) (S:Pu) (k:Str) (w:Wo) (N:Nat),vs=[.ref R.x,.str k,wv w]/\aZ C H R as sl S/\Fit wt S N/\N<=600000/\dQ w/\((∃ k,S.sl=.aaB k)\/∃ ts,S.sl=.wait ts)/\∀ as',Te C R as as' H Q (S.iC k w)
def SS(C:Cl)(wt:Bool):Sp:=fun vs H Q _=>∃(R:Rn) (as:List Addr) (sl:V) (S:Pu) (v:V) (h:Hap) (N:Nat),vs=[.ref R.x,v]/\aZ C H R as sl S/\Fit wt S N/\N<=500000/\S.sl.isN=false/\mY H v h/\((0<=h.m/\h.m<=1000000000000)/\dQ h.w)/\∀ as',Te C R as as' H Q (S.take h)
def Ko(C:Cl):Sp:=fun vs H Q _=>∃(x dx pg:Addr) (us:List V) (b:List Stm),vs=[.ref x,.ref pg]/\H x=some (.ins C.r dx [])/\H pg=some (.tup us)/\cH H us b /\
 ∀(R:Rn) (sl:V) (H':Hp),R.x=x->aZ C H' R [] sl (dD b)->Kp [x] H H'->(∀ a∈R.cells,a=x\/H a=none)->Q .non H'
def RL(i:Int)(ts:List Int):sW (.int i) (ts.map V.int)=decide (i∈ts):=by
 rw[Bool.eq_iff_iff];simp[sW,uZ]
def Ly(ts:List Int):(ts.map V.int).all dC=true:=by simp[dC]
def RH{K:q0B}{H:Hp}{a b:Addr}{z x y:Str}(n:Nat)(ha:H a=some (.tup [.str z,.str x]))(hb:H b=some (.tup [.str z,.str y])):yL K H (n+1) a b (decide (x=y)):=by
 have:=yL.tup (K:=K) (H:=H) (n:=n) (e:=fun j=>if j=0 then true else decide (x=y)) (fA.of ha) (fA.of hb) fun j u v e1 e2=>by
  rcases j with _|_|j
  ·simp only[List.getElem?_cons_zero,Option.some.injEq] at e1 e2;subst e1 e2;have:=yK.flat (K:=K) (H:=H) (n:=n) (x:=.str z) (y:=.str z) rfl rfl
   rwa [show uZ (.str z) (.str z)=true by simp[uZ]] at this
  ·simp only[List.getElem?_cons_succ,List.getElem?_cons_zero,Option.some.injEq] at e1 e2;subst e1 e2;have:=yK.flat (K:=K) (H:=H) (n:=n) (x:=.str x) (y:=.str y) rfl rfl
   rwa [JE] at this
  ·simp at e1
 rw[show((List.range (min [V.str z,V.str x].length [V.str z,V.str y].length)).all (fun j=>if j=0 then true else decide (x=y))&&[V.str z,V.str x].length==[V.str z,V.str y].length)=decide (x=y) by simp[List.range_succ]] at this;exact this
def Fit.at'{wt:Bool}{S:Pu}{N:Nat}(F:Fit wt S N){m:Int}(h:0<=m/\m<=1000000000000):Fit wt (S.at' m) N :=
 {F with pl:=⟨F.pl.nm,F.pl.ar,F.pl.an⟩,nw:=(by have:=F.nw;show 0<=later S.nw m/\later S.nw m<=1000000000000;unfold later;split<;>omega)}
def AR{i:Int}{w:Wo}:∀(l:List (Int×Wo)) (x:Wo),fH (l++[(i,w)]) x=fH l x\/fH (l++[(i,w)]) x=w
 | _,none=>.inl (by simp[fH])
 | [],some j=>by
  by_cases h:i=j
  ·exact .inr (by simp[fH,h])
  ·exact .inl (by simp[fH,h])
 | p::r,some j=>by
  by_cases h:p.1=j
  ·exact .inl (by simp[fH,h])
  ·rcases AR (i:=i) (w:=w) r (some j) with z|z
   ·exact .inl (by simp[fH,h,z])
   ·exact .inr (by simp[fH,h,z])
def Fit.done{wt:Bool}{S:Pu}{N:Nat}(F:Fit wt S N){i:Int}{w:Wo}(hw:dQ w):Fit wt (S.done i w) (N+1) :=
 {F.more (Nat.le_succ N) with
  pd:=Nat.le_trans CU (Nat.le_succ_of_le F.pd)
  an:=(by have:=F.an;show(S.ans++[(i,w)]).length<=N+1;simp;exact this)
  pl:=⟨F.pl.nm,F.pl.ar,fun x=>(by
   show dQ (fH (S.ans++[(i,w)]) x);rcases AR (i:=i) (w:=w) S.ans x with z|z
   ·rw[z];exact F.pl.an x
   ·rw[z];exact hw)⟩}
def AV{k:Str}{ws:List Wo}:∀(l:List (Str×List Wo)) (j:Str) (vs:List Wo),cO (l++[(k,ws)]) j=some vs->(j=k/\vs=ws)\/cO l j=some vs
 | [],j,vs,h=>by
  rw[List.nil_append,cO] at h;by_cases e:k=j
  ·rw[if_pos e] at h;cases h;exact .inl ⟨e.symm,rfl⟩
  ·rw[if_neg e] at h;cases h
 | p::r,j,vs,h=>by
  rw[List.cons_append,cO] at h;by_cases e:p.1=j
  ·rw[if_pos e] at h;exact .inr (by rw[cO,if_pos e];exact h)
  ·rw[if_neg e] at h;rcases AV r j vs h with z|z
   ·exact .inl z
   ·exact .inr (by rw[cO,if_neg e];exact z)
def Fit.gN{wt:Bool}{S:Pu}{N:Nat}(F:Fit wt S N){k:Str}{w:Wo}(hw:dQ w):Fit wt {S with lt:=gN S.lt k w} (N+1):=by
 have F1:=F.more (Nat.le_succ N);unfold Own.gN;cases e:cO S.lt k with
 | some ws =>
  have hl:=F.lw k ws e;exact {F1 with
   lt:=(by have:=F.lt;show(eZ S.lt k (ws++[w])).length<=N+1;rw[BL];omega)
   lw:=fun j vs h=>by
    rcases vH S.lt k _ j vs h with⟨_,rfl⟩|z
    ·exact⟨by have:=hl.1;simp;exact this,fun u hu=>by
      rcases List.mem_append.mp hu with hu|hu
      ·exact hl.2 u hu
      ·rw[show u=w by simpa using hu];exact hw⟩
    ·exact F1.lw j vs z}
 | none =>
  exact {F1 with
   lt:=(by have:=F.lt;show(S.lt++[(k,[w])]).length<=N+1;simp;exact this)
   lw:=fun j vs h=>by
    rcases AV S.lt j vs h with⟨_,rfl⟩|z
    ·exact⟨by simp,fun u hu=>by rw[show u=w by simpa using hu];exact hw⟩
    ·exact F1.lw j vs z}
def EM{k:Str}{a b:List Wo}:∀ {l:List (Str×List Wo)},cO l k=none->eZ (l++[(k,a)]) k b=l++[(k,b)]
 | [],_=>by simp[eZ]
 | p::r,h=>by
  rw[cO] at h;by_cases e:p.1=k
  ·rw[if_pos e] at h;cases h
  ·rw[if_neg e] at h;rw[List.cons_append,eZ,if_neg e,EM h];rfl
def Fit.wake{wt:Bool}{S:Pu}{N:Nat}(F:Fit wt S N){m:Stm}(h:cM S.stk=some m){w:Wo}(hw:dQ w)(n:Str):Fit wt {S with nm:=dM S.nm n w,stk:=iL S.stk,sl:=.non} (N+1) :=
 {F.more (Nat.le_succ N) with
  nm:=(by have:=GV S.nm n w;have:=F.nm;show(dM S.nm n w).length<=N+1;omega)
  pl:=(O3 F.pl n hw)
  sk:=F.sk.pass h
  sl:=⟨fun k e=>(by cases e),fun k e=>(by cases e)⟩}
def Zt{x:Addr}{H G:Hp}{p:Addr}{u:HO}(k:Kp [x] H G)(gx:G x=some u)(hp:G p=none):H p=none:=by
 cases z:H p with
 | none=>rfl
 | some o =>
  by_cases hz:p=x
  ·subst hz;rw[gx] at hp;cases hp
  ·rw[k.at1 z hz] at hp;cases hp
def RZ{C:Addr}{H1:Hp}{pg:Addr}{us:List V}{b:List Stm}{Q:Addr->Hp->Prop}{E:XK}(ep:H1 pg=some (.tup us))(hs:cH H1 us b)
    (q:∀ x wx lb ln H',Kp [] H1 H'->H1 x=none->H1 lb=none->H1 ln=none->kG C H' x wx lb ln [(0,b,0)]->Q x H') :
    ∀ x dx,H1 x=none->H1 dx=none->dx≠x->Hn C [.ref x,.ref pg] (Z8 (Z8 H1 dx (.own x)) x (.ins C dx [])) (fun v H2=>v=.non/\Q x H2) E:=fun x dx hx hdx ne=>by
  have K1:Kp [] H1 (Z8 (Z8 H1 dx (.own x)) x (.ins C dx [])):=(Kp.new hdx).trans (Kp.new (by rw[aG ne.symm];exact hx));exact⟨x,dx,pg,us,b,rfl,aA,K1.at ep,hs.kp (aP.nil K1),fun lb ln H' f1 f2 W K=>⟨rfl,q x dx lb ln H' (Kp.drop ((K1.mono (by simp)).trans K) hx) hx (cQ (cQ f1)) (cQ (cQ f2)) W⟩⟩
def Yh{C:Addr}{H1:Hp}{Q:Addr->Hp->Prop}{E:XK}
    (q:∀ x tx dp da H',Kp [] H1 H'->H1 x=none->H1 dp=none->H1 da=none->iX C H' x tx dp da 0 [] []->Q x H') :
    ∀ x dx,H1 x=none->H1 dx=none->dx≠x->Hm C [.ref x] (Z8 (Z8 H1 dx (.own x)) x (.ins C dx [])) (fun v H2=>v=.non/\Q x H2) E:=fun x dx hx hdx ne=>by
  have K1:Kp [] H1 (Z8 (Z8 H1 dx (.own x)) x (.ins C dx [])):=(Kp.new hdx).trans (Kp.new (by rw[aG ne.symm];exact hx));exact⟨x,dx,rfl,aA,fun dp da H' f1 f2 T K=>⟨rfl,q x dx dp da H' (Kp.drop ((K1.mono (by simp)).trans K) hx) hx (cQ (cQ f1)) (cQ (cQ f2)) T⟩⟩
def OM{C:Cl}{H1:Hp}{pg:Addr}{us:List V}{b:List Stm}{Q:Addr->Hp->Prop}{E:XK}(ep:H1 pg=some (.tup us))(hs:cH H1 us b)
    (q:∀(R:Rn) (sl:V) H',aZ C H' R [] sl (dD b)->Kp [] H1 H'->(∀ a∈R.cells,H1 a=none)->Q R.x H') :
    ∀ x dx,H1 x=none->H1 dx=none->dx≠x->Ko C [.ref x,.ref pg] (Z8 (Z8 H1 dx (.own x)) x (.ins C.r dx [])) (fun v H2=>v=.non/\Q x H2) E:=fun x dx hx hdx ne=>by
  have K1:Kp [] H1 (Z8 (Z8 H1 dx (.own x)) x (.ins C.r dx [])):=(Kp.new hdx).trans (Kp.new (by rw[aG ne.symm];exact hx));refine⟨x,dx,pg,us,b,rfl,aA,K1.at ep,hs.kp (aP.nil K1),fun R sl H' e1 A K M=>⟨rfl,?_⟩⟩;subst e1;exact q R sl H' A (Kp.drop ((K1.mono (by simp)).trans K) hx) fun a ha=>by
    rcases M a ha with rfl|z
    · exact hx
    · exact cQ (cQ z)
def MA(C:Addr):Sp:=fun vs H Q _=>∃(tk tx dp da l:Addr) (made:Nat) (pend:List Int) (ans:List (Int×Wo)) (ws:List Wo),vs=[.ref tk,.ref l]/\iX C H tk tx dp da made pend ans/\H l=some (.lst (ws.map wv))/\ws.length<=4/\ans.length<=1000000/\∀ H',Kp [] H H'->Q (wv (cE ans ws)) H'
def Ow(ans:List (Int×Wo))(w:Wo):Bool:=ans.any fun p=>decide (w=some p.1)
def bQ(ans:List (Int×Wo)):List Wo->List Int
 | []=>[]
 | none::r=>bQ ans r
 | some i::r=>if Ow ans (some i)=true then i::bQ ans r else bQ ans r
def Qx(ans:List (Int×Wo))(w:Wo):(cC (kH ans) (wk w)).isSome=Ow ans w:=by
 induction ans with
 | nil=>simp[kH,Hx,Ow]
 | cons p r ih =>
  have e:kH (p::r)=(Key.inl p.1,wv p.2)::kH r:=rfl;rw[e];by_cases h:w=some p.1
  ·subst h;rw[show wk (some p.1)=Key.inl p.1 from rfl,cR rfl];simp[Ow]
  ·rw[cG (fun z=>h (by cases w with
    | none=>cases z
    | some j=>cases z;rfl)),ih]
   simp[Ow,h]
def Ox(ans:List (Int×Wo)):Ow ans none=false:=by simp[Ow]
def uU(ans:List (Int×Wo)):∀(l r:List Wo),bQ ans (l++r)=bQ ans l++bQ ans r
 | [],r=>rfl
 | none::l,r=>by simp only[List.cons_append,bQ,uU ans l r]
 | some i::l,r=>by
  simp only[List.cons_append,bQ,uU ans l r];split<;>simp
def HZ{ans:List (Int×Wo)}{ws:List Wo}{i:Nat}{w:Wo}(e:ws[i]?=some w):(bQ ans (ws.take (i+1))).map V.int=if Ow ans w=true then (bQ ans (ws.take i)).map V.int++[wv w] else (bQ ans (ws.take i)).map V.int:=by
 rw[List.take_add_one,e];simp only[Option.toList_some,uU,List.map_append];cases w with
 | none=>rw[Ox];simp[bQ]
 | some j =>
  simp only[bQ];split<;>simp[wv]
def pS(ans:List (Int×Wo)):∀ ws:List Wo,(bQ ans ws).length<=ws.length
 | []=>Nat.le_refl _
 | none::r=>by have:=pS ans r;simp only[bQ,List.length_cons];omega
 | some i::r=>by
  have:=pS ans r;simp only[bQ,List.length_cons];split
  ·simp only[List.length_cons];omega
  ·omega
def lQ{ans:List (Int×Wo)}{i:Int}:∀ {ws:List Wo},i∈bQ ans ws↔Ow ans (some i)=true/\some i∈ws
 | []=>by simp[bQ]
 | none::r=>by simp[bQ,lQ (ws:=r)]
 | some j::r=>by
  have ih:=lQ (ans:=ans) (i:=i) (ws:=r);simp only[bQ];split
  ·next h =>
   simp only[List.mem_cons,ih,Option.some.injEq];constructor
   ·rintro(rfl|⟨a,b⟩)
    ·exact⟨h,.inl rfl⟩
    ·exact⟨a,.inr b⟩
   ·rintro⟨a,b|b⟩
    ·exact .inl b
    ·exact .inr ⟨a,b⟩
  ·next h =>
   rw[ih];simp only[List.mem_cons,Option.some.injEq];constructor
   ·rintro⟨a,b⟩;exact⟨a,.inr b⟩
   ·rintro⟨a,b|b⟩
    ·subst b;exact absurd a h
    ·exact⟨a,b⟩
def FW(i:Int):∀ ns:List Int,sW (.int i) (ns.map V.int)=decide (i∈ns)
 | []=>by simp[sW]
 | n::r=>by
  have ih:=FW i r;simp only[sW,List.map_cons,List.any_cons] at ih ⊢;rw[ih];by_cases h:n=i
  ·subst h;simp[uZ]
  ·have:uZ (V.int n) (V.int i)=false:=by simp[uZ,h]
   rw[this];simp[Ne.symm h]
def AA{α:Type}{p q:α->Bool}:∀ {l:List α},(∀ x∈l,p x=q x)->l.find? p=l.find? q
 | [],_=>rfl
 | x::l,h=>by
  simp only[List.find?,h x (by simp),AA fun y hy=>h y (List.mem_cons_of_mem _ hy)]
def AB(ans:List (Int×Wo))(ws:List Wo):cE ans ws=((ans.map (·.1)).filter fun i=>decide (i∈bQ ans ws)).head?:=by
 unfold cE;rw[List.head?_filter,List.find?_map]
 congr 1
 refine AA fun p hp=>?_;have:Ow ans (some p.1)=true:=by simp only[Ow,List.any_eq_true];exact⟨p,hp,by simp⟩
 simp only[Function.comp,lQ,this,true_and]
def Bm{val:Nat->Int}{j:Int}:∀ {n:Nat},j∈once val n↔∃ k,k < n/\val k=j
 | 0=>by simp[once]
 | n+1=>by
  have ih:=Bm (val:=val) (j:=j) (n:=n);have up:(∃ k,k < n+1/\val k=j)↔(∃ k,k < n/\val k=j)\/val n=j:=by
   constructor
   ·rintro⟨k,hk,e⟩;by_cases h:k=n
    ·subst h;exact .inr e
    ·exact .inl ⟨k,by omega,e⟩
   ·rintro(⟨k,hk,e⟩|e)
    ·exact⟨k,by omega,e⟩
    ·exact⟨n,by omega,e⟩
  rw[up,once];split
  ·next h =>
   rw[ih];constructor
   ·exact .inl
   ·rintro(z|z)
    ·exact z
    ·subst z;exact Bm.mp h
  ·simp only[List.mem_append,List.mem_singleton,ih];constructor
   ·rintro(z|z)
    ·exact .inl z
    ·exact .inr z.symm
   ·rintro(z|z)
    ·exact .inl z
    ·exact .inr z.symm
def pY{ns:List Int}{j:Int}:j∈nC ns↔j∈ns:=by
 unfold nC;rw[Bm,List.mem_iff_getElem];constructor
 ·rintro⟨k,hk,e⟩;exact⟨k,hk,by rw[List.getD_eq_getElem?_getD,List.getElem?_eq_getElem hk] at e;exact e⟩
 ·rintro⟨k,hk,e⟩;exact⟨k,hk,by rw[List.getD_eq_getElem?_getD,List.getElem?_eq_getElem hk];exact e⟩
def O7{ns:List Int}(h:(nC ns).length < 2){i j:Int}(hi:i∈ns)(hj:j∈ns):i=j:=by
 have a:=pY.mpr hi;have b:=pY.mpr hj
 match e:nC ns,h with
 | [],_=>rw[e] at a;cases a
 | [x],_ =>
  rw[e] at a b;rw[List.mem_singleton.mp a,List.mem_singleton.mp b]
def Lw{ans:List (Int×Wo)}{ws:List Wo}(h:(nC (bQ ans ws)).length < 2):cE ans ws=(bQ ans ws).head?:=by
 rw[AB];cases e:bQ ans ws with
 | nil=>simp
 | cons i r =>
  have hi:i∈bQ ans ws:=by rw[e];simp
  have he:∀ j∈bQ ans ws,j=i:=fun j hj=>O7 h hj hi;obtain⟨p,hp,ep⟩:=List.any_eq_true.mp (lQ.mp hi).1;have ep:i=p.1:=by simpa using ep
  show _=some i;have hm:i∈((ans.map (·.1)).filter fun j=>decide (j∈i::r)):=List.mem_filter.mpr ⟨List.mem_map.mpr ⟨p,hp,ep.symm⟩,by simp⟩;cases z:((ans.map (·.1)).filter fun j=>decide (j∈i::r)) with
  | nil=>rw[z] at hm;cases hm
  | cons x xs =>
   have hx:x∈((ans.map (·.1)).filter fun j=>decide (j∈i::r)):=by rw[z];simp
   have:=he x (by rw[e];simpa using(List.mem_filter.mp hx).2);rw[this];rfl
def Ig{ans:List (Int×Wo)}{ws:List Wo}(h:¬ (nC (bQ ans ws)).length < 2):∃ i r,((ans.map (·.1)).filter fun i=>decide (i∈bQ ans ws))=i::r/\cE ans ws=some i:=by
 have hf:=AB ans ws;cases z:((ans.map (·.1)).filter fun i=>decide (i∈bQ ans ws)) with
 | cons i r=>rw[z] at hf;exact⟨i,r,rfl,hf⟩
 | nil =>
  exfalso;cases e:nC (bQ ans ws) with
  | nil=>rw[e] at h;exact h (by simp)
  | cons i r =>
   have hi:i∈bQ ans ws:=pY.mp (by rw[e];simp);obtain⟨p,hp,ep⟩:=List.any_eq_true.mp (lQ.mp hi).1;have ep:i=p.1:=by simpa using ep
   have hm:i∈((ans.map (·.1)).filter fun i=>decide (i∈bQ ans ws)):=List.mem_filter.mpr ⟨List.mem_map.mpr ⟨p,hp,ep.symm⟩,by simpa using hi⟩;rw[z] at hm;cases hm
def fB.atW{H:Hp}{vs:List V}{ss:List Say}(h:fB H vs ss):∀ {i:Nat} {x:V},vs[i]?=some x->∃ y,ss[i]?=some y/\dB H x y:=by
 induction h with
 | nil=>intro i x e;simp at e
 | cons h _ ih =>
  intro i x e;cases i with
  | zero=>simp only[List.getElem?_cons_zero,Option.some.injEq] at e;subst e;exact⟨_,rfl,h⟩
  | succ i=>exact ih (by simpa using e)
def fB.Yc{H:Hp}{vs:List V}{ss:List Say}(h:fB H vs ss):vs.length=ss.length:=by
 induction h with
 | nil=>rfl
 | cons _ _ ih=>simp[ih]
def dW(pend:List Int):List Wo->List Int
 | []=>[]
 | none::r=>dW pend r
 | some i::r=>if i∈pend then i::dW pend r else dW pend r
def vZ(pend:List Int):∀(l r:List Wo),dW pend (l++r)=dW pend l++dW pend r
 | [],r=>rfl
 | none::l,r=>by simp only[List.cons_append,dW,vZ pend l r]
 | some i::l,r=>by
  simp only[List.cons_append,dW,vZ pend l r];split<;>simp
def IS{pend:List Int}{ws:List Wo}{i:Nat}{w:Wo}(e:ws[i]?=some w):(dW pend (ws.take (i+1))).map V.int=if decide (∃ j∈pend,w=some j)=true then (dW pend (ws.take i)).map V.int++[wv w] else (dW pend (ws.take i)).map V.int:=by
 rw[List.take_add_one,e];simp only[Option.toList_some,vZ,List.map_append];cases w with
 | none=>simp[dW]
 | some j =>
  by_cases h:j∈pend
  ·simp[dW,h,wv]
  ·simp[dW,h]
def lR(pend:List Int):∀ ws:List Wo,(dW pend ws).length<=ws.length
 | []=>Nat.le_refl _
 | none::r=>by have:=lR pend r;simp only[dW,List.length_cons];omega
 | some i::r=>by
  have:=lR pend r;simp only[dW,List.length_cons];split
  ·simp only[List.length_cons];omega
  ·omega
def AY{i j:Int}:∀ {l:List Int},j∈FX i l↔j=i\/j∈l
 | []=>by simp[FX]
 | k::r=>by
  have ih:=AY (i:=i) (j:=j) (l:=r);simp only[FX];split
  ·simp
  ·split
   ·next h =>
    subst h;simp only[List.mem_cons];constructor
    ·exact .inr
    ·rintro(z|z)
     ·exact .inl z
     ·exact z
   ·simp only[List.mem_cons,ih];constructor
    ·rintro(z|z|z)
     ·exact .inr (.inl z)
     ·exact .inl z
     ·exact .inr (.inr z)
    ·rintro(z|z|z)
     ·exact .inr (.inl z)
     ·exact .inl z
     ·exact .inr (.inr z)
def FY{i:Int}:∀ {l:List Int},l.Pairwise (· < ·)->(FX i l).Pairwise (· < ·)
 | [],_=>by simp[FX]
 | k::r,h=>by
  obtain⟨h1,h2⟩:=List.pairwise_cons.mp h;simp only[FX];split
  ·next c=>exact List.pairwise_cons.mpr ⟨fun x hx=>by
    rcases List.mem_cons.mp hx with rfl|hx
    ·exact c
    ·have:=h1 x hx;omega,h⟩
  ·split
   ·exact h
   ·exact List.pairwise_cons.mpr ⟨fun x hx=>by
     rcases AY.mp hx with rfl|hx
     ·omega
     ·exact h1 x hx,FY h2⟩
def jW(pend:List Int):∀ ws:List Wo,(cT pend ws).Pairwise (· < ·)
 | []=>.nil
 | none::r=>jW pend r
 | some i::r=>by
  simp only[cT];split
  ·exact FY (jW pend r)
  ·exact jW pend r
def rD{pend:List Int}{j:Int}:∀ {ws:List Wo},j∈cT pend ws↔j∈dW pend ws
 | []=>by simp[cT,dW]
 | none::r=>by simp only[cT,dW];exact rD
 | some i::r=>by
  have ih:=rD (pend:=pend) (j:=j) (ws:=r);simp only[cT,dW];split
  ·rw[AY,ih,List.mem_cons]
  ·exact ih
def Bn(val:Nat->Int):∀ n,(once val n).Nodup
 | 0=>by simp[once]
 | n+1=>by
  have ih:=Bn val n;rw[once];split
  ·exact ih
  ·next h=>exact List.nodup_append.mpr ⟨ih,by simp,fun a ha b hb=>by
    rw[List.mem_singleton.mp hb];exact fun z=>h (z▸ha)⟩
def GN{pend:List Int}{ws:List Wo}{ns:List Int}(hp:ns.Perm (nC (dW pend ws)))(hs:ns.Pairwise (·<=·)):ns=cT pend ws:=by
 refine xR (hp.trans ?_) hs (jW pend ws);refine(List.perm_ext_iff_of_nodup (Bn _ _) ((jW pend ws).imp fun h=>by omega)).mpr fun j=>?_;show j∈nC _↔_;rw[pY,rD]
inductive e9(H:Hp):List V->List (V×V)->Prop
 | nil:e9 H [] []
 | cons {a:Addr} {x y:V} {us:List V} {ps:List (V×V)}:H a=some (.tup [x,y])->e9 H us ps->e9 H (.ref a::us) ((x,y)::ps)
def e9.kt{H H':Hp}{us:List V}{ps:List (V×V)}(h:e9 H us ps)(k:aP H H'):e9 H' us ps:=by
 induction h with
 | nil=>exact .nil
 | cons a _ ih=>exact .cons (k _ _ a) ih
def e9.snoc{H:Hp}{us:List V}{ps:List (V×V)}{a:Addr}{x y:V}(h:e9 H us ps)(e:H a=some (.tup [x,y])):e9 H (us++[.ref a]) (ps++[(x,y)]):=by
 induction h with
 | nil=>exact .cons e .nil
 | cons b _ ih=>exact .cons b ih
def e9.len{H:Hp}{us:List V}{ps:List (V×V)}(h:e9 H us ps):us.length=ps.length:=by
 induction h with
 | nil=>rfl
 | cons _ _ ih=>simp[ih]
def e9.of{H:Hp}:∀ {as:List Addr} {ps:List (V×V)},as.length=ps.length->(∀(j:Nat) (a:Addr) (x y:V),as[j]?=some a->ps[j]?=some (x,y)->H a=some (.tup [x,y]))->e9 H (as.map V.ref) ps
 | [],[],_,_=>.nil
 | [],_::_,h,_=>by simp at h
 | _::_,[],h,_=>by simp at h
 | a::as,(x,y)::ps,h,g=>.cons (g 0 a x y rfl rfl) (e9.of (by simpa using h) fun j b x y e1 e2=>g (j+1) b x y (by simpa using e1) (by simpa using e2))
inductive iT(H:Hp):List V->List (Str×List Wo)->Prop
 | nil:iT H [] []
 | cons {a b:Addr} {k:Str} {ws:List Wo} {us:List V} {ps:List (Str×List Wo)}:H a=some (.tup [.str k,.ref b])->H b=some (.tup (ws.map wv))->iT H us ps->iT H (.ref a::us) ((k,ws)::ps)
def iT.kt{H H':Hp}{us:List V}{ps:List (Str×List Wo)}(h:iT H us ps)(k:aP H H'):iT H' us ps:=by
 induction h with
 | nil=>exact .nil
 | cons a b _ ih=>exact .cons (k _ _ a) (k _ _ b) ih
def iT.snoc{H:Hp}{us:List V}{ps:List (Str×List Wo)}{a b:Addr}{k:Str}{ws:List Wo}(h:iT H us ps)(e:H a=some (.tup [.str k,.ref b]))(f:H b=some (.tup (ws.map wv))):iT H (us++[.ref a]) (ps++[(k,ws)]):=by
 induction h with
 | nil=>exact .cons e f .nil
 | cons c d _ ih=>exact .cons c d ih
def iT.len{H:Hp}{us:List V}{ps:List (Str×List Wo)}(h:iT H us ps):us.length=ps.length:=by
 induction h with
 | nil=>rfl
 | cons _ _ _ ih=>simp[ih]
def fI(nm:List (Str×Wo)):List Str->List (V×V)
 | []=>[]
 | n::r=>if kN nm n=none then fI nm r else (.str n,wv (kN nm n))::fI nm r
def Dh(nm:List (Str×Wo)):∀ l r:List Str,fI nm (l++r)=fI nm l++fI nm r
 | [],_=>rfl
 | n::l,r=>by
  simp only[List.cons_append,fI,Dh nm l r];split<;>rfl
def h8(lt:List (Str×List Wo)):List Str->List (Str×List Wo)
 | []=>[]
 | k::r=>if (cO lt k).getD []=[] then h8 lt r else (k,(cO lt k).getD [])::h8 lt r
def C9(lt:List (Str×List Wo)):∀ l r:List Str,h8 lt (l++r)=h8 lt l++h8 lt r
 | [],_=>rfl
 | n::l,r=>by
  simp only[List.cons_append,h8,C9 lt l r];split<;>rfl
def vO(nm:List (Str×Wo)):∀ l:List Str,(fI nm l).length<=l.length
 | []=>Nat.le_refl _
 | n::l=>by
  have:=vO nm l;simp only[fI];split<;>simp only[List.length_cons]<;>omega
def vI(lt:List (Str×List Wo)):∀ l:List Str,(h8 lt l).length<=l.length
 | []=>Nat.le_refl _
 | n::l=>by
  have:=vI lt l;simp only[h8];split<;>simp only[List.length_cons]<;>omega
def Pu.nmS(S:Pu):List (V×V):=fI S.nm (srt (S.nm.map (·.1)))
def Pu.ltS(S:Pu):List (Str×List Wo):=h8 S.lt (srt (S.lt.map (·.1)))
def Pu.anS(S:Pu):List (V×V):=S.ans.map fun p=>(.int p.1,wv p.2)
def Slp.xG:Slp->Bool
 | .wait _=>true
 | .aaB _=>true
 | _=>false
def xU(H:Hp)(v:V)(S:Pu):Prop:=if S.sl.xG=true then ∃(p pl pn po pa pt:Addr) (sl:V) (un ua ut:List V),v=.ref p/\H p=some (.tup [sl,.ref pl,wv S.ar,.int S.nw,.ref pn,.int S.made,.ref po,.ref pa,.ref pt])/\iU H sl S.sl /\
    H pl=some (.tup ((cD S.stk).map V.int))/\H pn=some (.tup un)/\e9 H un S.nmS/\H po=some (.tup (S.pend.map V.int))/\H pa=some (.tup ua)/\e9 H ua S.anS/\H pt=some (.tup ut)/\iT H ut S.ltS
  else iU H v S.sl
def Kq:∀ nm:List (Str×Wo),jB (lW nm)=some (nm.map (·.1))
 | []=>rfl
 | p::r=>by
  have ih:=Kq r;show(jB (lW r)).map (p.1::·)=_;rw[ih];rfl
def SX{H:Hp}{kvs:List (Key×V)}{as:List Addr}{lt:List (Str×List Wo)}(h:kF H kvs as lt):jB kvs=some (lt.map (·.1)):=by
 induction h with
 | nil=>rfl
 | @cons a k ws kvs as lt _ _ ih =>
  show(jB kvs).map (k::·)=_;rw[ih];rfl
def OV:∀ {nm:List (Str×Wo)} {n:Str},n∈nm.map (·.1)->cC (lW nm) (.inr n)=some (wv (kN nm n))
 | [],n,h=>by simp at h
 | p::r,n,h=>by
  show cC ((Key.inr p.1,wv p.2)::lW r) (.inr n)=_;by_cases e:p.1=n
  ·rw[cR (by rw[e]),kN,if_pos e]
  ·rw[cG (fun z=>e (Key.inr.inj z)),kN,if_neg e];refine OV ?_;rcases List.mem_cons.mp h with h|h
   ·exact absurd h.symm e
   ·exact h
def kF.inS{H:Hp}{kvs:List (Key×V)}{as:List Addr}{lt:List (Str×List Wo)}(h:kF H kvs as lt){k:Str}(hk:k∈lt.map (·.1)):∃ a ws,cC kvs (.inr k)=some (.ref a)/\cO lt k=some ws/\H a=some (.lst (ws.map wv)):=by
 rcases h.look k with⟨_,e⟩|⟨a,ws,x,y,_,u⟩
 ·exfalso;clear h
  induction lt with
  | nil=>simp at hk
  | cons p r ih =>
   simp only[cO] at e;split at e
   ·cases e
   ·next hp =>
    rcases List.mem_cons.mp hk with z|z
    ·exact hp z.symm
    ·exact ih z e
 ·exact⟨a,ws,x,y,u⟩
def iU.word{H:Hp}{v:V}{s:Slp}(h:iU H v s)(hn:s.isN=false):∃(p:Addr) (s0:Str) (r0:List V),v=.ref p/\H p=some (.tup (.str s0::r0))/\sW (.str s0) [.str "wait",.str "hear"]=s.xG:=by
 cases s with
 | non=>cases hn
 | new=>obtain⟨p,rfl,e⟩:=h;exact⟨p,_,_,rfl,e,by simp[sW,uZ,kE,Slp.xG]⟩
 | wait ts=>obtain⟨p,p2,rfl,e,_⟩:=h;exact⟨p,_,_,rfl,e,by simp[sW,uZ,kE,Slp.xG]⟩
 | aaB k=>obtain⟨p,rfl,e⟩:=h;exact⟨p,_,_,rfl,e,by simp[sW,uZ,kE,Slp.xG]⟩
 | ended w=>obtain⟨p,rfl,e⟩:=h;exact⟨p,_,_,rfl,e,by simp[sW,uZ,kE,Slp.xG]⟩
 | worn=>obtain⟨p,rfl,e⟩:=h;exact⟨p,_,_,rfl,e,by simp[sW,uZ,kE,Slp.xG]⟩
def qV{c:TT}{t u:TS}{D:Ends}{σ:St}{H:Hp}(h:∀ R:St->Hp->Prop,(∀ σ' H',t D σ' H'->R σ' H')->P8 c (fun _=>R) u D σ H):P8 c t u D σ H:=h (t D) fun _ _ z=>z
def SO(C:Addr):Sp:=fun vs H Q _=>∃(wk wx lb ln:Addr) (st:Stk),vs=[.ref wk]/\kG C H wk wx lb ln st/\∀ p,H p=none->Q (.ref p) (Z8 H p (.tup ((cD st).map V.int)))
def SQ(C:Cl):Sp:=fun vs H Q _=>∃(R:Rn) (as:List Addr) (sl:V) (S:Pu),vs=[.ref R.x]/\aZ C H R as sl S/\S.sl.isN=false/\S.pend.length<=1000000/\S.nm.length < 64/\S.lt.length < 64/\S.ans.length<=1000000/\(∀ k ws,cO S.lt k=some ws->ws.length<=1000000)/\∀(v:V) (H':Hp),xU H' v S->Kp [] H H'->Q v H'
def Zz{w:Wo}{k:Int->Prop}{u:Tg k}:Zy (wv w) k u=k (num w):=by cases w<;>rfl
def Wz(K:q0B):Sp:=fun vs H Q _=>∃(a:Addr) (ns:List Int) (k:Int),vs=[.ref a,.int k]/\dR K H a (ns.map V.int)/\0<=k/\∀ z:Int,Q (.int z) H
structure cF(H:Hp)(r:Addr):Prop where
 ex:∃ c f:Int,H r=some (.lst [.int c,.int f])/\(f=0\/(0<=c/\c < 982451653))
def cF.kp{S:List Addr}{H H':Hp}{r:Addr}(R:cF H r)(h:Kp S H H')(n:r∉S:=by first|exact List.not_mem_nil|simp_all):cF H' r:=by
 obtain⟨c,f,e,x⟩:=R;exact⟨c,f,h _ _ e n,x⟩
def cF.new{H:Hp}{r p:Addr}{o:HO}(R:cF H r)(h:H p=none):cF (Z8 H p o) r:=R.kp (S:=[]) (Kp.new h)
def cF.none{H:Hp}{r p:Addr}(R:cF H r)(h:H p=Option.none):p≠r:=by
 obtain⟨c,f,e,_⟩:=R;exact(aL e h).symm
def _root_.L2.Kp.TL{r p:Addr}{H H':Hp}{o:HO}(x:Kp [r] (Z8 H p o) H')(R:cF H r)(h:H p=Option.none):H' p=some o:=x.at1 aA (R.none h)
def TY:Sp:=fun vs H Q _=>∃ c:Int,vs=[.int c]/\∀(r:Addr) (H':Hp),H r=none->Kp [] H H'->cF H' r->Q (.ref r) H'
def Yl{c:Int}{H:Hp}{Q:VK}{E:XK}:TY [.int c] H Q E = ∀(r:Addr) (H':Hp),H r=none->Kp [] H H'->cF H' r->Q (.ref r) H':=propext ⟨fun⟨_,e,h⟩=>by cases e;exact h,fun h=>⟨_,rfl,h⟩⟩
def TX:Sp:=fun vs H Q _=>∃(r:Addr) (m:Int),vs=[.ref r,.int m]/\0 < m/\m<=10 ^ 45/\cF H r /\
 ∀(g:Int) (H':Hp),0<=g->g < m->cF H' r->Kp [r] H H'->Q (.int g) H'
def Su{r:Addr}{m:Int}{H:Hp}{Q:VK}{E:XK}:TX [.ref r,.int m] H Q E=(0 < m/\m<=10 ^ 45/\cF H r/\∀(g:Int) (H':Hp),0<=g->g < m->cF H' r->Kp [r] H H'->Q (.int g) H') :=
 propext ⟨fun⟨_,_,e,h⟩=>by cases e;exact h,fun h=>⟨_,_,rfl,h⟩⟩
def Q0:CPow 86028157 2=True:=eq_true ⟨by decide,by decide,by decide⟩
def Hl:Sp:=fun vs H Q _=>∃ r:Addr,vs=[.ref r]/\cF H r/\∀(w:Wo) (H':Hp),dQ w->cF H' r->Kp [r] H H'->Q (wv w) H'
def Po{r:Addr}{H:Hp}{Q:VK}{E:XK}:Hl [.ref r] H Q E=(cF H r/\∀(w:Wo) (H':Hp),dQ w->cF H' r->Kp [r] H H'->Q (wv w) H') :=
 propext ⟨fun⟨_,e,h⟩=>by cases e;exact h,fun h=>⟨_,rfl,h⟩⟩
def Dp:Sp:=fun vs H Q _=>∃ r:Addr,vs=[.ref r]/\cF H r/\∀(m:Int) (H':Hp),0<=m->m<=1000000000000->cF H' r->Kp [r] H H'->Q (.int m) H'
def Mq{r:Addr}{H:Hp}{Q:VK}{E:XK}:Dp [.ref r] H Q E=(cF H r/\∀(m:Int) (H':Hp),0<=m->m<=1000000000000->cF H' r->Kp [r] H H'->Q (.int m) H') :=
 propext ⟨fun⟨_,e,h⟩=>by cases e;exact h,fun h=>⟨_,rfl,h⟩⟩
mutual
def Stm.eP(L:List Str):Stm->Prop
 | .set x _=>x∈L
 | .order x _ _=>x∈L
 | .child x _ _=>x∈L
 | .aaE x _=>x∈L
 | .wait x ss=>x∈L/\ss.length<=4
 | .aaB x _=>x∈L
 | .whl _ b=>b.length<=8/\dZ L b
 | .iff _ b o=>(b.length<=8/\o.length<=8)/\dZ L b/\dZ L o
 | _=>True
def dZ(L:List Str):List Stm->Prop
 | []=>True
 | m::ms=>m.eP L/\dZ L ms
end
def Gr{L:List Str}:∀ {b:List Stm} {i:Nat} {m:Stm},dZ L b->b[i]?=some m->m.eP L
 | [],_,_,_,h=>by simp at h
 | _::_,0,_,g,h=>by simp only[List.getElem?_cons_zero,Option.some.injEq] at h;subst h;simp only[dZ] at g;exact g.1
 | _::b,i+1,_,g,h=>by simp only[dZ] at g;exact Gr g.2 (by simpa using h)
def Mo(l:List (Str×Wo))(n:Str)(w:Wo):(dM l n w).map (·.1)=if n∈l.map (·.1) then l.map (·.1) else l.map (·.1)++[n]:=by
 have e:(l.any fun p=>decide (p.1=n))=true↔n∈l.map (·.1):=by
  rw[List.any_eq_true,List.mem_map];constructor
  ·rintro⟨p,h,e⟩;exact⟨p,h,by simpa using e⟩
  ·rintro⟨p,h,e⟩;exact⟨p,h,by simpa using e⟩
 unfold dM;by_cases h:n∈l.map (·.1)
 ·rw[if_pos (e.mpr h),if_pos h,List.map_map];refine List.map_congr_left fun p _=>?_;simp only[Function.comp];split<;>rfl
 ·rw[if_neg (fun z=>h (e.mp z)),if_neg h];simp
structure dX(L:List Str)(S:Pu):Prop where
 nd:(S.nm.map (·.1)).Nodup
 sub:∀ n∈S.nm.map (·.1),n∈L
 stk:∀ x∈S.stk,dZ L x.2.1
def dX.put{L:List Str}{S:Pu}(h:dX L S){n:Str}(hn:n∈L)(w:Wo):dX L {S with nm:=dM S.nm n w}:=by
 have e:=Mo S.nm n w;refine⟨?_,?_,h.stk⟩
 ·show((dM S.nm n w).map (·.1)).Nodup;rw[e];split
  ·exact h.nd
  ·next hc =>
   rw[List.nodup_append];exact⟨h.nd,by simp,fun a ha b hb=>by rw[show b=n by simpa using hb];intro z;exact hc (z▸ha)⟩
 ·show ∀ x∈(dM S.nm n w).map (·.1),x∈L;rw[e];split
  ·exact h.sub
  ·intro x hx;rcases List.mem_append.mp hx with hx|hx
   ·exact h.sub x hx
   ·rw[show x=n by simpa using hx];exact hn
def dX.same{L:List Str}{S T:Pu}(h:dX L S)(e1:T.nm=S.nm)(e2:T.stk=S.stk):dX L T:=⟨by rw[e1];exact h.nd,by rw[e1];exact h.sub,by rw[e2];exact h.stk⟩
def dX.cU{L:List Str}{S:Pu}(h:dX L S){m:Stm}(g:m.eP L):dX L (cU S m).1:=by
 cases m with
 | set x s=>simp only[Stm.eP] at g;exact h.put g _
 | order x y s=>simp only[Stm.eP] at g;exact(h.put g _).same rfl rfl
 | child x y s=>simp only[Stm.eP] at g;exact(h.put g _).same rfl rfl
 | aaE x s=>simp only[Stm.eP] at g;exact(h.put g _).same rfl rfl
 | send s k r=>exact h
 | drop s =>
  simp only[Own.cU];split
  ·split
   ·exact h.same rfl rfl
   ·exact h
  ·exact h
 | aaB x k =>
  simp only[Stm.eP] at g;simp only[Own.cU];split
  ·exact(h.put g _).same rfl rfl
  ·exact h.same rfl rfl
 | wait x ss =>
  simp only[Stm.eP] at g;simp only[Own.cU];split
  ·exact h.same rfl rfl
  ·exact h.put g.1 _
 | fin s=>exact h.same rfl rfl
 | whl s b=>exact h
 | iff s b o=>exact h
def uJ{L:List Str}:∀ st:Stk,(∀ x∈st,dZ L x.2.1)->∀ x∈c6 st,dZ L x.2.1
 | [],h=>by simpa[c6] using h
 | [a],h=>by simpa[c6] using h
 | (k,b,n)::(k2,b2,n2)::r,h=>by
  rw[c6];split
  ·refine uJ ((k2,b2,Bc b2 n2)::r) fun x hx=>?_;rcases List.mem_cons.mp hx with rfl|hx
   ·exact h (k2,b2,n2) (by simp)
   ·exact h x (by simp[hx])
  ·exact h
termination_by st=>st.length
def v8{L:List Str}{st:Stk}(h:∀ x∈st,dZ L x.2.1):∀ x∈iL st,dZ L x.2.1:=by
 cases st with
 | nil=>exact h
 | cons a r =>
  obtain⟨k,b,n⟩:=a;intro x hx;simp only[iL,List.mem_cons] at hx;rcases hx with rfl|hx
  ·exact h (k,b,n) (by simp)
  ·exact h x (by simp[hx])
def dX.cM{L:List Str}{S:Pu}(h:dX L S){m:Stm}(e:cM S.stk=some m):m.eP L:=by
 cases hs:S.stk with
 | nil=>rw[hs] at e;cases e
 | cons a r =>
  obtain⟨k,b,n⟩:=a;rw[hs] at e;exact Gr (h.stk (k,b,n) (by rw[hs];simp)) e
def dX.one{L:List Str}{S:Pu}(h:dX L S){m:Stm}(e:Own.cM S.stk=some m):dX L (one S m).1:=by
 have g:=h.cM e;have en:∀(c:Nat) (b:List Stm),dZ L b->dX L (S.enter c b):=fun c b hb=>⟨h.nd,h.sub,fun x hx=>by
  rcases List.mem_cons.mp hx with rfl|hx
  ·exact hb
  ·exact h.stk x hx⟩
 have ps:∀ T:Pu,dX L T->dX L T.pass:=fun T hT=>⟨hT.nd,hT.sub,v8 hT.stk⟩;unfold Own.one;split
 ·cases m with
  | whl s b =>
   simp only[Stm.eP] at g;show dX L (if _ then S.pass else S.enter 0 b);split
   ·exact ps S h
   ·exact en 0 b g.2
  | iff s b o =>
   simp only[Stm.eP] at g;show dX L (if _ then S.enter 1 o else S.enter 0 b);split
   ·exact en 1 o g.2.2
   ·exact en 0 b g.2.1
  | _=>exact h
 ·show dX L (if _ then (Own.cU S m).1.pass else (Own.cU S m).1);split
  ·exact ps _ (h.cU g)
  ·exact h.cU g
def y8{L:List Str}:∀(n:Nat) {S:Pu},dX L S->dX L (iI n S).1
 | 0,S,h=>by
  have hc:dX L S.cJ:=⟨h.nd,h.sub,uJ _ h.stk⟩;cases e:cM S.cJ.stk with
  | none=>rw[dS e];exact hc.same rfl rfl
  | some m=>rw[jF e];exact hc.same rfl rfl
 | n+1,S,h=>by
  have hc:dX L S.cJ:=⟨h.nd,h.sub,uJ _ h.stk⟩;cases e:cM S.cJ.stk with
  | none=>rw[dS e];exact hc.same rfl rfl
  | some m =>
   cases z:(one S.cJ m).1.sl.isN with
   | true=>rw[pU e z];exact y8 n (hc.one e)
   | false=>rw[jE e z];exact hc.one e
def dX.wake{L:List Str}{S:Pu}(h:dX L S)(w:Wo):dX L (S.wake w).1:=by
 unfold Pu.wake;split
 ·next x k e =>
  have g:=h.cM e;simp only[Stm.eP] at g;have h1:=h.put g w;exact y8 300 ⟨h1.nd,h1.sub,v8 h.stk⟩
 ·next x ss e =>
  have g:=h.cM e;simp only[Stm.eP] at g;have h1:=h.put g.1 w;exact y8 300 ⟨h1.nd,h1.sub,v8 h.stk⟩
 ·exact h
def dX.take{L:List Str}{S:Pu}(h:dX L S)(x:Hap):dX L (S.take x).1:=by
 unfold Pu.take;split
 ·exact h
 cases x with
 | beg m w=>exact y8 300 (h.same rfl rfl)
 | don m i w =>
  show dX L ((S.at' m).gR i w).1;unfold Pu.gR;split
  ·split
   ·exact(h.same (T:=(S.at' m).done i w) rfl rfl).wake _
   ·exact h.same rfl rfl
  ·exact h.same rfl rfl
 | ltr m k w =>
  show dX L ((S.at' m).iC k w).1;unfold Pu.iC;split
  ·split
   ·exact(h.same (T:=S.at' m) rfl rfl).wake _
   ·exact h.same rfl rfl
  ·exact h.same rfl rfl
def vQ:∀ {a L:List Str},a.Nodup->(∀ x∈a,x∈L)->a.length<=L.length
 | [],L,_,_=>Nat.zero_le _
 | x::a,L,nd,h=>by
  rw[List.nodup_cons] at nd;have hx:=h x (by simp);have:=vQ (a:=a) (L:=L.erase x) nd.2 fun y hy=>(List.mem_erase_of_ne (fun z:y=x=>nd.1 (by rw[<- z];exact hy))).mpr (h y (List.mem_cons_of_mem _ hy));have hl:=List.length_erase_of_mem hx;have hp:0 < L.length:=List.length_pos_of_mem hx;simp only[List.length_cons];omega
def dX.len{L:List Str}{S:Pu}(h:dX L S):S.nm.length<=L.length:=by
 have:=vQ h.nd h.sub
 rwa [List.length_map] at this
structure eM(K:List Str)(S:Pu):Prop where
 nd:(S.lt.map (·.1)).Nodup
 sub:∀ n∈S.lt.map (·.1),n∈K
def qA(r:List Wo):∀(l:List (Str×List Wo)) (k:Str),(eZ l k r).map (·.1)=l.map (·.1)
 | [],_=>rfl
 | p::l,k=>by
  simp only[eZ];split
  ·rfl
  ·simp only[List.map_cons,qA r l k]
def AU:∀ {l:List (Str×List Wo)} {k:Str},cO l k=none->k∉l.map (·.1)
 | [],_,_=>by simp
 | p::l,k,h=>by
  simp only[cO] at h;split at h
  ·cases h
  ·next hp =>
   simp only[List.map_cons,List.mem_cons,not_or];exact⟨fun z=>hp z.symm,AU h⟩
def eM.same{K:List Str}{S T:Pu}(h:eM K S)(e:T.lt=S.lt):eM K T:=⟨by rw[e];exact h.nd,by rw[e];exact h.sub⟩
def eM.add{K:List Str}{S:Pu}(h:eM K S){k:Str}(hk:k∈K)(w:Wo):eM K {S with lt:=gN S.lt k w}:=by
 cases e:cO S.lt k with
 | some ws =>
  have ea:gN S.lt k w=eZ S.lt k (ws++[w]):=by simp only[gN,e]
  have kk:=qA (ws++[w]) S.lt k;exact⟨by show((gN S.lt k w).map (·.1)).Nodup;rw[ea,kk];exact h.nd,by show ∀ n∈(gN S.lt k w).map (·.1),n∈K;rw[ea,kk];exact h.sub⟩
 | none =>
  have ea:gN S.lt k w=S.lt++[(k,[w])]:=by simp only[gN,e]
  have nk:=AU e;refine⟨?_,?_⟩
  ·show((gN S.lt k w).map (·.1)).Nodup;rw[ea,List.map_append,List.nodup_append];exact⟨h.nd,by simp,fun a ha b hb=>by rw[show b=k by simpa using hb];intro z;exact nk (z▸ha)⟩
  ·show ∀ n∈(gN S.lt k w).map (·.1),n∈K;rw[ea,List.map_append];intro n hn;rcases List.mem_append.mp hn with hn|hn
   ·exact h.sub n hn
   ·rw[show n=k by simpa using hn];exact hk
def eM.cU{K:List Str}{S:Pu}(h:eM K S)(m:Stm):eM K (cU S m).1:=by
 cases m with
 | drop s =>
  simp only[Own.cU];split
  ·split
   ·exact h.same rfl
   ·exact h
  ·exact h
 | aaB x k =>
  simp only[Own.cU];split
  ·next w r e=>exact⟨by show((eZ S.lt k r).map (·.1)).Nodup;rw[qA];exact h.nd,by show ∀ n∈(eZ S.lt k r).map (·.1),n∈K;rw[qA];exact h.sub⟩
  ·exact h.same rfl
 | wait x ss =>
  simp only[Own.cU];split
  ·exact h.same rfl
  ·exact h.same rfl
 | _=>exact h.same rfl
def eM.one{K:List Str}{S:Pu}(h:eM K S)(m:Stm):eM K (one S m).1:=by
 unfold Own.one;split
 ·cases m with
  | whl s b=>show eM K (if _ then S.pass else S.enter 0 b);split<;>exact h.same rfl
  | iff s b o=>show eM K (if _ then S.enter 1 o else S.enter 0 b);split<;>exact h.same rfl
  | _=>exact h
 ·show eM K (if _ then (Own.cU S m).1.pass else (Own.cU S m).1);split
  ·exact(h.cU m).same rfl
  ·exact h.cU m
def y4{K:List Str}:∀(n:Nat) {S:Pu},eM K S->eM K (iI n S).1
 | 0,S,h=>by
  have hc:eM K S.cJ:=h.same rfl;cases e:cM S.cJ.stk with
  | none=>rw[dS e];exact hc.same rfl
  | some m=>rw[jF e];exact hc.same rfl
 | n+1,S,h=>by
  have hc:eM K S.cJ:=h.same rfl;cases e:cM S.cJ.stk with
  | none=>rw[dS e];exact hc.same rfl
  | some m =>
   cases z:(one S.cJ m).1.sl.isN with
   | true=>rw[pU e z];exact y4 n (hc.one m)
   | false=>rw[jE e z];exact hc.one m
def eM.wake{K:List Str}{S:Pu}(h:eM K S)(w:Wo):eM K (S.wake w).1:=by
 unfold Pu.wake;split
 ·exact y4 300 (h.same rfl)
 ·exact y4 300 (h.same rfl)
 ·exact h
def eM.take{K:List Str}{S:Pu}(h:eM K S)(x:Hap)(hx:∀ m k w,x=.ltr m k w->k∈K):eM K (S.take x).1:=by
 unfold Pu.take;split
 ·exact h
 cases x with
 | beg m w=>exact y4 300 (h.same rfl)
 | don m i w =>
  show eM K ((S.at' m).gR i w).1;unfold Pu.gR;split
  ·split
   ·exact(h.same (T:=(S.at' m).done i w) rfl).wake _
   ·exact h.same rfl
  ·exact h.same rfl
 | ltr m k w =>
  show eM K ((S.at' m).iC k w).1;unfold Pu.iC;split
  ·split
   ·exact(h.same (T:=S.at' m) rfl).wake _
   ·exact((h.same (T:=S.at' m) rfl).add (hx m k w rfl) w).same rfl
  ·exact((h.same (T:=S.at' m) rfl).add (hx m k w rfl) w).same rfl
def eM.len{K:List Str}{S:Pu}(h:eM K S):S.lt.length<=K.length:=by
 have:=vQ h.nd h.sub
 rwa [List.length_map] at this
def NM4:List Str:=["a","b","aa","d"]
def KY3:List Str:=["k","kk","m"]
def cF.tk{H H':Hp}{r:Addr}(R:cF H r)(k:Kp [r] H H'):aP H H':=.of k fun a ha=>by
 obtain⟨c,f,e,_⟩:=R;have:a=r:=by simpa using ha
 exact⟨_,this▸e,fun _ h=>by cases h⟩
def made1J{r p:Addr}{H H':Hp}{o:HO}(x:Kp [r] (Z8 H p o) H')(R:cF H r)(h:H p=Option.none):H' p=some o:=x.at1 aA (R.none h)
def TC{a b:Prop}[Decidable a][Decidable b]{P R:Prop}:(if a then (if b then P else R) else R)=if a/\b then P else R:=by
 by_cases ha:a<;>by_cases hb:b<;>simp[ha,hb]
def Jh(d:Nat):Sp:=fun vs H Q _=>∃(r:Addr) (dp:Int),vs=[.ref r,.int dp]/\0<=dp/\dp < d/\cF H r/\∀(v:V) (s:Say) (H':Hp),dB H' v s->s.ok->(s.depth:Int)<=dp+1->cF H' r->Kp [r] H H'->Q v H'
def WB:Sp:=fun vs H Q _=>∃ r:Addr,vs=[.ref r]/\cF H r/\∀(v:V) (h:Hap) (H':Hp),mY H' v h->(0<=h.m/\h.m<=1000000000000)->dQ h.w->(∀ m k w,h=.ltr m k w->k∈KY3)->(∀ m t w,h=.don m t w->0<=t/\t < 7)->cF H' r->Kp [r] H H'->Q v H'
def SK:Sp:=fun vs H Q _=>∃(r:Addr) (x:Str),vs=[.ref r,.str x]/\cF H r/\∀(v:V) (ss:List Say) (H':Hp),dH H' v (.wait x ss)->ss.length<=4->(∀ s∈ss,s.sok)->cF H' r->Kp [r] H H'->Q v H'
def fO(H:Hp)(m:Addr):Prop:=∃ n:Int,H m=some (.lst [.int n])/\n<=40
def Ji(d:Nat):Sp:=fun vs H Q _=>∃(r m:Addr) (dp:Int),vs=[.ref r,.int dp,.ref m]/\0<=dp/\dp<=d/\cF H r/\fO H m/\r≠m/\∀(v:V) (x:Stm) (H':Hp),dH H' v x->x.gd true->x.eP NM4->(x.dp:Int)<=dp->cF H' r->fO H' m->Kp [r,m] H H'->Q v H'
def ES(d:Nat):Sp:=fun vs H Q _=>∃(r m:Addr) (dp:Int),vs=[.ref r,.int dp,.ref m]/\0<=dp/\dp < d/\cF H r/\fO H m/\r≠m/\∀(p:Addr) (us:List V) (b:List Stm) (H':Hp),H' p=some (.tup us)->cH H' us b->yB true b->dZ NM4 b->(xX b:Int)<=dp->b.length<=7->cF H' r->fO H' m->Kp [r,m] H H'->Q (.ref p) H'
def WC:Sp:=fun vs H Q _=>∃ c:Int,vs=[.int c]/\∀(p:Addr) (us:List V) (b:List Stm) (H':Hp),H' p=some (.tup us)->cH H' us b->yB true b->dZ NM4 b->xX b<=4->b.length<=8->Kp [] H H'->Q (.ref p) H'
def fB.snoc{H:Hp}{vs:List V}{ss:List Say}{v:V}{s:Say}(h:fB H vs ss)(e:dB H v s):fB H (vs++[v]) (ss++[s]):=by
 induction h with
 | nil=>exact .cons e .nil
 | cons a _ ih=>exact .cons a ih
def fO.kp{H H':Hp}{m:Addr}(h:fO H m)(k:Kp [] H H'):fO H' m:=let ⟨n,e,f⟩:=h;⟨n,k.at e,f⟩
def fO.kj{H H':Hp}{r m:Addr}(h:fO H m)(k:Kp [r] H H')(n:r≠m):fO H' m:=let ⟨n',e,f⟩:=h;⟨n',k.at1 e n.symm,f⟩
def cF.tk2{H H':Hp}{r m:Addr}(R:cF H r)(M:fO H m)(k:Kp [r,m] H H'):aP H H':=.of k fun a ha=>by
 obtain⟨c,f,e,_⟩:=R;obtain⟨n,e',_⟩:=M;simp only[List.mem_cons,List.not_mem_nil,or_false] at ha;rcases ha with rfl|rfl
 ·exact⟨_,e,fun _ h=>by cases h⟩
 ·exact⟨_,e',fun _ h=>by cases h⟩
def Ak:∀(b:List Stm) (x:Stm),xX (b++[x])=max (xX b) x.dp
 | [],x=>by simp[xX]
 | y::b,x=>by
  simp only[List.cons_append,xX,Ak b x];omega
def Ol{wt:Bool}:∀ {b:List Stm},(∀ m∈b,m.gd wt)->yB wt b
 | [],_=>by simp only[yB]
 | m::b,h=>by simp only[yB];exact⟨h m (by simp),Ol fun x hx=>h x (List.mem_cons_of_mem _ hx)⟩
def FO{b:List Stm}{x:Stm}(h:yB true b)(g:x.gd true):yB true (b++[x]):=by
 induction b with
 | nil=>simp only[List.nil_append,yB];exact⟨g,trivial⟩
 | cons y b ih=>simp only[List.cons_append,yB] at h ⊢;exact⟨h.1,ih h.2⟩
def Gu{L:List Str}{b:List Stm}{x:Stm}(h:dZ L b)(g:x.eP L):dZ L (b++[x]):=by
 induction b with
 | nil=>simp only[List.nil_append,dZ];exact⟨g,trivial⟩
 | cons y b ih=>simp only[List.cons_append,dZ] at h ⊢;exact⟨h.1,ih h.2⟩
def cH.snoc{H:Hp}{vs:List V}{ms:List Stm}{v:V}{m:Stm}(h:cH H vs ms)(e:dH H v m):cH H (vs++[v]) (ms++[m]):=by
 induction ms generalizing vs with
 | nil=>cases h;exact .cons e .nil
 | cons m ms ih =>
  cases h with
  | cons a b=>exact .cons a (ih b)
def Fit.slp{wt:Bool}{S:Pu}{N:Nat}(F:Fit wt S N)(x:Slp)(h1:∀ k,x≠.aaB k)(h2:∀ ts,x≠.wait ts):Fit wt {S with sl:=x,pend:=[]} N :=
 ⟨F.nm,F.md,Nat.zero_le _,F.an,F.lt,F.lw,F.pl,F.nw,F.sk,fun k e=>absurd e (h1 k),fun ts e=>absurd e (h2 ts)⟩
def lJ{wt:Bool}:∀(n:Nat) {S:Pu} {N:Nat},Fit wt S N->S.sl=.non->N+n<=900000->Fit wt (iI n S).1 (N+n)
 | 0,S,N,F,h,_=>by
  cases e:cM S.cJ.stk with
  | none=>rw[dS e];exact(F.cJ h).slp _ (fun _ z=>by cases z) (fun _ z=>by cases z)
  | some m=>rw[jF e];exact(F.cJ h).slp _ (fun _ z=>by cases z) (fun _ z=>by cases z)
 | n+1,S,N,F,h,hN=>by
  cases e:cM S.cJ.stk with
  | none=>rw[dS e];exact((F.cJ h).slp _ (fun _ z=>by cases z) (fun _ z=>by cases z)).more (by omega)
  | some m =>
   have F1:=(F.cJ h).one e h (by omega);cases z:(one S.cJ m).1.sl.isN with
   | true =>
    rw[pU e z];exact(lJ n F1 (D9 z) (by omega)).more (by omega)
   | false=>rw[jE e z];exact F1.more (by omega)
def Fit.S5{wt:Bool}{S:Pu}{N:Nat}(F:Fit wt S N){m i:Int}{w:Wo}(hm:0<=m/\m<=1000000000000)(hw:dQ w)(hi:dQ (some i))(hN:N<=800000):Fit wt (S.take (.don m i w)).1 (N+302):=by
 have F1:=F.at' hm;have F2:=F1.done (i:=i) hw;unfold Pu.take;split
 ·exact F.more (by omega)
 show Fit wt ((S.at' m).gR i w).1 (N+302);unfold Pu.gR;split
 ·split
  ·unfold Pu.wake;split
   ·next e=>exact(lJ 300 (F2.wake e hi _) rfl (by omega)).more (by omega)
   ·next e=>exact(lJ 300 (F2.wake e hi _) rfl (by omega)).more (by omega)
   ·exact F2.more (by omega)
  ·exact F2.more (by omega)
 ·exact F2.more (by omega)
def Fit.EZ{wt:Bool}{S:Pu}{N:Nat}(F:Fit wt S N)(h:Hap)(hm:0<=h.m/\h.m<=1000000000000)(hw:dQ h.w)(hi:∀ i∈S.pend,dQ (some i))(hN:N<=800000):Fit wt (S.take h).1 (N+302):=by
 cases h with
 | beg m w =>
  unfold Pu.take;split
  ·exact F.more (by omega)
  have F1:=F.at' hm;have F2:Fit wt {S with nw:=later S.nw m,ar:=w,sl:=.non} N:=⟨F1.nm,F1.md,F1.pd,F1.an,F1.lt,F1.lw,⟨F1.pl.nm,hw,F1.pl.an⟩,F1.nw,F1.sk,fun k e=>(by cases e),fun k e=>(by cases e)⟩;exact(lJ 300 F2 rfl (by omega)).more (by omega)
 | don m i w =>
  by_cases hp:i∈S.pend
  ·exact F.S5 hm hw (hi i hp) hN
  ·have F1:=F.at' hm;unfold Pu.take;split
   ·exact F.more (by omega)
   ·next ho =>
    have F2:=F1.done (i:=i) hw;show Fit wt ((S.at' m).gR i w).1 (N+302);exfalso;refine ho ?_;unfold Pu.over;cases S.sl<;>simp[hp]
 | ltr m k w =>
  have F1:=F.at' hm;unfold Pu.take;split
  ·exact F.more (by omega)
  show Fit wt ((S.at' m).iC k w).1 (N+302);unfold Pu.iC;split
  ·split
   ·unfold Pu.wake;split
    ·next e=>exact(lJ 300 (F1.wake e hw _) rfl (by omega)).more (by omega)
    ·next e=>exact(lJ 300 (F1.wake e hw _) rfl (by omega)).more (by omega)
    ·exact F1.more (by omega)
   ·exact(F1.gN hw).more (by omega)
  ·exact(F1.gN hw).more (by omega)
inductive cP(H:Hp):List V->List Hap->Prop
 | nil:cP H [] []
 | cons {v:V} {vs:List V} {h:Hap} {hs:List Hap}:mY H v h->cP H vs hs->cP H (v::vs) (h::hs)
def VO{H H':Hp}{v:V}{h:Hap}(x:mY H v h)(k:aP H H'):mY H' v h:=by
 obtain⟨a,e,f⟩:=x;exact⟨a,e,k _ _ f⟩
def cP.kt{H H':Hp}{vs:List V}{hs:List Hap}(h:cP H vs hs)(k:aP H H'):cP H' vs hs:=by
 induction h with
 | nil=>exact .nil
 | cons a _ ih=>exact .cons (VO a k) ih
def cP.len{H:Hp}{vs:List V}{hs:List Hap}(h:cP H vs hs):vs.length=hs.length:=by
 induction h with
 | nil=>rfl
 | cons _ _ ih=>simp[ih]
def sU:∀(n:Nat) (S:Pu),(iI n S).1.sl.isN=false
 | 0,S=>by
  cases e:cM S.cJ.stk with
  | none=>rw[dS e];rfl
  | some m=>rw[jF e];rfl
 | n+1,S=>by
  cases e:cM S.cJ.stk with
  | none=>rw[dS e];rfl
  | some m =>
   cases z:(one S.cJ m).1.sl.isN with
   | true=>rw[pU e z];exact sU n _
   | false=>rw[jE e z];exact z
def Hy{S:Pu}(h:S.sl.isN=false)(w:Wo):(S.wake w).1.sl.isN=false:=by
 unfold Pu.wake;split
 ·exact sU _ _
 ·exact sU _ _
 ·exact h
def BU{S:Pu}(h:S.sl.isN=false)(x:Hap):(S.take x).1.sl.isN=false:=by
 unfold Pu.take;split
 ·exact h
 cases x with
 | beg m w=>exact sU _ _
 | don m i w =>
  show((S.at' m).gR i w).1.sl.isN=false;unfold Pu.gR;split
  ·split
   ·exact Hy (show((S.at' m).done i w).sl.isN=false from h) _
   ·exact h
  ·exact h
 | ltr m k w =>
  show((S.at' m).iC k w).1.sl.isN=false;unfold Pu.iC;split
  ·split
   ·exact Hy (show(S.at' m).sl.isN=false from h) _
   ·exact h
  ·exact h
def takes:Pu->List Hap->Pu×List Cmds
 | S,[]=>(S,[])
 | S,h::r=>((takes (S.take h).1 r).1,(S.take h).2::(takes (S.take h).1 r).2)
def kB(h:Hap):∀(l:List Hap) (S:Pu),takes S (l++[h])=(((takes S l).1.take h).1,(takes S l).2++[((takes S l).1.take h).2])
 | [],S=>by simp[takes]
 | x::l,S=>by
  have:=kB h l (S.take x).1;simp only[List.cons_append,takes,this]
def Hap.D4(h:Hap):Prop:=(0<=h.m/\h.m<=1000000000000)/\dQ h.w
inductive eN(H:Hp):List Addr->List Cmds->Prop
 | nil:eN H [] []
 | cons {a:Addr} {us:List V} {cs:Cmds} {as:List Addr} {css:List Cmds}:H a=some (.lst us)->hZ H us cs->eN H as css->eN H (a::as) (cs::css)
def eN.keep{H H':Hp}{as:List Addr}{css:List Cmds}(h:eN H as css)(k:∀ a∈as,∀ o,H a=some o->H' a=some o)(t:aP H H'):eN H' as css:=by
 induction h with
 | nil=>exact .nil
 | cons e c _ ih=>exact .cons (k _ (by simp) _ e) (c.kt t) (ih fun a ha=>k a (List.mem_cons_of_mem _ ha))
def eN.snoc{H:Hp}{as:List Addr}{css:List Cmds}{a:Addr}{us:List V}{cs:Cmds}(h:eN H as css)(e:H a=some (.lst us))(c:hZ H us cs):eN H (as++[a]) (css++[cs]):=by
 induction h with
 | nil=>exact .cons e c .nil
 | cons x y _ ih=>exact .cons x y ih
def eN.len{H:Hp}{as:List Addr}{css:List Cmds}(h:eN H as css):as.length=css.length:=by
 induction h with
 | nil=>rfl
 | cons _ _ _ ih=>simp[ih]
def eN.there{H:Hp}{as:List Addr}{css:List Cmds}(h:eN H as css):∀ a∈as,∃ o,H a=some o:=by
 induction h with
 | nil=>intro a ha;simp at ha
 | cons e _ _ ih =>
  intro a ha;rcases List.mem_cons.mp ha with rfl|ha
  ·exact⟨_,e⟩
  ·exact ih a ha
def lV:∀(l:List Hap) (S:Pu),(takes S l).2.length=l.length
 | [],_=>rfl
 | h::l,S=>by simp only[takes,List.length_cons,lV l]
def cP.kY{H:Hp}{vs:List V}{hs:List Hap}(h:cP H vs hs):∀ {i:Nat} {v:V},vs[i]?=some v->∃ x,hs[i]?=some x/\mY H v x:=by
 induction h with
 | nil=>intro i v e;simp at e
 | cons a _ ih =>
  intro i v e;cases i with
  | zero=>simp only[List.getElem?_cons_zero,Option.some.injEq] at e;subst e;exact⟨_,rfl,a⟩
  | succ i=>exact ih (by simpa using e)
def Fw.OC{R:Rn}{as as':List Addr}{G0 G H':Hp}(F:Fw R as as' G H')(k:Kp [] G0 G)(h:∀ a,a∈R.cells\/a∈as->G0 a=none):Kp [] G0 H':=fun b o e _=>F.kp b o (k.at e) (fun z=>by rw[h b (.inl z)] at e;cases e) (fun z=>by rw[h b (.inr z)] at e;cases e)
def _root_.L2.Kp.mX{H H':Hp}{p:Addr}(k:Kp [] H H')(h:H' p=none):H p=none:=by
 cases e:H p with
 | none=>rfl
 | some o=>rw[k.at e] at h;cases h
def LI(w:Wo):fH [] w=none:=by cases w<;>rfl
def JM{wt:Bool}{b:List Stm}(g:yB wt b)(d:xX b<=20):Fit wt (dD b) 0 :=
 {nm:=Nat.le_refl _,md:=Nat.le_refl _,pd:=Nat.le_refl _,an:=Nat.le_refl _,lt:=Nat.le_refl _,lw:=fun k ws h=>(by cases h)
  pl:=⟨fun _=>lO,lO,fun w=>(by show dQ (fH [] w);rw[LI];exact lO)⟩
  nw:=⟨Int.le_refl _,by show(0:Int)<=1000000000000;decide⟩
  sk:=⟨⟨Nat.zero_le _,by simp⟩,fun x hx=>(by rw[show x=(0,b,0) by simpa[dD] using hx];exact g),⟨by simpa using d,trivial⟩⟩
  sl:=⟨fun k e=>(by cases e),fun k e=>(by cases e)⟩}
def xU.kt{H H':Hp}{v:V}{S:Pu}(h:xU H v S)(k:aP H H'):xU H' v S:=by
 unfold xU at *;split at h
 ·next hg =>
  rw[if_pos hg];obtain⟨p,pl,pn,po,pa,pt,sl,un,ua,ut,e,a1,a2,a3,a4,a5,a6,a7,a8,a9,a10⟩:=h;exact⟨p,pl,pn,po,pa,pt,sl,un,ua,ut,e,k _ _ a1,a2.kt k,k _ _ a3,k _ _ a4,a5.kt k,k _ _ a6,k _ _ a7,a8.kt k,k _ _ a9,a10.kt k⟩
 ·next hg =>
  rw[if_neg hg];exact h.kt k
def SJ(C:Cl):Sp:=fun vs H Q _=>∃(pg hl:Addr) (us hv:List V) (b:List Stm) (hs:List Hap),vs=[.ref pg,.ref hl]/\H pg=some (.tup us)/\cH H us b/\yB true b/\xX b<=20/\H hl=some (.lst hv)/\cP H hv hs/\(∀ h∈hs,h.D4)/\hs.length<=1000 /\
 ∀(t:Addr) (R:Rn) (as:List Addr) (sl:V) (cl:Addr) (rs:List Addr) (H':Hp),H' t=some (.tup [.ref R.x,.ref cl])->aZ C H' R as sl (takes (dD b) hs).1->Fit true (takes (dD b) hs).1 (302 * hs.length)->(takes (dD b) hs).1.sl.isN=false->H' cl=some (.lst (rs.map V.ref))->eN H' rs (takes (dD b) hs).2->rs.Nodup->(∀ a∈rs,a∉R.cells/\a∉as/\H a=none/\a≠cl)->(cl∉R.cells/\cl∉as)->(∀ a,a∈R.cells\/a∈as->H a=none)->H cl=none->Kp [] H H'->Q (.ref t) H'
def kC:∀(l:List Hap) (S:Pu) (n:Nat),(takes S (l.take n)).2=(takes S l).2.take n
 | [],S,n=>by simp[takes]
 | h::l,S,0=>by simp[takes]
 | h::l,S,n+1=>by simp only[List.take_succ_cons,takes,kC l]
def JD{K:q0B}{H:Hp}{n:Nat}{a b:Addr}{xs ys:List V}(ha:H a=some (.tup xs))(hb:H b=some (.tup ys))(hl:xs.length=ys.length)(h:∀(j:Nat) x y,xs[j]?=some x->ys[j]?=some y->yK K H n x y true):yK K H (n+1) (.ref a) (.ref b) true:=by
 by_cases hab:a=b
 ·subst hab;exact .same
 ·refine .refs hab ?_;have:=yL.tup (K:=K) (H:=H) (n:=n) (e:=fun _=>true) (fA.of ha) (fA.of hb) h
  rwa [show((List.range (min xs.length ys.length)).all (fun _=>true)&&xs.length==ys.length)=true by simp[hl]] at this
def EA{K:q0B}{H:Hp}{n:Nat}{a b:Addr}{xs ys:List V}(ha:H a=some (.lst xs))(hb:H b=some (.lst ys))(hl:xs.length=ys.length)(h:∀(j:Nat) x y,xs[j]?=some x->ys[j]?=some y->yK K H n x y true):yL K H (n+1) a b true:=by
 have:=yL.list (K:=K) (H:=H) (n:=n) (e:=fun _=>true) (dR.of ha) (dR.of hb) hl h
 rwa [show(List.range xs.length).all (fun _=>true)=true by simp] at this
def Rw{K:q0B}{H:Hp}{n:Nat}{a b:Addr}{xs ys:List V}(ha:H a=some (.lst xs))(hb:H b=some (.lst ys))(hl:xs.length=ys.length)(h:∀(j:Nat) x y,xs[j]?=some x->ys[j]?=some y->yK K H n x y true):yK K H (n+1) (.ref a) (.ref b) true:=by
 by_cases hab:a=b
 ·subst hab;exact .same
 ·exact .refs hab (EA ha hb hl h)
def Ft{K:q0B}{H:Hp}{n:Nat}{x:V}(h:dC x=true)(e:uZ x x=true):yK K H n x x true:=by
 have:=yK.flat (K:=K) (H:=H) (n:=n) h h
 rwa [e] at this
def xD(cs:Cmds):Prop:=∀ c∈cs,∀ v∈c,dC v=true/\uZ v v=true
def UB{K:q0B}{H:Hp}{n:Nat}{us vs:List V}{cs:Cmds}(h:hZ H us cs)(g:hZ H vs cs)(f:xD cs):∀(j:Nat) x y,us[j]?=some x->vs[j]?=some y->yK K H (n+1) x y true:=fun j x y e1 e2=>by
 obtain⟨a,c,rfl,e3,ha⟩:=h.at e1;obtain⟨b,c',rfl,e4,hb⟩:=g.at e2;rw[e3] at e4;cases e4;refine JD ha hb rfl fun i v w e5 e6=>?_;rw[e5] at e6;cases e6;have:=f c (List.mem_of_getElem? e3) v (List.mem_of_getElem? e5);exact Ft this.1 this.2
def cP.snoc{H:Hp}{vs:List V}{hs:List Hap}{v:V}{h:Hap}(x:cP H vs hs)(a:mY H v h):cP H (vs++[v]) (hs++[h]):=by
 induction x with
 | nil=>exact .cons a .nil
 | cons b _ ih=>exact .cons b ih
def cP.take{H:Hp}{vs:List V}{hs:List Hap}(n:Nat)(x:cP H vs hs):cP H (vs.take n) (hs.take n):=by
 induction x generalizing n with
 | nil=>simpa using cP.nil
 | cons a b ih =>
  cases n with
  | zero=>exact .nil
  | succ n=>exact .cons a (ih n)
def yS{xs:List V}{m:Nat}:mC xs none (some (m:Int))=xs.take m:=by
 unfold mC;rw[HT.Pr,HT.SD,List.drop_zero,Nat.sub_zero,List.take_eq_take_iff];omega
def Kb(v:V):Prop:=dC v=true/\uZ v v=true
def bY(x:Str):Kb (.str x):=⟨rfl,by simp[JE]⟩
def gH(i:Int):Kb (.int i):=⟨rfl,by simp[Rx]⟩
def gI(w:Wo):Kb (wv w):=by
 cases w with
 | none=>exact⟨rfl,rfl⟩
 | some i=>exact gH i
structure gO(K:q0B)(H:Hp)(n:Nat)(xs ys:List V):Prop where
 len:xs.length=ys.length
 at':∀(j:Nat) x y,xs[j]?=some x->ys[j]?=some y->yK K H n x y true
section
variable {K:q0B} {H:Hp} {n:Nat} {a b:Addr} {x y:V} {xs ys us vs:List V}
def gO.nil:gO K H n [] []:=⟨rfl,fun j x y e=>by simp at e⟩
def gO.cons(h:yK K H n x y true)(t:gO K H n xs ys):gO K H n (x::xs) (y::ys):=⟨by simp[t.len],fun j u v e1 e2=>by
 cases j with
 | zero =>
  simp only[List.getElem?_cons_zero,Option.some.injEq] at e1 e2;subst e1 e2;exact h
 | succ j=>exact t.at' j u v (by simpa using e1) (by simpa using e2)⟩
def gO.app(h:gO K H n xs ys)(t:gO K H n us vs):gO K H n (xs++us) (ys++vs):=⟨by simp[h.len,t.len],fun j u v e1 e2=>by
 by_cases c:j < xs.length
 ·rw[List.getElem?_append_left c] at e1;rw[List.getElem?_append_left (by rw[<- h.len];exact c)] at e2;exact h.at' j u v e1 e2
 ·rw[List.getElem?_append_right (by omega)] at e1;rw[List.getElem?_append_right (by rw[<- h.len];omega),<- h.len] at e2;exact t.at' _ u v e1 e2⟩
def Kb.eq(h:Kb x):yK K H n x x true:=Ft h.1 h.2
def gO.refl(h:∀ v∈xs,Kb v):gO K H n xs xs:=⟨rfl,fun j u v e1 e2=>by
 rw[e1] at e2;cases e2;exact(h u (List.mem_of_getElem? e1)).eq⟩
def gO.tup(h:gO K H n xs ys)(ha:H a=some (.tup xs))(hb:H b=some (.tup ys)):yK K H (n+1) (.ref a) (.ref b) true:=JD ha hb h.len h.at'
def gO.rcL(h:gO K H n xs ys)(ha:H a=some (.lst xs))(hb:H b=some (.lst ys)):yL K H (n+1) a b true:=EA ha hb h.len h.at'
def gO.lst(h:gO K H n xs ys)(ha:H a=some (.lst xs))(hb:H b=some (.lst ys)):yK K H (n+1) (.ref a) (.ref b) true:=Rw ha hb h.len h.at'
def gO.rcT(h:gO K H n xs ys)(ha:H a=some (.tup xs))(hb:H b=some (.tup ys)):yL K H (n+1) a b true:=by
 have:=yL.tup (K:=K) (H:=H) (n:=n) (e:=fun _=>true) (fA.of ha) (fA.of hb) h.at'
 rwa [show((List.range (min xs.length ys.length)).all (fun _=>true)&&xs.length==ys.length)=true by simp[h.len]] at this
def Nw{cs:Cmds}(h:hZ H us cs)(g:hZ H vs cs)(f:xD cs):gO K H (n+1) us vs:=⟨by rw[h.len,g.len],UB h g f⟩
def Kh{ps:List (V×V)}(h:e9 H us ps)(g:e9 H vs ps)(f:∀ p∈ps,Kb p.1/\Kb p.2):gO K H (n+1) us vs:=by
 induction h generalizing vs with
 | nil=>cases g;exact .nil
 | @cons a x y us ps e _ ih =>
  cases g with
  | cons e2 g =>
   have:=f (x,y) (by simp);exact .cons (gO.tup (.cons this.1.eq (.cons this.2.eq .nil)) e e2) (ih g fun p hp=>f p (List.mem_cons_of_mem _ hp))
def RU{ps:List (Str×List Wo)}(h:iT H us ps)(g:iT H vs ps):gO K H (n+2) us vs:=by
 induction h generalizing vs with
 | nil=>cases g;exact .nil
 | @cons a b k ws us ps e e' _ ih =>
  cases g with
  | cons e2 e2' g =>
   refine .cons (gO.tup (.cons (bY k).eq (.cons (gO.tup (gO.refl fun v hv=>?_) e' e2') .nil)) e e2) (ih g);obtain⟨w,_,rfl⟩:=List.mem_map.mp hv;exact gI w
def tI(ts:List Int):∀ v∈ts.map V.int,Kb v:=fun v hv=>by
 obtain⟨i,_,rfl⟩:=List.mem_map.mp hv;exact gH i
def Wy{s:Slp}(h:iU H x s)(g:iU H y s):yK K H (n+2) x y true:=by
 cases s with
 | non =>
  rw[show x=.non from h,show y=.non from g];exact(show Kb .non from ⟨rfl,rfl⟩).eq
 | new =>
  obtain⟨p,rfl,e⟩:=h;obtain⟨p2,rfl,e2⟩:=g;exact gO.tup (.cons (bY _).eq .nil) e e2
 | wait ts =>
  obtain⟨p,p2,rfl,e,f⟩:=h;obtain⟨q,q2,rfl,e2,f2⟩:=g;exact gO.tup (.cons (bY _).eq (.cons (gO.tup (gO.refl (tI ts)) f f2) .nil)) e e2
 | aaB k =>
  obtain⟨p,rfl,e⟩:=h;obtain⟨p2,rfl,e2⟩:=g;exact gO.tup (.cons (bY _).eq (.cons (bY _).eq .nil)) e e2
 | ended w =>
  obtain⟨p,rfl,e⟩:=h;obtain⟨p2,rfl,e2⟩:=g;exact gO.tup (.cons (bY _).eq (.cons (gI _).eq .nil)) e e2
 | worn =>
  obtain⟨p,rfl,e⟩:=h;obtain⟨p2,rfl,e2⟩:=g;exact gO.tup (.cons (bY _).eq .nil) e e2
def Ba(nm:List (Str×Wo)):∀(l:List Str),∀ p∈fI nm l,Kb p.1/\Kb p.2
 | [],p,h=>by simp[fI] at h
 | k::l,p,h=>by
  simp only[fI] at h;split at h
  ·exact Ba nm l p h
  ·rcases List.mem_cons.mp h with rfl|h
   ·exact⟨bY _,gI _⟩
   ·exact Ba nm l p h
end
def eJ:xD []:=fun _ h=>by cases h
def Lx{a b:Cmds}(h:xD a)(g:xD b):xD (a++b):=fun c hc=>by
 rcases List.mem_append.mp hc with hc|hc
 ·exact h c hc
 ·exact g c hc
def eW{c:List V}(h:∀ v∈c,Kb v):xD [c]:=fun x hx=>by
 rw[show x=c by simpa using hx];exact h
def Qq(m:Nat)(cs:Cmds):Prop:=xD cs/\cs.length<=m
def Nz(S:Pu)(m:Stm):Qq 1 (cU S m).2:=by
 refine⟨?_,Fs S m⟩;cases m with
 | set x s=>exact eJ
 | order x y s=>exact eW (by simp only[List.forall_mem_cons];exact⟨bY _,gH _,bY _,gI _,by simp⟩)
 | child x y s=>exact eW (by simp only[List.forall_mem_cons];exact⟨bY _,gH _,bY _,gI _,by simp⟩)
 | aaE x s=>exact eW (by simp only[List.forall_mem_cons];exact⟨bY _,gH _,gH _,by simp⟩)
 | send s k r=>exact eW (by simp only[List.forall_mem_cons];exact⟨bY _,gI _,bY _,gI _,by simp⟩)
 | drop s =>
  simp only[Own.cU];split
  ·split
   ·exact eW (by simp only[List.forall_mem_cons];exact⟨bY _,gH _,by simp⟩)
   ·exact eJ
  ·exact eJ
 | aaB x k =>
  simp only[Own.cU];split<;>exact eJ
 | wait x ss =>
  simp only[Own.cU];split<;>exact eJ
 | fin s=>exact eW (by simp only[List.forall_mem_cons];exact⟨bY _,gI _,by simp⟩)
 | whl s b=>exact eJ
 | iff s b o=>exact eJ
def Se(S:Pu)(m:Stm):Qq 1 (one S m).2:=by
 unfold one;split
 ·exact⟨eJ,by simp⟩
 ·exact Nz S m
def sV:∀(n:Nat) (S:Pu),Qq (n+1) (iI n S).2
 | 0,S=>by
  cases e:cM S.cJ.stk with
  | none=>rw[dS e];exact⟨eW (by simp only[List.forall_mem_cons];exact⟨bY _,gI _,by simp⟩),by simp[Pu.ends]⟩
  | some m=>rw[jF e];exact⟨eW (by simp only[List.forall_mem_cons];exact⟨bY _,by simp⟩),by simp[Pu.Dz]⟩
 | n+1,S=>by
  cases e:cM S.cJ.stk with
  | none=>rw[dS e];exact⟨eW (by simp only[List.forall_mem_cons];exact⟨bY _,gI _,by simp⟩),by simp[Pu.ends]⟩
  | some m =>
   have h1:=Se S.cJ m;cases z:(one S.cJ m).1.sl.isN with
   | true =>
    rw[pU e z];have h2:=sV n (one S.cJ m).1;exact⟨Lx h1.1 h2.1,by simp only[List.length_append];have:=h1.2;have:=h2.2;omega⟩
   | false=>rw[jE e z];exact⟨h1.1,by have:=h1.2;omega⟩
def Hz(S:Pu)(w:Wo):Qq 301 (S.wake w).2:=by
 unfold Pu.wake;split
 ·exact sV 300 _
 ·exact sV 300 _
 ·exact⟨eJ,by simp⟩
def Ht(S:Pu)(x:Hap):Qq 301 (S.take x).2:=by
 have nl:Qq 301 []:=⟨eJ,by simp⟩;unfold Pu.take;split
 ·exact nl
 cases x with
 | beg m w=>exact sV 300 _
 | don m i w =>
  show Qq 301 ((S.at' m).gR i w).2;unfold Pu.gR;split
  ·split
   ·exact Hz _ _
   ·exact nl
  ·exact nl
 | ltr m k w =>
  show Qq 301 ((S.at' m).iC k w).2;unfold Pu.iC;split
  ·split
   ·exact Hz _ _
   ·exact nl
  ·exact nl
def wZ:∀(l:List Hap) (S:Pu),∀ cs∈(takes S l).2,Qq 301 cs
 | [],S,cs,h=>by simp[takes] at h
 | x::l,S,cs,h=>by
  simp only[takes,List.mem_cons] at h;rcases h with rfl|h
  ·exact Ht S x
  ·exact wZ l _ cs h
def Hap.inK(h:Hap):Prop:=h.D4/\∀ m k w,h=.ltr m k w->k∈KY3
def dX.takes{L:List Str}:∀(l:List Hap) {S:Pu},dX L S->dX L (takes S l).1
 | [],_,h=>h
 | x::l,_,h=>dX.takes l (h.take x)
def eM.takes:∀(l:List Hap) {S:Pu},eM KY3 S->(∀ h∈l,h.inK)->eM KY3 (takes S l).1
 | [],_,h,_=>h
 | x::l,_,h,f=>eM.takes l (h.take x (f x (by simp)).2) fun y hy=>f y (List.mem_cons_of_mem _ hy)
def V9{b:List Stm}(h:dZ NM4 b):dX NM4 (dD b):=⟨by simp[dD],by simp[dD],fun x hx=>by rw[show x=(0,b,0) by simpa[dD] using hx];exact h⟩
def V2{b:List Stm}:eM KY3 (dD b):=⟨by simp[dD],by simp[dD]⟩
structure Fine(S:Pu)(N:Nat):Prop where
 fit:Fit true S N
 isN:S.sl.isN=false
 nm:dX NM4 S
 lt:eM KY3 S
def zB(H:Hp)(tl:Nat->List V)(rs:List Addr)(css:List Cmds):Prop:=rs.length=css.length/\∀(j:Nat) (a:Addr) (cs:Cmds),rs[j]?=some a->css[j]?=some cs->∃ us,H a=some (.lst (us++tl j))/\hZ H us cs
def zB.of{H:Hp}{rs:List Addr}{css:List Cmds}(h:eN H rs css):zB H (fun _=>[]) rs css:=by
 induction h with
 | nil=>exact⟨rfl,fun j a cs e=>by simp at e⟩
 | @cons a us cs as css e c _ ih =>
  refine⟨by simp[ih.1],fun j b ds e1 e2=>?_⟩;cases j with
  | zero =>
   simp only[List.getElem?_cons_zero,Option.some.injEq] at e1 e2;subst e1 e2;exact⟨us,by simpa using e,c⟩
  | succ j=>exact ih.2 j b ds (by simpa using e1) (by simpa using e2)
def zB.keep{H H':Hp}{tl:Nat->List V}{rs:List Addr}{css:List Cmds}(h:zB H tl rs css)(k:∀ a∈rs,∀ o,H a=some o->H' a=some o)(t:aP H H'):zB H' tl rs css:=⟨h.1,fun j a cs e1 e2=>by
 obtain⟨us,e,c⟩:=h.2 j a cs e1 e2;exact⟨us,k a (List.mem_of_getElem? e1) _ e,c.kt t⟩⟩
def zB.kp{H H':Hp}{tl:Nat->List V}{rs:List Addr}{css:List Cmds}(h:zB H tl rs css)(k:Kp [] H H'):zB H' tl rs css:=h.keep (fun _ _ _ e=>k.at e) (aP.nil k)
def zB.take{H:Hp}{tl:Nat->List V}{rs:List Addr}{css:List Cmds}(h:zB H tl rs css)(m:Nat):zB H tl (rs.take m) (css.take m):=⟨by simp[h.1],fun j a cs e1 e2=>by
 rw[List.getElem?_take] at e1 e2;split at e1
 ·next hj=>rw[if_pos hj] at e2;exact h.2 j a cs e1 e2
 ·cases e1⟩
def zB.at'{H:Hp}{tl:Nat->List V}{rs:List Addr}{css:List Cmds}(h:zB H tl rs css){j:Nat}{a:Addr}(e:rs[j]?=some a):∃ us cs,css[j]?=some cs/\H a=some (.lst (us++tl j))/\hZ H us cs:=by
 have hj:j < css.length:=by rw[<- h.1];exact(List.getElem?_eq_some_iff.mp e).1
 obtain⟨us,e1,c⟩:=h.2 j a css[j] e (List.getElem?_eq_getElem hj);exact⟨us,css[j],List.getElem?_eq_getElem hj,e1,c⟩
def zB.there{H:Hp}{tl:Nat->List V}{rs:List Addr}{css:List Cmds}(h:zB H tl rs css):∀ a∈rs,∃ us,H a=some (.lst us):=fun a ha=>by
 obtain⟨j,e⟩:=List.mem_iff_getElem?.mp ha;obtain⟨us,cs,_,e1,_⟩:=h.at' e;exact⟨_,e1⟩
def zB.rc{K:q0B}{H:Hp}{n:Nat}{tl:Nat->List V}{rs rs':List Addr}{css:List Cmds}{a b:Addr}(h:zB H tl rs css)(g:zB H tl rs' css)(ha:H a=some (.lst (rs.map V.ref)))(hb:H b=some (.lst (rs'.map V.ref)))(f:∀ cs∈css,Qq 301 cs)(ft:∀ j,∀ v∈tl j,Kb v):yL K H (n+3) a b true:=by
 refine EA ha hb (by simp[h.1,g.1]) fun j x y e1 e2=>?_;rw[List.getElem?_map] at e1 e2;obtain⟨c,e3,rfl⟩:=Option.map_eq_some_iff.mp e1;obtain⟨d,e4,rfl⟩:=Option.map_eq_some_iff.mp e2;obtain⟨us,cs,e5,e6,hc⟩:=h.at' e3;obtain⟨vs,e7,hd⟩:=g.2 j d cs e4 e5;exact gO.lst ((Nw hc hd (f cs (List.mem_of_getElem? e5)).1).app (gO.refl (ft j))) e6 e7
section
variable {C:Cl} {G G':Hp} {R1 R2:Rn} {as1 as2 as':List Addr} {sl1 sl2 sl':V} {S1 S2 S':Pu} {L:List Addr}
variable {t2 x2 cl1 cl2 cl hl hd st:Addr} {rs1 rs2 rs3:List Addr} {hv hv':List V} {css:List Cmds}
variable {G0:Hp} {S:Pu} {i:Nat}
end
def Fine.args{S:Pu}{N:Nat}(h:Fine S N)(l:N<=900000):S.sl.isN=false/\S.pend.length<=1000000/\S.nm.length < 64/\S.lt.length < 64/\S.ans.length<=1000000/\(∀ k ws,cO S.lt k=some ws->ws.length<=1000000):=by
 have h1:=h.nm.len;have h2:=h.lt.len;have h3:NM4.length=4:=rfl;have h4:KY3.length=3:=rfl;have h5:=h.fit.pd;have h6:=h.fit.an;exact⟨h.isN,by omega,by omega,by omega,by omega,fun k ws e=>by have:=h.fit.lw k ws e;omega⟩
def Fine.take{S:Pu}{N:Nat}(h:Fine S N){x:Hap}(f:x.inK)(l:N<=400000)(hp:∀ j∈S.pend,dQ (some j)):Fine (S.take x).1 (N+302):=⟨h.fit.EZ x f.1.1 f.1.2 hp (by omega),BU h.isN x,h.nm.take x,h.lt.take x f.2⟩
def Fine.pend{C:Cl}{H:Hp}{R:Rn}{as:List Addr}{sl:V}{S:Pu}{N:Nat}(h:Fine S N)(A:aZ C H R as sl S)(l:N<=900000):∀ j∈S.pend,dQ (some j):=fun j hj=>by
 have:=A.tk.lt j hj;have:=h.fit.md;exact eO (by omega) (by omega)
def Fine.new{b:List Stm}{l:List Hap}(g:Fit true (takes (dD b) l).1 (302 * l.length))(n:(takes (dD b) l).1.sl.isN=false)(nb:dZ NM4 b)(f:∀ h∈l,h.inK):Fine (takes (dD b) l).1 (302 * l.length):=⟨g,n,(V9 nb).takes l,V2.takes l f⟩
def GO:List V:=[.str "order",.str "timer",.str "child",.str "send",.str "drop",.str "wait",.str "hear",.str "if",.str "else",.str "done",.str "while",.str "end",.str "none",.str "arg",.str "now",.str "answer",.str "not"]
def Co(x:Str):Prop:=(decide (1<=x.length)&&(decide (x.length<=6)&&(x.cps.toList.all (fun c=>decide (97<=c)&&decide (c<=122))&&!sW (.str x) GO)))=true
def Co.len{x:Str}(h:Co x):x.length<=20:=by
 unfold Co at h;simp only[Bool.and_eq_true,decide_eq_true_eq] at h;omega
def EX(a b:Str):(a++b).length=a.length+b.length:=by
 show(a.cps++b.cps).size=_;rw[Array.size_append];rfl
def Hap.ok:Hap->Prop
 | .beg m w=>(0<=m/\m<=1000000000000)/\dQ w
 | .don m t w=>(0<=m/\m<=1000000000000)/\(0<=t/\t<=1000000000)/\dQ w
 | .ltr m k w=>(0<=m/\m<=1000000000000)/\Co k/\dQ w
def tw:V->Str
 | .non=>"-"
 | .str x=>x
 | .int i=>Str.ofString (toString i)
 | _=>""
def Tw:V->Prop
 | .non=>True
 | .str x=>x.length<=20
 | .int i=>-1000000000000<=i/\i<=1000000000000
 | _=>False
def tlen{n:Int}(h0:-1000000000000<=n)(h1:n<=1000000000000):(Str.ofString (toString n)).length<=20:=by
 rw[show(Str.ofString (toString n)).length=(toString n).length from PySem.ofString_length _];cases n with
 | ofNat m =>
  show(Nat.repr m).length<=20;have:(Nat.repr m).length<=19:=(Nat.length_repr_le_iff (by decide)).mpr (by have:(Int.ofNat m)=(m:Int):=rfl;omega);omega
 | negSucc m =>
  show("-"++Nat.repr (m+1)).length<=20;have:(Nat.repr (m+1)).length<=19:=(Nat.length_repr_le_iff (by decide)).mpr (by
   have:Int.negSucc m = -((m:Int)+1):=by omega
   omega)
  rw[String.length_append];show 1+_<=20;omega
def tlog{n:Int}(h0:-1000000000000<=n)(h1:n<=1000000000000):n.natAbs.log2 < 1920:=by
 have h:n.natAbs < 2 ^ 1920:=Nat.lt_of_le_of_lt (show n.natAbs<=1000000000000 by omega) (Nat.lt_of_lt_of_le (show 1000000000000 < 2 ^ 40 by decide) (Nat.pow_le_pow_right (by decide) (by decide)));by_cases z:n.natAbs=0
 ·rw[z];decide
 ·exact(Nat.log2_lt z).mpr h
def Tw.len{v:V}(h:Tw v):(tw v).length<=20:=by
 cases v with
 | non=>exact by decide +kernel
 | str x=>exact h
 | int i=>exact tlen h.1 h.2
 | _=>exact h.elim
def Js{w:Wo}(h:dQ w):Tw (wv w):=by
 cases w with
 | none=>trivial
 | some n=>have:=h n rfl;exact⟨by omega,by omega⟩
def Hap.Tws{h:Hap}(x:h.ok):∀ v∈h.vs,Tw v:=by
 intro v hv;simp only[Hap.vs,List.mem_append,List.mem_cons,List.not_mem_nil,or_false] at hv;cases h with
 | beg m w =>
  simp only[Hap.ini,Hap.w,List.mem_cons,List.not_mem_nil,or_false] at hv;rcases hv with(rfl|rfl)|rfl
  ·exact show(_:Str).length<=20 by decide +kernel
  ·exact⟨by have:=x.1;omega,by have:=x.1;omega⟩
  ·exact Js x.2
 | don m t w =>
  simp only[Hap.ini,Hap.w,List.mem_cons,List.not_mem_nil,or_false] at hv;rcases hv with(rfl|rfl|rfl)|rfl
  ·exact show(_:Str).length<=20 by decide +kernel
  ·exact⟨by have:=x.1;omega,by have:=x.1;omega⟩
  ·exact⟨by have:=x.2.1;omega,by have:=x.2.1;omega⟩
  ·exact Js x.2.2
 | ltr m k w =>
  simp only[Hap.ini,Hap.w,List.mem_cons,List.not_mem_nil,or_false] at hv;rcases hv with(rfl|rfl|rfl)|rfl
  ·exact show(_:Str).length<=20 by decide +kernel
  ·exact⟨by have:=x.1;omega,by have:=x.1;omega⟩
  ·exact x.2.1.len
  ·exact Js x.2.2
def Hap.Qi(h:Hap):h.vs.length<=4/\h.ini.length+1=h.vs.length/\2<=h.ini.length:=by cases h<;>simp[Hap.vs,Hap.ini]
def ME{B:Nat}:∀ {ys:List Str},(∀ y∈ys,y.length<=B)->(ys.map fun z=>z.length).sum<=B * ys.length
 | [],_=>by simp
 | y::ys,h=>by
  have h1:=ME (ys:=ys) fun z hz=>h z (List.mem_cons_of_mem _ hz);have h2:=h y (by simp);simp only[List.map_cons,List.sum_cons,List.length_cons,Nat.mul_add,Nat.mul_one];omega
def AM(g:Str):∀ ys:List Str,(Txt.join g ys).length<=(ys.map fun z=>z.length).sum+ys.length * g.length:=by
 have f:∀(l:List Str) (a:Array Nat),(List.foldl (fun acc (p:Str)=>acc++g.cps++p.cps) a l).size=a.size+(l.map fun z=>z.length).sum+l.length * g.length:=by
  intro l
  induction l with
  | nil=>intro a;simp
  | cons y l ih =>
   intro a;rw[List.foldl_cons,ih];simp only[Array.size_append,List.map_cons,List.sum_cons,List.length_cons,Nat.succ_mul];have h1:g.length=g.cps.size:=rfl;have h2:y.length=y.cps.size:=rfl;omega
 intro ys;cases ys with
 | nil=>exact Nat.zero_le _
 | cons y l =>
  have h:=f l y.cps;show(List.foldl (fun acc (p:Str)=>acc++g.cps++p.cps) y.cps l).size<=_;rw[h];have h2:y.length=y.cps.size:=rfl;simp only[List.map_cons,List.sum_cons,List.length_cons,Nat.succ_mul];omega
def jlens:(" ":Str).length=1/\("\n":Str).length=1/\("":Str).length=0:=by decide +kernel
def Hap.row(h:Hap):Str:=Txt.join " " (h.vs.map tw)
def Hap.line(h:Hap):Str:=h.row++"\n"
def Hap.EB{h:Hap}(x:h.ok):h.row.length<=100:=by
 have h1:=AM " " (h.vs.map tw);have h2:=ME (B:=20) (ys:=h.vs.map tw) fun y hy=>by
  obtain⟨v,hv,rfl⟩:=List.mem_map.mp hy;exact(Hap.Tws x v hv).len
 have h3:=h.Qi.1;rw[jlens.1,List.length_map] at h1;rw[List.length_map] at h2;unfold Hap.row;omega
def dE(hs:List Hap):Str:=Txt.join "" (hs.map Hap.line)
def Yw:Sp:=fun vs H Q _=>∃ v:V,vs=[v]/\Tw v/\Q (.str (tw v)) H
def ZA{v:V}{H:Hp}{Q:VK}{E:XK}:Yw [v] H Q E=(Tw v/\Q (.str (tw v)) H):=propext ⟨fun⟨_,e,h⟩=>by cases e;exact h,fun h=>⟨_,rfl,h⟩⟩
def Yv:Sp:=fun vs H Q _=>∃(v:V) (h:Hap),vs=[v]/\mY H v h/\h.ok/\∀ H',Kp [] H H'->Q (.str h.row) H'
def T9:Sp:=fun vs H Q _=>∃(p:Addr) (us:List V) (hs:List Hap),vs=[.ref p]/\H p=some (.lst us)/\cP H us hs/\(∀ h∈hs,h.ok)/\hs.length<=5000/\∀ H',Kp [] H H'->Q (.str (dE hs)) H'
def mW{α:Type}{l:List α}{i:Nat}{y:α}(h:l[i]?=some y):l.take (i+1)=l.take i++[y]:=by rw[List.take_add_one,h];rfl
def Fr(w:Str):Prop:=32∉w.cps.toList/\10∉w.cps.toList
def Fr.nm{x:Str}(h:Co x):Fr x:=by
 unfold Co at h;simp only[Bool.and_eq_true] at h;have:=List.all_eq_true.mp h.2.2.1;refine⟨fun z=>?_,fun z=>?_⟩<;>(have:=this _ z;simp at this)
def Fr.int(n:Int):Fr (Str.ofString (toString n)):=⟨PyProof.Rows.int_text_free' 32 (by decide) n,PyProof.Rows.int_text_free' 10 (by decide) n⟩
def OL{c k:Nat}:∀ {l:List (List Nat)},k∈jn c l->k=c\/∃ w∈l,k∈w
 | [],h=>by simp[jn] at h
 | [w],h=>.inr ⟨w,by simp,h⟩
 | w::v::r,h=>by
  rcases List.mem_append.mp (show k∈w++c::jn c (v::r) from h) with h|h
  ·exact .inr ⟨w,by simp,h⟩
  ·rcases List.mem_cons.mp h with h|h
   ·exact .inl h
   ·rcases OL h with h|⟨z,hz,h⟩
    ·exact .inl h
    ·exact .inr ⟨z,List.mem_cons_of_mem _ hz,h⟩
def Y0(x:Str):Bool:=decide (1<=x.length)&&(decide (x.length<=6)&&(x.cps.toList.all (fun c=>decide (97<=c)&&decide (c<=122))&&!sW (.str x) GO))
def V8{x:Str}:Co x↔Y0 x=true:=Iff.rfl
def RM{α:Type}(z1 z2:α){c:Prop}{inst:Decidable c}{A1 A2 B:Prop}{R:α->Prop}(h1:c->A1/\A2)(h2:¬ c->B)(hR:∀ z,z=(@ite α c inst z1 z2)->R z):@ite Prop c inst (A1/\A2/\R z1) (B/\R z2):=by
 by_cases h:c
 ·rw[if_pos h];exact⟨(h1 h).1,(h1 h).2,hR z1 (if_pos h).symm⟩
 ·rw[if_neg h];exact⟨h2 h,hR z2 (if_neg h).symm⟩
def TZ:Sp:=fun vs H Q _=>∃ c:Nat,vs=[.str ⟨#[c]⟩]/\Q (.bl (decide (97<=c)&&decide (c<=122))) H
def TV:Sp:=fun vs H Q _=>∃ c:Nat,vs=[.str ⟨#[c]⟩]/\Q (.bl (decide (48<=c)&&decide (c<=57))) H
def Ym{c:Nat}{H:Hp}{Q:VK}{E:XK}:TZ [.str ⟨#[c]⟩] H Q E=Q (.bl (decide (97<=c)&&decide (c<=122))) H:=propext ⟨fun⟨_,e,h⟩=>by cases e;exact h,fun h=>⟨_,rfl,h⟩⟩
def Yk{c:Nat}{H:Hp}{Q:VK}{E:XK}:TV [.str ⟨#[c]⟩] H Q E=Q (.bl (decide (48<=c)&&decide (c<=57))) H:=propext ⟨fun⟨_,e,h⟩=>by cases e;exact h,fun h=>⟨_,rfl,h⟩⟩
def Hk:Sp:=fun vs H Q _=>∃ x:Str,vs=[.str x]/\x.length<=1000000/\∀ H',Kp [] H H'->Q (.bl (Y0 x)) H'
def Pn{x:Str}{H:Hp}{Q:VK}{E:XK}:Hk [.str x] H Q E=(x.length<=1000000/\∀ H',Kp [] H H'->Q (.bl (Y0 x)) H'):=propext ⟨fun⟨_,e,h⟩=>by cases e;exact h,fun h=>⟨_,rfl,h⟩⟩
def Fz(l:List Nat):l.length<=(nH l).length+1:=by
 unfold nH;split<;>simp
def OY{x:Str}(h:∀ c∈nH x.cps.toList,48<=c/\c<=57)(hn:nH x.cps.toList≠[])(hl:(nH x.cps.toList).length<=100):∃ n,intText? x=some n:=by
 have hx:x.length=x.cps.toList.length:=by show x.cps.size=_;rw[Array.length_toList]
 have hl2:=Fz x.cps.toList;cases e:x.cps.toList with
 | nil=>rw[e] at hn;exact absurd rfl hn
 | cons c r =>
  by_cases hc:c=45
  ·subst hc;rw[e] at h hn;exact⟨_,intText_neg e h hn (by omega)⟩
  ·have ef:nH (c::r)=c::r:=by
    unfold nH;split
    ·next z=>simp only[List.cons.injEq] at z;exact absurd z.1 hc
    ·rfl
   rw[e,ef] at h hn;exact⟨_,intText_digits (by rw[e];exact h) (by rw[e];exact hn) (by omega)⟩
def Ee(a b:Nat):(decide (([a]:List Nat) < [b]))=decide (a < b):=by
 rw[Bool.eq_iff_iff,decide_eq_true_eq,decide_eq_true_eq];constructor
 ·intro h;cases h with
  | rel h=>exact h
  | cons h=>cases h
 ·exact fun h=>.rel h
def own17:GO.all dC=true:=by decide
def Mw(x:Str)(a b:Option Int):(Txt.slice x a b).length<=x.length:=Txt.slice_le x a b
def glog{n:Int}(h0:0<=n)(h1:n < 10 ^ 40):n.natAbs.log2 < 1920:=by
 have h:n.natAbs < 2 ^ 1920:=Nat.lt_of_lt_of_le (show n.natAbs < 10 ^ 40 by omega) (Nat.le_trans (show 10 ^ 40<=2 ^ 160 by decide) (Nat.pow_le_pow_right (by decide) (by decide)));by_cases z:n.natAbs=0
 ·rw[z];decide
 ·exact(Nat.log2_lt z).mpr h
def glen{n:Int}(h0:0<=n)(h1:n < 10 ^ 40):(Str.ofString (toString n)).length<=40:=by
 obtain⟨m,rfl⟩:∃ m:Nat,n=(m:Int):=⟨n.toNat,by omega⟩;show(Str.ofString (toString (m:Int))).cps.size<=40;rw[<- Array.length_toList,yW];exact(lH (by decide)).mpr (by omega)
def Km:Sp:=fun vs H Q _=>∃(x:Str) (lo hi:Int),vs=[.str x,.int lo,.int hi]/\x.length<=1000000/\(-(10 ^ 40) < lo/\lo<=0/\0<=hi/\hi < 10 ^ 40)/\∀ H',Kp [] H H'->Q (.bl (L0 x lo hi)) H'
def Ss{x:Str}{lo hi:Int}{H:Hp}{Q:VK}{E:XK}:Km [.str x,.int lo,.int hi] H Q E=(x.length<=1000000/\(-(10 ^ 40) < lo/\lo<=0/\0<=hi/\hi < 10 ^ 40)/\∀ H',Kp [] H H'->Q (.bl (L0 x lo hi)) H') :=
 propext ⟨fun⟨_,_,_,e,h⟩=>by cases e;exact h,fun h=>⟨_,_,_,rfl,h⟩⟩
def Lm{a b:Nat}(h:a<=b):(aaC a).length<=(aaC b).length:=by
 have hb:0 < (aaC b).length:=by
  cases e:aaC b with
  | nil=>exact absurd e (yU b)
  | cons _ _=>simp
 exact(lH hb).mpr (Nat.lt_of_le_of_lt h ((lH hb).mp (Nat.le_refl _)))
def Bb{n lo hi:Int}(h0:lo<=n)(h1:n<=hi)(hlo:lo<=0)(hhi:0<=hi)(hn:n.natAbs < 10 ^ 100):L0 (Str.ofString (toString n)) lo hi=true:=by
 have hr:=lN n hn;have all:∀ m:Nat,(aaC m).all (fun c=>decide (48<=c)&&decide (c<=57))=true:=fun m=>List.all_eq_true.mpr fun c hc=>by have:=nZ m c hc;simpa using this
 have d1:∀ m:Nat,1<=(aaC m).length:=fun m=>by
  cases e:aaC m with
  | nil=>exact absurd e (yU m)
  | cons _ _=>simp
 have hM:0<=(if hi > -lo then hi else -lo)/\n.natAbs<=(if hi > -lo then hi else -lo).toNat:=by split<;>omega
 have hL:(Str.ofString (toString (if hi > -lo then hi else -lo))).length=(aaC (if hi > -lo then hi else -lo).toNat).length:=by
  generalize (if hi > -lo then hi else -lo)=M at *;obtain⟨m,rfl⟩:∃ m:Nat,M=(m:Int):=⟨M.toNat,by omega⟩;show(Str.ofString (toString (m:Int))).cps.size=_;rw[<- Array.length_toList,yW];rfl
 have hD:=Lm hM.2;unfold L0;rw[hr,hL];generalize (aaC (if hi > -lo then hi else -lo).toNat).length=L at *;cases n with
 | ofNat m =>
  have e:(Str.ofString (toString (Int.ofNat m))).cps.toList=aaC m:=yW m;have ef:nH (aaC m)=aaC m:=by
   unfold nH;split
   ·next z=>have:=nZ m 45 (by rw[z];simp);omega
   ·rfl
  have z0:(decide ((aaC m)[0]?=some 48)&&!decide (Str.ofString (toString (Int.ofNat m)) = "0"))=false:=by
   rw[Bool.and_eq_false_iff];by_cases hz:(aaC m)[0]?=some 48
   ·right;have:∃ cs,aaC m=48::cs:=by
     cases hq:aaC m with
     | nil=>rw[hq] at hz;cases hz
     | cons a cs=>rw[hq] at hz;simp only[List.getElem?_cons_zero,Option.some.injEq] at hz;exact⟨cs,by rw[hz]⟩
    obtain⟨cs,hc⟩:=this;have m0:=CT hc;subst m0;decide +kernel
   ·left;simpa using hz
  have l2:(aaC m).length<=L:=hD;simp only[e,ef,d1,l2,all,z0,decide_true,Bool.true_and,Bool.not_false,Bool.and_true,Bool.and_eq_true,decide_eq_true_eq];exact⟨h0,h1⟩
 | negSucc m =>
  have e:=JS m;have ef:nH (45::aaC (m+1))=aaC (m+1):=rfl;have z0:(decide ((aaC (m+1))[0]?=some 48)&&!decide (Str.ofString (toString (Int.negSucc m)) = "0"))=false:=by
   rw[Bool.and_eq_false_iff];left;simp only[decide_eq_false_iff_not];intro hz;have:∃ cs,aaC (m+1)=48::cs:=by
    cases hq:aaC (m+1) with
    | nil=>rw[hq] at hz;cases hz
    | cons a cs=>rw[hq] at hz;simp only[List.getElem?_cons_zero,Option.some.injEq] at hz;exact⟨cs,by rw[hz]⟩
   obtain⟨cs,hc⟩:=this;have:=CT hc;omega
  have l2:(aaC (m+1)).length<=L:=hD;simp only[e,ef,d1,l2,all,z0,decide_true,Bool.true_and,Bool.not_false,Bool.and_true,Bool.and_eq_true,decide_eq_true_eq];exact⟨h0,h1⟩
inductive Fits:Str->V->Prop
 | mom {m:Int}:0<=m->m<=1000000000000->Fits "moment" (.int m)
 | tic {m:Int}:0<=m->m<=1000000000->Fits "ticket" (.int m)
 | nam {k:Str}:Co k->Fits "name" (.str k)
 | wor {w:Wo}:dQ w->Fits "worth" (wv w)
structure Row where
 tag:Str
 kinds:List Str
 args:List V
structure Row.ok(r:Row):Prop where
 len:r.kinds.length=r.args.length
 few:r.args.length<=4
 fit:∀(j:Nat) (k:Str) (v:V),r.kinds[j]?=some k->r.args[j]?=some v->Fits k v
 tg:Fr r.tag
 tl:r.tag.length<=20
def Row.ws(r:Row):List Str:=r.tag::r.args.map tw
def Row.txt(r:Row):Str:=Txt.join " " r.ws
def iB(rs:List Row):Str:=Txt.join "" ((rs.map Row.txt).map fun x:Str=>x++"\n")
def KJ(H:Hp)(v:V)(r:Row):Prop:=∃ a,v=.ref a/\H a=some (.tup (.str r.tag::r.args))
def KJ.kp{H H':Hp}{v:V}{r:Row}(x:KJ H v r)(k:Kp [] H H'):KJ H' v r:=by
 obtain⟨a,e,f⟩:=x;exact⟨a,e,k.at f⟩
inductive gP(H:Hp):List V->List Row->Prop
 | nil:gP H [] []
 | cons {v:V} {vs:List V} {h:Row} {hs:List Row}:KJ H v h->gP H vs hs->gP H (v::vs) (h::hs)
def gP.kp{H H':Hp}{vs:List V}{hs:List Row}(x:gP H vs hs)(k:Kp [] H H'):gP H' vs hs:=by
 induction x with
 | nil=>exact .nil
 | cons a _ ih=>exact .cons (a.kp k) ih
def gP.kt{H H':Hp}{vs:List V}{hs:List Row}(x:gP H vs hs)(k:∀ a ys,H a=some (.tup ys)->H' a=some (.tup ys)):gP H' vs hs:=by
 induction x with
 | nil=>exact .nil
 | cons a _ ih =>
  obtain⟨b,e,f⟩:=a;exact .cons ⟨b,e,k _ _ f⟩ ih
def gP.snoc{H:Hp}{vs:List V}{hs:List Row}{v:V}{h:Row}(x:gP H vs hs)(a:KJ H v h):gP H (vs++[v]) (hs++[h]):=by
 induction x with
 | nil=>exact .cons a .nil
 | cons b _ ih=>exact .cons b ih
def gP.len{H:Hp}{vs:List V}{hs:List Row}(x:gP H vs hs):hs.length=vs.length:=by
 induction x with
 | nil=>rfl
 | cons _ _ ih=>simp[ih]
def Fits.wr{k:Str}{v:V}(h:Fits k v):Tw v:=by
 cases h with
 | mom a b=>exact⟨by omega,by omega⟩
 | tic a b=>exact⟨by omega,by omega⟩
 | nam a=>exact a.len
 | wor a=>exact Js a
def RC:Fr "-":=by unfold Fr;decide +kernel
def Fits.fr{k:Str}{v:V}(h:Fits k v):Fr (tw v):=by
 cases h with
 | mom a b=>exact Fr.int _
 | tic a b=>exact Fr.int _
 | nam a=>exact Fr.nm a
 | @wor w a =>
  cases w with
  | none=>exact RC
  | some n=>exact Fr.int n
def Row.fits{r:Row}(x:r.ok):∀ v∈r.args,∃ k,Fits k v:=fun v hv=>by
 obtain⟨j,hj,e⟩:=List.mem_iff_getElem.mp hv;have hk:j < r.kinds.length:=by rw[x.len];exact hj
 exact⟨r.kinds[j],x.fit j _ v (List.getElem?_eq_getElem hk) (by rw[List.getElem?_eq_getElem hj,e])⟩
def Row.frs{r:Row}(x:r.ok):∀ w∈r.ws,Fr w:=fun w hw=>by
 rcases List.mem_cons.mp hw with rfl|hw
 ·exact x.tg
 ·obtain⟨v,hv,rfl⟩:=List.mem_map.mp hw;obtain⟨k,f⟩:=Row.fits x v hv;exact f.fr
def Row.wl{r:Row}(x:r.ok):∀ w∈r.ws,w.length<=20:=fun w hw=>by
 rcases List.mem_cons.mp hw with rfl|hw
 ·exact x.tl
 ·obtain⟨v,hv,rfl⟩:=List.mem_map.mp hw;obtain⟨k,f⟩:=Row.fits x v hv;exact f.wr.len
def Row.split{r:Row}(x:r.ok):Txt.split r.txt " "=r.ws:=by
 unfold Row.txt;rw[oK.2.1];exact Dr (by simp[Row.ws]) fun w hw=>(Row.frs x w hw).1
def Row.nl{r:Row}(x:r.ok):10∉r.txt.cps.toList:=fun h=>by
 unfold Row.txt at h;rw[oK.2.1,yX] at h;rcases OL h with h|⟨w,hw,h⟩
 ·cases h
 ·obtain⟨p,hp,rfl⟩:=List.mem_map.mp hw;exact(Row.frs x p hp).2 h
def Row.KE{r:Row}(x:r.ok):r.txt.length<=105:=by
 have h1:=AM " " r.ws;have h2:=ME (B:=20) (ys:=r.ws) (Row.wl x);have h3:=x.few;have h4:r.ws.length=r.args.length+1:=by simp[Row.ws]
 rw[jlens.1] at h1;unfold Row.txt;omega
def GY{rs:List Row}(h:∀ r∈rs,r.ok):(iB rs).length<=106 * rs.length:=by
 have h1:=AM "" ((rs.map Row.txt).map fun x:Str=>x++"\n");have h2:=ME (B:=106) (ys:=(rs.map Row.txt).map fun x:Str=>x++"\n") fun y hy=>by
  obtain⟨z,hz,rfl⟩:=List.mem_map.mp hy;obtain⟨r,hr,rfl⟩:=List.mem_map.mp hz;have:=Row.KE (h r hr);rw[EX,jlens.2.1];omega
 rw[jlens.2.2,Nat.mul_zero] at h1;simp only[List.length_map] at h2;unfold iB;omega
def Bw{rs:List Row}{tl:Str}(h:∀ r∈rs,r.ok)(ht:10∉tl.cps.toList):Txt.split (iB rs++tl) "\n"=rs.map Row.txt++[tl] :=
 Gc (fun x hx=>by obtain⟨r,hr,rfl⟩:=List.mem_map.mp hx;exact Row.nl (h r hr)) ht
def sX(n:Int)(h:-1000000000000<=n/\n<=1000000000000):(toString n = "-")=False:=eq_false fun e=>by
 have h1:=lN n (Nat.lt_of_le_of_lt (show n.natAbs<=1000000000000 by omega) (by decide));rw[e] at h1;exact absurd h1 (by rw[show intText? (Str.ofString "-")=none by decide +kernel];nofun)
def ZL:Sp:=fun vs H Q _=>∃(k:Str) (v:V),vs=[.str k,.str (tw v)]/\Fits k v/\∀ H',Kp [] H H'->Q (.bl true) H'
def ZK:Sp:=fun vs H Q _=>∃(k:Str) (v:V),vs=[.str k,.str (tw v)]/\Fits k v/\Q v H
def ZG(K:q0B):Sp:=fun vs H Q _=>∃(a f:Addr) (r:Row),vs=[.ref a,.ref f]/\H a=some (.lst (r.ws.map V.str))/\(∀ H,fA K H f (r.kinds.map V.str))/\r.ok/\∀ H',Kp [] H H'->Q (.bl true) H'
def ZI(K:q0B):Sp:=fun vs H Q _=>∃(a f:Addr) (r:Row),vs=[.ref a,.ref f]/\H a=some (.lst (r.ws.map V.str))/\(∀ H,fA K H f (r.kinds.map V.str))/\r.ok/\∀ v H',KJ H' v r->Kp [] H H'->Q v H'
def ZJ(K:q0B):Sp:=fun vs H Q _=>∃(fm:Addr) (kvs:List (Key×V)) (rs:List Row) (tl:Str),vs=[.str (iB rs++tl),.ref fm]/\H fm=some (.dK kvs) /\
 (∀ r∈rs,r.ok/\∃ f,cC kvs (.inr r.tag)=some (.ref f)/\∀ H,fA K H f (r.kinds.map V.str))/\10∉tl.cps.toList/\tl.length<=100/\rs.length<=5000/\∀ p us H',H p=none->H' p=some (.lst us)->gP H' us rs->Kp [] H H'->Q (.ref p) H'
def oC{α β:Type}{f:α->β}{l:List α}{j:Nat}{y:β}(h:(l.map f)[j]?=some y):∃ x,l[j]?=some x/\f x=y:=by
 rw[List.getElem?_map] at h;cases e:l[j]? with
 | none=>rw[e] at h;cases h
 | some x=>rw[e] at h;exact⟨x,rfl,Option.some.inj h⟩
def Mr{n:Nat}:nT (List.replicate n (.bl true))=some (List.replicate n true):=by
 rw[show(List.replicate n (V.bl true))=(List.replicate n true).map V.bl by simp];exact Aq
def Sz{n:Nat}:(List.replicate n true).all id=true:=by simp
def Gq{H:Hp}{a b:Addr}{o:HO}(h:H a=some o)(n:H b=none):b≠a:=fun z=>by rw[z,h] at n;cases n
def Hs(x:V)(xs:List V):mC (x::xs) (some 1) none=xs:=by
 unfold mC;simp[HT.fX]
def Hap.rw:Hap->Row
 | .beg m w=>⟨"begin",["moment","worth"],[.int m,wv w]⟩
 | .don m t w=>⟨"done",["moment","ticket","worth"],[.int m,.int t,wv w]⟩
 | .ltr m k w=>⟨"letter",["moment","name","worth"],[.int m,.str k,wv w]⟩
def Hap.Pq(h:Hap):h.vs=.str h.rw.tag::h.rw.args:=by cases h<;>rfl
def D6:Fr "begin"/\Fr "done"/\Fr "letter":=by unfold Fr;decide +kernel
def Hap.Kj{h:Hap}(x:h.ok):h.rw.ok:=by
 cases h with
 | beg m w =>
  refine⟨rfl,by simp[Hap.rw],fun j k v e1 e2=>?_,D6.1,by simp only[Hap.rw];decide +kernel⟩
  match j,e1,e2 with
  | 0,e1,e2=>cases e1;cases e2;exact .mom x.1.1 x.1.2
  | 1,e1,e2=>cases e1;cases e2;exact .wor x.2
 | don m t w =>
  refine⟨rfl,by simp[Hap.rw],fun j k v e1 e2=>?_,D6.2.1,by simp only[Hap.rw];decide +kernel⟩
  match j,e1,e2 with
  | 0,e1,e2=>cases e1;cases e2;exact .mom x.1.1 x.1.2
  | 1,e1,e2=>cases e1;cases e2;exact .tic x.2.1.1 x.2.1.2
  | 2,e1,e2=>cases e1;cases e2;exact .wor x.2.2
 | ltr m k w =>
  refine⟨rfl,by simp[Hap.rw],fun j k v e1 e2=>?_,D6.2.2,by simp only[Hap.rw];decide +kernel⟩
  match j,e1,e2 with
  | 0,e1,e2=>cases e1;cases e2;exact .mom x.1.1 x.1.2
  | 1,e1,e2=>cases e1;cases e2;exact .nam x.2.1
  | 2,e1,e2=>cases e1;cases e2;exact .wor x.2.2
def AQ(hs:List Hap):dE hs=iB (hs.map Hap.rw):=by
 unfold dE iB;rw[List.map_map,List.map_map]
 congr 1
 refine List.map_congr_left fun h _=>?_;show h.row++"\n"=_;unfold Hap.row;rw[Hap.Pq];rfl
def RG{H:Hp}:∀ {hs:List Hap} {us:List V},gP H us (hs.map Hap.rw)->cP H us hs:=by
 intro hs
 induction hs with
 | nil=>intro us x;cases x;exact .nil
 | cons h hs ih =>
  intro us x;cases x with
  | cons a b =>
   obtain⟨c,e,f⟩:=a;exact .cons ⟨c,e,by rw[f,h.Pq]⟩ (ih b)
def S8{a b c:V}(h:Hap):cC [(Key.inr "begin",a),(.inr "done",b),(.inr "letter",c)] (.inr h.rw.tag)=some (match h with | .beg ..=>a | .don ..=>b | .ltr ..=>c):=by
 have h1:(("begin":Str) = "done")=False/\(("begin":Str) = "letter")=False/\(("done":Str) = "letter")=False:=⟨by simp only[kE,String.reduceEq],by simp only[kE,String.reduceEq],by simp only[kE,String.reduceEq]⟩;cases h<;>simp[cC,Hap.rw,h1]
def ZH:Sp:=fun vs H Q _=>∃(hs:List Hap) (tl:Str),vs=[.str (dE hs++tl)]/\(∀ h∈hs,h.ok)/\10∉tl.cps.toList/\tl.length<=100/\hs.length<=5000/\∀ p us H',H p=none->H' p=some (.lst us)->cP H' us hs->Kp [] H H'->Q (.ref p) H'
def CQ{B:Nat}:∀(rows:List (List Nat)) (c:Nat),(∀ r∈rows,10∉r/\r.length<=B)->∃(m:Nat) (t:List Nat),m<=rows.length/\(rows.flatMap fun r=>r++[10]).take c=((rows.take m).flatMap fun r=>r++[10])++t/\10∉t/\t.length<=B
 | [],c,_=>⟨0,[],Nat.le_refl _,by simp,by simp,Nat.zero_le _⟩
 | r::rows,c,h=>by
  have hr:=h r (by simp);by_cases hc:c<=r.length
  ·refine⟨0,r.take c,Nat.zero_le _,?_,fun z=>hr.1 (List.mem_of_mem_take z),by rw[List.length_take];omega⟩;simp only[List.flatMap_cons,List.take_zero,List.flatMap_nil,List.nil_append,List.append_assoc];rw[List.take_append_of_le_length hc]
  ·obtain⟨m,t,h1,h2,h3,h4⟩:=CQ rows (c - (r.length+1)) fun x hx=>h x (List.mem_cons_of_mem _ hx);refine⟨m+1,t,by simp;omega,?_,h3,h4⟩;simp only[List.flatMap_cons,List.take_succ_cons];rw[List.take_append,List.take_of_length_le (by simp;omega),show c - (r++[10]:List Nat).length=c - (r.length+1) by simp,h2];simp only[List.append_assoc]
def JY(hs:List Hap):(dE hs).cps.toList=(hs.map fun h=>h.row.cps.toList).flatMap fun r=>r++[10]:=by
 unfold dE;rw[C5,List.map_map];rw[List.flatMap_def,List.map_map]
 congr 1
 refine List.map_congr_left fun h _=>?_;show(h.row++"\n").cps.toList=_;rw[yR,oK.1];rfl
def QO{hs:List Hap}(ok:∀ h∈hs,h.ok)(c:Int)(h0:0<=c)(h1:c<=(dE hs).length):∃(m:Nat) (tl:Str),m<=hs.length/\Txt.slice (dE hs) none (some c)=dE (hs.take m)++tl/\10∉tl.cps.toList/\tl.length<=100:=by
 obtain⟨m,t,a,b,d,e⟩:=CQ (B:=100) (hs.map fun h=>h.row.cps.toList) c.toNat fun r hr=>by
  obtain⟨h,hh,rfl⟩:=List.mem_map.mp hr;have ho:=ok h hh;refine⟨?_,?_⟩
  ·have:=Row.nl (Hap.Kj ho);unfold Row.txt Row.ws at this;unfold Hap.row;rw[Hap.Pq];exact this
  ·have:=Hap.EB ho;rw[Array.length_toList];exact this
 refine⟨m,⟨t.toArray⟩,by simpa using a,?_,by simpa using d,by show t.toArray.size<=100;simpa using e⟩;have es:Txt.slice (dE hs) none (some c)=StrLaws.sliceText (dE hs) none (some c):=rfl;rw[es,StrLaws.sliceText_to ⟨h0,by rw[Array.length_toList];exact h1⟩];apply EW;rw[yR,JY (hs.take m),List.map_take];simp only[Int.sub_zero,List.drop_zero];rw[JY,b]
def QM{hs:List Hap}{tl:Str}(ok:∀ h∈hs,h.ok)(ht:10∉tl.cps.toList):Txt.count (dE hs++tl) "\n"=(hs.length:Int):=by
 rw[Fo,AQ,Bw (fun r hr=>by obtain⟨h,hh,rfl⟩:=List.mem_map.mp hr;exact Hap.Kj (ok h hh)) ht];simp
def FQ{K:q0B}{H:Hp}{n:Nat}{us vs:List V}{hs:List Hap}(h:cP H us hs)(g:cP H vs hs):gO K H (n+1) us vs:=by
 induction h generalizing vs with
 | nil=>cases g;exact .nil
 | @cons v1 vs1 h hs a _ ih =>
  cases g with
  | cons b t =>
   obtain⟨p,rfl,e1⟩:=a;obtain⟨q,rfl,e2⟩:=b;refine .cons (gO.tup (gO.refl fun v hv=>?_) e1 e2) (ih t);simp only[Hap.vs,List.mem_append,List.mem_cons,List.not_mem_nil,or_false] at hv;rcases hv with hv|rfl
   ·cases h<;>(simp only[Hap.ini,List.mem_cons,List.not_mem_nil,or_false] at hv;rcases hv with rfl|rfl|rfl<;>first|exact bY _|exact gH _)
   ·exact gI _
def Qf{z:Hap}{hs:List Hap}{j:Nat}(e:hs[j]?=some z)(S:Pu):(takes S hs).2[j]?=some ((takes S (hs.take j)).1.take z).2:=by
 have h1:=kC hs S (j+1);rw[List.take_add_one,e,Option.toList_some,kB,kC] at h1;have h2:=congrArg (fun l=>l[j]?) h1;have lj:j < hs.length:=(List.getElem?_eq_some_iff.mp e).1;have l1:((takes S hs).2.take j).length=j:=by rw[List.length_take,lV];omega
 simp only[List.getElem?_take,if_pos (Nat.lt_succ_self j)] at h2;rw[<- h2,List.getElem?_append_right (by omega),l1];simp
structure Lone(C:Cl)(G0 G:Hp)(R:Rn)(as:List Addr)(sl:V)(S:Pu)(L:List Addr):Prop where
 k:Kp [] G0 G
 a:aZ C G R as sl S
 fr:∀ a,a∈R.cells\/a∈as->G0 a=none
 sf:∀ a∈L,(∃ o,G a=some o)/\a∉R.cells/\a∉as
def Lone.keep{C:Cl}{G0 G G':Hp}{R:Rn}{as as':List Addr}{sl:V}{S:Pu}{L:List Addr}(h:Lone C G0 G R as sl S L)(F:Fw R as as' G G'):∀ a∈L,∀ o,G a=some o->G' a=some o:=fun a ha o e=>F.kp a o e (h.sf a ha).2.1 (h.sf a ha).2.2
def Lone.step{C:Cl}{G0 G G':Hp}{R:Rn}{as as':List Addr}{sl sl':V}{S S':Pu}{L:List Addr}(h:Lone C G0 G R as sl S L)(F:Fw R as as' G G')(A:aZ C G' R as' sl' S'):Lone C G0 G' R as' sl' S' L :=
 ⟨F.OC h.k h.fr,A,fun a ha=>by
  rcases ha with ha|ha
  ·exact h.fr a (.inl ha)
  ·rcases F.new a ha with z|z
   ·exact h.fr a (.inr z)
   ·exact h.k.mX z,fun a ha=>by
  obtain⟨⟨o,e⟩,n1,n2⟩:=h.sf a ha;refine⟨⟨o,h.keep F a ha o e⟩,n1,fun z=>?_⟩;rcases F.new a z with y|y
  ·exact n2 y
  ·rw[e] at y;cases y⟩
def Lone.kp{C:Cl}{G0 G G':Hp}{R:Rn}{as:List Addr}{sl:V}{S:Pu}{L:List Addr}(h:Lone C G0 G R as sl S L)(k:Kp [] G G'):Lone C G0 G' R as sl S L:=⟨h.k.trans k,h.a.kp k,h.fr,fun a ha=>by
 obtain⟨⟨o,e⟩,n⟩:=h.sf a ha;exact⟨⟨o,k.at e⟩,n⟩⟩
section
variable {K:q0B} {H:Hp} {n:Nat} {a b:Addr}
def PK{s:Slp}(hn:s.isN=false)(h:iU H (.ref a) s)(g:iU H (.ref b) s):yL K H (n+2) a b true:=by
 cases s with
 | non=>cases hn
 | new =>
  obtain⟨p,e0,e⟩:=h;obtain⟨p2,e1,e2⟩:=g;cases e0;cases e1;exact gO.rcT (.cons (bY _).eq .nil) e e2
 | wait ts =>
  obtain⟨p,p2,e0,e,f⟩:=h;obtain⟨q,q2,e1,e2,f2⟩:=g;cases e0;cases e1;exact gO.rcT (.cons (bY _).eq (.cons (gO.tup (gO.refl (tI ts)) f f2) .nil)) e e2
 | aaB k =>
  obtain⟨p,e0,e⟩:=h;obtain⟨p2,e1,e2⟩:=g;cases e0;cases e1;exact gO.rcT (.cons (bY _).eq (.cons (bY _).eq .nil)) e e2
 | ended w =>
  obtain⟨p,e0,e⟩:=h;obtain⟨p2,e1,e2⟩:=g;cases e0;cases e1;exact gO.rcT (.cons (bY _).eq (.cons (gI _).eq .nil)) e e2
 | worn =>
  obtain⟨p,e0,e⟩:=h;obtain⟨p2,e1,e2⟩:=g;cases e0;cases e1;exact gO.rcT (.cons (bY _).eq .nil) e e2
def ER{v:V}{s:Slp}(hn:s.isN=false)(h:iU H v s):∃ a,v=.ref a:=by
 obtain⟨p,_,_,e,_⟩:=h.word hn;exact⟨p,e⟩
def P0{v:V}{S:Pu}(hn:S.sl.isN=false)(h:xU H v S):∃ a,v=.ref a:=by
 unfold xU at h;split at h
 ·obtain⟨p,_,_,_,_,_,_,_,_,_,e,_⟩:=h;exact⟨p,e⟩
 ·exact ER hn h
def Yx{S:Pu}(hn:S.sl.isN=false)(h:xU H (.ref a) S)(g:xU H (.ref b) S):yL K H (n+4) a b true:=by
 unfold xU at h g;split at h
 ·next hg =>
  rw[if_pos hg] at g;obtain⟨p,pl,pn,po,pa,pt,sl,un,ua,ut,ep,a1,a2,a3,a4,a5,a6,a7,a8,a9,a10⟩:=h;obtain⟨q,ql,qn,qo,qa,qt,sl',un',ua',ut',eq,b1,b2,b3,b4,b5,b6,b7,b8,b9,b10⟩:=g;cases ep;cases eq;refine gO.rcT (n:=n+3) (.cons (Wy (n:=n+1) a2 b2) (.cons (gO.tup (n:=n+2) (gO.refl (tI _)) a3 b3) (.cons (gI _).eq (.cons (gH _).eq (.cons (gO.tup (n:=n+2) (Kh (n:=n+1) a5 b5 (Ba _ _)) a4 b4) (.cons (gH _).eq (.cons (gO.tup (n:=n+2) (gO.refl (tI _)) a6 b6) (.cons (gO.tup (n:=n+2) (Kh (n:=n+1) a8 b8 fun p hp=>?_) a7 b7) (.cons (gO.tup (n:=n+2) (RU (n:=n) a10 b10) a9 b9) .nil))))))))) a1 b1;obtain⟨z,_,rfl⟩:=List.mem_map.mp hp;exact⟨gH _,gI _⟩
 ·next hg =>
  rw[if_neg hg] at g;exact PK (n:=n+2) hn h g
end
local macro_rules | `(tactic| wp_walk) => `(tactic| wp_walk using true_and)
local macro_rules | `(tactic| wp_walk using $ts,*) => do
  let us ← ts.getElems.mapM fun t => `(Lean.Parser.Tactic.simpLemma| $t:term)
  let vs <- ("↓Wp ↓Yn ↓GW ↓WQ ↓Zz ↓Yl ↓Su ↓Po ↓Mq ↓ZA ↓Pn ↓Ss ↓Ym ↓Yk ↓XZ ↓Xo ↓Vr ↓XY ↓XB ↓VC ↓Zp ↓Zi ↓Zm ↓Zq ↓Z1 ↓UO ↓XN ↓UM ↓Zh ↓XH ↓X3 ↓UT ↓UU ↓Vs ↓UJ ↓XU ↓Vt ↓Xm ↓Zn ↓XO ↓QQ ↓Zo ↓Vu ↓NO ↓U9 ↓U8 ↓Q7 ↓U2 ↓XA ↓XX ↓Xn ↓XW ↓XT ↓XS ↓Ri ↓Rg ↓Rh ↓NP ↓NQ ↓Rf ↓XE ↓XF ↓UG ↓UI ↓UH ↓UN ↓X2 ↓X1 ↓UP ↓Vn ↓Vm ↓X0 ↓Zj ↓Vi ↓Vk ↓Vj ↓Xp ↓Xq ↓Xr ↓Xs ↓QR ↓QZ ↓NJ ↓NK ↓Vg ↓Vc ↓Vb ↓Zk ↓Q8 ↓XI ↓XJ ↓B7 ↓Ar ↓B9 ↓B8 ↓xY ↓Xu ↓Xv ↓Vf ↓Ve ↓XQ ↓Q5 ↓XR ↓Q6 ↓UY ↓UZ ↓QV ↓QU ↓Rj ↓QW ↓VM ↓Xw ↓Vy ↓Va ↓Ze ↓Zf ↓Zg ↓Rk ↓VB ↓UQ ↓QT ↓Zd ↓X4 ↓Vz ↓VA ↓Vh ↓Rr ↓Rq ↓Rv ↓UW ↓Zl ↓Xy ↓Vv ↓Rt ↓VJ ↓VF ↓VH ↓NU ↓VI ↓VL ↓VG ↓Rc ↓QX ↓XM ↓Vl ↓Aq ↓Vd ↓NT ↓XG ↓Xl ↓XC ↓JC ↓Xz ↓Vx ↓UK ↓Vq ↓Vp ↓NN ↓Ln ↓Vw ↓Rl ↓VD ↓US ↓Q2 ↓NM ↓NL ↓Q3 ↓UR ↓U3 ↓XD ↓UL ↓Xt ↓U0 ↓UX ↓NI ↓NG ↓Q1 ↓Vo ↓VE ↓Rm ↓Rb ↓NS ↓Xx ↓Rp ↓Q9 ↓Ru ↓Ro ↓NH ↓Q4 ↓QY ↓YJ ↓YL ↓YM ↓YN ↓YO ↓YQ ↓YR ↓YS ↓YT ↓Uj ↓Uk ↓Ul ↓YK ↓Ui ↓YI ↓ZP ↓YE ↓YF ↓YG ↓YH ↓ZO ↓aA ↓List.set_cons_zero ↓List.set_cons_succ ↓List.getElem?_cons_zero ↓List.getElem?_cons_succ L2.start OJ TK List.cons_append List.nil_append List.append_nil List.replicate_succ List.replicate_zero List.length_cons List.length_nil Nat.reduceAdd Nat.reduceSub Nat.zero_add Nat.add_zero Nat.reduceLeDiff Nat.reducePow Nat.reduceLT true_and and_true false_and and_false forall_const ↓reduceIte kE String.reduceEq Int.reduceToNat Int.reducePow Int.reduceNeg Int.reduceSub Int.reduceAdd Int.reduceMul Int.reduceLT Int.reduceLE Int.reduceEq sizeLine Z6 ZN decide_true decide_false Bool.not_true Bool.not_false Bool.false_eq_true".splitOn " ").toArray.mapM fun(n:String)=>do
    let p:=n.splitOn "↓";let x:=Lean.mkIdent (p.getLastD "").toName
    if p.length = 1 then `(Lean.Parser.Tactic.simpLemma| $x:term) else `(Lean.Parser.Tactic.simpLemma| ↓ $x:term)
  let ws:=us++vs
  `(tactic| try simp (config := { dsimp := false }) only [$ws,*])
def Kn(K:q0B):Sp:=fun vs H Q _=>∃(a:Addr) (ns:List Int),vs=[.ref a]/\dR K H a (ns.map V.int)/\ns.length<=63/\∀ H',Q (.bl true) H'
section
variable {P:Program} {w:World} {K:q0B} {mg:q0C} {base:Heap}
def vX{t:Ad}(T:Tx w K mg t):bD P w K mg base CX0 1 t.DG t.DZ ["cell"] TY:=by
 refine T.yV.ok wX (fun vs H Q E h=>?_) (fun cdv A outer s H vs Q E hr h=>?_)
 ·obtain⟨c,rfl,_⟩:=h;rfl
 ·obtain⟨c,rfl,q⟩:=h;refine⟨_,(aC (bF (aR Yj (pv 0) (bI k7 aE aE) (nomark _)) (aF (aM (bL (aD (bI gJ (pv 0) (bI k7 aE aE)) (aD aE aB))))) aX)
   (aC (bA (i:=1) wX.nd rfl (Or.inl rfl) (bI oP (pv 0) aE))
   (aC (bA (i:=1) wX.nd rfl (Or.inl rfl) (bI oP (bI rH (pv 1) (pv 1)) aE))
   (aF (aM (bL (aD (bI oP (bI rH (pv 1) (bI dJ (pv 1) aE)) aE) (aD aE aB)))))))),?_⟩
  and_intros
  wp_walk;have m0:=Int.emod_nonneg c (show(982451653:Int)≠0 by decide);have m1:=Int.emod_lt_of_pos c (show(0:Int) < 982451653 by decide);have n0:=Int.emod_nonneg (c % 982451653 * (c % 982451653)) (show(982451653:Int)≠0 by decide);have n1:=Int.emod_lt_of_pos (c % 982451653 * (c % 982451653)) (show(0:Int) < 982451653 by decide);split
  ·exact fun r hr'=>q r _ hr' (Kp.new hr') ⟨_,_,aA,.inl rfl⟩
  ·refine⟨De (by omega) (by omega),De (by omega) (by omega),fun r hr'=>?_⟩;exact q r _ hr' (Kp.new hr') ⟨_,_,aA,.inr ⟨Int.emod_nonneg _ (by decide),Int.emod_lt_of_pos _ (by decide)⟩⟩
def bG{t:Ad}(T:Tx w K mg t):bD P w K mg base CX0 1 t.zH t.Aj ["jar","many"] TX:=by
 refine T.bR.ok BI (fun vs H Q E h=>?_) (fun cdv A outer s H vs Q E hr h=>?_)
 ·obtain⟨r,m,rfl,_⟩:=h;rfl
 ·obtain⟨r,m,rfl,m0,m1,⟨c,f,hr0,hx⟩,q⟩:=h;refine⟨_,(aC (bF (aR cB (bB bP (pv 0) aE (fun _ _=>rfl)) aE (nomark _)) (aC (bA (i:=2) BI.nd rfl (Or.inl rfl) (bI oP (bB bP (pv 0) aE (fun _ _=>rfl)) (pv 1)))
   (aC (Ew (bI GL (bB bP (pv 0) aE (fun _ _=>rfl)) (pv 1)) (IT (pv 0) aE Kl))
   (aF (aM (pv 2))))) aX)
   (aC (Ew (bI oP (bI rH (bI dJ (bB bP (pv 0) aE (fun _ _=>rfl)) aE) (bI dJ (bB bP (pv 0) aE (fun _ _=>rfl)) aE)) aE) (IT (pv 0) aE Kl))
   (aF (aM (bI oP (bI GL (bI rH (bB bP (pv 0) aE (fun _ _=>rfl)) (bI k7 aE aE)) aE) (pv 1)))))),?_⟩
  and_intros
  wp_walk using hr0,Q0;have n0:=Int.emod_nonneg ((c+15485863) * (c+32452867)) (show(982451653:Int)≠0 by decide);have n1:=Int.emod_lt_of_pos ((c+15485863) * (c+32452867)) (show(0:Int) < 982451653 by decide);split
  ·next hf=>exact⟨m0,⟨m0,log2_lt m0 m1⟩,q _ _ (Int.emod_nonneg _ (by omega)) (Int.emod_lt_of_pos _ m0) ⟨_,_,aA,.inl hf⟩ (Kp.set (by simp))⟩
  ·next hf =>
   rcases hx with hx|⟨h0,h1⟩
   ·exact absurd hx hf
   ·exact⟨De (by omega) (by omega),De (by omega) (by omega),⟨by decide,by decide⟩,m0,q _ _ (Int.emod_nonneg _ (by omega)) (Int.emod_lt_of_pos _ m0) ⟨_,_,aA,.inr ⟨n0,n1⟩⟩ (Kp.set (by simp))⟩
def kP{t:Ad}(T:Tx w K mg t):bD P w K mg base CX0 2 t.uA t.uS ["jar"] Hl:=by
 refine T.lL.ok xQ (fun vs H Q E h=>?_) (fun cdv A outer s H vs Q E hr h=>?_)
 ·obtain⟨r,rfl,_⟩:=h;rfl
 ·obtain⟨r,rfl,hR,q⟩:=h;refine⟨_,(aC (bA (i:=1) xQ.nd rfl (Or.inl rfl) (bI gJ (aN (bG T) (hr.mono (by omega)) rfl T.bW T.bR.kp T.bV .nil pass0 (aD (pv 0) (aD (bI dJ (bI rH aE (bI k7 aE aE)) aE) aB))) (bI k7 aE aE)))
   (aF (aM (bB bP (bL (aD eD (aD aE (aD aE (aD aE (aD aE (aD (oS kD aE) (aD (bI k7 aE aE) (aD (pv 1) aB))))))))) (aN (bG T) (hr.mono (by omega)) rfl T.bW T.bR.kp T.bV .nil pass0 (aD (pv 0) (aD aE aB))) (fun _ _=>rfl))))),?_⟩
  and_intros
  wp_walk;refine⟨hR,fun g H1 a1 b1 R1 K1 p hp=>⟨R1.new hp,fun g2 H2 a2 b2 R2 K2=>?_⟩⟩;wp_walk using K2.TL R1 hp;refine k8 a2 b2 fun v hv=>?_;wp_walk;have K:=K1.trans ((Kp.new hp).trans K2);simp only[List.mem_cons,List.not_mem_nil,or_false] at hv;rcases hv with rfl|rfl|rfl|rfl|rfl|rfl|rfl|rfl
  ·exact q none _ lO R2 K
  all_goals exact q (some _) _ (eO (by omega) (by omega)) R2 K
def ET{t:Ad}(T:Tx w K mg t){n d:Nat}(hn:3<=n)(IH:bD P w K mg base CX0 n t.jL t.jS ["jar","deep"] (Jh d)):bD P w K mg base CX0 (n+1) t.jL t.jS ["jar","deep"] (Jh (d+1)):=by
 refine T.cI.ok eY (fun vs H Q E h=>?_) (fun cdv A outer s H vs Q E hr h=>?_)
 ·obtain⟨r,dp,rfl,_⟩:=h;rfl
 ·obtain⟨r,dp,rfl,d1,d2,hR,q⟩:=h;refine⟨_,(aC (bA (i:=2) eY.nd rfl (Or.inl rfl) (aN (bG T) (hr.mono (by omega)) rfl T.bW T.bR.kp T.bV .nil pass0 (aD (pv 0) (aD aE aB))))
   (aC (bA (i:=3) eY.nd rfl (Or.inl rfl) (bB bP (bL (aD aO (aD aO (aD aO (aD aO aB))))) (aN (bG T) (hr.mono (by omega)) rfl T.bW T.bR.kp T.bV .nil pass0 (aD (pv 0) (aD aE aB))) (fun _ _=>rfl)))
   (aC (bF (PW.pt (xP (aR cB (pv 1) aE (nomark _)) (oU (aR qO (pv 2) aE (nomark _))))) (aC (bA (i:=4) eY.nd rfl (Or.inl rfl) (aN (kP T) (hr.mono (by omega)) rfl T.pX T.lL.kp T.pP .nil pass0 (aD (pv 0) aB)))
   (aC (bF (aR mN (pv 4) eD (nomark _)) (aF (bA (i:=4) eY.nd rfl (Or.inl rfl) aE)) aX)
   (aF (aM (bB bP (bL (aD (bH (aD aO (aD (pv 4) aB))) (aD (bH (aD aO (aD (pv 3) aB))) (aD (bH (aD aO (aD (pv 3) aB))) (aD (bH (aD aO aB)) (aD (bH (aD aO aB)) (aD (bH (aD aO aB)) aB))))))) (bI oP (pv 2) aE) (fun _ _=>rfl)))))) aX)
   (aC (bF (aR cB (pv 2) aE (nomark _)) (aF (aM (bH (aD aO (aD (aN IH (hr.mono (by omega)) rfl T.cL T.cI.kp T.cK .nil pass0 (aD (pv 0) (aD (bI gJ (pv 1) aE) aB))) aB))))) aX)
   (aC (bF (aR cB (pv 2) aE (nomark _)) (aF (aM (bH (aD aO (aD (aN IH (hr.mono (by omega)) rfl T.cL T.cI.kp T.cK .nil pass0 (aD (pv 0) (aD (bI gJ (pv 1) aE) aB))) aB))))) aX)
   (aC (bA (i:=5) eY.nd rfl (Or.inl rfl) (aN IH (hr.mono (by omega)) rfl T.cL T.cI.kp T.cK .nil pass0 (aD (pv 0) (aD (bI gJ (pv 1) aE) aB))))
   (aF (aM (bH (aD (bB bP (bL (aD aO (aD aO (aD aO (aD aO (aD aO aB)))))) (aN (bG T) (hr.mono (by omega)) rfl T.bW T.bR.kp T.bV .nil pass0 (aD (pv 0) (aD aE aB))) (fun _ _=>rfl)) (aD (pv 5) (aD (aN IH (hr.mono (by omega)) rfl T.cL T.cI.kp T.cK .nil pass0 (aD (pv 0) (aD (bI gJ (pv 1) aE) aB))) aB)))))))))))),?_⟩
  and_intros
  refine aI fun R1 hR1=>?_;wp_walk;refine⟨hR,fun g H1 a1 b1 J1 K1=>?_⟩;wp_walk;refine hR1 _ _ ?_;clear hR1 R1;refine aI fun R2 hR2=>?_;wp_walk;refine fun p2 h2=>⟨J1.new h2,fun g2 G2 a2 b2 J2 K2=>?_⟩;wp_walk using made1J K2 J1 h2;refine k8 a2 b2 fun y2 hy2=>?_;obtain⟨x2,rfl⟩:∃ z:Str,y2=.str z:=by simp only[List.mem_cons,List.not_mem_nil,or_false] at hy2;rcases hy2 with rfl|rfl|rfl|rfl<;>exact⟨_,rfl⟩
  wp_walk;refine hR2 _ _ ?_;clear hR2 R2;have KK:Kp [r] H G2:=K1.trans ((Kp.new h2).trans K2);clear K1 K2 h2 J1;refine aI fun R3 hR3=>?_;refine qV fun RI hRI=>?_;wp_walk;simp only[Zr];split
  ·refine hRI _ _ ?_;clear hRI RI;refine aI fun Ra hRa=>?_;wp_walk;refine⟨J2,fun w3 H3 hw J3 K3=>?_⟩;wp_walk;refine hRa _ _ ?_;clear hRa Ra;refine aI fun Ra hRa=>?_;obtain⟨z,hz,ez⟩:∃ z:Int,(-1000000000<=z/\z<=1000000000)/\(w3=none/\z=4\/w3=some z):=by
    cases w3 with
    | none=>exact⟨4,⟨by decide,by decide⟩,.inl ⟨rfl,rfl⟩⟩
    | some z=>exact⟨z,hw z rfl,.inr rfl⟩
   have K5:Kp [r] H H3:=KK.trans K3;clear K3 KK;have fin:Ra [some (.ref r),some (.int dp),some (.int g),some (.str x2),some (.int z),none] H3:=by
    refine hRa _ _ ?_;clear hRa Ra;wp_walk;refine fun p1 m1 p2 m2 p3 m3 p4 m4 p5 m5 p6 m6 p7 m7=>?_;have M_1:=q0D (o:=.tup [.str "number",.int z]) m1;have M_2:=q0D (o:=.tup [.str "name",.str x2]) m2;have M_3:=q0D (o:=.tup [.str "name",.str x2]) m3;have M_4:=q0D (o:=.tup [.str "arg"]) m4;have M_5:=q0D (o:=.tup [.str "now"]) m5;have M_6:=q0D (o:=.tup [.str "none"]) m6;have M_7:=q0D (o:=.lst [.ref p1,.ref p2,.ref p3,.ref p4,.ref p5,.ref p6]) m7;have f1:=(((((M_2.trans M_3).trans M_4).trans M_5).trans M_6).trans M_7).at (aA:(Z8 H3 p1 (.tup [.str "number",.int z])) p1=some (.tup [.str "number",.int z]));have f2:=((((M_3.trans M_4).trans M_5).trans M_6).trans M_7).at (aA:(Z8 (Z8 H3 p1 (.tup [.str "number",.int z])) p2 (.tup [.str "name",.str x2])) p2=some (.tup [.str "name",.str x2]));have f3:=(((M_4.trans M_5).trans M_6).trans M_7).at (aA:(Z8 (Z8 (Z8 H3 p1 (.tup [.str "number",.int z])) p2 (.tup [.str "name",.str x2])) p3 (.tup [.str "name",.str x2])) p3=some (.tup [.str "name",.str x2]));have f4:=((M_5.trans M_6).trans M_7).at (aA:(Z8 (Z8 (Z8 (Z8 H3 p1 (.tup [.str "number",.int z])) p2 (.tup [.str "name",.str x2])) p3 (.tup [.str "name",.str x2])) p4 (.tup [.str "arg"])) p4=some (.tup [.str "arg"]));have f5:=(M_6.trans M_7).at (aA:(Z8 (Z8 (Z8 (Z8 (Z8 H3 p1 (.tup [.str "number",.int z])) p2 (.tup [.str "name",.str x2])) p3 (.tup [.str "name",.str x2])) p4 (.tup [.str "arg"])) p5 (.tup [.str "now"])) p5=some (.tup [.str "now"]));have f6:=M_7.at (aA:(Z8 (Z8 (Z8 (Z8 (Z8 (Z8 H3 p1 (.tup [.str "number",.int z])) p2 (.tup [.str "name",.str x2])) p3 (.tup [.str "name",.str x2])) p4 (.tup [.str "arg"])) p5 (.tup [.str "now"])) p6 (.tup [.str "none"])) p6=some (.tup [.str "none"]));have f7:(Z8 (Z8 (Z8 (Z8 (Z8 (Z8 (Z8 H3 p1 (.tup [.str "number",.int z])) p2 (.tup [.str "name",.str x2])) p3 (.tup [.str "name",.str x2])) p4 (.tup [.str "arg"])) p5 (.tup [.str "now"])) p6 (.tup [.str "none"])) p7 (.lst [.ref p1,.ref p2,.ref p3,.ref p4,.ref p5,.ref p6])) p7=some (.lst [.ref p1,.ref p2,.ref p3,.ref p4,.ref p5,.ref p6]):=aA;have MM:=((((((M_1.trans M_2).trans M_3).trans M_4).trans M_5).trans M_6).trans M_7);generalize Z8 (Z8 (Z8 (Z8 (Z8 (Z8 (Z8 H3 p1 (.tup [.str "number",.int z])) p2 (.tup [.str "name",.str x2])) p3 (.tup [.str "name",.str x2])) p4 (.tup [.str "arg"])) p5 (.tup [.str "now"])) p6 (.tup [.str "none"])) p7 (.lst [.ref p1,.ref p2,.ref p3,.ref p4,.ref p5,.ref p6])=H4 at *;clear M_1 M_2 M_3 M_4 M_5 M_6 M_7 m1 m2 m3 m4 m5 m6 m7;have J4:=J3.kp MM;have K6:=K5.trans (MM.mono (T:=[r]) (by simp));wp_walk using f7;have g0:0<=g % 6:=Int.emod_nonneg _ (by decide);have g1:g % 6 < 6:=Int.emod_lt_of_pos _ (by decide);refine k8 g0 g1 fun v hv=>?_;simp only[List.mem_cons,List.not_mem_nil,or_false] at hv;rcases hv with rfl|rfl|rfl|rfl|rfl|rfl
    ·exact q _ (.num z) H4 (.num f1) hz (by simp only[Say.depth];omega) J4 K6
    ·exact q _ (.name x2) H4 (.name f2) trivial (by simp only[Say.depth];omega) J4 K6
    ·exact q _ (.name x2) H4 (.name f3) trivial (by simp only[Say.depth];omega) J4 K6
    ·exact q _ .arg H4 (.arg f4) trivial (by simp only[Say.depth];omega) J4 K6
    ·exact q _ .now H4 (.now f5) trivial (by simp only[Say.depth];omega) J4 K6
    ·exact q _ .non H4 (.non f6) trivial (by simp only[Say.depth];omega) J4 K6
   clear hRa;rcases ez with⟨rfl,rfl⟩|rfl
   ·wp_walk using wv;exact fin
   ·wp_walk using wv,reduceCtorEq,if_false;exact fin
  ·next hc =>
   clear hRI RI;refine hR3 _ _ ?_;clear hR3 R3;refine aI fun R4 hR4=>?_;wp_walk;split
   ·refine⟨r,dp - 1,rfl,by omega,by omega,J2,fun v s H3 hv ok hdp J3 K3=>?_⟩;wp_walk;exact fun p hp=>q _ (.ans s) _ (.ans aA (hv.kp (aP.new hp))) ok (by simp only[Say.depth];omega) (J3.new hp) ((KK.trans K3).trans (Kp.new hp))
   refine hR4 _ _ ?_;clear hR4 R4;refine aI fun R5 hR5=>?_;wp_walk;split
   ·refine⟨r,dp - 1,rfl,by omega,by omega,J2,fun v s H3 hv ok hdp J3 K3=>?_⟩;wp_walk;exact fun p hp=>q _ (.neg s) _ (.neg aA (hv.kp (aP.new hp))) ok (by simp only[Say.depth];omega) (J3.new hp) ((KK.trans K3).trans (Kp.new hp))
   refine hR5 _ _ ?_;clear hR5 R5;refine aI fun R6 hR6=>?_;wp_walk;refine⟨r,dp - 1,rfl,by omega,by omega,J2,fun u s1 H3 hv1 ok1 hd1 J3 K3=>?_⟩;wp_walk;refine hR6 _ _ ?_;clear hR6 R6;wp_walk;refine fun p hp=>⟨J3.new hp,fun g4 H4 a4 b4 J4 K4=>?_⟩;wp_walk using made1J K4 J3 hp;refine k8 a4 b4 fun v hv=>?_;wp_walk;refine⟨r,dp - 1,rfl,by omega,by omega,J4,fun u2 s2 H5 hv2 ok2 hd2 J5 K5 p2 h2=>?_⟩;have K:=((KK.trans K3).trans ((Kp.new hp).trans K4)).trans (K5.trans (Kp.new (o:=.tup [v,u,u2]) h2));have T1:aP H3 (Z8 H5 p2 (.tup [v,u,u2])):=(((aP.new hp).trans ((J3.new hp).tk K4)).trans (J4.tk K5)).trans (aP.new h2);have fin:∀ gg:Sg,v=.str gg.s->Q (.ref p2) (Z8 H5 p2 (.tup [v,u,u2])):=fun gg e=>by
    subst e;exact q _ (.two gg s1 s2) _ (.two aA (hv1.kp T1) (hv2.kp (aP.new h2))) ⟨ok1,ok2⟩ (by simp only[Say.depth];omega) (J5.new h2) K
   simp only[List.mem_cons,List.not_mem_nil,or_false] at hv;rcases hv with e|e|e|e|e
   ·exact fin .add e
   ·exact fin .sub e
   ·exact fin .mul e
   ·exact fin .lt e
   ·exact fin .eq e
def cV{t:Ad}(T:Tx w K mg t):∀ d,bD P w K mg base CX0 (d+3) t.jL t.jS ["jar","deep"] (Jh d):=by
 intro d
 induction d with
 | zero=>exact⟨fun _ _ _ _ x=>by (obtain⟨_,_,_,h,h',_⟩:=x;exact absurd h (by omega)),fun _ _ _ _ _ _ _ _ _ _ _ _ _ x=>by (obtain⟨_,_,_,h,h',_⟩:=x;exact absurd h (by omega))⟩
 | succ d ih=>exact ET T (by omega) ih
def Cs{t:Ad}(T:Tx w K mg t):bD P w K mg base CX0 9 t.nQ t.n9 ["jar","name"] SK:=by
 refine T.xF.ok hX (fun vs H Q E h=>?_) (fun cdv A outer s H vs Q E hr h=>?_)
 ·obtain⟨r,x,rfl,_⟩:=h;rfl
 ·obtain⟨r,x,rfl,hR,q⟩:=h;refine⟨_,(aC (bA (i:=2) hX.nd rfl (Or.inl rfl) (bL aB))
   (aC (Bs PassesOwn.never rfl (Dl rfl T.BY (aD (bI dJ aE (aN (bG T) (hr.mono (by omega)) rfl T.bW T.bR.kp T.bV .nil pass0 (aD (pv 0) (aD aE aB)))) aB)) (gK (i:=3) hX.nd rfl (Or.inl rfl)) (aC (bA (i:=4) hX.nd rfl (Or.inl rfl) (bL (aD (bH (aD aO (aD (bB bP (bL (aD aO (aD aO (aD aO (aD aO aB))))) (aN (bG T) (hr.mono (by omega)) rfl T.bW T.bR.kp T.bV .nil pass0 (aD (pv 0) (aD aE aB))) (fun _ _=>rfl)) aB))) (aD (aN (cV T 4) (hr.mono (by omega)) rfl T.cL T.cI.kp T.cK .nil pass0 (aD (pv 0) (aD aE aB))) aB))))
   (aF (cA (tO (pv 2) (bB bP (pv 4) (bZ CL rfl T.MN DM (aD (hE cB (aN (bG T) (hr.mono (by omega)) rfl T.bW T.bR.kp T.bV .nil pass0 (aD (pv 0) (aD aE aB))) aE (nomark _)) aB)) (fun _ _=>rfl)))))))
   (aF (aM (bH (aD aO (aD (pv 1) (aD (bZ eV rfl T.iS fE (aD (pv 2) aB)) aB)))))))),?_⟩
  and_intros
  refine aI fun R1 hR1=>?_;wp_walk;refine fun sl hsl=>?_;have N1:=q0D (o:=.lst []) hsl;have esl:Z8 H sl (.lst []) sl=some (.lst []):=aA;have nsr:sl≠r:=hR.none hsl;have J1:=hR.new (o:=.lst []) hsl;have KS:Kp [sl,r] H (Z8 H sl (.lst [])):=N1.mono (by simp);generalize Z8 H sl (.lst [])=G1 at *;clear N1;refine hR1 _ _ ?_;clear hR1 R1;refine aI fun R2 hR2=>?_;wp_walk;refine⟨J1,fun g G2 a2 b2 J2 K2=>⟨⟨by omega,by omega⟩,?_⟩⟩;replace esl:=K2.at1 esl nsr;replace KS:=KS.trans (K2.mono (T:=[sl,r]) (by simp));clear K2 J1;obtain⟨Pv,hPv⟩:∃ Pv:Nat->St->Hp->Prop,∀ i σ G,Pv i σ G = ∃(v3 v4:Option V) (vs:List V) (ss:List Say),σ=[some (.ref r),some (.str x),some (.ref sl),v3,v4]/\G sl=some (.lst vs)/\fB G vs ss/\ss.length=i/\(∀ s∈ss,s.sok)/\cF G r/\Kp [sl,r] H G:=⟨_,fun _ _ _=>rfl⟩;refine vA (lo:=0) Pv ?_ ?_ ?_
  ·rw[hPv];exact⟨none,none,[],[],rfl,esl,.nil,rfl,by simp,J2,KS⟩
  ·intro i σ G hi hG;rw[hPv] at hG;obtain⟨v3,v4,vs,ss,rfl,eS,hS,lS,hL,JG,KG⟩:=hG;have lv:=hS.Yc;have fin:∀(v3 v4:Option V) (v:V) (s:Say) (G':Hp),dB G' v s->s.sok->G' sl=some (.lst vs)->fB G' vs ss->cF G' r->Kp [sl,r] H G'->Pv (i+1) [some (.ref r),some (.str x),some (.ref sl),v3,v4] (Z8 G' sl (.lst (vs++[v]))):=fun v3 v4 v s G' x1 x2 x3 x4 x5 x6=>by
    have t:aP G' (Z8 G' sl (.lst (vs++[v]))):=aP.Hj x3 (by intro _ z;cases z);have kd:Kp [sl] G' (Z8 G' sl (.lst (vs++[v]))):=Kp.set (by simp);rw[hPv];refine⟨v3,v4,_,ss++[s],rfl,aA,(x4.kp t).snoc (x1.kp t),by simp[lS],fun y hy=>?_,?_,x6.trans (kd.mono (by simp))⟩
    ·rcases List.mem_append.mp hy with hy|hy
     ·exact hL y hy
     ·rw[show y=s by simpa using hy];exact x2
    ·obtain⟨c,f,e,b⟩:=x5;exact⟨c,f,kd.at1 e nsr.symm,b⟩
   clear hPv;refine aI fun Ra hRa=>?_;wp_walk;refine fun p3 h3=>⟨JG.new h3,fun g3 G3 a3 b3 J3 K3=>?_⟩;wp_walk using made1J K3 JG h3;refine k8 a3 b3 fun y3 hy3=>?_;obtain⟨x3,rfl⟩:∃ z:Str,y3=.str z:=by simp only[List.mem_cons,List.not_mem_nil,or_false] at hy3;rcases hy3 with rfl|rfl|rfl|rfl<;>exact⟨_,rfl⟩
   wp_walk;refine fun p4 h4=>?_;have N4:=q0D (o:=.tup [.str "name",.str x3]) h4;have f4:Z8 G3 p4 (.tup [.str "name",.str x3]) p4=some (.tup [.str "name",.str x3]):=aA;have KG4:Kp [sl,r] H (Z8 G3 p4 (.tup [.str "name",.str x3])):=((KG.trans (Kp.new h3)).trans (K3.mono (by simp))).trans (N4.mono (by simp));have e4:=N4.at (K3.at1 ((q0D (o:=.lst [.str "a",.str "b",.str "aa",.str "d"]) h3).at eS) nsr);have hS4:=((hS.kp (aP.new (o:=.lst [.str "a",.str "b",.str "aa",.str "d"]) h3)).kp ((JG.new h3).tk K3)).kp (aP.nil N4);have J4:=J3.new (o:=.tup [.str "name",.str x3]) h4;generalize Z8 G3 p4 (.tup [.str "name",.str x3])=G4 at *;refine⟨r,1,rfl,by decide,by decide,J4,fun v s G5 hv ok hd J5 K5 p6 h6=>?_⟩;have N6:=q0D (o:=.lst [.ref p4,v]) h6;have f6:Z8 G5 p6 (.lst [.ref p4,v]) p6=some (.lst [.ref p4,v]):=aA;have T5:=J4.tk K5;have f4':=N6.at (T5 _ _ f4);have e6:=N6.at (K5.at1 e4 nsr);have hS6:=(hS4.kp T5).kp (aP.nil N6);have hv6:=hv.kp (aP.nil N6);have J6:=J5.new (o:=.lst [.ref p4,v]) h6;have KG6:Kp [sl,r] H (Z8 G5 p6 (.lst [.ref p4,v])):=(KG4.trans (K5.mono (by simp))).trans (N6.mono (by simp));have n6:p6≠r:=J5.none h6;generalize Z8 G5 p6 (.lst [.ref p4,v])=G6 at *;wp_walk;refine hRa _ _ ?_;clear hRa Ra KG4 e4 hS4 J4 f4 N4 h4 N6 h6 hv hS JG KG eS J3 K3 K5 J5 T5;wp_walk using e6;refine⟨J6,fun g7 G7 a7 b7 J7 K7=>?_⟩;have T7:=J6.tk K7;have e7:=K7.at1 e6 nsr;have f7:=K7.at1 f6 n6;wp_walk using f7;have back:∀ v':V,v'=.ref p4\/v'=v->Pv (i+1) [some (.ref r),some (.str x),some (.ref sl),some (.int (0+(i:Nat))),some (.ref p6)] (Z8 G7 sl (.lst (vs++[v']))):=fun v' hv'=>by
    rcases hv' with rfl|rfl
    ·exact fin _ _ _ (.name x3) G7 (.name (T7 _ _ f4')) ⟨trivial,by simp[Say.depth]⟩ e7 (hS6.kp T7) J7 (KG6.trans (K7.mono (by simp)))
    ·exact fin _ _ _ s G7 (hv6.kp T7) ⟨ok,by omega⟩ e7 (hS6.kp T7) J7 (KG6.trans (K7.mono (by simp)))
   have i1:kY [V.ref p4,v] (if decide (g7=0)=true then 1 else 0)=some (if g7=0 then v else .ref p4):=by
    by_cases hz:g7=0
    ·rw[if_pos (decide_eq_true hz),if_pos hz];rfl
    ·rw[if_neg (by simpa using hz),if_neg hz];rfl
   wp_walk using i1,e7;exact⟨by omega,back _ (by split;exact .inr rfl;exact .inl rfl)⟩
  intro σ G hG;rw[hPv] at hG;obtain⟨v3,v4,vs,ss,rfl,eS,hS,lS,hL,JG,KG⟩:=hG;clear hPv;refine hR2 _ _ ?_;clear hR2 R2;wp_walk using eS;intro l m1 p m2;have N:=(q0D (o:=.tup vs) m1).trans (Kp.new (o:=.tup [.str "wait",.str x,.ref l]) m2);exact q _ ss _ (.wait aA ((q0D m2).at aA) (hS.kp (aP.nil N))) (by omega) hL ((JG.new m1).new m2) ((Kp.drop KG hsl).trans (N.mono (by simp)))
def nG{t:Ad}(T:Tx w K mg t){n d:Nat}(hn:9<=n)(IH:bD P w K mg base CX0 n t.jC t.jD ["jar","deep","room"] (ES d)):bD P w K mg base CX0 (n+1) t.fD t.fF ["jar","deep","room"] (Ji d):=by
 refine T.qK.ok eI (fun vs H Q E h=>?_) (fun cdv A outer s H vs Q E hr h=>?_)
 ·obtain⟨r,m,dp,rfl,_⟩:=h;rfl
 ·obtain⟨r,m,dp,rfl,d1,d2,hR,hM,nrm,q⟩:=h;refine⟨_,(aC (bA (i:=3) eI.nd rfl (Or.inl rfl) (aN (bG T) (hr.mono (by omega)) rfl T.bW T.bR.kp T.bV .nil pass0 (aD (pv 0) (aD aE aB))))
   (aC (bA (i:=4) eI.nd rfl (Or.inl rfl) (bB bP (bL (aD aO (aD aO (aD aO (aD aO aB))))) (aN (bG T) (hr.mono (by omega)) rfl T.bW T.bR.kp T.bV .nil pass0 (aD (pv 0) (aD aE aB))) (fun _ _=>rfl)))
   (aC (bA (i:=5) eI.nd rfl (Or.inl rfl) (bB bP (bL (aD aO (aD aO (aD aO aB)))) (aN (bG T) (hr.mono (by omega)) rfl T.bW T.bR.kp T.bV .nil pass0 (aD (pv 0) (aD aE aB))) (fun _ _=>rfl)))
   (aC (bF (aR qO (pv 3) aE (nomark _)) (aF (aM (bH (aD aO (aD (pv 4) (aD (pv 5) (aD (aN (cV T 4) (hr.mono (by omega)) rfl T.cL T.cI.kp T.cK .nil pass0 (aD (pv 0) (aD aE aB))) aB))))))) aX)
   (aC (bF (aR qO (pv 3) aE (nomark _)) (aF (aM (aN (Cs T) (hr.mono (by omega)) rfl T.Gj T.xF.kp T.Fe .nil pass0 (aD (pv 0) (aD (pv 4) aB))))) aX)
   (aC (bF (aR qO (pv 3) aE (nomark _)) (aF (aM (bH (aD aO (aD (pv 4) (aD (pv 5) aB)))))) aX)
   (aC (bF (PW.pt (Bu (aR qO (pv 3) aE (nomark _)) (tS (aR O9 (pv 1) aE (nomark _))))) (aF (aM (bH (aD aO (aD (aN (cV T 4) (hr.mono (by omega)) rfl T.cL T.cI.kp T.cK .nil pass0 (aD (pv 0) (aD aE aB))) (aD (aN IH (hr.mono (by omega)) rfl T.pW T.lK.kp T.pO .nil pass0 (aD (pv 0) (aD (bI gJ (pv 1) aE) (aD (pv 2) aB)))) (aD (aN IH (hr.mono (by omega)) rfl T.pW T.lK.kp T.pO .nil pass0 (aD (pv 0) (aD (bI gJ (pv 1) aE) (aD (pv 2) aB)))) aB))))))) aX)
   (aC (bF (PW.pt (Bu (aR qO (pv 3) aE (nomark _)) (tS (aR O9 (pv 1) aE (nomark _))))) (aF (aM (bH (aD aO (aD (aN (cV T 4) (hr.mono (by omega)) rfl T.cL T.cI.kp T.cK .nil pass0 (aD (pv 0) (aD aE aB))) (aD (aN IH (hr.mono (by omega)) rfl T.pW T.lK.kp T.pO .nil pass0 (aD (pv 0) (aD (bI gJ (pv 1) aE) (aD (pv 2) aB)))) aB)))))) aX)
   (aC (bF (aR cB (pv 3) aE (nomark _)) (aF (aM (bH (aD aO (aD (aN (cV T 4) (hr.mono (by omega)) rfl T.cL T.cI.kp T.cK .nil pass0 (aD (pv 0) (aD aE aB))) (aD (pv 5) (aD (aN (cV T 4) (hr.mono (by omega)) rfl T.cL T.cI.kp T.cK .nil pass0 (aD (pv 0) (aD aE aB))) aB))))))) aX)
   (aC (bF (aR cB (pv 3) aE (nomark _)) (aC (bA (i:=6) eI.nd rfl (Or.inl rfl) (aN (cV T 4) (hr.mono (by omega)) rfl T.cL T.cI.kp T.cK .nil pass0 (aD (pv 0) (aD aE aB))))
   (aF (aM (bB bP (bL (aD (bH (aD aO (aD (pv 4) (aD (pv 6) aB)))) (aD (bH (aD aO (aD (pv 4) (aD (pv 5) (aD (pv 6) aB))))) aB))) (aN (bG T) (hr.mono (by omega)) rfl T.bW T.bR.kp T.bV .nil pass0 (aD (pv 0) (aD aE aB))) (fun _ _=>rfl))))) aX)
   (aC (bF (aR cB (pv 3) aE (nomark _)) (aF (aM (bH (aD aO (aD (aN (cV T 4) (hr.mono (by omega)) rfl T.cL T.cI.kp T.cK .nil pass0 (aD (pv 0) (aD aE aB))) aB))))) aX)
   (aF (aM (bH (aD aO (aD (pv 4) (aD (aN (cV T 4) (hr.mono (by omega)) rfl T.cL T.cI.kp T.cK .nil pass0 (aD (pv 0) (aD aE aB))) aB))))))))))))))))),?_⟩
  and_intros
  refine aI fun R1 hR1=>?_;wp_walk;refine⟨hR,fun g G1 a1 b1 J1 K1=>?_⟩;wp_walk;refine hR1 _ _ ?_;clear hR1 R1;refine aI fun R2 hR2=>?_;wp_walk;refine fun p2 h2=>⟨J1.new h2,fun g2 G2 a2 b2 J2 K2=>?_⟩;wp_walk using made1J K2 J1 h2;refine k8 a2 b2 fun y2 hy2=>?_;obtain⟨x2,rfl,hx2⟩:∃ z:Str,y2=.str z/\z∈NM4:=by simp only[List.mem_cons,List.not_mem_nil,or_false] at hy2;rcases hy2 with rfl|rfl|rfl|rfl<;>exact⟨_,rfl,by simp[NM4]⟩
  wp_walk;refine hR2 _ _ ?_;clear hR2 R2;refine aI fun R3 hR3=>?_;wp_walk;refine fun p3 h3=>⟨J2.new h3,fun g3 G3 a3 b3 J3 K3=>?_⟩;wp_walk using made1J K3 J2 h3;refine k8 a3 b3 fun y3 hy3=>?_;obtain⟨x3,rfl,hx3⟩:∃ z:Str,y3=.str z/\z∈KY3:=by simp only[List.mem_cons,List.not_mem_nil,or_false] at hy3;rcases hy3 with rfl|rfl|rfl<;>exact⟨_,rfl,by simp[KY3]⟩
  wp_walk;refine hR3 _ _ ?_;clear hR3 R3;have K13:Kp [r] H G3:=(K1.trans ((Kp.new h2).trans K2)).trans ((Kp.new h3).trans K3);have M3:=hM.kj K13 nrm;have KK:Kp [r,m] H G3:=K13.mono (by simp);clear K1 K2 K3 h2 h3 J1 J2 K13 hR hM;refine aI fun R4 hR4=>?_;wp_walk;split
  ·skip;refine⟨r,1,rfl,by decide,by decide,J3,fun u4 s4 G4 hv4 ok4 hd4 J4 K4=>?_⟩;wp_walk;refine fun p hp=>?_;have N:=q0D (o:=.tup [.str "order",.str x2,.str x3,u4]) hp;have w4:=hv4.kp (aP.nil N);exact q _ (.order x2 x3 s4) _ (.order aA w4) ⟨ok4,by omega⟩ (by first|(simp only[Stm.eP];done)|(simp only[Stm.eP];exact hx2)) (by simp only[Stm.dp];omega) (J4.new hp) ((M3.kj K4 nrm).kp N) ((KK.trans (K4.mono (by simp))).trans (N.mono (by simp)))
  refine hR4 _ _ ?_;clear hR4 R4;refine aI fun R5 hR5=>?_;wp_walk;split
  ·refine⟨r,x2,rfl,J3,fun v ss G4 hv l4 hs J4 K4=>?_⟩;wp_walk;exact q v (.wait x2 ss) G4 hv ⟨rfl,l4,hs⟩ (by simp only[Stm.eP];exact⟨hx2,l4⟩) (by simp only[Stm.dp];omega) J4 (M3.kj K4 nrm) (KK.trans (K4.mono (by simp)))
  refine hR5 _ _ ?_;clear hR5 R5;refine aI fun R6 hR6=>?_;wp_walk;split
  ·skip;refine fun p hp=>?_;have N:=q0D (o:=.tup [.str "hear",.str x2,.str x3]) hp;exact q _ (.aaB x2 x3) _ (.aaB aA) trivial (by first|(simp only[Stm.eP];done)|(simp only[Stm.eP];exact hx2)) (by simp only[Stm.dp];omega) (J3.new hp) (M3.kp N) (KK.trans (N.mono (by simp)))
  refine hR6 _ _ ?_;clear hR6 R6;refine aI fun R7 hR7=>?_;refine qV fun RI hRI=>?_;wp_walk;simp only[TC];split
  ·next hc =>
   refine hRI _ _ ?_;clear hRI RI;wp_walk;refine⟨r,2,rfl,by decide,by decide,J3,fun u4 s4 G4 hv4 ok4 hd4 J4 K4=>?_⟩;have M4:=M3.kj K4 nrm;wp_walk;refine⟨r,m,dp - 1,rfl,by omega,by omega,J4,M4,nrm,fun p5 us5 b5 G5 e5 hs5 gd5 nm5 dp5 l5 J5 M5 K5=>?_⟩;wp_walk;refine⟨r,m,dp - 1,rfl,by omega,by omega,J5,M5,nrm,fun p6 us6 b6 G6 e6 hs6 gd6 nm6 dp6 l6 J6 M6 K6=>?_⟩;wp_walk;refine fun p hp=>?_;have N:=q0D (o:=.tup [.str "if",u4,.ref p5,.ref p6]) hp;have T6:=(J5.tk2 M5 K6).trans (aP.nil N);have T5:=(J4.tk2 M4 K5).trans T6;exact q _ (.iff s4 b5 b6) _ (.iff aA (hv4.kp T5) (T6 _ _ e5) (hs5.kp T6) (N.at e6) (hs6.kp (aP.nil N))) ⟨⟨ok4,by omega⟩,gd5,gd6⟩ (by simp only[Stm.eP];exact⟨⟨by omega,by omega⟩,nm5,nm6⟩) (by simp only[Stm.dp];omega) (J6.new hp) (M6.kp N) ((((KK.trans (K4.mono (by simp))).trans K5).trans K6).trans (N.mono (by simp)))
  clear hRI RI;refine hR7 _ _ ?_;clear hR7 R7;refine aI fun R8 hR8=>?_;refine qV fun RI hRI=>?_;wp_walk;simp only[TC];split
  ·next hc =>
   refine hRI _ _ ?_;clear hRI RI;wp_walk;refine⟨r,2,rfl,by decide,by decide,J3,fun u4 s4 G4 hv4 ok4 hd4 J4 K4=>?_⟩;have M4:=M3.kj K4 nrm;wp_walk;refine⟨r,m,dp - 1,rfl,by omega,by omega,J4,M4,nrm,fun p5 us5 b5 G5 e5 hs5 gd5 nm5 dp5 l5 J5 M5 K5=>?_⟩;wp_walk;refine fun p hp=>?_;have N:=q0D (o:=.tup [.str "while",u4,.ref p5]) hp;have T5:=(J4.tk2 M4 K5).trans (aP.nil N);exact q _ (.whl s4 b5) _ (.whl aA (hv4.kp T5) (N.at e5) (hs5.kp (aP.nil N))) ⟨⟨ok4,by omega⟩,gd5⟩ (by simp only[Stm.eP];exact⟨by omega,nm5⟩) (by simp only[Stm.dp];omega) (J5.new hp) (M5.kp N) (((KK.trans (K4.mono (by simp))).trans K5).trans (N.mono (by simp)))
  clear hRI RI;refine hR8 _ _ ?_;clear hR8 R8;refine aI fun R9 hR9=>?_;wp_walk;split
  ·skip;refine⟨r,1,rfl,by decide,by decide,J3,fun u4 s4 G4 hv4 ok4 hd4 J4 K4=>?_⟩;wp_walk;refine⟨r,2,rfl,by decide,by decide,J4,fun u5 s5 G5 hv5 ok5 hd5 J5 K5=>?_⟩;wp_walk;refine fun p hp=>?_;have N:=q0D (o:=.tup [.str "send",u4,.str x3,u5]) hp;have w4:=hv4.kp ((J4.tk K5).trans (aP.nil N));have w5:=hv5.kp (aP.nil N);exact q _ (.send s4 x3 s5) _ (.send aA w4 w5) ⟨⟨ok4,by omega⟩,ok5,by omega⟩ (by first|(simp only[Stm.eP];done)|(simp only[Stm.eP];exact hx2)) (by simp only[Stm.dp];omega) (J5.new hp) (((M3.kj K4 nrm).kj K5 nrm).kp N) (((KK.trans (K4.mono (by simp))).trans (K5.mono (by simp))).trans (N.mono (by simp)))
  refine hR9 _ _ ?_;clear hR9 R9;refine aI fun R10 acW=>?_;refine qV fun RI hRI=>?_;wp_walk;split
  ·refine hRI _ _ ?_;clear hRI RI;refine aI fun Ra hRa=>?_;wp_walk;refine⟨r,1,rfl,by decide,by decide,J3,fun u4 s4 G4 hv4 ok4 hd4 J4 K4=>?_⟩;wp_walk;refine hRa _ _ ?_;clear hRa Ra;wp_walk;refine fun p5 h5 p6 h6 p7 h7=>?_;have M_1:=q0D (o:=.tup [.str "timer",.str x2,u4]) h5;have M_2:=q0D (o:=.tup [.str "child",.str x2,.str x3,u4]) h6;have M_3:=q0D (o:=.lst [.ref p5,.ref p6]) h7;have f1:=(M_2.trans M_3).at (aA:(Z8 G4 p5 (.tup [.str "timer",.str x2,u4])) p5=some (.tup [.str "timer",.str x2,u4]));have f2:=M_3.at (aA:(Z8 (Z8 G4 p5 (.tup [.str "timer",.str x2,u4])) p6 (.tup [.str "child",.str x2,.str x3,u4])) p6=some (.tup [.str "child",.str x2,.str x3,u4]));have f3:(Z8 (Z8 (Z8 G4 p5 (.tup [.str "timer",.str x2,u4])) p6 (.tup [.str "child",.str x2,.str x3,u4])) p7 (.lst [.ref p5,.ref p6])) p7=some (.lst [.ref p5,.ref p6]):=aA;have MM:=((M_1.trans M_2).trans M_3);generalize Z8 (Z8 (Z8 G4 p5 (.tup [.str "timer",.str x2,u4])) p6 (.tup [.str "child",.str x2,.str x3,u4])) p7 (.lst [.ref p5,.ref p6])=G7 at *;clear M_1 M_2 M_3 h5 h6 h7;have J7:=J4.kp MM;have n7:p7≠r:=by
    obtain⟨_,_,e,_⟩:=J7;exact dO f3 e (by intro z;simp at z)
   refine⟨J7,fun g8 G8 a8 b8 J8 K8=>?_⟩;have T8:=J7.tk K8;wp_walk using K8.at1 f3 n7;have T:=(aP.nil MM).trans T8;have KF:Kp [r,m] H G8:=((KK.trans (K4.mono (by simp))).trans (MM.mono (by simp))).trans (K8.mono (by simp));have MF:=((M3.kj K4 nrm).kp MM).kj K8 nrm;refine k8 a8 b8 fun v hv=>?_;simp only[List.mem_cons,List.not_mem_nil,or_false] at hv;rcases hv with rfl|rfl
   ·exact q _ (.aaE x2 s4) _ (.aaE (T8 _ _ f1) (hv4.kp T)) ⟨ok4,by omega⟩ (by first|(simp only[Stm.eP];done)|(simp only[Stm.eP];exact hx2)) (by simp only[Stm.dp];omega) J8 MF KF
   ·exact q _ (.child x2 x3 s4) _ (.child (T8 _ _ f2) (hv4.kp T)) ⟨ok4,by omega⟩ (by first|(simp only[Stm.eP];done)|(simp only[Stm.eP];exact hx2)) (by simp only[Stm.dp];omega) J8 MF KF
  clear hRI RI;refine acW _ _ ?_;clear acW;clear R10;refine aI fun R11 acX=>?_;wp_walk;split
  ·skip;refine⟨r,1,rfl,by decide,by decide,J3,fun u4 s4 G4 hv4 ok4 hd4 J4 K4=>?_⟩;wp_walk;refine fun p hp=>?_;have N:=q0D (o:=.tup [.str "drop",u4]) hp;have w4:=hv4.kp (aP.nil N);exact q _ (.drop s4) _ (.drop aA w4) ⟨ok4,by omega⟩ (by first|(simp only[Stm.eP];done)|(simp only[Stm.eP];exact hx2)) (by simp only[Stm.dp];omega) (J4.new hp) ((M3.kj K4 nrm).kp N) ((KK.trans (K4.mono (by simp))).trans (N.mono (by simp)))
  refine acX _ _ ?_;clear acX;clear R11;wp_walk;refine⟨r,3,rfl,by decide,by decide,J3,fun u4 s4 G4 hv4 ok4 hd4 J4 K4=>?_⟩;wp_walk;refine fun p hp=>?_;have N:=q0D (o:=.tup [.str "set",.str x2,u4]) hp;have w4:=hv4.kp (aP.nil N);exact q _ (.set x2 s4) _ (.set aA w4) ⟨ok4,by omega⟩ (by first|(simp only[Stm.eP];done)|(simp only[Stm.eP];exact hx2)) (by simp only[Stm.dp];omega) (J4.new hp) ((M3.kj K4 nrm).kp N) ((KK.trans (K4.mono (by simp))).trans (N.mono (by simp)))
def xS{t:Ad}(T:Tx w K mg t){n d:Nat}(hn:3<=n)(IH:bD P w K mg base CX0 n t.fD t.fF ["jar","deep","room"] (Ji d)):bD P w K mg base CX0 (n+1) t.jC t.jD ["jar","deep","room"] (ES (d+1)):=by
 refine T.lK.ok pE (fun vs H Q E h=>?_) (fun cdv A outer s H vs Q E hr h=>?_)
 ·obtain⟨r,m,dp,rfl,_⟩:=h;rfl
 ·obtain⟨r,m,dp,rfl,d1,d2,hR,hM,nrm,q⟩:=h;refine⟨_,(aC (bA (i:=3) pE.nd rfl (Or.inl rfl) (bL aB))
   (aC (Bs PassesOwn.never rfl (Dl rfl T.BY (aD (bI dJ (aN (bG T) (hr.mono (by omega)) rfl T.bW T.bR.kp T.bV .nil pass0 (aD (pv 0) (aD aE aB))) (bI rH aE (bZ CL rfl T.MN DM (aD (hE cB (pv 1) aE (nomark _)) aB)))) aB)) (gK (i:=4) pE.nd rfl (Or.inl rfl)) (aF (bF (aR O9 (bB bP (pv 2) aE (fun _ _=>rfl)) aE (nomark _)) (aC (Ew (bI gJ (bB bP (pv 2) aE (fun _ _=>rfl)) aE) (IT (pv 2) aE Kl))
   (aF (cA (tO (pv 3) (aN IH (hr.mono (by omega)) rfl T.Ck T.qK.kp T.B4 .nil pass0 (aD (pv 0) (aD (pv 1) (aD (pv 2) aB)))))))) aX)))
   (aF (aM (bZ eV rfl T.iS fE (aD (pv 3) aB)))))),?_⟩
  and_intros
  refine aI fun R1 hR1=>?_;wp_walk;refine fun bl hbl=>?_;have N1:=q0D (o:=.lst []) hbl;have ebl:Z8 H bl (.lst []) bl=some (.lst []):=aA;have nbr:bl≠r:=hR.none hbl;have nbm:bl≠m:=by
   obtain⟨_,e,_⟩:=hM;exact(aL e hbl).symm
  have J1:=hR.new (o:=.lst []) hbl;have M1:=hM.kp N1;have KS:Kp [bl,r,m] H (Z8 H bl (.lst [])):=N1.mono (by simp);generalize Z8 H bl (.lst [])=G1 at *;clear N1 hR hM;refine hR1 _ _ ?_;clear hR1 R1;refine aI fun R2 hR2=>?_;wp_walk;refine⟨J1,fun g G2 a2 b2 J2 K2=>?_⟩;obtain⟨f,hf,ef⟩:∃ f:Int,(0<=f/\f<=1)/\(if decide (dp=3)=true then (1:Int) else 0)=f:=⟨_,by split<;>omega,rfl⟩;rw[ef];refine⟨De (by omega) (by omega),⟨by omega,by omega⟩,?_⟩;replace ebl:=K2.at1 ebl nbr;replace KS:=KS.trans (K2.mono (T:=[bl,r,m]) (by simp));have M2:=M1.kj K2 nrm;clear K2 J1 M1 ef;obtain⟨Pv,hPv⟩:∃ Pv:Nat->St->Hp->Prop,∀ i σ G,Pv i σ G = ∃(v4:Option V) (us:List V) (b:List Stm),σ=[some (.ref r),some (.int dp),some (.ref m),some (.ref bl),v4]/\G bl=some (.lst us)/\cH G us b/\b.length<=i/\yB true b/\dZ NM4 b/\(xX b:Int)<=dp/\cF G r/\fO G m/\Kp [bl,r,m] H G:=⟨_,fun _ _ _=>rfl⟩;refine vA (lo:=0) Pv ?_ ?_ ?_
  ·rw[hPv];exact⟨none,[],[],rfl,ebl,.nil,Nat.le_refl _,by simp only[yB],by simp only[dZ],by simpa[xX] using d1,J2,M2,KS⟩
  ·intro i σ G hi hG;rw[hPv] at hG;obtain⟨v4,us,b,rfl,eB,hs,lb,gb,nb,db,JG,MG,KG⟩:=hG;have back:∀(v4:Option V) (us:List V) (b:List Stm) (G':Hp),G' bl=some (.lst us)->cH G' us b->b.length<=i+1->yB true b->dZ NM4 b->(xX b:Int)<=dp->cF G' r->fO G' m->Kp [bl,r,m] H G'->Pv (i+1) [some (.ref r),some (.int dp),some (.ref m),some (.ref bl),v4] G':=fun v4 us b G' x1 x2 x3 x4 x5 x6 x7 x8 x9=>by
    rw[hPv];exact⟨_,_,_,rfl,x1,x2,x3,x4,x5,x6,x7,x8,x9⟩
   clear hPv;obtain⟨n0,em,hn0⟩:=id MG;have lu:=hs.len;refine qV fun RI hRI=>?_;wp_walk using em;split
   ·next hc =>
    refine hRI _ _ ?_;clear hRI RI;refine aI fun Ra hRa=>?_;wp_walk using em;have km:Kp [m] G (Z8 G m (.lst [.int (n0 - 1)])):=Kp.set (by simp);have t3:aP G (Z8 G m (.lst [.int (n0 - 1)])):=aP.Hj em (by intro _ z;cases z);have M3:fO (Z8 G m (.lst [.int (n0 - 1)])) m:=⟨n0 - 1,aA,by omega⟩;have J3:cF (Z8 G m (.lst [.int (n0 - 1)])) r:=by
     obtain⟨c,f,e,x⟩:=JG;exact⟨c,f,km.at1 e nrm,x⟩
    have eB3:=km.at1 eB nbm;have hs3:=hs.kp t3;have KG3:=KG.trans (km.mono (T:=[bl,r,m]) (by simp));generalize Z8 G m (.lst [.int (n0 - 1)])=G3 at *;refine hRa _ _ ?_;clear hRa Ra km t3;wp_walk using eB3;refine⟨r,m,dp,rfl,d1,by omega,J3,M3,nrm,fun v x G4 hv gx nx dx J4 M4 K4=>?_⟩;have T4:=J3.tk2 M3 K4;have eB4:=K4 _ _ eB3 (by simp only[List.mem_cons,List.not_mem_nil,or_false,not_or];exact⟨nbr,nbm⟩);wp_walk using eB4;refine⟨by omega,?_⟩;have kb:Kp [bl] G4 (Z8 G4 bl (.lst (us++[v]))):=Kp.set (by simp);have t5:aP G4 (Z8 G4 bl (.lst (us++[v]))):=aP.Hj eB4 (by intro _ z;cases z);refine back _ _ (b++[x]) _ aA (((hs3.kp T4).snoc hv).kp t5) (by simp;omega) (FO gb gx) (Gu nb nx) (by rw[Ak];omega) ?_ ?_ ((KG3.trans (K4.mono (by simp))).trans (kb.mono (by simp)))
    ·obtain⟨c,f,e,x⟩:=J4;exact⟨c,f,kb.at1 e nbr.symm,x⟩
    ·obtain⟨c,e,x⟩:=M4;exact⟨c,kb.at1 e nbm.symm,x⟩
   ·wp_walk;exact back _ us b G eB hs (by omega) gb nb db JG MG KG
  intro σ G hG;rw[hPv] at hG;obtain⟨v4,us,b,rfl,eB,hs,lb,gb,nb,db,JG,MG,KG⟩:=hG;clear hPv;refine hR2 _ _ ?_;clear hR2 R2;wp_walk using eB;intro p hp;have N:=q0D (o:=.tup us) hp;exact q p us b _ aA (hs.kp (aP.nil N)) gb nb db (by omega) (JG.new hp) (MG.kp N) ((Kp.drop KG hbl).trans (N.mono (by simp)))
def blk0{t:Ad}(T:Tx w K mg t):bD P w K mg base CX0 9 t.jC t.jD ["jar","deep","room"] (ES 0) :=
 ⟨fun _ _ _ _ x=>by (obtain⟨_,_,_,_,h,h',_⟩:=x;exact absurd h (by omega)),fun _ _ _ _ _ _ _ _ _ _ _ _ _ x=>by (obtain⟨_,_,_,_,h,h',_⟩:=x;exact absurd h (by omega))⟩
def Kc{t:Ad}(T:Tx w K mg t):∀ d:Nat,bD P w K mg base CX0 (2 * d+10) t.fD t.fF ["jar","deep","room"] (Ji d)/\bD P w K mg base CX0 (2 * d+11) t.jC t.jD ["jar","deep","room"] (ES (d+1))
 | 0=>by
  have a:=nG (P:=P) (base:=base) T (n:=9) (d:=0) (Nat.le_refl _) (blk0 T);exact⟨a,xS T (by omega) a⟩
 | d+1=>by
  have a:=nG (P:=P) (base:=base) T (n:=2 * d+11) (d:=d+1) (by omega) (Kc T d).2;exact⟨a,xS T (by omega) a⟩
def Cr{t:Ad}(T:Tx w K mg t):bD P w K mg base CX0 20 t.nP t.n8 ["cell"] WC:=by
 refine T.xE.ok lF (fun vs H Q E h=>?_) (fun cdv A outer s H vs Q E hr h=>?_)
 ·obtain⟨c,rfl,_⟩:=h;rfl
 ·obtain⟨c,rfl,q⟩:=h;refine⟨_,(aC (bA (i:=1) lF.nd rfl (Or.inl rfl) (aN (vX T) (hr.mono (by omega)) rfl T.Eh T.yV.kp T.DL .nil pass0 (aD (pv 0) aB)))
   (aC (bA (i:=2) lF.nd rfl (Or.inl rfl) (aN (Kc T 3).2 (hr.mono (by omega)) rfl T.pW T.lK.kp T.pO .nil pass0 (aD (pv 1) (aD aE (aD (bL (aD aE aB)) aB)))))
   (aF (aM (bI Si (pv 2) (bI Sj (bH (aD (bH (aD aO (aD (aN (cV T 4) (hr.mono (by omega)) rfl T.cL T.cI.kp T.cK .nil pass0 (aD (pv 1) (aD aE aB))) aB))) aB)) (aN (bG T) (hr.mono (by omega)) rfl T.bW T.bR.kp T.bV .nil pass0 (aD (pv 1) (aD aE aB))))))))),?_⟩
  and_intros
  refine aI fun R1 hR1=>?_;wp_walk;refine fun r G1 hr1 K1 J1=>?_;refine hR1 _ _ ?_;clear hR1 R1;refine aI fun R2 hR2=>?_;wp_walk;refine fun m hm=>?_;have N2:=q0D (o:=.lst [.int 40]) hm;have M2:fO (Z8 G1 m (.lst [.int 40])) m:=⟨40,aA,by decide⟩;have J2:=J1.new (o:=.lst [.int 40]) hm;have nrm:r≠m:=(J1.none hm).symm;have hmH:H m=none:=by
   cases e:H m with
   | none=>rfl
   | some o=>rw[K1.at e] at hm;cases hm
  have K2:Kp [r,m] H (Z8 G1 m (.lst [.int 40])):=(K1.trans N2).mono (by simp);generalize Z8 G1 m (.lst [.int 40])=G2 at *;clear N2 K1 J1 hm;refine⟨r,m,3,rfl,by decide,by decide,J2,M2,nrm,fun p us b G3 ep hs gb nb db lb J3 M3 K3=>?_⟩;have K3':Kp [r,m] H G3:=K2.trans K3;clear K2 K3 J2 M2;wp_walk;refine hR2 _ _ ?_;clear hR2 R2;wp_walk;refine⟨r,1,rfl,by decide,by decide,J3,fun u s G4 hv ok hd J4 K4 p1 m1 p2 m2=>⟨(J4.new m1).new m2,fun g G6 g0 g1 J6 K6=>?_⟩⟩;have M_1:=q0D (o:=.tup [.str "end",u]) m1;have M_2:=q0D (o:=.tup [.ref p1]) m2;have f1:=M_2.at (aA:(Z8 G4 p1 (.tup [.str "end",u])) p1=some (.tup [.str "end",u]));have f2:(Z8 (Z8 G4 p1 (.tup [.str "end",u])) p2 (.tup [.ref p1])) p2=some (.tup [.ref p1]):=aA;have MM:=(M_1.trans M_2);generalize Z8 (Z8 G4 p1 (.tup [.str "end",u])) p2 (.tup [.ref p1])=G5 at *;clear M_1 M_2 m1 m2;have J5:=J4.kp MM;have T6:=J5.tk K6;have T4:=(J3.tk K4).trans ((aP.nil MM).trans T6);have f1':=T6 _ _ f1;have f2':=T6 _ _ f2;have ep6:=T4 _ _ ep;have hs6:=hs.kp T4;have sv:dH G6 (.ref p1) (.fin s):=.fin f1' (hv.kp ((aP.nil MM).trans T6));have gs:(Stm.fin s).gd true:=⟨ok,by omega⟩;have KF:Kp [] H G6:=Kp.drop (Kp.drop (((K3'.trans (K4.mono (by simp))).trans (MM.mono (by simp))).trans (K6.mono (by simp))) hr1) hmH;have lu:=hs.len;wp_walk using f2';refine⟨by simp,?_⟩;have lf:xX [Stm.fin s]=0:=by simp[xX,Stm.dp]
  by_cases hg:g=1
  ·refine .inl ⟨hg,?_⟩;wp_walk using f2',ep6;refine⟨by omega,?_⟩;split
   ·exact q p2 _ [.fin s] G6 f2' (.cons sv .nil) (Ol fun y hy=>by rw[show y=.fin s by simpa using hy];exact gs) (by simp only[dZ,Stm.eP];exact⟨trivial,trivial⟩) (by omega) (by simp) KF
   ·intro p3 h3;have N:=q0D (o:=.tup (us++[.ref p1])) h3;exact q p3 _ (b++[.fin s]) _ aA ((hs6.snoc sv).kp (aP.nil N)) (FO gb gs) (Gu nb (by simp only[Stm.eP])) (by rw[Ak];simp only[Stm.dp];omega) (by simp;omega) (KF.trans N)
  ·refine .inr ⟨by omega,fun p3 h3=>?_⟩;have N:=q0D (o:=.tup []) h3;have e3:Z8 G6 p3 (.tup []) p3=some (.tup []):=aA;replace ep6:=N.at ep6;replace hs6:=hs6.kp (aP.nil N);replace KF:=KF.trans N;generalize Z8 G6 p3 (.tup [])=G7 at *;wp_walk using e3,ep6;refine⟨by omega,?_⟩;split
   ·exact q p3 [] [] G7 e3 .nil (by simp only[yB]) (by simp only[dZ]) (by simp[xX]) (by simp) KF
   ·exact q p us b G7 ep6 hs6 gb nb (by omega) (by omega) KF
def GD{t:Ad}(T:Tx w K mg t):bD P w K mg base CX0 1 t.pL t.uO ["self","program"] (Hn t.aV):=by
 refine T.Lv.ok Hc (fun vs H Q E h=>?_) (fun cdv A outer s H vs Q E hr h=>?_)
 ·obtain⟨x,dx,p,us,b,rfl,_⟩:=h;rfl
 ·obtain⟨x,dx,p,us,b,rfl,e,ep,hU,q⟩:=h;refine⟨_,(aC (dA T.cS T.iA (pv 0) (bL (aD (pv 1) aB)))
   (aF (dA T.cS T.eK (pv 0) (bL (aD aE aB))))),?_⟩
  and_intros
  wp_walk using e;refine fun lb f1=>?_;have n1:x≠lb:=aL e f1;wp_walk using aG n1,e;refine fun ln f2=>?_;have n2:x≠ln:=aL aA f2;have n3:lb≠ln:=aL (by rw[aG n1.symm];exact aA) f2;wp_walk using aG n2;rw[aG n2.symm,aG n3.symm] at f2;have npx:p≠x:=dO ep e (by intro z;cases z);have npl:=aL ep f1;have npn:=aL ep f2;have KK:Kp [x] H (Z8 (Z8 (Z8 (Z8 H lb (.lst [.ref p])) x (.ins t.aV dx [("blocks",.ref lb)])) ln (.lst [.int 0])) x (.ins t.aV dx [("blocks",.ref lb),("numbers",.ref ln)])):=fun b o eb nb=>by
   have nb':b≠x:=by simpa using nb
   rw[aG nb',aG (aL eb f2),aG nb',aG (aL eb f1)];exact eb
  have TT:aP H _:=fun a xs ea=>KK a _ ea (by simp only[List.mem_cons,List.not_mem_nil,or_false];exact dO ea e (by intro z;cases z));refine q lb ln _ f1 f2 ⟨aA,⟨[.ref p],?_,.one (TT _ _ ep) (hU.kp TT)⟩,?_,n3,by simp⟩ KK
  ·rw[aG n1.symm,aG n3,aG n1.symm];exact aA
  ·rw[aG n2.symm];exact aA
def Bh{t:Ad}(T:Tx w K mg t):bD P w K mg base CX0 1 t.iY t.mE ["self"] (Hm t.aJ):=by
 refine T.D1.ok BG (fun vs H Q E h=>?_) (fun cdv A outer s H vs Q E hr h=>?_)
 ·obtain⟨x,dx,rfl,_⟩:=h;rfl
 ·obtain⟨x,dx,rfl,e,q⟩:=h;refine⟨_,(aC (dA T.bE T.vN (pv 0) aE)
   (aC (dA T.bE T.fV (pv 0) tQ)
   (aF (dA T.bE T.fT (pv 0) tQ)))),?_⟩
  and_intros
  wp_walk using e;refine fun dp f1=>?_;have n1:x≠dp:=aL aA f1;wp_walk using aG n1;refine fun da f2=>?_;have n2:x≠da:=aL aA f2;have n3:dp≠da:=aL (by rw[aG n1.symm];exact aA) f2;wp_walk using aG n2;rw[aG n1.symm] at f1;rw[aG n2.symm,aG n3.symm,aG n2.symm] at f2;refine q dp da _ f1 f2 ⟨aA,?_,?_,n3,by simp,.nil,by simp,by simp,by decide⟩ ?_
  ·rw[aG n1.symm,aG n3,aG n1.symm];exact aA
  ·rw[aG n2.symm];exact aA
  ·intro b o eb nb;have nb':b≠x:=by simpa using nb
   rw[aG nb',aG (aL eb f2),aG nb',aG (aL eb f1),aG nb'];exact eb
def Be{t:Ad}(T:Tx w K mg t):bD P w K mg base CX0 3 t.sC t.zZ ["self","program"] (Ko ⟨t.aU,t.aV,t.aJ⟩):=by
 refine T.NZ.ok IX (fun vs H Q E h=>?_) (fun cdv A outer s H vs Q E hr h=>?_)
 ·obtain⟨x,dx,pg,us,b,rfl,_⟩:=h;rfl
 ·obtain⟨x,dx,pg,us,b,rfl,e,ep,hs,q⟩:=h;refine⟨_,(aC (dA T.aW T.jU (pv 0) (Er T.Iv (GD T) (hr.mono (by omega)) rfl T.Ye T.KO .nil pass0 (aD (pv 1) aB)))
   (aC (dA T.aW T.c9 (pv 0) (bH (aD aO aB)))
   (aC (dA T.aW T.Df (pv 0) eD)
   (aC (dA T.aW T.tG (pv 0) aE)
   (aC (dA T.aW T.fJ (pv 0) tQ)
   (aC (dA T.aW T.cN (pv 0) (Pf T.vL (Bh T) (hr.mono (by omega)) rfl T.OI T.DJ .nil pass0))
   (aF (dA T.aW T.fU (pv 0) tQ)))))))),?_⟩
  and_intros
  refine aI fun R1 hR1=>?_;wp_walk using e;refine RZ ep hs fun wk wx lb ln Gw Kw hwk hlb hln W0=>?_;have ew:=Kw.at e;wp_walk using ew;have g1:Z8 Gw x (.ins t.aU dx [("walk",.ref wk)]) x=some (.ins t.aU dx [("walk",.ref wk)]):=aA;have K1:Kp [x] Gw (Z8 Gw x (.ins t.aU dx [("walk",.ref wk)])):=Kp.set (by simp);generalize Z8 Gw x (.ins t.aU dx [("walk",.ref wk)])=G1 at *;refine hR1 _ _ ?_;clear hR1 R1;refine aI fun R2 hR2=>?_;wp_walk using g1;refine fun p h2=>?_;obtain⟨g2,f2,K2,n2⟩:=put2 (o:=.tup [.str "new"]) (o':=.ins t.aU dx [("walk",.ref wk),("sleep",.ref p)]) g1 h2;wp_walk using aG n2,g1;generalize Z8 (Z8 G1 p (.tup [.str "new"])) x (.ins t.aU dx [("walk",.ref wk),("sleep",.ref p)])=G2 at *;refine hR2 _ _ ?_;clear hR2 R2;refine aI fun R3 hR3=>?_;wp_walk using g2;have g3:Z8 G2 x (.ins t.aU dx [("walk",.ref wk),("sleep",.ref p),("arg",.non)]) x=some (.ins t.aU dx [("walk",.ref wk),("sleep",.ref p),("arg",.non)]):=aA;have K3:Kp [x] G2 (Z8 G2 x (.ins t.aU dx [("walk",.ref wk),("sleep",.ref p),("arg",.non)])):=Kp.set (by simp);generalize Z8 G2 x (.ins t.aU dx [("walk",.ref wk),("sleep",.ref p),("arg",.non)])=G3 at *;refine hR3 _ _ ?_;clear hR3 R3;refine aI fun R4 hR4=>?_;wp_walk using g3;have g4:Z8 G3 x (.ins t.aU dx [("walk",.ref wk),("sleep",.ref p),("arg",.non),("now",.int 0)]) x=some (.ins t.aU dx [("walk",.ref wk),("sleep",.ref p),("arg",.non),("now",.int 0)]):=aA;have K4:Kp [x] G3 (Z8 G3 x (.ins t.aU dx [("walk",.ref wk),("sleep",.ref p),("arg",.non),("now",.int 0)])):=Kp.set (by simp);generalize Z8 G3 x (.ins t.aU dx [("walk",.ref wk),("sleep",.ref p),("arg",.non),("now",.int 0)])=G4 at *;refine hR4 _ _ ?_;clear hR4 R4;refine aI fun R5 hR5=>?_;wp_walk using g4;refine fun nm h5=>?_;obtain⟨g5,f5,K5,n5⟩:=put2 (o:=.dK []) (o':=.ins t.aU dx [("walk",.ref wk),("sleep",.ref p),("arg",.non),("now",.int 0),("names",.ref nm)]) g4 h5;wp_walk using aG n5,g4;generalize Z8 (Z8 G4 nm (.dK [])) x (.ins t.aU dx [("walk",.ref wk),("sleep",.ref p),("arg",.non),("now",.int 0),("names",.ref nm)])=G5 at *;refine hR5 _ _ ?_;clear hR5 R5;refine aI fun R6 hR6=>?_;wp_walk using g5;refine Yh fun tk tx dp da Gt Kt htk hdp hda T0=>?_;have et:=Kt.at g5;wp_walk using et;have g6:Z8 Gt x (.ins t.aU dx [("walk",.ref wk),("sleep",.ref p),("arg",.non),("now",.int 0),("names",.ref nm),("tickets",.ref tk)]) x=some (.ins t.aU dx [("walk",.ref wk),("sleep",.ref p),("arg",.non),("now",.int 0),("names",.ref nm),("tickets",.ref tk)]):=aA;have K6:Kp [x] Gt (Z8 Gt x (.ins t.aU dx [("walk",.ref wk),("sleep",.ref p),("arg",.non),("now",.int 0),("names",.ref nm),("tickets",.ref tk)])):=Kp.set (by simp);generalize Z8 Gt x (.ins t.aU dx [("walk",.ref wk),("sleep",.ref p),("arg",.non),("now",.int 0),("names",.ref nm),("tickets",.ref tk)])=G6 at *;refine hR6 _ _ ?_;clear hR6 R6;wp_walk using g6;refine fun lt h7=>?_;obtain⟨g7,f7,K7,n7⟩:=put2 (o:=.dK []) (o':=.ins t.aU dx [("walk",.ref wk),("sleep",.ref p),("arg",.non),("now",.int 0),("names",.ref nm),("tickets",.ref tk),("letters",.ref lt)]) g6 h7;wp_walk using aG n7,g6;generalize Z8 (Z8 G6 lt (.dK [])) x (.ins t.aU dx [("walk",.ref wk),("sleep",.ref p),("arg",.non),("now",.int 0),("names",.ref nm),("tickets",.ref tk),("letters",.ref lt)])=G7 at *;have KA:Kp [x] H G4:=((((Kw.mono (by simp)).trans K1).trans K2).trans K3).trans K4;have KB:Kp [x] H Gt:=(KA.trans K5).trans (Kt.mono (by simp));have KC:Kp [x] H G6:=KB.trans K6;have xwk:x≠wk:=aL e hwk;have xtk:x≠tk:=aL g5 htk;have W7:Kp [x] Gw G7:=(((((K1.trans K2).trans K3).trans K4).trans K5).trans (Kt.mono (by simp))).trans (K6.trans K7);have P7:Kp [x] G2 G7:=(((K3.trans K4).trans K5).trans (Kt.mono (by simp))).trans (K6.trans K7);have N7:Kp [x] G5 G7:=(Kt.mono (by simp)).trans (K6.trans K7);have T7:Kp [x] Gt G7:=K6.trans K7;have KD:Kp [x] H G7:=KC.trans K7;have W5:Kp [x] Gw G5:=((((K1.trans K2).trans K3).trans K4).trans K5);have xlb:lb≠x:=(aL e hlb).symm;have xln:ln≠x:=(aL e hln).symm;have xdp:dp≠x:=(aL g5 hdp).symm;have xda:da≠x:=(aL g5 hda).symm;have nm6:=K6.at1 (Kt.at f5) n5.symm;have dp6:=K6.at1 T0.hp xdp;have da6:=K6.at1 T0.ha xda;have wk5:=W5.at1 W0.ins xwk.symm;have fr4:H nm=none:=Zt KA g4 h5;have fr5:∀ {a:Addr},G5 a=none->H a=none:=fun h=>Zt (KA.trans K5) g5 h;have adW:H lt=none:=Zt KC g6 h7;have kt7:aP Gw G7:=fun b xs hb=>W7.at1 hb (dO hb ew (by intro z;cases z));refine q ⟨x,dx,wk,wx,lb,ln,nm,tk,tx,dp,da,lt⟩ (.ref p) G7 rfl ⟨g7,⟨p,rfl,P7.at1 f2 n2.symm⟩,W0.keep (fun o h=>W7.at1 h xwk.symm) (fun o h=>W7.at1 h xlb) (fun o h=>W7.at1 h xln) kt7,T0.keep (fun o h=>T7.at1 h xtk.symm) (fun o h=>T7.at1 h xdp) (fun o h=>T7.at1 h xda),N7.at1 f5 n5.symm,⟨[],f7,.nil⟩,by simp,by simp,xwk,xtk,aL wk5 htk,aL f5 hdp,aL f5 hda,aL nm6 h7,(aL dp6 h7).symm,(aL da6 h7).symm⟩ KD fun a ha=>?_;simp only[Rn.cells,List.mem_cons,List.not_mem_nil,or_false] at ha;rcases ha with rfl|rfl|rfl|rfl|rfl|rfl|rfl|rfl
  ·exact .inl rfl
  ·exact .inr hlb
  ·exact .inr hln
  ·exact .inr fr4
  ·exact .inr (fr5 htk)
  ·exact .inr (fr5 hdp)
  ·exact .inr (fr5 hda)
  ·exact .inr adW
def GK{t:Ad}(T:Tx w K mg t):bD P w K mg base CX0 1 t.uF t.uY ["thing"] Yw:=by
 refine T.C2.ok Hh (fun vs H Q E h=>?_) (fun cdv A outer s H vs Q E hr h=>?_)
 ·obtain⟨v,rfl,_⟩:=h;rfl
 ·obtain⟨v,rfl,hT,q⟩:=h;refine⟨_,(aF (aM (jX (aR mN (pv 0) eD (nomark _)) aO (bZ CP rfl T.Qo HN (aD (pv 0) aB))))),?_⟩
  and_intros
  cases v with
  | non =>
   wp_walk;exact q
  | str x =>
   wp_walk using reduceCtorEq;exact q
  | int i =>
   wp_walk using reduceCtorEq;exact⟨tlog hT.1 hT.2,q⟩
  | _=>exact hT.elim
def IK{t:Ad}(T:Tx w K mg t):bD P w K mg base CX0 3 t.zL t.An ["row"] Yv:=by
 refine T.FJ.ok Jc (fun vs H Q E h=>?_) (fun cdv A outer s H vs Q E hr h=>?_)
 ·obtain⟨v,h,rfl,_⟩:=h;rfl
 ·obtain⟨v,h,rfl,⟨a,rfl,ha⟩,ok,q⟩:=h;refine⟨_,(aF (aM (Bp PySem.F.plainAttrs_str PySem.F.slot_str_join PySem.F.type_str_join Ka aO (aD (kR (cl:=[]) (fr:=[]) (N:=["thing"]) rfl (fun _ _ h=>h) (c5.cX rfl rfl rfl rfl) (Ph (pv 0)) (fun C s H ex pn=>⟨hJ,(aN (GK T) (hr.mono (by omega)) rfl T.LU T.C2.kp T.KY .nil pass0 (aD (pv 0) aB))⟩)) aB)))),?_⟩
  and_intros
  wp_walk;refine⟨⟨_,fA.of ha⟩,?_⟩;have hT:=Hap.Tws ok;have l4:=h.Qi.1;refine OF (ys:=h.vs) (fun j xs G=>xs=((h.vs.map tw).take j).map V.str/\Kp [] H G) ⟨rfl,Kp.refl⟩ ?_ ?_ ?_ ?_
  ·rintro j xs G ⟨rfl,_⟩;simp only[List.length_map,List.length_take];omega
  ·rintro j xs G ⟨_,k⟩;exact fA.of (k.at ha)
  ·rintro j y xs G _ hj ⟨rfl,k⟩;have e5:=mW (show(h.vs.map tw)[j]?=some (tw y) by rw[List.getElem?_map,hj];rfl);wp_walk using aY,Option.join_some;refine⟨hT y (List.mem_of_getElem? hj),?_,k⟩;rw[e5];simp
  ·rintro xs G ⟨rfl,k⟩ l hl;rw[show h.vs.length=(h.vs.map tw).length by simp,List.take_length];have sb:=ME (B:=20) (ys:=h.vs.map tw) fun y hy=>by
    obtain⟨v,hv,rfl⟩:=List.mem_map.mp hy;exact(hT v hv).len
   rw[List.length_map] at sb;wp_walk using List.length_map,jlens.1;exact⟨by omega,q _ (k.trans (Kp.new hl))⟩
def GJ{t:Ad}(T:Tx w K mg t):bD P w K mg base CX0 5 t.uE t.uX ["rows"] T9:=by
 refine T.C1.ok Hg (fun vs H Q E h=>?_) (fun cdv A outer s H vs Q E hr h=>?_)
 ·obtain⟨p,us,hs,rfl,_⟩:=h;rfl
 ·obtain⟨p,us,hs,rfl,hp,hH,ok,hl,q⟩:=h;refine⟨_,(aF (aM (Bp PySem.F.plainAttrs_str PySem.F.slot_str_join PySem.F.type_str_join Ka aO (aD (kR (cl:=[]) (fr:=[]) (N:=["row"]) rfl (fun _ _ h=>h) (c5.cX rfl rfl rfl rfl) (i9 (pv 0)) (fun C s H ex pn=>⟨hJ,(bI dJ (aN (IK T) (hr.mono (by omega)) rfl T.OP T.FJ.kp T.MY .nil pass0 (aD (pv 0) aB)) aO)⟩)) aB)))),?_⟩
  and_intros
  wp_walk;refine⟨⟨_,dR.of hp⟩,?_⟩;have ll:=hH.len;refine kM (ys:=us) (fun j xs G=>xs=((hs.map Hap.line).take j).map V.str/\Kp [] H G) ⟨rfl,Kp.refl⟩ ?_ ?_ ?_ ?_
  ·rintro j xs G ⟨rfl,_⟩;simp only[List.length_map,List.length_take];omega
  ·rintro j xs G ⟨_,k⟩;exact dR.of (k.at hp)
  ·rintro j y xs G _ hj ⟨rfl,k⟩;obtain⟨h,ej,hA⟩:=hH.kY hj;have e5:=mW (show(hs.map Hap.line)[j]?=some h.line by rw[List.getElem?_map,ej];rfl);have ho:=ok h (List.mem_of_getElem? ej);have lr:=Hap.EB ho;wp_walk using aY,Option.join_some;refine⟨y,h,rfl,hA.kp (S:=[]) k,ho,fun H2 K2=>?_⟩;wp_walk using jlens.2.1;refine⟨by omega,?_,k.trans K2⟩;rw[e5];simp[Hap.line]
  ·rintro xs G ⟨rfl,k⟩ l hl2;rw[show us.length=(hs.map Hap.line).length by rw[List.length_map,ll],List.take_length];have sb:=ME (B:=101) (ys:=hs.map Hap.line) fun y hy=>by
    obtain⟨h,hh,rfl⟩:=List.mem_map.mp hy;have:=Hap.EB (ok h hh);simp only[Hap.line,EX,jlens.2.1];omega
   rw[List.length_map] at sb;wp_walk using List.length_map,jlens.2.2,Nat.mul_zero;exact⟨by omega,q _ (k.trans (Kp.new hl2))⟩
def IJ{t:Ad}(T:Tx w K mg t):bD P w K mg base CX0 6 t.zK t.Am ["happenings"] T9:=by
 refine T.FI.ok Jb (fun vs H Q E h=>?_) (fun cdv A outer s H vs Q E hr h=>?_)
 ·obtain⟨p,us,hs,rfl,_⟩:=h;rfl
 ·obtain⟨p,us,hs,rfl,h⟩:=h;refine⟨_,(aF (aM (aN (GJ T) (hr.mono (by omega)) rfl T.LS T.C1.kp T.KW .nil pass0 (aD (pv 0) aB)))),?_⟩
  and_intros
  wp_walk;exact⟨p,us,hs,rfl,h⟩
def Em{t:Ad}(T:Tx w K mg t):bD P w K mg base CX0 1 t.qS t.qZ ["script","k"] (Wz K):=by
 refine T.AD.ok EK (fun vs H Q E h=>?_) (fun cdv A outer s H vs Q E hr h=>?_)
 ·obtain⟨a,ns,k,rfl,_⟩:=h;rfl
 ·obtain⟨a,ns,k,rfl,hS,hk,q⟩:=h;refine⟨_,(aC (bF (aR qO (pv 1) (bM Lc rfl T.tX iF (aD (pv 0) aB)) (nomark _)) (aF (aM (bB JX (pv 0) (pv 1) (fun _ _=>rfl)))) aX)
   (aF (aM aE))),?_⟩
  and_intros
  wp_walk;refine⟨_,hS,?_⟩;split
  ·next h =>
   rw[List.length_map] at h;have hj:k.toNat < ns.length:=by omega
   have ek:k=((k.toNat:Nat):Int):=by omega
   have e:kY (ns.map V.int) ((k.toNat:Nat):Int)=some (.int ns[k.toNat]):=pN (by rw[List.getElem?_map,List.getElem?_eq_getElem hj];rfl);rw[<- ek] at e;exact⟨a,_,k,_,rfl,rfl,hS,e,q _⟩
  ·exact q 0
def gT{t:Ad}(T:Tx w K mg t):bD P w K mg base CX0 1 t.jJ t.jQ ["self","ticket"] (PQ t.aJ):=by
 refine T.Ay.ok wU (fun vs H Q E h=>?_) (fun cdv A outer s H vs Q E hr h=>?_)
 ·obtain⟨tk,tx,dp,da,made,pend,ans,w,rfl,_⟩:=h;rfl
 ·obtain⟨tk,tx,dp,da,made,pend,ans,w,rfl,R,q⟩:=h;have hu:=nA hr;refine⟨_,(aF (aM (Wj (Kf hu (pv 1) (aQ T.bE T.fV (pv 0)))))),?_⟩
  and_intros
  wp_walk using R.ins,R.hp,Br;exact q
def vT{t:Ad}(T:Tx w K mg t):bD P w K mg base CX0 2 t.jG t.jN ["self","happening"] (WG ⟨t.aU,t.aV,t.aJ⟩):=by
 refine T.Av.ok lU (fun vs H Q E h=>?_) (fun cdv A outer s H vs Q E hr h=>?_)
 ·obtain⟨R,as,sl,S,v,h,rfl,_⟩:=h;rfl
 ·obtain⟨R,as,sl,S,v,h,rfl,A,hn,hH,q⟩:=h;refine⟨_,(aC (bA (i:=2) lU.nd rfl (Or.inl rfl) (bB bP (pv 1) aE (fun _ _=>rfl)))
   (aC (bF (aR cB (bB bP (aQ T.aW T.c9 (pv 0)) aE (fun _ _=>rfl)) aO (nomark _)) (aF (aM (hE Pa (pv 2) aO (nomark _)))) aX)
   (aC (bF (aR IQ (bB bP (aQ T.aW T.c9 (pv 0)) aE (fun _ _=>rfl)) (bH (aD aO (aD aO aB))) (by with_unfolding_all rfl)) (aF (aM oR)) aX)
   (aF (aM (TQ (hE cB (pv 2) aO (nomark _)) (Es (Pb (hE cB (pv 2) aO (nomark _)) (Es (Wk (bK (aQ T.aW T.cN (pv 0)) T.bE T.iK (gT T) (hr.mono (by omega)) T.jM .nil pass0 (aD (bB bP (pv 1) aE (fun _ _=>rfl)) aB)))))))))))),?_⟩
  and_intros
  obtain⟨a,rfl,eh⟩:=hH;cases es:S.sl with
  | non=>rw[es] at hn;cases hn
  | new =>
   have hsl:=A.slp;rw[es] at hsl;obtain⟨p,rfl,ep⟩:=hsl;cases h with
   | beg m w =>
    simp only[Hap.vs,Hap.ini,Hap.w,List.cons_append,List.nil_append] at eh;rw[show S.over (.beg m w)=false by simp only[Pu.over,es]] at q;wp_walk using A.ins,eh,ep;exact q _ Kp.refl
   | don m i w =>
    simp only[Hap.vs,Hap.ini,Hap.w,List.cons_append,List.nil_append] at eh;rw[show S.over (.don m i w)=true by simp only[Pu.over,es]] at q;wp_walk using A.ins,eh,ep;exact q _ Kp.refl
   | ltr m k w =>
    simp only[Hap.vs,Hap.ini,Hap.w,List.cons_append,List.nil_append] at eh;rw[show S.over (.ltr m k w)=true by simp only[Pu.over,es]] at q;wp_walk using A.ins,eh,ep;exact q _ Kp.refl
  | wait ts =>
   have hsl:=A.slp;rw[es] at hsl;obtain⟨p,p2,rfl,ep,ep2⟩:=hsl;cases h with
   | beg m w =>
    simp only[Hap.vs,Hap.ini,Hap.w,List.cons_append,List.nil_append] at eh;rw[show S.over (.beg m w)=true by simp only[Pu.over,es]] at q;wp_walk using A.ins,eh,ep;refine fun p9 h9=>⟨rfl,by decide +kernel,?_⟩;rw[if_neg (by decide +kernel)];have N9:=q0D (o:=.tup [.str "ended",.str "worn"]) h9;wp_walk using N9.at eh;exact q _ N9
   | don m i w =>
    simp only[Hap.vs,Hap.ini,Hap.w,List.cons_append,List.nil_append] at eh;rw[show S.over (.don m i w) = !decide (i∈S.pend) by simp only[Pu.over,es]] at q;wp_walk using A.ins,eh,ep;refine fun p9 h9=>⟨rfl,by decide +kernel,?_⟩;rw[if_neg (by decide +kernel)];have N9:=q0D (o:=.tup [.str "ended",.str "worn"]) h9;have A9:=A.kp N9;have eh9:=N9.at eh;generalize Z8 H p9 (.tup [.str "ended",.str "worn"])=G9 at *;wp_walk using A9.ins,A9.tk.ins,eh9;refine⟨R.tk,R.tx,R.dp,R.da,_,_,_,some i,rfl,A9.tk,?_⟩;wp_walk;rw[show decide (∃ j,j∈S.pend/\(some i:Wo)=some j)=decide (i∈S.pend) by simp];exact q _ N9
   | ltr m k0 w =>
    simp only[Hap.vs,Hap.ini,Hap.w,List.cons_append,List.nil_append] at eh;rw[show S.over (.ltr m k0 w)=false by simp only[Pu.over,es]] at q;wp_walk using A.ins,eh,ep;refine fun p9 h9=>⟨rfl,by decide +kernel,?_⟩;rw[if_neg (by decide +kernel)];have N9:=q0D (o:=.tup [.str "ended",.str "worn"]) h9;wp_walk using N9.at eh;exact q _ N9
  | aaB k =>
   have hsl:=A.slp;rw[es] at hsl;obtain⟨p,rfl,ep⟩:=hsl;cases h with
   | beg m w =>
    simp only[Hap.vs,Hap.ini,Hap.w,List.cons_append,List.nil_append] at eh;rw[show S.over (.beg m w)=true by simp only[Pu.over,es]] at q;wp_walk using A.ins,eh,ep;refine fun p9 h9=>⟨rfl,by decide +kernel,?_⟩;rw[if_neg (by decide +kernel)];have N9:=q0D (o:=.tup [.str "ended",.str "worn"]) h9;wp_walk using N9.at eh;exact q _ N9
   | don m i w =>
    simp only[Hap.vs,Hap.ini,Hap.w,List.cons_append,List.nil_append] at eh;rw[show S.over (.don m i w) = !decide (i∈S.pend) by simp only[Pu.over,es]] at q;wp_walk using A.ins,eh,ep;refine fun p9 h9=>⟨rfl,by decide +kernel,?_⟩;rw[if_neg (by decide +kernel)];have N9:=q0D (o:=.tup [.str "ended",.str "worn"]) h9;have A9:=A.kp N9;have eh9:=N9.at eh;generalize Z8 H p9 (.tup [.str "ended",.str "worn"])=G9 at *;wp_walk using A9.ins,A9.tk.ins,eh9;refine⟨R.tk,R.tx,R.dp,R.da,_,_,_,some i,rfl,A9.tk,?_⟩;wp_walk;rw[show decide (∃ j,j∈S.pend/\(some i:Wo)=some j)=decide (i∈S.pend) by simp];exact q _ N9
   | ltr m k0 w =>
    simp only[Hap.vs,Hap.ini,Hap.w,List.cons_append,List.nil_append] at eh;rw[show S.over (.ltr m k0 w)=false by simp only[Pu.over,es]] at q;wp_walk using A.ins,eh,ep;refine fun p9 h9=>⟨rfl,by decide +kernel,?_⟩;rw[if_neg (by decide +kernel)];have N9:=q0D (o:=.tup [.str "ended",.str "worn"]) h9;wp_walk using N9.at eh;exact q _ N9
  | ended w =>
   have hsl:=A.slp;rw[es] at hsl;obtain⟨p,rfl,ep⟩:=hsl;have e0:∃(kd:Str) (xs:List V),H a=some (.tup (.str kd::xs)):=by cases h<;>exact⟨_,_,eh⟩
   obtain⟨kd,xs,e0⟩:=e0;rw[show S.over (h)=true by simp only[Pu.over,es]] at q;wp_walk using A.ins,e0,ep;refine fun p9 h9=>⟨rfl,by decide +kernel,?_⟩;rw[if_pos (by decide +kernel)];exact q _ (Kp.new h9)
  | worn =>
   have hsl:=A.slp;rw[es] at hsl;obtain⟨p,rfl,ep⟩:=hsl;have e0:∃(kd:Str) (xs:List V),H a=some (.tup (.str kd::xs)):=by cases h<;>exact⟨_,_,eh⟩
   obtain⟨kd,xs,e0⟩:=e0;rw[show S.over (h)=true by simp only[Pu.over,es]] at q;wp_walk using A.ins,e0,ep;refine fun p9 h9=>⟨rfl,by decide +kernel,?_⟩;rw[if_pos (by decide +kernel)];exact q _ (Kp.new h9)
def g9{t:Ad}(T:Tx w K mg t):bD P w K mg base CX0 1 t.nM t.nY ["self"] (BP t.aV):=by
 refine T.Fx.ok Cv (fun vs H Q E h=>?_) (fun cdv A outer s H vs Q E hr h=>?_)
 ·obtain⟨wk,wx,lb,ln,k,n,b,r,rfl,_⟩:=h;rfl
 ·obtain⟨wk,wx,lb,ln,k,n,b,r,rfl,W,q⟩:=h;refine⟨_,(aF (Sq (aQ T.cS T.eK (pv 0)) (oS kD aE) X8 aE JV Kl)),?_⟩
  and_intros
  obtain⟨vs,eb,hB⟩:=W.bl;obtain⟨l,el,el2⟩:=vR k n b r;have en:=W.nu;rw[el] at en;have i2:kY ((l++[(n:Int)]).map V.int) (-1)=some (.int n):=by rw[List.map_append];exact nR _ _
  have i3:HA ((l++[(n:Int)]).map V.int).length (-1)=some l.length:=by
   unfold HA;simp;omega
  have i4:((l++[(n:Int)]).map V.int).set l.length (.int ((n:Int)+1))=(l++[((n+1:Nat):Int)]).map V.int:=by simp
  wp_walk using W.ins,en,i2,i3,i4;have n1:wk≠ln:=dO W.ins W.nu (by intro z;cases z);have K1:Kp [ln] H (Z8 H ln (.lst ((l++[((n+1:Nat):Int)]).map V.int))):=Kp.BK;have T1:aP H (Z8 H ln (.lst ((l++[((n+1:Nat):Int)]).map V.int))):=fun a xs e=>by rw[aG (dO e W.nu (by intro z;cases z))];exact e
  exact q _ ⟨by rw[aG n1];exact W.ins,⟨vs,by rw[aG W.ne];exact eb,(hB.kp T1).turn⟩,by rw[aA,el2],W.ne,W.few⟩ K1
def fK{t:Ad}(T:Tx w K mg t):bD P w K mg base CX0 1 t.kU t.k4 ["self"] (Jk t.aV):=by
 refine T.Cc.ok yJ (fun vs H Q E h=>?_) (fun cdv A outer s H vs Q E hr h=>?_)
 ·obtain⟨wk,wx,lb,ln,k,n,b,r,m,rfl,_⟩:=h;rfl
 ·obtain⟨wk,wx,lb,ln,k,n,b,r,m,rfl,W,hm,q⟩:=h;refine⟨_,(aF (aM (bB bP (bB bP (aQ T.cS T.iA (pv 0)) (oS kD aE) (fun _ _=>rfl)) (bB bP (aQ T.cS T.eK (pv 0)) (oS kD aE) (fun _ _=>rfl)) (fun _ _=>rfl)))),?_⟩
  and_intros
  obtain⟨vs,eb,hB⟩:=W.bl;obtain⟨ws,p,us,rfl,ep,hU,_,_⟩:=hB.last;obtain⟨l,el,_⟩:=vR k n b r;have en:=W.nu;rw[el] at en;have hn:n < us.length:=by
   have:=(List.getElem?_eq_some_iff.mp hm).1;have:=hU.len;omega
  obtain⟨m',hm',hM⟩:=hU.at (List.getElem?_eq_getElem hn);rw[hm] at hm';cases hm';have i1:kY (ws++[V.ref p]) (-1)=some (.ref p):=nR _ _;have i2:kY ((l++[(n:Int)]).map V.int) (-1)=some (.int n):=by rw[List.map_append];exact nR _ _
  have i3:kY us (n:Int)=some us[n]:=pN (List.getElem?_eq_getElem hn);wp_walk using W.ins,eb,en,i1,i2,ep,i3;exact q _ hM
def Ek{t:Ad}(T:Tx w K mg t):bD P w K mg base CX0 2 t.qQ t.qX ["self"] (MC t.aV):=by
 refine T.Ic.ok EI (fun vs H Q E h=>?_) (fun cdv A outer s H vs Q E hr h=>?_)
 ·obtain⟨wk,wx,lb,ln,k,n,b,x,r,m,rfl,_⟩:=h;rfl
 ·obtain⟨wk,wx,lb,ln,k,n,b,⟨kx,bx,nx⟩,r,m,rfl,W,hm,q⟩:=h;refine⟨_,(aC (cA (Et (aQ T.cS T.iA (pv 0))))
   (aC (cA (Et (aQ T.cS T.eK (pv 0))))
   (aC (cA (Et (aQ T.cS T.eK (pv 0))))
   (aF (bF (aR cB (bB bP (bX (pv 0) T.cS T.gG (fK T) (hr.mono (by omega)) T.gX .nil pass0) aE (fun _ _=>rfl)) aO (nomark _)) (aF (cA (bX (pv 0) T.cS T.i8 (g9 T) (hr.mono (by omega)) T.kK .nil pass0))) aX))))),?_⟩
  and_intros
  obtain⟨vs,eb,hB⟩:=W.bl;have n1:wk≠ln:=dO W.ins W.nu (by intro z;cases z);have n2:wk≠lb:=dO W.ins eb (by intro z;cases z);obtain⟨ws,p,us,rfl,ep,hU,hBr,_⟩:=hB.last;have hB2:=hBr (by simp);have nu0:H ln=some (.lst (((cD ((k,b,n)::r)).map V.int++[.int kx])++[.int nx])):=by rw[W.nu,vS];simp
  have few:=W.few;simp only[List.length_cons] at few;refine aI fun R1 hR1=>?_;wp_walk using W.ins,eb,vG,List.dropLast_concat;have T1:=aP.eZ (ys:=ws) eb;have i1:Z8 H lb (.lst ws) wk=some (.ins t.aV wx [("blocks",.ref lb),("numbers",.ref ln)]):=by rw[aG n2];exact W.ins
  have i2:Z8 H lb (.lst ws) ln=some (.lst (((cD ((k,b,n)::r)).map V.int++[.int kx])++[.int nx])):=by rw[aG W.ne.symm];exact nu0
  have i3:Z8 H lb (.lst ws) lb=some (.lst ws):=aA;have K1:Kp [lb] H (Z8 H lb (.lst ws)):=Kp.BK;have B1:=hB2.kp T1;generalize Z8 H lb (.lst ws)=G at *;refine hR1 _ _ ?_;clear hR1 R1;refine aI fun R2 hR2=>?_;wp_walk using i1,i2,vG,List.dropLast_concat;have T2:=aP.eZ (ys:=(cD ((k,b,n)::r)).map V.int++[.int kx]) i2;have j1:Z8 G ln (.lst ((cD ((k,b,n)::r)).map V.int++[.int kx])) wk=some (.ins t.aV wx [("blocks",.ref lb),("numbers",.ref ln)]):=by rw[aG n1];exact i1
  have j2:Z8 G ln (.lst ((cD ((k,b,n)::r)).map V.int++[.int kx])) ln=some (.lst ((cD ((k,b,n)::r)).map V.int++[.int kx])):=aA;have j3:Z8 G ln (.lst ((cD ((k,b,n)::r)).map V.int++[.int kx])) lb=some (.lst ws):=by rw[aG W.ne];exact i3
  have K2:Kp [ln] G (Z8 G ln (.lst ((cD ((k,b,n)::r)).map V.int++[.int kx]))):=Kp.BK;have B2:=B1.kp T2;generalize Z8 G ln (.lst ((cD ((k,b,n)::r)).map V.int++[.int kx]))=G2 at *;refine hR2 _ _ ?_;clear hR2 R2;refine aI fun R3 hR3=>?_;wp_walk using j1,j2,vG,List.dropLast_concat;have T3:=aP.eZ (ys:=(cD ((k,b,n)::r)).map V.int) j2;have W3:kG t.aV (Z8 G2 ln (.lst ((cD ((k,b,n)::r)).map V.int))) wk wx lb ln ((k,b,n)::r):=⟨by rw[aG n1];exact j1,⟨ws,by rw[aG W.ne];exact j3,B2.kp T3⟩,aA,W.ne,by simp only[List.length_cons];omega⟩;have K3:Kp [ln] G2 (Z8 G2 ln (.lst ((cD ((k,b,n)::r)).map V.int))):=Kp.BK;generalize Z8 G2 ln (.lst ((cD ((k,b,n)::r)).map V.int))=G3 at *;refine hR3 _ _ ?_;clear hR3 R3;have K13:Kp [lb,ln] H G3:=((K1.mono (by simp)).trans (K2.mono (by simp))).trans (K3.mono (by simp));wp_walk using W3.ins;refine⟨wk,wx,lb,ln,k,n,b,r,m,rfl,W3,hm,fun v hv=>?_⟩;obtain⟨a,kd,xs,rfl,ea,hk⟩:=hv.Ya;wp_walk using ea;by_cases hi:m.LD=true
  ·rw[hi] at hk q;have hkd:kd = "if":=by simpa using hk
   subst hkd;wp_walk using W3.ins;exact⟨wk,wx,lb,ln,k,n,b,r,rfl,W3,fun H4 W4 K4=>q H4 W4 (K13.trans (K4.mono (by simp)))⟩
  ·have hi':m.LD=false:=by simpa using hi
   rw[hi'] at hk q;have hkd:(kd = "if")=False:=by simpa using hk
   wp_walk using hkd;exact q G3 W3 K13
def Cq{t:Ad}(T:Tx w K mg t):bD P w K mg base CX0 3 t.nL t.nX ["self"] (PV t.aV):=by
 refine T.Fv.ok Cu (fun vs H Q E h=>?_) (fun cdv A outer s H vs Q E hr h=>?_)
 ·obtain⟨wk,wx,lb,ln,st,rfl,_⟩:=h;rfl
 ·obtain⟨wk,wx,lb,ln,st,rfl,W0,ok0,q0,q1⟩:=h;refine⟨_,(aC (GS PassesOwn.never (aR cB (bB bP (aQ T.cS T.eK (pv 0)) (oS kD aE) (fun _ _=>rfl)) (bM eU rfl T.tX iF (aD (bB bP (aQ T.cS T.iA (pv 0)) (oS kD aE) (fun _ _=>rfl)) aB)) (nomark _)) (aC (bF (aR cB (bM eU rfl T.tX iF (aD (aQ T.cS T.iA (pv 0)) aB)) aE (nomark _)) (aF (aM eD)) aX)
   (aF (cA (bX (pv 0) T.cS T.Gf (Ek T) (hr.mono (by omega)) T.HI .nil pass0)))))
   (aF (aM (bX (pv 0) T.cS T.gG (fK T) (hr.mono (by omega)) T.gX .nil pass0)))),?_⟩
  and_intros
  obtain⟨Y,hV⟩:∃ Y:Nat->St->Hp->Prop,∀ m σ G,Y m σ G = ∃ st':Stk,σ=[some (.ref wk)]/\kG t.aV G wk wx lb ln st'/\CC st'/\c6 st'=c6 st/\m=st'.length/\Kp [lb,ln] H G:=⟨_,fun _ _ _=>rfl⟩
  try simp only[L2.start,List.map_cons,List.map_nil,List.length_cons,List.length_nil,Nat.reduceAdd,Nat.reduceSub,List.replicate_zero,List.append_nil]
  refine⟨Y,⟨st.length,?_⟩,?_⟩
  ·rw[hV];exact⟨st,rfl,W0,ok0,rfl,rfl,Kp.refl⟩
  intro m σ G hG;rw[hV] at hG;obtain⟨st',rfl,W,ok,hct,rfl,KG⟩:=hG;have back:∀(st2:Stk) (G2:Hp),kG t.aV G2 wk wx lb ln st2->CC st2->c6 st2=c6 st->st2.length < st'.length->Kp [lb,ln] H G2->∃ m',m' < st'.length/\Y m' [some (.ref wk)] G2:=fun st2 G2 a b c d e=>by
   refine⟨st2.length,d,?_⟩;rw[hV];exact⟨st2,rfl,a,b,c,rfl,e⟩
  clear hV
  match st',ok with
  | (k,b,n)::r,ok =>
   obtain⟨vs,eb,hB⟩:=W.bl;obtain⟨ws,p,us,rfl,ep,hU,hBr,hBn⟩:=hB.last;obtain⟨l,el,_⟩:=vR k n b r;have en:=W.nu;rw[el] at en;have i1:kY (ws++[V.ref p]) (-1)=some (.ref p):=nR _ _;have i2:kY ((l++[(n:Int)]).map V.int) (-1)=some (.int n):=by rw[List.map_append];exact nR _ _
   have lu:=hU.len;have lw:=hB.len;wp_walk using W.ins,eb,en,i1,i2,ep;by_cases hn:n=b.length
   ·rw[if_pos (by omega)];wp_walk using W.ins,eb,en;refine⟨fun σ' G'=>∃ m',m' < r.length+1/\Y m' σ' G',fun _ _ z=>z,?_⟩
    match r,ok,W,hct,back,hBn,lw with
    | [],ok,W,hct,back,hBn,lw =>
     have e0:c6 st=[(k,b,n)]:=by rw[<- hct];simp[c6]
     rw[if_pos (by have:=lw.1;simp only[List.length_cons,List.length_nil] at this;omega)];exact q0 G (by rw[e0];exact W) (by rw[e0];exact ok) (by rw[e0];simp[cM,hn]) KG
    | (k2,b2,n2)::r,ok,W,hct,back,hBn,lw =>
     rw[if_neg (by have:=lw.1;simp only[List.length_cons] at this;omega)];have h2:n2 < b2.length:=ok.2 (k2,b2,n2) (by simp);have hm:b2[n2]?=some b2[n2]:=List.getElem?_eq_getElem h2;have ho:Bc b2 n2=if (b2[n2]).LD=true then n2+1 else n2:=by unfold Bc;rw[hm]
     refine⟨wk,wx,lb,ln,k2,n2,b2,(k,b,n),r,b2[n2],rfl,W,hm,fun H' W' K'=>?_⟩;rw[<- ho] at W';refine back _ H' W' ⟨Gz h2,fun x hx=>ok.2 x (List.mem_cons_of_mem _ hx)⟩ ?_ (by simp) (Kp.trans KG K');rw[<- hct]
     conv=>rhs;rw[c6]
     rw[if_pos hn]
   ·rw[if_neg (by omega)];have h2:n < b.length:=by have:=ok.1;omega
    have hm:b[n]?=some b[n]:=List.getElem?_eq_getElem h2;have e0:c6 st=(k,b,n)::r:=by
     rw[<- hct];cases r with
     | nil=>simp[c6]
     | cons x r=>obtain⟨k2,b2,n2⟩:=x;simp[c6,hn]
    exact⟨wk,wx,lb,ln,k,n,b,r,b[n],rfl,W,hm,fun v hv=>q1 b[n] v G (by rw[e0];exact W) (by rw[e0];exact ok) (by rw[e0];exact hm) hv KG⟩
def kO{t:Ad}(T:Tx w K mg t):bD P w K mg base CX0 1 t.iE t.iH ["self"] (SU t.aJ):=by
 refine T.yA.ok tU (fun vs H Q E h=>?_) (fun cdv A outer s H vs Q E hr h=>?_)
 ·obtain⟨tk,tx,dp,da,made,pend,ans,rfl,_⟩:=h;rfl
 ·obtain⟨tk,tx,dp,da,made,pend,ans,rfl,R,q⟩:=h;refine⟨_,(aF (cA (Me (aQ T.bE T.fV (pv 0))))),?_⟩
  and_intros
  wp_walk using R.ins,R.hp;have n1:=R.n1;exact q _ ⟨by rw[aG n1.1];exact R.ins,aA,by rw[aG R.nda.symm];exact R.ha,R.nda,by simp,.nil,R.la,by simp,R.small⟩ Kp.BK
def Di{t:Ad}(T:Tx w K mg t):bD P w K mg base CX0 2 t.DB t.DR ["self","worth"] (WA ⟨t.aU,t.aV,t.aJ⟩):=by
 refine T.Ry.ok Ms (fun vs H Q E h=>?_) (fun cdv A outer s H vs Q E hr h=>?_)
 ·obtain⟨R,as,sl,S,w,rfl,_⟩:=h;rfl
 ·obtain⟨R,as,sl,S,w,rfl,A,q⟩:=h;refine⟨_,(aC (dA T.aW T.c9 (pv 0) (bH (aD aO (aD (pv 1) aB))))
   (aC (cA (bX (aQ T.aW T.cN (pv 0)) T.bE T.lP (kO T) (hr.mono (by omega)) T.mZ .nil pass0))
   (aF (aM (bL (aD (bH (aD aO (aD (pv 1) aB))) aB)))))),?_⟩
  and_intros
  refine aI fun R1 hR1=>?_;wp_walk using A.ins;refine fun p hp=>?_;have N1:=q0D (o:=.tup [.str "ended",wv w]) hp;have e1:Z8 H p (.tup [.str "ended",wv w]) p=some (.tup [.str "ended",wv w]):=aA;have A1:=A.kp N1;wp_walk using N1.at A.ins;have A2:=A1.attr (.ref p) (.ended w) S.ar S.nw ⟨p,rfl,e1⟩;have F2:=(Fw.of (R:=R) (as:=as) N1).trans (Fw.set (p:=R.x) (o:=(.ins t.aU R.dx [("walk",.ref R.wk),("sleep",.ref p),("arg",wv S.ar),("now",.int S.nw),("names",.ref R.nm),("tickets",.ref R.tk),("letters",.ref R.lt)])) (.inl (by simp[Rn.cells])));generalize Z8 (Z8 H p (.tup [.str "ended",wv w])) R.x (.ins t.aU R.dx [("walk",.ref R.wk),("sleep",.ref p),("arg",wv S.ar),("now",.int S.nw),("names",.ref R.nm),("tickets",.ref R.tk),("letters",.ref R.lt)])=G2 at *;refine hR1 _ _ ?_;clear hR1 R1;refine aI fun R2 hR2=>?_;wp_walk using A2.ins,A2.tk.ins;refine⟨R.tk,R.tx,R.dp,R.da,_,_,_,rfl,A2.tk,fun H3 T3 K3=>?_⟩;have K4:Kp [R.tk,R.dp,R.da] G2 H3:=K3.mono (by simp;try omega)
  have A3:=A2.tick T3 K4;have F3:=F2.trans (A2.FL T3 K4);wp_walk;refine hR2 _ _ ?_;clear hR2 R2;wp_walk;refine fun p3 h3 c h4=>?_;have N3:=(q0D (o:=.tup [.str "end",wv w]) h3).trans (Kp.new (o:=.lst [.ref p3]) h4);exact q _ c [.ref p3] _ (A3.kp N3) (F3.free (cQ h4)) aA (.cons ((q0D h4).at aA) .nil) (F3.trans (Fw.of N3))
def Cp{t:Ad}(T:Tx w K mg t):bD P w K mg base CX0 2 t.nK t.nW ["self"] (WI ⟨t.aU,t.aV,t.aJ⟩):=by
 refine T.Fu.ok Ct (fun vs H Q E h=>?_) (fun cdv A outer s H vs Q E hr h=>?_)
 ·obtain⟨R,as,sl,S,rfl,_⟩:=h;rfl
 ·obtain⟨R,as,sl,S,rfl,A,q⟩:=h;refine⟨_,(aC (dA T.aW T.c9 (pv 0) (bH (aD aO aB)))
   (aC (cA (bX (aQ T.aW T.cN (pv 0)) T.bE T.lP (kO T) (hr.mono (by omega)) T.mZ .nil pass0))
   (aF (aM (bL (aD (bH (aD aO aB)) aB)))))),?_⟩
  and_intros
  refine aI fun R1 hR1=>?_;wp_walk using A.ins;refine fun p hp=>?_;have N1:=q0D (o:=.tup [.str "worn"]) hp;have e1:Z8 H p (.tup [.str "worn"]) p=some (.tup [.str "worn"]):=aA;have A1:=A.kp N1;wp_walk using N1.at A.ins;have A2:=A1.attr (.ref p) (.worn) S.ar S.nw ⟨p,rfl,e1⟩;have F2:=(Fw.of (R:=R) (as:=as) N1).trans (Fw.set (p:=R.x) (o:=(.ins t.aU R.dx [("walk",.ref R.wk),("sleep",.ref p),("arg",wv S.ar),("now",.int S.nw),("names",.ref R.nm),("tickets",.ref R.tk),("letters",.ref R.lt)])) (.inl (by simp[Rn.cells])));generalize Z8 (Z8 H p (.tup [.str "worn"])) R.x (.ins t.aU R.dx [("walk",.ref R.wk),("sleep",.ref p),("arg",wv S.ar),("now",.int S.nw),("names",.ref R.nm),("tickets",.ref R.tk),("letters",.ref R.lt)])=G2 at *;refine hR1 _ _ ?_;clear hR1 R1;refine aI fun R2 hR2=>?_;wp_walk using A2.ins,A2.tk.ins;refine⟨R.tk,R.tx,R.dp,R.da,_,_,_,rfl,A2.tk,fun H3 T3 K3=>?_⟩;have K4:Kp [R.tk,R.dp,R.da] G2 H3:=K3.mono (by simp;try omega)
  have A3:=A2.tick T3 K4;have F3:=F2.trans (A2.FL T3 K4);wp_walk;refine hR2 _ _ ?_;clear hR2 R2;wp_walk;refine fun p3 h3 c h4=>?_;have N3:=(q0D (o:=.tup [.str "worn"]) h3).trans (Kp.new (o:=.lst [.ref p3]) h4);exact q _ c [.ref p3] _ (A3.kp N3) (F3.free (cQ h4)) aA (.cons ((q0D h4).at aA) .nil) (F3.trans (Fw.of N3))
def oN{t:Ad}(T:Tx w K mg t):bD P w K mg base CX0 1 t.uB t.uT ["worth"] Ua:=by
 refine T.pT.ok Hf (fun vs H Q E h=>?_) (fun cdv A outer s H vs Q E hr h=>?_)
 ·obtain⟨w,rfl,_⟩:=h;rfl
 ·obtain⟨w,rfl,q⟩:=h;refine⟨_,(aF (aM (jX (aR mN (pv 0) eD (nomark _)) aE (pv 0)))),?_⟩
  and_intros
  wp_walk using Jr;cases w with
  | none=>exact q
  | some n=>exact q
def y9{t:Ad}(T:Tx w K mg t):bD P w K mg base CX0 1 t.MS t.NB ["number"] PM:=by
 refine T.FE.ok SE (fun vs H Q E h=>?_) (fun cdv A outer s H vs Q E hr h=>?_)
 ·obtain⟨n,rfl,_⟩:=h;rfl
 ·obtain⟨n,rfl,q⟩:=h;refine⟨_,(aF (aM (bM (pR rfl) rfl T.MP DN (aD (oS kD (fM (v:=.int 1000000000) rfl T.gA ⟨_,rfl⟩)) (aD (bM (CN rfl) rfl T.Ta MZ (aD (fM (v:=.int 1000000000) rfl T.gA ⟨_,rfl⟩) (aD (pv 0) aB))) aB))))),?_⟩
  and_intros
  wp_walk;exact q
def jV{t:Ad}(T:Tx w K mg t):bD P w K mg base CX0 1 t.l9 t.mH ["truth"] Ub:=by
 refine T.iZ.ok BJ (fun vs H Q E h=>?_) (fun cdv A outer s H vs Q E hr h=>?_)
 ·obtain⟨b,rfl,_⟩:=h;rfl
 ·obtain⟨b,rfl,q⟩:=h;refine⟨_,(aF (aM (jX (oT (pv 0)) aE aE))),?_⟩
  and_intros
  wp_walk;cases b<;>exact q
def L9{t:Ad}(T:Tx w K mg t):bD P w K mg base CX0 2 t.DF t.DY ["sign","one","other"] PL:=by
 refine T.JN.ok wW (fun vs H Q E h=>?_) (fun cdv A outer s H vs Q E hr h=>?_)
 ·obtain⟨g,a,b,rfl,_⟩:=h;rfl
 ·obtain⟨g,a,b,rfl,ha,q⟩:=h;refine⟨_,(aC (bF (aR cB (pv 0) aO (nomark _)) (aF (aM (aN (jV T) (hr.mono (by omega)) rfl T.mL T.iZ.kp T.mB .nil pass0 (aD (hE cB (pv 1) (pv 2) (nomark _)) aB)))) aX)
   (aC (bA (i:=3) wW.nd rfl (Or.inl rfl) (aN (oN T) (hr.mono (by omega)) rfl T.vM T.pT.kp T.uG .nil pass0 (aD (pv 1) aB)))
   (aC (bA (i:=4) wW.nd rfl (Or.inl rfl) (aN (oN T) (hr.mono (by omega)) rfl T.vM T.pT.kp T.uG .nil pass0 (aD (pv 2) aB)))
   (aC (bF (aR cB (pv 0) aO (nomark _)) (aF (aM (aN (jV T) (hr.mono (by omega)) rfl T.mL T.iZ.kp T.mB .nil pass0 (aD (hE qO (pv 3) (pv 4) (nomark _)) aB)))) aX)
   (aC (bF (aR cB (pv 0) aO (nomark _)) (aF (aM (aN (y9 T) (hr.mono (by omega)) rfl T.J9 T.FE.kp T.Ju .nil pass0 (aD (bI dJ (pv 3) (pv 4)) aB)))) aX)
   (aC (bF (aR cB (pv 0) aO (nomark _)) (aF (aM (aN (y9 T) (hr.mono (by omega)) rfl T.J9 T.FE.kp T.Ju .nil pass0 (aD (bI gJ (pv 3) (pv 4)) aB)))) aX)
   (aF (aM (aN (y9 T) (hr.mono (by omega)) rfl T.J9 T.FE.kp T.Ju .nil pass0 (aD (bI rH (pv 3) (pv 4)) aB)))))))))),?_⟩
  and_intros
  have b1:=OA ha;cases g with
  | eq =>
   wp_walk using Sg.s;cases a with
   | none=>cases b with
    | none=>simpa[Sw,scal,wv,GW,Sg.of] using q
    | some n=>simpa[Sw,scal,wv,GW,Sg.of] using q
   | some m=>cases b with
    | none=>simpa[Sw,scal,wv,GW,Sg.of] using q
    | some n=>simpa[Sw,scal,wv,GW,Sg.of] using q
  | lt =>
   wp_walk using Sg.s,decide_eq_true_eq;exact q
  | add =>
   wp_walk using Sg.s;exact q
  | sub =>
   wp_walk using Sg.s;exact q
  | mul =>
   wp_walk using Sg.s;exact⟨De (by omega) (by omega),q⟩
def Jl{t:Ad}(T:Tx w K mg t){n d:Nat}(hn:3<=n)(IH:bD P w K mg base CX0 n t.nS t.oA ["saying","names","arg","now","answers"] (WJ d)):bD P w K mg base CX0 (n+1) t.nS t.oA ["saying","names","arg","now","answers"] (WJ (d+1)):=by
  refine T.sR.ok mV (fun vs H Q E h=>?_) (fun cdv A outer s H vs Q E hr h=>?_)
  · obtain⟨v,dn,da,p,s,rfl,_⟩:=h;rfl
  · obtain⟨v,dn,da,p,s,rfl,hS,hd,hok,hN,hA,hP,q⟩:=h;have hu:=nA hr;refine⟨_,(aC (bA (i:=5) mV.nd rfl (Or.inl rfl) (bB bP (pv 0) aE (fun _ _=>rfl)))
      (aC (bF (aR cB (pv 5) aO (nomark _)) (aF (aM (bB bP (pv 0) aE (fun _ _=>rfl)))) aX)
      (aC (bF (aR cB (pv 5) aO (nomark _)) (aF (aM eD)) aX)
      (aC (bF (aR cB (pv 5) aO (nomark _)) (aF (aM (Ep hu (pv 1) (bB bP (pv 0) aE (fun _ _=>rfl)) ⟨rfl,rfl,rfl,rfl⟩))) aX)
      (aC (bF (aR cB (pv 5) aO (nomark _)) (aF (aM (pv 2))) aX)
      (aC (bF (aR cB (pv 5) aO (nomark _)) (aF (aM (aN (y9 T) (hr.mono (by omega)) rfl T.J9 T.FE.kp T.Ju .nil pass0 (aD (pv 3) aB)))) aX)
      (aC (bA (i:=6) mV.nd rfl (Or.inl rfl) (aN IH (hr.mono (by omega)) rfl T.A8 T.sR.kp T.zU .nil pass0 (aD (bB bP (pv 0) aE (fun _ _=>rfl)) (aD (pv 1) (aD (pv 2) (aD (pv 3) (aD (pv 4) aB)))))))
      (aC (bF (aR cB (pv 5) aO (nomark _)) (aF (aM (Ep hu (pv 4) (pv 6) ⟨rfl,rfl,rfl,rfl⟩))) aX)
      (aC (bF (aR cB (pv 5) aO (nomark _)) (aF (aM (aN (jV T) (hr.mono (by omega)) rfl T.mL T.iZ.kp T.mB .nil pass0 (aD (hE cB (aN (oN T) (hr.mono (by omega)) rfl T.vM T.pT.kp T.uG .nil pass0 (aD (pv 6) aB)) aE (nomark _)) aB)))) aX)
      (aC (bA (i:=7) mV.nd rfl (Or.inl rfl) (aN IH (hr.mono (by omega)) rfl T.A8 T.sR.kp T.zU .nil pass0 (aD (bB bP (pv 0) aE (fun _ _=>rfl)) (aD (pv 1) (aD (pv 2) (aD (pv 3) (aD (pv 4) aB)))))))
      (aF (aM (aN (L9 T) (hr.mono (by omega)) rfl T.RY T.JN.kp T.QE .nil pass0 (aD (pv 5) (aD (pv 6) (aD (pv 7) aB)))))))))))))))),?_⟩
    and_intros
    cases hS with
    | num e =>
      wp_walk using e;exact q
    | non e =>
      wp_walk using e;exact q
    | name e =>
      obtain⟨kvs,ek,hk⟩:=hN;wp_walk using e,ek,hk;exact q
    | arg e =>
      wp_walk using e;exact q
    | now e =>
      wp_walk using e;exact q
    | ans e h1 =>
      wp_walk using e;simp only[Say.depth] at hd;refine⟨_,_,_,p,_,rfl,h1,by omega,hok,hN,hA,hP,?_⟩;obtain⟨kvs,ek,hk⟩:=hA;wp_walk using e,ek,hk;exact q
    | neg e h1 =>
      wp_walk using e;simp only[Say.depth] at hd;refine⟨_,_,_,p,_,rfl,h1,by omega,hok,hN,hA,hP,?_⟩;wp_walk using e,decide_eq_true_eq;exact q
    | @two a v u g s1 s2 e h1 h2 =>
      simp only[Say.depth] at hd;cases g <;>
      ( wp_walk using e,Sg.s
        refine⟨_,_,_,p,_,rfl,h1,by omega,hok.1,hN,hA,hP,?_⟩;wp_walk using e,Sg.s;refine⟨_,_,_,p,_,rfl,h2,by omega,hok.2,hN,hA,hP,?_⟩;wp_walk using e,Sg.s;exact⟨_,_,_,rfl,TB hP hok.1,q⟩)
def IM{t:Ad}(T:Tx w K mg t):∀ d,bD P w K mg base CX0 (d+3) t.nS t.oA ["saying","names","arg","now","answers"] (WJ d):=by
 intro d
 induction d with
 | zero=>exact⟨fun _ _ _ _ x=>by (obtain⟨_,_,_,_,s,_,_,h,_⟩:=x;exact absurd h (by have:=s.CS;omega)),fun _ _ _ _ _ _ _ _ _ _ _ _ _ x=>by (obtain⟨_,_,_,_,s,_,_,h,_⟩:=x;exact absurd h (by have:=s.CS;omega))⟩
 | succ d ih=>exact Jl T (by omega) ih
def dI{t:Ad}(T:Tx w K mg t):bD P w K mg base CX0 10 t.t7 t.uN ["self","saying"] (PX ⟨t.aU,t.aV,t.aJ⟩):=by
 refine T.Lu.ok Hb (fun vs H Q E h=>?_) (fun cdv A outer s H vs Q E hr h=>?_)
 ·obtain⟨R,as,sl,S,v,s,rfl,_⟩:=h;rfl
 ·obtain⟨R,as,sl,S,v,s,rfl,A,ok,hS,so,q⟩:=h;refine⟨_,(aF (aM (aN (IM T 6) (hr.mono (by omega)) rfl T.A8 T.sR.kp T.zU .nil pass0 (aD (pv 1) (aD (aQ T.aW T.fJ (pv 0)) (aD (aQ T.aW T.Df (pv 0)) (aD (aQ T.aW T.tG (pv 0)) (aD (aQ T.bE T.fT (aQ T.aW T.cN (pv 0))) aB)))))))),?_⟩
  and_intros
  wp_walk using A.ins,A.tk.ins;exact⟨v,R.nm,R.da,S.pl,s,rfl,hS,so.2,so.1,⟨_,A.nm,y7 S.nm⟩,⟨_,A.tk.ha,zI S.ans⟩,ok,q⟩
def tK{t:Ad}(T:Tx w K mg t):bD P w K mg base CX0 2 t.qP t.qW ["self","which"] (Dq t.aV):=by
 refine T.Ib.ok EH (fun vs H Q E h=>?_) (fun cdv A outer s H vs Q E hr h=>?_)
 ·obtain⟨wk,wx,lb,ln,k,n,c,b,bb,r,m,rfl,_⟩:=h;rfl
 ·obtain⟨wk,wx,lb,ln,k,n,c,b,bb,r,m,rfl,W,hm,hs,ac2,q⟩:=h;refine⟨_,(aC (cA (tO (aQ T.cS T.iA (pv 0)) (bB bP (bX (pv 0) T.cS T.gG (fK T) (hr.mono (by omega)) T.gX .nil pass0) (bI dJ aE (pv 1)) (fun _ _=>rfl))))
   (aF (cA (GR PySem.F.slot_list_extend PySem.F.type_list_extend y6 (aQ T.cS T.eK (pv 0)) (aD (bL (aD (pv 1) (aD aE aB))) aB))))),?_⟩
  and_intros
  obtain⟨vs,eb,hB⟩:=W.bl;have n1:wk≠ln:=dO W.ins W.nu (by intro z;cases z);have n2:wk≠lb:=dO W.ins eb (by intro z;cases z);have lv:=hB.len;wp_walk using W.ins,eb;refine⟨wk,wx,lb,ln,k,n,b,r,m,rfl,W,hm,fun v hv=>?_⟩;obtain⟨a,p,xs,us,rfl,ea,hat,ep,hU⟩:=hv.subAt hs;wp_walk using ea,hat,eb;have lf:=W.few;simp only[List.length_cons] at lv lf;refine⟨by omega,?_⟩;have T1:=aP.eZ (ys:=vs++[V.ref p]) eb;have i1:Z8 H lb (.lst (vs++[.ref p])) wk=some (.ins t.aV wx [("blocks",.ref lb),("numbers",.ref ln)]):=by rw[aG n2];exact W.ins
  have i2:Z8 H lb (.lst (vs++[.ref p])) ln=some (.lst ((cD ((k,b,n)::r)).map V.int)):=by rw[aG W.ne.symm];exact W.nu
  have i3:Z8 H lb (.lst (vs++[.ref p])) lb=some (.lst (vs++[.ref p])):=aA;have K1:Kp [lb] H (Z8 H lb (.lst (vs++[.ref p]))):=Kp.BK;have B1:=hB.kp T1;have U1:=hU.kp T1;have p1:=T1 _ _ ep;generalize Z8 H lb (.lst (vs++[.ref p]))=G at *;wp_walk using i1,i2;refine fun l0 f0=>?_;have N0:=q0D (o:=.lst [.int c,.int 0]) f0;wp_walk using N0.at i2,List.length_map;have ll:=Gy ((k,b,n)::r);simp only[List.length_cons] at ll;refine⟨by omega,?_⟩;have nl0:ln≠l0:=aL i2 f0;have nb0:lb≠l0:=aL i3 f0;have nw0:wk≠l0:=aL i1 f0;have T2:aP G (Z8 (Z8 G l0 (.lst [.int c,.int 0])) ln (.lst ((cD ((k,b,n)::r)).map V.int++[.int c,.int 0]))):=(aP.nil N0).tr (aP.eZ (N0.at i2));refine q _ ⟨by rw[aG n1,aG nw0];exact i1,⟨_,by rw[aG W.ne,aG nb0];exact i3,.cons (B1.kp T2) (T2 _ _ p1) (U1.kp T2)⟩,by rw[aA,vS];simp,W.ne,by simp only[List.length_cons];omega⟩ ?_;intro d o ed nd;simp only[List.mem_cons,List.not_mem_nil,or_false,not_or] at nd;have g1:=K1.at1 ed nd.1;rw[aG nd.2,aG (aL g1 f0)];exact g1
def IF{t:Ad}(T:Tx w K mg t):bD P w K mg base CX0 11 t.zD t.z9 ["self","statement"] (SM ⟨t.aU,t.aV,t.aJ⟩ true):=by
 refine T.N8.ok IY (fun vs H Q E h=>?_) (fun cdv A outer s H vs Q E hr h=>?_)
 ·obtain⟨R,as,sl,S,a,m,N,rfl,_⟩:=h;rfl
 ·obtain⟨R,as,sl,S,a,m,N,rfl,A,hs,hB,F,g,hst,q⟩:=h;refine⟨_,(aF (bF (aR Dk (bK (pv 0) T.aW T.eC (dI T) (hr.mono (by omega)) T.eT .nil pass0 (aD (bB bP (pv 1) aE (fun _ _=>rfl)) aB)) (bH (aD eD (aD aE aB))) (by with_unfolding_all rfl)) (aF (cA (bK (aQ T.aW T.jU (pv 0)) T.cS T.xK (tK T) (hr.mono (by omega)) T.zR .nil pass0 (aD aE aB)))) (aF (bF (aR cB (bB bP (pv 1) aE (fun _ _=>rfl)) aO (nomark _)) (aF (cA (bK (aQ T.aW T.jU (pv 0)) T.cS T.xK (tK T) (hr.mono (by omega)) T.zR .nil pass0 (aD aE aB)))) (aF (cA (bX (aQ T.aW T.jU (pv 0)) T.cS T.i8 (g9 T) (hr.mono (by omega)) T.kK .nil pass0))))))),?_⟩
  and_intros
  obtain⟨k0,b0,n0,r0,est,hm0⟩:=fS hst;have d0:=F.sk.dp;rw[est] at d0;have ac2:r0.length<=90:=by have:=d0.1;omega
  have enter:∀(G:Hp) (_:aZ ⟨t.aU,t.aV,t.aJ⟩ G R as sl S) (_:Fw R as as H G) (c:Nat) (bb:List Stm),m.sub c=some bb->(∀ H',aZ ⟨t.aU,t.aV,t.aJ⟩ H' R as sl (S.enter c bb)->Fw R as as H H'->Q .non H')->Dq t.aV [.ref R.wk,.int (c:Int)] G (fun _ H1=>Q .non H1) E0:=fun G A FG c bb abN q=>by
   have W:=A.wk;rw[est] at W;refine⟨R.wk,R.wx,R.lb,R.ln,k0,n0,c,b0,bb,r0,m,rfl,W,hm0,abN,ac2,fun H1 W1 K1=>?_⟩;rw[<- est] at W1;exact q H1 (A.walk W1 K1) (FG.trans (A.AH W1 K1))
  have pass:∀(G:Hp) (_:aZ ⟨t.aU,t.aV,t.aJ⟩ G R as sl S) (_:Fw R as as H G),(∀ H',aZ ⟨t.aU,t.aV,t.aJ⟩ H' R as sl S.pass->Fw R as as H H'->Q .non H')->BP t.aV [.ref R.wk] G (fun _ H1=>Q .non H1) E0:=fun G A FG q=>by
   have W:=A.wk;rw[est] at W;refine⟨R.wk,R.wx,R.lb,R.ln,k0,n0,b0,r0,rfl,W,fun H1 W1 K1=>?_⟩;have e:(k0,b0,n0+1)::r0=iL S.stk:=by rw[est];rfl
   rw[e] at W1;exact q H1 (A.walk W1 (K1.mono (by simp))) (FG.trans (A.AH W1 (K1.mono (by simp))))
  cases hs with
  | @whl a p v s vs b e1 h1 e2 h2 =>
   simp only[AS] at q;wp_walk using A.ins,e1;refine⟨R,as,sl,S,v,s,rfl,A,F.pl,h1,g.1,?_⟩;wp_walk using A.ins,A.wk.ins,e1;refine fun p0 h0=>⟨KH _,flat01,?_⟩;rw[C3];have N0:=q0D (o:=.tup [.non,.int 0]) h0;have A0:=A.kp N0;have e0:=N0.at e1;have F0:=Fw.of (R:=R) (as:=as) N0;generalize Z8 H p0 (.tup [.non,.int 0])=G0 at *;by_cases hw:num (S.worth s)=0
   ·rw[if_pos hw] at q;rw[decide_eq_true hw];wp_walk using A0.ins,A0.wk.ins,e0;exact pass G0 A0 F0 q
   ·rw[if_neg hw] at q;rw[decide_eq_false hw];wp_walk using A0.ins,A0.wk.ins,e0;exact enter G0 A0 F0 0 b rfl q
  | @iff a p p2 v s vs us b o e1 h1 e2 h2 e3 h3 =>
   simp only[AS] at q;wp_walk using A.ins,e1;refine⟨R,as,sl,S,v,s,rfl,A,F.pl,h1,g.1,?_⟩;wp_walk using A.ins,A.wk.ins,e1;refine fun p0 h0=>⟨KH _,flat01,?_⟩;rw[C3];have N0:=q0D (o:=.tup [.non,.int 0]) h0;have A0:=A.kp N0;have e0:=N0.at e1;have F0:=Fw.of (R:=R) (as:=as) N0;generalize Z8 H p0 (.tup [.non,.int 0])=G0 at *;by_cases hw:num (S.worth s)=0
   ·rw[if_pos hw] at q;rw[decide_eq_true hw];wp_walk using A0.ins,A0.wk.ins,e0;exact enter G0 A0 F0 1 o rfl q
   ·rw[if_neg hw] at q;rw[decide_eq_false hw];wp_walk using A0.ins,A0.wk.ins,e0;exact enter G0 A0 F0 0 b rfl q
  | _=>cases hB
def O1{t:Ad}(T:Tx w K mg t):bD P w K mg base CX0 11 t.DD t.HX ["run","statement"] (dN ⟨t.aU,t.aV,t.aJ⟩ true (fun m=>∃ x s,m=.set x s)):=by
 refine T.Od.ok Py (fun vs H Q E h=>?_) (fun cdv A outer s H vs Q E hr h=>?_)
 ·obtain⟨R,as,sl,S,a,m,N,rfl,_⟩:=h;rfl
 ·obtain⟨R,as,sl,S,a,m,N,rfl,A,hsl,hs,⟨x,s,rfl⟩,F,g,hN,q⟩:=h;have hu:=nA hr;refine⟨_,(aC (mO hu (aQ T.aW T.fJ (pv 0)) (bB bP (pv 1) aE (fun _ _=>rfl)) (bK (pv 0) T.aW T.eC (dI T) (hr.mono (by omega)) T.eT .nil pass0 (aD (bB bP (pv 1) aE (fun _ _=>rfl)) aB)))
   (aF (aM (bL aB)))),?_⟩
  and_intros
  cases hs with
  | @set a x v s e1 h1 =>
   have l1:(lW S.nm).length<=N:=by rw[lW,List.length_map];exact F.nm
   refine aI fun R1 hR1=>?_;wp_walk using A.ins,e1;refine⟨R,as,sl,S,v,s,rfl,A,F.pl,h1,g,?_⟩;wp_walk using A.ins,e1,A.nm,mM;refine⟨by omega,?_⟩;have A1:=A.name x (S.worth s);have F1:=Fw.set (R:=R) (as:=as) (H:=H) (o:=.dK (lW (dM S.nm x (S.worth s)))) (p:=R.nm) (.inl (by simp[Rn.cells]));generalize Z8 H R.nm (.dK (lW (dM S.nm x (S.worth s))))=G1 at *;refine hR1 _ _ ?_;clear hR1 R1;wp_walk;refine fun c hc=>?_;have N4:=q0D (o:=.lst []) hc;exact q _ c [] _ (A1.kp N4) (F1.free hc) aA .nil (F1.trans (Fw.of N4))
def Bi{t:Ad}(T:Tx w K mg t):bD P w K mg base CX0 1 t.l7 t.mF ["self"] (PN t.aJ):=by
 refine T.D2.ok pD (fun vs H Q E h=>?_) (fun cdv A outer s H vs Q E hr h=>?_)
 ·obtain⟨tk,tx,dp,da,made,pend,ans,rfl,_⟩:=h;rfl
 ·obtain⟨tk,tx,dp,da,made,pend,ans,rfl,R,hm,hl,q⟩:=h;have hu:=nA hr;refine⟨_,(aC (bA (i:=1) pD.nd rfl (Or.inl rfl) (aQ T.bE T.vN (pv 0)))
   (aC (So T.bE T.vN (pv 0) aE)
   (aC (mO hu (aQ T.bE T.fV (pv 0)) (pv 1) oR)
   (aF (aM (pv 1)))))),?_⟩
  and_intros
  wp_walk using R.ins;have n1:=R.n1;have nk:(made:Int)∉pend:=fun z=>by have:=R.lt _ z;omega
  wp_walk using aG n1.1.symm,R.hp,Bt (.bl true) (Mi nk);refine⟨by simp only[jY,List.length_map];omega,?_⟩;refine q _ ⟨by rw[aG n1.1];exact aA,by rw[aA];simp[jY],by rw[aG R.nda.symm,aG n1.2.symm];exact R.ha,R.nda,fun i hi=>?_,?_,fun p hp=>?_,fun p hp z=>?_,by omega⟩ ?_
  ·rcases List.mem_append.mp hi with hi|hi
   ·have:=R.lt i hi;omega
   ·rw[show i=(made:Int) by simpa using hi];omega
  ·refine List.pairwise_append.mpr ⟨R.asc,by simp,fun i hi j hj=>?_⟩;rw[show j=(made:Int) by simpa using hj];exact(R.lt i hi).2
  ·have:=R.la p hp;omega
  ·rcases List.mem_append.mp z with z|z
   ·exact R.dis p hp z
   ·have:=R.la p hp;rw[show p.1=(made:Int) by simpa using z] at this;omega
  ·intro b o eb nb;simp only[List.mem_cons,List.not_mem_nil,or_false,not_or] at nb;rw[aG nb.2,aG nb.1];exact eb
def nB{t:Ad}(T:Tx w K mg t):bD P w K mg base CX0 2 t.kT t.kZ ["self","name"] (WD ⟨t.aU,t.aV,t.aJ⟩):=by
 refine T.Cb.ok nE (fun vs H Q E h=>?_) (fun cdv A outer s H vs Q E hr h=>?_)
 ·obtain⟨R,as,sl,S,n,rfl,_⟩:=h;rfl
 ·obtain⟨R,as,sl,S,n,rfl,A,b1,b2,b3,q⟩:=h;have hu:=nA hr;refine⟨_,(aC (bA (i:=2) nE.nd rfl (Or.inl rfl) (bX (aQ T.aW T.cN (pv 0)) T.bE T.Ci (Bi T) (hr.mono (by omega)) T.DK .nil pass0))
   (aC (mO hu (aQ T.aW T.fJ (pv 0)) (pv 1) (pv 2))
   (aF (aM (pv 2))))),?_⟩
  and_intros
  refine aI fun R1 hR1=>?_;wp_walk using A.ins,A.tk.ins;refine⟨R.tk,R.tx,R.dp,R.da,S.made,S.pend,S.ans,rfl,A.tk,b1,b2,fun H1 T1 K1=>?_⟩;have K2:Kp [R.tk,R.dp,R.da] H H1:=K1.mono (by simp;try omega)
  have A1:=A.tick T1 K2;have F1:=A.FL T1 K2;wp_walk;refine hR1 _ _ ?_;clear hR1 R1;refine aI fun R2 hR2=>?_;have ep:eL (lW S.nm) (.inr n) (.int (S.made:Int))=lW (dM S.nm n (some (S.made:Int))):=mM S.nm n (some (S.made:Int));have l1:(lW S.nm).length<=1000000:=by rw[lW,List.length_map];exact b3
  wp_walk using A1.ins,A1.nm,ep;refine⟨by omega,?_⟩;have A2:=A1.name n (some (S.made:Int));have F2:=F1.trans (Fw.set (R:=R) (as:=as) (H:=H1) (o:=.dK (lW (dM S.nm n (some (S.made:Int))))) (p:=R.nm) (.inl (by simp[Rn.cells])));generalize Z8 H1 R.nm (.dK (lW (dM S.nm n (some (S.made:Int)))))=G2 at *;refine hR2 _ _ ?_;clear hR2 R2;wp_walk;exact q G2 A2 F2
def Bj{t:Ad}(T:Tx w K mg t):bD P w K mg base CX0 11 t.nO t.Ae ["run","statement"] (dN ⟨t.aU,t.aV,t.aJ⟩ true (fun m=>∃ x y s,m=.order x y s\/m=.child x y s)):=by
 refine T.Az.ok rZ (fun vs H Q E h=>?_) (fun cdv A outer s H vs Q E hr h=>?_)
 ·obtain⟨R,as,sl,S,a,m,N,rfl,_⟩:=h;rfl
 ·obtain⟨R,as,sl,S,a,m,N,rfl,A,hsl,hs,⟨x,y,s,hm⟩,F,g,hN,q⟩:=h;refine⟨_,(aC (bA (i:=2) rZ.nd rfl (Or.inl rfl) (bK (pv 0) T.aW T.eC (dI T) (hr.mono (by omega)) T.eT .nil pass0 (aD (bB bP (pv 1) aE (fun _ _=>rfl)) aB)))
   (aC (bA (i:=3) rZ.nd rfl (Or.inl rfl) (bK (pv 0) T.aW T.oG (nB T) (hr.mono (by omega)) T.qH .nil pass0 (aD (bB bP (pv 1) aE (fun _ _=>rfl)) aB)))
   (aF (aM (bL (aD (bH (aD (bB bP (pv 1) aE (fun _ _=>rfl)) (aD (pv 3) (aD (bB bP (pv 1) aE (fun _ _=>rfl)) (aD (pv 2) aB))))) aB)))))),?_⟩
  and_intros
  rcases hm with rfl|rfl
  ·cases hs with
   | @order a x y v s e1 h1 =>
    refine aI fun R1 hR1=>?_;wp_walk using A.ins,e1;refine⟨R,as,sl,S,v,s,rfl,A,F.pl,h1,g,?_⟩;wp_walk;refine hR1 _ _ ?_;clear hR1 R1;refine aI fun R2 hR2=>?_;wp_walk using A.ins,e1;refine⟨R,as,sl,S,x,rfl,A,by have:=F.md;omega,by have:=F.pd;omega,by have:=F.nm;omega,fun H1 A1 F1=>?_⟩;have e2:=A.tkp F1 _ _ e1;wp_walk;refine hR2 _ _ ?_;clear hR2 R2;wp_walk using e2;refine fun p3 h3 c h4=>?_;have N3:=(q0D (o:=.tup [.str "order",.int S.made,.str y,wv (S.worth s)]) h3).trans (Kp.new (o:=.lst [.ref p3]) h4);exact q _ c [.ref p3] _ (A1.kp N3) (F1.free (cQ h4)) aA (.cons ((q0D h4).at aA) .nil) (F1.trans (Fw.of N3))
  ·cases hs with
   | @child a x y v s e1 h1 =>
    refine aI fun R1 hR1=>?_;wp_walk using A.ins,e1;refine⟨R,as,sl,S,v,s,rfl,A,F.pl,h1,g,?_⟩;wp_walk;refine hR1 _ _ ?_;clear hR1 R1;refine aI fun R2 hR2=>?_;wp_walk using A.ins,e1;refine⟨R,as,sl,S,x,rfl,A,by have:=F.md;omega,by have:=F.pd;omega,by have:=F.nm;omega,fun H1 A1 F1=>?_⟩;have e2:=A.tkp F1 _ _ e1;wp_walk;refine hR2 _ _ ?_;clear hR2 R2;wp_walk using e2;refine fun p3 h3 c h4=>?_;have N3:=(q0D (o:=.tup [.str "child",.int S.made,.str y,wv (S.worth s)]) h3).trans (Kp.new (o:=.lst [.ref p3]) h4);exact q _ c [.ref p3] _ (A1.kp N3) (F1.free (cQ h4)) aA (.cons ((q0D h4).at aA) .nil) (F1.trans (Fw.of N3))
def IG{t:Ad}(T:Tx w K mg t):bD P w K mg base CX0 11 t.sD t.Af ["run","statement"] (dN ⟨t.aU,t.aV,t.aJ⟩ true (fun m=>∃ x s,m=.aaE x s)):=by
 refine T.Fy.ok mU (fun vs H Q E h=>?_) (fun cdv A outer s H vs Q E hr h=>?_)
 ·obtain⟨R,as,sl,S,a,m,N,rfl,_⟩:=h;rfl
 ·obtain⟨R,as,sl,S,a,m,N,rfl,A,hsl,hs,⟨x,s,rfl⟩,F,g,hN,q⟩:=h;refine⟨_,(aC (bA (i:=2) mU.nd rfl (Or.inl rfl) (bK (pv 0) T.aW T.eC (dI T) (hr.mono (by omega)) T.eT .nil pass0 (aD (bB bP (pv 1) aE (fun _ _=>rfl)) aB)))
   (aC (bA (i:=3) mU.nd rfl (Or.inl rfl) (bM (CN rfl) rfl T.Ta MZ (aD (fM (v:=.int 1000000000000) rfl T.m9 ⟨_,rfl⟩) (aD (jX (aR mN (pv 2) eD (nomark _)) (aQ T.aW T.tG (pv 0)) (bI dJ (aQ T.aW T.tG (pv 0)) (bM (pR rfl) rfl T.MP DN (aD aE (aD (pv 2) aB))))) aB))))
   (aC (bA (i:=4) mU.nd rfl (Or.inl rfl) (bK (pv 0) T.aW T.oG (nB T) (hr.mono (by omega)) T.qH .nil pass0 (aD (bB bP (pv 1) aE (fun _ _=>rfl)) aB)))
   (aF (aM (bL (aD (bH (aD aO (aD (pv 4) (aD (pv 3) aB)))) aB))))))),?_⟩
  and_intros
  cases hs with
  | @aaE a x v s e1 h1 =>
   refine aI fun R1 hR1=>?_;wp_walk using A.ins,e1;refine⟨R,as,sl,S,v,s,rfl,A,F.pl,h1,g,?_⟩;wp_walk;refine hR1 _ _ ?_;clear hR1 R1;refine aI fun R2 hR2=>?_;wp_walk using A.ins,Jr;have rest:R2 [some (V.ref R.x),some (V.ref a),some (wv (S.worth s)),some (V.int (NF S.nw (S.worth s))),none] H:=by
    refine hR2 _ _ ?_;refine aI fun R3 hR3=>?_;wp_walk using A.ins,e1;refine⟨R,as,sl,S,x,rfl,A,by have:=F.md;omega,by have:=F.pd;omega,by have:=F.nm;omega,fun H1 A1 F1=>?_⟩;wp_walk;refine hR3 _ _ ?_;clear hR3 R3;wp_walk;refine fun p3 h3 c h4=>?_;have N3:=(q0D (o:=.tup [.str "timer",.int S.made,.int (NF S.nw (S.worth s))]) h3).trans (Kp.new (o:=.lst [.ref p3]) h4);exact q _ c [.ref p3] _ (A1.kp N3) (F1.free (cQ h4)) aA (.cons ((q0D h4).at aA) .nil) (F1.trans (Fw.of N3))
   cases hw:S.worth s with
   | none =>
    rw[hw] at rest;rw[if_pos rfl];exact rest
   | some z =>
    rw[hw] at rest;rw[if_neg (by simp)];wp_walk using wv;exact rest
def L6{t:Ad}(T:Tx w K mg t):bD P w K mg base CX0 11 t.yO t.DU ["run","statement"] (dN ⟨t.aU,t.aV,t.aJ⟩ true (fun m=>∃ s k r,m=.send s k r)):=by
 refine T.JJ.ok Mt (fun vs H Q E h=>?_) (fun cdv A outer s H vs Q E hr h=>?_)
 ·obtain⟨R,as,sl,S,a,m,N,rfl,_⟩:=h;rfl
 ·obtain⟨R,as,sl,S,a,m,N,rfl,A,hsl,hs,⟨s,k,r,rfl⟩,F,g,hN,q⟩:=h;refine⟨_,(aF (aM (bL (aD (bH (aD aO (aD (bK (pv 0) T.aW T.eC (dI T) (hr.mono (by omega)) T.eT .nil pass0 (aD (bB bP (pv 1) aE (fun _ _=>rfl)) aB)) (aD (bB bP (pv 1) aE (fun _ _=>rfl)) (aD (bK (pv 0) T.aW T.eC (dI T) (hr.mono (by omega)) T.eT .nil pass0 (aD (bB bP (pv 1) aE (fun _ _=>rfl)) aB)) aB))))) aB)))),?_⟩
  and_intros
  cases hs with
  | @send a k v u s r e1 h1 h2 =>
   wp_walk using A.ins,e1;refine⟨R,as,sl,S,v,s,rfl,A,F.pl,h1,g.1,?_⟩;wp_walk using A.ins,e1;refine⟨R,as,sl,S,u,r,rfl,A,F.pl,h2,g.2,?_⟩;wp_walk;have F1:Fw R as as H H:=Fw.refl;refine fun p3 h3 c h4=>?_;have N3:=(q0D (o:=.tup [.str "send",wv (S.worth s),.str k,wv (S.worth r)]) h3).trans (Kp.new (o:=.lst [.ref p3]) h4);exact q _ c [.ref p3] _ (A.kp N3) (F1.free (cQ h4)) aA (.cons ((q0D h4).at aA) .nil) (F1.trans (Fw.of N3))
def oM{t:Ad}(T:Tx w K mg t):bD P w K mg base CX0 1 t.l8 t.mG ["self","ticket"] (PR t.aJ):=by
 refine T.D3.ok BH (fun vs H Q E h=>?_) (fun cdv A outer s H vs Q E hr h=>?_)
 ·obtain⟨tk,tx,dp,da,made,pend,ans,i,rfl,_⟩:=h;rfl
 ·obtain⟨tk,tx,dp,da,made,pend,ans,i,rfl,R,hi,q⟩:=h;refine⟨_,(aF (cA (Pc (aQ T.bE T.fV (pv 0)) (pv 1) ⟨rfl,rfl,rfl,rfl⟩))),?_⟩
  and_intros
  obtain⟨v,hv⟩:=Mj hi;wp_walk using R.ins,R.hp,hv,Mg;have n1:=R.n1;exact q _ ⟨by rw[aG n1.1];exact R.ins,aA,by rw[aG R.nda.symm];exact R.ha,R.nda,fun j hj=>R.lt j ((List.mem_filter.mp hj).1),R.asc.filter _,R.la,fun p hp z=>R.dis p hp ((List.mem_filter.mp z).1),R.small⟩ Kp.BK
def L4{t:Ad}(T:Tx w K mg t):bD P w K mg base CX0 11 t.yM t.DS ["run","statement"] (dN ⟨t.aU,t.aV,t.aJ⟩ true (fun m=>∃ s,m=.drop s)):=by
 refine T.JH.ok Dm (fun vs H Q E h=>?_) (fun cdv A outer s H vs Q E hr h=>?_)
 ·obtain⟨R,as,sl,S,a,m,N,rfl,_⟩:=h;rfl
 ·obtain⟨R,as,sl,S,a,m,N,rfl,A,hsl,hs,⟨s,rfl⟩,F,g,hN,q⟩:=h;refine⟨_,(aC (bA (i:=2) Dm.nd rfl (Or.inl rfl) (bK (pv 0) T.aW T.eC (dI T) (hr.mono (by omega)) T.eT .nil pass0 (aD (bB bP (pv 1) aE (fun _ _=>rfl)) aB)))
   (aC (bF (wA (oT (bK (aQ T.aW T.cN (pv 0)) T.bE T.iK (gT T) (hr.mono (by omega)) T.jM .nil pass0 (aD (pv 2) aB)))) (aF (aM (bL aB))) aX)
   (aC (cA (bK (aQ T.aW T.cN (pv 0)) T.bE T.qL (oM T) (hr.mono (by omega)) T.sH .nil pass0 (aD (pv 2) aB)))
   (aF (aM (bL (aD (bH (aD aO (aD (pv 2) aB))) aB))))))),?_⟩
  and_intros
  cases hs with
  | @drop a v s e1 h1 =>
   refine aI fun R1 hR1=>?_;wp_walk using A.ins,e1;refine⟨R,as,sl,S,v,s,rfl,A,F.pl,h1,g,?_⟩;wp_walk;refine hR1 _ _ ?_;clear hR1 R1;refine aI fun R2 hR2=>?_;wp_walk using A.ins,A.tk.ins;refine⟨R.tk,R.tx,R.dp,R.da,_,_,_,S.worth s,rfl,A.tk,?_⟩;by_cases hp:∃ i,i∈S.pend/\S.worth s=some i
   ·rw[decide_eq_true hp];obtain⟨i,hi,hw⟩:=hp;have hwv:wv (S.worth s)=.int i:=by rw[hw];rfl
    have hd:cU S (.drop s)=({S with pend:=S.pend.filter fun j=>decide (j≠i)},[[.str "drop",.int i]]):=by simp only[cU,hw,if_pos hi]
    rw[hd] at q;wp_walk;refine hR2 _ _ ?_;clear hR2 R2;refine aI fun R3 hR3=>?_;wp_walk using A.ins,A.tk.ins,hwv;refine⟨R.tk,R.tx,R.dp,R.da,_,_,_,i,rfl,A.tk,hi,fun H3 T3 K3=>?_⟩;have K4:Kp [R.tk,R.dp,R.da] H H3:=K3.mono (by simp;try omega)
    have A3:=A.tick T3 K4;have F3:=A.FL T3 K4;wp_walk;refine hR3 _ _ ?_;clear hR3 R3;wp_walk;refine fun p3 h3 c h4=>?_;have N3:=(q0D (o:=.tup [.str "drop",.int i]) h3).trans (Kp.new (o:=.lst [.ref p3]) h4);exact q _ c [.ref p3] _ (A3.kp N3) (F3.free (cQ h4)) aA (.cons ((q0D h4).at aA) .nil) (F3.trans (Fw.of N3))
   ·rw[decide_eq_false hp];have hd:cU S (.drop s)=(S,[]):=by
     cases hw:S.worth s with
     | none=>simp only[cU,hw]
     | some i=>simp only[cU,hw,if_neg (show ¬ i∈S.pend from fun z=>hp ⟨i,z,hw⟩)]
    rw[hd] at q;wp_walk;have F1:Fw R as as H H:=Fw.refl;refine fun c hc=>?_;have N4:=q0D (o:=.lst []) hc;exact q _ c [] _ (A.kp N4) (F1.free hc) aA .nil (F1.trans (Fw.of N4))
def qD{t:Ad}(T:Tx w K mg t):bD P w K mg base CX0 1 t.fY t.gB ["self","worths"] (MA t.aJ):=by
 refine T.sO.ok iV (fun vs H Q E h=>?_) (fun cdv A outer s H vs Q E hr h=>?_)
 ·obtain⟨tk,tx,dp,da,l,made,pend,ans,ws,rfl,_⟩:=h;rfl
 ·obtain⟨tk,tx,dp,da,l,made,pend,ans,ws,rfl,A,el,h4,ha,q⟩:=h;have hu:=nA hr;refine⟨_,(aC (bA (i:=2) iV.nd rfl (Or.inr rfl) (kR (fr:=[0]) (N:=["worth","self"]) rfl (fun _ _ h=>h) (c5.free rfl rfl rfl rfl rfl (fun _ _ h=>look1 rfl h) rfl (by decide) rfl (fun j hj=>by rw[show j=0 by simpa using hj];exact⟨_,rfl,rfl,.inl rfl⟩)) (i9 (pv 1)) (fun C s H ex pn=>⟨tR (Wn (Kf hu (pv 0) (aQ T.bE T.fT (pv 1)))),(pv 0)⟩)))
   (aC (bF (aR qO (bM HR rfl T.tX iF (aD (bZ (CO rfl) rfl T.Tb M7 (aD (pv 2) aB)) aB)) aE (nomark _)) (aF (aM (jX (zA (pv 2) (fun _=>rfl)) (bB bP (pv 2) aE (fun _ _=>rfl)) eD))) aX)
   (aF (Sr (aM (bB bP (kR (fr:=[2]) (N:=["ticket","tickets"]) rfl (fun _ _ h=>h) (c5.free rfl rfl rfl rfl rfl (fun _ _ h=>look1 rfl h) rfl (by decide) rfl (fun j hj=>by rw[show j=2 by simpa using hj];exact⟨_,rfl,rfl,.inl rfl⟩)) (Sm (aQ T.bE T.fT (pv 0))) (fun C s H ex pn=>⟨tR (aR IQ (pv 0) (pv 1) (by with_unfolding_all rfl)),(pv 0)⟩)) aE (fun _ _=>rfl))))))),?_⟩
  and_intros
  refine aI fun R1 hR1=>?_;wp_walk using el;refine⟨⟨_,dR.of el⟩,?_⟩;obtain⟨Pv,hPv⟩:∃ Pv:Nat->List V->Hp->Prop,∀ i xs G,Pv i xs G=(G=H/\xs=(bQ ans (ws.take i)).map V.int):=⟨_,fun _ _ _=>rfl⟩;refine kM (ys:=ws.map wv) Pv ?_ ?_ ?_ ?_ ?_
  ·rw[hPv];exact⟨rfl,rfl⟩
  ·intro i xs G h;rw[hPv] at h;rw[h.2,List.length_map];have:=pS ans (ws.take i);have:(ws.take i).length<=ws.length:=by rw[List.length_take];omega
   omega
  ·intro i xs G h;rw[hPv] at h;rw[h.1];exact dR.of el
  ·intro i y xs G hi ey h;rw[hPv] at h;obtain⟨rfl,rfl⟩:=h;obtain⟨w0,ew,rfl⟩:∃ w0,ws[i]?=some w0/\y=wv w0:=by
    rw[List.getElem?_map] at ey;obtain⟨w0,a,b⟩:=Option.map_eq_some_iff.mp ey;exact⟨w0,a,b.symm⟩
   wp_walk using aY,Option.join_some,A.ins,A.ha,Qx;rw[hPv,hPv,HZ ew];split
   ·exact⟨rfl,rfl⟩
   ·exact⟨rfl,rfl⟩
  intro xs G h p hp;rw[hPv] at h;obtain⟨rfl,rfl⟩:=h;rw[show ws.take (ws.map wv).length=ws by rw[List.length_map,List.take_length]];refine hR1 _ _ ?_;clear hR1 R1;wp_walk using aA;refine⟨bQ ans ws,rfl,Nat.le_trans (pS ans ws) h4,fun c hc=>⟨_,rfl,?_⟩⟩;have n1:p≠c:=aL aA hc;have K2:∀ o,Kp [] G (Z8 (Z8 G p (.lst ((bQ ans ws).map V.int))) c o):=fun o=>(Kp.new hp).trans (Kp.new hc);have e2:∀ o,Z8 (Z8 G p (.lst ((bQ ans ws).map V.int))) c o p=some (.lst ((bQ ans ws).map V.int)):=fun o=>by rw[aG n1,aA]
  generalize hG2:Z8 (Z8 G p (.lst ((bQ ans ws).map V.int))) c _=G2;replace K2:Kp [] G G2:=hG2▸K2 _;replace e2:G2 p=some (.lst ((bQ ans ws).map V.int)):=hG2▸e2 _;clear hG2;have A2:=A.kp K2;have qq:=q G2 K2;by_cases hl:(nC (bQ ans ws)).length < 2
  ·rw[if_pos (by omega)];rw[Lw hl] at qq;cases ed:bQ ans ws with
   | nil =>
    rw[ed] at e2 qq;wp_walk using e2;rw[if_neg (by simp)];exact qq
   | cons i r =>
    rw[ed] at e2 qq;wp_walk using e2;rw[if_pos (by simp)];exact qq
  rw[if_neg (by omega)];obtain⟨i,r,ef,fo⟩:=Ig hl;rw[fo] at qq;wp_walk using A2.ins,A2.ha,e2;refine fun o=>?_;have npd:p≠da:=fun z=>by
   rw[z,A2.ha] at e2;cases e2
  generalize hG3:Z8 G2 da (.frz o (.dK (kH ans)))=G3;have e3:G3 p=some (.lst ((bQ ans ws).map V.int)):=by rw[<- hG3,aG npd];exact e2
  have d3:G3 da=some (.frz o (.dK (kH ans))):=by rw[<- hG3];exact aA
  obtain⟨Pw,hPw⟩:∃ Pw:Nat->List V->Hp->Prop,∀ i xs G',Pw i xs G'=(G'=G3/\xs=(((ans.map (·.1)).take i).filter fun i=>decide (i∈bQ ans ws)).map V.int):=⟨_,fun _ _ _=>rfl⟩;refine RP Pw ?_ ?_ ?_ ?_ ?_
  ·rw[hPw];exact⟨rfl,rfl⟩
  ·intro j xs G' h;rw[hPw] at h;rw[h.2,List.length_map];have h1:=List.length_filter_le (fun i=>decide (i∈bQ ans ws)) ((ans.map (·.1)).take j);have h2:((ans.map (·.1)).take j).length<=ans.length:=by rw[List.length_take,List.length_map];omega
   omega
  ·intro j xs G' h;rw[hPw] at h;rw[h.1];exact d3
  ·intro j kv xs G' hj ekv h;rw[hPw] at h;obtain⟨rfl,rfl⟩:=h;obtain⟨a0,ea,rfl⟩:∃ a0,ans[j]?=some a0/\kv=(Key.inl a0.1,wv a0.2):=by
    rw[kH,List.getElem?_map] at ekv;obtain⟨a0,x,y⟩:=Option.map_eq_some_iff.mp ekv;exact⟨a0,x,y.symm⟩
   have es:(((ans.map (·.1)).take (j+1)).filter fun i=>decide (i∈bQ ans ws)).map V.int=if a0.1∈bQ ans ws then (((ans.map (·.1)).take j).filter fun i=>decide (i∈bQ ans ws)).map V.int++[V.int a0.1] else (((ans.map (·.1)).take j).filter fun i=>decide (i∈bQ ans ws)).map V.int:=by
    rw[List.take_add_one,List.getElem?_map,ea];simp only[Option.map_some,Option.toList_some,List.filter_append,List.map_append];split
    ·next h=>simp[h]
    ·next h=>simp[h]
   show Du _ (some (V.int a0.1)::_) _ _;wp_walk using aY,Option.join_some,e3;refine⟨rfl,by simp[dC],?_⟩;rw[hPw,hPw,es,FW];by_cases hm:a0.1∈bQ ans ws
   ·rw[if_pos (by simpa using hm),if_pos hm];exact⟨rfl,rfl⟩
   ·rw[if_neg (by simpa using hm),if_neg hm];exact⟨rfl,rfl⟩
  intro xs G' h pp hpp;rw[hPw] at h;obtain⟨rfl,rfl⟩:=h;rw[show(ans.map (·.1)).take (kH ans).length=ans.map (·.1) by rw[kH,List.length_map,<- List.length_map (f:=fun p:Int×Wo=>p.1) (as:=ans),List.take_length],ef];wp_walk using aA,List.map_cons;have npp:da≠pp:=aL d3 hpp;have KK:Kp [] G (Z8 (Z8 G' pp (.lst (V.int i::r.map V.int))) da (.dK (kH ans))):=fun b ob eb nb=>by
   by_cases hb:b=da
   ·subst hb;rw[aA];rw[A.ha] at eb;exact eb
   ·have e4:G' b=some ob:=by rw[<- hG3,aG hb];exact K2 b ob eb nb
    rw[aG hb,aG (aL e4 hpp)];exact e4
  have q3:=q _ KK;rw[fo] at q3;exact⟨da,o,kH ans,by rw[aG npp];exact d3,(fun ob u z=>by
   have z:G da=some (.frz ob u):=z;rw[A.ha] at z;cases z),q3⟩
def L7{t:Ad}(T:Tx w K mg t):bD P w K mg base CX0 11 t.yP t.DV ["run","statement"] (dN ⟨t.aU,t.aV,t.aJ⟩ true (fun m=>∃ x ss,m=.wait x ss)):=by
 refine T.JK.ok pZ (fun vs H Q E h=>?_) (fun cdv A outer s H vs Q E hr h=>?_)
 ·obtain⟨R,as,sl,S,a,m,N,rfl,_⟩:=h;rfl
 ·obtain⟨R,as,sl,S,a,m,N,rfl,A,hsl,hs,⟨x,ss,rfl⟩,F,g,hN,q⟩:=h;have hu:=nA hr;refine⟨_,(aC (jZ (i:=2) (fr:=[0]) (N:=["saying","run"]) rfl (fun _ _ h=>h) (c5.free rfl rfl rfl rfl rfl (fun _ _ h=>h) rfl (by decide) rfl (fun j hj=>by rw[show j=0 by simpa using hj];exact⟨_,rfl,rfl,.inl rfl⟩)) (Ph (bB bP (pv 1) aE (fun _ _=>rfl))) (fun C s H ex pn=>⟨hJ,(bK (pv 1) T.aW T.eC (dI T) (hr.mono (by omega)) T.eT .nil pass0 (aD (pv 0) aB))⟩) pZ.nd rfl (Or.inl rfl))
   (aC (bA (i:=3) pZ.nd rfl (Or.inl rfl) (bK (aQ T.aW T.cN (pv 0)) T.bE T.rB (qD T) (hr.mono (by omega)) T.sG .nil pass0 (aD (pv 2) aB)))
   (aC (bA (i:=4) pZ.nd rfl (Or.inl rfl) (bM (HS rfl) rfl T.qC pQ (aD (bZ (CO rfl) rfl T.Tb M7 (aD (kR (fr:=[0]) (N:=["worth","run"]) rfl (fun _ _ h=>h) (c5.free rfl rfl rfl rfl rfl (fun _ _ h=>h) rfl (by decide) rfl (fun j hj=>by rw[show j=0 by simpa using hj];exact⟨_,rfl,rfl,.inl rfl⟩)) (i9 (pv 2)) (fun C s H ex pn=>⟨tR (oT (bK (aQ T.aW T.cN (pv 1)) T.bE T.iK (gT T) (hr.mono (by omega)) T.jM .nil pass0 (aD (pv 0) aB))),(pv 0)⟩)) aB)) aB)))
   (aC (bF (PW.pt (Bu (aR mN (pv 3) eD (nomark _)) (tS (zA (pv 4) (fun _=>rfl))))) (aF (dA T.aW T.c9 (pv 0) (bH (aD aO (aD (bZ eV rfl T.iS fE (aD (pv 4) aB)) aB))))) (aF (mO hu (aQ T.aW T.fJ (pv 0)) (bB bP (pv 1) aE (fun _ _=>rfl)) (pv 3))))
   (aF (aM (bL aB))))))),?_⟩
  and_intros
  cases hs with
  | @wait a pw x vs ss e1 e2 hs2 =>
   obtain⟨_,g4,gs⟩:=g;have l1:(lW S.nm).length<=N:=by rw[lW,List.length_map];exact F.nm
   have lv:=hs2.Yc;refine aI fun R1 hR1=>?_;wp_walk using A.ins,e1;refine⟨⟨_,fA.of e2⟩,?_⟩;obtain⟨Pv,hPv⟩:∃ Pv:Nat->List V->Hp->Prop,∀ i xs G,Pv i xs G=(G=H/\xs=((ss.take i).map S.worth).map wv):=⟨_,fun _ _ _=>rfl⟩;refine OF (ys:=vs) Pv ?_ ?_ ?_ ?_ ?_
   ·rw[hPv];exact⟨rfl,rfl⟩
   ·intro i xs G h;rw[hPv] at h;rw[h.2,List.length_map,List.length_map,List.length_take];omega
   ·intro i xs G h;rw[hPv] at h;rw[h.1];exact fA.of e2
   ·intro i y xs G hi ey h;rw[hPv] at h;obtain⟨rfl,rfl⟩:=h;obtain⟨s0,es,h0⟩:=hs2.atW ey;wp_walk using aY,Option.join_some,A.ins;refine⟨R,as,sl,S,y,s0,rfl,A,F.pl,h0,gs s0 (List.mem_of_getElem? es),?_⟩;show Pv (i+1) _ _;rw[hPv,List.take_add_one,es];exact⟨rfl,by simp⟩
   intro xs G h p1 hp1;rw[hPv] at h;obtain⟨rfl,rfl⟩:=h;rw[lv,List.take_length];obtain⟨ws,hws⟩:∃ ws,ws=ss.map S.worth:=⟨_,rfl⟩;have hd:cU S (.wait x ss)=if cE S.ans ws=none/\cT S.pend ws≠[] then ({S with sl:=.wait (cT S.pend ws)},[]) else ({S with nm:=dM S.nm x (cE S.ans ws)},[]):=by rw[hws];rfl
   rw[<- hws];have lw:ws.length<=4:=by rw[hws,List.length_map];exact g4
   clear hws hPv Pv;rw[hd] at q;clear hd;have N1:=q0D (o:=.lst (ws.map wv)) hp1;have f1:Z8 G p1 (.lst (ws.map wv)) p1=some (.lst (ws.map wv)):=aA;have A1:=A.kp N1;have e3:=N1.at e1;have F1:=Fw.of (R:=R) (as:=as) N1;generalize Z8 G p1 (.lst (ws.map wv))=G1 at *;refine hR1 _ _ ?_;clear hR1 R1;refine aI fun R2 hR2=>?_;wp_walk using A1.ins,A1.tk.ins;refine⟨R.tk,R.tx,R.dp,R.da,p1,_,_,_,ws,rfl,A1.tk,f1,lw,by have:=F.an;omega,fun G2 K2=>?_⟩;have A2:=A1.kp K2;have f2:=K2.at f1;have e4:=K2.at e3;have F2:=F1.trans (Fw.of K2);wp_walk;refine hR2 _ _ ?_;clear hR2 R2;refine aI fun R3 hR3=>?_;wp_walk using A2.ins,A2.tk.ins,f2;refine⟨⟨_,dR.of f2⟩,?_⟩;obtain⟨Pw,hPw⟩:∃ Pw:Nat->List V->Hp->Prop,∀ i xs G',Pw i xs G'=(G'=G2/\xs=(dW S.pend (ws.take i)).map V.int):=⟨_,fun _ _ _=>rfl⟩;refine kM (ys:=ws.map wv) Pw ?_ ?_ ?_ ?_ ?_
   ·rw[hPw];exact⟨rfl,rfl⟩
   ·intro i xs G' h;rw[hPw] at h;rw[h.2,List.length_map];have:=lR S.pend (ws.take i);have:(ws.take i).length<=ws.length:=by rw[List.length_take];omega
    omega
   ·intro i xs G' h;rw[hPw] at h;rw[h.1];exact dR.of f2
   ·intro i y xs G' hi ey h;rw[hPw] at h;obtain⟨rfl,rfl⟩:=h;obtain⟨w0,ew,rfl⟩:∃ w0,ws[i]?=some w0/\y=wv w0:=by
     rw[List.getElem?_map] at ey;obtain⟨w0,a,b⟩:=Option.map_eq_some_iff.mp ey;exact⟨w0,a,b.symm⟩
    wp_walk using aY,Option.join_some,A2.ins,A2.tk.ins;refine⟨R.tk,R.tx,R.dp,R.da,_,_,_,w0,rfl,A2.tk,?_⟩;show Qr (V.bl _) _;wp_walk;rw[hPw,hPw,IS ew];split
    ·next h=>exact⟨rfl,(if_pos (decide_eq_true h)).symm⟩
    ·next h=>exact⟨rfl,(if_neg (by simpa using h)).symm⟩
   intro xs G' h p3 hp3;rw[hPw] at h;obtain⟨rfl,rfl⟩:=h;rw[show ws.take (ws.map wv).length=ws by rw[List.length_map,List.take_length]];clear hPw Pw;wp_walk using aA;refine⟨dW S.pend ws,rfl,Nat.le_trans (lR S.pend ws) lw,fun c hc=>⟨_,rfl,?_,fun l4 ns h4 aaI abY=>?_⟩⟩
   ·have:=Bl (fun i=>(dW S.pend ws).getD i 0) (dW S.pend ws).length;have:=lR S.pend ws;show(once _ _).length < 64;omega
   obtain rfl:=GN aaI abY;have N3:=((q0D hp3).trans (Kp.new hc)).trans (Kp.new (o:=.lst ((cT S.pend ws).map V.int)) h4);have f4:∀ G5:Hp,Z8 G5 l4 (.lst ((cT S.pend ws).map V.int)) l4=some (.lst ((cT S.pend ws).map V.int)):=fun _=>aA;generalize hG4:Z8 (Z8 (Z8 G' p3 (.lst ((dW S.pend ws).map V.int))) c _) l4 (.lst ((cT S.pend ws).map V.int))=G4 at N3 ⊢;replace f4:G4 l4=some (.lst ((cT S.pend ws).map V.int)):=hG4▸f4 _;clear hG4 aaI abY h4 hc hp3;have A4:=A2.kp N3;have e5:=N3.at e4;have F4:=F2.trans (Fw.of N3);refine hR3 _ _ ?_;clear hR3 R3;refine aI fun R4 hR4=>?_;have named:¬ (cE S.ans ws=none/\cT S.pend ws≠[])->R4 [some (V.ref R.x),some (V.ref a),some (V.ref p1),some (wv (cE S.ans ws)),some (V.ref l4)] (Z8 G4 R.nm (.dK (lW (dM S.nm x (cE S.ans ws))))):=fun hn=>by
    rw[if_neg hn] at q;have A6:=A4.name x (cE S.ans ws);have F6:=F4.trans (Fw.set (p:=R.nm) (o:=.dK (lW (dM S.nm x (cE S.ans ws)))) (.inl (by simp[Rn.cells])));refine hR4 _ _ ?_;generalize Z8 G4 R.nm (.dK (lW (dM S.nm x (cE S.ans ws))))=G6 at *;wp_walk;refine fun c hc=>?_;have N4:=q0D (o:=.lst []) hc;exact q _ c [] _ (A6.kp N4) (F6.free hc) aA .nil (F6.trans (Fw.of N4))
   wp_walk using A4.ins,f4,Jr,e5,A4.nm,mM;by_cases hf:cE S.ans ws=none
   ·rw[if_pos hf];by_cases ho:cT S.pend ws=[]
    ·rw[if_neg (by rw[ho];simp)];exact⟨by first|omega|(rw[sizeLine_eq];omega),named fun z=>z.2 ho⟩
    ·rw[if_pos (by simpa using ho)];rw[if_pos ⟨hf,ho⟩] at q;refine fun l5 h5 p6 h6=>?_;have N5:=(q0D (o:=.tup ((cT S.pend ws).map V.int)) h5).trans (Kp.new (o:=.tup [.str "wait",.ref l5]) h6);have f6:Z8 (Z8 G4 l5 (.tup ((cT S.pend ws).map V.int))) p6 (.tup [.str "wait",.ref l5]) p6=some (.tup [.str "wait",.ref l5]):=aA;have f5:Z8 (Z8 G4 l5 (.tup ((cT S.pend ws).map V.int))) p6 (.tup [.str "wait",.ref l5]) l5=some (.tup ((cT S.pend ws).map V.int)):=by rw[aG (aL aA h6),aA]
     have A5:=A4.kp N5;clear named h6 h5;generalize Z8 (Z8 G4 l5 (.tup ((cT S.pend ws).map V.int))) p6 (.tup [.str "wait",.ref l5])=G5 at *;wp_walk using A5.ins;have A6:=A5.attr (.ref p6) (.wait (cT S.pend ws)) S.ar S.nw ⟨p6,l5,rfl,f6,f5⟩;have F6:=(F4.trans (Fw.of N5)).trans (Fw.set (p:=R.x) (o:=(.ins t.aU R.dx [("walk",.ref R.wk),("sleep",.ref p6),("arg",wv S.ar),("now",.int S.nw),("names",.ref R.nm),("tickets",.ref R.tk),("letters",.ref R.lt)])) (.inl (by simp[Rn.cells])));refine hR4 _ _ ?_;generalize Z8 G5 R.x (.ins t.aU R.dx [("walk",.ref R.wk),("sleep",.ref p6),("arg",wv S.ar),("now",.int S.nw),("names",.ref R.nm),("tickets",.ref R.tk),("letters",.ref R.lt)])=G6 at *;wp_walk;refine fun c hc=>?_;have N4:=q0D (o:=.lst []) hc;exact q _ c [] _ (A6.kp N4) (F6.free hc) aA .nil (F6.trans (Fw.of N4))
   ·rw[if_neg hf];exact⟨by first|omega|(rw[sizeLine_eq];omega),named fun z=>hf z.1⟩
def L5{t:Ad}(T:Tx w K mg t):bD P w K mg base CX0 11 t.yN t.DT ["run","statement"] (dN ⟨t.aU,t.aV,t.aJ⟩ true (fun m=>∃ x k,m=.aaB x k)):=by
 refine T.JI.ok Dn (fun vs H Q E h=>?_) (fun cdv A outer s H vs Q E hr h=>?_)
 ·obtain⟨R,as,sl,S,a,m,N,rfl,_⟩:=h;rfl
 ·obtain⟨R,as,sl,S,a,m,N,rfl,A,hsl,hs,⟨x,k,rfl⟩,F,g,hN,q⟩:=h;have hu:=nA hr;refine⟨_,(aC (bA (i:=2) Dn.nd rfl (Or.inl rfl) (Mf hu (aQ T.aW T.fU (pv 0)) (bB bP (pv 1) aE (fun _ _=>rfl)) (bL aB) ⟨rfl,rfl,rfl,rfl⟩))
   (aC (bF (zA (pv 2) (fun _=>rfl)) (aF (mO hu (aQ T.aW T.fJ (pv 0)) (bB bP (pv 1) aE (fun _ _=>rfl)) (GR PySem.F.slot_list_pop PySem.F.type_list_pop Sa (pv 2) (aD aE aB)))) (aF (dA T.aW T.c9 (pv 0) (bH (aD aO (aD (bB bP (pv 1) aE (fun _ _=>rfl)) aB))))))
   (aF (aM (bL aB))))),?_⟩
  and_intros
  cases hs with
  | @aaB a x k e1 =>
   obtain⟨kvs,el,L⟩:=A.lt;have l1:(lW S.nm).length<=N:=by rw[lW,List.length_map];exact F.nm
   refine aI fun R1 hR1=>?_;wp_walk using A.ins,el,e1;refine fun p1 h1=>?_;have N1:=q0D (o:=.lst []) h1;have f1:Z8 H p1 (.lst []) p1=some (.lst []):=aA;have A1:=A.kp N1;have e1':=N1.at e1;have el1:=N1.at el;have L1:=L.keep (fun a _ o h=>N1.at h);have F1:=Fw.of (R:=R) (as:=as) N1;generalize Z8 H p1 (.lst [])=G1 at *;have ab0:∀ l:Addr,G1 l=some (.lst [])->(cO S.lt k).getD []=[]->R1 [some (.ref R.x),some (.ref a),some (.ref l)] G1:=fun l hl hq=>by
    have hd:cU S (.aaB x k)=({S with sl:=.aaB k},[]):=by simp only[cU,hq]
    rw[hd] at q;refine hR1 _ _ ?_;refine aI fun R2 hR2=>?_;wp_walk using hl,e1';refine fun p2 h2=>?_;have N2:=q0D (o:=.tup [.str "hear",.str k]) h2;have f2:Z8 G1 p2 (.tup [.str "hear",.str k]) p2=some (.tup [.str "hear",.str k]):=aA;have A2:=A1.kp N2;wp_walk using N2.at A1.ins;have A3:=A2.attr (.ref p2) (.aaB k) S.ar S.nw ⟨p2,rfl,f2⟩;have F3:=(F1.trans (Fw.of N2)).trans (Fw.set (p:=R.x) (o:=(.ins t.aU R.dx [("walk",.ref R.wk),("sleep",.ref p2),("arg",wv S.ar),("now",.int S.nw),("names",.ref R.nm),("tickets",.ref R.tk),("letters",.ref R.lt)])) (.inl (by simp[Rn.cells])));refine hR2 _ _ ?_;generalize Z8 (Z8 G1 p2 (.tup [.str "hear",.str k])) R.x (.ins t.aU R.dx [("walk",.ref R.wk),("sleep",.ref p2),("arg",wv S.ar),("now",.int S.nw),("names",.ref R.nm),("tickets",.ref R.tk),("letters",.ref R.lt)])=G3 at *;wp_walk;refine fun c hc=>?_;have N4:=q0D (o:=.lst []) hc;exact q _ c [] _ (A3.kp N4) (F3.free hc) aA .nil (F3.trans (Fw.of N4))
   rcases L1.look k with⟨hv,hn⟩|⟨l,ws,hv,hn,hl,ew⟩
   ·wp_walk using A1.ins,el1,e1',hv,Option.getD_none;exact ab0 p1 f1 (by rw[hn];rfl)
   ·wp_walk using A1.ins,el1,e1',hv,Option.getD_some;cases ws with
    | nil=>exact ab0 l ew (by rw[hn];rfl)
    | cons w r =>
     have hd:cU S (.aaB x k)=({S with nm:=dM S.nm x w,lt:=eZ S.lt k r},[]):=by simp only[cU,hn,Option.getD_some]
     rw[hd] at q;rw[List.map_cons] at ew;refine hR1 _ _ ?_;refine aI fun R2 hR2=>?_;obtain⟨A2,hla⟩:=A1.Cf el1 hv r;have F2:=F1.trans (Fw.set (p:=l) (o:=.lst (r.map wv)) (.inr hla));have e2:=A1.tkp (Fw.set (p:=l) (o:=.lst (r.map wv)) (.inr hla)) _ _ e1';wp_walk using ew,List.tail_cons,List.isEmpty_cons,Bool.not_false,A2.ins,e2,A2.nm,mM;have A3:=A2.name x w;have F3:=F2.trans (Fw.set (p:=R.nm) (o:=.dK (lW (dM S.nm x w))) (.inl (by simp[Rn.cells])));refine⟨by omega,hR2 _ _ ?_⟩;generalize Z8 (Z8 G1 l (.lst (r.map wv))) R.nm (.dK (lW (dM S.nm x w)))=G3 at *;wp_walk;refine fun c hc=>?_;have N4:=q0D (o:=.lst []) hc;exact q _ c [] _ (A3.kp N4) (F3.free hc) aA .nil (F3.trans (Fw.of N4))
def O0{t:Ad}(T:Tx w K mg t):bD P w K mg base CX0 11 t.DC t.HW ["run","statement"] (dN ⟨t.aU,t.aV,t.aJ⟩ true (fun m=>∃ s,m=.fin s)):=by
 refine T.Oc.ok Px (fun vs H Q E h=>?_) (fun cdv A outer s H vs Q E hr h=>?_)
 ·obtain⟨R,as,sl,S,a,m,N,rfl,_⟩:=h;rfl
 ·obtain⟨R,as,sl,S,a,m,N,rfl,A,hsl,hs,⟨s,rfl⟩,F,g,hN,q⟩:=h;refine⟨_,(aF (aM (bK (pv 0) T.aW T.Ge (Di T) (hr.mono (by omega)) T.Jt .nil pass0 (aD (bK (pv 0) T.aW T.eC (dI T) (hr.mono (by omega)) T.eT .nil pass0 (aD (bB bP (pv 1) aE (fun _ _=>rfl)) aB)) aB)))),?_⟩
  and_intros
  cases hs with
  | @fin a v s e1 h1 =>
   wp_walk using A.ins,e1;refine⟨R,as,sl,S,v,s,rfl,A,F.pl,h1,g,?_⟩;wp_walk;exact⟨R,as,sl,S,_,rfl,A,q⟩
def GC{t:Ad}(T:Tx w K mg t):bD P w K mg base CX0 12 t.tZ t.uK ["self","statement"] (WE ⟨t.aU,t.aV,t.aJ⟩ true):=by
  refine T.Lq.ok pB (fun vs H Q E h=>?_) (fun cdv A outer s H vs Q E hr h=>?_)
  · obtain⟨R,as,sl,S,a,m,N,rfl,_⟩:=h;rfl
  · obtain⟨R,as,sl,S,a,m,N,rfl,A,hsl,hs,F,g,hst,hN,q⟩:=h;refine⟨_,(aC (bA (i:=2) pB.nd rfl (Or.inl rfl) (bB bP (pv 1) aE (fun _ _=>rfl)))
      (aC (bF (PW.pt (xP (aR cB (pv 2) aO (nomark _)) (oU (aR cB (pv 2) aO (nomark _))))) (aC (cA (bK (pv 0) T.aW T.LM (IF T) (hr.mono (by omega)) T.MU .nil pass0 (aD (pv 1) aB)))
      (aF (aM (bL aB)))) aX)
      (aC (bA (i:=3) pB.nd rfl (Or.inl rfl) (Sl (tab:=[("set",(dN ⟨t.aU,t.aV,t.aJ⟩ true (fun m=>∃ x s,m=.set x s))),("order",(dN ⟨t.aU,t.aV,t.aJ⟩ true (fun m=>∃ x y s,m=.order x y s\/m=.child x y s))),("timer",(dN ⟨t.aU,t.aV,t.aJ⟩ true (fun m=>∃ x s,m=.aaE x s))),("child",(dN ⟨t.aU,t.aV,t.aJ⟩ true (fun m=>∃ x y s,m=.order x y s\/m=.child x y s))),("send",(dN ⟨t.aU,t.aV,t.aJ⟩ true (fun m=>∃ s k r,m=.send s k r))),("drop",(dN ⟨t.aU,t.aV,t.aJ⟩ true (fun m=>∃ s,m=.drop s))),("wait",(dN ⟨t.aU,t.aV,t.aJ⟩ true (fun m=>∃ x ss,m=.wait x ss))),("hear",(dN ⟨t.aU,t.aV,t.aJ⟩ true (fun m=>∃ x k,m=.aaB x k))),("end",(dN ⟨t.aU,t.aV,t.aJ⟩ true (fun m=>∃ s,m=.fin s)))]) rfl T.Ux T.RW (pv 2) (fun _ _=>rfl) (fun y sp h=>deeds9 (Z:=fun y sp=>∃ f fd ps,PySem.W.nsIn K t.iJ y=some (some (.ref f))/\bD P w K mg base CX0 11 f fd ps sp/\PySem.W.keepIn K (.ref f)=true/\Binds K fd ps []) h ⟨_,_,_,T.LY,(O1 T).mono (by decide),T.Od.kp,T.Ut⟩ ⟨_,_,_,T.Gn,(Bj T).mono (by decide),T.Az.kp,T.Fc⟩ ⟨_,_,_,T.Gp,(IG T).mono (by decide),T.Fy.kp,T.MV⟩ ⟨_,_,_,T.Gm,(Bj T).mono (by decide),T.Az.kp,T.Fc⟩ ⟨_,_,_,T.IB,(L6 T).mono (by decide),T.JJ.kp,T.QB⟩ ⟨_,_,_,T.Iz,(L4 T).mono (by decide),T.JH.kp,T.Qz⟩ ⟨_,_,_,T.IC,(L7 T).mono (by decide),T.JK.kp,T.QC⟩ ⟨_,_,_,T.IA,(L5 T).mono (by decide),T.JI.kp,T.QA⟩ ⟨_,_,_,T.LX,(O0 T).mono (by decide),T.Oc.kp,T.Us⟩) (hr.mono (by omega)) (aD (pv 0) (aD (pv 1) aB))))
      (aC (bF (aR mN (aQ T.aW T.c9 (pv 0)) eD (nomark _)) (aF (cA (bX (aQ T.aW T.jU (pv 0)) T.cS T.i8 (g9 T) (hr.mono (by omega)) T.kK .nil pass0))) aX)
      (aF (aM (pv 3))))))),?_⟩
    and_intros
    have tail:m.isB=false->∀(kd sl':V) (c:Addr) (us:List V) (H':Hp),aZ ⟨t.aU,t.aV,t.aJ⟩ H' R as sl' (cU S m).1->H c=none->H' c=some (.lst us)->hZ H' us (cU S m).2->Fw R as as H H' ->
        S4 (P8 (Du (WS Uy (QH t.aU "sleep" (kA 0)) (tC .non))) (P6 (Hr t.aV "pass_by" (BP t.aV) [] E0 (QH t.aU "walk" (kA 0)) Jm)) Qa) (WL (kA 3)) {nx:=fun _ H'=>Q .non H',rt:=Q} [some (.ref R.x),some a,some kd,some (.ref c)] H':=fun hB kd sl' c us H' A' hc ec hC FF=>by
      rw[We hB] at q;refine aI fun R4 hR4=>?_;rcases A'.slp.isN with⟨hn,rfl⟩|⟨hn,p,rfl⟩
      · simp only[hn,if_true] at q;obtain⟨k0,b0,n0,r0,est,hm0⟩:=fS hst;wp_walk using A'.ins,A'.wk.ins;have W:=A'.wk;rw[Ag,est] at W;refine⟨R.wk,R.wx,R.lb,R.ln,k0,n0,b0,r0,rfl,W,fun H1 W1 K1=>?_⟩;have e:(k0,b0,n0+1)::r0=iL (cU S m).1.stk:=by rw[Ag,est];rfl
        rw[e] at W1;have A2:=A'.walk W1 (K1.mono (by simp));have F2:=A'.AH W1 (K1.mono (by simp));wp_walk;refine hR4 _ _ ?_;wp_walk;have nc:=A.cX hc;exact q .non c us H1 A2 hc (F2.kp _ _ ec nc.1 nc.2) (hC.kt (A'.tkp F2)) (FF.trans F2)
      · simp only[hn,if_false,Bool.false_eq_true] at q;wp_walk using A'.ins;refine hR4 _ _ ?_;wp_walk;exact q (.ref p) c us H' A' hc ec hC FF
    cases hs with
    | @set a0 x v s e1 h1 =>
      refine aI fun R1 hR1=>?_;wp_walk using e1;refine hR1 _ _ ?_;refine aI fun R2 hR2=>?_;wp_walk;refine hR2 _ _ ?_;refine aI fun R3 hR3=>?_;wp_walk using mJ,gE,gF,gD,i6,i0,i7,i5,mI;refine⟨R,as,sl,S,_,_,N,rfl,A,hsl,.set e1 h1,⟨_,_,rfl⟩,F,g,hN,fun sl' c us H' A' hc ec hC FF=>?_⟩;wp_walk;exact hR3 _ _ (tail rfl _ sl' c us H' A' hc ec hC FF)
    | @order a0 x y v s e1 h1 =>
      refine aI fun R1 hR1=>?_;wp_walk using e1;refine hR1 _ _ ?_;refine aI fun R2 hR2=>?_;wp_walk;refine hR2 _ _ ?_;refine aI fun R3 hR3=>?_;wp_walk using mJ,gE,gF,gD,i6,i0,i7,i5,mI;refine⟨R,as,sl,S,_,_,N,rfl,A,hsl,.order e1 h1,⟨_,_,_,.inl rfl⟩,F,g,hN,fun sl' c us H' A' hc ec hC FF=>?_⟩;wp_walk;exact hR3 _ _ (tail rfl _ sl' c us H' A' hc ec hC FF)
    | @aaE a0 x v s e1 h1 =>
      refine aI fun R1 hR1=>?_;wp_walk using e1;refine hR1 _ _ ?_;refine aI fun R2 hR2=>?_;wp_walk;refine hR2 _ _ ?_;refine aI fun R3 hR3=>?_;wp_walk using mJ,gE,gF,gD,i6,i0,i7,i5,mI;refine⟨R,as,sl,S,_,_,N,rfl,A,hsl,.aaE e1 h1,⟨_,_,rfl⟩,F,g,hN,fun sl' c us H' A' hc ec hC FF=>?_⟩;wp_walk;exact hR3 _ _ (tail rfl _ sl' c us H' A' hc ec hC FF)
    | @child a0 x y v s e1 h1 =>
      refine aI fun R1 hR1=>?_;wp_walk using e1;refine hR1 _ _ ?_;refine aI fun R2 hR2=>?_;wp_walk;refine hR2 _ _ ?_;refine aI fun R3 hR3=>?_;wp_walk using mJ,gE,gF,gD,i6,i0,i7,i5,mI;refine⟨R,as,sl,S,_,_,N,rfl,A,hsl,.child e1 h1,⟨_,_,_,.inr rfl⟩,F,g,hN,fun sl' c us H' A' hc ec hC FF=>?_⟩;wp_walk;exact hR3 _ _ (tail rfl _ sl' c us H' A' hc ec hC FF)
    | @send a0 k v u s r e1 h1 h2 =>
      refine aI fun R1 hR1=>?_;wp_walk using e1;refine hR1 _ _ ?_;refine aI fun R2 hR2=>?_;wp_walk;refine hR2 _ _ ?_;refine aI fun R3 hR3=>?_;wp_walk using mJ,gE,gF,gD,i6,i0,i7,i5,mI;refine⟨R,as,sl,S,_,_,N,rfl,A,hsl,.send e1 h1 h2,⟨_,_,_,rfl⟩,F,g,hN,fun sl' c us H' A' hc ec hC FF=>?_⟩;wp_walk;exact hR3 _ _ (tail rfl _ sl' c us H' A' hc ec hC FF)
    | @drop a0 v s e1 h1 =>
      refine aI fun R1 hR1=>?_;wp_walk using e1;refine hR1 _ _ ?_;refine aI fun R2 hR2=>?_;wp_walk;refine hR2 _ _ ?_;refine aI fun R3 hR3=>?_;wp_walk using mJ,gE,gF,gD,i6,i0,i7,i5,mI;refine⟨R,as,sl,S,_,_,N,rfl,A,hsl,.drop e1 h1,⟨_,rfl⟩,F,g,hN,fun sl' c us H' A' hc ec hC FF=>?_⟩;wp_walk;exact hR3 _ _ (tail rfl _ sl' c us H' A' hc ec hC FF)
    | @aaB a0 x k e1 =>
      refine aI fun R1 hR1=>?_;wp_walk using e1;refine hR1 _ _ ?_;refine aI fun R2 hR2=>?_;wp_walk;refine hR2 _ _ ?_;refine aI fun R3 hR3=>?_;wp_walk using mJ,gE,gF,gD,i6,i0,i7,i5,mI;refine⟨R,as,sl,S,_,_,N,rfl,A,hsl,.aaB e1,⟨_,_,rfl⟩,F,g,hN,fun sl' c us H' A' hc ec hC FF=>?_⟩;wp_walk;exact hR3 _ _ (tail rfl _ sl' c us H' A' hc ec hC FF)
    | @fin a0 v s e1 h1 =>
      refine aI fun R1 hR1=>?_;wp_walk using e1;refine hR1 _ _ ?_;refine aI fun R2 hR2=>?_;wp_walk;refine hR2 _ _ ?_;refine aI fun R3 hR3=>?_;wp_walk using mJ,gE,gF,gD,i6,i0,i7,i5,mI;refine⟨R,as,sl,S,_,_,N,rfl,A,hsl,.fin e1 h1,⟨_,rfl⟩,F,g,hN,fun sl' c us H' A' hc ec hC FF=>?_⟩;wp_walk;exact hR3 _ _ (tail rfl _ sl' c us H' A' hc ec hC FF)
    | @wait a0 p x vs ss e1 e2 h1 =>
      refine aI fun R1 hR1=>?_;wp_walk using e1;refine hR1 _ _ ?_;refine aI fun R2 hR2=>?_;wp_walk;refine hR2 _ _ ?_;refine aI fun R3 hR3=>?_;wp_walk using mJ,gE,gF,gD,i6,i0,i7,i5,mI;refine⟨R,as,sl,S,_,_,N,rfl,A,hsl,.wait e1 e2 h1,⟨_,_,rfl⟩,F,g,hN,fun sl' c us H' A' hc ec hC FF=>?_⟩;wp_walk;exact hR3 _ _ (tail rfl _ sl' c us H' A' hc ec hC FF)
    | @whl a0 p v s vs b e1 h1 e2 h2 =>
      rw[TN rfl] at q;refine aI fun R1 hR1=>?_;wp_walk using e1;refine hR1 _ _ ?_;wp_walk using A.ins;refine⟨R,as,sl,S,_,_,N,rfl,A,.whl e1 h1 e2 h2,rfl,F,g,hst,fun H1 A1 F1=>?_⟩;wp_walk;refine fun c hc=>?_;have N4:=q0D (o:=.lst []) hc;exact q _ c [] _ (A1.kp N4) (F1.free hc) aA .nil (F1.trans (Fw.of N4))
    | @iff a0 p p2 v s vs us b o e1 h1 e2 h2 e3 h3 =>
      rw[TN rfl] at q;refine aI fun R1 hR1=>?_;wp_walk using e1;refine hR1 _ _ ?_;wp_walk using A.ins;refine⟨R,as,sl,S,_,_,N,rfl,A,.iff e1 h1 e2 h2 e3 h3,rfl,F,g,hst,fun H1 A1 F1=>?_⟩;wp_walk;refine fun c hc=>?_;have N4:=q0D (o:=.lst []) hc;exact q _ c [] _ (A1.kp N4) (F1.free hc) aA .nil (F1.trans (Fw.of N4))
def Bd{t:Ad}(T:Tx w K mg t):bD P w K mg base CX0 13 t.zC t.zY ["self"] (Yu ⟨t.aU,t.aV,t.aJ⟩ true):=by
  refine T.NY.ok j8 (fun vs H Q E h=>?_) (fun cdv A outer s H vs Q E hr h=>?_)
  · obtain⟨R,as,sl,S,N,rfl,_⟩:=h;rfl
  · obtain⟨R,as,sl,S,N,rfl,A,FN,hN,q⟩:=h;refine⟨_,(aC (dA T.aW T.c9 (pv 0) eD)
      (aC (bA (i:=1) j8.nd rfl (Or.inl rfl) (bL aB))
      (aC (bA (i:=2) j8.nd rfl (Or.inl rfl) aE)
      (aC (GS PassesOwn.never (aR mN (aQ T.aW T.c9 (pv 0)) eD (nomark _)) (aC (bA (i:=3) j8.nd rfl (Or.inl rfl) (bX (aQ T.aW T.jU (pv 0)) T.cS T.Eg (Cq T) (hr.mono (by omega)) T.Fb .nil pass0))
      (aF (bF (aR mN (pv 3) eD (nomark _)) (aF (cA (GR PySem.F.slot_list_extend PySem.F.type_list_extend y6 (pv 1) (aD (bK (pv 0) T.aW T.Ge (Di T) (hr.mono (by omega)) T.Jt .nil pass0 (aD eD aB)) aB)))) (aF (bF (aR cB (pv 2) (fM (v:=.int 300) rfl T.Fh ⟨_,rfl⟩) (nomark _)) (aF (cA (GR PySem.F.slot_list_extend PySem.F.type_list_extend y6 (pv 1) (aD (bX (pv 0) T.aW T.Ef (Cp T) (hr.mono (by omega)) T.E9 .nil pass0) aB)))) (aC (Wm (i:=2) j8.nd rfl (Or.inl rfl) aE JV)
      (aF (cA (GR PySem.F.slot_list_extend PySem.F.type_list_extend y6 (pv 1) (aD (bK (pv 0) T.aW T.Iu (GC T) (hr.mono (by omega)) T.KL .nil pass0 (aD (pv 3) aB)) aB)))))))))))
      (aF (aM (pv 1))))))),?_⟩
    and_intros
    refine aI fun R1 hR1=>?_;wp_walk using A.ins;have A1:=A.attr .non .non S.ar S.nw rfl;have F1:=Fw.set (R:=R) (as:=as) (H:=H) (p:=R.x) (o:=(.ins t.aU R.dx [("walk",.ref R.wk),("sleep",.non),("arg",wv S.ar),("now",.int S.nw),("names",.ref R.nm),("tickets",.ref R.tk),("letters",.ref R.lt)])) (.inl (by simp[Rn.cells]));generalize Z8 H R.x (.ins t.aU R.dx [("walk",.ref R.wk),("sleep",.non),("arg",wv S.ar),("now",.int S.nw),("names",.ref R.nm),("tickets",.ref R.tk),("letters",.ref R.lt)])=G1 at *;refine hR1 _ _ ?_;clear hR1 R1;refine aI fun R2 hR2=>?_;wp_walk;refine fun c hc=>?_;have fc:H c=none:=F1.free hc;have nc:=A.cX fc;have N2:=q0D (o:=.lst []) hc;have ec:Z8 G1 c (.lst []) c=some (.lst []):=aA;replace A1:=A1.kp N2;replace F1:=F1.trans (Fw.of N2);generalize Z8 G1 c (.lst [])=G2 at *;refine hR2 _ _ ?_;clear hR2 R2;refine aI fun R3 hR3=>?_;wp_walk;refine hR3 _ _ ?_;clear hR3 R3;refine aI fun R4 hR4=>?_;obtain⟨S0,hS0⟩:∃ S0:Pu,S0={S with sl:=.non}:=⟨_,rfl⟩;rw[<- hS0] at q FN;replace A1:aZ ⟨t.aU,t.aV,t.aJ⟩ G2 R as .non S0:=by rw[hS0];exact A1
    have s0:S0.sl=.non:=by rw[hS0]
    clear hS0;obtain⟨Y,hY⟩:∃ Y:Nat->St->Hp->Prop,∀ m σ G,Y m σ G = ∃(many:Nat) (u:Option V) (us:List V) (cs:Cmds) (S1:Pu) (sl1:V),σ=[some (.ref R.x),some (.ref c),some (.int many),u]/\G c=some (.lst us)/\Fw R as as H G/\hZ G us cs/\aZ ⟨t.aU,t.aV,t.aJ⟩ G R as sl1 S1 /\
        ((S1.sl=.non/\many<=300/\cs.length<=many/\m=301 - many/\Fit true S1 (N+many)/\iI 300 S0=((iI (300 - many) S1).1,cs++(iI (300 - many) S1).2))\/(S1.sl.isN=false/\iI 300 S0=(S1,cs))):=⟨_,fun _ _ _=>rfl⟩
    refine⟨Y,⟨301,?_⟩,?_⟩
    · rw[hY];exact⟨0,none,[],[],S0,.non,rfl,ec,F1,.nil,A1,.inl ⟨s0,by decide,Nat.zero_le _,rfl,FN,rfl⟩⟩
    intro m σ G hG;rw[hY] at hG;obtain⟨many,u,us,cs,S1,sl1,rfl,eG,FG,hC,A2,hG⟩:=hG;rcases hG with⟨hs1,hm,lC,rfl,F0,eq⟩|⟨hs1,eq⟩
    · have:sl1=.non:=by have:=A2.slp;rw[hs1] at this;exact this
      subst this;wp_walk using A2.ins;refine⟨fun σ' G'=>∃ m',m' < 301 - many/\Y m' σ' G',fun _ _ z=>z,?_⟩;wp_walk using A2.wk.ins,A2.ins;refine⟨R.wk,R.wx,R.lb,R.ln,S1.stk,rfl,A2.wk,F0.sk.ok,fun H1 W1 _ hst K1=>?_,fun m v H1 W1 _ hst hv K1=>?_⟩
      · have A3:aZ ⟨t.aU,t.aV,t.aJ⟩ H1 R as .non S1.cJ:=A2.walk W1 K1;have F2:=A2.AH W1 K1;replace eG:=F2.kp _ _ eG nc.1 nc.2;rw[dS hst] at eq;wp_walk using A3.ins,eG;refine⟨R,as,.non,S1.cJ,none,rfl,A3,fun sl3 c3 us3 H3 A4 hc3 ec3 hC3 F3=>?_⟩;have lc3:(S1.cJ.ends none).2.length<=1:=by simp[Pu.ends]
        have eG3:=F3.kp _ _ eG nc.1 nc.2;have l1:=hC.len;have l3:=hC3.len;wp_walk using eG3,ec3;refine⟨by omega,?_⟩;have A5:=A4.other (vs:=us++us3) eG3 nc.1 nc.2;have F5:=((FG.trans F2).trans F3).fresh (o:=.lst (us++us3)) fc;have tk5:aP H3 (Z8 H3 c (.lst (us++us3))):=aP.Hj eG3 (by intro _ z;cases z);have hC5:=((hC.kt (A2.tkp F2)).kt (A3.tkp F3)).app hC3 |>.kt tk5;refine⟨0,by omega,?_⟩;rw[hY];exact⟨many,some .non,_,_,_,sl3,rfl,aA,F5,hC5,A5,.inr ⟨rfl,by rw[eq]⟩⟩
      · have A3:aZ ⟨t.aU,t.aV,t.aJ⟩ H1 R as .non S1.cJ:=A2.walk W1 K1;have F2:=A2.AH W1 K1;have FC:=F0.cJ hs1;replace eG:=F2.kp _ _ eG nc.1 nc.2;obtain⟨a,rfl⟩:∃ a,v=.ref a:=by cases hv<;>exact⟨_,rfl⟩
        wp_walk using reduceCtorEq,if_false;by_cases h3:many=300
        · subst h3;rw[if_pos (by decide)];rw[jF hst] at eq;wp_walk using A3.ins,eG;refine⟨R,as,.non,S1.cJ,rfl,A3,fun sl3 c3 us3 H3 A4 hc3 ec3 hC3 F3=>?_⟩;have lc3:(S1.cJ.Dz).2.length<=1:=by simp[Pu.Dz]
          have eG3:=F3.kp _ _ eG nc.1 nc.2;have l1:=hC.len;have l3:=hC3.len;wp_walk using eG3,ec3;refine⟨by omega,?_⟩;have A5:=A4.other (vs:=us++us3) eG3 nc.1 nc.2;have F5:=((FG.trans F2).trans F3).fresh (o:=.lst (us++us3)) fc;have tk5:aP H3 (Z8 H3 c (.lst (us++us3))):=aP.Hj eG3 (by intro _ z;cases z);have hC5:=((hC.kt (A2.tkp F2)).kt (A3.tkp F3)).app hC3 |>.kt tk5;refine⟨0,by omega,?_⟩;rw[hY];exact⟨300,some (.ref a),_,_,_,sl3,rfl,aA,F5,hC5,A5,.inr ⟨rfl,by rw[eq]⟩⟩
        · rw[if_neg (by omega)];obtain⟨n,hn⟩:∃ n,300 - many=n+1:=⟨299 - many,by omega⟩;rw[hn] at eq;refine⟨_,rfl,?_⟩;wp_walk using A3.ins,eG;refine⟨R,as,.non,S1.cJ,.ref a,m,N+many,rfl,A3,hs1,hv,FC,FC.stm hst,hst,by omega,fun sl3 c3 us3 H3 A4 hc3 ec3 hC3 F3=>?_⟩;have lc3:=Sd S1.cJ m;have eG3:=F3.kp _ _ eG nc.1 nc.2;have l1:=hC.len;have l3:=hC3.len;wp_walk using eG3,ec3;refine⟨by omega,?_⟩;have A5:=A4.other (vs:=us++us3) eG3 nc.1 nc.2;have F5:=((FG.trans F2).trans F3).fresh (o:=.lst (us++us3)) fc;have tk5:aP H3 (Z8 H3 c (.lst (us++us3))):=aP.Hj eG3 (by intro _ z;cases z);have hC5:=((hC.kt (A2.tkp F2)).kt (A3.tkp F3)).app hC3 |>.kt tk5;cases hz:(one S1.cJ m).1.sl.isN with
          | true =>
            rw[pU hst hz] at eq;refine⟨301 - (many+1),by omega,?_⟩;rw[hY];exact⟨many+1,some (.ref a),_,_,_,sl3,rfl,aA,F5,hC5,A5,.inl ⟨D9 hz,by omega,by rw[List.length_append];omega,rfl,FC.one hst hs1 (by omega),by rw[eq,show 300 - (many+1)=n by omega,List.append_assoc]⟩⟩
          | false =>
            rw[jE hst hz] at eq;refine⟨0,by omega,?_⟩;rw[hY];exact⟨many+1,some (.ref a),_,_,_,sl3,rfl,aA,F5,hC5,A5,.inr ⟨hz,by rw[eq]⟩⟩
    · rcases A2.slp.isN with⟨z,_⟩|⟨_,p,rfl⟩
      · rw[hs1] at z;cases z
      wp_walk using A2.ins,reduceCtorEq,if_false;refine hR4 _ _ ?_;wp_walk;rw[eq] at q;exact q _ c us G A2 fc eG hC FG
def Bg{t:Ad}(T:Tx w K mg t):bD P w K mg base CX0 14 t.zF t.Ac ["self","worth"] (SV ⟨t.aU,t.aV,t.aJ⟩ true):=by
 refine T.Ob.ok I8 (fun vs H Q E h=>?_) (fun cdv A outer s H vs Q E hr h=>?_)
 ·obtain⟨R,as,sl,S,w,N,rfl,_⟩:=h;rfl
 ·obtain⟨R,as,sl,S,w,N,rfl,A,F,hN,hw,hsl,q⟩:=h;have hu:=nA hr;refine⟨_,(aC (mO hu (aQ T.aW T.fJ (pv 0)) (bB bP (bX (aQ T.aW T.jU (pv 0)) T.cS T.gG (fK T) (hr.mono (by omega)) T.gX .nil pass0) aE (fun _ _=>rfl)) (pv 1))
   (aC (cA (bX (aQ T.aW T.jU (pv 0)) T.cS T.i8 (g9 T) (hr.mono (by omega)) T.kK .nil pass0))
   (aF (aM (bX (pv 0) T.aW T.Dc (Bd T) (hr.mono (by omega)) T.E6 .nil pass0))))),?_⟩
  and_intros
  have l1:(lW S.nm).length<=N:=by rw[lW,List.length_map];exact F.nm
  rcases hsl with⟨k,hk⟩|⟨ts,hk⟩
  ·obtain⟨x,hst⟩:=F.sl.1 k hk;obtain⟨k0,b0,n0,r0,est,hm0⟩:=fS hst;have nm1:∀ v,dH H v (.aaB x k)->∃ a xs,v=.ref a/\H a=some (.tup (.str "hear"::.str x::xs)):=fun v h=>by cases h with|aaB e=>exact⟨_,_,rfl,e⟩
   simp only[Pu.wake,hst] at q;refine aI fun R1 hR1=>?_;wp_walk using A.ins,A.wk.ins,A.nm;have W:=A.wk;rw[est] at W;refine⟨R.wk,R.wx,R.lb,R.ln,k0,n0,b0,r0,_,rfl,W,hm0,fun v hv=>?_⟩;obtain⟨a,xs,rfl,e1⟩:=nm1 v hv;wp_walk using e1,A.nm,mM;refine⟨by omega,?_⟩;have A1:=A.name x w;have F1:=Fw.set (R:=R) (as:=as) (H:=H) (o:=.dK (lW (dM S.nm x w))) (p:=R.nm) (.inl (by simp[Rn.cells]));generalize Z8 H R.nm (.dK (lW (dM S.nm x w)))=G1 at *;refine hR1 _ _ ?_;clear hR1 R1;refine aI fun R2 hR2=>?_;wp_walk using A1.ins,A1.wk.ins;have W1:=A1.wk;rw[show({S with nm:=dM S.nm x w}:Pu).stk=S.stk from rfl,est] at W1;refine⟨R.wk,R.wx,R.lb,R.ln,k0,n0,b0,r0,rfl,W1,fun H2 W2 K2=>?_⟩;have e:(k0,b0,n0+1)::r0=iL S.stk:=by rw[est];rfl
   rw[e] at W2;have A2:=A1.walk W2 (K2.mono (by simp));have F2:=F1.trans (A1.AH W2 (K2.mono (by simp)));wp_walk;refine hR2 _ _ ?_;clear hR2 R2;wp_walk using A2.ins;exact⟨R,as,sl,_,N+1,rfl,A2,F.wake hst hw x,by omega,fun sl3 c us H3 A3 hc ec hC F3=>q sl3 c us H3 A3 (F2.free hc) ec hC (F2.trans F3)⟩
  ·obtain⟨x,ss,hst⟩:=F.sl.2 ts hk;obtain⟨k0,b0,n0,r0,est,hm0⟩:=fS hst;have nm1:∀ v,dH H v (.wait x ss)->∃ a xs,v=.ref a/\H a=some (.tup (.str "wait"::.str x::xs)):=fun v h=>by cases h with|wait e _ _=>exact⟨_,_,rfl,e⟩
   simp only[Pu.wake,hst] at q;refine aI fun R1 hR1=>?_;wp_walk using A.ins,A.wk.ins,A.nm;have W:=A.wk;rw[est] at W;refine⟨R.wk,R.wx,R.lb,R.ln,k0,n0,b0,r0,_,rfl,W,hm0,fun v hv=>?_⟩;obtain⟨a,xs,rfl,e1⟩:=nm1 v hv;wp_walk using e1,A.nm,mM;refine⟨by omega,?_⟩;have A1:=A.name x w;have F1:=Fw.set (R:=R) (as:=as) (H:=H) (o:=.dK (lW (dM S.nm x w))) (p:=R.nm) (.inl (by simp[Rn.cells]));generalize Z8 H R.nm (.dK (lW (dM S.nm x w)))=G1 at *;refine hR1 _ _ ?_;clear hR1 R1;refine aI fun R2 hR2=>?_;wp_walk using A1.ins,A1.wk.ins;have W1:=A1.wk;rw[show({S with nm:=dM S.nm x w}:Pu).stk=S.stk from rfl,est] at W1;refine⟨R.wk,R.wx,R.lb,R.ln,k0,n0,b0,r0,rfl,W1,fun H2 W2 K2=>?_⟩;have e:(k0,b0,n0+1)::r0=iL S.stk:=by rw[est];rfl
   rw[e] at W2;have A2:=A1.walk W2 (K2.mono (by simp));have F2:=F1.trans (A1.AH W2 (K2.mono (by simp)));wp_walk;refine hR2 _ _ ?_;clear hR2 R2;wp_walk using A2.ins;exact⟨R,as,sl,_,N+1,rfl,A2,F.wake hst hw x,by omega,fun sl3 c us H3 A3 hc ec hC F3=>q sl3 c us H3 A3 (F2.free hc) ec hC (F2.trans F3)⟩
def vU{t:Ad}(T:Tx w K mg t):bD P w K mg base CX0 15 t.jH t.jO ["self","key","worth"] (WH ⟨t.aU,t.aV,t.aJ⟩ true):=by
 refine T.Aw.ok wQ (fun vs H Q E h=>?_) (fun cdv A outer s H vs Q E hr h=>?_)
 ·obtain⟨R,as,sl,S,k,w,N,rfl,_⟩:=h;rfl
 ·obtain⟨R,as,sl,S,k,w,N,rfl,A,F,hN,hw,hsl,q⟩:=h;refine⟨_,(aC (bF (aR (Wh 2 (by decide) (FT hr (by decide))) (aQ T.aW T.c9 (pv 0)) (bH (aD aO (aD (pv 1) aB))) (nomark _)) (aF (aM (bK (pv 0) T.aW T.Dd (Bg T) (hr.mono (by omega)) T.E8 .nil pass0 (aD (pv 2) aB)))) aX)
   (aC (cA (tO (Pd (aQ T.aW T.fU (pv 0)) (pv 1) (bL aB) ⟨rfl,rfl,rfl,rfl⟩) (pv 2)))
   (aF (aM (bL aB))))),?_⟩
  and_intros
  have tl:=A.slp;rcases hsl with⟨k',es⟩|⟨ts,es⟩
  ·rw[es] at tl;obtain⟨p,rfl,ep⟩:=tl;refine aI fun R1 hR1=>?_;wp_walk using A.ins;refine fun p1 h1=>?_;have N1:=q0D (o:=.tup [.str "hear",.str k]) h1;have f1:Z8 H p1 (.tup [.str "hear",.str k]) p1=some (.tup [.str "hear",.str k]):=aA;have A1:=A.kp N1;have hp1:=N1.at ep;have F1:=Fw.of (R:=R) (as:=as) N1;generalize Z8 H p1 (.tup [.str "hear",.str k])=G1 at *;refine .inl ⟨_,RH 1 hp1 f1,?_⟩;by_cases hk:k'=k
   ·subst hk;simp only[Pu.iC,es,if_true] at q;wp_walk using decide_true,A1.ins;exact⟨R,as,.ref p,S,w,N,rfl,A1,F,by omega,hw,.inl ⟨k',es⟩,fun sl3 c us H3 A3 hc ec hC F3=>q as sl3 c us H3 A3 (F1.free hc) (A.cX (F1.free hc)).2 ec hC (F1.trans F3)⟩
   ·have hq:S.iC k w=({S with lt:=gN S.lt k w},[]):=by simp only[Pu.iC,es,if_neg hk]
    rw[hq] at q;wp_walk using decide_false,hk;refine hR1 _ _ ?_;clear hR1 R1;refine aI fun R2 hR2=>?_;obtain⟨kvs,el,L⟩:=A1.lt;have ll:=L.len;have fl:=F.lt;wp_walk using A1.ins,el;refine fun p2 h2=>?_;have hp2:=F1.free h2;have N2:=q0D (o:=.lst []) h2;have f2:Z8 G1 p2 (.lst []) p2=some (.lst []):=aA;have A2:=A1.kp N2;have el2:=N2.at el;have LL:=L.keep (fun a _ o h=>N2.at h);have F2:=F1.trans (Fw.of N2);have nc:=A1.cX h2;generalize Z8 G1 p2 (.lst [])=G2 at *;wp_walk using el2;refine⟨by omega,fun v hv=>?_,fun hv=>?_⟩
    ·rcases LL.look k with⟨z,_⟩|⟨l,ws,z,hn,hla,hl⟩
     ·rw[z] at hv;cases hv
     rw[z] at hv;cases hv;have lw:=(F.lw k ws hn).1;obtain⟨A3,_⟩:=A2.Cf el2 z (ws++[w]);have F3:=F2.trans (Fw.set (p:=l) (o:=.lst ((ws++[w]).map wv)) (.inr hla));rw[show eZ S.lt k (ws++[w])=gN S.lt k w by rw[gN,hn]] at A3;rw[List.map_append,List.map_cons,List.map_nil] at A3 F3;wp_walk using hl;refine⟨by simp;omega,?_⟩;generalize Z8 G2 l (.lst (ws.map wv++[wv w]))=G3 at *;wp_walk;refine hR2 _ _ ?_;wp_walk;refine fun c hc=>?_;have N4:=q0D (o:=.lst []) hc;exact q as _ c [] _ (A3.kp N4) (F3.free hc) (A3.cX hc).2 aA .nil (F3.trans (Fw.of N4))
    ·rcases LL.look k with⟨z,hn⟩|⟨l,ws,z,_⟩
     rotate_left
     ·rw[z] at hv;cases hv
     have A3:=A2.RT (ws:=[]) el2 z f2 nc.1 nc.2;have F3:=F2.trans (Fw.set (p:=R.lt) (o:=.dK (eL kvs (.inr k) (.ref p2))) (.inl (by simp[Rn.cells])));have f3:Z8 G2 R.lt (.dK (eL kvs (.inr k) (.ref p2))) p2=some (.lst []):=jT el2 f2 (by intro z;cases z);have el3:Z8 G2 R.lt (.dK (eL kvs (.inr k) (.ref p2))) R.lt=some (.dK (eL kvs (.inr k) (.ref p2))):=aA;have z3:cC (eL kvs (.inr k) (.ref p2)) (.inr k)=some (.ref p2):=by rw[BW,if_pos rfl]
     generalize Z8 G2 R.lt (.dK (eL kvs (.inr k) (.ref p2)))=G3 at *;wp_walk using f3;obtain⟨A4,_⟩:=A3.Cf el3 z3 [w];have e4:eZ (S.lt++[(k,([]:List Wo))]) k [w]=gN S.lt k w:=by rw[EM hn,gN,hn]
     rw[show({S with lt:=S.lt++[(k,([]:List Wo))]}:Pu).lt=S.lt++[(k,[])] from rfl,e4] at A4;have F4:Fw R as (as++[p2]) H (Z8 G3 p2 (.lst [wv w])):=by
      have z:=F3.fresh (o:=.lst [wv w]) hp2;exact⟨z.kp,z.dom,fun a ha=>by
       rcases List.mem_append.mp ha with ha|ha
       ·exact .inl ha
       ·exact .inr (by rw[show a=p2 by simpa using ha];exact hp2)⟩
     replace A4:aZ ⟨t.aU,t.aV,t.aJ⟩ (Z8 G3 p2 (.lst [wv w])) R (as++[p2]) (.ref p) {S with lt:=gN S.lt k w}:=A4;generalize Z8 G3 p2 (.lst [wv w])=G4 at *;refine hR2 _ _ ?_;wp_walk;refine fun c hc=>?_;have N4:=q0D (o:=.lst []) hc;exact q (as++[p2]) _ c [] _ (A4.kp N4) (F4.free hc) (A4.cX hc).2 aA .nil (F4.trans (Fw.of N4))
  ·rw[es] at tl;obtain⟨p,pw,rfl,ep,epw⟩:=tl;refine aI fun R1 hR1=>?_;wp_walk using A.ins;refine fun p1 h1=>?_;have N1:=q0D (o:=.tup [.str "hear",.str k]) h1;have f1:Z8 H p1 (.tup [.str "hear",.str k]) p1=some (.tup [.str "hear",.str k]):=aA;have A1:=A.kp N1;have hp1:=N1.at ep;have hpw:=N1.at epw;have F1:=Fw.of (R:=R) (as:=as) N1;generalize Z8 H p1 (.tup [.str "hear",.str k])=G1 at *;refine .inr ⟨Str.ofString "wait",Str.ofString "hear",k,pw,_,hp1,hpw,rfl,by decide,?_⟩;have hq:S.iC k w=({S with lt:=gN S.lt k w},[]):=by simp only[Pu.iC,es]
   rw[hq] at q;wp_walk;refine hR1 _ _ ?_;clear hR1 R1;refine aI fun R2 hR2=>?_;obtain⟨kvs,el,L⟩:=A1.lt;have ll:=L.len;have fl:=F.lt;wp_walk using A1.ins,el;refine fun p2 h2=>?_;have hp2:=F1.free h2;have N2:=q0D (o:=.lst []) h2;have f2:Z8 G1 p2 (.lst []) p2=some (.lst []):=aA;have A2:=A1.kp N2;have el2:=N2.at el;have LL:=L.keep (fun a _ o h=>N2.at h);have F2:=F1.trans (Fw.of N2);have nc:=A1.cX h2;generalize Z8 G1 p2 (.lst [])=G2 at *;wp_walk using el2;refine⟨by omega,fun v hv=>?_,fun hv=>?_⟩
   ·rcases LL.look k with⟨z,_⟩|⟨l,ws,z,hn,hla,hl⟩
    ·rw[z] at hv;cases hv
    rw[z] at hv;cases hv;have lw:=(F.lw k ws hn).1;obtain⟨A3,_⟩:=A2.Cf el2 z (ws++[w]);have F3:=F2.trans (Fw.set (p:=l) (o:=.lst ((ws++[w]).map wv)) (.inr hla));rw[show eZ S.lt k (ws++[w])=gN S.lt k w by rw[gN,hn]] at A3;rw[List.map_append,List.map_cons,List.map_nil] at A3 F3;wp_walk using hl;refine⟨by simp;omega,?_⟩;generalize Z8 G2 l (.lst (ws.map wv++[wv w]))=G3 at *;wp_walk;refine hR2 _ _ ?_;wp_walk;refine fun c hc=>?_;have N4:=q0D (o:=.lst []) hc;exact q as _ c [] _ (A3.kp N4) (F3.free hc) (A3.cX hc).2 aA .nil (F3.trans (Fw.of N4))
   ·rcases LL.look k with⟨z,hn⟩|⟨l,ws,z,_⟩
    rotate_left
    ·rw[z] at hv;cases hv
    have A3:=A2.RT (ws:=[]) el2 z f2 nc.1 nc.2;have F3:=F2.trans (Fw.set (p:=R.lt) (o:=.dK (eL kvs (.inr k) (.ref p2))) (.inl (by simp[Rn.cells])));have f3:Z8 G2 R.lt (.dK (eL kvs (.inr k) (.ref p2))) p2=some (.lst []):=jT el2 f2 (by intro z;cases z);have el3:Z8 G2 R.lt (.dK (eL kvs (.inr k) (.ref p2))) R.lt=some (.dK (eL kvs (.inr k) (.ref p2))):=aA;have z3:cC (eL kvs (.inr k) (.ref p2)) (.inr k)=some (.ref p2):=by rw[BW,if_pos rfl]
    generalize Z8 G2 R.lt (.dK (eL kvs (.inr k) (.ref p2)))=G3 at *;wp_walk using f3;obtain⟨A4,_⟩:=A3.Cf el3 z3 [w];have e4:eZ (S.lt++[(k,([]:List Wo))]) k [w]=gN S.lt k w:=by rw[EM hn,gN,hn]
    rw[show({S with lt:=S.lt++[(k,([]:List Wo))]}:Pu).lt=S.lt++[(k,[])] from rfl,e4] at A4;have F4:Fw R as (as++[p2]) H (Z8 G3 p2 (.lst [wv w])):=by
     have z:=F3.fresh (o:=.lst [wv w]) hp2;exact⟨z.kp,z.dom,fun a ha=>by
      rcases List.mem_append.mp ha with ha|ha
      ·exact .inl ha
      ·exact .inr (by rw[show a=p2 by simpa using ha];exact hp2)⟩
    replace A4:aZ ⟨t.aU,t.aV,t.aJ⟩ (Z8 G3 p2 (.lst [wv w])) R (as++[p2]) (.ref p) {S with lt:=gN S.lt k w}:=A4;generalize Z8 G3 p2 (.lst [wv w])=G4 at *;refine hR2 _ _ ?_;wp_walk;refine fun c hc=>?_;have N4:=q0D (o:=.lst []) hc;exact q (as++[p2]) _ c [] _ (A4.kp N4) (F4.free hc) (A4.cX hc).2 aA .nil (F4.trans (Fw.of N4))
def vV{t:Ad}(T:Tx w K mg t):bD P w K mg base CX0 2 t.jI t.jP ["self","ticket","worth"] (Jj t.aJ):=by
 refine T.Ax.ok wR (fun vs H Q E h=>?_) (fun cdv A outer s H vs Q E hr h=>?_)
 ·obtain⟨tk,tx,dp,da,made,pend,ans,i,w,rfl,_⟩:=h;rfl
 ·obtain⟨tk,tx,dp,da,made,pend,ans,i,w,rfl,R,hi,hl,q⟩:=h;have hu:=nA hr;refine⟨_,(aC (cA (bK (pv 0) T.bE T.qL (oM T) (hr.mono (by omega)) T.sH .nil pass0 (aD (pv 1) aB)))
   (aF (mO hu (aQ T.bE T.fT (pv 0)) (pv 1) (pv 2)))),?_⟩
  and_intros
  wp_walk using R.ins;refine⟨tk,tx,dp,da,made,pend,ans,i,rfl,R,hi,fun H1 R1 K1=>?_⟩;wp_walk using R1.ins,R1.ha,Bt (wv w) (MT fun p hp z=>R.dis p hp (z▸hi));have n1:=R.n1;refine⟨by simp only[kH,List.length_map];omega,q _ ⟨by rw[aG n1.2];exact R1.ins,by rw[aG R.nda];exact R1.hp,by rw[aA];simp[kH],R.nda,R1.lt,R1.asc,fun p hp=>?_,fun p hp z=>?_,R.small⟩ ?_⟩
  ·rcases List.mem_append.mp hp with hp|hp
   ·exact R.la p hp
   ·rw[show p=(i,w) by simpa using hp];exact R.lt i hi
  ·rcases List.mem_append.mp hp with hp|hp
   ·exact R1.dis p hp z
   ·rw[show p=(i,w) by simpa using hp] at z;simpa using(List.mem_filter.mp z).2
  ·intro b o eb nb;simp only[List.mem_cons,List.not_mem_nil,or_false,not_or] at nb;rw[aG nb.2];exact K1.at1 eb nb.1
def Bf{t:Ad}(T:Tx w K mg t):bD P w K mg base CX0 15 t.lZ t.mD ["self","ticket","worth"] (SR ⟨t.aU,t.aV,t.aJ⟩ true):=by
 refine T.D0.ok BF (fun vs H Q E h=>?_) (fun cdv A outer s H vs Q E hr h=>?_)
 ·obtain⟨R,as,sl,S,i,w,N,rfl,_⟩:=h;rfl
 ·obtain⟨R,as,sl,S,i,w,N,rfl,A,F,hN,hw,hi,hn,q⟩:=h;refine⟨_,(aC (cA (bK (aQ T.aW T.cN (pv 0)) T.bE T.yH (vV T) (hr.mono (by omega)) T.zQ .nil pass0 (aD (pv 1) (aD (pv 2) aB))))
   (aC (bF (PW.pt (Bu (aR cB (bB bP (aQ T.aW T.c9 (pv 0)) aE (fun _ _=>rfl)) aO (nomark _)) (tS (aR IQ (pv 1) (bB bP (aQ T.aW T.c9 (pv 0)) aE (fun _ _=>rfl)) (by with_unfolding_all rfl))))) (aF (aM (bK (pv 0) T.aW T.Dd (Bg T) (hr.mono (by omega)) T.E8 .nil pass0 (aD (pv 1) aB)))) aX)
   (aF (aM (bL aB))))),?_⟩
  and_intros
  refine aI fun R1 hR1=>?_;wp_walk using A.ins,A.tk.ins;refine⟨R.tk,R.tx,R.dp,R.da,_,_,_,i,w,rfl,A.tk,hi,by have:=F.an;omega,fun H1 T1 K1=>?_⟩;have K2:Kp [R.tk,R.dp,R.da] H H1:=K1.mono (by simp;try omega)
  have A1:aZ ⟨t.aU,t.aV,t.aJ⟩ H1 R as sl (S.done i w):=A.tick T1 K2;have F1:=A.FL T1 K2;have FD:=F.done (i:=i) hw;have wi:dQ (some i):=eO (by have:=(A.tk.lt i hi).1;omega) (by have:=(A.tk.lt i hi).2;have:=F.md;omega);wp_walk;refine hR1 _ _ ?_;clear hR1 R1;refine aI fun R2 hR2=>?_;cases es:S.sl with
  | non=>rw[es] at hn;cases hn
  | wait ts =>
   have hsl:=A1.slp;rw[show(S.done i w).sl=S.sl from rfl,es] at hsl;obtain⟨p,p2,rfl,ep,ep2⟩:=hsl;simp only[Pu.gR,es] at q;wp_walk using A1.ins,ep,ep2,RL,Ly;refine⟨rfl,?_⟩;by_cases ht:i∈ts
   ·rw[if_pos ht] at q;wp_walk using ht,decide_true,A1.ins;exact⟨R,as,.ref p,_,some i,N+1,rfl,A1,FD,by omega,wi,.inr ⟨ts,es⟩,fun sl3 c us H3 A3 hc ec hC F3=>q sl3 c us H3 A3 (F1.free hc) ec hC (F1.trans F3)⟩
   ·rw[if_neg ht] at q;wp_walk using ht,decide_false;refine hR2 _ _ ?_;wp_walk;refine fun c hc=>?_;have N4:=q0D (o:=.lst []) hc;exact q _ c [] _ (A1.kp N4) (F1.free hc) aA .nil (F1.trans (Fw.of N4))
  | new =>
   have hsl:=A1.slp;rw[show(S.done i w).sl=S.sl from rfl,es] at hsl;obtain⟨p,rfl,ep⟩:=hsl;simp only[Pu.gR,es] at q;wp_walk using A1.ins,ep;refine hR2 _ _ ?_;wp_walk;refine fun c hc=>?_;have N4:=q0D (o:=.lst []) hc;exact q _ c [] _ (A1.kp N4) (F1.free hc) aA .nil (F1.trans (Fw.of N4))
  | aaB k =>
   have hsl:=A1.slp;rw[show(S.done i w).sl=S.sl from rfl,es] at hsl;obtain⟨p,rfl,ep⟩:=hsl;simp only[Pu.gR,es] at q;wp_walk using A1.ins,ep;refine hR2 _ _ ?_;wp_walk;refine fun c hc=>?_;have N4:=q0D (o:=.lst []) hc;exact q _ c [] _ (A1.kp N4) (F1.free hc) aA .nil (F1.trans (Fw.of N4))
  | ended u =>
   have hsl:=A1.slp;rw[show(S.done i w).sl=S.sl from rfl,es] at hsl;obtain⟨p,rfl,ep⟩:=hsl;simp only[Pu.gR,es] at q;wp_walk using A1.ins,ep;refine hR2 _ _ ?_;wp_walk;refine fun c hc=>?_;have N4:=q0D (o:=.lst []) hc;exact q _ c [] _ (A1.kp N4) (F1.free hc) aA .nil (F1.trans (Fw.of N4))
  | worn =>
   have hsl:=A1.slp;rw[show(S.done i w).sl=S.sl from rfl,es] at hsl;obtain⟨p,rfl,ep⟩:=hsl;simp only[Pu.gR,es] at q;wp_walk using A1.ins,ep;refine hR2 _ _ ?_;wp_walk;refine fun c hc=>?_;have N4:=q0D (o:=.lst []) hc;exact q _ c [] _ (A1.kp N4) (F1.free hc) aA .nil (F1.trans (Fw.of N4))
def rG{t:Ad}(T:Tx w K mg t):bD P w K mg base CX0 16 t.zE t.Ab ["self","happening"] (SS ⟨t.aU,t.aV,t.aJ⟩ true):=by
 refine T.Oa.ok IZ (fun vs H Q E h=>?_) (fun cdv A outer s H vs Q E hr h=>?_)
 ·obtain⟨R,as,sl,S,v,h,N,rfl,_⟩:=h;rfl
 ·obtain⟨R,as,sl,S,v,h,N,rfl,A,F,hN,hn,hH,ok,q⟩:=h;refine⟨_,(aC (bF (oT (bK (pv 0) T.aW T.yF (vT T) (hr.mono (by omega)) T.zN .nil pass0 (aD (pv 1) aB))) (aF (aM (bL aB))) aX)
   (aC (dA T.aW T.tG (pv 0) (bM (pR rfl) rfl T.MP DN (aD (aQ T.aW T.tG (pv 0)) (aD (bB bP (pv 1) aE (fun _ _=>rfl)) aB))))
   (aC (bF (aR cB (bB bP (pv 1) aE (fun _ _=>rfl)) aO (nomark _)) (aC (dA T.aW T.Df (pv 0) (bB bP (pv 1) aE (fun _ _=>rfl)))
   (aF (aM (bX (pv 0) T.aW T.Dc (Bd T) (hr.mono (by omega)) T.E6 .nil pass0)))) aX)
   (aC (bF (aR cB (bB bP (pv 1) aE (fun _ _=>rfl)) aO (nomark _)) (aF (aM (bK (pv 0) T.aW T.Cg (Bf T) (hr.mono (by omega)) T.DI .nil pass0 (aD (bB bP (pv 1) aE (fun _ _=>rfl)) (aD (bB bP (pv 1) aE (fun _ _=>rfl)) aB))))) aX)
   (aF (aM (bK (pv 0) T.aW T.yG (vU T) (hr.mono (by omega)) T.zP .nil pass0 (aD (bB bP (pv 1) aE (fun _ _=>rfl)) (aD (bB bP (pv 1) aE (fun _ _=>rfl)) aB))))))))),?_⟩
  and_intros
  refine aI fun R1 hR1=>?_;wp_walk using A.ins;refine⟨R,as,sl,S,v,h,rfl,A,hn,hH,fun H1 K1=>?_⟩;have A1:=A.kp K1;obtain⟨a,rfl,eh⟩:=hH;have eh1:=K1.at eh;cases ho:S.over h with
  | true =>
   simp only[Pu.take,ho,if_true] at q;wp_walk;have F1:=Fw.of (R:=R) (as:=as) K1;refine fun c hc=>?_;have N4:=q0D (o:=.lst []) hc;exact q as _ c [] _ (A1.kp N4) (F1.free hc) (A1.cX hc).2 aA .nil (F1.trans (Fw.of N4))
  | false =>
   simp only[Pu.take,ho,if_false,Bool.false_eq_true] at q;wp_walk;refine hR1 _ _ ?_;clear hR1 R1;cases h with
   | beg m w =>
    simp only[Hap.vs,Hap.ini,Hap.w,List.cons_append,List.nil_append] at eh1;refine aI fun R2 hR2=>?_;wp_walk using A1.ins,eh1;have F1:=Fw.of (R:=R) (as:=as) K1;have A2:=A1.attr sl S.sl S.ar (later S.nw m) A1.slp;have F2s:=Fw.set (R:=R) (as:=as) (H:=H1) (p:=R.x) (o:=(.ins t.aU R.dx [("walk",.ref R.wk),("sleep",sl),("arg",wv S.ar),("now",.int (later S.nw m)),("names",.ref R.nm),("tickets",.ref R.tk),("letters",.ref R.lt)])) (.inl (by simp[Rn.cells]));have eh2:=A1.tkp F2s _ _ eh1;have F2:=F1.trans F2s;clear F2s;change R2 _ (Z8 H1 R.x (.ins t.aU R.dx [("walk",.ref R.wk),("sleep",sl),("arg",wv S.ar),("now",.int (later S.nw m)),("names",.ref R.nm),("tickets",.ref R.tk),("letters",.ref R.lt)]));generalize Z8 H1 R.x (.ins t.aU R.dx [("walk",.ref R.wk),("sleep",sl),("arg",wv S.ar),("now",.int (later S.nw m)),("names",.ref R.nm),("tickets",.ref R.tk),("letters",.ref R.lt)])=G2 at *;refine hR2 _ _ ?_;clear hR2 R2;wp_walk using A2.ins,eh2;have A3:=A2.attr sl S.sl w (later S.nw m) A2.slp;have F3:=F2.trans (Fw.set (p:=R.x) (o:=(.ins t.aU R.dx [("walk",.ref R.wk),("sleep",sl),("arg",wv w),("now",.int (later S.nw m)),("names",.ref R.nm),("tickets",.ref R.tk),("letters",.ref R.lt)])) (.inl (by simp[Rn.cells])));generalize Z8 G2 R.x (.ins t.aU R.dx [("walk",.ref R.wk),("sleep",sl),("arg",wv w),("now",.int (later S.nw m)),("names",.ref R.nm),("tickets",.ref R.tk),("letters",.ref R.lt)])=G3 at *;wp_walk using A3.ins;have FF:Fit true ({S with nw:=later S.nw m,ar:=w,sl:=.non}:Pu) N:={F with pl:=⟨F.pl.nm,ok.2,F.pl.an⟩,nw:=(F.at' ok.1).nw,sl:=⟨fun k e=>(by cases e),fun k e=>(by cases e)⟩};exact⟨R,as,sl,_,N,rfl,A3,FF,by omega,fun sl3 c us H3 A4 hc ec hC F4=>q as sl3 c us H3 A4 (F3.free hc) (A.cX (F3.free hc)).2 ec hC (F3.trans F4)⟩
   | don m i w =>
    simp only[Hap.vs,Hap.ini,Hap.w,List.cons_append,List.nil_append] at eh1;have hi:i∈S.pend:=by
     cases es:S.sl<;>simp only[Pu.over,es,Bool.not_eq_false',decide_eq_true_eq] at ho
     all_goals first|exact ho|cases ho
    refine aI fun R2 hR2=>?_;wp_walk using A1.ins,eh1;have F1:=Fw.of (R:=R) (as:=as) K1;have A2:=A1.attr sl S.sl S.ar (later S.nw m) A1.slp;have F2s:=Fw.set (R:=R) (as:=as) (H:=H1) (p:=R.x) (o:=(.ins t.aU R.dx [("walk",.ref R.wk),("sleep",sl),("arg",wv S.ar),("now",.int (later S.nw m)),("names",.ref R.nm),("tickets",.ref R.tk),("letters",.ref R.lt)])) (.inl (by simp[Rn.cells]));have eh2:=A1.tkp F2s _ _ eh1;have F2:=F1.trans F2s;clear F2s;change R2 _ (Z8 H1 R.x (.ins t.aU R.dx [("walk",.ref R.wk),("sleep",sl),("arg",wv S.ar),("now",.int (later S.nw m)),("names",.ref R.nm),("tickets",.ref R.tk),("letters",.ref R.lt)]));generalize Z8 H1 R.x (.ins t.aU R.dx [("walk",.ref R.wk),("sleep",sl),("arg",wv S.ar),("now",.int (later S.nw m)),("names",.ref R.nm),("tickets",.ref R.tk),("letters",.ref R.lt)])=G2 at *;refine hR2 _ _ ?_;clear hR2 R2;wp_walk using A2.ins,eh2;exact⟨R,as,sl,S.at' m,i,w,N,rfl,A2,F.at' ok.1,by omega,ok.2,hi,hn,fun sl3 c us H3 A4 hc ec hC F4=>q as sl3 c us H3 A4 (F2.free hc) (A.cX (F2.free hc)).2 ec hC (F2.trans F4)⟩
   | ltr m k w =>
    simp only[Hap.vs,Hap.ini,Hap.w,List.cons_append,List.nil_append] at eh1;have hs:(∃ k,S.sl=.aaB k)\/∃ ts,S.sl=.wait ts:=by
     cases es:S.sl with
     | aaB k=>exact .inl ⟨k,rfl⟩
     | wait ts=>exact .inr ⟨ts,rfl⟩
     | non=>rw[es] at hn;cases hn
     | _=>simp only[Pu.over,es] at ho;cases ho
    refine aI fun R2 hR2=>?_;wp_walk using A1.ins,eh1;have F1:=Fw.of (R:=R) (as:=as) K1;have A2:=A1.attr sl S.sl S.ar (later S.nw m) A1.slp;have F2s:=Fw.set (R:=R) (as:=as) (H:=H1) (p:=R.x) (o:=(.ins t.aU R.dx [("walk",.ref R.wk),("sleep",sl),("arg",wv S.ar),("now",.int (later S.nw m)),("names",.ref R.nm),("tickets",.ref R.tk),("letters",.ref R.lt)])) (.inl (by simp[Rn.cells]));have eh2:=A1.tkp F2s _ _ eh1;have F2:=F1.trans F2s;clear F2s;change R2 _ (Z8 H1 R.x (.ins t.aU R.dx [("walk",.ref R.wk),("sleep",sl),("arg",wv S.ar),("now",.int (later S.nw m)),("names",.ref R.nm),("tickets",.ref R.tk),("letters",.ref R.lt)]));generalize Z8 H1 R.x (.ins t.aU R.dx [("walk",.ref R.wk),("sleep",sl),("arg",wv S.ar),("now",.int (later S.nw m)),("names",.ref R.nm),("tickets",.ref R.tk),("letters",.ref R.lt)])=G2 at *;refine hR2 _ _ ?_;clear hR2 R2;wp_walk using A2.ins,eh2;exact⟨R,as,sl,S.at' m,k,w,N,rfl,A2,F.at' ok.1,by omega,ok.2,hs,fun as' sl3 c us H3 A4 hc nc ec hC F4=>q as' sl3 c us H3 A4 (F2.free hc) nc ec hC (F2.trans F4)⟩
def vW{t:Ad}(T:Tx w K mg t):bD P w K mg base CX0 1 t.jK t.jR ["sign"] TZ:=by
 refine T.oB.ok wV (fun vs H Q E h=>?_) (fun cdv A outer s H vs Q E hr h=>?_)
 ·obtain⟨c,rfl,_⟩:=h;rfl
 ·obtain⟨c,rfl,q⟩:=h;refine⟨_,(aF (aM (Bq Eo Eo aO (pv 0) aO))),?_⟩
  and_intros
  wp_walk;have e1:(([c]:List Nat) < ("a":Str).cps.toList)=(c < 97):=by
   show(([c]:List Nat) < [97])=_;have:=Ee c 97;rw[Bool.eq_iff_iff,decide_eq_true_eq,decide_eq_true_eq] at this;exact propext this
  have e2:(!decide (("z":Str).cps.toList < ([c]:List Nat)))=decide (c<=122):=by
   show(!decide (([122]:List Nat) < [c]))=_;rw[Ee,Bool.eq_iff_iff];simp
  rw[e2];simp only[e1];split
  ·next h =>
   rw[show decide (97<=c)=false by simp;omega,Bool.false_and] at q;exact q
  ·next h =>
   rw[show decide (97<=c)=true by simp;omega,Bool.true_and] at q;exact q
def L8{t:Ad}(T:Tx w K mg t):bD P w K mg base CX0 2 t.DE t.DX ["thing"] Hk:=by
 refine T.JL.ok Mu (fun vs H Q E h=>?_) (fun cdv A outer s H vs Q E hr h=>?_)
 ·obtain⟨x,rfl,_⟩:=h;rfl
 ·obtain⟨x,rfl,hx,q⟩:=h;refine⟨_,(aC (bF (PW.pt (xP (wA (oT (bM Lb rfl T.pJ B5 (aD (pv 0) (aD (Sk (v:=.ty "str") rfl T.Qo HN rfl) aB))))) (oU (wA (GU Dj Dj aE (bM eU rfl T.tX iF (aD (pv 0) aB)) (fM (v:=.int 6) rfl T.DO ⟨_,rfl⟩)))))) (aF (aM oR)) aX)
   (aF (aM (Pb (hE Md (pv 0) (fM (v:=.ref t.vD) rfl T.KZ rfl) (by with_unfolding_all rfl)) (Es (bM (uH rfl) rfl T.Qk HM (aD (kR (cl:=[]) (fr:=[]) (N:=["sign"]) rfl (fun _ _ h=>h) (c5.cX rfl rfl rfl rfl) (Pg (pv 0)) (fun C s H ex pn=>⟨hJ,(aN (vW T) (hr.mono (by omega)) rfl T.A7 T.oB.kp T.zT .nil pass0 (aD (pv 0) aB))⟩)) aB))))))),?_⟩
  and_intros
  have hB:Y0 x=(decide (1<=x.length)&&(decide (x.length<=6)&&(x.cps.toList.all (fun c=>decide (97<=c)&&decide (c<=122))&&!sW (.str x) GO))):=rfl;wp_walk;refine⟨by omega,?_⟩;by_cases c1:(1:Int)<=(x.length:Int)
  case neg =>
   rw[if_neg c1];wp_walk;rw[hB,show decide (1<=x.length)=false by simp;omega,Bool.false_and] at q;exact q _ Kp.refl
  rw[if_pos c1];wp_walk;by_cases c2:(x.length:Int)<=6
  case neg =>
   rw[if_neg c2];rw[hB,show decide (x.length<=6)=false by simp;omega,Bool.false_and,Bool.and_false] at q;exact q _ Kp.refl
  rw[if_pos c2];rw[show decide (1<=x.length)=true by simp;omega,show decide (x.length<=6)=true by simp;omega,Bool.true_and,Bool.true_and] at hB;refine⟨GO,T.Mp H,rfl,own17,?_⟩;by_cases c3:sW (.str x) GO=true
  ·rw[c3];wp_walk;rw[hB,c3,Bool.not_true,Bool.and_false] at q;exact q _ Kp.refl
  ·rw[show sW (.str x) GO=false from by simpa using c3];wp_walk;refine OE (fun i xs G=>xs=((x.cps.toList.take i).map fun c=>decide (97<=c)&&decide (c<=122)).map V.bl/\Kp [] H G) ⟨rfl,Kp.refl⟩ ?_ ?_ ?_
   ·rintro i xs G ⟨rfl,_⟩;simp only[List.length_map,List.length_take,Array.length_toList];have:x.cps.size=x.length:=rfl;omega
   ·rintro i c xs G hi hc ⟨rfl,k⟩;wp_walk using aY;refine⟨?_,k⟩;have e:x.cps.toList[i]?=some c:=by simpa using hc
    rw[List.take_add_one,e];simp
   ·rintro xs G ⟨rfl,k⟩ l hl;wp_walk;rw[show x.cps.toList.take x.cps.size=x.cps.toList by rw[<- Array.length_toList,List.take_length]];rw[hB,show sW (.str x) GO=false from by simpa using c3,Bool.not_false,Bool.and_true] at q;have:=q _ (k.trans (Kp.new (o:=.lst ((x.cps.toList.map fun c=>decide (97<=c)&&decide (c<=122)).map V.bl)) hl));rw[List.all_map];exact this
def GF{t:Ad}(T:Tx w K mg t):bD P w K mg base CX0 1 t.t8 t.uP ["sign"] TV:=by
 refine T.CV.ok Hd (fun vs H Q E h=>?_) (fun cdv A outer s H vs Q E hr h=>?_)
 ·obtain⟨c,rfl,_⟩:=h;rfl
 ·obtain⟨c,rfl,q⟩:=h;refine⟨_,(aF (aM (Bq Eo Eo aO (pv 0) aO))),?_⟩
  and_intros
  wp_walk;have e1:(([c]:List Nat) < ("0":Str).cps.toList)=(c < 48):=by
   show(([c]:List Nat) < [48])=_;have:=Ee c 48;rw[Bool.eq_iff_iff,decide_eq_true_eq,decide_eq_true_eq] at this;exact propext this
  have e2:(!decide (("9":Str).cps.toList < ([c]:List Nat)))=decide (c<=57):=by
   show(!decide (([57]:List Nat) < [c]))=_;rw[Ee,Bool.eq_iff_iff];simp
  rw[e2];simp only[e1];split
  ·next h =>
   rw[show decide (48<=c)=false by simp;omega,Bool.false_and] at q;exact q
  ·next h =>
   rw[show decide (48<=c)=true by simp;omega,Bool.true_and] at q;exact q
def fL{t:Ad}(T:Tx w K mg t):bD P w K mg base CX0 2 t.kW t.k5 ["word","least","greatest"] Km:=by
 refine T.fG.ok nF (fun vs H Q E h=>?_) (fun cdv A outer s H vs Q E hr h=>?_)
 ·obtain⟨x,lo,hi,rfl,_⟩:=h;rfl
 ·obtain⟨x,lo,hi,rfl,hx,hb,q⟩:=h;refine⟨_,(aC (bA (i:=3) nF.nd rfl (Or.inl rfl) (jX (oT (Bp PySem.F.plainAttrs_str PySem.F.slot_str_startswith PySem.F.type_str_startswith Cm (pv 0) (aD aO aB))) (eF Cw (pv 0) (eX aE) gL) (pv 0)))
   (aC (bF (wA (GU Dj Dj aE (bM eU rfl T.tX iF (aD (pv 3) aB)) (bM eU rfl T.tX iF (aD (bZ CP rfl T.Qo HN (aD (bM (pR rfl) rfl T.MP DN (aD (oS kD (pv 1)) (aD (pv 2) aB))) aB)) aB)))) (aF (aM oR)) aX)
   (aC (bF (PW.pt (xP (wA (oT (bM (uH rfl) rfl T.Qk HM (aD (kR (cl:=[]) (fr:=[]) (N:=["sign"]) rfl (fun _ _ h=>h) (c5.cX rfl rfl rfl rfl) (Pg (pv 3)) (fun C s H ex pn=>⟨hJ,(aN (GF T) (hr.mono (by omega)) rfl T.LN T.CV.kp T.KP .nil pass0 (aD (pv 0) aB))⟩)) aB)))) (oU (PW.pt (Bu (aR cB (bB bP (pv 3) aE (fun _ _=>rfl)) aO (nomark _)) (tS (aR Pa (pv 0) aO (nomark _)))))))) (aF (aM oR)) aX)
   (aF (aM (Bq Dj Dj (pv 1) (bZ CM rfl T.MN DM (aD (pv 0) aB)) (pv 2))))))),?_⟩
  and_intros
  wp_walk;have fin:∀(b:Bool) (G:Hp),Kp [] H G->b=L0 x lo hi->Q (.bl b) G:=fun b G k e=>by rw[e];exact q G k
  have hW:L0 x lo hi=(decide (1<=(nH x.cps.toList).length)&&decide ((nH x.cps.toList).length<=(Str.ofString (toString (if hi > -lo then hi else -lo))).length)&&(nH x.cps.toList).all (fun c=>decide (48<=c)&&decide (c<=57))&&!(decide ((nH x.cps.toList)[0]?=some 48)&&!decide (x=Str.ofString "0"))&&(match intText? x with|some v=>decide (lo<=v)&&decide (v<=hi)|none=>false)):=rfl;have M0:0<=(if hi > -lo then hi else -lo)/\(if hi > -lo then hi else -lo) < 10 ^ 40:=by split<;>omega
  have adV:(if hi > -lo then hi else -lo).natAbs.log2 < 1920:=glog M0.1 M0.2;have aeP:(Str.ofString (toString (if hi > -lo then hi else -lo))).length<=40:=glen M0.1 M0.2;have ef0:=Rz x;have ns:=OY (x:=x);have fl:=Fz x.cps.toList;generalize (if hi > -lo then hi else -lo)=M at *;generalize (Str.ofString (toString M)).length=L at *;generalize nH x.cps.toList=F at *;have lS:=Mw x (some 1) none;generalize Txt.slice x (some 1) none=z1 at *;apply RM z1 x
  ·exact fun _=>⟨by omega,by omega⟩
  ·exact fun _=>by omega
  intro z hz;have lz:z.length<=x.length:=by rw[hz];split<;>omega
  have ef:z.cps.toList=F:=by rw[hz,<- ef0];first|done|(split<;>rfl)
  have lf:(z).length=F.length:=by rw[<- ef,Array.length_toList];rfl
  by_cases c1:(1:Int)<=((z).length:Int)
  case neg =>
   rw[if_neg c1];exact fin false H Kp.refl (by rw[hW,decide_eq_false (show ¬ 1<=F.length by omega)];rfl)
  rw[if_pos c1];refine⟨adV,by omega,?_⟩;by_cases c2:((z).length:Int)<=(L:Int)
  case neg =>
   rw[if_neg c2];exact fin false H Kp.refl (by rw[hW,decide_eq_true (show 1<=F.length by omega),decide_eq_false (show ¬ F.length<=L by omega)];rfl)
  rw[if_pos c2];rw[decide_eq_true (show 1<=F.length by omega),decide_eq_true (show F.length<=L by omega),Bool.true_and,Bool.true_and] at hW;refine OE (fun i xs G=>xs=(((z).cps.toList.take i).map fun c=>decide (48<=c)&&decide (c<=57)).map V.bl/\Kp [] H G) ⟨rfl,Kp.refl⟩ ?_ ?_ ?_
  ·rintro i xs G ⟨rfl,_⟩;simp only[List.length_map,List.length_take,Array.length_toList];have:(z).cps.size=(z).length:=rfl;omega
  ·rintro i c xs G hi hc ⟨rfl,k⟩;wp_walk using aY;refine⟨?_,k⟩;have e:(z).cps.toList[i]?=some c:=by simpa using hc
   rw[List.take_add_one,e];simp
  ·rintro xs G ⟨rfl,k⟩ l hl;rw[show(z).cps.toList.take (z).cps.size=F by rw[<- Array.length_toList,List.take_length,ef]];have KN:=k.trans (q0D (o:=.lst ((F.map fun c=>decide (48<=c)&&decide (c<=57)).map V.bl)) hl);have el:Z8 G l (.lst ((F.map fun c=>decide (48<=c)&&decide (c<=57)).map V.bl)) l=some (.lst ((F.map fun c=>decide (48<=c)&&decide (c<=57)).map V.bl)):=aA;generalize Z8 G l (.lst ((F.map fun c=>decide (48<=c)&&decide (c<=57)).map V.bl))=G2 at *;wp_walk using el;rw[List.all_map,show((id∘fun c=>decide (48<=c)&&decide (c<=57)):Nat->Bool)=fun c=>decide (48<=c)&&decide (c<=57) from rfl];by_cases c3:F.all (fun c=>decide (48<=c)&&decide (c<=57))=true
   case neg =>
    rw[Bool.not_eq_true] at c3;rw[c3];wp_walk;exact fin false _ KN (by rw[hW,c3];rfl)
   rw[c3];rw[c3,Bool.true_and] at hW;wp_walk;refine⟨by omega,?_⟩;have ad:∀ c∈F,48<=c/\c<=57:=fun c hc=>by have:=List.all_eq_true.mp c3 c hc;simpa using this
   have lxx:x.length=x.cps.toList.length:=by rw[Array.length_toList];rfl
   have lx:x.length<=640:=by omega
   cases F with
   | nil=>simp at lf;omega
   | cons c0 r0 =>
    obtain⟨nv,hnv⟩:=ns ad (by simp) (by omega);rw[ef];wp_walk using hnv;have hz:((⟨#[c0]⟩:Str)=Str.ofString "0")=(c0=48):=propext ⟨fun z=>by have:=congrArg (fun y:Str=>y.cps.toList) z;rw[oK.2.2.2.1] at this;simpa using this,fun z=>by rw[z,oK.2.2.2.1]⟩;rw[hnv] at hW;simp only[List.getElem?_cons_zero,Option.some.injEq] at hW;have last:(!(decide (c0=48)&&!decide (x=Str.ofString "0")))=true->(if lo<=nv then Q (.bl (decide (nv<=hi))) G2 else Q (.bl false) G2):=fun ht=>by
     rw[ht,Bool.true_and] at hW;split
     ·next hlo=>exact fin _ _ KN (by rw[hW,decide_eq_true hlo,Bool.true_and])
     ·next hlo=>exact fin _ _ KN (by rw[hW,decide_eq_false hlo,Bool.false_and])
    simp only[hz];split
    ·next h0 =>
     split
     ·next hx0=>exact⟨lx,last (by simp[hx0])⟩
     ·next hx0=>exact fin false _ KN (by rw[hW];simp[h0,hx0])
    ·next h0=>exact⟨lx,last (by simp[h0])⟩
def GG{t:Ad}(T:Tx w K mg t):bD P w K mg base CX0 3 t.t9 t.uQ ["kind","word"] ZL:=by
 refine T.CW.ok He (fun vs H Q E h=>?_) (fun cdv A outer s H vs Q E hr h=>?_)
 ·obtain⟨k,v,rfl,_⟩:=h;rfl
 ·obtain⟨k,v,rfl,hf,q⟩:=h;refine⟨_,(aC (bF (aR cB (pv 0) aO (nomark _)) (aF (aM (aN (L8 T) (hr.mono (by omega)) rfl T.RX T.JL.kp T.QD .nil pass0 (aD (pv 1) aB)))) aX)
   (aC (bF (aR cB (pv 0) aO (nomark _)) (aF (aM (aN (fL T) (hr.mono (by omega)) rfl T.gZ T.fG.kp T.gY .nil pass0 (aD (pv 1) (aD aE (aD (fM (v:=.int 1000000000000) rfl T.m9 ⟨_,rfl⟩) aB)))))) aX)
   (aC (bF (aR cB (pv 0) aO (nomark _)) (aF (aM (aN (fL T) (hr.mono (by omega)) rfl T.gZ T.fG.kp T.gY .nil pass0 (aD (pv 1) (aD aE (aD (fM (v:=.int 1000000000) rfl T.xW ⟨_,rfl⟩) aB)))))) aX)
   (aC (bF (aR cB (pv 0) aO (nomark _)) (aF (aM (aN (fL T) (hr.mono (by omega)) rfl T.gZ T.fG.kp T.gY .nil pass0 (aD (pv 1) (aD (bI gJ aE (bI k7 aE aE)) (aD (bI gJ (bI k7 aE aE) aE) aB)))))) aX)
   (aF (aM (TQ (hE cB (pv 1) aO (nomark _)) (Es (aN (fL T) (hr.mono (by omega)) rfl T.gZ T.fG.kp T.gY .nil pass0 (aD (pv 1) (aD (oS kD (fM (v:=.int 1000000000) rfl T.gA ⟨_,rfl⟩)) (aD (fM (v:=.int 1000000000) rfl T.gA ⟨_,rfl⟩) aB)))))))))))),?_⟩
  and_intros
  have ln:=hf.wr.len;cases hf with
  | @mom m h0 h1 =>
   simp only[tw] at ln ⊢;wp_walk;refine⟨by omega,fun H1 K1=>?_⟩;rw[Bb h0 h1 (by decide) (by decide) (by omega)];exact q _ K1
  | @tic m h0 h1 =>
   simp only[tw] at ln ⊢;wp_walk;refine⟨by omega,fun H1 K1=>?_⟩;rw[Bb h0 h1 (by decide) (by decide) (by omega)];exact q _ K1
  | @nam x hx =>
   simp only[tw] at ln ⊢;wp_walk;refine⟨by omega,fun H1 K1=>?_⟩;rw[V8.mp hx];exact q _ K1
  | @wor w hw =>
   cases w with
   | none =>
    simp only[tw,wv] at ln ⊢;wp_walk;exact q _ Kp.refl
   | some n =>
    have hn:=hw n rfl;simp only[tw,wv] at ln ⊢;wp_walk using sX n ⟨by omega,by omega⟩;refine⟨by omega,fun H1 K1=>?_⟩;rw[Bb (by omega) (by omega) (by decide) (by decide) (by omega)];exact q _ K1
def O2{t:Ad}(T:Tx w K mg t):bD P w K mg base CX0 5 t.HG t.HY ["words","kinds"] (ZG K):=by
 refine T.Oe.ok Pz (fun vs H Q E h=>?_) (fun cdv A outer s H vs Q E hr h=>?_)
 ·obtain⟨a,f,r,rfl,_⟩:=h;rfl
 ·obtain⟨a,f,r,rfl,ea,hq,ok,q⟩:=h;refine⟨_,(aC (bF (PW.pt (xP (aR mN (pv 1) eD (nomark _)) (oU (aR Pa (bM eU rfl T.tX iF (aD (pv 0) aB)) (bI dJ (bM Ld rfl T.tX iF (aD (pv 1) aB)) aE) (nomark _))))) (aF (aM oR)) aX)
   (aF (aM (bM (uH rfl) rfl T.Qk HM (aD (GQ (cl:=[]) (fr:=[]) (N:=["kind","word"]) rfl (fun _ _ h=>h) (kJ.of (M:=["kind"]) (c5.cX rfl rfl rfl rfl) rfl (by decide) rfl) (Pj rfl T.Tc (aD (pv 1) (aD (eF Cw (pv 0) (eX aE) gL) aB))) (fun C s H ex pn=>⟨hJ,(aN (GG T) (hr.mono (by omega)) rfl T.LP T.CW.kp T.KQ .nil pass0 (aD (pv 0) (aD (pv 1) aB)))⟩)) aB))))),?_⟩
  and_intros
  have ea:H a=some (.lst (.str r.tag::(r.args.map tw).map V.str)):=ea;have lk:=ok.len;have fw:=ok.few;wp_walk using ea;refine⟨_,hq H,?_⟩;rw[if_pos (by simp;omega)];wp_walk;refine fun p1 h1=>?_;rw[Hs];have N1:=q0D (o:=.lst ((r.args.map tw).map V.str)) h1;have e1:Z8 H p1 (.lst ((r.args.map tw).map V.str)) p1=some (.lst ((r.args.map tw).map V.str)):=aA;generalize Z8 H p1 (.lst ((r.args.map tw).map V.str))=G1 at *;refine⟨true,false,⟨_,hq G1⟩,⟨_,dR.of e1⟩,?_⟩;refine OG (us:=r.kinds.map V.str) (vs:=(r.args.map tw).map V.str) (by simp;omega) (fun j xs G=>xs=List.replicate j (.bl true)/\j<=4/\Kp [] G1 G) ⟨rfl,by omega,Kp.refl⟩ ?_ ?_ ?_ ?_
  ·rintro j xs G ⟨rfl,hj,_⟩;simp only[List.length_replicate];omega
  ·rintro j xs G ⟨_,_,k⟩;exact⟨hq G,dR.of (k.at e1)⟩
  ·rintro j y y2 xs G hj hy hy2 ⟨rfl,_,k⟩ p2 h2;rw[List.length_map] at hj;obtain⟨kd,hk,rfl⟩:=oC hy;obtain⟨wd,hw,rfl⟩:=oC hy2;obtain⟨v,hv,rfl⟩:=oC hw;wp_walk using aY,Option.join_some;refine⟨kd,v,rfl,ok.fit j kd v hk hv,fun H3 K3=>?_⟩;wp_walk;exact⟨by rw[<- List.replicate_succ',List.replicate_succ],by omega,(k.trans (Kp.new h2)).trans K3⟩
  ·rintro xs G ⟨rfl,_,k⟩ l hl;have kn:=(N1.trans k).trans (q0D (o:=.lst (List.replicate (r.kinds.map V.str).length (.bl true))) hl);wp_walk using Mr,Sz;exact q _ kn
def IL{t:Ad}(T:Tx w K mg t):bD P w K mg base CX0 1 t.zM t.Ap ["kind","word"] ZK:=by
 refine T.FK.ok Jd (fun vs H Q E h=>?_) (fun cdv A outer s H vs Q E hr h=>?_)
 ·obtain⟨k,v,rfl,_⟩:=h;rfl
 ·obtain⟨k,v,rfl,hf,q⟩:=h;refine⟨_,(aC (bF (aR cB (pv 0) aO (nomark _)) (aF (aM (pv 1))) aX)
   (aF (aM (jX (aR cB (pv 1) aO (nomark _)) eD (bZ CM rfl T.MN DM (aD (pv 1) aB)))))),?_⟩
  and_intros
  have ln:=hf.wr.len;cases hf with
  | @mom m h0 h1 =>
   simp only[tw] at ln ⊢;wp_walk using sX m ⟨by omega,by omega⟩,lN m (by omega);exact⟨by omega,q⟩
  | @tic m h0 h1 =>
   simp only[tw] at ln ⊢;wp_walk using sX m ⟨by omega,by omega⟩,lN m (by omega);exact⟨by omega,q⟩
  | @nam x hx =>
   simp only[tw] at ln ⊢;wp_walk;exact q
  | @wor w hw =>
   cases w with
   | none =>
    simp only[tw,wv] at ln q ⊢;wp_walk;exact q
   | some n =>
    have hn:=hw n rfl;simp only[tw,wv] at ln q ⊢;wp_walk using sX n ⟨by omega,by omega⟩,lN n (by omega);exact⟨by omega,q⟩
def O4{t:Ad}(T:Tx w K mg t):bD P w K mg base CX0 3 t.HH t.H0 ["words","kinds"] (ZI K):=by
 refine T.Oh.ok PB (fun vs H Q E h=>?_) (fun cdv A outer s H vs Q E hr h=>?_)
 ·obtain⟨a,f,r,rfl,_⟩:=h;rfl
 ·obtain⟨a,f,r,rfl,ea,hq,ok,q⟩:=h;refine⟨_,(aF (aM (bZ eV rfl T.iS fE (aD (bI dJ (bL (aD (bB bP (pv 0) aE (fun _ _=>rfl)) aB)) (GQ (cl:=[]) (fr:=[]) (N:=["kind","word"]) rfl (fun _ _ h=>h) (kJ.of (M:=["kind"]) (c5.cX rfl rfl rfl rfl) rfl (by decide) rfl) (Pj rfl T.Tc (aD (pv 1) (aD (eF Cw (pv 0) (eX aE) gL) aB))) (fun C s H ex pn=>⟨hJ,(aN (IL T) (hr.mono (by omega)) rfl T.OS T.FK.kp T.M8 .nil pass0 (aD (pv 0) (aD (pv 1) aB)))⟩))) aB)))),?_⟩
  and_intros
  have ea:H a=some (.lst (.str r.tag::(r.args.map tw).map V.str)):=ea;have lk:=ok.len;have fw:=ok.few;wp_walk using ea;refine fun p0 h0=>?_;have N0:=q0D (o:=.lst [.str r.tag]) h0;have ea0:=N0.at ea;have e0:Z8 H p0 (.lst [.str r.tag]) p0=some (.lst [.str r.tag]):=aA;generalize Z8 H p0 (.lst [.str r.tag])=G0 at *;wp_walk using ea0;refine fun p1 h1=>?_;rw[Hs];have N1:=q0D (o:=.lst ((r.args.map tw).map V.str)) h1;have e1:Z8 G0 p1 (.lst ((r.args.map tw).map V.str)) p1=some (.lst ((r.args.map tw).map V.str)):=aA;have e01:=N1.at e0;generalize Z8 G0 p1 (.lst ((r.args.map tw).map V.str))=G1 at *;refine⟨true,false,⟨_,hq G1⟩,⟨_,dR.of e1⟩,?_⟩;refine OG (us:=r.kinds.map V.str) (vs:=(r.args.map tw).map V.str) (by simp;omega) (fun j xs G=>xs=r.args.take j/\Kp [] G1 G) ⟨rfl,Kp.refl⟩ ?_ ?_ ?_ ?_
  ·rintro j xs G ⟨rfl,_⟩;simp only[List.length_take];omega
  ·rintro j xs G ⟨_,k⟩;exact⟨hq G,dR.of (k.at e1)⟩
  ·rintro j y y2 xs G hj hy hy2 ⟨rfl,k⟩ p2 h2;obtain⟨kd,hk,rfl⟩:=oC hy;obtain⟨wd,hw,rfl⟩:=oC hy2;obtain⟨v,hv,rfl⟩:=oC hw;wp_walk using aY,Option.join_some;refine⟨kd,v,rfl,ok.fit j kd v hk hv,?_⟩;exact⟨(mW hv).symm,k.trans (Kp.new h2)⟩
  ·rintro xs G ⟨rfl,k⟩ l hl;rw[show(r.kinds.map V.str).length=r.args.length by simp;omega,List.take_length];have N2:=k.trans (q0D (o:=.lst r.args) hl);have e02:=N2.at e01;have e2:Z8 G l (.lst r.args) l=some (.lst r.args):=aA;generalize Z8 G l (.lst r.args)=G2 at *;wp_walk using e02,e2;refine⟨by omega,fun p3 h3=>?_⟩;have N3:=q0D (o:=.lst (.str r.tag::r.args)) h3;wp_walk;refine fun p4 h4=>?_;exact q _ _ ⟨p4,rfl,aA⟩ ((((N0.trans N1).trans N2).trans N3).trans (Kp.new h4))
def GH{t:Ad}(T:Tx w K mg t):bD P w K mg base CX0 8 t.uC t.uV ["text","forms"] (ZJ K):=by
 refine T.CZ.ok fW (fun vs H Q E h=>?_) (fun cdv A outer s H vs Q E hr h=>?_)
 ·obtain⟨fm,kvs,rs,tl,rfl,_⟩:=h;rfl
 ·obtain⟨fm,kvs,rs,tl,rfl,ef,hr0,ht,hl,hz,q⟩:=h;have hu:=nA hr;refine⟨_,(aC (bA (i:=2) fW.nd rfl (Or.inl rfl) (bL aB))
   (aC (Bs PassesOwn.never rfl (Sn rfl T.r9 (aD (eF Cw (Bp PySem.F.plainAttrs_str PySem.F.slot_str_split PySem.F.type_str_split Gk (pv 0) (aD aO aB)) gL (eX (oS kD aE))) aB)) (IU rfl (lT (gK (i:=3) fW.nd rfl (Or.inl rfl)) (lT (gK (i:=4) fW.nd rfl (Or.inl rfl)) Eu))) (aC (bA (i:=5) fW.nd rfl (Or.inl rfl) (Bp PySem.F.plainAttrs_str PySem.F.slot_str_split PySem.F.type_str_split Gk (pv 4) (aD aO aB)))
   (aC (bA (i:=6) fW.nd rfl (Or.inl rfl) (Ep hu (pv 1) (bB bP (pv 5) aE (fun _ _=>rfl)) ⟨rfl,rfl,rfl,rfl⟩))
   (aC (bF (wA (oT (aN (O2 T) (hr.mono (by omega)) rfl T.V5 T.Oe.kp T.Uv .nil pass0 (aD (pv 5) (aD (pv 6) aB))))) (aF Pm) aX)
   (aF (cA (tO (pv 2) (aN (O4 T) (hr.mono (by omega)) rfl T.V6 T.Oh.kp T.Uw .nil pass0 (aD (pv 5) (aD (pv 6) aB))))))))))
   (aF (aM (pv 2))))),?_⟩
  and_intros
  have okr:∀ r∈rs,r.ok:=fun r h=>(hr0 r h).1;have lt:=GY okr;wp_walk;refine fun rw hrw=>?_;have N0:=q0D (o:=.lst []) hrw;have ef0:=N0.at ef;have er0:Z8 H rw (.lst []) rw=some (.lst []):=aA;generalize Z8 H rw (.lst [])=G0 at *;refine⟨by decide +kernel,by rw[EX];omega,fun l1 h1=>?_⟩;rw[Bw okr ht];have N1:=q0D (o:=.lst ((rs.map Row.txt++[tl]).map V.str)) h1;have e1:Z8 G0 l1 (.lst ((rs.map Row.txt++[tl]).map V.str)) l1=some (.lst ((rs.map Row.txt++[tl]).map V.str)):=aA;have ef1:=N1.at ef0;have er1:=N1.at er0;generalize Z8 G0 l1 (.lst ((rs.map Row.txt++[tl]).map V.str))=G1 at *;wp_walk using e1;refine fun l2 h2=>?_;rw[Lj V.str (rs.map Row.txt) tl];have N2:=q0D (o:=.lst ((rs.map Row.txt).map V.str)) h2;have e2:Z8 G1 l2 (.lst ((rs.map Row.txt).map V.str)) l2=some (.lst ((rs.map Row.txt).map V.str)):=aA;have ef2:=N2.at ef1;have er2:=N2.at er1;have N02:=(N0.trans N1).trans N2;generalize Z8 G1 l2 (.lst ((rs.map Row.txt).map V.str))=G2 at *;refine⟨⟨_,dR.of e2⟩,?_⟩;have nl:l2≠rw:=Gq er1 h2;have nf:fm≠rw:=aL ef hrw;obtain⟨Pv,hPv⟩:∃ Pv:Nat->St->Hp->Prop,∀ i σ G,Pv i σ G = ∃(v1 v2 v3 v4:Option V) (us:List V),σ=[some (.str (iB rs++tl)),some (.ref fm),some (.ref rw),v1,v2,v3,v4]/\G rw=some (.lst us)/\gP G us (rs.take i)/\Kp [rw] G2 G:=⟨_,fun _ _ _=>rfl⟩;refine Of (xs:=(rs.map Row.txt).map V.str) Pv ?_ ?_ ?_ ?_
  ·rw[hPv];exact⟨none,none,none,none,[],rfl,er2,.nil,Kp.refl⟩
  ·intro i σ G _ hG;rw[hPv] at hG;obtain⟨_,_,_,_,_,_,_,_,k⟩:=hG;exact dR.of (k.at1 e2 nl)
  ·intro i y σ G hi hG p3 h3;rw[hPv] at hG;obtain⟨v1,v2,v3,v4,us,rfl,er,hU,k⟩:=hG;obtain⟨tx,hx,rfl⟩:=oC hi;obtain⟨r,hr,rfl⟩:=oC hx;have hm:=List.mem_of_getElem? hr;obtain⟨ok,f,hv,hq⟩:=hr0 r hm;have back:∀(w1 w2 w3 w4:Option V) (us':List V) (G':Hp),G' rw=some (.lst us')->gP G' us' (rs.take (i+1))->Kp [rw] G G'->Pv (i+1) [some (.str (iB rs++tl)),some (.ref fm),some (.ref rw),w1,w2,w3,w4] G':=fun w1 w2 w3 w4 us' G' a b c=>by
    rw[hPv];exact⟨_,_,_,_,us',rfl,a,b,k.trans c⟩
   clear hPv;have ef3:=k.at1 ef2 nf;wp_walk;have lx:=Row.KE ok;refine⟨[.int i,.str r.txt],fA.of aA,rfl,?_⟩;have N3:=q0D (o:=.tup [.int i,.str r.txt]) h3;have ef4:=N3.at ef3;have er4:=N3.at er;have U4:=hU.kp N3;generalize Z8 G p3 (.tup [.int i,.str r.txt])=G4 at *;wp_walk;refine⟨by decide +kernel,by omega,fun l4 h4=>?_⟩;rw[Row.split ok];have N4:=q0D (o:=.lst (r.ws.map V.str)) h4;have ef5:=N4.at ef4;have er5:=N4.at er4;have U5:=U4.kp N4;have e5:Z8 G4 l4 (.lst (r.ws.map V.str)) l4=some (.lst (r.ws.map V.str)):=aA;have e5':Z8 G4 l4 (.lst (r.ws.map V.str)) l4=some (.lst (.str r.tag::(r.args.map tw).map V.str)):=aA;generalize Z8 G4 l4 (.lst (r.ws.map V.str))=G5 at *;wp_walk using ef5,e5',hv,Option.getD_some;refine⟨l4,f,r,rfl,e5,hq,ok,fun H6 K6=>?_⟩;have er6:=K6.at er5;have U6:=U5.kp K6;wp_walk using er6,hv,Option.getD_some;refine⟨l4,f,r,rfl,K6.at e5,hq,ok,fun v H7 hA K7=>?_⟩;have er7:=K7.at er6;have U7:=U6.kp K7;have lu:=hU.len;rw[List.length_take] at lu;wp_walk using er7;refine⟨by omega,back _ _ _ _ (us++[v]) _ aA ?_ ?_⟩
   ·rw[mW hr];have kt:∀ a ys,H7 a=some (.tup ys)->Z8 H7 rw (.lst (us++[v])) a=some (.tup ys):=fun a ys h=>by
     rw[aG (dO h er7 (by intro z;cases z))];exact h
    obtain⟨b,e,hb⟩:=hA;exact(U7.kt kt).snoc ⟨b,e,kt _ _ hb⟩
   ·exact(((Kp.of N3.same).trans (Kp.of N4.same)).trans ((Kp.of K6.same).trans (Kp.of K7.same))).trans (Kp.set (by simp))
  ·intro σ G hG;rw[hPv] at hG;obtain⟨v1,v2,v3,v4,us,rfl,er,hU,k⟩:=hG;rw[show((rs.map Row.txt).map V.str).length=rs.length by simp,List.take_length] at hU;wp_walk;exact q rw us G hrw er hU fun c o ec _=>k.at1 (N02.at ec) (aL ec hrw)
def II{t:Ad}(T:Tx w K mg t):bD P w K mg base CX0 9 t.zJ t.Al ["text"] ZH:=by
 refine T.FH.ok Ja (fun vs H Q E h=>?_) (fun cdv A outer s H vs Q E hr h=>?_)
 ·obtain⟨hs,tl,rfl,_⟩:=h;rfl
 ·obtain⟨hs,tl,rfl,ok,ht,hl,hz,q⟩:=h;refine⟨_,(aF (aM (aN (GH T) (hr.mono (by omega)) rfl T.LQ T.CZ.kp T.KR .nil pass0 (aD (pv 0) (aD (bZ ((HQ T.Ei)) rfl T.Ql QF (aD (fM (v:=.ref t.oE) rfl T.Ff rfl) aB)) aB))))),?_⟩
  and_intros
  wp_walk;refine fun fm hfm=>⟨fm,_,hs.map Hap.rw,tl,by rw[AQ],aA,fun r hr=>?_,ht,hl,by simpa using hz,fun p us H' hp e hA k=>q p us H' (cQ hp) e (RG hA) ((Kp.new hfm).trans k)⟩;obtain⟨h,hh,rfl⟩:=List.mem_map.mp hr;refine⟨Hap.Kj (ok h hh),?_⟩;rw[S8];cases h with
  | beg m w=>exact⟨_,rfl,T.Ex⟩
  | don m t w=>exact⟨_,rfl,T.Ey⟩
  | ltr m k w=>exact⟨_,rfl,T.Ez⟩
def GI{t:Ad}(T:Tx w K mg t):bD P w K mg base CX0 18 t.uD t.uW ["program","happenings"] (SJ ⟨t.aU,t.aV,t.aJ⟩):=by
 refine T.C0.ok pF (fun vs H Q E h=>?_) (fun cdv A outer s H vs Q E hr h=>?_)
 ·obtain⟨pg,hl,us,hv,b,hs,rfl,_⟩:=h;rfl
 ·obtain⟨pg,hl,us,hv,b,hs,rfl,ep,hsP,gb,db,eh,hH,D4,l1,q⟩:=h;refine⟨_,(aC (bA (i:=2) pF.nd rfl (Or.inr rfl) (Er T.J0 (Be T) (hr.mono (by omega)) rfl T.Yd T.E7 .nil pass0 (aD (pv 0) aB)))
   (aC (jZ (i:=3) (fr:=[2]) (N:=["happening","run"]) rfl (fun _ _ h=>h) (c5.free rfl rfl rfl rfl rfl (fun _ _ h=>h) rfl (by decide) rfl (fun j hj=>by rw[show j=2 by simpa using hj];exact⟨_,rfl,rfl,.inl rfl⟩)) (i9 (pv 1)) (fun C s H ex pn=>⟨hJ,(bK (pv 1) T.aW T.vK (rG T) (hr.mono (by omega)) T.zO .nil pass0 (aD (pv 0) aB))⟩) pF.nd rfl (Or.inl rfl))
   (aF (aM (bH (aD (pv 2) (aD (pv 3) aB))))))),?_⟩
  and_intros
  refine aI fun R1 hR1=>?_;have lu:=hsP.len;wp_walk using ep;refine OM ep hsP fun R sl G0 RA K0 NR=>?_;have eh0:=K0.at eh;have hH0:=hH.kt (aP.nil K0);have lh:=hH.len;have ehH:=eh;clear lu ep hsP eh hH;refine hR1 _ _ ?_;clear hR1 R1;refine aI fun R2 hR2=>?_;wp_walk using eh0;refine⟨⟨_,dR.of eh0⟩,?_⟩;obtain⟨Pv,hPv⟩:∃ Pv:Nat->List V->Hp->Prop,∀ i xs G,Pv i xs G = ∃(as:List Addr) (sl:V) (rs:List Addr),xs=rs.map V.ref/\aZ ⟨t.aU,t.aV,t.aJ⟩ G R as sl (takes (dD b) (hs.take i)).1/\Fit true (takes (dD b) (hs.take i)).1 (302 * i)/\(takes (dD b) (hs.take i)).1.sl.isN=false/\eN G rs (takes (dD b) (hs.take i)).2/\rs.Nodup/\rs.length<=i/\(∀ a∈rs,a∉R.cells/\a∉as/\H a=none)/\(∀ a,a∈R.cells\/a∈as->H a=none)/\Kp [] H G/\G hl=some (.lst hv)/\cP G hv hs:=⟨_,fun _ _ _=>rfl⟩;have NR0:∀ a,a∈R.cells\/a∈([]:List Addr)->H a=none:=fun a ha=>by
   rcases ha with ha|ha
   ·exact NR a ha
   ·simp at ha
  refine kM (ys:=hv) Pv ?_ ?_ ?_ ?_ ?_
  ·rw[hPv];exact⟨[],sl,[],rfl,RA,JM gb db,rfl,.nil,.nil,Nat.le_refl _,by simp,NR0,K0,eh0,hH0⟩
  ·intro i xs G h;rw[hPv] at h;obtain⟨_,_,rs,rfl,_,_,_,hr,_,hl,_⟩:=h;rw[List.length_map,hr.len,lV,List.length_take];omega
  ·intro i xs G h;rw[hPv] at h;obtain⟨_,_,_,_,_,_,_,_,_,_,_,_,_,e,_⟩:=h;exact dR.of e
  ·intro i y xs G hi ey h;rw[hPv] at h;obtain⟨as,sl,rs,rfl,RA,FA,hN,hr,nd,lr,hf,hR,KG,eG,hG⟩:=h;obtain⟨x,ex,hx⟩:=hG.kY ey;have es:takes (dD b) (hs.take (i+1))=(((takes (dD b) (hs.take i)).1.take x).1,(takes (dD b) (hs.take i)).2++[((takes (dD b) (hs.take i)).1.take x).2]):=by rw[List.take_add_one,ex,Option.toList_some,kB]
   have fx:=D4 x (List.mem_of_getElem? ex);generalize takes (dD b) (hs.take i)=Z at *;obtain⟨S,css⟩:=Z;have il:i < hs.length:=(List.getElem?_eq_some_iff.mp ex).1;wp_walk using aY,Option.join_some,RA.ins;refine⟨R,as,_,S,y,x,302 * i,rfl,RA,FA,by omega,hN,hx,fx,fun as' sl2 c uc G2 A2 hc nc ec hC F2=>?_⟩;have T2:=RA.tkp F2;have FA2:=FA.EZ x fx.1 fx.2 (fun j hj=>by
    have:=RA.tk.lt j hj;have:=FA.md;exact eO (by omega) (by simp only at *;omega)) (by omega)
   have hcH:=KG.mX hc;have ncf:=RA.cX hc;show Pv (i+1) _ _;rw[hPv,es];refine⟨as',sl2,rs++[c],by simp,A2,FA2.more (by omega),BU hN x,(hr.keep (fun a ha o e=>F2.kp a o e (hf a ha).1 (hf a ha).2.1) T2).snoc ec hC,?_,by simp;omega,fun a ha=>?_,fun a ha=>?_,F2.OC KG hR,F2.kp _ _ eG ?_ ?_,hG.kt T2⟩
   ·rw[List.nodup_append];refine⟨nd,by simp,fun a ha y hy=>?_⟩;rw[show y=c by simpa using hy];intro z;obtain⟨o,e⟩:=hr.there a ha;rw[z,hc] at e;cases e
   ·rcases List.mem_append.mp ha with ha|ha
    ·refine⟨(hf a ha).1,fun z=>?_,(hf a ha).2.2⟩;rcases F2.new a z with y|y
     ·exact(hf a ha).2.1 y
     ·obtain⟨o,e⟩:=hr.there a ha;rw[y] at e;cases e
    ·rw[show a=c by simpa using ha];exact⟨ncf.1,nc,hcH⟩
   ·rcases ha with ha|ha
    ·exact hR a (.inl ha)
    ·rcases F2.new a ha with z|z
     ·exact hR a (.inr z)
     ·exact KG.mX z
   ·exact fun z=>by rw[hR hl (.inl z)] at ehH;cases ehH
   ·exact fun z=>by rw[hR hl (.inr z)] at ehH;cases ehH
  intro xs G h cl hcl;rw[hPv] at h;obtain⟨as,sl,rs,rfl,RA,FA,hN,hr,nd,lr,hf,hR,KG,eG,hG⟩:=h;rw[lh,List.take_length] at RA FA hN hr;clear hPv;have ncl:=RA.cX hcl;have acB:=KG.mX hcl;have N1:=q0D (o:=.lst (rs.map V.ref)) hcl;have ecl:Z8 G cl (.lst (rs.map V.ref)) cl=some (.lst (rs.map V.ref)):=aA;have hrc:∀ a∈rs,a≠cl:=fun a ha z=>by
   obtain⟨o,e⟩:=hr.there a ha;rw[z,hcl] at e;cases e
  replace hr:=hr.keep (fun a _ o e=>N1.at e) (aP.nil N1);replace RA:=RA.kp N1;replace KG:=KG.trans N1;generalize Z8 G cl (.lst (rs.map V.ref))=G2 at *;clear N1 hcl eG hG;refine hR2 _ _ ?_;clear hR2 R2;wp_walk;intro t0 ht;have N2:=q0D (o:=.tup [.ref R.x,.ref cl]) ht;exact q t0 R as sl cl rs _ aA (RA.kp N2) FA hN (N2.at ecl) (hr.keep (fun a _ o e=>N2.at e) (aP.nil N2)) nd (fun a ha=>⟨(hf a ha).1,(hf a ha).2.1,(hf a ha).2.2,hrc a ha⟩) ncl hR acB (KG.trans N2)
def En{t:Ad}(T:Tx w K mg t):bD P w K mg base CX0 2 t.qT t.q9 ["jar"] Dp:=by
 refine T.AE.ok EL (fun vs H Q E h=>?_) (fun cdv A outer s H vs Q E hr h=>?_)
 ·obtain⟨r,rfl,_⟩:=h;rfl
 ·obtain⟨r,rfl,hR,q⟩:=h;refine⟨_,(aF (aM (bB bP (bL (aD (aN (bG T) (hr.mono (by omega)) rfl T.bW T.bR.kp T.bV .nil pass0 (aD (pv 0) (aD aE aB))) (aD (bI gJ (bI k7 aE aE) (aN (bG T) (hr.mono (by omega)) rfl T.bW T.bR.kp T.bV .nil pass0 (aD (pv 0) (aD aE aB)))) (aD (aN (bG T) (hr.mono (by omega)) rfl T.bW T.bR.kp T.bV .nil pass0 (aD (pv 0) (aD (bI dJ (bI k7 aE aE) aE) aB))) aB)))) (aN (bG T) (hr.mono (by omega)) rfl T.bW T.bR.kp T.bV .nil pass0 (aD (pv 0) (aD aE aB))) (fun _ _=>rfl)))),?_⟩
  and_intros
  wp_walk;refine⟨hR,fun g1 H1 a1 b1 R1 K1=>⟨R1,fun g2 H2 a2 b2 R2 K2=>⟨R2,fun g3 H3 a3 b3 R3 K3 p hp=>⟨R3.new hp,fun g4 H4 a4 b4 R4 K4=>?_⟩⟩⟩⟩;wp_walk using K4.TL R3 hp;refine k8 a4 b4 fun v hv=>?_;wp_walk;have K:=((K1.trans K2).trans K3).trans ((Kp.new hp).trans K4);simp only[List.mem_cons,List.not_mem_nil,or_false] at hv;rcases hv with rfl|rfl|rfl<;>exact q _ _ (by omega) (by omega) R4 K
def yI{t:Ad}(T:Tx w K mg t):bD P w K mg base CX0 3 t.kX t.k6 ["jar"] WB:=by
 refine T.qJ.ok iR (fun vs H Q E h=>?_) (fun cdv A outer s H vs Q E hr h=>?_)
 ·obtain⟨r,rfl,_⟩:=h;rfl
 ·obtain⟨r,rfl,hR,q⟩:=h;refine⟨_,(aC (bA (i:=1) iR.nd rfl (Or.inl rfl) (aN (En T) (hr.mono (by omega)) rfl T.Iy T.AE.kp T.HL .nil pass0 (aD (pv 0) aB)))
   (aC (bA (i:=2) iR.nd rfl (Or.inl rfl) (aN (bG T) (hr.mono (by omega)) rfl T.bW T.bR.kp T.bV .nil pass0 (aD (pv 0) (aD aE aB))))
   (aC (bF (aR cB (pv 2) aE (nomark _)) (aF (aM (bH (aD aO (aD (pv 1) (aD (aN (kP T) (hr.mono (by omega)) rfl T.pX T.lL.kp T.pP .nil pass0 (aD (pv 0) aB)) aB)))))) aX)
   (aC (bF (aR qO (pv 2) aE (nomark _)) (aF (aM (bH (aD aO (aD (pv 1) (aD (aN (bG T) (hr.mono (by omega)) rfl T.bW T.bR.kp T.bV .nil pass0 (aD (pv 0) (aD aE aB))) (aD (aN (kP T) (hr.mono (by omega)) rfl T.pX T.lL.kp T.pP .nil pass0 (aD (pv 0) aB)) aB))))))) aX)
   (aF (aM (bH (aD aO (aD (pv 1) (aD (bB bP (bL (aD aO (aD aO (aD aO aB)))) (aN (bG T) (hr.mono (by omega)) rfl T.bW T.bR.kp T.bV .nil pass0 (aD (pv 0) (aD aE aB))) (fun _ _=>rfl)) (aD (aN (kP T) (hr.mono (by omega)) rfl T.pX T.lL.kp T.pP .nil pass0 (aD (pv 0) aB)) aB))))))))))),?_⟩
  and_intros
  wp_walk;refine⟨hR,fun m H1 m0 m1 R1 K1=>⟨R1,fun g H2 a2 b2 R2 K2=>?_⟩⟩;split
  ·wp_walk;refine⟨R2,fun w H3 hw R3 K3 p hp=>?_⟩;exact q _ (.beg m w) _ ⟨p,rfl,aA⟩ ⟨m0,m1⟩ hw (fun _ _ _ z=>by cases z) (fun _ _ _ z=>by cases z) (R3.new hp) (((K1.trans K2).trans K3).trans (Kp.new hp))
  split
  ·wp_walk;refine⟨R2,fun g3 H3 a3 b3 R3 K3=>⟨R3,fun w H4 hw R4 K4 p hp=>?_⟩⟩;exact q _ (.don m g3 w) _ ⟨p,rfl,aA⟩ ⟨m0,m1⟩ hw (fun _ _ _ z=>by cases z) (fun _ _ _ z=>by cases z;exact⟨a3,b3⟩) (R4.new hp) (((K1.trans K2).trans (K3.trans K4)).trans (Kp.new hp))
  ·wp_walk;refine fun p1 h1=>⟨R2.new h1,fun g3 H3 a3 b3 R3 K3=>?_⟩;wp_walk using made1J K3 R2 h1;refine k8 a3 b3 fun y hy=>?_;wp_walk;obtain⟨z,rfl,hz⟩:∃ z:Str,y=.str z/\z∈KY3:=by simp only[List.mem_cons,List.not_mem_nil,or_false] at hy;rcases hy with rfl|rfl|rfl<;>exact⟨_,rfl,by simp[KY3]⟩
   refine⟨R3,fun w H4 hw R4 K4 p hp=>?_⟩;exact q _ (.ltr m z w) _ ⟨p,rfl,aA⟩ ⟨m0,m1⟩ hw (fun _ _ _ e=>by cases e;exact hz) (fun _ _ _ z=>by cases z) (R4.new hp) ((((K1.trans K2).trans (Kp.new h1)).trans (K3.trans K4)).trans (Kp.new hp))
def El{t:Ad}(T:Tx w K mg t):bD P w K mg base CX0 1 t.qR t.qY ["self"] (SO t.aV):=by
 refine T.Ie.ok EJ (fun vs H Q E h=>?_) (fun cdv A outer s H vs Q E hr h=>?_)
 ·obtain⟨wk,wx,lb,ln,st,rfl,_⟩:=h;rfl
 ·obtain⟨wk,wx,lb,ln,st,rfl,W,q⟩:=h;refine⟨_,(aF (aM (bZ eV rfl T.iS fE (aD (aQ T.cS T.eK (pv 0)) aB)))),?_⟩
  and_intros
  wp_walk using W.ins,W.nu;exact q
def qE{t:Ad}(T:Tx w K mg t):bD P w K mg base CX0 1 t.fZ t.gC ["self"] (MB t.aJ):=by
 refine T.sP.ok qF (fun vs H Q E h=>?_) (fun cdv A outer s H vs Q E hr h=>?_)
 ·obtain⟨tk,tx,dp,da,made,pend,ans,rfl,_⟩:=h;rfl
 ·obtain⟨tk,tx,dp,da,made,pend,ans,rfl,R,h64,q⟩:=h;refine⟨_,(aF (aM (bM (HU rfl) rfl T.qC pQ (aD (aQ T.bE T.fV (pv 0)) aB)))),?_⟩
  and_intros
  wp_walk using R.ins,R.hp,Mh;exact⟨R.asc,fun l ns' hl hp hs=>by rw[xR hp hs R.asc];exact q l hl⟩
def tJ{t:Ad}(T:Tx w K mg t):bD P w K mg base CX0 2 t.iD t.iG ["self"] (SN ⟨t.aU,t.aV,t.aJ⟩):=by
 refine T.xZ.ok tT (fun vs H Q E h=>?_) (fun cdv A outer s H vs Q E hr h=>?_)
 ·obtain⟨R,as,sl,S,rfl,_⟩:=h;rfl
 ·obtain⟨R,as,sl,S,rfl,A,h64,q⟩:=h;refine⟨_,(aF (aM (bX (aQ T.aW T.cN (pv 0)) T.bE T.rC (qE T) (hr.mono (by omega)) T.sI .nil pass0))),?_⟩
  and_intros
  wp_walk using A.ins,A.tk.ins;exact⟨R.tk,R.tx,R.dp,R.da,_,_,_,rfl,A.tk,h64,q⟩
def xN{t:Ad}(T:Tx w K mg t):bD P w K mg base CX0 3 t.t4 t.uL ["self"] (SQ ⟨t.aU,t.aV,t.aJ⟩):=by
 refine T.Lr.ok pC (fun vs H Q E h=>?_) (fun cdv A outer s H vs Q E hr h=>?_)
 ·obtain⟨R,as,sl,S,rfl,_⟩:=h;rfl
 ·obtain⟨R,as,sl,S,rfl,A,hn,b1,b2,b3,b4,b5,q⟩:=h;have hu:=nA hr;refine⟨_,(aC (bF (aR Dk (bB bP (aQ T.aW T.c9 (pv 0)) aE (fun _ _=>rfl)) (bH (aD aO (aD aO aB))) (by with_unfolding_all rfl)) (aF (aM (aQ T.aW T.c9 (pv 0)))) aX)
   (aC (jZ (i:=1) (fr:=[0]) (N:=["name","self"]) rfl (fun _ _ h=>h) (c5.free rfl rfl rfl rfl rfl (fun _ _ h=>h) rfl (by decide) rfl (fun j hj=>by rw[show j=0 by simpa using hj];exact⟨_,rfl,rfl,.inl rfl⟩)) (i9 (bM (zW rfl) rfl T.qC pQ (aD (aQ T.aW T.fJ (pv 0)) aB))) (fun C s H ex pn=>⟨tR (aR Mb (tP hu (aQ T.aW T.fJ (pv 1)) (pv 0) (fun _ _=>rfl)) eD (nomark _)),(bH (aD (pv 0) (aD (tP hu (aQ T.aW T.fJ (pv 1)) (pv 0) (fun _ _=>rfl)) aB)))⟩) pC.nd rfl (Or.inl rfl))
   (aC (jZ (i:=2) (fr:=[0]) (N:=["key","self"]) rfl (fun _ _ h=>h) (c5.free rfl rfl rfl rfl rfl (fun _ _ h=>h) rfl (by decide) rfl (fun j hj=>by rw[show j=0 by simpa using hj];exact⟨_,rfl,rfl,.inl rfl⟩)) (i9 (bM (zW rfl) rfl T.qC pQ (aD (aQ T.aW T.fU (pv 0)) aB))) (fun C s H ex pn=>⟨tR (zA (tP hu (aQ T.aW T.fU (pv 1)) (pv 0) (fun _ _=>rfl)) (fun _=>rfl)),(bH (aD (pv 0) (aD (bZ eV rfl T.iS fE (aD (tP hu (aQ T.aW T.fU (pv 1)) (pv 0) (fun _ _=>rfl)) aB)) aB)))⟩) pC.nd rfl (Or.inl rfl))
   (aF (aM (bH (aD (aQ T.aW T.c9 (pv 0)) (aD (bX (aQ T.aW T.jU (pv 0)) T.cS T.Gg (El T) (hr.mono (by omega)) T.HJ .nil pass0) (aD (aQ T.aW T.Df (pv 0)) (aD (aQ T.aW T.tG (pv 0)) (aD (bZ eV rfl T.iS fE (aD (pv 1) aB)) (aD (aQ T.bE T.vN (aQ T.aW T.cN (pv 0))) (aD (bZ eV rfl T.iS fE (aD (bX (pv 0) T.aW T.vJ (tJ T) (hr.mono (by omega)) T.xV .nil pass0) aB)) (aD (bZ (HV rfl) rfl T.iS fE (aD (Pe (aQ T.bE T.fT (aQ T.aW T.cN (pv 0)))) aB)) (aD (bZ eV rfl T.iS fE (aD (pv 2) aB)) aB))))))))))))))),?_⟩
  and_intros
  refine aI fun R1 hR1=>?_;obtain⟨ps,s0,r0,rfl,ep,hin⟩:=A.slp.word hn;refine qV fun RI hRI=>?_;wp_walk using A.ins,ep;refine fun p1 m1=>⟨rfl,rfl,?_⟩;rw[hin];have N1:=q0D (o:=.tup [.str "wait",.str "hear"]) m1;replace A:=A.kp N1;generalize Z8 H p1 (.tup [.str "wait",.str "hear"])=G1 at *;clear m1 ep hin;cases hg:S.sl.xG with
  | false =>
   rw[if_pos (show(!false)=true from rfl)];refine hRI _ _ ?_;wp_walk using A.ins;exact q _ _ (by unfold xU;rw[if_neg (by rw[hg];simp)];exact A.slp) N1
  | true =>
   rw[if_neg (by simp)];clear hRI RI;refine hR1 _ _ ?_;clear hR1 R1;refine aI fun R2 hR2=>?_;wp_walk using A.ins,A.nm,Kq;refine⟨by rw[List.length_map];exact b2,fun l ns hl hp hs=>?_⟩;have hks:∀ n∈ns,n∈S.nm.map (·.1):=fun n hn=>hp.mem_iff.mp hn;have lns:ns.length < 64:=by rw[hp.length_eq,List.length_map];exact b2
   have ens:=PZ hp hs;have N2:=q0D (o:=.lst (ns.map V.str)) hl;have el:Z8 G1 l (.lst (ns.map V.str)) l=some (.lst (ns.map V.str)):=aA;replace A:=A.kp N2;replace N1:=N1.trans N2;generalize Z8 G1 l (.lst (ns.map V.str))=G2 at *;clear hp hs hl N2;refine⟨⟨_,dR.of el⟩,?_⟩;obtain⟨Pv,hPv⟩:∃ Pv:Nat->List V->Hp->Prop,∀ i xs G,Pv i xs G=(e9 G xs (fI S.nm (ns.take i))/\Kp [] G2 G):=⟨_,fun _ _ _=>rfl⟩;refine kM (ys:=ns.map V.str) Pv ?_ ?_ ?_ ?_ ?_
   ·rw[hPv];exact⟨.nil,Kp.refl⟩
   ·intro i xs G h;rw[hPv] at h;rw[h.1.len];have h1:=vO S.nm (ns.take i);rw[List.length_take] at h1;omega
   ·intro i xs G h;rw[hPv] at h;exact dR.of (h.2.at el)
   ·intro i y xs G hi ey h;rw[hPv] at h;obtain⟨hP,KG⟩:=h;obtain⟨n,en,rfl⟩:∃ n,ns[i]?=some n/\y=V.str n:=by
     rw[List.getElem?_map] at ey;obtain⟨n,a0,b0⟩:=Option.map_eq_some_iff.mp ey;exact⟨n,a0,b0.symm⟩
    have vn:=OV (hks n (List.mem_of_getElem? en));have AG:=A.kp KG;have es:fI S.nm (ns.take (i+1))=fI S.nm (ns.take i)++fI S.nm [n]:=by rw[List.take_add_one,en,Option.toList_some,Dh]
    wp_walk using aY,Option.join_some,AG.ins,AG.nm,vn;cases hw:kN S.nm n with
    | none =>
     rw[if_pos (show wv none=V.non from rfl),hPv,es];exact⟨by rw[show fI S.nm [n]=[] by simp[fI,hw],List.append_nil];exact hP,KG⟩
    | some z =>
     rw[if_neg (by simp[wv])];intro p hp;rw[hPv,es,show fI S.nm [n]=[(.str n,wv (some z))] by simp[fI,hw]];exact⟨(hP.kt (aP.new hp)).snoc aA,KG.trans (Kp.new hp)⟩
   intro un G h ln2 hln;rw[hPv] at h;obtain⟨hP,KG⟩:=h;rw[List.length_map,List.take_length,ens] at hP;replace hP:e9 G un S.nmS:=hP;have lun:un.length<=64:=by
    rw[hP.len];have h1:=vO S.nm (srt (S.nm.map (·.1)));rw[<- ens] at h1;show(fI S.nm (srt (S.nm.map (·.1)))).length<=64;rw[<- ens];omega
   have N3:=q0D (o:=.lst un) hln;have eun:Z8 G ln2 (.lst un) ln2=some (.lst un):=aA;replace hP:=hP.kt (aP.nil N3);replace A:=A.kp (KG.trans N3);replace N1:=N1.trans (KG.trans N3);generalize Z8 G ln2 (.lst un)=G3 at *;clear hPv KG N3 hln el hks ens lns;refine hR2 _ _ ?_;clear hR2 R2;refine aI fun R3 hR3=>?_;obtain⟨kvs,ek,hL⟩:=A.lt;have sk:=SX hL;wp_walk using A.ins,ek,sk;refine⟨by rw[List.length_map];exact b3,fun l ns hl hp hs=>?_⟩;have hks:∀ n∈ns,n∈S.lt.map (·.1):=fun n hn=>hp.mem_iff.mp hn;have lns:ns.length < 64:=by rw[hp.length_eq,List.length_map];exact b3
   have ens:=PZ hp hs;have N2:=q0D (o:=.lst (ns.map V.str)) hl;have el:Z8 G3 l (.lst (ns.map V.str)) l=some (.lst (ns.map V.str)):=aA;replace A:=A.kp N2;replace N1:=N1.trans N2;replace hP:=hP.kt (aP.nil N2);replace eun:=N2.at eun;replace ek:=N2.at ek;replace hL:=hL.keep (fun a _ o e=>N2.at e);generalize Z8 G3 l (.lst (ns.map V.str))=G4 at *;clear hp hs hl N2 sk;refine⟨⟨_,dR.of el⟩,?_⟩;obtain⟨Pv,hPv⟩:∃ Pv:Nat->List V->Hp->Prop,∀ i xs G,Pv i xs G=(iT G xs (h8 S.lt (ns.take i))/\Kp [] G4 G):=⟨_,fun _ _ _=>rfl⟩;refine kM (ys:=ns.map V.str) Pv ?_ ?_ ?_ ?_ ?_
   ·rw[hPv];exact⟨.nil,Kp.refl⟩
   ·intro i xs G h;rw[hPv] at h;rw[h.1.len];have h1:=vI S.lt (ns.take i);rw[List.length_take] at h1;omega
   ·intro i xs G h;rw[hPv] at h;exact dR.of (h.2.at el)
   ·intro i y xs G hi ey h;rw[hPv] at h;obtain⟨hT,KG⟩:=h;obtain⟨n,en,rfl⟩:∃ n,ns[i]?=some n/\y=V.str n:=by
     rw[List.getElem?_map] at ey;obtain⟨n,a0,b0⟩:=Option.map_eq_some_iff.mp ey;exact⟨n,a0,b0.symm⟩
    obtain⟨la,ws,vn,lw,ela⟩:=hL.inS (hks n (List.mem_of_getElem? en));have AG:=A.kp KG;have ekG:=KG.at ek;have elG:=KG.at ela;have es:h8 S.lt (ns.take (i+1))=h8 S.lt (ns.take i)++h8 S.lt [n]:=by rw[List.take_add_one,en,Option.toList_some,C9]
    wp_walk using aY,Option.join_some,AG.ins,ekG,vn,elG;cases ws with
    | nil =>
     rw[if_neg (by simp),hPv,es];exact⟨by rw[show h8 S.lt [n]=[] by simp[h8,lw],List.append_nil];exact hT,KG⟩
    | cons w r =>
     rw[if_pos (by simp)];wp_walk using AG.ins,ekG,vn,elG;intro q1 m1 q2 m2;rw[hPv,es,show h8 S.lt [n]=[(n,w::r)] by simp[h8,lw]];exact⟨((hT.kt (aP.new m1)).kt (aP.new m2)).snoc aA ((q0D m2).at aA),(KG.trans (Kp.new m1)).trans (Kp.new m2)⟩
   intro ut G h ln3 hln;rw[hPv] at h;obtain⟨hT,KG⟩:=h;rw[List.length_map,List.take_length] at hT;have lut:ut.length<=64:=by
    rw[hT.len];have h1:=vI S.lt ns;omega
   rw[ens] at hT;replace hT:iT G ut S.ltS:=hT;have N3:=q0D (o:=.lst ut) hln;have eut:Z8 G ln3 (.lst ut) ln3=some (.lst ut):=aA;replace hT:=hT.kt (aP.nil N3);replace hP:=hP.kt (aP.nil (KG.trans N3));replace eun:=(KG.trans N3).at eun;replace A:=A.kp (KG.trans N3);replace N1:=N1.trans (KG.trans N3);generalize Z8 G ln3 (.lst ut)=G5 at *;clear hPv KG N3 hln el hks ens lns ek hL;refine hR3 _ _ ?_;clear hR3 R3;wp_walk using A.ins,A.wk.ins;refine⟨R.wk,R.wx,R.lb,R.ln,S.stk,rfl,A.wk,fun pl m1=>?_⟩;have N4:=q0D (o:=.tup ((cD S.stk).map V.int)) m1;have epl:Z8 G5 pl (.tup ((cD S.stk).map V.int)) pl=some (.tup ((cD S.stk).map V.int)):=aA;replace A:=A.kp N4;replace N1:=N1.trans N4;replace hP:=hP.kt (aP.nil N4);replace hT:=hT.kt (aP.nil N4);replace eun:=N4.at eun;replace eut:=N4.at eut;generalize Z8 G5 pl (.tup ((cD S.stk).map V.int))=G6 at *;clear N4 m1;wp_walk using A.ins,A.tk.ins,eun;refine fun pn m2=>?_;have N4:=q0D (o:=.tup un) m2;have epn:Z8 G6 pn (.tup un) pn=some (.tup un):=aA;replace A:=A.kp N4;replace N1:=N1.trans N4;replace hP:=hP.kt (aP.nil N4);replace hT:=hT.kt (aP.nil N4);replace eun:=N4.at eun;replace eut:=N4.at eut;replace epl:=N4.at epl;generalize Z8 G6 pn (.tup un)=G7 at *;clear N4 m2;wp_walk using A.ins,A.tk.ins;refine⟨R,as,_,S,rfl,A,b1,fun lo m3=>?_⟩;have N4:=q0D (o:=.lst (S.pend.map V.int)) m3;have elo:Z8 G7 lo (.lst (S.pend.map V.int)) lo=some (.lst (S.pend.map V.int)):=aA;replace A:=A.kp N4;replace N1:=N1.trans N4;replace hP:=hP.kt (aP.nil N4);replace hT:=hT.kt (aP.nil N4);replace eun:=N4.at eun;replace eut:=N4.at eut;replace epl:=N4.at epl;replace epn:=N4.at epn;generalize Z8 G7 lo (.lst (S.pend.map V.int))=G8 at *;clear N4 m3;wp_walk using elo;refine fun po m4=>?_;have N4:=q0D (o:=.tup (S.pend.map V.int)) m4;have epo:Z8 G8 po (.tup (S.pend.map V.int)) po=some (.tup (S.pend.map V.int)):=aA;replace A:=A.kp N4;replace N1:=N1.trans N4;replace hP:=hP.kt (aP.nil N4);replace hT:=hT.kt (aP.nil N4);replace eun:=N4.at eun;replace eut:=N4.at eut;replace epl:=N4.at epl;replace epn:=N4.at epn;generalize Z8 G8 po (.tup (S.pend.map V.int))=G9 at *;clear N4 m4;wp_walk using A.ins,A.tk.ins,A.tk.ha;refine fun rv m5=>?_;have N4:=q0D (o:=Qt rv R.da) m5;have erv:Z8 G9 rv (Qt rv R.da) rv=some (Qt rv R.da):=aA;replace A:=A.kp N4;replace N1:=N1.trans N4;replace hP:=hP.kt (aP.nil N4);replace hT:=hT.kt (aP.nil N4);replace eun:=N4.at eun;replace eut:=N4.at eut;replace epl:=N4.at epl;replace epn:=N4.at epn;replace epo:=N4.at epo;generalize Z8 G9 rv (Qt rv R.da)=GA at *;clear N4 m5;refine⟨R.da,_,rfl,A.tk.ha,fun pa aa GB m6 sm epa hla hpa=>?_⟩;have N4:Kp [] GA GB:=Kp.of sm;replace A:=A.kp N4;replace N1:=N1.trans N4;replace hP:=hP.kt (aP.nil N4);replace hT:=hT.kt (aP.nil N4);replace eun:=N4.at eun;replace eut:=N4.at eut;replace epl:=N4.at epl;replace epn:=N4.at epn;replace epo:=N4.at epo;have hA:e9 GB (aa.map V.ref) S.anS:=e9.of (by rw[hla,Pu.anS,List.length_map,kH,List.length_map]) fun j a x y e1 e2=>by
    rw[Pu.anS,List.getElem?_map] at e2;obtain⟨p0,e3,e4⟩:=Option.map_eq_some_iff.mp e2;cases e4;exact hpa j a (.inl p0.1) (wv p0.2) e1 (by rw[kH,List.getElem?_map,e3];rfl)
   clear N4 sm hla hpa m6 erv;wp_walk using eut;refine fun pt m7 p m8=>?_;have N4:=(q0D (o:=.tup ut) m7).trans (Kp.new (o:=.tup [.ref ps,.ref pl,wv S.ar,.int S.nw,.ref pn,.int S.made,.ref po,.ref pa,.ref pt]) m8);refine q _ _ ?_ (N1.trans N4);unfold xU;rw[if_pos hg];have T:=aP.nil N4;exact⟨p,pl,pn,po,pa,pt,.ref ps,un,_,ut,rfl,aA,A.slp.kt T,N4.at epl,N4.at epn,hP.kt T,N4.at epo,N4.at epa,hA.kt T,(q0D m8).at aA,hT.kt T⟩
def xO{t:Ad}(T:Tx w K mg t):bD P w K mg base CX0 1 t.t6 t.uM ["self"] (PU ⟨t.aU,t.aV,t.aJ⟩):=by
 refine T.Ls.ok Ha (fun vs H Q E h=>?_) (fun cdv A outer s H vs Q E hr h=>?_)
 ·obtain⟨R,as,sl,S,rfl,_⟩:=h;rfl
 ·obtain⟨R,as,sl,S,rfl,A,q⟩:=h;refine⟨_,(aF (aM (aQ T.aW T.c9 (pv 0)))),?_⟩
  and_intros
  wp_walk using A.ins;exact q
def Wb{t:Ad}(T:Tx w K mg t):bD P w K mg base CX0 30 t.Uq t.UE ["script"] (Kn K):=by
 refine T.Zs.ok fR (fun vs H Q E h=>?_) (fun cdv A outer s H vs Q E hr h=>?_)
 ·obtain⟨a,ns,rfl,_⟩:=h;rfl
 ·obtain⟨a,ns,rfl,hS,h63,q⟩:=h;refine⟨_,(aC (bA (i:=1) fR.nd rfl (Or.inl rfl) (aN (Cr T) (hr.mono (by omega)) rfl T.Gi T.xE.kp T.Fd .nil pass0 (aD (aN (Em T) (hr.mono (by omega)) rfl T.Iw T.AD.kp T.HK .nil pass0 (aD (pv 0) (aD aE aB))) aB)))
   (aC (bA (i:=3) fR.nd rfl (Or.inl rfl) (bI dJ (bL (aD (bH (aD aO (aD aE (aD aE aB)))) aB)) (kR (cl:=[]) (fr:=[]) (N:=["cell"]) rfl (fun _ _ h=>h) (c5.cX rfl rfl rfl rfl) (i9 (eF EN (pv 0) (eX aE) (eX aE))) (fun C s H ex pn=>⟨hJ,(aN (yI T) (hr.mono (by omega)) rfl T.Cj T.qJ.kp T.B3 .nil pass0 (aD (aN (vX T) (hr.mono (by omega)) rfl T.Eh T.yV.kp T.DL .nil pass0 (aD (pv 0) aB)) aB))⟩))))
   (aC (bA (i:=4) fR.nd rfl (Or.inr rfl) (Er T.J0 (Be T) (hr.mono (by omega)) rfl T.Yd T.E7 .nil pass0 (aD (pv 1) aB)))
   (aC (jZ (i:=5) (fr:=[4]) (N:=["happening","run"]) rfl (fun _ _ h=>h) (c5.free rfl rfl rfl rfl rfl (fun _ _ h=>h) rfl (by decide) rfl (fun j hj=>by rw[show j=4 by simpa using hj];exact⟨_,rfl,rfl,.inl rfl⟩)) (i9 (pv 3)) (fun C s H ex pn=>⟨hJ,(bK (pv 1) T.aW T.vK (rG T) (hr.mono (by omega)) T.zO .nil pass0 (aD (pv 0) aB))⟩) fR.nd rfl (Or.inl rfl))
   (aC (bA (i:=6) fR.nd rfl (Or.inl rfl) (aN (IJ T) (hr.mono (by omega)) rfl T.OO T.FI.kp T.MX .nil pass0 (aD (pv 3) aB)))
   (aC (Bs PassesOwn.never rfl (i9 (bI dJ (bL (aD aE aB)) (eF EN (pv 0) (eX (oS kD aE)) gL))) (gK (i:=2) fR.nd rfl (Or.inl rfl)) (aC (bA (i:=7) fR.nd rfl (Or.inl rfl) (aN (vX T) (hr.mono (by omega)) rfl T.Eh T.yV.kp T.DL .nil pass0 (aD (pv 2) aB)))
   (aC (bA (i:=8) fR.nd rfl (Or.inl rfl) (aN (bG T) (hr.mono (by omega)) rfl T.bW T.bR.kp T.bV .nil pass0 (aD (pv 7) (aD (bI dJ (bM eU rfl T.tX iF (aD (pv 6) aB)) aE) aB))))
   (aC (bF (aR cB (aN (bG T) (hr.mono (by omega)) rfl T.bW T.bR.kp T.bV .nil pass0 (aD (pv 7) (aD aE aB))) aE (nomark _)) (aF (bA (i:=8) fR.nd rfl (Or.inl rfl) (bI oP (Bp PySem.F.plainAttrs_str PySem.F.slot_str_find PySem.F.type_str_find R0 (pv 6) (aD aO (aD (pv 8) aB))) (bI dJ (bM eU rfl T.tX iF (aD (pv 6) aB)) aE)))) aX)
   (aC (bA (i:=9) fR.nd rfl (Or.inl rfl) (Bp PySem.F.plainAttrs_str PySem.F.slot_str_count PySem.F.type_str_count OQ (eF Cw (pv 6) gL (eX (pv 8))) (aD aO aB)))
   (aC (bA (i:=10) fR.nd rfl (Or.inl rfl) (aN (II T) (hr.mono (by omega)) rfl T.ON T.FH.kp T.MW .nil pass0 (aD (eF Cw (pv 6) gL (eX (pv 8))) aB)))
   (aC (Ew (aN (GI T) (hr.mono (by omega)) rfl T.LR T.C0.kp T.KU .nil pass0 (aD (pv 1) (aD (pv 10) aB))) (IU rfl (lT (gK (i:=11) fR.nd rfl (Or.inl rfl)) (lT (gK (i:=12) fR.nd rfl (Or.inl rfl)) Eu))))
   (aC (bF (PW.pt (xP (aR (rJ 2 (FT hr (by decide))) (pv 10) (eF Cw (pv 3) gL (eX (pv 9))) (nomark _)) (oU (aR (rJ 3 (FT hr (by decide))) (pv 12) (eF Cw (pv 5) gL (eX (pv 9))) (nomark _))))) (aF (aM oR)) aX)
   (aC (Bs PassesOwn.never rfl (Ml rfl T.BY (aD (pv 9) (aD (bM eU rfl T.tX iF (aD (pv 3) aB)) aB))) (gK (i:=13) fR.nd rfl (Or.inl rfl)) (aF (bF (aR (rJ 2 (FT hr (by decide))) (bK (pv 11) T.aW T.vK (rG T) (hr.mono (by omega)) T.zO .nil pass0 (aD (bB bP (pv 3) (pv 13) (fun _ _=>rfl)) aB)) (bB bP (pv 5) (pv 13) (fun _ _=>rfl)) (nomark _)) (aF (aM oR)) aX)))
   (aC (bF (PW.pt (xP (aR (rJ 2 (FT hr (by decide))) (pv 10) (eF Cw (pv 3) gL (eX (pv 9))) (nomark _)) (oU (aR (rJ 3 (FT hr (by decide))) (pv 12) (eF Cw (pv 5) gL (eX (pv 9))) (nomark _))))) (aF (aM oR)) aX)
   (aF (bF (PW.pt (xP (aR (rJ 4 (FT hr (by decide))) (bX (pv 11) T.aW T.AW (xN T) (hr.mono (by omega)) T.CD .nil pass0) (bX (pv 4) T.aW T.AW (xN T) (hr.mono (by omega)) T.CD .nil pass0) (nomark _)) (oU (aR (rJ 2 (FT hr (by decide))) (bX (pv 11) T.aW T.AX (xO T) (hr.mono (by omega)) T.CF .nil pass0) (bX (pv 4) T.aW T.AX (xO T) (hr.mono (by omega)) T.CF .nil pass0) (nomark _))))) (aF (aM oR)) aX))))))))))))
   (aF (aM oR)))))))),?_⟩
  and_intros
  refine aI fun R1 hR1=>?_;wp_walk;refine⟨a,ns,0,rfl,hS,Int.le_refl _,fun z=>?_⟩;wp_walk;refine⟨z,rfl,fun pg us b G1 ep hsP gb nb db lb K1=>?_⟩;have hS1:=K1.same.seq hS;clear hS K1;wp_walk;refine hR1 _ _ ?_;clear hR1 R1;refine aI fun R2 hR2=>?_;wp_walk;refine fun q1 m1 q2 m2=>?_;have N1:=(q0D (o:=.tup [.str "begin",.int 3,.int 2]) m1).trans (Kp.new (o:=.lst [.ref q1]) m2);have e1:=(q0D (o:=.lst [.ref q1]) m2).at (aA:Z8 G1 q1 (.tup [.str "begin",.int 3,.int 2]) q1=_);have e2:Z8 (Z8 G1 q1 (.tup [.str "begin",.int 3,.int 2])) q2 (.lst [.ref q1]) q2=some (.lst [.ref q1]):=aA;replace hS1:=N1.same.seq hS1;replace ep:=N1.at ep;replace hsP:=hsP.kp (aP.nil N1);generalize Z8 (Z8 G1 q1 (.tup [.str "begin",.int 3,.int 2])) q2 (.lst [.ref q1])=G5 at *;clear N1 m1 m2;refine⟨_,hS1,fun p1 h1=>?_⟩;obtain⟨ms,em,lm⟩:=Fp ns (some 1) (some 41);rw[em];have N1:=q0D (o:=.lst (ms.map V.int)) h1;have ep1:Z8 G5 p1 (.lst (ms.map V.int)) p1=some (.lst (ms.map V.int)):=aA;replace e1:=N1.at e1;replace e2:=N1.at e2;replace hS1:=N1.same.seq hS1;replace ep:=N1.at ep;replace hsP:=hsP.kp (aP.nil N1);generalize Z8 G5 p1 (.lst (ms.map V.int))=G6 at *;clear N1 h1 em;refine⟨⟨_,dR.of ep1⟩,?_⟩;obtain⟨Pv,hPv⟩:∃ Pv:Nat->List V->Hp->Prop,∀ i xs G,Pv i xs G = ∃ hs:List Hap,cP G xs hs/\(∀ h∈hs,h.inK/\∀ m t w,h=.don m t w->0<=t/\t < 7)/\hs.length<=i/\i<=63/\Kp [] G6 G:=⟨_,fun _ _ _=>rfl⟩;refine kM (ys:=ms.map V.int) Pv ?_ ?_ ?_ ?_ ?_
  ·rw[hPv];exact⟨[],.nil,by simp,by simp,by decide,Kp.refl⟩
  ·intro i xs G h;rw[hPv] at h;obtain⟨hs,hH,_,hj,hj2,_⟩:=h;have:=hH.len;omega
  ·intro i xs G h;rw[hPv] at h;obtain⟨_,_,_,_,_,k⟩:=h;exact dR.of (k.at ep1)
  ·intro i y xs G hi ey h;rw[hPv] at h;obtain⟨hs,hH,ok,hj1,hj2,k⟩:=h;obtain⟨z,rfl⟩:=JT ey;rw[List.length_map] at hi;wp_walk using aY,Option.join_some;refine fun r H2 nr K2 J2=>⟨r,rfl,J2,fun v h H3 hA hm hw hk hd J3 K3=>?_⟩;have K23:Kp [] G H3:=fun b o e _=>K3.at1 (K2.at e) (aL e nr);show Pv (i+1) _ _;rw[hPv];exact⟨hs++[h],(hH.kt (aP.nil K23)).snoc hA,fun g hg=>by
    rcases List.mem_append.mp hg with hg|hg
    ·exact ok g hg
    ·rw[show g=h by simpa using hg];exact⟨⟨⟨hm,hw⟩,hk⟩,hd⟩,by simp;omega,by omega,k.trans K23⟩
  intro xs G h x0 hx0;rw[hPv] at h;obtain⟨hs,hH,ok,hj1,hj2,k⟩:=h;have KX:=q0D (o:=.lst xs) hx0;have ex:Z8 G x0 (.lst xs) x0=some (.lst xs):=aA;replace hH:=hH.kt (aP.nil KX);replace k:=k.trans KX;replace e1:=k.at e1;replace e2:=k.at e2;replace hS1:=k.same.seq hS1;replace ep:=k.at ep;replace hsP:=hsP.kp (aP.nil k);generalize Z8 G x0 (.lst xs)=G7 at *;rw[List.length_map] at hj1 hj2;have lx:=hH.len;clear hPv Pv ep1 KX k hx0;wp_walk using ex,e2;refine⟨by omega,fun hl n7=>?_⟩;have K7:=q0D (o:=.lst (.ref q1::xs)) n7;have e7:Z8 G7 hl (.lst (.ref q1::xs)) hl=some (.lst (.ref q1::xs)):=aA;have hg:cP (Z8 G7 hl (.lst (.ref q1::xs))) (.ref q1::xs) (.beg 3 (some 2)::hs):=cP.kt (.cons ⟨q1,rfl,e1⟩ hH) (aP.nil K7);replace ok:∀ h∈Hap.beg 3 (some 2)::hs,h.inK/\∀ m t w,h=.don m t w->0<=t/\t < 7:=fun h hh=>by
   rcases List.mem_cons.mp hh with rfl|hh
   ·exact⟨⟨⟨⟨by decide,by decide⟩,eO (by decide) (by decide)⟩,fun _ _ _ z=>by cases z⟩,fun _ _ _ z=>by cases z⟩
   ·exact ok h hh
  have lg:(Hap.beg 3 (some 2)::hs).length<=64:=by rw[List.length_cons];omega
  replace hS1:=K7.same.seq hS1;replace ep:=K7.at ep;replace hsP:=hsP.kp (aP.nil K7);generalize Z8 G7 hl (.lst (.ref q1::xs))=G8 at *;generalize Hap.beg 3 (some 2)::hs=gs at *;generalize V.ref q1::xs=ys at *;clear e1 e2 ex hH hj1 hj2 lx K7 n7 hs xs;obtain⟨hs,rfl⟩:∃ hs,hs=gs:=⟨_,rfl⟩;obtain⟨hv,rfl⟩:∃ hv,hv=ys:=⟨_,rfl⟩;have D4:∀ h∈hs,h.D4:=fun h hh=>(ok h hh).1.1;have eh:=e7;have hH:=hg;have l1:hs.length<=1000:=by omega
  have ky3:∀ k∈KY3,Co k:=fun k hk=>by
   simp only[KY3,List.mem_cons,List.not_mem_nil,or_false] at hk;rcases hk with rfl|rfl|rfl<;>(unfold Co;decide +kernel)
  have oks:∀ h∈hs,h.ok:=fun h hh=>by
   obtain⟨⟨⟨hm,hw⟩,hk⟩,hd⟩:=ok h hh;cases h with
   | beg m w=>exact⟨hm,hw⟩
   | don m t w=>exact⟨hm,⟨(hd m t w rfl).1,by have:=(hd m t w rfl).2;omega⟩,hw⟩
   | ltr m k w=>exact⟨hm,ky3 k (hk m k w rfl),hw⟩
  clear e7 hg ky3;wp_walk;refine hR2 _ _ ?_;clear hR2 R2;refine aI fun R3 hR3=>?_;have lu:=hsP.len;have db:xX b<=20:=by omega
  wp_walk using ep;refine OM ep hsP fun R sl G0 RA K0 NR=>?_;have eh0:=K0.at eh;have hH0:=hH.kt (aP.nil K0);have lh:=hH.len;have ehH:=eh;wp_walk;refine hR3 _ _ ?_;clear hR3 R3;refine aI fun R4 hR4=>?_;wp_walk using eh0;refine⟨⟨_,dR.of eh0⟩,?_⟩;obtain⟨Pv,hPv⟩:∃ Pv:Nat->List V->Hp->Prop,∀ i xs G,Pv i xs G = ∃(as:List Addr) (sl:V) (rs:List Addr),xs=rs.map V.ref/\aZ ⟨t.aU,t.aV,t.aJ⟩ G R as sl (takes (dD b) (hs.take i)).1/\Fit true (takes (dD b) (hs.take i)).1 (302 * i)/\(takes (dD b) (hs.take i)).1.sl.isN=false/\eN G rs (takes (dD b) (hs.take i)).2/\rs.Nodup/\rs.length<=i/\(∀ a∈rs,a∉R.cells/\a∉as/\G8 a=none)/\(∀ a,a∈R.cells\/a∈as->G8 a=none)/\Kp [] G8 G/\G hl=some (.lst hv)/\cP G hv hs:=⟨_,fun _ _ _=>rfl⟩;have NR0:∀ a,a∈R.cells\/a∈([]:List Addr)->G8 a=none:=fun a ha=>by
   rcases ha with ha|ha
   ·exact NR a ha
   ·simp at ha
  refine kM (ys:=hv) Pv ?_ ?_ ?_ ?_ ?_
  ·rw[hPv];exact⟨[],sl,[],rfl,RA,JM gb db,rfl,.nil,.nil,Nat.le_refl _,by simp,NR0,K0,eh0,hH0⟩
  ·intro i xs G h;rw[hPv] at h;obtain⟨_,_,rs,rfl,_,_,_,hr,_,hl,_⟩:=h;rw[List.length_map,hr.len,lV,List.length_take];omega
  ·intro i xs G h;rw[hPv] at h;obtain⟨_,_,_,_,_,_,_,_,_,_,_,_,_,e,_⟩:=h;exact dR.of e
  ·intro i y xs G hi ey h;rw[hPv] at h;obtain⟨as,sl,rs,rfl,RA,FA,hN,hr,nd,lr,hf,hR,KG,eG,hG⟩:=h;obtain⟨x,ex,hx⟩:=hG.kY ey;have es:takes (dD b) (hs.take (i+1))=(((takes (dD b) (hs.take i)).1.take x).1,(takes (dD b) (hs.take i)).2++[((takes (dD b) (hs.take i)).1.take x).2]):=by rw[List.take_add_one,ex,Option.toList_some,kB]
   have fx:=D4 x (List.mem_of_getElem? ex);generalize takes (dD b) (hs.take i)=Z at *;obtain⟨S,css⟩:=Z;have il:i < hs.length:=(List.getElem?_eq_some_iff.mp ex).1;wp_walk using aY,Option.join_some,RA.ins;refine⟨R,as,_,S,y,x,302 * i,rfl,RA,FA,by omega,hN,hx,fx,fun as' sl2 c uc G2 A2 hc nc ec hC F2=>?_⟩;have T2:=RA.tkp F2;have FA2:=FA.EZ x fx.1 fx.2 (fun j hj=>by
    have:=RA.tk.lt j hj;have:=FA.md;exact eO (by omega) (by simp only at *;omega)) (by omega)
   have hcH:=KG.mX hc;have ncf:=RA.cX hc;show Pv (i+1) _ _;rw[hPv,es];refine⟨as',sl2,rs++[c],by simp,A2,FA2.more (by omega),BU hN x,(hr.keep (fun a ha o e=>F2.kp a o e (hf a ha).1 (hf a ha).2.1) T2).snoc ec hC,?_,by simp;omega,fun a ha=>?_,fun a ha=>?_,F2.OC KG hR,F2.kp _ _ eG ?_ ?_,hG.kt T2⟩
   ·rw[List.nodup_append];refine⟨nd,by simp,fun a ha y hy=>?_⟩;rw[show y=c by simpa using hy];intro z;obtain⟨o,e⟩:=hr.there a ha;rw[z,hc] at e;cases e
   ·rcases List.mem_append.mp ha with ha|ha
    ·refine⟨(hf a ha).1,fun z=>?_,(hf a ha).2.2⟩;rcases F2.new a z with y|y
     ·exact(hf a ha).2.1 y
     ·obtain⟨o,e⟩:=hr.there a ha;rw[y] at e;cases e
    ·rw[show a=c by simpa using ha];exact⟨ncf.1,nc,hcH⟩
   ·rcases ha with ha|ha
    ·exact hR a (.inl ha)
    ·rcases F2.new a ha with z|z
     ·exact hR a (.inr z)
     ·exact KG.mX z
   ·exact fun z=>by rw[hR hl (.inl z)] at ehH;cases ehH
   ·exact fun z=>by rw[hR hl (.inr z)] at ehH;cases ehH
  intro xs G h cl hcl;rw[hPv] at h;obtain⟨as,sl,rs,rfl,RA,FA,hN,hr,nd,lr,hf,hR,KG,eG,hG⟩:=h;rw[lh,List.take_length] at RA FA hN hr;clear hPv;have ncl:=RA.cX hcl;have acB:=KG.mX hcl;have N1:=q0D (o:=.lst (rs.map V.ref)) hcl;have ecl:Z8 G cl (.lst (rs.map V.ref)) cl=some (.lst (rs.map V.ref)):=aA;have hrc:∀ a∈rs,a≠cl:=fun a ha z=>by
   obtain⟨o,e⟩:=hr.there a ha;rw[z,hcl] at e;cases e
  replace hr:=hr.keep (fun a _ o e=>N1.at e) (aP.nil N1);replace RA:=RA.kp N1;replace KG:=KG.trans N1;generalize Z8 G cl (.lst (rs.map V.ref))=G2 at *;replace ep:=KG.at ep;replace hsP:=hsP.kp (aP.nil KG);replace hS1:=KG.same.seq hS1;replace eh:=KG.at eh;replace hH:=hH.kt (aP.nil KG);have fn:=Fine.new FA hN nb (fun h hh=>(ok h hh).1);have w1:=zB.of hr;have okc:=wZ hs (dD b);have lcs:=lV hs (dD b);clear N1 hcl eG hG KG hr nd hf hrc hR acB ncl NR0 K0 eh0 hH0 ehH NR lr Pv lu;wp_walk;refine hR4 _ _ ?_;clear hR4 R4;refine aI fun R5 hR5=>?_;wp_walk;refine⟨hl,hv,hs,rfl,eh,hH,oks,by omega,fun G3 K3=>?_⟩;replace ep:=K3.at ep;replace hsP:=hsP.kp (aP.nil K3);replace hS1:=K3.same.seq hS1;replace eh:=K3.at eh;replace hH:=hH.kt (aP.nil K3);replace RA:=RA.kp K3;replace ecl:=K3.at ecl;replace w1:=w1.kp K3;have lt:(dE hs).length<=106 * 64:=by
   have:=GY (rs:=hs.map Hap.rw) (fun r hr=>by obtain⟨h,hh,rfl⟩:=List.mem_map.mp hr;exact Hap.Kj (oks h hh));rw[<- AQ,List.length_map] at this;omega
  clear K3;wp_walk;refine hR5 _ _ ?_;clear hR5 R5;refine aI fun R6 hR6=>?_;wp_walk;refine fun q1 m1=>?_;have N1:=q0D (o:=.lst [.int 0]) m1;have e1:Z8 G3 q1 (.lst [.int 0]) q1=some (.lst [.int 0]):=aA;refine⟨_,N1.same.seq hS1,fun p1 h1=>?_⟩;obtain⟨ms,em,lm⟩:=Fp ns (some (-8)) none;rw[em];have N2:=N1.trans (q0D (o:=.lst (ms.map V.int)) h1);replace e1:=(q0D (o:=.lst (ms.map V.int)) h1).at e1;have e2:Z8 (Z8 G3 q1 (.lst [.int 0])) p1 (.lst (ms.map V.int)) p1=some (.lst (ms.map V.int)):=aA;generalize Z8 (Z8 G3 q1 (.lst [.int 0])) p1 (.lst (ms.map V.int))=G4 at *;wp_walk using e1,e2;refine⟨by rw[List.length_map];omega,fun p6 n6=>?_⟩;rw[show V.int 0::ms.map V.int=(0::ms).map V.int from rfl];have N3:=N2.trans (q0D (o:=.lst ((0::ms).map V.int)) n6);have e6:Z8 G4 p6 (.lst ((0::ms).map V.int)) p6=some (.lst ((0::ms).map V.int)):=aA;refine⟨⟨_,dR.of e6⟩,?_⟩;obtain⟨Pw,hPw⟩:∃ Pw:Nat->St->Hp->Prop,∀ i σ G,Pw i σ G = ∃(u2 u7 u8 u9 u10 u11 u12 u13:Option V),σ=[some (.ref a),some (.ref pg),u2,some (.ref hl),some (.ref R.x),some (.ref cl),some (.str (dE hs)),u7,u8,u9,u10,u11,u12,u13]/\Kp [] G3 G/\G p6=some (.lst ((0::ms).map V.int)):=⟨_,fun _ _ _=>rfl⟩;refine Og (xs:=((0::ms).map V.int)) Pw ?_ ?_ ?_ ?_
  ·rw[hPw];exact⟨_,_,_,_,_,_,_,_,rfl,N3,e6⟩
  ·intro i σ G _ h;rw[hPw] at h;obtain⟨_,_,_,_,_,_,_,_,_,_,e⟩:=h;exact dR.of e
  ·clear e6 N3 N2 e1 e2 n6 m1 h1 N1;intro i y σ G hi h;rw[hPw] at h;obtain⟨u2,u7,u8,u9,u10,u11,u12,u13,rfl,KG,e6⟩:=h;obtain⟨z,rfl⟩:=JT hi;have back:∀(u2 u7 u8 u9 u10 u11 u12 u13:Option V) (G':Hp),Kp [] G G'->Pw (i+1) [some (.ref a),some (.ref pg),u2,some (.ref hl),some (.ref R.x),some (.ref cl),some (.str (dE hs)),u7,u8,u9,u10,u11,u12,u13] G':=fun u2 u7 u8 u9 u10 u11 u12 u13 G' e=>by
    rw[hPw];exact⟨_,_,_,_,_,_,_,_,rfl,KG.trans e,e.at e6⟩
   clear hPw e6 hi;refine aI fun Ra hRa=>?_;wp_walk;refine fun r G1 nr K1 J1=>?_;refine hRa _ _ ?_;clear hRa Ra;refine aI fun Ra hRa=>?_;wp_walk;refine⟨by omega,by omega,by omega,J1,fun c G2 c0 c1 J2 K2=>?_⟩;have K12:Kp [] G G2:=fun b o e _=>K2.at1 (K1.at e) (aL e nr);refine hRa _ _ ?_;clear hRa Ra K1 K2 J1;refine aI fun Ra hRa=>?_
   suffices fin:∀(c:Int) (G':Hp),0<=c->c < ((dE hs).length:Int)+1->Kp [] G G'->Ra [some (.ref a),some (.ref pg),some (.int z),some (.ref hl),some (.ref R.x),some (.ref cl),some (.str (dE hs)),some (.ref r),some (.int c),u9,u10,u11,u12,u13] G' by
    refine qV fun RI hRI=>?_;wp_walk;refine⟨J2,fun g G3 g0 g1 J3 K3=>?_⟩;have K13:Kp [] G G3:=fun b o e _=>K3.at1 (K12.at e) (aL e nr);split
    ·refine hRI _ _ ?_;wp_walk;intro f;wp_walk;exact⟨by omega,by omega,fin _ G3 (Int.emod_nonneg _ (by omega)) (Int.emod_lt_of_pos _ (by omega)) K13⟩
    ·exact fin c G3 c0 c1 K13
   clear J2 K12 c0 c1 G2 c nr;intro c G1 c0 c1 K1;obtain⟨m,tl,hm,es,ht,ltl⟩:=QO oks c c0 (by omega);have okm:∀ h∈hs.take m,h.ok:=fun h hh=>oks h (List.mem_of_mem_take hh);have fim:∀ h∈hs.take m,h.D4:=fun h hh=>D4 h (List.mem_of_mem_take hh);have cn:=QM (tl:=tl) okm ht;have lm:(hs.take m).length=m:=by rw[List.length_take];omega
   rw[lm] at cn;refine hRa _ _ ?_;clear hRa Ra;refine aI fun Ra hRa=>?_;wp_walk using es,cn;refine⟨by omega,hRa _ _ ?_⟩;clear hRa Ra;refine aI fun Ra hRa=>?_;wp_walk using es;refine⟨by omega,hs.take m,tl,rfl,okm,ht,ltl,by omega,fun lf lv G2 nlf elf hLf K2=>?_⟩;have KG2:=KG.trans (K1.trans K2);replace K2:=K1.trans K2;refine hRa _ _ ?_;clear hRa Ra K1 nlf;refine aI fun Ra hRa=>?_;wp_walk;refine⟨pg,lf,us,lv,b,hs.take m,rfl,KG2.at ep,hsP.kp (aP.nil KG2),gb,by omega,elf,hLf,fim,by omega,fun t2 R2 as2 sl2 cl2 rs2 G3 et2 A2 F2 hN2 e2 hr2 nd2 hf2 nc2 NR2 fc2 K3=>?_⟩;have fn2:=Fine.new F2 hN2 nb (fun h hh=>(ok h (List.mem_of_mem_take hh)).1);have w2:=zB.of hr2;have LO:Lone ⟨t.aU,t.aV,t.aJ⟩ G2 G3 R2 as2 sl2 (takes (dD b) (hs.take m)).1 (cl2::rs2):=⟨K3,A2,NR2,fun a ha=>by
    rcases List.mem_cons.mp ha with rfl|ha
    ·exact⟨⟨_,e2⟩,nc2⟩
    ·obtain⟨_,e⟩:=w2.there a ha;exact⟨⟨_,e⟩,(hf2 a ha).1,(hf2 a ha).2.1⟩⟩
   wp_walk using et2;refine⟨_,fA.of et2,rfl,?_⟩;wp_walk;refine hRa _ _ ?_;clear hRa Ra et2 A2 F2 hN2 hr2 nd2 hf2 nc2 NR2 fc2 K3;have ac6:=wZ (hs.take m) (dD b);refine aI fun Ra hRa=>?_;have aaT:=LO.k.at elf;have KA:=KG.trans (K2.trans LO.k);have ehA:=KA.at eh;have aaK:=KA.at ecl;wp_walk using aaT,ehA;refine fun q1 n1=>?_;rw[yS];have K1:=q0D (o:=.lst (hv.take m)) n1;refine⟨true,gO.rcL (FQ (n:=0) (hLf.kt (aP.nil (LO.k.trans K1))) ((hH.take m).kt (aP.nil (KA.trans K1)))) (K1.at aaT) aA,?_⟩;replace LO:=LO.kp K1;replace w2:=w2.kp K1;replace e2:=K1.at e2;replace aaK:=K1.at aaK;replace KA:=KA.trans K1;generalize Z8 G3 q1 (.lst (hv.take m))=G3a at *;clear K1 n1 aaT ehA;wp_walk using e2,aaK;refine fun q1 n1=>?_;rw[yS,<- List.map_take];have K1:=q0D (o:=.lst ((rs.take m).map V.ref)) n1;refine⟨true,?_,?_⟩
   ·have w1m:=((w1.kp KA).kp K1).take m;rw[<- kC] at w1m;exact zB.rc (n:=0) (w2.kp K1) w1m (K1.at e2) aA ac6 (by simp)
   replace LO:=LO.kp K1;replace w2:=w2.kp K1;replace e2:=K1.at e2;generalize Z8 G3a q1 (.lst ((rs.take m).map V.ref))=G3b at *;clear K1 n1 aaK KA;wp_walk;refine hRa _ _ ?_;clear hRa Ra;refine aI fun Ra hRa=>?_;have ehA:=(KG.trans (K2.trans LO.k)).at eh;have lh2:=hH.len;wp_walk using ehA;refine⟨⟨by omega,by omega⟩,?_⟩;obtain⟨Pv,hPv⟩:∃ Pv:Nat->St->Hp->Prop,∀ i σ G',Pv i σ G' = ∃(u13:Option V) (as2:List Addr) (sl2:V),σ=[some (.ref a),some (.ref pg),some (.int z),some (.ref hl),some (.ref R.x),some (.ref cl),some (.str (dE hs)),some (.ref r),some (.int c),some (.int (m:Int)),some (.ref lf),some (.ref R2.x),some (.ref cl2),u13]/\Lone ⟨t.aU,t.aV,t.aJ⟩ G2 G' R2 as2 sl2 (takes (dD b) (hs.take (m+i))).1 (cl2::rs2)/\Fine (takes (dD b) (hs.take (m+i))).1 (302 * (m+i))/\G' cl2=some (.lst (rs2.map V.ref))/\zB G' (fun _=>[]) rs2 (takes (dD b) (hs.take m)).2:=⟨_,fun _ _ _=>rfl⟩;refine vA (lo:=(m:Int)) Pv ?_ ?_ ?_
   ·rw[hPv];exact⟨_,_,_,rfl,LO,by rw[lm] at fn2;exact fn2,e2,w2⟩
   ·clear LO fn2 e2 w2 ehA;intro i σ G' hi h;rw[hPv] at h;obtain⟨u13,as2,sl2,rfl,LO,fn2,e2,w2⟩:=h;have li:m+i < hs.length:=by omega
    obtain⟨v,ev⟩:∃ v,hv[m+i]?=some v:=⟨_,List.getElem?_eq_getElem (by omega)⟩;have KA:=KG.trans (K2.trans LO.k);obtain⟨z,ez,hz⟩:=(hH.kt (aP.nil KA)).kY ev;have zk:=(ok z (List.mem_of_getElem? ez)).1;have ehA:=KA.at eh;have ix:kY hv ((m:Int)+(i:Nat))=some v:=by
     rw[show(m:Int)+(i:Nat)=((m+i:Nat):Int) by omega];exact pN ev
    have ea:=Qf ez (dD b);have es1:(takes (dD b) (hs.take (m+(i+1)))).1=((takes (dD b) (hs.take (m+i))).1.take z).1:=by rw[<- Nat.add_assoc,List.take_add_one,ez,Option.toList_some,kB]
    have pw:=fn2.pend LO.a (by omega);have fn':=fn2.take zk (by omega) pw;have oz:=Ht (takes (dD b) (hs.take (m+i))).1 z;rw[<- es1] at fn';wp_walk using ehA,ix,LO.a.ins;refine⟨R2,as2,_,_,v,z,302 * (m+i),rfl,LO.a,fn2.fit,by omega,fn2.isN,hz,zk.1,fun as' sl' d ud Ga Aa hc _ ec hC Fa=>?_⟩;have LO1:=LO.step Fa Aa;rw[<- es1] at LO1;have e21:=LO.keep Fa cl2 (by simp) _ e2;have w21:=w2.keep (fun a ha o e=>LO.keep Fa a (by simp[ha]) o e) (LO.a.tkp Fa);have KB:=KG.trans (K2.trans LO1.k);have aaK:=KB.at ecl;obtain⟨r0,er0⟩:∃ r0,rs[m+i]?=some r0:=⟨_,List.getElem?_eq_getElem (by rw[w1.1,lcs];omega)⟩;obtain⟨u0,cs0,ec0,ea0,hc0⟩:=(w1.kp KB).at' er0;rw[ea] at ec0;cases ec0;rw[List.append_nil] at ea0;have ix2:kY (rs.map V.ref) ((m:Int)+(i:Nat))=some (.ref r0):=by
     rw[show(m:Int)+(i:Nat)=((m+i:Nat):Int) by omega];exact pN (by rw[List.getElem?_map,er0];rfl)
    wp_walk using aaK,ix2;refine⟨true,gO.rcL (Nw (n:=0) hC hc0 oz.1) ec ea0,?_⟩;wp_walk;rw[hPv];exact⟨_,_,_,rfl,LO1,fn',e21,w21⟩
   clear LO fn2 e2 w2 ehA;intro σ G5 h;rw[hPv] at h;obtain⟨u13,as2,sl2,rfl,LO,fn2,e2,w2⟩:=h;rw[show m+((hv.length:Int) - (m:Int)).toNat=hs.length by omega,List.take_length] at LO fn2;refine hRa _ _ ?_;clear hRa Ra hPv Pv;refine aI fun Ra hRa=>?_;have aaT:=LO.k.at elf;have KA:=KG.trans (K2.trans LO.k);have ehA:=KA.at eh;have aaK:=KA.at ecl;wp_walk using aaT,ehA;refine fun q1 n1=>?_;rw[yS];have K1:=q0D (o:=.lst (hv.take m)) n1;refine⟨true,gO.rcL (FQ (n:=0) (hLf.kt (aP.nil (LO.k.trans K1))) ((hH.take m).kt (aP.nil (KA.trans K1)))) (K1.at aaT) aA,?_⟩;replace LO:=LO.kp K1;replace w2:=w2.kp K1;replace e2:=K1.at e2;replace aaK:=K1.at aaK;replace KA:=KA.trans K1;generalize Z8 G5 q1 (.lst (hv.take m))=G5a at *;clear K1 n1 aaT ehA;wp_walk using e2,aaK;refine fun q1 n1=>?_;rw[yS,<- List.map_take];have K1:=q0D (o:=.lst ((rs.take m).map V.ref)) n1;refine⟨true,?_,?_⟩
   ·have w1m:=((w1.kp KA).kp K1).take m;rw[<- kC] at w1m;exact zB.rc (n:=0) (w2.kp K1) w1m (K1.at e2) aA ac6 (by simp)
   replace LO:=LO.kp K1;replace w2:=w2.kp K1;replace e2:=K1.at e2;generalize Z8 G5a q1 (.lst ((rs.take m).map V.ref))=G5b at *;clear K1 n1 aaK KA;wp_walk;refine hRa _ _ ?_;clear hRa Ra;have KA:=KG.trans (K2.trans LO.k);have RB:=RA.kp KA;obtain⟨b0,b1,b2,b3,b4,b5⟩:=fn.args (by omega);wp_walk using LO.a.ins;refine⟨R2,_,_,_,rfl,LO.a,b0,b1,b2,b3,b4,b5,fun s2 G8 hs2 K8=>?_⟩;replace LO:=LO.kp K8;replace RB:=RB.kp K8;wp_walk using RB.ins;refine⟨R,_,_,_,rfl,RB,b0,b1,b2,b3,b4,b5,fun s1 G9 hs1 K9=>?_⟩;replace LO:=LO.kp K9;replace RB:=RB.kp K9;replace hs2:=hs2.kt (aP.nil K9);obtain⟨x1,rfl⟩:=P0 b0 hs1;obtain⟨x2,rfl⟩:=P0 b0 hs2;wp_walk;refine⟨true,Yx (n:=0) b0 hs2 hs1,?_⟩;wp_walk using LO.a.ins;refine⟨R2,_,_,_,rfl,LO.a,?_⟩;wp_walk using RB.ins;refine⟨R,_,_,_,rfl,RB,?_⟩;obtain⟨y1,e1⟩:=ER b0 RB.slp;obtain⟨y2,e2'⟩:=ER b0 LO.a.slp;have z1:=RB.slp;have z2:=LO.a.slp;rw[e1] at z1 ⊢;rw[e2'] at z2 ⊢;wp_walk;refine⟨true,PK (n:=0) b0 z2 z1,?_⟩;wp_walk;exact back _ _ _ _ _ _ _ _ _ (K2.trans LO.k)
  ·intro σ G h;rw[hPw] at h;obtain⟨u2,u7,u8,u9,u10,u11,u12,u13,rfl,KG,e6⟩:=h;refine hR6 _ _ ?_;clear hR6 R6;wp_walk;exact q _
end
def b0{P:List Value->Prop}(h:P []):∀ us:List Value,us.length=0->P us:=fun us e=>by rw[List.length_eq_zero_iff.mp e];exact h
def bS{P:List Value->Prop}{n:Nat}(h:∀ a,∀ us:List Value,us.length=n->P (a::us)):∀ us:List Value,us.length=n+1->P us
 | [],e=>by cases e
 | a::us,e=>h a us (Nat.succ.inj e)
def Qj{q:Program}{loose:List Str}{XP:(q0C)->Heap->Prop}{K:Params->q0B}{as:List Addr}{n t:Nat}{r:PySem.W.RowW}{d:DefRec}{kwd:List (Str×Expr)}{run:Value->List Value->Sem Value}(e:∀ P:Params,as=List.map (fun x=>x.fst) (K P))(H:PySem.W.WalkO q loose XP (PySem.W.kHook K as e).says r d kwd run):PySem.W.WalkX q loose XP (PySem.W.X.obsZ as) (PySem.W.X.valZ K n t) r d kwd run:=fun w s₀ s₁ mg mb G y a o pm cd doc dV kV h1 h2 h3 h4 h5 h6 args vals bs L=>by
 obtain⟨_,f,_,_⟩:=PySem.W.X.z_facts e y;exact H w s₀ s₁ mg mb G (show PySem.W.InK K w s₁.heap from fun p ob hp=>L.keeps _ _ (f p ob hp)) a o pm cd doc dV kV h1 h2 h3 h4 h5 h6 args vals bs
section
open PySem.W
def Ur{l:OpenLaw}{w:World}{K:Frag}{h:Heap}{mg:q0C}{fa:Addr}(X:K.In h)(G:h.Ns mainGlobals mg)(hfa:mg "law"=some (.ref fa))
    {f0 f1 f2 f3 f4 f5 f6 f7 f8 f9 f10 f11 f12 f13 f14 f15 f16 f17 f18 f19 f20 f21 f22 f23 f24 f25 f26 f27 f28 f29 f30 f31 f32 f33 f34 f35 f36 f37 f38 f39 f40 f41 f42 f43 f44 f45 f46 f47 f48 f49 f50 f51 f52 f53 f54 f55 f56 f57 f58 f59 f60 f61 f62 f63 f64 f65 f66 f67 f68 f69 f70:Addr} {d0 d1 d2 d3 d4 d5 d6 d7 d8 d9 d10 d11 d12 d13 d14 d15 d16 d17 d18 d19 d20 d21 d22 d23 d24 d25 d26 d27 d28 d29 d30 d31 d32 d33 d34 d35 d36 d37 d38 d39 d40 d41 d42 d43 d44 d45 d46 d47 d48 d49 d50 d51 d52 d53 d54 d55 d56 d57 d58 d59 d60 d61 d62 d63 d64 d65 d66 d67 d68 d69 d70:FuncData}
    {aJ:Addr}
    {aV:Addr}
    {aU:Addr}
    {tk0:Tok}
    {tk1:Tok}
    {tk2:Tok}
    {tp3:Addr} {td3:Option Addr} {tn3:Nat} {ts3:Array (Option Value)} {adL adM adN adO adP adQ adR adS adT adU acN acO acP acQ acR acS acT:Tok}
    {tk4:Tok}
    {tk5:Tok}
    {tp6:Addr} {te6:Array DictEntry} {tn6:Nat}
    {tp7:Addr} {tn7:Nat} {aa2 aa3 aa4:Addr} {ab1 ab2 ab3:Int} {ab4 ab5 ab6:Tok}
    {adC:Option Addr} {adF:Nat} {adI:Array (Option Value)} {abO abP:Tok}
    {adD:Option Addr} {adG:Nat} {adJ:Array (Option Value)} {abQ abR abS:Tok}
    {adE:Option Addr} {adH:Nat} {adK:Array (Option Value)} {abT abU abV:Tok}
    (aa5:nsIn K mainGlobals "Tickets"=some (some (.ref aJ))) (aa9:plainGet K aJ Str.empty=true) (aa6:hasDictIn K aJ=true) (abA:plainOver K aJ=true) (abB:findIn K (.ref aJ) "__setattr__"=some (some (.builtin "object.__setattr__"))) (vL:makesIn K aJ=true) (aa8:keepIn K (.ref aJ)=true)
    (ab9:nsIn K mainGlobals "Walk"=some (some (.ref aV))) (acJ:plainGet K aV Str.empty=true) (acC:hasDictIn K aV=true) (acK:plainOver K aV=true) (acL:findIn K (.ref aV) "__setattr__"=some (some (.builtin "object.__setattr__"))) (Iv:makesIn K aV=true) (acG:keepIn K (.ref aV)=true)
    (acU:nsIn K mainGlobals "Run"=some (some (.ref aU))) (ac8:plainGet K aU Str.empty=true) (acZ:hasDictIn K aU=true) (ac9:plainOver K aU=true) (adA:findIn K (.ref aU) "__setattr__"=some (some (.builtin "object.__setattr__"))) (J0:makesIn K aU=true) (ac3:keepIn K (.ref aU)=true)
    (a0:nsIn K mainGlobals "is_number_word"=some (some (.ref f0)))
    (F0:Fun K "is_number_word" "is_number_word" j5 f0 d0)
    (a1:nsIn K mainGlobals "is_figure"=some (some (.ref f1)))
    (F1:Fun K "is_figure" "is_figure" rP f1 d1)
    (a2:nsIn K mainGlobals "is_small_letter"=some (some (.ref f2)))
    (F2:Fun K "is_small_letter" "is_small_letter" iQ f2 d2)
    (a3:nsIn K mainGlobals "is_name"=some (some (.ref f3)))
    (F3:Fun K "is_name" "is_name" BC f3 d3)
    (a4:nsIn K mainGlobals "kept"=some (some (.ref f4)))
    (F4:Fun K "kept" "kept" IW f4 d4)
    (a5:nsIn K mainGlobals "show_rows"=some (some (.ref f5)))
    (F5:Fun K "show_rows" "show_rows" rX f5 d5)
    (a6:nsIn K mainGlobals "show_row"=some (some (.ref f6)))
    (F6:Fun K "show_row" "show_row" wM f6 d6)
    (a7:nsIn K mainGlobals "show_word"=some (some (.ref f7)))
    (F7:Fun K "show_word" "show_word" rY f7 d7)
    (a8:nsIn K mainGlobals "read_rows"=some (some (.ref f8)))
    (F8:Fun K "read_rows" "read_rows" rV f8 d8)
    (a9:nsIn K mainGlobals "is_row"=some (some (.ref f9)))
    (F9:Fun K "is_row" "is_row" EF f9 d9)
    (a10:nsIn K mainGlobals "is_word_of"=some (some (.ref f10)))
    (F10:Fun K "is_word_of" "is_word_of" rQ f10 d10)
    (a11:nsIn K mainGlobals "row_of"=some (some (.ref f11)))
    (F11:Fun K "row_of" "row_of" EG f11 d11)
    (a12:nsIn K mainGlobals "thing_of"=some (some (.ref f12)))
    (F12:Fun K "thing_of" "thing_of" wN f12 d12)
    (a13:nsIn K mainGlobals "worth_of"=some (some (.ref f13)))
    (F13:Fun K "worth_of" "worth_of" wO f13 d13)
    (a14:nsIn K mainGlobals "joined"=some (some (.ref f14)))
    (F14:Fun K "joined" "joined" BD f14 d14)
    (a15:nsIn K mainGlobals "number_of"=some (some (.ref f15)))
    (F15:Fun K "number_of" "number_of" rT f15 d15)
    (a16:nsIn K mainGlobals "one_or_nought"=some (some (.ref f16)))
    (F16:Fun K "one_or_nought" "one_or_nought" lE f16 d16)
    (a17:findIn K (.ref aJ) "__init__"=some (some (.ref f17))) (i17:isFn K (.ref f17)=true)
    (F17:Fun K "__init__" "Tickets.__init__" lA f17 d17)
    (a18:findIn K (.ref aJ) "make"=some (some (.ref f18))) (i18:isFn K (.ref f18)=true)
    (F18:Fun K "make" "Tickets.make" lB f18 d18)
    (a19:findIn K (.ref aJ) "is_open"=some (some (.ref f19))) (i19:isFn K (.ref f19)=true)
    (F19:Fun K "is_open" "Tickets.is_open" iP f19 d19)
    (a20:findIn K (.ref aJ) "those_open"=some (some (.ref f20))) (i20:isFn K (.ref f20)=true)
    (F20:Fun K "those_open" "Tickets.those_open" fQ f20 d20)
    (a21:findIn K (.ref aJ) "finish"=some (some (.ref f21))) (i21:isFn K (.ref f21)=true)
    (F21:Fun K "finish" "Tickets.finish" iO f21 d21)
    (a22:findIn K (.ref aJ) "shut"=some (some (.ref f22))) (i22:isFn K (.ref f22)=true)
    (F22:Fun K "shut" "Tickets.shut" lD f22 d22)
    (a23:findIn K (.ref aJ) "shut_all"=some (some (.ref f23))) (i23:isFn K (.ref f23)=true)
    (F23:Fun K "shut_all" "Tickets.shut_all" gW f23 d23)
    (a24:findIn K (.ref aJ) "first_done"=some (some (.ref f24))) (i24:isFn K (.ref f24)=true)
    (F24:Fun K "first_done" "Tickets.first_done" fP f24 d24)
    (a25:findIn K (.ref aV) "__init__"=some (some (.ref f25))) (i25:isFn K (.ref f25)=true)
    (F25:Fun K "__init__" "Walk.__init__" rO f25 d25)
    (a26:findIn K (.ref aV) "come_to"=some (some (.ref f26))) (i26:isFn K (.ref f26)=true)
    (F26:Fun K "come_to" "Walk.come_to" mQ f26 d26)
    (a27:findIn K (.ref aV) "stands_at"=some (some (.ref f27))) (i27:isFn K (.ref f27)=true)
    (F27:Fun K "stands_at" "Walk.stands_at" j4 f27 d27)
    (a28:findIn K (.ref aV) "pass_by"=some (some (.ref f28))) (i28:isFn K (.ref f28)=true)
    (F28:Fun K "pass_by" "Walk.pass_by" mR f28 d28)
    (a29:findIn K (.ref aV) "enter"=some (some (.ref f29))) (i29:isFn K (.ref f29)=true)
    (F29:Fun K "enter" "Walk.enter" oV f29 d29)
    (a30:findIn K (.ref aV) "leave"=some (some (.ref f30))) (i30:isFn K (.ref f30)=true)
    (F30:Fun K "leave" "Walk.leave" oW f30 d30)
    (a31:findIn K (.ref aV) "place"=some (some (.ref f31))) (i31:isFn K (.ref f31)=true)
    (F31:Fun K "place" "Walk.place" oX f31 d31)
    (a32:nsIn K mainGlobals "do_set"=some (some (.ref f32)))
    (F32:Fun K "do_set" "do_set" EE f32 d32)
    (a33:nsIn K mainGlobals "do_order"=some (some (.ref f33)))
    (F33:Fun K "do_order" "do_order" wH f33 d33)
    (a34:nsIn K mainGlobals "do_timer"=some (some (.ref f34)))
    (F34:Fun K "do_timer" "do_timer" wI f34 d34)
    (a35:nsIn K mainGlobals "do_send"=some (some (.ref f35)))
    (F35:Fun K "do_send" "do_send" BA f35 d35)
    (a36:nsIn K mainGlobals "do_drop"=some (some (.ref f36)))
    (F36:Fun K "do_drop" "do_drop" By f36 d36)
    (a37:nsIn K mainGlobals "do_wait"=some (some (.ref f37)))
    (F37:Fun K "do_wait" "do_wait" BB f37 d37)
    (a38:nsIn K mainGlobals "do_hear"=some (some (.ref f38)))
    (F38:Fun K "do_hear" "do_hear" Bz f38 d38)
    (a39:nsIn K mainGlobals "do_end"=some (some (.ref f39)))
    (F39:Fun K "do_end" "do_end" ED f39 d39)
    (a40:findIn K (.ref aU) "__init__"=some (some (.ref f40))) (i40:isFn K (.ref f40)=true)
    (F40:Fun K "__init__" "Run.__init__" wC f40 d40)
    (a41:findIn K (.ref aU) "waits"=some (some (.ref f41))) (i41:isFn K (.ref f41)=true)
    (F41:Fun K "waits" "Run.waits" rM f41 d41)
    (a42:findIn K (.ref aU) "open_tickets"=some (some (.ref f42))) (i42:isFn K (.ref f42)=true)
    (F42:Fun K "open_tickets" "Run.open_tickets" gU f42 d42)
    (a43:findIn K (.ref aU) "state"=some (some (.ref f43))) (i43:isFn K (.ref f43)=true)
    (F43:Fun K "state" "Run.state" rL f43 d43)
    (a44:findIn K (.ref aU) "take"=some (some (.ref f44))) (i44:isFn K (.ref f44)=true)
    (F44:Fun K "take" "Run.take" wF f44 d44)
    (a45:findIn K (.ref aU) "passes_over"=some (some (.ref f45))) (i45:isFn K (.ref f45)=true)
    (F45:Fun K "passes_over" "Run.passes_over" iM f45 d45)
    (a46:findIn K (.ref aU) "take_done"=some (some (.ref f46))) (i46:isFn K (.ref f46)=true)
    (F46:Fun K "take_done" "Run.take_done" k9 f46 d46)
    (a47:findIn K (.ref aU) "take_letter"=some (some (.ref f47))) (i47:isFn K (.ref f47)=true)
    (F47:Fun K "take_letter" "Run.take_letter" iN f47 d47)
    (a48:findIn K (.ref aU) "wake"=some (some (.ref f48))) (i48:isFn K (.ref f48)=true)
    (F48:Fun K "wake" "Run.wake" wG f48 d48)
    (a49:findIn K (.ref aU) "go_on"=some (some (.ref f49))) (i49:isFn K (.ref f49)=true)
    (F49:Fun K "go_on" "Run.go_on" wB f49 d49)
    (a50:findIn K (.ref aU) "do_one"=some (some (.ref f50))) (i50:isFn K (.ref f50)=true)
    (F50:Fun K "do_one" "Run.do_one" rK f50 d50)
    (a51:findIn K (.ref aU) "look"=some (some (.ref f51))) (i51:isFn K (.ref f51)=true)
    (F51:Fun K "look" "Run.look" wD f51 d51)
    (a52:findIn K (.ref aU) "end"=some (some (.ref f52))) (i52:isFn K (.ref f52)=true)
    (F52:Fun K "end" "Run.end" Bx f52 d52)
    (a53:findIn K (.ref aU) "wear_out"=some (some (.ref f53))) (i53:isFn K (.ref f53)=true)
    (F53:Fun K "wear_out" "Run.wear_out" mP f53 d53)
    (a54:findIn K (.ref aU) "worth"=some (some (.ref f54))) (i54:isFn K (.ref f54)=true)
    (F54:Fun K "worth" "Run.worth" rN f54 d54)
    (a55:findIn K (.ref aU) "new_ticket"=some (some (.ref f55))) (i55:isFn K (.ref f55)=true)
    (F55:Fun K "new_ticket" "Run.new_ticket" j0 f55 d55)
    (a56:nsIn K mainGlobals "show_log"=some (some (.ref f56)))
    (F56:Fun K "show_log" "show_log" wL f56 d56)
    (a57:nsIn K mainGlobals "read_log"=some (some (.ref f57)))
    (F57:Fun K "read_log" "read_log" wK f57 d57)
    (a58:nsIn K mainGlobals "run_again"=some (some (.ref f58)))
    (F58:Fun K "run_again" "run_again" rW f58 d58)
    (a59:nsIn K mainGlobals "_law_cell_at"=some (some (.ref f59)))
    (F59:Fun K "_law_cell_at" "_law_cell_at" oY f59 d59)
    (a60:nsIn K mainGlobals "_law_jar"=some (some (.ref f60)))
    (F60:Fun K "_law_jar" "_law_jar" BE f60 d60)
    (a61:nsIn K mainGlobals "_law_take"=some (some (.ref f61)))
    (F61:Fun K "_law_take" "_law_take" wJ f61 d61)
    (a62:nsIn K mainGlobals "_law_worth"=some (some (.ref f62)))
    (F62:Fun K "_law_worth" "_law_worth" rS f62 d62)
    (a63:nsIn K mainGlobals "_law_moment"=some (some (.ref f63)))
    (F63:Fun K "_law_moment" "_law_moment" oZ f63 d63)
    (a64:nsIn K mainGlobals "_law_happening"=some (some (.ref f64)))
    (F64:Fun K "_law_happening" "_law_happening" j6 f64 d64)
    (a65:nsIn K mainGlobals "_law_saying"=some (some (.ref f65)))
    (F65:Fun K "_law_saying" "_law_saying" pA f65 d65)
    (a66:nsIn K mainGlobals "_law_waiting"=some (some (.ref f66)))
    (F66:Fun K "_law_waiting" "_law_waiting" mT f66 d66)
    (a67:nsIn K mainGlobals "_law_statement"=some (some (.ref f67)))
    (F67:Fun K "_law_statement" "_law_statement" j7 f67 d67)
    (a68:nsIn K mainGlobals "_law_block"=some (some (.ref f68)))
    (F68:Fun K "_law_block" "_law_block" rR f68 d68)
    (a69:nsIn K mainGlobals "_law_program"=some (some (.ref f69)))
    (F69:Fun K "_law_program" "_law_program" mS f69 d69)
    (a70:nsIn K mainGlobals "law"=some (some (.ref f70)))
    (F70:Fun K "law" "law" Pt f70 d70)
    (vN:findIn K (.ref aJ) "made"=some none)
    (fV:findIn K (.ref aJ) "pending"=some none)
    (fT:findIn K (.ref aJ) "answers"=some none)
    (iA:findIn K (.ref aV) "blocks"=some none)
    (eK:findIn K (.ref aV) "numbers"=some none)
    (jU:findIn K (.ref aU) "walk"=some none)
    (c9:findIn K (.ref aU) "sleep"=some none)
    (Df:findIn K (.ref aU) "arg"=some none)
    (tG:findIn K (.ref aU) "now"=some none)
    (fJ:findIn K (.ref aU) "names"=some none)
    (cN:findIn K (.ref aU) "tickets"=some none)
    (fU:findIn K (.ref aU) "letters"=some none)
    (v0:nsIn K mainGlobals "GREATEST_WORTH"=some (some (.int 1000000000 tk0)))
    (v1:nsIn K mainGlobals "GREATEST_MOMENT"=some (some (.int 1000000000000 tk1)))
    (v2:nsIn K mainGlobals "LONGEST_NAME"=some (some (.int 6 tk2)))
    (v3:nsIn K mainGlobals "OWN_WORDS"=some (some (.ref tp3))) (u3:K.lookup tp3=some ⟨.type "tuple",td3,.seq #[.str "order" adL,.str "timer" adM,.str "child" adN,.str "send" adO,.str "drop" adP,.str "wait" adQ,.str "hear" adR,.str "if" adS,.str "else" adT,.str "done" adU,.str "while" acN,.str "end" acO,.str "none" acP,.str "arg" acQ,.str "now" acR,.str "answer" acS,.str "not" acT] tn3,ts3⟩)
    (v4:nsIn K mainGlobals "GREATEST_TICKET"=some (some (.int 1000000000 tk4)))
    (v5:nsIn K mainGlobals "MOST_AT_ONCE"=some (some (.int 300 tk5)))
    (v6:nsIn K mainGlobals "DEEDS"=some (some (.ref tp6))) (u6:K.lookup tp6=some {cls:=.type "dict",data:=.dict te6 tn6})
    (ad9:nsIn K tp6 "set"=some (some (.ref f32)))
    (aeA:nsIn K tp6 "order"=some (some (.ref f33)))
    (aeB:nsIn K tp6 "timer"=some (some (.ref f34)))
    (aeC:nsIn K tp6 "child"=some (some (.ref f33)))
    (aeD:nsIn K tp6 "send"=some (some (.ref f35)))
    (aeE:nsIn K tp6 "drop"=some (some (.ref f36)))
    (aeF:nsIn K tp6 "wait"=some (some (.ref f37)))
    (aeG:nsIn K tp6 "hear"=some (some (.ref f38)))
    (aeH:nsIn K tp6 "end"=some (some (.ref f39)))
    (v7:nsIn K mainGlobals "HAPPENINGS"=some (some (.ref tp7))) (u7:K.lookup tp7=some {cls:=.type "dict",data:=.dict #[⟨ab1,.str "begin" ab4,.ref aa2⟩,⟨ab2,.str "done" ab5,.ref aa3⟩,⟨ab3,.str "letter" ab6,.ref aa4⟩] tn7})
    (aeI:K.lookup aa2=some ⟨.type "tuple",adC,.seq #[.str "moment" abO,.str "worth" abP] adF,adI⟩)
    (aeJ:K.lookup aa3=some ⟨.type "tuple",adD,.seq #[.str "moment" abQ,.str "ticket" abR,.str "worth" abS] adG,adJ⟩)
    (aeK:K.lookup aa4=some ⟨.type "tuple",adE,.seq #[.str "moment" abT,.str "name" abU,.str "worth" abV] adH,adK⟩)
    (Qk:nsIn K mainGlobals "all"=some none)
    (Ql:nsIn K mainGlobals "dict"=some none)
    (r9:nsIn K mainGlobals "enumerate"=some none)
    (MN:nsIn K mainGlobals "int"=some none)
    (pJ:nsIn K mainGlobals "isinstance"=some none)
    (tX:nsIn K mainGlobals "len"=some none)
    (MP:nsIn K mainGlobals "max"=some none)
    (Ta:nsIn K mainGlobals "min"=some none)
    (BY:nsIn K mainGlobals "range"=some none)
    (Tb:nsIn K mainGlobals "set"=some none)
    (qC:nsIn K mainGlobals "sorted"=some none)
    (Qo:nsIn K mainGlobals "str"=some none)
    (iS:nsIn K mainGlobals "tuple"=some none)
    (Tc:nsIn K mainGlobals "zip"=some none)
    (kl6:KeysLit w.params te6.toList)
    (kl7:KeysLit w.params [⟨ab1,.str "begin" ab4,.ref aa2⟩,⟨ab2,.str "done" ab5,.ref aa3⟩,⟨ab3,.str "letter" ab6,.ref aa4⟩]) (ns7:(tp7==sysModules)=false)
    : ∃ fd:FuncData,(∀(s:Shared) (v:Value),BindsTo s fd ⟨[v],[]⟩ [("script",v)])/\∀ base:Heap,K.In base->base.Ns mainGlobals mg->bD l.prog w K mg base CX0 30 fa fd ["script"] (Kn K):=by
  have e:=hfa.symm.trans (mg_of X G a70);cases e;have T:Tx w K mg ⟨f0,_,f1,_,f2,_,f3,_,f4,_,f5,_,f6,_,f7,_,f8,_,f9,_,f10,_,f11,_,f12,_,f13,_,f14,_,f15,_,f16,_,f17,_,f18,_,f19,_,f20,_,f21,_,f22,_,f23,_,f24,_,f25,_,f26,_,f27,_,f28,_,f29,_,f30,_,f31,_,f32,_,f33,_,f34,_,f35,_,f36,_,f37,_,f38,_,f39,_,f40,_,f41,_,f42,_,f43,_,f44,_,f45,_,f46,_,f47,_,f48,_,f49,_,f50,_,f51,_,f52,_,f53,_,f54,_,f55,_,f56,_,f57,_,f58,_,f59,_,f60,_,f61,_,f62,_,f63,_,f64,_,f65,_,f66,_,f67,_,f68,_,f69,_,fa,_,tk0,tk1,tk2,tp3,tk4,tk5,tp6,tp7,aa2,aa3,aa4,aJ,aV,aU⟩:=⟨F0,(F0.binds fun _ _ _ _ _ _=>bS fun _=>bS fun _=>bS fun _=>b0 rfl),(mg_of X G a0),F1,(F1.binds fun _ _ _ _ _ _=>bS fun _=>b0 rfl),(mg_of X G a1),F2,(F2.binds fun _ _ _ _ _ _=>bS fun _=>b0 rfl),(mg_of X G a2),F3,(F3.binds fun _ _ _ _ _ _=>bS fun _=>b0 rfl),(mg_of X G a3),F4,(F4.binds fun _ _ _ _ _ _=>bS fun _=>b0 rfl),(mg_of X G a4),F5,(F5.binds fun _ _ _ _ _ _=>bS fun _=>b0 rfl),(mg_of X G a5),F6,(F6.binds fun _ _ _ _ _ _=>bS fun _=>b0 rfl),(mg_of X G a6),F7,(F7.binds fun _ _ _ _ _ _=>bS fun _=>b0 rfl),(mg_of X G a7),F8,(F8.binds fun _ _ _ _ _ _=>bS fun _=>bS fun _=>b0 rfl),(mg_of X G a8),F9,(F9.binds fun _ _ _ _ _ _=>bS fun _=>bS fun _=>b0 rfl),(mg_of X G a9),F10,(F10.binds fun _ _ _ _ _ _=>bS fun _=>bS fun _=>b0 rfl),(mg_of X G a10),F11,(F11.binds fun _ _ _ _ _ _=>bS fun _=>bS fun _=>b0 rfl),(mg_of X G a11),F12,(F12.binds fun _ _ _ _ _ _=>bS fun _=>bS fun _=>b0 rfl),(mg_of X G a12),F13,(F13.binds fun _ _ _ _ _ _=>bS fun _=>bS fun _=>bS fun _=>bS fun _=>bS fun _=>b0 rfl),(mg_of X G a13),F14,(F14.binds fun _ _ _ _ _ _=>bS fun _=>bS fun _=>bS fun _=>b0 rfl),(mg_of X G a14),F15,(F15.binds fun _ _ _ _ _ _=>bS fun _=>b0 rfl),(mg_of X G a15),F16,(F16.binds fun _ _ _ _ _ _=>bS fun _=>b0 rfl),(mg_of X G a16),F17,(F17.binds fun _ _ _ _ _ _=>bS fun _=>b0 rfl),⟨a17,i17,F17.kp⟩,F18,(F18.binds fun _ _ _ _ _ _=>bS fun _=>b0 rfl),⟨a18,i18,F18.kp⟩,F19,(F19.binds fun _ _ _ _ _ _=>bS fun _=>bS fun _=>b0 rfl),⟨a19,i19,F19.kp⟩,F20,(F20.binds fun _ _ _ _ _ _=>bS fun _=>b0 rfl),⟨a20,i20,F20.kp⟩,F21,(F21.binds fun _ _ _ _ _ _=>bS fun _=>bS fun _=>bS fun _=>b0 rfl),⟨a21,i21,F21.kp⟩,F22,(F22.binds fun _ _ _ _ _ _=>bS fun _=>bS fun _=>b0 rfl),⟨a22,i22,F22.kp⟩,F23,(F23.binds fun _ _ _ _ _ _=>bS fun _=>b0 rfl),⟨a23,i23,F23.kp⟩,F24,(F24.binds fun _ _ _ _ _ _=>bS fun _=>bS fun _=>b0 rfl),⟨a24,i24,F24.kp⟩,F25,(F25.binds fun _ _ _ _ _ _=>bS fun _=>bS fun _=>b0 rfl),⟨a25,i25,F25.kp⟩,F26,(F26.binds fun _ _ _ _ _ _=>bS fun _=>b0 rfl),⟨a26,i26,F26.kp⟩,F27,(F27.binds fun _ _ _ _ _ _=>bS fun _=>b0 rfl),⟨a27,i27,F27.kp⟩,F28,(F28.binds fun _ _ _ _ _ _=>bS fun _=>b0 rfl),⟨a28,i28,F28.kp⟩,F29,(F29.binds fun _ _ _ _ _ _=>bS fun _=>bS fun _=>b0 rfl),⟨a29,i29,F29.kp⟩,F30,(F30.binds fun _ _ _ _ _ _=>bS fun _=>b0 rfl),⟨a30,i30,F30.kp⟩,F31,(F31.binds fun _ _ _ _ _ _=>bS fun _=>b0 rfl),⟨a31,i31,F31.kp⟩,F32,(F32.binds fun _ _ _ _ _ _=>bS fun _=>bS fun _=>b0 rfl),(mg_of X G a32),F33,(F33.binds fun _ _ _ _ _ _=>bS fun _=>bS fun _=>b0 rfl),(mg_of X G a33),F34,(F34.binds fun _ _ _ _ _ _=>bS fun _=>bS fun _=>b0 rfl),(mg_of X G a34),F35,(F35.binds fun _ _ _ _ _ _=>bS fun _=>bS fun _=>b0 rfl),(mg_of X G a35),F36,(F36.binds fun _ _ _ _ _ _=>bS fun _=>bS fun _=>b0 rfl),(mg_of X G a36),F37,(F37.binds fun _ _ _ _ _ _=>bS fun _=>bS fun _=>b0 rfl),(mg_of X G a37),F38,(F38.binds fun _ _ _ _ _ _=>bS fun _=>bS fun _=>b0 rfl),(mg_of X G a38),F39,(F39.binds fun _ _ _ _ _ _=>bS fun _=>bS fun _=>b0 rfl),(mg_of X G a39),F40,(F40.binds fun _ _ _ _ _ _=>bS fun _=>bS fun _=>b0 rfl),⟨a40,i40,F40.kp⟩,F41,(F41.binds fun _ _ _ _ _ _=>bS fun _=>b0 rfl),⟨a41,i41,F41.kp⟩,F42,(F42.binds fun _ _ _ _ _ _=>bS fun _=>b0 rfl),⟨a42,i42,F42.kp⟩,F43,(F43.binds fun _ _ _ _ _ _=>bS fun _=>b0 rfl),⟨a43,i43,F43.kp⟩,F44,(F44.binds fun _ _ _ _ _ _=>bS fun _=>bS fun _=>b0 rfl),⟨a44,i44,F44.kp⟩,F45,(F45.binds fun _ _ _ _ _ _=>bS fun _=>bS fun _=>b0 rfl),⟨a45,i45,F45.kp⟩,F46,(F46.binds fun _ _ _ _ _ _=>bS fun _=>bS fun _=>bS fun _=>b0 rfl),⟨a46,i46,F46.kp⟩,F47,(F47.binds fun _ _ _ _ _ _=>bS fun _=>bS fun _=>bS fun _=>b0 rfl),⟨a47,i47,F47.kp⟩,F48,(F48.binds fun _ _ _ _ _ _=>bS fun _=>bS fun _=>b0 rfl),⟨a48,i48,F48.kp⟩,F49,(F49.binds fun _ _ _ _ _ _=>bS fun _=>b0 rfl),⟨a49,i49,F49.kp⟩,F50,(F50.binds fun _ _ _ _ _ _=>bS fun _=>bS fun _=>b0 rfl),⟨a50,i50,F50.kp⟩,F51,(F51.binds fun _ _ _ _ _ _=>bS fun _=>bS fun _=>b0 rfl),⟨a51,i51,F51.kp⟩,F52,(F52.binds fun _ _ _ _ _ _=>bS fun _=>bS fun _=>b0 rfl),⟨a52,i52,F52.kp⟩,F53,(F53.binds fun _ _ _ _ _ _=>bS fun _=>b0 rfl),⟨a53,i53,F53.kp⟩,F54,(F54.binds fun _ _ _ _ _ _=>bS fun _=>bS fun _=>b0 rfl),⟨a54,i54,F54.kp⟩,F55,(F55.binds fun _ _ _ _ _ _=>bS fun _=>bS fun _=>b0 rfl),⟨a55,i55,F55.kp⟩,F56,(F56.binds fun _ _ _ _ _ _=>bS fun _=>b0 rfl),(mg_of X G a56),F57,(F57.binds fun _ _ _ _ _ _=>bS fun _=>b0 rfl),(mg_of X G a57),F58,(F58.binds fun _ _ _ _ _ _=>bS fun _=>bS fun _=>b0 rfl),(mg_of X G a58),F59,(F59.binds fun _ _ _ _ _ _=>bS fun _=>bS fun _=>b0 rfl),(mg_of X G a59),F60,(F60.binds fun _ _ _ _ _ _=>bS fun _=>b0 rfl),(mg_of X G a60),F61,(F61.binds fun _ _ _ _ _ _=>bS fun _=>bS fun _=>b0 rfl),(mg_of X G a61),F62,(F62.binds fun _ _ _ _ _ _=>bS fun _=>b0 rfl),(mg_of X G a62),F63,(F63.binds fun _ _ _ _ _ _=>bS fun _=>b0 rfl),(mg_of X G a63),F64,(F64.binds fun _ _ _ _ _ _=>bS fun _=>b0 rfl),(mg_of X G a64),F65,(F65.binds fun _ _ _ _ _ _=>bS fun _=>bS fun _=>b0 rfl),(mg_of X G a65),F66,(F66.binds fun _ _ _ _ _ _=>bS fun _=>bS fun _=>b0 rfl),(mg_of X G a66),F67,(F67.binds fun _ _ _ _ _ _=>bS fun _=>bS fun _=>bS fun _=>b0 rfl),(mg_of X G a67),F68,(F68.binds fun _ _ _ _ _ _=>bS fun _=>bS fun _=>bS fun _=>b0 rfl),(mg_of X G a68),F69,(F69.binds fun _ _ _ _ _ _=>bS fun _=>b0 rfl),(mg_of X G a69),F70,(F70.binds fun _ _ _ _ _ _=>bS fun _=>b0 rfl),(mg_of X G a70),⟨aa9,aa6,abA,abB⟩,(mg_of X G aa5),⟨vL,a17,i17,aa8⟩,⟨acJ,acC,acK,acL⟩,(mg_of X G ab9),⟨Iv,a25,i25,acG⟩,⟨ac8,acZ,ac9,adA⟩,(mg_of X G acU),⟨J0,a40,i40,ac3⟩,vN,fV,fT,iA,eK,jU,c9,Df,tG,fJ,cN,fU,(mg_of X G v0),(mg_of X G v1),(mg_of X G v2),(mg_of X G v3),(fun H=>.inr ⟨_,_,_,u3,rfl,rfl,(by show 17<=sizeLine;decide),(.cons ⟨_,rfl⟩ (.cons ⟨_,rfl⟩ (.cons ⟨_,rfl⟩ (.cons ⟨_,rfl⟩ (.cons ⟨_,rfl⟩ (.cons ⟨_,rfl⟩ (.cons ⟨_,rfl⟩ (.cons ⟨_,rfl⟩ (.cons ⟨_,rfl⟩ (.cons ⟨_,rfl⟩ (.cons ⟨_,rfl⟩ (.cons ⟨_,rfl⟩ (.cons ⟨_,rfl⟩ (.cons ⟨_,rfl⟩ (.cons ⟨_,rfl⟩ (.cons ⟨_,rfl⟩ (.cons ⟨_,rfl⟩ .nil)))))))))))))))))⟩),(mg_of X G v4),(mg_of X G v5),(mg_of X G v6),⟨_,_,u6,kl6⟩,ad9,aeA,aeB,aeC,aeD,aeE,aeF,aeG,aeH,(mg_of X G v7),⟨⟨_,_,u7,kl7,(.cons rfl (.cons rfl (.cons rfl .nil)))⟩,(show([.inr "begin",.inr "done",.inr "letter"]:List Key).Nodup by decide +kernel),ns7,(by show 3<=sizeLine;decide)⟩,(fun H=>.inr ⟨_,_,_,aeI,rfl,rfl,(by show 2<=sizeLine;decide),(.cons ⟨_,rfl⟩ (.cons ⟨_,rfl⟩ .nil))⟩),(fun H=>.inr ⟨_,_,_,aeJ,rfl,rfl,(by show 3<=sizeLine;decide),(.cons ⟨_,rfl⟩ (.cons ⟨_,rfl⟩ (.cons ⟨_,rfl⟩ .nil)))⟩),(fun H=>.inr ⟨_,_,_,aeK,rfl,rfl,(by show 3<=sizeLine;decide),(.cons ⟨_,rfl⟩ (.cons ⟨_,rfl⟩ (.cons ⟨_,rfl⟩ .nil)))⟩),(mg_none_of X G Qk),(mg_none_of X G Ql),(mg_none_of X G r9),(mg_none_of X G MN),(mg_none_of X G pJ),(mg_none_of X G tX),(mg_none_of X G MP),(mg_none_of X G Ta),(mg_none_of X G BY),(mg_none_of X G Tb),(mg_none_of X G qC),(mg_none_of X G Qo),(mg_none_of X G iS),(mg_none_of X G Tc)⟩;refine⟨d70,?_,fun base _ _=>Wb T⟩;obtain⟨_,_,_,_,_,_,_,_,_,rfl,_⟩:=F70.ex;exact fun s v=>.of_eq rfl
end
def walk{l:PySem.W.OpenLaw}{q:Program}{loose:List Str}{XP:(q0C)->Heap->Prop}{YP:World->Heap->Prop}{d:DefRec}{K:Params->q0B}(hn:l.most=some 63)(hdf:d.params.defaults=[])
    (hY:∀(w:World) (h:Heap),YP w h->(K w.params).In h)
    (F:∀(w:World) (mg:q0C) (fa:Addr) (h:Heap),(K w.params).In h->h.Ns mainGlobals mg->mg d.name=some (.ref fa) ->
      ∃ fd:FuncData,(∀(s:Shared) (u:Value),BindsTo s fd ⟨[u],[]⟩ [("script",u)])/\∀ base:Heap,(K w.params).In base->base.Ns mainGlobals mg->bD l.prog w (K w.params) mg base CX0 30 fa fd ["script"] (Kn (K w.params))) :
    PySem.W.WalkO q loose XP YP l.row.toRowW d [] (fun f vs=>PySem.call f vs) :=
  L2.S9 (n:=63) (k:=30) (x:="script") (CX:=fun _=>CX0) (sp:=fun w=>Kn (K w.params)) hn (by decide) hdf ⟨rfl,by decide,by decide⟩ hY F (fun _ _ a ns hl _ hS=>⟨a,ns,rfl,hS,hl,fun _=>rfl⟩) fun _ _ _ _ _ z=>z
end Own
open PySem PySem.W PyProof.Rows
set_option maxRecDepth 100000 in
set_option maxHeartbeats 0 in
theorem PySem.Challenge.cw_outlast_k27_whole_cut_anywhere_holds : PySem.Challenge.rw_outlast_k27_whole_cut_anywhere.Holds := by
 w_on;o_law;z_head;(case hw=>w_witness2)
 k_fill
 refine Own.Qj (fun _=>rfl) ?_;refine Own.walk (l:=PySem.Challenge.rw_outlast_k27_whole_cut_anywhere) rfl rfl (fun w h Y=>PySem.W.kIn_of Y) ?F
 case F =>
  intro w mg fa h KX G hmg;apply Own.Ur KX G hmg
  iterate 243 (first|(apply L2.VN<;>k_is)|k_is)
  exact⟨⟨_,_,rfl,rfl⟩,⟨_,_,rfl,rfl⟩,⟨_,_,rfl,rfl⟩,⟨_,_,rfl,rfl⟩,⟨_,_,rfl,rfl⟩,⟨_,_,rfl,rfl⟩,⟨_,_,rfl,rfl⟩,⟨_,_,rfl,rfl⟩,⟨_,_,rfl,rfl⟩,trivial⟩;exact⟨⟨_,_,rfl,rfl⟩,⟨_,_,rfl,rfl⟩,⟨_,_,rfl,rfl⟩,trivial⟩;decide +kernel
