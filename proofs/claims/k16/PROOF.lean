import PyProof.Rows.All
import Wide.All
import OpenK.AllK
import Wide.FinOn
import Lean
import PyProof.EqAt
import PyProof.EqKinds
import PyProof.TupleCall
import PySem.Challenge.RW_outlast_k16_blocks_gone_through
set_option Elab.async false
set_option linter.all false
set_option maxRecDepth 100000
local macro_rules | `(tactic| omega) => `(tactic| first | assumption | lia | omega +splitDisjunctions)
namespace PySem.W.Fast
def tw13016889263057980391:=0
def tw9800459180737764583:=0
def tw837659809398822893:=0
def tw131809651596055390:=0
def tw17257684898827214106:=0
def tw13541730682296809573:=0
def tw4295875054235028868:=0
def tw8528622617859542065:=0
def tw4667075759140138661:=0
def tw1064647584458831767:=0
def tw14248388893311521971:=0
def tw13677721804278146385:=0
def tw8516903806987684134:=0
def tw14160854834788291722:=0
def tw10420262397070301758:=0
def tw5141638751225394527:=0
def tw17731025494683893490:=0
def tw14921546882692209726:=0
def tw11971759583332039393:=0
def tw4469206489319034387:=0
def tw17495439542587265279:=0
def tw9906073103455747567:=0
def tw309913332838568261:=0
def tw6903218242494620444:=0
def tw12516114403687604689:=0
def tw13918623170048174158:=0
def tw5944790964323991166:=0
def tw1788838441736745661:=0
def tw8394837669695345519:=0
def tw13473765424528160023:=0
def tw17468789804228498833:=0
def tw3186191082659700774:=0
def tw4905046308271425754:=0
def tw1047553629353291248:=0
def tw13939221686226791689:=0
def tw7254220353103452459:=0
def tw4913839824567782784:=0
def tw5478085047069725637:=0
def tw8066687352478771137:=0
def tw6192387105359829658:=0
def tw9206042894280746329:=0
def tw13717639933945968276:=0
def tw14144020784386619163:=0
def tw5118496581344442677:=0
def tw7436345492178316099:=0
def tw8936927934425444764:=0
def tw2596894240058248381:=0
def tw4592658000782932380:=0
def tw5361882117024597025:=0
def tw2002300333309349412:=0
def tw17290062554596862704:=0
def tw13448028167660581025:=0
def tw10843214292468261686:=0
def tw4420611962337336870:=0
def tw2423704129651366484:=0
def tw10533928538653015734:=0
def tw10698732296125536412:=0
def tw9768538808972459701:=0
def tw11615400048900439884:=0
def tw17538886388002993553:=0
def tw2580092967951741018:=0
def tw5660497664666307500:=0
def tw13110102687047500338:=0
def tw706363557229045149:=0
def tw16150681648725294026:=0
def tw532852347801667795:=0
def tw4336763619936236473:=0
def tw16515137933987990344:=0
def tw16313161040388329852:=0
def tw3302547508043532488:=0
def tw12910201877344390070:=0
def tw2161242228084745107:=0
def tw12271253373561306460:=0
def tw2001557777600279805:=0
def tw13407836164266289486:=0
def tw5387462912506513132:=0
def tw14638000757477079465:=0
def tw2007074908583762997:=0
def tw1545757318012802491:=0
def tw12138968919661080462:=0
def tw11273961924960154486:=0
def tw13230077989656633887:=0
def tw15886266416749305455:=0
def tw12375742325118479559:=0
def tw780795440285926919:=0
def tw9788184902725862540:=0
def tw15724063548214275457:=0
def tw13987372151034942006:=0
def tw14368112178034537576:=0
def tw5061556176776380475:=0
def tw11219913203759854346:=0
def tw15409309764172970959:=0
def tw13326328308668505247:=0
def tw5164868324495729892:=0
def tw18153916501546867144:=0
def tw8877146873926738098:=0
def tw781296944594593987:=0
def tw17408444100269366084:=0
def tw12923199194446715080:=0
def tw15327925092457661421:=0
def tw9602256930573803000:=0
def tw5703960017995171135:=0
def tw16346031434973271400:=0
def tw8009856680502869853:=0
def tw4572343669178941259:=0
def tw13433789147871523473:=0
def tw2879500300102124006:=0
def tw5747194763337532218:=0
def tw2713402662774857229:=0
def tw2292951555671113058:=0
def tw2955264526688989248:=0
def tw16875958482814658600:=0
def tw3009829872220850321:=0
def tw18008321508190657000:=0
def tw3692152415448060239:=0
def tw8223573345719560749:=0
def tw18157594961411340731:=0
def tw15789071836575863748:=0
def tw10866022791704235063:=0
def tw12521442225418586496:=0
def tw18248113229837173217:=0
def tw16400707489954476378:=0
def tw11069129227210985948:=0
def tw1233233134295219201:=0
def tw6499284843438280144:=0
def tw1692205890912885651:=0
def tw7055674708867630258:=0
def tw1749293765336053183:=0
def tw7674977627457941825:=0
def tw3474365375999410203:=0
def tw2839252214849246345:=0
def tw2279656618144863988:=0
def tw9339763275070624106:=0
def tw114759612214982889:=0
def tw6898729155429803156:=0
def tw2170348823952966172:=0
def tw17538911786643190616:=0
def tw6487687905137066626:=0
def tw9663138243086448935:=0
def tw15508719315100214725:=0
def tw13135891591004327915:=0
def tw8607955938304282430:=0
def tw5377191413892152571:=0
def tw6405739307168234393:=0
def tw6078244404345401548:=0
def tw4727708915608863006:=0
def tw17274453475997547944:=0
def tw8674922984326204957:=0
def tw8650967471356529076:=0
def tw15205805964169013364:=0
def tw17327629624519025671:=0
def tw15117634885412913651:=0
def tw13407270693650158116:=0
def tw16654369595368717167:=0
def tw8043446844666326265:=0
def tw7165092125719503792:=0
def tw5435318584969968624:=0
def tw2311116823764615692:=0
def tw14088769099625680372:=0
def tw11267155522382650010:=0
def tw7332796650906858109:=0
def tw11632402050263305032:=0
def tw12350925159488968314:=0
def tw6159782456787968887:=0
def tw11162473069663722961:=0
def tw7884082127697746225:=0
def tw16894656839890617407:=0
def tw16707700717427293758:=0
def tw15725282051027021956:=0
def tw13007146249478000763:=0
def tw13544589779745881108:=0
def tw5485526174916386307:=0
def tw1929190427371528731:=0
def tw15584759463768916480:=0
def tw12405994343794263930:=0
def tw11325596761168865428:=0
def tw14202913569573189724:=0
def tw2611309438481750451:=0
def tw17851040686579461043:=0
def tw8371622208167057984:=0
def tw13094705227122914276:=0
def tw10174477777417294784:=0
def tw8812495741322640041:=0
def tw4695983590330669772:=0
def tw12830244700705532309:=0
def tw1994544753819617319:=0
def tw12299905815255111959:=0
def tw9204499677443117727:=0
def tw15533130823465972070:=0
def tw13777149082207206165:=0
def tw9973800546920847964:=0
def tw16590634179097697226:=0
def tw11585898738904608899:=0
def tw2260240524435982466:=0
def tw13093971165351560289:=0
def tw15229366887259415916:=0
def tw17221429380978259192:=0
def tw11602917925164932074:=0
def tw8937606700038610067:=0
def tw6828309639669471203:=0
def tw13146363759787633687:=0
def tw13937099926612176264:=0
def tw9983521956560245967:=0
def tw5661040816704800234:=0
def tw13253125287435386671:=0
def tw11217133984934221225:=0
def tw5802312306547079609:=0
def tw11333979797274685104:=0
def tw7878000957551661080:=0
def tw16550627095859743221:=0
def tw16357376416954794270:=0
def tw11145626097873906449:=0
def tw10095416195151193824:=0
def tw61856371895966675:=0
def tw2472946571148456905:=0
def tw13051977668229900752:=0
def tw2804440474853128476:=0
def tw1063128955639115894:=0
def tw1340239875235481451:=0
def tw8097530350534483513:=0
def tw8092513904080134891:=0
def tw654857316727198540:=0
def tw17945200437217471849:=0
def tw10837140889096773903:=0
def tw622023795340211814:=0
def tw4375489375948883292:=0
def tw15972553065462218256:=0
def tw14603385062894510844:=0
def tw5039037945317193445:=0
def tw16034478496287554865:=0
def tw14504217266097851434:=0
def tw14502410579628144758:=0
def tw7651325355716227768:=0
def tw14467563624442466274:=0
def tw3050648791677445158:=0
def tw15098265838128984338:=0
def tw9195822993073194185:=0
def tw11687085708334859168:=0
def tw17052579799843213989:=0
def tw9455543150078657904:=0
def tw15837197923278145024:=0
def tw11561417491450728411:=0
def tw4569750165745893492:=0
def tw17834580593093512632:=0
def tw17048120928393096094:=0
def tw12239580163983860223:=0
def tw14906048606597896526:=0
def tw11570897143886702605:=0
def tw4839913794532925855:=0
def tw11404368147840012325:=0
end PySem.W.Fast
namespace L2
open PySem PySem.Spec PyProof.Rows
inductive Key where
 | inl (i:Int) | inr (x:Str) | no
 deriving DecidableEq
noncomputable def keyIs:Key→Value→Bool
 | .inl k,v=>Value.isInt k v
 | .inr x,v=>Value.isStrOf x v
 | .no,.none=>true
 | .no,_=>false
noncomputable def keyH (w:World):Key→Int
 | .inl k=>hashInt k
 | .inr x=>hashStr w x
 | .no=>reduceHash 0xFCA86420
theorem keyIs_shape:∀ {k:Key} {v:Value},keyIs k v=true→(∃ i t,k=Key.inl i∧v=Value.int i t)∨(∃ x t,k=Key.inr x∧v=Value.str x t)∨(k=Key.no∧v=Value.none)
 | .inl i,v,h=>by
  obtain ⟨t,e⟩:=Value.isInt_shape (k:=i) (v:=v) h
  exact .inl ⟨i,t,rfl,e⟩
 | .inr x,v,h=>by
  obtain ⟨t,e⟩:=Value.isStrOf_shape (x:=x) (v:=v) h
  exact .inr (.inl ⟨x,t,rfl,e⟩)
 | .no,v,h=>by
  cases v<;>first | exact .inr (.inr ⟨rfl,rfl⟩) | cases h
theorem keyIs_int (i:Int) (t:Tok):keyIs (.inl i) (.int i t)=true:=by simp [keyIs,Value.isInt]
theorem keyIs_str (x:Str) (t:Tok):keyIs (.inr x) (.str x t)=true:=by simp [keyIs,Value.isStrOf]
theorem key_ll (a b:Int):decide (Key.inl a=Key.inl b)=(a == b):=by
 by_cases e:a=b
 ·subst e;simp
 ·have h:¬ Key.inl a=Key.inl b:=fun q=>e (Key.inl.inj q)
  rw [decide_eq_false h]
  exact (beq_eq_false_iff_ne.mpr e).symm
theorem key_rr (a b:Str):decide (Key.inr a=Key.inr b)=decide (a=b):=by
 by_cases e:a=b
 ·subst e;simp
 ·have h:¬ Key.inr a=Key.inr b:=fun q=>e (Key.inr.inj q)
  rw [decide_eq_false h,decide_eq_false e]
noncomputable def mixKind (prog:Program) (w:World):PySem.KeyKind prog w Key where
 is:=keyIs
 hash:=keyH w
 inj:=fun v a b ha hb=>by
  rcases keyIs_shape ha with ⟨i,t,rfl,rfl⟩ | ⟨x,t,rfl,rfl⟩ | ⟨rfl,rfl⟩<;>rcases keyIs_shape hb with ⟨j,u,rfl,e⟩ | ⟨y,u,rfl,e⟩ | ⟨rfl,e⟩ <;>
   first | rfl | (cases e<;>rfl)
 byValue:=fun k v h=>by
  rcases keyIs_shape h with ⟨i,t,rfl,rfl⟩ | ⟨x,t,rfl,rfl⟩ | ⟨rfl,rfl⟩<;>rfl
 pyHash:=fun hv h=>by
  rcases keyIs_shape hv with ⟨i,t,rfl,rfl⟩ | ⟨x,t,rfl,rfl⟩ | ⟨rfl,rfl⟩
  ·exact wpAny_pyHash_int h
  ·exact wpAny_pyHash_str h
  ·exact PySem.W.pyHash_slot (T:="NoneType") rfl F.slot_NoneType_hash F.entry_NoneType_hash (F.args_NoneType_hash_1 _) (beq_builtin_none _) (.inl rfl) (wpAny_bind (wpAny_pure (wpAny_bind (wpAny_mkInt (wpAny_pure ⟨_,_,rfl,h⟩)))))
 eqBool:=fun hu hv h=>by
  rcases keyIs_shape hu with ⟨i,t,rfl,rfl⟩ | ⟨x,t,rfl,rfl⟩ | ⟨rfl,rfl⟩<;>rcases keyIs_shape hv with ⟨j,u,rfl,rfl⟩ | ⟨y,u,rfl,rfl⟩ | ⟨rfl,rfl⟩
  ·rw [key_ll] at h;exact wpAny_eqBool_int h
  ·exact SeqAt.EqAt.int_str i t y u _ _ _ _ h
  ·exact SeqAt.EqAt.int_none i t _ _ _ _ h
  ·exact SeqAt.EqAt.str_int x t j u _ _ _ _ h
  ·rw [key_rr] at h;exact wpAny_eqBool_str h
  ·exact SeqAt.EqAt.str_none x t _ _ _ _ h
  ·exact SeqAt.EqAt.none_int j u _ _ _ _ h
  ·exact SeqAt.EqAt.none_str y u _ _ _ _ h
  ·exact SeqAt.EqAt.same .none _ _ _ _ h
 «strs»:=fun k x t v h=>by
  rcases keyIs_shape h with ⟨i,u,rfl,e⟩ | ⟨y,u,rfl,e⟩ | ⟨rfl,e⟩
  ·exact nomatch e
  ·injection e with e1 _
   subst e1
   cases v<;>rfl
  ·exact nomatch e
theorem mixKind_int (prog:Program) (w:World) (i:Int) (t:Tok):(mixKind prog w).is (.inl i) (.int i t)=true:=keyIs_int i t
theorem mixKind_str (prog:Program) (w:World) (x:Str) (t:Tok):(mixKind prog w).is (.inr x) (.str x t)=true:=keyIs_str x t
end L2
namespace L2
open PySem PySem.Spec PyProof.Rows
inductive V where
 | non | bl (b:Bool) | int (i:Int) | str (x:Str) | byt (b:Array UInt8) | flt (b:UInt64) | ref (a:Addr) | ty (n:String)
 deriving DecidableEq
noncomputable def RelV:V→Value→Prop
 | .non,u=>u=Value.none
 | .bl b,u=>u=Value.bool b
 | .int i,u=>∃ t,u=Value.int i t
 | .str x,u=>∃ t,u=Value.str x t
 | .byt b,u=>∃ t,u=Value.bytes b t
 | .flt b,u=>∃ t,u=Value.float b t
 | .ref a,u=>u=Value.ref a
 | .ty n,u=>u=Value.type n
noncomputable abbrev Vals:List V→List Value→Prop:=Paired RelV
theorem Vals.length {xs:List V} {us:List Value} (r:Vals xs us):xs.length=us.length:=Paired.length r
theorem Vals.get:∀ {xs:List V} {us:List Value} {i:Nat} {x:V},Vals xs us→xs[i]?=some x→∃ u,us[i]?=some u∧RelV x u
 | _,_,_,_,.nil,e=>by simp at e
 | _,_,0,_,.cons r _,e=>by simp at e;subst e;exact ⟨_,rfl,r⟩
 | _,_,i+1,x,.cons _ t,e=>by
  obtain ⟨u,h1,h2⟩:=Vals.get (i:=i) (x:=x) t (by simpa using e)
  exact ⟨u,by simpa using h1,h2⟩
theorem Vals.set {x:V} {u:Value} (r:RelV x u):∀ {xs:List V} {us:List Value} (i:Nat),Vals xs us→Vals (xs.set i x) (us.set i u)
 | _,_,_,.nil=>.nil
 | _,_,0,.cons _ t=>.cons r t
 | _,_,i+1,.cons q t=>.cons q (Vals.set r i t)
theorem Vals.append {xs ys:List V} {us ws:List Value} (h:Vals xs us) (s:Vals ys ws):Vals (xs++ys) (us++ws):=by
 induction h with
 | nil=>exact s
 | cons r _ ih=>exact .cons r ih
theorem Vals.take:∀ {xs:List V} {us:List Value} (n:Nat),Vals xs us→Vals (xs.take n) (us.take n)
 | _,_,0,_=>.nil
 | _,_,_+1,.nil=>.nil
 | _,_,n+1,.cons r t=>.cons r (Vals.take n t)
theorem Vals.drop:∀ {xs:List V} {us:List Value} (n:Nat),Vals xs us→Vals (xs.drop n) (us.drop n)
 | _,_,0,r=>r
 | _,_,_+1,.nil=>.nil
 | _,_,n+1,.cons _ t=>Vals.drop n t
theorem Vals.none_of:∀ {xs:List V} {us:List Value} {i:Nat},Vals xs us→xs[i]?=none→us[i]?=none:=fun {xs us i} r e=>by
 have h1:=r.length
 have h2:xs.length≤i:=List.getElem?_eq_none_iff.mp e
 exact List.getElem?_eq_none_iff.mpr (by omega)
noncomputable def RelO:Option V→Option Value→Prop
 | some v,some u=>RelV v u
 | none,none=>True
 | _,_=>False
noncomputable def KV {κ:Type}:List (κ×V)→List (κ×Value)→Prop:=Paired fun(p:κ×V) (q:κ×Value)=>p.1=q.1∧RelV p.2 q.2
noncomputable def kV:Key→V
 | .inl i=>.int i
 | .inr x=>.str x
 | .no=>.non
inductive HO where
 /-- a list -/
 | lst (xs:List V)
 /-- a tuple (never changes) -/
 | tup (xs:List V)
 /-- a dict whose keys are ints and texts;one whose keys are tuples of ints and texts (the empty one is both) -/
 | dK (kvs:List (Key×V)) | dT (kvs:List (List Key×V))
 /-- a set of ints: its members,its size -/
 | set (S:Int→Bool) (n:Nat)
 /-- an instance of the class at C,its dict at dx,its attributes -/
 | ins (C dx:Addr) (fs:List (Str×V))
 /-- the dict of the instance at x -/
 | own (x:Addr)
 /-- the dict of an exception -/
 | xd (fs:List (Str×V))
 /-- a bound method,f of x -/
 | met (f x:Addr)
 /-- a range object lo,lo+1,.. below hi -/
 | rng (lo hi:Int)
 /-- a thing that is known to the object (the script;a dict while a loop walks it): read,never written while it is so -/
 | frz (o:Obj) (u:HO)
 /-- a code object's table -/
 | tbl (ps:Array Value)
 /-- any other thing,by what is true of its one object (a def of one's own: SetO a S n:=HO.ext fun h=>..) -/
 | ext (φ:Heap→Prop)
noncomputable abbrev Hp:=Addr→Option HO
noncomputable def upd (H:Hp) (a:Addr) (o:HO):Hp:=fun b=>if b=a then some o else H b
theorem upd_same {H:Hp} {a:Addr} {o:HO}:upd H a o a=some o:=by unfold upd;rw [if_pos rfl]
theorem upd_ne {H:Hp} {a b:Addr} {o:HO} (h:b≠a):upd H a o b=H b:=by unfold upd;rw [if_neg h]
theorem ne_of {H:Hp} {a b:Addr} {o u:HO} (h:H a=some o) (h':H b=some u) (d:o≠u):a≠b:=by
 intro e;subst e;rw [h] at h';exact d (Option.some.inj h')
theorem ne_of_none {H:Hp} {a b:Addr} {o:HO} (h:H a=some o) (h':H b=none):a≠b:=by
 intro e;subst e;rw [h] at h';cases h'
section
variable (P:Program) (w:World)
noncomputable def ObjOk (H:Hp) (h:Heap) (a:Addr):HO→Prop
  | .lst xs=>xs.length≤sizeLine∧∃(its:List Value) (n:Nat),Vals xs its∧h.get? a=some {cls:=.type "list",data:=.seq its.toArray n}
  | .tup xs=>xs.length≤sizeLine∧∃ its:List Value,Vals xs its∧IsTup h a its.toArray
  | .dK kvs=>kvs.length≤sizeLine∧(a == sysModules)=false∧∃ vs,KV kvs vs∧h.DictOf (mixKind P w) a vs
  | .dT kvs=>kvs.length≤sizeLine∧(a == sysModules)=false∧∃ xs:List (List Key×Addr×Value),
      Paired (fun(p:List Key×V) (q:List Key×Addr×Value)=>p.1=q.1∧H q.2.1=some (.tup (p.1.map kV))∧RelV p.2 q.2.2) kvs xs ∧
      ∃ o es ep,h.get? a=some o∧o.ExactDict∧o.data=.dict es ep∧es.toList=xs.map (entryOfKey (tupleKind (mixKind P w)))∧(xs.map (·.1)).Nodup
  | .set S n=>h.SetOf (intKind P w) a S n
  | .ins C dx fs=>H dx=some (.own a)∧fs.length≤1000∧dx≠a∧h.get? a=some (PySem.W.instObj C dx) ∧
      ∃ mA,h.Ns1 dx mA∧(∀ f,RelO (fs.lookup f) (mA f))∧PySem.Within mA (fs.map (·.1))
  | .own _=>∃ o,h.get? a=some o
  | .xd fs=>∃ mA,h.Ns1 a mA∧∀ f,RelO (fs.lookup f) (mA f)
  | .rng lo hi=>∃ t u v,h.get? a=some {cls:=.type "range",data:=.fields #[.int lo t,.int hi u,.int 1 v]}
  | .frz o u=>h.get? a=some o∧ObjOk H h a u
  | .tbl ps=>h.get? a=some {cls:=.none,data:=.fields ps}
  | .met f x=>h.get? a=some (PySem.W.methodObj (.ref f) (.ref x))
  | .ext φ=>φ h∧(∃ o,h.get? a=some o)∧∀ h1 h2:Heap,φ h1→(∀ o,h1.get? a=some o→h2.get? a=some o)→φ h2
noncomputable def HOk (H:Hp) (h:Heap):Prop:=∀ a o,H a=some o→ObjOk P w H h a o
end
section
variable {P:Program} {w:World} {H H':Hp} {h h':Heap} {a:Addr} {o:HO}
theorem ObjOk.lt (x:ObjOk P w H h a o):a < h.objs.size:=by
 cases o with
 | lst xs=>obtain ⟨_,_,_,_,e⟩:=x;exact Heap.lt_size e
 | tup xs=>obtain ⟨_,_,_,p⟩:=x;exact p.lt
 | dK kvs=>obtain ⟨_,_,_,_,o,_,_,e,_⟩:=x;exact Heap.lt_size e
 | dT kvs=>obtain ⟨_,_,_,_,o,_,_,e,_⟩:=x;exact Heap.lt_size e
 | set S n=>obtain ⟨o,_,_,_,e,_⟩:=x;exact Heap.lt_size e
 | ins C dx fs=>obtain ⟨_,_,_,e,_⟩:=x;exact Heap.lt_size e
 | own y=>obtain ⟨_,e⟩:=x;exact Heap.lt_size e
 | xd fs=>obtain ⟨_,⟨_,_,_,e,_⟩,_⟩:=x;exact Heap.lt_size e
 | rng lo hi=>obtain ⟨_,_,_,e⟩:=x;exact Heap.lt_size e
 | frz ob u=>obtain ⟨e,_⟩:=x;exact Heap.lt_size e
 | tbl ps=>exact Heap.lt_size (show h.get? a=some _ from x)
 | met f y=>exact Heap.lt_size (show h.get? a=some _ from x)
 | ext φ=>obtain ⟨_,⟨_,e⟩,_⟩:=x;exact Heap.lt_size e
theorem Paired.mapP {α β:Type} {F G:α→β→Prop}:∀ {l₁:List α} {l₂:List β},Paired F l₁ l₂→(∀ a b,F a b→G a b)→Paired G l₁ l₂
 | _,_,.nil,_=>.nil
 | _,_,.cons r t,f=>.cons (f _ _ r) (Paired.mapP t f)
theorem ObjOk.stay (x:ObjOk P w H h a o) (k:∀ b u,(b=a∨H b=some (.own a))→h.get? b=some u→h'.get? b=some u) (ho:∀ b,H b=some (.own a)→H' b=some (.own a)) (ht:∀ b xs,H b=some (.tup xs)→H' b=some (.tup xs)):ObjOk P w H' h' a o:=by
 induction o with
 | lst xs=>obtain ⟨z,its,n,r,e⟩:=x;exact ⟨z,its,n,r,k _ _ (.inl rfl) e⟩
 | tup xs=>obtain ⟨z,its,r,ob,e,c⟩:=x;exact ⟨z,its,r,ob,k _ _ (.inl rfl) e,c⟩
 | dK kvs=>obtain ⟨z,y,vs,r,ob,es,ep,e,c⟩:=x;exact ⟨z,y,vs,r,ob,es,ep,k _ _ (.inl rfl) e,c⟩
 | dT kvs =>
  obtain ⟨z,y,xs,r,ob,es,ep,e,c⟩:=x
  exact ⟨z,y,xs,Paired.mapP r fun p q z=>⟨z.1,ht _ _ z.2.1,z.2.2⟩,ob,es,ep,k _ _ (.inl rfl) e,c⟩
 | set S n=>obtain ⟨ob,es,ep,t,e,c⟩:=x;exact ⟨ob,es,ep,t,k _ _ (.inl rfl) e,c⟩
 | ins C dx fs =>
  obtain ⟨d,z,ne,e,mA,⟨od,es,ep,e2,c⟩,r⟩:=x
  exact ⟨ho _ d,z,ne,k _ _ (.inl rfl) e,mA,⟨od,es,ep,k _ _ (.inr d) e2,c⟩,r⟩
 | own y=>obtain ⟨ob,e⟩:=x;exact ⟨ob,k _ _ (.inl rfl) e⟩
 | xd fs=>obtain ⟨mA,⟨od,es,ep,e,c⟩,r⟩:=x;exact ⟨mA,⟨od,es,ep,k _ _ (.inl rfl) e,c⟩,r⟩
 | rng lo hi=>obtain ⟨t,u,v,e⟩:=x;exact ⟨t,u,v,k _ _ (.inl rfl) e⟩
 | frz ob u ih=>obtain ⟨e,q⟩:=x;exact ⟨k _ _ (.inl rfl) e,ih q⟩
 | tbl ps =>
  have e:h.get? a=some {cls:=.none,data:=.fields ps}:=x
  show h'.get? a=some {cls:=.none,data:=.fields ps}
  exact k a _ (.inl rfl) e
 | met f y =>
  have e:h.get? a=some (PySem.W.methodObj (.ref f) (.ref y)):=x
  show h'.get? a=some (PySem.W.methodObj (.ref f) (.ref y))
  exact k a _ (.inl rfl) e
 | ext φ=>obtain ⟨p,⟨o,e⟩,st⟩:=x;exact ⟨st _ _ p fun o q=>k _ _ (.inl rfl) q,⟨o,k _ _ (.inl rfl) e⟩,st⟩
theorem HOk.lt (x:HOk P w H h) (e:H a=some o):a < h.objs.size:=(x a o e).lt
theorem HOk.fresh (x:HOk P w H h) (e:h.objs.size≤a):H a=none:=by
 cases q:H a with
 | none=>rfl
 | some u=>exact absurd (Nat.lt_of_lt_of_le (x.lt q) e) (Nat.lt_irrefl _)
theorem HOk.kept (x:HOk P w H h) (k:∀ b u,h.get? b=some u→h'.get? b=some u):HOk P w H h':=fun a o e =>
 (x a o e).stay (fun b u _ q=>k b u q) (fun _ q=>q) fun _ _ q=>q
theorem HOk.laid (x:HOk P w H h) (k:∀ b u,h.get? b=some u→h'.get? b=some u) (hp:h.objs.size≤a) (new:ObjOk P w (upd H a o) h' a o):HOk P w (upd H a o) h':=fun b u e=>by
 have hn:=x.fresh hp
 by_cases hb:b=a
 ·subst hb;rw [upd_same] at e;cases e;exact new
 ·rw [upd_ne hb] at e
  exact (x b u e).stay (fun c v _ q=>k c v q) (fun c q=>by rw [upd_ne (ne_of_none q hn)];exact q) fun c xs q=>by rw [upd_ne (ne_of_none q hn)];exact q
end
noncomputable def Rd (H:Hp) (a:Addr) (u:HO):Prop:=H a=some u∨∃ o,H a=some (.frz o u)
theorem Rd.of {H:Hp} {a:Addr} {u:HO} (h:H a=some u):Rd H a u:=.inl h
theorem Rd.ok {P:Program} {w:World} {H:Hp} {h:Heap} {a:Addr} {u:HO} (r:Rd H a u) (x:HOk P w H h):ObjOk P w H h a u:=by
 rcases r with r | ⟨o,r⟩
 ·exact x a u r
 ·obtain ⟨_,q⟩:=x a _ r
  exact q
noncomputable def Mut:Option HO→Prop
 | some (.lst _)=>True
 | some (.dK _)=>True
 | some (.dT _)=>True
 | some (.set _ _)=>True
 | some (.ins _ _ _)=>True
 | some (.ext _)=>True
 | _=>False
section
variable {P:Program} {w:World} {H:Hp} {h h':Heap} {x e:Addr} {o':HO}
theorem HOk.write (ok:HOk P w H h) (mu:Mut (H x)) (he:e=x∨H e=some (.own x)) (k:∀ b u,b≠e→h.get? b=some u→h'.get? b=some u) (heo:∃ u,h'.get? e=some u) (new:ObjOk P w (upd H x o') h' x o'):HOk P w (upd H x o') h':=fun b u q=>by
 have nown:∀ c y,H c=some (.own y)→c≠x:=fun c y r z=>by subst z;rw [r] at mu;exact mu
 have ntup:∀ c xs,H c=some (.tup xs)→c≠x:=fun c xs r z=>by subst z;rw [r] at mu;exact mu
 by_cases hb:b=x
 ·subst hb;rw [upd_same] at q;cases q;exact new
 ·rw [upd_ne hb] at q
  by_cases hbe:b=e
  ·have q':H b=some (.own x):=by
    rcases he with z | z
    ·exact absurd (hbe.trans z) hb
    ·rw [hbe];exact z
   rw [q] at q';cases q'
   obtain ⟨v,hv⟩:=heo
   exact ⟨v,by rw [hbe];exact hv⟩
  ·refine (ok b u q).stay (fun c v hc r=>k c v ?_ r) (fun c r=>by rw [upd_ne (nown c b r)];exact r) fun c xs r=>by rw [upd_ne (ntup c xs r)];exact r
   rcases hc with rfl | hc
   ·exact hbe
   ·rintro rfl
    rcases he with z | z
    ·exact nown c b hc z
    ·rw [hc] at z;cases z;exact hb rfl
end
structure Un (fs ex:List Addr) (H H':Hp) (h h':Heap):Prop where
 keep:∀ b o,h.get? b=some o→H b=none→b∉fs→b∉ex→h'.get? b=some o
 slot:∀ b o,h.get? b=some o→H b=none→b∈fs→b∉ex→∃ sl,h'.get? b=some {o with slots:=sl}
 free:∀ b o,h.get? b=some o→H b=none→b∉ex→H' b=none
 there:∀ b o,h.get? b=some o→b∉ex→∃ o',h'.get? b=some o'
 tups:∀ b xs,H b=some (.tup xs)→H' b=some (.tup xs)
 frzs:∀ b o u,H b=some (.frz o u)→H' b=some (.frz o u)
 tbls:∀ b ps,H b=some (.tbl ps)→∃ more,H' b=some (.tbl (ps++more))
section
variable {fs fs' ex ex':List Addr} {H H1 H2:Hp} {h h1 h2 h':Heap} {a x e:Addr} {o:HO}
theorem Un.any (u:Un fs ex H H1 h h1) {b:Addr} {ob:Obj} (q:h.get? b=some ob) (n:H b=none) (hx:b∉ex):∃ sl,h1.get? b=some {ob with slots:=sl}:=by
 by_cases hb:b∈fs
 ·exact u.slot b ob q n hb hx
 ·exact ⟨ob.slots,u.keep b ob q n hb hx⟩
theorem Un.trans (a:Un fs ex H H1 h h1) (b:Un fs ex H1 H2 h1 h2):Un fs ex H H2 h h2 where
 keep:=fun c ob q n hc hx=>b.keep c ob (a.keep c ob q n hc hx) (a.free c ob q n hx) hc hx
 slot:=fun c ob q n hc hx=>by
  obtain ⟨sl,e1⟩:=a.slot c ob q n hc hx
  obtain ⟨sl',e2⟩:=b.slot c _ e1 (a.free c ob q n hx) hc hx
  exact ⟨sl',e2⟩
 free:=fun c ob q n hx=>by
  obtain ⟨o',e1⟩:=a.there c ob q hx
  exact b.free c o' e1 (a.free c ob q n hx) hx
 there:=fun c ob q hx=>by
  obtain ⟨o',e1⟩:=a.there c ob q hx
  exact b.there c o' e1 hx
 tups:=fun c xs q=>b.tups c xs (a.tups c xs q)
 frzs:=fun c ob xs q=>b.frzs c ob xs (a.frzs c ob xs q)
 tbls:=fun c ps q=>by
  obtain ⟨m1,e1⟩:=a.tbls c ps q
  obtain ⟨m2,e2⟩:=b.tbls c _ e1
  exact ⟨m1++m2,by rw [e2,Array.append_assoc]⟩
theorem Un.kept (k:∀ b u,h.get? b=some u→h'.get? b=some u):Un fs ex H H h h' :=
 ⟨fun b ob q _ _ _=>k b ob q,fun b ob q _ _ _=>⟨ob.slots,k b ob q⟩,fun _ _ _ n _=>n,fun b ob q _=>⟨ob,k b ob q⟩,fun _ _ q=>q,fun _ _ _ q=>q,fun _ ps q=>⟨#[],by rw [q];simp⟩⟩
theorem Un.refl:Un fs ex H H h h:=Un.kept fun _ _ q=>q
theorem Un.laid (k:∀ b u,h.get? b=some u→h'.get? b=some u) (hp:h.objs.size≤a) (hn:H a=none):Un fs ex H (upd H a o) h h' where
 keep:=fun b u q _ _ _=>k b u q
 slot:=fun b u q _ _ _=>⟨u.slots,k b u q⟩
 free:=fun b u q n _=>by rw [upd_ne (Nat.ne_of_lt (Nat.lt_of_lt_of_le (Heap.lt_size q) hp))];exact n
 there:=fun b u q _=>⟨u,k b u q⟩
 tups:=fun b xs q=>by rw [upd_ne (ne_of_none q hn)];exact q
 frzs:=fun b u xs q=>by rw [upd_ne (ne_of_none q hn)];exact q
 tbls:=fun b ps q=>⟨#[],by rw [upd_ne (ne_of_none q hn),q];simp⟩
theorem Un.write (mu:Mut (H x)) (he:e=x∨H e=some (.own x)) (k:∀ b u,b≠e→h.get? b=some u→h'.get? b=some u) (heo:∃ u,h'.get? e=some u):Un fs ex H (upd H x o) h h':=by
 have hx:∀ b,H b=none→b≠x:=fun b n z=>by subst z;rw [n] at mu;exact mu
 have hb:∀ b,H b=none→b≠e:=fun b n z=>by
  subst z
  rcases he with r | r
  ·exact hx b n r
  ·rw [n] at r;cases r
 have hm:∀ b u,H b=some u→¬ Mut (some u)→b≠x:=fun b u q nm z=>by subst z;rw [q] at mu;exact nm mu
 refine ⟨fun b u q n _ _=>k b u (hb b n) q,fun b u q n _ _=>⟨u.slots,k b u (hb b n) q⟩,fun b u q n _=>by rw [upd_ne (hx b n)];exact n,fun b u q _=>?_,
  fun b xs q=>by rw [upd_ne (hm b _ q fun z=>z)];exact q,fun b u xs q=>by rw [upd_ne (hm b _ q fun z=>z)];exact q,fun b ps q=>⟨#[],by rw [upd_ne (hm b _ q fun z=>z),q];simp⟩⟩
 by_cases hbe:b=e
 ·subst hbe;exact heo
 ·exact ⟨u,k b u hbe q⟩
theorem Un.mono (u:Un fs ex H H1 h h1) (hs:∀ b∈fs,b∈fs') (hx:∀ b∈ex,b∈ex'):Un fs' ex' H H1 h h1 :=
 ⟨fun b ob q n hb he=>u.keep b ob q n (fun z=>hb (hs b z)) fun z=>he (hx b z),fun _ _ q n _ he=>u.any q n fun z=>he (hx _ z),fun b ob q n he=>u.free b ob q n fun z=>he (hx b z),fun b ob q he=>u.there b ob q fun z=>he (hx b z),u.tups,u.frzs,u.tbls⟩
end
noncomputable def trk (h:Heap) (H:Hp):List Addr:=(List.range h.objs.size).filter fun a=>(H a).isSome
noncomputable def hidT (h:Heap) (H:Hp):Heap:=PySem.W.hideAll h (trk h H)
theorem hidT_size (h:Heap) (H:Hp):(hidT h H).objs.size=h.objs.size:=PySem.W.hideAll_size _ _
theorem hidT_get {h:Heap} {H:Hp} {b:Addr} {o:Obj} (e:h.get? b=some o) (n:H b=none):(hidT h H).get? b=some o :=
 PySem.W.hideAll_get _ e fun hm=>by
  have q:(H b).isSome=true:=(List.mem_filter.mp hm).2
  rw [n] at q;simp at q
theorem of_hidT {h:Heap} {H:Hp} {b:Addr} {o:Obj} (e:(hidT h H).get? b=some o):h.get? b=some o∧H b=none:=by
 have e':h.get? b=some o:=PySem.W.of_hideAll (trk h H) e
 refine ⟨e',?_⟩
 cases q:H b with
 | none=>rfl
 | some x =>
  have hm:b∈trk h H:=List.mem_filter.mpr ⟨List.mem_range.mpr (Heap.lt_size e'),by simp [q]⟩
  have z:(hidT h H).get? b=none:=PySem.W.hideAll_none (trk h H) hm
  rw [z] at e;cases e
noncomputable def allNews (g h:Heap) (L:Addr):List (Addr×Obj):=(List.range h.objs.size).filterMap fun a=>if a=L∨(g.get? a).isSome=true then none else (h.get? a).map fun o=>(a,o)
noncomputable def rest (g h:Heap) (L d:Addr):List (Addr×Obj):=(allNews g h L).filter fun p=>decide (p.1≠d)
end L2
namespace L2
open PySem PySem.Spec PyProof.Rows
structure Mod (K:PySem.W.Frag) (mg:Str→Option Value) (base:Heap):Prop where
 kin:K.In base
 glob:base.Ns mainGlobals mg
 blt:∃ mb,base.Ns builtinsNs mb∧∀ x:Str,x≠"__name__"→mb x=bootBuiltins x
 nolimit:base.NoLimit
structure Cx where
 prog:Program
 w:World
 K:PySem.W.Frag
 mg:Str→Option Value
 base:Heap
 A:Around
 N:List Str
 s₀:Shared
 H₀:Hp
 env:Env
 outer:List Env
 stack:List Env
 ex:List Addr
 fn:Str→Bool
 calm:Bool
 pn:List (Addr×Obj)
 xe:Value→Shared→Prop
noncomputable def frs (l:List Env):List Addr:=l.filterMap (·.frame)
noncomputable abbrev Cx.fs (X:Cx):List Addr:=frs X.outer
noncomputable def Vis (sc:Scope) (x:Str):Prop:=sc.names.lookup x=some .local∨sc.names.lookup x=some .cell∨sc.names.lookup x=some .free
noncomputable def Loc (sc:Scope) (x:Str):Prop:=sc.names.lookup x=some .local∨sc.names.lookup x=some .cell
noncomputable def Look (env:Env) (h:Heap) (m:Str→Option Value) (x:Str) (u:Value):Prop :=
 (env.kindOf x=some .local∧m x=some u)∨((env.kindOf x=some .cell∨env.kindOf x=some .free)∧∃ c,env.cells.lookup x=some c∧h.IsCell c (some u))
structure Cx.Ok (X:Cx):Prop where
 mod:Mod X.K X.mg X.base
 kind:X.env.scope.kind=.function
 glob:X.env.globals=mainGlobals
 blt:X.env.builtins=builtinsNs
 above:X.s₀.heap.objs.size≤X.env.locals
 inj:∀ x y c,X.env.cells.lookup x=some c→X.env.cells.lookup y=some c→x=y
 has:∀ x,(X.env.kindOf x=some .cell∨X.env.kindOf x=some .free)→∃ c,X.env.cells.lookup x=some c
 cab:∀ x c,X.fn x=true→X.env.cells.lookup x=some c→X.s₀.heap.objs.size≤c
 hd:X.calm=true→X.A.handled=none
 frames:X.A.frames=some X.stack
 stk:X.stack=X.outer∨(X.stack=X.env::X.outer∧X.env.frame=some X.env.locals)
 exf:∀ b∈X.ex,b≠X.env.locals∧∀ x c,X.env.cells.lookup x=some c→c≠b
 bs:∀ b o,X.base.get? b=some o→X.s₀.heap.get? b=some o∧X.H₀ b=none
 bsz:X.base.objs.size≤X.s₀.heap.objs.size
 noex:∀ b o,X.base.get? b=some o→b∉X.ex
 exfs:∀ b∈X.ex,b∉X.fs
 funs:X.s₀.heap.FunFrames X.base X.outer
 frf:∀ b∈X.fs,X.H₀ b=none
structure Inv (X:Cx) (pins:List (Addr×Obj)) (σ:List (Option V)) (H:Hp) (s:Shared):Prop where
 ok:X.Ok
 os:s.os=X.s₀.os
 bare:AllBare s.gens
 base:Un X.fs X.ex X.H₀ H X.s₀.heap s.heap
 loc:∃ m,s.heap.Ns X.env.locals m∧∀(i:Nat) (x:Str) (v:V),X.N[i]?=some x→σ[i]?=some (some v)→Vis X.env.scope x→∃ u,RelV v u∧Look X.env s.heap m x u
 cell:∀ x c,X.env.cells.lookup x=some c→∃ v,s.heap.IsCell c v
 free:H X.env.locals=none
 freeC:∀ x c,X.env.cells.lookup x=some c→H c=none
 pin:∀ p∈X.pn++pins,s.heap.get? p.1=some p.2∧H p.1=none∧p.1≠X.env.locals∧p.1∉X.fs∧∀ v,p.2.data≠.cell v
 hok:HOk X.prog X.w H s.heap
 len:σ.length=X.N.length
section
variable {X:Cx} {pins:List (Addr×Obj)} {σ:List (Option V)} {H H':Hp} {s:Shared} {h':Heap}
theorem Cx.Ok.nofr (ok:X.Ok) {b:Addr} {o:Obj} (e:X.base.get? b=some o):b∉X.fs:=fun hb=>by
 have:=(ok.funs.mem hb).1
 rw [e] at this;cases this
theorem Inv.bs (I:Inv X pins σ H s):∀ b o,X.base.get? b=some o→s.heap.get? b=some o∧H b=none:=fun b o e =>
 ⟨I.base.keep b o (I.ok.bs b o e).1 (I.ok.bs b o e).2 (I.ok.nofr e) (I.ok.noex b o e),I.base.free b o (I.ok.bs b o e).1 (I.ok.bs b o e).2 (I.ok.noex b o e)⟩
theorem Inv.bk (I:Inv X pins σ H s):∀ b o,X.base.get? b=some o→s.heap.get? b=some o:=fun b o e=>(I.bs b o e).1
theorem Inv.mod (I:Inv X pins σ H s):Mod X.K X.mg X.base:=I.ok.mod
theorem Inv.kIn (I:Inv X pins σ H s):X.K.In s.heap:=I.ok.mod.kin.keeps I.bk
theorem Inv.nolimit (I:Inv X pins σ H s):s.heap.NoLimit:=I.ok.mod.nolimit.keeps I.bk
theorem Inv.fr (I:Inv X pins σ H s):∃ m,Fr X.base X.env.locals s.heap m :=
 let ⟨m,hn,_⟩:=I.loc
 ⟨m,hn,I.bk,Nat.le_trans I.ok.bsz I.ok.above⟩
theorem Inv.lt (I:Inv X pins σ H s):X.env.locals < s.heap.objs.size:=let ⟨_,hn,_⟩:=I.loc;hn.lt
theorem Inv.sz (I:Inv X pins σ H s):X.s₀.heap.objs.size≤s.heap.objs.size:=Nat.le_trans I.ok.above (Nat.le_of_lt I.lt)
theorem Inv.nofs (I:Inv X pins σ H s) {a:Addr} (h:s.heap.objs.size≤a):a∉X.fs:=fun hb=>by
 obtain ⟨_,o,ho,_⟩:=I.ok.funs.mem hb
 exact absurd (Nat.lt_of_lt_of_le (Heap.lt_size ho) (Nat.le_trans I.sz h)) (Nat.lt_irrefl _)
theorem Inv.cne (I:Inv X pins σ H s):∀ x c,X.env.cells.lookup x=some c→c≠X.env.locals:=fun x c e z=>by
 obtain ⟨v,o,ho,hd⟩:=I.cell x c e
 obtain ⟨m,⟨o',es,ep,ho',hd',_⟩,_⟩:=I.loc
 rw [z,ho'] at ho;cases ho;rw [hd'] at hd;cases hd
theorem Inv.funs (I:Inv X pins σ H s):s.heap.FunFrames X.base X.outer:=by
 have all:∀(l:List Env),(∀ b∈frs l,b∈X.fs)→X.s₀.heap.FunFrames X.base l→s.heap.FunFrames X.base l:=by
  intro l
  induction l with
  | nil=>intro _ _;trivial
  | cons env r ih =>
   intro hs hl
   obtain ⟨hk,⟨L,o,hf,hn,ho,hd⟩,hr⟩:=hl
   have hL:L∈X.fs:=hs L (by unfold frs;rw [List.filterMap_cons,hf];exact List.mem_cons_self)
   obtain ⟨sl,e⟩:=I.base.slot L o ho (I.ok.frf L hL) hL fun z=>I.ok.exfs L z hL
   exact ⟨hk,⟨L,_,hf,hn,e,hd⟩,ih (fun b hb=>hs b (by unfold frs;rw [List.filterMap_cons,hf];exact List.mem_cons_of_mem _ hb)) hr⟩
 exact all X.outer (fun _ hb=>hb) I.ok.funs
theorem Inv.stack (I:Inv X pins σ H s):s.heap.FunFrames X.base X.stack:=by
 rcases I.ok.stk with e | ⟨e,hf⟩
 ·rw [e];exact I.funs
 ·rw [e]
  obtain ⟨m,hn,_⟩:=I.loc
  refine .cons (by rw [I.ok.kind];decide) hf hn ?_ I.funs
  exact Heap.get?_none_of_le (Nat.le_trans I.ok.bsz I.ok.above)
theorem Inv.stkSub (I:Inv X pins σ H s):∀ b∈frs X.stack,b∈X.env.locals::X.fs:=fun b hb=>by
 rcases I.ok.stk with e | ⟨e,hf⟩
 ·rw [e] at hb;exact List.mem_cons_of_mem _ hb
 ·rw [e] at hb
  unfold frs at hb
  rw [List.filterMap_cons,hf] at hb
  exact hb
theorem Inv.stkFree (I:Inv X pins σ H s):∀ b∈frs X.stack,H b=none:=fun b hb=>by
 rcases List.mem_cons.mp (I.stkSub b hb) with e | hb
 ·rw [e];exact I.free
 ·obtain ⟨_,o,ho,_⟩:=I.ok.funs.mem hb
  exact I.base.free b o ho (I.ok.frf b hb) fun z=>I.ok.exfs b z hb
theorem Inv.step {g':Array GenState} {t':Nat} {d':Drawn} {ch:List Addr} (I:Inv X pins σ H s) (hch:∀ b∈ch,(b∈X.ex∨X.s₀.heap.objs.size≤b)∧b≠X.env.locals∧(∀ x c,X.env.cells.lookup x=some c→c≠b)∧∀ p∈X.pn++pins,p.1≠b) (keep:∀ b o,b≠X.env.locals→b∉X.fs→b∉ch→s.heap.get? b=some o→H b=none→h'.get? b=some o) (slot:∀ b o,b≠X.env.locals→b∈X.fs→b∉ch→s.heap.get? b=some o→H b=none→∃ sl,h'.get? b=some {o with slots:=sl}) (free:∀ b o,b∉ch→s.heap.get? b=some o→H b=none→H' b=none) (there:∀ b o,b∉ch→s.heap.get? b=some o→∃ o',h'.get? b=some o') (tups:∀ b xs,H b=some (.tup xs)→H' b=some (.tup xs)) (frzs:∀ b o u,H b=some (.frz o u)→H' b=some (.frz o u)) (tbls:∀ b ps,H b=some (.tbl ps)→∃ more,H' b=some (.tbl (ps++more))) (ns:∀ m,s.heap.Ns X.env.locals m→h'.Ns X.env.locals m) (hok:HOk X.prog X.w H' h') (hg:AllBare g') : Inv X pins σ H' {s with heap:=h',gens:=g',drawn:=d',toks:=t'}:=by
 have neL:∀ b o,X.s₀.heap.get? b=some o→b≠X.env.locals:=fun b o e=>Nat.ne_of_lt (Nat.lt_of_lt_of_le (Heap.lt_size e) I.ok.above)
 have neC:∀ b o,X.s₀.heap.get? b=some o→b∉X.ex→b∉ch:=fun b o e hx hb=>by
  rcases (hch b hb).1 with z | z
  ·exact hx z
  ·exact absurd (Nat.lt_of_lt_of_le (Heap.lt_size e) z) (Nat.lt_irrefl _)
 have cellK:∀ x c,X.env.cells.lookup x=some c→∀ v,s.heap.IsCell c v→h'.IsCell c v:=fun x c e v ⟨o,ho,hd⟩=>by
  have nch:c∉ch:=fun z=>(hch c z).2.2.1 x c e rfl
  by_cases hc:c∈X.fs
  ·obtain ⟨sl,q⟩:=slot c o (I.cne x c e) hc nch ho (I.freeC x c e)
   exact ⟨_,q,hd⟩
  ·exact ⟨o,keep c o (I.cne x c e) hc nch ho (I.freeC x c e),hd⟩
 refine ⟨I.ok,I.os,hg,⟨fun b o e n hb hx=>?_,fun b o e n hb hx=>?_,fun b o e n hx=>?_,fun b o e hx=>?_,fun b xs e=>tups b xs (I.base.tups b xs e),fun b o xs e=>frzs b o xs (I.base.frzs b o xs e),fun b ps e=>?_⟩,?_,fun x c e=>?_,?_,fun x c e=>?_,fun p hp=>?_,hok,I.len⟩
 ·exact keep b o (neL b o e) hb (neC b o e hx) (I.base.keep b o e n hb hx) (I.base.free b o e n hx)
 ·obtain ⟨sl,e1⟩:=I.base.slot b o e n hb hx
  obtain ⟨sl',e2⟩:=slot b _ (neL b o e) hb (neC b o e hx) e1 (I.base.free b o e n hx)
  exact ⟨sl',e2⟩
 ·obtain ⟨o',e1⟩:=I.base.there b o e hx
  exact free b o' (neC b o e hx) e1 (I.base.free b o e n hx)
 ·obtain ⟨o',e1⟩:=I.base.there b o e hx
  exact there b o' (neC b o e hx) e1
 ·obtain ⟨m1,e1⟩:=I.base.tbls b ps e
  obtain ⟨m2,e2⟩:=tbls b _ e1
  exact ⟨m1++m2,by rw [e2,Array.append_assoc]⟩
 ·obtain ⟨m,hn,hl⟩:=I.loc
  refine ⟨m,ns m hn,fun i x v e1 e2 e3=>?_⟩
  obtain ⟨u,r,l⟩:=hl i x v e1 e2 e3
  refine ⟨u,r,?_⟩
  rcases l with l | ⟨k,c,e,z⟩
  ·exact .inl l
  ·exact .inr ⟨k,c,e,cellK x c e _ z⟩
 ·obtain ⟨v,z⟩:=I.cell x c e
  exact ⟨v,cellK x c e v z⟩
 ·obtain ⟨m,⟨o,_,_,ho,_⟩,_⟩:=I.loc
  exact free _ o (fun z=>(hch _ z).2.1 rfl) ho I.free
 ·obtain ⟨v,o,ho,hd⟩:=I.cell x c e
  exact free c o (fun z=>(hch c z).2.2.1 x c e rfl) ho (I.freeC x c e)
 ·obtain ⟨e,n,ne,nf,d⟩:=I.pin p hp
  have nch:p.1∉ch:=fun z=>(hch p.1 z).2.2.2 p hp rfl
  exact ⟨keep p.1 p.2 ne nf nch e n,free p.1 p.2 nch e n,ne,nf,d⟩
theorem Inv.un {t':Nat} (I:Inv X pins σ H s) (u:Un X.fs [] H H' s.heap h') (hok:HOk X.prog X.w H' h'):Inv X pins σ H' {s with heap:=h',toks:=t'}:=by
 obtain ⟨m,⟨o,es,ep,ho,r⟩,_⟩:=id I.loc
 obtain ⟨sl,hL⟩:=u.any ho I.free (by simp)
 exact I.step (g':=s.gens) (d':=s.drawn) (ch:=[]) (fun _ z=>nomatch z) (fun b o _ hb _ e n=>u.keep b o e n hb (by simp)) (fun b o _ hb _ e n=>u.slot b o e n hb (by simp)) (fun b o _ e n=>u.free b o e n (by simp)) (fun b o _ e=>u.there b o e (by simp)) u.tups u.frzs u.tbls (fun m' hm=>by
  obtain ⟨o',es',ep',ho',r'⟩:=hm
  rw [ho] at ho';cases ho'
  exact ⟨_,es',ep',hL,r'⟩) hok I.bare
theorem Inv.call {g':Array GenState} {t':Nat} {d':Drawn} {ch:List Addr} (I:Inv X pins σ H s) (u:Un (frs X.stack) ch H H' s.heap h') (hok:HOk X.prog X.w H' h') (hg:AllBare g') (hch:∀ b∈ch,(b∈X.ex∨X.s₀.heap.objs.size≤b)∧b≠X.env.locals∧(∀ x c,X.env.cells.lookup x=some c→c≠b)∧∀ p∈X.pn++pins,p.1≠b) : Inv X pins σ H' {s with heap:=h',gens:=g',drawn:=d',toks:=t'}:=by
 obtain ⟨m,⟨o,es,ep,ho,r⟩,_⟩:=id I.loc
 obtain ⟨sl,hL⟩:=u.any ho I.free fun z=>(hch _ z).2.1 rfl
 exact I.step (ch:=ch) hch (fun b o hL hb hc e n=>u.keep b o e n (fun z=>(List.mem_cons.mp (I.stkSub b z)).elim hL hb) hc) (fun b o _ _ hc e n=>u.any e n hc) (fun b o hc e n=>u.free b o e n hc) (fun b o hc e=>u.there b o e hc) u.tups u.frzs u.tbls (fun m' hm=>by
  obtain ⟨o',es',ep',ho',r'⟩:=hm
  rw [ho] at ho';cases ho'
  exact ⟨_,es',ep',hL,r'⟩) hok hg
theorem Inv.turned {t':Nat} {it:Addr} (I:Inv X pins σ H s) (k:∀ b o,b≠it→s.heap.get? b=some o→h'.get? b=some o) (hn:H it=none) (hL:it≠X.env.locals) (h1:it∈X.ex∨X.s₀.heap.objs.size≤it) (h2:∀ x c,X.env.cells.lookup x=some c→c≠it) (h3:∀ p∈X.pn++pins,p.1≠it):Inv X pins σ H {s with heap:=h',toks:=t'}:=by
 have nit:∀ b u,H b=some u→b≠it:=fun b u e z=>by rw [z,hn] at e;cases e
 refine I.step (g':=s.gens) (d':=s.drawn) (ch:=[it]) (fun b hb=>?_) (fun b o _ _ hc e _=>k b o (fun z=>hc (by simp [z])) e) (fun b o _ _ hc e _=>⟨o.slots,k b o (fun z=>hc (by simp [z])) e⟩) (fun _ _ _ _ n=>n)
  (fun b o hc e=>⟨o,k b o (fun z=>hc (by simp [z])) e⟩) (fun _ _ e=>e) (fun _ _ _ e=>e) (fun b ps e=>⟨#[],by rw [e];simp⟩) (fun m hm=>?_) (fun b u e=>?_) I.bare
 ·have e:b=it:=by simpa using hb
  subst e
  exact ⟨h1,hL,h2,h3⟩
 ·obtain ⟨o,es,ep,ho,r⟩:=hm
  exact ⟨o,es,ep,k _ o (Ne.symm hL) ho,r⟩
 ·refine (I.hok b u e).stay (fun c v hc q=>k c v ?_ q) (fun _ q=>q) fun _ _ q=>q
  rcases hc with z | z
  ·rw [z];exact nit b u e
  ·exact nit c _ z
theorem Inv.tok (I:Inv X pins σ H s) (t:Nat):Inv X pins σ H {s with toks:=t}:=I.un (h':=s.heap) (t':=t) Un.refl I.hok
theorem Inv.kept {t':Nat} (I:Inv X pins σ H s) (k:∀ b u,s.heap.get? b=some u→h'.get? b=some u):Inv X pins σ H {s with heap:=h',toks:=t'}:=I.un (Un.kept k) (I.hok.kept k)
theorem Inv.laid {a:Addr} {o:HO} {t':Nat} (I:Inv X pins σ H s) (k:∀ b u,s.heap.get? b=some u→h'.get? b=some u) (hp:s.heap.objs.size≤a) (new:ObjOk X.prog X.w (upd H a o) h' a o) : Inv X pins σ (upd H a o) {s with heap:=h',toks:=t'}:=I.un (Un.laid k hp (I.hok.fresh hp)) (I.hok.laid k hp new)
theorem Inv.write {x e:Addr} {o:HO} {t':Nat} (I:Inv X pins σ H s) (mu:Mut (H x)) (he:e=x∨H e=some (.own x)) (k:∀ b u,b≠e→s.heap.get? b=some u→h'.get? b=some u) (heo:∃ u,h'.get? e=some u) (new:ObjOk X.prog X.w (upd H x o) h' x o):Inv X pins σ (upd H x o) {s with heap:=h',toks:=t'}:=I.un (Un.write mu he k heo) (I.hok.write mu he k heo new)
theorem Inv.pins_of {pins':List (Addr×Obj)} (I:Inv X pins σ H s) (h:∀ p∈pins',s.heap.get? p.1=some p.2∧H p.1=none∧p.1≠X.env.locals∧p.1∉X.fs∧∀ v,p.2.data≠.cell v):Inv X pins' σ H s :=
 ⟨I.ok,I.os,I.bare,I.base,I.loc,I.cell,I.free,I.freeC,fun p hp=>(List.mem_append.mp hp).elim (fun z=>I.pin p (List.mem_append_left _ z)) (h p),I.hok,I.len⟩
theorem nodup_ix {N:List Str} (hN:N.Nodup) {i j:Nat} {x:Str} (a:N[i]?=some x) (b:N[j]?=some x):i=j:=by
 obtain ⟨h1,e1⟩:=List.getElem?_eq_some_iff.mp a
 obtain ⟨h2,e2⟩:=List.getElem?_eq_some_iff.mp b
 exact (List.getElem_inj hN).mp (e1.trans e2.symm)
theorem store_ok2 {M:Model} {A:Around} {E:Value→Shared→Prop} {i:Nat} {x:Str} {v:V} {u:Value} {Q:Unit→Shared→Prop} (I:Inv X pins σ H s) (hN:X.N.Nodup) (hi:X.N[i]?=some x) (hx:Loc X.env.scope x) (r:RelV v u) (h:∀ s',Inv X pins (σ.set i (some v)) H s'→(∃ a,Heap.SameBut a s.heap s'.heap∧(a=X.env.locals∨X.env.cells.lookup x=some a))→Q () s') (hf:X.fn x=true∨X.env.scope.names.lookup x=some .local:=by first | exact .inl rfl | exact .inr rfl | assumption):wpAny M A (storeName X.env x u) Q E s:=by
 obtain ⟨m,hn,hl⟩:=id I.loc
 have hcls:(X.env.scope.kind == .class || (X.env.scope.kind == .module && X.env.locals != X.env.globals))=false:=by rw [I.ok.kind];rfl
 have hiσ:i < σ.length:=by rw [I.len];exact (List.getElem?_eq_some_iff.mp hi).1
 have cne:=I.cne
 have tracked:∀ {a:Addr} {h':Heap},(∃ o,s.heap.get? a=some o∧H a=none)→Heap.SameBut a s.heap h'→HOk X.prog X.w H h':=fun {a h'} ha hs b ob e=>by
  obtain ⟨_,_,hfree⟩:=ha
  refine (I.hok b ob e).stay (fun c w' hc q=>(hs.2 c ?_).trans q) (fun _ q=>q) fun _ _ q=>q
  rintro rfl
  rcases hc with rfl | hc
  ·rw [hfree] at e;cases e
  ·rw [hfree] at hc;cases hc
 rcases hx with hk | hk
 ·refine wpAny_storeName_local hk hn (fun h' hn' hs=>?_) hcls
  obtain ⟨oL,_,_,hoL,_⟩:=id hn
  refine h _ ⟨I.ok,I.os,I.bare,⟨fun b o e n hb hx=>?_,fun b o e n hb hx=>?_,I.base.free,fun b o e hx=>?_,I.base.tups,I.base.frzs,I.base.tbls⟩,⟨_,hn',fun j y v' e1 e2 e3=>?_⟩,fun y c e=>?_,I.free,I.freeC,fun p hp=>?_,tracked ⟨oL,hoL,I.free⟩ hs,by simpa using I.len⟩ ⟨_,hs,.inl rfl⟩
  ·exact (hs.2 b (Nat.ne_of_lt (Nat.lt_of_lt_of_le (Heap.lt_size e) I.ok.above))).trans (I.base.keep b o e n hb hx)
  ·obtain ⟨sl,e1⟩:=I.base.slot b o e n hb hx
   exact ⟨sl,(hs.2 b (Nat.ne_of_lt (Nat.lt_of_lt_of_le (Heap.lt_size e) I.ok.above))).trans e1⟩
  ·obtain ⟨o',e1⟩:=I.base.there b o e hx
   exact ⟨o',(hs.2 b (Nat.ne_of_lt (Nat.lt_of_lt_of_le (Heap.lt_size e) I.ok.above))).trans e1⟩
  ·by_cases hj:j=i
   ·subst hj
    rw [hi] at e1;cases e1
    rw [List.getElem?_set_self hiσ] at e2
    cases e2
    exact ⟨u,r,.inl ⟨hk,by simp⟩⟩
   ·rw [List.getElem?_set_ne (Ne.symm hj)] at e2
    obtain ⟨u',r',q⟩:=hl j y v' e1 e2 e3
    refine ⟨u',r',?_⟩
    rcases q with ⟨k,e⟩ | ⟨k,c,e,z⟩
    ·refine .inl ⟨k,?_⟩
     have:y≠x:=fun e=>hj (nodup_ix hN e1 (e ▸ hi))
     simp [this,e]
    ·exact .inr ⟨k,c,e,z.sameBut hs (cne y c e)⟩
  ·obtain ⟨w',z⟩:=I.cell y c e
   exact ⟨w',z.sameBut hs (cne y c e)⟩
  ·obtain ⟨e,n,ne,nf,d⟩:=I.pin p hp
   exact ⟨(hs.2 p.1 ne).trans e,n,ne,nf,d⟩
 ·have hfn:X.fn x=true:=by
   rcases hf with z | z
   ·exact z
   ·rw [z] at hk;cases hk
  obtain ⟨c,hc⟩:=I.ok.has x (.inl hk)
  obtain ⟨w',z⟩:=I.cell x c hc
  refine wpAny_storeName_cell I.ok.kind hk hc z (fun h' hc' hs=>?_)
  obtain ⟨oc,hoc,hocd⟩:=id z
  refine h {s with heap:=h'} ⟨I.ok,I.os,I.bare,⟨fun b o e n hb hx=>?_,fun b o e n hb hx=>?_,I.base.free,fun b o e hx=>?_,I.base.tups,I.base.frzs,I.base.tbls⟩,⟨m,hn.sameBut hs (Ne.symm (cne x c hc)),fun j y v' e1 e2 e3=>?_⟩,fun y c' e=>?_,I.free,I.freeC,fun p hp=>?_,tracked ⟨oc,hoc,I.freeC x c hc⟩ hs,by simpa using I.len⟩ ⟨c,hs,.inr hc⟩
  ·exact (hs.2 b (Nat.ne_of_lt (Nat.lt_of_lt_of_le (Heap.lt_size e) (I.ok.cab x c hfn hc)))).trans (I.base.keep b o e n hb hx)
  ·obtain ⟨sl,e1⟩:=I.base.slot b o e n hb hx
   exact ⟨sl,(hs.2 b (Nat.ne_of_lt (Nat.lt_of_lt_of_le (Heap.lt_size e) (I.ok.cab x c hfn hc)))).trans e1⟩
  ·obtain ⟨o',e1⟩:=I.base.there b o e hx
   exact ⟨o',(hs.2 b (Nat.ne_of_lt (Nat.lt_of_lt_of_le (Heap.lt_size e) (I.ok.cab x c hfn hc)))).trans e1⟩
  ·by_cases hj:j=i
   ·subst hj
    rw [hi] at e1;cases e1
    rw [List.getElem?_set_self hiσ] at e2
    cases e2
    exact ⟨u,r,.inr ⟨.inl hk,c,hc,hc'⟩⟩
   ·rw [List.getElem?_set_ne (Ne.symm hj)] at e2
    obtain ⟨u',r',q⟩:=hl j y v' e1 e2 e3
    refine ⟨u',r',?_⟩
    rcases q with q | ⟨k,c',e,z'⟩
    ·exact .inl q
    ·refine .inr ⟨k,c',e,z'.sameBut hs ?_⟩
     rintro rfl
     exact hj (nodup_ix hN e1 (I.ok.inj _ _ _ e hc ▸ hi))
  ·by_cases hcc:c'=c
   ·subst hcc;exact ⟨_,hc'⟩
   ·obtain ⟨w2,z2⟩:=I.cell y c' e
    exact ⟨w2,z2.sameBut hs hcc⟩
  ·obtain ⟨e,n,ne,nf,d⟩:=I.pin p hp
   refine ⟨(hs.2 p.1 ?_).trans e,n,ne,nf,d⟩
   intro q
   rw [q,hoc] at e
   have q':oc=p.2:=Option.some.inj e
   exact d w' (by rw [← q'];exact hocd)
theorem store_ok {M:Model} {A:Around} {E:Value→Shared→Prop} {i:Nat} {x:Str} {v:V} {u:Value} {Q:Unit→Shared→Prop} (I:Inv X pins σ H s) (hN:X.N.Nodup) (hi:X.N[i]?=some x) (hx:Loc X.env.scope x) (r:RelV v u) (h:∀ s',Inv X pins (σ.set i (some v)) H s'→Q () s') (hf:X.fn x=true∨X.env.scope.names.lookup x=some .local:=by first | exact .inl rfl | exact .inr rfl | assumption):wpAny M A (storeName X.env x u) Q E s :=
 store_ok2 I hN hi hx r (fun s' I' _=>h s' I') hf
theorem Inv.call' {s':Shared} {ch:List Addr} (I:Inv X pins σ H s) (ho:s'.os=s.os) (u:Un (frs X.stack) ch H H' s.heap s'.heap) (hok:HOk X.prog X.w H' s'.heap) (hg:AllBare s'.gens) (hch:∀ b∈ch,(b∈X.ex∨X.s₀.heap.objs.size≤b)∧b≠X.env.locals∧(∀ x c,X.env.cells.lookup x=some c→c≠b)∧∀ p∈X.pn++pins,p.1≠b):Inv X pins σ H' s':=by
 obtain ⟨h',g',d',t',o'⟩:=s'
 have e:o'=s.os:=ho
 subst e
 exact I.call (g':=g') (t':=t') (d':=d') u hok hg hch
end
noncomputable abbrev XK:=Value→Option Addr→Hp→Prop
noncomputable abbrev St:=List (Option V)
noncomputable abbrev VK:=V→Hp→Prop
noncomputable abbrev TE:=St→Hp→VK→Prop
noncomputable abbrev TT:=St→Hp→(Bool→Hp→Prop)→Prop
noncomputable abbrev TA:=St→Hp→(List V→Hp→Prop)→Prop
structure Ends where
 nx:St→Hp→Prop
 rt:VK
 bk:St→Hp→Prop:=fun _ _=>False
 ct:St→Hp→Prop:=fun _ _=>False
noncomputable abbrev TS:=Ends→St→Hp→Prop
inductive EP (X:Cx) (pins:List (Addr×Obj)) (σ:St) (Q:VK) (u:Value) (s':Shared):Prop
 | mk (v:V) (H':Hp) (I:Inv X pins σ H' s') (r:RelV v u) (q:Q v H'):EP X pins σ Q u s'
noncomputable def TP (X:Cx) (pins:List (Addr×Obj)) (σ:St) (Q:Bool→Hp→Prop) (b:Bool) (s':Shared):Prop:=∃ H',Inv X pins σ H' s'∧Q b H'
inductive AP (X:Cx) (pins:List (Addr×Obj)) (σ:St) (Q:List V→Hp→Prop) (us:List Value) (s':Shared):Prop
 | mk (vs:List V) (H':Hp) (I:Inv X pins σ H' s') (r:Vals vs us) (q:Q vs H'):AP X pins σ Q us s'
noncomputable def SP (X:Cx) (pins:List (Addr×Obj)) (D:Ends) (f:Flow) (s':Shared):Prop :=
 match f with
 | .next=>∃ σ' H',Inv X pins σ' H' s'∧D.nx σ' H'
 | .brk=>∃ σ' H',Inv X pins σ' H' s'∧D.bk σ' H'
 | .cont=>∃ σ' H',Inv X pins σ' H' s'∧D.ct σ' H'
 | .ret u=>∃ v σ' H',Inv X pins σ' H' s'∧RelV v u∧D.rt v H'
noncomputable def PE (X:Cx) (e:Expr) (t:TE):Prop :=
 ∀(pins:List (Addr×Obj)) (s:Shared) (σ:St) (H:Hp) (Q:VK),Inv X pins σ H s→t σ H Q→wpAny (model X.prog X.w) X.A (eval e X.env) (EP X pins σ Q) X.xe s
noncomputable def PT (X:Cx) (e:Expr) (t:TT):Prop :=
 ∀(pins:List (Addr×Obj)) (s:Shared) (σ:St) (H:Hp) (Q:Bool→Hp→Prop),Inv X pins σ H s→t σ H Q→wpAny (model X.prog X.w) X.A (isTrue e X.env (eval e X.env)) (TP X pins σ Q) X.xe s
noncomputable def PW (X:Cx) (e:Expr) (t:TT):Prop :=
 ∀(whole:Sem Value) (pins:List (Addr×Obj)) (s:Shared) (σ:St) (H:Hp) (Q:Bool→Hp→Prop),Inv X pins σ H s→t σ H Q→wpAny (model X.prog X.w) X.A (isTrue e X.env whole) (TP X pins σ Q) X.xe s
theorem PW.pt {X:Cx} {e:Expr} {t:TT} (h:PW X e t):PT X e t:=h _
noncomputable def PA (X:Cx) (es:List Expr) (t:TA):Prop :=
 ∀(pos:Pos) (pins:List (Addr×Obj)) (s:Shared) (σ:St) (H:Hp) (Q:List V→Hp→Prop),Inv X pins σ H s→t σ H Q→wpAny (model X.prog X.w) X.A (spliced (backTo pos (starEach es X.env))) (AP X pins σ Q) X.xe s
noncomputable def PS (X:Cx) (st:Stmt) (t:TS):Prop :=
 ∀(pins:List (Addr×Obj)) (s:Shared) (σ:St) (H:Hp) (D:Ends),Inv X pins σ H s→t D σ H→wpAny (model X.prog X.w) X.A (exec st X.env) (SP X pins D) X.xe s
noncomputable def PSs (X:Cx) (st:List Stmt) (t:TS):Prop :=
 ∀(pins:List (Addr×Obj)) (s:Shared) (σ:St) (H:Hp) (D:Ends),Inv X pins σ H s→t D σ H→wpAny (model X.prog X.w) X.A (execs st X.env) (SP X pins D) X.xe s
theorem thn {α:Type} {t:Sem α} {Q Q':α→Shared→Prop} {M:Model} {A:Around} {E:Value→Shared→Prop} {s:Shared} (h:wpAny M A t Q E s) (hQ:∀ a s,Q a s→Q' a s):wpAny M A t Q' E s:=wpAny_mono h hQ fun _ _ x=>x
end L2
namespace L2
open PySem PySem.Spec PyProof.Rows
section
variable {X:Cx}
noncomputable def tVar (i:Nat):TE:=fun σ H Q=>∃ v,σ[i]?=some (some v)∧Q v H
noncomputable def tC (v:V):TE:=fun _ H Q=>Q v H
theorem pe_var {i:Nat} {x:Str} {pos:Pos} (hN:X.N[i]?=some x) (hv:Vis X.env.scope x) (hd:(x == ("__debug__":Str))=false:=by decide) (hcd:(x == ("__classdict__":Str))=false:=by decide):PE X (.Name x pos) (tVar i):=by
 intro pins s σ H Q I h
 obtain ⟨v,e,h⟩:=h
 obtain ⟨m,hn,hl⟩:=I.loc
 obtain ⟨u,r,l⟩:=hl i x v hN e hv
 have fin:EP X pins σ Q u s:=⟨v,H,I,r,h⟩
 rcases l with ⟨hk,hm⟩ | ⟨hk,c,hc,hcell⟩
 ·exact wpAny_Name (wpAny_loadName_local I.ok.kind hk hn hm fin) hd
 ·rcases hk with hk | hk
  ·exact wpAny_Name (wpAny_loadName_cell I.ok.kind hk hc hcell fin) hd
  ·exact wpAny_Name (wpAny_loadName_free I.ok.kind hk hc hcell fin hcd) hd
theorem pe_int {i j pos}:PE X (.Constant (.int i) j pos) (tC (.int i)):=fun _ _ _ H _ I h=>wpAny_Constant_int ⟨.int i,H,I.tok _,⟨_,rfl⟩,h⟩
theorem pe_bl {b j pos}:PE X (.Constant (.bool b) j pos) (tC (.bl b)):=fun _ _ _ H _ I h=>Constant_bool ⟨.bl b,H,I,rfl,h⟩
theorem pe_non {j pos}:PE X (.Constant .none j pos) (tC .non):=fun _ _ _ H _ I h=>Constant_none ⟨.non,H,I,rfl,h⟩
theorem pe_str {x j pos}:PE X (.Constant (.str x) j pos) (tC (.str x)):=fun _ _ _ H _ I h=>Calls.Constant_str ⟨.str x,H,I.tok _,⟨_,rfl⟩,h⟩
noncomputable def Gl (X:Cx) (x:Str):Prop:=X.env.kindOf x=some .globalImplicit
theorem ld_glob {E:Value→Shared→Prop} {pins:List (Addr×Obj)} {s:Shared} {σ:St} {H:Hp} {x:Str} {u:Value} {pos:Pos} {Q:Value→Shared→Prop} (I:Inv X pins σ H s) (hg:Gl X x) (hm:X.mg x=some u) (h:Q u s) (hd:(x == ("__debug__":Str))=false:=by decide):wpAny (model X.prog X.w) X.A (eval (.Name x pos) X.env) Q E s :=
 Calls.Name_function_global I.ok.kind hg (Calls.loadGlobal_global (by rw [I.ok.glob];exact I.mod.glob.keeps I.bk) hm h) hd
theorem ld_blt {E:Value→Shared→Prop} {pins:List (Addr×Obj)} {s:Shared} {σ:St} {H:Hp} {x:Str} {u:Value} {pos:Pos} {Q:Value→Shared→Prop} (I:Inv X pins σ H s) (hg:Gl X x) (hm:X.mg x=none) (hv:bootBuiltins x=some u) (h:Q u s) (hn:x≠"__name__":=by decide) (hd:(x == ("__debug__":Str))=false:=by decide):wpAny (model X.prog X.w) X.A (eval (.Name x pos) X.env) Q E s:=by
 obtain ⟨mb,h1,h2⟩:=I.mod.blt
 exact Calls.Name_function_global I.ok.kind hg (Calls.loadGlobal_builtin (by rw [I.ok.glob];exact I.mod.glob.keeps I.bk) hm (by rw [I.ok.blt];exact h1.keeps I.bk) ((h2 x hn).trans hv) h) hd
theorem pe_glob {x:Str} {v:V} {u:Value} {pos:Pos} (hg:Gl X x) (hm:X.mg x=some u) (r:RelV v u) (hd:(x == ("__debug__":Str))=false:=by decide):PE X (.Name x pos) (tC v) :=
 fun _ _ _ H _ I h=>ld_glob I hg hm ⟨v,H,I,r,h⟩ hd
theorem pe_bltn {x:Str} {v:V} {u:Value} {pos:Pos} (hg:Gl X x) (hm:X.mg x=none) (hv:bootBuiltins x=some u) (r:RelV v u) (hn:x≠"__name__":=by decide) (hd:(x == ("__debug__":Str))=false:=by decide):PE X (.Name x pos) (tC v) :=
 fun _ _ _ H _ I h=>ld_blt I hg hm hv ⟨v,H,I,r,h⟩ hn hd
variable {a b:Expr} {ta tb:TE} {pos:Pos}
noncomputable def PC (X:Cx) (op:CmpOp) (a b:Expr) (t:TE):Prop :=
 ∀(pins:List (Addr×Obj)) (s:Shared) (σ:St) (H:Hp) (Q:VK),Inv X pins σ H s→t σ H Q →
  wpAny (model X.prog X.w) X.A (eval a X.env) (fun v s₁=>wpAny (model X.prog X.w) X.A (eval b X.env) (fun u s₂=>wpAny (model X.prog X.w) X.A (compareOp op v u) (EP X pins σ Q) X.xe s₂) X.xe s₁) X.xe s
theorem nobehind (b:Expr) {op:CmpOp} (h:op≠.In) (h2:op≠.NotIn):behindInMarks op b=false:=by
 have e1:(op == CmpOp.In)=false:=by cases op<;>first | rfl | exact absurd rfl h
 have e2:(op == CmpOp.NotIn)=false:=by cases op<;>first | rfl | exact absurd rfl h2
 cases b<;>simp [behindInMarks,e1,e2]
noncomputable def tB (t:TE):TT:=fun σ H Q=>t σ H fun x H1=>∃ c,x=.bl c∧Q c H1
theorem pe_cmp {op:CmpOp} {t:TE} (h:PC X op a b t) (h1:behindInMarks op b=false:=by first | exact nobehind _ (by decide) (by decide) | rfl):PE X (.Compare a [op] [b] pos) t:=fun pins s σ H Q I hw=>wpAny_Compare1 (h pins s σ H Q I hw) h1
theorem pt_val {e:Expr} {t:TE} (h:PE X e t) (he:∀ whole,isTrue e X.env whole=(do let v ← whole;standAt e.pos;holding [v] (truthy v)):=by intro _;rfl):PT X e (tB t):=by
 intro pins s σ H Q I hw
 refine isTrue_plain (thn (h pins s σ H _ I hw) fun v s1 ⟨x,H1,I1,r1,q1⟩=>?_) (he _)
 obtain ⟨d,rfl,q⟩:=q1
 cases r1
 exact wpAny_truthy_bool ⟨H1,I1,q⟩
variable {tA tB':TT} {rest:List Expr}
noncomputable def tAnd (t u:TT):TT:=fun σ H Q=>t σ H fun c H1=>if c=true then u σ H1 Q else Q false H1
noncomputable def tOr (t u:TT):TT:=fun σ H Q=>t σ H fun c H1=>if c=true then Q true H1 else u σ H1 Q
noncomputable def tNot (t:TT):TT:=fun σ H Q=>t σ H fun c H1=>Q (!c) H1
theorem pw_and1 (ha:PT X a tA):PW X (.BoolOp .And [a] pos) tA:=by
 intro wh pins s σ H Q I h
 refine isTrue_and (thn (ha pins s σ H Q I h) fun c s1 e=>?_)
 cases c with
 | true=>exact isTrue_and_nil e
 | false=>exact e
theorem pw_or1 (ha:PT X a tA):PW X (.BoolOp .Or [a] pos) tA:=by
 intro wh pins s σ H Q I h
 refine isTrue_or (thn (ha pins s σ H Q I h) fun c s1 e=>?_)
 cases c with
 | false=>exact isTrue_or_nil e
 | true=>exact e
theorem pw_and (ha:PT X a tA) (hb:PW X (.BoolOp .And (b::rest) pos) tB'):PW X (.BoolOp .And (a::b::rest) pos) (tAnd tA tB'):=by
 intro wh pins s σ H Q I h
 refine isTrue_and (thn (ha pins s σ H _ I h) fun c s1 ⟨H1,I1,q1⟩=>?_)
 cases c with
 | true=>exact hb wh pins s1 σ H1 Q I1 q1
 | false=>exact ⟨H1,I1,q1⟩
theorem pw_or (ha:PT X a tA) (hb:PW X (.BoolOp .Or (b::rest) pos) tB'):PW X (.BoolOp .Or (a::b::rest) pos) (tOr tA tB'):=by
 intro wh pins s σ H Q I h
 refine isTrue_or (thn (ha pins s σ H _ I h) fun c s1 ⟨H1,I1,q1⟩=>?_)
 cases c with
 | true=>exact ⟨H1,I1,q1⟩
 | false=>exact hb wh pins s1 σ H1 Q I1 q1
theorem pt_not (ha:PT X a tA):PT X (.UnaryOp .Not a pos) (tNot tA):=by
 intro pins s σ H Q I h
 exact isTrue_not (ha pins s σ H (fun c H1=>Q (!c) H1) I h)
noncomputable def tAndV (ta tb:TE):TE:=fun σ H Q=>ta σ H fun x H1=>∃ c,x=.bl c∧if c=true then tb σ H1 Q else Q (.bl false) H1
noncomputable def tOrV (ta tb:TE):TE:=fun σ H Q=>ta σ H fun x H1=>∃ c,x=.bl c∧if c=true then Q (.bl true) H1 else tb σ H1 Q
noncomputable def tNotV (ta:TE):TE:=fun σ H Q=>ta σ H fun x H1=>∃ c,x=.bl c∧Q (.bl (!c)) H1
theorem pe_one {op} {t:TE} (h:PE X a t):PE X (.BoolOp op [a] pos) t:=fun pins s σ H Q I hw=>BoolOp_one (h pins s σ H Q I hw)
theorem pe_and (ha:PE X a ta) (hb:PE X (.BoolOp .And (b::rest) pos) tb):PE X (.BoolOp .And (a::b::rest) pos) (tAndV ta tb):=by
 intro pins s σ H Q I h
 refine BoolOp_and (thn (ha pins s σ H _ I h) fun v s1 ⟨x,H1,I1,r1,q1⟩=>?_)
 obtain ⟨c,rfl,q1⟩:=q1
 cases r1
 refine wpAny_truthy_bool ?_
 cases c with
 | true=>exact hb pins s1 σ H1 Q I1 q1
 | false=>exact ⟨.bl false,H1,I1,rfl,q1⟩
theorem pe_or (ha:PE X a ta) (hb:PE X (.BoolOp .Or (b::rest) pos) tb):PE X (.BoolOp .Or (a::b::rest) pos) (tOrV ta tb):=by
 intro pins s σ H Q I h
 refine BoolOp_or (thn (ha pins s σ H _ I h) fun v s1 ⟨x,H1,I1,r1,q1⟩=>?_)
 obtain ⟨c,rfl,q1⟩:=q1
 cases r1
 refine wpAny_truthy_bool ?_
 cases c with
 | false=>exact hb pins s1 σ H1 Q I1 q1
 | true=>exact ⟨.bl true,H1,I1,rfl,q1⟩
theorem pe_not (ha:PE X a ta):PE X (.UnaryOp .Not a pos) (tNotV ta):=by
 intro pins s σ H Q I h
 refine UnaryOp_ (thn (ha pins s σ H _ I h) fun v s1 ⟨x,H1,I1,r1,q1⟩=>?_)
 obtain ⟨c,rfl,q1⟩:=q1
 cases r1
 exact not_of (wpAny_truthy_bool ⟨.bl (!c),H1,I1,rfl,q1⟩)
noncomputable def tIf (t:TT) (ta tb:TE):TE:=fun σ H Q=>t σ H fun c H1=>if c=true then ta σ H1 Q else tb σ H1 Q
theorem pe_ifExp {c:Expr} (hc:PT X c tA) (ha:PE X a ta) (hb:PE X b tb):PE X (.IfExp c a b pos) (tIf tA ta tb):=by
 intro pins s σ H Q I h
 refine wpAny_IfExp (thn (hc pins s σ H _ I h) fun d s1 ⟨H1,I1,q1⟩=>?_)
 cases d with
 | true=>exact ha pins s1 σ H1 Q I1 q1
 | false=>exact hb pins s1 σ H1 Q I1 q1
end
end L2
namespace L2
open PySem PySem.Spec PyProof.Rows
noncomputable def SqL (K:PySem.W.Frag) (H:Hp) (a:Addr) (xs:List V):Prop :=
 Rd H a (.lst xs) ∨
  ∃(o:Obj) (its:Array Value) (n:Nat),K.lookup a=some o∧o.cls=.type "list"∧o.dict=none∧o.data=.seq its n∧its.size≤sizeLine∧Vals xs its.toList
noncomputable def SqT (K:PySem.W.Frag) (H:Hp) (a:Addr) (xs:List V):Prop :=
 Rd H a (.tup xs) ∨
  ∃(o:Obj) (its:Array Value) (n:Nat),K.lookup a=some o∧o.cls=.type "tuple"∧o.data=.seq its n∧its.size≤sizeLine∧Vals xs its.toList
noncomputable def absV:Value→Option V
 | .none=>some .non
 | .bool b=>some (.bl b)
 | .int i _=>some (.int i)
 | .str x _=>some (.str x)
 | .bytes b _=>some (.byt b)
 | .float b _=>some (.flt b)
 | .ref a=>some (.ref a)
 | .type n=>some (.ty n)
 | _=>none
theorem RelV.abs {x:V} {u:Value} (r:RelV x u):absV u=some x:=by
 cases x with
 | non=>cases r;rfl
 | bl _=>cases r;rfl
 | int _=>obtain ⟨t,rfl⟩:=r;rfl
 | str _=>obtain ⟨t,rfl⟩:=r;rfl
 | byt _=>obtain ⟨t,rfl⟩:=r;rfl
 | flt _=>obtain ⟨t,rfl⟩:=r;rfl
 | ref _=>cases r;rfl
 | ty _=>cases r;rfl
theorem RelV.inj {x y:V} {u:Value} (r:RelV x u) (q:RelV y u):x=y:=Option.some.inj (r.abs.symm.trans q.abs)
theorem Vals.inj {xs ys:List V} {us:List Value} (h:Vals xs us) (g:Vals ys us):xs=ys:=by
 induction h generalizing ys with
 | nil=>cases g;rfl
 | cons r t ih =>
  cases g with
  | cons r' t'=>rw [r.inj r',ih t']
section
variable {X:Cx} {pins:List (Addr×Obj)} {σ:St} {H:Hp} {s:Shared} {a:Addr} {xs ys:List V}
theorem SqL.of {K:PySem.W.Frag} (h:H a=some (.lst xs)):SqL K H a xs:=.inl (.inl h)
theorem SqT.of {K:PySem.W.Frag} (h:H a=some (.tup xs)):SqT K H a xs:=.inl (.inl h)
theorem Inv.list (I:Inv X pins σ H s) (h:SqL X.K H a xs):∃ its:List Value,Vals xs its∧PlainL s.heap a its.toArray∧xs.length≤sizeLine:=by
 rcases h with h | ⟨o,its,n,hk,hc,hd,hs,hz,r⟩
 ·obtain ⟨z,its,n,r,e⟩:=h.ok I.hok
  exact ⟨its,r,⟨_,n,e,rfl,rfl,rfl⟩,z⟩
 ·refine ⟨its.toList,r,⟨o,n,I.kIn a o hk,hc,hd,by simpa using hs⟩,?_⟩
  have e:=r.length
  simp only [Array.length_toList] at e
  omega
theorem Inv.tuple (I:Inv X pins σ H s) (h:SqT X.K H a xs):∃ its:List Value,Vals xs its∧IsTup s.heap a its.toArray∧xs.length≤sizeLine:=by
 rcases h with h | ⟨o,its,n,hk,hc,hs,hz,r⟩
 ·obtain ⟨z,its,r,p⟩:=h.ok I.hok
  exact ⟨its,r,p,z⟩
 ·refine ⟨its.toList,r,⟨o,I.kIn a o hk,hc,n,by simpa using hs⟩,?_⟩
  have e:=r.length
  simp only [Array.length_toList] at e
  omega
theorem Inv.list_inj (I:Inv X pins σ H s) (h:SqL X.K H a xs) (h':SqL X.K H a ys):xs=ys:=by
 obtain ⟨its,r,⟨o,n,e,_,_,d⟩,_⟩:=I.list h
 obtain ⟨its',r',⟨o',n',e',_,_,d'⟩,_⟩:=I.list h'
 rw [e] at e';cases e'
 rw [d] at d'
 injection d' with d1 _
 have:its=its':=by simpa using congrArg Array.toList d1
 subst this
 exact r.inj r'
theorem Inv.tuple_inj (I:Inv X pins σ H s) (h:SqT X.K H a xs) (h':SqT X.K H a ys):xs=ys:=by
 obtain ⟨its,r,⟨o,e,_,n,d⟩,_⟩:=I.tuple h
 obtain ⟨its',r',⟨o',e',_,n',d'⟩,_⟩:=I.tuple h'
 rw [e] at e';cases e'
 rw [d] at d'
 injection d' with d1 _
 have:its=its':=by simpa using congrArg Array.toList d1
 subst this
 exact r.inj r'
end
noncomputable abbrev Cx.wish (X:Cx) (E:Value→Shared→Prop):Cx:={X with xe:=E}
noncomputable abbrev Cx.nox (X:Cx):Cx:=X.wish fun _ _=>False
theorem Cx.Ok.wish {X:Cx} (ok:X.Ok) (E:Value→Shared→Prop):(X.wish E).Ok :=
 ⟨ok.mod,ok.kind,ok.glob,ok.blt,ok.above,ok.inj,ok.has,ok.cab,ok.hd,ok.frames,ok.stk,ok.exf,ok.bs,ok.bsz,ok.noex,ok.exfs,ok.funs,ok.frf⟩
theorem Cx.Ok.unwish {X:Cx} {E:Value→Shared→Prop} (ok:(X.wish E).Ok):X.Ok :=
 ⟨ok.mod,ok.kind,ok.glob,ok.blt,ok.above,ok.inj,ok.has,ok.cab,ok.hd,ok.frames,ok.stk,ok.exf,ok.bs,ok.bsz,ok.noex,ok.exfs,ok.funs,ok.frf⟩
section
variable {X:Cx} {pins:List (Addr×Obj)} {σ:St} {H:Hp} {s:Shared} {E:Value→Shared→Prop}
theorem Inv.wish (I:Inv X pins σ H s) (E:Value→Shared→Prop):Inv (X.wish E) pins σ H s:=⟨I.ok.wish E,I.os,I.bare,I.base,I.loc,I.cell,I.free,I.freeC,I.pin,I.hok,I.len⟩
theorem Inv.unwish (I:Inv (X.wish E) pins σ H s):Inv X pins σ H s:=⟨I.ok.unwish,I.os,I.bare,I.base,I.loc,I.cell,I.free,I.freeC,I.pin,I.hok,I.len⟩
theorem SP.unwish {D:Ends} {f:Flow} {s':Shared} (h:SP (X.wish E) pins D f s'):SP X pins D f s':=by
 cases f with
 | next=>obtain ⟨σ',H',I,q⟩:=h;exact ⟨σ',H',I.unwish,q⟩
 | brk=>obtain ⟨σ',H',I,q⟩:=h;exact ⟨σ',H',I.unwish,q⟩
 | cont=>obtain ⟨σ',H',I,q⟩:=h;exact ⟨σ',H',I.unwish,q⟩
 | ret u=>obtain ⟨v,σ',H',I,r,q⟩:=h;exact ⟨v,σ',H',I.unwish,r,q⟩
theorem PE.nox {e:Expr} {t:TE} (h:PE X.nox e t):PE X e t:=fun pins s σ H Q I hw =>
 wpAny_mono (h pins s σ H Q (I.wish _) hw) (fun _ _ ⟨v,H',I',r,q⟩=>⟨v,H',I'.unwish,r,q⟩) fun _ _ z=>False.elim z
theorem PT.nox {e:Expr} {t:TT} (h:PT X.nox e t):PT X e t:=fun pins s σ H Q I hw =>
 wpAny_mono (h pins s σ H Q (I.wish _) hw) (fun _ _ ⟨H',I',q⟩=>⟨H',I'.unwish,q⟩) fun _ _ z=>False.elim z
theorem PSs.nox {st:List Stmt} {t:TS} (h:PSs X.nox st t):PSs X st t:=fun pins s σ H D I hw =>
 wpAny_mono (h pins s σ H D (I.wish _) hw) (fun _ _ q=>q.unwish) fun _ _ z=>False.elim z
end
section
variable {X:Cx} {st:Stmt} {rest:List Stmt} {t u:TS} {e:Expr} {te:TE} {pos:Pos}
noncomputable def tNext:TS:=fun D σ H=>D.nx σ H
noncomputable def tSeq (t u:TS):TS:=fun D σ H=>t {D with nx:=u D} σ H
theorem pss_nil:PSs X [] tNext:=fun _ _ σ H _ I h=>wpAny_execs_nil ⟨σ,H,I,h⟩
theorem pss_cons (h1:PS X st t) (h2:PSs X rest u):PSs X (st::rest) (tSeq t u):=by
 intro pins s σ H D I h
 refine wpAny_execs_cons (thn (h1 pins s σ H {D with nx:=u D} I h) fun f s1 q=>?_)
 cases f with
 | next =>
  obtain ⟨σ',H',I',q⟩:=q
  exact h2 pins s1 σ' H' D I' q
 | ret v=>exact q
 | brk=>exact q
 | cont=>exact q
theorem pss_one (h1:PS X st t):PSs X [st] t:=by
 intro pins s σ H D I h
 refine wpAny_execs_cons (thn (h1 pins s σ H D I h) fun f s1 q=>?_)
 cases f with
 | next=>exact wpAny_execs_nil q
 | ret v=>exact q
 | brk=>exact q
 | cont=>exact q
noncomputable def tBreak:TS:=fun D σ H=>D.bk σ H
noncomputable def tCont:TS:=fun D σ H=>D.ct σ H
theorem Inv.quiet {pins:List (Addr×Obj)} {σ:St} {H:Hp} {s:Shared} (I:Inv X pins σ H s):interactive X.env=false:=by simp [interactive,I.ok.kind]
noncomputable def tDrop (te:TE):TS:=fun D σ H=>te σ H fun _ H1=>D.nx σ H1
theorem ps_expr (he:PE X e te) (hs:swapsWith e none pos.line X.env=pure false:=by rfl):PS X (.Expr e pos) (tDrop te):=by
 intro pins s σ H D I h
 exact wpAny_Expr_any (thn (he pins s σ H _ I h) fun v s1 ⟨x,H1,I1,r1,q1⟩=>⟨σ,H1,I1,q1⟩) I.quiet hs
noncomputable def tRet (te:TE):TS:=fun D σ H=>te σ H D.rt
theorem ps_ret (he:PE X e te):PS X (.Return (some e) pos) (tRet te):=by
 intro pins s σ H D I h
 exact wpAny_Return_some (thn (he pins s σ H _ I h) fun v s1 ⟨x,H1,I1,r1,q1⟩=>⟨x,σ,H1,I1,r1,q1⟩)
noncomputable def tRetN:TS:=fun D _ H=>D.rt .non H
theorem ps_retN:PS X (.Return none pos) tRetN:=fun _ _ σ H _ I h=>wpAny_Return_none ⟨.non,σ,H,I,rfl,h⟩
noncomputable def tIfS (c:TT) (t u:TS):TS:=fun D σ H=>c σ H fun b H1=>if b=true then t D σ H1 else u D σ H1
theorem ps_if {c:Expr} {a b:List Stmt} {tc:TT} (hc:PT X c tc) (ha:PSs X a t) (hb:PSs X b u):PS X (.If c a b pos) (tIfS tc t u):=by
 intro pins s σ H D I h
 refine wpAny_If (thn (hc pins s σ H _ I h) fun d s1 ⟨H1,I1,q1⟩=>?_)
 cases d with
 | true=>exact ha pins s1 σ H1 D I1 q1
 | false=>exact hb pins s1 σ H1 D I1 q1
noncomputable def tNever:TS:=fun _ _ _=>False
end
noncomputable abbrev TG:=V→St→Hp→(St→Hp→Prop)→Prop
noncomputable abbrev TGs:=List V→St→Hp→(St→Hp→Prop)→Prop
noncomputable def PG (X:Cx) (target:Expr) (t:TG):Prop :=
 ∀(pins:List (Addr×Obj)) (s:Shared) (σ:St) (H:Hp) (v:V) (u:Value) (Q:St→Hp→Prop),Inv X pins σ H s→RelV v u→t v σ H Q →
  wpAny (model X.prog X.w) X.A (assign target X.env u) (fun _ s'=>∃ σ' H',Inv X pins σ' H' s'∧Q σ' H') X.xe s
noncomputable def PGs (X:Cx) (ts:List Expr) (t:TGs):Prop :=
 ∀(pins:List (Addr×Obj)) (s:Shared) (σ:St) (H:Hp) (vs:List V) (us:List Value) (Q:St→Hp→Prop),Inv X pins σ H s→Vals vs us→t vs σ H Q →
  wpAny (model X.prog X.w) X.A (assignInOrder ((assignEach ts X.env).map (·.2)) us) (fun _ s'=>∃ σ' H',Inv X pins σ' H' s'∧Q σ' H') X.xe s
noncomputable abbrev TSet:=V→V→V→Hp→(Hp→Prop)→Prop
noncomputable def PSet (X:Cx) (t:TSet):Prop :=
 ∀(pins:List (Addr×Obj)) (s:Shared) (σ:St) (H:Hp) (o i v:V) (ov iv u:Value) (Q:Hp→Prop),Inv X pins σ H s→RelV o ov→RelV i iv→RelV v u→t o i v H Q →
  wpAny (model X.prog X.w) X.A (setItem ov iv u) (fun _ s'=>∃ H',Inv X pins σ H' s'∧Q H') X.xe s
noncomputable abbrev TIp:=V→V→Hp→VK→Prop
noncomputable def PIp (X:Cx) (op:Operator) (t:TIp):Prop :=
 ∀(pins:List (Addr×Obj)) (s:Shared) (σ:St) (H:Hp) (x y:V) (v u:Value) (Q:VK),Inv X pins σ H s→RelV x v→RelV y u→t x y H Q →
  wpAny (model X.prog X.w) X.A (inplaceOp op v u) (EP X pins σ Q) X.xe s
section
variable {X:Cx} {pos:Pos}
noncomputable def gName (i:Nat):TG:=fun v σ H Q=>Q (σ.set i (some v)) H
theorem pg_name {i:Nat} {x:Str} (hN:X.N.Nodup) (hi:X.N[i]?=some x) (hx:Loc X.env.scope x) (hf:X.fn x=true∨X.env.scope.names.lookup x=some .local:=by first | exact .inl rfl | exact .inr rfl | assumption):PG X (.Name x pos) (gName i):=by
 intro pins s σ H v u Q I r h
 exact wpAny_assign_Name (store_ok I hN hi hx r (fun s' I'=>⟨_,H,I',h⟩) hf)
noncomputable def gNil:TGs:=fun vs σ H Q=>vs=[]∧Q σ H
noncomputable def gCons (t:TG) (u:TGs):TGs:=fun vs σ H Q=>∃ v r,vs=v::r∧t v σ H fun σ' H'=>u r σ' H' Q
theorem pgs_nil:PGs X [] gNil:=by
 intro pins s σ H vs us Q I r h
 obtain ⟨e,h⟩:=h
 subst e
 cases r
 exact assignInOrder_nil ⟨σ,H,I,h⟩
theorem pgs_cons {e:Expr} {es:List Expr} {t:TG} {u:TGs} (h1:PG X e t) (h2:PGs X es u) (hs:(assignEach (e::es) X.env).map (·.2)=assign e X.env::(assignEach es X.env).map (·.2):=by rfl):PGs X (e::es) (gCons t u):=by
 intro pins s σ H vs us Q I r h
 obtain ⟨v,vr,e1,h⟩:=h
 subst e1
 cases r with
 | cons r rr =>
  rw [hs]
  refine assignInOrder_cons (thn (h1 pins s σ H _ _ _ I r h) fun _ s1 ⟨σ1,H1,I1,q1⟩=>?_)
  exact h2 pins s1 σ1 H1 _ _ Q I1 rr q1
noncomputable def gTup (K:PySem.W.Frag) (n:Nat) (t:TGs):TG:=fun v σ H Q=>∃ a xs,v=.ref a∧SqT K H a xs∧xs.length=n∧t xs σ H Q
noncomputable def gSub (to ti:TE) (t:TSet):TG:=fun v σ H Q=>to σ H fun o H1=>ti σ H1 fun i H2=>t o i v H2 fun H3=>Q σ H3
theorem pg_sub {o i:Expr} {to ti:TE} {t:TSet} (ho:PE X o to) (hi:PE X i ti) (hs:PSet X t)
    (ha:∀ v,assign (.Subscript o i pos) X.env v=(do
      let ov ← holding [v] (eval o X.env)
      let iv ← holding [v,ov] (eval i X.env)
      standAt pos
      holding [v,ov,iv] (setItem ov iv v)
      release [v,ov,iv] []):=by intro _;rfl):PG X (.Subscript o i pos) (gSub to ti t):=by
  intro pins s σ H v u Q I r h
  rw [ha]
  refine wpAny_bind (wpAny_holding (thn (ho pins s σ H _ I h) fun ov s1 ⟨x,H1,I1,r1,q1⟩=>?_))
  refine wpAny_bind (wpAny_holding (thn (hi pins s1 σ H1 _ I1 q1) fun iv s2 ⟨y,H2,I2,r2,q2⟩=>?_))
  refine wpAny_bind (wpAny_standAt (wpAny_bind (wpAny_holding (thn (hs pins s2 σ H2 x y v ov iv u _ I2 r1 r2 r q2) fun _ s3 ⟨H3,I3,q3⟩=>?_))))
  exact wpAny_release ⟨σ,H3,I3,q3⟩
noncomputable def tAsg (te:TE) (g:TG):TS:=fun D σ H=>te σ H fun x H1=>g x σ H1 D.nx
theorem ps_asg {tg e:Expr} {te:TE} {g:TG} (he:PE X e te) (hg:PG X tg g) (hs:swapsWithSole [tg] e pos.line X.env=pure false:=by rfl) (hw:swappedStores [tg] e X.env=pure none:=by rfl) (h1:(assignEach [tg] X.env).map (·.2)=[assign tg X.env]:=by rfl):PS X (.Assign [tg] e pos) (tAsg te g):=by
 intro pins s σ H D I h
 refine wpAny_Assign_stores (thn (he pins s σ H _ I h) fun v s1 ⟨x,H1,I1,r1,q1⟩=>?_) hs hw
 rw [h1]
 exact thn (hg pins s1 σ H1 x v _ I1 r1 q1) fun _ s2 q=>q
theorem ps_set {i:Nat} {x:Str} {e:Expr} {te:TE} {pos':Pos} (hN:X.N.Nodup) (hi:X.N[i]?=some x) (hx:Loc X.env.scope x) (he:PE X e te) (hs:swapsWith e (some (.Name x pos')) pos.line X.env=pure false:=by rfl) (hf:X.fn x=true∨X.env.scope.names.lookup x=some .local:=by first | exact .inl rfl | exact .inr rfl | assumption) : PS X (.Assign [.Name x pos'] e pos) (tAsg te (gName i)):=by
 intro pins s σ H D I h
 refine wpAny_Assign_Name (thn (he pins s σ H _ I h) fun v s1 ⟨y,H1,I1,r1,q1⟩=>?_) hs
 exact store_ok I1 hN hi hx r1 (fun s2 I2=>⟨_,H1,I2,q1⟩) hf
noncomputable def tAug (i:Nat) (te:TE) (ti:TIp):TS:=fun D σ H=>∃ x,σ[i]?=some (some x)∧te σ H fun y H1=>ti x y H1 fun z H2=>D.nx (σ.set i (some z)) H2
theorem ps_aug {i:Nat} {x:Str} {e:Expr} {te:TE} {op:Operator} {ti:TIp} {pos':Pos} (hN:X.N.Nodup) (hi:X.N[i]?=some x) (hx:Loc X.env.scope x) (he:PE X e te) (ho:PIp X op ti) (hf:X.fn x=true∨X.env.scope.names.lookup x=some .local:=by first | exact .inl rfl | exact .inr rfl | assumption) : PS X (.AugAssign (.Name x pos') op e pos) (tAug i te ti):=by
 intro pins s σ H D I h
 obtain ⟨v,e1,h⟩:=h
 obtain ⟨m,hn,hl⟩:=I.loc
 have vis:Vis X.env.scope x:=by rcases hx with k | k;exact .inl k;exact .inr (.inl k)
 obtain ⟨u,r,l⟩:=hl i x v hi e1 vis
 refine wpAny_AugAssign_Name ?_
 have go:wpAny (model X.prog X.w) X.A (eval e X.env) (fun w s₂=>wpAny (model X.prog X.w) X.A (inplaceOp op u w) (fun r s₃=>wpAny (model X.prog X.w) X.A (storeName X.env x r) (fun _=>SP X pins D .next) X.xe s₃) X.xe s₂) X.xe s:=by
  refine thn (he pins s σ H _ I h) fun w s1 ⟨y,H1,I1,r1,q1⟩=>?_
  refine thn (ho pins s1 σ H1 v y u w _ I1 r r1 q1) fun z s2 ⟨zv,H2,I2,r2,q2⟩=>?_
  exact store_ok I2 hN hi hx r2 (fun s3 I3=>⟨_,H2,I3,q2⟩) hf
 rcases l with ⟨hk,hm⟩ | ⟨hk,c,hc,hcell⟩
 ·exact wpAny_loadName_local I.ok.kind hk hn hm go
 ·rcases hk with hk | hk
  ·exact wpAny_loadName_cell I.ok.kind hk hc hcell go
  ·rcases hx with k | k
   ·have:X.env.scope.names.lookup x=some .free:=hk
    rw [k] at this;cases this
   ·have:X.env.scope.names.lookup x=some .free:=hk
    rw [k] at this;cases this
noncomputable def tAugS (to ti te:TE) (tget:V→V→Hp→VK→Prop) (tip:TIp) (tset:TSet):TS:=fun D σ H=>to σ H fun o H1=>ti σ H1 fun i H2=>tget o i H2 fun x H3=>te σ H3 fun y H4=>tip x y H4 fun z H5=>tset o i z H5 fun H6=>D.nx σ H6
noncomputable def PGet (X:Cx) (t:V→V→Hp→VK→Prop):Prop :=
 ∀(pins:List (Addr×Obj)) (s:Shared) (σ:St) (H:Hp) (o i:V) (ov iv:Value) (Q:VK),Inv X pins σ H s→RelV o ov→RelV i iv→t o i H Q →
  wpAny (model X.prog X.w) X.A (getItem ov iv) (EP X pins σ Q) X.xe s
theorem ps_augS {o i e:Expr} {to ti te:TE} {tget:V→V→Hp→VK→Prop} {tip:TIp} {tset:TSet} {op:Operator} {tpos:Pos} (ho:PE X o to) (hi:PE X i ti) (hg:PGet X tget) (he:PE X e te) (hp:PIp X op tip) (hs:PSet X tset)
    (ha:∀ ov iv new,augStore i ov iv new=(do holding [new,ov,iv] (setItem ov iv new);release [new,ov,iv] [];pure .next):=by intros;rfl):PS X (.AugAssign (.Subscript o i tpos) op e pos) (tAugS to ti te tget tip tset):=by
  intro pins s σ H D I h
  refine wpAny_AugAssign_SubscriptAny (thn (ho pins s σ H _ I h) fun ov s1 ⟨x1,H1,I1,r1,q1⟩=>?_) ha
  refine thn (hi pins s1 σ H1 _ I1 q1) fun iv s2 ⟨x2,H2,I2,r2,q2⟩=>?_
  refine thn (hg pins s2 σ H2 x1 x2 ov iv _ I2 r1 r2 q2) fun old s3 ⟨x3,H3,I3,r3,q3⟩=>?_
  refine thn (he pins s3 σ H3 _ I3 q3) fun v s4 ⟨x4,H4,I4,r4,q4⟩=>?_
  refine thn (hp pins s4 σ H4 x3 x4 old v _ I4 r3 r4 q4) fun new s5 ⟨x5,H5,I5,r5,q5⟩=>?_
  exact thn (hs pins s5 σ H5 x1 x2 x5 ov iv new _ I5 r1 r2 r5 q5) fun _ s6 ⟨H6,I6,q6⟩=>⟨σ,H6,I6,q6⟩
noncomputable def ipI (f:Int→Int→Int):TIp:=fun x y H Q=>∃ i j,x=.int i∧y=.int j∧Q (.int (f i j)) H
theorem ip_add:PIp X .Add (ipI fun i j=>i+j):=by
 intro pins s σ H x y v u Q I r1 r2 h
 obtain ⟨i,j,e1,e2,q⟩:=h
 subst e1;subst e2
 obtain ⟨t,rfl⟩:=r1
 obtain ⟨t',rfl⟩:=r2
 exact iadd_int ⟨.int _,H,I.tok _,⟨_,rfl⟩,q⟩
end
section
variable {X:Cx} {pos:Pos}
noncomputable def tWhile (c:TT) (tb:TS):TS:=fun D σ H=>∃ W:Nat→St→Hp→Prop,(∃ m,W m σ H)∧∀ m σ H,W m σ H →
 c σ H fun b H1=>if b=true then ∃ N:St→Hp→Prop,(∀ σ' H',N σ' H'→∃ m',m' < m∧W m' σ' H')∧tb {D with nx:=N,ct:=N,bk:=D.nx} σ H1 else D.nx σ H1
theorem ps_while {c:Expr} {body:List Stmt} {tc:TT} {tb:TS} (hp:PassesOwn (model X.prog X.w) X.A X.env X.xe) (hc:PT X c tc) (hb:PSs X body tb):PS X (.While c body [] pos) (tWhile tc tb):=by
 intro pins s σ H D I h
 obtain ⟨W,⟨m0,w0⟩,turn⟩:=h
 refine wpAny_While (codeAny_whileLoop (fun n s'=>∃ σ' H',Inv X pins σ' H' s'∧W n σ' H') ?_ m0 ⟨σ,H,I,w0⟩)
 rintro n s1 ⟨σ1,H1,I1,w1⟩
 refine wpAny_passesOwn hp (thn (hc pins s1 σ1 H1 _ I1 (turn n σ1 H1 w1)) fun b s2 ⟨H2,I2,q2⟩=>?_)
 cases b with
 | true =>
  obtain ⟨N,hN,q2⟩:=q2
  rw [if_pos rfl]
  refine wpAny_passesOwn hp (thn (hb pins s2 σ1 H2 _ I2 q2) fun f s3 q3=>?_)
  cases f with
  | next =>
   obtain ⟨σ3,H3,I3,n3⟩:=q3
   obtain ⟨m',hm,w3⟩:=hN σ3 H3 n3
   exact ⟨m',hm,σ3,H3,I3,w3⟩
  | cont =>
   obtain ⟨σ3,H3,I3,n3⟩:=q3
   obtain ⟨m',hm,w3⟩:=hN σ3 H3 n3
   exact ⟨m',hm,σ3,H3,I3,w3⟩
  | brk=>exact q3
  | ret v=>exact q3
 | false =>
  rw [if_neg Bool.false_ne_true]
  exact wpAny_execs_nil ⟨σ1,H2,I2,q2⟩
end
structure It where
 go:Nat→Hp→Prop
 yld:Nat→Hp→V→Hp→Prop
 stop:Nat→Hp→Prop
noncomputable def FpOk (X:Cx) (pins:List (Addr×Obj)) (H:Hp) (b:Addr):Prop :=
 H b=none∧b≠X.env.locals∧b∉X.fs∧(b∈X.ex∨X.s₀.heap.objs.size≤b)∧(∀ x c,X.env.cells.lookup x=some c→c≠b)∧∀ p∈X.pn++pins,p.1≠b
theorem Inv.fpOk {X:Cx} {pins:List (Addr×Obj)} {σ:St} {H H':Hp} {s:Shared} {b:Addr} (I:Inv X pins σ H s) (hb:s.heap.objs.size≤b) (hn:H' b=none):FpOk X pins H' b:=by
 refine ⟨hn,Nat.ne_of_gt (Nat.lt_of_lt_of_le I.lt hb),I.nofs hb,.inr (Nat.le_trans I.sz hb),fun x c e z=>?_,fun p hp z=>?_⟩
 ·obtain ⟨v,q⟩:=I.cell x c e
  exact absurd (Nat.lt_of_lt_of_le q.lt (by rw [z];exact hb)) (Nat.lt_irrefl _)
 ·exact absurd (Nat.lt_of_lt_of_le (Heap.lt_size (I.pin p hp).1) (by rw [z];exact hb)) (Nat.lt_irrefl _)
structure Turn (P:Program) (w:World) (K:PySem.W.Frag) (tg:Expr) (J:It) (fp:List Addr) (it:Addr) (tn:Nat→Heap→Prop):Prop where
 mem:it∈fp
 obj:∀ i h,tn i h→∀ b∈fp,∃ o,h.get? b=some o∧∀ v,o.data≠.cell v
 keep:∀ i h h',tn i h→(∀ b∈fp,∀ o,h.get? b=some o→h'.get? b=some o)→tn i h'
 item:∀(X:Cx),X.prog=P→X.w=w→X.K=K→X.calm=true→∀(i:Nat) (pins:List (Addr×Obj)) (s:Shared) (σ:St) (H:Hp) (E:Value→Shared→Prop),Inv X pins σ H s→(∀ b∈fp,FpOk X pins H b)→tn i s.heap→J.go i H →
  wpAny (model P w) X.A (pyNext (.ref it)) (fun r s1=>∃ u,r=some u ∧
   wpAny (model P w) X.A (letOwnedTupleGo tg (.ref it) u) (fun _ s2=>∃ x H',Inv X pins σ H' s2∧RelV x u∧J.yld i H x H'∧tn (i+1) s2.heap∧∀ b∈fp,H' b=none) E s1) E s
 done:∀(X:Cx),X.prog=P→X.w=w→X.K=K→X.calm=true→∀(i:Nat) (pins:List (Addr×Obj)) (s:Shared) (σ:St) (H:Hp) (E:Value→Shared→Prop),Inv X pins σ H s→(∀ b∈fp,FpOk X pins H b)→tn i s.heap→J.stop i H →
  wpAny (model P w) X.A (pyNext (.ref it)) (fun r s1=>r=none∧Inv X pins σ H s1) E s
 self:∀(A:Around) (i:Nat) (s:Shared) (Q:Value→Shared→Prop) (E:Value→Shared→Prop),tn i s.heap→Q (.ref it) s→wpAny (model P w) A (pyIter (.ref it)) Q E s
noncomputable abbrev TI:=St→Hp→(It→Hp→Prop)→Prop
noncomputable def PIE (X:Cx) (pins:List (Addr×Obj)) (σ:St) (tg:Expr) (R:It→Hp→Prop) (itv:Value) (s2:Shared):Prop :=
 ∃(it:Addr) (fp:List Addr) (tn:Nat→Heap→Prop) (J:It) (H':Hp),itv=.ref it∧Inv X pins σ H' s2∧Turn X.prog X.w X.K tg J fp it tn∧tn 0 s2.heap∧(∀ b∈fp,FpOk X pins H' b)∧R J H'
noncomputable def PI (X:Cx) (tg iter:Expr) (wi:TI):Prop :=
 ∀(pins:List (Addr×Obj)) (s:Shared) (σ:St) (H:Hp) (R:It→Hp→Prop),Inv X pins σ H s→wi σ H R →
  wpAny (model X.prog X.w) X.A (eval iter X.env) (fun v s1=>wpAny (model X.prog X.w) X.A (pyIter v) (PIE X pins σ tg R) X.xe s1) X.xe s
theorem go_of {M:Model} {A:Around} {E:Value→Shared→Prop} {s:Shared} {tg:Expr} {it:Addr} {u:Value} {o:Obj} {n:String} {vs:Array Value} {Q:Unit→Shared→Prop} (ho:s.heap.get? it=some o) (hc:o.cls=.type n) (hd:o.data=.fields vs) (hn:["enumerate","zip","dict_itemiterator","dict_reverseitemiterator","odict_iterator","itertools.zip_longest","itertools.pairwise"].contains n=false) (hQ:Q () s):wpAny M A (letOwnedTupleGo tg (.ref it) u) Q E s:=by
  unfold letOwnedTupleGo
  cases tg<;>first
    | exact wpAny_pure hQ
    | (cases u<;>first
        | exact wpAny_pure hQ
        | (refine wpAny_bind (wpAny_load ho ?_)
           rw [hc,hd]
           show wpAny M A (if (["enumerate","zip","dict_itemiterator","dict_reverseitemiterator","odict_iterator","itertools.zip_longest","itertools.pairwise"].contains n && vs[0]? == some (rawInt _))=true then _ else _) Q E s
           rw [if_neg (by intro h;rw [hn,Bool.false_and] at h;cases h)]
           exact wpAny_pure hQ))
noncomputable def Itl (K:PySem.W.Frag) (a:Addr):It :=
 ⟨fun i H=>∃ xs x,SqL K H a xs∧xs[i]?=some x,fun i H x H'=>H'=H∧∀ xs,SqL K H a xs→xs[i]?=some x,fun i H=>∃ xs,SqL K H a xs∧xs.length≤i⟩
noncomputable def Itt (K:PySem.W.Frag) (a:Addr):It :=
 ⟨fun i H=>∃ xs x,SqT K H a xs∧xs[i]?=some x,fun i H x H'=>H'=H∧∀ xs,SqT K H a xs→xs[i]?=some x,fun i H=>∃ xs,SqT K H a xs∧xs.length≤i⟩
noncomputable def Itr (lo:Int) (n:Nat):It:=⟨fun i _=>i < n,fun i H x H'=>H'=H∧x=.int (lo+i),fun i _=>n≤i⟩
theorem turn_list {P:Program} {w:World} {K:PySem.W.Frag} {tg:Expr} (a it:Addr):Turn P w K tg (Itl K a) [it] it (fun i h=>h.IsListIter it a i) where
 mem:=by simp
 obj:=fun i h st b hb=>by
  have e:b=it:=by simpa using hb
  subst e
  obtain ⟨o,e,c,d⟩:=st
  exact ⟨o,e,fun v z=>by rw [d] at z;cases z⟩
 keep:=fun i h h' st k=>st.at fun o e=>k it (by simp) o e
 item:=by
  intro X hP hw hK hc i pins s σ H E I hf st hg
  subst hP hw hK
  obtain ⟨xs,x,hq,hx⟩:=hg
  obtain ⟨its,rv,p,hz⟩:=I.list hq
  obtain ⟨u,hu,ru⟩:=rv.get hx
  obtain ⟨f0,f1,f2,f3,f4,f5⟩:=hf it (by simp)
  refine wpAny_pyNext_list_item st p.isList (x:=u) (by simpa using hu) fun h' st' sb=>?_
  have I1:Inv X pins σ H {s with heap:=h'}:=I.turned (t':=s.toks) (fun b o hb e=>(sb.2 b hb).trans e) f0 f1 f3 f4 f5
  obtain ⟨o,e,c,d⟩:=id st'
  exact ⟨u,rfl,go_of (s:={s with heap:=h'}) e c d (by decide) ⟨x,H,I1,ru,⟨rfl,fun ys hy=>by rw [I.list_inj hy hq];exact hx⟩,st',fun b hb=>(hf b hb).1⟩⟩
 done:=by
  intro X hP hw hK hc i pins s σ H E I hf st hg
  subst hP hw hK
  obtain ⟨xs,hq,hx⟩:=hg
  obtain ⟨its,rv,p,hz⟩:=I.list hq
  obtain ⟨f0,f1,f2,f3,f4,f5⟩:=hf it (by simp)
  have hl:=rv.length
  exact wpAny_pyNext_list_end (I.ok.hd hc) st p.isList (by simp;omega) fun h' eb=>⟨rfl,I.turned (t':=s.toks) (fun b o hb e=>eb b o hb e) f0 f1 f3 f4 f5⟩
 self:=fun _ _ _ _ _ st h=>wpAny_pyIter_listiter st h
theorem turn_tuple {P:Program} {w:World} {K:PySem.W.Frag} {tg:Expr} (a it:Addr):Turn P w K tg (Itt K a) [it] it (fun i h=>h.IsTupleIter it a i) where
 mem:=by simp
 obj:=fun i h st b hb=>by
  have e:b=it:=by simpa using hb
  subst e
  obtain ⟨o,e,c,d⟩:=st
  exact ⟨o,e,fun v z=>by rw [d] at z;cases z⟩
 keep:=fun i h h' st k=>st.at fun o e=>k it (by simp) o e
 item:=by
  intro X hP hw hK hc i pins s σ H E I hf st hg
  subst hP hw hK
  obtain ⟨xs,x,hq,hx⟩:=hg
  obtain ⟨its,rv,p,hz⟩:=I.tuple hq
  obtain ⟨u,hu,ru⟩:=rv.get hx
  obtain ⟨f0,f1,f2,f3,f4,f5⟩:=hf it (by simp)
  refine wpAny_pyNext_tuple_item st (show s.heap.IsTuple a its.toArray from p) (x:=u) (by simpa using hu) fun h' st' sb=>?_
  have I1:Inv X pins σ H {s with heap:=h'}:=I.turned (t':=s.toks) (fun b o hb e=>(sb.2 b hb).trans e) f0 f1 f3 f4 f5
  obtain ⟨o,e,c,d⟩:=id st'
  exact ⟨u,rfl,go_of (s:={s with heap:=h'}) e c d (by decide) ⟨x,H,I1,ru,⟨rfl,fun ys hy=>by rw [I.tuple_inj hy hq];exact hx⟩,st',fun b hb=>(hf b hb).1⟩⟩
 done:=by
  intro X hP hw hK hc i pins s σ H E I hf st hg
  subst hP hw hK
  obtain ⟨xs,hq,hx⟩:=hg
  obtain ⟨its,rv,p,hz⟩:=I.tuple hq
  obtain ⟨f0,f1,f2,f3,f4,f5⟩:=hf it (by simp)
  have hl:=rv.length
  exact wpAny_pyNext_tuple_end (I.ok.hd hc) st (show s.heap.IsTuple a its.toArray from p) (by simp;omega) fun h' eb=>⟨rfl,I.turned (t':=s.toks) (fun b o hb e=>eb b o hb e) f0 f1 f3 f4 f5⟩
 self:=fun _ _ _ _ _ st h=>wpAny_pyIter_tupleiter st h
theorem turn_range {P:Program} {w:World} {K:PySem.W.Frag} {tg:Expr} (it:Addr) (lo:Int) (n:Nat):Turn P w K tg (Itr lo n) [it] it (fun i h=>IsRangeIter h it (lo+(i:Nat) * 1) ((n:Int) - (i:Nat)) 1) where
 mem:=by simp
 obj:=fun i h st b hb=>by
  have e:b=it:=by simpa using hb
  subst e
  exact ⟨_,st,fun v z=>by
   have z':Data.fields _=Data.cell v:=z
   cases z'⟩
 keep:=fun i h h' st k=>k it (by simp) _ st
 item:=by
  intro X hP hw hK hc i pins s σ H E I hf st hg
  subst hP hw hK
  obtain ⟨f0,f1,f2,f3,f4,f5⟩:=hf it (by simp)
  have W:=Walks.range (prog:=X.prog) (w:=X.w) (I.ok.hd hc) it lo 1 n
  refine W.item i s _ _ hg st fun v h' tk hv st' kk=>?_
  obtain ⟨t,rfl⟩:=hv
  have I1:Inv X pins σ H {s with heap:=h',toks:=tk}:=I.turned (fun b o hb e=>kk b o (by simpa using hb) e) f0 f1 f3 f4 f5
  refine ⟨_,rfl,go_of (s:={s with heap:=h',toks:=tk}) (n:="range_iterator") st' rfl rfl (by decide) ⟨.int (lo+i),H,I1,⟨t,?_⟩,⟨rfl,rfl⟩,st',fun b hb=>(hf b hb).1⟩⟩
  rw [Int.mul_one]
 done:=by
  intro X hP hw hK hc i pins s σ H E I hf st hg
  subst hP hw hK
  obtain ⟨f0,f1,f2,f3,f4,f5⟩:=hf it (by simp)
  exact wpAny_pyNext_range_end (I.ok.hd hc) st (by have:n≤i:=hg;omega) fun h' eb=>⟨rfl,I.turned (t':=s.toks) (fun b o hb e=>eb b o hb e) f0 f1 f3 f4 f5⟩
 self:=fun _ _ _ _ _ st h=>wpAny_pyIter_rangeiter st h
end L2
namespace L2
open PySem PySem.Spec PyProof.Rows
section
variable {X:Cx} {tg:Expr}
noncomputable def iList (K:PySem.W.Frag) (tl:TE):TI:=fun σ H R=>tl σ H fun x H1=>∃ a,x=.ref a∧(∃ xs,SqL K H1 a xs)∧R (Itl K a) H1
noncomputable def iTup (K:PySem.W.Frag) (tl:TE):TI:=fun σ H R=>tl σ H fun x H1=>∃ a,x=.ref a∧(∃ xs,SqT K H1 a xs)∧R (Itt K a) H1
theorem range_it {pins:List (Addr×Obj)} {σ:St} {H:Hp} {s:Shared} {R:It→Hp→Prop} {E:Value→Shared→Prop} {lo hi:Int} {t u v:Tok} {tk:Nat} (I:Inv X pins σ H s) (h1:-(2 ^ 62)≤lo) (h2:lo < 2 ^ 62) (h3:-(2 ^ 62)≤hi) (h4:hi < 2 ^ 62) (q:R (Itr lo (hi - lo).toNat) H):wpAny (model X.prog X.w) X.A (pyIter (.ref s.heap.objs.size)) (PIE X pins σ tg R) E {s with heap:=s.heap.push {cls:=.type "range",data:=.fields #[.int lo t,.int hi u,.int 1 v]},toks:=tk}:=by
 refine wpAny_pyIter_range (IsRange.new ..) (small_one h1 h2 h3 h4) ?_
 have I1:Inv X pins σ H {s with heap:=s.heap.push {cls:=.type "range",data:=.fields #[.int lo t,.int hi u,.int 1 v]},toks:=tk}:=I.kept fun b o e=>Heap.get?_push_of_some _ e
 refine ⟨(s.heap.push {cls:=.type "range",data:=.fields #[.int lo t,.int hi u,.int 1 v]}).objs.size,[(s.heap.push {cls:=.type "range",data:=.fields #[.int lo t,.int hi u,.int 1 v]}).objs.size],_,_,H,rfl,
  I1.kept (t':=tk) fun b o e=>Heap.get?_push_of_some _ e,turn_range _ lo (hi - lo).toNat,?_,fun b hb=>?_,q⟩
 ·have e1:lo+((0:Nat):Int) * 1=lo:=by simp
  have e2:(((hi - lo).toNat:Nat):Int) - ((0:Nat):Int)=Builtin.Range.rangeSize lo hi 1:=by rw [rangeSize_one];split<;>omega
  show IsRangeIter _ _ (lo+((0:Nat):Int) * 1) ((((hi - lo).toNat:Nat):Int) - ((0:Nat):Int)) 1
  rw [e1,e2]
  exact Heap.get?_push_size _ rfl
 ·have e:b=(s.heap.push {cls:=.type "range",data:=.fields #[.int lo t,.int hi u,.int 1 v]}).objs.size:=by simpa using hb
  subst e
  exact I1.fpOk (Nat.le_refl _) (I1.hok.fresh (Nat.le_refl _))
noncomputable def iRng1 (ta:TA):TI:=fun σ H R=>ta σ H fun vs H1=>∃ j:Int,vs=[.int j]∧-(2 ^ 62)≤j∧j < 2 ^ 62∧R (Itr 0 j.toNat) H1
noncomputable def iRng2 (ta:TA):TI:=fun σ H R=>ta σ H fun vs H1=>∃ i j:Int,vs=[.int i,.int j]∧(-(2 ^ 62)≤i∧i < 2 ^ 62∧-(2 ^ 62)≤j∧j < 2 ^ 62)∧R (Itr i (j - i).toNat) H1
theorem pi_range1 {a:Expr} {ta:TA} {p pos:Pos} (hg:Gl X "range") (hm:X.mg "range"=none) (ha:PA X [a] ta) (hs:starEach [a] X.env=[(false,eval a X.env)]:=by rfl):PI X tg (.Call (.Name "range" p) [a] [] pos) (iRng1 ta):=by
 intro pins s σ H R I h
 refine Call_ (ld_blt I hg hm boot_range (PyProof.Rows.callWith_type1 (thn (ha pos pins s σ H _ I h) fun us s1 ⟨vs,H1,I1,r1,q1⟩=>?_) hs rfl))
 obtain ⟨j,e,q1,q2,q⟩:=q1
 subst e
 cases r1 with
 | cons r rr =>
  cases rr
  obtain ⟨t,rfl⟩:=r
  exact call_range_1 (range_it I1 (by omega) (by omega) q1 q2 (by simpa using q))
noncomputable def tFor (wi:TI) (g:TG) (tb:TS):TS:=fun D σ H=>wi σ H fun J H1=>∃ W:Nat→Nat→St→Hp→Prop,(∃ m,W 0 m σ H1)∧∀ i m σ H,W i m σ H →
 (J.stop i H∧D.nx σ H)∨(J.go i H∧∃ N:St→Hp→Prop,(∀ σ' H',N σ' H'→∃ m',m' < m∧W (i+1) m' σ' H')∧∀ x H',J.yld i H x H'→g x σ H' fun σ2 H2=>tb {D with nx:=N,ct:=N,bk:=D.nx} σ2 H2)
noncomputable def pinsAt (fp:List Addr) (h:Heap):List (Addr×Obj):=fp.filterMap fun b=>(h.get? b).map fun o=>(b,o)
theorem mem_pinsAt {fp:List Addr} {h:Heap} {b:Addr} {o:Obj} (hb:b∈fp) (e:h.get? b=some o):(b,o)∈pinsAt fp h:=List.mem_filterMap.mpr ⟨b,hb,by rw [e];rfl⟩
theorem of_pinsAt {fp:List Addr} {h:Heap} {p:Addr×Obj} (hp:p∈pinsAt fp h):p.1∈fp∧h.get? p.1=some p.2:=by
 obtain ⟨b,hb,e⟩:=List.mem_filterMap.mp hp
 cases q:h.get? b with
 | none=>rw [q] at e;cases e
 | some o =>
  rw [q] at e
  have e':(b,o)=p:=Option.some.inj e
  subst e'
  exact ⟨hb,q⟩
theorem Inv.pinned {pins:List (Addr×Obj)} {σ:St} {H:Hp} {s:Shared} {fp:List Addr} (I:Inv X pins σ H s) (hf:∀ b∈fp,FpOk X pins H b) (ho:∀ b∈fp,∃ o,s.heap.get? b=some o∧∀ v,o.data≠.cell v):Inv X (pins++pinsAt fp s.heap) σ H s :=
 I.pins_of fun p hp=>(List.mem_append.mp hp).elim (fun z=>I.pin p (List.mem_append_right _ z)) fun z=>by
  obtain ⟨hb,e⟩:=of_pinsAt z
  obtain ⟨f0,f1,f2,_⟩:=hf p.1 hb
  obtain ⟨o,e',d⟩:=ho p.1 hb
  rw [e] at e';cases e'
  exact ⟨e,f0,f1,f2,d⟩
theorem Inv.unpinned {pins pl:List (Addr×Obj)} {σ:St} {H:Hp} {s:Shared} (I:Inv X (pins++pl) σ H s):Inv X pins σ H s:=I.pins_of fun p hp=>I.pin p (List.mem_append_right _ (List.mem_append_left _ hp))
theorem ps_for {iter:Expr} {body:List Stmt} {wi:TI} {g:TG} {tb:TS} {pos:Pos} (hp:PassesOwn (model X.prog X.w) X.A X.env X.xe) (hc:X.calm=true) (hi:PI X tg iter wi) (hg:PG X tg g) (hb:PSs X body tb) (hs:∀ x,foldedSetIterable iter X.env x=pure x:=by intro _;rfl):PS X (.For tg iter body [] pos) (tFor wi g tb):=by
 intro pins s σ H D I h
 refine wpAny_For (thn (hi pins s σ H _ I h) fun v s1 h1=>thn h1 fun itv s2 h2=>?_) hs
 obtain ⟨it,fp,tn,J,H2,e,I2,T,st2,f2,W,⟨m0,w0⟩,turn⟩:=h2
 subst e
 have stat:∀ {H':Hp},(∀ b∈fp,H' b=none)→∀ b∈fp,FpOk X pins H' b:=fun hn b hb=>⟨hn b hb,(f2 b hb).2⟩
 refine codeAny_forLoop_any (fun n s'=>∃ i σ' H',Inv X pins σ' H' s'∧tn i s'.heap∧(∀ b∈fp,H' b=none)∧W i n σ' H') ?_ m0 ⟨0,σ,H2,I2,st2,fun b hb=>(f2 b hb).1,w0⟩
 rintro n s3 ⟨i,σ3,H3,I3,st3,fr3,w3⟩
 rcases turn i n σ3 H3 w3 with ⟨stop,qn⟩ | ⟨go,N,hN,step⟩
 ·refine wpAny_passesOwn hp (thn (T.done X rfl rfl rfl hc i pins s3 σ3 H3 X.xe I3 (stat fr3) st3 stop) fun r s4 ⟨hr,I4⟩=>?_)
  subst hr
  exact wpAny_execs_nil ⟨σ3,H3,I4,qn⟩
 ·refine wpAny_passesOwn hp (thn (T.item X rfl rfl rfl hc i pins s3 σ3 H3 X.xe I3 (stat fr3) st3 go) fun r s4 ⟨u,hr,h4⟩=>?_)
  subst hr
  refine wpAny_passesOwn hp (thn h4 fun _ s5 ⟨x,H5,I5,r5,y5,st5,fr5⟩=>?_)
  have I5':=I5.pinned (stat fr5) (T.obj _ _ st5)
  refine wpAny_passesOwn hp (thn (hg _ s5 σ3 H5 x u _ I5' r5 (step x H5 y5)) fun _ s6 ⟨σ6,H6,I6,q6⟩=>?_)
  refine wpAny_passesOwn hp (thn (hb _ s6 σ6 H6 _ I6 q6) fun f s7 q7=>?_)
  have again:∀ {σ7:St} {H7:Hp},Inv X (pins++pinsAt fp s5.heap) σ7 H7 s7→N σ7 H7→∃ m,m < n∧∃ i σ' H',Inv X pins σ' H' s7∧tn i s7.heap∧(∀ b∈fp,H' b=none)∧W i m σ' H':=fun {σ7 H7} I7 n7=>by
   obtain ⟨m',hm,w7⟩:=hN σ7 H7 n7
   refine ⟨m',hm,i+1,σ7,H7,I7.unpinned,T.keep _ _ _ st5 fun b hb o e=>(I7.pin (b,o) (List.mem_append_right _ (List.mem_append_right _ (mem_pinsAt hb e)))).1,fun b hb=>?_,w7⟩
   obtain ⟨o,e,d⟩:=T.obj _ _ st5 b hb
   exact (I7.pin (b,o) (List.mem_append_right _ (List.mem_append_right _ (mem_pinsAt hb e)))).2.1
  cases f with
  | next=>obtain ⟨σ7,H7,I7,n7⟩:=q7;exact again I7 n7
  | cont=>obtain ⟨σ7,H7,I7,n7⟩:=q7;exact again I7 n7
  | brk=>obtain ⟨σ7,H7,I7,q7⟩:=q7;exact ⟨σ7,H7,I7.unpinned,q7⟩
  | ret v=>obtain ⟨x7,σ7,H7,I7,r7,q7⟩:=q7;exact ⟨x7,σ7,H7,I7.unpinned,r7,q7⟩
end
theorem for_list {K:PySem.W.Frag} {a:Addr} {xs:List V} {g:TG} {tb:TS} {D:Ends} {σ:St} {H:Hp} (Pv:Nat→St→Hp→Prop) (h0:Pv 0 σ H) (hl:∀ i σ H,i≤xs.length→Pv i σ H→SqL K H a xs) (hs:∀ i x σ H,xs[i]?=some x→Pv i σ H→g x σ H fun σ2 H2=>tb {D with nx:=Pv (i+1),ct:=Pv (i+1),bk:=D.nx} σ2 H2) (hd:∀ σ H,Pv xs.length σ H→D.nx σ H) : ∃ W:Nat→Nat→St→Hp→Prop,(∃ m,W 0 m σ H)∧∀ i m σ H,W i m σ H → ((Itl K a).stop i H∧D.nx σ H)∨((Itl K a).go i H∧∃ N:St→Hp→Prop,(∀ σ' H',N σ' H'→∃ m',m' < m∧W (i+1) m' σ' H')∧∀ x H',(Itl K a).yld i H x H'→g x σ H' fun σ2 H2=>tb {D with nx:=N,ct:=N,bk:=D.nx} σ2 H2):=by
 refine ⟨fun i m σ H=>m=xs.length - i∧i≤xs.length∧Pv i σ H,⟨xs.length,by simp,Nat.zero_le _,h0⟩,?_⟩
 rintro i m σ H ⟨rfl,hi,p⟩
 have q:=hl i σ H hi p
 by_cases hlt:i < xs.length
 ·refine .inr ⟨⟨xs,xs[i],q,by simp [hlt]⟩,Pv (i+1),fun σ' H' p'=>⟨xs.length - (i+1),by omega,rfl,hlt,p'⟩,fun x H' y=>?_⟩
  obtain ⟨e,y⟩:=y
  subst e
  exact hs i x σ _ (y xs q) p
 ·have e:i=xs.length:=by omega
  subst e
  exact .inl ⟨⟨xs,q,Nat.le_refl _⟩,hd σ H p⟩
theorem for_tup {K:PySem.W.Frag} {a:Addr} {xs:List V} {g:TG} {tb:TS} {D:Ends} {σ:St} {H:Hp} (Pv:Nat→St→Hp→Prop) (h0:Pv 0 σ H) (hl:∀ i σ H,i≤xs.length→Pv i σ H→SqT K H a xs) (hs:∀ i x σ H,xs[i]?=some x→Pv i σ H→g x σ H fun σ2 H2=>tb {D with nx:=Pv (i+1),ct:=Pv (i+1),bk:=D.nx} σ2 H2) (hd:∀ σ H,Pv xs.length σ H→D.nx σ H) : ∃ W:Nat→Nat→St→Hp→Prop,(∃ m,W 0 m σ H)∧∀ i m σ H,W i m σ H → ((Itt K a).stop i H∧D.nx σ H)∨((Itt K a).go i H∧∃ N:St→Hp→Prop,(∀ σ' H',N σ' H'→∃ m',m' < m∧W (i+1) m' σ' H')∧∀ x H',(Itt K a).yld i H x H'→g x σ H' fun σ2 H2=>tb {D with nx:=N,ct:=N,bk:=D.nx} σ2 H2):=by
 refine ⟨fun i m σ H=>m=xs.length - i∧i≤xs.length∧Pv i σ H,⟨xs.length,by simp,Nat.zero_le _,h0⟩,?_⟩
 rintro i m σ H ⟨rfl,hi,p⟩
 have q:=hl i σ H hi p
 by_cases hlt:i < xs.length
 ·refine .inr ⟨⟨xs,xs[i],q,by simp [hlt]⟩,Pv (i+1),fun σ' H' p'=>⟨xs.length - (i+1),by omega,rfl,hlt,p'⟩,fun x H' y=>?_⟩
  obtain ⟨e,y⟩:=y
  subst e
  exact hs i x σ _ (y xs q) p
 ·have e:i=xs.length:=by omega
  subst e
  exact .inl ⟨⟨xs,q,Nat.le_refl _⟩,hd σ H p⟩
theorem for_range {lo:Int} {n:Nat} {g:TG} {tb:TS} {D:Ends} {σ:St} {H:Hp} (Pv:Nat→St→Hp→Prop) (h0:Pv 0 σ H) (hs:∀ i σ H,i < n→Pv i σ H→g (.int (lo+i)) σ H fun σ2 H2=>tb {D with nx:=Pv (i+1),ct:=Pv (i+1),bk:=D.nx} σ2 H2) (hd:∀ σ H,Pv n σ H→D.nx σ H) : ∃ W:Nat→Nat→St→Hp→Prop,(∃ m,W 0 m σ H)∧∀ i m σ H,W i m σ H → ((Itr lo n).stop i H∧D.nx σ H)∨((Itr lo n).go i H∧∃ N:St→Hp→Prop,(∀ σ' H',N σ' H'→∃ m',m' < m∧W (i+1) m' σ' H')∧∀ x H',(Itr lo n).yld i H x H'→g x σ H' fun σ2 H2=>tb {D with nx:=N,ct:=N,bk:=D.nx} σ2 H2):=by
 refine ⟨fun i m σ H=>m=n - i∧i≤n∧Pv i σ H,⟨n,by simp,Nat.zero_le _,h0⟩,?_⟩
 rintro i m σ H ⟨rfl,hi,p⟩
 by_cases hlt:i < n
 ·refine .inr ⟨hlt,Pv (i+1),fun σ' H' p'=>⟨n - (i+1),by omega,rfl,hlt,p'⟩,fun x H' y=>?_⟩
  obtain ⟨e,y⟩:=y
  subst e y
  exact hs i σ _ hlt p
 ·have e:i=n:=by omega
  subst e
  exact .inl ⟨Nat.le_refl _,hd σ H p⟩
end L2
namespace L2
open PySem PySem.Spec PyProof.Rows
noncomputable abbrev R2:=V→V→Hp→VK→Prop
noncomputable def OpR (X:Cx) (f:Value→Value→Sem Value) (r:R2):Prop :=
 ∀(pins:List (Addr×Obj)) (s:Shared) (σ:St) (H:Hp) (x y:V) (v u:Value) (Q:VK),Inv X pins σ H s→RelV x v→RelV y u→r x y H Q →
  wpAny (model X.prog X.w) X.A (f v u) (EP X pins σ Q) X.xe s
noncomputable def UnR (X:Cx) (f:Value→Sem Value) (r:V→Hp→VK→Prop):Prop :=
 ∀(pins:List (Addr×Obj)) (s:Shared) (σ:St) (H:Hp) (x:V) (v:Value) (Q:VK),Inv X pins σ H s→RelV x v→r x H Q →
  wpAny (model X.prog X.w) X.A (f v) (EP X pins σ Q) X.xe s
noncomputable def CallR (X:Cx) (f:Value) (r:List V→Hp→VK→Prop):Prop :=
 ∀(pins:List (Addr×Obj)) (s:Shared) (σ:St) (H:Hp) (xs:List V) (us:List Value) (Q:VK),Inv X pins σ H s→Vals xs us→r xs H Q →
  wpAny (model X.prog X.w) X.A (call f us) (EP X pins σ Q) X.xe s
noncomputable def TruR (X:Cx) (r:V→Hp→(Bool→Hp→Prop)→Prop):Prop :=
 ∀(pins:List (Addr×Obj)) (s:Shared) (σ:St) (H:Hp) (x:V) (v:Value) (Q:Bool→Hp→Prop),Inv X pins σ H s→RelV x v→r x H Q →
  wpAny (model X.prog X.w) X.A (truthy v) (TP X pins σ Q) X.xe s
noncomputable def tOp (r:R2) (ta tb:TE):TE:=fun σ H Q=>ta σ H fun x H1=>tb σ H1 fun y H2=>r x y H2 Q
noncomputable def tUn (r:V→Hp→VK→Prop) (ta:TE):TE:=fun σ H Q=>ta σ H fun x H1=>r x H1 Q
noncomputable def rI (C:Int→Int→Prop) (g:Int→Int→V):R2:=fun x y H Q=>∃ i j,x=.int i∧y=.int j∧C i j∧Q (g i j) H
noncomputable def rI0 (g:Int→Int→V):R2:=fun x y H Q=>∃ i j,x=.int i∧y=.int j∧Q (g i j) H
noncomputable def rU (g:Int→V):V→Hp→VK→Prop:=fun x H Q=>∃ i,x=.int i∧Q (g i) H
section
variable {X:Cx} {a b c:Expr} {ta tb tc:TE} {pos:Pos}
theorem binT (ha:PE X a ta) (hb:PE X b tb) {pins:List (Addr×Obj)} {s:Shared} {σ:St} {H:Hp} {R:V→V→Hp→Prop} (I:Inv X pins σ H s) (h:ta σ H fun x H1=>tb σ H1 fun y H2=>R x y H2) {Q:Value→Shared→Prop} {f:Value→Value→Sem Value} (hf:∀ v u s2 x y H2,Inv X pins σ H2 s2→RelV x v→RelV y u→R x y H2→wpAny (model X.prog X.w) X.A (f v u) Q X.xe s2) : wpAny (model X.prog X.w) X.A (eval a X.env) (fun v s₁=>wpAny (model X.prog X.w) X.A (eval b X.env) (fun u s₂=>wpAny (model X.prog X.w) X.A (f v u) Q X.xe s₂) X.xe s₁) X.xe s:=by
 refine thn (ha pins s σ H _ I h) fun v s1 ⟨x,H1,I1,r1,q1⟩=>?_
 refine thn (hb pins s1 σ H1 _ I1 q1) fun u s2 ⟨y,H2,I2,r2,q2⟩=>?_
 exact hf v u s2 x y H2 I2 r1 r2 q2
theorem pe_op {op:Operator} {r:R2} (ho:OpR X (binaryOp op) r) (ha:PE X a ta) (hb:PE X b tb):PE X (.BinOp a op b pos) (tOp r ta tb):=by
 intro pins s σ H Q I h
 exact wpAny_BinOp (binT ha hb I h fun v u s2 x y H2 I2 rx ry q=>ho pins s2 σ H2 x y v u Q I2 rx ry q)
theorem pe_un {op:UnaryOp} {r:V→Hp→VK→Prop} (ho:UnR X (unaryOp op) r) (ha:PE X a ta):PE X (.UnaryOp op a pos) (tUn r ta):=by
 intro pins s σ H Q I h
 exact UnaryOp_ (thn (ha pins s σ H _ I h) fun v s1 ⟨x,H1,I1,r1,q1⟩=>ho pins s1 σ H1 x v Q I1 r1 q1)
theorem opI {f:Value→Value→Sem Value} {C:Int→Int→Prop} {g:Int→Int→Int} (rule:∀(i j:Int) (t u:Tok) (s:Shared) (Q:Value→Shared→Prop) (E:Value→Shared→Prop),C i j→Q (.int (g i j) s.toks) {s with toks:=s.toks+1}→wpAny (model X.prog X.w) X.A (f (.int i t) (.int j u)) Q E s) : OpR X f (rI C fun i j=>.int (g i j)):=by
 intro pins s σ H x y v u Q I rx ry h
 obtain ⟨i,j,rfl,rfl,hc,q⟩:=h
 obtain ⟨t,rfl⟩:=rx
 obtain ⟨t',rfl⟩:=ry
 exact rule i j t t' s _ _ hc ⟨.int (g i j),H,I.tok _,⟨_,rfl⟩,q⟩
theorem opI0 {f:Value→Value→Sem Value} {g:Int→Int→Int} (rule:∀(i j:Int) (t u:Tok) (s:Shared) (Q:Value→Shared→Prop) (E:Value→Shared→Prop),Q (.int (g i j) s.toks) {s with toks:=s.toks+1}→wpAny (model X.prog X.w) X.A (f (.int i t) (.int j u)) Q E s) : OpR X f (rI0 fun i j=>.int (g i j)):=by
 intro pins s σ H x y v u Q I rx ry h
 obtain ⟨i,j,rfl,rfl,q⟩:=h
 obtain ⟨t,rfl⟩:=rx
 obtain ⟨t',rfl⟩:=ry
 exact rule i j t t' s _ _ ⟨.int (g i j),H,I.tok _,⟨_,rfl⟩,q⟩
theorem opB0 {f:Value→Value→Sem Value} {g:Int→Int→Bool} (rule:∀(i j:Int) (t u:Tok) (s:Shared) (Q:Value→Shared→Prop) (E:Value→Shared→Prop),Q (.bool (g i j)) s→wpAny (model X.prog X.w) X.A (f (.int i t) (.int j u)) Q E s) : OpR X f (rI0 fun i j=>.bl (g i j)):=by
 intro pins s σ H x y v u Q I rx ry h
 obtain ⟨i,j,rfl,rfl,q⟩:=h
 obtain ⟨t,rfl⟩:=rx
 obtain ⟨t',rfl⟩:=ry
 exact rule i j t t' s _ _ ⟨.bl (g i j),H,I,rfl,q⟩
noncomputable def CPow (i j:Int):Prop:=0≤j∧j≤1000000∧i.natAbs < 2 ^ 64
noncomputable def CMul (i j:Int):Prop:=(-(2 ^ 64) < i∧i < 2 ^ 64)∨(-(2 ^ 64) < j∧j < 2 ^ 64)
theorem CMul.ok {i j:Int} (h:CMul i j):IntMulOk i j:=by
 rcases h with ⟨h1,h2⟩ | ⟨h1,h2⟩
 ·exact .of_left (intBits_le_64 h1 h2)
 ·exact .of_right (intBits_le_64 h1 h2)
theorem op_add:OpR X (binaryOp .Add) (rI0 fun i j=>.int (i+j)):=opI0 fun _ _ _ _ _ _ _ q=>add_int q
theorem op_sub:OpR X (binaryOp .Sub) (rI0 fun i j=>.int (i - j)):=opI0 fun _ _ _ _ _ _ _ q=>sub_int q
theorem op_mul:OpR X (binaryOp .Mult) (rI CMul fun i j=>.int (i * j)):=opI fun _ _ _ _ _ _ _ hc q=>mul_int q hc.ok
theorem op_mod:OpR X (binaryOp .Mod) (rI (fun _ j=>0 < j) fun i j=>.int (i % j)):=opI fun i j _ _ _ _ _ hc q=>by
 have h1:(0:Int) < j:=hc
 exact mod_int' (by omega) (by rw [Int.fmod_eq_emod_of_nonneg i (by omega)];exact q)
theorem op_pow:OpR X (binaryOp .Pow) (rI CPow fun i j=>.int (i ^ j.toNat)):=opI fun _ _ _ _ _ _ _ hc q=>pow_int_small hc.1 hc.2.1 hc.2.2 q
theorem unI {f:Value→Sem Value} {g:Int→Int} (rule:∀(i:Int) (t:Tok) (s:Shared) (Q:Value→Shared→Prop) (E:Value→Shared→Prop),Q (.int (g i) s.toks) {s with toks:=s.toks+1}→wpAny (model X.prog X.w) X.A (f (.int i t)) Q E s) : UnR X f (rU fun i=>.int (g i)):=by
 intro pins s σ H x v Q I rx h
 obtain ⟨i,rfl,q⟩:=h
 obtain ⟨t,rfl⟩:=rx
 exact rule i t s _ _ ⟨.int (g i),H,I.tok _,⟨_,rfl⟩,q⟩
theorem un_neg:UnR X (unaryOp .USub) (rU fun i=>.int (-i)):=unI fun _ _ _ _ _ q=>neg_int q
end
noncomputable def scal:V→V→Bool
 | .non,.non=>true | .non,.int _=>true | .int _,.non=>true | .non,.bl _=>true | .bl _,.non=>true | .non,.str _=>true | .str _,.non=>true
 | .int _,.int _=>true | .bl _,.bl _=>true | .str _,.str _=>true | .byt _,.byt _=>true
 | .int _,.str _=>true | .str _,.int _=>true | .bl _,.str _=>true | .str _,.bl _=>true
 | _,_=>false
noncomputable def rEq:R2:=fun x y H Q=>scal x y=true∧Q (.bl (decide (x=y))) H
noncomputable def rNe:R2:=fun x y H Q=>scal x y=true∧Q (.bl (!decide (x=y))) H
theorem dec_int {i j:Int}:decide (V.int i=V.int j)=(i == j):=by
 rw [Bool.eq_iff_iff]
 simp
theorem dec_bl {i j:Bool}:decide (V.bl i=V.bl j)=(i == j):=by
 rw [Bool.eq_iff_iff]
 simp
theorem dec_str {i j:Str}:decide (V.str i=V.str j)=(i == j):=by
 rw [Bool.eq_iff_iff]
 simp
theorem dec_byt {i j:Array UInt8}:decide (V.byt i=V.byt j)=(i.toList == j.toList):=by
 rw [Bool.eq_iff_iff]
 cases i
 cases j
 simp
section
variable {X:Cx} {a b c:Expr} {ta tb tc:TE} {pos:Pos}
theorem fin_bl {pins:List (Addr×Obj)} {σ:St} {H:Hp} {s:Shared} {Q:VK} {k k':Bool} (I:Inv X pins σ H s) (q:Q (.bl k) H) (e:k=k'):EP X pins σ Q (.bool k') s:=by
 subst e
 exact ⟨.bl k,H,I,rfl,q⟩
theorem op_eq:OpR X (compareOp .Eq) rEq:=by
 intro pins s σ H x y v u Q I rx ry h
 obtain ⟨hs,q⟩:=h
 cases x with
 | non =>
  cases rx
  cases y with
  | non=>cases ry;exact PySem.EqNone.eq_none_none (fin_bl I q (by simp))
  | bl j=>cases ry;exact PySem.EqNone.eq_none_bool (fin_bl I q (by simp))
  | int j=>obtain ⟨t',rfl⟩:=ry;exact PySem.EqNone.eq_none_int (fin_bl I q (by simp))
  | str j=>obtain ⟨t',rfl⟩:=ry;exact PySem.EqNone.eq_none_str (fin_bl I q (by simp))
  | _=>exact absurd (show false=true from hs) Bool.false_ne_true
 | bl i =>
  cases rx
  cases y with
  | non=>cases ry;exact PySem.EqNone.eq_bool_none (fin_bl I q (by simp))
  | bl j=>cases ry;exact eq_bool (fin_bl I q dec_bl)
  | str j=>obtain ⟨t',rfl⟩:=ry;exact PySem.EqMixed.eq_bool_str (fin_bl I q (by simp))
  | _=>exact absurd (show false=true from hs) Bool.false_ne_true
 | int i =>
  obtain ⟨t,rfl⟩:=rx
  cases y with
  | non=>cases ry;exact PySem.EqNone.eq_int_none (fin_bl I q (by simp))
  | int j=>obtain ⟨t',rfl⟩:=ry;exact eq_int (fin_bl I q dec_int)
  | str j=>obtain ⟨t',rfl⟩:=ry;exact PySem.EqMixed.eq_int_str (fin_bl I q (by simp))
  | _=>exact absurd (show false=true from hs) Bool.false_ne_true
 | str i =>
  obtain ⟨t,rfl⟩:=rx
  cases y with
  | non=>cases ry;exact PySem.EqNone.eq_str_none (fin_bl I q (by simp))
  | bl j=>cases ry;exact PySem.EqMixed.eq_str_bool (fin_bl I q (by simp))
  | int j=>obtain ⟨t',rfl⟩:=ry;exact PySem.EqMixed.eq_str_int (fin_bl I q (by simp))
  | str j=>obtain ⟨t',rfl⟩:=ry;exact eq_str (fin_bl I q dec_str)
  | _=>exact absurd (show false=true from hs) Bool.false_ne_true
 | byt i =>
  obtain ⟨t,rfl⟩:=rx
  cases y with
  | byt j=>obtain ⟨t',rfl⟩:=ry;exact PySem.W.eq_bytes (fin_bl I q dec_byt)
  | _=>exact absurd (show false=true from hs) Bool.false_ne_true
 | _=>cases y<;>exact absurd (show false=true from hs) Bool.false_ne_true
theorem op_ne:OpR X (compareOp .NotEq) rNe:=by
 intro pins s σ H x y v u Q I rx ry h
 obtain ⟨hs,q⟩:=h
 cases x with
 | non =>
  cases rx
  cases y with
  | non=>cases ry;exact PySem.EqNone.ne_none_none (fin_bl I q (by simp))
  | bl j=>cases ry;exact PySem.EqNone.ne_none_bool (fin_bl I q (by simp))
  | int j=>obtain ⟨t',rfl⟩:=ry;exact PySem.EqNone.ne_none_int (fin_bl I q (by simp))
  | str j=>obtain ⟨t',rfl⟩:=ry;exact PySem.EqNone.ne_none_str (fin_bl I q (by simp))
  | _=>exact absurd (show false=true from hs) Bool.false_ne_true
 | bl i =>
  cases rx
  cases y with
  | non=>cases ry;exact PySem.EqNone.ne_bool_none (fin_bl I q (by simp))
  | bl j=>cases ry;exact ne_bool (fin_bl I q (congrArg not dec_bl))
  | str j=>obtain ⟨t',rfl⟩:=ry;exact PySem.EqMixed.ne_bool_str (fin_bl I q (by simp))
  | _=>exact absurd (show false=true from hs) Bool.false_ne_true
 | int i =>
  obtain ⟨t,rfl⟩:=rx
  cases y with
  | non=>cases ry;exact PySem.EqNone.ne_int_none (fin_bl I q (by simp))
  | int j=>obtain ⟨t',rfl⟩:=ry;exact ne_int (fin_bl I q (congrArg not dec_int))
  | str j=>obtain ⟨t',rfl⟩:=ry;exact PySem.EqMixed.ne_int_str (fin_bl I q (by simp))
  | _=>exact absurd (show false=true from hs) Bool.false_ne_true
 | str i =>
  obtain ⟨t,rfl⟩:=rx
  cases y with
  | non=>cases ry;exact PySem.EqNone.ne_str_none (fin_bl I q (by simp))
  | bl j=>cases ry;exact PySem.EqMixed.ne_str_bool (fin_bl I q (by simp))
  | int j=>obtain ⟨t',rfl⟩:=ry;exact PySem.EqMixed.ne_str_int (fin_bl I q (by simp))
  | str j=>obtain ⟨t',rfl⟩:=ry;exact ne_str (fin_bl I q (congrArg not dec_str))
  | _=>exact absurd (show false=true from hs) Bool.false_ne_true
 | byt i =>
  obtain ⟨t,rfl⟩:=rx
  cases y with
  | byt j=>obtain ⟨t',rfl⟩:=ry;exact PySem.W.ne_bytes (fin_bl I q (congrArg not dec_byt))
  | _=>exact absurd (show false=true from hs) Bool.false_ne_true
 | _=>cases y<;>exact absurd (show false=true from hs) Bool.false_ne_true
theorem op_lt:OpR X (compareOp .Lt) (rI0 fun i j=>.bl (decide (i < j))):=opB0 fun _ _ _ _ _ _ _ q=>lt_int q
theorem op_gt:OpR X (compareOp .Gt) (rI0 fun i j=>.bl (decide (j < i))):=opB0 fun _ _ _ _ _ _ _ q=>gt_int q
theorem op_ge:OpR X (compareOp .GtE) (rI0 fun i j=>.bl (decide (j≤i))):=opB0 fun _ _ _ _ _ _ _ q=>ge_int q
theorem op_isN:OpR X (compareOp .Is) (fun x y H Q=>y=.non∧Q (.bl (decide (x=.non))) H):=by
 intro pins s σ H x y v u Q I rx ry h
 obtain ⟨rfl,q⟩:=h
 cases ry
 refine is_none_gen (fin_bl I q ?_)
 cases x<;>first
  | (cases rx;rfl)
  | (obtain ⟨t,rfl⟩:=rx;rfl)
theorem op_notN:OpR X (compareOp .IsNot) (fun x y H Q=>y=.non∧Q (.bl (!decide (x=.non))) H):=by
 intro pins s σ H x y v u Q I rx ry h
 obtain ⟨rfl,q⟩:=h
 cases ry
 refine isnot_none_gen (fin_bl I q ?_)
 cases x<;>first
  | (cases rx;rfl)
  | (obtain ⟨t,rfl⟩:=rx;rfl)
theorem OpR.or {f:Value→Value→Sem Value} {r r':R2} (h:OpR X f r) (h':OpR X f r'):OpR X f (fun x y H Q=>r x y H Q∨r' x y H Q):=by
 intro pins s σ H x y v u Q I rx ry q
 rcases q with q | q
 ·exact h pins s σ H x y v u Q I rx ry q
 ·exact h' pins s σ H x y v u Q I rx ry q
theorem nomark (b:Expr) {op:CmpOp} (h:op≠.In:=by decide) (h2:op≠.NotIn:=by decide):behindInMarks op b=false:=by
 have e1:(op == CmpOp.In)=false:=by cases op<;>first | rfl | exact absurd rfl h
 have e2:(op == CmpOp.NotIn)=false:=by cases op<;>first | rfl | exact absurd rfl h2
 cases b<;>simp [behindInMarks,e1,e2]
theorem pe_cmpR {op:CmpOp} {r:R2} (ho:OpR X (compareOp op) r) (ha:PE X a ta) (hb:PE X b tb) (hm:behindInMarks op b=false):PE X (.Compare a [op] [b] pos) (tOp r ta tb):=by
 intro pins s σ H Q I h
 exact wpAny_Compare1 (binT ha hb I h fun v u s2 x y H2 I2 rx ry q=>ho pins s2 σ H2 x y v u Q I2 rx ry q) hm
noncomputable def tTest (t:TE):TT:=fun σ H Q=>t σ H fun x H'=>∃ k,x=.bl k∧Q k H'
theorem pt_cmpR {op:CmpOp} {r:R2} (ho:OpR X (compareOp op) r) (ha:PE X a ta) (hb:PE X b tb) (hm:behindInMarks op b=false):PT X (.Compare a [op] [b] pos) (tTest (tOp r ta tb)):=by
 intro pins s σ H Q I h
 refine wpAny_isTrue_Compare1 (thn (ha pins s σ H _ I h) fun v s1 ⟨x,H1,I1,r1,q1⟩=>thn (hb pins s1 σ H1 _ I1 q1) fun u s2 ⟨y,H2,I2,r2,q2⟩ =>
  thn (ho pins s2 σ H2 x y v u _ I2 r1 r2 q2) fun c s3 ⟨z,H3,I3,r3,k,e,q3⟩=>?_) hm
 subst e
 cases r3
 exact wpAny_truthy_bool ⟨H3,I3,q3⟩
noncomputable def tChain (r r':R2) (ta tb tc:TE):TE:=fun σ H Q=>ta σ H fun x H1=>tb σ H1 fun y H2=>r x y H2 fun z H3=>∃ k,z=.bl k ∧
 (if k=true then tc σ H3 fun w' H4=>r' y w' H4 Q else Q (.bl false) H3)
noncomputable def TruV (K:PySem.W.Frag) (x:V) (H:Hp) (k:Bool):Prop :=
 match x with
 | .non=>k=false
 | .bl b=>k=b
 | .int i=>k=(i != 0)
 | .str y=>y.length≤sizeLine∧k=((y.length:Int) != 0)
 | .byt y=>y.size≤sizeLine∧k=((y.size:Int) != 0)
 | .ref p=>(∃ xs,SqL K H p xs∧k = !xs.isEmpty)∨(∃ xs,SqT K H p xs∧k = !xs.isEmpty)∨∃ kvs,H p=some (.dK kvs)∧k = !kvs.isEmpty
 | _=>False
theorem isEmpty_kv {κ:Type} {kvs:List (κ×V)} {vs:List (κ×Value)} (r:KV kvs vs):(!vs.isEmpty) = !kvs.isEmpty:=by
 cases r<;>rfl
theorem isEmpty_of {xs:List V} {its:List Value} (r:Vals xs its):(!its.toArray.isEmpty) = !xs.isEmpty:=by
 cases r<;>simp
theorem line63:(sizeLine:Nat) < 2 ^ 63:=by rw [sizeLine_eq];decide
theorem tru_ok:TruR X (fun x H Q=>∃ k,TruV X.K x H k∧Q k H):=by
 intro pins s σ H x v Q I rx h
 obtain ⟨k,e,q⟩:=h
 have hl:=line63
 have hs:sizeLine=16777216:=sizeLine_eq
 cases x with
 | non =>
  cases rx
  have e':k=false:=e
  subst e'
  exact truthy_none ⟨H,I,q⟩
 | bl b =>
  cases rx
  have e':k=b:=e
  subst e'
  exact wpAny_truthy_bool ⟨H,I,q⟩
 | int i =>
  obtain ⟨t,rfl⟩:=rx
  have e':k=(i != 0):=e
  subst e'
  exact PySem.P.truthy_int ⟨H,I,q⟩
 | str y =>
  obtain ⟨t,rfl⟩:=rx
  obtain ⟨hy,e'⟩:y.length≤sizeLine∧k=((y.length:Int) != 0):=e
  subst e'
  exact PySem.P.truthy_str (by omega) ⟨H,I.tok _,q⟩
 | byt y =>
  obtain ⟨t,rfl⟩:=rx
  obtain ⟨hy,e'⟩:y.size≤sizeLine∧k=((y.size:Int) != 0):=e
  subst e'
  exact PySem.W.truthy_bytes (by omega) ⟨H,I.tok _,q⟩
 | ref p =>
  cases rx
  have e':(∃ xs,SqL X.K H p xs∧k = !xs.isEmpty)∨(∃ xs,SqT X.K H p xs∧k = !xs.isEmpty)∨∃ kvs,H p=some (.dK kvs)∧k = !kvs.isEmpty:=e
  rcases e' with ⟨xs,hx,e'⟩ | ⟨xs,hx,e'⟩ | ⟨kvs,hx,e'⟩
  ·subst e'
   obtain ⟨its,r,pl,hz⟩:=I.list hx
   have hlen:=r.length
   exact wpAny_truthy_list pl.isList (by simp only [List.size_toArray];omega) ⟨H,I.tok _,by rw [isEmpty_of r];exact q⟩
  ·subst e'
   obtain ⟨its,r,pl,hz⟩:=I.tuple hx
   have hlen:=r.length
   exact truthy_tuple pl (by simp only [List.size_toArray];omega) ⟨H,I.tok _,by rw [isEmpty_of r];exact q⟩
  ·subst e'
   obtain ⟨hz,hS,vs,r,m⟩:kvs.length≤sizeLine∧(p == sysModules)=false∧∃ vs,KV kvs vs∧s.heap.DictOf (mixKind X.prog X.w) p vs:=I.hok p _ hx
   have hlen:kvs.length=vs.length:=Paired.length r
   exact wpAny_truthy_dict hS m (by omega) ⟨H,I.tok _,by rw [isEmpty_kv r];exact q⟩
 | _=>exact (show False from e).elim
theorem op_add_str:OpR X (binaryOp .Add) (fun x y H Q=>∃ i j,x=.str i∧y=.str j∧i.length+j.length≤sizeLine∧Q (.str (i++j)) H):=by
 intro pins s σ H x y v u Q I rx ry h
 obtain ⟨i,j,rfl,rfl,hz,q⟩:=h
 obtain ⟨t,rfl⟩:=rx
 obtain ⟨t',rfl⟩:=ry
 exact add_str (fun t' tk=>⟨.str (i++j),H,I.tok _,⟨_,rfl⟩,q⟩) hz
theorem vals1 {x:V} {us:List Value} (r:Vals [x] us):∃ u,us=[u]∧RelV x u:=by
 cases r with
 | cons r1 r2=>cases r2;exact ⟨_,rfl,r1⟩
theorem vals2 {x y:V} {us:List Value} (r:Vals [x,y] us):∃ u w',us=[u,w']∧RelV x u∧RelV y w':=by
 cases r with
 | cons r1 r2 =>
  cases r2 with
  | cons r3 r4=>cases r4;exact ⟨_,_,rfl,r1,r3⟩
theorem call_max2 (hc:X.calm=true):CallR X (.builtin "max") (fun xs H Q=>∃ i j,xs=[.int i,.int j]∧Q (.int (if j > i then j else i)) H):=by
 intro pins s σ H xs us Q I r h
 obtain ⟨i,j,rfl,q⟩:=h
 obtain ⟨u,w',rfl,⟨t,rfl⟩,⟨t',rfl⟩⟩:=vals2 r
 refine max_two_ints (I.ok.hd hc) fun h' tk k=>⟨_,H,I.kept k,?_,q⟩
 by_cases hj:j > i
 ·rw [if_pos hj,if_pos hj];exact ⟨_,rfl⟩
 ·rw [if_neg hj,if_neg hj];exact ⟨_,rfl⟩
theorem call_min2 (hc:X.calm=true):CallR X (.builtin "min") (fun xs H Q=>∃ i j,xs=[.int i,.int j]∧Q (.int (if j < i then j else i)) H):=by
 intro pins s σ H xs us Q I r h
 obtain ⟨i,j,rfl,q⟩:=h
 obtain ⟨u,w',rfl,⟨t,rfl⟩,⟨t',rfl⟩⟩:=vals2 r
 refine min_two_ints (I.ok.hd hc) fun h' tk k=>⟨_,H,I.kept k,?_,q⟩
 by_cases hj:j < i
 ·rw [if_pos hj,if_pos hj];exact ⟨_,rfl⟩
 ·rw [if_neg hj,if_neg hj];exact ⟨_,rfl⟩
theorem call_int1:CallR X (.type "int") (fun xs H Q=>(∃ i,xs=[.int i]∧Q (.int i) H)∨∃ k,xs=[.bl k]∧Q (.int (if k then 1 else 0)) H):=by
 intro pins s σ H xs us Q I r h
 rcases h with ⟨i,rfl,q⟩ | ⟨k,rfl,q⟩
 ·obtain ⟨u,rfl,t,rfl⟩:=vals1 r
  exact call_int_int ⟨.int i,H,I,⟨_,rfl⟩,q⟩
 ·obtain ⟨u,rfl,r1⟩:=vals1 r
  cases r1
  exact call_int_bool ⟨.int (if k then 1 else 0),H,I.tok _,⟨_,rfl⟩,q⟩
noncomputable def LenV (K:PySem.W.Frag) (x:V) (H:Hp) (n:Nat):Prop :=
 match x with
 | .str y=>y.length≤sizeLine∧n=y.length
 | .byt y=>y.size≤sizeLine∧n=y.size
 | .ref p=>(∃ xs,SqL K H p xs∧n=xs.length)∨∃ xs,SqT K H p xs∧n=xs.length
 | _=>False
theorem call_len:CallR X (.builtin "len") (fun xs H Q=>∃ x n,xs=[x]∧LenV X.K x H n∧Q (.int n) H):=by
 intro pins s σ H xs us Q I r h
 obtain ⟨x,n,rfl,e,q⟩:=h
 obtain ⟨u,rfl,rx⟩:=vals1 r
 have hl:=line63
 have hs:sizeLine=16777216:=sizeLine_eq
 cases x with
 | str y =>
  obtain ⟨t,rfl⟩:=rx
  obtain ⟨hy,e'⟩:y.length≤sizeLine∧n=y.length:=e
  subst e'
  exact len_str (by omega) ⟨.int _,H,I.tok _,⟨_,rfl⟩,q⟩
 | byt y =>
  obtain ⟨t,rfl⟩:=rx
  obtain ⟨hy,e'⟩:y.size≤sizeLine∧n=y.size:=e
  subst e'
  exact PySem.W.len_bytes (by omega) ⟨.int _,H,I.tok _,⟨_,rfl⟩,q⟩
 | ref p =>
  cases rx
  have e':(∃ xs,SqL X.K H p xs∧n=xs.length)∨∃ xs,SqT X.K H p xs∧n=xs.length:=e
  rcases e' with ⟨xs,hx,e'⟩ | ⟨xs,hx,e'⟩
  ·subst e'
   obtain ⟨its,r',pl,hz⟩:=I.list hx
   have hlen:=r'.length
   exact Calls.call_len_list pl.isList (by simp only [List.size_toArray];omega) ⟨.int xs.length,H,I.tok _,⟨_,by simp only [List.size_toArray];rw [hlen]⟩,q⟩
  ·subst e'
   obtain ⟨its,r',pl,hz⟩:=I.tuple hx
   have hlen:=r'.length
   exact len_tuple pl (by simp only [List.size_toArray];omega) ⟨.int xs.length,H,I.tok _,⟨_,by simp only [List.size_toArray];rw [hlen]⟩,q⟩
 | _=>exact (show False from e).elim
end
end L2
namespace L2
open PySem PySem.Spec PyProof.Rows
structure ObjM (h:Heap) (x dx C:Addr) (mA:Str→Option Value):Prop where
 obj:h.get? x=some (PySem.W.instObj C dx)
 ns:h.Ns1 dx mA
 ne:dx≠x
theorem lookIn_ns {h:Heap} {dx:Addr} {mA:Str→Option Value} (n:h.Ns1 dx mA):∃ od,h.get? dx=some od∧∀ name,PySem.W.lookIn name od=some (mA name):=by
 obtain ⟨o,es,ep,ho,hd,hk,_,hm⟩:=n
 refine ⟨o,ho,fun name=>?_⟩
 have e:=hm name
 unfold nsFind findBy at e
 rw [← Array.find?_toList] at e
 unfold PySem.W.lookIn
 rw [hd]
 dsimp only
 split
 ·rename_i y q
  rw [q] at e
  exact congrArg some e
 ·rename_i q
  rw [q] at e
  have a:es.toList.any (·.refKey)=false:=by
   rw [List.any_eq_false]
   intro y hy
   obtain ⟨z,t,hkey⟩:=hk y (Array.mem_toList_iff.mp hy)
   simp [DictEntry.refKey,hkey]
  have a':¬ es.toList.any (·.refKey)=true:=by rw [a];exact Bool.false_ne_true
  rw [if_neg a']
  exact congrArg some e
theorem ObjM.look {h:Heap} {x dx C:Addr} {mA:Str→Option Value} (I:ObjM h x dx C mA):∃ od,PySem.W.InstAt h x (PySem.W.instObj C dx) C (some od)∧∀ name,PySem.W.lookIn name od=some (mA name) :=
 let ⟨od,ho,hl⟩:=lookIn_ns I.ns
 ⟨od,⟨I.obj,rfl,rfl,ho⟩,hl⟩
section
variable {prog:Program} {w:World} {A:Around} {E:Value→Shared→Prop} {s:Shared} {K:PySem.W.Frag} {x dx C f:Addr} {mA:Str→Option Value} {name:Str} {v:Value}
theorem get_map {expr:Bool} {Q:Value→Shared→Prop} (X:K.In s.heap) (I:ObjM s.heap x dx C mA) (hg:PySem.W.plainGet K C name=true) (hh:PySem.W.hasDictIn K C=true) (ha:PySem.W.findIn K (.ref C) name=some none) (hv:mA name=some v) (hv':PySem.W.handedIn v=true) (h:Q v {s with toks:=s.toks+1}) : wpAny (model prog w) A (getAttr (.ref x) name expr) Q E s:=by
 obtain ⟨od,J,hl⟩:=I.look
 exact PySem.W.get_value X J (PySem.W.plainGet_of hg).1 (PySem.W.findObj_own hh ha rfl (by rw [hl,hv])) hv' h
theorem get_meth {pl:Sem Bool} {Q:Value×List Value→Shared→Prop} (X:K.In s.heap) (I:ObjM s.heap x dx C mA) (hg:PySem.W.plainGet K C name=true) (hf:PySem.W.findIn K (.ref C) name=some (some (.ref f))) (ht:PySem.W.isFn K (.ref f)=true) (hv:mA name=none) (h:Q (.ref f,[.ref x]) s) : wpAny (model prog w) A (getMethod (.ref x) name pl) Q E s:=by
 obtain ⟨od,J,hl⟩:=I.look
 exact PySem.W.method_fn X J (PySem.W.plainGet_of hg).1 (PySem.W.plainGet_of hg).2 hf (beq_iff_eq.mp ht) (by show (PySem.W.lookIn name od).map (·.isSome)=some false;rw [hl,hv];rfl) h
theorem set_map {ns:List Str} {Q:Unit→Shared→Prop} (X:K.In s.heap) (I:ObjM s.heap x dx C mA) (hs:PySem.W.findIn K (.ref C) "__setattr__"=some (some (.builtin "object.__setattr__"))) (hp:PySem.W.plainOver K C=true) (ht:PySem.W.takerIn K C name=some none) (hh:PySem.W.hasDictIn K C=true) (hw:PySem.Within mA ns) (hsz:ns.length≤sizeLine) (h:∀ h',ObjM h' x dx C (fun y=>if y=name then some v else mA y)→Heap.SameBut dx s.heap h'→Q () {s with heap:=h',toks:=s.toks+2}) : wpAny (model prog w) A (setAttr (.ref x) name v) Q E s:=by
 obtain ⟨od,J,hl⟩:=I.look
 refine PySem.W.set_plain X J hs (PySem.W.osa_open (s:={s with toks:=s.toks+1}) (r:=none) X J hp ht fun b=>?_)
 obtain ⟨cd,hc,hd'⟩:=PySem.W.any_some hh
 have hx:s.heap.get? x=some ⟨.ref C,some dx,.plain,#[]⟩:=I.obj
 refine wpAny_bind (wpAny_pure (wpAny_bind (wpAny_bind (wpAny_loadPart hx (wpAny_bind (PySem.W.Looks.here (s:={s with toks:=s.toks+1}) (PySem.W.looks_clsIn X hc) ?_))))))
 rw [hd']
 refine wpAny_pure (a:=some dx) (wpAny_bind (wpAny_pure (wpAny_bind ?_)))
 refine wpAny_nsSet1 (s:={s with toks:=s.toks+1}) I.ns fun h' hn2 hs2=>?_
 obtain ⟨oD,esD,epD,hoD,hdD,hcD⟩:=hn2.count (PySem.Within.cons name v hw)
 refine wpAny_bind (wpAny_lookBehind hoD (by rw [hdD];exact pastItsLine_dict (Nat.le_trans hcD (by rw [List.length_cons];omega))) ?_)
 exact wpAny_pure (h _ ⟨(hs2.2 _ (Ne.symm I.ne)).trans I.obj,hn2,I.ne⟩ hs2)
theorem make_map {R:Result→Shared→Prop} {vs:List Value} {kw:List (Str×Value)} (X:K.In s.heap) (hm:PySem.W.makesIn K C=true) (hi:PySem.W.findIn K (.ref C) "__init__"=some (some (.ref f))) (hf:PySem.W.typeIn K (.ref f)=some (.type "function")) (h:codeAny (model prog w) (A.under (.builtin "type.__call__" ⟨.ref C::vs,kw⟩)) (.call (.ref f) ⟨.ref (s.heap.objs.size+1)::vs,kw⟩) (PySem.W.InitBack (s.heap.objs.size+1) R) {s with heap:=(s.heap.push PySem.W.emptyDict).push (PySem.W.instObj C s.heap.objs.size)}) : codeAny (model prog w) A (.call (.ref C) ⟨vs,kw⟩) R s:=by
 obtain ⟨hh,g,d,t,os⟩:=s
 exact PySem.W.make_core (PySem.W.makes_of X hm) (PySem.W.looks_findIn X hi) (fun self=>PySem.W.bind_fn X self hf) (.inl rfl) h
end
noncomputable def putF (f:Str) (v:V):List (Str×V)→List (Str×V)
 | []=>[(f,v)]
 | (g,x)::r=>if g=f then (g,v)::r else (g,x)::putF f v r
theorem lookup_putF (f g:Str) (v:V):∀ fs:List (Str×V),(putF f v fs).lookup g=if g=f then some v else fs.lookup g
 | []=>by
  show List.lookup g [(f,v)]=_
  by_cases h:g=f
  ·have hb:(g == f)=true:=beq_iff_eq.mpr h
   simp only [List.lookup,hb,if_pos h]
  ·have hb:(g == f)=false:=beq_eq_false_iff_ne.mpr h
   simp only [List.lookup,hb,if_neg h]
 | (k,x)::r=>by
  have ih:=lookup_putF f g v r
  rw [show putF f v ((k,x)::r)=(if k=f then (k,v)::r else (k,x)::putF f v r) from rfl]
  by_cases hk:k=f
  ·rw [if_pos hk]
   by_cases h:g=k
   ·have hb:(g == k)=true:=beq_iff_eq.mpr h
    simp only [List.lookup,hb,if_pos (h.trans hk)]
   ·have hb:(g == k)=false:=beq_eq_false_iff_ne.mpr h
    simp only [List.lookup,hb,if_neg (fun e:g=f=>h (e.trans hk.symm))]
  ·rw [if_neg hk]
   by_cases h:g=k
   ·have hb:(g == k)=true:=beq_iff_eq.mpr h
    simp only [List.lookup,hb,if_neg (fun e:g=f=>hk (h.symm.trans e))]
   ·have hb:(g == k)=false:=beq_eq_false_iff_ne.mpr h
    simp only [List.lookup,hb]
    exact ih
theorem keys_putF (f:Str) (v:V):∀ fs:List (Str×V),f∈(putF f v fs).map (·.1)∧∀ g,g∈fs.map (·.1)→g∈(putF f v fs).map (·.1)
 | []=>⟨by simp [putF],fun g h=>by simp at h⟩
 | (k,x)::r=>by
  obtain ⟨i1,i2⟩:=keys_putF f v r
  rw [show putF f v ((k,x)::r)=(if k=f then (k,v)::r else (k,x)::putF f v r) from rfl]
  by_cases hk:k=f
  ·rw [if_pos hk]
   subst hk
   exact ⟨by simp,fun g h=>by simpa using h⟩
  ·rw [if_neg hk]
   refine ⟨?_,fun g h=>?_⟩
   ·rw [List.map_cons]
    exact List.mem_cons_of_mem _ i1
   ·rw [List.map_cons] at h ⊢
    rcases List.mem_cons.mp h with e | e
    ·exact List.mem_cons.mpr (.inl e)
    ·exact List.mem_cons_of_mem _ (i2 g e)
theorem length_putF (f:Str) (v:V):∀ fs:List (Str×V),(putF f v fs).length≤fs.length+1
 | []=>by simp [putF]
 | (k,x)::r=>by
  have ih:=length_putF f v r
  rw [show putF f v ((k,x)::r)=(if k=f then (k,v)::r else (k,x)::putF f v r) from rfl]
  by_cases hk:k=f
  ·rw [if_pos hk,List.length_cons,List.length_cons];omega
  ·rw [if_neg hk,List.length_cons,List.length_cons];omega
theorem RelO.some_of {v:V} {o:Option Value} (r:RelO (some v) o):∃ u,o=some u∧RelV v u:=by
 cases o with
 | none=>exact (show False from r).elim
 | some u=>exact ⟨u,rfl,r⟩
theorem RelO.none_of {o:Option Value} (r:RelO none o):o=none:=by
 cases o with
 | none=>rfl
 | some u=>exact (show False from r).elim
theorem handed_of {v:V} {u:Value} (r:RelV v u):PySem.W.handedIn u=true:=by
 cases v with
 | non=>cases (show u=Value.none from r);rfl
 | bl b=>cases (show u=Value.bool b from r);rfl
 | int i=>obtain ⟨t,e⟩:=(show ∃ t,u=Value.int i t from r);cases e;rfl
 | str x=>obtain ⟨t,e⟩:=(show ∃ t,u=Value.str x t from r);cases e;rfl
 | byt b=>obtain ⟨t,e⟩:=(show ∃ t,u=Value.bytes b t from r);cases e;rfl
 | flt b=>obtain ⟨t,e⟩:=(show ∃ t,u=Value.float b t from r);cases e;rfl
 | ref a=>cases (show u=Value.ref a from r);rfl
 | ty n=>cases (show u=Value.type n from r);rfl
section
variable {P:Program} {w:World} {H H':Hp} {h h':Heap} {a C dx:Addr} {fs fs':List (Str×V)}
theorem ins_get (hok:HOk P w H h) (e:H a=some (.ins C dx fs)):∃ mA,ObjM h a dx C mA∧(∀ f,RelO (fs.lookup f) (mA f))∧PySem.Within mA (fs.map (·.1))∧fs.length≤1000∧H dx=some (.own a):=by
 obtain ⟨d,z,ne,ob,mA,n,r,q⟩:=(show ObjOk P w H h a (.ins C dx fs) from hok a _ e)
 exact ⟨mA,⟨ob,n,ne⟩,r,q,z,d⟩
end
structure Cls (K:PySem.W.Frag) (C:Addr):Prop where
 pg:PySem.W.plainGet K C Str.empty=true
 hd:PySem.W.hasDictIn K C=true
 po:PySem.W.plainOver K C=true
 sa:PySem.W.findIn K (.ref C) "__setattr__"=some (some (.builtin "object.__setattr__"))
theorem Cls.get {K:PySem.W.Frag} {C:Addr} (c:Cls K C) (f:Str):PySem.W.plainGet K C f=true:=c.pg
noncomputable def NoAttr (K:PySem.W.Frag) (C:Addr) (f:Str):Prop:=PySem.W.findIn K (.ref C) f=some none
theorem NoAttr.taker {K:PySem.W.Frag} {C:Addr} {f:Str} (n:NoAttr K C f):PySem.W.takerIn K C f=some none:=by
 unfold PySem.W.takerIn
 rw [show PySem.W.findIn K (.ref C) f=some none from n]
 rfl
structure Meth (K:PySem.W.Frag) (C:Addr) (m:Str) (f:Addr):Prop where
 at_:PySem.W.findIn K (.ref C) m=some (some (.ref f))
 fn:PySem.W.isFn K (.ref f)=true
 kp:PySem.W.keepIn K (.ref f)=true
section
variable {X:Cx} {pins:List (Addr×Obj)} {σ:St} {H:Hp} {s:Shared} {a C dx:Addr} {fs:List (Str×V)} {f:Str} {v:V} {A:Around} {E:Value→Shared→Prop}
theorem getattr_ok {b:Bool} {Q:Value→Shared→Prop} (I:Inv X pins σ H s) (e:H a=some (.ins C dx fs)) (c:Cls X.K C) (n:NoAttr X.K C f) (l:fs.lookup f=some v) (h:∀ u s',Inv X pins σ H s'→RelV v u→Q u s'):wpAny (model X.prog X.w) A (getAttr (.ref a) f b) Q E s:=by
 obtain ⟨mA,O,r,_,_,_⟩:=ins_get I.hok e
 obtain ⟨u,hu,ru⟩:=RelO.some_of (v:=v) (o:=mA f) (by rw [← l];exact r f)
 exact get_map I.kIn O (c.get f) c.hd n hu (handed_of ru) (h u _ (I.tok _) ru)
theorem getmeth_ok {m:Str} {g:Addr} {pl:Sem Bool} {Q:Value×List Value→Shared→Prop} (I:Inv X pins σ H s) (e:H a=some (.ins C dx fs)) (c:Cls X.K C) (k:Meth X.K C m g) (l:fs.lookup m=none) (h:Q (.ref g,[.ref a]) s):wpAny (model X.prog X.w) A (getMethod (.ref a) m pl) Q E s:=by
 obtain ⟨mA,O,r,_,_,_⟩:=ins_get I.hok e
 have hn:mA m=none:=RelO.none_of (by rw [← l];exact r m)
 exact get_meth I.kIn O (c.get m) k.at_ k.fn hn h
theorem setattr_ok {y:V} {u:Value} {Q:Unit→Shared→Prop} (I:Inv X pins σ H s) (e:H a=some (.ins C dx fs)) (c:Cls X.K C) (n:NoAttr X.K C f) (hl:fs.length < 1000) (ry:RelV y u) (h:∀ s',Inv X pins σ (upd H a (.ins C dx (putF f y fs))) s'→Q () s'):wpAny (model X.prog X.w) A (setAttr (.ref a) f u) Q E s:=by
 obtain ⟨mA,O,r,wi,_,ho⟩:=ins_get I.hok e
 have hz:(fs.map (·.1)).length≤sizeLine:=by rw [List.length_map,sizeLine_eq];omega
 refine set_map I.kIn O c.sa c.po n.taker c.hd wi hz fun h' O' sb=>h _ ?_
 have hd:∃ o,h'.get? dx=some o:=let ⟨o,_,_,e',_⟩:=O'.ns;⟨o,e'⟩
 refine I.write (x:=a) (e:=dx) (by rw [e];exact True.intro) (.inr ho) (fun b q hb z=>(sb.2 b hb).trans z) hd ?_
 refine ⟨by rw [upd_ne O.ne];exact ho,?_,O.ne,O'.obj,_,O'.ns,fun g=>?_,fun g hg=>?_⟩
 ·have:=length_putF f y fs;omega
 ·show RelO ((putF f y fs).lookup g) (if g=f then some u else mA g)
  rw [lookup_putF]
  by_cases q:g=f
  ·rw [if_pos q,if_pos q];exact ry
  ·rw [if_neg q,if_neg q];exact r g
 ·by_cases q:g=f
  ·rw [q];exact (keys_putF f y fs).1
  ·refine (keys_putF f y fs).2 g (wi g fun z=>hg ?_)
   show (if g=f then some u else mA g)=none
   rw [if_neg q];exact z
theorem Inv.made (I:Inv X pins σ H s):Inv X pins σ (upd (upd H s.heap.objs.size (.own (s.heap.objs.size+1))) (s.heap.objs.size+1) (.ins C s.heap.objs.size [])) {s with heap:=(s.heap.push PySem.W.emptyDict).push (PySem.W.instObj C s.heap.objs.size)}:=by
 have e1:(s.heap.push PySem.W.emptyDict).get? s.heap.objs.size=some PySem.W.emptyDict:=Heap.get?_push_size s.heap rfl
 have e2:((s.heap.push PySem.W.emptyDict).push (PySem.W.instObj C s.heap.objs.size)).get? (s.heap.objs.size+1)=some (PySem.W.instObj C s.heap.objs.size):=by
  have:=Heap.get?_push_size (s.heap.push PySem.W.emptyDict) (o:=PySem.W.instObj C s.heap.objs.size) rfl
  rwa [Heap.size_push] at this
 have e3:(s.heap.push PySem.W.emptyDict).Ns s.heap.objs.size (fun _=>none):=⟨PySem.W.emptyDict,#[],_,e1,rfl,(fun e he=>absurd he (by simp)),fun _=>rfl⟩
 have I1:=I.laid (a:=s.heap.objs.size) (o:=.own (s.heap.objs.size+1)) (h':=s.heap.push PySem.W.emptyDict) (t':=s.toks) (fun b u q=>Heap.get?_push_of_some _ q) (Nat.le_refl _) ⟨_,e1⟩
 refine I1.laid (a:=s.heap.objs.size+1) (o:=.ins C s.heap.objs.size []) (t':=s.toks) (fun b u q=>Heap.get?_push_of_some _ q) (Nat.le_of_eq (Heap.size_push _ _)) ?_
 have ne:s.heap.objs.size≠s.heap.objs.size+1:=Nat.ne_of_lt (Nat.lt_succ_self _)
 refine ⟨by rw [upd_ne ne,upd_same],Nat.zero_le _,ne,e2,fun _=>none,(Heap.Ns1.of_empty e3).at fun o q=>Heap.get?_push_of_some _ q,fun _=>True.intro,fun y hy=>absurd rfl hy⟩
theorem attr_of {prog:Program} {w:World} {env:Env} {e:Expr} {f:Str} {pos:Pos} {s:Shared} {Q:Value→Shared→Prop} (hb:attributeBase e f env (eval e env)=eval e env) (h:wpAny (model prog w) A (eval e env) (fun o s₁=>wpAny (model prog w) A (getAttr o f true) Q E s₁) E s):wpAny (model prog w) A (eval (.Attribute e f pos) env) Q E s :=
 Attribute_any_ h (by rw [arm_eval_Attribute,hb])
end
noncomputable def InOp (X:Cx) (op:Operator) (rd:V→V→Hp→VK→Prop):Prop :=
 ∀(pins:List (Addr×Obj)) (s:Shared) (σ:St) (H:Hp) (x y:V) (u v:Value) (Q:VK),Inv X pins σ H s→RelV x u→RelV y v→rd x y H Q→wpAny (model X.prog X.w) X.A (inplaceOp op u v) (EP X pins σ Q) X.xe s
section
variable {X:Cx} {o e value:Expr} {f:Str} {pos pos' tpos:Pos} {ta tv:TE}
noncomputable def rAdd:V→V→Hp→VK→Prop:=fun x y H Q=>∃ i j,x=.int i∧y=.int j∧Q (.int (i+j)) H
theorem in_add:InOp X .Add rAdd:=by
 rintro pins s σ H x y u v Q I rx ry ⟨i,j,rfl,rfl,q⟩
 obtain ⟨t,rfl⟩:=(show ∃ t,u=Value.int i t from rx)
 obtain ⟨t',rfl⟩:=(show ∃ t',v=Value.int j t' from ry)
 exact PyProof.Rows.iadd_int ⟨.int (i+j),H,I.tok _,⟨_,rfl⟩,q⟩
end
section
variable {X:Cx} {pins:List (Addr×Obj)} {σ:St} {H:Hp} {s:Shared} {A:Around} {E:Value→Shared→Prop} {Q:Value→Shared→Prop} {c:Value} {b:Bool}
end
end L2
namespace L2
open PySem PySem.Spec PyProof.Rows
structure Room (k:Nat) (A:Around):Prop where
 hd:A.handled=none
 dp:A.depth+3 * k+5 < recursionLimit
 un:A.units+16 * k+200 < cLine
theorem Room.mono {j k:Nat} {A:Around} (r:Room k A) (h:j≤k):Room j A:=⟨r.hd,by have:=r.dp;omega,by have:=r.un;omega⟩
theorem Room.deeper {k:Nat} {A:Around} (r:Room (k+1) A) (env:Env):Room k (A.deeper env) :=
 ⟨r.hd,by have:=r.dp;show A.depth+1+3 * k+5 < _;omega,by have:=r.un;show A.units+3+16 * k+200 < _;omega⟩
theorem Room.in1 {k:Nat} {A:Around} (r:Room (k+1) A):Room k A.in1 :=
 ⟨r.hd,by have:=r.dp;show A.depth+3 * k+5 < _;omega,by have:=r.un;show A.units+1+16 * k+200 < _;omega⟩
theorem make_depth {A:Around} {C:Addr} {us:List Value} {kw:List (Str×Value)}:(A.under (.builtin "type.__call__" ⟨.ref C::us,kw⟩)).depth=A.depth+1:=by
 first | rfl | simp [Around.under,Code.weight,Code.isCreation,Code.isGuard,Code.isCaller,Code.frames,Code.isFrame,guardIds]
theorem make_units {A:Around} {C:Addr} {us:List Value} {kw:List (Str×Value)}:(A.under (.builtin "type.__call__" ⟨.ref C::us,kw⟩)).units=A.units+1:=by
 first | rfl | simp [Around.under,Code.cUnits,Code.frames,Code.isFrame]
theorem Room.make {k:Nat} {A:Around} (r:Room (k+1) A) (C:Addr) (us:List Value) (kw:List (Str×Value)):Room k (A.under (.builtin "type.__call__" ⟨.ref C::us,kw⟩)) :=
 ⟨r.hd,by have:=r.dp;rw [make_depth];omega,by have:=r.un;rw [make_units];omega⟩
theorem Room.depth {k:Nat} {A:Around} (r:Room k A):A.depth < recursionLimit:=by have:=r.dp;omega
theorem Room.units {k:Nat} {A:Around} (r:Room k A):A.units+64 < cLine:=by have:=r.un;omega
noncomputable def tNil:TA:=fun _ H Q=>Q [] H
noncomputable def tCons (ta:TE) (tr:TA):TA:=fun σ H Q=>ta σ H fun x H1=>tr σ H1 fun xs H2=>Q (x::xs) H2
section
variable {X:Cx} {e:Expr} {es:List Expr} {te:TE} {t:TA} {pos:Pos}
theorem pa_nil:PA X [] tNil:=fun _ _ _ _ H Q I h=>Calls.spliced_nil ⟨[],H,I,.nil,h⟩
theorem pa_cons (ha:PE X e te) (hr:PA X es t) (hs:starEach (e::es) X.env=(false,eval e X.env)::starEach es X.env:=by rfl):PA X (e::es) (tCons te t):=by
 intro pos pins s σ H Q I h
 rw [hs]
 show wpAny _ _ (spliced ((false,eval e X.env)::backTo pos (starEach es X.env))) _ _ s
 refine Calls.spliced_cons (thn (ha pins s σ H _ I h) fun u s1 ⟨x,H1,I1,r1,q1⟩=>?_)
 exact thn (hr pos pins s1 σ H1 _ I1 q1) fun us s2 ⟨xs,H2,I2,r2,q2⟩=>⟨x::xs,H2,I2,.cons r1 r2,q2⟩
noncomputable def tTup (t:TA):TE:=fun σ H Q=>t σ H fun xs H1=>xs.length≤sizeLine∧∀ p,H1 p=none→Q (.ref p) (upd H1 p (.tup xs))
noncomputable def tLst (t:TA):TE:=fun σ H Q=>t σ H fun xs H1=>xs.length≤sizeLine∧∀ p,H1 p=none→Q (.ref p) (upd H1 p (.lst xs))
theorem pe_tup {x1} (h:PA X es t):PE X (.Tuple es x1 pos) (tTup t):=by
 intro pins s σ H Q I hq
 refine wpAny_Tuple_spliced (thn (h pos pins s σ H _ I hq) fun us s1 ⟨xs,H1,I1,r,z,q⟩=>⟨by rw [← r.length];exact z,?_⟩)
 have hf:H1 s1.heap.objs.size=none:=I1.hok.fresh (Nat.le_refl _)
 refine ⟨.ref s1.heap.objs.size,upd H1 s1.heap.objs.size (.tup xs),I1.laid (t':=s1.toks) (fun b u e=>Heap.get?_push_of_some _ e) (Nat.le_refl _) ?_,rfl,q _ hf⟩
 exact ⟨z,us,r,⟨_,Heap.get?_push_size _ rfl,rfl,_,rfl⟩⟩
theorem pe_lst (h:PA X es t):PE X (.List es pos) (tLst t):=by
 intro pins s σ H Q I hq
 refine wpAny_List_spliced (thn (h pos pins s σ H _ I hq) fun us s1 ⟨xs,H1,I1,r,z,q⟩=>⟨by rw [← r.length];exact z,?_⟩)
 have hf:H1 s1.heap.objs.size=none:=I1.hok.fresh (Nat.le_refl _)
 refine ⟨.ref s1.heap.objs.size,upd H1 s1.heap.objs.size (.lst xs),I1.laid (t':=s1.toks) (fun b u e=>Heap.get?_push_of_some _ e) (Nat.le_refl _) ?_,rfl,q _ hf⟩
 exact ⟨z,us,0,r,Heap.get?_push_size _ rfl⟩
end
noncomputable abbrev Sp:=List V→Hp→VK→XK→Prop
noncomputable abbrev CXT:=List Env→Hp→Shared→XK→Value→Shared→Prop
structure Env0 (P:Program) (w:World) (K:PySem.W.Frag) (mg:Str→Option Value) (base:Heap) (A:Around) (outer:List Env) (s:Shared) (H:Hp):Prop where
 frames:A.frames=some outer
 mod:Mod K mg base
 bs:∀ b o,base.get? b=some o→s.heap.get? b=some o∧H b=none
 bsz:base.objs.size≤s.heap.objs.size
 funs:s.heap.FunFrames base outer
 frf:∀ b∈frs outer,H b=none
 hok:HOk P w H s.heap
 bare:AllBare s.gens
noncomputable def CE (outer:List Env) (P:Program) (w:World) (H:Hp) (s:Shared) (Q:VK) (u:Value) (s':Shared):Prop :=
 ∃ v H',s'.os=s.os∧AllBare s'.gens∧Un (frs outer) [] H H' s.heap s'.heap∧HOk P w H' s'.heap∧RelV v u∧Q v H'
noncomputable def CR (CX:CXT) (outer:List Env) (P:Program) (w:World) (H:Hp) (s:Shared) (Q:VK) (E:XK) (r:Result) (s':Shared):Prop :=
 match r with
 | .ok (.ret u)=>CE outer P w H s Q u s'
 | .ok _=>False
 | .error e=>CX outer H s E e s'
structure FnOk (P:Program) (w:World) (K:PySem.W.Frag) (mg:Str→Option Value) (base:Heap) (CX:CXT) (k:Nat) (f:Addr) (fd:FuncData) (ps:List Str) (sp:Sp):Prop where
 len:∀ vs H Q E,sp vs H Q E→vs.length=ps.length
 run:∀(A:Around) (outer:List Env) (s:Shared) (H:Hp) (args:Args) (us:List Value) (vs:List V) (Q:VK) (E:XK),Room k A→Env0 P w K mg base A outer s H→BindsTo s fd args (ps.zip us)→Vals vs us→sp vs H Q E →
  codeAny (model P w) A (.call (.ref f) args) (CR CX outer P w H s Q E) s
theorem FnOk.mono {P:Program} {w:World} {K:PySem.W.Frag} {mg:Str→Option Value} {base:Heap} {CX:CXT} {j k:Nat} {f:Addr} {fd:FuncData} {ps:List Str} {sp:Sp} (F:FnOk P w K mg base CX j f fd ps sp) (h:j≤k) : FnOk P w K mg base CX k f fd ps sp:=⟨F.len,fun A outer s H args us vs Q E hr=>F.run A outer s H args us vs Q E (hr.mono h)⟩
theorem FnOk.imp {P:Program} {w:World} {K:PySem.W.Frag} {mg:Str→Option Value} {base:Heap} {CX:CXT} {k:Nat} {f:Addr} {fd:FuncData} {ps:List Str} {sp sp':Sp} (F:FnOk P w K mg base CX k f fd ps sp) (h:∀ vs H Q E,sp' vs H Q E→sp vs H Q E):FnOk P w K mg base CX k f fd ps sp' :=
 ⟨fun vs H Q E q=>F.len vs H Q E (h _ _ _ _ q),fun A outer s H args us vs Q E hr he hb hv hs=>F.run A outer s H args us vs Q E hr he hb hv (h _ _ _ _ hs)⟩
theorem Env0.make {P:Program} {w:World} {K:PySem.W.Frag} {mg:Str→Option Value} {base:Heap} {A:Around} {outer:List Env} {s:Shared} {H:Hp} (e:Env0 P w K mg base A outer s H) (C:Addr) (us:List Value) (kw:List (Str×Value)) : Env0 P w K mg base (A.under (.builtin "type.__call__" ⟨.ref C::us,kw⟩)) outer s H:=⟨by first | exact e.frames | (simpa [Around.under,Code.envs,Code.isFrame,pushEnvs] using e.frames),e.mod,e.bs,e.bsz,e.funs,e.frf,e.hok,e.bare⟩
theorem Env0.in1 {P:Program} {w:World} {K:PySem.W.Frag} {mg:Str→Option Value} {base:Heap} {A:Around} {outer:List Env} {s:Shared} {H:Hp} (e:Env0 P w K mg base A outer s H) : Env0 P w K mg base A.in1 outer s H:=⟨e.frames,e.mod,e.bs,e.bsz,e.funs,e.frf,e.hok,e.bare⟩
section
variable {X:Cx} {pins:List (Addr×Obj)} {σ:St} {H:Hp} {s s':Shared}
theorem Inv.env0 (I:Inv X pins σ H s):Env0 X.prog X.w X.K X.mg X.base X.A X.stack s H :=
 ⟨I.ok.frames,I.ok.mod,I.bs,Nat.le_trans I.ok.bsz I.sz,I.stack,I.stkFree,I.hok,I.bare⟩
theorem Inv.after {Q:VK} {u:Value} (I:Inv X pins σ H s) (h:CE X.stack X.prog X.w H s Q u s'):EP X pins σ Q u s':=by
 obtain ⟨v,H',os,bare,un,hok,r,q⟩:=h
 obtain ⟨hh,g,d,t,os'⟩:=s'
 obtain rfl:os'=s.os:=os
 exact ⟨v,H',I.call (h':=hh) (g':=g) (d':=d) (t':=t) (ch:=[]) un hok bare (fun b z=>absurd z (by simp)),r,q⟩
end
noncomputable def tCall (sp:Sp) (dvs:List V) (E:XK) (t:TA):TE:=fun σ H Q=>t σ H fun vs H1=>sp (vs++dvs) H1 Q E
noncomputable def tMeth (C:Addr) (m:Str) (sp:Sp) (dvs:List V) (E:XK) (ta:TE) (t:TA):TE:=fun σ H Q=>ta σ H fun x H1=>∃ a dx fs,x=.ref a∧H1 a=some (.ins C dx fs)∧fs.lookup m=none ∧
 t σ H1 fun vs H2=>sp (x::(vs++dvs)) H2 Q E
noncomputable def tMake (C:Addr) (sp:Sp) (dvs:List V) (E:XK) (t:TA):TE:=fun σ H Q=>t σ H fun vs H1=>∀ x dx,H1 x=none→H1 dx=none→dx≠x →
 sp (.ref x::(vs++dvs)) (upd (upd H1 dx (.own x)) x (.ins C dx [])) (fun v H2=>v=.non∧Q (.ref x) H2) E
noncomputable def Binds (K:PySem.W.Frag) (fd:FuncData) (ps:List Str) (ds:List Value):Prop :=
 ∀(s:Shared) (us:List Value),K.In s.heap→(us++ds).length=ps.length→BindsTo s fd ⟨us,[]⟩ (ps.zip (us++ds))
theorem Binds.all {K:PySem.W.Frag} {fd:FuncData} {ps:List Str} (h:∀ us:List Value,us.length=ps.length→bindArgs fd ⟨us,[]⟩=pure (ps.zip us)):Binds K fd ps []:=fun s us _ hl=>by
 rw [List.append_nil] at hl ⊢
 exact .of_eq (h us hl)
noncomputable def Passes (CX:CXT) (X:Cx) (E:XK):Prop:=∀(pins:List (Addr×Obj)) (σ:St) (H:Hp) (s:Shared) (e:Value) (s':Shared),Inv X pins σ H s→CX X.stack H s E e s'→X.xe e s'
section
variable {X:Cx} {CX:CXT} {k:Nat} {f C:Addr} {fd:FuncData} {ps:List Str} {sp:Sp} {dvs:List V} {ds:List Value} {E:XK} {x m:Str} {p pos apos:Pos} {e o:Expr} {es:List Expr} {ta:TE} {t:TA}
theorem run_fn {pins:List (Addr×Obj)} {σ:St} {H:Hp} {s:Shared} {Q:VK} {us:List Value} {vs:List V} (F:FnOk X.prog X.w X.K X.mg X.base CX k f fd ps sp) (hr:Room k X.A) (hb:Binds X.K fd ps ds) (hd:Vals dvs ds) (hx:Passes CX X E) (I:Inv X pins σ H s) (r:Vals vs us) (h:sp (vs++dvs) H Q E):wpAny (model X.prog X.w) X.A (call (.ref f) us) (EP X pins σ Q) X.xe s:=by
 have r2:Vals (vs++dvs) (us++ds):=r.append hd
 have hl:(us++ds).length=ps.length:=by rw [← r2.length];exact F.len _ _ _ _ h
 refine wpAny_call (codeAny_mono (F.run X.A X.stack s H ⟨us,[]⟩ (us++ds) (vs++dvs) Q E hr I.env0 (hb s us I.kIn hl) r2 h) fun r s' hq=>?_)
 cases r with
 | error e=>exact hx pins σ H s e s' I hq
 | ok fl =>
  cases fl with
  | ret u=>exact I.after hq
  | next=>exact False.elim hq
  | brk=>exact False.elim hq
  | cont=>exact False.elim hq
theorem pe_call (F:FnOk X.prog X.w X.K X.mg X.base CX k f fd ps sp) (hr:Room k X.A) (hg:Gl X x) (hm:X.mg x=some (.ref f)) (hk:PySem.W.keepIn X.K (.ref f)=true) (hb:Binds X.K fd ps ds) (hd:Vals dvs ds) (hx:Passes CX X E) (ha:PA X (e::es) t) (hdb:(x == ("__debug__":Str))=false:=by decide) (he:starEach (e::es) X.env=(false,eval e X.env)::starEach es X.env:=by rfl) (hpl:(backTo pos (starEach es X.env)).any (·.1)=false:=by rfl) : PE X (.Call (.Name x p) (e::es) [] pos) (tCall sp dvs E t):=by
 intro pins s σ H Q I h
 refine wpAny_Call_Name_kw (ld_glob I hg hm ?_ hdb)
 refine PySem.W.callWith_K (h₀:=X.base) I.ok.mod.kin hk (thn (ha pos pins s σ H _ I h) fun us s1 ⟨vs,H1,I1,r,q⟩=>⟨I1.kIn,?_⟩) he hpl
 exact run_fn F hr hb hd hx I1 r q
theorem pe_meth {pl:Sem Bool} (he:PE X o ta) (c:Cls X.K C) (hm:Meth X.K C m f) (F:FnOk X.prog X.w X.K X.mg X.base CX k f fd ps sp) (hr:Room k X.A) (hb:Binds X.K fd ps ds) (hd:Vals dvs ds) (hx:Passes CX X E) (ha:PA X (e::es) t)
    (hst:starEach (e::es) X.env=(false,eval e X.env)::starEach es X.env:=by rfl) (hpl:(backTo pos (starEach es X.env)).any (·.1)=false:=by rfl)
    (ht:eval (.Call (.Attribute o m apos) (e::es) [] pos) X.env=(do
      let ov ← eval o X.env
      standAt apos.atName
      let (f,first) ← holding [ov] (getMethod ov m pl)
      callWith pos f first (backTo pos (starEach (e::es) X.env)) (backToKw pos (keywordEach [] X.env))):=by rfl) :
    PE X (.Call (.Attribute o m apos) (e::es) [] pos) (tMeth C m sp dvs E ta t):=by
  intro pins s σ H Q I h
  refine PySem.W.methodCall_KW (pl:=pl) (thn (he pins s σ H _ I h) fun u s1 ⟨x,H1,I1,rx,a,dx,fs,ex,ea,l,q⟩=>?_) ht
  subst ex
  obtain rfl:u=Value.ref a:=rx
  refine getmeth_ok I1 ea c hm l ?_
  refine PySem.W.callWith_K (first:=[.ref a]) (h₀:=X.base) I.ok.mod.kin hm.kp (thn (ha pos pins s1 σ H1 _ I1 q) fun us s2 ⟨vs,H2,I2,r,q2⟩=>⟨I2.kIn,?_⟩) hst hpl
  exact run_fn (us:=.ref a::us) (vs:=.ref a::vs) F hr hb hd hx I2 (.cons rfl r) q2
theorem pe_meth0 {pl:Sem Bool} (he:PE X o ta) (c:Cls X.K C) (hm:Meth X.K C m f) (F:FnOk X.prog X.w X.K X.mg X.base CX k f fd ps sp) (hr:Room k X.A) (hb:Binds X.K fd ps ds) (hd:Vals dvs ds) (hx:Passes CX X E)
    (ht:eval (.Call (.Attribute o m apos) [] [] pos) X.env=(do
      let ov ← eval o X.env
      standAt apos.atName
      let (f,first) ← holding [ov] (getMethod ov m pl)
      callWith pos f first (backTo pos (starEach [] X.env)) (backToKw pos (keywordEach [] X.env))):=by rfl) :
    PE X (.Call (.Attribute o m apos) [] [] pos) (tMeth C m sp dvs E ta tNil):=by
  intro pins s σ H Q I h
  refine PySem.W.methodCall_KW (pl:=pl) (thn (he pins s σ H _ I h) fun u s1 ⟨x,H1,I1,rx,a,dx,fs,ex,ea,l,q⟩=>?_) ht
  subst ex
  obtain rfl:u=Value.ref a:=rx
  refine getmeth_ok I1 ea c hm l ?_
  exact PySem.W.callWith_K0 (first:=[.ref a]) I1.kIn hm.kp (run_fn (us:=[.ref a]) (vs:=[.ref a]) F hr hb hd hx I1 (.cons rfl .nil) q)
structure Mk (K:PySem.W.Frag) (C f:Addr):Prop where
 makes:PySem.W.makesIn K C=true
 init:PySem.W.findIn K (.ref C) "__init__"=some (some (.ref f))
 fn:PySem.W.isFn K (.ref f)=true
 kp:PySem.W.keepIn K (.ref C)=true
theorem run_make {pins:List (Addr×Obj)} {σ:St} {H:Hp} {s:Shared} {Q:VK} {us:List Value} {vs:List V} (M:Mk X.K C f) (F:FnOk X.prog X.w X.K X.mg X.base CX k f fd ps sp) (hr:Room (k+1) X.A) (hb:Binds X.K fd ps ds) (hd:Vals dvs ds) (hx:Passes CX X E) (I:Inv X pins σ H s) (r:Vals vs us) (h:∀ x dx,H x=none→H dx=none→dx≠x→sp (.ref x::(vs++dvs)) (upd (upd H dx (.own x)) x (.ins C dx [])) (fun v H2=>v=.non∧Q (.ref x) H2) E) : wpAny (model X.prog X.w) X.A (call (.ref C) us) (EP X pins σ Q) X.xe s:=by
 have hq:=h (s.heap.objs.size+1) s.heap.objs.size (I.hok.fresh (Nat.le_succ _)) (I.hok.fresh (Nat.le_refl _)) (Nat.ne_of_lt (Nat.lt_succ_self _))
 have I2:=Inv.made (C:=C) I
 have r2:Vals (V.ref (s.heap.objs.size+1)::(vs++dvs)) (Value.ref (s.heap.objs.size+1)::(us++ds)):=.cons rfl (r.append hd)
 have hl:(Value.ref (s.heap.objs.size+1)::us++ds).length=ps.length:=by
  have e:=r2.length
  rw [F.len _ _ _ _ hq] at e
  exact e.symm
 refine wpAny_call (make_map (f:=f) I.kIn M.makes M.init (beq_iff_eq.mp M.fn) (codeAny_mono (F.run _ X.stack _ _ ⟨Value.ref (s.heap.objs.size+1)::us,[]⟩ (Value.ref (s.heap.objs.size+1)::(us++ds)) _ _ E (hr.make C us [])
  (I2.env0.make C us []) (hb _ (Value.ref (s.heap.objs.size+1)::us) I2.kIn hl) r2 hq) fun r s' hq'=>?_))
 cases r with
 | error e=>exact hx pins σ _ _ e s' I2 hq'
 | ok fl =>
  cases fl with
  | ret u =>
   obtain ⟨v,H',I3,rv,ev,q3⟩:=I2.after hq'
   subst ev
   exact ⟨rv,⟨V.ref (s.heap.objs.size+1),H',I3,rfl,q3⟩⟩
  | next=>exact False.elim hq'
  | brk=>exact False.elim hq'
  | cont=>exact False.elim hq'
theorem pe_make (M:Mk X.K C f) (F:FnOk X.prog X.w X.K X.mg X.base CX k f fd ps sp) (hr:Room (k+1) X.A) (hg:Gl X x) (hm:X.mg x=some (.ref C)) (hb:Binds X.K fd ps ds) (hd:Vals dvs ds) (hx:Passes CX X E) (ha:PA X (e::es) t) (hdb:(x == ("__debug__":Str))=false:=by decide) (he:starEach (e::es) X.env=(false,eval e X.env)::starEach es X.env:=by rfl) (hpl:(backTo pos (starEach es X.env)).any (·.1)=false:=by rfl) : PE X (.Call (.Name x p) (e::es) [] pos) (tMake C sp dvs E t):=by
 intro pins s σ H Q I h
 refine wpAny_Call_Name_kw (ld_glob I hg hm ?_ hdb)
 refine PySem.W.callWith_K (h₀:=X.base) I.ok.mod.kin M.kp (thn (ha pos pins s σ H _ I h) fun us s1 ⟨vs,H1,I1,r,q⟩=>⟨I1.kIn,?_⟩) he hpl
 exact run_make M F hr hb hd hx I1 r q
theorem pe_make0 (M:Mk X.K C f) (F:FnOk X.prog X.w X.K X.mg X.base CX k f fd ps sp) (hr:Room (k+1) X.A) (hg:Gl X x) (hm:X.mg x=some (.ref C)) (hb:Binds X.K fd ps ds) (hd:Vals dvs ds) (hx:Passes CX X E) (hdb:(x == ("__debug__":Str))=false:=by decide):PE X (.Call (.Name x p) [] [] pos) (tMake C sp dvs E tNil):=by
 intro pins s σ H Q I h
 refine wpAny_Call_Name_kw (ld_glob I hg hm ?_ hdb)
 exact PySem.W.callWith_K0 I.kIn M.kp (run_make (us:=[]) M F hr hb hd hx I .nil h)
end
section
variable {X:Cx} {CX:CXT} {k:Nat} {f C:Addr} {fd:FuncData} {ps ks:List Str} {sp:Sp} {E:XK} {x m:Str} {p pos apos kpos:Pos} {e o:Expr} {es:List Expr} {kws:List Keyword} {te ta:TE} {t tk:TA} {nm:Option Str}
variable {g:List Value→List Value→List Value} {gV:List V→List V→List V}
end
structure FnScope (N P:List Str) (sc:Scope):Prop where
 kind:sc.kind=.function
 co:sc.isCoroutine=false
 gen:sc.isGenerator=false
 nd:N.Nodup
 pre:N.take P.length=P
 par:∀ x∈P,sc.names.lookup x=some .local∨sc.names.lookup x=some .cell
 nofree:∀ y∈sc.names,y.2≠.free
theorem bindL_out {kindOf:Str→Option NameKind} {x:Str}:∀ {binds:List (Str×Value)} {m:Str→Option Value},(∀ v,(x,v)∉binds)→bindL kindOf binds m x=m x
 | [],_,_=>rfl
 | (n,v)::r,m,h=>by
  unfold bindL
  rw [bindL_out fun w hw=>h w (List.mem_cons_of_mem _ hw)]
  split
  ·have:x≠n:=by rintro rfl;exact h v List.mem_cons_self
   simp [this]
  ·rfl
theorem bindC_out {kindOf:Str→Option NameKind} {x:Str}:∀ {binds:List (Str×Value)} {m:Str→Option Value},(∀ v,(x,v)∉binds)→bindC kindOf binds m x=m x
 | [],_,_=>rfl
 | (n,v)::r,m,h=>by
  unfold bindC
  rw [bindC_out fun w hw=>h w (List.mem_cons_of_mem _ hw)]
  split
  ·rfl
  ·have:x≠n:=by rintro rfl;exact h v List.mem_cons_self
   simp [this]
theorem bindL_get {kindOf:Str→Option NameKind} {x:Str} {v:Value}:∀ {P:List Str} {vs:List Value} {i:Nat} {m:Str→Option Value},P.Nodup→P[i]?=some x→vs[i]?=some v→kindOf x=some .local → bindL kindOf (P.zip vs) m x=some v
 | [],_,_,_,_,h,_,_=>by simp at h
 | _::_,[],_,_,_,_,h,_=>by simp at h
 | p::P,w::vs,0,m,nd,h1,h2,hk=>by
  simp at h1 h2;subst h1;subst h2
  show bindL kindOf ((p,w)::P.zip vs) m p=_
  unfold bindL
  rw [bindL_out fun v hv=>(List.nodup_cons.mp nd).1 (List.of_mem_zip hv).1,if_pos hk]
  simp
 | p::P,w::vs,i+1,m,nd,h1,h2,hk=>by
  show bindL kindOf ((p,w)::P.zip vs) m x=_
  unfold bindL
  exact bindL_get (i:=i) (List.nodup_cons.mp nd).2 (by simpa using h1) (by simpa using h2) hk
theorem bindC_get {kindOf:Str→Option NameKind} {x:Str} {v:Value}:∀ {P:List Str} {vs:List Value} {i:Nat} {m:Str→Option Value},P.Nodup→P[i]?=some x→vs[i]?=some v→kindOf x≠some .local → bindC kindOf (P.zip vs) m x=some v
 | [],_,_,_,_,h,_,_=>by simp at h
 | _::_,[],_,_,_,_,h,_=>by simp at h
 | p::P,w::vs,0,m,nd,h1,h2,hk=>by
  simp at h1 h2;subst h1;subst h2
  show bindC kindOf ((p,w)::P.zip vs) m p=_
  unfold bindC
  rw [bindC_out fun v hv=>(List.nodup_cons.mp nd).1 (List.of_mem_zip hv).1,if_neg hk]
  simp
 | p::P,w::vs,i+1,m,nd,h1,h2,hk=>by
  show bindC kindOf ((p,w)::P.zip vs) m x=_
  unfold bindC
  exact bindC_get (i:=i) (List.nodup_cons.mp nd).2 (by simpa using h1) (by simpa using h2) hk
noncomputable def start (N:List Str) (vs:List V):St:=vs.map some++List.replicate (N.length - vs.length) none
noncomputable def cxOf (CX:CXT) (P:Program) (w:World) (K:PySem.W.Frag) (mg:Str→Option Value) (base:Heap) (N:List Str) (qual:Str) (scope:Scope) (f:Addr) (cd:Value) (A:Around) (outer:List Env) (s:Shared) (H:Hp) (E:XK):Cx where
 prog:=P
 w:=w
 K:=K
 mg:=mg
 base:=base
 A:=A.deeper (envOfC qual scope s.heap.objs.size f cd)
 N:=N
 s₀:=s
 H₀:=H
 env:=envOfC qual scope s.heap.objs.size f cd
 outer:=outer
 stack:=envOfC qual scope s.heap.objs.size f cd::outer
 ex:=[]
 calm:=true
 fn:=fun _=>true
 pn:=[]
 xe:=fun e s'=>wpAny (model P w) (A.deeper (envOfC qual scope s.heap.objs.size f cd)) (leaving (envOfC qual scope s.heap.objs.size f cd) e) (fun _ s''=>CX outer H s E e s'') (fun e' s''=>CX outer H s E e' s'') s'
theorem cell_has {sc:Scope} {n:Nat} {x:Str} (h:sc.names.lookup x=some .cell):∃ c,(cellsFrom n sc.names []).lookup x=some c:=by
 have q:=PySem.W.cellsFrom_some sc.names n [] (.inl h)
 exact Option.isSome_iff_exists.mp q
theorem inv_start {CX:CXT} {P:Program} {w:World} {K:PySem.W.Frag} {mg:Str→Option Value} {base:Heap} {N ps:List Str} {qual:Str} {scope:Scope} {f:Addr} {cd:Value} {A:Around} {outer:List Env} {s s1:Shared} {H:Hp} {E:XK} {us:List Value} {vs:List V} (S:FnScope N ps scope) (hd:A.handled=none) (e0:Env0 P w K mg base A outer s H) (hl:vs.length=ps.length) (r:Vals vs us) (x:InCallC s s.heap.objs.size (bindL (envOfC qual scope s.heap.objs.size f cd).kindOf (ps.zip us) fun _=>none) (cellsFrom (s.heap.objs.size+1) scope.names []) (bindC (envOfC qual scope s.heap.objs.size f cd).kindOf (ps.zip us) fun _=>none) s1) : Inv (cxOf CX P w K mg base N qual scope f cd A outer s H E) [] (start N vs) H s1:=by
 have hpl:ps.length≤N.length:=by have:=congrArg List.length S.pre;rw [List.length_take] at this;omega
 obtain ⟨h1,tk,rfl,hk⟩:=x.done
 have noA:∀ b:Addr,b∉(cxOf CX P w K mg base N qual scope f cd A outer s H E).ex:=fun b z=>absurd (show b∈([]:List Addr) from z) (by simp)
 refine ⟨⟨e0.mod,S.kind,rfl,rfl,Nat.le_refl _,fun y z c h1 h2=>?_,fun y hy=>?_,fun y c _ h=>?_,fun _=>hd,Around.frames_deeper e0.frames,.inr ⟨rfl,rfl⟩,fun b z=>absurd z (noA b),e0.bs,e0.bsz,fun b _ _=>noA b,fun b z=>absurd z (noA b),e0.funs,e0.frf⟩,
  rfl,e0.bare,Un.kept hk,⟨_,x.toInCall.ns,fun i y v h1 h2 h3=>?_⟩,fun y c h=>⟨_,x.cell y c h⟩,e0.hok.fresh (Nat.le_refl _),fun y c h=>?_,fun p hp=>absurd (show p∈([]:List (Addr×Obj)) from hp) (by simp),e0.hok.kept hk,?_⟩
 ·exact name_of_addr x.apart (PySem.mem_of_lookup h1) (PySem.mem_of_lookup h2)
 ·have hy:scope.names.lookup y=some .cell∨scope.names.lookup y=some .free:=hy
  rcases hy with hy | hy
  ·exact cell_has hy
  ·exact absurd rfl (S.nofree _ (PySem.mem_of_lookup hy))
 ·exact Nat.le_of_lt (x.above y c (PySem.mem_of_lookup h))
 ·have hi:i < vs.length:=by
   unfold start at h2
   by_cases hi:i < vs.length
   ·exact hi
   ·rw [List.getElem?_append_right (by simpa using hi)] at h2
    rw [List.getElem?_replicate] at h2
    split at h2<;>cases h2
  have ha:vs[i]?=some v:=by
   unfold start at h2
   rw [List.getElem?_append_left (by simpa using hi),List.getElem?_map] at h2
   cases e:vs[i]? with
   | none=>rw [e] at h2;cases h2
   | some a=>rw [e] at h2;cases h2;rfl
  obtain ⟨u,hu,rv⟩:=r.get ha
  have hp:ps[i]?=some y:=by
   rw [← S.pre,List.getElem?_take_of_lt (by omega)];exact h1
  have ndP:ps.Nodup:=by rw [← S.pre];exact S.nd.sublist (List.take_sublist _ _)
  refine ⟨u,rv,?_⟩
  rcases S.par y (List.mem_of_getElem? hp) with k | k
  ·exact .inl ⟨k,bindL_get ndP hp hu k⟩
  ·obtain ⟨c,e⟩:=cell_has (n:=s.heap.objs.size+1) k
   refine .inr ⟨.inl k,c,e,?_⟩
   have q:=x.cell y c e
   rw [bindC_get ndP hp hu (by show scope.names.lookup y≠_;rw [k];decide)] at q
   exact q
 ·exact e0.hok.fresh (Nat.le_of_lt (x.above y c (PySem.mem_of_lookup h)))
 ·unfold start
  show _=N.length
  rw [List.length_append,List.length_map,List.length_replicate]
  omega
theorem fn_of {CX:CXT} {P:Program} {w:World} {K:PySem.W.Frag} {mg:Str→Option Value} {base:Heap} {k:Nat} {f:Addr} {name qual:Str} {params:Arguments} {body:List Stmt} {scope:Scope} {dV kV doc pm cdv ct oc:Value} {an od:Option Addr} {osl:Array (Option Value)} {N ps:List Str} {sp:Sp} (lk:K.lookup f=some ⟨oc,od,.func (PySem.W.fnOf name qual params body scope dV kV doc pm an cdv ct),osl⟩) (hcd:PySem.W.codeIn K cdv qual=true) (S:FnScope N ps scope) (len:∀ vs H Q E,sp vs H Q E→vs.length=ps.length) (hbody:∀(A:Around) (outer:List Env) (s:Shared) (H:Hp) (vs:List V) (Q:VK) (E:XK),Room k (A.deeper (envOfC qual scope s.heap.objs.size f cdv))→sp vs H Q E → ∃ t,PSs (cxOf CX P w K mg base N qual scope f cdv A outer s H E) body t∧t {nx:=fun _ H'=>Q .non H',rt:=Q} (start N vs) H) : FnOk P w K mg base CX (k+1) f (PySem.W.fnOf name qual params body scope dV kV doc pm an cdv ct) ps sp:=by
 refine ⟨len,fun A outer s H args us vs Q E hr e0 hb r hsp=>?_⟩
 have hl:=len _ _ _ _ hsp
 have KX:K.In s.heap:=e0.mod.kin.keeps fun b o e=>(e0.bs b o e).1
 have lim:s.heap.NoLimit:=e0.mod.nolimit.keeps fun b o e=>(e0.bs b o e).1
 have hkind:∀ y∈ps.zip us,scope.names.lookup y.1=some .local∨(scope.names.lookup y.1=some .cell∧((cellsFrom (s.heap.objs.size+1) scope.names []).lookup y.1).isSome=true):=fun ⟨n,v⟩ hy=>by
  rcases S.par n (List.of_mem_zip hy).1 with q | q
  ·exact .inl q
  ·exact .inr ⟨q,PySem.W.cellsFrom_some _ _ _ (.inl q)⟩
 refine codeAny_call_function hr.depth (KX _ _ lk) rfl S.co S.gen rfl (PySem.W.codeRec_of KX hcd) (hb _ _ _ _ ?_)
 refine wpAny_newFunctionEnv_cells S.kind hkind fun env he s1 x=>?_
 subst he
 refine ⟨lim.keeps x.toInCall.keep,codeAny_func ?_⟩
 obtain ⟨t,ht,hq⟩:=hbody A outer s H vs Q E (hr.deeper _) hsp
 have I:Inv (cxOf CX P w K mg base N qual scope f cdv A outer s H E) [] (start N vs) H s1:=inv_start S hr.hd e0 hl r x
 refine wpAny_mono (ht [] s1 (start N vs) H _ I hq) (fun fl s' hs=>?_) fun e s' hs=>hs
 have fin:∀ {σ':St} {H':Hp} {v:V} {u:Value},Inv (cxOf CX P w K mg base N qual scope f cdv A outer s H E) [] σ' H' s'→RelV v u→Q v H'→CE outer P w H s Q u s' :=
  fun {σ' H' v u} J rv q=>⟨v,H',J.os,J.bare,J.base,J.hok,rv,q⟩
 cases fl with
 | ret u =>
  obtain ⟨v,σ',H',J,rv,q⟩:=hs
  exact fin J rv q
 | next =>
  obtain ⟨σ',H',J,q⟩:=hs
  exact fin (v:=V.non) (u:=Value.none) J rfl q
 | brk =>
  obtain ⟨_,_,_,q⟩:=hs
  exact False.elim q
 | cont =>
  obtain ⟨_,_,_,q⟩:=hs
  exact False.elim q
end L2
namespace L2
open PySem PySem.Spec PyProof.Rows
section
variable {X:Cx} {x:Str} {p pos:Pos} {e:Expr} {es:List Expr} {t:TA} {id T:String} {r:List V→Hp→VK→Prop}
noncomputable def tCB (r:List V→Hp→VK→Prop) (t:TA):TE:=fun σ H Q=>t σ H fun vs H1=>r vs H1 Q
theorem pe_callB (hc:CallR X (.builtin id) r) (hg:Gl X x) (hm:X.mg x=none) (hv:bootBuiltins x=some (.builtin id)) (ha:PA X (e::es) t) (hn:x≠"__name__":=by decide) (hdb:(x == ("__debug__":Str))=false:=by decide) (he:starEach (e::es) X.env=(false,eval e X.env)::starEach es X.env:=by rfl) (hpl:(backTo pos (starEach es X.env)).any (·.1)=false:=by rfl):PE X (.Call (.Name x p) (e::es) [] pos) (tCB r t):=by
 intro pins s σ H Q I h
 refine wpAny_Call_Name_kw (ld_blt I hg hm hv ?_ hn hdb)
 exact PyProof.Rows.callWith_builtin1 (thn (ha pos pins s σ H _ I h) fun us s1 ⟨vs,H1,I1,r1,q1⟩=>hc pins s1 σ H1 vs us Q I1 r1 q1) he hpl
theorem pe_callTy (hc:CallR X (.type T) r) (hg:Gl X x) (hm:X.mg x=none) (hv:bootBuiltins x=some (.type T)) (ha:PA X (e::es) t) (hn:x≠"__name__":=by decide) (hdb:(x == ("__debug__":Str))=false:=by decide) (he:starEach (e::es) X.env=(false,eval e X.env)::starEach es X.env:=by rfl) (hpl:(backTo pos (starEach es X.env)).any (·.1)=false:=by rfl):PE X (.Call (.Name x p) (e::es) [] pos) (tCB r t):=by
 intro pins s σ H Q I h
 refine wpAny_Call_Name_kw (ld_blt I hg hm hv ?_ hn hdb)
 exact PyProof.Rows.callWith_type1 (thn (ha pos pins s σ H _ I h) fun us s1 ⟨vs,H1,I1,r1,q1⟩=>hc pins s1 σ H1 vs us Q I1 r1 q1) he hpl
end
end L2
namespace HT
open PySem PyProof.Rows
section
open PySem.SeqAt
open PySem.AutoSeq1 (wpAny_loadPart')
open PySem.MeetsSeq PySem.MeetsSeq2 PySem.MeetsSeq3
end
section
variable {prog:Program} {w:World} {A:Around} {E:Value→Shared→Prop} {s:Shared}
theorem cat_tup {t b:Addr} {vs ws:List Value} {Q:Value→Shared→Prop} (ht:IsTup s.heap t vs.toArray) (hb:IsTup s.heap b ws.toArray) (hv:vs≠[]) (h1:ws=[]→Q (.ref t) s) (h2:ws≠[]→Q (.ref s.heap.objs.size) {s with heap:=s.heap.push {cls:=.type "tuple",data:=.seq (vs++ws).toArray}}) (hsz:vs.length+ws.length≤sizeLine):wpAny (model prog w) A (binaryOp .Add (.ref t) (.ref b)) Q E s:=by
 obtain ⟨⟨cls,dd,data,sl⟩,ho,hc,n,hd⟩:=id ht
 obtain ⟨⟨cls2,dd2,data2,sl2⟩,ho2,hc2,n2,hd2⟩:=id hb
 simp only at hc hd hc2 hd2
 subst hc hd hc2 hd2
 have e:vs.toArray++ws.toArray=(vs++ws).toArray:=by simp
 by_cases hw:ws=[]
 ·exact concat_meets ⟨_,ho,rfl⟩ ⟨_,ho2,rfl⟩ noFill_tuple_add seq_tuple_add PySem.F.slot_tuple_add PySem.F.entry_tuple_add (PySem.F.args_tuple_add_2 _ _)
   (tuple_addW1 t b vs.toArray ws.toArray n n2 dd dd2 sl sl2 (by simpa using hv) (by simp [hw])) ⟨ho,ho2,h1 hw⟩
 ·refine concat_meets ⟨_,ho,rfl⟩ ⟨_,ho2,rfl⟩ noFill_tuple_add seq_tuple_add PySem.F.slot_tuple_add PySem.F.entry_tuple_add (PySem.F.args_tuple_add_2 _ _)
   (tuple_addW2 t b vs.toArray ws.toArray n n2 dd dd2 sl sl2 (by simpa using hv) (by simpa using hw) (by rw [List.size_toArray,List.size_toArray];exact hsz)) ⟨ho,ho2,?_⟩
  rw [e]
  exact h2 hw
noncomputable def sIx (n d:Nat):Option Int→Nat
 | none=>d
 | some v=>if v < 0 then (v+(n:Int)).toNat else min v.toNat n
theorem sIx_le (n d:Nat) (hd:d≤n) (o:Option Int):sIx n d o≤n:=by
 cases o with
 | none=>exact hd
 | some v =>
  show (if v < 0 then (v+(n:Int)).toNat else min v.toNat n)≤n
  by_cases hv:v < 0
  ·rw [if_pos hv];omega
  ·rw [if_neg hv];exact Nat.min_le_right _ _
theorem clip_eq (v:Int) (n d:Nat):(if v < 0 then max (v+(n:Int)) 0 else min v (n:Int))=((sIx n d (some v):Nat):Int):=by
 show (if v < 0 then max (v+(n:Int)) 0 else min v (n:Int))=(((if v < 0 then (v+(n:Int)).toNat else min v.toNat n):Nat):Int)
 by_cases hv:v < 0
 ·simp only [if_pos hv];omega
 ·simp only [if_neg hv];omega
theorem adjust_gen (lo hi:Option Int) (n:Nat):Builtin.Slice.sliceAdjust lo hi 1 (n:Int)=(((sIx n 0 lo:Nat):Int),((sIx n n hi:Nat):Int)):=by
 have h1:¬ ((1:Int) < 0):=by omega
 unfold Builtin.Slice.sliceAdjust
 simp only [h1,if_false]
 refine Prod.ext ?_ ?_
 ·cases lo with
  | none=>rfl
  | some v=>exact clip_eq v n 0
 ·cases hi with
  | none=>rfl
  | some v=>exact clip_eq v n n
theorem places_gen (i j:Nat):Builtin.Slice.slicePlaces (i:Int) (j:Int) 1=j - i:=by
 unfold Builtin.Slice.slicePlaces
 have h1:(1:Int) > 0:=by omega
 simp only [h1,if_true,Int.ediv_one]
 split<;>omega
theorem slicePart_ {v:Value} {o:Option Int} {Q:Option Int→Shared→Prop} (p:IsPart v o) (h:Q o s):wpAny (model prog w) A (Builtin.Slice.slicePartIndex v) Q E s:=by
 cases p with
 | none=>exact slicePart_none h
 | int i t=>exact slicePart_int h
theorem sliceApplied_gen {sl:Addr} {vl vu:Value} {lo hi:Option Int} {n:Nat} {Q:Int×Int×Nat→Shared→Prop} (hs:s.heap.IsSliceOf sl vl vu .none) (pl:IsPart vl lo) (pu:IsPart vu hi) (h:Q (((sIx n 0 lo:Nat):Int),1,sIx n n hi - sIx n 0 lo) s):wpAny (model prog w) A (Builtin.Slice.sliceApplied (.ref sl) (pure (n:Int))) Q E s:=by
 obtain ⟨os,hos,hcs,hds⟩:=id hs
 unfold Builtin.Slice.sliceApplied Builtin.Slice.sliceFields
 refine wpAny_bind (wpAny_bind (wpAny_field hos hds (x:=vl) rfl (wpAny_bind (wpAny_field hos hds (x:=vu) rfl (wpAny_bind (wpAny_field hos hds (x:=.none) rfl (wpAny_pure ?_)))))))
 refine wpAny_bind (slicePart_none ?_)
 show wpAny _ _ (if ((1:Int) == 0)=true then _ else _) _ _ s
 rw [if_neg (by decide)]
 refine wpAny_bind (slicePart_ pl (wpAny_bind (slicePart_ pu (wpAny_bind (wpAny_pure ?_)))))
 show wpAny _ _ (match Builtin.Slice.sliceAdjust lo hi 1 (n:Int) with | (lo,hi)=>pure (lo,(1:Int),Builtin.Slice.slicePlaces lo hi 1)) _ _ s
 rw [adjust_gen lo hi n]
 show wpAny _ _ (pure (((sIx n 0 lo:Nat):Int),(1:Int),Builtin.Slice.slicePlaces ((sIx n 0 lo:Nat):Int) ((sIx n n hi:Nat):Int) 1)) _ _ s
 rw [places_gen]
 exact wpAny_pure h
theorem pick_gen (xs:Array Value) (i k:Nat):((List.range k).filterMap fun(m:Nat)=>xs[((i:Int)+(m:Int) * 1).toNat]?).toArray=((xs.toList.drop i).take k).toArray:=by
 have e:(fun(m:Nat)=>xs[((i:Int)+(m:Int) * 1).toNat]?)=fun m=>xs[i+m]?:=by
  funext m
  have:((i:Int)+(m:Int) * 1).toNat=i+m:=by omega
  rw [this]
 rw [e]
 have:=pick_run xs i k
 rw [List.filterMap_map] at this
 have e2:((fun x=>xs[x]?) ∘ fun x=>i+x)=fun m=>xs[i+m]?:=rfl
 rw [e2] at this
 rw [this]
theorem getItem_tuple_cut {t sl:Addr} {items:Array Value} {vl vu:Value} {lo hi:Option Int} {Q:Value→Shared→Prop} (ht:IsTup s.heap t items) (hs:s.heap.IsSliceOf sl vl vu .none) (pl:IsPart vl lo) (pu:IsPart vu hi) (hw:¬ (sIx items.size 0 lo=0∧sIx items.size items.size hi=items.size)) (h:Q (.ref s.heap.objs.size) {s with heap:=s.heap.push {cls:=.type "tuple",data:=.seq ((items.toList.drop (sIx items.size 0 lo)).take (sIx items.size items.size hi - sIx items.size 0 lo)).toArray}}) (hsz:items.size≤sizeLine):wpAny (model prog w) A (getItem (.ref t) (.ref sl)) Q E s:=by
 have htake:sizeOk (.seq ((items.toList.drop (sIx items.size 0 lo)).take (sIx items.size items.size hi - sIx items.size 0 lo)).toArray):=by
  show ((items.toList.drop (sIx items.size 0 lo)).take (sIx items.size items.size hi - sIx items.size 0 lo)).toArray.size≤sizeLine
  rw [List.size_toArray,List.length_take,List.length_drop,Array.length_toList]
  omega
 have hj:sIx items.size items.size hi≤items.size:=sIx_le _ _ (Nat.le_refl _) hi
 obtain ⟨os,hos,hcs,hds⟩:=id hs
 have hTs:s.TypeIs (.ref sl) "slice":=⟨os,hos,hcs⟩
 unfold getItem
 try with_reducible refine wpAny_holding ?_
 first | refine wpAny_bind (wpAny_pure ?_) | skip
 refine wpAny_bind (wpAny_sequenceKey ht.typeIs (by decide) ?_)
 refine wpAny_bind (wpAny_callSpecial?_slot (name:=Str.ofString "__getitem__") ht.typeIs PyProof.Rows.slot_tuple_getitem
  (wpAny_call_entry PyProof.Rows.slot_tuple_getitem ht.typeIs entry_tuple_getitem ?_ (args_tuple_getitem _ _)))
 show wpAny _ _ (Builtin.Tuple.tupleItemsOf (.ref t) >>= _) _ _ s
 refine wpAny_bind (tupleItemsOf_ ht ?_)
 refine wpAny_bind (wpAny_typeOf hTs ?_)
 rw [if_pos (by decide)]
 refine wpAny_bind (sliceApplied_gen hs pl pu ?_)
 have hno:¬ ((((sIx items.size 0 lo:Nat):Int) == 0 && (1:Int) == 1 && (sIx items.size items.size hi - sIx items.size 0 lo) == items.size)=true):=by
  intro q
  rw [Bool.and_eq_true,Bool.and_eq_true] at q
  have q1:((sIx items.size 0 lo:Nat):Int)=0:=eq_of_beq q.1.1
  have q2:sIx items.size items.size hi - sIx items.size 0 lo=items.size:=eq_of_beq q.2
  exact hw ⟨by omega,by omega⟩
 show wpAny _ _ (if (((sIx items.size 0 lo:Nat):Int) == 0 && (1:Int) == 1 && (sIx items.size items.size hi - sIx items.size 0 lo) == items.size)=true then _ else _) _ _ s
 rw [if_neg hno,pick_gen]
 first
  | exact wpAny_bind (m:=Builtin.Tuple.tupleExact _) (wpAny_newObj_type (wpAny_pure ⟨_,rfl,wpAny_pure h⟩) htake)
  | exact wpAny_bind (m:=Builtin.Tuple.tupleExact _) (wpAny_newObj_type (wpAny_bind (wpAny_pure (wpAny_pure ⟨_,rfl,wpAny_pure h⟩))) htake)
  | exact wpAny_bind (wpAny_bind (m:=Builtin.Tuple.tupleExact _) (wpAny_newObj_type (wpAny_pure (wpAny_pure ⟨_,rfl,wpAny_pure h⟩)) htake))
  | exact wpAny_bind (wpAny_bind (m:=Builtin.Tuple.tupleExact _) (wpAny_newObj_type (wpAny_pure ⟨_,rfl,wpAny_pure h⟩) htake))
end
end HT
namespace L2
open PySem PySem.Spec PyProof.Rows
noncomputable abbrev TO:=St→Hp→(Option Int→Hp→Prop)→Prop
noncomputable def PO (X:Cx) (e:Option Expr) (t:TO):Prop :=
 ∀(pins:List (Addr×Obj)) (s:Shared) (σ:St) (H:Hp) (Q:Option Int→Hp→Prop),Inv X pins σ H s→t σ H Q →
  wpAny (model X.prog X.w) X.A (evalPart e X.env) (fun u s'=>∃ o H',Inv X pins σ H' s'∧IsPart u o∧Q o H') X.xe s
noncomputable def tNoPart:TO:=fun _ H Q=>Q none H
noncomputable def tPart (t:TE):TO:=fun σ H Q=>t σ H fun x H1=>∃ i,x=.int i∧Q (some i) H1
section
variable {X:Cx} {e:Expr} {te:TE} {lo hi:Option Expr} {tl th:TO} {pos p2:Pos}
theorem po_none:PO X none tNoPart:=by
 intro pins s σ H Q I h
 rw [evalPart_none]
 exact wpAny_pure ⟨none,H,I,.none,h⟩
theorem po_some (h:PE X e te):PO X (some e) (tPart te):=by
 intro pins s σ H Q I hw
 rw [evalPart_some]
 refine thn (h pins s σ H _ I hw) fun u s1 ⟨x,H1,I1,r1,q1⟩=>?_
 obtain ⟨i,rfl,q⟩:=q1
 obtain ⟨t,rfl⟩:=r1
 exact ⟨some i,H1,I1,.int i t,q⟩
noncomputable def SlR (X:Cx) (r:V→Option Int→Option Int→Hp→VK→Prop):Prop :=
 ∀(pins:List (Addr×Obj)) (s:Shared) (σ:St) (H:Hp) (x:V) (v vl vu:Value) (lo hi:Option Int) (sl:Addr) (Q:VK),Inv X pins σ H s→RelV x v→s.heap.IsSliceOf sl vl vu .none→IsPart vl lo→IsPart vu hi→r x lo hi H Q →
  ∃ T id,typeLookup (.type T) "__getitem__"=pure (some (.builtin id))∧s.TypeIs v T∧wpAny (model X.prog X.w) X.A (getItem v (.ref sl)) (EP X pins σ Q) X.xe s
theorem SlR.or {r r':V→Option Int→Option Int→Hp→VK→Prop} (h:SlR X r) (h':SlR X r'):SlR X (fun x lo hi H Q=>r x lo hi H Q∨r' x lo hi H Q):=by
 intro pins s σ H x v vl vu lo hi sl Q I rx hs pl pu q
 rcases q with q | q
 ·exact h pins s σ H x v vl vu lo hi sl Q I rx hs pl pu q
 ·exact h' pins s σ H x v vl vu lo hi sl Q I rx hs pl pu q
noncomputable def tSl (r:V→Option Int→Option Int→Hp→VK→Prop) (te:TE) (tl th:TO):TE:=fun σ H Q=>te σ H fun x H1=>tl σ H1 fun l H2=>th σ H2 fun u H3=>r x l u H3 Q
theorem pe_slice {r:V→Option Int→Option Int→Hp→VK→Prop} (hr:SlR X r) (he:PE X e te) (hl:PO X lo tl) (hu:PO X hi th):PE X (.Subscript e (.Slice lo hi none p2) pos) (tSl r te tl th):=by
 intro pins s σ H Q I h
 refine Subscript_ (thn (he pins s σ H _ I h) fun v s1 ⟨x,H1,I1,r1,q1⟩=>?_)
 refine wpAny_Slice (thn (hl pins s1 σ H1 _ I1 q1) fun vl s2 ⟨l,H2,I2,pl,q2⟩=>thn (hu pins s2 σ H2 _ I2 q2) fun vu s3 ⟨u,H3,I3,pu,q3⟩=>?_)
 rw [evalPart_none]
 refine wpAny_pure ?_
 have I4:Inv X pins σ H3 {s3 with heap:=s3.heap.push {cls:=.type "slice",data:=.fields #[vl,vu,.none]}}:=I3.kept (t':=s3.toks) fun b ob q=>Heap.get?_push_of_some _ q
 obtain ⟨T,id,hT,ht,hg⟩:=hr pins {s3 with heap:=s3.heap.push {cls:=.type "slice",data:=.fields #[vl,vu,.none]}} σ H3 x v vl vu l u s3.heap.objs.size Q I4 r1 (Heap.IsSliceOf.new ..) pl pu q3
 show wpAny (model X.prog X.w) X.A (subscriptTail e (.Slice lo hi none p2) v (.ref s3.heap.objs.size)) (EP X pins σ Q) X.xe {s3 with heap:=s3.heap.push {cls:=.type "slice",data:=.fields #[vl,vu,.none]}}
 exact tail_any (ops:=[.ref s3.heap.objs.size,v]) ht hT hg (by with_unfolding_all rfl)
noncomputable def cutV (xs:List V) (lo hi:Option Int):List V:=(xs.drop (HT.sIx xs.length 0 lo)).take (HT.sIx xs.length xs.length hi - HT.sIx xs.length 0 lo)
theorem cutV_length (xs:List V) (lo hi:Option Int):(cutV xs lo hi).length≤xs.length:=by
 unfold cutV
 rw [List.length_take,List.length_drop]
 omega
noncomputable def rSlT (K:PySem.W.Frag):V→Option Int→Option Int→Hp→VK→Prop:=fun x lo hi H Q=>∃ a xs,x=.ref a∧SqT K H a xs ∧
 ¬ (HT.sIx xs.length 0 lo=0∧HT.sIx xs.length xs.length hi=xs.length)∧∀ p,H p=none→Q (.ref p) (upd H p (.tup (cutV xs lo hi)))
theorem sl_tup:SlR X (rSlT X.K):=by
 intro pins s σ H x v vl vu lo hi sl Q I rx hs pl pu h
 obtain ⟨a,xs,rfl,hx,hw,q⟩:=h
 cases rx
 obtain ⟨its,r,ht,hz⟩:=I.tuple hx
 have hlen:its.toArray.size=xs.length:=by rw [List.size_toArray];exact r.length.symm
 refine ⟨"tuple",_,PyProof.Rows.slot_tuple_getitem.lookup,ht.typeIs,?_⟩
 refine HT.getItem_tuple_cut ht hs pl pu (by rw [hlen];exact hw) ?_ (by rw [hlen];exact hz)
 rw [hlen]
 refine ⟨.ref s.heap.objs.size,_,I.laid (t':=s.toks) (o:=.tup (cutV xs lo hi)) (fun b ob q=>Heap.get?_push_of_some _ q) (Nat.le_refl _) ?_,rfl,q _ (I.hok.fresh (Nat.le_refl _))⟩
 exact ⟨Nat.le_trans (cutV_length xs lo hi) hz,_,(r.drop (HT.sIx xs.length 0 lo)).take (HT.sIx xs.length xs.length hi - HT.sIx xs.length 0 lo),IsTup.new _ _⟩
noncomputable def rCatT (K:PySem.W.Frag):R2:=fun x y H Q=>∃ a b xs ys,x=.ref a∧y=.ref b∧SqT K H a xs∧SqT K H b ys∧xs≠[]∧xs.length+ys.length≤sizeLine ∧
 (ys=[]→Q (.ref a) H)∧(ys≠[]→∀ p,H p=none→Q (.ref p) (upd H p (.tup (xs++ys))))
theorem Vals.nil_iff {xs:List V} {us:List Value} (r:Vals xs us):us=[]↔xs=[]:=by
 cases r with
 | nil=>simp
 | cons _ _=>simp
theorem op_catT:OpR X (binaryOp .Add) (rCatT X.K):=by
 intro pins s σ H x y v u Q I rx ry h
 obtain ⟨a,b,xs,ys,rfl,rfl,ha,hb,hx,hz,q1,q2⟩:=h
 cases rx
 cases ry
 obtain ⟨its,r1,p1,_⟩:=I.tuple ha
 obtain ⟨its2,r2,p2,_⟩:=I.tuple hb
 refine HT.cat_tup p1 p2 (fun z=>hx (r1.nil_iff.mp z)) (fun z=>⟨.ref a,H,I,rfl,q1 (r2.nil_iff.mp z)⟩) (fun z=>?_) (by rw [← r1.length,← r2.length];exact hz)
 refine ⟨.ref s.heap.objs.size,_,I.laid (t':=s.toks) (o:=.tup (xs++ys)) (fun b ob q=>Heap.get?_push_of_some _ q) (Nat.le_refl _) ?_,rfl,q2 (fun w=>z (r2.nil_iff.mpr w)) _ (I.hok.fresh (Nat.le_refl _))⟩
 exact ⟨by rw [List.length_append];exact hz,_,r1.append r2,IsTup.new _ _⟩
end
end L2
namespace L2
open PySem PySem.Spec PyProof.Rows
noncomputable def ixN (n:Nat) (i:Int):Option Nat:=if 0≤i then (if i < n then some i.toNat else none) else if -(n:Int)≤i then some (i+n).toNat else none
noncomputable def atI {α:Type} (xs:List α) (i:Int):Option α:=(ixN xs.length i).bind fun j=>xs[j]?
theorem ixN_seq {n:Nat} {i:Int} {j:Nat} (h:ixN n i=some j):seqIndex? i n=some j∧j < n∧-(n:Int)≤i∧i < n:=by
 unfold ixN at h
 by_cases h0:0≤i
 ·rw [if_pos h0] at h
  by_cases h1:i < n
  ·rw [if_pos h1] at h
   have e:i.toNat=j:=Option.some.inj h
   exact ⟨by rw [seqIndex_of h0 h1,e],by omega,by omega,h1⟩
  ·rw [if_neg h1] at h;cases h
 ·rw [if_neg h0] at h
  by_cases h1:-(n:Int)≤i
  ·rw [if_pos h1] at h
   have e:(i+n).toNat=j:=Option.some.inj h
   exact ⟨by rw [seqIndex_neg (by omega) h1,e],by omega,h1,by omega⟩
  ·rw [if_neg h1] at h;cases h
theorem atI_get {α:Type} {xs:List α} {i:Int} {v:α} (h:atI xs i=some v):∃ j,seqIndex? i xs.length=some j∧xs[j]?=some v∧j < xs.length∧-(xs.length:Int)≤i∧i < xs.length:=by
 unfold atI at h
 cases e:ixN xs.length i with
 | none=>rw [e] at h;cases h
 | some j =>
  rw [e] at h
  obtain ⟨h1,h2,h3,h4⟩:=ixN_seq e
  exact ⟨j,h1,h,h2,h3,h4⟩
theorem atI_nat {α:Type} {xs:List α} {j:Nat} {v:α} (h:xs[j]?=some v):atI xs (j:Int)=some v:=by
 have hj:j < xs.length:=(List.getElem?_eq_some_iff.mp h).1
 have e:ixN xs.length (j:Int)=some j:=by
  unfold ixN
  rw [if_pos (by omega),if_pos (by omega)];simp
 unfold atI;rw [e];exact h
theorem atI_last {α:Type} (xs:List α) (v:α):atI (xs++[v]) (-1)=some v:=by
 have hl:(xs++[v]).length=xs.length+1:=by simp
 have e:ixN (xs++[v]).length (-1)=some xs.length:=by
  unfold ixN
  rw [hl,if_neg (by decide),if_pos (by omega)]
  congr 1
  omega
 unfold atI
 rw [e]
 show (xs++[v])[xs.length]?=some v
 simp
noncomputable def PlainIx (b:Expr):Prop:=∀ o i,subscripted b false o i=operate [o,i] (getItem o i)
noncomputable def IxR (X:Cx) (r:R2):Prop :=
 ∀(value slice:Expr) (pins:List (Addr×Obj)) (s:Shared) (σ:St) (H:Hp) (x y:V) (v u:Value) (Q:VK),Inv X pins σ H s→RelV x v→RelV y u→r x y H Q →
  subscripted slice false v u=operate [v,u] (getItem v u)→wpAny (model X.prog X.w) X.A (subscriptTail value slice v u) (EP X pins σ Q) X.xe s
noncomputable def MtR (X:Cx) (id:String) (r:V→List V→Hp→VK→Prop):Prop :=
 ∀(pins:List (Addr×Obj)) (s:Shared) (σ:St) (H:Hp) (x:V) (xs:List V) (v:Value) (us:List Value) (Q:VK),Inv X pins σ H s→RelV x v→Vals xs us→r x xs H Q →
  wpAny (model X.prog X.w) X.A (call (.builtin id) (v::us)) (EP X pins σ Q) X.xe s
section
variable {X:Cx} {a b:Expr} {ta tb:TE} {pos:Pos}
theorem IxR.or {r r':R2} (h:IxR X r) (h':IxR X r'):IxR X (fun x y H Q=>r x y H Q∨r' x y H Q):=by
 intro value slice pins s σ H x y v u Q I rx ry q hs
 rcases q with q | q
 ·exact h value slice pins s σ H x y v u Q I rx ry q hs
 ·exact h' value slice pins s σ H x y v u Q I rx ry q hs
theorem MtR.or {id:String} {r r':V→List V→Hp→VK→Prop} (h:MtR X id r) (h':MtR X id r'):MtR X id (fun x xs H Q=>r x xs H Q∨r' x xs H Q):=by
 intro pins s σ H x xs v us Q I rx rs q
 rcases q with q | q
 ·exact h pins s σ H x xs v us Q I rx rs q
 ·exact h' pins s σ H x xs v us Q I rx rs q
theorem pe_ix {r:R2} (hr:IxR X r) (ha:PE X a ta) (hb:PE X b tb) (hs:PlainIx b):PE X (.Subscript a b pos) (tOp r ta tb):=by
 intro pins s σ H Q I h
 exact Subscript_ (binT ha hb I h fun v u s2 x y H2 I2 rx ry q=>hr a b pins s2 σ H2 x y v u Q I2 rx ry q (hs _ _))
noncomputable def rIxL (K:PySem.W.Frag):R2:=fun x y H Q=>∃ p xs i v,x=.ref p∧y=.int i∧SqL K H p xs∧atI xs i=some v∧Q v H
noncomputable def rIxT (K:PySem.W.Frag):R2:=fun x y H Q=>∃ p xs i v,x=.ref p∧y=.int i∧SqT K H p xs∧atI xs i=some v∧Q v H
noncomputable def rIxS:R2:=fun x y H Q=>∃ z i c,x=.str z∧y=.int i∧z.length≤sizeLine∧atI z.cps.toList i=some c∧Q (.str ⟨#[c]⟩) H
theorem ix_list:IxR X (rIxL X.K):=by
 intro value slice pins s σ H x y v u Q I rx ry h hs
 obtain ⟨p,xs,i,z,rfl,rfl,hq,he,q⟩:=h
 cases rx
 obtain ⟨t,rfl⟩:=ry
 obtain ⟨its,r,pl,hz⟩:=I.list hq
 obtain ⟨j,h1,h2,h3,h4,h5⟩:=atI_get he
 obtain ⟨w,ew,rw'⟩:=r.get h2
 have hl:=r.length
 have hn:=line63
 have fin:EP X pins σ Q w s:=⟨z,H,I,rw',q⟩
 by_cases h0:0≤i
 ·have hj:i.toNat=j:=by
   rw [seqIndex_of h0 h5] at h1
   exact Option.some.inj h1
  exact item_listR pl.isList h0 (by omega) (by rw [hj];simpa using ew) fin hs
 ·have hj:(i+(its.toArray.size:Int)).toNat=j:=by
   rw [seqIndex_neg (by omega) h4] at h1
   rw [List.size_toArray,← hl]
   exact Option.some.inj h1
  exact subscriptTail_builtinR (x:=w) pl.isList.typeIs slot_list_getitem.lookup
   (wpAny_getItem_list_neg (Q:=fun r s'=>r=w∧EP X pins σ Q r s') pl.isList (by omega) (by rw [List.size_toArray]<;>omega) (by omega) (by rw [hj];simpa using ew) ⟨rfl,fin⟩) hs
theorem ix_tup:IxR X (rIxT X.K):=by
 intro value slice pins s σ H x y v u Q I rx ry h hs
 obtain ⟨p,xs,i,z,rfl,rfl,hq,he,q⟩:=h
 cases rx
 obtain ⟨t,rfl⟩:=ry
 obtain ⟨its,r,pl,hz⟩:=I.tuple hq
 obtain ⟨j,h1,h2,h3,h4,h5⟩:=atI_get he
 obtain ⟨w,ew,rw'⟩:=r.get h2
 have hl:=r.length
 have hn:=line63
 have fin:EP X pins σ Q w s:=⟨z,H,I,rw',q⟩
 exact subscriptTail_builtinR (x:=w) pl.typeIs slot_tuple_getitem.lookup
  (getItem_tuple (j:=j) (Q:=fun r s'=>r=w∧EP X pins σ Q r s') pl (by omega) (by omega) (by rw [List.size_toArray,← hl];exact h1) (by simpa using ew) ⟨rfl,fin⟩) hs
theorem ix_str:IxR X rIxS:=by
 intro value slice pins s σ H x y v u Q I rx ry h hs
 obtain ⟨z,i,c,rfl,rfl,hz,he,q⟩:=h
 obtain ⟨t,rfl⟩:=rx
 obtain ⟨t',rfl⟩:=ry
 obtain ⟨j,h1,h2,h3,h4,h5⟩:=atI_get he
 have hl:z.cps.toList.length=z.length:=by simp [Str.length]
 rw [hl] at h1 h4 h5
 have hn:=line63
 exact tail_any (typeIs_str s z t) slot_str_getitem.lookup (getItem_str (c:=c) (by
  have e1:decide (i < -(2 ^ 63:Int))=false:=decide_eq_false (by omega)
  have e2:decide (i ≥ 2 ^ 63)=false:=decide_eq_false (by omega)
  rw [e1,e2,Bool.or_false]) (by rw [h1];simpa using h2) ⟨.str ⟨#[c]⟩,H,I.tok _,⟨_,rfl⟩,q⟩) hs
noncomputable def rIx (K:PySem.W.Frag):R2:=fun x y H Q=>rIxL K x y H Q∨rIxT K x y H Q∨rIxS x y H Q
theorem ix_seq:IxR X (rIx X.K):=ix_list.or (ix_tup.or ix_str)
theorem mapSeq_set (its:List Value) (n j:Nat) (u:Value):Obj.mapSeq (·.setIfInBounds j u) {cls:=.type "list",data:=.seq its.toArray n}={cls:=.type "list",data:=.seq (its.set j u).toArray n}:=by
 simp [Obj.mapSeq]
theorem Inv.lst {pins:List (Addr×Obj)} {σ:St} {H:Hp} {s:Shared} {p:Addr} {xs:List V} (I:Inv X pins σ H s) (h:H p=some (.lst xs)) : ∃(its:List Value) (n:Nat),Vals xs its∧s.heap.get? p=some {cls:=.type "list",data:=.seq its.toArray n}∧xs.length≤sizeLine:=by
 obtain ⟨z,its,n,r,e⟩:=I.hok p _ h
 exact ⟨its,n,r,e,z⟩
theorem Inv.lstUpd {pins:List (Addr×Obj)} {σ:St} {H:Hp} {s:Shared} {p:Addr} {xs ys:List V} {its its':List Value} {n n':Nat} {f:Obj→Obj} (I:Inv X pins σ H s) (h:H p=some (.lst xs)) (ho:s.heap.get? p=some {cls:=.type "list",data:=.seq its.toArray n}) (hf:f {cls:=.type "list",data:=.seq its.toArray n}={cls:=.type "list",data:=.seq its'.toArray n'}) (r:Vals ys its') (hz:ys.length≤sizeLine) (t:Nat) : Inv X pins σ (upd H p (.lst ys)) {s with heap:=s.heap.update p f,toks:=t}:=by
 have e:(s.heap.update p f).get? p=some {cls:=.type "list",data:=.seq its'.toArray n'}:=by
  rw [Heap.get?_update_self f ho (by rw [hf]<;>rfl),hf]
 refine I.write (x:=p) (e:=p) (by rw [h];trivial) (.inl rfl) (fun b u hb q=>(Heap.get?_update_other _ _ (Ne.symm hb)).trans q) ⟨_,e⟩ ?_
 exact ⟨hz,its',n',r,e⟩
noncomputable def rSetL:V→V→V→Hp→(Hp→Prop)→Prop:=fun o i v H Q=>∃ p xs k j,o=.ref p∧i=.int k∧H p=some (.lst xs)∧ixN xs.length k=some j∧Q (upd H p (.lst (xs.set j v)))
theorem set_list:PSet X rSetL:=by
 intro pins s σ H o i v ov iv u Q I ro ri rv h
 obtain ⟨p,xs,k,j,rfl,rfl,hp,hj,q⟩:=h
 cases ro
 obtain ⟨t,rfl⟩:=ri
 obtain ⟨its,n,r,ho,hz⟩:=I.lst hp
 obtain ⟨h1,h2,h3,h4⟩:=ixN_seq hj
 have hl:=r.length
 have hn:=line63
 have I':Inv X pins σ (upd H p (.lst (xs.set j v))) {s with heap:=s.heap.update p (Obj.mapSeq (·.setIfInBounds j u))} :=
  I.lstUpd hp ho (mapSeq_set its n j u) (r.set rv j) (by rw [List.length_set];exact hz) s.toks
 by_cases h0:0≤k
 ·have hk:k.toNat=j:=by
   rw [seqIndex_of h0 h4] at h1
   exact Option.some.inj h1
  exact PySem.W.ki_setAt ho h0 (by omega) (by rw [List.size_toArray,← hl];exact h4) (by rw [hk];exact ⟨_,I',q⟩)
 ·have hk:(k+(its.toArray.size:Int)).toNat=j:=by
   rw [seqIndex_neg (by omega) h3] at h1
   rw [List.size_toArray,← hl]
   exact Option.some.inj h1
  exact PySem.W.ki_setBack ho (by omega) (by rw [List.size_toArray,← hl];exact h3) (by omega) (by rw [hk];exact ⟨_,I',q⟩)
noncomputable def rSlL (K:PySem.W.Frag):V→Option Int→Option Int→Hp→VK→Prop:=fun x lo hi H Q=>∃ a xs,x=.ref a∧SqL K H a xs∧∀ p,H p=none→Q (.ref p) (upd H p (.lst (cutV xs lo hi)))
noncomputable def flatV:V→Bool
 | .non=>true
 | .bl _=>true
 | .int _=>true
 | .str _=>true
 | _=>false
noncomputable def eqV:V→V→Bool
 | .non,.non=>true
 | .bl a,.bl b=>a == b
 | .bl a,.int b=>(if a then 1 else 0) == b
 | .int a,.bl b=>a == (if b then 1 else 0)
 | .int a,.int b=>a == b
 | .str a,.str b=>a == b
 | _,_=>false
theorem eqAt_V {A:Around} {s:Shared} {y x:V} {u v:Value} (ry:RelV y u) (rx:RelV x v) (fy:flatV y=true) (fx:flatV x=true):SeqAt.EqAt A s u v (eqV y x):=by
 cases y with
 | non =>
  cases ry
  cases x with
  | non=>cases rx;exact SeqAt.EqAt.same _
  | bl b=>cases rx;exact SeqAt.EqAt.none_bool b
  | int b=>obtain ⟨t,rfl⟩:=rx;exact SeqAt.EqAt.none_int b t
  | str b=>obtain ⟨t,rfl⟩:=rx;exact SeqAt.EqAt.none_str b t
  | _=>exact absurd (show false=true from fx) Bool.false_ne_true
 | bl a =>
  cases ry
  cases x with
  | non=>cases rx;exact SeqAt.EqAt.bool_none a
  | bl b=>cases rx;exact SeqAt.EqAt.bool_bool a b
  | int b=>obtain ⟨t,rfl⟩:=rx;exact SeqAt.EqAt.bool_int a b t
  | str b=>obtain ⟨t,rfl⟩:=rx;exact SeqAt.EqAt.bool_str a b t
  | _=>exact absurd (show false=true from fx) Bool.false_ne_true
 | int a =>
  obtain ⟨t',rfl⟩:=ry
  cases x with
  | non=>cases rx;exact SeqAt.EqAt.int_none a t'
  | bl b=>cases rx;exact SeqAt.EqAt.int_bool a t' b
  | int b=>obtain ⟨t,rfl⟩:=rx;exact SeqAt.EqAt.int_int a t' b t
  | str b=>obtain ⟨t,rfl⟩:=rx;exact SeqAt.EqAt.int_str a t' b t
  | _=>exact absurd (show false=true from fx) Bool.false_ne_true
 | str a =>
  obtain ⟨t',rfl⟩:=ry
  cases x with
  | non=>cases rx;exact SeqAt.EqAt.str_none a t'
  | bl b=>cases rx;exact SeqAt.EqAt.str_bool a t' b
  | int b=>obtain ⟨t,rfl⟩:=rx;exact SeqAt.EqAt.str_int a t' b t
  | str b=>obtain ⟨t,rfl⟩:=rx;exact SeqAt.EqAt.str_str a t' b t
  | _=>exact absurd (show false=true from fx) Bool.false_ne_true
 | _=>exact absurd (show false=true from fy) Bool.false_ne_true
noncomputable def eqU (x:V) (u:Value):Bool:=match u with
 | .none=>eqV .non x
 | .bool b=>eqV (.bl b) x
 | .int i _=>eqV (.int i) x
 | .str z _=>eqV (.str z) x
 | _=>false
theorem eqU_of {x y:V} {u:Value} (r:RelV y u) (f:flatV y=true):eqU x u=eqV y x:=by
 cases y with
 | non=>cases r;rfl
 | bl b=>cases r;rfl
 | int i=>obtain ⟨t,rfl⟩:=r;rfl
 | str z=>obtain ⟨t,rfl⟩:=r;rfl
 | _=>exact absurd (show false=true from f) Bool.false_ne_true
theorem any_eqU {x:V}:∀ {xs:List V} {us:List Value},Vals xs us→xs.all flatV=true→us.any (eqU x)=xs.any fun y=>eqV y x
 | _,_,.nil,_=>rfl
 | y::xs,u::us,.cons r t,f=>by
  rw [List.all_cons,Bool.and_eq_true] at f
  rw [List.any_cons,List.any_cons,eqU_of r f.1,any_eqU t f.2]
theorem mem_eqAt {A:Around} {s:Shared} {x:V} {v:Value} (rx:RelV x v) (fx:flatV x=true):∀ {xs:List V} {us:List Value},Vals xs us→xs.all flatV=true→∀ u∈us,SeqAt.EqAt A s u v (eqU x u)
 | _,_,.nil,_=>fun u hu=>by cases hu
 | y::xs,u::us,.cons r t,f=>fun u' hu=>by
  rw [List.all_cons,Bool.and_eq_true] at f
  rcases List.mem_cons.mp hu with rfl | hu
  ·rw [eqU_of r f.1];exact eqAt_V r rx f.1 fx
  ·exact mem_eqAt rx fx t f.2 u' hu
noncomputable def inV (x:V) (xs:List V):Bool:=xs.any fun y=>eqV y x
noncomputable def rIn (K:PySem.W.Frag) (neg:Bool):R2:=fun x y H Q=>∃ p xs,y=.ref p∧(SqL K H p xs∨SqT K H p xs)∧flatV x=true∧xs.all flatV=true∧Q (.bl (if neg then !inV x xs else inV x xs)) H
theorem op_in_seq:OpR X (compareOp .In) (rIn X.K false):=by
 intro pins s σ H x y v u Q I rx ry h
 obtain ⟨p,xs,rfl,hq,fx,fs,q⟩:=h
 cases ry
 rcases hq with hq | hq
 ·obtain ⟨its,r,pl,hz⟩:=I.list hq
  refine SeqAt.in_listAt (eqU x) pl.isList (fun w hw=>mem_eqAt rx fx r fs w (by simpa using hw)) ⟨.bl _,H,I,rfl,?_⟩
  rw [show its.toArray.any (eqU x)=its.any (eqU x) by simp,any_eqU r fs]
  exact q
 ·obtain ⟨its,r,pl,hz⟩:=I.tuple hq
  refine SeqAt.in_tupleAt (eqU x) pl (fun w hw=>mem_eqAt rx fx r fs w (by simpa using hw)) ⟨.bl _,H,I,rfl,?_⟩
  rw [show its.toArray.any (eqU x)=its.any (eqU x) by simp,any_eqU r fs]
  exact q
theorem op_notIn_seq:OpR X (compareOp .NotIn) (rIn X.K true):=by
 intro pins s σ H x y v u Q I rx ry h
 obtain ⟨p,xs,rfl,hq,fx,fs,q⟩:=h
 cases ry
 rcases hq with hq | hq
 ·obtain ⟨its,r,pl,hz⟩:=I.list hq
  refine SeqAt.notIn_listAt (eqU x) pl.isList (fun w hw=>mem_eqAt rx fx r fs w (by simpa using hw)) ⟨.bl _,H,I,rfl,?_⟩
  rw [show its.toArray.any (eqU x)=its.any (eqU x) by simp,any_eqU r fs]
  exact q
 ·obtain ⟨its,r,pl,hz⟩:=I.tuple hq
  refine SeqAt.notIn_tupleAt (eqU x) pl (fun w hw=>mem_eqAt rx fx r fs w (by simpa using hw)) ⟨.bl _,H,I,rfl,?_⟩
  rw [show its.toArray.any (eqU x)=its.any (eqU x) by simp,any_eqU r fs]
  exact q
theorem call_len_seq:CallR X (.builtin "len") (fun xs H Q=>∃ p ys,xs=[.ref p]∧(SqL X.K H p ys∨SqT X.K H p ys)∧Q (.int ys.length) H):=by
 intro pins s σ H xs us Q I r h
 obtain ⟨p,ys,rfl,hq,q⟩:=h
 obtain ⟨u,rfl,rx⟩:=vals1 r
 cases rx
 have hn:=line63
 rcases hq with hq | hq
 ·obtain ⟨its,r',pl,hz⟩:=I.list hq
  have hlen:=r'.length
  exact Calls.call_len_list pl.isList (by simp only [List.size_toArray]<;>omega) ⟨.int ys.length,H,I.tok _,⟨s.toks+1,by rw [List.size_toArray,hlen]⟩,q⟩
 ·obtain ⟨its,r',pl,hz⟩:=I.tuple hq
  have hlen:=r'.length
  exact len_tuple pl (by simp only [List.size_toArray]<;>omega) ⟨.int ys.length,H,I.tok _,⟨s.toks+1,by rw [List.size_toArray,hlen]⟩,q⟩
theorem CallR.or {f:Value} {r r':List V→Hp→VK→Prop} (h:CallR X f r) (h':CallR X f r'):CallR X f (fun xs H Q=>r xs H Q∨r' xs H Q):=by
 intro pins s σ H xs us Q I rs q
 rcases q with q | q
 ·exact h pins s σ H xs us Q I rs q
 ·exact h' pins s σ H xs us Q I rs q
theorem call_tuple_of:CallR X (.type "tuple") (fun xs H Q=>∃ p ys,xs=[.ref p]∧((SqL X.K H p ys∧∀ l,H l=none→Q (.ref l) (upd H l (.tup ys)))∨(SqT X.K H p ys∧Q (.ref p) H))):=by
 intro pins s σ H xs us Q I r h
 obtain ⟨p,ys,rfl,h⟩:=h
 obtain ⟨u,rfl,rx⟩:=vals1 r
 cases rx
 rcases h with ⟨hq,q⟩ | ⟨hq,q⟩
 ·obtain ⟨its,r',pl,hz⟩:=I.list hq
  have hlen:=r'.length
  refine call_tuple_list pl.isList (fun h' kp=>?_) (by simp only [List.size_toArray]<;>omega)
  have I1:Inv X pins σ H {s with heap:=h'}:=I.kept (t':=s.toks) kp
  have I2:Inv X pins σ (upd H h'.objs.size (.tup ys)) {s with heap:=h'.push {cls:=.type "tuple",data:=.seq its.toArray}} :=
   I1.laid (t':=s.toks) (fun b o e=>Heap.get?_push_of_some _ e) (Nat.le_refl _) (show ObjOk X.prog X.w _ _ _ (.tup ys) from ⟨hz,its,r',IsTup.new _ _⟩)
  exact ⟨.ref h'.objs.size,_,I2,rfl,q _ (I1.hok.fresh (Nat.le_refl _))⟩
 ·obtain ⟨its,r',pl,hz⟩:=I.tuple hq
  exact call_tuple_same pl ⟨.ref p,H,I,rfl,q⟩
noncomputable def tyV (K:PySem.W.Frag) (T:String) (x:V) (H:Hp):Prop:=match x with
  | .str _=>T = "str"
  | .int _=>T = "int"
  | .ref p=>(T = "list"∧∃ xs,SqL K H p xs)∨(T = "tuple"∧∃ o,K.lookup p=some o∧o.cls=.type "tuple"∧o.dict=none) ∨
      (T = "dict"∧((∃ kvs,H p=some (.dK kvs))∨∃ kvs,H p=some (.dT kvs)))∨(T = "set"∧∃ S n,H p=some (.set S n))
  | _=>False
theorem tyV_is {pins:List (Addr×Obj)} {σ:St} {H:Hp} {s:Shared} {T:String} {x:V} {v:Value} (I:Inv X pins σ H s) (r:RelV x v) (ty:tyV X.K T x H) : s.TypeIs v T∧∀ a,v=.ref a→∃ ob,s.heap.get? a=some ob∧ob.dict=none:=by
 cases x with
 | str z =>
  obtain ⟨t,rfl⟩:=r
  cases (show T = "str" from ty)
  exact ⟨typeIs_str s z t,fun _ e=>nomatch e⟩
 | int i =>
  obtain ⟨t,rfl⟩:=r
  cases (show T = "int" from ty)
  exact ⟨typeIs_int s i t,fun _ e=>nomatch e⟩
 | ref p =>
  cases r
  rcases ty with ⟨rfl,xs,hq⟩ | ⟨rfl,o,hk,hc,hd⟩ | ⟨rfl,hk⟩ | ⟨rfl,S,n,hk⟩
  ·obtain ⟨its,_,pl,_⟩:=I.list hq
   refine ⟨pl.isList.typeIs,fun a e=>?_⟩
   cases e
   obtain ⟨o,n,e,c,hd,_⟩:=pl
   exact ⟨o,e,hd⟩
  ·refine ⟨⟨o,I.kIn p o hk,hc⟩,fun a e=>?_⟩
   cases e
   exact ⟨o,I.kIn _ o hk,hd⟩
  ·have z:∃ o,s.heap.get? p=some o∧o.ExactDict:=by
    rcases hk with ⟨kvs,hk⟩ | ⟨kvs,hk⟩
    ·obtain ⟨_,_,_,_,o,_,_,e,ex,_⟩:=I.hok p _ hk
     exact ⟨o,e,ex⟩
    ·obtain ⟨_,_,_,_,o,_,_,e,ex,_⟩:=I.hok p _ hk
     exact ⟨o,e,ex⟩
   obtain ⟨o,e,ex⟩:=z
   refine ⟨⟨o,e,ex.1⟩,fun a e2=>?_⟩
   cases e2
   exact ⟨o,e,ex.2.1⟩
  ·obtain ⟨o,_,_,_,e,ex,_⟩:=I.hok p _ hk
   refine ⟨⟨o,e,ex.1⟩,fun a e2=>?_⟩
   cases e2
   exact ⟨o,e,ex.2.1⟩
 | _=>exact False.elim ty
noncomputable def tBM (K:PySem.W.Frag) (T:String) (r:V→List V→Hp→VK→Prop) (to:TE) (t:TA):TE:=fun σ H Q=>to σ H fun x H1=>tyV K T x H1∧t σ H1 fun xs H2=>r x xs H2 Q
variable {o e:Expr} {es:List Expr} {to:TE} {t:TA} {name:Str} {apos cpos:Pos} {T id:String} {r:V→List V→Hp→VK→Prop}
/- xs.append(e),list.index on a module's tuple .. are MtR facts of 06m -/
end
end L2
namespace L2
open PySem PySem.Spec PyProof.Rows
noncomputable def MtM (X:Cx) (id:String) (r:V→List V→Hp→VK→Prop):Prop :=
 ∀(pins:List (Addr×Obj)) (s:Shared) (σ:St) (H:Hp) (x:V) (xs:List V) (v:Value) (us:List Value) (Q:VK),Inv X pins σ H s→RelV x v→Vals xs us→r x xs H Q →
  wpAny (model X.prog X.w) X.A (call (.builtin id) (v::us)) (EP X pins σ Q) X.xe s
theorem Vals.one {x:V} {us:List Value} (h:Vals [x] us):∃ u,us=[u]∧RelV x u:=by
 cases h with
 | cons r t=>cases t;exact ⟨_,rfl,r⟩
theorem Vals.two:∀ {x y:V} {us:List Value},Vals [x,y] us→∃ u v,us=[u,v]∧RelV x u∧RelV y v
 | _,_,_,.cons r (.cons q .nil)=>⟨_,_,rfl,r,q⟩
theorem Vals.zero:∀ {us:List Value},Vals [] us→us=[]
 | _,.nil=>rfl
theorem Vals.dropLast {xs:List V} {us:List Value} (h:Vals xs us):Vals xs.dropLast us.dropLast:=by
 induction h with
 | nil=>exact .nil
 | cons r t ih =>
  cases t with
  | nil=>exact .nil
  | cons q t'=>exact .cons r ih
theorem Vals.eraseIdx:∀ {xs:List V} {us:List Value} (i:Nat),Vals xs us→Vals (xs.eraseIdx i) (us.eraseIdx i)
 | _,_,_,.nil=>.nil
 | _,_,0,.cons _ t=>t
 | _,_,i+1,.cons r t=>.cons r (Vals.eraseIdx i t)
theorem erase_last {α:Type} (l:List α):l.eraseIdx (l.length - 1)=l.dropLast:=by
 induction l with
 | nil=>rfl
 | cons a r ih =>
  cases r with
  | nil=>rfl
  | cons b r =>
   have e:(a::b::r).length - 1=((b::r).length - 1)+1:=by
    have h1:(a::b::r).length=r.length+2:=rfl
    have h2:(b::r).length=r.length+1:=rfl
    omega
   rw [e,List.eraseIdx_cons_succ,ih]
   all_goals rfl
theorem len_erase {α:Type}:∀(l:List α) (i:Nat),(l.eraseIdx i).length≤l.length
 | [],_=>Nat.le_refl _
 | _::_,0=>Nat.le_succ _
 | _::r,i+1=>Nat.succ_le_succ (len_erase r i)
section
variable {X:Cx} {pins:List (Addr×Obj)} {σ:St} {H:Hp} {s:Shared} {l b:Addr} {xs ys zs:List V}
theorem Inv.lset {its its':List Value} {n:Nat} {f:Array Value→Array Value} {t':Nat} (I:Inv X pins σ H s) (hH:H l=some (.lst xs)) (e:s.heap.get? l=some {cls:=.type "list",data:=.seq its.toArray n}) (hf:f its.toArray=its'.toArray) (hv:Vals ys its') (hz:ys.length≤sizeLine) : Inv X pins σ (upd H l (.lst ys)) {s with heap:=s.heap.update l (Obj.mapSeq f),toks:=t'}:=by
 have q:=PySem.IsL.update e f
 rw [hf] at q
 refine I.write (x:=l) (e:=l) (by rw [hH];exact trivial) (.inl rfl) (fun b' u hb hu=>(Heap.get?_update_other s.heap (Obj.mapSeq f) (Ne.symm hb)).trans hu) ⟨_,q⟩ ?_
 exact ⟨hz,its',_,hv,q⟩
theorem Inv.lnew {its:List Value} {t':Nat} (I:Inv X pins σ H s) (hv:Vals ys its) (hz:ys.length≤sizeLine) : Inv X pins σ (upd H s.heap.objs.size (.lst ys)) {s with heap:=s.heap.push {cls:=.type "list",data:=.seq its.toArray},toks:=t'} :=
 I.laid (fun _ _ q=>Heap.get?_push_of_some _ q) (Nat.le_refl _) ⟨hz,its,0,hv,Heap.get?_push_size _ rfl⟩
theorem Inv.fresh (I:Inv X pins σ H s):H s.heap.objs.size=none:=I.hok.fresh (Nat.le_refl _)
theorem Inv.lstM (I:Inv X pins σ H s) (hH:H l=some (.lst xs)):xs.length≤sizeLine∧∃(its:List Value) (n:Nat),Vals xs its∧xs.length=its.length∧s.heap.get? l=some {cls:=.type "list",data:=.seq its.toArray n}:=by
 obtain ⟨z,its,n,r,e⟩:=I.hok l _ hH
 exact ⟨z,its,n,r,r.length,e⟩
theorem notLongL {n:Nat} (h:n≤sizeLine):Builtin.List.listTooLong n=false:=by
 unfold Builtin.List.listTooLong
 exact decide_eq_false (by omega)
end
section
variable {X:Cx}
noncomputable def rAppend:V→List V→Hp→VK→Prop:=fun x vs H Q=>∃ l xs y,x=.ref l∧vs=[y]∧H l=some (.lst xs)∧xs.length < sizeLine∧Q .non (upd H l (.lst (xs++[y])))
theorem mt_append:MtM X "list.append" rAppend:=by
 intro pins s σ H x vs v us Q I rx rv h
 obtain ⟨l,xs,y,rfl,rfl,hH,hz,q⟩:=h
 cases rx
 obtain ⟨u,rfl,ru⟩:=rv.one
 obtain ⟨z,its,n,r,hl,e⟩:=I.lstM hH
 refine call_meets F.slot_list_append ⟨_,e,rfl⟩ F.entry_list_append (F.args_list_append_2 _ _) (PySem.list_append l its.toArray n u (by rw [List.size_toArray];omega)) ⟨e,?_⟩
 refine ⟨.non,_,I.lset (its':=its++[u]) hH e (by simp) (r.append (.cons ru .nil)) ?_,rfl,q⟩
 rw [List.length_append,List.length_singleton]
 omega
noncomputable def rExtend:V→List V→Hp→VK→Prop:=fun x vs H Q=>∃ l b xs zs,x=.ref l∧vs=[.ref b]∧H l=some (.lst xs)∧H b=some (.lst zs)∧xs.length+zs.length≤sizeLine∧Q .non (upd H l (.lst (xs++zs)))
theorem mt_extend:MtM X "list.extend" rExtend:=by
 intro pins s σ H x vs v us Q I rx rv h
 obtain ⟨l,b,xs,zs,rfl,rfl,hH,hB,hz,q⟩:=h
 cases rx
 obtain ⟨u,rfl,ru⟩:=rv.one
 cases ru
 obtain ⟨z,its,n,r,hl,e⟩:=I.lstM hH
 obtain ⟨z2,its2,n2,r2,hl2,e2⟩:=I.lstM hB
 have hsz:its.toArray.size+its2.toArray.size≤sizeLine:=by rw [List.size_toArray,List.size_toArray];omega
 have hlong:¬ (!its.toArray.isEmpty && Builtin.List.listTooLong (its.toArray.size+its2.toArray.size))=true:=by
  rw [notLongL hsz,Bool.and_false]
  exact Bool.false_ne_true
 refine call_meets F.slot_list_extend ⟨_,e,rfl⟩ F.entry_list_extend (F.args_list_extend_2 _ _)
  (AutoSeq1.list_extend_list_list_0 l its.toArray n b its2.toArray n2 hlong (by rw [List.size_toArray];omega) (by omega)) ⟨e,e2,?_⟩
 refine ⟨.non,_,I.lset (its':=its++its2) hH e (by simp) (r.append r2) ?_,rfl,q⟩
 rw [List.length_append]
 omega
noncomputable def rPop:V→List V→Hp→VK→Prop:=fun x vs H Q=>∃ l xs y,x=.ref l∧vs=[]∧H l=some (.lst xs)∧xs[xs.length - 1]?=some y∧Q y (upd H l (.lst xs.dropLast))
theorem mt_pop:MtM X "list.pop" rPop:=by
 intro pins s σ H x vs v us Q I rx rv h
 obtain ⟨l,xs,y,rfl,rfl,hH,hy,q⟩:=h
 cases rx
 have hus:=rv.zero
 subst hus
 obtain ⟨z,its,n,r,hl,e⟩:=I.lstM hH
 obtain ⟨u,hu,ru⟩:=r.get hy
 have hy':its.toArray[its.toArray.size - 1]?=some u:=by
  show its.toArray[its.length - 1]?=some u
  rw [← Array.getElem?_toList,← hl]
  exact hu
 refine call_meets F.slot_list_pop ⟨_,e,rfl⟩ F.entry_list_pop (F.args_list_pop_1 _) (MeetsSeq.list_pop_last l its.toArray n u hy' (by rw [List.size_toArray];omega)) ⟨e,?_⟩
 refine ⟨y,_,I.lset (its':=its.dropLast) hH e ?_ r.dropLast ?_,ru,q⟩
 ·show its.toArray.eraseIdxIfInBounds (its.toArray.size - 1)=its.dropLast.toArray
  rw [List.size_toArray,List.eraseIdxIfInBounds_toArray,erase_last]
 ·rw [List.length_dropLast]
  omega
noncomputable def rPopAt:V→List V→Hp→VK→Prop:=fun x vs H Q=>∃ l xs i k y,x=.ref l∧vs=[.int i]∧H l=some (.lst xs)∧-(2 ^ 63)≤i∧i < 2 ^ 63∧seqIndex? i xs.length=some k∧xs[k]?=some y∧Q y (upd H l (.lst (xs.eraseIdx k)))
theorem mt_popAt:MtM X "list.pop" rPopAt:=by
 intro pins s σ H x vs v us Q I rx rv h
 obtain ⟨l,xs,i,k,y,rfl,rfl,hH,h1,h2,hk,hy,q⟩:=h
 cases rx
 obtain ⟨u,rfl,ru⟩:=rv.one
 obtain ⟨t,rfl⟩:=ru
 obtain ⟨z,its,n,r,hl,e⟩:=I.lstM hH
 obtain ⟨w,hw,rw'⟩:=r.get hy
 refine call_meets F.slot_list_pop ⟨_,e,rfl⟩ F.entry_list_pop (F.args_list_pop_2 _ _)
  (MeetsSeq.list_pop_at l its.toArray n i t k w (fitsIndex_both h1 h2) (by rw [List.size_toArray,← hl];exact hk) (by rw [← Array.getElem?_toList];exact hw) (by rw [List.size_toArray];omega)) ⟨e,?_⟩
 refine ⟨y,_,I.lset (its':=its.eraseIdx k) hH e ?_ (r.eraseIdx k) ?_,rw',q⟩
 ·show its.toArray.eraseIdxIfInBounds k=(its.eraseIdx k).toArray
  rw [List.eraseIdxIfInBounds_toArray]
 ·have:=len_erase xs k
  omega
noncomputable def rCat:R2:=fun x y H Q=>∃ l b xs zs,x=.ref l∧y=.ref b∧H l=some (.lst xs)∧H b=some (.lst zs)∧xs.length+zs.length≤sizeLine∧∀ p,H p=none→Q (.ref p) (upd H p (.lst (xs++zs)))
theorem op_cat:OpR X (binaryOp .Add) rCat:=by
 intro pins s σ H x y v u Q I rx ry h
 obtain ⟨l,b,xs,zs,rfl,rfl,hH,hB,hz,q⟩:=h
 cases rx
 cases ry
 obtain ⟨z,its,n,r,hl,e⟩:=I.lstM hH
 obtain ⟨z2,its2,n2,r2,hl2,e2⟩:=I.lstM hB
 refine PySem.P.add_list e e2 ?_ (by rw [List.size_toArray,List.size_toArray];omega)
 have ea:its.toArray++its2.toArray=(its++its2).toArray:=by simp
 rw [ea]
 exact ⟨.ref _,_,I.lnew (t':=s.toks) (r.append r2) (by rw [List.length_append];omega),rfl,q _ I.fresh⟩
end
end L2
namespace L2
open PySem PySem.Spec PyProof.Rows
section
variable {κ:Type} [DecidableEq κ]
noncomputable def valV (kvs:List (κ×V)) (k:κ):Option V:=(kvs.find? fun kv=>decide (kv.1=k)).map (·.2)
noncomputable def putK (kvs:List (κ×V)) (k:κ) (v:V):List (κ×V) :=
 if (kvs.any fun kv=>decide (kv.1=k))=true then kvs.map (fun kv=>if kv.1=k then (kv.1,v) else kv) else kvs++[(k,v)]
noncomputable def dropK (kvs:List (κ×V)) (k:κ):List (κ×V):=kvs.filter fun kv=>decide (kv.1≠k)
theorem valV_nil {k:κ}:valV ([]:List (κ×V)) k=none:=rfl
theorem valV_pos {p:κ×V} {r:List (κ×V)} {k:κ} (e:p.1=k):valV (p::r) k=some p.2:=by simp [valV,List.find?_cons,e]
theorem valV_neg {p:κ×V} {r:List (κ×V)} {k:κ} (e:¬ p.1=k):valV (p::r) k=valV r k:=by simp [valV,List.find?_cons,e]
theorem valV_any (k:κ):∀ kvs:List (κ×V),(kvs.any fun kv=>decide (kv.1=k))=(valV kvs k).isSome
 | []=>rfl
 | p::r=>by
  rw [List.any_cons]
  by_cases e:p.1=k
  ·simp only [valV_pos e,decide_eq_true e,Bool.true_or,Option.isSome_some]
  ·rw [valV_neg e,decide_eq_false e,Bool.false_or];exact valV_any k r
theorem valV_map (k j:κ) (y:V):∀ kvs:List (κ×V),valV (kvs.map fun kv=>if kv.1=k then (kv.1,y) else kv) j=(valV kvs j).map fun x=>if j=k then y else x
 | []=>rfl
 | p::r=>by
  have ih:=valV_map k j y r
  rw [List.map_cons]
  by_cases h:p.1=k
  ·rw [if_pos h]
   by_cases e:p.1=j
   ·rw [valV_pos (p:=(p.1,y)) e,valV_pos e,Option.map_some,if_pos (e.symm.trans h)]
   ·rw [valV_neg (p:=(p.1,y)) e,valV_neg e,ih]
  ·rw [if_neg h]
   by_cases e:p.1=j
   ·rw [valV_pos (p:=p) e,valV_pos e,Option.map_some,if_neg (fun z=>h (e.trans z))]
   ·rw [valV_neg (p:=p) e,valV_neg e,ih]
theorem valV_snoc (k j:κ) (y:V):∀ kvs:List (κ×V),valV kvs k=none→valV (kvs++[(k,y)]) j=if j=k then some y else valV kvs j
 | [],_=>by
  by_cases e:k=j
  ·rw [if_pos e.symm];exact valV_pos (p:=(k,y)) e
  ·rw [if_neg (fun z=>e z.symm)];exact valV_neg (p:=(k,y)) e
 | p::r,hn=>by
  rw [List.cons_append]
  have hk:¬ p.1=k:=fun z=>by rw [valV_pos z] at hn;cases hn
  rw [valV_neg hk] at hn
  have ih:=valV_snoc k j y r hn
  by_cases e:p.1=j
  ·rw [valV_pos e,valV_pos e,if_neg (fun z=>hk (e.trans z))]
  ·rw [valV_neg e,valV_neg e,ih]
theorem valV_put (kvs:List (κ×V)) (k j:κ) (y:V):valV (putK kvs k y) j=if j=k then some y else valV kvs j:=by
 unfold putK
 by_cases a:(kvs.any fun kv=>decide (kv.1=k))=true
 ·rw [if_pos a,valV_map]
  rw [valV_any] at a
  by_cases e:j=k
  ·obtain ⟨x,hx⟩:=Option.isSome_iff_exists.mp a
   rw [if_pos e,e,hx,Option.map_some,if_pos rfl]
  ·rw [if_neg e]
   cases valV kvs j with
   | none=>rfl
   | some x=>rw [Option.map_some,if_neg e]
 ·rw [if_neg a]
  refine valV_snoc k j y kvs ?_
  rw [valV_any] at a
  cases q:valV kvs k with
  | none=>rfl
  | some x=>rw [q] at a;exact (a rfl).elim
theorem length_putK (kvs:List (κ×V)) (k:κ) (v:V):(putK kvs k v).length≤kvs.length+1:=by
 unfold putK
 split
 ·rw [List.length_map];omega
 ·rw [List.length_append,List.length_cons,List.length_nil];omega
theorem putK_new {kvs:List (κ×V)} {k:κ} (v:V) (h:valV kvs k=none):putK kvs k v=kvs++[(k,v)]:=by
 unfold putK
 rw [valV_any,h]
 exact if_neg (by decide)
theorem RelO.isSome_eq {o:Option V} {u:Option Value} (r:RelO o u):o.isSome=u.isSome:=by
 cases o with
 | none=>cases u with
  | none=>rfl
  | some _=>exact (show False from r).elim
 | some _=>cases u with
  | none=>exact (show False from r).elim
  | some _=>rfl
theorem RelO.getD {o:Option V} {u:Option Value} {d:V} {d':Value} (r:RelO o u) (rd:RelV d d'):RelV (o.getD d) (u.getD d'):=by
 cases o with
 | none=>cases u with
  | none=>exact rd
  | some _=>exact (show False from r).elim
 | some _=>cases u with
  | none=>exact (show False from r).elim
  | some _=>exact r
theorem KV.val {kvs:List (κ×V)} {vs:List (κ×Value)} (r:KV kvs vs) (k:κ):RelO (valV kvs k) (valueAt vs k):=by
 unfold KV at r
 induction r with
 | nil=>exact True.intro
 | @cons p q ps qs h t ih =>
  obtain ⟨h1,h2⟩:=h
  by_cases e:p.1=k
  ·have e':q.1=k:=h1.symm.trans e
   have b:valueAt (q::qs) k=some q.2:=by simp [valueAt,List.find?_cons,e']
   rw [valV_pos e,b];exact h2
  ·have e':¬ q.1=k:=fun z=>e (h1.trans z)
   have b:valueAt (q::qs) k=valueAt qs k:=by simp [valueAt,List.find?_cons,e']
   rw [valV_neg e,b];exact ih
theorem KV.any {kvs:List (κ×V)} {vs:List (κ×Value)} (r:KV kvs vs) (k:κ):(kvs.any fun kv=>decide (kv.1=k))=vs.any fun kv=>decide (kv.1=k):=by
 unfold KV at r
 induction r with
 | nil=>rfl
 | cons h t ih=>rw [List.any_cons,List.any_cons,ih,h.1]
theorem KV.repl {kvs:List (κ×V)} {vs:List (κ×Value)} (r:KV kvs vs) (k:κ) {y:V} {u:Value} (ry:RelV y u) : KV (kvs.map fun kv=>if kv.1=k then (kv.1,y) else kv) (vs.map fun kv=>if kv.1=k then (kv.1,u) else kv):=by
 unfold KV at r ⊢
 induction r with
 | nil=>exact .nil
 | @cons p q ps qs h t ih =>
  rw [List.map_cons,List.map_cons]
  refine .cons ?_ ih
  obtain ⟨h1,h2⟩:=h
  by_cases e:p.1=k
  ·rw [if_pos e,if_pos (h1.symm.trans e)];exact ⟨h1,ry⟩
  ·rw [if_neg e,if_neg (fun z=>e (h1.trans z))];exact ⟨h1,h2⟩
theorem KV.put {kvs:List (κ×V)} {vs:List (κ×Value)} (r:KV kvs vs) (k:κ) {y:V} {u:Value} (ry:RelV y u):KV (putK kvs k y) (stored vs k u):=by
 unfold putK stored
 rw [r.any k]
 by_cases e:(vs.any fun kv=>decide (kv.1=k))=true
 ·rw [if_pos e,if_pos e];exact r.repl k ry
 ·rw [if_neg e,if_neg e];exact Paired.snoc r ⟨rfl,ry⟩
theorem KV.drop {kvs:List (κ×V)} {vs:List (κ×Value)} (r:KV kvs vs) (k:κ):KV (dropK kvs k) (without vs k):=by
 unfold KV at r ⊢
 unfold dropK without
 induction r with
 | nil=>exact .nil
 | @cons p q ps qs h t ih =>
  obtain ⟨h1,h2⟩:=h
  rw [List.filter_cons,List.filter_cons]
  by_cases e:p.1=k
  ·have a:¬ decide (p.1≠k)=true:=by simp [e]
   have b:¬ decide (q.1≠k)=true:=by simp [h1.symm.trans e]
   rw [if_neg a,if_neg b];exact ih
  ·have e':¬ q.1=k:=fun z=>e (h1.trans z)
   have a:decide (p.1≠k)=true:=by simp [e]
   have b:decide (q.1≠k)=true:=by simp [e']
   rw [if_pos a,if_pos b];exact .cons ⟨h1,h2⟩ ih
theorem KV.keys {kvs:List (κ×V)} {vs:List (κ×Value)} (r:KV kvs vs):kvs.map (·.1)=vs.map (·.1):=by
 unfold KV at r
 induction r with
 | nil=>rfl
 | cons h t ih=>rw [List.map_cons,List.map_cons,ih,h.1]
theorem KV.length {kvs:List (κ×V)} {vs:List (κ×Value)} (r:KV kvs vs):kvs.length=vs.length:=Paired.length r
theorem dropK_le (kvs:List (κ×V)) (k:κ):(dropK kvs k).length≤kvs.length:=List.length_filter_le _ _
end
theorem kV_is {P:Program} {w:World} {k:Key} {u:Value} (r:RelV (kV k) u):(mixKind P w).is k u=true:=by
 cases k with
 | inl i=>obtain ⟨t,e⟩:=(show ∃ t,u=Value.int i t from r);subst e;exact mixKind_int P w i t
 | inr x=>obtain ⟨t,e⟩:=(show ∃ t,u=Value.str x t from r);subst e;exact mixKind_str P w x t
 | no=>cases (show u=Value.none from r);rfl
theorem items_are {P:Program} {w:World}:∀ {ks:List Key} {us:List Value},Vals (ks.map kV) us→ItemsAre (mixKind P w) ks us
 | [],_,r=>by rw [List.map_nil] at r;cases r;exact .nil
 | k::ks,_,r=>by
  rw [List.map_cons] at r
  cases r with
  | cons h t=>exact .cons (kV_is h) (items_are t)
noncomputable abbrev KT (H:Hp):List (List Key×V)→List (List Key×Addr×Value)→Prop:=Paired fun p q=>p.1=q.1∧H q.2.1=some (.tup (p.1.map kV))∧RelV p.2 q.2.2
theorem KT.val {H:Hp} {kvs:List (List Key×V)} {xs:List (List Key×Addr×Value)} (r:KT H kvs xs) (k:List Key):RelO (valV kvs k) ((atKey xs k).map (·.2)):=by
 induction r with
 | nil=>exact True.intro
 | @cons p q ps qs h t ih =>
  obtain ⟨h1,_,h2⟩:=h
  by_cases e:p.1=k
  ·have e':q.1=k:=h1.symm.trans e
   have b:atKey (q::qs) k=some q.2:=by simp [atKey,List.find?_cons,e']
   rw [valV_pos e,b];exact h2
  ·have e':¬ q.1=k:=fun z=>e (h1.trans z)
   have b:atKey (q::qs) k=atKey qs k:=by simp [atKey,List.find?_cons,e']
   rw [valV_neg e,b];exact ih
theorem KT.repl {H:Hp} {kvs:List (List Key×V)} {xs:List (List Key×Addr×Value)} (r:KT H kvs xs) (k:List Key) {y:V} {u:Value} (ry:RelV y u) : KT H (kvs.map fun kv=>if kv.1=k then (kv.1,y) else kv) (xs.map (putAt k u)):=by
 induction r with
 | nil=>exact .nil
 | @cons p q ps qs h t ih =>
  rw [List.map_cons,List.map_cons]
  refine .cons ?_ ih
  obtain ⟨h1,h2,h3⟩:=h
  unfold putAt
  by_cases e:p.1=k
  ·rw [if_pos e,if_pos (h1.symm.trans e)];exact ⟨h1,h2,ry⟩
  ·rw [if_neg e,if_neg (fun z=>e (h1.trans z))];exact ⟨h1,h2,h3⟩
theorem KT.put {H:Hp} {kvs:List (List Key×V)} {xs:List (List Key×Addr×Value)} (r:KT H kvs xs) (k:List Key) {b:Addr} {y:V} {u:Value} (hb:H b=some (.tup (k.map kV))) (ry:RelV y u) : KT H (putK kvs k y) (storedH xs k b u):=by
 have e:(kvs.any fun kv=>decide (kv.1=k))=(atKey xs k).isSome:=by
  rw [valV_any,(r.val k).isSome_eq,Option.isSome_map]
 unfold putK storedH
 rw [e]
 by_cases q:(atKey xs k).isSome=true
 ·rw [if_pos q,if_pos q];exact r.repl k ry
 ·rw [if_neg q,if_neg q];exact Paired.snoc r ⟨rfl,hb,ry⟩
theorem KT.keeps {H H':Hp} {kvs:List (List Key×V)} {xs:List (List Key×Addr×Value)} (r:KT H kvs xs) (ht:∀ b ys,H b=some (.tup ys)→H' b=some (.tup ys)):KT H' kvs xs :=
 Paired.mapP r fun _ _ z=>⟨z.1,ht _ _ z.2.1,z.2.2⟩
section
variable {P:Program} {w:World} {H:Hp} {h:Heap} {a:Addr}
theorem rd_of {u:HO} (ok:HOk P w H h) (e:Rd H a u):ObjOk P w H h a u:=e.ok ok
theorem dk_rd {kvs:List (Key×V)} (ok:HOk P w H h) (e:Rd H a (.dK kvs)):kvs.length≤sizeLine∧(a == sysModules)=false∧∃ vs,KV kvs vs∧h.DictOf (mixKind P w) a vs :=
 show ObjOk P w H h a (.dK kvs) from rd_of ok e
theorem dk_of {kvs:List (Key×V)} (ok:HOk P w H h) (e:H a=some (.dK kvs)):kvs.length≤sizeLine∧(a == sysModules)=false∧∃ vs,KV kvs vs∧h.DictOf (mixKind P w) a vs:=dk_rd ok (.inl e)
theorem key_of {ks:List Key} (ok:HOk P w H h) (e:H a=some (.tup (ks.map kV))):(tupleKind (mixKind P w)).is h ks a:=by
 obtain ⟨_,its,r,o,h1,h2,n,h3⟩:=(show ObjOk P w H h a (.tup (ks.map kV)) from ok a _ e)
 exact ⟨o,its.toArray,n,h1,h2,h3,by simpa using items_are r⟩
theorem dt_rd {kvs:List (List Key×V)} (ok:HOk P w H h) (e:Rd H a (.dT kvs)):kvs.length≤sizeLine∧(a == sysModules)=false ∧ ∃ xs,KT H kvs xs∧h.DictOfH (tupleKind (mixKind P w)) a xs:=by
 obtain ⟨z,y,xs,r,o,es,ep,h1,h2,h3,h4,h5⟩:=(show ObjOk P w H h a (.dT kvs) from rd_of ok e)
 refine ⟨z,y,xs,r,o,es,ep,h1,h2,h3,h4,fun x hx=>?_,h5⟩
 have all:∀ {l:List (List Key×V)} {m:List (List Key×Addr×Value)},KT H l m→∀ x∈m,(tupleKind (mixKind P w)).is h x.1 x.2.1:=by
  intro l m q
  induction q with
  | nil=>intro x hx;exact nomatch hx
  | @cons p q ps qs hq t ih =>
   intro x hx
   rcases List.mem_cons.mp hx with e | hx
   ·subst e
    exact key_of ok (by rw [← hq.1];exact hq.2.1)
   ·exact ih x hx
 exact all r x hx
theorem dt_of {kvs:List (List Key×V)} (ok:HOk P w H h) (e:H a=some (.dT kvs)):kvs.length≤sizeLine∧(a == sysModules)=false ∧ ∃ xs,KT H kvs xs∧h.DictOfH (tupleKind (mixKind P w)) a xs:=dt_rd ok (.inl e)
end
noncomputable def DGet (H:Hp) (a:Addr) (y:V) (r:Option V):Prop :=
 (∃ kvs k,Rd H a (.dK kvs)∧y=kV k∧r=valV kvs k)∨∃ kvs k b,Rd H a (.dT kvs)∧y=.ref b∧H b=some (.tup (k.map kV))∧r=valV kvs k
noncomputable def DPut (H:Hp) (a:Addr) (y v:V) (H':Hp):Prop :=
 (∃ kvs k,H a=some (.dK kvs)∧y=kV k∧kvs.length < sizeLine∧H'=upd H a (.dK (putK kvs k v))) ∨
 ∃ kvs k b,H a=some (.dT kvs)∧y=.ref b∧H b=some (.tup (k.map kV))∧kvs.length < sizeLine∧H'=upd H a (.dT (putK kvs k v))
theorem DGet.k {H:Hp} {a:Addr} {kvs:List (Key×V)} {k:Key} (e:H a=some (.dK kvs)):DGet H a (kV k) (valV kvs k):=.inl ⟨kvs,k,.inl e,rfl,rfl⟩
theorem DGet.t {H:Hp} {a b:Addr} {kvs:List (List Key×V)} {k:List Key} (e:H a=some (.dT kvs)) (eb:H b=some (.tup (k.map kV))):DGet H a (.ref b) (valV kvs k):=.inr ⟨kvs,k,b,.inl e,rfl,eb,rfl⟩
theorem DPut.k {H:Hp} {a:Addr} {kvs:List (Key×V)} {k:Key} {v:V} (e:H a=some (.dK kvs)) (hl:kvs.length < sizeLine):DPut H a (kV k) v (upd H a (.dK (putK kvs k v))):=.inl ⟨kvs,k,e,rfl,hl,rfl⟩
theorem DPut.t {H:Hp} {a b:Addr} {kvs:List (List Key×V)} {k:List Key} {v:V} (e:H a=some (.dT kvs)) (eb:H b=some (.tup (k.map kV))) (hl:kvs.length < sizeLine) : DPut H a (.ref b) v (upd H a (.dT (putK kvs k v))):=.inr ⟨kvs,k,b,e,rfl,eb,hl,rfl⟩
section
variable {X:Cx} {pins:List (Addr×Obj)} {σ:St} {H:Hp} {s:Shared} {a:Addr} {y v:V} {u r:Value} {o:Option V} {A:Around} {E:Value→Shared→Prop}
theorem Inv.big (I:Inv X pins σ H s):sysModules < s.heap.objs.size:=by
 have h:mainGlobals < s.heap.objs.size:=(I.mod.glob.keeps I.bk).lt
 exact Nat.lt_trans (by decide) h
theorem d_getItem {Q:Value→Shared→Prop} (hu:A.units+1 < cLine) (I:Inv X pins σ H s) (g:DGet H a y (some v)) (ry:RelV y u) (h:∀ w' s',Inv X pins σ H s'→RelV v w'→Q w' s') : wpAny (model X.prog X.w) A (getItem (.ref a) u) Q E s:=by
 rcases g with ⟨kvs,k,e,ey,l⟩ | ⟨kvs,k,b,e,ey,eb,l⟩
 ·subst ey
  obtain ⟨z,hd,vs,rel,dd⟩:=dk_rd I.hok e
  obtain ⟨w',hw,rw'⟩:=RelO.some_of (v:=v) (o:=valueAt vs k) (by rw [l];exact rel.val k)
  exact wpAny_getItem_of (kV_is ry) dd.mapOf hw (h w' _ (I.tok _) rw')
 ·subst ey
  cases (show u=Value.ref b from ry)
  obtain ⟨z,hd,xs,rel,dd⟩:=dt_rd I.hok e
  obtain ⟨w',hw,rw'⟩:=RelO.some_of (v:=v) (o:=(atKey xs k).map (·.2)) (by rw [l];exact rel.val k)
  obtain ⟨p,hp,hp2⟩:=Option.map_eq_some_iff.mp hw
  refine wpAny_getItem_heap (tupleKind_room_in1 hu) (key_of I.hok eb) dd hp ?_
  rw [hp2]
  exact h w' _ (I.tok _) rw'
theorem d_in {Q:Value→Shared→Prop} (hu:A.units+1 < cLine) (I:Inv X pins σ H s) (g:DGet H a y o) (ry:RelV y u) (h:∀ s',Inv X pins σ H s'→Q (.bool o.isSome) s') : wpAny (model X.prog X.w) A (compareOp .In u (.ref a)) Q E s:=by
 rcases g with ⟨kvs,k,e,ey,l⟩ | ⟨kvs,k,b,e,ey,eb,l⟩
 ·subst ey
  obtain ⟨z,hd,vs,rel,dd⟩:=dk_rd I.hok e
  refine wpAny_in_of (kV_is ry) hd dd.mapOf ?_
  rw [← (rel.val k).isSome_eq,← l]
  exact h _ (I.tok _)
 ·subst ey
  cases (show u=Value.ref b from ry)
  obtain ⟨z,hd,xs,rel,dd⟩:=dt_rd I.hok e
  refine wpAny_in_heap (tupleKind_room_in1 hu) (key_of I.hok eb) hd dd ?_
  have q:=(rel.val k).isSome_eq
  rw [Option.isSome_map] at q
  rw [← q,← l]
  exact h _ (I.tok _)
theorem d_write {h':Heap} {t':Nat} {ob:HO} (I:Inv X pins σ H s) (mu:Mut (H a)) (hs:Heap.SameBut a s.heap h') (he:∃ q,h'.get? a=some q) (new:ObjOk X.prog X.w (upd H a ob) h' a ob) : Inv X pins σ (upd H a ob) {s with heap:=h',toks:=t'} :=
 I.write (x:=a) (e:=a) mu (.inl rfl) (fun b q hb z=>(hs.2 b hb).trans z) he new
theorem dk_new {P:Program} {w:World} {H':Hp} {h':Heap} {kvs:List (Key×V)} {vs:List (Key×Value)} (z:kvs.length≤sizeLine) (hd:(a == sysModules)=false) (rel:KV kvs vs) (dd:h'.DictOf (mixKind P w) a vs) : ObjOk P w H' h' a (.dK kvs):=⟨z,hd,vs,rel,dd⟩
theorem d_setItem {H':Hp} {Q:Unit→Shared→Prop} (hu:A.units+1 < cLine) (I:Inv X pins σ H s) (g:DPut H a y v H') (ry:RelV y u) (rv:RelV v r) (h:∀ s',Inv X pins σ H' s'→Q () s') : wpAny (model X.prog X.w) A (setItem (.ref a) u r) Q E s:=by
 rcases g with ⟨kvs,k,e,ey,l,eH⟩ | ⟨kvs,k,b,e,ey,eb,l,eH⟩
 ·subst ey eH
  obtain ⟨z,hd,vs,rel,dd⟩:=dk_of I.hok e
  have hz:vs.length≤sizeLine:=by rw [← rel.length];exact z
  have hl:(putK kvs k v).length≤sizeLine:=by have:=length_putK kvs k v;omega
  refine wpAny_setItem_pairs (hsz:=hz) (kV_is ry) dd fun h' dd' hs=>h _ ?_
  have he:∃ q,h'.get? a=some q:=let ⟨q,_,_,hq,_⟩:=dd';⟨q,hq⟩
  exact d_write I (by rw [e];exact True.intro) hs he (dk_new hl hd (rel.put k rv) dd')
 ·subst ey eH
  cases (show u=Value.ref b from ry)
  obtain ⟨z,hd,xs,rel,dd⟩:=dt_of I.hok e
  have hz:xs.length≤sizeLine:=by rw [← Paired.length rel];exact z
  have hl:(putK kvs k v).length≤sizeLine:=by have:=length_putK kvs k v;omega
  refine wpAny_setItem_heap (hsz:=hz) (tupleKind_room_in1 hu) (key_of I.hok eb) dd fun h' dd' hs=>h _ ?_
  obtain ⟨q,es,ep,hq,h2,h3,h4,_,h5⟩:=dd'
  refine d_write I (by rw [e];exact True.intro) hs ⟨q,hq⟩ ⟨hl,hd,_,(rel.put k eb rv).keeps fun c ys ec=>?_,q,es,ep,hq,h2,h3,h4,h5⟩
  rw [upd_ne (ne_of ec e (fun z=>nomatch z))]
  exact ec
end
section
variable {X:Cx} {pins:List (Addr×Obj)} {σ:St} {H:Hp} {s:Shared} {a:Addr} {kvs:List (Key×V)} {k:Key} {u:Value} {A:Around} {E:Value→Shared→Prop}
theorem d_pop {v:V} {more:List Value} {Q:Value→Shared→Prop} (I:Inv X pins σ H s) (e:H a=some (.dK kvs)) (ry:RelV (kV k) u) (l:valV kvs k=some v) (hm:more=[]∨∃ x,more=[x]) (h:∀ w' s',Inv X pins σ (upd H a (.dK (dropK kvs k))) s'→RelV v w'→Q w' s'):wpAny (model X.prog X.w) A (call (.builtin "dict.pop") (.ref a::u::more)) Q E s:=by
 obtain ⟨z,hd,vs,rel,dd⟩:=dk_of I.hok e
 obtain ⟨w',hw,rw'⟩:=RelO.some_of (v:=v) (o:=valueAt vs k) (by rw [← l];exact rel.val k)
 have hp:(keyPart u).isSome=true:=by
  cases k with
  | inl i=>obtain ⟨t,q⟩:=(show ∃ t,u=Value.int i t from ry);subst q;rfl
  | inr x=>obtain ⟨t,q⟩:=(show ∃ t,u=Value.str x t from ry);subst q;rfl
  | no=>cases (show u=Value.none from ry);rfl
 have ha:argsOk "dict.pop" ⟨.ref a::u::more,[]⟩:=by
  rcases hm with q | ⟨x,q⟩
  ·subst q;exact PySem.F.args_dict_pop_2 _ _
  ·subst q;exact PySem.F.args_dict_pop_3 _ _ _
 refine call_meetsIn PySem.F.slot_dict_pop dd.typeIs PySem.F.entry_dict_pop ha (meets_dict_pop_there (mixKind X.prog X.w) a (kV_is ry) more hm hp)
  ⟨vs,w',dd,by rw [← rel.length];exact z,hw,fun h' dd' hs=>h w' _ ?_ rw'⟩
 have he:∃ q,h'.get? a=some q:=let ⟨q,_,_,hq,_⟩:=dd';⟨q,hq⟩
 exact d_write I (by rw [e];exact True.intro) hs he (dk_new (Nat.le_trans (dropK_le kvs k) z) hd (rel.drop k) dd')
end
noncomputable def NoSl (i:Expr):Prop:=∀ ov iv,subscripted i false ov iv=operate [ov,iv] (getItem ov iv)
theorem subD_of {prog:Program} {w:World} {A:Around} {E:Value→Shared→Prop} {s:Shared} {env:Env} {value slice:Expr} {pos:Pos} {T id:String} {Q:Value→Shared→Prop} (hl:typeLookup (.type T) "__getitem__"=pure (some (.builtin id))) (hs:NoSl slice) (h:wpAny (model prog w) A (eval value env) (fun o s₁=>wpAny (model prog w) A (eval slice env) (fun i s₂=>s₂.TypeIs o T∧wpAny (model prog w) A (getItem o i) Q E s₂) E s₁) E s) : wpAny (model prog w) A (eval (.Subscript value slice pos) env) Q E s:=by
 refine Subscript_ (wpAny_mono h (fun o s₁ h₁=>wpAny_mono h₁ (fun i s₂ h₂=>?_) fun _ _ x=>x) fun _ _ x=>x)
 obtain ⟨hT,h₂⟩:=h₂
 unfold subscriptTail
 refine wpAny_bind ?_
 rw [getitemInPython_of_ne hT.not_modules]
 refine wpAny_bind (wpAny_specialOf hT hl ?_)
 have fin:wpAny (model prog w) A (subscripted slice false o i) (fun r s₃=>wpAny (model prog w) A (letTemporaryGo value o r >>= fun _=>pure r) Q E s₃) E s₂:=by
  rw [hs o i]
  exact wpAny_operating (wpAny_mono h₂ (fun r s₃ h₃=>wpAny_bind (wpAny_letTemporaryGo (wpAny_pure h₃))) fun _ _ x=>x)
 first
  | exact wpAny_pure (wpAny_bind fin)
  | exact wpAny_bind (wpAny_pure (wpAny_bind fin))
  | exact wpAny_bind fin
theorem dict_typeIs {X:Cx} {pins:List (Addr×Obj)} {σ:St} {H:Hp} {s:Shared} {a:Addr} {y:V} {o:Option V} (I:Inv X pins σ H s) (g:DGet H a y o):s.TypeIs (.ref a) "dict":=by
 rcases g with ⟨kvs,k,e,_,_⟩ | ⟨kvs,k,b,e,_,_,_⟩
 ·obtain ⟨_,_,vs,_,dd⟩:=dk_rd I.hok e
  exact dd.typeIs
 ·obtain ⟨_,_,xs,_,dd⟩:=dt_rd I.hok e
  exact dd.typeIs
noncomputable def tDGet (td ty:TE):TE:=fun σ H Q=>td σ H fun x H1=>ty σ H1 fun y H2=>∃ a v,x=.ref a∧DGet H2 a y (some v)∧Q v H2
noncomputable def tDIn (ty td:TE):TE:=fun σ H Q=>ty σ H fun y H1=>td σ H1 fun x H2=>∃ a o,x=.ref a∧DGet H2 a y o∧Q (.bl o.isSome) H2
noncomputable def tDNotIn (ty td:TE):TE:=fun σ H Q=>ty σ H fun y H1=>td σ H1 fun x H2=>∃ a o,x=.ref a∧DGet H2 a y o∧Q (.bl (!o.isSome)) H2
noncomputable def sDPut (td ty tv:TE):TS:=fun D σ H=>tv σ H fun v H1=>td σ H1 fun x H2=>ty σ H2 fun y H3=>∃ a H4,x=.ref a∧DPut H3 a y v H4∧D.nx σ H4
section
variable {X:Cx} {o i e value:Expr} {pos pos' tpos:Pos} {td ty tv:TE}
end
theorem dk_empty {P:Program} {w:World} {H:Hp} (h:Heap) (hb:sysModules < h.objs.size):ObjOk P w H (h.push {cls:=.type "dict",data:=.dict #[]}) h.objs.size (.dK []) :=
 ⟨Nat.zero_le _,beq_eq_false_iff_ne.mpr (Ne.symm (Nat.ne_of_lt hb)),[],.nil,Heap.DictOf.new h⟩
noncomputable def tDNewK:TE:=fun _ H Q=>∀ p,H p=none→Q (.ref p) (upd H p (.dK []))
noncomputable def tDNewT:TE:=fun _ H Q=>∀ p,H p=none→Q (.ref p) (upd H p (.dT []))
section
variable {X:Cx} {pos:Pos}
theorem pe_dnewK:PE X (.Dict [] [] pos) tDNewK:=fun pins s σ H Q I h =>
 wpAny_Dict_empty ⟨.ref s.heap.objs.size,_,I.laid (a:=s.heap.objs.size) (o:=.dK []) (t':=s.toks) (fun _ _ q=>Heap.get?_push_of_some _ q) (Nat.le_refl _) (dk_empty s.heap I.big),rfl,h _ (I.hok.fresh (Nat.le_refl _))⟩
end
noncomputable def tPairs:List (TE×TE)→St→Hp→(List (V×V)→Hp→Prop)→Prop
 | [],_,H,Q=>Q [] H
 | (tk,tv)::r,σ,H,Q=>tk σ H fun x H1=>tv σ H1 fun y H2=>tPairs r σ H2 fun ps H3=>Q ((x,y)::ps) H3
noncomputable abbrev VV:List (V×V)→List (Value×Value)→Prop:=Paired fun p q=>RelV p.1 q.1∧RelV p.2 q.2
noncomputable def PPs (X:Cx) (pos:Pos) (keys:List (Option Expr)) (values:List Expr) (trs:List (TE×TE)):Prop :=
 ∀(pins:List (Addr×Obj)) (s:Shared) (σ:St) (H:Hp) (Q:List (V×V)→Hp→Prop),Inv X pins σ H s→tPairs trs σ H Q →
  wpAny (model X.prog X.w) X.A (evalPairs (pairTrees keys values X.env pos)) (fun vs s'=>∃ ps H',Inv X pins σ H' s'∧VV ps vs∧Q ps H') X.xe s
theorem pps_nil {X:Cx} {pos:Pos}:PPs X pos [] [] []:=fun pins s σ H Q I h=>pairTrees_nil_walk ⟨[],H,I,.nil,h⟩
theorem pps_cons {X:Cx} {pos:Pos} {k v:Expr} {ks:List (Option Expr)} {vs:List Expr} {tk tv:TE} {trs:List (TE×TE)} (hk:PE X k tk) (hv:PE X v tv) (hr:PPs X pos ks vs trs) : PPs X pos (some k::ks) (v::vs) ((tk,tv)::trs):=fun pins s σ H Q I h =>
 pairTrees_cons_walk (thn (hk pins s σ H _ I h) fun u s1 ⟨x,H1,I1,rx,q1⟩=>thn (hv pins s1 σ H1 _ I1 q1) fun w2 s2 ⟨y,H2,I2,ry,q2⟩ =>
  thn (hr pins s2 σ H2 _ I2 q2) fun ws s3 ⟨ps,H3,I3,rel,q3⟩=>⟨(x,y)::ps,H3,I3,.cons ⟨rx,ry⟩ rel,q3⟩)
noncomputable def mergeK (kvs more:List (Key×V)):List (Key×V):=more.foldl (fun acc kv=>putK acc kv.1 kv.2) kvs
theorem KV.merge:∀ {more:List (Key×V)} {rs:List (Key×Value)} {kvs:List (Key×V)} {vs:List (Key×Value)},KV more rs→KV kvs vs→KV (mergeK kvs more) (merged vs rs):=by
 intro more rs kvs vs r
 unfold KV at r
 induction r generalizing kvs vs with
 | nil=>intro q;exact q
 | @cons p q ps qs h t ih =>
  intro r0
  have e:KV (putK kvs p.1 p.2) (stored vs q.1 q.2):=by
   have:=r0.put p.1 h.2
   rw [← h.1];exact this
  exact ih e
theorem length_mergeK:∀(more kvs:List (Key×V)),(mergeK kvs more).length≤kvs.length+more.length
 | [],kvs=>by show kvs.length≤kvs.length+0;omega
 | p::r,kvs=>by
  have h1:=length_mergeK r (putK kvs p.1 p.2)
  have h2:=length_putK kvs p.1 p.2
  show (mergeK (putK kvs p.1 p.2) r).length≤_
  rw [List.length_cons];omega
theorem carries_of {P:Program} {w:World}:∀ {kvs:List (Key×V)} {ws:List (Value×Value)},VV (kvs.map fun kv=>(kV kv.1,kv.2)) ws→∃ rs,Carries (mixKind P w) ws rs∧KV kvs rs
 | [],_,r=>by rw [List.map_nil] at r;cases r;exact ⟨[],True.intro,.nil⟩
 | p::kvs,_,r=>by
  rw [List.map_cons] at r
  cases r with
  | @cons a b as bs h t =>
   obtain ⟨rs,c,q⟩:=carries_of (P:=P) (w:=w) t
   obtain ⟨b1,b2⟩:=b
   exact ⟨(p.1,b2)::rs,⟨kV_is h.1,rfl,c⟩,.cons ⟨rfl,h.2⟩ q⟩
noncomputable def tDisp (trs:List (TE×TE)):TE:=fun σ H Q=>∀ p,H p=none→tPairs trs σ (upd H p (.dK [])) fun ps H2=>H2 p=some (.dK [])∧∃ kvs:List (Key×V),ps=kvs.map (fun kv=>(kV kv.1,kv.2))∧kvs.length≤15∧Q (.ref p) (upd H2 p (.dK (mergeK [] kvs)))
theorem pe_disp {X:Cx} {pos:Pos} {keys:List (Option Expr)} {values:List Expr} {trs:List (TE×TE)} (h:PPs X pos keys values trs) (hall:keys.all (·.isSome)=true) (hl:keys.length=values.length) (h0:keys≠[]) (h15:keys.length≤15):PE X (.Dict keys values pos) (tDisp trs):=by
 intro pins s σ H Q I q
 have hn:=I.hok.fresh (Nat.le_refl s.heap.objs.size)
 have I1:=I.laid (a:=s.heap.objs.size) (o:=.dK []) (h':=s.heap.push {cls:=.type "dict",data:=.dict #[]}) (t':=s.toks) (fun _ _ q=>Heap.get?_push_of_some _ q) (Nat.le_refl _) (dk_empty s.heap I.big)
 refine wpAny_Dict_walk (knd:=mixKind X.prog X.w) hall hl h0 h15 (thn (h pins _ σ _ _ I1 (q _ hn)) fun ws s2 ⟨ps,H2,I2,rel,e,kvs,ep,lk,q2⟩=>?_)
 subst ep
 obtain ⟨rs,c,rk⟩:=carries_of (P:=X.prog) (w:=X.w) rel
 obtain ⟨z,hd,vs0,r0,dd⟩:=dk_of I2.hok e
 cases r0
 refine ⟨rs,c,dd,fun h' dd' hs=>⟨.ref s.heap.objs.size,_,?_,rfl,q2⟩⟩
 have hz:(mergeK [] kvs).length≤sizeLine:=by
  have h1:=length_mergeK kvs []
  rw [List.length_nil] at h1
  rw [sizeLine_eq];omega
 have he:∃ q,h'.get? s.heap.objs.size=some q:=let ⟨q,_,_,hq,_⟩:=dd';⟨q,hq⟩
 exact d_write I2 (by rw [e];exact True.intro) hs he (dk_new hz hd (rk.merge .nil) dd')
structure M1 (X:Cx) (o:Expr) (m:Str) (apos:Pos) (e:Expr) (cpos:Pos):Prop where
 base:attributeBase o m X.env (eval o X.env)=eval o X.env
 few:((backTo cpos (starEach [e] X.env)).all (fun x=>!x.1) && (backToKw cpos (keywordEach [] X.env)).all (fun x=>x.1.isSome)
  && decide (([e]:List Expr).length+([]:List Keyword).length+(if ([]:List Keyword).isEmpty then 0 else 1) < 30))=true
 line:(apos.endLine == cpos.line)=true
 trees:backTo cpos (starEach [e] X.env)=[(false,eval e X.env)]
structure M2 (X:Cx) (o:Expr) (m:Str) (apos:Pos) (e f:Expr) (cpos:Pos):Prop where
 base:attributeBase o m X.env (eval o X.env)=eval o X.env
 few:((backTo cpos (starEach [e,f] X.env)).all (fun x=>!x.1) && (backToKw cpos (keywordEach [] X.env)).all (fun x=>x.1.isSome)
  && decide (([e,f]:List Expr).length+([]:List Keyword).length+(if ([]:List Keyword).isEmpty then 0 else 1) < 30))=true
 line:(apos.endLine == cpos.line)=true
 trees:backTo cpos (starEach [e,f] X.env)=[(false,eval e X.env),(false,eval f X.env)]
noncomputable def IsD (H:Hp) (a:Addr):Prop:=(∃ kvs,Rd H a (.dK kvs))∨∃ kvs,Rd H a (.dT kvs)
theorem isD_at {X:Cx} {pins:List (Addr×Obj)} {σ:St} {H:Hp} {s:Shared} {a:Addr} (I:Inv X pins σ H s) (d:IsD H a) : s.TypeIs (.ref a) "dict"∧(∀ b,Value.ref a=.ref b→∃ ob,s.heap.get? b=some ob∧ob.dict=none)∧(a == sysModules)=false:=by
 rcases d with ⟨kvs,e⟩ | ⟨kvs,e⟩
 ·obtain ⟨_,hd,vs,_,dd⟩:=dk_rd I.hok e
  refine ⟨dd.typeIs,fun b q=>?_,hd⟩
  cases q
  obtain ⟨ob,_,_,h1,h2,_⟩:=dd
  exact ⟨ob,h1,h2.2.1⟩
 ·obtain ⟨_,hd,xs,_,dd⟩:=dt_rd I.hok e
  refine ⟨dd.typeIs,fun b q=>?_,hd⟩
  cases q
  obtain ⟨ob,_,_,h1,h2,_⟩:=dd
  exact ⟨ob,h1,h2.2.1⟩
section
variable {X:Cx} {pins:List (Addr×Obj)} {σ:St} {H:Hp} {s:Shared} {a:Addr} {y d:V} {u r:Value} {o:Option V} {A:Around} {E:Value→Shared→Prop}
theorem d_get1 {Q:Value→Shared→Prop} (hu:A.units+1 < cLine) (I:Inv X pins σ H s) (g:DGet H a y o) (ry:RelV y u) (h:∀ w' s',Inv X pins σ H s'→RelV (o.getD .non) w'→Q w' s') : wpAny (model X.prog X.w) A (call (.builtin "dict.get") [.ref a,u]) Q E s:=by
 rcases g with ⟨kvs,k,e,ey,l⟩ | ⟨kvs,k,b,e,ey,eb,l⟩
 ·subst ey
  obtain ⟨z,hd,vs,rel,dd⟩:=dk_rd I.hok e
  refine call_meetsIn PySem.F.slot_dict_get dd.typeIs PySem.F.entry_dict_get (PySem.F.args_dict_get_2 _ _) (meets_dict_get (mixKind X.prog X.w) a (kV_is ry) hd) ⟨_,dd.mapOf,h _ _ (I.tok _) ?_⟩
  rw [l]
  exact (rel.val k).getD rfl
 ·subst ey
  cases (show u=Value.ref b from ry)
  obtain ⟨z,hd,xs,rel,dd⟩:=dt_rd I.hok e
  refine call_meetsIn PySem.F.slot_dict_get dd.typeIs PySem.F.entry_dict_get (PySem.F.args_dict_get_2 _ _) (meetsH_dict_get (tupleKind (mixKind X.prog X.w)) a b hd) ⟨tupleKind_room_in1 hu,k,xs,key_of I.hok eb,dd,h _ _ (I.tok _) ?_⟩
  rw [l]
  exact (rel.val k).getD rfl
theorem d_get2 {Q:Value→Shared→Prop} (hu:A.units+1 < cLine) (I:Inv X pins σ H s) (g:DGet H a y o) (ry:RelV y u) (rd:RelV d r) (h:∀ w' s',Inv X pins σ H s'→RelV (o.getD d) w'→Q w' s') : wpAny (model X.prog X.w) A (call (.builtin "dict.get") [.ref a,u,r]) Q E s:=by
 rcases g with ⟨kvs,k,e,ey,l⟩ | ⟨kvs,k,b,e,ey,eb,l⟩
 ·subst ey
  obtain ⟨z,hd,vs,rel,dd⟩:=dk_rd I.hok e
  refine call_meetsIn PySem.F.slot_dict_get dd.typeIs PySem.F.entry_dict_get (PySem.F.args_dict_get_3 _ _ _) (meets_dict_get_default (mixKind X.prog X.w) a (kV_is ry) hd r) ⟨_,dd.mapOf,h _ _ (I.tok _) ?_⟩
  rw [l]
  exact (rel.val k).getD rd
 ·subst ey
  cases (show u=Value.ref b from ry)
  obtain ⟨z,hd,xs,rel,dd⟩:=dt_rd I.hok e
  refine call_meetsIn PySem.F.slot_dict_get dd.typeIs PySem.F.entry_dict_get (PySem.F.args_dict_get_3 _ _ _) (meetsH_dict_get_default (tupleKind (mixKind X.prog X.w)) a b hd r) ⟨tupleKind_room_in1 hu,k,xs,key_of I.hok eb,dd,h _ _ (I.tok _) ?_⟩
  rw [l]
  exact (rel.val k).getD rd
end
noncomputable def tDGet1 (td ty:TE):TE:=fun σ H Q=>td σ H fun x H1=>∃ a,x=.ref a∧IsD H1 a∧ty σ H1 fun y H2=>∃ o,DGet H2 a y o∧Q (o.getD .non) H2
noncomputable def tDPop2 (td ty tx:TE):TE:=fun σ H Q=>td σ H fun x H1=>∃ a,x=.ref a∧IsD H1 a∧ty σ H1 fun y H2=>tx σ H2 fun z H3=>∃ kvs k,H3 a=some (.dK kvs)∧y=kV k ∧
 (∀ v,valV kvs k=some v→Q v (upd H3 a (.dK (dropK kvs k))))∧(valV kvs k=none→Q z H3)
section
variable {X:Cx} {o e f:Expr} {apos cpos:Pos} {td ty tx:TE}
end
section
variable {X:Cx} {pins:List (Addr×Obj)} {σ:St} {H:Hp} {s:Shared} {a:Addr} {kvs:List (Key×V)} {A:Around} {E:Value→Shared→Prop}
end
section
variable {X:Cx} {pins:List (Addr×Obj)} {σ:St} {H:Hp} {s:Shared} {a:Addr} {y:V} {u:Value} {A:Around} {E:Value→Shared→Prop}
end
end L2
namespace Att
open PySem PySem.W PySem.Calls PyProof.Rows
theorem ints_of_wellAll {P:Params} {h:Heap}:∀(ns:List Int) (vs:List Value),WellAll P h vs (ns.map WData.int)→IntsAre vs ns:=by
 intro ns
 induction ns with
 | nil =>
  intro vs w
  rw [List.map_nil] at w
  cases w
  exact .nil
 | cons n ns ih =>
  intro vs w
  rw [List.map_cons] at w
  cases w with
  | cons a b =>
   cases a
   exact .cons _ _ (ih _ b)
theorem script_of {l:OpenLaw} {n:Nat} (hn:l.most=some n) {P:Params} {h:Heap} {args:List WData} {vals:List Value} (hpre:l.row.toRowW.claim.pre args=true) (hwl:WellAll P h vals args) : ∃ a vs ns,vals=[Value.ref a]∧args=[WData.list (ns.map WData.int)]∧h.get? a=some {cls:=.type "list",data:=.seq vs.toArray}∧IntsAre vs ns∧ns.length≤n:=by
 have hsh:WShape.hasAll [] args [.list .int]=true:=(pre_splitW hpre).1
 have hc:l.pre.holds [] {args:=args}=true:=(pre_splitW hpre).2
 obtain ⟨d,r,rfl,h1,h2⟩:=hasAllW_cons hsh
 obtain rfl:=hasAllW_nil h2
 obtain ⟨xs,rfl,h3⟩:=hasW_list h1
 obtain ⟨ns,rfl⟩:=items_int h3
 have hlen:ns.length≤n:=by
  unfold OpenLaw.pre at hc
  have h4:(WTm.not (.lt (.lit (.int (n:Int))) (.len (.arg 0)))).holds [] {args:=[.list (ns.map .int)]}=true:=by
   have h4:=(holds_andW hc).1
   rw [hn] at h4
   exact h4
  have h5:=condW_of h4 (w_not (w_lt w_lit (w_len_list (w_arg rfl))))
  rw [List.length_map] at h5
  refine Nat.le_of_not_lt fun q=>?_
  have q':(n:Int) < ((ns.length:Nat):Int):=by omega
  first
   | (rw [decide_eq_true q'] at h5;exact absurd h5 (by decide))
   | (simp at h5;omega)
 cases hwl with
 | cons w1 w2 =>
  cases w2
  cases w1 with
  | list ho hall=>exact ⟨_,_,ns,rfl,rfl,ho,ints_of_wellAll ns _ hall,hlen⟩
theorem post_true (l:OpenLaw) (args:List WData):l.row.toRowW.claim.post args (.bool true) args=true :=
 postW_of (r:=l.row.toRowW) (X:=(true == true))
  (show WShape.has [] (.bool true) .bool=true by first | rfl | decide | simp [WShape.has,WShape.arms,WShape.armsAll])
  (show (WTm.eq .res (.lit (.bool true))).value [] {args:=args,res:=some (.bool true),after:=args}=some (.bool (true == true)) from w_eq_bool (w_res rfl) w_lit) rfl
theorem attach_call {l:OpenLaw} {n:Nat} {q:Program} {loose:List Str} {XP:(Str→Option Value)→Heap→Prop} {YP:World→Heap→Prop} {d:DefRec} (hn:l.most=some n) (hdf:d.params.defaults=[]) (call:∀(w:World) (s₀ s₁:Shared) (mg mb:Str→Option Value) (fa:Addr) (o:Obj) (pm cd doc:Value) (a:Addr) (vs:List Value) (ns:List Int), Ground q loose [] XP w s₀ mg mb s₁.heap→YP w s₁.heap → s₁.heap.get? fa=some o→o.data=.func (docDef d.name d.params d.body d.scope pm cd doc)→s₁.heap.CodeRec cd d.name→mg d.name=some (.ref fa) → s₁.heap.get? a=some {cls:=.type "list",data:=.seq vs.toArray}→IntsAre vs ns→ns.length≤n→s₁.gens = #[] → codeAny (model l.prog w) callerA (.call (.ref fa) ⟨[.ref a],[]⟩) (fun r s'=>r=.ok (.ret (.bool true))∧OldK s₁.heap s'.heap∧s'.os=s₁.os∧AllBare s'.gens) s₁) : WalkO q loose XP YP l.row.toRowW d [] (fun f vs=>PySem.call f vs):=by
 intro w s₀ s₁ mg mb G Y fa o pm cd doc dV kV ho hd hcd hD hmg hg args vals as hpre hlay hrd hwl hlo
 obtain rfl:dV=.none:=Dflts.none hD hdf
 obtain rfl:kV=.none:=Dflts.noKw hD
 obtain ⟨a,vs,ns,rfl,rfl,hobj,hints,hlen⟩:=script_of hn hpre hwl
 refine enter_call (codeAny_mono (call w s₀ s₁ mg mb fa o pm cd doc a vs ns G Y ho (fd_plain hd) hcd hmg hobj hints hlen hg) fun r s' hq=>?_)
 obtain ⟨rfl,h2,h3,h4⟩:=hq
 exact ⟨.inl ⟨.bool true,.bool true,[],rfl,fun _=>rfl,.bool true,post_true l _,fun _=>⟨List.Pairwise.nil,fun _ hm=>(nomatch hm)⟩⟩,h2,h3,h4⟩
section
variable {prog:Program} {w:World} {A:Around} {E:Value→Shared→Prop} {s:Shared} {K:Frag}
noncomputable def ledger (h:Heap) (L d:Addr):List (Addr×Obj):=(List.range h.objs.size).filterMap fun a=>if a=L∨a=d then none else (h.get? a).map fun o=>(a,o)
end
end Att
namespace L2
open PySem PySem.Spec PyProof.Rows
theorem vals_ints:∀ {vs:List Value} {ns:List Int},IntsAre vs ns→Vals (ns.map V.int) vs
 | _,_,.nil=>.nil
 | _,_,.cons n t h=>.cons ⟨t,rfl⟩ (vals_ints h)
noncomputable def Only (H:Hp):Prop:=∀ b,H b=none∨∃ o xs,H b=some (.frz o (.lst xs))
theorem law_call {P:Program} {w:World} {K:PySem.W.Frag} {mg mb:Str→Option Value} {CX:CXT} {k:Nat} {fa a:Addr} {fd:FuncData} {x:Str} {sp:Sp} {s₁:Shared} {vs:List Value} {ns:List Int} (KX:K.In s₁.heap) (hns:s₁.heap.Ns mainGlobals mg) (hb:s₁.heap.Ns builtinsNs mb) (hbb:∀ x:Str,x≠"__name__"→mb x=bootBuiltins x) (hlim:s₁.heap.NoLimit) (hg:s₁.gens = #[]) (ha:s₁.heap.get? a=some {cls:=.type "list",data:=.seq vs.toArray}) (hi:IntsAre vs ns) (hl:ns.length≤sizeLine) (hr:Room k callerA) (F:∀ base:Heap,K.In base→base.Ns mainGlobals mg→FnOk P w K mg base CX k fa fd [x] sp) (hbind:∀(s:Shared) (u:Value),BindsTo s fd ⟨[u],[]⟩ [(x,u)]) (hsp:∀ H:Hp,Only H→SqL K H a (ns.map V.int)→sp [.ref a] H (fun v _=>v=.bl true) fun _ _ _=>False) (hCX:∀ H e s',CX [] H s₁ (fun _ _ _=>False) e s'→False) : codeAny (model P w) callerA (.call (.ref fa) ⟨[.ref a],[]⟩) (fun r s'=>r=.ok (.ret (.bool true))∧OldK s₁.heap s'.heap∧s'.os=s₁.os∧AllBare s'.gens) s₁:=by
  have rv:=vals_ints hi
  have lenV:=hi.length
  have core:∀ H:Hp,Only H→SqL K H a (ns.map V.int)→HOk P w H s₁.heap→(∀ b,H b≠none→b=a)→(H a≠none→K.lookup a=none) →
      codeAny (model P w) callerA (.call (.ref fa) ⟨[.ref a],[]⟩) (fun r s'=>r=.ok (.ret (.bool true))∧OldK s₁.heap s'.heap∧s'.os=s₁.os∧AllBare s'.gens) s₁:=by
    intro H hO hS hok hA hK
    have base_of:∀ {b:Addr} {o:Obj},s₁.heap.get? b=some o→H b=none→(hidT s₁.heap H).get? b=some o:=fun e n=>hidT_get e n
    have noA:∀ {b:Addr} {o:Obj} {es:Array DictEntry} {ep:Nat},s₁.heap.get? b=some o→o.data=.dict es ep→H b=none:=fun {b o es ep} e d=>by
      cases q:H b with
      | none=>rfl
      | some u =>
        have e':b=a:=hA b (by rw [q];simp)
        subst e'
        rw [ha] at e;cases e
        have d':Data.seq vs.toArray _=Data.dict es ep:=d
        cases d'
    have nsK:∀ {b:Addr} {m:Str→Option Value},s₁.heap.Ns b m→(hidT s₁.heap H).Ns b m:=fun {b m} ⟨o,es,ep,e,d,r⟩=>⟨o,es,ep,base_of e (noA e d),d,r⟩
    have hKb:K.In (hidT s₁.heap H):=fun b o e=>base_of (KX b o e) (by
      cases q:H b with
      | none=>rfl
      | some u =>
        have e':b=a:=hA b (by rw [q];simp)
        subst e'
        rw [hK (by rw [q];simp)] at e;cases e)
    have hM:Mod K mg (hidT s₁.heap H):=⟨hKb,nsK hns,⟨mb,nsK hb,hbb⟩,let ⟨mc,h1,h2⟩:=hlim;⟨mc,nsK h1,h2⟩⟩
    have e0:Env0 P w K mg (hidT s₁.heap H) callerA [] s₁ H:=⟨rfl,hM,fun b o e=>of_hidT e,Nat.le_of_eq (hidT_size _ _),trivial,fun b hb=>absurd (show b∈([]:List Addr) from hb) (by simp),hok,.of_eq hg⟩
    refine codeAny_mono ((F _ hKb (nsK hns)).run callerA [] s₁ H ⟨[.ref a],[]⟩ [.ref a] [.ref a] _ _ hr e0 (hbind s₁ (.ref a)) (.cons rfl .nil) (hsp H hO hS)) fun r s' h=>?_
    cases r with
    | error e=>exact (hCX H e s' h).elim
    | ok fl =>
      cases fl with
      | next=>exact False.elim h
      | brk=>exact False.elim h
      | cont=>exact False.elim h
      | ret u =>
        obtain ⟨v,H',os,bare,un,hok',r',q⟩:=h
        have q':v=.bl true:=q
        subst q'
        obtain rfl:u=Value.bool true:=r'
        refine ⟨rfl,OldK.of_keep fun b o e=>?_,os,bare⟩
        cases q:H b with
        | none=>exact un.keep b o e q (by intro z;exact absurd (show b∈([]:List Addr) from z) (by simp)) (by simp)
        | some u =>
          rcases hO b with z | ⟨ob,xs,z⟩
          · rw [q] at z;cases z
          · have z2:=un.frzs b ob _ z
            obtain ⟨e1,_⟩:=hok b _ z
            obtain ⟨e2,_⟩:=hok' b _ z2
            rw [e] at e1;cases e1
            exact e2
  cases hk:K.lookup a with
  | some o =>
    have e:=KX a o hk
    rw [ha] at e
    cases e
    refine core (fun _=>none) (fun _=>.inl rfl) (.inr ⟨_,vs.toArray,_,hk,rfl,rfl,rfl,by rw [List.size_toArray,lenV];exact hl,by simpa using rv⟩) (fun b u z=>by have z':(none:Option HO)=some u:=z;cases z') (fun b z=>absurd rfl z) fun z=>absurd rfl z
  | none =>
    refine core (fun b=>if b=a then some (.frz {cls:=.type "list",data:=.seq vs.toArray} (.lst (ns.map V.int))) else none) (fun b=>?_) (.inl (.inr ⟨{cls:=.type "list",data:=.seq vs.toArray},if_pos rfl⟩)) (fun b u z=>?_) (fun b z=>?_) fun _=>hk
    · by_cases hb:b=a
      · exact .inr ⟨_,_,if_pos hb⟩
      · exact .inl (if_neg hb)
    · by_cases hb:b=a
      · have z':=(if_pos hb).symm.trans z
        cases z'
        subst hb
        exact ⟨ha,by rw [List.length_map];exact hl,vs,_,rv,ha⟩
      · have z':=(if_neg hb).symm.trans z
        cases z'
    · by_cases hb:b=a
      · exact hb
      · exact absurd (if_neg hb) z
end L2
namespace L2
open PySem PySem.Spec PyProof.Rows
theorem walk_of {l:PySem.W.OpenLaw} {n k:Nat} {q:Program} {loose:List Str} {XP:(Str→Option Value)→Heap→Prop} {YP:World→Heap→Prop} {d:DefRec} {K:Params→PySem.W.Frag} {CX:World→CXT} {sp:World→Sp} {x:Str} (hn:l.most=some n) (hn2:n≤sizeLine) (hdf:d.params.defaults=[]) (hr:Room k callerA) (hY:∀(w:World) (h:Heap),YP w h→(K w.params).In h) (F:∀(w:World) (mg:Str→Option Value) (fa:Addr) (h:Heap),(K w.params).In h→h.Ns mainGlobals mg→mg d.name=some (.ref fa) → ∃ fd:FuncData,(∀(s:Shared) (u:Value),BindsTo s fd ⟨[u],[]⟩ [(x,u)]) ∧ ∀ base:Heap,(K w.params).In base→base.Ns mainGlobals mg→FnOk l.prog w (K w.params) mg base (CX w) k fa fd [x] (sp w)) (hsp:∀(w:World) (H:Hp) (a:Addr) (ns:List Int),ns.length≤n→Only H→SqL (K w.params) H a (ns.map V.int)→sp w [.ref a] H (fun v _=>v=.bl true) fun _ _ _=>False) (hCX:∀(w:World) (H:Hp) (s:Shared) (e:Value) (s':Shared),CX w [] H s (fun _ _ _=>False) e s'→False) : PySem.W.WalkO q loose XP YP l.row.toRowW d [] (fun f vs=>PySem.call f vs):=by
 refine Att.attach_call hn hdf fun w s₀ s₁ mg mb fa o pm cd doc a vs ns G Y ho hd hcd hmg hobj hints hlen hg=>?_
 have KX:=hY w _ Y
 obtain ⟨fd,hb,hF⟩:=F w mg fa _ KX G.T.g hmg
 exact law_call KX G.T.g G.T.b G.T.builtins G.T.nolimit hg hobj hints (Nat.le_trans hlen hn2) hr hF hb (fun H hO hS=>hsp w H a ns hlen hO hS) fun H e s'=>hCX w H s₁ e s'
end L2
namespace L2
open PySem PySem.Spec PyProof.Rows
noncomputable def inClass (s:Stmt) (j:Nat):Stmt:=match s with
 | .ClassDef _ _ _ body _ _ _ _ _ _ _=>body.getD j (.Pass ⟨0,0,0,0⟩)
 | _=>.Pass ⟨0,0,0,0⟩
noncomputable def defArgs (s:Stmt):Arguments:=match s with
 | .FunctionDef _ a _ _ _ _ _ _ _ _=>a
 | _=>{posonlyargs:=[],args:=[],vararg:=none,kwonlyargs:=[],kw_defaults:=[],kwarg:=none,defaults:=[]}
noncomputable def defBody (s:Stmt):List Stmt:=match s with
 | .FunctionDef _ _ b _ _ _ _ _ _ _=>b
 | _=>[]
noncomputable def defScope (s:Stmt):Scope:=match s with
 | .FunctionDef _ _ _ _ _ _ sc _ _ _=>sc
 | _=>{kind:=.function,names:=[],isGenerator:=false,isCoroutine:=false}
noncomputable abbrev CX0:CXT:=fun _ _ _ _ _ _=>False
noncomputable abbrev E0:XK:=fun _ _ _=>False
theorem pass0 {X:Cx}:Passes CX0 X E0:=fun _ _ _ _ _ _ _ h=>h.elim
structure Fun (K:PySem.W.Frag) (x qual:Str) (st:Stmt) (f:Addr) (fd:FuncData):Prop where
 ex:∃(oc:Value) (od:Option Addr) (kV doc pm:Value) (an:Option Addr) (cdv ct:Value) (osl:Array (Option Value)),
  fd=PySem.W.fnOf x qual (defArgs st) (defBody st) (defScope st) .none kV doc pm an cdv ct∧K.lookup f=some ⟨oc,od,.func fd,osl⟩∧PySem.W.codeIn K cdv qual=true
 kp:PySem.W.keepIn K (.ref f)=true
section
variable {P:Program} {w:World} {K:PySem.W.Frag} {mg:Str→Option Value} {base:Heap}
theorem Fun.ok {x qual:Str} {st:Stmt} {f:Addr} {fd:FuncData} {N ps:List Str} {k:Nat} {sp:Sp} (F:Fun K x qual st f fd) (S:FnScope N ps (defScope st)) (len:∀ vs H Q E,sp vs H Q E→vs.length=ps.length) (hbody:∀(cdv:Value) (A:Around) (outer:List Env) (s:Shared) (H:Hp) (vs:List V) (Q:VK) (E:XK),Room k (A.deeper (envOfC qual (defScope st) s.heap.objs.size f cdv))→sp vs H Q E → ∃ t,PSs (cxOf CX0 P w K mg base N qual (defScope st) f cdv A outer s H E).nox (defBody st) t∧t {nx:=fun _ H'=>Q .non H',rt:=Q} (start N vs) H):FnOk P w K mg base CX0 (k+1) f fd ps sp:=by
 obtain ⟨oc,od,kV,doc,pm,an,cdv,ct,osl,rfl,lk,hcd⟩:=F.ex
 refine fn_of lk hcd S len fun A outer s H vs Q E hr hsp=>?_
 obtain ⟨t,h,q⟩:=hbody cdv A outer s H vs Q E hr hsp
 exact ⟨t,h.nox,q⟩
theorem Fun.binds {x qual:Str} {st:Stmt} {f:Addr} {fd:FuncData} {ps:List Str} (F:Fun K x qual st f fd) (h:∀(kV doc pm:Value) (an:Option Addr) (cdv ct:Value) (us:List Value),us.length=ps.length→bindArgs (PySem.W.fnOf x qual (defArgs st) (defBody st) (defScope st) .none kV doc pm an cdv ct) ⟨us,[]⟩=pure (ps.zip us)):Binds K fd ps []:=by
 obtain ⟨oc,od,kV,doc,pm,an,cdv,ct,osl,rfl,lk,hcd⟩:=F.ex
 exact .all (h kV doc pm an cdv ct)
theorem fun_mk {x qual:Str} {st:Stmt} {f:Addr} {oc:Value} {od an:Option Addr} {osl:Array (Option Value)} {kV doc pm cdv ct:Value} (l:K.lookup f=some ⟨oc,od,.func (PySem.W.fnOf x qual (defArgs st) (defBody st) (defScope st) .none kV doc pm an cdv ct),osl⟩) (c:PySem.W.codeIn K cdv qual=true) (k:PySem.W.keepIn K (.ref f)=true):Fun K x qual st f (PySem.W.fnOf x qual (defArgs st) (defBody st) (defScope st) .none kV doc pm an cdv ct):=⟨⟨oc,od,kV,doc,pm,an,cdv,ct,osl,rfl,l,c⟩,k⟩
end
theorem hu_of {A:Around} {k:Nat} (hr:Room k A):A.units+1 < cLine:=Nat.lt_of_le_of_lt (Nat.add_le_add_left (by decide:1≤64) _) hr.units
theorem small1000 {n:Nat} (h:n≤1000):n < sizeLine:=Nat.lt_of_le_of_lt h (by decide)
section
variable {X:Cx}
theorem pv (i:Nat) {x:Str} {pos:Pos} (hN:X.N[i]?=some x:=by rfl) (hv:Vis X.env.scope x:=by first | exact Or.inl rfl | exact Or.inr (Or.inl rfl) | exact Or.inr (Or.inr rfl)) (hd:(x == ("__debug__":Str))=false:=by decide) (hcd:(x == ("__classdict__":Str))=false:=by decide):PE X (.Name x pos) (tVar i):=pe_var hN hv hd hcd
end
noncomputable def Same (H H':Hp):Prop:=∀ b o,H b=some o→H' b=some o
theorem Same.refl (H:Hp):Same H H:=fun _ _ h=>h
theorem Same.trans {H H1 H2:Hp} (a:Same H H1) (b:Same H1 H2):Same H H2:=fun c o h=>b c o (a c o h)
theorem Same.free {H H':Hp} (e:Same H H') {l:Addr} (h:H' l=Option.none):H l=Option.none:=by
 cases q:H l with
 | none=>rfl
 | some o =>
  rw [e l o q] at h
  cases h
theorem Same.seq {K:PySem.W.Frag} {H H':Hp} {a:Addr} {xs:List V} (e:Same H H') (h:SqL K H a xs):SqL K H' a xs:=by
 rcases h with (h | ⟨o,h⟩) | h
 ·exact .inl (.inl (e _ _ h))
 ·exact .inl (.inr ⟨o,e _ _ h⟩)
 ·exact .inr h
end L2
namespace L2
open PySem PySem.Spec PyProof.Rows
section
variable {X:Cx}
end
end L2
namespace L2
open PySem PySem.Spec PyProof.Rows
section
variable {κ:Type} [DecidableEq κ]
end
end L2
set_option maxHeartbeats 4000000
namespace L2
open PySem PySem.Spec PyProof.Rows
theorem bt_int:bootBuiltins "int"=some (.type "int"):=by decide +kernel
theorem bt_bool:bootBuiltins "bool"=some (.type "bool"):=by decide +kernel
theorem bt_list:bootBuiltins "list"=some (.type "list"):=by decide +kernel
theorem bt_dict:bootBuiltins "dict"=some (.type "dict"):=by decide +kernel
theorem bt_tuple:bootBuiltins "tuple"=some (.type "tuple"):=by decide +kernel
theorem bt_isinstance:bootBuiltins "isinstance"=some (.builtin "isinstance"):=by decide +kernel
theorem bt_max:bootBuiltins "max"=some (.builtin "max"):=by decide +kernel
theorem bt_min:bootBuiltins "min"=some (.builtin "min"):=by decide +kernel
theorem bt_len:bootBuiltins "len"=some (.builtin "len"):=by decide +kernel
section
variable {X:Cx}
noncomputable def CDivB (_ j:Int):Prop:=0 < j∧j.natAbs.log2 < 9000
theorem op_fdivB:OpR X (binaryOp .FloorDiv) (rI CDivB fun i j=>.int (i / j)):=opI fun i j _ _ _ _ _ hc q=>by
 have h1:(0:Int) < j:=hc.1
 exact floordiv_int (by omega) (by rw [Int.fdiv_eq_ediv_of_nonneg i (by omega)];exact q) (.inl (PyProof.noPylong_of_log2 hc.2))
theorem log2_lt {j:Int} (h0:0 < j) (h:j≤10 ^ 45):j.natAbs.log2 < 9000:=by
 have h1:j.natAbs≤10 ^ 45:=by omega
 have h2:j.natAbs < 2 ^ 150:=Nat.lt_of_le_of_lt h1 (by decide)
 have h3:j.natAbs.log2 < 150:=(Nat.log2_lt (by omega)).mpr h2
 omega
inductive IsI (K:PySem.W.Frag) (H:Hp):V→String→Bool→Prop
 | ii (n:Int):IsI K H (.int n) "int" true
 | ib (n:Int):IsI K H (.int n) "bool" false
 | is (n:Int):IsI K H (.int n) "str" false
 | it (n:Int):IsI K H (.int n) "tuple" false
 | bi (b:Bool):IsI K H (.bl b) "int" true
 | bb (b:Bool):IsI K H (.bl b) "bool" true
 | bs (b:Bool):IsI K H (.bl b) "str" false
 | bt (b:Bool):IsI K H (.bl b) "tuple" false
 | si (x:Str):IsI K H (.str x) "int" false
 | sb (x:Str):IsI K H (.str x) "bool" false
 | ss (x:Str):IsI K H (.str x) "str" true
 | st (x:Str):IsI K H (.str x) "tuple" false
 | ni:IsI K H .non "int" false
 | nb:IsI K H .non "bool" false
 | ns:IsI K H .non "str" false
 | nt:IsI K H .non "tuple" false
 | li {a:Addr} {xs:List V}:SqL K H a xs→IsI K H (.ref a) "int" false
 | lb {a:Addr} {xs:List V}:SqL K H a xs→IsI K H (.ref a) "bool" false
 | ls {a:Addr} {xs:List V}:SqL K H a xs→IsI K H (.ref a) "str" false
 | lt {a:Addr} {xs:List V}:SqL K H a xs→IsI K H (.ref a) "tuple" false
 | ti {a:Addr} {xs:List V}:SqT K H a xs→IsI K H (.ref a) "int" false
 | tb {a:Addr} {xs:List V}:SqT K H a xs→IsI K H (.ref a) "bool" false
 | ts {a:Addr} {xs:List V}:SqT K H a xs→IsI K H (.ref a) "str" false
 | tt {a:Addr} {xs:List V}:SqT K H a xs→IsI K H (.ref a) "tuple" true
 | di {a:Addr} {kvs:List (Key×V)}:H a=some (.dK kvs)→IsI K H (.ref a) "int" false
 | db {a:Addr} {kvs:List (Key×V)}:H a=some (.dK kvs)→IsI K H (.ref a) "bool" false
 | ds {a:Addr} {kvs:List (Key×V)}:H a=some (.dK kvs)→IsI K H (.ref a) "str" false
theorem Inv.listObj {pins:List (Addr×Obj)} {σ:St} {H:Hp} {s:Shared} {a:Addr} {xs:List V} (I:Inv X pins σ H s) (h:SqL X.K H a xs):∃ o,s.heap.get? a=some o∧o.cls=.type "list":=by
 obtain ⟨its,_,⟨o,n,e,c,_,_⟩,_⟩:=I.list h
 exact ⟨o,e,c⟩
theorem Inv.tupObj {pins:List (Addr×Obj)} {σ:St} {H:Hp} {s:Shared} {a:Addr} {xs:List V} (I:Inv X pins σ H s) (h:SqT X.K H a xs):∃ o,s.heap.get? a=some o∧o.cls=.type "tuple":=by
 obtain ⟨its,_,⟨o,e,c,_⟩,_⟩:=I.tuple h
 exact ⟨o,e,c⟩
theorem Inv.dictObj {pins:List (Addr×Obj)} {σ:St} {H:Hp} {s:Shared} {a:Addr} {kvs:List (Key×V)} (I:Inv X pins σ H s) (h:H a=some (.dK kvs)):∃ o,s.heap.get? a=some o∧o.cls=.type "dict" :=
 dict_typeIs I (DGet.k (k:=.inl 0) h)
theorem call_isi:CallR X (.builtin "isinstance") (fun xs H Q=>∃ v T b,xs=[v,.ty T]∧IsI X.K H v T b∧Q (.bl b) H):=by
 intro pins s σ H xs us Q I r h
 obtain ⟨v,T,b,rfl,hi,q⟩:=h
 obtain ⟨u,w',rfl,r1,r2⟩:=vals2 r
 cases r2
 have fin:EP X pins σ Q (.bool b) s:=⟨.bl b,H,I,rfl,q⟩
 have fin':EP X pins σ Q (.bool b) {s with toks:=s.toks+1}:=⟨.bl b,H,I.tok _,rfl,q⟩
 cases hi with
 | ii n=>obtain ⟨t,rfl⟩:=r1;exact IsiPair.int_int fin
 | ib n=>obtain ⟨t,rfl⟩:=r1;exact IsiPair.int_bool fin'
 | is n=>obtain ⟨t,rfl⟩:=r1;exact IsiPair.int_str fin'
 | it n=>obtain ⟨t,rfl⟩:=r1;exact IsiPair.int_tuple fin'
 | bi b=>cases r1;exact IsiPair.bool_int fin
 | bb b=>cases r1;exact IsiPair.bool_bool fin
 | bs b=>cases r1;exact IsiPair.bool_str fin'
 | bt b=>cases r1;exact IsiPair.bool_tuple fin'
 | si x=>obtain ⟨t,rfl⟩:=r1;exact IsiPair.str_int fin'
 | sb x=>obtain ⟨t,rfl⟩:=r1;exact IsiPair.str_bool fin'
 | ss x=>obtain ⟨t,rfl⟩:=r1;exact IsiPair.str_str fin
 | st x=>obtain ⟨t,rfl⟩:=r1;exact IsiPair.str_tuple fin'
 | ni=>cases r1;exact IsiPair.NoneType_int fin'
 | nb=>cases r1;exact IsiPair.NoneType_bool fin'
 | ns=>cases r1;exact IsiPair.NoneType_str fin'
 | nt=>cases r1;exact IsiPair.NoneType_tuple fin'
 | li hl=>cases r1;obtain ⟨o,e,c⟩:=Inv.listObj I hl;exact IsiPair.list_int e c fin'
 | lb hl=>cases r1;obtain ⟨o,e,c⟩:=Inv.listObj I hl;exact IsiPair.list_bool e c fin'
 | ls hl=>cases r1;obtain ⟨o,e,c⟩:=Inv.listObj I hl;exact IsiPair.list_str e c fin'
 | lt hl=>cases r1;obtain ⟨o,e,c⟩:=Inv.listObj I hl;exact IsiPair.list_tuple e c fin'
 | ti hl=>cases r1;obtain ⟨o,e,c⟩:=Inv.tupObj I hl;exact IsiPair.tuple_int e c fin'
 | tb hl=>cases r1;obtain ⟨o,e,c⟩:=Inv.tupObj I hl;exact IsiPair.tuple_bool e c fin'
 | ts hl=>cases r1;obtain ⟨o,e,c⟩:=Inv.tupObj I hl;exact IsiPair.tuple_str e c fin'
 | tt hl=>cases r1;obtain ⟨o,e,c⟩:=Inv.tupObj I hl;exact IsiPair.tuple_tuple e c fin
 | di hl=>cases r1;obtain ⟨o,e,c⟩:=Inv.dictObj I hl;exact IsiPair.dict_int e c fin'
 | db hl=>cases r1;obtain ⟨o,e,c⟩:=Inv.dictObj I hl;exact IsiPair.dict_bool e c fin'
 | ds hl=>cases r1;obtain ⟨o,e,c⟩:=Inv.dictObj I hl;exact IsiPair.dict_str e c fin'
end
noncomputable def isStar:Expr→Bool
 | .Starred ..=>true
 | _=>false
theorem star_cons {e:Expr} {es:List Expr} {env:Env} (h:isStar e=false):starEach (e::es) env=(false,eval e env)::starEach es env:=by
 cases e<;>first | rfl | cases h
section
variable {X:Cx} {e:Expr} {es:List Expr} {te:TE} {t:TA}
theorem pa_n (ha:PE X e te) (hr:PA X es t) (h:isStar e=false:=by rfl):PA X (e::es) (tCons te t):=pa_cons ha hr (star_cons h)
end
end L2
namespace L2
open PySem PySem.Spec PyProof.Rows
noncomputable abbrev noteE (prog:Program) (w:World) (A:Around) (env:Env) (R:Result→Shared→Prop):Value→Shared→Prop:=notedBy (model prog w) A env fun e s'=>R (.error e) s'
noncomputable abbrev testsOf (ifs:List Expr) (env:Env):Sem Bool:=forIn ifs true fun c r=>if r=true then do let ok ← isTrue c env (eval c env);pure (ForInStep.yield ok) else pure (ForInStep.yield r)
section
variable {prog:Program} {w:World} {A:Around} {R:Result→Shared→Prop} {s:Shared}
theorem compLoop_go {elt target iter:Expr} {ifs:List Expr} {scope:Scope} {pos:Pos} {it acc:Value} {env:Env} (I:Nat→Shared→Prop) (turn:∀ n s,I n s→wpAny (model prog w) A (pyNext it) (fun r s₁=>match r with | none=>R (.ok .next) s₁ | some v=>wpAny (model prog w) A (letOwnedTupleGo target it v) (fun _ s₁'=>wpAny (model prog w) A (assign target env v) (fun _ s₂ => wpAny (model prog w) A (testsOf ifs env) (fun ok s₃ => if ok=true then wpAny (model prog w) A (eval elt env) (fun x s₄ => wpAny (model prog w) A (call (.builtin "list.append") [acc,x]) (fun _ s₅=>∃ m,m < n∧I m s₅) (noteE prog w A env R) s₄) (noteE prog w A env R) s₃ else ∃ m,m < n∧I m s₃) (noteE prog w A env R) s₂) (noteE prog w A env R) s₁') (noteE prog w A env R) s₁) (noteE prog w A env R) s) (n:Nat) (h:I n s):codeAny (model prog w) A (.compLoop (.ListComp elt [⟨target,iter,ifs,0⟩] scope pos) 0 it acc env) R s:=by
 refine codeAny_loop rfl I (fun n s hI=>?_) n h
 show wpAny _ A ((compTurn (.ListComp elt [⟨target,iter,ifs,0⟩] scope pos) 0 it acc env).onRaise (fun x=>do noteFrame x env;theTreesLotGoes x)) _ _ s
 refine wpAny_noted ?_
 rw [compTurn_list]
 refine wpAny_bind (wpAny_standAt (wpAny_bind (wpAny_mono (turn n s hI) (fun r s₁ h₁=>?_) fun _ _ h'=>h')))
 cases r with
 | none=>exact wpAny_pure h₁
 | some v =>
  refine wpAny_bind (wpAny_mono h₁ (fun _ s₁' h₁'=>?_) fun _ _ h'=>h')
  refine wpAny_bind (wpAny_mono h₁' (fun _ s₂ h₂=>wpAny_bind (wpAny_mono h₂ (fun ok s₃ h₃=>?_) fun _ _ h'=>h')) fun _ _ h'=>h')
  cases ok with
  | false=>exact wpAny_pure ⟨rfl,h₃⟩
  | true =>
   exact wpAny_bind (wpAny_bind (wpAny_mono h₃ (fun x s₄ h₄=>wpAny_bind (wpAny_mono h₄ (fun _ s₅ h₅=>wpAny_pure (wpAny_pure ⟨rfl,h₅⟩)) fun _ _ h'=>h')) fun _ _ h'=>h'))
end
noncomputable def compCx (X:Cx) (sc:Scope) (cl:List (Str×Addr)) (C:Addr) (N:List Str) (s:Shared) (H:Hp) (ex:List Addr) (pn:List (Addr×Obj)):Cx :=
 {X with env:=compEnvC sc cl C X.env,N:=N,s₀:=s,H₀:=H,outer:=X.stack,ex:=ex,fn:=fun _=>false,pn:=pn}
structure CompSc (X:Cx) (sc:Scope) (cl:List (Str×Addr)) (x:Str) (fr:List Nat) (N:List Str):Prop where
 kind:sc.kind=.function
 nocell:∀ y∈sc.names,y.2≠.cell
 names:∀ y∈sc.names,y.2=.local→sc.names.lookup y.1=some .local
 clos:closureFor sc X.env=pure cl
 sub:∀ y c,cl.lookup y=some c→X.env.cells.lookup y=some c
 has:∀ y,((relabel sc X.env).names.lookup y=some .cell∨(relabel sc X.env).names.lookup y=some .free)→∃ c,cl.lookup y=some c
 tgt:sc.names.lookup x=some .local
 nd:N.Nodup
 N0:N=x::fr.map fun j=>X.N.getD j x
 frc:∀ j∈fr,∃ y,X.N[j]?=some y∧X.env.kindOf y=some .cell∧((relabel sc X.env).names.lookup y=some .cell∨(relabel sc X.env).names.lookup y=some .free)
noncomputable def compSt (fr:List Nat) (σ:St):St:=fr.map fun j=>(σ[j]?).join
section
variable {X:Cx} {pins:List (Addr×Obj)} {σ:St} {H:Hp} {s:Shared} {sc:Scope} {cl:List (Str×Addr)} {C:Addr} {x:Str} {fr:List Nat} {N:List Str} {fp:List Addr}
theorem comp_ok (I:Inv X pins σ H s) (S:CompSc X sc cl x fr N) (hf:∀ b∈fp,FpOk X pins H b) (hfo:∀ b∈fp,b < s.heap.objs.size) (hC:s.heap.objs.size≤C) : (compCx X sc cl C N s H fp (X.pn++pins)).Ok where
 mod:=I.ok.mod
 kind:=S.kind
 glob:=I.ok.glob
 blt:=I.ok.blt
 above:=hC
 inj:=fun y z c h1 h2=>I.ok.inj y z c (S.sub y c h1) (S.sub z c h2)
 has:=S.has
 cab:=fun _ _ h=>by cases h
 hd:=I.ok.hd
 frames:=I.ok.frames
 stk:=.inl rfl
 exf:=fun b hb=>⟨Nat.ne_of_lt (Nat.lt_of_lt_of_le (hfo b hb) hC),fun y c e=>(hf b hb).2.2.2.2.1 y c (S.sub y c e)⟩
 bs:=I.bs
 bsz:=Nat.le_trans I.ok.bsz I.sz
 noex:=fun b o e hb=>by
  rcases (hf b hb).2.2.2.1 with z | z
  ·exact I.ok.noex b o e z
  ·exact absurd (Nat.lt_of_lt_of_le (Heap.lt_size e) (Nat.le_trans I.ok.bsz z)) (Nat.lt_irrefl _)
 exfs:=fun b hb hm=>by
  rcases List.mem_cons.mp (I.stkSub b hm) with z | z
  ·exact (hf b hb).2.1 z
  ·exact (hf b hb).2.2.1 z
 funs:=I.stack
 frf:=I.stkFree
theorem nostk (I:Inv X pins σ H s) {b:Addr} (h1:b≠X.env.locals) (h2:b∉X.fs):b∉frs X.stack:=fun hm=>by
 rcases List.mem_cons.mp (I.stkSub b hm) with z | z
 ·exact h1 z
 ·exact h2 z
theorem comp_inv (I:Inv X pins σ H s) (S:CompSc X sc cl x fr N) (hf:∀ b∈fp,FpOk X pins H b) (hfo:∀ b∈fp,b < s.heap.objs.size) (hC:s.heap.objs.size≤C) {h1:Heap} {t1:Nat} {m0:Str→Option Value} (hn:h1.Ns C m0) (hk:∀ b o,s.heap.get? b=some o→h1.get? b=some o):Inv (compCx X sc cl C N s H fp (X.pn++pins)) [] (none::compSt fr σ) H {s with heap:=h1,toks:=t1}:=by
 refine ⟨comp_ok I S hf hfo hC,rfl,I.bare,Un.kept hk,⟨m0,hn,fun i y v e1 e2 e3=>?_⟩,fun y c e=>?_,I.hok.fresh hC,fun y c e=>I.freeC y c (S.sub y c e),fun p hp=>?_,I.hok.kept hk,?_⟩
 ·have e1':N[i]?=some y:=e1
  rw [S.N0] at e1'
  cases i with
  | zero =>
   have z:(some (none:Option V))=some (some v):=e2
   cases z
  | succ j =>
   have e1'':(fr.map fun j=>X.N.getD j x)[j]?=some y:=e1'
   have e2':(compSt fr σ)[j]?=some (some v):=e2
   unfold compSt at e2'
   rw [List.getElem?_map] at e1'' e2'
   cases q:fr[j]? with
   | none=>rw [q] at e1'';cases e1''
   | some k =>
    rw [q] at e1'' e2'
    have ey:X.N.getD k x=y:=Option.some.inj e1''
    have ev:(σ[k]?).join=some v:=Option.some.inj e2'
    obtain ⟨y',hy,hkind,hvis⟩:=S.frc k (List.mem_of_getElem? q)
    have eyy:y=y':=by
     rw [← ey,List.getD_eq_getElem?_getD,hy]
     rfl
    subst eyy
    have ev':σ[k]?=some (some v):=by
     cases z:σ[k]? with
     | none=>rw [z] at ev;cases ev
     | some o =>
      rw [z] at ev
      have ev2:o=some v:=ev
      rw [ev2]
    obtain ⟨m,_,hl⟩:=I.loc
    obtain ⟨u,r,l⟩:=hl k y v hy ev' (.inr (.inl hkind))
    refine ⟨u,r,.inr ⟨hvis,?_⟩⟩
    rcases l with ⟨z,_⟩ | ⟨_,c,hc,o,ho,hd⟩
    ·rw [hkind] at z
     cases z
    ·obtain ⟨c',hc'⟩:=S.has y hvis
     have z:=S.sub y c' hc'
     rw [hc] at z
     cases z
     exact ⟨c,hc',o,hk c o ho,hd⟩
 ·obtain ⟨v,o,ho,hd⟩:=I.cell y c (S.sub y c e)
  exact ⟨v,o,hk c o ho,hd⟩
 ·have hp':p∈X.pn++pins:=by
   have z:p∈(X.pn++pins)++[]:=hp
   simpa using z
  obtain ⟨e,n,ne,nf,d⟩:=I.pin p hp'
  exact ⟨hk _ _ e,n,Nat.ne_of_lt (Nat.lt_of_lt_of_le (Heap.lt_size e) hC),nostk I ne nf,d⟩
 ·show (none::compSt fr σ).length=N.length
  rw [S.N0]
  simp [compSt]
theorem comp_end (I:Inv X pins σ H s) (hf:∀ b∈fp,FpOk X pins H b) {D:Addr} {pl:List (Addr×Obj)} {σ':St} {H':Hp} {s':Shared} (J:Inv (compCx X sc cl C N s H fp (X.pn++pins)) pl σ' H' s') (hC:s.heap.objs.size≤C) (hD:s.heap.objs.size≤D) (hDC:D≠C) (hDn:H' D=none) {xs:List V} {vals:List Value} {k:Nat} (hg:s'.heap.get? D=some {cls:=.type "list",data:=.seq vals.toArray k}) (rv:Vals xs vals) (hz:xs.length≤sizeLine) {h':Heap} (hs:Heap.SameBut C s'.heap h'):Inv X pins σ (upd H' D (.lst xs)) {s' with heap:=h'}:=by
 have lt:∀ {b:Addr} {o:Obj},s.heap.get? b=some o→b < s.heap.objs.size:=fun e=>Heap.lt_size e
 have neC:∀ {b:Addr} {o:Obj},s.heap.get? b=some o→b≠C:=fun e=>Nat.ne_of_lt (Nat.lt_of_lt_of_le (Heap.lt_size e) hC)
 have neD:∀ {b:Addr} {o:Obj},s.heap.get? b=some o→b≠D:=fun e=>Nat.ne_of_lt (Nat.lt_of_lt_of_le (Heap.lt_size e) hD)
 have neDt:∀ {b:Addr} {o:HO},H b=some o→b≠D:=fun e=>Nat.ne_of_lt (Nat.lt_of_lt_of_le (I.hok.lt e) hD)
 have base:Un (frs X.stack) fp H H' s.heap s'.heap:=J.base
 have HC:H' C=none:=J.free
 refine I.call' (s':={s' with heap:=h'}) (ch:=fp) J.os ⟨fun b o e n hb hx=>?_,fun b o e n hb hx=>?_,fun b o e n hx=>?_,fun b o e hx=>?_,fun b ys e=>?_,fun b o u e=>?_,fun b ps e=>?_⟩ (fun b u e=>?_) J.bare (fun b hb=>?_)
 ·exact (hs.2 b (neC e)).trans (base.keep b o e n hb hx)
 ·obtain ⟨sl,q⟩:=base.slot b o e n hb hx
  exact ⟨sl,(hs.2 b (neC e)).trans q⟩
 ·rw [upd_ne (neD e)]
  exact base.free b o e n hx
 ·obtain ⟨o',q⟩:=base.there b o e hx
  exact ⟨o',(hs.2 b (neC e)).trans q⟩
 ·rw [upd_ne (neDt e)]
  exact base.tups b ys e
 ·rw [upd_ne (neDt e)]
  exact base.frzs b o u e
 ·rw [upd_ne (neDt e)]
  exact base.tbls b ps e
 ·by_cases hb:b=D
  ·subst hb
   rw [upd_same] at e
   cases e
   exact ⟨hz,vals,k,rv,(hs.2 b hDC).trans hg⟩
  ·rw [upd_ne hb] at e
   have tC:∀ {c:Addr} {o:HO},H' c=some o→c≠C:=fun q z=>by rw [z,HC] at q;cases q
   have tD:∀ {c:Addr} {o:HO},H' c=some o→c≠D:=fun q z=>by rw [z,hDn] at q;cases q
   refine (J.hok b u e).stay (fun c v hc q=>(hs.2 c ?_).trans q) (fun c q=>by rw [upd_ne (tD q)];exact q) fun c ys q=>by rw [upd_ne (tD q)];exact q
   rcases hc with z | z
   ·rw [z];exact tC e
   ·exact tC z
 ·obtain ⟨_,f1,_,f3,f4,f5⟩:=hf b hb
  exact ⟨f3,f1,f4,f5⟩
end
noncomputable def PTs (Y:Cx) (ifs:List Expr) (t:TT):Prop :=
 ∀(pins:List (Addr×Obj)) (s:Shared) (σ:St) (H:Hp) (Q:Bool→Hp→Prop),Inv Y pins σ H s→t σ H Q→wpAny (model Y.prog Y.w) Y.A (testsOf ifs Y.env) (TP Y pins σ Q) Y.xe s
noncomputable def tTrue:TT:=fun _ H Q=>Q true H
theorem pts_one {Y:Cx} {c:Expr} {t:TT} (h:PT Y c t):PTs Y [c] t:=fun pins s σ H Q I hw=>wpAny_tests_one (h pins s σ H Q I hw)
@[irreducible] def tComp (wi:TI) (fr:List Nat) (tc:TT) (te:TE):TE:=fun σ H Q=>wi σ H fun J H1=>∃ W:Nat→Nat→List V→Hp→Prop,(∃ m,W 0 m [] H1)∧∀ i m xs H,W i m xs H→xs.length≤1000000 ∧
  ((J.stop i H∧∀ p,H p=none→Q (.ref p) (upd H p (.lst xs))) ∨
   (J.go i H∧∀ y H',J.yld i H y H'→tc (some y::compSt fr σ) H' fun b H2=>if b=true then te (some y::compSt fr σ) H2 (fun z H3=>∃ m',m' < m∧W (i+1) m' (xs++[z]) H3) else ∃ m',m' < m∧W (i+1) m' xs H2))
section
variable {X:Cx} {sc:Scope} {cl:List (Str×Addr)} {x:Str} {fr:List Nat} {N:List Str} {elt iter:Expr} {px pos:Pos} {ifs:List Expr} {wi:TI} {tc:TT} {te:TE}
theorem comp_block (hc:X.calm=true) (hx:∀ e s,¬ X.xe e s) (S:CompSc X sc cl x fr N) (hb:∀ C s H ex pn,PTs (compCx X sc cl C N s H ex pn) ifs tc∧PE (compCx X sc cl C N s H ex pn) elt te) {pins:List (Addr×Obj)} {σ:St} {H:Hp} {s:Shared} {it:Addr} {fp:List Addr} {tn:Nat→Heap→Prop} {J:It} {Q:VK} {RR:Value→Addr→Result→Shared→Prop} {E:Value→Shared→Prop} (I:Inv X pins σ H s) (T:Turn X.prog X.w X.K (.Name x px) J fp it tn) (st:tn 0 s.heap) (hf:∀ b∈fp,FpOk X pins H b) {W:Nat→Nat→List V→Hp→Prop} {m0:Nat} (w0:W 0 m0 [] H) (turn:∀ i m xs H,W i m xs H→xs.length≤1000000 ∧ ((J.stop i H∧∀ p,H p=none→Q (.ref p) (upd H p (.lst xs))) ∨ (J.go i H∧∀ y H',J.yld i H y H'→tc (some y::compSt fr σ) H' fun b H2=>if b=true then te (some y::compSt fr σ) H2 (fun z H3=>∃ m',m' < m∧W (i+1) m' (xs++[z]) H3) else ∃ m',m' < m∧W (i+1) m' xs H2))) (fin:∀(D C:Addr) (s':Shared) (m':Str→Option Value) (H':Hp),s'.heap.Ns C m'→FpOk X pins H' C→(∀ h',Heap.SameBut C s'.heap h'→Inv X pins σ H' {s' with heap:=h'})→Q (.ref D) H'→RR (.ref D) C (.ok .next) s') : wpAny (model X.prog X.w) X.A (newList []) (fun acc s₃=>wpAny (model X.prog X.w) X.A (newFunctionEnv sc X.env.globals cl [] X.env.qual none .none (some X.env)) (fun cenv s₄ => codeAny (model X.prog X.w) X.A (.compStart (.ListComp elt [⟨.Name x px,iter,ifs,0⟩] sc pos) 0 (.ref it) acc {cenv with scope:=relabel sc X.env}) (RR acc cenv.locals) s₄) E s₃) E s:=by
  refine wpAny_newObj_type (wpAny_newFunctionEnv S.nocell (by intro y hy;simp at hy) (fun h₁ hns₁ hsb₁=>?_) S.kind)
  dsimp only at hns₁ hsb₁ ⊢
  generalize hH2:s.heap.push {cls:=.type "list",dict:=none,data:=.seq ([]:List Value).toArray}=G2 at hns₁ hsb₁ ⊢
  have hCs:G2.objs.size=s.heap.objs.size+1:=by rw [← hH2,Heap.size_push]
  have hDC:s.heap.objs.size≠G2.objs.size:=by rw [hCs];exact Nat.ne_of_lt (Nat.lt_succ_self _)
  have hC:s.heap.objs.size≤G2.objs.size:=by rw [hCs];exact Nat.le_succ _
  have below:∀ b,b < s.heap.objs.size→b≠G2.objs.size:=fun b hb=>by rw [hCs];exact Nat.ne_of_lt (Nat.lt_succ_of_lt hb)
  have old:∀ b o,s.heap.get? b=some o→h₁.get? b=some o:=fun b o e=>hsb₁.extBut b o (below b (Heap.lt_size e)) (Heap.get?_push_of_some _ (hH2 ▸ Heap.get?_push_of_some _ e))
  have hD1:h₁.get? s.heap.objs.size=some {cls:=.type "list",data:=.seq ([]:List Value).toArray 0}:=hsb₁.extBut _ _ hDC (Heap.get?_push_of_some _ (hH2 ▸ Heap.get?_push_size _ rfl))
  have hfo:∀ b∈fp,b < s.heap.objs.size:=fun b hbm=>by
    obtain ⟨o,e,_⟩:=T.obj 0 s.heap st b hbm
    exact Heap.lt_size e
  have hDn:H s.heap.objs.size=none:=I.hok.fresh (Nat.le_refl _)
  have Dstk:s.heap.objs.size∉frs X.stack:=fun hm=>by
    rcases List.mem_cons.mp (I.stkSub _ hm) with z | z
    · exact absurd I.lt (by rw [← z];exact Nat.lt_irrefl _)
    · exact I.nofs (Nat.le_refl _) z
  have Dcell:∀ y c,cl.lookup y=some c→c≠s.heap.objs.size:=fun y c e z=>by
    obtain ⟨v,q⟩:=I.cell y c (S.sub y c e)
    exact absurd q.lt (by rw [z];exact Nat.lt_irrefl _)
  have Dpin:∀ p∈X.pn++pins,p.1≠s.heap.objs.size:=fun p hp z=>absurd (Heap.lt_size (I.pin p hp).1) (by rw [z];exact Nat.lt_irrefl _)
  have Dfp:s.heap.objs.size∉fp:=fun hm=>Nat.lt_irrefl _ (hfo _ hm)
  have loop:∀ s₃:Shared,s₃={s with heap:=h₁,toks:=s.toks+([]:List (Str×Value)).length} →
      codeAny (model X.prog X.w) X.A (.compLoop (.ListComp elt [⟨.Name x px,iter,ifs,0⟩] sc pos) 0 (.ref it) (.ref s.heap.objs.size) (compEnvC sc cl G2.objs.size X.env)) (RR (.ref s.heap.objs.size) G2.objs.size) s₃:=by
    rintro s₃ rfl
    have I0:Inv (compCx X sc cl G2.objs.size N s H fp (X.pn++pins)) [] (none::compSt fr σ) H {s with heap:=h₁,toks:=s.toks+([]:List (Str×Value)).length}:=comp_inv I S hf hfo hC hns₁ old
    refine compLoop_go (fun n s'=>∃(i:Nat) (xs:List V) (vals:List Value) (k:Nat) (v0:Option V) (H':Hp),Inv (compCx X sc cl G2.objs.size N s H fp (X.pn++pins)) [] (v0::compSt fr σ) H' s'∧tn i s'.heap∧(∀ b∈fp,H' b=none) ∧
      s'.heap.get? s.heap.objs.size=some {cls:=.type "list",data:=.seq vals.toArray k}∧Vals xs vals∧H' s.heap.objs.size=none∧W i n xs H') ?_ m0
      ⟨0,[],[],0,none,H,I0,T.keep _ _ _ st fun b _ o e=>old b o e,fun b hb=>(hf b hb).1,hD1,.nil,hDn,w0⟩
    rintro n s1 ⟨i,xs,vals,k,v0,H1,I1,st1,fr1,hg1,rv1,hD1',w1⟩
    have hlen:=rv1.length
    obtain ⟨hz,step⟩:=turn i n xs H1 w1
    have hz2:xs.length≤sizeLine:=Nat.le_trans hz (by decide)
    have stat:∀ {H':Hp} {pl:List (Addr×Obj)},(∀ b∈fp,H' b=none)→(∀ p∈pl,p.1=s.heap.objs.size)→∀ b∈fp,FpOk (compCx X sc cl G2.objs.size N s H fp (X.pn++pins)) pl H' b:=fun {H' pl} hn hpl b hb =>
      ⟨hn b hb,below b (hfo b hb),nostk I (hf b hb).2.1 (hf b hb).2.2.1,.inl hb,fun y c e=>(hf b hb).2.2.2.2.1 y c (S.sub y c e),fun p hp z=>by
        rcases List.mem_append.mp hp with q | q
        · exact (hf b hb).2.2.2.2.2 p q z
        · exact Dfp (by rw [← hpl p q,z];exact hb)⟩
    have I1':Inv (compCx X sc cl G2.objs.size N s H fp (X.pn++pins)) [(s.heap.objs.size,{cls:=.type "list",data:=.seq vals.toArray k})] (v0::compSt fr σ) H1 s1:=I1.pins_of fun p hp=>by
      have e:p=(s.heap.objs.size,{cls:=.type "list",data:=.seq vals.toArray k}):=by simpa using hp
      subst e
      exact ⟨hg1,hD1',hDC,Dstk,fun v z=>by cases z⟩
    rcases step with ⟨stop,hq⟩ | ⟨go,step⟩
    · refine thn (T.done (compCx X sc cl G2.objs.size N s H fp (X.pn++pins)) rfl rfl rfl hc i [(s.heap.objs.size,{cls:=.type "list",data:=.seq vals.toArray k})] s1 _ H1 _ I1' (stat fr1 fun p hp=>by
        have e:p=(s.heap.objs.size,{cls:=.type "list",data:=.seq vals.toArray k}):=by simpa using hp
        rw [e]) st1 stop) fun r s2 ⟨hr,I2⟩=>?_
      subst hr
      obtain ⟨g2,n2,_⟩:=I2.pin (s.heap.objs.size,{cls:=.type "list",data:=.seq vals.toArray k}) (List.mem_append_right _ (by simp))
      obtain ⟨m2,hn2,_⟩:=I2.loc
      have hCn:upd H1 s.heap.objs.size (.lst xs) G2.objs.size=none:=by
        rw [upd_ne (Ne.symm hDC)]
        exact I2.free
      exact fin s.heap.objs.size G2.objs.size s2 m2 _ hn2 (I.fpOk hC hCn) (fun h' hs'=>comp_end I hf I2 hC (Nat.le_refl _) hDC n2 g2 rv1 hz2 hs') (hq _ n2)
    · refine thn (T.item (compCx X sc cl G2.objs.size N s H fp (X.pn++pins)) rfl rfl rfl hc i [(s.heap.objs.size,{cls:=.type "list",data:=.seq vals.toArray k})] s1 _ H1 _ I1' (stat fr1 fun p hp=>by
        have e:p=(s.heap.objs.size,{cls:=.type "list",data:=.seq vals.toArray k}):=by simpa using hp
        rw [e]) st1 go) fun r s2 ⟨u,hr,h2⟩=>?_
      subst hr
      refine thn h2 fun _ s3 ⟨y,H3,I3,r3,y3,st3,fr3⟩=>?_
      have I3':=I3.pinned (stat fr3 fun p hp=>by
        have e:p=(s.heap.objs.size,{cls:=.type "list",data:=.seq vals.toArray k}):=by simpa using hp
        rw [e]) (T.obj _ _ st3)
      have back:∀ {σ9:St} {H9:Hp} {s9:Shared},Inv (compCx X sc cl G2.objs.size N s H fp (X.pn++pins)) ([(s.heap.objs.size,{cls:=.type "list",data:=.seq vals.toArray k})]++pinsAt fp s3.heap) σ9 H9 s9 →
          tn (i+1) s9.heap∧(∀ b∈fp,H9 b=none)∧s9.heap.get? s.heap.objs.size=some {cls:=.type "list",data:=.seq vals.toArray k}∧H9 s.heap.objs.size=none:=fun {σ9 H9 s9} I9=>by
        refine ⟨T.keep _ _ _ st3 fun b hb o e=>(I9.pin (b,o) (List.mem_append_right _ (List.mem_append_right _ (mem_pinsAt hb e)))).1,fun b hb=>?_,?_⟩
        · obtain ⟨o,e,d⟩:=T.obj _ _ st3 b hb
          exact (I9.pin (b,o) (List.mem_append_right _ (List.mem_append_right _ (mem_pinsAt hb e)))).2.1
        · obtain ⟨a1,a2,_⟩:=I9.pin (s.heap.objs.size,{cls:=.type "list",data:=.seq vals.toArray k}) (List.mem_append_right _ (List.mem_append_left _ (by simp)))
          exact ⟨a1,a2⟩
      have hN0:(compCx X sc cl G2.objs.size N s H fp (X.pn++pins)).N[0]?=some x:=by
        show N[0]?=some x
        rw [S.N0]
        rfl
      have hloc:(relabel sc X.env).names.lookup x=some .local:=lookup_relabel_local S.tgt
      have hpg:PG (compCx X sc cl G2.objs.size N s H fp (X.pn++pins)) (.Name x px) (gName 0):=pg_name (i:=0) S.nd hN0 (.inl hloc) (.inr hloc)
      have noX:∀ e s',(compCx X sc cl G2.objs.size N s H fp (X.pn++pins)).xe e s'→noteE X.prog X.w X.A (compEnvC sc cl G2.objs.size X.env) (RR (.ref s.heap.objs.size) G2.objs.size) e s':=fun e s' z=>(hx e s' z).elim
      have hstep:=step y H3 y3
      refine wpAny_mono (hpg _ s3 _ H3 y u (fun σ' H'=>σ'=some y::compSt fr σ∧H'=H3) I3' r3 ⟨rfl,rfl⟩) (fun _ s4 ⟨σ4,H4,I4,e4,e4'⟩=>?_) noX
      subst e4 e4'
      obtain ⟨hbT,hbE⟩:=hb G2.objs.size s H fp (X.pn++pins)
      refine wpAny_mono (hbT _ s4 _ H4 _ I4 hstep) (fun ok s5 ⟨H5,I5,q5⟩=>?_) noX
      cases ok with
      | false =>
        rw [if_neg Bool.false_ne_true]
        have q5':∃ m',m' < n∧W (i+1) m' xs H5:=q5
        obtain ⟨m',hm,w5⟩:=q5'
        obtain ⟨b1,b2,b3,b4⟩:=back I5
        exact ⟨m',hm,i+1,xs,vals,k,some y,H5,I5.pins_of (fun p hp=>absurd hp (by simp)),b1,b2,b3,rv1,b4,w5⟩
      | true =>
        rw [if_pos rfl]
        refine wpAny_mono (hbE _ s5 _ H5 _ I5 q5) (fun z s6 ⟨v6,H6,I6,r6,q6⟩=>?_) noX
        obtain ⟨m',hm,w6⟩:=q6
        obtain ⟨b1,b2,b3,b4⟩:=back I6
        refine call_meets F.slot_list_append ⟨_,b3,rfl⟩ F.entry_list_append (F.args_list_append_2 _ _) (PySem.list_append s.heap.objs.size vals.toArray k z (by rw [List.size_toArray];omega)) ⟨b3,?_⟩
        have q7:=PySem.IsL.update b3 (fun a:Array Value=>a.push z)
        have hpush:vals.toArray.push z=(vals++[z]).toArray:=by simp
        rw [hpush] at q7
        have I6':Inv (compCx X sc cl G2.objs.size N s H fp (X.pn++pins)) [] (some y::compSt fr σ) H6 s6:=I6.pins_of (fun p hp=>absurd hp (by simp))
        have others:∀ b o,b≠s.heap.objs.size→s6.heap.get? b=some o→(s6.heap.update s.heap.objs.size (Obj.mapSeq fun a=>a.push z)).get? b=some o:=fun b o hb' e=>(Heap.get?_update_other _ _ (Ne.symm hb')).trans e
        refine ⟨m',hm,i+1,xs++[v6],vals++[z],_,some y,H6,I6'.turned (it:=s.heap.objs.size) others b4 hDC (.inr (Nat.le_refl _)) Dcell (fun p hp z'=>?_),T.keep _ _ _ b1 fun b hb' o e=>others b o (fun z'=>Dfp (by rw [← z'];exact hb')) e,b2,q7,rv1.append (.cons r6 .nil),b4,w6⟩
        have hp':p∈X.pn++pins:=by
          have z2:p∈(X.pn++pins)++[]:=hp
          simpa using z2
        exact Dpin p hp' z'
  exact codeAny_compStart_list (loop _ rfl) (T.self _ _ _ _ _ (T.keep _ _ _ st fun b _ o e=>old b o e) (loop _ rfl))
theorem pe_comp (hc:X.calm=true) (hx:∀ e s,¬ X.xe e s) (S:CompSc X sc cl x fr N) (hi:PI X (.Name x px) iter wi) (hb:∀ C s H ex pn,PTs (compCx X sc cl C N s H ex pn) ifs tc∧PE (compCx X sc cl C N s H ex pn) elt te) (hs:∀ v,foldedSetIterable iter X.env v=pure v:=by intro _;rfl):PE X (.ListComp elt [⟨.Name x px,iter,ifs,0⟩] sc pos) (tComp wi fr tc te):=by
 intro pins s σ H Q I h
 unfold tComp at h
 rw [eval_ListComp]
 refine wpAny_comprehension_free (use:=none) rfl hs S.clos S.kind S.names ?_
 refine thn (hi pins s σ H _ I h) fun v s1 h1=>thn h1 fun itv s2 h2=>?_
 obtain ⟨it,fp,tn,J,H2,e,I2,T,st2,f2,W,⟨m0,w0⟩,turn⟩:=h2
 subst e
 refine comp_block (RR:=fun acc C=>compPost (model X.prog X.w) X.A X.xe none (EP X pins σ Q) acc C) hc hx S hb I2 T st2 f2 w0 turn ?_
 intro D C s' m' H' hn _ hfin q
 exact ⟨m',hn,fun h' hs'=>⟨.ref D,H',hfin h' hs',rfl,q⟩⟩
end
theorem CompSc.nofree {X:Cx} {sc:Scope} {x:Str} (kind:sc.kind=.function) (nc:(sc.names.all fun y=>y.2 != .cell && y.2 != .free)=true) (nm:(sc.names.all fun y=>!(y.2 == .local) || sc.names.lookup y.1 == some .local)=true) (tgt:sc.names.lookup x=some .local):CompSc X sc [] x [] [x] where
 kind:=kind
 nocell:=fun y hy e=>by
  have h:=List.all_eq_true.mp nc y hy
  rw [e] at h
  exact absurd h (by decide)
 names:=fun y hy e=>by
  have h:=List.all_eq_true.mp nm y hy
  rw [e] at h
  simpa using h
 clos:=closureFor_none fun y hy e=>by
  have h:=List.all_eq_true.mp nc y hy
  rw [e] at h
  exact absurd h (by decide)
 sub:=fun y c h=>by cases h
 has:=fun y h=>by
  exfalso
  have key:∀ l:List (Str×NameKind),(l.all fun y=>y.2 != .cell && y.2 != .free)=true→∀ k,(l.map fun(n,k)=>if (k == NameKind.free && X.env.scope.kind == .function && X.env.kindOf n == some .cell) then (n,NameKind.cell) else (n,k)).lookup y=some k→k≠.cell∧k≠.free:=by
   intro l
   induction l with
   | nil=>intro _ k e;cases e
   | cons p r ih =>
    obtain ⟨n,kk⟩:=p
    intro ha k e
    rw [List.all_cons,Bool.and_eq_true,Bool.and_eq_true] at ha
    obtain ⟨⟨h1,h2⟩,h3⟩:=ha
    have h2':(kk == NameKind.free)=false:=by simpa using h2
    rw [List.map_cons] at e
    dsimp only at e
    rw [h2',Bool.false_and,Bool.false_and,if_neg Bool.false_ne_true,List.lookup_cons] at e
    cases q:(y == n) with
    | true =>
     rw [q] at e
     have e':kk=k:=Option.some.inj e
     subst e'
     exact ⟨by simpa using h1,by simpa using h2⟩
    | false =>
     rw [q] at e
     exact ih h3 k e
  rcases h with h | h
  ·exact (key sc.names nc _ h).1 rfl
  ·exact (key sc.names nc _ h).2 rfl
 tgt:=tgt
 nd:=by simp
 N0:=rfl
 frc:=fun j hj=>by cases hj
end L2
namespace L2
open PySem PySem.Spec PyProof.Rows
section
variable {X:Cx}
end
noncomputable def Its (x:Str):It:=⟨fun i _=>i < x.cps.size,fun i H y H'=>H'=H∧∃ c,x.cps[i]?=some c∧y=.str ⟨#[c]⟩,fun i _=>x.cps.size≤i⟩
section
variable {X:Cx} {tg:Expr}
noncomputable def iStr (tl:TE):TI:=fun σ H R=>tl σ H fun x H1=>∃ z,x=.str z∧R (Its z) H1
end
noncomputable def cW (n:Nat) (Pv:Nat→List V→Hp→Prop) (i m:Nat) (xs:List V) (H:Hp):Prop:=m=n - i∧i≤n∧Pv i xs H
theorem cW.next {n:Nat} {Pv:Nat→List V→Hp→Prop} {i:Nat} {xs:List V} {H:Hp} (hi:i < n) (p:Pv (i+1) xs H):∃ m',m' < n - i∧cW n Pv (i+1) m' xs H:=⟨n - (i+1),by omega,rfl,hi,p⟩
section
variable {fr:List Nat} {tc:TT} {te:TE} {σ:St} {H:Hp} {Q:VK}
theorem comp_range {lo:Int} {n:Nat} (Pv:Nat→List V→Hp→Prop) (h0:Pv 0 [] H) (hz:∀ i xs H,Pv i xs H→xs.length≤1000000) (hs:∀ i xs H,i < n→Pv i xs H→tc (some (.int (lo+i))::compSt fr σ) H fun b H2=>if b=true then te (some (.int (lo+i))::compSt fr σ) H2 (fun z H3=>∃ m',m' < n - i∧cW n Pv (i+1) m' (xs++[z]) H3) else ∃ m',m' < n - i∧cW n Pv (i+1) m' xs H2) (hd:∀ xs H,Pv n xs H→∀ p,H p=none→Q (.ref p) (upd H p (.lst xs))) : ∃ W:Nat→Nat→List V→Hp→Prop,(∃ m,W 0 m [] H)∧∀ i m xs H,W i m xs H→xs.length≤1000000 ∧ (((Itr lo n).stop i H∧∀ p,H p=none→Q (.ref p) (upd H p (.lst xs))) ∨ ((Itr lo n).go i H∧∀ y H',(Itr lo n).yld i H y H'→tc (some y::compSt fr σ) H' fun b H2=>if b=true then te (some y::compSt fr σ) H2 (fun z H3=>∃ m',m' < m∧W (i+1) m' (xs++[z]) H3) else ∃ m',m' < m∧W (i+1) m' xs H2)):=by
 refine ⟨cW n Pv,⟨n,by simp,Nat.zero_le _,h0⟩,?_⟩
 rintro i m xs H ⟨rfl,hi,p⟩
 refine ⟨hz i xs H p,?_⟩
 by_cases hlt:i < n
 ·refine .inr ⟨hlt,fun y H' yy=>?_⟩
  obtain ⟨e,rfl⟩:=yy
  subst e
  exact hs i xs _ hlt p
 ·have e:i=n:=by omega
  subst e
  exact .inl ⟨Nat.le_refl _,hd xs H p⟩
end
section
variable {fr:List Nat} {tc:TT} {te:TE} {σ:St} {H H1:Hp} {Q:VK}
end
end L2
namespace L2
open PySem PySem.Spec PyProof.Rows
theorem mem_of_lookupS {l:List (Str×NameKind)} {y:Str} {k:NameKind} (h:l.lookup y=some k):(y,k)∈l:=PySem.mem_of_lookup h
theorem CompSc.free {X:Cx} {sc:Scope} {cl:List (Str×Addr)} {x:Str} {fr:List Nat} {N:List Str} (kind:sc.kind=.function) (nc:(sc.names.all fun y=>y.2 != .cell)=true) (nm:(sc.names.all fun y=>!(y.2 == .local) || sc.names.lookup y.1 == some .local)=true) (tgt:sc.names.lookup x=some .local) (clos:closureFor sc X.env=pure cl) (sub:∀ y c,cl.lookup y=some c→X.env.cells.lookup y=some c) (has:((relabel sc X.env).names.all fun y=>(y.2 != .cell && y.2 != .free) || (cl.lookup y.1).isSome)=true) (nd:N.Nodup) (N0:N=x::fr.map fun j=>X.N.getD j x) (frc:∀ j∈fr,∃ y,X.N[j]?=some y∧X.env.kindOf y=some .cell∧((relabel sc X.env).names.lookup y=some .cell∨(relabel sc X.env).names.lookup y=some .free)):CompSc X sc cl x fr N where
 kind:=kind
 nocell:=fun y hy e=>by
  have h:=List.all_eq_true.mp nc y hy
  rw [e] at h
  exact absurd h (by decide)
 names:=fun y hy e=>by
  have h:=List.all_eq_true.mp nm y hy
  rw [e] at h
  simpa using h
 clos:=clos
 sub:=sub
 has:=fun y h=>by
  have key:∀ k,(relabel sc X.env).names.lookup y=some k→(k=.cell∨k=.free)→∃ c,cl.lookup y=some c:=fun k e hk=>by
   have h:=List.all_eq_true.mp has (y,k) (mem_of_lookupS e)
   rcases hk with rfl | rfl
   ·exact Option.isSome_iff_exists.mp (by simpa using h)
   ·exact Option.isSome_iff_exists.mp (by simpa using h)
  rcases h with h | h
  ·exact key _ h (.inl rfl)
  ·exact key _ h (.inr rfl)
 tgt:=tgt
 nd:=nd
 N0:=N0
 frc:=frc
section
variable {X:Cx} {sc:Scope} {cl:List (Str×Addr)} {x:Str} {fr:List Nat} {N:List Str} {elt iter:Expr} {px pos:Pos} {ifs:List Expr} {wi:TI} {tc:TT} {te:TE}
end
section
variable {prog:Program} {w:World} {A:Around} {E:Value→Shared→Prop} {s:Shared}
end
end L2
namespace L2
open PySem PySem.Spec PyProof.Rows
section
variable {σ:St} {H:Hp} {Q:VK} {i j:Int} {x y:Str} {v:V} {n:Nat} {a:Addr}
theorem w_v0s:tVar 0 (some v::σ) H Q=Q v H:=by simp [tVar]
theorem w_vS {o:Option V}:tVar (n+1) (o::σ) H Q=tVar n σ H Q:=by simp [tVar]
theorem w_v1 {o0:Option V}:tVar 1 (o0::some v::σ) H Q=Q v H:=(w_vS.trans w_v0s)
theorem w_v2 {o0 o1:Option V}:tVar 2 (o0::o1::some v::σ) H Q=Q v H:=(w_vS.trans w_v1)
theorem w_v3 {o0 o1 o2:Option V}:tVar 3 (o0::o1::o2::some v::σ) H Q=Q v H:=(w_vS.trans w_v2)
theorem w_v4 {o0 o1 o2 o3:Option V}:tVar 4 (o0::o1::o2::o3::some v::σ) H Q=Q v H:=(w_vS.trans w_v3)
theorem w_v5 {o0 o1 o2 o3 o4:Option V}:tVar 5 (o0::o1::o2::o3::o4::some v::σ) H Q=Q v H:=(w_vS.trans w_v4)
theorem w_v6 {o0 o1 o2 o3 o4 o5:Option V}:tVar 6 (o0::o1::o2::o3::o4::o5::some v::σ) H Q=Q v H:=(w_vS.trans w_v5)
theorem w_v7 {o0 o1 o2 o3 o4 o5 o6:Option V}:tVar 7 (o0::o1::o2::o3::o4::o5::o6::some v::σ) H Q=Q v H:=(w_vS.trans w_v6)
theorem w_v8 {o0 o1 o2 o3 o4 o5 o6 o7:Option V}:tVar 8 (o0::o1::o2::o3::o4::o5::o6::o7::some v::σ) H Q=Q v H:=(w_vS.trans w_v7)
theorem w_v9 {o0 o1 o2 o3 o4 o5 o6 o7 o8:Option V}:tVar 9 (o0::o1::o2::o3::o4::o5::o6::o7::o8::some v::σ) H Q=Q v H:=(w_vS.trans w_v8)
theorem w_v10 {o0 o1 o2 o3 o4 o5 o6 o7 o8 o9:Option V}:tVar 10 (o0::o1::o2::o3::o4::o5::o6::o7::o8::o9::some v::σ) H Q=Q v H:=(w_vS.trans w_v9)
theorem w_v11 {o0 o1 o2 o3 o4 o5 o6 o7 o8 o9 o10:Option V}:tVar 11 (o0::o1::o2::o3::o4::o5::o6::o7::o8::o9::o10::some v::σ) H Q=Q v H:=(w_vS.trans w_v10)
theorem w_v12 {o0 o1 o2 o3 o4 o5 o6 o7 o8 o9 o10 o11:Option V}:tVar 12 (o0::o1::o2::o3::o4::o5::o6::o7::o8::o9::o10::o11::some v::σ) H Q=Q v H:=(w_vS.trans w_v11)
theorem w_v13 {o0 o1 o2 o3 o4 o5 o6 o7 o8 o9 o10 o11 o12:Option V}:tVar 13 (o0::o1::o2::o3::o4::o5::o6::o7::o8::o9::o10::o11::o12::some v::σ) H Q=Q v H:=(w_vS.trans w_v12)
theorem w_v14 {o0 o1 o2 o3 o4 o5 o6 o7 o8 o9 o10 o11 o12 o13:Option V}:tVar 14 (o0::o1::o2::o3::o4::o5::o6::o7::o8::o9::o10::o11::o12::o13::some v::σ) H Q=Q v H:=(w_vS.trans w_v13)
theorem w_v15 {o0 o1 o2 o3 o4 o5 o6 o7 o8 o9 o10 o11 o12 o13 o14:Option V}:tVar 15 (o0::o1::o2::o3::o4::o5::o6::o7::o8::o9::o10::o11::o12::o13::o14::some v::σ) H Q=Q v H:=(w_vS.trans w_v14)
theorem w_v16 {o0 o1 o2 o3 o4 o5 o6 o7 o8 o9 o10 o11 o12 o13 o14 o15:Option V}:tVar 16 (o0::o1::o2::o3::o4::o5::o6::o7::o8::o9::o10::o11::o12::o13::o14::o15::some v::σ) H Q=Q v H:=(w_vS.trans w_v15)
theorem w_v17 {o0 o1 o2 o3 o4 o5 o6 o7 o8 o9 o10 o11 o12 o13 o14 o15 o16:Option V}:tVar 17 (o0::o1::o2::o3::o4::o5::o6::o7::o8::o9::o10::o11::o12::o13::o14::o15::o16::some v::σ) H Q=Q v H:=(w_vS.trans w_v16)
theorem w_v18 {o0 o1 o2 o3 o4 o5 o6 o7 o8 o9 o10 o11 o12 o13 o14 o15 o16 o17:Option V}:tVar 18 (o0::o1::o2::o3::o4::o5::o6::o7::o8::o9::o10::o11::o12::o13::o14::o15::o16::o17::some v::σ) H Q=Q v H:=(w_vS.trans w_v17)
theorem w_v19 {o0 o1 o2 o3 o4 o5 o6 o7 o8 o9 o10 o11 o12 o13 o14 o15 o16 o17 o18:Option V}:tVar 19 (o0::o1::o2::o3::o4::o5::o6::o7::o8::o9::o10::o11::o12::o13::o14::o15::o16::o17::o18::some v::σ) H Q=Q v H:=(w_vS.trans w_v18)
theorem w_v20 {o0 o1 o2 o3 o4 o5 o6 o7 o8 o9 o10 o11 o12 o13 o14 o15 o16 o17 o18 o19:Option V}:tVar 20 (o0::o1::o2::o3::o4::o5::o6::o7::o8::o9::o10::o11::o12::o13::o14::o15::o16::o17::o18::o19::some v::σ) H Q=Q v H:=(w_vS.trans w_v19)
theorem w_v21 {o0 o1 o2 o3 o4 o5 o6 o7 o8 o9 o10 o11 o12 o13 o14 o15 o16 o17 o18 o19 o20:Option V}:tVar 21 (o0::o1::o2::o3::o4::o5::o6::o7::o8::o9::o10::o11::o12::o13::o14::o15::o16::o17::o18::o19::o20::some v::σ) H Q=Q v H:=(w_vS.trans w_v20)
theorem w_v22 {o0 o1 o2 o3 o4 o5 o6 o7 o8 o9 o10 o11 o12 o13 o14 o15 o16 o17 o18 o19 o20 o21:Option V}:tVar 22 (o0::o1::o2::o3::o4::o5::o6::o7::o8::o9::o10::o11::o12::o13::o14::o15::o16::o17::o18::o19::o20::o21::some v::σ) H Q=Q v H:=(w_vS.trans w_v21)
theorem w_v23 {o0 o1 o2 o3 o4 o5 o6 o7 o8 o9 o10 o11 o12 o13 o14 o15 o16 o17 o18 o19 o20 o21 o22:Option V}:tVar 23 (o0::o1::o2::o3::o4::o5::o6::o7::o8::o9::o10::o11::o12::o13::o14::o15::o16::o17::o18::o19::o20::o21::o22::some v::σ) H Q=Q v H:=(w_vS.trans w_v22)
theorem w_v24 {o0 o1 o2 o3 o4 o5 o6 o7 o8 o9 o10 o11 o12 o13 o14 o15 o16 o17 o18 o19 o20 o21 o22 o23:Option V}:tVar 24 (o0::o1::o2::o3::o4::o5::o6::o7::o8::o9::o10::o11::o12::o13::o14::o15::o16::o17::o18::o19::o20::o21::o22::o23::some v::σ) H Q=Q v H:=(w_vS.trans w_v23)
theorem w_v25 {o0 o1 o2 o3 o4 o5 o6 o7 o8 o9 o10 o11 o12 o13 o14 o15 o16 o17 o18 o19 o20 o21 o22 o23 o24:Option V}:tVar 25 (o0::o1::o2::o3::o4::o5::o6::o7::o8::o9::o10::o11::o12::o13::o14::o15::o16::o17::o18::o19::o20::o21::o22::o23::o24::some v::σ) H Q=Q v H:=(w_vS.trans w_v24)
theorem w_v26 {o0 o1 o2 o3 o4 o5 o6 o7 o8 o9 o10 o11 o12 o13 o14 o15 o16 o17 o18 o19 o20 o21 o22 o23 o24 o25:Option V}:tVar 26 (o0::o1::o2::o3::o4::o5::o6::o7::o8::o9::o10::o11::o12::o13::o14::o15::o16::o17::o18::o19::o20::o21::o22::o23::o24::o25::some v::σ) H Q=Q v H:=(w_vS.trans w_v25)
theorem w_v27 {o0 o1 o2 o3 o4 o5 o6 o7 o8 o9 o10 o11 o12 o13 o14 o15 o16 o17 o18 o19 o20 o21 o22 o23 o24 o25 o26:Option V}:tVar 27 (o0::o1::o2::o3::o4::o5::o6::o7::o8::o9::o10::o11::o12::o13::o14::o15::o16::o17::o18::o19::o20::o21::o22::o23::o24::o25::o26::some v::σ) H Q=Q v H:=(w_vS.trans w_v26)
theorem w_v28 {o0 o1 o2 o3 o4 o5 o6 o7 o8 o9 o10 o11 o12 o13 o14 o15 o16 o17 o18 o19 o20 o21 o22 o23 o24 o25 o26 o27:Option V}:tVar 28 (o0::o1::o2::o3::o4::o5::o6::o7::o8::o9::o10::o11::o12::o13::o14::o15::o16::o17::o18::o19::o20::o21::o22::o23::o24::o25::o26::o27::some v::σ) H Q=Q v H:=(w_vS.trans w_v27)
theorem w_v29 {o0 o1 o2 o3 o4 o5 o6 o7 o8 o9 o10 o11 o12 o13 o14 o15 o16 o17 o18 o19 o20 o21 o22 o23 o24 o25 o26 o27 o28:Option V}:tVar 29 (o0::o1::o2::o3::o4::o5::o6::o7::o8::o9::o10::o11::o12::o13::o14::o15::o16::o17::o18::o19::o20::o21::o22::o23::o24::o25::o26::o27::o28::some v::σ) H Q=Q v H:=(w_vS.trans w_v28)
theorem w_v30 {o0 o1 o2 o3 o4 o5 o6 o7 o8 o9 o10 o11 o12 o13 o14 o15 o16 o17 o18 o19 o20 o21 o22 o23 o24 o25 o26 o27 o28 o29:Option V}:tVar 30 (o0::o1::o2::o3::o4::o5::o6::o7::o8::o9::o10::o11::o12::o13::o14::o15::o16::o17::o18::o19::o20::o21::o22::o23::o24::o25::o26::o27::o28::o29::some v::σ) H Q=Q v H:=(w_vS.trans w_v29)
theorem m_cons {α β:Type} {f:α→β} {a:α} {l:List α}:List.map f (a::l)=f a::List.map f l:=rfl
theorem m_nil {α β:Type} {f:α→β}:List.map f []=[]:=rfl
theorem w_rI {C:Int→Int→Prop} {g:Int→Int→V}:rI C g (.int i) (.int j) H Q=(C i j∧Q (g i j) H):=by simp [rI]
theorem w_rI0 {g:Int→Int→V}:rI0 g (.int i) (.int j) H Q=Q (g i j) H:=by simp [rI0]
theorem w_rU {g:Int→V}:rU g (.int i) H Q=Q (g i) H:=by simp [rU]
theorem w_lit (h:Nat.ble n 1000=true):(n≤sizeLine)=True:=eq_true (Nat.le_of_lt (small1000 (Nat.le_of_ble_eq_true h)))
theorem w_eqI:rEq (.int i) (.int j) H Q=Q (.bl (decide (i=j))) H:=by simp only [rEq,show scal (.int i) (.int j)=true from rfl,V.int.injEq,true_and]
theorem w_eqS:rEq (.str x) (.str y) H Q=Q (.bl (decide (x=y))) H:=by simp only [rEq,show scal (.str x) (.str y)=true from rfl,V.str.injEq,true_and]
theorem w_neI:rNe (.int i) (.int j) H Q=Q (.bl (!decide (i=j))) H:=by simp only [rNe,show scal (.int i) (.int j)=true from rfl,V.int.injEq,true_and]
theorem w_neS:rNe (.str x) (.str y) H Q=Q (.bl (!decide (x=y))) H:=by simp only [rNe,show scal (.str x) (.str y)=true from rfl,V.str.injEq,true_and]
end
theorem w_sinj {a b:String}:(Str.ofString a=Str.ofString b)=(a=b):=by
 refine propext ⟨fun h=>?_,fun h=>by rw [h]⟩
 rw [Str.ofString_eq_toList,Str.ofString_eq_toList] at h
 have e:(a.toList.map Char.toNat)=(b.toList.map Char.toNat):=by
  have:=congrArg (fun z:Str=>z.cps.toList) h
  simpa using this
 have inj:∀ x y:Char,x.toNat=y.toNat→x=y:=fun x y q=>Char.ext (UInt32.toNat_inj.mp q)
 have:=(List.map_inj_right (f:=Char.toNat) (fun x y q=>inj x y q)).mp e
 exact String.toList_inj.mp this
noncomputable def Kp (S:List Addr) (H H':Hp):Prop:=∀ b o,H b=some o→b∉S→H' b=some o
section
variable {S T:List Addr} {H H1 H2:Hp} {a p:Addr} {o:HO}
theorem Kp.refl:Kp S H H:=fun _ _ h _=>h
theorem Kp.trans (x:Kp S H H1) (y:Kp S H1 H2):Kp S H H2:=fun b o h n=>y b o (x b o h n) n
theorem Kp.mono (x:Kp S H H1) (h:∀ b∈S,b∈T):Kp T H H1:=fun b o e n=>x b o e fun z=>n (h b z)
theorem Kp.new (h:H p=none):Kp S H (upd H p o):=fun b u e _=>by rw [upd_ne (ne_of_none e h)];exact e
theorem Kp.set (h:p∈S):Kp S H (upd H p o):=fun b u e n=>by rw [upd_ne (show b≠p from fun z=>n (by rw [z];exact h))];exact e
theorem Kp.at (x:Kp S H H1) (e:H a=some o) (n:a∉S:=by first | exact List.not_mem_nil | simp_all):H1 a=some o:=x a o e n
theorem Kp.same (x:Kp [] H H1):Same H H1:=fun b o e=>x b o e (by simp)
theorem Kp.of (x:Same H H1):Kp S H H1:=fun b o e _=>x b o e
theorem Kp.drop (x:Kp (p::S) H H1) (h:H p=none):Kp S H H1:=fun b o e n=>x b o e (by
 simp only [List.mem_cons,not_or]
 exact ⟨ne_of_none e h,n⟩)
end
end L2
namespace L2
open PySem PySem.Spec PyProof.Rows
noncomputable abbrev Tg {α:Type} (_:α):Type:=Unit
noncomputable def onO {α:Type} (o:Option α) (k:α→Prop) (_u:Tg k:=()):Prop:=match o with
 | some x=>k x
 | none=>False
noncomputable def onB (x:V) (k:Bool→Prop) (_u:Tg k:=()):Prop:=match x with
 | .bl b=>k b
 | _=>False
noncomputable def onLst (o:Option HO) (k:List V→Prop) (_u:Tg k:=()):Prop:=match o with
 | some (.lst xs)=>k xs
 | _=>False
noncomputable def onSeq (o:Option HO) (k:List V→Prop) (_u:Tg k:=()):Prop:=match o with
 | some (.lst xs)=>k xs
 | some (.tup xs)=>k xs
 | _=>False
noncomputable def onDct (o:Option HO) (k:List (Key×V)→Prop) (_u:Tg k:=()):Prop:=match o with
 | some (.dK xs)=>k xs
 | _=>False
noncomputable def onRef (x:V) (k:Addr→Prop) (_u:Tg k:=()):Prop:=match x with
 | .ref p=>k p
 | _=>False
noncomputable def onInt (x:V) (k:Int→Prop) (_u:Tg k:=()):Prop:=match x with
 | .int i=>k i
 | _=>False
theorem onO_of {α:Type} {o:Option α} {k:α→Prop} (h:onO o k):∃ x,o=some x∧k x:=by
 cases o with
 | none=>exact h.elim
 | some x=>exact ⟨x,rfl,h⟩
theorem onB_of {x:V} {k:Bool→Prop} (h:onB x k):∃ b,x=.bl b∧k b:=by
 cases x with
 | bl b=>exact ⟨b,rfl,h⟩
 | _=>exact h.elim
theorem onB_eq {x:V} {k:Bool→Prop}:(∃ b,x=.bl b∧k b)=onB x k:=by
 refine propext ⟨fun ⟨b,e,h⟩=>by subst e;exact h,onB_of⟩
theorem onRef_of {x:V} {k:Addr→Prop} (h:onRef x k):∃ b,x=.ref b∧k b:=by
 cases x with
 | ref b=>exact ⟨b,rfl,h⟩
 | _=>exact h.elim
theorem onInt_of {x:V} {k:Int→Prop} (h:onInt x k):∃ b,x=.int b∧k b:=by
 cases x with
 | int b=>exact ⟨b,rfl,h⟩
 | _=>exact h.elim
theorem onLst_of {o:Option HO} {k:List V→Prop} (h:onLst o k):∃ xs,o=some (.lst xs)∧k xs:=by
 unfold onLst at h
 split at h
 ·exact ⟨_,rfl,h⟩
 ·exact h.elim
theorem onSeq_of {o:Option HO} {k:List V→Prop} (h:onSeq o k):∃ xs,(o=some (.lst xs)∨o=some (.tup xs))∧k xs:=by
 unfold onSeq at h
 split at h
 ·exact ⟨_,.inl rfl,h⟩
 ·exact ⟨_,.inr rfl,h⟩
 ·exact h.elim
theorem onDct_of {o:Option HO} {k:List (Key×V)→Prop} (h:onDct o k):∃ xs,o=some (.dK xs)∧k xs:=by
 unfold onDct at h
 split at h
 ·exact ⟨_,rfl,h⟩
 ·exact h.elim
noncomputable def cIx:R2:=fun x y H Q=>match x with
 | .ref p=>onSeq (H p) fun xs=>onInt y fun i=>onO (atI xs i) fun v=>Q v H
 | .str z=>onInt y fun i=>z.length≤sizeLine∧onO (atI z.cps.toList i) fun c=>Q (.str ⟨#[c]⟩) H
 | _=>False
noncomputable def cCat (H:Hp) (Q:VK) (a:Addr) (oa ob:Option HO):Prop:=match oa,ob with
 | some (.lst xs),some (.lst ys)=>xs.length+ys.length≤sizeLine∧∀ p,H p=none→Q (.ref p) (upd H p (.lst (xs++ys)))
 | some (.tup xs),some (.tup ys)=>xs≠[]∧xs.length+ys.length≤sizeLine∧(ys≠[]→∀ p,H p=none→Q (.ref p) (upd H p (.tup (xs++ys))))∧(ys=[]→Q (.ref a) H)
 | _,_=>False
noncomputable def cAdd:R2:=fun x y H Q=>match x,y with
 | .int i,.int j=>Q (.int (i+j)) H
 | .str a,.str b=>a.length+b.length≤sizeLine∧Q (.str (a++b)) H
 | .ref a,.ref b=>cCat H Q a (H a) (H b)
 | _,_=>False
noncomputable def cCut (lo hi:Option Int) (H:Hp) (Q:VK) (o:Option HO):Prop:=match o with
 | some (.lst xs)=>∀ p,H p=none→Q (.ref p) (upd H p (.lst (cutV xs lo hi)))
 | some (.tup xs)=>¬ (HT.sIx xs.length 0 lo=0∧HT.sIx xs.length xs.length hi=xs.length)∧∀ p,H p=none→Q (.ref p) (upd H p (.tup (cutV xs lo hi)))
 | _=>False
noncomputable def cSl:V→Option Int→Option Int→Hp→VK→Prop:=fun x lo hi H Q=>match x with
 | .str z=>z.length≤sizeLine∧Q (.str (Txt.slice z lo hi)) H
 | .ref a=>cCut lo hi H Q (H a)
 | _=>False
noncomputable def cLen:List V→Hp→VK→Prop:=fun vs H Q=>match vs with
 | [.str z]=>z.length≤sizeLine∧Q (.int z.length) H
 | [.ref p]=>onSeq (H p) fun xs=>Q (.int xs.length) H
 | _=>False
noncomputable def cSet:V→V→V→Hp→(Hp→Prop)→Prop:=fun o i v H Q=>onRef o fun p=>onInt i fun k=>onLst (H p) fun xs=>onO (ixN xs.length k) fun j=>Q (upd H p (.lst (xs.set j v)))
noncomputable def keyO:V→Option Key
 | .int i=>some (.inl i)
 | .str x=>some (.inr x)
 | .non=>some .no
 | _=>none
theorem keyO_kV {y:V} {k:Key} (h:keyO y=some k):y=kV k:=by
 cases y<;>simp only [keyO,Option.some.injEq,reduceCtorEq] at h<;>subst h<;>rfl
noncomputable def cGet1 (td ty:TE):TE:=fun σ H Q=>td σ H fun x H1=>onRef x fun a=>onDct (H1 a) fun _=>ty σ H1 fun y H2=>onDct (H2 a) fun kvs=>onO (keyO y) fun k=>Q ((valV kvs k).getD .non) H2
noncomputable def cGet (td ty:TE):TE:=fun σ H Q=>td σ H fun x H1=>ty σ H1 fun y H2=>onRef x fun a=>onDct (H2 a) fun kvs=>onO (keyO y) fun k=>onO (valV kvs k) fun v=>Q v H2
noncomputable def cPut (td ty tv:TE):TS:=fun D σ H=>tv σ H fun v H1=>td σ H1 fun x H2=>ty σ H2 fun y H3=>onRef x fun a=>onDct (H3 a) fun kvs=>onO (keyO y) fun k=>kvs.length < sizeLine∧D.nx σ (upd H3 a (.dK (putK kvs k v)))
noncomputable def cIn (neg:Bool):R2:=fun x y H Q=>onRef y fun p=>onSeq (H p) fun xs=>flatV x=true∧xs.all flatV=true∧Q (.bl (if neg=true then !inV x xs else inV x xs)) H
noncomputable def cInt:List V→Hp→VK→Prop:=fun vs H Q=>match vs with
 | [.int i]=>Q (.int i) H
 | [.bl k]=>Q (.int (if k=true then 1 else 0)) H
 | _=>False
noncomputable def cIsN:R2:=fun x y H Q=>match y with
 | .non=>Q (.bl (decide (x=.non))) H
 | _=>False
noncomputable def cNotN:R2:=fun x y H Q=>match y with
 | .non=>Q (.bl (!decide (x=.non))) H
 | _=>False
noncomputable def cMax:List V→Hp→VK→Prop:=fun vs H Q=>match vs with
 | [.int i,.int j]=>Q (.int (if j > i then j else i)) H
 | _=>False
noncomputable def cMin:List V→Hp→VK→Prop:=fun vs H Q=>match vs with
 | [.int i,.int j]=>Q (.int (if j < i then j else i)) H
 | _=>False
noncomputable def cAbs:List V→Hp→VK→Prop:=fun vs H Q=>match vs with
 | [.int i]=>Q (.int (if i < 0 then -i else i)) H
 | _=>False
noncomputable def kSc (v:V) (T:String):Option Bool:=match v with
 | .int _=>if T = "int" then some true else if T = "bool"∨T = "str"∨T = "tuple" then some false else none
 | .bl _=>if T = "int"∨T = "bool" then some true else if T = "str"∨T = "tuple" then some false else none
 | .str _=>if T = "str" then some true else if T = "int"∨T = "bool"∨T = "tuple" then some false else none
 | .non=>if T = "int"∨T = "bool"∨T = "str"∨T = "tuple" then some false else none
 | _=>none
noncomputable def kRef (o:Option HO) (T:String):Option Bool:=match o with
 | some (.lst _)=>if T = "int"∨T = "bool"∨T = "str"∨T = "tuple" then some false else none
 | some (.tup _)=>if T = "tuple" then some true else if T = "int"∨T = "bool"∨T = "str" then some false else none
 | some (.dK _)=>if T = "int"∨T = "bool"∨T = "str" then some false else none
 | _=>none
noncomputable def cIsi:List V→Hp→VK→Prop:=fun vs H Q=>match vs with
 | [.ref p,.ty T]=>onO (kRef (H p) T) fun b=>Q (.bl b) H
 | [v,.ty T]=>onO (kSc v T) fun b=>Q (.bl b) H
 | _=>False
theorem kSc_of {K:PySem.W.Frag} {H:Hp} {v:V} {T:String} {b:Bool} (h:kSc v T=some b):IsI K H v T b:=by
 unfold kSc at h
 split at h
 all_goals (repeat' split at h)
 all_goals first
  | cases h
  | skip
 all_goals first
  | (subst_vars;constructor)
  | (rename_i q;rcases q with rfl | rfl<;>constructor)
  | (rename_i q _;rcases q with rfl | rfl<;>constructor)
  | (rename_i q;rcases q with rfl | rfl | rfl<;>constructor)
  | (rename_i q;rcases q with rfl | rfl | rfl | rfl<;>constructor)
theorem kRef_of {K:PySem.W.Frag} {H:Hp} {p:Addr} {T:String} {b:Bool} (h:kRef (H p) T=some b):IsI K H (.ref p) T b:=by
 unfold kRef at h
 split at h
 ·rename_i xs e
  have q:SqL K H p xs:=.inl (.inl e)
  split at h
  ·cases h
   rename_i z
   rcases z with rfl | rfl | rfl | rfl
   ·exact .li q
   ·exact .lb q
   ·exact .ls q
   ·exact .lt q
  ·cases h
 ·rename_i xs e
  have q:SqT K H p xs:=.inl (.inl e)
  split at h
  ·cases h
   subst_vars
   exact .tt q
  ·split at h
   ·cases h
    rename_i z
    rcases z with rfl | rfl | rfl
    ·exact .ti q
    ·exact .tb q
    ·exact .ts q
   ·cases h
 ·rename_i kvs e
  split at h
  ·cases h
   rename_i z
   rcases z with rfl | rfl | rfl
   ·exact .di e
   ·exact .db e
   ·exact .ds e
  ·cases h
 ·cases h
noncomputable def cApp (to te:TE):TE:=fun σ H Q=>to σ H fun x H1=>onRef x fun a=>onLst (H1 a) fun _=>te σ H1 fun y H2=>onLst (H2 a) fun xs=>xs.length < sizeLine∧Q .non (upd H2 a (.lst (xs++[y])))
noncomputable def cPop (to:TE):TE:=fun σ H Q=>to σ H fun x H1=>onRef x fun a=>onLst (H1 a) fun xs=>onO (xs[xs.length - 1]?) fun y=>Q y (upd H1 a (.lst xs.dropLast))
section
variable {X:Cx}
theorem IxR.imp {r r':R2} (h:IxR X r) (f:∀ x y H Q,r' x y H Q→r x y H Q):IxR X r':=fun value slice pins s σ H x y v u Q I rx ry q=>h value slice pins s σ H x y v u Q I rx ry (f _ _ _ _ q)
theorem OpR.imp {f:Value→Value→Sem Value} {r r':R2} (h:OpR X f r) (g:∀ x y H Q,r' x y H Q→r x y H Q):OpR X f r':=fun pins s σ H x y v u Q I rx ry q=>h pins s σ H x y v u Q I rx ry (g _ _ _ _ q)
theorem ix_c:IxR X cIx:=ix_seq.imp fun x y H Q h=>by
 cases x with
 | ref p =>
  obtain ⟨xs,e,h⟩:=onSeq_of h
  obtain ⟨i,rfl,h⟩:=onInt_of h
  obtain ⟨v,e2,h⟩:=onO_of h
  rcases e with e | e
  ·exact .inl ⟨_,_,_,_,rfl,rfl,.inl (.inl e),e2,h⟩
  ·exact .inr (.inl ⟨_,_,_,_,rfl,rfl,.inl (.inl e),e2,h⟩)
 | str z =>
  obtain ⟨i,rfl,h1,h⟩:=onInt_of h
  obtain ⟨v,e2,h⟩:=onO_of h
  exact .inr (.inr ⟨_,_,_,rfl,rfl,h1,e2,h⟩)
 | _=>exact h.elim
theorem op_addC:OpR X (binaryOp .Add) cAdd:=(op_add.or (op_add_str.or (op_cat.or op_catT))).imp fun x y H Q h=>by
 unfold cAdd cCat at h
 split at h
 ·exact .inl ⟨_,_,rfl,rfl,h⟩
 ·exact .inr (.inl ⟨_,_,rfl,rfl,h.1,h.2⟩)
 ·split at h
  ·exact .inr (.inr (.inl ⟨_,_,_,_,rfl,rfl,‹_›,‹_›,h.1,h.2⟩))
  ·exact .inr (.inr (.inr ⟨_,_,_,_,rfl,rfl,.inl (.inl ‹_›),.inl (.inl ‹_›),h.1,h.2.1,h.2.2.2,h.2.2.1⟩))
  ·exact h.elim
 ·exact h.elim
theorem call_lenC:CallR X (.builtin "len") cLen:=fun pins s σ H xs us Q I r h=>by
 unfold cLen at h
 split at h
 ·exact call_len pins s σ H _ us Q I r ⟨_,_,rfl,⟨h.1,rfl⟩,h.2⟩
 ·obtain ⟨ys,e,h⟩:=onSeq_of h
  rcases e with e | e
  ·exact call_len pins s σ H _ us Q I r ⟨_,_,rfl,.inl ⟨_,.inl (.inl e),rfl⟩,h⟩
  ·exact call_len pins s σ H _ us Q I r ⟨_,_,rfl,.inr ⟨_,.inl (.inl e),rfl⟩,h⟩
 ·exact h.elim
theorem set_c:PSet X cSet:=fun pins s σ H o i v ov iv u Q I ro ri rv h=>by
 obtain ⟨p,rfl,h⟩:=onRef_of h
 obtain ⟨k,rfl,h⟩:=onInt_of h
 obtain ⟨xs,e,h⟩:=onLst_of h
 obtain ⟨j,e2,h⟩:=onO_of h
 exact set_list pins s σ H _ _ v ov iv u Q I ro ri rv ⟨_,_,_,_,rfl,rfl,e,e2,h⟩
theorem op_inC:OpR X (compareOp .In) (cIn false):=op_in_seq.imp fun x y H Q h=>by
 obtain ⟨p,rfl,h⟩:=onRef_of h
 obtain ⟨xs,e,h1,h2,h⟩:=onSeq_of h
 exact ⟨_,_,rfl,e.imp (fun e=>.inl (.inl e)) (fun e=>.inl (.inl e)),h1,h2,h⟩
theorem op_notInC:OpR X (compareOp .NotIn) (cIn true):=op_notIn_seq.imp fun x y H Q h=>by
 obtain ⟨p,rfl,h⟩:=onRef_of h
 obtain ⟨xs,e,h1,h2,h⟩:=onSeq_of h
 exact ⟨_,_,rfl,e.imp (fun e=>.inl (.inl e)) (fun e=>.inl (.inl e)),h1,h2,h⟩
theorem call_intC:CallR X (.type "int") cInt:=fun pins s σ H xs us Q I r h=>by
 refine call_int1 pins s σ H xs us Q I r ?_
 unfold cInt at h
 split at h
 ·exact .inl ⟨_,rfl,h⟩
 ·exact .inr ⟨_,rfl,by
   rename_i k
   cases k<;>exact h⟩
 ·exact h.elim
theorem op_isC:OpR X (compareOp .Is) cIsN:=op_isN.imp fun x y H Q h=>by
 cases y with
 | non=>exact ⟨rfl,h⟩
 | _=>exact h.elim
theorem op_isnotC:OpR X (compareOp .IsNot) cNotN:=op_notN.imp fun x y H Q h=>by
 cases y with
 | non=>exact ⟨rfl,h⟩
 | _=>exact h.elim
theorem call_maxC (hc:X.calm=true):CallR X (.builtin "max") cMax:=fun pins s σ H xs us Q I r h=>by
 refine call_max2 hc pins s σ H xs us Q I r ?_
 unfold cMax at h
 split at h
 ·exact ⟨_,_,rfl,h⟩
 ·exact h.elim
theorem call_minC (hc:X.calm=true):CallR X (.builtin "min") cMin:=fun pins s σ H xs us Q I r h=>by
 refine call_min2 hc pins s σ H xs us Q I r ?_
 unfold cMin at h
 split at h
 ·exact ⟨_,_,rfl,h⟩
 ·exact h.elim
theorem call_isiC:CallR X (.builtin "isinstance") cIsi:=fun pins s σ H xs us Q I r h=>by
 refine call_isi pins s σ H xs us Q I r ?_
 unfold cIsi at h
 split at h
 ·obtain ⟨b,e,h⟩:=onO_of h
  exact ⟨_,_,b,rfl,kRef_of e,h⟩
 ·obtain ⟨b,e,h⟩:=onO_of h
  exact ⟨_,_,b,rfl,kSc_of e,h⟩
 ·exact h.elim
variable {o e:Expr} {to te:TE} {apos cpos:Pos}
theorem pe_appC (ho:PE X o to) (he:PE X e te) (hbase:attributeBase o "append" X.env (eval o X.env)=eval o X.env:=by rfl) (hfew:((backTo cpos (starEach [e] X.env)).all (fun x=>!x.1) && (backToKw cpos (keywordEach [] X.env)).all (fun x=>x.1.isSome) && decide ([e].length+([]:List Keyword).length+(if ([]:List Keyword).isEmpty then 0 else 1) < 30))=true:=by rfl) (hline:(apos.endLine == cpos.line)=true:=by rfl) (hs:starEach [e] X.env=(false,eval e X.env)::starEach [] X.env:=by rfl) (hplain:(backTo cpos (starEach [] X.env)).any (·.1)=false:=by rfl) : PE X (.Call (.Attribute o "append" apos) [e] [] cpos) (cApp to te):=by
 intro pins s σ H Q I h
 refine wpAny_Call_method_late hbase hfew hline rfl (thn (ho pins s σ H _ I h) fun v s1 ⟨x,H1,I1,r1,q1⟩=>?_)
 obtain ⟨a,rfl,q1⟩:=onRef_of q1
 obtain ⟨xs,e1,q1⟩:=onLst_of q1
 obtain ⟨h1,h2⟩:=tyV_is (T:="list") I1 r1 (.inl ⟨rfl,xs,.inl (.inl e1)⟩)
 refine ⟨"list","list.append",PySem.F.plainAttrs_list,PySem.F.slot_list_append,PySem.F.type_list_append,h1,h2,?_⟩
 have q2:tCons te tNil σ H1 (fun vs H2=>vs.length=1∧onLst (H2 a) fun xs=>xs.length < sizeLine∧Q .non (upd H2 a (.lst (xs++vs)))):=by
  simpa only [tCons,tNil,List.length_cons,List.length_nil,Nat.zero_add,true_and] using q1
 have hA:=pa_cons he pa_nil hs cpos pins s1 σ H1 _ I1 q2
 rw [hs] at hA ⊢
 refine Calls.callWith_builtin (by show (false || (backTo cpos (starEach [] X.env)).any (·.1))=false;rw [hplain]<;>rfl) (Calls.evalArgs_plain ?_)
 refine thn hA fun us s2 ⟨vs,H2,I2,r2,l2,q3⟩=>?_
 obtain ⟨xs,e3,q4,q5⟩:=onLst_of q3
 match vs,l2,r2,q5 with
 | [y],_,r2,q5=>exact mt_append pins s2 σ H2 _ _ v us Q I2 r1 r2 ⟨_,_,_,rfl,rfl,e3,q4,q5⟩
theorem pe_popC (ho:PE X o to) (hbase:attributeBase o "pop" X.env (eval o X.env)=eval o X.env:=by rfl) (hline:(apos.endLine == cpos.line)=true:=by rfl):PE X (.Call (.Attribute o "pop" apos) [] [] cpos) (cPop to):=by
 intro pins s σ H Q I h
 refine wpAny_Call_method0_late hbase hline (thn (ho pins s σ H _ I h) fun v s1 ⟨x,H1,I1,r1,q1⟩=>?_)
 obtain ⟨a,rfl,q1⟩:=onRef_of q1
 obtain ⟨xs,e1,q1⟩:=onLst_of q1
 obtain ⟨y,e2,q1⟩:=onO_of q1
 obtain ⟨h1,h2⟩:=tyV_is (T:="list") I1 r1 (.inl ⟨rfl,xs,.inl (.inl e1)⟩)
 exact ⟨"list","list.pop",PySem.F.plainAttrs_list,PySem.F.slot_list_pop,PySem.F.type_list_pop,h1,h2,Calls.callWith_builtin rfl (PySem.evalArgs_none (mt_pop pins s1 σ H1 _ [] v [] Q I1 r1 .nil ⟨_,_,_,rfl,rfl,e1,e2,q1⟩))⟩
end
section
variable {X:Cx} {o i e value:Expr} {pos pos' apos cpos:Pos} {td ty tv:TE}
theorem pe_getC (hu:X.A.units+1 < cLine) (ho:PE X o td) (he:PE X e ty) (m:M1 X o "get" apos e cpos):PE X (.Call (.Attribute o "get" apos) [e] [] cpos) (cGet1 td ty):=by
 intro pins s σ H Q I h
 refine wpAny_Call_method m.base m.few m.line PySem.F.plainAttrs_dict PySem.F.slot_dict_get PySem.F.type_dict_get (thn (ho pins s σ H _ I h) fun u s1 ⟨x,H1,I1,rx,q1⟩=>?_)
 obtain ⟨a,rfl,q1⟩:=onRef_of q1
 obtain ⟨kvs,e1,q1⟩:=onDct_of q1
 obtain rfl:u=Value.ref a:=rx
 obtain ⟨t1,t2,_⟩:=isD_at I1 (.inl ⟨_,.inl e1⟩)
 refine ⟨t1,t2,?_⟩
 rw [m.trees]
 refine Calls.callWith_builtin rfl (Calls.evalArgs_plain (Calls.spliced_cons (thn (he pins s1 σ H1 _ I1 q1) fun iv s2 ⟨y,H2,I2,ry,q2⟩=>Calls.spliced_nil ?_)))
 obtain ⟨kvs,e1,q2⟩:=onDct_of q2
 obtain ⟨k,e2,q2⟩:=onO_of q2
 have g:DGet H2 a y (valV kvs k):=by rw [keyO_kV e2];exact DGet.k e1
 exact d_get1 hu I2 g ry fun w' s3 I3 rw'=>⟨_,H2,I3,rw',q2⟩
theorem pe_dgetC (hu:X.A.units+1 < cLine) (ho:PE X o td) (hi:PE X i ty) (hs:NoSl i):PE X (.Subscript o i pos) (cGet td ty):=by
 intro pins s σ H Q I h
 refine subD_of PySem.F.slot_dict_getitem.lookup hs (thn (ho pins s σ H _ I h) fun u s1 ⟨x,H1,I1,rx,q1⟩=>thn (hi pins s1 σ H1 _ I1 q1) fun iv s2 ⟨y,H2,I2,ry,q2⟩=>?_)
 obtain ⟨a,rfl,q2⟩:=onRef_of q2
 obtain ⟨kvs,e1,q2⟩:=onDct_of q2
 obtain ⟨k,e2,q2⟩:=onO_of q2
 obtain ⟨v,e3,q2⟩:=onO_of q2
 obtain rfl:u=Value.ref a:=rx
 have g:DGet H2 a y (some v):=by rw [keyO_kV e2,← e3];exact DGet.k e1
 exact ⟨dict_typeIs I2 g,d_getItem hu I2 g ry fun w' s3 I3 rw'=>⟨v,H2,I3,rw',q2⟩⟩
theorem ps_putC (hu:X.A.units+1 < cLine) (ho:PE X o td) (hi:PE X i ty) (hv:PE X value tv) (hs:swapsWith value (some (.Subscript o i pos')) pos.line X.env=pure false:=by rfl) : PS X (.Assign [.Subscript o i pos'] value pos) (cPut td ty tv):=by
 intro pins s σ H D I h
 refine wpAny_Assign_Subscript (thn (hv pins s σ H _ I h) fun r s1 ⟨v,H1,I1,rv,q1⟩=>thn (ho pins s1 σ H1 _ I1 q1) fun u s2 ⟨x,H2,I2,rx,q2⟩=>thn (hi pins s2 σ H2 _ I2 q2) fun iv s3 ⟨y,H3,I3,ry,q3⟩=>?_) hs
 obtain ⟨a,rfl,q3⟩:=onRef_of q3
 obtain ⟨kvs,e1,q3⟩:=onDct_of q3
 obtain ⟨k,e2,q3⟩:=onO_of q3
 obtain rfl:u=Value.ref a:=rx
 have g:DPut H3 a y v (upd H3 a (.dK (putK kvs k v))):=by rw [keyO_kV e2];exact DPut.k e1 q3.1
 exact d_setItem hu I3 g ry rv fun s4 I4=>⟨σ,_,I4,q3.2⟩
noncomputable def cDict:List V→Hp→VK→Prop:=fun vs H Q=>match vs with
 | [.ref a]=>onDct (H a) fun kvs=>∀ p,H p=none→Q (.ref p) (upd H p (.dK kvs))
 | _=>False
end
noncomputable def Itv (K:PySem.W.Frag) (a:Addr) (n:Nat):It :=
 ⟨fun i H=>i < n∧∃ xs,SqL K H a xs∧xs.length=n,fun i H x H'=>H'=H∧∀ xs,SqL K H a xs→xs[n - 1 - i]?=some x,fun i H=>i=n∧∃ xs,SqL K H a xs∧xs.length=n⟩
noncomputable def iRev (K:PySem.W.Frag) (ta:TA):TI:=fun σ H R=>ta σ H fun vs H1=>∃ a xs,vs=[.ref a]∧SqL K H1 a xs∧R (Itv K a xs.length) H1
end L2
namespace L2
open PySem PySem.Spec PyProof.Rows
section
variable {σ:St} {H:Hp} {Q:VK} {D:Ends} {t u:TS} {te ta tb tc to ti:TE} {tl th:TO} {g:TG} {gs:TGs} {tt tt':TT} {as:TA} {i j:Int} {n:Nat} {x y:Str} {v w:V} {vs:List V} {b:Bool} {p a:Addr} {r r':R2} {B:Bool→Hp→Prop} {K:PySem.W.Frag}
theorem e_seq:tSeq t u D σ H=t {D with nx:=u D} σ H:=rfl
theorem e_asg:tAsg te g D σ H=te σ H fun x H1=>g x σ H1 D.nx:=rfl
theorem e_name {N:St→Hp→Prop}:gName n v σ H N=N (σ.set n (some v)) H:=rfl
theorem e_ret:tRet te D σ H=te σ H D.rt:=rfl
theorem e_retN:tRetN D σ H=D.rt .non H:=rfl
theorem e_ifS:tIfS tt t u D σ H=tt σ H fun b H1=>if b=true then t D σ H1 else u D σ H1:=rfl
theorem e_test:tTest te σ H B=te σ H fun x H'=>onB x fun k=>B k H':=by simp only [tTest,onB_eq]
theorem e_tB:tB te σ H B=te σ H fun x H'=>onB x fun k=>B k H':=by simp only [tB,onB_eq]
theorem e_if:tIf tt ta tb σ H Q=tt σ H fun c H1=>if c=true then ta σ H1 Q else tb σ H1 Q:=rfl
theorem e_op:tOp r ta tb σ H Q=ta σ H fun x H1=>tb σ H1 fun y H2=>r x y H2 Q:=rfl
theorem e_un {q:V→Hp→VK→Prop}:tUn q ta σ H Q=ta σ H fun x H1=>q x H1 Q:=rfl
theorem e_c:tC v σ H Q=Q v H:=rfl
theorem e_cons {A:List V→Hp→Prop}:tCons te as σ H A=te σ H fun x H1=>as σ H1 fun xs H2=>A (x::xs) H2:=rfl
theorem e_nil {A:List V→Hp→Prop}:tNil σ H A=A [] H:=rfl
theorem e_call {sp:Sp} {E:XK}:tCall sp [] E as σ H Q=as σ H fun vs H1=>sp vs H1 Q E:=by simp only [tCall,List.append_nil]
theorem e_cb {q:List V→Hp→VK→Prop}:tCB q as σ H Q=as σ H fun vs H1=>q vs H1 Q:=rfl
theorem e_lst:tLst as σ H Q=as σ H fun xs H1=>xs.length≤sizeLine∧∀ p,H1 p=none→Q (.ref p) (upd H1 p (.lst xs)):=rfl
theorem e_tup:tTup as σ H Q=as σ H fun xs H1=>xs.length≤sizeLine∧∀ p,H1 p=none→Q (.ref p) (upd H1 p (.tup xs)):=rfl
theorem e_dnew:tDNewK σ H Q = ∀ p,H p=none→Q (.ref p) (upd H p (.dK [])):=rfl
theorem e_drop:tDrop te D σ H=te σ H fun _ H1=>D.nx σ H1:=rfl
theorem e_next:tNext D σ H=D.nx σ H:=rfl
theorem e_break:tBreak D σ H=D.bk σ H:=rfl
theorem e_cont:tCont D σ H=D.ct σ H:=rfl
theorem e_andV:tAndV ta tb σ H Q=ta σ H fun x H1=>onB x fun c=>if c=true then tb σ H1 Q else Q (.bl false) H1:=by simp only [tAndV,onB_eq]
theorem e_orV:tOrV ta tb σ H Q=ta σ H fun x H1=>onB x fun c=>if c=true then Q (.bl true) H1 else tb σ H1 Q:=by simp only [tOrV,onB_eq]
theorem e_notV:tNotV ta σ H Q=ta σ H fun x H1=>onB x fun c=>Q (.bl (!c)) H1:=by simp only [tNotV,onB_eq]
theorem e_and:tAnd tt tt' σ H B=tt σ H fun c H1=>if c=true then tt' σ H1 B else B false H1:=rfl
theorem e_or:tOr tt tt' σ H B=tt σ H fun c H1=>if c=true then B true H1 else tt' σ H1 B:=rfl
theorem e_not:tNot tt σ H B=tt σ H fun c H1=>B (!c) H1:=rfl
theorem e_chain:tChain r r' ta tb tc σ H Q=ta σ H fun x H1=>tb σ H1 fun y H2=>r x y H2 fun z H3=>onB z fun k=>if k=true then tc σ H3 fun w' H4=>r' y w' H4 Q else Q (.bl false) H3:=by simp only [tChain,onB_eq]
theorem e_sl {q:V→Option Int→Option Int→Hp→VK→Prop}:tSl q te tl th σ H Q=te σ H fun x H1=>tl σ H1 fun l H2=>th σ H2 fun u H3=>q x l u H3 Q:=rfl
theorem onInt_eq {k:Int→Prop}:(∃ i,v=.int i∧k i)=onInt v k:=propext ⟨fun ⟨i,e,h⟩=>by subst e;exact h,onInt_of⟩
theorem e_part {O:Option Int→Hp→Prop}:tPart te σ H O=te σ H fun x H1=>onInt x fun i=>O (some i) H1:=by simp only [tPart,onInt_eq]
theorem e_nopart {O:Option Int→Hp→Prop}:tNoPart σ H O=O none H:=rfl
theorem e_gsub {s:TSet} {N:St→Hp→Prop}:gSub to ti s v σ H N=to σ H fun o H1=>ti σ H1 fun i H2=>s o i v H2 fun H3=>N σ H3:=rfl
theorem e_gnil {N:St→Hp→Prop}:gNil [] σ H N=N σ H:=by simp [gNil]
theorem e_gcons {N:St→Hp→Prop}:gCons g gs (v::vs) σ H N=g v σ H fun σ' H'=>gs vs σ' H' N:=propext ⟨fun ⟨_,_,e,h⟩=>by cases e;exact h,fun h=>⟨_,_,rfl,h⟩⟩
theorem e_get1:cGet1 ta tb σ H Q=ta σ H fun x H1=>onRef x fun a=>onDct (H1 a) fun _=>tb σ H1 fun y H2=>onDct (H2 a) fun kvs=>onO (keyO y) fun k=>Q ((valV kvs k).getD .non) H2:=rfl
theorem e_get:cGet ta tb σ H Q=ta σ H fun x H1=>tb σ H1 fun y H2=>onRef x fun a=>onDct (H2 a) fun kvs=>onO (keyO y) fun k=>onO (valV kvs k) fun v=>Q v H2:=rfl
theorem e_put:cPut ta tb tc D σ H=tc σ H fun v H1=>ta σ H1 fun x H2=>tb σ H2 fun y H3=>onRef x fun a=>onDct (H3 a) fun kvs=>onO (keyO y) fun k=>kvs.length < sizeLine∧D.nx σ (upd H3 a (.dK (putK kvs k v))):=rfl
theorem e_app:cApp to te σ H Q=to σ H fun x H1=>onRef x fun a=>onLst (H1 a) fun _=>te σ H1 fun y H2=>onLst (H2 a) fun xs=>xs.length < sizeLine∧Q .non (upd H2 a (.lst (xs++[y]))):=rfl
theorem e_pop:cPop to σ H Q=to σ H fun x H1=>onRef x fun a=>onLst (H1 a) fun xs=>onO (xs[xs.length - 1]?) fun y=>Q y (upd H1 a (.lst xs.dropLast)):=rfl
theorem e_onO {α:Type} {z:α} {k:α→Prop} {u:Tg k}:@onO _ (some z) k u=k z:=rfl
theorem e_onB {k:Bool→Prop} {u:Tg k}:@onB (.bl b) k u=k b:=rfl
theorem e_onRef {k:Addr→Prop} {u:Tg k}:@onRef (.ref p) k u=k p:=rfl
theorem e_onInt {k:Int→Prop} {u:Tg k}:@onInt (.int i) k u=k i:=rfl
theorem e_onLst {k:List V→Prop} {u:Tg k}:@onLst (some (.lst vs)) k u=k vs:=rfl
theorem e_onSeqL {k:List V→Prop} {u:Tg k}:@onSeq (some (.lst vs)) k u=k vs:=rfl
theorem e_onSeqT {k:List V→Prop} {u:Tg k}:@onSeq (some (.tup vs)) k u=k vs:=rfl
theorem e_onDct {kvs:List (Key×V)} {k:List (Key×V)→Prop} {u:Tg k}:@onDct (some (.dK kvs)) k u=k kvs:=rfl
theorem e_ixR:cIx (.ref p) w H Q=onSeq (H p) fun xs=>onInt w fun i=>onO (atI xs i) fun v=>Q v H:=rfl
theorem e_ixS:cIx (.str x) w H Q=onInt w fun i=>x.length≤sizeLine∧onO (atI x.cps.toList i) fun c=>Q (.str ⟨#[c]⟩) H:=rfl
theorem e_addI:cAdd (.int i) (.int j) H Q=Q (.int (i+j)) H:=rfl
theorem e_addS:cAdd (.str x) (.str y) H Q=(x.length+y.length≤sizeLine∧Q (.str (x++y)) H):=rfl
theorem e_addR:cAdd (.ref a) (.ref p) H Q=cCat H Q a (H a) (H p):=rfl
theorem e_catL {us:List V}:cCat H Q a (some (.lst vs)) (some (.lst us))=(vs.length+us.length≤sizeLine∧∀ p,H p=none→Q (.ref p) (upd H p (.lst (vs++us)))):=rfl
theorem e_slS {lo hi:Option Int}:cSl (.str x) lo hi H Q=(x.length≤sizeLine∧Q (.str (Txt.slice x lo hi)) H):=rfl
theorem e_slR {lo hi:Option Int}:cSl (.ref a) lo hi H Q=cCut lo hi H Q (H a):=rfl
theorem e_cutL {lo hi:Option Int}:cCut lo hi H Q (some (.lst vs)) = ∀ p,H p=none→Q (.ref p) (upd H p (.lst (cutV vs lo hi))):=rfl
theorem e_lenS:cLen [.str x] H Q=(x.length≤sizeLine∧Q (.int x.length) H):=rfl
theorem e_lenR:cLen [.ref p] H Q=onSeq (H p) fun xs=>Q (.int xs.length) H:=rfl
theorem e_set {N:Hp→Prop}:cSet (.ref p) (.int i) v H N=onLst (H p) fun xs=>onO (ixN xs.length i) fun j=>N (upd H p (.lst (xs.set j v))):=rfl
theorem e_in {neg:Bool}:cIn neg v (.ref p) H Q=onSeq (H p) fun xs=>flatV v=true∧xs.all flatV=true∧Q (.bl (if neg=true then !inV v xs else inV v xs)) H:=rfl
theorem e_dict:cDict [.ref a] H Q=onDct (H a) fun kvs=>∀ p,H p=none→Q (.ref p) (upd H p (.dK kvs)):=rfl
theorem e_keyI:keyO (.int i)=some (.inl i):=rfl
theorem e_keyS:keyO (.str x)=some (.inr x):=rfl
theorem e_keyN:keyO .non=some .no:=rfl
theorem e_atI {α:Type} {xs:List α} {k:Nat}:atI xs (OfNat.ofNat k)=xs[k]?:=by
 show atI xs ((k:Nat):Int)=xs[k]?
 cases e:xs[k]? with
 | some z=>exact atI_nat e
 | none =>
  have:=List.getElem?_eq_none_iff.mp e
  unfold atI ixN
  rw [if_pos (by omega),if_neg (by omega)]
  rfl
theorem e_at0 {α:Type} {xs:List α}:atI xs 0=xs[0]?:=e_atI (k:=0)
theorem e_at1 {α:Type} {xs:List α}:atI xs 1=xs[1]?:=e_atI (k:=1)
theorem e_at2 {α:Type} {xs:List α}:atI xs 2=xs[2]?:=e_atI (k:=2)
theorem e_at3 {α:Type} {xs:List α}:atI xs 3=xs[3]?:=e_atI (k:=3)
theorem e_at4 {α:Type} {xs:List α}:atI xs 4=xs[4]?:=e_atI (k:=4)
theorem e_at5 {α:Type} {xs:List α}:atI xs 5=xs[5]?:=e_atI (k:=5)
theorem e_at6 {α:Type} {xs:List α}:atI xs 6=xs[6]?:=e_atI (k:=6)
theorem e_at7 {α:Type} {xs:List α}:atI xs 7=xs[7]?:=e_atI (k:=7)
theorem e_at8 {α:Type} {xs:List α}:atI xs 8=xs[8]?:=e_atI (k:=8)
theorem e_at9 {α:Type} {xs:List α}:atI xs 9=xs[9]?:=e_atI (k:=9)
theorem e_at10 {α:Type} {xs:List α}:atI xs 10=xs[10]?:=e_atI (k:=10)
theorem e_at11 {α:Type} {xs:List α}:atI xs 11=xs[11]?:=e_atI (k:=11)
theorem e_at12 {α:Type} {xs:List α}:atI xs 12=xs[12]?:=e_atI (k:=12)
theorem e_cmul1:CMul 1 j=True:=eq_true (.inl ⟨by decide,by decide⟩)
theorem e_cmul2:CMul 2 j=True:=eq_true (.inl ⟨by decide,by decide⟩)
theorem e_cmul3:CMul 3 j=True:=eq_true (.inl ⟨by decide,by decide⟩)
theorem e_cmul10:CMul 10 j=True:=eq_true (.inl ⟨by decide,by decide⟩)
theorem e_cpow6:CPow 10 6=True:=eq_true ⟨by decide,by decide,by decide⟩
theorem e_cpow9:CPow 10 9=True:=eq_true ⟨by decide,by decide,by decide⟩
theorem e_cpow12:CPow 10 12=True:=eq_true ⟨by decide,by decide,by decide⟩
theorem e_cpow18:CPow 10 18=True:=eq_true ⟨by decide,by decide,by decide⟩
theorem e_cpow30:CPow 10 30=True:=eq_true ⟨by decide,by decide,by decide⟩
theorem e_cpow40:CPow 10 40=True:=eq_true ⟨by decide,by decide,by decide⟩
theorem e_cpow45:CPow 10 45=True:=eq_true ⟨by decide,by decide,by decide⟩
theorem e_ixN0 {m:Nat}:ixN (m+1) 0=some 0:=by simp [ixN]<;>omega
theorem e_ixN1 {m:Nat}:ixN (m+2) 1=some 1:=by simp [ixN]<;>omega
theorem e_intI:cInt [.int i] H Q=Q (.int i) H:=rfl
theorem e_intB:cInt [.bl b] H Q=Q (.int (if b=true then 1 else 0)) H:=rfl
theorem e_is:cIsN v .non H Q=Q (.bl (decide (v=.non))) H:=by cases v<;>rfl
theorem e_isnot:cNotN v .non H Q=Q (.bl (!decide (v=.non))) H:=by cases v<;>rfl
theorem e_max:cMax [.int i,.int j] H Q=Q (.int (if j > i then j else i)) H:=rfl
theorem e_min:cMin [.int i,.int j] H Q=Q (.int (if j < i then j else i)) H:=rfl
theorem e_abs:cAbs [.int i] H Q=Q (.int (if i < 0 then -i else i)) H:=rfl
theorem e_isi_int_int:cIsi [(.int i),.ty "int"] H Q=Q (.bl true) H:=by simp [cIsi,kSc,onO]
theorem e_isi_int_bl:cIsi [(.bl b),.ty "int"] H Q=Q (.bl true) H:=by simp [cIsi,kSc,onO]
theorem e_isi_int_str:cIsi [(.str x),.ty "int"] H Q=Q (.bl false) H:=by simp [cIsi,kSc,onO]
theorem e_isi_int_non:cIsi [.non,.ty "int"] H Q=Q (.bl false) H:=by simp [cIsi,kSc,onO]
theorem e_isi_int_ref:cIsi [.ref p,.ty "int"] H Q=onO (kRef (H p) "int") fun b=>Q (.bl b) H:=rfl
theorem e_isi_bool_int:cIsi [(.int i),.ty "bool"] H Q=Q (.bl false) H:=by simp [cIsi,kSc,onO]
theorem e_isi_bool_bl:cIsi [(.bl b),.ty "bool"] H Q=Q (.bl true) H:=by simp [cIsi,kSc,onO]
theorem e_isi_bool_str:cIsi [(.str x),.ty "bool"] H Q=Q (.bl false) H:=by simp [cIsi,kSc,onO]
theorem e_isi_bool_non:cIsi [.non,.ty "bool"] H Q=Q (.bl false) H:=by simp [cIsi,kSc,onO]
theorem e_isi_bool_ref:cIsi [.ref p,.ty "bool"] H Q=onO (kRef (H p) "bool") fun b=>Q (.bl b) H:=rfl
theorem e_isi_str_int:cIsi [(.int i),.ty "str"] H Q=Q (.bl false) H:=by simp [cIsi,kSc,onO]
theorem e_isi_str_bl:cIsi [(.bl b),.ty "str"] H Q=Q (.bl false) H:=by simp [cIsi,kSc,onO]
theorem e_isi_str_str:cIsi [(.str x),.ty "str"] H Q=Q (.bl true) H:=by simp [cIsi,kSc,onO]
theorem e_isi_str_non:cIsi [.non,.ty "str"] H Q=Q (.bl false) H:=by simp [cIsi,kSc,onO]
theorem e_isi_str_ref:cIsi [.ref p,.ty "str"] H Q=onO (kRef (H p) "str") fun b=>Q (.bl b) H:=rfl
theorem e_isi_tuple_int:cIsi [(.int i),.ty "tuple"] H Q=Q (.bl false) H:=by simp [cIsi,kSc,onO]
theorem e_isi_tuple_bl:cIsi [(.bl b),.ty "tuple"] H Q=Q (.bl false) H:=by simp [cIsi,kSc,onO]
theorem e_isi_tuple_str:cIsi [(.str x),.ty "tuple"] H Q=Q (.bl false) H:=by simp [cIsi,kSc,onO]
theorem e_isi_tuple_non:cIsi [.non,.ty "tuple"] H Q=Q (.bl false) H:=by simp [cIsi,kSc,onO]
theorem e_isi_tuple_ref:cIsi [.ref p,.ty "tuple"] H Q=onO (kRef (H p) "tuple") fun b=>Q (.bl b) H:=rfl
theorem e_kl_int:kRef (some (.lst vs)) "int"=some false:=by simp [kRef]
theorem e_kt_int:kRef (some (.tup vs)) "int"=some false:=by simp [kRef]
theorem e_kl_bool:kRef (some (.lst vs)) "bool"=some false:=by simp [kRef]
theorem e_kt_bool:kRef (some (.tup vs)) "bool"=some false:=by simp [kRef]
theorem e_kl_str:kRef (some (.lst vs)) "str"=some false:=by simp [kRef]
theorem e_kt_str:kRef (some (.tup vs)) "str"=some false:=by simp [kRef]
theorem e_kl_tuple:kRef (some (.lst vs)) "tuple"=some false:=by simp [kRef]
theorem e_kt_tuple:kRef (some (.tup vs)) "tuple"=some true:=by simp [kRef]
theorem e_kd_int {kvs:List (Key×V)}:kRef (some (.dK kvs)) "int"=some false:=by simp [kRef]
theorem e_kd_bool {kvs:List (Key×V)}:kRef (some (.dK kvs)) "bool"=some false:=by simp [kRef]
theorem e_kd_str {kvs:List (Key×V)}:kRef (some (.dK kvs)) "str"=some false:=by simp [kRef]
theorem e_chk {c:Prop} [Decidable c] {P R:Prop}:(if (decide c)=true then P else R)=if c then P else R:=by
 by_cases h:c<;>simp [h]
theorem e_chn {c:Prop} [Decidable c] {P R:Prop}:(if (!decide c)=true then P else R)=if c then R else P:=by
 by_cases h:c<;>simp [h]
theorem e_ite1 {P R:Prop}:(if true=true then P else R)=P:=rfl
theorem e_ite0 {P R:Prop}:(if false=true then P else R)=R:=rfl
end
theorem f_or {a b:Prop} [Decidable a] [Decidable b] {P R:Prop}:(if a then P else if b then P else R)=if a∨b then P else R:=by
 by_cases ha:a<;>by_cases hb:b<;>simp [ha,hb]
theorem Kp.at1 {r a:Addr} {H H':Hp} {o:HO} (x:Kp [r] H H') (e:H a=some o) (n:a≠r):H' a=some o:=x a o e (by simpa using n)
theorem r_draw {xs:List V} {i:Int} {k:V→Prop} (h0:0≤i) (h1:i < (xs.length:Int)) (q:∀ v∈xs,k v):onO (atI xs i) k:=by
 have hk:i.toNat < xs.length:=by omega
 have ek:i=((i.toNat:Nat):Int):=by omega
 have e:atI xs ((i.toNat:Nat):Int)=some xs[i.toNat]:=atI_nat (List.getElem?_eq_getElem hk)
 rw [← ek] at e
 rw [e]
 exact q _ (List.getElem_mem hk)
end L2
namespace L2
open PySem PySem.Spec PyProof.Rows
noncomputable def on1 (vs:List V) (k:V→Prop) (_u:Tg k:=()):Prop:=match vs with
 | [v]=>k v
 | _=>False
noncomputable def lp (J:It) (g:TG) (tb:TS) (D:Ends) (σ:St) (H:Hp):Prop:=∃ W:Nat→Nat→St→Hp→Prop,(∃ m,W 0 m σ H)∧∀ i m σ H,W i m σ H →
 (J.stop i H∧D.nx σ H)∨(J.go i H∧∃ N:St→Hp→Prop,(∀ σ' H',N σ' H'→∃ m',m' < m∧W (i+1) m' σ' H')∧∀ x H',J.yld i H x H'→g x σ H' fun σ2 H2=>tb {D with nx:=N,ct:=N,bk:=D.nx} σ2 H2)
section
variable {σ:St} {H:Hp} {D:Ends} {g:TG} {tb:TS} {as:TA} {te:TE} {K:PySem.W.Frag} {v w:V}
theorem on1_eq {vs:List V} {k:V→Prop}:(∃ z,vs=[z]∧k z)=on1 vs k:=by
 refine propext ⟨fun ⟨z,e,h⟩=>by subst e;exact h,fun h=>?_⟩
 unfold on1 at h
 split at h
 ·exact ⟨_,rfl,h⟩
 ·exact h.elim
theorem e_on1 {k:V→Prop} {u:Tg k}:@on1 [v] k u=k v:=rfl
theorem e_forR1:tFor (iRng1 as) g tb D σ H=as σ H fun vs H1=>on1 vs fun v=>onInt v fun j=>(-(2 ^ 62)≤j∧j < 2 ^ 62)∧lp (Itr 0 j.toNat) g tb D σ H1:=by
 unfold tFor iRng1
 congr 1
 funext vs H1
 refine propext ⟨fun ⟨j,e,h1,h2,h⟩=>by subst e;exact ⟨⟨h1,h2⟩,h⟩,fun h=>?_⟩
 unfold on1 at h
 split at h
 ·obtain ⟨j,rfl,⟨h1,h2⟩,h⟩:=onInt_of h
  exact ⟨j,rfl,h1,h2,h⟩
 ·exact h.elim
noncomputable def on2 (vs:List V) (k:V→V→Prop) (_u:Tg k:=()):Prop:=match vs with
 | [v,w]=>k v w
 | _=>False
theorem e_on2 {k:V→V→Prop} {u:Tg k}:@on2 [v,w] k u=k v w:=rfl
theorem e_forR2:tFor (iRng2 as) g tb D σ H=as σ H fun vs H1=>on2 vs fun v w=>onInt v fun i=>onInt w fun j=>(-(2 ^ 62)≤i∧i < 2 ^ 62∧-(2 ^ 62)≤j∧j < 2 ^ 62)∧lp (Itr i (j - i).toNat) g tb D σ H1:=by
 unfold tFor iRng2
 congr 1
 funext vs H1
 refine propext ⟨fun ⟨i,j,e,h1,h⟩=>by subst e;exact ⟨h1,h⟩,fun h=>?_⟩
 unfold on2 at h
 split at h
 ·obtain ⟨i,rfl,h'⟩:=onInt_of h
  obtain ⟨j,rfl,h1,h''⟩:=onInt_of h'
  exact ⟨i,j,rfl,h1,h''⟩
 ·exact h.elim
theorem e_forL:tFor (iList K te) g tb D σ H=te σ H fun x H1=>onRef x fun a=>(∃ xs,SqL K H1 a xs)∧lp (Itl K a) g tb D σ H1:=by
 unfold tFor iList
 congr 1
 funext x H1
 exact propext ⟨fun ⟨a,e,h1,h⟩=>by subst e;exact ⟨h1,h⟩,fun h=>by obtain ⟨a,rfl,h1,h⟩:=onRef_of h;exact ⟨a,rfl,h1,h⟩⟩
theorem e_forT:tFor (iTup K te) g tb D σ H=te σ H fun x H1=>onRef x fun a=>(∃ xs,SqT K H1 a xs)∧lp (Itt K a) g tb D σ H1:=by
 unfold tFor iTup
 congr 1
 funext x H1
 exact propext ⟨fun ⟨a,e,h1,h⟩=>by subst e;exact ⟨h1,h⟩,fun h=>by obtain ⟨a,rfl,h1,h⟩:=onRef_of h;exact ⟨a,rfl,h1,h⟩⟩
theorem e_forV:tFor (iRev K as) g tb D σ H=as σ H fun vs H1=>on1 vs fun x=>onRef x fun a=>∃ xs,SqL K H1 a xs∧lp (Itv K a xs.length) g tb D σ H1:=by
 unfold tFor iRev
 congr 1
 funext vs H1
 refine propext ⟨fun ⟨a,xs,e,h1,h⟩=>by subst e;exact ⟨xs,h1,h⟩,fun h=>?_⟩
 unfold on1 at h
 split at h
 ·obtain ⟨a,rfl,xs,h1,h⟩:=onRef_of h
  exact ⟨a,xs,rfl,h1,h⟩
 ·exact h.elim
end
end L2
namespace L2
open PySem PySem.Spec PyProof.Rows
noncomputable def lc (J:It) (fr:List Nat) (tc:TT) (te:TE) (σ:St) (H:Hp) (Q:VK):Prop:=∃ W:Nat→Nat→List V→Hp→Prop,(∃ m,W 0 m [] H)∧∀ i m xs H,W i m xs H→xs.length≤1000000 ∧
  ((J.stop i H∧∀ p,H p=none→Q (.ref p) (upd H p (.lst xs))) ∨
   (J.go i H∧∀ y H',J.yld i H y H'→tc (some y::compSt fr σ) H' fun b H2=>if b=true then te (some y::compSt fr σ) H2 (fun z H3=>∃ m',m' < m∧W (i+1) m' (xs++[z]) H3) else ∃ m',m' < m∧W (i+1) m' xs H2))
section
variable {fr:List Nat} {tc:TT} {te tl:TE} {σ:St} {H H1:Hp} {Q:VK} {as:TA} {K:PySem.W.Frag}
theorem e_compR:tComp (iRng1 as) fr tc te σ H Q=as σ H fun vs H1=>on1 vs fun v=>onInt v fun j=>(-(2 ^ 62)≤j∧j < 2 ^ 62)∧lc (Itr 0 j.toNat) fr tc te σ H1 Q:=by
 unfold tComp iRng1
 congr 1
 funext vs H1
 refine propext ⟨fun ⟨j,e,h1,h2,h⟩=>by subst e;exact ⟨⟨h1,h2⟩,h⟩,fun h=>?_⟩
 unfold on1 at h
 split at h
 ·obtain ⟨j,rfl,⟨h1,h2⟩,h⟩:=onInt_of h
  exact ⟨j,rfl,h1,h2,h⟩
 ·exact h.elim
theorem e_compL:tComp (iList K tl) fr tc te σ H Q=tl σ H fun x H1=>onRef x fun a=>(∃ xs,SqL K H1 a xs)∧lc (Itl K a) fr tc te σ H1 Q:=by
 unfold tComp iList
 congr 1
 funext x H1
 exact propext ⟨fun ⟨a,e,h1,h⟩=>by subst e;exact ⟨h1,h⟩,fun h=>by obtain ⟨a,rfl,h1,h⟩:=onRef_of h;exact ⟨a,rfl,h1,h⟩⟩
noncomputable def onStr (x:V) (k:Str→Prop) (_u:Tg k:=()):Prop:=match x with
 | .str p=>k p
 | _=>False
theorem e_onStr {x:Str} {k:Str→Prop} {u:Tg k}:@onStr (.str x) k u=k x:=rfl
theorem e_compS:tComp (iStr tl) fr tc te σ H Q=tl σ H fun x H1=>onStr x fun z=>lc (Its z) fr tc te σ H1 Q:=by
 unfold tComp iStr
 congr 1
 funext x H1
 refine propext ⟨fun ⟨a,e,h⟩=>by subst e;exact h,fun h=>?_⟩
 cases x with
 | str z=>exact ⟨z,rfl,h⟩
 | _=>exact h.elim
theorem e_true {B:Bool→Hp→Prop}:tTrue σ H B=B true H:=rfl
theorem e_cs0:compSt [] σ=[]:=rfl
theorem cW_eq {n:Nat} {Pv:Nat→List V→Hp→Prop} {i:Nat} {xs:List V} (hi:i < n):(∃ m',m' < n - i∧cW n Pv (i+1) m' xs H)=Pv (i+1) xs H :=
 propext ⟨fun ⟨_,_,_,_,h⟩=>h,fun h=>cW.next hi h⟩
theorem lc_range {lo:Int} {n:Nat} (Pv:Nat→List V→Hp→Prop) (h0:Pv 0 [] H) (hz:∀ i xs H,Pv i xs H→xs.length≤1000000) (hs:∀ i xs H,i < n→Pv i xs H→tc (some (.int (lo+i))::compSt fr σ) H fun b H2=>if b=true then te (some (.int (lo+i))::compSt fr σ) H2 (fun z H3=>Pv (i+1) (xs++[z]) H3) else Pv (i+1) xs H2) (hd:∀ xs H,Pv n xs H→∀ p,H p=none→Q (.ref p) (upd H p (.lst xs))):lc (Itr lo n) fr tc te σ H Q :=
 comp_range Pv h0 hz (fun i xs H hi h=>by simp only [cW_eq hi];exact hs i xs H hi h) hd
end
end L2
namespace L2
open PySem PySem.Spec PyProof.Rows
noncomputable def dHit (kb:List (Key×V)):List (Key×V)→Bool
 | []=>true
 | (k,v)::r=>match valV kb k with
  | none=>false
  | some y=>eqV v y && dHit kb r
mutual
inductive EqA (K:PySem.W.Frag) (H:Hp):Nat→V→V→Bool→Prop
 | flat {n:Nat} {x y:V}:flatV x=true→flatV y=true→EqA K H n x y (eqV x y)
 | same {n:Nat} {a:Addr}:EqA K H n (.ref a) (.ref a) true
 | refs {n:Nat} {a b:Addr} {r:Bool}:a≠b→RcA K H n a b r→EqA K H n (.ref a) (.ref b) r
inductive RcA (K:PySem.W.Frag) (H:Hp):Nat→Addr→Addr→Bool→Prop
 | list {n:Nat} {a b:Addr} {xs ys:List V} {e:Nat→Bool}:SqL K H a xs→SqL K H b ys→xs.length=ys.length→(∀ j x y,xs[j]?=some x→ys[j]?=some y→EqA K H n x y (e j))→RcA K H (n+1) a b ((List.range xs.length).all e)
 | listLen {n:Nat} {a b:Addr} {xs ys:List V}:SqL K H a xs→SqL K H b ys→xs.length≠ys.length→RcA K H (n+1) a b false
 | tup {n:Nat} {a b:Addr} {xs ys:List V} {e:Nat→Bool}:SqT K H a xs→SqT K H b ys→(∀ j x y,xs[j]?=some x→ys[j]?=some y→EqA K H n x y (e j))→RcA K H (n+1) a b ((List.range (min xs.length ys.length)).all e && xs.length == ys.length)
end
section
variable {X:Cx} {pins:List (Addr×Obj)} {σ:St} {H:Hp} {s:Shared}
theorem item_of {xs:List V} {its:List Value} (r:Vals xs its) {j:Nat} (h:j < its.toArray.size):∃ x,xs[j]?=some x∧RelV x its.toArray[j]:=by
 have hj:j < xs.length:=by have:=r.length;simp only [List.size_toArray] at h;omega
 have e:=List.getElem?_eq_getElem hj
 obtain ⟨u,g,ru⟩:=r.get e
 refine ⟨_,e,?_⟩
 obtain ⟨_,q⟩:=List.getElem?_eq_some_iff.mp g
 have:its.toArray[j]=u:=by simpa using q
 rw [this]
 exact ru
theorem eqrc_at:∀(n:Nat),(∀ {a b:Addr} {r:Bool},RcA X.K H n a b r→∀ {A:Around},Inv X pins σ H s→A.units+n < cLine→SeqAt.RcAt A s (.ref a) (.ref b) r)∧(∀ {x y:V} {b:Bool},EqA X.K H n x y b→∀ {A:Around} {v u:Value},Inv X pins σ H s→RelV x v→RelV y u→A.units+n < cLine→SeqAt.EqAt A s v u b):=by
 intro n
 have up:∀ {n:Nat},(∀ {a b:Addr} {r:Bool},RcA X.K H n a b r→∀ {A:Around},Inv X pins σ H s→A.units+n < cLine→SeqAt.RcAt A s (.ref a) (.ref b) r)→(∀ {x y:V} {b:Bool},EqA X.K H n x y b→∀ {A:Around} {v u:Value},Inv X pins σ H s→RelV x v→RelV y u→A.units+n < cLine→SeqAt.EqAt A s v u b):=by
  intro n rc x y b h A v u I rx ry hu
  cases h with
  | flat fx fy=>exact eqAt_V rx ry fx fy
  | same =>
   cases rx
   cases ry
   exact SeqAt.EqAt.same _
  | refs ne h =>
   cases rx
   cases ry
   exact SeqAt.EqAt.of_refs ne (rc h I hu)
 suffices g:∀ {a b:Addr} {r:Bool},RcA X.K H n a b r→∀ {A:Around},Inv X pins σ H s→A.units+n < cLine→SeqAt.RcAt A s (.ref a) (.ref b) r from ⟨g,up g⟩
 induction n with
 | zero=>intro a b r h;cases h
 | succ n ih =>
  intro a b r h A I hu
  have ih:=@up n @ih
  cases h with
  | list hx hy hl he =>
   obtain ⟨its,r1,p1,z1⟩:=I.list hx
   obtain ⟨jts,r2,p2,z2⟩:=I.list hy
   have l1:=r1.length
   have l2:=r2.length
   have:=SeqAt.RcAt.lists p1.isList p2.isList (by simp only [List.size_toArray];omega) (by omega) (A:=A) (fun j h1 h2=>by
    obtain ⟨x,ex,rx⟩:=item_of r1 h1
    obtain ⟨y,ey,ry⟩:=item_of r2 h2
    exact ih (he j x y ex ey) I rx ry (by show A.units+1+_ < _;omega))
   rw [List.size_toArray,← l1] at this
   exact this
  | listLen hx hy hl =>
   obtain ⟨its,r1,p1,z1⟩:=I.list hx
   obtain ⟨jts,r2,p2,z2⟩:=I.list hy
   have l1:=r1.length
   have l2:=r2.length
   exact SeqAt.RcAt.lists_lengths p1.isList p2.isList (by simp only [List.size_toArray,bne_iff_ne,ne_eq];omega) (by omega)
  | tup hx hy he =>
   obtain ⟨its,r1,p1,z1⟩:=I.tuple hx
   obtain ⟨jts,r2,p2,z2⟩:=I.tuple hy
   have l1:=r1.length
   have l2:=r2.length
   have:=SeqAt.RcAt.tuples (show s.heap.IsTuple _ its.toArray from p1) (show s.heap.IsTuple _ jts.toArray from p2) (by omega) (A:=A) (fun j h1 h2=>by
    obtain ⟨x,ex,rx⟩:=item_of r1 h1
    obtain ⟨y,ey,ry⟩:=item_of r2 h2
    exact ih (he j x y ex ey) I rx ry (by show A.units+1+_ < _;omega))
   rw [List.size_toArray,List.size_toArray,← l1,← l2] at this
   exact this
theorem rcA_at {n:Nat} {a b:Addr} {r:Bool} (h:RcA X.K H n a b r) {A:Around} (I:Inv X pins σ H s) (hu:A.units+n < cLine):SeqAt.RcAt A s (.ref a) (.ref b) r:=(eqrc_at n).1 h I hu
end
noncomputable def EqP (P:Program) (W:World) (A:Around) (s:Shared) (y x:Value) (r:Bool):Prop:=∀(E:Value→Shared→Prop) (Q:Bool→Shared→Prop),Q r s→wpAny (model P W) A (eqBool y x) Q E s
theorem EqP.of {P:Program} {W:World} {A:Around} {s:Shared} {y x:Value} {r:Bool} (h:SeqAt.EqAt A s y x r):EqP P W A s y x r:=h P W
noncomputable def cNeE:R2:=fun x y H Q=>onRef x fun a=>onRef y fun b=>onLst (H a) fun xs=>onLst (H b) fun ys=>ys=[]∧Q (.bl (!xs.isEmpty)) H
inductive DPairs (H:Hp):List V→List V→Bool→Prop
  | nil:DPairs H [] [] true
  | cons {a b:Addr} {ka kb:List (Key×V)} {xs ys:List V} {r:Bool}:a≠b→H a=some (.dK ka)→H b=some (.dK kb)→(ka.all fun kv=>flatV kv.2)=true→(kb.all fun kv=>flatV kv.2)=true→DPairs H xs ys r →
      DPairs H (.ref a::xs) (.ref b::ys) ((ka.length == kb.length && dHit kb ka) && r)
theorem DPairs.len {H:Hp} {xs ys:List V} {r:Bool} (h:DPairs H xs ys r):xs.length=ys.length:=by
 induction h with
 | nil=>rfl
 | cons _ _ _ _ _ _ ih=>simp [ih]
theorem DPairs.at {H:Hp} {xs ys:List V} {r:Bool} (h:DPairs H xs ys r):∃ f:Nat→Bool,(List.range xs.length).all f=r∧∀ j x y,xs[j]?=some x→ys[j]?=some y→∃ a b ka kb,x=.ref a∧y=.ref b∧a≠b∧H a=some (.dK ka)∧H b=some (.dK kb)∧(ka.all fun kv=>flatV kv.2)=true∧(kb.all fun kv=>flatV kv.2)=true∧f j=(ka.length == kb.length && dHit kb ka):=by
 induction h with
 | nil=>exact ⟨fun _=>true,rfl,fun j x y e=>by simp at e⟩
 | @cons a b ka kb xs ys r ne ea eb fa fb _ ih =>
  obtain ⟨f,hf,hp⟩:=ih
  refine ⟨fun j=>match j with | 0=>(ka.length == kb.length && dHit kb ka) | j+1=>f j,?_,?_⟩
  ·rw [List.length_cons,List.range_succ_eq_map,List.all_cons,List.all_map,← hf]
   rfl
  ·intro j x y e1 e2
   cases j with
   | zero =>
    simp only [List.getElem?_cons_zero,Option.some.injEq] at e1 e2
    exact ⟨a,b,ka,kb,e1.symm,e2.symm,ne,ea,eb,fa,fb,rfl⟩
   | succ j=>exact hp j x y (by simpa using e1) (by simpa using e2)
noncomputable def cNeD:R2:=fun x y H Q=>onRef x fun a=>onRef y fun b=>onLst (H a) fun xs=>onLst (H b) fun ys=>∃ r,DPairs H xs ys r∧Q (.bl (!r)) H
end L2
namespace L2
open PySem PySem.Spec PyProof.Rows
noncomputable def idxV (y:V) (xs:List V):Option Nat:=xs.findIdx? fun z=>eqV z y
section
variable {X:Cx}
variable {o e:Expr} {to te:TE} {apos cpos:Pos}
noncomputable def cIdx (to te:TE):TE:=fun σ H Q=>to σ H fun x H1=>onRef x fun a=>onLst (H1 a) fun _=>te σ H1 fun y H2=>onLst (H2 a) fun xs=>flatV y=true∧xs.all flatV=true∧onO (idxV y xs) fun j=>Q (.int j) H2
theorem e_idx {σ:St} {H:Hp} {Q:VK}:cIdx to te σ H Q=to σ H fun x H1=>onRef x fun a=>onLst (H1 a) fun _=>te σ H1 fun y H2=>onLst (H2 a) fun xs=>flatV y=true∧xs.all flatV=true∧onO (idxV y xs) fun j=>Q (.int j) H2:=rfl
end
section
variable {H:Hp} {Q:VK} {a b p:Addr} {x:V}
theorem e_eqB {a b:Bool}:rEq (.bl a) (.bl b) H Q=Q (.bl (decide (a=b))) H:=by simp only [rEq,show scal (.bl a) (.bl b)=true from rfl,V.bl.injEq,true_and]
theorem e_eqNN:rEq .non .non H Q=Q (.bl true) H:=by simp only [rEq,show scal .non .non=true from rfl,decide_true,true_and]
theorem e_eqNI {i:Int}:rEq .non (.int i) H Q=Q (.bl false) H:=by simp only [rEq,show scal .non (.int i)=true from rfl,reduceCtorEq,decide_false,true_and]
theorem e_eqIN {i:Int}:rEq (.int i) .non H Q=Q (.bl false) H:=by simp only [rEq,show scal (.int i) .non=true from rfl,reduceCtorEq,decide_false,true_and]
theorem e_slLr {K:PySem.W.Frag} {lo hi:Option Int}:rSlL K (.ref a) lo hi H Q = ∃ xs,SqL K H a xs∧∀ p,H p=none→Q (.ref p) (upd H p (.lst (cutV xs lo hi))):=by simp [rSlL]
theorem e_gtup {K:PySem.W.Frag} {n:Nat} {t:TGs} {σ:St} {N:St→Hp→Prop}:gTup K n t (.ref a) σ H N = ∃ xs,SqT K H a xs∧xs.length=n∧t xs σ H N:=by simp [gTup]
theorem e_c0:((0:Nat):Int)=0:=rfl
theorem e_c1:((1:Nat):Int)=1:=rfl
theorem e_c2:((2:Nat):Int)=2:=rfl
theorem e_neE:cNeE (.ref a) (.ref b) H Q=onLst (H a) fun xs=>onLst (H b) fun ys=>ys=[]∧Q (.bl (!xs.isEmpty)) H:=rfl
theorem e_neD:cNeD (.ref a) (.ref b) H Q=onLst (H a) fun xs=>onLst (H b) fun ys=>∃ r,DPairs H xs ys r∧Q (.bl (!r)) H:=rfl
end
end L2
namespace L2
open PySem PySem.Spec PyProof.Rows
noncomputable def onTup (o:Option HO) (k:List V→Prop) (_u:Tg k:=()):Prop:=match o with
 | some (.tup xs)=>k xs
 | _=>False
noncomputable def cTcat:R2:=fun x y H Q=>onRef x fun a=>onRef y fun b=>onTup (H a) fun xs=>onTup (H b) fun ys=>xs.length+ys.length≤sizeLine∧(if xs=[] then Q y H else if ys=[] then Q x H else ∀ p,H p=none→Q (.ref p) (upd H p (.tup (xs++ys))))
noncomputable def cEqTE:R2:=fun x y H Q=>onRef x fun a=>onRef y fun b=>onTup (H a) fun xs=>onTup (H b) fun ys=>ys=[]∧xs.all flatV=true∧Q (.bl xs.isEmpty) H
section
variable {X:Cx}
end
section
variable {H:Hp} {Q:VK} {a b p:Addr} {vs:List V} {lo hi:Option Int}
theorem e_onTup {k:List V→Prop} {u:Tg k}:@onTup (some (.tup vs)) k u=k vs:=rfl
theorem e_tcat:cTcat (.ref a) (.ref b) H Q=onTup (H a) fun xs=>onTup (H b) fun ys=>xs.length+ys.length≤sizeLine∧(if xs=[] then Q (.ref b) H else if ys=[] then Q (.ref a) H else ∀ p,H p=none→Q (.ref p) (upd H p (.tup (xs++ys)))):=rfl
theorem e_eqTE:cEqTE (.ref a) (.ref b) H Q=onTup (H a) fun xs=>onTup (H b) fun ys=>ys=[]∧xs.all flatV=true∧Q (.bl xs.isEmpty) H:=rfl
theorem e_cutT:cCut lo hi H Q (some (.tup vs))=(¬ (HT.sIx vs.length 0 lo=0∧HT.sIx vs.length vs.length hi=vs.length)∧∀ p,H p=none→Q (.ref p) (upd H p (.tup (cutV vs lo hi)))):=rfl
end
end L2
namespace L2
open PySem PySem.Spec PyProof.Rows
theorem lk_list_keys:typeLookup (.type "list") "keys"=pure none:=by rw [typeLookup_type,builtinLookup_eq_fast];kernel_rfl
section
variable {prog:Program} {w:World} {A:Around} {E:Value→Shared→Prop}
theorem keys_none {s:Shared} {a:Addr} {its:Array Value} {n:Nat} {Q:Option Value→Shared→Prop} (hx:s.heap.get? a=some {cls:=.type "list",data:=.seq its n}) (hA:A.handled=none) (hq:∀ h' tk,(∀ b o,s.heap.get? b=some o→h'.get? b=some o)→Q none {s with heap:=h',toks:=tk}):wpAny (model prog w) A (getAttr? (.ref a) "keys") Q E s:=by
 obtain ⟨hp,g,d,tk,os⟩:=s
 have hT:∀ t,(⟨hp,g,d,t,os⟩:Shared).TypeIs (.ref a) "list":=fun t=>⟨_,hx,rfl⟩
 have f1:=sub_AttributeError
 have f2:=F.slot_list_getattribute.lookup
 have f3:=F.slot_list_getattribute.bind (.ref a)
 unfold getAttr? getAttrBy? getAttrBy
 repeat (any_goals (first | assumption | exact hT _ | ((with_reducible show wpAny _ _ (call (Value.builtin "list.__getattribute__") _ _) _ _ _);refine call_meets F.slot_list_getattribute (hT _) am_entry_list_getattribute (F.args_list_getattribute_2 _ _) (meets_getattribute_miss_list a its n #[] "keys" _ lk_list_keys (by decide +kernel) (by decide +kernel)) ⟨hx,hA,fun h' tk' e hx'=>?_⟩) | wp_step))
 obtain ⟨t',u',he⟩:=hx'.there
 show wpAny _ _ (getattributeRaised _ _ _ _ _ _ _) _ _ _
 unfold getattributeRaised
 have f5:=am_list_getattr_none
 repeat (any_goals (first | assumption | wp_step))
 exact hq _ _ hx'.keeps
theorem plain_upd:plainId "dict.update.loop"=true:=by decide +kernel
theorem entry_upd:entryFor table "dict.update.loop"=some Builtin.«dict.update.loop»:=entryFor_of_fast (by kernel_rfl)
theorem updTurn {P:Program} {W:World} {s:Shared} {A:Around} {d it l t:Addr} {items:Array Value} {i:Nat} {kv v:Value} {k:Key} {acc:List (Key×Value)} {Q:PySem.Fin→Shared→Prop} {E:Value→Shared→Prop} (hit:s.heap.IsListIter it l i) (hl:s.heap.IsList l items) (hx:items[i]?=some (.ref t)) (ht:s.heap.IsTuple t #[kv,v]) (hk:(mixKind P W).is k kv=true) (hd:s.heap.DictOf (mixKind P W) d acc) (hsz:acc.length≤sizeLine) (ndi:d≠it) (nti:t≠it) (hq:∀ h' tk,h'.IsListIter it l (i+1)→h'.DictOf (mixKind P W) d (stored acc k v)→(∀ b o,b≠d→b≠it→s.heap.get? b=some o→h'.get? b=some o)→Q (.again (.builtin "dict.update.loop" ⟨[.ref d,.ref it,rawInt (i+1),.none],[]⟩)) {s with heap:=h',toks:=tk}) : wpAny (model P W) A (Builtin.«dict.update.loop» ⟨[.ref d,.ref it,rawInt i,.none],[]⟩) Q E s:=by
 unfold Builtin.«dict.update.loop»
 show wpAny _ _ (pyNext (.ref it) >>= _) _ _ _
 refine wpAny_bind (wpAny_pyNext_list_item hit hl hx fun h1 hit1 sb=>?_)
 dsimp only
 refine wpAny_bind (wpAny_holding ?_)
 refine wpAny_bind (wpAny_tryCatch ?_)
 unfold Builtin.Dict.pairItems
 obtain ⟨o,ho,hc,m,hdat⟩:=ht
 have ho1:h1.get? t=some o:=(sb.2 t nti).trans ho
 refine wpAny_bind (wpAny_typeOf (T:="tuple") ⟨o,ho1,hc⟩ ?_)
 rw [if_pos (by decide)]
 refine wpAny_bind (wpAny_seqItems ho1 hdat (wpAny_pure ?_))
 show wpAny _ _ (holding [kv,v] (dictSet d kv v)) _ _ _
 refine wpAny_holding (wpAny_dictSet_pairs hk (hd.sameBut sb ndi) (fun h2 hd2 sb2=>?_) hsz)
 refine wpAny_pure (hq h2 _ ?_ hd2 fun b o b1 b2 e=>(sb2.2 b b1).trans ((sb.2 b b2).trans e))
 exact hit1.at fun o e=>(sb2.2 it ndi.symm).trans e
theorem updEnd {P:Program} {W:World} {s:Shared} {A:Around} {d it l:Addr} {items:Array Value} {i:Nat} {Q:PySem.Fin→Shared→Prop} {E:Value→Shared→Prop} (hh:A.handled=none) (hit:s.heap.IsListIter it l i) (hl:s.heap.IsList l items) (hx:items[i]?=none) (hq:∀ h',(∀ b o,b≠it→s.heap.get? b=some o→h'.get? b=some o)→Q (.done (.ret .none)) {s with heap:=h'}) : wpAny (model P W) A (Builtin.«dict.update.loop» ⟨[.ref d,.ref it,rawInt i,.none],[]⟩) Q E s:=by
 unfold Builtin.«dict.update.loop»
 show wpAny _ _ (pyNext (.ref it) >>= _) _ _ _
 refine wpAny_bind (wpAny_pyNext_list_end hh hit hl hx fun h1 eb=>?_)
 dsimp only
 show wpAny _ _ (Builtin.Dict.addKeywords d [] >>= _) _ _ _
 exact wpAny_bind (wpAny_pure (wpAny_pure (hq h1 fun b o b1 e=>eb b o b1 e)))
theorem updAll {P:Program} {W:World} {d it l:Addr} {items:List Value} (ps:List (Key×Value)) (ndi:d≠it) (ndl:l≠d) (nli:l≠it):∀(m i:Nat),items.length=i+m→∀(A:Around) (R:Result→Shared→Prop) (s:Shared) (acc:List (Key×Value)),A.handled=none→s.heap.IsListIter it l i→s.heap.IsList l items.toArray → (∀ j,i≤j→j < items.length→∃(t:Addr) (kv:Value) (k:Key) (v:Value),items[j]?=some (.ref t)∧ps[j]?=some (k,v)∧s.heap.IsTuple t #[kv,v]∧(mixKind P W).is k kv=true∧t≠it∧t≠d) → s.heap.DictOf (mixKind P W) d acc→acc.length+m≤sizeLine→ps.length=items.length → (∀ h' tk,h'.DictOf (mixKind P W) d (merged acc (ps.drop i))→(∀ b o,b≠d→b≠it→s.heap.get? b=some o→h'.get? b=some o)→R (.ok (.ret .none)) {s with heap:=h',toks:=tk}) → codeAny (model P W) A (.builtin "dict.update.loop" ⟨[.ref d,.ref it,rawInt i,.none],[]⟩) R s
 | 0,i,hm,A,R,s,acc,hh,hit,hl,hp,hd,hsz,hps,q=>by
  refine codeAny_builtin entry_upd ?_
  rw [Around.under_plainId plain_upd _]
  refine updEnd (A:=A.in1) hh hit hl (by simp;omega) fun h' k=>?_
  have e:ps.drop i=[]:=List.drop_of_length_le (by omega)
  rw [e] at q
  exact q h' s.toks (by
   obtain ⟨o,es,ep,ho,r⟩:=hd
   exact ⟨o,es,ep,k _ _ ndi ho,r⟩) fun b o _ b2 e=>k b o b2 e
 | m+1,i,hm,A,R,s,acc,hh,hit,hl,hp,hd,hsz,hps,q=>by
  refine codeAny_builtin entry_upd ?_
  rw [Around.under_plainId plain_upd _]
  obtain ⟨t,kv,k,v,e1,e2,ht,hk,n1,n2⟩:=hp i (Nat.le_refl _) (by omega)
  refine updTurn (A:=A.in1) hit hl (by simpa using e1) ht hk hd (by omega) ndi n1 fun h' tk hit' hd' kp=>?_
  refine ⟨plainId_quiet plain_upd _,?_⟩
  have c:((i:Int)+1)=((i+1:Nat):Int):=by omega
  rw [c]
  have es:ps.drop i=(k,v)::ps.drop (i+1):=by
   obtain ⟨hlt,e3⟩:=List.getElem?_eq_some_iff.mp e2
   rw [List.drop_eq_getElem_cons hlt,e3]
  refine updAll ps ndi ndl nli m (i+1) (by omega) A R _ (stored acc k v) hh hit' (hl.at fun o e=>kp l o ndl nli e) (fun j h1 h2=>?_) hd' ?_ hps fun h'' tk' hd'' kp'=>?_
  ·obtain ⟨t,kv,k,v,e1,e2,ht,hk,n1,n2⟩:=hp j (by omega) h2
   obtain ⟨o,ho,r⟩:=ht
   exact ⟨t,kv,k,v,e1,e2,⟨o,kp t o n2 n1 ho,r⟩,hk,n1,n2⟩
  ·have:=stored_length_le acc k v
   omega
  ·refine q h'' tk' ?_ fun b o b1 b2 e=>kp' b o b1 b2 (kp b o b1 b2 e)
   rw [es]
   exact hd''
end
noncomputable def PairsAt (H:Hp) (xs:List V) (kvs:List (Key×V)):Prop:=xs.length=kvs.length∧∀(j:Nat) (x:V),xs[j]?=some x→∃(t:Addr) (k:Key) (v:V),x=.ref t∧H t=some (.tup [kV k,v])∧kvs[j]?=some (k,v)
noncomputable def cDictP:List V→Hp→VK→Prop:=fun vs H Q=>on1 vs fun x=>onRef x fun l=>onLst (H l) fun xs=>∃ kvs,PairsAt H xs kvs∧∀ p,H p=none→Q (.ref p) (upd H p (.dK (mergeK [] kvs)))
theorem kv_rel {H:Hp} {P:Program} {W:World} {h:Heap} (ok:HOk P W H h):∀ {xs:List V} {its:List Value} {kvs:List (Key×V)},Vals xs its→PairsAt H xs kvs→∃ ps:List (Key×Value),KV kvs ps∧ps.length=its.length ∧ ∀ j,j < its.length→∃(t:Addr) (kv:Value) (k:Key) (v:Value),its[j]?=some (.ref t)∧ps[j]?=some (k,v)∧h.IsTuple t #[kv,v]∧(mixKind P W).is k kv=true∧H t≠none
 | [],_,[],.nil,_=>⟨[],.nil,rfl,fun j hj=>absurd hj (Nat.not_lt_zero _)⟩
 | [],_,_::_,.nil,p=>by cases p.1
 | _::_,_,[],.cons _ _,p=>by cases p.1
 | x::xs,_,kv::kvs,.cons r rr,p=>by
  obtain ⟨t,k,v,rfl,ht,e⟩:=p.2 0 x rfl
  cases r
  have e':kv=(k,v):=by simpa using e
  subst e'
  obtain ⟨ps,h1,h2,h3⟩:=kv_rel ok rr (kvs:=kvs) ⟨by simpa using p.1,fun j y hy=>by
   obtain ⟨t,k,v,a,b,c⟩:=p.2 (j+1) y (by simpa using hy)
   exact ⟨t,k,v,a,b,by simpa using c⟩⟩
  obtain ⟨_,its,ri,hi⟩:=(show ObjOk P W H h t (.tup [kV k,v]) from ok t _ ht)
  cases ri with
  | cons r1 ri=>cases ri with
   | cons r2 ri =>
    cases ri
    refine ⟨(k,_)::ps,.cons ⟨rfl,r2⟩ h1,by simp [h2],fun j hj=>?_⟩
    cases j with
    | zero=>exact ⟨t,_,k,_,rfl,rfl,hi,kV_is r1,by rw [ht];simp⟩
    | succ j =>
     obtain ⟨t',kv',k',v',a,b,c⟩:=h3 j (by simpa using hj)
     exact ⟨t',kv',k',v',by simpa using a,by simpa using b,c⟩
theorem mergeK_len:∀(more acc:List (Key×V)),(mergeK acc more).length≤acc.length+more.length
 | [],acc=>Nat.le_refl _
 | kv::more,acc=>by
  have h1:=mergeK_len more (putK acc kv.1 kv.2)
  have h2:=length_putK acc kv.1 kv.2
  show (mergeK (putK acc kv.1 kv.2) more).length≤_
  simp only [List.length_cons]
  omega
theorem call_dictP {X:Cx} (hc:X.calm=true):CallR X (.type "dict") cDictP:=fun pins s σ H vs us Q I r h=>by
 have h0:=h
 unfold cDictP at h0
 rw [← on1_eq] at h0
 obtain ⟨x,rfl,h1⟩:=h0
 obtain ⟨l,rfl,h2⟩:=onRef_of h1
 obtain ⟨xs,el,kvs,hp,q⟩:=onLst_of h2
 obtain ⟨u,rfl,ru⟩:=r.one
 cases ru
 obtain ⟨z,its,n,ri,hlen,eo⟩:=I.lstM el
 obtain ⟨ps,rel,plen,pat⟩:=kv_rel I.hok ri hp
 have hA:=I.ok.hd hc
 refine callType_codes (Q₁:=fun obj s₁=>obj=.ref s.heap.objs.size∧s₁={s with heap:=s.heap.push {cls:=.type "dict",data:=.dict #[]}}) F.kt_called_dict (F.kt_typeCall_dict_1 _) F.entry_dict_init (kt_code_dict_new _ ⟨rfl,rfl⟩) ?_
 rintro obj s₁ ⟨rfl,rfl⟩
 have hnew:(s.heap.push {cls:=.type "dict",data:=.dict #[]}).DictOf (mixKind X.prog X.w) s.heap.objs.size []:=Heap.DictOf.new s.heap
 refine ⟨hnew.typeIs,F.args_dict_init_2 _ _,?_⟩
 unfold Builtin.«dict.__init__» Builtin.Dict.selfAndRest
 refine wpAny_bind (wpAny_bind (wpAny_notOrdered_dict hnew.typeIs ?_))
 show wpAny _ _ (pure (s.heap.objs.size,[Value.ref l])) _ _ _
 refine wpAny_pure ?_
 show wpAny _ _ (Builtin.Dict.updateFrom "dict.__init__" s.heap.objs.size (.ref l) [] .none) _ _ _
 unfold Builtin.Dict.updateFrom
 have eo1:(s.heap.push {cls:=.type "dict",data:=.dict #[]}).get? l=some {cls:=.type "list",data:=.seq its.toArray n}:=Heap.get?_push_of_some _ eo
 refine wpAny_bind (wpAny_typeOf (T:="list") ⟨_,eo1,rfl⟩ ?_)
 rw [if_pos (by decide)]
 refine wpAny_bind (keys_none eo1 hA fun h' tk kp=>?_)
 rw [if_pos (show (none:Option Value).isNone=true from rfl)]
 refine wpAny_bind (wpAny_rule ?_)
 have hl1:h'.IsList l its.toArray:=⟨_,kp _ _ eo1,rfl,n,rfl⟩
 refine wpAny_bind (wpAny_pyIter_list hl1 (wpAny_pure ⟨plainId_quiet plain_upd _,?_⟩))
 have hD:s.heap.objs.size < h'.objs.size:=Heap.lt_size (kp _ _ (Heap.get?_push_size _ rfl))
 have old:∀ b o,s.heap.get? b=some o→(h'.push {cls:=.type "list_iterator",data:=.fields #[.ref l,rawInt 0]}).get? b=some o:=fun b o e=>Heap.get?_push_of_some _ (kp b o (Heap.get?_push_of_some _ e))
 have lt:∀ b o,s.heap.get? b=some o→b < s.heap.objs.size:=fun b o e=>Heap.lt_size e
 have ll:=lt _ _ eo
 refine updAll ps (Nat.ne_of_lt hD) (Nat.ne_of_lt ll) (Nat.ne_of_lt (Nat.lt_trans ll hD)) its.length 0 (by simp) X.A.in1 _ _ [] hA ⟨_,Heap.get?_push_size _ rfl,rfl,rfl⟩ ⟨_,old _ _ eo,rfl,n,rfl⟩ (fun j _ hj=>?_) ?_ (by simp only [List.length_nil];omega) plen fun hF tkF hdF kpF=>?_
 ·obtain ⟨t,kv,k,v,a1,a2,⟨o,ho,r⟩,a4,_⟩:=pat j hj
  have tl:=lt _ _ ho
  exact ⟨t,kv,k,v,a1,a2,⟨o,old _ _ ho,r⟩,a4,Nat.ne_of_lt (Nat.lt_trans tl hD),Nat.ne_of_lt tl⟩
 ·obtain ⟨o,es,ep,ho,r⟩:=hnew
  exact ⟨o,es,ep,Heap.get?_push_of_some _ (kp _ _ ho),r⟩
 ·rw [List.drop_zero] at hdF
  have kl:kvs.length≤sizeLine:=by rw [← hp.1];exact z
  have ml:=mergeK_len kvs []
  refine ⟨rfl,.ref s.heap.objs.size,upd H s.heap.objs.size (.dK (mergeK [] kvs)),I.laid (fun b o e=>kpF b o (Nat.ne_of_lt (lt _ _ e)) (Nat.ne_of_lt (Nat.lt_trans (lt _ _ e) hD)) (old _ _ e)) (Nat.le_refl _)
   (dk_new (by simp only [List.length_nil] at ml;omega) (beq_eq_false_iff_ne.mpr (Ne.symm (Nat.ne_of_lt I.big))) (rel.merge .nil) hdF),rfl,q _ (I.hok.fresh (Nat.le_refl _))⟩
end L2
namespace L2
open PySem PySem.Spec PyProof.Rows
noncomputable def Itd (a:Addr) (o:Obj) (kvs:List (Key×V)):It :=
 ⟨fun i H=>i < kvs.length∧H a=some (.frz o (.dK kvs)),fun i H x H'=>H'=H∧∃ kv,kvs[i]?=some kv∧x=kV kv.1,fun i H=>i=kvs.length∧H a=some (.frz o (.dK kvs))⟩
theorem KV.at {kvs:List (Key×V)} {vs:List (Key×Value)} (r:KV kvs vs) {i:Nat} {kv:Key×V} (e:kvs[i]?=some kv):∃ v,vs[i]?=some (kv.1,v):=by
 unfold KV at r
 induction r generalizing i with
 | nil=>simp at e
 | @cons p q ps qs h t ih=>cases i with
  | zero =>
   have e':p=kv:=by simpa using e
   subst e'
   exact ⟨q.2,by simp [h.1]⟩
  | succ i=>simpa using ih (i:=i) (by simpa using e)
noncomputable def iDct (tl:TE):TI:=fun σ H R=>tl σ H fun x H1=>onRef x fun a=>onDct (H1 a) fun kvs=>∀ o,R (Itd a o kvs) (upd H1 a (.frz o (.dK kvs)))
section
variable {fr:List Nat} {tc:TT} {te tl:TE} {σ:St} {H:Hp} {Q:VK}
theorem e_compD:tComp (iDct tl) fr tc te σ H Q=tl σ H fun x H1=>onRef x fun a=>onDct (H1 a) fun kvs=>∀ o,lc (Itd a o kvs) fr tc te σ (upd H1 a (.frz o (.dK kvs))) Q:=by
 unfold tComp iDct
 rfl
end
section
variable {td ty tx:TE} {σ:St} {H:Hp} {Q:VK} {D:Ends} {a:Addr} {v w x:V}
theorem onRef_eq {k:Addr→Prop}:(∃ a,x=.ref a∧k a)=onRef x k:=propext ⟨fun ⟨a,e,h⟩=>by subst e;exact h,onRef_of⟩
theorem e_rget1:tDGet1 td ty σ H Q=td σ H fun x H1=>onRef x fun a=>IsD H1 a∧ty σ H1 fun y H2=>∃ o,DGet H2 a y o∧Q (o.getD .non) H2:=by simp only [tDGet1,onRef_eq]
theorem e_rget:tDGet td ty σ H Q=td σ H fun x H1=>ty σ H1 fun y H2=>onRef x fun a=>∃ v,DGet H2 a y (some v)∧Q v H2:=by
 unfold tDGet
 congr 1
 funext x H1
 congr 1
 funext y H2
 exact propext ⟨fun ⟨a,v,e,h⟩=>by subst e;exact ⟨v,h⟩,fun h=>by obtain ⟨a,rfl,v,h⟩:=onRef_of h;exact ⟨a,v,rfl,h⟩⟩
theorem e_rin:tDIn ty td σ H Q=ty σ H fun y H1=>td σ H1 fun x H2=>onRef x fun a=>∃ o,DGet H2 a y o∧Q (.bl o.isSome) H2:=by
 unfold tDIn
 congr 1
 funext y H1
 congr 1
 funext x H2
 exact propext ⟨fun ⟨a,o,e,h⟩=>by subst e;exact ⟨o,h⟩,fun h=>by obtain ⟨a,rfl,o,h⟩:=onRef_of h;exact ⟨a,o,rfl,h⟩⟩
theorem e_rpop2:tDPop2 td ty tx σ H Q=td σ H fun x H1=>onRef x fun a=>IsD H1 a∧ty σ H1 fun y H2=>tx σ H2 fun z H3=>∃ kvs k,H3 a=some (.dK kvs)∧y=kV k∧(∀ v,valV kvs k=some v→Q v (upd H3 a (.dK (dropK kvs k))))∧(valV kvs k=none→Q z H3):=by
 simp only [tDPop2,onRef_eq]
theorem e_dictP {l:Addr}:cDictP [.ref l] H Q=onLst (H l) fun xs=>∃ kvs,PairsAt H xs kvs∧∀ p,H p=none→Q (.ref p) (upd H p (.dK (mergeK [] kvs))):=rfl
end
end L2
namespace L2
open PySem PySem.Spec PyProof.Rows
noncomputable def strsV:List V→Option (List Str)
 | []=>some []
 | .str x::vs=>(strsV vs).map (x::·)
 | _::_=>none
theorem strsV_map:∀ ys:List Str,strsV (ys.map V.str)=some ys
 | []=>rfl
 | y::ys=>by
  show (strsV (ys.map V.str)).map (y::·)=_
  rw [strsV_map ys]
  rfl
noncomputable def cStr:List V→Hp→VK→Prop:=fun vs H Q=>match vs with
 | [.int i]=>i.natAbs.log2 < 1920∧Q (.str (toString i)) H
 | [.str x]=>Q (.str x) H
 | _=>False
noncomputable def cJoin:V→List V→Hp→VK→Prop:=fun x vs H Q=>onStr x fun sep=>on1 vs fun y=>onRef y fun l=>onLst (H l) fun xs=>onO (strsV xs) fun ys=>(ys.map fun z=>z.length).sum+ys.length * sep.length≤16777216∧Q (.str (Txt.join sep ys)) H
noncomputable def cSplit:V→List V→Hp→VK→Prop:=fun x vs H Q=>onStr x fun z=>on1 vs fun y=>onStr y fun sep=>(sep.length == 0)=false∧z.length+2≤sizeLine∧∀ l,H l=none→Q (.ref l) (upd H l (.lst ((Txt.split z sep).map V.str)))
noncomputable def cTupOf:List V→Hp→VK→Prop:=fun vs H Q=>on1 vs fun x=>onRef x fun p=>onLst (H p) fun ys=>∀ l,H l=none→Q (.ref l) (upd H l (.tup ys))
theorem onStr_is {x:V} {k:Str→Prop} (h:onStr x k):∃ z,x=.str z∧k z:=by
 unfold onStr at h
 split at h
 ·exact ⟨_,rfl,h⟩
 ·exact h.elim
theorem on1_is {vs:List V} {k:V→Prop} (h:on1 vs k):∃ v,vs=[v]∧k v:=by
 unfold on1 at h
 split at h
 ·exact ⟨_,rfl,h⟩
 ·exact h.elim
section
variable {X:Cx}
theorem call_tupC:CallR X (.type "tuple") cTupOf:=fun pins s σ H xs us Q I r h=>by
 obtain ⟨x,rfl,h⟩:=on1_is h
 obtain ⟨p,rfl,h⟩:=onRef_of h
 obtain ⟨ys,e,h⟩:=onLst_of h
 exact call_tuple_of pins s σ H _ us Q I r ⟨_,_,rfl,.inl ⟨.inl (.inl e),h⟩⟩
noncomputable def cNeTE:R2:=fun x y H Q=>onRef x fun a=>onRef y fun b=>onTup (H a) fun xs=>onTup (H b) fun ys=>ys=[]∧Q (.bl (!xs.isEmpty)) H
end
section
variable {K:PySem.W.Frag} {T:String} {r:V→List V→Hp→VK→Prop} {to:TE} {t:TA} {σ:St} {H:Hp} {Q:VK} {x y:Str} {i:Int} {p:Addr} {ys:List Str}
theorem e_bm:tBM K T r to t σ H Q=to σ H fun x H1=>tyV K T x H1∧t σ H1 fun xs H2=>r x xs H2 Q:=rfl
theorem e_tyS:tyV K "str" (.str x) H=True:=eq_true rfl
theorem e_strI:cStr [.int i] H Q=(i.natAbs.log2 < 1920∧Q (.str (toString i)) H):=rfl
theorem e_strS:cStr [.str x] H Q=Q (.str x) H:=rfl
theorem e_join:cJoin (.str x) [.ref p] H Q=onLst (H p) fun xs=>onO (strsV xs) fun ys=>(ys.map fun z=>z.length).sum+ys.length * x.length≤16777216∧Q (.str (Txt.join x ys)) H:=rfl
theorem e_strsV:strsV (ys.map V.str)=some ys:=strsV_map ys
theorem e_split:cSplit (.str x) [.str y] H Q=((y.length == 0)=false∧x.length+2≤sizeLine∧∀ l,H l=none→Q (.ref l) (upd H l (.lst ((Txt.split x y).map V.str)))):=rfl
theorem e_neTE {q:Addr}:cNeTE (.ref p) (.ref q) H Q=onTup (H p) fun xs=>onTup (H q) fun ys=>ys=[]∧Q (.bl (!xs.isEmpty)) H:=rfl
theorem e_tupOf:cTupOf [.ref p] H Q=onLst (H p) fun ys=>∀ l,H l=none→Q (.ref l) (upd H l (.tup ys)):=rfl
end
end L2
namespace L2
open PySem PySem.Spec PyProof.Rows
noncomputable abbrev TJ:=Str→St→Hp→(Str→Hp→Prop)→Prop
noncomputable def tFmt (te:TE):TE:=fun σ H Q=>te σ H fun x H1=>onStr x fun z=>z.length≤sizeLine∧Q (.str z) H1
noncomputable def tJ0:TJ:=fun acc _ H Q=>Q acc H
noncomputable def tJ1 (te:TE) (tj:TJ):TJ:=fun acc σ H Q=>te σ H fun x H1=>onStr x fun z=>(acc++z).length≤sizeLine∧tj (acc++z) σ H1 Q
noncomputable def tJoined (tj:TJ):TE:=fun σ H Q=>tj Str.empty σ H fun out H1=>out.length≤sizeLine∧Q (.str out) H1
section
variable {X:Cx} {e a b:Expr} {es:List Expr} {te:TE} {tj:TJ} {pos:Pos}
end
noncomputable def tLM (r:V→List V→Hp→VK→Prop) (to:TE) (t:TA):TE:=fun σ H Q=>to σ H fun x H1=>onRef x fun a=>onLst (H1 a) fun _=>t σ H1 fun xs H2=>r (.ref a) xs H2 Q
noncomputable def cExt:V→List V→Hp→VK→Prop:=fun x vs H Q=>onRef x fun a=>on1 vs fun y=>onRef y fun b=>onLst (H a) fun xs=>onLst (H b) fun zs=>xs.length+zs.length≤sizeLine∧Q .non (upd H a (.lst (xs++zs)))
noncomputable def cPop0:V→List V→Hp→VK→Prop:=fun x vs H Q=>onRef x fun a=>on1 vs fun y=>onInt y fun i=>onLst (H a) fun xs=>i=0∧onO xs[0]? fun v=>Q v (upd H a (.lst xs.tail))
section
variable {X:Cx} {o e:Expr} {es:List Expr} {to:TE} {t:TA} {name:Str} {apos cpos:Pos} {id:String} {r:V→List V→Hp→VK→Prop}
theorem pe_lm (slot:Slot "list" name id) (hty:typeOf (.builtin id)=pure (.type "method_descriptor")) (hm:MtM X id r) (ho:PE X o to) (ha:PA X (e::es) t) (hbase:attributeBase o name X.env (eval o X.env)=eval o X.env:=by rfl) (hfew:((backTo cpos (starEach (e::es) X.env)).all (fun x=>!x.1) && (backToKw cpos (keywordEach [] X.env)).all (fun x=>x.1.isSome) && decide ((e::es).length+([]:List Keyword).length+(if ([]:List Keyword).isEmpty then 0 else 1) < 30))=true:=by rfl) (hline:(apos.endLine == cpos.line)=true:=by rfl) (hs:starEach (e::es) X.env=(false,eval e X.env)::starEach es X.env:=by rfl) (hplain:(backTo cpos (starEach es X.env)).any (·.1)=false:=by rfl) : PE X (.Call (.Attribute o name apos) (e::es) [] cpos) (tLM r to t):=by
 intro pins s σ H Q I h
 refine wpAny_Call_method_late hbase hfew hline rfl (thn (ho pins s σ H _ I h) fun v s1 ⟨x,H1,I1,r1,q1⟩=>?_)
 obtain ⟨a,rfl,q1⟩:=onRef_of q1
 obtain ⟨xs,e1,q1⟩:=onLst_of q1
 obtain ⟨h1,h2⟩:=tyV_is (T:="list") I1 r1 (.inl ⟨rfl,xs,.inl (.inl e1)⟩)
 refine ⟨"list",id,PySem.F.plainAttrs_list,slot,hty,h1,h2,?_⟩
 have hA:=ha cpos pins s1 σ H1 _ I1 q1
 rw [hs] at hA ⊢
 refine Calls.callWith_builtin (by show (false || (backTo cpos (starEach es X.env)).any (·.1))=false;rw [hplain]<;>rfl) (Calls.evalArgs_plain ?_)
 exact thn hA fun us s2 ⟨vs,H2,I2,r2,q2⟩=>hm pins s2 σ H2 _ vs v us Q I2 r1 r2 q2
theorem mt_extC:MtM X "list.extend" cExt:=fun pins s σ H x vs v us Q I rx rv h=>by
 obtain ⟨a,rfl,h1⟩:=onRef_of h
 obtain ⟨y,rfl,h2⟩:=on1_is h1
 obtain ⟨b,rfl,h3⟩:=onRef_of h2
 obtain ⟨xs,e1,h4⟩:=onLst_of h3
 obtain ⟨zs,e2,h5⟩:=onLst_of h4
 exact mt_extend pins s σ H _ _ v us Q I rx rv ⟨_,_,_,_,rfl,rfl,e1,e2,h5⟩
theorem mt_pop0:MtM X "list.pop" cPop0:=fun pins s σ H x vs v us Q I rx rv h=>by
 obtain ⟨a,rfl,h1⟩:=onRef_of h
 obtain ⟨y,rfl,h2⟩:=on1_is h1
 obtain ⟨i,rfl,h3⟩:=onInt_of h2
 obtain ⟨xs,e1,rfl,h4⟩:=onLst_of h3
 obtain ⟨y,e2,h5⟩:=onO_of h4
 cases xs with
 | nil=>cases e2
 | cons z zs=>exact mt_popAt pins s σ H _ _ v us Q I rx rv ⟨_,_,_,0,y,rfl,rfl,e1,by decide,by decide,by simp [seqIndex?],e2,h5⟩
end
noncomputable def truR:Option HO→Option Bool
 | some (.lst xs)=>some (!xs.isEmpty)
 | some (.tup xs)=>some (!xs.isEmpty)
 | some (.dK kvs)=>some (!kvs.isEmpty)
 | _=>none
noncomputable def truO (H:Hp):V→Option Bool
 | .non=>some false
 | .bl b=>some b
 | .int i=>some (i != 0)
 | .ref p=>truR (H p)
 | _=>none
theorem truO_of {K:PySem.W.Frag} {H:Hp} {x:V} {k:Bool} (h:truO H x=some k):TruV K x H k:=by
 cases x with
 | non=>cases h;rfl
 | bl b=>cases h;rfl
 | int i=>cases h;rfl
 | ref p =>
  simp only [truO] at h
  unfold truR at h
  split at h
  ·next e=>cases h;exact .inl ⟨_,.inl (.inl e),rfl⟩
  ·next e=>cases h;exact .inr (.inl ⟨_,SqT.of e,rfl⟩)
  ·next e=>cases h;exact .inr (.inr ⟨_,e,rfl⟩)
  ·cases h
 | _=>cases h
noncomputable def tTruth (ta:TE):TT:=fun σ H Q=>ta σ H fun x H'=>onO (truO H' x) fun k=>Q k H'
theorem pt_truC {X:Cx} {a:Expr} {ta:TE} (ha:PE X a ta) (he:∀ whole,isTrue a X.env whole=(do let v ← whole;standAt a.pos;holding [v] (truthy v))):PT X a (tTruth ta):=by
 intro pins s σ H Q I h
 exact isTrue_plain (thn (ha pins s σ H _ I h) fun v s1 ⟨x,H1,I1,r1,q1⟩=>by
  obtain ⟨k,e,q⟩:=onO_of q1
  exact tru_ok pins s1 σ H1 x v Q I1 r1 ⟨k,truO_of e,q⟩) (he _)
section
variable {te to:TE} {t:TA} {tj:TJ} {σ:St} {H:Hp} {Q:VK} {x acc:Str} {r:V→List V→Hp→VK→Prop} {QS:Str→Hp→Prop} {B:Bool→Hp→Prop} {D:Ends} {p q:Addr} {vs:List V} {kvs:List (Key×V)} {v:V} {b:Bool} {i:Int}
theorem e_fmt:tFmt te σ H Q=te σ H fun x H1=>onStr x fun z=>z.length≤sizeLine∧Q (.str z) H1:=rfl
theorem e_j0:tJ0 acc σ H QS=QS acc H:=rfl
theorem e_j1:tJ1 te tj acc σ H QS=te σ H fun x H1=>onStr x fun z=>(acc++z).length≤sizeLine∧tj (acc++z) σ H1 QS:=rfl
theorem e_joined:tJoined tj σ H Q=tj Str.empty σ H fun out H1=>out.length≤sizeLine∧Q (.str out) H1:=rfl
theorem e_estr:Str.empty++x=x:=by
 show (⟨#[]++x.cps⟩:Str)=x
 rw [Array.empty_append]
theorem e_lm:tLM r to t σ H Q=to σ H fun x H1=>onRef x fun a=>onLst (H1 a) fun _=>t σ H1 fun xs H2=>r (.ref a) xs H2 Q:=rfl
theorem e_ext:cExt (.ref p) [.ref q] H Q=onLst (H p) fun xs=>onLst (H q) fun zs=>xs.length+zs.length≤sizeLine∧Q .non (upd H p (.lst (xs++zs))):=rfl
theorem e_pop0:cPop0 (.ref p) [.int 0] H Q=onLst (H p) fun xs=>(0:Int)=0∧onO xs[0]? fun v=>Q v (upd H p (.lst xs.tail)):=rfl
theorem e_truth:tTruth te σ H B=te σ H fun x H'=>onO (truO H' x) fun k=>B k H':=rfl
theorem e_truN:truO H .non=some false:=rfl
theorem e_truB:truO H (.bl b)=some b:=rfl
theorem e_truI:truO H (.int i)=some (i != 0):=rfl
theorem e_truRef:truO H (.ref p)=truR (H p):=rfl
theorem e_truL:truR (some (.lst vs))=some (!vs.isEmpty):=rfl
theorem e_truT:truR (some (.tup vs))=some (!vs.isEmpty):=rfl
theorem e_truD:truR (some (.dK kvs))=some (!kvs.isEmpty):=rfl
theorem e_never:tNever D σ H=False:=rfl
variable {fr:List Nat} {tc:TT} {tl:TE} {K:PySem.W.Frag}
theorem e_compT:tComp (iTup K tl) fr tc te σ H Q=tl σ H fun x H1=>onRef x fun a=>(∃ xs,SqT K H1 a xs)∧lc (Itt K a) fr tc te σ H1 Q:=by
 unfold tComp iTup
 congr 1
 funext x H1
 exact propext ⟨fun ⟨a,e,h1,h⟩=>by subst e;exact ⟨h1,h⟩,fun h=>by obtain ⟨a,rfl,h1,h⟩:=onRef_of h;exact ⟨a,rfl,h1,h⟩⟩
end
end L2
namespace L2
open PySem PySem.Spec PyProof.Rows
section
variable {X:Cx} {pins:List (Addr×Obj)} {σ:St} {H:Hp} {s:Shared}
end
noncomputable def cNeA (K:PySem.W.Frag) (n:Nat):R2:=fun x y H Q=>onRef x fun a=>onRef y fun b=>∃ r,RcA K H n a b r∧Q (.bl (!r)) H
noncomputable def cEqA (K:PySem.W.Frag) (n:Nat):R2:=fun x y H Q=>onRef x fun a=>onRef y fun b=>∃ r,RcA K H n a b r∧Q (.bl r) H
theorem hu_n {A:Around} {k:Nat} (hr:Room k A) {n:Nat} (h:n≤60):A.units+n < cLine:=Nat.lt_of_le_of_lt (Nat.add_le_add_left (by omega:n≤64) _) hr.units
noncomputable def repV (n:Int) (xs:List V):List V:=(List.replicate n.toNat xs).flatten
noncomputable def cRep:R2:=fun x y H Q=>onRef x fun l=>onInt y fun k=>onLst (H l) fun xs=>(-(2 ^ 63)≤k∧k < 2 ^ 63)∧xs.length * k.toNat≤sizeLine∧∀ p,H p=none→Q (.ref p) (upd H p (.lst (repV k xs)))
noncomputable def cLstOf:List V→Hp→VK→Prop:=fun vs H Q=>on1 vs fun x=>onRef x fun p=>onSeq (H p) fun ys=>∀ l,H l=none→Q (.ref l) (upd H l (.lst ys))
noncomputable def cLenK (K:PySem.W.Frag):List V→Hp→VK→Prop:=fun vs H Q=>on1 vs fun x=>onRef x fun p=>∃ xs,SqL K H p xs∧Q (.int xs.length) H
section
variable {X:Cx}
theorem op_eqA (n:Nat) (hu:X.A.units+n < cLine):OpR X (compareOp .Eq) (cEqA X.K n):=fun pins s σ H x y v u Q I rx ry h=>by
 obtain ⟨a,rfl,h1⟩:=onRef_of h
 obtain ⟨b,rfl,r,e,q⟩:=onRef_of h1
 cases rx
 cases ry
 exact rcA_at e I hu X.prog X.w X.xe _ (fin_bl I q rfl)
theorem call_lenK:CallR X (.builtin "len") (cLenK X.K):=fun pins s σ H xs us Q I r h=>by
 obtain ⟨x,rfl,h1⟩:=on1_is h
 obtain ⟨p,rfl,ys,e,q⟩:=onRef_of h1
 exact call_len_seq pins s σ H _ us Q I r ⟨p,ys,rfl,.inl e,q⟩
end
section
variable {K:PySem.W.Frag} {H:Hp} {Q:VK} {a b p:Addr} {n:Nat} {i:Int}
theorem e_neA:cNeA K n (.ref a) (.ref b) H Q = ∃ r,RcA K H n a b r∧Q (.bl (!r)) H:=rfl
theorem e_eqA:cEqA K n (.ref a) (.ref b) H Q = ∃ r,RcA K H n a b r∧Q (.bl r) H:=rfl
theorem e_rep:cRep (.ref a) (.int i) H Q=onLst (H a) fun xs=>(-(2 ^ 63)≤i∧i < 2 ^ 63)∧xs.length * i.toNat≤sizeLine∧∀ p,H p=none→Q (.ref p) (upd H p (.lst (repV i xs))):=rfl
theorem e_lstOf:cLstOf [.ref p] H Q=onSeq (H p) fun ys=>∀ l,H l=none→Q (.ref l) (upd H l (.lst ys)):=rfl
theorem e_lenK:cLenK K [.ref p] H Q = ∃ xs,SqL K H p xs∧Q (.int xs.length) H:=rfl
end
theorem RcA.same {K:PySem.W.Frag} {H:Hp} {a b:Addr} {xs:List V} (h1:H a=some (.lst xs)) (h2:H b=some (.lst xs)) (h:∀ x∈xs,∃ c,x=.ref c):RcA K H 1 a b true:=by
 have:=RcA.list (K:=K) (H:=H) (n:=0) (a:=a) (b:=b) (e:=fun _=>true) (SqL.of h1) (SqL.of h2) rfl fun j x y e1 e2=>by
  rw [e1] at e2
  cases e2
  obtain ⟨c,rfl⟩:=h x (List.mem_of_getElem? e1)
  exact .same
 rwa [show ((List.range xs.length).all fun _=>true)=true by simp [List.all_eq_true]] at this
end L2
namespace L2
open PySem PySem.Spec PyProof.Rows
noncomputable def Str.cs (x:Str):List Nat:=x.cps.toList
noncomputable def cIntT:List V→Hp→VK→Prop:=fun vs H Q=>on1 vs fun x=>onStr x fun z=>z.length≤640∧onO (intText? z) fun n=>Q (.int n) H
noncomputable def cStarts:V→List V→Hp→VK→Prop:=fun x vs H Q=>onStr x fun z=>on1 vs fun y=>onStr y fun p=>Q (.bl (Txt.startswith z p)) H
noncomputable def cEnds:V→List V→Hp→VK→Prop:=fun x vs H Q=>onStr x fun z=>on1 vs fun y=>onStr y fun p=>Q (.bl (Txt.endswith z p)) H
noncomputable def cLeS:R2:=fun x y H Q=>onStr x fun i=>onStr y fun j=>Q (.bl (!decide (j.cps.toList < i.cps.toList))) H
noncomputable def boolsV:List V→Option (List Bool)
 | []=>some []
 | .bl b::r=>(boolsV r).map (b::·)
 | _=>none
theorem e_boolsV:∀ {bs:List Bool},boolsV (bs.map V.bl)=some bs
 | []=>rfl
 | b::bs=>by
  show (boolsV (bs.map V.bl)).map (b::·)=_
  rw [e_boolsV]
  rfl
noncomputable def cAll:List V→Hp→VK→Prop:=fun vs H Q=>on1 vs fun x=>onRef x fun p=>onLst (H p) fun xs=>onO (boolsV xs) fun bs=>Q (.bl (bs.all id)) H
noncomputable def cInK (K:PySem.W.Frag) (neg:Bool):R2:=fun x y H Q=>onRef y fun p=>∃ xs,SqT K H p xs∧flatV x=true∧xs.all flatV=true∧Q (.bl (if neg=true then !inV x xs else inV x xs)) H
section
variable {X:Cx}
end
section
variable {K:PySem.W.Frag} {H:Hp} {Q:VK} {p:Addr} {x y z:Str} {neg:Bool} {v:V}
theorem e_intT:cIntT [.str z] H Q=(z.length≤640∧onO (intText? z) fun n=>Q (.int n) H):=rfl
theorem e_starts:cStarts (.str z) [.str y] H Q=Q (.bl (Txt.startswith z y)) H:=rfl
theorem e_ends:cEnds (.str z) [.str y] H Q=Q (.bl (Txt.endswith z y)) H:=rfl
theorem e_leS:cLeS (.str x) (.str y) H Q=Q (.bl (!decide (y.cps.toList < x.cps.toList))) H:=rfl
theorem e_all:cAll [.ref p] H Q=onLst (H p) fun xs=>onO (boolsV xs) fun bs=>Q (.bl (bs.all id)) H:=rfl
theorem e_inK:cInK K neg v (.ref p) H Q = ∃ xs,SqT K H p xs∧flatV v=true∧xs.all flatV=true∧Q (.bl (if neg=true then !inV v xs else inV v xs)) H:=rfl
end
end L2
namespace L2
open PySem PySem.Spec PyProof.Rows
noncomputable def onIns (C:Addr) (o:Option HO) (k:Addr→List (Str×V)→Prop) (_u:Tg k:=()):Prop:=match o with
 | some (.ins C' dx fs)=>C'=C∧k dx fs
 | _=>False
theorem onIns_of {C:Addr} {o:Option HO} {k:Addr→List (Str×V)→Prop} (h:onIns C o k):∃ dx fs,o=some (.ins C dx fs)∧k dx fs:=by
 unfold onIns at h
 split at h
 ·obtain ⟨rfl,h⟩:=h
  exact ⟨_,_,rfl,h⟩
 ·exact h.elim
noncomputable def cFld (C:Addr) (f:Str) (ta:TE):TE:=fun σ H Q=>ta σ H fun x H1=>onRef x fun a=>onIns C (H1 a) fun _ fs=>onO (fs.lookup f) fun v=>Q v H1
noncomputable def cSetF (C:Addr) (f:Str) (ta tv:TE):TS:=fun D σ H=>tv σ H fun y H1=>ta σ H1 fun x H2=>onRef x fun a=>onIns C (H2 a) fun dx fs=>fs.length < 1000∧D.nx σ (upd H2 a (.ins C dx (putF f y fs)))
noncomputable def cAugF (C:Addr) (f:Str) (ta tv:TE):TS:=fun D σ H=>ta σ H fun x H1=>onRef x fun a=>onIns C (H1 a) fun _ fs=>onO (fs.lookup f) fun v=>tv σ H1 fun y H2=>onInt v fun i=>onInt y fun j=>onIns C (H2 a) fun dx fs'=>fs'.length < 1000∧D.nx σ (upd H2 a (.ins C dx (putF f (.int (i+j)) fs')))
section
variable {X:Cx} {o e value:Expr} {f:Str} {pos pos' tpos:Pos} {ta tv:TE} {C:Addr}
theorem pe_fldC (c:Cls X.K C) (n:NoAttr X.K C f) (he:PE X e ta) (hb:attributeBase e f X.env (eval e X.env)=eval e X.env:=by rfl):PE X (.Attribute e f pos) (cFld C f ta):=fun pins s σ H Q I h=>by
 refine attr_of hb (thn (he pins s σ H _ I h) fun u s1 ⟨x,H1,I1,rx,q1⟩=>?_)
 obtain ⟨a,rfl,q2⟩:=onRef_of q1
 obtain ⟨dx,fs,ea,q3⟩:=onIns_of q2
 obtain ⟨v,l,q⟩:=onO_of q3
 obtain rfl:u=Value.ref a:=rx
 exact getattr_ok I1 ea c n l fun u' s2 I2 ru=>⟨v,H1,I2,ru,q⟩
theorem ps_fldC (c:Cls X.K C) (n:NoAttr X.K C f) (ha:PE X o ta) (hv:PE X value tv) (hs:swapsWith value (some (.Attribute o f pos')) pos.line X.env=pure false:=by rfl):PS X (.Assign [.Attribute o f pos'] value pos) (cSetF C f ta tv):=fun pins s σ H D I h=>by
 refine plainObj_wpAny_Assign_Attribute (thn (hv pins s σ H _ I h) fun u s1 ⟨y,H1,I1,ry,q⟩=>thn (ha pins s1 σ H1 _ I1 q) fun ov s2 ⟨x,H2,I2,rx,q1⟩=>?_) hs
 obtain ⟨a,rfl,q2⟩:=onRef_of q1
 obtain ⟨dx,fs,ea,l,q3⟩:=onIns_of q2
 obtain rfl:ov=Value.ref a:=rx
 exact setattr_ok I2 ea c n l ry fun s3 I3=>⟨σ,_,I3,q3⟩
theorem ps_augF (c:Cls X.K C) (n:NoAttr X.K C f) (ha:PE X o ta) (hv:PE X value tv):PS X (.AugAssign (.Attribute o f tpos) .Add value pos) (cAugF C f ta tv):=fun pins s σ H D I h=>by
 refine wpAny_AugAssign_AttributeAny (thn (ha pins s σ H _ I h) fun ov s1 ⟨x,H1,I1,rx,q1⟩=>?_)
 obtain ⟨a,rfl,q2⟩:=onRef_of q1
 obtain ⟨dx,fs,ea,q3⟩:=onIns_of q2
 obtain ⟨v,l,q⟩:=onO_of q3
 obtain rfl:ov=Value.ref a:=rx
 refine getattr_ok I1 ea c n l fun u s2 I2 ru=>thn (hv pins s2 σ H1 _ I2 q) fun w3 s3 ⟨y,H2,I3,ry,q4⟩=>?_
 obtain ⟨i,rfl,q5⟩:=onInt_of q4
 obtain ⟨j,rfl,q6⟩:=onInt_of q5
 obtain ⟨dx',fs',ea',l',q7⟩:=onIns_of q6
 refine thn (in_add pins s3 σ H2 (.int i) (.int j) u w3 (fun z H3=>z=.int (i+j)∧H3=H2) I3 ru ry ⟨i,j,rfl,rfl,rfl,rfl⟩) fun w4 s4 ⟨z,H3,I4,rz,ez,eH⟩=>?_
 subst ez eH
 exact setattr_ok I4 ea' c n l' rz fun s5 I5=>⟨σ,_,I5,q7⟩
end
section
variable {C a dx:Addr} {fs:List (Str×V)} {k:Addr→List (Str×V)→Prop} {m f:Str} {sp:Sp} {E:XK} {ta tv:TE} {t:TA} {σ:St} {H:Hp} {Q:VK} {D:Ends} {v u:V} {r:List (Str×V)}
theorem e_onIns {k:Addr→List (Str×V)→Prop} {u:Tg k}:@onIns C (some (.ins C dx fs)) k u=k dx fs:=by simp [onIns]
theorem e_fld:cFld C f ta σ H Q=ta σ H fun x H1=>onRef x fun a=>onIns C (H1 a) fun _ fs=>onO (fs.lookup f) fun v=>Q v H1:=rfl
theorem e_setF:cSetF C f ta tv D σ H=tv σ H fun y H1=>ta σ H1 fun x H2=>onRef x fun a=>onIns C (H2 a) fun dx fs=>fs.length < 1000∧D.nx σ (upd H2 a (.ins C dx (putF f y fs))):=rfl
theorem e_augF:cAugF C f ta tv D σ H=ta σ H fun x H1=>onRef x fun a=>onIns C (H1 a) fun _ fs=>onO (fs.lookup f) fun v=>tv σ H1 fun y H2=>onInt v fun i=>onInt y fun j=>onIns C (H2 a) fun dx fs'=>fs'.length < 1000∧D.nx σ (upd H2 a (.ins C dx (putF f (.int (i+j)) fs'))):=rfl
theorem e_meth:tMeth C m sp [] E ta t σ H Q=ta σ H fun x H1=>onRef x fun a=>onIns C (H1 a) fun _ fs=>fs.lookup m=none∧t σ H1 fun vs H2=>sp (.ref a::vs) H2 Q E:=by
 unfold tMeth
 congr 1
 funext x H1
 refine propext ⟨fun ⟨a,dx,fs,e,e1,l,h⟩=>?_,fun h=>?_⟩
 ·subst e
  show onIns C (H1 a) _
  rw [e1,e_onIns]
  simp only [List.append_nil] at h
  exact ⟨l,h⟩
 ·obtain ⟨a,rfl,h⟩:=onRef_of h
  obtain ⟨dx,fs,e1,l,h⟩:=onIns_of h
  exact ⟨a,dx,fs,rfl,e1,l,by simpa only [List.append_nil] using h⟩
theorem e_make:tMake C sp [] E t σ H Q=t σ H fun vs H1=>∀ x dx,H1 x=none→H1 dx=none→dx≠x→sp (.ref x::vs) (upd (upd H1 dx (.own x)) x (.ins C dx [])) (fun v H2=>v=.non∧Q (.ref x) H2) E:=by
 unfold tMake
 simp only [List.append_nil]
theorem of_inj {x y:String}:(Str.ofString x=Str.ofString y)=(x=y):=w_sinj
theorem e_lookup {x y:String}:List.lookup (Str.ofString x) ((Str.ofString y,v)::r)=if x=y then some v else List.lookup (Str.ofString x) r:=by
 by_cases h:x=y
 ·subst h
  simp [List.lookup]
 ·have:(Str.ofString x == Str.ofString y)=false:=beq_eq_false_iff_ne.mpr fun z=>h (of_inj ▸ z)
  simp only [List.lookup,this,if_neg h]
theorem e_lookup0 {x:Str}:List.lookup x ([]:List (Str×V))=none:=rfl
theorem e_putF {x y:String}:putF (Str.ofString x) u ((Str.ofString y,v)::r)=if y=x then (Str.ofString y,u)::r else (Str.ofString y,v)::putF (Str.ofString x) u r:=by
 rw [show putF (Str.ofString x) u ((Str.ofString y,v)::r)=(if Str.ofString y=Str.ofString x then (Str.ofString y,u)::r else (Str.ofString y,v)::putF (Str.ofString x) u r) from rfl]
 by_cases h:y=x
 ·rw [if_pos h,if_pos (by rw [h])]
 ·rw [if_neg h,if_neg fun z=>h (of_inj ▸ z)]
theorem e_putF0 {x:Str}:putF x u []=[(x,u)]:=rfl
end
end L2
namespace L2
open PySem PySem.Spec PyProof.Rows
noncomputable def tysV:List V→Option (List String)
 | []=>some []
 | .ty T::r=>(tysV r).map (T::·)
 | _=>none
noncomputable def tyObj (Ts:List String):Obj:={cls:=.type "tuple",data:=.seq (Ts.map Value.type).toArray}
noncomputable def tTupF (t:TA):TE:=fun σ H Q=>t σ H fun xs H1=>onO (tysV xs) fun Ts=>xs.length≤sizeLine∧∀ p,H1 p=none→Q (.ref p) (upd H1 p (.frz (tyObj Ts) (.tup xs)))
theorem tys_of:∀ {xs:List V} {Ts:List String} {us:List Value},tysV xs=some Ts→Vals xs us→us=Ts.map Value.type
 | [],Ts,us,h,r=>by cases h;exact r.zero
 | x::xs,Ts,us,h,r=>by
  cases x with
  | ty T =>
   simp only [tysV,Option.map_eq_some_iff] at h
   obtain ⟨Us,e,rfl⟩:=h
   cases r with
   | cons r1 r2 =>
    cases r1
    rw [tys_of e r2]
    rfl
  | _=>cases h
theorem pe_tupF {X:Cx} {es:List Expr} {t:TA} {pos:Pos} {x1} (h:PA X es t):PE X (.Tuple es x1 pos) (tTupF t):=by
 intro pins s σ H Q I hq
 refine wpAny_Tuple_spliced (thn (h pos pins s σ H _ I hq) fun us s1 ⟨xs,H1,I1,r,q1⟩=>?_)
 obtain ⟨Ts,e,z,q⟩:=onO_of q1
 refine ⟨by rw [← r.length];exact z,?_⟩
 have hf:H1 s1.heap.objs.size=none:=I1.hok.fresh (Nat.le_refl _)
 have eu:=tys_of e r
 refine ⟨.ref s1.heap.objs.size,upd H1 s1.heap.objs.size (.frz (tyObj Ts) (.tup xs)),I1.laid (t':=s1.toks) (fun b u e=>Heap.get?_push_of_some _ e) (Nat.le_refl _) ?_,rfl,q _ hf⟩
 refine ⟨?_,z,us,r,⟨_,Heap.get?_push_size _ rfl,rfl,_,rfl⟩⟩
 subst eu
 exact Heap.get?_push_size _ rfl
noncomputable def kindR:Option HO→Option String
 | some (.tup _)=>some "tuple"
 | some (.lst _)=>some "list"
 | _=>none
noncomputable def kindO (H:Hp):V→Option String
 | .int _=>some "int"
 | .str _=>some "str"
 | .non=>some "NoneType"
 | .bl _=>some "bool"
 | .ref p=>kindR (H p)
 | _=>none
noncomputable def isiK:String→String→Bool
 | "int","int"=>true
 | "bool","int"=>true
 | "str","str"=>true
 | "tuple","tuple"=>true
 | "list","list"=>true
 | _,_=>false
noncomputable def cIsiF:List V→Hp→VK→Prop:=fun vs H Q=>on2 vs fun x y=>onRef y fun p=>∃ Ts xs,H p=some (.frz (tyObj Ts) (.tup xs))∧(Ts=["int","str"]∨Ts=["list","tuple"])∧onO (kindO H x) fun kd=>Q (.bl (Ts.any (isiK kd))) H
theorem on2_is {vs:List V} {k:V→V→Prop} (h:on2 vs k):∃ v w,vs=[v,w]∧k v w:=by
 unfold on2 at h
 split at h
 ·exact ⟨_,_,rfl,h⟩
 ·exact h.elim
section
variable {X:Cx}
theorem call_isiF:CallR X (.builtin "isinstance") cIsiF:=fun pins s σ H xs us Q I r h=>by
 obtain ⟨x,y,rfl,h1⟩:=on2_is h
 obtain ⟨p,rfl,Ts,zs,ep,hT,h2⟩:=onRef_of h1
 obtain ⟨kd,ek,q⟩:=onO_of h2
 obtain ⟨u,w',rfl,r1,r2⟩:=vals2 r
 cases r2
 have fin:∀ tk:Nat,EP X pins σ Q (.bool (Ts.any (isiK kd))) {s with toks:=tk}:=fun tk=>⟨.bl _,H,I.tok _,rfl,q⟩
 have hp:s.heap.get? p=some {cls:=.type "tuple",data:=.seq (Ts.map Value.type).toArray}:=(I.hok p _ ep).1
 cases x with
 | int n =>
  cases ek
  obtain ⟨t,rfl⟩:=r1
  rcases hT with rfl | rfl
  ·exact IsiPair.tupleOfB (Tx:="int") (cs:=[.type "int",.type "str"]) (.cons (.of_true F.isi_meta_int F.isi_self_int) (.cons (.of_false_int rfl F.isi_meta_str (by first | exact F.sub_int_str | rfl)) .nil)) rfl hp rfl fin
  ·exact IsiPair.tupleOfB (Tx:="int") (cs:=[.type "list",.type "tuple"]) (.cons (.of_false_int rfl F.isi_meta_list (by rfl)) (.cons (.of_false_int rfl F.isi_meta_tuple (by rfl)) .nil)) rfl hp rfl fin
 | str z =>
  cases ek
  obtain ⟨t,rfl⟩:=r1
  rcases hT with rfl | rfl
  ·exact IsiPair.tupleOfB (Tx:="str") (cs:=[.type "int",.type "str"]) (.cons (.of_false_str rfl F.isi_meta_int (by rfl)) (.cons (.of_true F.isi_meta_str F.isi_self_str) .nil)) rfl hp rfl fin
  ·exact IsiPair.tupleOfB (Tx:="str") (cs:=[.type "list",.type "tuple"]) (.cons (.of_false_str rfl F.isi_meta_list (by rfl)) (.cons (.of_false_str rfl F.isi_meta_tuple (by rfl)) .nil)) rfl hp rfl fin
 | non =>
  cases ek
  cases r1
  rcases hT with rfl | rfl
  ·exact IsiPair.tupleOfB (Tx:="NoneType") (cs:=[.type "int",.type "str"]) (.cons (.of_false_none rfl F.isi_meta_int (by rfl)) (.cons (.of_false_none rfl F.isi_meta_str (by rfl)) .nil)) rfl hp rfl fin
  ·exact IsiPair.tupleOfB (Tx:="NoneType") (cs:=[.type "list",.type "tuple"]) (.cons (.of_false_none rfl F.isi_meta_list (by rfl)) (.cons (.of_false_none rfl F.isi_meta_tuple (by rfl)) .nil)) rfl hp rfl fin
 | bl b =>
  cases ek
  cases r1
  rcases hT with rfl | rfl
  ·exact IsiPair.tupleOfB (Tx:="bool") (cs:=[.type "int",.type "str"]) (.cons (.of_true F.isi_meta_int (by rfl)) (.cons (.of_false_bool rfl F.isi_meta_str (by rfl)) .nil)) rfl hp rfl fin
  ·exact IsiPair.tupleOfB (Tx:="bool") (cs:=[.type "list",.type "tuple"]) (.cons (.of_false_bool rfl F.isi_meta_list (by rfl)) (.cons (.of_false_bool rfl F.isi_meta_tuple (by rfl)) .nil)) rfl hp rfl fin
 | ref a =>
  cases r1
  simp only [kindO] at ek
  unfold kindR at ek
  split at ek
  ·next e =>
   cases ek
   obtain ⟨o,eo,c⟩:=Inv.tupObj I (SqT.of e)
   have ty:s.TypeIs (.ref a) "tuple":=⟨o,eo,c⟩
   rcases hT with rfl | rfl
   ·exact IsiPair.tupleOfB (Tx:="tuple") (cs:=[.type "int",.type "str"]) (.cons (.of_false_tuple rfl F.isi_meta_int (by rfl)) (.cons (.of_false_tuple rfl F.isi_meta_str (by rfl)) .nil)) ty hp rfl fin
   ·exact IsiPair.tupleOfB (Tx:="tuple") (cs:=[.type "list",.type "tuple"]) (.cons (.of_false_tuple rfl F.isi_meta_list (by rfl)) (.cons (.of_true F.isi_meta_tuple F.isi_self_tuple) .nil)) ty hp rfl fin
  ·next e =>
   cases ek
   obtain ⟨o,eo,c⟩:=Inv.listObj I (SqL.of e)
   have ty:s.TypeIs (.ref a) "list":=⟨o,eo,c⟩
   rcases hT with rfl | rfl
   ·exact IsiPair.tupleOfB (Tx:="list") (cs:=[.type "int",.type "str"]) (.cons (.of_false_list rfl F.isi_meta_int (by rfl)) (.cons (.of_false_list rfl F.isi_meta_str (by rfl)) .nil)) ty hp rfl fin
   ·exact IsiPair.tupleOfB (Tx:="list") (cs:=[.type "list",.type "tuple"]) (.cons (.of_true F.isi_meta_list F.isi_self_list) (.cons (.of_false_list rfl F.isi_meta_tuple (by rfl)) .nil)) ty hp rfl fin
  ·cases ek
 | _=>cases ek
end
section
variable {H:Hp} {Q:VK} {x:V} {p:Addr} {σ:St} {t:TA} {vs:List V} {i:Int} {z:Str} {b:Bool}
theorem e_tupF:tTupF t σ H Q=t σ H fun xs H1=>onO (tysV xs) fun Ts=>xs.length≤sizeLine∧∀ p,H1 p=none→Q (.ref p) (upd H1 p (.frz (tyObj Ts) (.tup xs))):=rfl
theorem e_tys2 {S T:String}:tysV [.ty S,.ty T]=some [S,T]:=rfl
theorem e_isiF:cIsiF [x,.ref p] H Q = ∃ Ts xs,H p=some (.frz (tyObj Ts) (.tup xs))∧(Ts=["int","str"]∨Ts=["list","tuple"])∧onO (kindO H x) fun kd=>Q (.bl (Ts.any (isiK kd))) H:=rfl
end
mutual
theorem EqA.mono {K:PySem.W.Frag} {H:Hp}:∀ {n m:Nat} {x y:V} {b:Bool},EqA K H n x y b→n≤m→EqA K H m x y b
 | _,_,_,_,_,.flat a b,_=>.flat a b
 | _,_,_,_,_,.same,_=>.same
 | _,_,_,_,_,.refs ne r,h=>.refs ne (RcA.mono r h)
theorem RcA.mono {K:PySem.W.Frag} {H:Hp}:∀ {n m:Nat} {a b:Addr} {r:Bool},RcA K H n a b r→n≤m→RcA K H m a b r
 | _,m+1,_,_,_,.list a b c d,h=>.list a b c fun j x y e1 e2=>EqA.mono (d j x y e1 e2) (by omega)
 | _,m+1,_,_,_,.listLen a b c,_=>.listLen a b c
 | _,m+1,_,_,_,.tup a b d,h=>.tup a b fun j x y e1 e2=>EqA.mono (d j x y e1 e2) (by omega)
 | _,0,_,_,_,.list _ _ _ _,h=>absurd h (by omega)
 | _,0,_,_,_,.listLen _ _ _,h=>absurd h (by omega)
 | _,0,_,_,_,.tup _ _ _,h=>absurd h (by omega)
end
theorem EqA.pair {K:PySem.W.Frag} {H:Hp} {n:Nat} {a b:Addr} {xs ys:List V} (e1:H a=some (.tup xs)) (e2:H b=some (.tup ys)) (hl:xs.length=ys.length) (he:∀(j:Nat) (x y:V),xs[j]?=some x→ys[j]?=some y→EqA K H n x y true):EqA K H (n+1) (.ref a) (.ref b) true:=by
 by_cases h:a=b
 ·subst h
  exact .same
 ·have:=RcA.tup (K:=K) (H:=H) (n:=n) (e:=fun _=>true) (SqT.of e1) (SqT.of e2) he
  rw [show ((List.range (min xs.length ys.length)).all (fun _=>true) && xs.length == ys.length)=true by rw [hl];simp [List.all_eq_true]] at this
  exact .refs h this
theorem eqV_str {a b:Str}:eqV (.str a) (.str b)=(a == b):=rfl
end L2
namespace L2
open PySem PySem.Spec PyProof.Rows
section
variable {X:Cx} {pins:List (Addr×Obj)} {σ:St} {H:Hp} {s:Shared} {a:Addr} {o:Obj} {kvs:List (Key×V)}
end
noncomputable def thawE (H₀:Hp) (D:Ends):Ends :=
 {nx:=fun σ H=>∃ a o kvs,H a=some (.frz o (.dK kvs))∧(∀ ob u,H₀ a≠some (.frz ob u))∧D.nx σ (upd H a (.dK kvs))
  bk:=fun σ H=>∃ a o kvs,H a=some (.frz o (.dK kvs))∧(∀ ob u,H₀ a≠some (.frz ob u))∧D.bk σ (upd H a (.dK kvs))
  ct:=fun σ H=>∃ a o kvs,H a=some (.frz o (.dK kvs))∧(∀ ob u,H₀ a≠some (.frz ob u))∧D.ct σ (upd H a (.dK kvs))
  rt:=fun v H=>∃ a o kvs,H a=some (.frz o (.dK kvs))∧(∀ ob u,H₀ a≠some (.frz ob u))∧D.rt v (upd H a (.dK kvs))}
noncomputable def tThaw (H₀:Hp) (t:TS):TS:=fun D σ H=>t (thawE H₀ D) σ H
noncomputable def cDIn (ty td:TE):TE:=fun σ H Q=>ty σ H fun y H1=>td σ H1 fun x H2=>onRef x fun a=>onDct (H2 a) fun kvs=>onO (keyO y) fun k=>Q (.bl (valV kvs k).isSome) H2
noncomputable def cDPop1 (td ty:TE):TE:=fun σ H Q=>td σ H fun x H1=>onRef x fun a=>onDct (H1 a) fun _=>ty σ H1 fun y H2=>onDct (H2 a) fun kvs=>onO (keyO y) fun k=>onO (valV kvs k) fun v=>Q v (upd H2 a (.dK (dropK kvs k)))
noncomputable def cDGet2 (td ty tx:TE):TE:=fun σ H Q=>td σ H fun x H1=>onRef x fun a=>onDct (H1 a) fun _=>ty σ H1 fun y H2=>tx σ H2 fun z H3=>onDct (H3 a) fun kvs=>onO (keyO y) fun k=>Q ((valV kvs k).getD z) H3
theorem kV_key {y:V} {k:Key} (h:keyO y=some k):y=kV k:=by
 cases y<;>simp [keyO] at h<;>subst h<;>rfl
section
variable {X:Cx} {o e f:Expr} {apos cpos:Pos} {td ty tx:TE}
theorem pe_dpopC (ho:PE X o td) (he:PE X e ty) (m:M1 X o "pop" apos e cpos):PE X (.Call (.Attribute o "pop" apos) [e] [] cpos) (cDPop1 td ty):=fun pins s σ H Q I h=>by
 refine wpAny_Call_method m.base m.few m.line PySem.F.plainAttrs_dict PySem.F.slot_dict_pop PySem.F.type_dict_pop (thn (ho pins s σ H _ I h) fun u s1 ⟨x,H1,I1,rx,q1⟩=>?_)
 obtain ⟨a,rfl,q2⟩:=onRef_of q1
 obtain ⟨kv0,e0,q3⟩:=onDct_of q2
 obtain rfl:u=Value.ref a:=rx
 obtain ⟨t1,t2,_⟩:=isD_at I1 (.inl ⟨kv0,.inl e0⟩)
 refine ⟨t1,t2,?_⟩
 rw [m.trees]
 refine Calls.callWith_builtin rfl (Calls.evalArgs_plain (Calls.spliced_cons (thn (he pins s1 σ H1 _ I1 q3) fun iv s2 ⟨y,H2,I2,ry,q4⟩=>Calls.spliced_nil ?_)))
 obtain ⟨kvs,ea,q5⟩:=onDct_of q4
 obtain ⟨k,ek,q6⟩:=onO_of q5
 obtain ⟨v,l,q7⟩:=onO_of q6
 cases kV_key ek
 exact d_pop I2 ea ry l (.inl rfl) fun w' s3 I3 rw'=>⟨v,_,I3,rw',q7⟩
theorem pe_dget2C (hu:X.A.units+1 < cLine) (ho:PE X o td) (he:PE X e ty) (hf:PE X f tx) (m:M2 X o "get" apos e f cpos):PE X (.Call (.Attribute o "get" apos) [e,f] [] cpos) (cDGet2 td ty tx):=fun pins s σ H Q I h=>by
 refine wpAny_Call_method m.base m.few m.line PySem.F.plainAttrs_dict PySem.F.slot_dict_get PySem.F.type_dict_get (thn (ho pins s σ H _ I h) fun u s1 ⟨x,H1,I1,rx,q1⟩=>?_)
 obtain ⟨a,rfl,q2⟩:=onRef_of q1
 obtain ⟨kv0,e0,q3⟩:=onDct_of q2
 obtain rfl:u=Value.ref a:=rx
 obtain ⟨t1,t2,_⟩:=isD_at I1 (.inl ⟨kv0,.inl e0⟩)
 refine ⟨t1,t2,?_⟩
 rw [m.trees]
 refine Calls.callWith_builtin rfl (Calls.evalArgs_plain (Calls.spliced_cons (thn (he pins s1 σ H1 _ I1 q3) fun iv s2 ⟨y,H2,I2,ry,q4⟩ =>
  Calls.spliced_cons (thn (hf pins s2 σ H2 _ I2 q4) fun fv s3 ⟨z,H3,I3,rz,q5⟩=>Calls.spliced_nil ?_))))
 obtain ⟨kvs,ea,q6⟩:=onDct_of q5
 obtain ⟨k,ek,q7⟩:=onO_of q6
 cases kV_key ek
 exact d_get2 hu I3 (DGet.k ea) ry rz fun w' s4 I4 rw'=>⟨_,H3,I4,rw',q7⟩
theorem pc_dinC (hu:X.A.units+1 < cLine) (hi:PE X e ty) (ho:PE X o td):PC X .In e o (cDIn ty td):=fun pins s σ H Q I h=>by
 refine thn (hi pins s σ H _ I h) fun iv s1 ⟨y,H1,I1,ry,q1⟩=>thn (ho pins s1 σ H1 _ I1 q1) fun u s2 ⟨x,H2,I2,rx,q2⟩=>?_
 obtain ⟨a,rfl,q3⟩:=onRef_of q2
 obtain ⟨kvs,e0,q4⟩:=onDct_of q3
 obtain ⟨k,ek,q5⟩:=onO_of q4
 obtain rfl:u=Value.ref a:=rx
 cases kV_key ek
 exact d_in hu I2 (DGet.k e0) ry fun s3 I3=>⟨.bl (valV kvs k).isSome,H2,I3,rfl,q5⟩
noncomputable def cDClear (td:TE):TE:=fun σ H Q=>td σ H fun x H1=>onRef x fun a=>onDct (H1 a) fun _=>Q .non (upd H1 a (.dK []))
theorem pe_dclear (ho:PE X o td) (hbase:attributeBase o "clear" X.env (eval o X.env)=eval o X.env:=by rfl) (hline:(apos.endLine == cpos.line)=true:=by rfl):PE X (.Call (.Attribute o "clear" apos) [] [] cpos) (cDClear td):=fun pins s σ H Q I h=>by
 refine wpAny_Call_method0_late hbase hline (thn (ho pins s σ H _ I h) fun v s1 ⟨x,H1,I1,r1,q1⟩=>?_)
 obtain ⟨a,rfl,q2⟩:=onRef_of q1
 obtain ⟨kvs,e0,q3⟩:=onDct_of q2
 obtain rfl:v=Value.ref a:=r1
 obtain ⟨t1,t2,_⟩:=isD_at I1 (.inl ⟨kvs,.inl e0⟩)
 refine ⟨"dict","dict.clear",PySem.F.plainAttrs_dict,PySem.F.slot_dict_clear,PySem.F.type_dict_clear,t1,t2,Calls.callWith_builtin rfl (PySem.evalArgs_none ?_)⟩
 obtain ⟨z,hd,vs,rel,dd⟩:=dk_of I1.hok e0
 refine call_meetsIn PySem.F.slot_dict_clear dd.typeIs PySem.F.entry_dict_clear (PySem.F.args_dict_clear_1 _) (meets_dict_clear (mixKind X.prog X.w) a)
  ⟨vs,dd,by rw [← rel.length];exact z,fun h' dd' hs=>⟨.non,_,?_,rfl,q3⟩⟩
 have he:∃ q,h'.get? a=some q:=let ⟨q,_,_,hq,_⟩:=dd';⟨q,hq⟩
 exact d_write I1 (by rw [e0];exact True.intro) hs he (dk_new (Nat.zero_le _) hd .nil dd')
noncomputable def cDSet (td ty tx:TE):TE:=fun σ H Q=>td σ H fun x H1=>onRef x fun a=>onDct (H1 a) fun _=>ty σ H1 fun y H2=>tx σ H2 fun z H3=>onDct (H3 a) fun kvs=>onO (keyO y) fun k=>kvs.length < sizeLine ∧
 (∀ v,valV kvs k=some v→Q v H3)∧(valV kvs k=none→Q z (upd H3 a (.dK (putK kvs k z))))
theorem pe_dsetC (ho:PE X o td) (he:PE X e ty) (hf:PE X f tx) (m:M2 X o "setdefault" apos e f cpos):PE X (.Call (.Attribute o "setdefault" apos) [e,f] [] cpos) (cDSet td ty tx):=fun pins s σ H Q I h=>by
 refine wpAny_Call_method m.base m.few m.line PySem.F.plainAttrs_dict PySem.F.slot_dict_setdefault PySem.F.type_dict_setdefault (thn (ho pins s σ H _ I h) fun u s1 ⟨x,H1,I1,rx,q1⟩=>?_)
 obtain ⟨a,rfl,q2⟩:=onRef_of q1
 obtain ⟨kv0,e0,q3⟩:=onDct_of q2
 obtain rfl:u=Value.ref a:=rx
 obtain ⟨t1,t2,_⟩:=isD_at I1 (.inl ⟨kv0,.inl e0⟩)
 refine ⟨t1,t2,?_⟩
 rw [m.trees]
 refine Calls.callWith_builtin rfl (Calls.evalArgs_plain (Calls.spliced_cons (thn (he pins s1 σ H1 _ I1 q3) fun iv s2 ⟨y,H2,I2,ry,q4⟩ =>
  Calls.spliced_cons (thn (hf pins s2 σ H2 _ I2 q4) fun fv s3 ⟨z,H3,I3,rz,q5⟩=>Calls.spliced_nil ?_))))
 obtain ⟨kvs,ea,q6⟩:=onDct_of q5
 obtain ⟨k,ek,hl,q7,q8⟩:=onO_of q6
 cases kV_key ek
 obtain ⟨z',hd,vs,rel,dd⟩:=dk_of I3.hok ea
 refine call_meetsIn PySem.F.slot_dict_setdefault dd.typeIs PySem.F.entry_dict_setdefault (PySem.F.args_dict_setdefault_3 _ _ _) (kt_meets_setdefault (mixKind X.prog X.w) a (kV_is ry) hd fv)
  ⟨vs,dd,by rw [← rel.length];exact z',fun v hv=>?_,fun hv h' dd' hs=>?_⟩
 ·have:=rel.val k
  rw [hv] at this
  cases l:valV kvs k with
  | none=>rw [l] at this;exact this.elim
  | some w=>rw [l] at this;exact ⟨w,H3,I3.tok _,this,q7 w l⟩
 ·have:=rel.val k
  rw [hv] at this
  cases l:valV kvs k with
  | some w=>rw [l] at this;exact this.elim
  | none =>
   have he:∃ q,h'.get? a=some q:=let ⟨q,_,_,hq,_⟩:=dd';⟨q,hq⟩
   exact ⟨z,_,d_write I3 (by rw [ea];exact True.intro) hs he (dk_new (by have:=length_putK kvs k z;omega) hd (rel.put k rz) dd'),rz,q8 l⟩
end
section
variable {td ty tx:TE} {σ:St} {H H₀:Hp} {Q:VK} {t:TS} {D:Ends} {v:V}
theorem e_thaw:tThaw H₀ t D σ H=t (thawE H₀ D) σ H:=rfl
theorem e_dinC:cDIn ty td σ H Q=ty σ H fun y H1=>td σ H1 fun x H2=>onRef x fun a=>onDct (H2 a) fun kvs=>onO (keyO y) fun k=>Q (.bl (valV kvs k).isSome) H2:=rfl
theorem e_dpopC:cDPop1 td ty σ H Q=td σ H fun x H1=>onRef x fun a=>onDct (H1 a) fun _=>ty σ H1 fun y H2=>onDct (H2 a) fun kvs=>onO (keyO y) fun k=>onO (valV kvs k) fun v=>Q v (upd H2 a (.dK (dropK kvs k))):=rfl
theorem e_dget2C:cDGet2 td ty tx σ H Q=td σ H fun x H1=>onRef x fun a=>onDct (H1 a) fun _=>ty σ H1 fun y H2=>tx σ H2 fun z H3=>onDct (H3 a) fun kvs=>onO (keyO y) fun k=>Q ((valV kvs k).getD z) H3:=rfl
theorem e_dclear:cDClear td σ H Q=td σ H fun x H1=>onRef x fun a=>onDct (H1 a) fun _=>Q .non (upd H1 a (.dK [])):=rfl
theorem e_dsetC:cDSet td ty tx σ H Q=td σ H fun x H1=>onRef x fun a=>onDct (H1 a) fun _=>ty σ H1 fun y H2=>tx σ H2 fun z H3=>onDct (H3 a) fun kvs=>onO (keyO y) fun k=>kvs.length < sizeLine∧(∀ v,valV kvs k=some v→Q v H3)∧(valV kvs k=none→Q z (upd H3 a (.dK (putK kvs k z)))):=rfl
end
noncomputable def cGetL:V→V→Hp→VK→Prop:=fun x y H Q=>onRef x fun p=>onInt y fun i=>onLst (H p) fun xs=>onO (atI xs i) fun v=>Q v H
noncomputable def cIpA:TIp:=fun x y H Q=>onInt x fun i=>onInt y fun j=>Q (.int (i+j)) H
section
variable {X:Cx}
theorem get_c:PGet X cGetL:=fun pins s σ H o i ov iv Q I ro ri h=>by
 obtain ⟨p,rfl,h1⟩:=onRef_of h
 obtain ⟨k,rfl,h2⟩:=onInt_of h1
 obtain ⟨xs,e,h3⟩:=onLst_of h2
 obtain ⟨v,ea,q⟩:=onO_of h3
 cases ro
 obtain ⟨t,rfl⟩:=ri
 obtain ⟨its,r,pl,hz⟩:=I.list (SqL.of e)
 obtain ⟨j,g1,g2,g3,g4,g5⟩:=atI_get ea
 obtain ⟨w,ew,rw'⟩:=r.get g2
 have hl:=r.length
 have hn:=line63
 have fin:EP X pins σ Q w s:=⟨v,H,I,rw',q⟩
 by_cases h0:0≤k
 ·have hj:k.toNat=j:=by
   rw [seqIndex_of h0 g5] at g1
   exact Option.some.inj g1
  exact wpAny_getItem_list pl.isList h0 (by omega) (by rw [hj];simpa using ew) fin
 ·have hj:(k+(its.toArray.size:Int)).toNat=j:=by
   rw [seqIndex_neg (by omega) g4] at g1
   rw [List.size_toArray,← hl]
   exact Option.some.inj g1
  exact wpAny_getItem_list_neg pl.isList (by omega) (by rw [List.size_toArray];omega) (by omega) (by rw [hj];simpa using ew) fin
theorem ip_addC:PIp X .Add cIpA:=fun pins s σ H x y v u Q I r1 r2 h=>by
 obtain ⟨i,rfl,h1⟩:=onInt_of h
 obtain ⟨j,rfl,q⟩:=onInt_of h1
 exact ip_add pins s σ H _ _ v u Q I r1 r2 ⟨i,j,rfl,rfl,q⟩
end
structure ModD (P:Params) (K:PySem.W.Frag) (d:Addr):Prop where
 ex:∃ es n,K.lookup d=some {cls:=.type "dict",data:=.dict es n}∧PySem.W.KeysLit P es.toList
noncomputable def tDeed (tab:List (Str×Sp)) (tk:TE) (t:TA):TE:=fun σ H Q=>tk σ H fun y H1=>onStr y fun x=>onO (tab.lookup x) fun sp=>t σ H1 fun vs H2=>sp vs H2 Q E0
theorem pe_deed {X:Cx} {x:Str} {p pos pos':Pos} {d:Addr} {ke e:Expr} {es:List Expr} {tk:TE} {t:TA} {k:Nat} {tab:List (Str×Sp)} (hg:Gl X x) (hm:X.mg x=some (.ref d)) (M:ModD X.w.params X.K d) (hk:PE X ke tk) (hs:NoSl ke)
    (F:∀ y sp,tab.lookup y=some sp→∃ f fd ps,PySem.W.nsIn X.K d y=some (some (.ref f))∧FnOk X.prog X.w X.K X.mg X.base CX0 k f fd ps sp∧PySem.W.keepIn X.K (.ref f)=true∧Binds X.K fd ps [])
    (hr:Room k X.A) (ha:PA X (e::es) t) (hd:(x == ("__debug__":Str))=false:=by decide) (he:starEach (e::es) X.env=(false,eval e X.env)::starEach es X.env:=by rfl) (hpl:(backTo pos (starEach es X.env)).any (·.1)=false:=by rfl)
    (hc:eval (.Call (.Subscript (.Name x p) ke pos') (e::es) [] pos) X.env=(do
      let f ← eval (.Subscript (.Name x p) ke pos') X.env
      callWith pos f [] (backTo pos (starEach (e::es) X.env)) (backToKw pos (keywordEach [] X.env))):=by rfl) :
    PE X (.Call (.Subscript (.Name x p) ke pos') (e::es) [] pos) (tDeed tab tk t):=fun pins s σ H Q I h=>by
  obtain ⟨es',n',lk,kl⟩:=M.ex
  refine PyProof.Rows.Call_ (subD_of (T:="dict") PySem.F.slot_dict_getitem.lookup hs (thn (pe_glob (v:=.ref d) hg hm rfl hd pins s σ H (fun v H'=>v=.ref d∧tk σ H' _) I ⟨rfl,h⟩) fun o s1 ⟨v,H1,I1,r1,ev,q1⟩=>?_)) hc
  subst ev
  obtain rfl:o=Value.ref d:=r1
  refine thn (hk pins s1 σ H1 _ I1 q1) fun i s2 ⟨y,H2,I2,ry,q2⟩=>?_
  obtain ⟨z,rfl,q3⟩:=onStr_is q2
  obtain ⟨sp,el,q4⟩:=onO_of q3
  obtain ⟨f,fd,ps,hns,hf,hkp,hb⟩:=F z sp el
  obtain ⟨t',rfl⟩:=ry
  obtain ⟨m,fr⟩:=I2.fr
  refine ⟨⟨_,I2.kIn _ _ lk,rfl⟩,PySem.W.topGetDict_K fr I2.mod.kin lk kl hns ?_⟩
  refine PySem.W.callWith_K (h₀:=X.base) I2.mod.kin hkp (thn (ha pos pins _ σ H2 _ (I2.tok _) q4) fun us s3 ⟨vs,H3,I3,r3,q5⟩=>⟨I3.kIn,?_⟩) he hpl
  exact run_fn (E:=E0) hf hr hb .nil pass0 I3 r3 (by simpa using q5)
section
variable {tab:List (Str×Sp)} {tk to ti te:TE} {t:TA} {σ:St} {H:Hp} {Q:VK} {D:Ends} {p:Addr} {i j:Int} {tget:V→V→Hp→VK→Prop} {tip:TIp} {tset:TSet}
theorem e_deed:tDeed tab tk t σ H Q=tk σ H fun y H1=>onStr y fun x=>onO (tab.lookup x) fun sp=>t σ H1 fun vs H2=>sp vs H2 Q E0:=rfl
theorem e_getL:cGetL (.ref p) (.int i) H Q=onLst (H p) fun xs=>onO (atI xs i) fun v=>Q v H:=rfl
theorem e_ipA:cIpA (.int i) (.int j) H Q=Q (.int (i+j)) H:=rfl
theorem e_augS:tAugS to ti te tget tip tset D σ H=to σ H fun o H1=>ti σ H1 fun i H2=>tget o i H2 fun x H3=>te σ H3 fun y H4=>tip x y H4 fun z H5=>tset o i z H5 fun H6=>D.nx σ H6:=rfl
theorem e_aug {i:Nat} {ti:TIp}:tAug i te ti D σ H = ∃ x,σ[i]?=some (some x)∧te σ H fun y H1=>ti x y H1 fun z H2=>D.nx (σ.set i (some z)) H2:=rfl
end
end L2
namespace L2
open PySem PySem.Spec PyProof.Rows
noncomputable def intKeys:List (Key×V)→Option (List Int)
 | []=>some []
 | (.inl i,_)::r=>(intKeys r).map (i::·)
 | _=>none
theorem ObjOk.there {P:Program} {w:World} {H:Hp} {h:Heap} {a:Addr} {o:HO} (x:ObjOk P w H h a o):∃ ob,h.get? a=some ob:=by
 cases o with
 | lst xs=>obtain ⟨_,_,_,_,e⟩:=x;exact ⟨_,e⟩
 | tup xs=>obtain ⟨_,_,_,o,e,_⟩:=x;exact ⟨_,e⟩
 | dK kvs=>obtain ⟨_,_,_,_,o,_,_,e,_⟩:=x;exact ⟨_,e⟩
 | dT kvs=>obtain ⟨_,_,_,_,o,_,_,e,_⟩:=x;exact ⟨_,e⟩
 | set S n=>obtain ⟨o,_,_,_,e,_⟩:=x;exact ⟨_,e⟩
 | ins C dx fs=>obtain ⟨_,_,_,e,_⟩:=x;exact ⟨_,e⟩
 | own y=>obtain ⟨_,e⟩:=x;exact ⟨_,e⟩
 | xd fs=>obtain ⟨_,⟨_,_,_,e,_⟩,_⟩:=x;exact ⟨_,e⟩
 | rng lo hi=>obtain ⟨_,_,_,e⟩:=x;exact ⟨_,e⟩
 | frz ob u=>obtain ⟨e,_⟩:=x;exact ⟨_,e⟩
 | tbl ps=>exact ⟨_,(show h.get? a=some _ from x)⟩
 | met f y=>exact ⟨_,(show h.get? a=some _ from x)⟩
 | ext φ=>obtain ⟨_,⟨_,e⟩,_⟩:=x;exact ⟨_,e⟩
noncomputable def cSortD:List V→Hp→VK→Prop:=fun vs H Q=>on1 vs fun x=>onRef x fun p=>onDct (H p) fun kvs=>onO (intKeys kvs) fun ns=>ns.length < 64∧∀(l:Addr) (ns':List Int),H l=none→ns'.Perm ns→ns'.Pairwise (·≤·)→Q (.ref l) (upd H l (.lst (ns'.map V.int)))
section
variable {H:Hp} {Q:VK} {p:Addr}
theorem e_sortD:cSortD [.ref p] H Q=onDct (H p) fun kvs=>onO (intKeys kvs) fun ns=>ns.length < 64∧∀(l:Addr) (ns':List Int),H l=none→ns'.Perm ns→ns'.Pairwise (·≤·)→Q (.ref l) (upd H l (.lst (ns'.map V.int))):=rfl
end
end L2
namespace L2
open PySem PySem.Spec PyProof.Rows
section
variable {X:Cx} {pins:List (Addr×Obj)} {σ:St} {H:Hp} {s:Shared} {h':Heap}
end
noncomputable def SOk (t:Bool) (h:Heap) (a:Addr) (us:Array Value):Prop:=match t with
 | true=>h.IsTuple a us
 | false=>h.IsList a us
noncomputable def SIter (t:Bool) (h:Heap) (it a:Addr) (i:Nat):Prop:=match t with
 | true=>h.IsTupleIter it a i
 | false=>h.IsListIter it a i
theorem SOk.keep {t:Bool} {h h':Heap} {a:Addr} {us:Array Value} (x:SOk t h a us) (e:∀ o,h.get? a=some o→h'.get? a=some o):SOk t h' a us:=by
 cases t<;>(obtain ⟨o,ho,r⟩:=x;exact ⟨o,e o ho,r⟩)
theorem SIter.keep {t:Bool} {h h':Heap} {it a:Addr} {i:Nat} (x:SIter t h it a i) (e:∀ o,h.get? it=some o→h'.get? it=some o):SIter t h' it a i:=by
 cases t<;>(obtain ⟨o,ho,r⟩:=x;exact ⟨o,e o ho,r⟩)
theorem SIter.obj {t:Bool} {h:Heap} {it a:Addr} {i:Nat} (x:SIter t h it a i):∃ o,h.get? it=some o∧∀ v,o.data≠.cell v:=by
 cases t<;>(obtain ⟨o,ho,c,d⟩:=x;exact ⟨o,ho,fun v z=>by rw [d] at z;cases z⟩)
section
variable {prog:Program} {w:World} {A:Around} {E:Value→Shared→Prop} {s:Shared}
end
end L2
namespace L2
open PySem PySem.Spec PyProof.Rows
section
variable {prog:Program} {w:World} {A:Around} {E:Value→Shared→Prop} {s:Shared}
end
noncomputable def SqS (K:PySem.W.Frag) (t:Bool) (H:Hp) (a:Addr) (xs:List V):Prop:=match t with
 | true=>SqT K H a xs
 | false=>SqL K H a xs
section
variable {X:Cx} {pins:List (Addr×Obj)} {σ:St} {H:Hp} {s:Shared} {a:Addr} {xs ys:List V} {t:Bool}
end
noncomputable def Itz (K:PySem.W.Frag) (t u:Bool) (a b:Addr):It :=
  ⟨fun i H=>∃ xs ys x y,SqS K t H a xs∧SqS K u H b ys∧xs[i]?=some x∧ys[i]?=some y,
   fun i H v H'=>∃ p x y,H p=none∧v=.ref p∧H'=upd H p (.tup [x,y])∧(∀ xs,SqS K t H a xs→xs[i]?=some x)∧∀ ys,SqS K u H b ys→ys[i]?=some y,
   fun i H=>∃ xs ys,SqS K t H a xs∧SqS K u H b ys∧(xs.length≤i∨ys.length≤i)⟩
noncomputable def Ite (K:PySem.W.Frag) (a:Addr):It :=
  ⟨fun i H=>∃ xs x,SqL K H a xs∧xs[i]?=some x,fun i H v H'=>∃ p x,H p=none∧v=.ref p∧H'=upd H p (.tup [.int i,x])∧∀ xs,SqL K H a xs→xs[i]?=some x,
   fun i H=>∃ xs,SqL K H a xs∧xs.length≤i⟩
section
variable {X:Cx} {elts:List Expr} {k:Nat} {tp:Pos}
noncomputable def iZip (K:PySem.W.Frag) (ta:TA):TI:=fun σ H R=>ta σ H fun vs H1=>on2 vs fun x y=>onRef x fun a=>onRef y fun b=>∃ t u,(∃ xs,SqS K t H1 a xs)∧(∃ ys,SqS K u H1 b ys)∧R (Itz K t u a b) H1
noncomputable def iEnu (K:PySem.W.Frag) (ta:TA):TI:=fun σ H R=>ta σ H fun vs H1=>on1 vs fun x=>onRef x fun a=>(∃ xs,SqL K H1 a xs)∧R (Ite K a) H1
end
section
variable {σ:St} {H:Hp} {D:Ends} {g:TG} {tb:TS} {as:TA} {K:PySem.W.Frag}
theorem e_forZ:tFor (iZip K as) g tb D σ H=as σ H fun vs H1=>on2 vs fun x y=>onRef x fun a=>onRef y fun b=>∃ t u,(∃ xs,SqS K t H1 a xs)∧(∃ ys,SqS K u H1 b ys)∧lp (Itz K t u a b) g tb D σ H1:=rfl
theorem e_forE:tFor (iEnu K as) g tb D σ H=as σ H fun vs H1=>on1 vs fun x=>onRef x fun a=>(∃ xs,SqL K H1 a xs)∧lp (Ite K a) g tb D σ H1:=rfl
end
end L2
namespace L2
open PySem PySem.Spec PyProof.Rows
structure CompSc2 (X:Cx) (sc:Scope) (cl:List (Str×Addr)) (x y0:Str) (fr:List Nat) (N:List Str):Prop where
 kind:sc.kind=.function
 nocell:∀ y∈sc.names,y.2≠.cell
 names:∀ y∈sc.names,y.2=.local→sc.names.lookup y.1=some .local
 clos:closureFor sc X.env=pure cl
 sub:∀ y c,cl.lookup y=some c→X.env.cells.lookup y=some c
 has:∀ y,((relabel sc X.env).names.lookup y=some .cell∨(relabel sc X.env).names.lookup y=some .free)→∃ c,cl.lookup y=some c
 tgt:sc.names.lookup x=some .local
 tgt2:sc.names.lookup y0=some .local
 nd:N.Nodup
 N0:N=x::y0::fr.map fun j=>X.N.getD j x
 frc:∀ j∈fr,∃ y,X.N[j]?=some y∧X.env.kindOf y=some .cell∧((relabel sc X.env).names.lookup y=some .cell∨(relabel sc X.env).names.lookup y=some .free)
section
variable {X:Cx} {pins:List (Addr×Obj)} {σ:St} {H:Hp} {s:Shared} {sc:Scope} {cl:List (Str×Addr)} {C:Addr} {x y0:Str} {fr:List Nat} {N:List Str} {fp:List Addr}
end
@[irreducible] def tComp2 (K:PySem.W.Frag) (wi:TI) (fr:List Nat) (tc:TT) (te:TE):TE:=fun σ H Q=>wi σ H fun J H1=>∃ W:Nat→Nat→List V→Hp→Prop,(∃ m,W 0 m [] H1)∧∀ i m xs H,W i m xs H→xs.length≤1000000 ∧
  ((J.stop i H∧∀ p,H p=none→Q (.ref p) (upd H p (.lst xs))) ∨
   (J.go i H∧∀ v H',J.yld i H v H'→∃ p y y2,v=.ref p∧SqT K H' p [y,y2]∧tc (some y::some y2::compSt fr σ) H' fun b H2=>if b=true then te (some y::some y2::compSt fr σ) H2 (fun z H3=>∃ m',m' < m∧W (i+1) m' (xs++[z]) H3) else ∃ m',m' < m∧W (i+1) m' xs H2))
section
variable {X:Cx} {sc:Scope} {cl:List (Str×Addr)} {x y0:Str} {fr:List Nat} {N:List Str} {elt iter:Expr} {px py tp pos:Pos} {tk:Nat} {ifs:List Expr} {wi:TI} {tc:TT} {te:TE}
end
theorem CompSc2.of {X:Cx} {sc:Scope} {cl:List (Str×Addr)} {x y0:Str} {fr:List Nat} {N M:List Str} (S:CompSc X sc cl x fr M) (tgt2:sc.names.lookup y0=some .local) (nd:N.Nodup) (N0:N=x::y0::fr.map fun j=>X.N.getD j x):CompSc2 X sc cl x y0 fr N :=
 ⟨S.kind,S.nocell,S.names,S.clos,S.sub,S.has,S.tgt,tgt2,nd,N0,S.frc⟩
noncomputable def lc2 (K:PySem.W.Frag) (J:It) (fr:List Nat) (tc:TT) (te:TE) (σ:St) (H:Hp) (Q:VK):Prop:=∃ W:Nat→Nat→List V→Hp→Prop,(∃ m,W 0 m [] H)∧∀ i m xs H,W i m xs H→xs.length≤1000000 ∧
  ((J.stop i H∧∀ p,H p=none→Q (.ref p) (upd H p (.lst xs))) ∨
   (J.go i H∧∀ v H',J.yld i H v H'→∃ p y y2,v=.ref p∧SqT K H' p [y,y2]∧tc (some y::some y2::compSt fr σ) H' fun b H2=>if b=true then te (some y::some y2::compSt fr σ) H2 (fun z H3=>∃ m',m' < m∧W (i+1) m' (xs++[z]) H3) else ∃ m',m' < m∧W (i+1) m' xs H2))
section
variable {fr:List Nat} {tc:TT} {te:TE} {σ:St} {H:Hp} {Q:VK} {as:TA} {K:PySem.W.Frag}
theorem e_comp2Z:tComp2 K (iZip K as) fr tc te σ H Q=as σ H fun vs H1=>on2 vs fun x y=>onRef x fun a=>onRef y fun b=>∃ t u,(∃ xs,SqS K t H1 a xs)∧(∃ ys,SqS K u H1 b ys)∧lc2 K (Itz K t u a b) fr tc te σ H1 Q:=by
 unfold tComp2 iZip
 rfl
theorem e_comp2E:tComp2 K (iEnu K as) fr tc te σ H Q=as σ H fun vs H1=>on1 vs fun x=>onRef x fun a=>(∃ xs,SqL K H1 a xs)∧lc2 K (Ite K a) fr tc te σ H1 Q:=by
 unfold tComp2 iEnu
 rfl
end
inductive EntsAre:List DictEntry→List (Key×V)→Prop
 | nil:EntsAre [] []
 | cons {h:Int} {x:Str} {t:Tok} {u:Value} {v:V} {es:List DictEntry} {kvs:List (Key×V)}:RelV v u→EntsAre es kvs→EntsAre ({hash:=h,key:=.str x t,val:=u}::es) ((.inr x,v)::kvs)
noncomputable def cDictM (d:Addr) (kvs:List (Key×V)):List V→Hp→VK→Prop:=fun vs H Q=>vs=[.ref d]∧∀ p,H p=none→Q (.ref p) (upd H p (.dK kvs))
theorem EntsAre.vals {P:Program} {w:World} {es:List DictEntry} {kvs:List (Key×V)} (h:EntsAre es kvs):∃ vs:List (Key×Value),KV kvs vs∧Pairs (mixKind P w) es vs:=by
 induction h with
 | nil=>exact ⟨[],.nil,.nil⟩
 | @cons h x t u v es kvs r _ ih =>
  obtain ⟨vs,a,b⟩:=ih
  exact ⟨(.inr x,u)::vs,.cons ⟨rfl,r⟩ a,.cons (mixKind_str P w x t) rfl b⟩
theorem e_dictM {d:Addr} {kvs:List (Key×V)} {H:Hp} {Q:VK}:cDictM d kvs [.ref d] H Q = ∀ p,H p=none→Q (.ref p) (upd H p (.dK kvs)):=by simp [cDictM]
end L2
namespace L2
open PySem PySem.Spec PyProof.Rows
noncomputable def kLst:Option HO→Option Bool
 | some (.lst _)=>some true
 | some (.tup _)=>some false
 | _=>none
noncomputable def cIsiL:List V→Hp→VK→Prop:=fun vs H Q=>on2 vs fun x y=>onRef x fun p=>y=.ty "list"∧onO (kLst (H p)) fun b=>Q (.bl b) H
section
variable {X:Cx}
theorem call_isiL:CallR X (.builtin "isinstance") cIsiL:=fun pins s σ H xs us Q I r h=>by
 obtain ⟨x,y,rfl,h1⟩:=on2_is h
 obtain ⟨p,rfl,rfl,h2⟩:=onRef_of h1
 obtain ⟨b,ek,q⟩:=onO_of h2
 obtain ⟨u,w',rfl,r1,r2⟩:=vals2 r
 cases r1
 cases r2
 unfold kLst at ek
 split at ek
 ·next e =>
  cases ek
  obtain ⟨o,eo,c⟩:=Inv.listObj I (SqL.of e)
  exact IsiPair.list_list eo c ⟨.bl true,H,I,rfl,q⟩
 ·next e =>
  cases ek
  obtain ⟨o,eo,c⟩:=Inv.tupObj I (SqT.of e)
  exact IsiPair.tuple_list eo c ⟨.bl false,H,I.tok _,rfl,q⟩
 ·cases ek
noncomputable def cLenT (K:PySem.W.Frag):List V→Hp→VK→Prop:=fun vs H Q=>on1 vs fun x=>onRef x fun p=>∃ xs,SqT K H p xs∧Q (.int xs.length) H
variable {o:Expr} {to:TE} {apos cpos:Pos}
noncomputable def cLClear (to:TE):TE:=fun σ H Q=>to σ H fun x H1=>onRef x fun a=>onLst (H1 a) fun _=>Q .non (upd H1 a (.lst []))
end
section
variable {H:Hp} {Q:VK} {p:Addr} {σ:St} {to:TE} {vs:List V}
theorem e_isiL:cIsiL [.ref p,.ty "list"] H Q=onO (kLst (H p)) fun b=>Q (.bl b) H:=by
 unfold cIsiL on2
 simp only [onRef,true_and]
theorem e_lenT {K:PySem.W.Frag}:cLenT K [.ref p] H Q = ∃ xs,SqT K H p xs∧Q (.int xs.length) H:=rfl
theorem e_kll:kLst (some (.lst vs))=some true:=rfl
theorem e_klt:kLst (some (.tup vs))=some false:=rfl
theorem e_lclear:cLClear to σ H Q=to σ H fun x H1=>onRef x fun a=>onLst (H1 a) fun _=>Q .non (upd H1 a (.lst [])):=rfl
theorem e_neB {a b:Bool}:rNe (.bl a) (.bl b) H Q=Q (.bl (!decide (a=b))) H:=by simp only [rNe,show scal (.bl a) (.bl b)=true from rfl,V.bl.injEq,true_and]
end
end L2
namespace L2
open PySem PySem.Spec PyProof.Rows
noncomputable def cSum (K:PySem.W.Frag):List V→Hp→VK→Prop:=fun vs H Q=>on1 vs fun x=>onRef x fun p=>∃ ns:List Int,SqL K H p (ns.map V.int)∧∀ z:Int,Q (.int z) H
noncomputable def cCatS (K:PySem.W.Frag):R2:=fun x y H Q=>onRef x fun a=>onRef y fun b=>∃ xs ys,SqL K H a xs∧SqL K H b ys∧xs.length+ys.length≤sizeLine∧∀ p,H p=none→Q (.ref p) (upd H p (.lst (xs++ys)))
section
variable {X:Cx}
end
section
variable {K:PySem.W.Frag} {H:Hp} {Q:VK} {p a b:Addr}
theorem e_sum:cSum K [.ref p] H Q = ∃ ns:List Int,SqL K H p (ns.map V.int)∧∀ z:Int,Q (.int z) H:=rfl
theorem e_catS:cCatS K (.ref a) (.ref b) H Q = ∃ xs ys,SqL K H a xs∧SqL K H b ys∧xs.length+ys.length≤sizeLine∧∀ p,H p=none→Q (.ref p) (upd H p (.lst (xs++ys))):=rfl
end
section
variable {X:Cx} {sc:Scope} {cl:List (Str×Addr)} {x y0:Str} {fr:List Nat} {N:List Str} {elt iter:Expr} {px px0 tp pos:Pos} {tk:Nat} {ifs:List Expr} {wi:TI} {tc:TT} {te:TE}
end
end L2
namespace L2
open PySem PySem.Spec PyProof.Rows
section
variable {a b:TS} {D:Ends} {σ:St} {H:Hp}
theorem cut_seq (h:∀ R:St→Hp→Prop,(∀ σ' H',b D σ' H'→R σ' H')→a {D with nx:=R} σ H):tSeq a b D σ H:=h (b D) fun _ _ x=>x
end
end L2
namespace L2
open PySem PySem.Spec PyProof.Rows
section
variable {td ty tv:TE} {trs:List (TE×TE)} {tk:TE} {σ:St} {H:Hp} {Q:VK} {D:Ends}
theorem e_rnotin:tDNotIn ty td σ H Q=ty σ H fun y H1=>td σ H1 fun x H2=>onRef x fun a=>∃ o,DGet H2 a y o∧Q (.bl (!o.isSome)) H2:=by
 unfold tDNotIn
 congr 1
 funext y H1
 congr 1
 funext x H2
 exact propext ⟨fun ⟨a,o,e,h⟩=>by subst e;exact ⟨o,h⟩,fun h=>by obtain ⟨a,rfl,o,h⟩:=onRef_of h;exact ⟨a,o,rfl,h⟩⟩
theorem e_rput:sDPut td ty tv D σ H=tv σ H fun v H1=>td σ H1 fun x H2=>ty σ H2 fun y H3=>onRef x fun a=>∃ H4,DPut H3 a y v H4∧D.nx σ H4:=by
 unfold sDPut
 congr 1
 funext v H1
 congr 1
 funext x H2
 congr 1
 funext y H3
 exact propext ⟨fun ⟨a,H4,e,h⟩=>by subst e;exact ⟨H4,h⟩,fun h=>by obtain ⟨a,rfl,H4,h⟩:=onRef_of h;exact ⟨a,H4,rfl,h⟩⟩
theorem e_newT:tDNewT σ H Q = ∀ p,H p=none→Q (.ref p) (upd H p (.dT [])):=rfl
theorem e_pairs0 {R:List (V×V)→Hp→Prop}:tPairs [] σ H R=R [] H:=rfl
theorem e_pairs {R:List (V×V)→Hp→Prop}:tPairs ((tk,tv)::trs) σ H R=tk σ H fun x H1=>tv σ H1 fun y H2=>tPairs trs σ H2 fun ps H3=>R ((x,y)::ps) H3:=rfl
theorem DGet.tt {a b:Addr} {kvs:List (List Key×V)} {k:List Key} (e:H a=some (.dT kvs)) (eb:H b=some (.tup (k.map kV))):DGet H a (.ref b) (valV kvs k):=DGet.t e eb
end
end L2
namespace L2
open PySem PySem.Spec PyProof.Rows
section
variable {P:Program} {W:World} {A:Around} {E:Value→Shared→Prop} {s:Shared} {dd it:Addr} {es:Array DictEntry} {ep i:Nat}
noncomputable def EntAt (h:Heap) (dd:Addr) (es:Array DictEntry) (ep:Nat):Prop:=∃ o,h.get? dd=some o∧o.ExactDict∧o.data=.dict es ep
theorem EntAt.ty (x:EntAt s.heap dd es ep):s.TypeIs (.ref dd) "dict":=let ⟨o,e,c,_⟩:=x;⟨o,e,c.1⟩
theorem EntAt.to {h h':Heap} (x:EntAt h dd es ep) (k:∀ o,h.get? dd=some o→h'.get? dd=some o):EntAt h' dd es ep:=let ⟨o,e,r⟩:=x;⟨o,k _ e,r⟩
theorem EntAt.lt {h:Heap} (x:EntAt h dd es ep):dd < h.objs.size:=let ⟨_,e,_⟩:=x;Heap.lt_size e
end
section
open PySem.W
inductive KasOk {α:Type} (n:Nat) (R:α→Prop):KasT α→Prop
 | ret {a:α}:R a→KasOk n R (.ret a)
 | ask {i j:Nat} {k:Bool→KasT α}:i < n→j < n→(∀ b,KasOk n R (k b))→KasOk n R (.ask i j k)
theorem KasOk.bind {α β:Type} {n:Nat} {R:α→Prop} {S:β→Prop} {t:KasT α} {f:α→KasT β} (h:KasOk n R t) (g:∀ a,R a→KasOk n S (f a)):KasOk n S (t.bind f):=by
 induction h with
 | ret x=>exact g _ x
 | ask i j _ ih=>exact .ask i j ih
noncomputable def Pm (n:Nat) (p:Array Nat):Prop:=p.Perm (List.toArray (List.range n))
variable {n:Nat} {p:Array Nat}
theorem Pm.get (h:Pm n p) (hn:0 < n) (i:Nat):p.getD i 0 < n:=by
 by_cases hi:i < p.size
 ·have m:p[i]∈p:=Array.getElem_mem hi
  have:=h.mem_iff.mp m
  simp only [List.mem_toArray,List.mem_range] at this
  simpa [Array.getD,hi] using this
 ·simpa [Array.getD,hi] using hn
end
section
open PySem.W
variable {P:Program} {W:World} {A:Around} {E:Value→Shared→Prop} {s:Shared}
noncomputable def Pr2 (h:Heap) (v:Value):Prop:=∃ a o x y t u c,v=.ref a∧h.get? a=some o∧o.cls=.type "tuple"∧o.data=.seq #[.int x t,.int y u] c
theorem Pr2.to {h h':Heap} {v:Value} (x:Pr2 h v) (k:∀ b o,h.get? b=some o→h'.get? b=some o):Pr2 h' v:=by
 obtain ⟨a,o,x,y,t,u,c,e,g,r⟩:=x
 exact ⟨a,o,x,y,t,u,c,e,k _ _ g,r⟩
end
end L2
namespace L2
open PySem PySem.Spec PyProof.Rows
noncomputable def cSortT:List V→Hp→VK→Prop:=fun vs H Q=>on1 vs fun x=>onRef x fun p=>∃ kvs:List (List Key×V),H p=some (.dT kvs)∧kvs.length < 64∧(∀ kv∈kvs,∃ i j:Int,kv.1=[.inl i,.inl j]) ∧
 ∀(l:Addr) (us:List V),H l=none→us.length=kvs.length→(∀ u∈us,∃(a:Addr) (i j:Int),u=.ref a∧H a=some (.tup [.int i,.int j]))→Q (.ref l) (upd H l (.lst us))
theorem KT.at {H:Hp} {kvs:List (List Key×V)} {xs:List (List Key×Addr×Value)} (r:KT H kvs xs):∀ {j:Nat} {x:List Key×Addr×Value},xs[j]?=some x→∃ kv,kvs[j]?=some kv∧H x.2.1=some (.tup (kv.1.map kV)):=by
 induction r with
 | nil=>intro j x e;simp at e
 | cons h _ ih =>
  intro j x e
  cases j with
  | zero=>simp only [List.getElem?_cons_zero,Option.some.injEq] at e;subst e;exact ⟨_,rfl,h.2.1⟩
  | succ j=>exact ih (by simpa using e)
theorem KT.len {H:Hp} {kvs:List (List Key×V)} {xs:List (List Key×Addr×Value)} (r:KT H kvs xs):kvs.length=xs.length:=by
 induction r with
 | nil=>rfl
 | cons _ _ ih=>simp [ih]
noncomputable def cLenDT:List V→Hp→VK→Prop:=fun vs H Q=>on1 vs fun x=>onRef x fun p=>∃ kvs:List (List Key×V),H p=some (.dT kvs)∧Q (.int kvs.length) H
noncomputable def cNeT0:R2:=fun x y H Q=>onRef x fun a=>onRef y fun b=>∃ kvs:List (List Key×V),H a=some (.dT kvs)∧H b=some (.dT [])∧Q (.bl (!kvs.isEmpty)) H
section
variable {P:Program} {W:World} {A:Around} {E:Value→Shared→Prop} {s:Shared} {a b:Addr} {es fs:Array DictEntry} {ep fp:Nat}
end
noncomputable def cNeDS:R2:=fun x y H Q=>onRef x fun a=>onRef y fun b=>∃ kvs:List (Key×V),H a=some (.dK kvs)∧H b=some (.dK kvs)∧(∀ kv∈kvs,∃ c,kv.2=.ref c∧valV kvs kv.1=some (.ref c))∧Q (.bl false) H
noncomputable def Itg (lo c:Int) (n:Nat):It:=⟨fun i _=>i < n,fun i H x H'=>H'=H∧x=.int (lo+i * c),fun i _=>n≤i⟩
noncomputable def iRng3 (lo hi c:Int) (n:Nat) (ta:TA):TI:=fun σ H R=>ta σ H fun vs H1=>vs=[.int lo,.int hi,.int c]∧R (Itg lo c n) H1
section
variable {X:Cx} {tg:Expr}
end
section
variable {σ:St} {H:Hp} {D:Ends} {g:TG} {tb:TS} {as:TA} {Q:VK} {a b:Addr} {p:Addr}
theorem e_forR3 {lo hi c:Int} {n:Nat}:tFor (iRng3 lo hi c n as) g tb D σ H=as σ H fun vs H1=>vs=[.int lo,.int hi,.int c]∧lp (Itg lo c n) g tb D σ H1:=rfl
theorem e_sortT:cSortT [.ref p] H Q = ∃ kvs:List (List Key×V),H p=some (.dT kvs)∧kvs.length < 64∧(∀ kv∈kvs,∃ i j:Int,kv.1=[.inl i,.inl j]) ∧ ∀(l:Addr) (us:List V),H l=none→us.length=kvs.length→(∀ u∈us,∃(a:Addr) (i j:Int),u=.ref a∧H a=some (.tup [.int i,.int j]))→Q (.ref l) (upd H l (.lst us)):=rfl
theorem e_neT0:cNeT0 (.ref a) (.ref b) H Q = ∃ kvs:List (List Key×V),H a=some (.dT kvs)∧H b=some (.dT [])∧Q (.bl (!kvs.isEmpty)) H:=rfl
theorem e_neDS:cNeDS (.ref a) (.ref b) H Q = ∃ kvs:List (Key×V),H a=some (.dK kvs)∧H b=some (.dK kvs)∧(∀ kv∈kvs,∃ c,kv.2=.ref c∧valV kvs kv.1=some (.ref c))∧Q (.bl false) H:=rfl
theorem e_disp {trs:List (TE×TE)}:tDisp trs σ H Q = ∀ p,H p=none→tPairs trs σ (upd H p (.dK [])) fun ps H2=>H2 p=some (.dK [])∧∃ kvs:List (Key×V),ps=kvs.map (fun kv=>(kV kv.1,kv.2))∧kvs.length≤15∧Q (.ref p) (upd H2 p (.dK (mergeK [] kvs))):=rfl
theorem e_lenDT:cLenDT [.ref p] H Q = ∃ kvs:List (List Key×V),H p=some (.dT kvs)∧Q (.int kvs.length) H:=rfl
end
end L2
namespace L2
open PySem PySem.Spec PyProof.Rows
noncomputable def kLstA (H:Hp):V→Option Bool
 | .ref p=>kLst (H p)
 | .int _=>some false
 | .str _=>some false
 | .non=>some false
 | _=>none
noncomputable def cIsiA:List V→Hp→VK→Prop:=fun vs H Q=>on2 vs fun x y=>y=.ty "list"∧onO (kLstA H x) fun b=>Q (.bl b) H
theorem call_isiA {X:Cx}:CallR X (.builtin "isinstance") cIsiA:=fun pins s σ H xs us Q I r h=>by
 obtain ⟨x,y,rfl,rfl,h2⟩:=on2_is h
 obtain ⟨b,ek,q⟩:=onO_of h2
 cases x with
 | ref p=>exact call_isiL pins s σ H _ us Q I r (show V.ty "list"=V.ty "list"∧onO (kLst (H p)) (fun b=>Q (.bl b) H) from ⟨rfl,by rw [show kLst (H p)=some b from ek];exact q⟩)
 | int i =>
  cases ek
  obtain ⟨u,w',rfl,r1,r2⟩:=vals2 r
  cases r2
  obtain ⟨t,rfl⟩:=r1
  exact IsiPair.int_list ⟨.bl false,H,I.tok _,rfl,q⟩
 | str i =>
  cases ek
  obtain ⟨u,w',rfl,r1,r2⟩:=vals2 r
  cases r2
  obtain ⟨t,rfl⟩:=r1
  exact IsiPair.str_list ⟨.bl false,H,I.tok _,rfl,q⟩
 | non =>
  cases ek
  obtain ⟨u,w',rfl,r1,r2⟩:=vals2 r
  cases r2
  cases r1
  exact IsiPair.NoneType_list ⟨.bl false,H,I.tok _,rfl,q⟩
 | _=>cases ek
section
variable {H:Hp} {Q:VK} {x:V} {p:Addr} {i:Int} {z:Str}
theorem e_isiA:cIsiA [x,.ty "list"] H Q=onO (kLstA H x) fun b=>Q (.bl b) H:=by
 show (V.ty "list"=V.ty "list"∧_)=_
 simp only [true_and]
theorem e_kAr:kLstA H (.ref p)=kLst (H p):=rfl
theorem e_kAi:kLstA H (.int i)=some false:=rfl
theorem e_kAs:kLstA H (.str z)=some false:=rfl
theorem e_kAn:kLstA H .non=some false:=rfl
end
end L2
namespace L2
open PySem PySem.Spec PyProof.Rows
noncomputable def tOrN (ta tb:TE):TE:=fun σ H Q=>ta σ H fun x H1=>onO (truO H1 x) fun c=>if c=true then Q x H1 else tb σ H1 Q
noncomputable def tAndN (ta tb:TE):TE:=fun σ H Q=>ta σ H fun x H1=>onO (truO H1 x) fun c=>if c=true then tb σ H1 Q else Q x H1
section
variable {X:Cx} {a b:Expr} {rest:List Expr} {pos:Pos} {ta tb:TE}
theorem pe_orN (ha:PE X a ta) (hb:PE X (.BoolOp .Or (b::rest) pos) tb):PE X (.BoolOp .Or (a::b::rest) pos) (tOrN ta tb):=by
 intro pins s σ H Q I h
 refine BoolOp_or (thn (ha pins s σ H _ I h) fun v s1 ⟨x,H1,I1,r1,q1⟩=>?_)
 obtain ⟨k,e,q⟩:=onO_of q1
 refine thn (tru_ok pins s1 σ H1 x v (fun c H2=>c=k∧H2=H1) I1 r1 ⟨k,truO_of e,rfl,rfl⟩) fun c s2 ⟨H2,I2,e1,e2⟩=>?_
 subst e1 e2
 cases c with
 | true=>exact ⟨x,_,I2,r1,q⟩
 | false=>exact hb pins s2 σ _ Q I2 q
end
noncomputable def onI0 (x:V) (k:Int→Prop) (_u:Tg k:=()):Prop:=match x with
 | .non=>k 0
 | .int i=>k i
 | _=>False
noncomputable def tOr0 (ta:TE):TE:=fun σ H Q=>ta σ H fun x H1=>onI0 x fun i=>Q (.int i) H1
theorem pe_or0 {X:Cx} {a b:Expr} {rest:List Expr} {pos:Pos} {ta:TE} (ha:PE X a ta) (hb:PE X (.BoolOp .Or (b::rest) pos) (tC (.int 0))):PE X (.BoolOp .Or (a::b::rest) pos) (tOr0 ta):=by
 intro pins s σ H Q I h
 refine BoolOp_or (thn (ha pins s σ H _ I h) fun v s1 ⟨x,H1,I1,r1,q1⟩=>?_)
 have hk:∃ k,truO H1 x=some k∧(if k=true then Q x H1 else Q (.int 0) H1):=by
  cases x with
  | non=>exact ⟨false,rfl,q1⟩
  | int i =>
   refine ⟨i != 0,rfl,?_⟩
   by_cases hi:i=0
   ·subst hi;exact q1
   ·rw [if_pos (by simpa using hi)];exact q1
  | _=>exact q1.elim
 obtain ⟨k,e,q⟩:=hk
 refine thn (tru_ok pins s1 σ H1 x v (fun c H2=>c=k∧H2=H1) I1 r1 ⟨k,truO_of e,rfl,rfl⟩) fun c s2 ⟨H2,I2,e1,e2⟩=>?_
 subst e1 e2
 cases c with
 | true=>exact ⟨x,_,I2,r1,q⟩
 | false=>exact hb pins s2 σ _ Q I2 q
noncomputable def posI (i:Int) (ns:List Int):Option Nat:=ns.findIdx? fun j=>decide (j=i)
noncomputable def cRem:V→List V→Hp→VK→Prop:=fun x vs H Q=>onRef x fun l=>on1 vs fun y=>onInt y fun i=>∃ ns:List Int,H l=some (.lst (ns.map V.int))∧onO (posI i ns) fun k=>Q .non (upd H l (.lst ((ns.eraseIdx k).map V.int)))
theorem vals_intAt:∀ {ns:List Int} {us:List Value},Vals (ns.map V.int) us→∀(j:Nat) (h:j < us.length) (h':j < ns.length),∃ k:Tok,us[j]=.int ns[j] k
 | [],_,.nil,j,h,_=>absurd h (by simp)
 | n::ns,u::us,.cons r t,0,_,_=>r
 | n::ns,u::us,.cons r t,j+1,h,h'=>vals_intAt (ns:=ns) (us:=us) t j (by simpa using h) (by simpa using h')
theorem erase_mapI:∀(ns:List Int) (k:Nat),(ns.map V.int).eraseIdx k=(ns.eraseIdx k).map V.int
 | [],_=>rfl
 | _::_,0=>rfl
 | n::ns,k+1=>by simp only [List.map_cons,List.eraseIdx_cons_succ,erase_mapI ns k]
section
variable {X:Cx}
theorem mt_rem:MtM X "list.remove" cRem:=fun pins s σ H x vs v us Q I rx rv h=>by
 obtain ⟨l,rfl,h1⟩:=onRef_of h
 obtain ⟨y,rfl,h2⟩:=on1_is h1
 obtain ⟨i,rfl,ns,hH,h3⟩:=onInt_of h2
 obtain ⟨k,ek,q⟩:=onO_of h3
 cases rx
 obtain ⟨u,rfl,ru⟩:=rv.one
 obtain ⟨t,rfl⟩:=ru
 obtain ⟨z,its,n,r,hl,e⟩:=I.lstM hH
 have hl':its.length=ns.length:=by rw [← r.length,List.length_map]
 obtain ⟨hk,hk1,hk2⟩:=List.findIdx?_eq_some_iff_getElem.mp ek
 have isI:∀(j:Nat) (h:j < its.length),∃ tk:Tok,its[j]=.int (ns[j]'(by omega)) tk:=fun j h=>vals_intAt r j h (by omega)
 obtain ⟨g,hg⟩:∃ g:Value→Bool,g=fun y=>(match y with | .int a _=>a == i | _=>false):=⟨_,rfl⟩
 refine call_meets PySem.F.slot_list_remove ⟨_,e,rfl⟩ PySem.F.entry_list_remove (PySem.F.args_list_remove_2 _ _)
  (MeetsSeq.list_remove l its.toArray n (.int i t) g (fun y hy=>?_) k (by simp only [List.size_toArray];omega) ?_ ?_ (by rw [List.size_toArray];omega)) ⟨e,?_⟩
 ·obtain ⟨j,hj,rfl⟩:=Array.mem_iff_getElem.mp hy
  obtain ⟨tk,et⟩:=isI j (by simpa using hj)
  rw [List.getElem_toArray,et,hg]
  exact MeetsSeq.EqGives.int _ _ _ _
 ·obtain ⟨tk,et⟩:=isI k (by omega)
  rw [List.getElem_toArray,et,hg]
  simpa using hk1
 ·intro m hm hlt
  obtain ⟨tk,et⟩:=isI m (by simpa using hm)
  rw [List.getElem_toArray,et,hg]
  simpa using hk2 m hlt
 ·refine ⟨.non,_,I.lset (its':=its.eraseIdx k) hH e ?_ ?_ ?_,rfl,q⟩
  ·show its.toArray.eraseIdxIfInBounds k=(its.eraseIdx k).toArray
   rw [List.eraseIdxIfInBounds_toArray]
  ·rw [show (ns.eraseIdx k).map V.int=(ns.map V.int).eraseIdx k by rw [erase_mapI]]
   exact r.eraseIdx k
  ·have:=len_erase ns k
   simp only [List.length_map] at this ⊢
   omega
end
noncomputable def cTrep:R2:=fun x y H Q=>onRef x fun a=>onInt y fun k=>onTup (H a) fun xs=>xs≠[]∧((k=1∧Q x H)∨(k=0∧∀ p,H p=none→Q (.ref p) (upd H p (.tup []))))
section
variable {X:Cx}
end
section
variable {σ:St} {H:Hp} {Q:VK} {ta tb:TE} {l a:Addr} {i:Int}
theorem e_orN:tOrN ta tb σ H Q=ta σ H fun x H1=>onO (truO H1 x) fun c=>if c=true then Q x H1 else tb σ H1 Q:=rfl
theorem e_andN:tAndN ta tb σ H Q=ta σ H fun x H1=>onO (truO H1 x) fun c=>if c=true then tb σ H1 Q else Q x H1:=rfl
theorem e_or0:tOr0 ta σ H Q=ta σ H fun x H1=>onI0 x fun i=>Q (.int i) H1:=rfl
theorem e_oi0 {k:Int→Prop} {u:Tg k}:onI0 (.int i) k u=k i:=rfl
theorem e_on0 {k:Int→Prop} {u:Tg k}:onI0 .non k u=k 0:=rfl
theorem e_rem:cRem (.ref l) [.int i] H Q = ∃ ns:List Int,H l=some (.lst (ns.map V.int))∧onO (posI i ns) fun k=>Q .non (upd H l (.lst ((ns.eraseIdx k).map V.int))):=rfl
theorem e_trep:cTrep (.ref a) (.int i) H Q=onTup (H a) fun xs=>xs≠[]∧((i=1∧Q (.ref a) H)∨(i=0∧∀ p,H p=none→Q (.ref p) (upd H p (.tup [])))):=rfl
end
end L2
namespace L2
open PySem PySem.Spec PyProof.Rows
noncomputable def Rising (l:List Nat):Prop:=l.Pairwise (· < ·)
structure TabOk (w:World) (t:SetTable):Prop where
 rise:Rising t.place.toList
 led:w.params.followText "set-order"=true∨t.led=true
 dum:t.dummies = #[]
 msk:t.mask=7
 pln:t.plain=true
noncomputable def hop (i:Nat):Nat:=(i * 5+1) % 8
section
variable {t:SetTable} (hd:t.dummies = #[]) (hm:t.mask=7) {h:Int}
include hd hm
end
noncomputable def keyOf:Value→Int
 | .int i _=>i
 | _=>0
noncomputable def SetW (P:Program) (w:World) (a:Addr) (ns:List Int) (h:Heap):Prop:=∃(o:Obj) (es:Array (Int×Value)) (ep:Nat) (t:SetTable),h.get? a=some o∧o.ExactSet∧o.data=.set es ep t∧ElemsOf (intKind P w) es.toList∧es.size < scanBound∧t.fits es.size=true∧TabOk w t∧(∀ e∈es.toList,∃ i tk,e.2=Value.int i tk)∧(es.toList.map fun e=>keyOf e.2).Perm ns
theorem SetW.keep {P:Program} {w:World} {a:Addr} {ns:List Int} {h h':Heap} (x:SetW P w a ns h) (k:∀ o,h.get? a=some o→h'.get? a=some o):SetW P w a ns h':=by
 obtain ⟨o,es,ep,t,e,r⟩:=x
 exact ⟨o,es,ep,t,k o e,r⟩
section
variable {P:Program} {w:World} {A:Around} {E:Value→Shared→Prop} {s:Shared}
end
noncomputable def once (val:Nat→Int):Nat→List Int
 | 0=>[]
 | i+1=>if val i∈once val i then once val i else once val i++[val i]
section
variable {P:Program} {w:World} {A:Around} {R:Result→Shared→Prop} {it:Addr} {fp wr:List Addr} {Gs:Array GenState→Array GenState→Prop} {n:Nat} {Pi:Nat→Value→Prop} {St:Nat→Shared→Prop}
end
section
variable {P:Program} {w:World} {A:Around} {E:Value→Shared→Prop} {s:Shared}
end
end L2
namespace L2
open PySem PySem.Spec PyProof.Rows
section
variable {P:Program} {w:World} {A:Around} {E:Value→Shared→Prop} {s:Shared} {a it:Addr} {es:Array (Int×Value)} {ep i:Nat} {t:SetTable}
noncomputable def SetAt (w:World) (h:Heap) (a:Addr) (es:Array (Int×Value)) (ep:Nat) (t:SetTable):Prop:=∃ o,h.get? a=some o∧o.ExactSet∧o.data=.set es ep t∧t.fits es.size=true∧TabOk w t
theorem SetAt.to {h h':Heap} (x:SetAt w h a es ep t) (k:∀ o,h.get? a=some o→h'.get? a=some o):SetAt w h' a es ep t:=let ⟨o,e,r⟩:=x;⟨o,k _ e,r⟩
theorem SetAt.lt {h:Heap} (x:SetAt w h a es ep t):a < h.objs.size:=let ⟨_,e,_⟩:=x;Heap.lt_size e
theorem SetAt.ty (x:SetAt w s.heap a es ep t):s.TypeIs (.ref a) "set":=let ⟨o,e,c,_⟩:=x;⟨o,e,c.1⟩
noncomputable def SlotAt (w:World) (t:SetTable) (i sl:Nat):Prop:=w.params.followText "set-order"=true∨SetTable.below t.place sl=i
noncomputable def IsSi (w:World) (h:Heap) (it a:Addr) (i n ep:Nat) (t:SetTable):Prop:=∃ o sl,h.get? it=some o∧o.cls=.type "set_iterator"∧o.data=.fields #[.int (sl:Nat) 0,.int (i:Nat) 0,.ref a,.int (n:Nat) 0,.int (ep:Nat) 0]∧SlotAt w t i sl
theorem IsSi.to {h h':Heap} {n:Nat} (x:IsSi w h it a i n ep t) (k:∀ o,h.get? it=some o→h'.get? it=some o):IsSi w h' it a i n ep t:=let ⟨o,sl,e,r⟩:=x;⟨o,sl,k _ e,r⟩
theorem IsSi.ty {n:Nat} (x:IsSi w s.heap it a i n ep t):s.TypeIs (.ref it) "set_iterator":=let ⟨o,_,e,c,_⟩:=x;⟨o,e,c⟩
end
end L2
namespace L2
open PySem PySem.Spec PyProof.Rows
section
variable {prog:Program} {w:World} {A:Around} {E:Value→Shared→Prop} {s:Shared} {r a:Addr} {es:Array (Int×Value)} {ep:Nat} {t:SetTable}
end
noncomputable def SetE (P:Program) (w:World) (a:Addr) (ns:List Int):HO:=.ext (SetW P w a ns)
noncomputable def onceL (ns:List Int):List Int:=once (fun i=>ns.getD i 0) ns.length
noncomputable def cSetOf (P:Program) (w:World):List V→Hp→VK→Prop:=fun vs H Q=>on1 vs fun x=>onRef x fun p=>∃ ns:List Int,H p=some (.lst (ns.map V.int))∧ns.length≤4∧∀ l,H l=none→Q (.ref l) (upd H l (SetE P w l (onceL ns)))
noncomputable def cLenSt (P:Program) (w:World):List V→Hp→VK→Prop:=fun vs H Q=>on1 vs fun x=>onRef x fun p=>∃ ns:List Int,H p=some (SetE P w p ns)∧Q (.int ns.length) H
noncomputable def cSortS (P:Program) (w:World):List V→Hp→VK→Prop:=fun vs H Q=>on1 vs fun x=>onRef x fun p=>∃ ns:List Int,H p=some (SetE P w p ns)∧ns.length < 64∧∀(l:Addr) (ns':List Int),H l=none→ns'.Perm ns→ns'.Pairwise (·≤·)→Q (.ref l) (upd H l (.lst (ns'.map V.int)))
section
variable {P:Program} {w:World} {H:Hp} {Q:VK} {p:Addr}
theorem e_setSt:cSetOf P w [.ref p] H Q = ∃ ns:List Int,H p=some (.lst (ns.map V.int))∧ns.length≤4∧∀ l,H l=none→Q (.ref l) (upd H l (SetE P w l (onceL ns))):=rfl
theorem e_lenSt:cLenSt P w [.ref p] H Q = ∃ ns:List Int,H p=some (SetE P w p ns)∧Q (.int ns.length) H:=rfl
theorem e_sortSt:cSortS P w [.ref p] H Q = ∃ ns:List Int,H p=some (SetE P w p ns)∧ns.length < 64∧∀(l:Addr) (ns':List Int),H l=none→ns'.Perm ns→ns'.Pairwise (·≤·)→Q (.ref l) (upd H l (.lst (ns'.map V.int))):=rfl
end
end L2
namespace L2
open PySem PySem.Spec PyProof.Rows
noncomputable def cEqW (K:PySem.W.Frag) (n:Nat):R2:=fun x y H Q=>onRef x fun a=>onRef y fun b=>(∃ r,RcA K H n a b r∧Q (.bl r) H) ∨
 ∃(z z' u:Str) (p:Addr) (ts:List V),H a=some (.tup [.str z,.ref p])∧H p=some (.tup ts)∧H b=some (.tup [.str z',.str u])∧z≠z'∧Q (.bl false) H
section
variable {K:PySem.W.Frag} {n:Nat} {H:Hp} {Q:VK} {a b:Addr}
theorem e_eqW:cEqW K n (.ref a) (.ref b) H Q=((∃ r,RcA K H n a b r∧Q (.bl r) H)∨∃(z z' u:Str) (p:Addr) (ts:List V),H a=some (.tup [.str z,.ref p])∧H p=some (.tup ts)∧H b=some (.tup [.str z',.str u])∧z≠z'∧Q (.bl false) H):=rfl
end
end L2
namespace L2
open PySem PySem.Spec PyProof.Rows
section
variable {X:Cx}
noncomputable def tSlS (K:PySem.W.Frag) (te:TE) (tl th ts:TO):TE:=fun σ H Q=>te σ H fun x H1=>tl σ H1 fun _ H2=>th σ H2 fun _ H3=>ts σ H3 fun k H4=>∃ a xs m,x=.ref a∧SqL K H4 a xs∧k=some m∧0 < m∧∀(ys:List V) p,(∀ y∈ys,y∈xs)→ys.length≤xs.length→H4 p=none→Q (.ref p) (upd H4 p (.lst ys))
theorem e_slSt {K:PySem.W.Frag} {te:TE} {tl th ts:TO} {σ:St} {H:Hp} {Q:VK}:tSlS K te tl th ts σ H Q=te σ H fun x H1=>tl σ H1 fun _ H2=>th σ H2 fun _ H3=>ts σ H3 fun k H4=>∃ a xs m,x=.ref a∧SqL K H4 a xs∧k=some m∧0 < m∧∀(ys:List V) p,(∀ y∈ys,y∈xs)→ys.length≤xs.length→H4 p=none→Q (.ref p) (upd H4 p (.lst ys)):=rfl
end
section
variable {fr:List Nat} {tc:TT} {te tl:TE} {σ:St} {H:Hp} {Q:VK} {K:PySem.W.Frag}
theorem e_comp2L:tComp2 K (iList K tl) fr tc te σ H Q=tl σ H fun x H1=>onRef x fun a=>(∃ xs,SqL K H1 a xs)∧lc2 K (Itl K a) fr tc te σ H1 Q:=by
 unfold tComp2 iList
 congr 1
 funext x H1
 exact propext ⟨fun ⟨a,e,h1,h⟩=>by subst e;exact ⟨h1,h⟩,fun h=>by obtain ⟨a,rfl,h1,h⟩:=onRef_of h;exact ⟨a,rfl,h1,h⟩⟩
end
section
variable {prog:Program} {w:World} {A:Around} {E:Value→Shared→Prop} {s:Shared}
theorem draw_listF {it t:Addr} {items:Array Value} (hne:t≠it):∀(n i:Nat) (s:Shared) (Q:List Value→Shared→Prop),s.heap.IsListIter it t i→s.heap.IsList t items→i+n≤items.size → (∀ h',Heap.IsListIter h' it t (i+n)→Heap.SameBut it s.heap h'→Q ((items.toList.drop i).take n) {s with heap:=h'})→wpAny (model prog w) A (draw (.ref it) n) Q E s
 | 0,i,s,Q,hit,_,_,hQ=>by
  show wpAny _ _ (pure []) Q E s
  exact wpAny_pure (by simpa using hQ s.heap hit (Heap.SameBut.refl ..))
 | n+1,i,s,Q,hit,ht,hle,hQ=>by
  have hlt:i < items.size:=by omega
  show wpAny _ _ (pyNext (.ref it) >>= _) Q E s
  refine wpAny_bind (wpAny_pyNext_list_item hit ht (x:=items[i]) (by simp [hlt]) fun h₁ hit₁ hs₁=>?_)
  refine wpAny_bind (wpAny_holding (draw_listF hne n (i+1) _ _ hit₁ (ht.extBut hs₁.extBut hne) (by omega) fun h₂ hit₂ hs₂=>wpAny_pure ?_))
  have hd:items.toList.drop i=items[i]::items.toList.drop (i+1):=by simp [List.drop_eq_getElem_cons,hlt]
  have:=hQ h₂ (by rw [show i+(n+1)=i+1+n by omega];exact hit₂) (hs₁.trans hs₂)
  rw [hd,List.take_succ_cons] at this
  exact this
theorem unpackItems_listF {t:Addr} {items:Array Value} {Q:List Value→Shared→Prop} (hh:A.handled=none) (ht:s.heap.IsList t items) (hQ:∀ h',Heap.ExtBut s.heap.objs.size s.heap h'→Q items.toList {s with heap:=h'}):wpAny (model prog w) A (unpackItems (.ref t) items.size none) Q E s:=by
 have hlt:t≠s.heap.objs.size:=by obtain ⟨o,ho,_⟩:=ht;exact Nat.ne_of_lt (Heap.lt_size ho)
 unfold unpackItems
 refine wpAny_bind ?_
 ·unfold notIterableAtAll
  refine wpAny_bind (wpAny_specialOf ht.typeIs slot_list_iter.lookup ?_)
  refine wpAny_pure ?_
  simp only [Bool.false_eq_true,if_false]
  refine wpAny_bind (wpAny_holding (wpAny_pyIter_list ht ?_))
  refine wpAny_bind (wpAny_holding (draw_listF hlt items.size 0 _ _ ⟨_,Heap.get?_push_size _ rfl,rfl,rfl⟩ (ht.push _) (by omega) fun h₁ hit₁ hs₁=>?_))
  have hall:List.take items.size (List.drop 0 items.toList)=items.toList:=by
   rw [List.drop_zero];exact List.take_of_length_le (by simp)
  rw [hall]
  rw [if_neg (by simp)]
  have ht₁:h₁.IsList t items:=(ht.push _).extBut hs₁.extBut hlt
  refine wpAny_bind (wpAny_holding (wpAny_pyNext_list_end hh hit₁ ht₁ (by simp) fun h₂ he₂=>?_))
  simp only [Option.isSome_none,Bool.false_eq_true,if_false]
  refine wpAny_pure (hQ h₂ fun b o hb e=>he₂ b o hb (hs₁.extBut b o hb (Heap.get?_push_of_some _ e)))
theorem assign_Tuple_listF {env:Env} {elts:List Expr} {x1} {pos:Pos} {t:Addr} {items:Array Value} {Q:Unit→Shared→Prop} (hh:A.handled=none) (ht:s.heap.IsList t items) (hn:(assignEach elts env).length=items.size) (hstar:(assignEach elts env).findIdx? (·.1)=none) (h:∀ h',Heap.ExtBut s.heap.objs.size s.heap h'→wpAny (model prog w) A (assignInOrder ((assignEach elts env).map (·.2)) items.toList) Q E {s with heap:=h'}) : wpAny (model prog w) A (assign (.Tuple elts x1 pos) env (.ref t)) Q E s:=by
 rw [assign_Tuple]
 refine wpAny_bind (wpAny_standAt ?_)
 unfold unpack
 rw [hn,hstar]
 exact wpAny_bind (wpAny_holding (unpackItems_listF hh ht h))
end
section
variable {X:Cx} {pos:Pos}
noncomputable def gLst (K:PySem.W.Frag) (n:Nat) (t:TGs):TG:=fun v σ H Q=>∃ a xs,v=.ref a∧SqL K H a xs∧xs.length=n∧t xs σ H Q
theorem pg_lst {es:List Expr} {k:Nat} {t:TGs} {n:Nat} (hc:X.calm=true) (h:PGs X es t) (hn:(assignEach es X.env).length=n:=by rfl) (hst:(assignEach es X.env).findIdx? (·.1)=none:=by rfl):PG X (.Tuple es k pos) (gLst X.K n t):=by
 intro pins s σ H v u Q I r hw
 obtain ⟨a,xs,e1,hq,hl,hw⟩:=hw
 subst e1
 cases r
 obtain ⟨its,rv,ht,hz⟩:=I.list hq
 refine assign_Tuple_listF (I.ok.hd hc) ht.isList (by simp [hn,← hl,rv.length]) hst fun h' hx=>?_
 have I1:Inv X pins σ H {s with heap:=h'}:=I.kept (t':=s.toks) fun b o e=>hx b o (Nat.ne_of_lt (Heap.lt_size e)) e
 exact h pins _ σ H xs _ Q I1 (by simpa using rv) hw
theorem e_gLst {K:PySem.W.Frag} {n:Nat} {t:TGs} {a:Addr} {σ:St} {H:Hp} {Q:St→Hp→Prop}:gLst K n t (.ref a) σ H Q = ∃ xs,SqL K H a xs∧xs.length=n∧t xs σ H Q:=propext ⟨fun ⟨b,xs,e,h⟩=>by cases e;exact ⟨xs,h⟩,fun ⟨xs,h⟩=>⟨a,xs,rfl,h⟩⟩
end
end L2
namespace L2
open PySem PySem.Spec PyProof.Rows
noncomputable def cVar (i:Nat):TE:=fun σ H Q=>onO (σ[i]?).join fun v=>Q v H
noncomputable def cTest (t:TE):TT:=fun σ H B=>t σ H fun x H'=>onB x fun k=>B k H'
noncomputable def cCall (sp:Sp) (t:TA):TE:=fun σ H Q=>t σ H fun vs H1=>sp vs H1 Q E0
noncomputable def cMeth (C:Addr) (m:Str) (sp:Sp) (ta:TE) (t:TA):TE:=fun σ H Q=>ta σ H fun x H1=>onRef x fun a=>onIns C (H1 a) fun _ fs=>fs.lookup m=none∧t σ H1 fun vs H2=>sp (.ref a::vs) H2 Q E0
section
variable {X:Cx} {e:Expr} {te ta:TE} {t:TA} {sp:Sp} {C:Addr} {m:Str}
theorem PE.cV {i:Nat} (h:PE X e (tVar i)):PE X e (cVar i):=fun pins s σ H Q I q=>h pins s σ H Q I (by
 obtain ⟨v,e,q⟩:=onO_of q
 refine ⟨v,?_,q⟩
 cases z:σ[i]? with
 | none=>rw [z] at e;cases e
 | some o=>rw [z] at e;cases o with
  | none=>cases e
  | some u=>cases e;rfl)
theorem PT.cT (h:PT X e (tTest te)):PT X e (cTest te):=fun pins s σ H Q I q=>h pins s σ H Q I (by rw [e_test];exact q)
theorem PE.cC (h:PE X e (tCall sp [] E0 t)):PE X e (cCall sp t):=fun pins s σ H Q I q=>h pins s σ H Q I (by rw [e_call];exact q)
theorem PE.cM (h:PE X e (tMeth C m sp [] E0 ta t)):PE X e (cMeth C m sp ta t):=fun pins s σ H Q I q=>h pins s σ H Q I (by rw [e_meth];exact q)
end
section
variable {v:V} {o0 o1 o2 o3 o4 o5 o6:Option V} {σ:St} {H:Hp} {Q:VK} {B:Bool→Hp→Prop} {te ta:TE} {t:TA} {sp:Sp} {C:Addr} {m:Str}
theorem c_v0:cVar 0 (some v::σ) H Q=Q v H:=rfl
theorem c_v1:cVar 1 (o0::some v::σ) H Q=Q v H:=rfl
theorem c_v2:cVar 2 (o0::o1::some v::σ) H Q=Q v H:=rfl
theorem c_v3:cVar 3 (o0::o1::o2::some v::σ) H Q=Q v H:=rfl
theorem c_v4:cVar 4 (o0::o1::o2::o3::some v::σ) H Q=Q v H:=rfl
theorem c_v5:cVar 5 (o0::o1::o2::o3::o4::some v::σ) H Q=Q v H:=rfl
theorem c_v6:cVar 6 (o0::o1::o2::o3::o4::o5::some v::σ) H Q=Q v H:=rfl
theorem c_v7:cVar 7 (o0::o1::o2::o3::o4::o5::o6::some v::σ) H Q=Q v H:=rfl
theorem c_test:cTest te σ H B=te σ H fun x H'=>onB x fun k=>B k H':=rfl
theorem c_call:cCall sp t σ H Q=t σ H fun vs H1=>sp vs H1 Q E0:=rfl
theorem c_meth:cMeth C m sp ta t σ H Q=ta σ H fun x H1=>onRef x fun a=>onIns C (H1 a) fun _ fs=>fs.lookup m=none∧t σ H1 fun vs H2=>sp (.ref a::vs) H2 Q E0:=rfl
end
end L2
namespace L2
open PySem PySem.Spec PyProof.Rows
section
variable {X:Cx} {tg:Expr}
noncomputable def iSq (K:PySem.W.Frag) (tl:TE):TI:=fun σ H R=>tl σ H fun x H1=>∃ a,x=.ref a∧(((∃ xs,SqL K H1 a xs)∧R (Itl K a) H1)∨((∃ xs,SqT K H1 a xs)∧R (Itt K a) H1))
theorem pi_sq {l:Expr} {tl:TE} (hl:PE X l tl):PI X tg l (iSq X.K tl):=by
 intro pins s σ H R I h
 refine thn (hl pins s σ H _ I h) fun v s1 ⟨x,H1,I1,r1,q1⟩=>?_
 obtain ⟨a,e,q⟩:=q1
 subst e
 cases r1
 rcases q with ⟨⟨xs,hq⟩,q⟩ | ⟨⟨xs,hq⟩,q⟩
 ·obtain ⟨its,rv,p,hz⟩:=I1.list hq
  refine wpAny_pyIter_list p.isList ?_
  refine ⟨s1.heap.objs.size,[s1.heap.objs.size],_,_,H1,rfl,I1.kept (t':=s1.toks) fun b o e=>Heap.get?_push_of_some _ e,turn_list a _,⟨_,Heap.get?_push_size _ rfl,rfl,rfl⟩,fun b hb=>?_,q⟩
  have e:b=s1.heap.objs.size:=by simpa using hb
  subst e
  exact I1.fpOk (Nat.le_refl _) (I1.hok.fresh (Nat.le_refl _))
 ·obtain ⟨its,rv,p,hz⟩:=I1.tuple hq
  refine wpAny_pyIter_tuple (show s1.heap.IsTuple a its.toArray from p) ?_
  refine ⟨s1.heap.objs.size,[s1.heap.objs.size],_,_,H1,rfl,I1.kept (t':=s1.toks) fun b o e=>Heap.get?_push_of_some _ e,turn_tuple a _,⟨_,Heap.get?_push_size _ rfl,rfl,rfl⟩,fun b hb=>?_,q⟩
  have e:b=s1.heap.objs.size:=by simpa using hb
  subst e
  exact I1.fpOk (Nat.le_refl _) (I1.hok.fresh (Nat.le_refl _))
end
noncomputable def lpQ (K:PySem.W.Frag) (a:Addr) (g:TG) (tb:TS):TS:=fun D σ H=>((∃ xs,SqL K H a xs)∧lp (Itl K a) g tb D σ H)∨((∃ xs,SqT K H a xs)∧lp (Itt K a) g tb D σ H)
section
variable {K:PySem.W.Frag} {te:TE} {g:TG} {tb:TS} {D:Ends} {σ:St} {H:Hp} {a:Addr} {xs:List V}
theorem e_forQ:tFor (iSq K te) g tb D σ H=te σ H fun x H1=>onRef x fun a=>lpQ K a g tb D σ H1:=by
 unfold tFor iSq
 congr 1
 funext x H1
 exact propext ⟨fun ⟨a,e,h⟩=>by subst e;exact h,fun h=>by obtain ⟨a,rfl,h⟩:=onRef_of h;exact ⟨a,rfl,h⟩⟩
theorem for_sq (b:Bool) (Pv:Nat→St→Hp→Prop) (h0:Pv 0 σ H) (hl:∀ i σ H,i≤xs.length→Pv i σ H→if b=true then SqL K H a xs else SqT K H a xs) (turn:∀ i x σ H,xs[i]?=some x→Pv i σ H→g x σ H fun σ2 H2=>tb {D with nx:=Pv (i+1),ct:=Pv (i+1),bk:=D.nx} σ2 H2) (after:∀ σ H,Pv xs.length σ H→D.nx σ H):lpQ K a g tb D σ H:=by
 cases b with
 | true=>exact .inl ⟨⟨xs,hl 0 σ H (Nat.zero_le _) h0⟩,for_list Pv h0 hl turn after⟩
 | false=>exact .inr ⟨⟨xs,hl 0 σ H (Nat.zero_le _) h0⟩,for_tup Pv h0 hl turn after⟩
end
end L2
namespace Own
open PySem L2
local macro_rules | `(tactic| exists $ts,*) => `(tactic| wp_walk using $ts,*)
set_option hygiene false in
local macro_rules | `(tactic| nomatch $a) => `(tactic| refine ($a).ok (fun vs H Q E h => ?_) (fun cdv A outer s H vs Q E hr sc h => ?_))
set_option hygiene false in
local macro_rules | `(tactic| nomatch $a, 0) => `(tactic| (refine ⟨_, $a, ?_⟩; clear sc; try dsimp only [L2.start, m_cons, m_nil, List.cons_append, List.nil_append, List.replicate_succ, List.replicate_zero, List.length_cons, List.length_nil, Nat.reduceAdd, Nat.reduceSub, Nat.zero_add]))
set_option hygiene false in
local macro_rules | `(tactic| left) => `(tactic| (refine cut_seq fun R0 hR0 => ?_; try dsimp only))
set_option hygiene false in
local macro_rules | `(tactic| right) => `(tactic| (refine hR0 _ _ ?_; clear hR0; try clear R0))
local macro_rules | `(tactic| and_intros) => `(tactic| try dsimp only [L2.start, m_cons, m_nil, List.cons_append, List.nil_append, List.replicate_succ, List.replicate_zero, List.length_cons, List.length_nil, Nat.reduceAdd, Nat.reduceSub, Nat.zero_add])
local macro_rules | `(tactic| infer_instance) => `(tactic| first | exact ⟨rfl, by first | exact Or.inl rfl | exact Or.inr (Or.inl rfl) | exact Or.inr (Or.inr rfl), by decide, by decide⟩ | exact ⟨rfl, rfl, rfl, by decide +kernel, rfl, by decide +kernel, by decide +kernel⟩)
seal PE PA PT PW PS PSs PI PG PGs PTs PO PPs
inductive A5 (p0 p1 p2 p3 p4:Prop):Prop
 | mk (_:p0) (_:p1) (_:p2) (_:p3) (_:p4):A5 p0 p1 p2 p3 p4
inductive A7 (p0 p1 p2 p3 p4 p5 p6:Prop):Prop
 | mk (_:p0) (_:p1) (_:p2) (_:p3) (_:p4) (_:p5) (_:p6):A7 p0 p1 p2 p3 p4 p5 p6
inductive A8 (p0 p1 p2 p3 p4 p5 p6 p7:Prop):Prop
 | mk (_:p0) (_:p1) (_:p2) (_:p3) (_:p4) (_:p5) (_:p6) (_:p7):A8 p0 p1 p2 p3 p4 p5 p6 p7
inductive E2 {α0 α1:Type} (P:α0→α1→Prop):Prop
 | mk (a0:α0) (a1:α1) (_:P a0 a1):E2 P
inductive E3 {α0 α1 α2:Type} (P:α0→α1→α2→Prop):Prop
 | mk (a0:α0) (a1:α1) (a2:α2) (_:P a0 a1 a2):E3 P
structure GfX (K:PySem.W.Frag) (x q:Str) (st:Stmt) (ns ps:List Str) (f:Addr) (d:FuncData) (M:Prop):Prop where
 fn:Fun K x q st f d
 bd:Binds K d ps []
 sc:FnScope ns ps (defScope st)
 m:M
noncomputable abbrev GnX (K:PySem.W.Frag) (mg:Str→Option Value) (x:Str) (st:Stmt) (ns ps:List Str) (f:Addr) (d:FuncData):Prop:=GfX K x x st ns ps f d (mg x=some (.ref f))
noncomputable abbrev GmX (K:PySem.W.Frag) (C:Addr) (x q:Str) (st:Stmt) (ns ps:List Str) (f:Addr) (d:FuncData):Prop:=GfX K x q st ns ps f d (Meth K C x f)
section
open PySem.Spec PyProof.Rows
variable {P:Program} {w:World} {K:PySem.W.Frag} {mg:Str→Option Value} {base h:Heap} {x q:Str} {st:Stmt} {ns ps:List Str} {C f:Addr} {d:FuncData} {M:Prop} {k:Nat} {sp:Sp}
theorem GfX.ok (g:GfX K x q st ns ps f d M) (len:∀ vs H Q E,sp vs H Q E→vs.length=ps.length) (hbody:∀(cdv:Value) (A:Around) (outer:List Env) (s:Shared) (H:Hp) (vs:List V) (Q:VK) (E:XK),Room k (A.deeper (envOfC q (defScope st) s.heap.objs.size f cdv))→ns.Nodup→sp vs H Q E → ∃ t,PSs (cxOf CX0 P w K mg base ns q (defScope st) f cdv A outer s H E).nox (defBody st) t∧t {nx:=fun _ H'=>Q .non H',rt:=Q} (start ns vs) H):FnOk P w K mg base CX0 (k+1) f d ps sp:=g.fn.ok g.sc len fun cdv A outer s H vs Q E hr h=>hbody cdv A outer s H vs Q E hr g.sc.nd h
theorem b0 {P:List Value→Prop} (h:P []):∀ us:List Value,us.length=0→P us:=fun us e=>by rw [List.length_eq_zero_iff.mp e];exact h
theorem bS {P:List Value→Prop} {n:Nat} (h:∀ a,∀ us:List Value,us.length=n→P (a::us)):∀ us:List Value,us.length=n+1→P us
 | [],e=>by cases e
 | a::us,e=>h a us (Nat.succ.inj e)
structure Gf0 (K:PySem.W.Frag) (x:Str) (st:Stmt) (f:Addr) (d:FuncData):Prop where
 a:PySem.W.nsIn K mainGlobals x=some (some (.ref f))
 F:Fun K x x st f d
structure Gm0 (K:PySem.W.Frag) (C:Addr) (x q:Str) (st:Stmt) (f:Addr) (d:FuncData):Prop where
 a:PySem.W.findIn K (.ref C) x=some (some (.ref f))
 i:PySem.W.isFn K (.ref f)=true
 F:Fun K x q st f d
theorem gf_mk {oc:Value} {od an:Option Addr} {osl:Array (Option Value)} {kV doc pm cdv ct:Value} (a:PySem.W.nsIn K mainGlobals x=some (some (.ref f))) (l:K.lookup f=some ⟨oc,od,.func (PySem.W.fnOf x x (defArgs st) (defBody st) (defScope st) .none kV doc pm an cdv ct),osl⟩) (c:PySem.W.codeIn K cdv x=true) (k:PySem.W.keepIn K (.ref f)=true):Gf0 K x st f (PySem.W.fnOf x x (defArgs st) (defBody st) (defScope st) .none kV doc pm an cdv ct):=⟨a,fun_mk l c k⟩
theorem gm_mk {oc:Value} {od an:Option Addr} {osl:Array (Option Value)} {kV doc pm cdv ct:Value} (a:PySem.W.findIn K (.ref C) x=some (some (.ref f))) (i:PySem.W.isFn K (.ref f)=true) (l:K.lookup f=some ⟨oc,od,.func (PySem.W.fnOf x q (defArgs st) (defBody st) (defScope st) .none kV doc pm an cdv ct),osl⟩) (c:PySem.W.codeIn K cdv q=true) (k:PySem.W.keepIn K (.ref f)=true):Gm0 K C x q st f (PySem.W.fnOf x q (defArgs st) (defBody st) (defScope st) .none kV doc pm an cdv ct):=⟨a,i,fun_mk l c k⟩
theorem Gf0.go (F:Gf0 K x st f d) (X:K.In h) (G:h.Ns mainGlobals mg) (b:∀(kV doc pm:Value) (an:Option Addr) (cdv ct:Value) (us:List Value),us.length=ps.length→bindArgs (PySem.W.fnOf x x (defArgs st) (defBody st) (defScope st) .none kV doc pm an cdv ct) ⟨us,[]⟩=pure (ps.zip us):=by exact fun _ _ _ _ _ _=>by repeat (first | exact b0 rfl | refine bS fun _=>?_)) (sc:FnScope ns ps (defScope st):=by infer_instance):GnX K mg x st ns ps f d:=⟨F.F,F.F.binds b,sc,PySem.W.mg_of X G F.a⟩
theorem Gm0.go (F:Gm0 K C x q st f d) (b:∀(kV doc pm:Value) (an:Option Addr) (cdv ct:Value) (us:List Value),us.length=ps.length→bindArgs (PySem.W.fnOf x q (defArgs st) (defBody st) (defScope st) .none kV doc pm an cdv ct) ⟨us,[]⟩=pure (ps.zip us):=by exact fun _ _ _ _ _ _=>by repeat (first | exact b0 rfl | refine bS fun _=>?_)) (sc:FnScope ns ps (defScope st):=by infer_instance):GmX K C x q st ns ps f d:=⟨F.F,F.F.binds b,sc,F.a,F.i,F.F.kp⟩
end
section
open PySem.Spec PyProof.Rows
variable {X:Cx} {x:Str} {p pos:Pos} {e o:Expr} {es:List Expr} {t:TA} {k:Nat} {f C:Addr} {fd:FuncData} {ns ps:List Str} {sp:Sp} {st:Stmt} {ta td ty te tb tv:TE} {a b i value:Expr}
theorem pcl (F:FnOk X.prog X.w X.K X.mg X.base CX0 k f fd ps sp) (g:GnX X.K X.mg x st ns ps f fd) (ha:PA X (e::es) t) (hr:Room k X.A:=by exact hr.mono (by omega)) (hg:Gl X x:=by rfl) (hdb:(x == ("__debug__":Str))=false:=by decide) (he:starEach (e::es) X.env=(false,eval e X.env)::starEach es X.env:=by rfl) (hpl:(backTo pos (starEach es X.env)).any (·.1)=false:=by rfl) : PE X (.Call (.Name x p) (e::es) [] pos) (cCall sp t):=(pe_call F hr hg g.m g.fn.kp g.bd .nil pass0 ha hdb he hpl).cC
theorem pmt {m q:Str} {apos:Pos} {pl:Sem Bool} (he:PE X o ta) (c:Cls X.K C) (F:FnOk X.prog X.w X.K X.mg X.base CX0 k f fd ps sp) (g:GmX X.K C m q st ns ps f fd) (ha:PA X (e::es) t) (hr:Room k X.A:=by exact hr.mono (by omega))
    (hst:starEach (e::es) X.env=(false,eval e X.env)::starEach es X.env:=by rfl) (hpl:(backTo pos (starEach es X.env)).any (·.1)=false:=by rfl)
    (ht:eval (.Call (.Attribute o m apos) (e::es) [] pos) X.env=(do
      let ov ← eval o X.env
      standAt apos.atName
      let (f,first) ← holding [ov] (getMethod ov m pl)
      callWith pos f first (backTo pos (starEach (e::es) X.env)) (backToKw pos (keywordEach [] X.env))):=by rfl) :
    PE X (.Call (.Attribute o m apos) (e::es) [] pos) (cMeth C m sp ta t):=(pe_meth he c g.m F hr g.bd .nil pass0 ha hst hpl ht).cM
theorem pmt0 {m q:Str} {apos:Pos} {pl:Sem Bool} (he:PE X o ta) (c:Cls X.K C) (F:FnOk X.prog X.w X.K X.mg X.base CX0 k f fd ps sp) (g:GmX X.K C m q st ns ps f fd) (hr:Room k X.A:=by exact hr.mono (by omega))
    (ht:eval (.Call (.Attribute o m apos) [] [] pos) X.env=(do
      let ov ← eval o X.env
      standAt apos.atName
      let (f,first) ← holding [ov] (getMethod ov m pl)
      callWith pos f first (backTo pos (starEach [] X.env)) (backToKw pos (keywordEach [] X.env))):=by rfl) :
    PE X (.Call (.Attribute o m apos) [] [] pos) (cMeth C m sp ta tNil):=(pe_meth0 he c g.m F hr g.bd .nil pass0 ht).cM
theorem pst {pos':Pos} (i:Nat) (he:PE X e te) (hN:X.N.Nodup:=by exact sc) (hi:X.N[i]?=some x:=by rfl) (hx:Loc X.env.scope x:=by exact .inl rfl) (hs:swapsWith e (some (.Name x pos')) pos.line X.env=pure false:=by rfl) (hf:X.fn x=true∨X.env.scope.names.lookup x=some .local:=by first | exact .inl rfl | exact .inr rfl | assumption) : PS X (.Assign [.Name x pos'] e pos) (tAsg te (gName i)):=ps_set hN hi hx he hs hf
theorem pgn (i:Nat) (hN:X.N.Nodup:=by exact sc) (hi:X.N[i]?=some x:=by rfl) (hx:Loc X.env.scope x:=by exact .inl rfl) (hf:X.fn x=true∨X.env.scope.names.lookup x=some .local:=by first | exact .inl rfl | exact .inr rfl | assumption):PG X (.Name x pos) (gName i):=pg_name hN hi hx hf
theorem pdg (ho:PE X o td) (hi:PE X i ty) (hs:NoSl i:=by exact fun _ _=>rfl) (hu:X.A.units+1 < cLine:=by exact hu_of hr):PE X (.Subscript o i pos) (cGet td ty):=pe_dgetC hu ho hi hs
theorem ppt {pos':Pos} (ho:PE X o td) (hi:PE X i ty) (hv:PE X value tv) (hs:swapsWith value (some (.Subscript o i pos')) pos.line X.env=pure false:=by rfl) (hu:X.A.units+1 < cLine:=by exact hu_of hr) : PS X (.Assign [.Subscript o i pos'] value pos) (cPut td ty tv):=ps_putC hu ho hi hv hs
theorem ptc {op:CmpOp} {r:R2} (ho:OpR X (compareOp op) r) (ha:PE X a ta) (hb:PE X b tb) (hm:behindInMarks op b=false:=by exact nomark _):PT X (.Compare a [op] [b] pos) (cTest (tOp r ta tb)):=(pt_cmpR ho ha hb hm).cT
theorem pcr {op:CmpOp} {r:R2} (ho:OpR X (compareOp op) r) (ha:PE X a ta) (hb:PE X b tb) (hm:behindInMarks op b=false:=by exact nomark _):PE X (.Compare a [op] [b] pos) (tOp r ta tb):=pe_cmpR ho ha hb hm
theorem pix {r:R2} (hr:IxR X r) (ha:PE X a ta) (hb:PE X b tb) (hs:PlainIx b:=by exact fun _ _=>rfl):PE X (.Subscript a b pos) (tOp r ta tb):=pe_ix hr ha hb hs
theorem pa1 {t1:TE} {e1:Expr} (a:PE X e1 t1) (i:isStar e1=false:=by rfl):PA X [e1] (tCons t1 tNil):=pa_n a pa_nil i
theorem pa2 {t1 t2:TE} {e1 e2:Expr} (a:PE X e1 t1) (b:PE X e2 t2) (i:isStar e1=false:=by rfl) (j:isStar e2=false:=by rfl):PA X [e1,e2] (tCons t1 (tCons t2 tNil)):=pa_n a (pa1 b j) i
theorem pa3 {t1 t2 t3:TE} {e1 e2 e3:Expr} (a:PE X e1 t1) (b:PE X e2 t2) (c:PE X e3 t3) (i:isStar e1=false:=by rfl) (j:isStar e2=false:=by rfl) (k:isStar e3=false:=by rfl):PA X [e1,e2,e3] (tCons t1 (tCons t2 (tCons t3 tNil))):=pa_n a (pa2 b c j k) i
theorem pss2 {s1 s2:Stmt} {t1 t2:TS} (a:PS X s1 t1) (b:PS X s2 t2):PSs X [s1,s2] (tSeq t1 t2):=pss_cons a (pss_one b)
theorem pss3 {s1 s2 s3:Stmt} {t1 t2 t3:TS} (a:PS X s1 t1) (b:PS X s2 t2) (c:PS X s3 t3):PSs X [s1,s2,s3] (tSeq t1 (tSeq t2 t3)):=pss_cons a (pss2 b c)
theorem pif {c:Expr} {l:List Stmt} {tc:TT} {t1:TS} (hc:PT X c tc) (ha:PSs X l t1):PS X (.If c l [] pos) (tIfS tc t1 tNext):=ps_if hc ha pss_nil
noncomputable def Pk (X:Cx) (i:Nat) (x:Str):Prop:=X.N[i]?=some x∧Vis X.env.scope x∧(x == ("__debug__":Str))=false∧(x == ("__classdict__":Str))=false
theorem pv0 (h:Pk X 0 x:=by infer_instance):PE X (.Name x pos) (cVar 0):=(pe_var h.1 h.2.1 h.2.2.1 h.2.2.2).cV
theorem pv1 (h:Pk X 1 x:=by infer_instance):PE X (.Name x pos) (cVar 1):=(pe_var h.1 h.2.1 h.2.2.1 h.2.2.2).cV
theorem pv2 (h:Pk X 2 x:=by infer_instance):PE X (.Name x pos) (cVar 2):=(pe_var h.1 h.2.1 h.2.2.1 h.2.2.2).cV
theorem pv3 (h:Pk X 3 x:=by infer_instance):PE X (.Name x pos) (cVar 3):=(pe_var h.1 h.2.1 h.2.2.1 h.2.2.2).cV
theorem pv4 (h:Pk X 4 x:=by infer_instance):PE X (.Name x pos) (cVar 4):=(pe_var h.1 h.2.1 h.2.2.1 h.2.2.2).cV
theorem pv5 (h:Pk X 5 x:=by infer_instance):PE X (.Name x pos) (cVar 5):=(pe_var h.1 h.2.1 h.2.2.1 h.2.2.2).cV
theorem pv6 (h:Pk X 6 x:=by infer_instance):PE X (.Name x pos) (cVar 6):=(pe_var h.1 h.2.1 h.2.2.1 h.2.2.2).cV
theorem pv7 (h:Pk X 7 x:=by infer_instance):PE X (.Name x pos) (cVar 7):=(pe_var h.1 h.2.1 h.2.2.1 h.2.2.2).cV
end
noncomputable def top (i:Nat):Stmt:=PySem.Challenge.pw_outlast_k16_blocks_gone_through.main.body.getD i (.Pass ⟨0,0,0,0⟩)
noncomputable abbrev s_kept:Stmt:=top 4
noncomputable abbrev s_worthof:Stmt:=top 6
noncomputable abbrev s_joined:Stmt:=top 7
noncomputable abbrev s_numberof:Stmt:=top 8
noncomputable abbrev s_oneornought:Stmt:=top 9
noncomputable abbrev s_Ticketsinit:Stmt:=inClass (top 11) 0
noncomputable abbrev s_Ticketsmake:Stmt:=inClass (top 11) 1
noncomputable abbrev s_Ticketsisopen:Stmt:=inClass (top 11) 2
noncomputable abbrev s_Ticketsfinish:Stmt:=inClass (top 11) 4
noncomputable abbrev s_Ticketsshut:Stmt:=inClass (top 11) 5
noncomputable abbrev s_Ticketsshutall:Stmt:=inClass (top 11) 6
noncomputable abbrev s_Ticketsfirstdone:Stmt:=inClass (top 11) 7
noncomputable abbrev s_Walkinit:Stmt:=inClass (top 13) 0
noncomputable abbrev s_Walkcometo:Stmt:=inClass (top 13) 1
noncomputable abbrev s_Walkstandsat:Stmt:=inClass (top 13) 2
noncomputable abbrev s_Walkpassby:Stmt:=inClass (top 13) 3
noncomputable abbrev s_Walkenter:Stmt:=inClass (top 13) 4
noncomputable abbrev s_Walkleave:Stmt:=inClass (top 13) 5
noncomputable abbrev s_doset:Stmt:=top 16
noncomputable abbrev s_doorder:Stmt:=top 17
noncomputable abbrev s_dotimer:Stmt:=top 18
noncomputable abbrev s_dosend:Stmt:=top 19
noncomputable abbrev s_dodrop:Stmt:=top 20
noncomputable abbrev s_dowait:Stmt:=top 21
noncomputable abbrev s_dohear:Stmt:=top 22
noncomputable abbrev s_doend:Stmt:=top 23
noncomputable abbrev s_Runinit:Stmt:=inClass (top 25) 0
noncomputable abbrev s_Runwaits:Stmt:=inClass (top 25) 1
noncomputable abbrev s_Runtake:Stmt:=inClass (top 25) 4
noncomputable abbrev s_Runpassesover:Stmt:=inClass (top 25) 5
noncomputable abbrev s_Runtakedone:Stmt:=inClass (top 25) 6
noncomputable abbrev s_Runtakeletter:Stmt:=inClass (top 25) 7
noncomputable abbrev s_Runwake:Stmt:=inClass (top 25) 8
noncomputable abbrev s_Rungoon:Stmt:=inClass (top 25) 9
noncomputable abbrev s_Rundoone:Stmt:=inClass (top 25) 10
noncomputable abbrev s_Runlook:Stmt:=inClass (top 25) 11
noncomputable abbrev s_Runend:Stmt:=inClass (top 25) 12
noncomputable abbrev s_Runwearout:Stmt:=inClass (top 25) 13
noncomputable abbrev s_Runworth:Stmt:=inClass (top 25) 14
noncomputable abbrev s_Runnewticket:Stmt:=inClass (top 25) 15
noncomputable abbrev s_lawcellat:Stmt:=top 27
noncomputable abbrev s_lawdeck:Stmt:=top 28
noncomputable abbrev s_lawpick:Stmt:=top 29
noncomputable abbrev s_lawname:Stmt:=top 30
noncomputable abbrev s_lawworth:Stmt:=top 31
noncomputable abbrev s_lawsaying:Stmt:=top 32
noncomputable abbrev s_lawplain:Stmt:=top 33
noncomputable abbrev s_lawbounded:Stmt:=top 34
noncomputable abbrev s_lawsays:Stmt:=top 35
noncomputable abbrev s_lawticket:Stmt:=top 36
noncomputable abbrev s_lawdoplain:Stmt:=top 37
noncomputable abbrev s_lawalike:Stmt:=top 38
noncomputable abbrev s_lawpiece:Stmt:=top 39
noncomputable abbrev s_lawclosed:Stmt:=top 40
noncomputable abbrev s_lawgone:Stmt:=top 41
noncomputable abbrev s_law:Stmt:=top 42
set_option genInjectivity false in
set_option genSizeOf false in
structure Ad where
 akept:Addr
 dkept:FuncData
 aworthof:Addr
 dworthof:FuncData
 ajoined:Addr
 djoined:FuncData
 anumberof:Addr
 dnumberof:FuncData
 aoneornought:Addr
 doneornought:FuncData
 aTicketsinit:Addr
 dTicketsinit:FuncData
 aTicketsmake:Addr
 dTicketsmake:FuncData
 aTicketsisopen:Addr
 dTicketsisopen:FuncData
 aTicketsfinish:Addr
 dTicketsfinish:FuncData
 aTicketsshut:Addr
 dTicketsshut:FuncData
 aTicketsshutall:Addr
 dTicketsshutall:FuncData
 aTicketsfirstdone:Addr
 dTicketsfirstdone:FuncData
 aWalkinit:Addr
 dWalkinit:FuncData
 aWalkcometo:Addr
 dWalkcometo:FuncData
 aWalkstandsat:Addr
 dWalkstandsat:FuncData
 aWalkpassby:Addr
 dWalkpassby:FuncData
 aWalkenter:Addr
 dWalkenter:FuncData
 aWalkleave:Addr
 dWalkleave:FuncData
 adoset:Addr
 ddoset:FuncData
 adoorder:Addr
 ddoorder:FuncData
 adotimer:Addr
 ddotimer:FuncData
 adosend:Addr
 ddosend:FuncData
 adodrop:Addr
 ddodrop:FuncData
 adowait:Addr
 ddowait:FuncData
 adohear:Addr
 ddohear:FuncData
 adoend:Addr
 ddoend:FuncData
 aRuninit:Addr
 dRuninit:FuncData
 aRunwaits:Addr
 dRunwaits:FuncData
 aRuntake:Addr
 dRuntake:FuncData
 aRunpassesover:Addr
 dRunpassesover:FuncData
 aRuntakedone:Addr
 dRuntakedone:FuncData
 aRuntakeletter:Addr
 dRuntakeletter:FuncData
 aRunwake:Addr
 dRunwake:FuncData
 aRungoon:Addr
 dRungoon:FuncData
 aRundoone:Addr
 dRundoone:FuncData
 aRunlook:Addr
 dRunlook:FuncData
 aRunend:Addr
 dRunend:FuncData
 aRunwearout:Addr
 dRunwearout:FuncData
 aRunworth:Addr
 dRunworth:FuncData
 aRunnewticket:Addr
 dRunnewticket:FuncData
 alawcellat:Addr
 dlawcellat:FuncData
 alawdeck:Addr
 dlawdeck:FuncData
 alawpick:Addr
 dlawpick:FuncData
 alawname:Addr
 dlawname:FuncData
 alawworth:Addr
 dlawworth:FuncData
 alawsaying:Addr
 dlawsaying:FuncData
 alawplain:Addr
 dlawplain:FuncData
 alawbounded:Addr
 dlawbounded:FuncData
 alawsays:Addr
 dlawsays:FuncData
 alawticket:Addr
 dlawticket:FuncData
 alawdoplain:Addr
 dlawdoplain:FuncData
 alawalike:Addr
 dlawalike:FuncData
 alawpiece:Addr
 dlawpiece:FuncData
 alawclosed:Addr
 dlawclosed:FuncData
 alawgone:Addr
 dlawgone:FuncData
 alaw:Addr
 dlaw:FuncData
 kGREATESTWORTH:Tok
 kGREATESTMOMENT:Tok
 kMOSTATONCE:Tok
 kDEEDS:Addr
 CTickets:Addr
 CWalk:Addr
 CRun:Addr
structure Tx (P:Program) (w:World) (base:Heap) (K:PySem.W.Frag) (mg:Str→Option Value) (t:Ad):Prop where
 fkept:GnX K mg "kept" s_kept ["number"] ["number"] t.akept t.dkept
 fworthof:GnX K mg "worth_of" s_worthof ["saying","names","arg","now","answers","kind","one","other"] ["saying","names","arg","now","answers"] t.aworthof t.dworthof
 fjoined:GnX K mg "joined" s_joined ["sign","one","other","left","right"] ["sign","one","other"] t.ajoined t.djoined
 fnumberof:GnX K mg "number_of" s_numberof ["worth"] ["worth"] t.anumberof t.dnumberof
 foneornought:GnX K mg "one_or_nought" s_oneornought ["truth"] ["truth"] t.aoneornought t.doneornought
 fTicketsinit:GmX K t.CTickets "__init__" "Tickets.__init__" s_Ticketsinit ["self"] ["self"] t.aTicketsinit t.dTicketsinit
 fTicketsmake:GmX K t.CTickets "make" "Tickets.make" s_Ticketsmake ["self","ticket"] ["self"] t.aTicketsmake t.dTicketsmake
 fTicketsisopen:GmX K t.CTickets "is_open" "Tickets.is_open" s_Ticketsisopen ["self","ticket"] ["self","ticket"] t.aTicketsisopen t.dTicketsisopen
 fTicketsfinish:GmX K t.CTickets "finish" "Tickets.finish" s_Ticketsfinish ["self","ticket","worth"] ["self","ticket","worth"] t.aTicketsfinish t.dTicketsfinish
 fTicketsshut:GmX K t.CTickets "shut" "Tickets.shut" s_Ticketsshut ["self","ticket"] ["self","ticket"] t.aTicketsshut t.dTicketsshut
 fTicketsshutall:GmX K t.CTickets "shut_all" "Tickets.shut_all" s_Ticketsshutall ["self"] ["self"] t.aTicketsshutall t.dTicketsshutall
 fTicketsfirstdone:GmX K t.CTickets "first_done" "Tickets.first_done" s_Ticketsfirstdone ["self","worths","tickets"] ["self","worths"] t.aTicketsfirstdone t.dTicketsfirstdone
 fWalkinit:GmX K t.CWalk "__init__" "Walk.__init__" s_Walkinit ["self","program"] ["self","program"] t.aWalkinit t.dWalkinit
 fWalkcometo:GmX K t.CWalk "come_to" "Walk.come_to" s_Walkcometo ["self"] ["self"] t.aWalkcometo t.dWalkcometo
 fWalkstandsat:GmX K t.CWalk "stands_at" "Walk.stands_at" s_Walkstandsat ["self"] ["self"] t.aWalkstandsat t.dWalkstandsat
 fWalkpassby:GmX K t.CWalk "pass_by" "Walk.pass_by" s_Walkpassby ["self"] ["self"] t.aWalkpassby t.dWalkpassby
 fWalkenter:GmX K t.CWalk "enter" "Walk.enter" s_Walkenter ["self","which"] ["self","which"] t.aWalkenter t.dWalkenter
 fWalkleave:GmX K t.CWalk "leave" "Walk.leave" s_Walkleave ["self"] ["self"] t.aWalkleave t.dWalkleave
 fdoset:GnX K mg "do_set" s_doset ["run","statement"] ["run","statement"] t.adoset t.ddoset
 fdoorder:GnX K mg "do_order" s_doorder ["run","statement","worth","ticket"] ["run","statement"] t.adoorder t.ddoorder
 fdotimer:GnX K mg "do_timer" s_dotimer ["run","statement","worth","due","ticket"] ["run","statement"] t.adotimer t.ddotimer
 fdosend:GnX K mg "do_send" s_dosend ["run","statement"] ["run","statement"] t.adosend t.ddosend
 fdodrop:GnX K mg "do_drop" s_dodrop ["run","statement","ticket"] ["run","statement"] t.adodrop t.ddodrop
 fdowait:GnX K mg "do_wait" s_dowait ["run","statement","worths","ticket","pending"] ["run","statement"] t.adowait t.ddowait
 fdohear:GnX K mg "do_hear" s_dohear ["run","statement","worths"] ["run","statement"] t.adohear t.ddohear
 fdoend:GnX K mg "do_end" s_doend ["run","statement"] ["run","statement"] t.adoend t.ddoend
 fRuninit:GmX K t.CRun "__init__" "Run.__init__" s_Runinit ["self","program"] ["self","program"] t.aRuninit t.dRuninit
 fRunwaits:GmX K t.CRun "waits" "Run.waits" s_Runwaits ["self"] ["self"] t.aRunwaits t.dRunwaits
 fRuntake:GmX K t.CRun "take" "Run.take" s_Runtake ["self","happening"] ["self","happening"] t.aRuntake t.dRuntake
 fRunpassesover:GmX K t.CRun "passes_over" "Run.passes_over" s_Runpassesover ["self","happening","kind"] ["self","happening"] t.aRunpassesover t.dRunpassesover
 fRuntakedone:GmX K t.CRun "take_done" "Run.take_done" s_Runtakedone ["self","ticket","worth"] ["self","ticket","worth"] t.aRuntakedone t.dRuntakedone
 fRuntakeletter:GmX K t.CRun "take_letter" "Run.take_letter" s_Runtakeletter ["self","key","worth"] ["self","key","worth"] t.aRuntakeletter t.dRuntakeletter
 fRunwake:GmX K t.CRun "wake" "Run.wake" s_Runwake ["self","worth"] ["self","worth"] t.aRunwake t.dRunwake
 fRungoon:GmX K t.CRun "go_on" "Run.go_on" s_Rungoon ["self","commands","many","statement"] ["self"] t.aRungoon t.dRungoon
 fRundoone:GmX K t.CRun "do_one" "Run.do_one" s_Rundoone ["self","statement","kind","commands"] ["self","statement"] t.aRundoone t.dRundoone
 fRunlook:GmX K t.CRun "look" "Run.look" s_Runlook ["self","statement"] ["self","statement"] t.aRunlook t.dRunlook
 fRunend:GmX K t.CRun "end" "Run.end" s_Runend ["self","worth"] ["self","worth"] t.aRunend t.dRunend
 fRunwearout:GmX K t.CRun "wear_out" "Run.wear_out" s_Runwearout ["self"] ["self"] t.aRunwearout t.dRunwearout
 fRunworth:GmX K t.CRun "worth" "Run.worth" s_Runworth ["self","saying"] ["self","saying"] t.aRunworth t.dRunworth
 fRunnewticket:GmX K t.CRun "new_ticket" "Run.new_ticket" s_Runnewticket ["self","name","ticket"] ["self","name"] t.aRunnewticket t.dRunnewticket
 flawcellat:GnX K mg "_law_cell_at" s_lawcellat ["script","k"] ["script","k"] t.alawcellat t.dlawcellat
 flawdeck:GnX K mg "_law_deck" s_lawdeck ["cell","turn"] ["cell","turn"] t.alawdeck t.dlawdeck
 flawpick:GnX K mg "_law_pick" s_lawpick ["deck","many","found","number"] ["deck","many"] t.alawpick t.dlawpick
 flawname:GnX K mg "_law_name" s_lawname ["deck"] ["deck"] t.alawname t.dlawname
 flawworth:GnX K mg "_law_worth" s_lawworth ["deck","kind"] ["deck"] t.alawworth t.dlawworth
 flawsaying:GnX K mg "_law_saying" s_lawsaying ["deck","deep","kind","one"] ["deck","deep"] t.alawsaying t.dlawsaying
 flawplain:GnX K mg "_law_plain" s_lawplain ["deck","kind"] ["deck"] t.alawplain t.dlawplain
 flawbounded:GnX K mg "_law_bounded" s_lawbounded ["number"] ["number"] t.alawbounded t.dlawbounded
 flawsays:GnX K mg "_law_says" s_lawsays ["saying","run","word","one","other","left","right"] ["saying","run"] t.alawsays t.dlawsays
 flawticket:GnX K mg "_law_ticket" s_lawticket ["run","name"] ["run","name"] t.alawticket t.dlawticket
 flawdoplain:GnX K mg "_law_do_plain" s_lawdoplain ["run","some","orders","word","worth","due"] ["run","some","orders"] t.alawdoplain t.dlawdoplain
 flawalike:GnX K mg "_law_alike" s_lawalike ["one","other"] ["one","other"] t.alawalike t.dlawalike
 flawpiece:GnX K mg "_law_piece" s_lawpiece ["frames","deck","k","kind","name","limit"] ["frames","deck","k"] t.alawpiece t.dlawpiece
 flawclosed:GnX K mg "_law_closed" s_lawclosed ["frames","word","saying","first","second","some"] ["frames"] t.alawclosed t.dlawclosed
 flawgone:GnX K mg "_law_gone" s_lawgone ["block","model","orders","some"] ["block","model","orders"] t.alawgone t.dlawgone
 flaw:GnX K mg "law" s_law ["script","frames","k","worth","moment","model","orders","run"] ["script"] t.alaw t.dlaw
 clTickets:Cls K t.CTickets
 mTickets:mg "Tickets"=some (.ref t.CTickets)
 mkTickets:Mk K t.CTickets t.aTicketsinit
 clWalk:Cls K t.CWalk
 mWalk:mg "Walk"=some (.ref t.CWalk)
 mkWalk:Mk K t.CWalk t.aWalkinit
 clRun:Cls K t.CRun
 mRun:mg "Run"=some (.ref t.CRun)
 mkRun:Mk K t.CRun t.aRuninit
 namade:NoAttr K t.CTickets "made"
 napending:NoAttr K t.CTickets "pending"
 naanswers:NoAttr K t.CTickets "answers"
 nablocks:NoAttr K t.CWalk "blocks"
 nanumbers:NoAttr K t.CWalk "numbers"
 nawalk:NoAttr K t.CRun "walk"
 nasleep:NoAttr K t.CRun "sleep"
 naarg:NoAttr K t.CRun "arg"
 nanow:NoAttr K t.CRun "now"
 nanames:NoAttr K t.CRun "names"
 natickets:NoAttr K t.CRun "tickets"
 naletters:NoAttr K t.CRun "letters"
 cGREATESTWORTH:mg "GREATEST_WORTH"=some (.int 1000000000 t.kGREATESTWORTH)
 cGREATESTMOMENT:mg "GREATEST_MOMENT"=some (.int 1000000000000 t.kGREATESTMOMENT)
 cMOSTATONCE:mg "MOST_AT_ONCE"=some (.int 300 t.kMOSTATONCE)
 cDEEDS:mg "DEEDS"=some (.ref t.kDEEDS)
 mdDEEDS:ModD w.params K t.kDEEDS
 nDEEDSset:PySem.W.nsIn K t.kDEEDS "set"=some (some (.ref t.adoset))
 nDEEDSorder:PySem.W.nsIn K t.kDEEDS "order"=some (some (.ref t.adoorder))
 nDEEDStimer:PySem.W.nsIn K t.kDEEDS "timer"=some (some (.ref t.adotimer))
 nDEEDSchild:PySem.W.nsIn K t.kDEEDS "child"=some (some (.ref t.adoorder))
 nDEEDSsend:PySem.W.nsIn K t.kDEEDS "send"=some (some (.ref t.adosend))
 nDEEDSdrop:PySem.W.nsIn K t.kDEEDS "drop"=some (some (.ref t.adodrop))
 nDEEDSwait:PySem.W.nsIn K t.kDEEDS "wait"=some (some (.ref t.adowait))
 nDEEDShear:PySem.W.nsIn K t.kDEEDS "hear"=some (some (.ref t.adohear))
 nDEEDSend:PySem.W.nsIn K t.kDEEDS "end"=some (some (.ref t.adoend))
 zbool:mg "bool"=none
 zdict:mg "dict"=none
 zint:mg "int"=none
 zisinstance:mg "isinstance"=none
 zlen:mg "len"=none
 zlist:mg "list"=none
 zmax:mg "max"=none
 zmin:mg "min"=none
 zrange:mg "range"=none
 ztuple:mg "tuple"=none
noncomputable abbrev Ok {P:Program} {w:World} {base:Heap} {K:PySem.W.Frag} {mg:Str→Option Value} {t:Ad} (_:Tx P w base K mg t) {x q:Str} {st:Stmt} {ns ps:List Str} {f:Addr} {d:FuncData} {M:Prop} (_:GfX K x q st ns ps f d M) (n:Nat) (sp:Sp):Prop:=FnOk P w K mg base CX0 n f d ps sp
theorem w_K {CX:CXT} {P:Program} {w:World} {K:PySem.W.Frag} {mg:Str→Option Value} {base:Heap} {N:List Str} {q:Str} {sc:Scope} {f:Addr} {cd:Value} {A:Around} {o:List Env} {s:Shared} {H:Hp} {E:XK}:(cxOf CX P w K mg base N q sc f cd A o s H E).K=K:=rfl
theorem w_Kn {CX:CXT} {P:Program} {w:World} {K:PySem.W.Frag} {mg:Str→Option Value} {base:Heap} {N:List Str} {q:Str} {sc:Scope} {f:Addr} {cd:Value} {A:Around} {o:List Env} {s:Shared} {H:Hp} {E:XK}:(cxOf CX P w K mg base N q sc f cd A o s H E).nox.K=K:=rfl
theorem small {n:Nat} (h:n≤1000):n≤sizeLine:=Nat.le_of_lt (small1000 h)
theorem mulOk {i j:Int} (h0:-(2 ^ 64) < i) (h1:i < 2 ^ 64):CMul i j:=.inl ⟨h0,h1⟩
structure RowAt (H:Hp) (r:Addr):Prop where
 ex:∃ c l f:Int,H r=some (.lst [.int c,.int l,.int f])∧0≤l∧l < 536870909
theorem RowAt.kp {S:List Addr} {H H':Hp} {r:Addr} (R:RowAt H r) (h:Kp S H H') (n:r∉S:=by first | exact List.not_mem_nil | simp_all):RowAt H' r:=by
 obtain ⟨c,l,f,e,x⟩:=R
 exact ⟨c,l,f,h _ _ e n,x⟩
theorem RowAt.new {H:Hp} {r p:Addr} {o:HO} (R:RowAt H r) (h:H p=none):RowAt (upd H p o) r:=R.kp (S:=[]) (Kp.new h)
theorem RowAt.ne {H:Hp} {r p:Addr} {o:HO} (R:RowAt H r) (h:H p=some o) (d:∀ a b c:V,o≠.lst [a,b,c]):p≠r:=by
 obtain ⟨c,l,f,e,_⟩:=R
 exact ne_of h e (d _ _ _)
theorem RowAt.none {H:Hp} {r p:Addr} (R:RowAt H r) (h:H p=Option.none):p≠r:=by
 obtain ⟨c,l,f,e,_⟩:=R
 exact (ne_of_none e h).symm
noncomputable def spTake:Sp:=fun vs H Q _=>∃(r:Addr) (m:Int),vs=[.ref r,.int m]∧0 < m∧m≤10 ^ 45∧RowAt H r ∧
 ∀(g:Int) (H':Hp),0≤g→g < m→RowAt H' r→Kp [r] H H'→Q (.int g) H'
theorem q_take {r:Addr} {m:Int} {H:Hp} {Q:VK} {E:XK}:spTake [.ref r,.int m] H Q E=(0 < m∧m≤10 ^ 45∧RowAt H r∧∀(g:Int) (H':Hp),0≤g→g < m→RowAt H' r→Kp [r] H H'→Q (.int g) H') :=
 propext ⟨fun ⟨_,_,e,h⟩=>by cases e;exact h,fun h=>⟨_,_,rfl,h⟩⟩
noncomputable def clamp (n:Int):Int:=if (if n < 1000000000 then n else 1000000000) > -1000000000 then (if n < 1000000000 then n else 1000000000) else -1000000000
noncomputable def spKept:Sp:=fun vs H Q _=>∃ n:Int,vs=[.int n]∧Q (.int (clamp n)) H
theorem q_kept {n:Int} {H:Hp} {Q:VK} {E:XK}:spKept [.int n] H Q E=Q (.int (clamp n)) H:=propext ⟨fun ⟨_,e,h⟩=>by cases e;exact h,fun h=>⟨_,rfl,h⟩⟩
theorem clamp_in (n:Int):-1000000000≤clamp n∧clamp n≤1000000000:=by
 unfold clamp
 repeat' split
 all_goals omega
noncomputable abbrev Wo:=Option Int
noncomputable def wv:Wo→V
 | none=>.non
 | some n=>.int n
noncomputable def num (w:Wo):Int:=w.getD 0
noncomputable def wk:Wo→Key
 | none=>.no
 | some n=>.inl n
noncomputable def isWo (w:Wo):Prop:=∀ n,w=some n→-1000000000≤n∧n≤1000000000
theorem wv_inj {a b:Wo} (h:wv a=wv b):a=b:=by cases a<;>cases b<;>simp_all [wv]
theorem wk_key (w:Wo):keyO (wv w)=some (wk w):=by cases w<;>rfl
theorem wv_non (w:Wo):(wv w=.non)=(w=none):=by cases w<;>simp [wv]
theorem wv_flat (w:Wo):flatV (wv w)=true:=by cases w<;>rfl
theorem isWo_non:isWo none:=fun _ h=>nomatch h
theorem isWo_int {n:Int} (h0:-1000000000≤n) (h1:n≤1000000000):isWo (some n):=fun m h=>by cases h;exact ⟨h0,h1⟩
theorem isWo_num {w:Wo} (h:isWo w):-1000000000≤num w∧num w≤1000000000:=by
 cases w with
 | none=>exact ⟨by decide,by decide⟩
 | some n=>exact h n rfl
noncomputable def spNum:Sp:=fun vs H Q _=>∃ w:Wo,vs=[wv w]∧Q (.int (num w)) H
theorem q_num {w:Wo} {H:Hp} {Q:VK} {E:XK}:spNum [wv w] H Q E=Q (.int (num w)) H :=
 propext ⟨fun ⟨u,e,h⟩=>by simp only [List.cons.injEq,and_true] at e;rw [wv_inj e];exact h,fun h=>⟨w,rfl,h⟩⟩
noncomputable def spOne:Sp:=fun vs H Q _=>∃ b:Bool,vs=[.bl b]∧Q (.int (if b=true then 1 else 0)) H
theorem q_one {b:Bool} {H:Hp} {Q:VK} {E:XK}:spOne [.bl b] H Q E=Q (.int (if b=true then 1 else 0)) H :=
 propext ⟨fun ⟨u,e,h⟩=>by cases e;exact h,fun h=>⟨b,rfl,h⟩⟩
inductive Sg where
 | add | sub | mul | lt | eq
noncomputable def Sg.s:Sg→Str
 | .add=>"+" | .sub=>"-" | .mul=>"*" | .lt=>"<" | .eq=>"="
noncomputable def Sg.of (g:Sg) (a b:Wo):Int :=
 match g with
 | .add=>clamp (num a+num b) | .sub=>clamp (num a - num b) | .mul=>clamp (num a * num b) | .lt=>if num a < num b then 1 else 0 | .eq=>if a=b then 1 else 0
theorem Sg.of_in (g:Sg) (a b:Wo):-1000000000≤g.of a b∧g.of a b≤1000000000:=by
 cases g
 ·exact clamp_in _
 ·exact clamp_in _
 ·exact clamp_in _
 ·show -1000000000≤(if num a < num b then (1:Int) else 0)∧(if num a < num b then (1:Int) else 0)≤1000000000
  split<;>decide
 ·show -1000000000≤(if a=b then (1:Int) else 0)∧(if a=b then (1:Int) else 0)≤1000000000
  split<;>decide
inductive spJoined (vs:List V) (H:Hp) (Q:VK) (E:XK):Prop
 | mk (g:Sg) (a b:Wo) (_:vs=[.str g.s,wv a,wv b]) (_:isWo a) (_:Q (.int (g.of a b)) H):spJoined vs H Q E
inductive Say where
 | num (n:Int) | non | name (x:Str) | arg | now | ans (s:Say) | neg (s:Say) | two (g:Sg) (a b:Say)
inductive SayAt (H:Hp):V→Say→Prop
 | num {a:Addr} {n:Int}:H a=some (.tup [.str "number",.int n])→SayAt H (.ref a) (.num n)
 | non {a:Addr}:H a=some (.tup [.str "none"])→SayAt H (.ref a) .non
 | name {a:Addr} {x:Str}:H a=some (.tup [.str "name",.str x])→SayAt H (.ref a) (.name x)
 | arg {a:Addr}:H a=some (.tup [.str "arg"])→SayAt H (.ref a) .arg
 | now {a:Addr}:H a=some (.tup [.str "now"])→SayAt H (.ref a) .now
 | ans {a:Addr} {v:V} {s:Say}:H a=some (.tup [.str "answer",v])→SayAt H v s→SayAt H (.ref a) (.ans s)
 | neg {a:Addr} {v:V} {s:Say}:H a=some (.tup [.str "not",v])→SayAt H v s→SayAt H (.ref a) (.neg s)
 | two {a:Addr} {v u:V} {g:Sg} {s r:Say}:H a=some (.tup [.str g.s,v,u])→SayAt H v s→SayAt H u r→SayAt H (.ref a) (.two g s r)
noncomputable def TupKp (H H':Hp):Prop:=∀ a xs,H a=some (.tup xs)→H' a=some (.tup xs)
theorem SayAt.kp {H H':Hp} {v:V} {s:Say} (h:SayAt H v s) (k:TupKp H H'):SayAt H' v s:=by
 induction h with
 | num e=>exact .num (k _ _ e)
 | non e=>exact .non (k _ _ e)
 | name e=>exact .name (k _ _ e)
 | arg e=>exact .arg (k _ _ e)
 | now e=>exact .now (k _ _ e)
 | ans e _ ih=>exact .ans (k _ _ e) ih
 | neg e _ ih=>exact .neg (k _ _ e) ih
 | two e _ _ i1 i2=>exact .two (k _ _ e) i1 i2
theorem TupKp.of {S:List Addr} {H H':Hp} (k:Kp S H H') (h:∀ a∈S,∃ o,H a=some o∧∀ xs,o≠.tup xs):TupKp H H':=fun a xs e=>k a _ e fun z=>by
 obtain ⟨o,e',d⟩:=h a z
 rw [e] at e'
 exact d xs (Option.some.inj e').symm
theorem TupKp.new {H:Hp} {p:Addr} {o:HO} (h:H p=none):TupKp H (upd H p o):=fun a xs e=>by rw [upd_ne (ne_of_none e h)];exact e
theorem TupKp.trans {H H1 H2:Hp} (a:TupKp H H1) (b:TupKp H1 H2):TupKp H H2:=fun x xs e=>b x xs (a x xs e)
theorem TupKp.row {r:Addr} {H H':Hp} (k:Kp [r] H H') (R:RowAt H r):TupKp H H':=.of k fun a ha=>by
 obtain ⟨c,l,f,e,_⟩:=R
 have:a=r:=by simpa using ha
 exact ⟨_,this ▸ e,fun _ h=>by cases h⟩
noncomputable def Say.depth:Say→Nat
 | .ans s=>s.depth+1 | .neg s=>s.depth+1 | .two _ a b=>max a.depth b.depth+1 | .num _=>1 | .non=>1 | .name _=>1 | .arg=>1 | .now=>1
noncomputable def Say.ok:Say→Prop
 | .num n=>-1000000000≤n∧n≤1000000000 | .ans s=>s.ok | .neg s=>s.ok | .two _ a b=>a.ok∧b.ok | _=>True
theorem Say.depth_pos (s:Say):1≤s.depth:=by cases s<;>simp [Say.depth]
structure Pl where
 nm:Str→Wo
 ar:Wo
 now:Int
 an:Wo→Wo
structure Pl.Ok (p:Pl):Prop where
 nm:∀ x,isWo (p.nm x)
 ar:isWo p.ar
 an:∀ w,isWo (p.an w)
noncomputable def ev (p:Pl):Say→Wo
 | .num n=>some n
 | .non=>none
 | .name x=>p.nm x
 | .arg=>p.ar
 | .now=>some (clamp p.now)
 | .ans s=>p.an (ev p s)
 | .neg s=>some (if num (ev p s)=0 then 1 else 0)
 | .two g a b=>some (g.of (ev p a) (ev p b))
theorem ev_wo {p:Pl} (hp:p.Ok):∀ {s:Say},s.ok→isWo (ev p s)
 | .num n,h=>isWo_int h.1 h.2
 | .non,_=>isWo_non
 | .name x,_=>hp.nm x
 | .arg,_=>hp.ar
 | .now,_=>isWo_int (clamp_in _).1 (clamp_in _).2
 | .ans s,_=>hp.an _
 | .neg s,_=>by
  show isWo (some (if num (ev p s)=0 then 1 else 0))
  split<;>exact isWo_int (by decide) (by decide)
 | .two g a b,_=>isWo_int (g.of_in _ _).1 (g.of_in _ _).2
noncomputable def NmAt (H:Hp) (d:Addr) (f:Str→Wo):Prop:=∃ kvs,H d=some (.dK kvs)∧∀ x,(valV kvs (.inr x)).getD .non=wv (f x)
noncomputable def AnAt (H:Hp) (d:Addr) (f:Wo→Wo):Prop:=∃ kvs,H d=some (.dK kvs)∧∀ w,(valV kvs (wk w)).getD .non=wv (f w)
inductive spWo (d:Nat) (vs:List V) (H:Hp) (Q:VK) (E:XK):Prop
 | mk (v:V) (dn da:Addr) (p:Pl) (s:Say) (_:vs=[v,.ref dn,wv p.ar,.int p.now,.ref da]) (_:SayAt H v s) (_:s.depth≤d) (_:s.ok) (_:NmAt H dn p.nm) (_:AnAt H da p.an) (_:p.Ok) (_:Q (wv (ev p s)) H):spWo d vs H Q E
inductive Stm where
 | set (x:Str) (s:Say) | order (x y:Str) (s:Say) | timer (x:Str) (s:Say) | child (x y:Str) (s:Say) | send (s:Say) (k:Str) (r:Say) | drop (s:Say)
 | wait (x:Str) (ss:List Say) | hear (x k:Str) | fin (s:Say) | whl (s:Say) (b:List Stm) | iff (s:Say) (b o:List Stm)
inductive SaysAt (H:Hp):List V→List Say→Prop
 | nil:SaysAt H [] []
 | cons {v:V} {vs:List V} {s:Say} {ss:List Say}:SayAt H v s→SaysAt H vs ss→SaysAt H (v::vs) (s::ss)
theorem SaysAt.kp {H H':Hp} {vs:List V} {ss:List Say} (h:SaysAt H vs ss) (k:TupKp H H'):SaysAt H' vs ss:=by
 induction h with
 | nil=>exact .nil
 | cons a _ ih=>exact .cons (a.kp k) ih
mutual
inductive StmAt (H:Hp):V→Stm→Prop
 | set {a:Addr} {x:Str} {v:V} {s:Say}:H a=some (.tup [.str "set",.str x,v])→SayAt H v s→StmAt H (.ref a) (.set x s)
 | order {a:Addr} {x y:Str} {v:V} {s:Say}:H a=some (.tup [.str "order",.str x,.str y,v])→SayAt H v s→StmAt H (.ref a) (.order x y s)
 | timer {a:Addr} {x:Str} {v:V} {s:Say}:H a=some (.tup [.str "timer",.str x,v])→SayAt H v s→StmAt H (.ref a) (.timer x s)
 | child {a:Addr} {x y:Str} {v:V} {s:Say}:H a=some (.tup [.str "child",.str x,.str y,v])→SayAt H v s→StmAt H (.ref a) (.child x y s)
 | send {a:Addr} {k:Str} {v u:V} {s r:Say}:H a=some (.tup [.str "send",v,.str k,u])→SayAt H v s→SayAt H u r→StmAt H (.ref a) (.send s k r)
 | drop {a:Addr} {v:V} {s:Say}:H a=some (.tup [.str "drop",v])→SayAt H v s→StmAt H (.ref a) (.drop s)
 | wait {a p:Addr} {x:Str} {vs:List V} {ss:List Say}:H a=some (.tup [.str "wait",.str x,.ref p])→H p=some (.tup vs)→SaysAt H vs ss→StmAt H (.ref a) (.wait x ss)
 | hear {a:Addr} {x k:Str}:H a=some (.tup [.str "hear",.str x,.str k])→StmAt H (.ref a) (.hear x k)
 | fin {a:Addr} {v:V} {s:Say}:H a=some (.tup [.str "end",v])→SayAt H v s→StmAt H (.ref a) (.fin s)
 | whl {a p:Addr} {v:V} {s:Say} {vs:List V} {b:List Stm}:H a=some (.tup [.str "while",v,.ref p])→SayAt H v s→H p=some (.tup vs)→StmsAt H vs b→StmAt H (.ref a) (.whl s b)
 | iff {a p q:Addr} {v:V} {s:Say} {vs us:List V} {b o:List Stm}:H a=some (.tup [.str "if",v,.ref p,.ref q])→SayAt H v s→H p=some (.tup vs)→StmsAt H vs b→H q=some (.tup us)→StmsAt H us o→StmAt H (.ref a) (.iff s b o)
inductive StmsAt (H:Hp):List V→List Stm→Prop
 | nil:StmsAt H [] []
 | cons {v:V} {vs:List V} {x:Stm} {xs:List Stm}:StmAt H v x→StmsAt H vs xs→StmsAt H (v::vs) (x::xs)
end
theorem StmAt.kp {H H':Hp} (k:TupKp H H') {v:V} {m:Stm} (h:StmAt H v m):StmAt H' v m :=
 StmAt.rec (motive_1:=fun v m _=>StmAt H' v m) (motive_2:=fun vs ms _=>StmsAt H' vs ms)
  (fun e s=>.set (k _ _ e) (s.kp k)) (fun e s=>.order (k _ _ e) (s.kp k)) (fun e s=>.timer (k _ _ e) (s.kp k)) (fun e s=>.child (k _ _ e) (s.kp k))
  (fun e s r=>.send (k _ _ e) (s.kp k) (r.kp k)) (fun e s=>.drop (k _ _ e) (s.kp k)) (fun e f s=>.wait (k _ _ e) (k _ _ f) (s.kp k)) (fun e=>.hear (k _ _ e)) (fun e s=>.fin (k _ _ e) (s.kp k))
  (fun e s f _ b=>.whl (k _ _ e) (s.kp k) (k _ _ f) b) (fun e s f _ f' _ b b'=>.iff (k _ _ e) (s.kp k) (k _ _ f) b (k _ _ f') b') .nil (fun _ _ a b=>.cons a b) h
theorem StmsAt.kp {H H':Hp} (k:TupKp H H') {vs:List V} {ms:List Stm} (h:StmsAt H vs ms):StmsAt H' vs ms :=
 StmsAt.rec (motive_1:=fun v m _=>StmAt H' v m) (motive_2:=fun vs ms _=>StmsAt H' vs ms)
  (fun e s=>.set (k _ _ e) (s.kp k)) (fun e s=>.order (k _ _ e) (s.kp k)) (fun e s=>.timer (k _ _ e) (s.kp k)) (fun e s=>.child (k _ _ e) (s.kp k))
  (fun e s r=>.send (k _ _ e) (s.kp k) (r.kp k)) (fun e s=>.drop (k _ _ e) (s.kp k)) (fun e f s=>.wait (k _ _ e) (k _ _ f) (s.kp k)) (fun e=>.hear (k _ _ e)) (fun e s=>.fin (k _ _ e) (s.kp k))
  (fun e s f _ b=>.whl (k _ _ e) (s.kp k) (k _ _ f) b) (fun e s f _ f' _ b b'=>.iff (k _ _ e) (s.kp k) (k _ _ f) b (k _ _ f') b') .nil (fun _ _ a b=>.cons a b) h
mutual
noncomputable def Stm.dp:Stm→Nat
 | .whl _ b=>dpL b+1
 | .iff _ b o=>max (dpL b) (dpL o)+1
 | .set _ _=>0
 | .order _ _ _=>0
 | .timer _ _=>0
 | .child _ _ _=>0
 | .send _ _ _=>0
 | .drop _=>0
 | .wait _ _=>0
 | .hear _ _=>0
 | .fin _=>0
noncomputable def dpL:List Stm→Nat
 | []=>0
 | m::ms=>max m.dp (dpL ms)
end
theorem StmsAt.at {H:Hp} {vs:List V} {ms:List Stm} (h:StmsAt H vs ms):∀ {i:Nat} {x:V},vs[i]?=some x→∃ m,ms[i]?=some m∧StmAt H x m:=by
 induction ms generalizing vs with
 | nil=>cases h;intro i x e;simp at e
 | cons m ms ih =>
  cases h with
  | cons a b =>
   intro i x e
   cases i with
   | zero=>simp only [List.getElem?_cons_zero,Option.some.injEq] at e;subst e;exact ⟨_,rfl,a⟩
   | succ i=>exact ih b (by simpa using e)
theorem StmsAt.len {H:Hp} {vs:List V} {ms:List Stm} (h:StmsAt H vs ms):ms.length=vs.length:=by
 induction ms generalizing vs with
 | nil=>cases h;rfl
 | cons m ms ih =>
  cases h with
  | cons a b=>simp [ih b]
theorem NmAt.kp {H H':Hp} {S:List Addr} {d:Addr} {f:Str→Wo} (h:NmAt H d f) (k:Kp S H H') (n:d∉S):NmAt H' d f:=by
 obtain ⟨kvs,e,q⟩:=h
 exact ⟨kvs,k _ _ e n,q⟩
theorem AnAt.kp {H H':Hp} {S:List Addr} {d:Addr} {f:Wo→Wo} (h:AnAt H d f) (k:Kp S H H') (n:d∉S):AnAt H' d f:=by
 obtain ⟨kvs,e,q⟩:=h
 exact ⟨kvs,k _ _ e n,q⟩
theorem in_nought (w:Wo):inV (wv w) [.non,.int 0]=decide (num w=0):=by
 cases w with
 | none=>rfl
 | some n =>
  by_cases h:n=0
  ·subst h
   rfl
  ·have h':¬ (0=n):=fun z=>h z.symm
   simp [inV,wv,eqV,num,h,h']
theorem flat01:([.non,.int 0]:List V).all flatV=true:=by decide
theorem TupKp.nil {H H':Hp} (k:Kp [] H H'):TupKp H H':=fun a xs e=>k a _ e (by simp)
theorem _root_.L2.Kp.set1J {a:Addr} {H:Hp} {o:HO}:Kp [a] H (upd H a o):=Kp.set (by simp)
noncomputable def pendK (pend:List Int):List (Key×V):=pend.map fun i=>(.inl i,.bl true)
noncomputable def ansK (ans:List (Int×Wo)):List (Key×V):=ans.map fun p=>(.inl p.1,wv p.2)
structure TkAt (C:Addr) (H:Hp) (tk tx dp da:Addr) (made:Nat) (pend:List Int) (ans:List (Int×Wo)):Prop where
 ins:H tk=some (.ins C tx [("made",.int made),("pending",.ref dp),("answers",.ref da)])
 hp:H dp=some (.dK (pendK pend))
 ha:H da=some (.dK (ansK ans))
 nda:dp≠da
 lt:∀ i∈pend,0≤i∧i < made
 asc:pend.Pairwise (· < ·)
 la:∀ p∈ans,0≤p.1∧p.1 < made
 dis:∀ p∈ans,p.1∉pend
 small:made≤1000000
theorem TkAt.n1 {C:Addr} {H:Hp} {tk tx dp da:Addr} {made:Nat} {pend:List Int} {ans:List (Int×Wo)} (T:TkAt C H tk tx dp da made pend ans):tk≠dp∧tk≠da:=⟨ne_of T.ins T.hp (by intro z;cases z),ne_of T.ins T.ha (by intro z;cases z)⟩
theorem TkAt.kp {C:Addr} {H H':Hp} {tk tx dp da:Addr} {made:Nat} {pend:List Int} {ans:List (Int×Wo)} (T:TkAt C H tk tx dp da made pend ans) (k:Kp [] H H'):TkAt C H' tk tx dp da made pend ans :=
 ⟨k.at T.ins,k.at T.hp,k.at T.ha,T.nda,T.lt,T.asc,T.la,T.dis,T.small⟩
theorem pend_val (pend:List Int) (w:Wo):(valV (pendK pend) (wk w)).isSome=decide (∃ i∈pend,w=some i):=by
 induction pend with
 | nil=>simp [pendK,valV_nil]
 | cons i r ih =>
  have e:pendK (i::r)=(Key.inl i,V.bl true)::pendK r:=rfl
  rw [e]
  by_cases h:w=some i
  ·subst h
   rw [show wk (some i)=Key.inl i from rfl,valV_pos rfl]
   simp
  ·rw [valV_neg (fun z=>h (by cases w with
    | none=>cases z
    | some j=>cases z;rfl)),ih]
   simp [h]
theorem pend_drop (pend:List Int) (i:Int):dropK (pendK pend) (.inl i)=pendK (pend.filter fun j=>decide (j≠i)):=by
 unfold dropK pendK
 rw [List.filter_map]
 congr 1
 apply List.filter_congr
 intro j _
 simp
theorem pend_none {pend:List Int} {i:Int} (h:i∉pend):valV (pendK pend) (.inl i)=none:=by
 have:=pend_val pend (some i)
 rw [show decide (∃ j∈pend,some i=some j)=false by simp [h]] at this
 cases e:valV (pendK pend) (.inl i) with
 | none=>rfl
 | some v=>rw [show wk (some i)=.inl i from rfl,e] at this;cases this
theorem pend_some {pend:List Int} {i:Int} (h:i∈pend):∃ v,valV (pendK pend) (.inl i)=some v:=by
 have:=pend_val pend (some i)
 rw [show decide (∃ j∈pend,some i=some j)=true by simpa using h] at this
 exact Option.isSome_iff_exists.mp this
theorem ans_none {ans:List (Int×Wo)} {i:Int} (h:∀ p∈ans,p.1≠i):valV (ansK ans) (.inl i)=none:=by
 induction ans with
 | nil=>rfl
 | cons p r ih =>
  have e:ansK (p::r)=(Key.inl p.1,wv p.2)::ansK r:=rfl
  rw [e,valV_neg (fun z=>h p (by simp) (by cases z;rfl)),ih fun q hq=>h q (List.mem_cons_of_mem _ hq)]
inductive spTkInit (C:Addr) (vs:List V) (H:Hp) (Q:VK) (E:XK):Prop
 | mk (x dx:Addr) (_:vs=[.ref x]) (_:H x=some (.ins C dx [])) (_:∀(dp da:Addr) (H':Hp),H dp=none→H da=none→TkAt C H' x dx dp da 0 [] []→Kp [x] H H'→Q .non H'):spTkInit C vs H Q E
inductive spTkMake (C:Addr) (vs:List V) (H:Hp) (Q:VK) (E:XK):Prop
 | mk (tk tx dp da:Addr) (made:Nat) (pend:List Int) (ans:List (Int×Wo)) (_:vs=[.ref tk]) (_:TkAt C H tk tx dp da made pend ans) (_:made < 1000000) (_:pend.length < 1000000) (_:∀ H',TkAt C H' tk tx dp da (made+1) (pend++[(made:Int)]) ans→Kp [tk,dp] H H'→Q (.int made) H'):spTkMake C vs H Q E
inductive spTkOpen (C:Addr) (vs:List V) (H:Hp) (Q:VK) (E:XK):Prop
 | mk (tk tx dp da:Addr) (made:Nat) (pend:List Int) (ans:List (Int×Wo)) (w:Wo) (_:vs=[.ref tk,wv w]) (_:TkAt C H tk tx dp da made pend ans) (_:Q (.bl (decide (∃ i∈pend,w=some i))) H):spTkOpen C vs H Q E
inductive spTkShut (C:Addr) (vs:List V) (H:Hp) (Q:VK) (E:XK):Prop
 | mk (tk tx dp da:Addr) (made:Nat) (pend:List Int) (ans:List (Int×Wo)) (i:Int) (_:vs=[.ref tk,.int i]) (_:TkAt C H tk tx dp da made pend ans) (_:i∈pend) (_:∀ H',TkAt C H' tk tx dp da made (pend.filter fun j=>decide (j≠i)) ans→Kp [dp] H H'→Q .non H'):spTkShut C vs H Q E
inductive spTkFinish (C:Addr) (vs:List V) (H:Hp) (Q:VK) (E:XK):Prop
 | mk (tk tx dp da:Addr) (made:Nat) (pend:List Int) (ans:List (Int×Wo)) (i:Int) (w:Wo) (_:vs=[.ref tk,.int i,wv w]) (_:TkAt C H tk tx dp da made pend ans) (_:i∈pend) (_:ans.length < 1000000) (_:∀ H',TkAt C H' tk tx dp da made (pend.filter fun j=>decide (j≠i)) (ans++[(i,w)])→Kp [dp,da] H H'→Q .non H'):spTkFinish C vs H Q E
inductive spTkAll (C:Addr) (vs:List V) (H:Hp) (Q:VK) (E:XK):Prop
 | mk (tk tx dp da:Addr) (made:Nat) (pend:List Int) (ans:List (Int×Wo)) (_:vs=[.ref tk]) (_:TkAt C H tk tx dp da made pend ans) (_:∀ H',TkAt C H' tk tx dp da made [] ans→Kp [dp] H H'→Q .non H'):spTkAll C vs H Q E
noncomputable abbrev Stk:=List (Nat×List Stm×Nat)
noncomputable def numsOf:Stk→List Int
 | []=>[]
 | [(_,_,n)]=>[(n:Int)]
 | (k,_,n)::r=>numsOf r++[(k:Int),(n:Int)]
inductive BlksAt (H:Hp):List V→Stk→Prop
 | one {p:Addr} {us:List V} {k n:Nat} {b:List Stm}:H p=some (.tup us)→StmsAt H us b→BlksAt H [.ref p] [(k,b,n)]
 | cons {p:Addr} {us vs:List V} {k n:Nat} {b:List Stm} {r:Stk}:BlksAt H vs r→H p=some (.tup us)→StmsAt H us b→BlksAt H (vs++[.ref p]) ((k,b,n)::r)
theorem BlksAt.kp {H H':Hp} {vs:List V} {st:Stk} (h:BlksAt H vs st) (k:TupKp H H'):BlksAt H' vs st:=by
 induction h with
 | one e s=>exact .one (k _ _ e) (s.kp k)
 | cons _ e s ih=>exact .cons ih (k _ _ e) (s.kp k)
theorem BlksAt.len {H:Hp} {vs:List V} {st:Stk} (h:BlksAt H vs st):vs.length=st.length∧1≤st.length:=by
 induction h with
 | one=>exact ⟨rfl,Nat.le_refl _⟩
 | cons _ _ _ ih=>simp [ih.1]
theorem BlksAt.last {H:Hp} {vs:List V} {k n:Nat} {b:List Stm} {r:Stk} (h:BlksAt H vs ((k,b,n)::r)):∃(ws:List V) (p:Addr) (us:List V),vs=ws++[.ref p]∧H p=some (.tup us)∧StmsAt H us b∧(r≠[]→BlksAt H ws r)∧(r=[]→ws=[]):=by
 cases h with
 | one e s=>exact ⟨[],_,_,rfl,e,s,fun z=>absurd rfl z,fun _=>rfl⟩
 | @cons p us vs k n b r hr e s=>exact ⟨vs,_,_,rfl,e,s,fun _=>hr,fun z=>by subst z;cases hr⟩
theorem BlksAt.turn {H:Hp} {vs:List V} {k n n':Nat} {b:List Stm} {r:Stk} (h:BlksAt H vs ((k,b,n)::r)):BlksAt H vs ((k,b,n')::r):=by
 cases h with
 | one e s=>exact .one e s
 | cons hr e s=>exact .cons hr e s
theorem nums_last (k n:Nat) (b:List Stm) (r:Stk):∃ l,numsOf ((k,b,n)::r)=l++[(n:Int)]∧∀ n',numsOf ((k,b,n')::r)=l++[((n':Nat):Int)]:=by
 cases r with
 | nil=>exact ⟨[],rfl,fun _=>rfl⟩
 | cons x r=>exact ⟨numsOf (x::r)++[(k:Int)],by simp [numsOf],fun n'=>by simp [numsOf]⟩
theorem nums_push (k:Nat) (b:List Stm) (n:Nat) (x:Nat×List Stm×Nat) (r:Stk):numsOf ((k,b,n)::x::r)=numsOf (x::r)++[(k:Int),(n:Int)]:=rfl
structure WkAt (C:Addr) (H:Hp) (wk wx lb ln:Addr) (st:Stk):Prop where
 ins:H wk=some (.ins C wx [("blocks",.ref lb),("numbers",.ref ln)])
 bl:∃ vs,H lb=some (.lst vs)∧BlksAt H vs st
 nu:H ln=some (.lst ((numsOf st).map V.int))
 ne:lb≠ln
 few:st.length≤100
theorem WkAt.kp {C:Addr} {H H':Hp} {wk wx lb ln:Addr} {st:Stk} (W:WkAt C H wk wx lb ln st) (k:Kp [] H H'):WkAt C H' wk wx lb ln st:=by
 obtain ⟨vs,e,h⟩:=W.bl
 exact ⟨k.at W.ins,⟨vs,k.at e,h.kp (TupKp.nil k)⟩,k.at W.nu,W.ne,W.few⟩
noncomputable def passBy:Stk→Stk
 | (k,b,n)::r=>(k,b,n+1)::r
 | []=>[]
inductive spWkStands (C:Addr) (vs:List V) (H:Hp) (Q:VK) (E:XK):Prop
 | mk (wk wx lb ln:Addr) (k n:Nat) (b:List Stm) (r:Stk) (m:Stm) (_:vs=[.ref wk]) (_:WkAt C H wk wx lb ln ((k,b,n)::r)) (_:b[n]?=some m) (_:∀ v,StmAt H v m→Q v H):spWkStands C vs H Q E
inductive spWkPass (C:Addr) (vs:List V) (H:Hp) (Q:VK) (E:XK):Prop
 | mk (wk wx lb ln:Addr) (k n:Nat) (b:List Stm) (r:Stk) (_:vs=[.ref wk]) (_:WkAt C H wk wx lb ln ((k,b,n)::r)) (_:∀ H',WkAt C H' wk wx lb ln ((k,b,n+1)::r)→Kp [ln] H H'→Q .non H'):spWkPass C vs H Q E
inductive spWkInit (C:Addr) (vs:List V) (H:Hp) (Q:VK) (E:XK):Prop
 | mk (x dx p:Addr) (us:List V) (b:List Stm) (_:vs=[.ref x,.ref p]) (_:H x=some (.ins C dx [])) (_:H p=some (.tup us)) (_:StmsAt H us b) (_:∀(lb ln:Addr) (H':Hp),H lb=none→H ln=none→WkAt C H' x dx lb ln [(0,b,0)]→Kp [x] H H'→Q .non H'):spWkInit C vs H Q E
noncomputable def Stm.sub:Stm→Nat→Option (List Stm)
 | .whl _ b,0=>some b
 | .iff _ b _,0=>some b
 | .iff _ _ o,1=>some o
 | _,_=>none
noncomputable def Stm.isIf:Stm→Bool
 | .iff _ _ _=>true
 | _=>false
inductive spWkEnter (C:Addr) (vs:List V) (H:Hp) (Q:VK) (E:XK):Prop
 | mk (wk wx lb ln:Addr) (k n c:Nat) (b bb:List Stm) (r:Stk) (m:Stm) (_:vs=[.ref wk,.int c]) (_:WkAt C H wk wx lb ln ((k,b,n)::r)) (_:b[n]?=some m) (_:m.sub c=some bb) (_:r.length≤90) (_:∀ H',WkAt C H' wk wx lb ln ((c,bb,0)::(k,b,n)::r)→Kp [lb,ln] H H'→Q .non H'):spWkEnter C vs H Q E
inductive spWkLeave (C:Addr) (vs:List V) (H:Hp) (Q:VK) (E:XK):Prop
 | mk (wk wx lb ln:Addr) (k n:Nat) (b:List Stm) (x:Nat×List Stm×Nat) (r:Stk) (m:Stm) (_:vs=[.ref wk]) (_:WkAt C H wk wx lb ln (x::(k,b,n)::r)) (_:b[n]?=some m) (_:∀ H',WkAt C H' wk wx lb ln ((k,b,if m.isIf=true then n+1 else n)::r)→Kp [lb,ln] H H'→Q .non H'):spWkLeave C vs H Q E
theorem StmAt.subAt {H:Hp} {v:V} {m:Stm} {c:Nat} {bb:List Stm} (h:StmAt H v m) (hs:m.sub c=some bb):∃(a p:Addr) (xs us:List V),v=.ref a∧H a=some (.tup xs)∧atI xs (2+(c:Int))=some (.ref p)∧H p=some (.tup us)∧StmsAt H us bb:=by
 cases h with
 | @whl a p v s vs b e h1 f hb =>
  match c,hs with
  | 0,hs=>cases hs;exact ⟨a,p,_,vs,rfl,e,rfl,f,hb⟩
 | @iff a p q v s vs us b o e h1 f hb f2 hb2 =>
  match c,hs with
  | 0,hs=>cases hs;exact ⟨a,p,_,vs,rfl,e,rfl,f,hb⟩
  | 1,hs=>cases hs;exact ⟨a,q,_,us,rfl,e,rfl,f2,hb2⟩
 | _=>cases hs
theorem StmAt.kind0 {H:Hp} {v:V} {m:Stm} (h:StmAt H v m):∃(a:Addr) (x:String) (xs:List V),v=.ref a∧H a=some (.tup (.str (Str.ofString x)::xs))∧decide (x = "if")=m.isIf:=by
 cases h<;>exact ⟨_,_,_,rfl,by assumption,rfl⟩
theorem TupKp.setL {H:Hp} {l:Addr} {xs ys:List V} (e:H l=some (.lst xs)):TupKp H (upd H l (.lst ys)):=fun a zs h=>by
 rw [upd_ne (ne_of h e (by intro z;cases z))]
 exact h
theorem nums_len:∀ st:Stk,(numsOf st).length≤2 * st.length
 | []=>by simp [numsOf]
 | [(_,_,n)]=>by simp [numsOf]
 | (k,b,n)::x::r=>by
  have:=nums_len (x::r)
  rw [nums_push,List.length_append]
  simp only [List.length_cons,List.length_nil] at this ⊢
  omega
theorem last_snoc {α:Type} (l:List α) (x:α):(l++[x])[(l++[x]).length - 1]?=some x:=by simp
theorem TupKp.tr {H H1 H2:Hp} (a:TupKp H H1) (b:TupKp H1 H2):TupKp H H2:=fun c xs e=>b c xs (a c xs e)
noncomputable def offIf (b:List Stm) (n:Nat):Nat:=match b[n]? with
 | some m=>if m.isIf=true then n+1 else n
 | none=>n
noncomputable def comeTo:Stk→Stk
 | (k,b,n)::(k2,b2,n2)::r=>if n=b.length then comeTo ((k2,b2,offIf b2 n2)::r) else (k,b,n)::(k2,b2,n2)::r
 | st=>st
termination_by st=>st.length
noncomputable def StkOk:Stk→Prop
 | []=>False
 | (_,b,n)::r=>n≤b.length∧∀ x∈r,x.2.2 < x.2.1.length
noncomputable def stand:Stk→Option Stm
 | (_,b,n)::_=>b[n]?
 | []=>none
theorem offIf_le {b:List Stm} {n:Nat} (h:n < b.length):offIf b n≤b.length:=by
 unfold offIf
 split
 ·split<;>omega
 ·omega
inductive spWkCome (C:Addr) (vs:List V) (H:Hp) (Q:VK) (E:XK):Prop
 | mk (wk wx lb ln:Addr) (st:Stk) (_:vs=[.ref wk]) (_:WkAt C H wk wx lb ln st) (_:StkOk st) (_:(∀ H',WkAt C H' wk wx lb ln (comeTo st)→StkOk (comeTo st)→stand (comeTo st)=none→Kp [lb,ln] H H'→Q .non H')) (_:∀(m:Stm) (v:V) (H':Hp),WkAt C H' wk wx lb ln (comeTo st)→StkOk (comeTo st)→stand (comeTo st)=some m→StmAt H' v m→Kp [lb,ln] H H'→Q v H'):spWkCome C vs H Q E
noncomputable abbrev Cmds:=List (List V)
inductive CsAt (H:Hp):List V→Cmds→Prop
 | nil:CsAt H [] []
 | cons {a:Addr} {c:List V} {us:List V} {cs:Cmds}:H a=some (.tup c)→CsAt H us cs→CsAt H (.ref a::us) (c::cs)
theorem CsAt.kt {H H':Hp} {us:List V} {cs:Cmds} (h:CsAt H us cs) (k:TupKp H H'):CsAt H' us cs:=by
 induction h with
 | nil=>exact .nil
 | cons a _ ih=>exact .cons (k _ _ a) ih
theorem CsAt.len {H:Hp} {us:List V} {cs:Cmds} (h:CsAt H us cs):us.length=cs.length:=by
 induction h with
 | nil=>rfl
 | cons _ _ ih=>simp [ih]
theorem CsAt.app {H:Hp} {us vs:List V} {ps qs:Cmds} (h:CsAt H us ps) (g:CsAt H vs qs):CsAt H (us++vs) (ps++qs):=by
 induction h with
 | nil=>exact g
 | cons e _ ih=>exact .cons e ih
theorem CsAt.at {H:Hp} {us:List V} {cs:Cmds} (h:CsAt H us cs):∀ {i:Nat} {v:V},us[i]?=some v→∃ a c,v=.ref a∧cs[i]?=some c∧H a=some (.tup c):=by
 induction h with
 | nil=>intro i v e;simp at e
 | cons x _ ih =>
  intro i v e
  cases i with
  | zero=>simp only [List.getElem?_cons_zero,Option.some.injEq] at e;subst e;exact ⟨_,_,rfl,rfl,x⟩
  | succ i=>exact ih (by simpa using e)
inductive Slp where
 | non | new | wait (ts:List Int) | hear (k:Str) | ended (w:Wo) | worn
noncomputable def Slp.isN:Slp→Bool
 | .non=>true
 | _=>false
noncomputable def SlpAt (H:Hp) (v:V):Slp→Prop
 | .non=>v=.non
 | .new=>∃ p,v=.ref p∧H p=some (.tup [.str "new"])
 | .wait ts=>∃ p p2,v=.ref p∧H p=some (.tup [.str "wait",.ref p2])∧H p2=some (.tup (ts.map V.int))
 | .hear k=>∃ p,v=.ref p∧H p=some (.tup [.str "hear",.str k])
 | .ended w=>∃ p,v=.ref p∧H p=some (.tup [.str "ended",wv w])
 | .worn=>∃ p,v=.ref p∧H p=some (.tup [.str "worn"])
theorem SlpAt.kt {H H':Hp} {v:V} {s:Slp} (h:SlpAt H v s) (k:TupKp H H'):SlpAt H' v s:=by
 cases s with
 | non=>exact h
 | wait ts=>obtain ⟨p,p2,e,a,b⟩:=h;exact ⟨p,p2,e,k _ _ a,k _ _ b⟩
 | _=>obtain ⟨p,e,a⟩:=h;exact ⟨p,e,k _ _ a⟩
theorem SlpAt.isN {H:Hp} {v:V} {s:Slp} (h:SlpAt H v s):(s.isN=true∧v=.non)∨(s.isN=false∧∃ p,v=.ref p):=by
 cases s with
 | non=>exact .inl ⟨rfl,h⟩
 | wait ts=>obtain ⟨p,p2,e,a,b⟩:=h;exact .inr ⟨rfl,p,e⟩
 | _=>obtain ⟨p,e,a⟩:=h;exact .inr ⟨rfl,p,e⟩
noncomputable def nmK (l:List (Str×Wo)):List (Key×V):=l.map fun p=>(.inr p.1,wv p.2)
noncomputable def putN (l:List (Str×Wo)) (n:Str) (w:Wo):List (Str×Wo):=if (l.any fun p=>decide (p.1=n))=true then l.map (fun p=>if p.1=n then (p.1,w) else p) else l++[(n,w)]
theorem nmK_put (l:List (Str×Wo)) (n:Str) (w:Wo):putK (nmK l) (.inr n) (wv w)=nmK (putN l n w):=by
 have e:((nmK l).any fun kv=>decide (kv.1=Key.inr n))=(l.any fun p=>decide (p.1=n)):=by
  simp only [nmK,List.any_map,Function.comp_def,Key.inr.injEq]
 unfold putK putN
 rw [e]
 split
 ·simp only [nmK,List.map_map,Function.comp_def,Key.inr.injEq]
  refine List.map_congr_left fun p _=>?_
  by_cases h:p.1=n
  ·simp [h]
  ·simp [h]
 ·simp [nmK]
theorem putN_len (l:List (Str×Wo)) (n:Str) (w:Wo):(putN l n w).length≤l.length+1:=by
 unfold putN
 split
 ·rw [List.length_map];omega
 ·simp
noncomputable def lookN:List (Str×Wo)→Str→Wo
 | [],_=>none
 | p::r,x=>if p.1=x then p.2 else lookN r x
theorem nmK_val:∀(l:List (Str×Wo)) (x:Str),(valV (nmK l) (.inr x)).getD .non=wv (lookN l x)
 | [],x=>rfl
 | p::r,x=>by
  have ih:=nmK_val r x
  show (valV ((Key.inr p.1,wv p.2)::nmK r) (.inr x)).getD .non=_
  by_cases h:p.1=x
  ·rw [valV_pos (by rw [h]),lookN,if_pos h];rfl
  ·rw [valV_neg (fun z=>h (Key.inr.inj z)),lookN,if_neg h];exact ih
theorem lookN_put (l:List (Str×Wo)) (n:Str) (w:Wo) (x:Str):lookN (putN l n w) x=if x=n then w else lookN l x:=by
 have h1:=nmK_val (putN l n w) x
 rw [← nmK_put,valV_put] at h1
 by_cases h:x=n
 ·rw [if_pos (by rw [h])] at h1
  rw [if_pos h]
  exact (wv_inj h1).symm
 ·rw [if_neg (fun z=>h (Key.inr.inj z)),nmK_val] at h1
  rw [if_neg h]
  exact (wv_inj h1).symm
noncomputable def lookA (l:List (Int×Wo)):Wo→Wo
 | none=>none
 | some i=>match l with
  | []=>none
  | p::r=>if p.1=i then p.2 else lookA r (some i)
theorem ansK_val:∀(l:List (Int×Wo)) (w:Wo),(valV (ansK l) (wk w)).getD .non=wv (lookA l w)
 | [],none=>rfl
 | [],some _=>rfl
 | p::r,none=>by
  have ih:=ansK_val r none
  show (valV ((Key.inl p.1,wv p.2)::ansK r) .no).getD .non=_
  rw [valV_neg (by intro z;cases z)]
  rw [show lookA (p::r) none=lookA r none from by rw [lookA,lookA]]
  exact ih
 | p::r,some i=>by
  have ih:=ansK_val r (some i)
  show (valV ((Key.inl p.1,wv p.2)::ansK r) (.inl i)).getD .non=_
  by_cases h:p.1=i
  ·rw [valV_pos (by rw [h]),lookA,if_pos h];rfl
  ·rw [valV_neg (fun z=>h (Key.inl.inj z)),lookA,if_neg h];exact ih
inductive LtAt (H:Hp):List (Key×V)→List Addr→List (Str×List Wo)→Prop
 | nil:LtAt H [] [] []
 | cons {a:Addr} {k:Str} {ws:List Wo} {kvs:List (Key×V)} {as:List Addr} {lt:List (Str×List Wo)}:H a=some (.lst (ws.map wv))→LtAt H kvs as lt→LtAt H ((.inr k,.ref a)::kvs) (a::as) ((k,ws)::lt)
theorem LtAt.keep {H H':Hp} {kvs:List (Key×V)} {as:List Addr} {lt:List (Str×List Wo)} (h:LtAt H kvs as lt) (k:∀ a∈as,∀ o,H a=some o→H' a=some o):LtAt H' kvs as lt:=by
 induction h with
 | nil=>exact .nil
 | cons e _ ih=>exact .cons (k _ (by simp) _ e) (ih fun a ha=>k a (List.mem_cons_of_mem _ ha))
theorem LtAt.ex {H:Hp} {kvs:List (Key×V)} {as:List Addr} {lt:List (Str×List Wo)} (h:LtAt H kvs as lt):∀ a∈as,∃ xs,H a=some (.lst xs):=by
 induction h with
 | nil=>intro a ha;simp at ha
 | cons e _ ih=>intro a ha;rcases List.mem_cons.mp ha with rfl | ha;exact ⟨_,e⟩;exact ih a ha
theorem LtAt.len {H:Hp} {kvs:List (Key×V)} {as:List Addr} {lt:List (Str×List Wo)} (h:LtAt H kvs as lt):kvs.length=lt.length:=by
 induction h with
 | nil=>rfl
 | cons _ _ ih=>simp [ih]
noncomputable def lookL:List (Str×List Wo)→Str→Option (List Wo)
 | [],_=>none
 | p::r,k=>if p.1=k then some p.2 else lookL r k
noncomputable def setL:List (Str×List Wo)→Str→List Wo→List (Str×List Wo)
 | [],_,_=>[]
 | p::r,k,ws=>if p.1=k then (p.1,ws)::r else p::setL r k ws
theorem LtAt.look {H:Hp} {kvs:List (Key×V)} {as:List Addr} {lt:List (Str×List Wo)} (h:LtAt H kvs as lt) (k:Str):(valV kvs (.inr k)=none∧lookL lt k=none) ∨ ∃ a ws,valV kvs (.inr k)=some (.ref a)∧lookL lt k=some ws∧a∈as∧H a=some (.lst (ws.map wv)):=by
 induction h with
 | nil=>exact .inl ⟨rfl,rfl⟩
 | @cons a j ws kvs as lt e _ ih =>
  by_cases hj:j=k
  ·subst hj
   exact .inr ⟨a,ws,valV_pos rfl,by simp [lookL],by simp,e⟩
  ·rcases ih with ⟨x,y⟩ | ⟨b,vs,x,y,z,u⟩
   ·exact .inl ⟨by rw [valV_neg (fun z=>hj (Key.inr.inj z))];exact x,by simp [lookL,hj,y]⟩
   ·exact .inr ⟨b,vs,by rw [valV_neg (fun z=>hj (Key.inr.inj z))];exact x,by simp [lookL,hj,y],List.mem_cons_of_mem _ z,u⟩
theorem LtAt.set {H:Hp} {kvs:List (Key×V)} {as:List Addr} {lt:List (Str×List Wo)} (h:LtAt H kvs as lt) {k:Str} {a:Addr} (r:List Wo) (hk:valV kvs (.inr k)=some (.ref a)) (nd:as.Nodup):LtAt (upd H a (.lst (r.map wv))) kvs as (setL lt k r):=by
 induction h with
 | nil=>cases hk
 | @cons b j ws kvs as lt e hr ih =>
  rw [List.nodup_cons] at nd
  by_cases hj:j=k
  ·subst hj
   rw [valV_pos rfl] at hk
   cases hk
   rw [setL,if_pos rfl]
   exact .cons upd_same (hr.keep fun c hc o h=>by rw [upd_ne (show c≠a from fun z=>nd.1 (by rw [← z];exact hc))];exact h)
  ·rw [valV_neg (fun z=>hj (Key.inr.inj z))] at hk
   rw [setL,if_neg hj]
   have ha:a∈as:=by
    rcases hr.look k with ⟨x,_⟩ | ⟨c,_,x,_,y,_⟩
    ·rw [x] at hk;cases hk
    ·rw [x] at hk;cases hk;exact y
   exact .cons (by rw [upd_ne (show b≠a from fun z=>nd.1 (by rw [z];exact ha))];exact e) (ih hk nd.2)
theorem LtAt.snoc {H:Hp} {kvs:List (Key×V)} {as:List Addr} {lt:List (Str×List Wo)} (h:LtAt H kvs as lt) {k:Str} {a:Addr} {ws:List Wo} (e:H a=some (.lst (ws.map wv))):LtAt H (kvs++[(.inr k,.ref a)]) (as++[a]) (lt++[(k,ws)]):=by
 induction h with
 | nil=>exact .cons e .nil
 | cons f _ ih=>exact .cons f ih
structure Pu where
 stk:Stk
 sl:Slp
 ar:Wo
 nw:Int
 nm:List (Str×Wo)
 made:Nat
 pend:List Int
 ans:List (Int×Wo)
 lt:List (Str×List Wo)
noncomputable def Pu.pl (S:Pu):Pl:=⟨lookN S.nm,S.ar,S.nw,lookA S.ans⟩
noncomputable def Pu.worth (S:Pu) (s:Say):Wo:=ev S.pl s
noncomputable def Pu.newT (S:Pu) (n:Str):Pu:={S with made:=S.made+1,pend:=S.pend++[(S.made:Int)],nm:=putN S.nm n (some (S.made:Int))}
noncomputable def Pu.pass (S:Pu):Pu:={S with stk:=passBy S.stk}
noncomputable def dueOf (nw:Int):Wo→Int
 | none=>if nw < 1000000000000 then nw else 1000000000000
 | some z=>if nw+(if z > 0 then z else 0) < 1000000000000 then nw+(if z > 0 then z else 0) else 1000000000000
noncomputable def Pu.ends (S:Pu) (w:Wo):Pu×Cmds:=({S with sl:=.ended w,pend:=[]},[[.str "end",wv w]])
noncomputable def Pu.wears (S:Pu):Pu×Cmds:=({S with sl:=.worn,pend:=[]},[[.str "worn"]])
noncomputable def firstDone (ans:List (Int×Wo)) (ws:List Wo):Wo:=(ans.find? fun p=>decide (some p.1∈ws)).map (·.1)
noncomputable def insI (i:Int):List Int→List Int
 | []=>[i]
 | j::r=>if i < j then i::j::r else if i=j then j::r else j::insI i r
noncomputable def openOf (pend:List Int):List Wo→List Int
 | []=>[]
 | none::r=>openOf pend r
 | some i::r=>if i∈pend then insI i (openOf pend r) else openOf pend r
noncomputable def deed (S:Pu):Stm→Pu×Cmds
 | .set x s=>({S with nm:=putN S.nm x (S.worth s)},[])
 | .order x y s=>(S.newT x,[[.str "order",.int S.made,.str y,wv (S.worth s)]])
 | .child x y s=>(S.newT x,[[.str "child",.int S.made,.str y,wv (S.worth s)]])
 | .timer x s=>(S.newT x,[[.str "timer",.int S.made,.int (dueOf S.nw (S.worth s))]])
 | .send s k r=>(S,[[.str "send",wv (S.worth s),.str k,wv (S.worth r)]])
 | .drop s=>match S.worth s with
  | some i=>if i∈S.pend then ({S with pend:=S.pend.filter fun j=>decide (j≠i)},[[.str "drop",.int i]]) else (S,[])
  | none=>(S,[])
 | .hear x k=>match (lookL S.lt k).getD [] with
  | w::r=>({S with nm:=putN S.nm x w,lt:=setL S.lt k r},[])
  | []=>({S with sl:=.hear k},[])
 | .wait x ss=>if firstDone S.ans (ss.map S.worth)=none∧openOf S.pend (ss.map S.worth)≠[] then ({S with sl:=.wait (openOf S.pend (ss.map S.worth))},[]) else ({S with nm:=putN S.nm x (firstDone S.ans (ss.map S.worth))},[])
 | .fin s=>S.ends (S.worth s)
 | .whl _ _=>(S,[])
 | .iff _ _ _=>(S,[])
noncomputable def Stm.isB:Stm→Bool
 | .whl _ _=>true
 | .iff _ _ _=>true
 | _=>false
noncomputable def Pu.enter (S:Pu) (c:Nat) (b:List Stm):Pu:={S with stk:=(c,b,0)::S.stk}
noncomputable def lookB (S:Pu):Stm→Pu
 | .whl s b=>if num (S.worth s)=0 then S.pass else S.enter 0 b
 | .iff s b o=>if num (S.worth s)=0 then S.enter 1 o else S.enter 0 b
 | _=>S
noncomputable def one (S:Pu) (m:Stm):Pu×Cmds:=if m.isB=true then (lookB S m,[]) else (if (deed S m).1.sl.isN=true then (deed S m).1.pass else (deed S m).1,(deed S m).2)
noncomputable def Pu.come (S:Pu):Pu:={S with stk:=comeTo S.stk}
noncomputable def goOn:Nat→Pu→Pu×Cmds
 | 0,S=>match stand S.come.stk with
  | none=>S.come.ends none
  | some _=>S.come.wears
 | n+1,S=>match stand S.come.stk with
  | none=>S.come.ends none
  | some m=>if (one S.come m).1.sl.isN=true then ((goOn n (one S.come m).1).1,(one S.come m).2++(goOn n (one S.come m).1).2) else one S.come m
noncomputable def Pu.wake (S:Pu) (w:Wo):Pu×Cmds:=match stand S.stk with
 | some (.hear x _)=>goOn 300 {S with nm:=putN S.nm x w,stk:=passBy S.stk,sl:=.non}
 | some (.wait x _)=>goOn 300 {S with nm:=putN S.nm x w,stk:=passBy S.stk,sl:=.non}
 | _=>(S,[])
noncomputable def later (nw m:Int):Int:=if m > nw then m else nw
noncomputable def Say.sok (s:Say):Prop:=s.ok∧s.depth≤6
mutual
noncomputable def Stm.gd (wt:Bool):Stm→Prop
 | .set _ s=>s.sok
 | .order _ _ s=>s.sok
 | .child _ _ s=>s.sok
 | .timer _ s=>s.sok
 | .send s _ r=>s.sok∧r.sok
 | .drop s=>s.sok
 | .wait _ ss=>wt=true∧ss.length≤4∧∀ s∈ss,s.sok
 | .hear _ _=>True
 | .fin s=>s.sok
 | .whl s b=>s.sok∧gdL wt b
 | .iff s b o=>s.sok∧gdL wt b∧gdL wt o
noncomputable def gdL (wt:Bool):List Stm→Prop
 | []=>True
 | m::ms=>m.gd wt∧gdL wt ms
end
theorem gdL_at {wt:Bool}:∀ {b:List Stm} {i:Nat} {m:Stm},gdL wt b→b[i]?=some m→m.gd wt
 | [],_,_,_,h=>by simp at h
 | _::_,0,_,g,h=>by simp only [List.getElem?_cons_zero,Option.some.injEq] at h;subst h;simp only [gdL] at g;exact g.1
 | _::b,i+1,_,g,h=>by simp only [gdL] at g;exact gdL_at g.2 (by simpa using h)
theorem dpL_at:∀ {b:List Stm} {i:Nat} {m:Stm},b[i]?=some m→m.dp≤dpL b
 | [],_,_,h=>by simp at h
 | _::_,0,_,h=>by simp only [List.getElem?_cons_zero,Option.some.injEq] at h;subst h;simp only [dpL];omega
 | _::b,i+1,_,h=>by have:=dpL_at (b:=b) (by simpa using h);simp only [dpL];omega
noncomputable def DpS:Stk→Prop
 | []=>True
 | (_,b,_)::r=>dpL b+r.length≤20∧DpS r
structure StkG (wt:Bool) (st:Stk):Prop where
 ok:StkOk st
 gd:∀ x∈st,gdL wt x.2.1
 dp:DpS st
structure Fit (wt:Bool) (S:Pu) (N:Nat):Prop where
 nm:S.nm.length≤N
 md:S.made≤N
 pd:S.pend.length≤N
 an:S.ans.length≤N
 lt:S.lt.length≤N
 lw:∀ k ws,lookL S.lt k=some ws→ws.length≤N∧∀ w∈ws,isWo w
 pl:S.pl.Ok
 nw:0≤S.nw∧S.nw≤1000000000000
 sk:StkG wt S.stk
 sl:(∀ k,S.sl=.hear k→∃ x,stand S.stk=some (.hear x k))∧∀ ts,S.sl=.wait ts→∃ x ss,stand S.stk=some (.wait x ss)
structure Cl where
 r:Addr
 w:Addr
 t:Addr
structure Rn where
 x:Addr
 dx:Addr
 wk:Addr
 wx:Addr
 lb:Addr
 ln:Addr
 nm:Addr
 tk:Addr
 tx:Addr
 dp:Addr
 da:Addr
 lt:Addr
noncomputable def Rn.cells (R:Rn):List Addr:=[R.x,R.lb,R.ln,R.nm,R.tk,R.dp,R.da,R.lt]
noncomputable abbrev insZ (c:Addr) (R:Rn) (sl:V) (ar:Wo) (nw:Int):HO:=.ins c R.dx [("walk",.ref R.wk),("sleep",sl),("arg",wv ar),("now",.int nw),("names",.ref R.nm),("tickets",.ref R.tk),("letters",.ref R.lt)]
theorem WkAt.keep {C:Addr} {H H':Hp} {wk wx lb ln:Addr} {st:Stk} (W:WkAt C H wk wx lb ln st) (k1:∀ o,H wk=some o→H' wk=some o) (k2:∀ o,H lb=some o→H' lb=some o) (k3:∀ o,H ln=some o→H' ln=some o) (kt:TupKp H H'):WkAt C H' wk wx lb ln st:=by
 obtain ⟨vs,e,h⟩:=W.bl
 exact ⟨k1 _ W.ins,⟨vs,k2 _ e,h.kp kt⟩,k3 _ W.nu,W.ne,W.few⟩
theorem TkAt.keep {C:Addr} {H H':Hp} {tk tx dp da:Addr} {made:Nat} {pend:List Int} {ans:List (Int×Wo)} (T:TkAt C H tk tx dp da made pend ans) (k1:∀ o,H tk=some o→H' tk=some o) (k2:∀ o,H dp=some o→H' dp=some o) (k3:∀ o,H da=some o→H' da=some o):TkAt C H' tk tx dp da made pend ans :=
 ⟨k1 _ T.ins,k2 _ T.hp,k3 _ T.ha,T.nda,T.lt,T.asc,T.la,T.dis,T.small⟩
structure RunAt (C:Cl) (H:Hp) (R:Rn) (as:List Addr) (sl:V) (S:Pu):Prop where
 ins:H R.x=some (.ins C.r R.dx [("walk",.ref R.wk),("sleep",sl),("arg",wv S.ar),("now",.int S.nw),("names",.ref R.nm),("tickets",.ref R.tk),("letters",.ref R.lt)])
 slp:SlpAt H sl S.sl
 wk:WkAt C.w H R.wk R.wx R.lb R.ln S.stk
 tk:TkAt C.t H R.tk R.tx R.dp R.da S.made S.pend S.ans
 nm:H R.nm=some (.dK (nmK S.nm))
 lt:∃ kvs,H R.lt=some (.dK kvs)∧LtAt H kvs as S.lt
 nas:as.Nodup
 ab:∀ a∈as,a≠R.lb∧a≠R.ln
 xw:R.x≠R.wk
 xt:R.x≠R.tk
 wt:R.wk≠R.tk
 n1:R.nm≠R.dp
 n2:R.nm≠R.da
 n3:R.nm≠R.lt
 n4:R.lt≠R.dp
 n5:R.lt≠R.da
theorem keepU {H:Hp} {p b:Addr} {o u v:HO} (e:H p=some o) (h:H b=some v) (d:v≠o:=by intro z;cases z):upd H p u b=some v:=by
 rw [upd_ne (ne_of h e d)]
 exact h
theorem TupKp.setO {H:Hp} {p:Addr} {o u:HO} (e:H p=some o) (d:∀ xs,o≠.tup xs:=by intro _ z;cases z):TupKp H (upd H p u):=fun a xs h=>keepU e h (d xs).symm
section
variable {C:Cl} {H H':Hp} {R:Rn} {as as':List Addr} {sl:V} {S:Pu}
theorem RunAt.keep (A:RunAt C H R as sl S) (k:∀ b o,H b=some o→b=R.wk∨b∈R.cells∨b∈as→H' b=some o) (kt:TupKp H H'):RunAt C H' R as sl S:=by
 obtain ⟨kvs,e,L⟩:=A.lt
 have c:∀ {b:Addr} {o:HO},b∈R.cells→H b=some o→H' b=some o:=fun {b o} h e=>k b o e (.inr (.inl h))
 exact {A with
  ins:=c (by simp [Rn.cells]) A.ins
  slp:=A.slp.kt kt
  wk:=A.wk.keep (fun o h=>k _ o h (.inl rfl)) (fun o h=>c (by simp [Rn.cells]) h) (fun o h=>c (by simp [Rn.cells]) h) kt
  tk:=A.tk.keep (fun o h=>c (by simp [Rn.cells]) h) (fun o h=>c (by simp [Rn.cells]) h) (fun o h=>c (by simp [Rn.cells]) h)
  nm:=c (by simp [Rn.cells]) A.nm
  lt:=⟨kvs,c (by simp [Rn.cells]) e,L.keep fun a ha o h=>k a o h (.inr (.inr ha))⟩}
theorem RunAt.kp (A:RunAt C H R as sl S) (k:Kp [] H H'):RunAt C H' R as sl S:=A.keep (fun _ _ h _=>k.at h) (TupKp.nil k)
theorem RunAt.cellK (A:RunAt C H R as sl S) {b:Addr} (h:b∈R.cells∨b∈as):∃ o,H b=some o∧∀ xs,o≠.tup xs:=by
 obtain ⟨kvs,e,L⟩:=A.lt
 obtain ⟨vs,el,_⟩:=A.wk.bl
 rcases h with h | h
 ·simp only [Rn.cells,List.mem_cons,List.not_mem_nil,or_false] at h
  rcases h with rfl | rfl | rfl | rfl | rfl | rfl | rfl | rfl
  ·exact ⟨_,A.ins,fun _ z=>by cases z⟩
  ·exact ⟨_,el,fun _ z=>by cases z⟩
  ·exact ⟨_,A.wk.nu,fun _ z=>by cases z⟩
  ·exact ⟨_,A.nm,fun _ z=>by cases z⟩
  ·exact ⟨_,A.tk.ins,fun _ z=>by cases z⟩
  ·exact ⟨_,A.tk.hp,fun _ z=>by cases z⟩
  ·exact ⟨_,A.tk.ha,fun _ z=>by cases z⟩
  ·exact ⟨_,e,fun _ z=>by cases z⟩
 ·obtain ⟨xs,ex⟩:=L.ex b h
  exact ⟨_,ex,fun _ z=>by cases z⟩
structure Fw (R:Rn) (as as':List Addr) (H H':Hp):Prop where
 kp:∀ b o,H b=some o→b∉R.cells→b∉as→H' b=some o
 dom:∀ b o,H b=some o→∃ o',H' b=some o'
 new:∀ a∈as',a∈as∨H a=none
theorem Fw.refl:Fw R as as H H:=⟨fun _ _ h _ _=>h,fun _ o h=>⟨o,h⟩,fun _ h=>.inl h⟩
theorem Fw.free (F:Fw R as as' H H') {c:Addr} (h:H' c=none):H c=none:=by
 cases z:H c with
 | none=>rfl
 | some o=>obtain ⟨o',z'⟩:=F.dom c o z;rw [h] at z';cases z'
theorem Fw.trans {as'':List Addr} {H'':Hp} (a:Fw R as as' H H') (b:Fw R as' as'' H' H''):Fw R as as'' H H'' :=
  ⟨fun c o h n m=>b.kp c o (a.kp c o h n m) n (fun z=>by
      rcases a.new c z with y | y
      · exact m y
      · rw [h] at y;cases y),fun c o h=>(by obtain ⟨o',h'⟩:=a.dom c o h;exact b.dom c o' h'),fun c h=>by
    rcases b.new c h with y | y
    · exact a.new c y
    · exact .inr (a.free y)⟩
theorem Fw.of (k:Kp [] H H'):Fw R as as H H':=⟨fun b o h _ _=>k.at h,fun b o h=>⟨o,k.at h⟩,fun _ h=>.inl h⟩
theorem Fw.set {p:Addr} {o:HO} (h:p∈R.cells∨p∈as):Fw R as as H (upd H p o) :=
 ⟨fun b u e n m=>by rw [upd_ne (fun z=>by rcases h with h | h;exact n (by rw [z];exact h);exact m (by rw [z];exact h))];exact e,fun b u e=>by by_cases z:b=p;exact ⟨o,by rw [z,upd_same]⟩;exact ⟨u,by rw [upd_ne z];exact e⟩,fun _ h=>.inl h⟩
theorem Fw.ofD {D:List Addr} (k:Kp D H H') (h:∀ b∈D,b∈R.cells∧∃ o,H' b=some o):Fw R as as H H' :=
 ⟨fun b o e n _=>k b o e fun z=>n (h b z).1,fun b o e=>by by_cases z:b∈D;exact (h b z).2;exact ⟨o,k b o e z⟩,fun _ h=>.inl h⟩
theorem Fw.fresh {c:Addr} {o:HO} (F:Fw R as as' H H') (h:H c=none):Fw R as as' H (upd H' c o) :=
 ⟨fun b u e n m=>by rw [upd_ne (ne_of_none e h)];exact F.kp b u e n m,fun b u e=>by rw [upd_ne (ne_of_none e h)];exact F.dom b u e,F.new⟩
theorem RunAt.tkp (A:RunAt C H R as sl S) (F:Fw R as as' H H'):TupKp H H':=fun b xs h=>F.kp b _ h (fun z=>by
    obtain ⟨o,e,d⟩:=A.cellK (.inl z)
    rw [h] at e
    exact d xs (Option.some.inj e).symm) fun z=>by
    obtain ⟨o,e,d⟩:=A.cellK (.inr z)
    rw [h] at e
    exact d xs (Option.some.inj e).symm
theorem RunAt.nofree (A:RunAt C H R as sl S) {c:Addr} (h:H c=none):c∉R.cells∧c∉as:=by
 refine ⟨fun z=>?_,fun z=>?_⟩
 ·obtain ⟨o,e,d⟩:=A.cellK (.inl z)
  rw [h] at e
  cases e
 ·obtain ⟨o,e,d⟩:=A.cellK (.inr z)
  rw [h] at e
  cases e
theorem RunAt.attr (A:RunAt C H R as sl S) (sl':V) (s':Slp) (ar':Wo) (nw':Int) (h:SlpAt H sl' s'):RunAt C (upd H R.x (.ins C.r R.dx [("walk",.ref R.wk),("sleep",sl'),("arg",wv ar'),("now",.int nw'),("names",.ref R.nm),("tickets",.ref R.tk),("letters",.ref R.lt)])) R as sl' {S with sl:=s',ar:=ar',nw:=nw'}:=by
 obtain ⟨kvs,e,L⟩:=A.lt
 obtain ⟨vs,el,_⟩:=A.wk.bl
 have kt:TupKp H (upd H R.x (.ins C.r R.dx [("walk",.ref R.wk),("sleep",sl'),("arg",wv ar'),("now",.int nw'),("names",.ref R.nm),("tickets",.ref R.tk),("letters",.ref R.lt)])):=TupKp.setO A.ins
 exact {A with
  ins:=upd_same
  slp:=h.kt kt
  wk:=A.wk.keep (fun o h=>by rw [upd_ne A.xw.symm];exact h) (fun o h=>by rw [el] at h;cases h;exact keepU A.ins el) (fun o h=>by rw [A.wk.nu] at h;cases h;exact keepU A.ins A.wk.nu) kt
  tk:=A.tk.keep (fun o h=>by rw [upd_ne A.xt.symm];exact h) (fun o h=>by rw [A.tk.hp] at h;cases h;exact keepU A.ins A.tk.hp) (fun o h=>by rw [A.tk.ha] at h;cases h;exact keepU A.ins A.tk.ha)
  nm:=keepU A.ins A.nm
  lt:=⟨kvs,keepU A.ins e,L.keep fun a ha o h=>by obtain ⟨xs,ex⟩:=L.ex a ha;rw [ex] at h;cases h;exact keepU A.ins ex⟩}
theorem RunAt.walk (A:RunAt C H R as sl S) {st:Stk} (W:WkAt C.w H' R.wk R.wx R.lb R.ln st) (k:Kp [R.lb,R.ln] H H'):RunAt C H' R as sl {S with stk:=st}:=by
 obtain ⟨kvs,e,L⟩:=A.lt
 obtain ⟨vs,el,_⟩:=A.wk.bl
 have at':∀ {b:Addr} {o:HO},H b=some o→(∀ xs,o≠.lst xs)→H' b=some o:=fun {b o} h d=>k b o h (by
  simp only [List.mem_cons,List.not_mem_nil,or_false,not_or]
  exact ⟨ne_of h el (d _),ne_of h A.wk.nu (d _)⟩)
 have kt:TupKp H H':=fun b xs h=>at' h (by intro _ z;cases z)
 exact {A with
  ins:=at' A.ins (by intro _ z;cases z)
  slp:=A.slp.kt kt
  wk:=W
  tk:=⟨at' A.tk.ins (by intro _ z;cases z),at' A.tk.hp (by intro _ z;cases z),at' A.tk.ha (by intro _ z;cases z),A.tk.nda,A.tk.lt,A.tk.asc,A.tk.la,A.tk.dis,A.tk.small⟩
  nm:=at' A.nm (by intro _ z;cases z)
  lt:=⟨kvs,at' e (by intro _ z;cases z),L.keep fun a ha o h=>k a o h (by
   simp only [List.mem_cons,List.not_mem_nil,or_false,not_or]
   exact A.ab a ha)⟩}
theorem RunAt.fwalk (_:RunAt C H R as sl S) {st:Stk} (W:WkAt C.w H' R.wk R.wx R.lb R.ln st) (k:Kp [R.lb,R.ln] H H'):Fw R as as H H':=Fw.ofD k fun b hb=>by
 obtain ⟨vs,el,_⟩:=W.bl
 simp only [List.mem_cons,List.not_mem_nil,or_false] at hb
 rcases hb with rfl | rfl
 ·exact ⟨by simp [Rn.cells],_,el⟩
 ·exact ⟨by simp [Rn.cells],_,W.nu⟩
theorem RunAt.tick (A:RunAt C H R as sl S) {md:Nat} {pd:List Int} {an:List (Int×Wo)} (T:TkAt C.t H' R.tk R.tx R.dp R.da md pd an) (k:Kp [R.tk,R.dp,R.da] H H'):RunAt C H' R as sl {S with made:=md,pend:=pd,ans:=an}:=by
 obtain ⟨kvs,e,L⟩:=A.lt
 obtain ⟨vs,el,_⟩:=A.wk.bl
 have at':∀ {b:Addr} {o:HO},H b=some o→(∀ xs,o≠.dK xs)→(∀ C d f,o≠.ins C d f)→H' b=some o:=fun {b o} h d d2=>k b o h (by
  simp only [List.mem_cons,List.not_mem_nil,or_false,not_or]
  exact ⟨ne_of h A.tk.ins (d2 _ _ _),ne_of h A.tk.hp (d _),ne_of h A.tk.ha (d _)⟩)
 have atI:∀ {b:Addr} {o:HO},H b=some o→(∀ xs,o≠.dK xs)→b≠R.tk→H' b=some o:=fun {b o} h d d2=>k b o h (by
  simp only [List.mem_cons,List.not_mem_nil,or_false,not_or]
  exact ⟨d2,ne_of h A.tk.hp (d _),ne_of h A.tk.ha (d _)⟩)
 have atD:∀ {b:Addr} {o:HO},H b=some o→(∀ C d f,o≠.ins C d f)→b≠R.dp→b≠R.da→H' b=some o:=fun {b o} h d d2 d3=>k b o h (by
  simp only [List.mem_cons,List.not_mem_nil,or_false,not_or]
  exact ⟨ne_of h A.tk.ins (d _ _ _),d2,d3⟩)
 have kt:TupKp H H':=fun b xs h=>at' h (by intro _ z;cases z) (by intro _ _ _ z;cases z)
 exact {A with
  ins:=atI A.ins (by intro _ z;cases z) A.xt
  slp:=A.slp.kt kt
  wk:=A.wk.keep (fun o h=>by rw [A.wk.ins] at h;cases h;exact atI A.wk.ins (by intro _ z;cases z) A.wt) (fun o h=>by rw [el] at h;cases h;exact at' el (by intro _ z;cases z) (by intro _ _ _ z;cases z)) (fun o h=>by rw [A.wk.nu] at h;cases h;exact at' A.wk.nu (by intro _ z;cases z) (by intro _ _ _ z;cases z)) kt
  tk:=T
  nm:=atD A.nm (by intro _ _ _ z;cases z) A.n1 A.n2
  lt:=⟨kvs,atD e (by intro _ _ _ z;cases z) A.n4 A.n5,L.keep fun a ha o h=>by obtain ⟨xs,ex⟩:=L.ex a ha;rw [ex] at h;cases h;exact at' ex (by intro _ z;cases z) (by intro _ _ _ z;cases z)⟩}
theorem RunAt.ftick (_:RunAt C H R as sl S) {md:Nat} {pd:List Int} {an:List (Int×Wo)} (T:TkAt C.t H' R.tk R.tx R.dp R.da md pd an) (k:Kp [R.tk,R.dp,R.da] H H'):Fw R as as H H':=Fw.ofD k fun b hb=>by
 simp only [List.mem_cons,List.not_mem_nil,or_false] at hb
 rcases hb with rfl | rfl | rfl
 ·exact ⟨by simp [Rn.cells],_,T.ins⟩
 ·exact ⟨by simp [Rn.cells],_,T.hp⟩
 ·exact ⟨by simp [Rn.cells],_,T.ha⟩
theorem RunAt.name (A:RunAt C H R as sl S) (n:Str) (w:Wo):RunAt C (upd H R.nm (.dK (nmK (putN S.nm n w)))) R as sl {S with nm:=putN S.nm n w}:=by
 obtain ⟨kvs,e,L⟩:=A.lt
 obtain ⟨vs,el,_⟩:=A.wk.bl
 have at':∀ {b:Addr} {o:HO},H b=some o→(∀ xs,o≠.dK xs)→upd H R.nm (.dK (nmK (putN S.nm n w))) b=some o:=fun {b o} h d=>keepU A.nm h (d _)
 have kt:TupKp H _:=fun b xs h=>at' h (by intro _ z;cases z)
 exact {A with
  ins:=at' A.ins (by intro _ z;cases z)
  slp:=A.slp.kt kt
  wk:=A.wk.keep (fun o h=>by rw [A.wk.ins] at h;cases h;exact at' A.wk.ins (by intro _ z;cases z)) (fun o h=>by rw [el] at h;cases h;exact at' el (by intro _ z;cases z)) (fun o h=>by rw [A.wk.nu] at h;cases h;exact at' A.wk.nu (by intro _ z;cases z)) kt
  tk:=A.tk.keep (fun o h=>by rw [A.tk.ins] at h;cases h;exact at' A.tk.ins (by intro _ z;cases z)) (fun o h=>by rw [upd_ne A.n1.symm];exact h) (fun o h=>by rw [upd_ne A.n2.symm];exact h)
  nm:=upd_same
  lt:=⟨kvs,by rw [upd_ne A.n3.symm];exact e,L.keep fun a ha o h=>by obtain ⟨xs,ex⟩:=L.ex a ha;rw [ex] at h;cases h;exact at' ex (by intro _ z;cases z)⟩}
theorem RunAt.lset (A:RunAt C H R as sl S) {kvs:List (Key×V)} {k:Str} {l:Addr} (e:H R.lt=some (.dK kvs)) (hk:valV kvs (.inr k)=some (.ref l)) (r:List Wo):RunAt C (upd H l (.lst (r.map wv))) R as sl {S with lt:=setL S.lt k r}∧l∈as:=by
 obtain ⟨kvs',e',L⟩:=A.lt
 rw [e] at e'
 cases e'
 obtain ⟨vs,el,_⟩:=A.wk.bl
 obtain ⟨ws,hl,hla⟩:∃ ws:List Wo,H l=some (.lst (ws.map wv))∧l∈as:=by
  rcases L.look k with ⟨x,_⟩ | ⟨c,ws,x,_,y,z⟩
  ·rw [x] at hk;cases hk
  ·rw [x] at hk;cases hk;exact ⟨ws,z,y⟩
 have at':∀ {b:Addr} {o:HO},H b=some o→(∀ xs,o≠.lst xs)→upd H l (.lst (r.map wv)) b=some o:=fun {b o} h d=>keepU hl h (d _)
 have kt:TupKp H _:=fun b xs h=>at' h (by intro _ z;cases z)
 have nb:=A.ab l hla
 refine ⟨{A with
  ins:=at' A.ins (by intro _ z;cases z)
  slp:=A.slp.kt kt
  wk:=A.wk.keep (fun o h=>by rw [A.wk.ins] at h;cases h;exact at' A.wk.ins (by intro _ z;cases z)) (fun o h=>by rw [upd_ne nb.1.symm];exact h) (fun o h=>by rw [upd_ne nb.2.symm];exact h) kt
  tk:=A.tk.keep (fun o h=>by rw [A.tk.ins] at h;cases h;exact at' A.tk.ins (by intro _ z;cases z)) (fun o h=>by rw [A.tk.hp] at h;cases h;exact at' A.tk.hp (by intro _ z;cases z)) (fun o h=>by rw [A.tk.ha] at h;cases h;exact at' A.tk.ha (by intro _ z;cases z))
  nm:=at' A.nm (by intro _ z;cases z)
  lt:=⟨kvs,at' e (by intro _ z;cases z),L.set r hk A.nas⟩},hla⟩
theorem RunAt.lnew (A:RunAt C H R as sl S) {kvs:List (Key×V)} {k:Str} {l:Addr} {ws:List Wo} (e:H R.lt=some (.dK kvs)) (hk:valV kvs (.inr k)=none) (hl:H l=some (.lst (ws.map wv))) (n1:l∉R.cells) (n2:l∉as):RunAt C (upd H R.lt (.dK (putK kvs (.inr k) (.ref l)))) R (as++[l]) sl {S with lt:=S.lt++[(k,ws)]}:=by
 obtain ⟨kvs',e',L⟩:=A.lt
 rw [e] at e'
 cases e'
 obtain ⟨vs,el,_⟩:=A.wk.bl
 have at':∀ {b:Addr} {o:HO},H b=some o→(∀ xs,o≠.dK xs)→upd H R.lt (.dK (putK kvs (.inr k) (.ref l))) b=some o:=fun {b o} h d=>keepU e h (d _)
 have kt:TupKp H _:=fun b xs h=>at' h (by intro _ z;cases z)
 exact {A with
  ins:=at' A.ins (by intro _ z;cases z)
  slp:=A.slp.kt kt
  wk:=A.wk.keep (fun o h=>by rw [A.wk.ins] at h;cases h;exact at' A.wk.ins (by intro _ z;cases z)) (fun o h=>by rw [el] at h;cases h;exact at' el (by intro _ z;cases z)) (fun o h=>by rw [A.wk.nu] at h;cases h;exact at' A.wk.nu (by intro _ z;cases z)) kt
  tk:=A.tk.keep (fun o h=>by rw [A.tk.ins] at h;cases h;exact at' A.tk.ins (by intro _ z;cases z)) (fun o h=>by rw [upd_ne A.n4.symm];exact h) (fun o h=>by rw [upd_ne A.n5.symm];exact h)
  nm:=by rw [upd_ne A.n3];exact A.nm
  lt:=⟨_,upd_same,by
   rw [putK_new _ hk]
   exact (L.keep fun a ha o h=>by obtain ⟨xs,ex⟩:=L.ex a ha;rw [ex] at h;cases h;exact keepU e ex).snoc (keepU e hl)⟩
  nas:=List.nodup_append.mpr ⟨A.nas,by simp,fun a ha b hb=>by rw [show b=l by simpa using hb];exact fun z=>n2 (by rw [← z];exact ha)⟩
  ab:=fun a ha=>by
   rcases List.mem_append.mp ha with ha | ha
   ·exact A.ab a ha
   ·rw [show a=l by simpa using ha]
    exact ⟨fun z=>n1 (by simp [Rn.cells,z]),fun z=>n1 (by simp [Rn.cells,z])⟩}
theorem RunAt.other (A:RunAt C H R as sl S) {c:Addr} {us vs:List V} (hc:H c=some (.lst us)) (n1:c∉R.cells) (n2:c∉as):RunAt C (upd H c (.lst vs)) R as sl S :=
 A.keep (fun b o h m=>by
  rw [upd_ne (fun z=>by
   rcases m with m | m | m
   ·rw [z] at m
    rw [m,A.wk.ins] at hc
    cases hc
   ·exact n1 (by rw [← z];exact m)
   ·exact n2 (by rw [← z];exact m))]
  exact h) (TupKp.setO hc)
end
theorem put2 {H:Hp} {x p:Addr} {o o' u:HO} (hx:H x=some u) (hp:H p=none):upd (upd H p o) x o' x=some o'∧upd (upd H p o) x o' p=some o∧Kp [x] H (upd (upd H p o) x o')∧x≠p:=by
 have n:x≠p:=ne_of_none hx hp
 exact ⟨upd_same,by rw [upd_ne n.symm];exact upd_same,(Kp.new hp).trans (Kp.set (by simp)),n⟩
theorem none_upd {H:Hp} {a p:Addr} {o:HO} (h:upd H a o p=none):H p=none:=by
 by_cases e:p=a
 ·subst e;rw [upd_same] at h;cases h
 ·rwa [upd_ne e] at h
noncomputable def Told (C:Cl) (R:Rn) (as as':List Addr) (H:Hp) (Q:VK) (z:Pu×Cmds):Prop:=∀(sl:V) (c:Addr) (us:List V) (H':Hp),RunAt C H' R as' sl z.1→H c=none→H' c=some (.lst us)→CsAt H' us z.2→Fw R as as' H H'→Q (.ref c) H'
inductive spWorthR (C:Cl) (vs:List V) (H:Hp) (Q:VK) (E:XK):Prop
 | mk (R:Rn) (as:List Addr) (sl:V) (S:Pu) (v:V) (s:Say) (_:vs=[.ref R.x,v]) (_:RunAt C H R as sl S) (_:S.pl.Ok) (_:SayAt H v s) (_:s.sok) (_:Q (wv (S.worth s)) H):spWorthR C vs H Q E
inductive spNewT (C:Cl) (vs:List V) (H:Hp) (Q:VK) (E:XK):Prop
 | mk (R:Rn) (as:List Addr) (sl:V) (S:Pu) (n:Str) (_:vs=[.ref R.x,.str n]) (_:RunAt C H R as sl S) (_:S.made < 1000000) (_:S.pend.length < 1000000) (_:S.nm.length≤1000000) (_:∀ H',RunAt C H' R as sl (S.newT n)→Fw R as as H H'→Q (.int S.made) H'):spNewT C vs H Q E
inductive spEndR (C:Cl) (vs:List V) (H:Hp) (Q:VK) (E:XK):Prop
 | mk (R:Rn) (as:List Addr) (sl:V) (S:Pu) (w:Wo) (_:vs=[.ref R.x,wv w]) (_:RunAt C H R as sl S) (_:Told C R as as H Q (S.ends w)):spEndR C vs H Q E
inductive spWear (C:Cl) (vs:List V) (H:Hp) (Q:VK) (E:XK):Prop
 | mk (R:Rn) (as:List Addr) (sl:V) (S:Pu) (_:vs=[.ref R.x]) (_:RunAt C H R as sl S) (_:Told C R as as H Q S.wears):spWear C vs H Q E
inductive spDeedR (C:Cl) (wt:Bool) (g:Stm→Prop) (vs:List V) (H:Hp) (Q:VK) (E:XK):Prop
 | mk (R:Rn) (as:List Addr) (sl:V) (S:Pu) (a:V) (m:Stm) (N:Nat) (_:vs=[.ref R.x,a]) (_:RunAt C H R as sl S) (_:S.sl=.non) (_:StmAt H a m) (_:g m) (_:Fit wt S N) (_:m.gd wt) (_:N≤900000) (_:Told C R as as H Q (deed S m)):spDeedR C wt g vs H Q E
inductive spLookR (C:Cl) (wt:Bool) (vs:List V) (H:Hp) (Q:VK) (E:XK):Prop
 | mk (R:Rn) (as:List Addr) (sl:V) (S:Pu) (a:V) (m:Stm) (N:Nat) (_:vs=[.ref R.x,a]) (_:RunAt C H R as sl S) (_:StmAt H a m) (_:m.isB=true) (_:Fit wt S N) (_:m.gd wt) (_:stand S.stk=some m) (_:∀ H',RunAt C H' R as sl (lookB S m)→Fw R as as H H'→Q .non H'):spLookR C wt vs H Q E
inductive spOneR (C:Cl) (wt:Bool) (vs:List V) (H:Hp) (Q:VK) (E:XK):Prop
 | mk (R:Rn) (as:List Addr) (sl:V) (S:Pu) (a:V) (m:Stm) (N:Nat) (_:vs=[.ref R.x,a]) (_:RunAt C H R as sl S) (_:S.sl=.non) (_:StmAt H a m) (_:Fit wt S N) (_:m.gd wt) (_:stand S.stk=some m) (_:N≤900000) (_:Told C R as as H Q (one S m)):spOneR C wt vs H Q E
inductive spGoR (C:Cl) (wt:Bool) (vs:List V) (H:Hp) (Q:VK) (E:XK):Prop
 | mk (R:Rn) (as:List Addr) (sl:V) (S:Pu) (N:Nat) (_:vs=[.ref R.x]) (_:RunAt C H R as sl S) (_:Fit wt {S with sl:=.non} N) (_:N≤800000) (_:Told C R as as H Q (goOn 300 {S with sl:=.non})):spGoR C wt vs H Q E
inductive spWaitsR (C:Cl) (vs:List V) (H:Hp) (Q:VK) (E:XK):Prop
 | mk (R:Rn) (as:List Addr) (sl:V) (S:Pu) (_:vs=[.ref R.x]) (_:RunAt C H R as sl S) (_:Q sl H):spWaitsR C vs H Q E
theorem gd_pl {wt:Bool} {S:Pu} {N:Nat} (F:Fit wt S N) {s:Say} (h:s.sok):isWo (S.worth s):=ev_wo F.pl h.1
theorem lkP {y:Str} {a:Sp} {r:List (Str×Sp)}:List.lookup y ((y,a)::r)=some a:=by simp only [List.lookup,beq_self_eq_true]
theorem lkN {a b:String} {s:Sp} {r:List (Str×Sp)} (h:a≠b:=by decide):List.lookup (Str.ofString a) ((Str.ofString b,s)::r)=List.lookup (Str.ofString a) r:=by
 have:((Str.ofString a:Str) == Str.ofString b)=false:=beq_eq_false_iff_ne.mpr fun z=>h (by rwa [w_sinj] at z)
 simp only [List.lookup,this]
theorem lkC {y k:Str} {a sp:Sp} {r:List (Str×Sp)} (h:List.lookup y ((k,a)::r)=some sp):(y=k∧sp=a)∨List.lookup y r=some sp:=by
 simp only [List.lookup] at h
 split at h
 ·next z=>cases h;exact .inl ⟨eq_of_beq z,rfl⟩
 ·exact .inr h
theorem stand_cons {st:Stk} {m:Stm} (h:stand st=some m):∃ k b n r,st=(k,b,n)::r∧b[n]?=some m:=by
 match st,h with
 | (k,b,n)::r,h=>exact ⟨k,b,n,r,rfl,h⟩
theorem deed_stk (S:Pu) (m:Stm):(deed S m).1.stk=S.stk:=by
 cases m<;>simp only [deed,Pu.newT,Pu.ends]
 ·split
  ·split<;>rfl
  ·rfl
 ·split<;>rfl
 ·split<;>rfl
theorem comeTo_G {wt:Bool}:∀ st,StkG wt st→StkG wt (comeTo st)
 | [],h=>h.ok.elim
 | [x],h=>by simp only [comeTo];exact h
 | (k,b,n)::(k2,b2,n2)::r,h=>by
  rw [comeTo]
  split
  ·have o:=h.ok.2 (k2,b2,n2) (by simp)
   exact comeTo_G ((k2,b2,offIf b2 n2)::r) ⟨⟨offIf_le o,fun x hx=>h.ok.2 x (List.mem_cons_of_mem _ hx)⟩,fun x hx=>by
    rcases List.mem_cons.mp hx with rfl | hx
    ·exact h.gd (k2,b2,n2) (by simp)
    ·exact h.gd x (by simp [hx]),⟨h.dp.2.1,h.dp.2.2⟩⟩
  ·exact h
termination_by st=>st.length
theorem Fit.come {wt:Bool} {S:Pu} {N:Nat} (F:Fit wt S N) (h:S.sl=.non):Fit wt S.come N :=
 {F with sk:=comeTo_G _ F.sk,sl:=⟨fun k e=>(by rw [show S.come.sl=S.sl from rfl,h] at e;cases e),fun k e=>(by rw [show S.come.sl=S.sl from rfl,h] at e;cases e)⟩}
theorem Fit.more {wt:Bool} {S:Pu} {N M:Nat} (F:Fit wt S N) (h:N≤M):Fit wt S M :=
 {F with nm:=Nat.le_trans F.nm h,md:=Nat.le_trans F.md h,pd:=Nat.le_trans F.pd h,an:=Nat.le_trans F.an h,lt:=Nat.le_trans F.lt h,lw:=fun k ws e=>⟨Nat.le_trans (F.lw k ws e).1 h,(F.lw k ws e).2⟩}
theorem StkG.pass {wt:Bool} {st:Stk} {m:Stm} (G:StkG wt st) (h:stand st=some m):StkG wt (passBy st):=by
 obtain ⟨k,b,n,r,rfl,hm⟩:=stand_cons h
 have hn:=(List.getElem?_eq_some_iff.mp hm).1
 exact ⟨⟨hn,G.ok.2⟩,fun x hx=>by
  rcases List.mem_cons.mp hx with rfl | hx
  ·exact G.gd (k,b,n) (by simp)
  ·exact G.gd x (by simp [hx]),G.dp⟩
theorem StkG.enter {wt:Bool} {st:Stk} {m:Stm} {c:Nat} {bb:List Stm} (G:StkG wt st) (h:stand st=some m) (hg:gdL wt bb) (hd:dpL bb+1≤m.dp):StkG wt ((c,bb,0)::st):=by
 obtain ⟨k,b,n,r,rfl,hm⟩:=stand_cons h
 have hn:=(List.getElem?_eq_some_iff.mp hm).1
 have h2:=dpL_at hm
 have h3:=G.dp.1
 refine ⟨⟨Nat.zero_le _,fun x hx=>?_⟩,fun x hx=>?_,?_,G.dp⟩
 ·rcases List.mem_cons.mp hx with rfl | hx
  ·exact hn
  ·exact G.ok.2 x hx
 ·rcases List.mem_cons.mp hx with rfl | hx
  ·exact hg
  ·exact G.gd x hx
 ·simp only [List.length_cons]
  omega
theorem Fit.stm {wt:Bool} {S:Pu} {N:Nat} (F:Fit wt S N) {m:Stm} (h:stand S.stk=some m):m.gd wt:=by
 obtain ⟨k,b,n,r,e,hm⟩:=stand_cons h
 exact gdL_at (F.sk.gd (k,b,n) (by rw [e];simp)) hm
theorem ok_put {S:Pu} (h:S.pl.Ok) (n:Str) {w:Wo} (hw:isWo w):({S with nm:=putN S.nm n w}:Pu).pl.Ok :=
 ⟨fun x=>by show isWo (lookN (putN S.nm n w) x);rw [lookN_put];split;exact hw;exact h.nm x,h.ar,h.an⟩
theorem lookL_set:∀(l:List (Str×List Wo)) (k:Str) (r:List Wo) (j:Str) (ws:List Wo),lookL (setL l k r) j=some ws→(j=k∧ws=r)∨lookL l j=some ws
 | [],_,_,_,_,h=>by simp [setL,lookL] at h
 | p::l,k,r,j,ws,h=>by
  by_cases e:p.1=k
  ·rw [setL,if_pos e,lookL] at h
   by_cases e2:p.1=j
   ·rw [if_pos e2] at h
    cases h
    exact .inl ⟨by rw [← e2,e],rfl⟩
   ·rw [if_neg e2] at h
    exact .inr (by rw [lookL,if_neg e2];exact h)
  ·rw [setL,if_neg e,lookL] at h
   by_cases e2:p.1=j
   ·rw [if_pos e2] at h
    exact .inr (by rw [lookL,if_pos e2];exact h)
   ·rw [if_neg e2] at h
    rcases lookL_set l k r j ws h with x | x
    ·exact .inl x
    ·exact .inr (by rw [lookL,if_neg e2];exact x)
theorem setL_len:∀(l:List (Str×List Wo)) (k:Str) (r:List Wo),(setL l k r).length=l.length
 | [],_,_=>rfl
 | p::l,k,r=>by
  rw [setL]
  split
  ·rfl
  ·simp [setL_len l k r]
theorem firstDone_wo {ans:List (Int×Wo)} {ws:List Wo} (h:∀ w∈ws,isWo w):isWo (firstDone ans ws):=by
 unfold firstDone
 cases e:ans.find? fun p=>decide (some p.1∈ws) with
 | none=>exact isWo_non
 | some p =>
  have:=List.find?_some e
  exact h _ (by simpa using this)
theorem filter_le {α:Type} {p:α→Bool} {l:List α}:(l.filter p).length≤l.length:=List.length_filter_le p l
theorem Fit.deed {wt:Bool} {S:Pu} {N:Nat} (F:Fit wt S N) {m:Stm} (h:stand S.stk=some m) (hs:S.sl=.non) (hN:N≤900000):Fit wt (deed S m).1 (N+1):=by
 have g:=F.stm h
 have F1:=F.more (Nat.le_succ N)
 have hsl:(∀ k,S.sl=.hear k→∃ x,stand S.stk=some (.hear x k))∧∀ ts,S.sl=.wait ts→∃ x ss,stand S.stk=some (.wait x ss):=F.sl
 have put:∀(n:Str) {w:Wo},isWo w→Fit wt {S with nm:=putN S.nm n w} (N+1):=fun n w hw =>
  {F1 with nm:=by (have:=putN_len S.nm n w;have:=F.nm;show (putN S.nm n w).length≤N+1;omega),pl:=ok_put F.pl n hw}
 have newT:∀ n,Fit wt (S.newT n) (N+1):=fun n =>
  have hw:isWo (some (S.made:Int)):=isWo_int (by omega) (by have:=F.md;omega)
  {F1 with
   nm:=(put n hw).nm
   pl:=(put n hw).pl
   md:=(by have:=F.md;show S.made+1≤N+1;omega)
   pd:=(by have:=F.pd;show (S.pend++[(S.made:Int)]).length≤N+1;rw [List.length_append];simp;exact this)}
 cases m with
 | set x s=>exact put x (gd_pl F g)
 | order x y s=>exact newT x
 | child x y s=>exact newT x
 | timer x s=>exact newT x
 | send s k r=>exact F1
 | drop s =>
  simp only [Own.deed]
  split
  ·split
   ·exact {F1 with pd:=Nat.le_trans filter_le (Nat.le_succ_of_le F.pd)}
   ·exact F1
  ·exact F1
 | wait x ss =>
  simp only [Own.deed]
  split
  ·exact {F1 with sl:=⟨fun k e=>(by cases e),fun ts e=>⟨x,ss,h⟩⟩}
  ·exact put x (firstDone_wo fun w hw=>by
    obtain ⟨s,hs',rfl⟩:=List.mem_map.mp hw
    exact gd_pl F (g.2.2 s hs'))
 | hear x k =>
  simp only [Own.deed]
  split
  ·next w r e =>
   obtain ⟨ws,el,rfl⟩:∃ ws,lookL S.lt k=some ws∧ws=w::r:=by
    cases el:lookL S.lt k with
    | none=>rw [el] at e;cases e
    | some ws=>rw [el] at e;exact ⟨ws,rfl,e⟩
   have hl:=F.lw k _ el
   exact {put x (hl.2 w (by simp)) with
    lt:=(by have:=F.lt;show (setL S.lt k r).length≤N+1;rw [setL_len];omega)
    lw:=fun j vs hj=>by
     rcases lookL_set S.lt k r j vs hj with ⟨_,rfl⟩ | z
     ·exact ⟨by have:=hl.1;simp only [List.length_cons] at this;omega,fun w hw=>hl.2 w (List.mem_cons_of_mem _ hw)⟩
     ·exact F1.lw j vs z}
  ·exact {F1 with sl:=⟨fun k' e=>(by cases e;exact ⟨x,h⟩),fun ts e=>(by cases e)⟩}
 | fin s=>exact {F1 with pd:=Nat.zero_le _,sl:=⟨fun k e=>(by cases e),fun k e=>(by cases e)⟩}
 | whl s b=>exact F1
 | iff s b o=>exact F1
theorem isN_non {s:Slp} (h:s.isN=true):s=.non:=by cases s<;>first | rfl | cases h
theorem Fit.one {wt:Bool} {S:Pu} {N:Nat} (F:Fit wt S N) {m:Stm} (h:stand S.stk=some m) (hs:S.sl=.non) (hN:N≤900000):Fit wt (one S m).1 (N+1):=by
 have g:=F.stm h
 have F1:=F.more (Nat.le_succ N)
 have nosl:∀ {st:Stk},Fit wt {S with stk:=st} (N+1)→Fit wt {S with stk:=st} (N+1):=fun z=>z
 have pass:∀ {S':Pu},Fit wt S' (N+1)→S'.sl=.non→S'.stk=S.stk→Fit wt S'.pass (N+1):=fun {S'} z a b =>
  {z with sk:=(by have:=z.sk;rw [b] at this;show StkG wt (passBy S'.stk);rw [b];exact this.pass h),sl:=⟨fun k e=>(by rw [show S'.pass.sl=S'.sl from rfl,a] at e;cases e),fun k e=>(by rw [show S'.pass.sl=S'.sl from rfl,a] at e;cases e)⟩}
 have enter:∀(c:Nat) (bb:List Stm),gdL wt bb→dpL bb+1≤m.dp→Fit wt (S.enter c bb) (N+1):=fun c bb hg hd =>
  {F1 with sk:=F.sk.enter h hg hd,sl:=⟨fun k e=>(by rw [show (S.enter c bb).sl=S.sl from rfl,hs] at e;cases e),fun k e=>(by rw [show (S.enter c bb).sl=S.sl from rfl,hs] at e;cases e)⟩}
 by_cases hB:m.isB=true
 ·simp only [Own.one,if_pos hB]
  cases m with
  | whl s b =>
   simp only [lookB]
   split
   ·exact pass F1 hs rfl
   ·exact enter 0 b g.2 (by simp [Stm.dp])
  | iff s b o =>
   simp only [lookB]
   split
   ·exact enter 1 o g.2.2 (by simp [Stm.dp];omega)
   ·exact enter 0 b g.2.1 (by simp [Stm.dp];omega)
  | _=>cases hB
 ·simp only [Own.one,if_neg hB]
  have D:=F.deed h hs hN
  split
  ·next z=>exact pass D (isN_non z) (deed_stk S m)
  ·exact D
theorem one_nb {S:Pu} {m:Stm} (h:m.isB=false):one S m=(if (deed S m).1.sl.isN=true then (deed S m).1.pass else (deed S m).1,(deed S m).2):=by simp [one,h]
theorem one_b {S:Pu} {m:Stm} (h:m.isB=true):one S m=(lookB S m,[]):=by simp [one,h]
theorem lk_set {s0 s1 s2 s3 s4 s5 s6 s7 s8:Sp}:List.lookup (Str.ofString "set") [((Str.ofString "set":Str),s0),((Str.ofString "order":Str),s1),((Str.ofString "timer":Str),s2),((Str.ofString "child":Str),s3),((Str.ofString "send":Str),s4),((Str.ofString "drop":Str),s5),((Str.ofString "wait":Str),s6),((Str.ofString "hear":Str),s7),((Str.ofString "end":Str),s8)]=some s0:=by rw [lkP]
theorem lk_order {s0 s1 s2 s3 s4 s5 s6 s7 s8:Sp}:List.lookup (Str.ofString "order") [((Str.ofString "set":Str),s0),((Str.ofString "order":Str),s1),((Str.ofString "timer":Str),s2),((Str.ofString "child":Str),s3),((Str.ofString "send":Str),s4),((Str.ofString "drop":Str),s5),((Str.ofString "wait":Str),s6),((Str.ofString "hear":Str),s7),((Str.ofString "end":Str),s8)]=some s1:=by rw [lkN,lkP]
theorem lk_timer {s0 s1 s2 s3 s4 s5 s6 s7 s8:Sp}:List.lookup (Str.ofString "timer") [((Str.ofString "set":Str),s0),((Str.ofString "order":Str),s1),((Str.ofString "timer":Str),s2),((Str.ofString "child":Str),s3),((Str.ofString "send":Str),s4),((Str.ofString "drop":Str),s5),((Str.ofString "wait":Str),s6),((Str.ofString "hear":Str),s7),((Str.ofString "end":Str),s8)]=some s2:=by rw [lkN,lkN,lkP]
theorem lk_child {s0 s1 s2 s3 s4 s5 s6 s7 s8:Sp}:List.lookup (Str.ofString "child") [((Str.ofString "set":Str),s0),((Str.ofString "order":Str),s1),((Str.ofString "timer":Str),s2),((Str.ofString "child":Str),s3),((Str.ofString "send":Str),s4),((Str.ofString "drop":Str),s5),((Str.ofString "wait":Str),s6),((Str.ofString "hear":Str),s7),((Str.ofString "end":Str),s8)]=some s3:=by rw [lkN,lkN,lkN,lkP]
theorem lk_send {s0 s1 s2 s3 s4 s5 s6 s7 s8:Sp}:List.lookup (Str.ofString "send") [((Str.ofString "set":Str),s0),((Str.ofString "order":Str),s1),((Str.ofString "timer":Str),s2),((Str.ofString "child":Str),s3),((Str.ofString "send":Str),s4),((Str.ofString "drop":Str),s5),((Str.ofString "wait":Str),s6),((Str.ofString "hear":Str),s7),((Str.ofString "end":Str),s8)]=some s4:=by rw [lkN,lkN,lkN,lkN,lkP]
theorem lk_drop {s0 s1 s2 s3 s4 s5 s6 s7 s8:Sp}:List.lookup (Str.ofString "drop") [((Str.ofString "set":Str),s0),((Str.ofString "order":Str),s1),((Str.ofString "timer":Str),s2),((Str.ofString "child":Str),s3),((Str.ofString "send":Str),s4),((Str.ofString "drop":Str),s5),((Str.ofString "wait":Str),s6),((Str.ofString "hear":Str),s7),((Str.ofString "end":Str),s8)]=some s5:=by rw [lkN,lkN,lkN,lkN,lkN,lkP]
theorem lk_wait {s0 s1 s2 s3 s4 s5 s6 s7 s8:Sp}:List.lookup (Str.ofString "wait") [((Str.ofString "set":Str),s0),((Str.ofString "order":Str),s1),((Str.ofString "timer":Str),s2),((Str.ofString "child":Str),s3),((Str.ofString "send":Str),s4),((Str.ofString "drop":Str),s5),((Str.ofString "wait":Str),s6),((Str.ofString "hear":Str),s7),((Str.ofString "end":Str),s8)]=some s6:=by rw [lkN,lkN,lkN,lkN,lkN,lkN,lkP]
theorem lk_hear {s0 s1 s2 s3 s4 s5 s6 s7 s8:Sp}:List.lookup (Str.ofString "hear") [((Str.ofString "set":Str),s0),((Str.ofString "order":Str),s1),((Str.ofString "timer":Str),s2),((Str.ofString "child":Str),s3),((Str.ofString "send":Str),s4),((Str.ofString "drop":Str),s5),((Str.ofString "wait":Str),s6),((Str.ofString "hear":Str),s7),((Str.ofString "end":Str),s8)]=some s7:=by rw [lkN,lkN,lkN,lkN,lkN,lkN,lkN,lkP]
theorem lk_end {s0 s1 s2 s3 s4 s5 s6 s7 s8:Sp}:List.lookup (Str.ofString "end") [((Str.ofString "set":Str),s0),((Str.ofString "order":Str),s1),((Str.ofString "timer":Str),s2),((Str.ofString "child":Str),s3),((Str.ofString "send":Str),s4),((Str.ofString "drop":Str),s5),((Str.ofString "wait":Str),s6),((Str.ofString "hear":Str),s7),((Str.ofString "end":Str),s8)]=some s8:=by rw [lkN,lkN,lkN,lkN,lkN,lkN,lkN,lkN,lkP]
theorem deeds9 {Z:Str→Sp→Prop} {y:Str} {sp s0 s1 s2 s3 s4 s5 s6 s7 s8:Sp} (h:List.lookup y [((Str.ofString "set":Str),s0),((Str.ofString "order":Str),s1),((Str.ofString "timer":Str),s2),((Str.ofString "child":Str),s3),((Str.ofString "send":Str),s4),((Str.ofString "drop":Str),s5),((Str.ofString "wait":Str),s6),((Str.ofString "hear":Str),s7),((Str.ofString "end":Str),s8)]=some sp) (z0:Z "set" s0) (z1:Z "order" s1) (z2:Z "timer" s2) (z3:Z "child" s3) (z4:Z "send" s4) (z5:Z "drop" s5) (z6:Z "wait" s6) (z7:Z "hear" s7) (z8:Z "end" s8):Z y sp:=by
 rcases lkC h with ⟨rfl,rfl⟩ | h
 ·exact z0
 rcases lkC h with ⟨rfl,rfl⟩ | h
 ·exact z1
 rcases lkC h with ⟨rfl,rfl⟩ | h
 ·exact z2
 rcases lkC h with ⟨rfl,rfl⟩ | h
 ·exact z3
 rcases lkC h with ⟨rfl,rfl⟩ | h
 ·exact z4
 rcases lkC h with ⟨rfl,rfl⟩ | h
 ·exact z5
 rcases lkC h with ⟨rfl,rfl⟩ | h
 ·exact z6
 rcases lkC h with ⟨rfl,rfl⟩ | h
 ·exact z7
 rcases lkC h with ⟨rfl,rfl⟩ | h
 ·exact z8
 cases h
theorem goOn_none {S:Pu} (h:stand S.come.stk=none) (n:Nat):goOn n S=S.come.ends none:=by
 cases n<;>simp only [goOn,h]
theorem goOn_zero {S:Pu} {m:Stm} (h:stand S.come.stk=some m):goOn 0 S=S.come.wears:=by simp only [goOn,h]
theorem goOn_go {S:Pu} {m:Stm} (h:stand S.come.stk=some m) (z:(one S.come m).1.sl.isN=true) (n:Nat):goOn (n+1) S=((goOn n (one S.come m).1).1,(one S.come m).2++(goOn n (one S.come m).1).2):=by simp only [goOn,h,z,if_true]
theorem goOn_stop {S:Pu} {m:Stm} (h:stand S.come.stk=some m) (z:(one S.come m).1.sl.isN=false) (n:Nat):goOn (n+1) S=one S.come m:=by simp only [goOn,h,z,if_false,Bool.false_eq_true]
theorem deed_len (S:Pu) (m:Stm):(deed S m).2.length≤1:=by
 cases m<;>simp only [deed,Pu.ends,List.length_cons,List.length_nil,Nat.zero_le,Nat.le_refl,Nat.zero_add]
 ·split
  ·split<;>simp
  ·simp
 ·split<;>simp
 ·split<;>simp
theorem one_len (S:Pu) (m:Stm):(one S m).2.length≤1:=by
 unfold one
 split
 ·simp
 ·exact deed_len S m
inductive Hap where
 | beg (m:Int) (w:Wo) | don (m t:Int) (w:Wo) | ltr (m:Int) (k:Str) (w:Wo)
noncomputable def Hap.ini:Hap→List V
 | .beg m _=>[.str "begin",.int m]
 | .don m t _=>[.str "done",.int m,.int t]
 | .ltr m k _=>[.str "letter",.int m,.str k]
noncomputable def Hap.w:Hap→Wo
 | .beg _ w | .don _ _ w | .ltr _ _ w=>w
noncomputable def Hap.vs (h:Hap):List V:=h.ini++[wv h.w]
noncomputable def Hap.m:Hap→Int
 | .beg m _ | .don m _ _ | .ltr m _ _=>m
noncomputable def HapAt (H:Hp) (v:V) (h:Hap):Prop:=∃ a,v=.ref a∧H a=some (.tup h.vs)
theorem HapAt.kp {S:List Addr} {H H':Hp} {v:V} {h:Hap} (x:HapAt H v h) (k:Kp [] H H'):HapAt H' v h:=by
 obtain ⟨a,e,f⟩:=x
 exact ⟨a,e,k.at f⟩
noncomputable def Pu.over (S:Pu) (h:Hap):Bool:=match S.sl with
 | .new=>(match h with
  | .beg _ _=>false
  | _=>true)
 | .ended _=>true
 | .worn=>true
 | _=>(match h with
  | .beg _ _=>true
  | .don _ i _=>!decide (i∈S.pend)
  | .ltr _ _ _=>false)
noncomputable def addL (l:List (Str×List Wo)) (k:Str) (w:Wo):List (Str×List Wo):=match lookL l k with
 | some ws=>setL l k (ws++[w])
 | none=>l++[(k,[w])]
noncomputable def Pu.at' (S:Pu) (m:Int):Pu:={S with nw:=later S.nw m}
noncomputable def Pu.done (S:Pu) (i:Int) (w:Wo):Pu:={S with pend:=S.pend.filter fun j=>decide (j≠i),ans:=S.ans++[(i,w)]}
noncomputable def Pu.takeD (S:Pu) (i:Int) (w:Wo):Pu×Cmds:=match S.sl with
 | .wait ts=>if i∈ts then (S.done i w).wake (some i) else (S.done i w,[])
 | _=>(S.done i w,[])
noncomputable def Pu.takeL (S:Pu) (k:Str) (w:Wo):Pu×Cmds:=match S.sl with
 | .hear k'=>if k'=k then S.wake w else ({S with lt:=addL S.lt k w},[])
 | _=>({S with lt:=addL S.lt k w},[])
noncomputable def Pu.take (S:Pu) (h:Hap):Pu×Cmds:=if S.over h=true then (S,[]) else match h with
 | .beg m w=>goOn 300 {S with nw:=later S.nw m,ar:=w,sl:=.non}
 | .don m i w=>(S.at' m).takeD i w
 | .ltr m k w=>(S.at' m).takeL k w
noncomputable def newP (b:List Stm):Pu:=⟨[(0,b,0)],.new,none,0,[],0,[],[],[]⟩
inductive spOver (C:Cl) (vs:List V) (H:Hp) (Q:VK) (E:XK):Prop
 | mk (R:Rn) (as:List Addr) (sl:V) (S:Pu) (v:V) (h:Hap) (_:vs=[.ref R.x,v]) (_:RunAt C H R as sl S) (_:S.sl.isN=false) (_:HapAt H v h) (_:∀ H',Kp [] H H'→Q (.bl (S.over h)) H'):spOver C vs H Q E
inductive spWakeR (C:Cl) (wt:Bool) (vs:List V) (H:Hp) (Q:VK) (E:XK):Prop
 | mk (R:Rn) (as:List Addr) (sl:V) (S:Pu) (w:Wo) (N:Nat) (_:vs=[.ref R.x,wv w]) (_:RunAt C H R as sl S) (_:Fit wt S N) (_:N≤700000) (_:isWo w) (_:((∃ k,S.sl=.hear k)∨∃ ts,S.sl=.wait ts)) (_:Told C R as as H Q (S.wake w)):spWakeR C wt vs H Q E
inductive spTDone (C:Cl) (wt:Bool) (vs:List V) (H:Hp) (Q:VK) (E:XK):Prop
 | mk (R:Rn) (as:List Addr) (sl:V) (S:Pu) (i:Int) (w:Wo) (N:Nat) (_:vs=[.ref R.x,.int i,wv w]) (_:RunAt C H R as sl S) (_:Fit wt S N) (_:N≤600000) (_:isWo w) (_:i∈S.pend) (_:S.sl.isN=false) (_:Told C R as as H Q (S.takeD i w)):spTDone C wt vs H Q E
inductive spTLet (C:Cl) (wt:Bool) (vs:List V) (H:Hp) (Q:VK) (E:XK):Prop
 | mk (R:Rn) (as:List Addr) (sl:V) (S:Pu) (k:Str) (w:Wo) (N:Nat) (_:vs=[.ref R.x,.str k,wv w]) (_:RunAt C H R as sl S) (_:Fit wt S N) (_:N≤600000) (_:isWo w) (_:((∃ k,S.sl=.hear k)∨∃ ts,S.sl=.wait ts)) (_:∀ as',Told C R as as' H Q (S.takeL k w)):spTLet C wt vs H Q E
inductive spTakeR (C:Cl) (wt:Bool) (vs:List V) (H:Hp) (Q:VK) (E:XK):Prop
 | mk (R:Rn) (as:List Addr) (sl:V) (S:Pu) (v:V) (h:Hap) (N:Nat) (_:vs=[.ref R.x,v]) (_:RunAt C H R as sl S) (_:Fit wt S N) (_:N≤500000) (_:S.sl.isN=false) (_:HapAt H v h) (_:((0≤h.m∧h.m≤1000000000000)∧isWo h.w)) (_:∀ as',Told C R as as' H Q (S.take h)):spTakeR C wt vs H Q E
inductive spRInit (C:Cl) (vs:List V) (H:Hp) (Q:VK) (E:XK):Prop
 | mk (x dx pg:Addr) (us:List V) (b:List Stm) (_:vs=[.ref x,.ref pg]) (_:H x=some (.ins C.r dx [])) (_:H pg=some (.tup us)) (_:StmsAt H us b) (_:∀(R:Rn) (sl:V) (H':Hp),R.x=x→RunAt C H' R [] sl (newP b)→Kp [x] H H'→(∀ a∈R.cells,a=x∨H a=none)→Q .non H'):spRInit C vs H Q E
theorem in_ints (i:Int) (ts:List Int):inV (.int i) (ts.map V.int)=decide (i∈ts):=by
 rw [Bool.eq_iff_iff]
 simp [inV,eqV]
theorem flat_ints (ts:List Int):(ts.map V.int).all flatV=true:=by simp [flatV]
theorem hear_eq {K:PySem.W.Frag} {H:Hp} {a b:Addr} {z x y:Str} (n:Nat) (ha:H a=some (.tup [.str z,.str x])) (hb:H b=some (.tup [.str z,.str y])):RcA K H (n+1) a b (decide (x=y)):=by
 have:=RcA.tup (K:=K) (H:=H) (n:=n) (e:=fun j=>if j=0 then true else decide (x=y)) (SqT.of ha) (SqT.of hb) fun j u v e1 e2=>by
  rcases j with _ | _ | j
  ·simp only [List.getElem?_cons_zero,Option.some.injEq] at e1 e2
   subst e1 e2
   have:=EqA.flat (K:=K) (H:=H) (n:=n) (x:=.str z) (y:=.str z) rfl rfl
   rwa [show eqV (.str z) (.str z)=true by simp [eqV]] at this
  ·simp only [List.getElem?_cons_succ,List.getElem?_cons_zero,Option.some.injEq] at e1 e2
   subst e1 e2
   have:=EqA.flat (K:=K) (H:=H) (n:=n) (x:=.str x) (y:=.str y) rfl rfl
   rwa [eqV_str] at this
  ·simp at e1
 rw [show ((List.range (min [V.str z,V.str x].length [V.str z,V.str y].length)).all (fun j=>if j=0 then true else decide (x=y)) && [V.str z,V.str x].length == [V.str z,V.str y].length)=decide (x=y) by simp [List.range_succ]] at this
 exact this
theorem Fit.at' {wt:Bool} {S:Pu} {N:Nat} (F:Fit wt S N) {m:Int} (h:0≤m∧m≤1000000000000):Fit wt (S.at' m) N :=
 {F with pl:=⟨F.pl.nm,F.pl.ar,F.pl.an⟩,nw:=(by have:=F.nw;show 0≤later S.nw m∧later S.nw m≤1000000000000;unfold later;split<;>omega)}
theorem lookA_snoc {i:Int} {w:Wo}:∀(l:List (Int×Wo)) (x:Wo),lookA (l++[(i,w)]) x=lookA l x∨lookA (l++[(i,w)]) x=w
 | _,none=>.inl (by simp [lookA])
 | [],some j=>by
  by_cases h:i=j
  ·exact .inr (by simp [lookA,h])
  ·exact .inl (by simp [lookA,h])
 | p::r,some j=>by
  by_cases h:p.1=j
  ·exact .inl (by simp [lookA,h])
  ·rcases lookA_snoc (i:=i) (w:=w) r (some j) with z | z
   ·exact .inl (by simp [lookA,h,z])
   ·exact .inr (by simp [lookA,h,z])
theorem Fit.done {wt:Bool} {S:Pu} {N:Nat} (F:Fit wt S N) {i:Int} {w:Wo} (hw:isWo w):Fit wt (S.done i w) (N+1) :=
 {F.more (Nat.le_succ N) with
  pd:=Nat.le_trans filter_le (Nat.le_succ_of_le F.pd)
  an:=(by have:=F.an;show (S.ans++[(i,w)]).length≤N+1;simp;exact this)
  pl:=⟨F.pl.nm,F.pl.ar,fun x=>(by
   show isWo (lookA (S.ans++[(i,w)]) x)
   rcases lookA_snoc (i:=i) (w:=w) S.ans x with z | z
   ·rw [z];exact F.pl.an x
   ·rw [z];exact hw)⟩}
theorem lookL_snoc {k:Str} {ws:List Wo}:∀(l:List (Str×List Wo)) (j:Str) (vs:List Wo),lookL (l++[(k,ws)]) j=some vs→(j=k∧vs=ws)∨lookL l j=some vs
 | [],j,vs,h=>by
  rw [List.nil_append,lookL] at h
  by_cases e:k=j
  ·rw [if_pos e] at h;cases h;exact .inl ⟨e.symm,rfl⟩
  ·rw [if_neg e] at h;cases h
 | p::r,j,vs,h=>by
  rw [List.cons_append,lookL] at h
  by_cases e:p.1=j
  ·rw [if_pos e] at h;exact .inr (by rw [lookL,if_pos e];exact h)
  ·rw [if_neg e] at h
   rcases lookL_snoc r j vs h with z | z
   ·exact .inl z
   ·exact .inr (by rw [lookL,if_neg e];exact z)
theorem Fit.addL {wt:Bool} {S:Pu} {N:Nat} (F:Fit wt S N) {k:Str} {w:Wo} (hw:isWo w):Fit wt {S with lt:=addL S.lt k w} (N+1):=by
 have F1:=F.more (Nat.le_succ N)
 unfold Own.addL
 cases e:lookL S.lt k with
 | some ws =>
  have hl:=F.lw k ws e
  exact {F1 with
   lt:=(by have:=F.lt;show (setL S.lt k (ws++[w])).length≤N+1;rw [setL_len];omega)
   lw:=fun j vs h=>by
    rcases lookL_set S.lt k _ j vs h with ⟨_,rfl⟩ | z
    ·exact ⟨by have:=hl.1;simp;exact this,fun u hu=>by
      rcases List.mem_append.mp hu with hu | hu
      ·exact hl.2 u hu
      ·rw [show u=w by simpa using hu];exact hw⟩
    ·exact F1.lw j vs z}
 | none =>
  exact {F1 with
   lt:=(by have:=F.lt;show (S.lt++[(k,[w])]).length≤N+1;simp;exact this)
   lw:=fun j vs h=>by
    rcases lookL_snoc S.lt j vs h with ⟨_,rfl⟩ | z
    ·exact ⟨by simp,fun u hu=>by rw [show u=w by simpa using hu];exact hw⟩
    ·exact F1.lw j vs z}
theorem set_new {k:Str} {a b:List Wo}:∀ {l:List (Str×List Wo)},lookL l k=none→setL (l++[(k,a)]) k b=l++[(k,b)]
 | [],_=>by simp [setL]
 | p::r,h=>by
  rw [lookL] at h
  by_cases e:p.1=k
  ·rw [if_pos e] at h;cases h
  ·rw [if_neg e] at h
   rw [List.cons_append,setL,if_neg e,set_new h]
   rfl
theorem Fit.wake {wt:Bool} {S:Pu} {N:Nat} (F:Fit wt S N) {m:Stm} (h:stand S.stk=some m) {w:Wo} (hw:isWo w) (n:Str):Fit wt {S with nm:=putN S.nm n w,stk:=passBy S.stk,sl:=.non} (N+1) :=
 {F.more (Nat.le_succ N) with
  nm:=(by have:=putN_len S.nm n w;have:=F.nm;show (putN S.nm n w).length≤N+1;omega)
  pl:=(ok_put F.pl n hw)
  sk:=F.sk.pass h
  sl:=⟨fun k e=>(by cases e),fun k e=>(by cases e)⟩}
theorem frJ {x:Addr} {H G:Hp} {p:Addr} {u:HO} (k:Kp [x] H G) (gx:G x=some u) (hp:G p=none):H p=none:=by
 cases z:H p with
 | none=>rfl
 | some o =>
  by_cases hz:p=x
  ·subst hz
   rw [gx] at hp
   cases hp
  ·rw [k.at1 z hz] at hp
   cases hp
theorem mk_walk {C:Addr} {H1:Hp} {pg:Addr} {us:List V} {b:List Stm} {Q:Addr→Hp→Prop} {E:XK} (ep:H1 pg=some (.tup us)) (hs:StmsAt H1 us b) (q:∀ x wx lb ln H',Kp [] H1 H'→H1 x=none→H1 lb=none→H1 ln=none→WkAt C H' x wx lb ln [(0,b,0)]→Q x H') : ∀ x dx,H1 x=none→H1 dx=none→dx≠x→spWkInit C [.ref x,.ref pg] (upd (upd H1 dx (.own x)) x (.ins C dx [])) (fun v H2=>v=.non∧Q x H2) E:=fun x dx hx hdx ne=>by
 have K1:Kp [] H1 (upd (upd H1 dx (.own x)) x (.ins C dx [])):=(Kp.new hdx).trans (Kp.new (by rw [upd_ne ne.symm];exact hx))
 exact ⟨x,dx,pg,us,b,rfl,upd_same,K1.at ep,hs.kp (TupKp.nil K1),fun lb ln H' f1 f2 W K=>⟨rfl,q x dx lb ln H' (Kp.drop ((K1.mono (by simp)).trans K) hx) hx (none_upd (none_upd f1)) (none_upd (none_upd f2)) W⟩⟩
theorem mk_tk {C:Addr} {H1:Hp} {Q:Addr→Hp→Prop} {E:XK} (q:∀ x tx dp da H',Kp [] H1 H'→H1 x=none→H1 dp=none→H1 da=none→TkAt C H' x tx dp da 0 [] []→Q x H') : ∀ x dx,H1 x=none→H1 dx=none→dx≠x→spTkInit C [.ref x] (upd (upd H1 dx (.own x)) x (.ins C dx [])) (fun v H2=>v=.non∧Q x H2) E:=fun x dx hx hdx ne=>by
 have K1:Kp [] H1 (upd (upd H1 dx (.own x)) x (.ins C dx [])):=(Kp.new hdx).trans (Kp.new (by rw [upd_ne ne.symm];exact hx))
 exact ⟨x,dx,rfl,upd_same,fun dp da H' f1 f2 T K=>⟨rfl,q x dx dp da H' (Kp.drop ((K1.mono (by simp)).trans K) hx) hx (none_upd (none_upd f1)) (none_upd (none_upd f2)) T⟩⟩
theorem mk_run {C:Cl} {H1:Hp} {pg:Addr} {us:List V} {b:List Stm} {Q:Addr→Hp→Prop} {E:XK} (ep:H1 pg=some (.tup us)) (hs:StmsAt H1 us b) (q:∀(R:Rn) (sl:V) H',RunAt C H' R [] sl (newP b)→Kp [] H1 H'→(∀ a∈R.cells,H1 a=none)→Q R.x H') : ∀ x dx,H1 x=none→H1 dx=none→dx≠x→spRInit C [.ref x,.ref pg] (upd (upd H1 dx (.own x)) x (.ins C.r dx [])) (fun v H2=>v=.non∧Q x H2) E:=fun x dx hx hdx ne=>by
 have K1:Kp [] H1 (upd (upd H1 dx (.own x)) x (.ins C.r dx [])):=(Kp.new hdx).trans (Kp.new (by rw [upd_ne ne.symm];exact hx))
 refine ⟨x,dx,pg,us,b,rfl,upd_same,K1.at ep,hs.kp (TupKp.nil K1),fun R sl H' e1 A K M=>⟨rfl,?_⟩⟩
 subst e1
 exact q R sl H' A (Kp.drop ((K1.mono (by simp)).trans K) hx) fun a ha=>by
  rcases M a ha with rfl | z
  ·exact hx
  ·exact none_upd (none_upd z)
noncomputable def Stm.isPl:Stm→Bool
 | .set _ _ | .order _ _ _ | .timer _ _ | .child _ _ _ | .send _ _ _ | .drop _=>true
 | _=>false
theorem modOk {i M:Int} (h:0 < M) (h':M≤2 ^ 62) (j:Int):CMul (i % M) j:=by
 have:=Int.emod_nonneg i (show M≠0 by omega)
 have:=Int.emod_lt_of_pos i h
 exact .inl ⟨by omega,by omega⟩
theorem ix32:ixN 3 2=some 2:=rfl
structure DeckAt (H:Hp) (r:Addr) (n:Nat):Prop where
 ex:∃ c m s:Int,H r=some (.lst [.int c,.int m,.int s])∧0≤s∧s≤n
theorem DeckAt.kp {H H':Hp} {r:Addr} {n:Nat} (R:DeckAt H r n) (h:Kp [] H H'):DeckAt H' r n:=by
 obtain ⟨c,m,s,e,x⟩:=R
 exact ⟨c,m,s,h _ _ e (by simp),x⟩
theorem DeckAt.new {H:Hp} {r p:Addr} {o:HO} {n:Nat} (R:DeckAt H r n) (h:H p=none):DeckAt (upd H p o) r n:=R.kp (Kp.new h)
theorem DeckAt.none {H:Hp} {r p:Addr} {n:Nat} (R:DeckAt H r n) (h:H p=Option.none):p≠r:=by
 obtain ⟨c,m,s,e,_⟩:=R
 exact (ne_of_none e h).symm
theorem made1 {r p:Addr} {H H':Hp} {o:HO} {n:Nat} (x:Kp [r] (upd H p o) H') (R:DeckAt H r n) (h:H p=none):H' p=some o:=x.at1 upd_same (R.none h)
noncomputable def spDTake:Sp:=fun vs H Q _=>∃(r:Addr) (m:Int) (n:Nat),vs=[.ref r,.int m]∧0 < m∧m≤10 ^ 45∧DeckAt H r n∧n≤1000∧∀(g:Int) (H':Hp),0≤g→g < m→DeckAt H' r (n+1)→Kp [r] H H'→Q (.int g) H'
theorem q_dtake {r:Addr} {m:Int} {H:Hp} {Q:VK} {E:XK}:spDTake [.ref r,.int m] H Q E=(0 < m∧m≤10 ^ 45∧∃ n,DeckAt H r n∧n≤1000∧∀(g:Int) (H':Hp),0≤g→g < m→DeckAt H' r (n+1)→Kp [r] H H'→Q (.int g) H') :=
 propext ⟨fun ⟨_,_,n,e,a,b,c⟩=>by cases e;exact ⟨a,b,n,c⟩,fun ⟨a,b,n,c⟩=>⟨_,_,n,rfl,a,b,c⟩⟩
inductive spDeck (vs:List V) (H:Hp) (Q:VK) (E:XK):Prop
 | mk (z:Int) (k:Nat) (_:vs=[.int z,.int k]) (_:∀ r H',H r=none→Kp [] H H'→DeckAt H' r k→Q (.ref r) H'):spDeck vs H Q E
noncomputable def AtomV:V→Prop
 | .non=>True
 | .str _=>True
 | .int _=>True
 | _=>False
inductive AlD (H:Hp):Nat→V→V→Prop
 | atom {d:Nat} {v:V}:AtomV v→AlD H (d+1) v v
 | tup {d:Nat} {a b:Addr} {xs ys:List V}:H a=some (.tup xs)→H b=some (.tup ys)→xs.length=ys.length→xs.length≤1000→(∀(i:Nat) x y,xs[i]?=some x→ys[i]?=some y→AlD H d x y)→AlD H (d+1) (.ref a) (.ref b)
 | lst {d:Nat} {a b:Addr} {xs ys:List V}:H a=some (.lst xs)→H b=some (.lst ys)→xs.length=ys.length→xs.length≤1000→(∀(i:Nat) x y,xs[i]?=some x→ys[i]?=some y→AlD H d x y)→AlD H (d+1) (.ref a) (.ref b)
theorem AlD.kp {H H':Hp} {d:Nat} {v u:V} (h:AlD H d v u) (k:Kp [] H H'):AlD H' d v u:=by
 induction h with
 | atom a=>exact .atom a
 | tup a b c l _ ih=>exact .tup (k.at a) (k.at b) c l ih
 | lst a b c l _ ih=>exact .lst (k.at a) (k.at b) c l ih
inductive spAlD (d:Nat) (vs:List V) (H:Hp) (Q:VK) (E:XK):Prop
 | mk (v u:V) (d':Nat) (_:vs=[v,u]) (_:d'=d) (_:AlD H d' v u) (_:∀ H',Kp [] H H'→Q (.bl true) H'):spAlD d vs H Q E
theorem wv_atom (w:Wo):AtomV (wv w):=by cases w<;>trivial
theorem nil_eq {K:PySem.W.Frag} {H:Hp} {a b:Addr} {n:Nat} (ea:H a=some (.lst [])) (eb:H b=some (.lst [])):RcA K H (n+1) a b true :=
 .list (n:=n) (xs:=[]) (ys:=[]) (e:=fun _=>true) (SqL.of ea) (SqL.of eb) rfl (fun j x y h1 _=>by simp at h1)
theorem cut_if {c:TT} {t u:TS} {D:Ends} {σ:St} {H:Hp} (h:∀ R:St→Hp→Prop,(∀ σ' H',t D σ' H'→R σ' H')→tIfS c (fun _=>R) u D σ H):tIfS c t u D σ H:=h (t D) fun _ _ z=>z
theorem cut_el {c:TT} {t u:TS} {D:Ends} {σ:St} {H:Hp} (h:∀ R:St→Hp→Prop,(∀ σ' H',u D σ' H'→R σ' H')→tIfS c t (fun _=>R) D σ H):tIfS c t u D σ H:=h (u D) fun _ _ z=>z
theorem cut_wh {c:TT} {tb:TS} {D:Ends} {σ:St} {H:Hp} (h:∀ b:TS,(∀ D σ H,tb D σ H→b D σ H)→tWhile c b D σ H):tWhile c tb D σ H:=h tb fun _ _ _ z=>z
theorem _root_.L2.Kp.wasFree {H H':Hp} {p:Addr} (k:Kp [] H H') (h:H' p=none):H p=none:=by
 cases e:H p with
 | none=>rfl
 | some o=>rw [k.at e] at h;cases h
structure Fr where
 hd:Option (Bool×Say)
 b1:List Stm
 b2:Option (List Stm)
structure FC where
 fa:Addr
 f1:Addr
 f2:Option Addr
noncomputable def FC.cells (c:FC):List Addr:=c.fa::c.f1::c.f2.toList
noncomputable def FC.cur (c:FC):Addr:=c.f2.getD c.f1
noncomputable def rv:Option Addr→V
 | none=>.non
 | some a=>.ref a
noncomputable def HdAt (H:Hp) (u v:V):Option (Bool×Say)→Prop
 | none=>u=.str ""∧v=.non
 | some (i,s)=>u=.str (if i=true then "if" else "while")∧SayAt H v s
noncomputable def B2At (H:Hp):Option Addr→Option (List Stm)→Prop
 | none,none=>True
 | some a,some b=>∃ us,H a=some (.lst us)∧StmsAt H us b
 | _,_=>False
noncomputable def FrAt (H:Hp) (c:FC) (f:Fr):Prop:=∃ hu hv us1,H c.fa=some (.lst [hu,hv,.ref c.f1,rv c.f2])∧HdAt H hu hv f.hd∧H c.f1=some (.lst us1)∧StmsAt H us1 f.b1∧B2At H c.f2 f.b2
theorem HdAt.kt {H H':Hp} {u v:V} {h:Option (Bool×Say)} (x:HdAt H u v h) (t:TupKp H H'):HdAt H' u v h:=by
 cases h with
 | none=>exact x
 | some p=>exact ⟨x.1,x.2.kp t⟩
theorem B2At.keep {H H':Hp} {o:Option Addr} {b:Option (List Stm)} (x:B2At H o b) (k:∀ a∈o.toList,∀ u,H a=some u→H' a=some u) (t:TupKp H H'):B2At H' o b:=by
 cases o with
 | none=>cases b<;>exact x
 | some a =>
  cases b with
  | none=>exact x
  | some b=>obtain ⟨us,e,h⟩:=x;exact ⟨us,k a (by simp) _ e,h.kp t⟩
theorem FrAt.keep {H H':Hp} {c:FC} {f:Fr} (h:FrAt H c f) (k:∀ a∈c.cells,∀ o,H a=some o→H' a=some o) (t:TupKp H H'):FrAt H' c f:=by
 obtain ⟨hu,hv,us1,e1,e2,e3,e4,e5⟩:=h
 exact ⟨hu,hv,us1,k _ (by simp [FC.cells]) _ e1,e2.kt t,k _ (by simp [FC.cells]) _ e3,e4.kp t,e5.keep (fun a ha=>k a (by simp [FC.cells] at ha ⊢;exact .inr (.inr ha))) t⟩
noncomputable def Fr.add (f:Fr) (m:Stm):Fr:=match f.b2 with
 | none=>{f with b1:=f.b1++[m]}
 | some b=>{f with b2:=some (b++[m])}
theorem StmsAt.snocF {H:Hp} {vs:List V} {ss:List Stm} {v:V} {s:Stm} (h:StmsAt H vs ss) (a:StmAt H v s):StmsAt H (vs++[v]) (ss++[s]):=by
 induction ss generalizing vs with
 | nil=>cases h;exact .cons a .nil
 | cons x r ih=>cases h with | cons b c=>exact .cons b (ih c)
theorem FrAt.add {H:Hp} {c:FC} {f:Fr} {v:V} {m:Stm} (h:FrAt H c f) (nd:c.cells.Nodup) (hm:StmAt H v m):∃ us b,H c.cur=some (.lst us)∧StmsAt H us b∧(b=f.b1∨f.b2=some b)∧FrAt (upd H c.cur (.lst (us++[v]))) c (f.add m):=by
 obtain ⟨hu,hv,us1,e1,e2,e3,e4,e5⟩:=h
 obtain ⟨fa,f1,f2⟩:=c
 obtain ⟨hd,b1,b2⟩:=f
 cases f2 with
 | none =>
  cases b2 with
  | some b=>exact e5.elim
  | none =>
   have n1:fa≠f1:=by simp [FC.cells] at nd;exact nd
   have t:TupKp H (upd H f1 (.lst (us1++[v]))):=TupKp.setO e3
   exact ⟨us1,b1,e3,e4,.inl rfl,hu,hv,us1++[v],(by show upd H f1 _ fa=_;rw [upd_ne n1];exact e1),e2.kt t,upd_same,(e4.kp t).snocF (hm.kp t),trivial⟩
 | some a =>
  cases b2 with
  | none=>exact e5.elim
  | some b =>
   obtain ⟨us2,e6,e7⟩:=e5
   have n1:fa≠a∧f1≠a:=by simp [FC.cells] at nd;exact ⟨nd.1.2,nd.2⟩
   have t:TupKp H (upd H a (.lst (us2++[v]))):=TupKp.setO e6
   exact ⟨us2,b,e6,e7,.inr rfl,hu,hv,us1,(by show upd H a _ fa=_;rw [upd_ne n1.1];exact e1),e2.kt t,(by show upd H a _ f1=_;rw [upd_ne n1.2];exact e3),e4.kp t,us2++[v],upd_same,(e7.kp t).snocF (hm.kp t)⟩
noncomputable def cellsL (L:List (FC×Fr)):List Addr:=L.flatMap fun x=>x.1.cells
structure FsAt (H:Hp) (fl:Addr) (L:List (FC×Fr)):Prop where
 e:H fl=some (.lst (L.map fun x=>.ref x.1.fa))
 fr:∀ x∈L,FrAt H x.1 x.2
 nd:(fl::cellsL L).Nodup
theorem cells_app (L M:List (FC×Fr)):cellsL (L++M)=cellsL L++cellsL M:=by simp [cellsL]
theorem cells_one (x:FC×Fr):cellsL [x]=x.1.cells:=by simp [cellsL]
theorem cells_in {L:List (FC×Fr)} {x:FC×Fr} (h:x∈L) {a:Addr} (ha:a∈x.1.cells):a∈cellsL L:=List.mem_flatMap.mpr ⟨x,h,ha⟩
theorem FsAt.keep {H H':Hp} {fl:Addr} {L:List (FC×Fr)} (F:FsAt H fl L) (k:∀ a∈fl::cellsL L,∀ o,H a=some o→H' a=some o) (t:TupKp H H'):FsAt H' fl L :=
 ⟨k _ (by simp) _ F.e,fun x hx=>(F.fr x hx).keep (fun a ha=>k a (List.mem_cons_of_mem _ (cells_in hx ha))) t,F.nd⟩
theorem FsAt.kp {H H':Hp} {fl:Addr} {L:List (FC×Fr)} (F:FsAt H fl L) (k:Kp [] H H'):FsAt H' fl L:=F.keep (fun _ _ _ e=>k.at e) (TupKp.nil k)
theorem FrAt.lst {H:Hp} {c:FC} {f:Fr} (h:FrAt H c f):∀ a∈c.cells,∃ xs,H a=some (.lst xs):=by
 obtain ⟨hu,hv,us1,e1,e2,e3,e4,e5⟩:=h
 intro a ha
 simp only [FC.cells,List.mem_cons] at ha
 rcases ha with rfl | rfl | ha
 ·exact ⟨_,e1⟩
 ·exact ⟨_,e3⟩
 ·cases h2:c.f2 with
  | none=>rw [h2] at ha;simp at ha
  | some b =>
   rw [h2] at ha e5
   cases hb:f.b2 with
   | none=>rw [hb] at e5;exact e5.elim
   | some b'=>rw [hb] at e5;obtain ⟨us,e,_⟩:=e5;rw [show a=b by simpa using ha];exact ⟨_,e⟩
theorem FsAt.free {H:Hp} {fl p:Addr} {L:List (FC×Fr)} (F:FsAt H fl L) (h:H p=none):p∉fl::cellsL L:=fun z=>by
 rcases List.mem_cons.mp z with rfl | z
 ·rw [F.e] at h;cases h
 ·obtain ⟨x,hx,hp⟩:=List.mem_flatMap.mp z
  obtain ⟨xs,e⟩:=(F.fr x hx).lst p hp
  rw [h] at e
  cases e
theorem FsAt.app {H:Hp} {fl:Addr} {I:List (FC×Fr)} {x:FC×Fr} {v:V} {m:Stm} (F:FsAt H fl (I++[x])) (hm:StmAt H v m):∃ us b,H x.1.cur=some (.lst us)∧StmsAt H us b∧(b=x.2.b1∨x.2.b2=some b)∧x.1.cur∈x.1.cells∧FsAt (upd H x.1.cur (.lst (us++[v]))) fl (I++[(x.1,x.2.add m)]):=by
 have nd:=F.nd
 rw [cells_app,cells_one,List.nodup_cons,List.nodup_append] at nd
 obtain ⟨us,b,e1,e2,e3,e4⟩:=(F.fr x (by simp)).add nd.2.2.1 hm
 have hc:x.1.cur∈x.1.cells:=by
  cases h:x.1.f2<;>simp [FC.cur,FC.cells,h]
 have t:TupKp H (upd H x.1.cur (.lst (us++[v]))):=TupKp.setO e1
 refine ⟨us,b,e1,e2,e3,hc,⟨?_,fun y hy=>?_,?_⟩⟩
 ·rw [upd_ne (fun z=>nd.1 (by rw [z];simp [hc]))]
  rw [F.e]
  simp
 ·rcases List.mem_append.mp hy with hy | hy
  ·refine (F.fr y (by simp [hy])).keep (fun a ha o e=>?_) t
   rw [upd_ne (fun z=>nd.2.2.2 a (cells_in hy ha) _ hc z)]
   exact e
  ·rw [show y=(x.1,x.2.add m) by simpa using hy]
   exact e4
 ·rw [cells_app,cells_one]
  exact List.nodup_cons.mpr ⟨nd.1,List.nodup_append.mpr nd.2⟩
theorem FsAt.pop {H:Hp} {fl:Addr} {I:List (FC×Fr)} {x:FC×Fr} (F:FsAt H fl (I++[x])):FsAt (upd H fl (.lst (I.map fun x=>.ref x.1.fa))) fl I∧FrAt (upd H fl (.lst (I.map fun x=>.ref x.1.fa))) x.1 x.2:=by
 have nd:=F.nd
 rw [cells_app,cells_one,List.nodup_cons,List.nodup_append] at nd
 have t:TupKp H (upd H fl (.lst (I.map fun x=>.ref x.1.fa))):=TupKp.setO F.e
 have k:∀ y∈I++[x],FrAt (upd H fl (.lst (I.map fun x=>.ref x.1.fa))) y.1 y.2:=fun y hy=>(F.fr y hy).keep (fun a ha o e=>by
  rw [upd_ne (fun z=>nd.1 (by
   rw [← z]
   have:=cells_in hy ha
   rw [cells_app,cells_one] at this
   exact this))]
  exact e) t
 exact ⟨⟨upd_same,fun y hy=>k y (by simp [hy]),List.nodup_cons.mpr ⟨fun z=>nd.1 (by simp [z]),nd.2.1⟩⟩,k x (by simp)⟩
theorem FsAt.push {H:Hp} {fl fa f1:Addr} {L:List (FC×Fr)} {hu hv:V} {h:Option (Bool×Say)} {us:List V} {bb:List Stm} (F:FsAt H fl L) (e1:H fa=some (.lst [hu,hv,.ref f1,.non])) (e2:H f1=some (.lst us)) (hb:StmsAt H us bb) (hh:HdAt H hu hv h) (n1:fa∉fl::cellsL L) (n2:f1∉fl::cellsL L) (n3:fa≠f1):FsAt (upd H fl (.lst ((L++[((⟨fa,f1,none⟩:FC),(⟨h,bb,none⟩:Fr))]).map fun x=>.ref x.1.fa))) fl (L++[((⟨fa,f1,none⟩:FC),(⟨h,bb,none⟩:Fr))]):=by
 have nd:=F.nd
 rw [List.nodup_cons] at nd
 rw [List.mem_cons,not_or] at n1 n2
 have t:TupKp H (upd H fl (.lst ((L++[((⟨fa,f1,none⟩:FC),(⟨h,bb,none⟩:Fr))]).map fun x=>.ref x.1.fa))):=TupKp.setO F.e
 refine ⟨upd_same,fun y hy=>?_,?_⟩
 ·rcases List.mem_append.mp hy with hy | hy
  ·exact (F.fr y hy).keep (fun a ha o e=>by rw [upd_ne (fun z=>nd.1 (by rw [← z];exact cells_in hy ha))];exact e) t
  ·rw [show y=((⟨fa,f1,none⟩:FC),(⟨h,bb,none⟩:Fr)) by simpa using hy]
   exact ⟨hu,hv,us,by rw [upd_ne n1.1];exact e1,hh.kt t,by rw [upd_ne n2.1];exact e2,hb.kp t,trivial⟩
 ·rw [cells_app,cells_one,List.nodup_cons]
  refine ⟨fun z=>?_,List.nodup_append.mpr ⟨nd.2,by simp [FC.cells,n3],fun a ha b hb z=>?_⟩⟩
  ·rcases List.mem_append.mp z with z | z
   ·exact nd.1 z
   ·simp only [FC.cells,Option.toList_none,List.mem_cons,List.not_mem_nil,or_false] at z
    rcases z with z | z
    ·exact n1.1 z.symm
    ·exact n2.1 z.symm
  ·simp only [FC.cells,Option.toList_none,List.mem_cons,List.not_mem_nil,or_false] at hb
   rcases hb with rfl | rfl
   ·exact n1.2 (z ▸ ha)
   ·exact n2.2 (z ▸ ha)
theorem FsAt.snd {H:Hp} {fl a:Addr} {I:List (FC×Fr)} {x:FC×Fr} {hu hv:V} (F:FsAt H fl (I++[x])) (f0:x.1.f2=none) (e1:H x.1.fa=some (.lst [hu,hv,.ref x.1.f1,.non])) (e2:H a=some (.lst [])) (n:a∉fl::cellsL (I++[x])):FsAt (upd H x.1.fa (.lst [hu,hv,.ref x.1.f1,.ref a])) fl (I++[(⟨x.1.fa,x.1.f1,some a⟩,⟨x.2.hd,x.2.b1,some []⟩)]):=by
 have nd:=F.nd
 rw [cells_app,cells_one,List.nodup_cons,List.nodup_append] at nd
 rw [cells_app,cells_one,List.mem_cons,List.mem_append,not_or,not_or] at n
 have hc:x.1.cells=[x.1.fa,x.1.f1]:=by simp [FC.cells,f0]
 rw [hc] at nd n
 have t:TupKp H (upd H x.1.fa (.lst [hu,hv,.ref x.1.f1,.ref a])):=TupKp.setO e1
 obtain ⟨hu',hv',us1,g1,g2,g3,g4,g5⟩:=F.fr x (by simp)
 rw [e1] at g1
 have ehv:hu'=hu∧hv'=hv:=by
  have g:=Option.some.inj g1
  simp only [HO.lst.injEq,List.cons.injEq] at g
  exact ⟨g.1.symm,g.2.1.symm⟩
 obtain ⟨rfl,rfl⟩:=ehv
 have n12:x.1.fa≠x.1.f1:=by simpa using nd.2.2.1
 refine ⟨?_,fun y hy=>?_,?_⟩
 ·rw [upd_ne (fun z=>nd.1 (by rw [z];simp))]
  rw [F.e]
  simp
 ·rcases List.mem_append.mp hy with hy | hy
  ·exact (F.fr y (by simp [hy])).keep (fun b hb o e=>by rw [upd_ne (fun z=>nd.2.2.2 b (cells_in hy hb) x.1.fa (by simp) z)];exact e) t
  ·rw [show y=(⟨x.1.fa,x.1.f1,some a⟩,⟨x.2.hd,x.2.b1,some []⟩) by simpa using hy]
   exact ⟨_,_,us1,upd_same,g2.kt t,by rw [upd_ne n12.symm];exact g3,g4.kp t,[],by rw [upd_ne (fun z=>n.2.2 (by simp [z]))];exact e2,.nil⟩
 ·rw [cells_app,cells_one,List.nodup_cons]
  refine ⟨fun z=>?_,List.nodup_append.mpr ⟨nd.2.1,?_,fun b hb c hc' z=>?_⟩⟩
  ·rcases List.mem_append.mp z with z | z
   ·exact nd.1 (by simp [z])
   ·simp only [FC.cells,Option.toList_some,List.mem_cons,List.not_mem_nil,or_false] at z
    rcases z with z | z | z
    ·exact nd.1 (by simp [z])
    ·exact nd.1 (by simp [z])
    ·exact n.1 z.symm
  ·have h1:¬ a=x.1.fa:=fun z=>n.2.2 (by simp [z])
   have h2:¬ a=x.1.f1:=fun z=>n.2.2 (by simp [z])
   simp [FC.cells,n12]
   exact ⟨fun z=>h1 z.symm,fun z=>h2 z.symm⟩
  ·simp only [FC.cells,Option.toList_some,List.mem_cons,List.not_mem_nil,or_false] at hc'
   rcases hc' with rfl | rfl | rfl
   ·exact nd.2.2.2 b hb _ (by simp) z
   ·exact nd.2.2.2 b hb _ (by simp) z
   ·exact n.2.1 (z ▸ hb)
theorem rv_non {o:Option Addr} (h:rv o=.non):o=none:=by
 cases o with
 | none=>rfl
 | some a=>cases h
theorem last_at (I:List (FC×Fr)) (x:FC×Fr):atI ((I++[x]).map fun x=>V.ref x.1.fa) (-1)=some (.ref x.1.fa):=by
 rw [List.map_append]
 exact atI_last _ _
theorem last_ix (I:List (FC×Fr)) (x:FC×Fr):((I++[x]).map fun x=>V.ref x.1.fa)[((I++[x]).map fun x=>V.ref x.1.fa).length - 1]?=some (.ref x.1.fa):=by simp
theorem last_drop (I:List (FC×Fr)) (x:FC×Fr):((I++[x]).map fun x=>V.ref x.1.fa).dropLast=I.map fun x=>V.ref x.1.fa:=by simp
noncomputable def closeSt (f:Fr) (i:Bool) (s:Say):Stm:=if i=true then .iff s f.b1 (f.b2.getD []) else .whl s f.b1
theorem cur_at {c:FC} {u v:V}:atI [u,v,.ref c.f1,rv c.f2] (2+if (!decide (rv c.f2=V.non))=true then 1 else 0)=some (.ref c.cur):=by
 obtain ⟨fa,f1,f2⟩:=c
 cases f2<;>rfl
inductive Gb:Pu→List Stm→Nat→Pu→Cmds→Prop
 | nil {S:Pu}:Gb S [] 0 S []
 | pl {S S':Pu} {m:Stm} {r:List Stm} {n:Nat} {c:Cmds}:m.isPl=true→Gb (deed S m).1 r n S' c→Gb S (m::r) (n+1) S' ((deed S m).2++c)
 | fin {S:Pu} {s:Say} {r:List Stm}:Gb S (.fin s::r) 1 (S.ends (S.worth s)).1 (S.ends (S.worth s)).2
 | ifG {S S1 S':Pu} {s:Say} {b o bb r:List Stm} {n k:Nat} {c d:Cmds}:bb=(if num (S.worth s)=0 then o else b)→Gb S bb n S1 c→S1.sl=.non→Gb S1 r k S' d→Gb S (.iff s b o::r) (n+1+k) S' (c++d)
 | ifE {S S1:Pu} {s:Say} {b o bb r:List Stm} {n:Nat} {c:Cmds}:bb=(if num (S.worth s)=0 then o else b)→Gb S bb n S1 c→S1.sl≠.non→Gb S (.iff s b o::r) (n+1) S1 c
 | wh0 {S S':Pu} {s:Say} {b r:List Stm} {k:Nat} {c:Cmds}:num (S.worth s)=0→Gb S r k S' c→Gb S (.whl s b::r) (k+1) S' c
 | whG {S S1 S':Pu} {s:Say} {b r:List Stm} {n k:Nat} {c d:Cmds}:¬ num (S.worth s)=0→Gb S b n S1 c→S1.sl=.non→Gb S1 (.whl s b::r) k S' d→Gb S (.whl s b::r) (n+1+k) S' (c++d)
 | whE {S S1:Pu} {s:Say} {b r:List Stm} {n:Nat} {c:Cmds}:¬ num (S.worth s)=0→Gb S b n S1 c→S1.sl≠.non→Gb S (.whl s b::r) (n+1) S1 c
noncomputable def Pu.on (S:Pu) (st:Stk):Pu:={S with stk:=st}
theorem deed_on {S:Pu} {st:Stk} {m:Stm} (h:m.isPl=true):deed (S.on st) m=((deed S m).1.on st,(deed S m).2):=by
 cases m with
 | drop s =>
  show deed (S.on st) (.drop s)=_
  simp only [deed,show (S.on st).worth s=S.worth s from rfl,show (S.on st).pend=S.pend from rfl]
  split
  ·split<;>rfl
  ·rfl
 | _=>first | rfl | cases h
theorem pl_sl {S:Pu} {m:Stm} (h:m.isPl=true):(deed S m).1.sl=S.sl:=by
 cases m with
 | drop s =>
  simp only [deed]
  split
  ·split<;>rfl
  ·rfl
 | _=>first | rfl | cases h
theorem pl_nB {m:Stm} (h:m.isPl=true):m.isB=false:=by cases m<;>first | rfl | cases h
theorem come_at {S:Pu} {k i:Nat} {b:List Stm} {st:Stk} (h:i < b.length):(S.on ((k,b,i)::st)).come=S.on ((k,b,i)::st):=by
 show S.on (comeTo ((k,b,i)::st))=_
 cases st with
 | nil=>simp [comeTo]
 | cons x r=>obtain ⟨k2,b2,n2⟩:=x;rw [comeTo,if_neg (by omega)]
theorem come_of {S:Pu} {k k2 i:Nat} {b b2:List Stm} {st:Stk}:(S.on ((k,b,b.length)::(k2,b2,i)::st)).come=(S.on ((k2,b2,offIf b2 i)::st)).come:=by
 show S.on (comeTo ((k,b,b.length)::(k2,b2,i)::st))=S.on (comeTo ((k2,b2,offIf b2 i)::st))
 rw [comeTo,if_pos rfl]
theorem goOn_same {S T:Pu} (h:S.come=T.come) (n:Nat):goOn n S=goOn n T:=by
 cases n with
 | zero=>simp only [goOn,h]
 | succ n=>simp only [goOn,h]
theorem drop_at {b r:List Stm} {i:Nat} {m:Stm} (h:b.drop i=m::r):i < b.length∧b[i]?=some m∧b.drop (i+1)=r:=by
 have l:i < b.length:=by
  rcases Nat.lt_or_ge i b.length with l | l
  ·exact l
  ·rw [List.drop_eq_nil_of_le l] at h;cases h
 rw [List.drop_eq_getElem_cons l] at h
 injection h with h1 h2
 exact ⟨l,by rw [List.getElem?_eq_getElem l,h1],h2⟩
theorem Gb.go {S S':Pu} {r:List Stm} {n:Nat} {c:Cmds} (h:Gb S r n S' c):S.sl=.non→∀(k i N:Nat) (b:List Stm) (st:Stk),b.drop i=r→i≤b.length → (S'.sl=.non→goOn (n+N) (S.on ((k,b,i)::st))=((goOn N (S'.on ((k,b,b.length)::st))).1,c++(goOn N (S'.on ((k,b,b.length)::st))).2)) ∧ (S'.sl≠.non→∃ st',goOn (n+N) (S.on ((k,b,i)::st))=(S'.on st',c)):=by
 induction h with
 | nil =>
  intro hs k i N b st e l
  have:i=b.length:=by
   have:=congrArg List.length e
   simp at this
   omega
  subst this
  exact ⟨fun _=>by rw [Nat.zero_add];rfl,fun z=>absurd hs z⟩
 | @pl S S' m r n c hp h ih =>
  intro hs k i N b st e l
  obtain ⟨l,e1,e2⟩:=drop_at e
  have hst:stand (S.on ((k,b,i)::st)).come.stk=some m:=by rw [come_at l];exact e1
  have hone:one (S.on ((k,b,i)::st)).come m=((deed S m).1.on ((k,b,i+1)::st),(deed S m).2):=by
   rw [come_at l,one_nb (pl_nB hp),deed_on hp]
   rw [if_pos (by show (deed S m).1.sl.isN=true;rw [pl_sl hp,hs];rfl)]
   rfl
  have hz:(one (S.on ((k,b,i)::st)).come m).1.sl.isN=true:=by
   rw [hone]
   show (deed S m).1.sl.isN=true
   rw [pl_sl hp,hs]
   rfl
  have g:=goOn_go hst hz (n+N)
  rw [hone] at g
  rw [show n+1+N=n+N+1 by omega]
  obtain ⟨i1,i2⟩:=ih ((pl_sl hp).trans hs) k (i+1) N b st e2 l
  refine ⟨fun z=>?_,fun z=>?_⟩
  ·rw [g,i1 z,List.append_assoc]
  ·obtain ⟨st',q⟩:=i2 z
   exact ⟨st',by rw [g,q]⟩
 | @fin S s r =>
  intro hs k i N b st e l
  obtain ⟨l,e1,e2⟩:=drop_at e
  have hst:stand (S.on ((k,b,i)::st)).come.stk=some (.fin s):=by rw [come_at l];exact e1
  have hone:one (S.on ((k,b,i)::st)).come (.fin s)=((S.ends (S.worth s)).1.on ((k,b,i)::st),(S.ends (S.worth s)).2):=by
   rw [come_at l]
   rfl
  refine ⟨(fun z=>nomatch z),fun _=>⟨(k,b,i)::st,?_⟩⟩
  rw [show 1+N=N+1 by omega,goOn_stop hst (by rw [hone];rfl),hone]
 | @ifG S S1 S' s b1 o bb r n k1 c d hb h1 hn h2 i1 i2 =>
  intro hs k i N b st e l
  obtain ⟨l,e1,e2⟩:=drop_at e
  have hst:stand (S.on ((k,b,i)::st)).come.stk=some (.iff s b1 o):=by rw [come_at l];exact e1
  obtain ⟨ck,hone⟩:∃ ck,one (S.on ((k,b,i)::st)).come (.iff s b1 o)=(S.on ((ck,bb,0)::(k,b,i)::st),[]):=by
   rw [come_at l,one_b rfl]
   show ∃ ck,((if num (S.worth s)=0 then _ else _),_)=_
   by_cases hz:num (S.worth s)=0
   ·rw [if_pos hz] at hb ⊢;subst hb;exact ⟨1,rfl⟩
   ·rw [if_neg hz] at hb ⊢;subst hb;exact ⟨0,rfl⟩
  have g:=goOn_go hst (by rw [hone];show S.sl.isN=true;rw [hs];rfl) (n+(k1+N))
  rw [hone] at g
  rw [show n+1+k1+N=n+(k1+N)+1 by omega]
  have j1:=(i1 hs ck 0 (k1+N) bb ((k,b,i)::st) rfl (Nat.zero_le _)).1 hn
  have same:goOn (k1+N) (S1.on ((ck,bb,bb.length)::(k,b,i)::st))=goOn (k1+N) (S1.on ((k,b,i+1)::st)):=goOn_same (by rw [come_of];simp only [offIf,e1,Stm.isIf];rfl) _
  rw [same] at j1
  obtain ⟨j2,j3⟩:=i2 hn k (i+1) N b st e2 l
  refine ⟨fun z=>?_,fun z=>?_⟩
  ·rw [g,j1,j2 z]
   simp
  ·obtain ⟨st',q⟩:=j3 z
   exact ⟨st',by rw [g,j1,q];simp⟩
 | @ifE S S1 s b1 o bb r n c hb h1 hn i1 =>
  intro hs k i N b st e l
  obtain ⟨l,e1,e2⟩:=drop_at e
  have hst:stand (S.on ((k,b,i)::st)).come.stk=some (.iff s b1 o):=by rw [come_at l];exact e1
  obtain ⟨ck,hone⟩:∃ ck,one (S.on ((k,b,i)::st)).come (.iff s b1 o)=(S.on ((ck,bb,0)::(k,b,i)::st),[]):=by
   rw [come_at l,one_b rfl]
   show ∃ ck,((if num (S.worth s)=0 then _ else _),_)=_
   by_cases hz:num (S.worth s)=0
   ·rw [if_pos hz] at hb ⊢;subst hb;exact ⟨1,rfl⟩
   ·rw [if_neg hz] at hb ⊢;subst hb;exact ⟨0,rfl⟩
  have g:=goOn_go hst (by rw [hone];show S.sl.isN=true;rw [hs];rfl) (n+N)
  rw [hone] at g
  rw [show n+1+N=n+N+1 by omega]
  obtain ⟨st',q⟩:=(i1 hs ck 0 N bb ((k,b,i)::st) rfl (Nat.zero_le _)).2 hn
  exact ⟨fun z=>absurd z hn,fun _=>⟨st',by rw [g,q];simp⟩⟩
 | @wh0 S S' s b1 r k1 c hz h ih =>
  intro hs k i N b st e l
  obtain ⟨l,e1,e2⟩:=drop_at e
  have hst:stand (S.on ((k,b,i)::st)).come.stk=some (.whl s b1):=by rw [come_at l];exact e1
  have hone:one (S.on ((k,b,i)::st)).come (.whl s b1)=(S.on ((k,b,i+1)::st),[]):=by
   rw [come_at l,one_b rfl]
   show ((if num (S.worth s)=0 then _ else _),_)=_
   rw [if_pos hz]
   rfl
  have g:=goOn_go hst (by rw [hone];show S.sl.isN=true;rw [hs];rfl) (k1+N)
  rw [hone] at g
  rw [show k1+1+N=k1+N+1 by omega]
  obtain ⟨j2,j3⟩:=ih hs k (i+1) N b st e2 l
  refine ⟨fun z=>?_,fun z=>?_⟩
  ·rw [g,j2 z]
   simp
  ·obtain ⟨st',q⟩:=j3 z
   exact ⟨st',by rw [g,q];simp⟩
 | @whG S S1 S' s b1 r n k1 c d hz h1 hn h2 i1 i2 =>
  intro hs k i N b st e l
  obtain ⟨l',e1,e2⟩:=drop_at e
  have hst:stand (S.on ((k,b,i)::st)).come.stk=some (.whl s b1):=by rw [come_at l'];exact e1
  have hone:one (S.on ((k,b,i)::st)).come (.whl s b1)=(S.on ((0,b1,0)::(k,b,i)::st),[]):=by
   rw [come_at l',one_b rfl]
   show ((if num (S.worth s)=0 then _ else _),_)=_
   rw [if_neg hz]
   rfl
  have g:=goOn_go hst (by rw [hone];show S.sl.isN=true;rw [hs];rfl) (n+(k1+N))
  rw [hone] at g
  rw [show n+1+k1+N=n+(k1+N)+1 by omega]
  have j1:=(i1 hs 0 0 (k1+N) b1 ((k,b,i)::st) rfl (Nat.zero_le _)).1 hn
  have same:goOn (k1+N) (S1.on ((0,b1,b1.length)::(k,b,i)::st))=goOn (k1+N) (S1.on ((k,b,i)::st)):=goOn_same (by rw [come_of];simp only [offIf,e1,Stm.isIf];rfl) _
  rw [same] at j1
  obtain ⟨j2,j3⟩:=i2 hn k i N b st e l
  refine ⟨fun z=>?_,fun z=>?_⟩
  ·rw [g,j1,j2 z]
   simp
  ·obtain ⟨st',q⟩:=j3 z
   exact ⟨st',by rw [g,j1,q];simp⟩
 | @whE S S1 s b1 r n c hz h1 hn i1 =>
  intro hs k i N b st e l
  obtain ⟨l',e1,e2⟩:=drop_at e
  have hst:stand (S.on ((k,b,i)::st)).come.stk=some (.whl s b1):=by rw [come_at l'];exact e1
  have hone:one (S.on ((k,b,i)::st)).come (.whl s b1)=(S.on ((0,b1,0)::(k,b,i)::st),[]):=by
   rw [come_at l',one_b rfl]
   show ((if num (S.worth s)=0 then _ else _),_)=_
   rw [if_neg hz]
   rfl
  have g:=goOn_go hst (by rw [hone];show S.sl.isN=true;rw [hs];rfl) (n+N)
  rw [hone] at g
  rw [show n+1+N=n+N+1 by omega]
  obtain ⟨st',q⟩:=(i1 hs 0 0 N b1 ((k,b,i)::st) rfl (Nat.zero_le _)).2 hn
  exact ⟨fun z=>absurd z hn,fun _=>⟨st',by rw [g,q];simp⟩⟩
mutual
noncomputable def Stm.ns (x:Str):Stm→Prop
 | .set y _=>y≠x
 | .order y _ _=>y≠x
 | .child y _ _=>y≠x
 | .timer y _=>y≠x
 | .wait y _=>y≠x
 | .hear y _=>y≠x
 | .whl _ b=>nsL x b
 | .iff _ b o=>nsL x b∧nsL x o
 | _=>True
noncomputable def nsL (x:Str):List Stm→Prop
 | []=>True
 | m::ms=>m.ns x∧nsL x ms
end
mutual
noncomputable def Stm.lp (P:Str→Prop):Stm→Prop
 | .set x s=>P x→s=.num 0∨s=.two .add (.name x) (.num 1)
 | .order x _ _=>¬ P x
 | .child x _ _=>¬ P x
 | .timer x _=>¬ P x
 | .wait _ _=>False
 | .hear _ _=>False
 | .whl s b=>(∃(x:Str) (L:Int),P x∧0≤L∧L≤3∧s=.two .lt (.name x) (.num L)∧b.head?=some (.set x (.two .add (.name x) (.num 1)))∧nsL x b.tail)∧lpL P b
 | .iff _ b o=>lpL P b∧lpL P o
 | _=>True
noncomputable def lpL (P:Str→Prop):List Stm→Prop
 | []=>True
 | m::ms=>m.lp P∧lpL P ms
end
mutual
noncomputable def Stm.ct:Stm→Nat
 | .whl _ b=>4+3 * ctL b
 | .iff _ b o=>1+ctL b+ctL o
 | _=>1
noncomputable def ctL:List Stm→Nat
 | []=>0
 | m::ms=>m.ct+ctL ms
end
noncomputable def Nn (P:Str→Prop) (S:Pu):Prop:=∀ x,P x→0≤num (lookN S.nm x)
theorem pl_keep {S:Pu} {m:Stm} {x:Str} (hp:m.isPl=true) (h:m.ns x):lookN (deed S m).1.nm x=lookN S.nm x:=by
 cases m with
 | set y s=>simp only [Stm.ns] at h;exact (lookN_put _ _ _ _).trans (if_neg (Ne.symm h))
 | order y _ _=>simp only [Stm.ns] at h;exact (lookN_put _ _ _ _).trans (if_neg (Ne.symm h))
 | child y _ _=>simp only [Stm.ns] at h;exact (lookN_put _ _ _ _).trans (if_neg (Ne.symm h))
 | timer y _=>simp only [Stm.ns] at h;exact (lookN_put _ _ _ _).trans (if_neg (Ne.symm h))
 | send _ _ _=>rfl
 | drop s =>
  simp only [deed]
  split
  ·split<;>rfl
  ·rfl
 | _=>cases hp
theorem Gb.keep {x:Str} {S S':Pu} {b:List Stm} {n:Nat} {c:Cmds} (h:Gb S b n S' c):nsL x b→lookN S'.nm x=lookN S.nm x:=by
 induction h with
 | nil=>intro _;rfl
 | pl hp _ ih=>intro g;simp only [nsL] at g;exact (ih g.2).trans (pl_keep hp g.1)
 | fin=>intro _;rfl
 | ifG hb _ _ _ i1 i2 =>
  intro g
  simp only [nsL,Stm.ns] at g
  exact (i2 g.2).trans (i1 (by rw [hb];split;exact g.1.2;exact g.1.1))
 | ifE hb _ _ i1 =>
  intro g
  simp only [nsL,Stm.ns] at g
  exact i1 (by rw [hb];split;exact g.1.2;exact g.1.1)
 | wh0 _ _ ih=>intro g;simp only [nsL] at g;exact ih g.2
 | whG _ _ _ _ i1 i2 =>
  intro g
  have g':=g
  simp only [nsL,Stm.ns] at g
  exact (i2 g').trans (i1 g.1)
 | whE _ _ _ i1 =>
  intro g
  simp only [nsL,Stm.ns] at g
  exact i1 g.1
theorem clamp_nn {z:Int} (h:0≤z):0≤clamp z:=by
 unfold clamp
 repeat' split
 all_goals omega
theorem pl_nn {P:Str→Prop} {S:Pu} {m:Stm} (hp:m.isPl=true) (h:m.lp P) (g:Nn P S):Nn P (deed S m).1:=by
 intro x px
 have step:∀(y:Str) (w:Wo),(x=y→0≤num w)→0≤num (lookN (putN S.nm y w) x):=fun y w hw=>by
  rw [lookN_put]
  split
  ·exact hw ‹_›
  ·exact g x px
 cases m with
 | set y s =>
  simp only [Stm.lp] at h
  refine step _ _ fun e=>?_
  subst e
  rcases h px with rfl | rfl
  ·exact Int.le_refl 0
  ·have:=g x px
   exact clamp_nn (show 0≤num (lookN S.nm x)+1 by omega)
 | order y _ _=>simp only [Stm.lp] at h;exact step _ _ fun e=>absurd (e ▸ px) h
 | child y _ _=>simp only [Stm.lp] at h;exact step _ _ fun e=>absurd (e ▸ px) h
 | timer y _=>simp only [Stm.lp] at h;exact step _ _ fun e=>absurd (e ▸ px) h
 | send _ _ _=>exact g x px
 | drop s =>
  simp only [deed]
  split
  ·split<;>exact g x px
  ·exact g x px
 | _=>cases hp
theorem Gb.nn {P:Str→Prop} {S S':Pu} {b:List Stm} {n:Nat} {c:Cmds} (h:Gb S b n S' c):lpL P b→Nn P S→Nn P S':=by
 induction h with
 | nil=>exact fun _ g=>g
 | pl hp _ ih=>intro g q;simp only [lpL] at g;exact ih g.2 (pl_nn hp g.1 q)
 | fin=>exact fun _ g=>g
 | ifG hb _ _ _ i1 i2 =>
  intro g q
  simp only [lpL,Stm.lp] at g
  exact i2 g.2 (i1 (by rw [hb];split;exact g.1.2;exact g.1.1) q)
 | ifE hb _ _ i1 =>
  intro g q
  simp only [lpL,Stm.lp] at g
  exact i1 (by rw [hb];split;exact g.1.2;exact g.1.1) q
 | wh0 _ _ ih=>intro g q;simp only [lpL] at g;exact ih g.2 q
 | whG _ _ _ _ i1 i2 =>
  intro g q
  have g':=g
  simp only [lpL,Stm.lp] at g
  exact i2 g' (i1 g.1.2 q)
 | whE _ _ _ i1 =>
  intro g q
  simp only [lpL,Stm.lp] at g
  exact i1 g.1.2 q
theorem Gb.loop {P:Str→Prop} {x:Str} {L:Int} {b r:List Stm} (px:P x) (hL:L≤3) (hh:b.head?=some (.set x (.two .add (.name x) (.num 1)))) (hs:nsL x b.tail) (hb:lpL P b) (ib:∀ S,Nn P S→S.sl=.non→∃ n S' c,Gb S b n S' c∧n≤ctL b) (ir:∀ S,Nn P S→S.sl=.non→∃ n S' c,Gb S r n S' c∧n≤ctL r) : ∀(t:Nat) (S:Pu),Nn P S→S.sl=.non→L - num (lookN S.nm x)≤t→∃ n S' c,Gb S (.whl (.two .lt (.name x) (.num L)) b::r) n S' c∧n≤1+t * (1+ctL b)+ctL r
 | t,S,g,h,ht=>by
  have w:S.worth (.two .lt (.name x) (.num L))=some (if num (lookN S.nm x) < L then 1 else 0):=rfl
  by_cases hz:num (lookN S.nm x) < L
  ·have nz:¬ num (S.worth (.two .lt (.name x) (.num L)))=0:=by rw [w,if_pos hz];intro z;cases z
   have g0:=g x px
   cases t with
   | zero=>omega
   | succ t =>
    obtain ⟨n,S1,c,d,hn⟩:=ib S g h
    by_cases h1:S1.sl=.non
    ·have v:num (lookN S1.nm x)=num (lookN S.nm x)+1:=by
      cases b with
      | nil=>cases hh
      | cons m rb =>
       injection hh with hm
       subst hm
       cases d with
       | pl _ d =>
        rw [d.keep (x:=x) hs]
        show num (lookN (putN S.nm x _) x)=_
        rw [lookN_put,if_pos rfl]
        show clamp (num (lookN S.nm x)+1)=_
        unfold clamp
        repeat' split
        all_goals omega
     obtain ⟨k,S',c',d',hk⟩:=loop px hL hh hs hb ib ir t S1 (d.nn hb g) h1 (by omega)
     refine ⟨_,S',_,.whG nz d h1 d',?_⟩
     rw [Nat.succ_mul]
     omega
    ·exact ⟨_,S1,c,.whE nz d h1,by rw [Nat.succ_mul];omega⟩
  ·obtain ⟨k,S',c,d,hk⟩:=ir S g h
   exact ⟨_,S',c,.wh0 (by rw [w,if_neg hz];rfl) d,by omega⟩
theorem Gb.ex {P:Str→Prop}:∀(b:List Stm),lpL P b→∀ S,Nn P S→S.sl=.non→∃ n S' c,Gb S b n S' c∧n≤ctL b
 | [],_,S,_,_=>⟨0,S,[],.nil,Nat.le_refl _⟩
 | .whl s b::r,g,S,q,h=>by
  simp only [lpL,Stm.lp] at g
  obtain ⟨⟨⟨x,L,px,l0,l3,rfl,hh,hs⟩,gb⟩,gr⟩:=g
  have v:=q x px
  obtain ⟨n,S',c,d,hn⟩:=Gb.loop px l3 hh hs gb (fun S=>Gb.ex b gb S) (fun S=>Gb.ex r gr S) 3 S q h (by omega)
  exact ⟨n,S',c,d,by simp only [ctL,Stm.ct];omega⟩
 | .iff s b o::r,g,S,q,h=>by
  simp only [lpL,Stm.lp] at g
  obtain ⟨n,S1,c,d,hn⟩:∃ n S1 c,Gb S (if num (S.worth s)=0 then o else b) n S1 c∧n≤ctL b+ctL o:=by
   split
   ·obtain ⟨n,S1,c,d,hn⟩:=Gb.ex o g.1.2 S q h
    exact ⟨n,S1,c,d,by omega⟩
   ·obtain ⟨n,S1,c,d,hn⟩:=Gb.ex b g.1.1 S q h
    exact ⟨n,S1,c,d,by omega⟩
  by_cases h1:S1.sl=.non
  ·obtain ⟨k,S',c',d',hk⟩:=Gb.ex r g.2 S1 (d.nn (by split;exact g.1.2;exact g.1.1) q) h1
   exact ⟨_,S',_,.ifG rfl d h1 d',by simp only [ctL,Stm.ct];omega⟩
  ·exact ⟨_,S1,c,.ifE rfl d h1,by simp only [ctL,Stm.ct];omega⟩
 | .fin s::r,_,S,_,_=>⟨1,_,_,.fin,by simp only [ctL,Stm.ct];omega⟩
 | .set x s::r,g,S,q,h=>by
  simp only [lpL] at g
  obtain ⟨n,S',c,d,hn⟩:=Gb.ex r g.2 _ (pl_nn (S:=S) (m:=.set x s) rfl g.1 q) h
  exact ⟨_,S',_,.pl rfl d,by simp only [ctL,Stm.ct];omega⟩
 | .order x y s::r,g,S,q,h=>by
  simp only [lpL] at g
  obtain ⟨n,S',c,d,hn⟩:=Gb.ex r g.2 _ (pl_nn (S:=S) (m:=.order x y s) rfl g.1 q) h
  exact ⟨_,S',_,.pl rfl d,by simp only [ctL,Stm.ct];omega⟩
 | .child x y s::r,g,S,q,h=>by
  simp only [lpL] at g
  obtain ⟨n,S',c,d,hn⟩:=Gb.ex r g.2 _ (pl_nn (S:=S) (m:=.child x y s) rfl g.1 q) h
  exact ⟨_,S',_,.pl rfl d,by simp only [ctL,Stm.ct];omega⟩
 | .timer x s::r,g,S,q,h=>by
  simp only [lpL] at g
  obtain ⟨n,S',c,d,hn⟩:=Gb.ex r g.2 _ (pl_nn (S:=S) (m:=.timer x s) rfl g.1 q) h
  exact ⟨_,S',_,.pl rfl d,by simp only [ctL,Stm.ct];omega⟩
 | .send s k t::r,g,S,q,h=>by
  simp only [lpL] at g
  obtain ⟨n,S',c,d,hn⟩:=Gb.ex r g.2 _ (pl_nn (S:=S) (m:=.send s k t) rfl g.1 q) h
  exact ⟨_,S',_,.pl rfl d,by simp only [ctL,Stm.ct];omega⟩
 | .drop s::r,g,S,q,h=>by
  simp only [lpL] at g
  obtain ⟨n,S',c,d,hn⟩:=Gb.ex r g.2 _ (pl_nn (S:=S) (m:=.drop s) rfl g.1 q) ((pl_sl rfl).trans h)
  exact ⟨_,S',_,.pl rfl d,by simp only [ctL,Stm.ct];omega⟩
 | .wait _ _::_,g,_,_,_=>by simp only [lpL,Stm.lp] at g;exact g.1.elim
 | .hear _ _::_,g,_,_,_=>by simp only [lpL,Stm.lp] at g;exact g.1.elim
termination_by b=>sizeOf b
decreasing_by all_goals simp_wf;omega
theorem dpL_app1:∀(a:List Stm) (m:Stm),dpL (a++[m])=max (dpL a) m.dp
 | [],m=>by simp [dpL]
 | x::a,m=>by simp only [List.cons_append,dpL,dpL_app1 a m];omega
theorem gdL_app1 {wt:Bool}:∀ {a:List Stm} {m:Stm},gdL wt a→m.gd wt→gdL wt (a++[m])
 | [],m,_,h=>⟨h,trivial⟩
 | x::a,m,g,h=>⟨g.1,gdL_app1 g.2 h⟩
noncomputable def lname (n:Nat):Str:=⟨#[110,97+n]⟩
noncomputable def NM16:List Str:=["paid","pay","p","go"]
theorem nm_ne {x:Str} (h:x∈NM16) (n:Nat):x≠lname n:=by
 simp only [NM16,List.mem_cons,List.not_mem_nil,or_false] at h
 rcases h with rfl | rfl | rfl | rfl
 ·rw [show Str.ofString "paid"=⟨#[112,97,105,100]⟩ by decide +kernel];simp [lname]
 ·rw [show Str.ofString "pay"=⟨#[112,97,121]⟩ by decide +kernel];simp [lname]
 ·rw [show Str.ofString "p"=⟨#[112]⟩ by decide +kernel];simp [lname]
 ·rw [show Str.ofString "go"=⟨#[103,111]⟩ by decide +kernel];simp [lname]
theorem lname_ne {n k:Nat} (h:n < k):lname k≠lname n:=by
 simp [lname]
 omega
theorem lname_at:∀ k:Nat,k < 20→atI (Str.ofString "abcdefghijklmnopqrst").cps.toList (k:Int)=some (97+k):=by decide +kernel
theorem lname_eq (k:Nat):Str.ofString "n"++(⟨#[97+k]⟩:Str)=lname k:=by
 rw [show Str.ofString "n"=⟨#[110]⟩ by decide +kernel]
 rfl
noncomputable def PL (x:Str):Prop:=∃ n,n < 20∧x=lname n
noncomputable def incS (n:Nat):Stm:=.set (lname n) (.two .add (.name (lname n)) (.num 1))
noncomputable def limS (n:Nat) (L:Int):Say:=.two .lt (.name (lname n)) (.num L)
theorem nsL_app {x:Str}:∀ {a:List Stm} {m:Stm},nsL x a→m.ns x→nsL x (a++[m])
 | [],m,_,h=>by simp only [List.nil_append,nsL];exact ⟨h,trivial⟩
 | _::a,m,g,h=>by simp only [nsL,List.cons_append] at g ⊢;exact ⟨g.1,nsL_app g.2 h⟩
theorem lpL_app {P:Str→Prop}:∀ {a:List Stm} {m:Stm},lpL P a→m.lp P→lpL P (a++[m])
 | [],m,_,h=>by simp only [List.nil_append,lpL];exact ⟨h,trivial⟩
 | _::a,m,g,h=>by simp only [lpL,List.cons_append] at g ⊢;exact ⟨g.1,lpL_app g.2 h⟩
theorem ctL_app:∀(a:List Stm) (m:Stm),ctL (a++[m])=ctL a+m.ct
 | [],m=>by simp [ctL]
 | _::a,m=>by simp only [List.cons_append,ctL,ctL_app a m];omega
theorem ctL_len:∀(a:List Stm),a.length≤ctL a
 | []=>Nat.le_refl _
 | m::a=>by
  have:=ctL_len a
  have:1≤m.ct:=by cases m<;>simp only [Stm.ct]<;>omega
  simp only [List.length_cons,ctL]
  omega
noncomputable def Fr.ow (f:Fr):Nat:=match f.hd with
 | none=>0
 | some (i,_)=>if i=true then 1 else 4
noncomputable def Fr.mu (f:Fr):Nat:=match f.hd with
 | none=>1
 | some (i,_)=>if i=true then 1 else 3
noncomputable def Fr.ins (f:Fr):Nat:=ctL f.b1+ctL (f.b2.getD [])
noncomputable def ctF:List Fr→Nat
 | []=>0
 | f::r=>f.ow+f.mu * (f.ins+ctF r)
noncomputable def muF:List Fr→Nat
 | []=>1
 | f::r=>f.mu * muF r
theorem ct_snoc:∀(L:List Fr) (f:Fr),ctF (L++[f])=ctF L+muF L * (f.ow+f.mu * f.ins)
 | [],f=>by simp [ctF,muF]
 | g::r,f=>by simp only [List.cons_append,ctF,muF,ct_snoc r f,Nat.mul_add,Nat.mul_assoc,Nat.add_assoc]
theorem mu_snoc:∀(L:List Fr) (f:Fr),muF (L++[f])=muF L * f.mu
 | [],f=>by simp [muF]
 | g::r,f=>by simp only [List.cons_append,muF,mu_snoc r f,Nat.mul_assoc]
theorem add_hd (f:Fr) (m:Stm):(f.add m).hd=f.hd:=by
 unfold Fr.add
 split<;>rfl
theorem add_ins (f:Fr) (m:Stm):(f.add m).ins=f.ins+m.ct:=by
 unfold Fr.add Fr.ins
 cases h:f.b2<;>simp [h,ctL_app]<;>omega
theorem add_ow (f:Fr) (m:Stm):(f.add m).ow=f.ow∧(f.add m).mu=f.mu:=by
 unfold Fr.ow Fr.mu
 rw [add_hd]
 exact ⟨rfl,rfl⟩
theorem ct_add (I:List Fr) (x:Fr) (m:Stm):ctF (I++[x.add m])=ctF (I++[x])+muF (I++[x]) * m.ct:=by
 rw [ct_snoc,ct_snoc,mu_snoc,add_ins,(add_ow x m).1,(add_ow x m).2]
 simp only [Nat.mul_add,Nat.mul_assoc,Nat.add_assoc]
structure Gf (k j:Nat) (f:Fr):Prop where
 g1:gdL false f.b1
 g2:gdL false (f.b2.getD [])
 d1:dpL f.b1+j≤5
 d2:dpL (f.b2.getD [])+j≤5
 h0:j=0→f.hd=none
 h1:j≠0→∃ i s,f.hd=some (i,s)∧s.sok
 l1:lpL PL f.b1
 l2:lpL PL (f.b2.getD [])
 wh:∀ s,f.hd=some (false,s)→j≤2∧f.b2=none∧∃(n:Nat) (L:Int),n < k∧k≤20∧0≤L∧L≤3∧s=limS n L∧f.b1.head?=some (incS n)∧nsL (lname n) f.b1.tail
noncomputable def Below (f g:Fr):Prop:=∀ n L,f.hd=some (false,limS n L)→nsL (lname n) g.b1∧nsL (lname n) (g.b2.getD [])
structure G16 (k:Nat) (L:List Fr):Prop where
 gf:∀ j f,L[j]?=some f→Gf k j f
 pw:L.Pairwise Below
 ct:ctF L≤12 * k+(if 3≤L.length then 12 else 0)
 ln:L.length≤6
theorem mu_in {f:Fr}:1≤f.mu∧f.mu≤3:=by
 unfold Fr.mu
 repeat' split
 all_goals omega
theorem mu_one {k j:Nat} {f:Fr} (g:Gf k j f) (h:j=0∨3≤j):f.mu=1:=by
 unfold Fr.mu
 split
 ·rfl
 ·next i s e =>
  cases i with
  | true=>rfl
  | false =>
   have:=(g.wh _ e).1
   rcases h with h | h
   ·rw [g.h0 h] at e;cases e
   ·omega
theorem muF_one:∀ {L:List Fr},(∀ f∈L,f.mu=1)→muF L=1
 | [],_=>rfl
 | f::r,h=>by rw [muF,h f (by simp),muF_one fun g hg=>h g (by simp [hg])]
theorem G16.mu {k:Nat} {L:List Fr} (g:∀ j f,L[j]?=some f→Gf k j f):muF L≤9∧(L.length≤2→muF L≤3)∧(L.length≤1→muF L≤1):=by
 cases L with
 | nil=>simp [muF]
 | cons f0 r =>
  have e0:=mu_one (g 0 f0 rfl) (.inl rfl)
  cases r with
  | nil=>simp [muF,e0]
  | cons f1 r =>
   have e1:=(mu_in (f:=f1)).2
   cases r with
   | nil=>simp only [muF,e0,List.length_cons,List.length_nil];omega
   | cons f2 r =>
    have e2:=(mu_in (f:=f2)).2
    have e3:muF r=1:=muF_one fun f hf=>by
     obtain ⟨j,hj⟩:=List.mem_iff_getElem?.mp hf
     exact mu_one (g (j+3) f (by simpa using hj)) (.inr (by omega))
    simp only [muF,e0,e3,List.length_cons,Nat.mul_one,Nat.one_mul]
    refine ⟨?_,fun z=>by omega,fun z=>by omega⟩
    have:=Nat.mul_le_mul e1 e2
    omega
theorem get_snoc {L:List Fr} {x f:Fr} {j:Nat} (h:(L++[x])[j]?=some f):(j < L.length∧L[j]?=some f)∨(j=L.length∧f=x):=by
 by_cases hj:j < L.length
 ·rw [List.getElem?_append_left hj] at h;exact .inl ⟨hj,h⟩
 ·have:j=L.length:=by
   have:=(List.getElem?_eq_some_iff.mp h).1
   simp at this
   omega
  subst this
  simp at h
  exact .inr ⟨rfl,h.symm⟩
theorem Gf.more {k j:Nat} {f:Fr} (g:Gf k j f) (h:k+1≤20):Gf (k+1) j f:=⟨g.g1,g.g2,g.d1,g.d2,g.h0,g.h1,g.l1,g.l2,fun s e=>by
 obtain ⟨a,b,n,L,c,d,r⟩:=g.wh s e
 exact ⟨a,b,n,L,by omega,h,r⟩⟩
theorem Gf.add {k j:Nat} {f:Fr} {m:Stm} (g:Gf k j f) (gm:m.gd false) (dm:m.dp+j≤5) (lm:m.lp PL) (nm:∀ n < k,m.ns (lname n)):Gf k j (f.add m):=by
 have hh:=add_hd f m
 cases h:f.b2 with
 | none =>
  have e:f.add m={f with b1:=f.b1++[m]}:=by unfold Fr.add;rw [h]
  have g2:=g.g2
  have d2:=g.d2
  have l2:=g.l2
  rw [h] at g2 d2 l2
  rw [e]
  exact ⟨gdL_app1 g.g1 gm,by rw [h];exact g2,by show dpL (f.b1++[m])+j≤5;rw [dpL_app1];have:=g.d1;omega,by rw [h];exact d2,g.h0,g.h1,lpL_app g.l1 lm,by rw [h];exact l2,fun s es=>by
   obtain ⟨a,b,n,L,c,d,l0,l3,q1,q2,q3⟩:=g.wh s es
   obtain ⟨y,r,er⟩:∃ y r,f.b1=y::r:=by
    cases eb:f.b1 with
    | nil=>rw [eb] at q2;cases q2
    | cons y r=>exact ⟨y,r,rfl⟩
   refine ⟨a,h,n,L,c,d,l0,l3,q1,?_,?_⟩
   ·rw [er] at q2 ⊢;exact q2
   ·rw [er] at q3 ⊢;exact nsL_app q3 (nm n c)⟩
 | some b =>
  have e:f.add m={f with b2:=some (b++[m])}:=by unfold Fr.add;rw [h]
  have g2:=g.g2
  have d2:=g.d2
  have l2:=g.l2
  rw [h] at g2 d2 l2
  rw [e]
  exact ⟨g.g1,gdL_app1 (show gdL false b from g2) gm,g.d1,by show dpL (b++[m])+j≤5;rw [dpL_app1];have:dpL b+j≤5:=d2;omega,g.h0,g.h1,g.l1,lpL_app (show lpL PL b from l2) lm,fun s es=>by
   obtain ⟨a,b',_⟩:=g.wh s es
   rw [h] at b'
   cases b'⟩
theorem Below.add {f g:Fr} {m:Stm} (h:Below f g) (nm:∀ n L,f.hd=some (false,limS n L)→m.ns (lname n)):Below f (g.add m):=fun n L e=>by
 obtain ⟨a,b⟩:=h n L e
 have c:=nm n L e
 unfold Fr.add
 cases h2:g.b2 with
 | none=>rw [h2] at b;exact ⟨nsL_app a c,b⟩
 | some bb=>rw [h2] at b;exact ⟨a,nsL_app (show nsL (lname n) bb from b) c⟩
theorem nm_of {k j:Nat} {f:Fr} {n:Nat} {L:Int} (g:Gf k j f) (e:f.hd=some (false,limS n L)):∃ n' L',n' < k∧limS n L=limS n' L':=by
 obtain ⟨_,_,n',L',a,_,_,_,b,_⟩:=g.wh _ e
 exact ⟨n',L',a,b⟩
theorem lim_nm {n n':Nat} {L L':Int} (h:limS n L=limS n' L'):lname n=lname n':=by
 unfold limS at h
 injection h with _ h _
 injection h
theorem pw_add {k:Nat} {I:List Fr} {x:Fr} {m:Stm} (g:∀ j f,(I++[x])[j]?=some f→Gf k j f) (p:(I++[x]).Pairwise Below) (nm:∀ n < k,m.ns (lname n)):(I++[x.add m]).Pairwise Below:=by
 rw [List.pairwise_append] at p ⊢
 refine ⟨p.1,List.pairwise_singleton _ _,fun f hf y hy=>?_⟩
 rw [show y=x.add m by simpa using hy]
 obtain ⟨j,hj⟩:=List.mem_iff_getElem?.mp hf
 refine (p.2.2 f hf x (by simp)).add fun n L e=>?_
 obtain ⟨n',L',a,b⟩:=nm_of (g j f (by rw [List.getElem?_append_left (List.getElem?_eq_some_iff.mp hj).1];exact hj)) e
 rw [lim_nm b]
 exact nm n' a
theorem gf_add {k:Nat} {I:List Fr} {x:Fr} {m:Stm} (g:∀ j f,(I++[x])[j]?=some f→Gf k j f) (gm:m.gd false) (dm:m.dp+I.length≤5) (lm:m.lp PL) (nm:∀ n < k,m.ns (lname n)):∀ j f,(I++[x.add m])[j]?=some f→Gf k j f:=fun j f e=>by
 rcases get_snoc e with ⟨a,b⟩ | ⟨rfl,rfl⟩
 ·exact g j f (by rw [List.getElem?_append_left a];exact b)
 ·exact (g I.length x (by simp)).add gm dm lm nm
theorem G16.plain {k:Nat} {I:List Fr} {x:Fr} {m:Stm} (g:G16 k (I++[x])) (hk:k < 20) (gm:m.gd false) (dm:m.dp=0) (lm:m.lp PL) (cm:m.ct=1) (nm:∀ n < k,m.ns (lname n)):G16 (k+1) (I++[x.add m]):=by
 have l:=g.ln
 rw [List.length_append,List.length_singleton] at l
 refine ⟨fun j f e=>(gf_add g.gf gm (by omega) lm nm j f e).more hk,pw_add g.gf g.pw nm,?_,by simpa using g.ln⟩
 have c:=g.ct
 have u:=(G16.mu g.gf).1
 rw [ct_add,cm]
 simp only [List.length_append,List.length_singleton] at c ⊢
 split at c<;>split<;>omega
theorem gf_push {k:Nat} {L:List Fr} {x:Fr} (g:∀ j f,L[j]?=some f→Gf k j f) (h:Gf k L.length x):∀ j f,(L++[x])[j]?=some f→Gf k j f:=fun j f e=>by
 rcases get_snoc e with ⟨_,b⟩ | ⟨rfl,rfl⟩
 ·exact g j f b
 ·exact h
theorem G16.pushI {k:Nat} {L:List Fr} {s:Say} (g:G16 k L) (hk:k < 20) (h1:L.length < 6) (h0:L≠[]) (hs:s.sok):G16 (k+1) (L++[⟨some (true,s),[],none⟩]):=by
 have l0:L.length≠0:=fun z=>h0 (List.eq_nil_of_length_eq_zero z)
 refine ⟨fun j f e=>(gf_push (x:=⟨some (true,s),[],none⟩) g.gf ⟨trivial,trivial,by simp only [dpL];omega,by simp only [Option.getD,dpL];omega,fun z=>absurd z l0,fun _=>⟨true,s,rfl,hs⟩,by simp only [lpL],by simp only [Option.getD,lpL],fun t e=>by cases e⟩ j f e).more hk,?_,?_,by simp;omega⟩
 ·rw [List.pairwise_append]
  refine ⟨g.pw,List.pairwise_singleton _ _,fun f _ y hy=>?_⟩
  rw [show y=⟨some (true,s),[],none⟩ by simpa using hy]
  exact fun n L _=>⟨by simp only [nsL],by simp only [Option.getD,nsL]⟩
 ·have c:=g.ct
  have u:=(G16.mu g.gf).1
  rw [ct_snoc]
  show ctF L+muF L * (1+1 * (ctL []+ctL []))≤_
  simp only [ctL,List.length_append,List.length_singleton] at c ⊢
  split at c<;>split<;>omega
theorem G16.second {k:Nat} {I:List Fr} {x:Fr} {s:Say} (g:G16 k (I++[x])) (hk:k < 20) (h:x.hd=some (true,s)) (h2:x.b2=none):G16 (k+1) (I++[{x with b2:=some []}]):=by
 have gx:=g.gf I.length x (by simp)
 have e2:x.b2.getD []=[]:=by rw [h2];rfl
 refine ⟨fun j f e=>?_,?_,?_,by simpa using g.ln⟩
 ·rcases get_snoc e with ⟨a,b⟩ | ⟨rfl,rfl⟩
  ·exact (g.gf j f (by rw [List.getElem?_append_left a];exact b)).more hk
  ·have g2:=gx.g2
   have d2:=gx.d2
   have l2:=gx.l2
   rw [e2] at g2 d2 l2
   exact ⟨gx.g1,g2,gx.d1,d2,gx.h0,gx.h1,gx.l1,l2,fun t e=>by rw [show x.hd=some (false,t) from e] at h;cases h⟩
 ·have p:=g.pw
  rw [List.pairwise_append] at p ⊢
  refine ⟨p.1,List.pairwise_singleton _ _,fun f hf y hy=>?_⟩
  rw [show y={x with b2:=some []} by simpa using hy]
  exact fun n L e=>⟨(p.2.2 f hf x (by simp) n L e).1,by simp only [Option.getD,nsL]⟩
 ·have c:=g.ct
  have e:ctF (I++[{x with b2:=some []}])=ctF (I++[x]):=by
   rw [ct_snoc,ct_snoc]
   unfold Fr.ins
   rw [e2]
   rfl
  rw [e]
  simp only [List.length_append,List.length_singleton] at c ⊢
  split at c<;>split<;>omega
theorem close0 {k:Nat} {I:List Fr} {x y:Fr} {i:Bool} {s:Say} (gf:∀ j f,(I++[x]++[y])[j]?=some f→Gf k j f) (pw:(I++[x]++[y]).Pairwise Below) (h:y.hd=some (i,s)) : (∀ j f,(I++[x.add (closeSt y i s)])[j]?=some f→Gf k j f)∧(I++[x.add (closeSt y i s)]).Pairwise Below∧ctF (I++[x.add (closeSt y i s)])=ctF (I++[x]++[y]):=by
 have gy:=gf (I++[x]).length y (by simp)
 have ly:(I++[x]).length=I.length+1:=by simp
 rw [ly] at gy
 have gi:∀ j f,(I++[x])[j]?=some f→Gf k j f:=fun j f e=>gf j f (by rw [List.getElem?_append_left (List.getElem?_eq_some_iff.mp e).1];exact e)
 have p:=List.pairwise_append.mp pw
 obtain ⟨i',s',e',hs⟩:=gy.h1 (by omega)
 rw [h] at e'
 cases e'
 have d1:=gy.d1
 have d2:=gy.d2
 have cg:(closeSt y i s).gd false∧(closeSt y i s).dp+I.length≤5∧(closeSt y i s).lp PL∧(closeSt y i s).ct=y.ow+y.mu * y.ins:=by
  unfold Fr.ow Fr.mu Fr.ins
  rw [h]
  cases i with
  | true=>exact ⟨⟨hs,gy.g1,gy.g2⟩,by simp only [closeSt,if_true,Stm.dp];omega,by simp only [closeSt,if_true,Stm.lp];exact ⟨gy.l1,gy.l2⟩,by simp only [closeSt,if_true,Stm.ct];omega⟩
  | false =>
   obtain ⟨a,b,n,L,c,d,l0,l3,q1,q2,q3⟩:=gy.wh s h
   exact ⟨⟨hs,gy.g1⟩,by simp only [closeSt,Bool.false_eq_true,if_false,Stm.dp];omega,by simp only [closeSt,Bool.false_eq_true,if_false,Stm.lp];exact ⟨⟨lname n,L,⟨n,by omega,rfl⟩,l0,l3,q1,q2,q3⟩,gy.l1⟩,by rw [b];simp only [closeSt,Bool.false_eq_true,if_false,Stm.ct,Option.getD,ctL];omega⟩
 have nsy:∀ f∈I++[x],∀ n L,f.hd=some (false,limS n L)→(closeSt y i s).ns (lname n):=fun f hf n L e=>by
  obtain ⟨a,b⟩:=p.2.2 f hf y (by simp) n L e
  unfold closeSt
  cases i with
  | true=>simp only [if_true,Stm.ns];exact ⟨a,b⟩
  | false=>simp only [Bool.false_eq_true,if_false,Stm.ns];exact a
 refine ⟨fun j f e=>?_,?_,?_⟩
 ·rcases get_snoc e with ⟨a,b⟩ | ⟨rfl,rfl⟩
  ·exact gi j f (by rw [List.getElem?_append_left a];exact b)
  ·have gx:=gi I.length x (by simp)
   by_cases hw:∃ t,x.hd=some (false,t)
   ·obtain ⟨t,ht⟩:=hw
    obtain ⟨a,b,n,L,c,d,l0,l3,q1,q2,q3⟩:=gx.wh t ht
    have nn:=nsy x (by simp) n L (by rw [ht,q1])
    have e1:x.add (closeSt y i s)={x with b1:=x.b1++[closeSt y i s]}:=by unfold Fr.add;rw [b]
    have g2:=gx.g2
    have d2:=gx.d2
    have l2:=gx.l2
    obtain ⟨z,r,er⟩:∃ z r,x.b1=z::r:=by
     cases eb:x.b1 with
     | nil=>rw [eb] at q2;cases q2
     | cons z r=>exact ⟨z,r,rfl⟩
    rw [e1]
    exact ⟨gdL_app1 gx.g1 cg.1,g2,by show dpL (x.b1++[_])+_≤5;rw [dpL_app1];have:=gx.d1;omega,d2,gx.h0,gx.h1,lpL_app gx.l1 cg.2.2.1,l2,fun t' ht'=>by
     rw [show x.hd=some (false,t') from ht'] at ht
     cases ht
     refine ⟨a,b,n,L,c,d,l0,l3,q1,?_,?_⟩
     ·show (x.b1++[_]).head?=_
      rw [er] at q2 ⊢;exact q2
     ·show nsL _ (x.b1++[_]).tail
      rw [er] at q3 ⊢;exact nsL_app q3 nn⟩
   ·have e2:(x.add (closeSt y i s)).hd=x.hd:=add_hd _ _
    have b0:Gf 0 I.length x:={gx with wh:=fun t ht=>absurd ⟨t,ht⟩ hw}
    have b1:=b0.add cg.1 cg.2.1 cg.2.2.1 (fun n hn=>by omega)
    exact {b1 with wh:=fun t ht=>absurd ⟨t,by rw [← e2];exact ht⟩ hw}
 ·rw [List.pairwise_append]
  have p1:=List.pairwise_append.mp p.1
  refine ⟨p1.1,List.pairwise_singleton _ _,fun f hf z hz=>?_⟩
  rw [show z=x.add (closeSt y i s) by simpa using hz]
  exact (p1.2.2 f hf x (by simp)).add fun n L e=>nsy f (by simp [hf]) n L e
 ·rw [ct_add,ct_snoc (I++[x]) y,cg.2.2.2]
theorem G16.close {k:Nat} {I:List Fr} {x y:Fr} {i:Bool} {s:Say} (g:G16 k (I++[x]++[y])) (hk:k < 20) (h:y.hd=some (i,s)):G16 (k+1) (I++[x.add (closeSt y i s)]):=by
 obtain ⟨a,b,c⟩:=close0 g.gf g.pw h
 refine ⟨fun j f e=>(a j f e).more hk,b,?_,by have:=g.ln;simp at this ⊢;omega⟩
 have d:=g.ct
 rw [c]
 simp only [List.length_append,List.length_singleton] at d ⊢
 split at d<;>split<;>omega
theorem G16.pushW {k:Nat} {I:List Fr} {x:Fr} {L:Int} (g:G16 k (I++[x])) (hk:k < 20) (h1:(I++[x]).length < 3) (l0:0≤L) (l3:L≤3) (inj:∀ n < k,lname k≠lname n) : G16 (k+1) (I++[x.add (.set (lname k) (.num 0))]++[⟨some (false,limS k L),[incS k],none⟩]):=by
 have ll:I.length+1 < 3:=by simpa using h1
 have lm:(Stm.set (lname k) (.num 0)).lp PL:=by simp [Stm.lp]
 have nm:∀ n < k,(Stm.set (lname k) (.num 0)).ns (lname n):=fun n hn=>by simp only [Stm.ns];exact inj n hn
 have hg:=gf_add g.gf (m:=.set (lname k) (.num 0)) ⟨⟨by decide,by decide⟩,by simp [Say.depth]⟩ (by simp only [Stm.dp];omega) lm nm
 have hp:=pw_add g.gf g.pw nm
 have le:(I++[x.add (.set (lname k) (.num 0))]).length=I.length+1:=by simp
 have li:lpL PL [incS k]:=by simp [lpL,incS,Stm.lp]
 have sk:(limS k L).sok:=⟨⟨trivial,by omega,by omega⟩,by simp [limS,Say.depth]⟩
 refine ⟨gf_push (x:=⟨some (false,limS k L),[incS k],none⟩) (fun j f e=>(hg j f e).more hk) ⟨?_,trivial,by rw [le];simp only [incS,dpL,Stm.dp];omega,by rw [le];simp only [Option.getD,dpL];omega,fun z=>by rw [le] at z;omega,fun _=>⟨false,_,rfl,sk⟩,li,by simp only [Option.getD,lpL],fun t e=>?_⟩,?_,?_,by simp;omega⟩
 ·exact ⟨⟨⟨trivial,by decide,by decide⟩,by simp [Say.depth]⟩,trivial⟩
 ·cases e
  exact ⟨by rw [le];omega,rfl,k,L,by omega,hk,l0,l3,rfl,rfl,by simp only [List.tail_cons,nsL]⟩
 ·rw [List.pairwise_append]
  refine ⟨hp,List.pairwise_singleton _ _,fun f hf y hy=>?_⟩
  rw [show y=⟨some (false,limS k L),[incS k],none⟩ by simpa using hy]
  intro n M e
  obtain ⟨j,hj⟩:=List.mem_iff_getElem?.mp hf
  obtain ⟨n',L',a,b⟩:=nm_of (hg j f hj) e
  rw [lim_nm b]
  exact ⟨by simp only [nsL,incS,Stm.ns];exact ⟨inj n' a,trivial⟩,by simp only [Option.getD,nsL]⟩
 ·have c:=g.ct
  obtain ⟨u1,u2,u3⟩:=G16.mu g.gf
  have e1:muF (I++[x.add (.set (lname k) (.num 0))])=muF (I++[x]):=by rw [mu_snoc,mu_snoc,(add_ow _ _).2]
  rw [ct_snoc,ct_add,e1]
  show ctF (I++[x])+muF (I++[x]) * 1+muF (I++[x]) * (4+3 * (ctL [incS k]+ctL []))≤_
  simp only [ctL,incS,Stm.ct,List.length_append,List.length_singleton] at c u2 u3 ⊢
  rw [if_neg (by omega)] at c
  split
  ·have:=u2 (by omega);omega
  ·have:=u3 (by omega);omega
theorem G16.start:G16 0 [⟨none,[],none⟩]:=by
 refine ⟨fun j f e=>?_,List.pairwise_singleton _ _,by simp [ctF,Fr.ow,Fr.mu,Fr.ins,ctL],by decide⟩
 cases j with
 | zero =>
  cases e
  exact ⟨trivial,trivial,by simp [dpL],by simp [dpL],fun _=>rfl,fun z=>absurd rfl z,by simp only [lpL],by simp only [Option.getD,lpL],fun _ e=>by cases e⟩
 | succ j=>cases e
theorem DeckAt.up {H:Hp} {r:Addr} {n m:Nat} (R:DeckAt H r n) (h:n≤m):DeckAt H r m:=by
 obtain ⟨c,f,s,e,x,y⟩:=R
 exact ⟨c,f,s,e,x,by omega⟩
theorem DeckAt.tk {H H':Hp} {r:Addr} {n:Nat} (R:DeckAt H r n) (k:Kp [r] H H'):TupKp H H':=.of k fun a ha=>by
 obtain ⟨c,f,s,e,_⟩:=R
 have:a=r:=by simpa using ha
 exact ⟨_,this ▸ e,fun _ h=>by cases h⟩
noncomputable def bd:Nat→Nat
 | 0=>3
 | d+1=>2 * bd d+3
theorem bd_pos (d:Nat):3≤bd d:=by
 cases d with
 | zero=>exact Nat.le_refl _
 | succ d=>rw [bd];omega
inductive spCell (K:PySem.W.Frag) (vs:List V) (H:Hp) (Q:VK) (E:XK):Prop
 | mk (a:Addr) (ns:List Int) (k:Int) (_:vs=[.ref a,.int k]) (_:SqL K H a (ns.map V.int)) (_:0≤k) (_:∀ z:Int,Q (.int z) H):spCell K vs H Q E
inductive spDWorth (vs:List V) (H:Hp) (Q:VK) (E:XK):Prop
 | mk (r:Addr) (n:Nat) (_:vs=[.ref r]) (_:DeckAt H r n) (_:n≤900) (_:∀(w:Wo) (H':Hp),isWo w→DeckAt H' r (n+2)→Kp [r] H H'→Q (wv w) H'):spDWorth vs H Q E
noncomputable def spDName:Sp:=fun vs H Q _=>∃(r:Addr) (n:Nat),vs=[.ref r]∧DeckAt H r n∧n≤900∧∀(x:Str) (H':Hp),x∈NM16→DeckAt H' r (n+1)→Kp [r] H H'→Q (.str x) H'
theorem q_dname {r:Addr} {H:Hp} {Q:VK} {E:XK}:spDName [.ref r] H Q E = ∃ n,DeckAt H r n∧n≤900∧∀(x:Str) (H':Hp),x∈NM16→DeckAt H' r (n+1)→Kp [r] H H'→Q (.str x) H' :=
 propext ⟨fun ⟨_,n,e,c⟩=>by cases e;exact ⟨n,c⟩,fun ⟨n,c⟩=>⟨_,n,rfl,c⟩⟩
inductive spDSay (d:Nat) (vs:List V) (H:Hp) (Q:VK) (E:XK):Prop
 | mk (r:Addr) (dp:Int) (n:Nat) (_:vs=[.ref r,.int dp]) (_:1≤dp) (_:dp≤d) (_:DeckAt H r n) (_:n+bd d≤900) (_:∀(v:V) (s:Say) (H':Hp),SayAt H' v s→s.ok→(s.depth:Int)≤dp→DeckAt H' r (n+bd d)→Kp [r] H H'→Q v H'):spDSay d vs H Q E
inductive spDPlain (vs:List V) (H:Hp) (Q:VK) (E:XK):Prop
 | mk (r:Addr) (n:Nat) (_:vs=[.ref r]) (_:DeckAt H r n) (_:n≤100) (_:∀(v:V) (m:Stm) (H':Hp),StmAt H' v m→m.gd false∧m.isPl=true→(m.lp PL∧∀ n,m.ns (lname n))→Kp [r] H H'→Q v H'):spDPlain vs H Q E
theorem sst {a b:String} (h:a≠b):¬ ((Str.ofString a:Str)=Str.ofString b):=fun z=>h (by rwa [w_sinj] at z)
theorem kp_new2 {S:List Addr} {H:Hp} {p:Addr} {o u:HO} (h:H p=none):Kp S H (upd (upd H p o) p u):=fun b x e _=>by rw [upd_ne (ne_of_none e h),upd_ne (ne_of_none e h)];exact e
structure MdAt (H:Hp) (md nd od dd:Addr) (S:Pu):Prop where
 hm:∃ kvs,H md=some (.dK kvs)∧A7 ((kvs.length≤50∧valV kvs (.inr "over")=some (.bl (!S.sl.isN)))) (valV kvs (.inr "names")=some (.ref nd)) (valV kvs (.inr "arg")=some (wv S.ar)) (valV kvs (.inr "now")=some (.int S.nw)) (valV kvs (.inr "made")=some (.int S.made)) (valV kvs (.inr "open")=some (.ref od)) (valV kvs (.inr "done")=some (.ref dd))
 hn:H nd=some (.dK (nmK S.nm))
 ho:H od=some (.lst (S.pend.map V.int))
 hd:H dd=some (.lst [])
 an:S.ans=[]
 n1:md≠nd
 n2:od≠dd
 asc:S.pend.Pairwise (· < ·)
 lt:∀ i∈S.pend,0≤i∧i < S.made
theorem MdAt.kp {H H':Hp} {md nd od dd:Addr} {S:Pu} (M:MdAt H md nd od dd S) (k:Kp [] H H'):MdAt H' md nd od dd S:=by
 obtain ⟨kvs,e,r⟩:=M.hm
 exact {M with hm:=⟨kvs,k.at e,r⟩,hn:=k.at M.hn,ho:=k.at M.ho,hd:=k.at M.hd}
inductive spLSays (d:Nat) (vs:List V) (H:Hp) (Q:VK) (E:XK):Prop
 | mk (v:V) (md nd od dd:Addr) (S:Pu) (s:Say) (_:vs=[v,.ref md]) (_:SayAt H v s) (_:s.depth≤d) (_:s.ok) (_:MdAt H md nd od dd S) (_:S.pl.Ok) (_:∀ H',Kp [] H H'→Q (wv (S.worth s)) H'):spLSays d vs H Q E
theorem w_arg {S:Pu}:S.worth .arg=S.ar:=rfl
theorem w_ans {S:Pu} {s:Say}:S.worth (.ans s)=lookA S.ans (S.worth s):=rfl
theorem w_neg {S:Pu} {s:Say}:S.worth (.neg s)=some (if num (S.worth s)=0 then 1 else 0):=rfl
theorem w_two {S:Pu} {g:Sg} {a b:Say}:S.worth (.two g a b)=some (g.of (S.worth a) (S.worth b)):=rfl
theorem q_i0 {w:Wo} {k:Int→Prop} {u:Tg k}:onI0 (wv w) k u=k (num w):=by cases w<;>rfl
theorem eq_wv {a b:Wo} {H:Hp} {Q:VK} (q:Q (.bl (decide (a=b))) H):rEq (wv a) (wv b) H Q:=by
 cases a<;>cases b<;>(refine ⟨rfl,?_⟩;simpa [wv] using q)
theorem lookA_nil (w:Wo):lookA [] w=none:=by cases w<;>rfl
theorem merge_ops {a b c:V}:mergeK [] [((.inr (Str.ofString "+"):Key),a),(.inr (Str.ofString "-"),b),(.inr (Str.ofString "*"),c)]=[(.inr (Str.ofString "+"),a),(.inr (Str.ofString "-"),b),(.inr (Str.ofString "*"),c)]:=by
 have n1:=sst (show "+"≠"-" by decide)
 have n2:=sst (show "+"≠"*" by decide)
 have n3:=sst (show "-"≠"*" by decide)
 simp [mergeK,putK,n1,n2,n3]
theorem v_add {a b c:V}:valV [((.inr (Str.ofString "+"):Key),a),(.inr (Str.ofString "-"),b),(.inr (Str.ofString "*"),c)] (.inr (Str.ofString "+"))=some a:=valV_pos rfl
theorem v_sub {a b c:V}:valV [((.inr (Str.ofString "+"):Key),a),(.inr (Str.ofString "-"),b),(.inr (Str.ofString "*"),c)] (.inr (Str.ofString "-"))=some b:=by
 rw [valV_neg (fun z=>sst (show "+"≠"-" by decide) (Key.inr.inj z)),valV_pos rfl]
theorem v_mul {a b c:V}:valV [((.inr (Str.ofString "+"):Key),a),(.inr (Str.ofString "-"),b),(.inr (Str.ofString "*"),c)] (.inr (Str.ofString "*"))=some c:=by
 rw [valV_neg (fun z=>sst (show "+"≠"*" by decide) (Key.inr.inj z)),valV_neg (fun z=>sst (show "-"≠"*" by decide) (Key.inr.inj z)),valV_pos rfl]
theorem v_put {kvs:List (Key×V)} {a b:String} {x:V} {o:Option V} (e:valV kvs (.inr (Str.ofString a))=o) (h:a≠b:=by decide):valV (putK kvs (.inr (Str.ofString b)) x) (.inr (Str.ofString a))=o:=by
 rw [valV_put,if_neg (fun z=>sst h (Key.inr.inj z))];exact e
theorem v_same {kvs:List (Key×V)} {a:String} {x:V}:valV (putK kvs (.inr (Str.ofString a)) x) (.inr (Str.ofString a))=some x:=by rw [valV_put,if_pos rfl]
theorem putK_len {kvs:List (Key×V)} {k:Key} {x y:V} (h:valV kvs k=some y):(putK kvs k x).length=kvs.length:=by
 unfold putK
 rw [valV_any,h]
 simp
theorem MdAt.made {H:Hp} {md nd od dd:Addr} {S:Pu} (M:MdAt H md nd od dd S) {kvs:List (Key×V)} (e:H md=some (.dK kvs)):MdAt (upd H md (.dK (putK kvs (.inr "made") (.int ((S.made:Int)+1))))) md nd od dd {S with made:=S.made+1}:=by
 obtain ⟨kv,e',l,v1,v2,v3,v4,v5,v6⟩:=M.hm
 rw [e] at e'
 cases e'
 exact {M with
  hm:=⟨_,upd_same,⟨by rw [putK_len v4];exact l.1,v_put l.2⟩,v_put v1,v_put v2,v_put v3,v_same,v_put v5,v_put v6⟩
  hn:=by rw [upd_ne M.n1.symm];exact M.hn
  ho:=keepU e M.ho
  hd:=keepU e M.hd
  lt:=fun i hi=>(by have:=M.lt i hi;exact ⟨this.1,by show i < ((S.made+1:Nat):Int);omega⟩)}
theorem MdAt.open {H:Hp} {md nd od dd:Addr} {S:Pu} (M:MdAt H md nd od dd S) {pd:List Int} (a:pd.Pairwise (· < ·)) (b:∀ i∈pd,0≤i∧i < S.made):MdAt (upd H od (.lst (pd.map V.int))) md nd od dd {S with pend:=pd}:=by
 obtain ⟨kv,e',r⟩:=M.hm
 exact {M with
  hm:=⟨kv,keepU M.ho e',r⟩
  hn:=keepU M.ho M.hn
  ho:=upd_same
  hd:=by rw [upd_ne M.n2.symm];exact M.hd
  asc:=a
  lt:=b}
theorem MdAt.name {H:Hp} {md nd od dd:Addr} {S:Pu} (M:MdAt H md nd od dd S) (x:Str) (w:Wo):MdAt (upd H nd (.dK (nmK (putN S.nm x w)))) md nd od dd {S with nm:=putN S.nm x w}:=by
 obtain ⟨kv,e',r⟩:=M.hm
 exact {M with
  hm:=⟨kv,by rw [upd_ne M.n1];exact e',r⟩
  hn:=upd_same
  ho:=keepU M.hn M.ho
  hd:=keepU M.hn M.hd (by intro z;cases z)}
theorem MdAt.tk {H H':Hp} {md nd od dd:Addr} {S:Pu} (M:MdAt H md nd od dd S) {D:List Addr} (k:Kp D H H') (h:∀ a∈D,a=md∨a=nd∨a=od∨∃ xs,H a=some (.lst xs)):TupKp H H':=.of k fun a ha=>by
 obtain ⟨kv,e',r⟩:=M.hm
 rcases h a ha with rfl | rfl | rfl | ⟨xs,e⟩
 ·exact ⟨_,e',fun _ z=>by cases z⟩
 ·exact ⟨_,M.hn,fun _ z=>by cases z⟩
 ·exact ⟨_,M.ho,fun _ z=>by cases z⟩
 ·exact ⟨_,e,fun _ z=>by cases z⟩
theorem MdAt.other {H:Hp} {md nd od dd op:Addr} {S:Pu} (M:MdAt H md nd od dd S) {us vs:List V} (e:H op=some (.lst us)) (n1:op≠od) (n2:op≠dd):MdAt (upd H op (.lst vs)) md nd od dd S:=by
 obtain ⟨kv,e',r⟩:=M.hm
 exact {M with
  hm:=⟨kv,keepU e e',r⟩
  hn:=keepU e M.hn
  ho:=by rw [upd_ne n1.symm];exact M.ho
  hd:=by rw [upd_ne n2.symm];exact M.hd}
theorem due_eq (nw:Int) (w:Wo):(if nw+(if num w > 0 then num w else 0) < 1000000000000 then nw+(if num w > 0 then num w else 0) else 1000000000000)=dueOf nw w:=by
 cases w with
 | none=>simp [num,dueOf]
 | some z=>rfl
theorem MdAt.nop {H:Hp} {md nd od dd op:Addr} {S:Pu} (M:MdAt H md nd od dd S) {us:List V} (e:H op=some (.lst us)) (n1:op≠od):op∉[md,nd,od]:=by
 obtain ⟨kv,e',r⟩:=M.hm
 simp only [List.mem_cons,List.not_mem_nil,or_false,not_or]
 exact ⟨ne_of e e' (by intro z;cases z),ne_of e M.hn (by intro z;cases z),n1⟩
inductive spLTick (vs:List V) (H:Hp) (Q:VK) (E:XK):Prop
 | mk (md nd od dd:Addr) (S:Pu) (x:Str) (_:vs=[.ref md,.str x]) (_:MdAt H md nd od dd S) (_:S.made≤100000) (_:S.pend.length≤100000) (_:S.nm.length≤100000) (_:∀ H',MdAt H' md nd od dd (S.newT x)→Kp [md,nd,od] H H'→Q (.int S.made) H'):spLTick vs H Q E
inductive spLDo (vs:List V) (H:Hp) (Q:VK) (E:XK):Prop
 | mk (md nd od dd op:Addr) (v:V) (S:Pu) (m:Stm) (us:List V) (cs:Cmds) (_:vs=[.ref md,v,.ref op]) (_:MdAt H md nd od dd S) (_:StmAt H v m) (_:m.isPl=true) (_:m.gd false) (_:S.pl.Ok) (_:S.made≤100000) (_:S.pend.length≤100000) (_:S.nm.length≤100000) (_:H op=some (.lst us)) (_:CsAt H us cs) (_:us.length≤100000) (_:op≠od) (_:op≠dd) (_:∀(H':Hp) (us':List V),MdAt H' md nd od dd (deed S m).1→H' op=some (.lst us')→CsAt H' us' (cs++(deed S m).2)→Kp [md,nd,od,op] H H'→Q .non H'):spLDo vs H Q E
theorem erase_filter:∀ {l:List Int} {i:Int} {k:Nat},l.Pairwise (· < ·)→posI i l=some k→l.eraseIdx k=l.filter fun j=>decide (j≠i)
 | [],i,k,_,h=>by simp [posI] at h
 | a::l,i,k,p,h=>by
  rw [List.pairwise_cons] at p
  unfold posI at h
  rw [List.findIdx?_cons] at h
  by_cases e:a=i
  ·subst e
   simp only [decide_true,if_true,Option.some.injEq] at h
   subst h
   rw [List.eraseIdx_cons_zero,List.filter_cons_of_neg (by simp)]
   exact (List.filter_eq_self.mpr fun j hj=>by have:=p.1 j hj;simp;omega).symm
  ·simp only [e,decide_false,Bool.false_eq_true,if_false,Option.map_eq_some_iff] at h
   obtain ⟨k',e',rfl⟩:=h
   rw [List.eraseIdx_cons_succ,List.filter_cons_of_pos (by simpa using e),erase_filter p.2 e']
theorem pos_mem {l:List Int} {i:Int} (h:i∈l):∃ k,posI i l=some k:=by
 cases e:posI i l with
 | some k=>exact ⟨k,rfl⟩
 | none =>
  unfold posI at e
  rw [List.findIdx?_eq_none_iff] at e
  exact absurd (e i h) (by simp)
theorem in_wo (w:Wo) (p:List Int):inV (wv w) (p.map V.int)=decide (∃ i,i∈p∧w=some i):=by
 cases w with
 | none=>simp [inV,wv,eqV]
 | some i=>rw [show wv (some i)=.int i from rfl,in_ints];simp
theorem AlD.pair {H:Hp} {a b:Addr} {xs:List V} {d:Nat} (ha:H a=some (.tup xs)) (hb:H b=some (.tup xs)) (hl:xs.length≤1000) (h:∀ v∈xs,AtomV v):AlD H (d+2) (.ref a) (.ref b) :=
 .tup ha hb rfl hl fun i x y e1 e2=>by
  rw [e1] at e2
  cases e2
  exact .atom (h x (List.mem_of_getElem? e1))
noncomputable def Pu.w (S:Pu) (st:Stk) (x:Slp):Pu:={S with stk:=st,sl:=x}
theorem deed_atoms (S:Pu) (m:Stm):∀ c∈(deed S m).2,c.length≤1000∧∀ v∈c,AtomV v:=by
 have at4:∀ {a b c d:V},AtomV a→AtomV b→AtomV c→AtomV d→∀ v∈[a,b,c,d],AtomV v:=fun {a b c d} h1 h2 h3 h4 v hv=>by
  simp only [List.mem_cons,List.not_mem_nil,or_false] at hv
  rcases hv with rfl | rfl | rfl | rfl<;>assumption
 have at3:∀ {a b c:V},AtomV a→AtomV b→AtomV c→∀ v∈[a,b,c],AtomV v:=fun {a b c} h1 h2 h3 v hv=>by
  simp only [List.mem_cons,List.not_mem_nil,or_false] at hv
  rcases hv with rfl | rfl | rfl<;>assumption
 have at2:∀ {a b:V},AtomV a→AtomV b→∀ v∈[a,b],AtomV v:=fun {a b} h1 h2 v hv=>by
  simp only [List.mem_cons,List.not_mem_nil,or_false] at hv
  rcases hv with rfl | rfl<;>assumption
 intro c hc
 cases m with
 | order x y s=>rw [show c=_ by simpa [deed] using hc];exact ⟨by simp,at4 trivial trivial trivial (wv_atom _)⟩
 | child x y s=>rw [show c=_ by simpa [deed] using hc];exact ⟨by simp,at4 trivial trivial trivial (wv_atom _)⟩
 | timer x s=>rw [show c=_ by simpa [deed] using hc];exact ⟨by simp,at3 trivial trivial trivial⟩
 | send s k r=>rw [show c=_ by simpa [deed] using hc];exact ⟨by simp,at4 trivial (wv_atom _) trivial (wv_atom _)⟩
 | fin s=>rw [show c=_ by simpa [deed,Pu.ends] using hc];exact ⟨by simp,at2 trivial (wv_atom _)⟩
 | drop s =>
  simp only [deed] at hc
  split at hc
  ·split at hc
   ·rw [show c=_ by simpa using hc];exact ⟨by simp,at2 trivial trivial⟩
   ·simp at hc
  ·simp at hc
 | hear x k =>
  simp only [deed] at hc
  split at hc<;>simp at hc
 | wait x ss =>
  simp only [deed] at hc
  split at hc<;>simp at hc
 | set x s=>simp [deed] at hc
 | whl s b=>simp [deed] at hc
 | iff s b o=>simp [deed] at hc
structure Bn (S:Pu) (N:Nat):Prop where
 md:S.made≤N
 pd:S.pend.length≤N
 nm:S.nm.length≤N
 pl:S.pl.Ok
theorem Bn.deed {S:Pu} {N:Nat} (B:Bn S N) {m:Stm} (h:m.isPl=true) (g:m.gd false) (hN:N≤900000):Bn (deed S m).1 (N+1):=by
 have put:∀(n:Str) {w:Wo},isWo w→Bn {S with nm:=putN S.nm n w} (N+1):=fun n w hw =>
  ⟨Nat.le_succ_of_le B.md,Nat.le_succ_of_le B.pd,(by have:=putN_len S.nm n w;have:=B.nm;show (putN S.nm n w).length≤N+1;omega),ok_put B.pl n hw⟩
 have newT:∀ n,Bn (S.newT n) (N+1):=fun n =>
  have hw:isWo (some (S.made:Int)):=isWo_int (by omega) (by have:=B.md;omega)
  ⟨Nat.succ_le_succ B.md,(by have:=B.pd;show (S.pend++[(S.made:Int)]).length≤N+1;rw [List.length_append];simp;exact this),(put n hw).nm,(put n hw).pl⟩
 have B1:Bn S (N+1):=⟨Nat.le_succ_of_le B.md,Nat.le_succ_of_le B.pd,Nat.le_succ_of_le B.nm,B.pl⟩
 cases m with
 | set x s=>exact put x (ev_wo B.pl g.1)
 | order x y s=>exact newT x
 | child x y s=>exact newT x
 | timer x s=>exact newT x
 | send s k r=>exact B1
 | drop s =>
  simp only [Own.deed]
  split
  ·split
   ·exact {B1 with pd:=Nat.le_trans filter_le (Nat.le_succ_of_le B.pd),pl:=⟨B.pl.nm,B.pl.ar,B.pl.an⟩}
   ·exact B1
  ·exact B1
 | _=>cases h
theorem StmsAt.snoc {H:Hp} {vs:List V} {ms:List Stm} {v:V} {m:Stm} (h:StmsAt H vs ms) (e:StmAt H v m):StmsAt H (vs++[v]) (ms++[m]):=by
 induction ms generalizing vs with
 | nil=>cases h;exact .cons e .nil
 | cons m ms ih =>
  cases h with
  | cons a b=>exact .cons a (ih b)
theorem AlD.cmdsG {H:Hp} {a b:Addr} {us vs:List V} {cs:Cmds} {d:Nat} (ea:H a=some (.lst us)) (eb:H b=some (.lst vs)) (ha:CsAt H us cs) (hb:CsAt H vs cs) (few:cs.length≤1000) (hA:∀ c∈cs,c.length≤1000∧∀ v∈c,AtomV v):AlD H (d+3) (.ref a) (.ref b):=by
 have l1:=ha.len
 have l2:=hb.len
 refine .lst ea eb (by omega) (by omega) fun i x y e1 e2=>?_
 obtain ⟨a',c,rfl,ec,ea'⟩:=ha.at e1
 obtain ⟨b',c',rfl,ec',eb'⟩:=hb.at e2
 rw [ec] at ec'
 cases ec'
 obtain ⟨hl,hv⟩:=hA c (List.mem_of_getElem? ec)
 exact AlD.pair ea' eb' hl hv
theorem AlD.ints {H:Hp} {a b:Addr} {ns:List Int} {d:Nat} (ea:H a=some (.lst (ns.map V.int))) (eb:H b=some (.lst (ns.map V.int))) (few:ns.length≤1000):AlD H (d+3) (.ref a) (.ref b):=by
 refine .lst ea eb rfl (by simpa using few) fun i x y e1 e2=>?_
 rw [e1] at e2
 cases e2
 rw [List.getElem?_map] at e1
 obtain ⟨z,_,rfl⟩:=Option.map_eq_some_iff.mp e1
 exact .atom trivial
noncomputable def baseP (w:Wo) (m:Int):Pu:=⟨[],.non,w,m,[],0,[],[],[]⟩
theorem take_new {b:List Stm} {m:Int} {w:Wo} (h:0≤m):(newP b).take (.beg m w)=goOn 300 ((baseP w m).w [(0,b,0)] .non):=by
 have e:later 0 m=m:=by unfold later;split<;>omega
 show (if (newP b).over (.beg m w)=true then _ else _)=_
 rw [if_neg (by simp [Pu.over,newP])]
 show goOn 300 {newP b with nw:=later 0 m,ar:=w,sl:=.non}=_
 rw [e]
 rfl
theorem fit_new {wt:Bool} {b:List Stm} (g:gdL wt b) (d:dpL b≤20):Fit wt (newP b) 0 :=
 {nm:=Nat.le_refl _,md:=Nat.le_refl _,pd:=Nat.le_refl _,an:=Nat.le_refl _,lt:=Nat.le_refl _,lw:=fun k ws h=>(by cases h)
  pl:=⟨fun _=>isWo_non,isWo_non,fun w=>(by show isWo (lookA [] w);rw [lookA_nil];exact isWo_non)⟩
  nw:=⟨Int.le_refl _,by show (0:Int)≤1000000000000;decide⟩
  sk:=⟨⟨Nat.zero_le _,by simp⟩,fun x hx=>(by rw [show x=(0,b,0) by simpa [newP] using hx];exact g),⟨by simpa using d,trivial⟩⟩
  sl:=⟨fun k e=>(by cases e),fun k e=>(by cases e)⟩}
noncomputable def OvAt (H:Hp) (md:Addr):Prop:=∃ kvs,H md=some (.dK kvs)∧valV kvs (.inr "over")=some (.bl true)
theorem MdAt.over {H:Hp} {md nd od dd:Addr} {S:Pu} (M:MdAt H md nd od dd S) {kvs:List (Key×V)} (e:H md=some (.dK kvs)) (w:Wo):MdAt (upd H md (.dK (putK kvs (.inr "over") (.bl true)))) md nd od dd {S with sl:=.ended w}:=by
 obtain ⟨kv,e',l,v1,v2,v3,v4,v5,v6⟩:=M.hm
 rw [e] at e'
 cases e'
 exact {M with
  hm:=⟨_,upd_same,⟨by rw [putK_len l.2];exact l.1,v_same⟩,v_put v1,v_put v2,v_put v3,v_put v4,v_put v5,v_put v6⟩
  hn:=by rw [upd_ne M.n1.symm];exact M.hn
  ho:=keepU e M.ho
  hd:=keepU e M.hd (by intro z;cases z)}
theorem MdAt.ov {H:Hp} {md nd od dd:Addr} {S:Pu} (M:MdAt H md nd od dd S) (h:S.sl.isN=false):OvAt H md:=by
 obtain ⟨kv,e,l,_⟩:=M.hm
 exact ⟨kv,e,by rw [l.2,h];rfl⟩
theorem npl {x:Str} (h:x∈NM16):¬ PL x:=fun ⟨n,_,e⟩=>nm_ne h n e
inductive spClo (vs:List V) (H:Hp) (Q:VK) (E:XK):Prop
 | mk (fl:Addr) (I:List (FC×Fr)) (x y:FC×Fr) (i:Bool) (s:Say) (_:vs=[.ref fl]) (_:FsAt H fl (I++[x]++[y])) (_:y.2.hd=some (i,s)) (_:(∀ z∈I++[x]++[y],z.2.b1.length≤1000∧(z.2.b2.getD []).length≤1000)) (_:∀ H',FsAt H' fl (I++[(x.1,x.2.add (closeSt y.2 i s))])→Kp (fl::x.1.cells) H H'→Q .non H'):spClo vs H Q E
theorem ct_mem:∀ {L:List Fr} {f:Fr},f∈L→f.ins≤ctF L
 | [],_,h=>by cases h
 | g::r,f,h=>by
  have m:=(mu_in (f:=g)).1
  have e:g.ins+ctF r≤g.mu * (g.ins+ctF r):=Nat.le_mul_of_pos_left _ m
  simp only [ctF]
  rcases List.mem_cons.mp h with rfl | h
  ·omega
  ·have:=ct_mem h
   omega
noncomputable def frs16 (L:List (FC×Fr)):List Fr:=L.map (·.2)
theorem frs_snoc (I:List (FC×Fr)) (x:FC×Fr):frs16 (I++[x])=frs16 I++[x.2]:=by simp [frs16]
inductive spPiece (vs:List V) (H:Hp) (Q:VK) (E:XK):Prop
 | mk (fl dk:Addr) (k:Nat) (I:List (FC×Fr)) (x:FC×Fr) (_:vs=[.ref fl,.ref dk,.int k]) (_:k < 20) (_:FsAt H fl (I++[x])) (_:G16 k (frs16 (I++[x]))) (_:DeckAt H dk 3) (_:dk∉fl::cellsL (I++[x])) (_:∀(I':List (FC×Fr)) (x':FC×Fr) (H':Hp),FsAt H' fl (I'++[x'])→G16 (k+1) (frs16 (I'++[x']))→(∀ a∈fl::cellsL (I'++[x']),a∈fl::cellsL (I++[x])∨H a=none)→Kp (dk::fl::cellsL (I++[x])) H H'→Q .non H'):spPiece vs H Q E
theorem len_of {k:Nat} {L:List (FC×Fr)} (g:G16 k (frs16 L)) (hk:k≤20):∀ z∈L,z.2.b1.length≤1000∧(z.2.b2.getD []).length≤1000:=fun z hz=>by
 have m:z.2.ins≤ctF (frs16 L):=ct_mem (List.mem_map.mpr ⟨z,hz,rfl⟩)
 have c:=g.ct
 have a:=ctL_len z.2.b1
 have b:=ctL_len (z.2.b2.getD [])
 unfold Fr.ins at m
 split at c<;>omega
theorem cell_kp {D:List Addr} {H H':Hp} {dk:Addr} (k:Kp [dk] H H'):Kp (dk::D) H H':=k.mono (by simp)
theorem StmsAt.dr {H:Hp}:∀ {us:List V} {b:List Stm} {i:Nat} {v:V},StmsAt H us b→us[i]?=some v→∃ m r,b.drop i=m::r∧StmAt H v m
 | _,[],i,v,h,e=>by cases h;simp at e
 | _,m::r,0,v,h,e=>by
  cases h with
  | cons a c=>simp only [List.getElem?_cons_zero,Option.some.injEq] at e;subst e;exact ⟨m,r,rfl,a⟩
 | _,m::r,i+1,v,h,e=>by
  cases h with
  | cons a c=>exact (StmsAt.dr (b:=r) (i:=i) c (by simpa using e) :)
theorem StmAt.wd {H:Hp} {v:V} {m:Stm} (h:StmAt H v m) (hp:m.isPl=true):∃ a w r,v=.ref a∧H a=some (.tup (.str w::r))∧w≠Str.ofString "end"∧w≠Str.ofString "if"∧w≠Str.ofString "while":=by
 cases h with
 | set e _=>exact ⟨_,_,_,rfl,e,sst (by decide),sst (by decide),sst (by decide)⟩
 | order e _=>exact ⟨_,_,_,rfl,e,sst (by decide),sst (by decide),sst (by decide)⟩
 | timer e _=>exact ⟨_,_,_,rfl,e,sst (by decide),sst (by decide),sst (by decide)⟩
 | child e _=>exact ⟨_,_,_,rfl,e,sst (by decide),sst (by decide),sst (by decide)⟩
 | send e _ _=>exact ⟨_,_,_,rfl,e,sst (by decide),sst (by decide),sst (by decide)⟩
 | drop e _=>exact ⟨_,_,_,rfl,e,sst (by decide),sst (by decide),sst (by decide)⟩
 | _=>cases hp
theorem Gb.len {S S':Pu} {b:List Stm} {n:Nat} {c:Cmds} (h:Gb S b n S' c):c.length≤n:=by
 induction h with
 | nil=>exact Nat.le_refl _
 | @pl S _ m _ _ _ _ _ ih=>have:=deed_len S m;rw [List.length_append];omega
 | fin=>exact Nat.le_refl _
 | ifG _ _ _ _ i1 i2=>rw [List.length_append];omega
 | ifE _ _ _ i1=>omega
 | wh0 _ _ ih=>omega
 | whG _ _ _ _ i1 i2=>rw [List.length_append];omega
 | whE _ _ _ i1=>omega
structure Am (H G:Hp) (md nd od dd op:Addr) (S':Pu) (full:Cmds) (Z:Nat) (T:Pu) (r:List Stm) (k:Nat):Prop where
 gb:∃ e cs uo,Gb T r k S' e∧G op=some (.lst uo)∧CsAt G uo cs∧cs++e=full∧cs.length+k≤Z
 M:MdAt G md nd od dd T
 sn:T.sl=.non
 bn:∃ N,Bn T N∧N+k≤Z
 kp:Kp [md,nd,od,op] H G
structure Ov (H G:Hp) (md nd od op:Addr) (S':Pu) (full:Cmds):Prop where
 or:∃ uo,G op=some (.lst uo)∧CsAt G uo full
 ov:OvAt G md
 sl:S'.sl≠.non
 kp:Kp [md,nd,od,op] H G
inductive spGone (d:Nat) (vs:List V) (H:Hp) (Q:VK) (E:XK):Prop
 | mk (bp md nd od dd op:Addr) (bl:Bool) (us:List V) (b:List Stm) (S S':Pu) (full:Cmds) (n Z:Nat) (_:vs=[.ref bp,.ref md,.ref op]) (_:H bp=some (if bl=true then .lst us else .tup us)) (_:StmsAt H us b) (_:gdL false b) (_:dpL b < d) (_:Am H H md nd od dd op S' full Z S b n) (_:Z≤1000) (_:op≠od) (_:op≠dd) (_:bp≠op) (_:bp≠od) (_:∀ H',(S'.sl=.non→Am H H' md nd od dd op S' full Z S' [] 0)→(S'.sl≠.non→Ov H H' md nd od op S' full)→Q .non H'):spGone d vs H Q E
theorem Am.tk {H G:Hp} {md nd od dd op:Addr} {S' T:Pu} {full:Cmds} {Z k:Nat} {r:List Stm} (A:Am H G md nd od dd op S' full Z T r k) {G':Hp} (K:Kp [md,nd,od,op] G G'):TupKp G G':=by
 obtain ⟨e,cs,uo,_,eo,_⟩:=A.gb
 exact A.M.tk K fun a ha=>by
  simp only [List.mem_cons,List.not_mem_nil,or_false] at ha
  rcases ha with rfl | rfl | rfl | rfl
  ·exact .inl rfl
  ·exact .inr (.inl rfl)
  ·exact .inr (.inr (.inl rfl))
  ·exact .inr (.inr (.inr ⟨_,eo⟩))
theorem gone_call {d:Nat} {md nd od dd op:Addr} {Qx:VK} {E:XK} {T2 S1:Pu} {bb:List Stm} {n1 N2 Z2:Nat} {c1 cs2:Cmds} {uo2 uq:List V} {G3:Hp} {bq:Addr} (g:Gb T2 bb n1 S1 c1) (e1:G3 bq=some (.tup uq)) (e2:StmsAt G3 uq bb) (e3:gdL false bb) (e4:dpL bb < d) (e5:MdAt G3 md nd od dd T2) (e6:T2.sl=.non) (e7:Bn T2 N2) (e8:N2+n1≤Z2) (e9:cs2.length+n1≤Z2) (e10:Z2≤1000) (e11:G3 op=some (.lst uo2)) (e12:CsAt G3 uo2 cs2) (m1:op≠od) (m2:op≠dd) (k:∀ H',(S1.sl=.non→Am G3 H' md nd od dd op S1 (cs2++c1) Z2 S1 [] 0)→(S1.sl≠.non→Ov G3 H' md nd od op S1 (cs2++c1))→Qx .non H'):spGone d [.ref bq,.ref md,.ref op] G3 Qx E :=
 ⟨_,md,nd,od,dd,op,false,uq,bb,T2,S1,_,n1,Z2,rfl,e1,e2,e3,e4,⟨⟨_,_,_,g,e11,e12,rfl,e9⟩,e5,e6,⟨_,e7,e8⟩,Kp.refl⟩,e10,m1,m2,ne_of e1 e11 (by intro z;cases z),ne_of e1 e5.ho (by intro z;cases z),k⟩
theorem Am.onto {H G3 H':Hp} {md nd od dd op:Addr} {S' S1:Pu} {f1 c2 full:Cmds} {Z Z2 k:Nat} {r:List Stm} (A:Am G3 H' md nd od dd op S1 f1 Z2 S1 [] 0) (K:Kp [md,nd,od,op] H G3) (g:Gb S1 r k S' c2) (ef:f1++c2=full) (h:Z2+k≤Z):Am H H' md nd od dd op S' full Z S1 r k:=by
 obtain ⟨e,cs,uo,g1,g2,g3,g4,g5⟩:=A.gb
 obtain ⟨N,b1,b2⟩:=A.bn
 cases g1
 rw [List.append_nil] at g4
 subst g4
 exact ⟨⟨c2,_,uo,g,g2,g3,ef,by omega⟩,A.M,A.sn,⟨N,b1,by omega⟩,K.trans A.kp⟩
theorem Ov.onto {H G3 H':Hp} {md nd od op:Addr} {S1:Pu} {f1:Cmds} (O:Ov G3 H' md nd od op S1 f1) (K:Kp [md,nd,od,op] H G3):Ov H H' md nd od op S1 f1:=⟨O.or,O.ov,O.sl,K.trans O.kp⟩
theorem Fit.slp {wt:Bool} {S:Pu} {N:Nat} (F:Fit wt S N) (x:Slp) (h1:∀ k,x≠.hear k) (h2:∀ ts,x≠.wait ts):Fit wt {S with sl:=x,pend:=[]} N :=
 ⟨F.nm,F.md,Nat.zero_le _,F.an,F.lt,F.lw,F.pl,F.nw,F.sk,fun k e=>absurd e (h1 k),fun ts e=>absurd e (h2 ts)⟩
theorem fit_goOn {wt:Bool}:∀(n:Nat) {S:Pu} {N:Nat},Fit wt S N→S.sl=.non→N+n≤900000→Fit wt (goOn n S).1 (N+n)
 | 0,S,N,F,h,_=>by
  cases e:stand S.come.stk with
  | none=>rw [goOn_none e];exact (F.come h).slp _ (fun _ z=>by cases z) (fun _ z=>by cases z)
  | some m=>rw [goOn_zero e];exact (F.come h).slp _ (fun _ z=>by cases z) (fun _ z=>by cases z)
 | n+1,S,N,F,h,hN=>by
  cases e:stand S.come.stk with
  | none=>rw [goOn_none e];exact ((F.come h).slp _ (fun _ z=>by cases z) (fun _ z=>by cases z)).more (by omega)
  | some m =>
   have F1:=(F.come h).one e h (by omega)
   cases z:(one S.come m).1.sl.isN with
   | true =>
    rw [goOn_go e z]
    exact (fit_goOn n F1 (isN_non z) (by omega)).more (by omega)
   | false=>rw [goOn_stop e z];exact F1.more (by omega)
theorem fit_beg {wt:Bool} {b:List Stm} (g:gdL wt b) (d:dpL b≤20) {m:Int} {w:Wo} (hm:0≤m∧m≤1000000000000) (hw:isWo w):Fit wt (goOn 300 ((baseP w m).w [(0,b,0)] .non)).1 300 :=
 have F:=fit_new (wt:=wt) g d
 have F1:Fit wt ((baseP w m).w [(0,b,0)] .non) 0:=⟨Nat.le_refl _,Nat.le_refl _,Nat.le_refl _,Nat.le_refl _,Nat.le_refl _,F.lw,⟨fun _=>isWo_non,hw,F.pl.an⟩,hm,F.sk,fun k e=>(by cases e),fun k e=>(by cases e)⟩
 (fit_goOn 300 F1 rfl (by omega)).more (by omega)
theorem AlD.slp {H:Hp} {v u:V} {s:Slp} (h1:SlpAt H v s) (h2:SlpAt H u s) (hs:(∃ w,s=.ended w)∨∃ ts,s=.wait ts∧ts.length≤1000):AlD H 3 v u:=by
 rcases hs with ⟨w,rfl⟩ | ⟨ts,rfl,hl⟩
 ·obtain ⟨p,rfl,e⟩:=h1
  obtain ⟨q,rfl,f⟩:=h2
  refine AlD.pair (d:=1) e f (by simp) fun v hv=>?_
  simp only [List.mem_cons,List.not_mem_nil,or_false] at hv
  rcases hv with rfl | rfl
  ·trivial
  ·exact wv_atom w
 ·obtain ⟨p,p2,rfl,e,e2⟩:=h1
  obtain ⟨q,q2,rfl,f,f2⟩:=h2
  refine .tup e f rfl (by simp) fun i x y a b=>?_
  match i,a,b with
  | 0,a,b =>
   simp only [List.getElem?_cons_zero,Option.some.injEq] at a b
   subst a b
   exact .atom trivial
  | 1,a,b =>
   simp only [List.getElem?_cons_succ,List.getElem?_cons_zero,Option.some.injEq] at a b
   subst a b
   refine AlD.pair (d:=0) e2 f2 (by simpa using hl) fun v hv=>?_
   obtain ⟨j,_,rfl⟩:=List.mem_map.mp hv
   trivial
  | k+2,a,b=>simp at a
theorem Gb.last {S S':Pu} {b:List Stm} {n:Nat} {c:Cmds} (h:Gb S b n S' c):S.sl=.non→S'.sl≠.non→∃(w:Wo) (cl:Cmds),S'.sl=.ended w∧c=cl++[[.str "end",wv w]]:=by
 induction h with
 | nil=>exact fun a b=>absurd a b
 | pl hp _ ih =>
  intro a b
  obtain ⟨w,cl,e1,e2⟩:=ih ((pl_sl hp).trans a) b
  exact ⟨w,_,e1,by rw [e2,← List.append_assoc]⟩
 | fin=>exact fun _ _=>⟨_,[],rfl,rfl⟩
 | ifG _ _ hn _ _ i2 =>
  intro _ b
  obtain ⟨w,cl,e1,e2⟩:=i2 hn b
  exact ⟨w,_,e1,by rw [e2,← List.append_assoc]⟩
 | ifE _ _ _ i1=>exact i1
 | wh0 _ _ ih=>exact ih
 | whG _ _ hn _ _ i2 =>
  intro _ b
  obtain ⟨w,cl,e1,e2⟩:=i2 hn b
  exact ⟨w,_,e1,by rw [e2,← List.append_assoc]⟩
 | whE _ _ _ i1=>exact i1
theorem Gb.atoms {S S':Pu} {b:List Stm} {n:Nat} {c:Cmds} (h:Gb S b n S' c):∀ x∈c,x.length≤1000∧∀ v∈x,AtomV v:=by
 have ap:∀ {a b:Cmds},(∀ x∈a,x.length≤1000∧∀ v∈x,AtomV v)→(∀ x∈b,x.length≤1000∧∀ v∈x,AtomV v)→∀ x∈a++b,x.length≤1000∧∀ v∈x,AtomV v:=fun h1 h2 x hx=>(List.mem_append.mp hx).elim (h1 x) (h2 x)
 induction h with
 | nil=>intro x hx;cases hx
 | @pl S _ m _ _ _ _ _ ih=>exact ap (deed_atoms S m) ih
 | @fin S s r=>exact deed_atoms S (.fin s)
 | ifG _ _ _ _ i1 i2=>exact ap i1 i2
 | ifE _ _ _ i1=>exact i1
 | wh0 _ _ ih=>exact ih
 | whG _ _ _ _ i1 i2=>exact ap i1 i2
 | whE _ _ _ i1=>exact i1
theorem end_atoms (w:Wo):∀ v∈[V.str (Str.ofString "end"),wv w],AtomV v:=fun v hv=>by
 simp only [List.mem_cons,List.not_mem_nil,or_false] at hv
 rcases hv with rfl | rfl
 ·trivial
 ·exact wv_atom w
theorem fin16 {b:List Stm} {n:Nat} {S':Pu} {c:Cmds} {w:Wo} {mo:Int} (h:Gb (baseP w mo) b n S' c) (hn:n≤300):∃(Sf:Pu) (w':Wo) (cl:Cmds),goOn 300 ((baseP w mo).w [(0,b,0)] .non)=(Sf,cl++[[.str "end",wv w']])∧Sf.sl=.ended w' ∧ ((S'.sl=.non∧cl=c∧w'=none)∨(S'.sl≠.non∧cl++[[.str "end",wv w']]=c)):=by
 obtain ⟨g1,g2⟩:=h.go rfl 0 0 (300 - n) b [] rfl (Nat.zero_le _)
 rw [show n+(300 - n)=300 by omega] at g1 g2
 by_cases hs:S'.sl=.non
 ·have e:=g1 hs
  have gn:=goOn_none (S:=S'.on [(0,b,b.length)]) (by show stand (comeTo [(0,b,b.length)])=none;rw [show comeTo [(0,b,b.length)]=[(0,b,b.length)] by simp [comeTo]];show b[b.length]?=none;simp) (300 - n)
  rw [gn] at e
  exact ⟨((S'.on [(0,b,b.length)]).come.ends none).1,none,c,e,rfl,.inl ⟨hs,rfl,rfl⟩⟩
 ·obtain ⟨st,e⟩:=g2 hs
  obtain ⟨w',cl,e1,e2⟩:=h.last rfl hs
  exact ⟨S'.on st,w',cl,by rw [← e2];exact e,e1,.inr ⟨hs,e2.symm⟩⟩
theorem E16 {k:Nat} {L:List (FC×Fr)} (g:G16 k (frs16 L)) (hk:k≤20):(∀ j f,(frs16 L)[j]?=some f→Gf 20 j f)∧(frs16 L).Pairwise Below∧ctF (frs16 L)≤252:=by
 refine ⟨fun j f e=>?_,g.pw,?_⟩
 ·have h:=g.gf j f e
  exact {h with wh:=fun s es=>(by obtain ⟨a,b,n,L,c,d,r⟩:=h.wh s es;exact ⟨a,b,n,L,by omega,by omega,r⟩)}
 ·have c:=g.ct
  split at c<;>omega
theorem sevs {a b c d e f g:V}:mergeK [] [((.inr (Str.ofString "names"):Key),a),(.inr (Str.ofString "arg"),b),(.inr (Str.ofString "now"),c),(.inr (Str.ofString "made"),d),(.inr (Str.ofString "open"),e),(.inr (Str.ofString "done"),f),(.inr (Str.ofString "over"),g)]=[(.inr (Str.ofString "names"),a),(.inr (Str.ofString "arg"),b),(.inr (Str.ofString "now"),c),(.inr (Str.ofString "made"),d),(.inr (Str.ofString "open"),e),(.inr (Str.ofString "done"),f),(.inr (Str.ofString "over"),g)]:=by
 simp [mergeK,putK,w_sinj]
theorem CsAt.last {H:Hp} {c:List V}:∀ {us:List V} {cs:Cmds},CsAt H us (cs++[c])→∃ ul pe,us=ul++[.ref pe]∧H pe=some (.tup c)
 | _,[],h=>by
  cases h with
  | cons e t=>cases t;exact ⟨[],_,rfl,e⟩
 | _,_::cs,h=>by
  cases h with
  | cons e t =>
   obtain ⟨ul,pe,rfl,e2⟩:=CsAt.last (cs:=cs) t
   exact ⟨_::ul,pe,rfl,e2⟩
theorem over16 {S:Pu} {w:Wo} (h:S.sl=.ended w) (x:Hap):S.take x=(S,[]):=by
 unfold Pu.take
 rw [if_pos (by unfold Pu.over;rw [h])]
theorem Fw.kpNew {R:Rn} {as as':List Addr} {G0 G H':Hp} (F:Fw R as as' G H') (k:Kp [] G0 G) (h:∀ a,a∈R.cells∨a∈as→G0 a=none):Kp [] G0 H':=fun b o e _=>F.kp b o (k.at e) (fun z=>by rw [h b (.inl z)] at e;cases e) (fun z=>by rw [h b (.inr z)] at e;cases e)
local macro_rules | `(tactic| wp_walk) => `(tactic| wp_walk using true_and)
local macro_rules | `(tactic| wp_walk using $ts,*) => do
  let us ← ts.getElems.mapM fun t => `(Lean.Parser.Tactic.simpLemma| $t:term)
  let vs ← ("↓q_take ↓q_kept ↓q_num ↓q_one ↓wk_key ↓q_dtake ↓q_dname ↓q_i0 ↓c_v0 ↓c_v1 ↓c_v2 ↓c_v3 ↓c_v4 ↓c_v5 ↓c_v6 ↓c_v7 ↓c_test ↓c_call ↓c_meth ↓e_seq ↓e_asg ↓e_name ↓e_ret ↓e_retN ↓e_ifS ↓e_test ↓e_tB ↓e_if ↓e_op ↓e_un ↓e_c ↓e_cons ↓e_nil ↓e_call ↓e_cb ↓e_lst ↓e_tup ↓e_dnew ↓e_drop ↓e_next ↓e_break ↓e_cont ↓e_andV ↓e_orV ↓e_notV ↓e_and ↓e_or ↓e_not ↓e_chain ↓e_sl ↓e_part ↓e_nopart ↓e_gsub ↓e_gnil ↓e_gcons ↓e_get1 ↓e_get ↓e_put ↓e_app ↓e_pop ↓e_onO ↓e_onB ↓e_onRef ↓e_onInt ↓e_onLst ↓e_onSeqL ↓e_onSeqT ↓e_onDct ↓e_ixR ↓e_ixS ↓e_addI ↓e_addS ↓e_addR ↓e_catL ↓e_slS ↓e_slR ↓e_cutL ↓e_lenS ↓e_lenR ↓e_set ↓e_in ↓e_dict ↓e_keyI ↓e_keyS ↓e_keyN ↓e_at0 ↓e_at1 ↓e_at2 ↓e_at3 ↓e_at4 ↓e_at5 ↓e_at6 ↓e_at7 ↓e_at8 ↓e_at9 ↓e_at10 ↓e_at11 ↓e_at12 ↓e_cmul1 ↓e_cmul2 ↓e_cmul3 ↓e_cmul10 ↓e_cpow6 ↓e_cpow9 ↓e_cpow12 ↓e_cpow18 ↓e_cpow30 ↓e_cpow40 ↓e_cpow45 ↓e_ixN0 ↓e_ixN1 ↓e_intI ↓e_intB ↓e_is ↓e_isnot ↓e_max ↓e_min ↓e_abs ↓e_isi_int_int ↓e_isi_int_bl ↓e_isi_int_str ↓e_isi_int_non ↓e_isi_int_ref ↓e_isi_bool_int ↓e_isi_bool_bl ↓e_isi_bool_str ↓e_isi_bool_non ↓e_isi_bool_ref ↓e_isi_str_int ↓e_isi_str_bl ↓e_isi_str_str ↓e_isi_str_non ↓e_isi_str_ref ↓e_isi_tuple_int ↓e_isi_tuple_bl ↓e_isi_tuple_str ↓e_isi_tuple_non ↓e_isi_tuple_ref ↓e_kl_int ↓e_kt_int ↓e_kl_bool ↓e_kt_bool ↓e_kl_str ↓e_kt_str ↓e_kl_tuple ↓e_kt_tuple ↓e_kd_int ↓e_kd_bool ↓e_kd_str ↓e_chk ↓e_chn ↓e_ite1 ↓e_ite0 ↓e_on1 ↓e_forR1 ↓e_on2 ↓e_forR2 ↓e_forL ↓e_forT ↓e_forV ↓e_compR ↓e_compL ↓e_onStr ↓e_compS ↓e_true ↓e_cs0 ↓e_idx ↓e_eqB ↓e_eqNN ↓e_eqNI ↓e_eqIN ↓e_slLr ↓e_gtup ↓e_c0 ↓e_c1 ↓e_c2 ↓e_neE ↓e_neD ↓e_onTup ↓e_tcat ↓e_eqTE ↓e_cutT ↓e_compD ↓e_rget1 ↓e_rget ↓e_rin ↓e_rpop2 ↓e_dictP ↓e_bm ↓e_tyS ↓e_strI ↓e_strS ↓e_join ↓e_strsV ↓e_split ↓e_neTE ↓e_tupOf ↓e_fmt ↓e_j0 ↓e_j1 ↓e_joined ↓e_estr ↓e_lm ↓e_ext ↓e_pop0 ↓e_truth ↓e_truN ↓e_truB ↓e_truI ↓e_truRef ↓e_truL ↓e_truT ↓e_truD ↓e_never ↓e_compT ↓e_neA ↓e_eqA ↓e_rep ↓e_lstOf ↓e_lenK ↓e_boolsV ↓e_intT ↓e_starts ↓e_ends ↓e_leS ↓e_all ↓e_inK ↓e_onIns ↓e_fld ↓e_setF ↓e_augF ↓e_meth ↓e_make ↓e_lookup ↓e_lookup0 ↓e_putF ↓e_putF0 ↓e_tupF ↓e_tys2 ↓e_isiF ↓e_thaw ↓e_dinC ↓e_dpopC ↓e_dget2C ↓e_dclear ↓e_dsetC ↓e_deed ↓e_getL ↓e_ipA ↓e_augS ↓e_aug ↓e_sortD ↓e_forZ ↓e_forE ↓e_comp2Z ↓e_comp2E ↓e_dictM ↓e_isiL ↓e_lenT ↓e_kll ↓e_klt ↓e_lclear ↓e_neB ↓e_sum ↓e_catS ↓e_rnotin ↓e_rput ↓e_newT ↓e_pairs0 ↓e_pairs ↓e_forR3 ↓e_sortT ↓e_neT0 ↓e_neDS ↓e_disp ↓e_lenDT ↓e_isiA ↓e_kAr ↓e_kAi ↓e_kAs ↓e_kAn ↓e_orN ↓e_andN ↓e_or0 ↓e_oi0 ↓e_on0 ↓e_rem ↓e_trep ↓e_setSt ↓e_lenSt ↓e_sortSt ↓e_eqW ↓e_slSt ↓e_comp2L ↓e_gLst ↓e_forQ ↓w_v1 ↓w_v2 ↓w_v3 ↓w_v4 ↓w_v5 ↓w_v6 ↓w_v7 ↓w_v8 ↓w_v9 ↓w_v10 ↓w_v11 ↓w_v12 ↓w_v13 ↓w_v14 ↓w_v15 ↓w_v16 ↓w_v17 ↓w_v18 ↓w_v19 ↓w_v20 ↓w_v21 ↓w_v22 ↓w_v23 ↓w_v24 ↓w_v25 ↓w_v26 ↓w_v27 ↓w_v28 ↓w_v29 ↓w_v30 ↓w_v0s ↓w_rI0 ↓w_rU ↓w_eqI ↓w_eqS ↓w_neI ↓w_neS ↓w_rI ↓upd_same ↓List.set_cons_zero ↓List.set_cons_succ ↓List.getElem?_cons_zero ↓List.getElem?_cons_succ L2.start m_cons m_nil List.cons_append List.nil_append List.append_nil List.replicate_succ List.replicate_zero List.length_cons List.length_nil Nat.reduceAdd Nat.reduceSub Nat.zero_add Nat.add_zero Nat.reduceLeDiff Nat.reducePow Nat.reduceLT true_and and_true false_and and_false forall_const ↓reduceIte w_sinj String.reduceEq Int.reduceToNat Int.reducePow Int.reduceNeg Int.reduceSub Int.reduceAdd Int.reduceMul Int.reduceLT Int.reduceLE Int.reduceEq sizeLine w_K w_Kn decide_true decide_false Bool.not_true Bool.not_false Bool.false_eq_true".splitOn " ").toArray.mapM fun(n:String)=>do
    let p:=n.splitOn "↓"
    let x:=Lean.mkIdent (p.getLastD "").toName
    if p.length = 1 then `(Lean.Parser.Tactic.simpLemma| $x:term) else `(Lean.Parser.Tactic.simpLemma| ↓ $x:term)
  let ws:=us++vs
  `(tactic| try simp (config := { dsimp := false }) only [$ws,*])
noncomputable def spLaw (K:PySem.W.Frag):Sp:=fun vs H Q _=>∃(a:Addr) (ns:List Int),vs=[.ref a]∧SqL K H a (ns.map V.int)∧ns.length≤63∧∀ H',Q (.bl true) H'
section
variable {P:Program} {w:World} {K:PySem.W.Frag} {mg:Str→Option Value} {base:Heap} {t:Ad} (T:Tx P w base K mg t)
theorem no_dowait:Ok T T.fdowait 1 (fun _ _ _ _=>False):=T.fdowait.ok (fun vs H Q E h=>False.elim h) (fun cdv A outer s H vs Q E hr _ h=>False.elim h)
theorem no_lawalike:Ok T T.flawalike 1 (fun _ _ _ _=>False):=T.flawalike.ok (fun vs H Q E h=>False.elim h) (fun cdv A outer s H vs Q E hr _ h=>False.elim h)
theorem ok_lawpick:Ok T T.flawpick 1 spDTake:=by
 nomatch T.flawpick
 ·obtain ⟨r,m,n,rfl,_⟩:=h
  rfl
 ·obtain ⟨r,m,n,rfl,m0,m1,⟨c,f,s,hr0,s0,s1⟩,hn,q⟩:=h
  nomatch (pss_cons (ps_asg (pe_op op_addC (pix ix_c pv0 pe_int) pe_int) (pg_sub pv0 pe_int set_c)) (pss_cons (pif (ptc op_eq (pix ix_c pv0 pe_int) pe_int) (pss3 (pst 2 (pe_op op_mod (pix ix_c pv0 pe_int) pv1)) (ps_asg (pe_op op_fdivB (pix ix_c pv0 pe_int) pv1) (pg_sub pv0 pe_int set_c)) (ps_ret pv2))) (pss3 (pst 3 (pe_op op_mod (pe_op op_addC (pix ix_c pv0 pe_int) (pe_op op_mul pe_int (pix ix_c pv0 pe_int))) pe_int)) (pst 3 (pe_op op_mod (pe_op op_mul pv3 pv3) pe_int)) (ps_ret (pe_op op_mod (pe_op op_fdivB (pe_op op_mod (pe_op op_mul pv3 (pe_op op_addC (pe_op op_addC pv3 pe_int) (pe_op op_mul pe_int (pix ix_c pv0 pe_int)))) pe_int) pe_int) pv1))))),0
  exists hr0,ix32
  split
  ·exact ⟨m0,⟨m0,log2_lt m0 m1⟩,q _ _ (Int.emod_nonneg _ (by omega)) (Int.emod_lt_of_pos _ m0) ⟨_,_,_,upd_same,by omega,by omega⟩ ((Kp.set (by simp)).trans (Kp.set (by simp)))⟩
  ·exact ⟨mulOk (by decide) (by decide),modOk (by decide) (by decide) _,modOk (by decide) (by decide) _,⟨by decide,by decide⟩,m0,q _ _ (Int.emod_nonneg _ (by omega)) (Int.emod_lt_of_pos _ m0) ⟨_,_,_,upd_same,by omega,by omega⟩ (Kp.set (by simp))⟩
theorem ok_lawworth:Ok T T.flawworth 2 spDWorth:=by
 nomatch T.flawworth
 ·obtain ⟨r,n,rfl,_⟩:=h
  rfl
 ·obtain ⟨r,n,rfl,hR,hn,q⟩:=h
  nomatch (pss_cons (pst 1 (pcl (ok_lawpick T) T.flawpick (pa2 pv0 pe_int))) (pss3 (pif (ptc op_eq pv1 pe_int) (pss_one (ps_ret pe_non))) (pif (ptc op_eq pv1 pe_int) (pss_one (ps_ret (pix ix_c (pe_lst (pa_n (pe_op op_pow pe_int pe_int) (pa3 (pe_un un_neg (pe_op op_pow pe_int pe_int)) (pe_op op_mul pe_int (pe_op op_pow pe_int pe_int)) (pe_un un_neg pe_int)))) (pcl (ok_lawpick T) T.flawpick (pa2 pv0 pe_int)))))) (ps_ret (pcl (ok_lawpick T) T.flawpick (pa2 pv0 pe_int))))),0
  wp_walk
  refine ⟨_,hR,by omega,fun g H1 a1 b1 R1 K1=>?_⟩
  split
  ·exact q none _ isWo_non (R1.up (by omega)) K1
  split
  ·refine ⟨⟨by decide,by decide,by decide⟩,mulOk (by decide) (by decide),fun p hp=>⟨_,R1.new hp,by omega,fun g2 H2 a2 b2 R2 K2=>?_⟩⟩
   exists made1 K2 R1 hp
   refine r_draw a2 b2 fun v hv=>?_
   simp only [List.mem_cons,List.not_mem_nil,or_false] at hv
   have K:=K1.trans ((Kp.new hp).trans K2)
   rcases hv with rfl | rfl | rfl | rfl<;>exact q (some _) _ (isWo_int (by decide) (by decide)) R2 K
  ·refine ⟨_,R1,by omega,fun g2 H2 a2 b2 R2 K2=>?_⟩
   exact q (some _) _ (isWo_int (by omega) (by omega)) R2 (K1.trans K2)
theorem ok_lawbounded:Ok T T.flawbounded 1 spKept:=by
 nomatch T.flawbounded
 ·obtain ⟨n,rfl,_⟩:=h
  rfl
 ·obtain ⟨n,rfl,q⟩:=h
  nomatch (pss_one (ps_ret (pe_callB (call_maxC rfl) rfl T.zmax bt_max (pa2 (pe_un un_neg (pe_op op_pow pe_int pe_int)) (pe_callB (call_minC rfl) rfl T.zmin bt_min (pa2 (pe_op op_pow pe_int pe_int) pv0)))))),0
  wp_walk
  exact q
theorem st_lawsays {n d:Nat} (hn:3≤n) (IH:FnOk P w K mg base CX0 n t.alawsays t.dlawsays ["saying","run"] (spLSays d)):Ok T T.flawsays (n+1) (spLSays (d+1)):=by
  nomatch T.flawsays
  · obtain ⟨v,md,nd,od,dd,S,s,rfl,_⟩:=h
    rfl
  · obtain ⟨v,md,nd,od,dd,S,s,rfl,hS,hd,hok,M,hP,q⟩:=h
    have hu:=hu_of hr
    nomatch (pss_cons (pst 2 (pix ix_c pv0 pe_int)) (pss_cons (pif (ptc op_eq pv2 pe_str) (pss_one (ps_ret (pix ix_c pv0 pe_int)))) (pss_cons (pif (ptc op_eq pv2 pe_str) (pss_one (ps_ret pe_non))) (pss_cons (pif (ptc op_eq pv2 pe_str) (pss_one (ps_ret (pe_getC hu (pdg pv1 pe_str) (pix ix_c pv0 pe_int) ⟨rfl,rfl,rfl,rfl⟩)))) (pss_cons (pif (ptc op_eq pv2 pe_str) (pss_one (ps_ret (pdg pv1 pe_str)))) (pss_cons (pif (ptc op_eq pv2 pe_str) (pss_one (ps_ret (pcl (ok_lawbounded T) T.flawbounded (pa1 (pdg pv1 pe_str)))))) (pss_cons (pst 3 (pcl IH T.flawsays (pa2 (pix ix_c pv0 pe_int) pv1))) (pss_cons (pif (ptc op_eq pv2 pe_str) (pss_one (ps_ret (pe_getC hu (pe_callTy ((call_dictP rfl)) rfl T.zdict bt_dict (pa1 (pdg pv1 pe_str))) pv3 ⟨rfl,rfl,rfl,rfl⟩)))) (pss_cons (pif (ptc op_eq pv2 pe_str) (pss_one (ps_ret (pe_callTy call_intC rfl T.zint bt_int (pa1 (pe_or (pcr op_isC pv3 pe_non) (pe_one (pcr op_eq pv3 pe_int)))))))) (pss_cons (pst 4 (pcl IH T.flawsays (pa2 (pix ix_c pv0 pe_int) pv1))) (pss_cons (pif (ptc op_eq pv2 pe_str) (pss_one (ps_ret (pe_callTy call_intC rfl T.zint bt_int (pa1 (pcr op_eq pv3 pv4)))))) (pss_cons (pst 5 (pe_or0 pv3 (pe_one pe_int))) (pss3 (pst 6 (pe_or0 pv4 (pe_one pe_int))) (pif (ptc op_eq pv2 pe_str) (pss_one (ps_ret (pe_callTy call_intC rfl T.zint bt_int (pa1 (pcr op_lt pv5 pv6)))))) (ps_ret (pcl (ok_lawbounded T) T.flawbounded (pa1 (pdg (pe_disp (pps_cons pe_str (pe_op op_addC pv5 pv6) (pps_cons pe_str (pe_op op_sub pv5 pv6) (pps_cons pe_str (pe_op op_mul pv5 pv6) pps_nil))) rfl rfl (List.cons_ne_nil _ _) (by decide)) pv2))))))))))))))))),0
    obtain ⟨kvs,em,_,v1,v2,v3,v4,v5,v6⟩:=M.hm
    cases hS with
    | num e =>
      exists e
      exact q _ Kp.refl
    | non e =>
      exists e
      exact q _ Kp.refl
    | @name a x e =>
      exists e,em,v1,M.hn,nmK_val
      exact q _ Kp.refl
    | arg e =>
      exists e,em,v2
      exact q _ Kp.refl
    | now e =>
      exists e,em,v3
      exact q _ Kp.refl
    | @ans a v s e h1 =>
      exists e
      simp only [Say.depth] at hd
      refine ⟨_,md,nd,od,dd,S,_,rfl,h1,by omega,hok,M,hP,fun H1 K1=>?_⟩
      exists K1.at em,v6,K1.at M.hd
      refine ⟨[],⟨rfl,by simp⟩,fun p hp=>?_⟩
      exists show mergeK ([]:List (Key×V)) []=[] from rfl,valV_nil,Option.getD_none
      rw [w_ans,M.an,lookA_nil] at q
      exact q _ (K1.trans (Kp.new hp))
    | @neg a v s e h1 =>
      exists e
      simp only [Say.depth] at hd
      refine ⟨_,md,nd,od,dd,S,_,rfl,h1,by omega,hok,M,hP,fun H1 K1=>?_⟩
      rw [w_neg] at q
      cases hw:S.worth s with
      | none =>
        rw [hw] at q
        exists wv
        exact q _ K1
      | some z =>
        rw [hw] at q
        exists wv,reduceCtorEq
        by_cases hz:z=0
        · subst hz
          exact q _ K1
        · have:=q _ K1
          simp only [num,Option.getD_some,hz,if_false,wv] at this
          simpa [hz] using this
    | @two a v u g s1 s2 e h1 h2 =>
      simp only [Say.depth] at hd
      rw [w_two] at q
      have w1:isWo (S.worth s1):=ev_wo hP hok.1
      have w2:isWo (S.worth s2):=ev_wo hP hok.2
      have b1:=isWo_num w1
      have b2:=isWo_num w2
      cases g <;>
      ( exists e,Sg.s
        refine ⟨_,md,nd,od,dd,S,_,rfl,h1,by omega,hok.1,M,hP,fun H1 K1=>?_⟩
        exists K1.at e,Sg.s
        refine ⟨_,md,nd,od,dd,S,_,rfl,h2.kp (TupKp.nil K1),by omega,hok.2,M.kp K1,hP,fun H2 K2=>?_⟩
        have q0:=q
        replace q:=q H2 (K1.trans K2)
        wp_walk)
      case eq =>
        refine eq_wv ?_
        wp_walk
        rw [show (Sg.eq.of (S.worth s1) (S.worth s2))=if S.worth s1=S.worth s2 then 1 else 0 from rfl] at q
        simpa [wv] using q
      case lt =>
        exists decide_eq_true_eq
        exact q
      all_goals (
        refine fun p hp=>⟨mulOk (by omega) (by omega),[(.inr "+",.int (num (S.worth s1)+num (S.worth s2))),(.inr "-",.int (num (S.worth s1) - num (S.worth s2))),(.inr "*",.int (num (S.worth s1) * num (S.worth s2)))],rfl,by simp,?_⟩
        exists merge_ops,v_add,v_sub,v_mul
        exact q0 _ ((K1.trans K2).trans (kp_new2 hp)))
theorem ok_lawsays {t:Ad} (T:Tx P w base K mg t):∀ d,FnOk P w K mg base CX0 (d+3) t.alawsays t.dlawsays ["saying","run"] (spLSays d):=by
 intro d
 induction d with
 | zero=>exact ⟨fun _ _ _ _ x=>by (obtain ⟨_,_,_,_,_,_,s,_,_,h,_⟩:=x;exact absurd h (by have:=s.depth_pos;omega)),fun _ _ _ _ _ _ _ _ _ _ _ _ _ x=>by (obtain ⟨_,_,_,_,_,_,s,_,_,h,_⟩:=x;exact absurd h (by have:=s.depth_pos;omega))⟩
 | succ d ih=>exact st_lawsays T (by omega) ih
theorem ok_lawticket:Ok T T.flawticket 1 spLTick:=by
 nomatch T.flawticket
 ·obtain ⟨md,nd,od,dd,S,x,rfl,_⟩:=h
  rfl
 ·obtain ⟨md,nd,od,dd,S,x,rfl,M,b1,b2,b3,q⟩:=h
  nomatch (pss_cons (ppt pv0 pe_str (pe_op op_addC (pdg pv0 pe_str) pe_int)) (pss3 (ps_expr (pe_appC (pdg pv0 pe_str) (pe_op op_sub (pdg pv0 pe_str) pe_int))) (ppt (pdg pv0 pe_str) pv1 (pe_op op_sub (pdg pv0 pe_str) pe_int)) (ps_ret (pe_op op_sub (pdg pv0 pe_str) pe_int)))),0
  obtain ⟨kvs,em,lk,v1,v2,v3,v4,v5,v6⟩:=M.hm
  left
  exists em,v4
  have M1:=M.made em
  have K1:Kp [md,nd,od] H (upd H md (.dK (putK kvs (.inr "made") (.int ((S.made:Int)+1))))):=Kp.set (by simp)
  refine ⟨by omega,?_⟩
  generalize upd H md (.dK (putK kvs (.inr "made") (.int ((S.made:Int)+1))))=G1 at *
  right
  left
  obtain ⟨kv1,em1,lk1,x1,x2,x3,x4,x5,x6⟩:=M1.hm
  have e4:((({S with made:=S.made+1}:Pu).made:Nat):Int) - 1=(S.made:Int):=by show ((S.made+1:Nat):Int) - 1=_;omega
  exists em1,x5,M1.ho,x4,e4
  refine ⟨by rw [List.length_map];show S.pend.length < _;omega,?_⟩
  have ea:S.pend.map V.int++[V.int (S.made:Int)]=(S.pend++[(S.made:Int)]).map V.int:=by simp
  rw [show ({S with made:=S.made+1}:Pu).pend=S.pend from rfl,ea]
  have M2:=M1.open (pd:=S.pend++[(S.made:Int)]) (List.pairwise_append.mpr ⟨M.asc,by simp,fun i hi j hj=>by rw [show j=(S.made:Int) by simpa using hj];exact (M.lt i hi).2⟩) (fun i hi=>by
   rcases List.mem_append.mp hi with hi | hi
   ·have:=M.lt i hi
    exact ⟨this.1,by show i < ((S.made+1:Nat):Int);omega⟩
   ·rw [show i=(S.made:Int) by simpa using hi]
    exact ⟨by omega,by show (S.made:Int) < ((S.made+1:Nat):Int);omega⟩)
  have K2:Kp [md,nd,od] H _:=K1.trans (Kp.set (p:=od) (o:=.lst ((S.pend++[(S.made:Int)]).map V.int)) (by simp))
  generalize upd G1 od (.lst ((S.pend++[(S.made:Int)]).map V.int))=G2 at *
  right
  left
  obtain ⟨kv2,em2,lk2,y1,y2,y3,y4,y5,y6⟩:=M2.hm
  have ep:putK (nmK S.nm) (.inr x) (.int (S.made:Int))=nmK (putN S.nm x (some (S.made:Int))):=nmK_put S.nm x (some (S.made:Int))
  have l1:(nmK S.nm).length≤100000:=by rw [nmK,List.length_map];exact b3
  have hn2:G2 nd=some (.dK (nmK S.nm)):=M2.hn
  exists em2,y1,y4,e4,hn2,ep
  refine ⟨by omega,?_⟩
  have M3:=M2.name x (some (S.made:Int))
  have K3:Kp [md,nd,od] H _:=K2.trans (Kp.set (p:=nd) (o:=.dK (nmK (putN S.nm x (some (S.made:Int))))) (by simp))
  replace M3:MdAt (upd G2 nd (.dK (nmK (putN S.nm x (some (S.made:Int)))))) md nd od dd (S.newT x):=M3
  generalize upd G2 nd (.dK (nmK (putN S.nm x (some (S.made:Int)))))=G3 at *
  right
  obtain ⟨kv3,em3,lk3,z1,z2,z3,z4,z5,z6⟩:=M3.hm
  exists em3,z4
  rw [show (((S.newT x).made:Nat):Int) - 1=(S.made:Int) from by show ((S.made+1:Nat):Int) - 1=_;omega]
  exact q G3 M3 K3
theorem ok_lawdoplain:Ok T T.flawdoplain 10 spLDo:=by
 nomatch T.flawdoplain
 ·obtain ⟨md,nd,od,dd,op,v,S,m,us,cs,rfl,_⟩:=h
  rfl
 ·obtain ⟨md,nd,od,dd,op,v,S,m,us,cs,rfl,M,hs,hpl,g,hP,b1,b2,b3,eo,hC,b4,no1,no2,q⟩:=h
  nomatch (pss3 (pst 3 (pix ix_c pv1 pe_int)) (pst 4 (pcl (ok_lawsays T 6) T.flawsays (pa2 (pix ix_c pv1 (pe_un un_neg pe_int)) pv0))) (ps_if (ptc op_eq pv3 pe_str) (pss_one (ppt (pdg pv0 pe_str) (pix ix_c pv1 pe_int) pv4)) (pss_one (ps_if (ptc op_eq pv3 pe_str) (pss2 (pst 5 (pe_callB (call_minC rfl) rfl T.zmin bt_min (pa2 (pe_op op_pow pe_int pe_int) (pe_op op_addC (pdg pv0 pe_str) (pe_callB (call_maxC rfl) rfl T.zmax bt_max (pa2 pe_int (pe_or0 pv4 (pe_one pe_int)))))))) (ps_expr (pe_appC pv2 (pe_tup (pa3 pe_str (pcl (ok_lawticket T) T.flawticket (pa2 pv0 (pix ix_c pv1 pe_int))) pv5))))) (pss_one (ps_if (ptc op_eq pv3 pe_str) (pss_one (ps_expr (pe_appC pv2 (pe_tup (pa_n pe_str (pa3 (pcl (ok_lawsays T 6) T.flawsays (pa2 (pix ix_c pv1 pe_int) pv0)) (pix ix_c pv1 pe_int) pv4)))))) (pss_one (ps_if (ptc op_eq pv3 pe_str) (pss_one (pif (pt_cmpR op_inC pv4 (pdg pv0 pe_str) (by with_unfolding_all rfl)) (pss2 (ps_expr (pe_lm PySem.F.slot_list_remove PySem.F.type_list_remove mt_rem (pdg pv0 pe_str) (pa1 pv4))) (ps_expr (pe_appC pv2 (pe_tup (pa2 pe_str pv4))))))) (pss_one (ps_expr (pe_appC pv2 (pe_tup (pa_n pv3 (pa3 (pcl (ok_lawticket T) T.flawticket (pa2 pv0 (pix ix_c pv1 pe_int))) (pix ix_c pv1 pe_int) pv4)))))))))))))),0
  cases hs with
  | @set a x v s e1 h1 =>
   have i1:atI [V.str "set",.str x,v] (-1)=some v:=rfl
   left
   exists e1
   right
   left
   exists e1,i1
   refine ⟨v,md,nd,od,dd,S,s,rfl,h1,g.2,g.1,M,hP,fun H1 K1=>?_⟩
   have M1:=M.kp K1
   have e2:=K1.at e1
   have eo1:=K1.at eo
   have hC1:=hC.kt (TupKp.nil K1)
   have T1:=TupKp.nil K1
   obtain ⟨kvs,em,lk,v1,v2,v3,v4,v5,v6⟩:=M1.hm
   right
   have l1:(nmK S.nm).length≤100000:=by rw [nmK,List.length_map];exact b3
   exists em,v1,M1.hn,e2,nmK_put
   refine ⟨by omega,?_⟩
   have M2:=M1.name x (S.worth s)
   have t2:TupKp H1 (upd H1 nd (.dK (nmK (putN S.nm x (S.worth s))))):=TupKp.setO M1.hn
   exact q _ us M2 (keepU M1.hn eo1) (by show CsAt _ us (cs++[]);rw [List.append_nil];exact hC1.kt t2) ((K1.mono (by simp)).trans (Kp.set (by simp)))
  | @order a x y v s e1 h1 =>
   have i1:atI [V.str "order",.str x,.str y,v] (-1)=some v:=rfl
   left
   exists e1
   right
   left
   exists e1,i1
   refine ⟨v,md,nd,od,dd,S,s,rfl,h1,g.2,g.1,M,hP,fun H1 K1=>?_⟩
   have M1:=M.kp K1
   have e2:=K1.at e1
   have eo1:=K1.at eo
   have hC1:=hC.kt (TupKp.nil K1)
   have T1:=TupKp.nil K1
   obtain ⟨kvs,em,lk,v1,v2,v3,v4,v5,v6⟩:=M1.hm
   right
   exists e2,eo1
   refine ⟨md,nd,od,dd,S,x,rfl,M1,b1,b2,b3,fun H2 M2 K2=>?_⟩
   have T2:TupKp H1 H2:=M1.tk K2 (fun a ha=>by simp only [List.mem_cons,List.not_mem_nil,or_false] at ha;rcases ha with rfl | rfl | rfl;exact .inl rfl;exact .inr (.inl rfl);exact .inr (.inr (.inl rfl)))
   have e3':=T2 _ _ e2
   have eo2:=K2 _ _ eo1 (M1.nop eo1 no1)
   have hC2:=hC1.kt T2
   have KK:Kp [md,nd,od,op] H H2:=(K1.mono (by simp)).trans (K2.mono (by simp))
   exists e3',eo2
   refine fun p hp=>?_
   generalize hg:upd H2 p (.tup [.str "order",.int S.made,.str y,wv (S.worth s)])=G3
   have N3:Kp [] H2 G3:=hg ▸ Kp.new hp
   have e3:G3 p=some (.tup [.str "order",.int S.made,.str y,wv (S.worth s)]):=hg ▸ upd_same
   clear hg
   have eo3:=N3.at eo2
   have M3:=M2.kp N3
   have hC3:=hC2.kt (TupKp.nil N3)
   have K3:=KK.trans (N3.mono (T:=[md,nd,od,op]) (by simp))
   exists eo3
   refine ⟨by omega,?_⟩
   have t4:TupKp G3 (upd G3 op (.lst (us++[.ref p]))):=TupKp.setO eo3
   exact q _ _ (M3.other eo3 no1 no2) upd_same ((hC3.app (.cons e3 .nil)).kt t4) (K3.trans (Kp.set (by simp)))
  | @child a x y v s e1 h1 =>
   have i1:atI [V.str "child",.str x,.str y,v] (-1)=some v:=rfl
   left
   exists e1
   right
   left
   exists e1,i1
   refine ⟨v,md,nd,od,dd,S,s,rfl,h1,g.2,g.1,M,hP,fun H1 K1=>?_⟩
   have M1:=M.kp K1
   have e2:=K1.at e1
   have eo1:=K1.at eo
   have hC1:=hC.kt (TupKp.nil K1)
   have T1:=TupKp.nil K1
   obtain ⟨kvs,em,lk,v1,v2,v3,v4,v5,v6⟩:=M1.hm
   right
   exists e2,eo1
   refine ⟨md,nd,od,dd,S,x,rfl,M1,b1,b2,b3,fun H2 M2 K2=>?_⟩
   have T2:TupKp H1 H2:=M1.tk K2 (fun a ha=>by simp only [List.mem_cons,List.not_mem_nil,or_false] at ha;rcases ha with rfl | rfl | rfl;exact .inl rfl;exact .inr (.inl rfl);exact .inr (.inr (.inl rfl)))
   have e3':=T2 _ _ e2
   have eo2:=K2 _ _ eo1 (M1.nop eo1 no1)
   have hC2:=hC1.kt T2
   have KK:Kp [md,nd,od,op] H H2:=(K1.mono (by simp)).trans (K2.mono (by simp))
   exists e3',eo2
   refine fun p hp=>?_
   generalize hg:upd H2 p (.tup [.str "child",.int S.made,.str y,wv (S.worth s)])=G3
   have N3:Kp [] H2 G3:=hg ▸ Kp.new hp
   have e3:G3 p=some (.tup [.str "child",.int S.made,.str y,wv (S.worth s)]):=hg ▸ upd_same
   clear hg
   have eo3:=N3.at eo2
   have M3:=M2.kp N3
   have hC3:=hC2.kt (TupKp.nil N3)
   have K3:=KK.trans (N3.mono (T:=[md,nd,od,op]) (by simp))
   exists eo3
   refine ⟨by omega,?_⟩
   have t4:TupKp G3 (upd G3 op (.lst (us++[.ref p]))):=TupKp.setO eo3
   exact q _ _ (M3.other eo3 no1 no2) upd_same ((hC3.app (.cons e3 .nil)).kt t4) (K3.trans (Kp.set (by simp)))
  | @timer a x v s e1 h1 =>
   have i1:atI [V.str "timer",.str x,v] (-1)=some v:=rfl
   left
   exists e1
   right
   left
   exists e1,i1
   refine ⟨v,md,nd,od,dd,S,s,rfl,h1,g.2,g.1,M,hP,fun H1 K1=>?_⟩
   have M1:=M.kp K1
   have e2:=K1.at e1
   have eo1:=K1.at eo
   have hC1:=hC.kt (TupKp.nil K1)
   have T1:=TupKp.nil K1
   obtain ⟨kvs,em,lk,v1,v2,v3,v4,v5,v6⟩:=M1.hm
   right
   exists e2,eo1,em,v3,due_eq
   refine ⟨md,nd,od,dd,S,x,rfl,M1,b1,b2,b3,fun H2 M2 K2=>?_⟩
   have T2:TupKp H1 H2:=M1.tk K2 (fun a ha=>by simp only [List.mem_cons,List.not_mem_nil,or_false] at ha;rcases ha with rfl | rfl | rfl;exact .inl rfl;exact .inr (.inl rfl);exact .inr (.inr (.inl rfl)))
   have e3':=T2 _ _ e2
   have eo2:=K2 _ _ eo1 (M1.nop eo1 no1)
   have hC2:=hC1.kt T2
   have KK:Kp [md,nd,od,op] H H2:=(K1.mono (by simp)).trans (K2.mono (by simp))
   exists e3',eo2
   refine fun p hp=>?_
   generalize hg:upd H2 p (.tup [.str "timer",.int S.made,.int (dueOf S.nw (S.worth s))])=G3
   have N3:Kp [] H2 G3:=hg ▸ Kp.new hp
   have e3:G3 p=some (.tup [.str "timer",.int S.made,.int (dueOf S.nw (S.worth s))]):=hg ▸ upd_same
   clear hg
   have eo3:=N3.at eo2
   have M3:=M2.kp N3
   have hC3:=hC2.kt (TupKp.nil N3)
   have K3:=KK.trans (N3.mono (T:=[md,nd,od,op]) (by simp))
   exists eo3
   refine ⟨by omega,?_⟩
   have t4:TupKp G3 (upd G3 op (.lst (us++[.ref p]))):=TupKp.setO eo3
   exact q _ _ (M3.other eo3 no1 no2) upd_same ((hC3.app (.cons e3 .nil)).kt t4) (K3.trans (Kp.set (by simp)))
  | @send a k v u s r e1 h1 h2 =>
   have i1:atI [V.str "send",v,.str k,u] (-1)=some u:=rfl
   left
   exists e1
   right
   left
   exists e1,i1
   refine ⟨u,md,nd,od,dd,S,r,rfl,h2,g.2.2,g.2.1,M,hP,fun H1 K1=>?_⟩
   have M1:=M.kp K1
   have e2:=K1.at e1
   have eo1:=K1.at eo
   have hC1:=hC.kt (TupKp.nil K1)
   have T1:=TupKp.nil K1
   obtain ⟨kvs,em,lk,v1,v2,v3,v4,v5,v6⟩:=M1.hm
   right
   exists e2,eo1
   refine ⟨v,md,nd,od,dd,S,s,rfl,h1.kp T1,g.1.2,g.1.1,M1,hP,fun H2 K2=>?_⟩
   have M2:=M1.kp K2
   have e3':=K2.at e2
   have eo2:=K2.at eo1
   have hC2:=hC1.kt (TupKp.nil K2)
   have KK:Kp [md,nd,od,op] H H2:=(K1.trans K2).mono (by simp)
   exists e3',eo2
   refine fun p hp=>?_
   generalize hg:upd H2 p (.tup [.str "send",wv (S.worth s),.str k,wv (S.worth r)])=G3
   have N3:Kp [] H2 G3:=hg ▸ Kp.new hp
   have e3:G3 p=some (.tup [.str "send",wv (S.worth s),.str k,wv (S.worth r)]):=hg ▸ upd_same
   clear hg
   have eo3:=N3.at eo2
   have M3:=M2.kp N3
   have hC3:=hC2.kt (TupKp.nil N3)
   have K3:=KK.trans (N3.mono (T:=[md,nd,od,op]) (by simp))
   exists eo3
   refine ⟨by omega,?_⟩
   have t4:TupKp G3 (upd G3 op (.lst (us++[.ref p]))):=TupKp.setO eo3
   exact q _ _ (M3.other eo3 no1 no2) upd_same ((hC3.app (.cons e3 .nil)).kt t4) (K3.trans (Kp.set (by simp)))
  | @drop a v s e1 h1 =>
   have i1:atI [V.str "drop",v] (-1)=some v:=rfl
   left
   exists e1
   right
   left
   exists e1,i1
   refine ⟨v,md,nd,od,dd,S,s,rfl,h1,g.2,g.1,M,hP,fun H1 K1=>?_⟩
   have M1:=M.kp K1
   have e2:=K1.at e1
   have eo1:=K1.at eo
   have hC1:=hC.kt (TupKp.nil K1)
   have T1:=TupKp.nil K1
   obtain ⟨kvs,em,lk,v1,v2,v3,v4,v5,v6⟩:=M1.hm
   right
   exists em,v5,M1.ho,in_wo
   refine ⟨wv_flat _,flat_ints _,?_⟩
   have KK:Kp [md,nd,od,op] H H1:=K1.mono (by simp)
   by_cases hp:∃ i,i∈S.pend∧S.worth s=some i
   ·rw [if_pos hp]
    obtain ⟨i,hi,hw⟩:=hp
    have hwv:wv (S.worth s)=.int i:=by rw [hw];rfl
    have hd:deed S (.drop s)=({S with pend:=S.pend.filter fun j=>decide (j≠i)},[[.str "drop",.int i]]):=by simp only [deed,hw,if_pos hi]
    rw [hd] at q
    obtain ⟨k,hk⟩:=pos_mem hi
    have ef:=erase_filter M.asc hk
    rw [hwv]
    wp_walk
    refine ⟨S.pend,M1.ho,?_⟩
    exists hk
    rw [ef]
    have M2:=M1.open (pd:=S.pend.filter fun j=>decide (j≠i)) (M.asc.filter _) (fun j hj=>M.lt j ((List.mem_filter.mp hj).1))
    have T2:TupKp H1 (upd H1 od (.lst ((S.pend.filter fun j=>decide (j≠i)).map V.int))):=TupKp.setO M1.ho
    have eo2:upd H1 od (.lst ((S.pend.filter fun j=>decide (j≠i)).map V.int)) op=some (.lst us):=by rw [upd_ne no1];exact eo1
    have hC2:=hC1.kt T2
    have K2:Kp [md,nd,od,op] H (upd H1 od (.lst ((S.pend.filter fun j=>decide (j≠i)).map V.int))):=KK.trans (Kp.set (by simp))
    generalize upd H1 od (.lst ((S.pend.filter fun j=>decide (j≠i)).map V.int))=G2 at *
    exists eo2,hwv
    refine fun p hp=>?_
    generalize hg:upd G2 p (.tup [.str "drop",.int i])=G3
    have N3:Kp [] G2 G3:=hg ▸ Kp.new hp
    have e3:G3 p=some (.tup [.str "drop",.int i]):=hg ▸ upd_same
    clear hg
    have eo3:=N3.at eo2
    have M3:=M2.kp N3
    have hC3:=hC2.kt (TupKp.nil N3)
    have K3:=K2.trans (N3.mono (T:=[md,nd,od,op]) (by simp))
    exists eo3
    refine ⟨by omega,?_⟩
    have t4:TupKp G3 (upd G3 op (.lst (us++[.ref p]))):=TupKp.setO eo3
    exact q _ _ (M3.other eo3 no1 no2) upd_same ((hC3.app (.cons e3 .nil)).kt t4) (K3.trans (Kp.set (by simp)))
   ·rw [if_neg hp]
    have hd:deed S (.drop s)=(S,[]):=by
     cases hw:S.worth s with
     | none=>simp only [deed,hw]
     | some i=>simp only [deed,hw,if_neg (show ¬ i∈S.pend from fun z=>hp ⟨i,z,hw⟩)]
    rw [hd] at q
    wp_walk
    exact q _ us M1 eo1 (by show CsAt _ us (cs++[]);rw [List.append_nil];exact hC1) KK
  | _=>cases hpl
theorem st_lawgone {n d:Nat} (hn:12≤n) (IH:FnOk P w K mg base CX0 n t.alawgone t.dlawgone ["block","model","orders"] (spGone d)):Ok T T.flawgone (n+1) (spGone (d+1)):=by
 nomatch T.flawgone
 ·obtain ⟨bp,md,nd,od,dd,op,bl,us,b,S,S',full,n,Z,rfl,_⟩:=h
  rfl
 ·obtain ⟨bp,md,nd,od,dd,op,bl,us,b,S,S',full,n,Z,rfl,eb,hs,hg,hd,A,hZ,m1,m2,n3,n4,q⟩:=h
  nomatch (pss_one (ps_for PassesOwn.never rfl (pi_sq pv0) (pgn 3) (pss2 (ps_if (ptc op_eq (pix ix_c pv3 pe_int) pe_str) (pss2 (ppt pv1 pe_str pe_bl) (ps_expr (pe_appC pv2 (pe_tup (pa2 pe_str (pcl (ok_lawsays T 6) T.flawsays (pa2 (pix ix_c pv3 pe_int) pv1))))))) (pss_one (ps_if (ptc op_eq (pix ix_c pv3 pe_int) pe_str) (pss_one (ps_expr (pcl IH T.flawgone (pa3 (pix ix_c pv3 (pe_op op_addC pe_int (pe_callTy call_intC rfl T.zint bt_int (pa1 (pcr op_eq (pe_or0 (pcl (ok_lawsays T 6) T.flawsays (pa2 (pix ix_c pv3 pe_int) pv1)) (pe_one pe_int)) pe_int))))) pv1 pv2)))) (pss_one (ps_if (ptc op_eq (pix ix_c pv3 pe_int) pe_str) (pss_one (ps_while PassesOwn.never (PW.pt (pw_and (pt_not (pt_val (pdg pv1 pe_str))) (pw_and1 (ptc op_ne (pe_or0 (pcl (ok_lawsays T 6) T.flawsays (pa2 (pix ix_c pv3 pe_int) pv1)) (pe_one pe_int)) pe_int)))) (pss_one (ps_expr (pcl IH T.flawgone (pa3 (pix ix_c pv3 pe_int) pv1 pv2)))))) (pss_one (ps_expr (pcl (ok_lawdoplain T) T.flawdoplain (pa3 pv1 pv3 pv2))))))))) (pif (pt_val (pdg pv1 pe_str)) (pss_one ps_retN))))),0
  wp_walk
  have nb:bp∉[md,nd,od,op]:=by
   obtain ⟨kvs,em,_⟩:=A.M.hm
   have em':=A.M.hn
   simp only [List.mem_cons,List.not_mem_nil,or_false,not_or]
   cases bl with
   | true=>exact ⟨ne_of eb em (by intro z;cases z),ne_of eb em' (by intro z;cases z),n4,n3⟩
   | false=>exact ⟨ne_of eb em (by intro z;cases z),ne_of eb em' (by intro z;cases z),n4,n3⟩
  obtain ⟨Pv,hPv⟩:∃ Pv:Nat→St→Hp→Prop,∀ i σ G,Pv i σ G = ∃(u:Option V) (T:Pu) (k:Nat),σ=[some (.ref bp),some (.ref md),some (.ref op),u]∧Am H G md nd od dd op S' full Z T (b.drop i) k:=⟨_,fun _ _ _=>rfl⟩
  refine for_sq (xs:=us) bl Pv ?_ ?_ ?_ ?_
  ·rw [hPv]
   exact ⟨none,S,n,rfl,A⟩
  ·intro i σ G _ h
   rw [hPv] at h
   obtain ⟨_,_,_,_,A1⟩:=h
   have e:=A1.kp bp _ eb nb
   cases bl with
   | true=>exact SqL.of e
   | false=>exact SqT.of e
  ·intro i y σ G hi h
   rw [hPv] at h
   obtain ⟨u,T1,k,rfl,A1⟩:=h
   have tk:TupKp H G:=A.tk A1.kp
   obtain ⟨m,r,ed,hm0⟩:=hs.dr hi
   have hm:=hm0.kp tk
   have gm:m.gd false∧m.dp < d+1:=by
    obtain ⟨l,e1,_⟩:=drop_at ed
    exact ⟨gdL_at hg e1,Nat.lt_of_le_of_lt (dpL_at e1) hd⟩
   have er:b.drop (i+1)=r:=(drop_at ed).2.2
   rw [ed] at A1
   refine cut_seq fun RT hRT=>?_
   have t1:∀(T:Pu) (k:Nat) (G':Hp),Am H G' md nd od dd op S' full Z T r k→RT [some (.ref bp),some (.ref md),some (.ref op),some y] G':=fun T k G' A2=>by
    refine hRT _ _ ?_
    obtain ⟨kvs,em,⟨_,vo⟩,_⟩:=A2.M.hm
    rw [A2.sn] at vo
    replace vo:valV kvs (.inr "over")=some (.bl false):=vo
    exists em,vo
    rw [hPv]
    exact ⟨_,T,k,rfl,by rw [er];exact A2⟩
   have t2:∀(G':Hp),Ov H G' md nd od op S' full→RT [some (.ref bp),some (.ref md),some (.ref op),some y] G':=fun G' O=>by
    refine hRT _ _ ?_
    obtain ⟨kvs,em,vo⟩:=O.ov
    exists em,vo
    exact q _ (fun z=>absurd z O.sl) fun _=>O
   clear hRT hPv
   by_cases hw:∃ s bb,m=.whl s bb
   ·obtain ⟨s,bb,rfl⟩:=hw
    have hm1:=hm
    cases hm with
    | @whl a p v _ vs _ ea hs1 e1 hb1 =>
     have dp:=gm.2
     simp only [Stm.dp] at dp
     exists ea
     obtain ⟨Y,hY⟩:∃ Y:Nat→St→Hp→Prop,∀ m σ G',Y m σ G'=(σ=[some (.ref bp),some (.ref md),some (.ref op),some (.ref a)]∧((∃ T k,m=k+1∧Am H G' md nd od dd op S' full Z T (.whl s bb::r) k)∨(m=0∧Ov H G' md nd od op S' full))):=⟨_,fun _ _ _=>rfl⟩
     refine ⟨Y,⟨_,(hY _ _ _).mpr ⟨rfl,.inl ⟨T1,k,rfl,A1⟩⟩⟩,?_⟩
     intro m' σ G' hG
     rw [hY] at hG
     obtain ⟨rfl,⟨T2,k2,rfl,A2⟩ | ⟨rfl,O⟩⟩:=hG
     ·obtain ⟨e,cs,uo,g1,g2,g3,g4,g5⟩:=A2.gb
      obtain ⟨N,bn,lN⟩:=A2.bn
      obtain ⟨kvs,em,⟨_,vo⟩,_⟩:=A2.M.hm
      rw [A2.sn] at vo
      replace vo:valV kvs (.inr "over")=some (.bl false):=vo
      have t3:=A.tk A2.kp
      have hmH:=hm0.kp t3
      cases hmH with
      | @whl _ p v _ vs _ ea hs1 e1 hb1 =>
       exists ea,em,vo
       refine ⟨_,md,nd,od,dd,T2,s,rfl,hs1,gm.1.1.2,gm.1.1.1,A2.M,bn.pl,fun G3 K3=>?_⟩
       have KG3:=A2.kp.trans (K3.mono (by simp))
       cases g1 with
       | pl hp _=>cases hp
       | wh0 hz gr =>
        exists hz
        exact t1 _ _ _ ⟨⟨_,cs,uo,gr,K3.at g2,g3.kt (TupKp.nil K3),g4,by omega⟩,A2.M.kp K3,A2.sn,⟨N,bn,by omega⟩,KG3⟩
       | @whG _ S1 _ _ _ _ n1 k' c1 c2 hz g1 hn1 gr =>
        exists hz
        refine ⟨fun σ' G''=>∃ m',m' < n1+1+k'+1∧Y m' σ' G'',fun _ _ z=>z,?_⟩
        exists K3.at ea
        refine gone_call (Z2:=Z - (k'+1)) g1 (K3.at e1) (hb1.kp (TupKp.nil K3)) gm.1.2 (by omega) (A2.M.kp K3) A2.sn bn (by omega) (by omega) (by omega) (K3.at g2) (g3.kt (TupKp.nil K3)) m1 m2 fun H' h1 h2=>?_
        exact ⟨k'+1,by omega,(hY _ _ _).mpr ⟨rfl,.inl ⟨S1,k',rfl,(h1 hn1).onto KG3 gr (by rw [List.append_assoc];exact g4) (by omega)⟩⟩⟩
       | @whE _ _ _ _ _ n1 c1 hz g1 hn1 =>
        exists hz
        refine ⟨fun σ' G''=>∃ m',m' < n1+1+1∧Y m' σ' G'',fun _ _ z=>z,?_⟩
        exists K3.at ea
        refine gone_call (Z2:=Z - 1) g1 (K3.at e1) (hb1.kp (TupKp.nil K3)) gm.1.2 (by omega) (A2.M.kp K3) A2.sn bn (by omega) (by omega) (by omega) (K3.at g2) (g3.kt (TupKp.nil K3)) m1 m2 fun H' h1 h2=>?_
        have O:=(h2 hn1).onto KG3
        rw [g4] at O
        exact ⟨0,by omega,(hY _ _ _).mpr ⟨rfl,.inr ⟨rfl,O⟩⟩⟩
     ·obtain ⟨kvs,em,vo⟩:=O.ov
      exists em,vo
      exact t2 _ O
   obtain ⟨e,cs,uo,g1,g2,g3,g4,g5⟩:=A1.gb
   obtain ⟨N,bn,lN⟩:=A1.bn
   obtain ⟨kvs,em,lo,v1,v2,v3,v4,v5,v6⟩:=A1.M.hm
   have M:=A1.M
   have sn:=A1.sn
   have KG:=A1.kp
   have lcs:=g3.len
   have b1:=bn.md
   have b2:=bn.pd
   have b3:=bn.nm
   cases g1 with
   | @pl _ _ _ _ k' c' hp g1 =>
    obtain ⟨a,w1,rs,rfl,ea,q1,q2,q3⟩:=hm.wd hp
    exists ea,q1,q2,q3
    refine ⟨md,nd,od,dd,op,_,T1,m,uo,cs,rfl,M,hm,hp,gm.1,bn.pl,by omega,by omega,by omega,g2,g3,by omega,m1,m2,fun G' uo' M' o' c2 K'=>?_⟩
    wp_walk
    have l1:=deed_len T1 m
    exact t1 _ k' _ ⟨⟨c',cs++(deed T1 m).2,uo',g1,o',c2,by rw [List.append_assoc];exact g4,by rw [List.length_append];omega⟩,M',(pl_sl hp).trans sn,⟨N+1,bn.deed hp gm.1 (by omega),by omega⟩,KG.trans K'⟩
   | @fin _ s _ =>
    cases hm with
    | fin ea hs1 =>
     exists ea,em
     have M2:=M.over em (T1.worth s)
     have K2:Kp [md,nd,od,op] G (upd G md (.dK (putK kvs (.inr "over") (.bl true)))):=Kp.set (by simp)
     have T2:TupKp G (upd G md (.dK (putK kvs (.inr "over") (.bl true)))):=TupKp.setO em
     replace g2:=keepU em g2 (u:=.dK (putK kvs (.inr "over") (.bl true)))
     replace g3:=g3.kt T2
     replace hs1:=hs1.kp T2
     replace ea:=T2 _ _ ea
     generalize upd G md (.dK (putK kvs (.inr "over") (.bl true)))=G2 at *
     exists ea,g2
     refine ⟨by have:=lo.1;omega,_,md,nd,od,dd,_,s,rfl,hs1,gm.1.2,gm.1.1,M2,bn.pl,fun G3 K3=>?_⟩
     have ew:Pu.worth {T1 with sl:=.ended (T1.worth s)} s=T1.worth s:=rfl
     exists ew
     refine fun pe hpe=>?_
     have N1:=K3.trans (Kp.new (o:=.tup [.str "end",wv (T1.worth s)]) hpe)
     have g7:=N1.at g2
     exists g7
     refine ⟨by omega,t2 _ ⟨⟨_,upd_same,?_⟩,?_,(by intro z;cases z),(KG.trans K2).trans ((N1.mono (by simp)).trans (Kp.set (by simp)))⟩⟩
     ·rw [← g4]
      exact ((g3.kt (TupKp.nil N1)).app (.cons upd_same .nil)).kt (TupKp.setO g7)
     ·obtain ⟨kv,x1,x2⟩:=(M2.kp N1).ov rfl
      exact ⟨kv,keepU g7 x1,x2⟩
   | @ifG _ S1 _ s ba bo bb _ n1 k' c1 c2 hb g1 hn1 gr =>
    cases hm with
    | @iff a p p' v _ vs us' _ _ ea hs1 e1 hb1 e2 hb2 =>
     exists ea
     refine ⟨_,md,nd,od,dd,T1,s,rfl,hs1,gm.1.1.2,gm.1.1.1,M,bn.pl,fun G3 K3=>?_⟩
     have dp:=gm.2
     simp only [Stm.dp] at dp
     suffices call:∀ bq uq,G3 bq=some (.tup uq)→StmsAt G3 uq bb→gdL false bb→dpL bb < d→spGone d [.ref bq,.ref md,.ref op] G3 (fun x H1=>RT [some (.ref bp),some (.ref md),some (.ref op),some (.ref a)] H1) E0 by
      by_cases hz:num (T1.worth s)=0
      ·exists hz,K3.at ea
       rw [if_pos hz] at hb
       subst hb
       exact call p' us' (K3.at e2) (hb2.kp (TupKp.nil K3)) gm.1.2.2 (by omega)
      ·exists hz,K3.at ea
       rw [if_neg hz] at hb
       subst hb
       exact call p vs (K3.at e1) (hb1.kp (TupKp.nil K3)) gm.1.2.1 (by omega)
     refine fun bq uq z1 z2 z3 z4=>gone_call (Z2:=Z - (k'+1)) g1 z1 z2 z3 z4 (M.kp K3) sn bn (by omega) (by omega) (by omega) (K3.at g2) (g3.kt (TupKp.nil K3)) m1 m2 fun H' h1 h2=>?_
     exact t1 _ k' _ ((h1 hn1).onto (KG.trans (K3.mono (by simp))) gr (by rw [List.append_assoc];exact g4) (by omega))
   | @ifE _ _ s ba bo bb _ n1 c1 hb g1 hn1 =>
    cases hm with
    | @iff a p p' v _ vs us' _ _ ea hs1 e1 hb1 e2 hb2 =>
     exists ea
     refine ⟨_,md,nd,od,dd,T1,s,rfl,hs1,gm.1.1.2,gm.1.1.1,M,bn.pl,fun G3 K3=>?_⟩
     have dp:=gm.2
     simp only [Stm.dp] at dp
     suffices call:∀ bq uq,G3 bq=some (.tup uq)→StmsAt G3 uq bb→gdL false bb→dpL bb < d→spGone d [.ref bq,.ref md,.ref op] G3 (fun x H1=>RT [some (.ref bp),some (.ref md),some (.ref op),some (.ref a)] H1) E0 by
      by_cases hz:num (T1.worth s)=0
      ·exists hz,K3.at ea
       rw [if_pos hz] at hb
       subst hb
       exact call p' us' (K3.at e2) (hb2.kp (TupKp.nil K3)) gm.1.2.2 (by omega)
      ·exists hz,K3.at ea
       rw [if_neg hz] at hb
       subst hb
       exact call p vs (K3.at e1) (hb1.kp (TupKp.nil K3)) gm.1.2.1 (by omega)
     refine fun bq uq z1 z2 z3 z4=>gone_call (Z2:=Z - 1) g1 z1 z2 z3 z4 (M.kp K3) sn bn (by omega) (by omega) (by omega) (K3.at g2) (g3.kt (TupKp.nil K3)) m1 m2 fun H' h1 h2=>?_
     have O:=(h2 hn1).onto (KG.trans (K3.mono (by simp)))
     rw [g4] at O
     exact t2 _ O
   | wh0 _ _=>exact absurd ⟨_,_,rfl⟩ hw
   | whG _ _ _ _=>exact absurd ⟨_,_,rfl⟩ hw
   | whE _ _ _=>exact absurd ⟨_,_,rfl⟩ hw
  intro σ G h
  rw [hPv] at h
  obtain ⟨u,T,k,rfl,A1⟩:=h
  have lu:=hs.len
  rw [← lu,List.drop_length] at A1
  have e:S'=T∧k=0:=by
   obtain ⟨e,cs,uo,g1,_⟩:=A1.gb
   cases g1
   exact ⟨rfl,rfl⟩
  obtain ⟨rfl,rfl⟩:=e
  exact q _ (fun _=>A1) fun z=>absurd A1.sn z
theorem ok_lawgone {t:Ad} (T:Tx P w base K mg t):∀ d,FnOk P w K mg base CX0 (d+12) t.alawgone t.dlawgone ["block","model","orders"] (spGone d):=by
 intro d
 induction d with
 | zero=>exact ⟨fun _ _ _ _ x=>by (obtain ⟨_,_,_,_,_,_,_,_,_,_,_,_,_,_,_,_,_,_,h,_⟩:=x;exact absurd h (by omega)),fun _ _ _ _ _ _ _ _ _ _ _ _ _ x=>by (obtain ⟨_,_,_,_,_,_,_,_,_,_,_,_,_,_,_,_,_,_,h,_⟩:=x;exact absurd h (by omega))⟩
 | succ d ih=>exact st_lawgone T (by omega) ih
theorem ok_Walkinit:Ok T T.fWalkinit 1 (spWkInit t.CWalk):=by
 nomatch T.fWalkinit
 ·obtain ⟨x,dx,p,us,b,rfl,_⟩:=h
  rfl
 ·obtain ⟨x,dx,p,us,b,rfl,e,ep,hU,q⟩:=h
  nomatch (pss2 (ps_fldC T.clWalk T.nablocks pv0 (pe_lst (pa1 pv1))) (ps_fldC T.clWalk T.nanumbers pv0 (pe_lst (pa1 pe_int)))),0
  exists e
  refine fun lb f1=>?_
  have n1:x≠lb:=ne_of_none e f1
  exists upd_ne n1,e
  refine fun ln f2=>?_
  have n2:x≠ln:=ne_of_none upd_same f2
  have n3:lb≠ln:=ne_of_none (by rw [upd_ne n1.symm];exact upd_same) f2
  exists upd_ne n2
  rw [upd_ne n2.symm,upd_ne n3.symm] at f2
  have npx:p≠x:=ne_of ep e (by intro z;cases z)
  have npl:=ne_of_none ep f1
  have npn:=ne_of_none ep f2
  have KK:Kp [x] H (upd (upd (upd (upd H lb (.lst [.ref p])) x (.ins t.CWalk dx [("blocks",.ref lb)])) ln (.lst [.int 0])) x (.ins t.CWalk dx [("blocks",.ref lb),("numbers",.ref ln)])):=fun b o eb nb=>by
   have nb':b≠x:=by simpa using nb
   rw [upd_ne nb',upd_ne (ne_of_none eb f2),upd_ne nb',upd_ne (ne_of_none eb f1)]
   exact eb
  have TT:TupKp H _:=fun a xs ea=>KK a _ ea (by simp only [List.mem_cons,List.not_mem_nil,or_false];exact ne_of ea e (by intro z;cases z))
  refine q lb ln _ f1 f2 ⟨upd_same,⟨[.ref p],?_,.one (TT _ _ ep) (hU.kp TT)⟩,?_,n3,by simp⟩ KK
  ·rw [upd_ne n1.symm,upd_ne n3,upd_ne n1.symm]
   exact upd_same
  ·rw [upd_ne n2.symm]
   exact upd_same
theorem ok_Ticketsinit:Ok T T.fTicketsinit 1 (spTkInit t.CTickets):=by
 nomatch T.fTicketsinit
 ·obtain ⟨x,dx,rfl,_⟩:=h
  rfl
 ·obtain ⟨x,dx,rfl,e,q⟩:=h
  nomatch (pss3 (ps_fldC T.clTickets T.namade pv0 pe_int) (ps_fldC T.clTickets T.napending pv0 pe_dnewK) (ps_fldC T.clTickets T.naanswers pv0 pe_dnewK)),0
  exists e
  refine fun dp f1=>?_
  have n1:x≠dp:=ne_of_none upd_same f1
  exists upd_ne n1
  refine fun da f2=>?_
  have n2:x≠da:=ne_of_none upd_same f2
  have n3:dp≠da:=ne_of_none (by rw [upd_ne n1.symm];exact upd_same) f2
  exists upd_ne n2
  rw [upd_ne n1.symm] at f1
  rw [upd_ne n2.symm,upd_ne n3.symm,upd_ne n2.symm] at f2
  refine q dp da _ f1 f2 ⟨upd_same,?_,?_,n3,by simp,.nil,by simp,by simp,by decide⟩ ?_
  ·rw [upd_ne n1.symm,upd_ne n3,upd_ne n1.symm]
   exact upd_same
  ·rw [upd_ne n2.symm]
   exact upd_same
  ·intro b o eb nb
   have nb':b≠x:=by simpa using nb
   rw [upd_ne nb',upd_ne (ne_of_none eb f2),upd_ne nb',upd_ne (ne_of_none eb f1),upd_ne nb']
   exact eb
theorem ok_Runinit:Ok T T.fRuninit 3 (spRInit ⟨t.CRun,t.CWalk,t.CTickets⟩):=by
 nomatch T.fRuninit
 ·obtain ⟨x,dx,pg,us,b,rfl,_⟩:=h
  rfl
 ·obtain ⟨x,dx,pg,us,b,rfl,e,ep,hs,q⟩:=h
  nomatch (pss_cons (ps_fldC T.clRun T.nawalk pv0 (pe_make T.mkWalk (ok_Walkinit T) (hr.mono (by omega)) rfl T.mWalk T.fWalkinit.bd .nil pass0 (pa1 pv1))) (pss_cons (ps_fldC T.clRun T.nasleep pv0 (pe_tup (pa1 pe_str))) (pss_cons (ps_fldC T.clRun T.naarg pv0 pe_non) (pss_cons (ps_fldC T.clRun T.nanow pv0 pe_int) (pss3 (ps_fldC T.clRun T.nanames pv0 pe_dnewK) (ps_fldC T.clRun T.natickets pv0 (pe_make0 T.mkTickets (ok_Ticketsinit T) (hr.mono (by omega)) rfl T.mTickets T.fTicketsinit.bd .nil pass0)) (ps_fldC T.clRun T.naletters pv0 pe_dnewK)))))),0
  left
  exists e
  refine mk_walk ep hs fun wk wx lb ln Gw Kw hwk hlb hln W0=>?_
  have ew:=Kw.at e
  exists ew
  have g1:upd Gw x (.ins t.CRun dx [("walk",.ref wk)]) x=some (.ins t.CRun dx [("walk",.ref wk)]):=upd_same
  have K1:Kp [x] Gw (upd Gw x (.ins t.CRun dx [("walk",.ref wk)])):=Kp.set (by simp)
  generalize upd Gw x (.ins t.CRun dx [("walk",.ref wk)])=G1 at *
  right
  left
  exists g1
  refine fun p h2=>?_
  obtain ⟨g2,f2,K2,n2⟩:=put2 (o:=.tup [.str "new"]) (o':=.ins t.CRun dx [("walk",.ref wk),("sleep",.ref p)]) g1 h2
  exists upd_ne n2,g1
  generalize upd (upd G1 p (.tup [.str "new"])) x (.ins t.CRun dx [("walk",.ref wk),("sleep",.ref p)])=G2 at *
  right
  left
  exists g2
  have g3:upd G2 x (.ins t.CRun dx [("walk",.ref wk),("sleep",.ref p),("arg",.non)]) x=some (.ins t.CRun dx [("walk",.ref wk),("sleep",.ref p),("arg",.non)]):=upd_same
  have K3:Kp [x] G2 (upd G2 x (.ins t.CRun dx [("walk",.ref wk),("sleep",.ref p),("arg",.non)])):=Kp.set (by simp)
  generalize upd G2 x (.ins t.CRun dx [("walk",.ref wk),("sleep",.ref p),("arg",.non)])=G3 at *
  right
  left
  exists g3
  have g4:upd G3 x (.ins t.CRun dx [("walk",.ref wk),("sleep",.ref p),("arg",.non),("now",.int 0)]) x=some (.ins t.CRun dx [("walk",.ref wk),("sleep",.ref p),("arg",.non),("now",.int 0)]):=upd_same
  have K4:Kp [x] G3 (upd G3 x (.ins t.CRun dx [("walk",.ref wk),("sleep",.ref p),("arg",.non),("now",.int 0)])):=Kp.set (by simp)
  generalize upd G3 x (.ins t.CRun dx [("walk",.ref wk),("sleep",.ref p),("arg",.non),("now",.int 0)])=G4 at *
  right
  left
  exists g4
  refine fun nm h5=>?_
  obtain ⟨g5,f5,K5,n5⟩:=put2 (o:=.dK []) (o':=.ins t.CRun dx [("walk",.ref wk),("sleep",.ref p),("arg",.non),("now",.int 0),("names",.ref nm)]) g4 h5
  exists upd_ne n5,g4
  generalize upd (upd G4 nm (.dK [])) x (.ins t.CRun dx [("walk",.ref wk),("sleep",.ref p),("arg",.non),("now",.int 0),("names",.ref nm)])=G5 at *
  right
  left
  exists g5
  refine mk_tk fun tk tx dp da Gt Kt htk hdp hda T0=>?_
  have et:=Kt.at g5
  exists et
  have g6:upd Gt x (.ins t.CRun dx [("walk",.ref wk),("sleep",.ref p),("arg",.non),("now",.int 0),("names",.ref nm),("tickets",.ref tk)]) x=some (.ins t.CRun dx [("walk",.ref wk),("sleep",.ref p),("arg",.non),("now",.int 0),("names",.ref nm),("tickets",.ref tk)]):=upd_same
  have K6:Kp [x] Gt (upd Gt x (.ins t.CRun dx [("walk",.ref wk),("sleep",.ref p),("arg",.non),("now",.int 0),("names",.ref nm),("tickets",.ref tk)])):=Kp.set (by simp)
  generalize upd Gt x (.ins t.CRun dx [("walk",.ref wk),("sleep",.ref p),("arg",.non),("now",.int 0),("names",.ref nm),("tickets",.ref tk)])=G6 at *
  right
  exists g6
  refine fun lt h7=>?_
  obtain ⟨g7,f7,K7,n7⟩:=put2 (o:=.dK []) (o':=.ins t.CRun dx [("walk",.ref wk),("sleep",.ref p),("arg",.non),("now",.int 0),("names",.ref nm),("tickets",.ref tk),("letters",.ref lt)]) g6 h7
  exists upd_ne n7,g6
  generalize upd (upd G6 lt (.dK [])) x (.ins t.CRun dx [("walk",.ref wk),("sleep",.ref p),("arg",.non),("now",.int 0),("names",.ref nm),("tickets",.ref tk),("letters",.ref lt)])=G7 at *
  have KA:Kp [x] H G4:=((((Kw.mono (by simp)).trans K1).trans K2).trans K3).trans K4
  have KB:Kp [x] H Gt:=(KA.trans K5).trans (Kt.mono (by simp))
  have KC:Kp [x] H G6:=KB.trans K6
  have xwk:x≠wk:=ne_of_none e hwk
  have xtk:x≠tk:=ne_of_none g5 htk
  have W7:Kp [x] Gw G7:=(((((K1.trans K2).trans K3).trans K4).trans K5).trans (Kt.mono (by simp))).trans (K6.trans K7)
  have P7:Kp [x] G2 G7:=(((K3.trans K4).trans K5).trans (Kt.mono (by simp))).trans (K6.trans K7)
  have N7:Kp [x] G5 G7:=(Kt.mono (by simp)).trans (K6.trans K7)
  have T7:Kp [x] Gt G7:=K6.trans K7
  have KD:Kp [x] H G7:=KC.trans K7
  have W5:Kp [x] Gw G5:=((((K1.trans K2).trans K3).trans K4).trans K5)
  have xlb:lb≠x:=(ne_of_none e hlb).symm
  have xln:ln≠x:=(ne_of_none e hln).symm
  have xdp:dp≠x:=(ne_of_none g5 hdp).symm
  have xda:da≠x:=(ne_of_none g5 hda).symm
  have nm6:=K6.at1 (Kt.at f5) n5.symm
  have dp6:=K6.at1 T0.hp xdp
  have da6:=K6.at1 T0.ha xda
  have wk5:=W5.at1 W0.ins xwk.symm
  have fr4:H nm=none:=frJ KA g4 h5
  have fr5:∀ {a:Addr},G5 a=none→H a=none:=fun h=>frJ (KA.trans K5) g5 h
  have frlt:H lt=none:=frJ KC g6 h7
  have kt7:TupKp Gw G7:=fun b xs hb=>W7.at1 hb (ne_of hb ew (by intro z;cases z))
  refine q ⟨x,dx,wk,wx,lb,ln,nm,tk,tx,dp,da,lt⟩ (.ref p) G7 rfl ⟨g7,⟨p,rfl,P7.at1 f2 n2.symm⟩,W0.keep (fun o h=>W7.at1 h xwk.symm) (fun o h=>W7.at1 h xlb) (fun o h=>W7.at1 h xln) kt7,T0.keep (fun o h=>T7.at1 h xtk.symm) (fun o h=>T7.at1 h xdp) (fun o h=>T7.at1 h xda),N7.at1 f5 n5.symm,⟨[],f7,.nil⟩,by simp,by simp,xwk,xtk,ne_of_none wk5 htk,ne_of_none f5 hdp,ne_of_none f5 hda,ne_of_none nm6 h7,(ne_of_none dp6 h7).symm,(ne_of_none da6 h7).symm⟩ KD fun a ha=>?_
  simp only [Rn.cells,List.mem_cons,List.not_mem_nil,or_false] at ha
  rcases ha with rfl | rfl | rfl | rfl | rfl | rfl | rfl | rfl
  ·exact .inl rfl
  ·exact .inr hlb
  ·exact .inr hln
  ·exact .inr fr4
  ·exact .inr (fr5 htk)
  ·exact .inr (fr5 hdp)
  ·exact .inr (fr5 hda)
  ·exact .inr frlt
theorem ok_lawname:Ok T T.flawname 2 spDName:=by
 nomatch T.flawname
 ·obtain ⟨r,n,rfl,_⟩:=h
  rfl
 ·obtain ⟨r,n,rfl,hR,hn,q⟩:=h
  nomatch (pss_one (ps_ret (pix ix_c (pe_lst (pa_n pe_str (pa3 pe_str pe_str pe_str))) (pcl (ok_lawpick T) T.flawpick (pa2 pv0 pe_int))))),0
  wp_walk
  refine fun p hp=>⟨_,hR.new hp,by omega,fun g H1 a1 b1 R1 K1=>?_⟩
  exists made1 K1 hR hp
  refine r_draw a1 b1 fun v hv=>?_
  have K:=(Kp.new (S:=[r]) hp).trans K1
  simp only [List.mem_cons,List.not_mem_nil,or_false] at hv
  rcases hv with rfl | rfl | rfl | rfl<;>exact q _ _ (by simp [NM16]) R1 K
theorem st_lawsaying {n d:Nat} (hn:3≤n) (IH:FnOk P w K mg base CX0 n t.alawsaying t.dlawsaying ["deck","deep"] (spDSay d)):Ok T T.flawsaying (n+1) (spDSay (d+1)):=by
 nomatch T.flawsaying
 ·obtain ⟨r,dp,n,rfl,_⟩:=h
  rfl
 ·obtain ⟨r,dp,n0,rfl,d1,d2,hR,hn0,q⟩:=h
  nomatch (pss_cons (pst 2 (pcl (ok_lawpick T) T.flawpick (pa2 pv0 pe_int))) (pss_cons (pif (ptc op_lt pv2 pe_int) (pss_one (ps_ret (pe_tup (pa2 pe_str (pcl (ok_lawname T) T.flawname (pa1 pv0))))))) (pss_cons (pif (PW.pt (pw_or (ptc op_lt pv2 pe_int) (pw_or1 (ptc op_lt pv1 pe_int)))) (pss_one (ps_ret (pix ix_c (pe_lst (pa_n (pe_tup (pa2 pe_str (pcl (ok_lawpick T) T.flawpick (pa2 pv0 pe_int)))) (pa_n (pe_tup (pa1 pe_str)) (pa3 (pe_tup (pa1 pe_str)) (pe_tup (pa1 pe_str)) (pe_tup (pa2 pe_str (pe_un un_neg pe_int))))))) (pcl (ok_lawpick T) T.flawpick (pa2 pv0 pe_int)))))) (pss_cons (pif (ptc op_eq pv2 pe_int) (pss_one (ps_ret (pe_tup (pa2 pe_str (pix ix_c (pe_lst (pa_n (pe_op op_pow pe_int pe_int) (pa3 (pe_un un_neg (pe_op op_pow pe_int pe_int)) pe_int pe_int))) (pcl (ok_lawpick T) T.flawpick (pa2 pv0 pe_int)))))))) (pss_cons (pif (ptc op_eq pv2 pe_int) (pss_one (ps_ret (pe_tup (pa2 pe_str (pcl IH T.flawsaying (pa2 pv0 (pe_op op_sub pv1 pe_int)))))))) (pss3 (pif (ptc op_eq pv2 pe_int) (pss_one (ps_ret (pe_tup (pa2 pe_str (pcl IH T.flawsaying (pa2 pv0 (pe_op op_sub pv1 pe_int)))))))) (pst 3 (pcl IH T.flawsaying (pa2 pv0 (pe_op op_sub pv1 pe_int)))) (ps_ret (pe_tup (pa3 (pix ix_c (pe_lst (pa_n pe_str (pa_n pe_str (pa3 pe_str pe_str pe_str)))) (pcl (ok_lawpick T) T.flawpick (pa2 pv0 pe_int))) pv3 (pcl IH T.flawsaying (pa2 pv0 (pe_op op_sub pv1 pe_int)))))))))))),0
  left
  wp_walk
  have bp:=bd_pos d
  have be:bd (d+1)=2 * bd d+3:=rfl
  refine ⟨_,hR,by omega,fun g H1 a1 b1 R1 K1=>?_⟩
  right
  left
  wp_walk
  split
  ·refine ⟨_,R1,by omega,fun x H2 _ R2 K2=>?_⟩
   wp_walk
   exact fun p hp=>q _ (.name x) _ (.name upd_same) trivial (by simpa [Say.depth] using d1) ((R2.new hp).up (by omega)) ((K1.trans K2).trans (Kp.new hp))
  right
  left
  wp_walk
  simp only [f_or]
  split
  ·refine ⟨_,R1,by omega,fun g2 H2 a2 b2 R2 K2=>?_⟩
   wp_walk
   refine fun p1 h1 p2 h2 p3 h3 p4 h4 p5 h5 p6 h6=>⟨_,(((((R2.new h1).new h2).new h3).new h4).new h5).new h6,by omega,fun g3 H3 a3 b3 R3 K3=>?_⟩
   have q1:=(R2.none h1)
   have q2:=((R2.new (o:=.tup [.str "number",.int g2]) h1).none h2)
   have q3:=(((R2.new (o:=.tup [.str "number",.int g2]) h1).new (o:=.tup [.str "none"]) h2).none h3)
   have q4:=((((R2.new (o:=.tup [.str "number",.int g2]) h1).new (o:=.tup [.str "none"]) h2).new (o:=.tup [.str "arg"]) h3).none h4)
   have q5:=(((((R2.new (o:=.tup [.str "number",.int g2]) h1).new (o:=.tup [.str "none"]) h2).new (o:=.tup [.str "arg"]) h3).new (o:=.tup [.str "now"]) h4).none h5)
   have q6:=((((((R2.new (o:=.tup [.str "number",.int g2]) h1).new (o:=.tup [.str "none"]) h2).new (o:=.tup [.str "arg"]) h3).new (o:=.tup [.str "now"]) h4).new (o:=.tup [.str "number",.int (-7)]) h5).none h6)
   have N6:=Kp.new (S:=[]) (o:=.lst [.ref p1,.ref p2,.ref p3,.ref p4,.ref p5]) h6
   have N5:=(Kp.new (S:=[]) (o:=.tup [.str "number",.int (-7)]) h5).trans N6
   have N4:=(Kp.new (S:=[]) (o:=.tup [.str "now"]) h4).trans N5
   have N3:=(Kp.new (S:=[]) (o:=.tup [.str "arg"]) h3).trans N4
   have N2:=(Kp.new (S:=[]) (o:=.tup [.str "none"]) h2).trans N3
   have N1:=(Kp.new (S:=[]) (o:=.tup [.str "number",.int g2]) h1).trans N2
   have t1:=K3.at1 (N2.at upd_same) q1
   have t2:=K3.at1 (N3.at upd_same) q2
   have t3:=K3.at1 (N4.at upd_same) q3
   have t4:=K3.at1 (N5.at upd_same) q4
   have t5:=K3.at1 (N6.at upd_same) q5
   have t6:=K3.at1 upd_same q6
   have K:=((K1.trans K2).trans (N1.mono (T:=[r]) (by simp))).trans K3
   exists t6
   refine r_draw a3 b3 fun v hv=>?_
   simp only [List.mem_cons,List.not_mem_nil,or_false] at hv
   rcases hv with rfl | rfl | rfl | rfl | rfl
   ·exact q _ (.num g2) _ (.num t1) ⟨by omega,by omega⟩ (by simpa [Say.depth] using d1) (R3.up (by omega)) K
   ·exact q _ .non _ (.non t2) trivial (by simpa [Say.depth] using d1) (R3.up (by omega)) K
   ·exact q _ .arg _ (.arg t3) trivial (by simpa [Say.depth] using d1) (R3.up (by omega)) K
   ·exact q _ .now _ (.now t4) trivial (by simpa [Say.depth] using d1) (R3.up (by omega)) K
   ·exact q _ (.num (-7)) _ (.num t5) ⟨by decide,by decide⟩ (by simpa [Say.depth] using d1) (R3.up (by omega)) K
  rename_i hc
  right
  left
  wp_walk
  split
  ·refine fun p hp=>⟨_,R1.new hp,by omega,fun g2 H2 a2 b2 R2 K2=>?_⟩
   exists made1 K2 R1 hp
   refine r_draw a2 b2 fun v hv=>?_
   wp_walk
   refine fun p2 h2=>?_
   have K:=((K1.trans (Kp.new hp)).trans K2).trans (Kp.new (o:=.tup [.str "number",v]) h2)
   simp only [List.mem_cons,List.not_mem_nil,or_false] at hv
   rcases hv with rfl | rfl | rfl | rfl<;>exact q _ (.num _) _ (.num upd_same) ⟨by decide,by decide⟩ (by simpa [Say.depth] using d1) ((R2.new h2).up (by omega)) K
  right
  left
  wp_walk
  split
  ·refine ⟨r,dp - 1,_,rfl,by omega,by omega,R1,by omega,fun v s H2 hv ok hdp R2 K2=>?_⟩
   wp_walk
   exact fun p hp=>q _ (.ans s) _ (.ans upd_same (hv.kp (TupKp.new hp))) ok (by simp only [Say.depth];omega) ((R2.new hp).up (by omega)) ((K1.trans K2).trans (Kp.new hp))
  right
  left
  wp_walk
  split
  ·refine ⟨r,dp - 1,_,rfl,by omega,by omega,R1,by omega,fun v s H2 hv ok hdp R2 K2=>?_⟩
   wp_walk
   exact fun p hp=>q _ (.neg s) _ (.neg upd_same (hv.kp (TupKp.new hp))) ok (by simp only [Say.depth];omega) ((R2.new hp).up (by omega)) ((K1.trans K2).trans (Kp.new hp))
  right
  left
  wp_walk
  refine ⟨r,dp - 1,_,rfl,by omega,by omega,R1,by omega,fun u s1 H2 hv1 ok1 hd1 R2 K2=>?_⟩
  right
  wp_walk
  refine fun p hp=>⟨_,R2.new hp,by omega,fun g3 H3 a3 b3 R3 K3=>?_⟩
  exists made1 K3 R2 hp
  refine r_draw a3 b3 fun v hv=>?_
  wp_walk
  refine ⟨r,dp - 1,_,rfl,by omega,by omega,R3,by omega,fun u2 s2 H4 hv2 ok2 hd2 R4 K4 p2 h2=>?_⟩
  have K:=(((K1.trans K2).trans (Kp.new hp)).trans K3).trans (K4.trans (Kp.new (o:=.tup [v,u,u2]) h2))
  have T1:TupKp H2 (upd H4 p2 (.tup [v,u,u2])):=(((TupKp.new hp).trans ((R2.new hp).tk K3)).trans (R3.tk K4)).trans (TupKp.new h2)
  have fin:∀ gg:Sg,v=.str gg.s→Q (.ref p2) (upd H4 p2 (.tup [v,u,u2])):=fun gg e=>by
   subst e
   exact q _ (.two gg s1 s2) _ (.two upd_same (hv1.kp T1) (hv2.kp (TupKp.new h2))) ⟨ok1,ok2⟩ (by simp only [Say.depth];omega) ((R4.new h2).up (by omega)) K
  simp only [List.mem_cons,List.not_mem_nil,or_false] at hv
  rcases hv with e | e | e | e | e
  ·exact fin .add e
  ·exact fin .sub e
  ·exact fin .mul e
  ·exact fin .lt e
  ·exact fin .eq e
theorem ok_lawsaying {t:Ad} (T:Tx P w base K mg t):∀ d,FnOk P w K mg base CX0 (d+3) t.alawsaying t.dlawsaying ["deck","deep"] (spDSay d):=by
 intro d
 induction d with
 | zero=>exact ⟨fun _ _ _ _ x=>by (obtain ⟨_,_,_,_,h,h',_⟩:=x;exact absurd h (by omega)),fun _ _ _ _ _ _ _ _ _ _ _ _ _ x=>by (obtain ⟨_,_,_,_,h,h',_⟩:=x;exact absurd h (by omega))⟩
 | succ d ih=>exact st_lawsaying T (by omega) ih
theorem ok_lawclosed:Ok T T.flawclosed 1 spClo:=by
 nomatch T.flawclosed
 ·obtain ⟨fl,I,x,y,i,s,rfl,_⟩:=h
  rfl
 ·obtain ⟨fl,I,x,y,i,s,rfl,F,hh,hl,q⟩:=h
  have hu:=hu_of hr
  nomatch (pss_cons (ps_asg (pe_popC pv0) (pg_lst rfl (pgs_cons (pgn 1) (pgs_cons (pgn 2) (pgs_cons (pgn 3) (pgs_cons (pgn 4) pgs_nil)))))) (pss3 (pst 5 (pe_tup (pa_n pv1 (pa3 pv2 (pe_callTy call_tupC rfl T.ztuple bt_tuple (pa1 pv3)) (pe_callTy call_tupC rfl T.ztuple bt_tuple (pa1 (pe_orN pv4 (pe_one (pe_lst pa_nil))))))))) (pif (ptc op_eq pv1 pe_str) (pss_one (pst 5 (pe_slice sl_tup pv5 po_none (po_some pe_int))))) (ps_expr (pe_appC (pix ix_c (pix ix_c pv0 (pe_un un_neg pe_int)) (pe_op op_addC pe_int (pe_callTy call_intC rfl T.zint bt_int (pa1 (pcr op_isnotC (pix ix_c (pix ix_c pv0 (pe_un un_neg pe_int)) pe_int) pe_non))))) pv5)))),0
  have la:=last_ix (I++[x]) y
  have ld:=last_drop (I++[x]) y
  have ef:=F.e
  obtain ⟨P1,FY⟩:=F.pop
  obtain ⟨hu,hv,us1,e1,e2,e3,e4,e5⟩:=FY
  rw [hh] at e2
  obtain ⟨rfl,hS⟩:=e2
  have K1:Kp (fl::x.1.cells) H (upd H fl (.lst ((I++[x]).map fun x=>.ref x.1.fa))):=Kp.set (by simp)
  left
  exists ef,la,ld
  refine ⟨_,SqL.of e1,rfl,?_⟩
  generalize upd H fl (.lst ((I++[x]).map fun x=>.ref x.1.fa))=G1 at *
  wp_walk
  right
  obtain ⟨hvu,hvx,usx,x1,x2,x3,x4,x5⟩:=P1.fr x (by simp)
  have ep:=P1.e
  have l1:=last_at I x
  clear la ld ef
  refine cut_seq fun RA hRA=>?_
  have nx:∀(l q2 pt:Addr) (us2:List V) (G':Hp),G' pt=some (.tup [.str (if i=true then "if" else "while"),hv,.ref l,.ref q2])→G' l=some (.tup us1)→G' q2=some (.tup us2)→StmsAt G' us2 (y.2.b2.getD [])→Kp [] G1 G'→RA [some (.ref fl),some (.str (if i=true then "if" else "while")),some hv,some (.ref y.1.f1),some (rv y.1.f2),some (.ref pt)] G':=fun l q2 pt us2 G' z1 z2 z3 z4 KQ=>by
   refine hRA _ _ ?_
   refine cut_seq fun RB hRB=>?_
   have T:=TupKp.nil KQ
   have nb:∀(pn:Addr) (m:Stm) (G2:Hp),m=closeSt y.2 i s→StmAt G2 (.ref pn) m→Kp [] G' G2→RB [some (.ref fl),some (.str (if i=true then "if" else "while")),some hv,some (.ref y.1.f1),some (rv y.1.f2),some (.ref pn)] G2:=fun pn m G2 em hm K2=>by
    subst em
    refine hRB _ _ ?_
    have KT:=KQ.trans K2
    obtain ⟨us,b,c1,c2,c3,c4,c5⟩:=(P1.kp KT).app hm
    have lu:=c2.len
    have lx:=hl x (by simp)
    have l2:us.length < 16777216:=by
     rcases c3 with rfl | c3
     ·omega
     ·rw [c3] at lx
      have:b.length≤1000:=lx.2
      omega
    have fin:=q _ c5 (fun z o e n=>(by
     rw [upd_ne (fun y=>n (by rw [y];exact List.mem_cons_of_mem _ c4))]
     exact KT.at (K1 z o e n)))
    exists KT.at ep,l1,KT.at x1,cur_at,c1
    exact ⟨l2,fin⟩
   cases i with
   | true =>
    wp_walk
    exact nb pt _ G' rfl (.iff z1 (hS.kp T) z2 (e4.kp T) z3 z4) Kp.refl
   | false =>
    exists z1
    refine ⟨pt,_,rfl,SqT.of z1,by show ¬ (HT.sIx 4 0 none=0∧HT.sIx 4 4 (some 3)=4);decide,fun pn hn=>?_⟩
    have N:=Kp.new (S:=[]) (o:=.tup [.str "while",hv,.ref l]) hn
    exact nb pn _ _ rfl (.whl upd_same (hS.kp (TupKp.nil (KQ.trans N))) (N.at z2) (e4.kp (TupKp.nil (KQ.trans N)))) N
  clear hRA
  exists e3
  refine fun l hl'=>?_
  have NL:=Kp.new (S:=[]) (o:=.tup us1) hl'
  have el:upd G1 l (.tup us1) l=some (.tup us1):=upd_same
  generalize upd G1 l (.tup us1)=G2 at *
  have ny:∀(q2:Addr) (us2:List V) (G3:Hp),G3 q2=some (.tup us2)→StmsAt G3 us2 (y.2.b2.getD [])→Kp [] G2 G3→∀ p,G3 p=none→RA [some (.ref fl),some (.str (if i=true then "if" else "while")),some hv,some (.ref y.1.f1),some (rv y.1.f2),some (.ref p)] (upd G3 p (.tup [.str (if i=true then "if" else "while"),hv,.ref l,.ref q2])):=fun q2 us2 G3 z1 z2 K3 p hp=>by
   have N:=Kp.new (S:=[]) (o:=.tup [.str (if i=true then "if" else "while"),hv,.ref l,.ref q2]) hp
   exact nx l q2 p us2 _ upd_same (N.at (K3.at el)) (N.at z1) (z2.kp (TupKp.nil N)) ((NL.trans K3).trans N)
  clear nx
  have new:∀ q2 us2,G2 q2=none→StmsAt G2 us2 (y.2.b2.getD [])→∀ p,upd G2 q2 (.tup us2) p=none→RA [some (.ref fl),some (.str (if i=true then "if" else "while")),some hv,some (.ref y.1.f1),some (rv y.1.f2),some (.ref p)] (upd (upd G2 q2 (.tup us2)) p (.tup [.str (if i=true then "if" else "while"),hv,.ref l,.ref q2])):=fun q2 us2 hq2 z p hp =>
   ny q2 us2 _ upd_same (z.kp (TupKp.nil (Kp.new hq2))) (Kp.new hq2) p hp
  have nem:y.2.b2.getD []=[]→∀ le,G2 le=none→∀ q2,upd G2 le (.lst []) q2=none→∀ p,upd (upd G2 le (.lst [])) q2 (.tup []) p=none→RA [some (.ref fl),some (.str (if i=true then "if" else "while")),some hv,some (.ref y.1.f1),some (rv y.1.f2),some (.ref p)] (upd (upd (upd G2 le (.lst [])) q2 (.tup [])) p (.tup [.str (if i=true then "if" else "while"),hv,.ref l,.ref q2])):=fun hb le hle q2 hq2 p hp =>
   ny q2 [] _ upd_same (by rw [hb];exact .nil) ((Kp.new hle).trans (Kp.new hq2)) p hp
  cases hy2:y.1.f2 with
  | none =>
   have hb:y.2.b2.getD []=[]:=by
    rw [hy2] at e5
    cases h:y.2.b2 with
    | none=>rfl
    | some b=>rw [h] at e5;exact e5.elim
   rw [hy2] at nem
   exists rv
   exact nem hb
  | some a2 =>
   rw [hy2] at e5
   obtain ⟨us2,e6,e7⟩:∃ us2,G1 a2=some (.lst us2)∧StmsAt G1 us2 (y.2.b2.getD []):=by
    cases h:y.2.b2 with
    | none=>rw [h] at e5;exact e5.elim
    | some b=>rw [h] at e5;obtain ⟨us,e6,e7⟩:=e5;exact ⟨us,e6,e7⟩
   replace e6:=NL.at e6
   replace e7:=e7.kp (TupKp.nil NL)
   rw [hy2] at nem new
   exists rv,e6
   split
   ·exact fun q2 hq2=>new q2 us2 hq2 e7
   ·next ht =>
    have hu:us2=[]:=by cases us2<;>simp at ht ⊢
    subst hu
    exact nem (by cases h:y.2.b2.getD [] with | nil=>rfl | cons _ _=>rw [h] at e7;cases e7)
theorem ok_lawplain:Ok T T.flawplain 9 spDPlain:=by
 nomatch T.flawplain
 ·obtain ⟨r,n,rfl,_⟩:=h
  rfl
 ·obtain ⟨r,n,rfl,hR,hn,q⟩:=h
  nomatch (pss_cons (pst 1 (pcl (ok_lawpick T) T.flawpick (pa2 pv0 pe_int))) (pss_cons (pif (ptc op_lt pv1 pe_int) (pss_one (ps_ret (pe_tup (pa3 pe_str (pcl (ok_lawname T) T.flawname (pa1 pv0)) (pcl (ok_lawsaying T 4) T.flawsaying (pa2 pv0 pe_int))))))) (pss_cons (pif (ptc op_lt pv1 pe_int) (pss_one (ps_ret (pe_tup (pa_n pe_str (pa3 (pcl (ok_lawname T) T.flawname (pa1 pv0)) (pix ix_c (pe_lst (pa2 pe_str pe_str)) (pcl (ok_lawpick T) T.flawpick (pa2 pv0 pe_int))) (pcl (ok_lawsaying T 4) T.flawsaying (pa2 pv0 pe_int)))))))) (pss_cons (pif (ptc op_eq pv1 pe_int) (pss_one (ps_ret (pe_tup (pa3 pe_str (pcl (ok_lawname T) T.flawname (pa1 pv0)) (pcl (ok_lawsaying T 4) T.flawsaying (pa2 pv0 pe_int))))))) (pss3 (pif (ptc op_eq pv1 pe_int) (pss_one (ps_ret (pe_tup (pa_n pe_str (pa3 (pcl (ok_lawname T) T.flawname (pa1 pv0)) (pix ix_c (pe_lst (pa2 pe_str pe_str)) (pcl (ok_lawpick T) T.flawpick (pa2 pv0 pe_int))) (pcl (ok_lawsaying T 4) T.flawsaying (pa2 pv0 pe_int)))))))) (pif (ptc op_eq pv1 pe_int) (pss_one (ps_ret (pe_tup (pa_n pe_str (pa3 (pcl (ok_lawsaying T 4) T.flawsaying (pa2 pv0 pe_int)) (pix ix_c (pe_lst (pa2 pe_str pe_str)) (pcl (ok_lawpick T) T.flawpick (pa2 pv0 pe_int))) (pcl (ok_lawsaying T 4) T.flawsaying (pa2 pv0 pe_int)))))))) (ps_ret (pe_tup (pa2 pe_str (pcl (ok_lawsaying T 4) T.flawsaying (pa2 pv0 pe_int)))))))))),0
  left
  wp_walk
  have b4:bd 4=93:=rfl
  refine ⟨_,hR,by omega,fun g H1 a1 b1 R1 K1=>?_⟩
  right
  left
  wp_walk
  split
  ·refine ⟨_,R1,by omega,fun x H2 hx R2 K2=>?_⟩
   wp_walk
   refine ⟨r,4,_,rfl,by decide,by decide,R2,by omega,fun v s H3 hv ok hd R3 K3 p hp=>?_⟩
   exact q _ (.set x s) _ (.set upd_same (hv.kp (TupKp.new hp))) ⟨⟨ok,by omega⟩,rfl⟩ ⟨by simp only [Stm.lp];exact fun z=>absurd z (npl hx),fun n=>by simp only [Stm.ns];exact nm_ne hx n⟩ (((K1.trans K2).trans K3).trans (Kp.new hp))
  right
  left
  wp_walk
  split
  ·refine ⟨_,R1,by omega,fun x H2 hx R2 K2=>?_⟩
   wp_walk
   refine fun p1 h1=>⟨_,R2.new h1,by omega,fun g3 H3 a3 b3 R3 K3=>?_⟩
   exists made1 K3 R2 h1
   refine r_draw a3 b3 fun y hy=>?_
   wp_walk
   obtain ⟨z,rfl⟩:∃ z:Str,y=.str z:=by simp only [List.mem_cons,List.not_mem_nil,or_false] at hy;rcases hy with rfl | rfl<;>exact ⟨_,rfl⟩
   refine ⟨r,3,_,rfl,by decide,by decide,R3,by omega,fun v s H4 hv ok hd R4 K4 p hp=>?_⟩
   exact q _ (.order x z s) _ (.order upd_same (hv.kp (TupKp.new hp))) ⟨⟨ok,by omega⟩,rfl⟩ ⟨by simp only [Stm.lp];exact npl hx,fun n=>by simp only [Stm.ns];exact nm_ne hx n⟩ ((((K1.trans K2).trans (Kp.new h1)).trans (K3.trans K4)).trans (Kp.new hp))
  right
  left
  wp_walk
  split
  ·refine ⟨_,R1,by omega,fun x H2 hx R2 K2=>?_⟩
   wp_walk
   refine ⟨r,3,_,rfl,by decide,by decide,R2,by omega,fun v s H3 hv ok hd R3 K3 p hp=>?_⟩
   exact q _ (.timer x s) _ (.timer upd_same (hv.kp (TupKp.new hp))) ⟨⟨ok,by omega⟩,rfl⟩ ⟨by simp only [Stm.lp];exact npl hx,fun n=>by simp only [Stm.ns];exact nm_ne hx n⟩ (((K1.trans K2).trans K3).trans (Kp.new hp))
  right
  left
  wp_walk
  split
  ·refine ⟨_,R1,by omega,fun x H2 hx R2 K2=>?_⟩
   wp_walk
   refine fun p1 h1=>⟨_,R2.new h1,by omega,fun g3 H3 a3 b3 R3 K3=>?_⟩
   exists made1 K3 R2 h1
   refine r_draw a3 b3 fun y hy=>?_
   wp_walk
   obtain ⟨z,rfl⟩:∃ z:Str,y=.str z:=by simp only [List.mem_cons,List.not_mem_nil,or_false] at hy;rcases hy with rfl | rfl<;>exact ⟨_,rfl⟩
   refine ⟨r,3,_,rfl,by decide,by decide,R3,by omega,fun v s H4 hv ok hd R4 K4 p hp=>?_⟩
   exact q _ (.child x z s) _ (.child upd_same (hv.kp (TupKp.new hp))) ⟨⟨ok,by omega⟩,rfl⟩ ⟨by simp only [Stm.lp];exact npl hx,fun n=>by simp only [Stm.ns];exact nm_ne hx n⟩ ((((K1.trans K2).trans (Kp.new h1)).trans (K3.trans K4)).trans (Kp.new hp))
  right
  left
  wp_walk
  split
  ·refine ⟨r,2,_,rfl,by decide,by decide,R1,by omega,fun v s H2 hv ok hd R2 K2=>?_⟩
   wp_walk
   refine fun p1 h1=>⟨_,R2.new h1,by omega,fun g3 H3 a3 b3 R3 K3=>?_⟩
   exists made1 K3 R2 h1
   refine r_draw a3 b3 fun y hy=>?_
   wp_walk
   obtain ⟨z,rfl⟩:∃ z:Str,y=.str z:=by simp only [List.mem_cons,List.not_mem_nil,or_false] at hy;rcases hy with rfl | rfl<;>exact ⟨_,rfl⟩
   refine ⟨r,3,_,rfl,by decide,by decide,R3,by omega,fun v2 s2 H4 hv2 ok2 hd2 R4 K4 p hp=>?_⟩
   have T1:TupKp H2 (upd H4 p (.tup [.str "send",v,.str z,v2])):=(((TupKp.new h1).trans ((R2.new h1).tk K3)).trans (R3.tk K4)).trans (TupKp.new hp)
   exact q _ (.send s z s2) _ (.send upd_same (hv.kp T1) (hv2.kp (TupKp.new hp))) ⟨⟨⟨ok,by omega⟩,ok2,by omega⟩,rfl⟩ ⟨by simp only [Stm.lp],fun n=>by simp only [Stm.ns]⟩ ((((K1.trans K2).trans (Kp.new h1)).trans (K3.trans K4)).trans (Kp.new hp))
  right
  wp_walk
  refine ⟨r,2,_,rfl,by decide,by decide,R1,by omega,fun v s H2 hv ok hd R2 K2 p hp=>?_⟩
  exact q _ (.drop s) _ (.drop upd_same (hv.kp (TupKp.new hp))) ⟨⟨ok,by omega⟩,rfl⟩ ⟨by simp only [Stm.lp],fun n=>by simp only [Stm.ns]⟩ ((K1.trans K2).trans (Kp.new hp))
theorem ok_lawpiece:Ok T T.flawpiece 11 spPiece:=by
 nomatch T.flawpiece
 ·obtain ⟨fl,dk,k,I,x,rfl,_⟩:=h
  rfl
 ·obtain ⟨fl,dk,k,I,x,rfl,hk,F,g,D,nd,q⟩:=h
  nomatch (pss3 (pst 3 (pcl (ok_lawpick T) T.flawpick (pa2 pv1 pe_int))) (pst 4 (pe_op op_addC pe_str (pix ix_c pe_str pv2))) (ps_if (PW.pt (pw_and (ptc op_eq pv3 pe_int) (pw_and1 (ptc op_lt (pe_callB call_lenC rfl T.zlen bt_len (pa1 pv0)) pe_int)))) (pss_one (ps_expr (pe_appC pv0 (pe_lst (pa_n pe_str (pa3 (pcl (ok_lawsaying T 4) T.flawsaying (pa2 pv1 pe_int)) (pe_lst pa_nil) pe_non)))))) (pss_one (ps_if (PW.pt (pw_and (ptc op_eq pv3 pe_int) (pw_and1 (ptc op_lt (pe_callB call_lenC rfl T.zlen bt_len (pa1 pv0)) pe_int)))) (pss3 (ps_expr (pe_appC (pix ix_c (pix ix_c pv0 (pe_un un_neg pe_int)) (pe_op op_addC pe_int (pe_callTy call_intC rfl T.zint bt_int (pa1 (pcr op_isnotC (pix ix_c (pix ix_c pv0 (pe_un un_neg pe_int)) pe_int) pe_non))))) (pe_tup (pa3 pe_str pv4 (pe_tup (pa2 pe_str pe_int)))))) (pst 5 (pe_tup (pa3 pe_str (pe_tup (pa2 pe_str pv4)) (pe_tup (pa2 pe_str (pcl (ok_lawpick T) T.flawpick (pa2 pv1 pe_int))))))) (ps_expr (pe_appC pv0 (pe_lst (pa_n pe_str (pa3 pv5 (pe_lst (pa1 (pe_tup (pa3 pe_str pv4 (pe_tup (pa3 pe_str (pe_tup (pa2 pe_str pv4)) (pe_tup (pa2 pe_str pe_int)))))))) pe_non)))))) (pss_one (ps_if (PW.pt (pw_and (ptc op_eq pv3 pe_int) (pw_and (ptc op_gt (pe_callB call_lenC rfl T.zlen bt_len (pa1 pv0)) pe_int) (pw_and (ptc op_eq (pix ix_c (pix ix_c pv0 (pe_un un_neg pe_int)) pe_int) pe_str) (pw_and1 (ptc op_isC (pix ix_c (pix ix_c pv0 (pe_un un_neg pe_int)) pe_int) pe_non)))))) (pss_one (ps_asg (pe_lst pa_nil) (pg_sub (pix ix_c pv0 (pe_un un_neg pe_int)) pe_int set_c))) (pss_one (ps_if (PW.pt (pw_and (ptc op_lt pv3 pe_int) (pw_and1 (ptc op_gt (pe_callB call_lenC rfl T.zlen bt_len (pa1 pv0)) pe_int)))) (pss_one (ps_expr (pcl (ok_lawclosed T) T.flawclosed (pa1 pv0)))) (pss_one (ps_if (PW.pt (pw_and (ptc op_eq pv3 pe_int) (pw_and1 (ptc op_eq (pcl (ok_lawpick T) T.flawpick (pa2 pv1 pe_int)) pe_int)))) (pss_one (ps_expr (pe_appC (pix ix_c (pix ix_c pv0 (pe_un un_neg pe_int)) (pe_op op_addC pe_int (pe_callTy call_intC rfl T.zint bt_int (pa1 (pcr op_isnotC (pix ix_c (pix ix_c pv0 (pe_un un_neg pe_int)) pe_int) pe_non))))) (pe_tup (pa2 pe_str (pcl (ok_lawsaying T 4) T.flawsaying (pa2 pv1 pe_int))))))) (pss_one (ps_expr (pe_appC (pix ix_c (pix ix_c pv0 (pe_un un_neg pe_int)) (pe_op op_addC pe_int (pe_callTy call_intC rfl T.zint bt_int (pa1 (pcr op_isnotC (pix ix_c (pix ix_c pv0 (pe_un un_neg pe_int)) pe_int) pe_non))))) (pcl (ok_lawplain T) T.flawplain (pa1 pv1))))))))))))))),0
  have gx:=g.gf I.length x.2 (by simp [frs16])
  have ll:=g.ln
  have le:((I++[x]).map fun x=>V.ref x.1.fa).length=I.length+1:=by simp
  have ll':I.length+1≤6:=by simpa [frs16] using ll
  have lsz:=len_of g (by omega)
  have fz:∀ G,Kp [dk] H G→FsAt G fl (I++[x]):=fun G K=>F.keep (fun a ha o e=>K.at1 e (fun z=>nd (z ▸ ha))) (D.tk K)
  have wz:∀ {a:Addr} {n:Nat} (G:Hp),Kp [dk] H G→DeckAt G dk n→G a=none→H a=none:=fun {a n} G K D' h=>by
   cases e:H a with
   | none=>rfl
   | some o=>rw [K.at1 e (D'.none h)] at h;cases h
  have lcur:∀ {G:Hp} {us:List V} {b:List Stm},StmsAt G us b→(b=x.2.b1∨x.2.b2=some b)→us.length≤1000:=fun {G us b} c2 c3=>by
   have lx:=lsz x (by simp)
   have lu:=c2.len
   rcases c3 with rfl | c3
   ·omega
   ·rw [c3] at lx
    have:b.length≤1000:=lx.2
    omega
  have put:∀ G5,Kp [dk] H G5→∀(v:V) (m:Stm),StmAt G5 v m→∃ us,G5 x.1.cur=some (.lst us)∧us.length≤1000∧(m.gd false→m.dp=0→m.lp PL→m.ct=1→(∀ n,m.ns (lname n))→Q .non (upd G5 x.1.cur (.lst (us++[v])))):=fun G5 K5 v m hm=>by
   obtain ⟨us,b,c1,c2,c3,c4,c5⟩:=(fz G5 K5).app hm
   refine ⟨us,c1,lcur c2 c3,fun a1 a2 a3 a4 a5=>q I _ _ c5 ?_ (fun b hb=>.inl (by rw [cells_app,cells_one] at hb ⊢;exact hb)) ((cell_kp K5).trans (Kp.set (by rw [cells_app,cells_one];simp [c4])))⟩
   rw [frs_snoc]
   rw [frs_snoc] at g
   exact g.plain hk a1 a2 a3 a4 (fun n _=>a5 n)
  have cur:∀ G,Kp [dk] H G→∃ uc,G x.1.cur=some (.lst uc):=fun G K=>((fz G K).fr x (by simp)).lst _ (by cases h:x.1.f2<;>simp [FC.cur,FC.cells,h])
  have l1:=last_at I x
  left
  wp_walk
  refine ⟨_,D,by omega,fun kd G1 a1 b1 D1 K1=>?_⟩
  wp_walk
  right
  left
  exists lname_at k hk
  refine ⟨by decide,by rw [show (Str.ofString "n").length=1 by decide +kernel];show 1+1≤16777216;decide,?_⟩
  rw [lname_eq k]
  right
  have F1:=fz G1 K1
  have efl:=F1.e
  obtain ⟨hux,hvx,usx,x1,x2,x3,x4,x5⟩:=F1.fr x (by simp)
  refine cut_if fun RI hRI=>?_
  refine cut_el fun RE hRE=>?_
  suffices fin:(I.length < 5→RI [some (.ref fl),some (.ref dk),some (.int k),some (.int kd),some (.str (lname k)),none] G1)∧RE [some (.ref fl),some (.ref dk),some (.int k),some (.int kd),some (.str (lname k)),none] G1 by
   exists efl,le
   split
   ·split
    ·next h2=>exact fin.1 (by omega)
    ·exact fin.2
   ·exact fin.2
  refine ⟨fun l5=>hRI _ _ ?_,hRE _ _ ?_⟩
  ·clear hRI RI hRE RE
   exists efl
   refine ⟨dk,3,4,rfl,by decide,by decide,D1,by have:bd 4=93:=rfl;omega,fun sv s G6 hs ok hd D6 K6=>?_⟩
   replace K6:=K1.trans K6
   have F6:=fz G6 K6
   wp_walk
   refine fun f1' h2 fa' h3=>?_
   have N2:=Kp.new (S:=[]) (o:=.lst []) h2
   have N3:=Kp.new (S:=[]) (o:=.lst [.str "if",sv,.ref f1',.non]) h3
   have m1:=(F6.kp N2).free h3
   have m2:=F6.free h2
   have m3:fa'≠f1':=fun z=>by rw [z,upd_same] at h3;cases h3
   have NN:=N2.trans N3
   have z0:G6 fa'=none:=N2.wasFree h3
   have e2:=N3.at (show upd G6 f1' (.lst []) f1'=some (.lst []) from upd_same)
   have e1:upd (upd G6 f1' (.lst [])) fa' (.lst [.str "if",sv,.ref f1',.non]) fa'=some (.lst [.str "if",sv,.ref f1',.non]):=upd_same
   generalize upd (upd G6 f1' (.lst [])) fa' (.lst [.str "if",sv,.ref f1',.non])=G7 at *
   have F7:=(F6.kp NN).push e1 e2 .nil (h:=some (true,s)) ⟨rfl,hs.kp (TupKp.nil NN)⟩ m1 m2 m3
   have efl7:=(F6.kp NN).e
   exists efl7
   refine ⟨by rw [le];omega,?_⟩
   rw [show ((I++[x]).map fun x=>V.ref x.1.fa)++[V.ref fa']=((I++[x])++[((⟨fa',f1',none⟩:FC),(⟨some (true,s),[],none⟩:Fr))]).map fun x=>V.ref x.1.fa by simp]
   refine q (I++[x]) _ _ F7 ?_ (fun b hb=>?_) (((cell_kp K6).trans (NN.mono (by simp))).trans (Kp.set (by simp)))
   ·rw [frs_snoc]
    exact g.pushI hk (by simp [frs16];omega) (by simp [frs16]) ⟨ok,by omega⟩
   ·rw [cells_app,cells_one] at hb
    rcases List.mem_cons.mp hb with hb | hb
    ·exact .inl (by simp [hb])
    ·rcases List.mem_append.mp hb with hb | hb
     ·exact .inl (by simp [hb])
     ·simp only [FC.cells,Option.toList_none,List.mem_cons,List.not_mem_nil,or_false] at hb
      rcases hb with rfl | rfl
      ·exact .inr (wz _ K6 D6 z0)
      ·exact .inr (wz _ K6 D6 h2)
  clear hRI RI hRE RE
  refine cut_if fun RI hRI=>?_
  refine cut_el fun RE hRE=>?_
  suffices fin:(I.length < 2→RI [some (.ref fl),some (.ref dk),some (.int k),some (.int kd),some (.str (lname k)),none] G1)∧RE [some (.ref fl),some (.ref dk),some (.int k),some (.int kd),some (.str (lname k)),none] G1 by
   exists efl,le
   split
   ·split
    ·next h2=>exact fin.1 (by omega)
    ·exact fin.2
   ·exact fin.2
  refine ⟨fun l3=>hRI _ _ ?_,hRE _ _ ?_⟩
  ·clear hRI RI hRE RE
   obtain ⟨uc,fcu⟩:=cur G1 K1
   left
   exists efl,l1,x1,cur_at,fcu
   refine fun t1 h1 t2 h2=>?_
   have N2:Kp [] G1 (upd (upd G1 t1 (.tup [.str "number",.int 0])) t2 (.tup [.str "set",.str (lname k),.ref t1])):=(Kp.new h1).trans (Kp.new h2)
   have hm:StmAt (upd (upd G1 t1 (.tup [.str "number",.int 0])) t2 (.tup [.str "set",.str (lname k),.ref t1])) (.ref t2) (.set (lname k) (.num 0)):=.set upd_same (.num ((Kp.new (S:=[]) h2).at upd_same))
   replace D1:=D1.kp N2
   have K2:Kp [dk] H _:=K1.trans (N2.mono (by simp))
   generalize upd (upd G1 t1 (.tup [.str "number",.int 0])) t2 (.tup [.str "set",.str (lname k),.ref t1])=G2 at *
   obtain ⟨us,b,c1,c2,c3,c4,c5⟩:=(fz G2 K2).app hm
   have lb:=lcur c2 c3
   have KC:Kp (dk::fl::cellsL (I++[x])) H (upd G2 x.1.cur (.lst (us++[.ref t2]))):=(cell_kp K2).trans (Kp.set (by rw [cells_app,cells_one];simp [c4]))
   have ndc:dk≠x.1.cur:=fun z=>nd (by rw [cells_app,cells_one,z];simp [c4])
   have DC:DeckAt (upd G2 x.1.cur (.lst (us++[.ref t2]))) dk 4:=by
    obtain ⟨c,f,s,e,r⟩:=D1
    exact ⟨c,f,s,by rw [upd_ne ndc];exact e,r⟩
   have cc:cellsL (I++[(x.1,x.2.add (.set (lname k) (.num 0)))])=cellsL (I++[x]):=by rw [cells_app,cells_app,cells_one,cells_one]
   clear K2 N2 fcu
   exists c1
   refine ⟨by omega,?_⟩
   generalize upd G2 x.1.cur (.lst (us++[.ref t2]))=G3 at *
   right
   left
   wp_walk
   refine fun t3 h3=>⟨_,DC.new h3,by omega,fun L G4 a4 b4 D4 K4 t4 h4 t5 h5=>?_⟩
   have T3:TupKp (upd G3 t3 (.tup [.str "name",.str (lname k)])) G4:=(DC.new h3).tk K4
   have e3:=T3 _ _ upd_same
   have N5:Kp [] G4 (upd (upd G4 t4 (.tup [.str "number",.int L])) t5 (.tup [.str "<",.ref t3,.ref t4])):=(Kp.new h4).trans (Kp.new h5)
   have hs:SayAt (upd (upd G4 t4 (.tup [.str "number",.int L])) t5 (.tup [.str "<",.ref t3,.ref t4])) (.ref t5) (limS k L):=.two upd_same (.name (N5.at e3)) (.num ((Kp.new (S:=[]) h5).at upd_same))
   have K5:Kp [dk] G3 _:=((Kp.new h3).trans K4).trans (N5.mono (by simp))
   have D5:=D4.kp N5
   generalize upd (upd G4 t4 (.tup [.str "number",.int L])) t5 (.tup [.str "<",.ref t3,.ref t4])=G5 at *
   clear T3 e3 N5 K4 D4 h3 h4 h5
   wp_walk
   right
   have F5:=c5.keep (fun a ha o e=>K5.at1 e (fun z=>nd (by rw [← cc];exact z ▸ ha))) (DC.tk K5)
   have KC5:=KC.trans (cell_kp K5)
   have w5:∀ {a:Addr},G5 a=none→a∉fl::cellsL (I++[x])→H a=none:=fun {a} h n=>by
    cases e:H a with
    | none=>rfl
    | some o=>rw [KC5 a o e (fun z=>(List.mem_cons.mp z).elim (fun z=>D5.none h z) n)] at h;cases h
   have efl5:=F5.e
   exists efl5
   refine fun t6 h6 t7 h7 t8 h8 t9 h9 f1' hf fa' hfa=>?_
   have N6:=Kp.new (S:=[]) (o:=.tup [.str "name",.str (lname k)]) h6
   have N7:=Kp.new (S:=[]) (o:=.tup [.str "number",.int 1]) h7
   have N8:=Kp.new (S:=[]) (o:=.tup [.str "+",.ref t6,.ref t7]) h8
   have N9:=Kp.new (S:=[]) (o:=.tup [.str "set",.str (lname k),.ref t8]) h9
   have Nf:=Kp.new (S:=[]) (o:=.lst [.ref t9]) hf
   have Na:=Kp.new (S:=[]) (o:=.lst [.str "while",.ref t5,.ref f1',.non]) hfa
   have hI:StmAt _ (.ref t9) (incS k):=.set upd_same ((SayAt.two (g:=.add) upd_same (.name ((N7.trans N8).at upd_same)) (.num (N8.at upd_same))).kp (TupKp.nil N9))
   have N69:=((N6.trans N7).trans N8).trans N9
   generalize upd (upd (upd (upd G5 t6 (.tup [.str "name",.str (lname k)])) t7 (.tup [.str "number",.int 1])) t8 (.tup [.str "+",.ref t6,.ref t7])) t9 (.tup [.str "set",.str (lname k),.ref t8])=G6 at *
   have F6:=F5.kp N69
   have m1:=(F6.kp Nf).free hfa
   have m2:=F6.free hf
   have m3:fa'≠f1':=fun z=>by rw [z,upd_same] at hfa;cases hfa
   have NN:=Nf.trans Na
   have z2:=w5 (N69.wasFree hf) (by rw [← cc];exact m2)
   have z1:=w5 (N69.wasFree (Nf.wasFree hfa)) (by rw [← cc];exact m1)
   have e2:=Na.at (show upd G6 f1' (.lst [.ref t9]) f1'=some (.lst [.ref t9]) from upd_same)
   have e1:upd (upd G6 f1' (.lst [.ref t9])) fa' (.lst [.str "while",.ref t5,.ref f1',.non]) fa'=some (.lst [.str "while",.ref t5,.ref f1',.non]):=upd_same
   generalize upd (upd G6 f1' (.lst [.ref t9])) fa' (.lst [.str "while",.ref t5,.ref f1',.non])=G7 at *
   have F7:=(F6.kp NN).push e1 e2 (.cons (hI.kp (TupKp.nil NN)) .nil) (h:=some (false,limS k L)) ⟨rfl,hs.kp (TupKp.nil (N69.trans NN))⟩ m1 m2 m3
   have efl7:=(F6.kp NN).e
   have le5:((I++[(x.1,x.2.add (.set (lname k) (.num 0)))]).map fun x=>V.ref x.1.fa).length=I.length+1:=by simp
   exists efl7
   refine ⟨by rw [le5];omega,?_⟩
   rw [show ((I++[(x.1,x.2.add (.set (lname k) (.num 0)))]).map fun x=>V.ref x.1.fa)++[V.ref fa']=((I++[(x.1,x.2.add (.set (lname k) (.num 0)))])++[((⟨fa',f1',none⟩:FC),(⟨some (false,limS k L),[incS k],none⟩:Fr))]).map fun x=>V.ref x.1.fa by simp]
   refine q _ _ _ F7 ?_ (fun b hb=>?_) ((KC5.trans ((N69.trans NN).mono (by simp))).trans (Kp.set (by simp)))
   ·rw [frs_snoc,frs_snoc]
    rw [frs_snoc] at g
    exact g.pushW hk (by simp [frs16];omega) a4 (by omega) (fun n hn=>lname_ne hn)
   ·rw [cells_app,cells_one,cc] at hb
    rcases List.mem_cons.mp hb with hb | hb
    ·exact .inl (by simp [hb])
    ·rcases List.mem_append.mp hb with hb | hb
     ·exact .inl (by simp [hb])
     ·simp only [FC.cells,Option.toList_none,List.mem_cons,List.not_mem_nil,or_false] at hb
      rcases hb with rfl | rfl
      ·exact .inr z1
      ·exact .inr z2
  clear hRI RI hRE RE
  refine cut_if fun RI hRI=>?_
  refine cut_el fun RE hRE=>?_
  suffices fin:(0 < I.length→(∃ s,x.2.hd=some (true,s))→x.1.f2=none→RI [some (.ref fl),some (.ref dk),some (.int k),some (.int kd),some (.str (lname k)),none] G1)∧RE [some (.ref fl),some (.ref dk),some (.int k),some (.int kd),some (.str (lname k)),none] G1 by
   by_cases l0:0 < I.length
   ·obtain ⟨i0,s0,hh,hs0⟩:=gx.h1 (by omega)
    rw [hh] at x2
    obtain ⟨rfl,hS⟩:=x2
    cases i0 with
    | true =>
     exists efl,le,l1,x1
     repeat' split
     all_goals first | exact fin.2 | exact fin.1 l0 ⟨s0,hh⟩ (rv_non ‹_›)
    | false =>
     exists efl,le,l1,x1
     repeat' split
     all_goals exact fin.2
   ·skip
    exists efl,le
    split
    ·rw [if_neg (by omega)]
     exact fin.2
    ·exact fin.2
  refine ⟨fun l0 ⟨s0,hif⟩ f0=>hRI _ _ ?_,hRE _ _ ?_⟩
  ·clear hRI RI hRE RE
   rw [f0] at x1
   replace x1:G1 x.1.fa=some (.lst [hux,hvx,.ref x.1.f1,.non]):=x1
   exists efl,l1,x1
   refine fun a ha=>?_
   have NA:=Kp.new (S:=[]) (o:=.lst []) ha
   have ea:upd G1 a (.lst []) a=some (.lst []):=upd_same
   have na:=F1.free ha
   have F2:=F1.kp NA
   replace efl:=NA.at efl
   replace x1:=NA.at x1
   have KA:Kp (dk::fl::cellsL (I++[x])) H (upd G1 a (.lst [])):=(cell_kp K1).trans (NA.mono (by simp))
   have za:=wz _ K1 D1 ha
   generalize upd G1 a (.lst [])=G5 at *
   have F5:=F2.snd f0 x1 ea na
   exists efl,l1,x1
   rw [show ixN 4 3=some 3 from rfl]
   have hb:x.2.b2=none:=by
    cases h:x.2.b2 with
    | none=>rfl
    | some b=>rw [f0,h] at x5;exact x5.elim
   refine q I _ _ F5 ?_ (fun b hb'=>?_) (KA.trans (Kp.set (by rw [cells_app,cells_one];simp [FC.cells])))
   ·rw [frs_snoc]
    rw [frs_snoc] at g
    exact g.second hk hif hb
   ·rw [cells_app,cells_one] at hb'
    rcases List.mem_cons.mp hb' with hb' | hb'
    ·exact .inl (by simp [hb'])
    ·rcases List.mem_append.mp hb' with hb' | hb'
     ·exact .inl (by rw [cells_app];simp [hb'])
     ·simp only [FC.cells,Option.toList_some,List.mem_cons,List.not_mem_nil,or_false] at hb'
      rcases hb' with rfl | rfl | rfl
      ·exact .inl (by rw [cells_app,cells_one];simp [FC.cells])
      ·exact .inl (by rw [cells_app,cells_one];simp [FC.cells])
      ·exact .inr za
  clear hRI RI hRE RE
  refine cut_if fun RI hRI=>?_
  refine cut_el fun RE hRE=>?_
  suffices fin:(0 < I.length→RI [some (.ref fl),some (.ref dk),some (.int k),some (.int kd),some (.str (lname k)),none] G1)∧RE [some (.ref fl),some (.ref dk),some (.int k),some (.int kd),some (.str (lname k)),none] G1 by
   exists efl,le
   split
   ·split
    ·next h2=>exact fin.1 (by omega)
    ·exact fin.2
   ·exact fin.2
  refine ⟨fun l0=>hRI _ _ ?_,hRE _ _ ?_⟩
  ·clear hRI RI hRE RE put cur lcur wz
   obtain ⟨I',y,rfl⟩:∃ I' y,I=I'++[y]:=⟨I.dropLast,I.getLast (fun z=>by rw [z] at l0;simp at l0),(List.dropLast_concat_getLast _).symm⟩
   obtain ⟨i0,s0,hh,hs0⟩:=gx.h1 (by omega)
   wp_walk
   refine ⟨fl,I',y,x,i0,s0,rfl,F1,hh,lsz,fun G5 F5 K5=>?_⟩
   refine q I' _ _ F5 ?_ (fun b hb=>.inl ?_) ((cell_kp K1).trans (K5.mono ?_))
   ·rw [frs_snoc]
    rw [frs_snoc,frs_snoc] at g
    exact g.close hk hh
   ·rw [cells_app,cells_one] at hb
    rw [cells_app,cells_app,cells_one,cells_one]
    rcases List.mem_cons.mp hb with hb | hb
    ·simp [hb]
    ·rcases List.mem_append.mp hb with hb | hb
     ·simp [hb]
     ·simp [show b∈y.1.cells from hb]
   ·intro b hb
    rw [cells_app,cells_app,cells_one]
    rcases List.mem_cons.mp hb with hb | hb
    ·simp [hb]
    ·simp [hb]
  clear hRI RI hRE RE
  refine cut_if fun RI hRI=>?_
  refine cut_el fun RE hRE=>?_
  suffices fin:(∀ G,DeckAt G dk 5→Kp [dk] H G→RI [some (.ref fl),some (.ref dk),some (.int k),some (.int kd),some (.str (lname k)),none] G)∧(∀ G,DeckAt G dk 5→Kp [dk] H G→RE [some (.ref fl),some (.ref dk),some (.int k),some (.int kd),some (.str (lname k)),none] G) by
   exists efl,le
   split
   ·refine ⟨_,D1,by omega,fun g5 G5 a5 b5 D5 K5=>?_⟩
    split
    ·exact fin.1 _ D5 (K1.trans K5)
    ·exact fin.2 _ D5 (K1.trans K5)
   ·exact fin.2 _ (D1.up (by omega)) K1
  clear F1 efl x1 x2 x3 x4 x5
  refine ⟨fun G DG KG=>hRI _ _ ?_,fun G DG KG=>hRE _ _ ?_⟩
  ·clear hRI RI hRE RE
   obtain ⟨uc,fcu⟩:=cur G KG
   have fe:=(fz G KG).e
   obtain ⟨hux,hvx,usx,fx,_⟩:=(fz G KG).fr x (by simp)
   exists fe,l1,fx,cur_at,fcu
   refine ⟨dk,3,_,rfl,by decide,by decide,DG,by have:bd 4=93:=rfl;omega,fun sv s G6 hs ok hd D6 K6 pe hpe=>?_⟩
   have KE:Kp [dk] H (upd G6 pe (.tup [.str "end",sv])):=(KG.trans K6).trans (Kp.new hpe)
   have hm:StmAt (upd G6 pe (.tup [.str "end",sv])) (.ref pe) (.fin s):=.fin upd_same (hs.kp (TupKp.new hpe))
   generalize upd G6 pe (.tup [.str "end",sv])=G5 at *
   obtain ⟨us,c1,lb,fin⟩:=put G5 KE _ _ hm
   exists c1
   exact ⟨by omega,fin ⟨ok,by omega⟩ rfl (by simp only [Stm.lp]) rfl (fun n=>by simp only [Stm.ns])⟩
  ·clear hRI RI hRE RE
   obtain ⟨uc,fcu⟩:=cur G KG
   have fe:=(fz G KG).e
   obtain ⟨hux,hvx,usx,fx,_⟩:=(fz G KG).fr x (by simp)
   exists fe,l1,fx,cur_at,fcu
   refine ⟨dk,_,rfl,DG,by omega,fun v m G5 hm hg hl KP=>?_⟩
   obtain ⟨us,c1,lb,fin⟩:=put G5 (KG.trans KP) _ _ hm
   exists c1
   exact ⟨by omega,fin hg.1 (by have:=hg.2;cases m<;>first | rfl | cases this) hl.1 (by have:=hg.2;cases m<;>first | rfl | cases this) hl.2⟩
theorem ok_lawdeck:Ok T T.flawdeck 1 spDeck:=by
 nomatch T.flawdeck
 ·obtain ⟨z,k,rfl,_⟩:=h
  rfl
 ·obtain ⟨z,k,rfl,q⟩:=h
  nomatch (pss2 (pif (ptc op_ge pv0 (pe_op op_pow pe_int pe_int)) (pss_one (ps_ret (pe_lst (pa3 (pe_op op_sub pv0 (pe_op op_pow pe_int pe_int)) pe_int pv1))))) (ps_ret (pe_lst (pa3 pv0 pe_int pv1)))),0
  wp_walk
  split
  ·exact fun r hr'=>q r _ hr' (Kp.new hr') ⟨_,_,_,upd_same,by omega,by omega⟩
  ·exact fun r hr'=>q r _ hr' (Kp.new hr') ⟨_,_,_,upd_same,by omega,by omega⟩
theorem st_lawalike {n d:Nat} (IH:FnOk P w K mg base CX0 n t.alawalike t.dlawalike ["one","other"] (spAlD d)):Ok T T.flawalike (n+1) (spAlD (d+1)):=by
 nomatch T.flawalike
 ·obtain ⟨v,u,d1,rfl,_⟩:=h
  rfl
 ·obtain ⟨v,u,d1,rfl,hd,hA,q⟩:=h
  nomatch (pss_cons (pif (PW.pt (pw_or (pt_val (pe_callB call_isiC rfl T.zisinstance bt_isinstance (pa2 pv0 (pe_bltn (v:=.ty "bool") rfl T.zbool bt_bool rfl)))) (pw_or1 (ptc op_ne (pe_callB call_isiA rfl T.zisinstance bt_isinstance (pa2 pv0 (pe_bltn (v:=.ty "list") rfl T.zlist bt_list rfl))) (pe_callB call_isiA rfl T.zisinstance bt_isinstance (pa2 pv1 (pe_bltn (v:=.ty "list") rfl T.zlist bt_list rfl))))))) (pss_one (ps_ret pe_bl))) (pss_cons (pif (ptc op_ne (pe_callB call_isiC rfl T.zisinstance bt_isinstance (pa2 pv0 (pe_bltn (v:=.ty "tuple") rfl T.ztuple bt_tuple rfl))) (pe_callB call_isiC rfl T.zisinstance bt_isinstance (pa2 pv1 (pe_bltn (v:=.ty "tuple") rfl T.ztuple bt_tuple rfl)))) (pss_one (ps_ret pe_bl))) (pss3 (pif (pt_not (pt_val (pe_callB call_isiF rfl T.zisinstance bt_isinstance (pa2 pv0 (pe_tupF (pa2 (pe_bltn (v:=.ty "list") rfl T.zlist bt_list rfl) (pe_bltn (v:=.ty "tuple") rfl T.ztuple bt_tuple rfl))))))) (pss_one (ps_ret (pcr op_eq pv0 pv1)))) (pif (ptc op_ne (pe_callB call_lenC rfl T.zlen bt_len (pa1 pv0)) (pe_callB call_lenC rfl T.zlen bt_len (pa1 pv1))) (pss_one (ps_ret pe_bl))) (ps_ret (pcr (op_eqA 1 (hu_n hr (by decide))) (pe_comp (fr:=[0,1]) (N:=["k","one","other"]) rfl (fun _ _ h=>h) (CompSc.free rfl rfl rfl rfl rfl (fun _ _ h=>by first | exact h | exact look2 (by decide) h) rfl (by decide) rfl (fun j hj=>by rcases (show j=0∨j=1 by simpa using hj) with rfl | rfl<;>exact ⟨_,rfl,rfl,.inl rfl⟩)) (pi_range1 rfl T.zrange (pa1 (pe_callB call_lenC rfl T.zlen bt_len (pa1 pv0)))) (fun C s H ex pn=>⟨pts_one (pt_not (pt_val (pe_call IH (hr.mono (by omega)) rfl T.flawalike.m T.flawalike.fn.kp T.flawalike.bd .nil pass0 (pa_n (pe_ix ix_c (pv 1) (pv 0) (fun _ _=>rfl)) (pa_n (pe_ix ix_c (pv 2) (pv 0) (fun _ _=>rfl)) pa_nil))))) ,(pv 0) ⟩)) (pe_lst pa_nil)))))),0
  cases hA with
  | atom h =>
   cases v with
   | non =>
    wp_walk
    refine fun p hp=>?_
    refine ⟨["list","tuple"],_,rfl,.inr rfl,?_⟩
    simp only [kindO]
    exists show (["list","tuple"].any (isiK "NoneType"))=false by decide,Bool.not_false
    exact q _ (Kp.new hp)
   | str z =>
    wp_walk
    refine fun p hp=>?_
    refine ⟨["list","tuple"],_,rfl,.inr rfl,?_⟩
    simp only [kindO]
    exists show (["list","tuple"].any (isiK "str"))=false by decide,Bool.not_false
    exact q _ (Kp.new hp)
   | int z =>
    wp_walk
    refine fun p hp=>?_
    refine ⟨["list","tuple"],_,rfl,.inr rfl,?_⟩
    simp only [kindO]
    exists show (["list","tuple"].any (isiK "int"))=false by decide,Bool.not_false
    exact q _ (Kp.new hp)
   | _=>exact h.elim
  | @tup dd a b xs ys ea eb hl hx hi =>
   obtain rfl:dd=d:=by omega
   exists ea,eb
   refine fun p hp=>?_
   generalize hg:upd H p (.frz (tyObj ["list","tuple"]) (.tup [.ty "list",.ty "tuple"]))=G1
   have N1:Kp [] H G1:=hg ▸ Kp.new hp
   clear hg
   refine ⟨["list","tuple"],_,rfl,.inr rfl,?_⟩
   have ea1:=N1.at ea
   have eb1:=N1.at eb
   have ek:kindO G1 (.ref a)=some "tuple":=by
    simp only [kindO,ea1]
    rfl
   exists ek,show (["list","tuple"].any (isiK "tuple"))=true by decide,ea1,eb1,hl
   refine ⟨by omega,?_⟩
   refine lc_range (lo:=0) (fun j zs G=>zs=[]∧Kp [] G1 G) ⟨rfl,Kp.refl⟩ ?_ ?_ ?_
   ·rintro j zs G ⟨rfl,_⟩
    simp
   ·rintro j zs G hj ⟨rfl,KG⟩
    have ea2:=KG.at ea1
    have eb2:=KG.at eb1
    have hj1:j < xs.length:=by omega
    have hj2:j < ys.length:=by omega
    have i1:atI xs (j:Int)=some xs[j]:=by rw [atI_nat];exact List.getElem?_eq_getElem hj1
    have i2:atI ys (j:Int)=some ys[j]:=by rw [atI_nat];exact List.getElem?_eq_getElem hj2
    have hc:=hi j _ _ (List.getElem?_eq_getElem hj1) (List.getElem?_eq_getElem hj2)
    exists compSt,Option.join_some,Int.zero_add,ea2,eb2,i1,i2
    refine ⟨_,_,dd,rfl,rfl,hc.kp (N1.trans KG),fun H' K'=>?_⟩
    wp_walk
    exact KG.trans K'
   rintro zs G ⟨rfl,KG⟩ l h2
   wp_walk
   refine fun l2 h3=>⟨true,nil_eq ((Kp.new (S:=[]) h3).at upd_same) upd_same,?_⟩
   exact q _ ((N1.trans KG).trans ((Kp.new h2).trans (Kp.new h3)))
  | @lst dd a b xs ys ea eb hl hx hi =>
   obtain rfl:dd=d:=by omega
   exists ea,eb
   refine fun p hp=>?_
   generalize hg:upd H p (.frz (tyObj ["list","tuple"]) (.tup [.ty "list",.ty "tuple"]))=G1
   have N1:Kp [] H G1:=hg ▸ Kp.new hp
   clear hg
   refine ⟨["list","tuple"],_,rfl,.inr rfl,?_⟩
   have ea1:=N1.at ea
   have eb1:=N1.at eb
   have ek:kindO G1 (.ref a)=some "list":=by
    simp only [kindO,ea1]
    rfl
   exists ek,show (["list","tuple"].any (isiK "list"))=true by decide,ea1,eb1,hl
   refine ⟨by omega,?_⟩
   refine lc_range (lo:=0) (fun j zs G=>zs=[]∧Kp [] G1 G) ⟨rfl,Kp.refl⟩ ?_ ?_ ?_
   ·rintro j zs G ⟨rfl,_⟩
    simp
   ·rintro j zs G hj ⟨rfl,KG⟩
    have ea2:=KG.at ea1
    have eb2:=KG.at eb1
    have hj1:j < xs.length:=by omega
    have hj2:j < ys.length:=by omega
    have i1:atI xs (j:Int)=some xs[j]:=by rw [atI_nat];exact List.getElem?_eq_getElem hj1
    have i2:atI ys (j:Int)=some ys[j]:=by rw [atI_nat];exact List.getElem?_eq_getElem hj2
    have hc:=hi j _ _ (List.getElem?_eq_getElem hj1) (List.getElem?_eq_getElem hj2)
    exists compSt,Option.join_some,Int.zero_add,ea2,eb2,i1,i2
    refine ⟨_,_,dd,rfl,rfl,hc.kp (N1.trans KG),fun H' K'=>?_⟩
    wp_walk
    exact KG.trans K'
   rintro zs G ⟨rfl,KG⟩ l h2
   wp_walk
   refine fun l2 h3=>⟨true,nil_eq ((Kp.new (S:=[]) h3).at upd_same) upd_same,?_⟩
   exact q _ ((N1.trans KG).trans ((Kp.new h2).trans (Kp.new h3)))
theorem ok_lawalike {t:Ad} (T:Tx P w base K mg t):∀ d,FnOk P w K mg base CX0 (d+1) t.alawalike t.dlawalike ["one","other"] (spAlD d)
 | 0=>(no_lawalike T).imp fun vs H Q E ⟨v,u,d',_,hd,h,_⟩=>by subst hd;cases h
 | d+1=>st_lawalike T (ok_lawalike T d)
theorem ok_lawcellat:Ok T T.flawcellat 1 (spCell K):=by
 nomatch T.flawcellat
 ·obtain ⟨a,ns,k,rfl,_⟩:=h
  rfl
 ·obtain ⟨a,ns,k,rfl,hS,hk,q⟩:=h
  nomatch (pss2 (pif (ptc op_lt pv1 (pe_callB call_lenK rfl T.zlen bt_len (pa1 pv0))) (pss_one (ps_ret (pix ix_list pv0 pv1)))) (ps_ret pe_int)),0
  wp_walk
  refine ⟨_,hS,?_⟩
  split
  ·next h =>
   rw [List.length_map] at h
   have hj:k.toNat < ns.length:=by omega
   have ek:k=((k.toNat:Nat):Int):=by omega
   have e:atI (ns.map V.int) ((k.toNat:Nat):Int)=some (.int ns[k.toNat]):=atI_nat (by rw [List.getElem?_map,List.getElem?_eq_getElem hj];rfl)
   rw [← ek] at e
   exact ⟨a,_,k,_,rfl,rfl,hS,e,q _⟩
  ·exact q 0
theorem ok_Ticketsisopen:Ok T T.fTicketsisopen 1 (spTkOpen t.CTickets):=by
 nomatch T.fTicketsisopen
 ·obtain ⟨tk,tx,dp,da,made,pend,ans,w,rfl,_⟩:=h
  rfl
 ·obtain ⟨tk,tx,dp,da,made,pend,ans,w,rfl,R,q⟩:=h
  have hu:=hu_of hr
  nomatch (pss_one (ps_ret (pe_cmp (pc_dinC hu pv1 (pe_fldC T.clTickets T.napending pv0))))),0
  exists R.ins,R.hp,pend_val
  exact q
theorem ok_Runpassesover:Ok T T.fRunpassesover 2 (spOver ⟨t.CRun,t.CWalk,t.CTickets⟩):=by
 nomatch T.fRunpassesover
 ·obtain ⟨R,as,sl,S,v,h,rfl,_⟩:=h
  rfl
 ·obtain ⟨R,as,sl,S,v,h,rfl,A,hn,hH,q⟩:=h
  nomatch (pss_cons (pst 2 (pix ix_c pv1 pe_int)) (pss3 (pif (ptc op_eq (pix ix_c (pe_fldC T.clRun T.nasleep pv0) pe_int) pe_str) (pss_one (ps_ret (pcr op_ne pv2 pe_str)))) (pif (pt_cmpR op_inC (pix ix_c (pe_fldC T.clRun T.nasleep pv0) pe_int) (pe_tup (pa2 pe_str pe_str)) (by with_unfolding_all rfl)) (pss_one (ps_ret pe_bl))) (ps_ret (pe_or (pcr op_eq pv2 pe_str) (pe_one (pe_and (pcr op_eq pv2 pe_str) (pe_one (pe_not (pmt (pe_fldC T.clRun T.natickets pv0) T.clTickets (ok_Ticketsisopen T) T.fTicketsisopen (pa1 (pix ix_c pv1 pe_int))))))))))),0
  obtain ⟨a,rfl,eh⟩:=hH
  cases es:S.sl with
  | non=>rw [es] at hn;cases hn
  | new =>
   have hsl:=A.slp
   rw [es] at hsl
   obtain ⟨p,rfl,ep⟩:=hsl
   cases h with
   | beg m w =>
    simp only [Hap.vs,Hap.ini,Hap.w,List.cons_append,List.nil_append] at eh
    rw [show S.over (.beg m w)=false by simp only [Pu.over,es]] at q
    exists A.ins,eh,ep
    exact q _ Kp.refl
   | don m i w =>
    simp only [Hap.vs,Hap.ini,Hap.w,List.cons_append,List.nil_append] at eh
    rw [show S.over (.don m i w)=true by simp only [Pu.over,es]] at q
    exists A.ins,eh,ep
    exact q _ Kp.refl
   | ltr m k w =>
    simp only [Hap.vs,Hap.ini,Hap.w,List.cons_append,List.nil_append] at eh
    rw [show S.over (.ltr m k w)=true by simp only [Pu.over,es]] at q
    exists A.ins,eh,ep
    exact q _ Kp.refl
  | wait ts =>
   have hsl:=A.slp
   rw [es] at hsl
   obtain ⟨p,p2,rfl,ep,ep2⟩:=hsl
   cases h with
   | beg m w =>
    simp only [Hap.vs,Hap.ini,Hap.w,List.cons_append,List.nil_append] at eh
    rw [show S.over (.beg m w)=true by simp only [Pu.over,es]] at q
    exists A.ins,eh,ep
    refine fun p9 h9=>⟨rfl,by decide +kernel,?_⟩
    rw [if_neg (by decide +kernel)]
    have N9:=Kp.new (S:=[]) (o:=.tup [.str "ended",.str "worn"]) h9
    exists N9.at eh
    exact q _ N9
   | don m i w =>
    simp only [Hap.vs,Hap.ini,Hap.w,List.cons_append,List.nil_append] at eh
    rw [show S.over (.don m i w) = !decide (i∈S.pend) by simp only [Pu.over,es]] at q
    exists A.ins,eh,ep
    refine fun p9 h9=>⟨rfl,by decide +kernel,?_⟩
    rw [if_neg (by decide +kernel)]
    have N9:=Kp.new (S:=[]) (o:=.tup [.str "ended",.str "worn"]) h9
    have A9:=A.kp N9
    have eh9:=N9.at eh
    generalize upd H p9 (.tup [.str "ended",.str "worn"])=G9 at *
    exists A9.ins,A9.tk.ins,eh9
    refine ⟨R.tk,R.tx,R.dp,R.da,_,_,_,some i,rfl,A9.tk,?_⟩
    wp_walk
    rw [show decide (∃ j,j∈S.pend∧(some i:Wo)=some j)=decide (i∈S.pend) by simp]
    exact q _ N9
   | ltr m k0 w =>
    simp only [Hap.vs,Hap.ini,Hap.w,List.cons_append,List.nil_append] at eh
    rw [show S.over (.ltr m k0 w)=false by simp only [Pu.over,es]] at q
    exists A.ins,eh,ep
    refine fun p9 h9=>⟨rfl,by decide +kernel,?_⟩
    rw [if_neg (by decide +kernel)]
    have N9:=Kp.new (S:=[]) (o:=.tup [.str "ended",.str "worn"]) h9
    exists N9.at eh
    exact q _ N9
  | hear k =>
   have hsl:=A.slp
   rw [es] at hsl
   obtain ⟨p,rfl,ep⟩:=hsl
   cases h with
   | beg m w =>
    simp only [Hap.vs,Hap.ini,Hap.w,List.cons_append,List.nil_append] at eh
    rw [show S.over (.beg m w)=true by simp only [Pu.over,es]] at q
    exists A.ins,eh,ep
    refine fun p9 h9=>⟨rfl,by decide +kernel,?_⟩
    rw [if_neg (by decide +kernel)]
    have N9:=Kp.new (S:=[]) (o:=.tup [.str "ended",.str "worn"]) h9
    exists N9.at eh
    exact q _ N9
   | don m i w =>
    simp only [Hap.vs,Hap.ini,Hap.w,List.cons_append,List.nil_append] at eh
    rw [show S.over (.don m i w) = !decide (i∈S.pend) by simp only [Pu.over,es]] at q
    exists A.ins,eh,ep
    refine fun p9 h9=>⟨rfl,by decide +kernel,?_⟩
    rw [if_neg (by decide +kernel)]
    have N9:=Kp.new (S:=[]) (o:=.tup [.str "ended",.str "worn"]) h9
    have A9:=A.kp N9
    have eh9:=N9.at eh
    generalize upd H p9 (.tup [.str "ended",.str "worn"])=G9 at *
    exists A9.ins,A9.tk.ins,eh9
    refine ⟨R.tk,R.tx,R.dp,R.da,_,_,_,some i,rfl,A9.tk,?_⟩
    wp_walk
    rw [show decide (∃ j,j∈S.pend∧(some i:Wo)=some j)=decide (i∈S.pend) by simp]
    exact q _ N9
   | ltr m k0 w =>
    simp only [Hap.vs,Hap.ini,Hap.w,List.cons_append,List.nil_append] at eh
    rw [show S.over (.ltr m k0 w)=false by simp only [Pu.over,es]] at q
    exists A.ins,eh,ep
    refine fun p9 h9=>⟨rfl,by decide +kernel,?_⟩
    rw [if_neg (by decide +kernel)]
    have N9:=Kp.new (S:=[]) (o:=.tup [.str "ended",.str "worn"]) h9
    exists N9.at eh
    exact q _ N9
  | ended w =>
   have hsl:=A.slp
   rw [es] at hsl
   obtain ⟨p,rfl,ep⟩:=hsl
   have e0:∃(kd:Str) (xs:List V),H a=some (.tup (.str kd::xs)):=by cases h<;>exact ⟨_,_,eh⟩
   obtain ⟨kd,xs,e0⟩:=e0
   rw [show S.over (h)=true by simp only [Pu.over,es]] at q
   exists A.ins,e0,ep
   refine fun p9 h9=>⟨rfl,by decide +kernel,?_⟩
   rw [if_pos (by decide +kernel)]
   exact q _ (Kp.new h9)
  | worn =>
   have hsl:=A.slp
   rw [es] at hsl
   obtain ⟨p,rfl,ep⟩:=hsl
   have e0:∃(kd:Str) (xs:List V),H a=some (.tup (.str kd::xs)):=by cases h<;>exact ⟨_,_,eh⟩
   obtain ⟨kd,xs,e0⟩:=e0
   rw [show S.over (h)=true by simp only [Pu.over,es]] at q
   exists A.ins,e0,ep
   refine fun p9 h9=>⟨rfl,by decide +kernel,?_⟩
   rw [if_pos (by decide +kernel)]
   exact q _ (Kp.new h9)
theorem ok_Walkpassby:Ok T T.fWalkpassby 1 (spWkPass t.CWalk):=by
 nomatch T.fWalkpassby
 ·obtain ⟨wk,wx,lb,ln,k,n,b,r,rfl,_⟩:=h
  rfl
 ·obtain ⟨wk,wx,lb,ln,k,n,b,r,rfl,W,q⟩:=h
  nomatch (pss_one (ps_augS (pe_fldC T.clWalk T.nanumbers pv0) (pe_un un_neg pe_int) get_c pe_int ip_addC set_c)),0
  obtain ⟨vs,eb,hB⟩:=W.bl
  obtain ⟨l,el,el2⟩:=nums_last k n b r
  have en:=W.nu
  rw [el] at en
  have i2:atI ((l++[(n:Int)]).map V.int) (-1)=some (.int n):=by rw [List.map_append];exact atI_last _ _
  have i3:ixN ((l++[(n:Int)]).map V.int).length (-1)=some l.length:=by
   unfold ixN
   simp
   omega
  have i4:((l++[(n:Int)]).map V.int).set l.length (.int ((n:Int)+1))=(l++[((n+1:Nat):Int)]).map V.int:=by simp
  exists W.ins,en,i2,i3,i4
  have n1:wk≠ln:=ne_of W.ins W.nu (by intro z;cases z)
  have K1:Kp [ln] H (upd H ln (.lst ((l++[((n+1:Nat):Int)]).map V.int))):=Kp.set1J
  have T1:TupKp H (upd H ln (.lst ((l++[((n+1:Nat):Int)]).map V.int))):=fun a xs e=>by rw [upd_ne (ne_of e W.nu (by intro z;cases z))];exact e
  exact q _ ⟨by rw [upd_ne n1];exact W.ins,⟨vs,by rw [upd_ne W.ne];exact eb,(hB.kp T1).turn⟩,by rw [upd_same,el2],W.ne,W.few⟩ K1
theorem ok_Walkstandsat:Ok T T.fWalkstandsat 1 (spWkStands t.CWalk):=by
 nomatch T.fWalkstandsat
 ·obtain ⟨wk,wx,lb,ln,k,n,b,r,m,rfl,_⟩:=h
  rfl
 ·obtain ⟨wk,wx,lb,ln,k,n,b,r,m,rfl,W,hm,q⟩:=h
  nomatch (pss_one (ps_ret (pix ix_c (pix ix_c (pe_fldC T.clWalk T.nablocks pv0) (pe_un un_neg pe_int)) (pix ix_c (pe_fldC T.clWalk T.nanumbers pv0) (pe_un un_neg pe_int))))),0
  obtain ⟨vs,eb,hB⟩:=W.bl
  obtain ⟨ws,p,us,rfl,ep,hU,_,_⟩:=hB.last
  obtain ⟨l,el,_⟩:=nums_last k n b r
  have en:=W.nu
  rw [el] at en
  have hn:n < us.length:=by
   have:=(List.getElem?_eq_some_iff.mp hm).1
   have:=hU.len
   omega
  obtain ⟨m',hm',hM⟩:=hU.at (List.getElem?_eq_getElem hn)
  rw [hm] at hm'
  cases hm'
  have i1:atI (ws++[V.ref p]) (-1)=some (.ref p):=atI_last _ _
  have i2:atI ((l++[(n:Int)]).map V.int) (-1)=some (.int n):=by rw [List.map_append];exact atI_last _ _
  have i3:atI us (n:Int)=some us[n]:=atI_nat (List.getElem?_eq_getElem hn)
  exists W.ins,eb,en,i1,i2,ep,i3
  exact q _ hM
theorem ok_Walkleave:Ok T T.fWalkleave 2 (spWkLeave t.CWalk):=by
 nomatch T.fWalkleave
 ·obtain ⟨wk,wx,lb,ln,k,n,b,x,r,m,rfl,_⟩:=h
  rfl
 ·obtain ⟨wk,wx,lb,ln,k,n,b,⟨kx,bx,nx⟩,r,m,rfl,W,hm,q⟩:=h
  nomatch (pss_cons (ps_expr (pe_popC (pe_fldC T.clWalk T.nablocks pv0))) (pss3 (ps_expr (pe_popC (pe_fldC T.clWalk T.nanumbers pv0))) (ps_expr (pe_popC (pe_fldC T.clWalk T.nanumbers pv0))) (pif (ptc op_eq (pix ix_c (pmt0 pv0 T.clWalk (ok_Walkstandsat T) T.fWalkstandsat) pe_int) pe_str) (pss_one (ps_expr (pmt0 pv0 T.clWalk (ok_Walkpassby T) T.fWalkpassby)))))),0
  obtain ⟨vs,eb,hB⟩:=W.bl
  have n1:wk≠ln:=ne_of W.ins W.nu (by intro z;cases z)
  have n2:wk≠lb:=ne_of W.ins eb (by intro z;cases z)
  obtain ⟨ws,p,us,rfl,ep,hU,hBr,_⟩:=hB.last
  have hB2:=hBr (by simp)
  have nu0:H ln=some (.lst (((numsOf ((k,b,n)::r)).map V.int++[.int kx])++[.int nx])):=by rw [W.nu,nums_push];simp
  have few:=W.few
  simp only [List.length_cons] at few
  left
  exists W.ins,eb,last_snoc,List.dropLast_concat
  have T1:=TupKp.setL (ys:=ws) eb
  have i1:upd H lb (.lst ws) wk=some (.ins t.CWalk wx [("blocks",.ref lb),("numbers",.ref ln)]):=by rw [upd_ne n2];exact W.ins
  have i2:upd H lb (.lst ws) ln=some (.lst (((numsOf ((k,b,n)::r)).map V.int++[.int kx])++[.int nx])):=by rw [upd_ne W.ne.symm];exact nu0
  have i3:upd H lb (.lst ws) lb=some (.lst ws):=upd_same
  have K1:Kp [lb] H (upd H lb (.lst ws)):=Kp.set1J
  have B1:=hB2.kp T1
  generalize upd H lb (.lst ws)=G at *
  right
  left
  exists i1,i2,last_snoc,List.dropLast_concat
  have T2:=TupKp.setL (ys:=(numsOf ((k,b,n)::r)).map V.int++[.int kx]) i2
  have j1:upd G ln (.lst ((numsOf ((k,b,n)::r)).map V.int++[.int kx])) wk=some (.ins t.CWalk wx [("blocks",.ref lb),("numbers",.ref ln)]):=by rw [upd_ne n1];exact i1
  have j2:upd G ln (.lst ((numsOf ((k,b,n)::r)).map V.int++[.int kx])) ln=some (.lst ((numsOf ((k,b,n)::r)).map V.int++[.int kx])):=upd_same
  have j3:upd G ln (.lst ((numsOf ((k,b,n)::r)).map V.int++[.int kx])) lb=some (.lst ws):=by rw [upd_ne W.ne];exact i3
  have K2:Kp [ln] G (upd G ln (.lst ((numsOf ((k,b,n)::r)).map V.int++[.int kx]))):=Kp.set1J
  have B2:=B1.kp T2
  generalize upd G ln (.lst ((numsOf ((k,b,n)::r)).map V.int++[.int kx]))=G2 at *
  right
  left
  exists j1,j2,last_snoc,List.dropLast_concat
  have T3:=TupKp.setL (ys:=(numsOf ((k,b,n)::r)).map V.int) j2
  have W3:WkAt t.CWalk (upd G2 ln (.lst ((numsOf ((k,b,n)::r)).map V.int))) wk wx lb ln ((k,b,n)::r):=⟨by rw [upd_ne n1];exact j1,⟨ws,by rw [upd_ne W.ne];exact j3,B2.kp T3⟩,upd_same,W.ne,by simp only [List.length_cons];omega⟩
  have K3:Kp [ln] G2 (upd G2 ln (.lst ((numsOf ((k,b,n)::r)).map V.int))):=Kp.set1J
  generalize upd G2 ln (.lst ((numsOf ((k,b,n)::r)).map V.int))=G3 at *
  right
  have K13:Kp [lb,ln] H G3:=((K1.mono (by simp)).trans (K2.mono (by simp))).trans (K3.mono (by simp))
  exists W3.ins
  refine ⟨wk,wx,lb,ln,k,n,b,r,m,rfl,W3,hm,fun v hv=>?_⟩
  obtain ⟨a,kd,xs,rfl,ea,hk⟩:=hv.kind0
  exists ea
  by_cases hi:m.isIf=true
  ·rw [hi] at hk q
   have hkd:kd = "if":=by simpa using hk
   subst hkd
   exists W3.ins
   exact ⟨wk,wx,lb,ln,k,n,b,r,rfl,W3,fun H4 W4 K4=>q H4 W4 (K13.trans (K4.mono (by simp)))⟩
  ·have hi':m.isIf=false:=by simpa using hi
   rw [hi'] at hk q
   have hkd:(kd = "if")=False:=by simpa using hk
   exists hkd
   exact q G3 W3 K13
theorem ok_Walkcometo:Ok T T.fWalkcometo 3 (spWkCome t.CWalk):=by
 nomatch T.fWalkcometo
 ·obtain ⟨wk,wx,lb,ln,st,rfl,_⟩:=h
  rfl
 ·obtain ⟨wk,wx,lb,ln,st,rfl,W0,ok0,q0,q1⟩:=h
  nomatch (pss2 (ps_while PassesOwn.never (ptc op_eq (pix ix_c (pe_fldC T.clWalk T.nanumbers pv0) (pe_un un_neg pe_int)) (pe_callB call_lenC rfl T.zlen bt_len (pa1 (pix ix_c (pe_fldC T.clWalk T.nablocks pv0) (pe_un un_neg pe_int))))) (pss2 (pif (ptc op_eq (pe_callB call_lenC rfl T.zlen bt_len (pa1 (pe_fldC T.clWalk T.nablocks pv0))) pe_int) (pss_one (ps_ret pe_non))) (ps_expr (pmt0 pv0 T.clWalk (ok_Walkleave T) T.fWalkleave)))) (ps_ret (pmt0 pv0 T.clWalk (ok_Walkstandsat T) T.fWalkstandsat))),0
  obtain ⟨Y,hV⟩:∃ Y:Nat→St→Hp→Prop,∀ m σ G,Y m σ G = ∃ st':Stk,σ=[some (.ref wk)]∧WkAt t.CWalk G wk wx lb ln st'∧StkOk st'∧comeTo st'=comeTo st∧m=st'.length∧Kp [lb,ln] H G:=⟨_,fun _ _ _=>rfl⟩
  try simp only [L2.start,List.map_cons,List.map_nil,List.length_cons,List.length_nil,Nat.reduceAdd,Nat.reduceSub,List.replicate_zero,List.append_nil]
  refine ⟨Y,⟨st.length,?_⟩,?_⟩
  ·rw [hV]
   exact ⟨st,rfl,W0,ok0,rfl,rfl,Kp.refl⟩
  intro m σ G hG
  rw [hV] at hG
  obtain ⟨st',rfl,W,ok,hct,rfl,KG⟩:=hG
  have back:∀(st2:Stk) (G2:Hp),WkAt t.CWalk G2 wk wx lb ln st2→StkOk st2→comeTo st2=comeTo st→st2.length < st'.length→Kp [lb,ln] H G2→∃ m',m' < st'.length∧Y m' [some (.ref wk)] G2:=fun st2 G2 a b c d e=>by
   refine ⟨st2.length,d,?_⟩
   rw [hV]
   exact ⟨st2,rfl,a,b,c,rfl,e⟩
  clear hV
  match st',ok with
  | (k,b,n)::r,ok =>
   obtain ⟨vs,eb,hB⟩:=W.bl
   obtain ⟨ws,p,us,rfl,ep,hU,hBr,hBn⟩:=hB.last
   obtain ⟨l,el,_⟩:=nums_last k n b r
   have en:=W.nu
   rw [el] at en
   have i1:atI (ws++[V.ref p]) (-1)=some (.ref p):=atI_last _ _
   have i2:atI ((l++[(n:Int)]).map V.int) (-1)=some (.int n):=by rw [List.map_append];exact atI_last _ _
   have lu:=hU.len
   have lw:=hB.len
   exists W.ins,eb,en,i1,i2,ep
   by_cases hn:n=b.length
   ·rw [if_pos (by omega)]
    exists W.ins,eb,en
    refine ⟨fun σ' G'=>∃ m',m' < r.length+1∧Y m' σ' G',fun _ _ z=>z,?_⟩
    match r,ok,W,hct,back,hBn,lw with
    | [],ok,W,hct,back,hBn,lw =>
     have e0:comeTo st=[(k,b,n)]:=by rw [← hct];simp [comeTo]
     rw [if_pos (by have:=lw.1;simp only [List.length_cons,List.length_nil] at this;omega)]
     exact q0 G (by rw [e0];exact W) (by rw [e0];exact ok) (by rw [e0];simp [stand,hn]) KG
    | (k2,b2,n2)::r,ok,W,hct,back,hBn,lw =>
     rw [if_neg (by have:=lw.1;simp only [List.length_cons] at this;omega)]
     have h2:n2 < b2.length:=ok.2 (k2,b2,n2) (by simp)
     have hm:b2[n2]?=some b2[n2]:=List.getElem?_eq_getElem h2
     have ho:offIf b2 n2=if (b2[n2]).isIf=true then n2+1 else n2:=by unfold offIf;rw [hm]
     refine ⟨wk,wx,lb,ln,k2,n2,b2,(k,b,n),r,b2[n2],rfl,W,hm,fun H' W' K'=>?_⟩
     rw [← ho] at W'
     refine back _ H' W' ⟨offIf_le h2,fun x hx=>ok.2 x (List.mem_cons_of_mem _ hx)⟩ ?_ (by simp) (Kp.trans KG K')
     rw [← hct]
     conv=>rhs;rw [comeTo]
     rw [if_pos hn]
   ·rw [if_neg (by omega)]
    have h2:n < b.length:=by have:=ok.1;omega
    have hm:b[n]?=some b[n]:=List.getElem?_eq_getElem h2
    have e0:comeTo st=(k,b,n)::r:=by
     rw [← hct]
     cases r with
     | nil=>simp [comeTo]
     | cons x r=>obtain ⟨k2,b2,n2⟩:=x;simp [comeTo,hn]
    exact ⟨wk,wx,lb,ln,k,n,b,r,b[n],rfl,W,hm,fun v hv=>q1 b[n] v G (by rw [e0];exact W) (by rw [e0];exact ok) (by rw [e0];exact hm) hv KG⟩
theorem ok_Ticketsshutall:Ok T T.fTicketsshutall 1 (spTkAll t.CTickets):=by
 nomatch T.fTicketsshutall
 ·obtain ⟨tk,tx,dp,da,made,pend,ans,rfl,_⟩:=h
  rfl
 ·obtain ⟨tk,tx,dp,da,made,pend,ans,rfl,R,q⟩:=h
  nomatch (pss_one (ps_expr (pe_dclear (pe_fldC T.clTickets T.napending pv0)))),0
  exists R.ins,R.hp
  have n1:=R.n1
  exact q _ ⟨by rw [upd_ne n1.1];exact R.ins,upd_same,by rw [upd_ne R.nda.symm];exact R.ha,R.nda,by simp,.nil,R.la,by simp,R.small⟩ Kp.set1J
theorem ok_Runend:Ok T T.fRunend 2 (spEndR ⟨t.CRun,t.CWalk,t.CTickets⟩):=by
 nomatch T.fRunend
 ·obtain ⟨R,as,sl,S,w,rfl,_⟩:=h
  rfl
 ·obtain ⟨R,as,sl,S,w,rfl,A,q⟩:=h
  nomatch (pss3 (ps_fldC T.clRun T.nasleep pv0 (pe_tup (pa2 pe_str pv1))) (ps_expr (pmt0 (pe_fldC T.clRun T.natickets pv0) T.clTickets (ok_Ticketsshutall T) T.fTicketsshutall)) (ps_ret (pe_lst (pa1 (pe_tup (pa2 pe_str pv1)))))),0
  left
  exists A.ins
  refine fun p hp=>?_
  have N1:=Kp.new (S:=[]) (o:=.tup [.str "ended",wv w]) hp
  have e1:upd H p (.tup [.str "ended",wv w]) p=some (.tup [.str "ended",wv w]):=upd_same
  have A1:=A.kp N1
  exists N1.at A.ins
  have A2:=A1.attr (.ref p) (.ended w) S.ar S.nw ⟨p,rfl,e1⟩
  have F2:=(Fw.of (R:=R) (as:=as) N1).trans (Fw.set (p:=R.x) (o:=(insZ t.CRun R (.ref p) S.ar S.nw)) (.inl (by simp [Rn.cells])))
  generalize upd (upd H p (.tup [.str "ended",wv w])) R.x (insZ t.CRun R (.ref p) S.ar S.nw)=G2 at *
  right
  left
  exists A2.ins,A2.tk.ins
  refine ⟨R.tk,R.tx,R.dp,R.da,_,_,_,rfl,A2.tk,fun H3 T3 K3=>?_⟩
  have K4:Kp [R.tk,R.dp,R.da] G2 H3:=K3.mono (by simp;try omega)
  have A3:=A2.tick T3 K4
  have F3:=F2.trans (A2.ftick T3 K4)
  wp_walk
  right
  wp_walk
  refine fun p3 h3 c h4=>?_
  have N3:=(Kp.new (S:=[]) (o:=.tup [.str "end",wv w]) h3).trans (Kp.new (o:=.lst [.ref p3]) h4)
  exact q _ c [.ref p3] _ (A3.kp N3) (F3.free (none_upd h4)) upd_same (.cons ((Kp.new (S:=[]) h4).at upd_same) .nil) (F3.trans (Fw.of N3))
theorem ok_Runwearout:Ok T T.fRunwearout 2 (spWear ⟨t.CRun,t.CWalk,t.CTickets⟩):=by
 nomatch T.fRunwearout
 ·obtain ⟨R,as,sl,S,rfl,_⟩:=h
  rfl
 ·obtain ⟨R,as,sl,S,rfl,A,q⟩:=h
  nomatch (pss3 (ps_fldC T.clRun T.nasleep pv0 (pe_tup (pa1 pe_str))) (ps_expr (pmt0 (pe_fldC T.clRun T.natickets pv0) T.clTickets (ok_Ticketsshutall T) T.fTicketsshutall)) (ps_ret (pe_lst (pa1 (pe_tup (pa1 pe_str)))))),0
  left
  exists A.ins
  refine fun p hp=>?_
  have N1:=Kp.new (S:=[]) (o:=.tup [.str "worn"]) hp
  have e1:upd H p (.tup [.str "worn"]) p=some (.tup [.str "worn"]):=upd_same
  have A1:=A.kp N1
  exists N1.at A.ins
  have A2:=A1.attr (.ref p) (.worn) S.ar S.nw ⟨p,rfl,e1⟩
  have F2:=(Fw.of (R:=R) (as:=as) N1).trans (Fw.set (p:=R.x) (o:=(insZ t.CRun R (.ref p) S.ar S.nw)) (.inl (by simp [Rn.cells])))
  generalize upd (upd H p (.tup [.str "worn"])) R.x (insZ t.CRun R (.ref p) S.ar S.nw)=G2 at *
  right
  left
  exists A2.ins,A2.tk.ins
  refine ⟨R.tk,R.tx,R.dp,R.da,_,_,_,rfl,A2.tk,fun H3 T3 K3=>?_⟩
  have K4:Kp [R.tk,R.dp,R.da] G2 H3:=K3.mono (by simp;try omega)
  have A3:=A2.tick T3 K4
  have F3:=F2.trans (A2.ftick T3 K4)
  wp_walk
  right
  wp_walk
  refine fun p3 h3 c h4=>?_
  have N3:=(Kp.new (S:=[]) (o:=.tup [.str "worn"]) h3).trans (Kp.new (o:=.lst [.ref p3]) h4)
  exact q _ c [.ref p3] _ (A3.kp N3) (F3.free (none_upd h4)) upd_same (.cons ((Kp.new (S:=[]) h4).at upd_same) .nil) (F3.trans (Fw.of N3))
theorem ok_numberof:Ok T T.fnumberof 1 spNum:=by
 nomatch T.fnumberof
 ·obtain ⟨w,rfl,_⟩:=h
  rfl
 ·obtain ⟨w,rfl,q⟩:=h
  nomatch (pss_one (ps_ret (pe_ifExp (ptc op_isC pv0 pe_non) pe_int pv0))),0
  exists wv_non
  cases w with
  | none=>exact q
  | some n=>exact q
theorem ok_kept:Ok T T.fkept 1 spKept:=by
 nomatch T.fkept
 ·obtain ⟨n,rfl,_⟩:=h
  rfl
 ·obtain ⟨n,rfl,q⟩:=h
  nomatch (pss_one (ps_ret (pe_callB (call_maxC rfl) rfl T.zmax bt_max (pa2 (pe_un un_neg (pe_glob (v:=.int 1000000000) rfl T.cGREATESTWORTH ⟨_,rfl⟩)) (pe_callB (call_minC rfl) rfl T.zmin bt_min (pa2 (pe_glob (v:=.int 1000000000) rfl T.cGREATESTWORTH ⟨_,rfl⟩) pv0)))))),0
  wp_walk
  exact q
theorem ok_oneornought:Ok T T.foneornought 1 spOne:=by
 nomatch T.foneornought
 ·obtain ⟨b,rfl,_⟩:=h
  rfl
 ·obtain ⟨b,rfl,q⟩:=h
  nomatch (pss_one (ps_ret (pe_ifExp (pt_val pv0) pe_int pe_int))),0
  wp_walk
  cases b<;>exact q
theorem ok_joined:Ok T T.fjoined 2 spJoined:=by
 nomatch T.fjoined
 ·obtain ⟨g,a,b,rfl,_⟩:=h
  rfl
 ·obtain ⟨g,a,b,rfl,ha,q⟩:=h
  nomatch (pss_cons (pif (ptc op_eq pv0 pe_str) (pss_one (ps_ret (pcl (ok_oneornought T) T.foneornought (pa1 (pcr op_eq pv1 pv2)))))) (pss_cons (pst 3 (pcl (ok_numberof T) T.fnumberof (pa1 pv1))) (pss_cons (pst 4 (pcl (ok_numberof T) T.fnumberof (pa1 pv2))) (pss_cons (pif (ptc op_eq pv0 pe_str) (pss_one (ps_ret (pcl (ok_oneornought T) T.foneornought (pa1 (pcr op_lt pv3 pv4)))))) (pss3 (pif (ptc op_eq pv0 pe_str) (pss_one (ps_ret (pcl (ok_kept T) T.fkept (pa1 (pe_op op_addC pv3 pv4)))))) (pif (ptc op_eq pv0 pe_str) (pss_one (ps_ret (pcl (ok_kept T) T.fkept (pa1 (pe_op op_sub pv3 pv4)))))) (ps_ret (pcl (ok_kept T) T.fkept (pa1 (pe_op op_mul pv3 pv4))))))))),0
  have b1:=isWo_num ha
  cases g with
  | eq =>
   exists Sg.s
   have sc0:scal .non .non=true:=rfl
   have sc1:∀ i,scal .non (.int i)=true:=fun _=>rfl
   have sc2:∀ i,scal (.int i) .non=true:=fun _=>rfl
   have sc3:∀ i j,scal (.int i) (.int j)=true:=fun _ _=>rfl
   cases a with
   | none=>cases b with
    | none=>simpa [rEq,sc0,sc1,sc2,sc3,wv,q_one,Sg.of] using q
    | some n=>simpa [rEq,sc0,sc1,sc2,sc3,wv,q_one,Sg.of] using q
   | some m=>cases b with
    | none=>simpa [rEq,sc0,sc1,sc2,sc3,wv,q_one,Sg.of] using q
    | some n=>simpa [rEq,sc0,sc1,sc2,sc3,wv,q_one,Sg.of] using q
  | lt =>
   exists Sg.s,decide_eq_true_eq
   exact q
  | add =>
   exists Sg.s
   exact q
  | sub =>
   exists Sg.s
   exact q
  | mul =>
   exists Sg.s
   exact ⟨mulOk (by omega) (by omega),q⟩
theorem st_worthof {n d:Nat} (hn:3≤n) (IH:FnOk P w K mg base CX0 n t.aworthof t.dworthof ["saying","names","arg","now","answers"] (spWo d)):Ok T T.fworthof (n+1) (spWo (d+1)):=by
  nomatch T.fworthof
  · obtain ⟨v,dn,da,p,s,rfl,_⟩:=h
    rfl
  · obtain ⟨v,dn,da,p,s,rfl,hS,hd,hok,hN,hA,hP,q⟩:=h
    have hu:=hu_of hr
    nomatch (pss_cons (pst 5 (pix ix_c pv0 pe_int)) (pss_cons (pif (ptc op_eq pv5 pe_str) (pss_one (ps_ret (pix ix_c pv0 pe_int)))) (pss_cons (pif (ptc op_eq pv5 pe_str) (pss_one (ps_ret pe_non))) (pss_cons (pif (ptc op_eq pv5 pe_str) (pss_one (ps_ret (pe_getC hu pv1 (pix ix_c pv0 pe_int) ⟨rfl,rfl,rfl,rfl⟩)))) (pss_cons (pif (ptc op_eq pv5 pe_str) (pss_one (ps_ret pv2))) (pss_cons (pif (ptc op_eq pv5 pe_str) (pss_one (ps_ret (pcl (ok_kept T) T.fkept (pa1 pv3))))) (pss_cons (pst 6 (pcl IH T.fworthof (pa_n (pix ix_c pv0 pe_int) (pa_n pv1 (pa3 pv2 pv3 pv4))))) (pss_cons (pif (ptc op_eq pv5 pe_str) (pss_one (ps_ret (pe_getC hu pv4 pv6 ⟨rfl,rfl,rfl,rfl⟩)))) (pss3 (pif (ptc op_eq pv5 pe_str) (pss_one (ps_ret (pcl (ok_oneornought T) T.foneornought (pa1 (pcr op_eq (pcl (ok_numberof T) T.fnumberof (pa1 pv6)) pe_int)))))) (pst 7 (pcl IH T.fworthof (pa_n (pix ix_c pv0 pe_int) (pa_n pv1 (pa3 pv2 pv3 pv4))))) (ps_ret (pcl (ok_joined T) T.fjoined (pa3 pv5 pv6 pv7)))))))))))),0
    cases hS with
    | num e =>
      exists e
      exact q
    | non e =>
      exists e
      exact q
    | name e =>
      obtain ⟨kvs,ek,hk⟩:=hN
      exists e,ek,hk
      exact q
    | arg e =>
      exists e
      exact q
    | now e =>
      exists e
      exact q
    | ans e h1 =>
      exists e
      simp only [Say.depth] at hd
      refine ⟨_,_,_,p,_,rfl,h1,by omega,hok,hN,hA,hP,?_⟩
      obtain ⟨kvs,ek,hk⟩:=hA
      exists e,ek,hk
      exact q
    | neg e h1 =>
      exists e
      simp only [Say.depth] at hd
      refine ⟨_,_,_,p,_,rfl,h1,by omega,hok,hN,hA,hP,?_⟩
      exists e,decide_eq_true_eq
      exact q
    | @two a v u g s1 s2 e h1 h2 =>
      simp only [Say.depth] at hd
      cases g <;>
      ( exists e,Sg.s
        refine ⟨_,_,_,p,_,rfl,h1,by omega,hok.1,hN,hA,hP,?_⟩
        exists e,Sg.s
        refine ⟨_,_,_,p,_,rfl,h2,by omega,hok.2,hN,hA,hP,?_⟩
        exists e,Sg.s
        exact ⟨_,_,_,rfl,ev_wo hP hok.1,q⟩)
theorem ok_worthof {t:Ad} (T:Tx P w base K mg t):∀ d,FnOk P w K mg base CX0 (d+3) t.aworthof t.dworthof ["saying","names","arg","now","answers"] (spWo d):=by
 intro d
 induction d with
 | zero=>exact ⟨fun _ _ _ _ x=>by (obtain ⟨_,_,_,_,s,_,_,h,_⟩:=x;exact absurd h (by have:=s.depth_pos;omega)),fun _ _ _ _ _ _ _ _ _ _ _ _ _ x=>by (obtain ⟨_,_,_,_,s,_,_,h,_⟩:=x;exact absurd h (by have:=s.depth_pos;omega))⟩
 | succ d ih=>exact st_worthof T (by omega) ih
theorem ok_Runworth:Ok T T.fRunworth 10 (spWorthR ⟨t.CRun,t.CWalk,t.CTickets⟩):=by
 nomatch T.fRunworth
 ·obtain ⟨R,as,sl,S,v,s,rfl,_⟩:=h
  rfl
 ·obtain ⟨R,as,sl,S,v,s,rfl,A,ok,hS,so,q⟩:=h
  nomatch (pss_one (ps_ret (pcl (ok_worthof T 6) T.fworthof (pa_n pv1 (pa_n (pe_fldC T.clRun T.nanames pv0) (pa3 (pe_fldC T.clRun T.naarg pv0) (pe_fldC T.clRun T.nanow pv0) (pe_fldC T.clTickets T.naanswers (pe_fldC T.clRun T.natickets pv0)))))))),0
  exists A.ins,A.tk.ins
  exact ⟨v,R.nm,R.da,S.pl,s,rfl,hS,so.2,so.1,⟨_,A.nm,nmK_val S.nm⟩,⟨_,A.tk.ha,ansK_val S.ans⟩,ok,q⟩
theorem ok_Walkenter:Ok T T.fWalkenter 2 (spWkEnter t.CWalk):=by
 nomatch T.fWalkenter
 ·obtain ⟨wk,wx,lb,ln,k,n,c,b,bb,r,m,rfl,_⟩:=h
  rfl
 ·obtain ⟨wk,wx,lb,ln,k,n,c,b,bb,r,m,rfl,W,hm,hs,hr90,q⟩:=h
  nomatch (pss2 (ps_expr (pe_appC (pe_fldC T.clWalk T.nablocks pv0) (pix ix_c (pmt0 pv0 T.clWalk (ok_Walkstandsat T) T.fWalkstandsat) (pe_op op_addC pe_int pv1)))) (ps_expr (pe_lm PySem.F.slot_list_extend PySem.F.type_list_extend mt_extC (pe_fldC T.clWalk T.nanumbers pv0) (pa1 (pe_lst (pa2 pv1 pe_int)))))),0
  obtain ⟨vs,eb,hB⟩:=W.bl
  have n1:wk≠ln:=ne_of W.ins W.nu (by intro z;cases z)
  have n2:wk≠lb:=ne_of W.ins eb (by intro z;cases z)
  have lv:=hB.len
  exists W.ins,eb
  refine ⟨wk,wx,lb,ln,k,n,b,r,m,rfl,W,hm,fun v hv=>?_⟩
  obtain ⟨a,p,xs,us,rfl,ea,hat,ep,hU⟩:=hv.subAt hs
  exists ea,hat,eb
  have lf:=W.few
  simp only [List.length_cons] at lv lf
  refine ⟨by omega,?_⟩
  have T1:=TupKp.setL (ys:=vs++[V.ref p]) eb
  have i1:upd H lb (.lst (vs++[.ref p])) wk=some (.ins t.CWalk wx [("blocks",.ref lb),("numbers",.ref ln)]):=by rw [upd_ne n2];exact W.ins
  have i2:upd H lb (.lst (vs++[.ref p])) ln=some (.lst ((numsOf ((k,b,n)::r)).map V.int)):=by rw [upd_ne W.ne.symm];exact W.nu
  have i3:upd H lb (.lst (vs++[.ref p])) lb=some (.lst (vs++[.ref p])):=upd_same
  have K1:Kp [lb] H (upd H lb (.lst (vs++[.ref p]))):=Kp.set1J
  have B1:=hB.kp T1
  have U1:=hU.kp T1
  have p1:=T1 _ _ ep
  generalize upd H lb (.lst (vs++[.ref p]))=G at *
  exists i1,i2
  refine fun l0 f0=>?_
  have N0:=Kp.new (S:=[]) (o:=.lst [.int c,.int 0]) f0
  exists N0.at i2,List.length_map
  have ll:=nums_len ((k,b,n)::r)
  simp only [List.length_cons] at ll
  refine ⟨by omega,?_⟩
  have nl0:ln≠l0:=ne_of_none i2 f0
  have nb0:lb≠l0:=ne_of_none i3 f0
  have nw0:wk≠l0:=ne_of_none i1 f0
  have T2:TupKp G (upd (upd G l0 (.lst [.int c,.int 0])) ln (.lst ((numsOf ((k,b,n)::r)).map V.int++[.int c,.int 0]))):=(TupKp.nil N0).tr (TupKp.setL (N0.at i2))
  refine q _ ⟨by rw [upd_ne n1,upd_ne nw0];exact i1,⟨_,by rw [upd_ne W.ne,upd_ne nb0];exact i3,.cons (B1.kp T2) (T2 _ _ p1) (U1.kp T2)⟩,by rw [upd_same,nums_push];simp,W.ne,by simp only [List.length_cons];omega⟩ ?_
  intro d o ed nd
  simp only [List.mem_cons,List.not_mem_nil,or_false,not_or] at nd
  have g1:=K1.at1 ed nd.1
  rw [upd_ne nd.2,upd_ne (ne_of_none g1 f0)]
  exact g1
theorem ok_Runlook:Ok T T.fRunlook 11 (spLookR ⟨t.CRun,t.CWalk,t.CTickets⟩ false):=by
 nomatch T.fRunlook
 ·obtain ⟨R,as,sl,S,a,m,N,rfl,_⟩:=h
  rfl
 ·obtain ⟨R,as,sl,S,a,m,N,rfl,A,hs,hB,F,g,hst,q⟩:=h
  nomatch (pss_one (ps_if (pt_cmpR op_notInC (pmt pv0 T.clRun (ok_Runworth T) T.fRunworth (pa1 (pix ix_c pv1 pe_int))) (pe_tup (pa2 pe_non pe_int)) (by with_unfolding_all rfl)) (pss_one (ps_expr (pmt (pe_fldC T.clRun T.nawalk pv0) T.clWalk (ok_Walkenter T) T.fWalkenter (pa1 pe_int)))) (pss_one (ps_if (ptc op_eq (pix ix_c pv1 pe_int) pe_str) (pss_one (ps_expr (pmt (pe_fldC T.clRun T.nawalk pv0) T.clWalk (ok_Walkenter T) T.fWalkenter (pa1 pe_int)))) (pss_one (ps_expr (pmt0 (pe_fldC T.clRun T.nawalk pv0) T.clWalk (ok_Walkpassby T) T.fWalkpassby))))))),0
  obtain ⟨k0,b0,n0,r0,est,hm0⟩:=stand_cons hst
  have d0:=F.sk.dp
  rw [est] at d0
  have hr90:r0.length≤90:=by have:=d0.1;omega
  have enter:∀(G:Hp) (_:RunAt ⟨t.CRun,t.CWalk,t.CTickets⟩ G R as sl S) (_:Fw R as as H G) (c:Nat) (bb:List Stm),m.sub c=some bb→(∀ H',RunAt ⟨t.CRun,t.CWalk,t.CTickets⟩ H' R as sl (S.enter c bb)→Fw R as as H H'→Q .non H')→spWkEnter t.CWalk [.ref R.wk,.int (c:Int)] G (fun _ H1=>Q .non H1) E0:=fun G A FG c bb hsub q=>by
   have W:=A.wk
   rw [est] at W
   refine ⟨R.wk,R.wx,R.lb,R.ln,k0,n0,c,b0,bb,r0,m,rfl,W,hm0,hsub,hr90,fun H1 W1 K1=>?_⟩
   rw [← est] at W1
   exact q H1 (A.walk W1 K1) (FG.trans (A.fwalk W1 K1))
  have pass:∀(G:Hp) (_:RunAt ⟨t.CRun,t.CWalk,t.CTickets⟩ G R as sl S) (_:Fw R as as H G),(∀ H',RunAt ⟨t.CRun,t.CWalk,t.CTickets⟩ H' R as sl S.pass→Fw R as as H H'→Q .non H')→spWkPass t.CWalk [.ref R.wk] G (fun _ H1=>Q .non H1) E0:=fun G A FG q=>by
   have W:=A.wk
   rw [est] at W
   refine ⟨R.wk,R.wx,R.lb,R.ln,k0,n0,b0,r0,rfl,W,fun H1 W1 K1=>?_⟩
   have e:(k0,b0,n0+1)::r0=passBy S.stk:=by rw [est];rfl
   rw [e] at W1
   exact q H1 (A.walk W1 (K1.mono (by simp))) (FG.trans (A.fwalk W1 (K1.mono (by simp))))
  cases hs with
  | @whl a p v s vs b e1 h1 e2 h2 =>
   simp only [lookB] at q
   exists A.ins,e1
   refine ⟨R,as,sl,S,v,s,rfl,A,F.pl,h1,g.1,?_⟩
   exists A.ins,A.wk.ins,e1
   refine fun p0 h0=>⟨wv_flat _,flat01,?_⟩
   rw [in_nought]
   have N0:=Kp.new (S:=[]) (o:=.tup [.non,.int 0]) h0
   have A0:=A.kp N0
   have e0:=N0.at e1
   have F0:=Fw.of (R:=R) (as:=as) N0
   generalize upd H p0 (.tup [.non,.int 0])=G0 at *
   by_cases hw:num (S.worth s)=0
   ·rw [if_pos hw] at q
    rw [decide_eq_true hw]
    exists A0.ins,A0.wk.ins,e0
    exact pass G0 A0 F0 q
   ·rw [if_neg hw] at q
    rw [decide_eq_false hw]
    exists A0.ins,A0.wk.ins,e0
    exact enter G0 A0 F0 0 b rfl q
  | @iff a p p2 v s vs us b o e1 h1 e2 h2 e3 h3 =>
   simp only [lookB] at q
   exists A.ins,e1
   refine ⟨R,as,sl,S,v,s,rfl,A,F.pl,h1,g.1,?_⟩
   exists A.ins,A.wk.ins,e1
   refine fun p0 h0=>⟨wv_flat _,flat01,?_⟩
   rw [in_nought]
   have N0:=Kp.new (S:=[]) (o:=.tup [.non,.int 0]) h0
   have A0:=A.kp N0
   have e0:=N0.at e1
   have F0:=Fw.of (R:=R) (as:=as) N0
   generalize upd H p0 (.tup [.non,.int 0])=G0 at *
   by_cases hw:num (S.worth s)=0
   ·rw [if_pos hw] at q
    rw [decide_eq_true hw]
    exists A0.ins,A0.wk.ins,e0
    exact enter G0 A0 F0 1 o rfl q
   ·rw [if_neg hw] at q
    rw [decide_eq_false hw]
    exists A0.ins,A0.wk.ins,e0
    exact enter G0 A0 F0 0 b rfl q
  | _=>cases hB
theorem ok_doset:Ok T T.fdoset 11 (spDeedR ⟨t.CRun,t.CWalk,t.CTickets⟩ false (fun m=>∃ x s,m=.set x s)):=by
 nomatch T.fdoset
 ·obtain ⟨R,as,sl,S,a,m,N,rfl,_⟩:=h
  rfl
 ·obtain ⟨R,as,sl,S,a,m,N,rfl,A,hsl,hs,⟨x,s,rfl⟩,F,g,hN,q⟩:=h
  nomatch (pss2 (ppt (pe_fldC T.clRun T.nanames pv0) (pix ix_c pv1 pe_int) (pmt pv0 T.clRun (ok_Runworth T) T.fRunworth (pa1 (pix ix_c pv1 pe_int)))) (ps_ret (pe_lst pa_nil))),0
  cases hs with
  | @set a x v s e1 h1 =>
   have l1:(nmK S.nm).length≤N:=by rw [nmK,List.length_map];exact F.nm
   left
   exists A.ins,e1
   refine ⟨R,as,sl,S,v,s,rfl,A,F.pl,h1,g,?_⟩
   exists A.ins,e1,A.nm,nmK_put
   refine ⟨by omega,?_⟩
   have A1:=A.name x (S.worth s)
   have F1:=Fw.set (R:=R) (as:=as) (H:=H) (o:=.dK (nmK (putN S.nm x (S.worth s)))) (p:=R.nm) (.inl (by simp [Rn.cells]))
   generalize upd H R.nm (.dK (nmK (putN S.nm x (S.worth s))))=G1 at *
   right
   wp_walk
   refine fun c hc=>?_
   have N4:=Kp.new (S:=[]) (o:=.lst []) hc
   exact q _ c [] _ (A1.kp N4) (F1.free hc) upd_same .nil (F1.trans (Fw.of N4))
theorem ok_Ticketsmake:Ok T T.fTicketsmake 1 (spTkMake t.CTickets):=by
 nomatch T.fTicketsmake
 ·obtain ⟨tk,tx,dp,da,made,pend,ans,rfl,_⟩:=h
  rfl
 ·obtain ⟨tk,tx,dp,da,made,pend,ans,rfl,R,hm,hl,q⟩:=h
  nomatch (pss_cons (pst 1 (pe_fldC T.clTickets T.namade pv0)) (pss3 (ps_augF T.clTickets T.namade pv0 pe_int) (ppt (pe_fldC T.clTickets T.napending pv0) pv1 pe_bl) (ps_ret pv1))),0
  exists R.ins
  have n1:=R.n1
  have nk:(made:Int)∉pend:=fun z=>by have:=R.lt _ z;omega
  exists upd_ne n1.1.symm,R.hp,putK_new (.bl true) (pend_none nk)
  refine ⟨by simp only [pendK,List.length_map];omega,?_⟩
  refine q _ ⟨by rw [upd_ne n1.1];exact upd_same,by rw [upd_same];simp [pendK],by rw [upd_ne R.nda.symm,upd_ne n1.2.symm];exact R.ha,R.nda,fun i hi=>?_,?_,fun p hp=>?_,fun p hp z=>?_,by omega⟩ ?_
  ·rcases List.mem_append.mp hi with hi | hi
   ·have:=R.lt i hi
    omega
   ·rw [show i=(made:Int) by simpa using hi]
    omega
  ·refine List.pairwise_append.mpr ⟨R.asc,by simp,fun i hi j hj=>?_⟩
   rw [show j=(made:Int) by simpa using hj]
   exact (R.lt i hi).2
  ·have:=R.la p hp
   omega
  ·rcases List.mem_append.mp z with z | z
   ·exact R.dis p hp z
   ·have:=R.la p hp
    rw [show p.1=(made:Int) by simpa using z] at this
    omega
  ·intro b o eb nb
   simp only [List.mem_cons,List.not_mem_nil,or_false,not_or] at nb
   rw [upd_ne nb.2,upd_ne nb.1]
   exact eb
theorem ok_Runnewticket:Ok T T.fRunnewticket 2 (spNewT ⟨t.CRun,t.CWalk,t.CTickets⟩):=by
 nomatch T.fRunnewticket
 ·obtain ⟨R,as,sl,S,n,rfl,_⟩:=h
  rfl
 ·obtain ⟨R,as,sl,S,n,rfl,A,b1,b2,b3,q⟩:=h
  nomatch (pss3 (pst 2 (pmt0 (pe_fldC T.clRun T.natickets pv0) T.clTickets (ok_Ticketsmake T) T.fTicketsmake)) (ppt (pe_fldC T.clRun T.nanames pv0) pv1 pv2) (ps_ret pv2)),0
  left
  exists A.ins,A.tk.ins
  refine ⟨R.tk,R.tx,R.dp,R.da,S.made,S.pend,S.ans,rfl,A.tk,b1,b2,fun H1 T1 K1=>?_⟩
  have K2:Kp [R.tk,R.dp,R.da] H H1:=K1.mono (by simp;try omega)
  have A1:=A.tick T1 K2
  have F1:=A.ftick T1 K2
  wp_walk
  right
  left
  have ep:putK (nmK S.nm) (.inr n) (.int (S.made:Int))=nmK (putN S.nm n (some (S.made:Int))):=nmK_put S.nm n (some (S.made:Int))
  have l1:(nmK S.nm).length≤1000000:=by rw [nmK,List.length_map];exact b3
  exists A1.ins,A1.nm,ep
  refine ⟨by omega,?_⟩
  have A2:=A1.name n (some (S.made:Int))
  have F2:=F1.trans (Fw.set (R:=R) (as:=as) (H:=H1) (o:=.dK (nmK (putN S.nm n (some (S.made:Int))))) (p:=R.nm) (.inl (by simp [Rn.cells])))
  generalize upd H1 R.nm (.dK (nmK (putN S.nm n (some (S.made:Int)))))=G2 at *
  right
  wp_walk
  exact q G2 A2 F2
theorem ok_doorder:Ok T T.fdoorder 11 (spDeedR ⟨t.CRun,t.CWalk,t.CTickets⟩ false (fun m=>∃ x y s,m=.order x y s∨m=.child x y s)):=by
 nomatch T.fdoorder
 ·obtain ⟨R,as,sl,S,a,m,N,rfl,_⟩:=h
  rfl
 ·obtain ⟨R,as,sl,S,a,m,N,rfl,A,hsl,hs,⟨x,y,s,hm⟩,F,g,hN,q⟩:=h
  nomatch (pss3 (pst 2 (pmt pv0 T.clRun (ok_Runworth T) T.fRunworth (pa1 (pix ix_c pv1 pe_int)))) (pst 3 (pmt pv0 T.clRun (ok_Runnewticket T) T.fRunnewticket (pa1 (pix ix_c pv1 pe_int)))) (ps_ret (pe_lst (pa1 (pe_tup (pa_n (pix ix_c pv1 pe_int) (pa3 pv3 (pix ix_c pv1 pe_int) pv2))))))),0
  rcases hm with rfl | rfl
  ·cases hs with
   | @order a x y v s e1 h1 =>
    left
    exists A.ins,e1
    refine ⟨R,as,sl,S,v,s,rfl,A,F.pl,h1,g,?_⟩
    wp_walk
    right
    left
    exists A.ins,e1
    refine ⟨R,as,sl,S,x,rfl,A,by have:=F.md;omega,by have:=F.pd;omega,by have:=F.nm;omega,fun H1 A1 F1=>?_⟩
    have e2:=A.tkp F1 _ _ e1
    wp_walk
    right
    exists e2
    refine fun p3 h3 c h4=>?_
    have N3:=(Kp.new (S:=[]) (o:=.tup [.str "order",.int S.made,.str y,wv (S.worth s)]) h3).trans (Kp.new (o:=.lst [.ref p3]) h4)
    exact q _ c [.ref p3] _ (A1.kp N3) (F1.free (none_upd h4)) upd_same (.cons ((Kp.new (S:=[]) h4).at upd_same) .nil) (F1.trans (Fw.of N3))
  ·cases hs with
   | @child a x y v s e1 h1 =>
    left
    exists A.ins,e1
    refine ⟨R,as,sl,S,v,s,rfl,A,F.pl,h1,g,?_⟩
    wp_walk
    right
    left
    exists A.ins,e1
    refine ⟨R,as,sl,S,x,rfl,A,by have:=F.md;omega,by have:=F.pd;omega,by have:=F.nm;omega,fun H1 A1 F1=>?_⟩
    have e2:=A.tkp F1 _ _ e1
    wp_walk
    right
    exists e2
    refine fun p3 h3 c h4=>?_
    have N3:=(Kp.new (S:=[]) (o:=.tup [.str "child",.int S.made,.str y,wv (S.worth s)]) h3).trans (Kp.new (o:=.lst [.ref p3]) h4)
    exact q _ c [.ref p3] _ (A1.kp N3) (F1.free (none_upd h4)) upd_same (.cons ((Kp.new (S:=[]) h4).at upd_same) .nil) (F1.trans (Fw.of N3))
theorem ok_dotimer:Ok T T.fdotimer 11 (spDeedR ⟨t.CRun,t.CWalk,t.CTickets⟩ false (fun m=>∃ x s,m=.timer x s)):=by
 nomatch T.fdotimer
 ·obtain ⟨R,as,sl,S,a,m,N,rfl,_⟩:=h
  rfl
 ·obtain ⟨R,as,sl,S,a,m,N,rfl,A,hsl,hs,⟨x,s,rfl⟩,F,g,hN,q⟩:=h
  nomatch (pss_cons (pst 2 (pmt pv0 T.clRun (ok_Runworth T) T.fRunworth (pa1 (pix ix_c pv1 pe_int)))) (pss3 (pst 3 (pe_callB (call_minC rfl) rfl T.zmin bt_min (pa2 (pe_glob (v:=.int 1000000000000) rfl T.cGREATESTMOMENT ⟨_,rfl⟩) (pe_ifExp (ptc op_isC pv2 pe_non) (pe_fldC T.clRun T.nanow pv0) (pe_op op_addC (pe_fldC T.clRun T.nanow pv0) (pe_callB (call_maxC rfl) rfl T.zmax bt_max (pa2 pe_int pv2))))))) (pst 4 (pmt pv0 T.clRun (ok_Runnewticket T) T.fRunnewticket (pa1 (pix ix_c pv1 pe_int)))) (ps_ret (pe_lst (pa1 (pe_tup (pa3 pe_str pv4 pv3))))))),0
  cases hs with
  | @timer a x v s e1 h1 =>
   left
   exists A.ins,e1
   refine ⟨R,as,sl,S,v,s,rfl,A,F.pl,h1,g,?_⟩
   wp_walk
   right
   refine cut_seq fun R2 hR2=>?_
   exists A.ins,wv_non
   have rest:R2 [some (V.ref R.x),some (V.ref a),some (wv (S.worth s)),some (V.int (dueOf S.nw (S.worth s))),none] H:=by
    refine hR2 _ _ ?_
    left
    exists A.ins,e1
    refine ⟨R,as,sl,S,x,rfl,A,by have:=F.md;omega,by have:=F.pd;omega,by have:=F.nm;omega,fun H1 A1 F1=>?_⟩
    wp_walk
    right
    wp_walk
    refine fun p3 h3 c h4=>?_
    have N3:=(Kp.new (S:=[]) (o:=.tup [.str "timer",.int S.made,.int (dueOf S.nw (S.worth s))]) h3).trans (Kp.new (o:=.lst [.ref p3]) h4)
    exact q _ c [.ref p3] _ (A1.kp N3) (F1.free (none_upd h4)) upd_same (.cons ((Kp.new (S:=[]) h4).at upd_same) .nil) (F1.trans (Fw.of N3))
   cases hw:S.worth s with
   | none =>
    rw [hw] at rest
    rw [if_pos rfl]
    exact rest
   | some z =>
    rw [hw] at rest
    rw [if_neg (by simp)]
    exists wv
    exact rest
theorem ok_dosend:Ok T T.fdosend 11 (spDeedR ⟨t.CRun,t.CWalk,t.CTickets⟩ false (fun m=>∃ s k r,m=.send s k r)):=by
 nomatch T.fdosend
 ·obtain ⟨R,as,sl,S,a,m,N,rfl,_⟩:=h
  rfl
 ·obtain ⟨R,as,sl,S,a,m,N,rfl,A,hsl,hs,⟨s,k,r,rfl⟩,F,g,hN,q⟩:=h
  nomatch (pss_one (ps_ret (pe_lst (pa1 (pe_tup (pa_n pe_str (pa3 (pmt pv0 T.clRun (ok_Runworth T) T.fRunworth (pa1 (pix ix_c pv1 pe_int))) (pix ix_c pv1 pe_int) (pmt pv0 T.clRun (ok_Runworth T) T.fRunworth (pa1 (pix ix_c pv1 pe_int)))))))))),0
  cases hs with
  | @send a k v u s r e1 h1 h2 =>
   exists A.ins,e1
   refine ⟨R,as,sl,S,v,s,rfl,A,F.pl,h1,g.1,?_⟩
   exists A.ins,e1
   refine ⟨R,as,sl,S,u,r,rfl,A,F.pl,h2,g.2,?_⟩
   wp_walk
   have F1:Fw R as as H H:=Fw.refl
   refine fun p3 h3 c h4=>?_
   have N3:=(Kp.new (S:=[]) (o:=.tup [.str "send",wv (S.worth s),.str k,wv (S.worth r)]) h3).trans (Kp.new (o:=.lst [.ref p3]) h4)
   exact q _ c [.ref p3] _ (A.kp N3) (F1.free (none_upd h4)) upd_same (.cons ((Kp.new (S:=[]) h4).at upd_same) .nil) (F1.trans (Fw.of N3))
theorem ok_Ticketsshut:Ok T T.fTicketsshut 1 (spTkShut t.CTickets):=by
 nomatch T.fTicketsshut
 ·obtain ⟨tk,tx,dp,da,made,pend,ans,i,rfl,_⟩:=h
  rfl
 ·obtain ⟨tk,tx,dp,da,made,pend,ans,i,rfl,R,hi,q⟩:=h
  nomatch (pss_one (ps_expr (pe_dpopC (pe_fldC T.clTickets T.napending pv0) pv1 ⟨rfl,rfl,rfl,rfl⟩))),0
  obtain ⟨v,hv⟩:=pend_some hi
  exists R.ins,R.hp,hv,pend_drop
  have n1:=R.n1
  exact q _ ⟨by rw [upd_ne n1.1];exact R.ins,upd_same,by rw [upd_ne R.nda.symm];exact R.ha,R.nda,fun j hj=>R.lt j ((List.mem_filter.mp hj).1),R.asc.filter _,R.la,fun p hp z=>R.dis p hp ((List.mem_filter.mp z).1),R.small⟩ Kp.set1J
theorem ok_dodrop:Ok T T.fdodrop 11 (spDeedR ⟨t.CRun,t.CWalk,t.CTickets⟩ false (fun m=>∃ s,m=.drop s)):=by
 nomatch T.fdodrop
 ·obtain ⟨R,as,sl,S,a,m,N,rfl,_⟩:=h
  rfl
 ·obtain ⟨R,as,sl,S,a,m,N,rfl,A,hsl,hs,⟨s,rfl⟩,F,g,hN,q⟩:=h
  nomatch (pss_cons (pst 2 (pmt pv0 T.clRun (ok_Runworth T) T.fRunworth (pa1 (pix ix_c pv1 pe_int)))) (pss3 (pif (pt_not (pt_val (pmt (pe_fldC T.clRun T.natickets pv0) T.clTickets (ok_Ticketsisopen T) T.fTicketsisopen (pa1 pv2)))) (pss_one (ps_ret (pe_lst pa_nil)))) (ps_expr (pmt (pe_fldC T.clRun T.natickets pv0) T.clTickets (ok_Ticketsshut T) T.fTicketsshut (pa1 pv2))) (ps_ret (pe_lst (pa1 (pe_tup (pa2 pe_str pv2))))))),0
  cases hs with
  | @drop a v s e1 h1 =>
   left
   exists A.ins,e1
   refine ⟨R,as,sl,S,v,s,rfl,A,F.pl,h1,g,?_⟩
   wp_walk
   right
   left
   exists A.ins,A.tk.ins
   refine ⟨R.tk,R.tx,R.dp,R.da,_,_,_,S.worth s,rfl,A.tk,?_⟩
   by_cases hp:∃ i,i∈S.pend∧S.worth s=some i
   ·rw [decide_eq_true hp]
    obtain ⟨i,hi,hw⟩:=hp
    have hwv:wv (S.worth s)=.int i:=by rw [hw];rfl
    have hd:deed S (.drop s)=({S with pend:=S.pend.filter fun j=>decide (j≠i)},[[.str "drop",.int i]]):=by simp only [deed,hw,if_pos hi]
    rw [hd] at q
    wp_walk
    right
    left
    exists A.ins,A.tk.ins,hwv
    refine ⟨R.tk,R.tx,R.dp,R.da,_,_,_,i,rfl,A.tk,hi,fun H3 T3 K3=>?_⟩
    have K4:Kp [R.tk,R.dp,R.da] H H3:=K3.mono (by simp;try omega)
    have A3:=A.tick T3 K4
    have F3:=A.ftick T3 K4
    wp_walk
    right
    wp_walk
    refine fun p3 h3 c h4=>?_
    have N3:=(Kp.new (S:=[]) (o:=.tup [.str "drop",.int i]) h3).trans (Kp.new (o:=.lst [.ref p3]) h4)
    exact q _ c [.ref p3] _ (A3.kp N3) (F3.free (none_upd h4)) upd_same (.cons ((Kp.new (S:=[]) h4).at upd_same) .nil) (F3.trans (Fw.of N3))
   ·rw [decide_eq_false hp]
    have hd:deed S (.drop s)=(S,[]):=by
     cases hw:S.worth s with
     | none=>simp only [deed,hw]
     | some i=>simp only [deed,hw,if_neg (show ¬ i∈S.pend from fun z=>hp ⟨i,z,hw⟩)]
    rw [hd] at q
    wp_walk
    have F1:Fw R as as H H:=Fw.refl
    refine fun c hc=>?_
    have N4:=Kp.new (S:=[]) (o:=.lst []) hc
    exact q _ c [] _ (A.kp N4) (F1.free hc) upd_same .nil (F1.trans (Fw.of N4))
theorem ok_dohear:Ok T T.fdohear 11 (spDeedR ⟨t.CRun,t.CWalk,t.CTickets⟩ false (fun m=>∃ x k,m=.hear x k)):=by
 nomatch T.fdohear
 ·obtain ⟨R,as,sl,S,a,m,N,rfl,_⟩:=h
  rfl
 ·obtain ⟨R,as,sl,S,a,m,N,rfl,A,hsl,hs,⟨x,k,rfl⟩,F,g,hN,q⟩:=h
  have hu:=hu_of hr
  nomatch (pss3 (pst 2 (pe_dget2C hu (pe_fldC T.clRun T.naletters pv0) (pix ix_c pv1 pe_int) (pe_lst pa_nil) ⟨rfl,rfl,rfl,rfl⟩)) (ps_if (pt_truC pv2 (fun _=>rfl)) (pss_one (ppt (pe_fldC T.clRun T.nanames pv0) (pix ix_c pv1 pe_int) (pe_lm PySem.F.slot_list_pop PySem.F.type_list_pop mt_pop0 pv2 (pa1 pe_int)))) (pss_one (ps_fldC T.clRun T.nasleep pv0 (pe_tup (pa2 pe_str (pix ix_c pv1 pe_int)))))) (ps_ret (pe_lst pa_nil))),0
  cases hs with
  | @hear a x k e1 =>
   obtain ⟨kvs,el,L⟩:=A.lt
   have l1:(nmK S.nm).length≤N:=by rw [nmK,List.length_map];exact F.nm
   refine cut_seq fun R1 hR1=>?_
   exists A.ins,el,e1
   refine fun p1 h1=>?_
   generalize hg:upd H p1 (.lst [])=G1
   have N1:Kp [] H G1:=hg ▸ Kp.new h1
   have f1:G1 p1=some (.lst []):=hg ▸ upd_same
   clear hg
   have A1:=A.kp N1
   have e1':=N1.at e1
   have el1:=N1.at el
   have L1:=L.keep (fun a _ o h=>N1.at h)
   have F1:=Fw.of (R:=R) (as:=as) N1
   have slept:∀ l:Addr,G1 l=some (.lst [])→(lookL S.lt k).getD []=[]→R1 [some (.ref R.x),some (.ref a),some (.ref l)] G1:=fun l hl hq=>by
    have hd:deed S (.hear x k)=({S with sl:=.hear k},[]):=by simp only [deed,hq]
    rw [hd] at q
    refine hR1 _ _ ?_
    refine cut_seq fun R2 hR2=>?_
    exists hl,e1'
    refine fun p2 h2=>?_
    have N2:=Kp.new (S:=[]) (o:=.tup [.str "hear",.str k]) h2
    have f2:upd G1 p2 (.tup [.str "hear",.str k]) p2=some (.tup [.str "hear",.str k]):=upd_same
    have A2:=A1.kp N2
    exists N2.at A1.ins
    have A3:=A2.attr (.ref p2) (.hear k) S.ar S.nw ⟨p2,rfl,f2⟩
    have F3:=(F1.trans (Fw.of N2)).trans (Fw.set (p:=R.x) (o:=(insZ t.CRun R (.ref p2) S.ar S.nw)) (.inl (by simp [Rn.cells])))
    refine hR2 _ _ ?_
    generalize upd (upd G1 p2 (.tup [.str "hear",.str k])) R.x (insZ t.CRun R (.ref p2) S.ar S.nw)=G3 at *
    wp_walk
    refine fun c hc=>?_
    have N4:=Kp.new (S:=[]) (o:=.lst []) hc
    exact q _ c [] _ (A3.kp N4) (F3.free hc) upd_same .nil (F3.trans (Fw.of N4))
   rcases L1.look k with ⟨hv,hn⟩ | ⟨l,ws,hv,hn,hl,ew⟩
   ·exists A1.ins,el1,e1',hv,Option.getD_none
    exact slept p1 f1 (by rw [hn];rfl)
   ·exists A1.ins,el1,e1',hv,Option.getD_some
    cases ws with
    | nil=>exact slept l ew (by rw [hn];rfl)
    | cons w r =>
     have hd:deed S (.hear x k)=({S with nm:=putN S.nm x w,lt:=setL S.lt k r},[]):=by simp only [deed,hn,Option.getD_some]
     rw [hd] at q
     rw [List.map_cons] at ew
     refine hR1 _ _ ?_
     refine cut_seq fun R2 hR2=>?_
     obtain ⟨A2,hla⟩:=A1.lset el1 hv r
     have F2:=F1.trans (Fw.set (p:=l) (o:=.lst (r.map wv)) (.inr hla))
     have e2:=A1.tkp (Fw.set (p:=l) (o:=.lst (r.map wv)) (.inr hla)) _ _ e1'
     exists ew,List.tail_cons,List.isEmpty_cons,Bool.not_false,A2.ins,e2,A2.nm,nmK_put
     have A3:=A2.name x w
     have F3:=F2.trans (Fw.set (p:=R.nm) (o:=.dK (nmK (putN S.nm x w))) (.inl (by simp [Rn.cells])))
     refine ⟨by omega,hR2 _ _ ?_⟩
     generalize upd (upd G1 l (.lst (r.map wv))) R.nm (.dK (nmK (putN S.nm x w)))=G3 at *
     wp_walk
     refine fun c hc=>?_
     have N4:=Kp.new (S:=[]) (o:=.lst []) hc
     exact q _ c [] _ (A3.kp N4) (F3.free hc) upd_same .nil (F3.trans (Fw.of N4))
theorem ok_doend:Ok T T.fdoend 11 (spDeedR ⟨t.CRun,t.CWalk,t.CTickets⟩ false (fun m=>∃ s,m=.fin s)):=by
 nomatch T.fdoend
 ·obtain ⟨R,as,sl,S,a,m,N,rfl,_⟩:=h
  rfl
 ·obtain ⟨R,as,sl,S,a,m,N,rfl,A,hsl,hs,⟨s,rfl⟩,F,g,hN,q⟩:=h
  nomatch (pss_one (ps_ret (pmt pv0 T.clRun (ok_Runend T) T.fRunend (pa1 (pmt pv0 T.clRun (ok_Runworth T) T.fRunworth (pa1 (pix ix_c pv1 pe_int))))))),0
  cases hs with
  | @fin a v s e1 h1 =>
   exists A.ins,e1
   refine ⟨R,as,sl,S,v,s,rfl,A,F.pl,h1,g,?_⟩
   wp_walk
   exact ⟨R,as,sl,S,_,rfl,A,q⟩
theorem ok_Rundoone:Ok T T.fRundoone 12 (spOneR ⟨t.CRun,t.CWalk,t.CTickets⟩ false):=by
  nomatch T.fRundoone
  · obtain ⟨R,as,sl,S,a,m,N,rfl,_⟩:=h
    rfl
  · obtain ⟨R,as,sl,S,a,m,N,rfl,A,hsl,hs,F,g,hst,hN,q⟩:=h
    nomatch (pss_cons (pst 2 (pix ix_c pv1 pe_int)) (pss_cons (pif (PW.pt (pw_or (ptc op_eq pv2 pe_str) (pw_or1 (ptc op_eq pv2 pe_str)))) (pss2 (ps_expr (pmt pv0 T.clRun (ok_Runlook T) T.fRunlook (pa1 pv1))) (ps_ret (pe_lst pa_nil)))) (pss3 (pst 3 (pe_deed (tab:=[ ("set",(spDeedR ⟨t.CRun,t.CWalk,t.CTickets⟩ false (fun m=>∃ x s,m=.set x s))) ,("order",(spDeedR ⟨t.CRun,t.CWalk,t.CTickets⟩ false (fun m=>∃ x y s,m=.order x y s∨m=.child x y s))) ,("timer",(spDeedR ⟨t.CRun,t.CWalk,t.CTickets⟩ false (fun m=>∃ x s,m=.timer x s))) ,("child",(spDeedR ⟨t.CRun,t.CWalk,t.CTickets⟩ false (fun m=>∃ x y s,m=.order x y s∨m=.child x y s))) ,("send",(spDeedR ⟨t.CRun,t.CWalk,t.CTickets⟩ false (fun m=>∃ s k r,m=.send s k r))) ,("drop",(spDeedR ⟨t.CRun,t.CWalk,t.CTickets⟩ false (fun m=>∃ s,m=.drop s))) ,("wait",(fun _ _ _ _=>False)) ,("hear",(spDeedR ⟨t.CRun,t.CWalk,t.CTickets⟩ false (fun m=>∃ x k,m=.hear x k))) ,("end",(spDeedR ⟨t.CRun,t.CWalk,t.CTickets⟩ false (fun m=>∃ s,m=.fin s))) ]) rfl T.cDEEDS T.mdDEEDS pv2 (fun _ _=>rfl) (fun y sp h=>deeds9 (Z:=fun y sp=>∃ f fd ps,PySem.W.nsIn K t.kDEEDS y=some (some (.ref f))∧FnOk P w K mg base CX0 11 f fd ps sp∧PySem.W.keepIn K (.ref f)=true∧Binds K fd ps []) h ⟨_,_,_,T.nDEEDSset,(ok_doset T).mono (by decide) ,T.fdoset.fn.kp,T.fdoset.bd⟩ ⟨_,_,_,T.nDEEDSorder,(ok_doorder T).mono (by decide) ,T.fdoorder.fn.kp,T.fdoorder.bd⟩ ⟨_,_,_,T.nDEEDStimer,(ok_dotimer T).mono (by decide) ,T.fdotimer.fn.kp,T.fdotimer.bd⟩ ⟨_,_,_,T.nDEEDSchild,(ok_doorder T).mono (by decide) ,T.fdoorder.fn.kp,T.fdoorder.bd⟩ ⟨_,_,_,T.nDEEDSsend,(ok_dosend T).mono (by decide) ,T.fdosend.fn.kp,T.fdosend.bd⟩ ⟨_,_,_,T.nDEEDSdrop,(ok_dodrop T).mono (by decide) ,T.fdodrop.fn.kp,T.fdodrop.bd⟩ ⟨_,_,_,T.nDEEDSwait,(no_dowait T).mono (by decide) ,T.fdowait.fn.kp,T.fdowait.bd⟩ ⟨_,_,_,T.nDEEDShear,(ok_dohear T).mono (by decide) ,T.fdohear.fn.kp,T.fdohear.bd⟩ ⟨_,_,_,T.nDEEDSend,(ok_doend T).mono (by decide) ,T.fdoend.fn.kp,T.fdoend.bd⟩) (hr.mono (by omega)) (pa2 pv0 pv1))) (pif (ptc op_isC (pe_fldC T.clRun T.nasleep pv0) pe_non) (pss_one (ps_expr (pmt0 (pe_fldC T.clRun T.nawalk pv0) T.clWalk (ok_Walkpassby T) T.fWalkpassby)))) (ps_ret pv3)))),0
    have tail:m.isB=false→∀(kd sl':V) (c:Addr) (us:List V) (H':Hp),RunAt ⟨t.CRun,t.CWalk,t.CTickets⟩ H' R as sl' (deed S m).1→H c=none→H' c=some (.lst us)→CsAt H' us (deed S m).2→Fw R as as H H' →
        tSeq (tIfS (cTest (tOp cIsN (cFld t.CRun "sleep" (cVar 0)) (tC .non))) (tDrop (cMeth t.CWalk "pass_by" (spWkPass t.CWalk) (cFld t.CRun "walk" (cVar 0)) tNil)) tNext) (tRet (cVar 3)) {nx:=fun _ H'=>Q .non H',rt:=Q} [some (.ref R.x),some a,some kd,some (.ref c)] H':=fun hB kd sl' c us H' A' hc ec hC FF=>by
      rw [one_nb hB] at q
      left
      rcases A'.slp.isN with ⟨hn,rfl⟩ | ⟨hn,p,rfl⟩
      · simp only [hn,if_true] at q
        obtain ⟨k0,b0,n0,r0,est,hm0⟩:=stand_cons hst
        exists A'.ins,A'.wk.ins
        have W:=A'.wk
        rw [deed_stk,est] at W
        refine ⟨R.wk,R.wx,R.lb,R.ln,k0,n0,b0,r0,rfl,W,fun H1 W1 K1=>?_⟩
        have e:(k0,b0,n0+1)::r0=passBy (deed S m).1.stk:=by rw [deed_stk,est];rfl
        rw [e] at W1
        have A2:=A'.walk W1 (K1.mono (by simp))
        have F2:=A'.fwalk W1 (K1.mono (by simp))
        wp_walk
        right
        wp_walk
        have nc:=A.nofree hc
        exact q .non c us H1 A2 hc (F2.kp _ _ ec nc.1 nc.2) (hC.kt (A'.tkp F2)) (FF.trans F2)
      · simp only [hn,if_false,Bool.false_eq_true] at q
        exists A'.ins
        right
        wp_walk
        exact q (.ref p) c us H' A' hc ec hC FF
    cases hs with
    | @set a0 x v s e1 h1 =>
      left
      exists e1
      right
      left
      wp_walk
      right
      refine cut_seq fun R3 hR3=>?_
      exists lk_set,lk_order,lk_timer,lk_child,lk_send,lk_drop,lk_wait,lk_hear,lk_end
      refine ⟨R,as,sl,S,_,_,N,rfl,A,hsl,.set e1 h1,⟨_,_,rfl⟩,F,g,hN,fun sl' c us H' A' hc ec hC FF=>?_⟩
      wp_walk
      exact hR3 _ _ (tail rfl _ sl' c us H' A' hc ec hC FF)
    | @order a0 x y v s e1 h1 =>
      left
      exists e1
      right
      left
      wp_walk
      right
      refine cut_seq fun R3 hR3=>?_
      exists lk_set,lk_order,lk_timer,lk_child,lk_send,lk_drop,lk_wait,lk_hear,lk_end
      refine ⟨R,as,sl,S,_,_,N,rfl,A,hsl,.order e1 h1,⟨_,_,_,.inl rfl⟩,F,g,hN,fun sl' c us H' A' hc ec hC FF=>?_⟩
      wp_walk
      exact hR3 _ _ (tail rfl _ sl' c us H' A' hc ec hC FF)
    | @timer a0 x v s e1 h1 =>
      left
      exists e1
      right
      left
      wp_walk
      right
      refine cut_seq fun R3 hR3=>?_
      exists lk_set,lk_order,lk_timer,lk_child,lk_send,lk_drop,lk_wait,lk_hear,lk_end
      refine ⟨R,as,sl,S,_,_,N,rfl,A,hsl,.timer e1 h1,⟨_,_,rfl⟩,F,g,hN,fun sl' c us H' A' hc ec hC FF=>?_⟩
      wp_walk
      exact hR3 _ _ (tail rfl _ sl' c us H' A' hc ec hC FF)
    | @child a0 x y v s e1 h1 =>
      left
      exists e1
      right
      left
      wp_walk
      right
      refine cut_seq fun R3 hR3=>?_
      exists lk_set,lk_order,lk_timer,lk_child,lk_send,lk_drop,lk_wait,lk_hear,lk_end
      refine ⟨R,as,sl,S,_,_,N,rfl,A,hsl,.child e1 h1,⟨_,_,_,.inr rfl⟩,F,g,hN,fun sl' c us H' A' hc ec hC FF=>?_⟩
      wp_walk
      exact hR3 _ _ (tail rfl _ sl' c us H' A' hc ec hC FF)
    | @send a0 k v u s r e1 h1 h2 =>
      left
      exists e1
      right
      left
      wp_walk
      right
      refine cut_seq fun R3 hR3=>?_
      exists lk_set,lk_order,lk_timer,lk_child,lk_send,lk_drop,lk_wait,lk_hear,lk_end
      refine ⟨R,as,sl,S,_,_,N,rfl,A,hsl,.send e1 h1 h2,⟨_,_,_,rfl⟩,F,g,hN,fun sl' c us H' A' hc ec hC FF=>?_⟩
      wp_walk
      exact hR3 _ _ (tail rfl _ sl' c us H' A' hc ec hC FF)
    | @drop a0 v s e1 h1 =>
      left
      exists e1
      right
      left
      wp_walk
      right
      refine cut_seq fun R3 hR3=>?_
      exists lk_set,lk_order,lk_timer,lk_child,lk_send,lk_drop,lk_wait,lk_hear,lk_end
      refine ⟨R,as,sl,S,_,_,N,rfl,A,hsl,.drop e1 h1,⟨_,rfl⟩,F,g,hN,fun sl' c us H' A' hc ec hC FF=>?_⟩
      wp_walk
      exact hR3 _ _ (tail rfl _ sl' c us H' A' hc ec hC FF)
    | @hear a0 x k e1 =>
      left
      exists e1
      right
      left
      wp_walk
      right
      refine cut_seq fun R3 hR3=>?_
      exists lk_set,lk_order,lk_timer,lk_child,lk_send,lk_drop,lk_wait,lk_hear,lk_end
      refine ⟨R,as,sl,S,_,_,N,rfl,A,hsl,.hear e1,⟨_,_,rfl⟩,F,g,hN,fun sl' c us H' A' hc ec hC FF=>?_⟩
      wp_walk
      exact hR3 _ _ (tail rfl _ sl' c us H' A' hc ec hC FF)
    | @fin a0 v s e1 h1 =>
      left
      exists e1
      right
      left
      wp_walk
      right
      refine cut_seq fun R3 hR3=>?_
      exists lk_set,lk_order,lk_timer,lk_child,lk_send,lk_drop,lk_wait,lk_hear,lk_end
      refine ⟨R,as,sl,S,_,_,N,rfl,A,hsl,.fin e1 h1,⟨_,rfl⟩,F,g,hN,fun sl' c us H' A' hc ec hC FF=>?_⟩
      wp_walk
      exact hR3 _ _ (tail rfl _ sl' c us H' A' hc ec hC FF)
    | @wait a0 p x vs ss e1 e2 h1 =>
      exact absurd g.1 (by decide)
    | @whl a0 p v s vs b e1 h1 e2 h2 =>
      rw [one_b rfl] at q
      left
      exists e1
      right
      exists A.ins
      refine ⟨R,as,sl,S,_,_,N,rfl,A,.whl e1 h1 e2 h2,rfl,F,g,hst,fun H1 A1 F1=>?_⟩
      wp_walk
      refine fun c hc=>?_
      have N4:=Kp.new (S:=[]) (o:=.lst []) hc
      exact q _ c [] _ (A1.kp N4) (F1.free hc) upd_same .nil (F1.trans (Fw.of N4))
    | @iff a0 p p2 v s vs us b o e1 h1 e2 h2 e3 h3 =>
      rw [one_b rfl] at q
      left
      exists e1
      right
      exists A.ins
      refine ⟨R,as,sl,S,_,_,N,rfl,A,.iff e1 h1 e2 h2 e3 h3,rfl,F,g,hst,fun H1 A1 F1=>?_⟩
      wp_walk
      refine fun c hc=>?_
      have N4:=Kp.new (S:=[]) (o:=.lst []) hc
      exact q _ c [] _ (A1.kp N4) (F1.free hc) upd_same .nil (F1.trans (Fw.of N4))
theorem ok_Rungoon:Ok T T.fRungoon 13 (spGoR ⟨t.CRun,t.CWalk,t.CTickets⟩ false):=by
  nomatch T.fRungoon
  · obtain ⟨R,as,sl,S,N,rfl,_⟩:=h
    rfl
  · obtain ⟨R,as,sl,S,N,rfl,A,FN,hN,q⟩:=h
    nomatch (pss_cons (ps_fldC T.clRun T.nasleep pv0 pe_non) (pss_cons (pst 1 (pe_lst pa_nil)) (pss3 (pst 2 pe_int) (ps_while PassesOwn.never (ptc op_isC (pe_fldC T.clRun T.nasleep pv0) pe_non) (pss2 (pst 3 (pmt0 (pe_fldC T.clRun T.nawalk pv0) T.clWalk (ok_Walkcometo T) T.fWalkcometo)) (ps_if (ptc op_isC pv3 pe_non) (pss_one (ps_expr (pe_lm PySem.F.slot_list_extend PySem.F.type_list_extend mt_extC pv1 (pa1 (pmt pv0 T.clRun (ok_Runend T) T.fRunend (pa1 pe_non)))))) (pss_one (ps_if (ptc op_eq pv2 (pe_glob (v:=.int 300) rfl T.cMOSTATONCE ⟨_,rfl⟩)) (pss_one (ps_expr (pe_lm PySem.F.slot_list_extend PySem.F.type_list_extend mt_extC pv1 (pa1 (pmt0 pv0 T.clRun (ok_Runwearout T) T.fRunwearout))))) (pss2 (ps_aug (i:=2) sc rfl (Or.inl rfl) pe_int ip_addC) (ps_expr (pe_lm PySem.F.slot_list_extend PySem.F.type_list_extend mt_extC pv1 (pa1 (pmt pv0 T.clRun (ok_Rundoone T) T.fRundoone (pa1 pv3))))))))))) (ps_ret pv1)))),0
    left
    exists A.ins
    have A1:=A.attr .non .non S.ar S.nw rfl
    have F1:=Fw.set (R:=R) (as:=as) (H:=H) (p:=R.x) (o:=(insZ t.CRun R (.non) S.ar S.nw)) (.inl (by simp [Rn.cells]))
    generalize upd H R.x (insZ t.CRun R (.non) S.ar S.nw)=G1 at *
    right
    left
    wp_walk
    refine fun c hc=>?_
    have fc:H c=none:=F1.free hc
    have nc:=A.nofree fc
    have N2:=Kp.new (S:=[]) (o:=.lst []) hc
    have ec:upd G1 c (.lst []) c=some (.lst []):=upd_same
    replace A1:=A1.kp N2
    replace F1:=F1.trans (Fw.of N2)
    generalize upd G1 c (.lst [])=G2 at *
    right
    left
    wp_walk
    right
    left
    obtain ⟨S0,hS0⟩:∃ S0:Pu,S0={S with sl:=.non}:=⟨_,rfl⟩
    rw [← hS0] at q FN
    replace A1:RunAt ⟨t.CRun,t.CWalk,t.CTickets⟩ G2 R as .non S0:=by rw [hS0];exact A1
    have s0:S0.sl=.non:=by rw [hS0]
    clear hS0
    obtain ⟨Y,hY⟩:∃ Y:Nat→St→Hp→Prop,∀ m σ G,Y m σ G = ∃(many:Nat) (u:Option V) (us:List V) (cs:Cmds) (S1:Pu) (sl1:V),σ=[some (.ref R.x),some (.ref c),some (.int many),u]∧G c=some (.lst us)∧Fw R as as H G∧CsAt G us cs∧RunAt ⟨t.CRun,t.CWalk,t.CTickets⟩ G R as sl1 S1 ∧
        ((S1.sl=.non∧many≤300∧cs.length≤many∧m=301 - many∧Fit false S1 (N+many)∧goOn 300 S0=((goOn (300 - many) S1).1,cs++(goOn (300 - many) S1).2))∨(S1.sl.isN=false∧goOn 300 S0=(S1,cs))):=⟨_,fun _ _ _=>rfl⟩
    refine ⟨Y,⟨301,?_⟩,?_⟩
    · rw [hY]
      exact ⟨0,none,[],[],S0,.non,rfl,ec,F1,.nil,A1,.inl ⟨s0,by decide,Nat.zero_le _,rfl,FN,rfl⟩⟩
    intro m σ G hG
    rw [hY] at hG
    obtain ⟨many,u,us,cs,S1,sl1,rfl,eG,FG,hC,A2,hG⟩:=hG
    rcases hG with ⟨hs1,hm,lC,rfl,F0,eq⟩ | ⟨hs1,eq⟩
    · have:sl1=.non:=by have:=A2.slp;rw [hs1] at this;exact this
      subst this
      exists A2.ins
      refine ⟨fun σ' G'=>∃ m',m' < 301 - many∧Y m' σ' G',fun _ _ z=>z,?_⟩
      exists A2.wk.ins,A2.ins
      refine ⟨R.wk,R.wx,R.lb,R.ln,S1.stk,rfl,A2.wk,F0.sk.ok,fun H1 W1 _ hst K1=>?_,fun m v H1 W1 _ hst hv K1=>?_⟩
      · have A3:RunAt ⟨t.CRun,t.CWalk,t.CTickets⟩ H1 R as .non S1.come:=A2.walk W1 K1
        have F2:=A2.fwalk W1 K1
        replace eG:=F2.kp _ _ eG nc.1 nc.2
        rw [goOn_none hst] at eq
        exists A3.ins,eG
        refine ⟨R,as,.non,S1.come,none,rfl,A3,fun sl3 c3 us3 H3 A4 hc3 ec3 hC3 F3=>?_⟩
        have lc3:(S1.come.ends none).2.length≤1:=by simp [Pu.ends]
        have eG3:=F3.kp _ _ eG nc.1 nc.2
        have l1:=hC.len
        have l3:=hC3.len
        exists eG3,ec3
        refine ⟨by omega,?_⟩
        have A5:=A4.other (vs:=us++us3) eG3 nc.1 nc.2
        have F5:=((FG.trans F2).trans F3).fresh (o:=.lst (us++us3)) fc
        have tk5:TupKp H3 (upd H3 c (.lst (us++us3))):=TupKp.setO eG3
        have hC5:=((hC.kt (A2.tkp F2)).kt (A3.tkp F3)).app hC3 |>.kt tk5
        refine ⟨0,by omega,?_⟩
        rw [hY]
        exact ⟨many,some .non,_,_,_,sl3,rfl,upd_same,F5,hC5,A5,.inr ⟨rfl,by rw [eq]⟩⟩
      · have A3:RunAt ⟨t.CRun,t.CWalk,t.CTickets⟩ H1 R as .non S1.come:=A2.walk W1 K1
        have F2:=A2.fwalk W1 K1
        have FC:=F0.come hs1
        replace eG:=F2.kp _ _ eG nc.1 nc.2
        obtain ⟨a,rfl⟩:∃ a,v=.ref a:=by cases hv<;>exact ⟨_,rfl⟩
        exists reduceCtorEq,if_false
        by_cases h3:many=300
        · subst h3
          rw [if_pos (by decide)]
          rw [goOn_zero hst] at eq
          exists A3.ins,eG
          refine ⟨R,as,.non,S1.come,rfl,A3,fun sl3 c3 us3 H3 A4 hc3 ec3 hC3 F3=>?_⟩
          have lc3:(S1.come.wears).2.length≤1:=by simp [Pu.wears]
          have eG3:=F3.kp _ _ eG nc.1 nc.2
          have l1:=hC.len
          have l3:=hC3.len
          exists eG3,ec3
          refine ⟨by omega,?_⟩
          have A5:=A4.other (vs:=us++us3) eG3 nc.1 nc.2
          have F5:=((FG.trans F2).trans F3).fresh (o:=.lst (us++us3)) fc
          have tk5:TupKp H3 (upd H3 c (.lst (us++us3))):=TupKp.setO eG3
          have hC5:=((hC.kt (A2.tkp F2)).kt (A3.tkp F3)).app hC3 |>.kt tk5
          refine ⟨0,by omega,?_⟩
          rw [hY]
          exact ⟨300,some (.ref a),_,_,_,sl3,rfl,upd_same,F5,hC5,A5,.inr ⟨rfl,by rw [eq]⟩⟩
        · rw [if_neg (by omega)]
          obtain ⟨n,hn⟩:∃ n,300 - many=n+1:=⟨299 - many,by omega⟩
          rw [hn] at eq
          refine ⟨_,rfl,?_⟩
          exists A3.ins,eG
          refine ⟨R,as,.non,S1.come,.ref a,m,N+many,rfl,A3,hs1,hv,FC,FC.stm hst,hst,by omega,fun sl3 c3 us3 H3 A4 hc3 ec3 hC3 F3=>?_⟩
          have lc3:=one_len S1.come m
          have eG3:=F3.kp _ _ eG nc.1 nc.2
          have l1:=hC.len
          have l3:=hC3.len
          exists eG3,ec3
          refine ⟨by omega,?_⟩
          have A5:=A4.other (vs:=us++us3) eG3 nc.1 nc.2
          have F5:=((FG.trans F2).trans F3).fresh (o:=.lst (us++us3)) fc
          have tk5:TupKp H3 (upd H3 c (.lst (us++us3))):=TupKp.setO eG3
          have hC5:=((hC.kt (A2.tkp F2)).kt (A3.tkp F3)).app hC3 |>.kt tk5
          cases hz:(one S1.come m).1.sl.isN with
          | true =>
            rw [goOn_go hst hz] at eq
            refine ⟨301 - (many+1),by omega,?_⟩
            rw [hY]
            exact ⟨many+1,some (.ref a),_,_,_,sl3,rfl,upd_same,F5,hC5,A5,.inl ⟨isN_non hz,by omega,by rw [List.length_append];omega,rfl,FC.one hst hs1 (by omega),by rw [eq,show 300 - (many+1)=n by omega,List.append_assoc]⟩⟩
          | false =>
            rw [goOn_stop hst hz] at eq
            refine ⟨0,by omega,?_⟩
            rw [hY]
            exact ⟨many+1,some (.ref a),_,_,_,sl3,rfl,upd_same,F5,hC5,A5,.inr ⟨hz,by rw [eq]⟩⟩
    · rcases A2.slp.isN with ⟨z,_⟩ | ⟨_,p,rfl⟩
      · rw [hs1] at z;cases z
      exists A2.ins,reduceCtorEq,if_false
      right
      wp_walk
      rw [eq] at q
      exact q _ c us G A2 fc eG hC FG
theorem ok_Runwake:Ok T T.fRunwake 14 (spWakeR ⟨t.CRun,t.CWalk,t.CTickets⟩ false):=by
 nomatch T.fRunwake
 ·obtain ⟨R,as,sl,S,w,N,rfl,_⟩:=h
  rfl
 ·obtain ⟨R,as,sl,S,w,N,rfl,A,F,hN,hw,hsl,q⟩:=h
  nomatch (pss3 (ppt (pe_fldC T.clRun T.nanames pv0) (pix ix_c (pmt0 (pe_fldC T.clRun T.nawalk pv0) T.clWalk (ok_Walkstandsat T) T.fWalkstandsat) pe_int) pv1) (ps_expr (pmt0 (pe_fldC T.clRun T.nawalk pv0) T.clWalk (ok_Walkpassby T) T.fWalkpassby)) (ps_ret (pmt0 pv0 T.clRun (ok_Rungoon T) T.fRungoon))),0
  have l1:(nmK S.nm).length≤N:=by rw [nmK,List.length_map];exact F.nm
  rcases hsl with ⟨k,hk⟩ | ⟨ts,hk⟩
  ·obtain ⟨x,hst⟩:=F.sl.1 k hk
   obtain ⟨k0,b0,n0,r0,est,hm0⟩:=stand_cons hst
   have nm1:∀ v,StmAt H v (.hear x k)→∃ a xs,v=.ref a∧H a=some (.tup (.str "hear"::.str x::xs)):=fun v h=>by cases h with | hear e=>exact ⟨_,_,rfl,e⟩
   simp only [Pu.wake,hst] at q
   left
   exists A.ins,A.wk.ins,A.nm
   have W:=A.wk
   rw [est] at W
   refine ⟨R.wk,R.wx,R.lb,R.ln,k0,n0,b0,r0,_,rfl,W,hm0,fun v hv=>?_⟩
   obtain ⟨a,xs,rfl,e1⟩:=nm1 v hv
   exists e1,A.nm,nmK_put
   refine ⟨by omega,?_⟩
   have A1:=A.name x w
   have F1:=Fw.set (R:=R) (as:=as) (H:=H) (o:=.dK (nmK (putN S.nm x w))) (p:=R.nm) (.inl (by simp [Rn.cells]))
   generalize upd H R.nm (.dK (nmK (putN S.nm x w)))=G1 at *
   right
   left
   exists A1.ins,A1.wk.ins
   have W1:=A1.wk
   rw [show ({S with nm:=putN S.nm x w}:Pu).stk=S.stk from rfl,est] at W1
   refine ⟨R.wk,R.wx,R.lb,R.ln,k0,n0,b0,r0,rfl,W1,fun H2 W2 K2=>?_⟩
   have e:(k0,b0,n0+1)::r0=passBy S.stk:=by rw [est];rfl
   rw [e] at W2
   have A2:=A1.walk W2 (K2.mono (by simp))
   have F2:=F1.trans (A1.fwalk W2 (K2.mono (by simp)))
   wp_walk
   right
   exists A2.ins
   exact ⟨R,as,sl,_,N+1,rfl,A2,F.wake hst hw x,by omega,fun sl3 c us H3 A3 hc ec hC F3=>q sl3 c us H3 A3 (F2.free hc) ec hC (F2.trans F3)⟩
  ·obtain ⟨x,ss,hst⟩:=F.sl.2 ts hk
   obtain ⟨k0,b0,n0,r0,est,hm0⟩:=stand_cons hst
   have nm1:∀ v,StmAt H v (.wait x ss)→∃ a xs,v=.ref a∧H a=some (.tup (.str "wait"::.str x::xs)):=fun v h=>by cases h with | wait e _ _=>exact ⟨_,_,rfl,e⟩
   simp only [Pu.wake,hst] at q
   left
   exists A.ins,A.wk.ins,A.nm
   have W:=A.wk
   rw [est] at W
   refine ⟨R.wk,R.wx,R.lb,R.ln,k0,n0,b0,r0,_,rfl,W,hm0,fun v hv=>?_⟩
   obtain ⟨a,xs,rfl,e1⟩:=nm1 v hv
   exists e1,A.nm,nmK_put
   refine ⟨by omega,?_⟩
   have A1:=A.name x w
   have F1:=Fw.set (R:=R) (as:=as) (H:=H) (o:=.dK (nmK (putN S.nm x w))) (p:=R.nm) (.inl (by simp [Rn.cells]))
   generalize upd H R.nm (.dK (nmK (putN S.nm x w)))=G1 at *
   right
   left
   exists A1.ins,A1.wk.ins
   have W1:=A1.wk
   rw [show ({S with nm:=putN S.nm x w}:Pu).stk=S.stk from rfl,est] at W1
   refine ⟨R.wk,R.wx,R.lb,R.ln,k0,n0,b0,r0,rfl,W1,fun H2 W2 K2=>?_⟩
   have e:(k0,b0,n0+1)::r0=passBy S.stk:=by rw [est];rfl
   rw [e] at W2
   have A2:=A1.walk W2 (K2.mono (by simp))
   have F2:=F1.trans (A1.fwalk W2 (K2.mono (by simp)))
   wp_walk
   right
   exists A2.ins
   exact ⟨R,as,sl,_,N+1,rfl,A2,F.wake hst hw x,by omega,fun sl3 c us H3 A3 hc ec hC F3=>q sl3 c us H3 A3 (F2.free hc) ec hC (F2.trans F3)⟩
theorem ok_Runtakeletter:Ok T T.fRuntakeletter 15 (spTLet ⟨t.CRun,t.CWalk,t.CTickets⟩ false):=by
 nomatch T.fRuntakeletter
 ·obtain ⟨R,as,sl,S,k,w,N,rfl,_⟩:=h
  rfl
 ·obtain ⟨R,as,sl,S,k,w,N,rfl,A,F,hN,hw,hsl,q⟩:=h
  nomatch (pss3 (pif (ptc (op_eqA 2 (hu_n hr (by decide))) (pe_fldC T.clRun T.nasleep pv0) (pe_tup (pa2 pe_str pv1))) (pss_one (ps_ret (pmt pv0 T.clRun (ok_Runwake T) T.fRunwake (pa1 pv2))))) (ps_expr (pe_appC (pe_dsetC (pe_fldC T.clRun T.naletters pv0) pv1 (pe_lst pa_nil) ⟨rfl,rfl,rfl,rfl⟩) pv2)) (ps_ret (pe_lst pa_nil))),0
  have tl:=A.slp
  rcases hsl with ⟨k',es⟩ | ⟨ts,es⟩
  ·rw [es] at tl
   obtain ⟨p,rfl,ep⟩:=tl
   left
   exists A.ins
   refine fun p1 h1=>?_
   generalize hg:upd H p1 (.tup [.str "hear",.str k])=G1
   have N1:Kp [] H G1:=hg ▸ Kp.new h1
   have f1:G1 p1=some (.tup [.str "hear",.str k]):=hg ▸ upd_same
   clear hg
   have A1:=A.kp N1
   have hp1:=N1.at ep
   have F1:=Fw.of (R:=R) (as:=as) N1
   refine ⟨_,hear_eq 1 hp1 f1,?_⟩
   by_cases hk:k'=k
   ·subst hk
    simp only [Pu.takeL,es,if_true] at q
    exists decide_true,A1.ins
    exact ⟨R,as,.ref p,S,w,N,rfl,A1,F,by omega,hw,.inl ⟨k',es⟩,fun sl3 c us H3 A3 hc ec hC F3=>q as sl3 c us H3 A3 (F1.free hc) ec hC (F1.trans F3)⟩
   ·have hq:S.takeL k w=({S with lt:=addL S.lt k w},[]):=by simp only [Pu.takeL,es,if_neg hk]
    rw [hq] at q
    exists decide_false,hk
    right
    left
    obtain ⟨kvs,el,L⟩:=A1.lt
    have ll:=L.len
    have fl:=F.lt
    exists A1.ins,el
    refine fun p2 h2=>?_
    have hp2:=F1.free h2
    have N2:=Kp.new (S:=[]) (o:=.lst []) h2
    have f2:upd G1 p2 (.lst []) p2=some (.lst []):=upd_same
    have A2:=A1.kp N2
    have el2:=N2.at el
    have LL:=L.keep (fun a _ o h=>N2.at h)
    have F2:=F1.trans (Fw.of N2)
    have nc:=A1.nofree h2
    generalize upd G1 p2 (.lst [])=G2 at *
    exists el2
    refine ⟨by omega,fun v hv=>?_,fun hv=>?_⟩
    ·rcases LL.look k with ⟨z,_⟩ | ⟨l,ws,z,hn,hla,hl⟩
     ·rw [z] at hv;cases hv
     rw [z] at hv
     cases hv
     have lw:=(F.lw k ws hn).1
     obtain ⟨A3,_⟩:=A2.lset el2 z (ws++[w])
     have F3:=F2.trans (Fw.set (p:=l) (o:=.lst ((ws++[w]).map wv)) (.inr hla))
     rw [show setL S.lt k (ws++[w])=addL S.lt k w by rw [addL,hn]] at A3
     rw [List.map_append,List.map_cons,List.map_nil] at A3 F3
     exists hl
     refine ⟨by simp;omega,?_⟩
     generalize upd G2 l (.lst (ws.map wv++[wv w]))=G3 at *
     wp_walk
     right
     wp_walk
     refine fun c hc=>?_
     have N4:=Kp.new (S:=[]) (o:=.lst []) hc
     exact q as _ c [] _ (A3.kp N4) (F3.free hc) upd_same .nil (F3.trans (Fw.of N4))
    ·rcases LL.look k with ⟨z,hn⟩ | ⟨l,ws,z,_⟩
     rotate_left
     ·rw [z] at hv;cases hv
     have A3:=A2.lnew (ws:=[]) el2 z f2 nc.1 nc.2
     have F3:=F2.trans (Fw.set (p:=R.lt) (o:=.dK (putK kvs (.inr k) (.ref p2))) (.inl (by simp [Rn.cells])))
     have f3:upd G2 R.lt (.dK (putK kvs (.inr k) (.ref p2))) p2=some (.lst []):=keepU el2 f2
     have el3:upd G2 R.lt (.dK (putK kvs (.inr k) (.ref p2))) R.lt=some (.dK (putK kvs (.inr k) (.ref p2))):=upd_same
     have z3:valV (putK kvs (.inr k) (.ref p2)) (.inr k)=some (.ref p2):=by rw [valV_put,if_pos rfl]
     generalize upd G2 R.lt (.dK (putK kvs (.inr k) (.ref p2)))=G3 at *
     exists f3
     obtain ⟨A4,_⟩:=A3.lset el3 z3 [w]
     have e4:setL (S.lt++[(k,([]:List Wo))]) k [w]=addL S.lt k w:=by rw [set_new hn,addL,hn]
     rw [show ({S with lt:=S.lt++[(k,([]:List Wo))]}:Pu).lt=S.lt++[(k,[])] from rfl,e4] at A4
     have F4:Fw R as (as++[p2]) H (upd G3 p2 (.lst [wv w])):=by
      have z:=F3.fresh (o:=.lst [wv w]) hp2
      exact ⟨z.kp,z.dom,fun a ha=>by
       rcases List.mem_append.mp ha with ha | ha
       ·exact .inl ha
       ·exact .inr (by rw [show a=p2 by simpa using ha];exact hp2)⟩
     replace A4:RunAt ⟨t.CRun,t.CWalk,t.CTickets⟩ (upd G3 p2 (.lst [wv w])) R (as++[p2]) (.ref p) {S with lt:=addL S.lt k w}:=A4
     generalize upd G3 p2 (.lst [wv w])=G4 at *
     right
     wp_walk
     refine fun c hc=>?_
     have N4:=Kp.new (S:=[]) (o:=.lst []) hc
     exact q (as++[p2]) _ c [] _ (A4.kp N4) (F4.free hc) upd_same .nil (F4.trans (Fw.of N4))
  ·exact absurd ((F.stm (F.sl.2 ts es).choose_spec.choose_spec)).1 (by decide)
theorem ok_Ticketsfinish:Ok T T.fTicketsfinish 2 (spTkFinish t.CTickets):=by
 nomatch T.fTicketsfinish
 ·obtain ⟨tk,tx,dp,da,made,pend,ans,i,w,rfl,_⟩:=h
  rfl
 ·obtain ⟨tk,tx,dp,da,made,pend,ans,i,w,rfl,R,hi,hl,q⟩:=h
  nomatch (pss2 (ps_expr (pmt pv0 T.clTickets (ok_Ticketsshut T) T.fTicketsshut (pa1 pv1))) (ppt (pe_fldC T.clTickets T.naanswers pv0) pv1 pv2)),0
  exists R.ins
  refine ⟨tk,tx,dp,da,made,pend,ans,i,rfl,R,hi,fun H1 R1 K1=>?_⟩
  exists R1.ins,R1.ha,putK_new (wv w) (ans_none fun p hp z=>R.dis p hp (z ▸ hi))
  have n1:=R.n1
  refine ⟨by simp only [ansK,List.length_map];omega,q _ ⟨by rw [upd_ne n1.2];exact R1.ins,by rw [upd_ne R.nda];exact R1.hp,by rw [upd_same];simp [ansK],R.nda,R1.lt,R1.asc,fun p hp=>?_,fun p hp z=>?_,R.small⟩ ?_⟩
  ·rcases List.mem_append.mp hp with hp | hp
   ·exact R.la p hp
   ·rw [show p=(i,w) by simpa using hp]
    exact R.lt i hi
  ·rcases List.mem_append.mp hp with hp | hp
   ·exact R1.dis p hp z
   ·rw [show p=(i,w) by simpa using hp] at z
    simpa using (List.mem_filter.mp z).2
  ·intro b o eb nb
   simp only [List.mem_cons,List.not_mem_nil,or_false,not_or] at nb
   rw [upd_ne nb.2]
   exact K1.at1 eb nb.1
theorem ok_Runtakedone:Ok T T.fRuntakedone 15 (spTDone ⟨t.CRun,t.CWalk,t.CTickets⟩ false):=by
 nomatch T.fRuntakedone
 ·obtain ⟨R,as,sl,S,i,w,N,rfl,_⟩:=h
  rfl
 ·obtain ⟨R,as,sl,S,i,w,N,rfl,A,F,hN,hw,hi,hn,q⟩:=h
  nomatch (pss3 (ps_expr (pmt (pe_fldC T.clRun T.natickets pv0) T.clTickets (ok_Ticketsfinish T) T.fTicketsfinish (pa2 pv1 pv2))) (pif (PW.pt (pw_and (ptc op_eq (pix ix_c (pe_fldC T.clRun T.nasleep pv0) pe_int) pe_str) (pw_and1 (pt_cmpR op_inC pv1 (pix ix_c (pe_fldC T.clRun T.nasleep pv0) pe_int) (by with_unfolding_all rfl))))) (pss_one (ps_ret (pmt pv0 T.clRun (ok_Runwake T) T.fRunwake (pa1 pv1))))) (ps_ret (pe_lst pa_nil))),0
  left
  exists A.ins,A.tk.ins
  refine ⟨R.tk,R.tx,R.dp,R.da,_,_,_,i,w,rfl,A.tk,hi,by have:=F.an;omega,fun H1 T1 K1=>?_⟩
  have K2:Kp [R.tk,R.dp,R.da] H H1:=K1.mono (by simp;try omega)
  have A1:RunAt ⟨t.CRun,t.CWalk,t.CTickets⟩ H1 R as sl (S.done i w):=A.tick T1 K2
  have F1:=A.ftick T1 K2
  have FD:=F.done (i:=i) hw
  have wi:isWo (some i):=isWo_int (by have:=(A.tk.lt i hi).1;omega) (by have:=(A.tk.lt i hi).2;have:=F.md;omega)
  wp_walk
  right
  left
  cases es:S.sl with
  | non=>rw [es] at hn;cases hn
  | wait ts =>
   have hsl:=A1.slp
   rw [show (S.done i w).sl=S.sl from rfl,es] at hsl
   obtain ⟨p,p2,rfl,ep,ep2⟩:=hsl
   simp only [Pu.takeD,es] at q
   exists A1.ins,ep,ep2,in_ints,flat_ints
   refine ⟨rfl,?_⟩
   by_cases ht:i∈ts
   ·rw [if_pos ht] at q
    exists ht,decide_true,A1.ins
    exact ⟨R,as,.ref p,_,some i,N+1,rfl,A1,FD,by omega,wi,.inr ⟨ts,es⟩,fun sl3 c us H3 A3 hc ec hC F3=>q sl3 c us H3 A3 (F1.free hc) ec hC (F1.trans F3)⟩
   ·rw [if_neg ht] at q
    exists ht,decide_false
    right
    wp_walk
    refine fun c hc=>?_
    have N4:=Kp.new (S:=[]) (o:=.lst []) hc
    exact q _ c [] _ (A1.kp N4) (F1.free hc) upd_same .nil (F1.trans (Fw.of N4))
  | new =>
   have hsl:=A1.slp
   rw [show (S.done i w).sl=S.sl from rfl,es] at hsl
   obtain ⟨p,rfl,ep⟩:=hsl
   simp only [Pu.takeD,es] at q
   exists A1.ins,ep
   right
   wp_walk
   refine fun c hc=>?_
   have N4:=Kp.new (S:=[]) (o:=.lst []) hc
   exact q _ c [] _ (A1.kp N4) (F1.free hc) upd_same .nil (F1.trans (Fw.of N4))
  | hear k =>
   have hsl:=A1.slp
   rw [show (S.done i w).sl=S.sl from rfl,es] at hsl
   obtain ⟨p,rfl,ep⟩:=hsl
   simp only [Pu.takeD,es] at q
   exists A1.ins,ep
   right
   wp_walk
   refine fun c hc=>?_
   have N4:=Kp.new (S:=[]) (o:=.lst []) hc
   exact q _ c [] _ (A1.kp N4) (F1.free hc) upd_same .nil (F1.trans (Fw.of N4))
  | ended u =>
   have hsl:=A1.slp
   rw [show (S.done i w).sl=S.sl from rfl,es] at hsl
   obtain ⟨p,rfl,ep⟩:=hsl
   simp only [Pu.takeD,es] at q
   exists A1.ins,ep
   right
   wp_walk
   refine fun c hc=>?_
   have N4:=Kp.new (S:=[]) (o:=.lst []) hc
   exact q _ c [] _ (A1.kp N4) (F1.free hc) upd_same .nil (F1.trans (Fw.of N4))
  | worn =>
   have hsl:=A1.slp
   rw [show (S.done i w).sl=S.sl from rfl,es] at hsl
   obtain ⟨p,rfl,ep⟩:=hsl
   simp only [Pu.takeD,es] at q
   exists A1.ins,ep
   right
   wp_walk
   refine fun c hc=>?_
   have N4:=Kp.new (S:=[]) (o:=.lst []) hc
   exact q _ c [] _ (A1.kp N4) (F1.free hc) upd_same .nil (F1.trans (Fw.of N4))
theorem ok_Runtake:Ok T T.fRuntake 16 (spTakeR ⟨t.CRun,t.CWalk,t.CTickets⟩ false):=by
 nomatch T.fRuntake
 ·obtain ⟨R,as,sl,S,v,h,N,rfl,_⟩:=h
  rfl
 ·obtain ⟨R,as,sl,S,v,h,N,rfl,A,F,hN,hn,hH,ok,q⟩:=h
  nomatch (pss_cons (pif (pt_val (pmt pv0 T.clRun (ok_Runpassesover T) T.fRunpassesover (pa1 pv1))) (pss_one (ps_ret (pe_lst pa_nil)))) (pss_cons (ps_fldC T.clRun T.nanow pv0 (pe_callB (call_maxC rfl) rfl T.zmax bt_max (pa2 (pe_fldC T.clRun T.nanow pv0) (pix ix_c pv1 pe_int)))) (pss3 (pif (ptc op_eq (pix ix_c pv1 pe_int) pe_str) (pss2 (ps_fldC T.clRun T.naarg pv0 (pix ix_c pv1 pe_int)) (ps_ret (pmt0 pv0 T.clRun (ok_Rungoon T) T.fRungoon)))) (pif (ptc op_eq (pix ix_c pv1 pe_int) pe_str) (pss_one (ps_ret (pmt pv0 T.clRun (ok_Runtakedone T) T.fRuntakedone (pa2 (pix ix_c pv1 pe_int) (pix ix_c pv1 pe_int)))))) (ps_ret (pmt pv0 T.clRun (ok_Runtakeletter T) T.fRuntakeletter (pa2 (pix ix_c pv1 pe_int) (pix ix_c pv1 pe_int))))))),0
  left
  exists A.ins
  refine ⟨R,as,sl,S,v,h,rfl,A,hn,hH,fun H1 K1=>?_⟩
  have A1:=A.kp K1
  obtain ⟨a,rfl,eh⟩:=hH
  have eh1:=K1.at eh
  cases ho:S.over h with
  | true =>
   simp only [Pu.take,ho,if_true] at q
   wp_walk
   have F1:=Fw.of (R:=R) (as:=as) K1
   refine fun c hc=>?_
   have N4:=Kp.new (S:=[]) (o:=.lst []) hc
   exact q as _ c [] _ (A1.kp N4) (F1.free hc) upd_same .nil (F1.trans (Fw.of N4))
  | false =>
   simp only [Pu.take,ho,if_false,Bool.false_eq_true] at q
   wp_walk
   right
   cases h with
   | beg m w =>
    simp only [Hap.vs,Hap.ini,Hap.w,List.cons_append,List.nil_append] at eh1
    refine cut_seq fun R2 hR2=>?_
    exists A1.ins,eh1
    have F1:=Fw.of (R:=R) (as:=as) K1
    have A2:=A1.attr sl S.sl S.ar (later S.nw m) A1.slp
    have F2s:=Fw.set (R:=R) (as:=as) (H:=H1) (p:=R.x) (o:=(insZ t.CRun R (sl) S.ar (later S.nw m))) (.inl (by simp [Rn.cells]))
    have eh2:=A1.tkp F2s _ _ eh1
    have F2:=F1.trans F2s
    clear F2s
    change R2 _ (upd H1 R.x (insZ t.CRun R (sl) S.ar (later S.nw m)))
    generalize upd H1 R.x (insZ t.CRun R (sl) S.ar (later S.nw m))=G2 at *
    refine hR2 _ _ ?_
    clear hR2
    clear R2
    exists A2.ins,eh2
    have A3:=A2.attr sl S.sl w (later S.nw m) A2.slp
    have F3:=F2.trans (Fw.set (p:=R.x) (o:=(insZ t.CRun R (sl) w (later S.nw m))) (.inl (by simp [Rn.cells])))
    generalize upd G2 R.x (insZ t.CRun R (sl) w (later S.nw m))=G3 at *
    exists A3.ins
    have FF:Fit false ({S with nw:=later S.nw m,ar:=w,sl:=.non}:Pu) N:={F with pl:=⟨F.pl.nm,ok.2,F.pl.an⟩,nw:=(F.at' ok.1).nw,sl:=⟨fun k e=>(by cases e),fun k e=>(by cases e)⟩}
    exact ⟨R,as,sl,_,N,rfl,A3,FF,by omega,fun sl3 c us H3 A4 hc ec hC F4=>q as sl3 c us H3 A4 (F3.free hc) ec hC (F3.trans F4)⟩
   | don m i w =>
    simp only [Hap.vs,Hap.ini,Hap.w,List.cons_append,List.nil_append] at eh1
    have hi:i∈S.pend:=by
     cases es:S.sl<;>simp only [Pu.over,es,Bool.not_eq_false',decide_eq_true_eq] at ho
     all_goals first | exact ho | cases ho
    refine cut_seq fun R2 hR2=>?_
    exists A1.ins,eh1
    have F1:=Fw.of (R:=R) (as:=as) K1
    have A2:=A1.attr sl S.sl S.ar (later S.nw m) A1.slp
    have F2s:=Fw.set (R:=R) (as:=as) (H:=H1) (p:=R.x) (o:=(insZ t.CRun R (sl) S.ar (later S.nw m))) (.inl (by simp [Rn.cells]))
    have eh2:=A1.tkp F2s _ _ eh1
    have F2:=F1.trans F2s
    clear F2s
    change R2 _ (upd H1 R.x (insZ t.CRun R (sl) S.ar (later S.nw m)))
    generalize upd H1 R.x (insZ t.CRun R (sl) S.ar (later S.nw m))=G2 at *
    refine hR2 _ _ ?_
    clear hR2
    clear R2
    exists A2.ins,eh2
    exact ⟨R,as,sl,S.at' m,i,w,N,rfl,A2,F.at' ok.1,by omega,ok.2,hi,hn,fun sl3 c us H3 A4 hc ec hC F4=>q as sl3 c us H3 A4 (F2.free hc) ec hC (F2.trans F4)⟩
   | ltr m k w =>
    simp only [Hap.vs,Hap.ini,Hap.w,List.cons_append,List.nil_append] at eh1
    have hs:(∃ k,S.sl=.hear k)∨∃ ts,S.sl=.wait ts:=by
     cases es:S.sl with
     | hear k=>exact .inl ⟨k,rfl⟩
     | wait ts=>exact .inr ⟨ts,rfl⟩
     | non=>rw [es] at hn;cases hn
     | _=>simp only [Pu.over,es] at ho;cases ho
    refine cut_seq fun R2 hR2=>?_
    exists A1.ins,eh1
    have F1:=Fw.of (R:=R) (as:=as) K1
    have A2:=A1.attr sl S.sl S.ar (later S.nw m) A1.slp
    have F2s:=Fw.set (R:=R) (as:=as) (H:=H1) (p:=R.x) (o:=(insZ t.CRun R (sl) S.ar (later S.nw m))) (.inl (by simp [Rn.cells]))
    have eh2:=A1.tkp F2s _ _ eh1
    have F2:=F1.trans F2s
    clear F2s
    change R2 _ (upd H1 R.x (insZ t.CRun R (sl) S.ar (later S.nw m)))
    generalize upd H1 R.x (insZ t.CRun R (sl) S.ar (later S.nw m))=G2 at *
    refine hR2 _ _ ?_
    clear hR2
    clear R2
    exists A2.ins,eh2
    exact ⟨R,as,sl,S.at' m,k,w,N,rfl,A2,F.at' ok.1,by omega,ok.2,hs,fun as' sl3 c us H3 A4 hc ec hC F4=>q as' sl3 c us H3 A4 (F2.free hc) ec hC (F2.trans F4)⟩
theorem ok_Runwaits:Ok T T.fRunwaits 1 (spWaitsR ⟨t.CRun,t.CWalk,t.CTickets⟩):=by
 nomatch T.fRunwaits
 ·obtain ⟨R,as,sl,S,rfl,_⟩:=h
  rfl
 ·obtain ⟨R,as,sl,S,rfl,A,q⟩:=h
  nomatch (pss_one (ps_ret (pe_fldC T.clRun T.nasleep pv0))),0
  exists A.ins
  exact q
theorem ok_law:Ok T T.flaw 40 (spLaw K):=by
 nomatch T.flaw
 ·obtain ⟨a,ns,rfl,_⟩:=h
  rfl
 ·obtain ⟨a,ns,rfl,hS,h63,q⟩:=h
  nomatch (pss_cons (pst 1 (pe_lst (pa1 (pe_lst (pa_n pe_str (pa3 pe_non (pe_lst pa_nil) pe_non)))))) (pss_cons (ps_for PassesOwn.never rfl (pi_range1 rfl T.zrange (pa1 (pe_callB (call_minC rfl) rfl T.zmin bt_min (pa2 pe_int (pe_callB (call_maxC rfl) rfl T.zmax bt_max (pa2 pe_int (pe_op op_sub (pe_callB call_lenK rfl T.zlen bt_len (pa1 pv0)) pe_int))))))) (pgn 2) (pss_one (ps_expr (pcl (ok_lawpiece T) T.flawpiece (pa3 pv1 (pcl (ok_lawdeck T) T.flawdeck (pa2 (pix ix_list pv0 (pe_op op_addC pe_int pv2)) pe_int)) pv2))))) (pss_cons (ps_while PassesOwn.never (ptc op_gt (pe_callB call_lenC rfl T.zlen bt_len (pa1 pv1)) pe_int) (pss_one (ps_expr (pcl (ok_lawclosed T) T.flawclosed (pa1 pv1))))) (pss_cons (pst 3 (pcl (ok_lawworth T) T.flawworth (pa1 (pcl (ok_lawdeck T) T.flawdeck (pa2 (pcl (ok_lawcellat T) T.flawcellat (pa2 pv0 pe_int)) pe_int))))) (pss_cons (pst 4 (pcl (ok_lawpick T) T.flawpick (pa2 (pcl (ok_lawdeck T) T.flawdeck (pa2 (pcl (ok_lawcellat T) T.flawcellat (pa2 pv0 pe_int)) pe_int)) (pe_op op_addC (pe_op op_pow pe_int pe_int) pe_int)))) (pss_cons (pst 5 (pe_disp (pps_cons pe_str pe_dnewK (pps_cons pe_str pv3 (pps_cons pe_str pv4 (pps_cons pe_str pe_int (pps_cons pe_str (pe_lst pa_nil) (pps_cons pe_str (pe_lst pa_nil) (pps_cons pe_str pe_bl pps_nil))))))) rfl rfl (List.cons_ne_nil _ _) (by decide))) (pss_cons (pst 6 (pe_lst pa_nil)) (pss_cons (ps_expr (pcl (ok_lawgone T 6) T.flawgone (pa3 (pix ix_c (pix ix_c pv1 pe_int) pe_int) pv5 pv6))) (pss_cons (pif (pt_not (pt_val (pdg pv5 pe_str))) (pss_one (ps_expr (pe_appC pv6 (pe_tup (pa2 pe_str pe_non)))))) (pss3 (pst 7 (pe_make T.mkRun (ok_Runinit T) (hr.mono (by omega)) rfl T.mRun T.fRuninit.bd .nil pass0 (pa1 (pe_callTy call_tupC rfl T.ztuple bt_tuple (pa1 (pix ix_c (pix ix_c pv1 pe_int) pe_int)))))) (pif (pt_not (pt_val (pcl (ok_lawalike T 3) T.flawalike (pa2 (pmt pv7 T.clRun (ok_Runtake T) T.fRuntake (pa1 (pe_tup (pa3 pe_str pv4 pv3)))) pv6)))) (pss_one (ps_ret pe_bl))) (ps_ret (pe_and (pcl (ok_lawalike T 3) T.flawalike (pa2 (pmt0 pv7 T.clRun (ok_Runwaits T) T.fRunwaits) (pe_tup (pa2 pe_str (pix ix_c (pix ix_c pv6 (pe_un un_neg pe_int)) pe_int))))) (pe_one (pcr (op_eqA 1 (hu_n hr (by decide))) (pmt pv7 T.clRun (ok_Runtake T) T.fRuntake (pa1 (pe_tup (pa_n pe_str (pa3 pe_int pe_str pe_int))))) (pe_lst pa_nil))))))))))))))),0
  left
  wp_walk
  refine fun f1 h1 fa h2 fl h3=>?_
  have n1:fa≠f1:=fun z=>by rw [z,upd_same] at h2;cases h2
  have n2:fl≠fa:=fun z=>by rw [z,upd_same] at h3;cases h3
  have n3:fl≠f1:=fun z=>by rw [z,upd_ne n1.symm,upd_same] at h3;cases h3
  have e1:upd (upd (upd H f1 (.lst [])) fa (.lst [.str "",.non,.ref f1,.non])) fl (.lst [.ref fa]) f1=some (.lst []):=by rw [upd_ne n3.symm,upd_ne n1.symm,upd_same]
  have e2:upd (upd (upd H f1 (.lst [])) fa (.lst [.str "",.non,.ref f1,.non])) fl (.lst [.ref fa]) fa=some (.lst [.str "",.non,.ref f1,.non]):=by rw [upd_ne n2.symm,upd_same]
  have e3:upd (upd (upd H f1 (.lst [])) fa (.lst [.str "",.non,.ref f1,.non])) fl (.lst [.ref fa]) fl=some (.lst [.ref fa]):=upd_same
  have K1:Kp [] H (upd (upd (upd H f1 (.lst [])) fa (.lst [.str "",.non,.ref f1,.non])) fl (.lst [.ref fa])):=((Kp.new h1).trans (Kp.new h2)).trans (Kp.new h3)
  have z2:H fa=none:=by rw [upd_ne n1] at h2;exact h2
  have z3:H fl=none:=by rw [upd_ne n2,upd_ne n3] at h3;exact h3
  have F1:FsAt (upd (upd (upd H f1 (.lst [])) fa (.lst [.str "",.non,.ref f1,.non])) fl (.lst [.ref fa])) fl ([]++[(⟨fa,f1,none⟩,⟨none,[],none⟩)]):=⟨e3,fun x hx=>by
   rw [show x=(⟨fa,f1,none⟩,⟨none,[],none⟩) by simpa using hx]
   exact ⟨_,_,[],e2,⟨rfl,rfl⟩,e1,.nil,trivial⟩,by simp [cellsL,FC.cells,n1,n2,n3]⟩
  have fr1:∀ a∈fl::cellsL ([]++[((⟨fa,f1,none⟩:FC),(⟨none,[],none⟩:Fr))]),H a=none:=fun a ha=>by
   simp only [List.nil_append,cellsL,List.flatMap_cons,List.flatMap_nil,FC.cells,Option.toList_none,List.append_nil,List.mem_cons,List.not_mem_nil,or_false] at ha
   rcases ha with rfl | rfl | rfl
   ·exact z3
   ·exact z2
   ·exact h1
  generalize upd (upd (upd H f1 (.lst [])) fa (.lst [.str "",.non,.ref f1,.non])) fl (.lst [.ref fa])=G1 at *
  clear e1 e2 e3 h2 h3 z2 z3
  have hS1:=K1.same.seq hS
  right
  left
  wp_walk
  refine ⟨_,hS1,?_⟩
  rw [List.length_map]
  obtain ⟨z,hz,z0,z20,zl⟩:∃ z:Int,(if (if (ns.length:Int) - 2 > 0 then (ns.length:Int) - 2 else 0) < 20 then if (ns.length:Int) - 2 > 0 then (ns.length:Int) - 2 else 0 else 20)=z∧0≤z∧z≤20∧(z=0∨z≤(ns.length:Int) - 2):=by
   refine ⟨_,rfl,?_⟩
   repeat' split
   all_goals omega
  rw [hz]
  refine ⟨⟨by omega,by omega⟩,?_⟩
  obtain ⟨Pv,hPv⟩:∃ Pv:Nat→St→Hp→Prop,∀ i σ G,Pv i σ G=E3 fun(u:Option V) (I:List (FC×Fr)) (x:FC×Fr)=>A5 (σ=[some (.ref a),some (.ref fl),u,none,none,none,none,none]) (FsAt G fl (I++[x])) (G16 i (frs16 (I++[x]))) ((∀ a∈fl::cellsL (I++[x]),H a=none)) (Kp [] H G):=⟨_,fun _ _ _=>rfl⟩
  refine for_range (lo:=0) (n:=z.toNat) Pv ?_ ?_ ?_
  ·rw [hPv]
   exact ⟨none,[],_,rfl,F1,G16.start,fr1,K1⟩
  ·intro i σ G hi h
   rw [hPv] at h
   obtain ⟨u,I,x,rfl,F,g,fr,KG⟩:=h
   have hSG:=KG.same.seq hS
   have hil:2+i < ns.length:=by omega
   have ei:atI (ns.map V.int) (((2+i:Nat)):Int)=some (.int ns[2+i]):=atI_nat (by rw [List.getElem?_map,List.getElem?_eq_getElem hil];rfl)
   rw [show ((2+i:Nat):Int)=2+(0+(i:Int)) by omega] at ei
   wp_walk
   refine ⟨a,_,_,_,rfl,rfl,hSG,ei,?_⟩
   wp_walk
   refine ⟨ns[2+i],3,rfl,fun dk G3 hdk K3 RD=>?_⟩
   wp_walk
   rw [Int.zero_add]
   refine ⟨fl,dk,i,I,x,rfl,by omega,F.kp K3,g,RD,F.free hdk,fun I' x' G' F' g' hc K'=>?_⟩
   wp_walk
   rw [hPv]
   refine ⟨_,I',x',rfl,F',g',fun b hb=>?_,fun b o e _=>?_⟩
   ·rcases hc b hb with z | z
    ·exact fr b z
    ·exact (KG.trans K3).wasFree z
   ·refine K' b o (K3.at (KG.at e)) fun z=>?_
    rcases List.mem_cons.mp z with z | z
    ·rw [z,KG.wasFree hdk] at e;cases e
    ·rw [fr b z] at e;cases e
  intro σ G h
  rw [hPv] at h
  obtain ⟨u,I,x,rfl,F,g,fr,KG⟩:=h
  clear hPv F1 fr1 K1 hS1
  obtain ⟨gf,pw,ct⟩:=E16 g (by omega)
  clear g
  right
  left
  refine cut_wh fun tb htb=>?_
  obtain ⟨Y,hY⟩:∃ Y:Nat→St→Hp→Prop,∀ m σ G,Y m σ G=E2 fun(I:List (FC×Fr)) (x:FC×Fr)=>A8 (σ=[some (.ref a),some (.ref fl),u,none,none,none,none,none]) (FsAt G fl (I++[x])) ((∀ j f,(frs16 (I++[x]))[j]?=some f→Gf 20 j f)) ((frs16 (I++[x])).Pairwise Below) (ctF (frs16 (I++[x]))≤252) ((∀ a∈fl::cellsL (I++[x]),H a=none)) (Kp [] H G) (m=I.length):=⟨_,fun _ _ _=>rfl⟩
  refine ⟨Y,⟨_,(hY _ _ _).mpr ⟨I,x,rfl,F,gf,pw,ct,fr,KG,rfl⟩⟩,?_⟩
  clear F gf pw ct fr KG I x
  intro m σ G hG
  rw [hY] at hG
  obtain ⟨I,x,rfl,F,gf,pw,ct,fr,KG,rfl⟩:=hG
  have efl:=F.e
  have le:((I++[x]).map fun x=>V.ref x.1.fa).length=I.length+1:=by simp
  have lsz:∀ z∈I++[x],z.2.b1.length≤1000∧(z.2.b2.getD []).length≤1000:=fun z hz=>by
   have m:z.2.ins≤ctF (frs16 (I++[x])):=ct_mem (List.mem_map.mpr ⟨z,hz,rfl⟩)
   have a:=ctL_len z.2.b1
   have b:=ctL_len (z.2.b2.getD [])
   unfold Fr.ins at m
   omega
  have gx:=gf I.length x.2 (by simp [frs16])
  exists efl,le
  by_cases l0:0 < I.length
  ·rw [if_pos (by omega)]
   refine ⟨fun σ' G'=>∃ m',m' < I.length∧Y m' σ' G',fun _ _ z=>z,?_⟩
   refine htb _ _ _ ?_
   clear htb tb
   obtain ⟨I',y,rfl⟩:∃ I' y,I=I'++[y]:=⟨I.dropLast,I.getLast (fun z=>by rw [z] at l0;simp at l0),(List.dropLast_concat_getLast _).symm⟩
   obtain ⟨i0,s0,hh,hs0⟩:=gx.h1 (by omega)
   wp_walk
   refine ⟨fl,I',y,x,i0,s0,rfl,F,hh,lsz,fun G5 F5 K5=>?_⟩
   rw [frs_snoc,frs_snoc] at gf pw ct
   obtain ⟨c1,c2,c3⟩:=close0 gf pw hh
   refine ⟨I'.length,by simp,(hY _ _ _).mpr ⟨I',_,rfl,F5,by rw [frs_snoc];exact c1,by rw [frs_snoc];exact c2,by rw [frs_snoc,c3];exact ct,fun a ha=>fr a ?_,?_,rfl⟩⟩
   ·rw [cells_app,cells_one] at ha
    rw [cells_app,cells_app,cells_one]
    rcases List.mem_cons.mp ha with ha | ha
    ·simp [ha]
    ·rcases List.mem_append.mp ha with ha | ha
     ·simp [ha]
     ·simp [show a∈y.1.cells from ha]
   ·intro b o e _
    refine K5 b o (KG.at e) (fun z=>?_)
    have:b∈fl::cellsL (I'++[y]++[x]):=by
     rw [cells_app,cells_app,cells_one]
     rcases List.mem_cons.mp z with z | z
     ·simp [z]
     ·simp [z]
    rw [fr b this] at e
    cases e
  rw [if_neg (by omega)]
  have hI:I=[]:=by cases I with | nil=>rfl | cons _ _=>simp at l0
  subst hI
  clear hY htb tb Y lsz
  right
  obtain ⟨hux,hvx,usx,x1,x2,x3,x4,x5⟩:=F.fr x (by simp)
  replace efl:G fl=some (.lst [.ref x.1.fa]):=efl
  have cb:ctL x.2.b1≤252:=by
   have m:x.2.ins≤ctF (frs16 ([]++[x])):=ct_mem (List.mem_map.mpr ⟨x,by simp,rfl⟩)
   unfold Fr.ins at m
   omega
  have lus:=x4.len
  have lb:=ctL_len x.2.b1
  obtain ⟨gd,lp,dp⟩:gdL false x.2.b1∧lpL PL x.2.b1∧dpL x.2.b1≤5:=⟨gx.g1,gx.l1,by have:=gx.d1;simpa using this⟩
  generalize x.2.b1=pb at *
  have hSG:=KG.same.seq hS
  clear x2 x5 F gf pw ct gx fr
  generalize x.1.f1=fb at *
  generalize x.1.fa=ff at *
  generalize rv x.1.f2=vf at *
  left
  wp_walk
  refine ⟨a,ns,0,rfl,hSG,by decide,fun z=>?_⟩
  wp_walk
  refine ⟨z,5,rfl,fun dk2 G7 hdk2 K7 RD7=>?_⟩
  wp_walk
  refine ⟨dk2,_,rfl,RD7,by omega,fun w G8 hw _ K8=>?_⟩
  have K78:Kp [] G G8:=fun b o e _=>K8.at1 (K7.at e) (ne_of_none e hdk2)
  replace KG:=KG.trans K78
  replace efl:=K78.at efl
  replace x1:=K78.at x1
  replace x3:=K78.at x3
  replace x4:=x4.kp (TupKp.nil K78)
  replace hSG:=KG.same.seq hS
  clear K7 K8 RD7 K78 hdk2
  wp_walk
  right
  left
  wp_walk
  refine ⟨a,ns,1,rfl,hSG,by decide,fun z=>?_⟩
  wp_walk
  refine ⟨z,6,rfl,fun dk G9 hdk K9 RD=>?_⟩
  wp_walk
  refine ⟨_,RD,by omega,fun mo G10 mo0 mo1 _ K10=>?_⟩
  have K78:Kp [] G8 G10:=fun b o e _=>K10.at1 (K9.at e) (ne_of_none e hdk)
  replace KG:=KG.trans K78
  replace efl:=K78.at efl
  replace x1:=K78.at x1
  replace x3:=K78.at x3
  replace x4:=x4.kp (TupKp.nil K78)
  clear K9 K10 RD K78 hdk hSG
  replace mo1:mo≤1000000000000:=by omega
  right
  left
  wp_walk
  refine fun md m1 nd m2 od m3 dd m4=>?_
  have M1:=Kp.new (S:=[]) (o:=.dK []) m1
  have M2:=Kp.new (S:=[]) (o:=.dK []) m2
  have M3:=Kp.new (S:=[]) (o:=.lst []) m3
  have M4:=Kp.new (S:=[]) (o:=.lst []) m4
  have s1:upd G10 md (.dK []) md=some (.dK []):=upd_same
  have s2:upd (upd G10 md (.dK [])) nd (.dK []) nd=some (.dK []):=upd_same
  have s3:upd (upd (upd G10 md (.dK [])) nd (.dK [])) od (.lst []) od=some (.lst []):=upd_same
  have s4:upd (upd (upd (upd G10 md (.dK [])) nd (.dK [])) od (.lst [])) dd (.lst []) dd=some (.lst []):=upd_same
  have n1:=ne_of_none s1 m2
  have n2:=ne_of_none s3 m4
  have f1:=((M2.trans M3).trans M4).at s1
  have f2:=(M3.trans M4).at s2
  have f3:=M4.at s3
  have MM:=((M1.trans M2).trans M3).trans M4
  have nfo:fb≠od:=ne_of_none ((M1.trans M2).at x3) m3
  replace KG:=KG.trans MM
  replace efl:=MM.at efl
  replace x1:=MM.at x1
  replace x3:=MM.at x3
  replace x4:=x4.kp (TupKp.nil MM)
  generalize upd (upd (upd (upd G10 md (.dK [])) nd (.dK [])) od (.lst [])) dd (.lst [])=G9 at *
  clear M1 M2 M3 M4 m1 m2 m3 m4 s1 s2 s3 MM
  refine ⟨f1,[(.inr "names",.ref nd),(.inr "arg",wv w),(.inr "now",.int mo),(.inr "made",.int 0),(.inr "open",.ref od),(.inr "done",.ref dd),(.inr "over",.bl false)],rfl,by simp,?_⟩
  rw [sevs]
  have f0:upd G9 md (.dK [(.inr "names",.ref nd),(.inr "arg",wv w),(.inr "now",.int mo),(.inr "made",.int 0),(.inr "open",.ref od),(.inr "done",.ref dd),(.inr "over",.bl false)]) md=some (.dK [(.inr "names",.ref nd),(.inr "arg",wv w),(.inr "now",.int mo),(.inr "made",.int 0),(.inr "open",.ref od),(.inr "done",.ref dd),(.inr "over",.bl false)]):=upd_same
  have M:MdAt (upd G9 md (.dK [(.inr "names",.ref nd),(.inr "arg",wv w),(.inr "now",.int mo),(.inr "made",.int 0),(.inr "open",.ref od),(.inr "done",.ref dd),(.inr "over",.bl false)])) md nd od dd (baseP w mo) :=
   ⟨⟨_,f0,⟨by simp,by simp [valV,w_sinj,baseP,Slp.isN]⟩,by simp [valV],by simp [valV,w_sinj,baseP],by simp [valV,w_sinj,baseP],by simp [valV,w_sinj,baseP],by simp [valV,w_sinj],by simp [valV,w_sinj]⟩,by rw [upd_ne n1.symm];exact f2,keepU f1 f3,keepU f1 s4,rfl,n1,n2,.nil,by simp [baseP]⟩
  have t9:TupKp G9 (upd G9 md (.dK [(.inr "names",.ref nd),(.inr "arg",wv w),(.inr "now",.int mo),(.inr "made",.int 0),(.inr "open",.ref od),(.inr "done",.ref dd),(.inr "over",.bl false)])):=TupKp.setO f1
  replace efl:=keepU f1 efl (u:=.dK [(.inr "names",.ref nd),(.inr "arg",wv w),(.inr "now",.int mo),(.inr "made",.int 0),(.inr "open",.ref od),(.inr "done",.ref dd),(.inr "over",.bl false)])
  replace x1:=keepU f1 x1 (u:=.dK [(.inr "names",.ref nd),(.inr "arg",wv w),(.inr "now",.int mo),(.inr "made",.int 0),(.inr "open",.ref od),(.inr "done",.ref dd),(.inr "over",.bl false)])
  replace x3:=keepU f1 x3 (u:=.dK [(.inr "names",.ref nd),(.inr "arg",wv w),(.inr "now",.int mo),(.inr "made",.int 0),(.inr "open",.ref od),(.inr "done",.ref dd),(.inr "over",.bl false)])
  replace x4:=x4.kp t9
  generalize upd G9 md (.dK [(.inr "names",.ref nd),(.inr "arg",wv w),(.inr "now",.int mo),(.inr "made",.int 0),(.inr "open",.ref od),(.inr "done",.ref dd),(.inr "over",.bl false)])=GA at *
  clear f0 f1 f2 f3 s4 t9 n1 n2
  right
  left
  wp_walk
  refine fun op hop=>?_
  generalize hg:upd GA op (.lst [])=GB
  have N7:Kp [] GA GB:=hg ▸ Kp.new hop
  have eo:GB op=some (.lst []):=hg ▸ upd_same
  clear hg
  have no1:op≠od:=(ne_of_none M.ho hop).symm
  have no2:op≠dd:=(ne_of_none M.hd hop).symm
  have nop:fb≠op:=ne_of_none x3 hop
  replace M:=M.kp N7
  replace efl:=N7.at efl
  replace x1:=N7.at x1
  replace x3:=N7.at x3
  replace x4:=x4.kp (TupKp.nil N7)
  clear N7 hop
  right
  left
  exists efl,x1
  obtain ⟨n,S',c,hG,hn⟩:=Gb.ex pb lp (baseP w mo) (fun x _=>Int.le_refl 0) rfl
  obtain ⟨Sf,w',cl,eg,hf,hcl⟩:=fin16 hG (by omega)
  have fit:=fit_beg (wt:=false) gd (by omega) ⟨mo0,mo1⟩ hw
  rw [eg] at fit
  replace fit:Fit false Sf 300:=fit
  have am:Am GB GB md nd od dd op S' c 300 (baseP w mo) pb n:=⟨⟨c,[],[],hG,eo,.nil,rfl,by simp;omega⟩,M,rfl,⟨0,⟨Nat.le_refl _,Nat.le_refl _,Nat.le_refl _,⟨fun _=>isWo_non,hw,fun x=>(by show isWo (lookA [] x);rw [lookA_nil];exact isWo_non)⟩⟩,by omega⟩,Kp.refl⟩
  refine ⟨fb,md,nd,od,dd,op,true,usx,pb,baseP w mo,S',c,n,300,rfl,x3,x4,gd,by omega,am,by decide,no1,no2,nop,nfo,fun GC h1 h2=>?_⟩
  have few:(cl++[[V.str (Str.ofString "end"),wv w']]).length≤1000∧∀ x∈cl++[[V.str (Str.ofString "end"),wv w']],x.length≤1000∧∀ v∈x,AtomV v:=by
   have lc:=hG.len
   have at':=hG.atoms
   rcases hcl with ⟨_,rfl,_⟩ | ⟨_,e⟩
   ·refine ⟨by rw [List.length_append];simp;omega,fun x hx=>?_⟩
    rcases List.mem_append.mp hx with hx | hx
    ·exact at' x hx
    ·rw [show x=[.str "end",wv w'] by simpa using hx];exact ⟨by simp,end_atoms w'⟩
   ·rw [e];exact ⟨by omega,at'⟩
  have keep:∀ {G':Hp},Kp [md,nd,od,op] GB G'→G' fl=some (.lst [.ref ff])∧G' ff=some (.lst [hux,hvx,.ref fb,vf])∧G' fb=some (.lst usx)∧StmsAt G' usx pb:=fun {G'} K=>by
   obtain ⟨kv,em,_⟩:=M.hm
   have go:∀ {b:Addr} {l:List V},GB b=some (.lst l)→(b≠od∧b≠op)→G' b=some (.lst l):=fun {b l} e h=>K b _ e (by
    simp only [List.mem_cons,List.not_mem_nil,or_false,not_or]
    exact ⟨ne_of e em (by intro z;cases z),ne_of e M.hn (by intro z;cases z),h.1,h.2⟩)
   exact ⟨go efl ⟨ne_of efl M.ho (by intro z;cases z),ne_of efl eo (by intro z;cases z)⟩,go x1 ⟨ne_of x1 M.ho (by intro z;cases z),ne_of x1 eo (by intro z;cases z)⟩,go x3 ⟨nfo,nop⟩,x4.kp (am.tk K)⟩
  wp_walk
  right
  refine cut_seq fun R9 hR9=>?_
  have rest:∀(GD:Hp) (uo:List V),GD op=some (.lst uo)→CsAt GD uo (cl++[[.str "end",wv w']])→Kp [md,nd,od,op] GB GD→R9 [some (.ref a),some (.ref fl),u,some (wv w),some (.int mo),some (.ref md),some (.ref op),none] GD:=fun GD uo eo hC KD=>by
   refine hR9 _ _ ?_
   obtain ⟨k1,k2,k3,k4⟩:=keep KD
   refine cut_seq fun RX hRX=>?_
   have nxt:∀(R:Rn) (sl:V) (G:Hp),RunAt ⟨t.CRun,t.CWalk,t.CTickets⟩ G R [] sl (newP pb)→Kp [] GD G→(∀ a∈R.cells,GD a=none)→RX [some (.ref a),some (.ref fl),u,some (wv w),some (.int mo),some (.ref md),some (.ref op),some (.ref R.x)] G:=fun R sl G A KX NR=>by
    refine hRX _ _ ?_
    clear hRX keep
    have eo2:=KX.at eo
    exists A.ins,eo2
    refine fun h mh=>?_
    generalize hg:upd G h (.tup [.str "begin",.int mo,wv w])=G3
    have N3:Kp [] G G3:=hg ▸ Kp.new mh
    have eh:G3 h=some (.tup [.str "begin",.int mo,wv w]):=hg ▸ upd_same
    clear hg
    replace A:=A.kp N3
    replace KX:=KX.trans N3
    refine ⟨R,[],_,newP pb,.ref h,.beg mo w,0,rfl,A,fit_new gd (by omega),by decide,rfl,⟨h,rfl,eh⟩,⟨⟨mo0,mo1⟩,hw⟩,fun as' sl2 cc uc G4 A4 hc ec hC2 F4=>?_⟩
    rw [take_new mo0,eg] at A4 hC2
    replace A4:RunAt ⟨t.CRun,t.CWalk,t.CTickets⟩ G4 R as' sl2 Sf:=A4
    replace hC2:CsAt G4 uc (cl++[[.str "end",wv w']]):=hC2
    have K4:Kp [] GD G4:=F4.kpNew KX (fun a ha=>by
     rcases ha with ha | ha
     ·exact NR a ha
     ·simp at ha)
    have eo4:=K4.at eo
    have hC4:=hC.kt (TupKp.nil K4)
    clear A F4 eh mh N3 hc KX eo2 hC
    wp_walk
    refine ⟨.ref cc,.ref op,3,rfl,rfl,AlD.cmdsG ec eo4 hC2 hC4 few.1 few.2,fun G7 K7=>?_⟩
    replace A4:=A4.kp K7
    replace eo4:=K7.at eo4
    replace hC4:=hC4.kt (TupKp.nil K7)
    clear ec hC2 K7 K4
    exists A4.ins
    refine ⟨R,as',_,Sf,rfl,A4,?_⟩
    have sp:=A4.slp
    rw [hf] at sp
    obtain ⟨pe,rfl,ee⟩:=sp
    obtain ⟨ul,pl,rfl,epl⟩:=hC4.last
    exists eo4,atI_last ul (V.ref pl),epl
    refine fun p5 m5=>?_
    have M5:=Kp.new (S:=[]) (o:=.tup [.str "ended",wv w']) m5
    have f5:upd G7 p5 (.tup [.str "ended",wv w']) p5=some (.tup [.str "ended",wv w']):=upd_same
    refine ⟨.ref pe,.ref p5,3,rfl,rfl,AlD.pair (M5.at ee) f5 (by simp) (by
     intro v hv
     simp only [List.mem_cons,List.not_mem_nil,or_false] at hv
     rcases hv with rfl | rfl
     ·trivial
     ·exact wv_atom w'),fun G9 K9=>?_⟩
    replace A4:=(A4.kp M5).kp K9
    clear f5 M5 m5 ee epl eo4 hC4 K9
    exists A4.ins
    refine fun h2 mh2=>?_
    have N3:=Kp.new (S:=[]) (o:=.tup [.str "letter",.int 5,.str "k",.int 1]) mh2
    have eh:upd G9 h2 (.tup [.str "letter",.int 5,.str "k",.int 1]) h2=some (.tup [.str "letter",.int 5,.str "k",wv (some 1)]):=upd_same
    replace A4:=A4.kp N3
    refine ⟨R,as',_,Sf,.ref h2,.ltr 5 "k" (some 1),300,rfl,A4,fit,by decide,by rw [hf];rfl,⟨h2,rfl,eh⟩,⟨⟨by decide,by decide⟩,isWo_int (by decide) (by decide)⟩,fun as2 sl3 c3 uc3 G10 A10 hc3 ec3 hC3 F10=>?_⟩
    rw [over16 hf] at hC3
    cases hC3
    wp_walk
    refine fun p2 m2=>⟨true,nil_eq (n:=0) ((Kp.new (S:=[]) m2).at ec3) upd_same,?_⟩
    wp_walk
    exact q _
   clear hRX
   exists k1,k2,k3
   refine fun l hl=>?_
   have N:=Kp.new (S:=[]) (o:=.tup usx) hl
   exact mk_run upd_same (k4.kp (TupKp.nil N)) fun R sl G RA K NR=>nxt R sl G RA (N.trans K) (fun a ha=>N.wasFree (NR a ha))
  clear hR9
  rcases hcl with ⟨hs,rfl,rfl⟩ | ⟨hs,hc⟩
  ·have A9:=h1 hs
   obtain ⟨e,cs,uo,g1,g2,g3,g4,g5⟩:=A9.gb
   obtain ⟨kvs,em,⟨_,vo⟩,_⟩:=A9.M.hm
   rw [A9.sn] at vo
   replace vo:valV kvs (.inr "over")=some (.bl false):=vo
   cases g1
   rw [List.append_nil] at g4
   subst g4
   exists em,vo,g2
   refine fun pe hpe=>?_
   have N:=Kp.new (S:=[]) (o:=.tup [.str "end",.non]) hpe
   have lc:=g3.len
   have g6:=N.at g2
   exists g6
   exact ⟨by omega,rest _ _ upd_same (((g3.kt (TupKp.nil N)).app (.cons upd_same .nil)).kt (TupKp.setO g6)) ((A9.kp.trans (N.mono (by simp))).trans (Kp.set (by simp)))⟩
  ·obtain ⟨⟨uo,g2,g3⟩,⟨kvs,em,vo⟩,_,kp⟩:=h2 hs
   exists em,vo
   exact rest _ uo g2 (by rw [hc];exact g3) kp
end
theorem walkX_of {q:Program} {loose:List Str} {XP:(Str→Option Value)→Heap→Prop} {K:Params→PySem.W.Frag} {as:List Addr} {n t:Nat} {r:PySem.W.RowW} {d:DefRec} {kwd:List (Str×Expr)} {run:Value→List Value→Sem Value} (e:∀ P:Params,as=List.map (fun x=>x.fst) (K P)) (H:PySem.W.WalkO q loose XP (PySem.W.kHook K as e).says r d kwd run):PySem.W.WalkX q loose XP (PySem.W.X.obsZ as) (PySem.W.X.valZ K n t) r d kwd run:=fun w s₀ s₁ mg mb G y a o pm cd doc dV kV h1 h2 h3 h4 h5 h6 args vals bs L=>by
 obtain ⟨_,f,_,_⟩:=PySem.W.X.z_facts e y
 exact H w s₀ s₁ mg mb G (show PySem.W.InK K w s₁.heap from fun p ob hp=>L.keeps _ _ (f p ob hp)) a o pm cd doc dV kV h1 h2 h3 h4 h5 h6 args vals bs
section
open PySem.W
theorem all_mk {l:OpenLaw} {w:World} {K:Frag} {h:Heap} {mg:Str→Option Value} {fa:Addr} (X:K.In h) (G:h.Ns mainGlobals mg) (hfa:mg "law"=some (.ref fa)) {f0 f1 f2 f3 f4 f5 f6 f7 f8 f9 f10 f11 f12 f13 f14 f15 f16 f17 f18 f19 f20 f21 f22 f23 f24 f25 f26 f27 f28 f29 f30 f31 f32 f33 f34 f35 f36 f37 f38 f39 f40 f41 f42 f43 f44 f45 f46 f47 f48 f49 f50 f51 f52 f53 f54 f55:Addr} {d0 d1 d2 d3 d4 d5 d6 d7 d8 d9 d10 d11 d12 d13 d14 d15 d16 d17 d18 d19 d20 d21 d22 d23 d24 d25 d26 d27 d28 d29 d30 d31 d32 d33 d34 d35 d36 d37 d38 d39 d40 d41 d42 d43 d44 d45 d46 d47 d48 d49 d50 d51 d52 d53 d54 d55:FuncData} {CTickets:Addr} {CWalk:Addr} {CRun:Addr} {tk0:Tok} {tk1:Tok} {tk2:Tok} {tp3:Addr} {te3:Array DictEntry} {tn3:Nat} (aCTickets:nsIn K mainGlobals "Tickets"=some (some (.ref CTickets))) (pgTickets:plainGet K CTickets Str.empty=true) (hdTickets:hasDictIn K CTickets=true) (poTickets:plainOver K CTickets=true) (saTickets:findIn K (.ref CTickets) "__setattr__"=some (some (.builtin "object.__setattr__"))) (mkTickets:makesIn K CTickets=true) (kcTickets:keepIn K (.ref CTickets)=true) (aCWalk:nsIn K mainGlobals "Walk"=some (some (.ref CWalk))) (pgWalk:plainGet K CWalk Str.empty=true) (hdWalk:hasDictIn K CWalk=true) (poWalk:plainOver K CWalk=true) (saWalk:findIn K (.ref CWalk) "__setattr__"=some (some (.builtin "object.__setattr__"))) (mkWalk:makesIn K CWalk=true) (kcWalk:keepIn K (.ref CWalk)=true) (aCRun:nsIn K mainGlobals "Run"=some (some (.ref CRun))) (pgRun:plainGet K CRun Str.empty=true) (hdRun:hasDictIn K CRun=true) (poRun:plainOver K CRun=true) (saRun:findIn K (.ref CRun) "__setattr__"=some (some (.builtin "object.__setattr__"))) (mkRun:makesIn K CRun=true) (kcRun:keepIn K (.ref CRun)=true) (F0:Gf0 K "kept" s_kept f0 d0) (F1:Gf0 K "worth_of" s_worthof f1 d1) (F2:Gf0 K "joined" s_joined f2 d2) (F3:Gf0 K "number_of" s_numberof f3 d3) (F4:Gf0 K "one_or_nought" s_oneornought f4 d4) (F5:Gm0 K CTickets "__init__" "Tickets.__init__" s_Ticketsinit f5 d5) (F6:Gm0 K CTickets "make" "Tickets.make" s_Ticketsmake f6 d6) (F7:Gm0 K CTickets "is_open" "Tickets.is_open" s_Ticketsisopen f7 d7) (F8:Gm0 K CTickets "finish" "Tickets.finish" s_Ticketsfinish f8 d8) (F9:Gm0 K CTickets "shut" "Tickets.shut" s_Ticketsshut f9 d9) (F10:Gm0 K CTickets "shut_all" "Tickets.shut_all" s_Ticketsshutall f10 d10) (F11:Gm0 K CTickets "first_done" "Tickets.first_done" s_Ticketsfirstdone f11 d11) (F12:Gm0 K CWalk "__init__" "Walk.__init__" s_Walkinit f12 d12) (F13:Gm0 K CWalk "come_to" "Walk.come_to" s_Walkcometo f13 d13) (F14:Gm0 K CWalk "stands_at" "Walk.stands_at" s_Walkstandsat f14 d14) (F15:Gm0 K CWalk "pass_by" "Walk.pass_by" s_Walkpassby f15 d15) (F16:Gm0 K CWalk "enter" "Walk.enter" s_Walkenter f16 d16) (F17:Gm0 K CWalk "leave" "Walk.leave" s_Walkleave f17 d17) (F18:Gf0 K "do_set" s_doset f18 d18) (F19:Gf0 K "do_order" s_doorder f19 d19) (F20:Gf0 K "do_timer" s_dotimer f20 d20) (F21:Gf0 K "do_send" s_dosend f21 d21) (F22:Gf0 K "do_drop" s_dodrop f22 d22) (F23:Gf0 K "do_wait" s_dowait f23 d23) (F24:Gf0 K "do_hear" s_dohear f24 d24) (F25:Gf0 K "do_end" s_doend f25 d25) (F26:Gm0 K CRun "__init__" "Run.__init__" s_Runinit f26 d26) (F27:Gm0 K CRun "waits" "Run.waits" s_Runwaits f27 d27) (F28:Gm0 K CRun "take" "Run.take" s_Runtake f28 d28) (F29:Gm0 K CRun "passes_over" "Run.passes_over" s_Runpassesover f29 d29) (F30:Gm0 K CRun "take_done" "Run.take_done" s_Runtakedone f30 d30) (F31:Gm0 K CRun "take_letter" "Run.take_letter" s_Runtakeletter f31 d31) (F32:Gm0 K CRun "wake" "Run.wake" s_Runwake f32 d32) (F33:Gm0 K CRun "go_on" "Run.go_on" s_Rungoon f33 d33) (F34:Gm0 K CRun "do_one" "Run.do_one" s_Rundoone f34 d34) (F35:Gm0 K CRun "look" "Run.look" s_Runlook f35 d35) (F36:Gm0 K CRun "end" "Run.end" s_Runend f36 d36) (F37:Gm0 K CRun "wear_out" "Run.wear_out" s_Runwearout f37 d37) (F38:Gm0 K CRun "worth" "Run.worth" s_Runworth f38 d38) (F39:Gm0 K CRun "new_ticket" "Run.new_ticket" s_Runnewticket f39 d39) (F40:Gf0 K "_law_cell_at" s_lawcellat f40 d40) (F41:Gf0 K "_law_deck" s_lawdeck f41 d41) (F42:Gf0 K "_law_pick" s_lawpick f42 d42) (F43:Gf0 K "_law_name" s_lawname f43 d43) (F44:Gf0 K "_law_worth" s_lawworth f44 d44) (F45:Gf0 K "_law_saying" s_lawsaying f45 d45) (F46:Gf0 K "_law_plain" s_lawplain f46 d46) (F47:Gf0 K "_law_bounded" s_lawbounded f47 d47) (F48:Gf0 K "_law_says" s_lawsays f48 d48) (F49:Gf0 K "_law_ticket" s_lawticket f49 d49) (F50:Gf0 K "_law_do_plain" s_lawdoplain f50 d50) (F51:Gf0 K "_law_alike" s_lawalike f51 d51) (F52:Gf0 K "_law_piece" s_lawpiece f52 d52) (F53:Gf0 K "_law_closed" s_lawclosed f53 d53) (F54:Gf0 K "_law_gone" s_lawgone f54 d54) (F55:Gf0 K "law" s_law f55 d55) (namade:findIn K (.ref CTickets) "made"=some none) (napending:findIn K (.ref CTickets) "pending"=some none) (naanswers:findIn K (.ref CTickets) "answers"=some none) (nablocks:findIn K (.ref CWalk) "blocks"=some none) (nanumbers:findIn K (.ref CWalk) "numbers"=some none) (nawalk:findIn K (.ref CRun) "walk"=some none) (nasleep:findIn K (.ref CRun) "sleep"=some none) (naarg:findIn K (.ref CRun) "arg"=some none) (nanow:findIn K (.ref CRun) "now"=some none) (nanames:findIn K (.ref CRun) "names"=some none) (natickets:findIn K (.ref CRun) "tickets"=some none) (naletters:findIn K (.ref CRun) "letters"=some none) (v0:nsIn K mainGlobals "GREATEST_WORTH"=some (some (.int 1000000000 tk0))) (v1:nsIn K mainGlobals "GREATEST_MOMENT"=some (some (.int 1000000000000 tk1))) (v2:nsIn K mainGlobals "MOST_AT_ONCE"=some (some (.int 300 tk2))) (v3:nsIn K mainGlobals "DEEDS"=some (some (.ref tp3))) (u3:K.lookup tp3=some {cls:=.type "dict",data:=.dict te3 tn3}) (x3_0:nsIn K tp3 "set"=some (some (.ref f18))) (x3_1:nsIn K tp3 "order"=some (some (.ref f19))) (x3_2:nsIn K tp3 "timer"=some (some (.ref f20))) (x3_3:nsIn K tp3 "child"=some (some (.ref f19))) (x3_4:nsIn K tp3 "send"=some (some (.ref f21))) (x3_5:nsIn K tp3 "drop"=some (some (.ref f22))) (x3_6:nsIn K tp3 "wait"=some (some (.ref f23))) (x3_7:nsIn K tp3 "hear"=some (some (.ref f24))) (x3_8:nsIn K tp3 "end"=some (some (.ref f25))) (zbool:nsIn K mainGlobals "bool"=some none) (zdict:nsIn K mainGlobals "dict"=some none) (zint:nsIn K mainGlobals "int"=some none) (zisinstance:nsIn K mainGlobals "isinstance"=some none) (zlen:nsIn K mainGlobals "len"=some none) (zlist:nsIn K mainGlobals "list"=some none) (zmax:nsIn K mainGlobals "max"=some none) (zmin:nsIn K mainGlobals "min"=some none) (zrange:nsIn K mainGlobals "range"=some none) (ztuple:nsIn K mainGlobals "tuple"=some none) (kl3:KeysLit w.params te3.toList) : ∃ fd:FuncData,(∀(s:Shared) (v:Value),BindsTo s fd ⟨[v],[]⟩ [("script",v)])∧∀ base:Heap,K.In base→base.Ns mainGlobals mg→FnOk l.prog w K mg base CX0 40 fa fd ["script"] (spLaw K):=by
 have e:=hfa.symm.trans (mg_of X G F55.a)
 cases e
 refine ⟨d55,?_,fun base _ _=>ok_law (?_:Tx l.prog w base K mg ⟨f0,d0,f1,d1,f2,d2,f3,d3,f4,d4,f5,d5,f6,d6,f7,d7,f8,d8,f9,d9,f10,d10,f11,d11,f12,d12,f13,d13,f14,d14,f15,d15,f16,d16,f17,d17,f18,d18,f19,d19,f20,d20,f21,d21,f22,d22,f23,d23,f24,d24,f25,d25,f26,d26,f27,d27,f28,d28,f29,d29,f30,d30,f31,d31,f32,d32,f33,d33,f34,d34,f35,d35,f36,d36,f37,d37,f38,d38,f39,d39,f40,d40,f41,d41,f42,d42,f43,d43,f44,d44,f45,d45,f46,d46,f47,d47,f48,d48,f49,d49,f50,d50,f51,d51,f52,d52,f53,d53,f54,d54,fa,d55,tk0,tk1,tk2,tp3,CTickets,CWalk,CRun⟩)⟩
 ·obtain ⟨_,_,_,_,_,_,_,_,_,rfl,_⟩:=F55.F.ex
  exact fun s v=>.of_eq rfl
 ·exact ⟨(F0.go X G),(F1.go X G),(F2.go X G),(F3.go X G),(F4.go X G),F5.go,F6.go,F7.go,F8.go,F9.go,F10.go,F11.go,F12.go,F13.go,F14.go,F15.go,F16.go,F17.go,(F18.go X G),(F19.go X G),(F20.go X G),(F21.go X G),(F22.go X G),(F23.go X G),(F24.go X G),(F25.go X G),F26.go,F27.go,F28.go,F29.go,F30.go,F31.go,F32.go,F33.go,F34.go,F35.go,F36.go,F37.go,F38.go,F39.go,(F40.go X G),(F41.go X G),(F42.go X G),(F43.go X G),(F44.go X G),(F45.go X G),(F46.go X G),(F47.go X G),(F48.go X G),(F49.go X G),(F50.go X G),(F51.go X G),(F52.go X G),(F53.go X G),(F54.go X G),(F55.go X G),⟨pgTickets,hdTickets,poTickets,saTickets⟩,(mg_of X G aCTickets),⟨mkTickets,F5.a,F5.i,kcTickets⟩,⟨pgWalk,hdWalk,poWalk,saWalk⟩,(mg_of X G aCWalk),⟨mkWalk,F12.a,F12.i,kcWalk⟩,⟨pgRun,hdRun,poRun,saRun⟩,(mg_of X G aCRun),⟨mkRun,F26.a,F26.i,kcRun⟩,namade,napending,naanswers,nablocks,nanumbers,nawalk,nasleep,naarg,nanow,nanames,natickets,naletters,(mg_of X G v0),(mg_of X G v1),(mg_of X G v2),(mg_of X G v3),⟨_,_,u3,kl3⟩,x3_0,x3_1,x3_2,x3_3,x3_4,x3_5,x3_6,x3_7,x3_8,(mg_none_of X G zbool),(mg_none_of X G zdict),(mg_none_of X G zint),(mg_none_of X G zisinstance),(mg_none_of X G zlen),(mg_none_of X G zlist),(mg_none_of X G zmax),(mg_none_of X G zmin),(mg_none_of X G zrange),(mg_none_of X G ztuple)⟩
end
theorem walk {l:PySem.W.OpenLaw} {q:Program} {loose:List Str} {XP:(Str→Option Value)→Heap→Prop} {YP:World→Heap→Prop} {d:DefRec} {K:Params→PySem.W.Frag} (hn:l.most=some 63) (hdf:d.params.defaults=[]) (hY:∀(w:World) (h:Heap),YP w h→(K w.params).In h) (F:∀(w:World) (mg:Str→Option Value) (fa:Addr) (h:Heap),(K w.params).In h→h.Ns mainGlobals mg→mg d.name=some (.ref fa) → ∃ fd:FuncData,(∀(s:Shared) (u:Value),BindsTo s fd ⟨[u],[]⟩ [("script",u)])∧∀ base:Heap,(K w.params).In base→base.Ns mainGlobals mg→FnOk l.prog w (K w.params) mg base CX0 40 fa fd ["script"] (spLaw (K w.params))) : PySem.W.WalkO q loose XP YP l.row.toRowW d [] (fun f vs=>PySem.call f vs) :=
 L2.walk_of (n:=63) (k:=40) (x:="script") (CX:=fun _=>CX0) (sp:=fun w=>spLaw (K w.params)) hn (by decide) hdf ⟨rfl,by decide,by decide⟩ hY F (fun _ _ a ns hl _ hS=>⟨a,ns,rfl,hS,hl,fun _=>rfl⟩) fun _ _ _ _ _ z=>z
end Own
open PySem PySem.W PyProof.Rows
set_option maxRecDepth 100000 in
set_option maxHeartbeats 0 in
theorem PySem.Challenge.cw_outlast_k16_blocks_gone_through_holds : PySem.Challenge.rw_outlast_k16_blocks_gone_through.Holds := by
 w_on;o_law;z_head;(case hw=>w_witness2)
 k_fill
 refine Own.walkX_of (fun _=>rfl) ?_
 refine Own.walk (l:=PySem.Challenge.rw_outlast_k16_blocks_gone_through) rfl rfl (fun w h Y=>PySem.W.kIn_of Y) ?F
 case F =>
  intro w mg fa h KX G hmg
  apply Own.all_mk KX G hmg
  iterate 113 (first | (apply Own.gf_mk<;>k_is) | (apply Own.gm_mk<;>k_is) | k_is)
  exact ⟨⟨_,_,rfl,rfl⟩,⟨_,_,rfl,rfl⟩,⟨_,_,rfl,rfl⟩,⟨_,_,rfl,rfl⟩,⟨_,_,rfl,rfl⟩,⟨_,_,rfl,rfl⟩,⟨_,_,rfl,rfl⟩,⟨_,_,rfl,rfl⟩,⟨_,_,rfl,rfl⟩,trivial⟩
