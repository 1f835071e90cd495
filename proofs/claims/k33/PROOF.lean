import PyProof.Rows.All
import Wide.All
import OpenK.AllK
import Wide.FinOn
import Lean
import PyProof.EqAt
import PyProof.EqKinds
import PyProof.TupleCall
import PySem.Challenge.RW_outlast_k33_where_programs_part
set_option Elab.async false
set_option linter.all false
set_option maxRecDepth 100000
local macro_rules | `(tactic| omega) => `(tactic| first | assumption | lia | omega +splitDisjunctions)
namespace PySem.W.Fast
def tw1747005019560883470:=0
def tw7823358685161662403:=0
def tw9971054535060860403:=0
def tw15042526310481863316:=0
def tw16586126334359506969:=0
def tw14524130357111445584:=0
def tw11119951154213414541:=0
def tw7725347411725659580:=0
def tw2053461079161613069:=0
def tw8669783624285564494:=0
def tw1077814440253042512:=0
def tw10828808591396982603:=0
def tw877513125630343771:=0
def tw772487888751056819:=0
def tw15728937295604833010:=0
def tw934595026703253131:=0
def tw6981699165747842640:=0
def tw14363529093226379530:=0
def tw1499667702731151563:=0
def tw18443150197021082442:=0
def tw6364002348237452738:=0
def tw17403172570433896706:=0
def tw27867184041948299:=0
def tw6867915124958785904:=0
def tw15598213595849222709:=0
def tw466676900993647118:=0
def tw611730232062466534:=0
def tw3926604557144854888:=0
def tw17144287713951395152:=0
def tw7158532664895106402:=0
def tw15364720049409259105:=0
def tw7843689514748491021:=0
def tw655632527712521353:=0
def tw10618532640977804243:=0
def tw10346028344177144433:=0
def tw10718879733776190731:=0
def tw10848135981421445953:=0
def tw14792978152866712760:=0
def tw18335587372388004362:=0
def tw8910867011024380013:=0
def tw10587503622577151506:=0
def tw400370309678350801:=0
def tw11324330259927969801:=0
def tw8109038886578981904:=0
def tw18256110229775057592:=0
def tw9350909025668623727:=0
def tw3324277567997678211:=0
def tw385115787793382809:=0
def tw11094667315766463919:=0
def tw856514677916045679:=0
def tw13861397966767424912:=0
def tw4926943829137064873:=0
def tw17687866461110712350:=0
def tw12295239393212579549:=0
def tw16801197689966029305:=0
def tw1512769184857602810:=0
def tw12775955767847463915:=0
def tw17687204040302566716:=0
def tw4602646453246268908:=0
def tw13849269291550083246:=0
def tw8511830968526131255:=0
def tw11050951470678568157:=0
def tw593023080151797058:=0
def tw14917121098176936229:=0
def tw4662167378403179956:=0
def tw14807807308733481295:=0
def tw12201938092839186363:=0
def tw3418973686039647517:=0
def tw12632985346559076041:=0
def tw5366345365621428338:=0
def tw6807658753888776944:=0
def tw11303439073416103110:=0
def tw9384252381253297971:=0
def tw16093083752173925269:=0
def tw6996560349328403788:=0
def tw17937823400718033213:=0
def tw4538210688814010449:=0
def tw18367856090110525936:=0
def tw18037491976000125743:=0
def tw612854539717785630:=0
def tw4742469072900235130:=0
def tw9517863985494586925:=0
def tw5278429563585977244:=0
def tw1142059396294031504:=0
def tw2145766441710248335:=0
def tw2472831953131594046:=0
def tw14134124734379872714:=0
def tw16892195032663417782:=0
def tw13058340760554581196:=0
def tw4709837500703945130:=0
def tw15612864054047855769:=0
def tw15772182953705126240:=0
def tw75650180094294814:=0
def tw9383471824685805099:=0
def tw2413115085689557619:=0
def tw1184097966017599818:=0
def tw2212375572241225469:=0
def tw2925005971002999358:=0
def tw17445053983406527726:=0
def tw457795034856018106:=0
def tw3891834931251283874:=0
def tw8463706742703338908:=0
def tw3744993172350410240:=0
def tw13299770843794753490:=0
def tw17408562905871102241:=0
def tw13582471476063635893:=0
def tw7258154104026728628:=0
def tw8073904868383029689:=0
def tw16080092095454690881:=0
def tw11682552910373730837:=0
def tw6881010128873719454:=0
def tw2566972312552752942:=0
def tw10753667178415468845:=0
def tw11201391477713194293:=0
def tw10701634466633791683:=0
def tw6581313117232604949:=0
def tw7858151633724811734:=0
def tw1782704324426830430:=0
def tw11536516040318491695:=0
def tw3387962032388021245:=0
def tw5176055269499611027:=0
def tw15595208793066403541:=0
def tw8398315304739473886:=0
def tw7579909510826660572:=0
def tw16295772838044570614:=0
def tw13564498060296088126:=0
def tw9004066701349095363:=0
def tw14331050607381439027:=0
def tw8027538767170431772:=0
def tw2191050095610116741:=0
def tw7638421460081128231:=0
def tw10378759485343363895:=0
def tw3554933279561884858:=0
def tw14347101910556467246:=0
def tw12863111088206372900:=0
def tw12274005947557119587:=0
def tw11722702630962181586:=0
def tw12863102589890376983:=0
def tw8586637550821060371:=0
def tw10791634865739404814:=0
def tw8331572418338999011:=0
def tw3832608335562123060:=0
def tw1875760561872082169:=0
def tw10646518776885669541:=0
def tw8477991429474377032:=0
def tw12179988275256091408:=0
def tw1060133999978114059:=0
def tw17805246492549522661:=0
def tw154822796400140832:=0
def tw1526365866788086216:=0
def tw15069983246849662562:=0
def tw4104153250716333517:=0
def tw14237984196442419460:=0
def tw13352269694682262936:=0
def tw9519398503193523697:=0
def tw16773470641953570376:=0
def tw7317113044937635:=0
def tw17653609426675170424:=0
def tw6386668392121754311:=0
def tw6218179785704194582:=0
def tw13254618858294167535:=0
def tw16184356210015335514:=0
def tw8102150792364907429:=0
def tw18355849688655329781:=0
def tw3938530628138012827:=0
def tw5095775338435274493:=0
def tw7459546143218070119:=0
def tw7829146784131713844:=0
def tw14458465734123273892:=0
def tw12599167447233839802:=0
def tw6090045574280883251:=0
def tw7115072228205433132:=0
def tw6912034847437300315:=0
def tw12980947963893735891:=0
def tw252666820071009529:=0
def tw11241000149615416514:=0
def tw6766213781383731389:=0
def tw7669511184974386251:=0
def tw11267813779215301005:=0
def tw1326687592446477726:=0
def tw11240735310521605012:=0
def tw4496856332129775830:=0
def tw11329912759576891530:=0
def tw10580149194505961318:=0
def tw16429828512966147961:=0
def tw15444519472370992197:=0
def tw15830968221710748501:=0
def tw14450076877922452267:=0
def tw9361443162201485521:=0
def tw543845832342262856:=0
def tw3082471028001555242:=0
def tw18354661919914184731:=0
def tw14631220279321585183:=0
def tw7801603046559724410:=0
def tw14509828297944024789:=0
def tw1205597222428217909:=0
def tw11382013312965961436:=0
def tw161698705087449730:=0
def tw2258758046754255440:=0
def tw15621330273998693838:=0
def tw11286895362155999165:=0
def tw17831766573229646311:=0
def tw7482802881841218477:=0
def tw3764354177151337386:=0
def tw17431568934047247356:=0
def tw13455754907002601233:=0
def tw2733752521520670439:=0
def tw219002269586037689:=0
def tw3842531224851628730:=0
def tw8704858478315544462:=0
def tw5487934605101886449:=0
def tw18350573072170489175:=0
def tw6280490173690602274:=0
def tw7620125394992590925:=0
def tw5395096925914578451:=0
def tw743290938892779774:=0
def tw15994862402331954214:=0
def tw9454372416580091024:=0
def tw480518821690645695:=0
def tw13622499919741128487:=0
def tw12507026914603270962:=0
def tw775393634432905829:=0
def tw3281489057118911862:=0
def tw2619596646841141677:=0
def tw199209711741445564:=0
def tw10729020204773784827:=0
def tw714088916020291717:=0
def tw11808277142170889885:=0
def tw6402498894168105427:=0
def tw508590551924877904:=0
def tw8430572742739981526:=0
def tw7546572383603478276:=0
def tw4790633882949737645:=0
def tw3655623995039215680:=0
def tw3435967339514964015:=0
def tw8970821974938860408:=0
def tw7255806085551120929:=0
def tw15778150826703240173:=0
def tw2818902023740385452:=0
def tw9866038301322727848:=0
def tw15197470067977711777:=0
def tw12901693185016576620:=0
def tw12199691098424194843:=0
def tw2944734304964005991:=0
def tw73874334400620677:=0
def tw2356708427599550007:=0
def tw9908485947589487736:=0
def tw15479293159713619906:=0
def tw14287171642550238105:=0
def tw12060873179258792238:=0
def tw6612907972895173615:=0
def tw9824305897837383555:=0
def tw5046630923799507381:=0
def tw3978458607664876923:=0
def tw15389883758529052683:=0
def tw14717146233648071238:=0
def tw1007354497052767403:=0
def tw15194105087727907498:=0
def tw10340258930170064169:=0
def tw7982920560351152804:=0
def tw14821283945584649863:=0
def tw1450587804343085172:=0
def tw7932117081466899553:=0
def tw14599025476858789477:=0
def tw10843086148196311659:=0
def tw12398549417305201098:=0
def tw17084144982103816595:=0
def tw16535338143224763138:=0
def tw1656306806433480392:=0
def tw9025215207104373873:=0
def tw9797175266510941495:=0
def tw3586087844938851945:=0
def tw17025819174836428225:=0
def tw335596473903393273:=0
def tw9473171514479279154:=0
def tw1723844512904738318:=0
def tw17244337728233690992:=0
def tw8121290747627115193:=0
def tw13704055891914604457:=0
def tw16731422210395272231:=0
def tw6956206267594899079:=0
def tw5594904834638192079:=0
def tw8123997839684671899:=0
def tw6586744217960146802:=0
def tw7801583205524694808:=0
def tw3637769625170190931:=0
def tw11982763525585240862:=0
def tw55820176573373834:=0
def tw15712666279658644026:=0
def tw12815376684244552603:=0
def tw11937124867651072577:=0
def tw2018582789519860996:=0
def tw1448456167443675973:=0
def tw8760908156952171211:=0
def tw4233327639506178586:=0
def tw10732667889206086731:=0
def tw18123181624737486188:=0
def tw7854278757524771365:=0
def tw2307790145025172027:=0
def tw12400867934388034911:=0
def tw7892051518796038274:=0
def tw2761712327478229547:=0
def tw1262852006119658799:=0
def tw10666637210964191384:=0
def tw7915795620441117999:=0
def tw5821432525800358112:=0
def tw14055040795242118945:=0
def tw4853784619704718655:=0
def tw3811188081672497801:=0
def tw16985601165433151191:=0
def tw16368230167738493111:=0
def tw15364702923384246182:=0
def tw8446331172211072925:=0
def tw3092765161807753969:=0
def tw13322876868531742632:=0
def tw13177382111676193918:=0
def tw8538549011636508810:=0
def tw11799279559553879038:=0
def tw11732404050704366323:=0
def tw7208732650887977793:=0
def tw12598271496377644646:=0
def tw3411870299701453841:=0
def tw16099107372849903180:=0
def tw13259127736221632190:=0
def tw7816574605616897944:=0
def tw18116419603913407118:=0
def tw9104720863053534118:=0
def tw10183211723200650229:=0
def tw13389750638865358766:=0
def tw16369047749532998618:=0
def tw5092302808401637452:=0
def tw9855125422377162204:=0
def tw14806097475758281477:=0
def tw15054485057757532367:=0
def tw9626215972820026340:=0
def tw8585046124697130755:=0
def tw6607349923578290706:=0
def tw4163514492265861370:=0
def tw3097746838772309545:=0
def tw2007823887914905795:=0
def tw18100335640129505318:=0
def tw17825152593087843847:=0
def tw15761611118550716309:=0
def tw12953825632894935656:=0
def tw11732096517184407885:=0
def tw10694880358285519319:=0
def tw10067847578136189007:=0
def tw16394715390731079741:=0
def tw9536526378784063438:=0
def tw8452147136103275423:=0
def tw16336638454865627590:=0
def tw15664941560665814708:=0
def tw10833491982513062759:=0
def tw10234776580646647464:=0
def tw6916649352829641202:=0
def tw2609730590571082283:=0
def tw13526685885696271633:=0
def tw15179996702806588348:=0
def tw12414277668023700287:=0
def tw1211937111470604111:=0
def tw9956633979885070156:=0
def tw9569337625832785786:=0
def tw9486723335704363377:=0
def tw9282024643664093175:=0
def tw9163776031118890335:=0
def tw9130113882747908929:=0
def tw910055938889345656:=0
def tw8910985939333730200:=0
def tw8900752690089668285:=0
def tw8726610900498242832:=0
def tw8669797107471467522:=0
def tw8297141144487850728:=0
def tw8272392942772860157:=0
def tw8258155005891668442:=0
def tw8219650662616477469:=0
def tw8125168456443854091:=0
def tw8102560985227248435:=0
def tw8048896783770372285:=0
def tw7958310424308151698:=0
def tw7759086242937096927:=0
def tw7692147407413763619:=0
def tw7467601527631179014:=0
def tw7448668225522401315:=0
def tw7384006530658457672:=0
def tw7207528611149558806:=0
def tw7156523880561887829:=0
def tw682420442963465288:=0
def tw6615768617438570687:=0
def tw659748539885799640:=0
def tw6532146732999972791:=0
def tw6515555745688704727:=0
def tw6509631146870723838:=0
def tw6367890748072220237:=0
def tw6306636251906066163:=0
def tw6232432425249881024:=0
def tw6056797455112065896:=0
def tw5876633740927499735:=0
def tw581390917194692057:=0
def tw5811096467959950298:=0
def tw5665997995766349677:=0
end PySem.W.Fast
abbrev q0A:=PySem.Value->PySem.Shared->Prop
abbrev q0B:=PySem.W.Frag
abbrev q0C:=PySem.Str->Option PySem.Value
namespace L2
open PySem PySem.Spec PyProof.Rows
inductive Key where
 | inl (i:Int)|inr (x:Str)|no
 deriving DecidableEq
noncomputable def B7:Key->Value->Bool
 | .inl k,v=>Value.isInt k v
 | .inr x,v=>Value.isStrOf x v
 | .no,.none=>true
 | .no,_=>false
noncomputable def YS(w:World):Key->Int
 | .inl k=>hashInt k
 | .inr x=>hashStr w x
 | .no=>reduceHash 0xFCA86420
theorem eE:∀ {k:Key} {v:Value},B7 k v=true->(∃ i t,k=Key.inl i/\v=Value.int i t)\/(∃ x t,k=Key.inr x/\v=Value.str x t)\/(k=Key.no/\v=Value.none)
 | .inl i,v,h=>by
  obtain⟨t,e⟩:=Value.isInt_shape (k:=i) (v:=v) h;exact .inl ⟨i,t,rfl,e⟩
 | .inr x,v,h=>by
  obtain⟨t,e⟩:=Value.isStrOf_shape (x:=x) (v:=v) h;exact .inr (.inl ⟨x,t,rfl,e⟩)
 | .no,v,h=>by
  cases v<;>first|exact .inr (.inr ⟨rfl,rfl⟩)|cases h
theorem IL(i:Int)(t:Tok):B7 (.inl i) (.int i t)=true:=by simp[B7,Value.isInt]
theorem IM(x:Str)(t:Tok):B7 (.inr x) (.str x t)=true:=by simp[B7,Value.isStrOf]
theorem TH(a b:Int):decide (Key.inl a=Key.inl b)=(a==b):=by
 by_cases e:a=b
 ·subst e;simp
 ·have h:¬ Key.inl a=Key.inl b:=fun q=>e (Key.inl.inj q);rw[decide_eq_false h];exact(beq_eq_false_iff_ne.mpr e).symm
theorem TK(a b:Str):decide (Key.inr a=Key.inr b)=decide (a=b):=by
 by_cases e:a=b
 ·subst e;simp
 ·have h:¬ Key.inr a=Key.inr b:=fun q=>e (Key.inr.inj q);rw[decide_eq_false h,decide_eq_false e]
noncomputable def bV(prog:Program)(w:World):PySem.KeyKind prog w Key where
 is:=B7
 hash:=YS w
 inj:=fun v a b ha hb=>by
  rcases eE ha with⟨i,t,rfl,rfl⟩|⟨x,t,rfl,rfl⟩|⟨rfl,rfl⟩<;>rcases eE hb with⟨j,u,rfl,e⟩|⟨y,u,rfl,e⟩|⟨rfl,e⟩ <;>
   first|rfl|(cases e<;>rfl)
 byValue:=fun k v h=>by
  rcases eE h with⟨i,t,rfl,rfl⟩|⟨x,t,rfl,rfl⟩|⟨rfl,rfl⟩<;>rfl
 pyHash:=fun hv h=>by
  rcases eE hv with⟨i,t,rfl,rfl⟩|⟨x,t,rfl,rfl⟩|⟨rfl,rfl⟩
  ·exact wpAny_pyHash_int h
  ·exact wpAny_pyHash_str h
  ·exact PySem.W.pyHash_slot (T:="NoneType") rfl F.slot_NoneType_hash F.entry_NoneType_hash (F.args_NoneType_hash_1 _) (beq_builtin_none _) (.inl rfl) (wpAny_bind (wpAny_pure (wpAny_bind (wpAny_mkInt (wpAny_pure ⟨_,_,rfl,h⟩)))))
 eqBool:=fun hu hv h=>by
  rcases eE hu with⟨i,t,rfl,rfl⟩|⟨x,t,rfl,rfl⟩|⟨rfl,rfl⟩<;>rcases eE hv with⟨j,u,rfl,rfl⟩|⟨y,u,rfl,rfl⟩|⟨rfl,rfl⟩
  ·rw[TH] at h;exact wpAny_eqBool_int h
  ·exact SeqAt.EqAt.int_str i t y u _ _ _ _ h
  ·exact SeqAt.EqAt.int_none i t _ _ _ _ h
  ·exact SeqAt.EqAt.str_int x t j u _ _ _ _ h
  ·rw[TK] at h;exact wpAny_eqBool_str h
  ·exact SeqAt.EqAt.str_none x t _ _ _ _ h
  ·exact SeqAt.EqAt.none_int j u _ _ _ _ h
  ·exact SeqAt.EqAt.none_str y u _ _ _ _ h
  ·exact SeqAt.EqAt.same .none _ _ _ _ h
 «strs»:=fun k x t v h=>by
  rcases eE h with⟨i,u,rfl,e⟩|⟨y,u,rfl,e⟩|⟨rfl,e⟩
  ·exact nomatch e
  ·injection e with e1 _
   subst e1;cases v<;>rfl
  ·exact nomatch e
theorem Es(prog:Program)(w:World)(i:Int)(t:Tok):(bV prog w).is (.inl i) (.int i t)=true:=IL i t
theorem wI(prog:Program)(w:World)(x:Str)(t:Tok):(bV prog w).is (.inr x) (.str x t)=true:=IM x t
inductive V where
 | Zu|bl (b:Bool)|int (i:Int)|str (x:Str)|byt (b:Array UInt8)|flt (b:UInt64)|ref (a:Addr)|ty (n:String)
 deriving DecidableEq
noncomputable def bH:V->Value->Prop
 | .Zu,u=>u=Value.none
 | .bl b,u=>u=Value.bool b
 | .int i,u=>∃ t,u=Value.int i t
 | .str x,u=>∃ t,u=Value.str x t
 | .byt b,u=>∃ t,u=Value.bytes b t
 | .flt b,u=>∃ t,u=Value.float b t
 | .ref a,u=>u=Value.ref a
 | .ty n,u=>u=Value.type n
noncomputable abbrev Vals:List V->List Value->Prop:=Paired bH
theorem Vals.length{xs:List V}{us:List Value}(r:Vals xs us):xs.length=us.length:=Paired.length r
theorem Vals.get:∀ {xs:List V} {us:List Value} {i:Nat} {x:V},Vals xs us->xs[i]?=some x->∃ u,us[i]?=some u/\bH x u
 | _,_,_,_,.nil,e=>by simp at e
 | _,_,0,_,.cons r _,e=>by simp at e;subst e;exact⟨_,rfl,r⟩
 | _,_,i+1,x,.cons _ t,e=>by
  obtain⟨u,h1,h2⟩:=Vals.get (i:=i) (x:=x) t (by simpa using e);exact⟨u,by simpa using h1,h2⟩
theorem Vals.set{x:V}{u:Value}(r:bH x u):∀ {xs:List V} {us:List Value} (i:Nat),Vals xs us->Vals (xs.set i x) (us.set i u)
 | _,_,_,.nil=>.nil
 | _,_,0,.cons _ t=>.cons r t
 | _,_,i+1,.cons q t=>.cons q (Vals.set r i t)
theorem Vals.append{xs ys:List V}{us ws:List Value}(h:Vals xs us)(s:Vals ys ws):Vals (xs++ys) (us++ws):=by
 induction h with
 | nil=>exact s
 | cons r _ ih=>exact .cons r ih
theorem Vals.take:∀ {xs:List V} {us:List Value} (n:Nat),Vals xs us->Vals (xs.take n) (us.take n)
 | _,_,0,_=>.nil
 | _,_,_+1,.nil=>.nil
 | _,_,n+1,.cons r t=>.cons r (Vals.take n t)
theorem Vals.drop:∀ {xs:List V} {us:List Value} (n:Nat),Vals xs us->Vals (xs.drop n) (us.drop n)
 | _,_,0,r=>r
 | _,_,_+1,.nil=>.nil
 | _,_,n+1,.cons _ t=>Vals.drop n t
theorem Vals.none_of:∀ {xs:List V} {us:List Value} {i:Nat},Vals xs us->xs[i]?=none->us[i]?=none:=fun {xs us i} r e=>by
 have h1:=r.length;have h2:xs.length<=i:=List.getElem?_eq_none_iff.mp e;exact List.getElem?_eq_none_iff.mpr (by omega)
noncomputable def l9:Option V->Option Value->Prop
 | some v,some u=>bH v u
 | none,none=>True
 | _,_=>False
noncomputable def KV{κ:Type}:List (κ×V)->List (κ×Value)->Prop:=Paired fun(p:κ×V) (q:κ×Value)=>p.1=q.1/\bH p.2 q.2
noncomputable def kV:Key->V
 | .inl i=>.int i
 | .inr x=>.str x
 | .no=>.Zu
inductive HO where
 /-- a list -/
 | lst (xs:List V)
 /-- a tuple (never changes) -/
 | tup (xs:List V)
 /-- a dict whose keys are ints and texts;one whose keys are tuples of ints and texts (the empty one is both) -/
 | dK (kvs:List (Key×V))|dT (kvs:List (List Key×V))
 /-- a set of ints: Zv members,Zv size -/
 | set (S:Int->Bool) (n:Nat)
 /-- an instance of the class at C,Zv dict at dx,Zv attributes -/
 | ins (C dx:Addr) (fs:List (Str×V))
 /-- the dict of the instance at x -/
 | own (x:Addr)
 /-- the dict of an exception -/
 | xd (fs:List (Str×V))
 /-- a bound method,f of x -/
 | met (f x:Addr)
 /-- a range object lo,lo+1,.. below hi -/
 | rng (lo hi:Int)
 /-- a thing that is known to the object (the script;a dict while a loop walks it): read,never written while it is so -/
 | ZS (o:Obj) (u:HO)
 /-- a code object's table -/
 | tbl (ps:Array Value)
 /-- any other thing,by what is true of Zv one object (a def of adH own: SetO a S n:=HO.ext fun h=>..) -/
 | ext (φ:Heap->Prop)
noncomputable abbrev Hp:=Addr->Option HO
noncomputable def Zs(H:Hp)(a:Addr)(o:HO):Hp:=fun b=>if b=a then some o else H b
theorem aA{H:Hp}{a:Addr}{o:HO}:Zs H a o a=some o:=by unfold Zs;rw[if_pos rfl]
theorem aG{H:Hp}{a b:Addr}{o:HO}(h:b≠a):Zs H a o b=H b:=by unfold Zs;rw[if_neg h]
theorem dW{H:Hp}{a b:Addr}{o u:HO}(h:H a=some o)(h':H b=some u)(d:o≠u):a≠b:=by
 intro e;subst e;rw[h] at h';exact d (Option.some.inj h')
theorem aJ{H:Hp}{a b:Addr}{o:HO}(h:H a=some o)(h':H b=none):a≠b:=by
 intro e;subst e;rw[h] at h';cases h'
section
variable (P:Program) (w:World)
noncomputable def dH(H:Hp)(h:Heap)(a:Addr):HO->Prop
  | .lst xs=>xs.length<=sizeLine/\∃(Zv:List Value) (n:Nat),Vals xs Zv/\h.get? a=some {cls:=.type "list",data:=.seq Zv.toArray n}
  | .tup xs=>xs.length<=sizeLine/\∃ Zv:List Value,Vals xs Zv/\IsTup h a Zv.toArray
  | .dK kvs=>kvs.length<=sizeLine/\(a==sysModules)=false/\∃ vs,KV kvs vs/\h.DictOf (bV P w) a vs
  | .dT kvs=>kvs.length<=sizeLine/\(a==sysModules)=false/\∃ xs:List (List Key×Addr×Value),
      Paired (fun(p:List Key×V) (q:List Key×Addr×Value)=>p.1=q.1/\H q.2.1=some (.tup (p.1.map kV))/\bH p.2 q.2.2) kvs xs /\
      ∃ o es ep,h.get? a=some o/\o.ExactDict/\o.data=.dict es ep/\es.toList=xs.map (entryOfKey (tupleKind (bV P w)))/\(xs.map (·.1)).Nodup
  | .set S n=>h.SetOf (intKind P w) a S n
  | .ins C dx fs=>H dx=some (.own a)/\fs.length<=1000/\dx≠a/\h.get? a=some (PySem.W.instObj C dx) /\
      ∃ mA,h.Ns1 dx mA/\(∀ f,l9 (fs.lookup f) (mA f))/\PySem.Within mA (fs.map (·.1))
  | .own _=>∃ o,h.get? a=some o
  | .xd fs=>∃ mA,h.Ns1 a mA/\∀ f,l9 (fs.lookup f) (mA f)
  | .rng lo hi=>∃ t u v,h.get? a=some {cls:=.type "range",data:=.fields #[.int lo t,.int hi u,.int 1 v]}
  | .ZS o u=>h.get? a=some o/\dH H h a u
  | .tbl ps=>h.get? a=some {cls:=.none,data:=.fields ps}
  | .met f x=>h.get? a=some (PySem.W.methodObj (.ref f) (.ref x))
  | .ext φ=>φ h/\(∃ o,h.get? a=some o)/\∀ h1 h2:Heap,φ h1->(∀ o,h1.get? a=some o->h2.get? a=some o)->φ h2
noncomputable def HOk(H:Hp)(h:Heap):Prop:=∀ a o,H a=some o->dH P w H h a o
end
section
variable {P:Program} {w:World} {H H':Hp} {h h':Heap} {a:Addr} {o:HO}
theorem dH.lt(x:dH P w H h a o):a < h.objs.size:=by
 cases o with
 | lst xs=>obtain⟨_,_,_,_,e⟩:=x;exact Heap.lt_size e
 | tup xs=>obtain⟨_,_,_,p⟩:=x;exact p.lt
 | dK kvs=>obtain⟨_,_,_,_,o,_,_,e,_⟩:=x;exact Heap.lt_size e
 | dT kvs=>obtain⟨_,_,_,_,o,_,_,e,_⟩:=x;exact Heap.lt_size e
 | set S n=>obtain⟨o,_,_,_,e,_⟩:=x;exact Heap.lt_size e
 | ins C dx fs=>obtain⟨_,_,_,e,_⟩:=x;exact Heap.lt_size e
 | own y=>obtain⟨_,e⟩:=x;exact Heap.lt_size e
 | xd fs=>obtain⟨_,⟨_,_,_,e,_⟩,_⟩:=x;exact Heap.lt_size e
 | rng lo hi=>obtain⟨_,_,_,e⟩:=x;exact Heap.lt_size e
 | ZS ob u=>obtain⟨e,_⟩:=x;exact Heap.lt_size e
 | tbl ps=>exact Heap.lt_size (show h.get? a=some _ from x)
 | met f y=>exact Heap.lt_size (show h.get? a=some _ from x)
 | ext φ=>obtain⟨_,⟨_,e⟩,_⟩:=x;exact Heap.lt_size e
theorem Paired.TQ{α β:Type}{F G:α->β->Prop}:∀ {l₁:List α} {l₂:List β},Paired F l₁ l₂->(∀ a b,F a b->G a b)->Paired G l₁ l₂
 | _,_,.nil,_=>.nil
 | _,_,.cons r t,f=>.cons (f _ _ r) (Paired.TQ t f)
theorem dH.tW(x:dH P w H h a o)(k:∀ b u,(b=a\/H b=some (.own a))->h.get? b=some u->h'.get? b=some u)
    (ho:∀ b,H b=some (.own a)->H' b=some (.own a)) (ht:∀ b xs,H b=some (.tup xs)->H' b=some (.tup xs)):dH P w H' h' a o:=by
  induction o with
  | lst xs=>obtain⟨z,Zv,n,r,e⟩:=x;exact⟨z,Zv,n,r,k _ _ (.inl rfl) e⟩
  | tup xs=>obtain⟨z,Zv,r,ob,e,c⟩:=x;exact⟨z,Zv,r,ob,k _ _ (.inl rfl) e,c⟩
  | dK kvs=>obtain⟨z,y,vs,r,ob,es,ep,e,c⟩:=x;exact⟨z,y,vs,r,ob,es,ep,k _ _ (.inl rfl) e,c⟩
  | dT kvs =>
    obtain⟨z,y,xs,r,ob,es,ep,e,c⟩:=x;exact⟨z,y,xs,Paired.TQ r fun p q z=>⟨z.1,ht _ _ z.2.1,z.2.2⟩,ob,es,ep,k _ _ (.inl rfl) e,c⟩
  | set S n=>obtain⟨ob,es,ep,t,e,c⟩:=x;exact⟨ob,es,ep,t,k _ _ (.inl rfl) e,c⟩
  | ins C dx fs =>
    obtain⟨d,z,ne,e,mA,⟨od,es,ep,e2,c⟩,r⟩:=x;exact⟨ho _ d,z,ne,k _ _ (.inl rfl) e,mA,⟨od,es,ep,k _ _ (.inr d) e2,c⟩,r⟩
  | own y=>obtain⟨ob,e⟩:=x;exact⟨ob,k _ _ (.inl rfl) e⟩
  | xd fs=>obtain⟨mA,⟨od,es,ep,e,c⟩,r⟩:=x;exact⟨mA,⟨od,es,ep,k _ _ (.inl rfl) e,c⟩,r⟩
  | rng lo hi=>obtain⟨t,u,v,e⟩:=x;exact⟨t,u,v,k _ _ (.inl rfl) e⟩
  | ZS ob u ih=>obtain⟨e,q⟩:=x;exact⟨k _ _ (.inl rfl) e,ih q⟩
  | tbl ps =>
    have e:h.get? a=some {cls:=.none,data:=.fields ps}:=x;show h'.get? a=some {cls:=.none,data:=.fields ps};exact k a _ (.inl rfl) e
  | met f y =>
    have e:h.get? a=some (PySem.W.methodObj (.ref f) (.ref y)):=x;show h'.get? a=some (PySem.W.methodObj (.ref f) (.ref y));exact k a _ (.inl rfl) e
  | ext φ=>obtain⟨p,⟨o,e⟩,st⟩:=x;exact⟨st _ _ p fun o q=>k _ _ (.inl rfl) q,⟨o,k _ _ (.inl rfl) e⟩,st⟩
theorem HOk.lt(x:HOk P w H h)(e:H a=some o):a < h.objs.size:=(x a o e).lt
theorem HOk.fresh(x:HOk P w H h)(e:h.objs.size<=a):H a=none:=by
 cases q:H a with
 | none=>rfl
 | some u=>exact absurd (Nat.lt_of_lt_of_le (x.lt q) e) (Nat.lt_irrefl _)
theorem HOk.kept(x:HOk P w H h)(k:∀ b u,h.get? b=some u->h'.get? b=some u):HOk P w H h':=fun a o e =>
 (x a o e).tW (fun b u _ q=>k b u q) (fun _ q=>q) fun _ _ q=>q
theorem HOk.laid(x:HOk P w H h)(k:∀ b u,h.get? b=some u->h'.get? b=some u)(hp:h.objs.size<=a)(new:dH P w (Zs H a o) h' a o):HOk P w (Zs H a o) h':=fun b u e=>by
 have hn:=x.fresh hp;by_cases hb:b=a
 ·subst hb;rw[aA] at e;cases e;exact new
 ·rw[aG hb] at e;exact(x b u e).tW (fun c v _ q=>k c v q) (fun c q=>by rw[aG (aJ q hn)];exact q) fun c xs q=>by rw[aG (aJ q hn)];exact q
end
noncomputable def Rd(H:Hp)(a:Addr)(u:HO):Prop:=H a=some u\/∃ o,H a=some (.ZS o u)
theorem Rd.of{H:Hp}{a:Addr}{u:HO}(h:H a=some u):Rd H a u:=.inl h
theorem Rd.ok{P:Program}{w:World}{H:Hp}{h:Heap}{a:Addr}{u:HO}(r:Rd H a u)(x:HOk P w H h):dH P w H h a u:=by
 rcases r with r|⟨o,r⟩
 ·exact x a u r
 ·obtain⟨_,q⟩:=x a _ r;exact q
noncomputable def Mut:Option HO->Prop
 | some (.lst _)=>True
 | some (.dK _)=>True
 | some (.dT _)=>True
 | some (.set _ _)=>True
 | some (.ins _ _ _)=>True
 | some (.ext _)=>True
 | _=>False
section
variable {P:Program} {w:World} {H:Hp} {h h':Heap} {x e:Addr} {o':HO}
theorem HOk.write(ok:HOk P w H h)(mu:Mut (H x))(he:e=x\/H e=some (.own x))(k:∀ b u,b≠e->h.get? b=some u->h'.get? b=some u)(heo:∃ u,h'.get? e=some u)
    (new:dH P w (Zs H x o') h' x o'):HOk P w (Zs H x o') h':=fun b u q=>by
  have acF:∀ c y,H c=some (.own y)->c≠x:=fun c y r z=>by subst z;rw[r] at mu;exact mu
  have ac5:∀ c xs,H c=some (.tup xs)->c≠x:=fun c xs r z=>by subst z;rw[r] at mu;exact mu
  by_cases hb:b=x
  · subst hb;rw[aA] at q;cases q;exact new
  · rw[aG hb] at q;by_cases hbe:b=e
    · have q':H b=some (.own x):=by
        rcases he with z|z
        · exact absurd (hbe.trans z) hb
        · rw[hbe];exact z
      rw[q] at q';cases q';obtain⟨v,hv⟩:=heo;exact⟨v,by rw[hbe];exact hv⟩
    · refine(ok b u q).tW (fun c v hc r=>k c v ?_ r) (fun c r=>by rw[aG (acF c b r)];exact r) fun c xs r=>by rw[aG (ac5 c xs r)];exact r
      rcases hc with rfl|hc
      · exact hbe
      · rintro rfl;rcases he with z|z
        · exact acF c b hc z
        · rw[hc] at z;cases z;exact hb rfl
end
structure Un(fs ex:List Addr)(H H':Hp)(h h':Heap):Prop where
 keep:∀ b o,h.get? b=some o->H b=none->b∉fs->b∉ex->h'.get? b=some o
 slot:∀ b o,h.get? b=some o->H b=none->b∈fs->b∉ex->∃ sl,h'.get? b=some {o with slots:=sl}
 free:∀ b o,h.get? b=some o->H b=none->b∉ex->H' b=none
 there:∀ b o,h.get? b=some o->b∉ex->∃ o',h'.get? b=some o'
 tY:∀ b xs,H b=some (.tup xs)->H' b=some (.tup xs)
 rH:∀ b o u,H b=some (.ZS o u)->H' b=some (.ZS o u)
 tX:∀ b ps,H b=some (.tbl ps)->∃ more,H' b=some (.tbl (ps++more))
section
variable {fs fs' ex ex':List Addr} {H H1 H2:Hp} {h h1 h2 h':Heap} {a x e:Addr} {o:HO}
theorem Un.any(u:Un fs ex H H1 h h1){b:Addr}{ob:Obj}(q:h.get? b=some ob)(n:H b=none)(hx:b∉ex):∃ sl,h1.get? b=some {ob with slots:=sl}:=by
 by_cases hb:b∈fs
 ·exact u.slot b ob q n hb hx
 ·exact⟨ob.slots,u.keep b ob q n hb hx⟩
theorem Un.trans(a:Un fs ex H H1 h h1)(b:Un fs ex H1 H2 h1 h2):Un fs ex H H2 h h2 where
 keep:=fun c ob q n hc hx=>b.keep c ob (a.keep c ob q n hc hx) (a.free c ob q n hx) hc hx
 slot:=fun c ob q n hc hx=>by
  obtain⟨sl,e1⟩:=a.slot c ob q n hc hx;obtain⟨ZM,e2⟩:=b.slot c _ e1 (a.free c ob q n hx) hc hx;exact⟨ZM,e2⟩
 free:=fun c ob q n hx=>by
  obtain⟨o',e1⟩:=a.there c ob q hx;exact b.free c o' e1 (a.free c ob q n hx) hx
 there:=fun c ob q hx=>by
  obtain⟨o',e1⟩:=a.there c ob q hx;exact b.there c o' e1 hx
 tY:=fun c xs q=>b.tY c xs (a.tY c xs q)
 rH:=fun c ob xs q=>b.rH c ob xs (a.rH c ob xs q)
 tX:=fun c ps q=>by
  obtain⟨m1,e1⟩:=a.tX c ps q;obtain⟨m2,e2⟩:=b.tX c _ e1;exact⟨m1++m2,by rw[e2,Array.append_assoc]⟩
theorem Un.kept(k:∀ b u,h.get? b=some u->h'.get? b=some u):Un fs ex H H h h' :=
 ⟨fun b ob q _ _ _=>k b ob q,fun b ob q _ _ _=>⟨ob.slots,k b ob q⟩,fun _ _ _ n _=>n,fun b ob q _=>⟨ob,k b ob q⟩,fun _ _ q=>q,fun _ _ _ q=>q,fun _ ps q=>⟨#[],by rw[q];simp⟩⟩
theorem Un.refl:Un fs ex H H h h:=Un.kept fun _ _ q=>q
theorem Un.laid(k:∀ b u,h.get? b=some u->h'.get? b=some u)(hp:h.objs.size<=a)(hn:H a=none):Un fs ex H (Zs H a o) h h' where
 keep:=fun b u q _ _ _=>k b u q
 slot:=fun b u q _ _ _=>⟨u.slots,k b u q⟩
 free:=fun b u q n _=>by rw[aG (Nat.ne_of_lt (Nat.lt_of_lt_of_le (Heap.lt_size q) hp))];exact n
 there:=fun b u q _=>⟨u,k b u q⟩
 tY:=fun b xs q=>by rw[aG (aJ q hn)];exact q
 rH:=fun b u xs q=>by rw[aG (aJ q hn)];exact q
 tX:=fun b ps q=>⟨#[],by rw[aG (aJ q hn),q];simp⟩
theorem Un.write(mu:Mut (H x))(he:e=x\/H e=some (.own x))(k:∀ b u,b≠e->h.get? b=some u->h'.get? b=some u)(heo:∃ u,h'.get? e=some u):Un fs ex H (Zs H x o) h h':=by
 have hx:∀ b,H b=none->b≠x:=fun b n z=>by subst z;rw[n] at mu;exact mu
 have hb:∀ b,H b=none->b≠e:=fun b n z=>by
  subst z;rcases he with r|r
  ·exact hx b n r
  ·rw[n] at r;cases r
 have hm:∀ b u,H b=some u->¬ Mut (some u)->b≠x:=fun b u q nm z=>by subst z;rw[q] at mu;exact nm mu
 refine⟨fun b u q n _ _=>k b u (hb b n) q,fun b u q n _ _=>⟨u.slots,k b u (hb b n) q⟩,fun b u q n _=>by rw[aG (hx b n)];exact n,fun b u q _=>?_,
  fun b xs q=>by rw[aG (hm b _ q fun z=>z)];exact q,fun b u xs q=>by rw[aG (hm b _ q fun z=>z)];exact q,fun b ps q=>⟨#[],by rw[aG (hm b _ q fun z=>z),q];simp⟩⟩
 by_cases hbe:b=e
 ·subst hbe;exact heo
 ·exact⟨u,k b u hbe q⟩
theorem Un.mono(u:Un fs ex H H1 h h1)(hs:∀ b∈fs,b∈fs')(hx:∀ b∈ex,b∈ex'):Un fs' ex' H H1 h h1 :=
 ⟨fun b ob q n hb he=>u.keep b ob q n (fun z=>hb (hs b z)) fun z=>he (hx b z),fun _ _ q n _ he=>u.any q n fun z=>he (hx _ z),fun b ob q n he=>u.free b ob q n fun z=>he (hx b z),fun b ob q he=>u.there b ob q fun z=>he (hx b z),u.tY,u.rH,u.tX⟩
end
noncomputable def trk(h:Heap)(H:Hp):List Addr:=(List.range h.objs.size).filter fun a=>(H a).isSome
noncomputable def C5(h:Heap)(H:Hp):Heap:=PySem.W.hideAll h (trk h H)
theorem IG(h:Heap)(H:Hp):(C5 h H).objs.size=h.objs.size:=PySem.W.hideAll_size _ _
theorem LB{h:Heap}{H:Hp}{b:Addr}{o:Obj}(e:h.get? b=some o)(n:H b=none):(C5 h H).get? b=some o :=
 PySem.W.hideAll_get _ e fun hm=>by
  have q:(H b).isSome=true:=(List.mem_filter.mp hm).2;rw[n] at q;simp at q
theorem OT{h:Heap}{H:Hp}{b:Addr}{o:Obj}(e:(C5 h H).get? b=some o):h.get? b=some o/\H b=none:=by
 have e':h.get? b=some o:=PySem.W.of_hideAll (trk h H) e;refine⟨e',?_⟩;cases q:H b with
 | none=>rfl
 | some x =>
  have hm:b∈trk h H:=List.mem_filter.mpr ⟨List.mem_range.mpr (Heap.lt_size e'),by simp[q]⟩;have z:(C5 h H).get? b=none:=PySem.W.hideAll_none (trk h H) hm;rw[z] at e;cases e
noncomputable def M4(g h:Heap)(L:Addr):List (Addr×Obj):=(List.range h.objs.size).filterMap fun a=>if a=L\/(g.get? a).isSome=true then none else (h.get? a).map fun o=>(a,o)
noncomputable def rest(g h:Heap)(L d:Addr):List (Addr×Obj):=(M4 g h L).filter fun p=>decide (p.1≠d)
structure Mod(K:q0B)(mg:q0C)(base:Heap):Prop where
 kin:K.In base
 glob:base.Ns mainGlobals mg
 blt:∃ mb,base.Ns builtinsNs mb/\∀ x:Str,x≠"__name__"->mb x=bootBuiltins x
 nolimit:base.NoLimit
structure Cx where
 prog:Program
 w:World
 K:q0B
 mg:Str->Option Value
 base:Heap
 A:Around
 N:List Str
 s₀:Shared
 H₀:Hp
 env:Env
 outer:List Env
 stack:List Env
 ex:List Addr
 fn:Str->Bool
 calm:Bool
 pn:List (Addr×Obj)
 xe:Value->Shared->Prop
noncomputable def frs(l:List Env):List Addr:=l.filterMap (·.frame)
noncomputable abbrev Cx.fs(X:Cx):List Addr:=frs X.outer
noncomputable def Vis(sc:Scope)(x:Str):Prop:=sc.names.lookup x=some .local\/sc.names.lookup x=some .cell\/sc.names.lookup x=some .free
noncomputable def Loc(sc:Scope)(x:Str):Prop:=sc.names.lookup x=some .local\/sc.names.lookup x=some .cell
noncomputable def Look(env:Env)(h:Heap)(m:q0C)(x:Str)(u:Value):Prop :=
 (env.kindOf x=some .local/\m x=some u)\/((env.kindOf x=some .cell\/env.kindOf x=some .free)/\∃ c,env.cells.lookup x=some c/\h.IsCell c (some u))
structure Cx.Ok(X:Cx):Prop where
 mod:Mod X.K X.mg X.base
 kind:X.env.scope.kind=.function
 glob:X.env.globals=mainGlobals
 blt:X.env.builtins=builtinsNs
 above:X.s₀.heap.objs.size<=X.env.locals
 inj:∀ x y c,X.env.cells.lookup x=some c->X.env.cells.lookup y=some c->x=y
 has:∀ x,(X.env.kindOf x=some .cell\/X.env.kindOf x=some .free)->∃ c,X.env.cells.lookup x=some c
 cab:∀ x c,X.fn x=true->X.env.cells.lookup x=some c->X.s₀.heap.objs.size<=c
 hd:X.calm=true->X.A.handled=none
 frames:X.A.frames=some X.stack
 stk:X.stack=X.outer\/(X.stack=X.env::X.outer/\X.env.frame=some X.env.locals)
 exf:∀ b∈X.ex,b≠X.env.locals/\∀ x c,X.env.cells.lookup x=some c->c≠b
 bs:∀ b o,X.base.get? b=some o->X.s₀.heap.get? b=some o/\X.H₀ b=none
 bsz:X.base.objs.size<=X.s₀.heap.objs.size
 IZ:∀ b o,X.base.get? b=some o->b∉X.ex
 Ln:∀ b∈X.ex,b∉X.fs
 sV:X.s₀.heap.FunFrames X.base X.outer
 frf:∀ b∈X.fs,X.H₀ b=none
structure Zt(X:Cx)(Zr:List (Addr×Obj))(σ:List (Option V))(H:Hp)(s:Shared):Prop where
 ok:X.Ok
 os:s.os=X.s₀.os
 bare:AllBare s.gens
 base:Un X.fs X.ex X.H₀ H X.s₀.heap s.heap
 loc:∃ m,s.heap.Ns X.env.locals m/\∀(i:Nat) (x:Str) (v:V),X.N[i]?=some x->σ[i]?=some (some v)->Vis X.env.scope x->∃ u,bH v u/\Look X.env s.heap m x u
 cell:∀ x c,X.env.cells.lookup x=some c->∃ v,s.heap.IsCell c v
 free:H X.env.locals=none
 nE:∀ x c,X.env.cells.lookup x=some c->H c=none
 pin:∀ p∈X.pn++Zr,s.heap.get? p.1=some p.2/\H p.1=none/\p.1≠X.env.locals/\p.1∉X.fs/\∀ v,p.2.data≠.cell v
 Zw:HOk X.prog X.w H s.heap
 len:σ.length=X.N.length
section
variable {X:Cx} {Zr:List (Addr×Obj)} {σ:List (Option V)} {H H':Hp} {s:Shared} {h':Heap}
theorem Cx.Ok.YV(ok:X.Ok){b:Addr}{o:Obj}(e:X.base.get? b=some o):b∉X.fs:=fun hb=>by
 have:=(ok.sV.mem hb).1;rw[e] at this;cases this
theorem Zt.bs(I:Zt X Zr σ H s):∀ b o,X.base.get? b=some o->s.heap.get? b=some o/\H b=none:=fun b o e =>
 ⟨I.base.keep b o (I.ok.bs b o e).1 (I.ok.bs b o e).2 (I.ok.YV e) (I.ok.IZ b o e),I.base.free b o (I.ok.bs b o e).1 (I.ok.bs b o e).2 (I.ok.IZ b o e)⟩
theorem Zt.bk(I:Zt X Zr σ H s):∀ b o,X.base.get? b=some o->s.heap.get? b=some o:=fun b o e=>(I.bs b o e).1
theorem Zt.mod(I:Zt X Zr σ H s):Mod X.K X.mg X.base:=I.ok.mod
theorem Zt.kIn(I:Zt X Zr σ H s):X.K.In s.heap:=I.ok.mod.kin.keeps I.bk
theorem Zt.nolimit(I:Zt X Zr σ H s):s.heap.NoLimit:=I.ok.mod.nolimit.keeps I.bk
theorem Zt.fr(I:Zt X Zr σ H s):∃ m,Fr X.base X.env.locals s.heap m :=
 let ⟨m,hn,_⟩:=I.loc
 ⟨m,hn,I.bk,Nat.le_trans I.ok.bsz I.ok.above⟩
theorem Zt.lt(I:Zt X Zr σ H s):X.env.locals < s.heap.objs.size:=let ⟨_,hn,_⟩:=I.loc;hn.lt
theorem Zt.sz(I:Zt X Zr σ H s):X.s₀.heap.objs.size<=s.heap.objs.size:=Nat.le_trans I.ok.above (Nat.le_of_lt I.lt)
theorem Zt.Xf(I:Zt X Zr σ H s){a:Addr}(h:s.heap.objs.size<=a):a∉X.fs:=fun hb=>by
 obtain⟨_,o,ho,_⟩:=I.ok.sV.mem hb;exact absurd (Nat.lt_of_lt_of_le (Heap.lt_size ho) (Nat.le_trans I.sz h)) (Nat.lt_irrefl _)
theorem Zt.cne(I:Zt X Zr σ H s):∀ x c,X.env.cells.lookup x=some c->c≠X.env.locals:=fun x c e z=>by
 obtain⟨v,o,ho,hd⟩:=I.cell x c e;obtain⟨m,⟨o',es,ep,ho',hd',_⟩,_⟩:=I.loc;rw[z,ho'] at ho;cases ho;rw[hd'] at hd;cases hd
theorem Zt.sV(I:Zt X Zr σ H s):s.heap.FunFrames X.base X.outer:=by
 have all:∀(l:List Env),(∀ b∈frs l,b∈X.fs)->X.s₀.heap.FunFrames X.base l->s.heap.FunFrames X.base l:=by
  intro l
  induction l with
  | nil=>intro _ _;trivial
  | cons env r ih =>
   intro hs hl;obtain⟨hk,⟨L,o,hf,hn,ho,hd⟩,hr⟩:=hl;have hL:L∈X.fs:=hs L (by unfold frs;rw[List.filterMap_cons,hf];exact List.mem_cons_self);obtain⟨sl,e⟩:=I.base.slot L o ho (I.ok.frf L hL) hL fun z=>I.ok.Ln L z hL;exact⟨hk,⟨L,_,hf,hn,e,hd⟩,ih (fun b hb=>hs b (by unfold frs;rw[List.filterMap_cons,hf];exact List.mem_cons_of_mem _ hb)) hr⟩
 exact all X.outer (fun _ hb=>hb) I.ok.sV
theorem Zt.stack(I:Zt X Zr σ H s):s.heap.FunFrames X.base X.stack:=by
 rcases I.ok.stk with e|⟨e,hf⟩
 ·rw[e];exact I.sV
 ·rw[e];obtain⟨m,hn,_⟩:=I.loc;refine .cons (by rw[I.ok.kind];decide) hf hn ?_ I.sV;exact Heap.get?_none_of_le (Nat.le_trans I.ok.bsz I.ok.above)
theorem Zt.Bf(I:Zt X Zr σ H s):∀ b∈frs X.stack,b∈X.env.locals::X.fs:=fun b hb=>by
 rcases I.ok.stk with e|⟨e,hf⟩
 ·rw[e] at hb;exact List.mem_cons_of_mem _ hb
 ·rw[e] at hb;unfold frs at hb;rw[List.filterMap_cons,hf] at hb;exact hb
theorem Zt.HP(I:Zt X Zr σ H s):∀ b∈frs X.stack,H b=none:=fun b hb=>by
 rcases List.mem_cons.mp (I.Bf b hb) with e|hb
 ·rw[e];exact I.free
 ·obtain⟨_,o,ho,_⟩:=I.ok.sV.mem hb;exact I.base.free b o ho (I.ok.frf b hb) fun z=>I.ok.Ln b z hb
theorem Zt.step{g':Array GenState}{t':Nat}{d':Drawn}{ch:List Addr}(I:Zt X Zr σ H s)
    (hch:∀ b∈ch,(b∈X.ex\/X.s₀.heap.objs.size<=b)/\b≠X.env.locals/\(∀ x c,X.env.cells.lookup x=some c->c≠b)/\∀ p∈X.pn++Zr,p.1≠b)
    (keep:∀ b o,b≠X.env.locals->b∉X.fs->b∉ch->s.heap.get? b=some o->H b=none->h'.get? b=some o)
    (slot:∀ b o,b≠X.env.locals->b∈X.fs->b∉ch->s.heap.get? b=some o->H b=none->∃ sl,h'.get? b=some {o with slots:=sl}) (free:∀ b o,b∉ch->s.heap.get? b=some o->H b=none->H' b=none)
    (there:∀ b o,b∉ch->s.heap.get? b=some o->∃ o',h'.get? b=some o')
    (tY:∀ b xs,H b=some (.tup xs)->H' b=some (.tup xs)) (rH:∀ b o u,H b=some (.ZS o u)->H' b=some (.ZS o u)) (tX:∀ b ps,H b=some (.tbl ps)->∃ more,H' b=some (.tbl (ps++more)))
    (ns:∀ m,s.heap.Ns X.env.locals m->h'.Ns X.env.locals m) (Zw:HOk X.prog X.w H' h') (hg:AllBare g') :
    Zt X Zr σ H' {s with heap:=h',gens:=g',drawn:=d',toks:=t'}:=by
  have neL:∀ b o,X.s₀.heap.get? b=some o->b≠X.env.locals:=fun b o e=>Nat.ne_of_lt (Nat.lt_of_lt_of_le (Heap.lt_size e) I.ok.above);have neC:∀ b o,X.s₀.heap.get? b=some o->b∉X.ex->b∉ch:=fun b o e hx hb=>by
    rcases(hch b hb).1 with z|z
    · exact hx z
    · exact absurd (Nat.lt_of_lt_of_le (Heap.lt_size e) z) (Nat.lt_irrefl _)
  have cellK:∀ x c,X.env.cells.lookup x=some c->∀ v,s.heap.IsCell c v->h'.IsCell c v:=fun x c e v ⟨o,ho,hd⟩=>by
    have nch:c∉ch:=fun z=>(hch c z).2.2.1 x c e rfl;by_cases hc:c∈X.fs
    · obtain⟨sl,q⟩:=slot c o (I.cne x c e) hc nch ho (I.nE x c e);exact⟨_,q,hd⟩
    · exact⟨o,keep c o (I.cne x c e) hc nch ho (I.nE x c e),hd⟩
  refine⟨I.ok,I.os,hg,⟨fun b o e n hb hx=>?_,fun b o e n hb hx=>?_,fun b o e n hx=>?_,fun b o e hx=>?_,fun b xs e=>tY b xs (I.base.tY b xs e),fun b o xs e=>rH b o xs (I.base.rH b o xs e),fun b ps e=>?_⟩,?_,fun x c e=>?_,?_,fun x c e=>?_,fun p hp=>?_,Zw,I.len⟩
  · exact keep b o (neL b o e) hb (neC b o e hx) (I.base.keep b o e n hb hx) (I.base.free b o e n hx)
  · obtain⟨sl,e1⟩:=I.base.slot b o e n hb hx;obtain⟨ZM,e2⟩:=slot b _ (neL b o e) hb (neC b o e hx) e1 (I.base.free b o e n hx);exact⟨ZM,e2⟩
  · obtain⟨o',e1⟩:=I.base.there b o e hx;exact free b o' (neC b o e hx) e1 (I.base.free b o e n hx)
  · obtain⟨o',e1⟩:=I.base.there b o e hx;exact there b o' (neC b o e hx) e1
  · obtain⟨m1,e1⟩:=I.base.tX b ps e;obtain⟨m2,e2⟩:=tX b _ e1;exact⟨m1++m2,by rw[e2,Array.append_assoc]⟩
  · obtain⟨m,hn,hl⟩:=I.loc;refine⟨m,ns m hn,fun i x v e1 e2 e3=>?_⟩;obtain⟨u,r,l⟩:=hl i x v e1 e2 e3;refine⟨u,r,?_⟩;rcases l with l|⟨k,c,e,z⟩
    · exact .inl l
    · exact .inr ⟨k,c,e,cellK x c e _ z⟩
  · obtain⟨v,z⟩:=I.cell x c e;exact⟨v,cellK x c e v z⟩
  · obtain⟨m,⟨o,_,_,ho,_⟩,_⟩:=I.loc;exact free _ o (fun z=>(hch _ z).2.1 rfl) ho I.free
  · obtain⟨v,o,ho,hd⟩:=I.cell x c e;exact free c o (fun z=>(hch c z).2.2.1 x c e rfl) ho (I.nE x c e)
  · obtain⟨e,n,ne,nf,d⟩:=I.pin p hp;have nch:p.1∉ch:=fun z=>(hch p.1 z).2.2.2 p hp rfl;exact⟨keep p.1 p.2 ne nf nch e n,free p.1 p.2 nch e n,ne,nf,d⟩
theorem Zt.un{t':Nat}(I:Zt X Zr σ H s)(u:Un X.fs [] H H' s.heap h')(Zw:HOk X.prog X.w H' h'):Zt X Zr σ H' {s with heap:=h',toks:=t'}:=by
 obtain⟨m,⟨o,es,ep,ho,r⟩,_⟩:=id I.loc;obtain⟨sl,hL⟩:=u.any ho I.free (by simp);exact I.step (g':=s.gens) (d':=s.drawn) (ch:=[]) (fun _ z=>nomatch z) (fun b o _ hb _ e n=>u.keep b o e n hb (by simp)) (fun b o _ hb _ e n=>u.slot b o e n hb (by simp)) (fun b o _ e n=>u.free b o e n (by simp)) (fun b o _ e=>u.there b o e (by simp)) u.tY u.rH u.tX (fun m' hm=>by
  obtain⟨o',es',ep',ho',r'⟩:=hm;rw[ho] at ho';cases ho';exact⟨_,es',ep',hL,r'⟩) Zw I.bare
theorem Zt.call{g':Array GenState}{t':Nat}{d':Drawn}{ch:List Addr}(I:Zt X Zr σ H s)(u:Un (frs X.stack) ch H H' s.heap h')(Zw:HOk X.prog X.w H' h')(hg:AllBare g')
    (hch:∀ b∈ch,(b∈X.ex\/X.s₀.heap.objs.size<=b)/\b≠X.env.locals/\(∀ x c,X.env.cells.lookup x=some c->c≠b)/\∀ p∈X.pn++Zr,p.1≠b) :
    Zt X Zr σ H' {s with heap:=h',gens:=g',drawn:=d',toks:=t'}:=by
  obtain⟨m,⟨o,es,ep,ho,r⟩,_⟩:=id I.loc;obtain⟨sl,hL⟩:=u.any ho I.free fun z=>(hch _ z).2.1 rfl;exact I.step (ch:=ch) hch (fun b o hL hb hc e n=>u.keep b o e n (fun z=>(List.mem_cons.mp (I.Bf b z)).elim hL hb) hc) (fun b o _ _ hc e n=>u.any e n hc) (fun b o hc e n=>u.free b o e n hc) (fun b o hc e=>u.there b o e hc) u.tY u.rH u.tX (fun m' hm=>by
    obtain⟨o',es',ep',ho',r'⟩:=hm;rw[ho] at ho';cases ho';exact⟨_,es',ep',hL,r'⟩) Zw hg
theorem Zt.turned{t':Nat}{it:Addr}(I:Zt X Zr σ H s)(k:∀ b o,b≠it->s.heap.get? b=some o->h'.get? b=some o)(hn:H it=none)(hL:it≠X.env.locals)
    (h1:it∈X.ex\/X.s₀.heap.objs.size<=it) (h2:∀ x c,X.env.cells.lookup x=some c->c≠it) (h3:∀ p∈X.pn++Zr,p.1≠it):Zt X Zr σ H {s with heap:=h',toks:=t'}:=by
  have nit:∀ b u,H b=some u->b≠it:=fun b u e z=>by rw[z,hn] at e;cases e
  refine I.step (g':=s.gens) (d':=s.drawn) (ch:=[it]) (fun b hb=>?_) (fun b o _ _ hc e _=>k b o (fun z=>hc (by simp[z])) e) (fun b o _ _ hc e _=>⟨o.slots,k b o (fun z=>hc (by simp[z])) e⟩) (fun _ _ _ _ n=>n)
    (fun b o hc e=>⟨o,k b o (fun z=>hc (by simp[z])) e⟩) (fun _ _ e=>e) (fun _ _ _ e=>e) (fun b ps e=>⟨#[],by rw[e];simp⟩) (fun m hm=>?_) (fun b u e=>?_) I.bare
  · have e:b=it:=by simpa using hb
    subst e;exact⟨h1,hL,h2,h3⟩
  · obtain⟨o,es,ep,ho,r⟩:=hm;exact⟨o,es,ep,k _ o (Ne.symm hL) ho,r⟩
  · refine(I.Zw b u e).tW (fun c v hc q=>k c v ?_ q) (fun _ q=>q) fun _ _ q=>q;rcases hc with z|z
    · rw[z];exact nit b u e
    · exact nit c _ z
theorem Zt.tok(I:Zt X Zr σ H s)(t:Nat):Zt X Zr σ H {s with toks:=t}:=I.un (h':=s.heap) (t':=t) Un.refl I.Zw
theorem Zt.kept{t':Nat}(I:Zt X Zr σ H s)(k:∀ b u,s.heap.get? b=some u->h'.get? b=some u):Zt X Zr σ H {s with heap:=h',toks:=t'}:=I.un (Un.kept k) (I.Zw.kept k)
theorem Zt.laid{a:Addr}{o:HO}{t':Nat}(I:Zt X Zr σ H s)(k:∀ b u,s.heap.get? b=some u->h'.get? b=some u)(hp:s.heap.objs.size<=a)(new:dH X.prog X.w (Zs H a o) h' a o) :
    Zt X Zr σ (Zs H a o) {s with heap:=h',toks:=t'}:=I.un (Un.laid k hp (I.Zw.fresh hp)) (I.Zw.laid k hp new)
theorem Zt.write{x e:Addr}{o:HO}{t':Nat}(I:Zt X Zr σ H s)(mu:Mut (H x))(he:e=x\/H e=some (.own x))(k:∀ b u,b≠e->s.heap.get? b=some u->h'.get? b=some u)(heo:∃ u,h'.get? e=some u)
    (new:dH X.prog X.w (Zs H x o) h' x o):Zt X Zr σ (Zs H x o) {s with heap:=h',toks:=t'}:=I.un (Un.write mu he k heo) (I.Zw.write mu he k heo new)
theorem Zt.tP{abB:List (Addr×Obj)}(I:Zt X Zr σ H s)(h:∀ p∈abB,s.heap.get? p.1=some p.2/\H p.1=none/\p.1≠X.env.locals/\p.1∉X.fs/\∀ v,p.2.data≠.cell v):Zt X abB σ H s :=
 ⟨I.ok,I.os,I.bare,I.base,I.loc,I.cell,I.free,I.nE,fun p hp=>(List.mem_append.mp hp).elim (fun z=>I.pin p (List.mem_append_left _ z)) (h p),I.Zw,I.len⟩
theorem Ez{N:List Str}(hN:N.Nodup){i j:Nat}{x:Str}(a:N[i]?=some x)(b:N[j]?=some x):i=j:=by
 obtain⟨h1,e1⟩:=List.getElem?_eq_some_iff.mp a;obtain⟨h2,e2⟩:=List.getElem?_eq_some_iff.mp b;exact(List.getElem_inj hN).mp (e1.trans e2.symm)
theorem Cn{M:Model}{A:Around}{E:q0A}{i:Nat}{x:Str}{v:V}{u:Value}{Q:Unit->Shared->Prop}(I:Zt X Zr σ H s)(hN:X.N.Nodup)(hi:X.N[i]?=some x)(hx:Loc X.env.scope x)(r:bH v u)
    (h:∀ s',Zt X Zr (σ.set i (some v)) H s'->(∃ a,Heap.SameBut a s.heap s'.heap/\(a=X.env.locals\/X.env.cells.lookup x=some a))->Q () s') (hf:X.fn x=true\/X.env.scope.names.lookup x=some .local:=by first|exact .inl rfl|exact .inr rfl|assumption):wpAny M A (storeName X.env x u) Q E s:=by
  obtain⟨m,hn,hl⟩:=id I.loc;have acU:(X.env.scope.kind==.class||(X.env.scope.kind==.module&&X.env.locals !=X.env.globals))=false:=by rw[I.ok.kind];rfl
  have hiσ:i < σ.length:=by rw[I.len];exact(List.getElem?_eq_some_iff.mp hi).1
  have cne:=I.cne;have tracked:∀ {a:Addr} {h':Heap},(∃ o,s.heap.get? a=some o/\H a=none)->Heap.SameBut a s.heap h'->HOk X.prog X.w H h':=fun {a h'} ha hs b ob e=>by
    obtain⟨_,_,aa9⟩:=ha;refine(I.Zw b ob e).tW (fun c w' hc q=>(hs.2 c ?_).trans q) (fun _ q=>q) fun _ _ q=>q;rintro rfl;rcases hc with rfl|hc
    · rw[aa9] at e;cases e
    · rw[aa9] at hc;cases hc
  rcases hx with hk|hk
  · refine wpAny_storeName_local hk hn (fun h' hn' hs=>?_) acU;obtain⟨oL,_,_,hoL,_⟩:=id hn;refine h _ ⟨I.ok,I.os,I.bare,⟨fun b o e n hb hx=>?_,fun b o e n hb hx=>?_,I.base.free,fun b o e hx=>?_,I.base.tY,I.base.rH,I.base.tX⟩,⟨_,hn',fun j y v' e1 e2 e3=>?_⟩,fun y c e=>?_,I.free,I.nE,fun p hp=>?_,tracked ⟨oL,hoL,I.free⟩ hs,by simpa using I.len⟩ ⟨_,hs,.inl rfl⟩
    · exact(hs.2 b (Nat.ne_of_lt (Nat.lt_of_lt_of_le (Heap.lt_size e) I.ok.above))).trans (I.base.keep b o e n hb hx)
    · obtain⟨sl,e1⟩:=I.base.slot b o e n hb hx;exact⟨sl,(hs.2 b (Nat.ne_of_lt (Nat.lt_of_lt_of_le (Heap.lt_size e) I.ok.above))).trans e1⟩
    · obtain⟨o',e1⟩:=I.base.there b o e hx;exact⟨o',(hs.2 b (Nat.ne_of_lt (Nat.lt_of_lt_of_le (Heap.lt_size e) I.ok.above))).trans e1⟩
    · by_cases hj:j=i
      · subst hj;rw[hi] at e1;cases e1;rw[List.getElem?_set_self hiσ] at e2;cases e2;exact⟨u,r,.inl ⟨hk,by simp⟩⟩
      · rw[List.getElem?_set_ne (Ne.symm hj)] at e2;obtain⟨u',r',q⟩:=hl j y v' e1 e2 e3;refine⟨u',r',?_⟩;rcases q with⟨k,e⟩|⟨k,c,e,z⟩
        · refine .inl ⟨k,?_⟩;have:y≠x:=fun e=>hj (Ez hN e1 (e▸hi));simp[this,e]
        · exact .inr ⟨k,c,e,z.sameBut hs (cne y c e)⟩
    · obtain⟨w',z⟩:=I.cell y c e;exact⟨w',z.sameBut hs (cne y c e)⟩
    · obtain⟨e,n,ne,nf,d⟩:=I.pin p hp;exact⟨(hs.2 p.1 ne).trans e,n,ne,nf,d⟩
  · have hfn:X.fn x=true:=by
      rcases hf with z|z
      · exact z
      · rw[z] at hk;cases hk
    obtain⟨c,hc⟩:=I.ok.has x (.inl hk);obtain⟨w',z⟩:=I.cell x c hc;refine wpAny_storeName_cell I.ok.kind hk hc z (fun h' hc' hs=>?_);obtain⟨oc,hoc,acY⟩:=id z;refine h {s with heap:=h'} ⟨I.ok,I.os,I.bare,⟨fun b o e n hb hx=>?_,fun b o e n hb hx=>?_,I.base.free,fun b o e hx=>?_,I.base.tY,I.base.rH,I.base.tX⟩,⟨m,hn.sameBut hs (Ne.symm (cne x c hc)),fun j y v' e1 e2 e3=>?_⟩,fun y c' e=>?_,I.free,I.nE,fun p hp=>?_,tracked ⟨oc,hoc,I.nE x c hc⟩ hs,by simpa using I.len⟩ ⟨c,hs,.inr hc⟩
    · exact(hs.2 b (Nat.ne_of_lt (Nat.lt_of_lt_of_le (Heap.lt_size e) (I.ok.cab x c hfn hc)))).trans (I.base.keep b o e n hb hx)
    · obtain⟨sl,e1⟩:=I.base.slot b o e n hb hx;exact⟨sl,(hs.2 b (Nat.ne_of_lt (Nat.lt_of_lt_of_le (Heap.lt_size e) (I.ok.cab x c hfn hc)))).trans e1⟩
    · obtain⟨o',e1⟩:=I.base.there b o e hx;exact⟨o',(hs.2 b (Nat.ne_of_lt (Nat.lt_of_lt_of_le (Heap.lt_size e) (I.ok.cab x c hfn hc)))).trans e1⟩
    · by_cases hj:j=i
      · subst hj;rw[hi] at e1;cases e1;rw[List.getElem?_set_self hiσ] at e2;cases e2;exact⟨u,r,.inr ⟨.inl hk,c,hc,hc'⟩⟩
      · rw[List.getElem?_set_ne (Ne.symm hj)] at e2;obtain⟨u',r',q⟩:=hl j y v' e1 e2 e3;refine⟨u',r',?_⟩;rcases q with q|⟨k,c',e,z'⟩
        · exact .inl q
        · refine .inr ⟨k,c',e,z'.sameBut hs ?_⟩;rintro rfl;exact hj (Ez hN e1 (I.ok.inj _ _ _ e hc▸hi))
    · by_cases hcc:c'=c
      · subst hcc;exact⟨_,hc'⟩
      · obtain⟨w2,z2⟩:=I.cell y c' e;exact⟨w2,z2.sameBut hs hcc⟩
    · obtain⟨e,n,ne,nf,d⟩:=I.pin p hp;refine⟨(hs.2 p.1 ?_).trans e,n,ne,nf,d⟩;intro q;rw[q,hoc] at e;have q':oc=p.2:=Option.some.inj e;exact d w' (by rw[<- q'];exact acY)
theorem Bg{M:Model}{A:Around}{E:q0A}{i:Nat}{x:Str}{v:V}{u:Value}{Q:Unit->Shared->Prop}(I:Zt X Zr σ H s)(hN:X.N.Nodup)(hi:X.N[i]?=some x)(hx:Loc X.env.scope x)(r:bH v u)
    (h:∀ s',Zt X Zr (σ.set i (some v)) H s'->Q () s') (hf:X.fn x=true\/X.env.scope.names.lookup x=some .local:=by first|exact .inl rfl|exact .inr rfl|assumption):wpAny M A (storeName X.env x u) Q E s :=
  Cn I hN hi hx r (fun s' I' _=>h s' I') hf
theorem Zt.Vv{s':Shared}{ch:List Addr}(I:Zt X Zr σ H s)(ho:s'.os=s.os)(u:Un (frs X.stack) ch H H' s.heap s'.heap)(Zw:HOk X.prog X.w H' s'.heap)(hg:AllBare s'.gens)
    (hch:∀ b∈ch,(b∈X.ex\/X.s₀.heap.objs.size<=b)/\b≠X.env.locals/\(∀ x c,X.env.cells.lookup x=some c->c≠b)/\∀ p∈X.pn++Zr,p.1≠b):Zt X Zr σ H' s':=by
  obtain⟨h',g',d',t',o'⟩:=s';have e:o'=s.os:=ho;subst e;exact I.call (g':=g') (t':=t') (d':=d') u Zw hg hch
end
noncomputable abbrev XK:=Value->Option Addr->Hp->Prop
noncomputable abbrev St:=List (Option V)
noncomputable abbrev VK:=V->Hp->Prop
noncomputable abbrev TE:=St->Hp->VK->Prop
noncomputable abbrev TT:=St->Hp->(Bool->Hp->Prop)->Prop
noncomputable abbrev TA:=St->Hp->(List V->Hp->Prop)->Prop
structure Ends where
 nx:St->Hp->Prop
 rt:VK
 bk:St->Hp->Prop:=fun _ _=>False
 ct:St->Hp->Prop:=fun _ _=>False
noncomputable abbrev TS:=Ends->St->Hp->Prop
noncomputable def EP(X:Cx)(Zr:List (Addr×Obj))(σ:St)(Q:VK)(u:Value)(s':Shared):Prop:=∃ v H',Zt X Zr σ H' s'/\bH v u/\Q v H'
noncomputable def TP(X:Cx)(Zr:List (Addr×Obj))(σ:St)(Q:Bool->Hp->Prop)(b:Bool)(s':Shared):Prop:=∃ H',Zt X Zr σ H' s'/\Q b H'
noncomputable def AP(X:Cx)(Zr:List (Addr×Obj))(σ:St)(Q:List V->Hp->Prop)(us:List Value)(s':Shared):Prop:=∃ vs H',Zt X Zr σ H' s'/\Vals vs us/\Q vs H'
noncomputable def SP(X:Cx)(Zr:List (Addr×Obj))(D:Ends)(f:Flow)(s':Shared):Prop :=
 match f with
 | .next=>∃ σ' H',Zt X Zr σ' H' s'/\D.nx σ' H'
 | .brk=>∃ σ' H',Zt X Zr σ' H' s'/\D.bk σ' H'
 | .cont=>∃ σ' H',Zt X Zr σ' H' s'/\D.ct σ' H'
 | .ret u=>∃ v σ' H',Zt X Zr σ' H' s'/\bH v u/\D.rt v H'
noncomputable def PE(X:Cx)(e:Expr)(t:TE):Prop :=
 ∀(Zr:List (Addr×Obj)) (s:Shared) (σ:St) (H:Hp) (Q:VK),Zt X Zr σ H s->t σ H Q->wpAny (model X.prog X.w) X.A (eval e X.env) (EP X Zr σ Q) X.xe s
noncomputable def PT(X:Cx)(e:Expr)(t:TT):Prop :=
 ∀(Zr:List (Addr×Obj)) (s:Shared) (σ:St) (H:Hp) (Q:Bool->Hp->Prop),Zt X Zr σ H s->t σ H Q->wpAny (model X.prog X.w) X.A (isTrue e X.env (eval e X.env)) (TP X Zr σ Q) X.xe s
noncomputable def PW(X:Cx)(e:Expr)(t:TT):Prop :=
 ∀(whole:Sem Value) (Zr:List (Addr×Obj)) (s:Shared) (σ:St) (H:Hp) (Q:Bool->Hp->Prop),Zt X Zr σ H s->t σ H Q->wpAny (model X.prog X.w) X.A (isTrue e X.env whole) (TP X Zr σ Q) X.xe s
theorem PW.pt{X:Cx}{e:Expr}{t:TT}(h:PW X e t):PT X e t:=h _
noncomputable def PA(X:Cx)(es:List Expr)(t:TA):Prop :=
 ∀(pos:Pos) (Zr:List (Addr×Obj)) (s:Shared) (σ:St) (H:Hp) (Q:List V->Hp->Prop),Zt X Zr σ H s->t σ H Q->wpAny (model X.prog X.w) X.A (spliced (backTo pos (starEach es X.env))) (AP X Zr σ Q) X.xe s
noncomputable def PS(X:Cx)(st:Stmt)(t:TS):Prop :=
 ∀(Zr:List (Addr×Obj)) (s:Shared) (σ:St) (H:Hp) (D:Ends),Zt X Zr σ H s->t D σ H->wpAny (model X.prog X.w) X.A (exec st X.env) (SP X Zr D) X.xe s
noncomputable def PSs(X:Cx)(st:List Stmt)(t:TS):Prop :=
 ∀(Zr:List (Addr×Obj)) (s:Shared) (σ:St) (H:Hp) (D:Ends),Zt X Zr σ H s->t D σ H->wpAny (model X.prog X.w) X.A (execs st X.env) (SP X Zr D) X.xe s
theorem thn{α:Type}{t:Sem α}{Q Q':α->Shared->Prop}{M:Model}{A:Around}{E:q0A}{s:Shared}(h:wpAny M A t Q E s)(hQ:∀ a s,Q a s->Q' a s):wpAny M A t Q' E s:=wpAny_mono h hQ fun _ _ x=>x
section
variable {X:Cx}
noncomputable def eD(i:Nat):TE:=fun σ H Q=>∃ v,σ[i]?=some (some v)/\Q v H
noncomputable def tC(v:V):TE:=fun _ H Q=>Q v H
theorem Uh{i:Nat}{x:Str}{pos:Pos}(hN:X.N[i]?=some x)(hv:Vis X.env.scope x)(hd:(x==("__debug__":Str))=false:=by decide)(hcd:(x==("__classdict__":Str))=false:=by decide):PE X (.Name x pos) (eD i):=by
 intro Zr s σ H Q I h;obtain⟨v,e,h⟩:=h;obtain⟨m,hn,hl⟩:=I.loc;obtain⟨u,r,l⟩:=hl i x v hN e hv;have fin:EP X Zr σ Q u s:=⟨v,H,I,r,h⟩;rcases l with⟨hk,hm⟩|⟨hk,c,hc,aaN⟩
 ·exact wpAny_Name (wpAny_loadName_local I.ok.kind hk hn hm fin) hd
 ·rcases hk with hk|hk
  ·exact wpAny_Name (wpAny_loadName_cell I.ok.kind hk hc aaN fin) hd
  ·exact wpAny_Name (wpAny_loadName_free I.ok.kind hk hc aaN fin hcd) hd
theorem aE{i j pos}:PE X (.Constant (.int i) j pos) (tC (.int i)):=fun _ _ _ H _ I h=>wpAny_Constant_int ⟨.int i,H,I.tok _,⟨_,rfl⟩,h⟩
theorem Ma{b j pos}:PE X (.Constant (.bool b) j pos) (tC (.bl b)):=fun _ _ _ H _ I h=>Constant_bool ⟨.bl b,H,I,rfl,h⟩
theorem dJ{j pos}:PE X (.Constant .none j pos) (tC .Zu):=fun _ _ _ H _ I h=>Constant_none ⟨.Zu,H,I,rfl,h⟩
theorem aS{x j pos}:PE X (.Constant (.str x) j pos) (tC (.str x)):=fun _ _ _ H _ I h=>Calls.Constant_str ⟨.str x,H,I.tok _,⟨_,rfl⟩,h⟩
noncomputable def Gl(X:Cx)(x:Str):Prop:=X.env.kindOf x=some .globalImplicit
theorem xO{E:q0A}{Zr:List (Addr×Obj)}{s:Shared}{σ:St}{H:Hp}{x:Str}{u:Value}{pos:Pos}{Q:q0A}(I:Zt X Zr σ H s)(hg:Gl X x)(hm:X.mg x=some u)(h:Q u s)
    (hd:(x==("__debug__":Str))=false:=by decide):wpAny (model X.prog X.w) X.A (eval (.Name x pos) X.env) Q E s :=
  Calls.Name_function_global I.ok.kind hg (Calls.loadGlobal_global (by rw[I.ok.glob];exact I.mod.glob.keeps I.bk) hm h) hd
theorem rJ{E:q0A}{Zr:List (Addr×Obj)}{s:Shared}{σ:St}{H:Hp}{x:Str}{u:Value}{pos:Pos}{Q:q0A}(I:Zt X Zr σ H s)(hg:Gl X x)(hm:X.mg x=none)(hv:bootBuiltins x=some u)(h:Q u s)
    (hn:x≠"__name__":=by decide) (hd:(x==("__debug__":Str))=false:=by decide):wpAny (model X.prog X.w) X.A (eval (.Name x pos) X.env) Q E s:=by
  obtain⟨mb,h1,h2⟩:=I.mod.blt;exact Calls.Name_function_global I.ok.kind hg (Calls.loadGlobal_builtin (by rw[I.ok.glob];exact I.mod.glob.keeps I.bk) hm (by rw[I.ok.blt];exact h1.keeps I.bk) ((h2 x hn).trans hv) h) hd
theorem tO{x:Str}{v:V}{u:Value}{pos:Pos}(hg:Gl X x)(hm:X.mg x=some u)(r:bH v u)(hd:(x==("__debug__":Str))=false:=by decide):PE X (.Name x pos) (tC v) :=
 fun _ _ _ H _ I h=>xO I hg hm ⟨v,H,I,r,h⟩ hd
theorem O0{x:Str}{v:V}{u:Value}{pos:Pos}(hg:Gl X x)(hm:X.mg x=none)(hv:bootBuiltins x=some u)(r:bH v u)(hn:x≠"__name__":=by decide)(hd:(x==("__debug__":Str))=false:=by decide):PE X (.Name x pos) (tC v) :=
 fun _ _ _ H _ I h=>rJ I hg hm hv ⟨v,H,I,r,h⟩ hn hd
variable {a b:Expr} {ta tb:TE} {pos:Pos}
noncomputable def PC(X:Cx)(op:CmpOp)(a b:Expr)(t:TE):Prop :=
 ∀(Zr:List (Addr×Obj)) (s:Shared) (σ:St) (H:Hp) (Q:VK),Zt X Zr σ H s->t σ H Q ->
  wpAny (model X.prog X.w) X.A (eval a X.env) (fun v s₁=>wpAny (model X.prog X.w) X.A (eval b X.env) (fun u s₂=>wpAny (model X.prog X.w) X.A (compareOp op v u) (EP X Zr σ Q) X.xe s₂) X.xe s₁) X.xe s
theorem nobehind(b:Expr){op:CmpOp}(h:op≠.In)(h2:op≠.NotIn):behindInMarks op b=false:=by
 have e1:(op==CmpOp.In)=false:=by cases op<;>first|rfl|exact absurd rfl h
 have e2:(op==CmpOp.NotIn)=false:=by cases op<;>first|rfl|exact absurd rfl h2
 cases b<;>simp[behindInMarks,e1,e2]
noncomputable def tB(t:TE):TT:=fun σ H Q=>t σ H fun x H1=>∃ c,x=.bl c/\Q c H1
theorem Ue{op:CmpOp}{t:TE}(h:PC X op a b t)(h1:behindInMarks op b=false:=by first|exact nobehind _ (by decide) (by decide)|rfl):PE X (.Compare a [op] [b] pos) t:=fun Zr s σ H Q I hw=>wpAny_Compare1 (h Zr s σ H Q I hw) h1
theorem Ul{op:CmpOp}{t:TE}(h:PC X op a b t)(h1:behindInMarks op b=false:=by first|exact nobehind _ (by decide) (by decide)|rfl):PT X (.Compare a [op] [b] pos) (tB t):=by
 intro Zr s σ H Q I hw;refine wpAny_isTrue_Compare1 (thn (h Zr s σ H _ I hw) fun v s1 h1=>thn h1 fun u s2 h2=>thn h2 fun c s3 ⟨x,H1,I1,r1,q1⟩=>?_) h1;obtain⟨d,rfl,q⟩:=q1;cases r1;exact wpAny_truthy_bool ⟨H1,I1,q⟩
theorem AI{e:Expr}{t:TE}(h:PE X e t)(he:∀ whole,isTrue e X.env whole=(do let v <- whole;standAt e.pos;holding [v] (truthy v)):=by intro _;rfl):PT X e (tB t):=by
 intro Zr s σ H Q I hw;refine isTrue_plain (thn (h Zr s σ H _ I hw) fun v s1 ⟨x,H1,I1,r1,q1⟩=>?_) (he _);obtain⟨d,rfl,q⟩:=q1;cases r1;exact wpAny_truthy_bool ⟨H1,I1,q⟩
variable {tA tB':TT} {rest:List Expr}
noncomputable def Xz(t u:TT):TT:=fun σ H Q=>t σ H fun c H1=>if c=true then u σ H1 Q else Q false H1
noncomputable def Ze(t u:TT):TT:=fun σ H Q=>t σ H fun c H1=>if c=true then Q true H1 else u σ H1 Q
noncomputable def XG(t:TT):TT:=fun σ H Q=>t σ H fun c H1=>Q (!c) H1
theorem xZ(ha:PT X a tA):PW X (.BoolOp .And [a] pos) tA:=by
 intro wh Zr s σ H Q I h;refine isTrue_and (thn (ha Zr s σ H Q I h) fun c s1 e=>?_);cases c with
 | true=>exact isTrue_and_nil e
 | false=>exact e
theorem Gk(ha:PT X a tA):PW X (.BoolOp .Or [a] pos) tA:=by
 intro wh Zr s σ H Q I h;refine isTrue_or (thn (ha Zr s σ H Q I h) fun c s1 e=>?_);cases c with
 | false=>exact isTrue_or_nil e
 | true=>exact e
theorem Dr(ha:PT X a tA)(hb:PW X (.BoolOp .And (b::rest) pos) tB'):PW X (.BoolOp .And (a::b::rest) pos) (Xz tA tB'):=by
 intro wh Zr s σ H Q I h;refine isTrue_and (thn (ha Zr s σ H _ I h) fun c s1 ⟨H1,I1,q1⟩=>?_);cases c with
 | true=>exact hb wh Zr s1 σ H1 Q I1 q1
 | false=>exact⟨H1,I1,q1⟩
theorem HH(ha:PT X a tA)(hb:PW X (.BoolOp .Or (b::rest) pos) tB'):PW X (.BoolOp .Or (a::b::rest) pos) (Ze tA tB'):=by
 intro wh Zr s σ H Q I h;refine isTrue_or (thn (ha Zr s σ H _ I h) fun c s1 ⟨H1,I1,q1⟩=>?_);cases c with
 | true=>exact⟨H1,I1,q1⟩
 | false=>exact hb wh Zr s1 σ H1 Q I1 q1
theorem Mi(ha:PT X a tA):PT X (.UnaryOp .Not a pos) (XG tA):=by
 intro Zr s σ H Q I h;exact isTrue_not (ha Zr s σ H (fun c H1=>Q (!c) H1) I h)
noncomputable def ME(ta tb:TE):TE:=fun σ H Q=>ta σ H fun x H1=>∃ c,x=.bl c/\if c=true then tb σ H1 Q else Q (.bl false) H1
noncomputable def UL(ta tb:TE):TE:=fun σ H Q=>ta σ H fun x H1=>∃ c,x=.bl c/\if c=true then Q (.bl true) H1 else tb σ H1 Q
noncomputable def MO(ta:TE):TE:=fun σ H Q=>ta σ H fun x H1=>∃ c,x=.bl c/\Q (.bl (!c)) H1
theorem Gi{op}{t:TE}(h:PE X a t):PE X (.BoolOp op [a] pos) t:=fun Zr s σ H Q I hw=>BoolOp_one (h Zr s σ H Q I hw)
theorem Gh(ha:PE X a ta)(hb:PE X (.BoolOp .And (b::rest) pos) tb):PE X (.BoolOp .And (a::b::rest) pos) (ME ta tb):=by
 intro Zr s σ H Q I h;refine BoolOp_and (thn (ha Zr s σ H _ I h) fun v s1 ⟨x,H1,I1,r1,q1⟩=>?_);obtain⟨c,rfl,q1⟩:=q1;cases r1;refine wpAny_truthy_bool ?_;cases c with
 | true=>exact hb Zr s1 σ H1 Q I1 q1
 | false=>exact⟨.bl false,H1,I1,rfl,q1⟩
theorem Xi(ha:PE X a ta)(hb:PE X (.BoolOp .Or (b::rest) pos) tb):PE X (.BoolOp .Or (a::b::rest) pos) (UL ta tb):=by
 intro Zr s σ H Q I h;refine BoolOp_or (thn (ha Zr s σ H _ I h) fun v s1 ⟨x,H1,I1,r1,q1⟩=>?_);obtain⟨c,rfl,q1⟩:=q1;cases r1;refine wpAny_truthy_bool ?_;cases c with
 | false=>exact hb Zr s1 σ H1 Q I1 q1
 | true=>exact⟨.bl true,H1,I1,rfl,q1⟩
theorem Ug(ha:PE X a ta):PE X (.UnaryOp .Not a pos) (MO ta):=by
 intro Zr s σ H Q I h;refine UnaryOp_ (thn (ha Zr s σ H _ I h) fun v s1 ⟨x,H1,I1,r1,q1⟩=>?_);obtain⟨c,rfl,q1⟩:=q1;cases r1;exact not_of (wpAny_truthy_bool ⟨.bl (!c),H1,I1,rfl,q1⟩)
noncomputable def Zc(t:TT)(ta tb:TE):TE:=fun σ H Q=>t σ H fun c H1=>if c=true then ta σ H1 Q else tb σ H1 Q
theorem pE{c:Expr}(hc:PT X c tA)(ha:PE X a ta)(hb:PE X b tb):PE X (.IfExp c a b pos) (Zc tA ta tb):=by
 intro Zr s σ H Q I h;refine wpAny_IfExp (thn (hc Zr s σ H _ I h) fun d s1 ⟨H1,I1,q1⟩=>?_);cases d with
 | true=>exact ha Zr s1 σ H1 Q I1 q1
 | false=>exact hb Zr s1 σ H1 Q I1 q1
end
noncomputable def dC(K:q0B)(H:Hp)(a:Addr)(xs:List V):Prop :=
 Rd H a (.lst xs) \/
  ∃(o:Obj) (Zv:Array Value) (n:Nat),K.lookup a=some o/\o.cls=.type "list"/\o.dict=none/\o.data=.seq Zv n/\Zv.size<=sizeLine/\Vals xs Zv.toList
noncomputable def eJ(K:q0B)(H:Hp)(a:Addr)(xs:List V):Prop :=
 Rd H a (.tup xs) \/
  ∃(o:Obj) (Zv:Array Value) (n:Nat),K.lookup a=some o/\o.cls=.type "tuple"/\o.data=.seq Zv n/\Zv.size<=sizeLine/\Vals xs Zv.toList
noncomputable def Yh:Value->Option V
 | .none=>some .Zu
 | .bool b=>some (.bl b)
 | .int i _=>some (.int i)
 | .str x _=>some (.str x)
 | .bytes b _=>some (.byt b)
 | .float b _=>some (.flt b)
 | .ref a=>some (.ref a)
 | .type n=>some (.ty n)
 | _=>none
theorem bH.abs{x:V}{u:Value}(r:bH x u):Yh u=some x:=by
 cases x with
 | Zu=>cases r;rfl
 | bl _=>cases r;rfl
 | int _=>obtain⟨t,rfl⟩:=r;rfl
 | str _=>obtain⟨t,rfl⟩:=r;rfl
 | byt _=>obtain⟨t,rfl⟩:=r;rfl
 | flt _=>obtain⟨t,rfl⟩:=r;rfl
 | ref _=>cases r;rfl
 | ty _=>cases r;rfl
theorem bH.inj{x y:V}{u:Value}(r:bH x u)(q:bH y u):x=y:=Option.some.inj (r.abs.symm.trans q.abs)
theorem Vals.inj{xs ys:List V}{us:List Value}(h:Vals xs us)(g:Vals ys us):xs=ys:=by
 induction h generalizing ys with
 | nil=>cases g;rfl
 | cons r t ih =>
  cases g with
  | cons r' t'=>rw[r.inj r',ih t']
section
variable {X:Cx} {Zr:List (Addr×Obj)} {σ:St} {H:Hp} {s:Shared} {a:Addr} {xs ys:List V}
theorem dC.of{K:q0B}(h:H a=some (.lst xs)):dC K H a xs:=.inl (.inl h)
theorem eJ.of{K:q0B}(h:H a=some (.tup xs)):eJ K H a xs:=.inl (.inl h)
theorem Zt.list(I:Zt X Zr σ H s)(h:dC X.K H a xs):∃ Zv:List Value,Vals xs Zv/\PlainL s.heap a Zv.toArray/\xs.length<=sizeLine:=by
 rcases h with h|⟨o,Zv,n,hk,hc,hd,hs,hz,r⟩
 ·obtain⟨z,Zv,n,r,e⟩:=h.ok I.Zw;exact⟨Zv,r,⟨_,n,e,rfl,rfl,rfl⟩,z⟩
 ·refine⟨Zv.toList,r,⟨o,n,I.kIn a o hk,hc,hd,by simpa using hs⟩,?_⟩;have e:=r.length;simp only[Array.length_toList] at e;omega
theorem Zt.tuple(I:Zt X Zr σ H s)(h:eJ X.K H a xs):∃ Zv:List Value,Vals xs Zv/\IsTup s.heap a Zv.toArray/\xs.length<=sizeLine:=by
 rcases h with h|⟨o,Zv,n,hk,hc,hs,hz,r⟩
 ·obtain⟨z,Zv,r,p⟩:=h.ok I.Zw;exact⟨Zv,r,p,z⟩
 ·refine⟨Zv.toList,r,⟨o,I.kIn a o hk,hc,n,by simpa using hs⟩,?_⟩;have e:=r.length;simp only[Array.length_toList] at e;omega
theorem Zt.Em(I:Zt X Zr σ H s)(h:dC X.K H a xs)(h':dC X.K H a ys):xs=ys:=by
 obtain⟨Zv,r,⟨o,n,e,_,_,d⟩,_⟩:=I.list h;obtain⟨its',r',⟨o',n',e',_,_,d'⟩,_⟩:=I.list h';rw[e] at e';cases e';rw[d] at d';injection d' with d1 _
 have:Zv=its':=by simpa using congrArg Array.toList d1
 subst this;exact r.inj r'
theorem Zt.JE(I:Zt X Zr σ H s)(h:eJ X.K H a xs)(h':eJ X.K H a ys):xs=ys:=by
 obtain⟨Zv,r,⟨o,e,_,n,d⟩,_⟩:=I.tuple h;obtain⟨its',r',⟨o',e',_,n',d'⟩,_⟩:=I.tuple h';rw[e] at e';cases e';rw[d] at d';injection d' with d1 _
 have:Zv=its':=by simpa using congrArg Array.toList d1
 subst this;exact r.inj r'
end
noncomputable abbrev Cx.xF(X:Cx)(E:q0A):Cx:={X with xe:=E}
noncomputable abbrev Cx.nox(X:Cx):Cx:=X.xF fun _ _=>False
theorem Cx.Ok.xF{X:Cx}(ok:X.Ok)(E:q0A):(X.xF E).Ok :=
 ⟨ok.mod,ok.kind,ok.glob,ok.blt,ok.above,ok.inj,ok.has,ok.cab,ok.hd,ok.frames,ok.stk,ok.exf,ok.bs,ok.bsz,ok.IZ,ok.Ln,ok.sV,ok.frf⟩
theorem Cx.Ok.lQ{X:Cx}{E:q0A}(ok:(X.xF E).Ok):X.Ok :=
 ⟨ok.mod,ok.kind,ok.glob,ok.blt,ok.above,ok.inj,ok.has,ok.cab,ok.hd,ok.frames,ok.stk,ok.exf,ok.bs,ok.bsz,ok.IZ,ok.Ln,ok.sV,ok.frf⟩
section
variable {X:Cx} {Zr:List (Addr×Obj)} {σ:St} {H:Hp} {s:Shared} {E:q0A}
theorem Zt.xF(I:Zt X Zr σ H s)(E:q0A):Zt (X.xF E) Zr σ H s:=⟨I.ok.xF E,I.os,I.bare,I.base,I.loc,I.cell,I.free,I.nE,I.pin,I.Zw,I.len⟩
theorem Zt.lQ(I:Zt (X.xF E) Zr σ H s):Zt X Zr σ H s:=⟨I.ok.lQ,I.os,I.bare,I.base,I.loc,I.cell,I.free,I.nE,I.pin,I.Zw,I.len⟩
theorem SP.lQ{D:Ends}{f:Flow}{s':Shared}(h:SP (X.xF E) Zr D f s'):SP X Zr D f s':=by
 cases f with
 | next=>obtain⟨σ',H',I,q⟩:=h;exact⟨σ',H',I.lQ,q⟩
 | brk=>obtain⟨σ',H',I,q⟩:=h;exact⟨σ',H',I.lQ,q⟩
 | cont=>obtain⟨σ',H',I,q⟩:=h;exact⟨σ',H',I.lQ,q⟩
 | ret u=>obtain⟨v,σ',H',I,r,q⟩:=h;exact⟨v,σ',H',I.lQ,r,q⟩
theorem PE.nox{e:Expr}{t:TE}(h:PE X.nox e t):PE X e t:=fun Zr s σ H Q I hw =>
 wpAny_mono (h Zr s σ H Q (I.xF _) hw) (fun _ _ ⟨v,H',I',r,q⟩=>⟨v,H',I'.lQ,r,q⟩) fun _ _ z=>False.elim z
theorem PT.nox{e:Expr}{t:TT}(h:PT X.nox e t):PT X e t:=fun Zr s σ H Q I hw =>
 wpAny_mono (h Zr s σ H Q (I.xF _) hw) (fun _ _ ⟨H',I',q⟩=>⟨H',I'.lQ,q⟩) fun _ _ z=>False.elim z
theorem PSs.nox{st:List Stmt}{t:TS}(h:PSs X.nox st t):PSs X st t:=fun Zr s σ H D I hw =>
 wpAny_mono (h Zr s σ H D (I.xF _) hw) (fun _ _ q=>q.lQ) fun _ _ z=>False.elim z
end
section
variable {X:Cx} {st:Stmt} {rest:List Stmt} {t u:TS} {e:Expr} {te:TE} {pos:Pos}
noncomputable def MN:TS:=fun D σ H=>D.nx σ H
noncomputable def PH(t u:TS):TS:=fun D σ H=>t {D with nx:=u D} σ H
theorem aZ:PSs X [] MN:=fun _ _ σ H _ I h=>wpAny_execs_nil ⟨σ,H,I,h⟩
theorem aC(h1:PS X st t)(h2:PSs X rest u):PSs X (st::rest) (PH t u):=by
 intro Zr s σ H D I h;refine wpAny_execs_cons (thn (h1 Zr s σ H {D with nx:=u D} I h) fun f s1 q=>?_);cases f with
 | next =>
  obtain⟨σ',H',I',q⟩:=q;exact h2 Zr s1 σ' H' D I' q
 | ret v=>exact q
 | brk=>exact q
 | cont=>exact q
theorem aI(h1:PS X st t):PSs X [st] t:=by
 intro Zr s σ H D I h;refine wpAny_execs_cons (thn (h1 Zr s σ H D I h) fun f s1 q=>?_);cases f with
 | next=>exact wpAny_execs_nil q
 | ret v=>exact q
 | brk=>exact q
 | cont=>exact q
noncomputable def UI:TS:=fun D σ H=>D.bk σ H
noncomputable def XC:TS:=fun D σ H=>D.ct σ H
theorem Zt.quiet{Zr:List (Addr×Obj)}{σ:St}{H:Hp}{s:Shared}(I:Zt X Zr σ H s):interactive X.env=false:=by simp[interactive,I.ok.kind]
noncomputable def MK(te:TE):TS:=fun D σ H=>te σ H fun _ H1=>D.nx σ H1
theorem bM(he:PE X e te)(hs:swapsWith e none pos.line X.env=pure false:=by rfl):PS X (.Expr e pos) (MK te):=by
 intro Zr s σ H D I h;exact wpAny_Expr_any (thn (he Zr s σ H _ I h) fun v s1 ⟨x,H1,I1,r1,q1⟩=>⟨σ,H1,I1,q1⟩) I.quiet hs
noncomputable def UM(te:TE):TS:=fun D σ H=>te σ H D.rt
theorem aP(he:PE X e te):PS X (.Return (some e) pos) (UM te):=by
 intro Zr s σ H D I h;exact wpAny_Return_some (thn (he Zr s σ H _ I h) fun v s1 ⟨x,H1,I1,r1,q1⟩=>⟨x,σ,H1,I1,r1,q1⟩)
noncomputable def XH:TS:=fun D _ H=>D.rt .Zu H
noncomputable def ML(c:TT)(t u:TS):TS:=fun D σ H=>c σ H fun b H1=>if b=true then t D σ H1 else u D σ H1
theorem bI{c:Expr}{a b:List Stmt}{tc:TT}(hc:PT X c tc)(ha:PSs X a t)(hb:PSs X b u):PS X (.If c a b pos) (ML tc t u):=by
 intro Zr s σ H D I h;refine wpAny_If (thn (hc Zr s σ H _ I h) fun d s1 ⟨H1,I1,q1⟩=>?_);cases d with
 | true=>exact ha Zr s1 σ H1 D I1 q1
 | false=>exact hb Zr s1 σ H1 D I1 q1
noncomputable def UK:TS:=fun _ _ _=>False
end
noncomputable abbrev TG:=V->St->Hp->(St->Hp->Prop)->Prop
noncomputable abbrev TGs:=List V->St->Hp->(St->Hp->Prop)->Prop
noncomputable def PG(X:Cx)(target:Expr)(t:TG):Prop :=
 ∀(Zr:List (Addr×Obj)) (s:Shared) (σ:St) (H:Hp) (v:V) (u:Value) (Q:St->Hp->Prop),Zt X Zr σ H s->bH v u->t v σ H Q ->
  wpAny (model X.prog X.w) X.A (assign target X.env u) (fun _ s'=>∃ σ' H',Zt X Zr σ' H' s'/\Q σ' H') X.xe s
noncomputable def PGs(X:Cx)(ts:List Expr)(t:TGs):Prop :=
 ∀(Zr:List (Addr×Obj)) (s:Shared) (σ:St) (H:Hp) (vs:List V) (us:List Value) (Q:St->Hp->Prop),Zt X Zr σ H s->Vals vs us->t vs σ H Q ->
  wpAny (model X.prog X.w) X.A (assignInOrder ((assignEach ts X.env).map (·.2)) us) (fun _ s'=>∃ σ' H',Zt X Zr σ' H' s'/\Q σ' H') X.xe s
noncomputable abbrev TSet:=V->V->V->Hp->(Hp->Prop)->Prop
noncomputable def PSet(X:Cx)(t:TSet):Prop :=
 ∀(Zr:List (Addr×Obj)) (s:Shared) (σ:St) (H:Hp) (o i v:V) (ov iv u:Value) (Q:Hp->Prop),Zt X Zr σ H s->bH o ov->bH i iv->bH v u->t o i v H Q ->
  wpAny (model X.prog X.w) X.A (setItem ov iv u) (fun _ s'=>∃ H',Zt X Zr σ H' s'/\Q H') X.xe s
noncomputable abbrev TIp:=V->V->Hp->VK->Prop
noncomputable def PIp(X:Cx)(op:Operator)(t:TIp):Prop :=
 ∀(Zr:List (Addr×Obj)) (s:Shared) (σ:St) (H:Hp) (x y:V) (v u:Value) (Q:VK),Zt X Zr σ H s->bH x v->bH y u->t x y H Q ->
  wpAny (model X.prog X.w) X.A (inplaceOp op v u) (EP X Zr σ Q) X.xe s
section
variable {X:Cx} {pos:Pos}
noncomputable def zU(i:Nat):TG:=fun v σ H Q=>Q (σ.set i (some v)) H
theorem mT{i:Nat}{x:Str}(hN:X.N.Nodup)(hi:X.N[i]?=some x)(hx:Loc X.env.scope x)(hf:X.fn x=true\/X.env.scope.names.lookup x=some .local:=by first|exact .inl rfl|exact .inr rfl|assumption):PG X (.Name x pos) (zU i):=by
 intro Zr s σ H v u Q I r h;exact wpAny_assign_Name (Bg I hN hi hx r (fun s' I'=>⟨_,H,I',h⟩) hf)
noncomputable def To:TGs:=fun vs σ H Q=>vs=[]/\Q σ H
noncomputable def Qc(t:TG)(u:TGs):TGs:=fun vs σ H Q=>∃ v r,vs=v::r/\t v σ H fun σ' H'=>u r σ' H' Q
theorem O2:PGs X [] To:=by
 intro Zr s σ H vs us Q I r h;obtain⟨e,h⟩:=h;subst e;cases r;exact assignInOrder_nil ⟨σ,H,I,h⟩
theorem EI{e:Expr}{es:List Expr}{t:TG}{u:TGs}(h1:PG X e t)(h2:PGs X es u)
    (hs:(assignEach (e::es) X.env).map (·.2)=assign e X.env::(assignEach es X.env).map (·.2):=by rfl):PGs X (e::es) (Qc t u):=by
  intro Zr s σ H vs us Q I r h;obtain⟨v,vr,e1,h⟩:=h;subst e1;cases r with
  | cons r rr =>
    rw[hs];refine assignInOrder_cons (thn (h1 Zr s σ H _ _ _ I r h) fun _ s1 ⟨σ1,H1,I1,q1⟩=>?_);exact h2 Zr s1 σ1 H1 _ _ Q I1 rr q1
noncomputable def Tq(K:q0B)(n:Nat)(t:TGs):TG:=fun v σ H Q=>∃ a xs,v=.ref a/\eJ K H a xs/\xs.length=n/\t xs σ H Q
theorem Ui{es:List Expr}{k:Nat}{t:TGs}{n:Nat}(hc:X.calm=true)(h:PGs X es t)
    (hn:(assignEach es X.env).length=n:=by rfl) (Z1:(assignEach es X.env).findIdx? (·.1)=none:=by rfl):PG X (.Tuple es k pos) (Tq X.K n t):=by
  intro Zr s σ H v u Q I r hw;obtain⟨a,xs,e1,hq,hl,hw⟩:=hw;subst e1;cases r;obtain⟨Zv,rv,ht,hz⟩:=I.tuple hq;refine assign_Tuple_tuple (I.ok.hd hc) ht (by simp[hn,<- hl,rv.length]) Z1 fun h' hx=>?_;have I1:Zt X Zr σ H {s with heap:=h'}:=I.kept (t':=s.toks) fun b o e=>hx b o (Nat.ne_of_lt (Heap.lt_size e)) e;exact h Zr _ σ H xs _ Q I1 (by simpa using rv) hw
noncomputable def WR(to ti:TE)(t:TSet):TG:=fun v σ H Q=>to σ H fun o H1=>ti σ H1 fun i H2=>t o i v H2 fun H3=>Q σ H3
theorem Mf{o i:Expr}{to ti:TE}{t:TSet}(ho:PE X o to)(hi:PE X i ti)(hs:PSet X t)
    (ha:∀ v,assign (.Subscript o i pos) X.env v=(do
      let ov <- holding [v] (eval o X.env);let iv <- holding [v,ov] (eval i X.env)
      standAt pos
      holding [v,ov,iv] (setItem ov iv v)
      release [v,ov,iv] []):=by intro _;rfl):PG X (.Subscript o i pos) (WR to ti t):=by
  intro Zr s σ H v u Q I r h;rw[ha];refine wpAny_bind (wpAny_holding (thn (ho Zr s σ H _ I h) fun ov s1 ⟨x,H1,I1,r1,q1⟩=>?_));refine wpAny_bind (wpAny_holding (thn (hi Zr s1 σ H1 _ I1 q1) fun iv s2 ⟨y,H2,I2,r2,q2⟩=>?_));refine wpAny_bind (wpAny_standAt (wpAny_bind (wpAny_holding (thn (hs Zr s2 σ H2 x y v ov iv u _ I2 r1 r2 r q2) fun _ s3 ⟨H3,I3,q3⟩=>?_))));exact wpAny_release ⟨σ,H3,I3,q3⟩
noncomputable def PD(te:TE)(g:TG):TS:=fun D σ H=>te σ H fun x H1=>g x σ H1 D.nx
theorem Mh{tg e:Expr}{te:TE}{g:TG}(he:PE X e te)(hg:PG X tg g)(hs:swapsWithSole [tg] e pos.line X.env=pure false:=by rfl)(hw:swappedStores [tg] e X.env=pure none:=by rfl)
    (h1:(assignEach [tg] X.env).map (·.2)=[assign tg X.env]:=by rfl):PS X (.Assign [tg] e pos) (PD te g):=by
  intro Zr s σ H D I h;refine wpAny_Assign_stores (thn (he Zr s σ H _ I h) fun v s1 ⟨x,H1,I1,r1,q1⟩=>?_) hs hw;rw[h1];exact thn (hg Zr s1 σ H1 x v _ I1 r1 q1) fun _ s2 q=>q
theorem bB{i:Nat}{x:Str}{e:Expr}{te:TE}{pos':Pos}(hN:X.N.Nodup)(hi:X.N[i]?=some x)(hx:Loc X.env.scope x)(he:PE X e te)(hs:swapsWith e (some (.Name x pos')) pos.line X.env=pure false:=by rfl)(hf:X.fn x=true\/X.env.scope.names.lookup x=some .local:=by first|exact .inl rfl|exact .inr rfl|assumption) :
    PS X (.Assign [.Name x pos'] e pos) (PD te (zU i)):=by
  intro Zr s σ H D I h;refine wpAny_Assign_Name (thn (he Zr s σ H _ I h) fun v s1 ⟨y,H1,I1,r1,q1⟩=>?_) hs;exact Bg I1 hN hi hx r1 (fun s2 I2=>⟨_,H1,I2,q1⟩) hf
noncomputable def XB(i:Nat)(te:TE)(ti:TIp):TS:=fun D σ H=>∃ x,σ[i]?=some (some x)/\te σ H fun y H1=>ti x y H1 fun z H2=>D.nx (σ.set i (some z)) H2
theorem Uk{i:Nat}{x:Str}{e:Expr}{te:TE}{op:Operator}{ti:TIp}{pos':Pos}(hN:X.N.Nodup)(hi:X.N[i]?=some x)(hx:Loc X.env.scope x)(he:PE X e te)(ho:PIp X op ti)(hf:X.fn x=true\/X.env.scope.names.lookup x=some .local:=by first|exact .inl rfl|exact .inr rfl|assumption) :
    PS X (.AugAssign (.Name x pos') op e pos) (XB i te ti):=by
  intro Zr s σ H D I h;obtain⟨v,e1,h⟩:=h;obtain⟨m,hn,hl⟩:=I.loc;have vis:Vis X.env.scope x:=by rcases hx with k|k;exact .inl k;exact .inr (.inl k)
  obtain⟨u,r,l⟩:=hl i x v hi e1 vis;refine wpAny_AugAssign_Name ?_;have go:wpAny (model X.prog X.w) X.A (eval e X.env) (fun w s₂=>wpAny (model X.prog X.w) X.A (inplaceOp op u w) (fun r s₃=>wpAny (model X.prog X.w) X.A (storeName X.env x r) (fun _=>SP X Zr D .next) X.xe s₃) X.xe s₂) X.xe s:=by
    refine thn (he Zr s σ H _ I h) fun w s1 ⟨y,H1,I1,r1,q1⟩=>?_;refine thn (ho Zr s1 σ H1 v y u w _ I1 r r1 q1) fun z s2 ⟨zv,H2,I2,r2,q2⟩=>?_;exact Bg I2 hN hi hx r2 (fun s3 I3=>⟨_,H2,I3,q2⟩) hf
  rcases l with⟨hk,hm⟩|⟨hk,c,hc,aaN⟩
  · exact wpAny_loadName_local I.ok.kind hk hn hm go
  · rcases hk with hk|hk
    · exact wpAny_loadName_cell I.ok.kind hk hc aaN go
    · rcases hx with k|k
      · have:X.env.scope.names.lookup x=some .free:=hk;rw[k] at this;cases this
      · have:X.env.scope.names.lookup x=some .free:=hk;rw[k] at this;cases this
noncomputable def Qv(to ti te:TE)(aaK:V->V->Hp->VK->Prop)(tip:TIp)(aaL:TSet):TS:=fun D σ H=>to σ H fun o H1=>ti σ H1 fun i H2=>aaK o i H2 fun x H3=>te σ H3 fun y H4=>tip x y H4 fun z H5=>aaL o i z H5 fun H6=>D.nx σ H6
noncomputable def PGet(X:Cx)(t:V->V->Hp->VK->Prop):Prop :=
 ∀(Zr:List (Addr×Obj)) (s:Shared) (σ:St) (H:Hp) (o i:V) (ov iv:Value) (Q:VK),Zt X Zr σ H s->bH o ov->bH i iv->t o i H Q ->
  wpAny (model X.prog X.w) X.A (getItem ov iv) (EP X Zr σ Q) X.xe s
theorem O6{o i e:Expr}{to ti te:TE}{aaK:V->V->Hp->VK->Prop}{tip:TIp}{aaL:TSet}{op:Operator}{aa4:Pos}(ho:PE X o to)(hi:PE X i ti)(hg:PGet X aaK)(he:PE X e te)(hp:PIp X op tip)(hs:PSet X aaL)
    (ha:∀ ov iv new,augStore i ov iv new=(do holding [new,ov,iv] (setItem ov iv new);release [new,ov,iv] [];pure .next):=by intros;rfl):PS X (.AugAssign (.Subscript o i aa4) op e pos) (Qv to ti te aaK tip aaL):=by
  intro Zr s σ H D I h;refine wpAny_AugAssign_SubscriptAny (thn (ho Zr s σ H _ I h) fun ov s1 ⟨x1,H1,I1,r1,q1⟩=>?_) ha;refine thn (hi Zr s1 σ H1 _ I1 q1) fun iv s2 ⟨x2,H2,I2,r2,q2⟩=>?_;refine thn (hg Zr s2 σ H2 x1 x2 ov iv _ I2 r1 r2 q2) fun old s3 ⟨x3,H3,I3,r3,q3⟩=>?_;refine thn (he Zr s3 σ H3 _ I3 q3) fun v s4 ⟨x4,H4,I4,r4,q4⟩=>?_;refine thn (hp Zr s4 σ H4 x3 x4 old v _ I4 r3 r4 q4) fun new s5 ⟨x5,H5,I5,r5,q5⟩=>?_;exact thn (hs Zr s5 σ H5 x1 x2 x5 ov iv new _ I5 r1 r2 r5 q5) fun _ s6 ⟨H6,I6,q6⟩=>⟨σ,H6,I6,q6⟩
noncomputable def Zj(f:Int->Int->Int):TIp:=fun x y H Q=>∃ i j,x=.int i/\y=.int j/\Q (.int (f i j)) H
theorem Tv:PIp X .Add (Zj fun i j=>i+j):=by
 intro Zr s σ H x y v u Q I r1 r2 h;obtain⟨i,j,e1,e2,q⟩:=h;subst e1;subst e2;obtain⟨t,rfl⟩:=r1;obtain⟨t',rfl⟩:=r2;exact iadd_int ⟨.int _,H,I.tok _,⟨_,rfl⟩,q⟩
end
section
variable {X:Cx} {pos:Pos}
noncomputable def UN(c:TT)(tb:TS):TS:=fun D σ H=>∃ W:Nat->St->Hp->Prop,(∃ m,W m σ H)/\∀ m σ H,W m σ H ->
 c σ H fun b H1=>if b=true then ∃ N:St->Hp->Prop,(∀ σ' H',N σ' H'->∃ m',m' < m/\W m' σ' H')/\tb {D with nx:=N,ct:=N,bk:=D.nx} σ H1 else D.nx σ H1
theorem EJ{c:Expr}{body:List Stmt}{tc:TT}{tb:TS}(hp:PassesOwn (model X.prog X.w) X.A X.env X.xe)(hc:PT X c tc)(hb:PSs X body tb):PS X (.While c body [] pos) (UN tc tb):=by
 intro Zr s σ H D I h;obtain⟨W,⟨m0,w0⟩,turn⟩:=h;refine wpAny_While (codeAny_whileLoop (fun n s'=>∃ σ' H',Zt X Zr σ' H' s'/\W n σ' H') ?_ m0 ⟨σ,H,I,w0⟩);rintro n s1 ⟨σ1,H1,I1,w1⟩;refine wpAny_passesOwn hp (thn (hc Zr s1 σ1 H1 _ I1 (turn n σ1 H1 w1)) fun b s2 ⟨H2,I2,q2⟩=>?_);cases b with
 | true =>
  obtain⟨N,hN,q2⟩:=q2;rw[if_pos rfl];refine wpAny_passesOwn hp (thn (hb Zr s2 σ1 H2 _ I2 q2) fun f s3 q3=>?_);cases f with
  | next =>
   obtain⟨σ3,H3,I3,n3⟩:=q3;obtain⟨m',hm,w3⟩:=hN σ3 H3 n3;exact⟨m',hm,σ3,H3,I3,w3⟩
  | cont =>
   obtain⟨σ3,H3,I3,n3⟩:=q3;obtain⟨m',hm,w3⟩:=hN σ3 H3 n3;exact⟨m',hm,σ3,H3,I3,w3⟩
  | brk=>exact q3
  | ret v=>exact q3
 | false =>
  rw[if_neg Bool.false_ne_true];exact wpAny_execs_nil ⟨σ1,H2,I2,q2⟩
end
structure It where
 go:Nat->Hp->Prop
 yld:Nat->Hp->V->Hp->Prop
 stop:Nat->Hp->Prop
noncomputable def sG(X:Cx)(Zr:List (Addr×Obj))(H:Hp)(b:Addr):Prop :=
 H b=none/\b≠X.env.locals/\b∉X.fs/\(b∈X.ex\/X.s₀.heap.objs.size<=b)/\(∀ x c,X.env.cells.lookup x=some c->c≠b)/\∀ p∈X.pn++Zr,p.1≠b
theorem Zt.Fy{X:Cx}{Zr:List (Addr×Obj)}{σ:St}{H H':Hp}{s:Shared}{b:Addr}(I:Zt X Zr σ H s)(hb:s.heap.objs.size<=b)(hn:H' b=none):sG X Zr H' b:=by
 refine⟨hn,Nat.ne_of_gt (Nat.lt_of_lt_of_le I.lt hb),I.Xf hb,.inr (Nat.le_trans I.sz hb),fun x c e z=>?_,fun p hp z=>?_⟩
 ·obtain⟨v,q⟩:=I.cell x c e;exact absurd (Nat.lt_of_lt_of_le q.lt (by rw[z];exact hb)) (Nat.lt_irrefl _)
 ·exact absurd (Nat.lt_of_lt_of_le (Heap.lt_size (I.pin p hp).1) (by rw[z];exact hb)) (Nat.lt_irrefl _)
structure Turn(P:Program)(w:World)(K:q0B)(tg:Expr)(J:It)(fp:List Addr)(it:Addr)(tn:Nat->Heap->Prop):Prop where
 mem:it∈fp
 obj:∀ i h,tn i h->∀ b∈fp,∃ o,h.get? b=some o/\∀ v,o.data≠.cell v
 keep:∀ i h h',tn i h->(∀ b∈fp,∀ o,h.get? b=some o->h'.get? b=some o)->tn i h'
 item:∀(X:Cx),X.prog=P->X.w=w->X.K=K->X.calm=true->∀(i:Nat) (Zr:List (Addr×Obj)) (s:Shared) (σ:St) (H:Hp) (E:q0A),Zt X Zr σ H s->(∀ b∈fp,sG X Zr H b)->tn i s.heap->J.go i H ->
  wpAny (model P w) X.A (pyNext (.ref it)) (fun r s1=>∃ u,r=some u /\
   wpAny (model P w) X.A (letOwnedTupleGo tg (.ref it) u) (fun _ s2=>∃ x H',Zt X Zr σ H' s2/\bH x u/\J.yld i H x H'/\tn (i+1) s2.heap/\∀ b∈fp,H' b=none) E s1) E s
 done:∀(X:Cx),X.prog=P->X.w=w->X.K=K->X.calm=true->∀(i:Nat) (Zr:List (Addr×Obj)) (s:Shared) (σ:St) (H:Hp) (E:q0A),Zt X Zr σ H s->(∀ b∈fp,sG X Zr H b)->tn i s.heap->J.stop i H ->
  wpAny (model P w) X.A (pyNext (.ref it)) (fun r s1=>r=none/\Zt X Zr σ H s1) E s
 self:∀(A:Around) (i:Nat) (s:Shared) (Q:q0A) (E:q0A),tn i s.heap->Q (.ref it) s->wpAny (model P w) A (pyIter (.ref it)) Q E s
noncomputable abbrev TI:=St->Hp->(It->Hp->Prop)->Prop
noncomputable def PIE(X:Cx)(Zr:List (Addr×Obj))(σ:St)(tg:Expr)(R:It->Hp->Prop)(itv:Value)(s2:Shared):Prop :=
 ∃(it:Addr) (fp:List Addr) (tn:Nat->Heap->Prop) (J:It) (H':Hp),itv=.ref it/\Zt X Zr σ H' s2/\Turn X.prog X.w X.K tg J fp it tn/\tn 0 s2.heap/\(∀ b∈fp,sG X Zr H' b)/\R J H'
noncomputable def PI(X:Cx)(tg iter:Expr)(wi:TI):Prop :=
 ∀(Zr:List (Addr×Obj)) (s:Shared) (σ:St) (H:Hp) (R:It->Hp->Prop),Zt X Zr σ H s->wi σ H R ->
  wpAny (model X.prog X.w) X.A (eval iter X.env) (fun v s1=>wpAny (model X.prog X.w) X.A (pyIter v) (PIE X Zr σ tg R) X.xe s1) X.xe s
theorem Hn{M:Model}{A:Around}{E:q0A}{s:Shared}{tg:Expr}{it:Addr}{u:Value}{o:Obj}{n:String}{vs:Array Value}{Q:Unit->Shared->Prop}(ho:s.heap.get? it=some o)(hc:o.cls=.type n)(hd:o.data=.fields vs)
    (hn:["enumerate","zip","dict_itemiterator","dict_reverseitemiterator","odict_iterator","itertools.zip_longest","itertools.pairwise"].contains n=false) (hQ:Q () s):wpAny M A (letOwnedTupleGo tg (.ref it) u) Q E s:=by
  unfold letOwnedTupleGo;cases tg<;>first
    | exact wpAny_pure hQ
    | (cases u<;>first
        | exact wpAny_pure hQ
        | (refine wpAny_bind (wpAny_load ho ?_)
           rw[hc,hd];show wpAny M A (if (["enumerate","zip","dict_itemiterator","dict_reverseitemiterator","odict_iterator","itertools.zip_longest","itertools.pairwise"].contains n&&vs[0]?==some (rawInt _))=true then _ else _) Q E s;rw[if_neg (by intro h;rw[hn,Bool.false_and] at h;cases h)];exact wpAny_pure hQ))
noncomputable def Itl(K:q0B)(a:Addr):It :=
 ⟨fun i H=>∃ xs x,dC K H a xs/\xs[i]?=some x,fun i H x H'=>H'=H/\∀ xs,dC K H a xs->xs[i]?=some x,fun i H=>∃ xs,dC K H a xs/\xs.length<=i⟩
noncomputable def Itt(K:q0B)(a:Addr):It :=
 ⟨fun i H=>∃ xs x,eJ K H a xs/\xs[i]?=some x,fun i H x H'=>H'=H/\∀ xs,eJ K H a xs->xs[i]?=some x,fun i H=>∃ xs,eJ K H a xs/\xs.length<=i⟩
noncomputable def Itr(lo:Int)(n:Nat):It:=⟨fun i _=>i < n,fun i H x H'=>H'=H/\x=.int (lo+i),fun i _=>n<=i⟩
theorem JI{P:Program}{w:World}{K:q0B}{tg:Expr}(a it:Addr):Turn P w K tg (Itl K a) [it] it (fun i h=>h.IsListIter it a i) where
 mem:=by simp
 obj:=fun i h st b hb=>by
  have e:b=it:=by simpa using hb
  subst e;obtain⟨o,e,c,d⟩:=st;exact⟨o,e,fun v z=>by rw[d] at z;cases z⟩
 keep:=fun i h h' st k=>st.at fun o e=>k it (by simp) o e
 item:=by
  intro X hP hw hK hc i Zr s σ H E I hf st hg;subst hP hw hK;obtain⟨xs,x,hq,hx⟩:=hg;obtain⟨Zv,rv,p,hz⟩:=I.list hq;obtain⟨u,hu,ru⟩:=rv.get hx;obtain⟨f0,f1,f2,f3,f4,f5⟩:=hf it (by simp);refine wpAny_pyNext_list_item st p.isList (x:=u) (by simpa using hu) fun h' st' sb=>?_;have I1:Zt X Zr σ H {s with heap:=h'}:=I.turned (t':=s.toks) (fun b o hb e=>(sb.2 b hb).trans e) f0 f1 f3 f4 f5;obtain⟨o,e,c,d⟩:=id st';exact⟨u,rfl,Hn (s:={s with heap:=h'}) e c d (by decide) ⟨x,H,I1,ru,⟨rfl,fun ys hy=>by rw[I.Em hy hq];exact hx⟩,st',fun b hb=>(hf b hb).1⟩⟩
 done:=by
  intro X hP hw hK hc i Zr s σ H E I hf st hg;subst hP hw hK;obtain⟨xs,hq,hx⟩:=hg;obtain⟨Zv,rv,p,hz⟩:=I.list hq;obtain⟨f0,f1,f2,f3,f4,f5⟩:=hf it (by simp);have hl:=rv.length;exact wpAny_pyNext_list_end (I.ok.hd hc) st p.isList (by simp;omega) fun h' eb=>⟨rfl,I.turned (t':=s.toks) (fun b o hb e=>eb b o hb e) f0 f1 f3 f4 f5⟩
 self:=fun _ _ _ _ _ st h=>wpAny_pyIter_listiter st h
theorem GH{P:Program}{w:World}{K:q0B}{tg:Expr}(a it:Addr):Turn P w K tg (Itt K a) [it] it (fun i h=>h.IsTupleIter it a i) where
 mem:=by simp
 obj:=fun i h st b hb=>by
  have e:b=it:=by simpa using hb
  subst e;obtain⟨o,e,c,d⟩:=st;exact⟨o,e,fun v z=>by rw[d] at z;cases z⟩
 keep:=fun i h h' st k=>st.at fun o e=>k it (by simp) o e
 item:=by
  intro X hP hw hK hc i Zr s σ H E I hf st hg;subst hP hw hK;obtain⟨xs,x,hq,hx⟩:=hg;obtain⟨Zv,rv,p,hz⟩:=I.tuple hq;obtain⟨u,hu,ru⟩:=rv.get hx;obtain⟨f0,f1,f2,f3,f4,f5⟩:=hf it (by simp);refine wpAny_pyNext_tuple_item st (show s.heap.IsTuple a Zv.toArray from p) (x:=u) (by simpa using hu) fun h' st' sb=>?_;have I1:Zt X Zr σ H {s with heap:=h'}:=I.turned (t':=s.toks) (fun b o hb e=>(sb.2 b hb).trans e) f0 f1 f3 f4 f5;obtain⟨o,e,c,d⟩:=id st';exact⟨u,rfl,Hn (s:={s with heap:=h'}) e c d (by decide) ⟨x,H,I1,ru,⟨rfl,fun ys hy=>by rw[I.JE hy hq];exact hx⟩,st',fun b hb=>(hf b hb).1⟩⟩
 done:=by
  intro X hP hw hK hc i Zr s σ H E I hf st hg;subst hP hw hK;obtain⟨xs,hq,hx⟩:=hg;obtain⟨Zv,rv,p,hz⟩:=I.tuple hq;obtain⟨f0,f1,f2,f3,f4,f5⟩:=hf it (by simp);have hl:=rv.length;exact wpAny_pyNext_tuple_end (I.ok.hd hc) st (show s.heap.IsTuple a Zv.toArray from p) (by simp;omega) fun h' eb=>⟨rfl,I.turned (t':=s.toks) (fun b o hb e=>eb b o hb e) f0 f1 f3 f4 f5⟩
 self:=fun _ _ _ _ _ st h=>wpAny_pyIter_tupleiter st h
theorem GG{P:Program}{w:World}{K:q0B}{tg:Expr}(it:Addr)(lo:Int)(n:Nat):Turn P w K tg (Itr lo n) [it] it (fun i h=>IsRangeIter h it (lo+(i:Nat) * 1) ((n:Int) - (i:Nat)) 1) where
 mem:=by simp
 obj:=fun i h st b hb=>by
  have e:b=it:=by simpa using hb
  subst e;exact⟨_,st,fun v z=>by
   have z':Data.fields _=Data.cell v:=z;cases z'⟩
 keep:=fun i h h' st k=>k it (by simp) _ st
 item:=by
  intro X hP hw hK hc i Zr s σ H E I hf st hg;subst hP hw hK;obtain⟨f0,f1,f2,f3,f4,f5⟩:=hf it (by simp);have W:=Walks.range (prog:=X.prog) (w:=X.w) (I.ok.hd hc) it lo 1 n;refine W.item i s _ _ hg st fun v h' tk hv st' kk=>?_;obtain⟨t,rfl⟩:=hv;have I1:Zt X Zr σ H {s with heap:=h',toks:=tk}:=I.turned (fun b o hb e=>kk b o (by simpa using hb) e) f0 f1 f3 f4 f5;refine⟨_,rfl,Hn (s:={s with heap:=h',toks:=tk}) (n:="range_iterator") st' rfl rfl (by decide) ⟨.int (lo+i),H,I1,⟨t,?_⟩,⟨rfl,rfl⟩,st',fun b hb=>(hf b hb).1⟩⟩;rw[Int.mul_one]
 done:=by
  intro X hP hw hK hc i Zr s σ H E I hf st hg;subst hP hw hK;obtain⟨f0,f1,f2,f3,f4,f5⟩:=hf it (by simp);exact wpAny_pyNext_range_end (I.ok.hd hc) st (by have:n<=i:=hg;omega) fun h' eb=>⟨rfl,I.turned (t':=s.toks) (fun b o hb e=>eb b o hb e) f0 f1 f3 f4 f5⟩
 self:=fun _ _ _ _ _ st h=>wpAny_pyIter_rangeiter st h
section
variable {X:Cx} {tg:Expr}
noncomputable def Ee(K:q0B)(tl:TE):TI:=fun σ H R=>tl σ H fun x H1=>∃ a,x=.ref a/\(∃ xs,dC K H1 a xs)/\R (Itl K a) H1
noncomputable def FH(K:q0B)(tl:TE):TI:=fun σ H R=>tl σ H fun x H1=>∃ a,x=.ref a/\(∃ xs,eJ K H1 a xs)/\R (Itt K a) H1
theorem lA{l:Expr}{tl:TE}(hl:PE X l tl):PI X tg l (Ee X.K tl):=by
 intro Zr s σ H R I h;refine thn (hl Zr s σ H _ I h) fun v s1 ⟨x,H1,I1,r1,q1⟩=>?_;obtain⟨a,e,⟨xs,hq⟩,q⟩:=q1;subst e;cases r1;obtain⟨Zv,rv,p,hz⟩:=I1.list hq;refine wpAny_pyIter_list p.isList ?_;refine⟨s1.heap.objs.size,[s1.heap.objs.size],_,_,H1,rfl,I1.kept (t':=s1.toks) fun b o e=>Heap.get?_push_of_some _ e,JI a _,⟨_,Heap.get?_push_size _ rfl,rfl,rfl⟩,fun b hb=>?_,q⟩;have e:b=s1.heap.objs.size:=by simpa using hb
 subst e;exact I1.Fy (Nat.le_refl _) (I1.Zw.fresh (Nat.le_refl _))
theorem Uj{l:Expr}{tl:TE}(hl:PE X l tl):PI X tg l (FH X.K tl):=by
 intro Zr s σ H R I h;refine thn (hl Zr s σ H _ I h) fun v s1 ⟨x,H1,I1,r1,q1⟩=>?_;obtain⟨a,e,⟨xs,hq⟩,q⟩:=q1;subst e;cases r1;obtain⟨Zv,rv,p,hz⟩:=I1.tuple hq;refine wpAny_pyIter_tuple (show s1.heap.IsTuple a Zv.toArray from p) ?_;refine⟨s1.heap.objs.size,[s1.heap.objs.size],_,_,H1,rfl,I1.kept (t':=s1.toks) fun b o e=>Heap.get?_push_of_some _ e,GH a _,⟨_,Heap.get?_push_size _ rfl,rfl,rfl⟩,fun b hb=>?_,q⟩;have e:b=s1.heap.objs.size:=by simpa using hb
 subst e;exact I1.Fy (Nat.le_refl _) (I1.Zw.fresh (Nat.le_refl _))
theorem Mj{Zr:List (Addr×Obj)}{σ:St}{H:Hp}{s:Shared}{R:It->Hp->Prop}{E:q0A}{lo hi:Int}{t u v:Tok}{tk:Nat}(I:Zt X Zr σ H s)(h1:-(2 ^ 62)<=lo)(h2:lo < 2 ^ 62)(h3:-(2 ^ 62)<=hi)(h4:hi < 2 ^ 62)
    (q:R (Itr lo (hi - lo).toNat) H):wpAny (model X.prog X.w) X.A (pyIter (.ref s.heap.objs.size)) (PIE X Zr σ tg R) E {s with heap:=s.heap.push {cls:=.type "range",data:=.fields #[.int lo t,.int hi u,.int 1 v]},toks:=tk}:=by
  refine wpAny_pyIter_range (IsRange.new ..) (small_one h1 h2 h3 h4) ?_;have I1:Zt X Zr σ H {s with heap:=s.heap.push {cls:=.type "range",data:=.fields #[.int lo t,.int hi u,.int 1 v]},toks:=tk}:=I.kept fun b o e=>Heap.get?_push_of_some _ e;refine⟨(s.heap.push {cls:=.type "range",data:=.fields #[.int lo t,.int hi u,.int 1 v]}).objs.size,[(s.heap.push {cls:=.type "range",data:=.fields #[.int lo t,.int hi u,.int 1 v]}).objs.size],_,_,H,rfl,
    I1.kept (t':=tk) fun b o e=>Heap.get?_push_of_some _ e,GG _ lo (hi - lo).toNat,?_,fun b hb=>?_,q⟩
  · have e1:lo+((0:Nat):Int) * 1=lo:=by simp
    have e2:(((hi - lo).toNat:Nat):Int) - ((0:Nat):Int)=Builtin.Range.rangeSize lo hi 1:=by rw[rangeSize_one];split<;>omega
    show IsRangeIter _ _ (lo+((0:Nat):Int) * 1) ((((hi - lo).toNat:Nat):Int) - ((0:Nat):Int)) 1;rw[e1,e2];exact Heap.get?_push_size _ rfl
  · have e:b=(s.heap.push {cls:=.type "range",data:=.fields #[.int lo t,.int hi u,.int 1 v]}).objs.size:=by simpa using hb
    subst e;exact I1.Fy (Nat.le_refl _) (I1.Zw.fresh (Nat.le_refl _))
noncomputable def Ef(ta:TA):TI:=fun σ H R=>ta σ H fun vs H1=>∃ j:Int,vs=[.int j]/\-(2 ^ 62)<=j/\j < 2 ^ 62/\R (Itr 0 j.toNat) H1
noncomputable def Qe(ta:TA):TI:=fun σ H R=>ta σ H fun vs H1=>∃ i j:Int,vs=[.int i,.int j]/\(-(2 ^ 62)<=i/\i < 2 ^ 62/\-(2 ^ 62)<=j/\j < 2 ^ 62)/\R (Itr i (j - i).toNat) H1
theorem vL{a:Expr}{ta:TA}{p pos:Pos}(hg:Gl X "range")(hm:X.mg "range"=none)(ha:PA X [a] ta)(hs:starEach [a] X.env=[(false,eval a X.env)]:=by rfl):PI X tg (.Call (.Name "range" p) [a] [] pos) (Ef ta):=by
 intro Zr s σ H R I h;refine Call_ (rJ I hg hm boot_range (PyProof.Rows.callWith_type1 (thn (ha pos Zr s σ H _ I h) fun us s1 ⟨vs,H1,I1,r1,q1⟩=>?_) hs rfl));obtain⟨j,e,q1,q2,q⟩:=q1;subst e;cases r1 with
 | cons r rr =>
  cases rr;obtain⟨t,rfl⟩:=r;exact call_range_1 (Mj I1 (by omega) (by omega) q1 q2 (by simpa using q))
noncomputable def r8(wi:TI)(g:TG)(tb:TS):TS:=fun D σ H=>wi σ H fun J H1=>∃ W:Nat->Nat->St->Hp->Prop,(∃ m,W 0 m σ H1)/\∀ i m σ H,W i m σ H ->
 (J.stop i H/\D.nx σ H)\/(J.go i H/\∃ N:St->Hp->Prop,(∀ σ' H',N σ' H'->∃ m',m' < m/\W (i+1) m' σ' H')/\∀ x H',J.yld i H x H'->g x σ H' fun σ2 H2=>tb {D with nx:=N,ct:=N,bk:=D.nx} σ2 H2)
noncomputable def AF(fp:List Addr)(h:Heap):List (Addr×Obj):=fp.filterMap fun b=>(h.get? b).map fun o=>(b,o)
theorem mP{fp:List Addr}{h:Heap}{b:Addr}{o:Obj}(hb:b∈fp)(e:h.get? b=some o):(b,o)∈AF fp h:=List.mem_filterMap.mpr ⟨b,hb,by rw[e];rfl⟩
theorem I8{fp:List Addr}{h:Heap}{p:Addr×Obj}(hp:p∈AF fp h):p.1∈fp/\h.get? p.1=some p.2:=by
 obtain⟨b,hb,e⟩:=List.mem_filterMap.mp hp;cases q:h.get? b with
 | none=>rw[q] at e;cases e
 | some o =>
  rw[q] at e;have e':(b,o)=p:=Option.some.inj e;subst e';exact⟨hb,q⟩
theorem Zt.pinned{Zr:List (Addr×Obj)}{σ:St}{H:Hp}{s:Shared}{fp:List Addr}(I:Zt X Zr σ H s)(hf:∀ b∈fp,sG X Zr H b)(ho:∀ b∈fp,∃ o,s.heap.get? b=some o/\∀ v,o.data≠.cell v):Zt X (Zr++AF fp s.heap) σ H s :=
 I.tP fun p hp=>(List.mem_append.mp hp).elim (fun z=>I.pin p (List.mem_append_right _ z)) fun z=>by
  obtain⟨hb,e⟩:=I8 z;obtain⟨f0,f1,f2,_⟩:=hf p.1 hb;obtain⟨o,e',d⟩:=ho p.1 hb;rw[e] at e';cases e';exact⟨e,f0,f1,f2,d⟩
theorem Zt.Bk{Zr pl:List (Addr×Obj)}{σ:St}{H:Hp}{s:Shared}(I:Zt X (Zr++pl) σ H s):Zt X Zr σ H s:=I.tP fun p hp=>I.pin p (List.mem_append_right _ (List.mem_append_left _ hp))
theorem AH{iter:Expr}{body:List Stmt}{wi:TI}{g:TG}{tb:TS}{pos:Pos}(hp:PassesOwn (model X.prog X.w) X.A X.env X.xe)(hc:X.calm=true)(hi:PI X tg iter wi)(hg:PG X tg g)(hb:PSs X body tb)
    (hs:∀ x,foldedSetIterable iter X.env x=pure x:=by intro _;rfl):PS X (.For tg iter body [] pos) (r8 wi g tb):=by
  intro Zr s σ H D I h;refine wpAny_For (thn (hi Zr s σ H _ I h) fun v s1 h1=>thn h1 fun itv s2 h2=>?_) hs;obtain⟨it,fp,tn,J,H2,e,I2,T,st2,f2,W,⟨m0,w0⟩,turn⟩:=h2;subst e
  -- what stays true of the iterator's objects through the loop
  have aaJ:∀ {H':Hp},(∀ b∈fp,H' b=none)->∀ b∈fp,sG X Zr H' b:=fun hn b hb=>⟨hn b hb,(f2 b hb).2⟩;refine codeAny_forLoop_any (fun n s'=>∃ i σ' H',Zt X Zr σ' H' s'/\tn i s'.heap/\(∀ b∈fp,H' b=none)/\W i n σ' H') ?_ m0 ⟨0,σ,H2,I2,st2,fun b hb=>(f2 b hb).1,w0⟩;rintro n s3 ⟨i,σ3,H3,I3,st3,fr3,w3⟩;rcases turn i n σ3 H3 w3 with⟨stop,qn⟩|⟨go,N,hN,step⟩
  · refine wpAny_passesOwn hp (thn (T.done X rfl rfl rfl hc i Zr s3 σ3 H3 X.xe I3 (aaJ fr3) st3 stop) fun r s4 ⟨hr,I4⟩=>?_);subst hr;exact wpAny_execs_nil ⟨σ3,H3,I4,qn⟩
  · refine wpAny_passesOwn hp (thn (T.item X rfl rfl rfl hc i Zr s3 σ3 H3 X.xe I3 (aaJ fr3) st3 go) fun r s4 ⟨u,hr,h4⟩=>?_);subst hr;refine wpAny_passesOwn hp (thn h4 fun _ s5 ⟨x,H5,I5,r5,y5,st5,fr5⟩=>?_);have I5':=I5.pinned (aaJ fr5) (T.obj _ _ st5);refine wpAny_passesOwn hp (thn (hg _ s5 σ3 H5 x u _ I5' r5 (step x H5 y5)) fun _ s6 ⟨σ6,H6,I6,q6⟩=>?_);refine wpAny_passesOwn hp (thn (hb _ s6 σ6 H6 _ I6 q6) fun f s7 q7=>?_);have again:∀ {σ7:St} {H7:Hp},Zt X (Zr++AF fp s5.heap) σ7 H7 s7->N σ7 H7->∃ m,m < n/\∃ i σ' H',Zt X Zr σ' H' s7/\tn i s7.heap/\(∀ b∈fp,H' b=none)/\W i m σ' H':=fun {σ7 H7} I7 n7=>by
      obtain⟨m',hm,w7⟩:=hN σ7 H7 n7;refine⟨m',hm,i+1,σ7,H7,I7.Bk,T.keep _ _ _ st5 fun b hb o e=>(I7.pin (b,o) (List.mem_append_right _ (List.mem_append_right _ (mP hb e)))).1,fun b hb=>?_,w7⟩;obtain⟨o,e,d⟩:=T.obj _ _ st5 b hb;exact(I7.pin (b,o) (List.mem_append_right _ (List.mem_append_right _ (mP hb e)))).2.1
    cases f with
    | next=>obtain⟨σ7,H7,I7,n7⟩:=q7;exact again I7 n7
    | cont=>obtain⟨σ7,H7,I7,n7⟩:=q7;exact again I7 n7
    | brk=>obtain⟨σ7,H7,I7,q7⟩:=q7;exact⟨σ7,H7,I7.Bk,q7⟩
    | ret v=>obtain⟨x7,σ7,H7,I7,r7,q7⟩:=q7;exact⟨x7,σ7,H7,I7.Bk,r7,q7⟩
end
theorem zS{K:q0B}{a:Addr}{xs:List V}{g:TG}{tb:TS}{D:Ends}{σ:St}{H:Hp}(Pv:Nat->St->Hp->Prop)(h0:Pv 0 σ H)(hl:∀ i σ H,i<=xs.length->Pv i σ H->dC K H a xs)
    (hs:∀ i x σ H,xs[i]?=some x->Pv i σ H->g x σ H fun σ2 H2=>tb {D with nx:=Pv (i+1),ct:=Pv (i+1),bk:=D.nx} σ2 H2) (hd:∀ σ H,Pv xs.length σ H->D.nx σ H) :
    ∃ W:Nat->Nat->St->Hp->Prop,(∃ m,W 0 m σ H)/\∀ i m σ H,W i m σ H ->
      ((Itl K a).stop i H/\D.nx σ H)\/((Itl K a).go i H/\∃ N:St->Hp->Prop,(∀ σ' H',N σ' H'->∃ m',m' < m/\W (i+1) m' σ' H')/\∀ x H',(Itl K a).yld i H x H'->g x σ H' fun σ2 H2=>tb {D with nx:=N,ct:=N,bk:=D.nx} σ2 H2):=by
  refine⟨fun i m σ H=>m=xs.length - i/\i<=xs.length/\Pv i σ H,⟨xs.length,by simp,Nat.zero_le _,h0⟩,?_⟩;rintro i m σ H ⟨rfl,hi,p⟩;have q:=hl i σ H hi p;by_cases Z5:i < xs.length
  · refine .inr ⟨⟨xs,xs[i],q,by simp[Z5]⟩,Pv (i+1),fun σ' H' p'=>⟨xs.length - (i+1),by omega,rfl,Z5,p'⟩,fun x H' y=>?_⟩;obtain⟨e,y⟩:=y;subst e;exact hs i x σ _ (y xs q) p
  · have e:i=xs.length:=by omega
    subst e;exact .inl ⟨⟨xs,q,Nat.le_refl _⟩,hd σ H p⟩
theorem ID{lo:Int}{n:Nat}{g:TG}{tb:TS}{D:Ends}{σ:St}{H:Hp}(Pv:Nat->St->Hp->Prop)(h0:Pv 0 σ H)
    (hs:∀ i σ H,i < n->Pv i σ H->g (.int (lo+i)) σ H fun σ2 H2=>tb {D with nx:=Pv (i+1),ct:=Pv (i+1),bk:=D.nx} σ2 H2) (hd:∀ σ H,Pv n σ H->D.nx σ H) :
    ∃ W:Nat->Nat->St->Hp->Prop,(∃ m,W 0 m σ H)/\∀ i m σ H,W i m σ H ->
      ((Itr lo n).stop i H/\D.nx σ H)\/((Itr lo n).go i H/\∃ N:St->Hp->Prop,(∀ σ' H',N σ' H'->∃ m',m' < m/\W (i+1) m' σ' H')/\∀ x H',(Itr lo n).yld i H x H'->g x σ H' fun σ2 H2=>tb {D with nx:=N,ct:=N,bk:=D.nx} σ2 H2):=by
  refine⟨fun i m σ H=>m=n - i/\i<=n/\Pv i σ H,⟨n,by simp,Nat.zero_le _,h0⟩,?_⟩;rintro i m σ H ⟨rfl,hi,p⟩;by_cases Z5:i < n
  · refine .inr ⟨Z5,Pv (i+1),fun σ' H' p'=>⟨n - (i+1),by omega,rfl,Z5,p'⟩,fun x H' y=>?_⟩;obtain⟨e,y⟩:=y;subst e y;exact hs i σ _ Z5 p
  · have e:i=n:=by omega
    subst e;exact .inl ⟨Nat.le_refl _,hd σ H p⟩
noncomputable abbrev R2:=V->V->Hp->VK->Prop
noncomputable def lB(X:Cx)(f:Value->Value->Sem Value)(r:R2):Prop :=
 ∀(Zr:List (Addr×Obj)) (s:Shared) (σ:St) (H:Hp) (x y:V) (v u:Value) (Q:VK),Zt X Zr σ H s->bH x v->bH y u->r x y H Q ->
  wpAny (model X.prog X.w) X.A (f v u) (EP X Zr σ Q) X.xe s
noncomputable def Yg(X:Cx)(f:Value->Sem Value)(r:V->Hp->VK->Prop):Prop :=
 ∀(Zr:List (Addr×Obj)) (s:Shared) (σ:St) (H:Hp) (x:V) (v:Value) (Q:VK),Zt X Zr σ H s->bH x v->r x H Q ->
  wpAny (model X.prog X.w) X.A (f v) (EP X Zr σ Q) X.xe s
noncomputable def dQ(X:Cx)(f:Value)(r:List V->Hp->VK->Prop):Prop :=
 ∀(Zr:List (Addr×Obj)) (s:Shared) (σ:St) (H:Hp) (xs:List V) (us:List Value) (Q:VK),Zt X Zr σ H s->Vals xs us->r xs H Q ->
  wpAny (model X.prog X.w) X.A (call f us) (EP X Zr σ Q) X.xe s
noncomputable def Yf(X:Cx)(r:V->Hp->(Bool->Hp->Prop)->Prop):Prop :=
 ∀(Zr:List (Addr×Obj)) (s:Shared) (σ:St) (H:Hp) (x:V) (v:Value) (Q:Bool->Hp->Prop),Zt X Zr σ H s->bH x v->r x H Q ->
  wpAny (model X.prog X.w) X.A (truthy v) (TP X Zr σ Q) X.xe s
noncomputable def UT(r:R2)(ta tb:TE):TE:=fun σ H Q=>ta σ H fun x H1=>tb σ H1 fun y H2=>r x y H2 Q
noncomputable def Zg(r:V->Hp->VK->Prop)(ta:TE):TE:=fun σ H Q=>ta σ H fun x H1=>r x H1 Q
noncomputable def rI(C:Int->Int->Prop)(g:Int->Int->V):R2:=fun x y H Q=>∃ i j,x=.int i/\y=.int j/\C i j/\Q (g i j) H
noncomputable def Ql(g:Int->Int->V):R2:=fun x y H Q=>∃ i j,x=.int i/\y=.int j/\Q (g i j) H
noncomputable def rU(g:Int->V):V->Hp->VK->Prop:=fun x H Q=>∃ i,x=.int i/\Q (g i) H
section
variable {X:Cx} {a b c:Expr} {ta tb tc:TE} {pos:Pos}
theorem Q4(ha:PE X a ta)(hb:PE X b tb){Zr:List (Addr×Obj)}{s:Shared}{σ:St}{H:Hp}{R:V->V->Hp->Prop}(I:Zt X Zr σ H s)
    (h:ta σ H fun x H1=>tb σ H1 fun y H2=>R x y H2) {Q:q0A} {f:Value->Value->Sem Value}
    (hf:∀ v u s2 x y H2,Zt X Zr σ H2 s2->bH x v->bH y u->R x y H2->wpAny (model X.prog X.w) X.A (f v u) Q X.xe s2) :
    wpAny (model X.prog X.w) X.A (eval a X.env) (fun v s₁=>wpAny (model X.prog X.w) X.A (eval b X.env) (fun u s₂=>wpAny (model X.prog X.w) X.A (f v u) Q X.xe s₂) X.xe s₁) X.xe s:=by
  refine thn (ha Zr s σ H _ I h) fun v s1 ⟨x,H1,I1,r1,q1⟩=>?_;refine thn (hb Zr s1 σ H1 _ I1 q1) fun u s2 ⟨y,H2,I2,r2,q2⟩=>?_;exact hf v u s2 x y H2 I2 r1 r2 q2
theorem bU{op:Operator}{r:R2}(ho:lB X (binaryOp op) r)(ha:PE X a ta)(hb:PE X b tb):PE X (.BinOp a op b pos) (UT r ta tb):=by
 intro Zr s σ H Q I h;exact wpAny_BinOp (Q4 ha hb I h fun v u s2 x y H2 I2 rx ry q=>ho Zr s2 σ H2 x y v u Q I2 rx ry q)
theorem AD{op:UnaryOp}{r:V->Hp->VK->Prop}(ho:Yg X (unaryOp op) r)(ha:PE X a ta):PE X (.UnaryOp op a pos) (Zg r ta):=by
 intro Zr s σ H Q I h;exact UnaryOp_ (thn (ha Zr s σ H _ I h) fun v s1 ⟨x,H1,I1,r1,q1⟩=>ho Zr s1 σ H1 x v Q I1 r1 q1)
theorem Yb{f:Value->Value->Sem Value}{C:Int->Int->Prop}{g:Int->Int->Int}
    (rule:∀(i j:Int) (t u:Tok) (s:Shared) (Q:q0A) (E:q0A),C i j->Q (.int (g i j) s.toks) {s with toks:=s.toks+1}->wpAny (model X.prog X.w) X.A (f (.int i t) (.int j u)) Q E s) :
    lB X f (rI C fun i j=>.int (g i j)):=by
  intro Zr s σ H x y v u Q I rx ry h;obtain⟨i,j,rfl,rfl,hc,q⟩:=h;obtain⟨t,rfl⟩:=rx;obtain⟨t',rfl⟩:=ry;exact rule i j t t' s _ _ hc ⟨.int (g i j),H,I.tok _,⟨_,rfl⟩,q⟩
theorem Xh{f:Value->Value->Sem Value}{g:Int->Int->Int}
    (rule:∀(i j:Int) (t u:Tok) (s:Shared) (Q:q0A) (E:q0A),Q (.int (g i j) s.toks) {s with toks:=s.toks+1}->wpAny (model X.prog X.w) X.A (f (.int i t) (.int j u)) Q E s) :
    lB X f (Ql fun i j=>.int (g i j)):=by
  intro Zr s σ H x y v u Q I rx ry h;obtain⟨i,j,rfl,rfl,q⟩:=h;obtain⟨t,rfl⟩:=rx;obtain⟨t',rfl⟩:=ry;exact rule i j t t' s _ _ ⟨.int (g i j),H,I.tok _,⟨_,rfl⟩,q⟩
theorem Xg{f:Value->Value->Sem Value}{g:Int->Int->Bool}
    (rule:∀(i j:Int) (t u:Tok) (s:Shared) (Q:q0A) (E:q0A),Q (.bool (g i j)) s->wpAny (model X.prog X.w) X.A (f (.int i t) (.int j u)) Q E s) :
    lB X f (Ql fun i j=>.bl (g i j)):=by
  intro Zr s σ H x y v u Q I rx ry h;obtain⟨i,j,rfl,rfl,q⟩:=h;obtain⟨t,rfl⟩:=rx;obtain⟨t',rfl⟩:=ry;exact rule i j t t' s _ _ ⟨.bl (g i j),H,I,rfl,q⟩
noncomputable def CPow(i j:Int):Prop:=0<=j/\j<=1000000/\i.natAbs < 2 ^ 64
noncomputable def CMul(i j:Int):Prop:=(-(2 ^ 64) < i/\i < 2 ^ 64)\/(-(2 ^ 64) < j/\j < 2 ^ 64)
theorem CMul.ok{i j:Int}(h:CMul i j):IntMulOk i j:=by
 rcases h with⟨h1,h2⟩|⟨h1,h2⟩
 ·exact .of_left (intBits_le_64 h1 h2)
 ·exact .of_right (intBits_le_64 h1 h2)
theorem T9:lB X (binaryOp .Add) (Ql fun i j=>.int (i+j)):=Xh fun _ _ _ _ _ _ _ q=>add_int q
theorem pC:lB X (binaryOp .Sub) (Ql fun i j=>.int (i - j)):=Xh fun _ _ _ _ _ _ _ q=>sub_int q
theorem Gf:lB X (binaryOp .Mult) (rI CMul fun i j=>.int (i * j)):=Yb fun _ _ _ _ _ _ _ hc q=>mul_int q hc.ok
theorem pB:lB X (binaryOp .Mod) (rI (fun _ j=>0 < j) fun i j=>.int (i % j)):=Yb fun i j _ _ _ _ _ hc q=>by
 have h1:(0:Int) < j:=hc;exact mod_int' (by omega) (by rw[Int.fmod_eq_emod_of_nonneg i (by omega)];exact q)
theorem Ud:lB X (binaryOp .Pow) (rI CPow fun i j=>.int (i ^ j.toNat)):=Yb fun _ _ _ _ _ _ _ hc q=>pow_int_small hc.1 hc.2.1 hc.2.2 q
theorem Zp{f:Value->Sem Value}{g:Int->Int}
    (rule:∀(i:Int) (t:Tok) (s:Shared) (Q:q0A) (E:q0A),Q (.int (g i) s.toks) {s with toks:=s.toks+1}->wpAny (model X.prog X.w) X.A (f (.int i t)) Q E s) :
    Yg X f (rU fun i=>.int (g i)):=by
  intro Zr s σ H x v Q I rx h;obtain⟨i,rfl,q⟩:=h;obtain⟨t,rfl⟩:=rx;exact rule i t s _ _ ⟨.int (g i),H,I.tok _,⟨_,rfl⟩,q⟩
theorem sC:Yg X (unaryOp .USub) (rU fun i=>.int (-i)):=Zp fun _ _ _ _ _ q=>neg_int q
end
noncomputable def scal:V->V->Bool
 | .Zu,.Zu=>true | .Zu,.int _=>true | .int _,.Zu=>true | .Zu,.bl _=>true | .bl _,.Zu=>true | .Zu,.str _=>true | .str _,.Zu=>true
 | .int _,.int _=>true | .bl _,.bl _=>true | .str _,.str _=>true | .byt _,.byt _=>true
 | .int _,.str _=>true | .str _,.int _=>true | .bl _,.str _=>true | .str _,.bl _=>true
 | _,_=>false
noncomputable def EM:R2:=fun x y H Q=>scal x y=true/\Q (.bl (decide (x=y))) H
noncomputable def Uo:R2:=fun x y H Q=>scal x y=true/\Q (.bl (!decide (x=y))) H
theorem GZ{i j:Int}:decide (V.int i=V.int j)=(i==j):=by
 rw[Bool.eq_iff_iff];simp
theorem Kk{i j:Bool}:decide (V.bl i=V.bl j)=(i==j):=by
 rw[Bool.eq_iff_iff];simp
theorem Ha{i j:Str}:decide (V.str i=V.str j)=(i==j):=by
 rw[Bool.eq_iff_iff];simp
theorem GY{i j:Array UInt8}:decide (V.byt i=V.byt j)=(i.toList==j.toList):=by
 rw[Bool.eq_iff_iff];cases i;cases j;simp
section
variable {X:Cx} {a b c:Expr} {ta tb tc:TE} {pos:Pos}
theorem bR{Zr:List (Addr×Obj)}{σ:St}{H:Hp}{s:Shared}{Q:VK}{k k':Bool}(I:Zt X Zr σ H s)(q:Q (.bl k) H)(e:k=k'):EP X Zr σ Q (.bool k') s:=by
 subst e;exact⟨.bl k,H,I,rfl,q⟩
theorem cN:lB X (compareOp .Eq) EM:=by
 intro Zr s σ H x y v u Q I rx ry h;obtain⟨hs,q⟩:=h;cases x with
 | Zu =>
  cases rx;cases y with
  | Zu=>cases ry;exact PySem.EqNone.eq_none_none (bR I q (by simp))
  | bl j=>cases ry;exact PySem.EqNone.eq_none_bool (bR I q (by simp))
  | int j=>obtain⟨t',rfl⟩:=ry;exact PySem.EqNone.eq_none_int (bR I q (by simp))
  | str j=>obtain⟨t',rfl⟩:=ry;exact PySem.EqNone.eq_none_str (bR I q (by simp))
  | _=>exact absurd (show false=true from hs) Bool.false_ne_true
 | bl i =>
  cases rx;cases y with
  | Zu=>cases ry;exact PySem.EqNone.eq_bool_none (bR I q (by simp))
  | bl j=>cases ry;exact eq_bool (bR I q Kk)
  | str j=>obtain⟨t',rfl⟩:=ry;exact PySem.EqMixed.eq_bool_str (bR I q (by simp))
  | _=>exact absurd (show false=true from hs) Bool.false_ne_true
 | int i =>
  obtain⟨t,rfl⟩:=rx;cases y with
  | Zu=>cases ry;exact PySem.EqNone.eq_int_none (bR I q (by simp))
  | int j=>obtain⟨t',rfl⟩:=ry;exact eq_int (bR I q GZ)
  | str j=>obtain⟨t',rfl⟩:=ry;exact PySem.EqMixed.eq_int_str (bR I q (by simp))
  | _=>exact absurd (show false=true from hs) Bool.false_ne_true
 | str i =>
  obtain⟨t,rfl⟩:=rx;cases y with
  | Zu=>cases ry;exact PySem.EqNone.eq_str_none (bR I q (by simp))
  | bl j=>cases ry;exact PySem.EqMixed.eq_str_bool (bR I q (by simp))
  | int j=>obtain⟨t',rfl⟩:=ry;exact PySem.EqMixed.eq_str_int (bR I q (by simp))
  | str j=>obtain⟨t',rfl⟩:=ry;exact eq_str (bR I q Ha)
  | _=>exact absurd (show false=true from hs) Bool.false_ne_true
 | byt i =>
  obtain⟨t,rfl⟩:=rx;cases y with
  | byt j=>obtain⟨t',rfl⟩:=ry;exact PySem.W.eq_bytes (bR I q GY)
  | _=>exact absurd (show false=true from hs) Bool.false_ne_true
 | _=>cases y<;>exact absurd (show false=true from hs) Bool.false_ne_true
theorem Qj:lB X (compareOp .NotEq) Uo:=by
 intro Zr s σ H x y v u Q I rx ry h;obtain⟨hs,q⟩:=h;cases x with
 | Zu =>
  cases rx;cases y with
  | Zu=>cases ry;exact PySem.EqNone.ne_none_none (bR I q (by simp))
  | bl j=>cases ry;exact PySem.EqNone.ne_none_bool (bR I q (by simp))
  | int j=>obtain⟨t',rfl⟩:=ry;exact PySem.EqNone.ne_none_int (bR I q (by simp))
  | str j=>obtain⟨t',rfl⟩:=ry;exact PySem.EqNone.ne_none_str (bR I q (by simp))
  | _=>exact absurd (show false=true from hs) Bool.false_ne_true
 | bl i =>
  cases rx;cases y with
  | Zu=>cases ry;exact PySem.EqNone.ne_bool_none (bR I q (by simp))
  | bl j=>cases ry;exact ne_bool (bR I q (congrArg not Kk))
  | str j=>obtain⟨t',rfl⟩:=ry;exact PySem.EqMixed.ne_bool_str (bR I q (by simp))
  | _=>exact absurd (show false=true from hs) Bool.false_ne_true
 | int i =>
  obtain⟨t,rfl⟩:=rx;cases y with
  | Zu=>cases ry;exact PySem.EqNone.ne_int_none (bR I q (by simp))
  | int j=>obtain⟨t',rfl⟩:=ry;exact ne_int (bR I q (congrArg not GZ))
  | str j=>obtain⟨t',rfl⟩:=ry;exact PySem.EqMixed.ne_int_str (bR I q (by simp))
  | _=>exact absurd (show false=true from hs) Bool.false_ne_true
 | str i =>
  obtain⟨t,rfl⟩:=rx;cases y with
  | Zu=>cases ry;exact PySem.EqNone.ne_str_none (bR I q (by simp))
  | bl j=>cases ry;exact PySem.EqMixed.ne_str_bool (bR I q (by simp))
  | int j=>obtain⟨t',rfl⟩:=ry;exact PySem.EqMixed.ne_str_int (bR I q (by simp))
  | str j=>obtain⟨t',rfl⟩:=ry;exact ne_str (bR I q (congrArg not Ha))
  | _=>exact absurd (show false=true from hs) Bool.false_ne_true
 | byt i =>
  obtain⟨t,rfl⟩:=rx;cases y with
  | byt j=>obtain⟨t',rfl⟩:=ry;exact PySem.W.ne_bytes (bR I q (congrArg not GY))
  | _=>exact absurd (show false=true from hs) Bool.false_ne_true
 | _=>cases y<;>exact absurd (show false=true from hs) Bool.false_ne_true
theorem k9:lB X (compareOp .Lt) (Ql fun i j=>.bl (decide (i < j))):=Xg fun _ _ _ _ _ _ _ q=>lt_int q
theorem L9:lB X (compareOp .Gt) (Ql fun i j=>.bl (decide (j < i))):=Xg fun _ _ _ _ _ _ _ q=>gt_int q
theorem Uc:lB X (compareOp .Is) (fun x y H Q=>y=.Zu/\Q (.bl (decide (x=.Zu))) H):=by
 intro Zr s σ H x y v u Q I rx ry h;obtain⟨rfl,q⟩:=h;cases ry;refine is_none_gen (bR I q ?_);cases x<;>first
  | (cases rx;rfl)
  | (obtain⟨t,rfl⟩:=rx;rfl)
theorem OZ:lB X (compareOp .IsNot) (fun x y H Q=>y=.Zu/\Q (.bl (!decide (x=.Zu))) H):=by
 intro Zr s σ H x y v u Q I rx ry h;obtain⟨rfl,q⟩:=h;cases ry;refine isnot_none_gen (bR I q ?_);cases x<;>first
  | (cases rx;rfl)
  | (obtain⟨t,rfl⟩:=rx;rfl)
theorem lB.or{f:Value->Value->Sem Value}{r r':R2}(h:lB X f r)(h':lB X f r'):lB X f (fun x y H Q=>r x y H Q\/r' x y H Q):=by
 intro Zr s σ H x y v u Q I rx ry q;rcases q with q|q
 ·exact h Zr s σ H x y v u Q I rx ry q
 ·exact h' Zr s σ H x y v u Q I rx ry q
theorem nomark(b:Expr){op:CmpOp}(h:op≠.In:=by decide)(h2:op≠.NotIn:=by decide):behindInMarks op b=false:=by
 have e1:(op==CmpOp.In)=false:=by cases op<;>first|rfl|exact absurd rfl h
 have e2:(op==CmpOp.NotIn)=false:=by cases op<;>first|rfl|exact absurd rfl h2
 cases b<;>simp[behindInMarks,e1,e2]
theorem iA{op:CmpOp}{r:R2}(ho:lB X (compareOp op) r)(ha:PE X a ta)(hb:PE X b tb)(hm:behindInMarks op b=false):PE X (.Compare a [op] [b] pos) (UT r ta tb):=by
 intro Zr s σ H Q I h;exact wpAny_Compare1 (Q4 ha hb I h fun v u s2 x y H2 I2 rx ry q=>ho Zr s2 σ H2 x y v u Q I2 rx ry q) hm
noncomputable def EZ(t:TE):TT:=fun σ H Q=>t σ H fun x H'=>∃ k,x=.bl k/\Q k H'
theorem aQ{op:CmpOp}{r:R2}(ho:lB X (compareOp op) r)(ha:PE X a ta)(hb:PE X b tb)(hm:behindInMarks op b=false):PT X (.Compare a [op] [b] pos) (EZ (UT r ta tb)):=by
 intro Zr s σ H Q I h;refine wpAny_isTrue_Compare1 (thn (ha Zr s σ H _ I h) fun v s1 ⟨x,H1,I1,r1,q1⟩=>thn (hb Zr s1 σ H1 _ I1 q1) fun u s2 ⟨y,H2,I2,r2,q2⟩ =>
  thn (ho Zr s2 σ H2 x y v u _ I2 r1 r2 q2) fun c s3 ⟨z,H3,I3,r3,k,e,q3⟩=>?_) hm
 subst e;cases r3;exact wpAny_truthy_bool ⟨H3,I3,q3⟩
noncomputable def MG(r r':R2)(ta tb tc:TE):TE:=fun σ H Q=>ta σ H fun x H1=>tb σ H1 fun y H2=>r x y H2 fun z H3=>∃ k,z=.bl k /\
 (if k=true then tc σ H3 fun w' H4=>r' y w' H4 Q else Q (.bl false) H3)
noncomputable def UZ(K:q0B)(x:V)(H:Hp)(k:Bool):Prop :=
 match x with
 | .Zu=>k=false
 | .bl b=>k=b
 | .int i=>k=(i !=0)
 | .str y=>y.length<=sizeLine/\k=((y.length:Int) !=0)
 | .byt y=>y.size<=sizeLine/\k=((y.size:Int) !=0)
 | .ref p=>(∃ xs,dC K H p xs/\k = !xs.isEmpty)\/(∃ xs,eJ K H p xs/\k = !xs.isEmpty)\/∃ kvs,H p=some (.dK kvs)/\k = !kvs.isEmpty
 | _=>False
theorem FJ{κ:Type}{kvs:List (κ×V)}{vs:List (κ×Value)}(r:KV kvs vs):(!vs.isEmpty) = !kvs.isEmpty:=by
 cases r<;>rfl
theorem zY{xs:List V}{Zv:List Value}(r:Vals xs Zv):(!Zv.toArray.isEmpty) = !xs.isEmpty:=by
 cases r<;>simp
theorem line63:(sizeLine:Nat) < 2 ^ 63:=by rw[sizeLine_eq];decide
theorem UP:Yf X (fun x H Q=>∃ k,UZ X.K x H k/\Q k H):=by
 intro Zr s σ H x v Q I rx h;obtain⟨k,e,q⟩:=h;have hl:=line63;have hs:sizeLine=16777216:=sizeLine_eq;cases x with
 | Zu =>
  cases rx;have e':k=false:=e;subst e';exact truthy_none ⟨H,I,q⟩
 | bl b =>
  cases rx;have e':k=b:=e;subst e';exact wpAny_truthy_bool ⟨H,I,q⟩
 | int i =>
  obtain⟨t,rfl⟩:=rx;have e':k=(i !=0):=e;subst e';exact PySem.P.truthy_int ⟨H,I,q⟩
 | str y =>
  obtain⟨t,rfl⟩:=rx;obtain⟨hy,e'⟩:y.length<=sizeLine/\k=((y.length:Int) !=0):=e;subst e';exact PySem.P.truthy_str (by omega) ⟨H,I.tok _,q⟩
 | byt y =>
  obtain⟨t,rfl⟩:=rx;obtain⟨hy,e'⟩:y.size<=sizeLine/\k=((y.size:Int) !=0):=e;subst e';exact PySem.W.truthy_bytes (by omega) ⟨H,I.tok _,q⟩
 | ref p =>
  cases rx;have e':(∃ xs,dC X.K H p xs/\k = !xs.isEmpty)\/(∃ xs,eJ X.K H p xs/\k = !xs.isEmpty)\/∃ kvs,H p=some (.dK kvs)/\k = !kvs.isEmpty:=e;rcases e' with⟨xs,hx,e'⟩|⟨xs,hx,e'⟩|⟨kvs,hx,e'⟩
  ·subst e';obtain⟨Zv,r,pl,hz⟩:=I.list hx;have hlen:=r.length;exact wpAny_truthy_list pl.isList (by simp only[List.size_toArray];omega) ⟨H,I.tok _,by rw[zY r];exact q⟩
  ·subst e';obtain⟨Zv,r,pl,hz⟩:=I.tuple hx;have hlen:=r.length;exact truthy_tuple pl (by simp only[List.size_toArray];omega) ⟨H,I.tok _,by rw[zY r];exact q⟩
  ·subst e';obtain⟨hz,hS,vs,r,m⟩:kvs.length<=sizeLine/\(p==sysModules)=false/\∃ vs,KV kvs vs/\s.heap.DictOf (bV X.prog X.w) p vs:=I.Zw p _ hx;have hlen:kvs.length=vs.length:=Paired.length r;exact wpAny_truthy_dict hS m (by omega) ⟨H,I.tok _,by rw[FJ r];exact q⟩
 | _=>exact(show False from e).elim
theorem Gc:lB X (binaryOp .Add) (fun x y H Q=>∃ i j,x=.str i/\y=.str j/\i.length+j.length<=sizeLine/\Q (.str (i++j)) H):=by
 intro Zr s σ H x y v u Q I rx ry h;obtain⟨i,j,rfl,rfl,hz,q⟩:=h;obtain⟨t,rfl⟩:=rx;obtain⟨t',rfl⟩:=ry;exact add_str (fun t' tk=>⟨.str (i++j),H,I.tok _,⟨_,rfl⟩,q⟩) hz
theorem vals1{x:V}{us:List Value}(r:Vals [x] us):∃ u,us=[u]/\bH x u:=by
 cases r with
 | cons r1 r2=>cases r2;exact⟨_,rfl,r1⟩
theorem vals2{x y:V}{us:List Value}(r:Vals [x,y] us):∃ u w',us=[u,w']/\bH x u/\bH y w':=by
 cases r with
 | cons r1 r2 =>
  cases r2 with
  | cons r3 r4=>cases r4;exact⟨_,_,rfl,r1,r3⟩
theorem Ih(hc:X.calm=true):dQ X (.builtin "max") (fun xs H Q=>∃ i j,xs=[.int i,.int j]/\Q (.int (if j > i then j else i)) H):=by
 intro Zr s σ H xs us Q I r h;obtain⟨i,j,rfl,q⟩:=h;obtain⟨u,w',rfl,⟨t,rfl⟩,⟨t',rfl⟩⟩:=vals2 r;refine max_two_ints (I.ok.hd hc) fun h' tk k=>⟨_,H,I.kept k,?_,q⟩;by_cases hj:j > i
 ·rw[if_pos hj,if_pos hj];exact⟨_,rfl⟩
 ·rw[if_neg hj,if_neg hj];exact⟨_,rfl⟩
theorem Ii(hc:X.calm=true):dQ X (.builtin "min") (fun xs H Q=>∃ i j,xs=[.int i,.int j]/\Q (.int (if j < i then j else i)) H):=by
 intro Zr s σ H xs us Q I r h;obtain⟨i,j,rfl,q⟩:=h;obtain⟨u,w',rfl,⟨t,rfl⟩,⟨t',rfl⟩⟩:=vals2 r;refine min_two_ints (I.ok.hd hc) fun h' tk k=>⟨_,H,I.kept k,?_,q⟩;by_cases hj:j < i
 ·rw[if_pos hj,if_pos hj];exact⟨_,rfl⟩
 ·rw[if_neg hj,if_neg hj];exact⟨_,rfl⟩
noncomputable def Ye(K:q0B)(x:V)(H:Hp)(n:Nat):Prop :=
 match x with
 | .str y=>y.length<=sizeLine/\n=y.length
 | .byt y=>y.size<=sizeLine/\n=y.size
 | .ref p=>(∃ xs,dC K H p xs/\n=xs.length)\/∃ xs,eJ K H p xs/\n=xs.length
 | _=>False
theorem yR:dQ X (.builtin "len") (fun xs H Q=>∃ x n,xs=[x]/\Ye X.K x H n/\Q (.int n) H):=by
 intro Zr s σ H xs us Q I r h;obtain⟨x,n,rfl,e,q⟩:=h;obtain⟨u,rfl,rx⟩:=vals1 r;have hl:=line63;have hs:sizeLine=16777216:=sizeLine_eq;cases x with
 | str y =>
  obtain⟨t,rfl⟩:=rx;obtain⟨hy,e'⟩:y.length<=sizeLine/\n=y.length:=e;subst e';exact len_str (by omega) ⟨.int _,H,I.tok _,⟨_,rfl⟩,q⟩
 | byt y =>
  obtain⟨t,rfl⟩:=rx;obtain⟨hy,e'⟩:y.size<=sizeLine/\n=y.size:=e;subst e';exact PySem.W.len_bytes (by omega) ⟨.int _,H,I.tok _,⟨_,rfl⟩,q⟩
 | ref p =>
  cases rx;have e':(∃ xs,dC X.K H p xs/\n=xs.length)\/∃ xs,eJ X.K H p xs/\n=xs.length:=e;rcases e' with⟨xs,hx,e'⟩|⟨xs,hx,e'⟩
  ·subst e';obtain⟨Zv,r',pl,hz⟩:=I.list hx;have hlen:=r'.length;exact Calls.call_len_list pl.isList (by simp only[List.size_toArray];omega) ⟨.int xs.length,H,I.tok _,⟨_,by simp only[List.size_toArray];rw[hlen]⟩,q⟩
  ·subst e';obtain⟨Zv,r',pl,hz⟩:=I.tuple hx;have hlen:=r'.length;exact len_tuple pl (by simp only[List.size_toArray];omega) ⟨.int xs.length,H,I.tok _,⟨_,by simp only[List.size_toArray];rw[hlen]⟩,q⟩
 | _=>exact(show False from e).elim
end
structure E7(h:Heap)(x dx C:Addr)(mA:q0C):Prop where
 obj:h.get? x=some (PySem.W.instObj C dx)
 ns:h.Ns1 dx mA
 ne:dx≠x
theorem IS{h:Heap}{dx:Addr}{mA:q0C}(n:h.Ns1 dx mA):∃ od,h.get? dx=some od/\∀ name,PySem.W.lookIn name od=some (mA name):=by
 obtain⟨o,es,ep,ho,hd,hk,_,hm⟩:=n;refine⟨o,ho,fun name=>?_⟩;have e:=hm name;unfold nsFind findBy at e;rw[<- Array.find?_toList] at e;unfold PySem.W.lookIn;rw[hd];dsimp only;split
 ·rename_i y q
  rw[q] at e;exact congrArg some e
 ·rename_i q
  rw[q] at e;have a:es.toList.any (·.refKey)=false:=by
   rw[List.any_eq_false];intro y hy;obtain⟨z,t,aaT⟩:=hk y (Array.mem_toList_iff.mp hy);simp[DictEntry.refKey,aaT]
  have a':¬ es.toList.any (·.refKey)=true:=by rw[a];exact Bool.false_ne_true
  rw[if_neg a'];exact congrArg some e
theorem E7.look{h:Heap}{x dx C:Addr}{mA:q0C}(I:E7 h x dx C mA):∃ od,PySem.W.InstAt h x (PySem.W.instObj C dx) C (some od)/\∀ name,PySem.W.lookIn name od=some (mA name) :=
 let ⟨od,ho,hl⟩:=IS I.ns
 ⟨od,⟨I.obj,rfl,rfl,ho⟩,hl⟩
section
variable {prog:Program} {w:World} {A:Around} {E:q0A} {s:Shared} {K:q0B} {x dx C f:Addr} {mA:q0C} {name:Str} {v:Value}
theorem OC{expr:Bool}{Q:q0A}(X:K.In s.heap)(I:E7 s.heap x dx C mA)(hg:PySem.W.plainGet K C name=true)(hh:PySem.W.hasDictIn K C=true)
    (ha:PySem.W.findIn K (.ref C) name=some none) (hv:mA name=some v) (hv':PySem.W.handedIn v=true) (h:Q v {s with toks:=s.toks+1}) :
    wpAny (model prog w) A (getAttr (.ref x) name expr) Q E s:=by
  obtain⟨od,J,hl⟩:=I.look;exact PySem.W.get_value X J (PySem.W.plainGet_of hg).1 (PySem.W.findObj_own hh ha rfl (by rw[hl,hv])) hv' h
theorem Ly{pl:Sem Bool}{Q:Value×List Value->Shared->Prop}(X:K.In s.heap)(I:E7 s.heap x dx C mA)(hg:PySem.W.plainGet K C name=true)
    (hf:PySem.W.findIn K (.ref C) name=some (some (.ref f))) (ht:PySem.W.isFn K (.ref f)=true) (hv:mA name=none) (h:Q (.ref f,[.ref x]) s) :
    wpAny (model prog w) A (getMethod (.ref x) name pl) Q E s:=by
  obtain⟨od,J,hl⟩:=I.look;exact PySem.W.method_fn X J (PySem.W.plainGet_of hg).1 (PySem.W.plainGet_of hg).2 hf (beq_iff_eq.mp ht) (by show(PySem.W.lookIn name od).map (·.isSome)=some false;rw[hl,hv];rfl) h
theorem Pf{ns:List Str}{Q:Unit->Shared->Prop}(X:K.In s.heap)(I:E7 s.heap x dx C mA)
    (hs:PySem.W.findIn K (.ref C) "__setattr__"=some (some (.builtin "object.__setattr__"))) (hp:PySem.W.plainOver K C=true) (ht:PySem.W.takerIn K C name=some none) (hh:PySem.W.hasDictIn K C=true)
    (hw:PySem.Within mA ns) (hsz:ns.length<=sizeLine)
    (h:∀ h',E7 h' x dx C (fun y=>if y=name then some v else mA y)->Heap.SameBut dx s.heap h'->Q () {s with heap:=h',toks:=s.toks+2}) :
    wpAny (model prog w) A (setAttr (.ref x) name v) Q E s:=by
  obtain⟨od,J,hl⟩:=I.look;refine PySem.W.set_plain X J hs (PySem.W.osa_open (s:={s with toks:=s.toks+1}) (r:=none) X J hp ht fun b=>?_);obtain⟨cd,hc,hd'⟩:=PySem.W.any_some hh;have hx:s.heap.get? x=some ⟨.ref C,some dx,.plain,#[]⟩:=I.obj;refine wpAny_bind (wpAny_pure (wpAny_bind (wpAny_bind (wpAny_loadPart hx (wpAny_bind (PySem.W.Looks.here (s:={s with toks:=s.toks+1}) (PySem.W.looks_clsIn X hc) ?_))))));rw[hd'];refine wpAny_pure (a:=some dx) (wpAny_bind (wpAny_pure (wpAny_bind ?_)));refine wpAny_nsSet1 (s:={s with toks:=s.toks+1}) I.ns fun h' hn2 hs2=>?_;obtain⟨oD,esD,epD,hoD,hdD,hcD⟩:=hn2.count (PySem.Within.cons name v hw);refine wpAny_bind (wpAny_lookBehind hoD (by rw[hdD];exact pastItsLine_dict (Nat.le_trans hcD (by rw[List.length_cons];omega))) ?_);exact wpAny_pure (h _ ⟨(hs2.2 _ (Ne.symm I.ne)).trans I.obj,hn2,I.ne⟩ hs2)
theorem LQ{R:Result->Shared->Prop}{vs:List Value}{kw:List (Str×Value)}(X:K.In s.heap)(hm:PySem.W.makesIn K C=true)
    (hi:PySem.W.findIn K (.ref C) "__init__"=some (some (.ref f))) (hf:PySem.W.typeIn K (.ref f)=some (.type "function"))
    (h:codeAny (model prog w) (A.under (.builtin "type.__call__" ⟨.ref C::vs,kw⟩)) (.call (.ref f) ⟨.ref (s.heap.objs.size+1)::vs,kw⟩) (PySem.W.InitBack (s.heap.objs.size+1) R)
      {s with heap:=(s.heap.push PySem.W.emptyDict).push (PySem.W.instObj C s.heap.objs.size)}) :
    codeAny (model prog w) A (.call (.ref C) ⟨vs,kw⟩) R s:=by
  obtain⟨hh,g,d,t,os⟩:=s;exact PySem.W.make_core (PySem.W.makes_of X hm) (PySem.W.looks_findIn X hi) (fun self=>PySem.W.bind_fn X self hf) (.inl rfl) h
end
noncomputable def jK(f:Str)(v:V):List (Str×V)->List (Str×V)
 | []=>[(f,v)]
 | (g,x)::r=>if g=f then (g,v)::r else (g,x)::jK f v r
theorem wG(f g:Str)(v:V):∀ fs:List (Str×V),(jK f v fs).lookup g=if g=f then some v else fs.lookup g
 | []=>by
  show List.lookup g [(f,v)]=_;by_cases h:g=f
  ·have hb:(g==f)=true:=beq_iff_eq.mpr h;simp only[List.lookup,hb,if_pos h]
  ·have hb:(g==f)=false:=beq_eq_false_iff_ne.mpr h;simp only[List.lookup,hb,if_neg h]
 | (k,x)::r=>by
  have ih:=wG f g v r;rw[show jK f v ((k,x)::r)=(if k=f then (k,v)::r else (k,x)::jK f v r) from rfl];by_cases hk:k=f
  ·rw[if_pos hk];by_cases h:g=k
   ·have hb:(g==k)=true:=beq_iff_eq.mpr h;simp only[List.lookup,hb,if_pos (h.trans hk)]
   ·have hb:(g==k)=false:=beq_eq_false_iff_ne.mpr h;simp only[List.lookup,hb,if_neg (fun e:g=f=>h (e.trans hk.symm))]
  ·rw[if_neg hk];by_cases h:g=k
   ·have hb:(g==k)=true:=beq_iff_eq.mpr h;simp only[List.lookup,hb,if_neg (fun e:g=f=>hk (h.symm.trans e))]
   ·have hb:(g==k)=false:=beq_eq_false_iff_ne.mpr h;simp only[List.lookup,hb];exact ih
theorem uS(f:Str)(v:V):∀ fs:List (Str×V),f∈(jK f v fs).map (·.1)/\∀ g,g∈fs.map (·.1)->g∈(jK f v fs).map (·.1)
 | []=>⟨by simp[jK],fun g h=>by simp at h⟩
 | (k,x)::r=>by
  obtain⟨i1,i2⟩:=uS f v r;rw[show jK f v ((k,x)::r)=(if k=f then (k,v)::r else (k,x)::jK f v r) from rfl];by_cases hk:k=f
  ·rw[if_pos hk];subst hk;exact⟨by simp,fun g h=>by simpa using h⟩
  ·rw[if_neg hk];refine⟨?_,fun g h=>?_⟩
   ·rw[List.map_cons];exact List.mem_cons_of_mem _ i1
   ·rw[List.map_cons] at h ⊢;rcases List.mem_cons.mp h with e|e
    ·exact List.mem_cons.mpr (.inl e)
    ·exact List.mem_cons_of_mem _ (i2 g e)
theorem wF(f:Str)(v:V):∀ fs:List (Str×V),(jK f v fs).length<=fs.length+1
 | []=>by simp[jK]
 | (k,x)::r=>by
  have ih:=wF f v r;rw[show jK f v ((k,x)::r)=(if k=f then (k,v)::r else (k,x)::jK f v r) from rfl];by_cases hk:k=f
  ·rw[if_pos hk,List.length_cons,List.length_cons];omega
  ·rw[if_neg hk,List.length_cons,List.length_cons];omega
theorem l9.some_of{v:V}{o:Option Value}(r:l9 (some v) o):∃ u,o=some u/\bH v u:=by
 cases o with
 | none=>exact(show False from r).elim
 | some u=>exact⟨u,rfl,r⟩
theorem l9.none_of{o:Option Value}(r:l9 none o):o=none:=by
 cases o with
 | none=>rfl
 | some u=>exact(show False from r).elim
theorem IF{v:V}{u:Value}(r:bH v u):PySem.W.handedIn u=true:=by
 cases v with
 | Zu=>cases (show u=Value.none from r);rfl
 | bl b=>cases (show u=Value.bool b from r);rfl
 | int i=>obtain⟨t,e⟩:=(show ∃ t,u=Value.int i t from r);cases e;rfl
 | str x=>obtain⟨t,e⟩:=(show ∃ t,u=Value.str x t from r);cases e;rfl
 | byt b=>obtain⟨t,e⟩:=(show ∃ t,u=Value.bytes b t from r);cases e;rfl
 | flt b=>obtain⟨t,e⟩:=(show ∃ t,u=Value.float b t from r);cases e;rfl
 | ref a=>cases (show u=Value.ref a from r);rfl
 | ty n=>cases (show u=Value.type n from r);rfl
section
variable {P:Program} {w:World} {H H':Hp} {h h':Heap} {a C dx:Addr} {fs fs':List (Str×V)}
theorem C6(Zw:HOk P w H h)(e:H a=some (.ins C dx fs)):∃ mA,E7 h a dx C mA/\(∀ f,l9 (fs.lookup f) (mA f))/\PySem.Within mA (fs.map (·.1))/\fs.length<=1000/\H dx=some (.own a):=by
 obtain⟨d,z,ne,ob,mA,n,r,q⟩:=(show dH P w H h a (.ins C dx fs) from Zw a _ e);exact⟨mA,⟨ob,n,ne⟩,r,q,z,d⟩
end
structure Cls(K:q0B)(C:Addr):Prop where
 pg:PySem.W.plainGet K C Str.empty=true
 hd:PySem.W.hasDictIn K C=true
 po:PySem.W.plainOver K C=true
 sa:PySem.W.findIn K (.ref C) "__setattr__"=some (some (.builtin "object.__setattr__"))
theorem Cls.get{K:q0B}{C:Addr}(c:Cls K C)(f:Str):PySem.W.plainGet K C f=true:=c.pg
noncomputable def eI(K:q0B)(C:Addr)(f:Str):Prop:=PySem.W.findIn K (.ref C) f=some none
theorem eI.XM{K:q0B}{C:Addr}{f:Str}(n:eI K C f):PySem.W.takerIn K C f=some none:=by
 unfold PySem.W.takerIn;rw[show PySem.W.findIn K (.ref C) f=some none from n];rfl
structure Meth(K:q0B)(C:Addr)(m:Str)(f:Addr):Prop where
 at_:PySem.W.findIn K (.ref C) m=some (some (.ref f))
 fn:PySem.W.isFn K (.ref f)=true
 kp:PySem.W.keepIn K (.ref f)=true
section
variable {X:Cx} {Zr:List (Addr×Obj)} {σ:St} {H:Hp} {s:Shared} {a C dx:Addr} {fs:List (Str×V)} {f:Str} {v:V} {A:Around} {E:q0A}
theorem zV{b:Bool}{Q:q0A}(I:Zt X Zr σ H s)(e:H a=some (.ins C dx fs))(c:Cls X.K C)(n:eI X.K C f)(l:fs.lookup f=some v)
    (h:∀ u s',Zt X Zr σ H s'->bH v u->Q u s'):wpAny (model X.prog X.w) A (getAttr (.ref a) f b) Q E s:=by
  obtain⟨mA,O,r,_,_,_⟩:=C6 I.Zw e;obtain⟨u,hu,ru⟩:=l9.some_of (v:=v) (o:=mA f) (by rw[<- l];exact r f);exact OC I.kIn O (c.get f) c.hd n hu (IF ru) (h u _ (I.tok _) ru)
theorem zW{m:Str}{g:Addr}{pl:Sem Bool}{Q:Value×List Value->Shared->Prop}(I:Zt X Zr σ H s)(e:H a=some (.ins C dx fs))(c:Cls X.K C)(k:Meth X.K C m g)(l:fs.lookup m=none)
    (h:Q (.ref g,[.ref a]) s):wpAny (model X.prog X.w) A (getMethod (.ref a) m pl) Q E s:=by
  obtain⟨mA,O,r,_,_,_⟩:=C6 I.Zw e;have hn:mA m=none:=l9.none_of (by rw[<- l];exact r m);exact Ly I.kIn O (c.get m) k.at_ k.fn hn h
theorem Bb{y:V}{u:Value}{Q:Unit->Shared->Prop}(I:Zt X Zr σ H s)(e:H a=some (.ins C dx fs))(c:Cls X.K C)(n:eI X.K C f)(hl:fs.length < 1000)(ry:bH y u)
    (h:∀ s',Zt X Zr σ (Zs H a (.ins C dx (jK f y fs))) s'->Q () s'):wpAny (model X.prog X.w) A (setAttr (.ref a) f u) Q E s:=by
  obtain⟨mA,O,r,wi,_,ho⟩:=C6 I.Zw e;have hz:(fs.map (·.1)).length<=sizeLine:=by rw[List.length_map,sizeLine_eq];omega
  refine Pf I.kIn O c.sa c.po n.XM c.hd wi hz fun h' O' sb=>h _ ?_;have hd:∃ o,h'.get? dx=some o:=let ⟨o,_,_,e',_⟩:=O'.ns;⟨o,e'⟩;refine I.write (x:=a) (e:=dx) (by rw[e];exact True.intro) (.inr ho) (fun b q hb z=>(sb.2 b hb).trans z) hd ?_;refine⟨by rw[aG O.ne];exact ho,?_,O.ne,O'.obj,_,O'.ns,fun g=>?_,fun g hg=>?_⟩
  · have:=wF f y fs;omega
  · show l9 ((jK f y fs).lookup g) (if g=f then some u else mA g);rw[wG];by_cases q:g=f
    · rw[if_pos q,if_pos q];exact ry
    · rw[if_neg q,if_neg q];exact r g
  · by_cases q:g=f
    · rw[q];exact(uS f y fs).1
    · refine(uS f y fs).2 g (wi g fun z=>hg ?_);show(if g=f then some u else mA g)=none;rw[if_neg q];exact z
theorem Zt.made(I:Zt X Zr σ H s):Zt X Zr σ (Zs (Zs H s.heap.objs.size (.own (s.heap.objs.size+1))) (s.heap.objs.size+1) (.ins C s.heap.objs.size []))
    {s with heap:=(s.heap.push PySem.W.emptyDict).push (PySem.W.instObj C s.heap.objs.size)}:=by
  have e1:(s.heap.push PySem.W.emptyDict).get? s.heap.objs.size=some PySem.W.emptyDict:=Heap.get?_push_size s.heap rfl;have e2:((s.heap.push PySem.W.emptyDict).push (PySem.W.instObj C s.heap.objs.size)).get? (s.heap.objs.size+1)=some (PySem.W.instObj C s.heap.objs.size):=by
    have:=Heap.get?_push_size (s.heap.push PySem.W.emptyDict) (o:=PySem.W.instObj C s.heap.objs.size) rfl
    rwa [Heap.size_push] at this
  have e3:(s.heap.push PySem.W.emptyDict).Ns s.heap.objs.size (fun _=>none):=⟨PySem.W.emptyDict,#[],_,e1,rfl,(fun e he=>absurd he (by simp)),fun _=>rfl⟩;have I1:=I.laid (a:=s.heap.objs.size) (o:=.own (s.heap.objs.size+1)) (h':=s.heap.push PySem.W.emptyDict) (t':=s.toks) (fun b u q=>Heap.get?_push_of_some _ q) (Nat.le_refl _) ⟨_,e1⟩;refine I1.laid (a:=s.heap.objs.size+1) (o:=.ins C s.heap.objs.size []) (t':=s.toks) (fun b u q=>Heap.get?_push_of_some _ q) (Nat.le_of_eq (Heap.size_push _ _)) ?_;have ne:s.heap.objs.size≠s.heap.objs.size+1:=Nat.ne_of_lt (Nat.lt_succ_self _);refine⟨by rw[aG ne,aA],Nat.zero_le _,ne,e2,fun _=>none,(Heap.Ns1.of_empty e3).at fun o q=>Heap.get?_push_of_some _ q,fun _=>True.intro,fun y hy=>absurd rfl hy⟩
theorem M6{prog:Program}{w:World}{env:Env}{e:Expr}{f:Str}{pos:Pos}{s:Shared}{Q:q0A}(hb:attributeBase e f env (eval e env)=eval e env)
    (h:wpAny (model prog w) A (eval e env) (fun o s₁=>wpAny (model prog w) A (getAttr o f true) Q E s₁) E s):wpAny (model prog w) A (eval (.Attribute e f pos) env) Q E s :=
  Attribute_any_ h (by rw[arm_eval_Attribute,hb])
end
noncomputable def Yd(X:Cx)(op:Operator)(rd:V->V->Hp->VK->Prop):Prop :=
 ∀(Zr:List (Addr×Obj)) (s:Shared) (σ:St) (H:Hp) (x y:V) (u v:Value) (Q:VK),Zt X Zr σ H s->bH x u->bH y v->rd x y H Q->wpAny (model X.prog X.w) X.A (inplaceOp op u v) (EP X Zr σ Q) X.xe s
section
variable {X:Cx} {o e value:Expr} {f:Str} {pos pos' aa4:Pos} {ta tv:TE}
noncomputable def YX:V->V->Hp->VK->Prop:=fun x y H Q=>∃ i j,x=.int i/\y=.int j/\Q (.int (i+j)) H
theorem Tu:Yd X .Add YX:=by
 rintro Zr s σ H x y u v Q I rx ry ⟨i,j,rfl,rfl,q⟩;obtain⟨t,rfl⟩:=(show ∃ t,u=Value.int i t from rx);obtain⟨t',rfl⟩:=(show ∃ t',v=Value.int j t' from ry);exact PyProof.Rows.iadd_int ⟨.int (i+j),H,I.tok _,⟨_,rfl⟩,q⟩
end
section
variable {X:Cx} {Zr:List (Addr×Obj)} {σ:St} {H:Hp} {s:Shared} {A:Around} {E:q0A} {Q:q0A} {c:Value} {b:Bool}
end
structure Room(k:Nat)(A:Around):Prop where
 hd:A.handled=none
 dp:A.depth+3 * k+5 < recursionLimit
 un:A.units+16 * k+200 < cLine
theorem Room.mono{j k:Nat}{A:Around}(r:Room k A)(h:j<=k):Room j A:=⟨r.hd,by have:=r.dp;omega,by have:=r.un;omega⟩
theorem Room.deeper{k:Nat}{A:Around}(r:Room (k+1) A)(env:Env):Room k (A.deeper env) :=
 ⟨r.hd,by have:=r.dp;show A.depth+1+3 * k+5 < _;omega,by have:=r.un;show A.units+3+16 * k+200 < _;omega⟩
theorem Room.in1{k:Nat}{A:Around}(r:Room (k+1) A):Room k A.in1 :=
 ⟨r.hd,by have:=r.dp;show A.depth+3 * k+5 < _;omega,by have:=r.un;show A.units+1+16 * k+200 < _;omega⟩
theorem FL{A:Around}{C:Addr}{us:List Value}{kw:List (Str×Value)}:(A.under (.builtin "type.__call__" ⟨.ref C::us,kw⟩)).depth=A.depth+1:=by
 first|rfl|simp[Around.under,Code.weight,Code.isCreation,Code.isGuard,Code.isCaller,Code.frames,Code.isFrame,guardIds]
theorem FO{A:Around}{C:Addr}{us:List Value}{kw:List (Str×Value)}:(A.under (.builtin "type.__call__" ⟨.ref C::us,kw⟩)).units=A.units+1:=by
 first|rfl|simp[Around.under,Code.cUnits,Code.frames,Code.isFrame]
theorem Room.make{k:Nat}{A:Around}(r:Room (k+1) A)(C:Addr)(us:List Value)(kw:List (Str×Value)):Room k (A.under (.builtin "type.__call__" ⟨.ref C::us,kw⟩)) :=
 ⟨r.hd,by have:=r.dp;rw[FL];omega,by have:=r.un;rw[FO];omega⟩
theorem Room.depth{k:Nat}{A:Around}(r:Room k A):A.depth < recursionLimit:=by have:=r.dp;omega
theorem Room.units{k:Nat}{A:Around}(r:Room k A):A.units+64 < cLine:=by have:=r.un;omega
noncomputable def GF:TA:=fun _ H Q=>Q [] H
noncomputable def EX(ta:TE)(tr:TA):TA:=fun σ H Q=>ta σ H fun x H1=>tr σ H1 fun xs H2=>Q (x::xs) H2
section
variable {X:Cx} {e:Expr} {es:List Expr} {te:TE} {t:TA} {pos:Pos}
theorem aB:PA X [] GF:=fun _ _ _ _ H Q I h=>Calls.spliced_nil ⟨[],H,I,.nil,h⟩
theorem HB(ha:PE X e te)(hr:PA X es t)(hs:starEach (e::es) X.env=(false,eval e X.env)::starEach es X.env:=by rfl):PA X (e::es) (EX te t):=by
 intro pos Zr s σ H Q I h;rw[hs];show wpAny _ _ (spliced ((false,eval e X.env)::backTo pos (starEach es X.env))) _ _ s;refine Calls.spliced_cons (thn (ha Zr s σ H _ I h) fun u s1 ⟨x,H1,I1,r1,q1⟩=>?_);exact thn (hr pos Zr s1 σ H1 _ I1 q1) fun us s2 ⟨xs,H2,I2,r2,q2⟩=>⟨x::xs,H2,I2,.cons r1 r2,q2⟩
noncomputable def XI(t:TA):TE:=fun σ H Q=>t σ H fun xs H1=>xs.length<=sizeLine/\∀ p,H1 p=none->Q (.ref p) (Zs H1 p (.tup xs))
noncomputable def XF(t:TA):TE:=fun σ H Q=>t σ H fun xs H1=>xs.length<=sizeLine/\∀ p,H1 p=none->Q (.ref p) (Zs H1 p (.lst xs))
theorem bC{x1}(h:PA X es t):PE X (.Tuple es x1 pos) (XI t):=by
 intro Zr s σ H Q I hq;refine wpAny_Tuple_spliced (thn (h pos Zr s σ H _ I hq) fun us s1 ⟨xs,H1,I1,r,z,q⟩=>⟨by rw[<- r.length];exact z,?_⟩);have hf:H1 s1.heap.objs.size=none:=I1.Zw.fresh (Nat.le_refl _);refine⟨.ref s1.heap.objs.size,Zs H1 s1.heap.objs.size (.tup xs),I1.laid (t':=s1.toks) (fun b u e=>Heap.get?_push_of_some _ e) (Nat.le_refl _) ?_,rfl,q _ hf⟩;exact⟨z,us,r,⟨_,Heap.get?_push_size _ rfl,rfl,_,rfl⟩⟩
theorem bX(h:PA X es t):PE X (.List es pos) (XF t):=by
 intro Zr s σ H Q I hq;refine wpAny_List_spliced (thn (h pos Zr s σ H _ I hq) fun us s1 ⟨xs,H1,I1,r,z,q⟩=>⟨by rw[<- r.length];exact z,?_⟩);have hf:H1 s1.heap.objs.size=none:=I1.Zw.fresh (Nat.le_refl _);refine⟨.ref s1.heap.objs.size,Zs H1 s1.heap.objs.size (.lst xs),I1.laid (t':=s1.toks) (fun b u e=>Heap.get?_push_of_some _ e) (Nat.le_refl _) ?_,rfl,q _ hf⟩;exact⟨z,us,0,r,Heap.get?_push_size _ rfl⟩
end
noncomputable abbrev Sp:=List V->Hp->VK->XK->Prop
noncomputable abbrev CXT:=List Env->Hp->Shared->XK->Value->Shared->Prop
structure Env0(P:Program)(w:World)(K:q0B)(mg:q0C)(base:Heap)(A:Around)(outer:List Env)(s:Shared)(H:Hp):Prop where
 frames:A.frames=some outer
 mod:Mod K mg base
 bs:∀ b o,base.get? b=some o->s.heap.get? b=some o/\H b=none
 bsz:base.objs.size<=s.heap.objs.size
 sV:s.heap.FunFrames base outer
 frf:∀ b∈frs outer,H b=none
 Zw:HOk P w H s.heap
 bare:AllBare s.gens
noncomputable def CE(outer:List Env)(P:Program)(w:World)(H:Hp)(s:Shared)(Q:VK)(u:Value)(s':Shared):Prop :=
 ∃ v H',s'.os=s.os/\AllBare s'.gens/\Un (frs outer) [] H H' s.heap s'.heap/\HOk P w H' s'.heap/\bH v u/\Q v H'
noncomputable def CR(CX:CXT)(outer:List Env)(P:Program)(w:World)(H:Hp)(s:Shared)(Q:VK)(E:XK)(r:Result)(s':Shared):Prop :=
 match r with
 | .ok (.ret u)=>CE outer P w H s Q u s'
 | .ok _=>False
 | .error e=>CX outer H s E e s'
structure bG(P:Program)(w:World)(K:q0B)(mg:q0C)(base:Heap)(CX:CXT)(k:Nat)(f:Addr)(fd:FuncData)(ps:List Str)(sp:Sp):Prop where
 len:∀ vs H Q E,sp vs H Q E->vs.length=ps.length
 run:∀(A:Around) (outer:List Env) (s:Shared) (H:Hp) (args:Args) (us:List Value) (vs:List V) (Q:VK) (E:XK),Room k A->Env0 P w K mg base A outer s H->BindsTo s fd args (ps.zip us)->Vals vs us->sp vs H Q E ->
  codeAny (model P w) A (.call (.ref f) args) (CR CX outer P w H s Q E) s
theorem bG.mono{P:Program}{w:World}{K:q0B}{mg:q0C}{base:Heap}{CX:CXT}{j k:Nat}{f:Addr}{fd:FuncData}{ps:List Str}{sp:Sp}(F:bG P w K mg base CX j f fd ps sp)(h:j<=k) :
    bG P w K mg base CX k f fd ps sp:=⟨F.len,fun A outer s H args us vs Q E hr=>F.run A outer s H args us vs Q E (hr.mono h)⟩
theorem bG.imp{P:Program}{w:World}{K:q0B}{mg:q0C}{base:Heap}{CX:CXT}{k:Nat}{f:Addr}{fd:FuncData}{ps:List Str}{sp sp':Sp}(F:bG P w K mg base CX k f fd ps sp)
    (h:∀ vs H Q E,sp' vs H Q E->sp vs H Q E):bG P w K mg base CX k f fd ps sp' :=
  ⟨fun vs H Q E q=>F.len vs H Q E (h _ _ _ _ q),fun A outer s H args us vs Q E hr he hb hv hs=>F.run A outer s H args us vs Q E hr he hb hv (h _ _ _ _ hs)⟩
theorem Env0.make{P:Program}{w:World}{K:q0B}{mg:q0C}{base:Heap}{A:Around}{outer:List Env}{s:Shared}{H:Hp}(e:Env0 P w K mg base A outer s H)(C:Addr)(us:List Value)(kw:List (Str×Value)) :
    Env0 P w K mg base (A.under (.builtin "type.__call__" ⟨.ref C::us,kw⟩)) outer s H:=⟨by first|exact e.frames|(simpa[Around.under,Code.envs,Code.isFrame,pushEnvs] using e.frames),e.mod,e.bs,e.bsz,e.sV,e.frf,e.Zw,e.bare⟩
theorem Env0.in1{P:Program}{w:World}{K:q0B}{mg:q0C}{base:Heap}{A:Around}{outer:List Env}{s:Shared}{H:Hp}(e:Env0 P w K mg base A outer s H) :
    Env0 P w K mg base A.in1 outer s H:=⟨e.frames,e.mod,e.bs,e.bsz,e.sV,e.frf,e.Zw,e.bare⟩
section
variable {X:Cx} {Zr:List (Addr×Obj)} {σ:St} {H:Hp} {s s':Shared}
theorem Zt.WN(I:Zt X Zr σ H s):Env0 X.prog X.w X.K X.mg X.base X.A X.stack s H :=
 ⟨I.ok.frames,I.ok.mod,I.bs,Nat.le_trans I.ok.bsz I.sz,I.stack,I.HP,I.Zw,I.bare⟩
theorem Zt.after{Q:VK}{u:Value}(I:Zt X Zr σ H s)(h:CE X.stack X.prog X.w H s Q u s'):EP X Zr σ Q u s':=by
 obtain⟨v,H',os,bare,un,Zw,r,q⟩:=h;obtain⟨hh,g,d,t,os'⟩:=s';obtain rfl:os'=s.os:=os;exact⟨v,H',I.call (h':=hh) (g':=g) (d':=d) (t':=t) (ch:=[]) un Zw bare (fun b z=>absurd z (by simp)),r,q⟩
end
noncomputable def MF(sp:Sp)(dvs:List V)(E:XK)(t:TA):TE:=fun σ H Q=>t σ H fun vs H1=>sp (vs++dvs) H1 Q E
noncomputable def EY(C:Addr)(m:Str)(sp:Sp)(dvs:List V)(E:XK)(ta:TE)(t:TA):TE:=fun σ H Q=>ta σ H fun x H1=>∃ a dx fs,x=.ref a/\H1 a=some (.ins C dx fs)/\fs.lookup m=none /\
 t σ H1 fun vs H2=>sp (x::(vs++dvs)) H2 Q E
noncomputable def HU(C:Addr)(sp:Sp)(dvs:List V)(E:XK)(t:TA):TE:=fun σ H Q=>t σ H fun vs H1=>∀ x dx,H1 x=none->H1 dx=none->dx≠x ->
 sp (.ref x::(vs++dvs)) (Zs (Zs H1 dx (.own x)) x (.ins C dx [])) (fun v H2=>v=.Zu/\Q (.ref x) H2) E
noncomputable def Binds(K:q0B)(fd:FuncData)(ps:List Str)(ds:List Value):Prop :=
 ∀(s:Shared) (us:List Value),K.In s.heap->(us++ds).length=ps.length->BindsTo s fd ⟨us,[]⟩ (ps.zip (us++ds))
theorem Binds.all{K:q0B}{fd:FuncData}{ps:List Str}(h:∀ us:List Value,us.length=ps.length->bindArgs fd ⟨us,[]⟩=pure (ps.zip us)):Binds K fd ps []:=fun s us _ hl=>by
 rw[List.append_nil] at hl ⊢;exact .of_eq (h us hl)
noncomputable def Passes(CX:CXT)(X:Cx)(E:XK):Prop:=∀(Zr:List (Addr×Obj)) (σ:St) (H:Hp) (s:Shared) (e:Value) (s':Shared),Zt X Zr σ H s->CX X.stack H s E e s'->X.xe e s'
section
variable {X:Cx} {CX:CXT} {k:Nat} {f C:Addr} {fd:FuncData} {ps:List Str} {sp:Sp} {dvs:List V} {ds:List Value} {E:XK} {x m:Str} {p pos apos:Pos} {e o:Expr} {es:List Expr} {ta:TE} {t:TA}
theorem Ds{Zr:List (Addr×Obj)}{σ:St}{H:Hp}{s:Shared}{Q:VK}{us:List Value}{vs:List V}(F:bG X.prog X.w X.K X.mg X.base CX k f fd ps sp)(hr:Room k X.A)(hb:Binds X.K fd ps ds)(hd:Vals dvs ds)(hx:Passes CX X E)
    (I:Zt X Zr σ H s) (r:Vals vs us) (h:sp (vs++dvs) H Q E):wpAny (model X.prog X.w) X.A (call (.ref f) us) (EP X Zr σ Q) X.xe s:=by
  have r2:Vals (vs++dvs) (us++ds):=r.append hd;have hl:(us++ds).length=ps.length:=by rw[<- r2.length];exact F.len _ _ _ _ h
  refine wpAny_call (codeAny_mono (F.run X.A X.stack s H ⟨us,[]⟩ (us++ds) (vs++dvs) Q E hr I.WN (hb s us I.kIn hl) r2 h) fun r s' hq=>?_);cases r with
  | error e=>exact hx Zr σ H s e s' I hq
  | ok fl =>
    cases fl with
    | ret u=>exact I.after hq
    | next=>exact False.elim hq
    | brk=>exact False.elim hq
    | cont=>exact False.elim hq
theorem aN(F:bG X.prog X.w X.K X.mg X.base CX k f fd ps sp)(hr:Room k X.A)(hg:Gl X x)(hm:X.mg x=some (.ref f))(hk:PySem.W.keepIn X.K (.ref f)=true)(hb:Binds X.K fd ps ds)(hd:Vals dvs ds)(hx:Passes CX X E)
    (ha:PA X (e::es) t) (hdb:(x==("__debug__":Str))=false:=by decide) (he:starEach (e::es) X.env=(false,eval e X.env)::starEach es X.env:=by rfl) (hpl:(backTo pos (starEach es X.env)).any (·.1)=false:=by rfl) :
    PE X (.Call (.Name x p) (e::es) [] pos) (MF sp dvs E t):=by
  intro Zr s σ H Q I h;refine wpAny_Call_Name_kw (xO I hg hm ?_ hdb);refine PySem.W.callWith_K (h₀:=X.base) I.ok.mod.kin hk (thn (ha pos Zr s σ H _ I h) fun us s1 ⟨vs,H1,I1,r,q⟩=>⟨I1.kIn,?_⟩) he hpl;exact Ds F hr hb hd hx I1 r q
theorem bL{pl:Sem Bool}(he:PE X o ta)(c:Cls X.K C)(hm:Meth X.K C m f)(F:bG X.prog X.w X.K X.mg X.base CX k f fd ps sp)(hr:Room k X.A)(hb:Binds X.K fd ps ds)(hd:Vals dvs ds)(hx:Passes CX X E)(ha:PA X (e::es) t)
    (Z1:starEach (e::es) X.env=(false,eval e X.env)::starEach es X.env:=by rfl) (hpl:(backTo pos (starEach es X.env)).any (·.1)=false:=by rfl)
    (ht:eval (.Call (.Attribute o m apos) (e::es) [] pos) X.env=(do
      let ov <- eval o X.env
      standAt apos.atName
      let (f,first) <- holding [ov] (getMethod ov m pl)
      callWith pos f first (backTo pos (starEach (e::es) X.env)) (backToKw pos (keywordEach [] X.env))):=by rfl) :
    PE X (.Call (.Attribute o m apos) (e::es) [] pos) (EY C m sp dvs E ta t):=by
  intro Zr s σ H Q I h;refine PySem.W.methodCall_KW (pl:=pl) (thn (he Zr s σ H _ I h) fun u s1 ⟨x,H1,I1,rx,a,dx,fs,ex,ea,l,q⟩=>?_) ht;subst ex;obtain rfl:u=Value.ref a:=rx;refine zW I1 ea c hm l ?_;refine PySem.W.callWith_K (first:=[.ref a]) (h₀:=X.base) I.ok.mod.kin hm.kp (thn (ha pos Zr s1 σ H1 _ I1 q) fun us s2 ⟨vs,H2,I2,r,q2⟩=>⟨I2.kIn,?_⟩) Z1 hpl
  exact Ds (us:=.ref a::us) (vs:=.ref a::vs) F hr hb hd hx I2 (.cons rfl r) q2
theorem cC{pl:Sem Bool}(he:PE X o ta)(c:Cls X.K C)(hm:Meth X.K C m f)(F:bG X.prog X.w X.K X.mg X.base CX k f fd ps sp)(hr:Room k X.A)(hb:Binds X.K fd ps ds)(hd:Vals dvs ds)(hx:Passes CX X E)
    (ht:eval (.Call (.Attribute o m apos) [] [] pos) X.env=(do
      let ov <- eval o X.env
      standAt apos.atName
      let (f,first) <- holding [ov] (getMethod ov m pl)
      callWith pos f first (backTo pos (starEach [] X.env)) (backToKw pos (keywordEach [] X.env))):=by rfl) :
    PE X (.Call (.Attribute o m apos) [] [] pos) (EY C m sp dvs E ta GF):=by
  intro Zr s σ H Q I h;refine PySem.W.methodCall_KW (pl:=pl) (thn (he Zr s σ H _ I h) fun u s1 ⟨x,H1,I1,rx,a,dx,fs,ex,ea,l,q⟩=>?_) ht;subst ex;obtain rfl:u=Value.ref a:=rx;refine zW I1 ea c hm l ?_;exact PySem.W.callWith_K0 (first:=[.ref a]) I1.kIn hm.kp (Ds (us:=[.ref a]) (vs:=[.ref a]) F hr hb hd hx I1 (.cons rfl .nil) q)
structure Mk(K:q0B)(C f:Addr):Prop where
 makes:PySem.W.makesIn K C=true
 init:PySem.W.findIn K (.ref C) "__init__"=some (some (.ref f))
 fn:PySem.W.isFn K (.ref f)=true
 kp:PySem.W.keepIn K (.ref C)=true
theorem EN{Zr:List (Addr×Obj)}{σ:St}{H:Hp}{s:Shared}{Q:VK}{us:List Value}{vs:List V}(M:Mk X.K C f)(F:bG X.prog X.w X.K X.mg X.base CX k f fd ps sp)(hr:Room (k+1) X.A)(hb:Binds X.K fd ps ds)(hd:Vals dvs ds)
    (hx:Passes CX X E) (I:Zt X Zr σ H s) (r:Vals vs us)
    (h:∀ x dx,H x=none->H dx=none->dx≠x->sp (.ref x::(vs++dvs)) (Zs (Zs H dx (.own x)) x (.ins C dx [])) (fun v H2=>v=.Zu/\Q (.ref x) H2) E) :
    wpAny (model X.prog X.w) X.A (call (.ref C) us) (EP X Zr σ Q) X.xe s:=by
  have hq:=h (s.heap.objs.size+1) s.heap.objs.size (I.Zw.fresh (Nat.le_succ _)) (I.Zw.fresh (Nat.le_refl _)) (Nat.ne_of_lt (Nat.lt_succ_self _));have I2:=Zt.made (C:=C) I;have r2:Vals (V.ref (s.heap.objs.size+1)::(vs++dvs)) (Value.ref (s.heap.objs.size+1)::(us++ds)):=.cons rfl (r.append hd);have hl:(Value.ref (s.heap.objs.size+1)::us++ds).length=ps.length:=by
    have e:=r2.length;rw[F.len _ _ _ _ hq] at e;exact e.symm
  refine wpAny_call (LQ (f:=f) I.kIn M.makes M.init (beq_iff_eq.mp M.fn) (codeAny_mono (F.run _ X.stack _ _ ⟨Value.ref (s.heap.objs.size+1)::us,[]⟩ (Value.ref (s.heap.objs.size+1)::(us++ds)) _ _ E (hr.make C us [])
    (I2.WN.make C us []) (hb _ (Value.ref (s.heap.objs.size+1)::us) I2.kIn hl) r2 hq) fun r s' hq'=>?_))
  cases r with
  | error e=>exact hx Zr σ _ _ e s' I2 hq'
  | ok fl =>
    cases fl with
    | ret u =>
      obtain⟨v,H',I3,rv,ev,q3⟩:=I2.after hq';subst ev;exact⟨rv,⟨V.ref (s.heap.objs.size+1),H',I3,rfl,q3⟩⟩
    | next=>exact False.elim hq'
    | brk=>exact False.elim hq'
    | cont=>exact False.elim hq'
theorem Dp(M:Mk X.K C f)(F:bG X.prog X.w X.K X.mg X.base CX k f fd ps sp)(hr:Room (k+1) X.A)(hg:Gl X x)(hm:X.mg x=some (.ref C))(hb:Binds X.K fd ps ds)(hd:Vals dvs ds)(hx:Passes CX X E)
    (ha:PA X (e::es) t) (hdb:(x==("__debug__":Str))=false:=by decide) (he:starEach (e::es) X.env=(false,eval e X.env)::starEach es X.env:=by rfl) (hpl:(backTo pos (starEach es X.env)).any (·.1)=false:=by rfl) :
    PE X (.Call (.Name x p) (e::es) [] pos) (HU C sp dvs E t):=by
  intro Zr s σ H Q I h;refine wpAny_Call_Name_kw (xO I hg hm ?_ hdb);refine PySem.W.callWith_K (h₀:=X.base) I.ok.mod.kin M.kp (thn (ha pos Zr s σ H _ I h) fun us s1 ⟨vs,H1,I1,r,q⟩=>⟨I1.kIn,?_⟩) he hpl;exact EN M F hr hb hd hx I1 r q
theorem Me(M:Mk X.K C f)(F:bG X.prog X.w X.K X.mg X.base CX k f fd ps sp)(hr:Room (k+1) X.A)(hg:Gl X x)(hm:X.mg x=some (.ref C))(hb:Binds X.K fd ps ds)(hd:Vals dvs ds)(hx:Passes CX X E)
    (hdb:(x==("__debug__":Str))=false:=by decide):PE X (.Call (.Name x p) [] [] pos) (HU C sp dvs E GF):=by
  intro Zr s σ H Q I h;refine wpAny_Call_Name_kw (xO I hg hm ?_ hdb);exact PySem.W.callWith_K0 I.kIn M.kp (EN (us:=[]) M F hr hb hd hx I .nil h)
end
section
variable {X:Cx} {CX:CXT} {k:Nat} {f C:Addr} {fd:FuncData} {ps ks:List Str} {sp:Sp} {E:XK} {x m:Str} {p pos apos adO:Pos} {e o:Expr} {es:List Expr} {kws:List Keyword} {te ta:TE} {t tk:TA} {nm:Option Str}
variable {g:List Value->List Value->List Value} {gV:List V->List V->List V}
end
structure aU(N P:List Str)(sc:Scope):Prop where
 kind:sc.kind=.function
 co:sc.isCoroutine=false
 gen:sc.isGenerator=false
 nd:N.Nodup
 pre:N.take P.length=P
 par:∀ x∈P,sc.names.lookup x=some .local\/sc.names.lookup x=some .cell
 dX:∀ y∈sc.names,y.2≠.free
theorem BW{kindOf:Str->Option NameKind}{x:Str}:∀ {binds:List (Str×Value)} {m:q0C},(∀ v,(x,v)∉binds)->bindL kindOf binds m x=m x
 | [],_,_=>rfl
 | (n,v)::r,m,h=>by
  unfold bindL;rw[BW fun w hw=>h w (List.mem_cons_of_mem _ hw)];split
  ·have:x≠n:=by rintro rfl;exact h v List.mem_cons_self
   simp[this]
  ·rfl
theorem BU{kindOf:Str->Option NameKind}{x:Str}:∀ {binds:List (Str×Value)} {m:q0C},(∀ v,(x,v)∉binds)->bindC kindOf binds m x=m x
 | [],_,_=>rfl
 | (n,v)::r,m,h=>by
  unfold bindC;rw[BU fun w hw=>h w (List.mem_cons_of_mem _ hw)];split
  ·rfl
  ·have:x≠n:=by rintro rfl;exact h v List.mem_cons_self
   simp[this]
theorem BV{kindOf:Str->Option NameKind}{x:Str}{v:Value}:∀ {P:List Str} {vs:List Value} {i:Nat} {m:q0C},P.Nodup->P[i]?=some x->vs[i]?=some v->kindOf x=some .local ->
    bindL kindOf (P.zip vs) m x=some v
  | [],_,_,_,_,h,_,_=>by simp at h
  | _::_,[],_,_,_,_,h,_=>by simp at h
  | p::P,w::vs,0,m,nd,h1,h2,hk=>by
    simp at h1 h2;subst h1;subst h2;show bindL kindOf ((p,w)::P.zip vs) m p=_;unfold bindL;rw[BW fun v hv=>(List.nodup_cons.mp nd).1 (List.of_mem_zip hv).1,if_pos hk];simp
  | p::P,w::vs,i+1,m,nd,h1,h2,hk=>by
    show bindL kindOf ((p,w)::P.zip vs) m x=_;unfold bindL;exact BV (i:=i) (List.nodup_cons.mp nd).2 (by simpa using h1) (by simpa using h2) hk
theorem BS{kindOf:Str->Option NameKind}{x:Str}{v:Value}:∀ {P:List Str} {vs:List Value} {i:Nat} {m:q0C},P.Nodup->P[i]?=some x->vs[i]?=some v->kindOf x≠some .local ->
    bindC kindOf (P.zip vs) m x=some v
  | [],_,_,_,_,h,_,_=>by simp at h
  | _::_,[],_,_,_,_,h,_=>by simp at h
  | p::P,w::vs,0,m,nd,h1,h2,hk=>by
    simp at h1 h2;subst h1;subst h2;show bindC kindOf ((p,w)::P.zip vs) m p=_;unfold bindC;rw[BU fun v hv=>(List.nodup_cons.mp nd).1 (List.of_mem_zip hv).1,if_neg hk];simp
  | p::P,w::vs,i+1,m,nd,h1,h2,hk=>by
    show bindC kindOf ((p,w)::P.zip vs) m x=_;unfold bindC;exact BS (i:=i) (List.nodup_cons.mp nd).2 (by simpa using h1) (by simpa using h2) hk
noncomputable def start(N:List Str)(vs:List V):St:=vs.map some++List.replicate (N.length - vs.length) none
noncomputable def D0(CX:CXT)(P:Program)(w:World)(K:q0B)(mg:q0C)(base:Heap)(N:List Str)(qual:Str)(scope:Scope)(f:Addr)(cd:Value)(A:Around)(outer:List Env)(s:Shared)(H:Hp)(E:XK):Cx where
 prog:=P
 w:=w
 K:=K
 mg:=mg
 base:=base
 A:=A.deeper (envOfC qual scope s.heap.objs.size f cd)
 N:=N
 s₀:=s
 H₀:=H
 env:=envOfC qual scope s.heap.objs.size f cd
 outer:=outer
 stack:=envOfC qual scope s.heap.objs.size f cd::outer
 ex:=[]
 calm:=true
 fn:=fun _=>true
 pn:=[]
 xe:=fun e s'=>wpAny (model P w) (A.deeper (envOfC qual scope s.heap.objs.size f cd)) (leaving (envOfC qual scope s.heap.objs.size f cd) e) (fun _ s''=>CX outer H s E e s'') (fun e' s''=>CX outer H s E e' s'') s'
theorem DW{sc:Scope}{n:Nat}{x:Str}(h:sc.names.lookup x=some .cell):∃ c,(cellsFrom n sc.names []).lookup x=some c:=by
 have q:=PySem.W.cellsFrom_some sc.names n [] (.inl h);exact Option.isSome_iff_exists.mp q
theorem II{CX:CXT}{P:Program}{w:World}{K:q0B}{mg:q0C}{base:Heap}{N ps:List Str}{qual:Str}{scope:Scope}{f:Addr}{cd:Value}{A:Around}{outer:List Env}{s s1:Shared}{H:Hp}{E:XK}{us:List Value}{vs:List V}
    (S:aU N ps scope) (hd:A.handled=none) (e0:Env0 P w K mg base A outer s H) (hl:vs.length=ps.length) (r:Vals vs us)
    (x:InCallC s s.heap.objs.size (bindL (envOfC qual scope s.heap.objs.size f cd).kindOf (ps.zip us) fun _=>none) (cellsFrom (s.heap.objs.size+1) scope.names []) (bindC (envOfC qual scope s.heap.objs.size f cd).kindOf (ps.zip us) fun _=>none) s1) :
    Zt (D0 CX P w K mg base N qual scope f cd A outer s H E) [] (start N vs) H s1:=by
  have hpl:ps.length<=N.length:=by have:=congrArg List.length S.pre;rw[List.length_take] at this;omega
  obtain⟨h1,tk,rfl,hk⟩:=x.done;have noA:∀ b:Addr,b∉(D0 CX P w K mg base N qual scope f cd A outer s H E).ex:=fun b z=>absurd (show b∈([]:List Addr) from z) (by simp);refine⟨⟨e0.mod,S.kind,rfl,rfl,Nat.le_refl _,fun y z c h1 h2=>?_,fun y hy=>?_,fun y c _ h=>?_,fun _=>hd,Around.frames_deeper e0.frames,.inr ⟨rfl,rfl⟩,fun b z=>absurd z (noA b),e0.bs,e0.bsz,fun b _ _=>noA b,fun b z=>absurd z (noA b),e0.sV,e0.frf⟩,
    rfl,e0.bare,Un.kept hk,⟨_,x.toInCall.ns,fun i y v h1 h2 h3=>?_⟩,fun y c h=>⟨_,x.cell y c h⟩,e0.Zw.fresh (Nat.le_refl _),fun y c h=>?_,fun p hp=>absurd (show p∈([]:List (Addr×Obj)) from hp) (by simp),e0.Zw.kept hk,?_⟩
  · exact name_of_addr x.apart (PySem.mem_of_lookup h1) (PySem.mem_of_lookup h2)
  · have hy:scope.names.lookup y=some .cell\/scope.names.lookup y=some .free:=hy;rcases hy with hy|hy
    · exact DW hy
    · exact absurd rfl (S.dX _ (PySem.mem_of_lookup hy))
  · exact Nat.le_of_lt (x.above y c (PySem.mem_of_lookup h))
  · have hi:i < vs.length:=by
      unfold start at h2;by_cases hi:i < vs.length
      · exact hi
      · rw[List.getElem?_append_right (by simpa using hi)] at h2;rw[List.getElem?_replicate] at h2;split at h2<;>cases h2
    have ha:vs[i]?=some v:=by
      unfold start at h2;rw[List.getElem?_append_left (by simpa using hi),List.getElem?_map] at h2;cases e:vs[i]? with
      | none=>rw[e] at h2;cases h2
      | some a=>rw[e] at h2;cases h2;rfl
    obtain⟨u,hu,rv⟩:=r.get ha;have hp:ps[i]?=some y:=by
      rw[<- S.pre,List.getElem?_take_of_lt (by omega)];exact h1
    have ndP:ps.Nodup:=by rw[<- S.pre];exact S.nd.sublist (List.take_sublist _ _)
    refine⟨u,rv,?_⟩;rcases S.par y (List.mem_of_getElem? hp) with k|k
    · exact .inl ⟨k,BV ndP hp hu k⟩
    · obtain⟨c,e⟩:=DW (n:=s.heap.objs.size+1) k;refine .inr ⟨.inl k,c,e,?_⟩;have q:=x.cell y c e;rw[BS ndP hp hu (by show scope.names.lookup y≠_;rw[k];decide)] at q;exact q
  · exact e0.Zw.fresh (Nat.le_of_lt (x.above y c (PySem.mem_of_lookup h)))
  · unfold start;show _=N.length;rw[List.length_append,List.length_map,List.length_replicate];omega
theorem WQ{CX:CXT}{P:Program}{w:World}{K:q0B}{mg:q0C}{base:Heap}{k:Nat}{f:Addr}{name qual:Str}{params:Arguments}{body:List Stmt}{scope:Scope}{dV kV doc pm ZE ct oc:Value}{an od:Option Addr}
    {osl:Array (Option Value)} {N ps:List Str} {sp:Sp} (lk:K.lookup f=some ⟨oc,od,.func (PySem.W.fnOf name qual params body scope dV kV doc pm an ZE ct),osl⟩) (hcd:PySem.W.codeIn K ZE qual=true) (S:aU N ps scope)
    (len:∀ vs H Q E,sp vs H Q E->vs.length=ps.length)
    (aa1:∀(A:Around) (outer:List Env) (s:Shared) (H:Hp) (vs:List V) (Q:VK) (E:XK),Room k (A.deeper (envOfC qual scope s.heap.objs.size f ZE))->sp vs H Q E ->
      ∃ t,PSs (D0 CX P w K mg base N qual scope f ZE A outer s H E) body t/\t {nx:=fun _ H'=>Q .Zu H',rt:=Q} (start N vs) H) :
    bG P w K mg base CX (k+1) f (PySem.W.fnOf name qual params body scope dV kV doc pm an ZE ct) ps sp:=by
  refine⟨len,fun A outer s H args us vs Q E hr e0 hb r hsp=>?_⟩;have hl:=len _ _ _ _ hsp;have KX:K.In s.heap:=e0.mod.kin.keeps fun b o e=>(e0.bs b o e).1;have lim:s.heap.NoLimit:=e0.mod.nolimit.keeps fun b o e=>(e0.bs b o e).1;have aaP:∀ y∈ps.zip us,scope.names.lookup y.1=some .local\/(scope.names.lookup y.1=some .cell/\((cellsFrom (s.heap.objs.size+1) scope.names []).lookup y.1).isSome=true):=fun⟨n,v⟩ hy=>by
    rcases S.par n (List.of_mem_zip hy).1 with q|q
    · exact .inl q
    · exact .inr ⟨q,PySem.W.cellsFrom_some _ _ _ (.inl q)⟩
  refine codeAny_call_function hr.depth (KX _ _ lk) rfl S.co S.gen rfl (PySem.W.codeRec_of KX hcd) (hb _ _ _ _ ?_);refine wpAny_newFunctionEnv_cells S.kind aaP fun env he s1 x=>?_;subst he;refine⟨lim.keeps x.toInCall.keep,codeAny_func ?_⟩;obtain⟨t,ht,hq⟩:=aa1 A outer s H vs Q E (hr.deeper _) hsp;have I:Zt (D0 CX P w K mg base N qual scope f ZE A outer s H E) [] (start N vs) H s1:=II S hr.hd e0 hl r x;refine wpAny_mono (ht [] s1 (start N vs) H _ I hq) (fun fl s' hs=>?_) fun e s' hs=>hs;have fin:∀ {σ':St} {H':Hp} {v:V} {u:Value},Zt (D0 CX P w K mg base N qual scope f ZE A outer s H E) [] σ' H' s'->bH v u->Q v H'->CE outer P w H s Q u s' :=
    fun {σ' H' v u} J rv q=>⟨v,H',J.os,J.bare,J.base,J.Zw,rv,q⟩
  cases fl with
  | ret u =>
    obtain⟨v,σ',H',J,rv,q⟩:=hs;exact fin J rv q
  | next =>
    obtain⟨σ',H',J,q⟩:=hs;exact fin (v:=V.Zu) (u:=Value.none) J rfl q
  | brk =>
    obtain⟨_,_,_,q⟩:=hs;exact False.elim q
  | cont =>
    obtain⟨_,_,_,q⟩:=hs;exact False.elim q
section
variable {X:Cx} {x:Str} {p pos:Pos} {e:Expr} {es:List Expr} {t:TA} {id T:String} {r:List V->Hp->VK->Prop}
noncomputable def Y2(r:List V->Hp->VK->Prop)(t:TA):TE:=fun σ H Q=>t σ H fun vs H1=>r vs H1 Q
theorem cO(hc:dQ X (.builtin id) r)(hg:Gl X x)(hm:X.mg x=none)(hv:bootBuiltins x=some (.builtin id))(ha:PA X (e::es) t)(hn:x≠"__name__":=by decide)(hdb:(x==("__debug__":Str))=false:=by decide)
    (he:starEach (e::es) X.env=(false,eval e X.env)::starEach es X.env:=by rfl) (hpl:(backTo pos (starEach es X.env)).any (·.1)=false:=by rfl):PE X (.Call (.Name x p) (e::es) [] pos) (Y2 r t):=by
  intro Zr s σ H Q I h;refine wpAny_Call_Name_kw (rJ I hg hm hv ?_ hn hdb);exact PyProof.Rows.callWith_builtin1 (thn (ha pos Zr s σ H _ I h) fun us s1 ⟨vs,H1,I1,r1,q1⟩=>hc Zr s1 σ H1 vs us Q I1 r1 q1) he hpl
theorem dB(hc:dQ X (.type T) r)(hg:Gl X x)(hm:X.mg x=none)(hv:bootBuiltins x=some (.type T))(ha:PA X (e::es) t)(hn:x≠"__name__":=by decide)(hdb:(x==("__debug__":Str))=false:=by decide)
    (he:starEach (e::es) X.env=(false,eval e X.env)::starEach es X.env:=by rfl) (hpl:(backTo pos (starEach es X.env)).any (·.1)=false:=by rfl):PE X (.Call (.Name x p) (e::es) [] pos) (Y2 r t):=by
  intro Zr s σ H Q I h;refine wpAny_Call_Name_kw (rJ I hg hm hv ?_ hn hdb);exact PyProof.Rows.callWith_type1 (thn (ha pos Zr s σ H _ I h) fun us s1 ⟨vs,H1,I1,r1,q1⟩=>hc Zr s1 σ H1 vs us Q I1 r1 q1) he hpl
end
end L2
namespace HT
open PySem PyProof.Rows
section
open PySem.SeqAt
open PySem.AutoSeq1 (wpAny_loadPart')
open PySem.MeetsSeq PySem.MeetsSeq2 PySem.MeetsSeq3
end
section
variable {prog:Program} {w:World} {A:Around} {E:q0A} {s:Shared}
theorem Nm{t b:Addr}{vs ws:List Value}{Q:q0A}(ht:IsTup s.heap t vs.toArray)(hb:IsTup s.heap b ws.toArray)(hv:vs≠[])
    (h1:ws=[]->Q (.ref t) s) (h2:ws≠[]->Q (.ref s.heap.objs.size) {s with heap:=s.heap.push {cls:=.type "tuple",data:=.seq (vs++ws).toArray}})
    (hsz:vs.length+ws.length<=sizeLine):wpAny (model prog w) A (binaryOp .Add (.ref t) (.ref b)) Q E s:=by
  obtain⟨⟨cls,dd,data,sl⟩,ho,hc,n,hd⟩:=id ht;obtain⟨⟨adI,dd2,data2,Z6⟩,ho2,hc2,n2,hd2⟩:=id hb;simp only at hc hd hc2 hd2;subst hc hd hc2 hd2;have e:vs.toArray++ws.toArray=(vs++ws).toArray:=by simp
  by_cases hw:ws=[]
  · exact concat_meets ⟨_,ho,rfl⟩ ⟨_,ho2,rfl⟩ noFill_tuple_add seq_tuple_add PySem.F.slot_tuple_add PySem.F.entry_tuple_add (PySem.F.args_tuple_add_2 _ _)
      (tuple_addW1 t b vs.toArray ws.toArray n n2 dd dd2 sl Z6 (by simpa using hv) (by simp[hw])) ⟨ho,ho2,h1 hw⟩
  · refine concat_meets ⟨_,ho,rfl⟩ ⟨_,ho2,rfl⟩ noFill_tuple_add seq_tuple_add PySem.F.slot_tuple_add PySem.F.entry_tuple_add (PySem.F.args_tuple_add_2 _ _)
      (tuple_addW2 t b vs.toArray ws.toArray n n2 dd dd2 sl Z6 (by simpa using hv) (by simpa using hw) (by rw[List.size_toArray,List.size_toArray];exact hsz)) ⟨ho,ho2,?_⟩
    rw[e];exact h2 hw
noncomputable def fM(n d:Nat):Option Int->Nat
 | none=>d
 | some v=>if v < 0 then (v+(n:Int)).toNat else min v.toNat n
theorem HK(n d k:Nat):fM n d (some (k:Int))=min k n:=by
 show(if (k:Int) < 0 then ((k:Int)+(n:Int)).toNat else min (k:Int).toNat n)=min k n;rw[if_neg (by omega),Int.toNat_natCast]
theorem Ut(n d:Nat)(hd:d<=n)(o:Option Int):fM n d o<=n:=by
 cases o with
 | none=>exact hd
 | some v =>
  show(if v < 0 then (v+(n:Int)).toNat else min v.toNat n)<=n;by_cases hv:v < 0
  ·rw[if_pos hv];omega
  ·rw[if_neg hv];exact Nat.min_le_right _ _
theorem GX(v:Int)(n d:Nat):(if v < 0 then max (v+(n:Int)) 0 else min v (n:Int))=((fM n d (some v):Nat):Int):=by
 show(if v < 0 then max (v+(n:Int)) 0 else min v (n:Int))=(((if v < 0 then (v+(n:Int)).toNat else min v.toNat n):Nat):Int);by_cases hv:v < 0
 ·simp only[if_pos hv];omega
 ·simp only[if_neg hv];omega
theorem Fb(lo hi:Option Int)(n:Nat):Builtin.Slice.sliceAdjust lo hi 1 (n:Int)=(((fM n 0 lo:Nat):Int),((fM n n hi:Nat):Int)):=by
 have h1:¬ ((1:Int) < 0):=by omega
 unfold Builtin.Slice.sliceAdjust;simp only[h1,if_false];refine Prod.ext ?_ ?_
 ·cases lo with
  | none=>rfl
  | some v=>exact GX v n 0
 ·cases hi with
  | none=>rfl
  | some v=>exact GX v n n
theorem Gj(i j:Nat):Builtin.Slice.slicePlaces (i:Int) (j:Int) 1=j - i:=by
 unfold Builtin.Slice.slicePlaces;have h1:(1:Int) > 0:=by omega
 simp only[h1,if_true,Int.ediv_one];split<;>omega
theorem Bc{v:Value}{o:Option Int}{Q:Option Int->Shared->Prop}(p:IsPart v o)(h:Q o s):wpAny (model prog w) A (Builtin.Slice.slicePartIndex v) Q E s:=by
 cases p with
 | none=>exact slicePart_none h
 | int i t=>exact slicePart_int h
theorem l7{sl:Addr}{vl vu:Value}{lo hi:Option Int}{n:Nat}{Q:Int×Int×Nat->Shared->Prop}(hs:s.heap.IsSliceOf sl vl vu .none)(pl:IsPart vl lo)(pu:IsPart vu hi)
    (h:Q (((fM n 0 lo:Nat):Int),1,fM n n hi - fM n 0 lo) s):wpAny (model prog w) A (Builtin.Slice.sliceApplied (.ref sl) (pure (n:Int))) Q E s:=by
  obtain⟨os,hos,hcs,hds⟩:=id hs;unfold Builtin.Slice.sliceApplied Builtin.Slice.sliceFields;refine wpAny_bind (wpAny_bind (wpAny_field hos hds (x:=vl) rfl (wpAny_bind (wpAny_field hos hds (x:=vu) rfl (wpAny_bind (wpAny_field hos hds (x:=.none) rfl (wpAny_pure ?_)))))));refine wpAny_bind (slicePart_none ?_);show wpAny _ _ (if ((1:Int)==0)=true then _ else _) _ _ s;rw[if_neg (by decide)];refine wpAny_bind (Bc pl (wpAny_bind (Bc pu (wpAny_bind (wpAny_pure ?_)))));show wpAny _ _ (match Builtin.Slice.sliceAdjust lo hi 1 (n:Int) with|(lo,hi)=>pure (lo,(1:Int),Builtin.Slice.slicePlaces lo hi 1)) _ _ s;rw[Fb lo hi n];show wpAny _ _ (pure (((fM n 0 lo:Nat):Int),(1:Int),Builtin.Slice.slicePlaces ((fM n 0 lo:Nat):Int) ((fM n n hi:Nat):Int) 1)) _ _ s;rw[Gj];exact wpAny_pure h
theorem Mg(xs:Array Value)(i k:Nat):((List.range k).filterMap fun(m:Nat)=>xs[((i:Int)+(m:Int) * 1).toNat]?).toArray=((xs.toList.drop i).take k).toArray:=by
 have e:(fun(m:Nat)=>xs[((i:Int)+(m:Int) * 1).toNat]?)=fun m=>xs[i+m]?:=by
  funext m;have:((i:Int)+(m:Int) * 1).toNat=i+m:=by omega
  rw[this]
 rw[e];have:=pick_run xs i k;rw[List.filterMap_map] at this;have e2:((fun x=>xs[x]?)∘fun x=>i+x)=fun m=>xs[i+m]?:=rfl;rw[e2] at this;rw[this]
theorem sX{t sl:Addr}{items:Array Value}{vl vu:Value}{lo hi:Option Int}{Q:q0A}(ht:IsTup s.heap t items)(hs:s.heap.IsSliceOf sl vl vu .none)(pl:IsPart vl lo)(pu:IsPart vu hi)
    (hw:¬ (fM items.size 0 lo=0/\fM items.size items.size hi=items.size))
    (h:Q (.ref s.heap.objs.size) {s with heap:=s.heap.push {cls:=.type "tuple",data:=.seq ((items.toList.drop (fM items.size 0 lo)).take (fM items.size items.size hi - fM items.size 0 lo)).toArray}})
    (hsz:items.size<=sizeLine):wpAny (model prog w) A (getItem (.ref t) (.ref sl)) Q E s:=by
  have aaQ:sizeOk (.seq ((items.toList.drop (fM items.size 0 lo)).take (fM items.size items.size hi - fM items.size 0 lo)).toArray):=by
    show((items.toList.drop (fM items.size 0 lo)).take (fM items.size items.size hi - fM items.size 0 lo)).toArray.size<=sizeLine;rw[List.size_toArray,List.length_take,List.length_drop,Array.length_toList];omega
  have hj:fM items.size items.size hi<=items.size:=Ut _ _ (Nat.le_refl _) hi;obtain⟨os,hos,hcs,hds⟩:=id hs;have hTs:s.TypeIs (.ref sl) "slice":=⟨os,hos,hcs⟩;unfold getItem
  try with_reducible refine wpAny_holding ?_
  first|refine wpAny_bind (wpAny_pure ?_)|skip
  refine wpAny_bind (wpAny_sequenceKey ht.typeIs (by decide) ?_);refine wpAny_bind (wpAny_callSpecial?_slot (name:=Str.ofString "__getitem__") ht.typeIs PyProof.Rows.slot_tuple_getitem
    (wpAny_call_entry PyProof.Rows.slot_tuple_getitem ht.typeIs entry_tuple_getitem ?_ (args_tuple_getitem _ _)))
  show wpAny _ _ (Builtin.Tuple.tupleItemsOf (.ref t) >>= _) _ _ s;refine wpAny_bind (tupleItemsOf_ ht ?_);refine wpAny_bind (wpAny_typeOf hTs ?_);rw[if_pos (by decide)];refine wpAny_bind (l7 hs pl pu ?_);have hno:¬ ((((fM items.size 0 lo:Nat):Int)==0&&(1:Int)==1&&(fM items.size items.size hi - fM items.size 0 lo)==items.size)=true):=by
    intro q;rw[Bool.and_eq_true,Bool.and_eq_true] at q;have q1:((fM items.size 0 lo:Nat):Int)=0:=eq_of_beq q.1.1;have q2:fM items.size items.size hi - fM items.size 0 lo=items.size:=eq_of_beq q.2;exact hw ⟨by omega,by omega⟩
  show wpAny _ _ (if (((fM items.size 0 lo:Nat):Int)==0&&(1:Int)==1&&(fM items.size items.size hi - fM items.size 0 lo)==items.size)=true then _ else _) _ _ s;rw[if_neg hno,Mg]
  first
    | exact wpAny_bind (m:=Builtin.Tuple.tupleExact _) (wpAny_newObj_type (wpAny_pure ⟨_,rfl,wpAny_pure h⟩) aaQ)
    | exact wpAny_bind (m:=Builtin.Tuple.tupleExact _) (wpAny_newObj_type (wpAny_bind (wpAny_pure (wpAny_pure ⟨_,rfl,wpAny_pure h⟩))) aaQ)
    | exact wpAny_bind (wpAny_bind (m:=Builtin.Tuple.tupleExact _) (wpAny_newObj_type (wpAny_pure (wpAny_pure ⟨_,rfl,wpAny_pure h⟩)) aaQ))
    | exact wpAny_bind (wpAny_bind (m:=Builtin.Tuple.tupleExact _) (wpAny_newObj_type (wpAny_pure ⟨_,rfl,wpAny_pure h⟩) aaQ))
end
end HT
namespace L2
open PySem PySem.Spec PyProof.Rows
noncomputable abbrev TO:=St->Hp->(Option Int->Hp->Prop)->Prop
noncomputable def PO(X:Cx)(e:Option Expr)(t:TO):Prop :=
 ∀(Zr:List (Addr×Obj)) (s:Shared) (σ:St) (H:Hp) (Q:Option Int->Hp->Prop),Zt X Zr σ H s->t σ H Q ->
  wpAny (model X.prog X.w) X.A (evalPart e X.env) (fun u s'=>∃ o H',Zt X Zr σ H' s'/\IsPart u o/\Q o H') X.xe s
noncomputable def HV:TO:=fun _ H Q=>Q none H
noncomputable def MP(t:TE):TO:=fun σ H Q=>t σ H fun x H1=>∃ i,x=.int i/\Q (some i) H1
theorem FI{ns:List Int}:∀ {us:List Value},Vals (ns.map V.int) us->IntsAre us ns:=by
 induction ns with
 | nil=>intro us r;rw[List.map_nil] at r;cases r;exact .nil
 | cons n ns ih =>
  intro us r;rw[List.map_cons] at r;cases r with
  | cons r1 r2 =>
   obtain⟨t,e⟩:=r1;subst e;exact .cons n t (ih r2)
section
variable {X:Cx} {e:Expr} {te:TE} {lo hi:Option Expr} {tl th:TO} {pos p2:Pos}
theorem iB:PO X none HV:=by
 intro Zr s σ H Q I h;rw[evalPart_none];exact wpAny_pure ⟨none,H,I,.none,h⟩
theorem dR(h:PE X e te):PO X (some e) (MP te):=by
 intro Zr s σ H Q I hw;rw[evalPart_some];refine thn (h Zr s σ H _ I hw) fun u s1 ⟨x,H1,I1,r1,q1⟩=>?_;obtain⟨i,rfl,q⟩:=q1;obtain⟨t,rfl⟩:=r1;exact⟨some i,H1,I1,.int i t,q⟩
noncomputable def MV(X:Cx)(r:V->Option Int->Option Int->Hp->VK->Prop):Prop :=
 ∀(Zr:List (Addr×Obj)) (s:Shared) (σ:St) (H:Hp) (x:V) (v vl vu:Value) (lo hi:Option Int) (sl:Addr) (Q:VK),Zt X Zr σ H s->bH x v->s.heap.IsSliceOf sl vl vu .none->IsPart vl lo->IsPart vu hi->r x lo hi H Q ->
  ∃ T id,typeLookup (.type T) "__getitem__"=pure (some (.builtin id))/\s.TypeIs v T/\wpAny (model X.prog X.w) X.A (getItem v (.ref sl)) (EP X Zr σ Q) X.xe s
theorem MV.or{r r':V->Option Int->Option Int->Hp->VK->Prop}(h:MV X r)(h':MV X r'):MV X (fun x lo hi H Q=>r x lo hi H Q\/r' x lo hi H Q):=by
 intro Zr s σ H x v vl vu lo hi sl Q I rx hs pl pu q;rcases q with q|q
 ·exact h Zr s σ H x v vl vu lo hi sl Q I rx hs pl pu q
 ·exact h' Zr s σ H x v vl vu lo hi sl Q I rx hs pl pu q
noncomputable def Zf(r:V->Option Int->Option Int->Hp->VK->Prop)(te:TE)(tl th:TO):TE:=fun σ H Q=>te σ H fun x H1=>tl σ H1 fun l H2=>th σ H2 fun u H3=>r x l u H3 Q
theorem dZ{r:V->Option Int->Option Int->Hp->VK->Prop}(hr:MV X r)(he:PE X e te)(hl:PO X lo tl)(hu:PO X hi th):PE X (.Subscript e (.Slice lo hi none p2) pos) (Zf r te tl th):=by
 intro Zr s σ H Q I h;refine Subscript_ (thn (he Zr s σ H _ I h) fun v s1 ⟨x,H1,I1,r1,q1⟩=>?_);refine wpAny_Slice (thn (hl Zr s1 σ H1 _ I1 q1) fun vl s2 ⟨l,H2,I2,pl,q2⟩=>thn (hu Zr s2 σ H2 _ I2 q2) fun vu s3 ⟨u,H3,I3,pu,q3⟩=>?_);rw[evalPart_none];refine wpAny_pure ?_;have I4:Zt X Zr σ H3 {s3 with heap:=s3.heap.push {cls:=.type "slice",data:=.fields #[vl,vu,.none]}}:=I3.kept (t':=s3.toks) fun b ob q=>Heap.get?_push_of_some _ q;obtain⟨T,id,hT,ht,hg⟩:=hr Zr {s3 with heap:=s3.heap.push {cls:=.type "slice",data:=.fields #[vl,vu,.none]}} σ H3 x v vl vu l u s3.heap.objs.size Q I4 r1 (Heap.IsSliceOf.new ..) pl pu q3;show wpAny (model X.prog X.w) X.A (subscriptTail e (.Slice lo hi none p2) v (.ref s3.heap.objs.size)) (EP X Zr σ Q) X.xe {s3 with heap:=s3.heap.push {cls:=.type "slice",data:=.fields #[vl,vu,.none]}};exact tail_any (ops:=[.ref s3.heap.objs.size,v]) ht hT hg (by with_unfolding_all rfl)
noncomputable def iF(xs:List V)(lo hi:Option Int):List V:=(xs.drop (HT.fM xs.length 0 lo)).take (HT.fM xs.length xs.length hi - HT.fM xs.length 0 lo)
theorem oC(xs:List V)(lo hi:Option Int):(iF xs lo hi).length<=xs.length:=by
 unfold iF;rw[List.length_take,List.length_drop];omega
noncomputable def Y0(K:q0B):V->Option Int->Option Int->Hp->VK->Prop:=fun x lo hi H Q=>∃ a xs,x=.ref a/\eJ K H a xs /\
 ¬ (HT.fM xs.length 0 lo=0/\HT.fM xs.length xs.length hi=xs.length)/\∀ p,H p=none->Q (.ref p) (Zs H p (.tup (iF xs lo hi)))
theorem Mu:MV X (Y0 X.K):=by
 intro Zr s σ H x v vl vu lo hi sl Q I rx hs pl pu h;obtain⟨a,xs,rfl,hx,hw,q⟩:=h;cases rx;obtain⟨Zv,r,ht,hz⟩:=I.tuple hx;have hlen:Zv.toArray.size=xs.length:=by rw[List.size_toArray];exact r.length.symm
 refine⟨"tuple",_,PyProof.Rows.slot_tuple_getitem.lookup,ht.typeIs,?_⟩;refine HT.sX ht hs pl pu (by rw[hlen];exact hw) ?_ (by rw[hlen];exact hz);rw[hlen];refine⟨.ref s.heap.objs.size,_,I.laid (t':=s.toks) (o:=.tup (iF xs lo hi)) (fun b ob q=>Heap.get?_push_of_some _ q) (Nat.le_refl _) ?_,rfl,q _ (I.Zw.fresh (Nat.le_refl _))⟩;exact⟨Nat.le_trans (oC xs lo hi) hz,_,(r.drop (HT.fM xs.length 0 lo)).take (HT.fM xs.length xs.length hi - HT.fM xs.length 0 lo),IsTup.new _ _⟩
noncomputable def Xm(K:q0B):R2:=fun x y H Q=>∃ a b xs ys,x=.ref a/\y=.ref b/\eJ K H a xs/\eJ K H b ys/\xs≠[]/\xs.length+ys.length<=sizeLine /\
 (ys=[]->Q (.ref a) H)/\(ys≠[]->∀ p,H p=none->Q (.ref p) (Zs H p (.tup (xs++ys))))
theorem Vals.xS{xs:List V}{us:List Value}(r:Vals xs us):us=[]↔xs=[]:=by
 cases r with
 | nil=>simp
 | cons _ _=>simp
theorem HA:lB X (binaryOp .Add) (Xm X.K):=by
 intro Zr s σ H x y v u Q I rx ry h;obtain⟨a,b,xs,ys,rfl,rfl,ha,hb,hx,hz,q1,q2⟩:=h;cases rx;cases ry;obtain⟨Zv,r1,p1,_⟩:=I.tuple ha;obtain⟨aaB,r2,p2,_⟩:=I.tuple hb;refine HT.Nm p1 p2 (fun z=>hx (r1.xS.mp z)) (fun z=>⟨.ref a,H,I,rfl,q1 (r2.xS.mp z)⟩) (fun z=>?_) (by rw[<- r1.length,<- r2.length];exact hz);refine⟨.ref s.heap.objs.size,_,I.laid (t':=s.toks) (o:=.tup (xs++ys)) (fun b ob q=>Heap.get?_push_of_some _ q) (Nat.le_refl _) ?_,rfl,q2 (fun w=>z (r2.xS.mpr w)) _ (I.Zw.fresh (Nat.le_refl _))⟩;exact⟨by rw[List.length_append];exact hz,_,r1.append r2,IsTup.new _ _⟩
end
noncomputable def DH(n:Nat)(i:Int):Option Nat:=if 0<=i then (if i < n then some i.toNat else none) else if -(n:Int)<=i then some (i+n).toNat else none
noncomputable def iK{α:Type}(xs:List α)(i:Int):Option α:=(DH xs.length i).bind fun j=>xs[j]?
theorem Hu{n:Nat}{i:Int}{j:Nat}(h:DH n i=some j):seqIndex? i n=some j/\j < n/\-(n:Int)<=i/\i < n:=by
 unfold DH at h;by_cases h0:0<=i
 ·rw[if_pos h0] at h;by_cases h1:i < n
  ·rw[if_pos h1] at h;have e:i.toNat=j:=Option.some.inj h;exact⟨by rw[seqIndex_of h0 h1,e],by omega,by omega,h1⟩
  ·rw[if_neg h1] at h;cases h
 ·rw[if_neg h0] at h;by_cases h1:-(n:Int)<=i
  ·rw[if_pos h1] at h;have e:(i+n).toNat=j:=Option.some.inj h;exact⟨by rw[seqIndex_neg (by omega) h1,e],by omega,h1,by omega⟩
  ·rw[if_neg h1] at h;cases h
theorem xK{α:Type}{xs:List α}{i:Int}{v:α}(h:iK xs i=some v):∃ j,seqIndex? i xs.length=some j/\xs[j]?=some v/\j < xs.length/\-(xs.length:Int)<=i/\i < xs.length:=by
 unfold iK at h;cases e:DH xs.length i with
 | none=>rw[e] at h;cases h
 | some j =>
  rw[e] at h;obtain⟨h1,h2,h3,h4⟩:=Hu e;exact⟨j,h1,h,h2,h3,h4⟩
theorem kW{α:Type}{xs:List α}{j:Nat}{v:α}(h:xs[j]?=some v):iK xs (j:Int)=some v:=by
 have hj:j < xs.length:=(List.getElem?_eq_some_iff.mp h).1;have e:DH xs.length (j:Int)=some j:=by
  unfold DH;rw[if_pos (by omega),if_pos (by omega)];simp
 unfold iK;rw[e];exact h
theorem nY{α:Type}(xs:List α)(v:α):iK (xs++[v]) (-1)=some v:=by
 have hl:(xs++[v]).length=xs.length+1:=by simp
 have e:DH (xs++[v]).length (-1)=some xs.length:=by
  unfold DH;rw[hl,if_neg (by decide),if_pos (by omega)]
  congr 1
  omega
 unfold iK;rw[e];show(xs++[v])[xs.length]?=some v;simp
noncomputable def M3(b:Expr):Prop:=∀ o i,subscripted b false o i=operate [o,i] (getItem o i)
noncomputable def H8(X:Cx)(r:R2):Prop :=
 ∀(value slice:Expr) (Zr:List (Addr×Obj)) (s:Shared) (σ:St) (H:Hp) (x y:V) (v u:Value) (Q:VK),Zt X Zr σ H s->bH x v->bH y u->r x y H Q ->
  subscripted slice false v u=operate [v,u] (getItem v u)->wpAny (model X.prog X.w) X.A (subscriptTail value slice v u) (EP X Zr σ Q) X.xe s
noncomputable def UY(X:Cx)(id:String)(r:V->List V->Hp->VK->Prop):Prop :=
 ∀(Zr:List (Addr×Obj)) (s:Shared) (σ:St) (H:Hp) (x:V) (xs:List V) (v:Value) (us:List Value) (Q:VK),Zt X Zr σ H s->bH x v->Vals xs us->r x xs H Q ->
  wpAny (model X.prog X.w) X.A (call (.builtin id) (v::us)) (EP X Zr σ Q) X.xe s
section
variable {X:Cx} {a b:Expr} {ta tb:TE} {pos:Pos}
theorem H8.or{r r':R2}(h:H8 X r)(h':H8 X r'):H8 X (fun x y H Q=>r x y H Q\/r' x y H Q):=by
 intro value slice Zr s σ H x y v u Q I rx ry q hs;rcases q with q|q
 ·exact h value slice Zr s σ H x y v u Q I rx ry q hs
 ·exact h' value slice Zr s σ H x y v u Q I rx ry q hs
theorem UY.or{id:String}{r r':V->List V->Hp->VK->Prop}(h:UY X id r)(h':UY X id r'):UY X id (fun x xs H Q=>r x xs H Q\/r' x xs H Q):=by
 intro Zr s σ H x xs v us Q I rx rs q;rcases q with q|q
 ·exact h Zr s σ H x xs v us Q I rx rs q
 ·exact h' Zr s σ H x xs v us Q I rx rs q
theorem aY{r:R2}(hr:H8 X r)(ha:PE X a ta)(hb:PE X b tb)(hs:M3 b):PE X (.Subscript a b pos) (UT r ta tb):=by
 intro Zr s σ H Q I h;exact Subscript_ (Q4 ha hb I h fun v u s2 x y H2 I2 rx ry q=>hr a b Zr s2 σ H2 x y v u Q I2 rx ry q (hs _ _))
noncomputable def Xn(K:q0B):R2:=fun x y H Q=>∃ p xs i v,x=.ref p/\y=.int i/\dC K H p xs/\iK xs i=some v/\Q v H
noncomputable def Xp(K:q0B):R2:=fun x y H Q=>∃ p xs i v,x=.ref p/\y=.int i/\eJ K H p xs/\iK xs i=some v/\Q v H
noncomputable def Xo:R2:=fun x y H Q=>∃ z i c,x=.str z/\y=.int i/\z.length<=sizeLine/\iK z.cps.toList i=some c/\Q (.str ⟨#[c]⟩) H
theorem Hv:H8 X (Xn X.K):=by
 intro value slice Zr s σ H x y v u Q I rx ry h hs;obtain⟨p,xs,i,z,rfl,rfl,hq,he,q⟩:=h;cases rx;obtain⟨t,rfl⟩:=ry;obtain⟨Zv,r,pl,hz⟩:=I.list hq;obtain⟨j,h1,h2,h3,h4,h5⟩:=xK he;obtain⟨w,ew,rw'⟩:=r.get h2;have hl:=r.length;have hn:=line63;have fin:EP X Zr σ Q w s:=⟨z,H,I,rw',q⟩;by_cases h0:0<=i
 ·have hj:i.toNat=j:=by
   rw[seqIndex_of h0 h5] at h1;exact Option.some.inj h1
  exact item_listR pl.isList h0 (by omega) (by rw[hj];simpa using ew) fin hs
 ·have hj:(i+(Zv.toArray.size:Int)).toNat=j:=by
   rw[seqIndex_neg (by omega) h4] at h1;rw[List.size_toArray,<- hl];exact Option.some.inj h1
  exact subscriptTail_builtinR (x:=w) pl.isList.typeIs slot_list_getitem.lookup
   (wpAny_getItem_list_neg (Q:=fun r s'=>r=w/\EP X Zr σ Q r s') pl.isList (by omega) (by rw[List.size_toArray]<;>omega) (by omega) (by rw[hj];simpa using ew) ⟨rfl,fin⟩) hs
theorem TC:H8 X (Xp X.K):=by
 intro value slice Zr s σ H x y v u Q I rx ry h hs;obtain⟨p,xs,i,z,rfl,rfl,hq,he,q⟩:=h;cases rx;obtain⟨t,rfl⟩:=ry;obtain⟨Zv,r,pl,hz⟩:=I.tuple hq;obtain⟨j,h1,h2,h3,h4,h5⟩:=xK he;obtain⟨w,ew,rw'⟩:=r.get h2;have hl:=r.length;have hn:=line63;have fin:EP X Zr σ Q w s:=⟨z,H,I,rw',q⟩;exact subscriptTail_builtinR (x:=w) pl.typeIs slot_tuple_getitem.lookup
  (getItem_tuple (j:=j) (Q:=fun r s'=>r=w/\EP X Zr σ Q r s') pl (by omega) (by omega) (by rw[List.size_toArray,<- hl];exact h1) (by simpa using ew) ⟨rfl,fin⟩) hs
theorem TB:H8 X Xo:=by
 intro value slice Zr s σ H x y v u Q I rx ry h hs;obtain⟨z,i,c,rfl,rfl,hz,he,q⟩:=h;obtain⟨t,rfl⟩:=rx;obtain⟨t',rfl⟩:=ry;obtain⟨j,h1,h2,h3,h4,h5⟩:=xK he;have hl:z.cps.toList.length=z.length:=by simp[Str.length]
 rw[hl] at h1 h4 h5;have hn:=line63;exact tail_any (typeIs_str s z t) slot_str_getitem.lookup (getItem_str (c:=c) (by
  have e1:decide (i < -(2 ^ 63:Int))=false:=decide_eq_false (by omega);have e2:decide (i >= 2 ^ 63)=false:=decide_eq_false (by omega);rw[e1,e2,Bool.or_false]) (by rw[h1];simpa using h2) ⟨.str ⟨#[c]⟩,H,I.tok _,⟨_,rfl⟩,q⟩) hs
noncomputable def Zl(K:q0B):R2:=fun x y H Q=>Xn K x y H Q\/Xp K x y H Q\/Xo x y H Q
theorem Tz:H8 X (Zl X.K):=Hv.or (TC.or TB)
theorem FP(Zv:List Value)(n j:Nat)(u:Value):Obj.mapSeq (·.setIfInBounds j u) {cls:=.type "list",data:=.seq Zv.toArray n}={cls:=.type "list",data:=.seq (Zv.set j u).toArray n}:=by
 simp[Obj.mapSeq]
theorem Zt.lst{Zr:List (Addr×Obj)}{σ:St}{H:Hp}{s:Shared}{p:Addr}{xs:List V}(I:Zt X Zr σ H s)(h:H p=some (.lst xs)) :
    ∃(Zv:List Value) (n:Nat),Vals xs Zv/\s.heap.get? p=some {cls:=.type "list",data:=.seq Zv.toArray n}/\xs.length<=sizeLine:=by
  obtain⟨z,Zv,n,r,e⟩:=I.Zw p _ h;exact⟨Zv,n,r,e,z⟩
theorem Zt.TM{Zr:List (Addr×Obj)}{σ:St}{H:Hp}{s:Shared}{p:Addr}{xs ys:List V}{Zv its':List Value}{n n':Nat}{f:Obj->Obj}(I:Zt X Zr σ H s)(h:H p=some (.lst xs))
    (ho:s.heap.get? p=some {cls:=.type "list",data:=.seq Zv.toArray n}) (hf:f {cls:=.type "list",data:=.seq Zv.toArray n}={cls:=.type "list",data:=.seq its'.toArray n'}) (r:Vals ys its') (hz:ys.length<=sizeLine) (t:Nat) :
    Zt X Zr σ (Zs H p (.lst ys)) {s with heap:=s.heap.update p f,toks:=t}:=by
  have e:(s.heap.update p f).get? p=some {cls:=.type "list",data:=.seq its'.toArray n'}:=by
    rw[Heap.get?_update_self f ho (by rw[hf]<;>rfl),hf]
  refine I.write (x:=p) (e:=p) (by rw[h];trivial) (.inl rfl) (fun b u hb q=>(Heap.get?_update_other _ _ (Ne.symm hb)).trans q) ⟨_,e⟩ ?_;exact⟨hz,its',n',r,e⟩
noncomputable def Xq:V->V->V->Hp->(Hp->Prop)->Prop:=fun o i v H Q=>∃ p xs k j,o=.ref p/\i=.int k/\H p=some (.lst xs)/\DH xs.length k=some j/\Q (Zs H p (.lst (xs.set j v)))
theorem Mr:PSet X Xq:=by
 intro Zr s σ H o i v ov iv u Q I ro ri rv h;obtain⟨p,xs,k,j,rfl,rfl,hp,hj,q⟩:=h;cases ro;obtain⟨t,rfl⟩:=ri;obtain⟨Zv,n,r,ho,hz⟩:=I.lst hp;obtain⟨h1,h2,h3,h4⟩:=Hu hj;have hl:=r.length;have hn:=line63;have I':Zt X Zr σ (Zs H p (.lst (xs.set j v))) {s with heap:=s.heap.update p (Obj.mapSeq (·.setIfInBounds j u))} :=
  I.TM hp ho (FP Zv n j u) (r.set rv j) (by rw[List.length_set];exact hz) s.toks
 by_cases h0:0<=k
 ·have hk:k.toNat=j:=by
   rw[seqIndex_of h0 h4] at h1;exact Option.some.inj h1
  exact PySem.W.ki_setAt ho h0 (by omega) (by rw[List.size_toArray,<- hl];exact h4) (by rw[hk];exact⟨_,I',q⟩)
 ·have hk:(k+(Zv.toArray.size:Int)).toNat=j:=by
   rw[seqIndex_neg (by omega) h3] at h1;rw[List.size_toArray,<- hl];exact Option.some.inj h1
  exact PySem.W.ki_setBack ho (by omega) (by rw[List.size_toArray,<- hl];exact h3) (by omega) (by rw[hk];exact⟨_,I',q⟩)
theorem DB(lo hi:Option Int)(n:Nat):(sliceBounds lo hi none n).1=((HT.fM n 0 lo:Nat):Int)/\(sliceBounds lo hi none n).2.1=((HT.fM n n hi:Nat):Int)/\(sliceBounds lo hi none n).2.2=1:=by
 refine⟨?_,?_,rfl⟩
 ·cases lo with
  | none=>simp[sliceBounds,HT.fM]
  | some i =>
   simp only[sliceBounds,HT.fM,Option.getD_none,show(1:Int) > 0 by decide,if_true];by_cases h:i < 0
   ·simp only[h,if_true]<;>omega
   ·simp only[h,if_false]<;>omega
 ·cases hi with
  | none=>simp[sliceBounds,HT.fM]
  | some i =>
   simp only[sliceBounds,HT.fM,Option.getD_none,show(1:Int) > 0 by decide,if_true];by_cases h:i < 0
   ·simp only[h,if_true]<;>omega
   ·simp only[h,if_false]<;>omega
theorem BP(Zv:List Value)(lo hi:Option Int):slicePick Zv.toArray lo hi none=((Zv.drop (HT.fM Zv.length 0 lo)).take (HT.fM Zv.length Zv.length hi - HT.fM Zv.length 0 lo)).toArray:=by
 obtain⟨h1,h2,h3⟩:=DB lo hi Zv.toArray.size;unfold slicePick;rw[h1,h2,h3];simp only[sliceRange_one,pick_run,List.size_toArray]<;>rfl
noncomputable def Uq(K:q0B):V->Option Int->Option Int->Hp->VK->Prop:=fun x lo hi H Q=>∃ a xs,x=.ref a/\dC K H a xs/\∀ p,H p=none->Q (.ref p) (Zs H p (.lst (iF xs lo hi)))
theorem DA:MV X (Uq X.K):=by
 intro Zr s σ H x v vl vu lo hi sl Q I rx hs pl pu h;obtain⟨a,xs,rfl,hx,q⟩:=h;cases rx;obtain⟨Zv,r,ht,hz⟩:=I.list hx;have hlen:=r.length;refine⟨"list",_,slot_list_getitem.lookup,ht.isList.typeIs,?_⟩;refine wpAny_getItem_list_slice ht.isList hs pl pu .none (by simp) ?_ (by rw[List.size_toArray]<;>omega);rw[BP,<- hlen];refine⟨.ref s.heap.objs.size,_,I.laid (t':=s.toks) (o:=.lst (iF xs lo hi)) (fun b ob q=>Heap.get?_push_of_some _ q) (Nat.le_refl _) ?_,rfl,q _ (I.Zw.fresh (Nat.le_refl _))⟩;exact⟨Nat.le_trans (oC xs lo hi) hz,_,0,(r.drop (HT.fM xs.length 0 lo)).take (HT.fM xs.length xs.length hi - HT.fM xs.length 0 lo),Heap.get?_push_size _ rfl⟩
noncomputable def cT:V->Bool
 | .Zu=>true
 | .bl _=>true
 | .int _=>true
 | .str _=>true
 | _=>false
noncomputable def qR:V->V->Bool
 | .Zu,.Zu=>true
 | .bl a,.bl b=>a==b
 | .bl a,.int b=>(if a then 1 else 0)==b
 | .int a,.bl b=>a==(if b then 1 else 0)
 | .int a,.int b=>a==b
 | .str a,.str b=>a==b
 | _,_=>false
theorem Ll{A:Around}{s:Shared}{y x:V}{u v:Value}(ry:bH y u)(rx:bH x v)(fy:cT y=true)(fx:cT x=true):SeqAt.EqAt A s u v (qR y x):=by
 cases y with
 | Zu =>
  cases ry;cases x with
  | Zu=>cases rx;exact SeqAt.EqAt.same _
  | bl b=>cases rx;exact SeqAt.EqAt.none_bool b
  | int b=>obtain⟨t,rfl⟩:=rx;exact SeqAt.EqAt.none_int b t
  | str b=>obtain⟨t,rfl⟩:=rx;exact SeqAt.EqAt.none_str b t
  | _=>exact absurd (show false=true from fx) Bool.false_ne_true
 | bl a =>
  cases ry;cases x with
  | Zu=>cases rx;exact SeqAt.EqAt.bool_none a
  | bl b=>cases rx;exact SeqAt.EqAt.bool_bool a b
  | int b=>obtain⟨t,rfl⟩:=rx;exact SeqAt.EqAt.bool_int a b t
  | str b=>obtain⟨t,rfl⟩:=rx;exact SeqAt.EqAt.bool_str a b t
  | _=>exact absurd (show false=true from fx) Bool.false_ne_true
 | int a =>
  obtain⟨t',rfl⟩:=ry;cases x with
  | Zu=>cases rx;exact SeqAt.EqAt.int_none a t'
  | bl b=>cases rx;exact SeqAt.EqAt.int_bool a t' b
  | int b=>obtain⟨t,rfl⟩:=rx;exact SeqAt.EqAt.int_int a t' b t
  | str b=>obtain⟨t,rfl⟩:=rx;exact SeqAt.EqAt.int_str a t' b t
  | _=>exact absurd (show false=true from fx) Bool.false_ne_true
 | str a =>
  obtain⟨t',rfl⟩:=ry;cases x with
  | Zu=>cases rx;exact SeqAt.EqAt.str_none a t'
  | bl b=>cases rx;exact SeqAt.EqAt.str_bool a t' b
  | int b=>obtain⟨t,rfl⟩:=rx;exact SeqAt.EqAt.str_int a t' b t
  | str b=>obtain⟨t,rfl⟩:=rx;exact SeqAt.EqAt.str_str a t' b t
  | _=>exact absurd (show false=true from fx) Bool.false_ne_true
 | _=>exact absurd (show false=true from fy) Bool.false_ne_true
noncomputable def Fq(x:V)(u:Value):Bool:=match u with
 | .none=>qR .Zu x
 | .bool b=>qR (.bl b) x
 | .int i _=>qR (.int i) x
 | .str z _=>qR (.str z) x
 | _=>false
theorem Lm{x y:V}{u:Value}(r:bH y u)(f:cT y=true):Fq x u=qR y x:=by
 cases y with
 | Zu=>cases r;rfl
 | bl b=>cases r;rfl
 | int i=>obtain⟨t,rfl⟩:=r;rfl
 | str z=>obtain⟨t,rfl⟩:=r;rfl
 | _=>exact absurd (show false=true from f) Bool.false_ne_true
theorem sJ{x:V}:∀ {xs:List V} {us:List Value},Vals xs us->xs.all cT=true->us.any (Fq x)=xs.any fun y=>qR y x
 | _,_,.nil,_=>rfl
 | y::xs,u::us,.cons r t,f=>by
  rw[List.all_cons,Bool.and_eq_true] at f;rw[List.any_cons,List.any_cons,Lm r f.1,sJ t f.2]
theorem oT{A:Around}{s:Shared}{x:V}{v:Value}(rx:bH x v)(fx:cT x=true):∀ {xs:List V} {us:List Value},Vals xs us->xs.all cT=true->∀ u∈us,SeqAt.EqAt A s u v (Fq x u)
 | _,_,.nil,_=>fun u hu=>by cases hu
 | y::xs,u::us,.cons r t,f=>fun u' hu=>by
  rw[List.all_cons,Bool.and_eq_true] at f;rcases List.mem_cons.mp hu with rfl|hu
  ·rw[Lm r f.1];exact Ll r rx f.1 fx
  ·exact oT rx fx t f.2 u' hu
noncomputable def wZ(x:V)(xs:List V):Bool:=xs.any fun y=>qR y x
noncomputable def Zb(K:q0B)(neg:Bool):R2:=fun x y H Q=>∃ p xs,y=.ref p/\(dC K H p xs\/eJ K H p xs)/\cT x=true/\xs.all cT=true/\Q (.bl (if neg then !wZ x xs else wZ x xs)) H
theorem Jh:lB X (compareOp .In) (Zb X.K false):=by
 intro Zr s σ H x y v u Q I rx ry h;obtain⟨p,xs,rfl,hq,fx,fs,q⟩:=h;cases ry;rcases hq with hq|hq
 ·obtain⟨Zv,r,pl,hz⟩:=I.list hq;refine SeqAt.in_listAt (Fq x) pl.isList (fun w hw=>oT rx fx r fs w (by simpa using hw)) ⟨.bl _,H,I,rfl,?_⟩;rw[show Zv.toArray.any (Fq x)=Zv.any (Fq x) by simp,sJ r fs];exact q
 ·obtain⟨Zv,r,pl,hz⟩:=I.tuple hq;refine SeqAt.in_tupleAt (Fq x) pl (fun w hw=>oT rx fx r fs w (by simpa using hw)) ⟨.bl _,H,I,rfl,?_⟩;rw[show Zv.toArray.any (Fq x)=Zv.any (Fq x) by simp,sJ r fs];exact q
theorem Dm:lB X (compareOp .NotIn) (Zb X.K true):=by
 intro Zr s σ H x y v u Q I rx ry h;obtain⟨p,xs,rfl,hq,fx,fs,q⟩:=h;cases ry;rcases hq with hq|hq
 ·obtain⟨Zv,r,pl,hz⟩:=I.list hq;refine SeqAt.notIn_listAt (Fq x) pl.isList (fun w hw=>oT rx fx r fs w (by simpa using hw)) ⟨.bl _,H,I,rfl,?_⟩;rw[show Zv.toArray.any (Fq x)=Zv.any (Fq x) by simp,sJ r fs];exact q
 ·obtain⟨Zv,r,pl,hz⟩:=I.tuple hq;refine SeqAt.notIn_tupleAt (Fq x) pl (fun w hw=>oT rx fx r fs w (by simpa using hw)) ⟨.bl _,H,I,rfl,?_⟩;rw[show Zv.toArray.any (Fq x)=Zv.any (Fq x) by simp,sJ r fs];exact q
theorem sP:dQ X (.builtin "len") (fun xs H Q=>∃ p ys,xs=[.ref p]/\(dC X.K H p ys\/eJ X.K H p ys)/\Q (.int ys.length) H):=by
 intro Zr s σ H xs us Q I r h;obtain⟨p,ys,rfl,hq,q⟩:=h;obtain⟨u,rfl,rx⟩:=vals1 r;cases rx;have hn:=line63;rcases hq with hq|hq
 ·obtain⟨Zv,r',pl,hz⟩:=I.list hq;have hlen:=r'.length;exact Calls.call_len_list pl.isList (by simp only[List.size_toArray]<;>omega) ⟨.int ys.length,H,I.tok _,⟨s.toks+1,by rw[List.size_toArray,hlen]⟩,q⟩
 ·obtain⟨Zv,r',pl,hz⟩:=I.tuple hq;have hlen:=r'.length;exact len_tuple pl (by simp only[List.size_toArray]<;>omega) ⟨.int ys.length,H,I.tok _,⟨s.toks+1,by rw[List.size_toArray,hlen]⟩,q⟩
theorem dQ.or{f:Value}{r r':List V->Hp->VK->Prop}(h:dQ X f r)(h':dQ X f r'):dQ X f (fun xs H Q=>r xs H Q\/r' xs H Q):=by
 intro Zr s σ H xs us Q I rs q;rcases q with q|q
 ·exact h Zr s σ H xs us Q I rs q
 ·exact h' Zr s σ H xs us Q I rs q
theorem CJ:dQ X (.type "list") (fun xs H Q=>∃ p ys,xs=[.ref p]/\(dC X.K H p ys\/eJ X.K H p ys)/\∀ l,H l=none->Q (.ref l) (Zs H l (.lst ys))):=by
  intro Zr s σ H xs us Q I r h;obtain⟨p,ys,rfl,hq,q⟩:=h;obtain⟨u,rfl,rx⟩:=vals1 r;cases rx;have fin:∀(Zv:List Value),Vals ys Zv->ys.length<=sizeLine->∀(h':Heap) (c':Nat),(∀ b o',s.heap.get? b=some o'->h'.get? b=some o') ->
      h'.get? s.heap.objs.size=some {cls:=.type "list",dict:=none,data:=.seq Zv.toArray c',slots:=#[]}->EP X Zr σ Q (.ref s.heap.objs.size) {s with heap:=h'}:=fun Zv r' hz h' c' kp e =>
    ⟨.ref s.heap.objs.size,_,I.laid (t':=s.toks) kp (Nat.le_refl _) (show dH X.prog X.w _ h' _ (.lst ys) from ⟨hz,Zv,c',r',e⟩),rfl,q _ (I.Zw.fresh (Nat.le_refl _))⟩
  rcases hq with hq|hq
  · obtain⟨Zv,r',pl,hz⟩:=I.list hq;have hlen:=r'.length;obtain⟨o,ho,hc,n,hd⟩:=pl.isList;exact call_list_seq p (.inl rfl) ho hc hd (fun h' c' kp e=>fin Zv r' hz h' c' kp e) (by simp only[List.size_toArray]<;>omega)
  · obtain⟨Zv,r',pl,hz⟩:=I.tuple hq;have hlen:=r'.length;obtain⟨o,ho,hc,n,hd⟩:=pl;exact call_list_seq p (.inr rfl) ho hc hd (fun h' c' kp e=>fin Zv r' hz h' c' kp e) (by simp only[List.size_toArray]<;>omega)
theorem Br:dQ X (.type "tuple") (fun xs H Q=>∃ p ys,xs=[.ref p]/\((dC X.K H p ys/\∀ l,H l=none->Q (.ref l) (Zs H l (.tup ys)))\/(eJ X.K H p ys/\Q (.ref p) H))):=by
 intro Zr s σ H xs us Q I r h;obtain⟨p,ys,rfl,h⟩:=h;obtain⟨u,rfl,rx⟩:=vals1 r;cases rx;rcases h with⟨hq,q⟩|⟨hq,q⟩
 ·obtain⟨Zv,r',pl,hz⟩:=I.list hq;have hlen:=r'.length;refine call_tuple_list pl.isList (fun h' kp=>?_) (by simp only[List.size_toArray]<;>omega);have I1:Zt X Zr σ H {s with heap:=h'}:=I.kept (t':=s.toks) kp;have I2:Zt X Zr σ (Zs H h'.objs.size (.tup ys)) {s with heap:=h'.push {cls:=.type "tuple",data:=.seq Zv.toArray}} :=
   I1.laid (t':=s.toks) (fun b o e=>Heap.get?_push_of_some _ e) (Nat.le_refl _) (show dH X.prog X.w _ _ _ (.tup ys) from ⟨hz,Zv,r',IsTup.new _ _⟩)
  exact⟨.ref h'.objs.size,_,I2,rfl,q _ (I1.Zw.fresh (Nat.le_refl _))⟩
 ·obtain⟨Zv,r',pl,hz⟩:=I.tuple hq;exact call_tuple_same pl ⟨.ref p,H,I,rfl,q⟩
noncomputable def Yc(K:q0B)(T:String)(x:V)(H:Hp):Prop:=match x with
  | .str _=>T = "str"
  | .int _=>T = "int"
  | .ref p=>(T = "list"/\∃ xs,dC K H p xs)\/(T = "tuple"/\∃ o,K.lookup p=some o/\o.cls=.type "tuple"/\o.dict=none) \/
      (T = "dict"/\((∃ kvs,H p=some (.dK kvs))\/∃ kvs,H p=some (.dT kvs)))\/(T = "set"/\∃ S n,H p=some (.set S n))
  | _=>False
theorem GI{Zr:List (Addr×Obj)}{σ:St}{H:Hp}{s:Shared}{T:String}{x:V}{v:Value}(I:Zt X Zr σ H s)(r:bH x v)(ty:Yc X.K T x H) :
    s.TypeIs v T/\∀ a,v=.ref a->∃ ob,s.heap.get? a=some ob/\ob.dict=none:=by
  cases x with
  | str z =>
    obtain⟨t,rfl⟩:=r;cases (show T = "str" from ty);exact⟨typeIs_str s z t,fun _ e=>nomatch e⟩
  | int i =>
    obtain⟨t,rfl⟩:=r;cases (show T = "int" from ty);exact⟨typeIs_int s i t,fun _ e=>nomatch e⟩
  | ref p =>
    cases r;rcases ty with⟨rfl,xs,hq⟩|⟨rfl,o,hk,hc,hd⟩|⟨rfl,hk⟩|⟨rfl,S,n,hk⟩
    · obtain⟨Zv,_,pl,_⟩:=I.list hq;refine⟨pl.isList.typeIs,fun a e=>?_⟩;cases e;obtain⟨o,n,e,c,hd,_⟩:=pl;exact⟨o,e,hd⟩
    · refine⟨⟨o,I.kIn p o hk,hc⟩,fun a e=>?_⟩;cases e;exact⟨o,I.kIn _ o hk,hd⟩
    · have z:∃ o,s.heap.get? p=some o/\o.ExactDict:=by
        rcases hk with⟨kvs,hk⟩|⟨kvs,hk⟩
        · obtain⟨_,_,_,_,o,_,_,e,ex,_⟩:=I.Zw p _ hk;exact⟨o,e,ex⟩
        · obtain⟨_,_,_,_,o,_,_,e,ex,_⟩:=I.Zw p _ hk;exact⟨o,e,ex⟩
      obtain⟨o,e,ex⟩:=z;refine⟨⟨o,e,ex.1⟩,fun a e2=>?_⟩;cases e2;exact⟨o,e,ex.2.1⟩
    · obtain⟨o,_,_,_,e,ex,_⟩:=I.Zw p _ hk;refine⟨⟨o,e,ex.1⟩,fun a e2=>?_⟩;cases e2;exact⟨o,e,ex.2.1⟩
  | _=>exact False.elim ty
noncomputable def Zm(K:q0B)(T:String)(r:V->List V->Hp->VK->Prop)(to:TE)(t:TA):TE:=fun σ H Q=>to σ H fun x H1=>Yc K T x H1/\t σ H1 fun xs H2=>r x xs H2 Q
variable {o e:Expr} {es:List Expr} {to:TE} {t:TA} {name:Str} {apos Zz:Pos} {T id:String} {r:V->List V->Hp->VK->Prop}
/- xs.append(e),list.index on a module's tuple .. are UY facts of 06m -/
end
noncomputable def QY(X:Cx)(id:String)(r:V->List V->Hp->VK->Prop):Prop :=
 ∀(Zr:List (Addr×Obj)) (s:Shared) (σ:St) (H:Hp) (x:V) (xs:List V) (v:Value) (us:List Value) (Q:VK),Zt X Zr σ H s->bH x v->Vals xs us->r x xs H Q ->
  wpAny (model X.prog X.w) X.A (call (.builtin id) (v::us)) (EP X Zr σ Q) X.xe s
theorem Vals.one{x:V}{us:List Value}(h:Vals [x] us):∃ u,us=[u]/\bH x u:=by
 cases h with
 | cons r t=>cases t;exact⟨_,rfl,r⟩
theorem Vals.two:∀ {x y:V} {us:List Value},Vals [x,y] us->∃ u v,us=[u,v]/\bH x u/\bH y v
 | _,_,_,.cons r (.cons q .nil)=>⟨_,_,rfl,r,q⟩
theorem Vals.zero:∀ {us:List Value},Vals [] us->us=[]
 | _,.nil=>rfl
theorem Vals.dropLast{xs:List V}{us:List Value}(h:Vals xs us):Vals xs.dropLast us.dropLast:=by
 induction h with
 | nil=>exact .nil
 | cons r t ih =>
  cases t with
  | nil=>exact .nil
  | cons q t'=>exact .cons r ih
theorem Vals.eraseIdx:∀ {xs:List V} {us:List Value} (i:Nat),Vals xs us->Vals (xs.eraseIdx i) (us.eraseIdx i)
 | _,_,_,.nil=>.nil
 | _,_,0,.cons _ t=>t
 | _,_,i+1,.cons r t=>.cons r (Vals.eraseIdx i t)
theorem Vals.reverse{xs:List V}{us:List Value}(h:Vals xs us):Vals xs.reverse us.reverse:=by
 induction h with
 | nil=>exact .nil
 | cons r t ih=>rw[List.reverse_cons,List.reverse_cons];exact Vals.append ih (.cons r .nil)
theorem Fs{α:Type}(l:List α):l.eraseIdx (l.length - 1)=l.dropLast:=by
 induction l with
 | nil=>rfl
 | cons a r ih =>
  cases r with
  | nil=>rfl
  | cons b r =>
   have e:(a::b::r).length - 1=((b::r).length - 1)+1:=by
    have h1:(a::b::r).length=r.length+2:=rfl;have h2:(b::r).length=r.length+1:=rfl;omega
   rw[e,List.eraseIdx_cons_succ,ih]
   all_goals rfl
theorem B9{α:Type}:∀(l:List α) (i:Nat),(l.eraseIdx i).length<=l.length
 | [],_=>Nat.le_refl _
 | _::_,0=>Nat.le_succ _
 | _::r,i+1=>Nat.succ_le_succ (B9 r i)
section
variable {X:Cx} {Zr:List (Addr×Obj)} {σ:St} {H:Hp} {s:Shared} {l b:Addr} {xs ys zs:List V}
theorem Zt.BF{Zv its':List Value}{n:Nat}{f:Array Value->Array Value}{t':Nat}(I:Zt X Zr σ H s)(hH:H l=some (.lst xs))
    (e:s.heap.get? l=some {cls:=.type "list",data:=.seq Zv.toArray n}) (hf:f Zv.toArray=its'.toArray) (hv:Vals ys its') (hz:ys.length<=sizeLine) :
    Zt X Zr σ (Zs H l (.lst ys)) {s with heap:=s.heap.update l (Obj.mapSeq f),toks:=t'}:=by
  have q:=PySem.IsL.update e f;rw[hf] at q;refine I.write (x:=l) (e:=l) (by rw[hH];exact trivial) (.inl rfl) (fun b' u hb hu=>(Heap.get?_update_other s.heap (Obj.mapSeq f) (Ne.symm hb)).trans hu) ⟨_,q⟩ ?_;exact⟨hz,its',_,hv,q⟩
theorem Zt.OL{Zv:List Value}{t':Nat}(I:Zt X Zr σ H s)(hv:Vals ys Zv)(hz:ys.length<=sizeLine) :
    Zt X Zr σ (Zs H s.heap.objs.size (.lst ys)) {s with heap:=s.heap.push {cls:=.type "list",data:=.seq Zv.toArray},toks:=t'} :=
  I.laid (fun _ _ q=>Heap.get?_push_of_some _ q) (Nat.le_refl _) ⟨hz,Zv,0,hv,Heap.get?_push_size _ rfl⟩
theorem Zt.fresh(I:Zt X Zr σ H s):H s.heap.objs.size=none:=I.Zw.fresh (Nat.le_refl _)
theorem Zt.FK(I:Zt X Zr σ H s)(hH:H l=some (.lst xs)):xs.length<=sizeLine/\∃(Zv:List Value) (n:Nat),Vals xs Zv/\xs.length=Zv.length/\s.heap.get? l=some {cls:=.type "list",data:=.seq Zv.toArray n}:=by
 obtain⟨z,Zv,n,r,e⟩:=I.Zw l _ hH;exact⟨z,Zv,n,r,r.length,e⟩
theorem LX{n:Nat}(h:n<=sizeLine):Builtin.List.listTooLong n=false:=by
 unfold Builtin.List.listTooLong;exact decide_eq_false (by omega)
end
section
variable {X:Cx}
noncomputable def O9:V->List V->Hp->VK->Prop:=fun x vs H Q=>∃ l xs y,x=.ref l/\vs=[y]/\H l=some (.lst xs)/\xs.length < sizeLine/\Q .Zu (Zs H l (.lst (xs++[y])))
theorem IV:QY X "list.append" O9:=by
 intro Zr s σ H x vs v us Q I rx rv h;obtain⟨l,xs,y,rfl,rfl,hH,hz,q⟩:=h;cases rx;obtain⟨u,rfl,ru⟩:=rv.one;obtain⟨z,Zv,n,r,hl,e⟩:=I.FK hH;refine call_meets F.slot_list_append ⟨_,e,rfl⟩ F.entry_list_append (F.args_list_append_2 _ _) (PySem.list_append l Zv.toArray n u (by rw[List.size_toArray];omega)) ⟨e,?_⟩;refine⟨.Zu,_,I.BF (its':=Zv++[u]) hH e (by simp) (r.append (.cons ru .nil)) ?_,rfl,q⟩;rw[List.length_append,List.length_singleton];omega
noncomputable def Pa:V->List V->Hp->VK->Prop:=fun x vs H Q=>∃ l b xs zs,x=.ref l/\vs=[.ref b]/\H l=some (.lst xs)/\H b=some (.lst zs)/\xs.length+zs.length<=sizeLine/\Q .Zu (Zs H l (.lst (xs++zs)))
theorem IW:QY X "list.extend" Pa:=by
 intro Zr s σ H x vs v us Q I rx rv h;obtain⟨l,b,xs,zs,rfl,rfl,hH,hB,hz,q⟩:=h;cases rx;obtain⟨u,rfl,ru⟩:=rv.one;cases ru;obtain⟨z,Zv,n,r,hl,e⟩:=I.FK hH;obtain⟨z2,aaB,n2,r2,hl2,e2⟩:=I.FK hB;have hsz:Zv.toArray.size+aaB.toArray.size<=sizeLine:=by rw[List.size_toArray,List.size_toArray];omega
 have ab9:¬ (!Zv.toArray.isEmpty&&Builtin.List.listTooLong (Zv.toArray.size+aaB.toArray.size))=true:=by
  rw[LX hsz,Bool.and_false];exact Bool.false_ne_true
 refine call_meets F.slot_list_extend ⟨_,e,rfl⟩ F.entry_list_extend (F.args_list_extend_2 _ _)
  (AutoSeq1.list_extend_list_list_0 l Zv.toArray n b aaB.toArray n2 ab9 (by rw[List.size_toArray];omega) (by omega)) ⟨e,e2,?_⟩
 refine⟨.Zu,_,I.BF (its':=Zv++aaB) hH e (by simp) (r.append r2) ?_,rfl,q⟩;rw[List.length_append];omega
noncomputable def YZ:V->List V->Hp->VK->Prop:=fun x vs H Q=>∃ l xs y,x=.ref l/\vs=[]/\H l=some (.lst xs)/\xs[xs.length - 1]?=some y/\Q y (Zs H l (.lst xs.dropLast))
theorem TU:QY X "list.pop" YZ:=by
 intro Zr s σ H x vs v us Q I rx rv h;obtain⟨l,xs,y,rfl,rfl,hH,hy,q⟩:=h;cases rx;have hus:=rv.zero;subst hus;obtain⟨z,Zv,n,r,hl,e⟩:=I.FK hH;obtain⟨u,hu,ru⟩:=r.get hy;have hy':Zv.toArray[Zv.toArray.size - 1]?=some u:=by
  show Zv.toArray[Zv.length - 1]?=some u;rw[<- Array.getElem?_toList,<- hl];exact hu
 refine call_meets F.slot_list_pop ⟨_,e,rfl⟩ F.entry_list_pop (F.args_list_pop_1 _) (MeetsSeq.list_pop_last l Zv.toArray n u hy' (by rw[List.size_toArray];omega)) ⟨e,?_⟩;refine⟨y,_,I.BF (its':=Zv.dropLast) hH e ?_ r.dropLast ?_,ru,q⟩
 ·show Zv.toArray.eraseIdxIfInBounds (Zv.toArray.size - 1)=Zv.dropLast.toArray;rw[List.size_toArray,List.eraseIdxIfInBounds_toArray,Fs]
 ·rw[List.length_dropLast];omega
noncomputable def Up:V->List V->Hp->VK->Prop:=fun x vs H Q=>∃ l xs i k y,x=.ref l/\vs=[.int i]/\H l=some (.lst xs)/\-(2 ^ 63)<=i/\i < 2 ^ 63/\seqIndex? i xs.length=some k/\xs[k]?=some y/\Q y (Zs H l (.lst (xs.eraseIdx k)))
theorem LU:QY X "list.pop" Up:=by
 intro Zr s σ H x vs v us Q I rx rv h;obtain⟨l,xs,i,k,y,rfl,rfl,hH,h1,h2,hk,hy,q⟩:=h;cases rx;obtain⟨u,rfl,ru⟩:=rv.one;obtain⟨t,rfl⟩:=ru;obtain⟨z,Zv,n,r,hl,e⟩:=I.FK hH;obtain⟨w,hw,rw'⟩:=r.get hy;refine call_meets F.slot_list_pop ⟨_,e,rfl⟩ F.entry_list_pop (F.args_list_pop_2 _ _)
  (MeetsSeq.list_pop_at l Zv.toArray n i t k w (fitsIndex_both h1 h2) (by rw[List.size_toArray,<- hl];exact hk) (by rw[<- Array.getElem?_toList];exact hw) (by rw[List.size_toArray];omega)) ⟨e,?_⟩
 refine⟨y,_,I.BF (its':=Zv.eraseIdx k) hH e ?_ (r.eraseIdx k) ?_,rw',q⟩
 ·show Zv.toArray.eraseIdxIfInBounds k=(Zv.eraseIdx k).toArray;rw[List.eraseIdxIfInBounds_toArray]
 ·have:=B9 xs k;omega
noncomputable def YY:R2:=fun x y H Q=>∃ l b xs zs,x=.ref l/\y=.ref b/\H l=some (.lst xs)/\H b=some (.lst zs)/\xs.length+zs.length<=sizeLine/\∀ p,H p=none->Q (.ref p) (Zs H p (.lst (xs++zs)))
theorem Ua:lB X (binaryOp .Add) YY:=by
 intro Zr s σ H x y v u Q I rx ry h;obtain⟨l,b,xs,zs,rfl,rfl,hH,hB,hz,q⟩:=h;cases rx;cases ry;obtain⟨z,Zv,n,r,hl,e⟩:=I.FK hH;obtain⟨z2,aaB,n2,r2,hl2,e2⟩:=I.FK hB;refine PySem.P.add_list e e2 ?_ (by rw[List.size_toArray,List.size_toArray];omega);have ea:Zv.toArray++aaB.toArray=(Zv++aaB).toArray:=by simp
 rw[ea];exact⟨.ref _,_,I.OL (t':=s.toks) (r.append r2) (by rw[List.length_append];omega),rfl,q _ I.fresh⟩
end
section
variable {κ:Type} [DecidableEq κ]
noncomputable def bT(kvs:List (κ×V))(k:κ):Option V:=(kvs.find? fun kv=>decide (kv.1=k)).map (·.2)
noncomputable def eM(kvs:List (κ×V))(k:κ)(v:V):List (κ×V) :=
 if (kvs.any fun kv=>decide (kv.1=k))=true then kvs.map (fun kv=>if kv.1=k then (kv.1,v) else kv) else kvs++[(k,v)]
noncomputable def qP(kvs:List (κ×V))(k:κ):List (κ×V):=kvs.filter fun kv=>decide (kv.1≠k)
theorem E3{k:κ}:bT ([]:List (κ×V)) k=none:=rfl
theorem cP{p:κ×V}{r:List (κ×V)}{k:κ}(e:p.1=k):bT (p::r) k=some p.2:=by simp[bT,List.find?_cons,e]
theorem cD{p:κ×V}{r:List (κ×V)}{k:κ}(e:¬ p.1=k):bT (p::r) k=bT r k:=by simp[bT,List.find?_cons,e]
theorem pO(k:κ):∀ kvs:List (κ×V),(kvs.any fun kv=>decide (kv.1=k))=(bT kvs k).isSome
 | []=>rfl
 | p::r=>by
  rw[List.any_cons];by_cases e:p.1=k
  ·simp only[cP e,decide_eq_true e,Bool.true_or,Option.isSome_some]
  ·rw[cD e,decide_eq_false e,Bool.false_or];exact pO k r
theorem E2(k j:κ)(y:V):∀ kvs:List (κ×V),bT (kvs.map fun kv=>if kv.1=k then (kv.1,y) else kv) j=(bT kvs j).map fun x=>if j=k then y else x
 | []=>rfl
 | p::r=>by
  have ih:=E2 k j y r;rw[List.map_cons];by_cases h:p.1=k
  ·rw[if_pos h];by_cases e:p.1=j
   ·rw[cP (p:=(p.1,y)) e,cP e,Option.map_some,if_pos (e.symm.trans h)]
   ·rw[cD (p:=(p.1,y)) e,cD e,ih]
  ·rw[if_neg h];by_cases e:p.1=j
   ·rw[cP (p:=p) e,cP e,Option.map_some,if_neg (fun z=>h (e.trans z))]
   ·rw[cD (p:=p) e,cD e,ih]
theorem Cq(k j:κ)(y:V):∀ kvs:List (κ×V),bT kvs k=none->bT (kvs++[(k,y)]) j=if j=k then some y else bT kvs j
 | [],_=>by
  by_cases e:k=j
  ·rw[if_pos e.symm];exact cP (p:=(k,y)) e
  ·rw[if_neg (fun z=>e z.symm)];exact cD (p:=(k,y)) e
 | p::r,hn=>by
  rw[List.cons_append];have hk:¬ p.1=k:=fun z=>by rw[cP z] at hn;cases hn
  rw[cD hk] at hn;have ih:=Cq k j y r hn;by_cases e:p.1=j
  ·rw[cP e,cP e,if_neg (fun z=>hk (e.trans z))]
  ·rw[cD e,cD e,ih]
theorem Bl(kvs:List (κ×V))(k j:κ)(y:V):bT (eM kvs k y) j=if j=k then some y else bT kvs j:=by
 unfold eM;by_cases a:(kvs.any fun kv=>decide (kv.1=k))=true
 ·rw[if_pos a,E2];rw[pO] at a;by_cases e:j=k
  ·obtain⟨x,hx⟩:=Option.isSome_iff_exists.mp a;rw[if_pos e,e,hx,Option.map_some,if_pos rfl]
  ·rw[if_neg e];cases bT kvs j with
   | none=>rfl
   | some x=>rw[Option.map_some,if_neg e]
 ·rw[if_neg a];refine Cq k j y kvs ?_;rw[pO] at a;cases q:bT kvs k with
  | none=>rfl
  | some x=>rw[q] at a;exact(a rfl).elim
theorem oR(kvs:List (κ×V))(k:κ)(v:V):(eM kvs k v).length<=kvs.length+1:=by
 unfold eM;split
 ·rw[List.length_map];omega
 ·rw[List.length_append,List.length_cons,List.length_nil];omega
theorem AJ{kvs:List (κ×V)}{k:κ}(v:V)(h:bT kvs k=none):eM kvs k v=kvs++[(k,v)]:=by
 unfold eM;rw[pO,h];exact if_neg (by decide)
theorem l9.uQ{o:Option V}{u:Option Value}(r:l9 o u):o.isSome=u.isSome:=by
 cases o with
 | none=>cases u with
  | none=>rfl
  | some _=>exact(show False from r).elim
 | some _=>cases u with
  | none=>exact(show False from r).elim
  | some _=>rfl
theorem l9.getD{o:Option V}{u:Option Value}{d:V}{d':Value}(r:l9 o u)(rd:bH d d'):bH (o.getD d) (u.getD d'):=by
 cases o with
 | none=>cases u with
  | none=>exact rd
  | some _=>exact(show False from r).elim
 | some _=>cases u with
  | none=>exact(show False from r).elim
  | some _=>exact r
theorem KV.val{kvs:List (κ×V)}{vs:List (κ×Value)}(r:KV kvs vs)(k:κ):l9 (bT kvs k) (valueAt vs k):=by
 unfold KV at r
 induction r with
 | nil=>exact True.intro
 | @cons p q ps qs h t ih =>
  obtain⟨h1,h2⟩:=h;by_cases e:p.1=k
  ·have e':q.1=k:=h1.symm.trans e;have b:valueAt (q::qs) k=some q.2:=by simp[valueAt,List.find?_cons,e']
   rw[cP e,b];exact h2
  ·have e':¬ q.1=k:=fun z=>e (h1.trans z);have b:valueAt (q::qs) k=valueAt qs k:=by simp[valueAt,List.find?_cons,e']
   rw[cD e,b];exact ih
theorem KV.any{kvs:List (κ×V)}{vs:List (κ×Value)}(r:KV kvs vs)(k:κ):(kvs.any fun kv=>decide (kv.1=k))=vs.any fun kv=>decide (kv.1=k):=by
 unfold KV at r
 induction r with
 | nil=>rfl
 | cons h t ih=>rw[List.any_cons,List.any_cons,ih,h.1]
theorem KV.Ur{kvs:List (κ×V)}{vs:List (κ×Value)}(r:KV kvs vs)(k:κ){y:V}{u:Value}(ry:bH y u) :
    KV (kvs.map fun kv=>if kv.1=k then (kv.1,y) else kv) (vs.map fun kv=>if kv.1=k then (kv.1,u) else kv):=by
  unfold KV at r ⊢
  induction r with
  | nil=>exact .nil
  | @cons p q ps qs h t ih =>
    rw[List.map_cons,List.map_cons];refine .cons ?_ ih;obtain⟨h1,h2⟩:=h;by_cases e:p.1=k
    · rw[if_pos e,if_pos (h1.symm.trans e)];exact⟨h1,ry⟩
    · rw[if_neg e,if_neg (fun z=>e (h1.trans z))];exact⟨h1,h2⟩
theorem KV.put{kvs:List (κ×V)}{vs:List (κ×Value)}(r:KV kvs vs)(k:κ){y:V}{u:Value}(ry:bH y u):KV (eM kvs k y) (stored vs k u):=by
 unfold eM stored;rw[r.any k];by_cases e:(vs.any fun kv=>decide (kv.1=k))=true
 ·rw[if_pos e,if_pos e];exact r.Ur k ry
 ·rw[if_neg e,if_neg e];exact Paired.snoc r ⟨rfl,ry⟩
theorem KV.drop{kvs:List (κ×V)}{vs:List (κ×Value)}(r:KV kvs vs)(k:κ):KV (qP kvs k) (without vs k):=by
 unfold KV at r ⊢;unfold qP without
 induction r with
 | nil=>exact .nil
 | @cons p q ps qs h t ih =>
  obtain⟨h1,h2⟩:=h;rw[List.filter_cons,List.filter_cons];by_cases e:p.1=k
  ·have a:¬ decide (p.1≠k)=true:=by simp[e]
   have b:¬ decide (q.1≠k)=true:=by simp[h1.symm.trans e]
   rw[if_neg a,if_neg b];exact ih
  ·have e':¬ q.1=k:=fun z=>e (h1.trans z);have a:decide (p.1≠k)=true:=by simp[e]
   have b:decide (q.1≠k)=true:=by simp[e']
   rw[if_pos a,if_pos b];exact .cons ⟨h1,h2⟩ ih
theorem KV.keys{kvs:List (κ×V)}{vs:List (κ×Value)}(r:KV kvs vs):kvs.map (·.1)=vs.map (·.1):=by
 unfold KV at r
 induction r with
 | nil=>rfl
 | cons h t ih=>rw[List.map_cons,List.map_cons,ih,h.1]
theorem KV.length{kvs:List (κ×V)}{vs:List (κ×Value)}(r:KV kvs vs):kvs.length=vs.length:=Paired.length r
theorem Ko(kvs:List (κ×V))(k:κ):(qP kvs k).length<=kvs.length:=List.length_filter_le _ _
end
theorem wD{P:Program}{w:World}{k:Key}{u:Value}(r:bH (kV k) u):(bV P w).is k u=true:=by
 cases k with
 | inl i=>obtain⟨t,e⟩:=(show ∃ t,u=Value.int i t from r);subst e;exact Es P w i t
 | inr x=>obtain⟨t,e⟩:=(show ∃ t,u=Value.str x t from r);subst e;exact wI P w x t
 | no=>cases (show u=Value.none from r);rfl
theorem B5{P:Program}{w:World}:∀ {ks:List Key} {us:List Value},Vals (ks.map kV) us->ItemsAre (bV P w) ks us
 | [],_,r=>by rw[List.map_nil] at r;cases r;exact .nil
 | k::ks,_,r=>by
  rw[List.map_cons] at r;cases r with
  | cons h t=>exact .cons (wD h) (B5 t)
noncomputable abbrev KT(H:Hp):List (List Key×V)->List (List Key×Addr×Value)->Prop:=Paired fun p q=>p.1=q.1/\H q.2.1=some (.tup (p.1.map kV))/\bH p.2 q.2.2
theorem KT.val{H:Hp}{kvs:List (List Key×V)}{xs:List (List Key×Addr×Value)}(r:KT H kvs xs)(k:List Key):l9 (bT kvs k) ((atKey xs k).map (·.2)):=by
 induction r with
 | nil=>exact True.intro
 | @cons p q ps qs h t ih =>
  obtain⟨h1,_,h2⟩:=h;by_cases e:p.1=k
  ·have e':q.1=k:=h1.symm.trans e;have b:atKey (q::qs) k=some q.2:=by simp[atKey,List.find?_cons,e']
   rw[cP e,b];exact h2
  ·have e':¬ q.1=k:=fun z=>e (h1.trans z);have b:atKey (q::qs) k=atKey qs k:=by simp[atKey,List.find?_cons,e']
   rw[cD e,b];exact ih
theorem KT.Ur{H:Hp}{kvs:List (List Key×V)}{xs:List (List Key×Addr×Value)}(r:KT H kvs xs)(k:List Key){y:V}{u:Value}(ry:bH y u) :
    KT H (kvs.map fun kv=>if kv.1=k then (kv.1,y) else kv) (xs.map (putAt k u)):=by
  induction r with
  | nil=>exact .nil
  | @cons p q ps qs h t ih =>
    rw[List.map_cons,List.map_cons];refine .cons ?_ ih;obtain⟨h1,h2,h3⟩:=h;unfold putAt;by_cases e:p.1=k
    · rw[if_pos e,if_pos (h1.symm.trans e)];exact⟨h1,h2,ry⟩
    · rw[if_neg e,if_neg (fun z=>e (h1.trans z))];exact⟨h1,h2,h3⟩
theorem KT.put{H:Hp}{kvs:List (List Key×V)}{xs:List (List Key×Addr×Value)}(r:KT H kvs xs)(k:List Key){b:Addr}{y:V}{u:Value}(hb:H b=some (.tup (k.map kV)))(ry:bH y u) :
    KT H (eM kvs k y) (storedH xs k b u):=by
  have e:(kvs.any fun kv=>decide (kv.1=k))=(atKey xs k).isSome:=by
    rw[pO,(r.val k).uQ,Option.isSome_map]
  unfold eM storedH;rw[e];by_cases q:(atKey xs k).isSome=true
  · rw[if_pos q,if_pos q];exact r.Ur k ry
  · rw[if_neg q,if_neg q];exact Paired.snoc r ⟨rfl,hb,ry⟩
theorem KT.keeps{H H':Hp}{kvs:List (List Key×V)}{xs:List (List Key×Addr×Value)}(r:KT H kvs xs)(ht:∀ b ys,H b=some (.tup ys)->H' b=some (.tup ys)):KT H' kvs xs :=
 Paired.TQ r fun _ _ z=>⟨z.1,ht _ _ z.2.1,z.2.2⟩
section
variable {P:Program} {w:World} {H:Hp} {h:Heap} {a:Addr}
theorem Qm{u:HO}(ok:HOk P w H h)(e:Rd H a u):dH P w H h a u:=e.ok ok
theorem zA{kvs:List (Key×V)}(ok:HOk P w H h)(e:Rd H a (.dK kvs)):kvs.length<=sizeLine/\(a==sysModules)=false/\∃ vs,KV kvs vs/\h.DictOf (bV P w) a vs :=
 show dH P w H h a (.dK kvs) from Qm ok e
theorem sS{kvs:List (Key×V)}(ok:HOk P w H h)(e:H a=some (.dK kvs)):kvs.length<=sizeLine/\(a==sysModules)=false/\∃ vs,KV kvs vs/\h.DictOf (bV P w) a vs:=zA ok (.inl e)
theorem uR{ks:List Key}(ok:HOk P w H h)(e:H a=some (.tup (ks.map kV))):(tupleKind (bV P w)).is h ks a:=by
 obtain⟨_,Zv,r,o,h1,h2,n,h3⟩:=(show dH P w H h a (.tup (ks.map kV)) from ok a _ e);exact⟨o,Zv.toArray,n,h1,h2,h3,by simpa using B5 r⟩
theorem zD{kvs:List (List Key×V)}(ok:HOk P w H h)(e:Rd H a (.dT kvs)):kvs.length<=sizeLine/\(a==sysModules)=false /\
    ∃ xs,KT H kvs xs/\h.DictOfH (tupleKind (bV P w)) a xs:=by
  obtain⟨z,y,xs,r,o,es,ep,h1,h2,h3,h4,h5⟩:=(show dH P w H h a (.dT kvs) from Qm ok e);refine⟨z,y,xs,r,o,es,ep,h1,h2,h3,h4,fun x hx=>?_,h5⟩;have all:∀ {l:List (List Key×V)} {m:List (List Key×Addr×Value)},KT H l m->∀ x∈m,(tupleKind (bV P w)).is h x.1 x.2.1:=by
    intro l m q
    induction q with
    | nil=>intro x hx;exact nomatch hx
    | @cons p q ps qs hq t ih =>
      intro x hx;rcases List.mem_cons.mp hx with e|hx
      · subst e;exact uR ok (by rw[<- hq.1];exact hq.2.1)
      · exact ih x hx
  exact all r x hx
theorem Vx{kvs:List (List Key×V)}(ok:HOk P w H h)(e:H a=some (.dT kvs)):kvs.length<=sizeLine/\(a==sysModules)=false /\
    ∃ xs,KT H kvs xs/\h.DictOfH (tupleKind (bV P w)) a xs:=zD ok (.inl e)
end
noncomputable def ZK(H:Hp)(a:Addr)(y:V)(r:Option V):Prop :=
 (∃ kvs k,Rd H a (.dK kvs)/\y=kV k/\r=bT kvs k)\/∃ kvs k b,Rd H a (.dT kvs)/\y=.ref b/\H b=some (.tup (k.map kV))/\r=bT kvs k
noncomputable def aaC(H:Hp)(a:Addr)(y v:V)(H':Hp):Prop :=
 (∃ kvs k,H a=some (.dK kvs)/\y=kV k/\kvs.length < sizeLine/\H'=Zs H a (.dK (eM kvs k v))) \/
 ∃ kvs k b,H a=some (.dT kvs)/\y=.ref b/\H b=some (.tup (k.map kV))/\kvs.length < sizeLine/\H'=Zs H a (.dT (eM kvs k v))
theorem ZK.k{H:Hp}{a:Addr}{kvs:List (Key×V)}{k:Key}(e:H a=some (.dK kvs)):ZK H a (kV k) (bT kvs k):=.inl ⟨kvs,k,.inl e,rfl,rfl⟩
theorem ZK.t{H:Hp}{a b:Addr}{kvs:List (List Key×V)}{k:List Key}(e:H a=some (.dT kvs))(eb:H b=some (.tup (k.map kV))):ZK H a (.ref b) (bT kvs k):=.inr ⟨kvs,k,b,.inl e,rfl,eb,rfl⟩
theorem aaC.k{H:Hp}{a:Addr}{kvs:List (Key×V)}{k:Key}{v:V}(e:H a=some (.dK kvs))(hl:kvs.length < sizeLine):aaC H a (kV k) v (Zs H a (.dK (eM kvs k v))):=.inl ⟨kvs,k,e,rfl,hl,rfl⟩
theorem aaC.t{H:Hp}{a b:Addr}{kvs:List (List Key×V)}{k:List Key}{v:V}(e:H a=some (.dT kvs))(eb:H b=some (.tup (k.map kV)))(hl:kvs.length < sizeLine) :
    aaC H a (.ref b) v (Zs H a (.dT (eM kvs k v))):=.inr ⟨kvs,k,b,e,rfl,eb,hl,rfl⟩
section
variable {X:Cx} {Zr:List (Addr×Obj)} {σ:St} {H:Hp} {s:Shared} {a:Addr} {y v:V} {u r:Value} {o:Option V} {A:Around} {E:q0A}
theorem Zt.big(I:Zt X Zr σ H s):sysModules < s.heap.objs.size:=by
 have h:mainGlobals < s.heap.objs.size:=(I.mod.glob.keeps I.bk).lt;exact Nat.lt_trans (by decide) h
theorem Il{Q:q0A}(hu:A.units+1 < cLine)(I:Zt X Zr σ H s)(g:ZK H a y (some v))(ry:bH y u)(h:∀ w' s',Zt X Zr σ H s'->bH v w'->Q w' s') :
    wpAny (model X.prog X.w) A (getItem (.ref a) u) Q E s:=by
  rcases g with⟨kvs,k,e,ey,l⟩|⟨kvs,k,b,e,ey,eb,l⟩
  · subst ey;obtain⟨z,hd,vs,rel,dd⟩:=zA I.Zw e;obtain⟨w',hw,rw'⟩:=l9.some_of (v:=v) (o:=valueAt vs k) (by rw[l];exact rel.val k);exact wpAny_getItem_of (wD ry) dd.mapOf hw (h w' _ (I.tok _) rw')
  · subst ey;cases (show u=Value.ref b from ry);obtain⟨z,hd,xs,rel,dd⟩:=zD I.Zw e;obtain⟨w',hw,rw'⟩:=l9.some_of (v:=v) (o:=(atKey xs k).map (·.2)) (by rw[l];exact rel.val k);obtain⟨p,hp,hp2⟩:=Option.map_eq_some_iff.mp hw;refine wpAny_getItem_heap (tupleKind_room_in1 hu) (uR I.Zw eb) dd hp ?_;rw[hp2];exact h w' _ (I.tok _) rw'
theorem Yv{Q:q0A}(hu:A.units+1 < cLine)(I:Zt X Zr σ H s)(g:ZK H a y o)(ry:bH y u)(h:∀ s',Zt X Zr σ H s'->Q (.bool o.isSome) s') :
    wpAny (model X.prog X.w) A (compareOp .In u (.ref a)) Q E s:=by
  rcases g with⟨kvs,k,e,ey,l⟩|⟨kvs,k,b,e,ey,eb,l⟩
  · subst ey;obtain⟨z,hd,vs,rel,dd⟩:=zA I.Zw e;refine wpAny_in_of (wD ry) hd dd.mapOf ?_;rw[<- (rel.val k).uQ,<- l];exact h _ (I.tok _)
  · subst ey;cases (show u=Value.ref b from ry);obtain⟨z,hd,xs,rel,dd⟩:=zD I.Zw e;refine wpAny_in_heap (tupleKind_room_in1 hu) (uR I.Zw eb) hd dd ?_;have q:=(rel.val k).uQ;rw[Option.isSome_map] at q;rw[<- q,<- l];exact h _ (I.tok _)
theorem sQ{h':Heap}{t':Nat}{ob:HO}(I:Zt X Zr σ H s)(mu:Mut (H a))(hs:Heap.SameBut a s.heap h')(he:∃ q,h'.get? a=some q)(new:dH X.prog X.w (Zs H a ob) h' a ob) :
    Zt X Zr σ (Zs H a ob) {s with heap:=h',toks:=t'} :=
  I.write (x:=a) (e:=a) mu (.inl rfl) (fun b q hb z=>(hs.2 b hb).trans z) he new
theorem y9{P:Program}{w:World}{H':Hp}{h':Heap}{kvs:List (Key×V)}{vs:List (Key×Value)}(z:kvs.length<=sizeLine)(hd:(a==sysModules)=false)(rel:KV kvs vs)(dd:h'.DictOf (bV P w) a vs) :
    dH P w H' h' a (.dK kvs):=⟨z,hd,vs,rel,dd⟩
theorem Im{H':Hp}{Q:Unit->Shared->Prop}(hu:A.units+1 < cLine)(I:Zt X Zr σ H s)(g:aaC H a y v H')(ry:bH y u)(rv:bH v r)(h:∀ s',Zt X Zr σ H' s'->Q () s') :
    wpAny (model X.prog X.w) A (setItem (.ref a) u r) Q E s:=by
  rcases g with⟨kvs,k,e,ey,l,eH⟩|⟨kvs,k,b,e,ey,eb,l,eH⟩
  · subst ey eH;obtain⟨z,hd,vs,rel,dd⟩:=sS I.Zw e;have hz:vs.length<=sizeLine:=by rw[<- rel.length];exact z
    have hl:(eM kvs k v).length<=sizeLine:=by have:=oR kvs k v;omega
    refine wpAny_setItem_pairs (hsz:=hz) (wD ry) dd fun h' dd' hs=>h _ ?_;have he:∃ q,h'.get? a=some q:=let ⟨q,_,_,hq,_⟩:=dd';⟨q,hq⟩;exact sQ I (by rw[e];exact True.intro) hs he (y9 hl hd (rel.put k rv) dd')
  · subst ey eH;cases (show u=Value.ref b from ry);obtain⟨z,hd,xs,rel,dd⟩:=Vx I.Zw e;have hz:xs.length<=sizeLine:=by rw[<- Paired.length rel];exact z
    have hl:(eM kvs k v).length<=sizeLine:=by have:=oR kvs k v;omega
    refine wpAny_setItem_heap (hsz:=hz) (tupleKind_room_in1 hu) (uR I.Zw eb) dd fun h' dd' hs=>h _ ?_;obtain⟨q,es,ep,hq,h2,h3,h4,_,h5⟩:=dd';refine sQ I (by rw[e];exact True.intro) hs ⟨q,hq⟩ ⟨hl,hd,_,(rel.put k eb rv).keeps fun c ys ec=>?_,q,es,ep,hq,h2,h3,h4,h5⟩;rw[aG (dW ec e (fun z=>nomatch z))];exact ec
end
section
variable {X:Cx} {Zr:List (Addr×Obj)} {σ:St} {H:Hp} {s:Shared} {a:Addr} {kvs:List (Key×V)} {k:Key} {u:Value} {A:Around} {E:q0A}
theorem Vw{v:V}{more:List Value}{Q:q0A}(I:Zt X Zr σ H s)(e:H a=some (.dK kvs))(ry:bH (kV k) u)(l:bT kvs k=some v)(hm:more=[]\/∃ x,more=[x])
    (h:∀ w' s',Zt X Zr σ (Zs H a (.dK (qP kvs k))) s'->bH v w'->Q w' s'):wpAny (model X.prog X.w) A (call (.builtin "dict.pop") (.ref a::u::more)) Q E s:=by
  obtain⟨z,hd,vs,rel,dd⟩:=sS I.Zw e;obtain⟨w',hw,rw'⟩:=l9.some_of (v:=v) (o:=valueAt vs k) (by rw[<- l];exact rel.val k);have hp:(keyPart u).isSome=true:=by
    cases k with
    | inl i=>obtain⟨t,q⟩:=(show ∃ t,u=Value.int i t from ry);subst q;rfl
    | inr x=>obtain⟨t,q⟩:=(show ∃ t,u=Value.str x t from ry);subst q;rfl
    | no=>cases (show u=Value.none from ry);rfl
  have ha:argsOk "dict.pop" ⟨.ref a::u::more,[]⟩:=by
    rcases hm with q|⟨x,q⟩
    · subst q;exact PySem.F.args_dict_pop_2 _ _
    · subst q;exact PySem.F.args_dict_pop_3 _ _ _
  refine call_meetsIn PySem.F.slot_dict_pop dd.typeIs PySem.F.entry_dict_pop ha (meets_dict_pop_there (bV X.prog X.w) a (wD ry) more hm hp)
    ⟨vs,w',dd,by rw[<- rel.length];exact z,hw,fun h' dd' hs=>h w' _ ?_ rw'⟩
  have he:∃ q,h'.get? a=some q:=let ⟨q,_,_,hq,_⟩:=dd';⟨q,hq⟩;exact sQ I (by rw[e];exact True.intro) hs he (y9 (Nat.le_trans (Ko kvs k) z) hd (rel.drop k) dd')
end
noncomputable def QZ(i:Expr):Prop:=∀ ov iv,subscripted i false ov iv=operate [ov,iv] (getItem ov iv)
theorem HR{prog:Program}{w:World}{A:Around}{E:q0A}{s:Shared}{env:Env}{value slice:Expr}{pos:Pos}{T id:String}{Q:q0A}
    (hl:typeLookup (.type T) "__getitem__"=pure (some (.builtin id))) (hs:QZ slice)
    (h:wpAny (model prog w) A (eval value env) (fun o s₁=>wpAny (model prog w) A (eval slice env) (fun i s₂=>s₂.TypeIs o T/\wpAny (model prog w) A (getItem o i) Q E s₂) E s₁) E s) :
    wpAny (model prog w) A (eval (.Subscript value slice pos) env) Q E s:=by
  refine Subscript_ (wpAny_mono h (fun o s₁ h₁=>wpAny_mono h₁ (fun i s₂ h₂=>?_) fun _ _ x=>x) fun _ _ x=>x);obtain⟨hT,h₂⟩:=h₂;unfold subscriptTail;refine wpAny_bind ?_;rw[getitemInPython_of_ne hT.not_modules];refine wpAny_bind (wpAny_specialOf hT hl ?_);have fin:wpAny (model prog w) A (subscripted slice false o i) (fun r s₃=>wpAny (model prog w) A (letTemporaryGo value o r >>= fun _=>pure r) Q E s₃) E s₂:=by
    rw[hs o i];exact wpAny_operating (wpAny_mono h₂ (fun r s₃ h₃=>wpAny_bind (wpAny_letTemporaryGo (wpAny_pure h₃))) fun _ _ x=>x)
  first
    | exact wpAny_pure (wpAny_bind fin)
    | exact wpAny_bind (wpAny_pure (wpAny_bind fin))
    | exact wpAny_bind fin
theorem wA{X:Cx}{Zr:List (Addr×Obj)}{σ:St}{H:Hp}{s:Shared}{a:Addr}{y:V}{o:Option V}(I:Zt X Zr σ H s)(g:ZK H a y o):s.TypeIs (.ref a) "dict":=by
 rcases g with⟨kvs,k,e,_,_⟩|⟨kvs,k,b,e,_,_,_⟩
 ·obtain⟨_,_,vs,_,dd⟩:=zA I.Zw e;exact dd.typeIs
 ·obtain⟨_,_,xs,_,dd⟩:=zD I.Zw e;exact dd.typeIs
noncomputable def Qw(td ty:TE):TE:=fun σ H Q=>td σ H fun x H1=>ty σ H1 fun y H2=>∃ a v,x=.ref a/\ZK H2 a y (some v)/\Q v H2
noncomputable def XD(ty td:TE):TE:=fun σ H Q=>ty σ H fun y H1=>td σ H1 fun x H2=>∃ a o,x=.ref a/\ZK H2 a y o/\Q (.bl o.isSome) H2
noncomputable def HS(ty td:TE):TE:=fun σ H Q=>ty σ H fun y H1=>td σ H1 fun x H2=>∃ a o,x=.ref a/\ZK H2 a y o/\Q (.bl (!o.isSome)) H2
noncomputable def Qo(td ty tv:TE):TS:=fun D σ H=>tv σ H fun v H1=>td σ H1 fun x H2=>ty σ H2 fun y H3=>∃ a H4,x=.ref a/\aaC H3 a y v H4/\D.nx σ H4
section
variable {X:Cx} {o i e value:Expr} {pos pos' aa4:Pos} {td ty tv:TE}
end
theorem Km{P:Program}{w:World}{H:Hp}(h:Heap)(hb:sysModules < h.objs.size):dH P w H (h.push {cls:=.type "dict",data:=.dict #[]}) h.objs.size (.dK []) :=
 ⟨Nat.zero_le _,beq_eq_false_iff_ne.mpr (Ne.symm (Nat.ne_of_lt hb)),[],.nil,Heap.DictOf.new h⟩
noncomputable def MI:TE:=fun _ H Q=>∀ p,H p=none->Q (.ref p) (Zs H p (.dK []))
noncomputable def UJ:TE:=fun _ H Q=>∀ p,H p=none->Q (.ref p) (Zs H p (.dT []))
section
variable {X:Cx} {pos:Pos}
theorem tN:PE X (.Dict [] [] pos) MI:=fun Zr s σ H Q I h =>
 wpAny_Dict_empty ⟨.ref s.heap.objs.size,_,I.laid (a:=s.heap.objs.size) (o:=.dK []) (t':=s.toks) (fun _ _ q=>Heap.get?_push_of_some _ q) (Nat.le_refl _) (Km s.heap I.big),rfl,h _ (I.Zw.fresh (Nat.le_refl _))⟩
end
noncomputable def r9:List (TE×TE)->St->Hp->(List (V×V)->Hp->Prop)->Prop
 | [],_,H,Q=>Q [] H
 | (tk,tv)::r,σ,H,Q=>tk σ H fun x H1=>tv σ H1 fun y H2=>r9 r σ H2 fun ps H3=>Q ((x,y)::ps) H3
noncomputable abbrev VV:List (V×V)->List (Value×Value)->Prop:=Paired fun p q=>bH p.1 q.1/\bH p.2 q.2
noncomputable def PPs(X:Cx)(pos:Pos)(keys:List (Option Expr))(values:List Expr)(trs:List (TE×TE)):Prop :=
 ∀(Zr:List (Addr×Obj)) (s:Shared) (σ:St) (H:Hp) (Q:List (V×V)->Hp->Prop),Zt X Zr σ H s->r9 trs σ H Q ->
  wpAny (model X.prog X.w) X.A (evalPairs (pairTrees keys values X.env pos)) (fun vs s'=>∃ ps H',Zt X Zr σ H' s'/\VV ps vs/\Q ps H') X.xe s
noncomputable def Dg(kvs more:List (Key×V)):List (Key×V):=more.foldl (fun acc kv=>eM acc kv.1 kv.2) kvs
noncomputable def XE(trs:List (TE×TE)):TE:=fun σ H Q=>∀ p,H p=none->r9 trs σ (Zs H p (.dK [])) fun ps H2=>H2 p=some (.dK [])/\∃ kvs:List (Key×V),ps=kvs.map (fun kv=>(kV kv.1,kv.2))/\kvs.length<=15/\Q (.ref p) (Zs H2 p (.dK (Dg [] kvs)))
structure M1(X:Cx)(o:Expr)(m:Str)(apos:Pos)(e:Expr)(Zz:Pos):Prop where
 base:attributeBase o m X.env (eval o X.env)=eval o X.env
 few:((backTo Zz (starEach [e] X.env)).all (fun x=>!x.1)&&(backToKw Zz (keywordEach [] X.env)).all (fun x=>x.1.isSome)
 &&decide (([e]:List Expr).length+([]:List Keyword).length+(if ([]:List Keyword).isEmpty then 0 else 1) < 30))=true
 line:(apos.endLine==Zz.line)=true
 trees:backTo Zz (starEach [e] X.env)=[(false,eval e X.env)]
structure M2(X:Cx)(o:Expr)(m:Str)(apos:Pos)(e f:Expr)(Zz:Pos):Prop where
 base:attributeBase o m X.env (eval o X.env)=eval o X.env
 few:((backTo Zz (starEach [e,f] X.env)).all (fun x=>!x.1)&&(backToKw Zz (keywordEach [] X.env)).all (fun x=>x.1.isSome)
 &&decide (([e,f]:List Expr).length+([]:List Keyword).length+(if ([]:List Keyword).isEmpty then 0 else 1) < 30))=true
 line:(apos.endLine==Zz.line)=true
 trees:backTo Zz (starEach [e,f] X.env)=[(false,eval e X.env),(false,eval f X.env)]
noncomputable def UW(H:Hp)(a:Addr):Prop:=(∃ kvs,Rd H a (.dK kvs))\/∃ kvs,Rd H a (.dT kvs)
theorem uP{X:Cx}{Zr:List (Addr×Obj)}{σ:St}{H:Hp}{s:Shared}{a:Addr}(I:Zt X Zr σ H s)(d:UW H a) :
    s.TypeIs (.ref a) "dict"/\(∀ b,Value.ref a=.ref b->∃ ob,s.heap.get? b=some ob/\ob.dict=none)/\(a==sysModules)=false:=by
  rcases d with⟨kvs,e⟩|⟨kvs,e⟩
  · obtain⟨_,hd,vs,_,dd⟩:=zA I.Zw e;refine⟨dd.typeIs,fun b q=>?_,hd⟩;cases q;obtain⟨ob,_,_,h1,h2,_⟩:=dd;exact⟨ob,h1,h2.2.1⟩
  · obtain⟨_,hd,xs,_,dd⟩:=zD I.Zw e;refine⟨dd.typeIs,fun b q=>?_,hd⟩;cases q;obtain⟨ob,_,_,h1,h2,_⟩:=dd;exact⟨ob,h1,h2.2.1⟩
section
variable {X:Cx} {Zr:List (Addr×Obj)} {σ:St} {H:Hp} {s:Shared} {a:Addr} {y d:V} {u r:Value} {o:Option V} {A:Around} {E:q0A}
theorem Rm{Q:q0A}(hu:A.units+1 < cLine)(I:Zt X Zr σ H s)(g:ZK H a y o)(ry:bH y u)(h:∀ w' s',Zt X Zr σ H s'->bH (o.getD .Zu) w'->Q w' s') :
    wpAny (model X.prog X.w) A (call (.builtin "dict.get") [.ref a,u]) Q E s:=by
  rcases g with⟨kvs,k,e,ey,l⟩|⟨kvs,k,b,e,ey,eb,l⟩
  · subst ey;obtain⟨z,hd,vs,rel,dd⟩:=zA I.Zw e;refine call_meetsIn PySem.F.slot_dict_get dd.typeIs PySem.F.entry_dict_get (PySem.F.args_dict_get_2 _ _) (meets_dict_get (bV X.prog X.w) a (wD ry) hd) ⟨_,dd.mapOf,h _ _ (I.tok _) ?_⟩;rw[l];exact(rel.val k).getD rfl
  · subst ey;cases (show u=Value.ref b from ry);obtain⟨z,hd,xs,rel,dd⟩:=zD I.Zw e;refine call_meetsIn PySem.F.slot_dict_get dd.typeIs PySem.F.entry_dict_get (PySem.F.args_dict_get_2 _ _) (meetsH_dict_get (tupleKind (bV X.prog X.w)) a b hd) ⟨tupleKind_room_in1 hu,k,xs,uR I.Zw eb,dd,h _ _ (I.tok _) ?_⟩;rw[l];exact(rel.val k).getD rfl
theorem Ro{Q:q0A}(hu:A.units+1 < cLine)(I:Zt X Zr σ H s)(g:ZK H a y o)(ry:bH y u)(rd:bH d r)(h:∀ w' s',Zt X Zr σ H s'->bH (o.getD d) w'->Q w' s') :
    wpAny (model X.prog X.w) A (call (.builtin "dict.get") [.ref a,u,r]) Q E s:=by
  rcases g with⟨kvs,k,e,ey,l⟩|⟨kvs,k,b,e,ey,eb,l⟩
  · subst ey;obtain⟨z,hd,vs,rel,dd⟩:=zA I.Zw e;refine call_meetsIn PySem.F.slot_dict_get dd.typeIs PySem.F.entry_dict_get (PySem.F.args_dict_get_3 _ _ _) (meets_dict_get_default (bV X.prog X.w) a (wD ry) hd r) ⟨_,dd.mapOf,h _ _ (I.tok _) ?_⟩;rw[l];exact(rel.val k).getD rd
  · subst ey;cases (show u=Value.ref b from ry);obtain⟨z,hd,xs,rel,dd⟩:=zD I.Zw e;refine call_meetsIn PySem.F.slot_dict_get dd.typeIs PySem.F.entry_dict_get (PySem.F.args_dict_get_3 _ _ _) (meetsH_dict_get_default (tupleKind (bV X.prog X.w)) a b hd r) ⟨tupleKind_room_in1 hu,k,xs,uR I.Zw eb,dd,h _ _ (I.tok _) ?_⟩;rw[l];exact(rel.val k).getD rd
end
noncomputable def MH(td ty:TE):TE:=fun σ H Q=>td σ H fun x H1=>∃ a,x=.ref a/\UW H1 a/\ty σ H1 fun y H2=>∃ o,ZK H2 a y o/\Q (o.getD .Zu) H2
noncomputable def MJ(td ty tx:TE):TE:=fun σ H Q=>td σ H fun x H1=>∃ a,x=.ref a/\UW H1 a/\ty σ H1 fun y H2=>tx σ H2 fun z H3=>∃ kvs k,H3 a=some (.dK kvs)/\y=kV k /\
 (∀ v,bT kvs k=some v->Q v (Zs H3 a (.dK (qP kvs k))))/\(bT kvs k=none->Q z H3)
section
variable {X:Cx} {o e f:Expr} {apos Zz:Pos} {td ty tx:TE}
end
section
variable {X:Cx} {Zr:List (Addr×Obj)} {σ:St} {H:Hp} {s:Shared} {a:Addr} {kvs:List (Key×V)} {A:Around} {E:q0A}
end
section
variable {X:Cx} {Zr:List (Addr×Obj)} {σ:St} {H:Hp} {s:Shared} {a:Addr} {y:V} {u:Value} {A:Around} {E:q0A}
end
end L2
namespace Att
open PySem PySem.W PySem.Calls PyProof.Rows
theorem w8{P:Params}{h:Heap}:∀(ns:List Int) (vs:List Value),WellAll P h vs (ns.map WData.int)->IntsAre vs ns:=by
 intro ns
 induction ns with
 | nil =>
  intro vs w;rw[List.map_nil] at w;cases w;exact .nil
 | cons n ns ih =>
  intro vs w;rw[List.map_cons] at w;cases w with
  | cons a b =>
   cases a;exact .cons _ _ (ih _ b)
theorem Jw{l:OpenLaw}{n:Nat}(hn:l.most=some n){P:Params}{h:Heap}{args:List WData}{vals:List Value}
    (aa5:l.row.toRowW.claim.pre args=true) (hwl:WellAll P h vals args) :
    ∃ a vs ns,vals=[Value.ref a]/\args=[WData.list (ns.map WData.int)]/\h.get? a=some {cls:=.type "list",data:=.seq vs.toArray}/\IntsAre vs ns/\ns.length<=n:=by
  have hsh:WShape.hasAll [] args [.list .int]=true:=(pre_splitW aa5).1;have hc:l.pre.holds [] {args:=args}=true:=(pre_splitW aa5).2;obtain⟨d,r,rfl,h1,h2⟩:=hasAllW_cons hsh;obtain rfl:=hasAllW_nil h2;obtain⟨xs,rfl,h3⟩:=hasW_list h1;obtain⟨ns,rfl⟩:=items_int h3;have hlen:ns.length<=n:=by
    unfold OpenLaw.pre at hc;have h4:(WTm.not (.lt (.lit (.int (n:Int))) (.len (.arg 0)))).holds [] {args:=[.list (ns.map .int)]}=true:=by
      have h4:=(holds_andW hc).1;rw[hn] at h4;exact h4
    have h5:=condW_of h4 (w_not (w_lt w_lit (w_len_list (w_arg rfl))));rw[List.length_map] at h5;refine Nat.le_of_not_lt fun q=>?_;have q':(n:Int) < ((ns.length:Nat):Int):=by omega
    first
      | (rw[decide_eq_true q'] at h5;exact absurd h5 (by decide))
      | (simp at h5;omega)
  cases hwl with
  | cons w1 w2 =>
    cases w2;cases w1 with
    | list ho abF=>exact⟨_,_,ns,rfl,rfl,ho,w8 ns _ abF,hlen⟩
theorem Jq(l:OpenLaw)(args:List WData):l.row.toRowW.claim.post args (.bool true) args=true :=
 postW_of (r:=l.row.toRowW) (X:=(true==true))
  (show WShape.has [] (.bool true) .bool=true by first|rfl|decide|simp[WShape.has,WShape.arms,WShape.armsAll])
  (show(WTm.eq .res (.lit (.bool true))).value [] {args:=args,res:=some (.bool true),after:=args}=some (.bool (true==true)) from w_eq_bool (w_res rfl) w_lit) rfl
theorem DK{l:OpenLaw}{n:Nat}{q:Program}{loose:List Str}{XP:(q0C)->Heap->Prop}{YP:World->Heap->Prop}{d:DefRec}
    (hn:l.most=some n) (hdf:d.params.defaults=[])
    (call:∀(w:World) (s₀ s₁:Shared) (mg mb:q0C) (fa:Addr) (o:Obj) (pm cd doc:Value) (a:Addr) (vs:List Value) (ns:List Int),
      Ground q loose [] XP w s₀ mg mb s₁.heap->YP w s₁.heap ->
      s₁.heap.get? fa=some o->o.data=.func (docDef d.name d.params d.body d.scope pm cd doc)->s₁.heap.CodeRec cd d.name->mg d.name=some (.ref fa) ->
      s₁.heap.get? a=some {cls:=.type "list",data:=.seq vs.toArray}->IntsAre vs ns->ns.length<=n->s₁.gens = #[] ->
      codeAny (model l.prog w) callerA (.call (.ref fa) ⟨[.ref a],[]⟩) (fun r s'=>r=.ok (.ret (.bool true))/\OldK s₁.heap s'.heap/\s'.os=s₁.os/\AllBare s'.gens) s₁) :
    WalkO q loose XP YP l.row.toRowW d [] (fun f vs=>PySem.call f vs):=by
  intro w s₀ s₁ mg mb G Y fa o pm cd doc dV kV ho hd hcd hD hmg hg args vals as aa5 adK hrd hwl hlo;obtain rfl:dV=.none:=Dflts.none hD hdf;obtain rfl:kV=.none:=Dflts.noKw hD;obtain⟨a,vs,ns,rfl,rfl,abL,hints,hlen⟩:=Jw hn aa5 hwl;refine enter_call (codeAny_mono (call w s₀ s₁ mg mb fa o pm cd doc a vs ns G Y ho (fd_plain hd) hcd hmg abL hints hlen hg) fun r s' hq=>?_);obtain⟨rfl,h2,h3,h4⟩:=hq;exact⟨.inl ⟨.bool true,.bool true,[],rfl,fun _=>rfl,.bool true,Jq l _,fun _=>⟨List.Pairwise.nil,fun _ hm=>(nomatch hm)⟩⟩,h2,h3,h4⟩
section
variable {prog:Program} {w:World} {A:Around} {E:q0A} {s:Shared} {K:Frag}
noncomputable def Di(h:Heap):Heap:={h with objs:=#[]}
theorem rN(h:Heap)(b:Addr):(Di h).get? b=none:=by
 cases e:(Di h).get? b with
 | none=>rfl
 | some o=>exact absurd (Heap.lt_size e) (Nat.not_lt_zero _)
noncomputable def ledger(h:Heap)(L d:Addr):List (Addr×Obj):=(List.range h.objs.size).filterMap fun a=>if a=L\/a=d then none else (h.get? a).map fun o=>(a,o)
theorem mO{h:Heap}{L d a:Addr}{o:Obj}:(a,o)∈ledger h L d↔a≠L/\a≠d/\h.get? a=some o:=by
 unfold ledger;rw[List.mem_filterMap];constructor
 ·rintro⟨b,_,e⟩;split at e
  ·cases e
  ·rename_i hb
   obtain⟨o',ho,e'⟩:=Option.map_eq_some_iff.mp e;cases e';exact⟨fun q=>hb (.inl q),fun q=>hb (.inr q),ho⟩
 ·rintro⟨n1,n2,ho⟩;refine⟨a,List.mem_range.mpr (Heap.lt_size ho),?_⟩;rw[if_neg (show ¬ (a=L\/a=d) from fun q=>q.elim n1 n2),ho]<;>rfl
theorem oW{h:Heap}{L d:Addr}{od:Obj}(hne:d≠L)(ho:h.get? d=some od):News (Di h) L h ([]++(d,od)::ledger h L d):=by
 rintro⟨a,o⟩ hp;rcases List.mem_cons.mp hp with e|hp
 ·cases e;exact⟨ho,hne,rN _ _⟩
 ·obtain⟨n1,n2,e⟩:=mO.mp hp;exact⟨e,n1,rN _ _⟩
theorem Fz{h:Heap}{L:Addr}{m:q0C}(n:h.Ns L m):Fr (Di h) L h m :=
 ⟨n,fun b o e=>(by rw[rN] at e;cases e),Nat.zero_le _⟩
end
end Att
namespace L2
open PySem PySem.Spec PyProof.Rows
theorem qG:∀ {vs:List Value} {ns:List Int},IntsAre vs ns->Vals (ns.map V.int) vs
 | _,_,.nil=>.nil
 | _,_,.cons n t h=>.cons ⟨t,rfl⟩ (qG h)
noncomputable def Only(H:Hp):Prop:=∀ b,H b=none\/∃ o xs,H b=some (.ZS o (.lst xs))
theorem LM{P:Program}{w:World}{K:q0B}{mg mb:q0C}{CX:CXT}{k:Nat}{fa a:Addr}{fd:FuncData}{x:Str}{sp:Sp}{s₁:Shared}{vs:List Value}{ns:List Int}
    (KX:K.In s₁.heap) (hns:s₁.heap.Ns mainGlobals mg) (hb:s₁.heap.Ns builtinsNs mb) (hbb:∀ x:Str,x≠"__name__"->mb x=bootBuiltins x) (acW:s₁.heap.NoLimit) (hg:s₁.gens = #[])
    (ha:s₁.heap.get? a=some {cls:=.type "list",data:=.seq vs.toArray}) (hi:IntsAre vs ns) (hl:ns.length<=sizeLine) (hr:Room k callerA)
    (F:∀ base:Heap,K.In base->base.Ns mainGlobals mg->bG P w K mg base CX k fa fd [x] sp) (ab3:∀(s:Shared) (u:Value),BindsTo s fd ⟨[u],[]⟩ [(x,u)])
    (hsp:∀ H:Hp,Only H->dC K H a (ns.map V.int)->sp [.ref a] H (fun v _=>v=.bl true) fun _ _ _=>False)
    (hCX:∀ H e s',CX [] H s₁ (fun _ _ _=>False) e s'->False) :
    codeAny (model P w) callerA (.call (.ref fa) ⟨[.ref a],[]⟩) (fun r s'=>r=.ok (.ret (.bool true))/\OldK s₁.heap s'.heap/\s'.os=s₁.os/\AllBare s'.gens) s₁:=by
  have rv:=qG hi;have ac4:=hi.length
  -- from an abstract heap in which nothing but the script may be tracked
  have core:∀ H:Hp,Only H->dC K H a (ns.map V.int)->HOk P w H s₁.heap->(∀ b,H b≠none->b=a)->(H a≠none->K.lookup a=none) ->
      codeAny (model P w) callerA (.call (.ref fa) ⟨[.ref a],[]⟩) (fun r s'=>r=.ok (.ret (.bool true))/\OldK s₁.heap s'.heap/\s'.os=s₁.os/\AllBare s'.gens) s₁:=by
    intro H hO hS Zw hA hK;have aaM:∀ {b:Addr} {o:Obj},s₁.heap.get? b=some o->H b=none->(C5 s₁.heap H).get? b=some o:=fun e n=>LB e n;have noA:∀ {b:Addr} {o:Obj} {es:Array DictEntry} {ep:Nat},s₁.heap.get? b=some o->o.data=.dict es ep->H b=none:=fun {b o es ep} e d=>by
      cases q:H b with
      | none=>rfl
      | some u =>
        have e':b=a:=hA b (by rw[q];simp);subst e';rw[ha] at e;cases e;have d':Data.seq vs.toArray _=Data.dict es ep:=d;cases d'
    have nsK:∀ {b:Addr} {m:q0C},s₁.heap.Ns b m->(C5 s₁.heap H).Ns b m:=fun {b m} ⟨o,es,ep,e,d,r⟩=>⟨o,es,ep,aaM e (noA e d),d,r⟩;have hKb:K.In (C5 s₁.heap H):=fun b o e=>aaM (KX b o e) (by
      cases q:H b with
      | none=>rfl
      | some u =>
        have e':b=a:=hA b (by rw[q];simp);subst e';rw[hK (by rw[q];simp)] at e;cases e)
    have hM:Mod K mg (C5 s₁.heap H):=⟨hKb,nsK hns,⟨mb,nsK hb,hbb⟩,let ⟨mc,h1,h2⟩:=acW;⟨mc,nsK h1,h2⟩⟩;have e0:Env0 P w K mg (C5 s₁.heap H) callerA [] s₁ H:=⟨rfl,hM,fun b o e=>OT e,Nat.le_of_eq (IG _ _),trivial,fun b hb=>absurd (show b∈([]:List Addr) from hb) (by simp),Zw,.of_eq hg⟩;refine codeAny_mono ((F _ hKb (nsK hns)).run callerA [] s₁ H ⟨[.ref a],[]⟩ [.ref a] [.ref a] _ _ hr e0 (ab3 s₁ (.ref a)) (.cons rfl .nil) (hsp H hO hS)) fun r s' h=>?_;cases r with
    | error e=>exact(hCX H e s' h).elim
    | ok fl =>
      cases fl with
      | next=>exact False.elim h
      | brk=>exact False.elim h
      | cont=>exact False.elim h
      | ret u =>
        obtain⟨v,H',os,bare,un,acZ,r',q⟩:=h;have q':v=.bl true:=q;subst q';obtain rfl:u=Value.bool true:=r';refine⟨rfl,OldK.of_keep fun b o e=>?_,os,bare⟩;cases q:H b with
        | none=>exact un.keep b o e q (by intro z;exact absurd (show b∈([]:List Addr) from z) (by simp)) (by simp)
        | some u =>
          rcases hO b with z|⟨ob,xs,z⟩
          · rw[q] at z;cases z
          · have z2:=un.rH b ob _ z;obtain⟨e1,_⟩:=Zw b _ z;obtain⟨e2,_⟩:=acZ b _ z2;rw[e] at e1;cases e1;exact e2
  cases hk:K.lookup a with
  | some o =>
    -- the script is one of the module's own objects
    have e:=KX a o hk;rw[ha] at e;cases e;refine core (fun _=>none) (fun _=>.inl rfl) (.inr ⟨_,vs.toArray,_,hk,rfl,rfl,rfl,by rw[List.size_toArray,ac4];exact hl,by simpa using rv⟩) (fun b u z=>by have z':(none:Option HO)=some u:=z;cases z') (fun b z=>absurd rfl z) fun z=>absurd rfl z
  | none =>
    refine core (fun b=>if b=a then some (.ZS {cls:=.type "list",data:=.seq vs.toArray} (.lst (ns.map V.int))) else none) (fun b=>?_) (.inl (.inr ⟨{cls:=.type "list",data:=.seq vs.toArray},if_pos rfl⟩)) (fun b u z=>?_) (fun b z=>?_) fun _=>hk
    · by_cases hb:b=a
      · exact .inr ⟨_,_,if_pos hb⟩
      · exact .inl (if_neg hb)
    · by_cases hb:b=a
      · have z':=(if_pos hb).symm.trans z;cases z';subst hb;exact⟨ha,by rw[List.length_map];exact hl,vs,_,rv,ha⟩
      · have z':=(if_neg hb).symm.trans z;cases z'
    · by_cases hb:b=a
      · exact hb
      · exact absurd (if_neg hb) z
theorem PQ{l:PySem.W.OpenLaw}{n k:Nat}{q:Program}{loose:List Str}{XP:(q0C)->Heap->Prop}{YP:World->Heap->Prop}{d:DefRec}{K:Params->q0B}{CX:World->CXT}{sp:World->Sp}{x:Str}
    (hn:l.most=some n) (hn2:n<=sizeLine) (hdf:d.params.defaults=[]) (hr:Room k callerA)
    (hY:∀(w:World) (h:Heap),YP w h->(K w.params).In h)
    (F:∀(w:World) (mg:q0C) (fa:Addr) (h:Heap),(K w.params).In h->h.Ns mainGlobals mg->mg d.name=some (.ref fa) ->
      ∃ fd:FuncData,(∀(s:Shared) (u:Value),BindsTo s fd ⟨[u],[]⟩ [(x,u)]) /\
        ∀ base:Heap,(K w.params).In base->base.Ns mainGlobals mg->bG l.prog w (K w.params) mg base (CX w) k fa fd [x] (sp w))
    (hsp:∀(w:World) (H:Hp) (a:Addr) (ns:List Int),ns.length<=n->Only H->dC (K w.params) H a (ns.map V.int)->sp w [.ref a] H (fun v _=>v=.bl true) fun _ _ _=>False)
    (hCX:∀(w:World) (H:Hp) (s:Shared) (e:Value) (s':Shared),CX w [] H s (fun _ _ _=>False) e s'->False) :
    PySem.W.WalkO q loose XP YP l.row.toRowW d [] (fun f vs=>PySem.call f vs):=by
  refine Att.DK hn hdf fun w s₀ s₁ mg mb fa o pm cd doc a vs ns G Y ho hd hcd hmg abL hints hlen hg=>?_;have KX:=hY w _ Y;obtain⟨fd,hb,hF⟩:=F w mg fa _ KX G.T.g hmg;exact LM KX G.T.g G.T.b G.T.builtins G.T.nolimit hg abL hints (Nat.le_trans hlen hn2) hr hF hb (fun H hO hS=>hsp w H a ns hlen hO hS) fun H e s'=>hCX w H s₁ e s'
noncomputable def bO(s:Stmt)(j:Nat):Stmt:=match s with
 | .ClassDef _ _ _ body _ _ _ _ _ _ _=>body.getD j (.Pass ⟨0,0,0,0⟩)
 | _=>.Pass ⟨0,0,0,0⟩
noncomputable def xM(s:Stmt):Arguments:=match s with
 | .FunctionDef _ a _ _ _ _ _ _ _ _=>a
 | _=>{posonlyargs:=[],args:=[],vararg:=none,kwonlyargs:=[],kw_defaults:=[],kwarg:=none,defaults:=[]}
noncomputable def sR(s:Stmt):List Stmt:=match s with
 | .FunctionDef _ _ b _ _ _ _ _ _ _=>b
 | _=>[]
noncomputable def aM(s:Stmt):Scope:=match s with
 | .FunctionDef _ _ _ _ _ _ sc _ _ _=>sc
 | _=>{kind:=.function,names:=[],isGenerator:=false,isCoroutine:=false}
noncomputable abbrev ZF:CXT:=fun _ _ _ _ _ _=>False
noncomputable abbrev E0:XK:=fun _ _ _=>False
theorem pass0{X:Cx}:Passes ZF X E0:=fun _ _ _ _ _ _ _ h=>h.elim
structure Fun(K:q0B)(x qual:Str)(st:Stmt)(f:Addr)(fd:FuncData):Prop where
 ex:∃(oc:Value) (od:Option Addr) (kV doc pm:Value) (an:Option Addr) (ZE ct:Value) (osl:Array (Option Value)),
  fd=PySem.W.fnOf x qual (xM st) (sR st) (aM st) .none kV doc pm an ZE ct/\K.lookup f=some ⟨oc,od,.func fd,osl⟩/\PySem.W.codeIn K ZE qual=true
 kp:PySem.W.keepIn K (.ref f)=true
section
variable {P:Program} {w:World} {K:q0B} {mg:q0C} {base:Heap}
theorem Fun.ok{x qual:Str}{st:Stmt}{f:Addr}{fd:FuncData}{N ps:List Str}{k:Nat}{sp:Sp}(F:Fun K x qual st f fd)(S:aU N ps (aM st))(len:∀ vs H Q E,sp vs H Q E->vs.length=ps.length)
    (aa1:∀(ZE:Value) (A:Around) (outer:List Env) (s:Shared) (H:Hp) (vs:List V) (Q:VK) (E:XK),Room k (A.deeper (envOfC qual (aM st) s.heap.objs.size f ZE))->sp vs H Q E ->
      ∃ t,PSs (D0 ZF P w K mg base N qual (aM st) f ZE A outer s H E).nox (sR st) t/\t {nx:=fun _ H'=>Q .Zu H',rt:=Q} (start N vs) H):bG P w K mg base ZF (k+1) f fd ps sp:=by
  obtain⟨oc,od,kV,doc,pm,an,ZE,ct,osl,rfl,lk,hcd⟩:=F.ex;refine WQ lk hcd S len fun A outer s H vs Q E hr hsp=>?_;obtain⟨t,h,q⟩:=aa1 ZE A outer s H vs Q E hr hsp;exact⟨t,h.nox,q⟩
theorem Fun.binds{x qual:Str}{st:Stmt}{f:Addr}{fd:FuncData}{ps:List Str}(F:Fun K x qual st f fd)
    (h:∀(kV doc pm:Value) (an:Option Addr) (ZE ct:Value) (us:List Value),us.length=ps.length->bindArgs (PySem.W.fnOf x qual (xM st) (sR st) (aM st) .none kV doc pm an ZE ct) ⟨us,[]⟩=pure (ps.zip us)):Binds K fd ps []:=by
  obtain⟨oc,od,kV,doc,pm,an,ZE,ct,osl,rfl,lk,hcd⟩:=F.ex;exact .all (h kV doc pm an ZE ct)
theorem Tn{x qual:Str}{st:Stmt}{f:Addr}{oc:Value}{od an:Option Addr}{osl:Array (Option Value)}{kV doc pm ZE ct:Value}(l:K.lookup f=some ⟨oc,od,.func (PySem.W.fnOf x qual (xM st) (sR st) (aM st) .none kV doc pm an ZE ct),osl⟩)
    (c:PySem.W.codeIn K ZE qual=true) (k:PySem.W.keepIn K (.ref f)=true):Fun K x qual st f (PySem.W.fnOf x qual (xM st) (sR st) (aM st) .none kV doc pm an ZE ct):=⟨⟨oc,od,kV,doc,pm,an,ZE,ct,osl,rfl,l,c⟩,k⟩
end
theorem oQ{A:Around}{k:Nat}(hr:Room k A):A.units+1 < cLine:=Nat.lt_of_le_of_lt (Nat.add_le_add_left (by decide:1<=64) _) hr.units
theorem small1000{n:Nat}(h:n<=1000):n < sizeLine:=Nat.lt_of_le_of_lt h (by decide)
section
variable {X:Cx}
theorem pv(i:Nat){x:Str}{pos:Pos}(hN:X.N[i]?=some x:=by rfl)(hv:Vis X.env.scope x:=by first|exact Or.inl rfl|exact Or.inr (Or.inl rfl)|exact Or.inr (Or.inr rfl))(hd:(x==("__debug__":Str))=false:=by decide)
    (hcd:(x==("__classdict__":Str))=false:=by decide):PE X (.Name x pos) (eD i):=Uh hN hv hd hcd
end
noncomputable def Same(H H':Hp):Prop:=∀ b o,H b=some o->H' b=some o
theorem Same.refl(H:Hp):Same H H:=fun _ _ h=>h
theorem Same.trans{H H1 H2:Hp}(a:Same H H1)(b:Same H1 H2):Same H H2:=fun c o h=>b c o (a c o h)
theorem Same.free{H H':Hp}(e:Same H H'){l:Addr}(h:H' l=Option.none):H l=Option.none:=by
 cases q:H l with
 | none=>rfl
 | some o =>
  rw[e l o q] at h;cases h
theorem Same.seq{K:q0B}{H H':Hp}{a:Addr}{xs:List V}(e:Same H H')(h:dC K H a xs):dC K H' a xs:=by
 rcases h with(h|⟨o,h⟩)|h
 ·exact .inl (.inl (e _ _ h))
 ·exact .inl (.inr ⟨o,e _ _ h⟩)
 ·exact .inr h
section
variable {X:Cx}
end
section
variable {κ:Type} [DecidableEq κ]
end
end L2
set_option maxHeartbeats 4000000
namespace L2
open PySem PySem.Spec PyProof.Rows
theorem Ng:bootBuiltins "list"=some (.type "list"):=by decide +kernel
theorem eP:bootBuiltins "tuple"=some (.type "tuple"):=by decide +kernel
theorem Bq:bootBuiltins "isinstance"=some (.builtin "isinstance"):=by decide +kernel
theorem Fe:bootBuiltins "max"=some (.builtin "max"):=by decide +kernel
theorem JT:bootBuiltins "min"=some (.builtin "min"):=by decide +kernel
theorem pU:bootBuiltins "sorted"=some (.builtin "sorted"):=by decide +kernel
theorem rB:bootBuiltins "len"=some (.builtin "len"):=by decide +kernel
theorem DT:bootBuiltins "reversed"=some (.type "reversed"):=by decide +kernel
section
variable {X:Cx}
noncomputable def UU(_ j:Int):Prop:=0 < j/\j.natAbs.log2 < 9000
theorem tL:lB X (binaryOp .FloorDiv) (rI UU fun i j=>.int (i / j)):=Yb fun i j _ _ _ _ _ hc q=>by
 have h1:(0:Int) < j:=hc.1;exact floordiv_int (by omega) (by rw[Int.fdiv_eq_ediv_of_nonneg i (by omega)];exact q) (.inl (PyProof.noPylong_of_log2 hc.2))
theorem log2_lt{j:Int}(h0:0 < j)(h:j<=10 ^ 45):j.natAbs.log2 < 9000:=by
 have h1:j.natAbs<=10 ^ 45:=by omega
 have h2:j.natAbs < 2 ^ 150:=Nat.lt_of_le_of_lt h1 (by decide);have h3:j.natAbs.log2 < 150:=(Nat.log2_lt (by omega)).mpr h2;omega
inductive sE(K:q0B)(H:Hp):V->String->Bool->Prop
 | ii (n:Int):sE K H (.int n) "int" true
 | ib (n:Int):sE K H (.int n) "bool" false
 | is (n:Int):sE K H (.int n) "str" false
 | it (n:Int):sE K H (.int n) "tuple" false
 | bi (b:Bool):sE K H (.bl b) "int" true
 | bb (b:Bool):sE K H (.bl b) "bool" true
 | bs (b:Bool):sE K H (.bl b) "str" false
 | bt (b:Bool):sE K H (.bl b) "tuple" false
 | si (x:Str):sE K H (.str x) "int" false
 | sb (x:Str):sE K H (.str x) "bool" false
 | ss (x:Str):sE K H (.str x) "str" true
 | st (x:Str):sE K H (.str x) "tuple" false
 | ni:sE K H .Zu "int" false
 | nb:sE K H .Zu "bool" false
 | ns:sE K H .Zu "str" false
 | nt:sE K H .Zu "tuple" false
 | li {a:Addr} {xs:List V}:dC K H a xs->sE K H (.ref a) "int" false
 | lb {a:Addr} {xs:List V}:dC K H a xs->sE K H (.ref a) "bool" false
 | ls {a:Addr} {xs:List V}:dC K H a xs->sE K H (.ref a) "str" false
 | lt {a:Addr} {xs:List V}:dC K H a xs->sE K H (.ref a) "tuple" false
 | ti {a:Addr} {xs:List V}:eJ K H a xs->sE K H (.ref a) "int" false
 | tb {a:Addr} {xs:List V}:eJ K H a xs->sE K H (.ref a) "bool" false
 | ts {a:Addr} {xs:List V}:eJ K H a xs->sE K H (.ref a) "str" false
 | tt {a:Addr} {xs:List V}:eJ K H a xs->sE K H (.ref a) "tuple" true
 | di {a:Addr} {kvs:List (Key×V)}:H a=some (.dK kvs)->sE K H (.ref a) "int" false
 | db {a:Addr} {kvs:List (Key×V)}:H a=some (.dK kvs)->sE K H (.ref a) "bool" false
 | ds {a:Addr} {kvs:List (Key×V)}:H a=some (.dK kvs)->sE K H (.ref a) "str" false
theorem Zt.xP{Zr:List (Addr×Obj)}{σ:St}{H:Hp}{s:Shared}{a:Addr}{xs:List V}(I:Zt X Zr σ H s)(h:dC X.K H a xs):∃ o,s.heap.get? a=some o/\o.cls=.type "list":=by
 obtain⟨Zv,_,⟨o,n,e,c,_,_⟩,_⟩:=I.list h;exact⟨o,e,c⟩
theorem Zt.DF{Zr:List (Addr×Obj)}{σ:St}{H:Hp}{s:Shared}{a:Addr}{xs:List V}(I:Zt X Zr σ H s)(h:eJ X.K H a xs):∃ o,s.heap.get? a=some o/\o.cls=.type "tuple":=by
 obtain⟨Zv,_,⟨o,e,c,_⟩,_⟩:=I.tuple h;exact⟨o,e,c⟩
theorem Zt.CS{Zr:List (Addr×Obj)}{σ:St}{H:Hp}{s:Shared}{a:Addr}{kvs:List (Key×V)}(I:Zt X Zr σ H s)(h:H a=some (.dK kvs)):∃ o,s.heap.get? a=some o/\o.cls=.type "dict" :=
 wA I (ZK.k (k:=.inl 0) h)
theorem Kg:dQ X (.builtin "isinstance") (fun xs H Q=>∃ v T b,xs=[v,.ty T]/\sE X.K H v T b/\Q (.bl b) H):=by
 intro Zr s σ H xs us Q I r h;obtain⟨v,T,b,rfl,hi,q⟩:=h;obtain⟨u,w',rfl,r1,r2⟩:=vals2 r;cases r2;have fin:EP X Zr σ Q (.bool b) s:=⟨.bl b,H,I,rfl,q⟩;have ZN:EP X Zr σ Q (.bool b) {s with toks:=s.toks+1}:=⟨.bl b,H,I.tok _,rfl,q⟩;cases hi with
 | ii n=>obtain⟨t,rfl⟩:=r1;exact IsiPair.int_int fin
 | ib n=>obtain⟨t,rfl⟩:=r1;exact IsiPair.int_bool ZN
 | is n=>obtain⟨t,rfl⟩:=r1;exact IsiPair.int_str ZN
 | it n=>obtain⟨t,rfl⟩:=r1;exact IsiPair.int_tuple ZN
 | bi b=>cases r1;exact IsiPair.bool_int fin
 | bb b=>cases r1;exact IsiPair.bool_bool fin
 | bs b=>cases r1;exact IsiPair.bool_str ZN
 | bt b=>cases r1;exact IsiPair.bool_tuple ZN
 | si x=>obtain⟨t,rfl⟩:=r1;exact IsiPair.str_int ZN
 | sb x=>obtain⟨t,rfl⟩:=r1;exact IsiPair.str_bool ZN
 | ss x=>obtain⟨t,rfl⟩:=r1;exact IsiPair.str_str fin
 | st x=>obtain⟨t,rfl⟩:=r1;exact IsiPair.str_tuple ZN
 | ni=>cases r1;exact IsiPair.NoneType_int ZN
 | nb=>cases r1;exact IsiPair.NoneType_bool ZN
 | ns=>cases r1;exact IsiPair.NoneType_str ZN
 | nt=>cases r1;exact IsiPair.NoneType_tuple ZN
 | li hl=>cases r1;obtain⟨o,e,c⟩:=Zt.xP I hl;exact IsiPair.list_int e c ZN
 | lb hl=>cases r1;obtain⟨o,e,c⟩:=Zt.xP I hl;exact IsiPair.list_bool e c ZN
 | ls hl=>cases r1;obtain⟨o,e,c⟩:=Zt.xP I hl;exact IsiPair.list_str e c ZN
 | lt hl=>cases r1;obtain⟨o,e,c⟩:=Zt.xP I hl;exact IsiPair.list_tuple e c ZN
 | ti hl=>cases r1;obtain⟨o,e,c⟩:=Zt.DF I hl;exact IsiPair.tuple_int e c ZN
 | tb hl=>cases r1;obtain⟨o,e,c⟩:=Zt.DF I hl;exact IsiPair.tuple_bool e c ZN
 | ts hl=>cases r1;obtain⟨o,e,c⟩:=Zt.DF I hl;exact IsiPair.tuple_str e c ZN
 | tt hl=>cases r1;obtain⟨o,e,c⟩:=Zt.DF I hl;exact IsiPair.tuple_tuple e c fin
 | di hl=>cases r1;obtain⟨o,e,c⟩:=Zt.CS I hl;exact IsiPair.dict_int e c ZN
 | db hl=>cases r1;obtain⟨o,e,c⟩:=Zt.CS I hl;exact IsiPair.dict_bool e c ZN
 | ds hl=>cases r1;obtain⟨o,e,c⟩:=Zt.CS I hl;exact IsiPair.dict_str e c ZN
end
noncomputable def LI:Expr->Bool
 | .Starred ..=>true
 | _=>false
theorem JC{e:Expr}{es:List Expr}{env:Env}(h:LI e=false):starEach (e::es) env=(false,eval e env)::starEach es env:=by
 cases e<;>first|rfl|cases h
section
variable {X:Cx} {e:Expr} {es:List Expr} {te:TE} {t:TA}
theorem aD(ha:PE X e te)(hr:PA X es t)(h:LI e=false:=by rfl):PA X (e::es) (EX te t):=HB ha hr (JC h)
end
noncomputable abbrev Am(prog:Program)(w:World)(A:Around)(env:Env)(R:Result->Shared->Prop):Value->Shared->Prop:=notedBy (model prog w) A env fun e s'=>R (.error e) s'
noncomputable abbrev HX(ifs:List Expr)(env:Env):Sem Bool:=forIn ifs true fun c r=>if r=true then do let ok <- isTrue c env (eval c env);pure (ForInStep.yield ok) else pure (ForInStep.yield r)
section
variable {prog:Program} {w:World} {A:Around} {R:Result->Shared->Prop} {s:Shared}
theorem DZ{elt target iter:Expr}{ifs:List Expr}{scope:Scope}{pos:Pos}{it acc:Value}{env:Env}(I:Nat->Shared->Prop)
    (turn:∀ n s,I n s->wpAny (model prog w) A (pyNext it) (fun r s₁=>match r with
      | none=>R (.ok .next) s₁
      | some v=>wpAny (model prog w) A (letOwnedTupleGo target it v) (fun _ s₁'=>wpAny (model prog w) A (assign target env v) (fun _ s₂ =>
          wpAny (model prog w) A (HX ifs env) (fun ok s₃ =>
            if ok=true then wpAny (model prog w) A (eval elt env) (fun x s₄ =>
              wpAny (model prog w) A (call (.builtin "list.append") [acc,x]) (fun _ s₅=>∃ m,m < n/\I m s₅) (Am prog w A env R) s₄) (Am prog w A env R) s₃
            else ∃ m,m < n/\I m s₃) (Am prog w A env R) s₂) (Am prog w A env R) s₁') (Am prog w A env R) s₁) (Am prog w A env R) s)
    (n:Nat) (h:I n s):codeAny (model prog w) A (.compLoop (.ListComp elt [⟨target,iter,ifs,0⟩] scope pos) 0 it acc env) R s:=by
  refine codeAny_loop rfl I (fun n s hI=>?_) n h;show wpAny _ A ((compTurn (.ListComp elt [⟨target,iter,ifs,0⟩] scope pos) 0 it acc env).onRaise (fun x=>do noteFrame x env;theTreesLotGoes x)) _ _ s;refine wpAny_noted ?_;rw[compTurn_list];refine wpAny_bind (wpAny_standAt (wpAny_bind (wpAny_mono (turn n s hI) (fun r s₁ h₁=>?_) fun _ _ h'=>h')));cases r with
  | none=>exact wpAny_pure h₁
  | some v =>
    refine wpAny_bind (wpAny_mono h₁ (fun _ s₁' h₁'=>?_) fun _ _ h'=>h');refine wpAny_bind (wpAny_mono h₁' (fun _ s₂ h₂=>wpAny_bind (wpAny_mono h₂ (fun ok s₃ h₃=>?_) fun _ _ h'=>h')) fun _ _ h'=>h');cases ok with
    | false=>exact wpAny_pure ⟨rfl,h₃⟩
    | true =>
      exact wpAny_bind (wpAny_bind (wpAny_mono h₃ (fun x s₄ h₄=>wpAny_bind (wpAny_mono h₄ (fun _ s₅ h₅=>wpAny_pure (wpAny_pure ⟨rfl,h₅⟩)) fun _ _ h'=>h')) fun _ _ h'=>h'))
end
noncomputable def dS(X:Cx)(sc:Scope)(cl:List (Str×Addr))(C:Addr)(N:List Str)(s:Shared)(H:Hp)(ex:List Addr)(pn:List (Addr×Obj)):Cx :=
 {X with env:=compEnvC sc cl C X.env,N:=N,s₀:=s,H₀:=H,outer:=X.stack,ex:=ex,fn:=fun _=>false,pn:=pn}
structure eF(X:Cx)(sc:Scope)(cl:List (Str×Addr))(x:Str)(fr:List Nat)(N:List Str):Prop where
 kind:sc.kind=.function
 Al:∀ y∈sc.names,y.2≠.cell
 names:∀ y∈sc.names,y.2=.local->sc.names.lookup y.1=some .local
 DX:closureFor sc X.env=pure cl
 sub:∀ y c,cl.lookup y=some c->X.env.cells.lookup y=some c
 has:∀ y,((relabel sc X.env).names.lookup y=some .cell\/(relabel sc X.env).names.lookup y=some .free)->∃ c,cl.lookup y=some c
 tgt:sc.names.lookup x=some .local
 nd:N.Nodup
 N0:N=x::fr.map fun j=>X.N.getD j x
 frc:∀ j∈fr,∃ y,X.N[j]?=some y/\X.env.kindOf y=some .cell/\((relabel sc X.env).names.lookup y=some .cell\/(relabel sc X.env).names.lookup y=some .free)
noncomputable def bF(fr:List Nat)(σ:St):St:=fr.map fun j=>(σ[j]?).join
section
variable {X:Cx} {Zr:List (Addr×Obj)} {σ:St} {H:Hp} {s:Shared} {sc:Scope} {cl:List (Str×Addr)} {C:Addr} {x:Str} {fr:List Nat} {N:List Str} {fp:List Addr}
theorem Nn(I:Zt X Zr σ H s)(S:eF X sc cl x fr N)(hf:∀ b∈fp,sG X Zr H b)(hfo:∀ b∈fp,b < s.heap.objs.size)(hC:s.heap.objs.size<=C) :
    (dS X sc cl C N s H fp (X.pn++Zr)).Ok where
  mod:=I.ok.mod
  kind:=S.kind
  glob:=I.ok.glob
  blt:=I.ok.blt
  above:=hC
  inj:=fun y z c h1 h2=>I.ok.inj y z c (S.sub y c h1) (S.sub z c h2)
  has:=S.has
  cab:=fun _ _ h=>by cases h
  hd:=I.ok.hd
  frames:=I.ok.frames
  stk:=.inl rfl
  exf:=fun b hb=>⟨Nat.ne_of_lt (Nat.lt_of_lt_of_le (hfo b hb) hC),fun y c e=>(hf b hb).2.2.2.2.1 y c (S.sub y c e)⟩
  bs:=I.bs
  bsz:=Nat.le_trans I.ok.bsz I.sz
  IZ:=fun b o e hb=>by
    rcases(hf b hb).2.2.2.1 with z|z
    · exact I.ok.IZ b o e z
    · exact absurd (Nat.lt_of_lt_of_le (Heap.lt_size e) (Nat.le_trans I.ok.bsz z)) (Nat.lt_irrefl _)
  Ln:=fun b hb hm=>by
    rcases List.mem_cons.mp (I.Bf b hm) with z|z
    · exact(hf b hb).2.1 z
    · exact(hf b hb).2.2.1 z
  sV:=I.stack
  frf:=I.HP
theorem nostk(I:Zt X Zr σ H s){b:Addr}(h1:b≠X.env.locals)(h2:b∉X.fs):b∉frs X.stack:=fun hm=>by
 rcases List.mem_cons.mp (I.Bf b hm) with z|z
 ·exact h1 z
 ·exact h2 z
theorem Ki(I:Zt X Zr σ H s)(S:eF X sc cl x fr N)(hf:∀ b∈fp,sG X Zr H b)(hfo:∀ b∈fp,b < s.heap.objs.size)(hC:s.heap.objs.size<=C){h1:Heap}{t1:Nat}{m0:q0C}
    (hn:h1.Ns C m0) (hk:∀ b o,s.heap.get? b=some o->h1.get? b=some o):Zt (dS X sc cl C N s H fp (X.pn++Zr)) [] (none::bF fr σ) H {s with heap:=h1,toks:=t1}:=by
  refine⟨Nn I S hf hfo hC,rfl,I.bare,Un.kept hk,⟨m0,hn,fun i y v e1 e2 e3=>?_⟩,fun y c e=>?_,I.Zw.fresh hC,fun y c e=>I.nE y c (S.sub y c e),fun p hp=>?_,I.Zw.kept hk,?_⟩
  · have e1':N[i]?=some y:=e1;rw[S.N0] at e1';cases i with
    | zero =>
      have z:(some (none:Option V))=some (some v):=e2;cases z
    | succ j =>
      have aaY:(fr.map fun j=>X.N.getD j x)[j]?=some y:=e1';have e2':(bF fr σ)[j]?=some (some v):=e2;unfold bF at e2';rw[List.getElem?_map] at aaY e2';cases q:fr[j]? with
      | none=>rw[q] at aaY;cases aaY
      | some k =>
        rw[q] at aaY e2';have ey:X.N.getD k x=y:=Option.some.inj aaY;have ev:(σ[k]?).join=some v:=Option.some.inj e2';obtain⟨y',hy,aaP,acD⟩:=S.frc k (List.mem_of_getElem? q);have eyy:y=y':=by
          rw[<- ey,List.getD_eq_getElem?_getD,hy];rfl
        subst eyy;have ev':σ[k]?=some (some v):=by
          cases z:σ[k]? with
          | none=>rw[z] at ev;cases ev
          | some o =>
            rw[z] at ev;have ev2:o=some v:=ev;rw[ev2]
        obtain⟨m,_,hl⟩:=I.loc;obtain⟨u,r,l⟩:=hl k y v hy ev' (.inr (.inl aaP));refine⟨u,r,.inr ⟨acD,?_⟩⟩;rcases l with⟨z,_⟩|⟨_,c,hc,o,ho,hd⟩
        · rw[aaP] at z;cases z
        · obtain⟨c',hc'⟩:=S.has y acD;have z:=S.sub y c' hc';rw[hc] at z;cases z;exact⟨c,hc',o,hk c o ho,hd⟩
  · obtain⟨v,o,ho,hd⟩:=I.cell y c (S.sub y c e);exact⟨v,o,hk c o ho,hd⟩
  · have hp':p∈X.pn++Zr:=by
      have z:p∈(X.pn++Zr)++[]:=hp;simpa using z
    obtain⟨e,n,ne,nf,d⟩:=I.pin p hp';exact⟨hk _ _ e,n,Nat.ne_of_lt (Nat.lt_of_lt_of_le (Heap.lt_size e) hC),nostk I ne nf,d⟩
  · show(none::bF fr σ).length=N.length;rw[S.N0];simp[bF]
theorem Kh(I:Zt X Zr σ H s)(hf:∀ b∈fp,sG X Zr H b){D:Addr}{pl:List (Addr×Obj)}{σ':St}{H':Hp}{s':Shared}(J:Zt (dS X sc cl C N s H fp (X.pn++Zr)) pl σ' H' s')
    (hC:s.heap.objs.size<=C) (hD:s.heap.objs.size<=D) (hDC:D≠C) (hDn:H' D=none) {xs:List V} {vals:List Value} {k:Nat} (hg:s'.heap.get? D=some {cls:=.type "list",data:=.seq vals.toArray k}) (rv:Vals xs vals) (hz:xs.length<=sizeLine)
    {h':Heap} (hs:Heap.SameBut C s'.heap h'):Zt X Zr σ (Zs H' D (.lst xs)) {s' with heap:=h'}:=by
  have lt:∀ {b:Addr} {o:Obj},s.heap.get? b=some o->b < s.heap.objs.size:=fun e=>Heap.lt_size e;have neC:∀ {b:Addr} {o:Obj},s.heap.get? b=some o->b≠C:=fun e=>Nat.ne_of_lt (Nat.lt_of_lt_of_le (Heap.lt_size e) hC);have neD:∀ {b:Addr} {o:Obj},s.heap.get? b=some o->b≠D:=fun e=>Nat.ne_of_lt (Nat.lt_of_lt_of_le (Heap.lt_size e) hD);have abP:∀ {b:Addr} {o:HO},H b=some o->b≠D:=fun e=>Nat.ne_of_lt (Nat.lt_of_lt_of_le (I.Zw.lt e) hD);have base:Un (frs X.stack) fp H H' s.heap s'.heap:=J.base;have HC:H' C=none:=J.free;refine I.Vv (s':={s' with heap:=h'}) (ch:=fp) J.os ⟨fun b o e n hb hx=>?_,fun b o e n hb hx=>?_,fun b o e n hx=>?_,fun b o e hx=>?_,fun b ys e=>?_,fun b o u e=>?_,fun b ps e=>?_⟩ (fun b u e=>?_) J.bare (fun b hb=>?_)
  · exact(hs.2 b (neC e)).trans (base.keep b o e n hb hx)
  · obtain⟨sl,q⟩:=base.slot b o e n hb hx;exact⟨sl,(hs.2 b (neC e)).trans q⟩
  · rw[aG (neD e)];exact base.free b o e n hx
  · obtain⟨o',q⟩:=base.there b o e hx;exact⟨o',(hs.2 b (neC e)).trans q⟩
  · rw[aG (abP e)];exact base.tY b ys e
  · rw[aG (abP e)];exact base.rH b o u e
  · rw[aG (abP e)];exact base.tX b ps e
  · by_cases hb:b=D
    · subst hb;rw[aA] at e;cases e;exact⟨hz,vals,k,rv,(hs.2 b hDC).trans hg⟩
    · rw[aG hb] at e;have tC:∀ {c:Addr} {o:HO},H' c=some o->c≠C:=fun q z=>by rw[z,HC] at q;cases q
      have tD:∀ {c:Addr} {o:HO},H' c=some o->c≠D:=fun q z=>by rw[z,hDn] at q;cases q
      refine(J.Zw b u e).tW (fun c v hc q=>(hs.2 c ?_).trans q) (fun c q=>by rw[aG (tD q)];exact q) fun c ys q=>by rw[aG (tD q)];exact q
      rcases hc with z|z
      · rw[z];exact tC e
      · exact tC z
  · obtain⟨_,f1,_,f3,f4,f5⟩:=hf b hb;exact⟨f3,f1,f4,f5⟩
end
noncomputable def PTs(Y:Cx)(ifs:List Expr)(t:TT):Prop :=
 ∀(Zr:List (Addr×Obj)) (s:Shared) (σ:St) (H:Hp) (Q:Bool->Hp->Prop),Zt Y Zr σ H s->t σ H Q->wpAny (model Y.prog Y.w) Y.A (HX ifs Y.env) (TP Y Zr σ Q) Y.xe s
noncomputable def Qz:TT:=fun _ H Q=>Q true H
theorem xY{Y:Cx}:PTs Y [] Qz:=fun _ _ _ H _ I h=>wpAny_tests_nil ⟨H,I,h⟩
theorem tQ{Y:Cx}{c:Expr}{t:TT}(h:PT Y c t):PTs Y [c] t:=fun Zr s σ H Q I hw=>wpAny_tests_one (h Zr s σ H Q I hw)
@[irreducible] def kP(wi:TI)(fr:List Nat)(tc:TT)(te:TE):TE:=fun σ H Q=>wi σ H fun J H1=>∃ W:Nat->Nat->List V->Hp->Prop,(∃ m,W 0 m [] H1)/\∀ i m xs H,W i m xs H->xs.length<=1000000 /\
  ((J.stop i H/\∀ p,H p=none->Q (.ref p) (Zs H p (.lst xs))) \/
   (J.go i H/\∀ y H',J.yld i H y H'->tc (some y::bF fr σ) H' fun b H2=>if b=true then te (some y::bF fr σ) H2 (fun z H3=>∃ m',m' < m/\W (i+1) m' (xs++[z]) H3) else ∃ m',m' < m/\W (i+1) m' xs H2))
section
variable {X:Cx} {sc:Scope} {cl:List (Str×Addr)} {x:Str} {fr:List Nat} {N:List Str} {elt iter:Expr} {px pos:Pos} {ifs:List Expr} {wi:TI} {tc:TT} {te:TE}
theorem yT(hc:X.calm=true)(hx:∀ e s,¬ X.xe e s)(S:eF X sc cl x fr N)
    (hb:∀ C s H ex pn,PTs (dS X sc cl C N s H ex pn) ifs tc/\PE (dS X sc cl C N s H ex pn) elt te)
    {Zr:List (Addr×Obj)} {σ:St} {H:Hp} {s:Shared} {it:Addr} {fp:List Addr} {tn:Nat->Heap->Prop} {J:It} {Q:VK} {RR:Value->Addr->Result->Shared->Prop} {E:q0A}
    (I:Zt X Zr σ H s) (T:Turn X.prog X.w X.K (.Name x px) J fp it tn) (st:tn 0 s.heap) (hf:∀ b∈fp,sG X Zr H b)
    {W:Nat->Nat->List V->Hp->Prop} {m0:Nat} (w0:W 0 m0 [] H)
    (turn:∀ i m xs H,W i m xs H->xs.length<=1000000 /\
      ((J.stop i H/\∀ p,H p=none->Q (.ref p) (Zs H p (.lst xs))) \/
       (J.go i H/\∀ y H',J.yld i H y H'->tc (some y::bF fr σ) H' fun b H2=>if b=true then te (some y::bF fr σ) H2 (fun z H3=>∃ m',m' < m/\W (i+1) m' (xs++[z]) H3) else ∃ m',m' < m/\W (i+1) m' xs H2)))
    (fin:∀(D C:Addr) (s':Shared) (m':q0C) (H':Hp),s'.heap.Ns C m'->sG X Zr H' C->(∀ h',Heap.SameBut C s'.heap h'->Zt X Zr σ H' {s' with heap:=h'})->Q (.ref D) H'->RR (.ref D) C (.ok .next) s') :
    wpAny (model X.prog X.w) X.A (newList []) (fun acc s₃=>wpAny (model X.prog X.w) X.A (newFunctionEnv sc X.env.globals cl [] X.env.qual none .none (some X.env)) (fun abY s₄ =>
      codeAny (model X.prog X.w) X.A (.compStart (.ListComp elt [⟨.Name x px,iter,ifs,0⟩] sc pos) 0 (.ref it) acc {abY with scope:=relabel sc X.env}) (RR acc abY.locals) s₄) E s₃) E s:=by
  refine wpAny_newObj_type (wpAny_newFunctionEnv S.Al (by intro y hy;simp at hy) (fun h₁ abK aa6=>?_) S.kind);dsimp only at abK aa6 ⊢;generalize hH2:s.heap.push {cls:=.type "list",dict:=none,data:=.seq ([]:List Value).toArray}=G2 at abK aa6 ⊢;have hCs:G2.objs.size=s.heap.objs.size+1:=by rw[<- hH2,Heap.size_push]
  have hDC:s.heap.objs.size≠G2.objs.size:=by rw[hCs];exact Nat.ne_of_lt (Nat.lt_succ_self _)
  have hC:s.heap.objs.size<=G2.objs.size:=by rw[hCs];exact Nat.le_succ _
  have below:∀ b,b < s.heap.objs.size->b≠G2.objs.size:=fun b hb=>by rw[hCs];exact Nat.ne_of_lt (Nat.lt_succ_of_lt hb)
  have old:∀ b o,s.heap.get? b=some o->h₁.get? b=some o:=fun b o e=>aa6.extBut b o (below b (Heap.lt_size e)) (Heap.get?_push_of_some _ (hH2▸Heap.get?_push_of_some _ e));have hD1:h₁.get? s.heap.objs.size=some {cls:=.type "list",data:=.seq ([]:List Value).toArray 0}:=aa6.extBut _ _ hDC (Heap.get?_push_of_some _ (hH2▸Heap.get?_push_size _ rfl));have hfo:∀ b∈fp,b < s.heap.objs.size:=fun b hbm=>by
    obtain⟨o,e,_⟩:=T.obj 0 s.heap st b hbm;exact Heap.lt_size e
  have hDn:H s.heap.objs.size=none:=I.Zw.fresh (Nat.le_refl _)
  -- what stays true of the made list's place
  have acO:s.heap.objs.size∉frs X.stack:=fun hm=>by
    rcases List.mem_cons.mp (I.Bf _ hm) with z|z
    · exact absurd I.lt (by rw[<- z];exact Nat.lt_irrefl _)
    · exact I.Xf (Nat.le_refl _) z
  have abV:∀ y c,cl.lookup y=some c->c≠s.heap.objs.size:=fun y c e z=>by
    obtain⟨v,q⟩:=I.cell y c (S.sub y c e);exact absurd q.lt (by rw[z];exact Nat.lt_irrefl _)
  have acN:∀ p∈X.pn++Zr,p.1≠s.heap.objs.size:=fun p hp z=>absurd (Heap.lt_size (I.pin p hp).1) (by rw[z];exact Nat.lt_irrefl _);have Dfp:s.heap.objs.size∉fp:=fun hm=>Nat.lt_irrefl _ (hfo _ hm);have loop:∀ s₃:Shared,s₃={s with heap:=h₁,toks:=s.toks+([]:List (Str×Value)).length} ->
      codeAny (model X.prog X.w) X.A (.compLoop (.ListComp elt [⟨.Name x px,iter,ifs,0⟩] sc pos) 0 (.ref it) (.ref s.heap.objs.size) (compEnvC sc cl G2.objs.size X.env)) (RR (.ref s.heap.objs.size) G2.objs.size) s₃:=by
    rintro s₃ rfl;have I0:Zt (dS X sc cl G2.objs.size N s H fp (X.pn++Zr)) [] (none::bF fr σ) H {s with heap:=h₁,toks:=s.toks+([]:List (Str×Value)).length}:=Ki I S hf hfo hC abK old;refine DZ (fun n s'=>∃(i:Nat) (xs:List V) (vals:List Value) (k:Nat) (v0:Option V) (H':Hp),Zt (dS X sc cl G2.objs.size N s H fp (X.pn++Zr)) [] (v0::bF fr σ) H' s'/\tn i s'.heap/\(∀ b∈fp,H' b=none) /\
      s'.heap.get? s.heap.objs.size=some {cls:=.type "list",data:=.seq vals.toArray k}/\Vals xs vals/\H' s.heap.objs.size=none/\W i n xs H') ?_ m0
      ⟨0,[],[],0,none,H,I0,T.keep _ _ _ st fun b _ o e=>old b o e,fun b hb=>(hf b hb).1,hD1,.nil,hDn,w0⟩
    rintro n s1 ⟨i,xs,vals,k,v0,H1,I1,st1,fr1,hg1,rv1,acS,w1⟩;have hlen:=rv1.length;obtain⟨hz,step⟩:=turn i n xs H1 w1;have hz2:xs.length<=sizeLine:=Nat.le_trans hz (by decide);have aaJ:∀ {H':Hp} {pl:List (Addr×Obj)},(∀ b∈fp,H' b=none)->(∀ p∈pl,p.1=s.heap.objs.size)->∀ b∈fp,sG (dS X sc cl G2.objs.size N s H fp (X.pn++Zr)) pl H' b:=fun {H' pl} hn hpl b hb =>
      ⟨hn b hb,below b (hfo b hb),nostk I (hf b hb).2.1 (hf b hb).2.2.1,.inl hb,fun y c e=>(hf b hb).2.2.2.2.1 y c (S.sub y c e),fun p hp z=>by
        rcases List.mem_append.mp hp with q|q
        · exact(hf b hb).2.2.2.2.2 p q z
        · exact Dfp (by rw[<- hpl p q,z];exact hb)⟩
    have I1':Zt (dS X sc cl G2.objs.size N s H fp (X.pn++Zr)) [(s.heap.objs.size,{cls:=.type "list",data:=.seq vals.toArray k})] (v0::bF fr σ) H1 s1:=I1.tP fun p hp=>by
      have e:p=(s.heap.objs.size,{cls:=.type "list",data:=.seq vals.toArray k}):=by simpa using hp
      subst e;exact⟨hg1,acS,hDC,acO,fun v z=>by cases z⟩
    rcases step with⟨stop,hq⟩|⟨go,step⟩
    · refine thn (T.done (dS X sc cl G2.objs.size N s H fp (X.pn++Zr)) rfl rfl rfl hc i [(s.heap.objs.size,{cls:=.type "list",data:=.seq vals.toArray k})] s1 _ H1 _ I1' (aaJ fr1 fun p hp=>by
        have e:p=(s.heap.objs.size,{cls:=.type "list",data:=.seq vals.toArray k}):=by simpa using hp
        rw[e]) st1 stop) fun r s2 ⟨hr,I2⟩=>?_
      subst hr;obtain⟨g2,n2,_⟩:=I2.pin (s.heap.objs.size,{cls:=.type "list",data:=.seq vals.toArray k}) (List.mem_append_right _ (by simp));obtain⟨m2,hn2,_⟩:=I2.loc;have hCn:Zs H1 s.heap.objs.size (.lst xs) G2.objs.size=none:=by
        rw[aG (Ne.symm hDC)];exact I2.free
      exact fin s.heap.objs.size G2.objs.size s2 m2 _ hn2 (I.Fy hC hCn) (fun h' hs'=>Kh I hf I2 hC (Nat.le_refl _) hDC n2 g2 rv1 hz2 hs') (hq _ n2)
    · refine thn (T.item (dS X sc cl G2.objs.size N s H fp (X.pn++Zr)) rfl rfl rfl hc i [(s.heap.objs.size,{cls:=.type "list",data:=.seq vals.toArray k})] s1 _ H1 _ I1' (aaJ fr1 fun p hp=>by
        have e:p=(s.heap.objs.size,{cls:=.type "list",data:=.seq vals.toArray k}):=by simpa using hp
        rw[e]) st1 go) fun r s2 ⟨u,hr,h2⟩=>?_
      subst hr;refine thn h2 fun _ s3 ⟨y,H3,I3,r3,y3,st3,fr3⟩=>?_;have I3':=I3.pinned (aaJ fr3 fun p hp=>by
        have e:p=(s.heap.objs.size,{cls:=.type "list",data:=.seq vals.toArray k}):=by simpa using hp
        rw[e]) (T.obj _ _ st3)
      -- what the Zr say again behind each part
      have back:∀ {σ9:St} {H9:Hp} {s9:Shared},Zt (dS X sc cl G2.objs.size N s H fp (X.pn++Zr)) ([(s.heap.objs.size,{cls:=.type "list",data:=.seq vals.toArray k})]++AF fp s3.heap) σ9 H9 s9 ->
          tn (i+1) s9.heap/\(∀ b∈fp,H9 b=none)/\s9.heap.get? s.heap.objs.size=some {cls:=.type "list",data:=.seq vals.toArray k}/\H9 s.heap.objs.size=none:=fun {σ9 H9 s9} I9=>by
        refine⟨T.keep _ _ _ st3 fun b hb o e=>(I9.pin (b,o) (List.mem_append_right _ (List.mem_append_right _ (mP hb e)))).1,fun b hb=>?_,?_⟩
        · obtain⟨o,e,d⟩:=T.obj _ _ st3 b hb;exact(I9.pin (b,o) (List.mem_append_right _ (List.mem_append_right _ (mP hb e)))).2.1
        · obtain⟨a1,a2,_⟩:=I9.pin (s.heap.objs.size,{cls:=.type "list",data:=.seq vals.toArray k}) (List.mem_append_right _ (List.mem_append_left _ (by simp)));exact⟨a1,a2⟩
      have hN0:(dS X sc cl G2.objs.size N s H fp (X.pn++Zr)).N[0]?=some x:=by
        show N[0]?=some x;rw[S.N0];rfl
      have ab8:(relabel sc X.env).names.lookup x=some .local:=lookup_relabel_local S.tgt;have hpg:PG (dS X sc cl G2.objs.size N s H fp (X.pn++Zr)) (.Name x px) (zU 0):=mT (i:=0) S.nd hN0 (.inl ab8) (.inr ab8);have noX:∀ e s',(dS X sc cl G2.objs.size N s H fp (X.pn++Zr)).xe e s'->Am X.prog X.w X.A (compEnvC sc cl G2.objs.size X.env) (RR (.ref s.heap.objs.size) G2.objs.size) e s':=fun e s' z=>(hx e s' z).elim;have acC:=step y H3 y3;refine wpAny_mono (hpg _ s3 _ H3 y u (fun σ' H'=>σ'=some y::bF fr σ/\H'=H3) I3' r3 ⟨rfl,rfl⟩) (fun _ s4 ⟨σ4,H4,I4,e4,e4'⟩=>?_) noX;subst e4 e4';obtain⟨hbT,hbE⟩:=hb G2.objs.size s H fp (X.pn++Zr);refine wpAny_mono (hbT _ s4 _ H4 _ I4 acC) (fun ok s5 ⟨H5,I5,q5⟩=>?_) noX;cases ok with
      | false =>
        rw[if_neg Bool.false_ne_true];have q5':∃ m',m' < n/\W (i+1) m' xs H5:=q5;obtain⟨m',hm,w5⟩:=q5';obtain⟨b1,b2,b3,b4⟩:=back I5;exact⟨m',hm,i+1,xs,vals,k,some y,H5,I5.tP (fun p hp=>absurd hp (by simp)),b1,b2,b3,rv1,b4,w5⟩
      | true =>
        rw[if_pos rfl];refine wpAny_mono (hbE _ s5 _ H5 _ I5 q5) (fun z s6 ⟨v6,H6,I6,r6,q6⟩=>?_) noX;obtain⟨m',hm,w6⟩:=q6;obtain⟨b1,b2,b3,b4⟩:=back I6;refine call_meets F.slot_list_append ⟨_,b3,rfl⟩ F.entry_list_append (F.args_list_append_2 _ _) (PySem.list_append s.heap.objs.size vals.toArray k z (by rw[List.size_toArray];omega)) ⟨b3,?_⟩;have q7:=PySem.IsL.update b3 (fun a:Array Value=>a.push z);have acA:vals.toArray.push z=(vals++[z]).toArray:=by simp
        rw[acA] at q7;have I6':Zt (dS X sc cl G2.objs.size N s H fp (X.pn++Zr)) [] (some y::bF fr σ) H6 s6:=I6.tP (fun p hp=>absurd hp (by simp));have others:∀ b o,b≠s.heap.objs.size->s6.heap.get? b=some o->(s6.heap.update s.heap.objs.size (Obj.mapSeq fun a=>a.push z)).get? b=some o:=fun b o hb' e=>(Heap.get?_update_other _ _ (Ne.symm hb')).trans e;refine⟨m',hm,i+1,xs++[v6],vals++[z],_,some y,H6,I6'.turned (it:=s.heap.objs.size) others b4 hDC (.inr (Nat.le_refl _)) abV (fun p hp z'=>?_),T.keep _ _ _ b1 fun b hb' o e=>others b o (fun z'=>Dfp (by rw[<- z'];exact hb')) e,b2,q7,rv1.append (.cons r6 .nil),b4,w6⟩;have hp':p∈X.pn++Zr:=by
          have z2:p∈(X.pn++Zr)++[]:=hp;simpa using z2
        exact acN p hp' z'
  exact codeAny_compStart_list (loop _ rfl) (T.self _ _ _ _ _ (T.keep _ _ _ st fun b _ o e=>old b o e) (loop _ rfl))
theorem xW(hc:X.calm=true)(hx:∀ e s,¬ X.xe e s)(S:eF X sc cl x fr N)(hi:PI X (.Name x px) iter wi)
    (hb:∀ C s H ex pn,PTs (dS X sc cl C N s H ex pn) ifs tc/\PE (dS X sc cl C N s H ex pn) elt te)
    (hs:∀ v,foldedSetIterable iter X.env v=pure v:=by intro _;rfl):PE X (.ListComp elt [⟨.Name x px,iter,ifs,0⟩] sc pos) (kP wi fr tc te):=by
  intro Zr s σ H Q I h;unfold kP at h;rw[eval_ListComp];refine wpAny_comprehension_free (use:=none) rfl hs S.DX S.kind S.names ?_;refine thn (hi Zr s σ H _ I h) fun v s1 h1=>thn h1 fun itv s2 h2=>?_;obtain⟨it,fp,tn,J,H2,e,I2,T,st2,f2,W,⟨m0,w0⟩,turn⟩:=h2;subst e;refine yT (RR:=fun acc C=>compPost (model X.prog X.w) X.A X.xe none (EP X Zr σ Q) acc C) hc hx S hb I2 T st2 f2 w0 turn ?_;intro D C s' m' H' hn _ abI q;exact⟨m',hn,fun h' hs'=>⟨.ref D,H',abI h' hs',rfl,q⟩⟩
end
theorem eF.dX{X:Cx}{sc:Scope}{x:Str}(kind:sc.kind=.function)(nc:(sc.names.all fun y=>y.2 !=.cell&&y.2 !=.free)=true)
    (nm:(sc.names.all fun y=>!(y.2==.local)||sc.names.lookup y.1==some .local)=true) (tgt:sc.names.lookup x=some .local):eF X sc [] x [] [x] where
  kind:=kind
  Al:=fun y hy e=>by
    have h:=List.all_eq_true.mp nc y hy;rw[e] at h;exact absurd h (by decide)
  names:=fun y hy e=>by
    have h:=List.all_eq_true.mp nm y hy;rw[e] at h;simpa using h
  DX:=closureFor_none fun y hy e=>by
    have h:=List.all_eq_true.mp nc y hy;rw[e] at h;exact absurd h (by decide)
  sub:=fun y c h=>by cases h
  has:=fun y h=>by
    exfalso;have key:∀ l:List (Str×NameKind),(l.all fun y=>y.2 !=.cell&&y.2 !=.free)=true->∀ k,(l.map fun(n,k)=>if (k==NameKind.free&&X.env.scope.kind==.function&&X.env.kindOf n==some .cell) then (n,NameKind.cell) else (n,k)).lookup y=some k->k≠.cell/\k≠.free:=by
      intro l
      induction l with
      | nil=>intro _ k e;cases e
      | cons p r ih =>
        obtain⟨n,kk⟩:=p;intro ha k e;rw[List.all_cons,Bool.and_eq_true,Bool.and_eq_true] at ha;obtain⟨⟨h1,h2⟩,h3⟩:=ha;have h2':(kk==NameKind.free)=false:=by simpa using h2
        rw[List.map_cons] at e;dsimp only at e;rw[h2',Bool.false_and,Bool.false_and,if_neg Bool.false_ne_true,List.lookup_cons] at e;cases q:(y==n) with
        | true =>
          rw[q] at e;have e':kk=k:=Option.some.inj e;subst e';exact⟨by simpa using h1,by simpa using h2⟩
        | false =>
          rw[q] at e;exact ih h3 k e
    rcases h with h|h
    · exact(key sc.names nc _ h).1 rfl
    · exact(key sc.names nc _ h).2 rfl
  tgt:=tgt
  nd:=by simp
  N0:=rfl
  frc:=fun j hj=>by cases hj
section
variable {X:Cx}
theorem Uu:MV X (fun x lo hi H Q=>∃ z,x=.str z/\z.length<=sizeLine/\Q (.str (Txt.slice z lo hi)) H):=by
 intro Zr s σ H x v vl vu lo hi sl Q I rx hs pl pu h;obtain⟨z,rfl,hz,q⟩:=h;obtain⟨t,rfl⟩:=rx;have fin:∀ t' k,EP X Zr σ Q (.str (Txt.slice z lo hi) t') {s with toks:=k}:=fun t' k=>⟨.str _,H,I.tok _,⟨_,rfl⟩,q⟩;refine⟨"str",_,F.slot_str_getitem.lookup,typeIs_str s z t,?_⟩;cases pl with
 | none =>
  cases pu with
  | none=>exact wpAny_getItem_str_slice (l:=none) (u:=none) (st:=none) hs rfl (post_val_or_str ⟨Nat.le_trans (Txt.slice_le z _ _) hz,fin⟩)
  | int j uj=>exact wpAny_getItem_str_slice (l:=none) (u:=some (j,uj)) (st:=none) hs rfl (post_val_or_str ⟨Nat.le_trans (Txt.slice_le z _ _) hz,fin⟩)
 | int i ui =>
  cases pu with
  | none=>exact wpAny_getItem_str_slice (l:=some (i,ui)) (u:=none) (st:=none) hs rfl (post_val_or_str ⟨Nat.le_trans (Txt.slice_le z _ _) hz,fin⟩)
  | int j uj=>exact wpAny_getItem_str_slice (l:=some (i,ui)) (u:=some (j,uj)) (st:=none) hs rfl (post_val_or_str ⟨Nat.le_trans (Txt.slice_le z _ _) hz,fin⟩)
end
noncomputable def Its(x:Str):It:=⟨fun i _=>i < x.cps.size,fun i H y H'=>H'=H/\∃ c,x.cps[i]?=some c/\y=.str ⟨#[c]⟩,fun i _=>x.cps.size<=i⟩
section
variable {X:Cx} {tg:Expr}
noncomputable def WW(tl:TE):TI:=fun σ H R=>tl σ H fun x H1=>∃ z,x=.str z/\R (Its z) H1
end
noncomputable def cW(n:Nat)(Pv:Nat->List V->Hp->Prop)(i m:Nat)(xs:List V)(H:Hp):Prop:=m=n - i/\i<=n/\Pv i xs H
theorem cW.next{n:Nat}{Pv:Nat->List V->Hp->Prop}{i:Nat}{xs:List V}{H:Hp}(hi:i < n)(p:Pv (i+1) xs H):∃ m',m' < n - i/\cW n Pv (i+1) m' xs H:=⟨n - (i+1),by omega,rfl,hi,p⟩
section
variable {fr:List Nat} {tc:TT} {te:TE} {σ:St} {H:Hp} {Q:VK}
theorem Ik{K:q0B}{a:Addr}{ys:List V}(Pv:Nat->List V->Hp->Prop)(h0:Pv 0 [] H)(hz:∀ i xs H,Pv i xs H->xs.length<=1000000)(hl:∀ i xs H,Pv i xs H->dC K H a ys)
    (hs:∀ i y xs H,i < ys.length->ys[i]?=some y->Pv i xs H->tc (some y::bF fr σ) H fun b H2=>if b=true then te (some y::bF fr σ) H2 (fun z H3=>∃ m',m' < ys.length - i/\cW ys.length Pv (i+1) m' (xs++[z]) H3) else ∃ m',m' < ys.length - i/\cW ys.length Pv (i+1) m' xs H2)
    (hd:∀ xs H,Pv ys.length xs H->∀ p,H p=none->Q (.ref p) (Zs H p (.lst xs))) :
    ∃ W:Nat->Nat->List V->Hp->Prop,(∃ m,W 0 m [] H)/\∀ i m xs H,W i m xs H->xs.length<=1000000 /\
      (((Itl K a).stop i H/\∀ p,H p=none->Q (.ref p) (Zs H p (.lst xs))) \/
       ((Itl K a).go i H/\∀ y H',(Itl K a).yld i H y H'->tc (some y::bF fr σ) H' fun b H2=>if b=true then te (some y::bF fr σ) H2 (fun z H3=>∃ m',m' < m/\W (i+1) m' (xs++[z]) H3) else ∃ m',m' < m/\W (i+1) m' xs H2)):=by
  refine⟨cW ys.length Pv,⟨ys.length,by simp,Nat.zero_le _,h0⟩,?_⟩;rintro i m xs H ⟨rfl,hi,p⟩;refine⟨hz i xs H p,?_⟩;have q:=hl i xs H p;by_cases Z5:i < ys.length
  · refine .inr ⟨⟨ys,ys[i],q,by simp[Z5]⟩,fun y H' yy=>?_⟩;obtain⟨e,yy⟩:=yy;subst e;exact hs i y xs _ Z5 (yy ys q) p
  · have e:i=ys.length:=by omega
    subst e;exact .inl ⟨⟨ys,q,Nat.le_refl _⟩,hd xs H p⟩
theorem Fj{lo:Int}{n:Nat}(Pv:Nat->List V->Hp->Prop)(h0:Pv 0 [] H)(hz:∀ i xs H,Pv i xs H->xs.length<=1000000)
    (hs:∀ i xs H,i < n->Pv i xs H->tc (some (.int (lo+i))::bF fr σ) H fun b H2=>if b=true then te (some (.int (lo+i))::bF fr σ) H2 (fun z H3=>∃ m',m' < n - i/\cW n Pv (i+1) m' (xs++[z]) H3) else ∃ m',m' < n - i/\cW n Pv (i+1) m' xs H2)
    (hd:∀ xs H,Pv n xs H->∀ p,H p=none->Q (.ref p) (Zs H p (.lst xs))) :
    ∃ W:Nat->Nat->List V->Hp->Prop,(∃ m,W 0 m [] H)/\∀ i m xs H,W i m xs H->xs.length<=1000000 /\
      (((Itr lo n).stop i H/\∀ p,H p=none->Q (.ref p) (Zs H p (.lst xs))) \/
       ((Itr lo n).go i H/\∀ y H',(Itr lo n).yld i H y H'->tc (some y::bF fr σ) H' fun b H2=>if b=true then te (some y::bF fr σ) H2 (fun z H3=>∃ m',m' < m/\W (i+1) m' (xs++[z]) H3) else ∃ m',m' < m/\W (i+1) m' xs H2)):=by
  refine⟨cW n Pv,⟨n,by simp,Nat.zero_le _,h0⟩,?_⟩;rintro i m xs H ⟨rfl,hi,p⟩;refine⟨hz i xs H p,?_⟩;by_cases Z5:i < n
  · refine .inr ⟨Z5,fun y H' yy=>?_⟩;obtain⟨e,rfl⟩:=yy;subst e;exact hs i xs _ Z5 p
  · have e:i=n:=by omega
    subst e;exact .inl ⟨Nat.le_refl _,hd xs H p⟩
end
section
variable {fr:List Nat} {tc:TT} {te:TE} {σ:St} {H H1:Hp} {Q:VK}
end
theorem Ag{l:List (Str×NameKind)}{y:Str}{k:NameKind}(h:l.lookup y=some k):(y,k)∈l:=PySem.mem_of_lookup h
theorem eF.free{X:Cx}{sc:Scope}{cl:List (Str×Addr)}{x:Str}{fr:List Nat}{N:List Str}(kind:sc.kind=.function)(nc:(sc.names.all fun y=>y.2 !=.cell)=true)
    (nm:(sc.names.all fun y=>!(y.2==.local)||sc.names.lookup y.1==some .local)=true) (tgt:sc.names.lookup x=some .local) (DX:closureFor sc X.env=pure cl)
    (sub:∀ y c,cl.lookup y=some c->X.env.cells.lookup y=some c) (has:((relabel sc X.env).names.all fun y=>(y.2 !=.cell&&y.2 !=.free)||(cl.lookup y.1).isSome)=true)
    (nd:N.Nodup) (N0:N=x::fr.map fun j=>X.N.getD j x) (frc:∀ j∈fr,∃ y,X.N[j]?=some y/\X.env.kindOf y=some .cell/\((relabel sc X.env).names.lookup y=some .cell\/(relabel sc X.env).names.lookup y=some .free)):eF X sc cl x fr N where
  kind:=kind
  Al:=fun y hy e=>by
    have h:=List.all_eq_true.mp nc y hy;rw[e] at h;exact absurd h (by decide)
  names:=fun y hy e=>by
    have h:=List.all_eq_true.mp nm y hy;rw[e] at h;simpa using h
  DX:=DX
  sub:=sub
  has:=fun y h=>by
    have key:∀ k,(relabel sc X.env).names.lookup y=some k->(k=.cell\/k=.free)->∃ c,cl.lookup y=some c:=fun k e hk=>by
      have h:=List.all_eq_true.mp has (y,k) (Ag e);rcases hk with rfl|rfl
      · exact Option.isSome_iff_exists.mp (by simpa using h)
      · exact Option.isSome_iff_exists.mp (by simpa using h)
    rcases h with h|h
    · exact key _ h (.inl rfl)
    · exact key _ h (.inr rfl)
  tgt:=tgt
  nd:=nd
  N0:=N0
  frc:=frc
section
variable {X:Cx} {sc:Scope} {cl:List (Str×Addr)} {x:Str} {fr:List Nat} {N:List Str} {elt iter:Expr} {px pos:Pos} {ifs:List Expr} {wi:TI} {tc:TT} {te:TE}
theorem kJ{i:Nat}{y:Str}{py acM:Pos}(hc:X.calm=true)(hx:∀ e s,¬ X.xe e s)(S:eF X sc cl x fr N)(hi:PI X (.Name x px) iter wi)
    (hb:∀ C s H ex pn,PTs (dS X sc cl C N s H ex pn) ifs tc/\PE (dS X sc cl C N s H ex pn) elt te)
    (hN:X.N.Nodup) (hy:X.N[i]?=some y) (hl:Loc X.env.scope y) (hsw:swapsWith (.ListComp elt [⟨.Name x px,iter,ifs,0⟩] sc pos) (some (.Name y py)) acM.line X.env=pure true:=by rfl)
    (hs:∀ v,foldedSetIterable iter X.env v=pure v:=by intro _;rfl) (hf:X.fn y=true\/X.env.scope.names.lookup y=some .local:=by first|exact .inl rfl|exact .inr rfl|assumption) :
    PS X (.Assign [.Name y py] (.ListComp elt [⟨.Name x px,iter,ifs,0⟩] sc pos) acM) (PD (kP wi fr tc te) (zU i)):=by
  intro Zr s σ H D I h;have h:kP wi fr tc te σ H (fun x H1=>zU i x σ H1 D.nx):=h;unfold kP at h;rw[exec_Assign_Name_used _ _ _ _ hsw];refine wpAny_bind (wpAny_standAt (wpAny_bind ?_));show wpAny _ X.A (do let _ <- comprehension (.ListComp elt [⟨.Name x px,iter,ifs,0⟩] sc pos) sc X.env _ (newList []) false (eval iter X.env) (some (assign (.Name y py) X.env))) _ _ s;refine wpAny_bind (wpAny_mono (wpAny_comprehension_free (use:=some (assign (.Name y py) X.env)) (Q:=fun _ s'=>SP X Zr D .next s') rfl hs S.DX S.kind S.names
    (thn (hi Zr s σ H _ I h) fun v s1 h1=>thn h1 fun itv s2 h2=>?_)) (fun _ s' hq=>wpAny_pure (wpAny_pure hq)) fun _ _ e=>e)
  obtain⟨it,fp,tn,J,H2,e,I2,T,st2,f2,W,⟨m0,w0⟩,turn⟩:=h2;subst e;refine yT (Q:=fun x H1=>zU i x σ H1 D.nx) (RR:=fun acc C=>compPost (model X.prog X.w) X.A X.xe (some (assign (.Name y py) X.env)) (fun _ s'=>SP X Zr D .next s') acc C) hc hx S hb I2 T st2 f2 w0 turn ?_;intro D' C s' m' H' hn fC abI q;show wpAny _ X.A (assign (.Name y py) X.env (.ref D')) _ _ _;have I':Zt X Zr σ H' s':=abI s'.heap (Heap.SameBut.refl ..);refine wpAny_assign_Name (Cn (v:=.ref D') I' hN hy hl rfl (fun s'' I'' ⟨a,hsa,ha⟩=>?_) hf);obtain⟨f0,f1,f2',f3,f4,f5⟩:=fC;have hCa:C≠a:=fun z=>by
    rcases ha with ha|ha
    · exact f1 (z.trans ha)
    · exact f4 y a ha z.symm
  refine⟨m',hn.sameBut hsa hCa,fun h' hs'=>?_⟩;exact⟨σ.set i (some (.ref D')),H',I''.turned (t':=s''.toks) (fun b o hb' e=>(hs'.2 b hb').trans e) f0 f1 f3 f4 f5,q⟩
end
section
variable {prog:Program} {w:World} {A:Around} {E:q0A} {s:Shared}
end
section
variable {σ:St} {H:Hp} {Q:VK} {i j:Int} {x y:Str} {v:V} {n:Nat} {a:Addr}
theorem QB:eD 0 (some v::σ) H Q=Q v H:=by simp[eD]
theorem gJ{o:Option V}:eD (n+1) (o::σ) H Q=eD n σ H Q:=by simp[eD]
theorem XU{o0:Option V}:eD 1 (o0::some v::σ) H Q=Q v H:=(gJ.trans QB)
theorem XW{o0 o1:Option V}:eD 2 (o0::o1::some v::σ) H Q=Q v H:=(gJ.trans XU)
theorem XX{o0 o1 o2:Option V}:eD 3 (o0::o1::o2::some v::σ) H Q=Q v H:=(gJ.trans XW)
theorem XZ{o0 o1 o2 o3:Option V}:eD 4 (o0::o1::o2::o3::some v::σ) H Q=Q v H:=(gJ.trans XX)
theorem X0{o0 o1 o2 o3 o4:Option V}:eD 5 (o0::o1::o2::o3::o4::some v::σ) H Q=Q v H:=(gJ.trans XZ)
theorem X1{o0 o1 o2 o3 o4 o5:Option V}:eD 6 (o0::o1::o2::o3::o4::o5::some v::σ) H Q=Q v H:=(gJ.trans X0)
theorem X2{o0 o1 o2 o3 o4 o5 o6:Option V}:eD 7 (o0::o1::o2::o3::o4::o5::o6::some v::σ) H Q=Q v H:=(gJ.trans X1)
theorem X3{o0 o1 o2 o3 o4 o5 o6 o7:Option V}:eD 8 (o0::o1::o2::o3::o4::o5::o6::o7::some v::σ) H Q=Q v H:=(gJ.trans X2)
theorem X4{o0 o1 o2 o3 o4 o5 o6 o7 o8:Option V}:eD 9 (o0::o1::o2::o3::o4::o5::o6::o7::o8::some v::σ) H Q=Q v H:=(gJ.trans X3)
theorem QC{o0 o1 o2 o3 o4 o5 o6 o7 o8 o9:Option V}:eD 10 (o0::o1::o2::o3::o4::o5::o6::o7::o8::o9::some v::σ) H Q=Q v H:=(gJ.trans X4)
theorem QD{o0 o1 o2 o3 o4 o5 o6 o7 o8 o9 ZR:Option V}:eD 11 (o0::o1::o2::o3::o4::o5::o6::o7::o8::o9::ZR::some v::σ) H Q=Q v H:=(gJ.trans QC)
theorem QE{o0 o1 o2 o3 o4 o5 o6 o7 o8 o9 ZR ZT:Option V}:eD 12 (o0::o1::o2::o3::o4::o5::o6::o7::o8::o9::ZR::ZT::some v::σ) H Q=Q v H:=(gJ.trans QD)
theorem QF{o0 o1 o2 o3 o4 o5 o6 o7 o8 o9 ZR ZT ZV:Option V}:eD 13 (o0::o1::o2::o3::o4::o5::o6::o7::o8::o9::ZR::ZT::ZV::some v::σ) H Q=Q v H:=(gJ.trans QE)
theorem QG{o0 o1 o2 o3 o4 o5 o6 o7 o8 o9 ZR ZT ZV Z2:Option V}:eD 14 (o0::o1::o2::o3::o4::o5::o6::o7::o8::o9::ZR::ZT::ZV::Z2::some v::σ) H Q=Q v H:=(gJ.trans QF)
theorem QH{o0 o1 o2 o3 o4 o5 o6 o7 o8 o9 ZR ZT ZV Z2 Z4:Option V}:eD 15 (o0::o1::o2::o3::o4::o5::o6::o7::o8::o9::ZR::ZT::ZV::Z2::Z4::some v::σ) H Q=Q v H:=(gJ.trans QG)
theorem QI{o0 o1 o2 o3 o4 o5 o6 o7 o8 o9 ZR ZT ZV Z2 Z4 Z9:Option V}:eD 16 (o0::o1::o2::o3::o4::o5::o6::o7::o8::o9::ZR::ZT::ZV::Z2::Z4::Z9::some v::σ) H Q=Q v H:=(gJ.trans QH)
theorem QJ{o0 o1 o2 o3 o4 o5 o6 o7 o8 o9 ZR ZT ZV Z2 Z4 Z9 o16:Option V}:eD 17 (o0::o1::o2::o3::o4::o5::o6::o7::o8::o9::ZR::ZT::ZV::Z2::Z4::Z9::o16::some v::σ) H Q=Q v H:=(gJ.trans QI)
theorem QK{o0 o1 o2 o3 o4 o5 o6 o7 o8 o9 ZR ZT ZV Z2 Z4 Z9 o16 o17:Option V}:eD 18 (o0::o1::o2::o3::o4::o5::o6::o7::o8::o9::ZR::ZT::ZV::Z2::Z4::Z9::o16::o17::some v::σ) H Q=Q v H:=(gJ.trans QJ)
theorem QL{o0 o1 o2 o3 o4 o5 o6 o7 o8 o9 ZR ZT ZV Z2 Z4 Z9 o16 o17 o18:Option V}:eD 19 (o0::o1::o2::o3::o4::o5::o6::o7::o8::o9::ZR::ZT::ZV::Z2::Z4::Z9::o16::o17::o18::some v::σ) H Q=Q v H:=(gJ.trans QK)
theorem QM{o0 o1 o2 o3 o4 o5 o6 o7 o8 o9 ZR ZT ZV Z2 Z4 Z9 o16 o17 o18 o19:Option V}:eD 20 (o0::o1::o2::o3::o4::o5::o6::o7::o8::o9::ZR::ZT::ZV::Z2::Z4::Z9::o16::o17::o18::o19::some v::σ) H Q=Q v H:=(gJ.trans QL)
theorem QN{o0 o1 o2 o3 o4 o5 o6 o7 o8 o9 ZR ZT ZV Z2 Z4 Z9 o16 o17 o18 o19 o20:Option V}:eD 21 (o0::o1::o2::o3::o4::o5::o6::o7::o8::o9::ZR::ZT::ZV::Z2::Z4::Z9::o16::o17::o18::o19::o20::some v::σ) H Q=Q v H:=(gJ.trans QM)
theorem QO{o0 o1 o2 o3 o4 o5 o6 o7 o8 o9 ZR ZT ZV Z2 Z4 Z9 o16 o17 o18 o19 o20 o21:Option V}:eD 22 (o0::o1::o2::o3::o4::o5::o6::o7::o8::o9::ZR::ZT::ZV::Z2::Z4::Z9::o16::o17::o18::o19::o20::o21::some v::σ) H Q=Q v H:=(gJ.trans QN)
theorem QP{o0 o1 o2 o3 o4 o5 o6 o7 o8 o9 ZR ZT ZV Z2 Z4 Z9 o16 o17 o18 o19 o20 o21 o22:Option V}:eD 23 (o0::o1::o2::o3::o4::o5::o6::o7::o8::o9::ZR::ZT::ZV::Z2::Z4::Z9::o16::o17::o18::o19::o20::o21::o22::some v::σ) H Q=Q v H:=(gJ.trans QO)
theorem QQ{o0 o1 o2 o3 o4 o5 o6 o7 o8 o9 ZR ZT ZV Z2 Z4 Z9 o16 o17 o18 o19 o20 o21 o22 o23:Option V}:eD 24 (o0::o1::o2::o3::o4::o5::o6::o7::o8::o9::ZR::ZT::ZV::Z2::Z4::Z9::o16::o17::o18::o19::o20::o21::o22::o23::some v::σ) H Q=Q v H:=(gJ.trans QP)
theorem QR{o0 o1 o2 o3 o4 o5 o6 o7 o8 o9 ZR ZT ZV Z2 Z4 Z9 o16 o17 o18 o19 o20 o21 o22 o23 o24:Option V}:eD 25 (o0::o1::o2::o3::o4::o5::o6::o7::o8::o9::ZR::ZT::ZV::Z2::Z4::Z9::o16::o17::o18::o19::o20::o21::o22::o23::o24::some v::σ) H Q=Q v H:=(gJ.trans QQ)
theorem QT{o0 o1 o2 o3 o4 o5 o6 o7 o8 o9 ZR ZT ZV Z2 Z4 Z9 o16 o17 o18 o19 o20 o21 o22 o23 o24 o25:Option V}:eD 26 (o0::o1::o2::o3::o4::o5::o6::o7::o8::o9::ZR::ZT::ZV::Z2::Z4::Z9::o16::o17::o18::o19::o20::o21::o22::o23::o24::o25::some v::σ) H Q=Q v H:=(gJ.trans QR)
theorem QU{o0 o1 o2 o3 o4 o5 o6 o7 o8 o9 ZR ZT ZV Z2 Z4 Z9 o16 o17 o18 o19 o20 o21 o22 o23 o24 o25 o26:Option V}:eD 27 (o0::o1::o2::o3::o4::o5::o6::o7::o8::o9::ZR::ZT::ZV::Z2::Z4::Z9::o16::o17::o18::o19::o20::o21::o22::o23::o24::o25::o26::some v::σ) H Q=Q v H:=(gJ.trans QT)
theorem QV{o0 o1 o2 o3 o4 o5 o6 o7 o8 o9 ZR ZT ZV Z2 Z4 Z9 o16 o17 o18 o19 o20 o21 o22 o23 o24 o25 o26 o27:Option V}:eD 28 (o0::o1::o2::o3::o4::o5::o6::o7::o8::o9::ZR::ZT::ZV::Z2::Z4::Z9::o16::o17::o18::o19::o20::o21::o22::o23::o24::o25::o26::o27::some v::σ) H Q=Q v H:=(gJ.trans QU)
theorem QW{o0 o1 o2 o3 o4 o5 o6 o7 o8 o9 ZR ZT ZV Z2 Z4 Z9 o16 o17 o18 o19 o20 o21 o22 o23 o24 o25 o26 o27 o28:Option V}:eD 29 (o0::o1::o2::o3::o4::o5::o6::o7::o8::o9::ZR::ZT::ZV::Z2::Z4::Z9::o16::o17::o18::o19::o20::o21::o22::o23::o24::o25::o26::o27::o28::some v::σ) H Q=Q v H:=(gJ.trans QV)
theorem XY{o0 o1 o2 o3 o4 o5 o6 o7 o8 o9 ZR ZT ZV Z2 Z4 Z9 o16 o17 o18 o19 o20 o21 o22 o23 o24 o25 o26 o27 o28 o29:Option V}:eD 30 (o0::o1::o2::o3::o4::o5::o6::o7::o8::o9::ZR::ZT::ZV::Z2::Z4::Z9::o16::o17::o18::o19::o20::o21::o22::o23::o24::o25::o26::o27::o28::o29::some v::σ) H Q=Q v H:=(gJ.trans QW)
theorem LP{α β:Type}{f:α->β}{a:α}{l:List α}:List.map f (a::l)=f a::List.map f l:=rfl
theorem Qg{α β:Type}{f:α->β}:List.map f []=[]:=rfl
theorem Y7{C:Int->Int->Prop}{g:Int->Int->V}:rI C g (.int i) (.int j) H Q=(C i j/\Q (g i j) H):=by simp[rI]
theorem XT{g:Int->Int->V}:Ql g (.int i) (.int j) H Q=Q (g i j) H:=by simp[Ql]
theorem Y8{g:Int->V}:rU g (.int i) H Q=Q (g i) H:=by simp[rU]
theorem w_lit(h:Nat.ble n 1000=true):(n<=sizeLine)=True:=eq_true (Nat.le_of_lt (small1000 (Nat.le_of_ble_eq_true h)))
theorem XO:EM (.int i) (.int j) H Q=Q (.bl (decide (i=j))) H:=by simp only[EM,show scal (.int i) (.int j)=true from rfl,V.int.injEq,true_and]
theorem XQ:EM (.str x) (.str y) H Q=Q (.bl (decide (x=y))) H:=by simp only[EM,show scal (.str x) (.str y)=true from rfl,V.str.injEq,true_and]
theorem XR:Uo (.int i) (.int j) H Q=Q (.bl (!decide (i=j))) H:=by simp only[Uo,show scal (.int i) (.int j)=true from rfl,V.int.injEq,true_and]
theorem XS:Uo (.str x) (.str y) H Q=Q (.bl (!decide (x=y))) H:=by simp only[Uo,show scal (.str x) (.str y)=true from rfl,V.str.injEq,true_and]
end
theorem pP{a b:String}:(Str.ofString a=Str.ofString b)=(a=b):=by
 refine propext ⟨fun h=>?_,fun h=>by rw[h]⟩;rw[Str.ofString_eq_toList,Str.ofString_eq_toList] at h;have e:(a.toList.map Char.toNat)=(b.toList.map Char.toNat):=by
  have:=congrArg (fun z:Str=>z.cps.toList) h;simpa using this
 have inj:∀ x y:Char,x.toNat=y.toNat->x=y:=fun x y q=>Char.ext (UInt32.toNat_inj.mp q);have:=(List.map_inj_right (f:=Char.toNat) (fun x y q=>inj x y q)).mp e;exact String.toList_inj.mp this
noncomputable def Kp(S:List Addr)(H H':Hp):Prop:=∀ b o,H b=some o->b∉S->H' b=some o
section
variable {S T:List Addr} {H H1 H2:Hp} {a p:Addr} {o:HO}
theorem Kp.refl:Kp S H H:=fun _ _ h _=>h
theorem Kp.trans(x:Kp S H H1)(y:Kp S H1 H2):Kp S H H2:=fun b o h n=>y b o (x b o h n) n
theorem Kp.mono(x:Kp S H H1)(h:∀ b∈S,b∈T):Kp T H H1:=fun b o e n=>x b o e fun z=>n (h b z)
theorem Kp.new(h:H p=none):Kp S H (Zs H p o):=fun b u e _=>by rw[aG (aJ e h)];exact e
theorem q0D(h:H p=none):Kp [] H (Zs H p o):=Kp.new h
theorem Kp.set(h:p∈S):Kp S H (Zs H p o):=fun b u e n=>by rw[aG (show b≠p from fun z=>n (by rw[z];exact h))];exact e
theorem Kp.at(x:Kp S H H1)(e:H a=some o)(n:a∉S:=by first|exact List.not_mem_nil|simp_all):H1 a=some o:=x a o e n
theorem Kp.same(x:Kp [] H H1):Same H H1:=fun b o e=>x b o e (by simp)
theorem Kp.of(x:Same H H1):Kp S H H1:=fun b o e _=>x b o e
theorem Kp.drop(x:Kp (p::S) H H1)(h:H p=none):Kp S H H1:=fun b o e n=>x b o e (by
 simp only[List.mem_cons,not_or];exact⟨aJ e h,n⟩)
end
noncomputable abbrev Tg{α:Type}(_:α):Type:=Unit
noncomputable def dI{α:Type}(o:Option α)(k:α->Prop)(_u:Tg k:=()):Prop:=match o with
 | some x=>k x
 | none=>False
noncomputable def MX(x:V)(k:Bool->Prop)(_u:Tg k:=()):Prop:=match x with
 | .bl b=>k b
 | _=>False
noncomputable def bW(o:Option HO)(k:List V->Prop)(_u:Tg k:=()):Prop:=match o with
 | some (.lst xs)=>k xs
 | _=>False
noncomputable def nG(o:Option HO)(k:List V->Prop)(_u:Tg k:=()):Prop:=match o with
 | some (.lst xs)=>k xs
 | some (.tup xs)=>k xs
 | _=>False
noncomputable def cH(o:Option HO)(k:List (Key×V)->Prop)(_u:Tg k:=()):Prop:=match o with
 | some (.dK xs)=>k xs
 | _=>False
noncomputable def aR(x:V)(k:Addr->Prop)(_u:Tg k:=()):Prop:=match x with
 | .ref p=>k p
 | _=>False
noncomputable def eR(x:V)(k:Int->Prop)(_u:Tg k:=()):Prop:=match x with
 | .int i=>k i
 | _=>False
theorem dE{α:Type}{o:Option α}{k:α->Prop}(h:dI o k):∃ x,o=some x/\k x:=by
 cases o with
 | none=>exact h.elim
 | some x=>exact⟨x,rfl,h⟩
theorem TZ{x:V}{k:Bool->Prop}(h:MX x k):∃ b,x=.bl b/\k b:=by
 cases x with
 | bl b=>exact⟨b,rfl,h⟩
 | _=>exact h.elim
theorem vI{x:V}{k:Bool->Prop}:(∃ b,x=.bl b/\k b)=MX x k:=by
 refine propext ⟨fun⟨b,e,h⟩=>by subst e;exact h,TZ⟩
theorem aT{x:V}{k:Addr->Prop}(h:aR x k):∃ b,x=.ref b/\k b:=by
 cases x with
 | ref b=>exact⟨b,rfl,h⟩
 | _=>exact h.elim
theorem dN{x:V}{k:Int->Prop}(h:eR x k):∃ b,x=.int b/\k b:=by
 cases x with
 | int b=>exact⟨b,rfl,h⟩
 | _=>exact h.elim
theorem fT{o:Option HO}{k:List V->Prop}(h:bW o k):∃ xs,o=some (.lst xs)/\k xs:=by
 unfold bW at h;split at h
 ·exact⟨_,rfl,h⟩
 ·exact h.elim
theorem pA{o:Option HO}{k:List V->Prop}(h:nG o k):∃ xs,(o=some (.lst xs)\/o=some (.tup xs))/\k xs:=by
 unfold nG at h;split at h
 ·exact⟨_,.inl rfl,h⟩
 ·exact⟨_,.inr rfl,h⟩
 ·exact h.elim
theorem c8{o:Option HO}{k:List (Key×V)->Prop}(h:cH o k):∃ xs,o=some (.dK xs)/\k xs:=by
 unfold cH at h;split at h
 ·exact⟨_,rfl,h⟩
 ·exact h.elim
noncomputable def Yp:R2:=fun x y H Q=>match x with
 | .ref p=>nG (H p) fun xs=>eR y fun i=>dI (iK xs i) fun v=>Q v H
 | .str z=>eR y fun i=>z.length<=sizeLine/\dI (iK z.cps.toList i) fun c=>Q (.str ⟨#[c]⟩) H
 | _=>False
noncomputable def Nh(H:Hp)(Q:VK)(a:Addr)(oa ob:Option HO):Prop:=match oa,ob with
 | some (.lst xs),some (.lst ys)=>xs.length+ys.length<=sizeLine/\∀ p,H p=none->Q (.ref p) (Zs H p (.lst (xs++ys)))
 | some (.tup xs),some (.tup ys)=>xs≠[]/\xs.length+ys.length<=sizeLine/\(ys≠[]->∀ p,H p=none->Q (.ref p) (Zs H p (.tup (xs++ys))))/\(ys=[]->Q (.ref a) H)
 | _,_=>False
noncomputable def JV:R2:=fun x y H Q=>match x,y with
 | .int i,.int j=>Q (.int (i+j)) H
 | .str a,.str b=>a.length+b.length<=sizeLine/\Q (.str (a++b)) H
 | .ref a,.ref b=>Nh H Q a (H a) (H b)
 | _,_=>False
noncomputable def JW(lo hi:Option Int)(H:Hp)(Q:VK)(o:Option HO):Prop:=match o with
 | some (.lst xs)=>∀ p,H p=none->Q (.ref p) (Zs H p (.lst (iF xs lo hi)))
 | some (.tup xs)=>¬ (HT.fM xs.length 0 lo=0/\HT.fM xs.length xs.length hi=xs.length)/\∀ p,H p=none->Q (.ref p) (Zs H p (.tup (iF xs lo hi)))
 | _=>False
noncomputable def X6:V->Option Int->Option Int->Hp->VK->Prop:=fun x lo hi H Q=>match x with
 | .str z=>z.length<=sizeLine/\Q (.str (Txt.slice z lo hi)) H
 | .ref a=>JW lo hi H Q (H a)
 | _=>False
noncomputable def Nk:List V->Hp->VK->Prop:=fun vs H Q=>match vs with
 | [.str z]=>z.length<=sizeLine/\Q (.int z.length) H
 | [.ref p]=>nG (H p) fun xs=>Q (.int xs.length) H
 | _=>False
noncomputable def Vq:V->V->V->Hp->(Hp->Prop)->Prop:=fun o i v H Q=>aR o fun p=>eR i fun k=>bW (H p) fun xs=>dI (DH xs.length k) fun j=>Q (Zs H p (.lst (xs.set j v)))
noncomputable def kT:V->Option Key
 | .int i=>some (.inl i)
 | .str x=>some (.inr x)
 | .Zu=>some .no
 | _=>none
theorem Dc{y:V}{k:Key}(h:kT y=some k):y=kV k:=by
 cases y<;>simp only[kT,Option.some.injEq,reduceCtorEq] at h<;>subst h<;>rfl
noncomputable def P0(td ty:TE):TE:=fun σ H Q=>td σ H fun x H1=>aR x fun a=>cH (H1 a) fun _=>ty σ H1 fun y H2=>cH (H2 a) fun kvs=>dI (kT y) fun k=>Q ((bT kvs k).getD .Zu) H2
noncomputable def Vc(td ty:TE):TE:=fun σ H Q=>td σ H fun x H1=>ty σ H1 fun y H2=>aR x fun a=>cH (H2 a) fun kvs=>dI (kT y) fun k=>dI (bT kvs k) fun v=>Q v H2
noncomputable def Vp(td ty tv:TE):TS:=fun D σ H=>tv σ H fun v H1=>td σ H1 fun x H2=>ty σ H2 fun y H3=>aR x fun a=>cH (H3 a) fun kvs=>dI (kT y) fun k=>kvs.length < sizeLine/\D.nx σ (Zs H3 a (.dK (eM kvs k v)))
noncomputable def Yn(neg:Bool):R2:=fun x y H Q=>aR y fun p=>nG (H p) fun xs=>cT x=true/\xs.all cT=true/\Q (.bl (if neg=true then !wZ x xs else wZ x xs)) H
noncomputable def Ve:List V->Hp->VK->Prop:=fun vs H Q=>match vs with
 | [.int i]=>Q (.int i) H
 | [.bl k]=>Q (.int (if k=true then 1 else 0)) H
 | _=>False
noncomputable def Rb:R2:=fun x y H Q=>match y with
 | .Zu=>Q (.bl (decide (x=.Zu))) H
 | _=>False
noncomputable def P8:R2:=fun x y H Q=>match y with
 | .Zu=>Q (.bl (!decide (x=.Zu))) H
 | _=>False
noncomputable def Rf:List V->Hp->VK->Prop:=fun vs H Q=>match vs with
 | [.int i,.int j]=>Q (.int (if j > i then j else i)) H
 | _=>False
noncomputable def Rg:List V->Hp->VK->Prop:=fun vs H Q=>match vs with
 | [.int i,.int j]=>Q (.int (if j < i then j else i)) H
 | _=>False
noncomputable def Yk:List V->Hp->VK->Prop:=fun vs H Q=>match vs with
 | [.int i]=>Q (.int (if i < 0 then -i else i)) H
 | _=>False
noncomputable def C8(v:V)(T:String):Option Bool:=match v with
 | .int _=>if T = "int" then some true else if T = "bool"\/T = "str"\/T = "tuple" then some false else none
 | .bl _=>if T = "int"\/T = "bool" then some true else if T = "str"\/T = "tuple" then some false else none
 | .str _=>if T = "str" then some true else if T = "int"\/T = "bool"\/T = "tuple" then some false else none
 | .Zu=>if T = "int"\/T = "bool"\/T = "str"\/T = "tuple" then some false else none
 | _=>none
noncomputable def gO(o:Option HO)(T:String):Option Bool:=match o with
 | some (.lst _)=>if T = "int"\/T = "bool"\/T = "str"\/T = "tuple" then some false else none
 | some (.tup _)=>if T = "tuple" then some true else if T = "int"\/T = "bool"\/T = "str" then some false else none
 | some (.dK _)=>if T = "int"\/T = "bool"\/T = "str" then some false else none
 | _=>none
noncomputable def eQ:List V->Hp->VK->Prop:=fun vs H Q=>match vs with
 | [.ref p,.ty T]=>dI (gO (H p) T) fun b=>Q (.bl b) H
 | [v,.ty T]=>dI (C8 v T) fun b=>Q (.bl b) H
 | _=>False
theorem TF{K:q0B}{H:Hp}{v:V}{T:String}{b:Bool}(h:C8 v T=some b):sE K H v T b:=by
 unfold C8 at h;split at h
 all_goals (repeat' split at h)
 all_goals first
  | cases h
  | skip
 all_goals first
  | (subst_vars;constructor)
  | (rename_i q;rcases q with rfl|rfl<;>constructor)
  | (rename_i q _;rcases q with rfl|rfl<;>constructor)
  | (rename_i q;rcases q with rfl|rfl|rfl<;>constructor)
  | (rename_i q;rcases q with rfl|rfl|rfl|rfl<;>constructor)
theorem OG{K:q0B}{H:Hp}{p:Addr}{T:String}{b:Bool}(h:gO (H p) T=some b):sE K H (.ref p) T b:=by
 unfold gO at h;split at h
 ·rename_i xs e
  have q:dC K H p xs:=.inl (.inl e);split at h
  ·cases h
   rename_i z
   rcases z with rfl|rfl|rfl|rfl
   ·exact .li q
   ·exact .lb q
   ·exact .ls q
   ·exact .lt q
  ·cases h
 ·rename_i xs e
  have q:eJ K H p xs:=.inl (.inl e);split at h
  ·cases h
   subst_vars
   exact .tt q
  ·split at h
   ·cases h
    rename_i z
    rcases z with rfl|rfl|rfl
    ·exact .ti q
    ·exact .tb q
    ·exact .ts q
   ·cases h
 ·rename_i kvs e
  split at h
  ·cases h
   rename_i z
   rcases z with rfl|rfl|rfl
   ·exact .di e
   ·exact .db e
   ·exact .ds e
  ·cases h
 ·cases h
noncomputable def U2(to te:TE):TE:=fun σ H Q=>to σ H fun x H1=>aR x fun a=>bW (H1 a) fun _=>te σ H1 fun y H2=>bW (H2 a) fun xs=>xs.length < sizeLine/\Q .Zu (Zs H2 a (.lst (xs++[y])))
noncomputable def Vo(to:TE):TE:=fun σ H Q=>to σ H fun x H1=>aR x fun a=>bW (H1 a) fun xs=>dI (xs[xs.length - 1]?) fun y=>Q y (Zs H1 a (.lst xs.dropLast))
section
variable {X:Cx}
theorem H8.imp{r r':R2}(h:H8 X r)(f:∀ x y H Q,r' x y H Q->r x y H Q):H8 X r':=fun value slice Zr s σ H x y v u Q I rx ry q=>h value slice Zr s σ H x y v u Q I rx ry (f _ _ _ _ q)
theorem lB.imp{f:Value->Value->Sem Value}{r r':R2}(h:lB X f r)(g:∀ x y H Q,r' x y H Q->r x y H Q):lB X f r':=fun Zr s σ H x y v u Q I rx ry q=>h Zr s σ H x y v u Q I rx ry (g _ _ _ _ q)
theorem bJ:H8 X Yp:=Tz.imp fun x y H Q h=>by
 cases x with
 | ref p =>
  obtain⟨xs,e,h⟩:=pA h;obtain⟨i,rfl,h⟩:=dN h;obtain⟨v,e2,h⟩:=dE h;rcases e with e|e
  ·exact .inl ⟨_,_,_,_,rfl,rfl,.inl (.inl e),e2,h⟩
  ·exact .inr (.inl ⟨_,_,_,_,rfl,rfl,.inl (.inl e),e2,h⟩)
 | str z =>
  obtain⟨i,rfl,h1,h⟩:=dN h;obtain⟨v,e2,h⟩:=dE h;exact .inr (.inr ⟨_,_,_,rfl,rfl,h1,e2,h⟩)
 | _=>exact h.elim
theorem eL:lB X (binaryOp .Add) JV:=(T9.or (Gc.or (Ua.or HA))).imp fun x y H Q h=>by
 unfold JV Nh at h;split at h
 ·exact .inl ⟨_,_,rfl,rfl,h⟩
 ·exact .inr (.inl ⟨_,_,rfl,rfl,h.1,h.2⟩)
 ·split at h
  ·exact .inr (.inr (.inl ⟨_,_,_,_,rfl,rfl,‹_›,‹_›,h.1,h.2⟩))
  ·exact .inr (.inr (.inr ⟨_,_,_,_,rfl,rfl,.inl (.inl ‹_›),.inl (.inl ‹_›),h.1,h.2.1,h.2.2.2,h.2.2.1⟩))
  ·exact h.elim
 ·exact h.elim
theorem Xt:MV X X6:=fun Zr s σ H x v vl vu lo hi sl Q I rx hs pl pu h=>by
 refine(DA.or (Mu.or Uu)) Zr s σ H x v vl vu lo hi sl Q I rx hs pl pu ?_;unfold X6 JW at h;split at h
 ·exact .inr (.inr ⟨_,rfl,h.1,h.2⟩)
 ·split at h
  ·exact .inl ⟨_,_,rfl,.inl (.inl ‹_›),h⟩
  ·exact .inr (.inl ⟨_,_,rfl,.inl (.inl ‹_›),h.1,h.2⟩)
  ·exact h.elim
 ·exact h.elim
theorem uE:dQ X (.builtin "len") Nk:=fun Zr s σ H xs us Q I r h=>by
 unfold Nk at h;split at h
 ·exact yR Zr s σ H _ us Q I r ⟨_,_,rfl,⟨h.1,rfl⟩,h.2⟩
 ·obtain⟨ys,e,h⟩:=pA h;rcases e with e|e
  ·exact yR Zr s σ H _ us Q I r ⟨_,_,rfl,.inl ⟨_,.inl (.inl e),rfl⟩,h⟩
  ·exact yR Zr s σ H _ us Q I r ⟨_,_,rfl,.inr ⟨_,.inl (.inl e),rfl⟩,h⟩
 ·exact h.elim
theorem Mp:PSet X Vq:=fun Zr s σ H o i v ov iv u Q I ro ri rv h=>by
 obtain⟨p,rfl,h⟩:=aT h;obtain⟨k,rfl,h⟩:=dN h;obtain⟨xs,e,h⟩:=fT h;obtain⟨j,e2,h⟩:=dE h;exact Mr Zr s σ H _ _ v ov iv u Q I ro ri rv ⟨_,_,_,_,rfl,rfl,e,e2,h⟩
theorem Ge:lB X (compareOp .In) (Yn false):=Jh.imp fun x y H Q h=>by
 obtain⟨p,rfl,h⟩:=aT h;obtain⟨xs,e,h1,h2,h⟩:=pA h;exact⟨_,_,rfl,e.imp (fun e=>.inl (.inl e)) (fun e=>.inl (.inl e)),h1,h2,h⟩
theorem Ci:lB X (compareOp .NotIn) (Yn true):=Dm.imp fun x y H Q h=>by
 obtain⟨p,rfl,h⟩:=aT h;obtain⟨xs,e,h1,h2,h⟩:=pA h;exact⟨_,_,rfl,e.imp (fun e=>.inl (.inl e)) (fun e=>.inl (.inl e)),h1,h2,h⟩
theorem rO:lB X (compareOp .Is) Rb:=Uc.imp fun x y H Q h=>by
 cases y with
 | Zu=>exact⟨rfl,h⟩
 | _=>exact h.elim
theorem qC:lB X (compareOp .IsNot) P8:=OZ.imp fun x y H Q h=>by
 cases y with
 | Zu=>exact⟨rfl,h⟩
 | _=>exact h.elim
theorem uF(hc:X.calm=true):dQ X (.builtin "max") Rf:=fun Zr s σ H xs us Q I r h=>by
 refine Ih hc Zr s σ H xs us Q I r ?_;unfold Rf at h;split at h
 ·exact⟨_,_,rfl,h⟩
 ·exact h.elim
theorem BY(hc:X.calm=true):dQ X (.builtin "min") Rg:=fun Zr s σ H xs us Q I r h=>by
 refine Ii hc Zr s σ H xs us Q I r ?_;unfold Rg at h;split at h
 ·exact⟨_,_,rfl,h⟩
 ·exact h.elim
theorem Ic:dQ X (.builtin "isinstance") eQ:=fun Zr s σ H xs us Q I r h=>by
 refine Kg Zr s σ H xs us Q I r ?_;unfold eQ at h;split at h
 ·obtain⟨b,e,h⟩:=dE h;exact⟨_,_,b,rfl,OG e,h⟩
 ·obtain⟨b,e,h⟩:=dE h;exact⟨_,_,b,rfl,TF e,h⟩
 ·exact h.elim
variable {o e:Expr} {to te:TE} {apos Zz:Pos}
theorem jJ(ho:PE X o to)(he:PE X e te)(Z7:attributeBase o "append" X.env (eval o X.env)=eval o X.env:=by rfl)
    (abH:((backTo Zz (starEach [e] X.env)).all (fun x=>!x.1)&&(backToKw Zz (keywordEach [] X.env)).all (fun x=>x.1.isSome)
     &&decide ([e].length+([]:List Keyword).length+(if ([]:List Keyword).isEmpty then 0 else 1) < 30))=true:=by rfl)
    (Z8:(apos.endLine==Zz.line)=true:=by rfl) (hs:starEach [e] X.env=(false,eval e X.env)::starEach [] X.env:=by rfl) (aaI:(backTo Zz (starEach [] X.env)).any (·.1)=false:=by rfl) :
    PE X (.Call (.Attribute o "append" apos) [e] [] Zz) (U2 to te):=by
  intro Zr s σ H Q I h;refine wpAny_Call_method_late Z7 abH Z8 rfl (thn (ho Zr s σ H _ I h) fun v s1 ⟨x,H1,I1,r1,q1⟩=>?_);obtain⟨a,rfl,q1⟩:=aT q1;obtain⟨xs,e1,q1⟩:=fT q1;obtain⟨h1,h2⟩:=GI (T:="list") I1 r1 (.inl ⟨rfl,xs,.inl (.inl e1)⟩);refine⟨"list","list.append",PySem.F.plainAttrs_list,PySem.F.slot_list_append,PySem.F.type_list_append,h1,h2,?_⟩;have q2:EX te GF σ H1 (fun vs H2=>vs.length=1/\bW (H2 a) fun xs=>xs.length < sizeLine/\Q .Zu (Zs H2 a (.lst (xs++vs)))):=by
    simpa only[EX,GF,List.length_cons,List.length_nil,Nat.zero_add,true_and] using q1
  have hA:=HB he aB hs Zz Zr s1 σ H1 _ I1 q2;rw[hs] at hA ⊢;refine Calls.callWith_builtin (by show(false||(backTo Zz (starEach [] X.env)).any (·.1))=false;rw[aaI]<;>rfl) (Calls.evalArgs_plain ?_);refine thn hA fun us s2 ⟨vs,H2,I2,r2,l2,q3⟩=>?_;obtain⟨xs,e3,q4,q5⟩:=fT q3
  match vs,l2,r2,q5 with
  | [y],_,r2,q5=>exact IV Zr s2 σ H2 _ _ v us Q I2 r1 r2 ⟨_,_,_,rfl,rfl,e3,q4,q5⟩
theorem Dq(ho:PE X o to)(Z7:attributeBase o "pop" X.env (eval o X.env)=eval o X.env:=by rfl)(Z8:(apos.endLine==Zz.line)=true:=by rfl):PE X (.Call (.Attribute o "pop" apos) [] [] Zz) (Vo to):=by
 intro Zr s σ H Q I h;refine wpAny_Call_method0_late Z7 Z8 (thn (ho Zr s σ H _ I h) fun v s1 ⟨x,H1,I1,r1,q1⟩=>?_);obtain⟨a,rfl,q1⟩:=aT q1;obtain⟨xs,e1,q1⟩:=fT q1;obtain⟨y,e2,q1⟩:=dE q1;obtain⟨h1,h2⟩:=GI (T:="list") I1 r1 (.inl ⟨rfl,xs,.inl (.inl e1)⟩);exact⟨"list","list.pop",PySem.F.plainAttrs_list,PySem.F.slot_list_pop,PySem.F.type_list_pop,h1,h2,Calls.callWith_builtin rfl (PySem.evalArgs_none (TU Zr s1 σ H1 _ [] v [] Q I1 r1 .nil ⟨_,_,_,rfl,rfl,e1,e2,q1⟩))⟩
end
section
variable {X:Cx} {o i e value:Expr} {pos pos' apos Zz:Pos} {td ty tv:TE}
theorem HE(hu:X.A.units+1 < cLine)(ho:PE X o td)(he:PE X e ty)(m:M1 X o "get" apos e Zz):PE X (.Call (.Attribute o "get" apos) [e] [] Zz) (P0 td ty):=by
 intro Zr s σ H Q I h;refine wpAny_Call_method m.base m.few m.line PySem.F.plainAttrs_dict PySem.F.slot_dict_get PySem.F.type_dict_get (thn (ho Zr s σ H _ I h) fun u s1 ⟨x,H1,I1,rx,q1⟩=>?_);obtain⟨a,rfl,q1⟩:=aT q1;obtain⟨kvs,e1,q1⟩:=c8 q1;obtain rfl:u=Value.ref a:=rx;obtain⟨t1,t2,_⟩:=uP I1 (.inl ⟨_,.inl e1⟩);refine⟨t1,t2,?_⟩;rw[m.trees];refine Calls.callWith_builtin rfl (Calls.evalArgs_plain (Calls.spliced_cons (thn (he Zr s1 σ H1 _ I1 q1) fun iv s2 ⟨y,H2,I2,ry,q2⟩=>Calls.spliced_nil ?_)));obtain⟨kvs,e1,q2⟩:=c8 q2;obtain⟨k,e2,q2⟩:=dE q2;have g:ZK H2 a y (bT kvs k):=by rw[Dc e2];exact ZK.k e1
 exact Rm hu I2 g ry fun w' s3 I3 rw'=>⟨_,H2,I3,rw',q2⟩
theorem tM(hu:X.A.units+1 < cLine)(ho:PE X o td)(hi:PE X i ty)(hs:QZ i):PE X (.Subscript o i pos) (Vc td ty):=by
 intro Zr s σ H Q I h;refine HR PySem.F.slot_dict_getitem.lookup hs (thn (ho Zr s σ H _ I h) fun u s1 ⟨x,H1,I1,rx,q1⟩=>thn (hi Zr s1 σ H1 _ I1 q1) fun iv s2 ⟨y,H2,I2,ry,q2⟩=>?_);obtain⟨a,rfl,q2⟩:=aT q2;obtain⟨kvs,e1,q2⟩:=c8 q2;obtain⟨k,e2,q2⟩:=dE q2;obtain⟨v,e3,q2⟩:=dE q2;obtain rfl:u=Value.ref a:=rx;have g:ZK H2 a y (some v):=by rw[Dc e2,<- e3];exact ZK.k e1
 exact⟨wA I2 g,Il hu I2 g ry fun w' s3 I3 rw'=>⟨v,H2,I3,rw',q2⟩⟩
theorem mU(hu:X.A.units+1 < cLine)(ho:PE X o td)(hi:PE X i ty)(hv:PE X value tv)(hs:swapsWith value (some (.Subscript o i pos')) pos.line X.env=pure false:=by rfl) :
    PS X (.Assign [.Subscript o i pos'] value pos) (Vp td ty tv):=by
  intro Zr s σ H D I h;refine wpAny_Assign_Subscript (thn (hv Zr s σ H _ I h) fun r s1 ⟨v,H1,I1,rv,q1⟩=>thn (ho Zr s1 σ H1 _ I1 q1) fun u s2 ⟨x,H2,I2,rx,q2⟩=>thn (hi Zr s2 σ H2 _ I2 q2) fun iv s3 ⟨y,H3,I3,ry,q3⟩=>?_) hs;obtain⟨a,rfl,q3⟩:=aT q3;obtain⟨kvs,e1,q3⟩:=c8 q3;obtain⟨k,e2,q3⟩:=dE q3;obtain rfl:u=Value.ref a:=rx;have g:aaC H3 a y v (Zs H3 a (.dK (eM kvs k v))):=by rw[Dc e2];exact aaC.k e1 q3.1
  exact Im hu I3 g ry rv fun s4 I4=>⟨σ,_,I4,q3.2⟩
noncomputable def U5:List V->Hp->VK->Prop:=fun vs H Q=>match vs with
 | [.ref a]=>cH (H a) fun kvs=>∀ p,H p=none->Q (.ref p) (Zs H p (.dK kvs))
 | _=>False
end
noncomputable def Itv(K:q0B)(a:Addr)(n:Nat):It :=
 ⟨fun i H=>i < n/\∃ xs,dC K H a xs/\xs.length=n,fun i H x H'=>H'=H/\∀ xs,dC K H a xs->xs[n - 1 - i]?=some x,fun i H=>i=n/\∃ xs,dC K H a xs/\xs.length=n⟩
noncomputable def WT(K:q0B)(ta:TA):TI:=fun σ H R=>ta σ H fun vs H1=>∃ a xs,vs=[.ref a]/\dC K H1 a xs/\R (Itv K a xs.length) H1
section
variable {σ:St} {H:Hp} {Q:VK} {D:Ends} {t u:TS} {te ta tb tc to ti:TE} {tl th:TO} {g:TG} {gs:TGs} {tt tt':TT} {as:TA} {i j:Int} {n:Nat} {x y:Str} {v w:V} {vs:List V} {b:Bool} {p a:Addr} {r r':R2} {B:Bool->Hp->Prop} {K:q0B}
theorem WE:PH t u D σ H=t {D with nx:=u D} σ H:=rfl
theorem VC:PD te g D σ H=te σ H fun x H1=>g x σ H1 D.nx:=rfl
theorem SJ{N:St->Hp->Prop}:zU n v σ H N=N (σ.set n (some v)) H:=rfl
theorem WC:UM te D σ H=te σ H D.rt:=rfl
theorem SW:XH D σ H=D.rt .Zu H:=rfl
theorem V1:ML tt t u D σ H=tt σ H fun b H1=>if b=true then t D σ H1 else u D σ H1:=rfl
theorem S7:EZ te σ H B=te σ H fun x H'=>MX x fun k=>B k H':=by simp only[EZ,vI]
theorem YK:tB te σ H B=te σ H fun x H'=>MX x fun k=>B k H':=by simp only[tB,vI]
theorem YB:Zc tt ta tb σ H Q=tt σ H fun c H1=>if c=true then ta σ H1 Q else tb σ H1 Q:=rfl
theorem YH:UT r ta tb σ H Q=ta σ H fun x H1=>tb σ H1 fun y H2=>r x y H2 Q:=rfl
theorem YL{q:V->Hp->VK->Prop}:Zg q ta σ H Q=ta σ H fun x H1=>q x H1 Q:=rfl
theorem Zi:tC v σ H Q=Q v H:=rfl
theorem RF{A:List V->Hp->Prop}:EX te as σ H A=te σ H fun x H1=>as σ H1 fun xs H2=>A (x::xs) H2:=rfl
theorem Wk{A:List V->Hp->Prop}:GF σ H A=A [] H:=rfl
theorem RC{sp:Sp}{E:XK}:MF sp [] E as σ H Q=as σ H fun vs H1=>sp vs H1 Q E:=by simp only[MF,List.append_nil]
theorem YA{q:List V->Hp->VK->Prop}:Y2 q as σ H Q=as σ H fun vs H1=>q vs H1 Q:=rfl
theorem Wd:XF as σ H Q=as σ H fun xs H1=>xs.length<=sizeLine/\∀ p,H1 p=none->Q (.ref p) (Zs H1 p (.lst xs)):=rfl
theorem WK:XI as σ H Q=as σ H fun xs H1=>xs.length<=sizeLine/\∀ p,H1 p=none->Q (.ref p) (Zs H1 p (.tup xs)):=rfl
theorem RO:MI σ H Q = ∀ p,H p=none->Q (.ref p) (Zs H p (.dK [])):=rfl
theorem RP:MK te D σ H=te σ H fun _ H1=>D.nx σ H1:=rfl
theorem SQ:MN D σ H=D.nx σ H:=rfl
theorem Nq:UI D σ H=D.bk σ H:=rfl
theorem RG:XC D σ H=D.ct σ H:=rfl
theorem Rv:ME ta tb σ H Q=ta σ H fun x H1=>MX x fun c=>if c=true then tb σ H1 Q else Q (.bl false) H1:=by simp only[ME,vI]
theorem Wx:UL ta tb σ H Q=ta σ H fun x H1=>MX x fun c=>if c=true then Q (.bl true) H1 else tb σ H1 Q:=by simp only[UL,vI]
theorem SR:MO ta σ H Q=ta σ H fun x H1=>MX x fun c=>Q (.bl (!c)) H1:=by simp only[MO,vI]
theorem VA:Xz tt tt' σ H B=tt σ H fun c H1=>if c=true then tt' σ H1 B else B false H1:=rfl
theorem YI:Ze tt tt' σ H B=tt σ H fun c H1=>if c=true then B true H1 else tt' σ H1 B:=rfl
theorem Wn:XG tt σ H B=tt σ H fun c H1=>B (!c) H1:=rfl
theorem Nr:MG r r' ta tb tc σ H Q=ta σ H fun x H1=>tb σ H1 fun y H2=>r x y H2 fun z H3=>MX z fun k=>if k=true then tc σ H3 fun w' H4=>r' y w' H4 Q else Q (.bl false) H3:=by simp only[MG,vI]
theorem YJ{q:V->Option Int->Option Int->Hp->VK->Prop}:Zf q te tl th σ H Q=te σ H fun x H1=>tl σ H1 fun l H2=>th σ H2 fun u H3=>q x l u H3 Q:=rfl
theorem L5{k:Int->Prop}:(∃ i,v=.int i/\k i)=eR v k:=propext ⟨fun⟨i,e,h⟩=>by subst e;exact h,dN⟩
theorem SS{O:Option Int->Hp->Prop}:MP te σ H O=te σ H fun x H1=>eR x fun i=>O (some i) H1:=by simp only[MP,L5]
theorem La{O:Option Int->Hp->Prop}:HV σ H O=O none H:=rfl
theorem Si{s:TSet}{N:St->Hp->Prop}:WR to ti s v σ H N=to σ H fun o H1=>ti σ H1 fun i H2=>s o i v H2 fun H3=>N σ H3:=rfl
theorem Sh{N:St->Hp->Prop}:To [] σ H N=N σ H:=by simp[To]
theorem NT{N:St->Hp->Prop}:Qc g gs (v::vs) σ H N=g v σ H fun σ' H'=>gs vs σ' H' N:=propext ⟨fun⟨_,_,e,h⟩=>by cases e;exact h,fun h=>⟨_,_,rfl,h⟩⟩
theorem Se:P0 ta tb σ H Q=ta σ H fun x H1=>aR x fun a=>cH (H1 a) fun _=>tb σ H1 fun y H2=>cH (H2 a) fun kvs=>dI (kT y) fun k=>Q ((bT kvs k).getD .Zu) H2:=rfl
theorem VZ:Vc ta tb σ H Q=ta σ H fun x H1=>tb σ H1 fun y H2=>aR x fun a=>cH (H2 a) fun kvs=>dI (kT y) fun k=>dI (bT kvs k) fun v=>Q v H2:=rfl
theorem Wz:Vp ta tb tc D σ H=tc σ H fun v H1=>ta σ H1 fun x H2=>tb σ H2 fun y H3=>aR x fun a=>cH (H3 a) fun kvs=>dI (kT y) fun k=>kvs.length < sizeLine/\D.nx σ (Zs H3 a (.dK (eM kvs k v))):=rfl
theorem VB:U2 to te σ H Q=to σ H fun x H1=>aR x fun a=>bW (H1 a) fun _=>te σ H1 fun y H2=>bW (H2 a) fun xs=>xs.length < sizeLine/\Q .Zu (Zs H2 a (.lst (xs++[y]))):=rfl
theorem Wy:Vo to σ H Q=to σ H fun x H1=>aR x fun a=>bW (H1 a) fun xs=>dI (xs[xs.length - 1]?) fun y=>Q y (Zs H1 a (.lst xs.dropLast)):=rfl
theorem Wu{α:Type}{z:α}{k:α->Prop}{u:Tg k}:@dI _ (some z) k u=k z:=rfl
theorem Wt{k:Bool->Prop}{u:Tg k}:@MX (.bl b) k u=k b:=rfl
theorem Od{k:Addr->Prop}{u:Tg k}:@aR (.ref p) k u=k p:=rfl
theorem Ob{k:Int->Prop}{u:Tg k}:@eR (.int i) k u=k i:=rfl
theorem Oc{k:List V->Prop}{u:Tg k}:@bW (some (.lst vs)) k u=k vs:=rfl
theorem Lb{k:List V->Prop}{u:Tg k}:@nG (some (.lst vs)) k u=k vs:=rfl
theorem Lc{k:List V->Prop}{u:Tg k}:@nG (some (.tup vs)) k u=k vs:=rfl
theorem Oa{kvs:List (Key×V)}{k:List (Key×V)->Prop}{u:Tg k}:@cH (some (.dK kvs)) k u=k kvs:=rfl
theorem V4:Yp (.ref p) w H Q=nG (H p) fun xs=>eR w fun i=>dI (iK xs i) fun v=>Q v H:=rfl
theorem V5:Yp (.str x) w H Q=eR w fun i=>x.length<=sizeLine/\dI (iK x.cps.toList i) fun c=>Q (.str ⟨#[c]⟩) H:=rfl
theorem Rq:JV (.int i) (.int j) H Q=Q (.int (i+j)) H:=rfl
theorem Rt:JV (.str x) (.str y) H Q=(x.length+y.length<=sizeLine/\Q (.str (x++y)) H):=rfl
theorem Rr:JV (.ref a) (.ref p) H Q=Nh H Q a (H a) (H p):=rfl
theorem RD{us:List V}:Nh H Q a (some (.lst vs)) (some (.lst us))=(vs.length+us.length<=sizeLine/\∀ p,H p=none->Q (.ref p) (Zs H p (.lst (vs++us)))):=rfl
theorem WI{lo hi:Option Int}:X6 (.str x) lo hi H Q=(x.length<=sizeLine/\Q (.str (Txt.slice x lo hi)) H):=rfl
theorem WH{lo hi:Option Int}:X6 (.ref a) lo hi H Q=JW lo hi H Q (H a):=rfl
theorem RH{lo hi:Option Int}:JW lo hi H Q (some (.lst vs)) = ∀ p,H p=none->Q (.ref p) (Zs H p (.lst (iF vs lo hi))):=rfl
theorem SF:Nk [.str x] H Q=(x.length<=sizeLine/\Q (.int x.length) H):=rfl
theorem SE:Nk [.ref p] H Q=nG (H p) fun xs=>Q (.int xs.length) H:=rfl
theorem WG{N:Hp->Prop}:Vq (.ref p) (.int i) v H N=bW (H p) fun xs=>dI (DH xs.length i) fun j=>N (Zs H p (.lst (xs.set j v))):=rfl
theorem YC{neg:Bool}:Yn neg v (.ref p) H Q=nG (H p) fun xs=>cT v=true/\xs.all cT=true/\Q (.bl (if neg=true then !wZ v xs else wZ v xs)) H:=rfl
theorem RL:U5 [.ref a] H Q=cH (H a) fun kvs=>∀ p,H p=none->Q (.ref p) (Zs H p (.dK kvs)):=rfl
theorem Sy:kT (.int i)=some (.inl i):=rfl
theorem SA:kT (.str x)=some (.inr x):=rfl
theorem Sz:kT .Zu=some .no:=rfl
theorem lT{α:Type}{xs:List α}{k:Nat}:iK xs (OfNat.ofNat k)=xs[k]?:=by
 show iK xs ((k:Nat):Int)=xs[k]?;cases e:xs[k]? with
 | some z=>exact kW e
 | none =>
  have:=List.getElem?_eq_none_iff.mp e;unfold iK DH;rw[if_pos (by omega),if_neg (by omega)];rfl
theorem VD{α:Type}{xs:List α}:iK xs 0=xs[0]?:=lT (k:=0)
theorem VE{α:Type}{xs:List α}:iK xs 1=xs[1]?:=lT (k:=1)
theorem VF{α:Type}{xs:List α}:iK xs 2=xs[2]?:=lT (k:=2)
theorem VG{α:Type}{xs:List α}:iK xs 3=xs[3]?:=lT (k:=3)
theorem VH{α:Type}{xs:List α}:iK xs 4=xs[4]?:=lT (k:=4)
theorem VI{α:Type}{xs:List α}:iK xs 5=xs[5]?:=lT (k:=5)
theorem VJ{α:Type}{xs:List α}:iK xs 6=xs[6]?:=lT (k:=6)
theorem VL{α:Type}{xs:List α}:iK xs 7=xs[7]?:=lT (k:=7)
theorem VM{α:Type}{xs:List α}:iK xs 8=xs[8]?:=lT (k:=8)
theorem VN{α:Type}{xs:List α}:iK xs 9=xs[9]?:=lT (k:=9)
theorem Rw{α:Type}{xs:List α}:iK xs 10=xs[10]?:=lT (k:=10)
theorem Rx{α:Type}{xs:List α}:iK xs 11=xs[11]?:=lT (k:=11)
theorem Ry{α:Type}{xs:List α}:iK xs 12=xs[12]?:=lT (k:=12)
theorem Nt:CMul 1 j=True:=eq_true (.inl ⟨by decide,by decide⟩)
theorem Nu:CMul 2 j=True:=eq_true (.inl ⟨by decide,by decide⟩)
theorem Nv:CMul 3 j=True:=eq_true (.inl ⟨by decide,by decide⟩)
theorem Kr:CMul 10 j=True:=eq_true (.inl ⟨by decide,by decide⟩)
theorem NF:CPow 10 6=True:=eq_true ⟨by decide,by decide,by decide⟩
theorem NG:CPow 10 9=True:=eq_true ⟨by decide,by decide,by decide⟩
theorem Kx:CPow 10 12=True:=eq_true ⟨by decide,by decide,by decide⟩
theorem Ky:CPow 10 18=True:=eq_true ⟨by decide,by decide,by decide⟩
theorem Kz:CPow 10 30=True:=eq_true ⟨by decide,by decide,by decide⟩
theorem KE:CPow 10 40=True:=eq_true ⟨by decide,by decide,by decide⟩
theorem KH:CPow 10 45=True:=eq_true ⟨by decide,by decide,by decide⟩
theorem Sv{m:Nat}:DH (m+1) 0=some 0:=by simp[DH]<;>omega
theorem Sw{m:Nat}:DH (m+2) 1=some 1:=by simp[DH]<;>omega
theorem Sm:Ve [.int i] H Q=Q (.int i) H:=rfl
theorem Sl:Ve [.bl b] H Q=Q (.int (if b=true then 1 else 0)) H:=rfl
theorem YD:Rb v .Zu H Q=Q (.bl (decide (v=.Zu))) H:=by cases v<;>rfl
theorem NU:P8 v .Zu H Q=Q (.bl (!decide (v=.Zu))) H:=by cases v<;>rfl
theorem We:Rf [.int i,.int j] H Q=Q (.int (if j > i then j else i)) H:=rfl
theorem Wf:Rg [.int i,.int j] H Q=Q (.int (if j < i then j else i)) H:=rfl
theorem Vy:Yk [.int i] H Q=Q (.int (if i < 0 then -i else i)) H:=rfl
theorem Bt:eQ [(.int i),.ty "int"] H Q=Q (.bl true) H:=by simp[eQ,C8,dI]
theorem CY:eQ [(.bl b),.ty "int"] H Q=Q (.bl true) H:=by simp[eQ,C8,dI]
theorem Bw:eQ [(.str x),.ty "int"] H Q=Q (.bl false) H:=by simp[eQ,C8,dI]
theorem Bu:eQ [.Zu,.ty "int"] H Q=Q (.bl false) H:=by simp[eQ,C8,dI]
theorem Bv:eQ [.ref p,.ty "int"] H Q=dI (gO (H p) "int") fun b=>Q (.bl b) H:=rfl
theorem zE:eQ [(.int i),.ty "bool"] H Q=Q (.bl false) H:=by simp[eQ,C8,dI]
theorem Bs:eQ [(.bl b),.ty "bool"] H Q=Q (.bl true) H:=by simp[eQ,C8,dI]
theorem zH:eQ [(.str x),.ty "bool"] H Q=Q (.bl false) H:=by simp[eQ,C8,dI]
theorem zF:eQ [.Zu,.ty "bool"] H Q=Q (.bl false) H:=by simp[eQ,C8,dI]
theorem zG:eQ [.ref p,.ty "bool"] H Q=dI (gO (H p) "bool") fun b=>Q (.bl b) H:=rfl
theorem Bx:eQ [(.int i),.ty "str"] H Q=Q (.bl false) H:=by simp[eQ,C8,dI]
theorem CZ:eQ [(.bl b),.ty "str"] H Q=Q (.bl false) H:=by simp[eQ,C8,dI]
theorem BA:eQ [(.str x),.ty "str"] H Q=Q (.bl true) H:=by simp[eQ,C8,dI]
theorem By:eQ [.Zu,.ty "str"] H Q=Q (.bl false) H:=by simp[eQ,C8,dI]
theorem Bz:eQ [.ref p,.ty "str"] H Q=dI (gO (H p) "str") fun b=>Q (.bl b) H:=rfl
theorem wR:eQ [(.int i),.ty "tuple"] H Q=Q (.bl false) H:=by simp[eQ,C8,dI]
theorem zI:eQ [(.bl b),.ty "tuple"] H Q=Q (.bl false) H:=by simp[eQ,C8,dI]
theorem wW:eQ [(.str x),.ty "tuple"] H Q=Q (.bl false) H:=by simp[eQ,C8,dI]
theorem wU:eQ [.Zu,.ty "tuple"] H Q=Q (.bl false) H:=by simp[eQ,C8,dI]
theorem wV:eQ [.ref p,.ty "tuple"] H Q=dI (gO (H p) "tuple") fun b=>Q (.bl b) H:=rfl
theorem KP:gO (some (.lst vs)) "int"=some false:=by simp[gO]
theorem KU:gO (some (.tup vs)) "int"=some false:=by simp[gO]
theorem Ip:gO (some (.lst vs)) "bool"=some false:=by simp[gO]
theorem Iq:gO (some (.tup vs)) "bool"=some false:=by simp[gO]
theorem KQ:gO (some (.lst vs)) "str"=some false:=by simp[gO]
theorem KW:gO (some (.tup vs)) "str"=some false:=by simp[gO]
theorem Fo:gO (some (.lst vs)) "tuple"=some false:=by simp[gO]
theorem Fp:gO (some (.tup vs)) "tuple"=some true:=by simp[gO]
theorem KN{kvs:List (Key×V)}:gO (some (.dK kvs)) "int"=some false:=by simp[gO]
theorem Io{kvs:List (Key×V)}:gO (some (.dK kvs)) "bool"=some false:=by simp[gO]
theorem KO{kvs:List (Key×V)}:gO (some (.dK kvs)) "str"=some false:=by simp[gO]
theorem VP{c:Prop}[Decidable c]{P R:Prop}:(if (decide c)=true then P else R)=if c then P else R:=by
 by_cases h:c<;>simp[h]
theorem VQ{c:Prop}[Decidable c]{P R:Prop}:(if (!decide c)=true then P else R)=if c then R else P:=by
 by_cases h:c<;>simp[h]
theorem Su{P R:Prop}:(if true=true then P else R)=P:=by simp
theorem Ss{P R:Prop}:(if false=true then P else R)=R:=by simp
end
theorem YO{a b:Prop}[Decidable a][Decidable b]{P R:Prop}:(if a then P else if b then P else R)=if a\/b then P else R:=by
 by_cases ha:a<;>by_cases hb:b<;>simp[ha,hb]
theorem Kp.at1{r a:Addr}{H H':Hp}{o:HO}(x:Kp [r] H H')(e:H a=some o)(n:a≠r):H' a=some o:=x a o e (by simpa using n)
theorem rP{xs:List V}{i:Int}{k:V->Prop}(h0:0<=i)(h1:i < (xs.length:Int))(q:∀ v∈xs,k v):dI (iK xs i) k:=by
 have hk:i.toNat < xs.length:=by omega
 have ek:i=((i.toNat:Nat):Int):=by omega
 have e:iK xs ((i.toNat:Nat):Int)=some xs[i.toNat]:=kW (List.getElem?_eq_getElem hk);rw[<- ek] at e;rw[e];exact q _ (List.getElem_mem hk)
theorem x8{x:Str}{i:Int}{k:Nat->Prop}(h0:0<=i)(h1:i < (x.length:Int))(q:∀ c∈x.cps.toList,k c):dI (iK x.cps.toList i) k:=by
 have hl:x.cps.toList.length=x.length:=by simp[Str.length]
 have hk:i.toNat < x.cps.toList.length:=by omega
 have ek:i=((i.toNat:Nat):Int):=by omega
 have e:iK x.cps.toList ((i.toNat:Nat):Int)=some x.cps.toList[i.toNat]:=kW (List.getElem?_eq_getElem hk);rw[<- ek] at e;rw[e];exact q _ (List.getElem_mem hk)
noncomputable def on1(vs:List V)(k:V->Prop)(_u:Tg k:=()):Prop:=match vs with
 | [v]=>k v
 | _=>False
noncomputable def lp(J:It)(g:TG)(tb:TS)(D:Ends)(σ:St)(H:Hp):Prop:=∃ W:Nat->Nat->St->Hp->Prop,(∃ m,W 0 m σ H)/\∀ i m σ H,W i m σ H ->
 (J.stop i H/\D.nx σ H)\/(J.go i H/\∃ N:St->Hp->Prop,(∀ σ' H',N σ' H'->∃ m',m' < m/\W (i+1) m' σ' H')/\∀ x H',J.yld i H x H'->g x σ H' fun σ2 H2=>tb {D with nx:=N,ct:=N,bk:=D.nx} σ2 H2)
section
variable {σ:St} {H:Hp} {D:Ends} {g:TG} {tb:TS} {as:TA} {te:TE} {K:q0B} {v w:V}
theorem TY{vs:List V}{k:V->Prop}:(∃ z,vs=[z]/\k z)=on1 vs k:=by
 refine propext ⟨fun⟨z,e,h⟩=>by subst e;exact h,fun h=>?_⟩;unfold on1 at h;split at h
 ·exact⟨_,rfl,h⟩
 ·exact h.elim
theorem Wr{k:V->Prop}{u:Tg k}:@on1 [v] k u=k v:=rfl
theorem NO:r8 (Ef as) g tb D σ H=as σ H fun vs H1=>on1 vs fun v=>eR v fun j=>(-(2 ^ 62)<=j/\j < 2 ^ 62)/\lp (Itr 0 j.toNat) g tb D σ H1:=by
 unfold r8 Ef
 congr 1
 funext vs H1;refine propext ⟨fun⟨j,e,h1,h2,h⟩=>by subst e;exact⟨⟨h1,h2⟩,h⟩,fun h=>?_⟩;unfold on1 at h;split at h
 ·obtain⟨j,rfl,⟨h1,h2⟩,h⟩:=dN h;exact⟨j,rfl,h1,h2,h⟩
 ·exact h.elim
noncomputable def on2(vs:List V)(k:V->V->Prop)(_u:Tg k:=()):Prop:=match vs with
 | [v,w]=>k v w
 | _=>False
theorem Ws{k:V->V->Prop}{u:Tg k}:@on2 [v,w] k u=k v w:=rfl
theorem NP:r8 (Qe as) g tb D σ H=as σ H fun vs H1=>on2 vs fun v w=>eR v fun i=>eR w fun j=>(-(2 ^ 62)<=i/\i < 2 ^ 62/\-(2 ^ 62)<=j/\j < 2 ^ 62)/\lp (Itr i (j - i).toNat) g tb D σ H1:=by
 unfold r8 Qe
 congr 1
 funext vs H1;refine propext ⟨fun⟨i,j,e,h1,h⟩=>by subst e;exact⟨h1,h⟩,fun h=>?_⟩;unfold on2 at h;split at h
 ·obtain⟨i,rfl,h'⟩:=dN h;obtain⟨j,rfl,h1,h''⟩:=dN h';exact⟨i,j,rfl,h1,h''⟩
 ·exact h.elim
theorem R0:r8 (Ee K te) g tb D σ H=te σ H fun x H1=>aR x fun a=>(∃ xs,dC K H1 a xs)/\lp (Itl K a) g tb D σ H1:=by
 unfold r8 Ee
 congr 1
 funext x H1;exact propext ⟨fun⟨a,e,h1,h⟩=>by subst e;exact⟨h1,h⟩,fun h=>by obtain⟨a,rfl,h1,h⟩:=aT h;exact⟨a,rfl,h1,h⟩⟩
theorem Sa:r8 (FH K te) g tb D σ H=te σ H fun x H1=>aR x fun a=>(∃ xs,eJ K H1 a xs)/\lp (Itt K a) g tb D σ H1:=by
 unfold r8 FH
 congr 1
 funext x H1;exact propext ⟨fun⟨a,e,h1,h⟩=>by subst e;exact⟨h1,h⟩,fun h=>by obtain⟨a,rfl,h1,h⟩:=aT h;exact⟨a,rfl,h1,h⟩⟩
theorem Sb:r8 (WT K as) g tb D σ H=as σ H fun vs H1=>on1 vs fun x=>aR x fun a=>∃ xs,dC K H1 a xs/\lp (Itv K a xs.length) g tb D σ H1:=by
 unfold r8 WT
 congr 1
 funext vs H1;refine propext ⟨fun⟨a,xs,e,h1,h⟩=>by subst e;exact⟨xs,h1,h⟩,fun h=>?_⟩;unfold on1 at h;split at h
 ·obtain⟨a,rfl,xs,h1,h⟩:=aT h;exact⟨a,xs,rfl,h1,h⟩
 ·exact h.elim
end
noncomputable def lc(J:It)(fr:List Nat)(tc:TT)(te:TE)(σ:St)(H:Hp)(Q:VK):Prop:=∃ W:Nat->Nat->List V->Hp->Prop,(∃ m,W 0 m [] H)/\∀ i m xs H,W i m xs H->xs.length<=1000000 /\
  ((J.stop i H/\∀ p,H p=none->Q (.ref p) (Zs H p (.lst xs))) \/
   (J.go i H/\∀ y H',J.yld i H y H'->tc (some y::bF fr σ) H' fun b H2=>if b=true then te (some y::bF fr σ) H2 (fun z H3=>∃ m',m' < m/\W (i+1) m' (xs++[z]) H3) else ∃ m',m' < m/\W (i+1) m' xs H2))
section
variable {fr:List Nat} {tc:TT} {te tl:TE} {σ:St} {H H1:Hp} {Q:VK} {as:TA} {K:q0B}
theorem Ny:kP (Ef as) fr tc te σ H Q=as σ H fun vs H1=>on1 vs fun v=>eR v fun j=>(-(2 ^ 62)<=j/\j < 2 ^ 62)/\lc (Itr 0 j.toNat) fr tc te σ H1 Q:=by
 unfold kP Ef
 congr 1
 funext vs H1;refine propext ⟨fun⟨j,e,h1,h2,h⟩=>by subst e;exact⟨⟨h1,h2⟩,h⟩,fun h=>?_⟩;unfold on1 at h;split at h
 ·obtain⟨j,rfl,⟨h1,h2⟩,h⟩:=dN h;exact⟨j,rfl,h1,h2,h⟩
 ·exact h.elim
theorem Nx:kP (Ee K tl) fr tc te σ H Q=tl σ H fun x H1=>aR x fun a=>(∃ xs,dC K H1 a xs)/\lc (Itl K a) fr tc te σ H1 Q:=by
 unfold kP Ee
 congr 1
 funext x H1;exact propext ⟨fun⟨a,e,h1,h⟩=>by subst e;exact⟨h1,h⟩,fun h=>by obtain⟨a,rfl,h1,h⟩:=aT h;exact⟨a,rfl,h1,h⟩⟩
noncomputable def eS(x:V)(k:Str->Prop)(_u:Tg k:=()):Prop:=match x with
 | .str p=>k p
 | _=>False
theorem Oe{x:Str}{k:Str->Prop}{u:Tg k}:@eS (.str x) k u=k x:=rfl
theorem Nz:kP (WW tl) fr tc te σ H Q=tl σ H fun x H1=>eS x fun z=>lc (Its z) fr tc te σ H1 Q:=by
 unfold kP WW
 congr 1
 funext x H1;refine propext ⟨fun⟨a,e,h⟩=>by subst e;exact h,fun h=>?_⟩;cases x with
 | str z=>exact⟨z,rfl,h⟩
 | _=>exact h.elim
theorem Th{B:Bool->Hp->Prop}:Qz σ H B=B true H:=rfl
theorem VR:bF [] σ=[]:=rfl
theorem GW{n:Nat}{Pv:Nat->List V->Hp->Prop}{i:Nat}{xs:List V}(hi:i < n):(∃ m',m' < n - i/\cW n Pv (i+1) m' xs H)=Pv (i+1) xs H :=
 propext ⟨fun⟨_,_,_,_,h⟩=>h,fun h=>cW.next hi h⟩
theorem El{lo:Int}{n:Nat}(Pv:Nat->List V->Hp->Prop)(h0:Pv 0 [] H)(hz:∀ i xs H,Pv i xs H->xs.length<=1000000)
    (hs:∀ i xs H,i < n->Pv i xs H->tc (some (.int (lo+i))::bF fr σ) H fun b H2=>if b=true then te (some (.int (lo+i))::bF fr σ) H2 (fun z H3=>Pv (i+1) (xs++[z]) H3) else Pv (i+1) xs H2)
    (hd:∀ xs H,Pv n xs H->∀ p,H p=none->Q (.ref p) (Zs H p (.lst xs))):lc (Itr lo n) fr tc te σ H Q :=
  Fj Pv h0 hz (fun i xs H hi h=>by simp only[GW hi];exact hs i xs H hi h) hd
theorem tF{a:Addr}{ys:List V}(Pv:Nat->List V->Hp->Prop)(h0:Pv 0 [] H)(hz:∀ i xs H,Pv i xs H->xs.length<=1000000)(hl:∀ i xs H,Pv i xs H->dC K H a ys)
    (hs:∀ i y xs H,i < ys.length->ys[i]?=some y->Pv i xs H->tc (some y::bF fr σ) H fun b H2=>if b=true then te (some y::bF fr σ) H2 (fun z H3=>Pv (i+1) (xs++[z]) H3) else Pv (i+1) xs H2)
    (hd:∀ xs H,Pv ys.length xs H->∀ p,H p=none->Q (.ref p) (Zs H p (.lst xs))):lc (Itl K a) fr tc te σ H Q :=
  Ik Pv h0 hz hl (fun i y xs H hi e h=>by simp only[GW hi];exact hs i y xs H hi e h) hd
end
noncomputable def Np(kb:List (Key×V)):List (Key×V)->Bool
 | []=>true
 | (k,v)::r=>match bT kb k with
  | none=>false
  | some y=>qR v y&&Np kb r
mutual
inductive nC(K:q0B)(H:Hp):Nat->V->V->Bool->Prop
 | flat {n:Nat} {x y:V}:cT x=true->cT y=true->nC K H n x y (qR x y)
 | same {n:Nat} {a:Addr}:nC K H n (.ref a) (.ref a) true
 | refs {n:Nat} {a b:Addr} {r:Bool}:a≠b->kU K H n a b r->nC K H n (.ref a) (.ref b) r
inductive kU(K:q0B)(H:Hp):Nat->Addr->Addr->Bool->Prop
 | list {n:Nat} {a b:Addr} {xs ys:List V} {e:Nat->Bool}:dC K H a xs->dC K H b ys->xs.length=ys.length->(∀ j x y,xs[j]?=some x->ys[j]?=some y->nC K H n x y (e j))->kU K H (n+1) a b ((List.range xs.length).all e)
 | ZY {n:Nat} {a b:Addr} {xs ys:List V}:dC K H a xs->dC K H b ys->xs.length≠ys.length->kU K H (n+1) a b false
 | tup {n:Nat} {a b:Addr} {xs ys:List V} {e:Nat->Bool}:eJ K H a xs->eJ K H b ys->(∀ j x y,xs[j]?=some x->ys[j]?=some y->nC K H n x y (e j))->kU K H (n+1) a b ((List.range (min xs.length ys.length)).all e&&xs.length==ys.length)
end
section
variable {X:Cx} {Zr:List (Addr×Obj)} {σ:St} {H:Hp} {s:Shared}
theorem kZ{xs:List V}{Zv:List Value}(r:Vals xs Zv){j:Nat}(h:j < Zv.toArray.size):∃ x,xs[j]?=some x/\bH x Zv.toArray[j]:=by
 have hj:j < xs.length:=by have:=r.length;simp only[List.size_toArray] at h;omega
 have e:=List.getElem?_eq_getElem hj;obtain⟨u,g,ru⟩:=r.get e;refine⟨_,e,?_⟩;obtain⟨_,q⟩:=List.getElem?_eq_some_iff.mp g;have:Zv.toArray[j]=u:=by simpa using q
 rw[this];exact ru
theorem He:∀(n:Nat),(∀ {a b:Addr} {r:Bool},kU X.K H n a b r->∀ {A:Around},Zt X Zr σ H s->A.units+n < cLine->SeqAt.RcAt A s (.ref a) (.ref b) r)/\(∀ {x y:V} {b:Bool},nC X.K H n x y b->∀ {A:Around} {v u:Value},Zt X Zr σ H s->bH x v->bH y u->A.units+n < cLine->SeqAt.EqAt A s v u b):=by
 intro n;have up:∀ {n:Nat},(∀ {a b:Addr} {r:Bool},kU X.K H n a b r->∀ {A:Around},Zt X Zr σ H s->A.units+n < cLine->SeqAt.RcAt A s (.ref a) (.ref b) r)->(∀ {x y:V} {b:Bool},nC X.K H n x y b->∀ {A:Around} {v u:Value},Zt X Zr σ H s->bH x v->bH y u->A.units+n < cLine->SeqAt.EqAt A s v u b):=by
  intro n rc x y b h A v u I rx ry hu;cases h with
  | flat fx fy=>exact Ll rx ry fx fy
  | same =>
   cases rx;cases ry;exact SeqAt.EqAt.same _
  | refs ne h =>
   cases rx;cases ry;exact SeqAt.EqAt.of_refs ne (rc h I hu)
 suffices g:∀ {a b:Addr} {r:Bool},kU X.K H n a b r->∀ {A:Around},Zt X Zr σ H s->A.units+n < cLine->SeqAt.RcAt A s (.ref a) (.ref b) r from ⟨g,up g⟩
 induction n with
 | zero=>intro a b r h;cases h
 | succ n ih =>
  intro a b r h A I hu;have ih:=@up n @ih;cases h with
  | list hx hy hl he =>
   obtain⟨Zv,r1,p1,z1⟩:=I.list hx;obtain⟨jts,r2,p2,z2⟩:=I.list hy;have l1:=r1.length;have l2:=r2.length;have:=SeqAt.RcAt.lists p1.isList p2.isList (by simp only[List.size_toArray];omega) (by omega) (A:=A) (fun j h1 h2=>by
    obtain⟨x,ex,rx⟩:=kZ r1 h1;obtain⟨y,ey,ry⟩:=kZ r2 h2;exact ih (he j x y ex ey) I rx ry (by show A.units+1+_ < _;omega))
   rw[List.size_toArray,<- l1] at this;exact this
  | ZY hx hy hl =>
   obtain⟨Zv,r1,p1,z1⟩:=I.list hx;obtain⟨jts,r2,p2,z2⟩:=I.list hy;have l1:=r1.length;have l2:=r2.length;exact SeqAt.RcAt.lists_lengths p1.isList p2.isList (by simp only[List.size_toArray,bne_iff_ne,ne_eq];omega) (by omega)
  | tup hx hy he =>
   obtain⟨Zv,r1,p1,z1⟩:=I.tuple hx;obtain⟨jts,r2,p2,z2⟩:=I.tuple hy;have l1:=r1.length;have l2:=r2.length;have:=SeqAt.RcAt.tuples (show s.heap.IsTuple _ Zv.toArray from p1) (show s.heap.IsTuple _ jts.toArray from p2) (by omega) (A:=A) (fun j h1 h2=>by
    obtain⟨x,ex,rx⟩:=kZ r1 h1;obtain⟨y,ey,ry⟩:=kZ r2 h2;exact ih (he j x y ex ey) I rx ry (by show A.units+1+_ < _;omega))
   rw[List.size_toArray,List.size_toArray,<- l1,<- l2] at this;exact this
theorem Lk{n:Nat}{x y:V}{b:Bool}(h:nC X.K H n x y b){A:Around}{v u:Value}(I:Zt X Zr σ H s)(rx:bH x v)(ry:bH y u)(hu:A.units+n < cLine):SeqAt.EqAt A s v u b:=(He n).2 h I rx ry hu
theorem Ml{n:Nat}{a b:Addr}{r:Bool}(h:kU X.K H n a b r){A:Around}(I:Zt X Zr σ H s)(hu:A.units+n < cLine):SeqAt.RcAt A s (.ref a) (.ref b) r:=(He n).1 h I hu
end
noncomputable def Za(P:Program)(W:World)(A:Around)(s:Shared)(y x:Value)(r:Bool):Prop:=∀(E:q0A) (Q:Bool->Shared->Prop),Q r s->wpAny (model P W) A (eqBool y x) Q E s
theorem Za.of{P:Program}{W:World}{A:Around}{s:Shared}{y x:Value}{r:Bool}(h:SeqAt.EqAt A s y x r):Za P W A s y x r:=h P W
noncomputable def Ys:R2:=fun x y H Q=>aR x fun a=>aR y fun b=>bW (H a) fun xs=>bW (H b) fun ys=>ys=[]/\Q (.bl (!xs.isEmpty)) H
inductive ZQ(H:Hp):List V->List V->Bool->Prop
  | nil:ZQ H [] [] true
  | cons {a b:Addr} {ka kb:List (Key×V)} {xs ys:List V} {r:Bool}:a≠b->H a=some (.dK ka)->H b=some (.dK kb)->(ka.all fun kv=>cT kv.2)=true->(kb.all fun kv=>cT kv.2)=true->ZQ H xs ys r ->
      ZQ H (.ref a::xs) (.ref b::ys) ((ka.length==kb.length&&Np kb ka)&&r)
theorem ZQ.len{H:Hp}{xs ys:List V}{r:Bool}(h:ZQ H xs ys r):xs.length=ys.length:=by
 induction h with
 | nil=>rfl
 | cons _ _ _ _ _ _ ih=>simp[ih]
theorem ZQ.at{H:Hp}{xs ys:List V}{r:Bool}(h:ZQ H xs ys r):∃ f:Nat->Bool,(List.range xs.length).all f=r/\∀ j x y,xs[j]?=some x->ys[j]?=some y->∃ a b ka kb,x=.ref a/\y=.ref b/\a≠b/\H a=some (.dK ka)/\H b=some (.dK kb)/\(ka.all fun kv=>cT kv.2)=true/\(kb.all fun kv=>cT kv.2)=true/\f j=(ka.length==kb.length&&Np kb ka):=by
 induction h with
 | nil=>exact⟨fun _=>true,rfl,fun j x y e=>by simp at e⟩
 | @cons a b ka kb xs ys r ne ea eb fa fb _ ih =>
  obtain⟨f,hf,hp⟩:=ih;refine⟨fun j=>match j with|0=>(ka.length==kb.length&&Np kb ka)|j+1=>f j,?_,?_⟩
  ·rw[List.length_cons,List.range_succ_eq_map,List.all_cons,List.all_map,<- hf];rfl
  ·intro j x y e1 e2;cases j with
   | zero =>
    simp only[List.getElem?_cons_zero,Option.some.injEq] at e1 e2;exact⟨a,b,ka,kb,e1.symm,e2.symm,ne,ea,eb,fa,fb,rfl⟩
   | succ j=>exact hp j x y (by simpa using e1) (by simpa using e2)
noncomputable def Yr:R2:=fun x y H Q=>aR x fun a=>aR y fun b=>bW (H a) fun xs=>bW (H b) fun ys=>∃ r,ZQ H xs ys r/\Q (.bl (!r)) H
noncomputable def WX(y:V)(xs:List V):Option Nat:=xs.findIdx? fun z=>qR z y
section
variable {X:Cx}
variable {o e:Expr} {to te:TE} {apos Zz:Pos}
noncomputable def Ym(to te:TE):TE:=fun σ H Q=>to σ H fun x H1=>aR x fun a=>bW (H1 a) fun _=>te σ H1 fun y H2=>bW (H2 a) fun xs=>cT y=true/\xs.all cT=true/\dI (WX y xs) fun j=>Q (.int j) H2
theorem V0{σ:St}{H:Hp}{Q:VK}:Ym to te σ H Q=to σ H fun x H1=>aR x fun a=>bW (H1 a) fun _=>te σ H1 fun y H2=>bW (H2 a) fun xs=>cT y=true/\xs.all cT=true/\dI (WX y xs) fun j=>Q (.int j) H2:=rfl
end
section
variable {H:Hp} {Q:VK} {a b p:Addr} {x:V}
theorem VT{a b:Bool}:EM (.bl a) (.bl b) H Q=Q (.bl (decide (a=b))) H:=by simp only[EM,show scal (.bl a) (.bl b)=true from rfl,V.bl.injEq,true_and]
theorem RU:EM .Zu .Zu H Q=Q (.bl true) H:=by simp only[EM,show scal .Zu .Zu=true from rfl,decide_true,true_and]
theorem RT{i:Int}:EM .Zu (.int i) H Q=Q (.bl false) H:=by simp only[EM,show scal .Zu (.int i)=true from rfl,reduceCtorEq,decide_false,true_and]
theorem RS{i:Int}:EM (.int i) .Zu H Q=Q (.bl false) H:=by simp only[EM,show scal (.int i) .Zu=true from rfl,reduceCtorEq,decide_false,true_and]
theorem S4{K:q0B}{lo hi:Option Int}:Uq K (.ref a) lo hi H Q = ∃ xs,dC K H a xs/\∀ p,H p=none->Q (.ref p) (Zs H p (.lst (iF xs lo hi))):=by simp[Uq]
theorem Sj{K:q0B}{n:Nat}{t:TGs}{σ:St}{N:St->Hp->Prop}:Tq K n t (.ref a) σ H N = ∃ xs,eJ K H a xs/\xs.length=n/\t xs σ H N:=by simp[Tq]
theorem Yx:((0:Nat):Int)=0:=rfl
theorem Yy:((1:Nat):Int)=1:=rfl
theorem Yz:((2:Nat):Int)=2:=rfl
theorem Wj:Ys (.ref a) (.ref b) H Q=bW (H a) fun xs=>bW (H b) fun ys=>ys=[]/\Q (.bl (!xs.isEmpty)) H:=rfl
theorem Wi:Yr (.ref a) (.ref b) H Q=bW (H a) fun xs=>bW (H b) fun ys=>∃ r,ZQ H xs ys r/\Q (.bl (!r)) H:=rfl
end
noncomputable def gU(o:Option HO)(k:List V->Prop)(_u:Tg k:=()):Prop:=match o with
 | some (.tup xs)=>k xs
 | _=>False
theorem Ax{o:Option HO}{k:List V->Prop}(h:gU o k):∃ xs,o=some (.tup xs)/\k xs:=by
 unfold gU at h;split at h
 ·exact⟨_,rfl,h⟩
 ·exact h.elim
noncomputable def GV:R2:=fun x y H Q=>aR x fun a=>aR y fun b=>gU (H a) fun xs=>gU (H b) fun ys=>xs.length+ys.length<=sizeLine/\(if xs=[] then Q y H else if ys=[] then Q x H else ∀ p,H p=none->Q (.ref p) (Zs H p (.tup (xs++ys))))
noncomputable def U8:R2:=fun x y H Q=>aR x fun a=>aR y fun b=>gU (H a) fun xs=>gU (H b) fun ys=>ys=[]/\xs.all cT=true/\Q (.bl xs.isEmpty) H
section
variable {X:Cx}
theorem L8:lB X (binaryOp .Add) (fun x y H Q=>∃ a b ys,x=.ref a/\y=.ref b/\eJ X.K H a []/\eJ X.K H b ys/\Q (.ref b) H):=by
 intro Zr s σ H x y v u Q I rx ry h;obtain⟨a,b,ys,rfl,rfl,ha,hb,q⟩:=h;cases rx;cases ry;obtain⟨Zv,r1,p1,_⟩:=I.tuple ha;obtain⟨aaB,r2,p2,_⟩:=I.tuple hb;have l1:Zv=[]:=r1.xS.mpr rfl;obtain⟨⟨c1,d1,t1,o1⟩,ho,rfl,n,rfl⟩:=p1;obtain⟨⟨c2,d2,t2,o2⟩,ho2,rfl,n2,rfl⟩:=p2;exact concat_meets ⟨_,ho,rfl⟩ ⟨_,ho2,rfl⟩ noFill_tuple_add seq_tuple_add PySem.F.slot_tuple_add PySem.F.entry_tuple_add (PySem.F.args_tuple_add_2 _ _) (tuple_addW0 a b Zv.toArray aaB.toArray n n2 d1 d2 o1 o2 (by simp[l1])) ⟨ho,ho2,.ref b,H,I,rfl,q⟩
theorem Dn:lB X (binaryOp .Add) GV:=(L8.or HA).imp fun x y H Q h=>by
 obtain⟨a,rfl,h1⟩:=aT h;obtain⟨b,rfl,h2⟩:=aT h1;obtain⟨xs,e1,h3⟩:=Ax h2;obtain⟨ys,e2,h4,h5⟩:=Ax h3;by_cases c:xs=[]
 ·rw[if_pos c] at h5;subst c;exact .inl ⟨a,b,ys,rfl,rfl,.inl (.inl e1),.inl (.inl e2),h5⟩
 ·rw[if_neg c] at h5;refine .inr ⟨a,b,xs,ys,rfl,rfl,.inl (.inl e1),.inl (.inl e2),c,h4,fun z=>?_,fun z=>?_⟩
  ·rw[if_pos z] at h5;exact h5
  ·rw[if_neg z] at h5;exact h5
end
section
variable {H:Hp} {Q:VK} {a b p:Addr} {vs:List V} {lo hi:Option Int}
theorem Of{k:List V->Prop}{u:Tg k}:@gU (some (.tup vs)) k u=k vs:=rfl
theorem Lh:GV (.ref a) (.ref b) H Q=gU (H a) fun xs=>gU (H b) fun ys=>xs.length+ys.length<=sizeLine/\(if xs=[] then Q (.ref b) H else if ys=[] then Q (.ref a) H else ∀ p,H p=none->Q (.ref p) (Zs H p (.tup (xs++ys)))):=rfl
theorem RW:U8 (.ref a) (.ref b) H Q=gU (H a) fun xs=>gU (H b) fun ys=>ys=[]/\xs.all cT=true/\Q (.bl xs.isEmpty) H:=rfl
theorem RJ:JW lo hi H Q (some (.tup vs))=(¬ (HT.fM vs.length 0 lo=0/\HT.fM vs.length vs.length hi=vs.length)/\∀ p,H p=none->Q (.ref p) (Zs H p (.tup (iF vs lo hi)))):=rfl
end
section
variable {prog:Program} {w:World} {A:Around} {E:q0A}
end
noncomputable def GP(H:Hp)(xs:List V)(kvs:List (Key×V)):Prop:=xs.length=kvs.length/\∀(j:Nat) (x:V),xs[j]?=some x->∃(t:Addr) (k:Key) (v:V),x=.ref t/\H t=some (.tup [kV k,v])/\kvs[j]?=some (k,v)
noncomputable def Q8:List V->Hp->VK->Prop:=fun vs H Q=>on1 vs fun x=>aR x fun l=>bW (H l) fun xs=>∃ kvs,GP H xs kvs/\∀ p,H p=none->Q (.ref p) (Zs H p (.dK (Dg [] kvs)))
noncomputable def Itd(a:Addr)(o:Obj)(kvs:List (Key×V)):It :=
 ⟨fun i H=>i < kvs.length/\H a=some (.ZS o (.dK kvs)),fun i H x H'=>H'=H/\∃ kv,kvs[i]?=some kv/\x=kV kv.1,fun i H=>i=kvs.length/\H a=some (.ZS o (.dK kvs))⟩
theorem tE{P:Program}{W:World}{k:Key}{v:Value}(h:(bV P W).is k v=true):bH (kV k) v:=by
 rcases eE h with⟨i,t,rfl,rfl⟩|⟨x,t,rfl,rfl⟩|⟨rfl,rfl⟩
 ·exact⟨t,rfl⟩
 ·exact⟨t,rfl⟩
 ·rfl
theorem Lx{X:Cx}{Zr:List (Addr×Obj)}{σ:St}{H:Hp}{s:Shared}{a:Addr}{o:Obj}{kvs:List (Key×V)}{es:Array DictEntry}{ep:Nat}(I:Zt X Zr σ H s)(e:H a=some (.ZS o (.dK kvs)))(ho:o.data=.dict es ep) :
    ∃ vs,KV kvs vs/\s.heap.DictAt (bV X.prog X.w) a vs ep:=by
  obtain⟨h1,_,_,vs,rel,o',es',ep',h2,h3,h4,r⟩:=(show dH X.prog X.w H s.heap a (.ZS o (.dK kvs)) from I.Zw a _ e);rw[h1] at h2;cases h2;rw[ho] at h4;cases h4;exact⟨vs,rel,o,es,h1,h3,ho,r⟩
theorem KV.at{kvs:List (Key×V)}{vs:List (Key×Value)}(r:KV kvs vs){i:Nat}{kv:Key×V}(e:kvs[i]?=some kv):∃ v,vs[i]?=some (kv.1,v):=by
 unfold KV at r
 induction r generalizing i with
 | nil=>simp at e
 | @cons p q ps qs h t ih=>cases i with
  | zero =>
   have e':p=kv:=by simpa using e
   subst e';exact⟨q.2,by simp[h.1]⟩
  | succ i=>simpa using ih (i:=i) (by simpa using e)
theorem JF{P:Program}{w:World}{K:q0B}{tg:Expr}(a it:Addr)(o:Obj)(kvs:List (Key×V))(es:Array DictEntry)(ep:Nat)(ho:o.data=.dict es ep):Turn P w K tg (Itd a o kvs) [it] it (fun i h=>h.IsKeyIter it a i kvs.length ep) where
 mem:=by simp
 obj:=fun i h st b hb=>by
  have e:b=it:=by simpa using hb
  subst e;obtain⟨o,e,c,d⟩:=st;exact⟨o,e,fun v z=>by rw[d] at z;cases z⟩
 keep:=fun i h h' st k=>st.at fun o e=>k it (by simp) o e
 item:=by
  intro X hP hw hK hc i Zr s σ H E I hf st hg;subst hP hw hK;obtain⟨hi,hq⟩:=hg;obtain⟨vs,rel,dd⟩:=Lx I hq ho;have hk:=List.getElem?_eq_getElem hi;obtain⟨v,hv⟩:=rel.at hk;obtain⟨f0,f1,f2,f3,f4,f5⟩:=hf it (by simp);rw[rel.length] at st;refine wpAny_pyNext_dict_item st dd hv fun key h' aaT st' sb=>?_;have I1:Zt X Zr σ H {s with heap:=h'}:=I.turned (t':=s.toks) (fun b o hb e=>(sb.2 b hb).trans e) f0 f1 f3 f4 f5;rw[<- rel.length] at st';obtain⟨o',e,c,d⟩:=id st';exact⟨key,rfl,Hn (s:={s with heap:=h'}) e c d (by decide) ⟨kV (kvs[i]).1,H,I1,tE aaT,⟨rfl,_,hk,rfl⟩,st',fun b hb=>(hf b hb).1⟩⟩
 done:=by
  intro X hP hw hK hc i Zr s σ H E I hf st hg;subst hP hw hK;obtain⟨hi,hq⟩:=hg;obtain⟨vs,rel,dd⟩:=Lx I hq ho;obtain⟨f0,f1,f2,f3,f4,f5⟩:=hf it (by simp);rw[rel.length] at st hi;exact wpAny_pyNext_dict_end (I.ok.hd hc) st dd (List.getElem?_eq_none_iff.mpr (by omega)) fun h' eb=>⟨rfl,I.turned (t':=s.toks) (fun b o hb e=>eb b o hb e) f0 f1 f3 f4 f5⟩
 self:=fun _ _ _ _ _ st h=>wpAny_pyIter_keyiter st h
noncomputable def Tr(tl:TE):TI:=fun σ H R=>tl σ H fun x H1=>aR x fun a=>cH (H1 a) fun kvs=>∀ o,R (Itd a o kvs) (Zs H1 a (.ZS o (.dK kvs)))
theorem O3{X:Cx}{tg l:Expr}{tl:TE}(hl:PE X l tl):PI X tg l (Tr tl):=by
 intro Zr s σ H R I h;refine thn (hl Zr s σ H _ I h) fun v s1 ⟨x,H1,I1,r1,q1⟩=>?_;obtain⟨a,rfl,q2⟩:=aT q1;obtain⟨kvs,e,q⟩:=c8 q2;cases r1;obtain⟨z,hd,vs,rel,dd⟩:=sS I1.Zw e;obtain⟨ep,dat⟩:=dd.dictAt;obtain⟨o,es,ho,hx,acV,r⟩:=id dat;have I2:Zt X Zr σ (Zs H1 a (.ZS o (.dK kvs))) s1:=I1.write (t':=s1.toks) (x:=a) (e:=a) (by rw[e];exact True.intro) (.inl rfl) (fun _ _ _ q=>q) ⟨o,ho⟩ ⟨ho,y9 z hd rel dd⟩;refine wpAny_pyIter_dict hd dat ?_;have F:(Zs H1 a (.ZS o (.dK kvs))) s1.heap.objs.size=none:=I2.Zw.fresh (Nat.le_refl _);refine⟨s1.heap.objs.size,[s1.heap.objs.size],_,_,_,rfl,I2.kept (t':=s1.toks) fun b o e=>Heap.get?_push_of_some _ e,JF a _ o kvs es ep acV,?_,fun b hb=>?_,q o⟩
 ·rw[rel.length];exact⟨_,Heap.get?_push_size _ rfl,rfl,rfl⟩
 ·have e:b=s1.heap.objs.size:=by simpa using hb
  subst e;exact I2.Fy (Nat.le_refl _) F
section
variable {fr:List Nat} {tc:TT} {te tl:TE} {σ:St} {H:Hp} {Q:VK}
theorem Nw:kP (Tr tl) fr tc te σ H Q=tl σ H fun x H1=>aR x fun a=>cH (H1 a) fun kvs=>∀ o,lc (Itd a o kvs) fr tc te σ (Zs H1 a (.ZS o (.dK kvs))) Q:=by
 unfold kP Tr;rfl
theorem OI{a:Addr}{o:Obj}{kvs:List (Key×V)}(Pv:Nat->List V->Hp->Prop)(h0:Pv 0 [] H)(hz:∀ i xs H,Pv i xs H->xs.length<=1000000)(hl:∀ i xs H,Pv i xs H->H a=some (.ZS o (.dK kvs)))
    (hs:∀ i kv xs H,i < kvs.length->kvs[i]?=some kv->Pv i xs H->tc (some (kV kv.1)::bF fr σ) H fun b H2=>if b=true then te (some (kV kv.1)::bF fr σ) H2 (fun z H3=>Pv (i+1) (xs++[z]) H3) else Pv (i+1) xs H2)
    (hd:∀ xs H,Pv kvs.length xs H->∀ p,H p=none->Q (.ref p) (Zs H p (.lst xs))):lc (Itd a o kvs) fr tc te σ H Q:=by
  refine⟨cW kvs.length Pv,⟨kvs.length,by simp,Nat.zero_le _,h0⟩,?_⟩;rintro i m xs H ⟨rfl,hi,p⟩;refine⟨hz i xs H p,?_⟩;by_cases Z5:i < kvs.length
  · refine .inr ⟨⟨Z5,hl i xs H p⟩,fun y H' yy=>?_⟩;obtain⟨e,kv,hk,rfl⟩:=yy;subst e;simp only[GW Z5];exact hs i kv xs _ Z5 hk p
  · have e:i=kvs.length:=by omega
    subst e;exact .inl ⟨⟨rfl,hl _ xs H p⟩,hd xs H p⟩
end
section
variable {td ty tx:TE} {σ:St} {H:Hp} {Q:VK} {D:Ends} {a:Addr} {v w x:V}
theorem EE{k:Addr->Prop}:(∃ a,x=.ref a/\k a)=aR x k:=propext ⟨fun⟨a,e,h⟩=>by subst e;exact h,aT⟩
theorem Oi:MH td ty σ H Q=td σ H fun x H1=>aR x fun a=>UW H1 a/\ty σ H1 fun y H2=>∃ o,ZK H2 a y o/\Q (o.getD .Zu) H2:=by simp only[MH,EE]
theorem SX:Qw td ty σ H Q=td σ H fun x H1=>ty σ H1 fun y H2=>aR x fun a=>∃ v,ZK H2 a y (some v)/\Q v H2:=by
 unfold Qw
 congr 1
 funext x H1
 congr 1
 funext y H2;exact propext ⟨fun⟨a,v,e,h⟩=>by subst e;exact⟨v,h⟩,fun h=>by obtain⟨a,rfl,v,h⟩:=aT h;exact⟨a,v,rfl,h⟩⟩
theorem WD:XD ty td σ H Q=ty σ H fun y H1=>td σ H1 fun x H2=>aR x fun a=>∃ o,ZK H2 a y o/\Q (.bl o.isSome) H2:=by
 unfold XD
 congr 1
 funext y H1
 congr 1
 funext x H2;exact propext ⟨fun⟨a,o,e,h⟩=>by subst e;exact⟨o,h⟩,fun h=>by obtain⟨a,rfl,o,h⟩:=aT h;exact⟨a,o,rfl,h⟩⟩
theorem Oj:MJ td ty tx σ H Q=td σ H fun x H1=>aR x fun a=>UW H1 a/\ty σ H1 fun y H2=>tx σ H2 fun z H3=>∃ kvs k,H3 a=some (.dK kvs)/\y=kV k/\(∀ v,bT kvs k=some v->Q v (Zs H3 a (.dK (qP kvs k))))/\(bT kvs k=none->Q z H3):=by
 simp only[MJ,EE]
theorem NI{l:Addr}:Q8 [.ref l] H Q=bW (H l) fun xs=>∃ kvs,GP H xs kvs/\∀ p,H p=none->Q (.ref p) (Zs H p (.dK (Dg [] kvs))):=rfl
end
noncomputable def Co:List V->Option (List Str)
 | []=>some []
 | .str x::vs=>(Co vs).map (x::·)
 | _::_=>none
theorem Cp:∀ ys:List Str,Co (ys.map V.str)=some ys
 | []=>rfl
 | y::ys=>by
  show(Co (ys.map V.str)).map (y::·)=_;rw[Cp ys];rfl
noncomputable def Vs:List V->Hp->VK->Prop:=fun vs H Q=>match vs with
 | [.int i]=>i.natAbs.log2 < 1920/\Q (.str (toString i)) H
 | [.str x]=>Q (.str x) H
 | _=>False
noncomputable def Vj:V->List V->Hp->VK->Prop:=fun x vs H Q=>eS x fun sep=>on1 vs fun y=>aR y fun l=>bW (H l) fun xs=>dI (Co xs) fun ys=>(ys.map fun z=>z.length).sum+ys.length * sep.length<=16777216/\Q (.str (Txt.join sep ys)) H
noncomputable def Rj:V->List V->Hp->VK->Prop:=fun x vs H Q=>eS x fun z=>on1 vs fun y=>eS y fun sep=>(sep.length==0)=false/\z.length+2<=sizeLine/\∀ l,H l=none->Q (.ref l) (Zs H l (.lst ((Txt.split z sep).map V.str)))
noncomputable def Kf:List V->Hp->VK->Prop:=fun vs H Q=>on1 vs fun x=>aR x fun p=>bW (H p) fun ys=>∀ l,H l=none->Q (.ref l) (Zs H l (.tup ys))
theorem L6{x:V}{k:Str->Prop}(h:eS x k):∃ z,x=.str z/\k z:=by
 unfold eS at h;split at h
 ·exact⟨_,rfl,h⟩
 ·exact h.elim
theorem g9{vs:List V}{k:V->Prop}(h:on1 vs k):∃ v,vs=[v]/\k v:=by
 unfold on1 at h;split at h
 ·exact⟨_,rfl,h⟩
 ·exact h.elim
section
variable {X:Cx}
theorem fH:dQ X (.type "tuple") Kf:=fun Zr s σ H xs us Q I r h=>by
 obtain⟨x,rfl,h⟩:=g9 h;obtain⟨p,rfl,h⟩:=aT h;obtain⟨ys,e,h⟩:=fT h;exact Br Zr s σ H _ us Q I r ⟨_,_,rfl,.inl ⟨.inl (.inl e),h⟩⟩
noncomputable def Vn:R2:=fun x y H Q=>aR x fun a=>aR y fun b=>gU (H a) fun xs=>gU (H b) fun ys=>ys=[]/\Q (.bl (!xs.isEmpty)) H
end
section
variable {K:q0B} {T:String} {r:V->List V->Hp->VK->Prop} {to:TE} {t:TA} {σ:St} {H:Hp} {Q:VK} {x y:Str} {i:Int} {p:Addr} {ys:List Str}
theorem Yw:Zm K T r to t σ H Q=to σ H fun x H1=>Yc K T x H1/\t σ H1 fun xs H2=>r x xs H2 Q:=rfl
theorem WL:Yc K "str" (.str x) H=True:=eq_true rfl
theorem S5:Vs [.int i] H Q=(i.natAbs.log2 < 1920/\Q (.str (toString i)) H):=rfl
theorem S6:Vs [.str x] H Q=Q (.str x) H:=rfl
theorem Sx:Vj (.str x) [.ref p] H Q=bW (H p) fun xs=>dI (Co xs) fun ys=>(ys.map fun z=>z.length).sum+ys.length * x.length<=16777216/\Q (.str (Txt.join x ys)) H:=rfl
theorem Ov:Co (ys.map V.str)=some ys:=Cp ys
theorem Ou:Rj (.str x) [.str y] H Q=((y.length==0)=false/\x.length+2<=sizeLine/\∀ l,H l=none->Q (.ref l) (Zs H l (.lst ((Txt.split x y).map V.str)))):=rfl
theorem SN{q:Addr}:Vn (.ref p) (.ref q) H Q=gU (H p) fun xs=>gU (H q) fun ys=>ys=[]/\Q (.bl (!xs.isEmpty)) H:=rfl
theorem Oy:Kf [.ref p] H Q=bW (H p) fun ys=>∀ l,H l=none->Q (.ref l) (Zs H l (.tup ys)):=rfl
end
noncomputable abbrev TJ:=Str->St->Hp->(Str->Hp->Prop)->Prop
noncomputable def Y3(te:TE):TE:=fun σ H Q=>te σ H fun x H1=>eS x fun z=>z.length<=sizeLine/\Q (.str z) H1
noncomputable def Zn:TJ:=fun acc _ H Q=>Q acc H
noncomputable def Zo(te:TE)(tj:TJ):TJ:=fun acc σ H Q=>te σ H fun x H1=>eS x fun z=>(acc++z).length<=sizeLine/\tj (acc++z) σ H1 Q
noncomputable def PF(tj:TJ):TE:=fun σ H Q=>tj Str.empty σ H fun out H1=>out.length<=sizeLine/\Q (.str out) H1
section
variable {X:Cx} {e a b:Expr} {es:List Expr} {te:TE} {tj:TJ} {pos:Pos}
end
noncomputable def Zd(r:V->List V->Hp->VK->Prop)(to:TE)(t:TA):TE:=fun σ H Q=>to σ H fun x H1=>aR x fun a=>bW (H1 a) fun _=>t σ H1 fun xs H2=>r (.ref a) xs H2 Q
noncomputable def Vb:V->List V->Hp->VK->Prop:=fun x vs H Q=>aR x fun a=>on1 vs fun y=>aR y fun b=>bW (H a) fun xs=>bW (H b) fun zs=>xs.length+zs.length<=sizeLine/\Q .Zu (Zs H a (.lst (xs++zs)))
noncomputable def P9:V->List V->Hp->VK->Prop:=fun x vs H Q=>aR x fun a=>on1 vs fun y=>eR y fun i=>bW (H a) fun xs=>i=0/\dI xs[0]? fun v=>Q v (Zs H a (.lst xs.tail))
section
variable {X:Cx} {o e:Expr} {es:List Expr} {to:TE} {t:TA} {name:Str} {apos Zz:Pos} {id:String} {r:V->List V->Hp->VK->Prop}
theorem EH(slot:Slot "list" name id)(hty:typeOf (.builtin id)=pure (.type "method_descriptor"))(hm:QY X id r)(ho:PE X o to)(ha:PA X (e::es) t)
    (Z7:attributeBase o name X.env (eval o X.env)=eval o X.env:=by rfl)
    (abH:((backTo Zz (starEach (e::es) X.env)).all (fun x=>!x.1)&&(backToKw Zz (keywordEach [] X.env)).all (fun x=>x.1.isSome)
     &&decide ((e::es).length+([]:List Keyword).length+(if ([]:List Keyword).isEmpty then 0 else 1) < 30))=true:=by rfl)
    (Z8:(apos.endLine==Zz.line)=true:=by rfl) (hs:starEach (e::es) X.env=(false,eval e X.env)::starEach es X.env:=by rfl) (aaI:(backTo Zz (starEach es X.env)).any (·.1)=false:=by rfl) :
    PE X (.Call (.Attribute o name apos) (e::es) [] Zz) (Zd r to t):=by
  intro Zr s σ H Q I h;refine wpAny_Call_method_late Z7 abH Z8 rfl (thn (ho Zr s σ H _ I h) fun v s1 ⟨x,H1,I1,r1,q1⟩=>?_);obtain⟨a,rfl,q1⟩:=aT q1;obtain⟨xs,e1,q1⟩:=fT q1;obtain⟨h1,h2⟩:=GI (T:="list") I1 r1 (.inl ⟨rfl,xs,.inl (.inl e1)⟩);refine⟨"list",id,PySem.F.plainAttrs_list,slot,hty,h1,h2,?_⟩;have hA:=ha Zz Zr s1 σ H1 _ I1 q1;rw[hs] at hA ⊢;refine Calls.callWith_builtin (by show(false||(backTo Zz (starEach es X.env)).any (·.1))=false;rw[aaI]<;>rfl) (Calls.evalArgs_plain ?_);exact thn hA fun us s2 ⟨vs,H2,I2,r2,q2⟩=>hm Zr s2 σ H2 _ vs v us Q I2 r1 r2 q2
theorem xR:QY X "list.extend" Vb:=fun Zr s σ H x vs v us Q I rx rv h=>by
 obtain⟨a,rfl,h1⟩:=aT h;obtain⟨y,rfl,h2⟩:=g9 h1;obtain⟨b,rfl,h3⟩:=aT h2;obtain⟨xs,e1,h4⟩:=fT h3;obtain⟨zs,e2,h5⟩:=fT h4;exact IW Zr s σ H _ _ v us Q I rx rv ⟨_,_,_,_,rfl,rfl,e1,e2,h5⟩
theorem OS:QY X "list.pop" P9:=fun Zr s σ H x vs v us Q I rx rv h=>by
 obtain⟨a,rfl,h1⟩:=aT h;obtain⟨y,rfl,h2⟩:=g9 h1;obtain⟨i,rfl,h3⟩:=dN h2;obtain⟨xs,e1,rfl,h4⟩:=fT h3;obtain⟨y,e2,h5⟩:=dE h4;cases xs with
 | nil=>cases e2
 | cons z zs=>exact LU Zr s σ H _ _ v us Q I rx rv ⟨_,_,_,0,y,rfl,rfl,e1,by decide,by decide,by simp[seqIndex?],e2,h5⟩
end
noncomputable def JD:Option HO->Option Bool
 | some (.lst xs)=>some (!xs.isEmpty)
 | some (.tup xs)=>some (!xs.isEmpty)
 | some (.dK kvs)=>some (!kvs.isEmpty)
 | _=>none
noncomputable def xE(H:Hp):V->Option Bool
 | .Zu=>some false
 | .bl b=>some b
 | .int i=>some (i !=0)
 | .ref p=>JD (H p)
 | _=>none
theorem PL{K:q0B}{H:Hp}{x:V}{k:Bool}(h:xE H x=some k):UZ K x H k:=by
 cases x with
 | Zu=>cases h;rfl
 | bl b=>cases h;rfl
 | int i=>cases h;rfl
 | ref p =>
  simp only[xE] at h;unfold JD at h;split at h
  ·next e=>cases h;exact .inl ⟨_,.inl (.inl e),rfl⟩
  ·next e=>cases h;exact .inr (.inl ⟨_,eJ.of e,rfl⟩)
  ·next e=>cases h;exact .inr (.inr ⟨_,e,rfl⟩)
  ·cases h
 | _=>cases h
noncomputable def MQ(ta:TE):TT:=fun σ H Q=>ta σ H fun x H'=>dI (xE H' x) fun k=>Q k H'
theorem xX{X:Cx}{a:Expr}{ta:TE}(ha:PE X a ta)(he:∀ whole,isTrue a X.env whole=(do let v <- whole;standAt a.pos;holding [v] (truthy v))):PT X a (MQ ta):=by
 intro Zr s σ H Q I h;exact isTrue_plain (thn (ha Zr s σ H _ I h) fun v s1 ⟨x,H1,I1,r1,q1⟩=>by
  obtain⟨k,e,q⟩:=dE q1;exact UP Zr s1 σ H1 x v Q I1 r1 ⟨k,PL e,q⟩) (he _)
section
variable {te to:TE} {t:TA} {tj:TJ} {σ:St} {H:Hp} {Q:VK} {x acc:Str} {r:V->List V->Hp->VK->Prop} {QS:Str->Hp->Prop} {B:Bool->Hp->Prop} {D:Ends} {p q:Addr} {vs:List V} {kvs:List (Key×V)} {v:V} {b:Bool} {i:Int}
theorem VY:Y3 te σ H Q=te σ H fun x H1=>eS x fun z=>z.length<=sizeLine/\Q (.str z) H1:=rfl
theorem YE:Zn acc σ H QS=QS acc H:=rfl
theorem YF:Zo te tj acc σ H QS=te σ H fun x H1=>eS x fun z=>(acc++z).length<=sizeLine/\tj (acc++z) σ H1 QS:=rfl
theorem KL:PF tj σ H Q=tj Str.empty σ H fun out H1=>out.length<=sizeLine/\Q (.str out) H1:=rfl
theorem RY:Str.empty++x=x:=by
 show(⟨#[]++x.cps⟩:Str)=x;rw[Array.empty_append]
theorem YG:Zd r to t σ H Q=to σ H fun x H1=>aR x fun a=>bW (H1 a) fun _=>t σ H1 fun xs H2=>r (.ref a) xs H2 Q:=rfl
theorem VW:Vb (.ref p) [.ref q] H Q=bW (H p) fun xs=>bW (H q) fun zs=>xs.length+zs.length<=sizeLine/\Q .Zu (Zs H p (.lst (xs++zs))):=rfl
theorem SU:P9 (.ref p) [.int 0] H Q=bW (H p) fun xs=>(0:Int)=0/\dI xs[0]? fun v=>Q v (Zs H p (.lst xs.tail)):=rfl
theorem Ow:MQ te σ H B=te σ H fun x H'=>dI (xE H' x) fun k=>B k H':=rfl
theorem Te:xE H .Zu=some false:=rfl
theorem Ta:xE H (.bl b)=some b:=rfl
theorem Tc:xE H (.int i)=some (i !=0):=rfl
theorem Li:xE H (.ref p)=JD (H p):=rfl
theorem Td:JD (some (.lst vs))=some (!vs.isEmpty):=rfl
theorem Tf:JD (some (.tup vs))=some (!vs.isEmpty):=rfl
theorem Tb:JD (some (.dK kvs))=some (!kvs.isEmpty):=rfl
theorem NZ:UK D σ H=False:=rfl
variable {fr:List Nat} {tc:TT} {tl:TE} {K:q0B}
theorem NC:kP (FH K tl) fr tc te σ H Q=tl σ H fun x H1=>aR x fun a=>(∃ xs,eJ K H1 a xs)/\lc (Itt K a) fr tc te σ H1 Q:=by
 unfold kP FH
 congr 1
 funext x H1;exact propext ⟨fun⟨a,e,h1,h⟩=>by subst e;exact⟨h1,h⟩,fun h=>by obtain⟨a,rfl,h1,h⟩:=aT h;exact⟨a,rfl,h1,h⟩⟩
theorem TL{a:Addr}{ys:List V}(Pv:Nat->List V->Hp->Prop)(h0:Pv 0 [] H)(hz:∀ i xs H,Pv i xs H->xs.length<=1000000)(hl:∀ i xs H,Pv i xs H->eJ K H a ys)
    (hs:∀ i y xs H,i < ys.length->ys[i]?=some y->Pv i xs H->tc (some y::bF fr σ) H fun b H2=>if b=true then te (some y::bF fr σ) H2 (fun z H3=>Pv (i+1) (xs++[z]) H3) else Pv (i+1) xs H2)
    (hd:∀ xs H,Pv ys.length xs H->∀ p,H p=none->Q (.ref p) (Zs H p (.lst xs))):lc (Itt K a) fr tc te σ H Q:=by
  refine⟨cW ys.length Pv,⟨ys.length,by simp,Nat.zero_le _,h0⟩,?_⟩;rintro i m xs H ⟨rfl,hi,p⟩;refine⟨hz i xs H p,?_⟩;have q:=hl i xs H p;by_cases Z5:i < ys.length
  · refine .inr ⟨⟨ys,ys[i],q,by simp[Z5]⟩,fun y H' yy=>?_⟩;obtain⟨e,yy⟩:=yy;subst e;simp only[GW Z5];exact hs i y xs _ Z5 (yy ys q) p
  · have e:i=ys.length:=by omega
    subst e;exact .inl ⟨⟨ys,q,Nat.le_refl _⟩,hd xs H p⟩
end
section
variable {X:Cx} {Zr:List (Addr×Obj)} {σ:St} {H:Hp} {s:Shared}
theorem Pb{n:Nat}{a b:Addr}{r:Bool}{A:Around}(h:kU X.K H n a b r)(I:Zt X Zr σ H s)(hu:A.units+n < cLine):SeqAt.RcNeAt A s (.ref a) (.ref b) (!r):=by
 cases h with
 | list hx hy hl he =>
  obtain⟨Zv,r1,p1,z1⟩:=I.list hx;obtain⟨jts,r2,p2,z2⟩:=I.list hy;have l1:=r1.length;have l2:=r2.length;have:=SeqAt.RcNeAt.lists p1.isList p2.isList (by simp only[List.size_toArray];omega) (by omega) (A:=A) (fun j h1 h2=>by
   obtain⟨x,ex,rx⟩:=kZ r1 h1;obtain⟨y,ey,ry⟩:=kZ r2 h2;exact Lk (he j x y ex ey) I rx ry (by show A.units+1+_ < _;omega))
  rw[List.size_toArray,<- l1] at this;exact this
 | ZY hx hy hl =>
  obtain⟨Zv,r1,p1,z1⟩:=I.list hx;obtain⟨jts,r2,p2,z2⟩:=I.list hy;have l1:=r1.length;have l2:=r2.length;exact SeqAt.RcNeAt.lists_lengths p1.isList p2.isList (by simp only[List.size_toArray,bne_iff_ne,ne_eq];omega) (by omega)
 | tup hx hy he =>
  obtain⟨Zv,r1,p1,z1⟩:=I.tuple hx;obtain⟨jts,r2,p2,z2⟩:=I.tuple hy;have l1:=r1.length;have l2:=r2.length;have:=SeqAt.RcNeAt.tuples (show s.heap.IsTuple _ Zv.toArray from p1) (show s.heap.IsTuple _ jts.toArray from p2) (by omega) (A:=A) (fun j h1 h2=>by
   obtain⟨x,ex,rx⟩:=kZ r1 h1;obtain⟨y,ey,ry⟩:=kZ r2 h2;exact Lk (he j x y ex ey) I rx ry (by show A.units+1+_ < _;omega))
  rw[List.size_toArray,List.size_toArray,<- l1,<- l2] at this;exact this
end
noncomputable def Vk(K:q0B)(n:Nat):R2:=fun x y H Q=>aR x fun a=>aR y fun b=>∃ r,kU K H n a b r/\Q (.bl (!r)) H
noncomputable def U7(K:q0B)(n:Nat):R2:=fun x y H Q=>aR x fun a=>aR y fun b=>∃ r,kU K H n a b r/\Q (.bl r) H
theorem Ed{A:Around}{k:Nat}(hr:Room k A){n:Nat}(h:n<=60):A.units+n < cLine:=Nat.lt_of_le_of_lt (Nat.add_le_add_left (by omega:n<=64) _) hr.units
noncomputable def Xs(n:Int)(xs:List V):List V:=(List.replicate n.toNat xs).flatten
noncomputable def Yu:R2:=fun x y H Q=>aR x fun l=>eR y fun k=>bW (H l) fun xs=>(-(2 ^ 63)<=k/\k < 2 ^ 63)/\xs.length * k.toNat<=sizeLine/\∀ p,H p=none->Q (.ref p) (Zs H p (.lst (Xs k xs)))
noncomputable def J8:List V->Hp->VK->Prop:=fun vs H Q=>on1 vs fun x=>aR x fun p=>nG (H p) fun ys=>∀ l,H l=none->Q (.ref l) (Zs H l (.lst ys))
noncomputable def P5(K:q0B):List V->Hp->VK->Prop:=fun vs H Q=>on1 vs fun x=>aR x fun p=>∃ xs,dC K H p xs/\Q (.int xs.length) H
section
variable {X:Cx}
theorem Dl(n:Nat)(hu:X.A.units+n < cLine):lB X (compareOp .NotEq) (Vk X.K n):=fun Zr s σ H x y v u Q I rx ry h=>by
 obtain⟨a,rfl,h1⟩:=aT h;obtain⟨b,rfl,r,e,q⟩:=aT h1;cases rx;cases ry;exact Pb e I hu X.prog X.w X.xe _ (bR I q rfl)
theorem Gd(n:Nat)(hu:X.A.units+n < cLine):lB X (compareOp .Eq) (U7 X.K n):=fun Zr s σ H x y v u Q I rx ry h=>by
 obtain⟨a,rfl,h1⟩:=aT h;obtain⟨b,rfl,r,e,q⟩:=aT h1;cases rx;cases ry;exact Ml e I hu X.prog X.w X.xe _ (bR I q rfl)
theorem Ig:dQ X (.type "list") J8:=fun Zr s σ H xs us Q I r h=>by
 obtain⟨x,rfl,h1⟩:=g9 h;obtain⟨p,rfl,h2⟩:=aT h1;obtain⟨ys,e,h3⟩:=pA h2;refine CJ Zr s σ H _ us Q I r ⟨p,ys,rfl,?_,h3⟩;rcases e with e|e
 ·exact .inl (dC.of e)
 ·exact .inr (eJ.of e)
theorem Ie:dQ X (.builtin "len") (P5 X.K):=fun Zr s σ H xs us Q I r h=>by
 obtain⟨x,rfl,h1⟩:=g9 h;obtain⟨p,rfl,ys,e,q⟩:=aT h1;exact sP Zr s σ H _ us Q I r ⟨p,ys,rfl,.inl e,q⟩
end
section
variable {K:q0B} {H:Hp} {Q:VK} {a b p:Addr} {n:Nat} {i:Int}
theorem Wg:Vk K n (.ref a) (.ref b) H Q = ∃ r,kU K H n a b r/\Q (.bl (!r)) H:=rfl
theorem VS:U7 K n (.ref a) (.ref b) H Q = ∃ r,kU K H n a b r/\Q (.bl r) H:=rfl
theorem WB:Yu (.ref a) (.int i) H Q=bW (H a) fun xs=>(-(2 ^ 63)<=i/\i < 2 ^ 63)/\xs.length * i.toNat<=sizeLine/\∀ p,H p=none->Q (.ref p) (Zs H p (.lst (Xs i xs))):=rfl
theorem NY:J8 [.ref p] H Q=nG (H p) fun ys=>∀ l,H l=none->Q (.ref l) (Zs H l (.lst ys)):=rfl
theorem SD:P5 K [.ref p] H Q = ∃ xs,dC K H p xs/\Q (.int xs.length) H:=rfl
end
theorem kU.same{K:q0B}{H:Hp}{a b:Addr}{xs:List V}(h1:H a=some (.lst xs))(h2:H b=some (.lst xs))(h:∀ x∈xs,∃ c,x=.ref c):kU K H 1 a b true:=by
 have:=kU.list (K:=K) (H:=H) (n:=0) (a:=a) (b:=b) (e:=fun _=>true) (dC.of h1) (dC.of h2) rfl fun j x y e1 e2=>by
  rw[e1] at e2;cases e2;obtain⟨c,rfl⟩:=h x (List.mem_of_getElem? e1);exact .same
 rwa [show((List.range xs.length).all fun _=>true)=true by simp[List.all_eq_true]] at this
noncomputable def Str.cs(x:Str):List Nat:=x.cps.toList
noncomputable def Vf:List V->Hp->VK->Prop:=fun vs H Q=>on1 vs fun x=>eS x fun z=>z.length<=640/\dI (intText? z) fun n=>Q (.int n) H
noncomputable def Nl:V->List V->Hp->VK->Prop:=fun x vs H Q=>eS x fun z=>on1 vs fun y=>eS y fun p=>Q (.bl (Txt.startswith z p)) H
noncomputable def U6:V->List V->Hp->VK->Prop:=fun x vs H Q=>eS x fun z=>on1 vs fun y=>eS y fun p=>Q (.bl (Txt.endswith z p)) H
noncomputable def Yq:R2:=fun x y H Q=>eS x fun i=>eS y fun j=>Q (.bl (!decide (j.cps.toList < i.cps.toList))) H
noncomputable def yP:List V->Option (List Bool)
 | []=>some []
 | .bl b::r=>(yP r).map (b::·)
 | _=>none
theorem D2:∀ {bs:List Bool},yP (bs.map V.bl)=some bs
 | []=>rfl
 | b::bs=>by
  show(yP (bs.map V.bl)).map (b::·)=_;rw[D2];rfl
noncomputable def Yl:List V->Hp->VK->Prop:=fun vs H Q=>on1 vs fun x=>aR x fun p=>bW (H p) fun xs=>dI (yP xs) fun bs=>Q (.bl (bs.all id)) H
noncomputable def Yo(K:q0B)(neg:Bool):R2:=fun x y H Q=>aR y fun p=>∃ xs,eJ K H p xs/\cT x=true/\xs.all cT=true/\Q (.bl (if neg=true then !wZ x xs else wZ x xs)) H
section
variable {X:Cx}
end
section
variable {K:q0B} {H:Hp} {Q:VK} {p:Addr} {x y z:Str} {neg:Bool} {v:V}
theorem Sn:Vf [.str z] H Q=(z.length<=640/\dI (intText? z) fun n=>Q (.int n) H):=rfl
theorem Lg:Nl (.str z) [.str y] H Q=Q (.bl (Txt.startswith z y)) H:=rfl
theorem RQ:U6 (.str z) [.str y] H Q=Q (.bl (Txt.endswith z y)) H:=rfl
theorem Wc:Yq (.str x) (.str y) H Q=Q (.bl (!decide (y.cps.toList < x.cps.toList))) H:=rfl
theorem Vz:Yl [.ref p] H Q=bW (H p) fun xs=>dI (yP xs) fun bs=>Q (.bl (bs.all id)) H:=rfl
theorem V2:Yo K neg v (.ref p) H Q = ∃ xs,eJ K H p xs/\cT v=true/\xs.all cT=true/\Q (.bl (if neg=true then !wZ v xs else wZ v xs)) H:=rfl
end
noncomputable def k8(C:Addr)(o:Option HO)(k:Addr->List (Str×V)->Prop)(_u:Tg k:=()):Prop:=match o with
 | some (.ins C' dx fs)=>C'=C/\k dx fs
 | _=>False
theorem oZ{C:Addr}{o:Option HO}{k:Addr->List (Str×V)->Prop}(h:k8 C o k):∃ dx fs,o=some (.ins C dx fs)/\k dx fs:=by
 unfold k8 at h;split at h
 ·obtain⟨rfl,h⟩:=h;exact⟨_,_,rfl,h⟩
 ·exact h.elim
noncomputable def Ni(C:Addr)(f:Str)(ta:TE):TE:=fun σ H Q=>ta σ H fun x H1=>aR x fun a=>k8 C (H1 a) fun _ fs=>dI (fs.lookup f) fun v=>Q v H1
noncomputable def Qa(C:Addr)(f:Str)(ta tv:TE):TS:=fun D σ H=>tv σ H fun y H1=>ta σ H1 fun x H2=>aR x fun a=>k8 C (H2 a) fun dx fs=>fs.length < 1000/\D.nx σ (Zs H2 a (.ins C dx (jK f y fs)))
noncomputable def PY(C:Addr)(f:Str)(ta tv:TE):TS:=fun D σ H=>ta σ H fun x H1=>aR x fun a=>k8 C (H1 a) fun _ fs=>dI (fs.lookup f) fun v=>tv σ H1 fun y H2=>eR v fun i=>eR y fun j=>k8 C (H2 a) fun dx fs'=>fs'.length < 1000/\D.nx σ (Zs H2 a (.ins C dx (jK f (.int (i+j)) fs')))
section
variable {X:Cx} {o e value:Expr} {f:Str} {pos pos' aa4:Pos} {ta tv:TE} {C:Addr}
theorem aO(c:Cls X.K C)(n:eI X.K C f)(he:PE X e ta)(hb:attributeBase e f X.env (eval e X.env)=eval e X.env:=by rfl):PE X (.Attribute e f pos) (Ni C f ta):=fun Zr s σ H Q I h=>by
 refine M6 hb (thn (he Zr s σ H _ I h) fun u s1 ⟨x,H1,I1,rx,q1⟩=>?_);obtain⟨a,rfl,q2⟩:=aT q1;obtain⟨dx,fs,ea,q3⟩:=oZ q2;obtain⟨v,l,q⟩:=dE q3;obtain rfl:u=Value.ref a:=rx;exact zV I1 ea c n l fun u' s2 I2 ru=>⟨v,H1,I2,ru,q⟩
theorem dA(c:Cls X.K C)(n:eI X.K C f)(ha:PE X o ta)(hv:PE X value tv)(hs:swapsWith value (some (.Attribute o f pos')) pos.line X.env=pure false:=by rfl):PS X (.Assign [.Attribute o f pos'] value pos) (Qa C f ta tv):=fun Zr s σ H D I h=>by
 refine plainObj_wpAny_Assign_Attribute (thn (hv Zr s σ H _ I h) fun u s1 ⟨y,H1,I1,ry,q⟩=>thn (ha Zr s1 σ H1 _ I1 q) fun ov s2 ⟨x,H2,I2,rx,q1⟩=>?_) hs;obtain⟨a,rfl,q2⟩:=aT q1;obtain⟨dx,fs,ea,l,q3⟩:=oZ q2;obtain rfl:ov=Value.ref a:=rx;exact Bb I2 ea c n l ry fun s3 I3=>⟨σ,_,I3,q3⟩
theorem O5(c:Cls X.K C)(n:eI X.K C f)(ha:PE X o ta)(hv:PE X value tv):PS X (.AugAssign (.Attribute o f aa4) .Add value pos) (PY C f ta tv):=fun Zr s σ H D I h=>by
 refine wpAny_AugAssign_AttributeAny (thn (ha Zr s σ H _ I h) fun ov s1 ⟨x,H1,I1,rx,q1⟩=>?_);obtain⟨a,rfl,q2⟩:=aT q1;obtain⟨dx,fs,ea,q3⟩:=oZ q2;obtain⟨v,l,q⟩:=dE q3;obtain rfl:ov=Value.ref a:=rx;refine zV I1 ea c n l fun u s2 I2 ru=>thn (hv Zr s2 σ H1 _ I2 q) fun w3 s3 ⟨y,H2,I3,ry,q4⟩=>?_;obtain⟨i,rfl,q5⟩:=dN q4;obtain⟨j,rfl,q6⟩:=dN q5;obtain⟨dx',fs',ea',l',q7⟩:=oZ q6;refine thn (Tu Zr s3 σ H2 (.int i) (.int j) u w3 (fun z H3=>z=.int (i+j)/\H3=H2) I3 ru ry ⟨i,j,rfl,rfl,rfl,rfl⟩) fun w4 s4 ⟨z,H3,I4,rz,ez,eH⟩=>?_;subst ez eH;exact Bb I4 ea' c n l' rz fun s5 I5=>⟨σ,_,I5,q7⟩
end
section
variable {C a dx:Addr} {fs:List (Str×V)} {k:Addr->List (Str×V)->Prop} {m f:Str} {sp:Sp} {E:XK} {ta tv:TE} {t:TA} {σ:St} {H:Hp} {Q:VK} {D:Ends} {v u:V} {r:List (Str×V)}
theorem Hb{k:Addr->List (Str×V)->Prop}{u:Tg k}:@k8 C (some (.ins C dx fs)) k u=k dx fs:=by simp[k8]
theorem VX:Ni C f ta σ H Q=ta σ H fun x H1=>aR x fun a=>k8 C (H1 a) fun _ fs=>dI (fs.lookup f) fun v=>Q v H1:=rfl
theorem S3:Qa C f ta tv D σ H=tv σ H fun y H1=>ta σ H1 fun x H2=>aR x fun a=>k8 C (H2 a) fun dx fs=>fs.length < 1000/\D.nx σ (Zs H2 a (.ins C dx (jK f y fs))):=rfl
theorem Rz:PY C f ta tv D σ H=ta σ H fun x H1=>aR x fun a=>k8 C (H1 a) fun _ fs=>dI (fs.lookup f) fun v=>tv σ H1 fun y H2=>eR v fun i=>eR y fun j=>k8 C (H2 a) fun dx fs'=>fs'.length < 1000/\D.nx σ (Zs H2 a (.ins C dx (jK f (.int (i+j)) fs'))):=rfl
theorem SI:EY C m sp [] E ta t σ H Q=ta σ H fun x H1=>aR x fun a=>k8 C (H1 a) fun _ fs=>fs.lookup m=none/\t σ H1 fun vs H2=>sp (.ref a::vs) H2 Q E:=by
 unfold EY
 congr 1
 funext x H1;refine propext ⟨fun⟨a,dx,fs,e,e1,l,h⟩=>?_,fun h=>?_⟩
 ·subst e;show k8 C (H1 a) _;rw[e1,Hb];simp only[List.append_nil] at h;exact⟨l,h⟩
 ·obtain⟨a,rfl,h⟩:=aT h;obtain⟨dx,fs,e1,l,h⟩:=oZ h;exact⟨a,dx,fs,rfl,e1,l,by simpa only[List.append_nil] using h⟩
theorem SH:HU C sp [] E t σ H Q=t σ H fun vs H1=>∀ x dx,H1 x=none->H1 dx=none->dx≠x->sp (.ref x::vs) (Zs (Zs H1 dx (.own x)) x (.ins C dx [])) (fun v H2=>v=.Zu/\Q (.ref x) H2) E:=by
 unfold HU;simp only[List.append_nil]
theorem LY{x y:String}:(Str.ofString x=Str.ofString y)=(x=y):=pP
theorem KZ{x y:String}:List.lookup (Str.ofString x) ((Str.ofString y,v)::r)=if x=y then some v else List.lookup (Str.ofString x) r:=by
 by_cases h:x=y
 ·subst h;simp[List.lookup]
 ·have:(Str.ofString x==Str.ofString y)=false:=beq_eq_false_iff_ne.mpr fun z=>h (LY▸z);simp only[List.lookup,this,if_neg h]
theorem Ir{x:Str}:List.lookup x ([]:List (Str×V))=none:=rfl
theorem SV{x y:String}:jK (Str.ofString x) u ((Str.ofString y,v)::r)=if y=x then (Str.ofString y,u)::r else (Str.ofString y,v)::jK (Str.ofString x) u r:=by
 rw[show jK (Str.ofString x) u ((Str.ofString y,v)::r)=(if Str.ofString y=Str.ofString x then (Str.ofString y,u)::r else (Str.ofString y,v)::jK (Str.ofString x) u r) from rfl];by_cases h:y=x
 ·rw[if_pos h,if_pos (by rw[h])]
 ·rw[if_neg h,if_neg fun z=>h (LY▸z)]
theorem Oh{x:Str}:jK x u []=[(x,u)]:=rfl
end
noncomputable def PN:List V->Option (List String)
 | []=>some []
 | .ty T::r=>(PN r).map (T::·)
 | _=>none
noncomputable def HZ(Ts:List String):Obj:={cls:=.type "tuple",data:=.seq (Ts.map Value.type).toArray}
noncomputable def XJ(t:TA):TE:=fun σ H Q=>t σ H fun xs H1=>dI (PN xs) fun Ts=>xs.length<=sizeLine/\∀ p,H1 p=none->Q (.ref p) (Zs H1 p (.ZS (HZ Ts) (.tup xs)))
noncomputable def W6:Option HO->Option String
 | some (.tup _)=>some "tuple"
 | some (.lst _)=>some "list"
 | _=>none
noncomputable def Qf(H:Hp):V->Option String
 | .int _=>some "int"
 | .str _=>some "str"
 | .Zu=>some "NoneType"
 | .bl _=>some "bool"
 | .ref p=>W6 (H p)
 | _=>none
noncomputable def WY:String->String->Bool
 | "int","int"=>true
 | "bool","int"=>true
 | "str","str"=>true
 | "tuple","tuple"=>true
 | "list","list"=>true
 | _,_=>false
noncomputable def Vi:List V->Hp->VK->Prop:=fun vs H Q=>on2 vs fun x y=>aR y fun p=>∃ Ts xs,H p=some (.ZS (HZ Ts) (.tup xs))/\(Ts=["int","str"]\/Ts=["list","tuple"])/\dI (Qf H x) fun kd=>Q (.bl (Ts.any (WY kd))) H
section
variable {X:Cx}
end
section
variable {H:Hp} {Q:VK} {x:V} {p:Addr} {σ:St} {t:TA} {vs:List V} {i:Int} {z:Str} {b:Bool}
theorem Ti:XJ t σ H Q=t σ H fun xs H1=>dI (PN xs) fun Ts=>xs.length<=sizeLine/\∀ p,H1 p=none->Q (.ref p) (Zs H1 p (.ZS (HZ Ts) (.tup xs))):=rfl
theorem Tj{S T:String}:PN [.ty S,.ty T]=some [S,T]:=rfl
theorem Sq:Vi [x,.ref p] H Q = ∃ Ts xs,H p=some (.ZS (HZ Ts) (.tup xs))/\(Ts=["int","str"]\/Ts=["list","tuple"])/\dI (Qf H x) fun kd=>Q (.bl (Ts.any (WY kd))) H:=rfl
end
mutual
theorem nC.mono{K:q0B}{H:Hp}:∀ {n m:Nat} {x y:V} {b:Bool},nC K H n x y b->n<=m->nC K H m x y b
 | _,_,_,_,_,.flat a b,_=>.flat a b
 | _,_,_,_,_,.same,_=>.same
 | _,_,_,_,_,.refs ne r,h=>.refs ne (kU.mono r h)
theorem kU.mono{K:q0B}{H:Hp}:∀ {n m:Nat} {a b:Addr} {r:Bool},kU K H n a b r->n<=m->kU K H m a b r
 | _,m+1,_,_,_,.list a b c d,h=>.list a b c fun j x y e1 e2=>nC.mono (d j x y e1 e2) (by omega)
 | _,m+1,_,_,_,.ZY a b c,_=>.ZY a b c
 | _,m+1,_,_,_,.tup a b d,h=>.tup a b fun j x y e1 e2=>nC.mono (d j x y e1 e2) (by omega)
 | _,0,_,_,_,.list _ _ _ _,h=>absurd h (by omega)
 | _,0,_,_,_,.ZY _ _ _,h=>absurd h (by omega)
 | _,0,_,_,_,.tup _ _ _,h=>absurd h (by omega)
end
theorem nC.pair{K:q0B}{H:Hp}{n:Nat}{a b:Addr}{xs ys:List V}(e1:H a=some (.tup xs))(e2:H b=some (.tup ys))(hl:xs.length=ys.length)(he:∀(j:Nat) (x y:V),xs[j]?=some x->ys[j]?=some y->nC K H n x y true):nC K H (n+1) (.ref a) (.ref b) true:=by
 by_cases h:a=b
 ·subst h;exact .same
 ·have:=kU.tup (K:=K) (H:=H) (n:=n) (e:=fun _=>true) (eJ.of e1) (eJ.of e2) he;rw[show((List.range (min xs.length ys.length)).all (fun _=>true)&&xs.length==ys.length)=true by rw[hl];simp[List.all_eq_true]] at this;exact .refs h this
theorem Hd{a b:Str}:qR (.str a) (.str b)=(a==b):=rfl
theorem OA{a b:Int}:qR (.int a) (.int b)=(a==b):=rfl
section
variable {X:Cx} {Zr:List (Addr×Obj)} {σ:St} {H:Hp} {s:Shared} {a:Addr} {o:Obj} {kvs:List (Key×V)}
theorem Zt.PK(I:Zt X Zr σ H s)(e:H a=some (.ZS o (.dK kvs)))(hne:∀ ob u,X.H₀ a≠some (.ZS ob u)):Zt X Zr σ (Zs H a (.dK kvs)) s:=by
 have nn:∀ {b:Addr},H b=none->b≠a:=fun h z=>by subst z;rw[e] at h;cases h
 refine⟨I.ok,I.os,I.bare,⟨I.base.keep,I.base.slot,fun b ob q n hx=>?_,I.base.there,fun b xs q=>?_,fun b ob u q=>?_,fun b ps q=>?_⟩,I.loc,I.cell,?_,fun x c hc=>?_,fun p hp=>?_,fun b u q=>?_,I.len⟩
 ·have:=I.base.free b ob q n hx;rw[aG (nn this)];exact this
 ·have:=I.base.tY b xs q;rw[aG (dW this e (by intro z;cases z))];exact this
 ·have h1:=I.base.rH b ob u q;rw[aG (fun z=>by subst z;exact hne _ _ q)];exact h1
 ·obtain⟨more,h1⟩:=I.base.tX b ps q;exact⟨more,by rw[aG (dW h1 e (by intro z;cases z))];exact h1⟩
 ·rw[aG (nn I.free)];exact I.free
 ·rw[aG (nn (I.nE x c hc))];exact I.nE x c hc
 ·obtain⟨h1,h2,h3⟩:=I.pin p hp;exact⟨h1,by rw[aG (nn h2)];exact h2,h3⟩
 ·have own:∀ b c,H b=some (.own c)->Zs H a (.dK kvs) b=some (.own c):=fun b c q=>by rw[aG (dW q e (by intro z;cases z))];exact q
  have tup:∀ b xs,H b=some (.tup xs)->Zs H a (.dK kvs) b=some (.tup xs):=fun b c q=>by rw[aG (dW q e (by intro z;cases z))];exact q
  by_cases hb:b=a
  ·subst hb;rw[aA] at q;cases q;exact dH.tW (I.Zw b _ e).2 (fun _ _ _ z=>z) (fun b q=>own b _ q) tup
  ·rw[aG hb] at q;exact(I.Zw b u q).tW (fun _ _ _ z=>z) (fun b q=>own b _ q) tup
end
noncomputable def QA(H₀:Hp)(D:Ends):Ends :=
 {nx:=fun σ H=>∃ a o kvs,H a=some (.ZS o (.dK kvs))/\(∀ ob u,H₀ a≠some (.ZS ob u))/\D.nx σ (Zs H a (.dK kvs))
  bk:=fun σ H=>∃ a o kvs,H a=some (.ZS o (.dK kvs))/\(∀ ob u,H₀ a≠some (.ZS ob u))/\D.bk σ (Zs H a (.dK kvs))
  ct:=fun σ H=>∃ a o kvs,H a=some (.ZS o (.dK kvs))/\(∀ ob u,H₀ a≠some (.ZS ob u))/\D.ct σ (Zs H a (.dK kvs))
  rt:=fun v H=>∃ a o kvs,H a=some (.ZS o (.dK kvs))/\(∀ ob u,H₀ a≠some (.ZS ob u))/\D.rt v (Zs H a (.dK kvs))}
noncomputable def Qy(H₀:Hp)(t:TS):TS:=fun D σ H=>t (QA H₀ D) σ H
theorem O7{X:Cx}{st:Stmt}{t:TS}(h:PS X st t):PS X st (Qy X.H₀ t):=fun Zr s σ H D I hq =>
 thn (h Zr s σ H _ I hq) fun f s' q=>by
  cases f with
  | next=>obtain⟨σ',H',I',a,o,kvs,e,hne,q⟩:=q;exact⟨σ',_,I'.PK e hne,q⟩
  | brk=>obtain⟨σ',H',I',a,o,kvs,e,hne,q⟩:=q;exact⟨σ',_,I'.PK e hne,q⟩
  | cont=>obtain⟨σ',H',I',a,o,kvs,e,hne,q⟩:=q;exact⟨σ',_,I'.PK e hne,q⟩
  | ret u=>obtain⟨v,σ',H',I',r,a,o,kvs,e,hne,q⟩:=q;exact⟨v,σ',_,I'.PK e hne,r,q⟩
noncomputable def U4(ty td:TE):TE:=fun σ H Q=>ty σ H fun y H1=>td σ H1 fun x H2=>aR x fun a=>cH (H2 a) fun kvs=>dI (kT y) fun k=>Q (.bl (bT kvs k).isSome) H2
noncomputable def JY(td ty:TE):TE:=fun σ H Q=>td σ H fun x H1=>aR x fun a=>cH (H1 a) fun _=>ty σ H1 fun y H2=>cH (H2 a) fun kvs=>dI (kT y) fun k=>dI (bT kvs k) fun v=>Q v (Zs H2 a (.dK (qP kvs k)))
noncomputable def JX(td ty tx:TE):TE:=fun σ H Q=>td σ H fun x H1=>aR x fun a=>cH (H1 a) fun _=>ty σ H1 fun y H2=>tx σ H2 fun z H3=>cH (H3 a) fun kvs=>dI (kT y) fun k=>Q ((bT kvs k).getD z) H3
theorem C9{y:V}{k:Key}(h:kT y=some k):y=kV k:=by
 cases y<;>simp[kT] at h<;>subst h<;>rfl
section
variable {X:Cx} {o e f:Expr} {apos Zz:Pos} {td ty tx:TE}
theorem Mb(ho:PE X o td)(he:PE X e ty)(m:M1 X o "pop" apos e Zz):PE X (.Call (.Attribute o "pop" apos) [e] [] Zz) (JY td ty):=fun Zr s σ H Q I h=>by
 refine wpAny_Call_method m.base m.few m.line PySem.F.plainAttrs_dict PySem.F.slot_dict_pop PySem.F.type_dict_pop (thn (ho Zr s σ H _ I h) fun u s1 ⟨x,H1,I1,rx,q1⟩=>?_);obtain⟨a,rfl,q2⟩:=aT q1;obtain⟨kv0,e0,q3⟩:=c8 q2;obtain rfl:u=Value.ref a:=rx;obtain⟨t1,t2,_⟩:=uP I1 (.inl ⟨kv0,.inl e0⟩);refine⟨t1,t2,?_⟩;rw[m.trees];refine Calls.callWith_builtin rfl (Calls.evalArgs_plain (Calls.spliced_cons (thn (he Zr s1 σ H1 _ I1 q3) fun iv s2 ⟨y,H2,I2,ry,q4⟩=>Calls.spliced_nil ?_)));obtain⟨kvs,ea,q5⟩:=c8 q4;obtain⟨k,ek,q6⟩:=dE q5;obtain⟨v,l,q7⟩:=dE q6;cases C9 ek;exact Vw I2 ea ry l (.inl rfl) fun w' s3 I3 rw'=>⟨v,_,I3,rw',q7⟩
theorem Jj(hu:X.A.units+1 < cLine)(ho:PE X o td)(he:PE X e ty)(hf:PE X f tx)(m:M2 X o "get" apos e f Zz):PE X (.Call (.Attribute o "get" apos) [e,f] [] Zz) (JX td ty tx):=fun Zr s σ H Q I h=>by
 refine wpAny_Call_method m.base m.few m.line PySem.F.plainAttrs_dict PySem.F.slot_dict_get PySem.F.type_dict_get (thn (ho Zr s σ H _ I h) fun u s1 ⟨x,H1,I1,rx,q1⟩=>?_);obtain⟨a,rfl,q2⟩:=aT q1;obtain⟨kv0,e0,q3⟩:=c8 q2;obtain rfl:u=Value.ref a:=rx;obtain⟨t1,t2,_⟩:=uP I1 (.inl ⟨kv0,.inl e0⟩);refine⟨t1,t2,?_⟩;rw[m.trees];refine Calls.callWith_builtin rfl (Calls.evalArgs_plain (Calls.spliced_cons (thn (he Zr s1 σ H1 _ I1 q3) fun iv s2 ⟨y,H2,I2,ry,q4⟩ =>
  Calls.spliced_cons (thn (hf Zr s2 σ H2 _ I2 q4) fun fv s3 ⟨z,H3,I3,rz,q5⟩=>Calls.spliced_nil ?_))))
 obtain⟨kvs,ea,q6⟩:=c8 q5;obtain⟨k,ek,q7⟩:=dE q6;cases C9 ek;exact Ro hu I3 (ZK.k ea) ry rz fun w' s4 I4 rw'=>⟨_,H3,I4,rw',q7⟩
theorem HD(hu:X.A.units+1 < cLine)(hi:PE X e ty)(ho:PE X o td):PC X .In e o (U4 ty td):=fun Zr s σ H Q I h=>by
 refine thn (hi Zr s σ H _ I h) fun iv s1 ⟨y,H1,I1,ry,q1⟩=>thn (ho Zr s1 σ H1 _ I1 q1) fun u s2 ⟨x,H2,I2,rx,q2⟩=>?_;obtain⟨a,rfl,q3⟩:=aT q2;obtain⟨kvs,e0,q4⟩:=c8 q3;obtain⟨k,ek,q5⟩:=dE q4;obtain rfl:u=Value.ref a:=rx;cases C9 ek;exact Yv hu I2 (ZK.k e0) ry fun s3 I3=>⟨.bl (bT kvs k).isSome,H2,I3,rfl,q5⟩
noncomputable def GU(td:TE):TE:=fun σ H Q=>td σ H fun x H1=>aR x fun a=>cH (H1 a) fun _=>Q .Zu (Zs H1 a (.dK []))
theorem Ji(ho:PE X o td)(Z7:attributeBase o "clear" X.env (eval o X.env)=eval o X.env:=by rfl)(Z8:(apos.endLine==Zz.line)=true:=by rfl):PE X (.Call (.Attribute o "clear" apos) [] [] Zz) (GU td):=fun Zr s σ H Q I h=>by
 refine wpAny_Call_method0_late Z7 Z8 (thn (ho Zr s σ H _ I h) fun v s1 ⟨x,H1,I1,r1,q1⟩=>?_);obtain⟨a,rfl,q2⟩:=aT q1;obtain⟨kvs,e0,q3⟩:=c8 q2;obtain rfl:v=Value.ref a:=r1;obtain⟨t1,t2,_⟩:=uP I1 (.inl ⟨kvs,.inl e0⟩);refine⟨"dict","dict.clear",PySem.F.plainAttrs_dict,PySem.F.slot_dict_clear,PySem.F.type_dict_clear,t1,t2,Calls.callWith_builtin rfl (PySem.evalArgs_none ?_)⟩;obtain⟨z,hd,vs,rel,dd⟩:=sS I1.Zw e0;refine call_meetsIn PySem.F.slot_dict_clear dd.typeIs PySem.F.entry_dict_clear (PySem.F.args_dict_clear_1 _) (meets_dict_clear (bV X.prog X.w) a)
  ⟨vs,dd,by rw[<- rel.length];exact z,fun h' dd' hs=>⟨.Zu,_,?_,rfl,q3⟩⟩
 have he:∃ q,h'.get? a=some q:=let ⟨q,_,_,hq,_⟩:=dd';⟨q,hq⟩;exact sQ I1 (by rw[e0];exact True.intro) hs he (y9 (Nat.zero_le _) hd .nil dd')
noncomputable def PZ(td ty tx:TE):TE:=fun σ H Q=>td σ H fun x H1=>aR x fun a=>cH (H1 a) fun _=>ty σ H1 fun y H2=>tx σ H2 fun z H3=>cH (H3 a) fun kvs=>dI (kT y) fun k=>kvs.length < sizeLine /\
 (∀ v,bT kvs k=some v->Q v H3)/\(bT kvs k=none->Q z (Zs H3 a (.dK (eM kvs k z))))
theorem Mc(ho:PE X o td)(he:PE X e ty)(hf:PE X f tx)(m:M2 X o "setdefault" apos e f Zz):PE X (.Call (.Attribute o "setdefault" apos) [e,f] [] Zz) (PZ td ty tx):=fun Zr s σ H Q I h=>by
 refine wpAny_Call_method m.base m.few m.line PySem.F.plainAttrs_dict PySem.F.slot_dict_setdefault PySem.F.type_dict_setdefault (thn (ho Zr s σ H _ I h) fun u s1 ⟨x,H1,I1,rx,q1⟩=>?_);obtain⟨a,rfl,q2⟩:=aT q1;obtain⟨kv0,e0,q3⟩:=c8 q2;obtain rfl:u=Value.ref a:=rx;obtain⟨t1,t2,_⟩:=uP I1 (.inl ⟨kv0,.inl e0⟩);refine⟨t1,t2,?_⟩;rw[m.trees];refine Calls.callWith_builtin rfl (Calls.evalArgs_plain (Calls.spliced_cons (thn (he Zr s1 σ H1 _ I1 q3) fun iv s2 ⟨y,H2,I2,ry,q4⟩ =>
  Calls.spliced_cons (thn (hf Zr s2 σ H2 _ I2 q4) fun fv s3 ⟨z,H3,I3,rz,q5⟩=>Calls.spliced_nil ?_))))
 obtain⟨kvs,ea,q6⟩:=c8 q5;obtain⟨k,ek,hl,q7,q8⟩:=dE q6;cases C9 ek;obtain⟨z',hd,vs,rel,dd⟩:=sS I3.Zw ea;refine call_meetsIn PySem.F.slot_dict_setdefault dd.typeIs PySem.F.entry_dict_setdefault (PySem.F.args_dict_setdefault_3 _ _ _) (kt_meets_setdefault (bV X.prog X.w) a (wD ry) hd fv)
  ⟨vs,dd,by rw[<- rel.length];exact z',fun v hv=>?_,fun hv h' dd' hs=>?_⟩
 ·have:=rel.val k;rw[hv] at this;cases l:bT kvs k with
  | none=>rw[l] at this;exact this.elim
  | some w=>rw[l] at this;exact⟨w,H3,I3.tok _,this,q7 w l⟩
 ·have:=rel.val k;rw[hv] at this;cases l:bT kvs k with
  | some w=>rw[l] at this;exact this.elim
  | none =>
   have he:∃ q,h'.get? a=some q:=let ⟨q,_,_,hq,_⟩:=dd';⟨q,hq⟩;exact⟨z,_,sQ I3 (by rw[ea];exact True.intro) hs he (y9 (by have:=oR kvs k z;omega) hd (rel.put k rz) dd'),rz,q8 l⟩
end
section
variable {td ty tx:TE} {σ:St} {H H₀:Hp} {Q:VK} {t:TS} {D:Ends} {v:V}
theorem S8:Qy H₀ t D σ H=t (QA H₀ D) σ H:=rfl
theorem RM:U4 ty td σ H Q=ty σ H fun y H1=>td σ H1 fun x H2=>aR x fun a=>cH (H2 a) fun kvs=>dI (kT y) fun k=>Q (.bl (bT kvs k).isSome) H2:=rfl
theorem NJ:JY td ty σ H Q=td σ H fun x H1=>aR x fun a=>cH (H1 a) fun _=>ty σ H1 fun y H2=>cH (H2 a) fun kvs=>dI (kT y) fun k=>dI (bT kvs k) fun v=>Q v (Zs H2 a (.dK (qP kvs k))):=rfl
theorem KJ:JX td ty tx σ H Q=td σ H fun x H1=>aR x fun a=>cH (H1 a) fun _=>ty σ H1 fun y H2=>tx σ H2 fun z H3=>cH (H3 a) fun kvs=>dI (kT y) fun k=>Q ((bT kvs k).getD z) H3:=rfl
theorem KI:GU td σ H Q=td σ H fun x H1=>aR x fun a=>cH (H1 a) fun _=>Q .Zu (Zs H1 a (.dK [])):=rfl
theorem NK:PZ td ty tx σ H Q=td σ H fun x H1=>aR x fun a=>cH (H1 a) fun _=>ty σ H1 fun y H2=>tx σ H2 fun z H3=>cH (H3 a) fun kvs=>dI (kT y) fun k=>kvs.length < sizeLine/\(∀ v,bT kvs k=some v->Q v H3)/\(bT kvs k=none->Q z (Zs H3 a (.dK (eM kvs k z)))):=rfl
end
noncomputable def P2:V->V->Hp->VK->Prop:=fun x y H Q=>aR x fun p=>eR y fun i=>bW (H p) fun xs=>dI (iK xs i) fun v=>Q v H
noncomputable def Vg:TIp:=fun x y H Q=>eR x fun i=>eR y fun j=>Q (.int (i+j)) H
section
variable {X:Cx}
theorem WS:PGet X P2:=fun Zr s σ H o i ov iv Q I ro ri h=>by
 obtain⟨p,rfl,h1⟩:=aT h;obtain⟨k,rfl,h2⟩:=dN h1;obtain⟨xs,e,h3⟩:=fT h2;obtain⟨v,ea,q⟩:=dE h3;cases ro;obtain⟨t,rfl⟩:=ri;obtain⟨Zv,r,pl,hz⟩:=I.list (dC.of e);obtain⟨j,g1,g2,g3,g4,g5⟩:=xK ea;obtain⟨w,ew,rw'⟩:=r.get g2;have hl:=r.length;have hn:=line63;have fin:EP X Zr σ Q w s:=⟨v,H,I,rw',q⟩;by_cases h0:0<=k
 ·have hj:k.toNat=j:=by
   rw[seqIndex_of h0 g5] at g1;exact Option.some.inj g1
  exact wpAny_getItem_list pl.isList h0 (by omega) (by rw[hj];simpa using ew) fin
 ·have hj:(k+(Zv.toArray.size:Int)).toNat=j:=by
   rw[seqIndex_neg (by omega) g4] at g1;rw[List.size_toArray,<- hl];exact Option.some.inj g1
  exact wpAny_getItem_list_neg pl.isList (by omega) (by rw[List.size_toArray];omega) (by omega) (by rw[hj];simpa using ew) fin
theorem Ht:PIp X .Add Vg:=fun Zr s σ H x y v u Q I r1 r2 h=>by
 obtain⟨i,rfl,h1⟩:=dN h;obtain⟨j,rfl,q⟩:=dN h1;exact Tv Zr s σ H _ _ v u Q I r1 r2 ⟨i,j,rfl,rfl,q⟩
end
structure UX(P:Params)(K:q0B)(d:Addr):Prop where
 ex:∃ es n,K.lookup d=some {cls:=.type "dict",data:=.dict es n}/\PySem.W.KeysLit P es.toList
noncomputable def Qx(tab:List (Str×Sp))(tk:TE)(t:TA):TE:=fun σ H Q=>tk σ H fun y H1=>eS y fun x=>dI (tab.lookup x) fun sp=>t σ H1 fun vs H2=>sp vs H2 Q E0
theorem O1{X:Cx}{x:Str}{p pos pos':Pos}{d:Addr}{ke e:Expr}{es:List Expr}{tk:TE}{t:TA}{k:Nat}{tab:List (Str×Sp)}(hg:Gl X x)(hm:X.mg x=some (.ref d))(M:UX X.w.params X.K d)(hk:PE X ke tk)(hs:QZ ke)
    (F:∀ y sp,tab.lookup y=some sp->∃ f fd ps,PySem.W.nsIn X.K d y=some (some (.ref f))/\bG X.prog X.w X.K X.mg X.base ZF k f fd ps sp/\PySem.W.keepIn X.K (.ref f)=true/\Binds X.K fd ps [])
    (hr:Room k X.A) (ha:PA X (e::es) t) (hd:(x==("__debug__":Str))=false:=by decide) (he:starEach (e::es) X.env=(false,eval e X.env)::starEach es X.env:=by rfl) (hpl:(backTo pos (starEach es X.env)).any (·.1)=false:=by rfl)
    (hc:eval (.Call (.Subscript (.Name x p) ke pos') (e::es) [] pos) X.env=(do
      let f <- eval (.Subscript (.Name x p) ke pos') X.env
      callWith pos f [] (backTo pos (starEach (e::es) X.env)) (backToKw pos (keywordEach [] X.env))):=by rfl) :
    PE X (.Call (.Subscript (.Name x p) ke pos') (e::es) [] pos) (Qx tab tk t):=fun Zr s σ H Q I h=>by
  obtain⟨es',n',lk,kl⟩:=M.ex;refine PyProof.Rows.Call_ (HR (T:="dict") PySem.F.slot_dict_getitem.lookup hs (thn (tO (v:=.ref d) hg hm rfl hd Zr s σ H (fun v H'=>v=.ref d/\tk σ H' _) I ⟨rfl,h⟩) fun o s1 ⟨v,H1,I1,r1,ev,q1⟩=>?_)) hc;subst ev;obtain rfl:o=Value.ref d:=r1;refine thn (hk Zr s1 σ H1 _ I1 q1) fun i s2 ⟨y,H2,I2,ry,q2⟩=>?_;obtain⟨z,rfl,q3⟩:=L6 q2;obtain⟨sp,el,q4⟩:=dE q3;obtain⟨f,fd,ps,hns,hf,hkp,hb⟩:=F z sp el;obtain⟨t',rfl⟩:=ry;obtain⟨m,fr⟩:=I2.fr;refine⟨⟨_,I2.kIn _ _ lk,rfl⟩,PySem.W.topGetDict_K fr I2.mod.kin lk kl hns ?_⟩;refine PySem.W.callWith_K (h₀:=X.base) I2.mod.kin hkp (thn (ha pos Zr _ σ H2 _ (I2.tok _) q4) fun us s3 ⟨vs,H3,I3,r3,q5⟩=>⟨I3.kIn,?_⟩) he hpl;exact Ds (E:=E0) hf hr hb .nil pass0 I3 r3 (by simpa using q5)
section
variable {tab:List (Str×Sp)} {tk to ti te:TE} {t:TA} {σ:St} {H:Hp} {Q:VK} {D:Ends} {p:Addr} {i j:Int} {aaK:V->V->Hp->VK->Prop} {tip:TIp} {aaL:TSet}
theorem RK:Qx tab tk t σ H Q=tk σ H fun y H1=>eS y fun x=>dI (tab.lookup x) fun sp=>t σ H1 fun vs H2=>sp vs H2 Q E0:=rfl
theorem Sf:P2 (.ref p) (.int i) H Q=bW (H p) fun xs=>dI (iK xs i) fun v=>Q v H:=rfl
theorem V3:Vg (.int i) (.int j) H Q=Q (.int (i+j)) H:=rfl
theorem RB:Qv to ti te aaK tip aaL D σ H=to σ H fun o H1=>ti σ H1 fun i H2=>aaK o i H2 fun x H3=>te σ H3 fun y H4=>tip x y H4 fun z H5=>aaL o i z H5 fun H6=>D.nx σ H6:=rfl
theorem VO{i:Nat}{ti:TIp}:XB i te ti D σ H = ∃ x,σ[i]?=some (some x)/\te σ H fun y H1=>ti x y H1 fun z H2=>D.nx (σ.set i (some z)) H2:=rfl
end
noncomputable def intKeys:List (Key×V)->Option (List Int)
 | []=>some []
 | (.inl i,_)::r=>(intKeys r).map (i::·)
 | _=>none
theorem zX:∀ {kvs:List (Key×V)} {ns:List Int},intKeys kvs=some ns->kvs.length=ns.length/\∀(j:Nat) (k:Key) (x:V),kvs[j]?=some (k,x)->∃ i:Int,k=.inl i/\ns[j]?=some i
 | [],ns,h=>by cases h;exact⟨rfl,fun j k x e=>by simp at e⟩
 | (k,v)::kvs,ns,h=>by
  cases k with
  | inl i =>
   simp only[intKeys,Option.map_eq_some_iff] at h;obtain⟨ms,e,rfl⟩:=h;obtain⟨l,f⟩:=zX e;refine⟨by simp[l],fun j k x ej=>?_⟩;cases j with
   | zero=>simp only[List.getElem?_cons_zero,Option.some.injEq,Prod.mk.injEq] at ej;exact⟨i,ej.1.symm,rfl⟩
   | succ j=>exact f j k x (by simpa using ej)
  | _=>cases h
theorem Hs{ns:List Int}:∀ {vs:List Value},vs.length=ns.length->(∀(j:Nat) (v:Value),vs[j]?=some v->∃ i t,ns[j]?=some i/\v=Value.int i t)->IntsAre vs ns:=by
 induction ns with
 | nil =>
  intro vs hl _;cases vs with
  | nil=>exact .nil
  | cons _ _=>simp at hl
 | cons n ns ih =>
  intro vs hl h;cases vs with
  | nil=>simp at hl
  | cons v vs =>
   obtain⟨i,t,e,rfl⟩:=h 0 v rfl;cases e;exact .cons _ _ (ih (by simpa using hl) fun j v e=>h (j+1) v (by simpa using e))
theorem dH.there{P:Program}{w:World}{H:Hp}{h:Heap}{a:Addr}{o:HO}(x:dH P w H h a o):∃ ob,h.get? a=some ob:=by
 cases o with
 | lst xs=>obtain⟨_,_,_,_,e⟩:=x;exact⟨_,e⟩
 | tup xs=>obtain⟨_,_,_,o,e,_⟩:=x;exact⟨_,e⟩
 | dK kvs=>obtain⟨_,_,_,_,o,_,_,e,_⟩:=x;exact⟨_,e⟩
 | dT kvs=>obtain⟨_,_,_,_,o,_,_,e,_⟩:=x;exact⟨_,e⟩
 | set S n=>obtain⟨o,_,_,_,e,_⟩:=x;exact⟨_,e⟩
 | ins C dx fs=>obtain⟨_,_,_,e,_⟩:=x;exact⟨_,e⟩
 | own y=>obtain⟨_,e⟩:=x;exact⟨_,e⟩
 | xd fs=>obtain⟨_,⟨_,_,_,e,_⟩,_⟩:=x;exact⟨_,e⟩
 | rng lo hi=>obtain⟨_,_,_,e⟩:=x;exact⟨_,e⟩
 | ZS ob u=>obtain⟨e,_⟩:=x;exact⟨_,e⟩
 | tbl ps=>exact⟨_,(show h.get? a=some _ from x)⟩
 | met f y=>exact⟨_,(show h.get? a=some _ from x)⟩
 | ext φ=>obtain⟨_,⟨_,e⟩,_⟩:=x;exact⟨_,e⟩
noncomputable def Rh:List V->Hp->VK->Prop:=fun vs H Q=>on1 vs fun x=>aR x fun p=>cH (H p) fun kvs=>dI (intKeys kvs) fun ns=>ns.length < 64/\∀(l:Addr) (ZG:List Int),H l=none->ZG.Perm ns->ZG.Pairwise (·<=·)->Q (.ref l) (Zs H l (.lst (ZG.map V.int)))
section
variable {H:Hp} {Q:VK} {p:Addr}
theorem Om:Rh [.ref p] H Q=cH (H p) fun kvs=>dI (intKeys kvs) fun ns=>ns.length < 64/\∀(l:Addr) (ZG:List Int),H l=none->ZG.Perm ns->ZG.Pairwise (·<=·)->Q (.ref l) (Zs H l (.lst (ZG.map V.int))):=rfl
end
section
variable {X:Cx} {Zr:List (Addr×Obj)} {σ:St} {H:Hp} {s:Shared} {h':Heap}
theorem Zt.PM{t':Nat}{ch:List Addr}{p:Addr}{xs:List V}(I:Zt X Zr σ H s)(hf:∀ b∈ch,sG X Zr H b)(k:∀ b o,b∉ch->s.heap.get? b=some o->h'.get? b=some o)(hp:s.heap.objs.size<=p)
    (new:dH X.prog X.w (Zs H p (.tup xs)) h' p (.tup xs)):Zt X Zr σ (Zs H p (.tup xs)) {s with heap:=h',toks:=t'}:=by
  have hn:H p=none:=I.Zw.fresh hp;have nch:∀ b u,H b=some u->b∉ch:=fun b u e z=>by rw[(hf b z).1] at e;cases e
  have nep:∀ {b u},H b=some u->b≠p:=fun {b u} e z=>by rw[z,hn] at e;cases e
  have aaF:∀ {b u},H b=some u->Zs H p (.tup xs) b=some u:=fun {b u} e=>by rw[aG (nep e)];exact e
  refine I.step (g':=s.gens) (d':=s.drawn) (ch:=ch) (fun b hb=>?_) (fun b o _ _ hc e _=>k b o hc e) (fun b o _ _ hc e _=>⟨o.slots,k b o hc e⟩)
    (fun b o _ e n=>?_) (fun b o hc e=>⟨o,k b o hc e⟩) (fun _ _ e=>aaF e) (fun _ _ _ e=>aaF e) (fun b ps e=>⟨#[],by rw[aaF e];simp⟩) (fun m hm=>?_) (fun b u e=>?_) I.bare
  · obtain⟨_,f1,_,f3,f4,f5⟩:=hf b hb;exact⟨f3,f1,f4,f5⟩
  · rw[aG (Nat.ne_of_lt (Nat.lt_of_lt_of_le (Heap.lt_size e) hp))];exact n
  · obtain⟨o,es,ep,ho,r⟩:=hm;exact⟨o,es,ep,k _ o (fun z=>(hf _ z).2.1 rfl) ho,r⟩
  · by_cases hb:b=p
    · subst hb;rw[aA] at e;cases e;exact new
    · rw[aG hb] at e;refine(I.Zw b u e).tW (fun c v hc q=>k c v ?_ q) (fun _ q=>aaF q) fun _ _ q=>aaF q;rcases hc with z|z
      · rw[z];exact nch b u e
      · exact nch c _ z
theorem Zt.HY{t':Nat}{ch:List Addr}(I:Zt X Zr σ H s)(hf:∀ b∈ch,sG X Zr H b)(k:∀ b o,b∉ch->s.heap.get? b=some o->h'.get? b=some o):Zt X Zr σ H {s with heap:=h',toks:=t'}:=by
 have nch:∀ b u,H b=some u->b∉ch:=fun b u e z=>by rw[(hf b z).1] at e;cases e
 refine I.step (g':=s.gens) (d':=s.drawn) (ch:=ch) (fun b hb=>?_) (fun b o _ _ hc e _=>k b o hc e) (fun b o _ _ hc e _=>⟨o.slots,k b o hc e⟩)
  (fun b o _ e n=>n) (fun b o hc e=>⟨o,k b o hc e⟩) (fun _ _ e=>e) (fun _ _ _ e=>e) (fun b ps e=>⟨#[],by rw[e];simp⟩) (fun m hm=>?_) (fun b u e=>?_) I.bare
 ·obtain⟨_,f1,_,f3,f4,f5⟩:=hf b hb;exact⟨f3,f1,f4,f5⟩
 ·obtain⟨o,es,ep,ho,r⟩:=hm;exact⟨o,es,ep,k _ o (fun z=>(hf _ z).2.1 rfl) ho,r⟩
 ·refine(I.Zw b u e).tW (fun c v hc q=>k c v ?_ q) (fun _ q=>q) fun _ _ q=>q;rcases hc with z|z
  ·rw[z];exact nch b u e
  ·exact nch c _ z
end
noncomputable def SOk(t:Bool)(h:Heap)(a:Addr)(us:Array Value):Prop:=match t with
 | true=>h.IsTuple a us
 | false=>h.IsList a us
noncomputable def SIter(t:Bool)(h:Heap)(it a:Addr)(i:Nat):Prop:=match t with
 | true=>h.IsTupleIter it a i
 | false=>h.IsListIter it a i
theorem SOk.keep{t:Bool}{h h':Heap}{a:Addr}{us:Array Value}(x:SOk t h a us)(e:∀ o,h.get? a=some o->h'.get? a=some o):SOk t h' a us:=by
 cases t<;>(obtain⟨o,ho,r⟩:=x;exact⟨o,e o ho,r⟩)
theorem SIter.keep{t:Bool}{h h':Heap}{it a:Addr}{i:Nat}(x:SIter t h it a i)(e:∀ o,h.get? it=some o->h'.get? it=some o):SIter t h' it a i:=by
 cases t<;>(obtain⟨o,ho,r⟩:=x;exact⟨o,e o ho,r⟩)
theorem SIter.obj{t:Bool}{h:Heap}{it a:Addr}{i:Nat}(x:SIter t h it a i):∃ o,h.get? it=some o/\∀ v,o.data≠.cell v:=by
 cases t<;>(obtain⟨o,ho,c,d⟩:=x;exact⟨o,ho,fun v z=>by rw[d] at z;cases z⟩)
section
variable {prog:Program} {w:World} {A:Around} {E:q0A} {s:Shared}
end
section
variable {prog:Program} {w:World} {A:Around} {E:q0A} {s:Shared}
end
noncomputable def JK(K:q0B)(t:Bool)(H:Hp)(a:Addr)(xs:List V):Prop:=match t with
 | true=>eJ K H a xs
 | false=>dC K H a xs
section
variable {X:Cx} {Zr:List (Addr×Obj)} {σ:St} {H:Hp} {s:Shared} {a:Addr} {xs ys:List V} {t:Bool}
end
noncomputable def Itz(K:q0B)(t u:Bool)(a b:Addr):It :=
  ⟨fun i H=>∃ xs ys x y,JK K t H a xs/\JK K u H b ys/\xs[i]?=some x/\ys[i]?=some y,
   fun i H v H'=>∃ p x y,H p=none/\v=.ref p/\H'=Zs H p (.tup [x,y])/\(∀ xs,JK K t H a xs->xs[i]?=some x)/\∀ ys,JK K u H b ys->ys[i]?=some y,
   fun i H=>∃ xs ys,JK K t H a xs/\JK K u H b ys/\(xs.length<=i\/ys.length<=i)⟩
noncomputable def Ite(K:q0B)(a:Addr):It :=
  ⟨fun i H=>∃ xs x,dC K H a xs/\xs[i]?=some x,fun i H v H'=>∃ p x,H p=none/\v=.ref p/\H'=Zs H p (.tup [.int i,x])/\∀ xs,dC K H a xs->xs[i]?=some x,
   fun i H=>∃ xs,dC K H a xs/\xs.length<=i⟩
theorem JH{P:Program}{w:World}{K:q0B}{elts:List Expr}{k:Nat}{pos:Pos}{e it a:Addr}(ne:e≠it) :
    Turn P w K (.Tuple elts k pos) (Ite K a) [e,it] e (fun i h=>(∃ old,IsEnum h e it i old)/\h.IsListIter it a i) where
  mem:=by simp
  obj:=fun i h st c hc=>by
    obtain⟨⟨old,ee⟩,ei⟩:=st;simp only[List.mem_cons,List.not_mem_nil,or_false] at hc;rcases hc with rfl|rfl
    · exact⟨_,ee,fun v y=>nomatch y⟩
    · exact SIter.obj (t:=false) ei
  keep:=fun i h h' st k=>by
    obtain⟨⟨old,ee⟩,ei⟩:=st;exact⟨⟨old,k e (by simp) _ ee⟩,ei.at fun o q=>k it (by simp) o q⟩
  item:=by
    intro X hP hw hK hc i Zr s σ H E I hf st hg;subst hP hw hK;obtain⟨xs,x,q1,hx⟩:=hg;obtain⟨⟨old,ee⟩,ei⟩:=st;obtain⟨us,r1,s1,_⟩:=I.list q1;obtain⟨x',hx',rx⟩:=r1.get hx;refine wpAny_pyNext_enum_item (x:=x') ee ei s1.isList (by simpa using hx') ne fun h' z' v' np _ kk=>?_;refine⟨_,rfl,wpAny_letOwnedTupleGo_enum z' fun h2 z2 b2=>?_⟩;have lt:∀ c∈[e,it],c≠s.heap.objs.size:=fun c hc=>by
      simp only[List.mem_cons,List.not_mem_nil,or_false] at hc;rcases hc with rfl|rfl
      · exact Nat.ne_of_lt (Heap.lt_size ee)
      · obtain⟨o,e,_⟩:=ei;exact Nat.ne_of_lt (Heap.lt_size e)
    refine⟨.ref s.heap.objs.size,Zs H s.heap.objs.size (.tup [.int i,x]),I.PM (t':=s.toks+1) (p:=s.heap.objs.size) (h':=h2) hf (fun c o hc e=>?_) (Nat.le_refl _) ⟨show 2<=sizeLine by decide,[.int i s.toks,x'],.cons ⟨_,rfl⟩ (.cons rx .nil),?_⟩,rfl,⟨_,x,I.Zw.fresh (Nat.le_refl _),rfl,rfl,fun l hl=>by rw[I.Em hl q1];exact hx⟩,?_,fun c hc=>?_⟩
    · exact b2.extBut _ _ (fun q=>hc (by simp[q])) (kk c o (fun q=>hc (by simp[q])) (fun q=>hc (by simp[q])) e)
    · exact⟨_,b2.extBut _ _ (Ne.symm (lt e (by simp))) np,rfl,0,rfl⟩
    · exact⟨⟨_,by simpa using z2⟩,v'.extBut b2.extBut (Ne.symm ne)⟩
    · rw[aG (lt c hc)];exact(hf c hc).1
  done:=by
    intro X hP hw hK hc i Zr s σ H E I hf st hg;subst hP hw hK;obtain⟨xs,q1,hl⟩:=hg;obtain⟨⟨old,ee⟩,ei⟩:=st;obtain⟨us,r1,s1,_⟩:=I.list q1;have l1:=r1.length;exact wpAny_pyNext_enum_end (I.ok.hd hc) ee ei s1.isList (by simp;omega) fun h' kk=>⟨rfl,I.HY (t':=s.toks) hf fun c o hc q=>kk c o (fun z=>hc (by simp[z])) q⟩
  self:=fun _ _ _ _ _ st h=>by
    obtain⟨⟨old,ee⟩,_⟩:=st;exact wpAny_pyIter_enum ee h
section
variable {X:Cx} {elts:List Expr} {k:Nat} {tp:Pos}
noncomputable def Tt(K:q0B)(ta:TA):TI:=fun σ H R=>ta σ H fun vs H1=>on2 vs fun x y=>aR x fun a=>aR y fun b=>∃ t u,(∃ xs,JK K t H1 a xs)/\(∃ ys,JK K u H1 b ys)/\R (Itz K t u a b) H1
noncomputable def OE(K:q0B)(ta:TA):TI:=fun σ H R=>ta σ H fun vs H1=>on1 vs fun x=>aR x fun a=>(∃ xs,dC K H1 a xs)/\R (Ite K a) H1
theorem O4{a:Expr}{ta:TA}{p pos:Pos}(hg:Gl X "enumerate")(hm:X.mg "enumerate"=none)(ha:PA X [a] ta)(hs:starEach [a] X.env=[(false,eval a X.env)]:=by rfl):PI X (.Tuple elts k tp) (.Call (.Name "enumerate" p) [a] [] pos) (OE X.K ta):=by
 intro Zr s σ H R I h;refine Call_ (rJ I hg hm boot_enumerate (PyProof.Rows.callWith_type1 (thn (ha pos Zr s σ H _ I h) fun us s1 ⟨vs,H1,I1,r1,q1⟩=>?_) hs rfl));have q1:on1 vs _:=q1;rw[<- TY] at q1;obtain⟨x,rfl,q2⟩:=q1;obtain⟨c,rfl,⟨xs,hx⟩,q⟩:=aT q2;cases r1 with
 | cons r rr =>
  cases rr;cases r;obtain⟨_,_,s2,_⟩:=I1.list hx;refine call_enumerate_list s2.isList fun h' ee ei _ kk=>?_;refine wpAny_pyIter_enum (s:={s1 with heap:=h'}) ee ⟨_,_,_,_,H1,rfl,I1.kept (t':=s1.toks) kk,JH (Nat.ne_of_gt (Nat.lt_succ_self _)),⟨⟨_,ee⟩,ei⟩,fun b hb=>?_,q⟩;have:s1.heap.objs.size<=b:=by
   simp only[List.mem_cons,List.not_mem_nil,or_false] at hb;rcases hb with rfl|rfl<;>first|exact Nat.le_succ _|exact Nat.le_refl _
  exact I1.Fy this (I1.Zw.fresh this)
end
section
variable {σ:St} {H:Hp} {D:Ends} {g:TG} {tb:TS} {as:TA} {K:q0B}
theorem Sd:r8 (Tt K as) g tb D σ H=as σ H fun vs H1=>on2 vs fun x y=>aR x fun a=>aR y fun b=>∃ t u,(∃ xs,JK K t H1 a xs)/\(∃ ys,JK K u H1 b ys)/\lp (Itz K t u a b) g tb D σ H1:=rfl
theorem RZ:r8 (OE K as) g tb D σ H=as σ H fun vs H1=>on1 vs fun x=>aR x fun a=>(∃ xs,dC K H1 a xs)/\lp (Ite K a) g tb D σ H1:=rfl
theorem Lw{a:Addr}{xs:List V}(Pv:Nat->St->Hp->Prop)(h0:Pv 0 σ H)(hl:∀ i σ H,i<=xs.length->Pv i σ H->dC K H a xs)
    (hs:∀(i:Nat) x σ H,xs[i]?=some x->Pv i σ H->∀ p,H p=none->g (.ref p) σ (Zs H p (.tup [.int i,x])) fun σ2 H2=>tb {D with nx:=Pv (i+1),ct:=Pv (i+1),bk:=D.nx} σ2 H2) (hd:∀ σ H,Pv xs.length σ H->D.nx σ H):lp (Ite K a) g tb D σ H:=by
  refine⟨fun i m σ H=>m=xs.length - i/\i<=xs.length/\Pv i σ H,⟨xs.length,by simp,Nat.zero_le _,h0⟩,?_⟩;rintro i m σ H ⟨rfl,hi,pv⟩;have q1:=hl i σ H hi pv;by_cases lt:i < xs.length
  · refine .inr ⟨⟨xs,xs[i],q1,by simp[lt]⟩,Pv (i+1),fun σ' H' p'=>⟨xs.length - (i+1),by omega,rfl,lt,p'⟩,fun v H' yy=>?_⟩;obtain⟨p,x,hp,rfl,rfl,e1⟩:=yy;exact hs i x σ H (e1 xs q1) pv p hp
  · obtain rfl:i=xs.length:=by omega
    exact .inl ⟨⟨xs,q1,Nat.le_refl _⟩,hd σ H pv⟩
end
structure GO(X:Cx)(sc:Scope)(cl:List (Str×Addr))(x y0:Str)(fr:List Nat)(N:List Str):Prop where
 kind:sc.kind=.function
 Al:∀ y∈sc.names,y.2≠.cell
 names:∀ y∈sc.names,y.2=.local->sc.names.lookup y.1=some .local
 DX:closureFor sc X.env=pure cl
 sub:∀ y c,cl.lookup y=some c->X.env.cells.lookup y=some c
 has:∀ y,((relabel sc X.env).names.lookup y=some .cell\/(relabel sc X.env).names.lookup y=some .free)->∃ c,cl.lookup y=some c
 tgt:sc.names.lookup x=some .local
 XN:sc.names.lookup y0=some .local
 nd:N.Nodup
 N0:N=x::y0::fr.map fun j=>X.N.getD j x
 frc:∀ j∈fr,∃ y,X.N[j]?=some y/\X.env.kindOf y=some .cell/\((relabel sc X.env).names.lookup y=some .cell\/(relabel sc X.env).names.lookup y=some .free)
section
variable {X:Cx} {Zr:List (Addr×Obj)} {σ:St} {H:Hp} {s:Shared} {sc:Scope} {cl:List (Str×Addr)} {C:Addr} {x y0:Str} {fr:List Nat} {N:List Str} {fp:List Addr}
end
@[irreducible] def v7(K:q0B)(wi:TI)(fr:List Nat)(tc:TT)(te:TE):TE:=fun σ H Q=>wi σ H fun J H1=>∃ W:Nat->Nat->List V->Hp->Prop,(∃ m,W 0 m [] H1)/\∀ i m xs H,W i m xs H->xs.length<=1000000 /\
  ((J.stop i H/\∀ p,H p=none->Q (.ref p) (Zs H p (.lst xs))) \/
   (J.go i H/\∀ v H',J.yld i H v H'->∃ p y y2,v=.ref p/\eJ K H' p [y,y2]/\tc (some y::some y2::bF fr σ) H' fun b H2=>if b=true then te (some y::some y2::bF fr σ) H2 (fun z H3=>∃ m',m' < m/\W (i+1) m' (xs++[z]) H3) else ∃ m',m' < m/\W (i+1) m' xs H2))
section
variable {X:Cx} {sc:Scope} {cl:List (Str×Addr)} {x y0:Str} {fr:List Nat} {N:List Str} {elt iter:Expr} {px py tp pos:Pos} {tk:Nat} {ifs:List Expr} {wi:TI} {tc:TT} {te:TE}
end
theorem GO.of{X:Cx}{sc:Scope}{cl:List (Str×Addr)}{x y0:Str}{fr:List Nat}{N M:List Str}(S:eF X sc cl x fr M)(XN:sc.names.lookup y0=some .local)(nd:N.Nodup)(N0:N=x::y0::fr.map fun j=>X.N.getD j x):GO X sc cl x y0 fr N :=
 ⟨S.kind,S.Al,S.names,S.DX,S.sub,S.has,S.tgt,XN,nd,N0,S.frc⟩
noncomputable def lc2(K:q0B)(J:It)(fr:List Nat)(tc:TT)(te:TE)(σ:St)(H:Hp)(Q:VK):Prop:=∃ W:Nat->Nat->List V->Hp->Prop,(∃ m,W 0 m [] H)/\∀ i m xs H,W i m xs H->xs.length<=1000000 /\
  ((J.stop i H/\∀ p,H p=none->Q (.ref p) (Zs H p (.lst xs))) \/
   (J.go i H/\∀ v H',J.yld i H v H'->∃ p y y2,v=.ref p/\eJ K H' p [y,y2]/\tc (some y::some y2::bF fr σ) H' fun b H2=>if b=true then te (some y::some y2::bF fr σ) H2 (fun z H3=>∃ m',m' < m/\W (i+1) m' (xs++[z]) H3) else ∃ m',m' < m/\W (i+1) m' xs H2))
section
variable {fr:List Nat} {tc:TT} {te:TE} {σ:St} {H:Hp} {Q:VK} {as:TA} {K:q0B}
theorem Kv:v7 K (Tt K as) fr tc te σ H Q=as σ H fun vs H1=>on2 vs fun x y=>aR x fun a=>aR y fun b=>∃ t u,(∃ xs,JK K t H1 a xs)/\(∃ ys,JK K u H1 b ys)/\lc2 K (Itz K t u a b) fr tc te σ H1 Q:=by
 unfold v7 Tt;rfl
theorem Ks:v7 K (OE K as) fr tc te σ H Q=as σ H fun vs H1=>on1 vs fun x=>aR x fun a=>(∃ xs,dC K H1 a xs)/\lc2 K (Ite K a) fr tc te σ H1 Q:=by
 unfold v7 OE;rfl
end
inductive sF:List DictEntry->List (Key×V)->Prop
 | nil:sF [] []
 | cons {h:Int} {x:Str} {t:Tok} {u:Value} {v:V} {es:List DictEntry} {kvs:List (Key×V)}:bH v u->sF es kvs->sF ({hash:=h,key:=.str x t,val:=u}::es) ((.inr x,v)::kvs)
noncomputable def JZ(d:Addr)(kvs:List (Key×V)):List V->Hp->VK->Prop:=fun vs H Q=>vs=[.ref d]/\∀ p,H p=none->Q (.ref p) (Zs H p (.dK kvs))
theorem sF.vals{P:Program}{w:World}{es:List DictEntry}{kvs:List (Key×V)}(h:sF es kvs):∃ vs:List (Key×Value),KV kvs vs/\Pairs (bV P w) es vs:=by
 induction h with
 | nil=>exact⟨[],.nil,.nil⟩
 | @cons h x t u v es kvs r _ ih =>
  obtain⟨vs,a,b⟩:=ih;exact⟨(.inr x,u)::vs,.cons ⟨rfl,r⟩ a,.cons (wI P w x t) rfl b⟩
theorem NH{d:Addr}{kvs:List (Key×V)}{H:Hp}{Q:VK}:JZ d kvs [.ref d] H Q = ∀ p,H p=none->Q (.ref p) (Zs H p (.dK kvs)):=by simp[JZ]
noncomputable def IK:Option HO->Option Bool
 | some (.lst _)=>some true
 | some (.tup _)=>some false
 | _=>none
noncomputable def P4:List V->Hp->VK->Prop:=fun vs H Q=>on2 vs fun x y=>aR x fun p=>y=.ty "list"/\dI (IK (H p)) fun b=>Q (.bl b) H
section
variable {X:Cx}
noncomputable def P6(K:q0B):List V->Hp->VK->Prop:=fun vs H Q=>on1 vs fun x=>aR x fun p=>∃ xs,eJ K H p xs/\Q (.int xs.length) H
theorem BX:dQ X (.builtin "len") (P6 X.K):=fun Zr s σ H xs us Q I r h=>by
 obtain⟨x,rfl,h1⟩:=g9 h;obtain⟨p,rfl,ys,e,q⟩:=aT h1;exact sP Zr s σ H _ us Q I r ⟨p,ys,rfl,.inr e,q⟩
variable {o:Expr} {to:TE} {apos Zz:Pos}
noncomputable def Nj(to:TE):TE:=fun σ H Q=>to σ H fun x H1=>aR x fun a=>bW (H1 a) fun _=>Q .Zu (Zs H1 a (.lst []))
end
section
variable {H:Hp} {Q:VK} {p:Addr} {σ:St} {to:TE} {vs:List V}
theorem Sr:P4 [.ref p,.ty "list"] H Q=dI (IK (H p)) fun b=>Q (.bl b) H:=by
 unfold P4 on2;simp only[aR,true_and]
theorem SG{K:q0B}:P6 K [.ref p] H Q = ∃ xs,eJ K H p xs/\Q (.int xs.length) H:=rfl
theorem Wa:IK (some (.lst vs))=some true:=rfl
theorem Wb:IK (some (.tup vs))=some false:=rfl
theorem KY:Nj to σ H Q=to σ H fun x H1=>aR x fun a=>bW (H1 a) fun _=>Q .Zu (Zs H1 a (.lst [])):=rfl
theorem Wh{a b:Bool}:Uo (.bl a) (.bl b) H Q=Q (.bl (!decide (a=b))) H:=by simp only[Uo,show scal (.bl a) (.bl b)=true from rfl,V.bl.injEq,true_and]
end
noncomputable def Vt(K:q0B):List V->Hp->VK->Prop:=fun vs H Q=>on1 vs fun x=>aR x fun p=>∃ ns:List Int,dC K H p (ns.map V.int)/\∀ z:Int,Q (.int z) H
noncomputable def U3(K:q0B):R2:=fun x y H Q=>aR x fun a=>aR y fun b=>∃ xs ys,dC K H a xs/\dC K H b ys/\xs.length+ys.length<=sizeLine/\∀ p,H p=none->Q (.ref p) (Zs H p (.lst (xs++ys)))
theorem Q5:bootBuiltins "sum"=some (.builtin "sum"):=by decide +kernel
theorem GJ:∀ {ns:List Int} {us:List Value},Vals (ns.map V.int) us->∃ ps:List (Int×Tok),us.toArray=intItems ps.toArray:=by
 intro ns
 induction ns with
 | nil=>intro us r;cases r;exact⟨[],by simp[intItems]⟩
 | cons n ns ih =>
  intro us r;cases r with
  | cons h t =>
   obtain⟨k,rfl⟩:=h;obtain⟨ps,e⟩:=ih t;refine⟨(n,k)::ps,?_⟩;have e':=congrArg Array.toList e;simp only[intItems,List.map_toArray] at e' ⊢;simp only[List.map_cons];rw[show _=ps.map fun p=>Value.int p.1 p.2 from e']
section
variable {X:Cx}
theorem Ij(hc:X.calm=true):dQ X (.builtin "sum") (Vt X.K):=fun Zr s σ H xs us Q I r h=>by
 obtain⟨x,rfl,h1⟩:=g9 h;obtain⟨p,rfl,ns,hq,q⟩:=aT h1;obtain⟨u,rfl,ru⟩:=vals1 r;cases ru;obtain⟨Zv,rv,pl,hz⟩:=I.list hq;obtain⟨ps,e⟩:=GJ rv;have hl:=pl.isList;rw[e] at hl;exact sum_intListG (I.ok.hd hc) hl fun h' tk t' kk=>⟨.int _,H,I.kept (t':=tk) kk,⟨t',rfl⟩,q _⟩
end
section
variable {K:q0B} {H:Hp} {Q:VK} {p a b:Addr}
theorem WJ:Vt K [.ref p] H Q = ∃ ns:List Int,dC K H p (ns.map V.int)/\∀ z:Int,Q (.int z) H:=rfl
theorem RE:U3 K (.ref a) (.ref b) H Q = ∃ xs ys,dC K H a xs/\dC K H b ys/\xs.length+ys.length<=sizeLine/\∀ p,H p=none->Q (.ref p) (Zs H p (.lst (xs++ys))):=rfl
end
section
variable {X:Cx} {sc:Scope} {cl:List (Str×Addr)} {x y0:Str} {fr:List Nat} {N:List Str} {elt iter:Expr} {px px0 tp pos:Pos} {tk:Nat} {ifs:List Expr} {wi:TI} {tc:TT} {te:TE}
end
section
variable {a b:TS} {D:Ends} {σ:St} {H:Hp}
theorem aF(h:∀ R:St->Hp->Prop,(∀ σ' H',b D σ' H'->R σ' H')->a {D with nx:=R} σ H):PH a b D σ H:=h (b D) fun _ _ x=>x
end
section
variable {td ty tv:TE} {trs:List (TE×TE)} {tk:TE} {σ:St} {H:Hp} {Q:VK} {D:Ends}
theorem Le:HS ty td σ H Q=ty σ H fun y H1=>td σ H1 fun x H2=>aR x fun a=>∃ o,ZK H2 a y o/\Q (.bl (!o.isSome)) H2:=by
 unfold HS
 congr 1
 funext y H1
 congr 1
 funext x H2;exact propext ⟨fun⟨a,o,e,h⟩=>by subst e;exact⟨o,h⟩,fun h=>by obtain⟨a,rfl,o,h⟩:=aT h;exact⟨a,o,rfl,h⟩⟩
theorem SY:Qo td ty tv D σ H=tv σ H fun v H1=>td σ H1 fun x H2=>ty σ H2 fun y H3=>aR x fun a=>∃ H4,aaC H3 a y v H4/\D.nx σ H4:=by
 unfold Qo
 congr 1
 funext v H1
 congr 1
 funext x H2
 congr 1
 funext y H3;exact propext ⟨fun⟨a,H4,e,h⟩=>by subst e;exact⟨H4,h⟩,fun h=>by obtain⟨a,rfl,H4,h⟩:=aT h;exact⟨a,H4,rfl,h⟩⟩
theorem SO:UJ σ H Q = ∀ p,H p=none->Q (.ref p) (Zs H p (.dT [])):=rfl
theorem Ld{R:List (V×V)->Hp->Prop}:r9 [] σ H R=R [] H:=rfl
theorem Og{R:List (V×V)->Hp->Prop}:r9 ((tk,tv)::trs) σ H R=tk σ H fun x H1=>tv σ H1 fun y H2=>r9 trs σ H2 fun ps H3=>R ((x,y)::ps) H3:=rfl
theorem ZK.tt{a b:Addr}{kvs:List (List Key×V)}{k:List Key}(e:H a=some (.dT kvs))(eb:H b=some (.tup (k.map kV))):ZK H a (.ref b) (bT kvs k):=ZK.t e eb
end
section
variable {P:Program} {W:World} {A:Around} {E:q0A} {s:Shared} {dd it:Addr} {es:Array DictEntry} {ep i:Nat}
noncomputable def x9(h:Heap)(dd:Addr)(es:Array DictEntry)(ep:Nat):Prop:=∃ o,h.get? dd=some o/\o.ExactDict/\o.data=.dict es ep
theorem x9.ty(x:x9 s.heap dd es ep):s.TypeIs (.ref dd) "dict":=let ⟨o,e,c,_⟩:=x;⟨o,e,c.1⟩
theorem x9.to{h h':Heap}(x:x9 h dd es ep)(k:∀ o,h.get? dd=some o->h'.get? dd=some o):x9 h' dd es ep:=let ⟨o,e,r⟩:=x;⟨o,k _ e,r⟩
theorem x9.lt{h:Heap}(x:x9 h dd es ep):dd < h.objs.size:=let ⟨_,e,_⟩:=x;Heap.lt_size e
end
section
open PySem.W
inductive yA{α:Type}(n:Nat)(R:α->Prop):KasT α->Prop
 | ret {a:α}:R a->yA n R (.ret a)
 | ask {i j:Nat} {k:Bool->KasT α}:i < n->j < n->(∀ b,yA n R (k b))->yA n R (.ask i j k)
theorem yA.bind{α β:Type}{n:Nat}{R:α->Prop}{S:β->Prop}{t:KasT α}{f:α->KasT β}(h:yA n R t)(g:∀ a,R a->yA n S (f a)):yA n S (t.bind f):=by
 induction h with
 | ret x=>exact g _ x
 | ask i j _ ih=>exact .ask i j ih
noncomputable def Pm(n:Nat)(p:Array Nat):Prop:=p.Perm (List.toArray (List.range n))
variable {n:Nat} {p:Array Nat}
theorem Pm.get(h:Pm n p)(hn:0 < n)(i:Nat):p.getD i 0 < n:=by
 by_cases hi:i < p.size
 ·have m:p[i]∈p:=Array.getElem_mem hi;have:=h.mem_iff.mp m;simp only[List.mem_toArray,List.mem_range] at this;simpa[Array.getD,hi] using this
 ·simpa[Array.getD,hi] using hn
end
section
open PySem.W
variable {P:Program} {W:World} {A:Around} {E:q0A} {s:Shared}
noncomputable def Pr2(h:Heap)(v:Value):Prop:=∃ a o x y t u c,v=.ref a/\h.get? a=some o/\o.cls=.type "tuple"/\o.data=.seq #[.int x t,.int y u] c
theorem Pr2.to{h h':Heap}{v:Value}(x:Pr2 h v)(k:∀ b o,h.get? b=some o->h'.get? b=some o):Pr2 h' v:=by
 obtain⟨a,o,x,y,t,u,c,e,g,r⟩:=x;exact⟨a,o,x,y,t,u,c,e,k _ _ g,r⟩
end
noncomputable def Ri:List V->Hp->VK->Prop:=fun vs H Q=>on1 vs fun x=>aR x fun p=>∃ kvs:List (List Key×V),H p=some (.dT kvs)/\kvs.length < 64/\(∀ kv∈kvs,∃ i j:Int,kv.1=[.inl i,.inl j]) /\
 ∀(l:Addr) (us:List V),H l=none->us.length=kvs.length->(∀ u∈us,∃(a:Addr) (i j:Int),u=.ref a/\H a=some (.tup [.int i,.int j]))->Q (.ref l) (Zs H l (.lst us))
theorem KT.at{H:Hp}{kvs:List (List Key×V)}{xs:List (List Key×Addr×Value)}(r:KT H kvs xs):∀ {j:Nat} {x:List Key×Addr×Value},xs[j]?=some x->∃ kv,kvs[j]?=some kv/\H x.2.1=some (.tup (kv.1.map kV)):=by
 induction r with
 | nil=>intro j x e;simp at e
 | cons h _ ih =>
  intro j x e;cases j with
  | zero=>simp only[List.getElem?_cons_zero,Option.some.injEq] at e;subst e;exact⟨_,rfl,h.2.1⟩
  | succ j=>exact ih (by simpa using e)
theorem KT.len{H:Hp}{kvs:List (List Key×V)}{xs:List (List Key×Addr×Value)}(r:KT H kvs xs):kvs.length=xs.length:=by
 induction r with
 | nil=>rfl
 | cons _ _ ih=>simp[ih]
noncomputable def Rc:List V->Hp->VK->Prop:=fun vs H Q=>on1 vs fun x=>aR x fun p=>∃ kvs:List (List Key×V),H p=some (.dT kvs)/\Q (.int kvs.length) H
noncomputable def Vm:R2:=fun x y H Q=>aR x fun a=>aR y fun b=>∃ kvs:List (List Key×V),H a=some (.dT kvs)/\H b=some (.dT [])/\Q (.bl (!kvs.isEmpty)) H
section
variable {P:Program} {W:World} {A:Around} {E:q0A} {s:Shared} {a b:Addr} {es fs:Array DictEntry} {ep fp:Nat}
end
noncomputable def Vl:R2:=fun x y H Q=>aR x fun a=>aR y fun b=>∃ kvs:List (Key×V),H a=some (.dK kvs)/\H b=some (.dK kvs)/\(∀ kv∈kvs,∃ c,kv.2=.ref c/\bT kvs kv.1=some (.ref c))/\Q (.bl false) H
noncomputable def Itg(lo c:Int)(n:Nat):It:=⟨fun i _=>i < n,fun i H x H'=>H'=H/\x=.int (lo+i * c),fun i _=>n<=i⟩
noncomputable def WU(lo hi c:Int)(n:Nat)(ta:TA):TI:=fun σ H R=>ta σ H fun vs H1=>vs=[.int lo,.int hi,.int c]/\R (Itg lo c n) H1
section
variable {X:Cx} {tg:Expr}
end
section
variable {σ:St} {H:Hp} {D:Ends} {g:TG} {tb:TS} {as:TA} {Q:VK} {a b:Addr} {p:Addr}
theorem NQ{lo hi c:Int}{n:Nat}:r8 (WU lo hi c n as) g tb D σ H=as σ H fun vs H1=>vs=[.int lo,.int hi,.int c]/\lp (Itg lo c n) g tb D σ H1:=rfl
theorem Oo:Ri [.ref p] H Q = ∃ kvs:List (List Key×V),H p=some (.dT kvs)/\kvs.length < 64/\(∀ kv∈kvs,∃ i j:Int,kv.1=[.inl i,.inl j]) /\
 ∀(l:Addr) (us:List V),H l=none->us.length=kvs.length->(∀ u∈us,∃(a:Addr) (i j:Int),u=.ref a/\H a=some (.tup [.int i,.int j]))->Q (.ref l) (Zs H l (.lst us)):=rfl
theorem SM:Vm (.ref a) (.ref b) H Q = ∃ kvs:List (List Key×V),H a=some (.dT kvs)/\H b=some (.dT [])/\Q (.bl (!kvs.isEmpty)) H:=rfl
theorem SK:Vl (.ref a) (.ref b) H Q = ∃ kvs:List (Key×V),H a=some (.dK kvs)/\H b=some (.dK kvs)/\(∀ kv∈kvs,∃ c,kv.2=.ref c/\bT kvs kv.1=some (.ref c))/\Q (.bl false) H:=rfl
theorem RN{trs:List (TE×TE)}:XE trs σ H Q = ∀ p,H p=none->r9 trs σ (Zs H p (.dK [])) fun ps H2=>H2 p=some (.dK [])/\∃ kvs:List (Key×V),ps=kvs.map (fun kv=>(kV kv.1,kv.2))/\kvs.length<=15/\Q (.ref p) (Zs H2 p (.dK (Dg [] kvs))):=rfl
theorem NW:Rc [.ref p] H Q = ∃ kvs:List (List Key×V),H p=some (.dT kvs)/\Q (.int kvs.length) H:=rfl
end
noncomputable def B6(H:Hp):V->Option Bool
 | .ref p=>IK (H p)
 | .int _=>some false
 | .str _=>some false
 | .Zu=>some false
 | _=>none
noncomputable def Vh:List V->Hp->VK->Prop:=fun vs H Q=>on2 vs fun x y=>y=.ty "list"/\dI (B6 H x) fun b=>Q (.bl b) H
section
variable {H:Hp} {Q:VK} {x:V} {p:Addr} {i:Int} {z:Str}
theorem So:Vh [x,.ty "list"] H Q=dI (B6 H x) fun b=>Q (.bl b) H:=by
 show(V.ty "list"=V.ty "list"/\_)=_;simp only[true_and]
theorem V8:B6 H (.ref p)=IK (H p):=rfl
theorem V6:B6 H (.int i)=some false:=rfl
theorem V9:B6 H (.str z)=some false:=rfl
theorem V7:B6 H .Zu=some false:=rfl
end
noncomputable def Y5(ta tb:TE):TE:=fun σ H Q=>ta σ H fun x H1=>dI (xE H1 x) fun c=>if c=true then Q x H1 else tb σ H1 Q
noncomputable def XA(ta tb:TE):TE:=fun σ H Q=>ta σ H fun x H1=>dI (xE H1 x) fun c=>if c=true then tb σ H1 Q else Q x H1
section
variable {X:Cx} {a b:Expr} {rest:List Expr} {pos:Pos} {ta tb:TE}
end
noncomputable def L4(x:V)(k:Int->Prop)(_u:Tg k:=()):Prop:=match x with
 | .Zu=>k 0
 | .int i=>k i
 | _=>False
noncomputable def Y4(ta:TE):TE:=fun σ H Q=>ta σ H fun x H1=>L4 x fun i=>Q (.int i) H1
noncomputable def Xj(i:Int)(ns:List Int):Option Nat:=ns.findIdx? fun j=>decide (j=i)
noncomputable def Yt:V->List V->Hp->VK->Prop:=fun x vs H Q=>aR x fun l=>on1 vs fun y=>eR y fun i=>∃ ns:List Int,H l=some (.lst (ns.map V.int))/\dI (Xj i ns) fun k=>Q .Zu (Zs H l (.lst ((ns.eraseIdx k).map V.int)))
section
variable {X:Cx}
end
noncomputable def Vu:R2:=fun x y H Q=>aR x fun a=>eR y fun k=>gU (H a) fun xs=>xs≠[]/\((k=1/\Q x H)\/(k=0/\∀ p,H p=none->Q (.ref p) (Zs H p (.tup []))))
section
variable {X:Cx}
end
section
variable {σ:St} {H:Hp} {Q:VK} {ta tb:TE} {l a:Addr} {i:Int}
theorem Ww:Y5 ta tb σ H Q=ta σ H fun x H1=>dI (xE H1 x) fun c=>if c=true then Q x H1 else tb σ H1 Q:=rfl
theorem Ru:XA ta tb σ H Q=ta σ H fun x H1=>dI (xE H1 x) fun c=>if c=true then tb σ H1 Q else Q x H1:=rfl
theorem Wv:Y4 ta σ H Q=ta σ H fun x H1=>L4 x fun i=>Q (.int i) H1:=rfl
theorem Wp{k:Int->Prop}{u:Tg k}:L4 (.int i) k u=k i:=rfl
theorem Wq{k:Int->Prop}{u:Tg k}:L4 .Zu k u=k 0:=rfl
theorem WA:Yt (.ref l) [.int i] H Q = ∃ ns:List Int,H l=some (.lst (ns.map V.int))/\dI (Xj i ns) fun k=>Q .Zu (Zs H l (.lst ((ns.eraseIdx k).map V.int))):=rfl
theorem S9:Vu (.ref a) (.int i) H Q=gU (H a) fun xs=>xs≠[]/\((i=1/\Q (.ref a) H)\/(i=0/\∀ p,H p=none->Q (.ref p) (Zs H p (.tup [])))):=rfl
end
noncomputable def Rising(l:List Nat):Prop:=l.Pairwise (· < ·)
theorem yN(xs:Array Nat)(j:Nat)(hr:Rising xs.toList):∀(fuel lo hi:Nat),hi - lo<=fuel->lo<=hi->hi<=xs.size ->
    (∀ i (h:i < xs.size),i < lo->xs[i] < j)->(∀ i (h:i < xs.size),hi<=i->j<=xs[i]) ->
    (∀ i (h:i < xs.size),i < SetTable.below.go xs j fuel lo hi->xs[i] < j)/\(∀ i (h:i < xs.size),SetTable.below.go xs j fuel lo hi<=i->j<=xs[i])/\SetTable.below.go xs j fuel lo hi<=xs.size
  | 0,lo,hi,hf,hl,hh,h1,h2=>by
    have:lo=hi:=by omega
    subst this;exact⟨h1,h2,hh⟩
  | fuel+1,lo,hi,hf,hl,hh,h1,h2=>by
    have mono:∀ i k (hi:i < xs.size) (hk:k < xs.size),i < k->xs[i] < xs[k]:=fun i k hi hk hik=>by
      have:=List.pairwise_iff_getElem.mp hr i k (by simpa using hi) (by simpa using hk) hik;simpa using this
    unfold SetTable.below.go;by_cases c:lo < hi
    · rw[if_pos c];have hm:(lo+hi) / 2 < xs.size:=by omega
      have em:xs.getD ((lo+hi) / 2) j=xs[(lo+hi) / 2]:=by simp[Array.getD,hm]
      simp only[em];by_cases d:xs[(lo+hi) / 2] < j
      · rw[if_pos d];refine yN xs j hr fuel _ hi (by omega) (by omega) hh (fun i h Z5=>?_) h2;by_cases e:i=(lo+hi) / 2
        · subst e;exact d
        · exact Nat.lt_trans (mono i _ h hm (by omega)) d
      · rw[if_neg d];refine yN xs j hr fuel lo _ (by omega) (by omega) (by omega) h1 (fun i h hle=>?_);by_cases e:i=(lo+hi) / 2
        · subst e;omega
        · have:=mono _ i hm h (by omega);omega
    · rw[if_neg c];have:lo=hi:=by omega
      subst this;exact⟨h1,h2,hh⟩
theorem rA(xs:Array Nat)(j:Nat)(hr:Rising xs.toList):(∀ i (h:i < xs.size),i < SetTable.below xs j->xs[i] < j)/\(∀ i (h:i < xs.size),SetTable.below xs j<=i->j<=xs[i])/\SetTable.below xs j<=xs.size :=
 yN xs j hr xs.size 0 xs.size (by omega) (by omega) (Nat.le_refl _) (fun i h Z5=>absurd Z5 (by omega)) (fun i h hle=>absurd h (by omega))
theorem BE{xs:Array Nat}{j:Nat}(hr:Rising xs.toList)(hn:¬ xs[SetTable.below xs j]?=some j):Rising (SetTable.insertAt xs (SetTable.below xs j) j).toList:=by
 obtain⟨h1,h2,h3⟩:=rA xs j hr;rw[SetTable.toList_insertAt];generalize hb:SetTable.below xs j=b at *;unfold Rising at *;have split:=List.pairwise_append.mp (show(xs.toList.take b++xs.toList.drop b).Pairwise (· < ·) by rw[List.take_append_drop];exact hr);have lt:∀ x∈xs.toList.take b,x < j:=fun x hx=>by
  obtain⟨i,hi,rfl⟩:=List.mem_iff_getElem.mp hx;have hi':i < b/\i < xs.size:=by simpa[Nat.lt_min] using hi
  have:=h1 i hi'.2 hi'.1;simpa using this
 have gt:∀ x∈xs.toList.drop b,j < x:=fun x hx=>by
  obtain⟨i,hi,rfl⟩:=List.mem_iff_getElem.mp hx;have hi':b+i < xs.size:=by simp at hi;omega
  have hle:=h2 (b+i) hi' (by omega);have hne:xs[b+i]≠j:=fun e=>by
   by_cases hz:i=0
   ·subst hz;exact hn (by rw[Array.getElem?_eq_getElem (by simpa using hi')];simpa using e)
   ·have hb':b < xs.size:=by omega
    have h0:=h2 b hb' (Nat.le_refl _);have:=List.pairwise_iff_getElem.mp hr b (b+i) (by simpa using hb') (by simpa using hi') (by omega);simp at this;omega
  have:xs.toList.drop b=xs.toList.drop b:=rfl;simp only[List.getElem_drop,Array.getElem_toList];omega
 refine List.pairwise_append.mpr ⟨split.1,List.pairwise_cons.mpr ⟨gt,split.2.1⟩,fun x hx y hy=>?_⟩;rcases List.mem_cons.mp hy with rfl|hy
 ·exact lt x hx
 ·exact split.2.2 x hx y hy
theorem zK{α:Type}:∀ {l:List α} {i:Nat} (h:i < l.length),(l[i]::l.eraseIdx i).Perm l
 | a::l,0,_=>by simp
 | a::l,i+1,h=>by
  have:=zK (l:=l) (i:=i) (by simpa using h);simp only[List.getElem_cons_succ,List.eraseIdx_cons_succ];exact(List.Perm.swap _ _ _).trans (this.cons a)
theorem HF{α:Type}(next:Nat->Nat):∀(fuel k:Nat) (left:List α) (out:Array α),fuel=left.length->∃ acH:Array α,pickOrder.go next fuel k left out=acH/\acH.toList.Perm (out.toList++left)
 | 0,k,left,out,h=>by
  have:left=[]:=List.length_eq_zero_iff.mp h.symm;subst this;exact⟨out,by simp[pickOrder.go],by simp⟩
 | fuel+1,k,left,out,h=>by
  have hp:0 < left.length:=by omega
  have hi:next k % left.length < left.length:=Nat.mod_lt _ hp
  obtain⟨o,e,p⟩:=HF next fuel (k+1) (left.eraseIdx (next k % left.length)) (out.push left[next k % left.length]) (by rw[List.length_eraseIdx_of_lt hi];omega)
  refine⟨o,?_,p.trans ?_⟩
  ·rw[pickOrder.go,List.getElem?_eq_getElem hi];exact e
  ·rw[Array.toList_push,List.append_assoc];refine List.Perm.append_left _ ?_;exact zK hi
theorem Jp{α:Type}(next:Nat->Nat)(xs:Array α):(pickOrder next xs).toList.Perm xs.toList:=by
 obtain⟨o,e,p⟩:=HF next xs.size 0 xs.toList #[] (by simp)
 unfold pickOrder;rw[e];simpa using p
structure qM(w:World)(t:SetTable):Prop where
 rise:Rising t.place.toList
 led:w.params.followText "set-order"=true\/t.led=true
 dum:t.dummies = #[]
 msk:t.mask=7
 pln:t.plain=true
theorem Ec(j:Nat):SetTable.has #[] j=false:=by simp[SetTable.has]
theorem Gu{t:SetTable}{j:Nat}(h:t.slot j=.empty):¬ t.place[SetTable.below t.place j]?=some j:=fun e=>by
 unfold SetTable.slot at h;simp only[e,beq_self_eq_true,if_true] at h;cases h
theorem Bd{t:SetTable}(hd:t.dummies = #[])(j:Nat):t.slot j=.empty\/(∃ i,t.slot j=.live i/\j∈t.place.toList):=by
 unfold SetTable.slot;rw[hd,Ec];by_cases h:t.place[SetTable.below t.place j]?=some j
 ·refine .inr ⟨SetTable.below t.place j,by simp only[h,beq_self_eq_true,if_true],?_⟩;rw[<- Array.getElem?_toList] at h;exact List.mem_of_getElem? h
 ·refine .inl ?_;have:(t.place[SetTable.below t.place j]?==some j)=false:=by simpa using h
  simp[this]
theorem free4{l:List Nat}(h:l.length<=3):∃ j,j < 8/\j∉l:=by
 match l,h with
 | [],_=>exact⟨0,by decide,by simp⟩
 | [a],_=>by_cases h0:a=0;exact⟨1,by decide,by simp;omega⟩;exact⟨0,by decide,by simp;omega⟩
 | [a,b],_ =>
  by_cases h0:a=0\/b=0
  ·by_cases h1:a=1\/b=1
   ·exact⟨2,by decide,by simp;omega⟩
   ·exact⟨1,by decide,by simp;omega⟩
  ·exact⟨0,by decide,by simp;omega⟩
 | [a,b,c],_ =>
  by_cases h0:a=0\/b=0\/c=0
  ·by_cases h1:a=1\/b=1\/c=1
   ·by_cases h2:a=2\/b=2\/c=2
    ·exact⟨3,by decide,by simp;omega⟩
    ·exact⟨2,by decide,by simp;omega⟩
   ·exact⟨1,by decide,by simp;omega⟩
  ·exact⟨0,by decide,by simp;omega⟩
noncomputable def hop(i:Nat):Nat:=(i * 5+1) % 8
noncomputable def hops:Nat->Nat->Nat
 | 0,i=>i
 | m+1,i=>hops m (hop i)
theorem LD:∀ i,i < 8->∀ j,j < 8->∃ m,m < 8/\hops m i=j:=by decide
section
variable {t:SetTable} (hd:t.dummies = #[]) (hm:t.mask=7) {h:Int}
noncomputable abbrev prb(i pt:Nat):SetTable.Probe:=⟨i,0,i,pt,none⟩
include hd hm
theorem adv(i pt:Nat):t.advance (prb i pt)=prb ((i * 5+1+pt / 32) % 8) (pt / 32):=by
 have:(i * 5+1+pt / 32) % 8 < 8:=Nat.mod_lt _ (by decide);simp only[SetTable.advance,SetTable.leap,hm,SetTable.runEnd];simp
 try omega
theorem Ho(fuel i pt:Nat):(t.slot i=.empty/\SetTable.probe.go t (fun _=>h+1) h (fuel+1) (prb i pt)=some (.empty i none))\/SetTable.probe.go t (fun _=>h+1) h (fuel+1) (prb i pt)=SetTable.probe.go t (fun _=>h+1) h fuel (prb ((i * 5+1+pt / 32) % 8) (pt / 32)):=by
 rcases Bd hd i with e|⟨k,e,_⟩
 ·refine .inl ⟨e,?_⟩;unfold SetTable.probe.go;simp only[e]
 ·refine .inr ?_
  conv=>lhs;unfold SetTable.probe.go
  simp only[e];rw[if_neg (by simp;try omega),adv hd hm]
theorem Hq:∀(m fuel i:Nat),m < fuel->i < 8->t.slot (hops m i)=.empty->∃ j,t.slot j=.empty/\SetTable.probe.go t (fun _=>h+1) h fuel (prb i 0)=some (.empty j none)
 | 0,fuel+1,i,_,hi,he=>by
  refine⟨i,he,?_⟩;have e:t.slot i=.empty:=he;unfold SetTable.probe.go;simp only[e]
 | m+1,fuel+1,i,hf,hi,he=>by
  rcases Ho hd hm (h:=h) fuel i 0 with⟨e,g⟩|g
  ·exact⟨i,e,g⟩
  ·rw[g];exact Hq m fuel _ (by omega) (Nat.mod_lt _ (by decide)) he
theorem Lz(hp:t.place.size<=3):∀(d fuel i pt:Nat),pt < 32 ^ d->d+8<=fuel->i < 8->∃ j,t.slot j=.empty/\SetTable.probe.go t (fun _=>h+1) h fuel (prb i pt)=some (.empty j none)
 | 0,fuel,i,pt,h1,h2,hi=>by
  have:pt=0:=by simpa using h1
  subst this;obtain⟨j,hj,hn⟩:=free4 (l:=t.place.toList) (by simpa using hp);obtain⟨m,hm',e⟩:=LD i hi j hj;refine Hq hd hm m fuel i (by omega) hi ?_;rw[e];rcases Bd hd j with z|⟨_,_,z⟩
  ·exact z
  ·exact absurd z hn
 | d+1,0,i,pt,h1,h2,hi=>absurd h2 (by omega)
 | d+1,fuel+1,i,pt,h1,h2,hi=>by
  rcases Ho hd hm (h:=h) fuel i pt with⟨e,g⟩|g
  ·exact⟨i,e,g⟩
  ·rw[g];exact Lz hp d fuel _ _ (by rw[Nat.pow_succ] at h1;omega) (by omega) (Nat.mod_lt _ (by decide))
theorem IE(hp:t.place.size<=3):∃ j,t.slot j=.empty/\t.freeSlot h=some (j,false):=by
 have hb:SetTable.bits h < 32 ^ 13:=by
  unfold SetTable.bits;have h1:=Int.emod_lt_of_pos h (show(0:Int) < 2 ^ 64 by decide);have h2:=Int.emod_nonneg h (show(2 ^ 64:Int)≠0 by decide);have:(32:Nat) ^ 13=36893488147419103232:=by decide
  omega
 have hs:t.probeStart h=prb (SetTable.bits h % 8) (SetTable.bits h):=by
  unfold SetTable.probeStart SetTable.runEnd;rw[hm];have:SetTable.bits h % 8 < 8:=Nat.mod_lt _ (by decide);simp
  try omega
 obtain⟨j,e,g⟩:=Lz hd hm (h:=h) hp 13 (10 * SetTable.turns t.mask) (SetTable.bits h % 8) (SetTable.bits h) hb (by rw[hm];decide) (Nat.mod_lt _ (by decide));refine⟨j,e,?_⟩;unfold SetTable.freeSlot SetTable.probe;rw[hs,g];rfl
end
theorem OH{w:World}{t:SetTable}(T:qM w t)(es:Array (Int×Value))(h:Int)(x:Value)(hp:t.place.size<=3)(hf:t.place.size=es.size):qM w (layNew t es h x).2.1:=by
 obtain⟨slot,hs,e⟩:=IE T.dum T.msk (h:=h) hp;have Tp:qM w (t.put slot).1:=by
  refine⟨BE T.rise (Gu hs),T.led,?_,T.msk,T.pln⟩;show(if SetTable.has t.dummies slot=true then _ else t.dummies) = #[];rw[T.dum,Ec];rfl
 unfold layNew;rw[e];show qM w ((t.put slot).1.orStandIn _);have h1:=(SetTable.insertAt_perm es (t.put slot).2 (h,x)).length_eq;rw[Array.length_toList,Array.length_toList,Array.size_push] at h1;have h2:(t.put slot).1.place.size=t.place.size+1:=by
  have:=(SetTable.insertAt_perm t.place (SetTable.below t.place slot) slot).length_eq;rw[Array.length_toList,Array.length_toList,Array.size_push] at this;exact this
 have fit:(t.put slot).1.fits (SetTable.insertAt es (t.put slot).2 (h,x)).size=true:=by
  unfold SetTable.fits SetTable.fill;rw[Tp.dum,h2,h1,Tp.msk,hf];simp;omega
 unfold SetTable.orStandIn;rw[if_pos fit];exact Tp
noncomputable def Ek:Value->Int
 | .int i _=>i
 | _=>0
noncomputable def tZ(P:Program)(w:World)(a:Addr)(ns:List Int)(h:Heap):Prop:=∃(o:Obj) (es:Array (Int×Value)) (ep:Nat) (t:SetTable),h.get? a=some o/\o.ExactSet/\o.data=.set es ep t/\ElemsOf (intKind P w) es.toList/\es.size < scanBound/\t.fits es.size=true/\qM w t/\(∀ e∈es.toList,∃ i tk,e.2=Value.int i tk)/\(es.toList.map fun e=>Ek e.2).Perm ns
theorem tZ.keep{P:Program}{w:World}{a:Addr}{ns:List Int}{h h':Heap}(x:tZ P w a ns h)(k:∀ o,h.get? a=some o->h'.get? a=some o):tZ P w a ns h':=by
 obtain⟨o,es,ep,t,e,r⟩:=x;exact⟨o,es,ep,t,k o e,r⟩
section
variable {P:Program} {w:World} {A:Around} {E:q0A} {s:Shared}
theorem Tw{P:Program}{w:World}{i:Int}{v:Value}:(intKind P w).is i v=true↔∃ tk,v=.int i tk:=by
 constructor
 ·intro h;cases v with
  | int j tk=>exact⟨tk,by have:Value.isInt i (.int j tk)=true:=h;simp[Value.isInt] at this;rw[this]⟩
  | _=>cases h
 ·rintro⟨tk,rfl⟩;exact intKind_is _ _ _ _
theorem DJ{a:Addr}{o:Obj}{es:Array (Int×Value)}{ep:Nat}{t:SetTable}(ho:s.heap.get? a=some o)(hex:o.ExactSet)(hd:o.data=.set es ep t)
    {ZX:Array (Int×Value)} {t2:SetTable} {ns:List Int} (hel:ElemsOf (intKind P w) ZX.toList) (hb:ZX.size < scanBound) (hf:t2.fits ZX.size=true) (T:qM w t2) (hi:∀ e∈ZX.toList,∃ i tk,e.2=Value.int i tk) (hp:(ZX.toList.map fun e=>Ek e.2).Perm ns) (h4:ZX.size<=4)
    {aaH:Bool} {X:Sem (Option Bool)} {R:Option Bool->Shared->Prop} (h:∀ h',Heap.SameBut a s.heap h'->tZ P w a ns h'->R (some true) {s with heap:=h'}) :
    wpAny (model P w) A (do
        storeSet a ZX t2
        if (!aaH&&t2.tooFull)=true then X else pure (some true)) R E s:=by
  refine wpAny_bind (wpAny_storeSet_of ho hd ?_ (fits_of_scanBound hb));have full:t2.tooFull=false:=by
    have h1:t2.place.size=ZX.size:=by
      have:=hf;unfold SetTable.fits at this;simp only[Bool.and_eq_true,beq_iff_eq] at this;exact this.1
    unfold SetTable.tooFull SetTable.fill;rw[T.dum,h1];have:=T.msk;simp;omega
  rw[full,Bool.and_false];simp only[Bool.false_eq_true,if_false];have hg:(s.heap.update a (Obj.putSet ZX t2)).get? a=some {o with data:=.set ZX (ep+1) t2}:=by
    have:=Heap.get?_update_self (Obj.putSet ZX t2) ho (by rw[putSet_of ZX t2 hd];rfl);rw[putSet_of ZX t2 hd] at this;exact this
  exact wpAny_pure (h _ (Heap.SameBut.update s.heap a (Obj.putSet ZX t2)) ⟨_,ZX,ep+1,t2,hg,hex,rfl,hel,hb,hf,T,hi,hp⟩)
theorem E9{a:Addr}{ns:List Int}{i:Int}{tk:Tok}{Q:Bool->Shared->Prop}(hS:tZ P w a ns s.heap)(hn:ns.length<=3)
    (h:∀ h',Heap.SameBut a s.heap h'->tZ P w a (if i∈ns then ns else ns++[i]) h'->∀ b,Q b {s with heap:=h'}):wpAny (model P w) A (setAddHashed a (.int i tk) ((intKind P w).hash i)) Q E s:=by
  obtain⟨o,es,ep,t,ho,hex,hd,hel,hb,hf,T,hi,hp⟩:=hS;have aaT:(intKind P w).is i (.int i tk)=true:=intKind_is _ _ _ _;have hl:es.size=ns.length:=by have:=hp.length_eq;simpa using this
  have b1:scanBound=4096:=rfl;unfold setAddHashed setAddHashedIn;refine wpAny_holding (wpAny_bind (wpAny_setState_of ho hd hf ?_));dsimp only;rw[byScan_of (knd:=intKind P w) rfl hb hel];simp only[↓reduceIte];unfold setAddByScan;refine wpAny_bind ?_;refine wpAny_bind (wpAny_rule ?_);refine wpAny_bind (wpAny_setScan_of aaT ho hd hf hel ?_);cases hr:List.findIdx? (fun e=>(intKind P w).is i e.2) es.toList with
  | some j =>
    dsimp only;obtain⟨hj,hpj,_⟩:=List.findIdx?_eq_some_iff_getElem.mp hr;obtain⟨tk',et⟩:=Tw.mp hpj;have hm:i∈ns:=hp.mem_iff.mp (List.mem_map.mpr ⟨es.toList[j],List.getElem_mem hj,by rw[et];rfl⟩);rw[if_pos hm] at h;refine wpAny_pure (wpAny_pure ?_);exact h s.heap (Heap.SameBut.refl a s.heap) ⟨o,es,ep,t,ho,hex,hd,hel,hb,hf,T,hi,hp⟩ _
  | none =>
    dsimp only;have hm:i∉ns:=fun z=>by
      obtain⟨e,he,ek⟩:=List.mem_map.mp (hp.mem_iff.mpr z);obtain⟨k,tk',ev⟩:=hi e he;have h1:=List.findIdx?_eq_none_iff.mp hr e he;rw[ev] at ek h1;have:k=i:=ek;subst this;rw[intKind_is] at h1;cases h1
    rw[if_neg hm] at h;have Z3:=layNew_perm t es ((intKind P w).hash i) (.int i tk);have aaO:=layNew_fits t es ((intKind P w).hash i) (.int i tk);have hsz:t.place.size=es.size:=by
      have:=hf;unfold SetTable.fits at this;simp only[Bool.and_eq_true,beq_iff_eq] at this;exact this.1
    have T1:=OH T es ((intKind P w).hash i) (.int i tk) (by omega) hsz;generalize layNew t es ((intKind P w).hash i) (.int i tk)=Y at Z3 aaO T1 ⊢;obtain⟨ZX,t1,aaH,adJ⟩:=Y;dsimp only at Z3 aaO T1 ⊢;rw[Array.toList_push] at Z3;have ab5:ElemsOf (intKind P w) ZX.toList:=(hel.push aaT rfl).perm Z3;have sz:ZX.size=es.size+1:=by
      have:=Z3.length_eq;simpa using this
    have hi1:∀ e∈ZX.toList,∃ i tk,e.2=Value.int i tk:=fun e he=>by
      rcases List.mem_append.mp (Z3.mem_iff.mp he) with he|he
      · exact hi e he
      · rw[show e=_ by simpa using he];exact⟨i,tk,rfl⟩
    have hp1:(ZX.toList.map fun e=>Ek e.2).Perm (ns++[i]):=by
      refine(Z3.map _).trans ?_;rw[List.map_append];exact hp.append (.refl _)
    have hgw:∀(b:Bool) {s₁:Shared} {Q':Unit->Shared->Prop},Q' () s₁->wpAny (model P w) A (match b with|true=>rule "set.scan.the-table-gave-way" | false=>pure ()) Q' E s₁:=fun b s₁ Q' hq=>by
      cases b
      · exact wpAny_pure hq
      · exact wpAny_rule hq
    refine wpAny_bind (hgw _ ?_);split
    · refine wpAny_bind ?_;rw[hashByValue_scannable 8 rfl];refine wpAny_pure ?_;simp only[plainKind,↓reduceIte];exact DJ ho hex hd ab5 (by omega) aaO T1 hi1 hp1 (by omega) fun h' hs hS'=>wpAny_pure (h h' hs hS' _)
    · refine wpAny_bind (wpAny_pure ?_);simp only[↓reduceIte];exact DJ ho hex hd ab5 (by omega) aaO T1 hi1 hp1 (by omega) fun h' hs hS'=>wpAny_pure (h h' hs hS' _)
end
noncomputable def once(val:Nat->Int):Nat->List Int
 | 0=>[]
 | i+1=>if val i∈once val i then once val i else once val i++[val i]
theorem Ay(val:Nat->Int):∀ i,(once val i).length<=i
 | 0=>Nat.le_refl _
 | i+1=>by
  have:=Ay val i;rw[once];split
  ·omega
  ·rw[List.length_append];simp;omega
section
variable {P:Program} {w:World} {A:Around} {R:Result->Shared->Prop} {it:Addr} {fp wr:List Addr} {Gs:Array GenState->Array GenState->Prop} {n:Nat} {Pi:Nat->Value->Prop} {St:Nat->Shared->Prop}
theorem En(W:WalksS P w A.in1 it fp wr Gs n Pi St)(z:Addr)(hz:z∉fp)(val:Nat->Int)(abM:∀ i v,Pi i v->∃ t,v=.int (val i) t)(hn:n<=4) :
    ∀(k i:Nat) (s:Shared),n - i=k->i<=n->St i s->tZ P w z (once val i) s.heap ->
      (∀ s',Moved (z::wr) Gs s s'->tZ P w z (once val n) s'.heap->R (.ok (.ret .none)) s')->codeAny (model P w) A (.builtin "set.update.loop" ⟨[.ref z,.ref it],[]⟩) R s:=by
  have zw:z∉wr:=fun h=>hz (W.sub _ h);have up:∀ b∈wr,b∈z::wr:=fun b hb=>List.mem_cons_of_mem _ hb;intro k
  induction k with
  | zero =>
    intro i s hk hi st hS hR;obtain rfl:i=n:=by omega
    refine codeAny_builtin PyProof.Rows.F.entry_set_update_loop ?_;rw[Around.under_plainId PyProof.Rows.F.plain_set_update_loop _];show wpAny _ A.in1 (pyNext (.ref it) >>= _) _ _ s;refine wpAny_bind (W.done s _ _ st fun s' hm=>?_);show wpAny _ A.in1 (ret Value.none) _ _ s';exact wpAny_pure (hR s' (hm.mono up) (hS.keep fun o e=>hm.heap z _ zw e))
  | succ k ih =>
    intro i s hk hi st hS hR;have lt:i < n:=by omega
    refine codeAny_builtin PyProof.Rows.F.entry_set_update_loop ?_;rw[Around.under_plainId PyProof.Rows.F.plain_set_update_loop _];show wpAny _ A.in1 (pyNext (.ref it) >>= _) _ _ s;refine wpAny_bind (W.item i s _ _ lt st fun v s' hP st' hm=>?_);obtain⟨t,rfl⟩:=abM i v hP;have hS':tZ P w z (once val i) s'.heap:=hS.keep fun o e=>hm.heap z _ zw e;show wpAny _ A.in1 (holding [Value.int (val i) t] (setAdd z (.int (val i) t)) >>= _) _ _ s';refine wpAny_bind (wpAny_holding ?_);unfold setAdd;refine wpAny_holding ?_;refine wpAny_bind ((intKind P w).pyHash (k:=val i) (intKind_is _ _ _ _) ?_);have room:(once val i).length<=3:=by have:=Ay val i;omega
    refine E9 (s:={s' with toks:=s'.toks+1}) hS' room fun h' sb hS2 b=>?_;refine wpAny_pure ⟨plainId_quiet PyProof.Rows.F.plain_set_update_loop _,ih (i+1) _ (by omega) lt (W.frame _ s' _ _ st' (Nat.le_succ _) fun c hc o e=>?_) hS2 fun s2 hm2 hS3=>?_⟩
    · rw[sb.2 c (fun h:c=z=>hz (by rw[<- h];exact hc))];exact e
    · refine hR s2 (Moved.trans W.gtrans ((hm.mono up).then_heap (Nat.le_succ _) fun c o hc e=>?_) hm2) hS3;rw[sb.2 c (fun h:c=z=>hc (by rw[h];exact List.mem_cons_self))];exact e
end
section
variable {P:Program} {w:World} {A:Around} {E:q0A} {s:Shared}
noncomputable abbrev qU(led:Bool):Obj:={cls:=.type "set",dict:=none,data:=.set #[] 0 (.fresh 0 0 led)}
theorem FX(a:Value){Q₁:q0A}(h:∀ led:Bool,(w.params.followText "set-order"=true\/led=true)->Q₁ (.ref s.heap.objs.size) {s with heap:=s.heap.push (qU led)}) :
    codeAny (model P w) A (.call (.builtin "set.__new__") ⟨[.type "set",a],[]⟩) (wants Q₁ E) s:=by
  refine codeAny_of_tree ?_;show wpAny _ A.in1 (do checkBuiltinCall "set.__new__" ⟨[.type "set",a],[]⟩;again (.builtin "set.__new__" ⟨[.type "set",a],[]⟩)) _ _ s;refine wpAny_bind (wpAny_of_eq (PySem.F.newCall_set_1 a) (wpAny_pure ⟨plainId_quiet PySem.F.plain_set_new _,codeAny_builtin PySem.F.entry_set_new ?_⟩));rw[Around.under_plainId PySem.F.plain_set_new _];unfold Builtin.«set.__new__» Builtin.Frozenset.newClass;have aa3:=sub_set_self;obtain⟨hp,g,d,tk,os⟩:=s;dsimp only;wp_walk;refine wpAny_askSetting (wpAny_pure ?_);dsimp only;simp only[newObj];refine wpAny_bind (wpAny_alloc (wpAny_pure ?_));refine wpAny_pure (h _ ?_);cases e:w.params.followText "set-order" with
  | true=>exact .inl rfl
  | false =>
    refine .inr ?_;show(!w.params.followText "set-order")=true;rw[e];rfl
theorem Iu{led:Bool}(h:w.params.followText "set-order"=true\/led=true):qM w (.fresh 0 0 led):=⟨.nil,h,rfl,rfl,rfl⟩
set_option maxHeartbeats 8000000 in
theorem DV{l:Addr}{items:Array Value}{ns:List Int}{Q:q0A}(hh:A.handled=none)(hl:s.heap.IsList l items)(hi:IntsAre items.toList ns)(h4:items.size<=4)
    (h:∀(h':Heap) (tk:Nat),tZ P w s.heap.objs.size (once (fun i=>ns.getD i 0) items.size) h'->(∀ b o,b < s.heap.objs.size->s.heap.get? b=some o->h'.get? b=some o)->Q (.ref s.heap.objs.size) {s with heap:=h',toks:=tk}) :
    wpAny (model P w) A (call (.type "set") [.ref l]) Q E s:=by
  obtain⟨c,tl,adL⟩:=PySem.F.called_set.mro;have adF:=PySem.F.called_set.made;have aa3:=PySem.F.called_set.sub;refine wpAny_call (codeAny_of_tree ?_);show wpAny _ _ (callAny (.type "set") _) _ _ _;refine wpAny_pure ⟨Code.quiet_builtin _ (by decide +kernel),codeAny_builtin PySem.F.entry_type_call ?_⟩;rw[Around.under_plain (weight_type_call_type "set" [.ref l] []) rfl];have h1:=PySem.F.called_set.notType;have h2:=PySem.F.called_set.canCreate;have hct:=PySem.F.typeCall_set_1 (.ref l)
  repeat (any_goals (first|assumption|wp_step))
  refine codeAny_mono (FX (.ref l) (E:=E) (Q₁:=fun obj s₁=>∃ led:Bool,(w.params.followText "set-order"=true\/led=true)/\obj=.ref s.heap.objs.size/\s₁={s with heap:=s.heap.push (qU led)}) fun led abJ=>⟨led,abJ,rfl,rfl⟩) fun r s₁ hr=>?_;cases r with
  | error e=>exact hr
  | ok fl =>
    cases fl with
    | ret obj =>
      obtain⟨led,abJ,rfl,rfl⟩:=hr;have hS:(s.heap.push (qU led)).get? s.heap.objs.size=some (qU led):=Heap.get?_push_size _ rfl;have hT:Shared.TypeIs {s with heap:=s.heap.push (qU led)} (.ref s.heap.objs.size) "set":=⟨_,hS,rfl⟩;have hli:=PySem.F.called_set.init.lookup;have hbi:=PySem.F.called_set.init.bind (.ref s.heap.objs.size)
      repeat (any_goals (first|assumption|wp_step))
      refine codeAny_mono (codeAny_call_builtin (R:=wants (fun r s₂=>r=.none/\∃ h' tk,s₂={s with heap:=h',toks:=tk}/\tZ P w s.heap.objs.size (once (fun i=>ns.getD i 0) items.size) h' /\
          (∀ b o,b < s.heap.objs.size->s.heap.get? b=some o->h'.get? b=some o)) E) PySem.F.called_set.init.plain PySem.F.entry_set_init (check_set_init_1 hT ?_)) fun r₂ s₂ hr₂=>?_
      · obtain⟨ol,hol,hcl,nl,hdl⟩:=hl;obtain⟨adQ,acG,adG,abQ⟩:=ol;simp only at hcl hdl;subst hcl hdl;have ac0:(s.heap.push (qU led)).get? l=some ⟨.type "list",acG,.seq items nl,abQ⟩:=Heap.get?_push_of_some _ hol;have adN:=PySem.F.sub_list_set;have adM:=PySem.F.sub_list_frozenset;have hne:(Value.type "list"==Value.type "dict")=false:=by decide
        have hl1:(s.heap.push (qU led)).IsList l items:=⟨_,ac0,rfl,nl,rfl⟩;unfold Builtin.«set.__init__» noKeywords Builtin.Frozenset.updateFrom;generalize hPI:pyIter=PI;wp_walk;subst hPI;refine wpAny_pyIter_list hl1 ?_;refine wpAny_bind (wpAny_runValue ?_);have lS:l < s.heap.objs.size:=Heap.lt_size hol;have hh3:A.in1.in1.in1.handled=none:=by simp[hh]
        have sz:(s.heap.push (qU led)).objs.size=s.heap.objs.size+1:=Heap.size_push _ _;have acX:l≠(s.heap.push (qU led)).objs.size:=Nat.ne_of_lt (by rw[sz];exact Nat.lt_succ_of_lt lS);have hSf:s.heap.objs.size∉[(s.heap.push (qU led)).objs.size,l]:=by
          simp only[List.mem_cons,List.not_mem_nil,or_false,not_or];exact⟨Nat.ne_of_lt (by rw[sz];exact Nat.lt_succ_self _),Nat.ne_of_gt lS⟩
        have abM:∀(i:Nat) (v:Value),items[i]?=some v->∃ t,v=.int ((fun i=>ns.getD i 0) i) t:=fun i v hv=>IntsAre.int_at hi i v (by rw[Array.getElem?_toList];exact hv);refine En ((Walks.list hh3 _ l acX items).toS) s.heap.objs.size hSf (fun i=>ns.getD i 0) abM h4 (items.size - 0) 0 _ (by omega) (Nat.zero_le _) ⟨⟨_,Heap.get?_push_size _ rfl,rfl,rfl⟩,(hl1.push _)⟩ ?hS0 ?hR
        case hS0=>exact⟨_,#[],0,_,Heap.get?_push_of_some _ hS,⟨rfl,rfl,rfl⟩,rfl,fun e he=>(by simp at he),by decide,rfl,Iu abJ,by simp,.nil⟩
        case hR =>
          intro s' hm hS';obtain⟨h',g',d',tk',os'⟩:=s';have eg:g'=s.gens:=hm.gens;have ed:d'=s.drawn:=hm.drawn;have eo:os'=s.os:=hm.os;subst eg ed eo;show wpAny _ _ _ _ _ _;refine wpAny_pure ?_;show wpAny _ _ (ret Value.none) _ _ _;refine wpAny_pure ⟨rfl,h',tk',rfl,hS',fun b o hb e=>?_⟩;exact hm.heap b o (by simp only[List.mem_cons,List.not_mem_nil,or_false,not_or];exact⟨Nat.ne_of_lt hb,Nat.ne_of_lt (by rw[sz];exact Nat.lt_succ_of_lt hb)⟩) (Heap.get?_push_of_some _ (Heap.get?_push_of_some _ e))
      · cases r₂ with
        | error e=>exact hr₂
        | ok fl₂ =>
          cases fl₂ with
          | ret r =>
            obtain⟨rfl,h',tk,rfl,hS',hk'⟩:=hr₂
            repeat (any_goals (first|assumption|wp_step))
            exact h _ _ hS' hk'
          | _=>exact hr₂.elim
    | _=>exact hr.elim
end
theorem EG:Manifest.owners.lookup (String.ofList ['r','o','t','a','r','e','t','i','_','t','e','s'].reverse)=some Manifest.sig_set_iterator:=by kernel_rfl
theorem fK:Slot "set_iterator" "__next__" "set_iterator.__next__" :=
 .of (owner:="set_iterator") (n:="__next__") (by rw[typeLookup_type,builtinLookup_eq_fast];kernel_rfl) (by decide +kernel) (by decide +kernel) (by decide +kernel)
  (by first|exact .inl (by decide +kernel)|exact .inr (by decide +kernel)) (by rw[isSubtype_type];kernel_rfl)
theorem qQ:entryFor table "set_iterator.__next__"=some Builtin.«set_iterator.__next__»:=entryFor_of_tree (by kernel_rfl)
theorem sL(a:Value):argsOk "set_iterator.__next__" ⟨[a],[]⟩:=by
 unfold argsOk;rw[signature?_of (id:="set_iterator.__next__") (n:=['_','_','t','x','e','n','_','_']) (o:=['r','o','t','a','r','e','t','i','_','t','e','s']) (by kernel_rfl) EG];kernel_rfl
theorem tV:Slot "set_iterator" "__iter__" "set_iterator.__iter__" :=
 .of (owner:="set_iterator") (n:="__iter__") (by rw[typeLookup_type,builtinLookup_eq_fast];kernel_rfl) (by decide +kernel) (by decide +kernel) (by decide +kernel)
  (by first|exact .inl (by decide +kernel)|exact .inr (by decide +kernel)) (by rw[isSubtype_type];kernel_rfl)
theorem BB:entryFor table "set_iterator.__iter__"=some Builtin.«dict_keyiterator.__iter__» :=
 entryFor_alias (id':="dict_keyiterator.__iter__") (by kernel_rfl) rfl (by decide +kernel) (by kernel_rfl)
theorem CD(a:Value):argsOk "set_iterator.__iter__" ⟨[a],[]⟩:=by
 unfold argsOk;rw[signature?_of (id:="set_iterator.__iter__") (n:=['_','_','r','e','t','i','_','_']) (o:=['r','o','t','a','r','e','t','i','_','t','e','s']) (by kernel_rfl) EG];kernel_rfl
theorem zJ:entryFor table "set.__iter__"=some Builtin.«frozenset.__iter__» :=
 entryFor_alias (id':="frozenset.__iter__") (by kernel_rfl) rfl (by decide +kernel) (by kernel_rfl)
section
variable {P:Program} {w:World} {A:Around} {E:q0A} {s:Shared} {a it:Addr} {es:Array (Int×Value)} {ep i:Nat} {t:SetTable}
noncomputable def lR(w:World)(h:Heap)(a:Addr)(es:Array (Int×Value))(ep:Nat)(t:SetTable):Prop:=∃ o,h.get? a=some o/\o.ExactSet/\o.data=.set es ep t/\t.fits es.size=true/\qM w t
theorem lR.to{h h':Heap}(x:lR w h a es ep t)(k:∀ o,h.get? a=some o->h'.get? a=some o):lR w h' a es ep t:=let ⟨o,e,r⟩:=x;⟨o,k _ e,r⟩
theorem lR.lt{h:Heap}(x:lR w h a es ep t):a < h.objs.size:=let ⟨_,e,_⟩:=x;Heap.lt_size e
theorem lR.ty(x:lR w s.heap a es ep t):s.TypeIs (.ref a) "set":=let ⟨o,e,c,_⟩:=x;⟨o,e,c.1⟩
noncomputable def nI(w:World)(a:Addr)(es:Array (Int×Value))(ep:Nat):Array (Int×Value):=if w.params.followText "set-order"=true then pickOrder (w.params.setOrder a ep) es else es
theorem AB:(nI w a es ep).toList.Perm es.toList:=by
 unfold nI;split
 ·exact Jp _ _
 ·exact .refl _
theorem pD:(nI w a es ep).size=es.size:=by have:=(AB (w:=w) (a:=a) (es:=es) (ep:=ep)).length_eq;simpa using this
noncomputable def Ct(w:World)(t:SetTable)(i sl:Nat):Prop:=w.params.followText "set-order"=true\/SetTable.below t.place sl=i
noncomputable def Bo(w:World)(h:Heap)(it a:Addr)(i n ep:Nat)(t:SetTable):Prop:=∃ o sl,h.get? it=some o/\o.cls=.type "set_iterator"/\o.data=.fields #[.int (sl:Nat) 0,.int (i:Nat) 0,.ref a,.int (n:Nat) 0,.int (ep:Nat) 0]/\Ct w t i sl
theorem Bo.to{h h':Heap}{n:Nat}(x:Bo w h it a i n ep t)(k:∀ o,h.get? it=some o->h'.get? it=some o):Bo w h' it a i n ep t:=let ⟨o,sl,e,r⟩:=x;⟨o,sl,k _ e,r⟩
theorem Bo.ty{n:Nat}(x:Bo w s.heap it a i n ep t):s.TypeIs (.ref it) "set_iterator":=let ⟨o,_,e,c,_⟩:=x;⟨o,e,c⟩
theorem Jy(T:qM w t):Ct w t 0 0:=.inr (by
 obtain⟨h1,h2,h3⟩:=rA t.place 0 T.rise;by_cases z:SetTable.below t.place 0=0
 ·exact z
 ·have:=h1 0 (by omega) (by omega);omega)
theorem Jx(T:qM w t){j:Nat}(e:t.place[i]?=some j):SetTable.below t.place (j+1)=i+1:=by
 obtain⟨hi,ej⟩:=Array.getElem?_eq_some_iff.mp e;obtain⟨h1,h2,h3⟩:=rA t.place (j+1) T.rise;by_cases c:SetTable.below t.place (j+1)<=i
 ·have:=h2 i hi c;omega
 ·by_cases d:i+1 < SetTable.below t.place (j+1)
  ·have h4:i+1 < t.place.size:=by omega
   have h5:=h1 (i+1) h4 d;have h6:=List.pairwise_iff_getElem.mp T.rise i (i+1) (by simpa using hi) (by simpa using h4) (by omega);simp at h6;omega
  ·omega
theorem Mq{Q:q0A}(x:lR w s.heap a es ep t)
    (q:Q (.ref s.heap.objs.size) {s with heap:=s.heap.push {cls:=.type "set_iterator",data:=.fields #[.int 0 0,.int 0 0,.ref a,.int es.size 0,.int ep 0]}}):wpAny (model P w) A (pyIter (.ref a)) Q E s:=by
  obtain⟨o,e1,e2,e3,e4,T⟩:=id x;refine wpAny_pyIter_slot x.ty F.slot_set_iter (wpAny_call_entry F.slot_set_iter x.ty zJ ?_ (F.args_set_iter_1 _));unfold Builtin.«frozenset.__iter__»;refine wpAny_bind ?_;show wpAny _ _ ((pure (Value.ref a,([]:List Value)):Sem _) >>= fun z=>Builtin.Frozenset.addrOf z.1) _ _ s;refine wpAny_bind (wpAny_pure (wpAny_pure ?_));refine wpAny_bind (wpAny_bind (wpAny_bind (wpAny_setState_of e1 e3 e4 (wpAny_pure (wpAny_pure ?_)))));refine wpAny_bind (wpAny_bind (wpAny_setState_of e1 e3 e4 ?_));refine wpAny_bind (wpAny_bind (wpAny_askSetting (wpAny_pure ?_)));refine wpAny_pure ?_;show wpAny _ _ (if (!w.params.followText "set-order"&&(!t.plain&&decide (es.size > 1)))=true then _ else _) _ _ s;rw[T.pln];simp only[Bool.not_true,Bool.false_and,Bool.and_false,Bool.false_eq_true,if_false];refine wpAny_bind (wpAny_pure (wpAny_bind (wpAny_bind (wpAny_setState_of e1 e3 e4 (wpAny_pure ?_)))));refine wpAny_bind (wpAny_newObj_type (wpAny_pure ⟨_,rfl,"set_iterator",_,⟨_,Heap.get?_push_size _ rfl,rfl⟩,fK.lookup,by simpa[rawInt] using q⟩))
theorem Bm{sl:Nat}{Q:Option (Value×Nat)->Shared->Prop}(x:lR w s.heap a es ep t)(hs:Ct w t i sl)
    (q1:∀ e ZM,(nI w a es ep)[i]?=some e->Ct w t (i+1) ZM->Q (some (e.2,ZM)) s) (q0:(nI w a es ep)[i]?=none->Q none s):wpAny (model P w) A (setNext a sl i ep) Q E s:=by
  obtain⟨o,e1,e2,e3,e4,T⟩:=id x;unfold setNext;refine wpAny_bind (wpAny_setState_of e1 e3 e4 ?_);dsimp only;refine wpAny_bind (wpAny_bind (wpAny_askSetting (wpAny_pure ?_)));show wpAny _ _ (if w.params.followText "set-order"=true then _ else _) _ _ s;by_cases c:w.params.followText "set-order"=true
  · rw[if_pos c,if_neg (by simp)];unfold setWalk;refine wpAny_bind (wpAny_bind (wpAny_setState_of e1 e3 e4 ?_));dsimp only;refine wpAny_bind (wpAny_bind (wpAny_askSetting (wpAny_pure ?_)));show wpAny _ _ (if w.params.followText "set-order"=true then _ else _) _ _ s;rw[if_pos c];refine wpAny_bind (wpAny_askSetting (wpAny_pure (wpAny_pure ?_)));show Q (Option.map _ (pickOrder (w.params.setOrder a ep) es)[i]?) s;have eo:nI w a es ep=pickOrder (w.params.setOrder a ep) es:=if_pos c;rw[eo] at q1 q0;cases h:(pickOrder (w.params.setOrder a ep) es)[i]? with
    | none=>exact q0 h
    | some e=>exact q1 e sl h (.inl c)
  · rw[if_neg c];have eo:nI w a es ep=es:=if_neg c;rw[eo] at q1 q0;have hb:SetTable.below t.place sl=i:=hs.resolve_left c;have hl:t.led=true:=T.led.resolve_left c;show wpAny _ _ (if (!t.plain&&decide (es.size > 1))=true then _ else _) _ _ s;rw[T.pln];simp only[Bool.not_true,Bool.false_and,Bool.false_eq_true,if_false];show wpAny _ _ ((if (!t.led&&!es.isEmpty)=true then unsupported "set:maker-not-led" else pure ()) >>= fun _=>_) _ _ s;rw[hl];simp only[Bool.not_true,Bool.false_and,Bool.false_eq_true,if_false];refine wpAny_bind (wpAny_pure (wpAny_pure ?_));rw[hb];have hz:t.place.size=es.size:=by
      have:=e4;unfold SetTable.fits at this;simp only[Bool.and_eq_true,beq_iff_eq] at this;exact this.1
    by_cases d:i < es.size
    · have h1:es[i]?=some es[i]:=Array.getElem?_eq_getElem d;have h2:t.place[i]?=some (t.place[i]'(by omega)):=Array.getElem?_eq_getElem (by omega);rw[h1,h2];exact q1 _ _ h1 (.inr (Jx T h2))
    · have h1:es[i]?=none:=Array.getElem?_eq_none (by omega);rw[h1];exact q0 h1
theorem Ms{Q:Option Value->Shared->Prop}(ki:Bo w s.heap it a i es.size ep t)(x:lR w s.heap a es ep t){e:Int×Value}(he:(nI w a es ep)[i]?=some e)
    (q:∀ h',Bo w h' it a (i+1) es.size ep t->Heap.SameBut it s.heap h'->Q (some e.2) {s with heap:=h'}):wpAny (model P w) A (pyNext (.ref it)) Q E s:=by
  obtain⟨oi,sl,i1,i2,i3,i4⟩:=id ki;obtain⟨o,e1,e2,e3,e4,T⟩:=id x;have lt:i < es.size:=by have:=(Array.getElem?_eq_some_iff.mp he).1;rw[pD] at this;exact this
  unfold pyNext;refine wpAny_bind (wpAny_attempt (wpAny_callSpecial?_slot (name:=Str.ofString "__next__") ki.ty fK
    (wpAny_call_entry fK ki.ty qQ ?_ (sL _))))
  unfold Builtin.«set_iterator.__next__»;refine wpAny_bind (wpAny_pure (wpAny_bind (wpAny_fieldsOf i1 i3 ?_)));show wpAny _ _ (setEntries a >>= fun _=>_) _ _ s;refine wpAny_bind (wpAny_bind (wpAny_setState_of e1 e3 e4 (wpAny_pure ?_)));rw[if_neg (by simp)];show wpAny _ _ (setNext a (Int.toNat (sl:Nat)) (Int.toNat (i:Nat)) (Int.toNat (ep:Nat)) >>= fun z=>_) _ _ s;simp only[Int.toNat_natCast];refine wpAny_bind ?_;refine Bm x i4 (fun e' ZM he' hs'=>?_) fun z=>by rw[z] at he;cases he
  rw[he] at he';cases he';show wpAny _ _ (setField (.ref it) 0 (rawInt (ZM:Nat)) >>= fun _=>_) _ _ s;refine wpAny_bind (wpAny_setField i1 i3 (by simp) ?_);have j1:(s.heap.update it (Obj.mapFields (·.setIfInBounds 0 (rawInt (ZM:Nat))))).get? it=some (Obj.mapFields (·.setIfInBounds 0 (rawInt (ZM:Nat))) oi):=Heap.get?_update_self _ i1 (Obj.isFreed_of_fields (Obj.data_mapFields i3 _));have j3:(Obj.mapFields (·.setIfInBounds 0 (rawInt (ZM:Nat))) oi).data=.fields #[.int (ZM:Nat) 0,.int (i:Nat) 0,.ref a,.int (es.size:Nat) 0,.int (ep:Nat) 0]:=by rw[Obj.data_mapFields i3];simp[rawInt]
  show wpAny _ _ (setField (.ref it) 1 (rawInt ((i:Int)+1)) >>= fun _=>_) _ _ _;refine wpAny_bind (wpAny_setField j1 j3 (by simp) ?_);refine wpAny_pure ⟨_,rfl,wpAny_pure (q _ ⟨_,ZM,Heap.get?_update_self _ j1 (Obj.isFreed_of_fields (Obj.data_mapFields j3 _)),((Obj.cls_mapFields ..).trans (Obj.cls_mapFields ..)).trans i2,by rw[Obj.data_mapFields j3];simp[rawInt],hs'⟩ ((Heap.SameBut.update ..).trans (Heap.SameBut.update ..)))⟩
theorem Pe{Q:Option Value->Shared->Prop}(hh:A.handled=none)(ki:Bo w s.heap it a es.size es.size ep t)(x:lR w s.heap a es ep t)
    (q:∀ h',Heap.ExtBut it s.heap h'->Q none {s with heap:=h'}):wpAny (model P w) A (pyNext (.ref it)) Q E s:=by
  obtain⟨oi,sl,i1,i2,i3,i4⟩:=id ki;obtain⟨o,e1,e2,e3,e4,T⟩:=id x;unfold pyNext;refine wpAny_bind (wpAny_attempt (wpAny_callSpecial?_slot (name:=Str.ofString "__next__") ki.ty fK
    (wpAny_call_entry fK ki.ty qQ ?_ (sL _))))
  unfold Builtin.«set_iterator.__next__»;refine wpAny_bind (wpAny_pure (wpAny_bind (wpAny_fieldsOf i1 i3 ?_)));show wpAny _ _ (setEntries a >>= fun _=>_) _ _ s;refine wpAny_bind (wpAny_bind (wpAny_setState_of e1 e3 e4 (wpAny_pure ?_)));rw[if_neg (by simp)];show wpAny _ _ (setNext a (Int.toNat (sl:Nat)) (Int.toNat (es.size:Nat)) (Int.toNat (ep:Nat)) >>= fun z=>_) _ _ s;simp only[Int.toNat_natCast];refine wpAny_bind ?_;refine Bm x i4 (fun e' ZM he' hs'=>by
    have:=(Array.getElem?_eq_some_iff.mp he').1;rw[pD] at this;omega) fun _=>?_
  show wpAny _ _ (setField (.ref it) 2 .none >>= fun _=>_) _ _ s;refine wpAny_bind (wpAny_setField i1 i3 (by simp) ?_);show wpAny _ _ (newExc (.type "StopIteration") [] >>= fun _=>_) _ _ _;refine wpAny_bind ?_;simp only[newExc,newTuple];refine wpAny_bind (wpAny_newObj_type ?_ (by size_fits));refine wpAny_bind (m:=firstArgMember _ _) (wpAny_of_eq (a:=Value.none) (by first|rfl|(simp only[firstArgMember];rfl)) (wpAny_newObj_type ?_ (by size_fits)))
  simp only[raiseNew];refine wpAny_bind (wpAny_handled ?_);rw[show A.in1.handled=none from hh];refine wpAny_bind (wpAny_pure (wpAny_throw ?_));refine wpAny_bind (wpAny_isInstance (T:="StopIteration") (b:=true) ⟨_,Heap.get?_push_size _ rfl,rfl⟩ (show _ from isSubtype_stop) ?_);exact wpAny_pure (q _ (((Heap.SameBut.update ..).extBut.push _).push _))
theorem Mt{n:Nat}{Q:q0A}(ki:Bo w s.heap it a i n ep t)(h:Q (.ref it) s):wpAny (model P w) A (pyIter (.ref it)) Q E s:=by
 refine wpAny_pyIter_slot ki.ty tV (wpAny_call_entry tV ki.ty BB ?_ (CD _));show wpAny _ _ (ret (.ref it)) _ _ s;exact wpAny_pure ⟨_,rfl,"set_iterator",_,ki.ty,fK.lookup,h⟩
theorem JJ(hh:A.handled=none)(it a:Addr)(ne:a≠it)(es:Array (Int×Value))(ep:Nat)(t:SetTable) :
    Walks P w A it [it,a] [it] es.size (fun i v=>∃ e,(nI w a es ep)[i]?=some e/\v=e.2) (fun i h=>Bo w h it a i es.size ep t/\lR w h a es ep t) where
  sub:=fun b hb=>by simp at hb;simp[hb]
  frame:=fun _ _ _ st hk=>⟨st.1.to fun o e=>hk it (by simp) o e,st.2.to fun o e=>hk a (by simp) o e⟩
  item:=fun i s Q E hi st hQ=>Ms st.1 st.2 (Array.getElem?_eq_getElem (by rw[pD];exact hi)) fun h' k2 sb=>hQ _ h' s.toks ⟨_,Array.getElem?_eq_getElem (by rw[pD];exact hi),rfl⟩ ⟨k2,st.2.to fun o e=>sb.extBut a o ne e⟩ fun b o hb e=>sb.extBut b o (fun h=>hb (by simp[h])) e
  done:=fun s Q E st hQ=>Pe hh st.1 st.2 fun h' he=>hQ h' s.toks fun b o hb e=>he b o (fun h=>hb (by simp[h])) e
  self:=fun _ _ _ _ st hQ=>Mt st.1 hQ
end
section
variable {prog:Program} {w:World} {A:Around} {E:q0A} {s:Shared} {r a:Addr} {es:Array (Int×Value)} {ep:Nat} {t:SetTable}
theorem LC{Q:Bool->Shared->Prop}(hT:s.TypeIs (.ref r) "set")(h:Q false s):wpAny (model prog w) A (Builtin.List.listLengthHint (.ref r)) Q E s:=by
 unfold Builtin.List.listLengthHint;refine wpAny_bind (wpAny_specialOf hT PySem.F.slot_set_len.lookup ?_);generalize hid:("set.__len__":String)=id0
 wp_delta
 rw[show splitId id0=some ("set","__len__") from by subst hid;decide +kernel];subst hid;refine wpAny_bind (wpAny_isInstance (T:="set") (b:=true) hT (by rw[isSubtype_type];kernel_rfl) ?_);refine wpAny_ite_split (fun hab=>absurd hab (by decide)) (fun _=>?_);refine wpAny_ite_split (fun _=>?_) (fun hab=>absurd (by decide +kernel) hab);refine wpAny_bind (wpAny_typeOf hT ?_);exact wpAny_pure h
open PySem.W in
theorem Py:KdlSrc prog w "set" a a es.size (fun i v=>∃ e,(nI w a es ep)[i]?=some e/\v=e.2) (fun h=>lR w h a es ep t) where
 type:=fun _ hm=>hm.ty
 there:=fun _ hm=>⟨hm.lt,hm.lt⟩
 keep:=fun _ _ hm hk=>hm.to fun o e=>hk a (.inl rfl) o e
 notList:=by decide
 notTuple:=by decide
 hint:=fun _ _ _ _ hm hq=>LC hm.ty hq
 iter:=fun _ _ hh hm=>⟨_,_,(fun _ _ hq=>Mq hm hq),JJ hh _ a (Nat.ne_of_lt hm.lt) es ep t,⟨⟨_,0,Heap.get?_push_size _ rfl,rfl,rfl,Jy (let ⟨_,_,_,_,_,T⟩:=hm;T)⟩,hm.to fun o e=>Heap.get?_push_of_some _ e⟩⟩
end
theorem JU:bootBuiltins "set"=some (.type "set"):=by decide +kernel
theorem look1{k z:Str}{a c:Addr}{r:List (Str×Addr)}(e:List.lookup k r=some a)(h:List.lookup z [(k,a)]=some c):List.lookup z r=some c:=by
 simp only[List.lookup] at h;split at h
 ·next y=>cases h;rw[eq_of_beq y];exact e
 ·cases h
noncomputable def E8(P:Program)(w:World)(a:Addr)(ns:List Int):HO:=.ext (tZ P w a ns)
theorem Pd{X:Cx}{H:Hp}{h:Heap}{a:Addr}{ns:List Int}(x:tZ X.prog X.w a ns h):dH X.prog X.w H h a (E8 X.prog X.w a ns) :=
 ⟨x,let ⟨o,_,_,_,e,_⟩:=x;⟨o,e⟩,fun _ _ y k=>y.keep k⟩
noncomputable def nH(ns:List Int):List Int:=once (fun i=>ns.getD i 0) ns.length
noncomputable def J9(P:Program)(w:World):List V->Hp->VK->Prop:=fun vs H Q=>on1 vs fun x=>aR x fun p=>∃ ns:List Int,H p=some (.lst (ns.map V.int))/\ns.length<=4/\∀ l,H l=none->Q (.ref l) (Zs H l (E8 P w l (nH ns)))
theorem BZ{X:Cx}(hc:X.calm=true):dQ X (.type "set") (J9 X.prog X.w):=fun Zr s σ H xs us Q I r h=>by
 obtain⟨x,rfl,h1⟩:=g9 h;obtain⟨p,rfl,ns,e,h4,q⟩:=aT h1;obtain⟨u,rfl,ru⟩:=vals1 r;cases ru;obtain⟨Zv,r',pl,hz⟩:=I.list (dC.of e);have hi:IntsAre Zv ns:=FI r';have hlen:=r'.length;have lm:Zv.toArray.size=ns.length:=by simpa using hlen.symm
 refine DV (items:=Zv.toArray) (I.ok.hd hc) pl.isList (by simpa using hi) (by omega) fun h' tk hS kp=>?_;rw[lm] at hS;exact⟨.ref s.heap.objs.size,_,I.laid (t':=tk) (fun b o e=>kp b o (Heap.lt_size e) e) (Nat.le_refl _) (Pd hS),rfl,q _ (I.Zw.fresh (Nat.le_refl _))⟩
noncomputable def J7(P:Program)(w:World):List V->Hp->VK->Prop:=fun vs H Q=>on1 vs fun x=>aR x fun p=>∃ ns:List Int,H p=some (E8 P w p ns)/\Q (.int ns.length) H
theorem Ff{X:Cx}:dQ X (.builtin "len") (J7 X.prog X.w):=fun Zr s σ H xs us Q I r h=>by
 obtain⟨x,rfl,h1⟩:=g9 h;obtain⟨p,rfl,ns,e,q⟩:=aT h1;obtain⟨u,rfl,ru⟩:=vals1 r;cases ru;obtain⟨⟨o,es,ep,t,ho,hex,hd,hel,hb,hf,T,hi,hp⟩,_⟩:=I.Zw p _ e;have hl:es.size=ns.length:=by have:=hp.length_eq;simpa using this
 have b1:scanBound=4096:=rfl;refine call_len_set ho hex hd hf (by omega) ?_;exact⟨.int ns.length,H,I.tok _,⟨_,by rw[hl]⟩,q⟩
noncomputable def Ka(P:Program)(w:World):List V->Hp->VK->Prop:=fun vs H Q=>on1 vs fun x=>aR x fun p=>∃ ns:List Int,H p=some (E8 P w p ns)/\ns.length < 64/\∀(l:Addr) (ZG:List Int),H l=none->ZG.Perm ns->ZG.Pairwise (·<=·)->Q (.ref l) (Zs H l (.lst (ZG.map V.int)))
theorem Fg{X:Cx}(hc:X.calm=true):dQ X (.builtin "sorted") (Ka X.prog X.w):=fun Zr s σ H xs us Q I r h=>by
 obtain⟨x,rfl,h1⟩:=g9 h;obtain⟨p,rfl,ns0,e,h64,q0⟩:=aT h1;obtain⟨u,rfl,ru⟩:=vals1 r;cases ru;obtain⟨⟨od,es,ep,t,ho,hex,hd,hel,hb,hf,T,hi,hp0⟩,_⟩:=I.Zw p _ e;have hl:es.size=ns0.length:=by have:=hp0.length_eq;simpa using this
 obtain⟨m,hn,_⟩:=I.loc;have hne:p≠X.env.locals:=aJ e I.free;obtain⟨ns,ens⟩:∃ ns,ns=(nI X.w p es ep).toList.map fun e=>Ek e.2:=⟨_,rfl⟩;have pns:ns.Perm ns0:=by rw[ens];exact(AB.map _).trans hp0
 have lns:ns.length=es.size:=by rw[ens];simp[pD]
 have q:∀(l:Addr) (ZG:List Int),H l=none->ZG.Perm ns->ZG.Pairwise (·<=·)->Q (.ref l) (Zs H l (.lst (ZG.map V.int))):=fun l ZG a b c=>q0 l ZG a (b.trans pns) c;refine PySem.W.kdu_sorted (Py (a:=p) (es:=es) (ep:=ep) (t:=t)) (I.ok.hd hc) (Att.Fz hn) (Att.oW hne ho) ⟨od,ho,hex,hd,hf,T⟩ (by rw[sizeLine_eq];omega) fun D h' tk vs F N lt hlen hP=>?_;have hI:IntsAre vs ns:=Hs (by omega) fun j v ev=>by
  obtain⟨e,e1,rfl⟩:=hP j v ev;have e1':(nI X.w p es ep).toList[j]?=some e:=by rw[Array.getElem?_toList];exact e1
  obtain⟨i,tk,et⟩:=hi e (AB.mem_iff.mp (List.mem_of_getElem? e1'));exact⟨i,tk,by rw[ens,List.getElem?_map,e1'];simp only[Option.map_some,et,Ek],et⟩
 have hD:h'.get? D=some (seqObj "list" vs.toArray 0):=(N _ (List.Mem.head _)).1;have old:∀ b o,b≠X.env.locals->s.heap.get? b=some o->h'.get? b=some o/\b < D:=fun b o nb eb=>by
  by_cases hb:b=p
  ·subst hb;rw[ho] at eb;cases eb;exact⟨(N _ (List.Mem.tail _ (List.Mem.head _))).1,lt _ (List.Mem.head _)⟩
  ·have mem:=Att.mO (h:=s.heap) (L:=X.env.locals) (d:=p) |>.mpr ⟨nb,hb,eb⟩;exact⟨(N _ (List.Mem.tail _ (List.Mem.tail _ mem))).1,lt _ (List.Mem.tail _ mem)⟩
 have g:MeetsIn X.prog X.w (Builtin.«list.sort» ⟨[.ref D],[]⟩) (fun _ R s=>s.heap.get? D=some (seqObj "list" vs.toArray 0)/\∀(out:Array Value) (ZG:List Int),IntsAre out.toList ZG->ZG.Perm ns->ZG.Pairwise (·<=·)->R (.ok (.ret .none)) {s with heap:=sortedHeap s.heap D vs out}) :=
  fun A R s ⟨g1,g2⟩=>list_sort_tree g1 hI (by omega) fun out ZG a b c=>g2 out ZG a b c
 refine call_meetsIn PySem.F.slot_list_sort ⟨_,hD,rfl⟩ PySem.F.entry_list_sort (PySem.F.args_list_sort_1 _) g ⟨hD,fun out ZG hI' hp hs=>?_⟩;have hDL:D≠X.env.locals:=(N _ (List.Mem.head _)).2.1;have hDn:H D=none:=by
  cases z:H D with
  | none=>rfl
  | some o =>
   obtain⟨ob,eb⟩:=(I.Zw D o z).there;exact absurd (old D ob hDL eb).2 (Nat.lt_irrefl _)
 have new:∀ b o,b≠X.env.locals->s.heap.get? b=some o->(sortedHeap h' D vs out).get? b=some o:=fun b o nb eb=>by
  obtain⟨h1,h2⟩:=old b o nb eb;rw[sortedHeap_old (Nat.ne_of_lt h2) (Heap.lt_size h1)];exact h1
 obtain⟨e',hD'⟩:=sortedHeap_at (out:=out) hD;have hns:∀ m',s.heap.Ns X.env.locals m'->(sortedHeap h' D vs out).Ns X.env.locals m':=fun m' hm=>by
  have em:m'=m:=by
   obtain⟨o1,ZX,ep1,a1,b1,_,c1⟩:=hm;obtain⟨o2,es2,ep2,a2,b2,_,c2⟩:=hn;rw[a1] at a2;cases a2;rw[b1] at b2;cases b2;funext y;rw[<- c1,<- c2]
  subst em;obtain⟨o1,ZX,ep1,a1,r1⟩:=F.ns;exact⟨o1,ZX,ep1,by rw[sortedHeap_old hDL.symm (Heap.lt_size a1)];exact a1,r1⟩
 have nn:∀ {b:Addr} {o:HO},H b=some o->b≠D:=fun h z=>by subst z;rw[hDn] at h;cases h
 have nl:∀ {b:Addr} {o:HO},H b=some o->b≠X.env.locals:=fun h=>aJ h I.free;refine⟨.ref D,Zs H D (.lst (ZG.map V.int)),show Zt X Zr σ _ {s with heap:=sortedHeap h' D vs out,gens:=s.gens,drawn:=s.drawn,toks:=tk} from I.step (g':=s.gens) (d':=s.drawn) (t':=tk) (ch:=[]) (fun _ z=>nomatch z) (fun b o nb _ _ eb _=>new b o nb eb) (fun b o nb _ _ eb _=>⟨o.slots,new b o nb eb⟩) (fun b o _ eb hb=>?_) (fun b o _ eb=>?_)
  (fun b xs hb=>by rw[aG (nn hb)];exact hb) (fun b o u hb=>by rw[aG (nn hb)];exact hb) (fun b ps hb=>⟨#[],by rw[aG (nn hb),hb];simp⟩) hns (fun b o hb=>?_) I.bare,rfl,q D ZG hDn hp hs⟩
 ·by_cases hbD:b=D
  ·subst hbD;by_cases hbL:b=X.env.locals
   ·exact absurd hbL hDL
   ·exact absurd (old b o hbL eb).2 (Nat.lt_irrefl _)
  ·rw[aG hbD];exact hb
 ·by_cases hbL:b=X.env.locals
  ·subst hbL;obtain⟨o1,ZX,ep1,a1,r1⟩:=hns m hn;exact⟨o1,a1⟩
  ·exact⟨o,new b o hbL eb⟩
 ·by_cases hbD:b=D
  ·subst hbD;rw[aA] at hb;cases hb;exact⟨by rw[List.length_map,hp.length_eq,sizeLine_eq];omega,out.toList,e',qG hI',hD'⟩
  ·rw[aG hbD] at hb;refine(I.Zw b o hb).tW (fun c v hc ev=>?_) (fun c hc=>by rw[aG (nn hc)];exact hc) fun c xs hc=>by rw[aG (nn hc)];exact hc
   rcases hc with hc|hc
   ·subst hc;exact new c v (nl hb) ev
   ·exact new c v (nl hc) ev
section
variable {P:Program} {w:World} {H:Hp} {Q:VK} {p:Addr}
theorem Ol:J9 P w [.ref p] H Q = ∃ ns:List Int,H p=some (.lst (ns.map V.int))/\ns.length<=4/\∀ l,H l=none->Q (.ref l) (Zs H l (E8 P w l (nH ns))):=rfl
theorem NX:J7 P w [.ref p] H Q = ∃ ns:List Int,H p=some (E8 P w p ns)/\Q (.int ns.length) H:=rfl
theorem Lf:Ka P w [.ref p] H Q = ∃ ns:List Int,H p=some (E8 P w p ns)/\ns.length < 64/\∀(l:Addr) (ZG:List Int),H l=none->ZG.Perm ns->ZG.Pairwise (·<=·)->Q (.ref l) (Zs H l (.lst (ZG.map V.int))):=rfl
end
noncomputable def Va(K:q0B)(n:Nat):R2:=fun x y H Q=>aR x fun a=>aR y fun b=>(∃ r,kU K H n a b r/\Q (.bl r) H) \/
 ∃(z z' u:Str) (p:Addr) (ts:List V),H a=some (.tup [.str z,.ref p])/\H p=some (.tup ts)/\H b=some (.tup [.str z',.str u])/\z≠z'/\Q (.bl false) H
theorem Ub{X:Cx}(n:Nat)(hn:2<=n)(hu:X.A.units+n < cLine):lB X (compareOp .Eq) (Va X.K n):=fun Zr s σ H x y v u Q I rx ry h=>by
 obtain⟨a,rfl,h1⟩:=aT h;obtain⟨b,rfl,h2⟩:=aT h1;cases rx;cases ry;rcases h2 with⟨r,e,q⟩|⟨z,z',k,p,ts,ea,ep,eb,ne,q⟩
 ·exact Ml e I hu X.prog X.w X.xe _ (bR I q rfl)
 ·obtain⟨Zv,r1,p1,_⟩:=I.tuple (eJ.of ea);obtain⟨jts,r2,p2,_⟩:=I.tuple (eJ.of eb);obtain⟨kts,r3,p3,_⟩:=I.tuple (eJ.of ep);cases r1 with
  | cons a1 r1 =>
  cases r1 with
  | cons a2 r1 =>
  cases r1;cases r2 with
  | cons b1 r2 =>
  cases r2 with
  | cons b2 r2 =>
  cases r2;obtain⟨t1,rfl⟩:=a1;cases a2;obtain⟨t2,rfl⟩:=b1;obtain⟨t3,rfl⟩:=b2;have:=SeqAt.RcAt.tuples (A:=X.A) (e:=fun j=>if j=0 then (z==z') else false) (show s.heap.IsTuple a #[_,_] from p1) (show s.heap.IsTuple b #[_,_] from p2) (by omega) (fun j h1 h2=>by
   match j,h1 with
   | 0,_=>exact SeqAt.EqAt.str_str z t1 z' t2
   | 1,_=>exact SeqAt.EqAt.tuple_str k t3 (show s.heap.IsTuple p kts.toArray from p3) (by show X.A.units+1 < _;omega))
  have nz:(z==z')=false:=beq_eq_false_iff_ne.mpr ne;have ef:((List.range (min (2:Nat) 2)).all (fun j=>if j=0 then (z==z') else false)&&((2:Nat)==2))=false:=by rw[nz];rfl
  have:=this X.prog X.w X.xe (EP X Zr σ Q) (by
   show EP X Zr σ Q (.bool ((List.range (min (2:Nat) 2)).all (fun j=>if j=0 then (z==z') else false)&&((2:Nat)==2))) s;rw[ef];exact bR I q rfl)
  exact this
section
variable {K:q0B} {n:Nat} {H:Hp} {Q:VK} {a b:Addr}
theorem VU:Va K n (.ref a) (.ref b) H Q=((∃ r,kU K H n a b r/\Q (.bl r) H)\/∃(z z' u:Str) (p:Addr) (ts:List V),H a=some (.tup [.str z,.ref p])/\H p=some (.tup ts)/\H b=some (.tup [.str z',.str u])/\z≠z'/\Q (.bl false) H):=rfl
end
noncomputable def jN:List (Key×V)->Option (List Str)
 | []=>some []
 | (.inr i,_)::r=>(jN r).map (i::·)
 | _=>none
theorem Bh:∀ {kvs:List (Key×V)} {ns:List Str},jN kvs=some ns->kvs.length=ns.length/\∀(j:Nat) (k:Key) (x:V),kvs[j]?=some (k,x)->∃ i:Str,k=.inr i/\ns[j]?=some i
 | [],ns,h=>by cases h;exact⟨rfl,fun j k x e=>by simp at e⟩
 | (k,v)::kvs,ns,h=>by
  cases k with
  | inr i =>
   simp only[jN,Option.map_eq_some_iff] at h;obtain⟨ms,e,rfl⟩:=h;obtain⟨l,f⟩:=Bh e;refine⟨by simp[l],fun j k x ej=>?_⟩;cases j with
   | zero=>simp only[List.getElem?_cons_zero,Option.some.injEq,Prod.mk.injEq] at ej;exact⟨i,ej.1.symm,rfl⟩
   | succ j=>exact f j k x (by simpa using ej)
  | _=>cases h
theorem PB{ns:List Str}:∀ {vs:List Value},vs.length=ns.length->(∀(j:Nat) (v:Value),vs[j]?=some v->∃ i t,ns[j]?=some i/\v=Value.str i t)->StrsAre vs ns:=by
 induction ns with
 | nil =>
  intro vs hl _;cases vs with
  | nil=>exact .nil
  | cons _ _=>simp at hl
 | cons n ns ih =>
  intro vs hl h;cases vs with
  | nil=>simp at hl
  | cons v vs =>
   obtain⟨i,t,e,rfl⟩:=h 0 v rfl;cases e;exact .cons _ _ (ih (by simpa using hl) fun j v e=>h (j+1) v (by simpa using e))
theorem GK{vs:List Value}{ss:List Str}(h:StrsAre vs ss):Vals (ss.map V.str) vs:=by
 induction h with
 | nil=>exact .nil
 | cons y t _ ih=>exact .cons ⟨t,rfl⟩ ih
noncomputable def Kc:List V->Hp->VK->Prop:=fun vs H Q=>on1 vs fun x=>aR x fun p=>cH (H p) fun kvs=>dI (jN kvs) fun ns=>ns.length < 64/\∀(l:Addr) (ZG:List Str),H l=none->ZG.Perm ns->sortedS ZG=true->Q (.ref l) (Zs H l (.lst (ZG.map V.str)))
theorem yS{X:Cx}(hc:X.calm=true):dQ X (.builtin "sorted") Kc:=fun Zr s σ H xs us Q I r h=>by
 obtain⟨x,rfl,h1⟩:=g9 h;obtain⟨p,rfl,h2⟩:=aT h1;obtain⟨kvs,e,h3⟩:=c8 h2;obtain⟨ns,ek,h64,q⟩:=dE h3;obtain⟨u,rfl,ru⟩:=vals1 r;cases ru;obtain⟨hl,hk⟩:=Bh ek;obtain⟨z,hd,vs0,rel,dd⟩:=sS I.Zw e;obtain⟨ep,dat⟩:=dd.dictAt;obtain⟨od,es,ho,_⟩:=id dat;obtain⟨m,hn,_⟩:=I.loc;have hne:p≠X.env.locals:=aJ e I.free;have l0:=rel.length;refine PySem.W.kdu_sorted (PySem.W.kdl_dict (knd:=bV X.prog X.w) (kvs:=vs0) (ep:=ep) hd) (I.ok.hd hc) (Att.Fz hn) (Att.oW hne ho) dat (by omega) fun D h' tk vs F N lt hlen hP=>?_;have hI:StrsAre vs ns:=PB (by omega) fun j v ev=>by
  obtain⟨k,x,e1,e2⟩:=hP j v ev;have hj:j < kvs.length:=by
   have:=(List.getElem?_eq_some_iff.mp e1).1;omega
  obtain⟨⟨k',x'⟩,ekv⟩:∃ y,kvs[j]?=some y:=⟨_,List.getElem?_eq_getElem hj⟩;obtain⟨v',e3⟩:=KV.at rel ekv;rw[e1] at e3;cases e3;obtain⟨i,rfl,ei⟩:=hk j _ _ ekv;obtain⟨t,et⟩:=(show ∃ t,v=Value.str i t from tE e2);exact⟨i,t,ei,et⟩
 have hD:h'.get? D=some (seqObj "list" vs.toArray 0):=(N _ (List.Mem.head _)).1;have old:∀ b o,b≠X.env.locals->s.heap.get? b=some o->h'.get? b=some o/\b < D:=fun b o nb eb=>by
  by_cases hb:b=p
  ·subst hb;rw[ho] at eb;cases eb;exact⟨(N _ (List.Mem.tail _ (List.Mem.head _))).1,lt _ (List.Mem.head _)⟩
  ·have mem:=Att.mO (h:=s.heap) (L:=X.env.locals) (d:=p) |>.mpr ⟨nb,hb,eb⟩;exact⟨(N _ (List.Mem.tail _ (List.Mem.tail _ mem))).1,lt _ (List.Mem.tail _ mem)⟩
 have g:MeetsIn X.prog X.w (Builtin.«list.sort» ⟨[.ref D],[]⟩) (fun _ R s=>s.heap.get? D=some (seqObj "list" vs.toArray 0)/\∀(out:Array Value) (ZG:List Str),StrsAre out.toList ZG->ZG.Perm ns->sortedS ZG=true->R (.ok (.ret .none)) {s with heap:=sortedHeap s.heap D vs out}) :=
  fun A R s ⟨g1,g2⟩=>list_sort_treeK strKind_oneLt g1 hI.keysOf (fun v₁ v₂ rest e=>keyKind_strs (by rw[<- e];exact hI)) (by omega) fun st' hp hs=>by
   obtain⟨ss',h1,h2,h3⟩:=sorted_out_str hI hp hs;exact g2 _ ss' h1 h2 h3
 refine call_meetsIn PySem.F.slot_list_sort ⟨_,hD,rfl⟩ PySem.F.entry_list_sort (PySem.F.args_list_sort_1 _) g ⟨hD,fun out ZG hI' hp hs=>?_⟩;have hDL:D≠X.env.locals:=(N _ (List.Mem.head _)).2.1;have hDn:H D=none:=by
  cases z:H D with
  | none=>rfl
  | some o =>
   obtain⟨ob,eb⟩:=(I.Zw D o z).there;exact absurd (old D ob hDL eb).2 (Nat.lt_irrefl _)
 have new:∀ b o,b≠X.env.locals->s.heap.get? b=some o->(sortedHeap h' D vs out).get? b=some o:=fun b o nb eb=>by
  obtain⟨h1,h2⟩:=old b o nb eb;rw[sortedHeap_old (Nat.ne_of_lt h2) (Heap.lt_size h1)];exact h1
 obtain⟨e',hD'⟩:=sortedHeap_at (out:=out) hD;have hns:∀ m',s.heap.Ns X.env.locals m'->(sortedHeap h' D vs out).Ns X.env.locals m':=fun m' hm=>by
  have em:m'=m:=by
   obtain⟨o1,ZX,ep1,a1,b1,_,c1⟩:=hm;obtain⟨o2,es2,ep2,a2,b2,_,c2⟩:=hn;rw[a1] at a2;cases a2;rw[b1] at b2;cases b2;funext y;rw[<- c1,<- c2]
  subst em;obtain⟨o1,ZX,ep1,a1,r1⟩:=F.ns;exact⟨o1,ZX,ep1,by rw[sortedHeap_old hDL.symm (Heap.lt_size a1)];exact a1,r1⟩
 have nn:∀ {b:Addr} {o:HO},H b=some o->b≠D:=fun h z=>by subst z;rw[hDn] at h;cases h
 have nl:∀ {b:Addr} {o:HO},H b=some o->b≠X.env.locals:=fun h=>aJ h I.free;refine⟨.ref D,Zs H D (.lst (ZG.map V.str)),show Zt X Zr σ _ {s with heap:=sortedHeap h' D vs out,gens:=s.gens,drawn:=s.drawn,toks:=tk} from I.step (g':=s.gens) (d':=s.drawn) (t':=tk) (ch:=[]) (fun _ z=>nomatch z) (fun b o nb _ _ eb _=>new b o nb eb) (fun b o nb _ _ eb _=>⟨o.slots,new b o nb eb⟩) (fun b o _ eb hb=>?_) (fun b o _ eb=>?_)
  (fun b xs hb=>by rw[aG (nn hb)];exact hb) (fun b o u hb=>by rw[aG (nn hb)];exact hb) (fun b ps hb=>⟨#[],by rw[aG (nn hb),hb];simp⟩) hns (fun b o hb=>?_) I.bare,rfl,q D ZG hDn hp hs⟩
 ·by_cases hbD:b=D
  ·subst hbD;by_cases hbL:b=X.env.locals
   ·exact absurd hbL hDL
   ·exact absurd (old b o hbL eb).2 (Nat.lt_irrefl _)
  ·rw[aG hbD];exact hb
 ·by_cases hbL:b=X.env.locals
  ·subst hbL;obtain⟨o1,ZX,ep1,a1,r1⟩:=hns m hn;exact⟨o1,a1⟩
  ·exact⟨o,new b o hbL eb⟩
 ·by_cases hbD:b=D
  ·subst hbD;rw[aA] at hb;cases hb;exact⟨by rw[List.length_map,hp.length_eq];omega,out.toList,e',GK hI',hD'⟩
  ·rw[aG hbD] at hb;refine(I.Zw b o hb).tW (fun c v hc ev=>?_) (fun c hc=>by rw[aG (nn hc)];exact hc) fun c xs hc=>by rw[aG (nn hc)];exact hc
   rcases hc with hc|hc
   ·subst hc;exact new c v (nl hb) ev
   ·exact new c v (nl hc) ev
section
variable {H:Hp} {Q:VK} {p:Addr}
theorem Ot:Kc [.ref p] H Q=cH (H p) fun kvs=>dI (jN kvs) fun ns=>ns.length < 64/\∀(l:Addr) (ZG:List Str),H l=none->ZG.Perm ns->sortedS ZG=true->Q (.ref l) (Zs H l (.lst (ZG.map V.str))):=rfl
end
end L2
namespace PySem
open AutoSeq1 (wpAny_loadPart')
open PyProof.Rows PySem.W
section
variable {prog:Program} {w:World} {A:Around} {E:q0A} {s:Shared} {K:Type} [DecidableEq K] {knd:KeyKind prog w K} {r d:Addr} {kvs:List (K×Value)} {ep:Nat}
theorem oB{Q₁:q0A}(hh:A.handled=none)(hv:s.heap.IsItemsView r d)(hm:s.heap.DictAt knd d kvs ep)(hn:kvs.length<=sizeLine)
    (hQ:∀(h':Heap) (tk:Nat) (as:List Addr),(∀ b o,s.heap.get? b=some o->h'.get? b=some o)->as.length=kvs.length->KdxG knd kvs s.heap.objs.size h' as->Q₁ (.ref h'.objs.size) {s with heap:=h'.push {cls:=.type "tuple",data:=.seq (as.map Value.ref).toArray},toks:=tk}) :
    codeAny (model prog w) A (.call (.builtin "tuple.__new__") ⟨[.type "tuple",.ref r],[]⟩) (wants Q₁ E) s:=by
  refine codeAny_of_tree ?_;show wpAny _ A.in1 (do checkBuiltinCall "tuple.__new__" ⟨[.type "tuple",.ref r],[]⟩;again (.builtin "tuple.__new__" ⟨[.type "tuple",.ref r],[]⟩)) _ _ s;refine wpAny_bind (wpAny_of_eq (F.newCall_tuple_1 _) (wpAny_pure ⟨plainId_quiet F.plain_tuple_new _,codeAny_builtin F.entry_tuple_new ?_⟩));rw[Around.under_plainId F.plain_tuple_new _];have aa3:=sub_tuple_self;have ab6:=init_tuple_lookup;have hmh:=madeHere_tuple;have hTI:s.TypeIs (.ref r) "dict_items":=let ⟨o,ho,x,_⟩:=hv;⟨o,ho,x⟩;wp_walk using wpAny_typeOf hTI,kdx_collect (A:=A.in1) (knd:=knd) (kvs:=kvs) (ep:=ep) hh hv hm hn;intro h' tk as hk hl hG;show wpAny _ _ (Builtin.Tuple.tupleExact (as.map Value.ref).toArray >>= fun v=>ret v) _ _ _;unfold Builtin.Tuple.tupleExact;refine wpAny_bind (wpAny_newObj_type ?_ (by show(as.map Value.ref).toArray.size<=sizeLine;simpa[hl] using hn));refine wpAny_pure ?_;exact hQ h' tk as hk hl hG
theorem uG{Q:q0A}(hh:A.handled=none)(hv:s.heap.IsItemsView r d)(hm:s.heap.DictAt knd d kvs ep)(hn:kvs.length<=sizeLine)
    (hQ:∀(h':Heap) (tk:Nat) (as:List Addr),(∀ b o,s.heap.get? b=some o->h'.get? b=some o)->as.length=kvs.length->KdxG knd kvs s.heap.objs.size h' as->Q (.ref h'.objs.size) {s with heap:=h'.push {cls:=.type "tuple",data:=.seq (as.map Value.ref).toArray},toks:=tk}) :
    wpAny (model prog w) A (call (.type "tuple") [.ref r]) Q E s:=by
  refine callType_codes (Q₁:=fun obj s₁=>s₁.TypeIs obj "tuple"/\Q obj s₁) F.called_tuple (F.typeCall_tuple_1 _) F.entry_object_init
    (oB (knd:=knd) (kvs:=kvs) (ep:=ep) hh hv hm hn fun h' tk as hk hl hG=>⟨⟨_,Heap.get?_push_size _ rfl,rfl⟩,hQ h' tk as hk hl hG⟩) fun obj s₁ h₁=>?_
  exact⟨h₁.1,F.args_object_init_2 obj _,object_init_meets F.called_tuple.init.lookup F.called_tuple.made (by decide) prog w A.in1 _ s₁ ⟨h₁.1,rfl,h₁.2⟩⟩
end
end PySem
namespace L2
open PySem PySem.Spec PyProof.Rows
noncomputable def MZ(a d:Addr):HO:=.ext fun h=>h.IsItemsView a d
section
variable {X:Cx} {o:Expr} {td:TE} {apos Zz:Pos}
noncomputable def J0(td:TE):TE:=fun σ H Q=>td σ H fun x H1=>aR x fun a=>cH (H1 a) fun _=>∀ r,H1 r=none->Q (.ref r) (Zs H1 r (MZ r a))
theorem Md(ho:PE X o td)(Z7:attributeBase o "items" X.env (eval o X.env)=eval o X.env:=by rfl)(Z8:(apos.endLine==Zz.line)=true:=by rfl):PE X (.Call (.Attribute o "items" apos) [] [] Zz) (J0 td):=fun Zr s σ H Q I h=>by
 refine wpAny_Call_method0_late Z7 Z8 (thn (ho Zr s σ H _ I h) fun v s1 ⟨x,H1,I1,r1,q1⟩=>?_);obtain⟨a,rfl,q2⟩:=aT q1;obtain⟨kvs,e0,q3⟩:=c8 q2;obtain rfl:v=Value.ref a:=r1;obtain⟨t1,t2,_⟩:=uP I1 (.inl ⟨kvs,.inl e0⟩);refine⟨"dict","dict.items",PySem.F.plainAttrs_dict,PySem.F.slot_dict_items,PySem.F.type_dict_items,t1,t2,Calls.callWith_builtin rfl (PySem.evalArgs_none ?_)⟩;obtain⟨z,hd,vs,rel,dd⟩:=sS I1.Zw e0;refine call_meetsIn PySem.F.slot_dict_items dd.typeIs PySem.F.entry_dict_items (PySem.F.args_dict_items_1 _) (meets_dict_items (bV X.prog X.w) a hd) ⟨⟨vs,dd⟩,?_⟩;have I2:=I1.laid (t':=s1.toks) (fun b o e=>Heap.get?_push_of_some _ e) (Nat.le_refl _) (show dH X.prog X.w _ (s1.heap.push {cls:=.type "dict_items",data:=.fields #[.ref a]}) _ (MZ s1.heap.objs.size a) from ⟨⟨_,Heap.get?_push_size _ rfl,rfl,rfl⟩,⟨_,Heap.get?_push_size _ rfl⟩,fun h1 h2 ⟨o,ho,x⟩ k=>⟨o,k o ho,x⟩⟩);exact⟨.ref _,_,I2,rfl,q3 _ (I1.Zw.fresh (Nat.le_refl _))⟩
end
theorem KV.atR{kvs:List (Key×V)}{vs:List (Key×Value)}(r:KV kvs vs){i:Nat}{k:Key}{x:V}(e:kvs[i]?=some (k,x)):∃ v,vs[i]?=some (k,v)/\bH x v:=by
 unfold KV at r
 induction r generalizing i with
 | nil=>simp at e
 | @cons p q ps qs h t ih=>cases i with
  | zero =>
   have e':p=(k,x):=by simpa using e
   subst e';exact⟨q.2,by rw[List.getElem?_cons_zero,show k=q.1 from h.1],h.2⟩
  | succ i=>simpa using ih (i:=i) (by simpa using e)
theorem Cr:∀ as:List Addr,Vals (as.map V.ref) (as.map Value.ref)
 | []=>.nil
 | a::as=>.cons rfl (Cr as)
noncomputable def nT:List Addr->List (Key×V)->Hp->Hp
 | a::as,(k,x)::kvs,H=>Zs (nT as kvs H) a (.tup [kV k,x])
 | _,_,H=>H
theorem pS{H:Hp}{b:Addr}:∀ {as:List Addr} {kvs:List (Key×V)},b∉as->nT as kvs H b=H b
 | [],_,_=>by simp[nT]
 | a::as,[],_=>by simp[nT]
 | a::as,(k,x)::kvs,h=>by
  simp only[List.mem_cons,not_or] at h;rw[nT,aG h.1,pS h.2]
theorem yG{H:Hp}{a:Addr}{k:Key}{x:V}:∀ {as:List Addr} {kvs:List (Key×V)} {j:Nat},as.Nodup->as[j]?=some a->kvs[j]?=some (k,x)->nT as kvs H a=some (.tup [kV k,x])
 | [],_,_,_,h,_=>by simp at h
 | b::as,[],_,_,_,h=>by simp at h
 | b::as,(k',x')::kvs,0,_,h1,h2=>by
  simp only[List.getElem?_cons_zero,Option.some.injEq,Prod.mk.injEq] at h1 h2;obtain⟨rfl,rfl⟩:=h2;subst h1;rw[nT,aA]
 | b::as,(k',x')::kvs,j+1,nd,h1,h2=>by
  rw[List.nodup_cons] at nd;simp only[List.getElem?_cons_succ] at h1 h2;have:a≠b:=fun z=>nd.1 (by rw[<- z];exact List.mem_of_getElem? h1);rw[nT,aG this,yG nd.2 h1 h2]
theorem JN{H:Hp}{b:Addr}{o:HO}{as:List Addr}{kvs:List (Key×V)}(nd:as.Nodup)(hl:as.length=kvs.length)(hb:b∈as)(h:nT as kvs H b=some o):∃(j:Nat) (k:Key) (x:V),as[j]?=some b/\kvs[j]?=some (k,x)/\o=.tup [kV k,x]:=by
 obtain⟨j,hj⟩:=List.mem_iff_getElem?.mp hb;have Z5:j < kvs.length:=by have:=(List.getElem?_eq_some_iff.mp hj).1;omega
 obtain⟨⟨k,x⟩,e⟩:∃ y,kvs[j]?=some y:=⟨_,List.getElem?_eq_getElem Z5⟩;rw[yG nd hj e] at h;exact⟨j,k,x,hj,e,(Option.some.inj h).symm⟩
noncomputable def Ke:List V->Hp->VK->Prop:=fun vs H Q=>on1 vs fun x=>aR x fun r=>∃(d:Addr) (kvs:List (Key×V)),H r=some (MZ r d)/\H d=some (.dK kvs)/\∀(l:Addr) (as:List Addr) (H':Hp),H l=none->Same H H'->H' l=some (.tup (as.map V.ref))->as.length=kvs.length->(∀(j:Nat) (a:Addr) (k:Key) (x:V),as[j]?=some a->kvs[j]?=some (k,x)->H' a=some (.tup [kV k,x]))->Q (.ref l) H'
theorem Fi{X:Cx}(hc:X.calm=true):dQ X (.type "tuple") Ke:=fun Zr s σ H xs us Q I rr h=>by
 obtain⟨x,rfl,h1⟩:=g9 h;obtain⟨r,rfl,d,kvs,er,ed,q⟩:=aT h1;obtain⟨u,rfl,ru⟩:=vals1 rr;cases ru;have hv:s.heap.IsItemsView r d:=(I.Zw r _ er).1;obtain⟨z,hd,vs0,rel,dd⟩:=sS I.Zw ed;obtain⟨ep,dat⟩:=dd.dictAt;have l0:=rel.length;refine uG (knd:=bV X.prog X.w) (kvs:=vs0) (ep:=ep) (I.ok.hd hc) hv dat (by omega) fun h' tk as hk hl hG=>?_;have fresh:∀ {b:Addr},s.heap.objs.size<=b->H b=none:=fun hb=>I.Zw.fresh hb;have abU:∀ b o,H b=some o->∃ ob,s.heap.get? b=some ob:=fun b o e=>(I.Zw b o e).there;have hl0:H h'.objs.size=none:=by
  cases e:H h'.objs.size with
  | none=>rfl
  | some o =>
   obtain⟨ob,eb⟩:=abU _ _ e;exact absurd (Heap.lt_size (hk _ _ eb)) (Nat.lt_irrefl _)
 have nd:as.Nodup:=hG.rise.imp fun h=>Nat.ne_of_lt h;have aH:∀ a∈as,H a=none:=fun a ha=>fresh (Nat.le_of_lt (hG.above a ha));have nl:h'.objs.size∉as:=fun z=>absurd (hG.there z) (Nat.lt_irrefl _);have hlk:as.length=kvs.length:=by omega
 have same:Same H (Zs (nT as kvs H) h'.objs.size (.tup (as.map V.ref))):=fun b o e=>by
  have h1:b≠h'.objs.size:=fun z=>by rw[z,hl0] at e;cases e
  have h2:b∉as:=fun z=>by rw[aH b z] at e;cases e
  rw[aG h1,pS h2];exact e
 have aaG:∀ b o,s.heap.get? b=some o->(h'.push {cls:=.type "tuple",data:=.seq (as.map Value.ref).toArray}).get? b=some o:=fun b o e=>Heap.get?_push_of_some _ (hk b o e);refine⟨.ref h'.objs.size,Zs (nT as kvs H) h'.objs.size (.tup (as.map V.ref)),show Zt X Zr σ _ {s with heap:=h'.push {cls:=.type "tuple",data:=.seq (as.map Value.ref).toArray},gens:=s.gens,drawn:=s.drawn,toks:=tk} from I.step (g':=s.gens) (d':=s.drawn) (t':=tk) (ch:=[]) (fun _ z=>nomatch z) (fun b o nb _ _ eb _=>aaG b o eb) (fun b o nb _ _ eb _=>⟨o.slots,aaG b o eb⟩) (fun b o _ eb hb=>?_) (fun b o _ eb=>⟨o,aaG b o eb⟩)
  (fun b xs hb=>same b _ hb) (fun b o u hb=>same b _ hb) (fun b ps hb=>⟨#[],by rw[same b _ hb];simp⟩) (fun m hm=>?_) (fun b o hb=>?_) I.bare,rfl,q _ as _ hl0 same aA hlk fun j a k x e1 e2=>?_⟩
 ·have h1:b≠h'.objs.size:=Nat.ne_of_lt (Heap.lt_size (hk b o eb));have h2:b∉as:=fun z=>absurd (Nat.lt_trans (hG.above b z) (Heap.lt_size eb)) (Nat.lt_irrefl _);rw[aG h1,pS h2];exact hb
 ·obtain⟨o1,ZX,ep1,a1,r1⟩:=hm;exact⟨o1,ZX,ep1,aaG _ _ a1,r1⟩
 ·by_cases h1:b=h'.objs.size
  ·subst h1;rw[aA] at hb;cases hb;exact⟨by rw[List.length_map];omega,as.map Value.ref,Cr as,IsTup.new _ _⟩
  ·rw[aG h1] at hb;by_cases h2:b∈as
   ·obtain⟨j,k,x,e1,e2,rfl⟩:=JN nd hlk h2 hb;obtain⟨key,k',x',e3,e4,e5⟩:=hG.pairs j b e1;obtain⟨v,e6,e7⟩:=KV.atR rel e2;rw[e3] at e6;cases e6;exact⟨by show 2<=sizeLine;rw[sizeLine_eq];decide,[key,x'],.cons (tE e4) (.cons e7 .nil),⟨_,Heap.get?_push_of_some _ e5,rfl,_,rfl⟩⟩
   ·rw[pS h2] at hb;exact(I.Zw b o hb).tW (fun c v _ ev=>aaG c v ev) (fun c hc=>same _ _ hc) fun c xs hc=>same _ _ hc
 ·have:a≠h'.objs.size:=fun z=>nl (by rw[<- z];exact List.mem_of_getElem? e1);rw[aG this,yG nd e1 e2]
section
variable {H:Hp} {Q:VK} {p:Addr} {td:TE} {σ:St}
theorem NV:J0 td σ H Q=td σ H fun x H1=>aR x fun a=>cH (H1 a) fun _=>∀ r,H1 r=none->Q (.ref r) (Zs H1 r (MZ r a)):=rfl
theorem Ox:Ke [.ref p] H Q = ∃(d:Addr) (kvs:List (Key×V)),H p=some (MZ p d)/\H d=some (.dK kvs)/\∀(l:Addr) (as:List Addr) (H':Hp),H l=none->Same H H'->H' l=some (.tup (as.map V.ref))->as.length=kvs.length->(∀(j:Nat) (a:Addr) (k:Key) (x:V),as[j]?=some a->kvs[j]?=some (k,x)->H' a=some (.tup [kV k,x]))->Q (.ref l) H':=rfl
end
noncomputable def JL(a b:Str):Prop:=a.cps.toList<=b.cps.toList
theorem B8{a b c:Str}(h:JL a b)(g:JL b c):JL a c:=List.le_trans h g
theorem LN{a b:Str}(h:JL a b)(g:JL b a):a=b:=by
 have e:=List.le_antisymm h g;obtain⟨⟨x⟩⟩:=a;obtain⟨⟨y⟩⟩:=b;simp only at e;rw[e]
theorem IP(a b:Str):JL a b\/JL b a:=List.le_total a.cps.toList b.cps.toList
theorem AK:∀ {l:List Str} {p:Str},risingS p l=true->(p::l).Pairwise JL
 | [],p,_=>by simp
 | x::r,p,h=>by
  rw[risingS,Bool.and_eq_true,Bool.not_eq_true',ltCps_eq,decide_eq_false_iff_not,List.not_lt] at h;have ih:=AK h.2;rw[List.pairwise_cons];refine⟨fun y hy=>?_,ih⟩;rcases List.mem_cons.mp hy with rfl|hy
  ·exact h.1
  ·exact B8 h.1 ((List.pairwise_cons.mp ih).1 y hy)
theorem Gv{l:List Str}(h:sortedS l=true):l.Pairwise JL:=by
 cases l with
 | nil=>exact .nil
 | cons x r=>exact AK h
theorem HI:∀ {a b:List Str},a.Perm b->a.Pairwise JL->b.Pairwise JL->a=b
 | [],b,p,_,_=>by rw[List.nil_perm.mp p]
 | x::a,[],p,_,_=>by have:=p.length_eq;simp at this
 | x::a,y::b,p,ha,hb=>by
  rw[List.pairwise_cons] at ha hb;have e:x=y:=by
   have h1:x∈y::b:=p.mem_iff.mp (by simp);have h2:y∈x::a:=p.mem_iff.mpr (by simp);rcases List.mem_cons.mp h1 with h1|h1
   ·exact h1
   rcases List.mem_cons.mp h2 with h2|h2
   ·exact h2.symm
   exact LN (ha.1 y h2) (hb.1 x h1)
  subst e;rw[HI p.cons_inv ha.2 hb.2]
noncomputable def W8(a b:Str):Bool:=!(ltCps b.cps.toList a.cps.toList)
theorem pZ{a b:Str}:W8 a b=true↔JL a b:=by
 rw[W8,Bool.not_eq_true',ltCps_eq,decide_eq_false_iff_not,List.not_lt];exact Iff.rfl
noncomputable def srt(l:List Str):List Str:=l.mergeSort W8
theorem MC{l ns:List Str}(p:ns.Perm l)(h:sortedS ns=true):ns=srt l:=by
 refine HI (p.trans (List.mergeSort_perm l W8).symm) (Gv h) ?_;have:=List.pairwise_mergeSort (le:=W8) (fun a b c h g=>pZ.mpr (B8 (pZ.mp h) (pZ.mp g))) (fun a b=>by
  rcases IP a b with h|h
  ·rw[pZ.mpr h];simp
  ·rw[pZ.mpr h];simp) l
 exact this.imp fun h=>pZ.mp h
theorem Hw:∀(f n r:Nat),r<=1->minRun' f n r<=n+r
 | 0,n,r,_=>Nat.le_of_eq rfl
 | f+1,n,r,hr=>by
  rw[minRun'_succ];split
  ·omega
  ·have:=Hw f (n / 2) (max r (n % 2)) (by omega);omega
section
variable {prog:Program} {w:World} {A:Around} {E:q0A} {s:Shared} {b0:Array Keyed}
theorem Us{st:SortSt}{C:Option Nat->SortSt->Prop}(ik:IntKeys b0)(sb:SBase b0 st)(one:1<=b0.size)(up:∀ n,1<=n->n < b0.size->K (arrOf st) (n - 1)<=K (arrOf st) n)
    (q:SortedTo (arrOf st) b0.size->C (some b0.size) st):wpS (model prog w) A E s (countRun' 0 b0.size) C st:=by
  rw[countRun0_eq];refine wpS_bind (wpS_ascLoop ik (Nat.le_refl _) (Nat.le_refl 1) one sb (fun i j a b=>?_) fun n n1 n2 so oz=>?_)
  · obtain rfl:i=j:=by omega
    exact Int.le_refl _
  · have en:n=b0.size:=by
      rcases oz with z|z
      · exact z
      · rcases Nat.lt_or_ge n b0.size with y|y
        · have:=up n n1 y;omega
        · omega
    dsimp only;rw[en] at so ⊢;rw[if_pos (by simp)];exact wpS_pure (q so)
theorem Ph{st:SortSt}{C:Unit->SortSt->Prop}(ik:IntKeys b0)(sb:SBase b0 st)(two:2<=b0.size)(up:∀ n,1<=n->n < b0.size->K (arrOf st) (n - 1)<=K (arrOf st) n)
    (q:∀ st',(arrOf st').Perm b0->failedOf st'=none->SortedTo (arrOf st') b0.size->C () st'):wpS (model prog w) A E s sortRuns' C st:=by
  rw[sortRuns'_eq];refine wpS_bind (wpS_get ?_);dsimp only;have mr:=Hw b0.size b0.size 0 (by omega);simp only[sb.size];obtain⟨P1,hP1⟩:∃ P1:SortSt->Prop,∀ z,P1 z=(arrOf z=arrOf st/\failedOf z=none/\pendingOf z = #[(0,b0.size,0)]/\SortedTo (arrOf z) b0.size):=⟨_,fun _=>rfl⟩;refine wpS_bind (wpS_mono (wpS_forRange (I:=fun x c z=>(x=0/\c=(none,0)/\z=st)\/(1<=x/\c=(none,b0.size)/\P1 z)) (Q:=fun c z=>c=(none,b0.size)/\P1 z) ?stp ?end0 (.inl ⟨rfl,rfl,rfl⟩)) ?aft)
  case end0 =>
    rintro c z (⟨a,_,_⟩|⟨_,a,b⟩)
    · omega
    · exact⟨a,b⟩
  case stp =>
    rintro x c z _ _ (⟨rfl,rfl,rfl⟩|⟨_,rfl,b⟩)
    · dsimp only;rw[if_neg (by omega)];simp only[Nat.sub_zero,Nat.zero_add];refine wpS_bind (Us ik sb (by omega) up fun so=>?_);dsimp only;rw[if_neg (by omega)];refine wpS_bind (wpS_get ?_);rw[show(pendingOf z).back?=none by rw[sb.pend];rfl];dsimp only;refine wpS_bind (wpS_modify (wpS_pure (.inr ⟨Nat.le_refl _,rfl,?_⟩)));rw[hP1];exact⟨rfl,sb.failed,by show(pendingOf z).push _=_;rw[sb.pend];rfl,so⟩
    · dsimp only;rw[if_pos (Nat.le_refl _)];exact wpS_pure ⟨rfl,b⟩
  case aft =>
    rintro c z ⟨rfl,b⟩;rw[hP1] at b;dsimp only;refine wpS_bind (wpS_mono (wpS_forRange (I:=fun _ c y=>y=z/\c=(none,())) (Q:=fun c y=>y=z/\c=(none,())) ?_ (fun _ _ e=>e) ⟨rfl,rfl⟩) ?_)
    · rintro x c y _ _ ⟨rfl,rfl⟩;refine wpS_bind (wpS_get ?_);rw[if_pos (by rw[b.2.2.1];exact Nat.le_refl 1)];exact wpS_pure ⟨rfl,rfl⟩
    · rintro c y ⟨rfl,rfl⟩;exact wpS_pure (q _ (b.1▸sb.perm) b.2.1 b.2.2.2)
theorem LH{vs:List Value}{ns:List Int}(hI:IntsAre vs ns):∀ {i:Nat} {n:Int},ns[i]?=some n->∃ t,vs[i]?=some (.int n t):=by
 induction hI with
 | nil=>intro i n h;simp at h
 | cons m t _ ih =>
  intro i n h;cases i with
  | zero =>
   simp only[List.getElem?_cons_zero,Option.some.injEq] at h;subst h;exact⟨t,rfl⟩
  | succ i=>exact ih (by simpa using h)
theorem PV{vs:List Value}{ns:List Int}(hI:IntsAre vs ns){i:Nat}{n:Int}(h:ns[i]?=some n):K (pairsOf vs) i=n:=by
 obtain⟨t,e⟩:=LH hI h;have z:(pairsOf vs)[i]?=some (.int n t,.int n t):=by
  rw[<- Array.getElem?_toList,pairsOf_toList,List.getElem?_zip_eq_some];exact⟨e,e⟩
 unfold K;rw[z];rfl
theorem Dd{a:Addr}{vs:List Value}{ns:List Int}{n:Nat}{C:Fin->Shared->Prop}(ho:s.heap.get? a=some (seqObj "list" vs.toArray n))(hI:IntsAre vs ns)(hr:ns.Pairwise (·<=·))(hz:vs.length<=sizeLine)
    (q:∀(out:Array Value) (ZG:List Int),IntsAre out.toList ZG->ZG.Perm ns->ZG.Pairwise (·<=·)->C (.done (.ret .none)) {s with heap:=sortedHeap s.heap a vs out}) :
    wpAny (model prog w) A (Builtin.«list.sort» ⟨[.ref a],[]⟩) C E s:=by
  by_cases few:vs.length < 64
  · exact list_sort_tree ho hI few q
  have lI:vs.length=ns.length:=hI.length;have la:a < s.heap.objs.size:=Heap.lt_size ho;rw[list_sort_plain];refine wpAny_bind (listItems_at ho rfl (wpAny_bind (listUpdate_at ho rfl ?_)));obtain⟨e1,o1⟩:∃ e1,(s.heap.update a (Obj.mapSeq fun _=>#[])).get? a=some (seqObj "list" #[] e1):=⟨_,get?_update_seq ho (fun _=>#[])⟩;refine wpAny_bind (seqEpoch_at o1 rfl (wpAny_bind (wpAny_newTuple (wpAny_bind (wpAny_newList (wpAny_holding ?_))))));have o6:(((s.heap.update a (Obj.mapSeq fun _=>#[])).push (seqObj "tuple" vs.toArray 0)).push (seqObj "list" #[] 0)).get? a=some (seqObj "list" #[] e1):=Heap.get?_push_of_some _ (Heap.get?_push_of_some _ o1);show wpAny (model prog w) A _ C E {s with heap:=((s.heap.update a (Obj.mapSeq fun _=>#[])).push (seqObj "tuple" vs.toArray 0)).push (seqObj "list" #[] 0)};dsimp only;have hne:¬ vs.toArray.size < 2:=by rw[List.size_toArray];omega
  rw[if_neg hne,if_neg hne];obtain⟨u,v,rest,rfl⟩:∃ u v rest,vs=u::v::rest:=by
    match vs,few with
    | [],z=>exact absurd (by simp) z
    | [_],z=>exact absurd (by simp) z
    | u::v::rest,_=>exact⟨u,v,rest,rfl⟩
  rw[keyKind_ints hI];refine wpAny_bind (wpAny_pure (wpAny_bind (wpAny_mono (Ph (b0:=pairsOf (u::v::rest)) (st:=SortSt.mk' oneType' ((u::v::rest).toArray.zip (u::v::rest).toArray) #[] 7 none)
    (C:=fun _ z=>(arrOf z).Perm (pairsOf (u::v::rest))/\failedOf z=none/\SortedTo (arrOf z) (pairsOf (u::v::rest)).size)
    hI.intKeys ⟨Array.Perm.refl _,rfl,rfl,rfl⟩ (by rw[pairsOf_size];simp) (fun i i1 i2=>?_) fun z x y c=>⟨x,y,c⟩) ?_ fun _ _ e=>e)))
  · rw[pairsOf_size] at i2;have l1:i - 1 < ns.length:=by omega
    have l2:i < ns.length:=by omega
    show K (pairsOf (u::v::rest)) (i - 1)<=K (pairsOf (u::v::rest)) i;rw[PV hI (List.getElem?_eq_getElem l1),PV hI (List.getElem?_eq_getElem l2)];exact List.pairwise_iff_getElem.mp hr (i - 1) i l1 l2 (by omega)
  rintro⟨⟨⟩,z⟩ s' ⟨rfl,hp,hf,hs⟩;dsimp only;refine wpAny_bind (seqEpoch_at o6 rfl (wpAny_bind (listUpdate_at o6 rfl ?_ (hsz2:=by refine Nat.le_trans (Nat.le_of_eq ((Array.size_map ..).trans (hp.size_eq.trans (pairsOf_size _)))) ?_;omega))));rw[hf];simp only[bne_self_eq_false,Bool.false_eq_true,if_false];obtain⟨ZG,h1,h2,h3⟩:=sorted_out hI hp hs;exact wpAny_pure (q _ ZG h1 h2 h3)
end
noncomputable def Kb:List V->Hp->VK->Prop:=fun vs H Q=>on1 vs fun x=>aR x fun p=>cH (H p) fun kvs=>dI (intKeys kvs) fun ns=>ns.Pairwise (· < ·)/\∀(l:Addr) (ZG:List Int),H l=none->ZG.Perm ns->ZG.Pairwise (·<=·)->Q (.ref l) (Zs H l (.lst (ZG.map V.int)))
theorem Fh{X:Cx}(hc:X.calm=true):dQ X (.builtin "sorted") Kb:=fun Zr s σ H xs us Q I r h=>by
 obtain⟨x,rfl,h1⟩:=g9 h;obtain⟨p,rfl,h2⟩:=aT h1;obtain⟨kvs,e,h3⟩:=c8 h2;obtain⟨ns,ek,acT,q⟩:=dE h3;obtain⟨u,rfl,ru⟩:=vals1 r;cases ru;obtain⟨hl,hk⟩:=zX ek;obtain⟨z,hd,vs0,rel,dd⟩:=sS I.Zw e;obtain⟨ep,dat⟩:=dd.dictAt;obtain⟨od,es,ho,_⟩:=id dat;obtain⟨m,hn,_⟩:=I.loc;have hne:p≠X.env.locals:=aJ e I.free;have l0:=rel.length;refine PySem.W.kdu_sorted (PySem.W.kdl_dict (knd:=bV X.prog X.w) (kvs:=vs0) (ep:=ep) hd) (I.ok.hd hc) (Att.Fz hn) (Att.oW hne ho) dat (by omega) fun D h' tk vs F N lt hlen hP=>?_;have hI:IntsAre vs ns:=Hs (by omega) fun j v ev=>by
  obtain⟨k,x,e1,e2⟩:=hP j v ev;have hj:j < kvs.length:=by
   have:=(List.getElem?_eq_some_iff.mp e1).1;omega
  obtain⟨⟨k',x'⟩,ekv⟩:∃ y,kvs[j]?=some y:=⟨_,List.getElem?_eq_getElem hj⟩;obtain⟨v',e3⟩:=KV.at rel ekv;rw[e1] at e3;cases e3;obtain⟨i,rfl,ei⟩:=hk j _ _ ekv;obtain⟨t,et⟩:=(show ∃ t,v=Value.int i t from tE e2);exact⟨i,t,ei,et⟩
 have hD:h'.get? D=some (seqObj "list" vs.toArray 0):=(N _ (List.Mem.head _)).1;have old:∀ b o,b≠X.env.locals->s.heap.get? b=some o->h'.get? b=some o/\b < D:=fun b o nb eb=>by
  by_cases hb:b=p
  ·subst hb;rw[ho] at eb;cases eb;exact⟨(N _ (List.Mem.tail _ (List.Mem.head _))).1,lt _ (List.Mem.head _)⟩
  ·have mem:=Att.mO (h:=s.heap) (L:=X.env.locals) (d:=p) |>.mpr ⟨nb,hb,eb⟩;exact⟨(N _ (List.Mem.tail _ (List.Mem.tail _ mem))).1,lt _ (List.Mem.tail _ mem)⟩
 have g:MeetsIn X.prog X.w (Builtin.«list.sort» ⟨[.ref D],[]⟩) (fun _ R s=>s.heap.get? D=some (seqObj "list" vs.toArray 0)/\∀(out:Array Value) (ZG:List Int),IntsAre out.toList ZG->ZG.Perm ns->ZG.Pairwise (·<=·)->R (.ok (.ret .none)) {s with heap:=sortedHeap s.heap D vs out}) :=
  fun A R s ⟨g1,g2⟩=>Dd g1 hI (acT.imp fun h=>Int.le_of_lt h) (by omega) fun out ZG a b c=>g2 out ZG a b c
 refine call_meetsIn PySem.F.slot_list_sort ⟨_,hD,rfl⟩ PySem.F.entry_list_sort (PySem.F.args_list_sort_1 _) g ⟨hD,fun out ZG hI' hp hs=>?_⟩;have hDL:D≠X.env.locals:=(N _ (List.Mem.head _)).2.1;have hDn:H D=none:=by
  cases z:H D with
  | none=>rfl
  | some o =>
   obtain⟨ob,eb⟩:=(I.Zw D o z).there;exact absurd (old D ob hDL eb).2 (Nat.lt_irrefl _)
 have new:∀ b o,b≠X.env.locals->s.heap.get? b=some o->(sortedHeap h' D vs out).get? b=some o:=fun b o nb eb=>by
  obtain⟨h1,h2⟩:=old b o nb eb;rw[sortedHeap_old (Nat.ne_of_lt h2) (Heap.lt_size h1)];exact h1
 obtain⟨e',hD'⟩:=sortedHeap_at (out:=out) hD;have hns:∀ m',s.heap.Ns X.env.locals m'->(sortedHeap h' D vs out).Ns X.env.locals m':=fun m' hm=>by
  have em:m'=m:=by
   obtain⟨o1,ZX,ep1,a1,b1,_,c1⟩:=hm;obtain⟨o2,es2,ep2,a2,b2,_,c2⟩:=hn;rw[a1] at a2;cases a2;rw[b1] at b2;cases b2;funext y;rw[<- c1,<- c2]
  subst em;obtain⟨o1,ZX,ep1,a1,r1⟩:=F.ns;exact⟨o1,ZX,ep1,by rw[sortedHeap_old hDL.symm (Heap.lt_size a1)];exact a1,r1⟩
 have nn:∀ {b:Addr} {o:HO},H b=some o->b≠D:=fun h z=>by subst z;rw[hDn] at h;cases h
 have nl:∀ {b:Addr} {o:HO},H b=some o->b≠X.env.locals:=fun h=>aJ h I.free;refine⟨.ref D,Zs H D (.lst (ZG.map V.int)),show Zt X Zr σ _ {s with heap:=sortedHeap h' D vs out,gens:=s.gens,drawn:=s.drawn,toks:=tk} from I.step (g':=s.gens) (d':=s.drawn) (t':=tk) (ch:=[]) (fun _ z=>nomatch z) (fun b o nb _ _ eb _=>new b o nb eb) (fun b o nb _ _ eb _=>⟨o.slots,new b o nb eb⟩) (fun b o _ eb hb=>?_) (fun b o _ eb=>?_)
  (fun b xs hb=>by rw[aG (nn hb)];exact hb) (fun b o u hb=>by rw[aG (nn hb)];exact hb) (fun b ps hb=>⟨#[],by rw[aG (nn hb),hb];simp⟩) hns (fun b o hb=>?_) I.bare,rfl,q D ZG hDn hp hs⟩
 ·by_cases hbD:b=D
  ·subst hbD;by_cases hbL:b=X.env.locals
   ·exact absurd hbL hDL
   ·exact absurd (old b o hbL eb).2 (Nat.lt_irrefl _)
  ·rw[aG hbD];exact hb
 ·by_cases hbL:b=X.env.locals
  ·subst hbL;obtain⟨o1,ZX,ep1,a1,r1⟩:=hns m hn;exact⟨o1,a1⟩
  ·exact⟨o,new b o hbL eb⟩
 ·by_cases hbD:b=D
  ·subst hbD;rw[aA] at hb;cases hb;exact⟨by rw[List.length_map,hp.length_eq];omega,out.toList,e',qG hI',hD'⟩
  ·rw[aG hbD] at hb;refine(I.Zw b o hb).tW (fun c v hc ev=>?_) (fun c hc=>by rw[aG (nn hc)];exact hc) fun c xs hc=>by rw[aG (nn hc)];exact hc
   rcases hc with hc|hc
   ·subst hc;exact new c v (nl hb) ev
   ·exact new c v (nl hc) ev
section
variable {H:Hp} {Q:VK} {p:Addr}
theorem Oq:Kb [.ref p] H Q=cH (H p) fun kvs=>dI (intKeys kvs) fun ns=>ns.Pairwise (· < ·)/\∀(l:Addr) (ZG:List Int),H l=none->ZG.Perm ns->ZG.Pairwise (·<=·)->Q (.ref l) (Zs H l (.lst (ZG.map V.int))):=rfl
end
noncomputable def U9(K:q0B):R2:=fun x y H Q=>eS y fun z=>(∃ u,x=.str u/\Q (.bl (decide (u=z))) H)\/∃ a xs,x=.ref a/\eJ K H a xs/\Q (.bl false) H
noncomputable def Vd(K:q0B):R2:=fun x y H Q=>aR y fun p=>∃ zs:List Str,eJ K H p (zs.map V.str)/\((∃ u,x=.str u/\Q (.bl (wZ (.str u) (zs.map V.str))) H)\/∃ a xs,x=.ref a/\eJ K H a xs/\Q (.bl false) H)
section
variable {X:Cx}
end
section
variable {fr:List Nat} {tc:TT} {te tl:TE} {σ:St} {H:Hp} {Q:VK} {K:q0B} {x:V} {z:Str} {p:Addr}
theorem RX:U9 K x (.str z) H Q=((∃ u,x=.str u/\Q (.bl (decide (u=z))) H)\/∃ a xs,x=.ref a/\eJ K H a xs/\Q (.bl false) H):=rfl
theorem Sk:Vd K x (.ref p) H Q = ∃ zs:List Str,eJ K H p (zs.map V.str)/\((∃ u,x=.str u/\Q (.bl (wZ (.str u) (zs.map V.str))) H)\/∃ a xs,x=.ref a/\eJ K H a xs/\Q (.bl false) H):=rfl
theorem Ku:v7 K (FH K tl) fr tc te σ H Q=tl σ H fun x H1=>aR x fun a=>(∃ xs,eJ K H1 a xs)/\lc2 K (Itt K a) fr tc te σ H1 Q:=by
 unfold v7 FH
 congr 1
 funext x H1;exact propext ⟨fun⟨a,e,h1,h⟩=>by subst e;exact⟨h1,h⟩,fun h=>by obtain⟨a,rfl,h1,h⟩:=aT h;exact⟨a,rfl,h1,h⟩⟩
end
section
variable {X:Cx} {K:q0B} {o e:Expr} {es:List Expr} {to:TE} {t:TA} {name:Str} {apos Zz:Pos} {T id:String} {r:V->List V->Hp->VK->Prop}
end
noncomputable def Q9:V->List V->Hp->VK->Prop:=fun x vs H Q=>eS x fun _=>on2 vs fun y i=>eS y fun _=>eR i fun _=>∀ k:Int,Q (.int k) H
noncomputable def Q6:V->List V->Hp->VK->Prop:=fun x vs H Q=>eS x fun z=>on1 vs fun y=>eS y fun p=>Q (.int (Txt.count z p)) H
section
variable {X:Cx}
end
section
variable {z y:Str} {i:Int} {H:Hp} {Q:VK}
theorem NM:Q9 (.str z) [.str y,.int i] H Q = ∀ k:Int,Q (.int k) H:=rfl
theorem ND:Q6 (.str z) [.str y] H Q=Q (.int (Txt.count z y)) H:=rfl
end
namespace RV
theorem norev:typeLookup (.type "tuple") "__reversed__"=pure none:=by rw[typeLookup_type,builtinLookup_eq_fast];kernel_rfl
theorem nodict:isSubtype (.type "tuple") (.type "dict")=pure false:=by rw[isSubtype_type];kernel_rfl
theorem gi:typeLookup (.type "tuple") "__getitem__"=pure (some (.builtin "tuple.__getitem__")):=by rw[typeLookup_type,builtinLookup_eq_fast];kernel_rfl
theorem nolen:typeLookup (.type "reversed") "__len__"=pure none:=by rw[typeLookup_type,builtinLookup_eq_fast];kernel_rfl
theorem hint:typeLookup (.type "reversed") "__length_hint__"=pure (some (.builtin "reversed.__length_hint__")):=by rw[typeLookup_type,builtinLookup_eq_fast];kernel_rfl
theorem EU:Slot "reversed" "__next__" "reversed.__next__":=.of (owner:="reversed") (n:="__next__") (by rw[typeLookup_type,builtinLookup_eq_fast];kernel_rfl) (by decide +kernel) (by decide +kernel) (by decide +kernel) (by first|exact .inl (by decide +kernel)|exact .inr (by decide +kernel)) (by rw[isSubtype_type];kernel_rfl)
theorem Qq:Slot "reversed" "__iter__" "reversed.__iter__":=.of (owner:="reversed") (n:="__iter__") (by rw[typeLookup_type,builtinLookup_eq_fast];kernel_rfl) (by decide +kernel) (by decide +kernel) (by decide +kernel) (by first|exact .inl (by decide +kernel)|exact .inr (by decide +kernel)) (by rw[isSubtype_type];kernel_rfl)
theorem WM:entryFor table "reversed.__next__"=some Builtin.«reversed.__next__»:=entryFor_of_tree (by kernel_rfl)
theorem Qp:Slot "reversed" "__length_hint__" "reversed.__length_hint__":=.of (owner:="reversed") (n:="__length_hint__") (by rw[typeLookup_type,builtinLookup_eq_fast];kernel_rfl) (by decide +kernel) (by decide +kernel) (by decide +kernel) (by first|exact .inl (by decide +kernel)|exact .inr (by decide +kernel)) (by rw[isSubtype_type];kernel_rfl)
theorem YM:entryFor table "reversed.__length_hint__"=some Builtin.«reversed.__length_hint__»:=entryFor_of_tree (by kernel_rfl)
theorem own:Manifest.owners.lookup (String.ofList ['d','e','s','r','e','v','e','r'].reverse)=some Manifest.sig_reversed:=by kernel_rfl
theorem U0(a:Value):argsOk "reversed.__next__" ⟨[a],[]⟩:=by
 unfold argsOk;rw[signature?_of (id:="reversed.__next__") (n:=['_','_','t','x','e','n','_','_']) (o:=['d','e','s','r','e','v','e','r']) (by kernel_rfl) own];kernel_rfl
theorem Yi(a:Value):argsOk "reversed.__length_hint__" ⟨[a],[]⟩:=by
 unfold argsOk;rw[signature?_of (id:="reversed.__length_hint__") (n:=['_','_','t','n','i','h','_','h','t','g','n','e','l','_','_']) (o:=['d','e','s','r','e','v','e','r']) (by kernel_rfl) own];kernel_rfl
theorem Yj(a:Value):argsOk "reversed.__iter__" ⟨[a],[]⟩:=by
 unfold argsOk;rw[signature?_of (id:="reversed.__iter__") (n:=['_','_','r','e','t','i','_','_']) (o:=['d','e','s','r','e','v','e','r']) (by kernel_rfl) own];kernel_rfl
theorem YN:entryFor table "reversed.__iter__"=some Builtin.«dict_keyiterator.__iter__» :=
 entryFor_alias (id':="dict_keyiterator.__iter__") (by kernel_rfl) (by first|rfl|decide +kernel|(unfold String.splitOn;simp +decide [String.splitOnAux])) (by decide +kernel) (by kernel_rfl)
theorem Xu:Slot "reversed" "__init__" "object.__init__":=.of (owner:="object") (n:="__init__") (by rw[typeLookup_type,builtinLookup_eq_fast];kernel_rfl) (by decide +kernel) (by decide +kernel) (by decide +kernel) (by first|exact .inl (by decide +kernel)|exact .inr (by decide +kernel)) (by rw[isSubtype_type];kernel_rfl)
theorem called:TypeCalled "reversed" "reversed.__new__" "object.__init__":=⟨by decide +kernel,by decide +kernel,⟨_,_,F.mro_reversed⟩,F.made_reversed,by decide +kernel,by rw[isSubtype_type];kernel_rfl,Xu⟩
noncomputable def obj(t:Addr)(i:Int):Obj:={cls:=.type "reversed",data:=.fields #[.ref t,rawInt i]}
noncomputable def Is(h:Heap)(a t:Addr)(i:Int):Prop:=∃ o,h.get? a=some o/\o.cls=.type "reversed"/\o.data=.fields #[.ref t,rawInt i]
section
variable {prog:Program} {w:World} {A:Around} {E:q0A} {s:Shared}
theorem Is.ty{a t:Addr}{i:Int}(x:Is s.heap a t i):s.TypeIs (.ref a) "reversed":=let ⟨o,ho,hc,_⟩:=x;⟨o,ho,hc⟩
theorem make{l:Addr}{items:Array Value}{Q₁:q0A}(hl:IsTup s.heap l items)(hf:(items.size:Int) < 2 ^ 63)
    (h:∀ tk,s.toks<=tk->Q₁ (.ref s.heap.objs.size) {s with heap:=s.heap.push (obj l ((items.size:Int) - 1)),toks:=tk}) :
    codeAny (model prog w) A (.call (.builtin "reversed.__new__") ⟨[.type "reversed",.ref l],[]⟩) (wants Q₁ E) s:=by
  refine codeAny_of_tree ?_;show wpAny _ A.in1 (do checkBuiltinCall "reversed.__new__" ⟨[.type "reversed",.ref l],[]⟩;again (.builtin "reversed.__new__" ⟨[.type "reversed",.ref l],[]⟩)) _ _ s;refine wpAny_bind (wpAny_of_eq (F.newCall_reversed_1 _) (wpAny_pure ⟨plainId_quiet F.plain_reversed_new _,codeAny_builtin F.entry_reversed_new ?_⟩));rw[Around.under_plainId F.plain_reversed_new _];unfold Builtin.«reversed.__new__»;refine wpAny_bind (wpAny_of_eq (newClass_reversed _) ?_)
  try dsimp only
  refine wpAny_bind (wpAny_of_eq (a:=()) (by first|rfl|kernel_rfl) ?_)
  refine wpAny_bind (wpAny_of_eq (a:=()) (by first|rfl|kernel_rfl) ?_)
  try dsimp only
  refine wpAny_bind (wpAny_specialOf hl.typeIs norev ?_)
  try dsimp only
  refine wpAny_bind ?_;show wpAny _ _ (isInstance (.ref l) (.type "dict") >>= fun b=>_) _ _ _;refine wpAny_bind (wpAny_isInstance (b:=false) hl.typeIs nodict ?_);show wpAny _ _ (specialOf (.ref l) "__getitem__" >>= fun b=>_) _ _ _;refine wpAny_bind (wpAny_specialOf hl.typeIs gi ?_);show wpAny _ _ (if (["tuple.__getitem__","str.__getitem__","bytes.__getitem__","bytearray.__getitem__","memoryview.__getitem__","numpy.ndarray.__getitem__","sqlite3.Row.__getitem__"].contains "tuple.__getitem__")=true then pure true else _) _ _ _;rw[if_pos (by decide +kernel)];refine wpAny_pure ?_;show wpAny _ _ (call (Value.builtin "len") [Value.ref l] >>= fun b=>_) _ _ _;refine wpAny_bind (len_tuple hl hf ?_);show wpAny _ _ (pure (some ((items.size:Nat):Int)) >>= fun b=>_) _ _ _;refine wpAny_bind (wpAny_pure ?_);show wpAny _ _ (newObj (.type "reversed") (.fields #[.ref l,rawInt ((items.size:Int) - 1)]) >>= fun b=>_) _ _ _;refine wpAny_bind (wpAny_newObj_type ?_ (by size_fits));exact wpAny_pure (h _ (by show s.toks<=s.toks+1+1;omega))
theorem call{l:Addr}{items:Array Value}{Q:q0A}(hl:IsTup s.heap l items)(hf:(items.size:Int) < 2 ^ 63)
    (h:∀ tk,s.toks<=tk->Q (.ref s.heap.objs.size) {s with heap:=s.heap.push (obj l ((items.size:Int) - 1)),toks:=tk}):wpAny (model prog w) A (PySem.call (.type "reversed") [.ref l]) Q E s:=by
  refine callType_codes (Q₁:=fun ob s₁=>s₁.TypeIs ob "reversed"/\Q ob s₁) called (F.typeCall_reversed_1 _) F.entry_object_init (make hl hf fun tk ht=>⟨⟨_,Heap.get?_push_size _ rfl,rfl⟩,h tk ht⟩) fun ob s₁ h₁=>?_;exact⟨h₁.1,F.args_object_init_2 ob _,object_init_meets called.init.lookup called.made (by decide) prog w A.in1 _ s₁ ⟨h₁.1,rfl,h₁.2⟩⟩
theorem item{it l:Addr}{i:Nat}{items:Array Value}{x:Value}{Q:Option Value->Shared->Prop}(hit:Is s.heap it l (i:Int))(hl:IsTup s.heap l items)(hx:items[i]?=some x)(hf:(items.size:Int) < 2 ^ 63)
    (hQ:∀ h' tk,s.toks<=tk->Is h' it l ((i:Int) - 1)->Heap.SameBut it s.heap h'->Q (some x) {s with heap:=h',toks:=tk}):wpAny (model prog w) A (pyNext (.ref it)) Q E s:=by
  obtain⟨o,ho,hc,hd⟩:=id hit;have Z5:i < items.size:=(Array.getElem?_eq_some_iff.mp hx).1;unfold pyNext;refine wpAny_bind (wpAny_attempt (wpAny_callSpecial?_slot (name:=Str.ofString "__next__") hit.ty EU (wpAny_call_entry EU hit.ty WM ?_ (U0 _))));unfold Builtin.«reversed.__next__»;refine wpAny_bind (wpAny_of_eq (a:=(Value.ref it,[])) rfl ?_)
  try dsimp only
  refine wpAny_bind (wpAny_field ho hd (x:=.ref l) rfl ?_);refine wpAny_bind (wpAny_field ho hd (x:=rawInt (i:Int)) rfl ?_);show wpAny _ _ (if (i:Int) < 0 then _ else _) _ _ s;rw[if_neg (by omega)];show wpAny _ _ (specialOf (.ref l) "__getitem__" >>= fun b=>_) _ _ _;refine wpAny_bind (wpAny_specialOf hl.typeIs gi ?_);rw[if_neg (by simp)];refine wpAny_bind (wpAny_mkInt ?_);refine wpAny_bind (wpAny_attempt (getItem_tuple (s:={s with toks:=s.toks+1}) hl (by exact Int.le_trans (by decide) (Int.natCast_nonneg i)) (by exact Int.lt_trans (Int.ofNat_lt.mpr Z5) hf) (j:=i) ?_ hx ?_))
  · unfold seqIndex?;have e:(if (i:Int) < 0 then (i:Int)+items.size else i)=i:=if_neg (by omega);simp only[e];rw[if_pos (by simp;omega)];rfl
  · show wpAny _ _ (field (.ref it) 1 >>= fun b=>_) _ _ _;refine wpAny_bind (wpAny_field ho hd (x:=rawInt (i:Int)) rfl ?_);show wpAny _ _ (setField (.ref it) 1 (rawInt ((i:Int) - 1)) >>= fun b=>_) _ _ _;refine wpAny_bind (wpAny_setField ho hd (by simp) ?_);refine wpAny_pure ⟨x,rfl,wpAny_pure (hQ _ _ (by show s.toks<=s.toks+1;omega) ?_ (Heap.SameBut.update ..))⟩;exact⟨_,Heap.get?_update_self _ ho (Obj.isFreed_of_fields (Obj.data_mapFields hd _)),(Obj.cls_mapFields ..).trans hc,by rw[Obj.data_mapFields hd];simp⟩
theorem over{it l:Addr}{Q:Option Value->Shared->Prop}(hh:A.handled=none)(hit:Is s.heap it l (-1))(hQ:∀ h',Heap.ExtBut it s.heap h'->Q none {s with heap:=h'}):wpAny (model prog w) A (pyNext (.ref it)) Q E s:=by
 obtain⟨o,ho,hc,hd⟩:=id hit;unfold pyNext;refine wpAny_bind (wpAny_attempt (wpAny_callSpecial?_slot (name:=Str.ofString "__next__") hit.ty EU (wpAny_call_entry EU hit.ty WM ?_ (U0 _))));unfold Builtin.«reversed.__next__»;refine wpAny_bind (wpAny_of_eq (a:=(Value.ref it,[])) rfl ?_)
 try dsimp only
 refine wpAny_bind (wpAny_field ho hd (x:=.ref l) rfl ?_);refine wpAny_bind (wpAny_field ho hd (x:=rawInt (-1)) rfl ?_);show wpAny _ _ (if (-1:Int) < 0 then _ else _) _ _ s;rw[if_pos (by decide)];refine wpAny_bind (wpAny_rule ?_);refine wpAny_bind ?_;show wpAny _ _ (setField (.ref it) 1 (rawInt (-1)) >>= fun b=>_) _ _ _;refine wpAny_bind (wpAny_setField ho hd (by simp) ?_);refine wpAny_setField (Heap.get?_update_self _ ho (Obj.isFreed_of_fields (Obj.data_mapFields hd _))) (Obj.data_mapFields hd _) (by simp) ?_;refine wpAny_bind ?_;show wpAny _ _ (newExc (.type "StopIteration") [] >>= fun b=>_) _ _ _;refine wpAny_bind ?_;simp only[newExc,newTuple];refine wpAny_bind (wpAny_newObj_type ?_ (by size_fits));refine wpAny_bind (m:=firstArgMember _ _) (wpAny_of_eq (a:=Value.none) (by first|rfl|(simp only[firstArgMember];rfl)) ?_)
 refine wpAny_newObj_type ?_ (by size_fits);simp only[raiseNew];refine wpAny_bind (wpAny_handled ?_)
 first|rw[show A.in1.handled=none from hh]|rw[hh]
 refine wpAny_bind (wpAny_pure (wpAny_throw ?_));refine wpAny_bind (wpAny_isInstance (T:="StopIteration") (b:=true) ⟨_,Heap.get?_push_size _ rfl,rfl⟩ isSubtype_stop ?_);refine wpAny_pure (hQ _ ?_);exact((((Heap.SameBut.update ..).extBut).trans (Heap.SameBut.update ..).extBut).push _).push _
theorem self{it l:Addr}{i:Int}{Q:q0A}(hit:Is s.heap it l i)(h:Q (.ref it) s):wpAny (model prog w) A (pyIter (.ref it)) Q E s:=by
 refine wpAny_pyIter_slot hit.ty Qq (wpAny_call_entry Qq hit.ty YN ?_ (Yj _));show wpAny _ _ (ret (.ref it)) _ _ s;exact wpAny_pure ⟨_,rfl,"reversed",_,hit.ty,EU.lookup,h⟩
theorem room{I l:Addr}{items:Array Value}{Q:Bool->Shared->Prop}(hit:Is s.heap I l ((items.size:Int) - 1))(hl:IsTup s.heap l items)(h0:0 < items.size)(hf:items.size<=1000)
    (hQ:∀ tk,s.toks<=tk->Q true {s with toks:=tk}):wpAny (model prog w) A (Builtin.List.listLengthHint (.ref I)) Q E s:=by
  obtain⟨o,ho,hc,hd⟩:=id hit;unfold Builtin.List.listLengthHint;refine wpAny_bind (wpAny_specialOf hit.ty nolen ?_);show wpAny _ _ (specialOf (Value.ref I) (Str.ofString "__length_hint__") >>= _) _ _ _;refine wpAny_bind (wpAny_specialOf hit.ty hint ?_);generalize hid:("reversed.__length_hint__":String)=id0
  (fail_if_success (clear hid id0))
  wp_delta
  rw[show splitId id0=some ("reversed","__length_hint__") from by subst hid;decide +kernel];subst hid;refine wpAny_bind (wpAny_isInstance (b:=true) hit.ty (by rw[isSubtype_type];kernel_rfl) ?_);rw[if_neg (by decide)];show wpAny (model prog w) A (ite _ _ _) Q E s;rw[if_neg (by decide +kernel)];refine wpAny_bind (wpAny_rule ?_);refine wpAny_bind (wpAny_of_eq (Qp.bind _) ?_)
  try dsimp only
  refine wpAny_bind (wpAny_attempt (wpAny_call_entry Qp hit.ty YM ?_ (Yi _)));unfold Builtin.«reversed.__length_hint__»;refine wpAny_bind (wpAny_of_eq (a:=Value.ref I) rfl ?_);refine wpAny_bind (wpAny_field ho hd (x:=.ref l) rfl ?_);rw[if_neg (show ¬ ((Value.ref l==Value.none)=true) from by simp)];refine wpAny_bind (len_tuple hl (by omega) ?_);show wpAny _ _ (pure (some ((items.size:Nat):Int)) >>= fun b=>_) _ _ _;refine wpAny_bind (wpAny_pure ?_);show wpAny _ _ (field (.ref I) 1 >>= fun b=>_) _ _ _;refine wpAny_bind (wpAny_field ho hd (x:=rawInt ((items.size:Int) - 1)) rfl ?_);show wpAny _ _ (if ((items.size:Nat):Int) < ((items.size:Int) - 1)+1 then _ else retInt (((items.size:Int) - 1)+1)) _ _ _;rw[if_neg (by omega)];refine wpAny_bind (wpAny_mkInt (wpAny_pure ⟨_,rfl,?_⟩));show wpAny _ _ (pure (some ((items.size:Int) - 1+1)) >>= fun b=>_) _ _ _;refine wpAny_bind (wpAny_pure ?_);have z1:sizeLine > 1000:=by decide
  have n1:Builtin.List.listFitsIndex ((items.size:Int) - 1+1)=true:=by
    unfold Builtin.List.listFitsIndex;simp only[Bool.and_eq_true,decide_eq_true_eq];omega
  have n2:¬ Builtin.List.listTooLong ((items.size:Int) - 1+1).toNat=true:=by
    unfold Builtin.List.listTooLong;simp only[decide_eq_true_eq];omega
  show wpAny _ _ (ite ((!Builtin.List.listFitsIndex ((items.size:Int) - 1+1))=true) _ (ite ((items.size:Int) - 1+1 < 0) _ (ite (Builtin.List.listTooLong ((items.size:Int) - 1+1).toNat=true) _ (pure ((items.size:Int) - 1+1 !=0))))) _ _ _;rw[if_neg (by rw[n1];simp),if_neg (by omega),if_neg n2,show((items.size:Int) - 1+1 !=0)=true from bne_iff_ne.mpr (by omega)];exact wpAny_pure (hQ _ (by show s.toks<=s.toks+1+1+1;omega))
theorem walks(hh:A.handled=none)(I l:Addr)(hne:l≠I)(items:Array Value)(hf:(items.size:Int) < 2 ^ 63) :
    Walks prog w A I [I,l] [I] items.size (fun i v=>items[items.size - 1 - i]?=some v) (fun i h=>i<=items.size/\Is h I l ((items.size:Int) - 1 - (i:Int))/\IsTup h l items) where
  sub:=fun b hb=>by simp at hb;simp[hb]
  frame:=fun _ _ _ x hk=>⟨x.1,let ⟨o,ho,r⟩:=x.2.1;⟨o,hk I (by simp) o ho,r⟩,let ⟨o,ho,r⟩:=x.2.2;⟨o,hk l (by simp) o ho,r⟩⟩
  item:=fun i s Q E hi x hQ=>by
    have hit:=x.2.1;rw[show(items.size:Int) - 1 - (i:Int)=((items.size - 1 - i:Nat):Int) by omega] at hit;have hx:items[items.size - 1 - i]?=some (items[items.size - 1 - i]'(by omega)):=Array.getElem?_eq_getElem (by omega);refine RV.item hit x.2.2 hx hf fun h' tk _ ab7 hs'=>?_;rw[show((items.size - 1 - i:Nat):Int) - 1=(items.size:Int) - 1 - ((i+1:Nat):Int) by omega] at ab7;exact hQ _ h' tk hx ⟨hi,ab7,let ⟨o,ho,r⟩:=x.2.2;⟨o,(hs'.2 l hne).trans ho,r⟩⟩ fun b o hb eo=>hs'.extBut b o (fun h=>hb (by simp[h])) eo
  done:=fun s Q E x hQ=>by
    have hit:=x.2.1;rw[show(items.size:Int) - 1 - (items.size:Int) = -1 by omega] at hit;exact RV.over hh hit fun h' he'=>hQ h' s.toks fun b o hb eo=>he' b o (fun h=>hb (by simp[h])) eo
  self:=fun _ _ _ _ x hQ=>RV.self x.2.1 hQ
end
section
variable {prog:Program} {w:World} {A:Around} {E:q0A} {s:Shared} {I:Addr} {fp wr:List Addr} {G:Array GenState->Array GenState->Prop} {n:Nat} {P:Nat->Value->Prop} {St:Nat->Shared->Prop}
theorem gather{Q:List Value->Shared->Prop}(hR:∀(s:Shared) (Q:Bool->Shared->Prop) (E:q0A),St 0 s->(∀ tk,s.toks<=tk->Q true {s with toks:=tk})->wpAny (model prog w) A.in1 (Builtin.List.listLengthHint (.ref I)) Q E s)(W:WalksS prog w A.in1 I fp wr G n P St)(hT:∀ i s,St i s->s.TypeIs (.ref I) "reversed")(Z1:St 0 s)(hfp:∀ b∈fp,b < s.heap.objs.size)(hI:I∈fp)
    (hQ:∀ s' acc,Moved wr G s s'->ItemsOf P acc n->Q acc.toList s') (hn:n<=sizeLine):wpAny (model prog w) A (collect (.ref I)) Q E s:=by
  have hSf:s.heap.objs.size∉fp:=fun hm=>Nat.lt_irrefl _ (hfp _ hm);have hSI:s.heap.objs.size≠I:=fun e=>hSf (e▸hI);unfold collect;refine wpAny_bind (wpAny_runValue (codeAny_builtin F.entry_proto_collect ?_));rw[Around.under_plainId F.plain_proto_collect _];show wpAny _ A.in1 (newList [] >>= fun l=>again (.builtin "list.__iadd__" ⟨[l,.ref I],[]⟩)) _ _ s;refine wpAny_bind (wpAny_newObj_type ?_);refine wpAny_pure ⟨plainId_quiet F.plain_list_iadd _,codeAny_builtin F.entry_list_iadd ?_⟩;rw[Around.under_plainId F.plain_list_iadd _];have aa7:=W.frame 0 s (s.heap.push {cls:=.type "list",data:=.seq ([]:List Value).toArray}) s.toks Z1 (Nat.le_refl _) fun b _ o e=>Heap.get?_push_of_some _ e;have hS₁:(s.heap.push {cls:=.type "list",data:=.seq ([]:List Value).toArray}).get? s.heap.objs.size=some {cls:=.type "list",data:=.seq ([]:List Value).toArray}:=Heap.get?_push_size _ rfl;have h1:Builtin.List.listSameRef (.ref s.heap.objs.size) (.ref I)=false:=by simp[Builtin.List.listSameRef,hSI]
  show wpAny _ A.in1 (Builtin.List.listExtendWith (.ref s.heap.objs.size) (.ref I) (.ref s.heap.objs.size)) _ _ _;unfold Builtin.List.listExtendWith;refine wpAny_bind (wpAny_typeOf (hT 0 _ aa7) ?_);rw[if_neg (by rw[h1];decide)];refine wpAny_bind (W.self 0 _ _ _ aa7 ?_);refine wpAny_bind (wpAny_holding ?_);refine hR _ _ _ aa7 fun tk ht=>?_;have ac1:=W.frame 0 _ _ tk aa7 ht fun b _ o e=>e;show wpAny _ A.in1 (rule "list.extend.makes-room" >>= fun _=>Builtin.List.listTouch (.ref s.heap.objs.size) >>= fun _=>again (.builtin "list.extend.loop" ⟨[.ref s.heap.objs.size,.ref I,.ref s.heap.objs.size],[]⟩)) _ _ _;refine wpAny_bind (wpAny_rule ?_);refine wpAny_bind ?_;show wpAny _ A.in1 (updateSeq s.heap.objs.size (·.push .none) >>= fun _=>updateSeq s.heap.objs.size (·.pop)) _ _ _;refine wpAny_bind (wpAny_updateSeq hS₁ rfl ?_);have hS₂:=Heap.get?_update_self (Obj.mapSeq (·.push Value.none)) hS₁ rfl;refine wpAny_updateSeq hS₂ rfl ?_;have hS₃:=Heap.get?_update_self (Obj.mapSeq (·.pop)) hS₂ rfl;have oth:∀ b o,b≠s.heap.objs.size->(s.heap.push {cls:=.type "list",data:=.seq ([]:List Value).toArray}).get? b=some o->(((s.heap.push {cls:=.type "list",data:=.seq ([]:List Value).toArray}).update s.heap.objs.size (Obj.mapSeq (·.push Value.none))).update s.heap.objs.size (Obj.mapSeq (·.pop))).get? b=some o :=
    fun b o hb e=>(Heap.get?_update_other _ _ (Ne.symm hb)).trans ((Heap.get?_update_other _ _ (Ne.symm hb)).trans e)
  refine wpAny_pure ⟨plainId_quiet F.plain_extend_loop _,codeAny_extend_loopS W hn _ hSf _ n 0 _ _ _ rfl (Nat.zero_le _) (W.frame 0 ({s with heap:=s.heap.push {cls:=.type "list",data:=.seq ([]:List Value).toArray},toks:=tk}:Shared) _ tk ac1 (Nat.le_refl _) fun b hb o e=>oth b o (fun h=>hSf (h▸hb)) e) hS₃ (ItemsOf.nil P) fun s' acP c' hm hS' aaA=>?_⟩;show wpAny _ A (load s.heap.objs.size >>= _) _ _ s';refine wpAny_bind (wpAny_load hS' ?_);refine wpAny_pure (hQ s' acP ?_ aaA);refine Moved.drop_new (o:={cls:=.type "list",data:=.seq ([]:List Value).toArray}) (tk:=s.toks) (Moved.trans W.gtrans ?_ hm) (Nat.le_refl _);exact⟨fun b o hb e=>oth b o (fun h=>hb (by simp[h])) e,W.grefl _,rfl,rfl,ht⟩
theorem tnew{Q₁:q0A}(hR:∀(s:Shared) (Q:Bool->Shared->Prop) (E:q0A),St 0 s->(∀ tk,s.toks<=tk->Q true {s with toks:=tk})->wpAny (model prog w) A.in1.in1 (Builtin.List.listLengthHint (.ref I)) Q E s)(W:WalksS prog w A.in1.in1 I fp wr G n P St)(hT:∀ i s,St i s->s.TypeIs (.ref I) "reversed")(Z1:St 0 s)(hfp:∀ b∈fp,b < s.heap.objs.size)(hI:I∈fp)
    (h:∀ s' acc,Moved wr G s s'->ItemsOf P acc n->Q₁ (.ref s'.heap.objs.size) {s' with heap:=s'.heap.push {cls:=.type "tuple",data:=.seq acc}}) (hsz:n<=sizeLine) :
    codeAny (model prog w) A (.call (.builtin "tuple.__new__") ⟨[.type "tuple",.ref I],[]⟩) (wants Q₁ E) s:=by
  refine codeAny_of_tree ?_;show wpAny _ A.in1 (do checkBuiltinCall "tuple.__new__" ⟨[.type "tuple",.ref I],[]⟩;again (.builtin "tuple.__new__" ⟨[.type "tuple",.ref I],[]⟩)) _ _ s;refine wpAny_bind (wpAny_of_eq (F.newCall_tuple_1 _) (wpAny_pure ⟨plainId_quiet F.plain_tuple_new _,codeAny_builtin F.entry_tuple_new ?_⟩));rw[Around.under_plainId F.plain_tuple_new _];have aa3:=sub_tuple_self;have ab6:=init_tuple_lookup;have hmh:=madeHere_tuple;have hTI:=hT 0 s Z1;wp_walk using wpAny_typeOf hTI,gather hR W hT Z1 hfp hI (hn:=hsz);intro s' acc hm aaA;show wpAny _ _ (Builtin.Tuple.tupleExact acc.toList.toArray >>= fun v=>ret v) _ _ _;unfold Builtin.Tuple.tupleExact;refine wpAny_bind (wpAny_newObj_type ?_ (by show acc.toList.toArray.size<=sizeLine;simp only[Array.toArray_toList];rw[aaA.1];exact hsz));refine wpAny_pure ?_;have e:acc.toList.toArray=acc:=by simp
  rw[e];exact h s' acc hm aaA
theorem tcall{Q:q0A}(hR:∀(s:Shared) (Q:Bool->Shared->Prop) (E:q0A),St 0 s->(∀ tk,s.toks<=tk->Q true {s with toks:=tk})->wpAny (model prog w) A.in1.in1.in1 (Builtin.List.listLengthHint (.ref I)) Q E s)(W:WalksS prog w A.in1.in1.in1 I fp wr G n P St)(hT:∀ i s,St i s->s.TypeIs (.ref I) "reversed")(Z1:St 0 s)(hfp:∀ b∈fp,b < s.heap.objs.size)(hI:I∈fp)
    (hQ:∀ s' acc,Moved wr G s s'->ItemsOf P acc n->Q (.ref s'.heap.objs.size) {s' with heap:=s'.heap.push {cls:=.type "tuple",data:=.seq acc}}) (hsz:n<=sizeLine) :
    wpAny (model prog w) A (PySem.call (.type "tuple") [.ref I]) Q E s:=by
  refine callType_codes (Q₁:=fun obj s₁=>s₁.TypeIs obj "tuple"/\Q obj s₁) F.called_tuple (F.typeCall_tuple_1 _) F.entry_object_init (tnew hR W hT Z1 hfp hI (fun s' acc hm aaA=>⟨⟨_,Heap.get?_push_size _ rfl,rfl⟩,hQ s' acc hm aaA⟩) hsz) fun obj s₁ h₁=>?_;exact⟨h₁.1,F.args_object_init_2 obj _,object_init_meets F.called_tuple.init.lookup F.called_tuple.made (by decide) prog w A.in1 _ s₁ ⟨h₁.1,rfl,h₁.2⟩⟩
end
end RV
noncomputable def HW(K:q0B)(ta:TA):TE:=fun σ H Q=>ta σ H fun vs H1=>∃ a xs,vs=[.ref a]/\eJ K H1 a xs/\1<=xs.length/\xs.length<=1000/\∀ q,H1 q=none->Q (.ref q) (Zs H1 q (.tup xs.reverse))
theorem Jk{X:Cx}{e:Expr}{ta:TA}{p pos p2 acK:Pos}(hc:X.calm=true)(hgT:Gl X "tuple")(hmT:X.mg "tuple"=none)(hg:Gl X "reversed")(hm:X.mg "reversed"=none)(ha:PA X [e] ta)(hs:starEach [e] X.env=[(false,eval e X.env)]:=by rfl)
    (hs2:starEach [.Call (.Name "reversed" p) [e] [] pos] X.env=[(false,eval (.Call (.Name "reversed" p) [e] [] pos) X.env)]:=by rfl):PE X (.Call (.Name "tuple" p2) [.Call (.Name "reversed" p) [e] [] pos] [] acK) (HW X.K ta):=by
  intro Zr s σ H Q I h;refine wpAny_Call_Name_kw (rJ I hgT hmT eP ?_ (by decide) (by decide));refine PyProof.Rows.callWith_type1 ?_ hs2 rfl;rw[hs2];show wpAny _ _ (spliced ((false,eval (.Call (.Name "reversed" p) [e] [] pos) X.env)::backTo acK [])) _ _ s;refine Calls.spliced_cons ?_;refine wpAny_Call_Name_kw (rJ I hg hm DT ?_ (by decide) (by decide));refine PyProof.Rows.callWith_type1 (thn (ha pos Zr s σ H _ I h) fun us s1 ⟨vs,H1,I1,r1,q1⟩=>?_) hs rfl;obtain⟨a,xs,rfl,hq,h1,h2,q⟩:=q1;obtain⟨u,rfl,ru⟩:=r1.one;cases ru;obtain⟨Zv,rv,pt,hz⟩:=I1.tuple hq;have hl:=rv.length;have hsz:Zv.toArray.size=Zv.length:=by simp
  refine RV.call pt (by rw[hsz];omega) fun tk ht=>?_;refine Calls.spliced_nil ?_;have I2:Zt X Zr σ H1 {s1 with heap:=s1.heap.push (RV.obj a ((Zv.toArray.size:Int) - 1)),toks:=tk}:=I1.kept (t':=tk) fun b o e=>Heap.get?_push_of_some _ e;have hI:RV.Is (s1.heap.push (RV.obj a ((Zv.toArray.size:Int) - 1))) s1.heap.objs.size a ((Zv.toArray.size:Int) - 1):=⟨_,Heap.get?_push_size _ rfl,rfl,rfl⟩;have pt2:IsTup (s1.heap.push (RV.obj a ((Zv.toArray.size:Int) - 1))) a Zv.toArray:=let ⟨o,ho,r⟩:=pt;⟨o,Heap.get?_push_of_some _ ho,r⟩;have Z5:a < s1.heap.objs.size:=let ⟨o,ho,_⟩:=pt;Heap.lt_size ho;have ac2:(s1.heap.push (RV.obj a ((Zv.toArray.size:Int) - 1))).objs.size=s1.heap.objs.size+1:=by simp[Heap.push]
  refine RV.tcall (fun s Q E st hq=>RV.room (by simpa using st.2.1) st.2.2 (by rw[hsz];omega) (by rw[hsz];omega) hq) (RV.walks (A:=X.A.in1.in1.in1) (I.ok.hd hc) s1.heap.objs.size a (Nat.ne_of_lt Z5) Zv.toArray (by rw[hsz];omega)).toS (fun i s st=>st.2.1.ty) ⟨Nat.zero_le _,by simpa using hI,pt2⟩ (fun b hb=>?_) (by simp) (fun s' acc hm aaA=>?_) (by rw[hsz,sizeLine_eq];omega)
  · show b < (s1.heap.push (RV.obj a ((Zv.toArray.size:Int) - 1))).objs.size;rw[ac2];simp only[List.mem_cons,List.not_mem_nil,or_false] at hb;rcases hb with rfl|rfl
    · exact Nat.lt_succ_self _
    · exact Nat.lt_succ_of_lt Z5
  · have ea:acc=Zv.reverse.toArray:=by
      apply Array.ext_getElem?;intro j;by_cases hj:j < Zv.length
      · obtain⟨v,hv⟩:∃ v,acc[j]?=some v:=⟨_,Array.getElem?_eq_getElem (by rw[aaA.1,hsz];exact hj)⟩;have:=aaA.2 j v hv;rw[hv,<- this];simp only[List.size_toArray,List.getElem?_toArray];rw[List.getElem?_reverse hj]
      · rw[Array.getElem?_eq_none (by rw[aaA.1,hsz];omega),Array.getElem?_eq_none (by simp;omega)]
    subst ea;have I3:Zt X Zr σ H1 s':=by
      obtain⟨h',g',d',tk',os'⟩:=s';obtain⟨m1,m2,m3,m4,m5⟩:=hm;have e2:g'=s1.gens:=m2;have e3:d'=s1.drawn:=m3;have e4:os'=s1.os:=m4;subst e2 e3 e4;exact Zt.HY (s:={s1 with heap:=s1.heap.push (RV.obj a ((Zv.toArray.size:Int) - 1)),toks:=tk}) I2 (t':=tk') (ch:=[s1.heap.objs.size]) (fun b hb=>by rw[show b=s1.heap.objs.size by simpa using hb];exact I1.Fy (Nat.le_refl _) (I1.Zw.fresh (Nat.le_refl _))) m1
    have I4:=I3.laid (t':=s'.toks) (fun b o e=>Heap.get?_push_of_some _ e) (Nat.le_refl _) (show dH X.prog X.w _ (s'.heap.push {cls:=.type "tuple",data:=.seq Zv.reverse.toArray}) s'.heap.objs.size (.tup xs.reverse) from ⟨by rw[List.length_reverse];exact hz,Zv.reverse,rv.reverse,IsTup.new _ _⟩);exact⟨.ref _,_,I4,rfl,q _ (I3.Zw.fresh (Nat.le_refl _))⟩
theorem Lj{K:q0B}{ta:TA}{σ:St}{H:Hp}{Q:VK}:HW K ta σ H Q=ta σ H fun vs H1=>∃ a xs,vs=[.ref a]/\eJ K H1 a xs/\1<=xs.length/\xs.length<=1000/\∀ q,H1 q=none->Q (.ref q) (Zs H1 q (.tup xs.reverse)):=rfl
noncomputable def WV(c:Int)(ta:TA):TI:=fun σ H R=>ta σ H fun vs H1=>∃ lo hi:Int,vs=[.int lo,.int hi,.int c]/\(0<=lo/\lo<=1000)/\(0<=hi/\hi<=1000)/\R (Itg lo c (if lo < hi then ((hi - lo - 1) / c+1).toNat else 0)) H1
section
variable {X:Cx} {tg:Expr}
theorem NS{c:Int}{as:TA}{g:TG}{tb:TS}{D:Ends}{σ:St}{H:Hp}:r8 (WV c as) g tb D σ H=as σ H fun vs H1=>∃ lo hi:Int,vs=[.int lo,.int hi,.int c]/\(0<=lo/\lo<=1000)/\(0<=hi/\hi<=1000)/\lp (Itg lo c (if lo < hi then ((hi - lo - 1) / c+1).toNat else 0)) g tb D σ H1:=rfl
end
end L2
namespace HT
open PySem PyProof.Rows
section
variable {prog:Program} {w:World} {A:Around} {E:q0A} {s:Shared}
theorem qI{t sl:Addr}{items:Array Value}{vl vu:Value}{lo hi:Option Int}{Q:q0A}(ht:IsTup s.heap t items)(hs:s.heap.IsSliceOf sl vl vu .none)(pl:IsPart vl lo)(pu:IsPart vu hi)
    (hw:fM items.size 0 lo=0/\fM items.size items.size hi=items.size) (h:Q (.ref t) s):wpAny (model prog w) A (getItem (.ref t) (.ref sl)) Q E s:=by
  obtain⟨os,hos,hcs,hds⟩:=id hs;have hTs:s.TypeIs (.ref sl) "slice":=⟨os,hos,hcs⟩;unfold getItem
  try with_reducible refine wpAny_holding ?_
  first|refine wpAny_bind (wpAny_pure ?_)|skip
  refine wpAny_bind (wpAny_sequenceKey ht.typeIs (by decide) ?_);refine wpAny_bind (wpAny_callSpecial?_slot (name:=Str.ofString "__getitem__") ht.typeIs PyProof.Rows.slot_tuple_getitem (wpAny_call_entry PyProof.Rows.slot_tuple_getitem ht.typeIs entry_tuple_getitem ?_ (args_tuple_getitem _ _)));show wpAny _ _ (Builtin.Tuple.tupleItemsOf (.ref t) >>= _) _ _ s;refine wpAny_bind (tupleItemsOf_ ht ?_);refine wpAny_bind (wpAny_typeOf hTs ?_);rw[if_pos (by decide)];refine wpAny_bind (l7 hs pl pu ?_);show wpAny _ _ (if (((fM items.size 0 lo:Nat):Int)==0&&(1:Int)==1&&(fM items.size items.size hi - fM items.size 0 lo)==items.size)=true then _ else _) _ _ s;rw[if_pos (by rw[hw.1,hw.2];simp)];refine wpAny_bind ?_;show wpAny _ _ (typeOf (.ref t) >>= fun b=>_) _ _ _;refine wpAny_bind (wpAny_typeOf ht.typeIs ?_);refine wpAny_pure ?_;rw[if_pos (by decide)];refine wpAny_bind (wpAny_rule ?_);exact wpAny_pure ⟨_,rfl,wpAny_pure h⟩
end
end HT
namespace L2
open PySem PySem.Spec PyProof.Rows
noncomputable def Vr:V->Option Int->Option Int->Hp->VK->Prop:=fun x lo hi H Q=>aR x fun a=>gU (H a) fun xs =>
 ((HT.fM xs.length 0 lo=0/\HT.fM xs.length xs.length hi=xs.length)->Q (.ref a) H)/\(¬ (HT.fM xs.length 0 lo=0/\HT.fM xs.length xs.length hi=xs.length)->∀ p,H p=none->Q (.ref p) (Zs H p (.tup (iF xs lo hi))))
theorem jM{X:Cx}:MV X Vr:=by
 intro Zr s σ H x v vl vu lo hi sl Q I rx hs pl pu h;obtain⟨a,rfl,h1⟩:=aT h;obtain⟨xs,ea,q1,q2⟩:=Ax h1;by_cases hw:HT.fM xs.length 0 lo=0/\HT.fM xs.length xs.length hi=xs.length
 ·cases rx;obtain⟨Zv,r,ht,hz⟩:=I.tuple (eJ.of ea);have hlen:Zv.toArray.size=xs.length:=by rw[List.size_toArray];exact r.length.symm
  exact⟨"tuple",_,PyProof.Rows.slot_tuple_getitem.lookup,ht.typeIs,HT.qI ht hs pl pu (by rw[hlen];exact hw) ⟨.ref a,H,I,rfl,q1 hw⟩⟩
 ·exact Mu Zr s σ H (.ref a) v vl vu lo hi sl Q I rx hs pl pu ⟨a,xs,rfl,eJ.of ea,hw,q2 hw⟩
noncomputable def Kd:R2:=GV
theorem kG{X:Cx}:lB X (binaryOp .Add) Kd:=Dn
end L2
namespace Own
open PySem L2
local macro_rules | `(tactic| and_intros) => `(tactic| try dsimp only [L2.start, LP, Qg, List.cons_append, List.nil_append, List.replicate_succ, List.replicate_zero, List.length_cons, List.length_nil, Nat.reduceAdd, Nat.reduceSub, Nat.zero_add])
local macro_rules | `(tactic| infer_instance) => `(tactic| exact ⟨rfl, rfl, rfl, by decide +kernel, rfl, by decide +kernel, by decide +kernel⟩)
seal PE PA PT PW PS PSs PI PG PGs PTs PO PPs
noncomputable def top(i:Nat):Stmt:=PySem.Challenge.pw_outlast_k33_where_programs_part.main.body.getD i (.Pass ⟨0,0,0,0⟩)
noncomputable abbrev Gm:Stmt:=top 4
noncomputable abbrev vV:Stmt:=top 6
noncomputable abbrev AR:Stmt:=top 7
noncomputable abbrev rW:Stmt:=top 8
noncomputable abbrev lO:Stmt:=top 9
noncomputable abbrev lL:Stmt:=bO (top 11) 0
noncomputable abbrev lM:Stmt:=bO (top 11) 1
noncomputable abbrev iX:Stmt:=bO (top 11) 2
noncomputable abbrev gD:Stmt:=bO (top 11) 3
noncomputable abbrev iW:Stmt:=bO (top 11) 4
noncomputable abbrev lN:Stmt:=bO (top 11) 5
noncomputable abbrev hJ:Stmt:=bO (top 11) 6
noncomputable abbrev gC:Stmt:=bO (top 11) 7
noncomputable abbrev rT:Stmt:=bO (top 13) 0
noncomputable abbrev mW:Stmt:=bO (top 13) 1
noncomputable abbrev kL:Stmt:=bO (top 13) 2
noncomputable abbrev mX:Stmt:=bO (top 13) 3
noncomputable abbrev pF:Stmt:=bO (top 13) 4
noncomputable abbrev pG:Stmt:=bO (top 13) 5
noncomputable abbrev pH:Stmt:=bO (top 13) 6
noncomputable abbrev Du:Stmt:=top 16
noncomputable abbrev vS:Stmt:=top 17
noncomputable abbrev vT:Stmt:=top 18
noncomputable abbrev AO:Stmt:=top 19
noncomputable abbrev AM:Stmt:=top 20
noncomputable abbrev AQ:Stmt:=top 21
noncomputable abbrev AN:Stmt:=top 22
noncomputable abbrev Dt:Stmt:=top 23
noncomputable abbrev vN:Stmt:=bO (top 25) 0
noncomputable abbrev hE:Stmt:=bO (top 25) 2
noncomputable abbrev rR:Stmt:=bO (top 25) 3
noncomputable abbrev vP:Stmt:=bO (top 25) 4
noncomputable abbrev iU:Stmt:=bO (top 25) 5
noncomputable abbrev lK:Stmt:=bO (top 25) 6
noncomputable abbrev iV:Stmt:=bO (top 25) 7
noncomputable abbrev vQ:Stmt:=bO (top 25) 8
noncomputable abbrev vM:Stmt:=bO (top 25) 9
noncomputable abbrev rQ:Stmt:=bO (top 25) 10
noncomputable abbrev vO:Stmt:=bO (top 25) 11
noncomputable abbrev AL:Stmt:=bO (top 25) 12
noncomputable abbrev mV:Stmt:=bO (top 25) 13
noncomputable abbrev rS:Stmt:=bO (top 25) 14
noncomputable abbrev kK:Stmt:=bO (top 25) 15
noncomputable abbrev rX:Stmt:=top 27
noncomputable abbrev AV:Stmt:=top 29
noncomputable abbrev vR:Stmt:=top 30
noncomputable abbrev eX:Stmt:=top 31
noncomputable abbrev pI:Stmt:=top 33
noncomputable abbrev AU:Stmt:=top 34
noncomputable abbrev vU:Stmt:=top 35
noncomputable abbrev pJ:Stmt:=top 36
noncomputable abbrev kM:Stmt:=top 37
noncomputable abbrev rV:Stmt:=top 38
noncomputable abbrev mZ:Stmt:=top 39
noncomputable abbrev iY:Stmt:=top 40
noncomputable abbrev mY:Stmt:=top 41
noncomputable abbrev m9:Stmt:=top 42
noncomputable abbrev AS:Stmt:=top 43
noncomputable abbrev Mm:Stmt:=top 44
set_option genInjectivity false in
set_option genSizeOf false in
structure Ad where
 JO:Addr
 Kn:FuncData
 nZ:Addr
 oK:FuncData
 Cz:Addr
 CT:FuncData
 uA:Addr
 uM:FuncData
 mE:Addr
 mL:FuncData
 jB:Addr
 mI:FuncData
 mC:Addr
 mJ:FuncData
 jW:Addr
 j6:FuncData
 gL:Addr
 gN:FuncData
 jV:Addr
 j5:FuncData
 mD:Addr
 mK:FuncData
 iN:Addr
 iP:FuncData
 gK:Addr
 gM:FuncData
 pR:Addr
 uL:FuncData
 nR:Addr
 oF:FuncData
 lF:Addr
 lH:FuncData
 nS:Addr
 oG:FuncData
 qX:Addr
 rC:FuncData
 qY:Addr
 rD:FuncData
 qZ:Addr
 rE:FuncData
 Cy:Addr
 Fl:FuncData
 nU:Addr
 y4:FuncData
 sI:Addr
 y7:FuncData
 xI:Addr
 CP:FuncData
 xG:Addr
 CN:FuncData
 xJ:Addr
 CQ:FuncData
 xH:Addr
 CO:FuncData
 Cw:Addr
 Fk:FuncData
 sH:Addr
 yW:FuncData
 iM:Addr
 iO:FuncData
 t7:Addr
 uJ:FuncData
 yD:Addr
 yY:FuncData
 jT:Addr
 j0:FuncData
 mB:Addr
 mH:FuncData
 jU:Addr
 j4:FuncData
 yE:Addr
 yZ:FuncData
 yB:Addr
 yV:FuncData
 t6:Addr
 uI:FuncData
 yC:Addr
 yX:FuncData
 Cv:Addr
 CM:FuncData
 nQ:Addr
 oE:FuncData
 t9:Addr
 uK:FuncData
 lE:Addr
 lG:FuncData
 uB:Addr
 uO:FuncData
 CC:Addr
 CW:FuncData
 yF:Addr
 y1:FuncData
 fB:Addr
 fD:FuncData
 q9:Addr
 rF:FuncData
 CB:Addr
 CV:FuncData
 yH:Addr
 zB:FuncData
 jY:Addr
 j8:FuncData
 fN:Addr
 fP:FuncData
 jP:Addr
 jQ:FuncData
 nW:Addr
 oI:FuncData
 jX:Addr
 j7:FuncData
 nV:Addr
 oH:FuncData
 nX:Addr
 oJ:FuncData
 CA:Addr
 CU:FuncData
 Q0:Addr
 Rp:FuncData
 zZ:Tok
 w9:Tok
 Ej:Tok
 iR:Addr
 aL:Addr
 aW:Addr
 aV:Addr
structure Tx(w:World)(K:q0B)(mg:q0C)(t:Ad):Prop where
 D9:Fun K "kept" "kept" Gm t.JO t.Kn
 GS:Binds K t.Kn ["number"] []
 Hy:mg "kept"=some (.ref t.JO)
 sW:Fun K "worth_of" "worth_of" vV t.nZ t.oK
 yQ:Binds K t.oK ["saying","names","arg","now","answers"] []
 Ai:mg "worth_of"=some (.ref t.nZ)
 Hk:Fun K "joined" "joined" AR t.Cz t.CT
 Nc:Binds K t.CT ["sign","one","other"] []
 OO:mg "joined"=some (.ref t.Cz)
 pX:Fun K "number_of" "number_of" rW t.uA t.uM
 uD:Binds K t.uM ["worth"] []
 uZ:mg "number_of"=some (.ref t.uA)
 jC:Fun K "one_or_nought" "one_or_nought" lO t.mE t.mL
 mG:Binds K t.mL ["truth"] []
 mR:mg "one_or_nought"=some (.ref t.mE)
 C1:Fun K "__init__" "Tickets.__init__" lL t.jB t.mI
 CG:Binds K t.mI ["self"] []
 MW:Meth K t.aL "__init__" t.jB
 C2:Fun K "make" "Tickets.make" lM t.mC t.mJ
 CH:Binds K t.mJ ["self"] []
 BH:Meth K t.aL "make" t.mC
 zO:Fun K "is_open" "Tickets.is_open" iX t.jW t.j6
 jZ:Binds K t.j6 ["self","ticket"] []
 iS:Meth K t.aL "is_open" t.jW
 sU:Fun K "those_open" "Tickets.those_open" gD t.gL t.gN
 sO:Binds K t.gN ["self"] []
 rL:Meth K t.aL "those_open" t.gL
 zN:Fun K "finish" "Tickets.finish" iW t.jV t.j5
 yL:Binds K t.j5 ["self","ticket","worth"] []
 xC:Meth K t.aL "finish" t.jV
 C3:Fun K "shut" "Tickets.shut" lN t.mD t.mK
 sN:Binds K t.mK ["self","ticket"] []
 qT:Meth K t.aL "shut" t.mD
 wY:Fun K "shut_all" "Tickets.shut_all" hJ t.iN t.iP
 nD:Binds K t.iP ["self"] []
 lW:Meth K t.aL "shut_all" t.iN
 sT:Fun K "first_done" "Tickets.first_done" gC t.gK t.gM
 sM:Binds K t.gM ["self","worths"] []
 rK:Meth K t.aL "first_done" t.gK
 Iz:Fun K "__init__" "Walk.__init__" rT t.pR t.uL
 Ib:Binds K t.uL ["self","program"] []
 TR:Meth K t.aW "__init__" t.pR
 D5:Fun K "come_to" "Walk.come_to" mW t.nR t.oF
 DQ:Binds K t.oF ["self"] []
 Df:Meth K t.aW "come_to" t.nR
 BD:Fun K "stands_at" "Walk.stands_at" kL t.lF t.lH
 hW:Binds K t.lH ["self"] []
 gS:Meth K t.aW "stands_at" t.lF
 D6:Fun K "pass_by" "Walk.pass_by" mX t.nS t.oG
 kX:Binds K t.oG ["self"] []
 jH:Meth K t.aW "pass_by" t.nS
 Ft:Fun K "enter" "Walk.enter" pF t.qX t.rC
 yM:Binds K t.rC ["self","which"] []
 wH:Meth K t.aW "enter" t.qX
 Fu:Fun K "leave" "Walk.leave" pG t.qY t.rD
 Fc:Binds K t.rD ["self"] []
 Ep:Meth K t.aW "leave" t.qY
 Fv:Fun K "place" "Walk.place" pH t.qZ t.rE
 Fd:Binds K t.rE ["self"] []
 Er:Meth K t.aW "place" t.qZ
 Lv:Fun K "do_set" "do_set" Du t.Cy t.Fl
 Q3:Binds K t.Fl ["run","statement"] []
 YU:mg "do_set"=some (.ref t.Cy)
 zP:Fun K "do_order" "do_order" vS t.nU t.y4
 DR:Binds K t.y4 ["run","statement"] []
 Xc:mg "do_order"=some (.ref t.nU)
 D8:Fun K "do_timer" "do_timer" vT t.sI t.y7
 JS:Binds K t.y7 ["run","statement"] []
 Xd:mg "do_timer"=some (.ref t.sI)
 Hh:Fun K "do_send" "do_send" AO t.xI t.CP
 Na:Binds K t.CP ["run","statement"] []
 X9:mg "do_send"=some (.ref t.xI)
 Hf:Fun K "do_drop" "do_drop" AM t.xG t.CN
 M7:Binds K t.CN ["run","statement"] []
 X7:mg "do_drop"=some (.ref t.xG)
 Hi:Fun K "do_wait" "do_wait" AQ t.xJ t.CQ
 Nb:Binds K t.CQ ["run","statement"] []
 Ya:mg "do_wait"=some (.ref t.xJ)
 Hg:Fun K "do_hear" "do_hear" AN t.xH t.CO
 M9:Binds K t.CO ["run","statement"] []
 X8:mg "do_hear"=some (.ref t.xH)
 Lu:Fun K "do_end" "do_end" Dt t.Cw t.Fk
 Q2:Binds K t.Fk ["run","statement"] []
 YT:mg "do_end"=some (.ref t.Cw)
 Lp:Fun K "__init__" "Run.__init__" vN t.sH t.yW
 DM:Binds K t.yW ["self","program"] []
 US:Meth K t.aV "__init__" t.sH
 wX:Fun K "open_tickets" "Run.open_tickets" hE t.iM t.iO
 wO:Binds K t.iO ["self"] []
 uW:Meth K t.aV "open_tickets" t.iM
 Iw:Fun K "state" "Run.state" rR t.t7 t.uJ
 BR:Binds K t.uJ ["self"] []
 Ae:Meth K t.aV "state" t.t7
 Lr:Fun K "take" "Run.take" vP t.yD t.yY
 DN:Binds K t.yY ["self","happening"] []
 Cc:Meth K t.aV "take" t.yD
 zL:Fun K "passes_over" "Run.passes_over" iU t.jT t.j0
 yJ:Binds K t.j0 ["self","happening"] []
 xA:Meth K t.aV "passes_over" t.jT
 C0:Fun K "take_done" "Run.take_done" lK t.mB t.mH
 CF:Binds K t.mH ["self","ticket","worth"] []
 BG:Meth K t.aV "take_done" t.mB
 zM:Fun K "take_letter" "Run.take_letter" iV t.jU t.j4
 yK:Binds K t.j4 ["self","key","worth"] []
 xB:Meth K t.aV "take_letter" t.jU
 Ls:Fun K "wake" "Run.wake" vQ t.yE t.yZ
 DO:Binds K t.yZ ["self","worth"] []
 Cd:Meth K t.aV "wake" t.yE
 Lo:Fun K "go_on" "Run.go_on" vM t.yB t.yV
 DL:Binds K t.yV ["self"] []
 Cb:Meth K t.aV "go_on" t.yB
 Iv:Fun K "do_one" "Run.do_one" rQ t.t6 t.uI
 Ia:Binds K t.uI ["self","statement"] []
 FQ:Meth K t.aV "do_one" t.t6
 Lq:Fun K "look" "Run.look" vO t.yC t.yX
 JQ:Binds K t.yX ["self","statement"] []
 IU:Meth K t.aV "look" t.yC
 OB:Fun K "end" "Run.end" AL t.Cv t.CM
 GR:Binds K t.CM ["self","worth"] []
 Eo:Meth K t.aV "end" t.Cv
 D4:Fun K "wear_out" "Run.wear_out" mV t.nQ t.oE
 DP:Binds K t.oE ["self"] []
 De:Meth K t.aV "wear_out" t.nQ
 Iy:Fun K "worth" "Run.worth" rS t.t9 t.uK
 fG:Binds K t.uK ["self","saying"] []
 eK:Meth K t.aV "worth" t.t9
 BC:Fun K "new_ticket" "Run.new_ticket" kK t.lE t.lG
 qN:Binds K t.lG ["self","name"] []
 oS:Meth K t.aV "new_ticket" t.lE
 lV:Fun K "run_again" "run_again" rX t.uB t.uO
 pT:Binds K t.uO ["program","happenings"] []
 qA:mg "run_again"=some (.ref t.uB)
 Hm:Fun K "part_at" "part_at" AV t.CC t.CW
 Nf:Binds K t.CW ["one","other","happenings"] []
 OR:mg "part_at"=some (.ref t.CC)
 D7:Fun K "changed" "changed" vR t.yF t.y1
 JR:Binds K t.y1 ["old","new","happenings"] []
 LR:mg "changed"=some (.ref t.yF)
 fE:Fun K "first_unlike_commands" "first_unlike_commands" eX t.fB t.fD
 iE:Binds K t.fD ["first","second"] []
 iH:mg "first_unlike_commands"=some (.ref t.fB)
 kB:Fun K "_law_cell_at" "_law_cell_at" pI t.q9 t.rF
 mF:Binds K t.rF ["script","k"] []
 mQ:mg "_law_cell_at"=some (.ref t.q9)
 xN:Fun K "_law_row" "_law_row" AU t.CB t.CV
 CI:Binds K t.CV ["cell"] []
 Dh:mg "_law_row"=some (.ref t.CB)
 cB:Fun K "_law_take" "_law_take" vU t.yH t.zB
 cE:Binds K t.zB ["row","many"] []
 cF:mg "_law_take"=some (.ref t.yH)
 cR:Fun K "_law_saying" "_law_saying" pJ t.jY t.j8
 cY:Binds K t.j8 ["row","deep"] []
 c7:mg "_law_saying"=some (.ref t.jY)
 eU:Fun K "_law_statement" "_law_statement" kM t.fN t.fP
 fO:Binds K t.fP ["row","deep"] []
 fR:mg "_law_statement"=some (.ref t.fN)
 pW:Fun K "_law_block" "_law_block" rV t.jP t.jQ
 uC:Binds K t.jQ ["row","deep"] []
 uY:mg "_law_block"=some (.ref t.jP)
 wB:Fun K "_law_program" "_law_program" mZ t.nW t.oI
 DS:Binds K t.oI ["cells"] []
 Et:mg "_law_program"=some (.ref t.nW)
 oP:Fun K "_law_happenings" "_law_happenings" iY t.jX t.j7
 yO:Binds K t.j7 ["cells"] []
 Ah:mg "_law_happenings"=some (.ref t.jX)
 oO:Fun K "_law_changed" "_law_changed" mY t.nV t.oH
 v9:Binds K t.oH ["program","cell"] []
 wJ:mg "_law_changed"=some (.ref t.nV)
 kY:Fun K "_law_stepped" "_law_stepped" m9 t.nX t.oJ
 n8:Binds K t.oJ ["program","happenings"] []
 oU:mg "_law_stepped"=some (.ref t.nX)
 Hl:Fun K "_law_due" "_law_due" AS t.CA t.CU
 Nd:Binds K t.CU ["one","other","happenings"] []
 OQ:mg "_law_due"=some (.ref t.CA)
 YQ:Fun K "law" "law" Mm t.Q0 t.Rp
 Zh:Binds K t.Rp ["script"] []
 Zk:mg "law"=some (.ref t.Q0)
 bD:Cls K t.aL
 LO:mg "Tickets"=some (.ref t.aL)
 uX:Mk K t.aL t.jB
 cQ:Cls K t.aW
 Xb:mg "Walk"=some (.ref t.aW)
 FR:Mk K t.aW t.pR
 aX:Cls K t.aV
 Xa:mg "Run"=some (.ref t.aV)
 Hx:Mk K t.aV t.sH
 u7:eI K t.aL "made"
 gH:eI K t.aL "pending"
 gF:eI K t.aL "answers"
 iI:eI K t.aW "blocks"
 eV:eI K t.aW "numbers"
 kE:eI K t.aV "walk"
 dF:eI K t.aV "sleep"
 Ce:eI K t.aV "arg"
 tG:eI K t.aV "now"
 fW:eI K t.aV "names"
 cJ:eI K t.aV "tickets"
 gG:eI K t.aV "letters"
 n9:mg "GREATEST_WORTH"=some (.int 1000000000 t.zZ)
 wQ:mg "GREATEST_MOMENT"=some (.int 1000000000000 t.w9)
 DU:mg "MOST_AT_ONCE"=some (.int 300 t.Ej)
 Q7:mg "DEEDS"=some (.ref t.iR)
 ON:UX w.params K t.iR
 IY:PySem.W.nsIn K t.iR "set"=some (some (.ref t.Cy))
 Ew:PySem.W.nsIn K t.iR "order"=some (some (.ref t.nU))
 Ex:PySem.W.nsIn K t.iR "timer"=some (some (.ref t.sI))
 Eu:PySem.W.nsIn K t.iR "child"=some (some (.ref t.nU))
 FV:PySem.W.nsIn K t.iR "send"=some (some (.ref t.xI))
 FT:PySem.W.nsIn K t.iR "drop"=some (some (.ref t.xG))
 FW:PySem.W.nsIn K t.iR "wait"=some (some (.ref t.xJ))
 FU:PySem.W.nsIn K t.iR "hear"=some (some (.ref t.xH))
 IX:PySem.W.nsIn K t.iR "end"=some (some (.ref t.Cw))
 sD:mg "enumerate"=none
 pQ:mg "isinstance"=none
 DG:mg "len"=none
 MT:mg "list"=none
 MU:mg "max"=none
 PR:mg "min"=none
 Bn:mg "range"=none
 v8:mg "reversed"=none
 PU:mg "set"=none
 qH:mg "sorted"=none
 UR:mg "sum"=none
 gW:mg "tuple"=none
theorem Pc:aU ["number"] ["number"] (aM Gm):=by infer_instance
theorem nB:aU ["saying","names","arg","now","answers","kind","one","other"] ["saying","names","arg","now","answers"] (aM vV):=by infer_instance
theorem vZ:aU ["sign","one","other","left","right"] ["sign","one","other"] (aM AR):=by infer_instance
theorem ET:aU ["worth"] ["worth"] (aM rW):=by infer_instance
theorem A7:aU ["truth"] ["truth"] (aM lO):=by infer_instance
theorem AX:aU ["self"] ["self"] (aM lL):=by infer_instance
theorem pM:aU ["self","ticket"] ["self"] (aM lM):=by infer_instance
theorem vY:aU ["self","ticket"] ["self","ticket"] (aM iX):=by infer_instance
theorem qL:aU ["self"] ["self"] (aM gD):=by infer_instance
theorem vX:aU ["self","ticket","worth"] ["self","ticket","worth"] (aM iW):=by infer_instance
theorem AY:aU ["self","ticket"] ["self","ticket"] (aM lN):=by infer_instance
theorem tS:aU ["self"] ["self"] (aM hJ):=by infer_instance
theorem i0:aU ["self","worths","tickets"] ["self","worths"] (aM gC):=by infer_instance
theorem ER:aU ["self","program"] ["self","program"] (aM rT):=by infer_instance
theorem BN:aU ["self"] ["self"] (aM mW):=by infer_instance
theorem xD:aU ["self"] ["self"] (aM kL):=by infer_instance
theorem BO:aU ["self"] ["self"] (aM mX):=by infer_instance
theorem Dv:aU ["self","which"] ["self","which"] (aM pF):=by infer_instance
theorem Dw:aU ["self"] ["self"] (aM pG):=by infer_instance
theorem Dx:aU ["self"] ["self"] (aM pH):=by infer_instance
theorem Mo:aU ["run","statement"] ["run","statement"] (aM Du):=by infer_instance
theorem rZ:aU ["run","statement","worth","ticket"] ["run","statement"] (aM vS):=by infer_instance
theorem nA:aU ["run","statement","worth","due","ticket"] ["run","statement"] (aM vT):=by infer_instance
theorem Jt:aU ["run","statement"] ["run","statement"] (aM AO):=by infer_instance
theorem Cj:aU ["run","statement","ticket"] ["run","statement"] (aM AM):=by infer_instance
theorem qD:aU ["run","statement","worths","ticket","pending"] ["run","statement"] (aM AQ):=by infer_instance
theorem Ck:aU ["run","statement","worths"] ["run","statement"] (aM AN):=by infer_instance
theorem Mn:aU ["run","statement"] ["run","statement"] (aM Dt):=by infer_instance
theorem Gn:aU ["self","program"] ["self","program"] (aM vN):=by infer_instance
theorem tR:aU ["self"] ["self"] (aM hE):=by infer_instance
theorem pL:aU ["self","names","letters"] ["self"] (aM rR):=by infer_instance
theorem Gq:aU ["self","happening"] ["self","happening"] (aM vP):=by infer_instance
theorem lZ:aU ["self","happening","kind"] ["self","happening"] (aM iU):=by infer_instance
theorem AW:aU ["self","ticket","worth"] ["self","ticket","worth"] (aM lK):=by infer_instance
theorem vW:aU ["self","key","worth"] ["self","key","worth"] (aM iV):=by infer_instance
theorem Gr:aU ["self","worth"] ["self","worth"] (aM vQ):=by infer_instance
theorem kN:aU ["self","commands","many","statement"] ["self"] (aM vM):=by infer_instance
theorem pK:aU ["self","statement","kind","commands"] ["self","statement"] (aM rQ):=by infer_instance
theorem Gp:aU ["self","statement"] ["self","statement"] (aM vO):=by infer_instance
theorem Js:aU ["self","worth"] ["self","worth"] (aM AL):=by infer_instance
theorem BM:aU ["self"] ["self"] (aM mV):=by infer_instance
theorem EO:aU ["self","saying"] ["self","saying"] (aM rS):=by infer_instance
theorem nJ:aU ["self","name","ticket"] ["self","name"] (aM kK):=by infer_instance
theorem pN:aU ["program","happenings","run","commands"] ["program","happenings"] (aM rX):=by infer_instance
theorem Jv:aU ["one","other","happenings"] ["one","other","happenings"] (aM AV):=by infer_instance
theorem rY:aU ["old","new","happenings","again","parting"] ["old","new","happenings"] (aM vR):=by infer_instance
theorem eN:aU ["first","second","number","commands"] ["first","second"] (aM eX):=by infer_instance
theorem Dy:aU ["script","k"] ["script","k"] (aM pI):=by infer_instance
theorem Ju:aU ["cell"] ["cell"] (aM AU):=by infer_instance
theorem AZ:aU ["row","many","told"] ["row","many"] (aM vU):=by infer_instance
theorem jL:aU ["row","deep","kind","some","sign"] ["row","deep"] (aM pJ):=by infer_instance
theorem fY:aU ["row","deep","kind","name","some"] ["row","deep"] (aM kM):=by infer_instance
theorem ES:aU ["row","deep"] ["row","deep"] (aM rV):=by infer_instance
theorem lP:aU ["cells","program","cell"] ["cells"] (aM mZ):=by infer_instance
theorem bP:aU ["cells","happenings","moment","cell","row","kind","worth","first","ahead"] ["cells"] (aM iY):=by infer_instance
theorem fV:aU ["program","cell","row","at","kind","turned"] ["program","cell"] (aM mY):=by infer_instance
theorem iC:aU ["program","happenings","run","commands","happening"] ["program","happenings"] (aM m9):=by infer_instance
theorem qE:aU ["one","other","happenings","told","others","k"] ["one","other","happenings"] (aM AS):=by infer_instance
theorem kO:aU ["script","program","other","happenings","handed","due","told","answer","run"] ["script"] (aM Mm):=by infer_instance
theorem Zq{CX:CXT}{P:Program}{w:World}{K:q0B}{mg:q0C}{base:Heap}{N:List Str}{q:Str}{sc:Scope}{f:Addr}{cd:Value}{A:Around}{o:List Env}{s:Shared}{H:Hp}{E:XK}:(D0 CX P w K mg base N q sc f cd A o s H E).K=K:=rfl
theorem Y6{CX:CXT}{P:Program}{w:World}{K:q0B}{mg:q0C}{base:Heap}{N:List Str}{q:Str}{sc:Scope}{f:Addr}{cd:Value}{A:Around}{o:List Env}{s:Shared}{H:Hp}{E:XK}:(D0 CX P w K mg base N q sc f cd A o s H E).nox.K=K:=rfl
theorem small{n:Nat}(h:n<=1000):n<=sizeLine:=Nat.le_of_lt (small1000 h)
theorem LV{i j:Int}(h0:-(2 ^ 64) < i)(h1:i < 2 ^ 64):CMul i j:=.inl ⟨h0,h1⟩
structure nO(H:Hp)(r:Addr):Prop where
 ex:∃ c l f:Int,H r=some (.lst [.int c,.int l,.int f])/\0<=l/\l < 536870909
theorem nO.kp{S:List Addr}{H H':Hp}{r:Addr}(R:nO H r)(h:Kp S H H')(n:r∉S:=by first|exact List.not_mem_nil|simp_all):nO H' r:=by
 obtain⟨c,l,f,e,x⟩:=R;exact⟨c,l,f,h _ _ e n,x⟩
theorem nO.new{H:Hp}{r p:Addr}{o:HO}(R:nO H r)(h:H p=none):nO (Zs H p o) r:=R.kp (S:=[]) (Kp.new h)
theorem nO.ne{H:Hp}{r p:Addr}{o:HO}(R:nO H r)(h:H p=some o)(d:∀ a b c:V,o≠.lst [a,b,c]):p≠r:=by
 obtain⟨c,l,f,e,_⟩:=R;exact dW h e (d _ _ _)
theorem nO.none{H:Hp}{r p:Addr}(R:nO H r)(h:H p=Option.none):p≠r:=by
 obtain⟨c,l,f,e,_⟩:=R;exact(aJ e h).symm
noncomputable def clamp(n:Int):Int:=if (if n < 1000000000 then n else 1000000000) > -1000000000 then (if n < 1000000000 then n else 1000000000) else -1000000000
noncomputable def Mw:Sp:=fun vs H Q _=>∃ n:Int,vs=[.int n]/\Q (.int (clamp n)) H
theorem Um{n:Int}{H:Hp}{Q:VK}{E:XK}:Mw [.int n] H Q E=Q (.int (clamp n)) H:=propext ⟨fun⟨_,e,h⟩=>by cases e;exact h,fun h=>⟨_,rfl,h⟩⟩
theorem oA(n:Int):-1000000000<=clamp n/\clamp n<=1000000000:=by
 unfold clamp
 repeat' split
 all_goals omega
noncomputable abbrev Wo:=Option Int
noncomputable def wv:Wo->V
 | none=>.Zu
 | some n=>.int n
noncomputable def num(w:Wo):Int:=w.getD 0
noncomputable def wk:Wo->Key
 | none=>.no
 | some n=>.inl n
noncomputable def eY(w:Wo):Prop:=∀ n,w=some n->-1000000000<=n/\n<=1000000000
theorem GL{a b:Wo}(h:wv a=wv b):a=b:=by cases a<;>cases b<;>simp_all [wv]
theorem UQ(w:Wo):kT (wv w)=some (wk w):=by cases w<;>rfl
theorem GN(w:Wo):(wv w=.Zu)=(w=none):=by cases w<;>simp[wv]
theorem H0(w:Wo):cT (wv w)=true:=by cases w<;>rfl
theorem kC:eY none:=fun _ h=>nomatch h
theorem cM{n:Int}(h0:-1000000000<=n)(h1:n<=1000000000):eY (some n):=fun m h=>by cases h;exact⟨h0,h1⟩
theorem LJ{w:Wo}(h:eY w):-1000000000<=num w/\num w<=1000000000:=by
 cases w with
 | none=>exact⟨by decide,by decide⟩
 | some n=>exact h n rfl
noncomputable def Qt:Sp:=fun vs H Q _=>∃ w:Wo,vs=[wv w]/\Q (.int (num w)) H
theorem Xl{w:Wo}{H:Hp}{Q:VK}{E:XK}:Qt [wv w] H Q E=Q (.int (num w)) H :=
 propext ⟨fun⟨u,e,h⟩=>by simp only[List.cons.injEq,and_true] at e;rw[GL e];exact h,fun h=>⟨w,rfl,h⟩⟩
noncomputable def Qu:Sp:=fun vs H Q _=>∃ b:Bool,vs=[.bl b]/\Q (.int (if b=true then 1 else 0)) H
theorem EL{b:Bool}{H:Hp}{Q:VK}{E:XK}:Qu [.bl b] H Q E=Q (.int (if b=true then 1 else 0)) H :=
 propext ⟨fun⟨u,e,h⟩=>by cases e;exact h,fun h=>⟨b,rfl,h⟩⟩
inductive Sg where
 | add|sub|mul|lt|eq
noncomputable def Sg.s:Sg->Str
 | .add=>"+" | .sub=>"-" | .mul=>"*" | .lt=>"<" | .eq=>"="
noncomputable def Sg.of(g:Sg)(a b:Wo):Int :=
 match g with
 | .add=>clamp (num a+num b) | .sub=>clamp (num a - num b) | .mul=>clamp (num a * num b) | .lt=>if num a < num b then 1 else 0 | .eq=>if a=b then 1 else 0
theorem Sg.Qh(g:Sg)(a b:Wo):-1000000000<=g.of a b/\g.of a b<=1000000000:=by
 cases g
 ·exact oA _
 ·exact oA _
 ·exact oA _
 ·show -1000000000<=(if num a < num b then (1:Int) else 0)/\(if num a < num b then (1:Int) else 0)<=1000000000;split<;>decide
 ·show -1000000000<=(if a=b then (1:Int) else 0)/\(if a=b then (1:Int) else 0)<=1000000000;split<;>decide
noncomputable def Mv:Sp:=fun vs H Q _=>∃(g:Sg) (a b:Wo),vs=[.str g.s,wv a,wv b]/\eY a/\Q (.int (g.of a b)) H
inductive Say where
 | num (n:Int)|Zu|name (x:Str)|arg|now|ans (s:Say)|neg (s:Say)|two (g:Sg) (a b:Say)
inductive dD(H:Hp):V->Say->Prop
 | num {a:Addr} {n:Int}:H a=some (.tup [.str "number",.int n])->dD H (.ref a) (.num n)
 | Zu {a:Addr}:H a=some (.tup [.str "none"])->dD H (.ref a) .Zu
 | name {a:Addr} {x:Str}:H a=some (.tup [.str "name",.str x])->dD H (.ref a) (.name x)
 | arg {a:Addr}:H a=some (.tup [.str "arg"])->dD H (.ref a) .arg
 | now {a:Addr}:H a=some (.tup [.str "now"])->dD H (.ref a) .now
 | ans {a:Addr} {v:V} {s:Say}:H a=some (.tup [.str "answer",v])->dD H v s->dD H (.ref a) (.ans s)
 | neg {a:Addr} {v:V} {s:Say}:H a=some (.tup [.str "not",v])->dD H v s->dD H (.ref a) (.neg s)
 | two {a:Addr} {v u:V} {g:Sg} {s r:Say}:H a=some (.tup [.str g.s,v,u])->dD H v s->dD H u r->dD H (.ref a) (.two g s r)
noncomputable def aK(H H':Hp):Prop:=∀ a xs,H a=some (.tup xs)->H' a=some (.tup xs)
theorem dD.kp{H H':Hp}{v:V}{s:Say}(h:dD H v s)(k:aK H H'):dD H' v s:=by
 induction h with
 | num e=>exact .num (k _ _ e)
 | Zu e=>exact .Zu (k _ _ e)
 | name e=>exact .name (k _ _ e)
 | arg e=>exact .arg (k _ _ e)
 | now e=>exact .now (k _ _ e)
 | ans e _ ih=>exact .ans (k _ _ e) ih
 | neg e _ ih=>exact .neg (k _ _ e) ih
 | two e _ _ i1 i2=>exact .two (k _ _ e) i1 i2
theorem aK.of{S:List Addr}{H H':Hp}(k:Kp S H H')(h:∀ a∈S,∃ o,H a=some o/\∀ xs,o≠.tup xs):aK H H':=fun a xs e=>k a _ e fun z=>by
 obtain⟨o,e',d⟩:=h a z;rw[e] at e';exact d xs (Option.some.inj e').symm
theorem aK.new{H:Hp}{p:Addr}{o:HO}(h:H p=none):aK H (Zs H p o):=fun a xs e=>by rw[aG (aJ e h)];exact e
theorem aK.trans{H H1 H2:Hp}(a:aK H H1)(b:aK H1 H2):aK H H2:=fun x xs e=>b x xs (a x xs e)
theorem aK.row{r:Addr}{H H':Hp}(k:Kp [r] H H')(R:nO H r):aK H H':=.of k fun a ha=>by
 obtain⟨c,l,f,e,_⟩:=R;have:a=r:=by simpa using ha
 exact⟨_,this▸e,fun _ h=>by cases h⟩
noncomputable def Say.depth:Say->Nat
 | .ans s=>s.depth+1 | .neg s=>s.depth+1 | .two _ a b=>max a.depth b.depth+1 | .num _=>1 | .Zu=>1 | .name _=>1 | .arg=>1 | .now=>1
noncomputable def Say.ok:Say->Prop
 | .num n=>-1000000000<=n/\n<=1000000000 | .ans s=>s.ok | .neg s=>s.ok | .two _ a b=>a.ok/\b.ok|_=>True
theorem Say.B0(s:Say):1<=s.depth:=by cases s<;>simp[Say.depth]
structure Pl where
 nm:Str->Wo
 ar:Wo
 now:Int
 an:Wo->Wo
structure Pl.Ok(p:Pl):Prop where
 nm:∀ x,eY (p.nm x)
 ar:eY p.ar
 an:∀ w,eY (p.an w)
noncomputable def ev(p:Pl):Say->Wo
 | .num n=>some n
 | .Zu=>none
 | .name x=>p.nm x
 | .arg=>p.ar
 | .now=>some (clamp p.now)
 | .ans s=>p.an (ev p s)
 | .neg s=>some (if num (ev p s)=0 then 1 else 0)
 | .two g a b=>some (g.of (ev p a) (ev p b))
theorem Qb{p:Pl}(hp:p.Ok):∀ {s:Say},s.ok->eY (ev p s)
 | .num n,h=>cM h.1 h.2
 | .Zu,_=>kC
 | .name x,_=>hp.nm x
 | .arg,_=>hp.ar
 | .now,_=>cM (oA _).1 (oA _).2
 | .ans s,_=>hp.an _
 | .neg s,_=>by
  show eY (some (if num (ev p s)=0 then 1 else 0));split<;>exact cM (by decide) (by decide)
 | .two g a b,_=>cM (g.Qh _ _).1 (g.Qh _ _).2
noncomputable def M0(H:Hp)(d:Addr)(f:Str->Wo):Prop:=∃ kvs,H d=some (.dK kvs)/\∀ x,(bT kvs (.inr x)).getD .Zu=wv (f x)
noncomputable def MY(H:Hp)(d:Addr)(f:Wo->Wo):Prop:=∃ kvs,H d=some (.dK kvs)/\∀ w,(bT kvs (wk w)).getD .Zu=wv (f w)
noncomputable def UH(d:Nat):Sp:=fun vs H Q _=>∃(v:V) (dn da:Addr) (p:Pl) (s:Say),vs=[v,.ref dn,wv p.ar,.int p.now,.ref da]/\dD H v s/\s.depth<=d/\s.ok/\M0 H dn p.nm/\MY H da p.an/\p.Ok/\Q (wv (ev p s)) H
inductive Stm where
 | set (x:Str) (s:Say)|order (x y:Str) (s:Say)|ZJ (x:Str) (s:Say)|child (x y:Str) (s:Say)|send (s:Say) (k:Str) (r:Say)|drop (s:Say)
 | wait (x:Str) (ss:List Say)|ZA (x k:Str)|fin (s:Say)|whl (s:Say) (b:List Stm)|iff (s:Say) (b o:List Stm)
inductive gB(H:Hp):List V->List Say->Prop
 | nil:gB H [] []
 | cons {v:V} {vs:List V} {s:Say} {ss:List Say}:dD H v s->gB H vs ss->gB H (v::vs) (s::ss)
theorem gB.kp{H H':Hp}{vs:List V}{ss:List Say}(h:gB H vs ss)(k:aK H H'):gB H' vs ss:=by
 induction h with
 | nil=>exact .nil
 | cons a _ ih=>exact .cons (a.kp k) ih
mutual
inductive cL(H:Hp):V->Stm->Prop
 | set {a:Addr} {x:Str} {v:V} {s:Say}:H a=some (.tup [.str "set",.str x,v])->dD H v s->cL H (.ref a) (.set x s)
 | order {a:Addr} {x y:Str} {v:V} {s:Say}:H a=some (.tup [.str "order",.str x,.str y,v])->dD H v s->cL H (.ref a) (.order x y s)
 | ZJ {a:Addr} {x:Str} {v:V} {s:Say}:H a=some (.tup [.str "timer",.str x,v])->dD H v s->cL H (.ref a) (.ZJ x s)
 | child {a:Addr} {x y:Str} {v:V} {s:Say}:H a=some (.tup [.str "child",.str x,.str y,v])->dD H v s->cL H (.ref a) (.child x y s)
 | send {a:Addr} {k:Str} {v u:V} {s r:Say}:H a=some (.tup [.str "send",v,.str k,u])->dD H v s->dD H u r->cL H (.ref a) (.send s k r)
 | drop {a:Addr} {v:V} {s:Say}:H a=some (.tup [.str "drop",v])->dD H v s->cL H (.ref a) (.drop s)
 | wait {a p:Addr} {x:Str} {vs:List V} {ss:List Say}:H a=some (.tup [.str "wait",.str x,.ref p])->H p=some (.tup vs)->gB H vs ss->cL H (.ref a) (.wait x ss)
 | ZA {a:Addr} {x k:Str}:H a=some (.tup [.str "hear",.str x,.str k])->cL H (.ref a) (.ZA x k)
 | fin {a:Addr} {v:V} {s:Say}:H a=some (.tup [.str "end",v])->dD H v s->cL H (.ref a) (.fin s)
 | whl {a p:Addr} {v:V} {s:Say} {vs:List V} {b:List Stm}:H a=some (.tup [.str "while",v,.ref p])->dD H v s->H p=some (.tup vs)->bE H vs b->cL H (.ref a) (.whl s b)
 | iff {a p q:Addr} {v:V} {s:Say} {vs us:List V} {b o:List Stm}:H a=some (.tup [.str "if",v,.ref p,.ref q])->dD H v s->H p=some (.tup vs)->bE H vs b->H q=some (.tup us)->bE H us o->cL H (.ref a) (.iff s b o)
inductive bE(H:Hp):List V->List Stm->Prop
 | nil:bE H [] []
 | cons {v:V} {vs:List V} {x:Stm} {xs:List Stm}:cL H v x->bE H vs xs->bE H (v::vs) (x::xs)
end
theorem cL.kp{H H':Hp}(k:aK H H'){v:V}{m:Stm}(h:cL H v m):cL H' v m :=
 cL.rec (motive_1:=fun v m _=>cL H' v m) (motive_2:=fun vs ms _=>bE H' vs ms)
  (fun e s=>.set (k _ _ e) (s.kp k)) (fun e s=>.order (k _ _ e) (s.kp k)) (fun e s=>.ZJ (k _ _ e) (s.kp k)) (fun e s=>.child (k _ _ e) (s.kp k))
  (fun e s r=>.send (k _ _ e) (s.kp k) (r.kp k)) (fun e s=>.drop (k _ _ e) (s.kp k)) (fun e f s=>.wait (k _ _ e) (k _ _ f) (s.kp k)) (fun e=>.ZA (k _ _ e)) (fun e s=>.fin (k _ _ e) (s.kp k))
  (fun e s f _ b=>.whl (k _ _ e) (s.kp k) (k _ _ f) b) (fun e s f _ f' _ b b'=>.iff (k _ _ e) (s.kp k) (k _ _ f) b (k _ _ f') b') .nil (fun _ _ a b=>.cons a b) h
theorem bE.kp{H H':Hp}(k:aK H H'){vs:List V}{ms:List Stm}(h:bE H vs ms):bE H' vs ms :=
 bE.rec (motive_1:=fun v m _=>cL H' v m) (motive_2:=fun vs ms _=>bE H' vs ms)
  (fun e s=>.set (k _ _ e) (s.kp k)) (fun e s=>.order (k _ _ e) (s.kp k)) (fun e s=>.ZJ (k _ _ e) (s.kp k)) (fun e s=>.child (k _ _ e) (s.kp k))
  (fun e s r=>.send (k _ _ e) (s.kp k) (r.kp k)) (fun e s=>.drop (k _ _ e) (s.kp k)) (fun e f s=>.wait (k _ _ e) (k _ _ f) (s.kp k)) (fun e=>.ZA (k _ _ e)) (fun e s=>.fin (k _ _ e) (s.kp k))
  (fun e s f _ b=>.whl (k _ _ e) (s.kp k) (k _ _ f) b) (fun e s f _ f' _ b b'=>.iff (k _ _ e) (s.kp k) (k _ _ f) b (k _ _ f') b') .nil (fun _ _ a b=>.cons a b) h
mutual
noncomputable def Stm.dp:Stm->Nat
 | .whl _ b=>qO b+1
 | .iff _ b o=>max (qO b) (qO o)+1
 | .set _ _=>0
 | .order _ _ _=>0
 | .ZJ _ _=>0
 | .child _ _ _=>0
 | .send _ _ _=>0
 | .drop _=>0
 | .wait _ _=>0
 | .ZA _ _=>0
 | .fin _=>0
noncomputable def qO:List Stm->Nat
 | []=>0
 | m::ms=>max m.dp (qO ms)
end
theorem bE.at{H:Hp}{vs:List V}{ms:List Stm}(h:bE H vs ms):∀ {i:Nat} {x:V},vs[i]?=some x->∃ m,ms[i]?=some m/\cL H x m:=by
 induction ms generalizing vs with
 | nil=>cases h;intro i x e;simp at e
 | cons m ms ih =>
  cases h with
  | cons a b =>
   intro i x e;cases i with
   | zero=>simp only[List.getElem?_cons_zero,Option.some.injEq] at e;subst e;exact⟨_,rfl,a⟩
   | succ i=>exact ih b (by simpa using e)
theorem bE.len{H:Hp}{vs:List V}{ms:List Stm}(h:bE H vs ms):ms.length=vs.length:=by
 induction ms generalizing vs with
 | nil=>cases h;rfl
 | cons m ms ih =>
  cases h with
  | cons a b=>simp[ih b]
theorem yU(ns:List Int)(lo hi:Option Int):∃ ms:List Int,iF (ns.map V.int) lo hi=ms.map V.int/\ms.length<=ns.length:=by
 unfold iF;rw[<- List.map_drop,<- List.map_take];exact⟨_,rfl,by rw[List.length_take,List.length_drop];omega⟩
theorem Hr{ms:List Int}{i:Nat}{y:V}(h:(ms.map V.int)[i]?=some y):∃ z:Int,y=.int z:=by
 rw[List.getElem?_map] at h;cases e:ms[i]? with
 | none=>rw[e] at h;cases h
 | some z=>rw[e] at h;exact⟨z,(Option.some.inj h).symm⟩
theorem M0.kp{H H':Hp}{S:List Addr}{d:Addr}{f:Str->Wo}(h:M0 H d f)(k:Kp S H H')(n:d∉S):M0 H' d f:=by
 obtain⟨kvs,e,q⟩:=h;exact⟨kvs,k _ _ e n,q⟩
theorem MY.kp{H H':Hp}{S:List Addr}{d:Addr}{f:Wo->Wo}(h:MY H d f)(k:Kp S H H')(n:d∉S):MY H' d f:=by
 obtain⟨kvs,e,q⟩:=h;exact⟨kvs,k _ _ e n,q⟩
theorem B4(w:Wo):wZ (wv w) [.Zu,.int 0]=decide (num w=0):=by
 cases w with
 | none=>rfl
 | some n =>
  by_cases h:n=0
  ·subst h;rfl
  ·have h':¬ (0=n):=fun z=>h z.symm;simp[wZ,wv,qR,num,h,h']
theorem flat01:([.Zu,.int 0]:List V).all cT=true:=by decide
theorem aK.nil{H H':Hp}(k:Kp [] H H'):aK H H':=fun a xs e=>k a _ e (by simp)
theorem _root_.L2.Kp.qW{a:Addr}{H:Hp}{o:HO}:Kp [a] H (Zs H a o):=Kp.set (by simp)
noncomputable def kI(pend:List Int):List (Key×V):=pend.map fun i=>(.inl i,.bl true)
noncomputable def kS(ans:List (Int×Wo)):List (Key×V):=ans.map fun p=>(.inl p.1,wv p.2)
structure jA(C:Addr)(H:Hp)(tk tx dp da:Addr)(made:Nat)(pend:List Int)(ans:List (Int×Wo)):Prop where
 ins:H tk=some (.ins C tx [("made",.int made),("pending",.ref dp),("answers",.ref da)])
 hp:H dp=some (.dK (kI pend))
 ha:H da=some (.dK (kS ans))
 nda:dp≠da
 lt:∀ i∈pend,0<=i/\i < made
 asc:pend.Pairwise (· < ·)
 la:∀ p∈ans,0<=p.1/\p.1 < made
 dis:∀ p∈ans,p.1∉pend
 small:made<=1000000
theorem jA.n1{C:Addr}{H:Hp}{tk tx dp da:Addr}{made:Nat}{pend:List Int}{ans:List (Int×Wo)}(T:jA C H tk tx dp da made pend ans):tk≠dp/\tk≠da:=⟨dW T.ins T.hp (by intro z;cases z),dW T.ins T.ha (by intro z;cases z)⟩
theorem jA.kp{C:Addr}{H H':Hp}{tk tx dp da:Addr}{made:Nat}{pend:List Int}{ans:List (Int×Wo)}(T:jA C H tk tx dp da made pend ans)(k:Kp [] H H'):jA C H' tk tx dp da made pend ans :=
 ⟨k.at T.ins,k.at T.hp,k.at T.ha,T.nda,T.lt,T.asc,T.la,T.dis,T.small⟩
theorem AE(pend:List Int)(w:Wo):(bT (kI pend) (wk w)).isSome=decide (∃ i∈pend,w=some i):=by
 induction pend with
 | nil=>simp[kI,E3]
 | cons i r ih =>
  have e:kI (i::r)=(Key.inl i,V.bl true)::kI r:=rfl;rw[e];by_cases h:w=some i
  ·subst h;rw[show wk (some i)=Key.inl i from rfl,cP rfl];simp
  ·rw[cD (fun z=>h (by cases w with
    | none=>cases z
    | some j=>cases z;rfl)),ih]
   simp[h]
theorem Jl(pend:List Int)(i:Int):qP (kI pend) (.inl i)=kI (pend.filter fun j=>decide (j≠i)):=by
 unfold qP kI;rw[List.filter_map]
 congr 1
 apply List.filter_congr;intro j _;simp
theorem Jm(pend:List Int):intKeys (kI pend)=some pend:=by
 induction pend with
 | nil=>rfl
 | cons i r ih =>
  show(intKeys (kI r)).map (i::·)=_;rw[ih];rfl
theorem Jn{pend:List Int}{i:Int}(h:i∉pend):bT (kI pend) (.inl i)=none:=by
 have:=AE pend (some i);rw[show decide (∃ j∈pend,some i=some j)=false by simp[h]] at this;cases e:bT (kI pend) (.inl i) with
 | none=>rfl
 | some v=>rw[show wk (some i)=.inl i from rfl,e] at this;cases this
theorem Jo{pend:List Int}{i:Int}(h:i∈pend):∃ v,bT (kI pend) (.inl i)=some v:=by
 have:=AE pend (some i);rw[show decide (∃ j∈pend,some i=some j)=true by simpa using h] at this;exact Option.isSome_iff_exists.mp this
theorem JP{ans:List (Int×Wo)}{i:Int}(h:∀ p∈ans,p.1≠i):bT (kS ans) (.inl i)=none:=by
 induction ans with
 | nil=>rfl
 | cons p r ih =>
  have e:kS (p::r)=(Key.inl p.1,wv p.2)::kS r:=rfl;rw[e,cD (fun z=>h p (by simp) (by cases z;rfl)),ih fun q hq=>h q (List.mem_cons_of_mem _ hq)]
theorem wM{a b:List Int}(p:a.Perm b)(ha:a.Pairwise (·<=·))(hb:b.Pairwise (· < ·)):a=b :=
 List.Perm.eq_of_pairwise (fun x y _ _ h1 h2=>Int.le_antisymm h1 h2) ha (hb.imp fun h=>Int.le_of_lt h) p
noncomputable def EV(C:Addr):Sp:=fun vs H Q _=>∃ x dx:Addr,vs=[.ref x]/\H x=some (.ins C dx [])/\∀(dp da:Addr) (H':Hp),H dp=none->H da=none->jA C H' x dx dp da 0 [] []->Kp [x] H H'->Q .Zu H'
noncomputable def Mx(C:Addr):Sp:=fun vs H Q _=>∃(tk tx dp da:Addr) (made:Nat) (pend:List Int) (ans:List (Int×Wo)),vs=[.ref tk]/\jA C H tk tx dp da made pend ans/\made < 1000000/\pend.length < 1000000 /\
 ∀ H',jA C H' tk tx dp da (made+1) (pend++[(made:Int)]) ans->Kp [tk,dp] H H'->Q (.int made) H'
noncomputable def My(C:Addr):Sp:=fun vs H Q _=>∃(tk tx dp da:Addr) (made:Nat) (pend:List Int) (ans:List (Int×Wo)) (w:Wo),vs=[.ref tk,wv w]/\jA C H tk tx dp da made pend ans/\Q (.bl (decide (∃ i∈pend,w=some i))) H
noncomputable def JA(C:Addr):Sp:=fun vs H Q _=>∃(tk tx dp da:Addr) (made:Nat) (pend:List Int) (ans:List (Int×Wo)),vs=[.ref tk]/\jA C H tk tx dp da made pend ans/\pend.length<=1000000/\∀ l,H l=none->Q (.ref l) (Zs H l (.lst (pend.map V.int)))
noncomputable def Mz(C:Addr):Sp:=fun vs H Q _=>∃(tk tx dp da:Addr) (made:Nat) (pend:List Int) (ans:List (Int×Wo)) (i:Int),vs=[.ref tk,.int i]/\jA C H tk tx dp da made pend ans/\i∈pend /\
 ∀ H',jA C H' tk tx dp da made (pend.filter fun j=>decide (j≠i)) ans->Kp [dp] H H'->Q .Zu H'
noncomputable def Gz(C:Addr):Sp:=fun vs H Q _=>∃(tk tx dp da:Addr) (made:Nat) (pend:List Int) (ans:List (Int×Wo)) (i:Int) (w:Wo),vs=[.ref tk,.int i,wv w]/\jA C H tk tx dp da made pend ans/\i∈pend/\ans.length < 1000000 /\
 ∀ H',jA C H' tk tx dp da made (pend.filter fun j=>decide (j≠i)) (ans++[(i,w)])->Kp [dp,da] H H'->Q .Zu H'
noncomputable def Pt(C:Addr):Sp:=fun vs H Q _=>∃(tk tx dp da:Addr) (made:Nat) (pend:List Int) (ans:List (Int×Wo)),vs=[.ref tk]/\jA C H tk tx dp da made pend ans /\
 ∀ H',jA C H' tk tx dp da made [] ans->Kp [dp] H H'->Q .Zu H'
noncomputable abbrev Stk:=List (Nat×List Stm×Nat)
noncomputable def bY:Stk->List Int
 | []=>[]
 | [(_,_,n)]=>[(n:Int)]
 | (k,_,n)::r=>bY r++[(k:Int),(n:Int)]
inductive gA(H:Hp):List V->Stk->Prop
 | one {p:Addr} {us:List V} {k n:Nat} {b:List Stm}:H p=some (.tup us)->bE H us b->gA H [.ref p] [(k,b,n)]
 | cons {p:Addr} {us vs:List V} {k n:Nat} {b:List Stm} {r:Stk}:gA H vs r->H p=some (.tup us)->bE H us b->gA H (vs++[.ref p]) ((k,b,n)::r)
theorem gA.kp{H H':Hp}{vs:List V}{st:Stk}(h:gA H vs st)(k:aK H H'):gA H' vs st:=by
 induction h with
 | one e s=>exact .one (k _ _ e) (s.kp k)
 | cons _ e s ih=>exact .cons ih (k _ _ e) (s.kp k)
theorem gA.len{H:Hp}{vs:List V}{st:Stk}(h:gA H vs st):vs.length=st.length/\1<=st.length:=by
 induction h with
 | one=>exact⟨rfl,Nat.le_refl _⟩
 | cons _ _ _ ih=>simp[ih.1]
theorem gA.last{H:Hp}{vs:List V}{k n:Nat}{b:List Stm}{r:Stk}(h:gA H vs ((k,b,n)::r)):∃(ws:List V) (p:Addr) (us:List V),vs=ws++[.ref p]/\H p=some (.tup us)/\bE H us b/\(r≠[]->gA H ws r)/\(r=[]->ws=[]):=by
 cases h with
 | one e s=>exact⟨[],_,_,rfl,e,s,fun z=>absurd rfl z,fun _=>rfl⟩
 | @cons p us vs k n b r hr e s=>exact⟨vs,_,_,rfl,e,s,fun _=>hr,fun z=>by subst z;cases hr⟩
theorem gA.turn{H:Hp}{vs:List V}{k n n':Nat}{b:List Stm}{r:Stk}(h:gA H vs ((k,b,n)::r)):gA H vs ((k,b,n')::r):=by
 cases h with
 | one e s=>exact .one e s
 | cons hr e s=>exact .cons hr e s
theorem vB(k n:Nat)(b:List Stm)(r:Stk):∃ l,bY ((k,b,n)::r)=l++[(n:Int)]/\∀ n',bY ((k,b,n')::r)=l++[((n':Nat):Int)]:=by
 cases r with
 | nil=>exact⟨[],rfl,fun _=>rfl⟩
 | cons x r=>exact⟨bY (x::r)++[(k:Int)],by simp[bY],fun n'=>by simp[bY]⟩
theorem vC(k:Nat)(b:List Stm)(n:Nat)(x:Nat×List Stm×Nat)(r:Stk):bY ((k,b,n)::x::r)=bY (x::r)++[(k:Int),(n:Int)]:=rfl
structure iL(C:Addr)(H:Hp)(wk wx lb ln:Addr)(st:Stk):Prop where
 ins:H wk=some (.ins C wx [("blocks",.ref lb),("numbers",.ref ln)])
 bl:∃ vs,H lb=some (.lst vs)/\gA H vs st
 nu:H ln=some (.lst ((bY st).map V.int))
 ne:lb≠ln
 few:st.length<=100
theorem iL.kp{C:Addr}{H H':Hp}{wk wx lb ln:Addr}{st:Stk}(W:iL C H wk wx lb ln st)(k:Kp [] H H'):iL C H' wk wx lb ln st:=by
 obtain⟨vs,e,h⟩:=W.bl;exact⟨k.at W.ins,⟨vs,k.at e,h.kp (aK.nil k)⟩,k.at W.nu,W.ne,W.few⟩
noncomputable def iT:Stk->Stk
 | (k,b,n)::r=>(k,b,n+1)::r
 | []=>[]
noncomputable def GC(C:Addr):Sp:=fun vs H Q _=>∃(wk wx lb ln:Addr) (k n:Nat) (b:List Stm) (r:Stk) (m:Stm),vs=[.ref wk]/\iL C H wk wx lb ln ((k,b,n)::r)/\b[n]?=some m/\∀ v,cL H v m->Q v H
noncomputable def Be(C:Addr):Sp:=fun vs H Q _=>∃(wk wx lb ln:Addr) (k n:Nat) (b:List Stm) (r:Stk),vs=[.ref wk]/\iL C H wk wx lb ln ((k,b,n)::r)/\∀ H',iL C H' wk wx lb ln ((k,b,n+1)::r)->Kp [ln] H H'->Q .Zu H'
noncomputable def EW(C:Addr):Sp:=fun vs H Q _=>∃(x dx p:Addr) (us:List V) (b:List Stm),vs=[.ref x,.ref p]/\H x=some (.ins C dx [])/\H p=some (.tup us)/\bE H us b/\∀(lb ln:Addr) (H':Hp),H lb=none->H ln=none->iL C H' x dx lb ln [(0,b,0)]->Kp [x] H H'->Q .Zu H'
noncomputable def Stm.sub:Stm->Nat->Option (List Stm)
 | .whl _ b,0=>some b
 | .iff _ b _,0=>some b
 | .iff _ _ o,1=>some o
 | _,_=>none
noncomputable def Stm.IJ:Stm->Bool
 | .iff _ _ _=>true
 | _=>false
noncomputable def Cm(C:Addr):Sp:=fun vs H Q _=>∃(wk wx lb ln:Addr) (k n c:Nat) (b bb:List Stm) (r:Stk) (m:Stm),vs=[.ref wk,.int c]/\iL C H wk wx lb ln ((k,b,n)::r)/\b[n]?=some m/\m.sub c=some bb/\r.length<=90 /\
 ∀ H',iL C H' wk wx lb ln ((c,bb,0)::(k,b,n)::r)->Kp [lb,ln] H H'->Q .Zu H'
noncomputable def JB(C:Addr):Sp:=fun vs H Q _=>∃(wk wx lb ln:Addr) (k n:Nat) (b:List Stm) (x:Nat×List Stm×Nat) (r:Stk) (m:Stm),vs=[.ref wk]/\iL C H wk wx lb ln (x::(k,b,n)::r)/\b[n]?=some m /\
 ∀ H',iL C H' wk wx lb ln ((k,b,if m.IJ=true then n+1 else n)::r)->Kp [lb,ln] H H'->Q .Zu H'
theorem cL.subAt{H:Hp}{v:V}{m:Stm}{c:Nat}{bb:List Stm}(h:cL H v m)(hs:m.sub c=some bb):∃(a p:Addr) (xs us:List V),v=.ref a/\H a=some (.tup xs)/\iK xs (2+(c:Int))=some (.ref p)/\H p=some (.tup us)/\bE H us bb:=by
 cases h with
 | @whl a p v s vs b e h1 f hb =>
  match c,hs with
  | 0,hs=>cases hs;exact⟨a,p,_,vs,rfl,e,rfl,f,hb⟩
 | @iff a p q v s vs us b o e h1 f hb f2 hb2 =>
  match c,hs with
  | 0,hs=>cases hs;exact⟨a,p,_,vs,rfl,e,rfl,f,hb⟩
  | 1,hs=>cases hs;exact⟨a,q,_,us,rfl,e,rfl,f2,hb2⟩
 | _=>cases hs
theorem cL.WZ{H:Hp}{v:V}{m:Stm}(h:cL H v m):∃(a:Addr) (x:String) (xs:List V),v=.ref a/\H a=some (.tup (.str (Str.ofString x)::xs))/\decide (x = "if")=m.IJ:=by
 cases h<;>exact⟨_,_,_,rfl,by assumption,rfl⟩
theorem aK.fJ{H:Hp}{l:Addr}{xs ys:List V}(e:H l=some (.lst xs)):aK H (Zs H l (.lst ys)):=fun a zs h=>by
 rw[aG (dW h e (by intro z;cases z))];exact h
theorem EA:∀ st:Stk,(bY st).length<=2 * st.length
 | []=>by simp[bY]
 | [(_,_,n)]=>by simp[bY]
 | (k,b,n)::x::r=>by
  have:=EA (x::r);rw[vC,List.length_append];simp only[List.length_cons,List.length_nil] at this ⊢;omega
theorem uT{α:Type}(l:List α)(x:α):(l++[x])[(l++[x]).length - 1]?=some x:=by simp
theorem aK.tr{H H1 H2:Hp}(a:aK H H1)(b:aK H1 H2):aK H H2:=fun c xs e=>b c xs (a c xs e)
noncomputable def An(b:List Stm)(n:Nat):Nat:=match b[n]? with
 | some m=>if m.IJ=true then n+1 else n
 | none=>n
noncomputable def cZ:Stk->Stk
 | (k,b,n)::(k2,b2,n2)::r=>if n=b.length then cZ ((k2,b2,An b2 n2)::r) else (k,b,n)::(k2,b2,n2)::r
 | st=>st
termination_by st=>st.length
noncomputable def BQ:Stk->Prop
 | []=>False
 | (_,b,n)::r=>n<=b.length/\∀ x∈r,x.2.2 < x.2.1.length
noncomputable def cI:Stk->Option Stm
 | (_,b,n)::_=>b[n]?
 | []=>none
theorem EB{b:List Stm}{n:Nat}(h:n < b.length):An b n<=b.length:=by
 unfold An;split
 ·split<;>omega
 ·omega
noncomputable def MA(C:Addr):Sp:=fun vs H Q _=>∃(wk wx lb ln:Addr) (st:Stk),vs=[.ref wk]/\iL C H wk wx lb ln st/\BQ st /\
 (∀ H',iL C H' wk wx lb ln (cZ st)->BQ (cZ st)->cI (cZ st)=none->Kp [lb,ln] H H'->Q .Zu H') /\
 ∀(m:Stm) (v:V) (H':Hp),iL C H' wk wx lb ln (cZ st)->BQ (cZ st)->cI (cZ st)=some m->cL H' v m->Kp [lb,ln] H H'->Q v H'
noncomputable abbrev Cmds:=List (List V)
inductive gI(H:Hp):List V->Cmds->Prop
 | nil:gI H [] []
 | cons {a:Addr} {c:List V} {us:List V} {cs:Cmds}:H a=some (.tup c)->gI H us cs->gI H (.ref a::us) (c::cs)
theorem gI.kt{H H':Hp}{us:List V}{cs:Cmds}(h:gI H us cs)(k:aK H H'):gI H' us cs:=by
 induction h with
 | nil=>exact .nil
 | cons a _ ih=>exact .cons (k _ _ a) ih
theorem gI.len{H:Hp}{us:List V}{cs:Cmds}(h:gI H us cs):us.length=cs.length:=by
 induction h with
 | nil=>rfl
 | cons _ _ ih=>simp[ih]
theorem gI.app{H:Hp}{us vs:List V}{ps qs:Cmds}(h:gI H us ps)(g:gI H vs qs):gI H (us++vs) (ps++qs):=by
 induction h with
 | nil=>exact g
 | cons e _ ih=>exact .cons e ih
theorem gI.at{H:Hp}{us:List V}{cs:Cmds}(h:gI H us cs):∀ {i:Nat} {v:V},us[i]?=some v->∃ a c,v=.ref a/\cs[i]?=some c/\H a=some (.tup c):=by
 induction h with
 | nil=>intro i v e;simp at e
 | cons x _ ih =>
  intro i v e;cases i with
  | zero=>simp only[List.getElem?_cons_zero,Option.some.injEq] at e;subst e;exact⟨_,_,rfl,rfl,x⟩
  | succ i=>exact ih (by simpa using e)
inductive Slp where
 | Zu|new|wait (ts:List Int)|ZA (k:Str)|ended (w:Wo)|worn
noncomputable def Slp.isN:Slp->Bool
 | .Zu=>true
 | _=>false
noncomputable def iD(H:Hp)(v:V):Slp->Prop
 | .Zu=>v=.Zu
 | .new=>∃ p,v=.ref p/\H p=some (.tup [.str "new"])
 | .wait ts=>∃ p p2,v=.ref p/\H p=some (.tup [.str "wait",.ref p2])/\H p2=some (.tup (ts.map V.int))
 | .ZA k=>∃ p,v=.ref p/\H p=some (.tup [.str "hear",.str k])
 | .ended w=>∃ p,v=.ref p/\H p=some (.tup [.str "ended",wv w])
 | .worn=>∃ p,v=.ref p/\H p=some (.tup [.str "worn"])
theorem iD.kt{H H':Hp}{v:V}{s:Slp}(h:iD H v s)(k:aK H H'):iD H' v s:=by
 cases s with
 | Zu=>exact h
 | wait ts=>obtain⟨p,p2,e,a,b⟩:=h;exact⟨p,p2,e,k _ _ a,k _ _ b⟩
 | _=>obtain⟨p,e,a⟩:=h;exact⟨p,e,k _ _ a⟩
theorem iD.isN{H:Hp}{v:V}{s:Slp}(h:iD H v s):(s.isN=true/\v=.Zu)\/(s.isN=false/\∃ p,v=.ref p):=by
 cases s with
 | Zu=>exact .inl ⟨rfl,h⟩
 | wait ts=>obtain⟨p,p2,e,a,b⟩:=h;exact .inr ⟨rfl,p,e⟩
 | _=>obtain⟨p,e,a⟩:=h;exact .inr ⟨rfl,p,e⟩
noncomputable def l8(l:List (Str×Wo)):List (Key×V):=l.map fun p=>(.inr p.1,wv p.2)
noncomputable def dO(l:List (Str×Wo))(n:Str)(w:Wo):List (Str×Wo):=if (l.any fun p=>decide (p.1=n))=true then l.map (fun p=>if p.1=n then (p.1,w) else p) else l++[(n,w)]
theorem mS(l:List (Str×Wo))(n:Str)(w:Wo):eM (l8 l) (.inr n) (wv w)=l8 (dO l n w):=by
 have e:((l8 l).any fun kv=>decide (kv.1=Key.inr n))=(l.any fun p=>decide (p.1=n)):=by
  simp only[l8,List.any_map,Function.comp_def,Key.inr.injEq]
 unfold eM dO;rw[e];split
 ·simp only[l8,List.map_map,Function.comp_def,Key.inr.injEq];refine List.map_congr_left fun p _=>?_;by_cases h:p.1=n
  ·simp[h]
  ·simp[h]
 ·simp[l8]
theorem EK(l:List (Str×Wo))(n:Str)(w:Wo):(dO l n w).length<=l.length+1:=by
 unfold dO;split
 ·rw[List.length_map];omega
 ·simp
noncomputable def k4:List (Str×Wo)->Str->Wo
 | [],_=>none
 | p::r,x=>if p.1=x then p.2 else k4 r x
theorem xT:∀(l:List (Str×Wo)) (x:Str),(bT (l8 l) (.inr x)).getD .Zu=wv (k4 l x)
 | [],x=>rfl
 | p::r,x=>by
  have ih:=xT r x;show(bT ((Key.inr p.1,wv p.2)::l8 r) (.inr x)).getD .Zu=_;by_cases h:p.1=x
  ·rw[cP (by rw[h]),k4,if_pos h];rfl
  ·rw[cD (fun z=>h (Key.inr.inj z)),k4,if_neg h];exact ih
theorem IT(l:List (Str×Wo))(n:Str)(w:Wo)(x:Str):k4 (dO l n w) x=if x=n then w else k4 l x:=by
 have h1:=xT (dO l n w) x;rw[<- mS,Bl] at h1;by_cases h:x=n
 ·rw[if_pos (by rw[h])] at h1;rw[if_pos h];exact(GL h1).symm
 ·rw[if_neg (fun z=>h (Key.inr.inj z)),xT] at h1;rw[if_neg h];exact(GL h1).symm
noncomputable def fQ(l:List (Int×Wo)):Wo->Wo
 | none=>none
 | some i=>match l with
  | []=>none
  | p::r=>if p.1=i then p.2 else fQ r (some i)
theorem yI:∀(l:List (Int×Wo)) (w:Wo),(bT (kS l) (wk w)).getD .Zu=wv (fQ l w)
 | [],none=>rfl
 | [],some _=>rfl
 | p::r,none=>by
  have ih:=yI r none;show(bT ((Key.inl p.1,wv p.2)::kS r) .no).getD .Zu=_;rw[cD (by intro z;cases z)];rw[show fQ (p::r) none=fQ r none from by rw[fQ,fQ]];exact ih
 | p::r,some i=>by
  have ih:=yI r (some i);show(bT ((Key.inl p.1,wv p.2)::kS r) (.inl i)).getD .Zu=_;by_cases h:p.1=i
  ·rw[cP (by rw[h]),fQ,if_pos h];rfl
  ·rw[cD (fun z=>h (Key.inl.inj z)),fQ,if_neg h];exact ih
inductive kQ(H:Hp):List (Key×V)->List Addr->List (Str×List Wo)->Prop
 | nil:kQ H [] [] []
 | cons {a:Addr} {k:Str} {ws:List Wo} {kvs:List (Key×V)} {as:List Addr} {lt:List (Str×List Wo)}:H a=some (.lst (ws.map wv))->kQ H kvs as lt->kQ H ((.inr k,.ref a)::kvs) (a::as) ((k,ws)::lt)
theorem kQ.keep{H H':Hp}{kvs:List (Key×V)}{as:List Addr}{lt:List (Str×List Wo)}(h:kQ H kvs as lt)(k:∀ a∈as,∀ o,H a=some o->H' a=some o):kQ H' kvs as lt:=by
 induction h with
 | nil=>exact .nil
 | cons e _ ih=>exact .cons (k _ (by simp) _ e) (ih fun a ha=>k a (List.mem_cons_of_mem _ ha))
theorem kQ.ex{H:Hp}{kvs:List (Key×V)}{as:List Addr}{lt:List (Str×List Wo)}(h:kQ H kvs as lt):∀ a∈as,∃ xs,H a=some (.lst xs):=by
 induction h with
 | nil=>intro a ha;simp at ha
 | cons e _ ih=>intro a ha;rcases List.mem_cons.mp ha with rfl|ha;exact⟨_,e⟩;exact ih a ha
theorem kQ.len{H:Hp}{kvs:List (Key×V)}{as:List Addr}{lt:List (Str×List Wo)}(h:kQ H kvs as lt):kvs.length=lt.length:=by
 induction h with
 | nil=>rfl
 | cons _ _ ih=>simp[ih]
noncomputable def cK:List (Str×List Wo)->Str->Option (List Wo)
 | [],_=>none
 | p::r,k=>if p.1=k then some p.2 else cK r k
noncomputable def fJ:List (Str×List Wo)->Str->List Wo->List (Str×List Wo)
 | [],_,_=>[]
 | p::r,k,ws=>if p.1=k then (p.1,ws)::r else p::fJ r k ws
theorem kQ.look{H:Hp}{kvs:List (Key×V)}{as:List Addr}{lt:List (Str×List Wo)}(h:kQ H kvs as lt)(k:Str):(bT kvs (.inr k)=none/\cK lt k=none) \/
    ∃ a ws,bT kvs (.inr k)=some (.ref a)/\cK lt k=some ws/\a∈as/\H a=some (.lst (ws.map wv)):=by
  induction h with
  | nil=>exact .inl ⟨rfl,rfl⟩
  | @cons a j ws kvs as lt e _ ih =>
    by_cases hj:j=k
    · subst hj;exact .inr ⟨a,ws,cP rfl,by simp[cK],by simp,e⟩
    · rcases ih with⟨x,y⟩|⟨b,vs,x,y,z,u⟩
      · exact .inl ⟨by rw[cD (fun z=>hj (Key.inr.inj z))];exact x,by simp[cK,hj,y]⟩
      · exact .inr ⟨b,vs,by rw[cD (fun z=>hj (Key.inr.inj z))];exact x,by simp[cK,hj,y],List.mem_cons_of_mem _ z,u⟩
theorem kQ.set{H:Hp}{kvs:List (Key×V)}{as:List Addr}{lt:List (Str×List Wo)}(h:kQ H kvs as lt){k:Str}{a:Addr}(r:List Wo)(hk:bT kvs (.inr k)=some (.ref a))(nd:as.Nodup):kQ (Zs H a (.lst (r.map wv))) kvs as (fJ lt k r):=by
 induction h with
 | nil=>cases hk
 | @cons b j ws kvs as lt e hr ih =>
  rw[List.nodup_cons] at nd;by_cases hj:j=k
  ·subst hj;rw[cP rfl] at hk;cases hk;rw[fJ,if_pos rfl];exact .cons aA (hr.keep fun c hc o h=>by rw[aG (show c≠a from fun z=>nd.1 (by rw[<- z];exact hc))];exact h)
  ·rw[cD (fun z=>hj (Key.inr.inj z))] at hk;rw[fJ,if_neg hj];have ha:a∈as:=by
    rcases hr.look k with⟨x,_⟩|⟨c,_,x,_,y,_⟩
    ·rw[x] at hk;cases hk
    ·rw[x] at hk;cases hk;exact y
   exact .cons (by rw[aG (show b≠a from fun z=>nd.1 (by rw[z];exact ha))];exact e) (ih hk nd.2)
theorem kQ.snoc{H:Hp}{kvs:List (Key×V)}{as:List Addr}{lt:List (Str×List Wo)}(h:kQ H kvs as lt){k:Str}{a:Addr}{ws:List Wo}(e:H a=some (.lst (ws.map wv))):kQ H (kvs++[(.inr k,.ref a)]) (as++[a]) (lt++[(k,ws)]):=by
 induction h with
 | nil=>exact .cons e .nil
 | cons f _ ih=>exact .cons f ih
structure Pu where
 stk:Stk
 sl:Slp
 ar:Wo
 nw:Int
 nm:List (Str×Wo)
 made:Nat
 pend:List Int
 ans:List (Int×Wo)
 lt:List (Str×List Wo)
noncomputable def Pu.pl(S:Pu):Pl:=⟨k4 S.nm,S.ar,S.nw,fQ S.ans⟩
noncomputable def Pu.worth(S:Pu)(s:Say):Wo:=ev S.pl s
noncomputable def Pu.BI(S:Pu)(n:Str):Pu:={S with made:=S.made+1,pend:=S.pend++[(S.made:Int)],nm:=dO S.nm n (some (S.made:Int))}
noncomputable def Pu.pass(S:Pu):Pu:={S with stk:=iT S.stk}
noncomputable def Kq(nw:Int):Wo->Int
 | none=>if nw < 1000000000000 then nw else 1000000000000
 | some z=>if nw+(if z > 0 then z else 0) < 1000000000000 then nw+(if z > 0 then z else 0) else 1000000000000
noncomputable def Pu.ends(S:Pu)(w:Wo):Pu×Cmds:=({S with sl:=.ended w,pend:=[]},[[.str "end",wv w]])
noncomputable def Pu.Cs(S:Pu):Pu×Cmds:=({S with sl:=.worn,pend:=[]},[[.str "worn"]])
noncomputable def cA(ans:List (Int×Wo))(ws:List Wo):Wo:=(ans.find? fun p=>decide (some p.1∈ws)).map (·.1)
noncomputable def Eh(i:Int):List Int->List Int
 | []=>[i]
 | j::r=>if i < j then i::j::r else if i=j then j::r else j::Eh i r
noncomputable def cS(pend:List Int):List Wo->List Int
 | []=>[]
 | none::r=>cS pend r
 | some i::r=>if i∈pend then Eh i (cS pend r) else cS pend r
noncomputable def cU(S:Pu):Stm->Pu×Cmds
 | .set x s=>({S with nm:=dO S.nm x (S.worth s)},[])
 | .order x y s=>(S.BI x,[[.str "order",.int S.made,.str y,wv (S.worth s)]])
 | .child x y s=>(S.BI x,[[.str "child",.int S.made,.str y,wv (S.worth s)]])
 | .ZJ x s=>(S.BI x,[[.str "timer",.int S.made,.int (Kq S.nw (S.worth s))]])
 | .send s k r=>(S,[[.str "send",wv (S.worth s),.str k,wv (S.worth r)]])
 | .drop s=>match S.worth s with
  | some i=>if i∈S.pend then ({S with pend:=S.pend.filter fun j=>decide (j≠i)},[[.str "drop",.int i]]) else (S,[])
  | none=>(S,[])
 | .ZA x k=>match (cK S.lt k).getD [] with
  | w::r=>({S with nm:=dO S.nm x w,lt:=fJ S.lt k r},[])
  | []=>({S with sl:=.ZA k},[])
 | .wait x ss=>if cA S.ans (ss.map S.worth)=none/\cS S.pend (ss.map S.worth)≠[] then ({S with sl:=.wait (cS S.pend (ss.map S.worth))},[]) else ({S with nm:=dO S.nm x (cA S.ans (ss.map S.worth))},[])
 | .fin s=>S.ends (S.worth s)
 | .whl _ _=>(S,[])
 | .iff _ _ _=>(S,[])
noncomputable def Stm.isB:Stm->Bool
 | .whl _ _=>true
 | .iff _ _ _=>true
 | _=>false
noncomputable def Pu.enter(S:Pu)(c:Nat)(b:List Stm):Pu:={S with stk:=(c,b,0)::S.stk}
noncomputable def Aa(S:Pu):Stm->Pu
 | .whl s b=>if num (S.worth s)=0 then S.pass else S.enter 0 b
 | .iff s b o=>if num (S.worth s)=0 then S.enter 1 o else S.enter 0 b
 | _=>S
noncomputable def one(S:Pu)(m:Stm):Pu×Cmds:=if m.isB=true then (Aa S m,[]) else (if (cU S m).1.sl.isN=true then (cU S m).1.pass else (cU S m).1,(cU S m).2)
noncomputable def Pu.cG(S:Pu):Pu:={S with stk:=cZ S.stk}
noncomputable def iQ:Nat->Pu->Pu×Cmds
 | 0,S=>match cI S.cG.stk with
  | none=>S.cG.ends none
  | some _=>S.cG.Cs
 | n+1,S=>match cI S.cG.stk with
  | none=>S.cG.ends none
  | some m=>if (one S.cG m).1.sl.isN=true then ((iQ n (one S.cG m).1).1,(one S.cG m).2++(iQ n (one S.cG m).1).2) else one S.cG m
noncomputable def Pu.wake(S:Pu)(w:Wo):Pu×Cmds:=match cI S.stk with
 | some (.ZA x _)=>iQ 300 {S with nm:=dO S.nm x w,stk:=iT S.stk,sl:=.Zu}
 | some (.wait x _)=>iQ 300 {S with nm:=dO S.nm x w,stk:=iT S.stk,sl:=.Zu}
 | _=>(S,[])
noncomputable def later(nw m:Int):Int:=if m > nw then m else nw
noncomputable def Say.sok(s:Say):Prop:=s.ok/\s.depth<=6
mutual
noncomputable def Stm.gd(wt:Bool):Stm->Prop
 | .set _ s=>s.sok
 | .order _ _ s=>s.sok
 | .child _ _ s=>s.sok
 | .ZJ _ s=>s.sok
 | .send s _ r=>s.sok/\r.sok
 | .drop s=>s.sok
 | .wait _ ss=>wt=true/\ss.length<=4/\∀ s∈ss,s.sok
 | .ZA _ _=>True
 | .fin s=>s.sok
 | .whl s b=>s.sok/\qS wt b
 | .iff s b o=>s.sok/\qS wt b/\qS wt o
noncomputable def qS(wt:Bool):List Stm->Prop
 | []=>True
 | m::ms=>m.gd wt/\qS wt ms
end
theorem FE{wt:Bool}:∀ {b:List Stm} {i:Nat} {m:Stm},qS wt b->b[i]?=some m->m.gd wt
 | [],_,_,_,h=>by simp at h
 | _::_,0,_,g,h=>by simp only[List.getElem?_cons_zero,Option.some.injEq] at h;subst h;simp only[qS] at g;exact g.1
 | _::b,i+1,_,g,h=>by simp only[qS] at g;exact FE g.2 (by simpa using h)
theorem Fn:∀ {b:List Stm} {i:Nat} {m:Stm},b[i]?=some m->m.dp<=qO b
 | [],_,_,h=>by simp at h
 | _::_,0,_,h=>by simp only[List.getElem?_cons_zero,Option.some.injEq] at h;subst h;simp only[qO];omega
 | _::b,i+1,_,h=>by have:=Fn (b:=b) (by simpa using h);simp only[qO];omega
noncomputable def Y9:Stk->Prop
 | []=>True
 | (_,b,_)::r=>qO b+r.length<=20/\Y9 r
structure Bp(wt:Bool)(st:Stk):Prop where
 ok:BQ st
 gd:∀ x∈st,qS wt x.2.1
 dp:Y9 st
structure ZH(wt:Bool)(S:Pu)(N:Nat):Prop where
 nm:S.nm.length<=N
 md:S.made<=N
 pd:S.pend.length<=N
 an:S.ans.length<=N
 lt:S.lt.length<=N
 lw:∀ k ws,cK S.lt k=some ws->ws.length<=N/\∀ w∈ws,eY w
 pl:S.pl.Ok
 nw:0<=S.nw/\S.nw<=1000000000000
 sk:Bp wt S.stk
 sl:(∀ k,S.sl=.ZA k->∃ x,cI S.stk=some (.ZA x k))/\∀ ts,S.sl=.wait ts->∃ x ss,cI S.stk=some (.wait x ss)
structure Cl where
 r:Addr
 w:Addr
 t:Addr
structure Rn where
 x:Addr
 dx:Addr
 wk:Addr
 wx:Addr
 lb:Addr
 ln:Addr
 nm:Addr
 tk:Addr
 tx:Addr
 dp:Addr
 da:Addr
 lt:Addr
noncomputable def Rn.cells(R:Rn):List Addr:=[R.x,R.lb,R.ln,R.nm,R.tk,R.dp,R.da,R.lt]
theorem iL.keep{C:Addr}{H H':Hp}{wk wx lb ln:Addr}{st:Stk}(W:iL C H wk wx lb ln st)(k1:∀ o,H wk=some o->H' wk=some o)(k2:∀ o,H lb=some o->H' lb=some o)(k3:∀ o,H ln=some o->H' ln=some o)(kt:aK H H'):iL C H' wk wx lb ln st:=by
 obtain⟨vs,e,h⟩:=W.bl;exact⟨k1 _ W.ins,⟨vs,k2 _ e,h.kp kt⟩,k3 _ W.nu,W.ne,W.few⟩
theorem jA.keep{C:Addr}{H H':Hp}{tk tx dp da:Addr}{made:Nat}{pend:List Int}{ans:List (Int×Wo)}(T:jA C H tk tx dp da made pend ans)(k1:∀ o,H tk=some o->H' tk=some o)(k2:∀ o,H dp=some o->H' dp=some o)(k3:∀ o,H da=some o->H' da=some o):jA C H' tk tx dp da made pend ans :=
 ⟨k1 _ T.ins,k2 _ T.hp,k3 _ T.ha,T.nda,T.lt,T.asc,T.la,T.dis,T.small⟩
structure bA(C:Cl)(H:Hp)(R:Rn)(as:List Addr)(sl:V)(S:Pu):Prop where
 ins:H R.x=some (.ins C.r R.dx [("walk",.ref R.wk),("sleep",sl),("arg",wv S.ar),("now",.int S.nw),("names",.ref R.nm),("tickets",.ref R.tk),("letters",.ref R.lt)])
 slp:iD H sl S.sl
 wk:iL C.w H R.wk R.wx R.lb R.ln S.stk
 tk:jA C.t H R.tk R.tx R.dp R.da S.made S.pend S.ans
 nm:H R.nm=some (.dK (l8 S.nm))
 lt:∃ kvs,H R.lt=some (.dK kvs)/\kQ H kvs as S.lt
 nas:as.Nodup
 ab:∀ a∈as,a≠R.lb/\a≠R.ln
 xw:R.x≠R.wk
 xt:R.x≠R.tk
 wt:R.wk≠R.tk
 n1:R.nm≠R.dp
 n2:R.nm≠R.da
 n3:R.nm≠R.lt
 n4:R.lt≠R.dp
 n5:R.lt≠R.da
theorem kD{H:Hp}{p b:Addr}{o u v:HO}(e:H p=some o)(h:H b=some v)(d:v≠o):Zs H p u b=some v:=by
 rw[aG (dW h e d)];exact h
theorem aK.tT{H:Hp}{p:Addr}{o u:HO}(e:H p=some o)(d:∀ xs,o≠.tup xs):aK H (Zs H p u):=fun a xs h=>kD e h (d xs).symm
section
variable {C:Cl} {H H':Hp} {R:Rn} {as ZP:List Addr} {sl:V} {S:Pu}
theorem bA.keep(A:bA C H R as sl S)(k:∀ b o,H b=some o->b=R.wk\/b∈R.cells\/b∈as->H' b=some o)(kt:aK H H'):bA C H' R as sl S:=by
 obtain⟨kvs,e,L⟩:=A.lt;have c:∀ {b:Addr} {o:HO},b∈R.cells->H b=some o->H' b=some o:=fun {b o} h e=>k b o e (.inr (.inl h));exact {A with
  ins:=c (by simp[Rn.cells]) A.ins
  slp:=A.slp.kt kt
  wk:=A.wk.keep (fun o h=>k _ o h (.inl rfl)) (fun o h=>c (by simp[Rn.cells]) h) (fun o h=>c (by simp[Rn.cells]) h) kt
  tk:=A.tk.keep (fun o h=>c (by simp[Rn.cells]) h) (fun o h=>c (by simp[Rn.cells]) h) (fun o h=>c (by simp[Rn.cells]) h)
  nm:=c (by simp[Rn.cells]) A.nm
  lt:=⟨kvs,c (by simp[Rn.cells]) e,L.keep fun a ha o h=>k a o h (.inr (.inr ha))⟩}
theorem bA.kp(A:bA C H R as sl S)(k:Kp [] H H'):bA C H' R as sl S:=A.keep (fun _ _ h _=>k.at h) (aK.nil k)
theorem bA.cellK(A:bA C H R as sl S){b:Addr}(h:b∈R.cells\/b∈as):∃ o,H b=some o/\∀ xs,o≠.tup xs:=by
 obtain⟨kvs,e,L⟩:=A.lt;obtain⟨vs,el,_⟩:=A.wk.bl;rcases h with h|h
 ·simp only[Rn.cells,List.mem_cons,List.not_mem_nil,or_false] at h;rcases h with rfl|rfl|rfl|rfl|rfl|rfl|rfl|rfl
  ·exact⟨_,A.ins,fun _ z=>by cases z⟩
  ·exact⟨_,el,fun _ z=>by cases z⟩
  ·exact⟨_,A.wk.nu,fun _ z=>by cases z⟩
  ·exact⟨_,A.nm,fun _ z=>by cases z⟩
  ·exact⟨_,A.tk.ins,fun _ z=>by cases z⟩
  ·exact⟨_,A.tk.hp,fun _ z=>by cases z⟩
  ·exact⟨_,A.tk.ha,fun _ z=>by cases z⟩
  ·exact⟨_,e,fun _ z=>by cases z⟩
 ·obtain⟨xs,ex⟩:=L.ex b h;exact⟨_,ex,fun _ z=>by cases z⟩
structure Fw(R:Rn)(as ZP:List Addr)(H H':Hp):Prop where
 kp:∀ b o,H b=some o->b∉R.cells->b∉as->H' b=some o
 dom:∀ b o,H b=some o->∃ o',H' b=some o'
 new:∀ a∈ZP,a∈as\/H a=none
theorem Fw.refl:Fw R as as H H:=⟨fun _ _ h _ _=>h,fun _ o h=>⟨o,h⟩,fun _ h=>.inl h⟩
theorem Fw.free(F:Fw R as ZP H H'){c:Addr}(h:H' c=none):H c=none:=by
 cases z:H c with
 | none=>rfl
 | some o=>obtain⟨o',z'⟩:=F.dom c o z;rw[h] at z';cases z'
theorem Fw.trans{abX:List Addr}{H'':Hp}(a:Fw R as ZP H H')(b:Fw R ZP abX H' H''):Fw R as abX H H'' :=
  ⟨fun c o h n m=>b.kp c o (a.kp c o h n m) n (fun z=>by
      rcases a.new c z with y|y
      · exact m y
      · rw[h] at y;cases y),fun c o h=>(by obtain⟨o',h'⟩:=a.dom c o h;exact b.dom c o' h'),fun c h=>by
    rcases b.new c h with y|y
    · exact a.new c y
    · exact .inr (a.free y)⟩
theorem Fw.of(k:Kp [] H H'):Fw R as as H H':=⟨fun b o h _ _=>k.at h,fun b o h=>⟨o,k.at h⟩,fun _ h=>.inl h⟩
theorem Fw.set{p:Addr}{o:HO}(h:p∈R.cells\/p∈as):Fw R as as H (Zs H p o) :=
 ⟨fun b u e n m=>by rw[aG (fun z=>by rcases h with h|h;exact n (by rw[z];exact h);exact m (by rw[z];exact h))];exact e,fun b u e=>by by_cases z:b=p;exact⟨o,by rw[z,aA]⟩;exact⟨u,by rw[aG z];exact e⟩,fun _ h=>.inl h⟩
theorem Fw.ofD{D:List Addr}(k:Kp D H H')(h:∀ b∈D,b∈R.cells/\∃ o,H' b=some o):Fw R as as H H' :=
 ⟨fun b o e n _=>k b o e fun z=>n (h b z).1,fun b o e=>by by_cases z:b∈D;exact(h b z).2;exact⟨o,k b o e z⟩,fun _ h=>.inl h⟩
theorem Fw.fresh{c:Addr}{o:HO}(F:Fw R as ZP H H')(h:H c=none):Fw R as ZP H (Zs H' c o) :=
 ⟨fun b u e n m=>by rw[aG (aJ e h)];exact F.kp b u e n m,fun b u e=>by rw[aG (aJ e h)];exact F.dom b u e,F.new⟩
theorem bA.tkp(A:bA C H R as sl S)(F:Fw R as ZP H H'):aK H H':=fun b xs h=>F.kp b _ h (fun z=>by
    obtain⟨o,e,d⟩:=A.cellK (.inl z);rw[h] at e;exact d xs (Option.some.inj e).symm) fun z=>by
    obtain⟨o,e,d⟩:=A.cellK (.inr z);rw[h] at e;exact d xs (Option.some.inj e).symm
theorem bA.dX(A:bA C H R as sl S){c:Addr}(h:H c=none):c∉R.cells/\c∉as:=by
 refine⟨fun z=>?_,fun z=>?_⟩
 ·obtain⟨o,e,d⟩:=A.cellK (.inl z);rw[h] at e;cases e
 ·obtain⟨o,e,d⟩:=A.cellK (.inr z);rw[h] at e;cases e
theorem bA.attr(A:bA C H R as sl S)(ZM:V)(s':Slp)(ar':Wo)(nw':Int)(h:iD H ZM s'):bA C (Zs H R.x (.ins C.r R.dx [("walk",.ref R.wk),("sleep",ZM),("arg",wv ar'),("now",.int nw'),("names",.ref R.nm),("tickets",.ref R.tk),("letters",.ref R.lt)])) R as ZM {S with sl:=s',ar:=ar',nw:=nw'}:=by
 obtain⟨kvs,e,L⟩:=A.lt;obtain⟨vs,el,_⟩:=A.wk.bl;have kt:aK H (Zs H R.x (.ins C.r R.dx [("walk",.ref R.wk),("sleep",ZM),("arg",wv ar'),("now",.int nw'),("names",.ref R.nm),("tickets",.ref R.tk),("letters",.ref R.lt)])):=aK.tT A.ins (by intro _ z;cases z);exact {A with
  ins:=aA
  slp:=h.kt kt
  wk:=A.wk.keep (fun o h=>by rw[aG A.xw.symm];exact h) (fun o h=>by rw[el] at h;cases h;exact kD A.ins el (by intro z;cases z)) (fun o h=>by rw[A.wk.nu] at h;cases h;exact kD A.ins A.wk.nu (by intro z;cases z)) kt
  tk:=A.tk.keep (fun o h=>by rw[aG A.xt.symm];exact h) (fun o h=>by rw[A.tk.hp] at h;cases h;exact kD A.ins A.tk.hp (by intro z;cases z)) (fun o h=>by rw[A.tk.ha] at h;cases h;exact kD A.ins A.tk.ha (by intro z;cases z))
  nm:=kD A.ins A.nm (by intro z;cases z)
  lt:=⟨kvs,kD A.ins e (by intro z;cases z),L.keep fun a ha o h=>by obtain⟨xs,ex⟩:=L.ex a ha;rw[ex] at h;cases h;exact kD A.ins ex (by intro z;cases z)⟩}
theorem bA.walk(A:bA C H R as sl S){st:Stk}(W:iL C.w H' R.wk R.wx R.lb R.ln st)(k:Kp [R.lb,R.ln] H H'):bA C H' R as sl {S with stk:=st}:=by
 obtain⟨kvs,e,L⟩:=A.lt;obtain⟨vs,el,_⟩:=A.wk.bl;have at':∀ {b:Addr} {o:HO},H b=some o->(∀ xs,o≠.lst xs)->H' b=some o:=fun {b o} h d=>k b o h (by
  simp only[List.mem_cons,List.not_mem_nil,or_false,not_or];exact⟨dW h el (d _),dW h A.wk.nu (d _)⟩)
 have kt:aK H H':=fun b xs h=>at' h (by intro _ z;cases z);exact {A with
  ins:=at' A.ins (by intro _ z;cases z)
  slp:=A.slp.kt kt
  wk:=W
  tk:=⟨at' A.tk.ins (by intro _ z;cases z),at' A.tk.hp (by intro _ z;cases z),at' A.tk.ha (by intro _ z;cases z),A.tk.nda,A.tk.lt,A.tk.asc,A.tk.la,A.tk.dis,A.tk.small⟩
  nm:=at' A.nm (by intro _ z;cases z)
  lt:=⟨kvs,at' e (by intro _ z;cases z),L.keep fun a ha o h=>k a o h (by
   simp only[List.mem_cons,List.not_mem_nil,or_false,not_or];exact A.ab a ha)⟩}
theorem bA.zT(_:bA C H R as sl S){st:Stk}(W:iL C.w H' R.wk R.wx R.lb R.ln st)(k:Kp [R.lb,R.ln] H H'):Fw R as as H H':=Fw.ofD k fun b hb=>by
 obtain⟨vs,el,_⟩:=W.bl;simp only[List.mem_cons,List.not_mem_nil,or_false] at hb;rcases hb with rfl|rfl
 ·exact⟨by simp[Rn.cells],_,el⟩
 ·exact⟨by simp[Rn.cells],_,W.nu⟩
theorem bA.tick(A:bA C H R as sl S){md:Nat}{pd:List Int}{an:List (Int×Wo)}(T:jA C.t H' R.tk R.tx R.dp R.da md pd an)(k:Kp [R.tk,R.dp,R.da] H H'):bA C H' R as sl {S with made:=md,pend:=pd,ans:=an}:=by
 obtain⟨kvs,e,L⟩:=A.lt;obtain⟨vs,el,_⟩:=A.wk.bl;have at':∀ {b:Addr} {o:HO},H b=some o->(∀ xs,o≠.dK xs)->(∀ C d f,o≠.ins C d f)->H' b=some o:=fun {b o} h d d2=>k b o h (by
  simp only[List.mem_cons,List.not_mem_nil,or_false,not_or];exact⟨dW h A.tk.ins (d2 _ _ _),dW h A.tk.hp (d _),dW h A.tk.ha (d _)⟩)
 have iK:∀ {b:Addr} {o:HO},H b=some o->(∀ xs,o≠.dK xs)->b≠R.tk->H' b=some o:=fun {b o} h d d2=>k b o h (by
  simp only[List.mem_cons,List.not_mem_nil,or_false,not_or];exact⟨d2,dW h A.tk.hp (d _),dW h A.tk.ha (d _)⟩)
 have atD:∀ {b:Addr} {o:HO},H b=some o->(∀ C d f,o≠.ins C d f)->b≠R.dp->b≠R.da->H' b=some o:=fun {b o} h d d2 d3=>k b o h (by
  simp only[List.mem_cons,List.not_mem_nil,or_false,not_or];exact⟨dW h A.tk.ins (d _ _ _),d2,d3⟩)
 have kt:aK H H':=fun b xs h=>at' h (by intro _ z;cases z) (by intro _ _ _ z;cases z);exact {A with
  ins:=iK A.ins (by intro _ z;cases z) A.xt
  slp:=A.slp.kt kt
  wk:=A.wk.keep (fun o h=>by rw[A.wk.ins] at h;cases h;exact iK A.wk.ins (by intro _ z;cases z) A.wt) (fun o h=>by rw[el] at h;cases h;exact at' el (by intro _ z;cases z) (by intro _ _ _ z;cases z)) (fun o h=>by rw[A.wk.nu] at h;cases h;exact at' A.wk.nu (by intro _ z;cases z) (by intro _ _ _ z;cases z)) kt
  tk:=T
  nm:=atD A.nm (by intro _ _ _ z;cases z) A.n1 A.n2
  lt:=⟨kvs,atD e (by intro _ _ _ z;cases z) A.n4 A.n5,L.keep fun a ha o h=>by obtain⟨xs,ex⟩:=L.ex a ha;rw[ex] at h;cases h;exact at' ex (by intro _ z;cases z) (by intro _ _ _ z;cases z)⟩}
theorem bA.Ea(_:bA C H R as sl S){md:Nat}{pd:List Int}{an:List (Int×Wo)}(T:jA C.t H' R.tk R.tx R.dp R.da md pd an)(k:Kp [R.tk,R.dp,R.da] H H'):Fw R as as H H':=Fw.ofD k fun b hb=>by
 simp only[List.mem_cons,List.not_mem_nil,or_false] at hb;rcases hb with rfl|rfl|rfl
 ·exact⟨by simp[Rn.cells],_,T.ins⟩
 ·exact⟨by simp[Rn.cells],_,T.hp⟩
 ·exact⟨by simp[Rn.cells],_,T.ha⟩
theorem bA.name(A:bA C H R as sl S)(n:Str)(w:Wo):bA C (Zs H R.nm (.dK (l8 (dO S.nm n w)))) R as sl {S with nm:=dO S.nm n w}:=by
 obtain⟨kvs,e,L⟩:=A.lt;obtain⟨vs,el,_⟩:=A.wk.bl;have at':∀ {b:Addr} {o:HO},H b=some o->(∀ xs,o≠.dK xs)->Zs H R.nm (.dK (l8 (dO S.nm n w))) b=some o:=fun {b o} h d=>kD A.nm h (d _);have kt:aK H _:=fun b xs h=>at' h (by intro _ z;cases z);exact {A with
  ins:=at' A.ins (by intro _ z;cases z)
  slp:=A.slp.kt kt
  wk:=A.wk.keep (fun o h=>by rw[A.wk.ins] at h;cases h;exact at' A.wk.ins (by intro _ z;cases z)) (fun o h=>by rw[el] at h;cases h;exact at' el (by intro _ z;cases z)) (fun o h=>by rw[A.wk.nu] at h;cases h;exact at' A.wk.nu (by intro _ z;cases z)) kt
  tk:=A.tk.keep (fun o h=>by rw[A.tk.ins] at h;cases h;exact at' A.tk.ins (by intro _ z;cases z)) (fun o h=>by rw[aG A.n1.symm];exact h) (fun o h=>by rw[aG A.n2.symm];exact h)
  nm:=aA
  lt:=⟨kvs,by rw[aG A.n3.symm];exact e,L.keep fun a ha o h=>by obtain⟨xs,ex⟩:=L.ex a ha;rw[ex] at h;cases h;exact at' ex (by intro _ z;cases z)⟩}
theorem bA.BF(A:bA C H R as sl S){kvs:List (Key×V)}{k:Str}{l:Addr}(e:H R.lt=some (.dK kvs))(hk:bT kvs (.inr k)=some (.ref l))(r:List Wo):bA C (Zs H l (.lst (r.map wv))) R as sl {S with lt:=fJ S.lt k r}/\l∈as:=by
 obtain⟨ac3,e',L⟩:=A.lt;rw[e] at e';cases e';obtain⟨vs,el,_⟩:=A.wk.bl;obtain⟨ws,hl,hla⟩:∃ ws:List Wo,H l=some (.lst (ws.map wv))/\l∈as:=by
  rcases L.look k with⟨x,_⟩|⟨c,ws,x,_,y,z⟩
  ·rw[x] at hk;cases hk
  ·rw[x] at hk;cases hk;exact⟨ws,z,y⟩
 have at':∀ {b:Addr} {o:HO},H b=some o->(∀ xs,o≠.lst xs)->Zs H l (.lst (r.map wv)) b=some o:=fun {b o} h d=>kD hl h (d _);have kt:aK H _:=fun b xs h=>at' h (by intro _ z;cases z);have nb:=A.ab l hla;refine⟨{A with
  ins:=at' A.ins (by intro _ z;cases z)
  slp:=A.slp.kt kt
  wk:=A.wk.keep (fun o h=>by rw[A.wk.ins] at h;cases h;exact at' A.wk.ins (by intro _ z;cases z)) (fun o h=>by rw[aG nb.1.symm];exact h) (fun o h=>by rw[aG nb.2.symm];exact h) kt
  tk:=A.tk.keep (fun o h=>by rw[A.tk.ins] at h;cases h;exact at' A.tk.ins (by intro _ z;cases z)) (fun o h=>by rw[A.tk.hp] at h;cases h;exact at' A.tk.hp (by intro _ z;cases z)) (fun o h=>by rw[A.tk.ha] at h;cases h;exact at' A.tk.ha (by intro _ z;cases z))
  nm:=at' A.nm (by intro _ z;cases z)
  lt:=⟨kvs,at' e (by intro _ z;cases z),L.set r hk A.nas⟩},hla⟩
theorem bA.OL(A:bA C H R as sl S){kvs:List (Key×V)}{k:Str}{l:Addr}{ws:List Wo}(e:H R.lt=some (.dK kvs))(hk:bT kvs (.inr k)=none)(hl:H l=some (.lst (ws.map wv)))(n1:l∉R.cells)(n2:l∉as):bA C (Zs H R.lt (.dK (eM kvs (.inr k) (.ref l)))) R (as++[l]) sl {S with lt:=S.lt++[(k,ws)]}:=by
 obtain⟨ac3,e',L⟩:=A.lt;rw[e] at e';cases e';obtain⟨vs,el,_⟩:=A.wk.bl;have at':∀ {b:Addr} {o:HO},H b=some o->(∀ xs,o≠.dK xs)->Zs H R.lt (.dK (eM kvs (.inr k) (.ref l))) b=some o:=fun {b o} h d=>kD e h (d _);have kt:aK H _:=fun b xs h=>at' h (by intro _ z;cases z);exact {A with
  ins:=at' A.ins (by intro _ z;cases z)
  slp:=A.slp.kt kt
  wk:=A.wk.keep (fun o h=>by rw[A.wk.ins] at h;cases h;exact at' A.wk.ins (by intro _ z;cases z)) (fun o h=>by rw[el] at h;cases h;exact at' el (by intro _ z;cases z)) (fun o h=>by rw[A.wk.nu] at h;cases h;exact at' A.wk.nu (by intro _ z;cases z)) kt
  tk:=A.tk.keep (fun o h=>by rw[A.tk.ins] at h;cases h;exact at' A.tk.ins (by intro _ z;cases z)) (fun o h=>by rw[aG A.n4.symm];exact h) (fun o h=>by rw[aG A.n5.symm];exact h)
  nm:=by rw[aG A.n3];exact A.nm
  lt:=⟨_,aA,by
   rw[AJ _ hk];exact(L.keep fun a ha o h=>by obtain⟨xs,ex⟩:=L.ex a ha;rw[ex] at h;cases h;exact kD e ex (by intro z;cases z)).snoc (kD e hl (by intro z;cases z))⟩
  nas:=List.nodup_append.mpr ⟨A.nas,by simp,fun a ha b hb=>by rw[show b=l by simpa using hb];exact fun z=>n2 (by rw[<- z];exact ha)⟩
  ab:=fun a ha=>by
   rcases List.mem_append.mp ha with ha|ha
   ·exact A.ab a ha
   ·rw[show a=l by simpa using ha];exact⟨fun z=>n1 (by simp[Rn.cells,z]),fun z=>n1 (by simp[Rn.cells,z])⟩}
theorem bA.other(A:bA C H R as sl S){c:Addr}{us vs:List V}(hc:H c=some (.lst us))(n1:c∉R.cells)(n2:c∉as):bA C (Zs H c (.lst vs)) R as sl S :=
 A.keep (fun b o h m=>by
  rw[aG (fun z=>by
   rcases m with m|m|m
   ·rw[z] at m;rw[m,A.wk.ins] at hc;cases hc
   ·exact n1 (by rw[<- z];exact m)
   ·exact n2 (by rw[<- z];exact m))]
  exact h) (aK.tT hc (by intro _ z;cases z))
end
theorem put2{H:Hp}{x p:Addr}{o o' u:HO}(hx:H x=some u)(hp:H p=none):Zs (Zs H p o) x o' x=some o'/\Zs (Zs H p o) x o' p=some o/\Kp [x] H (Zs (Zs H p o) x o')/\x≠p:=by
 have n:x≠p:=aJ hx hp;exact⟨aA,by rw[aG n.symm];exact aA,(Kp.new hp).trans (Kp.set (by simp)),n⟩
theorem cX{H:Hp}{a p:Addr}{o:HO}(h:Zs H a o p=none):H p=none:=by
 by_cases e:p=a
 ·subst e;rw[aA] at h;cases h
 ·rwa [aG e] at h
noncomputable def Told(C:Cl)(R:Rn)(as ZP:List Addr)(H:Hp)(Q:VK)(z:Pu×Cmds):Prop:=∀(sl:V) (c:Addr) (us:List V) (H':Hp),bA C H' R ZP sl z.1->H c=none->H' c=some (.lst us)->gI H' us z.2->Fw R as ZP H H'->Q (.ref c) H'
noncomputable def MB(C:Cl):Sp:=fun vs H Q _=>∃(R:Rn) (as:List Addr) (sl:V) (S:Pu) (v:V) (s:Say),vs=[.ref R.x,v]/\bA C H R as sl S/\S.pl.Ok/\dD H v s/\s.sok/\Q (wv (S.worth s)) H
noncomputable def Uz(C:Cl):Sp:=fun vs H Q _=>∃(R:Rn) (as:List Addr) (sl:V) (S:Pu) (n:Str),vs=[.ref R.x,.str n]/\bA C H R as sl S/\S.made < 1000000/\S.pend.length < 1000000/\S.nm.length<=1000000/\∀ H',bA C H' R as sl (S.BI n)->Fw R as as H H'->Q (.int S.made) H'
noncomputable def Uy(C:Cl):Sp:=fun vs H Q _=>∃(R:Rn) (as:List Addr) (sl:V) (S:Pu) (w:Wo),vs=[.ref R.x,wv w]/\bA C H R as sl S/\Told C R as as H Q (S.ends w)
noncomputable def UG(C:Cl):Sp:=fun vs H Q _=>∃(R:Rn) (as:List Addr) (sl:V) (S:Pu),vs=[.ref R.x]/\bA C H R as sl S/\Told C R as as H Q S.Cs
noncomputable def dP(C:Cl)(wt:Bool)(g:Stm->Prop):Sp:=fun vs H Q _=>∃(R:Rn) (as:List Addr) (sl:V) (S:Pu) (a:V) (m:Stm) (N:Nat),vs=[.ref R.x,a]/\bA C H R as sl S/\S.sl=.Zu/\cL H a m/\g m/\ZH wt S N/\m.gd wt/\N<=900000/\Told C R as as H Q (cU S m)
noncomputable def Pj(C:Cl)(wt:Bool):Sp:=fun vs H Q _=>∃(R:Rn) (as:List Addr) (sl:V) (S:Pu) (a:V) (m:Stm) (N:Nat),vs=[.ref R.x,a]/\bA C H R as sl S/\cL H a m/\m.isB=true/\ZH wt S N/\m.gd wt/\cI S.stk=some m/\∀ H',bA C H' R as sl (Aa S m)->Fw R as as H H'->Q .Zu H'
noncomputable def UA(C:Cl)(wt:Bool):Sp:=fun vs H Q _=>∃(R:Rn) (as:List Addr) (sl:V) (S:Pu) (a:V) (m:Stm) (N:Nat),vs=[.ref R.x,a]/\bA C H R as sl S/\S.sl=.Zu/\cL H a m/\ZH wt S N/\m.gd wt/\cI S.stk=some m/\N<=900000/\Told C R as as H Q (one S m)
noncomputable def Xw(C:Cl)(wt:Bool):Sp:=fun vs H Q _=>∃(R:Rn) (as:List Addr) (sl:V) (S:Pu) (N:Nat),vs=[.ref R.x]/\bA C H R as sl S/\ZH wt {S with sl:=.Zu} N/\N<=800000/\Told C R as as H Q (iQ 300 {S with sl:=.Zu})
noncomputable def Pk(C:Cl):Sp:=fun vs H Q _=>∃(R:Rn) (as:List Addr) (sl:V) (S:Pu),vs=[.ref R.x]/\bA C H R as sl S/\S.pend.length<=1000000/\∀ l,H l=none->Q (.ref l) (Zs H l (.lst (S.pend.map V.int)))
theorem Qd{wt:Bool}{S:Pu}{N:Nat}(F:ZH wt S N){s:Say}(h:s.sok):eY (S.worth s):=Qb F.pl h.1
theorem OK{y:Str}{a:Sp}{r:List (Str×Sp)}:List.lookup y ((y,a)::r)=some a:=by simp only[List.lookup,beq_self_eq_true]
theorem nM{a b:String}{s:Sp}{r:List (Str×Sp)}(h:a≠b):List.lookup (Str.ofString a) ((Str.ofString b,s)::r)=List.lookup (Str.ofString a) r:=by
 have:((Str.ofString a:Str)==Str.ofString b)=false:=beq_eq_false_iff_ne.mpr fun z=>h (by rwa [pP] at z);simp only[List.lookup,this]
theorem OJ{y k:Str}{a sp:Sp}{r:List (Str×Sp)}(h:List.lookup y ((k,a)::r)=some sp):(y=k/\sp=a)\/List.lookup y r=some sp:=by
 simp only[List.lookup] at h;split at h
 ·next z=>cases h;exact .inl ⟨eq_of_beq z,rfl⟩
 ·exact .inr h
theorem gE{st:Stk}{m:Stm}(h:cI st=some m):∃ k b n r,st=(k,b,n)::r/\b[n]?=some m:=by
 match st,h with
 | (k,b,n)::r,h=>exact⟨k,b,n,r,rfl,h⟩
theorem y8(S:Pu)(m:Stm):(cU S m).1.stk=S.stk:=by
 cases m<;>simp only[cU,Pu.BI,Pu.ends]
 ·split
  ·split<;>rfl
  ·rfl
 ·split<;>rfl
 ·split<;>rfl
theorem DY{wt:Bool}:∀ st,Bp wt st->Bp wt (cZ st)
 | [],h=>h.ok.elim
 | [x],h=>by simp only[cZ];exact h
 | (k,b,n)::(k2,b2,n2)::r,h=>by
  rw[cZ];split
  ·have o:=h.ok.2 (k2,b2,n2) (by simp);exact DY ((k2,b2,An b2 n2)::r) ⟨⟨EB o,fun x hx=>h.ok.2 x (List.mem_cons_of_mem _ hx)⟩,fun x hx=>by
    rcases List.mem_cons.mp hx with rfl|hx
    ·exact h.gd (k2,b2,n2) (by simp)
    ·exact h.gd x (by simp[hx]),⟨h.dp.2.1,h.dp.2.2⟩⟩
  ·exact h
termination_by st=>st.length
theorem ZH.cG{wt:Bool}{S:Pu}{N:Nat}(F:ZH wt S N)(h:S.sl=.Zu):ZH wt S.cG N :=
 {F with sk:=DY _ F.sk,sl:=⟨fun k e=>(by rw[show S.cG.sl=S.sl from rfl,h] at e;cases e),fun k e=>(by rw[show S.cG.sl=S.sl from rfl,h] at e;cases e)⟩}
theorem ZH.more{wt:Bool}{S:Pu}{N M:Nat}(F:ZH wt S N)(h:N<=M):ZH wt S M :=
 {F with nm:=Nat.le_trans F.nm h,md:=Nat.le_trans F.md h,pd:=Nat.le_trans F.pd h,an:=Nat.le_trans F.an h,lt:=Nat.le_trans F.lt h,lw:=fun k ws e=>⟨Nat.le_trans (F.lw k ws e).1 h,(F.lw k ws e).2⟩}
theorem Bp.pass{wt:Bool}{st:Stk}{m:Stm}(G:Bp wt st)(h:cI st=some m):Bp wt (iT st):=by
 obtain⟨k,b,n,r,rfl,hm⟩:=gE h;have hn:=(List.getElem?_eq_some_iff.mp hm).1;exact⟨⟨hn,G.ok.2⟩,fun x hx=>by
  rcases List.mem_cons.mp hx with rfl|hx
  ·exact G.gd (k,b,n) (by simp)
  ·exact G.gd x (by simp[hx]),G.dp⟩
theorem Bp.enter{wt:Bool}{st:Stk}{m:Stm}{c:Nat}{bb:List Stm}(G:Bp wt st)(h:cI st=some m)(hg:qS wt bb)(hd:qO bb+1<=m.dp):Bp wt ((c,bb,0)::st):=by
 obtain⟨k,b,n,r,rfl,hm⟩:=gE h;have hn:=(List.getElem?_eq_some_iff.mp hm).1;have h2:=Fn hm;have h3:=G.dp.1;refine⟨⟨Nat.zero_le _,fun x hx=>?_⟩,fun x hx=>?_,?_,G.dp⟩
 ·rcases List.mem_cons.mp hx with rfl|hx
  ·exact hn
  ·exact G.ok.2 x hx
 ·rcases List.mem_cons.mp hx with rfl|hx
  ·exact hg
  ·exact G.gd x hx
 ·simp only[List.length_cons];omega
theorem ZH.stm{wt:Bool}{S:Pu}{N:Nat}(F:ZH wt S N){m:Stm}(h:cI S.stk=some m):m.gd wt:=by
 obtain⟨k,b,n,r,e,hm⟩:=gE h;exact FE (F.sk.gd (k,b,n) (by rw[e];simp)) hm
theorem L3{S:Pu}(h:S.pl.Ok)(n:Str){w:Wo}(hw:eY w):({S with nm:=dO S.nm n w}:Pu).pl.Ok :=
 ⟨fun x=>by show eY (k4 (dO S.nm n w) x);rw[IT];split;exact hw;exact h.nm x,h.ar,h.an⟩
theorem uU:∀(l:List (Str×List Wo)) (k:Str) (r:List Wo) (j:Str) (ws:List Wo),cK (fJ l k r) j=some ws->(j=k/\ws=r)\/cK l j=some ws
 | [],_,_,_,_,h=>by simp[fJ,cK] at h
 | p::l,k,r,j,ws,h=>by
  by_cases e:p.1=k
  ·rw[fJ,if_pos e,cK] at h;by_cases e2:p.1=j
   ·rw[if_pos e2] at h;cases h;exact .inl ⟨by rw[<- e2,e],rfl⟩
   ·rw[if_neg e2] at h;exact .inr (by rw[cK,if_neg e2];exact h)
  ·rw[fJ,if_neg e,cK] at h;by_cases e2:p.1=j
   ·rw[if_pos e2] at h;exact .inr (by rw[cK,if_pos e2];exact h)
   ·rw[if_neg e2] at h;rcases uU l k r j ws h with x|x
    ·exact .inl x
    ·exact .inr (by rw[cK,if_neg e2];exact x)
theorem Ba:∀(l:List (Str×List Wo)) (k:Str) (r:List Wo),(fJ l k r).length=l.length
 | [],_,_=>rfl
 | p::l,k,r=>by
  rw[fJ];split
  ·rfl
  ·simp[Ba l k r]
theorem C4{ans:List (Int×Wo)}{ws:List Wo}(h:∀ w∈ws,eY w):eY (cA ans ws):=by
 unfold cA;cases e:ans.find? fun p=>decide (some p.1∈ws) with
 | none=>exact kC
 | some p =>
  have:=List.find?_some e;exact h _ (by simpa using this)
theorem B3{α:Type}{p:α->Bool}{l:List α}:(l.filter p).length<=l.length:=List.length_filter_le p l
theorem ZH.cU{wt:Bool}{S:Pu}{N:Nat}(F:ZH wt S N){m:Stm}(h:cI S.stk=some m)(hs:S.sl=.Zu)(hN:N<=900000):ZH wt (cU S m).1 (N+1):=by
 have g:=F.stm h;have F1:=F.more (Nat.le_succ N);have ZL:(∀ k,S.sl=.ZA k->∃ x,cI S.stk=some (.ZA x k))/\∀ ts,S.sl=.wait ts->∃ x ss,cI S.stk=some (.wait x ss):=F.sl;have put:∀(n:Str) {w:Wo},eY w->ZH wt {S with nm:=dO S.nm n w} (N+1):=fun n w hw =>
  {F1 with nm:=by (have:=EK S.nm n w;have:=F.nm;show(dO S.nm n w).length<=N+1;omega),pl:=L3 F.pl n hw}
 have BI:∀ n,ZH wt (S.BI n) (N+1):=fun n =>
  have hw:eY (some (S.made:Int)):=cM (by omega) (by have:=F.md;omega)
  {F1 with
   nm:=(put n hw).nm
   pl:=(put n hw).pl
   md:=(by have:=F.md;show S.made+1<=N+1;omega)
   pd:=(by have:=F.pd;show(S.pend++[(S.made:Int)]).length<=N+1;rw[List.length_append];simp;exact this)}
 cases m with
 | set x s=>exact put x (Qd F g)
 | order x y s=>exact BI x
 | child x y s=>exact BI x
 | ZJ x s=>exact BI x
 | send s k r=>exact F1
 | drop s =>
  simp only[Own.cU];split
  ·split
   ·exact {F1 with pd:=Nat.le_trans B3 (Nat.le_succ_of_le F.pd)}
   ·exact F1
  ·exact F1
 | wait x ss =>
  simp only[Own.cU];split
  ·exact {F1 with sl:=⟨fun k e=>(by cases e),fun ts e=>⟨x,ss,h⟩⟩}
  ·exact put x (C4 fun w hw=>by
    obtain⟨s,hs',rfl⟩:=List.mem_map.mp hw;exact Qd F (g.2.2 s hs'))
 | ZA x k =>
  simp only[Own.cU];split
  ·next w r e =>
   obtain⟨ws,el,rfl⟩:∃ ws,cK S.lt k=some ws/\ws=w::r:=by
    cases el:cK S.lt k with
    | none=>rw[el] at e;cases e
    | some ws=>rw[el] at e;exact⟨ws,rfl,e⟩
   have hl:=F.lw k _ el;exact {put x (hl.2 w (by simp)) with
    lt:=(by have:=F.lt;show(fJ S.lt k r).length<=N+1;rw[Ba];omega)
    lw:=fun j vs hj=>by
     rcases uU S.lt k r j vs hj with⟨_,rfl⟩|z
     ·exact⟨by have:=hl.1;simp only[List.length_cons] at this;omega,fun w hw=>hl.2 w (List.mem_cons_of_mem _ hw)⟩
     ·exact F1.lw j vs z}
  ·exact {F1 with sl:=⟨fun k' e=>(by cases e;exact⟨x,h⟩),fun ts e=>(by cases e)⟩}
 | fin s=>exact {F1 with pd:=Nat.zero_le _,sl:=⟨fun k e=>(by cases e),fun k e=>(by cases e)⟩}
 | whl s b=>exact F1
 | iff s b o=>exact F1
theorem C7{s:Slp}(h:s.isN=true):s=.Zu:=by cases s<;>first|rfl|cases h
theorem ZH.one{wt:Bool}{S:Pu}{N:Nat}(F:ZH wt S N){m:Stm}(h:cI S.stk=some m)(hs:S.sl=.Zu)(hN:N<=900000):ZH wt (one S m).1 (N+1):=by
 have g:=F.stm h;have F1:=F.more (Nat.le_succ N);have adP:∀ {st:Stk},ZH wt {S with stk:=st} (N+1)->ZH wt {S with stk:=st} (N+1):=fun z=>z;have pass:∀ {S':Pu},ZH wt S' (N+1)->S'.sl=.Zu->S'.stk=S.stk->ZH wt S'.pass (N+1):=fun {S'} z a b =>
  {z with sk:=(by have:=z.sk;rw[b] at this;show Bp wt (iT S'.stk);rw[b];exact this.pass h),sl:=⟨fun k e=>(by rw[show S'.pass.sl=S'.sl from rfl,a] at e;cases e),fun k e=>(by rw[show S'.pass.sl=S'.sl from rfl,a] at e;cases e)⟩}
 have enter:∀(c:Nat) (bb:List Stm),qS wt bb->qO bb+1<=m.dp->ZH wt (S.enter c bb) (N+1):=fun c bb hg hd =>
  {F1 with sk:=F.sk.enter h hg hd,sl:=⟨fun k e=>(by rw[show(S.enter c bb).sl=S.sl from rfl,hs] at e;cases e),fun k e=>(by rw[show(S.enter c bb).sl=S.sl from rfl,hs] at e;cases e)⟩}
 by_cases hB:m.isB=true
 ·simp only[Own.one,if_pos hB];cases m with
  | whl s b =>
   simp only[Aa];split
   ·exact pass F1 hs rfl
   ·exact enter 0 b g.2 (by simp[Stm.dp])
  | iff s b o =>
   simp only[Aa];split
   ·exact enter 1 o g.2.2 (by simp[Stm.dp];omega)
   ·exact enter 0 b g.2.1 (by simp[Stm.dp];omega)
  | _=>cases hB
 ·simp only[Own.one,if_neg hB];have D:=F.cU h hs hN;split
  ·next z=>exact pass D (C7 z) (y8 S m)
  ·exact D
theorem T8{S:Pu}{m:Stm}(h:m.isB=false):one S m=(if (cU S m).1.sl.isN=true then (cU S m).1.pass else (cU S m).1,(cU S m).2):=by simp[one,h]
theorem Qi{S:Pu}{m:Stm}(h:m.isB=true):one S m=(Aa S m,[]):=by simp[one,h]
theorem mN{s0 s1 s2 s3 s4 s5 s6 s7 s8:Sp}:List.lookup (Str.ofString "set") [((Str.ofString "set":Str),s0),((Str.ofString "order":Str),s1),((Str.ofString "timer":Str),s2),((Str.ofString "child":Str),s3),((Str.ofString "send":Str),s4),((Str.ofString "drop":Str),s5),((Str.ofString "wait":Str),s6),((Str.ofString "hear":Str),s7),((Str.ofString "end":Str),s8)]=some s0:=by rw[OK]
theorem gQ{s0 s1 s2 s3 s4 s5 s6 s7 s8:Sp}:List.lookup (Str.ofString "order") [((Str.ofString "set":Str),s0),((Str.ofString "order":Str),s1),((Str.ofString "timer":Str),s2),((Str.ofString "child":Str),s3),((Str.ofString "send":Str),s4),((Str.ofString "drop":Str),s5),((Str.ofString "wait":Str),s6),((Str.ofString "hear":Str),s7),((Str.ofString "end":Str),s8)]=some s1:=by rw[nM (by decide),OK]
theorem gR{s0 s1 s2 s3 s4 s5 s6 s7 s8:Sp}:List.lookup (Str.ofString "timer") [((Str.ofString "set":Str),s0),((Str.ofString "order":Str),s1),((Str.ofString "timer":Str),s2),((Str.ofString "child":Str),s3),((Str.ofString "send":Str),s4),((Str.ofString "drop":Str),s5),((Str.ofString "wait":Str),s6),((Str.ofString "hear":Str),s7),((Str.ofString "end":Str),s8)]=some s2:=by rw[nM (by decide),nM (by decide),OK]
theorem gP{s0 s1 s2 s3 s4 s5 s6 s7 s8:Sp}:List.lookup (Str.ofString "child") [((Str.ofString "set":Str),s0),((Str.ofString "order":Str),s1),((Str.ofString "timer":Str),s2),((Str.ofString "child":Str),s3),((Str.ofString "send":Str),s4),((Str.ofString "drop":Str),s5),((Str.ofString "wait":Str),s6),((Str.ofString "hear":Str),s7),((Str.ofString "end":Str),s8)]=some s3:=by rw[nM (by decide),nM (by decide),nM (by decide),OK]
theorem jF{s0 s1 s2 s3 s4 s5 s6 s7 s8:Sp}:List.lookup (Str.ofString "send") [((Str.ofString "set":Str),s0),((Str.ofString "order":Str),s1),((Str.ofString "timer":Str),s2),((Str.ofString "child":Str),s3),((Str.ofString "send":Str),s4),((Str.ofString "drop":Str),s5),((Str.ofString "wait":Str),s6),((Str.ofString "hear":Str),s7),((Str.ofString "end":Str),s8)]=some s4:=by rw[nM (by decide),nM (by decide),nM (by decide),nM (by decide),OK]
theorem jD{s0 s1 s2 s3 s4 s5 s6 s7 s8:Sp}:List.lookup (Str.ofString "drop") [((Str.ofString "set":Str),s0),((Str.ofString "order":Str),s1),((Str.ofString "timer":Str),s2),((Str.ofString "child":Str),s3),((Str.ofString "send":Str),s4),((Str.ofString "drop":Str),s5),((Str.ofString "wait":Str),s6),((Str.ofString "hear":Str),s7),((Str.ofString "end":Str),s8)]=some s5:=by rw[nM (by decide),nM (by decide),nM (by decide),nM (by decide),nM (by decide),OK]
theorem jG{s0 s1 s2 s3 s4 s5 s6 s7 s8:Sp}:List.lookup (Str.ofString "wait") [((Str.ofString "set":Str),s0),((Str.ofString "order":Str),s1),((Str.ofString "timer":Str),s2),((Str.ofString "child":Str),s3),((Str.ofString "send":Str),s4),((Str.ofString "drop":Str),s5),((Str.ofString "wait":Str),s6),((Str.ofString "hear":Str),s7),((Str.ofString "end":Str),s8)]=some s6:=by rw[nM (by decide),nM (by decide),nM (by decide),nM (by decide),nM (by decide),nM (by decide),OK]
theorem jE{s0 s1 s2 s3 s4 s5 s6 s7 s8:Sp}:List.lookup (Str.ofString "hear") [((Str.ofString "set":Str),s0),((Str.ofString "order":Str),s1),((Str.ofString "timer":Str),s2),((Str.ofString "child":Str),s3),((Str.ofString "send":Str),s4),((Str.ofString "drop":Str),s5),((Str.ofString "wait":Str),s6),((Str.ofString "hear":Str),s7),((Str.ofString "end":Str),s8)]=some s7:=by rw[nM (by decide),nM (by decide),nM (by decide),nM (by decide),nM (by decide),nM (by decide),nM (by decide),OK]
theorem mM{s0 s1 s2 s3 s4 s5 s6 s7 s8:Sp}:List.lookup (Str.ofString "end") [((Str.ofString "set":Str),s0),((Str.ofString "order":Str),s1),((Str.ofString "timer":Str),s2),((Str.ofString "child":Str),s3),((Str.ofString "send":Str),s4),((Str.ofString "drop":Str),s5),((Str.ofString "wait":Str),s6),((Str.ofString "hear":Str),s7),((Str.ofString "end":Str),s8)]=some s8:=by rw[nM (by decide),nM (by decide),nM (by decide),nM (by decide),nM (by decide),nM (by decide),nM (by decide),nM (by decide),OK]
theorem deeds9{Z:Str->Sp->Prop}{y:Str}{sp s0 s1 s2 s3 s4 s5 s6 s7 s8:Sp}(h:List.lookup y [((Str.ofString "set":Str),s0),((Str.ofString "order":Str),s1),((Str.ofString "timer":Str),s2),((Str.ofString "child":Str),s3),((Str.ofString "send":Str),s4),((Str.ofString "drop":Str),s5),((Str.ofString "wait":Str),s6),((Str.ofString "hear":Str),s7),((Str.ofString "end":Str),s8)]=some sp)(z0:Z "set" s0)(z1:Z "order" s1)(z2:Z "timer" s2)(z3:Z "child" s3)(z4:Z "send" s4)(z5:Z "drop" s5)(z6:Z "wait" s6)(z7:Z "hear" s7)(z8:Z "end" s8):Z y sp:=by
 rcases OJ h with⟨rfl,rfl⟩|h
 ·exact z0
 rcases OJ h with⟨rfl,rfl⟩|h
 ·exact z1
 rcases OJ h with⟨rfl,rfl⟩|h
 ·exact z2
 rcases OJ h with⟨rfl,rfl⟩|h
 ·exact z3
 rcases OJ h with⟨rfl,rfl⟩|h
 ·exact z4
 rcases OJ h with⟨rfl,rfl⟩|h
 ·exact z5
 rcases OJ h with⟨rfl,rfl⟩|h
 ·exact z6
 rcases OJ h with⟨rfl,rfl⟩|h
 ·exact z7
 rcases OJ h with⟨rfl,rfl⟩|h
 ·exact z8
 cases h
theorem dU{S:Pu}(h:cI S.cG.stk=none)(n:Nat):iQ n S=S.cG.ends none:=by
 cases n<;>simp only[iQ,h]
theorem jS{S:Pu}{m:Stm}(h:cI S.cG.stk=some m):iQ 0 S=S.cG.Cs:=by simp only[iQ,h]
theorem pY{S:Pu}{m:Stm}(h:cI S.cG.stk=some m)(z:(one S.cG m).1.sl.isN=true)(n:Nat):iQ (n+1) S=((iQ n (one S.cG m).1).1,(one S.cG m).2++(iQ n (one S.cG m).1).2):=by simp only[iQ,h,z,if_true]
theorem jR{S:Pu}{m:Stm}(h:cI S.cG.stk=some m)(z:(one S.cG m).1.sl.isN=false)(n:Nat):iQ (n+1) S=one S.cG m:=by simp only[iQ,h,z,if_false,Bool.false_eq_true]
theorem D1(S:Pu)(m:Stm):(cU S m).2.length<=1:=by
 cases m<;>simp only[cU,Pu.ends,List.length_cons,List.length_nil,Nat.zero_le,Nat.le_refl,Nat.zero_add]
 ·split
  ·split<;>simp
  ·simp
 ·split<;>simp
 ·split<;>simp
theorem OW(S:Pu)(m:Stm):(one S m).2.length<=1:=by
 unfold one;split
 ·simp
 ·exact D1 S m
inductive Hap where
 | beg (m:Int) (w:Wo)|don (m t:Int) (w:Wo)|ltr (m:Int) (k:Str) (w:Wo)
noncomputable def Hap.ini:Hap->List V
 | .beg m _=>[.str "begin",.int m]
 | .don m t _=>[.str "done",.int m,.int t]
 | .ltr m k _=>[.str "letter",.int m,.str k]
noncomputable def Hap.w:Hap->Wo
 | .beg _ w | .don _ _ w | .ltr _ _ w=>w
noncomputable def Hap.vs(h:Hap):List V:=h.ini++[wv h.w]
noncomputable def Hap.m:Hap->Int
 | .beg m _ | .don m _ _ | .ltr m _ _=>m
noncomputable def nN(H:Hp)(v:V)(h:Hap):Prop:=∃ a,v=.ref a/\H a=some (.tup h.vs)
theorem nN.kp{S:List Addr}{H H':Hp}{v:V}{h:Hap}(x:nN H v h)(k:Kp [] H H'):nN H' v h:=by
 obtain⟨a,e,f⟩:=x;exact⟨a,e,k.at f⟩
noncomputable def Pu.over(S:Pu)(h:Hap):Bool:=match S.sl with
 | .new=>(match h with
  | .beg _ _=>false
  | _=>true)
 | .ended _=>true
 | .worn=>true
 | _=>(match h with
  | .beg _ _=>true
  | .don _ i _=>!decide (i∈S.pend)
  | .ltr _ _ _=>false)
noncomputable def gX(l:List (Str×List Wo))(k:Str)(w:Wo):List (Str×List Wo):=match cK l k with
 | some ws=>fJ l k (ws++[w])
 | none=>l++[(k,[w])]
noncomputable def Pu.at'(S:Pu)(m:Int):Pu:={S with nw:=later S.nw m}
noncomputable def Pu.done(S:Pu)(i:Int)(w:Wo):Pu:={S with pend:=S.pend.filter fun j=>decide (j≠i),ans:=S.ans++[(i,w)]}
noncomputable def Pu.gY(S:Pu)(i:Int)(w:Wo):Pu×Cmds:=match S.sl with
 | .wait ts=>if i∈ts then (S.done i w).wake (some i) else (S.done i w,[])
 | _=>(S.done i w,[])
noncomputable def Pu.iJ(S:Pu)(k:Str)(w:Wo):Pu×Cmds:=match S.sl with
 | .ZA k'=>if k'=k then S.wake w else ({S with lt:=gX S.lt k w},[])
 | _=>({S with lt:=gX S.lt k w},[])
noncomputable def Pu.take(S:Pu)(h:Hap):Pu×Cmds:=if S.over h=true then (S,[]) else match h with
 | .beg m w=>iQ 300 {S with nw:=later S.nw m,ar:=w,sl:=.Zu}
 | .don m i w=>(S.at' m).gY i w
 | .ltr m k w=>(S.at' m).iJ k w
noncomputable def dG(b:List Stm):Pu:=⟨[(0,b,0)],.new,none,0,[],0,[],[],[]⟩
noncomputable def UB(C:Cl):Sp:=fun vs H Q _=>∃(R:Rn) (as:List Addr) (sl:V) (S:Pu) (v:V) (h:Hap),vs=[.ref R.x,v]/\bA C H R as sl S/\S.sl.isN=false/\nN H v h/\∀ H',Kp [] H H'->Q (.bl (S.over h)) H'
noncomputable def Px(C:Cl)(wt:Bool):Sp:=fun vs H Q _=>∃(R:Rn) (as:List Addr) (sl:V) (S:Pu) (w:Wo) (N:Nat),vs=[.ref R.x,wv w]/\bA C H R as sl S/\ZH wt S N/\N<=700000/\eY w/\((∃ k,S.sl=.ZA k)\/∃ ts,S.sl=.wait ts)/\Told C R as as H Q (S.wake w)
noncomputable def Pq(C:Cl)(wt:Bool):Sp:=fun vs H Q _=>∃(R:Rn) (as:List Addr) (sl:V) (S:Pu) (i:Int) (w:Wo) (N:Nat),vs=[.ref R.x,.int i,wv w]/\bA C H R as sl S/\ZH wt S N/\N<=600000/\eY w/\i∈S.pend/\S.sl.isN=false/\Told C R as as H Q (S.gY i w)
noncomputable def PX(C:Cl)(R:Rn)(as ZP:List Addr)(H:Hp)(Q:VK)(z:Pu×Cmds):Prop:=∀(sl:V) (c:Addr) (us:List V) (H':Hp),bA C H' R ZP sl z.1->H c=none->c∉ZP->H' c=some (.lst us)->gI H' us z.2->Fw R as ZP H H'->Q (.ref c) H'
noncomputable def UE(C:Cl)(wt:Bool):Sp:=fun vs H Q _=>∃(R:Rn) (as:List Addr) (sl:V) (S:Pu) (k:Str) (w:Wo) (N:Nat),vs=[.ref R.x,.str k,wv w]/\bA C H R as sl S/\ZH wt S N/\N<=600000/\eY w/\((∃ k,S.sl=.ZA k)\/∃ ts,S.sl=.wait ts)/\∀ ZP,PX C R as ZP H Q (S.iJ k w)
noncomputable def Pr(C:Cl)(wt:Bool):Sp:=fun vs H Q _=>∃(R:Rn) (as:List Addr) (sl:V) (S:Pu) (v:V) (h:Hap) (N:Nat),vs=[.ref R.x,v]/\bA C H R as sl S/\ZH wt S N/\N<=500000/\S.sl.isN=false/\nN H v h/\((0<=h.m/\h.m<=1000000000000)/\eY h.w)/\∀ ZP,PX C R as ZP H Q (S.take h)
noncomputable def HN(C:Cl):Sp:=fun vs H Q _=>∃(x dx pg:Addr) (us:List V) (b:List Stm),vs=[.ref x,.ref pg]/\H x=some (.ins C.r dx [])/\H pg=some (.tup us)/\bE H us b /\
 ∀(R:Rn) (sl:V) (H':Hp),R.x=x->bA C H' R [] sl (dG b)->Kp [x] H H'->(∀ a∈R.cells,a=x\/H a=none)->Q .Zu H'
theorem OF(i:Int)(ts:List Int):wZ (.int i) (ts.map V.int)=decide (i∈ts):=by
 rw[Bool.eq_iff_iff];simp[wZ,qR]
theorem IC(ts:List Int):(ts.map V.int).all cT=true:=by simp[cT]
theorem OD{K:q0B}{H:Hp}{a b:Addr}{z x y:Str}(n:Nat)(ha:H a=some (.tup [.str z,.str x]))(hb:H b=some (.tup [.str z,.str y])):kU K H (n+1) a b (decide (x=y)):=by
 have:=kU.tup (K:=K) (H:=H) (n:=n) (e:=fun j=>if j=0 then true else decide (x=y)) (eJ.of ha) (eJ.of hb) fun j u v e1 e2=>by
  rcases j with _|_|j
  ·simp only[List.getElem?_cons_zero,Option.some.injEq] at e1 e2;subst e1 e2;have:=nC.flat (K:=K) (H:=H) (n:=n) (x:=.str z) (y:=.str z) rfl rfl
   rwa [show qR (.str z) (.str z)=true by simp[qR]] at this
  ·simp only[List.getElem?_cons_succ,List.getElem?_cons_zero,Option.some.injEq] at e1 e2;subst e1 e2;have:=nC.flat (K:=K) (H:=H) (n:=n) (x:=.str x) (y:=.str y) rfl rfl
   rwa [Hd] at this
  ·simp at e1
 rw[show((List.range (min [V.str z,V.str x].length [V.str z,V.str y].length)).all (fun j=>if j=0 then true else decide (x=y))&&[V.str z,V.str x].length==[V.str z,V.str y].length)=decide (x=y) by simp[List.range_succ]] at this;exact this
theorem ZH.at'{wt:Bool}{S:Pu}{N:Nat}(F:ZH wt S N){m:Int}(h:0<=m/\m<=1000000000000):ZH wt (S.at' m) N :=
 {F with pl:=⟨F.pl.nm,F.pl.ar,F.pl.an⟩,nw:=(by have:=F.nw;show 0<=later S.nw m/\later S.nw m<=1000000000000;unfold later;split<;>omega)}
theorem z9{i:Int}{w:Wo}:∀(l:List (Int×Wo)) (x:Wo),fQ (l++[(i,w)]) x=fQ l x\/fQ (l++[(i,w)]) x=w
 | _,none=>.inl (by simp[fQ])
 | [],some j=>by
  by_cases h:i=j
  ·exact .inr (by simp[fQ,h])
  ·exact .inl (by simp[fQ,h])
 | p::r,some j=>by
  by_cases h:p.1=j
  ·exact .inl (by simp[fQ,h])
  ·rcases z9 (i:=i) (w:=w) r (some j) with z|z
   ·exact .inl (by simp[fQ,h,z])
   ·exact .inr (by simp[fQ,h,z])
theorem ZH.done{wt:Bool}{S:Pu}{N:Nat}(F:ZH wt S N){i:Int}{w:Wo}(hw:eY w):ZH wt (S.done i w) (N+1) :=
 {F.more (Nat.le_succ N) with
  pd:=Nat.le_trans B3 (Nat.le_succ_of_le F.pd)
  an:=(by have:=F.an;show(S.ans++[(i,w)]).length<=N+1;simp;exact this)
  pl:=⟨F.pl.nm,F.pl.ar,fun x=>(by
   show eY (fQ (S.ans++[(i,w)]) x);rcases z9 (i:=i) (w:=w) S.ans x with z|z
   ·rw[z];exact F.pl.an x
   ·rw[z];exact hw)⟩}
theorem Ac{k:Str}{ws:List Wo}:∀(l:List (Str×List Wo)) (j:Str) (vs:List Wo),cK (l++[(k,ws)]) j=some vs->(j=k/\vs=ws)\/cK l j=some vs
 | [],j,vs,h=>by
  rw[List.nil_append,cK] at h;by_cases e:k=j
  ·rw[if_pos e] at h;cases h;exact .inl ⟨e.symm,rfl⟩
  ·rw[if_neg e] at h;cases h
 | p::r,j,vs,h=>by
  rw[List.cons_append,cK] at h;by_cases e:p.1=j
  ·rw[if_pos e] at h;exact .inr (by rw[cK,if_pos e];exact h)
  ·rw[if_neg e] at h;rcases Ac r j vs h with z|z
   ·exact .inl z
   ·exact .inr (by rw[cK,if_neg e];exact z)
theorem ZH.gX{wt:Bool}{S:Pu}{N:Nat}(F:ZH wt S N){k:Str}{w:Wo}(hw:eY w):ZH wt {S with lt:=gX S.lt k w} (N+1):=by
 have F1:=F.more (Nat.le_succ N);unfold Own.gX;cases e:cK S.lt k with
 | some ws =>
  have hl:=F.lw k ws e;exact {F1 with
   lt:=(by have:=F.lt;show(fJ S.lt k (ws++[w])).length<=N+1;rw[Ba];omega)
   lw:=fun j vs h=>by
    rcases uU S.lt k _ j vs h with⟨_,rfl⟩|z
    ·exact⟨by have:=hl.1;simp;exact this,fun u hu=>by
      rcases List.mem_append.mp hu with hu|hu
      ·exact hl.2 u hu
      ·rw[show u=w by simpa using hu];exact hw⟩
    ·exact F1.lw j vs z}
 | none =>
  exact {F1 with
   lt:=(by have:=F.lt;show(S.lt++[(k,[w])]).length<=N+1;simp;exact this)
   lw:=fun j vs h=>by
    rcases Ac S.lt j vs h with⟨_,rfl⟩|z
    ·exact⟨by simp,fun u hu=>by rw[show u=w by simpa using hu];exact hw⟩
    ·exact F1.lw j vs z}
theorem Dz{k:Str}{a b:List Wo}:∀ {l:List (Str×List Wo)},cK l k=none->fJ (l++[(k,a)]) k b=l++[(k,b)]
 | [],_=>by simp[fJ]
 | p::r,h=>by
  rw[cK] at h;by_cases e:p.1=k
  ·rw[if_pos e] at h;cases h
  ·rw[if_neg e] at h;rw[List.cons_append,fJ,if_neg e,Dz h];rfl
theorem ZH.wake{wt:Bool}{S:Pu}{N:Nat}(F:ZH wt S N){m:Stm}(h:cI S.stk=some m){w:Wo}(hw:eY w)(n:Str):ZH wt {S with nm:=dO S.nm n w,stk:=iT S.stk,sl:=.Zu} (N+1) :=
 {F.more (Nat.le_succ N) with
  nm:=(by have:=EK S.nm n w;have:=F.nm;show(dO S.nm n w).length<=N+1;omega)
  pl:=(L3 F.pl n hw)
  sk:=F.sk.pass h
  sl:=⟨fun k e=>(by cases e),fun k e=>(by cases e)⟩}
theorem YR{x:Addr}{H G:Hp}{p:Addr}{u:HO}(k:Kp [x] H G)(gx:G x=some u)(hp:G p=none):H p=none:=by
 cases z:H p with
 | none=>rfl
 | some o =>
  by_cases hz:p=x
  ·subst hz;rw[gx] at hp;cases hp
  ·rw[k.at1 z hz] at hp;cases hp
theorem OP{C:Addr}{H1:Hp}{pg:Addr}{us:List V}{b:List Stm}{Q:Addr->Hp->Prop}{E:XK}(ep:H1 pg=some (.tup us))(hs:bE H1 us b)
    (q:∀ x wx lb ln H',Kp [] H1 H'->H1 x=none->H1 lb=none->H1 ln=none->iL C H' x wx lb ln [(0,b,0)]->Q x H') :
    ∀ x dx,H1 x=none->H1 dx=none->dx≠x->EW C [.ref x,.ref pg] (Zs (Zs H1 dx (.own x)) x (.ins C dx [])) (fun v H2=>v=.Zu/\Q x H2) E:=fun x dx hx hdx ne=>by
  have K1:Kp [] H1 (Zs (Zs H1 dx (.own x)) x (.ins C dx [])):=(Kp.new hdx).trans (Kp.new (by rw[aG ne.symm];exact hx));exact⟨x,dx,pg,us,b,rfl,aA,K1.at ep,hs.kp (aK.nil K1),fun lb ln H' f1 f2 W K=>⟨rfl,q x dx lb ln H' (Kp.drop ((K1.mono (by simp)).trans K) hx) hx (cX (cX f1)) (cX (cX f2)) W⟩⟩
theorem Xe{C:Addr}{H1:Hp}{Q:Addr->Hp->Prop}{E:XK}
    (q:∀ x tx dp da H',Kp [] H1 H'->H1 x=none->H1 dp=none->H1 da=none->jA C H' x tx dp da 0 [] []->Q x H') :
    ∀ x dx,H1 x=none->H1 dx=none->dx≠x->EV C [.ref x] (Zs (Zs H1 dx (.own x)) x (.ins C dx [])) (fun v H2=>v=.Zu/\Q x H2) E:=fun x dx hx hdx ne=>by
  have K1:Kp [] H1 (Zs (Zs H1 dx (.own x)) x (.ins C dx [])):=(Kp.new hdx).trans (Kp.new (by rw[aG ne.symm];exact hx));exact⟨x,dx,rfl,aA,fun dp da H' f1 f2 T K=>⟨rfl,q x dx dp da H' (Kp.drop ((K1.mono (by simp)).trans K) hx) hx (cX (cX f1)) (cX (cX f2)) T⟩⟩
theorem LS{C:Cl}{H1:Hp}{pg:Addr}{us:List V}{b:List Stm}{Q:Addr->Hp->Prop}{E:XK}(ep:H1 pg=some (.tup us))(hs:bE H1 us b)
    (q:∀(R:Rn) (sl:V) H',bA C H' R [] sl (dG b)->Kp [] H1 H'->(∀ a∈R.cells,H1 a=none)->Q R.x H') :
    ∀ x dx,H1 x=none->H1 dx=none->dx≠x->HN C [.ref x,.ref pg] (Zs (Zs H1 dx (.own x)) x (.ins C.r dx [])) (fun v H2=>v=.Zu/\Q x H2) E:=fun x dx hx hdx ne=>by
  have K1:Kp [] H1 (Zs (Zs H1 dx (.own x)) x (.ins C.r dx [])):=(Kp.new hdx).trans (Kp.new (by rw[aG ne.symm];exact hx));refine⟨x,dx,pg,us,b,rfl,aA,K1.at ep,hs.kp (aK.nil K1),fun R sl H' e1 A K M=>⟨rfl,?_⟩⟩;subst e1;exact q R sl H' A (Kp.drop ((K1.mono (by simp)).trans K) hx) fun a ha=>by
    rcases M a ha with rfl|z
    · exact hx
    · exact cX (cX z)
noncomputable def Jz(C:Addr):Sp:=fun vs H Q _=>∃(tk tx dp da l:Addr) (made:Nat) (pend:List Int) (ans:List (Int×Wo)) (ws:List Wo),vs=[.ref tk,.ref l]/\jA C H tk tx dp da made pend ans/\H l=some (.lst (ws.map wv))/\ws.length<=4/\ans.length<=1000000/\∀ H',Kp [] H H'->Q (wv (cA ans ws)) H'
noncomputable def LF(ans:List (Int×Wo))(w:Wo):Bool:=ans.any fun p=>decide (w=some p.1)
noncomputable def bQ(ans:List (Int×Wo)):List Wo->List Int
 | []=>[]
 | none::r=>bQ ans r
 | some i::r=>if LF ans (some i)=true then i::bQ ans r else bQ ans r
theorem M5(ans:List (Int×Wo))(w:Wo):(bT (kS ans) (wk w)).isSome=LF ans w:=by
 induction ans with
 | nil=>simp[kS,E3,LF]
 | cons p r ih =>
  have e:kS (p::r)=(Key.inl p.1,wv p.2)::kS r:=rfl;rw[e];by_cases h:w=some p.1
  ·subst h;rw[show wk (some p.1)=Key.inl p.1 from rfl,cP rfl];simp[LF]
  ·rw[cD (fun z=>h (by cases w with
    | none=>cases z
    | some j=>cases z;rfl)),ih]
   simp[LF,h]
theorem LG(ans:List (Int×Wo)):LF ans none=false:=by simp[LF]
theorem uN(ans:List (Int×Wo)):∀(l r:List Wo),bQ ans (l++r)=bQ ans l++bQ ans r
 | [],r=>rfl
 | none::l,r=>by simp only[List.cons_append,bQ,uN ans l r]
 | some i::l,r=>by
  simp only[List.cons_append,bQ,uN ans l r];split<;>simp
theorem Fm{ans:List (Int×Wo)}{ws:List Wo}{i:Nat}{w:Wo}(e:ws[i]?=some w):(bQ ans (ws.take (i+1))).map V.int=if LF ans w=true then (bQ ans (ws.take i)).map V.int++[wv w] else (bQ ans (ws.take i)).map V.int:=by
 rw[List.take_add_one,e];simp only[Option.toList_some,uN,List.map_append];cases w with
 | none=>rw[LG];simp[bQ]
 | some j =>
  simp only[bQ];split<;>simp[wv]
theorem pV(ans:List (Int×Wo)):∀ ws:List Wo,(bQ ans ws).length<=ws.length
 | []=>Nat.le_refl _
 | none::r=>by have:=pV ans r;simp only[bQ,List.length_cons];omega
 | some i::r=>by
  have:=pV ans r;simp only[bQ,List.length_cons];split
  ·simp only[List.length_cons];omega
  ·omega
theorem lX{ans:List (Int×Wo)}{i:Int}:∀ {ws:List Wo},i∈bQ ans ws↔LF ans (some i)=true/\some i∈ws
 | []=>by simp[bQ]
 | none::r=>by simp[bQ,lX (ws:=r)]
 | some j::r=>by
  have ih:=lX (ans:=ans) (i:=i) (ws:=r);simp only[bQ];split
  ·next h =>
   simp only[List.mem_cons,ih,Option.some.injEq];constructor
   ·rintro(rfl|⟨a,b⟩)
    ·exact⟨h,.inl rfl⟩
    ·exact⟨a,.inr b⟩
   ·rintro⟨a,b|b⟩
    ·exact .inl b
    ·exact .inr ⟨a,b⟩
  ·next h =>
   rw[ih];simp only[List.mem_cons,Option.some.injEq];constructor
   ·rintro⟨a,b⟩;exact⟨a,.inr b⟩
   ·rintro⟨a,b|b⟩
    ·subst b;exact absurd a h
    ·exact⟨a,b⟩
theorem Eg(i:Int):∀ ns:List Int,wZ (.int i) (ns.map V.int)=decide (i∈ns)
 | []=>by simp[wZ]
 | n::r=>by
  have ih:=Eg i r;simp only[wZ,List.map_cons,List.any_cons] at ih ⊢;rw[ih];by_cases h:n=i
  ·subst h;simp[qR]
  ·have:qR (V.int n) (V.int i)=false:=by simp[qR,h]
   rw[this];simp[Ne.symm h]
theorem zQ{α:Type}{p q:α->Bool}:∀ {l:List α},(∀ x∈l,p x=q x)->l.find? p=l.find? q
 | [],_=>rfl
 | x::l,h=>by
  simp only[List.find?,h x (by simp),zQ fun y hy=>h y (List.mem_cons_of_mem _ hy)]
theorem zR(ans:List (Int×Wo))(ws:List Wo):cA ans ws=((ans.map (·.1)).filter fun i=>decide (i∈bQ ans ws)).head?:=by
 unfold cA;rw[List.head?_filter,List.find?_map]
 congr 1
 refine zQ fun p hp=>?_;have:LF ans (some p.1)=true:=by simp only[LF,List.any_eq_true];exact⟨p,hp,by simp⟩
 simp only[Function.comp,lX,this,true_and]
theorem Az{val:Nat->Int}{j:Int}:∀ {n:Nat},j∈once val n↔∃ k,k < n/\val k=j
 | 0=>by simp[once]
 | n+1=>by
  have ih:=Az (val:=val) (j:=j) (n:=n);have up:(∃ k,k < n+1/\val k=j)↔(∃ k,k < n/\val k=j)\/val n=j:=by
   constructor
   ·rintro⟨k,hk,e⟩;by_cases h:k=n
    ·subst h;exact .inr e
    ·exact .inl ⟨k,by omega,e⟩
   ·rintro(⟨k,hk,e⟩|e)
    ·exact⟨k,by omega,e⟩
    ·exact⟨n,by omega,e⟩
  rw[up,once];split
  ·next h =>
   rw[ih];constructor
   ·exact .inl
   ·rintro(z|z)
    ·exact z
    ·subst z;exact Az.mp h
  ·simp only[List.mem_append,List.mem_singleton,ih];constructor
   ·rintro(z|z)
    ·exact .inl z
    ·exact .inr z.symm
   ·rintro(z|z)
    ·exact .inl z
    ·exact .inr z.symm
theorem qB{ns:List Int}{j:Int}:j∈nH ns↔j∈ns:=by
 unfold nH;rw[Az,List.mem_iff_getElem];constructor
 ·rintro⟨k,hk,e⟩;exact⟨k,hk,by rw[List.getD_eq_getElem?_getD,List.getElem?_eq_getElem hk] at e;exact e⟩
 ·rintro⟨k,hk,e⟩;exact⟨k,hk,by rw[List.getD_eq_getElem?_getD,List.getElem?_eq_getElem hk];exact e⟩
theorem L7{ns:List Int}(h:(nH ns).length < 2){i j:Int}(hi:i∈ns)(hj:j∈ns):i=j:=by
 have a:=qB.mpr hi;have b:=qB.mpr hj
 match e:nH ns,h with
 | [],_=>rw[e] at a;cases a
 | [x],_ =>
  rw[e] at a b;rw[List.mem_singleton.mp a,List.mem_singleton.mp b]
theorem IA{ans:List (Int×Wo)}{ws:List Wo}(h:(nH (bQ ans ws)).length < 2):cA ans ws=(bQ ans ws).head?:=by
 rw[zR];cases e:bQ ans ws with
 | nil=>simp
 | cons i r =>
  have hi:i∈bQ ans ws:=by rw[e];simp
  have he:∀ j∈bQ ans ws,j=i:=fun j hj=>L7 h hj hi;obtain⟨p,hp,ep⟩:=List.any_eq_true.mp (lX.mp hi).1;have ep:i=p.1:=by simpa using ep
  show _=some i;have hm:i∈((ans.map (·.1)).filter fun j=>decide (j∈i::r)):=List.mem_filter.mpr ⟨List.mem_map.mpr ⟨p,hp,ep.symm⟩,by simp⟩;cases z:((ans.map (·.1)).filter fun j=>decide (j∈i::r)) with
  | nil=>rw[z] at hm;cases hm
  | cons x xs =>
   have hx:x∈((ans.map (·.1)).filter fun j=>decide (j∈i::r)):=by rw[z];simp
   have:=he x (by rw[e];simpa using(List.mem_filter.mp hx).2);rw[this];rfl
theorem Fx{ans:List (Int×Wo)}{ws:List Wo}(h:¬ (nH (bQ ans ws)).length < 2):∃ i r,((ans.map (·.1)).filter fun i=>decide (i∈bQ ans ws))=i::r/\cA ans ws=some i:=by
 have hf:=zR ans ws;cases z:((ans.map (·.1)).filter fun i=>decide (i∈bQ ans ws)) with
 | cons i r=>rw[z] at hf;exact⟨i,r,rfl,hf⟩
 | nil =>
  exfalso;cases e:nH (bQ ans ws) with
  | nil=>rw[e] at h;exact h (by simp)
  | cons i r =>
   have hi:i∈bQ ans ws:=qB.mp (by rw[e];simp);obtain⟨p,hp,ep⟩:=List.any_eq_true.mp (lX.mp hi).1;have ep:i=p.1:=by simpa using ep
   have hm:i∈((ans.map (·.1)).filter fun i=>decide (i∈bQ ans ws)):=List.mem_filter.mpr ⟨List.mem_map.mpr ⟨p,hp,ep.symm⟩,by simpa using hi⟩;rw[z] at hm;cases hm
theorem gB.atW{H:Hp}{vs:List V}{ss:List Say}(h:gB H vs ss):∀ {i:Nat} {x:V},vs[i]?=some x->∃ y,ss[i]?=some y/\dD H x y:=by
 induction h with
 | nil=>intro i x e;simp at e
 | cons h _ ih =>
  intro i x e;cases i with
  | zero=>simp only[List.getElem?_cons_zero,Option.some.injEq] at e;subst e;exact⟨_,rfl,h⟩
  | succ i=>exact ih (by simpa using e)
theorem gB.W9{H:Hp}{vs:List V}{ss:List Say}(h:gB H vs ss):vs.length=ss.length:=by
 induction h with
 | nil=>rfl
 | cons _ _ ih=>simp[ih]
noncomputable def dY(pend:List Int):List Wo->List Int
 | []=>[]
 | none::r=>dY pend r
 | some i::r=>if i∈pend then i::dY pend r else dY pend r
theorem vJ(pend:List Int):∀(l r:List Wo),dY pend (l++r)=dY pend l++dY pend r
 | [],r=>rfl
 | none::l,r=>by simp only[List.cons_append,dY,vJ pend l r]
 | some i::l,r=>by
  simp only[List.cons_append,dY,vJ pend l r];split<;>simp
theorem Gg{pend:List Int}{ws:List Wo}{i:Nat}{w:Wo}(e:ws[i]?=some w):(dY pend (ws.take (i+1))).map V.int=if decide (∃ j∈pend,w=some j)=true then (dY pend (ws.take i)).map V.int++[wv w] else (dY pend (ws.take i)).map V.int:=by
 rw[List.take_add_one,e];simp only[Option.toList_some,vJ,List.map_append];cases w with
 | none=>simp[dY]
 | some j =>
  by_cases h:j∈pend
  ·simp[dY,h,wv]
  ·simp[dY,h]
theorem lY(pend:List Int):∀ ws:List Wo,(dY pend ws).length<=ws.length
 | []=>Nat.le_refl _
 | none::r=>by have:=lY pend r;simp only[dY,List.length_cons];omega
 | some i::r=>by
  have:=lY pend r;simp only[dY,List.length_cons];split
  ·simp only[List.length_cons];omega
  ·omega
theorem Af{i j:Int}:∀ {l:List Int},j∈Eh i l↔j=i\/j∈l
 | []=>by simp[Eh]
 | k::r=>by
  have ih:=Af (i:=i) (j:=j) (l:=r);simp only[Eh];split
  ·simp
  ·split
   ·next h =>
    subst h;simp only[List.mem_cons];constructor
    ·exact .inr
    ·rintro(z|z)
     ·exact .inl z
     ·exact z
   ·simp only[List.mem_cons,ih];constructor
    ·rintro(z|z|z)
     ·exact .inr (.inl z)
     ·exact .inl z
     ·exact .inr (.inr z)
    ·rintro(z|z|z)
     ·exact .inr (.inl z)
     ·exact .inl z
     ·exact .inr (.inr z)
theorem Ei{i:Int}:∀ {l:List Int},l.Pairwise (· < ·)->(Eh i l).Pairwise (· < ·)
 | [],_=>by simp[Eh]
 | k::r,h=>by
  obtain⟨h1,h2⟩:=List.pairwise_cons.mp h;simp only[Eh];split
  ·next c=>exact List.pairwise_cons.mpr ⟨fun x hx=>by
    rcases List.mem_cons.mp hx with rfl|hx
    ·exact c
    ·have:=h1 x hx;omega,h⟩
  ·split
   ·exact h
   ·exact List.pairwise_cons.mpr ⟨fun x hx=>by
     rcases Af.mp hx with rfl|hx
     ·omega
     ·exact h1 x hx,Ei h2⟩
theorem kH(pend:List Int):∀ ws:List Wo,(cS pend ws).Pairwise (· < ·)
 | []=>.nil
 | none::r=>kH pend r
 | some i::r=>by
  simp only[cS];split
  ·exact Ei (kH pend r)
  ·exact kH pend r
theorem rM{pend:List Int}{j:Int}:∀ {ws:List Wo},j∈cS pend ws↔j∈dY pend ws
 | []=>by simp[cS,dY]
 | none::r=>by simp only[cS,dY];exact rM
 | some i::r=>by
  have ih:=rM (pend:=pend) (j:=j) (ws:=r);simp only[cS,dY];split
  ·rw[Af,ih,List.mem_cons]
  ·exact ih
theorem AA(val:Nat->Int):∀ n,(once val n).Nodup
 | 0=>by simp[once]
 | n+1=>by
  have ih:=AA val n;rw[once];split
  ·exact ih
  ·next h=>exact List.nodup_append.mpr ⟨ih,by simp,fun a ha b hb=>by
    rw[List.mem_singleton.mp hb];exact fun z=>h (z▸ha)⟩
theorem EF{pend:List Int}{ws:List Wo}{ns:List Int}(hp:ns.Perm (nH (dY pend ws)))(hs:ns.Pairwise (·<=·)):ns=cS pend ws:=by
 refine wM (hp.trans ?_) hs (kH pend ws);refine(List.perm_ext_iff_of_nodup (AA _ _) ((kH pend ws).imp fun h=>by omega)).mpr fun j=>?_;show j∈nH _↔_;rw[qB,rM]
inductive fL(H:Hp):List V->List (V×V)->Prop
 | nil:fL H [] []
 | cons {a:Addr} {x y:V} {us:List V} {ps:List (V×V)}:H a=some (.tup [x,y])->fL H us ps->fL H (.ref a::us) ((x,y)::ps)
theorem fL.kt{H H':Hp}{us:List V}{ps:List (V×V)}(h:fL H us ps)(k:aK H H'):fL H' us ps:=by
 induction h with
 | nil=>exact .nil
 | cons a _ ih=>exact .cons (k _ _ a) ih
theorem fL.snoc{H:Hp}{us:List V}{ps:List (V×V)}{a:Addr}{x y:V}(h:fL H us ps)(e:H a=some (.tup [x,y])):fL H (us++[.ref a]) (ps++[(x,y)]):=by
 induction h with
 | nil=>exact .cons e .nil
 | cons b _ ih=>exact .cons b ih
theorem fL.len{H:Hp}{us:List V}{ps:List (V×V)}(h:fL H us ps):us.length=ps.length:=by
 induction h with
 | nil=>rfl
 | cons _ _ ih=>simp[ih]
theorem fL.of{H:Hp}:∀ {as:List Addr} {ps:List (V×V)},as.length=ps.length->(∀(j:Nat) (a:Addr) (x y:V),as[j]?=some a->ps[j]?=some (x,y)->H a=some (.tup [x,y]))->fL H (as.map V.ref) ps
 | [],[],_,_=>.nil
 | [],_::_,h,_=>by simp at h
 | _::_,[],h,_=>by simp at h
 | a::as,(x,y)::ps,h,g=>.cons (g 0 a x y rfl rfl) (fL.of (by simpa using h) fun j b x y e1 e2=>g (j+1) b x y (by simpa using e1) (by simpa using e2))
inductive iZ(H:Hp):List V->List (Str×List Wo)->Prop
 | nil:iZ H [] []
 | cons {a b:Addr} {k:Str} {ws:List Wo} {us:List V} {ps:List (Str×List Wo)}:H a=some (.tup [.str k,.ref b])->H b=some (.tup (ws.map wv))->iZ H us ps->iZ H (.ref a::us) ((k,ws)::ps)
theorem iZ.kt{H H':Hp}{us:List V}{ps:List (Str×List Wo)}(h:iZ H us ps)(k:aK H H'):iZ H' us ps:=by
 induction h with
 | nil=>exact .nil
 | cons a b _ ih=>exact .cons (k _ _ a) (k _ _ b) ih
theorem iZ.snoc{H:Hp}{us:List V}{ps:List (Str×List Wo)}{a b:Addr}{k:Str}{ws:List Wo}(h:iZ H us ps)(e:H a=some (.tup [.str k,.ref b]))(f:H b=some (.tup (ws.map wv))):iZ H (us++[.ref a]) (ps++[(k,ws)]):=by
 induction h with
 | nil=>exact .cons e f .nil
 | cons c d _ ih=>exact .cons c d ih
theorem iZ.len{H:Hp}{us:List V}{ps:List (Str×List Wo)}(h:iZ H us ps):us.length=ps.length:=by
 induction h with
 | nil=>rfl
 | cons _ _ _ ih=>simp[ih]
noncomputable def fS(nm:List (Str×Wo)):List Str->List (V×V)
 | []=>[]
 | n::r=>if k4 nm n=none then fS nm r else (.str n,wv (k4 nm n))::fS nm r
theorem Cf(nm:List (Str×Wo)):∀ l r:List Str,fS nm (l++r)=fS nm l++fS nm r
 | [],_=>rfl
 | n::l,r=>by
  simp only[List.cons_append,fS,Cf nm l r];split<;>rfl
noncomputable def iG(lt:List (Str×List Wo)):List Str->List (Str×List Wo)
 | []=>[]
 | k::r=>if (cK lt k).getD []=[] then iG lt r else (k,(cK lt k).getD [])::iG lt r
theorem Ca(lt:List (Str×List Wo)):∀ l r:List Str,iG lt (l++r)=iG lt l++iG lt r
 | [],_=>rfl
 | n::l,r=>by
  simp only[List.cons_append,iG,Ca lt l r];split<;>rfl
theorem u9(nm:List (Str×Wo)):∀ l:List Str,(fS nm l).length<=l.length
 | []=>Nat.le_refl _
 | n::l=>by
  have:=u9 nm l;simp only[fS];split<;>simp only[List.length_cons]<;>omega
theorem uV(lt:List (Str×List Wo)):∀ l:List Str,(iG lt l).length<=l.length
 | []=>Nat.le_refl _
 | n::l=>by
  have:=uV lt l;simp only[iG];split<;>simp only[List.length_cons]<;>omega
noncomputable def Pu.nmS(S:Pu):List (V×V):=fS S.nm (srt (S.nm.map (·.1)))
noncomputable def Pu.ltS(S:Pu):List (Str×List Wo):=iG S.lt (srt (S.lt.map (·.1)))
noncomputable def Pu.anS(S:Pu):List (V×V):=S.ans.map fun p=>(.int p.1,wv p.2)
noncomputable def Slp.wC:Slp->Bool
 | .wait _=>true
 | .ZA _=>true
 | _=>false
noncomputable def t4(H:Hp)(v:V)(S:Pu):Prop:=if S.sl.wC=true then ∃(p pl pn po pa pt:Addr) (sl:V) (un ua ut:List V),v=.ref p/\H p=some (.tup [sl,.ref pl,wv S.ar,.int S.nw,.ref pn,.int S.made,.ref po,.ref pa,.ref pt])/\iD H sl S.sl /\
    H pl=some (.tup ((bY S.stk).map V.int))/\H pn=some (.tup un)/\fL H un S.nmS/\H po=some (.tup (S.pend.map V.int))/\H pa=some (.tup ua)/\fL H ua S.anS/\H pt=some (.tup ut)/\iZ H ut S.ltS
  else iD H v S.sl
theorem HQ:∀ nm:List (Str×Wo),jN (l8 nm)=some (nm.map (·.1))
 | []=>rfl
 | p::r=>by
  have ih:=HQ r;show(jN (l8 r)).map (p.1::·)=_;rw[ih];rfl
theorem Pz{H:Hp}{kvs:List (Key×V)}{as:List Addr}{lt:List (Str×List Wo)}(h:kQ H kvs as lt):jN kvs=some (lt.map (·.1)):=by
 induction h with
 | nil=>rfl
 | @cons a k ws kvs as lt _ _ ih =>
  show(jN kvs).map (k::·)=_;rw[ih];rfl
theorem LW:∀ {nm:List (Str×Wo)} {n:Str},n∈nm.map (·.1)->bT (l8 nm) (.inr n)=some (wv (k4 nm n))
 | [],n,h=>by simp at h
 | p::r,n,h=>by
  show bT ((Key.inr p.1,wv p.2)::l8 r) (.inr n)=_;by_cases e:p.1=n
  ·rw[cP (by rw[e]),k4,if_pos e]
  ·rw[cD (fun z=>e (Key.inr.inj z)),k4,if_neg e];refine LW ?_;rcases List.mem_cons.mp h with h|h
   ·exact absurd h.symm e
   ·exact h
theorem kQ.inS{H:Hp}{kvs:List (Key×V)}{as:List Addr}{lt:List (Str×List Wo)}(h:kQ H kvs as lt){k:Str}(hk:k∈lt.map (·.1)):∃ a ws,bT kvs (.inr k)=some (.ref a)/\cK lt k=some ws/\H a=some (.lst (ws.map wv)):=by
 rcases h.look k with⟨_,e⟩|⟨a,ws,x,y,_,u⟩
 ·exfalso;clear h
  induction lt with
  | nil=>simp at hk
  | cons p r ih =>
   simp only[cK] at e;split at e
   ·cases e
   ·next hp =>
    rcases List.mem_cons.mp hk with z|z
    ·exact hp z.symm
    ·exact ih z e
 ·exact⟨a,ws,x,y,u⟩
theorem iD.word{H:Hp}{v:V}{s:Slp}(h:iD H v s)(hn:s.isN=false):∃(p:Addr) (s0:Str) (r0:List V),v=.ref p/\H p=some (.tup (.str s0::r0))/\wZ (.str s0) [.str "wait",.str "hear"]=s.wC:=by
 cases s with
 | Zu=>cases hn
 | new=>obtain⟨p,rfl,e⟩:=h;exact⟨p,_,_,rfl,e,by simp[wZ,qR,pP,Slp.wC]⟩
 | wait ts=>obtain⟨p,p2,rfl,e,_⟩:=h;exact⟨p,_,_,rfl,e,by simp[wZ,qR,pP,Slp.wC]⟩
 | ZA k=>obtain⟨p,rfl,e⟩:=h;exact⟨p,_,_,rfl,e,by simp[wZ,qR,pP,Slp.wC]⟩
 | ended w=>obtain⟨p,rfl,e⟩:=h;exact⟨p,_,_,rfl,e,by simp[wZ,qR,pP,Slp.wC]⟩
 | worn=>obtain⟨p,rfl,e⟩:=h;exact⟨p,_,_,rfl,e,by simp[wZ,qR,pP,Slp.wC]⟩
theorem CL{c:TT}{t u:TS}{D:Ends}{σ:St}{H:Hp}(h:∀ R:St->Hp->Prop,(∀ σ' H',t D σ' H'->R σ' H')->ML c (fun _=>R) u D σ H):ML c t u D σ H:=h (t D) fun _ _ z=>z
noncomputable def Pn(C:Addr):Sp:=fun vs H Q _=>∃(wk wx lb ln:Addr) (st:Stk),vs=[.ref wk]/\iL C H wk wx lb ln st/\∀ p,H p=none->Q (.ref p) (Zs H p (.tup ((bY st).map V.int)))
noncomputable def Pp(C:Cl):Sp:=fun vs H Q _=>∃(R:Rn) (as:List Addr) (sl:V) (S:Pu),vs=[.ref R.x]/\bA C H R as sl S/\S.sl.isN=false/\S.pend.length<=1000000/\S.nm.length < 64/\S.lt.length < 64/\S.ans.length<=1000000/\(∀ k ws,cK S.lt k=some ws->ws.length<=1000000)/\∀(v:V) (H':Hp),t4 H' v S->Kp [] H H'->Q v H'
theorem YW{w:Wo}{k:Int->Prop}{u:Tg k}:L4 (wv w) k u=k (num w):=by cases w<;>rfl
noncomputable def Ux(K:q0B):Sp:=fun vs H Q _=>∃(a:Addr) (ns:List Int) (k:Int),vs=[.ref a,.int k]/\dC K H a (ns.map V.int)/\0<=k/\∀ z:Int,Q (.int z) H
structure eO(H:Hp)(r:Addr):Prop where
 ex:∃ c f:Int,H r=some (.lst [.int c,.int f])/\(0<=f/\f < 2147483587)
theorem eO.kp{S:List Addr}{H H':Hp}{r:Addr}(R:eO H r)(h:Kp S H H')(n:r∉S:=by first|exact List.not_mem_nil|simp_all):eO H' r:=by
 obtain⟨c,f,e,x⟩:=R;exact⟨c,f,h _ _ e n,x⟩
theorem eO.new{H:Hp}{r p:Addr}{o:HO}(R:eO H r)(h:H p=none):eO (Zs H p o) r:=R.kp (S:=[]) (Kp.new h)
theorem eO.none{H:Hp}{r p:Addr}(R:eO H r)(h:H p=Option.none):p≠r:=by
 obtain⟨c,f,e,_⟩:=R;exact(aJ e h).symm
noncomputable def Qs:Sp:=fun vs H Q _=>∃ c:Int,vs=[.int c]/\∀(r:Addr) (H':Hp),H r=none->Kp [] H H'->eO H' r->Q (.ref r) H'
theorem Xk{c:Int}{H:Hp}{Q:VK}{E:XK}:Qs [.int c] H Q E = ∀(r:Addr) (H':Hp),H r=none->Kp [] H H'->eO H' r->Q (.ref r) H':=propext ⟨fun⟨_,e,h⟩=>by cases e;exact h,fun h=>⟨_,rfl,h⟩⟩
noncomputable def Qr:Sp:=fun vs H Q _=>∃(r:Addr) (m:Int),vs=[.ref r,.int m]/\0 < m/\m<=10 ^ 45/\eO H r /\
 ∀(g:Int) (H':Hp),0<=g->g < m->eO H' r->Kp [r] H H'->Q (.int g) H'
theorem O8{r:Addr}{m:Int}{H:Hp}{Q:VK}{E:XK}:Qr [.ref r,.int m] H Q E=(0 < m/\m<=10 ^ 45/\eO H r/\∀(g:Int) (H':Hp),0<=g->g < m->eO H' r->Kp [r] H H'->Q (.int g) H') :=
 propext ⟨fun⟨_,_,e,h⟩=>by cases e;exact h,fun h=>⟨_,_,rfl,h⟩⟩
mutual
noncomputable def Stm.fF(L:List Str):Stm->Prop
 | .set x _=>x∈L
 | .order x _ _=>x∈L
 | .child x _ _=>x∈L
 | .ZJ x _=>x∈L
 | .wait x ss=>x∈L/\ss.length<=4
 | .ZA x _=>x∈L
 | .whl _ b=>b.length<=8/\cV L b
 | .iff _ b o=>(b.length<=8/\o.length<=8)/\cV L b/\cV L o
 | _=>True
noncomputable def cV(L:List Str):List Stm->Prop
 | []=>True
 | m::ms=>m.fF L/\cV L ms
end
theorem Aj{L:List Str}:∀ {b:List Stm} {i:Nat} {m:Stm},cV L b->b[i]?=some m->m.fF L
 | [],_,_,_,h=>by simp at h
 | _::_,0,_,g,h=>by simp only[List.getElem?_cons_zero,Option.some.injEq] at h;subst h;simp only[cV] at g;exact g.1
 | _::b,i+1,_,g,h=>by simp only[cV] at g;exact Aj g.2 (by simpa using h)
theorem Jr(l:List (Str×Wo))(n:Str)(w:Wo):(dO l n w).map (·.1)=if n∈l.map (·.1) then l.map (·.1) else l.map (·.1)++[n]:=by
 have e:(l.any fun p=>decide (p.1=n))=true↔n∈l.map (·.1):=by
  rw[List.any_eq_true,List.mem_map];constructor
  ·rintro⟨p,h,e⟩;exact⟨p,h,by simpa using e⟩
  ·rintro⟨p,h,e⟩;exact⟨p,h,by simpa using e⟩
 unfold dO;by_cases h:n∈l.map (·.1)
 ·rw[if_pos (e.mpr h),if_pos h,List.map_map];refine List.map_congr_left fun p _=>?_;simp only[Function.comp];split<;>rfl
 ·rw[if_neg (fun z=>h (e.mp z)),if_neg h];simp
structure eC(L:List Str)(S:Pu):Prop where
 nd:(S.nm.map (·.1)).Nodup
 sub:∀ n∈S.nm.map (·.1),n∈L
 stk:∀ x∈S.stk,cV L x.2.1
theorem eC.put{L:List Str}{S:Pu}(h:eC L S){n:Str}(hn:n∈L)(w:Wo):eC L {S with nm:=dO S.nm n w}:=by
 have e:=Jr S.nm n w;refine⟨?_,?_,h.stk⟩
 ·show((dO S.nm n w).map (·.1)).Nodup;rw[e];split
  ·exact h.nd
  ·next hc =>
   rw[List.nodup_append];exact⟨h.nd,by simp,fun a ha b hb=>by rw[show b=n by simpa using hb];intro z;exact hc (z▸ha)⟩
 ·show ∀ x∈(dO S.nm n w).map (·.1),x∈L;rw[e];split
  ·exact h.sub
  ·intro x hx;rcases List.mem_append.mp hx with hx|hx
   ·exact h.sub x hx
   ·rw[show x=n by simpa using hx];exact hn
theorem eC.same{L:List Str}{S T:Pu}(h:eC L S)(e1:T.nm=S.nm)(e2:T.stk=S.stk):eC L T:=⟨by rw[e1];exact h.nd,by rw[e1];exact h.sub,by rw[e2];exact h.stk⟩
theorem eC.cU{L:List Str}{S:Pu}(h:eC L S){m:Stm}(g:m.fF L):eC L (cU S m).1:=by
 cases m with
 | set x s=>simp only[Stm.fF] at g;exact h.put g _
 | order x y s=>simp only[Stm.fF] at g;exact(h.put g _).same rfl rfl
 | child x y s=>simp only[Stm.fF] at g;exact(h.put g _).same rfl rfl
 | ZJ x s=>simp only[Stm.fF] at g;exact(h.put g _).same rfl rfl
 | send s k r=>exact h
 | drop s =>
  simp only[Own.cU];split
  ·split
   ·exact h.same rfl rfl
   ·exact h
  ·exact h
 | ZA x k =>
  simp only[Stm.fF] at g;simp only[Own.cU];split
  ·exact(h.put g _).same rfl rfl
  ·exact h.same rfl rfl
 | wait x ss =>
  simp only[Stm.fF] at g;simp only[Own.cU];split
  ·exact h.same rfl rfl
  ·exact h.put g.1 _
 | fin s=>exact h.same rfl rfl
 | whl s b=>exact h
 | iff s b o=>exact h
theorem uH{L:List Str}:∀ st:Stk,(∀ x∈st,cV L x.2.1)->∀ x∈cZ st,cV L x.2.1
 | [],h=>by simpa[cZ] using h
 | [a],h=>by simpa[cZ] using h
 | (k,b,n)::(k2,b2,n2)::r,h=>by
  rw[cZ];split
  ·refine uH ((k2,b2,An b2 n2)::r) fun x hx=>?_;rcases List.mem_cons.mp hx with rfl|hx
   ·exact h (k2,b2,n2) (by simp)
   ·exact h x (by simp[hx])
  ·exact h
termination_by st=>st.length
theorem vK{L:List Str}{st:Stk}(h:∀ x∈st,cV L x.2.1):∀ x∈iT st,cV L x.2.1:=by
 cases st with
 | nil=>exact h
 | cons a r =>
  obtain⟨k,b,n⟩:=a;intro x hx;simp only[iT,List.mem_cons] at hx;rcases hx with rfl|hx
  ·exact h (k,b,n) (by simp)
  ·exact h x (by simp[hx])
theorem eC.cI{L:List Str}{S:Pu}(h:eC L S){m:Stm}(e:cI S.stk=some m):m.fF L:=by
 cases hs:S.stk with
 | nil=>rw[hs] at e;cases e
 | cons a r =>
  obtain⟨k,b,n⟩:=a;rw[hs] at e;exact Aj (h.stk (k,b,n) (by rw[hs];simp)) e
theorem eC.one{L:List Str}{S:Pu}(h:eC L S){m:Stm}(e:Own.cI S.stk=some m):eC L (one S m).1:=by
 have g:=h.cI e;have en:∀(c:Nat) (b:List Stm),cV L b->eC L (S.enter c b):=fun c b hb=>⟨h.nd,h.sub,fun x hx=>by
  rcases List.mem_cons.mp hx with rfl|hx
  ·exact hb
  ·exact h.stk x hx⟩
 have ps:∀ T:Pu,eC L T->eC L T.pass:=fun T hT=>⟨hT.nd,hT.sub,vK hT.stk⟩;unfold Own.one;split
 ·cases m with
  | whl s b =>
   simp only[Stm.fF] at g;show eC L (if _ then S.pass else S.enter 0 b);split
   ·exact ps S h
   ·exact en 0 b g.2
  | iff s b o =>
   simp only[Stm.fF] at g;show eC L (if _ then S.enter 1 o else S.enter 0 b);split
   ·exact en 1 o g.2.2
   ·exact en 0 b g.2.1
  | _=>exact h
 ·show eC L (if _ then (Own.cU S m).1.pass else (Own.cU S m).1);split
  ·exact ps _ (h.cU g)
  ·exact h.cU g
theorem xU{L:List Str}:∀(n:Nat) {S:Pu},eC L S->eC L (iQ n S).1
 | 0,S,h=>by
  have hc:eC L S.cG:=⟨h.nd,h.sub,uH _ h.stk⟩;cases e:cI S.cG.stk with
  | none=>rw[dU e];exact hc.same rfl rfl
  | some m=>rw[jS e];exact hc.same rfl rfl
 | n+1,S,h=>by
  have hc:eC L S.cG:=⟨h.nd,h.sub,uH _ h.stk⟩;cases e:cI S.cG.stk with
  | none=>rw[dU e];exact hc.same rfl rfl
  | some m =>
   cases z:(one S.cG m).1.sl.isN with
   | true=>rw[pY e z];exact xU n (hc.one e)
   | false=>rw[jR e z];exact hc.one e
theorem eC.wake{L:List Str}{S:Pu}(h:eC L S)(w:Wo):eC L (S.wake w).1:=by
 unfold Pu.wake;split
 ·next x k e =>
  have g:=h.cI e;simp only[Stm.fF] at g;have h1:=h.put g w;exact xU 300 ⟨h1.nd,h1.sub,vK h.stk⟩
 ·next x ss e =>
  have g:=h.cI e;simp only[Stm.fF] at g;have h1:=h.put g.1 w;exact xU 300 ⟨h1.nd,h1.sub,vK h.stk⟩
 ·exact h
theorem eC.take{L:List Str}{S:Pu}(h:eC L S)(x:Hap):eC L (S.take x).1:=by
 unfold Pu.take;split
 ·exact h
 cases x with
 | beg m w=>exact xU 300 (h.same rfl rfl)
 | don m i w =>
  show eC L ((S.at' m).gY i w).1;unfold Pu.gY;split
  ·split
   ·exact(h.same (T:=(S.at' m).done i w) rfl rfl).wake _
   ·exact h.same rfl rfl
  ·exact h.same rfl rfl
 | ltr m k w =>
  show eC L ((S.at' m).iJ k w).1;unfold Pu.iJ;split
  ·split
   ·exact(h.same (T:=S.at' m) rfl rfl).wake _
   ·exact h.same rfl rfl
  ·exact h.same rfl rfl
theorem vA:∀ {a L:List Str},a.Nodup->(∀ x∈a,x∈L)->a.length<=L.length
 | [],L,_,_=>Nat.zero_le _
 | x::a,L,nd,h=>by
  rw[List.nodup_cons] at nd;have hx:=h x (by simp);have:=vA (a:=a) (L:=L.erase x) nd.2 fun y hy=>(List.mem_erase_of_ne (fun z:y=x=>nd.1 (by rw[<- z];exact hy))).mpr (h y (List.mem_cons_of_mem _ hy));have hl:=List.length_erase_of_mem hx;have hp:0 < L.length:=List.length_pos_of_mem hx;simp only[List.length_cons];omega
theorem eC.len{L:List Str}{S:Pu}(h:eC L S):S.nm.length<=L.length:=by
 have:=vA h.nd h.sub
 rwa [List.length_map] at this
structure eZ(K:List Str)(S:Pu):Prop where
 nd:(S.lt.map (·.1)).Nodup
 sub:∀ n∈S.lt.map (·.1),n∈K
theorem qF(r:List Wo):∀(l:List (Str×List Wo)) (k:Str),(fJ l k r).map (·.1)=l.map (·.1)
 | [],_=>rfl
 | p::l,k=>by
  simp only[fJ];split
  ·rfl
  ·simp only[List.map_cons,qF r l k]
theorem Ab:∀ {l:List (Str×List Wo)} {k:Str},cK l k=none->k∉l.map (·.1)
 | [],_,_=>by simp
 | p::l,k,h=>by
  simp only[cK] at h;split at h
  ·cases h
  ·next hp =>
   simp only[List.map_cons,List.mem_cons,not_or];exact⟨fun z=>hp z.symm,Ab h⟩
theorem eZ.same{K:List Str}{S T:Pu}(h:eZ K S)(e:T.lt=S.lt):eZ K T:=⟨by rw[e];exact h.nd,by rw[e];exact h.sub⟩
theorem eZ.add{K:List Str}{S:Pu}(h:eZ K S){k:Str}(hk:k∈K)(w:Wo):eZ K {S with lt:=gX S.lt k w}:=by
 cases e:cK S.lt k with
 | some ws =>
  have ea:gX S.lt k w=fJ S.lt k (ws++[w]):=by simp only[gX,e]
  have kk:=qF (ws++[w]) S.lt k;exact⟨by show((gX S.lt k w).map (·.1)).Nodup;rw[ea,kk];exact h.nd,by show ∀ n∈(gX S.lt k w).map (·.1),n∈K;rw[ea,kk];exact h.sub⟩
 | none =>
  have ea:gX S.lt k w=S.lt++[(k,[w])]:=by simp only[gX,e]
  have nk:=Ab e;refine⟨?_,?_⟩
  ·show((gX S.lt k w).map (·.1)).Nodup;rw[ea,List.map_append,List.nodup_append];exact⟨h.nd,by simp,fun a ha b hb=>by rw[show b=k by simpa using hb];intro z;exact nk (z▸ha)⟩
  ·show ∀ n∈(gX S.lt k w).map (·.1),n∈K;rw[ea,List.map_append];intro n hn;rcases List.mem_append.mp hn with hn|hn
   ·exact h.sub n hn
   ·rw[show n=k by simpa using hn];exact hk
theorem eZ.cU{K:List Str}{S:Pu}(h:eZ K S)(m:Stm):eZ K (cU S m).1:=by
 cases m with
 | drop s =>
  simp only[Own.cU];split
  ·split
   ·exact h.same rfl
   ·exact h
  ·exact h
 | ZA x k =>
  simp only[Own.cU];split
  ·next w r e=>exact⟨by show((fJ S.lt k r).map (·.1)).Nodup;rw[qF];exact h.nd,by show ∀ n∈(fJ S.lt k r).map (·.1),n∈K;rw[qF];exact h.sub⟩
  ·exact h.same rfl
 | wait x ss =>
  simp only[Own.cU];split
  ·exact h.same rfl
  ·exact h.same rfl
 | _=>exact h.same rfl
theorem eZ.one{K:List Str}{S:Pu}(h:eZ K S)(m:Stm):eZ K (one S m).1:=by
 unfold Own.one;split
 ·cases m with
  | whl s b=>show eZ K (if _ then S.pass else S.enter 0 b);split<;>exact h.same rfl
  | iff s b o=>show eZ K (if _ then S.enter 1 o else S.enter 0 b);split<;>exact h.same rfl
  | _=>exact h
 ·show eZ K (if _ then (Own.cU S m).1.pass else (Own.cU S m).1);split
  ·exact(h.cU m).same rfl
  ·exact h.cU m
theorem xQ{K:List Str}:∀(n:Nat) {S:Pu},eZ K S->eZ K (iQ n S).1
 | 0,S,h=>by
  have hc:eZ K S.cG:=h.same rfl;cases e:cI S.cG.stk with
  | none=>rw[dU e];exact hc.same rfl
  | some m=>rw[jS e];exact hc.same rfl
 | n+1,S,h=>by
  have hc:eZ K S.cG:=h.same rfl;cases e:cI S.cG.stk with
  | none=>rw[dU e];exact hc.same rfl
  | some m =>
   cases z:(one S.cG m).1.sl.isN with
   | true=>rw[pY e z];exact xQ n (hc.one m)
   | false=>rw[jR e z];exact hc.one m
theorem eZ.wake{K:List Str}{S:Pu}(h:eZ K S)(w:Wo):eZ K (S.wake w).1:=by
 unfold Pu.wake;split
 ·exact xQ 300 (h.same rfl)
 ·exact xQ 300 (h.same rfl)
 ·exact h
theorem eZ.take{K:List Str}{S:Pu}(h:eZ K S)(x:Hap)(hx:∀ m k w,x=.ltr m k w->k∈K):eZ K (S.take x).1:=by
 unfold Pu.take;split
 ·exact h
 cases x with
 | beg m w=>exact xQ 300 (h.same rfl)
 | don m i w =>
  show eZ K ((S.at' m).gY i w).1;unfold Pu.gY;split
  ·split
   ·exact(h.same (T:=(S.at' m).done i w) rfl).wake _
   ·exact h.same rfl
  ·exact h.same rfl
 | ltr m k w =>
  show eZ K ((S.at' m).iJ k w).1;unfold Pu.iJ;split
  ·split
   ·exact(h.same (T:=S.at' m) rfl).wake _
   ·exact((h.same (T:=S.at' m) rfl).add (hx m k w rfl) w).same rfl
  ·exact((h.same (T:=S.at' m) rfl).add (hx m k w rfl) w).same rfl
theorem eZ.len{K:List Str}{S:Pu}(h:eZ K S):S.lt.length<=K.length:=by
 have:=vA h.nd h.sub
 rwa [List.length_map] at this
noncomputable def NM4:List Str:=["a","b","c","d"]
noncomputable def KY3:List Str:=["key","yes","m"]
theorem eO.tk{H H':Hp}{r:Addr}(R:eO H r)(k:Kp [r] H H'):aK H H':=.of k fun a ha=>by
 obtain⟨c,f,e,_⟩:=R;have:a=r:=by simpa using ha
 exact⟨_,this▸e,fun _ h=>by cases h⟩
theorem made1J{r p:Addr}{H H':Hp}{o:HO}(x:Kp [r] (Zs H p o) H')(R:eO H r)(h:H p=Option.none):H' p=some o:=x.at1 aA (R.none h)
theorem WO{a b:Prop}[Decidable a][Decidable b]{P R:Prop}:(if a then (if b then P else R) else R)=if a/\b then P else R:=by
 by_cases ha:a<;>by_cases hb:b<;>simp[ha,hb]
noncomputable def Gx(d:Nat):Sp:=fun vs H Q _=>∃(r:Addr) (dp:Int),vs=[.ref r,.int dp]/\0<=dp/\dp < d/\eO H r/\∀(v:V) (s:Say) (H':Hp),dD H' v s->s.ok->(s.depth:Int)<=dp+1->eO H' r->Kp [r] H H'->Q v H'
theorem gB.snoc{H:Hp}{vs:List V}{ss:List Say}{v:V}{s:Say}(h:gB H vs ss)(e:dD H v s):gB H (vs++[v]) (ss++[s]):=by
 induction h with
 | nil=>exact .cons e .nil
 | cons a _ ih=>exact .cons a ih
theorem zC:∀(b:List Stm) (x:Stm),qO (b++[x])=max (qO b) x.dp
 | [],x=>by simp[qO]
 | y::b,x=>by
  simp only[List.cons_append,qO,zC b x];omega
theorem Eb{b:List Stm}{x:Stm}(h:qS true b)(g:x.gd true):qS true (b++[x]):=by
 induction b with
 | nil=>simp only[List.nil_append,qS];exact⟨g,trivial⟩
 | cons y b ih=>simp only[List.cons_append,qS] at h ⊢;exact⟨h.1,ih h.2⟩
theorem Ey{L:List Str}{b:List Stm}{x:Stm}(h:cV L b)(g:x.fF L):cV L (b++[x]):=by
 induction b with
 | nil=>simp only[List.nil_append,cV];exact⟨g,trivial⟩
 | cons y b ih=>simp only[List.cons_append,cV] at h ⊢;exact⟨h.1,ih h.2⟩
theorem bE.snoc{H:Hp}{vs:List V}{ms:List Stm}{v:V}{m:Stm}(h:bE H vs ms)(e:cL H v m):bE H (vs++[v]) (ms++[m]):=by
 induction ms generalizing vs with
 | nil=>cases h;exact .cons e .nil
 | cons m ms ih =>
  cases h with
  | cons a b=>exact .cons a (ih b)
theorem look2{a b z:Str}{x y c:Addr}(n:(a==b)=false)(h:List.lookup z [(a,x),(b,y)]=some c):List.lookup z [(b,y),(a,x)]=some c:=by
 simp only[List.lookup] at h ⊢;by_cases h1:(z==a)=true
 ·by_cases h2:(z==b)=true
  ·rw[<- eq_of_beq h1,<- eq_of_beq h2] at n;simp at n
  ·simp only[h1,Bool.not_eq_true] at h h2 ⊢;simp only[h2];exact h
 ·simp only[Bool.not_eq_true] at h1;simp only[h1] at h ⊢;cases h2:z==b<;>simp_all
noncomputable abbrev w4:List V:=[.str "arg",.str "now",.str "answer",.str "not"]
theorem abcd1{c:Nat}(h:c∈("abcd":Str).cps.toList):∃ z:Str,(⟨#[c]⟩:Str)=z/\z∈NM4:=⟨_,rfl,(show ∀ c∈("abcd":Str).cps.toList,(⟨#[c]⟩:Str)∈NM4 by decide +kernel) c h⟩
theorem GQ:("abcd":Str).length=4:=by decide +kernel
noncomputable def Gy(d:Nat):Sp:=fun vs H Q _=>∃(r:Addr) (dp:Int),vs=[.ref r,.int dp]/\0<=dp/\dp<=d/\eO H r/\∀(v:V) (x:Stm) (H':Hp),cL H' v x->x.gd true->x.fF NM4->(x.dp:Int)<=dp->eO H' r->Kp [r] H H'->Q v H'
noncomputable def DC(d:Nat):Sp:=fun vs H Q _=>∃(r:Addr) (dp:Int),vs=[.ref r,.int dp]/\0<=dp/\dp < d/\eO H r/\∀(p:Addr) (us:List V) (b:List Stm) (H':Hp),H' p=some (.tup us)->bE H' us b->qS true b->cV NM4 b->(qO b:Int)<=dp->b.length<=3->eO H' r->Kp [r] H H'->Q (.ref p) H'
noncomputable def UD:Sp:=fun vs H Q _=>∃(cl:Addr) (ms:List Int),vs=[.ref cl]/\H cl=some (.lst (ms.map V.int))/\ms.length<=63/\∀(p:Addr) (us:List V) (b:List Stm) (H':Hp),H' p=some (.tup us)->bE H' us b->qS true b->cV NM4 b->qO b<=1->b.length<=63->Kp [] H H'->Q (.ref p) H'
theorem ZH.slp{wt:Bool}{S:Pu}{N:Nat}(F:ZH wt S N)(x:Slp)(h1:∀ k,x≠.ZA k)(h2:∀ ts,x≠.wait ts):ZH wt {S with sl:=x,pend:=[]} N :=
 ⟨F.nm,F.md,Nat.zero_le _,F.an,F.lt,F.lw,F.pl,F.nw,F.sk,fun k e=>absurd e (h1 k),fun ts e=>absurd e (h2 ts)⟩
theorem lU{wt:Bool}:∀(n:Nat) {S:Pu} {N:Nat},ZH wt S N->S.sl=.Zu->N+n<=900000->ZH wt (iQ n S).1 (N+n)
 | 0,S,N,F,h,_=>by
  cases e:cI S.cG.stk with
  | none=>rw[dU e];exact(F.cG h).slp _ (fun _ z=>by cases z) (fun _ z=>by cases z)
  | some m=>rw[jS e];exact(F.cG h).slp _ (fun _ z=>by cases z) (fun _ z=>by cases z)
 | n+1,S,N,F,h,hN=>by
  cases e:cI S.cG.stk with
  | none=>rw[dU e];exact((F.cG h).slp _ (fun _ z=>by cases z) (fun _ z=>by cases z)).more (by omega)
  | some m =>
   have F1:=(F.cG h).one e h (by omega);cases z:(one S.cG m).1.sl.isN with
   | true =>
    rw[pY e z];exact(lU n F1 (C7 z) (by omega)).more (by omega)
   | false=>rw[jR e z];exact F1.more (by omega)
theorem ZH.PJ{wt:Bool}{S:Pu}{N:Nat}(F:ZH wt S N){m i:Int}{w:Wo}(hm:0<=m/\m<=1000000000000)(hw:eY w)(hi:eY (some i))(hN:N<=800000):ZH wt (S.take (.don m i w)).1 (N+302):=by
 have F1:=F.at' hm;have F2:=F1.done (i:=i) hw;unfold Pu.take;split
 ·exact F.more (by omega)
 show ZH wt ((S.at' m).gY i w).1 (N+302);unfold Pu.gY;split
 ·split
  ·unfold Pu.wake;split
   ·next e=>exact(lU 300 (F2.wake e hi _) rfl (by omega)).more (by omega)
   ·next e=>exact(lU 300 (F2.wake e hi _) rfl (by omega)).more (by omega)
   ·exact F2.more (by omega)
  ·exact F2.more (by omega)
 ·exact F2.more (by omega)
theorem ZH.DE{wt:Bool}{S:Pu}{N:Nat}(F:ZH wt S N)(h:Hap)(hm:0<=h.m/\h.m<=1000000000000)(hw:eY h.w)(hi:∀ i∈S.pend,eY (some i))(hN:N<=800000):ZH wt (S.take h).1 (N+302):=by
 cases h with
 | beg m w =>
  unfold Pu.take;split
  ·exact F.more (by omega)
  have F1:=F.at' hm;have F2:ZH wt {S with nw:=later S.nw m,ar:=w,sl:=.Zu} N:=⟨F1.nm,F1.md,F1.pd,F1.an,F1.lt,F1.lw,⟨F1.pl.nm,hw,F1.pl.an⟩,F1.nw,F1.sk,fun k e=>(by cases e),fun k e=>(by cases e)⟩;exact(lU 300 F2 rfl (by omega)).more (by omega)
 | don m i w =>
  by_cases hp:i∈S.pend
  ·exact F.PJ hm hw (hi i hp) hN
  ·have F1:=F.at' hm;unfold Pu.take;split
   ·exact F.more (by omega)
   ·next ho =>
    have F2:=F1.done (i:=i) hw;show ZH wt ((S.at' m).gY i w).1 (N+302);exfalso;refine ho ?_;unfold Pu.over;cases S.sl<;>simp[hp]
 | ltr m k w =>
  have F1:=F.at' hm;unfold Pu.take;split
  ·exact F.more (by omega)
  show ZH wt ((S.at' m).iJ k w).1 (N+302);unfold Pu.iJ;split
  ·split
   ·unfold Pu.wake;split
    ·next e=>exact(lU 300 (F1.wake e hw _) rfl (by omega)).more (by omega)
    ·next e=>exact(lU 300 (F1.wake e hw _) rfl (by omega)).more (by omega)
    ·exact F1.more (by omega)
   ·exact(F1.gX hw).more (by omega)
  ·exact(F1.gX hw).more (by omega)
inductive bN(H:Hp):List V->List Hap->Prop
 | nil:bN H [] []
 | cons {v:V} {vs:List V} {h:Hap} {hs:List Hap}:nN H v h->bN H vs hs->bN H (v::vs) (h::hs)
theorem LA{H H':Hp}{v:V}{h:Hap}(x:nN H v h)(k:aK H H'):nN H' v h:=by
 obtain⟨a,e,f⟩:=x;exact⟨a,e,k _ _ f⟩
theorem bN.kt{H H':Hp}{vs:List V}{hs:List Hap}(h:bN H vs hs)(k:aK H H'):bN H' vs hs:=by
 induction h with
 | nil=>exact .nil
 | cons a _ ih=>exact .cons (LA a k) ih
theorem bN.len{H:Hp}{vs:List V}{hs:List Hap}(h:bN H vs hs):vs.length=hs.length:=by
 induction h with
 | nil=>rfl
 | cons _ _ ih=>simp[ih]
theorem sY:∀(n:Nat) (S:Pu),(iQ n S).1.sl.isN=false
 | 0,S=>by
  cases e:cI S.cG.stk with
  | none=>rw[dU e];rfl
  | some m=>rw[jS e];rfl
 | n+1,S=>by
  cases e:cI S.cG.stk with
  | none=>rw[dU e];rfl
  | some m =>
   cases z:(one S.cG m).1.sl.isN with
   | true=>rw[pY e z];exact sY n _
   | false=>rw[jR e z];exact z
theorem E4{S:Pu}(h:S.sl.isN=false)(w:Wo):(S.wake w).1.sl.isN=false:=by
 unfold Pu.wake;split
 ·exact sY _ _
 ·exact sY _ _
 ·exact h
theorem Bi{S:Pu}(h:S.sl.isN=false)(x:Hap):(S.take x).1.sl.isN=false:=by
 unfold Pu.take;split
 ·exact h
 cases x with
 | beg m w=>exact sY _ _
 | don m i w =>
  show((S.at' m).gY i w).1.sl.isN=false;unfold Pu.gY;split
  ·split
   ·exact E4 (show((S.at' m).done i w).sl.isN=false from h) _
   ·exact h
  ·exact h
 | ltr m k w =>
  show((S.at' m).iJ k w).1.sl.isN=false;unfold Pu.iJ;split
  ·split
   ·exact E4 (show(S.at' m).sl.isN=false from h) _
   ·exact h
  ·exact h
noncomputable def takes:Pu->List Hap->Pu×List Cmds
 | S,[]=>(S,[])
 | S,h::r=>((takes (S.take h).1 r).1,(S.take h).2::(takes (S.take h).1 r).2)
theorem sA(h:Hap):∀(l:List Hap) (S:Pu),takes S (l++[h])=(((takes S l).1.take h).1,(takes S l).2++[((takes S l).1.take h).2])
 | [],S=>by simp[takes]
 | x::l,S=>by
  have:=sA h l (S.take x).1;simp only[List.cons_append,takes,this]
noncomputable def Hap.rG(h:Hap):Prop:=(0<=h.m/\h.m<=1000000000000)/\eY h.w
inductive fA(H:Hp):List Addr->List Cmds->Prop
 | nil:fA H [] []
 | cons {a:Addr} {us:List V} {cs:Cmds} {as:List Addr} {ZD:List Cmds}:H a=some (.lst us)->gI H us cs->fA H as ZD->fA H (a::as) (cs::ZD)
theorem fA.keep{H H':Hp}{as:List Addr}{ZD:List Cmds}(h:fA H as ZD)(k:∀ a∈as,∀ o,H a=some o->H' a=some o)(t:aK H H'):fA H' as ZD:=by
 induction h with
 | nil=>exact .nil
 | cons e c _ ih=>exact .cons (k _ (by simp) _ e) (c.kt t) (ih fun a ha=>k a (List.mem_cons_of_mem _ ha))
theorem fA.snoc{H:Hp}{as:List Addr}{ZD:List Cmds}{a:Addr}{us:List V}{cs:Cmds}(h:fA H as ZD)(e:H a=some (.lst us))(c:gI H us cs):fA H (as++[a]) (ZD++[cs]):=by
 induction h with
 | nil=>exact .cons e c .nil
 | cons x y _ ih=>exact .cons x y ih
theorem fA.len{H:Hp}{as:List Addr}{ZD:List Cmds}(h:fA H as ZD):as.length=ZD.length:=by
 induction h with
 | nil=>rfl
 | cons _ _ _ ih=>simp[ih]
theorem fA.there{H:Hp}{as:List Addr}{ZD:List Cmds}(h:fA H as ZD):∀ a∈as,∃ o,H a=some o:=by
 induction h with
 | nil=>intro a ha;simp at ha
 | cons e _ _ ih =>
  intro a ha;rcases List.mem_cons.mp ha with rfl|ha
  ·exact⟨_,e⟩
  ·exact ih a ha
theorem eA:∀(l:List Hap) (S:Pu),(takes S l).2.length=l.length
 | [],_=>rfl
 | h::l,S=>by simp only[takes,List.length_cons,eA l]
theorem bN.iK{H:Hp}{vs:List V}{hs:List Hap}(h:bN H vs hs):∀ {i:Nat} {v:V},vs[i]?=some v->∃ x,hs[i]?=some x/\nN H v x:=by
 induction h with
 | nil=>intro i v e;simp at e
 | cons a _ ih =>
  intro i v e;cases i with
  | zero=>simp only[List.getElem?_cons_zero,Option.some.injEq] at e;subst e;exact⟨_,rfl,a⟩
  | succ i=>exact ih (by simpa using e)
theorem Fw.LK{R:Rn}{as ZP:List Addr}{G0 G H':Hp}(F:Fw R as ZP G H')(k:Kp [] G0 G)(h:∀ a,a∈R.cells\/a∈as->G0 a=none):Kp [] G0 H':=fun b o e _=>F.kp b o (k.at e) (fun z=>by rw[h b (.inl z)] at e;cases e) (fun z=>by rw[h b (.inr z)] at e;cases e)
theorem _root_.L2.Kp.fZ{H H':Hp}{p:Addr}(k:Kp [] H H')(h:H' p=none):H p=none:=by
 cases e:H p with
 | none=>rfl
 | some o=>rw[k.at e] at h;cases h
theorem IQ(w:Wo):fQ [] w=none:=by cases w<;>rfl
theorem Hj{wt:Bool}{b:List Stm}(g:qS wt b)(d:qO b<=20):ZH wt (dG b) 0 :=
 {nm:=Nat.le_refl _,md:=Nat.le_refl _,pd:=Nat.le_refl _,an:=Nat.le_refl _,lt:=Nat.le_refl _,lw:=fun k ws h=>(by cases h)
  pl:=⟨fun _=>kC,kC,fun w=>(by show eY (fQ [] w);rw[IQ];exact kC)⟩
  nw:=⟨Int.le_refl _,by show(0:Int)<=1000000000000;decide⟩
  sk:=⟨⟨Nat.zero_le _,by simp⟩,fun x hx=>(by rw[show x=(0,b,0) by simpa[dG] using hx];exact g),⟨by simpa using d,trivial⟩⟩
  sl:=⟨fun k e=>(by cases e),fun k e=>(by cases e)⟩}
theorem t4.kt{H H':Hp}{v:V}{S:Pu}(h:t4 H v S)(k:aK H H'):t4 H' v S:=by
 unfold t4 at *;split at h
 ·next hg =>
  rw[if_pos hg];obtain⟨p,pl,pn,po,pa,pt,sl,un,ua,ut,e,a1,a2,a3,a4,a5,a6,a7,a8,a9,a10⟩:=h;exact⟨p,pl,pn,po,pa,pt,sl,un,ua,ut,e,k _ _ a1,a2.kt k,k _ _ a3,k _ _ a4,a5.kt k,k _ _ a6,k _ _ a7,a8.kt k,k _ _ a9,a10.kt k⟩
 ·next hg =>
  rw[if_neg hg];exact h.kt k
noncomputable def Cu(H:Hp)(p:Addr)(S:Pu):Prop:=∃(v sl:V) (lo:Addr),H p=some (.tup [v,sl,.ref lo])/\t4 H v S/\iD H sl S.sl/\H lo=some (.lst (S.pend.map V.int))
noncomputable def HL(C:Cl):Sp:=fun vs H Q _=>∃(pg hl:Addr) (us hv:List V) (b:List Stm) (hs:List Hap),vs=[.ref pg,.ref hl]/\H pg=some (.tup us)/\bE H us b/\qS true b/\qO b<=20/\H hl=some (.lst hv)/\bN H hv hs/\(∀ h∈hs,h.rG)/\hs.length<=1000 /\
 ∀(t:Addr) (R:Rn) (as:List Addr) (sl:V) (cl:Addr) (rs:List Addr) (H':Hp),H' t=some (.tup [.ref R.x,.ref cl])->bA C H' R as sl (takes (dG b) hs).1->ZH true (takes (dG b) hs).1 (302 * hs.length)->(takes (dG b) hs).1.sl.isN=false->H' cl=some (.lst (rs.map V.ref))->fA H' rs (takes (dG b) hs).2->rs.Nodup->(∀ a∈rs,a∉R.cells/\a∉as/\H a=none/\a≠cl)->(cl∉R.cells/\cl∉as)->(∀ a,a∈R.cells\/a∈as->H a=none)->H cl=none->Kp [] H H'->Q (.ref t) H'
theorem Hc{K:q0B}{H:Hp}{n:Nat}{a b:Addr}{xs ys:List V}(ha:H a=some (.tup xs))(hb:H b=some (.tup ys))(hl:xs.length=ys.length)(h:∀(j:Nat) x y,xs[j]?=some x->ys[j]?=some y->nC K H n x y true):nC K H (n+1) (.ref a) (.ref b) true:=by
 by_cases hab:a=b
 ·subst hab;exact .same
 ·refine .refs hab ?_;have:=kU.tup (K:=K) (H:=H) (n:=n) (e:=fun _=>true) (eJ.of ha) (eJ.of hb) h
  rwa [show((List.range (min xs.length ys.length)).all (fun _=>true)&&xs.length==ys.length)=true by simp[hl]] at this
theorem HJ{K:q0B}{H:Hp}{n:Nat}{a b:Addr}{xs ys:List V}(ha:H a=some (.lst xs))(hb:H b=some (.lst ys))(hl:xs.length=ys.length)(h:∀(j:Nat) x y,xs[j]?=some x->ys[j]?=some y->nC K H n x y true):kU K H (n+1) a b true:=by
 have:=kU.list (K:=K) (H:=H) (n:=n) (e:=fun _=>true) (dC.of ha) (dC.of hb) hl h
 rwa [show(List.range xs.length).all (fun _=>true)=true by simp] at this
theorem Oz{K:q0B}{H:Hp}{n:Nat}{a b:Addr}{xs ys:List V}(ha:H a=some (.lst xs))(hb:H b=some (.lst ys))(hl:xs.length=ys.length)(h:∀(j:Nat) x y,xs[j]?=some x->ys[j]?=some y->nC K H n x y true):nC K H (n+1) (.ref a) (.ref b) true:=by
 by_cases hab:a=b
 ·subst hab;exact .same
 ·exact .refs hab (HJ ha hb hl h)
theorem D3{K:q0B}{H:Hp}{n:Nat}{x:V}(h:cT x=true)(e:qR x x=true):nC K H n x x true:=by
 have:=nC.flat (K:=K) (H:=H) (n:=n) h h
 rwa [e] at this
noncomputable def kA(cs:Cmds):Prop:=∀ c∈cs,∀ v∈c,cT v=true/\qR v v=true
theorem Rk{K:q0B}{H:Hp}{n:Nat}{us vs:List V}{cs:Cmds}(h:gI H us cs)(g:gI H vs cs)(f:kA cs):∀(j:Nat) x y,us[j]?=some x->vs[j]?=some y->nC K H (n+1) x y true:=fun j x y e1 e2=>by
 obtain⟨a,c,rfl,e3,ha⟩:=h.at e1;obtain⟨b,c',rfl,e4,hb⟩:=g.at e2;rw[e3] at e4;cases e4;refine Hc ha hb rfl fun i v w e5 e6=>?_;rw[e5] at e6;cases e6;have:=f c (List.mem_of_getElem? e3) v (List.mem_of_getElem? e5);exact D3 this.1 this.2
theorem bN.snoc{H:Hp}{vs:List V}{hs:List Hap}{v:V}{h:Hap}(x:bN H vs hs)(a:nN H v h):bN H (vs++[v]) (hs++[h]):=by
 induction x with
 | nil=>exact .cons a .nil
 | cons b _ ih=>exact .cons b ih
theorem bN.app{H:Hp}{vs us:List V}{hs gs:List Hap}(x:bN H vs hs)(y:bN H us gs):bN H (vs++us) (hs++gs):=by
 induction x with
 | nil=>exact y
 | cons b _ ih=>exact .cons b ih
theorem bN.drop{H:Hp}{vs:List V}{hs:List Hap}(n:Nat)(x:bN H vs hs):bN H (vs.drop n) (hs.drop n):=by
 induction x generalizing n with
 | nil=>simpa using bN.nil
 | cons a b ih =>
  cases n with
  | zero=>exact .cons a b
  | succ n=>exact ih n
theorem bN.take{H:Hp}{vs:List V}{hs:List Hap}(n:Nat)(x:bN H vs hs):bN H (vs.take n) (hs.take n):=by
 induction x generalizing n with
 | nil=>simpa using bN.nil
 | cons a b ih =>
  cases n with
  | zero=>exact .nil
  | succ n=>exact .cons a (ih n)
theorem bN.cut{H:Hp}{vs:List V}{hs:List Hap}(x:bN H vs hs)(lo hi:Option Int):∃ gs,bN H (iF vs lo hi) gs/\(∀ g∈gs,g∈hs)/\gs.length<=hs.length :=
 ⟨_,(x.drop _).take _,fun _ h=>List.mem_of_mem_drop (List.mem_of_mem_take h),by rw[List.length_take,List.length_drop];omega⟩
theorem bN.refs{H:Hp}{vs:List V}{hs:List Hap}(x:bN H vs hs):∀ v∈vs,∃ c,v=.ref c:=by
 induction x with
 | nil=>intro v h;cases h
 | cons a _ ih =>
  intro v h;rcases List.mem_cons.mp h with rfl|h
  ·obtain⟨c,e,_⟩:=a;exact⟨c,e⟩
  ·exact ih v h
noncomputable def DI(v:V):Prop:=cT v=true/\qR v v=true
theorem bZ(x:Str):DI (.str x):=⟨rfl,by simp[Hd]⟩
theorem hX(i:Int):DI (.int i):=⟨rfl,by simp[OA]⟩
theorem gZ(w:Wo):DI (wv w):=by
 cases w with
 | none=>exact⟨rfl,rfl⟩
 | some i=>exact hX i
structure jO(K:q0B)(H:Hp)(n:Nat)(xs ys:List V):Prop where
 len:xs.length=ys.length
 at':∀(j:Nat) x y,xs[j]?=some x->ys[j]?=some y->nC K H n x y true
section
variable {K:q0B} {H:Hp} {n:Nat} {a b:Addr} {x y:V} {xs ys us vs:List V}
theorem jO.nil:jO K H n [] []:=⟨rfl,fun j x y e=>by simp at e⟩
theorem jO.cons(h:nC K H n x y true)(t:jO K H n xs ys):jO K H n (x::xs) (y::ys):=⟨by simp[t.len],fun j u v e1 e2=>by
 cases j with
 | zero =>
  simp only[List.getElem?_cons_zero,Option.some.injEq] at e1 e2;subst e1 e2;exact h
 | succ j=>exact t.at' j u v (by simpa using e1) (by simpa using e2)⟩
theorem jO.app(h:jO K H n xs ys)(t:jO K H n us vs):jO K H n (xs++us) (ys++vs):=⟨by simp[h.len,t.len],fun j u v e1 e2=>by
 by_cases c:j < xs.length
 ·rw[List.getElem?_append_left c] at e1;rw[List.getElem?_append_left (by rw[<- h.len];exact c)] at e2;exact h.at' j u v e1 e2
 ·rw[List.getElem?_append_right (by omega)] at e1;rw[List.getElem?_append_right (by rw[<- h.len];omega),<- h.len] at e2;exact t.at' _ u v e1 e2⟩
theorem DI.eq(h:DI x):nC K H n x x true:=D3 h.1 h.2
theorem jO.refl(h:∀ v∈xs,DI v):jO K H n xs xs:=⟨rfl,fun j u v e1 e2=>by
 rw[e1] at e2;cases e2;exact(h u (List.mem_of_getElem? e1)).eq⟩
theorem jO.tup(h:jO K H n xs ys)(ha:H a=some (.tup xs))(hb:H b=some (.tup ys)):nC K H (n+1) (.ref a) (.ref b) true:=Hc ha hb h.len h.at'
theorem jO.lst(h:jO K H n xs ys)(ha:H a=some (.lst xs))(hb:H b=some (.lst ys)):nC K H (n+1) (.ref a) (.ref b) true:=Oz ha hb h.len h.at'
theorem jO.rcT(h:jO K H n xs ys)(ha:H a=some (.tup xs))(hb:H b=some (.tup ys)):kU K H (n+1) a b true:=by
 have:=kU.tup (K:=K) (H:=H) (n:=n) (e:=fun _=>true) (eJ.of ha) (eJ.of hb) h.at'
 rwa [show((List.range (min xs.length ys.length)).all (fun _=>true)&&xs.length==ys.length)=true by simp[h.len]] at this
theorem Rl{cs:Cmds}(h:gI H us cs)(g:gI H vs cs)(f:kA cs):jO K H (n+1) us vs:=⟨by rw[h.len,g.len],Rk h g f⟩
theorem HG{ps:List (V×V)}(h:fL H us ps)(g:fL H vs ps)(f:∀ p∈ps,DI p.1/\DI p.2):jO K H (n+1) us vs:=by
 induction h generalizing vs with
 | nil=>cases g;exact .nil
 | @cons a x y us ps e _ ih =>
  cases g with
  | cons e2 g =>
   have:=f (x,y) (by simp);exact .cons (jO.tup (.cons this.1.eq (.cons this.2.eq .nil)) e e2) (ih g fun p hp=>f p (List.mem_cons_of_mem _ hp))
theorem OM{ps:List (Str×List Wo)}(h:iZ H us ps)(g:iZ H vs ps):jO K H (n+2) us vs:=by
 induction h generalizing vs with
 | nil=>cases g;exact .nil
 | @cons a b k ws us ps e e' _ ih =>
  cases g with
  | cons e2 e2' g =>
   refine .cons (jO.tup (.cons (bZ k).eq (.cons (jO.tup (jO.refl fun v hv=>?_) e' e2') .nil)) e e2) (ih g);obtain⟨w,_,rfl⟩:=List.mem_map.mp hv;exact gZ w
theorem tH(ts:List Int):∀ v∈ts.map V.int,DI v:=fun v hv=>by
 obtain⟨i,_,rfl⟩:=List.mem_map.mp hv;exact hX i
theorem Uv{s:Slp}(h:iD H x s)(g:iD H y s):nC K H (n+2) x y true:=by
 cases s with
 | Zu =>
  rw[show x=.Zu from h,show y=.Zu from g];exact(show DI .Zu from ⟨rfl,rfl⟩).eq
 | new =>
  obtain⟨p,rfl,e⟩:=h;obtain⟨p2,rfl,e2⟩:=g;exact jO.tup (.cons (bZ _).eq .nil) e e2
 | wait ts =>
  obtain⟨p,p2,rfl,e,f⟩:=h;obtain⟨q,q2,rfl,e2,f2⟩:=g;exact jO.tup (.cons (bZ _).eq (.cons (jO.tup (jO.refl (tH ts)) f f2) .nil)) e e2
 | ZA k =>
  obtain⟨p,rfl,e⟩:=h;obtain⟨p2,rfl,e2⟩:=g;exact jO.tup (.cons (bZ _).eq (.cons (bZ _).eq .nil)) e e2
 | ended w =>
  obtain⟨p,rfl,e⟩:=h;obtain⟨p2,rfl,e2⟩:=g;exact jO.tup (.cons (bZ _).eq (.cons (gZ _).eq .nil)) e e2
 | worn =>
  obtain⟨p,rfl,e⟩:=h;obtain⟨p2,rfl,e2⟩:=g;exact jO.tup (.cons (bZ _).eq .nil) e e2
theorem Ak(nm:List (Str×Wo)):∀(l:List Str),∀ p∈fS nm l,DI p.1/\DI p.2
 | [],p,h=>by simp[fS] at h
 | k::l,p,h=>by
  simp only[fS] at h;split at h
  ·exact Ak nm l p h
  ·rcases List.mem_cons.mp h with rfl|h
   ·exact⟨bZ _,gZ _⟩
   ·exact Ak nm l p h
end
theorem eT:kA []:=fun _ h=>by cases h
theorem IB{a b:Cmds}(h:kA a)(g:kA b):kA (a++b):=fun c hc=>by
 rcases List.mem_append.mp hc with hc|hc
 ·exact h c hc
 ·exact g c hc
theorem fI{c:List V}(h:∀ v∈c,DI v):kA [c]:=fun x hx=>by
 rw[show x=c by simpa using hx];exact h
noncomputable def JM(m:Nat)(cs:Cmds):Prop:=kA cs/\cs.length<=m
theorem Kl(S:Pu)(m:Stm):JM 1 (cU S m).2:=by
 refine⟨?_,D1 S m⟩;cases m with
 | set x s=>exact eT
 | order x y s=>exact fI (by simp only[List.forall_mem_cons];exact⟨bZ _,hX _,bZ _,gZ _,by simp⟩)
 | child x y s=>exact fI (by simp only[List.forall_mem_cons];exact⟨bZ _,hX _,bZ _,gZ _,by simp⟩)
 | ZJ x s=>exact fI (by simp only[List.forall_mem_cons];exact⟨bZ _,hX _,hX _,by simp⟩)
 | send s k r=>exact fI (by simp only[List.forall_mem_cons];exact⟨bZ _,gZ _,bZ _,gZ _,by simp⟩)
 | drop s =>
  simp only[Own.cU];split
  ·split
   ·exact fI (by simp only[List.forall_mem_cons];exact⟨bZ _,hX _,by simp⟩)
   ·exact eT
  ·exact eT
 | ZA x k =>
  simp only[Own.cU];split<;>exact eT
 | wait x ss =>
  simp only[Own.cU];split<;>exact eT
 | fin s=>exact fI (by simp only[List.forall_mem_cons];exact⟨bZ _,gZ _,by simp⟩)
 | whl s b=>exact eT
 | iff s b o=>exact eT
theorem OX(S:Pu)(m:Stm):JM 1 (one S m).2:=by
 unfold one;split
 ·exact⟨eT,by simp⟩
 ·exact Kl S m
theorem sZ:∀(n:Nat) (S:Pu),JM (n+1) (iQ n S).2
 | 0,S=>by
  cases e:cI S.cG.stk with
  | none=>rw[dU e];exact⟨fI (by simp only[List.forall_mem_cons];exact⟨bZ _,gZ _,by simp⟩),by simp[Pu.ends]⟩
  | some m=>rw[jS e];exact⟨fI (by simp only[List.forall_mem_cons];exact⟨bZ _,by simp⟩),by simp[Pu.Cs]⟩
 | n+1,S=>by
  cases e:cI S.cG.stk with
  | none=>rw[dU e];exact⟨fI (by simp only[List.forall_mem_cons];exact⟨bZ _,gZ _,by simp⟩),by simp[Pu.ends]⟩
  | some m =>
   have h1:=OX S.cG m;cases z:(one S.cG m).1.sl.isN with
   | true =>
    rw[pY e z];have h2:=sZ n (one S.cG m).1;exact⟨IB h1.1 h2.1,by simp only[List.length_append];have:=h1.2;have:=h2.2;omega⟩
   | false=>rw[jR e z];exact⟨h1.1,by have:=h1.2;omega⟩
theorem E5(S:Pu)(w:Wo):JM 301 (S.wake w).2:=by
 unfold Pu.wake;split
 ·exact sZ 300 _
 ·exact sZ 300 _
 ·exact⟨eT,by simp⟩
theorem MR(S:Pu)(x:Hap):JM 301 (S.take x).2:=by
 have nl:JM 301 []:=⟨eT,by simp⟩;unfold Pu.take;split
 ·exact nl
 cases x with
 | beg m w=>exact sZ 300 _
 | don m i w =>
  show JM 301 ((S.at' m).gY i w).2;unfold Pu.gY;split
  ·split
   ·exact E5 _ _
   ·exact nl
  ·exact nl
 | ltr m k w =>
  show JM 301 ((S.at' m).iJ k w).2;unfold Pu.iJ;split
  ·split
   ·exact E5 _ _
   ·exact nl
  ·exact nl
theorem eW:∀(l:List Hap) (S:Pu),∀ cs∈(takes S l).2,JM 301 cs
 | [],S,cs,h=>by simp[takes] at h
 | x::l,S,cs,h=>by
  simp only[takes,List.mem_cons] at h;rcases h with rfl|h
  ·exact MR S x
  ·exact eW l _ cs h
noncomputable def Hap.inK(h:Hap):Prop:=h.rG/\∀ m k w,h=.ltr m k w->k∈KY3
theorem eC.takes{L:List Str}:∀(l:List Hap) {S:Pu},eC L S->eC L (takes S l).1
 | [],_,h=>h
 | x::l,_,h=>eC.takes l (h.take x)
theorem eZ.takes:∀(l:List Hap) {S:Pu},eZ KY3 S->(∀ h∈l,h.inK)->eZ KY3 (takes S l).1
 | [],_,h,_=>h
 | x::l,_,h,f=>eZ.takes l (h.take x (f x (by simp)).2) fun y hy=>f y (List.mem_cons_of_mem _ hy)
theorem TV{b:List Stm}(h:cV NM4 b):eC NM4 (dG b):=⟨by simp[dG],by simp[dG],fun x hx=>by rw[show x=(0,b,0) by simpa[dG] using hx];exact h⟩
theorem TN{b:List Stm}:eZ KY3 (dG b):=⟨by simp[dG],by simp[dG]⟩
structure Fine(S:Pu)(N:Nat):Prop where
 fit:ZH true S N
 isN:S.sl.isN=false
 nm:eC NM4 S
 lt:eZ KY3 S
noncomputable def kR(H:Hp)(tl:Nat->List V)(rs:List Addr)(ZD:List Cmds):Prop:=rs.length=ZD.length/\∀(j:Nat) (a:Addr) (cs:Cmds),rs[j]?=some a->ZD[j]?=some cs->∃ us,H a=some (.lst (us++tl j))/\gI H us cs
theorem kR.of{H:Hp}{rs:List Addr}{ZD:List Cmds}(h:fA H rs ZD):kR H (fun _=>[]) rs ZD:=by
 induction h with
 | nil=>exact⟨rfl,fun j a cs e=>by simp at e⟩
 | @cons a us cs as ZD e c _ ih =>
  refine⟨by simp[ih.1],fun j b ds e1 e2=>?_⟩;cases j with
  | zero =>
   simp only[List.getElem?_cons_zero,Option.some.injEq] at e1 e2;subst e1 e2;exact⟨us,by simpa using e,c⟩
  | succ j=>exact ih.2 j b ds (by simpa using e1) (by simpa using e2)
theorem kR.keep{H H':Hp}{tl:Nat->List V}{rs:List Addr}{ZD:List Cmds}(h:kR H tl rs ZD)(k:∀ a∈rs,∀ o,H a=some o->H' a=some o)(t:aK H H'):kR H' tl rs ZD:=⟨h.1,fun j a cs e1 e2=>by
 obtain⟨us,e,c⟩:=h.2 j a cs e1 e2;exact⟨us,k a (List.mem_of_getElem? e1) _ e,c.kt t⟩⟩
theorem kR.kp{H H':Hp}{tl:Nat->List V}{rs:List Addr}{ZD:List Cmds}(h:kR H tl rs ZD)(k:Kp [] H H'):kR H' tl rs ZD:=h.keep (fun _ _ _ e=>k.at e) (aK.nil k)
theorem kR.take{H:Hp}{tl:Nat->List V}{rs:List Addr}{ZD:List Cmds}(h:kR H tl rs ZD)(m:Nat):kR H tl (rs.take m) (ZD.take m):=⟨by simp[h.1],fun j a cs e1 e2=>by
 rw[List.getElem?_take] at e1 e2;split at e1
 ·next hj=>rw[if_pos hj] at e2;exact h.2 j a cs e1 e2
 ·cases e1⟩
theorem kR.at'{H:Hp}{tl:Nat->List V}{rs:List Addr}{ZD:List Cmds}(h:kR H tl rs ZD){j:Nat}{a:Addr}(e:rs[j]?=some a):∃ us cs,ZD[j]?=some cs/\H a=some (.lst (us++tl j))/\gI H us cs:=by
 have hj:j < ZD.length:=by rw[<- h.1];exact(List.getElem?_eq_some_iff.mp e).1
 obtain⟨us,e1,c⟩:=h.2 j a ZD[j] e (List.getElem?_eq_getElem hj);exact⟨us,ZD[j],List.getElem?_eq_getElem hj,e1,c⟩
theorem kR.there{H:Hp}{tl:Nat->List V}{rs:List Addr}{ZD:List Cmds}(h:kR H tl rs ZD):∀ a∈rs,∃ us,H a=some (.lst us):=fun a ha=>by
 obtain⟨j,e⟩:=List.mem_iff_getElem?.mp ha;obtain⟨us,cs,_,e1,_⟩:=h.at' e;exact⟨_,e1⟩
theorem kR.rc{K:q0B}{H:Hp}{n:Nat}{tl:Nat->List V}{rs rs':List Addr}{ZD:List Cmds}{a b:Addr}(h:kR H tl rs ZD)(g:kR H tl rs' ZD)(ha:H a=some (.lst (rs.map V.ref)))(hb:H b=some (.lst (rs'.map V.ref)))(f:∀ cs∈ZD,JM 301 cs)(ft:∀ j,∀ v∈tl j,DI v):kU K H (n+3) a b true:=by
 refine HJ ha hb (by simp[h.1,g.1]) fun j x y e1 e2=>?_;rw[List.getElem?_map] at e1 e2;obtain⟨c,e3,rfl⟩:=Option.map_eq_some_iff.mp e1;obtain⟨d,e4,rfl⟩:=Option.map_eq_some_iff.mp e2;obtain⟨us,cs,e5,e6,hc⟩:=h.at' e3;obtain⟨vs,e7,hd⟩:=g.2 j d cs e4 e5;exact jO.lst ((Rl hc hd (f cs (List.mem_of_getElem? e5)).1).app (jO.refl (ft j))) e6 e7
noncomputable def oV(i:Nat):Nat->List V:=fun j=>if j < i then [.str "more"] else []
theorem kR.more{H:Hp}{rs:List Addr}{ZD:List Cmds}{i:Nat}{a:Addr}{us:List V}(h:kR H (oV i) rs ZD)(nd:rs.Nodup)(e:rs[i]?=some a)(ea:H a=some (.lst us)):kR (Zs H a (.lst (us++[.str "more"]))) (oV (i+1)) rs ZD:=⟨h.1,fun j b cs e1 e2=>by
 obtain⟨vs,e3,c⟩:=h.2 j b cs e1 e2;have t:aK H (Zs H a (.lst (us++[.str "more"]))):=aK.tT ea (by intro _ z;cases z);by_cases hj:j=i
 ·subst hj;rw[e] at e1;cases e1;rw[ea] at e3;have e4:us=vs++oV j j:=by simpa using e3
  have e5:oV j j=[]:=if_neg (by omega);rw[e5,List.append_nil] at e4;subst e4;exact⟨us,by rw[aA,oV,if_pos (by omega)],c.kt t⟩
 ·have nb:b≠a:=fun z=>by
   subst z;exact hj ((List.getElem?_inj (List.getElem?_eq_some_iff.mp e1).1 nd).mp (by rw[e1,e]))
  refine⟨vs,?_,c.kt t⟩;rw[aG nb,e3];have:oV i j=oV (i+1) j:=by
   unfold oV;by_cases h1:j < i
   ·rw[if_pos h1,if_pos (by omega)]
   ·rw[if_neg h1,if_neg (by omega)]
  rw[this]⟩
theorem kR.all{H:Hp}{rs:List Addr}{ZD:List Cmds}{i:Nat}(h:kR H (oV i) rs ZD)(l:rs.length<=i):kR H (fun _=>[.str "more"]) rs ZD:=⟨h.1,fun j a cs e1 e2=>by
 obtain⟨us,e,c⟩:=h.2 j a cs e1 e2;have hj:j < rs.length:=(List.getElem?_eq_some_iff.mp e1).1;exact⟨us,by rw[e,oV,if_pos (by omega)],c⟩⟩
theorem kR.snoc{H:Hp}{t:List V}{rs:List Addr}{ZD:List Cmds}{a:Addr}{us:List V}{cs:Cmds}(h:kR H (fun _=>t) rs ZD)(e:H a=some (.lst (us++t)))(c:gI H us cs):kR H (fun _=>t) (rs++[a]) (ZD++[cs]):=⟨by simp[h.1],fun j b ds e1 e2=>by
 by_cases hj:j < rs.length
 ·rw[List.getElem?_append_left hj] at e1;rw[List.getElem?_append_left (by rw[<- h.1];exact hj)] at e2;exact h.2 j b ds e1 e2
 ·rw[List.getElem?_append_right (by omega)] at e1;rw[List.getElem?_append_right (by rw[<- h.1];omega),<- h.1] at e2;cases hk:j - rs.length with
  | zero =>
   rw[hk] at e1 e2;simp only[List.getElem?_cons_zero,Option.some.injEq] at e1 e2;subst e1 e2;exact⟨us,e,c⟩
  | succ k=>rw[hk] at e1;simp at e1⟩
theorem bA.QX{C:Cl}{H:Hp}{R R':Rn}{as ZP:List Addr}{sl ZM:V}{S S':Pu}(A:bA C H R as sl S)(B:bA C H R' ZP ZM S'):R'.wk∉R.cells/\R'.wk∉as:=by
 obtain⟨kvs,e,L⟩:=A.lt;obtain⟨vs,el,_⟩:=A.wk.bl;have w:=B.wk.ins;refine⟨fun h=>?_,fun h=>?_⟩
 ·simp only[Rn.cells,List.mem_cons,List.not_mem_nil,or_false] at h;rcases h with h|h|h|h|h|h|h|h<;>rw[h] at w
  ·rw[A.ins] at w;simp at w
  ·rw[el] at w;cases w
  ·rw[A.wk.nu] at w;cases w
  ·rw[A.nm] at w;cases w
  ·rw[A.tk.ins] at w;simp at w
  ·rw[A.tk.hp] at w;cases w
  ·rw[A.tk.ha] at w;cases w
  ·rw[e] at w;cases w
 ·obtain⟨xs,ex⟩:=L.ex _ h;rw[ex] at w;cases w
structure Two(C:Cl)(G:Hp)(R1 R2:Rn)(ZZ Z0:List Addr)(sl1 Z6:V)(S1 S2:Pu)(L:List Addr):Prop where
 a1:bA C G R1 ZZ sl1 S1
 a2:bA C G R2 Z0 Z6 S2
 dis:∀ a,a∈R1.cells\/a∈ZZ->a∉R2.cells/\a∉Z0
 sf:∀ a∈L,(∃ o,G a=some o)/\(a∉R1.cells/\a∉ZZ)/\a∉R2.cells/\a∉Z0
section
variable {C:Cl} {G G':Hp} {R1 R2:Rn} {ZZ Z0 ZP:List Addr} {sl1 Z6 ZM:V} {S1 S2 S':Pu} {L:List Addr}
theorem Two.symm(h:Two C G R1 R2 ZZ Z0 sl1 Z6 S1 S2 L):Two C G R2 R1 Z0 ZZ Z6 sl1 S2 S1 L :=
 ⟨h.a2,h.a1,fun a ha=>⟨fun z=>by rcases ha with y|y;exact(h.dis a (.inl z)).1 y;exact(h.dis a (.inl z)).2 y,fun z=>by rcases ha with y|y;exact(h.dis a (.inr z)).1 y;exact(h.dis a (.inr z)).2 y⟩,fun a ha=>⟨(h.sf a ha).1,(h.sf a ha).2.2,(h.sf a ha).2.1⟩⟩
theorem Two.keep(h:Two C G R1 R2 ZZ Z0 sl1 Z6 S1 S2 L)(F:Fw R1 ZZ ZP G G'):∀ a∈L,∀ o,G a=some o->G' a=some o:=fun a ha o e=>F.kp a o e (h.sf a ha).2.1.1 (h.sf a ha).2.1.2
theorem Two.step(h:Two C G R1 R2 ZZ Z0 sl1 Z6 S1 S2 L)(F:Fw R1 ZZ ZP G G')(A:bA C G' R1 ZP ZM S'):Two C G' R1 R2 ZP Z0 ZM Z6 S' S2 L:=by
 have d:=h.symm.dis;refine⟨A,h.a2.keep (fun b o e hb=>?_) (h.a1.tkp F),fun a ha=>?_,fun a ha=>?_⟩
 ·rcases hb with rfl|hb
  ·exact F.kp _ o e (h.a1.QX h.a2).1 (h.a1.QX h.a2).2
  ·exact F.kp b o e (d b hb).1 (d b hb).2
 ·rcases ha with ha|ha
  ·exact h.dis a (.inl ha)
  ·rcases F.new a ha with z|z
   ·exact h.dis a (.inr z)
   ·exact h.a2.dX z
 ·obtain⟨⟨o,e⟩,n1,n2⟩:=h.sf a ha;refine⟨⟨o,h.keep F a ha o e⟩,⟨n1.1,fun z=>?_⟩,n2⟩;rcases F.new a z with y|y
  ·exact n1.2 y
  ·rw[e] at y;cases y
theorem Two.kp(h:Two C G R1 R2 ZZ Z0 sl1 Z6 S1 S2 L)(k:Kp [] G G'):Two C G' R1 R2 ZZ Z0 sl1 Z6 S1 S2 L:=⟨h.a1.kp k,h.a2.kp k,h.dis,fun a ha=>by
 obtain⟨⟨o,e⟩,n⟩:=h.sf a ha;exact⟨⟨o,k.at e⟩,n⟩⟩
theorem Two.more{L':List Addr}{st:Addr}{o:HO}(h:Two C G R1 R2 ZZ Z0 sl1 Z6 S1 S2 L)(e:G st=some o)(n1:st∉R1.cells/\st∉ZZ)(n2:st∉R2.cells/\st∉Z0)(sub:∀ a∈L',a=st\/a∈L):Two C G R1 R2 ZZ Z0 sl1 Z6 S1 S2 L':=⟨h.a1,h.a2,h.dis,fun a ha=>by
 rcases sub a ha with rfl|z
 ·exact⟨⟨o,e⟩,n1,n2⟩
 ·exact h.sf a z⟩
theorem Two.app{hd:Addr}{us vs:List V}(h:Two C G R1 R2 ZZ Z0 sl1 Z6 S1 S2 L)(e:G hd=some (.lst us))(hh:hd∈L):Two C (Zs G hd (.lst vs)) R1 R2 ZZ Z0 sl1 Z6 S1 S2 L:=by
 obtain⟨_,n1,n2⟩:=h.sf hd hh;refine⟨h.a1.other e n1.1 n1.2,h.a2.other e n2.1 n2.2,h.dis,fun a ha=>⟨?_,(h.sf a ha).2⟩⟩;by_cases z:a=hd
 ·exact⟨_,by rw[z,aA]⟩
 ·obtain⟨o,eo⟩:=(h.sf a ha).1;exact⟨o,by rw[aG z,eo]⟩
structure Hld(G:Hp)(t2 x2 cl hl hd st:Addr)(ZW rs3:List Addr)(hv:List V)(ZD:List Cmds):Prop where
 et:G t2=some (.tup [.ref x2,.ref cl])
 c2:G cl=some (.lst (ZW.map V.ref))
 w2:kR G (fun _=>[.str "more"]) ZW ZD
 c3:G hl=some (.lst (rs3.map V.ref))
 w3:kR G (fun _=>[.str "more"]) rs3 ZD
 eh:G hd=some (.lst hv)
 es:G st=some (.lst hv)
variable {t2 x2 cl1 cl2 cl hl hd st:Addr} {rs1 ZW rs3:List Addr} {hv hv':List V} {ZD:List Cmds}
theorem Hld.keep(h:Hld G t2 x2 cl hl hd st ZW rs3 hv ZD)(k:∀ a∈cl::hl::hd::st::(ZW++rs3),∀ o,G a=some o->G' a=some o)(t:aK G G'):Hld G' t2 x2 cl hl hd st ZW rs3 hv ZD :=
 ⟨t _ _ h.et,k _ (by simp) _ h.c2,h.w2.keep (fun a ha=>k a (by simp[ha])) t,k _ (by simp) _ h.c3,h.w3.keep (fun a ha=>k a (by simp[ha])) t,k _ (by simp) _ h.eh,k _ (by simp) _ h.es⟩
theorem Hld.kp(h:Hld G t2 x2 cl hl hd st ZW rs3 hv ZD)(k:Kp [] G G'):Hld G' t2 x2 cl hl hd st ZW rs3 hv ZD:=h.keep (fun _ _ _ e=>k.at e) (aK.nil k)
theorem Hld.app(h:Hld G t2 x2 cl hl hd hd ZW rs3 hv ZD)(n:∀ a∈cl::hl::(ZW++rs3),a≠hd):Hld (Zs G hd (.lst hv')) t2 x2 cl hl hd hd ZW rs3 hv' ZD:=by
 have t:aK G (Zs G hd (.lst hv')):=aK.tT h.eh (by intro _ z;cases z);have k:∀ a∈cl::hl::(ZW++rs3),∀ o,G a=some o->Zs G hd (.lst hv') a=some o:=fun a ha o e=>by rw[aG (n a ha),e]
 exact⟨t _ _ h.et,k _ (by simp) _ h.c2,h.w2.keep (fun a ha=>k a (by simp[ha])) t,k _ (by simp) _ h.c3,h.w3.keep (fun a ha=>k a (by simp[ha])) t,aA,aA⟩
structure Mid(C:Cl)(G0 G:Hp)(R1 R2:Rn)(ZZ Z0:List Addr)(sl1 Z6:V)(S:Pu)(cl1 cl2 hd t2:Addr)(rs1 ZW:List Addr)(ZD:List Cmds)(hv:List V)(i:Nat):Prop where
 k:Kp [] G0 G
 a1:bA C G R1 ZZ sl1 S
 a2:bA C G R2 Z0 Z6 S
 c1:G cl1=some (.lst (rs1.map V.ref))
 w1:kR G (fun _=>[]) rs1 ZD
 c2:G cl2=some (.lst (ZW.map V.ref))
 w2:kR G (oV i) ZW ZD
 et:G t2=some (.tup [.ref R2.x,.ref cl2])
 eh:G hd=some (.lst hv)
structure Apt(G0:Hp)(R1 R2:Rn)(ZZ Z0:List Addr)(cl1 cl2 hd:Addr)(rs1 ZW:List Addr):Prop where
 dis:∀ a,a∈R1.cells\/a∈ZZ->a∉R2.cells/\a∉Z0
 h1:hd∉R1.cells/\hd∉ZZ
 h2:hd∉R2.cells/\hd∉Z0
 d1:cl2∉R1.cells/\cl2∉ZZ
 d2:cl2∉R2.cells/\cl2∉Z0
 dh:cl2≠hd
 nd:ZW.Nodup
 rs:∀ a∈ZW,(a∉R1.cells/\a∉ZZ)/\(a∉R2.cells/\a∉Z0)/\a≠cl2/\a≠hd/\a∉rs1/\a≠cl1/\G0 a=none
 g1:∀ a,a∈R1.cells\/a∈ZZ->G0 a=none
 g2:∀ a,a∈R2.cells\/a∈Z0->G0 a=none
 gh:G0 hd=none
variable {G0:Hp} {S:Pu} {i:Nat}
theorem Mid.kp(h:Mid C G0 G R1 R2 ZZ Z0 sl1 Z6 S cl1 cl2 hd t2 rs1 ZW ZD hv i)(k:Kp [] G G'):Mid C G0 G' R1 R2 ZZ Z0 sl1 Z6 S cl1 cl2 hd t2 rs1 ZW ZD hv i:=⟨h.k.trans k,h.a1.kp k,h.a2.kp k,k.at h.c1,h.w1.kp k,k.at h.c2,h.w2.kp k,k.at h.et,k.at h.eh⟩
theorem Mid.more(h:Mid C G0 G R1 R2 ZZ Z0 sl1 Z6 S cl1 cl2 hd t2 rs1 ZW ZD hv i)(p:Apt G0 R1 R2 ZZ Z0 cl1 cl2 hd rs1 ZW){a:Addr}{us:List V}(e:ZW[i]?=some a)(ea:G a=some (.lst us)):Mid C G0 (Zs G a (.lst (us++[.str "more"]))) R1 R2 ZZ Z0 sl1 Z6 S cl1 cl2 hd t2 rs1 ZW ZD hv (i+1):=by
 obtain⟨n1,n2,n3,n4,n5,n6,n7⟩:=p.rs a (List.mem_of_getElem? e);have t:aK G (Zs G a (.lst (us++[.str "more"]))):=aK.tT ea (by intro _ z;cases z);refine⟨fun b o eb _=>?_,h.a1.other ea n1.1 n1.2,h.a2.other ea n2.1 n2.2,?_,h.w1.keep (fun b hb o eb=>?_) t,?_,h.w2.more p.nd e ea,t _ _ h.et,?_⟩
 ·rw[aG (aJ eb n7)];exact h.k.at eb
 ·rw[aG (fun z=>n6 z.symm)];exact h.c1
 ·rw[aG (fun z=>n5 (by rw[<- z];exact hb))];exact eb
 ·rw[aG (fun z=>n3 z.symm)];exact h.c2
 ·rw[aG (fun z=>n4 z.symm)];exact h.eh
theorem Cu.kp{G G':Hp}{p:Addr}{S:Pu}(h:Cu G p S)(k:Kp [] G G'):Cu G' p S:=by
 obtain⟨v,sl,lo,e,hv,hs,eo⟩:=h;exact⟨v,sl,lo,k.at e,hv.kt (aK.nil k),hs.kt (aK.nil k),k.at eo⟩
end
theorem Fine.args{S:Pu}{N:Nat}(h:Fine S N)(l:N<=900000):S.sl.isN=false/\S.pend.length<=1000000/\S.nm.length < 64/\S.lt.length < 64/\S.ans.length<=1000000/\(∀ k ws,cK S.lt k=some ws->ws.length<=1000000):=by
 have h1:=h.nm.len;have h2:=h.lt.len;have h3:NM4.length=4:=rfl;have h4:KY3.length=3:=rfl;have h5:=h.fit.pd;have h6:=h.fit.an;exact⟨h.isN,by omega,by omega,by omega,by omega,fun k ws e=>by have:=h.fit.lw k ws e;omega⟩
theorem Fine.take{S:Pu}{N:Nat}(h:Fine S N){x:Hap}(f:x.inK)(l:N<=400000)(hp:∀ j∈S.pend,eY (some j)):Fine (S.take x).1 (N+302):=⟨h.fit.DE x f.1.1 f.1.2 hp (by omega),Bi h.isN x,h.nm.take x,h.lt.take x f.2⟩
theorem Fine.pend{C:Cl}{H:Hp}{R:Rn}{as:List Addr}{sl:V}{S:Pu}{N:Nat}(h:Fine S N)(A:bA C H R as sl S)(l:N<=900000):∀ j∈S.pend,eY (some j):=fun j hj=>by
 have:=A.tk.lt j hj;have:=h.fit.md;exact cM (by omega) (by omega)
theorem Fine.new{b:List Stm}{l:List Hap}(g:ZH true (takes (dG b) l).1 (302 * l.length))(n:(takes (dG b) l).1.sl.isN=false)(nb:cV NM4 b)(f:∀ h∈l,h.inK):Fine (takes (dG b) l).1 (302 * l.length):=⟨g,n,(TV nb).takes l,TN.takes l f⟩
noncomputable def Po:Sp:=fun vs H Q _=>∃(cl:Addr) (ms:List Int),vs=[.ref cl]/\H cl=some (.lst (ms.map V.int))/\ms.length<=63/\∀(p:Addr) (us:List V) (hs:List Hap) (H':Hp),H' p=some (.lst us)->bN H' us hs->(∀ h∈hs,h.inK)->hs.length<=66->H p=none->Kp [] H H'->Q (.ref p) H'
noncomputable def UC:Sp:=fun vs H Q _=>∃(pg:Addr) (us:List V) (b:List Stm) (c:Int),vs=[.ref pg,.int c]/\H pg=some (.tup us)/\bE H us b/\qS true b/\cV NM4 b/\qO b<=1/\b.length<=250/\∀(p:Addr) (us:List V) (b':List Stm) (H':Hp),H' p=some (.tup us)->bE H' us b'->qS true b'->cV NM4 b'->qO b'<=1->b'.length<=3 * b.length+1->Kp [] H H'->Q (.ref p) H'
noncomputable def OU(m:Stm):Prop:=m.gd true/\m.fF NM4/\m.dp<=1
theorem OV{b:List Stm}(g:qS true b)(n:cV NM4 b)(d:qO b<=1):∀ m∈b,OU m:=fun m hm=>by
 obtain⟨i,e⟩:=List.mem_iff_getElem?.mp hm;exact⟨FE g e,Aj n e,Nat.le_trans (Fn e) d⟩
theorem Hz{b:List Stm}(h:∀ m∈b,OU m):qS true b/\cV NM4 b/\qO b<=1:=by
 induction b with
 | nil=>exact⟨by simp only[qS],by simp only[cV],by simp[qO]⟩
 | cons m b ih =>
  obtain⟨a1,a2,a3⟩:=h m (by simp);obtain⟨b1,b2,b3⟩:=ih fun x hx=>h x (List.mem_cons_of_mem _ hx);exact⟨by simp only[qS];exact⟨a1,b1⟩,by simp only[cV];exact⟨a2,b2⟩,by simp only[qO];omega⟩
theorem bE.Xr{H:Hp}{vs:List V}{ms:List Stm}(h:bE H vs ms):∀ {i:Nat} {v:V},vs[i]?=some v->∃ m,ms[i]?=some m/\cL H v m:=by
 induction ms generalizing vs with
 | nil=>cases h;intro i v e;simp at e
 | cons m ms ih =>
  cases h with
  | cons a b =>
   intro i v e;cases i with
   | zero=>simp only[List.getElem?_cons_zero,Option.some.injEq] at e;subst e;exact⟨m,rfl,a⟩
   | succ i=>exact ih b (by simpa using e)
theorem bE.pick{H:Hp}:∀ {vs:List V} {P:Stm->Prop},(∀ v∈vs,∃ m,cL H v m/\P m)->∃ ms,bE H vs ms/\(∀ m∈ms,P m)/\ms.length=vs.length
 | [],_,_=>⟨[],.nil,by simp,rfl⟩
 | v::vs,P,h=>by
  obtain⟨m,a,b⟩:=h v (by simp);obtain⟨ms,c,d,e⟩:=bE.pick (vs:=vs) fun x hx=>h x (List.mem_cons_of_mem _ hx);exact⟨m::ms,.cons a c,fun x hx=>by
   rcases List.mem_cons.mp hx with rfl|hx
   ·exact b
   ·exact d x hx,by simp[e]⟩
theorem bE.all{H:Hp}{vs:List V}{ms:List Stm}{P:Stm->Prop}(h:bE H vs ms)(p:∀ m∈ms,P m):∀ v∈vs,∃ m,cL H v m/\P m:=fun v hv=>by
 obtain⟨i,e⟩:=List.mem_iff_getElem?.mp hv;obtain⟨m,a,b⟩:=h.Xr e;exact⟨m,b,p m (List.mem_of_getElem? a)⟩
theorem Kj{xs:List V}{a b:Option Int}{v:V}(h:v∈iF xs a b):v∈xs:=List.mem_of_mem_drop (List.mem_of_mem_take h)
theorem tU{H:Hp}{a:Addr}{xs:List V}{lo hi:Option Int}{Q:VK}(ha:H a=some (.tup xs))(h:∀ p H',H' p=some (.tup (iF xs lo hi))->Kp [] H H'->Q (.ref p) H'):Vr (.ref a) lo hi H Q:=by
 show gU (H a) _;rw[ha];exact⟨fun hw=>h a H (by rw[ha];unfold iF;rw[hw.1,hw.2,List.drop_zero,Nat.sub_zero,List.take_length]) Kp.refl,fun _ p hp=>h p _ aA (Kp.new hp)⟩
theorem Bj{H:Hp}{a b:Addr}{xs ys:List V}{Q:VK}(ha:H a=some (.tup xs))(hb:H b=some (.tup ys))(l:xs.length+ys.length<=1000)(h:∀ p H',H' p=some (.tup (xs++ys))->Kp [] H H'->Q (.ref p) H'):Kd (.ref a) (.ref b) H Q:=by
 show GV (.ref a) (.ref b) H Q;rw[Lh,ha,hb];refine⟨by rw[sizeLine_eq];omega,?_⟩;split
 ·next z=>exact h b H (by rw[hb,z];rfl) Kp.refl
 ·split
  ·next z=>exact h a H (by rw[ha,z,List.append_nil]) Kp.refl
  ·exact fun p hp=>h p _ aA (Kp.new hp)
noncomputable def teq(c d:List V):Bool:=(List.range (min c.length d.length)).all (fun j=>match c[j]?,d[j]? with|some x,some y=>qR x y|_,_=>true)&&c.length==d.length
noncomputable def ceq(cs ds:Cmds):Bool:=if cs.length=ds.length then (List.range cs.length).all (fun j=>match cs[j]?,ds[j]? with|some c,some d=>teq c d|_,_=>true) else false
theorem E1{c:List V}(h:∀ v∈c,DI v):teq c c=true:=by
 unfold teq;rw[Bool.and_eq_true,List.all_eq_true];refine⟨fun j _=>?_,by simp⟩;cases e:c[j]? with
 | none=>rfl
 | some x=>exact(h x (List.mem_of_getElem? e)).2
theorem UO{K:q0B}{H:Hp}{n:Nat}{a b:Addr}{c d:List V}(ha:H a=some (.tup c))(hb:H b=some (.tup d))(fc:∀ v∈c,DI v)(fd:∀ v∈d,DI v):nC K H (n+1) (.ref a) (.ref b) (teq c d):=by
 by_cases hab:a=b
 ·subst hab;rw[ha] at hb;cases hb;rw[E1 fc];exact .same
 ·refine .refs hab (kU.tup (eJ.of ha) (eJ.of hb) fun j x y e1 e2=>?_);rw[e1,e2];exact nC.flat (fc x (List.mem_of_getElem? e1)).1 (fd y (List.mem_of_getElem? e2)).1
theorem CK{K:q0B}{H:Hp}{n:Nat}{a b:Addr}{us vs:List V}{cs ds:Cmds}(ha:H a=some (.lst us))(hb:H b=some (.lst vs))(h:gI H us cs)(g:gI H vs ds)(fc:kA cs)(fd:kA ds):kU K H (n+2) a b (ceq cs ds):=by
 have l1:=h.len;have l2:=g.len;unfold ceq;split
 ·next hl =>
  rw[<- l1];refine kU.list (dC.of ha) (dC.of hb) (by omega) fun j x y e1 e2=>?_;obtain⟨p,c,rfl,e3,hp⟩:=h.at e1;obtain⟨p',d,rfl,e4,hp'⟩:=g.at e2;rw[e3,e4];exact UO hp hp' (fc c (List.mem_of_getElem? e3)) (fd d (List.mem_of_getElem? e4))
 ·next hl=>exact kU.ZY (dC.of ha) (dC.of hb) (by omega)
noncomputable def j9:List Cmds->List Cmds->Option Nat
 | a::r,b::r'=>if ceq a b=true then (j9 r r').map (·+1) else some 0
 | _,_=>none
theorem oN:∀ {a b:List Cmds} (i:Nat) {x y:Cmds},a[i]?=some x->b[i]?=some y->(∀ j,j < i->∀ c d,a[j]?=some c->b[j]?=some d->ceq c d=true)->ceq x y=false->j9 a b=some i
 | [],_,_,_,_,h,_,_,_=>by simp at h
 | _::_,[],_,_,_,_,h,_,_=>by simp at h
 | u::a,v::b,0,x,y,h1,h2,_,h4=>by
  simp only[List.getElem?_cons_zero,Option.some.injEq] at h1 h2;subst h1 h2;simp[j9,h4]
 | u::a,v::b,i+1,x,y,h1,h2,h3,h4=>by
  have e:=oN (a:=a) (b:=b) i (by simpa using h1) (by simpa using h2) (fun j hj c d e1 e2=>h3 (j+1) (by omega) c d (by simpa using e1) (by simpa using e2)) h4;simp only[j9,h3 0 (by omega) u v rfl rfl,if_true,e,Option.map_some]
theorem oM:∀ {a b:List Cmds},(∀(j:Nat) c d,a[j]?=some c->b[j]?=some d->ceq c d=true)->j9 a b=none
 | [],_,_=>by simp[j9]
 | _::_,[],_=>by simp[j9]
 | u::a,v::b,h=>by
  have e:=oM (a:=a) (b:=b) fun j c d e1 e2=>h (j+1) c d (by simpa using e1) (by simpa using e2);simp only[j9,h 0 u v rfl rfl,if_true,e,Option.map_none]
noncomputable def Y1:Sp:=fun vs H Q _=>∃(a b:Addr) (rs rs':List Addr) (ZD aaD:List Cmds),vs=[.ref a,.ref b]/\H a=some (.lst (rs.map V.ref))/\H b=some (.lst (rs'.map V.ref))/\kR H (fun _=>[]) rs ZD/\kR H (fun _=>[]) rs' aaD/\ZD.length=aaD.length/\ZD.length<=1000/\(∀ c∈ZD,JM 301 c)/\(∀ c∈aaD,JM 301 c) /\
 (j9 ZD aaD=none->∀ H',Kp [] H H'->Q .Zu H')/\∀(n:Nat) (x y:Addr),j9 ZD aaD=some n->rs[n]?=some x->rs'[n]?=some y->∀ p H',H p=none->H' p=some (.tup [.int n,.ref x,.ref y])->Kp [] H H'->Q (.ref p) H'
structure nP(H:Hp)(p1 p2 hl:Addr)(ZU ZO hv:List V)(b1 b2:List Stm)(hs:List Hap):Prop where
 e1:H p1=some (.tup ZU)
 s1:bE H ZU b1
 g1:qS true b1
 d1:qO b1<=20
 n1:cV NM4 b1
 e2:H p2=some (.tup ZO)
 s2:bE H ZO b2
 g2:qS true b2
 d2:qO b2<=20
 n2:cV NM4 b2
 eh:H hl=some (.lst hv)
 hH:bN H hv hs
 ok:∀ h∈hs,h.inK
 len:hs.length<=300
theorem nP.kp{H H':Hp}{p1 p2 hl:Addr}{ZU ZO hv:List V}{b1 b2:List Stm}{hs:List Hap}(h:nP H p1 p2 hl ZU ZO hv b1 b2 hs)(k:Kp [] H H'):nP H' p1 p2 hl ZU ZO hv b1 b2 hs :=
 ⟨k.at h.e1,h.s1.kp (aK.nil k),h.g1,h.d1,h.n1,k.at h.e2,h.s2.kp (aK.nil k),h.g2,h.d2,h.n2,k.at h.eh,h.hH.kt (aK.nil k),h.ok,h.len⟩
theorem nP.rG{H:Hp}{p1 p2 hl:Addr}{ZU ZO hv:List V}{b1 b2:List Stm}{hs:List Hap}(h:nP H p1 p2 hl ZU ZO hv b1 b2 hs):∀ x∈hs,x.rG:=fun x hx=>(h.ok x hx).1
noncomputable def fU(b1 b2:List Stm)(hs:List Hap):Option Nat:=j9 (takes (dG b1) hs).2 (takes (dG b2) hs).2
noncomputable def Un(b1 b2:List Stm)(hs:List Hap)(n:Nat)(c d:Cmds):Prop:=fU b1 b2 hs=some n/\(takes (dG b1) hs).2[n]?=some c/\(takes (dG b2) hs).2[n]?=some d
theorem Un.one{b1 b2:List Stm}{hs:List Hap}{n n':Nat}{c d c' d':Cmds}(h:Un b1 b2 hs n c d)(g:Un b1 b2 hs n' c' d'):n=n'/\c=c'/\d=d':=by
 obtain⟨h1,h2,h3⟩:=h;obtain⟨g1,g2,g3⟩:=g;rw[h1] at g1;cases g1;rw[h2] at g2;rw[h3] at g3;cases g2;cases g3;exact⟨rfl,rfl,rfl⟩
noncomputable def E6(H:Hp)(x:Addr)(c:Cmds):Prop:=∃ us,H x=some (.lst us)/\gI H us c
noncomputable def lD(H:Hp)(c d:Cmds)(x y:Addr):Prop:=E6 H x c/\E6 H y d
theorem lD.kp{H H':Hp}{c d:Cmds}{x y:Addr}(h:lD H c d x y)(k:Kp [] H H'):lD H' c d x y:=by
 obtain⟨⟨us,e1,h1⟩,vs,e2,h2⟩:=h;exact⟨⟨us,k.at e1,h1.kt (aK.nil k)⟩,vs,k.at e2,h2.kt (aK.nil k)⟩
theorem lD.rc{K:q0B}{H:Hp}{c d:Cmds}{x y x' y':Addr}(h:lD H c d x y)(g:lD H c d x' y')(fc:kA c)(fd:kA d):nC K H 2 (.ref x) (.ref x') true/\nC K H 2 (.ref y) (.ref y') true:=by
 obtain⟨⟨us,e1,h1⟩,vs,e2,h2⟩:=h;obtain⟨⟨us',e1',h1'⟩,vs',e2',h2'⟩:=g;have ce:∀ {c:Cmds},kA c->ceq c c=true:=fun {c} f=>by
  unfold ceq;rw[if_pos rfl,List.all_eq_true];intro j _;cases e:c[j]? with
  | none=>rfl
  | some z=>exact E1 (f z (List.mem_of_getElem? e))
 constructor
 ·by_cases e:x=x'
  ·subst e;exact .same
  ·have:=CK (K:=K) (n:=0) e1 e1' h1 h1' fc fc;rw[ce fc] at this;exact .refs e this
 ·by_cases e:y=y'
  ·subst e;exact .same
  ·have:=CK (K:=K) (n:=0) e2 e2' h2 h2' fd fd;rw[ce fd] at this;exact .refs e this
theorem lD.of{H:Hp}{rs rs':List Addr}{ZD aaD:List Cmds}{n:Nat}{x y:Addr}(w:kR H (fun _=>[]) rs ZD)(w':kR H (fun _=>[]) rs' aaD)(e:rs[n]?=some x)(e':rs'[n]?=some y):∃ c d,ZD[n]?=some c/\aaD[n]?=some d/\lD H c d x y:=by
 obtain⟨us,c,e1,e2,e3⟩:=w.at' e;obtain⟨vs,d,g1,g2,g3⟩:=w'.at' e';rw[List.append_nil] at e2 g2;exact⟨c,d,e1,g1,⟨us,e2,e3⟩,vs,g2,g3⟩
noncomputable def Xx:Sp:=fun vs H Q _=>∃(p1 p2 hl:Addr) (ZU ZO hv:List V) (b1 b2:List Stm) (hs:List Hap),vs=[.ref p1,.ref p2,.ref hl]/\nP H p1 p2 hl ZU ZO hv b1 b2 hs /\
 (fU b1 b2 hs=none->∀ H',Kp [] H H'->Q .Zu H')/\∀(n:Nat) (c d:Cmds) (x y p:Addr) H',Un b1 b2 hs n c d->H' p=some (.tup [.int n,.ref x,.ref y])->lD H' c d x y->H x=none->H y=none->Kp [] H H'->Q (.ref p) H'
noncomputable def Xv(C:Cl):Sp:=fun vs H Q _=>∃(p1 p2 hl:Addr) (ZU ZO hv:List V) (b1 b2:List Stm) (hs:List Hap),vs=[.ref p1,.ref p2,.ref hl]/\nP H p1 p2 hl ZU ZO hv b1 b2 hs /\
 (fU b1 b2 hs=none->∀(t:Addr) (R:Rn) (as:List Addr) (sl:V) (H':Hp),H' t=some (.tup [.str "let",.ref R.x])->bA C H' R as sl (takes (dG b2) hs).1->Fine (takes (dG b2) hs).1 (302 * hs.length)->(∀ a,a∈R.cells\/a∈as->H a=none)->Kp [] H H'->Q (.ref t) H') /\
 ∀(n:Nat) (c d:Cmds) (x y p:Addr) H',Un b1 b2 hs n c d->H' p=some (.tup [.str "parts",.int n,.ref x,.ref y])->lD H' c d x y->Kp [] H H'->Q (.ref p) H'
theorem Qn{H:Hp}{rs:List Addr}{ZD:List Cmds}(w:kR H (fun _=>[]) rs ZD){n:Nat}(h:n < ZD.length):∃ x,rs[n]?=some x:=⟨_,List.getElem?_eq_getElem (by rw[w.1];exact h)⟩
structure Lone(C:Cl)(G0 G:Hp)(R:Rn)(as:List Addr)(sl:V)(S:Pu)(L:List Addr):Prop where
 k:Kp [] G0 G
 a:bA C G R as sl S
 fr:∀ a,a∈R.cells\/a∈as->G0 a=none
 sf:∀ a∈L,(∃ o,G a=some o)/\a∉R.cells/\a∉as
theorem Lone.keep{C:Cl}{G0 G G':Hp}{R:Rn}{as ZP:List Addr}{sl:V}{S:Pu}{L:List Addr}(h:Lone C G0 G R as sl S L)(F:Fw R as ZP G G'):∀ a∈L,∀ o,G a=some o->G' a=some o:=fun a ha o e=>F.kp a o e (h.sf a ha).2.1 (h.sf a ha).2.2
theorem Lone.step{C:Cl}{G0 G G':Hp}{R:Rn}{as ZP:List Addr}{sl ZM:V}{S S':Pu}{L:List Addr}(h:Lone C G0 G R as sl S L)(F:Fw R as ZP G G')(A:bA C G' R ZP ZM S'):Lone C G0 G' R ZP ZM S' L :=
 ⟨F.LK h.k h.fr,A,fun a ha=>by
  rcases ha with ha|ha
  ·exact h.fr a (.inl ha)
  ·rcases F.new a ha with z|z
   ·exact h.fr a (.inr z)
   ·exact h.k.fZ z,fun a ha=>by
  obtain⟨⟨o,e⟩,n1,n2⟩:=h.sf a ha;refine⟨⟨o,h.keep F a ha o e⟩,n1,fun z=>?_⟩;rcases F.new a z with y|y
  ·exact n2 y
  ·rw[e] at y;cases y⟩
theorem Lone.kp{C:Cl}{G0 G G':Hp}{R:Rn}{as:List Addr}{sl:V}{S:Pu}{L:List Addr}(h:Lone C G0 G R as sl S L)(k:Kp [] G G'):Lone C G0 G' R as sl S L:=⟨h.k.trans k,h.a.kp k,h.fr,fun a ha=>by
 obtain⟨⟨o,e⟩,n⟩:=h.sf a ha;exact⟨⟨o,k.at e⟩,n⟩⟩
section
variable {K:q0B} {H:Hp} {n:Nat} {a b:Addr}
theorem Uw{s:Slp}(hn:s.isN=false)(h:iD H (.ref a) s)(g:iD H (.ref b) s):kU K H (n+2) a b true:=by
 cases s with
 | Zu=>cases hn
 | new =>
  obtain⟨p,e0,e⟩:=h;obtain⟨p2,e1,e2⟩:=g;cases e0;cases e1;exact jO.rcT (.cons (bZ _).eq .nil) e e2
 | wait ts =>
  obtain⟨p,p2,e0,e,f⟩:=h;obtain⟨q,q2,e1,e2,f2⟩:=g;cases e0;cases e1;exact jO.rcT (.cons (bZ _).eq (.cons (jO.tup (jO.refl (tH ts)) f f2) .nil)) e e2
 | ZA k =>
  obtain⟨p,e0,e⟩:=h;obtain⟨p2,e1,e2⟩:=g;cases e0;cases e1;exact jO.rcT (.cons (bZ _).eq (.cons (bZ _).eq .nil)) e e2
 | ended w =>
  obtain⟨p,e0,e⟩:=h;obtain⟨p2,e1,e2⟩:=g;cases e0;cases e1;exact jO.rcT (.cons (bZ _).eq (.cons (gZ _).eq .nil)) e e2
 | worn =>
  obtain⟨p,e0,e⟩:=h;obtain⟨p2,e1,e2⟩:=g;cases e0;cases e1;exact jO.rcT (.cons (bZ _).eq .nil) e e2
theorem Pg{v:V}{s:Slp}(hn:s.isN=false)(h:iD H v s):∃ a,v=.ref a:=by
 obtain⟨p,_,_,e,_⟩:=h.word hn;exact⟨p,e⟩
theorem MD{v:V}{S:Pu}(hn:S.sl.isN=false)(h:t4 H v S):∃ a,v=.ref a:=by
 unfold t4 at h;split at h
 ·obtain⟨p,_,_,_,_,_,_,_,_,_,e,_⟩:=h;exact⟨p,e⟩
 ·exact Pg hn h
theorem Xy{S:Pu}(hn:S.sl.isN=false)(h:t4 H (.ref a) S)(g:t4 H (.ref b) S):kU K H (n+4) a b true:=by
 unfold t4 at h g;split at h
 ·next hg =>
  rw[if_pos hg] at g;obtain⟨p,pl,pn,po,pa,pt,sl,un,ua,ut,ep,a1,a2,a3,a4,a5,a6,a7,a8,a9,a10⟩:=h;obtain⟨q,ql,qn,qo,qa,qt,ZM,un',ua',ut',eq,b1,b2,b3,b4,b5,b6,b7,b8,b9,b10⟩:=g;cases ep;cases eq;refine jO.rcT (n:=n+3) (.cons (Uv (n:=n+1) a2 b2) (.cons (jO.tup (n:=n+2) (jO.refl (tH _)) a3 b3) (.cons (gZ _).eq (.cons (hX _).eq (.cons (jO.tup (n:=n+2) (HG (n:=n+1) a5 b5 (Ak _ _)) a4 b4) (.cons (hX _).eq (.cons (jO.tup (n:=n+2) (jO.refl (tH _)) a6 b6) (.cons (jO.tup (n:=n+2) (HG (n:=n+1) a8 b8 fun p hp=>?_) a7 b7) (.cons (jO.tup (n:=n+2) (OM (n:=n) a10 b10) a9 b9) .nil))))))))) a1 b1;obtain⟨z,_,rfl⟩:=List.mem_map.mp hp;exact⟨hX _,gZ _⟩
 ·next hg =>
  rw[if_neg hg] at g;exact Uw (n:=n+2) hn h g
end
theorem kR.drop{H:Hp}{rs:List Addr}{ZD:List Cmds}(h:kR H (fun _=>[]) rs ZD)(m:Nat):kR H (fun _=>[]) (rs.drop m) (ZD.drop m):=⟨by simp[h.1],fun j a cs e1 e2=>by
 rw[List.getElem?_drop] at e1 e2;exact h.2 (m+j) a cs e1 e2⟩
theorem nP.cut{H H':Hp}{p1 p2 hl q:Addr}{ZU ZO hv:List V}{b1 b2:List Stm}{hs:List Hap}(h:nP H p1 p2 hl ZU ZO hv b1 b2 hs)(k:Kp [] H H')(m:Nat)(e:H' q=some (.lst (hv.take m))):nP H' p1 p2 q ZU ZO (hv.take m) b1 b2 (hs.take m) :=
 have g:=h.kp k
 ⟨g.e1,g.s1,g.g1,g.d1,g.n1,g.e2,g.s2,g.g2,g.d2,g.n2,e,g.hH.take m,fun x hx=>g.ok x (List.mem_of_mem_take hx),by rw[List.length_take];have:=g.len;omega⟩
noncomputable def X5(K:q0B)(n:Nat):R2:=fun x y H Q=>match x,y with
 | .Zu,.Zu=>Q (.bl false) H
 | .ref a,.ref b=>∃ r,kU K H n a b r/\Q (.bl (!r)) H
 | _,_=>False
theorem OY{X:Cx}(n:Nat)(hu:X.A.units+n < cLine):lB X (compareOp .NotEq) (X5 X.K n):=fun Zr s σ H x y v u Q I rx ry h=>by
 refine lB.or Qj (Dl n hu) Zr s σ H x y v u Q I rx ry ?_;unfold X5 at h;split at h
 ·exact .inl ⟨rfl,h⟩
 ·exact .inr h
 ·exact h.elim
theorem Wl{K:q0B}{n:Nat}{H:Hp}{Q:VK}:X5 K n .Zu .Zu H Q=Q (.bl false) H:=rfl
theorem Wm{K:q0B}{n:Nat}{H:Hp}{Q:VK}{a b:Addr}:X5 K n (.ref a) (.ref b) H Q = ∃ r,kU K H n a b r/\Q (.bl (!r)) H:=rfl
theorem E6.skp{S:List Addr}{H H':Hp}{x:Addr}{c:Cmds}(h:E6 H x c)(k:Kp S H H')(t:aK H H')(n:x∉S):E6 H' x c:=by
 obtain⟨us,e,g⟩:=h;exact⟨us,k.at e n,g.kt t⟩
theorem E6.ne{H:Hp}{x p:Addr}{c:Cmds}(h:E6 H x c)(e:H p=none):x≠p:=by
 obtain⟨us,e1,_⟩:=h;exact aJ e1 e
theorem wK{H:Hp}{x p:Addr}{o:HO}(h:H x=some o)(e:H p=none):p≠x:=fun z=>by rw[z,h] at e;cases e
theorem nP.skp{S:List Addr}{H H':Hp}{p1 p2 hl:Addr}{ZU ZO hv:List V}{b1 b2:List Stm}{hs:List Hap}(h:nP H p1 p2 hl ZU ZO hv b1 b2 hs)(k:Kp S H H')(t:aK H H')(n:hl∉S):nP H' p1 p2 hl ZU ZO hv b1 b2 hs :=
 ⟨t _ _ h.e1,h.s1.kp t,h.g1,h.d1,h.n1,t _ _ h.e2,h.s2.kp t,h.g2,h.d2,h.n2,k.at h.eh n,h.hH.kt t,h.ok,h.len⟩
theorem nP.to{H:Hp}{p1 p2 hl q:Addr}{ZU ZO hv:List V}{b1 b2:List Stm}{hs:List Hap}(h:nP H p1 p2 hl ZU ZO hv b1 b2 hs)(e:H q=some (.lst hv)):nP H p1 p2 q ZU ZO hv b1 b2 hs :=
 ⟨h.e1,h.s1,h.g1,h.d1,h.n1,h.e2,h.s2,h.g2,h.d2,h.n2,e,h.hH,h.ok,h.len⟩
theorem Qk{K:q0B}{H:Hp}{n:Int}{c d:Cmds}{x y x' y' p p':Addr}(pre:List V)(hp:∀ v∈pre,DI v)(ep:H p=some (.tup (pre++[.int n,.ref x,.ref y])))(ep':H p'=some (.tup (pre++[.int n,.ref x',.ref y'])))(h:lD H c d x y)(g:lD H c d x' y')(fc:kA c)(fd:kA d):kU K H 3 p p' true:=by
 obtain⟨r1,r2⟩:=lD.rc (K:=K) h g fc fd;have:=kU.tup (K:=K) (H:=H) (n:=2) (e:=fun _=>true) (eJ.of ep) (eJ.of ep') fun j u v e1 e2=>by
  by_cases hj:j < pre.length
  ·rw[List.getElem?_append_left hj] at e1 e2;rw[e1] at e2;cases e2;obtain⟨f1,f2⟩:=hp u (List.mem_of_getElem? e1);have:=nC.flat (K:=K) (H:=H) (n:=2) f1 f1
   rwa [f2] at this
  ·rw[List.getElem?_append_right (by omega)] at e1 e2;generalize j - pre.length=i at e1 e2
   match i,e1,e2 with
   | 0,e1,e2 =>
    cases e1;cases e2;have:=nC.flat (K:=K) (H:=H) (n:=2) (x:=.int n) (y:=.int n) rfl rfl
    rwa [show qR (.int n) (.int n)=true by simp[qR]] at this
   | 1,e1,e2=>cases e1;cases e2;exact r1
   | 2,e1,e2=>cases e1;cases e2;exact r2
   | i+3,e1,e2=>simp at e1
 rwa [show((List.range (min (pre++[V.int n,V.ref x,V.ref y]).length (pre++[V.int n,V.ref x',V.ref y']).length)).all (fun _=>true)&&(pre++[V.int n,V.ref x,V.ref y]).length==(pre++[V.int n,V.ref x',V.ref y']).length)=true by simp] at this
local macro_rules | `(tactic| wp_walk) => `(tactic| wp_walk using true_and)
local macro_rules | `(tactic| wp_walk using $ts,*) => do
  let us ← ts.getElems.mapM fun t => `(Lean.Parser.Tactic.simpLemma| $t:term)
  let vs <- ("↓Um ↓Xl ↓EL ↓UQ ↓YW ↓Xk ↓O8 ↓WE ↓VC ↓SJ ↓WC ↓SW ↓V1 ↓S7 ↓YK ↓YB ↓YH ↓YL ↓Zi ↓RF ↓Wk ↓RC ↓YA ↓Wd ↓WK ↓RO ↓RP ↓SQ ↓Nq ↓RG ↓Rv ↓Wx ↓SR ↓VA ↓YI ↓Wn ↓Nr ↓YJ ↓SS ↓La ↓Si ↓Sh ↓NT ↓Se ↓VZ ↓Wz ↓VB ↓Wy ↓Wu ↓Wt ↓Od ↓Ob ↓Oc ↓Lb ↓Lc ↓Oa ↓V4 ↓V5 ↓Rq ↓Rt ↓Rr ↓RD ↓WI ↓WH ↓RH ↓SF ↓SE ↓WG ↓YC ↓RL ↓Sy ↓SA ↓Sz ↓VD ↓VE ↓VF ↓VG ↓VH ↓VI ↓VJ ↓VL ↓VM ↓VN ↓Rw ↓Rx ↓Ry ↓Nt ↓Nu ↓Nv ↓Kr ↓NF ↓NG ↓Kx ↓Ky ↓Kz ↓KE ↓KH ↓Sv ↓Sw ↓Sm ↓Sl ↓YD ↓NU ↓We ↓Wf ↓Vy ↓Bt ↓CY ↓Bw ↓Bu ↓Bv ↓zE ↓Bs ↓zH ↓zF ↓zG ↓Bx ↓CZ ↓BA ↓By ↓Bz ↓wR ↓zI ↓wW ↓wU ↓wV ↓KP ↓KU ↓Ip ↓Iq ↓KQ ↓KW ↓Fo ↓Fp ↓KN ↓Io ↓KO ↓VP ↓VQ ↓Su ↓Ss ↓Wr ↓NO ↓Ws ↓NP ↓R0 ↓Sa ↓Sb ↓Ny ↓Nx ↓Oe ↓Nz ↓Th ↓VR ↓V0 ↓VT ↓RU ↓RT ↓RS ↓S4 ↓Sj ↓Yx ↓Yy ↓Yz ↓Wj ↓Wi ↓Of ↓Lh ↓RW ↓RJ ↓Nw ↓Oi ↓SX ↓WD ↓Oj ↓NI ↓Yw ↓WL ↓S5 ↓S6 ↓Sx ↓Ov ↓Ou ↓SN ↓Oy ↓VY ↓YE ↓YF ↓KL ↓RY ↓YG ↓VW ↓SU ↓Ow ↓Te ↓Ta ↓Tc ↓Li ↓Td ↓Tf ↓Tb ↓NZ ↓NC ↓Wg ↓VS ↓WB ↓NY ↓SD ↓D2 ↓Sn ↓Lg ↓RQ ↓Wc ↓Vz ↓V2 ↓Hb ↓VX ↓S3 ↓Rz ↓SI ↓SH ↓KZ ↓Ir ↓SV ↓Oh ↓Ti ↓Tj ↓Sq ↓S8 ↓RM ↓NJ ↓KJ ↓KI ↓NK ↓RK ↓Sf ↓V3 ↓RB ↓VO ↓Om ↓Sd ↓RZ ↓Kv ↓Ks ↓NH ↓Sr ↓SG ↓Wa ↓Wb ↓KY ↓Wh ↓WJ ↓RE ↓Le ↓SY ↓SO ↓Ld ↓Og ↓NQ ↓Oo ↓SM ↓SK ↓RN ↓NW ↓So ↓V8 ↓V6 ↓V9 ↓V7 ↓Ww ↓Ru ↓Wv ↓Wp ↓Wq ↓WA ↓S9 ↓Ol ↓NX ↓Lf ↓VU ↓Ot ↓NV ↓Ox ↓Oq ↓RX ↓Sk ↓Ku ↓NM ↓ND ↓Lj ↓NS ↓XU ↓XW ↓XX ↓XZ ↓X0 ↓X1 ↓X2 ↓X3 ↓X4 ↓QC ↓QD ↓QE ↓QF ↓QG ↓QH ↓QI ↓QJ ↓QK ↓QL ↓QM ↓QN ↓QO ↓QP ↓QQ ↓QR ↓QT ↓QU ↓QV ↓QW ↓XY ↓QB ↓XT ↓Y8 ↓XO ↓XQ ↓XR ↓XS ↓Y7 ↓aA ↓List.set_cons_zero ↓List.set_cons_succ ↓List.getElem?_cons_zero ↓List.getElem?_cons_succ L2.start LP Qg List.cons_append List.nil_append List.append_nil List.replicate_succ List.replicate_zero List.length_cons List.length_nil Nat.reduceAdd Nat.reduceSub Nat.zero_add Nat.add_zero Nat.reduceLeDiff Nat.reducePow Nat.reduceLT true_and and_true false_and and_false forall_const ↓reduceIte pP String.reduceEq Int.reduceToNat Int.reducePow Int.reduceNeg Int.reduceSub Int.reduceAdd Int.reduceMul Int.reduceLT Int.reduceLE Int.reduceEq sizeLine Zq Y6 decide_true decide_false Bool.not_true Bool.not_false Bool.false_eq_true".splitOn " ").toArray.mapM fun(n:String)=>do
    let p:=n.splitOn "↓";let x:=Lean.mkIdent (p.getLastD "").toName
    if p.length = 1 then `(Lean.Parser.Tactic.simpLemma| $x:term) else `(Lean.Parser.Tactic.simpLemma| ↓ $x:term)
  let ws:=us++vs
  `(tactic| try simp (config := { dsimp := false }) only [$ws,*])
noncomputable def HM(K:q0B):Sp:=fun vs H Q _=>∃(a:Addr) (ns:List Int),vs=[.ref a]/\dC K H a (ns.map V.int)/\ns.length<=63/\∀ H',Q (.bl true) H'
section
variable {P:Program} {w:World} {K:q0B} {mg:q0C} {base:Heap}
theorem bK{t:Ad}(T:Tx w K mg t):bG P w K mg base ZF 1 t.yH t.zB ["row","many"] Qr:=by
 refine T.cB.ok AZ (fun vs H Q E h=>?_) (fun ZE A outer s H vs Q E hr h=>?_)
 ·obtain⟨r,m,rfl,_⟩:=h;rfl
 ·obtain⟨r,m,rfl,m0,m1,⟨c,f,hr0,hx⟩,q⟩:=h;refine⟨_,(aC (bI (aQ L9 (aY bJ (pv 0) aE (fun _ _=>rfl)) (bU Ud aE aE) (nomark _)) (aC (bB (i:=2) AZ.nd rfl (Or.inl rfl) (bU pB (aY bJ (pv 0) aE (fun _ _=>rfl)) (pv 1)))
   (aC (Mh (bU tL (aY bJ (pv 0) aE (fun _ _=>rfl)) (pv 1)) (Mf (pv 0) aE Mp))
   (aI (aP (pv 2))))) aZ)
   (aC (Mh (bU pB (bU eL (bU eL (bU Gf (aY bJ (pv 0) aE (fun _ _=>rfl)) (aY bJ (pv 0) aE (fun _ _=>rfl))) (bU Gf aE (aY bJ (pv 0) aE (fun _ _=>rfl)))) aE) aE) (Mf (pv 0) aE Mp))
   (aI (aP (bU pB (bU tL (aY bJ (pv 0) aE (fun _ _=>rfl)) aE) (pv 1)))))),?_⟩
  and_intros
  wp_walk using hr0;have n0:=Int.emod_nonneg (f * f+69621 * f+12345) (show(2147483587:Int)≠0 by decide);have n1:=Int.emod_lt_of_pos (f * f+69621 * f+12345) (show(0:Int) < 2147483587 by decide);split
  ·exact⟨m0,⟨m0,log2_lt m0 m1⟩,q _ _ (Int.emod_nonneg _ (by omega)) (Int.emod_lt_of_pos _ m0) ⟨_,_,aA,hx⟩ (Kp.set (by simp))⟩
  ·exact⟨LV (by omega) (by omega),LV (by omega) (by omega),⟨by decide,by decide⟩,m0,q _ _ (Int.emod_nonneg _ (by omega)) (Int.emod_lt_of_pos _ m0) ⟨_,_,aA,n0,n1⟩ (Kp.set (by simp))⟩
theorem DD{t:Ad}(T:Tx w K mg t){n d:Nat}(hn:3<=n)(IH:bG P w K mg base ZF n t.jY t.j8 ["row","deep"] (Gx d)):bG P w K mg base ZF (n+1) t.jY t.j8 ["row","deep"] (Gx (d+1)):=by
 refine T.cR.ok jL (fun vs H Q E h=>?_) (fun ZE A outer s H vs Q E hr h=>?_)
 ·obtain⟨r,dp,rfl,_⟩:=h;rfl
 ·obtain⟨r,dp,rfl,d1,d2,hR,q⟩:=h;refine⟨_,(aC (bB (i:=2) jL.nd rfl (Or.inl rfl) (aN (bK T) (hr.mono (by omega)) rfl T.cF T.cB.kp T.cE .nil pass0 (aD (pv 0) (aD aE aB))))
   (aC (bI (PW.pt (HH (aQ k9 (pv 2) aE (nomark _)) (Gk (aQ cN (pv 1) aE (nomark _))))) (aC (bB (i:=3) jL.nd rfl (Or.inl rfl) (bX (aD (bC (aD aS (aD (bU pC (aN (bK T) (hr.mono (by omega)) rfl T.cF T.cB.kp T.cE .nil pass0 (aD (pv 0) (aD aE aB))) aE) aB))) (aD (bC (aD aS (aD (aY bJ aS (aN (bK T) (hr.mono (by omega)) rfl T.cF T.cB.kp T.cE .nil pass0 (aD (pv 0) (aD aE aB))) (fun _ _=>rfl)) aB))) aB))))
   (aI (aP (aY bJ (bU eL (pv 3) (bX (aD (bC (aD aS aB)) aB))) (aN (bK T) (hr.mono (by omega)) rfl T.cF T.cB.kp T.cE .nil pass0 (aD (pv 0) (aD aE aB))) (fun _ _=>rfl))))) aZ)
   (aC (bI (aQ cN (pv 2) aE (nomark _)) (aI (aP (bC (aD aS (aD (bC (aD aS (aD (aY bJ aS (aN (bK T) (hr.mono (by omega)) rfl T.cF T.cB.kp T.cE .nil pass0 (aD (pv 0) (aD aE aB))) (fun _ _=>rfl)) aB))) aB))))) aZ)
   (aC (bI (aQ cN (pv 2) aE (nomark _)) (aI (aP (bC (aD aS (aD (aN IH (hr.mono (by omega)) rfl T.c7 T.cR.kp T.cY .nil pass0 (aD (pv 0) (aD (bU pC (pv 1) aE) aB))) aB))))) aZ)
   (aC (bB (i:=4) jL.nd rfl (Or.inl rfl) (aY bJ (bX (aD aS (aD aS (aD aS (aD aS (aD aS aB)))))) (aN (bK T) (hr.mono (by omega)) rfl T.cF T.cB.kp T.cE .nil pass0 (aD (pv 0) (aD aE aB))) (fun _ _=>rfl)))
   (aI (aP (bC (aD (pv 4) (aD (aN IH (hr.mono (by omega)) rfl T.c7 T.cR.kp T.cY .nil pass0 (aD (pv 0) (aD (bU pC (pv 1) aE) aB))) (aD (aN IH (hr.mono (by omega)) rfl T.c7 T.cR.kp T.cY .nil pass0 (aD (pv 0) (aD (bU pC (pv 1) aE) aB))) aB))))))))))),?_⟩
  and_intros
  refine aF fun R1 Zx=>?_;wp_walk;refine⟨hR,fun g H1 a1 b1 J1 K1=>?_⟩;wp_walk;refine Zx _ _ ?_;clear Zx;clear R1;refine aF fun R2 Zy=>?_;refine CL fun RI hRI=>?_;wp_walk;simp only[YO];split
  ·refine hRI _ _ ?_;clear hRI RI;refine aF fun Ra hRa=>?_;wp_walk;refine⟨J1,fun g2 H2 a2 b2 J2 K2 p1 h1=>?_⟩;have N1:=q0D (o:=.tup [.str "number",.int (g2 - 1)]) h1;have f1':Zs H2 p1 (.tup [.str "number",.int (g2 - 1)]) p1=some (.tup [.str "number",.int (g2 - 1)]):=aA;have J3:=J2.new (o:=.tup [.str "number",.int (g2 - 1)]) h1;have KK:Kp [r] H (Zs H2 p1 (.tup [.str "number",.int (g2 - 1)])):=(K1.trans K2).trans (N1.mono (by simp));generalize Zs H2 p1 (.tup [.str "number",.int (g2 - 1)])=H3 at *;refine⟨J3,fun g4 G4 a4 b4 J4 K4=>⟨by decide +kernel,?_⟩⟩;refine x8 a4 (by rw[GQ];omega) fun c4 hc4=>?_;obtain⟨x4,ex4,hx4⟩:=abcd1 hc4;rw[ex4];clear ex4 hc4 c4;wp_walk;refine fun p5 h5 p6 h6=>?_;have T4:=J3.tk K4;have M_1:=q0D (o:=.tup [.str "name",.str x4]) h5;have M_2:=q0D (o:=.lst [.ref p1,.ref p5]) h6;have f1:=M_2.at (aA:(Zs G4 p5 (.tup [.str "name",.str x4])) p5=some (.tup [.str "name",.str x4]));have f2:(Zs (Zs G4 p5 (.tup [.str "name",.str x4])) p6 (.lst [.ref p1,.ref p5])) p6=some (.lst [.ref p1,.ref p5]):=aA;have MM:=(M_1.trans M_2);generalize Zs (Zs G4 p5 (.tup [.str "name",.str x4])) p6 (.lst [.ref p1,.ref p5])=G6 at *;clear M_1 M_2 h5 h6;replace f1':=MM.at (T4 _ _ f1');have J6:=J4.kp MM;replace KK:=(KK.trans K4).trans (MM.mono (T:=[r]) (by simp));refine hRa _ _ ?_;clear hRa Ra;wp_walk using f2;refine fun p7 h7 p8 h8=>?_;have e6:=f2;have M_1:=q0D (o:=.tup [.str "arg"]) h7;have M_2:=q0D (o:=.lst [.ref p7]) h8;have g_1:=M_2.at (aA:(Zs G6 p7 (.tup [.str "arg"])) p7=some (.tup [.str "arg"]));have g_2:(Zs (Zs G6 p7 (.tup [.str "arg"])) p8 (.lst [.ref p7])) p8=some (.lst [.ref p7]):=aA;have M8:=(M_1.trans M_2);generalize Zs (Zs G6 p7 (.tup [.str "arg"])) p8 (.lst [.ref p7])=G8 at *;clear M_1 M_2 h7 h8;replace e6:=M8.at e6;replace f1':=M8.at f1';replace f1:=M8.at f1;replace J6:=J6.kp M8;replace KK:=KK.trans (M8.mono (T:=[r]) (by simp));wp_walk using e6,g_2;refine fun p9 h9=>⟨J6.new h9,fun g10 G10 a10 b10 J10 K10=>?_⟩;have N9:=q0D (o:=.lst [.ref p1,.ref p5,.ref p7]) h9;have T10:=(aK.nil N9).trans ((J6.new h9).tk K10);wp_walk using made1J K10 J6 h9;refine rP a10 b10 fun v hv=>?_;have KF:=(KK.trans (N9.mono (T:=[r]) (by simp))).trans K10;simp only[List.mem_cons,List.not_mem_nil,or_false] at hv;rcases hv with rfl|rfl|rfl
   ·exact q _ (.num (g2 - 1)) _ (.num (T10 _ _ f1')) ⟨by omega,by omega⟩ (by simp only[Say.depth];omega) J10 KF
   ·exact q _ (.name x4) _ (.name (T10 _ _ f1)) trivial (by simp only[Say.depth];omega) J10 KF
   ·exact q _ .arg _ (.arg (T10 _ _ g_1)) trivial (by simp only[Say.depth];omega) J10 KF
  ·next hc =>
   clear hRI RI;refine Zy _ _ ?_;clear Zy;clear R2;refine aF fun R3 ZI=>?_;wp_walk;split
   ·skip;refine⟨J1,fun g4 G4 a4 b4 J4 K4=>⟨by decide +kernel,?_⟩⟩;refine x8 a4 (by rw[GQ];omega) fun c4 hc4=>?_;obtain⟨x4,ex4,hx4⟩:=abcd1 hc4;rw[ex4];clear ex4 hc4 c4;wp_walk;refine fun p5 h5 p6 h6=>?_;have M_1:=q0D (o:=.tup [.str "name",.str x4]) h5;have M_2:=q0D (o:=.tup [.str "answer",.ref p5]) h6;have f1:=M_2.at (aA:(Zs G4 p5 (.tup [.str "name",.str x4])) p5=some (.tup [.str "name",.str x4]));have f2:(Zs (Zs G4 p5 (.tup [.str "name",.str x4])) p6 (.tup [.str "answer",.ref p5])) p6=some (.tup [.str "answer",.ref p5]):=aA;have MM:=(M_1.trans M_2);generalize Zs (Zs G4 p5 (.tup [.str "name",.str x4])) p6 (.tup [.str "answer",.ref p5])=G6 at *;clear M_1 M_2 h5 h6;exact q _ (.ans (.name x4)) _ (.ans f2 (.name f1)) trivial (by simp only[Say.depth];omega) (J4.kp MM) ((K1.trans K4).trans (MM.mono (by simp)))
   refine ZI _ _ ?_;clear ZI;clear R3;refine aF fun R4 hR4=>?_;wp_walk;split
   ·refine⟨r,dp - 1,rfl,by omega,by omega,J1,fun v s H3 hv ok hdp J3 K3=>?_⟩;wp_walk;exact fun p hp=>q _ (.neg s) _ (.neg aA (hv.kp (aK.new hp))) ok (by simp only[Say.depth];omega) (J3.new hp) ((K1.trans K3).trans (Kp.new hp))
   refine hR4 _ _ ?_;clear hR4 R4;refine aF fun R5 hR5=>?_;wp_walk;refine fun p hp=>⟨J1.new hp,fun g4 H4 a4 b4 J4 K4=>?_⟩;wp_walk using made1J K4 J1 hp;refine rP a4 b4 fun v hv=>?_;have KK:Kp [r] H H4:=(K1.trans (Kp.new hp)).trans K4;clear K1 K4 hp;wp_walk;refine hR5 _ _ ?_;clear hR5 R5;wp_walk;refine⟨r,dp - 1,rfl,by omega,by omega,J4,fun u s1 H3 hv1 ok1 hd1 J3 K3=>?_⟩;wp_walk;refine⟨r,dp - 1,rfl,by omega,by omega,J3,fun u2 s2 H5 hv2 ok2 hd2 J5 K5 p2 h2=>?_⟩;have KF:=(KK.trans K3).trans (K5.trans (Kp.new (o:=.tup [v,u,u2]) h2));have T1:aK H3 (Zs H5 p2 (.tup [v,u,u2])):=(J3.tk K5).trans (aK.new h2);have fin:∀ gg:Sg,v=.str gg.s->Q (.ref p2) (Zs H5 p2 (.tup [v,u,u2])):=fun gg e=>by
    subst e;exact q _ (.two gg s1 s2) _ (.two aA (hv1.kp T1) (hv2.kp (aK.new h2))) ⟨ok1,ok2⟩ (by simp only[Say.depth];omega) (J5.new h2) KF
   simp only[List.mem_cons,List.not_mem_nil,or_false] at hv;rcases hv with e|e|e|e|e
   ·exact fin .add e
   ·exact fin .sub e
   ·exact fin .mul e
   ·exact fin .lt e
   ·exact fin .eq e
theorem c9{t:Ad}(T:Tx w K mg t):∀ d,bG P w K mg base ZF (d+3) t.jY t.j8 ["row","deep"] (Gx d):=by
 intro d
 induction d with
 | zero=>exact⟨fun _ _ _ _ x=>by (obtain⟨_,_,_,h,h',_⟩:=x;exact absurd h (by omega)),fun _ _ _ _ _ _ _ _ _ _ _ _ _ x=>by (obtain⟨_,_,_,h,h',_⟩:=x;exact absurd h (by omega))⟩
 | succ d ih=>exact DD T (by omega) ih
theorem wN{t:Ad}(T:Tx w K mg t){n d:Nat}(hn:3<=n)(IH:bG P w K mg base ZF n t.fN t.fP ["row","deep"] (Gy d)):bG P w K mg base ZF (n+1) t.jP t.jQ ["row","deep"] (DC (d+1)):=by
 refine T.pW.ok ES (fun vs H Q E h=>?_) (fun ZE A outer s H vs Q E hr h=>?_)
 ·obtain⟨r,dp,rfl,_⟩:=h;rfl
 ·obtain⟨r,dp,rfl,d1,d2,hR,q⟩:=h;refine⟨_,(aI (aP (dB fH rfl T.gW eP (aD (xW (fr:=[0,1]) (N:=["k","row","deep"]) rfl (fun _ _ h=>h) (eF.free rfl rfl rfl rfl rfl (fun _ _ h=>by first|exact h|exact look2 (by decide) h) rfl (by decide) rfl (fun j hj=>by rcases(show j=0\/j=1 by simpa using hj) with rfl|rfl<;>exact⟨_,rfl,rfl,.inl rfl⟩)) (vL rfl T.Bn (aD (bU eL aE (aN (bK T) (hr.mono (by omega)) rfl T.cF T.cB.kp T.cE .nil pass0 (aD (pv 0) (aD aE aB)))) aB)) (fun C s H ex pn=>⟨xY,(aN IH (hr.mono (by omega)) rfl T.fR T.eU.kp T.fO .nil pass0 (aD (pv 1) (aD (pv 2) aB)))⟩)) aB)))),?_⟩
  and_intros
  wp_walk;refine⟨hR,fun gm G4 a4 b4 J4 K4=>⟨⟨by omega,by omega⟩,?_⟩⟩;obtain⟨Pv,ZC⟩:∃ Pv:Nat->List V->Hp->Prop,∀ i xs G,Pv i xs G = ∃ b:List Stm,bE G xs b/\b.length=i/\i<=3/\qS true b/\cV NM4 b/\(qO b:Int)<=dp/\eO G r/\Kp [r] H G:=⟨_,fun _ _ _=>rfl⟩;refine El (lo:=0) Pv ?_ ?_ ?_ ?_
  ·rw[ZC];exact⟨[],.nil,rfl,by omega,by simp only[qS],by simp only[cV],by simpa[qO] using d1,J4,K4⟩
  ·intro i xs G h;rw[ZC] at h;obtain⟨b,hs,lb,l3,_⟩:=h;have lv:=hs.len;omega
  ·intro i xs G hi h;rw[ZC] at h;obtain⟨b,hs,lb,l3,gb,nb,db,JG,KG⟩:=h;wp_walk using bF,Option.join_some;refine⟨r,dp,rfl,d1,by omega,JG,fun v x G5 hv gx nx dx J5 K5=>?_⟩;show Pv (i+1) _ _;rw[ZC];exact⟨b++[x],(hs.kp (JG.tk K5)).snoc hv,by simp[lb],by omega,Eb gb gx,Ey nb nx,by rw[zC];omega,J5,KG.trans K5⟩
  intro xs G h l hl;rw[ZC] at h;obtain⟨b,hs,lb,l3,gb,nb,db,JG,KG⟩:=h;have NL:=q0D (o:=.lst xs) hl;have el:Zs G l (.lst xs) l=some (.lst xs):=aA;replace hs:=hs.kp (aK.nil NL);replace JG:=JG.kp NL;replace KG:=KG.trans (NL.mono (T:=[r]) (by simp));generalize Zs G l (.lst xs)=G8 at *;clear ZC Pv NL hl;wp_walk using el;intro p hp;have N:=q0D (o:=.tup xs) hp;exact q p xs b _ aA (hs.kp (aK.nil N)) gb nb db (by omega) (JG.new hp) (KG.trans (N.mono (by simp)))
theorem nK{t:Ad}(T:Tx w K mg t){n d:Nat}(hn:9<=n)(IH:bG P w K mg base ZF n t.jP t.jQ ["row","deep"] (DC d)):bG P w K mg base ZF (n+1) t.fN t.fP ["row","deep"] (Gy d):=by
 refine T.eU.ok fY (fun vs H Q E h=>?_) (fun ZE A outer s H vs Q E hr h=>?_)
 ·obtain⟨r,dp,rfl,_⟩:=h;rfl
 ·obtain⟨r,dp,rfl,d1,d2,hR,q⟩:=h;refine⟨_,(aC (bB (i:=2) fY.nd rfl (Or.inl rfl) (aN (bK T) (hr.mono (by omega)) rfl T.cF T.cB.kp T.cE .nil pass0 (aD (pv 0) (aD aE aB))))
   (aC (bB (i:=3) fY.nd rfl (Or.inl rfl) (aY bJ aS (aN (bK T) (hr.mono (by omega)) rfl T.cF T.cB.kp T.cE .nil pass0 (aD (pv 0) (aD aE aB))) (fun _ _=>rfl)))
   (aC (bI (aQ cN (pv 2) aE (nomark _)) (aI (aP (bC (aD aS (aD (pv 3) (aD aS (aD (aN (c9 T 4) (hr.mono (by omega)) rfl T.c7 T.cR.kp T.cY .nil pass0 (aD (pv 0) (aD aE aB))) aB))))))) aZ)
   (aC (bI (aQ k9 (pv 2) aE (nomark _)) (aI (aP (bC (aD aS (aD (pv 3) (aD (aN (c9 T 4) (hr.mono (by omega)) rfl T.c7 T.cR.kp T.cY .nil pass0 (aD (pv 0) (aD aE aB))) aB)))))) aZ)
   (aC (bI (aQ k9 (pv 2) aE (nomark _)) (aI (aP (bC (aD aS (aD (pv 3) (aD (aY bJ (bX (aD aS (aD aS aB))) (aN (bK T) (hr.mono (by omega)) rfl T.cF T.cB.kp T.cE .nil pass0 (aD (pv 0) (aD aE aB))) (fun _ _=>rfl)) (aD (aN (c9 T 4) (hr.mono (by omega)) rfl T.c7 T.cR.kp T.cY .nil pass0 (aD (pv 0) (aD aE aB))) aB))))))) aZ)
   (aC (bI (aQ k9 (pv 2) aE (nomark _)) (aI (aP (bC (aD aS (aD (pv 3) (aD (aN (c9 T 4) (hr.mono (by omega)) rfl T.c7 T.cR.kp T.cY .nil pass0 (aD (pv 0) (aD aE aB))) aB)))))) aZ)
   (aC (bI (aQ k9 (pv 2) aE (nomark _)) (aI (aP (bC (aD aS (aD (bC (aD aS (aD (pv 3) aB))) aB))))) aZ)
   (aC (bI (aQ k9 (pv 2) aE (nomark _)) (aC (kJ (i:=4) (fr:=[0]) (N:=["k","row"]) rfl (fun _ _ h=>h) (eF.free rfl rfl rfl rfl rfl (fun _ _ h=>h) rfl (by decide) rfl (fun j hj=>by rw[show j=0 by simpa using hj];exact⟨_,rfl,rfl,.inl rfl⟩)) (vL rfl T.Bn (aD (bU eL aE (aN (bK T) (hr.mono (by omega)) rfl T.cF T.cB.kp T.cE .nil pass0 (aD (pv 0) (aD aE aB)))) aB)) (fun C s H ex pn=>⟨xY,(bC (aD aS (aD (aY bJ aS (aN (bK T) (hr.mono (by omega)) rfl T.cF T.cB.kp T.cE .nil pass0 (aD (pv 1) (aD aE aB))) (fun _ _=>rfl)) aB)))⟩) fY.nd rfl (Or.inl rfl))
   (aI (aP (bC (aD aS (aD (pv 3) (aD (dB fH rfl T.gW eP (aD (pv 4) aB)) aB))))))) aZ)
   (aC (bI (aQ k9 (pv 2) aE (nomark _)) (aI (aP (bC (aD aS (aD (pv 3) (aD (aY bJ (bX (aD aS (aD aS aB))) (aN (bK T) (hr.mono (by omega)) rfl T.cF T.cB.kp T.cE .nil pass0 (aD (pv 0) (aD aE aB))) (fun _ _=>rfl)) aB)))))) aZ)
   (aC (bI (aQ k9 (pv 2) aE (nomark _)) (aI (aP (bC (aD aS (aD (aN (c9 T 4) (hr.mono (by omega)) rfl T.c7 T.cR.kp T.cY .nil pass0 (aD (pv 0) (aD aE aB))) (aD aS (aD (aN (c9 T 4) (hr.mono (by omega)) rfl T.c7 T.cR.kp T.cY .nil pass0 (aD (pv 0) (aD aE aB))) aB))))))) aZ)
   (aC (bI (PW.pt (Dr (aQ k9 (pv 2) aE (nomark _)) (xZ (aQ L9 (pv 1) aE (nomark _))))) (aI (aP (bC (aD aS (aD (aN (c9 T 4) (hr.mono (by omega)) rfl T.c7 T.cR.kp T.cY .nil pass0 (aD (pv 0) (aD aE aB))) (aD (aN IH (hr.mono (by omega)) rfl T.uY T.pW.kp T.uC .nil pass0 (aD (pv 0) (aD (bU pC (pv 1) aE) aB))) (aD (aN IH (hr.mono (by omega)) rfl T.uY T.pW.kp T.uC .nil pass0 (aD (pv 0) (aD (bU pC (pv 1) aE) aB))) aB))))))) aZ)
   (aC (bI (aQ L9 (pv 1) aE (nomark _)) (aI (aP (bC (aD aS (aD (aN (c9 T 4) (hr.mono (by omega)) rfl T.c7 T.cR.kp T.cY .nil pass0 (aD (pv 0) (aD aE aB))) (aD (aN IH (hr.mono (by omega)) rfl T.uY T.pW.kp T.uC .nil pass0 (aD (pv 0) (aD (bU pC (pv 1) aE) aB))) aB)))))) aZ)
   (aI (aP (bC (aD aS (aD (aN (c9 T 4) (hr.mono (by omega)) rfl T.c7 T.cR.kp T.cY .nil pass0 (aD (pv 0) (aD aE aB))) aB))))))))))))))))),?_⟩
  and_intros
  refine aF fun R1 Zx=>?_;wp_walk;refine⟨hR,fun g G1 a1 b1 J1 K1=>?_⟩;wp_walk;refine Zx _ _ ?_;clear Zx;clear R1;refine aF fun R2 Zy=>?_;wp_walk;refine⟨J1,fun g3 G3 a3 b3 J3 K3=>⟨by decide +kernel,?_⟩⟩;refine x8 a3 (by rw[GQ];omega) fun c3 hc3=>?_;obtain⟨x3,ex3,hx3⟩:=abcd1 hc3;rw[ex3];clear ex3 hc3 c3;wp_walk;refine Zy _ _ ?_;clear Zy;clear R2;have KK:Kp [r] H G3:=K1.trans K3;clear K1 K3 J1 hR;refine aF fun R3 ZI=>?_;wp_walk;split
  ·skip;refine⟨r,1,rfl,by decide,by decide,J3,fun u4 s4 G4 hv4 ok4 hd4 J4 K4=>?_⟩;wp_walk;refine fun p hp=>?_;have N:=q0D (o:=.tup [.str "child",.str x3,.str "other",u4]) hp;have w4:=hv4.kp (aK.nil N);exact q _ (.child x3 "other" s4) _ (.child aA w4) ⟨ok4,by omega⟩ (by first|(simp only[Stm.fF];done)|(simp only[Stm.fF];exact hx3)) (by simp only[Stm.dp];omega) (J4.new hp) ((KK.trans K4).trans (N.mono (by simp)))
  refine ZI _ _ ?_;clear ZI;clear R3;refine aF fun R4 hR4=>?_;wp_walk;split
  ·skip;refine⟨r,2,rfl,by decide,by decide,J3,fun u4 s4 G4 hv4 ok4 hd4 J4 K4=>?_⟩;wp_walk;refine fun p hp=>?_;have N:=q0D (o:=.tup [.str "set",.str x3,u4]) hp;have w4:=hv4.kp (aK.nil N);exact q _ (.set x3 s4) _ (.set aA w4) ⟨ok4,by omega⟩ (by first|(simp only[Stm.fF];done)|(simp only[Stm.fF];exact hx3)) (by simp only[Stm.dp];omega) (J4.new hp) ((KK.trans K4).trans (N.mono (by simp)))
  refine hR4 _ _ ?_;clear hR4 R4;refine aF fun R5 hR5=>?_;wp_walk;split
  ·skip;refine fun p5 h5=>⟨J3.new h5,fun g5 G5 a5 b5 J5 K5=>?_⟩;wp_walk using made1J K5 J3 h5;refine rP a5 b5 fun y5 hy5=>?_;obtain⟨z5,rfl⟩:∃ z:Str,y5=.str z:=by simp only[List.mem_cons,List.not_mem_nil,or_false] at hy5;rcases hy5 with rfl|rfl<;>exact⟨_,rfl⟩
   have KK5:Kp [r] H G5:=(KK.trans (Kp.new h5)).trans K5;wp_walk;refine⟨r,1,rfl,by decide,by decide,J5,fun u6 s6 G6 hv6 ok6 hd6 J6 K6=>?_⟩;wp_walk;refine fun p hp=>?_;have N:=q0D (o:=.tup [.str "order",.str x3,.str z5,u6]) hp;have w6:=hv6.kp (aK.nil N);exact q _ (.order x3 z5 s6) _ (.order aA w6) ⟨ok6,by omega⟩ (by first|(simp only[Stm.fF];done)|(simp only[Stm.fF];exact hx3)) (by simp only[Stm.dp];omega) (J6.new hp) ((KK5.trans K6).trans (N.mono (by simp)))
  refine hR5 _ _ ?_;clear hR5 R5;refine aF fun R6 hR6=>?_;wp_walk;split
  ·skip;refine⟨r,1,rfl,by decide,by decide,J3,fun u4 s4 G4 hv4 ok4 hd4 J4 K4=>?_⟩;wp_walk;refine fun p hp=>?_;have N:=q0D (o:=.tup [.str "timer",.str x3,u4]) hp;have w4:=hv4.kp (aK.nil N);exact q _ (.ZJ x3 s4) _ (.ZJ aA w4) ⟨ok4,by omega⟩ (by first|(simp only[Stm.fF];done)|(simp only[Stm.fF];exact hx3)) (by simp only[Stm.dp];omega) (J4.new hp) ((KK.trans K4).trans (N.mono (by simp)))
  refine hR6 _ _ ?_;clear hR6 R6;refine aF fun R7 hR7=>?_;wp_walk;split
  ·refine fun p5 h5 p6 h6=>?_;have M_1:=q0D (o:=.tup [.str "name",.str x3]) h5;have M_2:=q0D (o:=.tup [.str "drop",.ref p5]) h6;have f1:=M_2.at (aA:(Zs G3 p5 (.tup [.str "name",.str x3])) p5=some (.tup [.str "name",.str x3]));have f2:(Zs (Zs G3 p5 (.tup [.str "name",.str x3])) p6 (.tup [.str "drop",.ref p5])) p6=some (.tup [.str "drop",.ref p5]):=aA;have MM:=(M_1.trans M_2);generalize Zs (Zs G3 p5 (.tup [.str "name",.str x3])) p6 (.tup [.str "drop",.ref p5])=G6 at *;clear M_1 M_2 h5 h6;exact q _ (.drop (.name x3)) _ (.drop f2 (.name f1)) ⟨trivial,by simp[Say.depth]⟩ (by simp only[Stm.fF]) (by simp only[Stm.dp];omega) (J3.kp MM) (KK.trans (MM.mono (by simp)))
  refine hR7 _ _ ?_;clear hR7 R7;refine aF fun R8 hR8=>?_;refine CL fun RI hRI=>?_;wp_walk;split
  ·refine hRI _ _ ?_;clear hRI RI;refine aF fun Ra hRa=>?_;wp_walk;refine⟨J3,fun gm G4 a4 b4 J4 K4=>⟨⟨by omega,by omega⟩,?_⟩⟩;obtain⟨Pv,ZC⟩:∃ Pv:Nat->List V->Hp->Prop,∀ i xs G,Pv i xs G = ∃ ss:List Say,gB G xs ss/\ss.length=i/\i<=3/\(∀ s∈ss,s.sok)/\eO G r/\Kp [r] H G:=⟨_,fun _ _ _=>rfl⟩;refine El (lo:=0) Pv ?_ ?_ ?_ ?_
   ·rw[ZC];exact⟨[],.nil,rfl,by omega,by simp,J4,KK.trans K4⟩
   ·intro i xs G h;rw[ZC] at h;obtain⟨ss,hS,lS,l3,_⟩:=h;have lv:=hS.W9;omega
   ·intro i xs G hi h;rw[ZC] at h;obtain⟨ss,hS,lS,l3,hL,JG,KG⟩:=h;wp_walk using bF,Option.join_some;refine⟨JG,fun g6 G6 a6 b6 J6 K6=>⟨by decide +kernel,?_⟩⟩;refine x8 a6 (by rw[GQ];omega) fun c6 hc6=>?_;obtain⟨x6,ex6,hx6⟩:=abcd1 hc6;rw[ex6];clear ex6 hc6 c6;wp_walk;refine fun p7 h7=>?_;have N7:=q0D (o:=.tup [.str "name",.str x6]) h7;have T7:=(JG.tk K6).trans (aK.nil N7);show Pv (i+1) _ _;rw[ZC];refine⟨ss++[.name x6],(hS.kp T7).snoc (.name aA),by simp[lS],by omega,fun y hy=>?_,J6.new h7,(KG.trans K6).trans (N7.mono (by simp))⟩;rcases List.mem_append.mp hy with hy|hy
    ·exact hL y hy
    ·rw[show y=.name x6 by simpa using hy];exact⟨trivial,by simp[Say.depth]⟩
   intro xs G h l hl;rw[ZC] at h;obtain⟨ss,hS,lS,l3,hL,JG,KG⟩:=h;have NL:=q0D (o:=.lst xs) hl;have el:Zs G l (.lst xs) l=some (.lst xs):=aA;replace hS:=hS.kp (aK.nil NL);replace JG:=JG.kp NL;replace KG:=KG.trans (NL.mono (T:=[r]) (by simp));generalize Zs G l (.lst xs)=G8 at *;refine hRa _ _ ?_;clear hRa Ra ZC Pv NL hl;wp_walk using el;refine fun p8 h8 p9 h9=>?_;have N:=(q0D (o:=.tup xs) h8).trans (Kp.new (o:=.tup [.str "wait",.str x3,.ref p8]) h9);exact q _ (.wait x3 ss) _ (.wait aA ((q0D h9).at aA) (hS.kp (aK.nil N))) ⟨rfl,by omega,hL⟩ (by simp only[Stm.fF];exact⟨hx3,by omega⟩) (by simp only[Stm.dp];omega) ((JG.new h8).new h9) (KG.trans (N.mono (by simp)))
  clear hRI RI;refine hR8 _ _ ?_;clear hR8 R8;refine aF fun R9 hR9=>?_;wp_walk;split
  ·skip;refine fun p5 h5=>⟨J3.new h5,fun g5 G5 a5 b5 J5 K5=>?_⟩;wp_walk using made1J K5 J3 h5;refine rP a5 b5 fun y5 hy5=>?_;obtain⟨z5,rfl⟩:∃ z:Str,y5=.str z:=by simp only[List.mem_cons,List.not_mem_nil,or_false] at hy5;rcases hy5 with rfl|rfl<;>exact⟨_,rfl⟩
   have KK5:Kp [r] H G5:=(KK.trans (Kp.new h5)).trans K5;wp_walk;refine fun p hp=>?_;have N:=q0D (o:=.tup [.str "hear",.str x3,.str z5]) hp;exact q _ (.ZA x3 z5) _ (.ZA aA) trivial (by first|(simp only[Stm.fF];done)|(simp only[Stm.fF];exact hx3)) (by simp only[Stm.dp];omega) (J5.new hp) (KK5.trans (N.mono (by simp)))
  refine hR9 _ _ ?_;clear hR9 R9;refine aF fun R10 aaE=>?_;wp_walk;split
  ·skip;refine⟨r,0,rfl,by decide,by decide,J3,fun u4 s4 G4 hv4 ok4 hd4 J4 K4=>?_⟩;wp_walk;refine⟨r,1,rfl,by decide,by decide,J4,fun u5 s5 G5 hv5 ok5 hd5 J5 K5=>?_⟩;wp_walk;refine fun p hp=>?_;have N:=q0D (o:=.tup [.str "send",u4,.str "key",u5]) hp;have w4:=hv4.kp ((J4.tk K5).trans (aK.nil N));have w5:=hv5.kp (aK.nil N);exact q _ (.send s4 "key" s5) _ (.send aA w4 w5) ⟨⟨ok4,by omega⟩,ok5,by omega⟩ (by first|(simp only[Stm.fF];done)|(simp only[Stm.fF];exact hx3)) (by simp only[Stm.dp];omega) (J5.new hp) (((KK.trans K4).trans K5).trans (N.mono (by simp)))
  refine aaE _ _ ?_;clear aaE;clear R10;refine aF fun R11 aaZ=>?_;refine CL fun RI hRI=>?_;wp_walk;simp only[WO];split
  ·next hc =>
   refine hRI _ _ ?_;clear hRI RI;wp_walk;refine⟨r,1,rfl,by decide,by decide,J3,fun u4 s4 G4 hv4 ok4 hd4 J4 K4=>?_⟩;wp_walk;refine⟨r,dp - 1,rfl,by omega,by omega,J4,fun p5 us5 b5 G5 e5 hs5 gd5 nm5 dp5 l5 J5 K5=>?_⟩;wp_walk;refine⟨r,dp - 1,rfl,by omega,by omega,J5,fun p6 us6 b6 G6 e6 hs6 gd6 nm6 dp6 l6 J6 K6=>?_⟩;wp_walk;refine fun p hp=>?_;have N:=q0D (o:=.tup [.str "if",u4,.ref p5,.ref p6]) hp;have T6:=(J5.tk K6).trans (aK.nil N);have T5:=(J4.tk K5).trans T6;exact q _ (.iff s4 b5 b6) _ (.iff aA (hv4.kp T5) (T6 _ _ e5) (hs5.kp T6) (N.at e6) (hs6.kp (aK.nil N))) ⟨⟨ok4,by omega⟩,gd5,gd6⟩ (by simp only[Stm.fF];exact⟨⟨by omega,by omega⟩,nm5,nm6⟩) (by simp only[Stm.dp];omega) (J6.new hp) ((((KK.trans K4).trans K5).trans K6).trans (N.mono (by simp)))
  clear hRI RI;refine aaZ _ _ ?_;clear aaZ;clear R11;refine aF fun R12 aa0=>?_;wp_walk;split
  ·skip;refine⟨r,1,rfl,by decide,by decide,J3,fun u4 s4 G4 hv4 ok4 hd4 J4 K4=>?_⟩;wp_walk;refine⟨r,dp - 1,rfl,by omega,by omega,J4,fun p5 us5 b5 G5 e5 hs5 gd5 nm5 dp5 l5 J5 K5=>?_⟩;wp_walk;refine fun p hp=>?_;have N:=q0D (o:=.tup [.str "while",u4,.ref p5]) hp;have T5:=(J4.tk K5).trans (aK.nil N);exact q _ (.whl s4 b5) _ (.whl aA (hv4.kp T5) (N.at e5) (hs5.kp (aK.nil N))) ⟨⟨ok4,by omega⟩,gd5⟩ (by simp only[Stm.fF];exact⟨by omega,nm5⟩) (by simp only[Stm.dp];omega) (J5.new hp) (((KK.trans K4).trans K5).trans (N.mono (by simp)))
  refine aa0 _ _ ?_;clear aa0;clear R12;wp_walk;refine⟨r,1,rfl,by decide,by decide,J3,fun u4 s4 G4 hv4 ok4 hd4 J4 K4=>?_⟩;wp_walk;refine fun p hp=>?_;have N:=q0D (o:=.tup [.str "end",u4]) hp;have w4:=hv4.kp (aK.nil N);exact q _ (.fin s4) _ (.fin aA w4) ⟨ok4,by omega⟩ (by first|(simp only[Stm.fF];done)|(simp only[Stm.fF];exact hx3)) (by simp only[Stm.dp];omega) (J4.new hp) ((KK.trans K4).trans (N.mono (by simp)))
theorem blk0{t:Ad}(T:Tx w K mg t):bG P w K mg base ZF 9 t.jP t.jQ ["row","deep"] (DC 0) :=
 ⟨fun _ _ _ _ x=>by (obtain⟨_,_,_,h,h',_⟩:=x;exact absurd h (by omega)),fun _ _ _ _ _ _ _ _ _ _ _ _ _ x=>by (obtain⟨_,_,_,h,h',_⟩:=x;exact absurd h (by omega))⟩
theorem tK{t:Ad}(T:Tx w K mg t):∀ d:Nat,bG P w K mg base ZF (2 * d+10) t.fN t.fP ["row","deep"] (Gy d)/\bG P w K mg base ZF (2 * d+11) t.jP t.jQ ["row","deep"] (DC (d+1))
 | 0=>by
  have a:=nK (P:=P) (base:=base) T (n:=9) (d:=0) (Nat.le_refl _) (blk0 T);exact⟨a,wN T (by omega) a⟩
 | d+1=>by
  have a:=nK (P:=P) (base:=base) T (n:=2 * d+11) (d:=d+1) (by omega) (tK T d).2;exact⟨a,wN T (by omega) a⟩
theorem vH{t:Ad}(T:Tx w K mg t):bG P w K mg base ZF 1 t.CB t.CV ["cell"] Qs:=by
 refine T.xN.ok Ju (fun vs H Q E h=>?_) (fun ZE A outer s H vs Q E hr h=>?_)
 ·obtain⟨c,rfl,_⟩:=h;rfl
 ·obtain⟨c,rfl,q⟩:=h;refine⟨_,(aI (aP (bX (aD (pv 0) (aD (bU pB (pv 0) aE) aB))))),?_⟩
  and_intros
  wp_walk;exact fun r hr'=>q r _ hr' (Kp.new hr') ⟨_,_,aA,Int.emod_nonneg _ (by decide),Int.emod_lt_of_pos _ (by decide)⟩
theorem BL{t:Ad}(T:Tx w K mg t):bG P w K mg base ZF 20 t.nW t.oI ["cells"] UD:=by
 refine T.wB.ok lP (fun vs H Q E h=>?_) (fun ZE A outer s H vs Q E hr h=>?_)
 ·obtain⟨cl,ms,rfl,_⟩:=h;rfl
 ·obtain⟨cl,ms,rfl,ec,lm,q⟩:=h;refine⟨_,(aC (bB (i:=1) lP.nd rfl (Or.inl rfl) (bX aB))
   (aC (AH PassesOwn.never rfl (lA (pv 0)) (mT (i:=2) lP.nd rfl (Or.inl rfl)) (aI (bM (jJ (pv 1) (aN (tK T 1).1 (hr.mono (by omega)) rfl T.fR T.eU.kp T.fO .nil pass0 (aD (aN (vH T) (hr.mono (by omega)) rfl T.Dh T.xN.kp T.CI .nil pass0 (aD (pv 2) aB)) (aD aE aB)))))))
   (aI (aP (dB fH rfl T.gW eP (aD (pv 1) aB)))))),?_⟩
  and_intros
  refine aF fun R1 Zx=>?_;wp_walk;refine fun bl hbl=>?_;have N1:=q0D (o:=.lst []) hbl;have ebl:Zs H bl (.lst []) bl=some (.lst []):=aA;have ec1:=N1.at ec;have ncb:cl≠bl:=aJ ec hbl;have KS:Kp [bl] H (Zs H bl (.lst [])):=N1.mono (by simp);generalize Zs H bl (.lst [])=G1 at *;clear N1;refine Zx _ _ ?_;clear Zx;clear R1;refine aF fun R2 Zy=>?_;wp_walk;refine⟨⟨_,dC.of ec1⟩,?_⟩;obtain⟨Pv,ZC⟩:∃ Pv:Nat->St->Hp->Prop,∀ i σ G,Pv i σ G = ∃(v2:Option V) (us:List V) (b:List Stm),σ=[some (.ref cl),some (.ref bl),v2]/\G bl=some (.lst us)/\bE G us b/\b.length<=i/\qS true b/\cV NM4 b/\qO b<=1/\G cl=some (.lst (ms.map V.int))/\Kp [bl] H G:=⟨_,fun _ _ _=>rfl⟩;refine zS (xs:=ms.map V.int) Pv ?_ ?_ ?_ ?_
  ·rw[ZC];exact⟨_,[],[],rfl,ebl,.nil,Nat.le_refl _,by simp only[qS],by simp only[cV],by simp[qO],ec1,KS⟩
  ·intro i σ G _ h;rw[ZC] at h;obtain⟨_,_,_,_,_,_,_,_,_,_,e,_⟩:=h;exact dC.of e
  ·intro i y σ G hy h;rw[ZC] at h;obtain⟨v2,us,b,rfl,eB,hs,lb,gb,nb,db,ecG,KG⟩:=h;have il:i < ms.length:=by simpa using(List.getElem?_eq_some_iff.mp hy).1
   obtain⟨z,rfl⟩:=Hr hy;have lu:=hs.len;wp_walk using eB;refine fun r G2 nr K2 J2=>⟨r,1,rfl,by decide,by decide,J2,fun v x G3 hv gx nx dx J3 K3=>?_⟩;have T3:=J2.tk K3;have eB3:=K3.at1 (K2.at eB) (aJ eB nr);have ec3:=K3.at1 (K2.at ecG) (aJ ecG nr);have KG3:Kp [] G G3:=fun b o e _=>K3.at1 (K2.at e) (aJ e nr);wp_walk using eB3;refine⟨by omega,?_⟩;have t5:aK G3 (Zs G3 bl (.lst (us++[v]))):=aK.tT eB3 (by intro _ z;cases z);have kb:Kp [bl] G3 (Zs G3 bl (.lst (us++[v]))):=Kp.set (by simp);rw[ZC];exact⟨_,_,b++[x],rfl,aA,(((hs.kp (aK.nil K2)).kp T3).snoc hv).kp t5,by simp;omega,Eb gb gx,Ey nb nx,by rw[zC];omega,kb.at1 ec3 ncb,(KG.trans (KG3.mono (T:=[bl]) (by simp))).trans kb⟩
  intro σ G h;rw[ZC,List.length_map] at h;obtain⟨v2,us,b,rfl,eB,hs,lb,gb,nb,db,ecG,KG⟩:=h;clear ZC Pv;refine Zy _ _ ?_;clear Zy;clear R2;wp_walk using eB;intro p hp;have N:=q0D (o:=.tup us) hp;exact q p us b _ aA (hs.kp (aK.nil N)) gb nb db (by omega) ((Kp.drop KG hbl).trans N)
theorem qV{t:Ad}(T:Tx w K mg t):bG P w K mg base ZF 20 t.nV t.oH ["program","cell"] UC:=by
 refine T.oO.ok fV (fun vs H Q E h=>?_) (fun ZE A outer s H vs Q E hr h=>?_)
 ·obtain⟨pg,us,b,c,rfl,_⟩:=h;rfl
 ·obtain⟨pg,us,b,c,rfl,ep,hs,gb,nb,db,lb,q⟩:=h;refine⟨_,(aC (bB (i:=2) fV.nd rfl (Or.inl rfl) (aN (vH T) (hr.mono (by omega)) rfl T.Dh T.xN.kp T.CI .nil pass0 (aD (pv 1) aB)))
   (aC (bI (aQ (Gd 1 (Ed hr (by decide))) (pv 0) (bC aB) (nomark _)) (aI (aP (bC (aD (aN (tK T 1).1 (hr.mono (by omega)) rfl T.fR T.eU.kp T.fO .nil pass0 (aD (pv 2) (aD aE aB))) aB)))) aZ)
   (aC (bB (i:=3) fV.nd rfl (Or.inl rfl) (aN (bK T) (hr.mono (by omega)) rfl T.cF T.cB.kp T.cE .nil pass0 (aD (pv 2) (aD (cO BX rfl T.DG rB (aD (pv 0) aB)) aB))))
   (aC (bB (i:=4) fV.nd rfl (Or.inl rfl) (aN (bK T) (hr.mono (by omega)) rfl T.cF T.cB.kp T.cE .nil pass0 (aD (pv 2) (aD aE aB))))
   (aC (bI (aQ cN (pv 4) aE (nomark _)) (aI (aP (bU kG (bU kG (dZ jM (pv 0) iB (dR (pv 3))) (bC (aD (aN (tK T 1).1 (hr.mono (by omega)) rfl T.fR T.eU.kp T.fO .nil pass0 (aD (pv 2) (aD aE aB))) aB))) (dZ jM (pv 0) (dR (bU eL (pv 3) aE)) iB)))) aZ)
   (aC (bI (aQ cN (pv 4) aE (nomark _)) (aI (aP (bU kG (dZ jM (pv 0) iB (dR (pv 3))) (dZ jM (pv 0) (dR (bU eL (pv 3) aE)) iB)))) aZ)
   (aC (bI (aQ cN (pv 4) aE (nomark _)) (aI (aP (bU kG (bU kG (dZ jM (pv 0) iB (dR (pv 3))) (bC (aD (aN (tK T 1).1 (hr.mono (by omega)) rfl T.fR T.eU.kp T.fO .nil pass0 (aD (pv 2) (aD aE aB))) aB))) (dZ jM (pv 0) (dR (pv 3)) iB)))) aZ)
   (aC (bB (i:=5) fV.nd rfl (Or.inl rfl) (Jk rfl rfl T.gW rfl T.v8 (aD (dZ jM (pv 0) (dR (pv 3)) (dR (bU eL (pv 3) aE))) aB)))
   (aI (aP (bU kG (bU kG (dZ jM (pv 0) iB (dR (pv 3))) (pv 5)) (dZ jM (pv 0) (dR (bU eL (pv 3) aE)) iB)))))))))))),?_⟩
  and_intros
  refine aF fun R1 Zx=>?_;wp_walk;refine fun r G1 nr K1 J1=>?_;replace ep:=K1.at ep;replace hs:=hs.kp (aK.nil K1);have lu:=hs.len;refine Zx _ _ ?_;clear Zx;clear R1;refine aF fun R2 Zy=>?_;wp_walk using ep;refine fun p2 h2=>?_;have N2:=q0D (o:=.tup []) h2;have e2:Zs G1 p2 (.tup []) p2=some (.tup []):=aA;replace ep:=N2.at ep;replace hs:=hs.kp (aK.nil N2);replace J1:=J1.kp N2;replace K1:=K1.trans N2;generalize Zs G1 p2 (.tup [])=G2 at *;refine⟨_,kU.tup (e:=fun _=>true) (eJ.of ep) (eJ.of e2) (fun j x y _ e=>by simp at e),?_⟩;have okb:=OV gb nb db;clear N2 h2;split
  ·refine⟨r,1,rfl,by decide,by decide,J1,fun v x G3 hv gx nx dx J3 K3 p hp=>?_⟩;have N:=q0D (o:=.tup [v]) hp;obtain⟨c1,c2,c3⟩:=Hz (b:=[x]) (fun m hm=>by rw[show m=x by simpa using hm];exact⟨gx,nx,by omega⟩);exact q p _ [x] _ aA (.cons (hv.kp (aK.nil N)) .nil) c1 c2 c3 (by simp) (Kp.trans (fun b o e _=>K3.at1 (K1.at e) (aJ e nr)) N)
  next hne =>
  have u0:us≠[]:=fun z=>hne (by rw[z];rfl);have u1:0 < us.length:=List.length_pos_iff.mpr u0;clear hne e2;have fin:∀(p:Addr) (vs:List V) (G':Hp),G' p=some (.tup vs)->(∀ v∈vs,∃ m,cL G' v m/\OU m)->vs.length<=3 * us.length+1->Kp [r] G2 G'->Q (.ref p) G':=fun p vs G' e1 e2 e3 e4=>by
   obtain⟨ms,h1,h2,h3⟩:=bE.pick e2;obtain⟨c1,c2,c3⟩:=Hz h2;exact q p vs ms G' e1 h1 c1 c2 c3 (by omega) (fun b o e _=>e4.at1 (K1.at e) (aJ e nr))
  refine Zy _ _ ?_;clear Zy;clear R2;refine aF fun R3 ZI=>?_;wp_walk using ep;refine⟨us,eJ.of ep,by omega,by omega,J1,fun at' G3 a3 b3 J3 K3=>?_⟩;refine ZI _ _ ?_;clear ZI;clear R3;refine aF fun R4 hR4=>?_;wp_walk;refine⟨J3,fun kd G4 a4 b4 J4 K4=>?_⟩;have K24:=K3.trans K4;have T4:=J1.tk K24;replace ep:=T4 _ _ ep;have abF:=(hs.kp T4).all okb;clear K3 K4 J3 J1 hs;refine hR4 _ _ ?_;clear hR4 R4;have lc:∀ a b,(iF us a b).length<=us.length:=fun a b=>oC us a b;have old:∀(G':Hp),aK G4 G'->∀ a b,∀ v∈iF us a b,∃ m,cL G' v m/\OU m:=fun G' t a b v hv=>by
   obtain⟨m,x,y⟩:=abF v (Kj hv);exact⟨m,x.kp t,y⟩
  refine aF fun R5 hR5=>?_;wp_walk;split
  ·refine tU ep fun p5 G5 e5 K5=>?_;have J5:=J4.kp K5;wp_walk;refine⟨r,1,rfl,by decide,by decide,J5,fun v x G6 hv gx nx dx J6 K6 p7 h7=>?_⟩;have N7:=q0D (o:=.tup [v]) h7;have T7:=((aK.nil K5).trans (J5.tk K6)).trans (aK.nil N7);have T57:=(J5.tk K6).trans (aK.nil N7);refine Bj (T57 _ _ e5) aA (by have:=lc none (some at');simp only[List.length_cons,List.length_nil];omega) fun p8 G8 e8 K8=>?_;wp_walk;refine tU (K8.at (T7 _ _ ep)) fun p9 G9 e9 K9=>?_;refine Bj (K9.at e8) e9 (by have:=lc none (some at');have:=lc (some (at'+1)) none;simp only[List.length_append,List.length_cons,List.length_nil];omega) fun pa GA ea KA=>?_;have TA:aK G6 GA:=(aK.nil N7).trans (aK.nil ((K8.trans K9).trans KA));refine fin pa _ GA ea (fun y hy=>?_) (by have:=lc none (some at');have:=lc (some (at'+1)) none;simp only[List.length_append,List.length_cons,List.length_nil];omega) (((K24.trans (K5.mono (by simp))).trans K6).trans ((((N7.trans K8).trans K9).trans KA).mono (by simp)));rcases List.mem_append.mp hy with hy|hy
   ·rcases List.mem_append.mp hy with hy|hy
    ·exact old GA (((aK.nil K5).trans (J5.tk K6)).trans TA) _ _ y hy
    ·rw[show y=v by simpa using hy];exact⟨x,hv.kp TA,gx,nx,by omega⟩
   ·exact old GA (((aK.nil K5).trans (J5.tk K6)).trans TA) _ _ y hy
  refine hR5 _ _ ?_;clear hR5 R5;refine aF fun R6 hR6=>?_;wp_walk;split
  ·refine tU ep fun p5 G5 e5 K5=>?_;wp_walk;refine tU (K5.at ep) fun p9 G9 e9 K9=>?_;refine Bj (K9.at e5) e9 (by have:=lc none (some at');have:=lc (some (at'+1)) none;omega) fun pa GA ea KA=>?_;have TA:aK G4 GA:=aK.nil ((K5.trans K9).trans KA);refine fin pa _ GA ea (fun y hy=>?_) (by have:=lc none (some at');have:=lc (some (at'+1)) none;simp only[List.length_append];omega) (K24.trans (((K5.trans K9).trans KA).mono (by simp)));rcases List.mem_append.mp hy with hy|hy
   ·exact old GA TA _ _ y hy
   ·exact old GA TA _ _ y hy
  refine hR6 _ _ ?_;clear hR6 R6;refine aF fun R7 hR7=>?_;wp_walk;split
  ·refine tU ep fun p5 G5 e5 K5=>?_;have J5:=J4.kp K5;wp_walk;refine⟨r,1,rfl,by decide,by decide,J5,fun v x G6 hv gx nx dx J6 K6 p7 h7=>?_⟩;have N7:=q0D (o:=.tup [v]) h7;have T7:=((aK.nil K5).trans (J5.tk K6)).trans (aK.nil N7);have T57:=(J5.tk K6).trans (aK.nil N7);refine Bj (T57 _ _ e5) aA (by have:=lc none (some at');simp only[List.length_cons,List.length_nil];omega) fun p8 G8 e8 K8=>?_;wp_walk;refine tU (K8.at (T7 _ _ ep)) fun p9 G9 e9 K9=>?_;refine Bj (K9.at e8) e9 (by have:=lc none (some at');have:=lc (some at') none;simp only[List.length_append,List.length_cons,List.length_nil];omega) fun pa GA ea KA=>?_;have TA:aK G6 GA:=(aK.nil N7).trans (aK.nil ((K8.trans K9).trans KA));refine fin pa _ GA ea (fun y hy=>?_) (by have:=lc none (some at');have:=lc (some at') none;simp only[List.length_append,List.length_cons,List.length_nil];omega) (((K24.trans (K5.mono (by simp))).trans K6).trans ((((N7.trans K8).trans K9).trans KA).mono (by simp)));rcases List.mem_append.mp hy with hy|hy
   ·rcases List.mem_append.mp hy with hy|hy
    ·exact old GA (((aK.nil K5).trans (J5.tk K6)).trans TA) _ _ y hy
    ·rw[show y=v by simpa using hy];exact⟨x,hv.kp TA,gx,nx,by omega⟩
   ·exact old GA (((aK.nil K5).trans (J5.tk K6)).trans TA) _ _ y hy
  refine hR7 _ _ ?_;clear hR7 R7;refine aF fun R8 hR8=>?_;wp_walk;refine tU ep fun p5 G5 e5 K5=>⟨p5,_,rfl,eJ.of e5,?_,?_,fun p6 h6=>?_⟩
  ·obtain⟨k,rfl⟩:∃ k:Nat,at'=(k:Int):=⟨at'.toNat,by omega⟩;unfold iF;rw[show(k:Int)+2=((k+2:Nat):Int) by omega,HT.HK,HT.HK,List.length_take,List.length_drop];omega
  ·have:=lc (some at') (some (at'+2));omega
  have N6:=q0D (o:=.tup (iF us (some at') (some (at'+2))).reverse) h6;have e6:Zs G5 p6 (.tup (iF us (some at') (some (at'+2))).reverse) p6=some (.tup (iF us (some at') (some (at'+2))).reverse):=aA;replace K5:=K5.trans N6;generalize Zs G5 p6 (.tup (iF us (some at') (some (at'+2))).reverse)=G6 at *;have l1:=lc none (some at');have l2:=lc (some at') (some (at'+2));have l3:=lc (some (at'+2)) none;refine hR8 _ _ ?_;clear hR8 R8;wp_walk;refine tU (K5.at ep) fun p7 G7 e7 K7=>?_;refine Bj e7 (K7.at e6) (by simp only[List.length_reverse];omega) fun p8 G8 e8 K8=>?_;wp_walk;refine tU ((K5.trans (K7.trans K8)).at ep) fun p9 G9 e9 K9=>?_;refine Bj (K9.at e8) e9 (by simp only[List.length_append,List.length_reverse];omega) fun pa GA ea KA=>?_;have KB:=K5.trans (K7.trans (K8.trans (K9.trans KA)));refine fin pa _ GA ea (fun y hy=>?_) (by simp only[List.length_append,List.length_reverse];omega) (K24.trans (KB.mono (by simp)));rcases List.mem_append.mp hy with hy|hy
  ·rcases List.mem_append.mp hy with hy|hy
   ·exact old GA (aK.nil KB) _ _ y hy
   ·exact old GA (aK.nil KB) _ _ y (List.mem_reverse.mp hy)
  ·exact old GA (aK.nil KB) _ _ y hy
theorem vG{t:Ad}(T:Tx w K mg t):bG P w K mg base ZF 20 t.jX t.j7 ["cells"] Po:=by
 refine T.oP.ok bP (fun vs H Q E h=>?_) (fun ZE A outer s H vs Q E hr h=>?_)
 ·obtain⟨cl,ms,rfl,_⟩:=h;rfl
 ·obtain⟨cl,ms,rfl,ec,lm,q⟩:=h;refine⟨_,(aC (bB (i:=1) bP.nd rfl (Or.inl rfl) (bX aB))
   (aC (bB (i:=2) bP.nd rfl (Or.inl rfl) aE)
   (aC (AH PassesOwn.never rfl (lA (pv 0)) (mT (i:=3) bP.nd rfl (Or.inl rfl)) (aC (bB (i:=4) bP.nd rfl (Or.inl rfl) (aN (vH T) (hr.mono (by omega)) rfl T.Dh T.xN.kp T.CI .nil pass0 (aD (pv 3) aB)))
   (aC (bB (i:=5) bP.nd rfl (Or.inl rfl) (aN (bK T) (hr.mono (by omega)) rfl T.cF T.cB.kp T.cE .nil pass0 (aD (pv 4) (aD aE aB))))
   (aC (bB (i:=2) bP.nd rfl (Or.inl rfl) (bU eL (pv 2) (aN (bK T) (hr.mono (by omega)) rfl T.cF T.cB.kp T.cE .nil pass0 (aD (pv 4) (aD aE aB)))))
   (aC (bB (i:=6) bP.nd rfl (Or.inl rfl) (aY bJ (bX (aD dJ (aD aE (aD aE (aD aE (aD (AD sC aE) (aD aE aB))))))) (aN (bK T) (hr.mono (by omega)) rfl T.cF T.cB.kp T.cE .nil pass0 (aD (pv 4) (aD aE aB))) (fun _ _=>rfl)))
   (aI (bI (aQ k9 (pv 5) aE (nomark _)) (aI (bM (jJ (pv 1) (bC (aD aS (aD (pv 2) (aD (aN (bK T) (hr.mono (by omega)) rfl T.cF T.cB.kp T.cE .nil pass0 (aD (pv 4) (aD aE aB))) (aD (pv 6) aB)))))))) (aI (bI (aQ k9 (pv 5) aE (nomark _)) (aI (bM (jJ (pv 1) (bC (aD aS (aD (pv 2) (aD (aY bJ (bX (aD aS (aD aS aB))) (aN (bK T) (hr.mono (by omega)) rfl T.cF T.cB.kp T.cE .nil pass0 (aD (pv 4) (aD aE aB))) (fun _ _=>rfl)) (aD (pv 6) aB)))))))) (aI (bM (jJ (pv 1) (bC (aD aS (aD (pv 2) (aD (pv 6) aB))))))))))))))))
   (aC (bB (i:=7) bP.nd rfl (Or.inl rfl) (cO (Ij rfl) rfl T.UR Q5 (aD (dZ Xt (pv 0) iB (dR aE)) aB)))
   (aC (bB (i:=8) bP.nd rfl (Or.inl rfl) (dZ Xt (bX (aD (bC (aD aS (aD aE (aD aS (aD aE aB))))) (aD (bC (aD aS (aD aE (aD aE (aD aE aB))))) aB))) iB (dR (bU pB (pv 7) aE))))
   (aI (aP (bU eL (bU eL (pv 8) (bX (aD (bC (aD aS (aD aE (aD (aY bJ (bX (aD dJ (aD aE (aD aE aB)))) (bU pB (bU tL (pv 7) aE) aE) (fun _ _=>rfl)) aB)))) aB))) (pv 1))))))))),?_⟩
  and_intros
  refine aF fun R1 Zx=>?_;wp_walk;refine fun bl hbl=>?_;have N1:=q0D (o:=.lst []) hbl;have ebl:Zs H bl (.lst []) bl=some (.lst []):=aA;have ec1:=N1.at ec;have ncb:cl≠bl:=aJ ec hbl;have KS:Kp [bl] H (Zs H bl (.lst [])):=N1.mono (by simp);generalize Zs H bl (.lst [])=G1 at *;clear N1;refine Zx _ _ ?_;clear Zx;clear R1;refine aF fun R2 Zy=>?_;wp_walk;refine Zy _ _ ?_;clear Zy;clear R2;refine aF fun R3 ZI=>?_;wp_walk;refine⟨⟨_,dC.of ec1⟩,?_⟩;obtain⟨Pv,ZC⟩:∃ Pv:Nat->St->Hp->Prop,∀ i σ G,Pv i σ G = ∃(v3 v4 v5 v6:Option V) (m:Int) (us:List V) (hs:List Hap),σ=[some (.ref cl),some (.ref bl),some (.int m),v3,v4,v5,v6,none,none]/\0<=m/\m<=4 * i/\G bl=some (.lst us)/\bN G us hs/\hs.length<=i/\(∀ h∈hs,h.inK)/\G cl=some (.lst (ms.map V.int))/\Kp [bl] H G:=⟨_,fun _ _ _=>rfl⟩;refine zS (xs:=ms.map V.int) Pv ?_ ?_ ?_ ?_
  ·rw[ZC];exact⟨_,_,_,_,0,[],[],rfl,by omega,by omega,ebl,.nil,Nat.le_refl _,by simp,ec1,KS⟩
  ·intro i σ G _ h;rw[ZC] at h;obtain⟨_,_,_,_,_,_,_,_,_,_,_,_,_,_,e,_⟩:=h;exact dC.of e
  ·intro i y σ G hy h;rw[ZC] at h;obtain⟨v3,v4,v5,v6,m,us,hs,rfl,m0,m1,eB,hH,lb,ok,ecG,KG⟩:=h;have il:i < ms.length:=by simpa using(List.getElem?_eq_some_iff.mp hy).1
   obtain⟨z,rfl⟩:=Hr hy;have lu:=hH.len;refine aF fun Ra hRa=>?_;wp_walk;refine fun r G2 nr K2 J2=>?_;refine hRa _ _ ?_;clear hRa Ra;refine aF fun Ra hRa=>?_;wp_walk;refine⟨J2,fun kd G3 a3 b3 J3 K3=>?_⟩;refine hRa _ _ ?_;clear hRa Ra;refine aF fun Ra hRa=>?_;wp_walk;refine⟨J3,fun g4 G4 a4 b4 J4 K4=>?_⟩;refine hRa _ _ ?_;clear hRa Ra;refine aF fun Ra hRa=>?_;wp_walk;refine fun p5 h5=>⟨J4.new h5,fun g5 G5 a5 b5 J5 K5=>?_⟩;wp_walk using made1J K5 J4 h5;refine rP a5 b5 fun y5 hy5=>?_;obtain⟨w,hw,rfl⟩:∃ w:Wo,eY w/\y5=wv w:=by
    simp only[List.mem_cons,List.not_mem_nil,or_false] at hy5;rcases hy5 with rfl|rfl|rfl|rfl|rfl|rfl
    ·exact⟨none,kC,rfl⟩
    ·exact⟨some 0,cM (by decide) (by decide),rfl⟩
    ·exact⟨some 1,cM (by decide) (by decide),rfl⟩
    ·exact⟨some 2,cM (by decide) (by decide),rfl⟩
    ·exact⟨some (-1),cM (by decide) (by decide),rfl⟩
    ·exact⟨some 7,cM (by decide) (by decide),rfl⟩
   have K25:Kp [r] G2 G5:=((K3.trans K4).trans (Kp.new h5)).trans K5;have KF:Kp [] G G5:=fun b o e _=>K25.at1 (K2.at e) (aJ e nr);have nbr:=aJ eB nr;refine hRa _ _ ?_;have KR:=K25;clear hRa Ra K3 K4 K5 J3 J4 h5 K25;have fin:∀(h:Hap) (v:V) (G':Hp),nN G' v h->h.inK->G' bl=some (.lst us)->Kp [] G G'->Pv (i+1) [some (.ref cl),some (.ref bl),some (.int (m+g4)),some (.int z),some (.ref r),some (.int kd),some (wv w),none,none] (Zs G' bl (.lst (us++[v]))):=fun h v G' hA hk eb k=>by
    have t5:aK G' (Zs G' bl (.lst (us++[v]))):=aK.tT eb (by intro _ z;cases z);have kb:Kp [bl] G' (Zs G' bl (.lst (us++[v]))):=Kp.set (by simp);rw[ZC];exact⟨_,_,_,_,_,_,hs++[h],rfl,by omega,by omega,aA,((hH.kt (aK.nil k)).kt t5).snoc (LA hA t5),by simp;omega,fun g hg=>by
     rcases List.mem_append.mp hg with hg|hg
     ·exact ok g hg
     ·rw[show g=h by simpa using hg];exact hk,kb.at1 (k.at ecG) ncb,(KG.trans (k.mono (T:=[bl]) (by simp))).trans kb⟩
   clear ZC;have eB5:=KF.at eB;wp_walk using eB5;split
   ·wp_walk using eB5;refine⟨J5,fun g6 G6 a6 b6 J6 K6 p hp=>?_⟩;have KF6:Kp [] G G6:=fun b o e _=>(show Kp [r] G2 G6 from KR.trans K6).at1 (K2.at e) (aJ e nr);have eB6:=(KF6.trans (Kp.new (o:=.tup [.str "done",.int (m+g4),.int g6,wv w]) hp)).at eB;wp_walk using eB6;exact⟨by omega,fin (.don (m+g4) g6 w) _ _ ⟨p,rfl,aA⟩ ⟨⟨⟨by show 0<=m+g4;omega,by show m+g4<=1000000000000;omega⟩,hw⟩,fun _ _ _ z=>by cases z⟩ eB6 (KF6.trans (Kp.new hp))⟩
   split
   ·wp_walk using eB5;refine fun p6 h6=>⟨J5.new h6,fun g6 G6 a6 b6 J6 K6=>?_⟩;wp_walk using made1J K6 J5 h6;refine rP a6 b6 fun y6 hy6=>?_;obtain⟨k6,hk6,rfl⟩:∃ k:Str,k∈KY3/\y6=.str k:=by simp only[List.mem_cons,List.not_mem_nil,or_false] at hy6;rcases hy6 with rfl|rfl<;>exact⟨_,by simp[KY3],rfl⟩
    wp_walk;refine fun p hp=>?_;have KF6:Kp [] G G6:=fun b o e _=>(show Kp [r] G2 G6 from (KR.trans (Kp.new h6)).trans K6).at1 (K2.at e) (aJ e nr);have eB6:=(KF6.trans (Kp.new (o:=.tup [.str "letter",.int (m+g4),.str k6,wv w]) hp)).at eB;wp_walk using eB6;exact⟨by omega,fin (.ltr (m+g4) k6 w) _ _ ⟨p,rfl,aA⟩ ⟨⟨⟨by show 0<=m+g4;omega,by show m+g4<=1000000000000;omega⟩,hw⟩,fun _ _ _ z=>by cases z;exact hk6⟩ eB6 (KF6.trans (Kp.new hp))⟩
   ·wp_walk using eB5;refine fun p hp=>?_;have eB6:=(q0D (o:=.tup [.str "begin",.int (m+g4),wv w]) hp).at eB5;wp_walk using eB6;exact⟨by omega,fin (.beg (m+g4) w) _ _ ⟨p,rfl,aA⟩ ⟨⟨⟨by show 0<=m+g4;omega,by show m+g4<=1000000000000;omega⟩,hw⟩,fun _ _ _ z=>by cases z⟩ eB6 (KF.trans (Kp.new hp))⟩
  intro σ G h;rw[ZC,List.length_map] at h;obtain⟨v3,v4,v5,v6,m,us,hs,rfl,m0,m1,eB,hH,lb,ok,ecG,KG⟩:=h;clear ZC Pv;refine ZI _ _ ?_;clear ZI;clear R3;refine aF fun R4 hR4=>?_;wp_walk using ecG;refine fun p1 h1=>?_;obtain⟨ns,en,ln⟩:=yU ms none (some 2);rw[en];have N1:=q0D (o:=.lst (ns.map V.int)) h1;refine⟨ns,dC.of aA,fun fz=>?_⟩;replace eB:=N1.at eB;replace hH:=hH.kt (aK.nil N1);replace KG:=KG.trans (N1.mono (T:=[bl]) (by simp));generalize Zs G p1 (.lst (ns.map V.int))=G7 at *;clear N1 h1 ecG;refine hR4 _ _ ?_;clear hR4 R4;refine aF fun R5 hR5=>?_;wp_walk;refine fun p2 h2 p3 h3 p4 h4=>?_;have M_1:=q0D (o:=.tup [.str "letter",.int 0,.str "key",.int 5]) h2;have M_2:=q0D (o:=.tup [.str "done",.int 2,.int 0,.int 1]) h3;have M_3:=q0D (o:=.lst [.ref p2,.ref p3]) h4;have f1:=(M_2.trans M_3).at (aA:(Zs G7 p2 (.tup [.str "letter",.int 0,.str "key",.int 5])) p2=some (.tup [.str "letter",.int 0,.str "key",.int 5]));have f2:=M_3.at (aA:(Zs (Zs G7 p2 (.tup [.str "letter",.int 0,.str "key",.int 5])) p3 (.tup [.str "done",.int 2,.int 0,.int 1])) p3=some (.tup [.str "done",.int 2,.int 0,.int 1]));have f3:(Zs (Zs (Zs G7 p2 (.tup [.str "letter",.int 0,.str "key",.int 5])) p3 (.tup [.str "done",.int 2,.int 0,.int 1])) p4 (.lst [.ref p2,.ref p3])) p4=some (.lst [.ref p2,.ref p3]):=aA;have MM:=((M_1.trans M_2).trans M_3);generalize Zs (Zs (Zs G7 p2 (.tup [.str "letter",.int 0,.str "key",.int 5])) p3 (.tup [.str "done",.int 2,.int 0,.int 1])) p4 (.lst [.ref p2,.ref p3])=G8 at *;clear M_1 M_2 M_3 h2 h3 h4;wp_walk using f3;refine fun p5 h5=>?_;have hA:bN G8 [.ref p2,.ref p3] [.ltr 0 "key" (some 5),.don 2 0 (some 1)]:=.cons ⟨p2,rfl,f1⟩ (.cons ⟨p3,rfl,f2⟩ .nil);obtain⟨gs,hg,mg,lg⟩:=hA.cut none (some (fz % 3));generalize iF [V.ref p2,V.ref p3] none (some (fz % 3))=ys at *;have N5:=MM.trans (q0D (o:=.lst ys) h5);have e5:Zs G8 p5 (.lst ys) p5=some (.lst ys):=aA;replace hg:=hg.kt (aK.nil (q0D (o:=.lst ys) h5));replace eB:=N5.at eB;replace hH:=hH.kt (aK.nil N5);replace KG:=KG.trans (N5.mono (T:=[bl]) (by simp));have okg:∀ h∈gs,h.inK:=fun h hh=>by
   have:=mg h hh;simp only[List.mem_cons,List.not_mem_nil,or_false] at this;rcases this with rfl|rfl
   ·exact⟨⟨⟨by decide,by decide⟩,cM (by decide) (by decide)⟩,fun _ _ _ z=>by cases z;simp[KY3]⟩
   ·exact⟨⟨⟨by decide,by decide⟩,cM (by decide) (by decide)⟩,fun _ _ _ z=>by cases z⟩
  generalize Zs G8 p5 (.lst ys)=G9 at *;clear MM f1 f2 f3 h5 N5 hA mg;refine hR5 _ _ ?_;clear hR5 R5;wp_walk;refine fun p6 h6=>?_;have N6:=q0D (o:=.lst [.Zu,.int 1,.int 3]) h6;have f6:Zs G9 p6 (.lst [.Zu,.int 1,.int 3]) p6=some (.lst [.Zu,.int 1,.int 3]):=aA;wp_walk using f6;have g0:0<=fz / 3 % 3:=Int.emod_nonneg _ (by decide);have g1:fz / 3 % 3 < 3:=Int.emod_lt_of_pos _ (by decide);refine⟨⟨by decide,by decide⟩,rP g0 g1 fun v hv=>?_⟩;obtain⟨w,hw,rfl⟩:∃ w:Wo,eY w/\v=wv w:=by
   simp only[List.mem_cons,List.not_mem_nil,or_false] at hv;rcases hv with rfl|rfl|rfl
   ·exact⟨none,kC,rfl⟩
   ·exact⟨some 1,cM (by decide) (by decide),rfl⟩
   ·exact⟨some 3,cM (by decide) (by decide),rfl⟩
  wp_walk;refine fun p7 h7 p8 h8=>?_;have N8:=N6.trans ((q0D (o:=.tup [.str "begin",.int 0,wv w]) h7).trans (Kp.new (o:=.lst [.ref p7]) h8));have e7:=(q0D (o:=.lst [.ref p7]) h8).at (aA:Zs (Zs G9 p6 (.lst [.Zu,.int 1,.int 3])) p7 (.tup [.str "begin",.int 0,wv w]) p7=_);have e8:Zs (Zs (Zs G9 p6 (.lst [.Zu,.int 1,.int 3])) p7 (.tup [.str "begin",.int 0,wv w])) p8 (.lst [.ref p7]) p8=some (.lst [.ref p7]):=aA;replace e5:=N8.at e5;replace eB:=N8.at eB;replace hg:=hg.kt (aK.nil N8);replace hH:=hH.kt (aK.nil N8);replace KG:=KG.trans (N8.mono (T:=[bl]) (by simp));generalize Zs (Zs (Zs G9 p6 (.lst [.Zu,.int 1,.int 3])) p7 (.tup [.str "begin",.int 0,wv w])) p8 (.lst [.ref p7])=GA at *;have l1:=hg.len;have l2:=hH.len;have lg2:gs.length<=2:=lg;wp_walk using e5,e8;refine⟨by omega,fun p9 h9=>?_⟩;have N9:=q0D (o:=.lst (ys++[.ref p7])) h9;replace eB:=N9.at eB;have e9:Zs GA p9 (.lst (ys++[.ref p7])) p9=some (.lst (ys++[.ref p7])):=aA;wp_walk using eB,e9;refine⟨by rw[List.length_append,List.length_cons,List.length_nil];omega,fun pa ha=>?_⟩;have NA:=N9.trans (q0D (o:=.lst (ys++[.ref p7]++us)) ha);have hB:bN GA [.ref p7] [.beg 0 w]:=.cons ⟨p7,rfl,e7⟩ .nil;refine q pa _ ((gs++[.beg 0 w])++hs) _ aA (((hg.app hB).app hH).kt (aK.nil NA)) (fun h hh=>?_) (by simp only[List.length_append,List.length_cons,List.length_nil];omega) ?_ ((Kp.drop KG hbl).trans NA)
  ·rcases List.mem_append.mp hh with hh|hh
   ·rcases List.mem_append.mp hh with hh|hh
    ·exact okg h hh
    ·rw[show h=.beg 0 w by simpa using hh];exact⟨⟨⟨Int.le_refl 0,by show(0:Int)<=1000000000000;decide⟩,hw⟩,fun _ _ _ z=>by cases z⟩
   ·exact ok h hh
  ·exact(Kp.drop KG hbl).fZ (N9.fZ ha)
theorem ED{t:Ad}(T:Tx w K mg t):bG P w K mg base ZF 1 t.pR t.uL ["self","program"] (EW t.aW):=by
 refine T.Iz.ok ER (fun vs H Q E h=>?_) (fun ZE A outer s H vs Q E hr h=>?_)
 ·obtain⟨x,dx,p,us,b,rfl,_⟩:=h;rfl
 ·obtain⟨x,dx,p,us,b,rfl,e,ep,hU,q⟩:=h;refine⟨_,(aC (dA T.cQ T.iI (pv 0) (bX (aD (pv 1) aB)))
   (aI (dA T.cQ T.eV (pv 0) (bX (aD aE aB))))),?_⟩
  and_intros
  wp_walk using e;refine fun lb f1=>?_;have n1:x≠lb:=aJ e f1;wp_walk using aG n1,e;refine fun ln f2=>?_;have n2:x≠ln:=aJ aA f2;have n3:lb≠ln:=aJ (by rw[aG n1.symm];exact aA) f2;wp_walk using aG n2;rw[aG n2.symm,aG n3.symm] at f2;have npx:p≠x:=dW ep e (by intro z;cases z);have npl:=aJ ep f1;have npn:=aJ ep f2;have KK:Kp [x] H (Zs (Zs (Zs (Zs H lb (.lst [.ref p])) x (.ins t.aW dx [("blocks",.ref lb)])) ln (.lst [.int 0])) x (.ins t.aW dx [("blocks",.ref lb),("numbers",.ref ln)])):=fun b o eb nb=>by
   have nb':b≠x:=by simpa using nb
   rw[aG nb',aG (aJ eb f2),aG nb',aG (aJ eb f1)];exact eb
  have TT:aK H _:=fun a xs ea=>KK a _ ea (by simp only[List.mem_cons,List.not_mem_nil,or_false];exact dW ea e (by intro z;cases z));refine q lb ln _ f1 f2 ⟨aA,⟨[.ref p],?_,.one (TT _ _ ep) (hU.kp TT)⟩,?_,n3,by simp⟩ KK
  ·rw[aG n1.symm,aG n3,aG n1.symm];exact aA
  ·rw[aG n2.symm];exact aA
theorem Au{t:Ad}(T:Tx w K mg t):bG P w K mg base ZF 1 t.jB t.mI ["self"] (EV t.aL):=by
 refine T.C1.ok AX (fun vs H Q E h=>?_) (fun ZE A outer s H vs Q E hr h=>?_)
 ·obtain⟨x,dx,rfl,_⟩:=h;rfl
 ·obtain⟨x,dx,rfl,e,q⟩:=h;refine⟨_,(aC (dA T.bD T.u7 (pv 0) aE)
   (aC (dA T.bD T.gH (pv 0) tN)
   (aI (dA T.bD T.gF (pv 0) tN)))),?_⟩
  and_intros
  wp_walk using e;refine fun dp f1=>?_;have n1:x≠dp:=aJ aA f1;wp_walk using aG n1;refine fun da f2=>?_;have n2:x≠da:=aJ aA f2;have n3:dp≠da:=aJ (by rw[aG n1.symm];exact aA) f2;wp_walk using aG n2;rw[aG n1.symm] at f1;rw[aG n2.symm,aG n3.symm,aG n2.symm] at f2;refine q dp da _ f1 f2 ⟨aA,?_,?_,n3,by simp,.nil,by simp,by simp,by decide⟩ ?_
  ·rw[aG n1.symm,aG n3,aG n1.symm];exact aA
  ·rw[aG n2.symm];exact aA
  ·intro b o eb nb;have nb':b≠x:=by simpa using nb
   rw[aG nb',aG (aJ eb f2),aG nb',aG (aJ eb f1),aG nb'];exact eb
theorem Ap{t:Ad}(T:Tx w K mg t):bG P w K mg base ZF 3 t.sH t.yW ["self","program"] (HN ⟨t.aV,t.aW,t.aL⟩):=by
 refine T.Lp.ok Gn (fun vs H Q E h=>?_) (fun ZE A outer s H vs Q E hr h=>?_)
 ·obtain⟨x,dx,pg,us,b,rfl,_⟩:=h;rfl
 ·obtain⟨x,dx,pg,us,b,rfl,e,ep,hs,q⟩:=h;refine⟨_,(aC (dA T.aX T.kE (pv 0) (Dp T.FR (ED T) (hr.mono (by omega)) rfl T.Xb T.Ib .nil pass0 (aD (pv 1) aB)))
   (aC (dA T.aX T.dF (pv 0) (bC (aD aS aB)))
   (aC (dA T.aX T.Ce (pv 0) dJ)
   (aC (dA T.aX T.tG (pv 0) aE)
   (aC (dA T.aX T.fW (pv 0) tN)
   (aC (dA T.aX T.cJ (pv 0) (Me T.uX (Au T) (hr.mono (by omega)) rfl T.LO T.CG .nil pass0))
   (aI (dA T.aX T.gG (pv 0) tN)))))))),?_⟩
  and_intros
  refine aF fun R1 Zx=>?_;wp_walk using e;refine OP ep hs fun wk wx lb ln Gw Kw hwk hlb hln W0=>?_;have ew:=Kw.at e;wp_walk using ew;have g1:Zs Gw x (.ins t.aV dx [("walk",.ref wk)]) x=some (.ins t.aV dx [("walk",.ref wk)]):=aA;have K1:Kp [x] Gw (Zs Gw x (.ins t.aV dx [("walk",.ref wk)])):=Kp.set (by simp);generalize Zs Gw x (.ins t.aV dx [("walk",.ref wk)])=G1 at *;refine Zx _ _ ?_;clear Zx;clear R1;refine aF fun R2 Zy=>?_;wp_walk using g1;refine fun p h2=>?_;obtain⟨g2,f2,K2,n2⟩:=put2 (o:=.tup [.str "new"]) (o':=.ins t.aV dx [("walk",.ref wk),("sleep",.ref p)]) g1 h2;wp_walk using aG n2,g1;generalize Zs (Zs G1 p (.tup [.str "new"])) x (.ins t.aV dx [("walk",.ref wk),("sleep",.ref p)])=G2 at *;refine Zy _ _ ?_;clear Zy;clear R2;refine aF fun R3 ZI=>?_;wp_walk using g2;have g3:Zs G2 x (.ins t.aV dx [("walk",.ref wk),("sleep",.ref p),("arg",.Zu)]) x=some (.ins t.aV dx [("walk",.ref wk),("sleep",.ref p),("arg",.Zu)]):=aA;have K3:Kp [x] G2 (Zs G2 x (.ins t.aV dx [("walk",.ref wk),("sleep",.ref p),("arg",.Zu)])):=Kp.set (by simp);generalize Zs G2 x (.ins t.aV dx [("walk",.ref wk),("sleep",.ref p),("arg",.Zu)])=G3 at *;refine ZI _ _ ?_;clear ZI;clear R3;refine aF fun R4 hR4=>?_;wp_walk using g3;have g4:Zs G3 x (.ins t.aV dx [("walk",.ref wk),("sleep",.ref p),("arg",.Zu),("now",.int 0)]) x=some (.ins t.aV dx [("walk",.ref wk),("sleep",.ref p),("arg",.Zu),("now",.int 0)]):=aA;have K4:Kp [x] G3 (Zs G3 x (.ins t.aV dx [("walk",.ref wk),("sleep",.ref p),("arg",.Zu),("now",.int 0)])):=Kp.set (by simp);generalize Zs G3 x (.ins t.aV dx [("walk",.ref wk),("sleep",.ref p),("arg",.Zu),("now",.int 0)])=G4 at *;refine hR4 _ _ ?_;clear hR4 R4;refine aF fun R5 hR5=>?_;wp_walk using g4;refine fun nm h5=>?_;obtain⟨g5,f5,K5,n5⟩:=put2 (o:=.dK []) (o':=.ins t.aV dx [("walk",.ref wk),("sleep",.ref p),("arg",.Zu),("now",.int 0),("names",.ref nm)]) g4 h5;wp_walk using aG n5,g4;generalize Zs (Zs G4 nm (.dK [])) x (.ins t.aV dx [("walk",.ref wk),("sleep",.ref p),("arg",.Zu),("now",.int 0),("names",.ref nm)])=G5 at *;refine hR5 _ _ ?_;clear hR5 R5;refine aF fun R6 hR6=>?_;wp_walk using g5;refine Xe fun tk tx dp da Gt Kt htk hdp hda T0=>?_;have et:=Kt.at g5;wp_walk using et;have g6:Zs Gt x (.ins t.aV dx [("walk",.ref wk),("sleep",.ref p),("arg",.Zu),("now",.int 0),("names",.ref nm),("tickets",.ref tk)]) x=some (.ins t.aV dx [("walk",.ref wk),("sleep",.ref p),("arg",.Zu),("now",.int 0),("names",.ref nm),("tickets",.ref tk)]):=aA;have K6:Kp [x] Gt (Zs Gt x (.ins t.aV dx [("walk",.ref wk),("sleep",.ref p),("arg",.Zu),("now",.int 0),("names",.ref nm),("tickets",.ref tk)])):=Kp.set (by simp);generalize Zs Gt x (.ins t.aV dx [("walk",.ref wk),("sleep",.ref p),("arg",.Zu),("now",.int 0),("names",.ref nm),("tickets",.ref tk)])=G6 at *;refine hR6 _ _ ?_;clear hR6 R6;wp_walk using g6;refine fun lt h7=>?_;obtain⟨g7,f7,K7,n7⟩:=put2 (o:=.dK []) (o':=.ins t.aV dx [("walk",.ref wk),("sleep",.ref p),("arg",.Zu),("now",.int 0),("names",.ref nm),("tickets",.ref tk),("letters",.ref lt)]) g6 h7;wp_walk using aG n7,g6;generalize Zs (Zs G6 lt (.dK [])) x (.ins t.aV dx [("walk",.ref wk),("sleep",.ref p),("arg",.Zu),("now",.int 0),("names",.ref nm),("tickets",.ref tk),("letters",.ref lt)])=G7 at *;have KA:Kp [x] H G4:=((((Kw.mono (by simp)).trans K1).trans K2).trans K3).trans K4;have KB:Kp [x] H Gt:=(KA.trans K5).trans (Kt.mono (by simp));have KC:Kp [x] H G6:=KB.trans K6;have xwk:x≠wk:=aJ e hwk;have xtk:x≠tk:=aJ g5 htk;have W7:Kp [x] Gw G7:=(((((K1.trans K2).trans K3).trans K4).trans K5).trans (Kt.mono (by simp))).trans (K6.trans K7);have P7:Kp [x] G2 G7:=(((K3.trans K4).trans K5).trans (Kt.mono (by simp))).trans (K6.trans K7);have N7:Kp [x] G5 G7:=(Kt.mono (by simp)).trans (K6.trans K7);have T7:Kp [x] Gt G7:=K6.trans K7;have KD:Kp [x] H G7:=KC.trans K7;have W5:Kp [x] Gw G5:=((((K1.trans K2).trans K3).trans K4).trans K5);have xlb:lb≠x:=(aJ e hlb).symm;have xln:ln≠x:=(aJ e hln).symm;have xdp:dp≠x:=(aJ g5 hdp).symm;have xda:da≠x:=(aJ g5 hda).symm;have nm6:=K6.at1 (Kt.at f5) n5.symm;have dp6:=K6.at1 T0.hp xdp;have da6:=K6.at1 T0.ha xda;have wk5:=W5.at1 W0.ins xwk.symm;have fr4:H nm=none:=YR KA g4 h5;have fr5:∀ {a:Addr},G5 a=none->H a=none:=fun h=>YR (KA.trans K5) g5 h;have acR:H lt=none:=YR KC g6 h7;have kt7:aK Gw G7:=fun b xs hb=>W7.at1 hb (dW hb ew (by intro z;cases z));refine q ⟨x,dx,wk,wx,lb,ln,nm,tk,tx,dp,da,lt⟩ (.ref p) G7 rfl ⟨g7,⟨p,rfl,P7.at1 f2 n2.symm⟩,W0.keep (fun o h=>W7.at1 h xwk.symm) (fun o h=>W7.at1 h xlb) (fun o h=>W7.at1 h xln) kt7,T0.keep (fun o h=>T7.at1 h xtk.symm) (fun o h=>T7.at1 h xdp) (fun o h=>T7.at1 h xda),N7.at1 f5 n5.symm,⟨[],f7,.nil⟩,by simp,by simp,xwk,xtk,aJ wk5 htk,aJ f5 hdp,aJ f5 hda,aJ nm6 h7,(aJ dp6 h7).symm,(aJ da6 h7).symm⟩ KD fun a ha=>?_;simp only[Rn.cells,List.mem_cons,List.not_mem_nil,or_false] at ha;rcases ha with rfl|rfl|rfl|rfl|rfl|rfl|rfl|rfl
  ·exact .inl rfl
  ·exact .inr hlb
  ·exact .inr hln
  ·exact .inr fr4
  ·exact .inr (fr5 htk)
  ·exact .inr (fr5 hdp)
  ·exact .inr (fr5 hda)
  ·exact .inr acR
theorem g8{t:Ad}(T:Tx w K mg t):bG P w K mg base ZF 1 t.jW t.j6 ["self","ticket"] (My t.aL):=by
 refine T.zO.ok vY (fun vs H Q E h=>?_) (fun ZE A outer s H vs Q E hr h=>?_)
 ·obtain⟨tk,tx,dp,da,made,pend,ans,w,rfl,_⟩:=h;rfl
 ·obtain⟨tk,tx,dp,da,made,pend,ans,w,rfl,R,q⟩:=h;have hu:=oQ hr;refine⟨_,(aI (aP (Ue (HD hu (pv 1) (aO T.bD T.gH (pv 0)))))),?_⟩
  and_intros
  wp_walk using R.ins,R.hp,AE;exact q
theorem vD{t:Ad}(T:Tx w K mg t):bG P w K mg base ZF 2 t.jT t.j0 ["self","happening"] (UB ⟨t.aV,t.aW,t.aL⟩):=by
 refine T.zL.ok lZ (fun vs H Q E h=>?_) (fun ZE A outer s H vs Q E hr h=>?_)
 ·obtain⟨R,as,sl,S,v,h,rfl,_⟩:=h;rfl
 ·obtain⟨R,as,sl,S,v,h,rfl,A,hn,hH,q⟩:=h;refine⟨_,(aC (bB (i:=2) lZ.nd rfl (Or.inl rfl) (aY bJ (pv 1) aE (fun _ _=>rfl)))
   (aC (bI (aQ cN (aY bJ (aO T.aX T.dF (pv 0)) aE (fun _ _=>rfl)) aS (nomark _)) (aI (aP (iA Qj (pv 2) aS (nomark _)))) aZ)
   (aC (bI (aQ Ge (aY bJ (aO T.aX T.dF (pv 0)) aE (fun _ _=>rfl)) (bC (aD aS (aD aS aB))) (by with_unfolding_all rfl)) (aI (aP Ma)) aZ)
   (aI (aP (Xi (iA cN (pv 2) aS (nomark _)) (Gi (Gh (iA cN (pv 2) aS (nomark _)) (Gi (Ug (bL (aO T.aX T.cJ (pv 0)) T.bD T.iS (g8 T) (hr.mono (by omega)) T.jZ .nil pass0 (aD (aY bJ (pv 1) aE (fun _ _=>rfl)) aB)))))))))))),?_⟩
  and_intros
  obtain⟨a,rfl,eh⟩:=hH;cases es:S.sl with
  | Zu=>rw[es] at hn;cases hn
  | new =>
   have ZL:=A.slp;rw[es] at ZL;obtain⟨p,rfl,ep⟩:=ZL;cases h with
   | beg m w =>
    simp only[Hap.vs,Hap.ini,Hap.w,List.cons_append,List.nil_append] at eh;rw[show S.over (.beg m w)=false by simp only[Pu.over,es]] at q;wp_walk using A.ins,eh,ep;exact q _ Kp.refl
   | don m i w =>
    simp only[Hap.vs,Hap.ini,Hap.w,List.cons_append,List.nil_append] at eh;rw[show S.over (.don m i w)=true by simp only[Pu.over,es]] at q;wp_walk using A.ins,eh,ep;exact q _ Kp.refl
   | ltr m k w =>
    simp only[Hap.vs,Hap.ini,Hap.w,List.cons_append,List.nil_append] at eh;rw[show S.over (.ltr m k w)=true by simp only[Pu.over,es]] at q;wp_walk using A.ins,eh,ep;exact q _ Kp.refl
  | wait ts =>
   have ZL:=A.slp;rw[es] at ZL;obtain⟨p,p2,rfl,ep,ep2⟩:=ZL;cases h with
   | beg m w =>
    simp only[Hap.vs,Hap.ini,Hap.w,List.cons_append,List.nil_append] at eh;rw[show S.over (.beg m w)=true by simp only[Pu.over,es]] at q;wp_walk using A.ins,eh,ep;refine fun p9 h9=>⟨rfl,by decide +kernel,?_⟩;rw[if_neg (by decide +kernel)];have N9:=q0D (o:=.tup [.str "ended",.str "worn"]) h9;wp_walk using N9.at eh;exact q _ N9
   | don m i w =>
    simp only[Hap.vs,Hap.ini,Hap.w,List.cons_append,List.nil_append] at eh;rw[show S.over (.don m i w) = !decide (i∈S.pend) by simp only[Pu.over,es]] at q;wp_walk using A.ins,eh,ep;refine fun p9 h9=>⟨rfl,by decide +kernel,?_⟩;rw[if_neg (by decide +kernel)];have N9:=q0D (o:=.tup [.str "ended",.str "worn"]) h9;have A9:=A.kp N9;have eh9:=N9.at eh;generalize Zs H p9 (.tup [.str "ended",.str "worn"])=G9 at *;wp_walk using A9.ins,A9.tk.ins,eh9;refine⟨R.tk,R.tx,R.dp,R.da,_,_,_,some i,rfl,A9.tk,?_⟩;wp_walk;rw[show decide (∃ j,j∈S.pend/\(some i:Wo)=some j)=decide (i∈S.pend) by simp];exact q _ N9
   | ltr m k0 w =>
    simp only[Hap.vs,Hap.ini,Hap.w,List.cons_append,List.nil_append] at eh;rw[show S.over (.ltr m k0 w)=false by simp only[Pu.over,es]] at q;wp_walk using A.ins,eh,ep;refine fun p9 h9=>⟨rfl,by decide +kernel,?_⟩;rw[if_neg (by decide +kernel)];have N9:=q0D (o:=.tup [.str "ended",.str "worn"]) h9;wp_walk using N9.at eh;exact q _ N9
  | ZA k =>
   have ZL:=A.slp;rw[es] at ZL;obtain⟨p,rfl,ep⟩:=ZL;cases h with
   | beg m w =>
    simp only[Hap.vs,Hap.ini,Hap.w,List.cons_append,List.nil_append] at eh;rw[show S.over (.beg m w)=true by simp only[Pu.over,es]] at q;wp_walk using A.ins,eh,ep;refine fun p9 h9=>⟨rfl,by decide +kernel,?_⟩;rw[if_neg (by decide +kernel)];have N9:=q0D (o:=.tup [.str "ended",.str "worn"]) h9;wp_walk using N9.at eh;exact q _ N9
   | don m i w =>
    simp only[Hap.vs,Hap.ini,Hap.w,List.cons_append,List.nil_append] at eh;rw[show S.over (.don m i w) = !decide (i∈S.pend) by simp only[Pu.over,es]] at q;wp_walk using A.ins,eh,ep;refine fun p9 h9=>⟨rfl,by decide +kernel,?_⟩;rw[if_neg (by decide +kernel)];have N9:=q0D (o:=.tup [.str "ended",.str "worn"]) h9;have A9:=A.kp N9;have eh9:=N9.at eh;generalize Zs H p9 (.tup [.str "ended",.str "worn"])=G9 at *;wp_walk using A9.ins,A9.tk.ins,eh9;refine⟨R.tk,R.tx,R.dp,R.da,_,_,_,some i,rfl,A9.tk,?_⟩;wp_walk;rw[show decide (∃ j,j∈S.pend/\(some i:Wo)=some j)=decide (i∈S.pend) by simp];exact q _ N9
   | ltr m k0 w =>
    simp only[Hap.vs,Hap.ini,Hap.w,List.cons_append,List.nil_append] at eh;rw[show S.over (.ltr m k0 w)=false by simp only[Pu.over,es]] at q;wp_walk using A.ins,eh,ep;refine fun p9 h9=>⟨rfl,by decide +kernel,?_⟩;rw[if_neg (by decide +kernel)];have N9:=q0D (o:=.tup [.str "ended",.str "worn"]) h9;wp_walk using N9.at eh;exact q _ N9
  | ended w =>
   have ZL:=A.slp;rw[es] at ZL;obtain⟨p,rfl,ep⟩:=ZL;have e0:∃(kd:Str) (xs:List V),H a=some (.tup (.str kd::xs)):=by cases h<;>exact⟨_,_,eh⟩
   obtain⟨kd,xs,e0⟩:=e0;rw[show S.over (h)=true by simp only[Pu.over,es]] at q;wp_walk using A.ins,e0,ep;refine fun p9 h9=>⟨rfl,by decide +kernel,?_⟩;rw[if_pos (by decide +kernel)];exact q _ (Kp.new h9)
  | worn =>
   have ZL:=A.slp;rw[es] at ZL;obtain⟨p,rfl,ep⟩:=ZL;have e0:∃(kd:Str) (xs:List V),H a=some (.tup (.str kd::xs)):=by cases h<;>exact⟨_,_,eh⟩
   obtain⟨kd,xs,e0⟩:=e0;rw[show S.over (h)=true by simp only[Pu.over,es]] at q;wp_walk using A.ins,e0,ep;refine fun p9 h9=>⟨rfl,by decide +kernel,?_⟩;rw[if_pos (by decide +kernel)];exact q _ (Kp.new h9)
theorem hZ{t:Ad}(T:Tx w K mg t):bG P w K mg base ZF 1 t.nS t.oG ["self"] (Be t.aW):=by
 refine T.D6.ok BO (fun vs H Q E h=>?_) (fun ZE A outer s H vs Q E hr h=>?_)
 ·obtain⟨wk,wx,lb,ln,k,n,b,r,rfl,_⟩:=h;rfl
 ·obtain⟨wk,wx,lb,ln,k,n,b,r,rfl,W,q⟩:=h;refine⟨_,(aI (O6 (aO T.cQ T.eV (pv 0)) (AD sC aE) WS aE Ht Mp)),?_⟩
  and_intros
  obtain⟨vs,eb,hB⟩:=W.bl;obtain⟨l,el,el2⟩:=vB k n b r;have en:=W.nu;rw[el] at en;have i2:iK ((l++[(n:Int)]).map V.int) (-1)=some (.int n):=by rw[List.map_append];exact nY _ _
  have i3:DH ((l++[(n:Int)]).map V.int).length (-1)=some l.length:=by
   unfold DH;simp;omega
  have i4:((l++[(n:Int)]).map V.int).set l.length (.int ((n:Int)+1))=(l++[((n+1:Nat):Int)]).map V.int:=by simp
  wp_walk using W.ins,en,i2,i3,i4;have n1:wk≠ln:=dW W.ins W.nu (by intro z;cases z);have K1:Kp [ln] H (Zs H ln (.lst ((l++[((n+1:Nat):Int)]).map V.int))):=Kp.qW;have T1:aK H (Zs H ln (.lst ((l++[((n+1:Nat):Int)]).map V.int))):=fun a xs e=>by rw[aG (dW e W.nu (by intro z;cases z))];exact e
  exact q _ ⟨by rw[aG n1];exact W.ins,⟨vs,by rw[aG W.ne];exact eb,(hB.kp T1).turn⟩,by rw[aA,el2],W.ne,W.few⟩ K1
theorem fX{t:Ad}(T:Tx w K mg t):bG P w K mg base ZF 1 t.lF t.lH ["self"] (GC t.aW):=by
 refine T.BD.ok xD (fun vs H Q E h=>?_) (fun ZE A outer s H vs Q E hr h=>?_)
 ·obtain⟨wk,wx,lb,ln,k,n,b,r,m,rfl,_⟩:=h;rfl
 ·obtain⟨wk,wx,lb,ln,k,n,b,r,m,rfl,W,hm,q⟩:=h;refine⟨_,(aI (aP (aY bJ (aY bJ (aO T.cQ T.iI (pv 0)) (AD sC aE) (fun _ _=>rfl)) (aY bJ (aO T.cQ T.eV (pv 0)) (AD sC aE) (fun _ _=>rfl)) (fun _ _=>rfl)))),?_⟩
  and_intros
  obtain⟨vs,eb,hB⟩:=W.bl;obtain⟨ws,p,us,rfl,ep,hU,_,_⟩:=hB.last;obtain⟨l,el,_⟩:=vB k n b r;have en:=W.nu;rw[el] at en;have hn:n < us.length:=by
   have:=(List.getElem?_eq_some_iff.mp hm).1;have:=hU.len;omega
  obtain⟨m',hm',hM⟩:=hU.at (List.getElem?_eq_getElem hn);rw[hm] at hm';cases hm';have i1:iK (ws++[V.ref p]) (-1)=some (.ref p):=nY _ _;have i2:iK ((l++[(n:Int)]).map V.int) (-1)=some (.int n):=by rw[List.map_append];exact nY _ _
  have i3:iK us (n:Int)=some us[n]:=kW (List.getElem?_eq_getElem hn);wp_walk using W.ins,eb,en,i1,i2,ep,i3;exact q _ hM
theorem Dj{t:Ad}(T:Tx w K mg t):bG P w K mg base ZF 2 t.qY t.rD ["self"] (JB t.aW):=by
 refine T.Fu.ok Dw (fun vs H Q E h=>?_) (fun ZE A outer s H vs Q E hr h=>?_)
 ·obtain⟨wk,wx,lb,ln,k,n,b,x,r,m,rfl,_⟩:=h;rfl
 ·obtain⟨wk,wx,lb,ln,k,n,b,⟨kx,bx,nx⟩,r,m,rfl,W,hm,q⟩:=h;refine⟨_,(aC (bM (Dq (aO T.cQ T.iI (pv 0))))
   (aC (bM (Dq (aO T.cQ T.eV (pv 0))))
   (aC (bM (Dq (aO T.cQ T.eV (pv 0))))
   (aI (bI (aQ cN (aY bJ (cC (pv 0) T.cQ T.gS (fX T) (hr.mono (by omega)) T.hW .nil pass0) aE (fun _ _=>rfl)) aS (nomark _)) (aI (bM (cC (pv 0) T.cQ T.jH (hZ T) (hr.mono (by omega)) T.kX .nil pass0))) aZ))))),?_⟩
  and_intros
  obtain⟨vs,eb,hB⟩:=W.bl;have n1:wk≠ln:=dW W.ins W.nu (by intro z;cases z);have n2:wk≠lb:=dW W.ins eb (by intro z;cases z);obtain⟨ws,p,us,rfl,ep,hU,hBr,_⟩:=hB.last;have hB2:=hBr (by simp);have nu0:H ln=some (.lst (((bY ((k,b,n)::r)).map V.int++[.int kx])++[.int nx])):=by rw[W.nu,vC];simp
  have few:=W.few;simp only[List.length_cons] at few;refine aF fun R1 Zx=>?_;wp_walk using W.ins,eb,uT,List.dropLast_concat;have T1:=aK.fJ (ys:=ws) eb;have i1:Zs H lb (.lst ws) wk=some (.ins t.aW wx [("blocks",.ref lb),("numbers",.ref ln)]):=by rw[aG n2];exact W.ins
  have i2:Zs H lb (.lst ws) ln=some (.lst (((bY ((k,b,n)::r)).map V.int++[.int kx])++[.int nx])):=by rw[aG W.ne.symm];exact nu0
  have i3:Zs H lb (.lst ws) lb=some (.lst ws):=aA;have K1:Kp [lb] H (Zs H lb (.lst ws)):=Kp.qW;have B1:=hB2.kp T1;generalize Zs H lb (.lst ws)=G at *;refine Zx _ _ ?_;clear Zx;clear R1;refine aF fun R2 Zy=>?_;wp_walk using i1,i2,uT,List.dropLast_concat;have T2:=aK.fJ (ys:=(bY ((k,b,n)::r)).map V.int++[.int kx]) i2;have j1:Zs G ln (.lst ((bY ((k,b,n)::r)).map V.int++[.int kx])) wk=some (.ins t.aW wx [("blocks",.ref lb),("numbers",.ref ln)]):=by rw[aG n1];exact i1
  have j2:Zs G ln (.lst ((bY ((k,b,n)::r)).map V.int++[.int kx])) ln=some (.lst ((bY ((k,b,n)::r)).map V.int++[.int kx])):=aA;have j3:Zs G ln (.lst ((bY ((k,b,n)::r)).map V.int++[.int kx])) lb=some (.lst ws):=by rw[aG W.ne];exact i3
  have K2:Kp [ln] G (Zs G ln (.lst ((bY ((k,b,n)::r)).map V.int++[.int kx]))):=Kp.qW;have B2:=B1.kp T2;generalize Zs G ln (.lst ((bY ((k,b,n)::r)).map V.int++[.int kx]))=G2 at *;refine Zy _ _ ?_;clear Zy;clear R2;refine aF fun R3 ZI=>?_;wp_walk using j1,j2,uT,List.dropLast_concat;have T3:=aK.fJ (ys:=(bY ((k,b,n)::r)).map V.int) j2;have W3:iL t.aW (Zs G2 ln (.lst ((bY ((k,b,n)::r)).map V.int))) wk wx lb ln ((k,b,n)::r):=⟨by rw[aG n1];exact j1,⟨ws,by rw[aG W.ne];exact j3,B2.kp T3⟩,aA,W.ne,by simp only[List.length_cons];omega⟩;have K3:Kp [ln] G2 (Zs G2 ln (.lst ((bY ((k,b,n)::r)).map V.int))):=Kp.qW;generalize Zs G2 ln (.lst ((bY ((k,b,n)::r)).map V.int))=G3 at *;refine ZI _ _ ?_;clear ZI;clear R3;have K13:Kp [lb,ln] H G3:=((K1.mono (by simp)).trans (K2.mono (by simp))).trans (K3.mono (by simp));wp_walk using W3.ins;refine⟨wk,wx,lb,ln,k,n,b,r,m,rfl,W3,hm,fun v hv=>?_⟩;obtain⟨a,kd,xs,rfl,ea,hk⟩:=hv.WZ;wp_walk using ea;by_cases hi:m.IJ=true
  ·rw[hi] at hk q;have hkd:kd = "if":=by simpa using hk
   subst hkd;wp_walk using W3.ins;exact⟨wk,wx,lb,ln,k,n,b,r,rfl,W3,fun H4 W4 K4=>q H4 W4 (K13.trans (K4.mono (by simp)))⟩
  ·have hi':m.IJ=false:=by simpa using hi
   rw[hi'] at hk q;have hkd:(kd = "if")=False:=by simpa using hk
   wp_walk using hkd;exact q G3 W3 K13
theorem BK{t:Ad}(T:Tx w K mg t):bG P w K mg base ZF 3 t.nR t.oF ["self"] (MA t.aW):=by
 refine T.D5.ok BN (fun vs H Q E h=>?_) (fun ZE A outer s H vs Q E hr h=>?_)
 ·obtain⟨wk,wx,lb,ln,st,rfl,_⟩:=h;rfl
 ·obtain⟨wk,wx,lb,ln,st,rfl,W0,ok0,q0,q1⟩:=h;refine⟨_,(aC (EJ PassesOwn.never (aQ cN (aY bJ (aO T.cQ T.eV (pv 0)) (AD sC aE) (fun _ _=>rfl)) (cO uE rfl T.DG rB (aD (aY bJ (aO T.cQ T.iI (pv 0)) (AD sC aE) (fun _ _=>rfl)) aB)) (nomark _)) (aC (bI (aQ cN (cO uE rfl T.DG rB (aD (aO T.cQ T.iI (pv 0)) aB)) aE (nomark _)) (aI (aP dJ)) aZ)
   (aI (bM (cC (pv 0) T.cQ T.Ep (Dj T) (hr.mono (by omega)) T.Fc .nil pass0)))))
   (aI (aP (cC (pv 0) T.cQ T.gS (fX T) (hr.mono (by omega)) T.hW .nil pass0)))),?_⟩
  and_intros
  obtain⟨Y,hV⟩:∃ Y:Nat->St->Hp->Prop,∀ m σ G,Y m σ G = ∃ st':Stk,σ=[some (.ref wk)]/\iL t.aW G wk wx lb ln st'/\BQ st'/\cZ st'=cZ st/\m=st'.length/\Kp [lb,ln] H G:=⟨_,fun _ _ _=>rfl⟩
  try simp only[L2.start,List.map_cons,List.map_nil,List.length_cons,List.length_nil,Nat.reduceAdd,Nat.reduceSub,List.replicate_zero,List.append_nil]
  refine⟨Y,⟨st.length,?_⟩,?_⟩
  ·rw[hV];exact⟨st,rfl,W0,ok0,rfl,rfl,Kp.refl⟩
  intro m σ G hG;rw[hV] at hG;obtain⟨st',rfl,W,ok,hct,rfl,KG⟩:=hG;have back:∀(st2:Stk) (G2:Hp),iL t.aW G2 wk wx lb ln st2->BQ st2->cZ st2=cZ st->st2.length < st'.length->Kp [lb,ln] H G2->∃ m',m' < st'.length/\Y m' [some (.ref wk)] G2:=fun st2 G2 a b c d e=>by
   refine⟨st2.length,d,?_⟩;rw[hV];exact⟨st2,rfl,a,b,c,rfl,e⟩
  clear hV
  match st',ok with
  | (k,b,n)::r,ok =>
   obtain⟨vs,eb,hB⟩:=W.bl;obtain⟨ws,p,us,rfl,ep,hU,hBr,hBn⟩:=hB.last;obtain⟨l,el,_⟩:=vB k n b r;have en:=W.nu;rw[el] at en;have i1:iK (ws++[V.ref p]) (-1)=some (.ref p):=nY _ _;have i2:iK ((l++[(n:Int)]).map V.int) (-1)=some (.int n):=by rw[List.map_append];exact nY _ _
   have lu:=hU.len;have lw:=hB.len;wp_walk using W.ins,eb,en,i1,i2,ep;by_cases hn:n=b.length
   ·rw[if_pos (by omega)];wp_walk using W.ins,eb,en;refine⟨fun σ' G'=>∃ m',m' < r.length+1/\Y m' σ' G',fun _ _ z=>z,?_⟩
    match r,ok,W,hct,back,hBn,lw with
    | [],ok,W,hct,back,hBn,lw =>
     have e0:cZ st=[(k,b,n)]:=by rw[<- hct];simp[cZ]
     rw[if_pos (by have:=lw.1;simp only[List.length_cons,List.length_nil] at this;omega)];exact q0 G (by rw[e0];exact W) (by rw[e0];exact ok) (by rw[e0];simp[cI,hn]) KG
    | (k2,b2,n2)::r,ok,W,hct,back,hBn,lw =>
     rw[if_neg (by have:=lw.1;simp only[List.length_cons] at this;omega)];have h2:n2 < b2.length:=ok.2 (k2,b2,n2) (by simp);have hm:b2[n2]?=some b2[n2]:=List.getElem?_eq_getElem h2;have ho:An b2 n2=if (b2[n2]).IJ=true then n2+1 else n2:=by unfold An;rw[hm]
     refine⟨wk,wx,lb,ln,k2,n2,b2,(k,b,n),r,b2[n2],rfl,W,hm,fun H' W' K'=>?_⟩;rw[<- ho] at W';refine back _ H' W' ⟨EB h2,fun x hx=>ok.2 x (List.mem_cons_of_mem _ hx)⟩ ?_ (by simp) (Kp.trans KG K');rw[<- hct]
     conv=>rhs;rw[cZ]
     rw[if_pos hn]
   ·rw[if_neg (by omega)];have h2:n < b.length:=by have:=ok.1;omega
    have hm:b[n]?=some b[n]:=List.getElem?_eq_getElem h2;have e0:cZ st=(k,b,n)::r:=by
     rw[<- hct];cases r with
     | nil=>simp[cZ]
     | cons x r=>obtain⟨k2,b2,n2⟩:=x;simp[cZ,hn]
    exact⟨wk,wx,lb,ln,k,n,b,r,b[n],rfl,W,hm,fun v hv=>q1 b[n] v G (by rw[e0];exact W) (by rw[e0];exact ok) (by rw[e0];exact hm) hv KG⟩
theorem k5{t:Ad}(T:Tx w K mg t):bG P w K mg base ZF 1 t.iN t.iP ["self"] (Pt t.aL):=by
 refine T.wY.ok tS (fun vs H Q E h=>?_) (fun ZE A outer s H vs Q E hr h=>?_)
 ·obtain⟨tk,tx,dp,da,made,pend,ans,rfl,_⟩:=h;rfl
 ·obtain⟨tk,tx,dp,da,made,pend,ans,rfl,R,q⟩:=h;refine⟨_,(aI (bM (Ji (aO T.bD T.gH (pv 0))))),?_⟩
  and_intros
  wp_walk using R.ins,R.hp;have n1:=R.n1;exact q _ ⟨by rw[aG n1.1];exact R.ins,aA,by rw[aG R.nda.symm];exact R.ha,R.nda,by simp,.nil,R.la,by simp,R.small⟩ Kp.qW
theorem Cg{t:Ad}(T:Tx w K mg t):bG P w K mg base ZF 2 t.Cv t.CM ["self","worth"] (Uy ⟨t.aV,t.aW,t.aL⟩):=by
 refine T.OB.ok Js (fun vs H Q E h=>?_) (fun ZE A outer s H vs Q E hr h=>?_)
 ·obtain⟨R,as,sl,S,w,rfl,_⟩:=h;rfl
 ·obtain⟨R,as,sl,S,w,rfl,A,q⟩:=h;refine⟨_,(aC (dA T.aX T.dF (pv 0) (bC (aD aS (aD (pv 1) aB))))
   (aC (bM (cC (aO T.aX T.cJ (pv 0)) T.bD T.lW (k5 T) (hr.mono (by omega)) T.nD .nil pass0))
   (aI (aP (bX (aD (bC (aD aS (aD (pv 1) aB))) aB)))))),?_⟩
  and_intros
  refine aF fun R1 Zx=>?_;wp_walk using A.ins;refine fun p hp=>?_;have N1:=q0D (o:=.tup [.str "ended",wv w]) hp;have e1:Zs H p (.tup [.str "ended",wv w]) p=some (.tup [.str "ended",wv w]):=aA;have A1:=A.kp N1;wp_walk using N1.at A.ins;have A2:=A1.attr (.ref p) (.ended w) S.ar S.nw ⟨p,rfl,e1⟩;have F2:=(Fw.of (R:=R) (as:=as) N1).trans (Fw.set (p:=R.x) (o:=(.ins t.aV R.dx [("walk",.ref R.wk),("sleep",.ref p),("arg",wv S.ar),("now",.int S.nw),("names",.ref R.nm),("tickets",.ref R.tk),("letters",.ref R.lt)])) (.inl (by simp[Rn.cells])));generalize Zs (Zs H p (.tup [.str "ended",wv w])) R.x (.ins t.aV R.dx [("walk",.ref R.wk),("sleep",.ref p),("arg",wv S.ar),("now",.int S.nw),("names",.ref R.nm),("tickets",.ref R.tk),("letters",.ref R.lt)])=G2 at *;refine Zx _ _ ?_;clear Zx;clear R1;refine aF fun R2 Zy=>?_;wp_walk using A2.ins,A2.tk.ins;refine⟨R.tk,R.tx,R.dp,R.da,_,_,_,rfl,A2.tk,fun H3 T3 K3=>?_⟩;have K4:Kp [R.tk,R.dp,R.da] G2 H3:=K3.mono (by simp;try omega)
  have A3:=A2.tick T3 K4;have F3:=F2.trans (A2.Ea T3 K4);wp_walk;refine Zy _ _ ?_;clear Zy;clear R2;wp_walk;refine fun p3 h3 c h4=>?_;have N3:=(q0D (o:=.tup [.str "end",wv w]) h3).trans (Kp.new (o:=.lst [.ref p3]) h4);exact q _ c [.ref p3] _ (A3.kp N3) (F3.free (cX h4)) aA (.cons ((q0D h4).at aA) .nil) (F3.trans (Fw.of N3))
theorem BJ{t:Ad}(T:Tx w K mg t):bG P w K mg base ZF 2 t.nQ t.oE ["self"] (UG ⟨t.aV,t.aW,t.aL⟩):=by
 refine T.D4.ok BM (fun vs H Q E h=>?_) (fun ZE A outer s H vs Q E hr h=>?_)
 ·obtain⟨R,as,sl,S,rfl,_⟩:=h;rfl
 ·obtain⟨R,as,sl,S,rfl,A,q⟩:=h;refine⟨_,(aC (dA T.aX T.dF (pv 0) (bC (aD aS aB)))
   (aC (bM (cC (aO T.aX T.cJ (pv 0)) T.bD T.lW (k5 T) (hr.mono (by omega)) T.nD .nil pass0))
   (aI (aP (bX (aD (bC (aD aS aB)) aB)))))),?_⟩
  and_intros
  refine aF fun R1 Zx=>?_;wp_walk using A.ins;refine fun p hp=>?_;have N1:=q0D (o:=.tup [.str "worn"]) hp;have e1:Zs H p (.tup [.str "worn"]) p=some (.tup [.str "worn"]):=aA;have A1:=A.kp N1;wp_walk using N1.at A.ins;have A2:=A1.attr (.ref p) (.worn) S.ar S.nw ⟨p,rfl,e1⟩;have F2:=(Fw.of (R:=R) (as:=as) N1).trans (Fw.set (p:=R.x) (o:=(.ins t.aV R.dx [("walk",.ref R.wk),("sleep",.ref p),("arg",wv S.ar),("now",.int S.nw),("names",.ref R.nm),("tickets",.ref R.tk),("letters",.ref R.lt)])) (.inl (by simp[Rn.cells])));generalize Zs (Zs H p (.tup [.str "worn"])) R.x (.ins t.aV R.dx [("walk",.ref R.wk),("sleep",.ref p),("arg",wv S.ar),("now",.int S.nw),("names",.ref R.nm),("tickets",.ref R.tk),("letters",.ref R.lt)])=G2 at *;refine Zx _ _ ?_;clear Zx;clear R1;refine aF fun R2 Zy=>?_;wp_walk using A2.ins,A2.tk.ins;refine⟨R.tk,R.tx,R.dp,R.da,_,_,_,rfl,A2.tk,fun H3 T3 K3=>?_⟩;have K4:Kp [R.tk,R.dp,R.da] G2 H3:=K3.mono (by simp;try omega)
  have A3:=A2.tick T3 K4;have F3:=F2.trans (A2.Ea T3 K4);wp_walk;refine Zy _ _ ?_;clear Zy;clear R2;wp_walk;refine fun p3 h3 c h4=>?_;have N3:=(q0D (o:=.tup [.str "worn"]) h3).trans (Kp.new (o:=.lst [.ref p3]) h4);exact q _ c [.ref p3] _ (A3.kp N3) (F3.free (cX h4)) aA (.cons ((q0D h4).at aA) .nil) (F3.trans (Fw.of N3))
theorem oY{t:Ad}(T:Tx w K mg t):bG P w K mg base ZF 1 t.uA t.uM ["worth"] Qt:=by
 refine T.pX.ok ET (fun vs H Q E h=>?_) (fun ZE A outer s H vs Q E hr h=>?_)
 ·obtain⟨w,rfl,_⟩:=h;rfl
 ·obtain⟨w,rfl,q⟩:=h;refine⟨_,(aI (aP (pE (aQ rO (pv 0) dJ (nomark _)) aE (pv 0)))),?_⟩
  and_intros
  wp_walk using GN;cases w with
  | none=>exact q
  | some n=>exact q
theorem xV{t:Ad}(T:Tx w K mg t):bG P w K mg base ZF 1 t.JO t.Kn ["number"] Mw:=by
 refine T.D9.ok Pc (fun vs H Q E h=>?_) (fun ZE A outer s H vs Q E hr h=>?_)
 ·obtain⟨n,rfl,_⟩:=h;rfl
 ·obtain⟨n,rfl,q⟩:=h;refine⟨_,(aI (aP (cO (uF rfl) rfl T.MU Fe (aD (AD sC (tO (v:=.int 1000000000) rfl T.n9 ⟨_,rfl⟩)) (aD (cO (BY rfl) rfl T.PR JT (aD (tO (v:=.int 1000000000) rfl T.n9 ⟨_,rfl⟩) (aD (pv 0) aB))) aB))))),?_⟩
  and_intros
  wp_walk;exact q
theorem kF{t:Ad}(T:Tx w K mg t):bG P w K mg base ZF 1 t.mE t.mL ["truth"] Qu:=by
 refine T.jC.ok A7 (fun vs H Q E h=>?_) (fun ZE A outer s H vs Q E hr h=>?_)
 ·obtain⟨b,rfl,_⟩:=h;rfl
 ·obtain⟨b,rfl,q⟩:=h;refine⟨_,(aI (aP (pE (AI (pv 0)) aE aE))),?_⟩
  and_intros
  wp_walk;cases b<;>exact q
theorem Je{t:Ad}(T:Tx w K mg t):bG P w K mg base ZF 2 t.Cz t.CT ["sign","one","other"] Mv:=by
 refine T.Hk.ok vZ (fun vs H Q E h=>?_) (fun ZE A outer s H vs Q E hr h=>?_)
 ·obtain⟨g,a,b,rfl,_⟩:=h;rfl
 ·obtain⟨g,a,b,rfl,ha,q⟩:=h;refine⟨_,(aC (bI (aQ cN (pv 0) aS (nomark _)) (aI (aP (aN (kF T) (hr.mono (by omega)) rfl T.mR T.jC.kp T.mG .nil pass0 (aD (iA cN (pv 1) (pv 2) (nomark _)) aB)))) aZ)
   (aC (bB (i:=3) vZ.nd rfl (Or.inl rfl) (aN (oY T) (hr.mono (by omega)) rfl T.uZ T.pX.kp T.uD .nil pass0 (aD (pv 1) aB)))
   (aC (bB (i:=4) vZ.nd rfl (Or.inl rfl) (aN (oY T) (hr.mono (by omega)) rfl T.uZ T.pX.kp T.uD .nil pass0 (aD (pv 2) aB)))
   (aC (bI (aQ cN (pv 0) aS (nomark _)) (aI (aP (aN (kF T) (hr.mono (by omega)) rfl T.mR T.jC.kp T.mG .nil pass0 (aD (iA k9 (pv 3) (pv 4) (nomark _)) aB)))) aZ)
   (aC (bI (aQ cN (pv 0) aS (nomark _)) (aI (aP (aN (xV T) (hr.mono (by omega)) rfl T.Hy T.D9.kp T.GS .nil pass0 (aD (bU eL (pv 3) (pv 4)) aB)))) aZ)
   (aC (bI (aQ cN (pv 0) aS (nomark _)) (aI (aP (aN (xV T) (hr.mono (by omega)) rfl T.Hy T.D9.kp T.GS .nil pass0 (aD (bU pC (pv 3) (pv 4)) aB)))) aZ)
   (aI (aP (aN (xV T) (hr.mono (by omega)) rfl T.Hy T.D9.kp T.GS .nil pass0 (aD (bU Gf (pv 3) (pv 4)) aB)))))))))),?_⟩
  and_intros
  have b1:=LJ ha;cases g with
  | eq =>
   wp_walk using Sg.s;cases a with
   | none=>cases b with
    | none=>simpa[EM,scal,wv,EL,Sg.of] using q
    | some n=>simpa[EM,scal,wv,EL,Sg.of] using q
   | some m=>cases b with
    | none=>simpa[EM,scal,wv,EL,Sg.of] using q
    | some n=>simpa[EM,scal,wv,EL,Sg.of] using q
  | lt =>
   wp_walk using Sg.s,decide_eq_true_eq;exact q
  | add =>
   wp_walk using Sg.s;exact q
  | sub =>
   wp_walk using Sg.s;exact q
  | mul =>
   wp_walk using Sg.s;exact⟨LV (by omega) (by omega),q⟩
theorem GD{t:Ad}(T:Tx w K mg t){n d:Nat}(hn:3<=n)(IH:bG P w K mg base ZF n t.nZ t.oK ["saying","names","arg","now","answers"] (UH d)):bG P w K mg base ZF (n+1) t.nZ t.oK ["saying","names","arg","now","answers"] (UH (d+1)):=by
  refine T.sW.ok nB (fun vs H Q E h=>?_) (fun ZE A outer s H vs Q E hr h=>?_)
  · obtain⟨v,dn,da,p,s,rfl,_⟩:=h;rfl
  · obtain⟨v,dn,da,p,s,rfl,hS,hd,Zw,hN,hA,hP,q⟩:=h;have hu:=oQ hr;refine⟨_,(aC (bB (i:=5) nB.nd rfl (Or.inl rfl) (aY bJ (pv 0) aE (fun _ _=>rfl)))
      (aC (bI (aQ cN (pv 5) aS (nomark _)) (aI (aP (aY bJ (pv 0) aE (fun _ _=>rfl)))) aZ)
      (aC (bI (aQ cN (pv 5) aS (nomark _)) (aI (aP dJ)) aZ)
      (aC (bI (aQ cN (pv 5) aS (nomark _)) (aI (aP (HE hu (pv 1) (aY bJ (pv 0) aE (fun _ _=>rfl)) ⟨rfl,rfl,rfl,rfl⟩))) aZ)
      (aC (bI (aQ cN (pv 5) aS (nomark _)) (aI (aP (pv 2))) aZ)
      (aC (bI (aQ cN (pv 5) aS (nomark _)) (aI (aP (aN (xV T) (hr.mono (by omega)) rfl T.Hy T.D9.kp T.GS .nil pass0 (aD (pv 3) aB)))) aZ)
      (aC (bB (i:=6) nB.nd rfl (Or.inl rfl) (aN IH (hr.mono (by omega)) rfl T.Ai T.sW.kp T.yQ .nil pass0 (aD (aY bJ (pv 0) aE (fun _ _=>rfl)) (aD (pv 1) (aD (pv 2) (aD (pv 3) (aD (pv 4) aB)))))))
      (aC (bI (aQ cN (pv 5) aS (nomark _)) (aI (aP (HE hu (pv 4) (pv 6) ⟨rfl,rfl,rfl,rfl⟩))) aZ)
      (aC (bI (aQ cN (pv 5) aS (nomark _)) (aI (aP (aN (kF T) (hr.mono (by omega)) rfl T.mR T.jC.kp T.mG .nil pass0 (aD (iA cN (aN (oY T) (hr.mono (by omega)) rfl T.uZ T.pX.kp T.uD .nil pass0 (aD (pv 6) aB)) aE (nomark _)) aB)))) aZ)
      (aC (bB (i:=7) nB.nd rfl (Or.inl rfl) (aN IH (hr.mono (by omega)) rfl T.Ai T.sW.kp T.yQ .nil pass0 (aD (aY bJ (pv 0) aE (fun _ _=>rfl)) (aD (pv 1) (aD (pv 2) (aD (pv 3) (aD (pv 4) aB)))))))
      (aI (aP (aN (Je T) (hr.mono (by omega)) rfl T.OO T.Hk.kp T.Nc .nil pass0 (aD (pv 5) (aD (pv 6) (aD (pv 7) aB)))))))))))))))),?_⟩
    and_intros
    cases hS with
    | num e =>
      wp_walk using e;exact q
    | Zu e =>
      wp_walk using e;exact q
    | name e =>
      obtain⟨kvs,ek,hk⟩:=hN;wp_walk using e,ek,hk;exact q
    | arg e =>
      wp_walk using e;exact q
    | now e =>
      wp_walk using e;exact q
    | ans e h1 =>
      wp_walk using e;simp only[Say.depth] at hd;refine⟨_,_,_,p,_,rfl,h1,by omega,Zw,hN,hA,hP,?_⟩;obtain⟨kvs,ek,hk⟩:=hA;wp_walk using e,ek,hk;exact q
    | neg e h1 =>
      wp_walk using e;simp only[Say.depth] at hd;refine⟨_,_,_,p,_,rfl,h1,by omega,Zw,hN,hA,hP,?_⟩;wp_walk using e,decide_eq_true_eq;exact q
    | @two a v u g s1 s2 e h1 h2 =>
      simp only[Say.depth] at hd;cases g <;>
      ( wp_walk using e,Sg.s
        refine⟨_,_,_,p,_,rfl,h1,by omega,Zw.1,hN,hA,hP,?_⟩;wp_walk using e,Sg.s;refine⟨_,_,_,p,_,rfl,h2,by omega,Zw.2,hN,hA,hP,?_⟩;wp_walk using e,Sg.s;exact⟨_,_,_,rfl,Qb hP Zw.1,q⟩)
theorem Gb{t:Ad}(T:Tx w K mg t):∀ d,bG P w K mg base ZF (d+3) t.nZ t.oK ["saying","names","arg","now","answers"] (UH d):=by
 intro d
 induction d with
 | zero=>exact⟨fun _ _ _ _ x=>by (obtain⟨_,_,_,_,s,_,_,h,_⟩:=x;exact absurd h (by have:=s.B0;omega)),fun _ _ _ _ _ _ _ _ _ _ _ _ _ x=>by (obtain⟨_,_,_,_,s,_,_,h,_⟩:=x;exact absurd h (by have:=s.B0;omega))⟩
 | succ d ih=>exact GD T (by omega) ih
theorem dM{t:Ad}(T:Tx w K mg t):bG P w K mg base ZF 10 t.t9 t.uK ["self","saying"] (MB ⟨t.aV,t.aW,t.aL⟩):=by
 refine T.Iy.ok EO (fun vs H Q E h=>?_) (fun ZE A outer s H vs Q E hr h=>?_)
 ·obtain⟨R,as,sl,S,v,s,rfl,_⟩:=h;rfl
 ·obtain⟨R,as,sl,S,v,s,rfl,A,ok,hS,so,q⟩:=h;refine⟨_,(aI (aP (aN (Gb T 6) (hr.mono (by omega)) rfl T.Ai T.sW.kp T.yQ .nil pass0 (aD (pv 1) (aD (aO T.aX T.fW (pv 0)) (aD (aO T.aX T.Ce (pv 0)) (aD (aO T.aX T.tG (pv 0)) (aD (aO T.bD T.gF (aO T.aX T.cJ (pv 0))) aB)))))))),?_⟩
  and_intros
  wp_walk using A.ins,A.tk.ins;exact⟨v,R.nm,R.da,S.pl,s,rfl,hS,so.2,so.1,⟨_,A.nm,xT S.nm⟩,⟨_,A.tk.ha,yI S.ans⟩,ok,q⟩
theorem tJ{t:Ad}(T:Tx w K mg t):bG P w K mg base ZF 2 t.qX t.rC ["self","which"] (Cm t.aW):=by
 refine T.Ft.ok Dv (fun vs H Q E h=>?_) (fun ZE A outer s H vs Q E hr h=>?_)
 ·obtain⟨wk,wx,lb,ln,k,n,c,b,bb,r,m,rfl,_⟩:=h;rfl
 ·obtain⟨wk,wx,lb,ln,k,n,c,b,bb,r,m,rfl,W,hm,hs,acB,q⟩:=h;refine⟨_,(aC (bM (jJ (aO T.cQ T.iI (pv 0)) (aY bJ (cC (pv 0) T.cQ T.gS (fX T) (hr.mono (by omega)) T.hW .nil pass0) (bU eL aE (pv 1)) (fun _ _=>rfl))))
   (aI (bM (EH PySem.F.slot_list_extend PySem.F.type_list_extend xR (aO T.cQ T.eV (pv 0)) (aD (bX (aD (pv 1) (aD aE aB))) aB))))),?_⟩
  and_intros
  obtain⟨vs,eb,hB⟩:=W.bl;have n1:wk≠ln:=dW W.ins W.nu (by intro z;cases z);have n2:wk≠lb:=dW W.ins eb (by intro z;cases z);have lv:=hB.len;wp_walk using W.ins,eb;refine⟨wk,wx,lb,ln,k,n,b,r,m,rfl,W,hm,fun v hv=>?_⟩;obtain⟨a,p,xs,us,rfl,ea,hat,ep,hU⟩:=hv.subAt hs;wp_walk using ea,hat,eb;have lf:=W.few;simp only[List.length_cons] at lv lf;refine⟨by omega,?_⟩;have T1:=aK.fJ (ys:=vs++[V.ref p]) eb;have i1:Zs H lb (.lst (vs++[.ref p])) wk=some (.ins t.aW wx [("blocks",.ref lb),("numbers",.ref ln)]):=by rw[aG n2];exact W.ins
  have i2:Zs H lb (.lst (vs++[.ref p])) ln=some (.lst ((bY ((k,b,n)::r)).map V.int)):=by rw[aG W.ne.symm];exact W.nu
  have i3:Zs H lb (.lst (vs++[.ref p])) lb=some (.lst (vs++[.ref p])):=aA;have K1:Kp [lb] H (Zs H lb (.lst (vs++[.ref p]))):=Kp.qW;have B1:=hB.kp T1;have U1:=hU.kp T1;have p1:=T1 _ _ ep;generalize Zs H lb (.lst (vs++[.ref p]))=G at *;wp_walk using i1,i2;refine fun l0 f0=>?_;have N0:=q0D (o:=.lst [.int c,.int 0]) f0;wp_walk using N0.at i2,List.length_map;have ll:=EA ((k,b,n)::r);simp only[List.length_cons] at ll;refine⟨by omega,?_⟩;have nl0:ln≠l0:=aJ i2 f0;have nb0:lb≠l0:=aJ i3 f0;have nw0:wk≠l0:=aJ i1 f0;have T2:aK G (Zs (Zs G l0 (.lst [.int c,.int 0])) ln (.lst ((bY ((k,b,n)::r)).map V.int++[.int c,.int 0]))):=(aK.nil N0).tr (aK.fJ (N0.at i2));refine q _ ⟨by rw[aG n1,aG nw0];exact i1,⟨_,by rw[aG W.ne,aG nb0];exact i3,.cons (B1.kp T2) (T2 _ _ p1) (U1.kp T2)⟩,by rw[aA,vC];simp,W.ne,by simp only[List.length_cons];omega⟩ ?_;intro d o ed nd;simp only[List.mem_cons,List.not_mem_nil,or_false,not_or] at nd;have g1:=K1.at1 ed nd.1;rw[aG nd.2,aG (aJ g1 f0)];exact g1
theorem FY{t:Ad}(T:Tx w K mg t):bG P w K mg base ZF 11 t.yC t.yX ["self","statement"] (Pj ⟨t.aV,t.aW,t.aL⟩ true):=by
 refine T.Lq.ok Gp (fun vs H Q E h=>?_) (fun ZE A outer s H vs Q E hr h=>?_)
 ·obtain⟨R,as,sl,S,a,m,N,rfl,_⟩:=h;rfl
 ·obtain⟨R,as,sl,S,a,m,N,rfl,A,hs,hB,F,g,Z1,q⟩:=h;refine⟨_,(aI (bI (aQ Ci (bL (pv 0) T.aX T.eK (dM T) (hr.mono (by omega)) T.fG .nil pass0 (aD (aY bJ (pv 1) aE (fun _ _=>rfl)) aB)) (bC (aD dJ (aD aE aB))) (by with_unfolding_all rfl)) (aI (bM (bL (aO T.aX T.kE (pv 0)) T.cQ T.wH (tJ T) (hr.mono (by omega)) T.yM .nil pass0 (aD aE aB)))) (aI (bI (aQ cN (aY bJ (pv 1) aE (fun _ _=>rfl)) aS (nomark _)) (aI (bM (bL (aO T.aX T.kE (pv 0)) T.cQ T.wH (tJ T) (hr.mono (by omega)) T.yM .nil pass0 (aD aE aB)))) (aI (bM (cC (aO T.aX T.kE (pv 0)) T.cQ T.jH (hZ T) (hr.mono (by omega)) T.kX .nil pass0))))))),?_⟩
  and_intros
  obtain⟨k0,b0,n0,r0,est,hm0⟩:=gE Z1;have d0:=F.sk.dp;rw[est] at d0;have acB:r0.length<=90:=by have:=d0.1;omega
  have enter:∀(G:Hp) (_:bA ⟨t.aV,t.aW,t.aL⟩ G R as sl S) (_:Fw R as as H G) (c:Nat) (bb:List Stm),m.sub c=some bb->(∀ H',bA ⟨t.aV,t.aW,t.aL⟩ H' R as sl (S.enter c bb)->Fw R as as H H'->Q .Zu H')->Cm t.aW [.ref R.wk,.int (c:Int)] G (fun _ H1=>Q .Zu H1) E0:=fun G A FG c bb aa3 q=>by
   have W:=A.wk;rw[est] at W;refine⟨R.wk,R.wx,R.lb,R.ln,k0,n0,c,b0,bb,r0,m,rfl,W,hm0,aa3,acB,fun H1 W1 K1=>?_⟩;rw[<- est] at W1;exact q H1 (A.walk W1 K1) (FG.trans (A.zT W1 K1))
  have pass:∀(G:Hp) (_:bA ⟨t.aV,t.aW,t.aL⟩ G R as sl S) (_:Fw R as as H G),(∀ H',bA ⟨t.aV,t.aW,t.aL⟩ H' R as sl S.pass->Fw R as as H H'->Q .Zu H')->Be t.aW [.ref R.wk] G (fun _ H1=>Q .Zu H1) E0:=fun G A FG q=>by
   have W:=A.wk;rw[est] at W;refine⟨R.wk,R.wx,R.lb,R.ln,k0,n0,b0,r0,rfl,W,fun H1 W1 K1=>?_⟩;have e:(k0,b0,n0+1)::r0=iT S.stk:=by rw[est];rfl
   rw[e] at W1;exact q H1 (A.walk W1 (K1.mono (by simp))) (FG.trans (A.zT W1 (K1.mono (by simp))))
  cases hs with
  | @whl a p v s vs b e1 h1 e2 h2 =>
   simp only[Aa] at q;wp_walk using A.ins,e1;refine⟨R,as,sl,S,v,s,rfl,A,F.pl,h1,g.1,?_⟩;wp_walk using A.ins,A.wk.ins,e1;refine fun p0 h0=>⟨H0 _,flat01,?_⟩;rw[B4];have N0:=q0D (o:=.tup [.Zu,.int 0]) h0;have A0:=A.kp N0;have e0:=N0.at e1;have F0:=Fw.of (R:=R) (as:=as) N0;generalize Zs H p0 (.tup [.Zu,.int 0])=G0 at *;by_cases hw:num (S.worth s)=0
   ·rw[if_pos hw] at q;rw[decide_eq_true hw];wp_walk using A0.ins,A0.wk.ins,e0;exact pass G0 A0 F0 q
   ·rw[if_neg hw] at q;rw[decide_eq_false hw];wp_walk using A0.ins,A0.wk.ins,e0;exact enter G0 A0 F0 0 b rfl q
  | @iff a p p2 v s vs us b o e1 h1 e2 h2 e3 h3 =>
   simp only[Aa] at q;wp_walk using A.ins,e1;refine⟨R,as,sl,S,v,s,rfl,A,F.pl,h1,g.1,?_⟩;wp_walk using A.ins,A.wk.ins,e1;refine fun p0 h0=>⟨H0 _,flat01,?_⟩;rw[B4];have N0:=q0D (o:=.tup [.Zu,.int 0]) h0;have A0:=A.kp N0;have e0:=N0.at e1;have F0:=Fw.of (R:=R) (as:=as) N0;generalize Zs H p0 (.tup [.Zu,.int 0])=G0 at *;by_cases hw:num (S.worth s)=0
   ·rw[if_pos hw] at q;rw[decide_eq_true hw];wp_walk using A0.ins,A0.wk.ins,e0;exact enter G0 A0 F0 1 o rfl q
   ·rw[if_neg hw] at q;rw[decide_eq_false hw];wp_walk using A0.ins,A0.wk.ins,e0;exact enter G0 A0 F0 0 b rfl q
  | _=>cases hB
theorem L0{t:Ad}(T:Tx w K mg t):bG P w K mg base ZF 11 t.Cy t.Fl ["run","statement"] (dP ⟨t.aV,t.aW,t.aL⟩ true (fun m=>∃ x s,m=.set x s)):=by
 refine T.Lv.ok Mo (fun vs H Q E h=>?_) (fun ZE A outer s H vs Q E hr h=>?_)
 ·obtain⟨R,as,sl,S,a,m,N,rfl,_⟩:=h;rfl
 ·obtain⟨R,as,sl,S,a,m,N,rfl,A,ZL,hs,⟨x,s,rfl⟩,F,g,hN,q⟩:=h;have hu:=oQ hr;refine⟨_,(aC (mU hu (aO T.aX T.fW (pv 0)) (aY bJ (pv 1) aE (fun _ _=>rfl)) (bL (pv 0) T.aX T.eK (dM T) (hr.mono (by omega)) T.fG .nil pass0 (aD (aY bJ (pv 1) aE (fun _ _=>rfl)) aB)))
   (aI (aP (bX aB)))),?_⟩
  and_intros
  cases hs with
  | @set a x v s e1 h1 =>
   have l1:(l8 S.nm).length<=N:=by rw[l8,List.length_map];exact F.nm
   refine aF fun R1 Zx=>?_;wp_walk using A.ins,e1;refine⟨R,as,sl,S,v,s,rfl,A,F.pl,h1,g,?_⟩;wp_walk using A.ins,e1,A.nm,mS;refine⟨by omega,?_⟩;have A1:=A.name x (S.worth s);have F1:=Fw.set (R:=R) (as:=as) (H:=H) (o:=.dK (l8 (dO S.nm x (S.worth s)))) (p:=R.nm) (.inl (by simp[Rn.cells]));generalize Zs H R.nm (.dK (l8 (dO S.nm x (S.worth s))))=G1 at *;refine Zx _ _ ?_;clear Zx;clear R1;wp_walk;refine fun c hc=>?_;have N4:=q0D (o:=.lst []) hc;exact q _ c [] _ (A1.kp N4) (F1.free hc) aA .nil (F1.trans (Fw.of N4))
theorem Av{t:Ad}(T:Tx w K mg t):bG P w K mg base ZF 1 t.mC t.mJ ["self"] (Mx t.aL):=by
 refine T.C2.ok pM (fun vs H Q E h=>?_) (fun ZE A outer s H vs Q E hr h=>?_)
 ·obtain⟨tk,tx,dp,da,made,pend,ans,rfl,_⟩:=h;rfl
 ·obtain⟨tk,tx,dp,da,made,pend,ans,rfl,R,hm,hl,q⟩:=h;have hu:=oQ hr;refine⟨_,(aC (bB (i:=1) pM.nd rfl (Or.inl rfl) (aO T.bD T.u7 (pv 0)))
   (aC (O5 T.bD T.u7 (pv 0) aE)
   (aC (mU hu (aO T.bD T.gH (pv 0)) (pv 1) Ma)
   (aI (aP (pv 1)))))),?_⟩
  and_intros
  wp_walk using R.ins;have n1:=R.n1;have nk:(made:Int)∉pend:=fun z=>by have:=R.lt _ z;omega
  wp_walk using aG n1.1.symm,R.hp,AJ (.bl true) (Jn nk);refine⟨by simp only[kI,List.length_map];omega,?_⟩;refine q _ ⟨by rw[aG n1.1];exact aA,by rw[aA];simp[kI],by rw[aG R.nda.symm,aG n1.2.symm];exact R.ha,R.nda,fun i hi=>?_,?_,fun p hp=>?_,fun p hp z=>?_,by omega⟩ ?_
  ·rcases List.mem_append.mp hi with hi|hi
   ·have:=R.lt i hi;omega
   ·rw[show i=(made:Int) by simpa using hi];omega
  ·refine List.pairwise_append.mpr ⟨R.asc,by simp,fun i hi j hj=>?_⟩;rw[show j=(made:Int) by simpa using hj];exact(R.lt i hi).2
  ·have:=R.la p hp;omega
  ·rcases List.mem_append.mp z with z|z
   ·exact R.dis p hp z
   ·have:=R.la p hp;rw[show p.1=(made:Int) by simpa using z] at this;omega
  ·intro b o eb nb;simp only[List.mem_cons,List.not_mem_nil,or_false,not_or] at nb;rw[aG nb.2,aG nb.1];exact eb
theorem nF{t:Ad}(T:Tx w K mg t):bG P w K mg base ZF 2 t.lE t.lG ["self","name"] (Uz ⟨t.aV,t.aW,t.aL⟩):=by
 refine T.BC.ok nJ (fun vs H Q E h=>?_) (fun ZE A outer s H vs Q E hr h=>?_)
 ·obtain⟨R,as,sl,S,n,rfl,_⟩:=h;rfl
 ·obtain⟨R,as,sl,S,n,rfl,A,b1,b2,b3,q⟩:=h;have hu:=oQ hr;refine⟨_,(aC (bB (i:=2) nJ.nd rfl (Or.inl rfl) (cC (aO T.aX T.cJ (pv 0)) T.bD T.BH (Av T) (hr.mono (by omega)) T.CH .nil pass0))
   (aC (mU hu (aO T.aX T.fW (pv 0)) (pv 1) (pv 2))
   (aI (aP (pv 2))))),?_⟩
  and_intros
  refine aF fun R1 Zx=>?_;wp_walk using A.ins,A.tk.ins;refine⟨R.tk,R.tx,R.dp,R.da,S.made,S.pend,S.ans,rfl,A.tk,b1,b2,fun H1 T1 K1=>?_⟩;have K2:Kp [R.tk,R.dp,R.da] H H1:=K1.mono (by simp;try omega)
  have A1:=A.tick T1 K2;have F1:=A.Ea T1 K2;wp_walk;refine Zx _ _ ?_;clear Zx;clear R1;refine aF fun R2 Zy=>?_;have ep:eM (l8 S.nm) (.inr n) (.int (S.made:Int))=l8 (dO S.nm n (some (S.made:Int))):=mS S.nm n (some (S.made:Int));have l1:(l8 S.nm).length<=1000000:=by rw[l8,List.length_map];exact b3
  wp_walk using A1.ins,A1.nm,ep;refine⟨by omega,?_⟩;have A2:=A1.name n (some (S.made:Int));have F2:=F1.trans (Fw.set (R:=R) (as:=as) (H:=H1) (o:=.dK (l8 (dO S.nm n (some (S.made:Int))))) (p:=R.nm) (.inl (by simp[Rn.cells])));generalize Zs H1 R.nm (.dK (l8 (dO S.nm n (some (S.made:Int)))))=G2 at *;refine Zy _ _ ?_;clear Zy;clear R2;wp_walk;exact q G2 A2 F2
theorem Aw{t:Ad}(T:Tx w K mg t):bG P w K mg base ZF 11 t.nU t.y4 ["run","statement"] (dP ⟨t.aV,t.aW,t.aL⟩ true (fun m=>∃ x y s,m=.order x y s\/m=.child x y s)):=by
 refine T.zP.ok rZ (fun vs H Q E h=>?_) (fun ZE A outer s H vs Q E hr h=>?_)
 ·obtain⟨R,as,sl,S,a,m,N,rfl,_⟩:=h;rfl
 ·obtain⟨R,as,sl,S,a,m,N,rfl,A,ZL,hs,⟨x,y,s,hm⟩,F,g,hN,q⟩:=h;refine⟨_,(aC (bB (i:=2) rZ.nd rfl (Or.inl rfl) (bL (pv 0) T.aX T.eK (dM T) (hr.mono (by omega)) T.fG .nil pass0 (aD (aY bJ (pv 1) aE (fun _ _=>rfl)) aB)))
   (aC (bB (i:=3) rZ.nd rfl (Or.inl rfl) (bL (pv 0) T.aX T.oS (nF T) (hr.mono (by omega)) T.qN .nil pass0 (aD (aY bJ (pv 1) aE (fun _ _=>rfl)) aB)))
   (aI (aP (bX (aD (bC (aD (aY bJ (pv 1) aE (fun _ _=>rfl)) (aD (pv 3) (aD (aY bJ (pv 1) aE (fun _ _=>rfl)) (aD (pv 2) aB))))) aB)))))),?_⟩
  and_intros
  rcases hm with rfl|rfl
  ·cases hs with
   | @order a x y v s e1 h1 =>
    refine aF fun R1 Zx=>?_;wp_walk using A.ins,e1;refine⟨R,as,sl,S,v,s,rfl,A,F.pl,h1,g,?_⟩;wp_walk;refine Zx _ _ ?_;clear Zx;clear R1;refine aF fun R2 Zy=>?_;wp_walk using A.ins,e1;refine⟨R,as,sl,S,x,rfl,A,by have:=F.md;omega,by have:=F.pd;omega,by have:=F.nm;omega,fun H1 A1 F1=>?_⟩;have e2:=A.tkp F1 _ _ e1;wp_walk;refine Zy _ _ ?_;clear Zy;clear R2;wp_walk using e2;refine fun p3 h3 c h4=>?_;have N3:=(q0D (o:=.tup [.str "order",.int S.made,.str y,wv (S.worth s)]) h3).trans (Kp.new (o:=.lst [.ref p3]) h4);exact q _ c [.ref p3] _ (A1.kp N3) (F1.free (cX h4)) aA (.cons ((q0D h4).at aA) .nil) (F1.trans (Fw.of N3))
  ·cases hs with
   | @child a x y v s e1 h1 =>
    refine aF fun R1 Zx=>?_;wp_walk using A.ins,e1;refine⟨R,as,sl,S,v,s,rfl,A,F.pl,h1,g,?_⟩;wp_walk;refine Zx _ _ ?_;clear Zx;clear R1;refine aF fun R2 Zy=>?_;wp_walk using A.ins,e1;refine⟨R,as,sl,S,x,rfl,A,by have:=F.md;omega,by have:=F.pd;omega,by have:=F.nm;omega,fun H1 A1 F1=>?_⟩;have e2:=A.tkp F1 _ _ e1;wp_walk;refine Zy _ _ ?_;clear Zy;clear R2;wp_walk using e2;refine fun p3 h3 c h4=>?_;have N3:=(q0D (o:=.tup [.str "child",.int S.made,.str y,wv (S.worth s)]) h3).trans (Kp.new (o:=.lst [.ref p3]) h4);exact q _ c [.ref p3] _ (A1.kp N3) (F1.free (cX h4)) aA (.cons ((q0D h4).at aA) .nil) (F1.trans (Fw.of N3))
theorem Ga{t:Ad}(T:Tx w K mg t):bG P w K mg base ZF 11 t.sI t.y7 ["run","statement"] (dP ⟨t.aV,t.aW,t.aL⟩ true (fun m=>∃ x s,m=.ZJ x s)):=by
 refine T.D8.ok nA (fun vs H Q E h=>?_) (fun ZE A outer s H vs Q E hr h=>?_)
 ·obtain⟨R,as,sl,S,a,m,N,rfl,_⟩:=h;rfl
 ·obtain⟨R,as,sl,S,a,m,N,rfl,A,ZL,hs,⟨x,s,rfl⟩,F,g,hN,q⟩:=h;refine⟨_,(aC (bB (i:=2) nA.nd rfl (Or.inl rfl) (bL (pv 0) T.aX T.eK (dM T) (hr.mono (by omega)) T.fG .nil pass0 (aD (aY bJ (pv 1) aE (fun _ _=>rfl)) aB)))
   (aC (bB (i:=3) nA.nd rfl (Or.inl rfl) (cO (BY rfl) rfl T.PR JT (aD (tO (v:=.int 1000000000000) rfl T.wQ ⟨_,rfl⟩) (aD (pE (aQ rO (pv 2) dJ (nomark _)) (aO T.aX T.tG (pv 0)) (bU eL (aO T.aX T.tG (pv 0)) (cO (uF rfl) rfl T.MU Fe (aD aE (aD (pv 2) aB))))) aB))))
   (aC (bB (i:=4) nA.nd rfl (Or.inl rfl) (bL (pv 0) T.aX T.oS (nF T) (hr.mono (by omega)) T.qN .nil pass0 (aD (aY bJ (pv 1) aE (fun _ _=>rfl)) aB)))
   (aI (aP (bX (aD (bC (aD aS (aD (pv 4) (aD (pv 3) aB)))) aB))))))),?_⟩
  and_intros
  cases hs with
  | @ZJ a x v s e1 h1 =>
   refine aF fun R1 Zx=>?_;wp_walk using A.ins,e1;refine⟨R,as,sl,S,v,s,rfl,A,F.pl,h1,g,?_⟩;wp_walk;refine Zx _ _ ?_;clear Zx;clear R1;refine aF fun R2 Zy=>?_;wp_walk using A.ins,GN;have rest:R2 [some (V.ref R.x),some (V.ref a),some (wv (S.worth s)),some (V.int (Kq S.nw (S.worth s))),none] H:=by
    refine Zy _ _ ?_;refine aF fun R3 ZI=>?_;wp_walk using A.ins,e1;refine⟨R,as,sl,S,x,rfl,A,by have:=F.md;omega,by have:=F.pd;omega,by have:=F.nm;omega,fun H1 A1 F1=>?_⟩;wp_walk;refine ZI _ _ ?_;clear ZI;clear R3;wp_walk;refine fun p3 h3 c h4=>?_;have N3:=(q0D (o:=.tup [.str "timer",.int S.made,.int (Kq S.nw (S.worth s))]) h3).trans (Kp.new (o:=.lst [.ref p3]) h4);exact q _ c [.ref p3] _ (A1.kp N3) (F1.free (cX h4)) aA (.cons ((q0D h4).at aA) .nil) (F1.trans (Fw.of N3))
   cases hw:S.worth s with
   | none =>
    rw[hw] at rest;rw[if_pos rfl];exact rest
   | some z =>
    rw[hw] at rest;rw[if_neg (by simp)];wp_walk using wv;exact rest
theorem Jc{t:Ad}(T:Tx w K mg t):bG P w K mg base ZF 11 t.xI t.CP ["run","statement"] (dP ⟨t.aV,t.aW,t.aL⟩ true (fun m=>∃ s k r,m=.send s k r)):=by
 refine T.Hh.ok Jt (fun vs H Q E h=>?_) (fun ZE A outer s H vs Q E hr h=>?_)
 ·obtain⟨R,as,sl,S,a,m,N,rfl,_⟩:=h;rfl
 ·obtain⟨R,as,sl,S,a,m,N,rfl,A,ZL,hs,⟨s,k,r,rfl⟩,F,g,hN,q⟩:=h;refine⟨_,(aI (aP (bX (aD (bC (aD aS (aD (bL (pv 0) T.aX T.eK (dM T) (hr.mono (by omega)) T.fG .nil pass0 (aD (aY bJ (pv 1) aE (fun _ _=>rfl)) aB)) (aD (aY bJ (pv 1) aE (fun _ _=>rfl)) (aD (bL (pv 0) T.aX T.eK (dM T) (hr.mono (by omega)) T.fG .nil pass0 (aD (aY bJ (pv 1) aE (fun _ _=>rfl)) aB)) aB))))) aB)))),?_⟩
  and_intros
  cases hs with
  | @send a k v u s r e1 h1 h2 =>
   wp_walk using A.ins,e1;refine⟨R,as,sl,S,v,s,rfl,A,F.pl,h1,g.1,?_⟩;wp_walk using A.ins,e1;refine⟨R,as,sl,S,u,r,rfl,A,F.pl,h2,g.2,?_⟩;wp_walk;have F1:Fw R as as H H:=Fw.refl;refine fun p3 h3 c h4=>?_;have N3:=(q0D (o:=.tup [.str "send",wv (S.worth s),.str k,wv (S.worth r)]) h3).trans (Kp.new (o:=.lst [.ref p3]) h4);exact q _ c [.ref p3] _ (A.kp N3) (F1.free (cX h4)) aA (.cons ((q0D h4).at aA) .nil) (F1.trans (Fw.of N3))
theorem oX{t:Ad}(T:Tx w K mg t):bG P w K mg base ZF 1 t.mD t.mK ["self","ticket"] (Mz t.aL):=by
 refine T.C3.ok AY (fun vs H Q E h=>?_) (fun ZE A outer s H vs Q E hr h=>?_)
 ·obtain⟨tk,tx,dp,da,made,pend,ans,i,rfl,_⟩:=h;rfl
 ·obtain⟨tk,tx,dp,da,made,pend,ans,i,rfl,R,hi,q⟩:=h;refine⟨_,(aI (bM (Mb (aO T.bD T.gH (pv 0)) (pv 1) ⟨rfl,rfl,rfl,rfl⟩))),?_⟩
  and_intros
  obtain⟨v,hv⟩:=Jo hi;wp_walk using R.ins,R.hp,hv,Jl;have n1:=R.n1;exact q _ ⟨by rw[aG n1.1];exact R.ins,aA,by rw[aG R.nda.symm];exact R.ha,R.nda,fun j hj=>R.lt j ((List.mem_filter.mp hj).1),R.asc.filter _,R.la,fun p hp z=>R.dis p hp ((List.mem_filter.mp z).1),R.small⟩ Kp.qW
theorem Ja{t:Ad}(T:Tx w K mg t):bG P w K mg base ZF 11 t.xG t.CN ["run","statement"] (dP ⟨t.aV,t.aW,t.aL⟩ true (fun m=>∃ s,m=.drop s)):=by
 refine T.Hf.ok Cj (fun vs H Q E h=>?_) (fun ZE A outer s H vs Q E hr h=>?_)
 ·obtain⟨R,as,sl,S,a,m,N,rfl,_⟩:=h;rfl
 ·obtain⟨R,as,sl,S,a,m,N,rfl,A,ZL,hs,⟨s,rfl⟩,F,g,hN,q⟩:=h;refine⟨_,(aC (bB (i:=2) Cj.nd rfl (Or.inl rfl) (bL (pv 0) T.aX T.eK (dM T) (hr.mono (by omega)) T.fG .nil pass0 (aD (aY bJ (pv 1) aE (fun _ _=>rfl)) aB)))
   (aC (bI (Mi (AI (bL (aO T.aX T.cJ (pv 0)) T.bD T.iS (g8 T) (hr.mono (by omega)) T.jZ .nil pass0 (aD (pv 2) aB)))) (aI (aP (bX aB))) aZ)
   (aC (bM (bL (aO T.aX T.cJ (pv 0)) T.bD T.qT (oX T) (hr.mono (by omega)) T.sN .nil pass0 (aD (pv 2) aB)))
   (aI (aP (bX (aD (bC (aD aS (aD (pv 2) aB))) aB))))))),?_⟩
  and_intros
  cases hs with
  | @drop a v s e1 h1 =>
   refine aF fun R1 Zx=>?_;wp_walk using A.ins,e1;refine⟨R,as,sl,S,v,s,rfl,A,F.pl,h1,g,?_⟩;wp_walk;refine Zx _ _ ?_;clear Zx;clear R1;refine aF fun R2 Zy=>?_;wp_walk using A.ins,A.tk.ins;refine⟨R.tk,R.tx,R.dp,R.da,_,_,_,S.worth s,rfl,A.tk,?_⟩;by_cases hp:∃ i,i∈S.pend/\S.worth s=some i
   ·rw[decide_eq_true hp];obtain⟨i,hi,hw⟩:=hp;have hwv:wv (S.worth s)=.int i:=by rw[hw];rfl
    have hd:cU S (.drop s)=({S with pend:=S.pend.filter fun j=>decide (j≠i)},[[.str "drop",.int i]]):=by simp only[cU,hw,if_pos hi]
    rw[hd] at q;wp_walk;refine Zy _ _ ?_;clear Zy;clear R2;refine aF fun R3 ZI=>?_;wp_walk using A.ins,A.tk.ins,hwv;refine⟨R.tk,R.tx,R.dp,R.da,_,_,_,i,rfl,A.tk,hi,fun H3 T3 K3=>?_⟩;have K4:Kp [R.tk,R.dp,R.da] H H3:=K3.mono (by simp;try omega)
    have A3:=A.tick T3 K4;have F3:=A.Ea T3 K4;wp_walk;refine ZI _ _ ?_;clear ZI;clear R3;wp_walk;refine fun p3 h3 c h4=>?_;have N3:=(q0D (o:=.tup [.str "drop",.int i]) h3).trans (Kp.new (o:=.lst [.ref p3]) h4);exact q _ c [.ref p3] _ (A3.kp N3) (F3.free (cX h4)) aA (.cons ((q0D h4).at aA) .nil) (F3.trans (Fw.of N3))
   ·rw[decide_eq_false hp];have hd:cU S (.drop s)=(S,[]):=by
     cases hw:S.worth s with
     | none=>simp only[cU,hw]
     | some i=>simp only[cU,hw,if_neg (show ¬ i∈S.pend from fun z=>hp ⟨i,z,hw⟩)]
    rw[hd] at q;wp_walk;have F1:Fw R as as H H:=Fw.refl;refine fun c hc=>?_;have N4:=q0D (o:=.lst []) hc;exact q _ c [] _ (A.kp N4) (F1.free hc) aA .nil (F1.trans (Fw.of N4))
theorem qJ{t:Ad}(T:Tx w K mg t):bG P w K mg base ZF 1 t.gK t.gM ["self","worths"] (Jz t.aL):=by
 refine T.sT.ok i0 (fun vs H Q E h=>?_) (fun ZE A outer s H vs Q E hr h=>?_)
 ·obtain⟨tk,tx,dp,da,l,made,pend,ans,ws,rfl,_⟩:=h;rfl
 ·obtain⟨tk,tx,dp,da,l,made,pend,ans,ws,rfl,A,el,h4,ha,q⟩:=h;have hu:=oQ hr;refine⟨_,(aC (bB (i:=2) i0.nd rfl (Or.inr rfl) (xW (fr:=[0]) (N:=["worth","self"]) rfl (fun _ _ h=>h) (eF.free rfl rfl rfl rfl rfl (fun _ _ h=>look1 rfl h) rfl (by decide) rfl (fun j hj=>by rw[show j=0 by simpa using hj];exact⟨_,rfl,rfl,.inl rfl⟩)) (lA (pv 1)) (fun C s H ex pn=>⟨tQ (Ul (HD hu (pv 0) (aO T.bD T.gF (pv 1)))),(pv 0)⟩)))
   (aC (bI (aQ k9 (cO Ff rfl T.DG rB (aD (dB (BZ rfl) rfl T.PU JU (aD (pv 2) aB)) aB)) aE (nomark _)) (aI (aP (pE (xX (pv 2) (fun _=>rfl)) (aY bJ (pv 2) aE (fun _ _=>rfl)) dJ))) aZ)
   (aI (O7 (aP (aY bJ (xW (fr:=[2]) (N:=["ticket","tickets"]) rfl (fun _ _ h=>h) (eF.free rfl rfl rfl rfl rfl (fun _ _ h=>look1 rfl h) rfl (by decide) rfl (fun j hj=>by rw[show j=2 by simpa using hj];exact⟨_,rfl,rfl,.inl rfl⟩)) (O3 (aO T.bD T.gF (pv 0))) (fun C s H ex pn=>⟨tQ (aQ Ge (pv 0) (pv 1) (by with_unfolding_all rfl)),(pv 0)⟩)) aE (fun _ _=>rfl))))))),?_⟩
  and_intros
  refine aF fun R1 Zx=>?_;wp_walk using el;refine⟨⟨_,dC.of el⟩,?_⟩;obtain⟨Pv,ZC⟩:∃ Pv:Nat->List V->Hp->Prop,∀ i xs G,Pv i xs G=(G=H/\xs=(bQ ans (ws.take i)).map V.int):=⟨_,fun _ _ _=>rfl⟩;refine tF (ys:=ws.map wv) Pv ?_ ?_ ?_ ?_ ?_
  ·rw[ZC];exact⟨rfl,rfl⟩
  ·intro i xs G h;rw[ZC] at h;rw[h.2,List.length_map];have:=pV ans (ws.take i);have:(ws.take i).length<=ws.length:=by rw[List.length_take];omega
   omega
  ·intro i xs G h;rw[ZC] at h;rw[h.1];exact dC.of el
  ·intro i y xs G hi ey h;rw[ZC] at h;obtain⟨rfl,rfl⟩:=h;obtain⟨w0,ew,rfl⟩:∃ w0,ws[i]?=some w0/\y=wv w0:=by
    rw[List.getElem?_map] at ey;obtain⟨w0,a,b⟩:=Option.map_eq_some_iff.mp ey;exact⟨w0,a,b.symm⟩
   wp_walk using bF,Option.join_some,A.ins,A.ha,M5;rw[ZC,ZC,Fm ew];split
   ·exact⟨rfl,rfl⟩
   ·exact⟨rfl,rfl⟩
  intro xs G h p hp;rw[ZC] at h;obtain⟨rfl,rfl⟩:=h;rw[show ws.take (ws.map wv).length=ws by rw[List.length_map,List.take_length]];refine Zx _ _ ?_;clear Zx;clear R1;wp_walk using aA;refine⟨bQ ans ws,rfl,Nat.le_trans (pV ans ws) h4,fun c hc=>⟨_,rfl,?_⟩⟩;have n1:p≠c:=aJ aA hc;have K2:∀ o,Kp [] G (Zs (Zs G p (.lst ((bQ ans ws).map V.int))) c o):=fun o=>(Kp.new hp).trans (Kp.new hc);have e2:∀ o,Zs (Zs G p (.lst ((bQ ans ws).map V.int))) c o p=some (.lst ((bQ ans ws).map V.int)):=fun o=>by rw[aG n1,aA]
  generalize hG2:Zs (Zs G p (.lst ((bQ ans ws).map V.int))) c _=G2;replace K2:Kp [] G G2:=hG2▸K2 _;replace e2:G2 p=some (.lst ((bQ ans ws).map V.int)):=hG2▸e2 _;clear hG2;have A2:=A.kp K2;have qq:=q G2 K2;by_cases hl:(nH (bQ ans ws)).length < 2
  ·rw[if_pos (by omega)];rw[IA hl] at qq;cases ed:bQ ans ws with
   | nil =>
    rw[ed] at e2 qq;wp_walk using e2;rw[if_neg (by simp)];exact qq
   | cons i r =>
    rw[ed] at e2 qq;wp_walk using e2;rw[if_pos (by simp)];exact qq
  rw[if_neg (by omega)];obtain⟨i,r,ef,fo⟩:=Fx hl;rw[fo] at qq;wp_walk using A2.ins,A2.ha,e2;refine fun o=>?_;have npd:p≠da:=fun z=>by
   rw[z,A2.ha] at e2;cases e2
  generalize hG3:Zs G2 da (.ZS o (.dK (kS ans)))=G3;have e3:G3 p=some (.lst ((bQ ans ws).map V.int)):=by rw[<- hG3,aG npd];exact e2
  have d3:G3 da=some (.ZS o (.dK (kS ans))):=by rw[<- hG3];exact aA
  obtain⟨Pw,hPw⟩:∃ Pw:Nat->List V->Hp->Prop,∀ i xs G',Pw i xs G'=(G'=G3/\xs=(((ans.map (·.1)).take i).filter fun i=>decide (i∈bQ ans ws)).map V.int):=⟨_,fun _ _ _=>rfl⟩;refine OI Pw ?_ ?_ ?_ ?_ ?_
  ·rw[hPw];exact⟨rfl,rfl⟩
  ·intro j xs G' h;rw[hPw] at h;rw[h.2,List.length_map];have h1:=List.length_filter_le (fun i=>decide (i∈bQ ans ws)) ((ans.map (·.1)).take j);have h2:((ans.map (·.1)).take j).length<=ans.length:=by rw[List.length_take,List.length_map];omega
   omega
  ·intro j xs G' h;rw[hPw] at h;rw[h.1];exact d3
  ·intro j kv xs G' hj ekv h;rw[hPw] at h;obtain⟨rfl,rfl⟩:=h;obtain⟨a0,ea,rfl⟩:∃ a0,ans[j]?=some a0/\kv=(Key.inl a0.1,wv a0.2):=by
    rw[kS,List.getElem?_map] at ekv;obtain⟨a0,x,y⟩:=Option.map_eq_some_iff.mp ekv;exact⟨a0,x,y.symm⟩
   have es:(((ans.map (·.1)).take (j+1)).filter fun i=>decide (i∈bQ ans ws)).map V.int=if a0.1∈bQ ans ws then (((ans.map (·.1)).take j).filter fun i=>decide (i∈bQ ans ws)).map V.int++[V.int a0.1] else (((ans.map (·.1)).take j).filter fun i=>decide (i∈bQ ans ws)).map V.int:=by
    rw[List.take_add_one,List.getElem?_map,ea];simp only[Option.map_some,Option.toList_some,List.filter_append,List.map_append];split
    ·next h=>simp[h]
    ·next h=>simp[h]
   show EZ _ (some (V.int a0.1)::_) _ _;wp_walk using bF,Option.join_some,e3;refine⟨rfl,by simp[cT],?_⟩;rw[hPw,hPw,es,Eg];by_cases hm:a0.1∈bQ ans ws
   ·rw[if_pos (by simpa using hm),if_pos hm];exact⟨rfl,rfl⟩
   ·rw[if_neg (by simpa using hm),if_neg hm];exact⟨rfl,rfl⟩
  intro xs G' h pp hpp;rw[hPw] at h;obtain⟨rfl,rfl⟩:=h;rw[show(ans.map (·.1)).take (kS ans).length=ans.map (·.1) by rw[kS,List.length_map,<- List.length_map (f:=fun p:Int×Wo=>p.1) (as:=ans),List.take_length],ef];wp_walk using aA,List.map_cons;have npp:da≠pp:=aJ d3 hpp;have KK:Kp [] G (Zs (Zs G' pp (.lst (V.int i::r.map V.int))) da (.dK (kS ans))):=fun b ob eb nb=>by
   by_cases hb:b=da
   ·subst hb;rw[aA];rw[A.ha] at eb;exact eb
   ·have e4:G' b=some ob:=by rw[<- hG3,aG hb];exact K2 b ob eb nb
    rw[aG hb,aG (aJ e4 hpp)];exact e4
  have q3:=q _ KK;rw[fo] at q3;exact⟨da,o,kS ans,by rw[aG npp];exact d3,(fun ob u z=>by
   have z:G da=some (.ZS ob u):=z;rw[A.ha] at z;cases z),q3⟩
theorem Jd{t:Ad}(T:Tx w K mg t):bG P w K mg base ZF 11 t.xJ t.CQ ["run","statement"] (dP ⟨t.aV,t.aW,t.aL⟩ true (fun m=>∃ x ss,m=.wait x ss)):=by
 refine T.Hi.ok qD (fun vs H Q E h=>?_) (fun ZE A outer s H vs Q E hr h=>?_)
 ·obtain⟨R,as,sl,S,a,m,N,rfl,_⟩:=h;rfl
 ·obtain⟨R,as,sl,S,a,m,N,rfl,A,ZL,hs,⟨x,ss,rfl⟩,F,g,hN,q⟩:=h;have hu:=oQ hr;refine⟨_,(aC (kJ (i:=2) (fr:=[0]) (N:=["saying","run"]) rfl (fun _ _ h=>h) (eF.free rfl rfl rfl rfl rfl (fun _ _ h=>h) rfl (by decide) rfl (fun j hj=>by rw[show j=0 by simpa using hj];exact⟨_,rfl,rfl,.inl rfl⟩)) (Uj (aY bJ (pv 1) aE (fun _ _=>rfl))) (fun C s H ex pn=>⟨xY,(bL (pv 1) T.aX T.eK (dM T) (hr.mono (by omega)) T.fG .nil pass0 (aD (pv 0) aB))⟩) qD.nd rfl (Or.inl rfl))
   (aC (bB (i:=3) qD.nd rfl (Or.inl rfl) (bL (aO T.aX T.cJ (pv 0)) T.bD T.rK (qJ T) (hr.mono (by omega)) T.sM .nil pass0 (aD (pv 2) aB)))
   (aC (bB (i:=4) qD.nd rfl (Or.inl rfl) (cO (Fg rfl) rfl T.qH pU (aD (dB (BZ rfl) rfl T.PU JU (aD (xW (fr:=[0]) (N:=["worth","run"]) rfl (fun _ _ h=>h) (eF.free rfl rfl rfl rfl rfl (fun _ _ h=>h) rfl (by decide) rfl (fun j hj=>by rw[show j=0 by simpa using hj];exact⟨_,rfl,rfl,.inl rfl⟩)) (lA (pv 2)) (fun C s H ex pn=>⟨tQ (AI (bL (aO T.aX T.cJ (pv 1)) T.bD T.iS (g8 T) (hr.mono (by omega)) T.jZ .nil pass0 (aD (pv 0) aB))),(pv 0)⟩)) aB)) aB)))
   (aC (bI (PW.pt (Dr (aQ rO (pv 3) dJ (nomark _)) (xZ (xX (pv 4) (fun _=>rfl))))) (aI (dA T.aX T.dF (pv 0) (bC (aD aS (aD (dB fH rfl T.gW eP (aD (pv 4) aB)) aB))))) (aI (mU hu (aO T.aX T.fW (pv 0)) (aY bJ (pv 1) aE (fun _ _=>rfl)) (pv 3))))
   (aI (aP (bX aB))))))),?_⟩
  and_intros
  cases hs with
  | @wait a pw x vs ss e1 e2 hs2 =>
   obtain⟨_,g4,gs⟩:=g;have l1:(l8 S.nm).length<=N:=by rw[l8,List.length_map];exact F.nm
   have lv:=hs2.W9;refine aF fun R1 Zx=>?_;wp_walk using A.ins,e1;refine⟨⟨_,eJ.of e2⟩,?_⟩;obtain⟨Pv,ZC⟩:∃ Pv:Nat->List V->Hp->Prop,∀ i xs G,Pv i xs G=(G=H/\xs=((ss.take i).map S.worth).map wv):=⟨_,fun _ _ _=>rfl⟩;refine TL (ys:=vs) Pv ?_ ?_ ?_ ?_ ?_
   ·rw[ZC];exact⟨rfl,rfl⟩
   ·intro i xs G h;rw[ZC] at h;rw[h.2,List.length_map,List.length_map,List.length_take];omega
   ·intro i xs G h;rw[ZC] at h;rw[h.1];exact eJ.of e2
   ·intro i y xs G hi ey h;rw[ZC] at h;obtain⟨rfl,rfl⟩:=h;obtain⟨s0,es,h0⟩:=hs2.atW ey;wp_walk using bF,Option.join_some,A.ins;refine⟨R,as,sl,S,y,s0,rfl,A,F.pl,h0,gs s0 (List.mem_of_getElem? es),?_⟩;show Pv (i+1) _ _;rw[ZC,List.take_add_one,es];exact⟨rfl,by simp⟩
   intro xs G h p1 hp1;rw[ZC] at h;obtain⟨rfl,rfl⟩:=h;rw[lv,List.take_length];obtain⟨ws,hws⟩:∃ ws,ws=ss.map S.worth:=⟨_,rfl⟩;have hd:cU S (.wait x ss)=if cA S.ans ws=none/\cS S.pend ws≠[] then ({S with sl:=.wait (cS S.pend ws)},[]) else ({S with nm:=dO S.nm x (cA S.ans ws)},[]):=by rw[hws];rfl
   rw[<- hws];have lw:ws.length<=4:=by rw[hws,List.length_map];exact g4
   clear hws ZC Pv;rw[hd] at q;clear hd;have N1:=q0D (o:=.lst (ws.map wv)) hp1;have f1:Zs G p1 (.lst (ws.map wv)) p1=some (.lst (ws.map wv)):=aA;have A1:=A.kp N1;have e3:=N1.at e1;have F1:=Fw.of (R:=R) (as:=as) N1;generalize Zs G p1 (.lst (ws.map wv))=G1 at *;refine Zx _ _ ?_;clear Zx;clear R1;refine aF fun R2 Zy=>?_;wp_walk using A1.ins,A1.tk.ins;refine⟨R.tk,R.tx,R.dp,R.da,p1,_,_,_,ws,rfl,A1.tk,f1,lw,by have:=F.an;omega,fun G2 K2=>?_⟩;have A2:=A1.kp K2;have f2:=K2.at f1;have e4:=K2.at e3;have F2:=F1.trans (Fw.of K2);wp_walk;refine Zy _ _ ?_;clear Zy;clear R2;refine aF fun R3 ZI=>?_;wp_walk using A2.ins,A2.tk.ins,f2;refine⟨⟨_,dC.of f2⟩,?_⟩;obtain⟨Pw,hPw⟩:∃ Pw:Nat->List V->Hp->Prop,∀ i xs G',Pw i xs G'=(G'=G2/\xs=(dY S.pend (ws.take i)).map V.int):=⟨_,fun _ _ _=>rfl⟩;refine tF (ys:=ws.map wv) Pw ?_ ?_ ?_ ?_ ?_
   ·rw[hPw];exact⟨rfl,rfl⟩
   ·intro i xs G' h;rw[hPw] at h;rw[h.2,List.length_map];have:=lY S.pend (ws.take i);have:(ws.take i).length<=ws.length:=by rw[List.length_take];omega
    omega
   ·intro i xs G' h;rw[hPw] at h;rw[h.1];exact dC.of f2
   ·intro i y xs G' hi ey h;rw[hPw] at h;obtain⟨rfl,rfl⟩:=h;obtain⟨w0,ew,rfl⟩:∃ w0,ws[i]?=some w0/\y=wv w0:=by
     rw[List.getElem?_map] at ey;obtain⟨w0,a,b⟩:=Option.map_eq_some_iff.mp ey;exact⟨w0,a,b.symm⟩
    wp_walk using bF,Option.join_some,A2.ins,A2.tk.ins;refine⟨R.tk,R.tx,R.dp,R.da,_,_,_,w0,rfl,A2.tk,?_⟩;show MX (V.bl _) _;wp_walk;rw[hPw,hPw,Gg ew];split
    ·next h=>exact⟨rfl,(if_pos (decide_eq_true h)).symm⟩
    ·next h=>exact⟨rfl,(if_neg (by simpa using h)).symm⟩
   intro xs G' h p3 hp3;rw[hPw] at h;obtain⟨rfl,rfl⟩:=h;rw[show ws.take (ws.map wv).length=ws by rw[List.length_map,List.take_length]];clear hPw Pw;wp_walk using aA;refine⟨dY S.pend ws,rfl,Nat.le_trans (lY S.pend ws) lw,fun c hc=>⟨_,rfl,?_,fun l4 ns h4 Z3 abA=>?_⟩⟩
   ·have:=Ay (fun i=>(dY S.pend ws).getD i 0) (dY S.pend ws).length;have:=lY S.pend ws;show(once _ _).length < 64;omega
   obtain rfl:=EF Z3 abA;have N3:=((q0D hp3).trans (Kp.new hc)).trans (Kp.new (o:=.lst ((cS S.pend ws).map V.int)) h4);have f4:∀ G5:Hp,Zs G5 l4 (.lst ((cS S.pend ws).map V.int)) l4=some (.lst ((cS S.pend ws).map V.int)):=fun _=>aA;generalize hG4:Zs (Zs (Zs G' p3 (.lst ((dY S.pend ws).map V.int))) c _) l4 (.lst ((cS S.pend ws).map V.int))=G4 at N3 ⊢;replace f4:G4 l4=some (.lst ((cS S.pend ws).map V.int)):=hG4▸f4 _;clear hG4 Z3 abA h4 hc hp3;have A4:=A2.kp N3;have e5:=N3.at e4;have F4:=F2.trans (Fw.of N3);refine ZI _ _ ?_;clear ZI;clear R3;refine aF fun R4 hR4=>?_;have named:¬ (cA S.ans ws=none/\cS S.pend ws≠[])->R4 [some (V.ref R.x),some (V.ref a),some (V.ref p1),some (wv (cA S.ans ws)),some (V.ref l4)] (Zs G4 R.nm (.dK (l8 (dO S.nm x (cA S.ans ws))))):=fun hn=>by
    rw[if_neg hn] at q;have A6:=A4.name x (cA S.ans ws);have F6:=F4.trans (Fw.set (p:=R.nm) (o:=.dK (l8 (dO S.nm x (cA S.ans ws)))) (.inl (by simp[Rn.cells])));refine hR4 _ _ ?_;generalize Zs G4 R.nm (.dK (l8 (dO S.nm x (cA S.ans ws))))=G6 at *;wp_walk;refine fun c hc=>?_;have N4:=q0D (o:=.lst []) hc;exact q _ c [] _ (A6.kp N4) (F6.free hc) aA .nil (F6.trans (Fw.of N4))
   wp_walk using A4.ins,f4,GN,e5,A4.nm,mS;by_cases hf:cA S.ans ws=none
   ·rw[if_pos hf];by_cases ho:cS S.pend ws=[]
    ·rw[if_neg (by rw[ho];simp)];exact⟨by first|omega|(rw[sizeLine_eq];omega),named fun z=>z.2 ho⟩
    ·rw[if_pos (by simpa using ho)];rw[if_pos ⟨hf,ho⟩] at q;refine fun l5 h5 p6 h6=>?_;have N5:=(q0D (o:=.tup ((cS S.pend ws).map V.int)) h5).trans (Kp.new (o:=.tup [.str "wait",.ref l5]) h6);have f6:Zs (Zs G4 l5 (.tup ((cS S.pend ws).map V.int))) p6 (.tup [.str "wait",.ref l5]) p6=some (.tup [.str "wait",.ref l5]):=aA;have f5:Zs (Zs G4 l5 (.tup ((cS S.pend ws).map V.int))) p6 (.tup [.str "wait",.ref l5]) l5=some (.tup ((cS S.pend ws).map V.int)):=by rw[aG (aJ aA h6),aA]
     have A5:=A4.kp N5;clear named h6 h5;generalize Zs (Zs G4 l5 (.tup ((cS S.pend ws).map V.int))) p6 (.tup [.str "wait",.ref l5])=G5 at *;wp_walk using A5.ins;have A6:=A5.attr (.ref p6) (.wait (cS S.pend ws)) S.ar S.nw ⟨p6,l5,rfl,f6,f5⟩;have F6:=(F4.trans (Fw.of N5)).trans (Fw.set (p:=R.x) (o:=(.ins t.aV R.dx [("walk",.ref R.wk),("sleep",.ref p6),("arg",wv S.ar),("now",.int S.nw),("names",.ref R.nm),("tickets",.ref R.tk),("letters",.ref R.lt)])) (.inl (by simp[Rn.cells])));refine hR4 _ _ ?_;generalize Zs G5 R.x (.ins t.aV R.dx [("walk",.ref R.wk),("sleep",.ref p6),("arg",wv S.ar),("now",.int S.nw),("names",.ref R.nm),("tickets",.ref R.tk),("letters",.ref R.lt)])=G6 at *;wp_walk;refine fun c hc=>?_;have N4:=q0D (o:=.lst []) hc;exact q _ c [] _ (A6.kp N4) (F6.free hc) aA .nil (F6.trans (Fw.of N4))
   ·rw[if_neg hf];exact⟨by first|omega|(rw[sizeLine_eq];omega),named fun z=>hf z.1⟩
theorem Jb{t:Ad}(T:Tx w K mg t):bG P w K mg base ZF 11 t.xH t.CO ["run","statement"] (dP ⟨t.aV,t.aW,t.aL⟩ true (fun m=>∃ x k,m=.ZA x k)):=by
 refine T.Hg.ok Ck (fun vs H Q E h=>?_) (fun ZE A outer s H vs Q E hr h=>?_)
 ·obtain⟨R,as,sl,S,a,m,N,rfl,_⟩:=h;rfl
 ·obtain⟨R,as,sl,S,a,m,N,rfl,A,ZL,hs,⟨x,k,rfl⟩,F,g,hN,q⟩:=h;have hu:=oQ hr;refine⟨_,(aC (bB (i:=2) Ck.nd rfl (Or.inl rfl) (Jj hu (aO T.aX T.gG (pv 0)) (aY bJ (pv 1) aE (fun _ _=>rfl)) (bX aB) ⟨rfl,rfl,rfl,rfl⟩))
   (aC (bI (xX (pv 2) (fun _=>rfl)) (aI (mU hu (aO T.aX T.fW (pv 0)) (aY bJ (pv 1) aE (fun _ _=>rfl)) (EH PySem.F.slot_list_pop PySem.F.type_list_pop OS (pv 2) (aD aE aB)))) (aI (dA T.aX T.dF (pv 0) (bC (aD aS (aD (aY bJ (pv 1) aE (fun _ _=>rfl)) aB))))))
   (aI (aP (bX aB))))),?_⟩
  and_intros
  cases hs with
  | @ZA a x k e1 =>
   obtain⟨kvs,el,L⟩:=A.lt;have l1:(l8 S.nm).length<=N:=by rw[l8,List.length_map];exact F.nm
   refine aF fun R1 Zx=>?_;wp_walk using A.ins,el,e1;refine fun p1 h1=>?_;have N1:=q0D (o:=.lst []) h1;have f1:Zs H p1 (.lst []) p1=some (.lst []):=aA;have A1:=A.kp N1;have e1':=N1.at e1;have el1:=N1.at el;have L1:=L.keep (fun a _ o h=>N1.at h);have F1:=Fw.of (R:=R) (as:=as) N1;generalize Zs H p1 (.lst [])=G1 at *;have abC:∀ l:Addr,G1 l=some (.lst [])->(cK S.lt k).getD []=[]->R1 [some (.ref R.x),some (.ref a),some (.ref l)] G1:=fun l hl hq=>by
    have hd:cU S (.ZA x k)=({S with sl:=.ZA k},[]):=by simp only[cU,hq]
    rw[hd] at q;refine Zx _ _ ?_;refine aF fun R2 Zy=>?_;wp_walk using hl,e1';refine fun p2 h2=>?_;have N2:=q0D (o:=.tup [.str "hear",.str k]) h2;have f2:Zs G1 p2 (.tup [.str "hear",.str k]) p2=some (.tup [.str "hear",.str k]):=aA;have A2:=A1.kp N2;wp_walk using N2.at A1.ins;have A3:=A2.attr (.ref p2) (.ZA k) S.ar S.nw ⟨p2,rfl,f2⟩;have F3:=(F1.trans (Fw.of N2)).trans (Fw.set (p:=R.x) (o:=(.ins t.aV R.dx [("walk",.ref R.wk),("sleep",.ref p2),("arg",wv S.ar),("now",.int S.nw),("names",.ref R.nm),("tickets",.ref R.tk),("letters",.ref R.lt)])) (.inl (by simp[Rn.cells])));refine Zy _ _ ?_;generalize Zs (Zs G1 p2 (.tup [.str "hear",.str k])) R.x (.ins t.aV R.dx [("walk",.ref R.wk),("sleep",.ref p2),("arg",wv S.ar),("now",.int S.nw),("names",.ref R.nm),("tickets",.ref R.tk),("letters",.ref R.lt)])=G3 at *;wp_walk;refine fun c hc=>?_;have N4:=q0D (o:=.lst []) hc;exact q _ c [] _ (A3.kp N4) (F3.free hc) aA .nil (F3.trans (Fw.of N4))
   rcases L1.look k with⟨hv,hn⟩|⟨l,ws,hv,hn,hl,ew⟩
   ·wp_walk using A1.ins,el1,e1',hv,Option.getD_none;exact abC p1 f1 (by rw[hn];rfl)
   ·wp_walk using A1.ins,el1,e1',hv,Option.getD_some;cases ws with
    | nil=>exact abC l ew (by rw[hn];rfl)
    | cons w r =>
     have hd:cU S (.ZA x k)=({S with nm:=dO S.nm x w,lt:=fJ S.lt k r},[]):=by simp only[cU,hn,Option.getD_some]
     rw[hd] at q;rw[List.map_cons] at ew;refine Zx _ _ ?_;refine aF fun R2 Zy=>?_;obtain⟨A2,hla⟩:=A1.BF el1 hv r;have F2:=F1.trans (Fw.set (p:=l) (o:=.lst (r.map wv)) (.inr hla));have e2:=A1.tkp (Fw.set (p:=l) (o:=.lst (r.map wv)) (.inr hla)) _ _ e1';wp_walk using ew,List.tail_cons,List.isEmpty_cons,Bool.not_false,A2.ins,e2,A2.nm,mS;have A3:=A2.name x w;have F3:=F2.trans (Fw.set (p:=R.nm) (o:=.dK (l8 (dO S.nm x w))) (.inl (by simp[Rn.cells])));refine⟨by omega,Zy _ _ ?_⟩;generalize Zs (Zs G1 l (.lst (r.map wv))) R.nm (.dK (l8 (dO S.nm x w)))=G3 at *;wp_walk;refine fun c hc=>?_;have N4:=q0D (o:=.lst []) hc;exact q _ c [] _ (A3.kp N4) (F3.free hc) aA .nil (F3.trans (Fw.of N4))
theorem LZ{t:Ad}(T:Tx w K mg t):bG P w K mg base ZF 11 t.Cw t.Fk ["run","statement"] (dP ⟨t.aV,t.aW,t.aL⟩ true (fun m=>∃ s,m=.fin s)):=by
 refine T.Lu.ok Mn (fun vs H Q E h=>?_) (fun ZE A outer s H vs Q E hr h=>?_)
 ·obtain⟨R,as,sl,S,a,m,N,rfl,_⟩:=h;rfl
 ·obtain⟨R,as,sl,S,a,m,N,rfl,A,ZL,hs,⟨s,rfl⟩,F,g,hN,q⟩:=h;refine⟨_,(aI (aP (bL (pv 0) T.aX T.Eo (Cg T) (hr.mono (by omega)) T.GR .nil pass0 (aD (bL (pv 0) T.aX T.eK (dM T) (hr.mono (by omega)) T.fG .nil pass0 (aD (aY bJ (pv 1) aE (fun _ _=>rfl)) aB)) aB)))),?_⟩
  and_intros
  cases hs with
  | @fin a v s e1 h1 =>
   wp_walk using A.ins,e1;refine⟨R,as,sl,S,v,s,rfl,A,F.pl,h1,g,?_⟩;wp_walk;exact⟨R,as,sl,S,_,rfl,A,q⟩
theorem EC{t:Ad}(T:Tx w K mg t):bG P w K mg base ZF 12 t.t6 t.uI ["self","statement"] (UA ⟨t.aV,t.aW,t.aL⟩ true):=by
  refine T.Iv.ok pK (fun vs H Q E h=>?_) (fun ZE A outer s H vs Q E hr h=>?_)
  · obtain⟨R,as,sl,S,a,m,N,rfl,_⟩:=h;rfl
  · obtain⟨R,as,sl,S,a,m,N,rfl,A,ZL,hs,F,g,Z1,hN,q⟩:=h;refine⟨_,(aC (bB (i:=2) pK.nd rfl (Or.inl rfl) (aY bJ (pv 1) aE (fun _ _=>rfl)))
      (aC (bI (PW.pt (HH (aQ cN (pv 2) aS (nomark _)) (Gk (aQ cN (pv 2) aS (nomark _))))) (aC (bM (bL (pv 0) T.aX T.IU (FY T) (hr.mono (by omega)) T.JQ .nil pass0 (aD (pv 1) aB)))
      (aI (aP (bX aB)))) aZ)
      (aC (bB (i:=3) pK.nd rfl (Or.inl rfl) (O1 (tab:=[("set",(dP ⟨t.aV,t.aW,t.aL⟩ true (fun m=>∃ x s,m=.set x s))),("order",(dP ⟨t.aV,t.aW,t.aL⟩ true (fun m=>∃ x y s,m=.order x y s\/m=.child x y s))),("timer",(dP ⟨t.aV,t.aW,t.aL⟩ true (fun m=>∃ x s,m=.ZJ x s))),("child",(dP ⟨t.aV,t.aW,t.aL⟩ true (fun m=>∃ x y s,m=.order x y s\/m=.child x y s))),("send",(dP ⟨t.aV,t.aW,t.aL⟩ true (fun m=>∃ s k r,m=.send s k r))),("drop",(dP ⟨t.aV,t.aW,t.aL⟩ true (fun m=>∃ s,m=.drop s))),("wait",(dP ⟨t.aV,t.aW,t.aL⟩ true (fun m=>∃ x ss,m=.wait x ss))),("hear",(dP ⟨t.aV,t.aW,t.aL⟩ true (fun m=>∃ x k,m=.ZA x k))),("end",(dP ⟨t.aV,t.aW,t.aL⟩ true (fun m=>∃ s,m=.fin s)))]) rfl T.Q7 T.ON (pv 2) (fun _ _=>rfl) (fun y sp h=>deeds9 (Z:=fun y sp=>∃ f fd ps,PySem.W.nsIn K t.iR y=some (some (.ref f))/\bG P w K mg base ZF 11 f fd ps sp/\PySem.W.keepIn K (.ref f)=true/\Binds K fd ps []) h ⟨_,_,_,T.IY,(L0 T).mono (by decide),T.Lv.kp,T.Q3⟩ ⟨_,_,_,T.Ew,(Aw T).mono (by decide),T.zP.kp,T.DR⟩ ⟨_,_,_,T.Ex,(Ga T).mono (by decide),T.D8.kp,T.JS⟩ ⟨_,_,_,T.Eu,(Aw T).mono (by decide),T.zP.kp,T.DR⟩ ⟨_,_,_,T.FV,(Jc T).mono (by decide),T.Hh.kp,T.Na⟩ ⟨_,_,_,T.FT,(Ja T).mono (by decide),T.Hf.kp,T.M7⟩ ⟨_,_,_,T.FW,(Jd T).mono (by decide),T.Hi.kp,T.Nb⟩ ⟨_,_,_,T.FU,(Jb T).mono (by decide),T.Hg.kp,T.M9⟩ ⟨_,_,_,T.IX,(LZ T).mono (by decide),T.Lu.kp,T.Q2⟩) (hr.mono (by omega)) (aD (pv 0) (aD (pv 1) aB))))
      (aC (bI (aQ rO (aO T.aX T.dF (pv 0)) dJ (nomark _)) (aI (bM (cC (aO T.aX T.kE (pv 0)) T.cQ T.jH (hZ T) (hr.mono (by omega)) T.kX .nil pass0))) aZ)
      (aI (aP (pv 3))))))),?_⟩
    and_intros
    have tail:m.isB=false->∀(kd ZM:V) (c:Addr) (us:List V) (H':Hp),bA ⟨t.aV,t.aW,t.aL⟩ H' R as ZM (cU S m).1->H c=none->H' c=some (.lst us)->gI H' us (cU S m).2->Fw R as as H H' ->
        PH (ML (EZ (UT Rb (Ni t.aV "sleep" (eD 0)) (tC .Zu))) (MK (EY t.aW "pass_by" (Be t.aW) [] E0 (Ni t.aV "walk" (eD 0)) GF)) MN) (UM (eD 3)) {nx:=fun _ H'=>Q .Zu H',rt:=Q} [some (.ref R.x),some a,some kd,some (.ref c)] H':=fun hB kd ZM c us H' A' hc ec hC FF=>by
      rw[T8 hB] at q;refine aF fun R4 hR4=>?_;rcases A'.slp.isN with⟨hn,rfl⟩|⟨hn,p,rfl⟩
      · simp only[hn,if_true] at q;obtain⟨k0,b0,n0,r0,est,hm0⟩:=gE Z1;wp_walk using A'.ins,A'.wk.ins;have W:=A'.wk;rw[y8,est] at W;refine⟨R.wk,R.wx,R.lb,R.ln,k0,n0,b0,r0,rfl,W,fun H1 W1 K1=>?_⟩;have e:(k0,b0,n0+1)::r0=iT (cU S m).1.stk:=by rw[y8,est];rfl
        rw[e] at W1;have A2:=A'.walk W1 (K1.mono (by simp));have F2:=A'.zT W1 (K1.mono (by simp));wp_walk;refine hR4 _ _ ?_;wp_walk;have nc:=A.dX hc;exact q .Zu c us H1 A2 hc (F2.kp _ _ ec nc.1 nc.2) (hC.kt (A'.tkp F2)) (FF.trans F2)
      · simp only[hn,if_false,Bool.false_eq_true] at q;wp_walk using A'.ins;refine hR4 _ _ ?_;wp_walk;exact q (.ref p) c us H' A' hc ec hC FF
    cases hs with
    | @set a0 x v s e1 h1 =>
      refine aF fun R1 Zx=>?_;wp_walk using e1;refine Zx _ _ ?_;refine aF fun R2 Zy=>?_;wp_walk;refine Zy _ _ ?_;refine aF fun R3 ZI=>?_;wp_walk using mN,gQ,gR,gP,jF,jD,jG,jE,mM;refine⟨R,as,sl,S,_,_,N,rfl,A,ZL,.set e1 h1,⟨_,_,rfl⟩,F,g,hN,fun ZM c us H' A' hc ec hC FF=>?_⟩;wp_walk;exact ZI _ _ (tail rfl _ ZM c us H' A' hc ec hC FF)
    | @order a0 x y v s e1 h1 =>
      refine aF fun R1 Zx=>?_;wp_walk using e1;refine Zx _ _ ?_;refine aF fun R2 Zy=>?_;wp_walk;refine Zy _ _ ?_;refine aF fun R3 ZI=>?_;wp_walk using mN,gQ,gR,gP,jF,jD,jG,jE,mM;refine⟨R,as,sl,S,_,_,N,rfl,A,ZL,.order e1 h1,⟨_,_,_,.inl rfl⟩,F,g,hN,fun ZM c us H' A' hc ec hC FF=>?_⟩;wp_walk;exact ZI _ _ (tail rfl _ ZM c us H' A' hc ec hC FF)
    | @ZJ a0 x v s e1 h1 =>
      refine aF fun R1 Zx=>?_;wp_walk using e1;refine Zx _ _ ?_;refine aF fun R2 Zy=>?_;wp_walk;refine Zy _ _ ?_;refine aF fun R3 ZI=>?_;wp_walk using mN,gQ,gR,gP,jF,jD,jG,jE,mM;refine⟨R,as,sl,S,_,_,N,rfl,A,ZL,.ZJ e1 h1,⟨_,_,rfl⟩,F,g,hN,fun ZM c us H' A' hc ec hC FF=>?_⟩;wp_walk;exact ZI _ _ (tail rfl _ ZM c us H' A' hc ec hC FF)
    | @child a0 x y v s e1 h1 =>
      refine aF fun R1 Zx=>?_;wp_walk using e1;refine Zx _ _ ?_;refine aF fun R2 Zy=>?_;wp_walk;refine Zy _ _ ?_;refine aF fun R3 ZI=>?_;wp_walk using mN,gQ,gR,gP,jF,jD,jG,jE,mM;refine⟨R,as,sl,S,_,_,N,rfl,A,ZL,.child e1 h1,⟨_,_,_,.inr rfl⟩,F,g,hN,fun ZM c us H' A' hc ec hC FF=>?_⟩;wp_walk;exact ZI _ _ (tail rfl _ ZM c us H' A' hc ec hC FF)
    | @send a0 k v u s r e1 h1 h2 =>
      refine aF fun R1 Zx=>?_;wp_walk using e1;refine Zx _ _ ?_;refine aF fun R2 Zy=>?_;wp_walk;refine Zy _ _ ?_;refine aF fun R3 ZI=>?_;wp_walk using mN,gQ,gR,gP,jF,jD,jG,jE,mM;refine⟨R,as,sl,S,_,_,N,rfl,A,ZL,.send e1 h1 h2,⟨_,_,_,rfl⟩,F,g,hN,fun ZM c us H' A' hc ec hC FF=>?_⟩;wp_walk;exact ZI _ _ (tail rfl _ ZM c us H' A' hc ec hC FF)
    | @drop a0 v s e1 h1 =>
      refine aF fun R1 Zx=>?_;wp_walk using e1;refine Zx _ _ ?_;refine aF fun R2 Zy=>?_;wp_walk;refine Zy _ _ ?_;refine aF fun R3 ZI=>?_;wp_walk using mN,gQ,gR,gP,jF,jD,jG,jE,mM;refine⟨R,as,sl,S,_,_,N,rfl,A,ZL,.drop e1 h1,⟨_,rfl⟩,F,g,hN,fun ZM c us H' A' hc ec hC FF=>?_⟩;wp_walk;exact ZI _ _ (tail rfl _ ZM c us H' A' hc ec hC FF)
    | @ZA a0 x k e1 =>
      refine aF fun R1 Zx=>?_;wp_walk using e1;refine Zx _ _ ?_;refine aF fun R2 Zy=>?_;wp_walk;refine Zy _ _ ?_;refine aF fun R3 ZI=>?_;wp_walk using mN,gQ,gR,gP,jF,jD,jG,jE,mM;refine⟨R,as,sl,S,_,_,N,rfl,A,ZL,.ZA e1,⟨_,_,rfl⟩,F,g,hN,fun ZM c us H' A' hc ec hC FF=>?_⟩;wp_walk;exact ZI _ _ (tail rfl _ ZM c us H' A' hc ec hC FF)
    | @fin a0 v s e1 h1 =>
      refine aF fun R1 Zx=>?_;wp_walk using e1;refine Zx _ _ ?_;refine aF fun R2 Zy=>?_;wp_walk;refine Zy _ _ ?_;refine aF fun R3 ZI=>?_;wp_walk using mN,gQ,gR,gP,jF,jD,jG,jE,mM;refine⟨R,as,sl,S,_,_,N,rfl,A,ZL,.fin e1 h1,⟨_,rfl⟩,F,g,hN,fun ZM c us H' A' hc ec hC FF=>?_⟩;wp_walk;exact ZI _ _ (tail rfl _ ZM c us H' A' hc ec hC FF)
    | @wait a0 p x vs ss e1 e2 h1 =>
      refine aF fun R1 Zx=>?_;wp_walk using e1;refine Zx _ _ ?_;refine aF fun R2 Zy=>?_;wp_walk;refine Zy _ _ ?_;refine aF fun R3 ZI=>?_;wp_walk using mN,gQ,gR,gP,jF,jD,jG,jE,mM;refine⟨R,as,sl,S,_,_,N,rfl,A,ZL,.wait e1 e2 h1,⟨_,_,rfl⟩,F,g,hN,fun ZM c us H' A' hc ec hC FF=>?_⟩;wp_walk;exact ZI _ _ (tail rfl _ ZM c us H' A' hc ec hC FF)
    | @whl a0 p v s vs b e1 h1 e2 h2 =>
      rw[Qi rfl] at q;refine aF fun R1 Zx=>?_;wp_walk using e1;refine Zx _ _ ?_;wp_walk using A.ins;refine⟨R,as,sl,S,_,_,N,rfl,A,.whl e1 h1 e2 h2,rfl,F,g,Z1,fun H1 A1 F1=>?_⟩;wp_walk;refine fun c hc=>?_;have N4:=q0D (o:=.lst []) hc;exact q _ c [] _ (A1.kp N4) (F1.free hc) aA .nil (F1.trans (Fw.of N4))
    | @iff a0 p p2 v s vs us b o e1 h1 e2 h2 e3 h3 =>
      rw[Qi rfl] at q;refine aF fun R1 Zx=>?_;wp_walk using e1;refine Zx _ _ ?_;wp_walk using A.ins;refine⟨R,as,sl,S,_,_,N,rfl,A,.iff e1 h1 e2 h2 e3 h3,rfl,F,g,Z1,fun H1 A1 F1=>?_⟩;wp_walk;refine fun c hc=>?_;have N4:=q0D (o:=.lst []) hc;exact q _ c [] _ (A1.kp N4) (F1.free hc) aA .nil (F1.trans (Fw.of N4))
theorem Ao{t:Ad}(T:Tx w K mg t):bG P w K mg base ZF 13 t.yB t.yV ["self"] (Xw ⟨t.aV,t.aW,t.aL⟩ true):=by
  refine T.Lo.ok kN (fun vs H Q E h=>?_) (fun ZE A outer s H vs Q E hr h=>?_)
  · obtain⟨R,as,sl,S,N,rfl,_⟩:=h;rfl
  · obtain⟨R,as,sl,S,N,rfl,A,FN,hN,q⟩:=h;refine⟨_,(aC (dA T.aX T.dF (pv 0) dJ)
      (aC (bB (i:=1) kN.nd rfl (Or.inl rfl) (bX aB))
      (aC (bB (i:=2) kN.nd rfl (Or.inl rfl) aE)
      (aC (EJ PassesOwn.never (aQ rO (aO T.aX T.dF (pv 0)) dJ (nomark _)) (aC (bB (i:=3) kN.nd rfl (Or.inl rfl) (cC (aO T.aX T.kE (pv 0)) T.cQ T.Df (BK T) (hr.mono (by omega)) T.DQ .nil pass0))
      (aI (bI (aQ rO (pv 3) dJ (nomark _)) (aI (bM (EH PySem.F.slot_list_extend PySem.F.type_list_extend xR (pv 1) (aD (bL (pv 0) T.aX T.Eo (Cg T) (hr.mono (by omega)) T.GR .nil pass0 (aD dJ aB)) aB)))) (aI (bI (aQ cN (pv 2) (tO (v:=.int 300) rfl T.DU ⟨_,rfl⟩) (nomark _)) (aI (bM (EH PySem.F.slot_list_extend PySem.F.type_list_extend xR (pv 1) (aD (cC (pv 0) T.aX T.De (BJ T) (hr.mono (by omega)) T.DP .nil pass0) aB)))) (aC (Uk (i:=2) kN.nd rfl (Or.inl rfl) aE Ht)
      (aI (bM (EH PySem.F.slot_list_extend PySem.F.type_list_extend xR (pv 1) (aD (bL (pv 0) T.aX T.FQ (EC T) (hr.mono (by omega)) T.Ia .nil pass0 (aD (pv 3) aB)) aB)))))))))))
      (aI (aP (pv 1))))))),?_⟩
    and_intros
    refine aF fun R1 Zx=>?_;wp_walk using A.ins;have A1:=A.attr .Zu .Zu S.ar S.nw rfl;have F1:=Fw.set (R:=R) (as:=as) (H:=H) (p:=R.x) (o:=(.ins t.aV R.dx [("walk",.ref R.wk),("sleep",.Zu),("arg",wv S.ar),("now",.int S.nw),("names",.ref R.nm),("tickets",.ref R.tk),("letters",.ref R.lt)])) (.inl (by simp[Rn.cells]));generalize Zs H R.x (.ins t.aV R.dx [("walk",.ref R.wk),("sleep",.Zu),("arg",wv S.ar),("now",.int S.nw),("names",.ref R.nm),("tickets",.ref R.tk),("letters",.ref R.lt)])=G1 at *;refine Zx _ _ ?_;clear Zx;clear R1;refine aF fun R2 Zy=>?_;wp_walk;refine fun c hc=>?_;have fc:H c=none:=F1.free hc;have nc:=A.dX fc;have N2:=q0D (o:=.lst []) hc;have ec:Zs G1 c (.lst []) c=some (.lst []):=aA;replace A1:=A1.kp N2;replace F1:=F1.trans (Fw.of N2);generalize Zs G1 c (.lst [])=G2 at *;refine Zy _ _ ?_;clear Zy;clear R2;refine aF fun R3 ZI=>?_;wp_walk;refine ZI _ _ ?_;clear ZI;clear R3;refine aF fun R4 hR4=>?_;obtain⟨S0,hS0⟩:∃ S0:Pu,S0={S with sl:=.Zu}:=⟨_,rfl⟩;rw[<- hS0] at q FN;replace A1:bA ⟨t.aV,t.aW,t.aL⟩ G2 R as .Zu S0:=by rw[hS0];exact A1
    have s0:S0.sl=.Zu:=by rw[hS0]
    clear hS0;obtain⟨Y,hY⟩:∃ Y:Nat->St->Hp->Prop,∀ m σ G,Y m σ G = ∃(many:Nat) (u:Option V) (us:List V) (cs:Cmds) (S1:Pu) (sl1:V),σ=[some (.ref R.x),some (.ref c),some (.int many),u]/\G c=some (.lst us)/\Fw R as as H G/\gI G us cs/\bA ⟨t.aV,t.aW,t.aL⟩ G R as sl1 S1 /\
        ((S1.sl=.Zu/\many<=300/\cs.length<=many/\m=301 - many/\ZH true S1 (N+many)/\iQ 300 S0=((iQ (300 - many) S1).1,cs++(iQ (300 - many) S1).2))\/(S1.sl.isN=false/\iQ 300 S0=(S1,cs))):=⟨_,fun _ _ _=>rfl⟩
    refine⟨Y,⟨301,?_⟩,?_⟩
    · rw[hY];exact⟨0,none,[],[],S0,.Zu,rfl,ec,F1,.nil,A1,.inl ⟨s0,by decide,Nat.zero_le _,rfl,FN,rfl⟩⟩
    intro m σ G hG;rw[hY] at hG;obtain⟨many,u,us,cs,S1,sl1,rfl,eG,FG,hC,A2,hG⟩:=hG;rcases hG with⟨hs1,hm,lC,rfl,F0,eq⟩|⟨hs1,eq⟩
    · have:sl1=.Zu:=by have:=A2.slp;rw[hs1] at this;exact this
      subst this;wp_walk using A2.ins;refine⟨fun σ' G'=>∃ m',m' < 301 - many/\Y m' σ' G',fun _ _ z=>z,?_⟩;wp_walk using A2.wk.ins,A2.ins;refine⟨R.wk,R.wx,R.lb,R.ln,S1.stk,rfl,A2.wk,F0.sk.ok,fun H1 W1 _ Z1 K1=>?_,fun m v H1 W1 _ Z1 hv K1=>?_⟩
      · have A3:bA ⟨t.aV,t.aW,t.aL⟩ H1 R as .Zu S1.cG:=A2.walk W1 K1;have F2:=A2.zT W1 K1;replace eG:=F2.kp _ _ eG nc.1 nc.2;rw[dU Z1] at eq;wp_walk using A3.ins,eG;refine⟨R,as,.Zu,S1.cG,none,rfl,A3,fun sl3 c3 us3 H3 A4 hc3 ec3 hC3 F3=>?_⟩;have lc3:(S1.cG.ends none).2.length<=1:=by simp[Pu.ends]
        have eG3:=F3.kp _ _ eG nc.1 nc.2;have l1:=hC.len;have l3:=hC3.len;wp_walk using eG3,ec3;refine⟨by omega,?_⟩;have A5:=A4.other (vs:=us++us3) eG3 nc.1 nc.2;have F5:=((FG.trans F2).trans F3).fresh (o:=.lst (us++us3)) fc;have tk5:aK H3 (Zs H3 c (.lst (us++us3))):=aK.tT eG3 (by intro _ z;cases z);have hC5:=((hC.kt (A2.tkp F2)).kt (A3.tkp F3)).app hC3 |>.kt tk5;refine⟨0,by omega,?_⟩;rw[hY];exact⟨many,some .Zu,_,_,_,sl3,rfl,aA,F5,hC5,A5,.inr ⟨rfl,by rw[eq]⟩⟩
      · have A3:bA ⟨t.aV,t.aW,t.aL⟩ H1 R as .Zu S1.cG:=A2.walk W1 K1;have F2:=A2.zT W1 K1;have FC:=F0.cG hs1;replace eG:=F2.kp _ _ eG nc.1 nc.2;obtain⟨a,rfl⟩:∃ a,v=.ref a:=by cases hv<;>exact⟨_,rfl⟩
        wp_walk using reduceCtorEq,if_false;by_cases h3:many=300
        · subst h3;rw[if_pos (by decide)];rw[jS Z1] at eq;wp_walk using A3.ins,eG;refine⟨R,as,.Zu,S1.cG,rfl,A3,fun sl3 c3 us3 H3 A4 hc3 ec3 hC3 F3=>?_⟩;have lc3:(S1.cG.Cs).2.length<=1:=by simp[Pu.Cs]
          have eG3:=F3.kp _ _ eG nc.1 nc.2;have l1:=hC.len;have l3:=hC3.len;wp_walk using eG3,ec3;refine⟨by omega,?_⟩;have A5:=A4.other (vs:=us++us3) eG3 nc.1 nc.2;have F5:=((FG.trans F2).trans F3).fresh (o:=.lst (us++us3)) fc;have tk5:aK H3 (Zs H3 c (.lst (us++us3))):=aK.tT eG3 (by intro _ z;cases z);have hC5:=((hC.kt (A2.tkp F2)).kt (A3.tkp F3)).app hC3 |>.kt tk5;refine⟨0,by omega,?_⟩;rw[hY];exact⟨300,some (.ref a),_,_,_,sl3,rfl,aA,F5,hC5,A5,.inr ⟨rfl,by rw[eq]⟩⟩
        · rw[if_neg (by omega)];obtain⟨n,hn⟩:∃ n,300 - many=n+1:=⟨299 - many,by omega⟩;rw[hn] at eq;refine⟨_,rfl,?_⟩;wp_walk using A3.ins,eG;refine⟨R,as,.Zu,S1.cG,.ref a,m,N+many,rfl,A3,hs1,hv,FC,FC.stm Z1,Z1,by omega,fun sl3 c3 us3 H3 A4 hc3 ec3 hC3 F3=>?_⟩;have lc3:=OW S1.cG m;have eG3:=F3.kp _ _ eG nc.1 nc.2;have l1:=hC.len;have l3:=hC3.len;wp_walk using eG3,ec3;refine⟨by omega,?_⟩;have A5:=A4.other (vs:=us++us3) eG3 nc.1 nc.2;have F5:=((FG.trans F2).trans F3).fresh (o:=.lst (us++us3)) fc;have tk5:aK H3 (Zs H3 c (.lst (us++us3))):=aK.tT eG3 (by intro _ z;cases z);have hC5:=((hC.kt (A2.tkp F2)).kt (A3.tkp F3)).app hC3 |>.kt tk5;cases hz:(one S1.cG m).1.sl.isN with
          | true =>
            rw[pY Z1 hz] at eq;refine⟨301 - (many+1),by omega,?_⟩;rw[hY];exact⟨many+1,some (.ref a),_,_,_,sl3,rfl,aA,F5,hC5,A5,.inl ⟨C7 hz,by omega,by rw[List.length_append];omega,rfl,FC.one Z1 hs1 (by omega),by rw[eq,show 300 - (many+1)=n by omega,List.append_assoc]⟩⟩
          | false =>
            rw[jR Z1 hz] at eq;refine⟨0,by omega,?_⟩;rw[hY];exact⟨many+1,some (.ref a),_,_,_,sl3,rfl,aA,F5,hC5,A5,.inr ⟨hz,by rw[eq]⟩⟩
    · rcases A2.slp.isN with⟨z,_⟩|⟨_,p,rfl⟩
      · rw[hs1] at z;cases z
      wp_walk using A2.ins,reduceCtorEq,if_false;refine hR4 _ _ ?_;wp_walk;rw[eq] at q;exact q _ c us G A2 fc eG hC FG
theorem As{t:Ad}(T:Tx w K mg t):bG P w K mg base ZF 14 t.yE t.yZ ["self","worth"] (Px ⟨t.aV,t.aW,t.aL⟩ true):=by
 refine T.Ls.ok Gr (fun vs H Q E h=>?_) (fun ZE A outer s H vs Q E hr h=>?_)
 ·obtain⟨R,as,sl,S,w,N,rfl,_⟩:=h;rfl
 ·obtain⟨R,as,sl,S,w,N,rfl,A,F,hN,hw,ZL,q⟩:=h;have hu:=oQ hr;refine⟨_,(aC (mU hu (aO T.aX T.fW (pv 0)) (aY bJ (cC (aO T.aX T.kE (pv 0)) T.cQ T.gS (fX T) (hr.mono (by omega)) T.hW .nil pass0) aE (fun _ _=>rfl)) (pv 1))
   (aC (bM (cC (aO T.aX T.kE (pv 0)) T.cQ T.jH (hZ T) (hr.mono (by omega)) T.kX .nil pass0))
   (aI (aP (cC (pv 0) T.aX T.Cb (Ao T) (hr.mono (by omega)) T.DL .nil pass0))))),?_⟩
  and_intros
  have l1:(l8 S.nm).length<=N:=by rw[l8,List.length_map];exact F.nm
  rcases ZL with⟨k,hk⟩|⟨ts,hk⟩
  ·obtain⟨x,Z1⟩:=F.sl.1 k hk;obtain⟨k0,b0,n0,r0,est,hm0⟩:=gE Z1;have nm1:∀ v,cL H v (.ZA x k)->∃ a xs,v=.ref a/\H a=some (.tup (.str "hear"::.str x::xs)):=fun v h=>by cases h with|ZA e=>exact⟨_,_,rfl,e⟩
   simp only[Pu.wake,Z1] at q;refine aF fun R1 Zx=>?_;wp_walk using A.ins,A.wk.ins,A.nm;have W:=A.wk;rw[est] at W;refine⟨R.wk,R.wx,R.lb,R.ln,k0,n0,b0,r0,_,rfl,W,hm0,fun v hv=>?_⟩;obtain⟨a,xs,rfl,e1⟩:=nm1 v hv;wp_walk using e1,A.nm,mS;refine⟨by omega,?_⟩;have A1:=A.name x w;have F1:=Fw.set (R:=R) (as:=as) (H:=H) (o:=.dK (l8 (dO S.nm x w))) (p:=R.nm) (.inl (by simp[Rn.cells]));generalize Zs H R.nm (.dK (l8 (dO S.nm x w)))=G1 at *;refine Zx _ _ ?_;clear Zx;clear R1;refine aF fun R2 Zy=>?_;wp_walk using A1.ins,A1.wk.ins;have W1:=A1.wk;rw[show({S with nm:=dO S.nm x w}:Pu).stk=S.stk from rfl,est] at W1;refine⟨R.wk,R.wx,R.lb,R.ln,k0,n0,b0,r0,rfl,W1,fun H2 W2 K2=>?_⟩;have e:(k0,b0,n0+1)::r0=iT S.stk:=by rw[est];rfl
   rw[e] at W2;have A2:=A1.walk W2 (K2.mono (by simp));have F2:=F1.trans (A1.zT W2 (K2.mono (by simp)));wp_walk;refine Zy _ _ ?_;clear Zy;clear R2;wp_walk using A2.ins;exact⟨R,as,sl,_,N+1,rfl,A2,F.wake Z1 hw x,by omega,fun sl3 c us H3 A3 hc ec hC F3=>q sl3 c us H3 A3 (F2.free hc) ec hC (F2.trans F3)⟩
  ·obtain⟨x,ss,Z1⟩:=F.sl.2 ts hk;obtain⟨k0,b0,n0,r0,est,hm0⟩:=gE Z1;have nm1:∀ v,cL H v (.wait x ss)->∃ a xs,v=.ref a/\H a=some (.tup (.str "wait"::.str x::xs)):=fun v h=>by cases h with|wait e _ _=>exact⟨_,_,rfl,e⟩
   simp only[Pu.wake,Z1] at q;refine aF fun R1 Zx=>?_;wp_walk using A.ins,A.wk.ins,A.nm;have W:=A.wk;rw[est] at W;refine⟨R.wk,R.wx,R.lb,R.ln,k0,n0,b0,r0,_,rfl,W,hm0,fun v hv=>?_⟩;obtain⟨a,xs,rfl,e1⟩:=nm1 v hv;wp_walk using e1,A.nm,mS;refine⟨by omega,?_⟩;have A1:=A.name x w;have F1:=Fw.set (R:=R) (as:=as) (H:=H) (o:=.dK (l8 (dO S.nm x w))) (p:=R.nm) (.inl (by simp[Rn.cells]));generalize Zs H R.nm (.dK (l8 (dO S.nm x w)))=G1 at *;refine Zx _ _ ?_;clear Zx;clear R1;refine aF fun R2 Zy=>?_;wp_walk using A1.ins,A1.wk.ins;have W1:=A1.wk;rw[show({S with nm:=dO S.nm x w}:Pu).stk=S.stk from rfl,est] at W1;refine⟨R.wk,R.wx,R.lb,R.ln,k0,n0,b0,r0,rfl,W1,fun H2 W2 K2=>?_⟩;have e:(k0,b0,n0+1)::r0=iT S.stk:=by rw[est];rfl
   rw[e] at W2;have A2:=A1.walk W2 (K2.mono (by simp));have F2:=F1.trans (A1.zT W2 (K2.mono (by simp)));wp_walk;refine Zy _ _ ?_;clear Zy;clear R2;wp_walk using A2.ins;exact⟨R,as,sl,_,N+1,rfl,A2,F.wake Z1 hw x,by omega,fun sl3 c us H3 A3 hc ec hC F3=>q sl3 c us H3 A3 (F2.free hc) ec hC (F2.trans F3)⟩
theorem vE{t:Ad}(T:Tx w K mg t):bG P w K mg base ZF 15 t.jU t.j4 ["self","key","worth"] (UE ⟨t.aV,t.aW,t.aL⟩ true):=by
 refine T.zM.ok vW (fun vs H Q E h=>?_) (fun ZE A outer s H vs Q E hr h=>?_)
 ·obtain⟨R,as,sl,S,k,w,N,rfl,_⟩:=h;rfl
 ·obtain⟨R,as,sl,S,k,w,N,rfl,A,F,hN,hw,ZL,q⟩:=h;refine⟨_,(aC (bI (aQ (Ub 2 (by decide) (Ed hr (by decide))) (aO T.aX T.dF (pv 0)) (bC (aD aS (aD (pv 1) aB))) (nomark _)) (aI (aP (bL (pv 0) T.aX T.Cd (As T) (hr.mono (by omega)) T.DO .nil pass0 (aD (pv 2) aB)))) aZ)
   (aC (bM (jJ (Mc (aO T.aX T.gG (pv 0)) (pv 1) (bX aB) ⟨rfl,rfl,rfl,rfl⟩) (pv 2)))
   (aI (aP (bX aB))))),?_⟩
  and_intros
  have tl:=A.slp;rcases ZL with⟨k',es⟩|⟨ts,es⟩
  ·rw[es] at tl;obtain⟨p,rfl,ep⟩:=tl;refine aF fun R1 Zx=>?_;wp_walk using A.ins;refine fun p1 h1=>?_;have N1:=q0D (o:=.tup [.str "hear",.str k]) h1;have f1:Zs H p1 (.tup [.str "hear",.str k]) p1=some (.tup [.str "hear",.str k]):=aA;have A1:=A.kp N1;have hp1:=N1.at ep;have F1:=Fw.of (R:=R) (as:=as) N1;generalize Zs H p1 (.tup [.str "hear",.str k])=G1 at *;refine .inl ⟨_,OD 1 hp1 f1,?_⟩;by_cases hk:k'=k
   ·subst hk;simp only[Pu.iJ,es,if_true] at q;wp_walk using decide_true,A1.ins;exact⟨R,as,.ref p,S,w,N,rfl,A1,F,by omega,hw,.inl ⟨k',es⟩,fun sl3 c us H3 A3 hc ec hC F3=>q as sl3 c us H3 A3 (F1.free hc) (A.dX (F1.free hc)).2 ec hC (F1.trans F3)⟩
   ·have hq:S.iJ k w=({S with lt:=gX S.lt k w},[]):=by simp only[Pu.iJ,es,if_neg hk]
    rw[hq] at q;wp_walk using decide_false,hk;refine Zx _ _ ?_;clear Zx;clear R1;refine aF fun R2 Zy=>?_;obtain⟨kvs,el,L⟩:=A1.lt;have ll:=L.len;have fl:=F.lt;wp_walk using A1.ins,el;refine fun p2 h2=>?_;have hp2:=F1.free h2;have N2:=q0D (o:=.lst []) h2;have f2:Zs G1 p2 (.lst []) p2=some (.lst []):=aA;have A2:=A1.kp N2;have el2:=N2.at el;have LL:=L.keep (fun a _ o h=>N2.at h);have F2:=F1.trans (Fw.of N2);have nc:=A1.dX h2;generalize Zs G1 p2 (.lst [])=G2 at *;wp_walk using el2;refine⟨by omega,fun v hv=>?_,fun hv=>?_⟩
    ·rcases LL.look k with⟨z,_⟩|⟨l,ws,z,hn,hla,hl⟩
     ·rw[z] at hv;cases hv
     rw[z] at hv;cases hv;have lw:=(F.lw k ws hn).1;obtain⟨A3,_⟩:=A2.BF el2 z (ws++[w]);have F3:=F2.trans (Fw.set (p:=l) (o:=.lst ((ws++[w]).map wv)) (.inr hla));rw[show fJ S.lt k (ws++[w])=gX S.lt k w by rw[gX,hn]] at A3;rw[List.map_append,List.map_cons,List.map_nil] at A3 F3;wp_walk using hl;refine⟨by simp;omega,?_⟩;generalize Zs G2 l (.lst (ws.map wv++[wv w]))=G3 at *;wp_walk;refine Zy _ _ ?_;wp_walk;refine fun c hc=>?_;have N4:=q0D (o:=.lst []) hc;exact q as _ c [] _ (A3.kp N4) (F3.free hc) (A3.dX hc).2 aA .nil (F3.trans (Fw.of N4))
    ·rcases LL.look k with⟨z,hn⟩|⟨l,ws,z,_⟩
     rotate_left
     ·rw[z] at hv;cases hv
     have A3:=A2.OL (ws:=[]) el2 z f2 nc.1 nc.2;have F3:=F2.trans (Fw.set (p:=R.lt) (o:=.dK (eM kvs (.inr k) (.ref p2))) (.inl (by simp[Rn.cells])));have f3:Zs G2 R.lt (.dK (eM kvs (.inr k) (.ref p2))) p2=some (.lst []):=kD el2 f2 (by intro z;cases z);have el3:Zs G2 R.lt (.dK (eM kvs (.inr k) (.ref p2))) R.lt=some (.dK (eM kvs (.inr k) (.ref p2))):=aA;have z3:bT (eM kvs (.inr k) (.ref p2)) (.inr k)=some (.ref p2):=by rw[Bl,if_pos rfl]
     generalize Zs G2 R.lt (.dK (eM kvs (.inr k) (.ref p2)))=G3 at *;wp_walk using f3;obtain⟨A4,_⟩:=A3.BF el3 z3 [w];have e4:fJ (S.lt++[(k,([]:List Wo))]) k [w]=gX S.lt k w:=by rw[Dz hn,gX,hn]
     rw[show({S with lt:=S.lt++[(k,([]:List Wo))]}:Pu).lt=S.lt++[(k,[])] from rfl,e4] at A4;have F4:Fw R as (as++[p2]) H (Zs G3 p2 (.lst [wv w])):=by
      have z:=F3.fresh (o:=.lst [wv w]) hp2;exact⟨z.kp,z.dom,fun a ha=>by
       rcases List.mem_append.mp ha with ha|ha
       ·exact .inl ha
       ·exact .inr (by rw[show a=p2 by simpa using ha];exact hp2)⟩
     replace A4:bA ⟨t.aV,t.aW,t.aL⟩ (Zs G3 p2 (.lst [wv w])) R (as++[p2]) (.ref p) {S with lt:=gX S.lt k w}:=A4;generalize Zs G3 p2 (.lst [wv w])=G4 at *;refine Zy _ _ ?_;wp_walk;refine fun c hc=>?_;have N4:=q0D (o:=.lst []) hc;exact q (as++[p2]) _ c [] _ (A4.kp N4) (F4.free hc) (A4.dX hc).2 aA .nil (F4.trans (Fw.of N4))
  ·rw[es] at tl;obtain⟨p,pw,rfl,ep,epw⟩:=tl;refine aF fun R1 Zx=>?_;wp_walk using A.ins;refine fun p1 h1=>?_;have N1:=q0D (o:=.tup [.str "hear",.str k]) h1;have f1:Zs H p1 (.tup [.str "hear",.str k]) p1=some (.tup [.str "hear",.str k]):=aA;have A1:=A.kp N1;have hp1:=N1.at ep;have hpw:=N1.at epw;have F1:=Fw.of (R:=R) (as:=as) N1;generalize Zs H p1 (.tup [.str "hear",.str k])=G1 at *;refine .inr ⟨Str.ofString "wait",Str.ofString "hear",k,pw,_,hp1,hpw,rfl,by decide,?_⟩;have hq:S.iJ k w=({S with lt:=gX S.lt k w},[]):=by simp only[Pu.iJ,es]
   rw[hq] at q;wp_walk;refine Zx _ _ ?_;clear Zx;clear R1;refine aF fun R2 Zy=>?_;obtain⟨kvs,el,L⟩:=A1.lt;have ll:=L.len;have fl:=F.lt;wp_walk using A1.ins,el;refine fun p2 h2=>?_;have hp2:=F1.free h2;have N2:=q0D (o:=.lst []) h2;have f2:Zs G1 p2 (.lst []) p2=some (.lst []):=aA;have A2:=A1.kp N2;have el2:=N2.at el;have LL:=L.keep (fun a _ o h=>N2.at h);have F2:=F1.trans (Fw.of N2);have nc:=A1.dX h2;generalize Zs G1 p2 (.lst [])=G2 at *;wp_walk using el2;refine⟨by omega,fun v hv=>?_,fun hv=>?_⟩
   ·rcases LL.look k with⟨z,_⟩|⟨l,ws,z,hn,hla,hl⟩
    ·rw[z] at hv;cases hv
    rw[z] at hv;cases hv;have lw:=(F.lw k ws hn).1;obtain⟨A3,_⟩:=A2.BF el2 z (ws++[w]);have F3:=F2.trans (Fw.set (p:=l) (o:=.lst ((ws++[w]).map wv)) (.inr hla));rw[show fJ S.lt k (ws++[w])=gX S.lt k w by rw[gX,hn]] at A3;rw[List.map_append,List.map_cons,List.map_nil] at A3 F3;wp_walk using hl;refine⟨by simp;omega,?_⟩;generalize Zs G2 l (.lst (ws.map wv++[wv w]))=G3 at *;wp_walk;refine Zy _ _ ?_;wp_walk;refine fun c hc=>?_;have N4:=q0D (o:=.lst []) hc;exact q as _ c [] _ (A3.kp N4) (F3.free hc) (A3.dX hc).2 aA .nil (F3.trans (Fw.of N4))
   ·rcases LL.look k with⟨z,hn⟩|⟨l,ws,z,_⟩
    rotate_left
    ·rw[z] at hv;cases hv
    have A3:=A2.OL (ws:=[]) el2 z f2 nc.1 nc.2;have F3:=F2.trans (Fw.set (p:=R.lt) (o:=.dK (eM kvs (.inr k) (.ref p2))) (.inl (by simp[Rn.cells])));have f3:Zs G2 R.lt (.dK (eM kvs (.inr k) (.ref p2))) p2=some (.lst []):=kD el2 f2 (by intro z;cases z);have el3:Zs G2 R.lt (.dK (eM kvs (.inr k) (.ref p2))) R.lt=some (.dK (eM kvs (.inr k) (.ref p2))):=aA;have z3:bT (eM kvs (.inr k) (.ref p2)) (.inr k)=some (.ref p2):=by rw[Bl,if_pos rfl]
    generalize Zs G2 R.lt (.dK (eM kvs (.inr k) (.ref p2)))=G3 at *;wp_walk using f3;obtain⟨A4,_⟩:=A3.BF el3 z3 [w];have e4:fJ (S.lt++[(k,([]:List Wo))]) k [w]=gX S.lt k w:=by rw[Dz hn,gX,hn]
    rw[show({S with lt:=S.lt++[(k,([]:List Wo))]}:Pu).lt=S.lt++[(k,[])] from rfl,e4] at A4;have F4:Fw R as (as++[p2]) H (Zs G3 p2 (.lst [wv w])):=by
     have z:=F3.fresh (o:=.lst [wv w]) hp2;exact⟨z.kp,z.dom,fun a ha=>by
      rcases List.mem_append.mp ha with ha|ha
      ·exact .inl ha
      ·exact .inr (by rw[show a=p2 by simpa using ha];exact hp2)⟩
    replace A4:bA ⟨t.aV,t.aW,t.aL⟩ (Zs G3 p2 (.lst [wv w])) R (as++[p2]) (.ref p) {S with lt:=gX S.lt k w}:=A4;generalize Zs G3 p2 (.lst [wv w])=G4 at *;refine Zy _ _ ?_;wp_walk;refine fun c hc=>?_;have N4:=q0D (o:=.lst []) hc;exact q (as++[p2]) _ c [] _ (A4.kp N4) (F4.free hc) (A4.dX hc).2 aA .nil (F4.trans (Fw.of N4))
theorem vF{t:Ad}(T:Tx w K mg t):bG P w K mg base ZF 2 t.jV t.j5 ["self","ticket","worth"] (Gz t.aL):=by
 refine T.zN.ok vX (fun vs H Q E h=>?_) (fun ZE A outer s H vs Q E hr h=>?_)
 ·obtain⟨tk,tx,dp,da,made,pend,ans,i,w,rfl,_⟩:=h;rfl
 ·obtain⟨tk,tx,dp,da,made,pend,ans,i,w,rfl,R,hi,hl,q⟩:=h;have hu:=oQ hr;refine⟨_,(aC (bM (bL (pv 0) T.bD T.qT (oX T) (hr.mono (by omega)) T.sN .nil pass0 (aD (pv 1) aB)))
   (aI (mU hu (aO T.bD T.gF (pv 0)) (pv 1) (pv 2)))),?_⟩
  and_intros
  wp_walk using R.ins;refine⟨tk,tx,dp,da,made,pend,ans,i,rfl,R,hi,fun H1 R1 K1=>?_⟩;wp_walk using R1.ins,R1.ha,AJ (wv w) (JP fun p hp z=>R.dis p hp (z▸hi));have n1:=R.n1;refine⟨by simp only[kS,List.length_map];omega,q _ ⟨by rw[aG n1.2];exact R1.ins,by rw[aG R.nda];exact R1.hp,by rw[aA];simp[kS],R.nda,R1.lt,R1.asc,fun p hp=>?_,fun p hp z=>?_,R.small⟩ ?_⟩
  ·rcases List.mem_append.mp hp with hp|hp
   ·exact R.la p hp
   ·rw[show p=(i,w) by simpa using hp];exact R.lt i hi
  ·rcases List.mem_append.mp hp with hp|hp
   ·exact R1.dis p hp z
   ·rw[show p=(i,w) by simpa using hp] at z;simpa using(List.mem_filter.mp z).2
  ·intro b o eb nb;simp only[List.mem_cons,List.not_mem_nil,or_false,not_or] at nb;rw[aG nb.2];exact K1.at1 eb nb.1
theorem Ar{t:Ad}(T:Tx w K mg t):bG P w K mg base ZF 15 t.mB t.mH ["self","ticket","worth"] (Pq ⟨t.aV,t.aW,t.aL⟩ true):=by
 refine T.C0.ok AW (fun vs H Q E h=>?_) (fun ZE A outer s H vs Q E hr h=>?_)
 ·obtain⟨R,as,sl,S,i,w,N,rfl,_⟩:=h;rfl
 ·obtain⟨R,as,sl,S,i,w,N,rfl,A,F,hN,hw,hi,hn,q⟩:=h;refine⟨_,(aC (bM (bL (aO T.aX T.cJ (pv 0)) T.bD T.xC (vF T) (hr.mono (by omega)) T.yL .nil pass0 (aD (pv 1) (aD (pv 2) aB))))
   (aC (bI (PW.pt (Dr (aQ cN (aY bJ (aO T.aX T.dF (pv 0)) aE (fun _ _=>rfl)) aS (nomark _)) (xZ (aQ Ge (pv 1) (aY bJ (aO T.aX T.dF (pv 0)) aE (fun _ _=>rfl)) (by with_unfolding_all rfl))))) (aI (aP (bL (pv 0) T.aX T.Cd (As T) (hr.mono (by omega)) T.DO .nil pass0 (aD (pv 1) aB)))) aZ)
   (aI (aP (bX aB))))),?_⟩
  and_intros
  refine aF fun R1 Zx=>?_;wp_walk using A.ins,A.tk.ins;refine⟨R.tk,R.tx,R.dp,R.da,_,_,_,i,w,rfl,A.tk,hi,by have:=F.an;omega,fun H1 T1 K1=>?_⟩;have K2:Kp [R.tk,R.dp,R.da] H H1:=K1.mono (by simp;try omega)
  have A1:bA ⟨t.aV,t.aW,t.aL⟩ H1 R as sl (S.done i w):=A.tick T1 K2;have F1:=A.Ea T1 K2;have FD:=F.done (i:=i) hw;have wi:eY (some i):=cM (by have:=(A.tk.lt i hi).1;omega) (by have:=(A.tk.lt i hi).2;have:=F.md;omega);wp_walk;refine Zx _ _ ?_;clear Zx;clear R1;refine aF fun R2 Zy=>?_;cases es:S.sl with
  | Zu=>rw[es] at hn;cases hn
  | wait ts =>
   have ZL:=A1.slp;rw[show(S.done i w).sl=S.sl from rfl,es] at ZL;obtain⟨p,p2,rfl,ep,ep2⟩:=ZL;simp only[Pu.gY,es] at q;wp_walk using A1.ins,ep,ep2,OF,IC;refine⟨rfl,?_⟩;by_cases ht:i∈ts
   ·rw[if_pos ht] at q;wp_walk using ht,decide_true,A1.ins;exact⟨R,as,.ref p,_,some i,N+1,rfl,A1,FD,by omega,wi,.inr ⟨ts,es⟩,fun sl3 c us H3 A3 hc ec hC F3=>q sl3 c us H3 A3 (F1.free hc) ec hC (F1.trans F3)⟩
   ·rw[if_neg ht] at q;wp_walk using ht,decide_false;refine Zy _ _ ?_;wp_walk;refine fun c hc=>?_;have N4:=q0D (o:=.lst []) hc;exact q _ c [] _ (A1.kp N4) (F1.free hc) aA .nil (F1.trans (Fw.of N4))
  | new =>
   have ZL:=A1.slp;rw[show(S.done i w).sl=S.sl from rfl,es] at ZL;obtain⟨p,rfl,ep⟩:=ZL;simp only[Pu.gY,es] at q;wp_walk using A1.ins,ep;refine Zy _ _ ?_;wp_walk;refine fun c hc=>?_;have N4:=q0D (o:=.lst []) hc;exact q _ c [] _ (A1.kp N4) (F1.free hc) aA .nil (F1.trans (Fw.of N4))
  | ZA k =>
   have ZL:=A1.slp;rw[show(S.done i w).sl=S.sl from rfl,es] at ZL;obtain⟨p,rfl,ep⟩:=ZL;simp only[Pu.gY,es] at q;wp_walk using A1.ins,ep;refine Zy _ _ ?_;wp_walk;refine fun c hc=>?_;have N4:=q0D (o:=.lst []) hc;exact q _ c [] _ (A1.kp N4) (F1.free hc) aA .nil (F1.trans (Fw.of N4))
  | ended u =>
   have ZL:=A1.slp;rw[show(S.done i w).sl=S.sl from rfl,es] at ZL;obtain⟨p,rfl,ep⟩:=ZL;simp only[Pu.gY,es] at q;wp_walk using A1.ins,ep;refine Zy _ _ ?_;wp_walk;refine fun c hc=>?_;have N4:=q0D (o:=.lst []) hc;exact q _ c [] _ (A1.kp N4) (F1.free hc) aA .nil (F1.trans (Fw.of N4))
  | worn =>
   have ZL:=A1.slp;rw[show(S.done i w).sl=S.sl from rfl,es] at ZL;obtain⟨p,rfl,ep⟩:=ZL;simp only[Pu.gY,es] at q;wp_walk using A1.ins,ep;refine Zy _ _ ?_;wp_walk;refine fun c hc=>?_;have N4:=q0D (o:=.lst []) hc;exact q _ c [] _ (A1.kp N4) (F1.free hc) aA .nil (F1.trans (Fw.of N4))
theorem Aq{t:Ad}(T:Tx w K mg t):bG P w K mg base ZF 16 t.yD t.yY ["self","happening"] (Pr ⟨t.aV,t.aW,t.aL⟩ true):=by
 refine T.Lr.ok Gq (fun vs H Q E h=>?_) (fun ZE A outer s H vs Q E hr h=>?_)
 ·obtain⟨R,as,sl,S,v,h,N,rfl,_⟩:=h;rfl
 ·obtain⟨R,as,sl,S,v,h,N,rfl,A,F,hN,hn,hH,ok,q⟩:=h;refine⟨_,(aC (bI (AI (bL (pv 0) T.aX T.xA (vD T) (hr.mono (by omega)) T.yJ .nil pass0 (aD (pv 1) aB))) (aI (aP (bX aB))) aZ)
   (aC (dA T.aX T.tG (pv 0) (cO (uF rfl) rfl T.MU Fe (aD (aO T.aX T.tG (pv 0)) (aD (aY bJ (pv 1) aE (fun _ _=>rfl)) aB))))
   (aC (bI (aQ cN (aY bJ (pv 1) aE (fun _ _=>rfl)) aS (nomark _)) (aC (dA T.aX T.Ce (pv 0) (aY bJ (pv 1) aE (fun _ _=>rfl)))
   (aI (aP (cC (pv 0) T.aX T.Cb (Ao T) (hr.mono (by omega)) T.DL .nil pass0)))) aZ)
   (aC (bI (aQ cN (aY bJ (pv 1) aE (fun _ _=>rfl)) aS (nomark _)) (aI (aP (bL (pv 0) T.aX T.BG (Ar T) (hr.mono (by omega)) T.CF .nil pass0 (aD (aY bJ (pv 1) aE (fun _ _=>rfl)) (aD (aY bJ (pv 1) aE (fun _ _=>rfl)) aB))))) aZ)
   (aI (aP (bL (pv 0) T.aX T.xB (vE T) (hr.mono (by omega)) T.yK .nil pass0 (aD (aY bJ (pv 1) aE (fun _ _=>rfl)) (aD (aY bJ (pv 1) aE (fun _ _=>rfl)) aB))))))))),?_⟩
  and_intros
  refine aF fun R1 Zx=>?_;wp_walk using A.ins;refine⟨R,as,sl,S,v,h,rfl,A,hn,hH,fun H1 K1=>?_⟩;have A1:=A.kp K1;obtain⟨a,rfl,eh⟩:=hH;have eh1:=K1.at eh;cases ho:S.over h with
  | true =>
   simp only[Pu.take,ho,if_true] at q;wp_walk;have F1:=Fw.of (R:=R) (as:=as) K1;refine fun c hc=>?_;have N4:=q0D (o:=.lst []) hc;exact q as _ c [] _ (A1.kp N4) (F1.free hc) (A1.dX hc).2 aA .nil (F1.trans (Fw.of N4))
  | false =>
   simp only[Pu.take,ho,if_false,Bool.false_eq_true] at q;wp_walk;refine Zx _ _ ?_;clear Zx;clear R1;cases h with
   | beg m w =>
    simp only[Hap.vs,Hap.ini,Hap.w,List.cons_append,List.nil_append] at eh1;refine aF fun R2 Zy=>?_;wp_walk using A1.ins,eh1;have F1:=Fw.of (R:=R) (as:=as) K1;have A2:=A1.attr sl S.sl S.ar (later S.nw m) A1.slp;have F2s:=Fw.set (R:=R) (as:=as) (H:=H1) (p:=R.x) (o:=(.ins t.aV R.dx [("walk",.ref R.wk),("sleep",sl),("arg",wv S.ar),("now",.int (later S.nw m)),("names",.ref R.nm),("tickets",.ref R.tk),("letters",.ref R.lt)])) (.inl (by simp[Rn.cells]));have eh2:=A1.tkp F2s _ _ eh1;have F2:=F1.trans F2s;clear F2s;change R2 _ (Zs H1 R.x (.ins t.aV R.dx [("walk",.ref R.wk),("sleep",sl),("arg",wv S.ar),("now",.int (later S.nw m)),("names",.ref R.nm),("tickets",.ref R.tk),("letters",.ref R.lt)]));generalize Zs H1 R.x (.ins t.aV R.dx [("walk",.ref R.wk),("sleep",sl),("arg",wv S.ar),("now",.int (later S.nw m)),("names",.ref R.nm),("tickets",.ref R.tk),("letters",.ref R.lt)])=G2 at *;refine Zy _ _ ?_;clear Zy;clear R2;wp_walk using A2.ins,eh2;have A3:=A2.attr sl S.sl w (later S.nw m) A2.slp;have F3:=F2.trans (Fw.set (p:=R.x) (o:=(.ins t.aV R.dx [("walk",.ref R.wk),("sleep",sl),("arg",wv w),("now",.int (later S.nw m)),("names",.ref R.nm),("tickets",.ref R.tk),("letters",.ref R.lt)])) (.inl (by simp[Rn.cells])));generalize Zs G2 R.x (.ins t.aV R.dx [("walk",.ref R.wk),("sleep",sl),("arg",wv w),("now",.int (later S.nw m)),("names",.ref R.nm),("tickets",.ref R.tk),("letters",.ref R.lt)])=G3 at *;wp_walk using A3.ins;have FF:ZH true ({S with nw:=later S.nw m,ar:=w,sl:=.Zu}:Pu) N:={F with pl:=⟨F.pl.nm,ok.2,F.pl.an⟩,nw:=(F.at' ok.1).nw,sl:=⟨fun k e=>(by cases e),fun k e=>(by cases e)⟩};exact⟨R,as,sl,_,N,rfl,A3,FF,by omega,fun sl3 c us H3 A4 hc ec hC F4=>q as sl3 c us H3 A4 (F3.free hc) (A.dX (F3.free hc)).2 ec hC (F3.trans F4)⟩
   | don m i w =>
    simp only[Hap.vs,Hap.ini,Hap.w,List.cons_append,List.nil_append] at eh1;have hi:i∈S.pend:=by
     cases es:S.sl<;>simp only[Pu.over,es,Bool.not_eq_false',decide_eq_true_eq] at ho
     all_goals first|exact ho|cases ho
    refine aF fun R2 Zy=>?_;wp_walk using A1.ins,eh1;have F1:=Fw.of (R:=R) (as:=as) K1;have A2:=A1.attr sl S.sl S.ar (later S.nw m) A1.slp;have F2s:=Fw.set (R:=R) (as:=as) (H:=H1) (p:=R.x) (o:=(.ins t.aV R.dx [("walk",.ref R.wk),("sleep",sl),("arg",wv S.ar),("now",.int (later S.nw m)),("names",.ref R.nm),("tickets",.ref R.tk),("letters",.ref R.lt)])) (.inl (by simp[Rn.cells]));have eh2:=A1.tkp F2s _ _ eh1;have F2:=F1.trans F2s;clear F2s;change R2 _ (Zs H1 R.x (.ins t.aV R.dx [("walk",.ref R.wk),("sleep",sl),("arg",wv S.ar),("now",.int (later S.nw m)),("names",.ref R.nm),("tickets",.ref R.tk),("letters",.ref R.lt)]));generalize Zs H1 R.x (.ins t.aV R.dx [("walk",.ref R.wk),("sleep",sl),("arg",wv S.ar),("now",.int (later S.nw m)),("names",.ref R.nm),("tickets",.ref R.tk),("letters",.ref R.lt)])=G2 at *;refine Zy _ _ ?_;clear Zy;clear R2;wp_walk using A2.ins,eh2;exact⟨R,as,sl,S.at' m,i,w,N,rfl,A2,F.at' ok.1,by omega,ok.2,hi,hn,fun sl3 c us H3 A4 hc ec hC F4=>q as sl3 c us H3 A4 (F2.free hc) (A.dX (F2.free hc)).2 ec hC (F2.trans F4)⟩
   | ltr m k w =>
    simp only[Hap.vs,Hap.ini,Hap.w,List.cons_append,List.nil_append] at eh1;have hs:(∃ k,S.sl=.ZA k)\/∃ ts,S.sl=.wait ts:=by
     cases es:S.sl with
     | ZA k=>exact .inl ⟨k,rfl⟩
     | wait ts=>exact .inr ⟨ts,rfl⟩
     | Zu=>rw[es] at hn;cases hn
     | _=>simp only[Pu.over,es] at ho;cases ho
    refine aF fun R2 Zy=>?_;wp_walk using A1.ins,eh1;have F1:=Fw.of (R:=R) (as:=as) K1;have A2:=A1.attr sl S.sl S.ar (later S.nw m) A1.slp;have F2s:=Fw.set (R:=R) (as:=as) (H:=H1) (p:=R.x) (o:=(.ins t.aV R.dx [("walk",.ref R.wk),("sleep",sl),("arg",wv S.ar),("now",.int (later S.nw m)),("names",.ref R.nm),("tickets",.ref R.tk),("letters",.ref R.lt)])) (.inl (by simp[Rn.cells]));have eh2:=A1.tkp F2s _ _ eh1;have F2:=F1.trans F2s;clear F2s;change R2 _ (Zs H1 R.x (.ins t.aV R.dx [("walk",.ref R.wk),("sleep",sl),("arg",wv S.ar),("now",.int (later S.nw m)),("names",.ref R.nm),("tickets",.ref R.tk),("letters",.ref R.lt)]));generalize Zs H1 R.x (.ins t.aV R.dx [("walk",.ref R.wk),("sleep",sl),("arg",wv S.ar),("now",.int (later S.nw m)),("names",.ref R.nm),("tickets",.ref R.tk),("letters",.ref R.lt)])=G2 at *;refine Zy _ _ ?_;clear Zy;clear R2;wp_walk using A2.ins,eh2;exact⟨R,as,sl,S.at' m,k,w,N,rfl,A2,F.at' ok.1,by omega,ok.2,hs,fun ZP sl3 c us H3 A4 hc nc ec hC F4=>q ZP sl3 c us H3 A4 (F2.free hc) nc ec hC (F2.trans F4)⟩
theorem lJ{t:Ad}(T:Tx w K mg t):bG P w K mg base ZF 18 t.nX t.oJ ["program","happenings"] (HL ⟨t.aV,t.aW,t.aL⟩):=by
 refine T.kY.ok iC (fun vs H Q E h=>?_) (fun ZE A outer s H vs Q E hr h=>?_)
 ·obtain⟨pg,hl,us,hv,b,hs,rfl,_⟩:=h;rfl
 ·obtain⟨pg,hl,us,hv,b,hs,rfl,ep,hsP,gb,db,eh,hH,rG,l1,q⟩:=h;refine⟨_,(aC (bB (i:=2) iC.nd rfl (Or.inl rfl) (Dp T.Hx (Ap T) (hr.mono (by omega)) rfl T.Xa T.DM .nil pass0 (aD (pv 0) aB)))
   (aC (bB (i:=3) iC.nd rfl (Or.inl rfl) (bX aB))
   (aC (AH PassesOwn.never rfl (lA (pv 1)) (mT (i:=4) iC.nd rfl (Or.inl rfl)) (aI (bM (jJ (pv 3) (bL (pv 2) T.aX T.Cc (Aq T) (hr.mono (by omega)) T.DN .nil pass0 (aD (pv 4) aB))))))
   (aI (aP (bC (aD (pv 2) (aD (pv 3) aB)))))))),?_⟩
  and_intros
  refine aF fun R1 Zx=>?_;have lu:=hsP.len;wp_walk using ep;refine LS ep hsP fun R sl G0 RA K0 NR=>?_;have eh0:=K0.at eh;have hH0:=hH.kt (aK.nil K0);have lh:=hH.len;have ehH:=eh;clear lu ep hsP eh hH;refine Zx _ _ ?_;clear Zx;clear R1;refine aF fun R2 Zy=>?_;wp_walk;refine fun cl aa8=>?_;have N0:=q0D (o:=.lst []) aa8;have ecl:Zs G0 cl (.lst []) cl=some (.lst []):=aA;have ncl:cl∉R.cells/\cl∉([]:List Addr):=RA.dX aa8;have aa2:=K0.fZ aa8;replace RA:=RA.kp N0;replace K0:=K0.trans N0;replace eh0:=N0.at eh0;replace hH0:=hH0.kt (aK.nil N0);generalize Zs G0 cl (.lst [])=G1 at *;have nhc:hl≠cl:=aJ ehH aa2;clear N0 aa8;refine Zy _ _ ?_;clear Zy;clear R2;refine aF fun R3 ZI=>?_;wp_walk using eh0;refine⟨⟨_,dC.of eh0⟩,?_⟩;obtain⟨Pv,ZC⟩:∃ Pv:Nat->St->Hp->Prop,∀ i σ G,Pv i σ G = ∃(v4:Option V) (as:List Addr) (sl:V) (rs:List Addr),σ=[some (.ref pg),some (.ref hl),some (.ref R.x),some (.ref cl),v4]/\bA ⟨t.aV,t.aW,t.aL⟩ G R as sl (takes (dG b) (hs.take i)).1/\ZH true (takes (dG b) (hs.take i)).1 (302 * i)/\(takes (dG b) (hs.take i)).1.sl.isN=false/\fA G rs (takes (dG b) (hs.take i)).2/\rs.Nodup/\G cl=some (.lst (rs.map V.ref))/\(∀ a∈rs,a∉R.cells/\a∉as/\H a=none/\a≠cl)/\(cl∉R.cells/\cl∉as)/\(∀ a,a∈R.cells\/a∈as->H a=none)/\Kp [] H G/\G hl=some (.lst hv)/\bN G hv hs:=⟨_,fun _ _ _=>rfl⟩;have NR0:∀ a,a∈R.cells\/a∈([]:List Addr)->H a=none:=fun a ha=>by
   rcases ha with ha|ha
   ·exact NR a ha
   ·simp at ha
  refine zS (xs:=hv) Pv ?_ ?_ ?_ ?_
  ·rw[ZC];exact⟨_,[],sl,[],rfl,RA,Hj gb db,rfl,.nil,.nil,ecl,by simp,ncl,NR0,K0,eh0,hH0⟩
  ·intro i σ G _ h;rw[ZC] at h;obtain⟨_,_,_,_,_,_,_,_,_,_,_,_,_,_,_,e,_⟩:=h;exact dC.of e
  ·clear RA ecl ncl NR0 K0 eh0 hH0;intro i y σ G ey h;rw[ZC] at h;obtain⟨v4,as,sl,rs,rfl,RA,FA,hN,hr,nd,ecl,hf,ncl,hR,KG,eG,hG⟩:=h;obtain⟨x,ex,hx⟩:=hG.iK ey;have es:takes (dG b) (hs.take (i+1))=(((takes (dG b) (hs.take i)).1.take x).1,(takes (dG b) (hs.take i)).2++[((takes (dG b) (hs.take i)).1.take x).2]):=by rw[List.take_add_one,ex,Option.toList_some,sA]
   have fx:=rG x (List.mem_of_getElem? ex);have lr:=hr.len;rw[eA,List.length_take] at lr;generalize takes (dG b) (hs.take i)=Z at *;obtain⟨S,ZD⟩:=Z;have il:i < hs.length:=(List.getElem?_eq_some_iff.mp ex).1;wp_walk using ecl,RA.ins;refine⟨R,as,_,S,y,x,302 * i,rfl,RA,FA,by omega,hN,hx,fx,fun ZP Z6 c uc G2 A2 hc nc ec hC F2=>?_⟩;have T2:=RA.tkp F2;have FA2:=FA.DE x fx.1 fx.2 (fun j hj=>by
    have:=RA.tk.lt j hj;have:=FA.md;exact cM (by omega) (by simp only at *;omega)) (by omega)
   have hcH:=KG.fZ hc;have ncf:=RA.dX hc;have ncc:c≠cl:=(aJ ecl hc).symm;have abE:=F2.kp _ _ ecl ncl.1 ncl.2;have abO:cl∉R.cells/\cl∉ZP:=⟨ncl.1,fun z=>by
    rcases F2.new cl z with y|y
    ·exact ncl.2 y
    ·rw[ecl] at y;cases y⟩
   wp_walk using abE;refine⟨by rw[List.length_map];omega,?_⟩;have t3:aK G2 (Zs G2 cl (.lst (rs.map V.ref++[.ref c]))):=aK.tT abE (by intro _ z;cases z);have k3:∀ a o,a≠cl->G2 a=some o->Zs G2 cl (.lst (rs.map V.ref++[.ref c])) a=some o:=fun a o n e=>by rw[aG n];exact e
   rw[ZC,es];refine⟨_,ZP,Z6,rs++[c],rfl,A2.other abE abO.1 abO.2,FA2.more (by omega),Bi hN x,((hr.keep (fun a ha o e=>F2.kp a o e (hf a ha).1 (hf a ha).2.1) T2).keep (fun a ha o e=>k3 a o (hf a ha).2.2.2 e) t3).snoc (k3 c _ ncc ec) (hC.kt t3),?_,by rw[aA];simp,fun a ha=>?_,abO,fun a ha=>?_,fun a o e n=>?_,?_,(hG.kt T2).kt t3⟩
   ·rw[List.nodup_append];refine⟨nd,by simp,fun a ha y hy=>?_⟩;rw[show y=c by simpa using hy];intro z;obtain⟨o,e⟩:=hr.there a ha;rw[z,hc] at e;cases e
   ·rcases List.mem_append.mp ha with ha|ha
    ·refine⟨(hf a ha).1,fun z=>?_,(hf a ha).2.2⟩;rcases F2.new a z with y|y
     ·exact(hf a ha).2.1 y
     ·obtain⟨o,e⟩:=hr.there a ha;rw[y] at e;cases e
    ·rw[show a=c by simpa using ha];exact⟨ncf.1,nc,hcH,ncc⟩
   ·rcases ha with ha|ha
    ·exact hR a (.inl ha)
    ·rcases F2.new a ha with z|z
     ·exact hR a (.inr z)
     ·exact KG.fZ z
   ·exact k3 a o (aJ e aa2) ((F2.LK KG hR).at e)
   ·exact k3 hl _ nhc (F2.kp _ _ eG (fun z=>by rw[hR hl (.inl z)] at ehH;cases ehH) (fun z=>by rw[hR hl (.inr z)] at ehH;cases ehH))
  clear RA ecl ncl NR0 K0 eh0 hH0;intro σ G h;rw[ZC] at h;obtain⟨v4,as,sl,rs,rfl,RA,FA,hN,hr,nd,ecl,hf,ncl,hR,KG,eG,hG⟩:=h;rw[lh,List.take_length] at RA FA hN hr;clear ZC;refine ZI _ _ ?_;clear ZI;clear R3;wp_walk;intro t0 ht;have N2:=q0D (o:=.tup [.ref R.x,.ref cl]) ht;exact q t0 R as sl cl rs _ aA (RA.kp N2) FA hN (N2.at ecl) (hr.keep (fun a _ o e=>N2.at e) (aK.nil N2)) nd hf ncl hR aa2 (KG.trans N2)
theorem Jf{t:Ad}(T:Tx w K mg t):bG P w K mg base ZF 20 t.CA t.CU ["one","other","happenings"] Xx:=by
 refine T.Hl.ok qE (fun vs H Q E h=>?_) (fun ZE A outer s H vs Q E hr h=>?_)
 ·obtain⟨p1,p2,hl,ZU,ZO,hv,b1,b2,hs,rfl,_⟩:=h;rfl
 ·obtain⟨p1,p2,hl,ZU,ZO,hv,b1,b2,hs,rfl,W,q1,q2⟩:=h;refine⟨_,(aC (bB (i:=3) qE.nd rfl (Or.inl rfl) (aY bJ (aN (lJ T) (hr.mono (by omega)) rfl T.oU T.kY.kp T.n8 .nil pass0 (aD (pv 0) (aD (pv 2) aB))) aE (fun _ _=>rfl)))
   (aC (bB (i:=4) qE.nd rfl (Or.inl rfl) (aY bJ (aN (lJ T) (hr.mono (by omega)) rfl T.oU T.kY.kp T.n8 .nil pass0 (aD (pv 1) (aD (pv 2) aB))) aE (fun _ _=>rfl)))
   (aC (AH PassesOwn.never rfl (vL rfl T.Bn (aD (cO uE rfl T.DG rB (aD (pv 2) aB)) aB)) (mT (i:=5) qE.nd rfl (Or.inl rfl)) (aI (bI (aQ (Dl 2 (Ed hr (by decide))) (aY bJ (pv 3) (pv 5) (fun _ _=>rfl)) (aY bJ (pv 4) (pv 5) (fun _ _=>rfl)) (nomark _)) (aI (aP (bC (aD (pv 5) (aD (aY bJ (pv 3) (pv 5) (fun _ _=>rfl)) (aD (aY bJ (pv 4) (pv 5) (fun _ _=>rfl)) aB)))))) aZ)))
   (aI (aP dJ))))),?_⟩
  and_intros
  refine aF fun R1 Zx=>?_;wp_walk;have wl:=W.len;refine⟨p1,hl,ZU,hv,b1,hs,rfl,W.e1,W.s1,W.g1,W.d1,W.eh,W.hH,W.rG,by omega,fun t1 Ra1 ZZ sl1 cl1 rs1 G1 et1 A1 F1 hN1 e1 hr1 nd1 hf1 nc1 NR1 fc1 K1=>?_⟩;have w1:=kR.of hr1;replace W:=W.kp K1;wp_walk using et1;refine Zx _ _ ?_;clear Zx;clear R1;refine aF fun R2 Zy=>?_;wp_walk;refine⟨p2,hl,ZO,hv,b2,hs,rfl,W.e2,W.s2,W.g2,W.d2,W.eh,W.hH,W.rG,by omega,fun t2 Ra2 Z0 Z6 cl2 ZW G2 et2 A2 F2 hN2 e2 hr2 nd2 hf2 nc2 NR2 fc2 K2=>?_⟩;have w2:=kR.of hr2;replace W:=W.kp K2;replace w1:=w1.kp K2;replace e1:=K2.at e1;have ll1:=eA hs (dG b1);have ll2:=eA hs (dG b2);have lhv:=W.hH.len;wp_walk using et2;refine Zy _ _ ?_;clear Zy;clear R2;refine aF fun R3 ZI=>?_;wp_walk using W.eh;refine⟨⟨by omega,by omega⟩,?_⟩;obtain⟨Pv,ZC⟩:∃ Pv:Nat->St->Hp->Prop,∀ i σ G,Pv i σ G = ∃(v5:Option V),σ=[some (.ref p1),some (.ref p2),some (.ref hl),some (.ref cl1),some (.ref cl2),v5]/\(∀ j,j < i->∀ c d,(takes (dG b1) hs).2[j]?=some c->(takes (dG b2) hs).2[j]?=some d->ceq c d=true)/\Kp [] G2 G:=⟨_,fun _ _ _=>rfl⟩;refine ID (lo:=0) Pv ?_ ?_ ?_
  ·rw[ZC];exact⟨_,rfl,fun j hj=>by omega,Kp.refl⟩
  ·intro i σ G hi h;rw[ZC] at h;obtain⟨v5,rfl,al,k⟩:=h;have il:i < hs.length:=by omega
   obtain⟨x,ex⟩:∃ x,rs1[i]?=some x:=Qn w1 (by omega);obtain⟨y,ey⟩:∃ y,ZW[i]?=some y:=Qn w2 (by omega);obtain⟨c,d,ec,ed,PT⟩:=lD.of (w1.kp k) (w2.kp k) ex ey;have PT':=PT;obtain⟨⟨us,f1,f2⟩,vs,g1,g2⟩:=PT';have ix:iK (rs1.map V.ref) (i:Nat)=some (.ref x):=kW (by rw[List.getElem?_map,ex];rfl);have iy:iK (ZW.map V.ref) (i:Nat)=some (.ref y):=kW (by rw[List.getElem?_map,ey];rfl);have rc:=CK (K:=K) (n:=0) f1 g1 f2 g2 (eW _ _ c (List.mem_of_getElem? ec)).1 (eW _ _ d (List.mem_of_getElem? ed)).1;have e1G:=k.at e1;have e2G:=k.at e2;wp_walk using e1G,e2G,ix,iy,Int.zero_add;refine⟨_,rc,?_⟩;cases hq:ceq c d with
   | false =>
    rw[if_pos (by rfl)];wp_walk using e1G,e2G,ix,iy,Int.zero_add;refine fun p hp=>?_;have N:=q0D (o:=.tup [.int (i:Nat),.ref x,.ref y]) hp;exact q2 i c d x y p _ ⟨oN i ec ed al hq,ec,ed⟩ aA (PT.kp N) (hf1 x (List.mem_of_getElem? ex)).2.2.1 (K1.fZ (hf2 y (List.mem_of_getElem? ey)).2.2.1) (((K1.trans K2).trans k).trans N)
   | true =>
    rw[if_neg (by simp)];wp_walk;rw[ZC];refine⟨_,rfl,fun j hj c' d' e1 e2=>?_,k⟩;by_cases h:j=i
    ·subst h;rw[ec] at e1;rw[ed] at e2;cases e1;cases e2;exact hq
    ·exact al j (by omega) c' d' e1 e2
  intro σ G h;rw[ZC] at h;obtain⟨v5,rfl,al,k⟩:=h;clear ZC;refine ZI _ _ ?_;clear ZI;clear R3;wp_walk;exact q1 (oM fun j c d e1 e2=>al j (by have:=(List.getElem?_eq_some_iff.mp e1).1;omega) c d e1 e2) G ((K1.trans K2).trans k)
theorem gT{t:Ad}(T:Tx w K mg t):bG P w K mg base ZF 4 t.fB t.fD ["first","second"] Y1:=by
 refine T.fE.ok eN (fun vs H Q E h=>?_) (fun ZE A outer s H vs Q E hr h=>?_)
 ·obtain⟨a,b,rs,ZW,ZD,abZ,rfl,_⟩:=h;rfl
 ·obtain⟨a,b,rs,ZW,ZD,abZ,rfl,ea,eb,w1,w2,lc,l1,o1,o2,q1,q2⟩:=h;refine⟨_,(aC (AH PassesOwn.never rfl (O4 rfl T.sD (aD (pv 0) aB)) (Ui rfl (EI (mT (i:=2) eN.nd rfl (Or.inl rfl)) (EI (mT (i:=3) eN.nd rfl (Or.inl rfl)) O2))) (aI (bI (aQ (Dl 2 (Ed hr (by decide))) (pv 3) (aY bJ (pv 1) (pv 2) (fun _ _=>rfl)) (nomark _)) (aI (aP (bC (aD (pv 2) (aD (pv 3) (aD (aY bJ (pv 1) (pv 2) (fun _ _=>rfl)) aB)))))) aZ)))
   (aI (aP dJ))),?_⟩
  and_intros
  refine aF fun R1 Zx=>?_;wp_walk using ea;refine⟨⟨_,dC.of ea⟩,?_⟩;obtain⟨Pv,ZC⟩:∃ Pv:Nat->St->Hp->Prop,∀ i σ G,Pv i σ G = ∃(v2 v3:Option V),σ=[some (.ref a),some (.ref b),v2,v3]/\(∀ j,j < i->∀ c d,ZD[j]?=some c->abZ[j]?=some d->ceq c d=true)/\Kp [] H G:=⟨_,fun _ _ _=>rfl⟩;refine Lw (xs:=rs.map V.ref) Pv ?_ ?_ ?_ ?_
  ·rw[ZC];exact⟨_,_,rfl,fun j hj=>by omega,Kp.refl⟩
  ·intro i σ G _ h;rw[ZC] at h;obtain⟨_,_,_,_,k⟩:=h;exact dC.of (k.at ea)
  ·intro i y σ G hi h p3 h3;rw[ZC] at h;obtain⟨v2,v3,rfl,al,k⟩:=h;rw[List.getElem?_map] at hi;obtain⟨r0,er,rfl⟩:=Option.map_eq_some_iff.mp hi;obtain⟨u0,c0,ec,e0,hc0⟩:=w1.at' er;have il:i < ZD.length:=(List.getElem?_eq_some_iff.mp ec).1;obtain⟨r2,er2⟩:∃ r2,ZW[i]?=some r2:=⟨_,List.getElem?_eq_getElem (by rw[w2.1];omega)⟩;obtain⟨u2,c2,ec2,e2,hc2⟩:=w2.at' er2;rw[List.append_nil] at e0 e2;have N3:=q0D (o:=.tup [.int i,.ref r0]) h3;have k3:=k.trans N3;have ix:iK (ZW.map V.ref) (i:Nat)=some (.ref r2):=kW (by rw[List.getElem?_map,er2];rfl);wp_walk;refine⟨[.int i,.ref r0],eJ.of aA,rfl,?_⟩;have eb3:=k3.at eb;have rc:=CK (K:=K) (n:=0) (k3.at e0) (k3.at e2) (hc0.kt (aK.nil k3)) (hc2.kt (aK.nil k3)) (o1 c0 (List.mem_of_getElem? ec)).1 (o2 c2 (List.mem_of_getElem? ec2)).1;generalize Zs G p3 (.tup [.int i,.ref r0])=G3 at *;wp_walk using eb3,ix;refine⟨_,rc,?_⟩;cases hq:ceq c0 c2 with
   | false =>
    rw[if_pos (by rfl)];wp_walk using eb3,ix;refine fun p hp=>q2 i r0 r2 (oN i ec ec2 al hq) er er2 p _ (k3.fZ hp) aA (k3.trans (Kp.new hp))
   | true =>
    rw[if_neg (by simp)];wp_walk;rw[ZC];refine⟨_,_,rfl,fun j hj c d e1 e2=>?_,k3⟩;by_cases h:j=i
    ·subst h;rw[ec] at e1;rw[ec2] at e2;cases e1;cases e2;exact hq
    ·exact al j (by omega) c d e1 e2
  intro σ G h;rw[ZC,List.length_map,w1.1] at h;obtain⟨v2,v3,rfl,al,k⟩:=h;clear ZC;refine Zx _ _ ?_;clear Zx;clear R1;wp_walk;exact q1 (oM fun j c d e1 e2=>al j ((List.getElem?_eq_some_iff.mp e1).1) c d e1 e2) G k
theorem k7{t:Ad}(T:Tx w K mg t):bG P w K mg base ZF 18 t.uB t.uO ["program","happenings"] (HL ⟨t.aV,t.aW,t.aL⟩):=by
 refine T.lV.ok pN (fun vs H Q E h=>?_) (fun ZE A outer s H vs Q E hr h=>?_)
 ·obtain⟨pg,hl,us,hv,b,hs,rfl,_⟩:=h;rfl
 ·obtain⟨pg,hl,us,hv,b,hs,rfl,ep,hsP,gb,db,eh,hH,rG,l1,q⟩:=h;refine⟨_,(aC (bB (i:=2) pN.nd rfl (Or.inr rfl) (Dp T.Hx (Ap T) (hr.mono (by omega)) rfl T.Xa T.DM .nil pass0 (aD (pv 0) aB)))
   (aC (kJ (i:=3) (fr:=[2]) (N:=["happening","run"]) rfl (fun _ _ h=>h) (eF.free rfl rfl rfl rfl rfl (fun _ _ h=>h) rfl (by decide) rfl (fun j hj=>by rw[show j=2 by simpa using hj];exact⟨_,rfl,rfl,.inl rfl⟩)) (lA (pv 1)) (fun C s H ex pn=>⟨xY,(bL (pv 1) T.aX T.Cc (Aq T) (hr.mono (by omega)) T.DN .nil pass0 (aD (pv 0) aB))⟩) pN.nd rfl (Or.inl rfl))
   (aI (aP (bC (aD (pv 2) (aD (pv 3) aB))))))),?_⟩
  and_intros
  refine aF fun R1 Zx=>?_;have lu:=hsP.len;wp_walk using ep;refine LS ep hsP fun R sl G0 RA K0 NR=>?_;have eh0:=K0.at eh;have hH0:=hH.kt (aK.nil K0);have lh:=hH.len;have ehH:=eh;clear lu ep hsP eh hH;refine Zx _ _ ?_;clear Zx;clear R1;refine aF fun R2 Zy=>?_;wp_walk using eh0;refine⟨⟨_,dC.of eh0⟩,?_⟩;obtain⟨Pv,ZC⟩:∃ Pv:Nat->List V->Hp->Prop,∀ i xs G,Pv i xs G = ∃(as:List Addr) (sl:V) (rs:List Addr),xs=rs.map V.ref/\bA ⟨t.aV,t.aW,t.aL⟩ G R as sl (takes (dG b) (hs.take i)).1/\ZH true (takes (dG b) (hs.take i)).1 (302 * i)/\(takes (dG b) (hs.take i)).1.sl.isN=false/\fA G rs (takes (dG b) (hs.take i)).2/\rs.Nodup/\rs.length<=i/\(∀ a∈rs,a∉R.cells/\a∉as/\H a=none)/\(∀ a,a∈R.cells\/a∈as->H a=none)/\Kp [] H G/\G hl=some (.lst hv)/\bN G hv hs:=⟨_,fun _ _ _=>rfl⟩;have NR0:∀ a,a∈R.cells\/a∈([]:List Addr)->H a=none:=fun a ha=>by
   rcases ha with ha|ha
   ·exact NR a ha
   ·simp at ha
  refine tF (ys:=hv) Pv ?_ ?_ ?_ ?_ ?_
  ·rw[ZC];exact⟨[],sl,[],rfl,RA,Hj gb db,rfl,.nil,.nil,Nat.le_refl _,by simp,NR0,K0,eh0,hH0⟩
  ·intro i xs G h;rw[ZC] at h;obtain⟨_,_,rs,rfl,_,_,_,hr,_,hl,_⟩:=h;rw[List.length_map,hr.len,eA,List.length_take];omega
  ·intro i xs G h;rw[ZC] at h;obtain⟨_,_,_,_,_,_,_,_,_,_,_,_,_,e,_⟩:=h;exact dC.of e
  ·intro i y xs G hi ey h;rw[ZC] at h;obtain⟨as,sl,rs,rfl,RA,FA,hN,hr,nd,lr,hf,hR,KG,eG,hG⟩:=h;obtain⟨x,ex,hx⟩:=hG.iK ey;have es:takes (dG b) (hs.take (i+1))=(((takes (dG b) (hs.take i)).1.take x).1,(takes (dG b) (hs.take i)).2++[((takes (dG b) (hs.take i)).1.take x).2]):=by rw[List.take_add_one,ex,Option.toList_some,sA]
   have fx:=rG x (List.mem_of_getElem? ex);generalize takes (dG b) (hs.take i)=Z at *;obtain⟨S,ZD⟩:=Z;have il:i < hs.length:=(List.getElem?_eq_some_iff.mp ex).1;wp_walk using bF,Option.join_some,RA.ins;refine⟨R,as,_,S,y,x,302 * i,rfl,RA,FA,by omega,hN,hx,fx,fun ZP Z6 c uc G2 A2 hc nc ec hC F2=>?_⟩;have T2:=RA.tkp F2;have FA2:=FA.DE x fx.1 fx.2 (fun j hj=>by
    have:=RA.tk.lt j hj;have:=FA.md;exact cM (by omega) (by simp only at *;omega)) (by omega)
   have hcH:=KG.fZ hc;have ncf:=RA.dX hc;show Pv (i+1) _ _;rw[ZC,es];refine⟨ZP,Z6,rs++[c],by simp,A2,FA2.more (by omega),Bi hN x,(hr.keep (fun a ha o e=>F2.kp a o e (hf a ha).1 (hf a ha).2.1) T2).snoc ec hC,?_,by simp;omega,fun a ha=>?_,fun a ha=>?_,F2.LK KG hR,F2.kp _ _ eG ?_ ?_,hG.kt T2⟩
   ·rw[List.nodup_append];refine⟨nd,by simp,fun a ha y hy=>?_⟩;rw[show y=c by simpa using hy];intro z;obtain⟨o,e⟩:=hr.there a ha;rw[z,hc] at e;cases e
   ·rcases List.mem_append.mp ha with ha|ha
    ·refine⟨(hf a ha).1,fun z=>?_,(hf a ha).2.2⟩;rcases F2.new a z with y|y
     ·exact(hf a ha).2.1 y
     ·obtain⟨o,e⟩:=hr.there a ha;rw[y] at e;cases e
    ·rw[show a=c by simpa using ha];exact⟨ncf.1,nc,hcH⟩
   ·rcases ha with ha|ha
    ·exact hR a (.inl ha)
    ·rcases F2.new a ha with z|z
     ·exact hR a (.inr z)
     ·exact KG.fZ z
   ·exact fun z=>by rw[hR hl (.inl z)] at ehH;cases ehH
   ·exact fun z=>by rw[hR hl (.inr z)] at ehH;cases ehH
  intro xs G h cl hcl;rw[ZC] at h;obtain⟨as,sl,rs,rfl,RA,FA,hN,hr,nd,lr,hf,hR,KG,eG,hG⟩:=h;rw[lh,List.take_length] at RA FA hN hr;clear ZC;have ncl:=RA.dX hcl;have aa2:=KG.fZ hcl;have N1:=q0D (o:=.lst (rs.map V.ref)) hcl;have ecl:Zs G cl (.lst (rs.map V.ref)) cl=some (.lst (rs.map V.ref)):=aA;have hrc:∀ a∈rs,a≠cl:=fun a ha z=>by
   obtain⟨o,e⟩:=hr.there a ha;rw[z,hcl] at e;cases e
  replace hr:=hr.keep (fun a _ o e=>N1.at e) (aK.nil N1);replace RA:=RA.kp N1;replace KG:=KG.trans N1;generalize Zs G cl (.lst (rs.map V.ref))=G2 at *;clear N1 hcl eG hG;refine Zy _ _ ?_;clear Zy;clear R2;wp_walk;intro t0 ht;have N2:=q0D (o:=.tup [.ref R.x,.ref cl]) ht;exact q t0 R as sl cl rs _ aA (RA.kp N2) FA hN (N2.at ecl) (hr.keep (fun a _ o e=>N2.at e) (aK.nil N2)) nd (fun a ha=>⟨(hf a ha).1,(hf a ha).2.1,(hf a ha).2.2,hrc a ha⟩) ncl hR aa2 (KG.trans N2)
theorem Jg{t:Ad}(T:Tx w K mg t):bG P w K mg base ZF 20 t.CC t.CW ["one","other","happenings"] Xx:=by
 refine T.Hm.ok Jv (fun vs H Q E h=>?_) (fun ZE A outer s H vs Q E hr h=>?_)
 ·obtain⟨p1,p2,hl,ZU,ZO,hv,b1,b2,hs,rfl,_⟩:=h;rfl
 ·obtain⟨p1,p2,hl,ZU,ZO,hv,b1,b2,hs,rfl,W,q1,q2⟩:=h;refine⟨_,(aI (aP (aN (gT T) (hr.mono (by omega)) rfl T.iH T.fE.kp T.iE .nil pass0 (aD (aY bJ (aN (k7 T) (hr.mono (by omega)) rfl T.qA T.lV.kp T.pT .nil pass0 (aD (pv 0) (aD (pv 2) aB))) aE (fun _ _=>rfl)) (aD (aY bJ (aN (k7 T) (hr.mono (by omega)) rfl T.qA T.lV.kp T.pT .nil pass0 (aD (pv 1) (aD (pv 2) aB))) aE (fun _ _=>rfl)) aB))))),?_⟩
  and_intros
  wp_walk;have wl:=W.len;refine⟨p1,hl,ZU,hv,b1,hs,rfl,W.e1,W.s1,W.g1,W.d1,W.eh,W.hH,W.rG,by omega,fun t1 R1 ZZ sl1 cl1 rs1 G1 et1 A1 F1 hN1 e1 hr1 nd1 hf1 nc1 NR1 fc1 K1=>?_⟩;have w1:=kR.of hr1;replace W:=W.kp K1;wp_walk using et1;refine⟨p2,hl,ZO,hv,b2,hs,rfl,W.e2,W.s2,W.g2,W.d2,W.eh,W.hH,W.rG,by omega,fun t2 R2 Z0 Z6 cl2 ZW G2 et2 A2 F2 hN2 e2 hr2 nd2 hf2 nc2 NR2 fc2 K2=>?_⟩;have w2:=kR.of hr2;wp_walk using et2;refine⟨cl1,cl2,rs1,ZW,_,_,rfl,K2.at e1,e2,w1.kp K2,w2,by rw[eA,eA],by rw[eA];omega,eW _ _,eW _ _,fun e H' k=>q1 e _ ((K1.trans K2).trans k),fun n x y e ex ey p H' hp ep k=>?_⟩;obtain⟨c,d,ec,ed,PT⟩:=lD.of (w1.kp K2) w2 ex ey;exact q2 n c d x y p H' ⟨e,ec,ed⟩ ep (PT.kp k) (hf1 x (List.mem_of_getElem? ex)).2.2.1 (K1.fZ (hf2 y (List.mem_of_getElem? ey)).2.2.1) ((K1.trans K2).trans k)
theorem FZ{t:Ad}(T:Tx w K mg t):bG P w K mg base ZF 20 t.yF t.y1 ["old","new","happenings"] (Xv ⟨t.aV,t.aW,t.aL⟩):=by
 refine T.D7.ok rY (fun vs H Q E h=>?_) (fun ZE A outer s H vs Q E hr h=>?_)
 ·obtain⟨p1,p2,hl,ZU,ZO,hv,b1,b2,hs,rfl,_⟩:=h;rfl
 ·obtain⟨p1,p2,hl,ZU,ZO,hv,b1,b2,hs,rfl,W,q1,q2⟩:=h;refine⟨_,(aC (bB (i:=3) rY.nd rfl (Or.inl rfl) (aN (k7 T) (hr.mono (by omega)) rfl T.qA T.lV.kp T.pT .nil pass0 (aD (pv 1) (aD (pv 2) aB))))
   (aC (bB (i:=4) rY.nd rfl (Or.inl rfl) (aN (gT T) (hr.mono (by omega)) rfl T.iH T.fE.kp T.iE .nil pass0 (aD (aY bJ (aN (k7 T) (hr.mono (by omega)) rfl T.qA T.lV.kp T.pT .nil pass0 (aD (pv 0) (aD (pv 2) aB))) aE (fun _ _=>rfl)) (aD (aY bJ (pv 3) aE (fun _ _=>rfl)) aB))))
   (aI (aP (pE (aQ rO (pv 4) dJ (nomark _)) (bC (aD aS (aD (aY bJ (pv 3) aE (fun _ _=>rfl)) aB))) (bU Dn (bC (aD aS aB)) (pv 4))))))),?_⟩
  and_intros
  refine aF fun R1 Zx=>?_;wp_walk;have wl:=W.len;refine⟨p2,hl,ZO,hv,b2,hs,rfl,W.e2,W.s2,W.g2,W.d2,W.eh,W.hH,W.rG,by omega,fun t2 R2 Z0 Z6 cl2 ZW G2 et2 A2 F2 hN2 e2 hr2 nd2 hf2 nc2 NR2 fc2 K2=>?_⟩;have w2:=kR.of hr2;have fn:=Fine.new F2 hN2 W.n2 W.ok;replace W:=W.kp K2;clear hr2 nd2 hf2 nc2 fc2 F2 hN2;wp_walk;refine Zx _ _ ?_;clear Zx;clear R1;refine aF fun R2 Zy=>?_;wp_walk;refine⟨p1,hl,ZU,hv,b1,hs,rfl,W.e1,W.s1,W.g1,W.d1,W.eh,W.hH,W.rG,by omega,fun t1 R1 ZZ sl1 cl1 rs1 G1 et1 A1 F1 hN1 e1 hr1 nd1 hf1 nc1 NR1 fc1 K1=>?_⟩;have w1:=kR.of hr1;replace w2:=w2.kp K1;replace et2:=K1.at et2;replace A2:=A2.kp K1;replace e2:=K1.at e2;wp_walk using et1,et2;refine⟨cl1,cl2,rs1,ZW,_,_,rfl,e1,e2,w1,w2,by rw[eA,eA],by rw[eA];omega,eW _ _,eW _ _,fun e H' k=>?_,fun n x y e ex ey p H' hp ep k=>?_⟩
  ·replace et2:=k.at et2;refine Zy _ _ ?_;clear Zy;clear R2;wp_walk using et2;refine fun p hp=>?_;have N:=q0D (o:=.tup [.str "let",.ref R2.x]) hp;exact q1 e p R2 Z0 Z6 _ aA ((A2.kp k).kp N) fn NR2 (((K2.trans K1).trans k).trans N)
  ·skip;refine Zy _ _ ?_;clear Zy;clear R2;wp_walk using reduceCtorEq,if_false,ep;refine fun p6 h6=>?_;have N:=q0D (o:=.tup [.str "parts"]) h6;have ep6:=N.at ep;rw[ep6];refine⟨by simp only[List.length_cons,List.length_nil];rw[sizeLine_eq];omega,?_⟩;rw[if_neg (by simp),if_neg (by simp)];refine fun p7 h7=>?_;have NN:=N.trans (Kp.new (o:=.tup [.str "parts",.int n,.ref x,.ref y]) h7);obtain⟨c,d,ec,ed,PT⟩:=lD.of w1 w2 ex ey;exact q2 n c d x y p7 _ ⟨e,ec,ed⟩ aA ((PT.kp k).kp NN) (((K2.trans K1).trans k).trans NN)
theorem jI{t:Ad}(T:Tx w K mg t):bG P w K mg base ZF 1 t.q9 t.rF ["script","k"] (Ux K):=by
 refine T.kB.ok Dy (fun vs H Q E h=>?_) (fun ZE A outer s H vs Q E hr h=>?_)
 ·obtain⟨a,ns,k,rfl,_⟩:=h;rfl
 ·obtain⟨a,ns,k,rfl,hS,hk,q⟩:=h;refine⟨_,(aC (bI (aQ k9 (pv 1) (cO Ie rfl T.DG rB (aD (pv 0) aB)) (nomark _)) (aI (aP (aY Hv (pv 0) (pv 1) (fun _ _=>rfl)))) aZ)
   (aI (aP aE))),?_⟩
  and_intros
  wp_walk;refine⟨_,hS,?_⟩;split
  ·next h =>
   rw[List.length_map] at h;have hj:k.toNat < ns.length:=by omega
   have ek:k=((k.toNat:Nat):Int):=by omega
   have e:iK (ns.map V.int) ((k.toNat:Nat):Int)=some (.int ns[k.toNat]):=kW (by rw[List.getElem?_map,List.getElem?_eq_getElem hj];rfl);rw[<- ek] at e;exact⟨a,_,k,_,rfl,rfl,hS,e,q _⟩
  ·exact q 0
theorem Dk{t:Ad}(T:Tx w K mg t):bG P w K mg base ZF 1 t.qZ t.rE ["self"] (Pn t.aW):=by
 refine T.Fv.ok Dx (fun vs H Q E h=>?_) (fun ZE A outer s H vs Q E hr h=>?_)
 ·obtain⟨wk,wx,lb,ln,st,rfl,_⟩:=h;rfl
 ·obtain⟨wk,wx,lb,ln,st,rfl,W,q⟩:=h;refine⟨_,(aI (aP (dB fH rfl T.gW eP (aD (aO T.cQ T.eV (pv 0)) aB)))),?_⟩
  and_intros
  wp_walk using W.ins,W.nu;exact q
theorem qK{t:Ad}(T:Tx w K mg t):bG P w K mg base ZF 1 t.gL t.gN ["self"] (JA t.aL):=by
 refine T.sU.ok qL (fun vs H Q E h=>?_) (fun ZE A outer s H vs Q E hr h=>?_)
 ·obtain⟨tk,tx,dp,da,made,pend,ans,rfl,_⟩:=h;rfl
 ·obtain⟨tk,tx,dp,da,made,pend,ans,rfl,R,h64,q⟩:=h;refine⟨_,(aI (aP (cO (Fh rfl) rfl T.qH pU (aD (aO T.bD T.gH (pv 0)) aB)))),?_⟩
  and_intros
  wp_walk using R.ins,R.hp,Jm;exact⟨R.asc,fun l ZG hl hp hs=>by rw[wM hp hs R.asc];exact q l hl⟩
theorem tI{t:Ad}(T:Tx w K mg t):bG P w K mg base ZF 2 t.iM t.iO ["self"] (Pk ⟨t.aV,t.aW,t.aL⟩):=by
 refine T.wX.ok tR (fun vs H Q E h=>?_) (fun ZE A outer s H vs Q E hr h=>?_)
 ·obtain⟨R,as,sl,S,rfl,_⟩:=h;rfl
 ·obtain⟨R,as,sl,S,rfl,A,h64,q⟩:=h;refine⟨_,(aI (aP (cC (aO T.aX T.cJ (pv 0)) T.bD T.rL (qK T) (hr.mono (by omega)) T.sO .nil pass0))),?_⟩
  and_intros
  wp_walk using A.ins,A.tk.ins;exact⟨R.tk,R.tx,R.dp,R.da,_,_,_,rfl,A.tk,h64,q⟩
theorem wL{t:Ad}(T:Tx w K mg t):bG P w K mg base ZF 3 t.t7 t.uJ ["self"] (Pp ⟨t.aV,t.aW,t.aL⟩):=by
 refine T.Iw.ok pL (fun vs H Q E h=>?_) (fun ZE A outer s H vs Q E hr h=>?_)
 ·obtain⟨R,as,sl,S,rfl,_⟩:=h;rfl
 ·obtain⟨R,as,sl,S,rfl,A,hn,b1,b2,b3,b4,b5,q⟩:=h;have hu:=oQ hr;refine⟨_,(aC (bI (aQ Ci (aY bJ (aO T.aX T.dF (pv 0)) aE (fun _ _=>rfl)) (bC (aD aS (aD aS aB))) (by with_unfolding_all rfl)) (aI (aP (aO T.aX T.dF (pv 0)))) aZ)
   (aC (kJ (i:=1) (fr:=[0]) (N:=["name","self"]) rfl (fun _ _ h=>h) (eF.free rfl rfl rfl rfl rfl (fun _ _ h=>h) rfl (by decide) rfl (fun j hj=>by rw[show j=0 by simpa using hj];exact⟨_,rfl,rfl,.inl rfl⟩)) (lA (cO (yS rfl) rfl T.qH pU (aD (aO T.aX T.fW (pv 0)) aB))) (fun C s H ex pn=>⟨tQ (aQ qC (tM hu (aO T.aX T.fW (pv 1)) (pv 0) (fun _ _=>rfl)) dJ (nomark _)),(bC (aD (pv 0) (aD (tM hu (aO T.aX T.fW (pv 1)) (pv 0) (fun _ _=>rfl)) aB)))⟩) pL.nd rfl (Or.inl rfl))
   (aC (kJ (i:=2) (fr:=[0]) (N:=["key","self"]) rfl (fun _ _ h=>h) (eF.free rfl rfl rfl rfl rfl (fun _ _ h=>h) rfl (by decide) rfl (fun j hj=>by rw[show j=0 by simpa using hj];exact⟨_,rfl,rfl,.inl rfl⟩)) (lA (cO (yS rfl) rfl T.qH pU (aD (aO T.aX T.gG (pv 0)) aB))) (fun C s H ex pn=>⟨tQ (xX (tM hu (aO T.aX T.gG (pv 1)) (pv 0) (fun _ _=>rfl)) (fun _=>rfl)),(bC (aD (pv 0) (aD (dB fH rfl T.gW eP (aD (tM hu (aO T.aX T.gG (pv 1)) (pv 0) (fun _ _=>rfl)) aB)) aB)))⟩) pL.nd rfl (Or.inl rfl))
   (aI (aP (bC (aD (aO T.aX T.dF (pv 0)) (aD (cC (aO T.aX T.kE (pv 0)) T.cQ T.Er (Dk T) (hr.mono (by omega)) T.Fd .nil pass0) (aD (aO T.aX T.Ce (pv 0)) (aD (aO T.aX T.tG (pv 0)) (aD (dB fH rfl T.gW eP (aD (pv 1) aB)) (aD (aO T.bD T.u7 (aO T.aX T.cJ (pv 0))) (aD (dB fH rfl T.gW eP (aD (cC (pv 0) T.aX T.uW (tI T) (hr.mono (by omega)) T.wO .nil pass0) aB)) (aD (dB (Fi rfl) rfl T.gW eP (aD (Md (aO T.bD T.gF (aO T.aX T.cJ (pv 0)))) aB)) (aD (dB fH rfl T.gW eP (aD (pv 2) aB)) aB))))))))))))))),?_⟩
  and_intros
  refine aF fun R1 Zx=>?_;obtain⟨ps,s0,r0,rfl,ep,hin⟩:=A.slp.word hn;refine CL fun RI hRI=>?_;wp_walk using A.ins,ep;refine fun p1 m1=>⟨rfl,rfl,?_⟩;rw[hin];have N1:=q0D (o:=.tup [.str "wait",.str "hear"]) m1;replace A:=A.kp N1;generalize Zs H p1 (.tup [.str "wait",.str "hear"])=G1 at *;clear m1 ep hin;cases hg:S.sl.wC with
  | false =>
   rw[if_pos (show(!false)=true from rfl)];refine hRI _ _ ?_;wp_walk using A.ins;exact q _ _ (by unfold t4;rw[if_neg (by rw[hg];simp)];exact A.slp) N1
  | true =>
   rw[if_neg (by simp)];clear hRI RI;refine Zx _ _ ?_;clear Zx;clear R1;refine aF fun R2 Zy=>?_;wp_walk using A.ins,A.nm,HQ;refine⟨by rw[List.length_map];exact b2,fun l ns hl hp hs=>?_⟩;have hks:∀ n∈ns,n∈S.nm.map (·.1):=fun n hn=>hp.mem_iff.mp hn;have lns:ns.length < 64:=by rw[hp.length_eq,List.length_map];exact b2
   have ens:=MC hp hs;have N2:=q0D (o:=.lst (ns.map V.str)) hl;have el:Zs G1 l (.lst (ns.map V.str)) l=some (.lst (ns.map V.str)):=aA;replace A:=A.kp N2;replace N1:=N1.trans N2;generalize Zs G1 l (.lst (ns.map V.str))=G2 at *;clear hp hs hl N2;refine⟨⟨_,dC.of el⟩,?_⟩;obtain⟨Pv,ZC⟩:∃ Pv:Nat->List V->Hp->Prop,∀ i xs G,Pv i xs G=(fL G xs (fS S.nm (ns.take i))/\Kp [] G2 G):=⟨_,fun _ _ _=>rfl⟩;refine tF (ys:=ns.map V.str) Pv ?_ ?_ ?_ ?_ ?_
   ·rw[ZC];exact⟨.nil,Kp.refl⟩
   ·intro i xs G h;rw[ZC] at h;rw[h.1.len];have h1:=u9 S.nm (ns.take i);rw[List.length_take] at h1;omega
   ·intro i xs G h;rw[ZC] at h;exact dC.of (h.2.at el)
   ·intro i y xs G hi ey h;rw[ZC] at h;obtain⟨hP,KG⟩:=h;obtain⟨n,en,rfl⟩:∃ n,ns[i]?=some n/\y=V.str n:=by
     rw[List.getElem?_map] at ey;obtain⟨n,a0,b0⟩:=Option.map_eq_some_iff.mp ey;exact⟨n,a0,b0.symm⟩
    have vn:=LW (hks n (List.mem_of_getElem? en));have AG:=A.kp KG;have es:fS S.nm (ns.take (i+1))=fS S.nm (ns.take i)++fS S.nm [n]:=by rw[List.take_add_one,en,Option.toList_some,Cf]
    wp_walk using bF,Option.join_some,AG.ins,AG.nm,vn;cases hw:k4 S.nm n with
    | none =>
     rw[if_pos (show wv none=V.Zu from rfl),ZC,es];exact⟨by rw[show fS S.nm [n]=[] by simp[fS,hw],List.append_nil];exact hP,KG⟩
    | some z =>
     rw[if_neg (by simp[wv])];intro p hp;rw[ZC,es,show fS S.nm [n]=[(.str n,wv (some z))] by simp[fS,hw]];exact⟨(hP.kt (aK.new hp)).snoc aA,KG.trans (Kp.new hp)⟩
   intro un G h ln2 hln;rw[ZC] at h;obtain⟨hP,KG⟩:=h;rw[List.length_map,List.take_length,ens] at hP;replace hP:fL G un S.nmS:=hP;have lun:un.length<=64:=by
    rw[hP.len];have h1:=u9 S.nm (srt (S.nm.map (·.1)));rw[<- ens] at h1;show(fS S.nm (srt (S.nm.map (·.1)))).length<=64;rw[<- ens];omega
   have N3:=q0D (o:=.lst un) hln;have eun:Zs G ln2 (.lst un) ln2=some (.lst un):=aA;replace hP:=hP.kt (aK.nil N3);replace A:=A.kp (KG.trans N3);replace N1:=N1.trans (KG.trans N3);generalize Zs G ln2 (.lst un)=G3 at *;clear ZC KG N3 hln el hks ens lns;refine Zy _ _ ?_;clear Zy;clear R2;refine aF fun R3 ZI=>?_;obtain⟨kvs,ek,hL⟩:=A.lt;have sk:=Pz hL;wp_walk using A.ins,ek,sk;refine⟨by rw[List.length_map];exact b3,fun l ns hl hp hs=>?_⟩;have hks:∀ n∈ns,n∈S.lt.map (·.1):=fun n hn=>hp.mem_iff.mp hn;have lns:ns.length < 64:=by rw[hp.length_eq,List.length_map];exact b3
   have ens:=MC hp hs;have N2:=q0D (o:=.lst (ns.map V.str)) hl;have el:Zs G3 l (.lst (ns.map V.str)) l=some (.lst (ns.map V.str)):=aA;replace A:=A.kp N2;replace N1:=N1.trans N2;replace hP:=hP.kt (aK.nil N2);replace eun:=N2.at eun;replace ek:=N2.at ek;replace hL:=hL.keep (fun a _ o e=>N2.at e);generalize Zs G3 l (.lst (ns.map V.str))=G4 at *;clear hp hs hl N2 sk;refine⟨⟨_,dC.of el⟩,?_⟩;obtain⟨Pv,ZC⟩:∃ Pv:Nat->List V->Hp->Prop,∀ i xs G,Pv i xs G=(iZ G xs (iG S.lt (ns.take i))/\Kp [] G4 G):=⟨_,fun _ _ _=>rfl⟩;refine tF (ys:=ns.map V.str) Pv ?_ ?_ ?_ ?_ ?_
   ·rw[ZC];exact⟨.nil,Kp.refl⟩
   ·intro i xs G h;rw[ZC] at h;rw[h.1.len];have h1:=uV S.lt (ns.take i);rw[List.length_take] at h1;omega
   ·intro i xs G h;rw[ZC] at h;exact dC.of (h.2.at el)
   ·intro i y xs G hi ey h;rw[ZC] at h;obtain⟨hT,KG⟩:=h;obtain⟨n,en,rfl⟩:∃ n,ns[i]?=some n/\y=V.str n:=by
     rw[List.getElem?_map] at ey;obtain⟨n,a0,b0⟩:=Option.map_eq_some_iff.mp ey;exact⟨n,a0,b0.symm⟩
    obtain⟨la,ws,vn,lw,ela⟩:=hL.inS (hks n (List.mem_of_getElem? en));have AG:=A.kp KG;have ekG:=KG.at ek;have elG:=KG.at ela;have es:iG S.lt (ns.take (i+1))=iG S.lt (ns.take i)++iG S.lt [n]:=by rw[List.take_add_one,en,Option.toList_some,Ca]
    wp_walk using bF,Option.join_some,AG.ins,ekG,vn,elG;cases ws with
    | nil =>
     rw[if_neg (by simp),ZC,es];exact⟨by rw[show iG S.lt [n]=[] by simp[iG,lw],List.append_nil];exact hT,KG⟩
    | cons w r =>
     rw[if_pos (by simp)];wp_walk using AG.ins,ekG,vn,elG;intro q1 m1 q2 m2;rw[ZC,es,show iG S.lt [n]=[(n,w::r)] by simp[iG,lw]];exact⟨((hT.kt (aK.new m1)).kt (aK.new m2)).snoc aA ((q0D m2).at aA),(KG.trans (Kp.new m1)).trans (Kp.new m2)⟩
   intro ut G h ln3 hln;rw[ZC] at h;obtain⟨hT,KG⟩:=h;rw[List.length_map,List.take_length] at hT;have lut:ut.length<=64:=by
    rw[hT.len];have h1:=uV S.lt ns;omega
   rw[ens] at hT;replace hT:iZ G ut S.ltS:=hT;have N3:=q0D (o:=.lst ut) hln;have eut:Zs G ln3 (.lst ut) ln3=some (.lst ut):=aA;replace hT:=hT.kt (aK.nil N3);replace hP:=hP.kt (aK.nil (KG.trans N3));replace eun:=(KG.trans N3).at eun;replace A:=A.kp (KG.trans N3);replace N1:=N1.trans (KG.trans N3);generalize Zs G ln3 (.lst ut)=G5 at *;clear ZC KG N3 hln el hks ens lns ek hL;refine ZI _ _ ?_;clear ZI;clear R3;wp_walk using A.ins,A.wk.ins;refine⟨R.wk,R.wx,R.lb,R.ln,S.stk,rfl,A.wk,fun pl m1=>?_⟩;have N4:=q0D (o:=.tup ((bY S.stk).map V.int)) m1;have epl:Zs G5 pl (.tup ((bY S.stk).map V.int)) pl=some (.tup ((bY S.stk).map V.int)):=aA;replace A:=A.kp N4;replace N1:=N1.trans N4;replace hP:=hP.kt (aK.nil N4);replace hT:=hT.kt (aK.nil N4);replace eun:=N4.at eun;replace eut:=N4.at eut;generalize Zs G5 pl (.tup ((bY S.stk).map V.int))=G6 at *;clear N4 m1;wp_walk using A.ins,A.tk.ins,eun;refine fun pn m2=>?_;have N4:=q0D (o:=.tup un) m2;have epn:Zs G6 pn (.tup un) pn=some (.tup un):=aA;replace A:=A.kp N4;replace N1:=N1.trans N4;replace hP:=hP.kt (aK.nil N4);replace hT:=hT.kt (aK.nil N4);replace eun:=N4.at eun;replace eut:=N4.at eut;replace epl:=N4.at epl;generalize Zs G6 pn (.tup un)=G7 at *;clear N4 m2;wp_walk using A.ins,A.tk.ins;refine⟨R,as,_,S,rfl,A,b1,fun lo m3=>?_⟩;have N4:=q0D (o:=.lst (S.pend.map V.int)) m3;have elo:Zs G7 lo (.lst (S.pend.map V.int)) lo=some (.lst (S.pend.map V.int)):=aA;replace A:=A.kp N4;replace N1:=N1.trans N4;replace hP:=hP.kt (aK.nil N4);replace hT:=hT.kt (aK.nil N4);replace eun:=N4.at eun;replace eut:=N4.at eut;replace epl:=N4.at epl;replace epn:=N4.at epn;generalize Zs G7 lo (.lst (S.pend.map V.int))=G8 at *;clear N4 m3;wp_walk using elo;refine fun po m4=>?_;have N4:=q0D (o:=.tup (S.pend.map V.int)) m4;have epo:Zs G8 po (.tup (S.pend.map V.int)) po=some (.tup (S.pend.map V.int)):=aA;replace A:=A.kp N4;replace N1:=N1.trans N4;replace hP:=hP.kt (aK.nil N4);replace hT:=hT.kt (aK.nil N4);replace eun:=N4.at eun;replace eut:=N4.at eut;replace epl:=N4.at epl;replace epn:=N4.at epn;generalize Zs G8 po (.tup (S.pend.map V.int))=G9 at *;clear N4 m4;wp_walk using A.ins,A.tk.ins,A.tk.ha;refine fun rv m5=>?_;have N4:=q0D (o:=MZ rv R.da) m5;have erv:Zs G9 rv (MZ rv R.da) rv=some (MZ rv R.da):=aA;replace A:=A.kp N4;replace N1:=N1.trans N4;replace hP:=hP.kt (aK.nil N4);replace hT:=hT.kt (aK.nil N4);replace eun:=N4.at eun;replace eut:=N4.at eut;replace epl:=N4.at epl;replace epn:=N4.at epn;replace epo:=N4.at epo;generalize Zs G9 rv (MZ rv R.da)=GA at *;clear N4 m5;refine⟨R.da,_,rfl,A.tk.ha,fun pa aa GB m6 sm epa hla hpa=>?_⟩;have N4:Kp [] GA GB:=Kp.of sm;replace A:=A.kp N4;replace N1:=N1.trans N4;replace hP:=hP.kt (aK.nil N4);replace hT:=hT.kt (aK.nil N4);replace eun:=N4.at eun;replace eut:=N4.at eut;replace epl:=N4.at epl;replace epn:=N4.at epn;replace epo:=N4.at epo;have hA:fL GB (aa.map V.ref) S.anS:=fL.of (by rw[hla,Pu.anS,List.length_map,kS,List.length_map]) fun j a x y e1 e2=>by
    rw[Pu.anS,List.getElem?_map] at e2;obtain⟨p0,e3,e4⟩:=Option.map_eq_some_iff.mp e2;cases e4;exact hpa j a (.inl p0.1) (wv p0.2) e1 (by rw[kS,List.getElem?_map,e3];rfl)
   clear N4 sm hla hpa m6 erv;wp_walk using eut;refine fun pt m7 p m8=>?_;have N4:=(q0D (o:=.tup ut) m7).trans (Kp.new (o:=.tup [.ref ps,.ref pl,wv S.ar,.int S.nw,.ref pn,.int S.made,.ref po,.ref pa,.ref pt]) m8);refine q _ _ ?_ (N1.trans N4);unfold t4;rw[if_pos hg];have T:=aK.nil N4;exact⟨p,pl,pn,po,pa,pt,.ref ps,un,_,ut,rfl,aA,A.slp.kt T,N4.at epl,N4.at epn,hP.kt T,N4.at epo,N4.at epa,hA.kt T,(q0D m8).at aA,hT.kt T⟩
theorem TX{t:Ad}(T:Tx w K mg t):bG P w K mg base ZF 40 t.Q0 t.Rp ["script"] (HM K):=by
 refine T.YQ.ok kO (fun vs H Q E h=>?_) (fun ZE A outer s H vs Q E hr h=>?_)
 ·obtain⟨a,ns,rfl,_⟩:=h;rfl
 ·obtain⟨a,ns,rfl,hS,h63,q⟩:=h;refine⟨_,(aC (bB (i:=1) kO.nd rfl (Or.inl rfl) (aN (BL T) (hr.mono (by omega)) rfl T.Et T.wB.kp T.DS .nil pass0 (aD (dZ DA (pv 0) (dR aE) (dR aE)) aB)))
   (aC (bB (i:=2) kO.nd rfl (Or.inl rfl) (aN (qV T) (hr.mono (by omega)) rfl T.wJ T.oO.kp T.v9 .nil pass0 (aD (pv 1) (aD (aN (jI T) (hr.mono (by omega)) rfl T.mQ T.kB.kp T.mF .nil pass0 (aD (pv 0) (aD aE aB))) aB))))
   (aC (bI (aQ cN (bU pB (aN (jI T) (hr.mono (by omega)) rfl T.mQ T.kB.kp T.mF .nil pass0 (aD (pv 0) (aD aE aB))) aE) aE (nomark _)) (aI (bB (i:=2) kO.nd rfl (Or.inl rfl) (aN (qV T) (hr.mono (by omega)) rfl T.wJ T.oO.kp T.v9 .nil pass0 (aD (pv 2) (aD (bU tL (aN (jI T) (hr.mono (by omega)) rfl T.mQ T.kB.kp T.mF .nil pass0 (aD (pv 0) (aD aE aB))) aE) aB))))) aZ)
   (aC (bI (aQ cN (bU pB (aN (jI T) (hr.mono (by omega)) rfl T.mQ T.kB.kp T.mF .nil pass0 (aD (pv 0) (aD aE aB))) aE) aE (nomark _)) (aI (bB (i:=2) kO.nd rfl (Or.inl rfl) (pv 1))) aZ)
   (aC (bB (i:=3) kO.nd rfl (Or.inl rfl) (aN (vG T) (hr.mono (by omega)) rfl T.Ah T.oP.kp T.yO .nil pass0 (aD (dZ DA (pv 0) (dR aE) (dR aE)) aB)))
   (aC (bB (i:=4) kO.nd rfl (Or.inl rfl) (dB Ig rfl T.MT Ng (aD (pv 3) aB)))
   (aC (bB (i:=5) kO.nd rfl (Or.inl rfl) (aN (Jf T) (hr.mono (by omega)) rfl T.OQ T.Hl.kp T.Nd .nil pass0 (aD (pv 1) (aD (pv 2) (aD (pv 3) aB)))))
   (aC (bB (i:=6) kO.nd rfl (Or.inl rfl) (aN (Jg T) (hr.mono (by omega)) rfl T.OR T.Hm.kp T.Nf .nil pass0 (aD (pv 1) (aD (pv 2) (aD (pv 4) aB)))))
   (aC (bI (PW.pt (HH (aQ (OY 3 (Ed hr (by decide))) (pv 6) (pv 5) (nomark _)) (HH (aQ (Dl 1 (Ed hr (by decide))) (pv 4) (pv 3) (nomark _)) (Gk (PW.pt (Dr (aQ qC (pv 6) dJ (nomark _)) (xZ (Mi (AI (cO Ic rfl T.pQ Bq (aD (pv 6) (aD (O0 (v:=.ty "tuple") rfl T.gW eP rfl) aB)))))))))))) (aI (aP Ma)) aZ)
   (aC (bI (aQ qC (pv 6) dJ (nomark _)) (aI (bM (jJ (aY bJ (pv 6) aE (fun _ _=>rfl)) (bC (aD aS (aD aE aB)))))) aZ)
   (aC (bM (jJ (pv 4) (bC (aD aS (aD aE (aD aE aB))))))
   (aC (bB (i:=7) kO.nd rfl (Or.inl rfl) (aN (FZ T) (hr.mono (by omega)) rfl T.LR T.D7.kp T.JR .nil pass0 (aD (pv 1) (aD (pv 2) (aD (pv 3) aB)))))
   (aC (bI (aQ qC (pv 5) dJ (nomark _)) (aI (aP (iA (Gd 3 (Ed hr (by decide))) (pv 7) (bU Dn (bC (aD aS aB)) (pv 5)) (nomark _)))) aZ)
   (aC (bB (i:=8) kO.nd rfl (Or.inl rfl) (aY bJ (aN (lJ T) (hr.mono (by omega)) rfl T.oU T.kY.kp T.n8 .nil pass0 (aD (pv 2) (aD (pv 3) aB))) aE (fun _ _=>rfl)))
   (aI (aP (Gh (iA cN (cO BX rfl T.DG rB (aD (pv 7) aB)) aE (nomark _)) (Gh (iA cN (aY bJ (pv 7) aE (fun _ _=>rfl)) aS (nomark _)) (Gi (iA (Gd 4 (Ed hr (by decide))) (cC (aY bJ (pv 7) aE (fun _ _=>rfl)) T.aX T.Ae (wL T) (hr.mono (by omega)) T.BR .nil pass0) (cC (pv 8) T.aX T.Ae (wL T) (hr.mono (by omega)) T.BR .nil pass0) (nomark _))))))))))))))))))))),?_⟩
  and_intros
  refine aF fun R1 Zx=>?_;wp_walk;refine⟨_,hS,fun q1 m1=>?_⟩;obtain⟨ms,em,lm⟩:=yU ns (some 2) (some 8);rw[em];have N1:=q0D (o:=.lst (ms.map V.int)) m1;replace hS:=N1.same.seq hS;refine⟨q1,ms,rfl,aA,by omega,fun p1 ZU b1 G1 e1 s1 g1 n1 d1 l1 K1=>?_⟩;replace hS:=K1.same.seq hS;clear N1 m1 em K1;wp_walk;refine Zx _ _ ?_;clear Zx;clear R1;refine aF fun R2 Zy=>?_;wp_walk;refine⟨a,ns,0,rfl,hS,Int.le_refl _,fun z=>?_⟩;wp_walk;refine⟨p1,ZU,b1,z,rfl,e1,s1,g1,n1,d1,by omega,fun p2 ZO b2 G2 e2 s2 g2 n2 d2 l2 K2=>?_⟩;replace hS:=K2.same.seq hS;replace e1:=K2.at e1;replace s1:=s1.kp (aK.nil K2);clear K2;wp_walk;refine Zy _ _ ?_;clear Zy;clear R2;refine aF fun R21 ab1=>?_
  suffices fin:∀(p2:Addr) (ZO:List V) (b2:List Stm) (G:Hp),G p2=some (.tup ZO)->bE G ZO b2->qS true b2->cV NM4 b2->qO b2<=1->Kp [] G2 G->R21 [some (.ref a),some (.ref p1),some (.ref p2),none,none,none,none,none,none] G by
   wp_walk;refine⟨a,ns,1,rfl,hS,by decide,fun z1=>?_⟩;wp_walk;split
   ·skip;wp_walk;refine⟨a,ns,1,rfl,hS,by decide,fun z2=>?_⟩;wp_walk;refine⟨⟨by decide,by decide⟩,p2,ZO,b2,_,rfl,e2,s2,g2,n2,d2,by omega,fun p3 us3 b3 G3 e3 s3 g3 n3 d3 l3 K3=>?_⟩;wp_walk;exact fin _ _ _ _ e3 s3 g3 n3 d3 K3
   ·exact fin _ _ _ _ e2 s2 g2 n2 d2 Kp.refl
  clear e2 s2 g2 n2 d2;intro p2 ZO b2 G e2 s2 g2 n2 d2 K2;replace hS:=K2.same.seq hS;replace e1:=K2.at e1;replace s1:=s1.kp (aK.nil K2);clear K2;clear G2
  rename Hp=>G2
  refine ab1 _ _ ?_;clear ab1;clear R21;refine aF fun R22 ab2=>?_
  suffices fin:∀(p2:Addr) (ZO:List V) (b2:List Stm) (G:Hp),G p2=some (.tup ZO)->bE G ZO b2->qS true b2->cV NM4 b2->qO b2<=1->Kp [] G2 G->R22 [some (.ref a),some (.ref p1),some (.ref p2),none,none,none,none,none,none] G by
   wp_walk;refine⟨a,ns,1,rfl,hS,by decide,fun z1=>?_⟩;wp_walk;split
   ·skip;wp_walk;exact fin _ _ _ _ e1 s1 g1 n1 d1 Kp.refl
   ·exact fin _ _ _ _ e2 s2 g2 n2 d2 Kp.refl
  clear e2 s2 g2 n2 d2;intro p2 ZO b2 G e2 s2 g2 n2 d2 K2;replace hS:=K2.same.seq hS;replace e1:=K2.at e1;replace s1:=s1.kp (aK.nil K2);clear K2;clear G2
  rename Hp=>G2
  refine ab2 _ _ ?_;clear ab2;clear R22;refine aF fun R3 ZI=>?_;wp_walk;refine⟨_,hS,fun q3 m3=>?_⟩;obtain⟨ms3,em3,lm3⟩:=yU ns (some 10) (some 60);rw[em3];have N3:=q0D (o:=.lst (ms3.map V.int)) m3;refine⟨q3,ms3,rfl,aA,by omega,fun hl hv hs G3 eh hH ok lh fh K3=>?_⟩;replace K3:=N3.trans K3;have W:nP G3 p1 p2 hl ZU ZO hv b1 b2 hs:=⟨K3.at e1,s1.kp (aK.nil K3),g1,by omega,n1,K3.at e2,s2.kp (aK.nil K3),g2,by omega,n2,eh,hH,ok,by omega⟩;replace hS:=K3.same.seq hS;clear N3 m3 em3 K3 e1 s1 e2 s2 eh hH fh;have W0:=W;wp_walk;refine ZI _ _ ?_;clear ZI;clear R3;refine aF fun R4 hR4=>?_;wp_walk using W.eh;refine fun hd hn=>?_;have N4:=q0D (o:=.lst hv) hn;have ehd:Zs G3 hd (.lst hv) hd=some (.lst hv):=aA;replace W:=W.kp N4;replace hS:=N4.same.seq hS;have nhd:hl≠hd:=aJ W0.eh hn;generalize Zs G3 hd (.lst hv)=G4 at *;clear N4 hn W0;refine hR4 _ _ ?_;clear hR4 R4;refine aF fun R5 hR5=>?_
  suffices fin:∀(dv:Option V) (G:Hp),(fU b1 b2 hs=none/\dv=some .Zu\/∃ n c d x y p,Un b1 b2 hs n c d/\dv=some (.ref p)/\G p=some (.tup [.int n,.ref x,.ref y])/\lD G c d x y/\G4 x=none/\G4 y=none)->Kp [] G4 G->R5 [some (.ref a),some (.ref p1),some (.ref p2),some (.ref hl),some (.ref hd),dv,none,none,none] G by
   wp_walk;refine⟨p1,p2,hl,ZU,ZO,hv,b1,b2,hs,rfl,W,fun e H' k=>?_,fun n c d x y p H' un ep PT fx fy k=>?_⟩
   ·wp_walk;exact fin _ _ (.inl ⟨e,rfl⟩) k
   ·wp_walk;exact fin _ _ (.inr ⟨n,c,d,x,y,p,un,rfl,ep,PT,fx,fy⟩) k
  intro dv G5 hdv K5;have ab0:=ehd;replace W:=W.kp K5;replace hS:=K5.same.seq hS;replace ehd:=K5.at ehd;refine hR5 _ _ ?_;clear hR5 R5;refine aF fun R6 hR6=>?_
  suffices fin:∀(tv:Option V) (G:Hp),(fU b1 b2 hs=none/\tv=some .Zu\/∃ n c d x y p,Un b1 b2 hs n c d/\tv=some (.ref p)/\G p=some (.tup [.int n,.ref x,.ref y])/\lD G c d x y/\G5 x=none/\G5 y=none)->Kp [] G5 G->R6 [some (.ref a),some (.ref p1),some (.ref p2),some (.ref hl),some (.ref hd),dv,tv,none,none] G by
   wp_walk;refine⟨p1,p2,hd,ZU,ZO,hv,b1,b2,hs,rfl,W.to ehd,fun e H' k=>?_,fun n c d x y p H' un ep PT fx fy k=>?_⟩
   ·wp_walk;exact fin _ _ (.inl ⟨e,rfl⟩) k
   ·wp_walk;exact fin _ _ (.inr ⟨n,c,d,x,y,p,un,rfl,ep,PT,fx,fy⟩) k
  intro tv G6 htv K6;have acQ:=ehd;have W5:=W;replace W:=W.kp K6;replace hS:=K6.same.seq hS;replace ehd:=K6.at ehd;have hrc:kU K G6 1 hd hl true:=by
   have:=kU.list (K:=K) (H:=G6) (n:=0) (e:=fun _=>true) (dC.of ehd) (dC.of W.eh) rfl fun j x y e1 e2=>by
    rw[e1] at e2;cases e2;obtain⟨pz,rfl⟩:=W.hH.refs _ (List.mem_of_getElem? e1);exact .same
   rwa [show(List.range hv.length).all (fun _=>true)=true by simp] at this
  refine hR6 _ _ ?_;clear hR6 R6;refine aF fun R7 hR7=>?_;rcases hdv with⟨e,rfl⟩|⟨n,c,d,x,y,p,un,rfl,ep,PT,fx,fy⟩
  ·have etv:tv=some .Zu:=by
    rcases htv with⟨_,r⟩|⟨n,c,d,x,y,p,un,_⟩
    ·exact r
    ·rw[un.1] at e;cases e
   subst etv;clear htv;wp_walk using Wl;refine⟨true,hrc,?_⟩;wp_walk;refine hR7 _ _ ?_;clear hR7 R7;refine aF fun R8 hR8=>?_;wp_walk;refine hR8 _ _ ?_;clear hR8 R8;refine aF fun R9 hR9=>?_;wp_walk using ehd;refine fun pb hb=>?_;have NB:=q0D (o:=.tup [.str "begin",.int 9,.int 9]) hb;replace W:=W.kp NB;replace ehd:=NB.at ehd;generalize Zs G6 pb (.tup [.str "begin",.int 9,.int 9])=G7 at *;wp_walk using ehd;have lv:=W.hH.len;have wl:=W.len;refine⟨by omega,?_⟩;have KS:Kp [hd] G7 (Zs G7 hd (.lst (hv++[.ref pb]))):=Kp.qW;have TS:aK G7 (Zs G7 hd (.lst (hv++[.ref pb]))):=aK.tT ehd (by intro _ z;cases z);replace W:=W.skp KS TS (by simpa using nhd);generalize Zs G7 hd (.lst (hv++[.ref pb]))=G7' at *;clear ehd KS TS NB;refine hR9 _ _ ?_;clear hR9 R9;refine aF fun R10 aaE=>?_;wp_walk;refine⟨p1,p2,hl,ZU,ZO,hv,b1,b2,hs,rfl,W,fun _ t1 R as sl G9 et A fn NR K9=>?_,fun n c d x y p H' un _ _ _=>absurd (un.1.symm.trans e) (by simp)⟩;replace W:=W.kp K9;wp_walk;refine aaE _ _ ?_;clear aaE;clear R10;refine aF fun R11 aaZ=>?_;wp_walk;refine aaZ _ _ ?_;clear aaZ;clear R11;refine aF fun R12 aa0=>?_;wp_walk;refine⟨p2,hl,ZO,hv,b2,hs,rfl,W.e2,W.s2,W.g2,W.d2,W.eh,W.hH,W.rG,by omega,fun t8 R8 as8 sl8 cl8 rs8 G8 et8 A8 F8 hN8 e8 hr8 nd8 hf8 nc8 NR8 fc8 K8=>?_⟩;replace A:=A.kp K8;replace et:=K8.at et;wp_walk using et8;refine aa0 _ _ ?_;clear aa0;clear R12;wp_walk using et;refine⟨_,eJ.of et,?_⟩;wp_walk using et,A.ins;obtain⟨b0,c1,c2,c3,c4,c5⟩:=fn.args (by omega);refine⟨R,_,_,_,rfl,A,b0,c1,c2,c3,c4,c5,fun s1 G7 hs1 K7=>?_⟩;replace A8:=A8.kp K7;wp_walk using A8.ins;refine⟨R8,_,_,_,rfl,A8,b0,c1,c2,c3,c4,c5,fun s2 G9 hs2 K9=>?_⟩;replace hs1:=hs1.kt (aK.nil K9);obtain⟨x1,rfl⟩:=MD b0 hs1;obtain⟨x2,rfl⟩:=MD b0 hs2;wp_walk;refine⟨true,Xy (n:=0) b0 hs1 hs2,?_⟩;exact q _
  ·obtain⟨x',y',p',rfl,ep',PT',fx',fy'⟩:∃ x' y' p',tv=some (.ref p')/\G6 p'=some (.tup [.int n,.ref x',.ref y'])/\lD G6 c d x' y'/\G5 x'=none/\G5 y'=none:=by
    rcases htv with⟨e,_⟩|⟨n',c',d',x',y',p',un',e1,e2,e3,e4,e5⟩
    ·rw[un.1] at e;cases e
    ·obtain⟨rfl,rfl,rfl⟩:=un.one un';exact⟨x',y',p',e1,e2,e3,e4,e5⟩
   clear htv;have fc:=(eW _ _ c (List.mem_of_getElem? un.2.1)).1;have fd:=(eW _ _ d (List.mem_of_getElem? un.2.2)).1;have nx1:x≠hd:=wK ab0 fx;have ny1:y≠hd:=wK ab0 fy;have nx2:x≠x':=PT.1.ne fx';have ny2:y≠x':=PT.2.ne fx';have nl2:hl≠x':=aJ W5.eh fx';have nd2:hd≠x':=aJ acQ fx';replace PT:=PT.kp K6;replace ep:=K6.at ep;wp_walk using Wm;refine⟨true,Qk [] (by simp) ep' ep PT' PT fc fd,?_⟩;wp_walk;refine⟨true,hrc,?_⟩;wp_walk using ep',reduceCtorEq,if_false;refine hR7 _ _ ?_;clear hR7 R7;refine aF fun R8 hR8=>?_;obtain⟨⟨us',ex',cs'⟩,_⟩:=PT';wp_walk using ep',ex',reduceCtorEq,if_false;refine fun pb hb=>?_;have NB:=q0D (o:=.tup [.str "end",.int 5]) hb;replace W:=W.kp NB;replace PT:=PT.kp NB;replace ep:=NB.at ep;replace ehd:=NB.at ehd;replace ex':=NB.at ex';replace cs':=cs'.len;generalize Zs G6 pb (.tup [.str "end",.int 5])=G7 at *;wp_walk using ex';refine⟨by have:=(eW _ _ c (List.mem_of_getElem? un.2.1)).2;omega,?_⟩;have KS:Kp [x'] G7 (Zs G7 x' (.lst (us'++[.ref pb]))):=Kp.qW;have TS:aK G7 (Zs G7 x' (.lst (us'++[.ref pb]))):=aK.tT ex' (by intro _ z;cases z);replace W:=W.skp KS TS (by simpa using nl2);replace PT:lD (Zs G7 x' (.lst (us'++[.ref pb]))) c d x y:=⟨PT.1.skp KS TS (by simpa using nx2),PT.2.skp KS TS (by simpa using ny2)⟩;replace ep:=TS _ _ ep;replace ehd:=KS.at1 ehd nd2;generalize Zs G7 x' (.lst (us'++[.ref pb]))=G8 at *;clear KS TS NB ex' cs';wp_walk;refine hR8 _ _ ?_;clear hR8 R8;refine aF fun R9 hR9=>?_;wp_walk using ehd;refine fun pb hb=>?_;have NB:=q0D (o:=.tup [.str "begin",.int 9,.int 9]) hb;replace W:=W.kp NB;replace ehd:=NB.at ehd;replace PT:=PT.kp NB;replace ep:=NB.at ep;generalize Zs G8 pb (.tup [.str "begin",.int 9,.int 9])=G7 at *;wp_walk using ehd;have lv:=W.hH.len;have wl:=W.len;refine⟨by omega,?_⟩;have KS:Kp [hd] G7 (Zs G7 hd (.lst (hv++[.ref pb]))):=Kp.qW;have TS:aK G7 (Zs G7 hd (.lst (hv++[.ref pb]))):=aK.tT ehd (by intro _ z;cases z);replace W:=W.skp KS TS (by simpa using nhd);replace PT:lD (Zs G7 hd (.lst (hv++[.ref pb]))) c d x y:=⟨PT.1.skp KS TS (by simpa using nx1),PT.2.skp KS TS (by simpa using ny1)⟩;replace ep:=TS _ _ ep;generalize Zs G7 hd (.lst (hv++[.ref pb]))=G7' at *;clear ehd KS TS NB;refine hR9 _ _ ?_;clear hR9 R9;refine aF fun R10 aaE=>?_;wp_walk;refine⟨p1,p2,hl,ZU,ZO,hv,b1,b2,hs,rfl,W,fun e=>absurd (un.1.symm.trans e) (by simp),fun n' c' d' x2 y2 p2' G9 un' ep2 PT2 K9=>?_⟩;obtain⟨rfl,rfl,rfl⟩:=un.one un';replace PT:=PT.kp K9;replace ep:=K9.at ep;wp_walk;refine aaE _ _ ?_;clear aaE;clear R10;wp_walk using reduceCtorEq,if_false,ep;refine fun p6 h6=>?_;have N:=q0D (o:=.tup [.str "parts"]) h6;have ep6:=N.at ep;rw[ep6];refine⟨by simp only[List.length_cons,List.length_nil];rw[sizeLine_eq];omega,?_⟩;rw[if_neg (by simp),if_neg (by simp)];refine fun p7 h7=>?_;have NN:=N.trans (Kp.new (o:=.tup [.str "parts",.int n,.ref x,.ref y]) h7);wp_walk;refine⟨true,Qk [.str "parts"] (by intro v hv;rw[show v=.str "parts" by simpa using hv];exact⟨rfl,by simp[qR]⟩) (NN.at ep2) aA (PT2.kp NN) (PT.kp NN) fc fd,?_⟩;exact q _
end
theorem b0{P:List Value->Prop}(h:P []):∀ us:List Value,us.length=0->P us:=fun us e=>by rw[List.length_eq_zero_iff.mp e];exact h
theorem bS{P:List Value->Prop}{n:Nat}(h:∀ a,∀ us:List Value,us.length=n->P (a::us)):∀ us:List Value,us.length=n+1->P us
 | [],e=>by cases e
 | a::us,e=>h a us (Nat.succ.inj e)
theorem MS{q:Program}{loose:List Str}{XP:(q0C)->Heap->Prop}{K:Params->q0B}{as:List Addr}{n t:Nat}{r:PySem.W.RowW}{d:DefRec}{kwd:List (Str×Expr)}{run:Value->List Value->Sem Value}(e:∀ P:Params,as=List.map (fun x=>x.fst) (K P))(H:PySem.W.WalkO q loose XP (PySem.W.kHook K as e).says r d kwd run):PySem.W.WalkX q loose XP (PySem.W.X.obsZ as) (PySem.W.X.valZ K n t) r d kwd run:=fun w s₀ s₁ mg mb G y a o pm cd doc dV kV h1 h2 h3 h4 h5 h6 args vals bs L=>by
 obtain⟨_,f,_,_⟩:=PySem.W.X.z_facts e y;exact H w s₀ s₁ mg mb G (show PySem.W.InK K w s₁.heap from fun p ob hp=>L.keeps _ _ (f p ob hp)) a o pm cd doc dV kV h1 h2 h3 h4 h5 h6 args vals bs
section
open PySem.W
theorem Q1{l:OpenLaw}{w:World}{K:Frag}{h:Heap}{mg:q0C}{fa:Addr}(X:K.In h)(G:h.Ns mainGlobals mg)(hfa:mg "law"=some (.ref fa))
    {f0 f1 f2 f3 f4 f5 f6 f7 f8 f9 f10 f11 f12 f13 f14 f15 f16 f17 f18 f19 f20 f21 f22 f23 f24 f25 f26 f27 f28 f29 f30 f31 f32 f33 f34 f35 f36 f37 f38 f39 f40 f41 f42 f43 f44 f45 f46 f47 f48 f49 f50 f51 f52 f53 f54 f55 f56 f57 f58:Addr} {d0 d1 d2 d3 d4 d5 d6 d7 d8 d9 d10 d11 d12 d13 d14 d15 d16 d17 d18 d19 d20 d21 d22 d23 d24 d25 d26 d27 d28 d29 d30 d31 d32 d33 d34 d35 d36 d37 d38 d39 d40 d41 d42 d43 d44 d45 d46 d47 d48 d49 d50 d51 d52 d53 d54 d55 d56 d57 d58:FuncData}
    {aL:Addr}
    {aW:Addr}
    {aV:Addr}
    {tk0:Tok}
    {tk1:Tok}
    {tk2:Tok}
    {tp3:Addr} {te3:Array DictEntry} {tn3:Nat}
    (aaR:nsIn K mainGlobals "Tickets"=some (some (.ref aL))) (aaV:plainGet K aL Str.empty=true) (aaS:hasDictIn K aL=true) (aaW:plainOver K aL=true) (aaX:findIn K (.ref aL) "__setattr__"=some (some (.builtin "object.__setattr__"))) (uX:makesIn K aL=true) (aaU:keepIn K (.ref aL)=true)
    (abD:nsIn K mainGlobals "Walk"=some (some (.ref aW))) (abR:plainGet K aW Str.empty=true) (abG:hasDictIn K aW=true) (abS:plainOver K aW=true) (abT:findIn K (.ref aW) "__setattr__"=some (some (.builtin "object.__setattr__"))) (FR:makesIn K aW=true) (abN:keepIn K (.ref aW)=true)
    (abW:nsIn K mainGlobals "Run"=some (some (.ref aV))) (acI:plainGet K aV Str.empty=true) (ab4:hasDictIn K aV=true) (acJ:plainOver K aV=true) (acL:findIn K (.ref aV) "__setattr__"=some (some (.builtin "object.__setattr__"))) (Hx:makesIn K aV=true) (acE:keepIn K (.ref aV)=true)
    (a0:nsIn K mainGlobals "kept"=some (some (.ref f0)))
    (F0:Fun K "kept" "kept" Gm f0 d0)
    (a1:nsIn K mainGlobals "worth_of"=some (some (.ref f1)))
    (F1:Fun K "worth_of" "worth_of" vV f1 d1)
    (a2:nsIn K mainGlobals "joined"=some (some (.ref f2)))
    (F2:Fun K "joined" "joined" AR f2 d2)
    (a3:nsIn K mainGlobals "number_of"=some (some (.ref f3)))
    (F3:Fun K "number_of" "number_of" rW f3 d3)
    (a4:nsIn K mainGlobals "one_or_nought"=some (some (.ref f4)))
    (F4:Fun K "one_or_nought" "one_or_nought" lO f4 d4)
    (a5:findIn K (.ref aL) "__init__"=some (some (.ref f5))) (i5:isFn K (.ref f5)=true)
    (F5:Fun K "__init__" "Tickets.__init__" lL f5 d5)
    (a6:findIn K (.ref aL) "make"=some (some (.ref f6))) (i6:isFn K (.ref f6)=true)
    (F6:Fun K "make" "Tickets.make" lM f6 d6)
    (a7:findIn K (.ref aL) "is_open"=some (some (.ref f7))) (i7:isFn K (.ref f7)=true)
    (F7:Fun K "is_open" "Tickets.is_open" iX f7 d7)
    (a8:findIn K (.ref aL) "those_open"=some (some (.ref f8))) (i8:isFn K (.ref f8)=true)
    (F8:Fun K "those_open" "Tickets.those_open" gD f8 d8)
    (a9:findIn K (.ref aL) "finish"=some (some (.ref f9))) (i9:isFn K (.ref f9)=true)
    (F9:Fun K "finish" "Tickets.finish" iW f9 d9)
    (a10:findIn K (.ref aL) "shut"=some (some (.ref f10))) (i10:isFn K (.ref f10)=true)
    (F10:Fun K "shut" "Tickets.shut" lN f10 d10)
    (a11:findIn K (.ref aL) "shut_all"=some (some (.ref f11))) (i11:isFn K (.ref f11)=true)
    (F11:Fun K "shut_all" "Tickets.shut_all" hJ f11 d11)
    (a12:findIn K (.ref aL) "first_done"=some (some (.ref f12))) (i12:isFn K (.ref f12)=true)
    (F12:Fun K "first_done" "Tickets.first_done" gC f12 d12)
    (a13:findIn K (.ref aW) "__init__"=some (some (.ref f13))) (i13:isFn K (.ref f13)=true)
    (F13:Fun K "__init__" "Walk.__init__" rT f13 d13)
    (a14:findIn K (.ref aW) "come_to"=some (some (.ref f14))) (i14:isFn K (.ref f14)=true)
    (F14:Fun K "come_to" "Walk.come_to" mW f14 d14)
    (a15:findIn K (.ref aW) "stands_at"=some (some (.ref f15))) (i15:isFn K (.ref f15)=true)
    (F15:Fun K "stands_at" "Walk.stands_at" kL f15 d15)
    (a16:findIn K (.ref aW) "pass_by"=some (some (.ref f16))) (i16:isFn K (.ref f16)=true)
    (F16:Fun K "pass_by" "Walk.pass_by" mX f16 d16)
    (a17:findIn K (.ref aW) "enter"=some (some (.ref f17))) (i17:isFn K (.ref f17)=true)
    (F17:Fun K "enter" "Walk.enter" pF f17 d17)
    (a18:findIn K (.ref aW) "leave"=some (some (.ref f18))) (i18:isFn K (.ref f18)=true)
    (F18:Fun K "leave" "Walk.leave" pG f18 d18)
    (a19:findIn K (.ref aW) "place"=some (some (.ref f19))) (i19:isFn K (.ref f19)=true)
    (F19:Fun K "place" "Walk.place" pH f19 d19)
    (a20:nsIn K mainGlobals "do_set"=some (some (.ref f20)))
    (F20:Fun K "do_set" "do_set" Du f20 d20)
    (a21:nsIn K mainGlobals "do_order"=some (some (.ref f21)))
    (F21:Fun K "do_order" "do_order" vS f21 d21)
    (a22:nsIn K mainGlobals "do_timer"=some (some (.ref f22)))
    (F22:Fun K "do_timer" "do_timer" vT f22 d22)
    (a23:nsIn K mainGlobals "do_send"=some (some (.ref f23)))
    (F23:Fun K "do_send" "do_send" AO f23 d23)
    (a24:nsIn K mainGlobals "do_drop"=some (some (.ref f24)))
    (F24:Fun K "do_drop" "do_drop" AM f24 d24)
    (a25:nsIn K mainGlobals "do_wait"=some (some (.ref f25)))
    (F25:Fun K "do_wait" "do_wait" AQ f25 d25)
    (a26:nsIn K mainGlobals "do_hear"=some (some (.ref f26)))
    (F26:Fun K "do_hear" "do_hear" AN f26 d26)
    (a27:nsIn K mainGlobals "do_end"=some (some (.ref f27)))
    (F27:Fun K "do_end" "do_end" Dt f27 d27)
    (a28:findIn K (.ref aV) "__init__"=some (some (.ref f28))) (i28:isFn K (.ref f28)=true)
    (F28:Fun K "__init__" "Run.__init__" vN f28 d28)
    (a29:findIn K (.ref aV) "open_tickets"=some (some (.ref f29))) (i29:isFn K (.ref f29)=true)
    (F29:Fun K "open_tickets" "Run.open_tickets" hE f29 d29)
    (a30:findIn K (.ref aV) "state"=some (some (.ref f30))) (i30:isFn K (.ref f30)=true)
    (F30:Fun K "state" "Run.state" rR f30 d30)
    (a31:findIn K (.ref aV) "take"=some (some (.ref f31))) (i31:isFn K (.ref f31)=true)
    (F31:Fun K "take" "Run.take" vP f31 d31)
    (a32:findIn K (.ref aV) "passes_over"=some (some (.ref f32))) (i32:isFn K (.ref f32)=true)
    (F32:Fun K "passes_over" "Run.passes_over" iU f32 d32)
    (a33:findIn K (.ref aV) "take_done"=some (some (.ref f33))) (i33:isFn K (.ref f33)=true)
    (F33:Fun K "take_done" "Run.take_done" lK f33 d33)
    (a34:findIn K (.ref aV) "take_letter"=some (some (.ref f34))) (i34:isFn K (.ref f34)=true)
    (F34:Fun K "take_letter" "Run.take_letter" iV f34 d34)
    (a35:findIn K (.ref aV) "wake"=some (some (.ref f35))) (i35:isFn K (.ref f35)=true)
    (F35:Fun K "wake" "Run.wake" vQ f35 d35)
    (a36:findIn K (.ref aV) "go_on"=some (some (.ref f36))) (i36:isFn K (.ref f36)=true)
    (F36:Fun K "go_on" "Run.go_on" vM f36 d36)
    (a37:findIn K (.ref aV) "do_one"=some (some (.ref f37))) (i37:isFn K (.ref f37)=true)
    (F37:Fun K "do_one" "Run.do_one" rQ f37 d37)
    (a38:findIn K (.ref aV) "look"=some (some (.ref f38))) (i38:isFn K (.ref f38)=true)
    (F38:Fun K "look" "Run.look" vO f38 d38)
    (a39:findIn K (.ref aV) "end"=some (some (.ref f39))) (i39:isFn K (.ref f39)=true)
    (F39:Fun K "end" "Run.end" AL f39 d39)
    (a40:findIn K (.ref aV) "wear_out"=some (some (.ref f40))) (i40:isFn K (.ref f40)=true)
    (F40:Fun K "wear_out" "Run.wear_out" mV f40 d40)
    (a41:findIn K (.ref aV) "worth"=some (some (.ref f41))) (i41:isFn K (.ref f41)=true)
    (F41:Fun K "worth" "Run.worth" rS f41 d41)
    (a42:findIn K (.ref aV) "new_ticket"=some (some (.ref f42))) (i42:isFn K (.ref f42)=true)
    (F42:Fun K "new_ticket" "Run.new_ticket" kK f42 d42)
    (a43:nsIn K mainGlobals "run_again"=some (some (.ref f43)))
    (F43:Fun K "run_again" "run_again" rX f43 d43)
    (a44:nsIn K mainGlobals "part_at"=some (some (.ref f44)))
    (F44:Fun K "part_at" "part_at" AV f44 d44)
    (a45:nsIn K mainGlobals "changed"=some (some (.ref f45)))
    (F45:Fun K "changed" "changed" vR f45 d45)
    (a46:nsIn K mainGlobals "first_unlike_commands"=some (some (.ref f46)))
    (F46:Fun K "first_unlike_commands" "first_unlike_commands" eX f46 d46)
    (a47:nsIn K mainGlobals "_law_cell_at"=some (some (.ref f47)))
    (F47:Fun K "_law_cell_at" "_law_cell_at" pI f47 d47)
    (a48:nsIn K mainGlobals "_law_row"=some (some (.ref f48)))
    (F48:Fun K "_law_row" "_law_row" AU f48 d48)
    (a49:nsIn K mainGlobals "_law_take"=some (some (.ref f49)))
    (F49:Fun K "_law_take" "_law_take" vU f49 d49)
    (a50:nsIn K mainGlobals "_law_saying"=some (some (.ref f50)))
    (F50:Fun K "_law_saying" "_law_saying" pJ f50 d50)
    (a51:nsIn K mainGlobals "_law_statement"=some (some (.ref f51)))
    (F51:Fun K "_law_statement" "_law_statement" kM f51 d51)
    (a52:nsIn K mainGlobals "_law_block"=some (some (.ref f52)))
    (F52:Fun K "_law_block" "_law_block" rV f52 d52)
    (a53:nsIn K mainGlobals "_law_program"=some (some (.ref f53)))
    (F53:Fun K "_law_program" "_law_program" mZ f53 d53)
    (a54:nsIn K mainGlobals "_law_happenings"=some (some (.ref f54)))
    (F54:Fun K "_law_happenings" "_law_happenings" iY f54 d54)
    (a55:nsIn K mainGlobals "_law_changed"=some (some (.ref f55)))
    (F55:Fun K "_law_changed" "_law_changed" mY f55 d55)
    (a56:nsIn K mainGlobals "_law_stepped"=some (some (.ref f56)))
    (F56:Fun K "_law_stepped" "_law_stepped" m9 f56 d56)
    (a57:nsIn K mainGlobals "_law_due"=some (some (.ref f57)))
    (F57:Fun K "_law_due" "_law_due" AS f57 d57)
    (a58:nsIn K mainGlobals "law"=some (some (.ref f58)))
    (F58:Fun K "law" "law" Mm f58 d58)
    (u7:findIn K (.ref aL) "made"=some none)
    (gH:findIn K (.ref aL) "pending"=some none)
    (gF:findIn K (.ref aL) "answers"=some none)
    (iI:findIn K (.ref aW) "blocks"=some none)
    (eV:findIn K (.ref aW) "numbers"=some none)
    (kE:findIn K (.ref aV) "walk"=some none)
    (dF:findIn K (.ref aV) "sleep"=some none)
    (Ce:findIn K (.ref aV) "arg"=some none)
    (tG:findIn K (.ref aV) "now"=some none)
    (fW:findIn K (.ref aV) "names"=some none)
    (cJ:findIn K (.ref aV) "tickets"=some none)
    (gG:findIn K (.ref aV) "letters"=some none)
    (v0:nsIn K mainGlobals "GREATEST_WORTH"=some (some (.int 1000000000 tk0)))
    (v1:nsIn K mainGlobals "GREATEST_MOMENT"=some (some (.int 1000000000000 tk1)))
    (v2:nsIn K mainGlobals "MOST_AT_ONCE"=some (some (.int 300 tk2)))
    (v3:nsIn K mainGlobals "DEEDS"=some (some (.ref tp3))) (u3:K.lookup tp3=some {cls:=.type "dict",data:=.dict te3 tn3})
    (ac6:nsIn K tp3 "set"=some (some (.ref f20)))
    (ac7:nsIn K tp3 "order"=some (some (.ref f21)))
    (ac8:nsIn K tp3 "timer"=some (some (.ref f22)))
    (ac9:nsIn K tp3 "child"=some (some (.ref f21)))
    (adA:nsIn K tp3 "send"=some (some (.ref f23)))
    (adB:nsIn K tp3 "drop"=some (some (.ref f24)))
    (adC:nsIn K tp3 "wait"=some (some (.ref f25)))
    (adD:nsIn K tp3 "hear"=some (some (.ref f26)))
    (adE:nsIn K tp3 "end"=some (some (.ref f27)))
    (sD:nsIn K mainGlobals "enumerate"=some none)
    (pQ:nsIn K mainGlobals "isinstance"=some none)
    (DG:nsIn K mainGlobals "len"=some none)
    (MT:nsIn K mainGlobals "list"=some none)
    (MU:nsIn K mainGlobals "max"=some none)
    (PR:nsIn K mainGlobals "min"=some none)
    (Bn:nsIn K mainGlobals "range"=some none)
    (v8:nsIn K mainGlobals "reversed"=some none)
    (PU:nsIn K mainGlobals "set"=some none)
    (qH:nsIn K mainGlobals "sorted"=some none)
    (UR:nsIn K mainGlobals "sum"=some none)
    (gW:nsIn K mainGlobals "tuple"=some none)
    (kl3:KeysLit w.params te3.toList)
    : ∃ fd:FuncData,(∀(s:Shared) (v:Value),BindsTo s fd ⟨[v],[]⟩ [("script",v)])/\∀ base:Heap,K.In base->base.Ns mainGlobals mg->bG l.prog w K mg base ZF 40 fa fd ["script"] (HM K):=by
  have e:=hfa.symm.trans (mg_of X G a58);cases e;have T:Tx w K mg ⟨f0,_,f1,_,f2,_,f3,_,f4,_,f5,_,f6,_,f7,_,f8,_,f9,_,f10,_,f11,_,f12,_,f13,_,f14,_,f15,_,f16,_,f17,_,f18,_,f19,_,f20,_,f21,_,f22,_,f23,_,f24,_,f25,_,f26,_,f27,_,f28,_,f29,_,f30,_,f31,_,f32,_,f33,_,f34,_,f35,_,f36,_,f37,_,f38,_,f39,_,f40,_,f41,_,f42,_,f43,_,f44,_,f45,_,f46,_,f47,_,f48,_,f49,_,f50,_,f51,_,f52,_,f53,_,f54,_,f55,_,f56,_,f57,_,fa,_,tk0,tk1,tk2,tp3,aL,aW,aV⟩:=⟨F0,(F0.binds fun _ _ _ _ _ _=>bS fun _=>b0 rfl),(mg_of X G a0),F1,(F1.binds fun _ _ _ _ _ _=>bS fun _=>bS fun _=>bS fun _=>bS fun _=>bS fun _=>b0 rfl),(mg_of X G a1),F2,(F2.binds fun _ _ _ _ _ _=>bS fun _=>bS fun _=>bS fun _=>b0 rfl),(mg_of X G a2),F3,(F3.binds fun _ _ _ _ _ _=>bS fun _=>b0 rfl),(mg_of X G a3),F4,(F4.binds fun _ _ _ _ _ _=>bS fun _=>b0 rfl),(mg_of X G a4),F5,(F5.binds fun _ _ _ _ _ _=>bS fun _=>b0 rfl),⟨a5,i5,F5.kp⟩,F6,(F6.binds fun _ _ _ _ _ _=>bS fun _=>b0 rfl),⟨a6,i6,F6.kp⟩,F7,(F7.binds fun _ _ _ _ _ _=>bS fun _=>bS fun _=>b0 rfl),⟨a7,i7,F7.kp⟩,F8,(F8.binds fun _ _ _ _ _ _=>bS fun _=>b0 rfl),⟨a8,i8,F8.kp⟩,F9,(F9.binds fun _ _ _ _ _ _=>bS fun _=>bS fun _=>bS fun _=>b0 rfl),⟨a9,i9,F9.kp⟩,F10,(F10.binds fun _ _ _ _ _ _=>bS fun _=>bS fun _=>b0 rfl),⟨a10,i10,F10.kp⟩,F11,(F11.binds fun _ _ _ _ _ _=>bS fun _=>b0 rfl),⟨a11,i11,F11.kp⟩,F12,(F12.binds fun _ _ _ _ _ _=>bS fun _=>bS fun _=>b0 rfl),⟨a12,i12,F12.kp⟩,F13,(F13.binds fun _ _ _ _ _ _=>bS fun _=>bS fun _=>b0 rfl),⟨a13,i13,F13.kp⟩,F14,(F14.binds fun _ _ _ _ _ _=>bS fun _=>b0 rfl),⟨a14,i14,F14.kp⟩,F15,(F15.binds fun _ _ _ _ _ _=>bS fun _=>b0 rfl),⟨a15,i15,F15.kp⟩,F16,(F16.binds fun _ _ _ _ _ _=>bS fun _=>b0 rfl),⟨a16,i16,F16.kp⟩,F17,(F17.binds fun _ _ _ _ _ _=>bS fun _=>bS fun _=>b0 rfl),⟨a17,i17,F17.kp⟩,F18,(F18.binds fun _ _ _ _ _ _=>bS fun _=>b0 rfl),⟨a18,i18,F18.kp⟩,F19,(F19.binds fun _ _ _ _ _ _=>bS fun _=>b0 rfl),⟨a19,i19,F19.kp⟩,F20,(F20.binds fun _ _ _ _ _ _=>bS fun _=>bS fun _=>b0 rfl),(mg_of X G a20),F21,(F21.binds fun _ _ _ _ _ _=>bS fun _=>bS fun _=>b0 rfl),(mg_of X G a21),F22,(F22.binds fun _ _ _ _ _ _=>bS fun _=>bS fun _=>b0 rfl),(mg_of X G a22),F23,(F23.binds fun _ _ _ _ _ _=>bS fun _=>bS fun _=>b0 rfl),(mg_of X G a23),F24,(F24.binds fun _ _ _ _ _ _=>bS fun _=>bS fun _=>b0 rfl),(mg_of X G a24),F25,(F25.binds fun _ _ _ _ _ _=>bS fun _=>bS fun _=>b0 rfl),(mg_of X G a25),F26,(F26.binds fun _ _ _ _ _ _=>bS fun _=>bS fun _=>b0 rfl),(mg_of X G a26),F27,(F27.binds fun _ _ _ _ _ _=>bS fun _=>bS fun _=>b0 rfl),(mg_of X G a27),F28,(F28.binds fun _ _ _ _ _ _=>bS fun _=>bS fun _=>b0 rfl),⟨a28,i28,F28.kp⟩,F29,(F29.binds fun _ _ _ _ _ _=>bS fun _=>b0 rfl),⟨a29,i29,F29.kp⟩,F30,(F30.binds fun _ _ _ _ _ _=>bS fun _=>b0 rfl),⟨a30,i30,F30.kp⟩,F31,(F31.binds fun _ _ _ _ _ _=>bS fun _=>bS fun _=>b0 rfl),⟨a31,i31,F31.kp⟩,F32,(F32.binds fun _ _ _ _ _ _=>bS fun _=>bS fun _=>b0 rfl),⟨a32,i32,F32.kp⟩,F33,(F33.binds fun _ _ _ _ _ _=>bS fun _=>bS fun _=>bS fun _=>b0 rfl),⟨a33,i33,F33.kp⟩,F34,(F34.binds fun _ _ _ _ _ _=>bS fun _=>bS fun _=>bS fun _=>b0 rfl),⟨a34,i34,F34.kp⟩,F35,(F35.binds fun _ _ _ _ _ _=>bS fun _=>bS fun _=>b0 rfl),⟨a35,i35,F35.kp⟩,F36,(F36.binds fun _ _ _ _ _ _=>bS fun _=>b0 rfl),⟨a36,i36,F36.kp⟩,F37,(F37.binds fun _ _ _ _ _ _=>bS fun _=>bS fun _=>b0 rfl),⟨a37,i37,F37.kp⟩,F38,(F38.binds fun _ _ _ _ _ _=>bS fun _=>bS fun _=>b0 rfl),⟨a38,i38,F38.kp⟩,F39,(F39.binds fun _ _ _ _ _ _=>bS fun _=>bS fun _=>b0 rfl),⟨a39,i39,F39.kp⟩,F40,(F40.binds fun _ _ _ _ _ _=>bS fun _=>b0 rfl),⟨a40,i40,F40.kp⟩,F41,(F41.binds fun _ _ _ _ _ _=>bS fun _=>bS fun _=>b0 rfl),⟨a41,i41,F41.kp⟩,F42,(F42.binds fun _ _ _ _ _ _=>bS fun _=>bS fun _=>b0 rfl),⟨a42,i42,F42.kp⟩,F43,(F43.binds fun _ _ _ _ _ _=>bS fun _=>bS fun _=>b0 rfl),(mg_of X G a43),F44,(F44.binds fun _ _ _ _ _ _=>bS fun _=>bS fun _=>bS fun _=>b0 rfl),(mg_of X G a44),F45,(F45.binds fun _ _ _ _ _ _=>bS fun _=>bS fun _=>bS fun _=>b0 rfl),(mg_of X G a45),F46,(F46.binds fun _ _ _ _ _ _=>bS fun _=>bS fun _=>b0 rfl),(mg_of X G a46),F47,(F47.binds fun _ _ _ _ _ _=>bS fun _=>bS fun _=>b0 rfl),(mg_of X G a47),F48,(F48.binds fun _ _ _ _ _ _=>bS fun _=>b0 rfl),(mg_of X G a48),F49,(F49.binds fun _ _ _ _ _ _=>bS fun _=>bS fun _=>b0 rfl),(mg_of X G a49),F50,(F50.binds fun _ _ _ _ _ _=>bS fun _=>bS fun _=>b0 rfl),(mg_of X G a50),F51,(F51.binds fun _ _ _ _ _ _=>bS fun _=>bS fun _=>b0 rfl),(mg_of X G a51),F52,(F52.binds fun _ _ _ _ _ _=>bS fun _=>bS fun _=>b0 rfl),(mg_of X G a52),F53,(F53.binds fun _ _ _ _ _ _=>bS fun _=>b0 rfl),(mg_of X G a53),F54,(F54.binds fun _ _ _ _ _ _=>bS fun _=>b0 rfl),(mg_of X G a54),F55,(F55.binds fun _ _ _ _ _ _=>bS fun _=>bS fun _=>b0 rfl),(mg_of X G a55),F56,(F56.binds fun _ _ _ _ _ _=>bS fun _=>bS fun _=>b0 rfl),(mg_of X G a56),F57,(F57.binds fun _ _ _ _ _ _=>bS fun _=>bS fun _=>bS fun _=>b0 rfl),(mg_of X G a57),F58,(F58.binds fun _ _ _ _ _ _=>bS fun _=>b0 rfl),(mg_of X G a58),⟨aaV,aaS,aaW,aaX⟩,(mg_of X G aaR),⟨uX,a5,i5,aaU⟩,⟨abR,abG,abS,abT⟩,(mg_of X G abD),⟨FR,a13,i13,abN⟩,⟨acI,ab4,acJ,acL⟩,(mg_of X G abW),⟨Hx,a28,i28,acE⟩,u7,gH,gF,iI,eV,kE,dF,Ce,tG,fW,cJ,gG,(mg_of X G v0),(mg_of X G v1),(mg_of X G v2),(mg_of X G v3),⟨_,_,u3,kl3⟩,ac6,ac7,ac8,ac9,adA,adB,adC,adD,adE,(mg_none_of X G sD),(mg_none_of X G pQ),(mg_none_of X G DG),(mg_none_of X G MT),(mg_none_of X G MU),(mg_none_of X G PR),(mg_none_of X G Bn),(mg_none_of X G v8),(mg_none_of X G PU),(mg_none_of X G qH),(mg_none_of X G UR),(mg_none_of X G gW)⟩;refine⟨d58,?_,fun base _ _=>TX T⟩;obtain⟨_,_,_,_,_,_,_,_,_,rfl,_⟩:=F58.ex;exact fun s v=>.of_eq rfl
end
theorem walk{l:PySem.W.OpenLaw}{q:Program}{loose:List Str}{XP:(q0C)->Heap->Prop}{YP:World->Heap->Prop}{d:DefRec}{K:Params->q0B}(hn:l.most=some 63)(hdf:d.params.defaults=[])
    (hY:∀(w:World) (h:Heap),YP w h->(K w.params).In h)
    (F:∀(w:World) (mg:q0C) (fa:Addr) (h:Heap),(K w.params).In h->h.Ns mainGlobals mg->mg d.name=some (.ref fa) ->
      ∃ fd:FuncData,(∀(s:Shared) (u:Value),BindsTo s fd ⟨[u],[]⟩ [("script",u)])/\∀ base:Heap,(K w.params).In base->base.Ns mainGlobals mg->bG l.prog w (K w.params) mg base ZF 40 fa fd ["script"] (HM (K w.params))) :
    PySem.W.WalkO q loose XP YP l.row.toRowW d [] (fun f vs=>PySem.call f vs) :=
  L2.PQ (n:=63) (k:=40) (x:="script") (CX:=fun _=>ZF) (sp:=fun w=>HM (K w.params)) hn (by decide) hdf ⟨rfl,by decide,by decide⟩ hY F (fun _ _ a ns hl _ hS=>⟨a,ns,rfl,hS,hl,fun _=>rfl⟩) fun _ _ _ _ _ z=>z
end Own
open PySem PySem.W PyProof.Rows
set_option maxRecDepth 100000 in
set_option maxHeartbeats 0 in
theorem PySem.Challenge.cw_outlast_k33_where_programs_part_holds : PySem.Challenge.rw_outlast_k33_where_programs_part.Holds := by
 w_on;o_law;z_head;(case hw=>w_witness2)
 k_fill
 refine Own.MS (fun _=>rfl) ?_;refine Own.walk (l:=PySem.Challenge.rw_outlast_k33_where_programs_part) rfl rfl (fun w h Y=>PySem.W.kIn_of Y) ?F
 case F =>
  intro w mg fa h KX G hmg;apply Own.Q1 KX G hmg
  iterate 207 (first|(apply L2.Tn<;>k_is)|k_is)
  exact⟨⟨_,_,rfl,rfl⟩,⟨_,_,rfl,rfl⟩,⟨_,_,rfl,rfl⟩,⟨_,_,rfl,rfl⟩,⟨_,_,rfl,rfl⟩,⟨_,_,rfl,rfl⟩,⟨_,_,rfl,rfl⟩,⟨_,_,rfl,rfl⟩,⟨_,_,rfl,rfl⟩,trivial⟩
