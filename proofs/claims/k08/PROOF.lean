import PyProof.Rows.All
import Wide.All
import OpenK.AllK
import Wide.FinOn
import Lean
import PyProof.EqAt
import PyProof.EqKinds
import PyProof.TupleCall
import PySem.Challenge.RW_outlast_k08_texts_of_no_program
set_option Elab.async false
set_option linter.all false
set_option maxRecDepth 100000
local macro_rules | `(tactic| omega) => `(tactic| first | assumption | lia | omega +splitDisjunctions)
namespace PySem.W.Fast
def tw2577707364493066804:=0
def tw9023349846312817039:=0
def tw16654752553236618691:=0
def tw3340948218192249576:=0
def tw18193894079184325026:=0
def tw5068943697577314345:=0
def tw5210898926785948858:=0
def tw995464589301280272:=0
def tw9786320290512608338:=0
def tw7267140000755238001:=0
def tw12658003536671716553:=0
def tw3450862255880216121:=0
def tw7588814639031696747:=0
def tw5519577228830875457:=0
def tw6027415430287900864:=0
def tw17486931584807315664:=0
def tw12694778562013815754:=0
def tw11778262399736776797:=0
def tw11444358686646451347:=0
def tw16223609459119487640:=0
def tw3177968168581797987:=0
def tw17595647023366298370:=0
def tw7624111319669987310:=0
def tw3852582384591879737:=0
def tw11653624995305460030:=0
def tw7525967321662082242:=0
def tw14974562403377338285:=0
def tw18168360356968454731:=0
def tw3196019166710761449:=0
def tw17418506767155739262:=0
def tw1449828177542669277:=0
def tw4059509336885055380:=0
def tw2785658061445329943:=0
def tw17225783519449144045:=0
def tw9141301768675565760:=0
def tw17948705640279253529:=0
def tw15418842508705342277:=0
def tw10959834810167481206:=0
def tw11217891151050609165:=0
def tw2436913392948952189:=0
def tw4222596115527971591:=0
def tw1366408703889567557:=0
def tw13498521268623705549:=0
def tw1950847481838601619:=0
def tw5703206556943557297:=0
def tw17546741464052642343:=0
def tw16410049568248743268:=0
def tw17618201840170955576:=0
def tw12087619929726180211:=0
def tw17373100780696944261:=0
def tw5212113386991118966:=0
def tw8137970878507737213:=0
def tw15217041253079430205:=0
def tw5545712637323990657:=0
def tw11945331666372866426:=0
def tw2512302969290770628:=0
def tw4399010220685223286:=0
def tw17451582226799645495:=0
def tw7686496795925640239:=0
def tw2111279174055975842:=0
def tw8968342886222362288:=0
def tw5503856692318240017:=0
def tw17668651090727006505:=0
def tw15368928743437523063:=0
def tw8607362903779888835:=0
def tw10988908545965438077:=0
def tw4079711504666538011:=0
def tw11576759434488741944:=0
def tw4281294656386065893:=0
def tw1644453528691885060:=0
def tw3975903568555900184:=0
def tw12775971743949648673:=0
def tw1163974924769511444:=0
def tw15793707251037715333:=0
def tw14690899367707668427:=0
def tw12916138552853069862:=0
def tw17856654316038837916:=0
def tw4169481568257458847:=0
def tw1323140321723144420:=0
def tw13540674566058018492:=0
def tw13549811391325904550:=0
def tw2956747628049936600:=0
def tw11942185907401254988:=0
def tw8438894427525075600:=0
def tw14242932448316171271:=0
def tw15989187771826539747:=0
def tw6753161864537293234:=0
def tw16165004040555307748:=0
def tw13280420512822241588:=0
def tw13155776649988084868:=0
def tw11997672388824088828:=0
def tw9095776308633190283:=0
def tw3066167773061721428:=0
def tw4948381296842615643:=0
def tw4305078037621356311:=0
def tw9419914235355487830:=0
def tw3721211485033403589:=0
def tw676374613057007517:=0
def tw15632182541680686428:=0
def tw6776461658663192246:=0
def tw17284250770362870936:=0
def tw15524194344088525213:=0
def tw13033602419462280604:=0
def tw6477870628095042574:=0
def tw3782432188246536774:=0
def tw1478694370053107006:=0
def tw2182292277542860587:=0
def tw15044966143929905964:=0
def tw9348187521139352725:=0
def tw16808648365470367265:=0
def tw5319379430617679673:=0
def tw16916326616200138032:=0
def tw11298483107875879093:=0
def tw2955070268728176542:=0
def tw495280143987843014:=0
def tw11348302141552731363:=0
def tw362134281056977391:=0
def tw15421922750005475858:=0
def tw8083961532226130439:=0
def tw15389472304804772801:=0
def tw7356430443268885022:=0
def tw2723353688452984568:=0
def tw11152518613637496656:=0
def tw7987514554967450715:=0
def tw12329611276142118509:=0
def tw8181448140690514703:=0
def tw8219963031597070867:=0
def tw17841661245861835349:=0
def tw7607341700289289549:=0
def tw13187617129352680677:=0
def tw1002429416286046344:=0
def tw7088883995044915706:=0
def tw11992695058157303178:=0
def tw15026213822411286320:=0
def tw15988192689571557881:=0
def tw6209223942483227730:=0
def tw10047803789929149462:=0
def tw2877526202959617258:=0
def tw17339437987673972259:=0
def tw8708736724440285785:=0
def tw1096468508802635790:=0
def tw2627842986303448106:=0
def tw13990819625184078155:=0
def tw8078694136434729466:=0
def tw686026502199487538:=0
def tw1849864502799811332:=0
def tw8816856818264888641:=0
def tw4845506340278517704:=0
def tw10372929374283207908:=0
def tw14917490031058990503:=0
def tw13610956736401772622:=0
def tw4159484141333522666:=0
def tw1527366907889499179:=0
def tw15560213735860428456:=0
def tw16981528862356219544:=0
def tw6623084831402039791:=0
def tw12350387215282070098:=0
def tw13491822785144723386:=0
def tw13093827863950082322:=0
def tw8189420739090180893:=0
def tw13760241452977098287:=0
def tw89238232883681614:=0
def tw7511397645099077671:=0
def tw3288508223179053636:=0
def tw12154690576080558930:=0
def tw10333672409055169660:=0
def tw17261791304956396670:=0
def tw13398365215047886883:=0
def tw17503481350160060023:=0
def tw13628059753434103251:=0
def tw4352402932616395286:=0
def tw13322581934745120822:=0
def tw8896170505329859734:=0
def tw5617612971556895480:=0
def tw14703397415349032684:=0
def tw15699794096460590511:=0
def tw2633815196869759463:=0
def tw11284291023453095082:=0
def tw13682870682587196527:=0
def tw1898986482910964145:=0
def tw7107917149402238574:=0
def tw14191608722927997148:=0
def tw6015454989506264340:=0
def tw17687170576670526432:=0
def tw10408436098783178602:=0
def tw16113639526643305562:=0
def tw3877405795219066297:=0
def tw9343280410818074301:=0
def tw10101569461414908012:=0
def tw15902075372406850495:=0
def tw11908172831321343197:=0
def tw763389577418193076:=0
def tw7164078322861248394:=0
def tw11963015850038295793:=0
def tw626181961966105311:=0
def tw8277186698245636956:=0
def tw11639033355631255462:=0
def tw11012616882857541759:=0
def tw4477082751397629705:=0
def tw11470744471184961076:=0
def tw3242157585618398600:=0
def tw5236107067130511336:=0
def tw3249461445011720:=0
def tw1519557085098525517:=0
def tw8530020964564966048:=0
def tw757406478736046293:=0
def tw4277743888172357364:=0
def tw17224443197296039326:=0
def tw15336392517970503380:=0
def tw17979822919571961040:=0
def tw4093602353893456331:=0
def tw13095383475825173313:=0
def tw1259480130432992089:=0
def tw10009288793678897925:=0
def tw8380180697430688032:=0
def tw296856214438085880:=0
def tw1600752177623861204:=0
def tw15656777052267696977:=0
def tw15604818745304371967:=0
def tw8350170489519999198:=0
def tw733772806286822744:=0
def tw6058762763357618178:=0
def tw14379579947787500176:=0
def tw12691799313277397803:=0
def tw9542641707894009225:=0
def tw87222111152157253:=0
def tw7118498094432556549:=0
def tw12929826312880098141:=0
def tw4551360069600983951:=0
def tw4096284696837127161:=0
def tw18348483671022567991:=0
def tw12253088378682791914:=0
def tw10598355274012133101:=0
def tw5733233756537846616:=0
def tw13958876315390726912:=0
def tw6949420946971281643:=0
def tw6949406593926197797:=0
def tw151004475511467057:=0
def tw12692935261463671188:=0
def tw3642820460808912514:=0
def tw13662676601427473574:=0
def tw746956027321304959:=0
def tw2411365883085763301:=0
def tw8145815877097920992:=0
def tw5596697879978391427:=0
def tw16013297122574721519:=0
def tw10995372164219430991:=0
def tw13632363763295681198:=0
def tw15026710934288002064:=0
def tw14961683789795780734:=0
def tw4943224643843569116:=0
def tw15018742076775695333:=0
def tw17722465604384593842:=0
def tw15363719140433610009:=0
def tw794615405683338191:=0
def tw3687279561571018689:=0
def tw6386859765243311046:=0
def tw5651680115279441054:=0
def tw453247376039660806:=0
def tw2379973106652798145:=0
def tw14629580114007526159:=0
def tw472798342149274229:=0
def tw10086995834839868096:=0
def tw2156484692313499093:=0
def tw680643646678687151:=0
def tw6648259945828303426:=0
def tw16400217195378014175:=0
def tw9715776890789433118:=0
def tw277716667628881672:=0
def tw12885007927308910785:=0
def tw2687387794235387925:=0
def tw14666719818611706611:=0
def tw9682674492424241244:=0
def tw10115677708529862681:=0
def tw6134241762953268492:=0
def tw10984570455494532813:=0
def tw3620456418430125274:=0
def tw1513836539272274129:=0
def tw13016605557594967147:=0
def tw13279332768237398239:=0
def tw5803559595141354461:=0
def tw11056773318367568200:=0
def tw8939481473492933727:=0
def tw7724635475630007351:=0
def tw3684072307663415460:=0
def tw15965548609963048665:=0
def tw14100114380403485189:=0
def tw14019296355573392922:=0
def tw13808241742325641563:=0
def tw11747077632420219615:=0
def tw1046411736112921215:=0
def tw1105554028371210070:=0
def tw15497384542365654294:=0
def tw17060135959512140710:=0
def tw9062492441922343906:=0
def tw450353497416695632:=0
def tw16258729904766748576:=0
def tw10185387433333335737:=0
def tw7894744852090208520:=0
def tw17306989491208567476:=0
def tw6059003682159021018:=0
def tw7322544637419879671:=0
def tw13311281460180573602:=0
def tw10781913025041108840:=0
def tw10131661383771057095:=0
def tw949702582087703037:=0
def tw8445737591293183914:=0
def tw17330100913464214662:=0
def tw17151022796716054221:=0
def tw15753748997173586597:=0
def tw3729529940118266750:=0
def tw8938913808385997131:=0
def tw7439150163426648457:=0
def tw16645237032861789817:=0
def tw13111251726386275662:=0
def tw12877761054527690922:=0
def tw12056598398846865536:=0
def tw12041705131446295765:=0
def tw11847596021286896606:=0
def tw10877119621046116640:=0
def tw10721220142491629925:=0
def tw9891773688486632829:=0
def tw9462502706363446857:=0
def tw7252799401887533633:=0
def tw3434475096358669121:=0
def tw3159687692822453242:=0
def tw17767896203930244069:=0
def tw15880069111513937309:=0
def tw13684949495257647721:=0
def tw11582197394551375588:=0
def tw10921459567660458390:=0
def tw1559347141072579131:=0
def tw7214233268718015428:=0
def tw6638310612865831727:=0
def tw5294194493719700244:=0
def tw231235803783307770:=0
def tw1621934471220206320:=0
def tw14549793352419064131:=0
def tw12012595237348512335:=0
def tw11171436063748192446:=0
def tw9314905642273131918:=0
def tw8574985940852514121:=0
def tw1650985526743272087:=0
def tw15574270433696638640:=0
def tw14409728572145843884:=0
def tw14098917009260405179:=0
def tw12572215088931383346:=0
def tw12478581161500061214:=0
def tw1200577541105374400:=0
def tw11645337205542943203:=0
def tw9787070168632419681:=0
def tw9781476425732080352:=0
def tw9766336275189529024:=0
def tw9654316178460942781:=0
def tw9368607746249552171:=0
def tw9083531146771636233:=0
def tw9015077590875636099:=0
def tw8666761161067535364:=0
def tw7825610387581597487:=0
def tw7792033705423429510:=0
def tw7493767762917856040:=0
def tw7353854593250505265:=0
def tw728235895986525041:=0
def tw6764128448804883049:=0
def tw6704447264184335911:=0
def tw6697017252876180101:=0
def tw6641627411644047589:=0
def tw6444053708373792951:=0
def tw6315618858005698040:=0
def tw6151153551444752642:=0
def tw5706374007212087976:=0
def tw5046877186272856686:=0
def tw4970517500238939207:=0
def tw4836713406268467183:=0
def tw4797662409930636193:=0
def tw4693345376706395801:=0
def tw4618542929263006414:=0
def tw4544604158370910355:=0
def tw4472872552157817925:=0
def tw4353065851676051530:=0
def tw4177336310239479016:=0
def tw4149362995967470629:=0
def tw4131004198769744856:=0
def tw3973856003590463529:=0
def tw3909071708108811792:=0
def tw3805407013639491571:=0
def tw3783517542836911189:=0
def tw3640713178960497811:=0
def tw3608031222492595652:=0
def tw3606291110678129655:=0
def tw3554617137277731091:=0
def tw3371808326520070074:=0
def tw3343735954463658728:=0
def tw3091753044420144610:=0
def tw2926337823280274244:=0
def tw2785787617100771786:=0
def tw2562075996317762119:=0
def tw2497583302521980208:=0
def tw2329302108974856424:=0
def tw2223552050906942691:=0
def tw1982656833571461058:=0
def tw18439089582258269503:=0
def tw18412293536780042674:=0
def tw18027488267954448496:=0
def tw17817950734175121031:=0
def tw1761613048020415045:=0
def tw17540554198125431079:=0
def tw17424526939662208731:=0
def tw17152101410623232941:=0
def tw16894355021251151501:=0
def tw16864229409190351139:=0
def tw1678583198589303165:=0
def tw1678151606337179114:=0
def tw16776286633653937350:=0
def tw16711926176931722008:=0
def tw16700242404881628884:=0
def tw16529659412347995482:=0
def tw16471434764809960739:=0
def tw16303794161490597691:=0
def tw16121216893966837052:=0
def tw16050441491031456964:=0
def tw15858673644802320398:=0
def tw15367310667513083680:=0
def tw15219100347277816310:=0
def tw15149634269597149739:=0
def tw15123365018250415115:=0
def tw15101505684967723398:=0
def tw14708568870255048115:=0
def tw14691219393723817761:=0
def tw14679213096454682960:=0
def tw14640826890044808966:=0
def tw14567405541209841036:=0
def tw14551689436777438487:=0
def tw1442656631003302745:=0
def tw14300344199315577871:=0
def tw14024253822801707132:=0
def tw13991168998612670828:=0
def tw13972724921269732384:=0
def tw13907471292037391225:=0
def tw13716376477682352828:=0
def tw13634431809084604915:=0
def tw13564530362683810150:=0
def tw13402360564162099124:=0
def tw13308717521174519148:=0
def tw13277598655974504886:=0
def tw13211227156686490656:=0
def tw12856691735439907225:=0
def tw12612540557999546526:=0
def tw12561719036049343240:=0
def tw12430508932271856676:=0
def tw12103252339977468210:=0
def tw12027020664832128064:=0
def tw11962297180495501670:=0
def tw11772451235385678936:=0
def tw11763797488853567975:=0
def tw11386708931070235003:=0
def tw11336826901252335671:=0
def tw11116346906806698539:=0
def tw10955351462990727904:=0
def tw10910637835220430472:=0
def tw10289972228210522400:=0
def tw10224423176750117493:=0
end PySem.W.Fast
abbrev q0A:=PySem.Value->PySem.Shared->Prop
abbrev q0B:=PySem.W.Frag
abbrev q0C:=PySem.Str->Option PySem.Value
namespace L2
open PySem PySem.Spec PyProof.Rows
inductive Key where
 | inl (i:Int)|inr (x:Str)|no
 deriving DecidableEq
noncomputable def Bz:Key->Value->Bool
 | .inl k,v=>Value.isInt k v
 | .inr x,v=>Value.isStrOf x v
 | .no,.none=>true
 | .no,_=>false
noncomputable def Wn(w:World):Key->Int
 | .inl k=>hashInt k
 | .inr x=>hashStr w x
 | .no=>reduceHash 0xFCA86420
theorem fF:∀ {k:Key} {v:Value},Bz k v=true->(∃ i t,k=Key.inl i/\v=Value.int i t)\/(∃ x t,k=Key.inr x/\v=Value.str x t)\/(k=Key.no/\v=Value.none)
 | .inl i,v,h=>by
  obtain⟨t,e⟩:=Value.isInt_shape (k:=i) (v:=v) h;exact .inl ⟨i,t,rfl,e⟩
 | .inr x,v,h=>by
  obtain⟨t,e⟩:=Value.isStrOf_shape (x:=x) (v:=v) h;exact .inr (.inl ⟨x,t,rfl,e⟩)
 | .no,v,h=>by
  cases v<;>first|exact .inr (.inr ⟨rfl,rfl⟩)|cases h
theorem Hg(i:Int)(t:Tok):Bz (.inl i) (.int i t)=true:=by simp[Bz,Value.isInt]
theorem Hh(x:Str)(t:Tok):Bz (.inr x) (.str x t)=true:=by simp[Bz,Value.isStrOf]
theorem QF(a b:Int):decide (Key.inl a=Key.inl b)=(a==b):=by
 by_cases e:a=b
 ·subst e;simp
 ·have h:¬ Key.inl a=Key.inl b:=fun q=>e (Key.inl.inj q);rw[decide_eq_false h];exact(beq_eq_false_iff_ne.mpr e).symm
theorem QH(a b:Str):decide (Key.inr a=Key.inr b)=decide (a=b):=by
 by_cases e:a=b
 ·subst e;simp
 ·have h:¬ Key.inr a=Key.inr b:=fun q=>e (Key.inr.inj q);rw[decide_eq_false h,decide_eq_false e]
noncomputable def gE(prog:Program)(w:World):PySem.KeyKind prog w Key where
 is:=Bz
 hash:=Wn w
 inj:=fun v a b ha hb=>by
  rcases fF ha with⟨i,t,rfl,rfl⟩|⟨x,t,rfl,rfl⟩|⟨rfl,rfl⟩<;>rcases fF hb with⟨j,u,rfl,e⟩|⟨y,u,rfl,e⟩|⟨rfl,e⟩ <;>
   first|rfl|(cases e<;>rfl)
 byValue:=fun k v h=>by
  rcases fF h with⟨i,t,rfl,rfl⟩|⟨x,t,rfl,rfl⟩|⟨rfl,rfl⟩<;>rfl
 pyHash:=fun hv h=>by
  rcases fF hv with⟨i,t,rfl,rfl⟩|⟨x,t,rfl,rfl⟩|⟨rfl,rfl⟩
  ·exact wpAny_pyHash_int h
  ·exact wpAny_pyHash_str h
  ·exact PySem.W.pyHash_slot (T:="NoneType") rfl F.slot_NoneType_hash F.entry_NoneType_hash (F.args_NoneType_hash_1 _) (beq_builtin_none _) (.inl rfl) (wpAny_bind (wpAny_pure (wpAny_bind (wpAny_mkInt (wpAny_pure ⟨_,_,rfl,h⟩)))))
 eqBool:=fun hu hv h=>by
  rcases fF hu with⟨i,t,rfl,rfl⟩|⟨x,t,rfl,rfl⟩|⟨rfl,rfl⟩<;>rcases fF hv with⟨j,u,rfl,rfl⟩|⟨y,u,rfl,rfl⟩|⟨rfl,rfl⟩
  ·rw[QF] at h;exact wpAny_eqBool_int h
  ·exact SeqAt.EqAt.int_str i t y u _ _ _ _ h
  ·exact SeqAt.EqAt.int_none i t _ _ _ _ h
  ·exact SeqAt.EqAt.str_int x t j u _ _ _ _ h
  ·rw[QH] at h;exact wpAny_eqBool_str h
  ·exact SeqAt.EqAt.str_none x t _ _ _ _ h
  ·exact SeqAt.EqAt.none_int j u _ _ _ _ h
  ·exact SeqAt.EqAt.none_str y u _ _ _ _ h
  ·exact SeqAt.EqAt.same .none _ _ _ _ h
 «strs»:=fun k x t v h=>by
  rcases fF h with⟨i,u,rfl,e⟩|⟨y,u,rfl,e⟩|⟨rfl,e⟩
  ·exact nomatch e
  ·injection e with e1 _
   subst e1;cases v<;>rfl
  ·exact nomatch e
theorem DV(prog:Program)(w:World)(i:Int)(t:Tok):(gE prog w).is (.inl i) (.int i t)=true:=Hg i t
theorem wF(prog:Program)(w:World)(x:Str)(t:Tok):(gE prog w).is (.inr x) (.str x t)=true:=Hh x t
inductive V where
 | W3|bl (b:Bool)|int (i:Int)|str (x:Str)|byt (b:Array UInt8)|flt (b:UInt64)|ref (a:Addr)|ty (n:String)
 deriving DecidableEq
noncomputable def cA:V->Value->Prop
 | .W3,u=>u=Value.none
 | .bl b,u=>u=Value.bool b
 | .int i,u=>∃ t,u=Value.int i t
 | .str x,u=>∃ t,u=Value.str x t
 | .byt b,u=>∃ t,u=Value.bytes b t
 | .flt b,u=>∃ t,u=Value.float b t
 | .ref a,u=>u=Value.ref a
 | .ty n,u=>u=Value.type n
noncomputable abbrev Vals:List V->List Value->Prop:=Paired cA
theorem Vals.length{xs:List V}{us:List Value}(r:Vals xs us):xs.length=us.length:=Paired.length r
theorem Vals.get:∀ {xs:List V} {us:List Value} {i:Nat} {x:V},Vals xs us->xs[i]?=some x->∃ u,us[i]?=some u/\cA x u
 | _,_,_,_,.nil,e=>by simp at e
 | _,_,0,_,.cons r _,e=>by simp at e;subst e;exact⟨_,rfl,r⟩
 | _,_,i+1,x,.cons _ t,e=>by
  obtain⟨u,h1,h2⟩:=Vals.get (i:=i) (x:=x) t (by simpa using e);exact⟨u,by simpa using h1,h2⟩
theorem Vals.set{x:V}{u:Value}(r:cA x u):∀ {xs:List V} {us:List Value} (i:Nat),Vals xs us->Vals (xs.set i x) (us.set i u)
 | _,_,_,.nil=>.nil
 | _,_,0,.cons _ t=>.cons r t
 | _,_,i+1,.cons q t=>.cons q (Vals.set r i t)
theorem Vals.append{xs ys:List V}{us ws:List Value}(h:Vals xs us)(s:Vals ys ws):Vals (xs++ys) (us++ws):=by
 induction h with
 | nil=>exact s
 | cons r _ ih=>exact .cons r ih
theorem Vals.take:∀ {xs:List V} {us:List Value} (n:Nat),Vals xs us->Vals (xs.take n) (us.take n)
 | _,_,0,_=>.nil
 | _,_,_+1,.nil=>.nil
 | _,_,n+1,.cons r t=>.cons r (Vals.take n t)
theorem Vals.drop:∀ {xs:List V} {us:List Value} (n:Nat),Vals xs us->Vals (xs.drop n) (us.drop n)
 | _,_,0,r=>r
 | _,_,_+1,.nil=>.nil
 | _,_,n+1,.cons _ t=>Vals.drop n t
theorem Vals.none_of:∀ {xs:List V} {us:List Value} {i:Nat},Vals xs us->xs[i]?=none->us[i]?=none:=fun {xs us i} r e=>by
 have h1:=r.length;have h2:xs.length<=i:=List.getElem?_eq_none_iff.mp e;exact List.getElem?_eq_none_iff.mpr (by omega)
noncomputable def p9:Option V->Option Value->Prop
 | some v,some u=>cA v u
 | none,none=>True
 | _,_=>False
noncomputable def KV{κ:Type}:List (κ×V)->List (κ×Value)->Prop:=Paired fun(p:κ×V) (q:κ×Value)=>p.1=q.1/\cA p.2 q.2
noncomputable def kV:Key->V
 | .inl i=>.int i
 | .inr x=>.str x
 | .no=>.W3
inductive HO where
 /-- a list -/
 | lst (xs:List V)
 /-- a tuple (never changes) -/
 | tup (xs:List V)
 /-- a dict whose keys are ints and texts;one whose keys are tuples of ints and texts (the empty one is both) -/
 | dK (W0:List (Key×V))|dT (W0:List (List Key×V))
 /-- a set of ints: W2 members,W2 size -/
 | set (S:Int->Bool) (n:Nat)
 /-- an instance of the class at C,W2 dict at dx,W2 attributes -/
 | ins (C dx:Addr) (fs:List (Str×V))
 /-- the dict of the instance at x -/
 | own (x:Addr)
 /-- the dict of an exception -/
 | xd (fs:List (Str×V))
 /-- a bound method,f of x -/
 | met (f x:Addr)
 /-- a range object lo,lo+1,.. below hi -/
 | rng (lo hi:Int)
 /-- a thing that is known to the object (the script;a dict while a loop walks it): read,never written while it is so -/
 | XB (o:Obj) (u:HO)
 /-- a code object's table -/
 | Z9 (ps:Array Value)
 /-- any other thing,by what is true of W2 one object (a def of acJ own: SetO a S n:=HO.ext fun h=>..) -/
 | ext (φ:Heap->Prop)
noncomputable abbrev Hp:=Addr->Option HO
noncomputable def WZ(H:Hp)(a:Addr)(o:HO):Hp:=fun b=>if b=a then some o else H b
theorem aE{H:Hp}{a:Addr}{o:HO}:WZ H a o a=some o:=by unfold WZ;rw[if_pos rfl]
theorem aV{H:Hp}{a b:Addr}{o:HO}(h:b≠a):WZ H a o b=H b:=by unfold WZ;rw[if_neg h]
theorem BB{H:Hp}{a b:Addr}{o u:HO}(h:H a=some o)(h':H b=some u)(d:o≠u):a≠b:=by
 intro e;subst e;rw[h] at h';exact d (Option.some.inj h')
theorem aL{H:Hp}{a b:Addr}{o:HO}(h:H a=some o)(h':H b=none):a≠b:=by
 intro e;subst e;rw[h] at h';cases h'
section
variable (P:Program) (w:World)
noncomputable def fT(H:Hp)(h:Heap)(a:Addr):HO->Prop
  | .lst xs=>xs.length<=sizeLine/\∃(W2:List Value) (n:Nat),Vals xs W2/\h.get? a=some {cls:=.type "list",data:=.seq W2.toArray n}
  | .tup xs=>xs.length<=sizeLine/\∃ W2:List Value,Vals xs W2/\IsTup h a W2.toArray
  | .dK W0=>W0.length<=sizeLine/\(a==sysModules)=false/\∃ vs,KV W0 vs/\h.DictOf (gE P w) a vs
  | .dT W0=>W0.length<=sizeLine/\(a==sysModules)=false/\∃ xs:List (List Key×Addr×Value),
      Paired (fun(p:List Key×V) (q:List Key×Addr×Value)=>p.1=q.1/\H q.2.1=some (.tup (p.1.map kV))/\cA p.2 q.2.2) W0 xs /\
      ∃ o es ep,h.get? a=some o/\o.ExactDict/\o.data=.dict es ep/\es.toList=xs.map (entryOfKey (tupleKind (gE P w)))/\(xs.map (·.1)).Nodup
  | .set S n=>h.SetOf (intKind P w) a S n
  | .ins C dx fs=>H dx=some (.own a)/\fs.length<=1000/\dx≠a/\h.get? a=some (PySem.W.instObj C dx) /\
      ∃ mA,h.Ns1 dx mA/\(∀ f,p9 (fs.lookup f) (mA f))/\PySem.Within mA (fs.map (·.1))
  | .own _=>∃ o,h.get? a=some o
  | .xd fs=>∃ mA,h.Ns1 a mA/\∀ f,p9 (fs.lookup f) (mA f)
  | .rng lo hi=>∃ t u v,h.get? a=some {cls:=.type "range",data:=.fields #[.int lo t,.int hi u,.int 1 v]}
  | .XB o u=>h.get? a=some o/\fT H h a u
  | .Z9 ps=>h.get? a=some {cls:=.none,data:=.fields ps}
  | .met f x=>h.get? a=some (PySem.W.methodObj (.ref f) (.ref x))
  | .ext φ=>φ h/\(∃ o,h.get? a=some o)/\∀ h1 h2:Heap,φ h1->(∀ o,h1.get? a=some o->h2.get? a=some o)->φ h2
noncomputable def HOk(H:Hp)(h:Heap):Prop:=∀ a o,H a=some o->fT P w H h a o
end
section
variable {P:Program} {w:World} {H H':Hp} {h h':Heap} {a:Addr} {o:HO}
theorem fT.lt(x:fT P w H h a o):a < h.objs.size:=by
 cases o with
 | lst xs=>obtain⟨_,_,_,_,e⟩:=x;exact Heap.lt_size e
 | tup xs=>obtain⟨_,_,_,p⟩:=x;exact p.lt
 | dK W0=>obtain⟨_,_,_,_,o,_,_,e,_⟩:=x;exact Heap.lt_size e
 | dT W0=>obtain⟨_,_,_,_,o,_,_,e,_⟩:=x;exact Heap.lt_size e
 | set S n=>obtain⟨o,_,_,_,e,_⟩:=x;exact Heap.lt_size e
 | ins C dx fs=>obtain⟨_,_,_,e,_⟩:=x;exact Heap.lt_size e
 | own y=>obtain⟨_,e⟩:=x;exact Heap.lt_size e
 | xd fs=>obtain⟨_,⟨_,_,_,e,_⟩,_⟩:=x;exact Heap.lt_size e
 | rng lo hi=>obtain⟨_,_,_,e⟩:=x;exact Heap.lt_size e
 | XB ob u=>obtain⟨e,_⟩:=x;exact Heap.lt_size e
 | Z9 ps=>exact Heap.lt_size (show h.get? a=some _ from x)
 | met f y=>exact Heap.lt_size (show h.get? a=some _ from x)
 | ext φ=>obtain⟨_,⟨_,e⟩,_⟩:=x;exact Heap.lt_size e
theorem Paired.QL{α β:Type}{F G:α->β->Prop}:∀ {l₁:List α} {l₂:List β},Paired F l₁ l₂->(∀ a b,F a b->G a b)->Paired G l₁ l₂
 | _,_,.nil,_=>.nil
 | _,_,.cons r t,f=>.cons (f _ _ r) (Paired.QL t f)
theorem fT.C5(x:fT P w H h a o)(k:∀ b u,(b=a\/H b=some (.own a))->h.get? b=some u->h'.get? b=some u)
    (ho:∀ b,H b=some (.own a)->H' b=some (.own a)) (ht:∀ b xs,H b=some (.tup xs)->H' b=some (.tup xs)):fT P w H' h' a o:=by
  induction o with
  | lst xs=>obtain⟨z,W2,n,r,e⟩:=x;exact⟨z,W2,n,r,k _ _ (.inl rfl) e⟩
  | tup xs=>obtain⟨z,W2,r,ob,e,c⟩:=x;exact⟨z,W2,r,ob,k _ _ (.inl rfl) e,c⟩
  | dK W0=>obtain⟨z,y,vs,r,ob,es,ep,e,c⟩:=x;exact⟨z,y,vs,r,ob,es,ep,k _ _ (.inl rfl) e,c⟩
  | dT W0 =>
    obtain⟨z,y,xs,r,ob,es,ep,e,c⟩:=x;exact⟨z,y,xs,Paired.QL r fun p q z=>⟨z.1,ht _ _ z.2.1,z.2.2⟩,ob,es,ep,k _ _ (.inl rfl) e,c⟩
  | set S n=>obtain⟨ob,es,ep,t,e,c⟩:=x;exact⟨ob,es,ep,t,k _ _ (.inl rfl) e,c⟩
  | ins C dx fs =>
    obtain⟨d,z,ne,e,mA,⟨od,es,ep,e2,c⟩,r⟩:=x;exact⟨ho _ d,z,ne,k _ _ (.inl rfl) e,mA,⟨od,es,ep,k _ _ (.inr d) e2,c⟩,r⟩
  | own y=>obtain⟨ob,e⟩:=x;exact⟨ob,k _ _ (.inl rfl) e⟩
  | xd fs=>obtain⟨mA,⟨od,es,ep,e,c⟩,r⟩:=x;exact⟨mA,⟨od,es,ep,k _ _ (.inl rfl) e,c⟩,r⟩
  | rng lo hi=>obtain⟨t,u,v,e⟩:=x;exact⟨t,u,v,k _ _ (.inl rfl) e⟩
  | XB ob u ih=>obtain⟨e,q⟩:=x;exact⟨k _ _ (.inl rfl) e,ih q⟩
  | Z9 ps =>
    have e:h.get? a=some {cls:=.none,data:=.fields ps}:=x;show h'.get? a=some {cls:=.none,data:=.fields ps};exact k a _ (.inl rfl) e
  | met f y =>
    have e:h.get? a=some (PySem.W.methodObj (.ref f) (.ref y)):=x;show h'.get? a=some (PySem.W.methodObj (.ref f) (.ref y));exact k a _ (.inl rfl) e
  | ext φ=>obtain⟨p,⟨o,e⟩,st⟩:=x;exact⟨st _ _ p fun o q=>k _ _ (.inl rfl) q,⟨o,k _ _ (.inl rfl) e⟩,st⟩
theorem HOk.lt(x:HOk P w H h)(e:H a=some o):a < h.objs.size:=(x a o e).lt
theorem HOk.fresh(x:HOk P w H h)(e:h.objs.size<=a):H a=none:=by
 cases q:H a with
 | none=>rfl
 | some u=>exact absurd (Nat.lt_of_lt_of_le (x.lt q) e) (Nat.lt_irrefl _)
theorem HOk.kept(x:HOk P w H h)(k:∀ b u,h.get? b=some u->h'.get? b=some u):HOk P w H h':=fun a o e =>
 (x a o e).C5 (fun b u _ q=>k b u q) (fun _ q=>q) fun _ _ q=>q
theorem HOk.laid(x:HOk P w H h)(k:∀ b u,h.get? b=some u->h'.get? b=some u)(hp:h.objs.size<=a)(new:fT P w (WZ H a o) h' a o):HOk P w (WZ H a o) h':=fun b u e=>by
 have hn:=x.fresh hp;by_cases hb:b=a
 ·subst hb;rw[aE] at e;cases e;exact new
 ·rw[aV hb] at e;exact(x b u e).C5 (fun c v _ q=>k c v q) (fun c q=>by rw[aV (aL q hn)];exact q) fun c xs q=>by rw[aV (aL q hn)];exact q
end
noncomputable def Rd(H:Hp)(a:Addr)(u:HO):Prop:=H a=some u\/∃ o,H a=some (.XB o u)
theorem Rd.of{H:Hp}{a:Addr}{u:HO}(h:H a=some u):Rd H a u:=.inl h
theorem Rd.ok{P:Program}{w:World}{H:Hp}{h:Heap}{a:Addr}{u:HO}(r:Rd H a u)(x:HOk P w H h):fT P w H h a u:=by
 rcases r with r|⟨o,r⟩
 ·exact x a u r
 ·obtain⟨_,q⟩:=x a _ r;exact q
noncomputable def Mut:Option HO->Prop
 | some (.lst _)=>True
 | some (.dK _)=>True
 | some (.dT _)=>True
 | some (.set _ _)=>True
 | some (.ins _ _ _)=>True
 | some (.ext _)=>True
 | _=>False
section
variable {P:Program} {w:World} {H:Hp} {h h':Heap} {x e:Addr} {o':HO}
theorem HOk.write(ok:HOk P w H h)(mu:Mut (H x))(he:e=x\/H e=some (.own x))(k:∀ b u,b≠e->h.get? b=some u->h'.get? b=some u)(heo:∃ u,h'.get? e=some u)
    (new:fT P w (WZ H x o') h' x o'):HOk P w (WZ H x o') h':=fun b u q=>by
  have abE:∀ c y,H c=some (.own y)->c≠x:=fun c y r z=>by subst z;rw[r] at mu;exact mu
  have acI:∀ c xs,H c=some (.tup xs)->c≠x:=fun c xs r z=>by subst z;rw[r] at mu;exact mu
  by_cases hb:b=x
  · subst hb;rw[aE] at q;cases q;exact new
  · rw[aV hb] at q;by_cases hbe:b=e
    · have q':H b=some (.own x):=by
        rcases he with z|z
        · exact absurd (hbe.trans z) hb
        · rw[hbe];exact z
      rw[q] at q';cases q';obtain⟨v,hv⟩:=heo;exact⟨v,by rw[hbe];exact hv⟩
    · refine(ok b u q).C5 (fun c v hc r=>k c v ?_ r) (fun c r=>by rw[aV (abE c b r)];exact r) fun c xs r=>by rw[aV (acI c xs r)];exact r
      rcases hc with rfl|hc
      · exact hbe
      · rintro rfl;rcases he with z|z
        · exact abE c b hc z
        · rw[hc] at z;cases z;exact hb rfl
end
structure Un(fs ex:List Addr)(H H':Hp)(h h':Heap):Prop where
 keep:∀ b o,h.get? b=some o->H b=none->b∉fs->b∉ex->h'.get? b=some o
 slot:∀ b o,h.get? b=some o->H b=none->b∈fs->b∉ex->∃ sl,h'.get? b=some {o with slots:=sl}
 free:∀ b o,h.get? b=some o->H b=none->b∉ex->H' b=none
 there:∀ b o,h.get? b=some o->b∉ex->∃ o',h'.get? b=some o'
 pB:∀ b xs,H b=some (.tup xs)->H' b=some (.tup xs)
 nH:∀ b o u,H b=some (.XB o u)->H' b=some (.XB o u)
 pA:∀ b ps,H b=some (.Z9 ps)->∃ more,H' b=some (.Z9 (ps++more))
section
variable {fs XY ex ex':List Addr} {H H1 H2:Hp} {h h1 h2 h':Heap} {a x e:Addr} {o:HO}
theorem Un.any(u:Un fs ex H H1 h h1){b:Addr}{ob:Obj}(q:h.get? b=some ob)(n:H b=none)(hx:b∉ex):∃ sl,h1.get? b=some {ob with slots:=sl}:=by
 by_cases hb:b∈fs
 ·exact u.slot b ob q n hb hx
 ·exact⟨ob.slots,u.keep b ob q n hb hx⟩
theorem Un.trans(a:Un fs ex H H1 h h1)(b:Un fs ex H1 H2 h1 h2):Un fs ex H H2 h h2 where
 keep:=fun c ob q n hc hx=>b.keep c ob (a.keep c ob q n hc hx) (a.free c ob q n hx) hc hx
 slot:=fun c ob q n hc hx=>by
  obtain⟨sl,e1⟩:=a.slot c ob q n hc hx;obtain⟨sl',e2⟩:=b.slot c _ e1 (a.free c ob q n hx) hc hx;exact⟨sl',e2⟩
 free:=fun c ob q n hx=>by
  obtain⟨o',e1⟩:=a.there c ob q hx;exact b.free c o' e1 (a.free c ob q n hx) hx
 there:=fun c ob q hx=>by
  obtain⟨o',e1⟩:=a.there c ob q hx;exact b.there c o' e1 hx
 pB:=fun c xs q=>b.pB c xs (a.pB c xs q)
 nH:=fun c ob xs q=>b.nH c ob xs (a.nH c ob xs q)
 pA:=fun c ps q=>by
  obtain⟨m1,e1⟩:=a.pA c ps q;obtain⟨m2,e2⟩:=b.pA c _ e1;exact⟨m1++m2,by rw[e2,Array.append_assoc]⟩
theorem Un.kept(k:∀ b u,h.get? b=some u->h'.get? b=some u):Un fs ex H H h h' :=
 ⟨fun b ob q _ _ _=>k b ob q,fun b ob q _ _ _=>⟨ob.slots,k b ob q⟩,fun _ _ _ n _=>n,fun b ob q _=>⟨ob,k b ob q⟩,fun _ _ q=>q,fun _ _ _ q=>q,fun _ ps q=>⟨#[],by rw[q];simp⟩⟩
theorem Un.refl:Un fs ex H H h h:=Un.kept fun _ _ q=>q
theorem Un.laid(k:∀ b u,h.get? b=some u->h'.get? b=some u)(hp:h.objs.size<=a)(hn:H a=none):Un fs ex H (WZ H a o) h h' where
 keep:=fun b u q _ _ _=>k b u q
 slot:=fun b u q _ _ _=>⟨u.slots,k b u q⟩
 free:=fun b u q n _=>by rw[aV (Nat.ne_of_lt (Nat.lt_of_lt_of_le (Heap.lt_size q) hp))];exact n
 there:=fun b u q _=>⟨u,k b u q⟩
 pB:=fun b xs q=>by rw[aV (aL q hn)];exact q
 nH:=fun b u xs q=>by rw[aV (aL q hn)];exact q
 pA:=fun b ps q=>⟨#[],by rw[aV (aL q hn),q];simp⟩
theorem Un.write(mu:Mut (H x))(he:e=x\/H e=some (.own x))(k:∀ b u,b≠e->h.get? b=some u->h'.get? b=some u)(heo:∃ u,h'.get? e=some u):Un fs ex H (WZ H x o) h h':=by
 have hx:∀ b,H b=none->b≠x:=fun b n z=>by subst z;rw[n] at mu;exact mu
 have hb:∀ b,H b=none->b≠e:=fun b n z=>by
  subst z;rcases he with r|r
  ·exact hx b n r
  ·rw[n] at r;cases r
 have hm:∀ b u,H b=some u->¬ Mut (some u)->b≠x:=fun b u q nm z=>by subst z;rw[q] at mu;exact nm mu
 refine⟨fun b u q n _ _=>k b u (hb b n) q,fun b u q n _ _=>⟨u.slots,k b u (hb b n) q⟩,fun b u q n _=>by rw[aV (hx b n)];exact n,fun b u q _=>?_,
  fun b xs q=>by rw[aV (hm b _ q fun z=>z)];exact q,fun b u xs q=>by rw[aV (hm b _ q fun z=>z)];exact q,fun b ps q=>⟨#[],by rw[aV (hm b _ q fun z=>z),q];simp⟩⟩
 by_cases hbe:b=e
 ·subst hbe;exact heo
 ·exact⟨u,k b u hbe q⟩
theorem Un.mono(u:Un fs ex H H1 h h1)(hs:∀ b∈fs,b∈XY)(hx:∀ b∈ex,b∈ex'):Un XY ex' H H1 h h1 :=
 ⟨fun b ob q n hb he=>u.keep b ob q n (fun z=>hb (hs b z)) fun z=>he (hx b z),fun _ _ q n _ he=>u.any q n fun z=>he (hx _ z),fun b ob q n he=>u.free b ob q n fun z=>he (hx b z),fun b ob q he=>u.there b ob q fun z=>he (hx b z),u.pB,u.nH,u.pA⟩
end
noncomputable def trk(h:Heap)(H:Hp):List Addr:=(List.range h.objs.size).filter fun a=>(H a).isSome
noncomputable def Cj(h:Heap)(H:Hp):Heap:=PySem.W.hideAll h (trk h H)
theorem Hd(h:Heap)(H:Hp):(Cj h H).objs.size=h.objs.size:=PySem.W.hideAll_size _ _
theorem Jl{h:Heap}{H:Hp}{b:Addr}{o:Obj}(e:h.get? b=some o)(n:H b=none):(Cj h H).get? b=some o :=
 PySem.W.hideAll_get _ e fun hm=>by
  have q:(H b).isSome=true:=(List.mem_filter.mp hm).2;rw[n] at q;simp at q
theorem Mu{h:Heap}{H:Hp}{b:Addr}{o:Obj}(e:(Cj h H).get? b=some o):h.get? b=some o/\H b=none:=by
 have e':h.get? b=some o:=PySem.W.of_hideAll (trk h H) e;refine⟨e',?_⟩;cases q:H b with
 | none=>rfl
 | some x =>
  have hm:b∈trk h H:=List.mem_filter.mpr ⟨List.mem_range.mpr (Heap.lt_size e'),by simp[q]⟩;have z:(Cj h H).get? b=none:=PySem.W.hideAll_none (trk h H) hm;rw[z] at e;cases e
noncomputable def Lc(g h:Heap)(L:Addr):List (Addr×Obj):=(List.range h.objs.size).filterMap fun a=>if a=L\/(g.get? a).isSome=true then none else (h.get? a).map fun o=>(a,o)
noncomputable def rest(g h:Heap)(L d:Addr):List (Addr×Obj):=(Lc g h L).filter fun p=>decide (p.1≠d)
structure Mod(K:q0B)(mg:q0C)(base:Heap):Prop where
 kin:K.In base
 glob:base.Ns mainGlobals mg
 blt:∃ mb,base.Ns builtinsNs mb/\∀ x:Str,x≠"__name__"->mb x=bootBuiltins x
 nolimit:base.NoLimit
structure Cx where
 prog:Program
 w:World
 K:q0B
 mg:Str->Option Value
 base:Heap
 A:Around
 N:List Str
 s₀:Shared
 H₀:Hp
 env:Env
 outer:List Env
 stack:List Env
 ex:List Addr
 fn:Str->Bool
 calm:Bool
 pn:List (Addr×Obj)
 xe:Value->Shared->Prop
noncomputable def frs(l:List Env):List Addr:=l.filterMap (·.frame)
noncomputable abbrev Cx.fs(X:Cx):List Addr:=frs X.outer
noncomputable def Vis(sc:Scope)(x:Str):Prop:=sc.names.lookup x=some .local\/sc.names.lookup x=some .cell\/sc.names.lookup x=some .free
noncomputable def Loc(sc:Scope)(x:Str):Prop:=sc.names.lookup x=some .local\/sc.names.lookup x=some .cell
noncomputable def Look(env:Env)(h:Heap)(m:q0C)(x:Str)(u:Value):Prop :=
 (env.kindOf x=some .local/\m x=some u)\/((env.kindOf x=some .cell\/env.kindOf x=some .free)/\∃ c,env.cells.lookup x=some c/\h.IsCell c (some u))
structure Cx.Ok(X:Cx):Prop where
 mod:Mod X.K X.mg X.base
 kind:X.env.scope.kind=.function
 glob:X.env.globals=mainGlobals
 blt:X.env.builtins=builtinsNs
 above:X.s₀.heap.objs.size<=X.env.locals
 inj:∀ x y c,X.env.cells.lookup x=some c->X.env.cells.lookup y=some c->x=y
 has:∀ x,(X.env.kindOf x=some .cell\/X.env.kindOf x=some .free)->∃ c,X.env.cells.lookup x=some c
 cab:∀ x c,X.fn x=true->X.env.cells.lookup x=some c->X.s₀.heap.objs.size<=c
 hd:X.calm=true->X.A.handled=none
 frames:X.A.frames=some X.stack
 ZQ:X.stack=X.outer\/(X.stack=X.env::X.outer/\X.env.frame=some X.env.locals)
 exf:∀ b∈X.ex,b≠X.env.locals/\∀ x c,X.env.cells.lookup x=some c->c≠b
 bs:∀ b o,X.base.get? b=some o->X.s₀.heap.get? b=some o/\X.H₀ b=none
 bsz:X.base.objs.size<=X.s₀.heap.objs.size
 E6:∀ b o,X.base.get? b=some o->b∉X.ex
 G8:∀ b∈X.ex,b∉X.fs
 qD:X.s₀.heap.FunFrames X.base X.outer
 frf:∀ b∈X.fs,X.H₀ b=none
structure W1(X:Cx)(WY:List (Addr×Obj))(σ:List (Option V))(H:Hp)(s:Shared):Prop where
 ok:X.Ok
 os:s.os=X.s₀.os
 bare:AllBare s.gens
 base:Un X.fs X.ex X.H₀ H X.s₀.heap s.heap
 loc:∃ m,s.heap.Ns X.env.locals m/\∀(i:Nat) (x:Str) (v:V),X.N[i]?=some x->σ[i]?=some (some v)->Vis X.env.scope x->∃ u,cA v u/\Look X.env s.heap m x u
 cell:∀ x c,X.env.cells.lookup x=some c->∃ v,s.heap.IsCell c v
 free:H X.env.locals=none
 kI:∀ x c,X.env.cells.lookup x=some c->H c=none
 pin:∀ p∈X.pn++WY,s.heap.get? p.1=some p.2/\H p.1=none/\p.1≠X.env.locals/\p.1∉X.fs/\∀ v,p.2.data≠.cell v
 W5:HOk X.prog X.w H s.heap
 len:σ.length=X.N.length
section
variable {X:Cx} {WY:List (Addr×Obj)} {σ:List (Option V)} {H H':Hp} {s:Shared} {h':Heap}
theorem Cx.Ok.Wq(ok:X.Ok){b:Addr}{o:Obj}(e:X.base.get? b=some o):b∉X.fs:=fun hb=>by
 have:=(ok.qD.mem hb).1;rw[e] at this;cases this
theorem W1.bs(I:W1 X WY σ H s):∀ b o,X.base.get? b=some o->s.heap.get? b=some o/\H b=none:=fun b o e =>
 ⟨I.base.keep b o (I.ok.bs b o e).1 (I.ok.bs b o e).2 (I.ok.Wq e) (I.ok.E6 b o e),I.base.free b o (I.ok.bs b o e).1 (I.ok.bs b o e).2 (I.ok.E6 b o e)⟩
theorem W1.bk(I:W1 X WY σ H s):∀ b o,X.base.get? b=some o->s.heap.get? b=some o:=fun b o e=>(I.bs b o e).1
theorem W1.mod(I:W1 X WY σ H s):Mod X.K X.mg X.base:=I.ok.mod
theorem W1.kIn(I:W1 X WY σ H s):X.K.In s.heap:=I.ok.mod.kin.keeps I.bk
theorem W1.nolimit(I:W1 X WY σ H s):s.heap.NoLimit:=I.ok.mod.nolimit.keeps I.bk
theorem W1.fr(I:W1 X WY σ H s):∃ m,Fr X.base X.env.locals s.heap m :=
 let ⟨m,hn,_⟩:=I.loc
 ⟨m,hn,I.bk,Nat.le_trans I.ok.bsz I.ok.above⟩
theorem W1.lt(I:W1 X WY σ H s):X.env.locals < s.heap.objs.size:=let ⟨_,hn,_⟩:=I.loc;hn.lt
theorem W1.sz(I:W1 X WY σ H s):X.s₀.heap.objs.size<=s.heap.objs.size:=Nat.le_trans I.ok.above (Nat.le_of_lt I.lt)
theorem W1.Up(I:W1 X WY σ H s){a:Addr}(h:s.heap.objs.size<=a):a∉X.fs:=fun hb=>by
 obtain⟨_,o,ho,_⟩:=I.ok.qD.mem hb;exact absurd (Nat.lt_of_lt_of_le (Heap.lt_size ho) (Nat.le_trans I.sz h)) (Nat.lt_irrefl _)
theorem W1.ZC(I:W1 X WY σ H s):∀ x c,X.env.cells.lookup x=some c->c≠X.env.locals:=fun x c e z=>by
 obtain⟨v,o,ho,hd⟩:=I.cell x c e;obtain⟨m,⟨o',es,ep,Xr,hd',_⟩,_⟩:=I.loc;rw[z,Xr] at ho;cases ho;rw[hd'] at hd;cases hd
theorem W1.qD(I:W1 X WY σ H s):s.heap.FunFrames X.base X.outer:=by
 have all:∀(l:List Env),(∀ b∈frs l,b∈X.fs)->X.s₀.heap.FunFrames X.base l->s.heap.FunFrames X.base l:=by
  intro l
  induction l with
  | nil=>intro _ _;trivial
  | cons env r ih =>
   intro hs hl;obtain⟨hk,⟨L,o,hf,hn,ho,hd⟩,hr⟩:=hl;have hL:L∈X.fs:=hs L (by unfold frs;rw[List.filterMap_cons,hf];exact List.mem_cons_self);obtain⟨sl,e⟩:=I.base.slot L o ho (I.ok.frf L hL) hL fun z=>I.ok.G8 L z hL;exact⟨hk,⟨L,_,hf,hn,e,hd⟩,ih (fun b hb=>hs b (by unfold frs;rw[List.filterMap_cons,hf];exact List.mem_cons_of_mem _ hb)) hr⟩
 exact all X.outer (fun _ hb=>hb) I.ok.qD
theorem W1.stack(I:W1 X WY σ H s):s.heap.FunFrames X.base X.stack:=by
 rcases I.ok.ZQ with e|⟨e,hf⟩
 ·rw[e];exact I.qD
 ·rw[e];obtain⟨m,hn,_⟩:=I.loc;refine .cons (by rw[I.ok.kind];decide) hf hn ?_ I.qD;exact Heap.get?_none_of_le (Nat.le_trans I.ok.bsz I.ok.above)
theorem W1.Az(I:W1 X WY σ H s):∀ b∈frs X.stack,b∈X.env.locals::X.fs:=fun b hb=>by
 rcases I.ok.ZQ with e|⟨e,hf⟩
 ·rw[e] at hb;exact List.mem_cons_of_mem _ hb
 ·rw[e] at hb;unfold frs at hb;rw[List.filterMap_cons,hf] at hb;exact hb
theorem W1.C6(I:W1 X WY σ H s):∀ b∈frs X.stack,H b=none:=fun b hb=>by
 rcases List.mem_cons.mp (I.Az b hb) with e|hb
 ·rw[e];exact I.free
 ·obtain⟨_,o,ho,_⟩:=I.ok.qD.mem hb;exact I.base.free b o ho (I.ok.frf b hb) fun z=>I.ok.G8 b z hb
theorem W1.step{g':Array GenState}{t':Nat}{d':Drawn}{ch:List Addr}(I:W1 X WY σ H s)
    (Zt:∀ b∈ch,(b∈X.ex\/X.s₀.heap.objs.size<=b)/\b≠X.env.locals/\(∀ x c,X.env.cells.lookup x=some c->c≠b)/\∀ p∈X.pn++WY,p.1≠b)
    (keep:∀ b o,b≠X.env.locals->b∉X.fs->b∉ch->s.heap.get? b=some o->H b=none->h'.get? b=some o)
    (slot:∀ b o,b≠X.env.locals->b∈X.fs->b∉ch->s.heap.get? b=some o->H b=none->∃ sl,h'.get? b=some {o with slots:=sl}) (free:∀ b o,b∉ch->s.heap.get? b=some o->H b=none->H' b=none)
    (there:∀ b o,b∉ch->s.heap.get? b=some o->∃ o',h'.get? b=some o')
    (pB:∀ b xs,H b=some (.tup xs)->H' b=some (.tup xs)) (nH:∀ b o u,H b=some (.XB o u)->H' b=some (.XB o u)) (pA:∀ b ps,H b=some (.Z9 ps)->∃ more,H' b=some (.Z9 (ps++more)))
    (ns:∀ m,s.heap.Ns X.env.locals m->h'.Ns X.env.locals m) (W5:HOk X.prog X.w H' h') (hg:AllBare g') :
    W1 X WY σ H' {s with heap:=h',gens:=g',drawn:=d',toks:=t'}:=by
  have neL:∀ b o,X.s₀.heap.get? b=some o->b≠X.env.locals:=fun b o e=>Nat.ne_of_lt (Nat.lt_of_lt_of_le (Heap.lt_size e) I.ok.above);have Z7:∀ b o,X.s₀.heap.get? b=some o->b∉X.ex->b∉ch:=fun b o e hx hb=>by
    rcases(Zt b hb).1 with z|z
    · exact hx z
    · exact absurd (Nat.lt_of_lt_of_le (Heap.lt_size e) z) (Nat.lt_irrefl _)
  have cellK:∀ x c,X.env.cells.lookup x=some c->∀ v,s.heap.IsCell c v->h'.IsCell c v:=fun x c e v ⟨o,ho,hd⟩=>by
    have nch:c∉ch:=fun z=>(Zt c z).2.2.1 x c e rfl;by_cases hc:c∈X.fs
    · obtain⟨sl,q⟩:=slot c o (I.ZC x c e) hc nch ho (I.kI x c e);exact⟨_,q,hd⟩
    · exact⟨o,keep c o (I.ZC x c e) hc nch ho (I.kI x c e),hd⟩
  refine⟨I.ok,I.os,hg,⟨fun b o e n hb hx=>?_,fun b o e n hb hx=>?_,fun b o e n hx=>?_,fun b o e hx=>?_,fun b xs e=>pB b xs (I.base.pB b xs e),fun b o xs e=>nH b o xs (I.base.nH b o xs e),fun b ps e=>?_⟩,?_,fun x c e=>?_,?_,fun x c e=>?_,fun p hp=>?_,W5,I.len⟩
  · exact keep b o (neL b o e) hb (Z7 b o e hx) (I.base.keep b o e n hb hx) (I.base.free b o e n hx)
  · obtain⟨sl,e1⟩:=I.base.slot b o e n hb hx;obtain⟨sl',e2⟩:=slot b _ (neL b o e) hb (Z7 b o e hx) e1 (I.base.free b o e n hx);exact⟨sl',e2⟩
  · obtain⟨o',e1⟩:=I.base.there b o e hx;exact free b o' (Z7 b o e hx) e1 (I.base.free b o e n hx)
  · obtain⟨o',e1⟩:=I.base.there b o e hx;exact there b o' (Z7 b o e hx) e1
  · obtain⟨m1,e1⟩:=I.base.pA b ps e;obtain⟨m2,e2⟩:=pA b _ e1;exact⟨m1++m2,by rw[e2,Array.append_assoc]⟩
  · obtain⟨m,hn,hl⟩:=I.loc;refine⟨m,ns m hn,fun i x v e1 e2 e3=>?_⟩;obtain⟨u,r,l⟩:=hl i x v e1 e2 e3;refine⟨u,r,?_⟩;rcases l with l|⟨k,c,e,z⟩
    · exact .inl l
    · exact .inr ⟨k,c,e,cellK x c e _ z⟩
  · obtain⟨v,z⟩:=I.cell x c e;exact⟨v,cellK x c e v z⟩
  · obtain⟨m,⟨o,_,_,ho,_⟩,_⟩:=I.loc;exact free _ o (fun z=>(Zt _ z).2.1 rfl) ho I.free
  · obtain⟨v,o,ho,hd⟩:=I.cell x c e;exact free c o (fun z=>(Zt c z).2.2.1 x c e rfl) ho (I.kI x c e)
  · obtain⟨e,n,ne,nf,d⟩:=I.pin p hp;have nch:p.1∉ch:=fun z=>(Zt p.1 z).2.2.2 p hp rfl;exact⟨keep p.1 p.2 ne nf nch e n,free p.1 p.2 nch e n,ne,nf,d⟩
theorem W1.un{t':Nat}(I:W1 X WY σ H s)(u:Un X.fs [] H H' s.heap h')(W5:HOk X.prog X.w H' h'):W1 X WY σ H' {s with heap:=h',toks:=t'}:=by
 obtain⟨m,⟨o,es,ep,ho,r⟩,_⟩:=id I.loc;obtain⟨sl,hL⟩:=u.any ho I.free (by simp);exact I.step (g':=s.gens) (d':=s.drawn) (ch:=[]) (fun _ z=>nomatch z) (fun b o _ hb _ e n=>u.keep b o e n hb (by simp)) (fun b o _ hb _ e n=>u.slot b o e n hb (by simp)) (fun b o _ e n=>u.free b o e n (by simp)) (fun b o _ e=>u.there b o e (by simp)) u.pB u.nH u.pA (fun m' hm=>by
  obtain⟨o',es',ep',Xr,r'⟩:=hm;rw[ho] at Xr;cases Xr;exact⟨_,es',ep',hL,r'⟩) W5 I.bare
theorem W1.call{g':Array GenState}{t':Nat}{d':Drawn}{ch:List Addr}(I:W1 X WY σ H s)(u:Un (frs X.stack) ch H H' s.heap h')(W5:HOk X.prog X.w H' h')(hg:AllBare g')
    (Zt:∀ b∈ch,(b∈X.ex\/X.s₀.heap.objs.size<=b)/\b≠X.env.locals/\(∀ x c,X.env.cells.lookup x=some c->c≠b)/\∀ p∈X.pn++WY,p.1≠b) :
    W1 X WY σ H' {s with heap:=h',gens:=g',drawn:=d',toks:=t'}:=by
  obtain⟨m,⟨o,es,ep,ho,r⟩,_⟩:=id I.loc;obtain⟨sl,hL⟩:=u.any ho I.free fun z=>(Zt _ z).2.1 rfl;exact I.step (ch:=ch) Zt (fun b o hL hb hc e n=>u.keep b o e n (fun z=>(List.mem_cons.mp (I.Az b z)).elim hL hb) hc) (fun b o _ _ hc e n=>u.any e n hc) (fun b o hc e n=>u.free b o e n hc) (fun b o hc e=>u.there b o e hc) u.pB u.nH u.pA (fun m' hm=>by
    obtain⟨o',es',ep',Xr,r'⟩:=hm;rw[ho] at Xr;cases Xr;exact⟨_,es',ep',hL,r'⟩) W5 hg
theorem W1.turned{t':Nat}{it:Addr}(I:W1 X WY σ H s)(k:∀ b o,b≠it->s.heap.get? b=some o->h'.get? b=some o)(hn:H it=none)(hL:it≠X.env.locals)
    (h1:it∈X.ex\/X.s₀.heap.objs.size<=it) (h2:∀ x c,X.env.cells.lookup x=some c->c≠it) (h3:∀ p∈X.pn++WY,p.1≠it):W1 X WY σ H {s with heap:=h',toks:=t'}:=by
  have nit:∀ b u,H b=some u->b≠it:=fun b u e z=>by rw[z,hn] at e;cases e
  refine I.step (g':=s.gens) (d':=s.drawn) (ch:=[it]) (fun b hb=>?_) (fun b o _ _ hc e _=>k b o (fun z=>hc (by simp[z])) e) (fun b o _ _ hc e _=>⟨o.slots,k b o (fun z=>hc (by simp[z])) e⟩) (fun _ _ _ _ n=>n)
    (fun b o hc e=>⟨o,k b o (fun z=>hc (by simp[z])) e⟩) (fun _ _ e=>e) (fun _ _ _ e=>e) (fun b ps e=>⟨#[],by rw[e];simp⟩) (fun m hm=>?_) (fun b u e=>?_) I.bare
  · have e:b=it:=by simpa using hb
    subst e;exact⟨h1,hL,h2,h3⟩
  · obtain⟨o,es,ep,ho,r⟩:=hm;exact⟨o,es,ep,k _ o (Ne.symm hL) ho,r⟩
  · refine(I.W5 b u e).C5 (fun c v hc q=>k c v ?_ q) (fun _ q=>q) fun _ _ q=>q;rcases hc with z|z
    · rw[z];exact nit b u e
    · exact nit c _ z
theorem W1.tok(I:W1 X WY σ H s)(t:Nat):W1 X WY σ H {s with toks:=t}:=I.un (h':=s.heap) (t':=t) Un.refl I.W5
theorem W1.kept{t':Nat}(I:W1 X WY σ H s)(k:∀ b u,s.heap.get? b=some u->h'.get? b=some u):W1 X WY σ H {s with heap:=h',toks:=t'}:=I.un (Un.kept k) (I.W5.kept k)
theorem W1.laid{a:Addr}{o:HO}{t':Nat}(I:W1 X WY σ H s)(k:∀ b u,s.heap.get? b=some u->h'.get? b=some u)(hp:s.heap.objs.size<=a)(new:fT X.prog X.w (WZ H a o) h' a o) :
    W1 X WY σ (WZ H a o) {s with heap:=h',toks:=t'}:=I.un (Un.laid k hp (I.W5.fresh hp)) (I.W5.laid k hp new)
theorem W1.write{x e:Addr}{o:HO}{t':Nat}(I:W1 X WY σ H s)(mu:Mut (H x))(he:e=x\/H e=some (.own x))(k:∀ b u,b≠e->s.heap.get? b=some u->h'.get? b=some u)(heo:∃ u,h'.get? e=some u)
    (new:fT X.prog X.w (WZ H x o) h' x o):W1 X WY σ (WZ H x o) {s with heap:=h',toks:=t'}:=I.un (Un.write mu he k heo) (I.W5.write mu he k heo new)
theorem W1.tJ{Z8:List (Addr×Obj)}(I:W1 X WY σ H s)(h:∀ p∈Z8,s.heap.get? p.1=some p.2/\H p.1=none/\p.1≠X.env.locals/\p.1∉X.fs/\∀ v,p.2.data≠.cell v):W1 X Z8 σ H s :=
 ⟨I.ok,I.os,I.bare,I.base,I.loc,I.cell,I.free,I.kI,fun p hp=>(List.mem_append.mp hp).elim (fun z=>I.pin p (List.mem_append_left _ z)) (h p),I.W5,I.len⟩
theorem zV{N:List Str}(hN:N.Nodup){i j:Nat}{x:Str}(a:N[i]?=some x)(b:N[j]?=some x):i=j:=by
 obtain⟨h1,e1⟩:=List.getElem?_eq_some_iff.mp a;obtain⟨h2,e2⟩:=List.getElem?_eq_some_iff.mp b;exact(List.getElem_inj hN).mp (e1.trans e2.symm)
theorem BN{M:Model}{A:Around}{E:q0A}{i:Nat}{x:Str}{v:V}{u:Value}{Q:Unit->Shared->Prop}(I:W1 X WY σ H s)(hN:X.N.Nodup)(hi:X.N[i]?=some x)(hx:Loc X.env.scope x)(r:cA v u)
    (h:∀ s',W1 X WY (σ.set i (some v)) H s'->(∃ a,Heap.SameBut a s.heap s'.heap/\(a=X.env.locals\/X.env.cells.lookup x=some a))->Q () s') (hf:X.fn x=true\/X.env.scope.names.lookup x=some .local:=by first|exact .inl rfl|exact .inr rfl|assumption):wpAny M A (storeName X.env x u) Q E s:=by
  obtain⟨m,hn,hl⟩:=id I.loc;have aaC:(X.env.scope.kind==.class||(X.env.scope.kind==.module&&X.env.locals !=X.env.globals))=false:=by rw[I.ok.kind];rfl
  have hiσ:i < σ.length:=by rw[I.len];exact(List.getElem?_eq_some_iff.mp hi).1
  have ZC:=I.ZC;have tracked:∀ {a:Addr} {h':Heap},(∃ o,s.heap.get? a=some o/\H a=none)->Heap.SameBut a s.heap h'->HOk X.prog X.w H h':=fun {a h'} ha hs b ob e=>by
    obtain⟨_,_,Z2⟩:=ha;refine(I.W5 b ob e).C5 (fun c w' hc q=>(hs.2 c ?_).trans q) (fun _ q=>q) fun _ _ q=>q;rintro rfl;rcases hc with rfl|hc
    · rw[Z2] at e;cases e
    · rw[Z2] at hc;cases hc
  rcases hx with hk|hk
  · refine wpAny_storeName_local hk hn (fun h' hn' hs=>?_) aaC;obtain⟨oL,_,_,hoL,_⟩:=id hn;refine h _ ⟨I.ok,I.os,I.bare,⟨fun b o e n hb hx=>?_,fun b o e n hb hx=>?_,I.base.free,fun b o e hx=>?_,I.base.pB,I.base.nH,I.base.pA⟩,⟨_,hn',fun j y v' e1 e2 e3=>?_⟩,fun y c e=>?_,I.free,I.kI,fun p hp=>?_,tracked ⟨oL,hoL,I.free⟩ hs,by simpa using I.len⟩ ⟨_,hs,.inl rfl⟩
    · exact(hs.2 b (Nat.ne_of_lt (Nat.lt_of_lt_of_le (Heap.lt_size e) I.ok.above))).trans (I.base.keep b o e n hb hx)
    · obtain⟨sl,e1⟩:=I.base.slot b o e n hb hx;exact⟨sl,(hs.2 b (Nat.ne_of_lt (Nat.lt_of_lt_of_le (Heap.lt_size e) I.ok.above))).trans e1⟩
    · obtain⟨o',e1⟩:=I.base.there b o e hx;exact⟨o',(hs.2 b (Nat.ne_of_lt (Nat.lt_of_lt_of_le (Heap.lt_size e) I.ok.above))).trans e1⟩
    · by_cases hj:j=i
      · subst hj;rw[hi] at e1;cases e1;rw[List.getElem?_set_self hiσ] at e2;cases e2;exact⟨u,r,.inl ⟨hk,by simp⟩⟩
      · rw[List.getElem?_set_ne (Ne.symm hj)] at e2;obtain⟨u',r',q⟩:=hl j y v' e1 e2 e3;refine⟨u',r',?_⟩;rcases q with⟨k,e⟩|⟨k,c,e,z⟩
        · refine .inl ⟨k,?_⟩;have:y≠x:=fun e=>hj (zV hN e1 (e▸hi));simp[this,e]
        · exact .inr ⟨k,c,e,z.sameBut hs (ZC y c e)⟩
    · obtain⟨w',z⟩:=I.cell y c e;exact⟨w',z.sameBut hs (ZC y c e)⟩
    · obtain⟨e,n,ne,nf,d⟩:=I.pin p hp;exact⟨(hs.2 p.1 ne).trans e,n,ne,nf,d⟩
  · have hfn:X.fn x=true:=by
      rcases hf with z|z
      · exact z
      · rw[z] at hk;cases hk
    obtain⟨c,hc⟩:=I.ok.has x (.inl hk);obtain⟨w',z⟩:=I.cell x c hc;refine wpAny_storeName_cell I.ok.kind hk hc z (fun h' hc' hs=>?_);obtain⟨oc,Zu,ab9⟩:=id z;refine h {s with heap:=h'} ⟨I.ok,I.os,I.bare,⟨fun b o e n hb hx=>?_,fun b o e n hb hx=>?_,I.base.free,fun b o e hx=>?_,I.base.pB,I.base.nH,I.base.pA⟩,⟨m,hn.sameBut hs (Ne.symm (ZC x c hc)),fun j y v' e1 e2 e3=>?_⟩,fun y c' e=>?_,I.free,I.kI,fun p hp=>?_,tracked ⟨oc,Zu,I.kI x c hc⟩ hs,by simpa using I.len⟩ ⟨c,hs,.inr hc⟩
    · exact(hs.2 b (Nat.ne_of_lt (Nat.lt_of_lt_of_le (Heap.lt_size e) (I.ok.cab x c hfn hc)))).trans (I.base.keep b o e n hb hx)
    · obtain⟨sl,e1⟩:=I.base.slot b o e n hb hx;exact⟨sl,(hs.2 b (Nat.ne_of_lt (Nat.lt_of_lt_of_le (Heap.lt_size e) (I.ok.cab x c hfn hc)))).trans e1⟩
    · obtain⟨o',e1⟩:=I.base.there b o e hx;exact⟨o',(hs.2 b (Nat.ne_of_lt (Nat.lt_of_lt_of_le (Heap.lt_size e) (I.ok.cab x c hfn hc)))).trans e1⟩
    · by_cases hj:j=i
      · subst hj;rw[hi] at e1;cases e1;rw[List.getElem?_set_self hiσ] at e2;cases e2;exact⟨u,r,.inr ⟨.inl hk,c,hc,hc'⟩⟩
      · rw[List.getElem?_set_ne (Ne.symm hj)] at e2;obtain⟨u',r',q⟩:=hl j y v' e1 e2 e3;refine⟨u',r',?_⟩;rcases q with q|⟨k,c',e,z'⟩
        · exact .inl q
        · refine .inr ⟨k,c',e,z'.sameBut hs ?_⟩;rintro rfl;exact hj (zV hN e1 (I.ok.inj _ _ _ e hc▸hi))
    · by_cases hcc:c'=c
      · subst hcc;exact⟨_,hc'⟩
      · obtain⟨w2,z2⟩:=I.cell y c' e;exact⟨w2,z2.sameBut hs hcc⟩
    · obtain⟨e,n,ne,nf,d⟩:=I.pin p hp;refine⟨(hs.2 p.1 ?_).trans e,n,ne,nf,d⟩;intro q;rw[q,Zu] at e;have q':oc=p.2:=Option.some.inj e;exact d w' (by rw[<- q'];exact ab9)
theorem tT{M:Model}{A:Around}{E:q0A}{i:Nat}{x:Str}{v:V}{u:Value}{Q:Unit->Shared->Prop}(I:W1 X WY σ H s)(hN:X.N.Nodup)(hi:X.N[i]?=some x)(hx:Loc X.env.scope x)(r:cA v u)
    (h:∀ s',W1 X WY (σ.set i (some v)) H s'->Q () s') (hf:X.fn x=true\/X.env.scope.names.lookup x=some .local:=by first|exact .inl rfl|exact .inr rfl|assumption):wpAny M A (storeName X.env x u) Q E s :=
  BN I hN hi hx r (fun s' I' _=>h s' I') hf
theorem W1.FH{s':Shared}{ch:List Addr}(I:W1 X WY σ H s)(ho:s'.os=s.os)(u:Un (frs X.stack) ch H H' s.heap s'.heap)(W5:HOk X.prog X.w H' s'.heap)(hg:AllBare s'.gens)
    (Zt:∀ b∈ch,(b∈X.ex\/X.s₀.heap.objs.size<=b)/\b≠X.env.locals/\(∀ x c,X.env.cells.lookup x=some c->c≠b)/\∀ p∈X.pn++WY,p.1≠b):W1 X WY σ H' s':=by
  obtain⟨h',g',d',t',o'⟩:=s';have e:o'=s.os:=ho;subst e;exact I.call (g':=g') (t':=t') (d':=d') u W5 hg Zt
end
noncomputable abbrev XK:=Value->Option Addr->Hp->Prop
noncomputable abbrev St:=List (Option V)
noncomputable abbrev VK:=V->Hp->Prop
noncomputable abbrev TE:=St->Hp->VK->Prop
noncomputable abbrev TT:=St->Hp->(Bool->Hp->Prop)->Prop
noncomputable abbrev TA:=St->Hp->(List V->Hp->Prop)->Prop
structure Ends where
 nx:St->Hp->Prop
 rt:VK
 bk:St->Hp->Prop:=fun _ _=>False
 ct:St->Hp->Prop:=fun _ _=>False
noncomputable abbrev TS:=Ends->St->Hp->Prop
inductive EP(X:Cx)(WY:List (Addr×Obj))(σ:St)(Q:VK)(u:Value)(s':Shared):Prop
 | mk (v:V) (H':Hp) (I:W1 X WY σ H' s') (r:cA v u) (q:Q v H'):EP X WY σ Q u s'
noncomputable def TP(X:Cx)(WY:List (Addr×Obj))(σ:St)(Q:Bool->Hp->Prop)(b:Bool)(s':Shared):Prop:=∃ H',W1 X WY σ H' s'/\Q b H'
inductive AP(X:Cx)(WY:List (Addr×Obj))(σ:St)(Q:List V->Hp->Prop)(us:List Value)(s':Shared):Prop
 | mk (vs:List V) (H':Hp) (I:W1 X WY σ H' s') (r:Vals vs us) (q:Q vs H'):AP X WY σ Q us s'
noncomputable def SP(X:Cx)(WY:List (Addr×Obj))(D:Ends)(f:Flow)(s':Shared):Prop :=
 match f with
 | .next=>∃ σ' H',W1 X WY σ' H' s'/\D.nx σ' H'
 | .brk=>∃ σ' H',W1 X WY σ' H' s'/\D.bk σ' H'
 | .cont=>∃ σ' H',W1 X WY σ' H' s'/\D.ct σ' H'
 | .ret u=>∃ v σ' H',W1 X WY σ' H' s'/\cA v u/\D.rt v H'
noncomputable def PE(X:Cx)(e:Expr)(t:TE):Prop :=
 ∀(WY:List (Addr×Obj)) (s:Shared) (σ:St) (H:Hp) (Q:VK),W1 X WY σ H s->t σ H Q->wpAny (model X.prog X.w) X.A (eval e X.env) (EP X WY σ Q) X.xe s
noncomputable def PT(X:Cx)(e:Expr)(t:TT):Prop :=
 ∀(WY:List (Addr×Obj)) (s:Shared) (σ:St) (H:Hp) (Q:Bool->Hp->Prop),W1 X WY σ H s->t σ H Q->wpAny (model X.prog X.w) X.A (isTrue e X.env (eval e X.env)) (TP X WY σ Q) X.xe s
noncomputable def PW(X:Cx)(e:Expr)(t:TT):Prop :=
 ∀(whole:Sem Value) (WY:List (Addr×Obj)) (s:Shared) (σ:St) (H:Hp) (Q:Bool->Hp->Prop),W1 X WY σ H s->t σ H Q->wpAny (model X.prog X.w) X.A (isTrue e X.env whole) (TP X WY σ Q) X.xe s
theorem PW.pt{X:Cx}{e:Expr}{t:TT}(h:PW X e t):PT X e t:=h _
noncomputable def PA(X:Cx)(es:List Expr)(t:TA):Prop :=
 ∀(pos:Pos) (WY:List (Addr×Obj)) (s:Shared) (σ:St) (H:Hp) (Q:List V->Hp->Prop),W1 X WY σ H s->t σ H Q->wpAny (model X.prog X.w) X.A (spliced (backTo pos (starEach es X.env))) (AP X WY σ Q) X.xe s
noncomputable def PS(X:Cx)(st:Stmt)(t:TS):Prop :=
 ∀(WY:List (Addr×Obj)) (s:Shared) (σ:St) (H:Hp) (D:Ends),W1 X WY σ H s->t D σ H->wpAny (model X.prog X.w) X.A (exec st X.env) (SP X WY D) X.xe s
noncomputable def Yb(X:Cx)(st:List Stmt)(t:TS):Prop :=
 ∀(WY:List (Addr×Obj)) (s:Shared) (σ:St) (H:Hp) (D:Ends),W1 X WY σ H s->t D σ H->wpAny (model X.prog X.w) X.A (execs st X.env) (SP X WY D) X.xe s
theorem thn{α:Type}{t:Sem α}{Q Q':α->Shared->Prop}{M:Model}{A:Around}{E:q0A}{s:Shared}(h:wpAny M A t Q E s)(hQ:∀ a s,Q a s->Q' a s):wpAny M A t Q' E s:=wpAny_mono h hQ fun _ _ x=>x
section
variable {X:Cx}
noncomputable def eY(i:Nat):TE:=fun σ H Q=>∃ v,σ[i]?=some (some v)/\Q v H
noncomputable def tC(v:V):TE:=fun _ H Q=>Q v H
theorem QW{i:Nat}{x:Str}{pos:Pos}(hN:X.N[i]?=some x)(hv:Vis X.env.scope x)(hd:(x==("__debug__":Str))=false:=by decide)(YJ:(x==("__classdict__":Str))=false:=by decide):PE X (.Name x pos) (eY i):=by
 intro WY s σ H Q I h;obtain⟨v,e,h⟩:=h;obtain⟨m,hn,hl⟩:=I.loc;obtain⟨u,r,l⟩:=hl i x v hN e hv;have fin:EP X WY σ Q u s:=⟨v,H,I,r,h⟩;rcases l with⟨hk,hm⟩|⟨hk,c,hc,Z0⟩
 ·exact wpAny_Name (wpAny_loadName_local I.ok.kind hk hn hm fin) hd
 ·rcases hk with hk|hk
  ·exact wpAny_Name (wpAny_loadName_cell I.ok.kind hk hc Z0 fin) hd
  ·exact wpAny_Name (wpAny_loadName_free I.ok.kind hk hc Z0 fin YJ) hd
theorem aG{i j pos}:PE X (.Constant (.int i) j pos) (tC (.int i)):=fun _ _ _ H _ I h=>wpAny_Constant_int ⟨.int i,H,I.tok _,⟨_,rfl⟩,h⟩
theorem j9{b j pos}:PE X (.Constant (.bool b) j pos) (tC (.bl b)):=fun _ _ _ H _ I h=>Constant_bool ⟨.bl b,H,I,rfl,h⟩
theorem dM{j pos}:PE X (.Constant .none j pos) (tC .W3):=fun _ _ _ H _ I h=>Constant_none ⟨.W3,H,I,rfl,h⟩
theorem aF{x j pos}:PE X (.Constant (.str x) j pos) (tC (.str x)):=fun _ _ _ H _ I h=>Calls.Constant_str ⟨.str x,H,I.tok _,⟨_,rfl⟩,h⟩
noncomputable def Gl(X:Cx)(x:Str):Prop:=X.env.kindOf x=some .globalImplicit
theorem mI{E:q0A}{WY:List (Addr×Obj)}{s:Shared}{σ:St}{H:Hp}{x:Str}{u:Value}{pos:Pos}{Q:q0A}(I:W1 X WY σ H s)(hg:Gl X x)(hm:X.mg x=some u)(h:Q u s)
    (hd:(x==("__debug__":Str))=false:=by decide):wpAny (model X.prog X.w) X.A (eval (.Name x pos) X.env) Q E s :=
  Calls.Name_function_global I.ok.kind hg (Calls.loadGlobal_global (by rw[I.ok.glob];exact I.mod.glob.keeps I.bk) hm h) hd
theorem Cv{E:q0A}{WY:List (Addr×Obj)}{s:Shared}{σ:St}{H:Hp}{x:Str}{u:Value}{pos:Pos}{Q:q0A}(I:W1 X WY σ H s)(hg:Gl X x)(hm:X.mg x=none)(hv:bootBuiltins x=some u)(h:Q u s)
    (hn:x≠"__name__":=by decide) (hd:(x==("__debug__":Str))=false:=by decide):wpAny (model X.prog X.w) X.A (eval (.Name x pos) X.env) Q E s:=by
  obtain⟨mb,h1,h2⟩:=I.mod.blt;exact Calls.Name_function_global I.ok.kind hg (Calls.loadGlobal_builtin (by rw[I.ok.glob];exact I.mod.glob.keeps I.bk) hm (by rw[I.ok.blt];exact h1.keeps I.bk) ((h2 x hn).trans hv) h) hd
theorem dR{x:Str}{v:V}{u:Value}{pos:Pos}(hg:Gl X x)(hm:X.mg x=some u)(r:cA v u)(hd:(x==("__debug__":Str))=false:=by decide):PE X (.Name x pos) (tC v) :=
 fun _ _ _ H _ I h=>mI I hg hm ⟨v,H,I,r,h⟩ hd
theorem CQ{x:Str}{v:V}{u:Value}{pos:Pos}(hg:Gl X x)(hm:X.mg x=none)(hv:bootBuiltins x=some u)(r:cA v u)(hn:x≠"__name__":=by decide)(hd:(x==("__debug__":Str))=false:=by decide):PE X (.Name x pos) (tC v) :=
 fun _ _ _ H _ I h=>Cv I hg hm hv ⟨v,H,I,r,h⟩ hn hd
variable {a b:Expr} {ta tb:TE} {pos:Pos}
noncomputable def tB(t:TE):TT:=fun σ H Q=>t σ H fun x H1=>∃ c,x=.bl c/\Q c H1
theorem fI{e:Expr}{t:TE}(h:PE X e t)(he:∀ whole,isTrue e X.env whole=(do let v <- whole;standAt e.pos;holding [v] (truthy v)):=by intro _;rfl):PT X e (tB t):=by
 intro WY s σ H Q I hw;refine isTrue_plain (thn (h WY s σ H _ I hw) fun v s1 ⟨x,H1,I1,r1,q1⟩=>?_) (he _);obtain⟨d,rfl,q⟩:=q1;cases r1;exact wpAny_truthy_bool ⟨H1,I1,q⟩
variable {tA tB':TT} {rest:List Expr}
noncomputable def UX(t u:TT):TT:=fun σ H Q=>t σ H fun c H1=>if c=true then u σ H1 Q else Q false H1
noncomputable def WK(t u:TT):TT:=fun σ H Q=>t σ H fun c H1=>if c=true then Q true H1 else u σ H1 Q
noncomputable def U6(t:TT):TT:=fun σ H Q=>t σ H fun c H1=>Q (!c) H1
theorem mQ(ha:PT X a tA):PW X (.BoolOp .And [a] pos) tA:=by
 intro wh WY s σ H Q I h;refine isTrue_and (thn (ha WY s σ H Q I h) fun c s1 e=>?_);cases c with
 | true=>exact isTrue_and_nil e
 | false=>exact e
theorem fJ(ha:PT X a tA):PW X (.BoolOp .Or [a] pos) tA:=by
 intro wh WY s σ H Q I h;refine isTrue_or (thn (ha WY s σ H Q I h) fun c s1 e=>?_);cases c with
 | false=>exact isTrue_or_nil e
 | true=>exact e
theorem rM(ha:PT X a tA)(hb:PW X (.BoolOp .And (b::rest) pos) tB'):PW X (.BoolOp .And (a::b::rest) pos) (UX tA tB'):=by
 intro wh WY s σ H Q I h;refine isTrue_and (thn (ha WY s σ H _ I h) fun c s1 ⟨H1,I1,q1⟩=>?_);cases c with
 | true=>exact hb wh WY s1 σ H1 Q I1 q1
 | false=>exact⟨H1,I1,q1⟩
theorem iG(ha:PT X a tA)(hb:PW X (.BoolOp .Or (b::rest) pos) tB'):PW X (.BoolOp .Or (a::b::rest) pos) (WK tA tB'):=by
 intro wh WY s σ H Q I h;refine isTrue_or (thn (ha WY s σ H _ I h) fun c s1 ⟨H1,I1,q1⟩=>?_);cases c with
 | true=>exact⟨H1,I1,q1⟩
 | false=>exact hb wh WY s1 σ H1 Q I1 q1
theorem fW(ha:PT X a tA):PT X (.UnaryOp .Not a pos) (U6 tA):=by
 intro WY s σ H Q I h;exact isTrue_not (ha WY s σ H (fun c H1=>Q (!c) H1) I h)
noncomputable def Ko(ta tb:TE):TE:=fun σ H Q=>ta σ H fun x H1=>∃ c,x=.bl c/\if c=true then tb σ H1 Q else Q (.bl false) H1
noncomputable def U8(ta tb:TE):TE:=fun σ H Q=>ta σ H fun x H1=>∃ c,x=.bl c/\if c=true then Q (.bl true) H1 else tb σ H1 Q
noncomputable def Kt(ta:TE):TE:=fun σ H Q=>ta σ H fun x H1=>∃ c,x=.bl c/\Q (.bl (!c)) H1
theorem Al{op}{t:TE}(h:PE X a t):PE X (.BoolOp op [a] pos) t:=fun WY s σ H Q I hw=>BoolOp_one (h WY s σ H Q I hw)
theorem Aj(ha:PE X a ta)(hb:PE X (.BoolOp .And (b::rest) pos) tb):PE X (.BoolOp .And (a::b::rest) pos) (Ko ta tb):=by
 intro WY s σ H Q I h;refine BoolOp_and (thn (ha WY s σ H _ I h) fun v s1 ⟨x,H1,I1,r1,q1⟩=>?_);obtain⟨c,rfl,q1⟩:=q1;cases r1;refine wpAny_truthy_bool ?_;cases c with
 | true=>exact hb WY s1 σ H1 Q I1 q1
 | false=>exact⟨.bl false,H1,I1,rfl,q1⟩
theorem JX(ha:PE X a ta):PE X (.UnaryOp .Not a pos) (Kt ta):=by
 intro WY s σ H Q I h;refine UnaryOp_ (thn (ha WY s σ H _ I h) fun v s1 ⟨x,H1,I1,r1,q1⟩=>?_);obtain⟨c,rfl,q1⟩:=q1;cases r1;exact not_of (wpAny_truthy_bool ⟨.bl (!c),H1,I1,rfl,q1⟩)
noncomputable def WI(t:TT)(ta tb:TE):TE:=fun σ H Q=>t σ H fun c H1=>if c=true then ta σ H1 Q else tb σ H1 Q
theorem tH{c:Expr}(hc:PT X c tA)(ha:PE X a ta)(hb:PE X b tb):PE X (.IfExp c a b pos) (WI tA ta tb):=by
 intro WY s σ H Q I h;refine wpAny_IfExp (thn (hc WY s σ H _ I h) fun d s1 ⟨H1,I1,q1⟩=>?_);cases d with
 | true=>exact ha WY s1 σ H1 Q I1 q1
 | false=>exact hb WY s1 σ H1 Q I1 q1
end
noncomputable def dZ(K:q0B)(H:Hp)(a:Addr)(xs:List V):Prop :=
 Rd H a (.lst xs) \/
  ∃(o:Obj) (W2:Array Value) (n:Nat),K.lookup a=some o/\o.cls=.type "list"/\o.dict=none/\o.data=.seq W2 n/\W2.size<=sizeLine/\Vals xs W2.toList
noncomputable def hJ(K:q0B)(H:Hp)(a:Addr)(xs:List V):Prop :=
 Rd H a (.tup xs) \/
  ∃(o:Obj) (W2:Array Value) (n:Nat),K.lookup a=some o/\o.cls=.type "tuple"/\o.data=.seq W2 n/\W2.size<=sizeLine/\Vals xs W2.toList
noncomputable def VP:Value->Option V
 | .none=>some .W3
 | .bool b=>some (.bl b)
 | .int i _=>some (.int i)
 | .str x _=>some (.str x)
 | .bytes b _=>some (.byt b)
 | .float b _=>some (.flt b)
 | .ref a=>some (.ref a)
 | .type n=>some (.ty n)
 | _=>none
theorem cA.abs{x:V}{u:Value}(r:cA x u):VP u=some x:=by
 cases x with
 | W3=>cases r;rfl
 | bl _=>cases r;rfl
 | int _=>obtain⟨t,rfl⟩:=r;rfl
 | str _=>obtain⟨t,rfl⟩:=r;rfl
 | byt _=>obtain⟨t,rfl⟩:=r;rfl
 | flt _=>obtain⟨t,rfl⟩:=r;rfl
 | ref _=>cases r;rfl
 | ty _=>cases r;rfl
theorem cA.inj{x y:V}{u:Value}(r:cA x u)(q:cA y u):x=y:=Option.some.inj (r.abs.symm.trans q.abs)
theorem Vals.inj{xs ys:List V}{us:List Value}(h:Vals xs us)(g:Vals ys us):xs=ys:=by
 induction h generalizing ys with
 | nil=>cases g;rfl
 | cons r t ih =>
  cases g with
  | cons r' t'=>rw[r.inj r',ih t']
section
variable {X:Cx} {WY:List (Addr×Obj)} {σ:St} {H:Hp} {s:Shared} {a:Addr} {xs ys:List V}
theorem dZ.of{K:q0B}(h:H a=some (.lst xs)):dZ K H a xs:=.inl (.inl h)
theorem hJ.of{K:q0B}(h:H a=some (.tup xs)):hJ K H a xs:=.inl (.inl h)
theorem W1.list(I:W1 X WY σ H s)(h:dZ X.K H a xs):∃ W2:List Value,Vals xs W2/\PlainL s.heap a W2.toArray/\xs.length<=sizeLine:=by
 rcases h with h|⟨o,W2,n,hk,hc,hd,hs,hz,r⟩
 ·obtain⟨z,W2,n,r,e⟩:=h.ok I.W5;exact⟨W2,r,⟨_,n,e,rfl,rfl,rfl⟩,z⟩
 ·refine⟨W2.toList,r,⟨o,n,I.kIn a o hk,hc,hd,by simpa using hs⟩,?_⟩;have e:=r.length;simp only[Array.length_toList] at e;omega
theorem W1.tuple(I:W1 X WY σ H s)(h:hJ X.K H a xs):∃ W2:List Value,Vals xs W2/\IsTup s.heap a W2.toArray/\xs.length<=sizeLine:=by
 rcases h with h|⟨o,W2,n,hk,hc,hs,hz,r⟩
 ·obtain⟨z,W2,r,p⟩:=h.ok I.W5;exact⟨W2,r,p,z⟩
 ·refine⟨W2.toList,r,⟨o,I.kIn a o hk,hc,n,by simpa using hs⟩,?_⟩;have e:=r.length;simp only[Array.length_toList] at e;omega
theorem W1.Ju(I:W1 X WY σ H s)(h:dZ X.K H a xs)(h':dZ X.K H a ys):xs=ys:=by
 obtain⟨W2,r,⟨o,n,e,_,_,d⟩,_⟩:=I.list h;obtain⟨its',r',⟨o',n',e',_,_,d'⟩,_⟩:=I.list h';rw[e] at e';cases e';rw[d] at d';injection d' with d1 _
 have:W2=its':=by simpa using congrArg Array.toList d1
 subst this;exact r.inj r'
theorem W1.HK(I:W1 X WY σ H s)(h:hJ X.K H a xs)(h':hJ X.K H a ys):xs=ys:=by
 obtain⟨W2,r,⟨o,e,_,n,d⟩,_⟩:=I.tuple h;obtain⟨its',r',⟨o',e',_,n',d'⟩,_⟩:=I.tuple h';rw[e] at e';cases e';rw[d] at d';injection d' with d1 _
 have:W2=its':=by simpa using congrArg Array.toList d1
 subst this;exact r.inj r'
end
noncomputable abbrev Cx.rX(X:Cx)(E:q0A):Cx:={X with xe:=E}
noncomputable abbrev Cx.nox(X:Cx):Cx:=X.rX fun _ _=>False
theorem Cx.Ok.rX{X:Cx}(ok:X.Ok)(E:q0A):(X.rX E).Ok :=
 ⟨ok.mod,ok.kind,ok.glob,ok.blt,ok.above,ok.inj,ok.has,ok.cab,ok.hd,ok.frames,ok.ZQ,ok.exf,ok.bs,ok.bsz,ok.E6,ok.G8,ok.qD,ok.frf⟩
theorem Cx.Ok.jH{X:Cx}{E:q0A}(ok:(X.rX E).Ok):X.Ok :=
 ⟨ok.mod,ok.kind,ok.glob,ok.blt,ok.above,ok.inj,ok.has,ok.cab,ok.hd,ok.frames,ok.ZQ,ok.exf,ok.bs,ok.bsz,ok.E6,ok.G8,ok.qD,ok.frf⟩
section
variable {X:Cx} {WY:List (Addr×Obj)} {σ:St} {H:Hp} {s:Shared} {E:q0A}
theorem W1.rX(I:W1 X WY σ H s)(E:q0A):W1 (X.rX E) WY σ H s:=⟨I.ok.rX E,I.os,I.bare,I.base,I.loc,I.cell,I.free,I.kI,I.pin,I.W5,I.len⟩
theorem W1.jH(I:W1 (X.rX E) WY σ H s):W1 X WY σ H s:=⟨I.ok.jH,I.os,I.bare,I.base,I.loc,I.cell,I.free,I.kI,I.pin,I.W5,I.len⟩
theorem SP.jH{D:Ends}{f:Flow}{s':Shared}(h:SP (X.rX E) WY D f s'):SP X WY D f s':=by
 cases f with
 | next=>obtain⟨σ',H',I,q⟩:=h;exact⟨σ',H',I.jH,q⟩
 | brk=>obtain⟨σ',H',I,q⟩:=h;exact⟨σ',H',I.jH,q⟩
 | cont=>obtain⟨σ',H',I,q⟩:=h;exact⟨σ',H',I.jH,q⟩
 | ret u=>obtain⟨v,σ',H',I,r,q⟩:=h;exact⟨v,σ',H',I.jH,r,q⟩
theorem PE.nox{e:Expr}{t:TE}(h:PE X.nox e t):PE X e t:=fun WY s σ H Q I hw =>
 wpAny_mono (h WY s σ H Q (I.rX _) hw) (fun _ _ ⟨v,H',I',r,q⟩=>⟨v,H',I'.jH,r,q⟩) fun _ _ z=>False.elim z
theorem PT.nox{e:Expr}{t:TT}(h:PT X.nox e t):PT X e t:=fun WY s σ H Q I hw =>
 wpAny_mono (h WY s σ H Q (I.rX _) hw) (fun _ _ ⟨H',I',q⟩=>⟨H',I'.jH,q⟩) fun _ _ z=>False.elim z
theorem Yb.nox{st:List Stmt}{t:TS}(h:Yb X.nox st t):Yb X st t:=fun WY s σ H D I hw =>
 wpAny_mono (h WY s σ H D (I.rX _) hw) (fun _ _ q=>q.jH) fun _ _ z=>False.elim z
end
section
variable {X:Cx} {st:Stmt} {rest:List Stmt} {t u:TS} {e:Expr} {te:TE} {pos:Pos}
noncomputable def NT:TS:=fun D σ H=>D.nx σ H
noncomputable def Rr(t u:TS):TS:=fun D σ H=>t {D with nx:=u D} σ H
theorem aR:Yb X [] NT:=fun _ _ σ H _ I h=>wpAny_execs_nil ⟨σ,H,I,h⟩
theorem aD(h1:PS X st t)(h2:Yb X rest u):Yb X (st::rest) (Rr t u):=by
 intro WY s σ H D I h;refine wpAny_execs_cons (thn (h1 WY s σ H {D with nx:=u D} I h) fun f s1 q=>?_);cases f with
 | next =>
  obtain⟨σ',H',I',q⟩:=q;exact h2 WY s1 σ' H' D I' q
 | ret v=>exact q
 | brk=>exact q
 | cont=>exact q
theorem aH(h1:PS X st t):Yb X [st] t:=by
 intro WY s σ H D I h;refine wpAny_execs_cons (thn (h1 WY s σ H D I h) fun f s1 q=>?_);cases f with
 | next=>exact wpAny_execs_nil q
 | ret v=>exact q
 | brk=>exact q
 | cont=>exact q
noncomputable def Ro:TS:=fun D σ H=>D.bk σ H
noncomputable def UZ:TS:=fun D σ H=>D.ct σ H
theorem W1.quiet{WY:List (Addr×Obj)}{σ:St}{H:Hp}{s:Shared}(I:W1 X WY σ H s):interactive X.env=false:=by simp[interactive,I.ok.kind]
noncomputable def NS(te:TE):TS:=fun D σ H=>te σ H fun _ H1=>D.nx σ H1
theorem eA(he:PE X e te)(hs:swapsWith e none pos.line X.env=pure false:=by rfl):PS X (.Expr e pos) (NS te):=by
 intro WY s σ H D I h;exact wpAny_Expr_any (thn (he WY s σ H _ I h) fun v s1 ⟨x,H1,I1,r1,q1⟩=>⟨σ,H1,I1,q1⟩) I.quiet hs
noncomputable def U9(te:TE):TS:=fun D σ H=>te σ H D.rt
theorem aN(he:PE X e te):PS X (.Return (some e) pos) (U9 te):=by
 intro WY s σ H D I h;exact wpAny_Return_some (thn (he WY s σ H _ I h) fun v s1 ⟨x,H1,I1,r1,q1⟩=>⟨x,σ,H1,I1,r1,q1⟩)
noncomputable def Va:TS:=fun D _ H=>D.rt .W3 H
noncomputable def U4(c:TT)(t u:TS):TS:=fun D σ H=>c σ H fun b H1=>if b=true then t D σ H1 else u D σ H1
theorem aW{c:Expr}{a b:List Stmt}{tc:TT}(hc:PT X c tc)(ha:Yb X a t)(hb:Yb X b u):PS X (.If c a b pos) (U4 tc t u):=by
 intro WY s σ H D I h;refine wpAny_If (thn (hc WY s σ H _ I h) fun d s1 ⟨H1,I1,q1⟩=>?_);cases d with
 | true=>exact ha WY s1 σ H1 D I1 q1
 | false=>exact hb WY s1 σ H1 D I1 q1
noncomputable def Rq:TS:=fun _ _ _=>False
end
noncomputable abbrev TG:=V->St->Hp->(St->Hp->Prop)->Prop
noncomputable abbrev TGs:=List V->St->Hp->(St->Hp->Prop)->Prop
noncomputable def PG(X:Cx)(target:Expr)(t:TG):Prop :=
 ∀(WY:List (Addr×Obj)) (s:Shared) (σ:St) (H:Hp) (v:V) (u:Value) (Q:St->Hp->Prop),W1 X WY σ H s->cA v u->t v σ H Q ->
  wpAny (model X.prog X.w) X.A (assign target X.env u) (fun _ s'=>∃ σ' H',W1 X WY σ' H' s'/\Q σ' H') X.xe s
noncomputable def PGs(X:Cx)(ts:List Expr)(t:TGs):Prop :=
 ∀(WY:List (Addr×Obj)) (s:Shared) (σ:St) (H:Hp) (vs:List V) (us:List Value) (Q:St->Hp->Prop),W1 X WY σ H s->Vals vs us->t vs σ H Q ->
  wpAny (model X.prog X.w) X.A (assignInOrder ((assignEach ts X.env).map (·.2)) us) (fun _ s'=>∃ σ' H',W1 X WY σ' H' s'/\Q σ' H') X.xe s
noncomputable abbrev TSet:=V->V->V->Hp->(Hp->Prop)->Prop
noncomputable def PSet(X:Cx)(t:TSet):Prop :=
 ∀(WY:List (Addr×Obj)) (s:Shared) (σ:St) (H:Hp) (o i v:V) (ov iv u:Value) (Q:Hp->Prop),W1 X WY σ H s->cA o ov->cA i iv->cA v u->t o i v H Q ->
  wpAny (model X.prog X.w) X.A (setItem ov iv u) (fun _ s'=>∃ H',W1 X WY σ H' s'/\Q H') X.xe s
noncomputable abbrev TIp:=V->V->Hp->VK->Prop
section
variable {X:Cx} {pos:Pos}
noncomputable def wB(i:Nat):TG:=fun v σ H Q=>Q (σ.set i (some v)) H
theorem jQ{i:Nat}{x:Str}(hN:X.N.Nodup)(hi:X.N[i]?=some x)(hx:Loc X.env.scope x)(hf:X.fn x=true\/X.env.scope.names.lookup x=some .local:=by first|exact .inl rfl|exact .inr rfl|assumption):PG X (.Name x pos) (wB i):=by
 intro WY s σ H v u Q I r h;exact wpAny_assign_Name (tT I hN hi hx r (fun s' I'=>⟨_,H,I',h⟩) hf)
noncomputable def Qs:TGs:=fun vs σ H Q=>vs=[]/\Q σ H
noncomputable def Nx(t:TG)(u:TGs):TGs:=fun vs σ H Q=>∃ v r,vs=v::r/\t v σ H fun σ' H'=>u r σ' H' Q
theorem Gi:PGs X [] Qs:=by
 intro WY s σ H vs us Q I r h;obtain⟨e,h⟩:=h;subst e;cases r;exact assignInOrder_nil ⟨σ,H,I,h⟩
theorem tI{e:Expr}{es:List Expr}{t:TG}{u:TGs}(h1:PG X e t)(h2:PGs X es u)
    (hs:(assignEach (e::es) X.env).map (·.2)=assign e X.env::(assignEach es X.env).map (·.2):=by rfl):PGs X (e::es) (Nx t u):=by
  intro WY s σ H vs us Q I r h;obtain⟨v,vr,e1,h⟩:=h;subst e1;cases r with
  | cons r rr =>
    rw[hs];refine assignInOrder_cons (thn (h1 WY s σ H _ _ _ I r h) fun _ s1 ⟨σ1,H1,I1,q1⟩=>?_);exact h2 WY s1 σ1 H1 _ _ Q I1 rr q1
noncomputable def Qt(K:q0B)(n:Nat)(t:TGs):TG:=fun v σ H Q=>∃ a xs,v=.ref a/\hJ K H a xs/\xs.length=n/\t xs σ H Q
theorem JY{es:List Expr}{k:Nat}{t:TGs}{n:Nat}(hc:X.calm=true)(h:PGs X es t)
    (hn:(assignEach es X.env).length=n:=by rfl) (X6:(assignEach es X.env).findIdx? (·.1)=none:=by rfl):PG X (.Tuple es k pos) (Qt X.K n t):=by
  intro WY s σ H v u Q I r hw;obtain⟨a,xs,e1,hq,hl,hw⟩:=hw;subst e1;cases r;obtain⟨W2,rv,ht,hz⟩:=I.tuple hq;refine assign_Tuple_tuple (I.ok.hd hc) ht (by simp[hn,<- hl,rv.length]) X6 fun h' hx=>?_;have I1:W1 X WY σ H {s with heap:=h'}:=I.kept (t':=s.toks) fun b o e=>hx b o (Nat.ne_of_lt (Heap.lt_size e)) e;exact h WY _ σ H xs _ Q I1 (by simpa using rv) hw
noncomputable def TV(to ti:TE)(t:TSet):TG:=fun v σ H Q=>to σ H fun o H1=>ti σ H1 fun i H2=>t o i v H2 fun H3=>Q σ H3
theorem fU{o i:Expr}{to ti:TE}{t:TSet}(ho:PE X o to)(hi:PE X i ti)(hs:PSet X t)
    (ha:∀ v,assign (.Subscript o i pos) X.env v=(do
      let ov <- holding [v] (eval o X.env);let iv <- holding [v,ov] (eval i X.env)
      standAt pos
      holding [v,ov,iv] (setItem ov iv v)
      release [v,ov,iv] []):=by intro _;rfl):PG X (.Subscript o i pos) (TV to ti t):=by
  intro WY s σ H v u Q I r h;rw[ha];refine wpAny_bind (wpAny_holding (thn (ho WY s σ H _ I h) fun ov s1 ⟨x,H1,I1,r1,q1⟩=>?_));refine wpAny_bind (wpAny_holding (thn (hi WY s1 σ H1 _ I1 q1) fun iv s2 ⟨y,H2,I2,r2,q2⟩=>?_));refine wpAny_bind (wpAny_standAt (wpAny_bind (wpAny_holding (thn (hs WY s2 σ H2 x y v ov iv u _ I2 r1 r2 r q2) fun _ s3 ⟨H3,I3,q3⟩=>?_))));exact wpAny_release ⟨σ,H3,I3,q3⟩
noncomputable def M7(te:TE)(g:TG):TS:=fun D σ H=>te σ H fun x H1=>g x σ H1 D.nx
theorem fV{tg e:Expr}{te:TE}{g:TG}(he:PE X e te)(hg:PG X tg g)(hs:swapsWithSole [tg] e pos.line X.env=pure false:=by rfl)(hw:swappedStores [tg] e X.env=pure none:=by rfl)
    (h1:(assignEach [tg] X.env).map (·.2)=[assign tg X.env]:=by rfl):PS X (.Assign [tg] e pos) (M7 te g):=by
  intro WY s σ H D I h;refine wpAny_Assign_stores (thn (he WY s σ H _ I h) fun v s1 ⟨x,H1,I1,r1,q1⟩=>?_) hs hw;rw[h1];exact thn (hg WY s1 σ H1 x v _ I1 r1 q1) fun _ s2 q=>q
theorem aM{i:Nat}{x:Str}{e:Expr}{te:TE}{pos':Pos}(hN:X.N.Nodup)(hi:X.N[i]?=some x)(hx:Loc X.env.scope x)(he:PE X e te)(hs:swapsWith e (some (.Name x pos')) pos.line X.env=pure false:=by rfl)(hf:X.fn x=true\/X.env.scope.names.lookup x=some .local:=by first|exact .inl rfl|exact .inr rfl|assumption) :
    PS X (.Assign [.Name x pos'] e pos) (M7 te (wB i)):=by
  intro WY s σ H D I h;refine wpAny_Assign_Name (thn (he WY s σ H _ I h) fun v s1 ⟨y,H1,I1,r1,q1⟩=>?_) hs;exact tT I1 hN hi hx r1 (fun s2 I2=>⟨_,H1,I2,q1⟩) hf
noncomputable def Wv(i:Nat)(te:TE)(ti:TIp):TS:=fun D σ H=>∃ x,σ[i]?=some (some x)/\te σ H fun y H1=>ti x y H1 fun z H2=>D.nx (σ.set i (some z)) H2
noncomputable def UY(to ti te:TE)(ZS:V->V->Hp->VK->Prop)(tip:TIp)(ZT:TSet):TS:=fun D σ H=>to σ H fun o H1=>ti σ H1 fun i H2=>ZS o i H2 fun x H3=>te σ H3 fun y H4=>tip x y H4 fun z H5=>ZT o i z H5 fun H6=>D.nx σ H6
end
section
variable {X:Cx} {pos:Pos}
noncomputable def Rt(c:TT)(tb:TS):TS:=fun D σ H=>∃ W:Nat->St->Hp->Prop,(∃ m,W m σ H)/\∀ m σ H,W m σ H ->
 c σ H fun b H1=>if b=true then ∃ N:St->Hp->Prop,(∀ σ' H',N σ' H'->∃ m',m' < m/\W m' σ' H')/\tb {D with nx:=N,ct:=N,bk:=D.nx} σ H1 else D.nx σ H1
theorem tK{c:Expr}{body:List Stmt}{tc:TT}{tb:TS}(hp:PassesOwn (model X.prog X.w) X.A X.env X.xe)(hc:PT X c tc)(hb:Yb X body tb):PS X (.While c body [] pos) (Rt tc tb):=by
 intro WY s σ H D I h;obtain⟨W,⟨m0,w0⟩,turn⟩:=h;refine wpAny_While (codeAny_whileLoop (fun n s'=>∃ σ' H',W1 X WY σ' H' s'/\W n σ' H') ?_ m0 ⟨σ,H,I,w0⟩);rintro n s1 ⟨σ1,H1,I1,w1⟩;refine wpAny_passesOwn hp (thn (hc WY s1 σ1 H1 _ I1 (turn n σ1 H1 w1)) fun b s2 ⟨H2,I2,q2⟩=>?_);cases b with
 | true =>
  obtain⟨N,hN,q2⟩:=q2;rw[if_pos rfl];refine wpAny_passesOwn hp (thn (hb WY s2 σ1 H2 _ I2 q2) fun f s3 q3=>?_);cases f with
  | next =>
   obtain⟨σ3,H3,I3,n3⟩:=q3;obtain⟨m',hm,w3⟩:=hN σ3 H3 n3;exact⟨m',hm,σ3,H3,I3,w3⟩
  | cont =>
   obtain⟨σ3,H3,I3,n3⟩:=q3;obtain⟨m',hm,w3⟩:=hN σ3 H3 n3;exact⟨m',hm,σ3,H3,I3,w3⟩
  | brk=>exact q3
  | ret v=>exact q3
 | false =>
  rw[if_neg Bool.false_ne_true];exact wpAny_execs_nil ⟨σ1,H2,I2,q2⟩
end
structure It where
 go:Nat->Hp->Prop
 yld:Nat->Hp->V->Hp->Prop
 stop:Nat->Hp->Prop
noncomputable def r9(X:Cx)(WY:List (Addr×Obj))(H:Hp)(b:Addr):Prop :=
 H b=none/\b≠X.env.locals/\b∉X.fs/\(b∈X.ex\/X.s₀.heap.objs.size<=b)/\(∀ x c,X.env.cells.lookup x=some c->c≠b)/\∀ p∈X.pn++WY,p.1≠b
theorem W1.Hb{X:Cx}{WY:List (Addr×Obj)}{σ:St}{H H':Hp}{s:Shared}{b:Addr}(I:W1 X WY σ H s)(hb:s.heap.objs.size<=b)(hn:H' b=none):r9 X WY H' b:=by
 refine⟨hn,Nat.ne_of_gt (Nat.lt_of_lt_of_le I.lt hb),I.Up hb,.inr (Nat.le_trans I.sz hb),fun x c e z=>?_,fun p hp z=>?_⟩
 ·obtain⟨v,q⟩:=I.cell x c e;exact absurd (Nat.lt_of_lt_of_le q.lt (by rw[z];exact hb)) (Nat.lt_irrefl _)
 ·exact absurd (Nat.lt_of_lt_of_le (Heap.lt_size (I.pin p hp).1) (by rw[z];exact hb)) (Nat.lt_irrefl _)
structure Turn(P:Program)(w:World)(K:q0B)(tg:Expr)(J:It)(fp:List Addr)(it:Addr)(tn:Nat->Heap->Prop):Prop where
 mem:it∈fp
 obj:∀ i h,tn i h->∀ b∈fp,∃ o,h.get? b=some o/\∀ v,o.data≠.cell v
 keep:∀ i h h',tn i h->(∀ b∈fp,∀ o,h.get? b=some o->h'.get? b=some o)->tn i h'
 item:∀(X:Cx),X.prog=P->X.w=w->X.K=K->X.calm=true->∀(i:Nat) (WY:List (Addr×Obj)) (s:Shared) (σ:St) (H:Hp) (E:q0A),W1 X WY σ H s->(∀ b∈fp,r9 X WY H b)->tn i s.heap->J.go i H ->
  wpAny (model P w) X.A (pyNext (.ref it)) (fun r s1=>∃ u,r=some u /\
   wpAny (model P w) X.A (letOwnedTupleGo tg (.ref it) u) (fun _ s2=>∃ x H',W1 X WY σ H' s2/\cA x u/\J.yld i H x H'/\tn (i+1) s2.heap/\∀ b∈fp,H' b=none) E s1) E s
 done:∀(X:Cx),X.prog=P->X.w=w->X.K=K->X.calm=true->∀(i:Nat) (WY:List (Addr×Obj)) (s:Shared) (σ:St) (H:Hp) (E:q0A),W1 X WY σ H s->(∀ b∈fp,r9 X WY H b)->tn i s.heap->J.stop i H ->
  wpAny (model P w) X.A (pyNext (.ref it)) (fun r s1=>r=none/\W1 X WY σ H s1) E s
 self:∀(A:Around) (i:Nat) (s:Shared) (Q:q0A) (E:q0A),tn i s.heap->Q (.ref it) s->wpAny (model P w) A (pyIter (.ref it)) Q E s
noncomputable abbrev TI:=St->Hp->(It->Hp->Prop)->Prop
noncomputable def PIE(X:Cx)(WY:List (Addr×Obj))(σ:St)(tg:Expr)(R:It->Hp->Prop)(itv:Value)(s2:Shared):Prop :=
 ∃(it:Addr) (fp:List Addr) (tn:Nat->Heap->Prop) (J:It) (H':Hp),itv=.ref it/\W1 X WY σ H' s2/\Turn X.prog X.w X.K tg J fp it tn/\tn 0 s2.heap/\(∀ b∈fp,r9 X WY H' b)/\R J H'
noncomputable def PI(X:Cx)(tg iter:Expr)(wi:TI):Prop :=
 ∀(WY:List (Addr×Obj)) (s:Shared) (σ:St) (H:Hp) (R:It->Hp->Prop),W1 X WY σ H s->wi σ H R ->
  wpAny (model X.prog X.w) X.A (eval iter X.env) (fun v s1=>wpAny (model X.prog X.w) X.A (pyIter v) (PIE X WY σ tg R) X.xe s1) X.xe s
theorem FW{M:Model}{A:Around}{E:q0A}{s:Shared}{tg:Expr}{it:Addr}{u:Value}{o:Obj}{n:String}{vs:Array Value}{Q:Unit->Shared->Prop}(ho:s.heap.get? it=some o)(hc:o.cls=.type n)(hd:o.data=.fields vs)
    (hn:["enumerate","zip","dict_itemiterator","dict_reverseitemiterator","odict_iterator","itertools.zip_longest","itertools.pairwise"].contains n=false) (hQ:Q () s):wpAny M A (letOwnedTupleGo tg (.ref it) u) Q E s:=by
  unfold letOwnedTupleGo;cases tg<;>first
    | exact wpAny_pure hQ
    | (cases u<;>first
        | exact wpAny_pure hQ
        | (refine wpAny_bind (wpAny_load ho ?_)
           rw[hc,hd];show wpAny M A (if (["enumerate","zip","dict_itemiterator","dict_reverseitemiterator","odict_iterator","itertools.zip_longest","itertools.pairwise"].contains n&&vs[0]?==some (rawInt _))=true then _ else _) Q E s;rw[if_neg (by intro h;rw[hn,Bool.false_and] at h;cases h)];exact wpAny_pure hQ))
noncomputable def YR(K:q0B)(a:Addr):It :=
 ⟨fun i H=>∃ xs x,dZ K H a xs/\xs[i]?=some x,fun i H x H'=>H'=H/\∀ xs,dZ K H a xs->xs[i]?=some x,fun i H=>∃ xs,dZ K H a xs/\xs.length<=i⟩
noncomputable def Itt(K:q0B)(a:Addr):It :=
 ⟨fun i H=>∃ xs x,hJ K H a xs/\xs[i]?=some x,fun i H x H'=>H'=H/\∀ xs,hJ K H a xs->xs[i]?=some x,fun i H=>∃ xs,hJ K H a xs/\xs.length<=i⟩
noncomputable def YB(lo:Int)(n:Nat):It:=⟨fun i _=>i < n,fun i H x H'=>H'=H/\x=.int (lo+i),fun i _=>n<=i⟩
theorem HL{P:Program}{w:World}{K:q0B}{tg:Expr}(a it:Addr):Turn P w K tg (YR K a) [it] it (fun i h=>h.IsListIter it a i) where
 mem:=by simp
 obj:=fun i h st b hb=>by
  have e:b=it:=by simpa using hb
  subst e;obtain⟨o,e,c,d⟩:=st;exact⟨o,e,fun v z=>by rw[d] at z;cases z⟩
 keep:=fun i h h' st k=>st.at fun o e=>k it (by simp) o e
 item:=by
  intro X hP hw hK hc i WY s σ H E I hf st hg;subst hP hw hK;obtain⟨xs,x,hq,hx⟩:=hg;obtain⟨W2,rv,p,hz⟩:=I.list hq;obtain⟨u,hu,ru⟩:=rv.get hx;obtain⟨f0,f1,f2,f3,f4,f5⟩:=hf it (by simp);refine wpAny_pyNext_list_item st p.isList (x:=u) (by simpa using hu) fun h' Zm sb=>?_;have I1:W1 X WY σ H {s with heap:=h'}:=I.turned (t':=s.toks) (fun b o hb e=>(sb.2 b hb).trans e) f0 f1 f3 f4 f5;obtain⟨o,e,c,d⟩:=id Zm;exact⟨u,rfl,FW (s:={s with heap:=h'}) e c d (by decide) ⟨x,H,I1,ru,⟨rfl,fun ys hy=>by rw[I.Ju hy hq];exact hx⟩,Zm,fun b hb=>(hf b hb).1⟩⟩
 done:=by
  intro X hP hw hK hc i WY s σ H E I hf st hg;subst hP hw hK;obtain⟨xs,hq,hx⟩:=hg;obtain⟨W2,rv,p,hz⟩:=I.list hq;obtain⟨f0,f1,f2,f3,f4,f5⟩:=hf it (by simp);have hl:=rv.length;exact wpAny_pyNext_list_end (I.ok.hd hc) st p.isList (by simp;omega) fun h' eb=>⟨rfl,I.turned (t':=s.toks) (fun b o hb e=>eb b o hb e) f0 f1 f3 f4 f5⟩
 self:=fun _ _ _ _ _ st h=>wpAny_pyIter_listiter st h
theorem Fv{P:Program}{w:World}{K:q0B}{tg:Expr}(a it:Addr):Turn P w K tg (Itt K a) [it] it (fun i h=>h.IsTupleIter it a i) where
 mem:=by simp
 obj:=fun i h st b hb=>by
  have e:b=it:=by simpa using hb
  subst e;obtain⟨o,e,c,d⟩:=st;exact⟨o,e,fun v z=>by rw[d] at z;cases z⟩
 keep:=fun i h h' st k=>st.at fun o e=>k it (by simp) o e
 item:=by
  intro X hP hw hK hc i WY s σ H E I hf st hg;subst hP hw hK;obtain⟨xs,x,hq,hx⟩:=hg;obtain⟨W2,rv,p,hz⟩:=I.tuple hq;obtain⟨u,hu,ru⟩:=rv.get hx;obtain⟨f0,f1,f2,f3,f4,f5⟩:=hf it (by simp);refine wpAny_pyNext_tuple_item st (show s.heap.IsTuple a W2.toArray from p) (x:=u) (by simpa using hu) fun h' Zm sb=>?_;have I1:W1 X WY σ H {s with heap:=h'}:=I.turned (t':=s.toks) (fun b o hb e=>(sb.2 b hb).trans e) f0 f1 f3 f4 f5;obtain⟨o,e,c,d⟩:=id Zm;exact⟨u,rfl,FW (s:={s with heap:=h'}) e c d (by decide) ⟨x,H,I1,ru,⟨rfl,fun ys hy=>by rw[I.HK hy hq];exact hx⟩,Zm,fun b hb=>(hf b hb).1⟩⟩
 done:=by
  intro X hP hw hK hc i WY s σ H E I hf st hg;subst hP hw hK;obtain⟨xs,hq,hx⟩:=hg;obtain⟨W2,rv,p,hz⟩:=I.tuple hq;obtain⟨f0,f1,f2,f3,f4,f5⟩:=hf it (by simp);have hl:=rv.length;exact wpAny_pyNext_tuple_end (I.ok.hd hc) st (show s.heap.IsTuple a W2.toArray from p) (by simp;omega) fun h' eb=>⟨rfl,I.turned (t':=s.toks) (fun b o hb e=>eb b o hb e) f0 f1 f3 f4 f5⟩
 self:=fun _ _ _ _ _ st h=>wpAny_pyIter_tupleiter st h
theorem Fu{P:Program}{w:World}{K:q0B}{tg:Expr}(it:Addr)(lo:Int)(n:Nat):Turn P w K tg (YB lo n) [it] it (fun i h=>IsRangeIter h it (lo+(i:Nat) * 1) ((n:Int) - (i:Nat)) 1) where
 mem:=by simp
 obj:=fun i h st b hb=>by
  have e:b=it:=by simpa using hb
  subst e;exact⟨_,st,fun v z=>by
   have z':Data.fields _=Data.cell v:=z;cases z'⟩
 keep:=fun i h h' st k=>k it (by simp) _ st
 item:=by
  intro X hP hw hK hc i WY s σ H E I hf st hg;subst hP hw hK;obtain⟨f0,f1,f2,f3,f4,f5⟩:=hf it (by simp);have W:=Walks.range (prog:=X.prog) (w:=X.w) (I.ok.hd hc) it lo 1 n;refine W.item i s _ _ hg st fun v h' tk hv Zm kk=>?_;obtain⟨t,rfl⟩:=hv;have I1:W1 X WY σ H {s with heap:=h',toks:=tk}:=I.turned (fun b o hb e=>kk b o (by simpa using hb) e) f0 f1 f3 f4 f5;refine⟨_,rfl,FW (s:={s with heap:=h',toks:=tk}) (n:="range_iterator") Zm rfl rfl (by decide) ⟨.int (lo+i),H,I1,⟨t,?_⟩,⟨rfl,rfl⟩,Zm,fun b hb=>(hf b hb).1⟩⟩;rw[Int.mul_one]
 done:=by
  intro X hP hw hK hc i WY s σ H E I hf st hg;subst hP hw hK;obtain⟨f0,f1,f2,f3,f4,f5⟩:=hf it (by simp);exact wpAny_pyNext_range_end (I.ok.hd hc) st (by have:n<=i:=hg;omega) fun h' eb=>⟨rfl,I.turned (t':=s.toks) (fun b o hb e=>eb b o hb e) f0 f1 f3 f4 f5⟩
 self:=fun _ _ _ _ _ st h=>wpAny_pyIter_rangeiter st h
section
variable {X:Cx} {tg:Expr}
noncomputable def DM(K:q0B)(tl:TE):TI:=fun σ H R=>tl σ H fun x H1=>∃ a,x=.ref a/\(∃ xs,dZ K H1 a xs)/\R (YR K a) H1
noncomputable def Jm(K:q0B)(tl:TE):TI:=fun σ H R=>tl σ H fun x H1=>∃ a,x=.ref a/\(∃ xs,hJ K H1 a xs)/\R (Itt K a) H1
theorem pX{l:Expr}{tl:TE}(hl:PE X l tl):PI X tg l (DM X.K tl):=by
 intro WY s σ H R I h;refine thn (hl WY s σ H _ I h) fun v s1 ⟨x,H1,I1,r1,q1⟩=>?_;obtain⟨a,e,⟨xs,hq⟩,q⟩:=q1;subst e;cases r1;obtain⟨W2,rv,p,hz⟩:=I1.list hq;refine wpAny_pyIter_list p.isList ?_;refine⟨s1.heap.objs.size,[s1.heap.objs.size],_,_,H1,rfl,I1.kept (t':=s1.toks) fun b o e=>Heap.get?_push_of_some _ e,HL a _,⟨_,Heap.get?_push_size _ rfl,rfl,rfl⟩,fun b hb=>?_,q⟩;have e:b=s1.heap.objs.size:=by simpa using hb
 subst e;exact I1.Hb (Nat.le_refl _) (I1.W5.fresh (Nat.le_refl _))
theorem JZ{l:Expr}{tl:TE}(hl:PE X l tl):PI X tg l (Jm X.K tl):=by
 intro WY s σ H R I h;refine thn (hl WY s σ H _ I h) fun v s1 ⟨x,H1,I1,r1,q1⟩=>?_;obtain⟨a,e,⟨xs,hq⟩,q⟩:=q1;subst e;cases r1;obtain⟨W2,rv,p,hz⟩:=I1.tuple hq;refine wpAny_pyIter_tuple (show s1.heap.IsTuple a W2.toArray from p) ?_;refine⟨s1.heap.objs.size,[s1.heap.objs.size],_,_,H1,rfl,I1.kept (t':=s1.toks) fun b o e=>Heap.get?_push_of_some _ e,Fv a _,⟨_,Heap.get?_push_size _ rfl,rfl,rfl⟩,fun b hb=>?_,q⟩;have e:b=s1.heap.objs.size:=by simpa using hb
 subst e;exact I1.Hb (Nat.le_refl _) (I1.W5.fresh (Nat.le_refl _))
theorem J4{WY:List (Addr×Obj)}{σ:St}{H:Hp}{s:Shared}{R:It->Hp->Prop}{E:q0A}{lo hi:Int}{t u v:Tok}{tk:Nat}(I:W1 X WY σ H s)(h1:-(2 ^ 62)<=lo)(h2:lo < 2 ^ 62)(h3:-(2 ^ 62)<=hi)(h4:hi < 2 ^ 62)
    (q:R (YB lo (hi - lo).toNat) H):wpAny (model X.prog X.w) X.A (pyIter (.ref s.heap.objs.size)) (PIE X WY σ tg R) E {s with heap:=s.heap.push {cls:=.type "range",data:=.fields #[.int lo t,.int hi u,.int 1 v]},toks:=tk}:=by
  refine wpAny_pyIter_range (IsRange.new ..) (small_one h1 h2 h3 h4) ?_;have I1:W1 X WY σ H {s with heap:=s.heap.push {cls:=.type "range",data:=.fields #[.int lo t,.int hi u,.int 1 v]},toks:=tk}:=I.kept fun b o e=>Heap.get?_push_of_some _ e;refine⟨(s.heap.push {cls:=.type "range",data:=.fields #[.int lo t,.int hi u,.int 1 v]}).objs.size,[(s.heap.push {cls:=.type "range",data:=.fields #[.int lo t,.int hi u,.int 1 v]}).objs.size],_,_,H,rfl,
    I1.kept (t':=tk) fun b o e=>Heap.get?_push_of_some _ e,Fu _ lo (hi - lo).toNat,?_,fun b hb=>?_,q⟩
  · have e1:lo+((0:Nat):Int) * 1=lo:=by simp
    have e2:(((hi - lo).toNat:Nat):Int) - ((0:Nat):Int)=Builtin.Range.rangeSize lo hi 1:=by rw[rangeSize_one];split<;>omega
    show IsRangeIter _ _ (lo+((0:Nat):Int) * 1) ((((hi - lo).toNat:Nat):Int) - ((0:Nat):Int)) 1;rw[e1,e2];exact Heap.get?_push_size _ rfl
  · have e:b=(s.heap.push {cls:=.type "range",data:=.fields #[.int lo t,.int hi u,.int 1 v]}).objs.size:=by simpa using hb
    subst e;exact I1.Hb (Nat.le_refl _) (I1.W5.fresh (Nat.le_refl _))
noncomputable def DN(ta:TA):TI:=fun σ H R=>ta σ H fun vs H1=>∃ j:Int,vs=[.int j]/\-(2 ^ 62)<=j/\j < 2 ^ 62/\R (YB 0 j.toNat) H1
noncomputable def Nz(ta:TA):TI:=fun σ H R=>ta σ H fun vs H1=>∃ i j:Int,vs=[.int i,.int j]/\(-(2 ^ 62)<=i/\i < 2 ^ 62/\-(2 ^ 62)<=j/\j < 2 ^ 62)/\R (YB i (j - i).toNat) H1
theorem vA{a:Expr}{ta:TA}{p pos:Pos}(hg:Gl X "range")(hm:X.mg "range"=none)(ha:PA X [a] ta)(hs:starEach [a] X.env=[(false,eval a X.env)]:=by rfl):PI X tg (.Call (.Name "range" p) [a] [] pos) (DN ta):=by
 intro WY s σ H R I h;refine Call_ (Cv I hg hm boot_range (PyProof.Rows.callWith_type1 (thn (ha pos WY s σ H _ I h) fun us s1 ⟨vs,H1,I1,r1,q1⟩=>?_) hs rfl));obtain⟨j,e,q1,q2,q⟩:=q1;subst e;cases r1 with
 | cons r rr =>
  cases rr;obtain⟨t,rfl⟩:=r;exact call_range_1 (J4 I1 (by omega) (by omega) q1 q2 (by simpa using q))
noncomputable def vP(wi:TI)(g:TG)(tb:TS):TS:=fun D σ H=>wi σ H fun J H1=>∃ W:Nat->Nat->St->Hp->Prop,(∃ m,W 0 m σ H1)/\∀ i m σ H,W i m σ H ->
 (J.stop i H/\D.nx σ H)\/(J.go i H/\∃ N:St->Hp->Prop,(∀ σ' H',N σ' H'->∃ m',m' < m/\W (i+1) m' σ' H')/\∀ x H',J.yld i H x H'->g x σ H' fun σ2 H2=>tb {D with nx:=N,ct:=N,bk:=D.nx} σ2 H2)
noncomputable def Am(fp:List Addr)(h:Heap):List (Addr×Obj):=fp.filterMap fun b=>(h.get? b).map fun o=>(b,o)
theorem mK{fp:List Addr}{h:Heap}{b:Addr}{o:Obj}(hb:b∈fp)(e:h.get? b=some o):(b,o)∈Am fp h:=List.mem_filterMap.mpr ⟨b,hb,by rw[e];rfl⟩
theorem Hr{fp:List Addr}{h:Heap}{p:Addr×Obj}(hp:p∈Am fp h):p.1∈fp/\h.get? p.1=some p.2:=by
 obtain⟨b,hb,e⟩:=List.mem_filterMap.mp hp;cases q:h.get? b with
 | none=>rw[q] at e;cases e
 | some o =>
  rw[q] at e;have e':(b,o)=p:=Option.some.inj e;subst e';exact⟨hb,q⟩
theorem W1.pinned{WY:List (Addr×Obj)}{σ:St}{H:Hp}{s:Shared}{fp:List Addr}(I:W1 X WY σ H s)(hf:∀ b∈fp,r9 X WY H b)(ho:∀ b∈fp,∃ o,s.heap.get? b=some o/\∀ v,o.data≠.cell v):W1 X (WY++Am fp s.heap) σ H s :=
 I.tJ fun p hp=>(List.mem_append.mp hp).elim (fun z=>I.pin p (List.mem_append_right _ z)) fun z=>by
  obtain⟨hb,e⟩:=Hr z;obtain⟨f0,f1,f2,_⟩:=hf p.1 hb;obtain⟨o,e',d⟩:=ho p.1 hb;rw[e] at e';cases e';exact⟨e,f0,f1,f2,d⟩
theorem W1.AD{WY pl:List (Addr×Obj)}{σ:St}{H:Hp}{s:Shared}(I:W1 X (WY++pl) σ H s):W1 X WY σ H s:=I.tJ fun p hp=>I.pin p (List.mem_append_right _ (List.mem_append_left _ hp))
theorem vB{iter:Expr}{body:List Stmt}{wi:TI}{g:TG}{tb:TS}{pos:Pos}(hp:PassesOwn (model X.prog X.w) X.A X.env X.xe)(hc:X.calm=true)(hi:PI X tg iter wi)(hg:PG X tg g)(hb:Yb X body tb)
    (hs:∀ x,foldedSetIterable iter X.env x=pure x:=by intro _;rfl):PS X (.For tg iter body [] pos) (vP wi g tb):=by
  intro WY s σ H D I h;refine wpAny_For (thn (hi WY s σ H _ I h) fun v s1 h1=>thn h1 fun itv s2 h2=>?_) hs;obtain⟨it,fp,tn,J,H2,e,I2,T,st2,f2,W,⟨m0,w0⟩,turn⟩:=h2;subst e
  -- what stays true of the iterator's objects through the loop
  have Yy:∀ {H':Hp},(∀ b∈fp,H' b=none)->∀ b∈fp,r9 X WY H' b:=fun hn b hb=>⟨hn b hb,(f2 b hb).2⟩;refine codeAny_forLoop_any (fun n s'=>∃ i σ' H',W1 X WY σ' H' s'/\tn i s'.heap/\(∀ b∈fp,H' b=none)/\W i n σ' H') ?_ m0 ⟨0,σ,H2,I2,st2,fun b hb=>(f2 b hb).1,w0⟩;rintro n s3 ⟨i,σ3,H3,I3,st3,fr3,w3⟩;rcases turn i n σ3 H3 w3 with⟨stop,qn⟩|⟨go,N,hN,step⟩
  · refine wpAny_passesOwn hp (thn (T.done X rfl rfl rfl hc i WY s3 σ3 H3 X.xe I3 (Yy fr3) st3 stop) fun r s4 ⟨hr,I4⟩=>?_);subst hr;exact wpAny_execs_nil ⟨σ3,H3,I4,qn⟩
  · refine wpAny_passesOwn hp (thn (T.item X rfl rfl rfl hc i WY s3 σ3 H3 X.xe I3 (Yy fr3) st3 go) fun r s4 ⟨u,hr,h4⟩=>?_);subst hr;refine wpAny_passesOwn hp (thn h4 fun _ s5 ⟨x,H5,I5,r5,y5,st5,fr5⟩=>?_);have I5':=I5.pinned (Yy fr5) (T.obj _ _ st5);refine wpAny_passesOwn hp (thn (hg _ s5 σ3 H5 x u _ I5' r5 (step x H5 y5)) fun _ s6 ⟨σ6,H6,I6,q6⟩=>?_);refine wpAny_passesOwn hp (thn (hb _ s6 σ6 H6 _ I6 q6) fun f s7 q7=>?_);have again:∀ {σ7:St} {H7:Hp},W1 X (WY++Am fp s5.heap) σ7 H7 s7->N σ7 H7->∃ m,m < n/\∃ i σ' H',W1 X WY σ' H' s7/\tn i s7.heap/\(∀ b∈fp,H' b=none)/\W i m σ' H':=fun {σ7 H7} I7 n7=>by
      obtain⟨m',hm,w7⟩:=hN σ7 H7 n7;refine⟨m',hm,i+1,σ7,H7,I7.AD,T.keep _ _ _ st5 fun b hb o e=>(I7.pin (b,o) (List.mem_append_right _ (List.mem_append_right _ (mK hb e)))).1,fun b hb=>?_,w7⟩;obtain⟨o,e,d⟩:=T.obj _ _ st5 b hb;exact(I7.pin (b,o) (List.mem_append_right _ (List.mem_append_right _ (mK hb e)))).2.1
    cases f with
    | next=>obtain⟨σ7,H7,I7,n7⟩:=q7;exact again I7 n7
    | cont=>obtain⟨σ7,H7,I7,n7⟩:=q7;exact again I7 n7
    | brk=>obtain⟨σ7,H7,I7,q7⟩:=q7;exact⟨σ7,H7,I7.AD,q7⟩
    | ret v=>obtain⟨x7,σ7,H7,I7,r7,q7⟩:=q7;exact⟨x7,σ7,H7,I7.AD,r7,q7⟩
end
theorem DL{K:q0B}{a:Addr}{xs:List V}{g:TG}{tb:TS}{D:Ends}{σ:St}{H:Hp}(Pv:Nat->St->Hp->Prop)(h0:Pv 0 σ H)(hl:∀ i σ H,i<=xs.length->Pv i σ H->dZ K H a xs)
    (hs:∀ i x σ H,xs[i]?=some x->Pv i σ H->g x σ H fun σ2 H2=>tb {D with nx:=Pv (i+1),ct:=Pv (i+1),bk:=D.nx} σ2 H2) (hd:∀ σ H,Pv xs.length σ H->D.nx σ H) :
    ∃ W:Nat->Nat->St->Hp->Prop,(∃ m,W 0 m σ H)/\∀ i m σ H,W i m σ H ->
      ((YR K a).stop i H/\D.nx σ H)\/((YR K a).go i H/\∃ N:St->Hp->Prop,(∀ σ' H',N σ' H'->∃ m',m' < m/\W (i+1) m' σ' H')/\∀ x H',(YR K a).yld i H x H'->g x σ H' fun σ2 H2=>tb {D with nx:=N,ct:=N,bk:=D.nx} σ2 H2):=by
  refine⟨fun i m σ H=>m=xs.length - i/\i<=xs.length/\Pv i σ H,⟨xs.length,by simp,Nat.zero_le _,h0⟩,?_⟩;rintro i m σ H ⟨rfl,hi,p⟩;have q:=hl i σ H hi p;by_cases XO:i < xs.length
  · refine .inr ⟨⟨xs,xs[i],q,by simp[XO]⟩,Pv (i+1),fun σ' H' p'=>⟨xs.length - (i+1),by omega,rfl,XO,p'⟩,fun x H' y=>?_⟩;obtain⟨e,y⟩:=y;subst e;exact hs i x σ _ (y xs q) p
  · have e:i=xs.length:=by omega
    subst e;exact .inl ⟨⟨xs,q,Nat.le_refl _⟩,hd σ H p⟩
theorem Ci{K:q0B}{a:Addr}{xs:List V}{g:TG}{tb:TS}{D:Ends}{σ:St}{H:Hp}(Pv:Nat->St->Hp->Prop)(h0:Pv 0 σ H)(hl:∀ i σ H,i<=xs.length->Pv i σ H->hJ K H a xs)
    (hs:∀ i x σ H,xs[i]?=some x->Pv i σ H->g x σ H fun σ2 H2=>tb {D with nx:=Pv (i+1),ct:=Pv (i+1),bk:=D.nx} σ2 H2) (hd:∀ σ H,Pv xs.length σ H->D.nx σ H) :
    ∃ W:Nat->Nat->St->Hp->Prop,(∃ m,W 0 m σ H)/\∀ i m σ H,W i m σ H ->
      ((Itt K a).stop i H/\D.nx σ H)\/((Itt K a).go i H/\∃ N:St->Hp->Prop,(∀ σ' H',N σ' H'->∃ m',m' < m/\W (i+1) m' σ' H')/\∀ x H',(Itt K a).yld i H x H'->g x σ H' fun σ2 H2=>tb {D with nx:=N,ct:=N,bk:=D.nx} σ2 H2):=by
  refine⟨fun i m σ H=>m=xs.length - i/\i<=xs.length/\Pv i σ H,⟨xs.length,by simp,Nat.zero_le _,h0⟩,?_⟩;rintro i m σ H ⟨rfl,hi,p⟩;have q:=hl i σ H hi p;by_cases XO:i < xs.length
  · refine .inr ⟨⟨xs,xs[i],q,by simp[XO]⟩,Pv (i+1),fun σ' H' p'=>⟨xs.length - (i+1),by omega,rfl,XO,p'⟩,fun x H' y=>?_⟩;obtain⟨e,y⟩:=y;subst e;exact hs i x σ _ (y xs q) p
  · have e:i=xs.length:=by omega
    subst e;exact .inl ⟨⟨xs,q,Nat.le_refl _⟩,hd σ H p⟩
theorem Ha{lo:Int}{n:Nat}{g:TG}{tb:TS}{D:Ends}{σ:St}{H:Hp}(Pv:Nat->St->Hp->Prop)(h0:Pv 0 σ H)
    (hs:∀ i σ H,i < n->Pv i σ H->g (.int (lo+i)) σ H fun σ2 H2=>tb {D with nx:=Pv (i+1),ct:=Pv (i+1),bk:=D.nx} σ2 H2) (hd:∀ σ H,Pv n σ H->D.nx σ H) :
    ∃ W:Nat->Nat->St->Hp->Prop,(∃ m,W 0 m σ H)/\∀ i m σ H,W i m σ H ->
      ((YB lo n).stop i H/\D.nx σ H)\/((YB lo n).go i H/\∃ N:St->Hp->Prop,(∀ σ' H',N σ' H'->∃ m',m' < m/\W (i+1) m' σ' H')/\∀ x H',(YB lo n).yld i H x H'->g x σ H' fun σ2 H2=>tb {D with nx:=N,ct:=N,bk:=D.nx} σ2 H2):=by
  refine⟨fun i m σ H=>m=n - i/\i<=n/\Pv i σ H,⟨n,by simp,Nat.zero_le _,h0⟩,?_⟩;rintro i m σ H ⟨rfl,hi,p⟩;by_cases XO:i < n
  · refine .inr ⟨XO,Pv (i+1),fun σ' H' p'=>⟨n - (i+1),by omega,rfl,XO,p'⟩,fun x H' y=>?_⟩;obtain⟨e,y⟩:=y;subst e y;exact hs i σ _ XO p
  · have e:i=n:=by omega
    subst e;exact .inl ⟨Nat.le_refl _,hd σ H p⟩
noncomputable abbrev R2:=V->V->Hp->VK->Prop
noncomputable def iX(X:Cx)(f:Value->Value->Sem Value)(r:R2):Prop :=
 ∀(WY:List (Addr×Obj)) (s:Shared) (σ:St) (H:Hp) (x y:V) (v u:Value) (Q:VK),W1 X WY σ H s->cA x v->cA y u->r x y H Q ->
  wpAny (model X.prog X.w) X.A (f v u) (EP X WY σ Q) X.xe s
noncomputable def VO(X:Cx)(f:Value->Sem Value)(r:V->Hp->VK->Prop):Prop :=
 ∀(WY:List (Addr×Obj)) (s:Shared) (σ:St) (H:Hp) (x:V) (v:Value) (Q:VK),W1 X WY σ H s->cA x v->r x H Q ->
  wpAny (model X.prog X.w) X.A (f v) (EP X WY σ Q) X.xe s
noncomputable def eR(X:Cx)(f:Value)(r:List V->Hp->VK->Prop):Prop :=
 ∀(WY:List (Addr×Obj)) (s:Shared) (σ:St) (H:Hp) (xs:List V) (us:List Value) (Q:VK),W1 X WY σ H s->Vals xs us->r xs H Q ->
  wpAny (model X.prog X.w) X.A (call f us) (EP X WY σ Q) X.xe s
noncomputable def VN(X:Cx)(r:V->Hp->(Bool->Hp->Prop)->Prop):Prop :=
 ∀(WY:List (Addr×Obj)) (s:Shared) (σ:St) (H:Hp) (x:V) (v:Value) (Q:Bool->Hp->Prop),W1 X WY σ H s->cA x v->r x H Q ->
  wpAny (model X.prog X.w) X.A (truthy v) (TP X WY σ Q) X.xe s
noncomputable def U7(r:R2)(ta tb:TE):TE:=fun σ H Q=>ta σ H fun x H1=>tb σ H1 fun y H2=>r x y H2 Q
noncomputable def WN(r:V->Hp->VK->Prop)(ta:TE):TE:=fun σ H Q=>ta σ H fun x H1=>r x H1 Q
noncomputable def rI(C:Int->Int->Prop)(g:Int->Int->V):R2:=fun x y H Q=>∃ i j,x=.int i/\y=.int j/\C i j/\Q (g i j) H
noncomputable def KR(g:Int->Int->V):R2:=fun x y H Q=>∃ i j,x=.int i/\y=.int j/\Q (g i j) H
noncomputable def rU(g:Int->V):V->Hp->VK->Prop:=fun x H Q=>∃ i,x=.int i/\Q (g i) H
section
variable {X:Cx} {a b c:Expr} {ta tb tc:TE} {pos:Pos}
theorem Ox(ha:PE X a ta)(hb:PE X b tb){WY:List (Addr×Obj)}{s:Shared}{σ:St}{H:Hp}{R:V->V->Hp->Prop}(I:W1 X WY σ H s)
    (h:ta σ H fun x H1=>tb σ H1 fun y H2=>R x y H2) {Q:q0A} {f:Value->Value->Sem Value}
    (hf:∀ v u s2 x y H2,W1 X WY σ H2 s2->cA x v->cA y u->R x y H2->wpAny (model X.prog X.w) X.A (f v u) Q X.xe s2) :
    wpAny (model X.prog X.w) X.A (eval a X.env) (fun v s₁=>wpAny (model X.prog X.w) X.A (eval b X.env) (fun u s₂=>wpAny (model X.prog X.w) X.A (f v u) Q X.xe s₂) X.xe s₁) X.xe s:=by
  refine thn (ha WY s σ H _ I h) fun v s1 ⟨x,H1,I1,r1,q1⟩=>?_;refine thn (hb WY s1 σ H1 _ I1 q1) fun u s2 ⟨y,H2,I2,r2,q2⟩=>?_;exact hf v u s2 x y H2 I2 r1 r2 q2
theorem aS{op:Operator}{r:R2}(ho:iX X (binaryOp op) r)(ha:PE X a ta)(hb:PE X b tb):PE X (.BinOp a op b pos) (U7 r ta tb):=by
 intro WY s σ H Q I h;exact wpAny_BinOp (Ox ha hb I h fun v u s2 x y H2 I2 rx ry q=>ho WY s2 σ H2 x y v u Q I2 rx ry q)
theorem lV{op:UnaryOp}{r:V->Hp->VK->Prop}(ho:VO X (unaryOp op) r)(ha:PE X a ta):PE X (.UnaryOp op a pos) (WN r ta):=by
 intro WY s σ H Q I h;exact UnaryOp_ (thn (ha WY s σ H _ I h) fun v s1 ⟨x,H1,I1,r1,q1⟩=>ho WY s1 σ H1 x v Q I1 r1 q1)
theorem VG{f:Value->Value->Sem Value}{C:Int->Int->Prop}{g:Int->Int->Int}
    (rule:∀(i j:Int) (t u:Tok) (s:Shared) (Q:q0A) (E:q0A),C i j->Q (.int (g i j) s.toks) {s with toks:=s.toks+1}->wpAny (model X.prog X.w) X.A (f (.int i t) (.int j u)) Q E s) :
    iX X f (rI C fun i j=>.int (g i j)):=by
  intro WY s σ H x y v u Q I rx ry h;obtain⟨i,j,rfl,rfl,hc,q⟩:=h;obtain⟨t,rfl⟩:=rx;obtain⟨t',rfl⟩:=ry;exact rule i j t t' s _ _ hc ⟨.int (g i j),H,I.tok _,⟨_,rfl⟩,q⟩
theorem Ur{f:Value->Value->Sem Value}{g:Int->Int->Int}
    (rule:∀(i j:Int) (t u:Tok) (s:Shared) (Q:q0A) (E:q0A),Q (.int (g i j) s.toks) {s with toks:=s.toks+1}->wpAny (model X.prog X.w) X.A (f (.int i t) (.int j u)) Q E s) :
    iX X f (KR fun i j=>.int (g i j)):=by
  intro WY s σ H x y v u Q I rx ry h;obtain⟨i,j,rfl,rfl,q⟩:=h;obtain⟨t,rfl⟩:=rx;obtain⟨t',rfl⟩:=ry;exact rule i j t t' s _ _ ⟨.int (g i j),H,I.tok _,⟨_,rfl⟩,q⟩
theorem Mx{f:Value->Value->Sem Value}{g:Int->Int->Bool}
    (rule:∀(i j:Int) (t u:Tok) (s:Shared) (Q:q0A) (E:q0A),Q (.bool (g i j)) s->wpAny (model X.prog X.w) X.A (f (.int i t) (.int j u)) Q E s) :
    iX X f (KR fun i j=>.bl (g i j)):=by
  intro WY s σ H x y v u Q I rx ry h;obtain⟨i,j,rfl,rfl,q⟩:=h;obtain⟨t,rfl⟩:=rx;obtain⟨t',rfl⟩:=ry;exact rule i j t t' s _ _ ⟨.bl (g i j),H,I,rfl,q⟩
noncomputable def CPow(i j:Int):Prop:=0<=j/\j<=1000000/\i.natAbs < 2 ^ 64
noncomputable def CMul(i j:Int):Prop:=(-(2 ^ 64) < i/\i < 2 ^ 64)\/(-(2 ^ 64) < j/\j < 2 ^ 64)
theorem CMul.ok{i j:Int}(h:CMul i j):IntMulOk i j:=by
 rcases h with⟨h1,h2⟩|⟨h1,h2⟩
 ·exact .of_left (intBits_le_64 h1 h2)
 ·exact .of_right (intBits_le_64 h1 h2)
theorem QQ:iX X (binaryOp .Add) (KR fun i j=>.int (i+j)):=Ur fun _ _ _ _ _ _ _ q=>add_int q
theorem iE:iX X (binaryOp .Sub) (KR fun i j=>.int (i - j)):=Ur fun _ _ _ _ _ _ _ q=>sub_int q
theorem Af:iX X (binaryOp .Mult) (rI CMul fun i j=>.int (i * j)):=VG fun _ _ _ _ _ _ _ hc q=>mul_int q hc.ok
theorem uZ:iX X (binaryOp .Mod) (rI (fun _ j=>0 < j) fun i j=>.int (i % j)):=VG fun i j _ _ _ _ _ hc q=>by
 have h1:(0:Int) < j:=hc;exact mod_int' (by omega) (by rw[Int.fmod_eq_emod_of_nonneg i (by omega)];exact q)
theorem u0:iX X (binaryOp .Pow) (rI CPow fun i j=>.int (i ^ j.toNat)):=VG fun _ _ _ _ _ _ _ hc q=>pow_int_small hc.1 hc.2.1 hc.2.2 q
theorem WW{f:Value->Sem Value}{g:Int->Int}
    (rule:∀(i:Int) (t:Tok) (s:Shared) (Q:q0A) (E:q0A),Q (.int (g i) s.toks) {s with toks:=s.toks+1}->wpAny (model X.prog X.w) X.A (f (.int i t)) Q E s) :
    VO X f (rU fun i=>.int (g i)):=by
  intro WY s σ H x v Q I rx h;obtain⟨i,rfl,q⟩:=h;obtain⟨t,rfl⟩:=rx;exact rule i t s _ _ ⟨.int (g i),H,I.tok _,⟨_,rfl⟩,q⟩
theorem iT:VO X (unaryOp .USub) (rU fun i=>.int (-i)):=WW fun _ _ _ _ _ q=>neg_int q
end
noncomputable def scal:V->V->Bool
 | .W3,.W3=>true | .W3,.int _=>true | .int _,.W3=>true | .W3,.bl _=>true | .bl _,.W3=>true | .W3,.str _=>true | .str _,.W3=>true
 | .int _,.int _=>true | .bl _,.bl _=>true | .str _,.str _=>true | .byt _,.byt _=>true
 | .int _,.str _=>true | .str _,.int _=>true | .bl _,.str _=>true | .str _,.bl _=>true
 | _,_=>false
noncomputable def Hz:R2:=fun x y H Q=>scal x y=true/\Q (.bl (decide (x=y))) H
noncomputable def ML:R2:=fun x y H Q=>scal x y=true/\Q (.bl (!decide (x=y))) H
theorem FK{i j:Int}:decide (V.int i=V.int j)=(i==j):=by
 rw[Bool.eq_iff_iff];simp
theorem Iz{i j:Bool}:decide (V.bl i=V.bl j)=(i==j):=by
 rw[Bool.eq_iff_iff];simp
theorem FL{i j:Str}:decide (V.str i=V.str j)=(i==j):=by
 rw[Bool.eq_iff_iff];simp
theorem FJ{i j:Array UInt8}:decide (V.byt i=V.byt j)=(i.toList==j.toList):=by
 rw[Bool.eq_iff_iff];cases i;cases j;simp
section
variable {X:Cx} {a b c:Expr} {ta tb tc:TE} {pos:Pos}
theorem b9{WY:List (Addr×Obj)}{σ:St}{H:Hp}{s:Shared}{Q:VK}{k k':Bool}(I:W1 X WY σ H s)(q:Q (.bl k) H)(e:k=k'):EP X WY σ Q (.bool k') s:=by
 subst e;exact⟨.bl k,H,I,rfl,q⟩
theorem bW:iX X (compareOp .Eq) Hz:=by
 intro WY s σ H x y v u Q I rx ry h;obtain⟨hs,q⟩:=h;cases x with
 | W3 =>
  cases rx;cases y with
  | W3=>cases ry;exact PySem.EqNone.eq_none_none (b9 I q (by simp))
  | bl j=>cases ry;exact PySem.EqNone.eq_none_bool (b9 I q (by simp))
  | int j=>obtain⟨t',rfl⟩:=ry;exact PySem.EqNone.eq_none_int (b9 I q (by simp))
  | str j=>obtain⟨t',rfl⟩:=ry;exact PySem.EqNone.eq_none_str (b9 I q (by simp))
  | _=>exact absurd (show false=true from hs) Bool.false_ne_true
 | bl i =>
  cases rx;cases y with
  | W3=>cases ry;exact PySem.EqNone.eq_bool_none (b9 I q (by simp))
  | bl j=>cases ry;exact eq_bool (b9 I q Iz)
  | str j=>obtain⟨t',rfl⟩:=ry;exact PySem.EqMixed.eq_bool_str (b9 I q (by simp))
  | _=>exact absurd (show false=true from hs) Bool.false_ne_true
 | int i =>
  obtain⟨t,rfl⟩:=rx;cases y with
  | W3=>cases ry;exact PySem.EqNone.eq_int_none (b9 I q (by simp))
  | int j=>obtain⟨t',rfl⟩:=ry;exact eq_int (b9 I q FK)
  | str j=>obtain⟨t',rfl⟩:=ry;exact PySem.EqMixed.eq_int_str (b9 I q (by simp))
  | _=>exact absurd (show false=true from hs) Bool.false_ne_true
 | str i =>
  obtain⟨t,rfl⟩:=rx;cases y with
  | W3=>cases ry;exact PySem.EqNone.eq_str_none (b9 I q (by simp))
  | bl j=>cases ry;exact PySem.EqMixed.eq_str_bool (b9 I q (by simp))
  | int j=>obtain⟨t',rfl⟩:=ry;exact PySem.EqMixed.eq_str_int (b9 I q (by simp))
  | str j=>obtain⟨t',rfl⟩:=ry;exact eq_str (b9 I q FL)
  | _=>exact absurd (show false=true from hs) Bool.false_ne_true
 | byt i =>
  obtain⟨t,rfl⟩:=rx;cases y with
  | byt j=>obtain⟨t',rfl⟩:=ry;exact PySem.W.eq_bytes (b9 I q FJ)
  | _=>exact absurd (show false=true from hs) Bool.false_ne_true
 | _=>cases y<;>exact absurd (show false=true from hs) Bool.false_ne_true
theorem oM:iX X (compareOp .NotEq) ML:=by
 intro WY s σ H x y v u Q I rx ry h;obtain⟨hs,q⟩:=h;cases x with
 | W3 =>
  cases rx;cases y with
  | W3=>cases ry;exact PySem.EqNone.ne_none_none (b9 I q (by simp))
  | bl j=>cases ry;exact PySem.EqNone.ne_none_bool (b9 I q (by simp))
  | int j=>obtain⟨t',rfl⟩:=ry;exact PySem.EqNone.ne_none_int (b9 I q (by simp))
  | str j=>obtain⟨t',rfl⟩:=ry;exact PySem.EqNone.ne_none_str (b9 I q (by simp))
  | _=>exact absurd (show false=true from hs) Bool.false_ne_true
 | bl i =>
  cases rx;cases y with
  | W3=>cases ry;exact PySem.EqNone.ne_bool_none (b9 I q (by simp))
  | bl j=>cases ry;exact ne_bool (b9 I q (congrArg not Iz))
  | str j=>obtain⟨t',rfl⟩:=ry;exact PySem.EqMixed.ne_bool_str (b9 I q (by simp))
  | _=>exact absurd (show false=true from hs) Bool.false_ne_true
 | int i =>
  obtain⟨t,rfl⟩:=rx;cases y with
  | W3=>cases ry;exact PySem.EqNone.ne_int_none (b9 I q (by simp))
  | int j=>obtain⟨t',rfl⟩:=ry;exact ne_int (b9 I q (congrArg not FK))
  | str j=>obtain⟨t',rfl⟩:=ry;exact PySem.EqMixed.ne_int_str (b9 I q (by simp))
  | _=>exact absurd (show false=true from hs) Bool.false_ne_true
 | str i =>
  obtain⟨t,rfl⟩:=rx;cases y with
  | W3=>cases ry;exact PySem.EqNone.ne_str_none (b9 I q (by simp))
  | bl j=>cases ry;exact PySem.EqMixed.ne_str_bool (b9 I q (by simp))
  | int j=>obtain⟨t',rfl⟩:=ry;exact PySem.EqMixed.ne_str_int (b9 I q (by simp))
  | str j=>obtain⟨t',rfl⟩:=ry;exact ne_str (b9 I q (congrArg not FL))
  | _=>exact absurd (show false=true from hs) Bool.false_ne_true
 | byt i =>
  obtain⟨t,rfl⟩:=rx;cases y with
  | byt j=>obtain⟨t',rfl⟩:=ry;exact PySem.W.ne_bytes (b9 I q (congrArg not FJ))
  | _=>exact absurd (show false=true from hs) Bool.false_ne_true
 | _=>cases y<;>exact absurd (show false=true from hs) Bool.false_ne_true
theorem nA:iX X (compareOp .Lt) (KR fun i j=>.bl (decide (i < j))):=Mx fun _ _ _ _ _ _ _ q=>lt_int q
theorem BC:iX X (compareOp .LtE) (KR fun i j=>.bl (decide (i<=j))):=Mx fun _ _ _ _ _ _ _ q=>le_int q
theorem qK:iX X (compareOp .Gt) (KR fun i j=>.bl (decide (j < i))):=Mx fun _ _ _ _ _ _ _ q=>gt_int q
theorem Us:iX X (compareOp .GtE) (KR fun i j=>.bl (decide (j<=i))):=Mx fun _ _ _ _ _ _ _ q=>ge_int q
theorem QT:iX X (compareOp .Is) (fun x y H Q=>y=.W3/\Q (.bl (decide (x=.W3))) H):=by
 intro WY s σ H x y v u Q I rx ry h;obtain⟨rfl,q⟩:=h;cases ry;refine is_none_gen (b9 I q ?_);cases x<;>first
  | (cases rx;rfl)
  | (obtain⟨t,rfl⟩:=rx;rfl)
theorem Mz:iX X (compareOp .IsNot) (fun x y H Q=>y=.W3/\Q (.bl (!decide (x=.W3))) H):=by
 intro WY s σ H x y v u Q I rx ry h;obtain⟨rfl,q⟩:=h;cases ry;refine isnot_none_gen (b9 I q ?_);cases x<;>first
  | (cases rx;rfl)
  | (obtain⟨t,rfl⟩:=rx;rfl)
theorem iX.or{f:Value->Value->Sem Value}{r r':R2}(h:iX X f r)(h':iX X f r'):iX X f (fun x y H Q=>r x y H Q\/r' x y H Q):=by
 intro WY s σ H x y v u Q I rx ry q;rcases q with q|q
 ·exact h WY s σ H x y v u Q I rx ry q
 ·exact h' WY s σ H x y v u Q I rx ry q
theorem nomark(b:Expr){op:CmpOp}(h:op≠.In:=by decide)(h2:op≠.NotIn:=by decide):behindInMarks op b=false:=by
 have e1:(op==CmpOp.In)=false:=by cases op<;>first|rfl|exact absurd rfl h
 have e2:(op==CmpOp.NotIn)=false:=by cases op<;>first|rfl|exact absurd rfl h2
 cases b<;>simp[behindInMarks,e1,e2]
theorem iV{op:CmpOp}{r:R2}(ho:iX X (compareOp op) r)(ha:PE X a ta)(hb:PE X b tb)(hm:behindInMarks op b=false):PE X (.Compare a [op] [b] pos) (U7 r ta tb):=by
 intro WY s σ H Q I h;exact wpAny_Compare1 (Ox ha hb I h fun v u s2 x y H2 I2 rx ry q=>ho WY s2 σ H2 x y v u Q I2 rx ry q) hm
noncomputable def GA(t:TE):TT:=fun σ H Q=>t σ H fun x H'=>∃ k,x=.bl k/\Q k H'
theorem aK{op:CmpOp}{r:R2}(ho:iX X (compareOp op) r)(ha:PE X a ta)(hb:PE X b tb)(hm:behindInMarks op b=false):PT X (.Compare a [op] [b] pos) (GA (U7 r ta tb)):=by
 intro WY s σ H Q I h;refine wpAny_isTrue_Compare1 (thn (ha WY s σ H _ I h) fun v s1 ⟨x,H1,I1,r1,q1⟩=>thn (hb WY s1 σ H1 _ I1 q1) fun u s2 ⟨y,H2,I2,r2,q2⟩ =>
  thn (ho WY s2 σ H2 x y v u _ I2 r1 r2 q2) fun c s3 ⟨z,H3,I3,r3,k,e,q3⟩=>?_) hm
 subst e;cases r3;exact wpAny_truthy_bool ⟨H3,I3,q3⟩
noncomputable def C8(r r':R2)(ta tb tc:TE):TE:=fun σ H Q=>ta σ H fun x H1=>tb σ H1 fun y H2=>r x y H2 fun z H3=>∃ k,z=.bl k /\
 (if k=true then tc σ H3 fun w' H4=>r' y w' H4 Q else Q (.bl false) H3)
theorem Ak{op op':CmpOp}{r r':R2}(ho:iX X (compareOp op) r)(Xr:iX X (compareOp op') r')(ha:PE X a ta)(hb:PE X b tb)(hc:PE X c tc)
    (hm:lastMarks [op,op'] [b,c]=false:=by with_unfolding_all rfl):PE X (.Compare a [op,op'] [b,c] pos) (C8 r r' ta tb tc):=by
  intro WY s σ H Q I h;refine Compare_chain (thn (ha WY s σ H _ I h) fun v s1 ⟨x,H1,I1,r1,q1⟩=>chain_link (thn (hb WY s1 σ H1 _ I1 q1) fun u s2 ⟨y,H2,I2,r2,q2⟩ =>
    thn (ho WY s2 σ H2 x y v u _ I2 r1 r2 q2) fun d s3 ⟨z,H3,I3,r3,k,e,q3⟩=>?_)) hm
  subst e;cases r3;refine wpAny_truthy_bool ?_;cases k with
  | false=>exact ite_ff ⟨.bl false,H3,I3,rfl,q3⟩
  | true=>exact ite_tt (chain_last (thn (hc WY s3 σ H3 _ I3 q3) fun w' s4 ⟨z',H4,I4,r4,q4⟩=>Xr WY s4 σ H4 y z' u w' Q I4 r2 r4 q4))
theorem An{op op':CmpOp}{r r':R2}(ho:iX X (compareOp op) r)(Xr:iX X (compareOp op') r')(ha:PE X a ta)(hb:PE X b tb)(hc:PE X c tc)
    (hm:lastMarks [op,op'] [b,c]=false:=by with_unfolding_all rfl):PT X (.Compare a [op,op'] [b,c] pos) (GA (C8 r r' ta tb tc)):=by
  intro WY s σ H Q I h;refine isTrue_chain (thn (ha WY s σ H _ I h) fun v s1 ⟨x,H1,I1,r1,q1⟩=>test_link (thn (hb WY s1 σ H1 _ I1 q1) fun u s2 ⟨y,H2,I2,r2,q2⟩ =>
    thn (ho WY s2 σ H2 x y v u _ I2 r1 r2 q2) fun d s3 ⟨z,H3,I3,r3,k,e,q3⟩=>?_)) hm
  subst e;cases r3;refine wpAny_truthy_bool ?_;cases k with
  | false =>
    obtain⟨k',e',q'⟩:=q3;cases e';exact ite_ff ⟨H3,I3,q'⟩
  | true =>
    refine ite_tt (test_last (thn (hc WY s3 σ H3 _ I3 q3) fun w' s4 ⟨z',H4,I4,r4,q4⟩=>thn (Xr WY s4 σ H4 y z' u w' _ I4 r2 r4 q4) fun d' s5 ⟨z2,H5,I5,r5,k2,e2,q5⟩=>?_));subst e2;cases r5;exact wpAny_truthy_bool ⟨H5,I5,q5⟩
noncomputable def RO(K:q0B)(x:V)(H:Hp)(k:Bool):Prop :=
 match x with
 | .W3=>k=false
 | .bl b=>k=b
 | .int i=>k=(i !=0)
 | .str y=>y.length<=sizeLine/\k=((y.length:Int) !=0)
 | .byt y=>y.size<=sizeLine/\k=((y.size:Int) !=0)
 | .ref p=>(∃ xs,dZ K H p xs/\k = !xs.isEmpty)\/(∃ xs,hJ K H p xs/\k = !xs.isEmpty)\/∃ W0,H p=some (.dK W0)/\k = !W0.isEmpty
 | _=>False
theorem ES{κ:Type}{W0:List (κ×V)}{vs:List (κ×Value)}(r:KV W0 vs):(!vs.isEmpty) = !W0.isEmpty:=by
 cases r<;>rfl
theorem zD{xs:List V}{W2:List Value}(r:Vals xs W2):(!W2.toArray.isEmpty) = !xs.isEmpty:=by
 cases r<;>simp
theorem line63:(sizeLine:Nat) < 2 ^ 63:=by rw[sizeLine_eq];decide
theorem Ru:VN X (fun x H Q=>∃ k,RO X.K x H k/\Q k H):=by
 intro WY s σ H x v Q I rx h;obtain⟨k,e,q⟩:=h;have hl:=line63;have hs:sizeLine=16777216:=sizeLine_eq;cases x with
 | W3 =>
  cases rx;have e':k=false:=e;subst e';exact truthy_none ⟨H,I,q⟩
 | bl b =>
  cases rx;have e':k=b:=e;subst e';exact wpAny_truthy_bool ⟨H,I,q⟩
 | int i =>
  obtain⟨t,rfl⟩:=rx;have e':k=(i !=0):=e;subst e';exact PySem.P.truthy_int ⟨H,I,q⟩
 | str y =>
  obtain⟨t,rfl⟩:=rx;obtain⟨hy,e'⟩:y.length<=sizeLine/\k=((y.length:Int) !=0):=e;subst e';exact PySem.P.truthy_str (by omega) ⟨H,I.tok _,q⟩
 | byt y =>
  obtain⟨t,rfl⟩:=rx;obtain⟨hy,e'⟩:y.size<=sizeLine/\k=((y.size:Int) !=0):=e;subst e';exact PySem.W.truthy_bytes (by omega) ⟨H,I.tok _,q⟩
 | ref p =>
  cases rx;have e':(∃ xs,dZ X.K H p xs/\k = !xs.isEmpty)\/(∃ xs,hJ X.K H p xs/\k = !xs.isEmpty)\/∃ W0,H p=some (.dK W0)/\k = !W0.isEmpty:=e;rcases e' with⟨xs,hx,e'⟩|⟨xs,hx,e'⟩|⟨W0,hx,e'⟩
  ·subst e';obtain⟨W2,r,pl,hz⟩:=I.list hx;have hlen:=r.length;exact wpAny_truthy_list pl.isList (by simp only[List.size_toArray];omega) ⟨H,I.tok _,by rw[zD r];exact q⟩
  ·subst e';obtain⟨W2,r,pl,hz⟩:=I.tuple hx;have hlen:=r.length;exact truthy_tuple pl (by simp only[List.size_toArray];omega) ⟨H,I.tok _,by rw[zD r];exact q⟩
  ·subst e';obtain⟨hz,hS,vs,r,m⟩:W0.length<=sizeLine/\(p==sysModules)=false/\∃ vs,KV W0 vs/\s.heap.DictOf (gE X.prog X.w) p vs:=I.W5 p _ hx;have hlen:W0.length=vs.length:=Paired.length r;exact wpAny_truthy_dict hS m (by omega) ⟨H,I.tok _,by rw[ES r];exact q⟩
 | _=>exact(show False from e).elim
theorem Ff:iX X (binaryOp .Add) (fun x y H Q=>∃ i j,x=.str i/\y=.str j/\i.length+j.length<=sizeLine/\Q (.str (i++j)) H):=by
 intro WY s σ H x y v u Q I rx ry h;obtain⟨i,j,rfl,rfl,hz,q⟩:=h;obtain⟨t,rfl⟩:=rx;obtain⟨t',rfl⟩:=ry;exact add_str (fun t' tk=>⟨.str (i++j),H,I.tok _,⟨_,rfl⟩,q⟩) hz
theorem vals1{x:V}{us:List Value}(r:Vals [x] us):∃ u,us=[u]/\cA x u:=by
 cases r with
 | cons r1 r2=>cases r2;exact⟨_,rfl,r1⟩
theorem vals2{x y:V}{us:List Value}(r:Vals [x,y] us):∃ u w',us=[u,w']/\cA x u/\cA y w':=by
 cases r with
 | cons r1 r2 =>
  cases r2 with
  | cons r3 r4=>cases r4;exact⟨_,_,rfl,r1,r3⟩
theorem Im:eR X (.builtin "abs") (fun xs H Q=>∃ i,xs=[.int i]/\Q (.int (if i < 0 then -i else i)) H):=by
 intro WY s σ H xs us Q I r h;obtain⟨i,rfl,q⟩:=h;obtain⟨u,rfl,t,rfl⟩:=vals1 r;exact call_abs_int fun u tk=>⟨.int (if i < 0 then -i else i),H,I.tok _,⟨_,rfl⟩,q⟩
theorem GQ(hc:X.calm=true):eR X (.builtin "max") (fun xs H Q=>∃ i j,xs=[.int i,.int j]/\Q (.int (if j > i then j else i)) H):=by
 intro WY s σ H xs us Q I r h;obtain⟨i,j,rfl,q⟩:=h;obtain⟨u,w',rfl,⟨t,rfl⟩,⟨t',rfl⟩⟩:=vals2 r;refine max_two_ints (I.ok.hd hc) fun h' tk k=>⟨_,H,I.kept k,?_,q⟩;by_cases hj:j > i
 ·rw[if_pos hj,if_pos hj];exact⟨_,rfl⟩
 ·rw[if_neg hj,if_neg hj];exact⟨_,rfl⟩
theorem GP:eR X (.type "int") (fun xs H Q=>(∃ i,xs=[.int i]/\Q (.int i) H)\/∃ k,xs=[.bl k]/\Q (.int (if k then 1 else 0)) H):=by
 intro WY s σ H xs us Q I r h;rcases h with⟨i,rfl,q⟩|⟨k,rfl,q⟩
 ·obtain⟨u,rfl,t,rfl⟩:=vals1 r;exact call_int_int ⟨.int i,H,I,⟨_,rfl⟩,q⟩
 ·obtain⟨u,rfl,r1⟩:=vals1 r;cases r1;exact call_int_bool ⟨.int (if k then 1 else 0),H,I.tok _,⟨_,rfl⟩,q⟩
theorem B7:eR X (.type "str") (fun xs H Q=>∃ i,xs=[.int i]/\i.natAbs.log2 < 1920/\Q (.str (toString i)) H):=by
 intro WY s σ H xs us Q I r h;obtain⟨i,rfl,hz,q⟩:=h;obtain⟨u,rfl,t,rfl⟩:=vals1 r;exact PySem.P.str_of_int hz ⟨.str _,H,I.tok _,⟨_,rfl⟩,q⟩
noncomputable def VM(K:q0B)(x:V)(H:Hp)(n:Nat):Prop :=
 match x with
 | .str y=>y.length<=sizeLine/\n=y.length
 | .byt y=>y.size<=sizeLine/\n=y.size
 | .ref p=>(∃ xs,dZ K H p xs/\n=xs.length)\/∃ xs,hJ K H p xs/\n=xs.length
 | _=>False
theorem yE:eR X (.builtin "len") (fun xs H Q=>∃ x n,xs=[x]/\VM X.K x H n/\Q (.int n) H):=by
 intro WY s σ H xs us Q I r h;obtain⟨x,n,rfl,e,q⟩:=h;obtain⟨u,rfl,rx⟩:=vals1 r;have hl:=line63;have hs:sizeLine=16777216:=sizeLine_eq;cases x with
 | str y =>
  obtain⟨t,rfl⟩:=rx;obtain⟨hy,e'⟩:y.length<=sizeLine/\n=y.length:=e;subst e';exact len_str (by omega) ⟨.int _,H,I.tok _,⟨_,rfl⟩,q⟩
 | byt y =>
  obtain⟨t,rfl⟩:=rx;obtain⟨hy,e'⟩:y.size<=sizeLine/\n=y.size:=e;subst e';exact PySem.W.len_bytes (by omega) ⟨.int _,H,I.tok _,⟨_,rfl⟩,q⟩
 | ref p =>
  cases rx;have e':(∃ xs,dZ X.K H p xs/\n=xs.length)\/∃ xs,hJ X.K H p xs/\n=xs.length:=e;rcases e' with⟨xs,hx,e'⟩|⟨xs,hx,e'⟩
  ·subst e';obtain⟨W2,r',pl,hz⟩:=I.list hx;have hlen:=r'.length;exact Calls.call_len_list pl.isList (by simp only[List.size_toArray];omega) ⟨.int xs.length,H,I.tok _,⟨_,by simp only[List.size_toArray];rw[hlen]⟩,q⟩
  ·subst e';obtain⟨W2,r',pl,hz⟩:=I.tuple hx;have hlen:=r'.length;exact len_tuple pl (by simp only[List.size_toArray];omega) ⟨.int xs.length,H,I.tok _,⟨_,by simp only[List.size_toArray];rw[hlen]⟩,q⟩
 | _=>exact(show False from e).elim
end
structure EC(h:Heap)(x dx C:Addr)(mA:q0C):Prop where
 obj:h.get? x=some (PySem.W.instObj C dx)
 ns:h.Ns1 dx mA
 ne:dx≠x
theorem Hj{h:Heap}{dx:Addr}{mA:q0C}(n:h.Ns1 dx mA):∃ od,h.get? dx=some od/\∀ name,PySem.W.lookIn name od=some (mA name):=by
 obtain⟨o,es,ep,ho,hd,hk,_,hm⟩:=n;refine⟨o,ho,fun name=>?_⟩;have e:=hm name;unfold nsFind findBy at e;rw[<- Array.find?_toList] at e;unfold PySem.W.lookIn;rw[hd];dsimp only;split
 ·rename_i y q
  rw[q] at e;exact congrArg some e
 ·rename_i q
  rw[q] at e;have a:es.toList.any (·.refKey)=false:=by
   rw[List.any_eq_false];intro y hy;obtain⟨z,t,ab7⟩:=hk y (Array.mem_toList_iff.mp hy);simp[DictEntry.refKey,ab7]
  have a':¬ es.toList.any (·.refKey)=true:=by rw[a];exact Bool.false_ne_true
  rw[if_neg a'];exact congrArg some e
theorem EC.look{h:Heap}{x dx C:Addr}{mA:q0C}(I:EC h x dx C mA):∃ od,PySem.W.InstAt h x (PySem.W.instObj C dx) C (some od)/\∀ name,PySem.W.lookIn name od=some (mA name) :=
 let ⟨od,ho,hl⟩:=Hj I.ns
 ⟨od,⟨I.obj,rfl,rfl,ho⟩,hl⟩
section
variable {prog:Program} {w:World} {A:Around} {E:q0A} {s:Shared} {K:q0B} {x dx C f:Addr} {mA:q0C} {name:Str} {v:Value}
theorem Mb{expr:Bool}{Q:q0A}(X:K.In s.heap)(I:EC s.heap x dx C mA)(hg:PySem.W.plainGet K C name=true)(hh:PySem.W.hasDictIn K C=true)
    (ha:PySem.W.findIn K (.ref C) name=some none) (hv:mA name=some v) (hv':PySem.W.handedIn v=true) (h:Q v {s with toks:=s.toks+1}) :
    wpAny (model prog w) A (getAttr (.ref x) name expr) Q E s:=by
  obtain⟨od,J,hl⟩:=I.look;exact PySem.W.get_value X J (PySem.W.plainGet_of hg).1 (PySem.W.findObj_own hh ha rfl (by rw[hl,hv])) hv' h
theorem Jk{pl:Sem Bool}{Q:Value×List Value->Shared->Prop}(X:K.In s.heap)(I:EC s.heap x dx C mA)(hg:PySem.W.plainGet K C name=true)
    (hf:PySem.W.findIn K (.ref C) name=some (some (.ref f))) (ht:PySem.W.isFn K (.ref f)=true) (hv:mA name=none) (h:Q (.ref f,[.ref x]) s) :
    wpAny (model prog w) A (getMethod (.ref x) name pl) Q E s:=by
  obtain⟨od,J,hl⟩:=I.look;exact PySem.W.method_fn X J (PySem.W.plainGet_of hg).1 (PySem.W.plainGet_of hg).2 hf (beq_iff_eq.mp ht) (by show(PySem.W.lookIn name od).map (·.isSome)=some false;rw[hl,hv];rfl) h
theorem MQ{ns:List Str}{Q:Unit->Shared->Prop}(X:K.In s.heap)(I:EC s.heap x dx C mA)
    (hs:PySem.W.findIn K (.ref C) "__setattr__"=some (some (.builtin "object.__setattr__"))) (hp:PySem.W.plainOver K C=true) (ht:PySem.W.takerIn K C name=some none) (hh:PySem.W.hasDictIn K C=true)
    (hw:PySem.Within mA ns) (hsz:ns.length<=sizeLine)
    (h:∀ h',EC h' x dx C (fun y=>if y=name then some v else mA y)->Heap.SameBut dx s.heap h'->Q () {s with heap:=h',toks:=s.toks+2}) :
    wpAny (model prog w) A (setAttr (.ref x) name v) Q E s:=by
  obtain⟨od,J,hl⟩:=I.look;refine PySem.W.set_plain X J hs (PySem.W.osa_open (s:={s with toks:=s.toks+1}) (r:=none) X J hp ht fun b=>?_);obtain⟨cd,hc,hd'⟩:=PySem.W.any_some hh;have hx:s.heap.get? x=some ⟨.ref C,some dx,.plain,#[]⟩:=I.obj;refine wpAny_bind (wpAny_pure (wpAny_bind (wpAny_bind (wpAny_loadPart hx (wpAny_bind (PySem.W.Looks.here (s:={s with toks:=s.toks+1}) (PySem.W.looks_clsIn X hc) ?_))))));rw[hd'];refine wpAny_pure (a:=some dx) (wpAny_bind (wpAny_pure (wpAny_bind ?_)));refine wpAny_nsSet1 (s:={s with toks:=s.toks+1}) I.ns fun h' Y9 Yk=>?_;obtain⟨oD,esD,epD,hoD,hdD,hcD⟩:=Y9.count (PySem.Within.cons name v hw);refine wpAny_bind (wpAny_lookBehind hoD (by rw[hdD];exact pastItsLine_dict (Nat.le_trans hcD (by rw[List.length_cons];omega))) ?_);exact wpAny_pure (h _ ⟨(Yk.2 _ (Ne.symm I.ne)).trans I.obj,Y9,I.ne⟩ Yk)
theorem Jz{R:Result->Shared->Prop}{vs:List Value}{kw:List (Str×Value)}(X:K.In s.heap)(hm:PySem.W.makesIn K C=true)
    (hi:PySem.W.findIn K (.ref C) "__init__"=some (some (.ref f))) (hf:PySem.W.typeIn K (.ref f)=some (.type "function"))
    (h:codeAny (model prog w) (A.under (.builtin "type.__call__" ⟨.ref C::vs,kw⟩)) (.call (.ref f) ⟨.ref (s.heap.objs.size+1)::vs,kw⟩) (PySem.W.InitBack (s.heap.objs.size+1) R)
      {s with heap:=(s.heap.push PySem.W.emptyDict).push (PySem.W.instObj C s.heap.objs.size)}) :
    codeAny (model prog w) A (.call (.ref C) ⟨vs,kw⟩) R s:=by
  obtain⟨hh,g,d,t,os⟩:=s;exact PySem.W.make_core (PySem.W.makes_of X hm) (PySem.W.looks_findIn X hi) (fun self=>PySem.W.bind_fn X self hf) (.inl rfl) h
end
noncomputable def jR(f:Str)(v:V):List (Str×V)->List (Str×V)
 | []=>[(f,v)]
 | (g,x)::r=>if g=f then (g,v)::r else (g,x)::jR f v r
theorem wD(f g:Str)(v:V):∀ fs:List (Str×V),(jR f v fs).lookup g=if g=f then some v else fs.lookup g
 | []=>by
  show List.lookup g [(f,v)]=_;by_cases h:g=f
  ·have hb:(g==f)=true:=beq_iff_eq.mpr h;simp only[List.lookup,hb,if_pos h]
  ·have hb:(g==f)=false:=beq_eq_false_iff_ne.mpr h;simp only[List.lookup,hb,if_neg h]
 | (k,x)::r=>by
  have ih:=wD f g v r;rw[show jR f v ((k,x)::r)=(if k=f then (k,v)::r else (k,x)::jR f v r) from rfl];by_cases hk:k=f
  ·rw[if_pos hk];by_cases h:g=k
   ·have hb:(g==k)=true:=beq_iff_eq.mpr h;simp only[List.lookup,hb,if_pos (h.trans hk)]
   ·have hb:(g==k)=false:=beq_eq_false_iff_ne.mpr h;simp only[List.lookup,hb,if_neg (fun e:g=f=>h (e.trans hk.symm))]
  ·rw[if_neg hk];by_cases h:g=k
   ·have hb:(g==k)=true:=beq_iff_eq.mpr h;simp only[List.lookup,hb,if_neg (fun e:g=f=>hk (h.symm.trans e))]
   ·have hb:(g==k)=false:=beq_eq_false_iff_ne.mpr h;simp only[List.lookup,hb];exact ih
theorem uS(f:Str)(v:V):∀ fs:List (Str×V),f∈(jR f v fs).map (·.1)/\∀ g,g∈fs.map (·.1)->g∈(jR f v fs).map (·.1)
 | []=>⟨by simp[jR],fun g h=>by simp at h⟩
 | (k,x)::r=>by
  obtain⟨i1,i2⟩:=uS f v r;rw[show jR f v ((k,x)::r)=(if k=f then (k,v)::r else (k,x)::jR f v r) from rfl];by_cases hk:k=f
  ·rw[if_pos hk];subst hk;exact⟨by simp,fun g h=>by simpa using h⟩
  ·rw[if_neg hk];refine⟨?_,fun g h=>?_⟩
   ·rw[List.map_cons];exact List.mem_cons_of_mem _ i1
   ·rw[List.map_cons] at h ⊢;rcases List.mem_cons.mp h with e|e
    ·exact List.mem_cons.mpr (.inl e)
    ·exact List.mem_cons_of_mem _ (i2 g e)
theorem wC(f:Str)(v:V):∀ fs:List (Str×V),(jR f v fs).length<=fs.length+1
 | []=>by simp[jR]
 | (k,x)::r=>by
  have ih:=wC f v r;rw[show jR f v ((k,x)::r)=(if k=f then (k,v)::r else (k,x)::jR f v r) from rfl];by_cases hk:k=f
  ·rw[if_pos hk,List.length_cons,List.length_cons];omega
  ·rw[if_neg hk,List.length_cons,List.length_cons];omega
theorem p9.some_of{v:V}{o:Option Value}(r:p9 (some v) o):∃ u,o=some u/\cA v u:=by
 cases o with
 | none=>exact(show False from r).elim
 | some u=>exact⟨u,rfl,r⟩
theorem p9.none_of{o:Option Value}(r:p9 none o):o=none:=by
 cases o with
 | none=>rfl
 | some u=>exact(show False from r).elim
theorem Hc{v:V}{u:Value}(r:cA v u):PySem.W.handedIn u=true:=by
 cases v with
 | W3=>cases (show u=Value.none from r);rfl
 | bl b=>cases (show u=Value.bool b from r);rfl
 | int i=>obtain⟨t,e⟩:=(show ∃ t,u=Value.int i t from r);cases e;rfl
 | str x=>obtain⟨t,e⟩:=(show ∃ t,u=Value.str x t from r);cases e;rfl
 | byt b=>obtain⟨t,e⟩:=(show ∃ t,u=Value.bytes b t from r);cases e;rfl
 | flt b=>obtain⟨t,e⟩:=(show ∃ t,u=Value.float b t from r);cases e;rfl
 | ref a=>cases (show u=Value.ref a from r);rfl
 | ty n=>cases (show u=Value.type n from r);rfl
section
variable {P:Program} {w:World} {H H':Hp} {h h':Heap} {a C dx:Addr} {fs XY:List (Str×V)}
theorem Cm(W5:HOk P w H h)(e:H a=some (.ins C dx fs)):∃ mA,EC h a dx C mA/\(∀ f,p9 (fs.lookup f) (mA f))/\PySem.Within mA (fs.map (·.1))/\fs.length<=1000/\H dx=some (.own a):=by
 obtain⟨d,z,ne,ob,mA,n,r,q⟩:=(show fT P w H h a (.ins C dx fs) from W5 a _ e);exact⟨mA,⟨ob,n,ne⟩,r,q,z,d⟩
end
structure Cls(K:q0B)(C:Addr):Prop where
 pg:PySem.W.plainGet K C Str.empty=true
 hd:PySem.W.hasDictIn K C=true
 po:PySem.W.plainOver K C=true
 sa:PySem.W.findIn K (.ref C) "__setattr__"=some (some (.builtin "object.__setattr__"))
theorem Cls.get{K:q0B}{C:Addr}(c:Cls K C)(f:Str):PySem.W.plainGet K C f=true:=c.pg
noncomputable def kQ(K:q0B)(C:Addr)(f:Str):Prop:=PySem.W.findIn K (.ref C) f=some none
theorem kQ.Vf{K:q0B}{C:Addr}{f:Str}(n:kQ K C f):PySem.W.takerIn K C f=some none:=by
 unfold PySem.W.takerIn;rw[show PySem.W.findIn K (.ref C) f=some none from n];rfl
structure Meth(K:q0B)(C:Addr)(m:Str)(f:Addr):Prop where
 at_:PySem.W.findIn K (.ref C) m=some (some (.ref f))
 fn:PySem.W.isFn K (.ref f)=true
 kp:PySem.W.keepIn K (.ref f)=true
section
variable {X:Cx} {WY:List (Addr×Obj)} {σ:St} {H:Hp} {s:Shared} {a C dx:Addr} {fs:List (Str×V)} {f:Str} {v:V} {A:Around} {E:q0A}
theorem y8{b:Bool}{Q:q0A}(I:W1 X WY σ H s)(e:H a=some (.ins C dx fs))(c:Cls X.K C)(n:kQ X.K C f)(l:fs.lookup f=some v)
    (h:∀ u s',W1 X WY σ H s'->cA v u->Q u s'):wpAny (model X.prog X.w) A (getAttr (.ref a) f b) Q E s:=by
  obtain⟨mA,O,r,_,_,_⟩:=Cm I.W5 e;obtain⟨u,hu,ru⟩:=p9.some_of (v:=v) (o:=mA f) (by rw[<- l];exact r f);exact Mb I.kIn O (c.get f) c.hd n hu (Hc ru) (h u _ (I.tok _) ru)
theorem y9{m:Str}{g:Addr}{pl:Sem Bool}{Q:Value×List Value->Shared->Prop}(I:W1 X WY σ H s)(e:H a=some (.ins C dx fs))(c:Cls X.K C)(k:Meth X.K C m g)(l:fs.lookup m=none)
    (h:Q (.ref g,[.ref a]) s):wpAny (model X.prog X.w) A (getMethod (.ref a) m pl) Q E s:=by
  obtain⟨mA,O,r,_,_,_⟩:=Cm I.W5 e;have hn:mA m=none:=p9.none_of (by rw[<- l];exact r m);exact Jk I.kIn O (c.get m) k.at_ k.fn hn h
theorem Av{y:V}{u:Value}{Q:Unit->Shared->Prop}(I:W1 X WY σ H s)(e:H a=some (.ins C dx fs))(c:Cls X.K C)(n:kQ X.K C f)(hl:fs.length < 1000)(ry:cA y u)
    (h:∀ s',W1 X WY σ (WZ H a (.ins C dx (jR f y fs))) s'->Q () s'):wpAny (model X.prog X.w) A (setAttr (.ref a) f u) Q E s:=by
  obtain⟨mA,O,r,wi,_,ho⟩:=Cm I.W5 e;have hz:(fs.map (·.1)).length<=sizeLine:=by rw[List.length_map,sizeLine_eq];omega
  refine MQ I.kIn O c.sa c.po n.Vf c.hd wi hz fun h' O' sb=>h _ ?_;have hd:∃ o,h'.get? dx=some o:=let ⟨o,_,_,e',_⟩:=O'.ns;⟨o,e'⟩;refine I.write (x:=a) (e:=dx) (by rw[e];exact True.intro) (.inr ho) (fun b q hb z=>(sb.2 b hb).trans z) hd ?_;refine⟨by rw[aV O.ne];exact ho,?_,O.ne,O'.obj,_,O'.ns,fun g=>?_,fun g hg=>?_⟩
  · have:=wC f y fs;omega
  · show p9 ((jR f y fs).lookup g) (if g=f then some u else mA g);rw[wD];by_cases q:g=f
    · rw[if_pos q,if_pos q];exact ry
    · rw[if_neg q,if_neg q];exact r g
  · by_cases q:g=f
    · rw[q];exact(uS f y fs).1
    · refine(uS f y fs).2 g (wi g fun z=>hg ?_);show(if g=f then some u else mA g)=none;rw[if_neg q];exact z
theorem W1.made(I:W1 X WY σ H s):W1 X WY σ (WZ (WZ H s.heap.objs.size (.own (s.heap.objs.size+1))) (s.heap.objs.size+1) (.ins C s.heap.objs.size []))
    {s with heap:=(s.heap.push PySem.W.emptyDict).push (PySem.W.instObj C s.heap.objs.size)}:=by
  have e1:(s.heap.push PySem.W.emptyDict).get? s.heap.objs.size=some PySem.W.emptyDict:=Heap.get?_push_size s.heap rfl;have e2:((s.heap.push PySem.W.emptyDict).push (PySem.W.instObj C s.heap.objs.size)).get? (s.heap.objs.size+1)=some (PySem.W.instObj C s.heap.objs.size):=by
    have:=Heap.get?_push_size (s.heap.push PySem.W.emptyDict) (o:=PySem.W.instObj C s.heap.objs.size) rfl
    rwa [Heap.size_push] at this
  have e3:(s.heap.push PySem.W.emptyDict).Ns s.heap.objs.size (fun _=>none):=⟨PySem.W.emptyDict,#[],_,e1,rfl,(fun e he=>absurd he (by simp)),fun _=>rfl⟩;have I1:=I.laid (a:=s.heap.objs.size) (o:=.own (s.heap.objs.size+1)) (h':=s.heap.push PySem.W.emptyDict) (t':=s.toks) (fun b u q=>Heap.get?_push_of_some _ q) (Nat.le_refl _) ⟨_,e1⟩;refine I1.laid (a:=s.heap.objs.size+1) (o:=.ins C s.heap.objs.size []) (t':=s.toks) (fun b u q=>Heap.get?_push_of_some _ q) (Nat.le_of_eq (Heap.size_push _ _)) ?_;have ne:s.heap.objs.size≠s.heap.objs.size+1:=Nat.ne_of_lt (Nat.lt_succ_self _);refine⟨by rw[aV ne,aE],Nat.zero_le _,ne,e2,fun _=>none,(Heap.Ns1.of_empty e3).at fun o q=>Heap.get?_push_of_some _ q,fun _=>True.intro,fun y hy=>absurd rfl hy⟩
theorem Le{prog:Program}{w:World}{env:Env}{e:Expr}{f:Str}{pos:Pos}{s:Shared}{Q:q0A}(hb:attributeBase e f env (eval e env)=eval e env)
    (h:wpAny (model prog w) A (eval e env) (fun o s₁=>wpAny (model prog w) A (getAttr o f true) Q E s₁) E s):wpAny (model prog w) A (eval (.Attribute e f pos) env) Q E s :=
  Attribute_any_ h (by rw[arm_eval_Attribute,hb])
end
noncomputable def VL(X:Cx)(op:Operator)(rd:V->V->Hp->VK->Prop):Prop :=
 ∀(WY:List (Addr×Obj)) (s:Shared) (σ:St) (H:Hp) (x y:V) (u v:Value) (Q:VK),W1 X WY σ H s->cA x u->cA y v->rd x y H Q->wpAny (model X.prog X.w) X.A (inplaceOp op u v) (EP X WY σ Q) X.xe s
section
variable {X:Cx} {o e value:Expr} {f:Str} {pos pos' aaI:Pos} {ta tv:TE}
noncomputable def Wr:V->V->Hp->VK->Prop:=fun x y H Q=>∃ i j,x=.int i/\y=.int j/\Q (.int (i+j)) H
theorem Qx:VL X .Add Wr:=by
 rintro WY s σ H x y u v Q I rx ry ⟨i,j,rfl,rfl,q⟩;obtain⟨t,rfl⟩:=(show ∃ t,u=Value.int i t from rx);obtain⟨t',rfl⟩:=(show ∃ t',v=Value.int j t' from ry);exact PyProof.Rows.iadd_int ⟨.int (i+j),H,I.tok _,⟨_,rfl⟩,q⟩
end
section
variable {X:Cx} {WY:List (Addr×Obj)} {σ:St} {H:Hp} {s:Shared} {A:Around} {E:q0A} {Q:q0A} {c:Value} {b:Bool}
end
structure Room(k:Nat)(A:Around):Prop where
 hd:A.handled=none
 dp:A.depth+3 * k+5 < recursionLimit
 un:A.units+16 * k+200 < cLine
theorem Room.mono{j k:Nat}{A:Around}(r:Room k A)(h:j<=k):Room j A:=⟨r.hd,by have:=r.dp;omega,by have:=r.un;omega⟩
theorem Room.deeper{k:Nat}{A:Around}(r:Room (k+1) A)(env:Env):Room k (A.deeper env) :=
 ⟨r.hd,by have:=r.dp;show A.depth+1+3 * k+5 < _;omega,by have:=r.un;show A.units+3+16 * k+200 < _;omega⟩
theorem Room.in1{k:Nat}{A:Around}(r:Room (k+1) A):Room k A.in1 :=
 ⟨r.hd,by have:=r.dp;show A.depth+3 * k+5 < _;omega,by have:=r.un;show A.units+1+16 * k+200 < _;omega⟩
theorem EW{A:Around}{C:Addr}{us:List Value}{kw:List (Str×Value)}:(A.under (.builtin "type.__call__" ⟨.ref C::us,kw⟩)).depth=A.depth+1:=by
 first|rfl|simp[Around.under,Code.weight,Code.isCreation,Code.isGuard,Code.isCaller,Code.frames,Code.isFrame,guardIds]
theorem EX{A:Around}{C:Addr}{us:List Value}{kw:List (Str×Value)}:(A.under (.builtin "type.__call__" ⟨.ref C::us,kw⟩)).units=A.units+1:=by
 first|rfl|simp[Around.under,Code.cUnits,Code.frames,Code.isFrame]
theorem Room.make{k:Nat}{A:Around}(r:Room (k+1) A)(C:Addr)(us:List Value)(kw:List (Str×Value)):Room k (A.under (.builtin "type.__call__" ⟨.ref C::us,kw⟩)) :=
 ⟨r.hd,by have:=r.dp;rw[EW];omega,by have:=r.un;rw[EX];omega⟩
theorem Room.depth{k:Nat}{A:Around}(r:Room k A):A.depth < recursionLimit:=by have:=r.dp;omega
theorem Room.units{k:Nat}{A:Around}(r:Room k A):A.units+64 < cLine:=by have:=r.un;omega
noncomputable def HI:TA:=fun _ H Q=>Q [] H
noncomputable def Ez(ta:TE)(tr:TA):TA:=fun σ H Q=>ta σ H fun x H1=>tr σ H1 fun xs H2=>Q (x::xs) H2
section
variable {X:Cx} {e:Expr} {es:List Expr} {te:TE} {t:TA} {pos:Pos}
theorem aB:PA X [] HI:=fun _ _ _ _ H Q I h=>Calls.spliced_nil ⟨[],H,I,.nil,h⟩
theorem Gh(ha:PE X e te)(hr:PA X es t)(hs:starEach (e::es) X.env=(false,eval e X.env)::starEach es X.env:=by rfl):PA X (e::es) (Ez te t):=by
 intro pos WY s σ H Q I h;rw[hs];show wpAny _ _ (spliced ((false,eval e X.env)::backTo pos (starEach es X.env))) _ _ s;refine Calls.spliced_cons (thn (ha WY s σ H _ I h) fun u s1 ⟨x,H1,I1,r1,q1⟩=>?_);exact thn (hr pos WY s1 σ H1 _ I1 q1) fun us s2 ⟨xs,H2,I2,r2,q2⟩=>⟨x::xs,H2,I2,.cons r1 r2,q2⟩
noncomputable def Vc(t:TA):TE:=fun σ H Q=>t σ H fun xs H1=>xs.length<=sizeLine/\∀ p,H1 p=none->Q (.ref p) (WZ H1 p (.tup xs))
noncomputable def U5(t:TA):TE:=fun σ H Q=>t σ H fun xs H1=>xs.length<=sizeLine/\∀ p,H1 p=none->Q (.ref p) (WZ H1 p (.lst xs))
theorem bA{x1}(h:PA X es t):PE X (.Tuple es x1 pos) (Vc t):=by
 intro WY s σ H Q I hq;refine wpAny_Tuple_spliced (thn (h pos WY s σ H _ I hq) fun us s1 ⟨xs,H1,I1,r,z,q⟩=>⟨by rw[<- r.length];exact z,?_⟩);have hf:H1 s1.heap.objs.size=none:=I1.W5.fresh (Nat.le_refl _);refine⟨.ref s1.heap.objs.size,WZ H1 s1.heap.objs.size (.tup xs),I1.laid (t':=s1.toks) (fun b u e=>Heap.get?_push_of_some _ e) (Nat.le_refl _) ?_,rfl,q _ hf⟩;exact⟨z,us,r,⟨_,Heap.get?_push_size _ rfl,rfl,_,rfl⟩⟩
theorem bF(h:PA X es t):PE X (.List es pos) (U5 t):=by
 intro WY s σ H Q I hq;refine wpAny_List_spliced (thn (h pos WY s σ H _ I hq) fun us s1 ⟨xs,H1,I1,r,z,q⟩=>⟨by rw[<- r.length];exact z,?_⟩);have hf:H1 s1.heap.objs.size=none:=I1.W5.fresh (Nat.le_refl _);refine⟨.ref s1.heap.objs.size,WZ H1 s1.heap.objs.size (.lst xs),I1.laid (t':=s1.toks) (fun b u e=>Heap.get?_push_of_some _ e) (Nat.le_refl _) ?_,rfl,q _ hf⟩;exact⟨z,us,0,r,Heap.get?_push_size _ rfl⟩
end
noncomputable abbrev Sp:=List V->Hp->VK->XK->Prop
noncomputable abbrev CXT:=List Env->Hp->Shared->XK->Value->Shared->Prop
structure Env0(P:Program)(w:World)(K:q0B)(mg:q0C)(base:Heap)(A:Around)(outer:List Env)(s:Shared)(H:Hp):Prop where
 frames:A.frames=some outer
 mod:Mod K mg base
 bs:∀ b o,base.get? b=some o->s.heap.get? b=some o/\H b=none
 bsz:base.objs.size<=s.heap.objs.size
 qD:s.heap.FunFrames base outer
 frf:∀ b∈frs outer,H b=none
 W5:HOk P w H s.heap
 bare:AllBare s.gens
noncomputable def CE(outer:List Env)(P:Program)(w:World)(H:Hp)(s:Shared)(Q:VK)(u:Value)(s':Shared):Prop :=
 ∃ v H',s'.os=s.os/\AllBare s'.gens/\Un (frs outer) [] H H' s.heap s'.heap/\HOk P w H' s'.heap/\cA v u/\Q v H'
noncomputable def CR(CX:CXT)(outer:List Env)(P:Program)(w:World)(H:Hp)(s:Shared)(Q:VK)(E:XK)(r:Result)(s':Shared):Prop :=
 match r with
 | .ok (.ret u)=>CE outer P w H s Q u s'
 | .ok _=>False
 | .error e=>CX outer H s E e s'
structure bR(P:Program)(w:World)(K:q0B)(mg:q0C)(base:Heap)(CX:CXT)(k:Nat)(f:Addr)(fd:FuncData)(ps:List Str)(sp:Sp):Prop where
 len:∀ vs H Q E,sp vs H Q E->vs.length=ps.length
 run:∀(A:Around) (outer:List Env) (s:Shared) (H:Hp) (args:Args) (us:List Value) (vs:List V) (Q:VK) (E:XK),Room k A->Env0 P w K mg base A outer s H->BindsTo s fd args (ps.zip us)->Vals vs us->sp vs H Q E ->
  codeAny (model P w) A (.call (.ref f) args) (CR CX outer P w H s Q E) s
theorem bR.mono{P:Program}{w:World}{K:q0B}{mg:q0C}{base:Heap}{CX:CXT}{j k:Nat}{f:Addr}{fd:FuncData}{ps:List Str}{sp:Sp}(F:bR P w K mg base CX j f fd ps sp)(h:j<=k) :
    bR P w K mg base CX k f fd ps sp:=⟨F.len,fun A outer s H args us vs Q E hr=>F.run A outer s H args us vs Q E (hr.mono h)⟩
theorem bR.imp{P:Program}{w:World}{K:q0B}{mg:q0C}{base:Heap}{CX:CXT}{k:Nat}{f:Addr}{fd:FuncData}{ps:List Str}{sp sp':Sp}(F:bR P w K mg base CX k f fd ps sp)
    (h:∀ vs H Q E,sp' vs H Q E->sp vs H Q E):bR P w K mg base CX k f fd ps sp' :=
  ⟨fun vs H Q E q=>F.len vs H Q E (h _ _ _ _ q),fun A outer s H args us vs Q E hr he hb hv hs=>F.run A outer s H args us vs Q E hr he hb hv (h _ _ _ _ hs)⟩
theorem Env0.make{P:Program}{w:World}{K:q0B}{mg:q0C}{base:Heap}{A:Around}{outer:List Env}{s:Shared}{H:Hp}(e:Env0 P w K mg base A outer s H)(C:Addr)(us:List Value)(kw:List (Str×Value)) :
    Env0 P w K mg base (A.under (.builtin "type.__call__" ⟨.ref C::us,kw⟩)) outer s H:=⟨by first|exact e.frames|(simpa[Around.under,Code.envs,Code.isFrame,pushEnvs] using e.frames),e.mod,e.bs,e.bsz,e.qD,e.frf,e.W5,e.bare⟩
theorem Env0.in1{P:Program}{w:World}{K:q0B}{mg:q0C}{base:Heap}{A:Around}{outer:List Env}{s:Shared}{H:Hp}(e:Env0 P w K mg base A outer s H) :
    Env0 P w K mg base A.in1 outer s H:=⟨e.frames,e.mod,e.bs,e.bsz,e.qD,e.frf,e.W5,e.bare⟩
section
variable {X:Cx} {WY:List (Addr×Obj)} {σ:St} {H:Hp} {s s':Shared}
theorem W1.Qq(I:W1 X WY σ H s):Env0 X.prog X.w X.K X.mg X.base X.A X.stack s H :=
 ⟨I.ok.frames,I.ok.mod,I.bs,Nat.le_trans I.ok.bsz I.sz,I.stack,I.C6,I.W5,I.bare⟩
theorem W1.after{Q:VK}{u:Value}(I:W1 X WY σ H s)(h:CE X.stack X.prog X.w H s Q u s'):EP X WY σ Q u s':=by
 obtain⟨v,H',os,bare,un,W5,r,q⟩:=h;obtain⟨hh,g,d,t,os'⟩:=s';obtain rfl:os'=s.os:=os;exact⟨v,H',I.call (h':=hh) (g':=g) (d':=d) (t':=t) (ch:=[]) un W5 bare (fun b z=>absurd z (by simp)),r,q⟩
end
noncomputable def Gx(sp:Sp)(Xt:List V)(E:XK)(t:TA):TE:=fun σ H Q=>t σ H fun vs H1=>sp (vs++Xt) H1 Q E
noncomputable def Gy(C:Addr)(m:Str)(sp:Sp)(Xt:List V)(E:XK)(ta:TE)(t:TA):TE:=fun σ H Q=>ta σ H fun x H1=>∃ a dx fs,x=.ref a/\H1 a=some (.ins C dx fs)/\fs.lookup m=none /\
 t σ H1 fun vs H2=>sp (x::(vs++Xt)) H2 Q E
noncomputable def Ks(C:Addr)(sp:Sp)(Xt:List V)(E:XK)(t:TA):TE:=fun σ H Q=>t σ H fun vs H1=>∀ x dx,H1 x=none->H1 dx=none->dx≠x ->
 sp (.ref x::(vs++Xt)) (WZ (WZ H1 dx (.own x)) x (.ins C dx [])) (fun v H2=>v=.W3/\Q (.ref x) H2) E
noncomputable def Binds(K:q0B)(fd:FuncData)(ps:List Str)(ds:List Value):Prop :=
 ∀(s:Shared) (us:List Value),K.In s.heap->(us++ds).length=ps.length->BindsTo s fd ⟨us,[]⟩ (ps.zip (us++ds))
theorem Binds.all{K:q0B}{fd:FuncData}{ps:List Str}(h:∀ us:List Value,us.length=ps.length->bindArgs fd ⟨us,[]⟩=pure (ps.zip us)):Binds K fd ps []:=fun s us _ hl=>by
 rw[List.append_nil] at hl ⊢;exact .of_eq (h us hl)
noncomputable def Passes(CX:CXT)(X:Cx)(E:XK):Prop:=∀(WY:List (Addr×Obj)) (σ:St) (H:Hp) (s:Shared) (e:Value) (s':Shared),W1 X WY σ H s->CX X.stack H s E e s'->X.xe e s'
section
variable {X:Cx} {CX:CXT} {k:Nat} {f C:Addr} {fd:FuncData} {ps:List Str} {sp:Sp} {Xt:List V} {ds:List Value} {E:XK} {x m:Str} {p pos apos:Pos} {e o:Expr} {es:List Expr} {ta:TE} {t:TA}
theorem CU{WY:List (Addr×Obj)}{σ:St}{H:Hp}{s:Shared}{Q:VK}{us:List Value}{vs:List V}(F:bR X.prog X.w X.K X.mg X.base CX k f fd ps sp)(hr:Room k X.A)(hb:Binds X.K fd ps ds)(hd:Vals Xt ds)(hx:Passes CX X E)
    (I:W1 X WY σ H s) (r:Vals vs us) (h:sp (vs++Xt) H Q E):wpAny (model X.prog X.w) X.A (call (.ref f) us) (EP X WY σ Q) X.xe s:=by
  have r2:Vals (vs++Xt) (us++ds):=r.append hd;have hl:(us++ds).length=ps.length:=by rw[<- r2.length];exact F.len _ _ _ _ h
  refine wpAny_call (codeAny_mono (F.run X.A X.stack s H ⟨us,[]⟩ (us++ds) (vs++Xt) Q E hr I.Qq (hb s us I.kIn hl) r2 h) fun r s' hq=>?_);cases r with
  | error e=>exact hx WY σ H s e s' I hq
  | ok fl =>
    cases fl with
    | ret u=>exact I.after hq
    | next=>exact False.elim hq
    | brk=>exact False.elim hq
    | cont=>exact False.elim hq
theorem aI(F:bR X.prog X.w X.K X.mg X.base CX k f fd ps sp)(hr:Room k X.A)(hg:Gl X x)(hm:X.mg x=some (.ref f))(hk:PySem.W.keepIn X.K (.ref f)=true)(hb:Binds X.K fd ps ds)(hd:Vals Xt ds)(hx:Passes CX X E)
    (ha:PA X (e::es) t) (Yj:(x==("__debug__":Str))=false:=by decide) (he:starEach (e::es) X.env=(false,eval e X.env)::starEach es X.env:=by rfl) (Yc:(backTo pos (starEach es X.env)).any (·.1)=false:=by rfl) :
    PE X (.Call (.Name x p) (e::es) [] pos) (Gx sp Xt E t):=by
  intro WY s σ H Q I h;refine wpAny_Call_Name_kw (mI I hg hm ?_ Yj);refine PySem.W.callWith_K (h₀:=X.base) I.ok.mod.kin hk (thn (ha pos WY s σ H _ I h) fun us s1 ⟨vs,H1,I1,r,q⟩=>⟨I1.kIn,?_⟩) he Yc;exact CU F hr hb hd hx I1 r q
theorem tF(F:bR X.prog X.w X.K X.mg X.base CX k f fd ps sp)(hr:Room k X.A)(hg:Gl X x)(hm:X.mg x=some (.ref f))(hk:PySem.W.keepIn X.K (.ref f)=true)(hb:Binds X.K fd ps ds)(hd:Vals Xt ds)(hx:Passes CX X E)
    (Yj:(x==("__debug__":Str))=false:=by decide):PE X (.Call (.Name x p) [] [] pos) (Gx sp Xt E HI):=by
  intro WY s σ H Q I h;refine wpAny_Call_Name_kw (mI I hg hm ?_ Yj);exact PySem.W.callWith_K0 I.kIn hk (CU (us:=[]) F hr hb hd hx I .nil h)
theorem pW{pl:Sem Bool}(he:PE X o ta)(c:Cls X.K C)(hm:Meth X.K C m f)(F:bR X.prog X.w X.K X.mg X.base CX k f fd ps sp)(hr:Room k X.A)(hb:Binds X.K fd ps ds)(hd:Vals Xt ds)(hx:Passes CX X E)(ha:PA X (e::es) t)
    (X6:starEach (e::es) X.env=(false,eval e X.env)::starEach es X.env:=by rfl) (Yc:(backTo pos (starEach es X.env)).any (·.1)=false:=by rfl)
    (ht:eval (.Call (.Attribute o m apos) (e::es) [] pos) X.env=(do
      let ov <- eval o X.env
      standAt apos.atName
      let (f,first) <- holding [ov] (getMethod ov m pl)
      callWith pos f first (backTo pos (starEach (e::es) X.env)) (backToKw pos (keywordEach [] X.env))):=by rfl) :
    PE X (.Call (.Attribute o m apos) (e::es) [] pos) (Gy C m sp Xt E ta t):=by
  intro WY s σ H Q I h;refine PySem.W.methodCall_KW (pl:=pl) (thn (he WY s σ H _ I h) fun u s1 ⟨x,H1,I1,rx,a,dx,fs,ex,ea,l,q⟩=>?_) ht;subst ex;obtain rfl:u=Value.ref a:=rx;refine y9 I1 ea c hm l ?_;refine PySem.W.callWith_K (first:=[.ref a]) (h₀:=X.base) I.ok.mod.kin hm.kp (thn (ha pos WY s1 σ H1 _ I1 q) fun us s2 ⟨vs,H2,I2,r,q2⟩=>⟨I2.kIn,?_⟩) X6 Yc
  exact CU (us:=.ref a::us) (vs:=.ref a::vs) F hr hb hd hx I2 (.cons rfl r) q2
theorem oP{pl:Sem Bool}(he:PE X o ta)(c:Cls X.K C)(hm:Meth X.K C m f)(F:bR X.prog X.w X.K X.mg X.base CX k f fd ps sp)(hr:Room k X.A)(hb:Binds X.K fd ps ds)(hd:Vals Xt ds)(hx:Passes CX X E)
    (ht:eval (.Call (.Attribute o m apos) [] [] pos) X.env=(do
      let ov <- eval o X.env
      standAt apos.atName
      let (f,first) <- holding [ov] (getMethod ov m pl)
      callWith pos f first (backTo pos (starEach [] X.env)) (backToKw pos (keywordEach [] X.env))):=by rfl) :
    PE X (.Call (.Attribute o m apos) [] [] pos) (Gy C m sp Xt E ta HI):=by
  intro WY s σ H Q I h;refine PySem.W.methodCall_KW (pl:=pl) (thn (he WY s σ H _ I h) fun u s1 ⟨x,H1,I1,rx,a,dx,fs,ex,ea,l,q⟩=>?_) ht;subst ex;obtain rfl:u=Value.ref a:=rx;refine y9 I1 ea c hm l ?_;exact PySem.W.callWith_K0 (first:=[.ref a]) I1.kIn hm.kp (CU (us:=[.ref a]) (vs:=[.ref a]) F hr hb hd hx I1 (.cons rfl .nil) q)
structure Mk(K:q0B)(C f:Addr):Prop where
 makes:PySem.W.makesIn K C=true
 init:PySem.W.findIn K (.ref C) "__init__"=some (some (.ref f))
 fn:PySem.W.isFn K (.ref f)=true
 kp:PySem.W.keepIn K (.ref C)=true
theorem J6{WY:List (Addr×Obj)}{σ:St}{H:Hp}{s:Shared}{Q:VK}{us:List Value}{vs:List V}(M:Mk X.K C f)(F:bR X.prog X.w X.K X.mg X.base CX k f fd ps sp)(hr:Room (k+1) X.A)(hb:Binds X.K fd ps ds)(hd:Vals Xt ds)
    (hx:Passes CX X E) (I:W1 X WY σ H s) (r:Vals vs us)
    (h:∀ x dx,H x=none->H dx=none->dx≠x->sp (.ref x::(vs++Xt)) (WZ (WZ H dx (.own x)) x (.ins C dx [])) (fun v H2=>v=.W3/\Q (.ref x) H2) E) :
    wpAny (model X.prog X.w) X.A (call (.ref C) us) (EP X WY σ Q) X.xe s:=by
  have hq:=h (s.heap.objs.size+1) s.heap.objs.size (I.W5.fresh (Nat.le_succ _)) (I.W5.fresh (Nat.le_refl _)) (Nat.ne_of_lt (Nat.lt_succ_self _));have I2:=W1.made (C:=C) I;have r2:Vals (V.ref (s.heap.objs.size+1)::(vs++Xt)) (Value.ref (s.heap.objs.size+1)::(us++ds)):=.cons rfl (r.append hd);have hl:(Value.ref (s.heap.objs.size+1)::us++ds).length=ps.length:=by
    have e:=r2.length;rw[F.len _ _ _ _ hq] at e;exact e.symm
  refine wpAny_call (Jz (f:=f) I.kIn M.makes M.init (beq_iff_eq.mp M.fn) (codeAny_mono (F.run _ X.stack _ _ ⟨Value.ref (s.heap.objs.size+1)::us,[]⟩ (Value.ref (s.heap.objs.size+1)::(us++ds)) _ _ E (hr.make C us [])
    (I2.Qq.make C us []) (hb _ (Value.ref (s.heap.objs.size+1)::us) I2.kIn hl) r2 hq) fun r s' hq'=>?_))
  cases r with
  | error e=>exact hx WY σ _ _ e s' I2 hq'
  | ok fl =>
    cases fl with
    | ret u =>
      obtain⟨v,H',I3,rv,ev,q3⟩:=I2.after hq';subst ev;exact⟨rv,⟨V.ref (s.heap.objs.size+1),H',I3,rfl,q3⟩⟩
    | next=>exact False.elim hq'
    | brk=>exact False.elim hq'
    | cont=>exact False.elim hq'
theorem ME(M:Mk X.K C f)(F:bR X.prog X.w X.K X.mg X.base CX k f fd ps sp)(hr:Room (k+1) X.A)(hg:Gl X x)(hm:X.mg x=some (.ref C))(hb:Binds X.K fd ps ds)(hd:Vals Xt ds)(hx:Passes CX X E)
    (ha:PA X (e::es) t) (Yj:(x==("__debug__":Str))=false:=by decide) (he:starEach (e::es) X.env=(false,eval e X.env)::starEach es X.env:=by rfl) (Yc:(backTo pos (starEach es X.env)).any (·.1)=false:=by rfl) :
    PE X (.Call (.Name x p) (e::es) [] pos) (Ks C sp Xt E t):=by
  intro WY s σ H Q I h;refine wpAny_Call_Name_kw (mI I hg hm ?_ Yj);refine PySem.W.callWith_K (h₀:=X.base) I.ok.mod.kin M.kp (thn (ha pos WY s σ H _ I h) fun us s1 ⟨vs,H1,I1,r,q⟩=>⟨I1.kIn,?_⟩) he Yc;exact J6 M F hr hb hd hx I1 r q
end
section
variable {X:Cx} {CX:CXT} {k:Nat} {f C:Addr} {fd:FuncData} {ps ks:List Str} {sp:Sp} {E:XK} {x m:Str} {p pos apos acP:Pos} {e o:Expr} {es:List Expr} {kws:List Keyword} {te ta:TE} {t tk:TA} {nm:Option Str}
variable {g:List Value->List Value->List Value} {gV:List V->List V->List V}
end
structure bD(N P:List Str)(sc:Scope):Prop where
 kind:sc.kind=.function
 co:sc.isCoroutine=false
 gen:sc.isGenerator=false
 nd:N.Nodup
 pre:N.take P.length=P
 par:∀ x∈P,sc.names.lookup x=some .local\/sc.names.lookup x=some .cell
 mM:∀ y∈sc.names,y.2≠.free
theorem Bm{kindOf:Str->Option NameKind}{x:Str}:∀ {binds:List (Str×Value)} {m:q0C},(∀ v,(x,v)∉binds)->bindL kindOf binds m x=m x
 | [],_,_=>rfl
 | (n,v)::r,m,h=>by
  unfold bindL;rw[Bm fun w hw=>h w (List.mem_cons_of_mem _ hw)];split
  ·have:x≠n:=by rintro rfl;exact h v List.mem_cons_self
   simp[this]
  ·rfl
theorem Bk{kindOf:Str->Option NameKind}{x:Str}:∀ {binds:List (Str×Value)} {m:q0C},(∀ v,(x,v)∉binds)->bindC kindOf binds m x=m x
 | [],_,_=>rfl
 | (n,v)::r,m,h=>by
  unfold bindC;rw[Bk fun w hw=>h w (List.mem_cons_of_mem _ hw)];split
  ·rfl
  ·have:x≠n:=by rintro rfl;exact h v List.mem_cons_self
   simp[this]
theorem Bl{kindOf:Str->Option NameKind}{x:Str}{v:Value}:∀ {P:List Str} {vs:List Value} {i:Nat} {m:q0C},P.Nodup->P[i]?=some x->vs[i]?=some v->kindOf x=some .local ->
    bindL kindOf (P.zip vs) m x=some v
  | [],_,_,_,_,h,_,_=>by simp at h
  | _::_,[],_,_,_,_,h,_=>by simp at h
  | p::P,w::vs,0,m,nd,h1,h2,hk=>by
    simp at h1 h2;subst h1;subst h2;show bindL kindOf ((p,w)::P.zip vs) m p=_;unfold bindL;rw[Bm fun v hv=>(List.nodup_cons.mp nd).1 (List.of_mem_zip hv).1,if_pos hk];simp
  | p::P,w::vs,i+1,m,nd,h1,h2,hk=>by
    show bindL kindOf ((p,w)::P.zip vs) m x=_;unfold bindL;exact Bl (i:=i) (List.nodup_cons.mp nd).2 (by simpa using h1) (by simpa using h2) hk
theorem Bj{kindOf:Str->Option NameKind}{x:Str}{v:Value}:∀ {P:List Str} {vs:List Value} {i:Nat} {m:q0C},P.Nodup->P[i]?=some x->vs[i]?=some v->kindOf x≠some .local ->
    bindC kindOf (P.zip vs) m x=some v
  | [],_,_,_,_,h,_,_=>by simp at h
  | _::_,[],_,_,_,_,h,_=>by simp at h
  | p::P,w::vs,0,m,nd,h1,h2,hk=>by
    simp at h1 h2;subst h1;subst h2;show bindC kindOf ((p,w)::P.zip vs) m p=_;unfold bindC;rw[Bk fun v hv=>(List.nodup_cons.mp nd).1 (List.of_mem_zip hv).1,if_neg hk];simp
  | p::P,w::vs,i+1,m,nd,h1,h2,hk=>by
    show bindC kindOf ((p,w)::P.zip vs) m x=_;unfold bindC;exact Bj (i:=i) (List.nodup_cons.mp nd).2 (by simpa using h1) (by simpa using h2) hk
noncomputable def start(N:List Str)(vs:List V):St:=vs.map some++List.replicate (N.length - vs.length) none
noncomputable def qB(CX:CXT)(P:Program)(w:World)(K:q0B)(mg:q0C)(base:Heap)(N:List Str)(qual:Str)(scope:Scope)(f:Addr)(cd:Value)(A:Around)(outer:List Env)(s:Shared)(H:Hp)(E:XK):Cx where
 prog:=P
 w:=w
 K:=K
 mg:=mg
 base:=base
 A:=A.deeper (envOfC qual scope s.heap.objs.size f cd)
 N:=N
 s₀:=s
 H₀:=H
 env:=envOfC qual scope s.heap.objs.size f cd
 outer:=outer
 stack:=envOfC qual scope s.heap.objs.size f cd::outer
 ex:=[]
 calm:=true
 fn:=fun _=>true
 pn:=[]
 xe:=fun e s'=>wpAny (model P w) (A.deeper (envOfC qual scope s.heap.objs.size f cd)) (leaving (envOfC qual scope s.heap.objs.size f cd) e) (fun _ s''=>CX outer H s E e s'') (fun e' s''=>CX outer H s E e' s'') s'
theorem Dx{sc:Scope}{n:Nat}{x:Str}(h:sc.names.lookup x=some .cell):∃ c,(cellsFrom n sc.names []).lookup x=some c:=by
 have q:=PySem.W.cellsFrom_some sc.names n [] (.inl h);exact Option.isSome_iff_exists.mp q
theorem He{CX:CXT}{P:Program}{w:World}{K:q0B}{mg:q0C}{base:Heap}{N ps:List Str}{qual:Str}{scope:Scope}{f:Addr}{cd:Value}{A:Around}{outer:List Env}{s s1:Shared}{H:Hp}{E:XK}{us:List Value}{vs:List V}
    (S:bD N ps scope) (hd:A.handled=none) (e0:Env0 P w K mg base A outer s H) (hl:vs.length=ps.length) (r:Vals vs us)
    (x:InCallC s s.heap.objs.size (bindL (envOfC qual scope s.heap.objs.size f cd).kindOf (ps.zip us) fun _=>none) (cellsFrom (s.heap.objs.size+1) scope.names []) (bindC (envOfC qual scope s.heap.objs.size f cd).kindOf (ps.zip us) fun _=>none) s1) :
    W1 (qB CX P w K mg base N qual scope f cd A outer s H E) [] (start N vs) H s1:=by
  have Yc:ps.length<=N.length:=by have:=congrArg List.length S.pre;rw[List.length_take] at this;omega
  obtain⟨h1,tk,rfl,hk⟩:=x.done;have noA:∀ b:Addr,b∉(qB CX P w K mg base N qual scope f cd A outer s H E).ex:=fun b z=>absurd (show b∈([]:List Addr) from z) (by simp);refine⟨⟨e0.mod,S.kind,rfl,rfl,Nat.le_refl _,fun y z c h1 h2=>?_,fun y hy=>?_,fun y c _ h=>?_,fun _=>hd,Around.frames_deeper e0.frames,.inr ⟨rfl,rfl⟩,fun b z=>absurd z (noA b),e0.bs,e0.bsz,fun b _ _=>noA b,fun b z=>absurd z (noA b),e0.qD,e0.frf⟩,
    rfl,e0.bare,Un.kept hk,⟨_,x.toInCall.ns,fun i y v h1 h2 h3=>?_⟩,fun y c h=>⟨_,x.cell y c h⟩,e0.W5.fresh (Nat.le_refl _),fun y c h=>?_,fun p hp=>absurd (show p∈([]:List (Addr×Obj)) from hp) (by simp),e0.W5.kept hk,?_⟩
  · exact name_of_addr x.apart (PySem.mem_of_lookup h1) (PySem.mem_of_lookup h2)
  · have hy:scope.names.lookup y=some .cell\/scope.names.lookup y=some .free:=hy;rcases hy with hy|hy
    · exact Dx hy
    · exact absurd rfl (S.mM _ (PySem.mem_of_lookup hy))
  · exact Nat.le_of_lt (x.above y c (PySem.mem_of_lookup h))
  · have hi:i < vs.length:=by
      unfold start at h2;by_cases hi:i < vs.length
      · exact hi
      · rw[List.getElem?_append_right (by simpa using hi)] at h2;rw[List.getElem?_replicate] at h2;split at h2<;>cases h2
    have ha:vs[i]?=some v:=by
      unfold start at h2;rw[List.getElem?_append_left (by simpa using hi),List.getElem?_map] at h2;cases e:vs[i]? with
      | none=>rw[e] at h2;cases h2
      | some a=>rw[e] at h2;cases h2;rfl
    obtain⟨u,hu,rv⟩:=r.get ha;have hp:ps[i]?=some y:=by
      rw[<- S.pre,List.getElem?_take_of_lt (by omega)];exact h1
    have ndP:ps.Nodup:=by rw[<- S.pre];exact S.nd.sublist (List.take_sublist _ _)
    refine⟨u,rv,?_⟩;rcases S.par y (List.mem_of_getElem? hp) with k|k
    · exact .inl ⟨k,Bl ndP hp hu k⟩
    · obtain⟨c,e⟩:=Dx (n:=s.heap.objs.size+1) k;refine .inr ⟨.inl k,c,e,?_⟩;have q:=x.cell y c e;rw[Bj ndP hp hu (by show scope.names.lookup y≠_;rw[k];decide)] at q;exact q
  · exact e0.W5.fresh (Nat.le_of_lt (x.above y c (PySem.mem_of_lookup h)))
  · unfold start;show _=N.length;rw[List.length_append,List.length_map,List.length_replicate];omega
theorem Nw{CX:CXT}{P:Program}{w:World}{K:q0B}{mg:q0C}{base:Heap}{k:Nat}{f:Addr}{name qual:Str}{params:Arguments}{body:List Stmt}{scope:Scope}{dV kV doc pm W7 ct oc:Value}{an od:Option Addr}
    {ZP:Array (Option Value)} {N ps:List Str} {sp:Sp} (lk:K.lookup f=some ⟨oc,od,.func (PySem.W.fnOf name qual params body scope dV kV doc pm an W7 ct),ZP⟩) (YJ:PySem.W.codeIn K W7 qual=true) (S:bD N ps scope)
    (len:∀ vs H Q E,sp vs H Q E->vs.length=ps.length)
    (Yi:∀(A:Around) (outer:List Env) (s:Shared) (H:Hp) (vs:List V) (Q:VK) (E:XK),Room k (A.deeper (envOfC qual scope s.heap.objs.size f W7))->sp vs H Q E ->
      ∃ t,Yb (qB CX P w K mg base N qual scope f W7 A outer s H E) body t/\t {nx:=fun _ H'=>Q .W3 H',rt:=Q} (start N vs) H) :
    bR P w K mg base CX (k+1) f (PySem.W.fnOf name qual params body scope dV kV doc pm an W7 ct) ps sp:=by
  refine⟨len,fun A outer s H args us vs Q E hr e0 hb r Zv=>?_⟩;have hl:=len _ _ _ _ Zv;have KX:K.In s.heap:=e0.mod.kin.keeps fun b o e=>(e0.bs b o e).1;have lim:s.heap.NoLimit:=e0.mod.nolimit.keeps fun b o e=>(e0.bs b o e).1;have YF:∀ y∈ps.zip us,scope.names.lookup y.1=some .local\/(scope.names.lookup y.1=some .cell/\((cellsFrom (s.heap.objs.size+1) scope.names []).lookup y.1).isSome=true):=fun⟨n,v⟩ hy=>by
    rcases S.par n (List.of_mem_zip hy).1 with q|q
    · exact .inl q
    · exact .inr ⟨q,PySem.W.cellsFrom_some _ _ _ (.inl q)⟩
  refine codeAny_call_function hr.depth (KX _ _ lk) rfl S.co S.gen rfl (PySem.W.codeRec_of KX YJ) (hb _ _ _ _ ?_);refine wpAny_newFunctionEnv_cells S.kind YF fun env he s1 x=>?_;subst he;refine⟨lim.keeps x.toInCall.keep,codeAny_func ?_⟩;obtain⟨t,ht,hq⟩:=Yi A outer s H vs Q E (hr.deeper _) Zv;have I:W1 (qB CX P w K mg base N qual scope f W7 A outer s H E) [] (start N vs) H s1:=He S hr.hd e0 hl r x;refine wpAny_mono (ht [] s1 (start N vs) H _ I hq) (fun fl s' hs=>?_) fun e s' hs=>hs;have fin:∀ {σ':St} {H':Hp} {v:V} {u:Value},W1 (qB CX P w K mg base N qual scope f W7 A outer s H E) [] σ' H' s'->cA v u->Q v H'->CE outer P w H s Q u s' :=
    fun {σ' H' v u} J rv q=>⟨v,H',J.os,J.bare,J.base,J.W5,rv,q⟩
  cases fl with
  | ret u =>
    obtain⟨v,σ',H',J,rv,q⟩:=hs;exact fin J rv q
  | next =>
    obtain⟨σ',H',J,q⟩:=hs;exact fin (v:=V.W3) (u:=Value.none) J rfl q
  | brk =>
    obtain⟨_,_,_,q⟩:=hs;exact False.elim q
  | cont =>
    obtain⟨_,_,_,q⟩:=hs;exact False.elim q
section
variable {X:Cx} {x:Str} {p pos:Pos} {e:Expr} {es:List Expr} {t:TA} {id T:String} {r:List V->Hp->VK->Prop}
noncomputable def Ww(r:List V->Hp->VK->Prop)(t:TA):TE:=fun σ H Q=>t σ H fun vs H1=>r vs H1 Q
theorem bK(hc:eR X (.builtin id) r)(hg:Gl X x)(hm:X.mg x=none)(hv:bootBuiltins x=some (.builtin id))(ha:PA X (e::es) t)(hn:x≠"__name__":=by decide)(Yj:(x==("__debug__":Str))=false:=by decide)
    (he:starEach (e::es) X.env=(false,eval e X.env)::starEach es X.env:=by rfl) (Yc:(backTo pos (starEach es X.env)).any (·.1)=false:=by rfl):PE X (.Call (.Name x p) (e::es) [] pos) (Ww r t):=by
  intro WY s σ H Q I h;refine wpAny_Call_Name_kw (Cv I hg hm hv ?_ hn Yj);exact PyProof.Rows.callWith_builtin1 (thn (ha pos WY s σ H _ I h) fun us s1 ⟨vs,H1,I1,r1,q1⟩=>hc WY s1 σ H1 vs us Q I1 r1 q1) he Yc
theorem bU(hc:eR X (.type T) r)(hg:Gl X x)(hm:X.mg x=none)(hv:bootBuiltins x=some (.type T))(ha:PA X (e::es) t)(hn:x≠"__name__":=by decide)(Yj:(x==("__debug__":Str))=false:=by decide)
    (he:starEach (e::es) X.env=(false,eval e X.env)::starEach es X.env:=by rfl) (Yc:(backTo pos (starEach es X.env)).any (·.1)=false:=by rfl):PE X (.Call (.Name x p) (e::es) [] pos) (Ww r t):=by
  intro WY s σ H Q I h;refine wpAny_Call_Name_kw (Cv I hg hm hv ?_ hn Yj);exact PyProof.Rows.callWith_type1 (thn (ha pos WY s σ H _ I h) fun us s1 ⟨vs,H1,I1,r1,q1⟩=>hc WY s1 σ H1 vs us Q I1 r1 q1) he Yc
end
end L2
namespace HT
open PySem PyProof.Rows
section
open PySem.SeqAt
open PySem.AutoSeq1 (wpAny_loadPart')
open PySem.MeetsSeq PySem.MeetsSeq2 PySem.MeetsSeq3
end
section
variable {prog:Program} {w:World} {A:Around} {E:q0A} {s:Shared}
theorem Lk{t b:Addr}{vs ws:List Value}{Q:q0A}(ht:IsTup s.heap t vs.toArray)(hb:IsTup s.heap b ws.toArray)(hv:vs≠[])
    (h1:ws=[]->Q (.ref t) s) (h2:ws≠[]->Q (.ref s.heap.objs.size) {s with heap:=s.heap.push {cls:=.type "tuple",data:=.seq (vs++ws).toArray}})
    (hsz:vs.length+ws.length<=sizeLine):wpAny (model prog w) A (binaryOp .Add (.ref t) (.ref b)) Q E s:=by
  obtain⟨⟨cls,dd,data,sl⟩,ho,hc,n,hd⟩:=id ht;obtain⟨⟨acN,dd2,data2,sl2⟩,ho2,ZF,n2,hd2⟩:=id hb;simp only at hc hd ZF hd2;subst hc hd ZF hd2;have e:vs.toArray++ws.toArray=(vs++ws).toArray:=by simp
  by_cases hw:ws=[]
  · exact concat_meets ⟨_,ho,rfl⟩ ⟨_,ho2,rfl⟩ noFill_tuple_add seq_tuple_add PySem.F.slot_tuple_add PySem.F.entry_tuple_add (PySem.F.args_tuple_add_2 _ _)
      (tuple_addW1 t b vs.toArray ws.toArray n n2 dd dd2 sl sl2 (by simpa using hv) (by simp[hw])) ⟨ho,ho2,h1 hw⟩
  · refine concat_meets ⟨_,ho,rfl⟩ ⟨_,ho2,rfl⟩ noFill_tuple_add seq_tuple_add PySem.F.slot_tuple_add PySem.F.entry_tuple_add (PySem.F.args_tuple_add_2 _ _)
      (tuple_addW2 t b vs.toArray ws.toArray n n2 dd dd2 sl sl2 (by simpa using hv) (by simpa using hw) (by rw[List.size_toArray,List.size_toArray];exact hsz)) ⟨ho,ho2,?_⟩
    rw[e];exact h2 hw
noncomputable def g8(n d:Nat):Option Int->Nat
 | none=>d
 | some v=>if v < 0 then (v+(n:Int)).toNat else min v.toNat n
theorem Ep(n d:Nat):g8 n d none=d:=rfl
theorem CV(n d k:Nat):g8 n d (some (k:Int))=min k n:=by
 show(if (k:Int) < 0 then ((k:Int)+(n:Int)).toNat else min (k:Int).toNat n)=min k n;rw[if_neg (by omega),Int.toNat_natCast]
theorem Q6(n d:Nat)(hd:d<=n)(o:Option Int):g8 n d o<=n:=by
 cases o with
 | none=>exact hd
 | some v =>
  show(if v < 0 then (v+(n:Int)).toNat else min v.toNat n)<=n;by_cases hv:v < 0
  ·rw[if_pos hv];omega
  ·rw[if_neg hv];exact Nat.min_le_right _ _
theorem FI(v:Int)(n d:Nat):(if v < 0 then max (v+(n:Int)) 0 else min v (n:Int))=((g8 n d (some v):Nat):Int):=by
 show(if v < 0 then max (v+(n:Int)) 0 else min v (n:Int))=(((if v < 0 then (v+(n:Int)).toNat else min v.toNat n):Nat):Int);by_cases hv:v < 0
 ·simp only[if_pos hv];omega
 ·simp only[if_neg hv];omega
theorem EE(lo hi:Option Int)(n:Nat):Builtin.Slice.sliceAdjust lo hi 1 (n:Int)=(((g8 n 0 lo:Nat):Int),((g8 n n hi:Nat):Int)):=by
 have h1:¬ ((1:Int) < 0):=by omega
 unfold Builtin.Slice.sliceAdjust;simp only[h1,if_false];refine Prod.ext ?_ ?_
 ·cases lo with
  | none=>rfl
  | some v=>exact FI v n 0
 ·cases hi with
  | none=>rfl
  | some v=>exact FI v n n
theorem Fi(i j:Nat):Builtin.Slice.slicePlaces (i:Int) (j:Int) 1=j - i:=by
 unfold Builtin.Slice.slicePlaces;have h1:(1:Int) > 0:=by omega
 simp only[h1,if_true,Int.ediv_one];split<;>omega
theorem Ax{v:Value}{o:Option Int}{Q:Option Int->Shared->Prop}(p:IsPart v o)(h:Q o s):wpAny (model prog w) A (Builtin.Slice.slicePartIndex v) Q E s:=by
 cases p with
 | none=>exact slicePart_none h
 | int i t=>exact slicePart_int h
theorem vN{sl:Addr}{vl vu:Value}{lo hi:Option Int}{n:Nat}{Q:Int×Int×Nat->Shared->Prop}(hs:s.heap.IsSliceOf sl vl vu .none)(pl:IsPart vl lo)(pu:IsPart vu hi)
    (h:Q (((g8 n 0 lo:Nat):Int),1,g8 n n hi - g8 n 0 lo) s):wpAny (model prog w) A (Builtin.Slice.sliceApplied (.ref sl) (pure (n:Int))) Q E s:=by
  obtain⟨os,hos,hcs,hds⟩:=id hs;unfold Builtin.Slice.sliceApplied Builtin.Slice.sliceFields;refine wpAny_bind (wpAny_bind (wpAny_field hos hds (x:=vl) rfl (wpAny_bind (wpAny_field hos hds (x:=vu) rfl (wpAny_bind (wpAny_field hos hds (x:=.none) rfl (wpAny_pure ?_)))))));refine wpAny_bind (slicePart_none ?_);show wpAny _ _ (if ((1:Int)==0)=true then _ else _) _ _ s;rw[if_neg (by decide)];refine wpAny_bind (Ax pl (wpAny_bind (Ax pu (wpAny_bind (wpAny_pure ?_)))));show wpAny _ _ (match Builtin.Slice.sliceAdjust lo hi 1 (n:Int) with|(lo,hi)=>pure (lo,(1:Int),Builtin.Slice.slicePlaces lo hi 1)) _ _ s;rw[EE lo hi n];show wpAny _ _ (pure (((g8 n 0 lo:Nat):Int),(1:Int),Builtin.Slice.slicePlaces ((g8 n 0 lo:Nat):Int) ((g8 n n hi:Nat):Int) 1)) _ _ s;rw[Fi];exact wpAny_pure h
theorem J0(xs:Array Value)(i k:Nat):((List.range k).filterMap fun(m:Nat)=>xs[((i:Int)+(m:Int) * 1).toNat]?).toArray=((xs.toList.drop i).take k).toArray:=by
 have e:(fun(m:Nat)=>xs[((i:Int)+(m:Int) * 1).toNat]?)=fun m=>xs[i+m]?:=by
  funext m;have:((i:Int)+(m:Int) * 1).toNat=i+m:=by omega
  rw[this]
 rw[e];have:=pick_run xs i k;rw[List.filterMap_map] at this;have e2:((fun x=>xs[x]?)∘fun x=>i+x)=fun m=>xs[i+m]?:=rfl;rw[e2] at this;rw[this]
theorem sP{t sl:Addr}{items:Array Value}{vl vu:Value}{lo hi:Option Int}{Q:q0A}(ht:IsTup s.heap t items)(hs:s.heap.IsSliceOf sl vl vu .none)(pl:IsPart vl lo)(pu:IsPart vu hi)
    (hw:¬ (g8 items.size 0 lo=0/\g8 items.size items.size hi=items.size))
    (h:Q (.ref s.heap.objs.size) {s with heap:=s.heap.push {cls:=.type "tuple",data:=.seq ((items.toList.drop (g8 items.size 0 lo)).take (g8 items.size items.size hi - g8 items.size 0 lo)).toArray}})
    (hsz:items.size<=sizeLine):wpAny (model prog w) A (getItem (.ref t) (.ref sl)) Q E s:=by
  have YG:sizeOk (.seq ((items.toList.drop (g8 items.size 0 lo)).take (g8 items.size items.size hi - g8 items.size 0 lo)).toArray):=by
    show((items.toList.drop (g8 items.size 0 lo)).take (g8 items.size items.size hi - g8 items.size 0 lo)).toArray.size<=sizeLine;rw[List.size_toArray,List.length_take,List.length_drop,Array.length_toList];omega
  have hj:g8 items.size items.size hi<=items.size:=Q6 _ _ (Nat.le_refl _) hi;obtain⟨os,hos,hcs,hds⟩:=id hs;have hTs:s.TypeIs (.ref sl) "slice":=⟨os,hos,hcs⟩;unfold getItem
  try with_reducible refine wpAny_holding ?_
  first|refine wpAny_bind (wpAny_pure ?_)|skip
  refine wpAny_bind (wpAny_sequenceKey ht.typeIs (by decide) ?_);refine wpAny_bind (wpAny_callSpecial?_slot (name:=Str.ofString "__getitem__") ht.typeIs PyProof.Rows.slot_tuple_getitem
    (wpAny_call_entry PyProof.Rows.slot_tuple_getitem ht.typeIs entry_tuple_getitem ?_ (args_tuple_getitem _ _)))
  show wpAny _ _ (Builtin.Tuple.tupleItemsOf (.ref t) >>= _) _ _ s;refine wpAny_bind (tupleItemsOf_ ht ?_);refine wpAny_bind (wpAny_typeOf hTs ?_);rw[if_pos (by decide)];refine wpAny_bind (vN hs pl pu ?_);have hno:¬ ((((g8 items.size 0 lo:Nat):Int)==0&&(1:Int)==1&&(g8 items.size items.size hi - g8 items.size 0 lo)==items.size)=true):=by
    intro q;rw[Bool.and_eq_true,Bool.and_eq_true] at q;have q1:((g8 items.size 0 lo:Nat):Int)=0:=eq_of_beq q.1.1;have q2:g8 items.size items.size hi - g8 items.size 0 lo=items.size:=eq_of_beq q.2;exact hw ⟨by omega,by omega⟩
  show wpAny _ _ (if (((g8 items.size 0 lo:Nat):Int)==0&&(1:Int)==1&&(g8 items.size items.size hi - g8 items.size 0 lo)==items.size)=true then _ else _) _ _ s;rw[if_neg hno,J0]
  first
    | exact wpAny_bind (m:=Builtin.Tuple.tupleExact _) (wpAny_newObj_type (wpAny_pure ⟨_,rfl,wpAny_pure h⟩) YG)
    | exact wpAny_bind (m:=Builtin.Tuple.tupleExact _) (wpAny_newObj_type (wpAny_bind (wpAny_pure (wpAny_pure ⟨_,rfl,wpAny_pure h⟩))) YG)
    | exact wpAny_bind (wpAny_bind (m:=Builtin.Tuple.tupleExact _) (wpAny_newObj_type (wpAny_pure (wpAny_pure ⟨_,rfl,wpAny_pure h⟩)) YG))
    | exact wpAny_bind (wpAny_bind (m:=Builtin.Tuple.tupleExact _) (wpAny_newObj_type (wpAny_pure ⟨_,rfl,wpAny_pure h⟩) YG))
end
end HT
namespace L2
open PySem PySem.Spec PyProof.Rows
noncomputable abbrev TO:=St->Hp->(Option Int->Hp->Prop)->Prop
noncomputable def PO(X:Cx)(e:Option Expr)(t:TO):Prop :=
 ∀(WY:List (Addr×Obj)) (s:Shared) (σ:St) (H:Hp) (Q:Option Int->Hp->Prop),W1 X WY σ H s->t σ H Q ->
  wpAny (model X.prog X.w) X.A (evalPart e X.env) (fun u s'=>∃ o H',W1 X WY σ H' s'/\IsPart u o/\Q o H') X.xe s
noncomputable def Gz:TO:=fun _ H Q=>Q none H
noncomputable def Kv(t:TE):TO:=fun σ H Q=>t σ H fun x H1=>∃ i,x=.int i/\Q (some i) H1
section
variable {X:Cx} {e:Expr} {te:TE} {lo hi:Option Expr} {tl th:TO} {pos p2:Pos}
theorem bY:PO X none Gz:=by
 intro WY s σ H Q I h;rw[evalPart_none];exact wpAny_pure ⟨none,H,I,.none,h⟩
theorem bZ(h:PE X e te):PO X (some e) (Kv te):=by
 intro WY s σ H Q I hw;rw[evalPart_some];refine thn (h WY s σ H _ I hw) fun u s1 ⟨x,H1,I1,r1,q1⟩=>?_;obtain⟨i,rfl,q⟩:=q1;obtain⟨t,rfl⟩:=r1;exact⟨some i,H1,I1,.int i t,q⟩
noncomputable def La(X:Cx)(r:V->Option Int->Option Int->Hp->VK->Prop):Prop :=
 ∀(WY:List (Addr×Obj)) (s:Shared) (σ:St) (H:Hp) (x:V) (v vl vu:Value) (lo hi:Option Int) (sl:Addr) (Q:VK),W1 X WY σ H s->cA x v->s.heap.IsSliceOf sl vl vu .none->IsPart vl lo->IsPart vu hi->r x lo hi H Q ->
  ∃ T id,typeLookup (.type T) "__getitem__"=pure (some (.builtin id))/\s.TypeIs v T/\wpAny (model X.prog X.w) X.A (getItem v (.ref sl)) (EP X WY σ Q) X.xe s
theorem La.or{r r':V->Option Int->Option Int->Hp->VK->Prop}(h:La X r)(h':La X r'):La X (fun x lo hi H Q=>r x lo hi H Q\/r' x lo hi H Q):=by
 intro WY s σ H x v vl vu lo hi sl Q I rx hs pl pu q;rcases q with q|q
 ·exact h WY s σ H x v vl vu lo hi sl Q I rx hs pl pu q
 ·exact h' WY s σ H x v vl vu lo hi sl Q I rx hs pl pu q
noncomputable def WM(r:V->Option Int->Option Int->Hp->VK->Prop)(te:TE)(tl th:TO):TE:=fun σ H Q=>te σ H fun x H1=>tl σ H1 fun l H2=>th σ H2 fun u H3=>r x l u H3 Q
theorem bT{r:V->Option Int->Option Int->Hp->VK->Prop}(hr:La X r)(he:PE X e te)(hl:PO X lo tl)(hu:PO X hi th):PE X (.Subscript e (.Slice lo hi none p2) pos) (WM r te tl th):=by
 intro WY s σ H Q I h;refine Subscript_ (thn (he WY s σ H _ I h) fun v s1 ⟨x,H1,I1,r1,q1⟩=>?_);refine wpAny_Slice (thn (hl WY s1 σ H1 _ I1 q1) fun vl s2 ⟨l,H2,I2,pl,q2⟩=>thn (hu WY s2 σ H2 _ I2 q2) fun vu s3 ⟨u,H3,I3,pu,q3⟩=>?_);rw[evalPart_none];refine wpAny_pure ?_;have I4:W1 X WY σ H3 {s3 with heap:=s3.heap.push {cls:=.type "slice",data:=.fields #[vl,vu,.none]}}:=I3.kept (t':=s3.toks) fun b ob q=>Heap.get?_push_of_some _ q;obtain⟨T,id,hT,ht,hg⟩:=hr WY {s3 with heap:=s3.heap.push {cls:=.type "slice",data:=.fields #[vl,vu,.none]}} σ H3 x v vl vu l u s3.heap.objs.size Q I4 r1 (Heap.IsSliceOf.new ..) pl pu q3;show wpAny (model X.prog X.w) X.A (subscriptTail e (.Slice lo hi none p2) v (.ref s3.heap.objs.size)) (EP X WY σ Q) X.xe {s3 with heap:=s3.heap.push {cls:=.type "slice",data:=.fields #[vl,vu,.none]}};exact tail_any (ops:=[.ref s3.heap.objs.size,v]) ht hT hg (by with_unfolding_all rfl)
noncomputable def kU(xs:List V)(lo hi:Option Int):List V:=(xs.drop (HT.g8 xs.length 0 lo)).take (HT.g8 xs.length xs.length hi - HT.g8 xs.length 0 lo)
theorem vU(xs:List V)(lo hi:Option Int):(kU xs lo hi).length<=xs.length:=by
 unfold kU;rw[List.length_take,List.length_drop];omega
noncomputable def Wu(K:q0B):V->Option Int->Option Int->Hp->VK->Prop:=fun x lo hi H Q=>∃ a xs,x=.ref a/\hJ K H a xs /\
 ¬ (HT.g8 xs.length 0 lo=0/\HT.g8 xs.length xs.length hi=xs.length)/\∀ p,H p=none->Q (.ref p) (WZ H p (.tup (kU xs lo hi)))
theorem Ra:La X (Wu X.K):=by
 intro WY s σ H x v vl vu lo hi sl Q I rx hs pl pu h;obtain⟨a,xs,rfl,hx,hw,q⟩:=h;cases rx;obtain⟨W2,r,ht,hz⟩:=I.tuple hx;have hlen:W2.toArray.size=xs.length:=by rw[List.size_toArray];exact r.length.symm
 refine⟨"tuple",_,PyProof.Rows.slot_tuple_getitem.lookup,ht.typeIs,?_⟩;refine HT.sP ht hs pl pu (by rw[hlen];exact hw) ?_ (by rw[hlen];exact hz);rw[hlen];refine⟨.ref s.heap.objs.size,_,I.laid (t':=s.toks) (o:=.tup (kU xs lo hi)) (fun b ob q=>Heap.get?_push_of_some _ q) (Nat.le_refl _) ?_,rfl,q _ (I.W5.fresh (Nat.le_refl _))⟩;exact⟨Nat.le_trans (vU xs lo hi) hz,_,(r.drop (HT.g8 xs.length 0 lo)).take (HT.g8 xs.length xs.length hi - HT.g8 xs.length 0 lo),IsTup.new _ _⟩
noncomputable def UB(K:q0B):R2:=fun x y H Q=>∃ a b xs ys,x=.ref a/\y=.ref b/\hJ K H a xs/\hJ K H b ys/\xs≠[]/\xs.length+ys.length<=sizeLine /\
 (ys=[]->Q (.ref a) H)/\(ys≠[]->∀ p,H p=none->Q (.ref p) (WZ H p (.tup (xs++ys))))
theorem Vals.xO{xs:List V}{us:List Value}(r:Vals xs us):us=[]↔xs=[]:=by
 cases r with
 | nil=>simp
 | cons _ _=>simp
theorem Gf:iX X (binaryOp .Add) (UB X.K):=by
 intro WY s σ H x y v u Q I rx ry h;obtain⟨a,b,xs,ys,rfl,rfl,ha,hb,hx,hz,q1,q2⟩:=h;cases rx;cases ry;obtain⟨W2,r1,p1,_⟩:=I.tuple ha;obtain⟨Yl,r2,p2,_⟩:=I.tuple hb;refine HT.Lk p1 p2 (fun z=>hx (r1.xO.mp z)) (fun z=>⟨.ref a,H,I,rfl,q1 (r2.xO.mp z)⟩) (fun z=>?_) (by rw[<- r1.length,<- r2.length];exact hz);refine⟨.ref s.heap.objs.size,_,I.laid (t':=s.toks) (o:=.tup (xs++ys)) (fun b ob q=>Heap.get?_push_of_some _ q) (Nat.le_refl _) ?_,rfl,q2 (fun w=>z (r2.xO.mpr w)) _ (I.W5.fresh (Nat.le_refl _))⟩;exact⟨by rw[List.length_append];exact hz,_,r1.append r2,IsTup.new _ _⟩
end
noncomputable def Co(n:Nat)(i:Int):Option Nat:=if 0<=i then (if i < n then some i.toNat else none) else if -(n:Int)<=i then some (i+n).toNat else none
noncomputable def nK{α:Type}(xs:List α)(i:Int):Option α:=(Co xs.length i).bind fun j=>xs[j]?
theorem FY{n:Nat}{i:Int}{j:Nat}(h:Co n i=some j):seqIndex? i n=some j/\j < n/\-(n:Int)<=i/\i < n:=by
 unfold Co at h;by_cases h0:0<=i
 ·rw[if_pos h0] at h;by_cases h1:i < n
  ·rw[if_pos h1] at h;have e:i.toNat=j:=Option.some.inj h;exact⟨by rw[seqIndex_of h0 h1,e],by omega,by omega,h1⟩
  ·rw[if_neg h1] at h;cases h
 ·rw[if_neg h0] at h;by_cases h1:-(n:Int)<=i
  ·rw[if_pos h1] at h;have e:(i+n).toNat=j:=Option.some.inj h;exact⟨by rw[seqIndex_neg (by omega) h1,e],by omega,h1,by omega⟩
  ·rw[if_neg h1] at h;cases h
theorem BW{α:Type}{xs:List α}{i:Int}{v:α}(h:nK xs i=some v):∃ j,seqIndex? i xs.length=some j/\xs[j]?=some v/\j < xs.length/\-(xs.length:Int)<=i/\i < xs.length:=by
 unfold nK at h;cases e:Co xs.length i with
 | none=>rw[e] at h;cases h
 | some j =>
  rw[e] at h;obtain⟨h1,h2,h3,h4⟩:=FY e;exact⟨j,h1,h,h2,h3,h4⟩
theorem xB{α:Type}{xs:List α}{j:Nat}{v:α}(h:xs[j]?=some v):nK xs (j:Int)=some v:=by
 have hj:j < xs.length:=(List.getElem?_eq_some_iff.mp h).1;have e:Co xs.length (j:Int)=some j:=by
  unfold Co;rw[if_pos (by omega),if_pos (by omega)];simp
 unfold nK;rw[e];exact h
noncomputable def KZ(b:Expr):Prop:=∀ o i,subscripted b false o i=operate [o,i] (getItem o i)
noncomputable def GG(X:Cx)(r:R2):Prop :=
 ∀(value slice:Expr) (WY:List (Addr×Obj)) (s:Shared) (σ:St) (H:Hp) (x y:V) (v u:Value) (Q:VK),W1 X WY σ H s->cA x v->cA y u->r x y H Q ->
  subscripted slice false v u=operate [v,u] (getItem v u)->wpAny (model X.prog X.w) X.A (subscriptTail value slice v u) (EP X WY σ Q) X.xe s
noncomputable def KP(X:Cx)(id:String)(r:V->List V->Hp->VK->Prop):Prop :=
 ∀(WY:List (Addr×Obj)) (s:Shared) (σ:St) (H:Hp) (x:V) (xs:List V) (v:Value) (us:List Value) (Q:VK),W1 X WY σ H s->cA x v->Vals xs us->r x xs H Q ->
  wpAny (model X.prog X.w) X.A (call (.builtin id) (v::us)) (EP X WY σ Q) X.xe s
section
variable {X:Cx} {a b:Expr} {ta tb:TE} {pos:Pos}
theorem GG.or{r r':R2}(h:GG X r)(h':GG X r'):GG X (fun x y H Q=>r x y H Q\/r' x y H Q):=by
 intro value slice WY s σ H x y v u Q I rx ry q hs;rcases q with q|q
 ·exact h value slice WY s σ H x y v u Q I rx ry q hs
 ·exact h' value slice WY s σ H x y v u Q I rx ry q hs
theorem KP.or{id:String}{r r':V->List V->Hp->VK->Prop}(h:KP X id r)(h':KP X id r'):KP X id (fun x xs H Q=>r x xs H Q\/r' x xs H Q):=by
 intro WY s σ H x xs v us Q I rx rs q;rcases q with q|q
 ·exact h WY s σ H x xs v us Q I rx rs q
 ·exact h' WY s σ H x xs v us Q I rx rs q
theorem aX{r:R2}(hr:GG X r)(ha:PE X a ta)(hb:PE X b tb)(hs:KZ b):PE X (.Subscript a b pos) (U7 r ta tb):=by
 intro WY s σ H Q I h;exact Subscript_ (Ox ha hb I h fun v u s2 x y H2 I2 rx ry q=>hr a b WY s2 σ H2 x y v u Q I2 rx ry q (hs _ _))
noncomputable def UC(K:q0B):R2:=fun x y H Q=>∃ p xs i v,x=.ref p/\y=.int i/\dZ K H p xs/\nK xs i=some v/\Q v H
noncomputable def UE(K:q0B):R2:=fun x y H Q=>∃ p xs i v,x=.ref p/\y=.int i/\hJ K H p xs/\nK xs i=some v/\Q v H
noncomputable def UD:R2:=fun x y H Q=>∃ z i c,x=.str z/\y=.int i/\z.length<=sizeLine/\nK z.cps.toList i=some c/\Q (.str ⟨#[c]⟩) H
theorem Mj:GG X (UC X.K):=by
 intro value slice WY s σ H x y v u Q I rx ry h hs;obtain⟨p,xs,i,z,rfl,rfl,hq,he,q⟩:=h;cases rx;obtain⟨t,rfl⟩:=ry;obtain⟨W2,r,pl,hz⟩:=I.list hq;obtain⟨j,h1,h2,h3,h4,h5⟩:=BW he;obtain⟨w,ew,rw'⟩:=r.get h2;have hl:=r.length;have hn:=line63;have fin:EP X WY σ Q w s:=⟨z,H,I,rw',q⟩;by_cases h0:0<=i
 ·have hj:i.toNat=j:=by
   rw[seqIndex_of h0 h5] at h1;exact Option.some.inj h1
  exact item_listR pl.isList h0 (by omega) (by rw[hj];simpa using ew) fin hs
 ·have hj:(i+(W2.toArray.size:Int)).toNat=j:=by
   rw[seqIndex_neg (by omega) h4] at h1;rw[List.size_toArray,<- hl];exact Option.some.inj h1
  exact subscriptTail_builtinR (x:=w) pl.isList.typeIs slot_list_getitem.lookup
   (wpAny_getItem_list_neg (Q:=fun r s'=>r=w/\EP X WY σ Q r s') pl.isList (by omega) (by rw[List.size_toArray]<;>omega) (by omega) (by rw[hj];simpa using ew) ⟨rfl,fin⟩) hs
theorem QC:GG X (UE X.K):=by
 intro value slice WY s σ H x y v u Q I rx ry h hs;obtain⟨p,xs,i,z,rfl,rfl,hq,he,q⟩:=h;cases rx;obtain⟨t,rfl⟩:=ry;obtain⟨W2,r,pl,hz⟩:=I.tuple hq;obtain⟨j,h1,h2,h3,h4,h5⟩:=BW he;obtain⟨w,ew,rw'⟩:=r.get h2;have hl:=r.length;have hn:=line63;have fin:EP X WY σ Q w s:=⟨z,H,I,rw',q⟩;exact subscriptTail_builtinR (x:=w) pl.typeIs slot_tuple_getitem.lookup
  (getItem_tuple (j:=j) (Q:=fun r s'=>r=w/\EP X WY σ Q r s') pl (by omega) (by omega) (by rw[List.size_toArray,<- hl];exact h1) (by simpa using ew) ⟨rfl,fin⟩) hs
theorem QB:GG X UD:=by
 intro value slice WY s σ H x y v u Q I rx ry h hs;obtain⟨z,i,c,rfl,rfl,hz,he,q⟩:=h;obtain⟨t,rfl⟩:=rx;obtain⟨t',rfl⟩:=ry;obtain⟨j,h1,h2,h3,h4,h5⟩:=BW he;have hl:z.cps.toList.length=z.length:=by simp[Str.length]
 rw[hl] at h1 h4 h5;have hn:=line63;exact tail_any (typeIs_str s z t) slot_str_getitem.lookup (getItem_str (c:=c) (by
  have e1:decide (i < -(2 ^ 63:Int))=false:=decide_eq_false (by omega);have e2:decide (i >= 2 ^ 63)=false:=decide_eq_false (by omega);rw[e1,e2,Bool.or_false]) (by rw[h1];simpa using h2) ⟨.str ⟨#[c]⟩,H,I.tok _,⟨_,rfl⟩,q⟩) hs
noncomputable def WT(K:q0B):R2:=fun x y H Q=>UC K x y H Q\/UE K x y H Q\/UD x y H Q
theorem QA:GG X (WT X.K):=Mj.or (QC.or QB)
theorem EY(W2:List Value)(n j:Nat)(u:Value):Obj.mapSeq (·.setIfInBounds j u) {cls:=.type "list",data:=.seq W2.toArray n}={cls:=.type "list",data:=.seq (W2.set j u).toArray n}:=by
 simp[Obj.mapSeq]
theorem W1.lst{WY:List (Addr×Obj)}{σ:St}{H:Hp}{s:Shared}{p:Addr}{xs:List V}(I:W1 X WY σ H s)(h:H p=some (.lst xs)) :
    ∃(W2:List Value) (n:Nat),Vals xs W2/\s.heap.get? p=some {cls:=.type "list",data:=.seq W2.toArray n}/\xs.length<=sizeLine:=by
  obtain⟨z,W2,n,r,e⟩:=I.W5 p _ h;exact⟨W2,n,r,e,z⟩
theorem W1.QK{WY:List (Addr×Obj)}{σ:St}{H:Hp}{s:Shared}{p:Addr}{xs ys:List V}{W2 its':List Value}{n n':Nat}{f:Obj->Obj}(I:W1 X WY σ H s)(h:H p=some (.lst xs))
    (ho:s.heap.get? p=some {cls:=.type "list",data:=.seq W2.toArray n}) (hf:f {cls:=.type "list",data:=.seq W2.toArray n}={cls:=.type "list",data:=.seq its'.toArray n'}) (r:Vals ys its') (hz:ys.length<=sizeLine) (t:Nat) :
    W1 X WY σ (WZ H p (.lst ys)) {s with heap:=s.heap.update p f,toks:=t}:=by
  have e:(s.heap.update p f).get? p=some {cls:=.type "list",data:=.seq its'.toArray n'}:=by
    rw[Heap.get?_update_self f ho (by rw[hf]<;>rfl),hf]
  refine I.write (x:=p) (e:=p) (by rw[h];trivial) (.inl rfl) (fun b u hb q=>(Heap.get?_update_other _ _ (Ne.symm hb)).trans q) ⟨_,e⟩ ?_;exact⟨hz,its',n',r,e⟩
noncomputable def UG:V->V->V->Hp->(Hp->Prop)->Prop:=fun o i v H Q=>∃ p xs k j,o=.ref p/\i=.int k/\H p=some (.lst xs)/\Co xs.length k=some j/\Q (WZ H p (.lst (xs.set j v)))
theorem J8:PSet X UG:=by
 intro WY s σ H o i v ov iv u Q I ro ri rv h;obtain⟨p,xs,k,j,rfl,rfl,hp,hj,q⟩:=h;cases ro;obtain⟨t,rfl⟩:=ri;obtain⟨W2,n,r,ho,hz⟩:=I.lst hp;obtain⟨h1,h2,h3,h4⟩:=FY hj;have hl:=r.length;have hn:=line63;have I':W1 X WY σ (WZ H p (.lst (xs.set j v))) {s with heap:=s.heap.update p (Obj.mapSeq (·.setIfInBounds j u))} :=
  I.QK hp ho (EY W2 n j u) (r.set rv j) (by rw[List.length_set];exact hz) s.toks
 by_cases h0:0<=k
 ·have hk:k.toNat=j:=by
   rw[seqIndex_of h0 h4] at h1;exact Option.some.inj h1
  exact PySem.W.ki_setAt ho h0 (by omega) (by rw[List.size_toArray,<- hl];exact h4) (by rw[hk];exact⟨_,I',q⟩)
 ·have hk:(k+(W2.toArray.size:Int)).toNat=j:=by
   rw[seqIndex_neg (by omega) h3] at h1;rw[List.size_toArray,<- hl];exact Option.some.inj h1
  exact PySem.W.ki_setBack ho (by omega) (by rw[List.size_toArray,<- hl];exact h3) (by omega) (by rw[hk];exact⟨_,I',q⟩)
theorem CZ(lo hi:Option Int)(n:Nat):(sliceBounds lo hi none n).1=((HT.g8 n 0 lo:Nat):Int)/\(sliceBounds lo hi none n).2.1=((HT.g8 n n hi:Nat):Int)/\(sliceBounds lo hi none n).2.2=1:=by
 refine⟨?_,?_,rfl⟩
 ·cases lo with
  | none=>simp[sliceBounds,HT.g8]
  | some i =>
   simp only[sliceBounds,HT.g8,Option.getD_none,show(1:Int) > 0 by decide,if_true];by_cases h:i < 0
   ·simp only[h,if_true]<;>omega
   ·simp only[h,if_false]<;>omega
 ·cases hi with
  | none=>simp[sliceBounds,HT.g8]
  | some i =>
   simp only[sliceBounds,HT.g8,Option.getD_none,show(1:Int) > 0 by decide,if_true];by_cases h:i < 0
   ·simp only[h,if_true]<;>omega
   ·simp only[h,if_false]<;>omega
theorem Bg(W2:List Value)(lo hi:Option Int):slicePick W2.toArray lo hi none=((W2.drop (HT.g8 W2.length 0 lo)).take (HT.g8 W2.length W2.length hi - HT.g8 W2.length 0 lo)).toArray:=by
 obtain⟨h1,h2,h3⟩:=CZ lo hi W2.toArray.size;unfold slicePick;rw[h1,h2,h3];simp only[sliceRange_one,pick_run,List.size_toArray]<;>rfl
noncomputable def Q3(K:q0B):V->Option Int->Option Int->Hp->VK->Prop:=fun x lo hi H Q=>∃ a xs,x=.ref a/\dZ K H a xs/\∀ p,H p=none->Q (.ref p) (WZ H p (.lst (kU xs lo hi)))
theorem Gp:La X (Q3 X.K):=by
 intro WY s σ H x v vl vu lo hi sl Q I rx hs pl pu h;obtain⟨a,xs,rfl,hx,q⟩:=h;cases rx;obtain⟨W2,r,ht,hz⟩:=I.list hx;have hlen:=r.length;refine⟨"list",_,slot_list_getitem.lookup,ht.isList.typeIs,?_⟩;refine wpAny_getItem_list_slice ht.isList hs pl pu .none (by simp) ?_ (by rw[List.size_toArray]<;>omega);rw[Bg,<- hlen];refine⟨.ref s.heap.objs.size,_,I.laid (t':=s.toks) (o:=.lst (kU xs lo hi)) (fun b ob q=>Heap.get?_push_of_some _ q) (Nat.le_refl _) ?_,rfl,q _ (I.W5.fresh (Nat.le_refl _))⟩;exact⟨Nat.le_trans (vU xs lo hi) hz,_,0,(r.drop (HT.g8 xs.length 0 lo)).take (HT.g8 xs.length xs.length hi - HT.g8 xs.length 0 lo),Heap.get?_push_size _ rfl⟩
noncomputable def cY:V->Bool
 | .W3=>true
 | .bl _=>true
 | .int _=>true
 | .str _=>true
 | _=>false
noncomputable def Di:V->V->Bool
 | .W3,.W3=>true
 | .bl a,.bl b=>a==b
 | .bl a,.int b=>(if a then 1 else 0)==b
 | .int a,.bl b=>a==(if b then 1 else 0)
 | .int a,.int b=>a==b
 | .str a,.str b=>a==b
 | _,_=>false
theorem Jf{A:Around}{s:Shared}{y x:V}{u v:Value}(ry:cA y u)(rx:cA x v)(fy:cY y=true)(fx:cY x=true):SeqAt.EqAt A s u v (Di y x):=by
 cases y with
 | W3 =>
  cases ry;cases x with
  | W3=>cases rx;exact SeqAt.EqAt.same _
  | bl b=>cases rx;exact SeqAt.EqAt.none_bool b
  | int b=>obtain⟨t,rfl⟩:=rx;exact SeqAt.EqAt.none_int b t
  | str b=>obtain⟨t,rfl⟩:=rx;exact SeqAt.EqAt.none_str b t
  | _=>exact absurd (show false=true from fx) Bool.false_ne_true
 | bl a =>
  cases ry;cases x with
  | W3=>cases rx;exact SeqAt.EqAt.bool_none a
  | bl b=>cases rx;exact SeqAt.EqAt.bool_bool a b
  | int b=>obtain⟨t,rfl⟩:=rx;exact SeqAt.EqAt.bool_int a b t
  | str b=>obtain⟨t,rfl⟩:=rx;exact SeqAt.EqAt.bool_str a b t
  | _=>exact absurd (show false=true from fx) Bool.false_ne_true
 | int a =>
  obtain⟨t',rfl⟩:=ry;cases x with
  | W3=>cases rx;exact SeqAt.EqAt.int_none a t'
  | bl b=>cases rx;exact SeqAt.EqAt.int_bool a t' b
  | int b=>obtain⟨t,rfl⟩:=rx;exact SeqAt.EqAt.int_int a t' b t
  | str b=>obtain⟨t,rfl⟩:=rx;exact SeqAt.EqAt.int_str a t' b t
  | _=>exact absurd (show false=true from fx) Bool.false_ne_true
 | str a =>
  obtain⟨t',rfl⟩:=ry;cases x with
  | W3=>cases rx;exact SeqAt.EqAt.str_none a t'
  | bl b=>cases rx;exact SeqAt.EqAt.str_bool a t' b
  | int b=>obtain⟨t,rfl⟩:=rx;exact SeqAt.EqAt.str_int a t' b t
  | str b=>obtain⟨t,rfl⟩:=rx;exact SeqAt.EqAt.str_str a t' b t
  | _=>exact absurd (show false=true from fx) Bool.false_ne_true
 | _=>exact absurd (show false=true from fy) Bool.false_ne_true
noncomputable def EO(x:V)(u:Value):Bool:=match u with
 | .none=>Di .W3 x
 | .bool b=>Di (.bl b) x
 | .int i _=>Di (.int i) x
 | .str z _=>Di (.str z) x
 | _=>false
theorem Jg{x y:V}{u:Value}(r:cA y u)(f:cY y=true):EO x u=Di y x:=by
 cases y with
 | W3=>cases r;rfl
 | bl b=>cases r;rfl
 | int i=>obtain⟨t,rfl⟩:=r;rfl
 | str z=>obtain⟨t,rfl⟩:=r;rfl
 | _=>exact absurd (show false=true from f) Bool.false_ne_true
theorem sA{x:V}:∀ {xs:List V} {us:List Value},Vals xs us->xs.all cY=true->us.any (EO x)=xs.any fun y=>Di y x
 | _,_,.nil,_=>rfl
 | y::xs,u::us,.cons r t,f=>by
  rw[List.all_cons,Bool.and_eq_true] at f;rw[List.any_cons,List.any_cons,Jg r f.1,sA t f.2]
theorem oG{A:Around}{s:Shared}{x:V}{v:Value}(rx:cA x v)(fx:cY x=true):∀ {xs:List V} {us:List Value},Vals xs us->xs.all cY=true->∀ u∈us,SeqAt.EqAt A s u v (EO x u)
 | _,_,.nil,_=>fun u hu=>by cases hu
 | y::xs,u::us,.cons r t,f=>fun u' hu=>by
  rw[List.all_cons,Bool.and_eq_true] at f;rcases List.mem_cons.mp hu with rfl|hu
  ·rw[Jg r f.1];exact Jf r rx f.1 fx
  ·exact oG rx fx t f.2 u' hu
noncomputable def cE(x:V)(xs:List V):Bool:=xs.any fun y=>Di y x
noncomputable def WG(K:q0B)(neg:Bool):R2:=fun x y H Q=>∃ p xs,y=.ref p/\(dZ K H p xs\/hJ K H p xs)/\cY x=true/\xs.all cY=true/\Q (.bl (if neg then !cE x xs else cE x xs)) H
theorem Hs:iX X (compareOp .In) (WG X.K false):=by
 intro WY s σ H x y v u Q I rx ry h;obtain⟨p,xs,rfl,hq,fx,fs,q⟩:=h;cases ry;rcases hq with hq|hq
 ·obtain⟨W2,r,pl,hz⟩:=I.list hq;refine SeqAt.in_listAt (EO x) pl.isList (fun w hw=>oG rx fx r fs w (by simpa using hw)) ⟨.bl _,H,I,rfl,?_⟩;rw[show W2.toArray.any (EO x)=W2.any (EO x) by simp,sA r fs];exact q
 ·obtain⟨W2,r,pl,hz⟩:=I.tuple hq;refine SeqAt.in_tupleAt (EO x) pl (fun w hw=>oG rx fx r fs w (by simpa using hw)) ⟨.bl _,H,I,rfl,?_⟩;rw[show W2.toArray.any (EO x)=W2.any (EO x) by simp,sA r fs];exact q
theorem sW:iX X (compareOp .NotIn) (WG X.K true):=by
 intro WY s σ H x y v u Q I rx ry h;obtain⟨p,xs,rfl,hq,fx,fs,q⟩:=h;cases ry;rcases hq with hq|hq
 ·obtain⟨W2,r,pl,hz⟩:=I.list hq;refine SeqAt.notIn_listAt (EO x) pl.isList (fun w hw=>oG rx fx r fs w (by simpa using hw)) ⟨.bl _,H,I,rfl,?_⟩;rw[show W2.toArray.any (EO x)=W2.any (EO x) by simp,sA r fs];exact q
 ·obtain⟨W2,r,pl,hz⟩:=I.tuple hq;refine SeqAt.notIn_tupleAt (EO x) pl (fun w hw=>oG rx fx r fs w (by simpa using hw)) ⟨.bl _,H,I,rfl,?_⟩;rw[show W2.toArray.any (EO x)=W2.any (EO x) by simp,sA r fs];exact q
theorem CM:iX X (compareOp .NotIn) (fun x y H Q=>∃ i j,x=.str i/\y=.str j/\Q (.bl (!(!(Builtin.Str.occurrences j i 0 j.length 1).isEmpty))) H):=by
 intro WY s σ H x y v u Q I rx ry h;obtain⟨i,j,rfl,rfl,q⟩:=h;obtain⟨t,rfl⟩:=rx;obtain⟨t',rfl⟩:=ry;exact notIn_str ⟨.bl _,H,I,rfl,q⟩
theorem eR.or{f:Value}{r r':List V->Hp->VK->Prop}(h:eR X f r)(h':eR X f r'):eR X f (fun xs H Q=>r xs H Q\/r' xs H Q):=by
 intro WY s σ H xs us Q I rs q;rcases q with q|q
 ·exact h WY s σ H xs us Q I rs q
 ·exact h' WY s σ H xs us Q I rs q
theorem AQ:eR X (.type "tuple") (fun xs H Q=>∃ p ys,xs=[.ref p]/\((dZ X.K H p ys/\∀ l,H l=none->Q (.ref l) (WZ H l (.tup ys)))\/(hJ X.K H p ys/\Q (.ref p) H))):=by
 intro WY s σ H xs us Q I r h;obtain⟨p,ys,rfl,h⟩:=h;obtain⟨u,rfl,rx⟩:=vals1 r;cases rx;rcases h with⟨hq,q⟩|⟨hq,q⟩
 ·obtain⟨W2,r',pl,hz⟩:=I.list hq;have hlen:=r'.length;refine call_tuple_list pl.isList (fun h' kp=>?_) (by simp only[List.size_toArray]<;>omega);have I1:W1 X WY σ H {s with heap:=h'}:=I.kept (t':=s.toks) kp;have I2:W1 X WY σ (WZ H h'.objs.size (.tup ys)) {s with heap:=h'.push {cls:=.type "tuple",data:=.seq W2.toArray}} :=
   I1.laid (t':=s.toks) (fun b o e=>Heap.get?_push_of_some _ e) (Nat.le_refl _) (show fT X.prog X.w _ _ _ (.tup ys) from ⟨hz,W2,r',IsTup.new _ _⟩)
  exact⟨.ref h'.objs.size,_,I2,rfl,q _ (I1.W5.fresh (Nat.le_refl _))⟩
 ·obtain⟨W2,r',pl,hz⟩:=I.tuple hq;exact call_tuple_same pl ⟨.ref p,H,I,rfl,q⟩
noncomputable def VH(K:q0B)(T:String)(x:V)(H:Hp):Prop:=match x with
  | .str _=>T = "str"
  | .int _=>T = "int"
  | .ref p=>(T = "list"/\∃ xs,dZ K H p xs)\/(T = "tuple"/\∃ o,K.lookup p=some o/\o.cls=.type "tuple"/\o.dict=none) \/
      (T = "dict"/\((∃ W0,H p=some (.dK W0))\/∃ W0,H p=some (.dT W0)))\/(T = "set"/\∃ S n,H p=some (.set S n))
  | _=>False
theorem De{WY:List (Addr×Obj)}{σ:St}{H:Hp}{s:Shared}{T:String}{x:V}{v:Value}(I:W1 X WY σ H s)(r:cA x v)(ty:VH X.K T x H) :
    s.TypeIs v T/\∀ a,v=.ref a->∃ ob,s.heap.get? a=some ob/\ob.dict=none:=by
  cases x with
  | str z =>
    obtain⟨t,rfl⟩:=r;cases (show T = "str" from ty);exact⟨typeIs_str s z t,fun _ e=>nomatch e⟩
  | int i =>
    obtain⟨t,rfl⟩:=r;cases (show T = "int" from ty);exact⟨typeIs_int s i t,fun _ e=>nomatch e⟩
  | ref p =>
    cases r;rcases ty with⟨rfl,xs,hq⟩|⟨rfl,o,hk,hc,hd⟩|⟨rfl,hk⟩|⟨rfl,S,n,hk⟩
    · obtain⟨W2,_,pl,_⟩:=I.list hq;refine⟨pl.isList.typeIs,fun a e=>?_⟩;cases e;obtain⟨o,n,e,c,hd,_⟩:=pl;exact⟨o,e,hd⟩
    · refine⟨⟨o,I.kIn p o hk,hc⟩,fun a e=>?_⟩;cases e;exact⟨o,I.kIn _ o hk,hd⟩
    · have z:∃ o,s.heap.get? p=some o/\o.ExactDict:=by
        rcases hk with⟨W0,hk⟩|⟨W0,hk⟩
        · obtain⟨_,_,_,_,o,_,_,e,ex,_⟩:=I.W5 p _ hk;exact⟨o,e,ex⟩
        · obtain⟨_,_,_,_,o,_,_,e,ex,_⟩:=I.W5 p _ hk;exact⟨o,e,ex⟩
      obtain⟨o,e,ex⟩:=z;refine⟨⟨o,e,ex.1⟩,fun a e2=>?_⟩;cases e2;exact⟨o,e,ex.2.1⟩
    · obtain⟨o,_,_,_,e,ex,_⟩:=I.W5 p _ hk;refine⟨⟨o,e,ex.1⟩,fun a e2=>?_⟩;cases e2;exact⟨o,e,ex.2.1⟩
  | _=>exact False.elim ty
noncomputable def WH(K:q0B)(T:String)(r:V->List V->Hp->VK->Prop)(to:TE)(t:TA):TE:=fun σ H Q=>to σ H fun x H1=>VH K T x H1/\t σ H1 fun xs H2=>r x xs H2 Q
variable {o e:Expr} {es:List Expr} {to:TE} {t:TA} {name:Str} {apos W6:Pos} {T id:String} {r:V->List V->Hp->VK->Prop}
theorem nE(pa:PlainAttrs T)(slot:Slot T name id)(hty:typeOf (.builtin id)=pure (.type "method_descriptor"))(hm:KP X id r)(ho:PE X o to)(ha:PA X (e::es) t)
    (XJ:attributeBase o name X.env (eval o X.env)=eval o X.env:=by rfl)
    (Y8:((backTo W6 (starEach (e::es) X.env)).all (fun x=>!x.1)&&(backToKw W6 (keywordEach [] X.env)).all (fun x=>x.1.isSome)
     &&decide ((e::es).length+([]:List Keyword).length+(if ([]:List Keyword).isEmpty then 0 else 1) < 30))=true:=by rfl)
    (XN:(apos.endLine==W6.line)=true:=by rfl) (hs:starEach (e::es) X.env=(false,eval e X.env)::starEach es X.env:=by rfl) (XR:(backTo W6 (starEach es X.env)).any (·.1)=false:=by rfl) :
    PE X (.Call (.Attribute o name apos) (e::es) [] W6) (WH X.K T r to t):=by
  intro WY s σ H Q I h;refine wpAny_Call_method_late XJ Y8 XN rfl (thn (ho WY s σ H _ I h) fun v s1 ⟨x,H1,I1,r1,ty,q1⟩=>?_);obtain⟨h1,h2⟩:=De I1 r1 ty;refine⟨T,id,pa,slot,hty,h1,h2,?_⟩;have hA:=ha W6 WY s1 σ H1 _ I1 q1;rw[hs] at hA ⊢;refine Calls.callWith_builtin (by show(false||(backTo W6 (starEach es X.env)).any (·.1))=false;rw[XR]<;>rfl) (Calls.evalArgs_plain ?_);exact thn hA fun us s2 ⟨vs,H2,I2,r2,q2⟩=>hm WY s2 σ H2 x vs v us Q I2 r1 r2 q2
/- xs.append(e),list.index on a module's tuple .. are KP facts of 06m -/
end
noncomputable def RM(X:Cx)(id:String)(r:V->List V->Hp->VK->Prop):Prop :=
 ∀(WY:List (Addr×Obj)) (s:Shared) (σ:St) (H:Hp) (x:V) (xs:List V) (v:Value) (us:List Value) (Q:VK),W1 X WY σ H s->cA x v->Vals xs us->r x xs H Q ->
  wpAny (model X.prog X.w) X.A (call (.builtin id) (v::us)) (EP X WY σ Q) X.xe s
theorem Vals.one{x:V}{us:List Value}(h:Vals [x] us):∃ u,us=[u]/\cA x u:=by
 cases h with
 | cons r t=>cases t;exact⟨_,rfl,r⟩
theorem Vals.two:∀ {x y:V} {us:List Value},Vals [x,y] us->∃ u v,us=[u,v]/\cA x u/\cA y v
 | _,_,_,.cons r (.cons q .nil)=>⟨_,_,rfl,r,q⟩
theorem Vals.zero:∀ {us:List Value},Vals [] us->us=[]
 | _,.nil=>rfl
theorem Vals.dropLast{xs:List V}{us:List Value}(h:Vals xs us):Vals xs.dropLast us.dropLast:=by
 induction h with
 | nil=>exact .nil
 | cons r t ih =>
  cases t with
  | nil=>exact .nil
  | cons q t'=>exact .cons r ih
theorem Vals.eraseIdx:∀ {xs:List V} {us:List Value} (i:Nat),Vals xs us->Vals (xs.eraseIdx i) (us.eraseIdx i)
 | _,_,_,.nil=>.nil
 | _,_,0,.cons _ t=>t
 | _,_,i+1,.cons r t=>.cons r (Vals.eraseIdx i t)
theorem Vals.reverse{xs:List V}{us:List Value}(h:Vals xs us):Vals xs.reverse us.reverse:=by
 induction h with
 | nil=>exact .nil
 | cons r t ih=>rw[List.reverse_cons,List.reverse_cons];exact Vals.append ih (.cons r .nil)
theorem ER{α:Type}(l:List α):l.eraseIdx (l.length - 1)=l.dropLast:=by
 induction l with
 | nil=>rfl
 | cons a r ih =>
  cases r with
  | nil=>rfl
  | cons b r =>
   have e:(a::b::r).length - 1=((b::r).length - 1)+1:=by
    have h1:(a::b::r).length=r.length+2:=rfl;have h2:(b::r).length=r.length+1:=rfl;omega
   rw[e,List.eraseIdx_cons_succ,ih]
   all_goals rfl
theorem BA{α:Type}:∀(l:List α) (i:Nat),(l.eraseIdx i).length<=l.length
 | [],_=>Nat.le_refl _
 | _::_,0=>Nat.le_succ _
 | _::r,i+1=>Nat.succ_le_succ (BA r i)
section
variable {X:Cx} {WY:List (Addr×Obj)} {σ:St} {H:Hp} {s:Shared} {l b:Addr} {xs ys zs:List V}
theorem W1.QJ{W2 its':List Value}{n:Nat}{f:Array Value->Array Value}{t':Nat}(I:W1 X WY σ H s)(hH:H l=some (.lst xs))
    (e:s.heap.get? l=some {cls:=.type "list",data:=.seq W2.toArray n}) (hf:f W2.toArray=its'.toArray) (hv:Vals ys its') (hz:ys.length<=sizeLine) :
    W1 X WY σ (WZ H l (.lst ys)) {s with heap:=s.heap.update l (Obj.mapSeq f),toks:=t'}:=by
  have q:=PySem.IsL.update e f;rw[hf] at q;refine I.write (x:=l) (e:=l) (by rw[hH];exact trivial) (.inl rfl) (fun b' u hb hu=>(Heap.get?_update_other s.heap (Obj.mapSeq f) (Ne.symm hb)).trans hu) ⟨_,q⟩ ?_;exact⟨hz,its',_,hv,q⟩
theorem W1.Wp{W2:List Value}{t':Nat}(I:W1 X WY σ H s)(hv:Vals ys W2)(hz:ys.length<=sizeLine) :
    W1 X WY σ (WZ H s.heap.objs.size (.lst ys)) {s with heap:=s.heap.push {cls:=.type "list",data:=.seq W2.toArray},toks:=t'} :=
  I.laid (fun _ _ q=>Heap.get?_push_of_some _ q) (Nat.le_refl _) ⟨hz,W2,0,hv,Heap.get?_push_size _ rfl⟩
theorem W1.fresh(I:W1 X WY σ H s):H s.heap.objs.size=none:=I.W5.fresh (Nat.le_refl _)
theorem W1.Jv(I:W1 X WY σ H s)(hH:H l=some (.lst xs)):xs.length<=sizeLine/\∃(W2:List Value) (n:Nat),Vals xs W2/\xs.length=W2.length/\s.heap.get? l=some {cls:=.type "list",data:=.seq W2.toArray n}:=by
 obtain⟨z,W2,n,r,e⟩:=I.W5 l _ hH;exact⟨z,W2,n,r,r.length,e⟩
end
section
variable {X:Cx}
noncomputable def MK:V->List V->Hp->VK->Prop:=fun x vs H Q=>∃ l xs y,x=.ref l/\vs=[y]/\H l=some (.lst xs)/\xs.length < sizeLine/\Q .W3 (WZ H l (.lst (xs++[y])))
theorem Hq:RM X "list.append" MK:=by
 intro WY s σ H x vs v us Q I rx rv h;obtain⟨l,xs,y,rfl,rfl,hH,hz,q⟩:=h;cases rx;obtain⟨u,rfl,ru⟩:=rv.one;obtain⟨z,W2,n,r,hl,e⟩:=I.Jv hH;refine call_meets F.slot_list_append ⟨_,e,rfl⟩ F.entry_list_append (F.args_list_append_2 _ _) (PySem.list_append l W2.toArray n u (by rw[List.size_toArray];omega)) ⟨e,?_⟩;refine⟨.W3,_,I.QJ (its':=W2++[u]) hH e (by simp) (r.append (.cons ru .nil)) ?_,rfl,q⟩;rw[List.length_append,List.length_singleton];omega
noncomputable def Wt:V->List V->Hp->VK->Prop:=fun x vs H Q=>∃ l xs y,x=.ref l/\vs=[]/\H l=some (.lst xs)/\xs[xs.length - 1]?=some y/\Q y (WZ H l (.lst xs.dropLast))
theorem QM:RM X "list.pop" Wt:=by
 intro WY s σ H x vs v us Q I rx rv h;obtain⟨l,xs,y,rfl,rfl,hH,hy,q⟩:=h;cases rx;have hus:=rv.zero;subst hus;obtain⟨z,W2,n,r,hl,e⟩:=I.Jv hH;obtain⟨u,hu,ru⟩:=r.get hy;have hy':W2.toArray[W2.toArray.size - 1]?=some u:=by
  show W2.toArray[W2.length - 1]?=some u;rw[<- Array.getElem?_toList,<- hl];exact hu
 refine call_meets F.slot_list_pop ⟨_,e,rfl⟩ F.entry_list_pop (F.args_list_pop_1 _) (MeetsSeq.list_pop_last l W2.toArray n u hy' (by rw[List.size_toArray];omega)) ⟨e,?_⟩;refine⟨y,_,I.QJ (its':=W2.dropLast) hH e ?_ r.dropLast ?_,ru,q⟩
 ·show W2.toArray.eraseIdxIfInBounds (W2.toArray.size - 1)=W2.dropLast.toArray;rw[List.size_toArray,List.eraseIdxIfInBounds_toArray,ER]
 ·rw[List.length_dropLast];omega
noncomputable def Q2:V->List V->Hp->VK->Prop:=fun x vs H Q=>∃ l xs i k y,x=.ref l/\vs=[.int i]/\H l=some (.lst xs)/\-(2 ^ 63)<=i/\i < 2 ^ 63/\seqIndex? i xs.length=some k/\xs[k]?=some y/\Q y (WZ H l (.lst (xs.eraseIdx k)))
theorem JK:RM X "list.pop" Q2:=by
 intro WY s σ H x vs v us Q I rx rv h;obtain⟨l,xs,i,k,y,rfl,rfl,hH,h1,h2,hk,hy,q⟩:=h;cases rx;obtain⟨u,rfl,ru⟩:=rv.one;obtain⟨t,rfl⟩:=ru;obtain⟨z,W2,n,r,hl,e⟩:=I.Jv hH;obtain⟨w,hw,rw'⟩:=r.get hy;refine call_meets F.slot_list_pop ⟨_,e,rfl⟩ F.entry_list_pop (F.args_list_pop_2 _ _)
  (MeetsSeq.list_pop_at l W2.toArray n i t k w (fitsIndex_both h1 h2) (by rw[List.size_toArray,<- hl];exact hk) (by rw[<- Array.getElem?_toList];exact hw) (by rw[List.size_toArray];omega)) ⟨e,?_⟩
 refine⟨y,_,I.QJ (its':=W2.eraseIdx k) hH e ?_ (r.eraseIdx k) ?_,rw',q⟩
 ·show W2.toArray.eraseIdxIfInBounds k=(W2.eraseIdx k).toArray;rw[List.eraseIdxIfInBounds_toArray]
 ·have:=BA xs k;omega
noncomputable def Ws:R2:=fun x y H Q=>∃ l b xs zs,x=.ref l/\y=.ref b/\H l=some (.lst xs)/\H b=some (.lst zs)/\xs.length+zs.length<=sizeLine/\∀ p,H p=none->Q (.ref p) (WZ H p (.lst (xs++zs)))
theorem QR:iX X (binaryOp .Add) Ws:=by
 intro WY s σ H x y v u Q I rx ry h;obtain⟨l,b,xs,zs,rfl,rfl,hH,hB,hz,q⟩:=h;cases rx;cases ry;obtain⟨z,W2,n,r,hl,e⟩:=I.Jv hH;obtain⟨z2,Yl,n2,r2,XM,e2⟩:=I.Jv hB;refine PySem.P.add_list e e2 ?_ (by rw[List.size_toArray,List.size_toArray];omega);have ea:W2.toArray++Yl.toArray=(W2++Yl).toArray:=by simp
 rw[ea];exact⟨.ref _,_,I.Wp (t':=s.toks) (r.append r2) (by rw[List.length_append];omega),rfl,q _ I.fresh⟩
end
section
variable {κ:Type} [DecidableEq κ]
noncomputable def dX(W0:List (κ×V))(k:κ):Option V:=(W0.find? fun kv=>decide (kv.1=k)).map (·.2)
noncomputable def k9(W0:List (κ×V))(k:κ)(v:V):List (κ×V) :=
 if (W0.any fun kv=>decide (kv.1=k))=true then W0.map (fun kv=>if kv.1=k then (kv.1,v) else kv) else W0++[(k,v)]
noncomputable def Bs(W0:List (κ×V))(k:κ):List (κ×V):=W0.filter fun kv=>decide (kv.1≠k)
theorem AG{p:κ×V}{r:List (κ×V)}{k:κ}(e:p.1=k):dX (p::r) k=some p.2:=by simp[dX,List.find?_cons,e]
theorem AF{p:κ×V}{r:List (κ×V)}{k:κ}(e:¬ p.1=k):dX (p::r) k=dX r k:=by simp[dX,List.find?_cons,e]
theorem pC(k:κ):∀ W0:List (κ×V),(W0.any fun kv=>decide (kv.1=k))=(dX W0 k).isSome
 | []=>rfl
 | p::r=>by
  rw[List.any_cons];by_cases e:p.1=k
  ·simp only[AG e,decide_eq_true e,Bool.true_or,Option.isSome_some]
  ·rw[AF e,decide_eq_false e,Bool.false_or];exact pC k r
theorem J2{W0:List (κ×V)}{k:κ}(v:V)(h:dX W0 k=none):k9 W0 k v=W0++[(k,v)]:=by
 unfold k9;rw[pC,h];exact if_neg (by decide)
theorem p9.Hf{o:Option V}{u:Option Value}(r:p9 o u):o.isSome=u.isSome:=by
 cases o with
 | none=>cases u with
  | none=>rfl
  | some _=>exact(show False from r).elim
 | some _=>cases u with
  | none=>exact(show False from r).elim
  | some _=>rfl
theorem p9.getD{o:Option V}{u:Option Value}{d:V}{d':Value}(r:p9 o u)(rd:cA d d'):cA (o.getD d) (u.getD d'):=by
 cases o with
 | none=>cases u with
  | none=>exact rd
  | some _=>exact(show False from r).elim
 | some _=>cases u with
  | none=>exact(show False from r).elim
  | some _=>exact r
theorem KV.val{W0:List (κ×V)}{vs:List (κ×Value)}(r:KV W0 vs)(k:κ):p9 (dX W0 k) (valueAt vs k):=by
 unfold KV at r
 induction r with
 | nil=>exact True.intro
 | @cons p q ps qs h t ih =>
  obtain⟨h1,h2⟩:=h;by_cases e:p.1=k
  ·have e':q.1=k:=h1.symm.trans e;have b:valueAt (q::qs) k=some q.2:=by simp[valueAt,List.find?_cons,e']
   rw[AG e,b];exact h2
  ·have e':¬ q.1=k:=fun z=>e (h1.trans z);have b:valueAt (q::qs) k=valueAt qs k:=by simp[valueAt,List.find?_cons,e']
   rw[AF e,b];exact ih
theorem KV.any{W0:List (κ×V)}{vs:List (κ×Value)}(r:KV W0 vs)(k:κ):(W0.any fun kv=>decide (kv.1=k))=vs.any fun kv=>decide (kv.1=k):=by
 unfold KV at r
 induction r with
 | nil=>rfl
 | cons h t ih=>rw[List.any_cons,List.any_cons,ih,h.1]
theorem KV.Q5{W0:List (κ×V)}{vs:List (κ×Value)}(r:KV W0 vs)(k:κ){y:V}{u:Value}(ry:cA y u) :
    KV (W0.map fun kv=>if kv.1=k then (kv.1,y) else kv) (vs.map fun kv=>if kv.1=k then (kv.1,u) else kv):=by
  unfold KV at r ⊢
  induction r with
  | nil=>exact .nil
  | @cons p q ps qs h t ih =>
    rw[List.map_cons,List.map_cons];refine .cons ?_ ih;obtain⟨h1,h2⟩:=h;by_cases e:p.1=k
    · rw[if_pos e,if_pos (h1.symm.trans e)];exact⟨h1,ry⟩
    · rw[if_neg e,if_neg (fun z=>e (h1.trans z))];exact⟨h1,h2⟩
theorem KV.put{W0:List (κ×V)}{vs:List (κ×Value)}(r:KV W0 vs)(k:κ){y:V}{u:Value}(ry:cA y u):KV (k9 W0 k y) (stored vs k u):=by
 unfold k9 stored;rw[r.any k];by_cases e:(vs.any fun kv=>decide (kv.1=k))=true
 ·rw[if_pos e,if_pos e];exact r.Q5 k ry
 ·rw[if_neg e,if_neg e];exact Paired.snoc r ⟨rfl,ry⟩
theorem KV.drop{W0:List (κ×V)}{vs:List (κ×Value)}(r:KV W0 vs)(k:κ):KV (Bs W0 k) (without vs k):=by
 unfold KV at r ⊢;unfold Bs without
 induction r with
 | nil=>exact .nil
 | @cons p q ps qs h t ih =>
  obtain⟨h1,h2⟩:=h;rw[List.filter_cons,List.filter_cons];by_cases e:p.1=k
  ·have a:¬ decide (p.1≠k)=true:=by simp[e]
   have b:¬ decide (q.1≠k)=true:=by simp[h1.symm.trans e]
   rw[if_neg a,if_neg b];exact ih
  ·have e':¬ q.1=k:=fun z=>e (h1.trans z);have a:decide (p.1≠k)=true:=by simp[e]
   have b:decide (q.1≠k)=true:=by simp[e']
   rw[if_pos a,if_pos b];exact .cons ⟨h1,h2⟩ ih
theorem KV.keys{W0:List (κ×V)}{vs:List (κ×Value)}(r:KV W0 vs):W0.map (·.1)=vs.map (·.1):=by
 unfold KV at r
 induction r with
 | nil=>rfl
 | cons h t ih=>rw[List.map_cons,List.map_cons,ih,h.1]
theorem KV.length{W0:List (κ×V)}{vs:List (κ×Value)}(r:KV W0 vs):W0.length=vs.length:=Paired.length r
end
theorem Ug{P:Program}{w:World}{k:Key}{u:Value}(r:cA (kV k) u):(gE P w).is k u=true:=by
 cases k with
 | inl i=>obtain⟨t,e⟩:=(show ∃ t,u=Value.int i t from r);subst e;exact DV P w i t
 | inr x=>obtain⟨t,e⟩:=(show ∃ t,u=Value.str x t from r);subst e;exact wF P w x t
 | no=>cases (show u=Value.none from r);rfl
theorem By{P:Program}{w:World}:∀ {ks:List Key} {us:List Value},Vals (ks.map kV) us->ItemsAre (gE P w) ks us
 | [],_,r=>by rw[List.map_nil] at r;cases r;exact .nil
 | k::ks,_,r=>by
  rw[List.map_cons] at r;cases r with
  | cons h t=>exact .cons (Ug h) (By t)
noncomputable abbrev KT(H:Hp):List (List Key×V)->List (List Key×Addr×Value)->Prop:=Paired fun p q=>p.1=q.1/\H q.2.1=some (.tup (p.1.map kV))/\cA p.2 q.2.2
theorem KT.val{H:Hp}{W0:List (List Key×V)}{xs:List (List Key×Addr×Value)}(r:KT H W0 xs)(k:List Key):p9 (dX W0 k) ((atKey xs k).map (·.2)):=by
 induction r with
 | nil=>exact True.intro
 | @cons p q ps qs h t ih =>
  obtain⟨h1,_,h2⟩:=h;by_cases e:p.1=k
  ·have e':q.1=k:=h1.symm.trans e;have b:atKey (q::qs) k=some q.2:=by simp[atKey,List.find?_cons,e']
   rw[AG e,b];exact h2
  ·have e':¬ q.1=k:=fun z=>e (h1.trans z);have b:atKey (q::qs) k=atKey qs k:=by simp[atKey,List.find?_cons,e']
   rw[AF e,b];exact ih
theorem KT.Q5{H:Hp}{W0:List (List Key×V)}{xs:List (List Key×Addr×Value)}(r:KT H W0 xs)(k:List Key){y:V}{u:Value}(ry:cA y u) :
    KT H (W0.map fun kv=>if kv.1=k then (kv.1,y) else kv) (xs.map (putAt k u)):=by
  induction r with
  | nil=>exact .nil
  | @cons p q ps qs h t ih =>
    rw[List.map_cons,List.map_cons];refine .cons ?_ ih;obtain⟨h1,h2,h3⟩:=h;unfold putAt;by_cases e:p.1=k
    · rw[if_pos e,if_pos (h1.symm.trans e)];exact⟨h1,h2,ry⟩
    · rw[if_neg e,if_neg (fun z=>e (h1.trans z))];exact⟨h1,h2,h3⟩
theorem KT.put{H:Hp}{W0:List (List Key×V)}{xs:List (List Key×Addr×Value)}(r:KT H W0 xs)(k:List Key){b:Addr}{y:V}{u:Value}(hb:H b=some (.tup (k.map kV)))(ry:cA y u) :
    KT H (k9 W0 k y) (storedH xs k b u):=by
  have e:(W0.any fun kv=>decide (kv.1=k))=(atKey xs k).isSome:=by
    rw[pC,(r.val k).Hf,Option.isSome_map]
  unfold k9 storedH;rw[e];by_cases q:(atKey xs k).isSome=true
  · rw[if_pos q,if_pos q];exact r.Q5 k ry
  · rw[if_neg q,if_neg q];exact Paired.snoc r ⟨rfl,hb,ry⟩
theorem KT.keeps{H H':Hp}{W0:List (List Key×V)}{xs:List (List Key×Addr×Value)}(r:KT H W0 xs)(ht:∀ b ys,H b=some (.tup ys)->H' b=some (.tup ys)):KT H' W0 xs :=
 Paired.QL r fun _ _ z=>⟨z.1,ht _ _ z.2.1,z.2.2⟩
section
variable {P:Program} {w:World} {H:Hp} {h:Heap} {a:Addr}
theorem NJ{u:HO}(ok:HOk P w H h)(e:Rd H a u):fT P w H h a u:=e.ok ok
theorem Sm{W0:List (Key×V)}(ok:HOk P w H h)(e:Rd H a (.dK W0)):W0.length<=sizeLine/\(a==sysModules)=false/\∃ vs,KV W0 vs/\h.DictOf (gE P w) a vs :=
 show fT P w H h a (.dK W0) from NJ ok e
theorem QG{ks:List Key}(ok:HOk P w H h)(e:H a=some (.tup (ks.map kV))):(tupleKind (gE P w)).is h ks a:=by
 obtain⟨_,W2,r,o,h1,h2,n,h3⟩:=(show fT P w H h a (.tup (ks.map kV)) from ok a _ e);exact⟨o,W2.toArray,n,h1,h2,h3,by simpa using By r⟩
theorem Sn{W0:List (List Key×V)}(ok:HOk P w H h)(e:Rd H a (.dT W0)):W0.length<=sizeLine/\(a==sysModules)=false /\
    ∃ xs,KT H W0 xs/\h.DictOfH (tupleKind (gE P w)) a xs:=by
  obtain⟨z,y,xs,r,o,es,ep,h1,h2,h3,h4,h5⟩:=(show fT P w H h a (.dT W0) from NJ ok e);refine⟨z,y,xs,r,o,es,ep,h1,h2,h3,h4,fun x hx=>?_,h5⟩;have all:∀ {l:List (List Key×V)} {m:List (List Key×Addr×Value)},KT H l m->∀ x∈m,(tupleKind (gE P w)).is h x.1 x.2.1:=by
    intro l m q
    induction q with
    | nil=>intro x hx;exact nomatch hx
    | @cons p q ps qs hq t ih =>
      intro x hx;rcases List.mem_cons.mp hx with e|hx
      · subst e;exact QG ok (by rw[<- hq.1];exact hq.2.1)
      · exact ih x hx
  exact all r x hx
end
noncomputable def XD(H:Hp)(a:Addr)(y:V)(r:Option V):Prop :=
 (∃ W0 k,Rd H a (.dK W0)/\y=kV k/\r=dX W0 k)\/∃ W0 k b,Rd H a (.dT W0)/\y=.ref b/\H b=some (.tup (k.map kV))/\r=dX W0 k
noncomputable def DPut(H:Hp)(a:Addr)(y v:V)(H':Hp):Prop :=
 (∃ W0 k,H a=some (.dK W0)/\y=kV k/\W0.length < sizeLine/\H'=WZ H a (.dK (k9 W0 k v))) \/
 ∃ W0 k b,H a=some (.dT W0)/\y=.ref b/\H b=some (.tup (k.map kV))/\W0.length < sizeLine/\H'=WZ H a (.dT (k9 W0 k v))
theorem XD.k{H:Hp}{a:Addr}{W0:List (Key×V)}{k:Key}(e:H a=some (.dK W0)):XD H a (kV k) (dX W0 k):=.inl ⟨W0,k,.inl e,rfl,rfl⟩
theorem XD.t{H:Hp}{a b:Addr}{W0:List (List Key×V)}{k:List Key}(e:H a=some (.dT W0))(eb:H b=some (.tup (k.map kV))):XD H a (.ref b) (dX W0 k):=.inr ⟨W0,k,b,.inl e,rfl,eb,rfl⟩
theorem DPut.k{H:Hp}{a:Addr}{W0:List (Key×V)}{k:Key}{v:V}(e:H a=some (.dK W0))(hl:W0.length < sizeLine):DPut H a (kV k) v (WZ H a (.dK (k9 W0 k v))):=.inl ⟨W0,k,e,rfl,hl,rfl⟩
theorem DPut.t{H:Hp}{a b:Addr}{W0:List (List Key×V)}{k:List Key}{v:V}(e:H a=some (.dT W0))(eb:H b=some (.tup (k.map kV)))(hl:W0.length < sizeLine) :
    DPut H a (.ref b) v (WZ H a (.dT (k9 W0 k v))):=.inr ⟨W0,k,b,e,rfl,eb,hl,rfl⟩
section
variable {X:Cx} {WY:List (Addr×Obj)} {σ:St} {H:Hp} {s:Shared} {a:Addr} {y v:V} {u r:Value} {o:Option V} {A:Around} {E:q0A}
end
section
variable {X:Cx} {WY:List (Addr×Obj)} {σ:St} {H:Hp} {s:Shared} {a:Addr} {W0:List (Key×V)} {k:Key} {u:Value} {A:Around} {E:q0A}
end
theorem DB{X:Cx}{WY:List (Addr×Obj)}{σ:St}{H:Hp}{s:Shared}{a:Addr}{y:V}{o:Option V}(I:W1 X WY σ H s)(g:XD H a y o):s.TypeIs (.ref a) "dict":=by
 rcases g with⟨W0,k,e,_,_⟩|⟨W0,k,b,e,_,_,_⟩
 ·obtain⟨_,_,vs,_,dd⟩:=Sm I.W5 e;exact dd.typeIs
 ·obtain⟨_,_,xs,_,dd⟩:=Sn I.W5 e;exact dd.typeIs
noncomputable def NR(td ty:TE):TE:=fun σ H Q=>td σ H fun x H1=>ty σ H1 fun y H2=>∃ a v,x=.ref a/\XD H2 a y (some v)/\Q v H2
noncomputable def U0(ty td:TE):TE:=fun σ H Q=>ty σ H fun y H1=>td σ H1 fun x H2=>∃ a o,x=.ref a/\XD H2 a y o/\Q (.bl o.isSome) H2
section
variable {X:Cx} {o i e value:Expr} {pos pos' aaI:Pos} {td ty tv:TE}
end
noncomputable def Rp:TE:=fun _ H Q=>∀ p,H p=none->Q (.ref p) (WZ H p (.dK []))
section
variable {X:Cx} {pos:Pos}
end
noncomputable def Ku:List (TE×TE)->St->Hp->(List (V×V)->Hp->Prop)->Prop
 | [],_,H,Q=>Q [] H
 | (tk,tv)::r,σ,H,Q=>tk σ H fun x H1=>tv σ H1 fun y H2=>Ku r σ H2 fun ps H3=>Q ((x,y)::ps) H3
noncomputable abbrev VV:List (V×V)->List (Value×Value)->Prop:=Paired fun p q=>cA p.1 q.1/\cA p.2 q.2
noncomputable def PPs(X:Cx)(pos:Pos)(keys:List (Option Expr))(values:List Expr)(trs:List (TE×TE)):Prop :=
 ∀(WY:List (Addr×Obj)) (s:Shared) (σ:St) (H:Hp) (Q:List (V×V)->Hp->Prop),W1 X WY σ H s->Ku trs σ H Q ->
  wpAny (model X.prog X.w) X.A (evalPairs (pairTrees keys values X.env pos)) (fun vs s'=>∃ ps H',W1 X WY σ H' s'/\VV ps vs/\Q ps H') X.xe s
noncomputable def JC(W0 more:List (Key×V)):List (Key×V):=more.foldl (fun acc kv=>k9 acc kv.1 kv.2) W0
structure M1(X:Cx)(o:Expr)(m:Str)(apos:Pos)(e:Expr)(W6:Pos):Prop where
 base:attributeBase o m X.env (eval o X.env)=eval o X.env
 few:((backTo W6 (starEach [e] X.env)).all (fun x=>!x.1)&&(backToKw W6 (keywordEach [] X.env)).all (fun x=>x.1.isSome)
 &&decide (([e]:List Expr).length+([]:List Keyword).length+(if ([]:List Keyword).isEmpty then 0 else 1) < 30))=true
 line:(apos.endLine==W6.line)=true
 trees:backTo W6 (starEach [e] X.env)=[(false,eval e X.env)]
structure M2(X:Cx)(o:Expr)(m:Str)(apos:Pos)(e f:Expr)(W6:Pos):Prop where
 base:attributeBase o m X.env (eval o X.env)=eval o X.env
 few:((backTo W6 (starEach [e,f] X.env)).all (fun x=>!x.1)&&(backToKw W6 (keywordEach [] X.env)).all (fun x=>x.1.isSome)
 &&decide (([e,f]:List Expr).length+([]:List Keyword).length+(if ([]:List Keyword).isEmpty then 0 else 1) < 30))=true
 line:(apos.endLine==W6.line)=true
 trees:backTo W6 (starEach [e,f] X.env)=[(false,eval e X.env),(false,eval f X.env)]
noncomputable def VB(H:Hp)(a:Addr):Prop:=(∃ W0,Rd H a (.dK W0))\/∃ W0,Rd H a (.dT W0)
section
variable {X:Cx} {WY:List (Addr×Obj)} {σ:St} {H:Hp} {s:Shared} {a:Addr} {y d:V} {u r:Value} {o:Option V} {A:Around} {E:q0A}
end
noncomputable def Kq(td ty:TE):TE:=fun σ H Q=>td σ H fun x H1=>∃ a,x=.ref a/\VB H1 a/\ty σ H1 fun y H2=>∃ o,XD H2 a y o/\Q (o.getD .W3) H2
noncomputable def Kr(td ty tx:TE):TE:=fun σ H Q=>td σ H fun x H1=>∃ a,x=.ref a/\VB H1 a/\ty σ H1 fun y H2=>tx σ H2 fun z H3=>∃ W0 k,H3 a=some (.dK W0)/\y=kV k /\
 (∀ v,dX W0 k=some v->Q v (WZ H3 a (.dK (Bs W0 k))))/\(dX W0 k=none->Q z H3)
section
variable {X:Cx} {o e f:Expr} {apos W6:Pos} {td ty tx:TE}
end
section
variable {X:Cx} {WY:List (Addr×Obj)} {σ:St} {H:Hp} {s:Shared} {a:Addr} {W0:List (Key×V)} {A:Around} {E:q0A}
end
section
variable {X:Cx} {WY:List (Addr×Obj)} {σ:St} {H:Hp} {s:Shared} {a:Addr} {y:V} {u:Value} {A:Around} {E:q0A}
end
end L2
namespace Att
open PySem PySem.W PySem.Calls PyProof.Rows
theorem wV{P:Params}{h:Heap}:∀(ns:List Int) (vs:List Value),WellAll P h vs (ns.map WData.int)->IntsAre vs ns:=by
 intro ns
 induction ns with
 | nil =>
  intro vs w;rw[List.map_nil] at w;cases w;exact .nil
 | cons n ns ih =>
  intro vs w;rw[List.map_cons] at w;cases w with
  | cons a b =>
   cases a;exact .cons _ _ (ih _ b)
theorem HE{l:OpenLaw}{n:Nat}(hn:l.most=some n){P:Params}{h:Heap}{args:List WData}{vals:List Value}
    (ZJ:l.row.toRowW.claim.pre args=true) (X2:WellAll P h vals args) :
    ∃ a vs ns,vals=[Value.ref a]/\args=[WData.list (ns.map WData.int)]/\h.get? a=some {cls:=.type "list",data:=.seq vs.toArray}/\IntsAre vs ns/\ns.length<=n:=by
  have hsh:WShape.hasAll [] args [.list .int]=true:=(pre_splitW ZJ).1;have hc:l.pre.holds [] {args:=args}=true:=(pre_splitW ZJ).2;obtain⟨d,r,rfl,h1,h2⟩:=hasAllW_cons hsh;obtain rfl:=hasAllW_nil h2;obtain⟨xs,rfl,h3⟩:=hasW_list h1;obtain⟨ns,rfl⟩:=items_int h3;have hlen:ns.length<=n:=by
    unfold OpenLaw.pre at hc;have h4:(WTm.not (.lt (.lit (.int (n:Int))) (.len (.arg 0)))).holds [] {args:=[.list (ns.map .int)]}=true:=by
      have h4:=(holds_andW hc).1;rw[hn] at h4;exact h4
    have h5:=condW_of h4 (w_not (w_lt w_lit (w_len_list (w_arg rfl))));rw[List.length_map] at h5;refine Nat.le_of_not_lt fun q=>?_;have q':(n:Int) < ((ns.length:Nat):Int):=by omega
    first
      | (rw[decide_eq_true q'] at h5;exact absurd h5 (by decide))
      | (simp at h5;omega)
  cases X2 with
  | cons w1 w2 =>
    cases w2;cases w1 with
    | list ho ab6=>exact⟨_,_,ns,rfl,rfl,ho,wV ns _ ab6,hlen⟩
theorem Hx(l:OpenLaw)(args:List WData):l.row.toRowW.claim.post args (.bool true) args=true :=
 postW_of (r:=l.row.toRowW) (X:=(true==true))
  (show WShape.has [] (.bool true) .bool=true by first|rfl|decide|simp[WShape.has,WShape.arms,WShape.armsAll])
  (show(WTm.eq .res (.lit (.bool true))).value [] {args:=args,res:=some (.bool true),after:=args}=some (.bool (true==true)) from w_eq_bool (w_res rfl) w_lit) rfl
theorem Dn{l:OpenLaw}{n:Nat}{q:Program}{loose:List Str}{XP:(q0C)->Heap->Prop}{YP:World->Heap->Prop}{d:DefRec}
    (hn:l.most=some n) (ZH:d.params.defaults=[])
    (call:∀(w:World) (s₀ s₁:Shared) (mg mb:q0C) (fa:Addr) (o:Obj) (pm cd doc:Value) (a:Addr) (vs:List Value) (ns:List Int),
      Ground q loose [] XP w s₀ mg mb s₁.heap->YP w s₁.heap ->
      s₁.heap.get? fa=some o->o.data=.func (docDef d.name d.params d.body d.scope pm cd doc)->s₁.heap.CodeRec cd d.name->mg d.name=some (.ref fa) ->
      s₁.heap.get? a=some {cls:=.type "list",data:=.seq vs.toArray}->IntsAre vs ns->ns.length<=n->s₁.gens = #[] ->
      codeAny (model l.prog w) callerA (.call (.ref fa) ⟨[.ref a],[]⟩) (fun r s'=>r=.ok (.ret (.bool true))/\OldK s₁.heap s'.heap/\s'.os=s₁.os/\AllBare s'.gens) s₁) :
    WalkO q loose XP YP l.row.toRowW d [] (fun f vs=>PySem.call f vs):=by
  intro w s₀ s₁ mg mb G Y fa o pm cd doc dV kV ho hd YJ hD hmg hg args vals as ZJ acO hrd X2 hlo;obtain rfl:dV=.none:=Dflts.none hD ZH;obtain rfl:kV=.none:=Dflts.noKw hD;obtain⟨a,vs,ns,rfl,rfl,aaF,hints,hlen⟩:=HE hn ZJ X2;refine enter_call (codeAny_mono (call w s₀ s₁ mg mb fa o pm cd doc a vs ns G Y ho (fd_plain hd) YJ hmg aaF hints hlen hg) fun r s' hq=>?_);obtain⟨rfl,h2,h3,h4⟩:=hq;exact⟨.inl ⟨.bool true,.bool true,[],rfl,fun _=>rfl,.bool true,Hx l _,fun _=>⟨List.Pairwise.nil,fun _ hm=>(nomatch hm)⟩⟩,h2,h3,h4⟩
section
variable {prog:Program} {w:World} {A:Around} {E:q0A} {s:Shared} {K:Frag}
noncomputable def ledger(h:Heap)(L d:Addr):List (Addr×Obj):=(List.range h.objs.size).filterMap fun a=>if a=L\/a=d then none else (h.get? a).map fun o=>(a,o)
end
end Att
namespace L2
open PySem PySem.Spec PyProof.Rows
theorem BR:∀ {vs:List Value} {ns:List Int},IntsAre vs ns->Vals (ns.map V.int) vs
 | _,_,.nil=>.nil
 | _,_,.cons n t h=>.cons ⟨t,rfl⟩ (BR h)
noncomputable def Only(H:Hp):Prop:=∀ b,H b=none\/∃ o xs,H b=some (.XB o (.lst xs))
theorem Jt{P:Program}{w:World}{K:q0B}{mg mb:q0C}{CX:CXT}{k:Nat}{fa a:Addr}{fd:FuncData}{x:Str}{sp:Sp}{s₁:Shared}{vs:List Value}{ns:List Int}
    (KX:K.In s₁.heap) (hns:s₁.heap.Ns mainGlobals mg) (hb:s₁.heap.Ns builtinsNs mb) (hbb:∀ x:Str,x≠"__name__"->mb x=bootBuiltins x) (ab8:s₁.heap.NoLimit) (hg:s₁.gens = #[])
    (ha:s₁.heap.get? a=some {cls:=.type "list",data:=.seq vs.toArray}) (hi:IntsAre vs ns) (hl:ns.length<=sizeLine) (hr:Room k callerA)
    (F:∀ base:Heap,K.In base->base.Ns mainGlobals mg->bR P w K mg base CX k fa fd [x] sp) (aaZ:∀(s:Shared) (u:Value),BindsTo s fd ⟨[u],[]⟩ [(x,u)])
    (Zv:∀ H:Hp,Only H->dZ K H a (ns.map V.int)->sp [.ref a] H (fun v _=>v=.bl true) fun _ _ _=>False)
    (hCX:∀ H e s',CX [] H s₁ (fun _ _ _=>False) e s'->False) :
    codeAny (model P w) callerA (.call (.ref fa) ⟨[.ref a],[]⟩) (fun r s'=>r=.ok (.ret (.bool true))/\OldK s₁.heap s'.heap/\s'.os=s₁.os/\AllBare s'.gens) s₁:=by
  have rv:=BR hi;have acF:=hi.length
  -- from an abstract heap in which nothing but the script may be tracked
  have core:∀ H:Hp,Only H->dZ K H a (ns.map V.int)->HOk P w H s₁.heap->(∀ b,H b≠none->b=a)->(H a≠none->K.lookup a=none) ->
      codeAny (model P w) callerA (.call (.ref fa) ⟨[.ref a],[]⟩) (fun r s'=>r=.ok (.ret (.bool true))/\OldK s₁.heap s'.heap/\s'.os=s₁.os/\AllBare s'.gens) s₁:=by
    intro H hO hS W5 hA hK;have YC:∀ {b:Addr} {o:Obj},s₁.heap.get? b=some o->H b=none->(Cj s₁.heap H).get? b=some o:=fun e n=>Jl e n;have noA:∀ {b:Addr} {o:Obj} {es:Array DictEntry} {ep:Nat},s₁.heap.get? b=some o->o.data=.dict es ep->H b=none:=fun {b o es ep} e d=>by
      cases q:H b with
      | none=>rfl
      | some u =>
        have e':b=a:=hA b (by rw[q];simp);subst e';rw[ha] at e;cases e;have d':Data.seq vs.toArray _=Data.dict es ep:=d;cases d'
    have nsK:∀ {b:Addr} {m:q0C},s₁.heap.Ns b m->(Cj s₁.heap H).Ns b m:=fun {b m} ⟨o,es,ep,e,d,r⟩=>⟨o,es,ep,YC e (noA e d),d,r⟩;have hKb:K.In (Cj s₁.heap H):=fun b o e=>YC (KX b o e) (by
      cases q:H b with
      | none=>rfl
      | some u =>
        have e':b=a:=hA b (by rw[q];simp);subst e';rw[hK (by rw[q];simp)] at e;cases e)
    have hM:Mod K mg (Cj s₁.heap H):=⟨hKb,nsK hns,⟨mb,nsK hb,hbb⟩,let ⟨mc,h1,h2⟩:=ab8;⟨mc,nsK h1,h2⟩⟩;have e0:Env0 P w K mg (Cj s₁.heap H) callerA [] s₁ H:=⟨rfl,hM,fun b o e=>Mu e,Nat.le_of_eq (Hd _ _),trivial,fun b hb=>absurd (show b∈([]:List Addr) from hb) (by simp),W5,.of_eq hg⟩;refine codeAny_mono ((F _ hKb (nsK hns)).run callerA [] s₁ H ⟨[.ref a],[]⟩ [.ref a] [.ref a] _ _ hr e0 (aaZ s₁ (.ref a)) (.cons rfl .nil) (Zv H hO hS)) fun r s' h=>?_;cases r with
    | error e=>exact(hCX H e s' h).elim
    | ok fl =>
      cases fl with
      | next=>exact False.elim h
      | brk=>exact False.elim h
      | cont=>exact False.elim h
      | ret u =>
        obtain⟨v,H',os,bare,un,acA,r',q⟩:=h;have q':v=.bl true:=q;subst q';obtain rfl:u=Value.bool true:=r';refine⟨rfl,OldK.of_keep fun b o e=>?_,os,bare⟩;cases q:H b with
        | none=>exact un.keep b o e q (by intro z;exact absurd (show b∈([]:List Addr) from z) (by simp)) (by simp)
        | some u =>
          rcases hO b with z|⟨ob,xs,z⟩
          · rw[q] at z;cases z
          · have z2:=un.nH b ob _ z;obtain⟨e1,_⟩:=W5 b _ z;obtain⟨e2,_⟩:=acA b _ z2;rw[e] at e1;cases e1;exact e2
  cases hk:K.lookup a with
  | some o =>
    -- the script is one of the module's own objects
    have e:=KX a o hk;rw[ha] at e;cases e;refine core (fun _=>none) (fun _=>.inl rfl) (.inr ⟨_,vs.toArray,_,hk,rfl,rfl,rfl,by rw[List.size_toArray,acF];exact hl,by simpa using rv⟩) (fun b u z=>by have z':(none:Option HO)=some u:=z;cases z') (fun b z=>absurd rfl z) fun z=>absurd rfl z
  | none =>
    refine core (fun b=>if b=a then some (.XB {cls:=.type "list",data:=.seq vs.toArray} (.lst (ns.map V.int))) else none) (fun b=>?_) (.inl (.inr ⟨{cls:=.type "list",data:=.seq vs.toArray},if_pos rfl⟩)) (fun b u z=>?_) (fun b z=>?_) fun _=>hk
    · by_cases hb:b=a
      · exact .inr ⟨_,_,if_pos hb⟩
      · exact .inl (if_neg hb)
    · by_cases hb:b=a
      · have z':=(if_pos hb).symm.trans z;cases z';subst hb;exact⟨ha,by rw[List.length_map];exact hl,vs,_,rv,ha⟩
      · have z':=(if_neg hb).symm.trans z;cases z'
    · by_cases hb:b=a
      · exact hb
      · exact absurd (if_neg hb) z
theorem Nc{l:PySem.W.OpenLaw}{n k:Nat}{q:Program}{loose:List Str}{XP:(q0C)->Heap->Prop}{YP:World->Heap->Prop}{d:DefRec}{K:Params->q0B}{CX:World->CXT}{sp:World->Sp}{x:Str}
    (hn:l.most=some n) (Y9:n<=sizeLine) (ZH:d.params.defaults=[]) (hr:Room k callerA)
    (hY:∀(w:World) (h:Heap),YP w h->(K w.params).In h)
    (F:∀(w:World) (mg:q0C) (fa:Addr) (h:Heap),(K w.params).In h->h.Ns mainGlobals mg->mg d.name=some (.ref fa) ->
      ∃ fd:FuncData,(∀(s:Shared) (u:Value),BindsTo s fd ⟨[u],[]⟩ [(x,u)]) /\
        ∀ base:Heap,(K w.params).In base->base.Ns mainGlobals mg->bR l.prog w (K w.params) mg base (CX w) k fa fd [x] (sp w))
    (Zv:∀(w:World) (H:Hp) (a:Addr) (ns:List Int),ns.length<=n->Only H->dZ (K w.params) H a (ns.map V.int)->sp w [.ref a] H (fun v _=>v=.bl true) fun _ _ _=>False)
    (hCX:∀(w:World) (H:Hp) (s:Shared) (e:Value) (s':Shared),CX w [] H s (fun _ _ _=>False) e s'->False) :
    PySem.W.WalkO q loose XP YP l.row.toRowW d [] (fun f vs=>PySem.call f vs):=by
  refine Att.Dn hn ZH fun w s₀ s₁ mg mb fa o pm cd doc a vs ns G Y ho hd YJ hmg aaF hints hlen hg=>?_;have KX:=hY w _ Y;obtain⟨fd,hb,hF⟩:=F w mg fa _ KX G.T.g hmg;exact Jt KX G.T.g G.T.b G.T.builtins G.T.nolimit hg aaF hints (Nat.le_trans hlen Y9) hr hF hb (fun H hO hS=>Zv w H a ns hlen hO hS) fun H e s'=>hCX w H s₁ e s'
noncomputable def pK(s:Stmt)(j:Nat):Stmt:=match s with
 | .ClassDef _ _ _ body _ _ _ _ _ _ _=>body.getD j (.Pass ⟨0,0,0,0⟩)
 | _=>.Pass ⟨0,0,0,0⟩
noncomputable def xF(s:Stmt):Arguments:=match s with
 | .FunctionDef _ a _ _ _ _ _ _ _ _=>a
 | _=>{posonlyargs:=[],args:=[],vararg:=none,kwonlyargs:=[],kw_defaults:=[],kwarg:=none,defaults:=[]}
noncomputable def pF(s:Stmt):List Stmt:=match s with
 | .FunctionDef _ _ b _ _ _ _ _ _ _=>b
 | _=>[]
noncomputable def aT(s:Stmt):Scope:=match s with
 | .FunctionDef _ _ _ _ _ _ sc _ _ _=>sc
 | _=>{kind:=.function,names:=[],isGenerator:=false,isCoroutine:=false}
noncomputable abbrev Xe:CXT:=fun _ _ _ _ _ _=>False
noncomputable abbrev E0:XK:=fun _ _ _=>False
theorem pass0{X:Cx}:Passes Xe X E0:=fun _ _ _ _ _ _ _ h=>h.elim
structure Fun(K:q0B)(x qual:Str)(st:Stmt)(f:Addr)(fd:FuncData):Prop where
 ex:∃(oc:Value) (od:Option Addr) (kV doc pm:Value) (an:Option Addr) (W7 ct:Value) (ZP:Array (Option Value)),
  fd=PySem.W.fnOf x qual (xF st) (pF st) (aT st) .none kV doc pm an W7 ct/\K.lookup f=some ⟨oc,od,.func fd,ZP⟩/\PySem.W.codeIn K W7 qual=true
 kp:PySem.W.keepIn K (.ref f)=true
section
variable {P:Program} {w:World} {K:q0B} {mg:q0C} {base:Heap}
theorem Fun.ok{x qual:Str}{st:Stmt}{f:Addr}{fd:FuncData}{N ps:List Str}{k:Nat}{sp:Sp}(F:Fun K x qual st f fd)(S:bD N ps (aT st))(len:∀ vs H Q E,sp vs H Q E->vs.length=ps.length)
    (Yi:∀(W7:Value) (A:Around) (outer:List Env) (s:Shared) (H:Hp) (vs:List V) (Q:VK) (E:XK),Room k (A.deeper (envOfC qual (aT st) s.heap.objs.size f W7))->sp vs H Q E ->
      ∃ t,Yb (qB Xe P w K mg base N qual (aT st) f W7 A outer s H E).nox (pF st) t/\t {nx:=fun _ H'=>Q .W3 H',rt:=Q} (start N vs) H):bR P w K mg base Xe (k+1) f fd ps sp:=by
  obtain⟨oc,od,kV,doc,pm,an,W7,ct,ZP,rfl,lk,YJ⟩:=F.ex;refine Nw lk YJ S len fun A outer s H vs Q E hr Zv=>?_;obtain⟨t,h,q⟩:=Yi W7 A outer s H vs Q E hr Zv;exact⟨t,h.nox,q⟩
theorem Fun.binds{x qual:Str}{st:Stmt}{f:Addr}{fd:FuncData}{ps:List Str}(F:Fun K x qual st f fd)
    (h:∀(kV doc pm:Value) (an:Option Addr) (W7 ct:Value) (us:List Value),us.length=ps.length->bindArgs (PySem.W.fnOf x qual (xF st) (pF st) (aT st) .none kV doc pm an W7 ct) ⟨us,[]⟩=pure (ps.zip us)):Binds K fd ps []:=by
  obtain⟨oc,od,kV,doc,pm,an,W7,ct,ZP,rfl,lk,YJ⟩:=F.ex;exact .all (h kV doc pm an W7 ct)
theorem Qr{x qual:Str}{st:Stmt}{f:Addr}{oc:Value}{od an:Option Addr}{ZP:Array (Option Value)}{kV doc pm W7 ct:Value}(l:K.lookup f=some ⟨oc,od,.func (PySem.W.fnOf x qual (xF st) (pF st) (aT st) .none kV doc pm an W7 ct),ZP⟩)
    (c:PySem.W.codeIn K W7 qual=true) (k:PySem.W.keepIn K (.ref f)=true):Fun K x qual st f (PySem.W.fnOf x qual (xF st) (pF st) (aT st) .none kV doc pm an W7 ct):=⟨⟨oc,od,kV,doc,pm,an,W7,ct,ZP,rfl,l,c⟩,k⟩
end
theorem TX{A:Around}{k:Nat}(hr:Room k A):A.units+1 < cLine:=Nat.lt_of_le_of_lt (Nat.add_le_add_left (by decide:1<=64) _) hr.units
theorem small1000{n:Nat}(h:n<=1000):n < sizeLine:=Nat.lt_of_le_of_lt h (by decide)
section
variable {X:Cx}
theorem pv(i:Nat){x:Str}{pos:Pos}(hN:X.N[i]?=some x:=by rfl)(hv:Vis X.env.scope x:=by first|exact Or.inl rfl|exact Or.inr (Or.inl rfl)|exact Or.inr (Or.inr rfl))(hd:(x==("__debug__":Str))=false:=by decide)
    (YJ:(x==("__classdict__":Str))=false:=by decide):PE X (.Name x pos) (eY i):=QW hN hv hd YJ
end
noncomputable def Same(H H':Hp):Prop:=∀ b o,H b=some o->H' b=some o
theorem Same.refl(H:Hp):Same H H:=fun _ _ h=>h
theorem Same.trans{H H1 H2:Hp}(a:Same H H1)(b:Same H1 H2):Same H H2:=fun c o h=>b c o (a c o h)
theorem Same.free{H H':Hp}(e:Same H H'){l:Addr}(h:H' l=Option.none):H l=Option.none:=by
 cases q:H l with
 | none=>rfl
 | some o =>
  rw[e l o q] at h;cases h
theorem Same.seq{K:q0B}{H H':Hp}{a:Addr}{xs:List V}(e:Same H H')(h:dZ K H a xs):dZ K H' a xs:=by
 rcases h with(h|⟨o,h⟩)|h
 ·exact .inl (.inl (e _ _ h))
 ·exact .inl (.inr ⟨o,e _ _ h⟩)
 ·exact .inr h
section
variable {X:Cx}
end
section
variable {κ:Type} [DecidableEq κ]
theorem KE{W0:List (κ×V)}{k:κ}(h:dX W0 k=none):¬ k∈W0.map (·.1):=by
 intro m;obtain⟨p,hp,e⟩:=List.mem_map.mp m;have q:(W0.any fun kv=>decide (kv.1=k))=true:=List.any_eq_true.mpr ⟨p,hp,decide_eq_true e⟩;rw[pC,h] at q;exact absurd q (by simp)
theorem Ge:∀ {l:List κ} {k:κ},l.Nodup->¬ k∈l->(l++[k]).Nodup
 | [],k,_,_=>by simp
 | a::r,k,h,hk=>by
  obtain⟨h1,h2⟩:=List.nodup_cons.mp h;show(a::(r++[k])).Nodup;refine List.nodup_cons.mpr ⟨fun m=>?_,Ge h2 fun m=>hk (List.mem_cons.mpr (Or.inr m))⟩;rcases List.mem_append.mp m with q|q
  ·exact h1 q
  ·exact hk (List.mem_cons.mpr (Or.inl (List.mem_singleton.mp q).symm))
theorem Ms{W0:List (κ×V)}{k:κ}(v:V)(hn:(W0.map (·.1)).Nodup)(h:dX W0 k=none):((k9 W0 k v).map (·.1)).Nodup:=by
 rw[J2 v h,List.map_append];exact Ge hn (KE h)
end
end L2
set_option maxHeartbeats 4000000
namespace L2
open PySem PySem.Spec PyProof.Rows
theorem jX:bootBuiltins "int"=some (.type "int"):=by decide +kernel
theorem B4:bootBuiltins "str"=some (.type "str"):=by decide +kernel
theorem fB:bootBuiltins "tuple"=some (.type "tuple"):=by decide +kernel
theorem fY:bootBuiltins "isinstance"=some (.builtin "isinstance"):=by decide +kernel
theorem Oz:bootBuiltins "max"=some (.builtin "max"):=by decide +kernel
theorem Ic:bootBuiltins "all"=some (.builtin "all"):=by decide +kernel
theorem Oy:bootBuiltins "abs"=some (.builtin "abs"):=by decide +kernel
theorem cZ:bootBuiltins "len"=some (.builtin "len"):=by decide +kernel
section
variable {X:Cx}
noncomputable def RK(_ j:Int):Prop:=0 < j/\j.natAbs.log2 < 9000
theorem JQ:iX X (binaryOp .FloorDiv) (rI RK fun i j=>.int (i / j)):=VG fun i j _ _ _ _ _ hc q=>by
 have h1:(0:Int) < j:=hc.1;exact floordiv_int (by omega) (by rw[Int.fdiv_eq_ediv_of_nonneg i (by omega)];exact q) (.inl (PyProof.noPylong_of_log2 hc.2))
theorem log2_lt{j:Int}(h0:0 < j)(h:j<=10 ^ 45):j.natAbs.log2 < 9000:=by
 have h1:j.natAbs<=10 ^ 45:=by omega
 have h2:j.natAbs < 2 ^ 150:=Nat.lt_of_le_of_lt h1 (by decide);have h3:j.natAbs.log2 < 150:=(Nat.log2_lt (by omega)).mpr h2;omega
inductive rY(K:q0B)(H:Hp):V->String->Bool->Prop
 | ii (n:Int):rY K H (.int n) "int" true
 | ib (n:Int):rY K H (.int n) "bool" false
 | is (n:Int):rY K H (.int n) "str" false
 | it (n:Int):rY K H (.int n) "tuple" false
 | bi (b:Bool):rY K H (.bl b) "int" true
 | bb (b:Bool):rY K H (.bl b) "bool" true
 | bs (b:Bool):rY K H (.bl b) "str" false
 | bt (b:Bool):rY K H (.bl b) "tuple" false
 | si (x:Str):rY K H (.str x) "int" false
 | sb (x:Str):rY K H (.str x) "bool" false
 | ss (x:Str):rY K H (.str x) "str" true
 | st (x:Str):rY K H (.str x) "tuple" false
 | ni:rY K H .W3 "int" false
 | nb:rY K H .W3 "bool" false
 | ns:rY K H .W3 "str" false
 | nt:rY K H .W3 "tuple" false
 | li {a:Addr} {xs:List V}:dZ K H a xs->rY K H (.ref a) "int" false
 | lb {a:Addr} {xs:List V}:dZ K H a xs->rY K H (.ref a) "bool" false
 | ls {a:Addr} {xs:List V}:dZ K H a xs->rY K H (.ref a) "str" false
 | lt {a:Addr} {xs:List V}:dZ K H a xs->rY K H (.ref a) "tuple" false
 | ti {a:Addr} {xs:List V}:hJ K H a xs->rY K H (.ref a) "int" false
 | tb {a:Addr} {xs:List V}:hJ K H a xs->rY K H (.ref a) "bool" false
 | ts {a:Addr} {xs:List V}:hJ K H a xs->rY K H (.ref a) "str" false
 | tt {a:Addr} {xs:List V}:hJ K H a xs->rY K H (.ref a) "tuple" true
 | di {a:Addr} {W0:List (Key×V)}:H a=some (.dK W0)->rY K H (.ref a) "int" false
 | db {a:Addr} {W0:List (Key×V)}:H a=some (.dK W0)->rY K H (.ref a) "bool" false
 | ds {a:Addr} {W0:List (Key×V)}:H a=some (.dK W0)->rY K H (.ref a) "str" false
theorem W1.xK{WY:List (Addr×Obj)}{σ:St}{H:Hp}{s:Shared}{a:Addr}{xs:List V}(I:W1 X WY σ H s)(h:dZ X.K H a xs):∃ o,s.heap.get? a=some o/\o.cls=.type "list":=by
 obtain⟨W2,_,⟨o,n,e,c,_,_⟩,_⟩:=I.list h;exact⟨o,e,c⟩
theorem W1.Dd{WY:List (Addr×Obj)}{σ:St}{H:Hp}{s:Shared}{a:Addr}{xs:List V}(I:W1 X WY σ H s)(h:hJ X.K H a xs):∃ o,s.heap.get? a=some o/\o.cls=.type "tuple":=by
 obtain⟨W2,_,⟨o,e,c,_⟩,_⟩:=I.tuple h;exact⟨o,e,c⟩
theorem W1.B8{WY:List (Addr×Obj)}{σ:St}{H:Hp}{s:Shared}{a:Addr}{W0:List (Key×V)}(I:W1 X WY σ H s)(h:H a=some (.dK W0)):∃ o,s.heap.get? a=some o/\o.cls=.type "dict" :=
 DB I (XD.k (k:=.inl 0) h)
theorem Iq:eR X (.builtin "isinstance") (fun xs H Q=>∃ v T b,xs=[v,.ty T]/\rY X.K H v T b/\Q (.bl b) H):=by
 intro WY s σ H xs us Q I r h;obtain⟨v,T,b,rfl,hi,q⟩:=h;obtain⟨u,w',rfl,r1,r2⟩:=vals2 r;cases r2;have fin:EP X WY σ Q (.bool b) s:=⟨.bl b,H,I,rfl,q⟩;have Xg:EP X WY σ Q (.bool b) {s with toks:=s.toks+1}:=⟨.bl b,H,I.tok _,rfl,q⟩;cases hi with
 | ii n=>obtain⟨t,rfl⟩:=r1;exact IsiPair.int_int fin
 | ib n=>obtain⟨t,rfl⟩:=r1;exact IsiPair.int_bool Xg
 | is n=>obtain⟨t,rfl⟩:=r1;exact IsiPair.int_str Xg
 | it n=>obtain⟨t,rfl⟩:=r1;exact IsiPair.int_tuple Xg
 | bi b=>cases r1;exact IsiPair.bool_int fin
 | bb b=>cases r1;exact IsiPair.bool_bool fin
 | bs b=>cases r1;exact IsiPair.bool_str Xg
 | bt b=>cases r1;exact IsiPair.bool_tuple Xg
 | si x=>obtain⟨t,rfl⟩:=r1;exact IsiPair.str_int Xg
 | sb x=>obtain⟨t,rfl⟩:=r1;exact IsiPair.str_bool Xg
 | ss x=>obtain⟨t,rfl⟩:=r1;exact IsiPair.str_str fin
 | st x=>obtain⟨t,rfl⟩:=r1;exact IsiPair.str_tuple Xg
 | ni=>cases r1;exact IsiPair.NoneType_int Xg
 | nb=>cases r1;exact IsiPair.NoneType_bool Xg
 | ns=>cases r1;exact IsiPair.NoneType_str Xg
 | nt=>cases r1;exact IsiPair.NoneType_tuple Xg
 | li hl=>cases r1;obtain⟨o,e,c⟩:=W1.xK I hl;exact IsiPair.list_int e c Xg
 | lb hl=>cases r1;obtain⟨o,e,c⟩:=W1.xK I hl;exact IsiPair.list_bool e c Xg
 | ls hl=>cases r1;obtain⟨o,e,c⟩:=W1.xK I hl;exact IsiPair.list_str e c Xg
 | lt hl=>cases r1;obtain⟨o,e,c⟩:=W1.xK I hl;exact IsiPair.list_tuple e c Xg
 | ti hl=>cases r1;obtain⟨o,e,c⟩:=W1.Dd I hl;exact IsiPair.tuple_int e c Xg
 | tb hl=>cases r1;obtain⟨o,e,c⟩:=W1.Dd I hl;exact IsiPair.tuple_bool e c Xg
 | ts hl=>cases r1;obtain⟨o,e,c⟩:=W1.Dd I hl;exact IsiPair.tuple_str e c Xg
 | tt hl=>cases r1;obtain⟨o,e,c⟩:=W1.Dd I hl;exact IsiPair.tuple_tuple e c fin
 | di hl=>cases r1;obtain⟨o,e,c⟩:=W1.B8 I hl;exact IsiPair.dict_int e c Xg
 | db hl=>cases r1;obtain⟨o,e,c⟩:=W1.B8 I hl;exact IsiPair.dict_bool e c Xg
 | ds hl=>cases r1;obtain⟨o,e,c⟩:=W1.B8 I hl;exact IsiPair.dict_str e c Xg
end
noncomputable def Jq:Expr->Bool
 | .Starred ..=>true
 | _=>false
theorem HH{e:Expr}{es:List Expr}{env:Env}(h:Jq e=false):starEach (e::es) env=(false,eval e env)::starEach es env:=by
 cases e<;>first|rfl|cases h
section
variable {X:Cx} {e:Expr} {es:List Expr} {te:TE} {t:TA}
theorem aC(ha:PE X e te)(hr:PA X es t)(h:Jq e=false:=by rfl):PA X (e::es) (Ez te t):=Gh ha hr (HH h)
end
noncomputable abbrev zW(prog:Program)(w:World)(A:Around)(env:Env)(R:Result->Shared->Prop):Value->Shared->Prop:=notedBy (model prog w) A env fun e s'=>R (.error e) s'
noncomputable abbrev GB(ifs:List Expr)(env:Env):Sem Bool:=forIn ifs true fun c r=>if r=true then do let ok <- isTrue c env (eval c env);pure (ForInStep.yield ok) else pure (ForInStep.yield r)
section
variable {prog:Program} {w:World} {A:Around} {R:Result->Shared->Prop} {s:Shared}
theorem Dz{elt target iter:Expr}{ifs:List Expr}{scope:Scope}{pos:Pos}{it acc:Value}{env:Env}(I:Nat->Shared->Prop)
    (turn:∀ n s,I n s->wpAny (model prog w) A (pyNext it) (fun r s₁=>match r with
      | none=>R (.ok .next) s₁
      | some v=>wpAny (model prog w) A (letOwnedTupleGo target it v) (fun _ s₁'=>wpAny (model prog w) A (assign target env v) (fun _ s₂ =>
          wpAny (model prog w) A (GB ifs env) (fun ok s₃ =>
            if ok=true then wpAny (model prog w) A (eval elt env) (fun x s₄ =>
              wpAny (model prog w) A (call (.builtin "list.append") [acc,x]) (fun _ s₅=>∃ m,m < n/\I m s₅) (zW prog w A env R) s₄) (zW prog w A env R) s₃
            else ∃ m,m < n/\I m s₃) (zW prog w A env R) s₂) (zW prog w A env R) s₁') (zW prog w A env R) s₁) (zW prog w A env R) s)
    (n:Nat) (h:I n s):codeAny (model prog w) A (.compLoop (.ListComp elt [⟨target,iter,ifs,0⟩] scope pos) 0 it acc env) R s:=by
  refine codeAny_loop rfl I (fun n s hI=>?_) n h;show wpAny _ A ((compTurn (.ListComp elt [⟨target,iter,ifs,0⟩] scope pos) 0 it acc env).onRaise (fun x=>do noteFrame x env;theTreesLotGoes x)) _ _ s;refine wpAny_noted ?_;rw[compTurn_list];refine wpAny_bind (wpAny_standAt (wpAny_bind (wpAny_mono (turn n s hI) (fun r s₁ h₁=>?_) fun _ _ h'=>h')));cases r with
  | none=>exact wpAny_pure h₁
  | some v =>
    refine wpAny_bind (wpAny_mono h₁ (fun _ s₁' h₁'=>?_) fun _ _ h'=>h');refine wpAny_bind (wpAny_mono h₁' (fun _ s₂ h₂=>wpAny_bind (wpAny_mono h₂ (fun ok s₃ h₃=>?_) fun _ _ h'=>h')) fun _ _ h'=>h');cases ok with
    | false=>exact wpAny_pure ⟨rfl,h₃⟩
    | true =>
      exact wpAny_bind (wpAny_bind (wpAny_mono h₃ (fun x s₄ h₄=>wpAny_bind (wpAny_mono h₄ (fun _ s₅ h₅=>wpAny_pure (wpAny_pure ⟨rfl,h₅⟩)) fun _ _ h'=>h')) fun _ _ h'=>h'))
end
noncomputable def dW(X:Cx)(sc:Scope)(cl:List (Str×Addr))(C:Addr)(N:List Str)(s:Shared)(H:Hp)(ex:List Addr)(pn:List (Addr×Obj)):Cx :=
 {X with env:=compEnvC sc cl C X.env,N:=N,s₀:=s,H₀:=H,outer:=X.stack,ex:=ex,fn:=fun _=>false,pn:=pn}
structure eO(X:Cx)(sc:Scope)(cl:List (Str×Addr))(x:Str)(fr:List Nat)(N:List Str):Prop where
 kind:sc.kind=.function
 zU:∀ y∈sc.names,y.2≠.cell
 names:∀ y∈sc.names,y.2=.local->sc.names.lookup y.1=some .local
 Dy:closureFor sc X.env=pure cl
 sub:∀ y c,cl.lookup y=some c->X.env.cells.lookup y=some c
 has:∀ y,((relabel sc X.env).names.lookup y=some .cell\/(relabel sc X.env).names.lookup y=some .free)->∃ c,cl.lookup y=some c
 Zx:sc.names.lookup x=some .local
 nd:N.Nodup
 N0:N=x::fr.map fun j=>X.N.getD j x
 frc:∀ j∈fr,∃ y,X.N[j]?=some y/\X.env.kindOf y=some .cell/\((relabel sc X.env).names.lookup y=some .cell\/(relabel sc X.env).names.lookup y=some .free)
noncomputable def bP(fr:List Nat)(σ:St):St:=fr.map fun j=>(σ[j]?).join
section
variable {X:Cx} {WY:List (Addr×Obj)} {σ:St} {H:Hp} {s:Shared} {sc:Scope} {cl:List (Str×Addr)} {C:Addr} {x:Str} {fr:List Nat} {N:List Str} {fp:List Addr}
theorem Lm(I:W1 X WY σ H s)(S:eO X sc cl x fr N)(hf:∀ b∈fp,r9 X WY H b)(ZI:∀ b∈fp,b < s.heap.objs.size)(hC:s.heap.objs.size<=C) :
    (dW X sc cl C N s H fp (X.pn++WY)).Ok where
  mod:=I.ok.mod
  kind:=S.kind
  glob:=I.ok.glob
  blt:=I.ok.blt
  above:=hC
  inj:=fun y z c h1 h2=>I.ok.inj y z c (S.sub y c h1) (S.sub z c h2)
  has:=S.has
  cab:=fun _ _ h=>by cases h
  hd:=I.ok.hd
  frames:=I.ok.frames
  ZQ:=.inl rfl
  exf:=fun b hb=>⟨Nat.ne_of_lt (Nat.lt_of_lt_of_le (ZI b hb) hC),fun y c e=>(hf b hb).2.2.2.2.1 y c (S.sub y c e)⟩
  bs:=I.bs
  bsz:=Nat.le_trans I.ok.bsz I.sz
  E6:=fun b o e hb=>by
    rcases(hf b hb).2.2.2.1 with z|z
    · exact I.ok.E6 b o e z
    · exact absurd (Nat.lt_of_lt_of_le (Heap.lt_size e) (Nat.le_trans I.ok.bsz z)) (Nat.lt_irrefl _)
  G8:=fun b hb hm=>by
    rcases List.mem_cons.mp (I.Az b hm) with z|z
    · exact(hf b hb).2.1 z
    · exact(hf b hb).2.2.1 z
  qD:=I.stack
  frf:=I.C6
theorem nostk(I:W1 X WY σ H s){b:Addr}(h1:b≠X.env.locals)(h2:b∉X.fs):b∉frs X.stack:=fun hm=>by
 rcases List.mem_cons.mp (I.Az b hm) with z|z
 ·exact h1 z
 ·exact h2 z
theorem Iv(I:W1 X WY σ H s)(S:eO X sc cl x fr N)(hf:∀ b∈fp,r9 X WY H b)(ZI:∀ b∈fp,b < s.heap.objs.size)(hC:s.heap.objs.size<=C){h1:Heap}{t1:Nat}{m0:q0C}
    (hn:h1.Ns C m0) (hk:∀ b o,s.heap.get? b=some o->h1.get? b=some o):W1 (dW X sc cl C N s H fp (X.pn++WY)) [] (none::bP fr σ) H {s with heap:=h1,toks:=t1}:=by
  refine⟨Lm I S hf ZI hC,rfl,I.bare,Un.kept hk,⟨m0,hn,fun i y v e1 e2 e3=>?_⟩,fun y c e=>?_,I.W5.fresh hC,fun y c e=>I.kI y c (S.sub y c e),fun p hp=>?_,I.W5.kept hk,?_⟩
  · have e1':N[i]?=some y:=e1;rw[S.N0] at e1';cases i with
    | zero =>
      have z:(some (none:Option V))=some (some v):=e2;cases z
    | succ j =>
      have Y2:(fr.map fun j=>X.N.getD j x)[j]?=some y:=e1';have e2':(bP fr σ)[j]?=some (some v):=e2;unfold bP at e2';rw[List.getElem?_map] at Y2 e2';cases q:fr[j]? with
      | none=>rw[q] at Y2;cases Y2
      | some k =>
        rw[q] at Y2 e2';have ey:X.N.getD k x=y:=Option.some.inj Y2;have ev:(σ[k]?).join=some v:=Option.some.inj e2';obtain⟨y',hy,YF,aa4⟩:=S.frc k (List.mem_of_getElem? q);have eyy:y=y':=by
          rw[<- ey,List.getD_eq_getElem?_getD,hy];rfl
        subst eyy;have ev':σ[k]?=some (some v):=by
          cases z:σ[k]? with
          | none=>rw[z] at ev;cases ev
          | some o =>
            rw[z] at ev;have ev2:o=some v:=ev;rw[ev2]
        obtain⟨m,_,hl⟩:=I.loc;obtain⟨u,r,l⟩:=hl k y v hy ev' (.inr (.inl YF));refine⟨u,r,.inr ⟨aa4,?_⟩⟩;rcases l with⟨z,_⟩|⟨_,c,hc,o,ho,hd⟩
        · rw[YF] at z;cases z
        · obtain⟨c',hc'⟩:=S.has y aa4;have z:=S.sub y c' hc';rw[hc] at z;cases z;exact⟨c,hc',o,hk c o ho,hd⟩
  · obtain⟨v,o,ho,hd⟩:=I.cell y c (S.sub y c e);exact⟨v,o,hk c o ho,hd⟩
  · have hp':p∈X.pn++WY:=by
      have z:p∈(X.pn++WY)++[]:=hp;simpa using z
    obtain⟨e,n,ne,nf,d⟩:=I.pin p hp';exact⟨hk _ _ e,n,Nat.ne_of_lt (Nat.lt_of_lt_of_le (Heap.lt_size e) hC),nostk I ne nf,d⟩
  · show(none::bP fr σ).length=N.length;rw[S.N0];simp[bP]
theorem Iu(I:W1 X WY σ H s)(hf:∀ b∈fp,r9 X WY H b){D:Addr}{pl:List (Addr×Obj)}{σ':St}{H':Hp}{s':Shared}(J:W1 (dW X sc cl C N s H fp (X.pn++WY)) pl σ' H' s')
    (hC:s.heap.objs.size<=C) (hD:s.heap.objs.size<=D) (hDC:D≠C) (hDn:H' D=none) {xs:List V} {vals:List Value} {k:Nat} (hg:s'.heap.get? D=some {cls:=.type "list",data:=.seq vals.toArray k}) (rv:Vals xs vals) (hz:xs.length<=sizeLine)
    {h':Heap} (hs:Heap.SameBut C s'.heap h'):W1 X WY σ (WZ H' D (.lst xs)) {s' with heap:=h'}:=by
  have lt:∀ {b:Addr} {o:Obj},s.heap.get? b=some o->b < s.heap.objs.size:=fun e=>Heap.lt_size e;have Z7:∀ {b:Addr} {o:Obj},s.heap.get? b=some o->b≠C:=fun e=>Nat.ne_of_lt (Nat.lt_of_lt_of_le (Heap.lt_size e) hC);have neD:∀ {b:Addr} {o:Obj},s.heap.get? b=some o->b≠D:=fun e=>Nat.ne_of_lt (Nat.lt_of_lt_of_le (Heap.lt_size e) hD);have aaH:∀ {b:Addr} {o:HO},H b=some o->b≠D:=fun e=>Nat.ne_of_lt (Nat.lt_of_lt_of_le (I.W5.lt e) hD);have base:Un (frs X.stack) fp H H' s.heap s'.heap:=J.base;have HC:H' C=none:=J.free;refine I.FH (s':={s' with heap:=h'}) (ch:=fp) J.os ⟨fun b o e n hb hx=>?_,fun b o e n hb hx=>?_,fun b o e n hx=>?_,fun b o e hx=>?_,fun b ys e=>?_,fun b o u e=>?_,fun b ps e=>?_⟩ (fun b u e=>?_) J.bare (fun b hb=>?_)
  · exact(hs.2 b (Z7 e)).trans (base.keep b o e n hb hx)
  · obtain⟨sl,q⟩:=base.slot b o e n hb hx;exact⟨sl,(hs.2 b (Z7 e)).trans q⟩
  · rw[aV (neD e)];exact base.free b o e n hx
  · obtain⟨o',q⟩:=base.there b o e hx;exact⟨o',(hs.2 b (Z7 e)).trans q⟩
  · rw[aV (aaH e)];exact base.pB b ys e
  · rw[aV (aaH e)];exact base.nH b o u e
  · rw[aV (aaH e)];exact base.pA b ps e
  · by_cases hb:b=D
    · subst hb;rw[aE] at e;cases e;exact⟨hz,vals,k,rv,(hs.2 b hDC).trans hg⟩
    · rw[aV hb] at e;have tC:∀ {c:Addr} {o:HO},H' c=some o->c≠C:=fun q z=>by rw[z,HC] at q;cases q
      have tD:∀ {c:Addr} {o:HO},H' c=some o->c≠D:=fun q z=>by rw[z,hDn] at q;cases q
      refine(J.W5 b u e).C5 (fun c v hc q=>(hs.2 c ?_).trans q) (fun c q=>by rw[aV (tD q)];exact q) fun c ys q=>by rw[aV (tD q)];exact q
      rcases hc with z|z
      · rw[z];exact tC e
      · exact tC z
  · obtain⟨_,f1,_,f3,f4,f5⟩:=hf b hb;exact⟨f3,f1,f4,f5⟩
end
noncomputable def PTs(Y:Cx)(ifs:List Expr)(t:TT):Prop :=
 ∀(WY:List (Addr×Obj)) (s:Shared) (σ:St) (H:Hp) (Q:Bool->Hp->Prop),W1 Y WY σ H s->t σ H Q->wpAny (model Y.prog Y.w) Y.A (GB ifs Y.env) (TP Y WY σ Q) Y.xe s
noncomputable def NU:TT:=fun _ H Q=>Q true H
theorem mP{Y:Cx}:PTs Y [] NU:=fun _ _ _ H _ I h=>wpAny_tests_nil ⟨H,I,h⟩
theorem Gj{Y:Cx}{c:Expr}{t:TT}(h:PT Y c t):PTs Y [c] t:=fun WY s σ H Q I hw=>wpAny_tests_one (h WY s σ H Q I hw)
@[irreducible] def kE(wi:TI)(fr:List Nat)(tc:TT)(te:TE):TE:=fun σ H Q=>wi σ H fun J H1=>∃ W:Nat->Nat->List V->Hp->Prop,(∃ m,W 0 m [] H1)/\∀ i m xs H,W i m xs H->xs.length<=1000000 /\
  ((J.stop i H/\∀ p,H p=none->Q (.ref p) (WZ H p (.lst xs))) \/
   (J.go i H/\∀ y H',J.yld i H y H'->tc (some y::bP fr σ) H' fun b H2=>if b=true then te (some y::bP fr σ) H2 (fun z H3=>∃ m',m' < m/\W (i+1) m' (xs++[z]) H3) else ∃ m',m' < m/\W (i+1) m' xs H2))
section
variable {X:Cx} {sc:Scope} {cl:List (Str×Addr)} {x:Str} {fr:List Nat} {N:List Str} {elt iter:Expr} {px pos:Pos} {ifs:List Expr} {wi:TI} {tc:TT} {te:TE}
theorem DA{tg:Expr}{g:TG}{τ0:St}{O:St->Prop}(hc:X.calm=true)(hx:∀ e s,¬ X.xe e s)(NC:∀ y∈sc.names,y.2≠.cell)(KD:sc.kind=.function)(SB:∀ y c,cl.lookup y=some c->X.env.cells.lookup y=some c)(hpg:∀ C s H ex pn,PG (dW X sc cl C N s H ex pn) tg g)
    (hb:∀ C s H ex pn,PTs (dW X sc cl C N s H ex pn) ifs tc/\PE (dW X sc cl C N s H ex pn) elt te)
    {WY:List (Addr×Obj)} {σ:St} {H:Hp} {s:Shared} {it:Addr} {fp:List Addr} {tn:Nat->Heap->Prop} {J:It} {Q:VK} {RR:Value->Addr->Result->Shared->Prop} {E:q0A}
    (I:W1 X WY σ H s) (T:Turn X.prog X.w X.K tg J fp it tn) (st:tn 0 s.heap) (hf:∀ b∈fp,r9 X WY H b)
    (acE:∀(C:Addr) (h1:Heap) (t1:Nat) (m0:q0C),(∀ b∈fp,b < s.heap.objs.size)->s.heap.objs.size<=C->h1.Ns C m0->(∀ b o,s.heap.get? b=some o->h1.get? b=some o)->W1 (dW X sc cl C N s H fp (X.pn++WY)) [] τ0 H {s with heap:=h1,toks:=t1}) (ok0:O τ0)
    {W:Nat->Nat->List V->Hp->Prop} {m0:Nat} (w0:W 0 m0 [] H)
    (turn:∀ i m xs H,W i m xs H->xs.length<=1000000 /\
      ((J.stop i H/\∀ p,H p=none->Q (.ref p) (WZ H p (.lst xs))) \/
       (J.go i H/\∀ y H',J.yld i H y H'->∀ σ1,O σ1->g y σ1 H' fun σ2 H1=>O σ2/\tc σ2 H1 fun b H2=>if b=true then te σ2 H2 (fun z H3=>∃ m',m' < m/\W (i+1) m' (xs++[z]) H3) else ∃ m',m' < m/\W (i+1) m' xs H2)))
    (fin:∀(D C:Addr) (s':Shared) (m':q0C) (H':Hp),s'.heap.Ns C m'->r9 X WY H' C->(∀ h',Heap.SameBut C s'.heap h'->W1 X WY σ H' {s' with heap:=h'})->Q (.ref D) H'->RR (.ref D) C (.ok .next) s') :
    wpAny (model X.prog X.w) X.A (newList []) (fun acc s₃=>wpAny (model X.prog X.w) X.A (newFunctionEnv sc X.env.globals cl [] X.env.qual none .none (some X.env)) (fun Y1 s₄ =>
      codeAny (model X.prog X.w) X.A (.compStart (.ListComp elt [⟨tg,iter,ifs,0⟩] sc pos) 0 (.ref it) acc {Y1 with scope:=relabel sc X.env}) (RR acc Y1.locals) s₄) E s₃) E s:=by
  refine wpAny_newObj_type (wpAny_newFunctionEnv NC (by intro y hy;simp at hy) (fun h₁ aaE ZK=>?_) KD);dsimp only at aaE ZK ⊢;generalize hH2:s.heap.push {cls:=.type "list",dict:=none,data:=.seq ([]:List Value).toArray}=G2 at aaE ZK ⊢;have hCs:G2.objs.size=s.heap.objs.size+1:=by rw[<- hH2,Heap.size_push]
  have hDC:s.heap.objs.size≠G2.objs.size:=by rw[hCs];exact Nat.ne_of_lt (Nat.lt_succ_self _)
  have hC:s.heap.objs.size<=G2.objs.size:=by rw[hCs];exact Nat.le_succ _
  have below:∀ b,b < s.heap.objs.size->b≠G2.objs.size:=fun b hb=>by rw[hCs];exact Nat.ne_of_lt (Nat.lt_succ_of_lt hb)
  have old:∀ b o,s.heap.get? b=some o->h₁.get? b=some o:=fun b o e=>ZK.extBut b o (below b (Heap.lt_size e)) (Heap.get?_push_of_some _ (hH2▸Heap.get?_push_of_some _ e));have hD1:h₁.get? s.heap.objs.size=some {cls:=.type "list",data:=.seq ([]:List Value).toArray 0}:=ZK.extBut _ _ hDC (Heap.get?_push_of_some _ (hH2▸Heap.get?_push_size _ rfl));have ZI:∀ b∈fp,b < s.heap.objs.size:=fun b hbm=>by
    obtain⟨o,e,_⟩:=T.obj 0 s.heap st b hbm;exact Heap.lt_size e
  have hDn:H s.heap.objs.size=none:=I.W5.fresh (Nat.le_refl _)
  -- what stays true of the made list's place
  have abX:s.heap.objs.size∉frs X.stack:=fun hm=>by
    rcases List.mem_cons.mp (I.Az _ hm) with z|z
    · exact absurd I.lt (by rw[<- z];exact Nat.lt_irrefl _)
    · exact I.Up (Nat.le_refl _) z
  have aaQ:∀ y c,cl.lookup y=some c->c≠s.heap.objs.size:=fun y c e z=>by
    obtain⟨v,q⟩:=I.cell y c (SB y c e);exact absurd q.lt (by rw[z];exact Nat.lt_irrefl _)
  have abW:∀ p∈X.pn++WY,p.1≠s.heap.objs.size:=fun p hp z=>absurd (Heap.lt_size (I.pin p hp).1) (by rw[z];exact Nat.lt_irrefl _);have Dfp:s.heap.objs.size∉fp:=fun hm=>Nat.lt_irrefl _ (ZI _ hm);have loop:∀ s₃:Shared,s₃={s with heap:=h₁,toks:=s.toks+([]:List (Str×Value)).length} ->
      codeAny (model X.prog X.w) X.A (.compLoop (.ListComp elt [⟨tg,iter,ifs,0⟩] sc pos) 0 (.ref it) (.ref s.heap.objs.size) (compEnvC sc cl G2.objs.size X.env)) (RR (.ref s.heap.objs.size) G2.objs.size) s₃:=by
    rintro s₃ rfl;have I0:=acE G2.objs.size h₁ (s.toks+([]:List (Str×Value)).length) _ ZI hC aaE old;refine Dz (fun n s'=>∃(i:Nat) (xs:List V) (vals:List Value) (k:Nat) (v0:St) (H':Hp),W1 (dW X sc cl G2.objs.size N s H fp (X.pn++WY)) [] v0 H' s'/\O v0/\tn i s'.heap/\(∀ b∈fp,H' b=none) /\
      s'.heap.get? s.heap.objs.size=some {cls:=.type "list",data:=.seq vals.toArray k}/\Vals xs vals/\H' s.heap.objs.size=none/\W i n xs H') ?_ m0
      ⟨0,[],[],0,τ0,H,I0,ok0,T.keep _ _ _ st fun b _ o e=>old b o e,fun b hb=>(hf b hb).1,hD1,.nil,hDn,w0⟩
    rintro n s1 ⟨i,xs,vals,k,v0,H1,I1,Yd,st1,fr1,hg1,rv1,ab4,w1⟩;have hlen:=rv1.length;obtain⟨hz,step⟩:=turn i n xs H1 w1;have hz2:xs.length<=sizeLine:=Nat.le_trans hz (by decide);have Yy:∀ {H':Hp} {pl:List (Addr×Obj)},(∀ b∈fp,H' b=none)->(∀ p∈pl,p.1=s.heap.objs.size)->∀ b∈fp,r9 (dW X sc cl G2.objs.size N s H fp (X.pn++WY)) pl H' b:=fun {H' pl} hn Yc b hb =>
      ⟨hn b hb,below b (ZI b hb),nostk I (hf b hb).2.1 (hf b hb).2.2.1,.inl hb,fun y c e=>(hf b hb).2.2.2.2.1 y c (SB y c e),fun p hp z=>by
        rcases List.mem_append.mp hp with q|q
        · exact(hf b hb).2.2.2.2.2 p q z
        · exact Dfp (by rw[<- Yc p q,z];exact hb)⟩
    have I1':W1 (dW X sc cl G2.objs.size N s H fp (X.pn++WY)) [(s.heap.objs.size,{cls:=.type "list",data:=.seq vals.toArray k})] v0 H1 s1:=I1.tJ fun p hp=>by
      have e:p=(s.heap.objs.size,{cls:=.type "list",data:=.seq vals.toArray k}):=by simpa using hp
      subst e;exact⟨hg1,ab4,hDC,abX,fun v z=>by cases z⟩
    rcases step with⟨stop,hq⟩|⟨go,step⟩
    · refine thn (T.done (dW X sc cl G2.objs.size N s H fp (X.pn++WY)) rfl rfl rfl hc i [(s.heap.objs.size,{cls:=.type "list",data:=.seq vals.toArray k})] s1 _ H1 _ I1' (Yy fr1 fun p hp=>by
        have e:p=(s.heap.objs.size,{cls:=.type "list",data:=.seq vals.toArray k}):=by simpa using hp
        rw[e]) st1 stop) fun r s2 ⟨hr,I2⟩=>?_
      subst hr;obtain⟨g2,n2,_⟩:=I2.pin (s.heap.objs.size,{cls:=.type "list",data:=.seq vals.toArray k}) (List.mem_append_right _ (by simp));obtain⟨m2,Y9,_⟩:=I2.loc;have hCn:WZ H1 s.heap.objs.size (.lst xs) G2.objs.size=none:=by
        rw[aV (Ne.symm hDC)];exact I2.free
      exact fin s.heap.objs.size G2.objs.size s2 m2 _ Y9 (I.Hb hC hCn) (fun h' Ze=>Iu I hf I2 hC (Nat.le_refl _) hDC n2 g2 rv1 hz2 Ze) (hq _ n2)
    · refine thn (T.item (dW X sc cl G2.objs.size N s H fp (X.pn++WY)) rfl rfl rfl hc i [(s.heap.objs.size,{cls:=.type "list",data:=.seq vals.toArray k})] s1 _ H1 _ I1' (Yy fr1 fun p hp=>by
        have e:p=(s.heap.objs.size,{cls:=.type "list",data:=.seq vals.toArray k}):=by simpa using hp
        rw[e]) st1 go) fun r s2 ⟨u,hr,h2⟩=>?_
      subst hr;refine thn h2 fun _ s3 ⟨y,H3,I3,r3,y3,st3,fr3⟩=>?_;have I3':=I3.pinned (Yy fr3 fun p hp=>by
        have e:p=(s.heap.objs.size,{cls:=.type "list",data:=.seq vals.toArray k}):=by simpa using hp
        rw[e]) (T.obj _ _ st3)
      -- what the WY say again behind each part
      have back:∀ {σ9:St} {H9:Hp} {s9:Shared},W1 (dW X sc cl G2.objs.size N s H fp (X.pn++WY)) ([(s.heap.objs.size,{cls:=.type "list",data:=.seq vals.toArray k})]++Am fp s3.heap) σ9 H9 s9 ->
          tn (i+1) s9.heap/\(∀ b∈fp,H9 b=none)/\s9.heap.get? s.heap.objs.size=some {cls:=.type "list",data:=.seq vals.toArray k}/\H9 s.heap.objs.size=none:=fun {σ9 H9 s9} I9=>by
        refine⟨T.keep _ _ _ st3 fun b hb o e=>(I9.pin (b,o) (List.mem_append_right _ (List.mem_append_right _ (mK hb e)))).1,fun b hb=>?_,?_⟩
        · obtain⟨o,e,d⟩:=T.obj _ _ st3 b hb;exact(I9.pin (b,o) (List.mem_append_right _ (List.mem_append_right _ (mK hb e)))).2.1
        · obtain⟨a1,a2,_⟩:=I9.pin (s.heap.objs.size,{cls:=.type "list",data:=.seq vals.toArray k}) (List.mem_append_right _ (List.mem_append_left _ (by simp)));exact⟨a1,a2⟩
      have noX:∀ e s',(dW X sc cl G2.objs.size N s H fp (X.pn++WY)).xe e s'->zW X.prog X.w X.A (compEnvC sc cl G2.objs.size X.env) (RR (.ref s.heap.objs.size) G2.objs.size) e s':=fun e s' z=>(hx e s' z).elim;refine wpAny_mono (hpg _ _ _ _ _ _ s3 _ H3 y u _ I3' r3 (step y H3 y3 v0 Yd)) (fun _ s4 ⟨σ4,H4,I4,ok4,hstep⟩=>?_) noX;obtain⟨hbT,hbE⟩:=hb G2.objs.size s H fp (X.pn++WY);refine wpAny_mono (hbT _ s4 _ H4 _ I4 hstep) (fun ok s5 ⟨H5,I5,q5⟩=>?_) noX;cases ok with
      | false =>
        rw[if_neg Bool.false_ne_true];have q5':∃ m',m' < n/\W (i+1) m' xs H5:=q5;obtain⟨m',hm,w5⟩:=q5';obtain⟨b1,b2,b3,b4⟩:=back I5;exact⟨m',hm,i+1,xs,vals,k,σ4,H5,I5.tJ (fun p hp=>absurd hp (by simp)),ok4,b1,b2,b3,rv1,b4,w5⟩
      | true =>
        rw[if_pos rfl];refine wpAny_mono (hbE _ s5 _ H5 _ I5 q5) (fun z s6 ⟨v6,H6,I6,r6,q6⟩=>?_) noX;obtain⟨m',hm,w6⟩:=q6;obtain⟨b1,b2,b3,b4⟩:=back I6;refine call_meets F.slot_list_append ⟨_,b3,rfl⟩ F.entry_list_append (F.args_list_append_2 _ _) (PySem.list_append s.heap.objs.size vals.toArray k z (by rw[List.size_toArray];omega)) ⟨b3,?_⟩;have q7:=PySem.IsL.update b3 (fun a:Array Value=>a.push z);have aa3:vals.toArray.push z=(vals++[z]).toArray:=by simp
        rw[aa3] at q7;have I6':W1 (dW X sc cl G2.objs.size N s H fp (X.pn++WY)) [] σ4 H6 s6:=I6.tJ (fun p hp=>absurd hp (by simp));have others:∀ b o,b≠s.heap.objs.size->s6.heap.get? b=some o->(s6.heap.update s.heap.objs.size (Obj.mapSeq fun a=>a.push z)).get? b=some o:=fun b o hb' e=>(Heap.get?_update_other _ _ (Ne.symm hb')).trans e;refine⟨m',hm,i+1,xs++[v6],vals++[z],_,σ4,H6,I6'.turned (it:=s.heap.objs.size) others b4 hDC (.inr (Nat.le_refl _)) aaQ (fun p hp z'=>?_),ok4,T.keep _ _ _ b1 fun b hb' o e=>others b o (fun z'=>Dfp (by rw[<- z'];exact hb')) e,b2,q7,rv1.append (.cons r6 .nil),b4,w6⟩;have hp':p∈X.pn++WY:=by
          have z2:p∈(X.pn++WY)++[]:=hp;simpa using z2
        exact abW p hp' z'
  exact codeAny_compStart_list (loop _ rfl) (T.self _ _ _ _ _ (T.keep _ _ _ st fun b _ o e=>old b o e) (loop _ rfl))
theorem yF(hc:X.calm=true)(hx:∀ e s,¬ X.xe e s)(S:eO X sc cl x fr N)
    (hb:∀ C s H ex pn,PTs (dW X sc cl C N s H ex pn) ifs tc/\PE (dW X sc cl C N s H ex pn) elt te)
    {WY:List (Addr×Obj)} {σ:St} {H:Hp} {s:Shared} {it:Addr} {fp:List Addr} {tn:Nat->Heap->Prop} {J:It} {Q:VK} {RR:Value->Addr->Result->Shared->Prop} {E:q0A}
    (I:W1 X WY σ H s) (T:Turn X.prog X.w X.K (.Name x px) J fp it tn) (st:tn 0 s.heap) (hf:∀ b∈fp,r9 X WY H b)
    {W:Nat->Nat->List V->Hp->Prop} {m0:Nat} (w0:W 0 m0 [] H)
    (turn:∀ i m xs H,W i m xs H->xs.length<=1000000 /\
      ((J.stop i H/\∀ p,H p=none->Q (.ref p) (WZ H p (.lst xs))) \/
       (J.go i H/\∀ y H',J.yld i H y H'->tc (some y::bP fr σ) H' fun b H2=>if b=true then te (some y::bP fr σ) H2 (fun z H3=>∃ m',m' < m/\W (i+1) m' (xs++[z]) H3) else ∃ m',m' < m/\W (i+1) m' xs H2)))
    (fin:∀(D C:Addr) (s':Shared) (m':q0C) (H':Hp),s'.heap.Ns C m'->r9 X WY H' C->(∀ h',Heap.SameBut C s'.heap h'->W1 X WY σ H' {s' with heap:=h'})->Q (.ref D) H'->RR (.ref D) C (.ok .next) s') :
    wpAny (model X.prog X.w) X.A (newList []) (fun acc s₃=>wpAny (model X.prog X.w) X.A (newFunctionEnv sc X.env.globals cl [] X.env.qual none .none (some X.env)) (fun Y1 s₄ =>
      codeAny (model X.prog X.w) X.A (.compStart (.ListComp elt [⟨.Name x px,iter,ifs,0⟩] sc pos) 0 (.ref it) acc {Y1 with scope:=relabel sc X.env}) (RR acc Y1.locals) s₄) E s₃) E s :=
  DA (τ0:=none::bP fr σ) (O:=fun σ1=>∃ v0,σ1=v0::bP fr σ) (g:=wB 0) hc hx S.zU S.kind S.sub (fun C s H ex pn=>jQ (i:=0) S.nd (show N[0]?=some x by rw[S.N0];rfl) (.inl (lookup_relabel_local S.Zx)) (.inr (lookup_relabel_local S.Zx))) hb I T st hf
    (fun C h1 t1 m0 ZI hC hn hk=>Iv I S hf ZI hC hn hk) ⟨_,rfl⟩ w0
    (fun i m xs H w=>let ⟨l,z⟩:=turn i m xs H w;⟨l,z.imp id fun⟨g,h⟩=>⟨g,fun y H' hy σ1 ⟨v0,e⟩=>by subst e;exact⟨⟨_,rfl⟩,h y H' hy⟩⟩⟩) fin
theorem kN(hc:X.calm=true)(hx:∀ e s,¬ X.xe e s)(S:eO X sc cl x fr N)(hi:PI X (.Name x px) iter wi)
    (hb:∀ C s H ex pn,PTs (dW X sc cl C N s H ex pn) ifs tc/\PE (dW X sc cl C N s H ex pn) elt te)
    (hs:∀ v,foldedSetIterable iter X.env v=pure v:=by intro _;rfl):PE X (.ListComp elt [⟨.Name x px,iter,ifs,0⟩] sc pos) (kE wi fr tc te):=by
  intro WY s σ H Q I h;unfold kE at h;rw[eval_ListComp];refine wpAny_comprehension_free (use:=none) rfl hs S.Dy S.kind S.names ?_;refine thn (hi WY s σ H _ I h) fun v s1 h1=>thn h1 fun itv s2 h2=>?_;obtain⟨it,fp,tn,J,H2,e,I2,T,st2,f2,W,⟨m0,w0⟩,turn⟩:=h2;subst e;refine yF (RR:=fun acc C=>compPost (model X.prog X.w) X.A X.xe none (EP X WY σ Q) acc C) hc hx S hb I2 T st2 f2 w0 turn ?_;intro D C s' m' H' hn _ aaD q;exact⟨m',hn,fun h' Ze=>⟨.ref D,H',aaD h' Ze,rfl,q⟩⟩
end
theorem eO.mM{X:Cx}{sc:Scope}{x:Str}(kind:sc.kind=.function)(nc:(sc.names.all fun y=>y.2 !=.cell&&y.2 !=.free)=true)
    (nm:(sc.names.all fun y=>!(y.2==.local)||sc.names.lookup y.1==some .local)=true) (Zx:sc.names.lookup x=some .local):eO X sc [] x [] [x] where
  kind:=kind
  zU:=fun y hy e=>by
    have h:=List.all_eq_true.mp nc y hy;rw[e] at h;exact absurd h (by decide)
  names:=fun y hy e=>by
    have h:=List.all_eq_true.mp nm y hy;rw[e] at h;simpa using h
  Dy:=closureFor_none fun y hy e=>by
    have h:=List.all_eq_true.mp nc y hy;rw[e] at h;exact absurd h (by decide)
  sub:=fun y c h=>by cases h
  has:=fun y h=>by
    exfalso;have key:∀ l:List (Str×NameKind),(l.all fun y=>y.2 !=.cell&&y.2 !=.free)=true->∀ k,(l.map fun(n,k)=>if (k==NameKind.free&&X.env.scope.kind==.function&&X.env.kindOf n==some .cell) then (n,NameKind.cell) else (n,k)).lookup y=some k->k≠.cell/\k≠.free:=by
      intro l
      induction l with
      | nil=>intro _ k e;cases e
      | cons p r ih =>
        obtain⟨n,kk⟩:=p;intro ha k e;rw[List.all_cons,Bool.and_eq_true,Bool.and_eq_true] at ha;obtain⟨⟨h1,h2⟩,h3⟩:=ha;have h2':(kk==NameKind.free)=false:=by simpa using h2
        rw[List.map_cons] at e;dsimp only at e;rw[h2',Bool.false_and,Bool.false_and,if_neg Bool.false_ne_true,List.lookup_cons] at e;cases q:(y==n) with
        | true =>
          rw[q] at e;have e':kk=k:=Option.some.inj e;subst e';exact⟨by simpa using h1,by simpa using h2⟩
        | false =>
          rw[q] at e;exact ih h3 k e
    rcases h with h|h
    · exact(key sc.names nc _ h).1 rfl
    · exact(key sc.names nc _ h).2 rfl
  Zx:=Zx
  nd:=by simp
  N0:=rfl
  frc:=fun j hj=>by cases hj
section
variable {X:Cx}
theorem Hu:iX X (compareOp .LtE) (fun x y H Q=>∃ i j,x=.str i/\y=.str j/\Q (.bl (!decide (j.cps.toList < i.cps.toList))) H):=by
 intro WY s σ H x y v u Q I rx ry h;obtain⟨i,j,rfl,rfl,q⟩:=h;obtain⟨t,rfl⟩:=rx;obtain⟨t',rfl⟩:=ry;exact PySem.P.le_str (b9 I q rfl)
theorem Q9:La X (fun x lo hi H Q=>∃ z,x=.str z/\z.length<=sizeLine/\Q (.str (Txt.slice z lo hi)) H):=by
 intro WY s σ H x v vl vu lo hi sl Q I rx hs pl pu h;obtain⟨z,rfl,hz,q⟩:=h;obtain⟨t,rfl⟩:=rx;have fin:∀ t' k,EP X WY σ Q (.str (Txt.slice z lo hi) t') {s with toks:=k}:=fun t' k=>⟨.str _,H,I.tok _,⟨_,rfl⟩,q⟩;refine⟨"str",_,F.slot_str_getitem.lookup,typeIs_str s z t,?_⟩;cases pl with
 | none =>
  cases pu with
  | none=>exact wpAny_getItem_str_slice (l:=none) (u:=none) (st:=none) hs rfl (post_val_or_str ⟨Nat.le_trans (Txt.slice_le z _ _) hz,fin⟩)
  | int j uj=>exact wpAny_getItem_str_slice (l:=none) (u:=some (j,uj)) (st:=none) hs rfl (post_val_or_str ⟨Nat.le_trans (Txt.slice_le z _ _) hz,fin⟩)
 | int i ui =>
  cases pu with
  | none=>exact wpAny_getItem_str_slice (l:=some (i,ui)) (u:=none) (st:=none) hs rfl (post_val_or_str ⟨Nat.le_trans (Txt.slice_le z _ _) hz,fin⟩)
  | int j uj=>exact wpAny_getItem_str_slice (l:=some (i,ui)) (u:=some (j,uj)) (st:=none) hs rfl (post_val_or_str ⟨Nat.le_trans (Txt.slice_le z _ _) hz,fin⟩)
theorem Io(hc:X.calm=true):eR X (.builtin "all") (fun xs H Q=>∃(p:Addr) (bs:List Bool),xs=[.ref p]/\dZ X.K H p (bs.map V.bl)/\Q (.bl (bs.all id)) H):=by
 intro WY s σ H xs us Q I r h;obtain⟨p,bs,rfl,hq,q⟩:=h;obtain⟨u,rfl,ru⟩:=vals1 r;cases ru;obtain⟨W2,rv,pl,hz⟩:=I.list hq;have hl:=rv.length;rw[List.length_map] at hl;have plL:=pl.isList;have XO:p < s.heap.objs.size:=by obtain⟨_,e,_⟩:=plL;exact Heap.lt_size e
 refine call_all_walk (wpAny_pyIter_list plL ?_);refine⟨s.heap.objs.size,[s.heap.objs.size,p],[s.heap.objs.size],W2.toArray.size,_,_,fun i=>(bs[i]?).getD true,rfl,Walks.list (A:=X.A.in1) (I.ok.hd hc) _ p (Nat.ne_of_lt XO) W2.toArray,
  ⟨⟨_,Heap.get?_push_size _ rfl,rfl,rfl⟩,plL.push _⟩,fun i v s' Q' E' hP hQ=>?_,fun h' tk hk=>?_⟩
 ·have hP':W2[i]?=some v:=by simpa using hP
  have hi:i < W2.length:=(List.getElem?_eq_some_iff.mp hP').1;have e1:bs[i]?=some bs[i]:=List.getElem?_eq_getElem (by omega);obtain⟨u1,g1,s1⟩:=rv.get (i:=i) (x:=V.bl bs[i]) (by rw[List.getElem?_map,e1]<;>rfl);rw[hP'] at g1;cases g1;cases s1;simp only[e1,Option.getD_some] at hQ;exact wpAny_truthy_bool hQ
 ·have e:((List.range W2.toArray.size).all fun i=>(bs[i]?).getD true)=bs.all id:=by
   rw[List.size_toArray,<- hl];rw[Bool.eq_iff_iff,List.all_eq_true,List.all_eq_true];constructor
   ·intro h x hx;obtain⟨i,hi,e⟩:=List.getElem_of_mem hx;have:=h i (List.mem_range.mpr hi);rw[List.getElem?_eq_getElem hi,Option.getD_some,e] at this;exact this
   ·intro h i hi;have hi':=List.mem_range.mp hi;rw[List.getElem?_eq_getElem hi',Option.getD_some];exact h _ (List.getElem_mem hi')
  rw[e];exact⟨.bl (bs.all id),H,I.kept (fun b o eb=>hk b o (fun hm=>by rw[List.mem_singleton.mp hm] at eb;exact Nat.lt_irrefl _ (Heap.lt_size eb)) (Heap.get?_push_of_some _ eb)),rfl,q⟩
end
noncomputable def Its(x:Str):It:=⟨fun i _=>i < x.cps.size,fun i H y H'=>H'=H/\∃ c,x.cps[i]?=some c/\y=.str ⟨#[c]⟩,fun i _=>x.cps.size<=i⟩
theorem EB{P:Program}{w:World}{K:q0B}{tg:Expr}{T:String}(hT:T = "str_ascii_iterator"\/T = "str_iterator")(x:Str)(t:Tok)(it:Addr) :
    Turn P w K tg (Its x) [it] it (fun i h=>i<=x.cps.size/\h.IsStrIter it T x t i) where
  mem:=by simp
  obj:=fun i h st b hb=>by
    have e:b=it:=by simpa using hb
    subst e;obtain⟨o,e,c,d⟩:=st.2;exact⟨o,e,fun v z=>by rw[d] at z;cases z⟩
  keep:=fun i h h' st k=>⟨st.1,let ⟨o,e,r⟩:=st.2;⟨o,k it (by simp) o e,r⟩⟩
  item:=by
    intro X hP hw hK hc i WY s σ H E I hf st hg;subst hP hw hK;obtain⟨f0,f1,f2,f3,f4,f5⟩:=hf it (by simp);have W:Walks X.prog X.w X.A it [it] [it] x.cps.size (SignAt x) (fun i h=>h.IsStrIter it T x t i):=by
      rcases hT with e|e
      · subst e;exact Walks.strAscii (I.ok.hd hc) it x t
      · subst e;exact Walks.strWide (I.ok.hd hc) it x t
    refine W.item i s _ _ hg st.2 fun v h' tk hv Zm kk=>?_;obtain⟨c,u,hcx,rfl⟩:=hv;have I1:W1 X WY σ H {s with heap:=h',toks:=tk}:=I.turned (fun b o hb e=>kk b o (by simpa using hb) e) f0 f1 f3 f4 f5;obtain⟨o,eo,co,d⟩:=id Zm;have hn:["enumerate","zip","dict_itemiterator","dict_reverseitemiterator","odict_iterator","itertools.zip_longest","itertools.pairwise"].contains T=false:=by
      rcases hT with e|e<;>subst e<;>decide
    exact⟨_,rfl,FW (s:={s with heap:=h',toks:=tk}) (n:=T) eo co d hn ⟨.str ⟨#[c]⟩,H,I1,⟨_,rfl⟩,⟨rfl,c,hcx,rfl⟩,⟨hg,Zm⟩,fun b hb=>(hf b hb).1⟩⟩
  done:=by
    intro X hP hw hK hc i WY s σ H E I hf st hg;subst hP hw hK;obtain⟨f0,f1,f2,f3,f4,f5⟩:=hf it (by simp);have W:Walks X.prog X.w X.A it [it] [it] x.cps.size (SignAt x) (fun i h=>h.IsStrIter it T x t i):=by
      rcases hT with e|e
      · subst e;exact Walks.strAscii (I.ok.hd hc) it x t
      · subst e;exact Walks.strWide (I.ok.hd hc) it x t
    have ei:i=x.cps.size:=Nat.le_antisymm st.1 hg;subst ei;exact W.done s _ _ st.2 fun h' tk kk=>⟨rfl,I.turned (fun b o hb e=>kk b o (by simpa using hb) e) f0 f1 f3 f4 f5⟩
  self:=fun A i s Q E st h=>by
    rcases hT with e|e
    · subst e;exact wpAny_pyIter_striter_ascii st.2 h
    · subst e;exact wpAny_pyIter_striter_wide st.2 h
section
variable {X:Cx} {tg:Expr}
noncomputable def Qv(tl:TE):TI:=fun σ H R=>tl σ H fun x H1=>∃ z,x=.str z/\R (Its z) H1
theorem CS{l:Expr}{tl:TE}(hl:PE X l tl):PI X tg l (Qv tl):=by
 intro WY s σ H R I h;refine thn (hl WY s σ H _ I h) fun v s1 ⟨x,H1,I1,r1,q1⟩=>?_;obtain⟨z,e,q⟩:=q1;subst e;obtain⟨t,rfl⟩:=r1;cases ha:z.cps.all (· < 128) with
 | true =>
  refine wpAny_pyIter_ascii ha ⟨s1.heap.objs.size,[s1.heap.objs.size],_,_,H1,rfl,I1.kept (t':=s1.toks) fun b o e=>Heap.get?_push_of_some _ e,EB (.inl rfl) z t _,⟨Nat.zero_le _,_,Heap.get?_push_size _ rfl,rfl,rfl⟩,fun b hb=>?_,q⟩;have e:b=s1.heap.objs.size:=by simpa using hb
  subst e;exact I1.Hb (Nat.le_refl _) (I1.W5.fresh (Nat.le_refl _))
 | false =>
  refine wpAny_pyIter_wide ha ⟨s1.heap.objs.size,[s1.heap.objs.size],_,_,H1,rfl,I1.kept (t':=s1.toks) fun b o e=>Heap.get?_push_of_some _ e,EB (.inr rfl) z t _,⟨Nat.zero_le _,_,Heap.get?_push_size _ rfl,rfl,rfl⟩,fun b hb=>?_,q⟩;have e:b=s1.heap.objs.size:=by simpa using hb
  subst e;exact I1.Hb (Nat.le_refl _) (I1.W5.fresh (Nat.le_refl _))
end
noncomputable def cW(n:Nat)(Pv:Nat->List V->Hp->Prop)(i m:Nat)(xs:List V)(H:Hp):Prop:=m=n - i/\i<=n/\Pv i xs H
theorem cW.next{n:Nat}{Pv:Nat->List V->Hp->Prop}{i:Nat}{xs:List V}{H:Hp}(hi:i < n)(p:Pv (i+1) xs H):∃ m',m' < n - i/\cW n Pv (i+1) m' xs H:=⟨n - (i+1),by omega,rfl,hi,p⟩
section
variable {fr:List Nat} {tc:TT} {te:TE} {σ:St} {H:Hp} {Q:VK}
theorem GU{K:q0B}{a:Addr}{ys:List V}(Pv:Nat->List V->Hp->Prop)(h0:Pv 0 [] H)(hz:∀ i xs H,Pv i xs H->xs.length<=1000000)(hl:∀ i xs H,Pv i xs H->dZ K H a ys)
    (hs:∀ i y xs H,i < ys.length->ys[i]?=some y->Pv i xs H->tc (some y::bP fr σ) H fun b H2=>if b=true then te (some y::bP fr σ) H2 (fun z H3=>∃ m',m' < ys.length - i/\cW ys.length Pv (i+1) m' (xs++[z]) H3) else ∃ m',m' < ys.length - i/\cW ys.length Pv (i+1) m' xs H2)
    (hd:∀ xs H,Pv ys.length xs H->∀ p,H p=none->Q (.ref p) (WZ H p (.lst xs))) :
    ∃ W:Nat->Nat->List V->Hp->Prop,(∃ m,W 0 m [] H)/\∀ i m xs H,W i m xs H->xs.length<=1000000 /\
      (((YR K a).stop i H/\∀ p,H p=none->Q (.ref p) (WZ H p (.lst xs))) \/
       ((YR K a).go i H/\∀ y H',(YR K a).yld i H y H'->tc (some y::bP fr σ) H' fun b H2=>if b=true then te (some y::bP fr σ) H2 (fun z H3=>∃ m',m' < m/\W (i+1) m' (xs++[z]) H3) else ∃ m',m' < m/\W (i+1) m' xs H2)):=by
  refine⟨cW ys.length Pv,⟨ys.length,by simp,Nat.zero_le _,h0⟩,?_⟩;rintro i m xs H ⟨rfl,hi,p⟩;refine⟨hz i xs H p,?_⟩;have q:=hl i xs H p;by_cases XO:i < ys.length
  · refine .inr ⟨⟨ys,ys[i],q,by simp[XO]⟩,fun y H' yy=>?_⟩;obtain⟨e,yy⟩:=yy;subst e;exact hs i y xs _ XO (yy ys q) p
  · have e:i=ys.length:=by omega
    subst e;exact .inl ⟨⟨ys,q,Nat.le_refl _⟩,hd xs H p⟩
theorem Iw{x:Str}(Pv:Nat->List V->Hp->Prop)(h0:Pv 0 [] H)(hz:∀ i xs H,Pv i xs H->xs.length<=1000000)
    (hs:∀ i c xs H,i < x.cps.size->x.cps[i]?=some c->Pv i xs H->tc (some (.str ⟨#[c]⟩)::bP fr σ) H fun b H2=>if b=true then te (some (.str ⟨#[c]⟩)::bP fr σ) H2 (fun z H3=>∃ m',m' < x.cps.size - i/\cW x.cps.size Pv (i+1) m' (xs++[z]) H3) else ∃ m',m' < x.cps.size - i/\cW x.cps.size Pv (i+1) m' xs H2)
    (hd:∀ xs H,Pv x.cps.size xs H->∀ p,H p=none->Q (.ref p) (WZ H p (.lst xs))) :
    ∃ W:Nat->Nat->List V->Hp->Prop,(∃ m,W 0 m [] H)/\∀ i m xs H,W i m xs H->xs.length<=1000000 /\
      (((Its x).stop i H/\∀ p,H p=none->Q (.ref p) (WZ H p (.lst xs))) \/
       ((Its x).go i H/\∀ y H',(Its x).yld i H y H'->tc (some y::bP fr σ) H' fun b H2=>if b=true then te (some y::bP fr σ) H2 (fun z H3=>∃ m',m' < m/\W (i+1) m' (xs++[z]) H3) else ∃ m',m' < m/\W (i+1) m' xs H2)):=by
  refine⟨cW x.cps.size Pv,⟨x.cps.size,by simp,Nat.zero_le _,h0⟩,?_⟩;rintro i m xs H ⟨rfl,hi,p⟩;refine⟨hz i xs H p,?_⟩;by_cases XO:i < x.cps.size
  · refine .inr ⟨XO,fun y H' yy=>?_⟩;obtain⟨e,c,hc,rfl⟩:=yy;subst e;exact hs i c xs _ XO hc p
  · have e:i=x.cps.size:=by omega
    subst e;exact .inl ⟨Nat.le_refl _,hd xs H p⟩
theorem EK{lo:Int}{n:Nat}(Pv:Nat->List V->Hp->Prop)(h0:Pv 0 [] H)(hz:∀ i xs H,Pv i xs H->xs.length<=1000000)
    (hs:∀ i xs H,i < n->Pv i xs H->tc (some (.int (lo+i))::bP fr σ) H fun b H2=>if b=true then te (some (.int (lo+i))::bP fr σ) H2 (fun z H3=>∃ m',m' < n - i/\cW n Pv (i+1) m' (xs++[z]) H3) else ∃ m',m' < n - i/\cW n Pv (i+1) m' xs H2)
    (hd:∀ xs H,Pv n xs H->∀ p,H p=none->Q (.ref p) (WZ H p (.lst xs))) :
    ∃ W:Nat->Nat->List V->Hp->Prop,(∃ m,W 0 m [] H)/\∀ i m xs H,W i m xs H->xs.length<=1000000 /\
      (((YB lo n).stop i H/\∀ p,H p=none->Q (.ref p) (WZ H p (.lst xs))) \/
       ((YB lo n).go i H/\∀ y H',(YB lo n).yld i H y H'->tc (some y::bP fr σ) H' fun b H2=>if b=true then te (some y::bP fr σ) H2 (fun z H3=>∃ m',m' < m/\W (i+1) m' (xs++[z]) H3) else ∃ m',m' < m/\W (i+1) m' xs H2)):=by
  refine⟨cW n Pv,⟨n,by simp,Nat.zero_le _,h0⟩,?_⟩;rintro i m xs H ⟨rfl,hi,p⟩;refine⟨hz i xs H p,?_⟩;by_cases XO:i < n
  · refine .inr ⟨XO,fun y H' yy=>?_⟩;obtain⟨e,rfl⟩:=yy;subst e;exact hs i xs _ XO p
  · have e:i=n:=by omega
    subst e;exact .inl ⟨Nat.le_refl _,hd xs H p⟩
end
section
variable {fr:List Nat} {tc:TT} {te:TE} {σ:St} {H H1:Hp} {Q:VK}
end
theorem zL{l:List (Str×NameKind)}{y:Str}{k:NameKind}(h:l.lookup y=some k):(y,k)∈l:=PySem.mem_of_lookup h
theorem eO.free{X:Cx}{sc:Scope}{cl:List (Str×Addr)}{x:Str}{fr:List Nat}{N:List Str}(kind:sc.kind=.function)(nc:(sc.names.all fun y=>y.2 !=.cell)=true)
    (nm:(sc.names.all fun y=>!(y.2==.local)||sc.names.lookup y.1==some .local)=true) (Zx:sc.names.lookup x=some .local) (Dy:closureFor sc X.env=pure cl)
    (sub:∀ y c,cl.lookup y=some c->X.env.cells.lookup y=some c) (has:((relabel sc X.env).names.all fun y=>(y.2 !=.cell&&y.2 !=.free)||(cl.lookup y.1).isSome)=true)
    (nd:N.Nodup) (N0:N=x::fr.map fun j=>X.N.getD j x) (frc:∀ j∈fr,∃ y,X.N[j]?=some y/\X.env.kindOf y=some .cell/\((relabel sc X.env).names.lookup y=some .cell\/(relabel sc X.env).names.lookup y=some .free)):eO X sc cl x fr N where
  kind:=kind
  zU:=fun y hy e=>by
    have h:=List.all_eq_true.mp nc y hy;rw[e] at h;exact absurd h (by decide)
  names:=fun y hy e=>by
    have h:=List.all_eq_true.mp nm y hy;rw[e] at h;simpa using h
  Dy:=Dy
  sub:=sub
  has:=fun y h=>by
    have key:∀ k,(relabel sc X.env).names.lookup y=some k->(k=.cell\/k=.free)->∃ c,cl.lookup y=some c:=fun k e hk=>by
      have h:=List.all_eq_true.mp has (y,k) (zL e);rcases hk with rfl|rfl
      · exact Option.isSome_iff_exists.mp (by simpa using h)
      · exact Option.isSome_iff_exists.mp (by simpa using h)
    rcases h with h|h
    · exact key _ h (.inl rfl)
    · exact key _ h (.inr rfl)
  Zx:=Zx
  nd:=nd
  N0:=N0
  frc:=frc
section
variable {X:Cx} {sc:Scope} {cl:List (Str×Addr)} {x:Str} {fr:List Nat} {N:List Str} {elt iter:Expr} {px pos:Pos} {ifs:List Expr} {wi:TI} {tc:TT} {te:TE}
theorem Fj{i:Nat}{y:Str}{py abF:Pos}(hc:X.calm=true)(hx:∀ e s,¬ X.xe e s)(S:eO X sc cl x fr N)(hi:PI X (.Name x px) iter wi)
    (hb:∀ C s H ex pn,PTs (dW X sc cl C N s H ex pn) ifs tc/\PE (dW X sc cl C N s H ex pn) elt te)
    (hN:X.N.Nodup) (hy:X.N[i]?=some y) (hl:Loc X.env.scope y) (hsw:swapsWith (.ListComp elt [⟨.Name x px,iter,ifs,0⟩] sc pos) (some (.Name y py)) abF.line X.env=pure true:=by rfl)
    (hs:∀ v,foldedSetIterable iter X.env v=pure v:=by intro _;rfl) (hf:X.fn y=true\/X.env.scope.names.lookup y=some .local:=by first|exact .inl rfl|exact .inr rfl|assumption) :
    PS X (.Assign [.Name y py] (.ListComp elt [⟨.Name x px,iter,ifs,0⟩] sc pos) abF) (M7 (kE wi fr tc te) (wB i)):=by
  intro WY s σ H D I h;have h:kE wi fr tc te σ H (fun x H1=>wB i x σ H1 D.nx):=h;unfold kE at h;rw[exec_Assign_Name_used _ _ _ _ hsw];refine wpAny_bind (wpAny_standAt (wpAny_bind ?_));show wpAny _ X.A (do let _ <- comprehension (.ListComp elt [⟨.Name x px,iter,ifs,0⟩] sc pos) sc X.env _ (newList []) false (eval iter X.env) (some (assign (.Name y py) X.env))) _ _ s;refine wpAny_bind (wpAny_mono (wpAny_comprehension_free (use:=some (assign (.Name y py) X.env)) (Q:=fun _ s'=>SP X WY D .next s') rfl hs S.Dy S.kind S.names
    (thn (hi WY s σ H _ I h) fun v s1 h1=>thn h1 fun itv s2 h2=>?_)) (fun _ s' hq=>wpAny_pure (wpAny_pure hq)) fun _ _ e=>e)
  obtain⟨it,fp,tn,J,H2,e,I2,T,st2,f2,W,⟨m0,w0⟩,turn⟩:=h2;subst e;refine yF (Q:=fun x H1=>wB i x σ H1 D.nx) (RR:=fun acc C=>compPost (model X.prog X.w) X.A X.xe (some (assign (.Name y py) X.env)) (fun _ s'=>SP X WY D .next s') acc C) hc hx S hb I2 T st2 f2 w0 turn ?_;intro D' C s' m' H' hn fC aaD q;show wpAny _ X.A (assign (.Name y py) X.env (.ref D')) _ _ _;have I':W1 X WY σ H' s':=aaD s'.heap (Heap.SameBut.refl ..);refine wpAny_assign_Name (BN (v:=.ref D') I' hN hy hl rfl (fun s'' I'' ⟨a,hsa,ha⟩=>?_) hf);obtain⟨f0,f1,f2',f3,f4,f5⟩:=fC;have hCa:C≠a:=fun z=>by
    rcases ha with ha|ha
    · exact f1 (z.trans ha)
    · exact f4 y a ha z.symm
  refine⟨m',hn.sameBut hsa hCa,fun h' Ze=>?_⟩;exact⟨σ.set i (some (.ref D')),H',I''.turned (t':=s''.toks) (fun b o hb' e=>(Ze.2 b hb').trans e) f0 f1 f3 f4 f5,q⟩
end
section
variable {prog:Program} {w:World} {A:Around} {E:q0A} {s:Shared}
end
section
variable {σ:St} {H:Hp} {Q:VK} {i j:Int} {x y:Str} {v:V} {n:Nat} {a:Addr}
theorem NW:eY 0 (some v::σ) H Q=Q v H:=by simp[eY]
theorem g7{o:Option V}:eY (n+1) (o::σ) H Q=eY n σ H Q:=by simp[eY]
theorem Vp{o0:Option V}:eY 1 (o0::some v::σ) H Q=Q v H:=(g7.trans NW)
theorem Vq{o0 o1:Option V}:eY 2 (o0::o1::some v::σ) H Q=Q v H:=(g7.trans Vp)
theorem Vr{o0 o1 o2:Option V}:eY 3 (o0::o1::o2::some v::σ) H Q=Q v H:=(g7.trans Vq)
theorem Vt{o0 o1 o2 o3:Option V}:eY 4 (o0::o1::o2::o3::some v::σ) H Q=Q v H:=(g7.trans Vr)
theorem Vu{o0 o1 o2 o3 o4:Option V}:eY 5 (o0::o1::o2::o3::o4::some v::σ) H Q=Q v H:=(g7.trans Vt)
theorem Vv{o0 o1 o2 o3 o4 o5:Option V}:eY 6 (o0::o1::o2::o3::o4::o5::some v::σ) H Q=Q v H:=(g7.trans Vu)
theorem Vw{o0 o1 o2 o3 o4 o5 o6:Option V}:eY 7 (o0::o1::o2::o3::o4::o5::o6::some v::σ) H Q=Q v H:=(g7.trans Vv)
theorem Vx{o0 o1 o2 o3 o4 o5 o6 o7:Option V}:eY 8 (o0::o1::o2::o3::o4::o5::o6::o7::some v::σ) H Q=Q v H:=(g7.trans Vw)
theorem Vy{o0 o1 o2 o3 o4 o5 o6 o7 o8:Option V}:eY 9 (o0::o1::o2::o3::o4::o5::o6::o7::o8::some v::σ) H Q=Q v H:=(g7.trans Vx)
theorem NX{o0 o1 o2 o3 o4 o5 o6 o7 o8 o9:Option V}:eY 10 (o0::o1::o2::o3::o4::o5::o6::o7::o8::o9::some v::σ) H Q=Q v H:=(g7.trans Vy)
theorem NY{o0 o1 o2 o3 o4 o5 o6 o7 o8 o9 Xl:Option V}:eY 11 (o0::o1::o2::o3::o4::o5::o6::o7::o8::o9::Xl::some v::σ) H Q=Q v H:=(g7.trans NX)
theorem NZ{o0 o1 o2 o3 o4 o5 o6 o7 o8 o9 Xl Xn:Option V}:eY 12 (o0::o1::o2::o3::o4::o5::o6::o7::o8::o9::Xl::Xn::some v::σ) H Q=Q v H:=(g7.trans NY)
theorem N8{o0 o1 o2 o3 o4 o5 o6 o7 o8 o9 Xl Xn Xo:Option V}:eY 13 (o0::o1::o2::o3::o4::o5::o6::o7::o8::o9::Xl::Xn::Xo::some v::σ) H Q=Q v H:=(g7.trans NZ)
theorem N9{o0 o1 o2 o3 o4 o5 o6 o7 o8 o9 Xl Xn Xo Xs:Option V}:eY 14 (o0::o1::o2::o3::o4::o5::o6::o7::o8::o9::Xl::Xn::Xo::Xs::some v::σ) H Q=Q v H:=(g7.trans N8)
theorem Oa{o0 o1 o2 o3 o4 o5 o6 o7 o8 o9 Xl Xn Xo Xs Xw:Option V}:eY 15 (o0::o1::o2::o3::o4::o5::o6::o7::o8::o9::Xl::Xn::Xo::Xs::Xw::some v::σ) H Q=Q v H:=(g7.trans N9)
theorem Ob{o0 o1 o2 o3 o4 o5 o6 o7 o8 o9 Xl Xn Xo Xs Xw Xx:Option V}:eY 16 (o0::o1::o2::o3::o4::o5::o6::o7::o8::o9::Xl::Xn::Xo::Xs::Xw::Xx::some v::σ) H Q=Q v H:=(g7.trans Oa)
theorem Oc{o0 o1 o2 o3 o4 o5 o6 o7 o8 o9 Xl Xn Xo Xs Xw Xx XC:Option V}:eY 17 (o0::o1::o2::o3::o4::o5::o6::o7::o8::o9::Xl::Xn::Xo::Xs::Xw::Xx::XC::some v::σ) H Q=Q v H:=(g7.trans Ob)
theorem Od{o0 o1 o2 o3 o4 o5 o6 o7 o8 o9 Xl Xn Xo Xs Xw Xx XC XE:Option V}:eY 18 (o0::o1::o2::o3::o4::o5::o6::o7::o8::o9::Xl::Xn::Xo::Xs::Xw::Xx::XC::XE::some v::σ) H Q=Q v H:=(g7.trans Oc)
theorem Oe{o0 o1 o2 o3 o4 o5 o6 o7 o8 o9 Xl Xn Xo Xs Xw Xx XC XE XS:Option V}:eY 19 (o0::o1::o2::o3::o4::o5::o6::o7::o8::o9::Xl::Xn::Xo::Xs::Xw::Xx::XC::XE::XS::some v::σ) H Q=Q v H:=(g7.trans Od)
theorem Of{o0 o1 o2 o3 o4 o5 o6 o7 o8 o9 Xl Xn Xo Xs Xw Xx XC XE XS X3:Option V}:eY 20 (o0::o1::o2::o3::o4::o5::o6::o7::o8::o9::Xl::Xn::Xo::Xs::Xw::Xx::XC::XE::XS::X3::some v::σ) H Q=Q v H:=(g7.trans Oe)
theorem Og{o0 o1 o2 o3 o4 o5 o6 o7 o8 o9 Xl Xn Xo Xs Xw Xx XC XE XS X3 X9:Option V}:eY 21 (o0::o1::o2::o3::o4::o5::o6::o7::o8::o9::Xl::Xn::Xo::Xs::Xw::Xx::XC::XE::XS::X3::X9::some v::σ) H Q=Q v H:=(g7.trans Of)
theorem Oh{o0 o1 o2 o3 o4 o5 o6 o7 o8 o9 Xl Xn Xo Xs Xw Xx XC XE XS X3 X9 Ym:Option V}:eY 22 (o0::o1::o2::o3::o4::o5::o6::o7::o8::o9::Xl::Xn::Xo::Xs::Xw::Xx::XC::XE::XS::X3::X9::Ym::some v::σ) H Q=Q v H:=(g7.trans Og)
theorem Oi{o0 o1 o2 o3 o4 o5 o6 o7 o8 o9 Xl Xn Xo Xs Xw Xx XC XE XS X3 X9 Ym Yx:Option V}:eY 23 (o0::o1::o2::o3::o4::o5::o6::o7::o8::o9::Xl::Xn::Xo::Xs::Xw::Xx::XC::XE::XS::X3::X9::Ym::Yx::some v::σ) H Q=Q v H:=(g7.trans Oh)
theorem Oj{o0 o1 o2 o3 o4 o5 o6 o7 o8 o9 Xl Xn Xo Xs Xw Xx XC XE XS X3 X9 Ym Yx YM:Option V}:eY 24 (o0::o1::o2::o3::o4::o5::o6::o7::o8::o9::Xl::Xn::Xo::Xs::Xw::Xx::XC::XE::XS::X3::X9::Ym::Yx::YM::some v::σ) H Q=Q v H:=(g7.trans Oi)
theorem Ol{o0 o1 o2 o3 o4 o5 o6 o7 o8 o9 Xl Xn Xo Xs Xw Xx XC XE XS X3 X9 Ym Yx YM Zi:Option V}:eY 25 (o0::o1::o2::o3::o4::o5::o6::o7::o8::o9::Xl::Xn::Xo::Xs::Xw::Xx::XC::XE::XS::X3::X9::Ym::Yx::YM::Zi::some v::σ) H Q=Q v H:=(g7.trans Oj)
theorem Om{o0 o1 o2 o3 o4 o5 o6 o7 o8 o9 Xl Xn Xo Xs Xw Xx XC XE XS X3 X9 Ym Yx YM Zi ZO:Option V}:eY 26 (o0::o1::o2::o3::o4::o5::o6::o7::o8::o9::Xl::Xn::Xo::Xs::Xw::Xx::XC::XE::XS::X3::X9::Ym::Yx::YM::Zi::ZO::some v::σ) H Q=Q v H:=(g7.trans Ol)
theorem Oo{o0 o1 o2 o3 o4 o5 o6 o7 o8 o9 Xl Xn Xo Xs Xw Xx XC XE XS X3 X9 Ym Yx YM Zi ZO o26:Option V}:eY 27 (o0::o1::o2::o3::o4::o5::o6::o7::o8::o9::Xl::Xn::Xo::Xs::Xw::Xx::XC::XE::XS::X3::X9::Ym::Yx::YM::Zi::ZO::o26::some v::σ) H Q=Q v H:=(g7.trans Om)
theorem Oq{o0 o1 o2 o3 o4 o5 o6 o7 o8 o9 Xl Xn Xo Xs Xw Xx XC XE XS X3 X9 Ym Yx YM Zi ZO o26 o27:Option V}:eY 28 (o0::o1::o2::o3::o4::o5::o6::o7::o8::o9::Xl::Xn::Xo::Xs::Xw::Xx::XC::XE::XS::X3::X9::Ym::Yx::YM::Zi::ZO::o26::o27::some v::σ) H Q=Q v H:=(g7.trans Oo)
theorem Ot{o0 o1 o2 o3 o4 o5 o6 o7 o8 o9 Xl Xn Xo Xs Xw Xx XC XE XS X3 X9 Ym Yx YM Zi ZO o26 o27 o28:Option V}:eY 29 (o0::o1::o2::o3::o4::o5::o6::o7::o8::o9::Xl::Xn::Xo::Xs::Xw::Xx::XC::XE::XS::X3::X9::Ym::Yx::YM::Zi::ZO::o26::o27::o28::some v::σ) H Q=Q v H:=(g7.trans Oq)
theorem Vs{o0 o1 o2 o3 o4 o5 o6 o7 o8 o9 Xl Xn Xo Xs Xw Xx XC XE XS X3 X9 Ym Yx YM Zi ZO o26 o27 o28 o29:Option V}:eY 30 (o0::o1::o2::o3::o4::o5::o6::o7::o8::o9::Xl::Xn::Xo::Xs::Xw::Xx::XC::XE::XS::X3::X9::Ym::Yx::YM::Zi::ZO::o26::o27::o28::o29::some v::σ) H Q=Q v H:=(g7.trans Ot)
theorem Jy{α β:Type}{f:α->β}{a:α}{l:List α}:List.map f (a::l)=f a::List.map f l:=rfl
theorem NF{α β:Type}{f:α->β}:List.map f []=[]:=rfl
theorem Wz{C:Int->Int->Prop}{g:Int->Int->V}:rI C g (.int i) (.int j) H Q=(C i j/\Q (g i j) H):=by simp[rI]
theorem Vo{g:Int->Int->V}:KR g (.int i) (.int j) H Q=Q (g i j) H:=by simp[KR]
theorem WA{g:Int->V}:rU g (.int i) H Q=Q (g i) H:=by simp[rU]
theorem w_lit(h:Nat.ble n 1000=true):(n<=sizeLine)=True:=eq_true (Nat.le_of_lt (small1000 (Nat.le_of_ble_eq_true h)))
theorem Vk:Hz (.int i) (.int j) H Q=Q (.bl (decide (i=j))) H:=by simp only[Hz,show scal (.int i) (.int j)=true from rfl,V.int.injEq,true_and]
theorem Vl:Hz (.str x) (.str y) H Q=Q (.bl (decide (x=y))) H:=by simp only[Hz,show scal (.str x) (.str y)=true from rfl,V.str.injEq,true_and]
theorem Vm:ML (.int i) (.int j) H Q=Q (.bl (!decide (i=j))) H:=by simp only[ML,show scal (.int i) (.int j)=true from rfl,V.int.injEq,true_and]
theorem Vn:ML (.str x) (.str y) H Q=Q (.bl (!decide (x=y))) H:=by simp only[ML,show scal (.str x) (.str y)=true from rfl,V.str.injEq,true_and]
end
theorem cF{a b:String}:(Str.ofString a=Str.ofString b)=(a=b):=by
 refine propext ⟨fun h=>?_,fun h=>by rw[h]⟩;rw[Str.ofString_eq_toList,Str.ofString_eq_toList] at h;have e:(a.toList.map Char.toNat)=(b.toList.map Char.toNat):=by
  have:=congrArg (fun z:Str=>z.cps.toList) h;simpa using this
 have inj:∀ x y:Char,x.toNat=y.toNat->x=y:=fun x y q=>Char.ext (UInt32.toNat_inj.mp q);have:=(List.map_inj_right (f:=Char.toNat) (fun x y q=>inj x y q)).mp e;exact String.toList_inj.mp this
noncomputable def Kp(S:List Addr)(H H':Hp):Prop:=∀ b o,H b=some o->b∉S->H' b=some o
section
variable {S T:List Addr} {H H1 H2:Hp} {a p:Addr} {o:HO}
theorem Kp.refl:Kp S H H:=fun _ _ h _=>h
theorem Kp.trans(x:Kp S H H1)(y:Kp S H1 H2):Kp S H H2:=fun b o h n=>y b o (x b o h n) n
theorem Kp.mono(x:Kp S H H1)(h:∀ b∈S,b∈T):Kp T H H1:=fun b o e n=>x b o e fun z=>n (h b z)
theorem Kp.new(h:H p=none):Kp S H (WZ H p o):=fun b u e _=>by rw[aV (aL e h)];exact e
theorem q0D(h:H p=none):Kp [] H (WZ H p o):=Kp.new h
theorem Kp.set(h:p∈S):Kp S H (WZ H p o):=fun b u e n=>by rw[aV (show b≠p from fun z=>n (by rw[z];exact h))];exact e
theorem Kp.at(x:Kp S H H1)(e:H a=some o)(n:a∉S:=by first|exact List.not_mem_nil|simp_all):H1 a=some o:=x a o e n
theorem Kp.same(x:Kp [] H H1):Same H H1:=fun b o e=>x b o e (by simp)
theorem Kp.of(x:Same H H1):Kp S H H1:=fun b o e _=>x b o e
theorem Kp.drop(x:Kp (p::S) H H1)(h:H p=none):Kp S H H1:=fun b o e n=>x b o e (by
 simp only[List.mem_cons,not_or];exact⟨aL e h,n⟩)
end
noncomputable abbrev Tg{α:Type}(_:α):Type:=Unit
noncomputable def eM{α:Type}(o:Option α)(k:α->Prop)(_u:Tg k:=()):Prop:=match o with
 | some x=>k x
 | none=>False
noncomputable def Mv(x:V)(k:Bool->Prop)(_u:Tg k:=()):Prop:=match x with
 | .bl b=>k b
 | _=>False
noncomputable def bX(o:Option HO)(k:List V->Prop)(_u:Tg k:=()):Prop:=match o with
 | some (.lst xs)=>k xs
 | _=>False
noncomputable def m9(o:Option HO)(k:List V->Prop)(_u:Tg k:=()):Prop:=match o with
 | some (.lst xs)=>k xs
 | some (.tup xs)=>k xs
 | _=>False
noncomputable def dH(o:Option HO)(k:List (Key×V)->Prop)(_u:Tg k:=()):Prop:=match o with
 | some (.dK xs)=>k xs
 | _=>False
noncomputable def bB(x:V)(k:Addr->Prop)(_u:Tg k:=()):Prop:=match x with
 | .ref p=>k p
 | _=>False
noncomputable def fH(x:V)(k:Int->Prop)(_u:Tg k:=()):Prop:=match x with
 | .int i=>k i
 | _=>False
theorem iP{α:Type}{o:Option α}{k:α->Prop}(h:eM o k):∃ x,o=some x/\k x:=by
 cases o with
 | none=>exact h.elim
 | some x=>exact⟨x,rfl,h⟩
theorem QP{x:V}{k:Bool->Prop}(h:Mv x k):∃ b,x=.bl b/\k b:=by
 cases x with
 | bl b=>exact⟨b,rfl,h⟩
 | _=>exact h.elim
theorem uY{x:V}{k:Bool->Prop}:(∃ b,x=.bl b/\k b)=Mv x k:=by
 refine propext ⟨fun⟨b,e,h⟩=>by subst e;exact h,QP⟩
theorem bN{x:V}{k:Addr->Prop}(h:bB x k):∃ b,x=.ref b/\k b:=by
 cases x with
 | ref b=>exact⟨b,rfl,h⟩
 | _=>exact h.elim
theorem eV{x:V}{k:Int->Prop}(h:fH x k):∃ b,x=.int b/\k b:=by
 cases x with
 | int b=>exact⟨b,rfl,h⟩
 | _=>exact h.elim
theorem gA{o:Option HO}{k:List V->Prop}(h:bX o k):∃ xs,o=some (.lst xs)/\k xs:=by
 unfold bX at h;split at h
 ·exact⟨_,rfl,h⟩
 ·exact h.elim
theorem sU{o:Option HO}{k:List V->Prop}(h:m9 o k):∃ xs,(o=some (.lst xs)\/o=some (.tup xs))/\k xs:=by
 unfold m9 at h;split at h
 ·exact⟨_,.inl rfl,h⟩
 ·exact⟨_,.inr rfl,h⟩
 ·exact h.elim
noncomputable def VX:R2:=fun x y H Q=>match x with
 | .ref p=>m9 (H p) fun xs=>fH y fun i=>eM (nK xs i) fun v=>Q v H
 | .str z=>fH y fun i=>z.length<=sizeLine/\eM (nK z.cps.toList i) fun c=>Q (.str ⟨#[c]⟩) H
 | _=>False
noncomputable def GL(H:Hp)(Q:VK)(a:Addr)(oa ob:Option HO):Prop:=match oa,ob with
 | some (.lst xs),some (.lst ys)=>xs.length+ys.length<=sizeLine/\∀ p,H p=none->Q (.ref p) (WZ H p (.lst (xs++ys)))
 | some (.tup xs),some (.tup ys)=>xs≠[]/\xs.length+ys.length<=sizeLine/\(ys≠[]->∀ p,H p=none->Q (.ref p) (WZ H p (.tup (xs++ys))))/\(ys=[]->Q (.ref a) H)
 | _,_=>False
noncomputable def Ie:R2:=fun x y H Q=>match x,y with
 | .int i,.int j=>Q (.int (i+j)) H
 | .str a,.str b=>a.length+b.length<=sizeLine/\Q (.str (a++b)) H
 | .ref a,.ref b=>GL H Q a (H a) (H b)
 | _,_=>False
noncomputable def Ig(lo hi:Option Int)(H:Hp)(Q:VK)(o:Option HO):Prop:=match o with
 | some (.lst xs)=>∀ p,H p=none->Q (.ref p) (WZ H p (.lst (kU xs lo hi)))
 | some (.tup xs)=>¬ (HT.g8 xs.length 0 lo=0/\HT.g8 xs.length xs.length hi=xs.length)/\∀ p,H p=none->Q (.ref p) (WZ H p (.tup (kU xs lo hi)))
 | _=>False
noncomputable def VD:V->Option Int->Option Int->Hp->VK->Prop:=fun x lo hi H Q=>match x with
 | .str z=>z.length<=sizeLine/\Q (.str (Txt.slice z lo hi)) H
 | .ref a=>Ig lo hi H Q (H a)
 | _=>False
noncomputable def Li:List V->Hp->VK->Prop:=fun vs H Q=>match vs with
 | [.str z]=>z.length<=sizeLine/\Q (.int z.length) H
 | [.ref p]=>m9 (H p) fun xs=>Q (.int xs.length) H
 | _=>False
noncomputable def Sk:V->V->V->Hp->(Hp->Prop)->Prop:=fun o i v H Q=>bB o fun p=>fH i fun k=>bX (H p) fun xs=>eM (Co xs.length k) fun j=>Q (WZ H p (.lst (xs.set j v)))
noncomputable def nI:V->Option Key
 | .int i=>some (.inl i)
 | .str x=>some (.inr x)
 | .W3=>some .no
 | _=>none
noncomputable def RY(td ty:TE):TE:=fun σ H Q=>td σ H fun x H1=>bB x fun a=>dH (H1 a) fun _=>ty σ H1 fun y H2=>dH (H2 a) fun W0=>eM (nI y) fun k=>Q ((dX W0 k).getD .W3) H2
noncomputable def VS(td ty:TE):TE:=fun σ H Q=>td σ H fun x H1=>ty σ H1 fun y H2=>bB x fun a=>dH (H2 a) fun W0=>eM (nI y) fun k=>eM (dX W0 k) fun v=>Q v H2
noncomputable def V1(td ty tv:TE):TS:=fun D σ H=>tv σ H fun v H1=>td σ H1 fun x H2=>ty σ H2 fun y H3=>bB x fun a=>dH (H3 a) fun W0=>eM (nI y) fun k=>W0.length < sizeLine/\D.nx σ (WZ H3 a (.dK (k9 W0 k v)))
noncomputable def VU(neg:Bool):R2:=fun x y H Q=>bB y fun p=>m9 (H p) fun xs=>cY x=true/\xs.all cY=true/\Q (.bl (if neg=true then !cE x xs else cE x xs)) H
noncomputable def Lg:List V->Hp->VK->Prop:=fun vs H Q=>match vs with
 | [.int i]=>Q (.int i) H
 | [.bl k]=>Q (.int (if k=true then 1 else 0)) H
 | _=>False
noncomputable def R8:R2:=fun x y H Q=>match y with
 | .W3=>Q (.bl (decide (x=.W3))) H
 | _=>False
noncomputable def Np:R2:=fun x y H Q=>match y with
 | .W3=>Q (.bl (!decide (x=.W3))) H
 | _=>False
noncomputable def OF:List V->Hp->VK->Prop:=fun vs H Q=>match vs with
 | [.int i,.int j]=>Q (.int (if j > i then j else i)) H
 | _=>False
noncomputable def VY:List V->Hp->VK->Prop:=fun vs H Q=>match vs with
 | [.int i,.int j]=>Q (.int (if j < i then j else i)) H
 | _=>False
noncomputable def OA:List V->Hp->VK->Prop:=fun vs H Q=>match vs with
 | [.int i]=>Q (.int (if i < 0 then -i else i)) H
 | _=>False
noncomputable def Cq(v:V)(T:String):Option Bool:=match v with
 | .int _=>if T = "int" then some true else if T = "bool"\/T = "str"\/T = "tuple" then some false else none
 | .bl _=>if T = "int"\/T = "bool" then some true else if T = "str"\/T = "tuple" then some false else none
 | .str _=>if T = "str" then some true else if T = "int"\/T = "bool"\/T = "tuple" then some false else none
 | .W3=>if T = "int"\/T = "bool"\/T = "str"\/T = "tuple" then some false else none
 | _=>none
noncomputable def iD(o:Option HO)(T:String):Option Bool:=match o with
 | some (.lst _)=>if T = "int"\/T = "bool"\/T = "str"\/T = "tuple" then some false else none
 | some (.tup _)=>if T = "tuple" then some true else if T = "int"\/T = "bool"\/T = "str" then some false else none
 | some (.dK _)=>if T = "int"\/T = "bool"\/T = "str" then some false else none
 | _=>none
noncomputable def eT:List V->Hp->VK->Prop:=fun vs H Q=>match vs with
 | [.ref p,.ty T]=>eM (iD (H p) T) fun b=>Q (.bl b) H
 | [v,.ty T]=>eM (Cq v T) fun b=>Q (.bl b) H
 | _=>False
theorem QE{K:q0B}{H:Hp}{v:V}{T:String}{b:Bool}(h:Cq v T=some b):rY K H v T b:=by
 unfold Cq at h;split at h
 all_goals (repeat' split at h)
 all_goals first
  | cases h
  | skip
 all_goals first
  | (subst_vars;constructor)
  | (rename_i q;rcases q with rfl|rfl<;>constructor)
  | (rename_i q _;rcases q with rfl|rfl<;>constructor)
  | (rename_i q;rcases q with rfl|rfl|rfl<;>constructor)
  | (rename_i q;rcases q with rfl|rfl|rfl|rfl<;>constructor)
theorem Mm{K:q0B}{H:Hp}{p:Addr}{T:String}{b:Bool}(h:iD (H p) T=some b):rY K H (.ref p) T b:=by
 unfold iD at h;split at h
 ·rename_i xs e
  have q:dZ K H p xs:=.inl (.inl e);split at h
  ·cases h
   rename_i z
   rcases z with rfl|rfl|rfl|rfl
   ·exact .li q
   ·exact .lb q
   ·exact .ls q
   ·exact .lt q
  ·cases h
 ·rename_i xs e
  have q:hJ K H p xs:=.inl (.inl e);split at h
  ·cases h
   subst_vars
   exact .tt q
  ·split at h
   ·cases h
    rename_i z
    rcases z with rfl|rfl|rfl
    ·exact .ti q
    ·exact .tb q
    ·exact .ts q
   ·cases h
 ·rename_i W0 e
  split at h
  ·cases h
   rename_i z
   rcases z with rfl|rfl|rfl
   ·exact .di e
   ·exact .db e
   ·exact .ds e
  ·cases h
 ·cases h
noncomputable def RQ(to te:TE):TE:=fun σ H Q=>to σ H fun x H1=>bB x fun a=>bX (H1 a) fun _=>te σ H1 fun y H2=>bX (H2 a) fun xs=>xs.length < sizeLine/\Q .W3 (WZ H2 a (.lst (xs++[y])))
noncomputable def Sj(to:TE):TE:=fun σ H Q=>to σ H fun x H1=>bB x fun a=>bX (H1 a) fun xs=>eM (xs[xs.length - 1]?) fun y=>Q y (WZ H1 a (.lst xs.dropLast))
section
variable {X:Cx}
theorem GG.imp{r r':R2}(h:GG X r)(f:∀ x y H Q,r' x y H Q->r x y H Q):GG X r':=fun value slice WY s σ H x y v u Q I rx ry q=>h value slice WY s σ H x y v u Q I rx ry (f _ _ _ _ q)
theorem iX.imp{f:Value->Value->Sem Value}{r r':R2}(h:iX X f r)(g:∀ x y H Q,r' x y H Q->r x y H Q):iX X f r':=fun WY s σ H x y v u Q I rx ry q=>h WY s σ H x y v u Q I rx ry (g _ _ _ _ q)
theorem bM:GG X VX:=QA.imp fun x y H Q h=>by
 cases x with
 | ref p =>
  obtain⟨xs,e,h⟩:=sU h;obtain⟨i,rfl,h⟩:=eV h;obtain⟨v,e2,h⟩:=iP h;rcases e with e|e
  ·exact .inl ⟨_,_,_,_,rfl,rfl,.inl (.inl e),e2,h⟩
  ·exact .inr (.inl ⟨_,_,_,_,rfl,rfl,.inl (.inl e),e2,h⟩)
 | str z =>
  obtain⟨i,rfl,h1,h⟩:=eV h;obtain⟨v,e2,h⟩:=iP h;exact .inr (.inr ⟨_,_,_,rfl,rfl,h1,e2,h⟩)
 | _=>exact h.elim
theorem aQ:iX X (binaryOp .Add) Ie:=(QQ.or (Ff.or (QR.or Gf))).imp fun x y H Q h=>by
 unfold Ie GL at h;split at h
 ·exact .inl ⟨_,_,rfl,rfl,h⟩
 ·exact .inr (.inl ⟨_,_,rfl,rfl,h.1,h.2⟩)
 ·split at h
  ·exact .inr (.inr (.inl ⟨_,_,_,_,rfl,rfl,‹_›,‹_›,h.1,h.2⟩))
  ·exact .inr (.inr (.inr ⟨_,_,_,_,rfl,rfl,.inl (.inl ‹_›),.inl (.inl ‹_›),h.1,h.2.1,h.2.2.2,h.2.2.1⟩))
  ·exact h.elim
 ·exact h.elim
theorem iJ:La X VD:=fun WY s σ H x v vl vu lo hi sl Q I rx hs pl pu h=>by
 refine(Gp.or (Ra.or Q9)) WY s σ H x v vl vu lo hi sl Q I rx hs pl pu ?_;unfold VD Ig at h;split at h
 ·exact .inr (.inr ⟨_,rfl,h.1,h.2⟩)
 ·split at h
  ·exact .inl ⟨_,_,rfl,.inl (.inl ‹_›),h⟩
  ·exact .inr (.inl ⟨_,_,rfl,.inl (.inl ‹_›),h.1,h.2⟩)
  ·exact h.elim
 ·exact h.elim
theorem bO:eR X (.builtin "len") Li:=fun WY s σ H xs us Q I r h=>by
 unfold Li at h;split at h
 ·exact yE WY s σ H _ us Q I r ⟨_,_,rfl,⟨h.1,rfl⟩,h.2⟩
 ·obtain⟨ys,e,h⟩:=sU h;rcases e with e|e
  ·exact yE WY s σ H _ us Q I r ⟨_,_,rfl,.inl ⟨_,.inl (.inl e),rfl⟩,h⟩
  ·exact yE WY s σ H _ us Q I r ⟨_,_,rfl,.inr ⟨_,.inl (.inl e),rfl⟩,h⟩
 ·exact h.elim
theorem jI:PSet X Sk:=fun WY s σ H o i v ov iv u Q I ro ri rv h=>by
 obtain⟨p,rfl,h⟩:=bN h;obtain⟨k,rfl,h⟩:=eV h;obtain⟨xs,e,h⟩:=gA h;obtain⟨j,e2,h⟩:=iP h;exact J8 WY s σ H _ _ v ov iv u Q I ro ri rv ⟨_,_,_,_,rfl,rfl,e,e2,h⟩
theorem iQ:iX X (compareOp .In) (VU false):=Hs.imp fun x y H Q h=>by
 obtain⟨p,rfl,h⟩:=bN h;obtain⟨xs,e,h1,h2,h⟩:=sU h;exact⟨_,_,rfl,e.imp (fun e=>.inl (.inl e)) (fun e=>.inl (.inl e)),h1,h2,h⟩
theorem pQ:iX X (compareOp .NotIn) (VU true):=sW.imp fun x y H Q h=>by
 obtain⟨p,rfl,h⟩:=bN h;obtain⟨xs,e,h1,h2,h⟩:=sU h;exact⟨_,_,rfl,e.imp (fun e=>.inl (.inl e)) (fun e=>.inl (.inl e)),h1,h2,h⟩
theorem jT:eR X (.type "int") Lg:=fun WY s σ H xs us Q I r h=>by
 refine GP WY s σ H xs us Q I r ?_;unfold Lg at h;split at h
 ·exact .inl ⟨_,rfl,h⟩
 ·exact .inr ⟨_,rfl,by
   rename_i k
   cases k<;>exact h⟩
 ·exact h.elim
theorem Ae:iX X (compareOp .Is) R8:=QT.imp fun x y H Q h=>by
 cases y with
 | W3=>exact⟨rfl,h⟩
 | _=>exact h.elim
theorem Ht:iX X (compareOp .IsNot) Np:=Mz.imp fun x y H Q h=>by
 cases y with
 | W3=>exact⟨rfl,h⟩
 | _=>exact h.elim
theorem GR(hc:X.calm=true):eR X (.builtin "max") OF:=fun WY s σ H xs us Q I r h=>by
 refine GQ hc WY s σ H xs us Q I r ?_;unfold OF at h;split at h
 ·exact⟨_,_,rfl,h⟩
 ·exact h.elim
theorem GO:eR X (.builtin "abs") OA:=fun WY s σ H xs us Q I r h=>by
 refine Im WY s σ H xs us Q I r ?_;unfold OA at h;split at h
 ·exact⟨_,rfl,h⟩
 ·exact h.elim
theorem Bp:eR X (.builtin "isinstance") eT:=fun WY s σ H xs us Q I r h=>by
 refine Iq WY s σ H xs us Q I r ?_;unfold eT at h;split at h
 ·obtain⟨b,e,h⟩:=iP h;exact⟨_,_,b,rfl,Mm e,h⟩
 ·obtain⟨b,e,h⟩:=iP h;exact⟨_,_,b,rfl,QE e,h⟩
 ·exact h.elim
variable {o e:Expr} {to te:TE} {apos W6:Pos}
theorem iF(ho:PE X o to)(he:PE X e te)(XJ:attributeBase o "append" X.env (eval o X.env)=eval o X.env:=by rfl)
    (Y8:((backTo W6 (starEach [e] X.env)).all (fun x=>!x.1)&&(backToKw W6 (keywordEach [] X.env)).all (fun x=>x.1.isSome)
     &&decide ([e].length+([]:List Keyword).length+(if ([]:List Keyword).isEmpty then 0 else 1) < 30))=true:=by rfl)
    (XN:(apos.endLine==W6.line)=true:=by rfl) (hs:starEach [e] X.env=(false,eval e X.env)::starEach [] X.env:=by rfl) (XR:(backTo W6 (starEach [] X.env)).any (·.1)=false:=by rfl) :
    PE X (.Call (.Attribute o "append" apos) [e] [] W6) (RQ to te):=by
  intro WY s σ H Q I h;refine wpAny_Call_method_late XJ Y8 XN rfl (thn (ho WY s σ H _ I h) fun v s1 ⟨x,H1,I1,r1,q1⟩=>?_);obtain⟨a,rfl,q1⟩:=bN q1;obtain⟨xs,e1,q1⟩:=gA q1;obtain⟨h1,h2⟩:=De (T:="list") I1 r1 (.inl ⟨rfl,xs,.inl (.inl e1)⟩);refine⟨"list","list.append",PySem.F.plainAttrs_list,PySem.F.slot_list_append,PySem.F.type_list_append,h1,h2,?_⟩;have q2:Ez te HI σ H1 (fun vs H2=>vs.length=1/\bX (H2 a) fun xs=>xs.length < sizeLine/\Q .W3 (WZ H2 a (.lst (xs++vs)))):=by
    simpa only[Ez,HI,List.length_cons,List.length_nil,Nat.zero_add,true_and] using q1
  have hA:=Gh he aB hs W6 WY s1 σ H1 _ I1 q2;rw[hs] at hA ⊢;refine Calls.callWith_builtin (by show(false||(backTo W6 (starEach [] X.env)).any (·.1))=false;rw[XR]<;>rfl) (Calls.evalArgs_plain ?_);refine thn hA fun us s2 ⟨vs,H2,I2,r2,l2,q3⟩=>?_;obtain⟨xs,e3,q4,q5⟩:=gA q3
  match vs,l2,r2,q5 with
  | [y],_,r2,q5=>exact Hq WY s2 σ H2 _ _ v us Q I2 r1 r2 ⟨_,_,_,rfl,rfl,e3,q4,q5⟩
theorem MF(ho:PE X o to)(XJ:attributeBase o "pop" X.env (eval o X.env)=eval o X.env:=by rfl)(XN:(apos.endLine==W6.line)=true:=by rfl):PE X (.Call (.Attribute o "pop" apos) [] [] W6) (Sj to):=by
 intro WY s σ H Q I h;refine wpAny_Call_method0_late XJ XN (thn (ho WY s σ H _ I h) fun v s1 ⟨x,H1,I1,r1,q1⟩=>?_);obtain⟨a,rfl,q1⟩:=bN q1;obtain⟨xs,e1,q1⟩:=gA q1;obtain⟨y,e2,q1⟩:=iP q1;obtain⟨h1,h2⟩:=De (T:="list") I1 r1 (.inl ⟨rfl,xs,.inl (.inl e1)⟩);exact⟨"list","list.pop",PySem.F.plainAttrs_list,PySem.F.slot_list_pop,PySem.F.type_list_pop,h1,h2,Calls.callWith_builtin rfl (PySem.evalArgs_none (QM WY s1 σ H1 _ [] v [] Q I1 r1 .nil ⟨_,_,_,rfl,rfl,e1,e2,q1⟩))⟩
end
section
variable {X:Cx} {o i e value:Expr} {pos pos' apos W6:Pos} {td ty tv:TE}
noncomputable def RU:List V->Hp->VK->Prop:=fun vs H Q=>match vs with
 | [.ref a]=>dH (H a) fun W0=>∀ p,H p=none->Q (.ref p) (WZ H p (.dK W0))
 | _=>False
end
noncomputable def Itv(K:q0B)(a:Addr)(n:Nat):It :=
 ⟨fun i H=>i < n/\∃ xs,dZ K H a xs/\xs.length=n,fun i H x H'=>H'=H/\∀ xs,dZ K H a xs->xs[n - 1 - i]?=some x,fun i H=>i=n/\∃ xs,dZ K H a xs/\xs.length=n⟩
noncomputable def TZ(K:q0B)(ta:TA):TI:=fun σ H R=>ta σ H fun vs H1=>∃ a xs,vs=[.ref a]/\dZ K H1 a xs/\R (Itv K a xs.length) H1
section
variable {σ:St} {H:Hp} {Q:VK} {D:Ends} {t u:TS} {te ta tb tc to ti:TE} {tl th:TO} {g:TG} {gs:TGs} {tt tt':TT} {as:TA} {i j:Int} {n:Nat} {x y:Str} {v w:V} {vs:List V} {b:Bool} {p a:Addr} {r r':R2} {B:Bool->Hp->Prop} {K:q0B}
theorem TB:Rr t u D σ H=t {D with nx:=u D} σ H:=rfl
theorem Su:M7 te g D σ H=te σ H fun x H1=>g x σ H1 D.nx:=rfl
theorem PU{N:St->Hp->Prop}:wB n v σ H N=N (σ.set n (some v)) H:=rfl
theorem Tw:U9 te D σ H=te σ H D.rt:=rfl
theorem P7:Va D σ H=D.rt .W3 H:=rfl
theorem SV:U4 tt t u D σ H=tt σ H fun b H1=>if b=true then t D σ H1 else u D σ H1:=rfl
theorem Qe:GA te σ H B=te σ H fun x H'=>Mv x fun k=>B k H':=by simp only[GA,uY]
theorem Wi:tB te σ H B=te σ H fun x H'=>Mv x fun k=>B k H':=by simp only[tB,uY]
theorem V9:WI tt ta tb σ H Q=tt σ H fun c H1=>if c=true then ta σ H1 Q else tb σ H1 Q:=rfl
theorem Wf:U7 r ta tb σ H Q=ta σ H fun x H1=>tb σ H1 fun y H2=>r x y H2 Q:=rfl
theorem Wj{q:V->Hp->VK->Prop}:WN q ta σ H Q=ta σ H fun x H1=>q x H1 Q:=rfl
theorem WR:tC v σ H Q=Q v H:=rfl
theorem OW{A:List V->Hp->Prop}:Ez te as σ H A=te σ H fun x H1=>as σ H1 fun xs H2=>A (x::xs) H2:=rfl
theorem Th{A:List V->Hp->Prop}:HI σ H A=A [] H:=rfl
theorem OT{sp:Sp}{E:XK}:Gx sp [] E as σ H Q=as σ H fun vs H1=>sp vs H1 Q E:=by simp only[Gx,List.append_nil]
theorem V8{q:List V->Hp->VK->Prop}:Ww q as σ H Q=as σ H fun vs H1=>q vs H1 Q:=rfl
theorem S8:U5 as σ H Q=as σ H fun xs H1=>xs.length<=sizeLine/\∀ p,H1 p=none->Q (.ref p) (WZ H1 p (.lst xs)):=rfl
theorem TL:Vc as σ H Q=as σ H fun xs H1=>xs.length<=sizeLine/\∀ p,H1 p=none->Q (.ref p) (WZ H1 p (.tup xs)):=rfl
theorem O4:Rp σ H Q = ∀ p,H p=none->Q (.ref p) (WZ H p (.dK [])):=rfl
theorem O6:NS te D σ H=te σ H fun _ H1=>D.nx σ H1:=rfl
theorem PX:NT D σ H=D.nx σ H:=rfl
theorem Lo:Ro D σ H=D.bk σ H:=rfl
theorem OX:UZ D σ H=D.ct σ H:=rfl
theorem ON:Ko ta tb σ H Q=ta σ H fun x H1=>Mv x fun c=>if c=true then tb σ H1 Q else Q (.bl false) H1:=by simp only[Ko,uY]
theorem Tr:U8 ta tb σ H Q=ta σ H fun x H1=>Mv x fun c=>if c=true then Q (.bl true) H1 else tb σ H1 Q:=by simp only[U8,uY]
theorem PY:Kt ta σ H Q=ta σ H fun x H1=>Mv x fun c=>Q (.bl (!c)) H1:=by simp only[Kt,uY]
theorem Sr:UX tt tt' σ H B=tt σ H fun c H1=>if c=true then tt' σ H1 B else B false H1:=rfl
theorem Wg:WK tt tt' σ H B=tt σ H fun c H1=>if c=true then B true H1 else tt' σ H1 B:=rfl
theorem Tj:U6 tt σ H B=tt σ H fun c H1=>B (!c) H1:=rfl
theorem Lp:C8 r r' ta tb tc σ H Q=ta σ H fun x H1=>tb σ H1 fun y H2=>r x y H2 fun z H3=>Mv z fun k=>if k=true then tc σ H3 fun w' H4=>r' y w' H4 Q else Q (.bl false) H3:=by simp only[C8,uY]
theorem Wh{q:V->Option Int->Option Int->Hp->VK->Prop}:WM q te tl th σ H Q=te σ H fun x H1=>tl σ H1 fun l H2=>th σ H2 fun u H3=>q x l u H3 Q:=rfl
theorem JO{k:Int->Prop}:(∃ i,v=.int i/\k i)=fH v k:=propext ⟨fun⟨i,e,h⟩=>by subst e;exact h,eV⟩
theorem P4{O:Option Int->Hp->Prop}:Kv te σ H O=te σ H fun x H1=>fH x fun i=>O (some i) H1:=by simp only[Kv,JO]
theorem IY{O:Option Int->Hp->Prop}:Gz σ H O=O none H:=rfl
theorem Po{s:TSet}{N:St->Hp->Prop}:TV to ti s v σ H N=to σ H fun o H1=>ti σ H1 fun i H2=>s o i v H2 fun H3=>N σ H3:=rfl
theorem Pn{N:St->Hp->Prop}:Qs [] σ H N=N σ H:=by simp[Qs]
theorem LJ{N:St->Hp->Prop}:Nx g gs (v::vs) σ H N=g v σ H fun σ' H'=>gs vs σ' H' N:=propext ⟨fun⟨_,_,e,h⟩=>by cases e;exact h,fun h=>⟨_,_,rfl,h⟩⟩
theorem Pk:RY ta tb σ H Q=ta σ H fun x H1=>bB x fun a=>dH (H1 a) fun _=>tb σ H1 fun y H2=>dH (H2 a) fun W0=>eM (nI y) fun k=>Q ((dX W0 k).getD .W3) H2:=rfl
theorem SS:VS ta tb σ H Q=ta σ H fun x H1=>tb σ H1 fun y H2=>bB x fun a=>dH (H2 a) fun W0=>eM (nI y) fun k=>eM (dX W0 k) fun v=>Q v H2:=rfl
theorem Tu:V1 ta tb tc D σ H=tc σ H fun v H1=>ta σ H1 fun x H2=>tb σ H2 fun y H3=>bB x fun a=>dH (H3 a) fun W0=>eM (nI y) fun k=>W0.length < sizeLine/\D.nx σ (WZ H3 a (.dK (k9 W0 k v))):=rfl
theorem Ss:RQ to te σ H Q=to σ H fun x H1=>bB x fun a=>bX (H1 a) fun _=>te σ H1 fun y H2=>bX (H2 a) fun xs=>xs.length < sizeLine/\Q .W3 (WZ H2 a (.lst (xs++[y]))):=rfl
theorem Tt:Sj to σ H Q=to σ H fun x H1=>bB x fun a=>bX (H1 a) fun xs=>eM (xs[xs.length - 1]?) fun y=>Q y (WZ H1 a (.lst xs.dropLast)):=rfl
theorem Tq{α:Type}{z:α}{k:α->Prop}{u:Tg k}:@eM _ (some z) k u=k z:=rfl
theorem Tp{k:Bool->Prop}{u:Tg k}:@Mv (.bl b) k u=k b:=rfl
theorem LQ{k:Addr->Prop}{u:Tg k}:@bB (.ref p) k u=k p:=rfl
theorem LO{k:Int->Prop}{u:Tg k}:@fH (.int i) k u=k i:=rfl
theorem LP{k:List V->Prop}{u:Tg k}:@bX (some (.lst vs)) k u=k vs:=rfl
theorem IZ{k:List V->Prop}{u:Tg k}:@m9 (some (.lst vs)) k u=k vs:=rfl
theorem I8{k:List V->Prop}{u:Tg k}:@m9 (some (.tup vs)) k u=k vs:=rfl
theorem LN{W0:List (Key×V)}{k:List (Key×V)->Prop}{u:Tg k}:@dH (some (.dK W0)) k u=k W0:=rfl
theorem SY:VX (.ref p) w H Q=m9 (H p) fun xs=>fH w fun i=>eM (nK xs i) fun v=>Q v H:=rfl
theorem S0:VX (.str x) w H Q=fH w fun i=>x.length<=sizeLine/\eM (nK x.cps.toList i) fun c=>Q (.str ⟨#[c]⟩) H:=rfl
theorem OK:Ie (.int i) (.int j) H Q=Q (.int (i+j)) H:=rfl
theorem OM:Ie (.str x) (.str y) H Q=(x.length+y.length<=sizeLine/\Q (.str (x++y)) H):=rfl
theorem OL:Ie (.ref a) (.ref p) H Q=GL H Q a (H a) (H p):=rfl
theorem OU{us:List V}:GL H Q a (some (.lst vs)) (some (.lst us))=(vs.length+us.length<=sizeLine/\∀ p,H p=none->Q (.ref p) (WZ H p (.lst (vs++us)))):=rfl
theorem TH{lo hi:Option Int}:VD (.str x) lo hi H Q=(x.length<=sizeLine/\Q (.str (Txt.slice x lo hi)) H):=rfl
theorem TF{lo hi:Option Int}:VD (.ref a) lo hi H Q=Ig lo hi H Q (H a):=rfl
theorem OY{lo hi:Option Int}:Ig lo hi H Q (some (.lst vs)) = ∀ p,H p=none->Q (.ref p) (WZ H p (.lst (kU vs lo hi))):=rfl
theorem PM:Li [.str x] H Q=(x.length<=sizeLine/\Q (.int x.length) H):=rfl
theorem PL:Li [.ref p] H Q=m9 (H p) fun xs=>Q (.int xs.length) H:=rfl
theorem TC{N:Hp->Prop}:Sk (.ref p) (.int i) v H N=bX (H p) fun xs=>eM (Co xs.length i) fun j=>N (WZ H p (.lst (xs.set j v))):=rfl
theorem Wa{neg:Bool}:VU neg v (.ref p) H Q=m9 (H p) fun xs=>cY v=true/\xs.all cY=true/\Q (.bl (if neg=true then !cE v xs else cE v xs)) H:=rfl
theorem O1:RU [.ref a] H Q=dH (H a) fun W0=>∀ p,H p=none->Q (.ref p) (WZ H p (.dK W0)):=rfl
theorem PF:nI (.int i)=some (.inl i):=rfl
theorem PJ:nI (.str x)=some (.inr x):=rfl
theorem PH:nI .W3=some .no:=rfl
theorem lQ{α:Type}{xs:List α}{k:Nat}:nK xs (OfNat.ofNat k)=xs[k]?:=by
 show nK xs ((k:Nat):Int)=xs[k]?;cases e:xs[k]? with
 | some z=>exact xB e
 | none =>
  have:=List.getElem?_eq_none_iff.mp e;unfold nK Co;rw[if_pos (by omega),if_neg (by omega)];rfl
theorem Sv{α:Type}{xs:List α}:nK xs 0=xs[0]?:=lQ (k:=0)
theorem Sw{α:Type}{xs:List α}:nK xs 1=xs[1]?:=lQ (k:=1)
theorem Sx{α:Type}{xs:List α}:nK xs 2=xs[2]?:=lQ (k:=2)
theorem Sy{α:Type}{xs:List α}:nK xs 3=xs[3]?:=lQ (k:=3)
theorem Sz{α:Type}{xs:List α}:nK xs 4=xs[4]?:=lQ (k:=4)
theorem SA{α:Type}{xs:List α}:nK xs 5=xs[5]?:=lQ (k:=5)
theorem SD{α:Type}{xs:List α}:nK xs 6=xs[6]?:=lQ (k:=6)
theorem SE{α:Type}{xs:List α}:nK xs 7=xs[7]?:=lQ (k:=7)
theorem SF{α:Type}{xs:List α}:nK xs 8=xs[8]?:=lQ (k:=8)
theorem SG{α:Type}{xs:List α}:nK xs 9=xs[9]?:=lQ (k:=9)
theorem OO{α:Type}{xs:List α}:nK xs 10=xs[10]?:=lQ (k:=10)
theorem OP{α:Type}{xs:List α}:nK xs 11=xs[11]?:=lQ (k:=11)
theorem OQ{α:Type}{xs:List α}:nK xs 12=xs[12]?:=lQ (k:=12)
theorem Lq:CMul 1 j=True:=eq_true (.inl ⟨by decide,by decide⟩)
theorem Ls:CMul 2 j=True:=eq_true (.inl ⟨by decide,by decide⟩)
theorem Lu:CMul 3 j=True:=eq_true (.inl ⟨by decide,by decide⟩)
theorem IA:CMul 10 j=True:=eq_true (.inl ⟨by decide,by decide⟩)
theorem LA:CPow 10 6=True:=eq_true ⟨by decide,by decide,by decide⟩
theorem LB:CPow 10 9=True:=eq_true ⟨by decide,by decide,by decide⟩
theorem ID:CPow 10 12=True:=eq_true ⟨by decide,by decide,by decide⟩
theorem IE:CPow 10 18=True:=eq_true ⟨by decide,by decide,by decide⟩
theorem IF:CPow 10 30=True:=eq_true ⟨by decide,by decide,by decide⟩
theorem II:CPow 10 40=True:=eq_true ⟨by decide,by decide,by decide⟩
theorem IJ:CPow 10 45=True:=eq_true ⟨by decide,by decide,by decide⟩
theorem PB{m:Nat}:Co (m+1) 0=some 0:=by simp[Co]<;>omega
theorem PC{m:Nat}:Co (m+2) 1=some 1:=by simp[Co]<;>omega
theorem Pr:Lg [.int i] H Q=Q (.int i) H:=rfl
theorem Pq:Lg [.bl b] H Q=Q (.int (if b=true then 1 else 0)) H:=rfl
theorem Wb:R8 v .W3 H Q=Q (.bl (decide (v=.W3))) H:=by cases v<;>rfl
theorem LK:Np v .W3 H Q=Q (.bl (!decide (v=.W3))) H:=by cases v<;>rfl
theorem S9:OF [.int i,.int j] H Q=Q (.int (if j > i then j else i)) H:=rfl
theorem Ta:VY [.int i,.int j] H Q=Q (.int (if j < i then j else i)) H:=rfl
theorem So:OA [.int i] H Q=Q (.int (if i < 0 then -i else i)) H:=rfl
theorem AS:eT [(.int i),.ty "int"] H Q=Q (.bl true) H:=by simp[eT,Cq,eM]
theorem Cd:eT [(.bl b),.ty "int"] H Q=Q (.bl true) H:=by simp[eT,Cq,eM]
theorem AW:eT [(.str x),.ty "int"] H Q=Q (.bl false) H:=by simp[eT,Cq,eM]
theorem AU:eT [.W3,.ty "int"] H Q=Q (.bl false) H:=by simp[eT,Cq,eM]
theorem AV:eT [.ref p,.ty "int"] H Q=eM (iD (H p) "int") fun b=>Q (.bl b) H:=rfl
theorem yQ:eT [(.int i),.ty "bool"] H Q=Q (.bl false) H:=by simp[eT,Cq,eM]
theorem AR:eT [(.bl b),.ty "bool"] H Q=Q (.bl true) H:=by simp[eT,Cq,eM]
theorem yT:eT [(.str x),.ty "bool"] H Q=Q (.bl false) H:=by simp[eT,Cq,eM]
theorem yR:eT [.W3,.ty "bool"] H Q=Q (.bl false) H:=by simp[eT,Cq,eM]
theorem yS:eT [.ref p,.ty "bool"] H Q=eM (iD (H p) "bool") fun b=>Q (.bl b) H:=rfl
theorem AX:eT [(.int i),.ty "str"] H Q=Q (.bl false) H:=by simp[eT,Cq,eM]
theorem Ce:eT [(.bl b),.ty "str"] H Q=Q (.bl false) H:=by simp[eT,Cq,eM]
theorem A0:eT [(.str x),.ty "str"] H Q=Q (.bl true) H:=by simp[eT,Cq,eM]
theorem AY:eT [.W3,.ty "str"] H Q=Q (.bl false) H:=by simp[eT,Cq,eM]
theorem AZ:eT [.ref p,.ty "str"] H Q=eM (iD (H p) "str") fun b=>Q (.bl b) H:=rfl
theorem wO:eT [(.int i),.ty "tuple"] H Q=Q (.bl false) H:=by simp[eT,Cq,eM]
theorem yU:eT [(.bl b),.ty "tuple"] H Q=Q (.bl false) H:=by simp[eT,Cq,eM]
theorem wU:eT [(.str x),.ty "tuple"] H Q=Q (.bl false) H:=by simp[eT,Cq,eM]
theorem wQ:eT [.W3,.ty "tuple"] H Q=Q (.bl false) H:=by simp[eT,Cq,eM]
theorem wR:eT [.ref p,.ty "tuple"] H Q=eM (iD (H p) "tuple") fun b=>Q (.bl b) H:=rfl
theorem IS:iD (some (.lst vs)) "int"=some false:=by simp[iD]
theorem IU:iD (some (.tup vs)) "int"=some false:=by simp[iD]
theorem GW:iD (some (.lst vs)) "bool"=some false:=by simp[iD]
theorem GX:iD (some (.tup vs)) "bool"=some false:=by simp[iD]
theorem IT:iD (some (.lst vs)) "str"=some false:=by simp[iD]
theorem IV:iD (some (.tup vs)) "str"=some false:=by simp[iD]
theorem EL:iD (some (.lst vs)) "tuple"=some false:=by simp[iD]
theorem EM:iD (some (.tup vs)) "tuple"=some true:=by simp[iD]
theorem IP{W0:List (Key×V)}:iD (some (.dK W0)) "int"=some false:=by simp[iD]
theorem GV{W0:List (Key×V)}:iD (some (.dK W0)) "bool"=some false:=by simp[iD]
theorem IQ{W0:List (Key×V)}:iD (some (.dK W0)) "str"=some false:=by simp[iD]
theorem SI{c:Prop}[Decidable c]{P R:Prop}:(if (decide c)=true then P else R)=if c then P else R:=by
 by_cases h:c<;>simp[h]
theorem SJ{c:Prop}[Decidable c]{P R:Prop}:(if (!decide c)=true then P else R)=if c then R else P:=by
 by_cases h:c<;>simp[h]
theorem Pz{P R:Prop}:(if true=true then P else R)=P:=rfl
theorem Py{P R:Prop}:(if false=true then P else R)=R:=rfl
end
theorem Wl{a b:Prop}[Decidable a][Decidable b]{P R:Prop}:(if a then P else if b then P else R)=if a\/b then P else R:=by
 by_cases ha:a<;>by_cases hb:b<;>simp[ha,hb]
theorem Kp.at1{r a:Addr}{H H':Hp}{o:HO}(x:Kp [r] H H')(e:H a=some o)(n:a≠r):H' a=some o:=x a o e (by simpa using n)
theorem dN{xs:List V}{i:Int}{k:V->Prop}(h0:0<=i)(h1:i < (xs.length:Int))(q:∀ v∈xs,k v):eM (nK xs i) k:=by
 have hk:i.toNat < xs.length:=by omega
 have ek:i=((i.toNat:Nat):Int):=by omega
 have e:nK xs ((i.toNat:Nat):Int)=some xs[i.toNat]:=xB (List.getElem?_eq_getElem hk);rw[<- ek] at e;rw[e];exact q _ (List.getElem_mem hk)
theorem Gk{x:Str}{i:Int}{k:Nat->Prop}(h0:0<=i)(h1:i < (x.length:Int))(q:∀ c∈x.cps.toList,k c):eM (nK x.cps.toList i) k:=by
 have hl:x.cps.toList.length=x.length:=by simp[Str.length]
 have hk:i.toNat < x.cps.toList.length:=by omega
 have ek:i=((i.toNat:Nat):Int):=by omega
 have e:nK x.cps.toList ((i.toNat:Nat):Int)=some x.cps.toList[i.toNat]:=xB (List.getElem?_eq_getElem hk);rw[<- ek] at e;rw[e];exact q _ (List.getElem_mem hk)
noncomputable def on1(vs:List V)(k:V->Prop)(_u:Tg k:=()):Prop:=match vs with
 | [v]=>k v
 | _=>False
noncomputable def lp(J:It)(g:TG)(tb:TS)(D:Ends)(σ:St)(H:Hp):Prop:=∃ W:Nat->Nat->St->Hp->Prop,(∃ m,W 0 m σ H)/\∀ i m σ H,W i m σ H ->
 (J.stop i H/\D.nx σ H)\/(J.go i H/\∃ N:St->Hp->Prop,(∀ σ' H',N σ' H'->∃ m',m' < m/\W (i+1) m' σ' H')/\∀ x H',J.yld i H x H'->g x σ H' fun σ2 H2=>tb {D with nx:=N,ct:=N,bk:=D.nx} σ2 H2)
section
variable {σ:St} {H:Hp} {D:Ends} {g:TG} {tb:TS} {as:TA} {te:TE} {K:q0B} {v w:V}
theorem Tn{k:V->Prop}{u:Tg k}:@on1 [v] k u=k v:=rfl
theorem LH:vP (DN as) g tb D σ H=as σ H fun vs H1=>on1 vs fun v=>fH v fun j=>(-(2 ^ 62)<=j/\j < 2 ^ 62)/\lp (YB 0 j.toNat) g tb D σ H1:=by
 unfold vP DN
 congr 1
 funext vs H1;refine propext ⟨fun⟨j,e,h1,h2,h⟩=>by subst e;exact⟨⟨h1,h2⟩,h⟩,fun h=>?_⟩;unfold on1 at h;split at h
 ·obtain⟨j,rfl,⟨h1,h2⟩,h⟩:=eV h;exact⟨j,rfl,h1,h2,h⟩
 ·exact h.elim
noncomputable def on2(vs:List V)(k:V->V->Prop)(_u:Tg k:=()):Prop:=match vs with
 | [v,w]=>k v w
 | _=>False
theorem To{k:V->V->Prop}{u:Tg k}:@on2 [v,w] k u=k v w:=rfl
theorem LI:vP (Nz as) g tb D σ H=as σ H fun vs H1=>on2 vs fun v w=>fH v fun i=>fH w fun j=>(-(2 ^ 62)<=i/\i < 2 ^ 62/\-(2 ^ 62)<=j/\j < 2 ^ 62)/\lp (YB i (j - i).toNat) g tb D σ H1:=by
 unfold vP Nz
 congr 1
 funext vs H1;refine propext ⟨fun⟨i,j,e,h1,h⟩=>by subst e;exact⟨h1,h⟩,fun h=>?_⟩;unfold on2 at h;split at h
 ·obtain⟨i,rfl,h'⟩:=eV h;obtain⟨j,rfl,h1,h''⟩:=eV h';exact⟨i,j,rfl,h1,h''⟩
 ·exact h.elim
theorem Pf:vP (DM K te) g tb D σ H=te σ H fun x H1=>bB x fun a=>(∃ xs,dZ K H1 a xs)/\lp (YR K a) g tb D σ H1:=by
 unfold vP DM
 congr 1
 funext x H1;exact propext ⟨fun⟨a,e,h1,h⟩=>by subst e;exact⟨h1,h⟩,fun h=>by obtain⟨a,rfl,h1,h⟩:=bN h;exact⟨a,rfl,h1,h⟩⟩
theorem Pg:vP (Jm K te) g tb D σ H=te σ H fun x H1=>bB x fun a=>(∃ xs,hJ K H1 a xs)/\lp (Itt K a) g tb D σ H1:=by
 unfold vP Jm
 congr 1
 funext x H1;exact propext ⟨fun⟨a,e,h1,h⟩=>by subst e;exact⟨h1,h⟩,fun h=>by obtain⟨a,rfl,h1,h⟩:=bN h;exact⟨a,rfl,h1,h⟩⟩
theorem Ph:vP (TZ K as) g tb D σ H=as σ H fun vs H1=>on1 vs fun x=>bB x fun a=>∃ xs,dZ K H1 a xs/\lp (Itv K a xs.length) g tb D σ H1:=by
 unfold vP TZ
 congr 1
 funext vs H1;refine propext ⟨fun⟨a,xs,e,h1,h⟩=>by subst e;exact⟨xs,h1,h⟩,fun h=>?_⟩;unfold on1 at h;split at h
 ·obtain⟨a,rfl,xs,h1,h⟩:=bN h;exact⟨a,xs,rfl,h1,h⟩
 ·exact h.elim
end
noncomputable def lc(J:It)(fr:List Nat)(tc:TT)(te:TE)(σ:St)(H:Hp)(Q:VK):Prop:=∃ W:Nat->Nat->List V->Hp->Prop,(∃ m,W 0 m [] H)/\∀ i m xs H,W i m xs H->xs.length<=1000000 /\
  ((J.stop i H/\∀ p,H p=none->Q (.ref p) (WZ H p (.lst xs))) \/
   (J.go i H/\∀ y H',J.yld i H y H'->tc (some y::bP fr σ) H' fun b H2=>if b=true then te (some y::bP fr σ) H2 (fun z H3=>∃ m',m' < m/\W (i+1) m' (xs++[z]) H3) else ∃ m',m' < m/\W (i+1) m' xs H2))
section
variable {fr:List Nat} {tc:TT} {te tl:TE} {σ:St} {H H1:Hp} {Q:VK} {as:TA} {K:q0B}
theorem Lx:kE (DN as) fr tc te σ H Q=as σ H fun vs H1=>on1 vs fun v=>fH v fun j=>(-(2 ^ 62)<=j/\j < 2 ^ 62)/\lc (YB 0 j.toNat) fr tc te σ H1 Q:=by
 unfold kE DN
 congr 1
 funext vs H1;refine propext ⟨fun⟨j,e,h1,h2,h⟩=>by subst e;exact⟨⟨h1,h2⟩,h⟩,fun h=>?_⟩;unfold on1 at h;split at h
 ·obtain⟨j,rfl,⟨h1,h2⟩,h⟩:=eV h;exact⟨j,rfl,h1,h2,h⟩
 ·exact h.elim
theorem Lw:kE (DM K tl) fr tc te σ H Q=tl σ H fun x H1=>bB x fun a=>(∃ xs,dZ K H1 a xs)/\lc (YR K a) fr tc te σ H1 Q:=by
 unfold kE DM
 congr 1
 funext x H1;exact propext ⟨fun⟨a,e,h1,h⟩=>by subst e;exact⟨h1,h⟩,fun h=>by obtain⟨a,rfl,h1,h⟩:=bN h;exact⟨a,rfl,h1,h⟩⟩
noncomputable def gX(x:V)(k:Str->Prop)(_u:Tg k:=()):Prop:=match x with
 | .str p=>k p
 | _=>False
theorem LR{x:Str}{k:Str->Prop}{u:Tg k}:@gX (.str x) k u=k x:=rfl
theorem Ly:kE (Qv tl) fr tc te σ H Q=tl σ H fun x H1=>gX x fun z=>lc (Its z) fr tc te σ H1 Q:=by
 unfold kE Qv
 congr 1
 funext x H1;refine propext ⟨fun⟨a,e,h⟩=>by subst e;exact h,fun h=>?_⟩;cases x with
 | str z=>exact⟨z,rfl,h⟩
 | _=>exact h.elim
theorem Qm{B:Bool->Hp->Prop}:NU σ H B=B true H:=rfl
theorem SK:bP [] σ=[]:=rfl
theorem Il{n:Nat}{Pv:Nat->List V->Hp->Prop}{i:Nat}{xs:List V}(hi:i < n):(∃ m',m' < n - i/\cW n Pv (i+1) m' xs H)=Pv (i+1) xs H :=
 propext ⟨fun⟨_,_,_,_,h⟩=>h,fun h=>cW.next hi h⟩
theorem DT{lo:Int}{n:Nat}(Pv:Nat->List V->Hp->Prop)(h0:Pv 0 [] H)(hz:∀ i xs H,Pv i xs H->xs.length<=1000000)
    (hs:∀ i xs H,i < n->Pv i xs H->tc (some (.int (lo+i))::bP fr σ) H fun b H2=>if b=true then te (some (.int (lo+i))::bP fr σ) H2 (fun z H3=>Pv (i+1) (xs++[z]) H3) else Pv (i+1) xs H2)
    (hd:∀ xs H,Pv n xs H->∀ p,H p=none->Q (.ref p) (WZ H p (.lst xs))):lc (YB lo n) fr tc te σ H Q :=
  EK Pv h0 hz (fun i xs H hi h=>by simp only[Il hi];exact hs i xs H hi h) hd
theorem xJ{a:Addr}{ys:List V}(Pv:Nat->List V->Hp->Prop)(h0:Pv 0 [] H)(hz:∀ i xs H,Pv i xs H->xs.length<=1000000)(hl:∀ i xs H,Pv i xs H->dZ K H a ys)
    (hs:∀ i y xs H,i < ys.length->ys[i]?=some y->Pv i xs H->tc (some y::bP fr σ) H fun b H2=>if b=true then te (some y::bP fr σ) H2 (fun z H3=>Pv (i+1) (xs++[z]) H3) else Pv (i+1) xs H2)
    (hd:∀ xs H,Pv ys.length xs H->∀ p,H p=none->Q (.ref p) (WZ H p (.lst xs))):lc (YR K a) fr tc te σ H Q :=
  GU Pv h0 hz hl (fun i y xs H hi e h=>by simp only[Il hi];exact hs i y xs H hi e h) hd
theorem Cu{x:Str}(Pv:Nat->List V->Hp->Prop)(h0:Pv 0 [] H)(hz:∀ i xs H,Pv i xs H->xs.length<=1000000)
    (hs:∀ i c xs H,i < x.cps.size->x.cps[i]?=some c->Pv i xs H->tc (some (.str ⟨#[c]⟩)::bP fr σ) H fun b H2=>if b=true then te (some (.str ⟨#[c]⟩)::bP fr σ) H2 (fun z H3=>Pv (i+1) (xs++[z]) H3) else Pv (i+1) xs H2)
    (hd:∀ xs H,Pv x.cps.size xs H->∀ p,H p=none->Q (.ref p) (WZ H p (.lst xs))):lc (Its x) fr tc te σ H Q :=
  Iw Pv h0 hz (fun i c xs H hi e h=>by simp only[Il hi];exact hs i c xs H hi e h) hd
end
noncomputable def Ln(kb:List (Key×V)):List (Key×V)->Bool
 | []=>true
 | (k,v)::r=>match dX kb k with
  | none=>false
  | some y=>Di v y&&Ln kb r
mutual
inductive AJ(K:q0B)(H:Hp):Nat->V->V->Bool->Prop
 | flat {n:Nat} {x y:V}:cY x=true->cY y=true->AJ K H n x y (Di x y)
 | same {n:Nat} {a:Addr}:AJ K H n (.ref a) (.ref a) true
 | refs {n:Nat} {a b:Addr} {r:Bool}:a≠b->vR K H n a b r->AJ K H n (.ref a) (.ref b) r
inductive vR(K:q0B)(H:Hp):Nat->Addr->Addr->Bool->Prop
 | list {n:Nat} {a b:Addr} {xs ys:List V} {e:Nat->Bool}:dZ K H a xs->dZ K H b ys->xs.length=ys.length->(∀ j x y,xs[j]?=some x->ys[j]?=some y->AJ K H n x y (e j))->vR K H (n+1) a b ((List.range xs.length).all e)
 | Xp {n:Nat} {a b:Addr} {xs ys:List V}:dZ K H a xs->dZ K H b ys->xs.length≠ys.length->vR K H (n+1) a b false
 | tup {n:Nat} {a b:Addr} {xs ys:List V} {e:Nat->Bool}:hJ K H a xs->hJ K H b ys->(∀ j x y,xs[j]?=some x->ys[j]?=some y->AJ K H n x y (e j))->vR K H (n+1) a b ((List.range (min xs.length ys.length)).all e&&xs.length==ys.length)
end
section
variable {X:Cx} {WY:List (Addr×Obj)} {σ:St} {H:Hp} {s:Shared}
theorem kJ{xs:List V}{W2:List Value}(r:Vals xs W2){j:Nat}(h:j < W2.toArray.size):∃ x,xs[j]?=some x/\cA x W2.toArray[j]:=by
 have hj:j < xs.length:=by have:=r.length;simp only[List.size_toArray] at h;omega
 have e:=List.getElem?_eq_getElem hj;obtain⟨u,g,ru⟩:=r.get e;refine⟨_,e,?_⟩;obtain⟨_,q⟩:=List.getElem?_eq_some_iff.mp g;have:W2.toArray[j]=u:=by simpa using q
 rw[this];exact ru
theorem FR:∀(n:Nat),(∀ {a b:Addr} {r:Bool},vR X.K H n a b r->∀ {A:Around},W1 X WY σ H s->A.units+n < cLine->SeqAt.RcAt A s (.ref a) (.ref b) r)/\(∀ {x y:V} {b:Bool},AJ X.K H n x y b->∀ {A:Around} {v u:Value},W1 X WY σ H s->cA x v->cA y u->A.units+n < cLine->SeqAt.EqAt A s v u b):=by
 intro n;have up:∀ {n:Nat},(∀ {a b:Addr} {r:Bool},vR X.K H n a b r->∀ {A:Around},W1 X WY σ H s->A.units+n < cLine->SeqAt.RcAt A s (.ref a) (.ref b) r)->(∀ {x y:V} {b:Bool},AJ X.K H n x y b->∀ {A:Around} {v u:Value},W1 X WY σ H s->cA x v->cA y u->A.units+n < cLine->SeqAt.EqAt A s v u b):=by
  intro n rc x y b h A v u I rx ry hu;cases h with
  | flat fx fy=>exact Jf rx ry fx fy
  | same =>
   cases rx;cases ry;exact SeqAt.EqAt.same _
  | refs ne h =>
   cases rx;cases ry;exact SeqAt.EqAt.of_refs ne (rc h I hu)
 suffices g:∀ {a b:Addr} {r:Bool},vR X.K H n a b r->∀ {A:Around},W1 X WY σ H s->A.units+n < cLine->SeqAt.RcAt A s (.ref a) (.ref b) r from ⟨g,up g⟩
 induction n with
 | zero=>intro a b r h;cases h
 | succ n ih =>
  intro a b r h A I hu;have ih:=@up n @ih;cases h with
  | list hx hy hl he =>
   obtain⟨W2,r1,p1,z1⟩:=I.list hx;obtain⟨jts,r2,p2,z2⟩:=I.list hy;have l1:=r1.length;have l2:=r2.length;have:=SeqAt.RcAt.lists p1.isList p2.isList (by simp only[List.size_toArray];omega) (by omega) (A:=A) (fun j h1 h2=>by
    obtain⟨x,ex,rx⟩:=kJ r1 h1;obtain⟨y,ey,ry⟩:=kJ r2 h2;exact ih (he j x y ex ey) I rx ry (by show A.units+1+_ < _;omega))
   rw[List.size_toArray,<- l1] at this;exact this
  | Xp hx hy hl =>
   obtain⟨W2,r1,p1,z1⟩:=I.list hx;obtain⟨jts,r2,p2,z2⟩:=I.list hy;have l1:=r1.length;have l2:=r2.length;exact SeqAt.RcAt.lists_lengths p1.isList p2.isList (by simp only[List.size_toArray,bne_iff_ne,ne_eq];omega) (by omega)
  | tup hx hy he =>
   obtain⟨W2,r1,p1,z1⟩:=I.tuple hx;obtain⟨jts,r2,p2,z2⟩:=I.tuple hy;have l1:=r1.length;have l2:=r2.length;have:=SeqAt.RcAt.tuples (show s.heap.IsTuple _ W2.toArray from p1) (show s.heap.IsTuple _ jts.toArray from p2) (by omega) (A:=A) (fun j h1 h2=>by
    obtain⟨x,ex,rx⟩:=kJ r1 h1;obtain⟨y,ey,ry⟩:=kJ r2 h2;exact ih (he j x y ex ey) I rx ry (by show A.units+1+_ < _;omega))
   rw[List.size_toArray,List.size_toArray,<- l1,<- l2] at this;exact this
theorem Je{n:Nat}{x y:V}{b:Bool}(h:AJ X.K H n x y b){A:Around}{v u:Value}(I:W1 X WY σ H s)(rx:cA x v)(ry:cA y u)(hu:A.units+n < cLine):SeqAt.EqAt A s v u b:=(FR n).2 h I rx ry hu
theorem Q4{n:Nat}{a b:Addr}{r:Bool}(h:vR X.K H n a b r){A:Around}(I:W1 X WY σ H s)(hu:A.units+n < cLine):SeqAt.RcAt A s (.ref a) (.ref b) r:=(FR n).1 h I hu
end
noncomputable def WC(P:Program)(W:World)(A:Around)(s:Shared)(y x:Value)(r:Bool):Prop:=∀(E:q0A) (Q:Bool->Shared->Prop),Q r s->wpAny (model P W) A (eqBool y x) Q E s
theorem WC.of{P:Program}{W:World}{A:Around}{s:Shared}{y x:Value}{r:Bool}(h:SeqAt.EqAt A s y x r):WC P W A s y x r:=h P W
noncomputable def V0:R2:=fun x y H Q=>bB x fun a=>bB y fun b=>bX (H a) fun xs=>bX (H b) fun ys=>ys=[]/\Q (.bl (!xs.isEmpty)) H
inductive Xk(H:Hp):List V->List V->Bool->Prop
  | nil:Xk H [] [] true
  | cons {a b:Addr} {ka kb:List (Key×V)} {xs ys:List V} {r:Bool}:a≠b->H a=some (.dK ka)->H b=some (.dK kb)->(ka.all fun kv=>cY kv.2)=true->(kb.all fun kv=>cY kv.2)=true->Xk H xs ys r ->
      Xk H (.ref a::xs) (.ref b::ys) ((ka.length==kb.length&&Ln kb ka)&&r)
theorem Xk.len{H:Hp}{xs ys:List V}{r:Bool}(h:Xk H xs ys r):xs.length=ys.length:=by
 induction h with
 | nil=>rfl
 | cons _ _ _ _ _ _ ih=>simp[ih]
theorem Xk.at{H:Hp}{xs ys:List V}{r:Bool}(h:Xk H xs ys r):∃ f:Nat->Bool,(List.range xs.length).all f=r/\∀ j x y,xs[j]?=some x->ys[j]?=some y->∃ a b ka kb,x=.ref a/\y=.ref b/\a≠b/\H a=some (.dK ka)/\H b=some (.dK kb)/\(ka.all fun kv=>cY kv.2)=true/\(kb.all fun kv=>cY kv.2)=true/\f j=(ka.length==kb.length&&Ln kb ka):=by
 induction h with
 | nil=>exact⟨fun _=>true,rfl,fun j x y e=>by simp at e⟩
 | @cons a b ka kb xs ys r ne ea eb fa fb _ ih =>
  obtain⟨f,hf,hp⟩:=ih;refine⟨fun j=>match j with|0=>(ka.length==kb.length&&Ln kb ka)|j+1=>f j,?_,?_⟩
  ·rw[List.length_cons,List.range_succ_eq_map,List.all_cons,List.all_map,<- hf];rfl
  ·intro j x y e1 e2;cases j with
   | zero =>
    simp only[List.getElem?_cons_zero,Option.some.injEq] at e1 e2;exact⟨a,b,ka,kb,e1.symm,e2.symm,ne,ea,eb,fa,fb,rfl⟩
   | succ j=>exact hp j x y (by simpa using e1) (by simpa using e2)
noncomputable def VZ:R2:=fun x y H Q=>bB x fun a=>bB y fun b=>bX (H a) fun xs=>bX (H b) fun ys=>∃ r,Xk H xs ys r/\Q (.bl (!r)) H
noncomputable def T6(y:V)(xs:List V):Option Nat:=xs.findIdx? fun z=>Di z y
section
variable {X:Cx}
variable {o e:Expr} {to te:TE} {apos W6:Pos}
noncomputable def VT(to te:TE):TE:=fun σ H Q=>to σ H fun x H1=>bB x fun a=>bX (H1 a) fun _=>te σ H1 fun y H2=>bX (H2 a) fun xs=>cY y=true/\xs.all cY=true/\eM (T6 y xs) fun j=>Q (.int j) H2
theorem SU{σ:St}{H:Hp}{Q:VK}:VT to te σ H Q=to σ H fun x H1=>bB x fun a=>bX (H1 a) fun _=>te σ H1 fun y H2=>bX (H2 a) fun xs=>cY y=true/\xs.all cY=true/\eM (T6 y xs) fun j=>Q (.int j) H2:=rfl
end
section
variable {H:Hp} {Q:VK} {a b p:Addr} {x:V}
theorem SN{a b:Bool}:Hz (.bl a) (.bl b) H Q=Q (.bl (decide (a=b))) H:=by simp only[Hz,show scal (.bl a) (.bl b)=true from rfl,V.bl.injEq,true_and]
theorem Pb:Hz .W3 .W3 H Q=Q (.bl true) H:=by simp only[Hz,show scal .W3 .W3=true from rfl,decide_true,true_and]
theorem Pa{i:Int}:Hz .W3 (.int i) H Q=Q (.bl false) H:=by simp only[Hz,show scal .W3 (.int i)=true from rfl,reduceCtorEq,decide_false,true_and]
theorem O9{i:Int}:Hz (.int i) .W3 H Q=Q (.bl false) H:=by simp only[Hz,show scal (.int i) .W3=true from rfl,reduceCtorEq,decide_false,true_and]
theorem Qa{K:q0B}{lo hi:Option Int}:Q3 K (.ref a) lo hi H Q = ∃ xs,dZ K H a xs/\∀ p,H p=none->Q (.ref p) (WZ H p (.lst (kU xs lo hi))):=by simp[Q3]
theorem Pp{K:q0B}{n:Nat}{t:TGs}{σ:St}{N:St->Hp->Prop}:Qt K n t (.ref a) σ H N = ∃ xs,hJ K H a xs/\xs.length=n/\t xs σ H N:=by simp[Qt]
theorem V5:((0:Nat):Int)=0:=rfl
theorem V6:((1:Nat):Int)=1:=rfl
theorem V7:((2:Nat):Int)=2:=rfl
theorem Te:V0 (.ref a) (.ref b) H Q=bX (H a) fun xs=>bX (H b) fun ys=>ys=[]/\Q (.bl (!xs.isEmpty)) H:=rfl
theorem Td:VZ (.ref a) (.ref b) H Q=bX (H a) fun xs=>bX (H b) fun ys=>∃ r,Xk H xs ys r/\Q (.bl (!r)) H:=rfl
end
noncomputable def j7(o:Option HO)(k:List V->Prop)(_u:Tg k:=()):Prop:=match o with
 | some (.tup xs)=>k xs
 | _=>False
theorem sV{o:Option HO}{k:List V->Prop}(h:j7 o k):∃ xs,o=some (.tup xs)/\k xs:=by
 unfold j7 at h;split at h
 ·exact⟨_,rfl,h⟩
 ·exact h.elim
noncomputable def Nu:R2:=fun x y H Q=>bB x fun a=>bB y fun b=>j7 (H a) fun xs=>j7 (H b) fun ys=>xs.length+ys.length<=sizeLine/\(if xs=[] then Q y H else if ys=[] then Q x H else ∀ p,H p=none->Q (.ref p) (WZ H p (.tup (xs++ys))))
noncomputable def RW:R2:=fun x y H Q=>bB x fun a=>bB y fun b=>j7 (H a) fun xs=>j7 (H b) fun ys=>ys=[]/\xs.all cY=true/\Q (.bl xs.isEmpty) H
section
variable {X:Cx}
theorem JP:iX X (binaryOp .Add) (fun x y H Q=>∃ a b ys,x=.ref a/\y=.ref b/\hJ X.K H a []/\hJ X.K H b ys/\Q (.ref b) H):=by
 intro WY s σ H x y v u Q I rx ry h;obtain⟨a,b,ys,rfl,rfl,ha,hb,q⟩:=h;cases rx;cases ry;obtain⟨W2,r1,p1,_⟩:=I.tuple ha;obtain⟨Yl,r2,p2,_⟩:=I.tuple hb;have l1:W2=[]:=r1.xO.mpr rfl;obtain⟨⟨c1,d1,t1,o1⟩,ho,rfl,n,rfl⟩:=p1;obtain⟨⟨c2,d2,t2,o2⟩,ho2,rfl,n2,rfl⟩:=p2;exact concat_meets ⟨_,ho,rfl⟩ ⟨_,ho2,rfl⟩ noFill_tuple_add seq_tuple_add PySem.F.slot_tuple_add PySem.F.entry_tuple_add (PySem.F.args_tuple_add_2 _ _) (tuple_addW0 a b W2.toArray Yl.toArray n n2 d1 d2 o1 o2 (by simp[l1])) ⟨ho,ho2,.ref b,H,I,rfl,q⟩
theorem Gg:iX X (binaryOp .Add) Nu:=(JP.or Gf).imp fun x y H Q h=>by
 obtain⟨a,rfl,h1⟩:=bN h;obtain⟨b,rfl,h2⟩:=bN h1;obtain⟨xs,e1,h3⟩:=sV h2;obtain⟨ys,e2,h4,h5⟩:=sV h3;by_cases c:xs=[]
 ·rw[if_pos c] at h5;subst c;exact .inl ⟨a,b,ys,rfl,rfl,.inl (.inl e1),.inl (.inl e2),h5⟩
 ·rw[if_neg c] at h5;refine .inr ⟨a,b,xs,ys,rfl,rfl,.inl (.inl e1),.inl (.inl e2),c,h4,fun z=>?_,fun z=>?_⟩
  ·rw[if_pos z] at h5;exact h5
  ·rw[if_neg z] at h5;exact h5
end
section
variable {H:Hp} {Q:VK} {a b p:Addr} {vs:List V} {lo hi:Option Int}
theorem LS{k:List V->Prop}{u:Tg k}:@j7 (some (.tup vs)) k u=k vs:=rfl
theorem Jb:Nu (.ref a) (.ref b) H Q=j7 (H a) fun xs=>j7 (H b) fun ys=>xs.length+ys.length<=sizeLine/\(if xs=[] then Q (.ref b) H else if ys=[] then Q (.ref a) H else ∀ p,H p=none->Q (.ref p) (WZ H p (.tup (xs++ys)))):=rfl
theorem Pc:RW (.ref a) (.ref b) H Q=j7 (H a) fun xs=>j7 (H b) fun ys=>ys=[]/\xs.all cY=true/\Q (.bl xs.isEmpty) H:=rfl
theorem OZ:Ig lo hi H Q (some (.tup vs))=(¬ (HT.g8 vs.length 0 lo=0/\HT.g8 vs.length vs.length hi=vs.length)/\∀ p,H p=none->Q (.ref p) (WZ H p (.tup (kU vs lo hi)))):=rfl
end
section
variable {prog:Program} {w:World} {A:Around} {E:q0A}
end
noncomputable def FA(H:Hp)(xs:List V)(W0:List (Key×V)):Prop:=xs.length=W0.length/\∀(j:Nat) (x:V),xs[j]?=some x->∃(t:Addr) (k:Key) (v:V),x=.ref t/\H t=some (.tup [kV k,v])/\W0[j]?=some (k,v)
noncomputable def OD:List V->Hp->VK->Prop:=fun vs H Q=>on1 vs fun x=>bB x fun l=>bX (H l) fun xs=>∃ W0,FA H xs W0/\∀ p,H p=none->Q (.ref p) (WZ H p (.dK (JC [] W0)))
noncomputable def Itd(a:Addr)(o:Obj)(W0:List (Key×V)):It :=
 ⟨fun i H=>i < W0.length/\H a=some (.XB o (.dK W0)),fun i H x H'=>H'=H/\∃ kv,W0[i]?=some kv/\x=kV kv.1,fun i H=>i=W0.length/\H a=some (.XB o (.dK W0))⟩
theorem KV.at{W0:List (Key×V)}{vs:List (Key×Value)}(r:KV W0 vs){i:Nat}{kv:Key×V}(e:W0[i]?=some kv):∃ v,vs[i]?=some (kv.1,v):=by
 unfold KV at r
 induction r generalizing i with
 | nil=>simp at e
 | @cons p q ps qs h t ih=>cases i with
  | zero =>
   have e':p=kv:=by simpa using e
   subst e';exact⟨q.2,by simp[h.1]⟩
  | succ i=>simpa using ih (i:=i) (by simpa using e)
noncomputable def TY(tl:TE):TI:=fun σ H R=>tl σ H fun x H1=>bB x fun a=>dH (H1 a) fun W0=>∀ o,R (Itd a o W0) (WZ H1 a (.XB o (.dK W0)))
section
variable {fr:List Nat} {tc:TT} {te tl:TE} {σ:St} {H:Hp} {Q:VK}
theorem Lv:kE (TY tl) fr tc te σ H Q=tl σ H fun x H1=>bB x fun a=>dH (H1 a) fun W0=>∀ o,lc (Itd a o W0) fr tc te σ (WZ H1 a (.XB o (.dK W0))) Q:=by
 unfold kE TY;rfl
end
section
variable {td ty tx:TE} {σ:St} {H:Hp} {Q:VK} {D:Ends} {a:Addr} {v w x:V}
theorem Ej{k:Addr->Prop}:(∃ a,x=.ref a/\k a)=bB x k:=propext ⟨fun⟨a,e,h⟩=>by subst e;exact h,bN⟩
theorem LW:Kq td ty σ H Q=td σ H fun x H1=>bB x fun a=>VB H1 a/\ty σ H1 fun y H2=>∃ o,XD H2 a y o/\Q (o.getD .W3) H2:=by simp only[Kq,Ej]
theorem P8:NR td ty σ H Q=td σ H fun x H1=>ty σ H1 fun y H2=>bB x fun a=>∃ v,XD H2 a y (some v)/\Q v H2:=by
 unfold NR
 congr 1
 funext x H1
 congr 1
 funext y H2;exact propext ⟨fun⟨a,v,e,h⟩=>by subst e;exact⟨v,h⟩,fun h=>by obtain⟨a,rfl,v,h⟩:=bN h;exact⟨a,v,rfl,h⟩⟩
theorem Tz:U0 ty td σ H Q=ty σ H fun y H1=>td σ H1 fun x H2=>bB x fun a=>∃ o,XD H2 a y o/\Q (.bl o.isSome) H2:=by
 unfold U0
 congr 1
 funext y H1
 congr 1
 funext x H2;exact propext ⟨fun⟨a,o,e,h⟩=>by subst e;exact⟨o,h⟩,fun h=>by obtain⟨a,rfl,o,h⟩:=bN h;exact⟨a,o,rfl,h⟩⟩
theorem LX:Kr td ty tx σ H Q=td σ H fun x H1=>bB x fun a=>VB H1 a/\ty σ H1 fun y H2=>tx σ H2 fun z H3=>∃ W0 k,H3 a=some (.dK W0)/\y=kV k/\(∀ v,dX W0 k=some v->Q v (WZ H3 a (.dK (Bs W0 k))))/\(dX W0 k=none->Q z H3):=by
 simp only[Kr,Ej]
theorem LD{l:Addr}:OD [.ref l] H Q=bX (H l) fun xs=>∃ W0,FA H xs W0/\∀ p,H p=none->Q (.ref p) (WZ H p (.dK (JC [] W0))):=rfl
end
noncomputable def wM:List V->Option (List Str)
 | []=>some []
 | .str x::vs=>(wM vs).map (x::·)
 | _::_=>none
theorem BO:∀ ys:List Str,wM (ys.map V.str)=some ys
 | []=>rfl
 | y::ys=>by
  show(wM (ys.map V.str)).map (y::·)=_;rw[BO ys];rfl
theorem Ey:∀ {xs:List V} {ys:List Str},wM xs=some ys->xs=ys.map V.str
 | [],ys,h=>by cases h;rfl
 | x::xs,ys,h=>by
  cases x with
  | str z =>
   simp only[wM,Option.map_eq_some_iff] at h;obtain⟨zs,e,rfl⟩:=h;rw[Ey e];rfl
  | _=>cases h
theorem Gw:∀ {ys:List Str} {W2:List Value},Vals (ys.map V.str) W2->StrsAre W2 ys
 | [],_,.nil=>.nil
 | _::_,_,.cons ⟨_,h⟩ r=>by subst h;exact .cons _ _ (Gw r)
theorem BQ:∀(ys:List Str) (k:Nat),Vals (ys.map V.str) (strsFrom k ys)
 | [],_=>.nil
 | _::ys,k=>.cons ⟨_,rfl⟩ (BQ ys (k+1))
noncomputable def Lj:List V->Hp->VK->Prop:=fun vs H Q=>match vs with
 | [.int i]=>i.natAbs.log2 < 1920/\Q (.str (toString i)) H
 | [.str x]=>Q (.str x) H
 | _=>False
noncomputable def Nm:V->List V->Hp->VK->Prop:=fun x vs H Q=>gX x fun sep=>on1 vs fun y=>bB y fun l=>bX (H l) fun xs=>eM (wM xs) fun ys=>(ys.map fun z=>z.length).sum+ys.length * sep.length<=16777216/\Q (.str (Txt.join sep ys)) H
noncomputable def Ii:V->List V->Hp->VK->Prop:=fun x vs H Q=>gX x fun z=>on1 vs fun y=>gX y fun sep=>(sep.length==0)=false/\z.length+2<=sizeLine/\∀ l,H l=none->Q (.ref l) (WZ H l (.lst ((Txt.split z sep).map V.str)))
noncomputable def Ik:List V->Hp->VK->Prop:=fun vs H Q=>on1 vs fun x=>bB x fun p=>bX (H p) fun ys=>∀ l,H l=none->Q (.ref l) (WZ H l (.tup ys))
theorem gB{x:V}{k:Str->Prop}(h:gX x k):∃ z,x=.str z/\k z:=by
 unfold gX at h;split at h
 ·exact⟨_,rfl,h⟩
 ·exact h.elim
theorem k6{vs:List V}{k:V->Prop}(h:on1 vs k):∃ v,vs=[v]/\k v:=by
 unfold on1 at h;split at h
 ·exact⟨_,rfl,h⟩
 ·exact h.elim
section
variable {X:Cx}
theorem uE:eR X (.type "str") Lj:=fun WY s σ H xs us Q I r h=>by
 unfold Lj at h;split at h
 ·exact B7 WY s σ H _ us Q I r ⟨_,rfl,h.1,h.2⟩
 ·obtain⟨u,rfl,t,rfl⟩:=vals1 r;exact PySem.P.str_of_str ⟨.str _,H,I,⟨_,rfl⟩,h⟩
 ·exact h.elim
theorem eX:eR X (.type "tuple") Ik:=fun WY s σ H xs us Q I r h=>by
 obtain⟨x,rfl,h⟩:=k6 h;obtain⟨p,rfl,h⟩:=bN h;obtain⟨ys,e,h⟩:=gA h;exact AQ WY s σ H _ us Q I r ⟨_,_,rfl,.inl ⟨.inl (.inl e),h⟩⟩
theorem xN:KP X "str.join" Nm:=by
 intro WY s σ H x xs v us Q I rx r h;obtain⟨sep,rfl,h⟩:=gB h;obtain⟨y,rfl,h⟩:=k6 h;obtain⟨l,rfl,h⟩:=bN h;obtain⟨zs,e,h⟩:=gA h;obtain⟨ys,ey,hz,q⟩:=iP h;cases Ey ey;obtain⟨u,rfl,ru⟩:=vals1 r;cases ru;obtain⟨t,rfl⟩:=rx;obtain⟨W2,r',pl,_⟩:=I.list (.inl (.inl e):dZ X.K H l _);exact join_list pl.isList (by simpa using Gw r') hz fun t' k=>⟨.str _,H,I.tok _,⟨_,rfl⟩,q⟩
theorem lU:KP X "str.split" Ii:=by
 intro WY s σ H x xs v us Q I rx r h;obtain⟨z,rfl,h1⟩:=gB h;obtain⟨y,rfl,h2⟩:=k6 h1;obtain⟨sep,rfl,h0,hz,q⟩:=gB h2;obtain⟨u,rfl,t',rfl⟩:=vals1 r;obtain⟨t,rfl⟩:=rx;have fin:∀(l:List Value) (n:Nat) (k:Nat),Vals ((Txt.split z sep).map V.str) l->(Txt.split z sep).length<=sizeLine->EP X WY σ Q (.ref s.heap.objs.size) {s with heap:=s.heap.push {cls:=.type "list",data:=.seq l.toArray n},toks:=k}:=fun l n k hv hl=>by
  refine⟨.ref _,_,I.laid (t':=k) (fun b o e=>Heap.get?_push_of_some _ e) (Nat.le_refl _) (show fT X.prog X.w _ _ _ (.lst ((Txt.split z sep).map V.str)) from ⟨by simpa using hl,l,n,hv,?_⟩),rfl,q _ (I.W5.fresh (Nat.le_refl _))⟩;exact Heap.get?_push_size _ rfl
 have hl:(Txt.split z sep).length<=sizeLine:=by
  have:=len_le_of_split (l:=(Txt.split z sep).map fun a=>(a,(0:Nat))) (x:=z) (y:=sep) (by simp[Function.comp_def]);simp only[List.length_map] at this;omega
 unfold Txt.split at fin hl;by_cases c1:(decide (z.length < sep.length)||decide (Builtin.Str.strKind z < Builtin.Str.strKind sep))=true
 ·rw[if_pos c1] at fin hl;exact call_meets F.slot_str_split (typeIs_str s z t) F.entry_str_split (F.args_str_split_2 _ _) (meets_str_split_cannot_occur z sep t t' c1) (fin [.str z t] 0 s.toks (.cons ⟨_,rfl⟩ .nil) hl)
 rw[if_neg c1] at fin hl;by_cases c2:(Builtin.Str.occurrences z sep 0 z.length (z.length+1)).isEmpty=true
 ·rw[if_pos c2] at fin hl;exact call_meets F.slot_str_split (typeIs_str s z t) F.entry_str_split (F.args_str_split_2 _ _) (meets_str_split_not_found z sep t t' (by simpa using c1) h0 c2) (fin [.str z t] 0 s.toks (.cons ⟨_,rfl⟩ .nil) hl)
 ·rw[if_neg c2] at fin hl;exact call_meets F.slot_str_split (typeIs_str s z t) F.entry_str_split (F.args_str_split_2 _ _) (meets_str_split_sep z sep t t' (by simpa using c1) h0 (by simpa using c2) (by omega) hl) (fin _ 0 _ (BQ _ _) hl)
noncomputable def Nn:R2:=fun x y H Q=>bB x fun a=>bB y fun b=>j7 (H a) fun xs=>j7 (H b) fun ys=>ys=[]/\Q (.bl (!xs.isEmpty)) H
theorem My(hu:X.A.units < cLine):iX X (compareOp .NotEq) Nn:=fun WY s σ H x y v u Q I rx ry h=>by
 obtain⟨a,rfl,h1⟩:=bN h;obtain⟨b,rfl,h2⟩:=bN h1;obtain⟨xs,e1,h3⟩:=sV h2;obtain⟨ys,e2,rfl,q⟩:=sV h3;cases rx;cases ry;obtain⟨W2,r1,p1,_⟩:=I.tuple (hJ.of e1);obtain⟨Yl,r2,p2,_⟩:=I.tuple (hJ.of e2);have l1:=r1.length;have l2:Yl.length=0:=r2.length.symm;refine SeqAt.RcNeAt.tuples (e:=fun _=>true) (show s.heap.IsTuple a W2.toArray from p1) (show s.heap.IsTuple b Yl.toArray from p2) hu (fun j _ h2=>absurd h2 (by simp[l2])) X.prog X.w X.xe _ (b9 I q ?_);cases xs with
 | nil =>
  have Z4:W2.length=0:=l1.symm;simp[Z4,l2]
 | cons x xs =>
  have Z4:W2.length=xs.length+1:=l1.symm;simp[Z4,l2]
end
section
variable {K:q0B} {T:String} {r:V->List V->Hp->VK->Prop} {to:TE} {t:TA} {σ:St} {H:Hp} {Q:VK} {x y:Str} {i:Int} {p:Addr} {ys:List Str}
theorem V4:WH K T r to t σ H Q=to σ H fun x H1=>VH K T x H1/\t σ H1 fun xs H2=>r x xs H2 Q:=rfl
theorem TM:VH K "str" (.str x) H=True:=eq_true rfl
theorem Qc:Lj [.int i] H Q=(i.natAbs.log2 < 1920/\Q (.str (toString i)) H):=rfl
theorem Qd:Lj [.str x] H Q=Q (.str x) H:=rfl
theorem PD:Nm (.str x) [.ref p] H Q=bX (H p) fun xs=>eM (wM xs) fun ys=>(ys.map fun z=>z.length).sum+ys.length * x.length<=16777216/\Q (.str (Txt.join x ys)) H:=rfl
theorem L6:wM (ys.map V.str)=some ys:=BO ys
theorem LZ:Ii (.str x) [.str y] H Q=((y.length==0)=false/\x.length+2<=sizeLine/\∀ l,H l=none->Q (.ref l) (WZ H l (.lst ((Txt.split x y).map V.str)))):=rfl
theorem PV{q:Addr}:Nn (.ref p) (.ref q) H Q=j7 (H p) fun xs=>j7 (H q) fun ys=>ys=[]/\Q (.bl (!xs.isEmpty)) H:=rfl
theorem L8:Ik [.ref p] H Q=bX (H p) fun ys=>∀ l,H l=none->Q (.ref l) (WZ H l (.tup ys)):=rfl
end
noncomputable abbrev TJ:=Str->St->Hp->(Str->Hp->Prop)->Prop
noncomputable def Wx(te:TE):TE:=fun σ H Q=>te σ H fun x H1=>gX x fun z=>z.length<=sizeLine/\Q (.str z) H1
noncomputable def WU:TJ:=fun acc _ H Q=>Q acc H
noncomputable def WV(te:TE)(tj:TJ):TJ:=fun acc σ H Q=>te σ H fun x H1=>gX x fun z=>(acc++z).length<=sizeLine/\tj (acc++z) σ H1 Q
noncomputable def M8(tj:TJ):TE:=fun σ H Q=>tj Str.empty σ H fun out H1=>out.length<=sizeLine/\Q (.str out) H1
section
variable {X:Cx} {e a b:Expr} {es:List Expr} {te:TE} {tj:TJ} {pos:Pos}
end
noncomputable def WJ(r:V->List V->Hp->VK->Prop)(to:TE)(t:TA):TE:=fun σ H Q=>to σ H fun x H1=>bB x fun a=>bX (H1 a) fun _=>t σ H1 fun xs H2=>r (.ref a) xs H2 Q
noncomputable def VR:V->List V->Hp->VK->Prop:=fun x vs H Q=>bB x fun a=>on1 vs fun y=>bB y fun b=>bX (H a) fun xs=>bX (H b) fun zs=>xs.length+zs.length<=sizeLine/\Q .W3 (WZ H a (.lst (xs++zs)))
noncomputable def Nq:V->List V->Hp->VK->Prop:=fun x vs H Q=>bB x fun a=>on1 vs fun y=>fH y fun i=>bX (H a) fun xs=>i=0/\eM xs[0]? fun v=>Q v (WZ H a (.lst xs.tail))
section
variable {X:Cx} {o e:Expr} {es:List Expr} {to:TE} {t:TA} {name:Str} {apos W6:Pos} {id:String} {r:V->List V->Hp->VK->Prop}
theorem NI(slot:Slot "list" name id)(hty:typeOf (.builtin id)=pure (.type "method_descriptor"))(hm:RM X id r)(ho:PE X o to)(ha:PA X (e::es) t)
    (XJ:attributeBase o name X.env (eval o X.env)=eval o X.env:=by rfl)
    (Y8:((backTo W6 (starEach (e::es) X.env)).all (fun x=>!x.1)&&(backToKw W6 (keywordEach [] X.env)).all (fun x=>x.1.isSome)
     &&decide ((e::es).length+([]:List Keyword).length+(if ([]:List Keyword).isEmpty then 0 else 1) < 30))=true:=by rfl)
    (XN:(apos.endLine==W6.line)=true:=by rfl) (hs:starEach (e::es) X.env=(false,eval e X.env)::starEach es X.env:=by rfl) (XR:(backTo W6 (starEach es X.env)).any (·.1)=false:=by rfl) :
    PE X (.Call (.Attribute o name apos) (e::es) [] W6) (WJ r to t):=by
  intro WY s σ H Q I h;refine wpAny_Call_method_late XJ Y8 XN rfl (thn (ho WY s σ H _ I h) fun v s1 ⟨x,H1,I1,r1,q1⟩=>?_);obtain⟨a,rfl,q1⟩:=bN q1;obtain⟨xs,e1,q1⟩:=gA q1;obtain⟨h1,h2⟩:=De (T:="list") I1 r1 (.inl ⟨rfl,xs,.inl (.inl e1)⟩);refine⟨"list",id,PySem.F.plainAttrs_list,slot,hty,h1,h2,?_⟩;have hA:=ha W6 WY s1 σ H1 _ I1 q1;rw[hs] at hA ⊢;refine Calls.callWith_builtin (by show(false||(backTo W6 (starEach es X.env)).any (·.1))=false;rw[XR]<;>rfl) (Calls.evalArgs_plain ?_);exact thn hA fun us s2 ⟨vs,H2,I2,r2,q2⟩=>hm WY s2 σ H2 _ vs v us Q I2 r1 r2 q2
theorem Gc:RM X "list.pop" Nq:=fun WY s σ H x vs v us Q I rx rv h=>by
 obtain⟨a,rfl,h1⟩:=bN h;obtain⟨y,rfl,h2⟩:=k6 h1;obtain⟨i,rfl,h3⟩:=eV h2;obtain⟨xs,e1,rfl,h4⟩:=gA h3;obtain⟨y,e2,h5⟩:=iP h4;cases xs with
 | nil=>cases e2
 | cons z zs=>exact JK WY s σ H _ _ v us Q I rx rv ⟨_,_,_,0,y,rfl,rfl,e1,by decide,by decide,by simp[seqIndex?],e2,h5⟩
end
noncomputable def HJ:Option HO->Option Bool
 | some (.lst xs)=>some (!xs.isEmpty)
 | some (.tup xs)=>some (!xs.isEmpty)
 | some (.dK W0)=>some (!W0.isEmpty)
 | _=>none
noncomputable def EA(H:Hp):V->Option Bool
 | .W3=>some false
 | .bl b=>some b
 | .int i=>some (i !=0)
 | .ref p=>HJ (H p)
 | _=>none
theorem Na{K:q0B}{H:Hp}{x:V}{k:Bool}(h:EA H x=some k):RO K x H k:=by
 cases x with
 | W3=>cases h;rfl
 | bl b=>cases h;rfl
 | int i=>cases h;rfl
 | ref p =>
  simp only[EA] at h;unfold HJ at h;split at h
  ·next e=>cases h;exact .inl ⟨_,.inl (.inl e),rfl⟩
  ·next e=>cases h;exact .inr (.inl ⟨_,hJ.of e,rfl⟩)
  ·next e=>cases h;exact .inr (.inr ⟨_,e,rfl⟩)
  ·cases h
 | _=>cases h
noncomputable def Kx(ta:TE):TT:=fun σ H Q=>ta σ H fun x H'=>eM (EA H' x) fun k=>Q k H'
theorem tL{X:Cx}{a:Expr}{ta:TE}(ha:PE X a ta)(he:∀ whole,isTrue a X.env whole=(do let v <- whole;standAt a.pos;holding [v] (truthy v))):PT X a (Kx ta):=by
 intro WY s σ H Q I h;exact isTrue_plain (thn (ha WY s σ H _ I h) fun v s1 ⟨x,H1,I1,r1,q1⟩=>by
  obtain⟨k,e,q⟩:=iP q1;exact Ru WY s1 σ H1 x v Q I1 r1 ⟨k,Na e,q⟩) (he _)
section
variable {te to:TE} {t:TA} {tj:TJ} {σ:St} {H:Hp} {Q:VK} {x acc:Str} {r:V->List V->Hp->VK->Prop} {QS:Str->Hp->Prop} {B:Bool->Hp->Prop} {D:Ends} {p q:Addr} {vs:List V} {W0:List (Key×V)} {v:V} {b:Bool} {i:Int}
theorem SR:Wx te σ H Q=te σ H fun x H1=>gX x fun z=>z.length<=sizeLine/\Q (.str z) H1:=rfl
theorem Wc:WU acc σ H QS=QS acc H:=rfl
theorem Wd:WV te tj acc σ H QS=te σ H fun x H1=>gX x fun z=>(acc++z).length<=sizeLine/\tj (acc++z) σ H1 QS:=rfl
theorem IM:M8 tj σ H Q=tj Str.empty σ H fun out H1=>out.length<=sizeLine/\Q (.str out) H1:=rfl
theorem Pd:Str.empty++x=x:=by
 show(⟨#[]++x.cps⟩:Str)=x;rw[Array.empty_append]
theorem We:WJ r to t σ H Q=to σ H fun x H1=>bB x fun a=>bX (H1 a) fun _=>t σ H1 fun xs H2=>r (.ref a) xs H2 Q:=rfl
theorem SO:VR (.ref p) [.ref q] H Q=bX (H p) fun xs=>bX (H q) fun zs=>xs.length+zs.length<=sizeLine/\Q .W3 (WZ H p (.lst (xs++zs))):=rfl
theorem P5:Nq (.ref p) [.int 0] H Q=bX (H p) fun xs=>(0:Int)=0/\eM xs[0]? fun v=>Q v (WZ H p (.lst xs.tail)):=rfl
theorem L7:Kx te σ H B=te σ H fun x H'=>eM (EA H' x) fun k=>B k H':=rfl
theorem Qk:EA H .W3=some false:=rfl
theorem Qg:EA H (.bl b)=some b:=rfl
theorem Qi:EA H (.int i)=some (i !=0):=rfl
theorem Jc:EA H (.ref p)=HJ (H p):=rfl
theorem Qj:HJ (some (.lst vs))=some (!vs.isEmpty):=rfl
theorem Ql:HJ (some (.tup vs))=some (!vs.isEmpty):=rfl
theorem Qh:HJ (some (.dK W0))=some (!W0.isEmpty):=rfl
theorem LM:Rq D σ H=False:=rfl
variable {fr:List Nat} {tc:TT} {tl:TE} {K:q0B}
theorem Lz:kE (Jm K tl) fr tc te σ H Q=tl σ H fun x H1=>bB x fun a=>(∃ xs,hJ K H1 a xs)/\lc (Itt K a) fr tc te σ H1 Q:=by
 unfold kE Jm
 congr 1
 funext x H1;exact propext ⟨fun⟨a,e,h1,h⟩=>by subst e;exact⟨h1,h⟩,fun h=>by obtain⟨a,rfl,h1,h⟩:=bN h;exact⟨a,rfl,h1,h⟩⟩
end
section
variable {X:Cx} {WY:List (Addr×Obj)} {σ:St} {H:Hp} {s:Shared}
theorem MM{n:Nat}{a b:Addr}{r:Bool}{A:Around}(h:vR X.K H n a b r)(I:W1 X WY σ H s)(hu:A.units+n < cLine):SeqAt.RcNeAt A s (.ref a) (.ref b) (!r):=by
 cases h with
 | list hx hy hl he =>
  obtain⟨W2,r1,p1,z1⟩:=I.list hx;obtain⟨jts,r2,p2,z2⟩:=I.list hy;have l1:=r1.length;have l2:=r2.length;have:=SeqAt.RcNeAt.lists p1.isList p2.isList (by simp only[List.size_toArray];omega) (by omega) (A:=A) (fun j h1 h2=>by
   obtain⟨x,ex,rx⟩:=kJ r1 h1;obtain⟨y,ey,ry⟩:=kJ r2 h2;exact Je (he j x y ex ey) I rx ry (by show A.units+1+_ < _;omega))
  rw[List.size_toArray,<- l1] at this;exact this
 | Xp hx hy hl =>
  obtain⟨W2,r1,p1,z1⟩:=I.list hx;obtain⟨jts,r2,p2,z2⟩:=I.list hy;have l1:=r1.length;have l2:=r2.length;exact SeqAt.RcNeAt.lists_lengths p1.isList p2.isList (by simp only[List.size_toArray,bne_iff_ne,ne_eq];omega) (by omega)
 | tup hx hy he =>
  obtain⟨W2,r1,p1,z1⟩:=I.tuple hx;obtain⟨jts,r2,p2,z2⟩:=I.tuple hy;have l1:=r1.length;have l2:=r2.length;have:=SeqAt.RcNeAt.tuples (show s.heap.IsTuple _ W2.toArray from p1) (show s.heap.IsTuple _ jts.toArray from p2) (by omega) (A:=A) (fun j h1 h2=>by
   obtain⟨x,ex,rx⟩:=kJ r1 h1;obtain⟨y,ey,ry⟩:=kJ r2 h2;exact Je (he j x y ex ey) I rx ry (by show A.units+1+_ < _;omega))
  rw[List.size_toArray,List.size_toArray,<- l1,<- l2] at this;exact this
end
noncomputable def Si(K:q0B)(n:Nat):R2:=fun x y H Q=>bB x fun a=>bB y fun b=>∃ r,vR K H n a b r/\Q (.bl (!r)) H
noncomputable def RV(K:q0B)(n:Nat):R2:=fun x y H Q=>bB x fun a=>bB y fun b=>∃ r,vR K H n a b r/\Q (.bl r) H
theorem Ck{A:Around}{k:Nat}(hr:Room k A){n:Nat}(h:n<=60):A.units+n < cLine:=Nat.lt_of_le_of_lt (Nat.add_le_add_left (by omega:n<=64) _) hr.units
noncomputable def UI(n:Int)(xs:List V):List V:=(List.replicate n.toNat xs).flatten
noncomputable def V2:R2:=fun x y H Q=>bB x fun l=>fH y fun k=>bX (H l) fun xs=>(-(2 ^ 63)<=k/\k < 2 ^ 63)/\xs.length * k.toNat<=sizeLine/\∀ p,H p=none->Q (.ref p) (WZ H p (.lst (UI k xs)))
noncomputable def OE:List V->Hp->VK->Prop:=fun vs H Q=>on1 vs fun x=>bB x fun p=>m9 (H p) fun ys=>∀ l,H l=none->Q (.ref l) (WZ H l (.lst ys))
noncomputable def Se(K:q0B):List V->Hp->VK->Prop:=fun vs H Q=>on1 vs fun x=>bB x fun p=>∃ xs,dZ K H p xs/\Q (.int xs.length) H
section
variable {X:Cx}
theorem CL(n:Nat)(hu:X.A.units+n < cLine):iX X (compareOp .NotEq) (Si X.K n):=fun WY s σ H x y v u Q I rx ry h=>by
 obtain⟨a,rfl,h1⟩:=bN h;obtain⟨b,rfl,r,e,q⟩:=bN h1;cases rx;cases ry;exact MM e I hu X.prog X.w X.xe _ (b9 I q rfl)
theorem Ac(n:Nat)(hu:X.A.units+n < cLine):iX X (compareOp .Eq) (RV X.K n):=fun WY s σ H x y v u Q I rx ry h=>by
 obtain⟨a,rfl,h1⟩:=bN h;obtain⟨b,rfl,r,e,q⟩:=bN h1;cases rx;cases ry;exact Q4 e I hu X.prog X.w X.xe _ (b9 I q rfl)
end
section
variable {K:q0B} {H:Hp} {Q:VK} {a b p:Addr} {n:Nat} {i:Int}
theorem Tb:Si K n (.ref a) (.ref b) H Q = ∃ r,vR K H n a b r/\Q (.bl (!r)) H:=rfl
theorem SM:RV K n (.ref a) (.ref b) H Q = ∃ r,vR K H n a b r/\Q (.bl r) H:=rfl
theorem Tv:V2 (.ref a) (.int i) H Q=bX (H a) fun xs=>(-(2 ^ 63)<=i/\i < 2 ^ 63)/\xs.length * i.toNat<=sizeLine/\∀ p,H p=none->Q (.ref p) (WZ H p (.lst (UI i xs))):=rfl
theorem LL:OE [.ref p] H Q=m9 (H p) fun ys=>∀ l,H l=none->Q (.ref l) (WZ H l (.lst ys)):=rfl
theorem PK:Se K [.ref p] H Q = ∃ xs,dZ K H p xs/\Q (.int xs.length) H:=rfl
end
theorem vR.same{K:q0B}{H:Hp}{a b:Addr}{xs:List V}(h1:H a=some (.lst xs))(h2:H b=some (.lst xs))(h:∀ x∈xs,∃ c,x=.ref c):vR K H 1 a b true:=by
 have:=vR.list (K:=K) (H:=H) (n:=0) (a:=a) (b:=b) (e:=fun _=>true) (dZ.of h1) (dZ.of h2) rfl fun j x y e1 e2=>by
  rw[e1] at e2;cases e2;obtain⟨c,rfl⟩:=h x (List.mem_of_getElem? e1);exact .same
 rwa [show((List.range xs.length).all fun _=>true)=true by simp[List.all_eq_true]] at this
noncomputable def Str.cs(x:Str):List Nat:=x.cps.toList
theorem jS{x y:Str}(h:x.cps.toList=y.cps.toList):x=y:=by
 cases x;cases y;simp only[Str.mk.injEq];exact Array.toList_inj.mp h
theorem jK(a b:Str):(a++b).cps.toList=a.cps.toList++b.cps.toList:=Array.toList_append
noncomputable def jn(c:Nat):List (List Nat)->List Nat
 | []=>[]
 | [w]=>w
 | w::v::r=>w++c::jn c (v::r)
theorem FU(c:Nat):∀(l:List Str) (x:List Nat),(List.foldl (fun acc (p:Str)=>acc++(#[c]:Array Nat)++p.cps) x.toArray l).toList=jn c (x::l.map fun p=>p.cps.toList)
 | [],x=>by simp[jn]
 | y::l,x=>by
  show(List.foldl _ (x.toArray++#[c]++y.cps) l).toList=_;have e:x.toArray++#[c]++y.cps=(x++c::y.cps.toList).toArray:=by apply Array.toList_inj.mp;simp
  rw[e,FU c l (x++c::y.cps.toList)];cases l with
  | nil=>simp[jn]
  | cons z l=>simp[jn]
theorem xI(c:Nat)(ws:List Str):(Txt.join ⟨#[c]⟩ ws).cps.toList=jn c (ws.map fun p=>p.cps.toList):=by
 cases ws with
 | nil=>rfl
 | cons w ws =>
  exact FU c ws w.cps.toList
theorem fN(x y:Str):Txt.split x y≠[]:=by
 unfold Txt.split;split
 ·simp
 ·split
  ·simp
  ·unfold Builtin.Str.partsBetween;simp only[ne_eq,List.map_eq_nil_iff];intro h;have:=congrArg List.length h;simp at this
theorem Bw:∀(l:List Str) (x:List Nat),(List.foldl (fun acc (p:Str)=>acc++("":Str).cps++p.cps) x.toArray l).toList=x++(l.map fun p=>p.cps.toList).flatten
 | [],x=>by simp
 | y::l,x=>by
  have e0:("":Str).cps = #[]:=by decide +kernel
  show(List.foldl _ (x.toArray++("":Str).cps++y.cps) l).toList=_;have e:x.toArray++("":Str).cps++y.cps=(x++y.cps.toList).toArray:=by rw[e0];apply Array.toList_inj.mp;simp
  rw[e,Bw l (x++y.cps.toList)];simp
theorem uQ(ws:List Str):(Txt.join "" ws).cps.toList=(ws.map fun p=>p.cps.toList).flatten:=by
 cases ws with
 | nil=>rfl
 | cons w ws =>
  exact Bw ws w.cps.toList
theorem eP:("\n":Str)=⟨#[10]⟩/\(" ":Str)=⟨#[32]⟩/\("-":Str)=⟨#[45]⟩/\("0":Str)=⟨#[48]⟩/\("9":Str)=⟨#[57]⟩:=by decide +kernel
theorem rJ(rows:List Str)(tl:Str):Txt.join "" (rows.map fun r:Str=>r++"\n")++tl=Txt.join "\n" (rows++[tl]):=by
 apply jS;rw[jK,uQ,eP.1,xI]
 induction rows with
 | nil=>simp[jn]
 | cons r rows ih =>
  simp only[List.map_cons,List.flatten_cons,jK,List.cons_append,List.append_assoc] at ih ⊢;rw[ih];cases rows with
  | nil=>simp[jn]
  | cons z l=>simp[jn]
theorem uF{α:Type}(f:α->V)(xs:List α)(y:α):kU ((xs++[y]).map f) none (some (-1))=xs.map f:=by
 have hl:((xs++[y]).map f).length=xs.length+1:=by simp
 unfold kU;have h1:HT.g8 ((xs++[y]).map f).length 0 none=0:=rfl;have h2:HT.g8 ((xs++[y]).map f).length ((xs++[y]).map f).length (some (-1))=xs.length:=by
  rw[hl];unfold HT.g8;simp;omega
 rw[h1,h2];simp
noncomputable def Nk:List V->Hp->VK->Prop:=fun vs H Q=>on1 vs fun x=>gX x fun z=>z.length<=640/\eM (intText? z) fun n=>Q (.int n) H
noncomputable def FF:V->List V->Hp->VK->Prop:=fun x vs H Q=>gX x fun z=>on1 vs fun y=>gX y fun p=>Q (.bl (Txt.startswith z p)) H
noncomputable def Nj:V->List V->Hp->VK->Prop:=fun x vs H Q=>gX x fun z=>on1 vs fun y=>gX y fun p=>Q (.bl (Txt.endswith z p)) H
noncomputable def Sd:R2:=fun x y H Q=>gX x fun i=>gX y fun j=>Q (.bl (!decide (j.cps.toList < i.cps.toList))) H
noncomputable def q8:List V->Option (List Bool)
 | []=>some []
 | .bl b::r=>(q8 r).map (b::·)
 | _=>none
theorem Bn:∀ {xs:List V} {bs:List Bool},q8 xs=some bs->xs=bs.map V.bl
 | [],bs,h=>by cases h;rfl
 | x::xs,bs,h=>by
  cases x with
  | bl b =>
   simp only[q8,Option.map_eq_some_iff] at h;obtain⟨cs,e,rfl⟩:=h;rw[Bn e];rfl
  | _=>cases h
theorem DC:∀ {bs:List Bool},q8 (bs.map V.bl)=some bs
 | []=>rfl
 | b::bs=>by
  show(q8 (bs.map V.bl)).map (b::·)=_;rw[DC];rfl
noncomputable def RP:List V->Hp->VK->Prop:=fun vs H Q=>on1 vs fun x=>bB x fun p=>bX (H p) fun xs=>eM (q8 xs) fun bs=>Q (.bl (bs.all id)) H
noncomputable def R0(K:q0B)(neg:Bool):R2:=fun x y H Q=>bB y fun p=>∃ xs,hJ K H p xs/\cY x=true/\xs.all cY=true/\Q (.bl (if neg=true then !cE x xs else cE x xs)) H
section
variable {X:Cx}
theorem lM:eR X (.type "int") Nk:=fun WY s σ H xs us Q I r h=>by
 obtain⟨x,rfl,h1⟩:=k6 h;obtain⟨z,rfl,hz,h2⟩:=gB h1;obtain⟨n,e,q⟩:=iP h2;obtain⟨u,rfl,t,rfl⟩:=vals1 r;exact PySem.W.KIN.call_text e hz ⟨.int n,H,I.tok _,⟨_,rfl⟩,q⟩
theorem A9:KP X "str.startswith" FF:=fun WY s σ H x xs v us Q I rx r h=>by
 obtain⟨z,rfl,h1⟩:=gB h;obtain⟨y,rfl,h2⟩:=k6 h1;obtain⟨p,rfl,q⟩:=gB h2;obtain⟨u,rfl,t',rfl⟩:=vals1 r;obtain⟨t,rfl⟩:=rx;exact PySem.SC.startswith ⟨.bl _,H,I,rfl,q⟩
theorem Eb:KP X "str.endswith" Nj:=fun WY s σ H x xs v us Q I rx r h=>by
 obtain⟨z,rfl,h1⟩:=gB h;obtain⟨y,rfl,h2⟩:=k6 h1;obtain⟨p,rfl,q⟩:=gB h2;obtain⟨u,rfl,t',rfl⟩:=vals1 r;obtain⟨t,rfl⟩:=rx;exact PySem.SC.endswith ⟨.bl _,H,I,rfl,q⟩
theorem CK:iX X (compareOp .LtE) Sd:=Hu.imp fun x y H Q h=>by
 obtain⟨i,rfl,h1⟩:=gB h;obtain⟨j,rfl,q⟩:=gB h1;exact⟨i,j,rfl,rfl,q⟩
theorem Bo(hc:X.calm=true):eR X (.builtin "all") RP:=fun WY s σ H xs us Q I r h=>by
 obtain⟨x,rfl,h1⟩:=k6 h;obtain⟨p,rfl,h2⟩:=bN h1;obtain⟨ys,e,h3⟩:=gA h2;obtain⟨bs,eb,q⟩:=iP h3;cases Bn eb;exact Io hc WY s σ H _ us Q I r ⟨p,bs,rfl,dZ.of e,q⟩
theorem BD:iX X (compareOp .NotIn) (R0 X.K true):=sW.imp fun x y H Q h=>by
 obtain⟨p,rfl,xs,e,h1,h2,q⟩:=bN h;exact⟨_,_,rfl,.inr e,h1,h2,q⟩
end
section
variable {K:q0B} {H:Hp} {Q:VK} {p:Addr} {x y z:Str} {neg:Bool} {v:V}
theorem Pt:Nk [.str z] H Q=(z.length<=640/\eM (intText? z) fun n=>Q (.int n) H):=rfl
theorem Ja:FF (.str z) [.str y] H Q=Q (.bl (Txt.startswith z y)) H:=rfl
theorem O8:Nj (.str z) [.str y] H Q=Q (.bl (Txt.endswith z y)) H:=rfl
theorem S7:Sd (.str x) (.str y) H Q=Q (.bl (!decide (y.cps.toList < x.cps.toList))) H:=rfl
theorem Sq:RP [.ref p] H Q=bX (H p) fun xs=>eM (q8 xs) fun bs=>Q (.bl (bs.all id)) H:=rfl
theorem SW:R0 K neg v (.ref p) H Q = ∃ xs,hJ K H p xs/\cY v=true/\xs.all cY=true/\Q (.bl (if neg=true then !cE v xs else cE v xs)) H:=rfl
end
noncomputable def W8(n:Nat):List Nat:=(Nat.toDigits 10 n).map Char.toNat
theorem lN(n:Nat):∀ c∈W8 n,48<=c/\c<=57:=by
 intro c hc;obtain⟨d,hd,rfl⟩:=List.mem_map.mp hc;have:=Nat.isDigit_of_mem_toDigits (by decide) (by decide) hd;simp only[Char.isDigit,Bool.and_eq_true,decide_eq_true_eq] at this;exact⟨this.1,this.2⟩
theorem sD(n:Nat):W8 n≠[]:=by simpa[W8] using Nat.toDigits_ne_nil
theorem iY{n k:Nat}(hk:0 < k):(W8 n).length<=k↔n < 10 ^ k:=by
 rw[W8,List.length_map];exact Nat.length_toDigits_le_iff (by decide) hk
theorem sE(n:Nat):NumText.digitsVal (W8 n)=n:=PySem.W.KIN.val_back n
theorem Df:∀(cs:List Nat) (a:Nat),(∀ c∈cs,48<=c/\c<=57)->List.foldl (fun acc c=>acc * 10+(c - 48)) a cs < (a+1) * 10 ^ cs.length
 | [],a,_=>by simp
 | c::cs,a,h=>by
  have h1:=h c (by simp);have h2:=Df cs (a * 10+(c - 48)) fun z hz=>h z (List.mem_cons_of_mem _ hz);rw[List.foldl_cons];refine Nat.lt_of_lt_of_le h2 ?_;rw[List.length_cons,Nat.pow_succ,<- Nat.mul_assoc,Nat.mul_right_comm];exact Nat.mul_le_mul_right _ (by omega)
theorem Br{n:Nat}{cs:List Nat}(h:W8 n=48::cs):n=0:=by
 have hv:=sE n;have ha:=lN n;rw[h] at hv ha;cases cs with
 | nil=>rw[<- hv];rfl
 | cons c cs =>
  have h2:=Df (c::cs) 0 fun z hz=>ha z (List.mem_cons_of_mem _ hz);have h3:NumText.digitsVal (48::c::cs)=NumText.digitsVal (c::cs):=by simp[NumText.digitsVal]
  rw[h3] at hv;have h4:n < 10 ^ (c::cs).length:=by
   rw[<- hv];simpa[NumText.digitsVal] using h2
  have h5:=(iY (n:=n) (k:=(c::cs).length) (by simp)).mpr h4;rw[h] at h5;simp at h5;omega
theorem xH(n:Nat):(Str.ofString (toString (n:Int))).cps.toList=W8 n:=by
 show(Str.ofString (Nat.repr n)).cps.toList=_;rw[Nat.repr_eq_ofList_toDigits,PySem.W.Fast.ofString_ofList];rfl
theorem Cn(n:Nat):(Str.ofString (toString (Int.negSucc n))).cps.toList=45::W8 (n+1):=by
 show(Str.ofString ("-"++Nat.repr (n+1))).cps.toList=_;rw[PySem.Str.ofString_eq_toList,String.toList_append,Nat.repr_eq_ofList_toDigits];simp[W8]
theorem uP(i:Int)(h:i.natAbs < 10 ^ 100):intText? (Str.ofString (toString i))=some i:=by
 cases i with
 | ofNat n =>
  have e:(Str.ofString (toString (Int.ofNat n))).cps.toList=W8 n:=xH n;have l:(W8 n).length<=100:=(iY (by decide)).mpr h;rw[intText_digits (by rw[e];exact lN n) (by rw[e];exact sD n) (by show(Str.ofString (toString (Int.ofNat n))).cps.size<=4300;rw[<- Array.length_toList,e];omega),e,sE];rfl
 | negSucc n =>
  have e:=Cn n;have l:(W8 (n+1)).length<=100:=(iY (by decide)).mpr (by simpa[Int.natAbs] using h);rw[intText_neg e (lN _) (sD _) (by show(Str.ofString (toString (Int.negSucc n))).cps.size<=4300;rw[<- Array.length_toList,e];simp;omega),sE];rfl
noncomputable def eU:List Nat->List Nat
 | 45::r=>r
 | l=>l
noncomputable def kF(w:Str)(lo hi:Int):Bool :=
 let f:=eU w.cps.toList;decide (1<=f.length)&&decide (f.length<=(Str.ofString (toString (if hi > -lo then hi else -lo))).length)&&f.all (fun c=>decide (48<=c)&&decide (c<=57))&&!(decide (f[0]?=some 48)&&!decide (w = "0"))&&
  match intText? w with
  | some v=>decide (lo<=v)&&decide (v<=hi)
  | none=>false
theorem C4(w:Str):Txt.startswith w "-"=decide (w.cps.toList[0]?=some 45):=by
 rw[eP.2.2.1];have h:=StrLaws.subAt_one w 45 0;unfold Txt.startswith;rw[Bool.eq_iff_iff,Bool.and_eq_true,decide_eq_true_eq,decide_eq_true_eq];exact h
theorem BL(w:Str)(h:1<=w.length):(Txt.slice w (some 1) none).cps.toList=w.cps.toList.drop 1:=by
 have e:Txt.slice w (some 1) none=StrLaws.sliceText w (some 1) none:=rfl;rw[e,StrLaws.sliceText_from (i:=1) ⟨by decide,by simp only[Array.length_toList];exact Int.ofNat_le.mpr h⟩];simp only[Int.toNat_one];apply List.take_of_length_le;simp only[List.length_drop];omega
theorem Ma(w:Str):(if Txt.startswith w "-"=true then Txt.slice w (some 1) none else w).cps.toList=eU w.cps.toList:=by
 rw[C4];cases h:w.cps.toList with
 | nil =>
  simp only[List.getElem?_nil,reduceCtorEq,decide_false,Bool.false_eq_true,if_false];rw[h];rfl
 | cons c r =>
  simp only[List.getElem?_cons_zero,Option.some.injEq];by_cases hc:c=45
  ·subst hc;simp only[decide_true,if_true];rw[BL w (by show 1<=w.cps.size;rw[<- Array.length_toList,h];simp),h];rfl
  ·simp only[hc,decide_false,Bool.false_eq_true,if_false];rw[h];unfold eU;split
   ·next e=>simp only[List.cons.injEq] at e;exact absurd e.1 hc
   ·rfl
noncomputable def kL(C:Addr)(o:Option HO)(k:Addr->List (Str×V)->Prop)(_u:Tg k:=()):Prop:=match o with
 | some (.ins C' dx fs)=>C'=C/\k dx fs
 | _=>False
theorem oK{C:Addr}{o:Option HO}{k:Addr->List (Str×V)->Prop}(h:kL C o k):∃ dx fs,o=some (.ins C dx fs)/\k dx fs:=by
 unfold kL at h;split at h
 ·obtain⟨rfl,h⟩:=h;exact⟨_,_,rfl,h⟩
 ·exact h.elim
noncomputable def RX(C:Addr)(f:Str)(ta:TE):TE:=fun σ H Q=>ta σ H fun x H1=>bB x fun a=>kL C (H1 a) fun _ fs=>eM (fs.lookup f) fun v=>Q v H1
noncomputable def Nr(C:Addr)(f:Str)(ta tv:TE):TS:=fun D σ H=>tv σ H fun y H1=>ta σ H1 fun x H2=>bB x fun a=>kL C (H2 a) fun dx fs=>fs.length < 1000/\D.nx σ (WZ H2 a (.ins C dx (jR f y fs)))
noncomputable def Ni(C:Addr)(f:Str)(ta tv:TE):TS:=fun D σ H=>ta σ H fun x H1=>bB x fun a=>kL C (H1 a) fun _ fs=>eM (fs.lookup f) fun v=>tv σ H1 fun y H2=>fH v fun i=>fH y fun j=>kL C (H2 a) fun dx XY=>XY.length < 1000/\D.nx σ (WZ H2 a (.ins C dx (jR f (.int (i+j)) XY)))
section
variable {X:Cx} {o e value:Expr} {f:Str} {pos pos' aaI:Pos} {ta tv:TE} {C:Addr}
theorem tG(c:Cls X.K C)(n:kQ X.K C f)(he:PE X e ta)(hb:attributeBase e f X.env (eval e X.env)=eval e X.env:=by rfl):PE X (.Attribute e f pos) (RX C f ta):=fun WY s σ H Q I h=>by
 refine Le hb (thn (he WY s σ H _ I h) fun u s1 ⟨x,H1,I1,rx,q1⟩=>?_);obtain⟨a,rfl,q2⟩:=bN q1;obtain⟨dx,fs,ea,q3⟩:=oK q2;obtain⟨v,l,q⟩:=iP q3;obtain rfl:u=Value.ref a:=rx;exact y8 I1 ea c n l fun u' s2 I2 ru=>⟨v,H1,I2,ru,q⟩
theorem CT(c:Cls X.K C)(n:kQ X.K C f)(ha:PE X o ta)(hv:PE X value tv)(hs:swapsWith value (some (.Attribute o f pos')) pos.line X.env=pure false:=by rfl):PS X (.Assign [.Attribute o f pos'] value pos) (Nr C f ta tv):=fun WY s σ H D I h=>by
 refine plainObj_wpAny_Assign_Attribute (thn (hv WY s σ H _ I h) fun u s1 ⟨y,H1,I1,ry,q⟩=>thn (ha WY s1 σ H1 _ I1 q) fun ov s2 ⟨x,H2,I2,rx,q1⟩=>?_) hs;obtain⟨a,rfl,q2⟩:=bN q1;obtain⟨dx,fs,ea,l,q3⟩:=oK q2;obtain rfl:ov=Value.ref a:=rx;exact Av I2 ea c n l ry fun s3 I3=>⟨σ,_,I3,q3⟩
theorem xQ(c:Cls X.K C)(n:kQ X.K C f)(ha:PE X o ta)(hv:PE X value tv):PS X (.AugAssign (.Attribute o f aaI) .Add value pos) (Ni C f ta tv):=fun WY s σ H D I h=>by
 refine wpAny_AugAssign_AttributeAny (thn (ha WY s σ H _ I h) fun ov s1 ⟨x,H1,I1,rx,q1⟩=>?_);obtain⟨a,rfl,q2⟩:=bN q1;obtain⟨dx,fs,ea,q3⟩:=oK q2;obtain⟨v,l,q⟩:=iP q3;obtain rfl:ov=Value.ref a:=rx;refine y8 I1 ea c n l fun u s2 I2 ru=>thn (hv WY s2 σ H1 _ I2 q) fun w3 s3 ⟨y,H2,I3,ry,q4⟩=>?_;obtain⟨i,rfl,q5⟩:=eV q4;obtain⟨j,rfl,q6⟩:=eV q5;obtain⟨dx',XY,ea',l',q7⟩:=oK q6;refine thn (Qx WY s3 σ H2 (.int i) (.int j) u w3 (fun z H3=>z=.int (i+j)/\H3=H2) I3 ru ry ⟨i,j,rfl,rfl,rfl,rfl⟩) fun w4 s4 ⟨z,H3,I4,rz,ez,eH⟩=>?_;subst ez eH;exact Av I4 ea' c n l' rz fun s5 I5=>⟨σ,_,I5,q7⟩
end
section
variable {C a dx:Addr} {fs:List (Str×V)} {k:Addr->List (Str×V)->Prop} {m f:Str} {sp:Sp} {E:XK} {ta tv:TE} {t:TA} {σ:St} {H:Hp} {Q:VK} {D:Ends} {v u:V} {r:List (Str×V)}
theorem FQ{k:Addr->List (Str×V)->Prop}{u:Tg k}:@kL C (some (.ins C dx fs)) k u=k dx fs:=by simp[kL]
theorem SQ:RX C f ta σ H Q=ta σ H fun x H1=>bB x fun a=>kL C (H1 a) fun _ fs=>eM (fs.lookup f) fun v=>Q v H1:=rfl
theorem P9:Nr C f ta tv D σ H=tv σ H fun y H1=>ta σ H1 fun x H2=>bB x fun a=>kL C (H2 a) fun dx fs=>fs.length < 1000/\D.nx σ (WZ H2 a (.ins C dx (jR f y fs))):=rfl
theorem OR:Ni C f ta tv D σ H=ta σ H fun x H1=>bB x fun a=>kL C (H1 a) fun _ fs=>eM (fs.lookup f) fun v=>tv σ H1 fun y H2=>fH v fun i=>fH y fun j=>kL C (H2 a) fun dx XY=>XY.length < 1000/\D.nx σ (WZ H2 a (.ins C dx (jR f (.int (i+j)) XY))):=rfl
theorem PR:Gy C m sp [] E ta t σ H Q=ta σ H fun x H1=>bB x fun a=>kL C (H1 a) fun _ fs=>fs.lookup m=none/\t σ H1 fun vs H2=>sp (.ref a::vs) H2 Q E:=by
 unfold Gy
 congr 1
 funext x H1;refine propext ⟨fun⟨a,dx,fs,e,e1,l,h⟩=>?_,fun h=>?_⟩
 ·subst e;show kL C (H1 a) _;rw[e1,FQ];simp only[List.append_nil] at h;exact⟨l,h⟩
 ·obtain⟨a,rfl,h⟩:=bN h;obtain⟨dx,fs,e1,l,h⟩:=oK h;exact⟨a,dx,fs,rfl,e1,l,by simpa only[List.append_nil] using h⟩
theorem PQ:Ks C sp [] E t σ H Q=t σ H fun vs H1=>∀ x dx,H1 x=none->H1 dx=none->dx≠x->sp (.ref x::vs) (WZ (WZ H1 dx (.own x)) x (.ins C dx [])) (fun v H2=>v=.W3/\Q (.ref x) H2) E:=by
 unfold Ks;simp only[List.append_nil]
theorem JN{x y:String}:(Str.ofString x=Str.ofString y)=(x=y):=cF
theorem IX{x y:String}:List.lookup (Str.ofString x) ((Str.ofString y,v)::r)=if x=y then some v else List.lookup (Str.ofString x) r:=by
 by_cases h:x=y
 ·subst h;simp[List.lookup]
 ·have:(Str.ofString x==Str.ofString y)=false:=beq_eq_false_iff_ne.mpr fun z=>h (JN▸z);simp only[List.lookup,this,if_neg h]
theorem GY{x:Str}:List.lookup x ([]:List (Str×V))=none:=rfl
theorem P6{x y:String}:jR (Str.ofString x) u ((Str.ofString y,v)::r)=if y=x then (Str.ofString y,u)::r else (Str.ofString y,v)::jR (Str.ofString x) u r:=by
 rw[show jR (Str.ofString x) u ((Str.ofString y,v)::r)=(if Str.ofString y=Str.ofString x then (Str.ofString y,u)::r else (Str.ofString y,v)::jR (Str.ofString x) u r) from rfl];by_cases h:y=x
 ·rw[if_pos h,if_pos (by rw[h])]
 ·rw[if_neg h,if_neg fun z=>h (JN▸z)]
theorem LU{x:Str}:jR x u []=[(x,u)]:=rfl
end
noncomputable def Nb:List V->Option (List String)
 | []=>some []
 | .ty T::r=>(Nb r).map (T::·)
 | _=>none
noncomputable def GC(Ts:List String):Obj:={cls:=.type "tuple",data:=.seq (Ts.map Value.type).toArray}
noncomputable def Vd(t:TA):TE:=fun σ H Q=>t σ H fun xs H1=>eM (Nb xs) fun Ts=>xs.length<=sizeLine/\∀ p,H1 p=none->Q (.ref p) (WZ H1 p (.XB (GC Ts) (.tup xs)))
noncomputable def Uh:Option HO->Option String
 | some (.tup _)=>some "tuple"
 | some (.lst _)=>some "list"
 | _=>none
noncomputable def NB(H:Hp):V->Option String
 | .int _=>some "int"
 | .str _=>some "str"
 | .W3=>some "NoneType"
 | .bl _=>some "bool"
 | .ref p=>Uh (H p)
 | _=>none
noncomputable def Uc:String->String->Bool
 | "int","int"=>true
 | "bool","int"=>true
 | "str","str"=>true
 | "tuple","tuple"=>true
 | "list","list"=>true
 | _,_=>false
noncomputable def Sb:List V->Hp->VK->Prop:=fun vs H Q=>on2 vs fun x y=>bB y fun p=>∃ Ts xs,H p=some (.XB (GC Ts) (.tup xs))/\(Ts=["int","str"]\/Ts=["list","tuple"])/\eM (NB H x) fun kd=>Q (.bl (Ts.any (Uc kd))) H
section
variable {X:Cx}
end
section
variable {H:Hp} {Q:VK} {x:V} {p:Addr} {σ:St} {t:TA} {vs:List V} {i:Int} {z:Str} {b:Bool}
theorem Qo:Vd t σ H Q=t σ H fun xs H1=>eM (Nb xs) fun Ts=>xs.length<=sizeLine/\∀ p,H1 p=none->Q (.ref p) (WZ H1 p (.XB (GC Ts) (.tup xs))):=rfl
theorem Qp{S T:String}:Nb [.ty S,.ty T]=some [S,T]:=rfl
theorem Pu:Sb [x,.ref p] H Q = ∃ Ts xs,H p=some (.XB (GC Ts) (.tup xs))/\(Ts=["int","str"]\/Ts=["list","tuple"])/\eM (NB H x) fun kd=>Q (.bl (Ts.any (Uc kd))) H:=rfl
end
mutual
theorem AJ.mono{K:q0B}{H:Hp}:∀ {n m:Nat} {x y:V} {b:Bool},AJ K H n x y b->n<=m->AJ K H m x y b
 | _,_,_,_,_,.flat a b,_=>.flat a b
 | _,_,_,_,_,.same,_=>.same
 | _,_,_,_,_,.refs ne r,h=>.refs ne (vR.mono r h)
theorem vR.mono{K:q0B}{H:Hp}:∀ {n m:Nat} {a b:Addr} {r:Bool},vR K H n a b r->n<=m->vR K H m a b r
 | _,m+1,_,_,_,.list a b c d,h=>.list a b c fun j x y e1 e2=>AJ.mono (d j x y e1 e2) (by omega)
 | _,m+1,_,_,_,.Xp a b c,_=>.Xp a b c
 | _,m+1,_,_,_,.tup a b d,h=>.tup a b fun j x y e1 e2=>AJ.mono (d j x y e1 e2) (by omega)
 | _,0,_,_,_,.list _ _ _ _,h=>absurd h (by omega)
 | _,0,_,_,_,.Xp _ _ _,h=>absurd h (by omega)
 | _,0,_,_,_,.tup _ _ _,h=>absurd h (by omega)
end
theorem AJ.pair{K:q0B}{H:Hp}{n:Nat}{a b:Addr}{xs ys:List V}(e1:H a=some (.tup xs))(e2:H b=some (.tup ys))(hl:xs.length=ys.length)(he:∀(j:Nat) (x y:V),xs[j]?=some x->ys[j]?=some y->AJ K H n x y true):AJ K H (n+1) (.ref a) (.ref b) true:=by
 by_cases h:a=b
 ·subst h;exact .same
 ·have:=vR.tup (K:=K) (H:=H) (n:=n) (e:=fun _=>true) (hJ.of e1) (hJ.of e2) he;rw[show((List.range (min xs.length ys.length)).all (fun _=>true)&&xs.length==ys.length)=true by rw[hl];simp[List.all_eq_true]] at this;exact .refs h this
theorem dB{a b:Str}:Di (.str a) (.str b)=(a==b):=rfl
theorem gL{b:Str}:Di .W3 (.str b)=false:=rfl
theorem L9{a b:Int}:Di (.int a) (.int b)=(a==b):=rfl
theorem Km{K:q0B}{H:Hp}{n:Nat}(x:Str):AJ K H n (.str x) (.str x) true:=by
 have:=AJ.flat (K:=K) (H:=H) (n:=n) (x:=.str x) (y:=.str x) rfl rfl
 rwa [show Di (.str x) (.str x)=true by simp[dB]] at this
theorem Jp{K:q0B}{H:Hp}{n:Nat}(i:Int):AJ K H n (.int i) (.int i) true:=by
 have:=AJ.flat (K:=K) (H:=H) (n:=n) (x:=.int i) (y:=.int i) rfl rfl
 rwa [show Di (.int i) (.int i)=true by simp[L9]] at this
section
variable {X:Cx} {WY:List (Addr×Obj)} {σ:St} {H:Hp} {s:Shared} {a:Addr} {o:Obj} {W0:List (Key×V)}
end
noncomputable def NV(H₀:Hp)(D:Ends):Ends :=
 {nx:=fun σ H=>∃ a o W0,H a=some (.XB o (.dK W0))/\(∀ ob u,H₀ a≠some (.XB ob u))/\D.nx σ (WZ H a (.dK W0))
  bk:=fun σ H=>∃ a o W0,H a=some (.XB o (.dK W0))/\(∀ ob u,H₀ a≠some (.XB ob u))/\D.bk σ (WZ H a (.dK W0))
  ct:=fun σ H=>∃ a o W0,H a=some (.XB o (.dK W0))/\(∀ ob u,H₀ a≠some (.XB ob u))/\D.ct σ (WZ H a (.dK W0))
  rt:=fun v H=>∃ a o W0,H a=some (.XB o (.dK W0))/\(∀ ob u,H₀ a≠some (.XB ob u))/\D.rt v (WZ H a (.dK W0))}
noncomputable def Vb(H₀:Hp)(t:TS):TS:=fun D σ H=>t (NV H₀ D) σ H
noncomputable def VQ(ty td:TE):TE:=fun σ H Q=>ty σ H fun y H1=>td σ H1 fun x H2=>bB x fun a=>dH (H2 a) fun W0=>eM (nI y) fun k=>Q (.bl (dX W0 k).isSome) H2
noncomputable def OC(td ty:TE):TE:=fun σ H Q=>td σ H fun x H1=>bB x fun a=>dH (H1 a) fun _=>ty σ H1 fun y H2=>dH (H2 a) fun W0=>eM (nI y) fun k=>eM (dX W0 k) fun v=>Q v (WZ H2 a (.dK (Bs W0 k)))
noncomputable def OB(td ty tx:TE):TE:=fun σ H Q=>td σ H fun x H1=>bB x fun a=>dH (H1 a) fun _=>ty σ H1 fun y H2=>tx σ H2 fun z H3=>dH (H3 a) fun W0=>eM (nI y) fun k=>Q ((dX W0 k).getD z) H3
section
variable {X:Cx} {o e f:Expr} {apos W6:Pos} {td ty tx:TE}
noncomputable def Lf(td:TE):TE:=fun σ H Q=>td σ H fun x H1=>bB x fun a=>dH (H1 a) fun _=>Q .W3 (WZ H1 a (.dK []))
noncomputable def RT(td ty tx:TE):TE:=fun σ H Q=>td σ H fun x H1=>bB x fun a=>dH (H1 a) fun _=>ty σ H1 fun y H2=>tx σ H2 fun z H3=>dH (H3 a) fun W0=>eM (nI y) fun k=>W0.length < sizeLine /\
 (∀ v,dX W0 k=some v->Q v H3)/\(dX W0 k=none->Q z (WZ H3 a (.dK (k9 W0 k z))))
end
section
variable {td ty tx:TE} {σ:St} {H H₀:Hp} {Q:VK} {t:TS} {D:Ends} {v:V}
theorem Qf:Vb H₀ t D σ H=t (NV H₀ D) σ H:=rfl
theorem O3:VQ ty td σ H Q=ty σ H fun y H1=>td σ H1 fun x H2=>bB x fun a=>dH (H2 a) fun W0=>eM (nI y) fun k=>Q (.bl (dX W0 k).isSome) H2:=rfl
theorem LF:OC td ty σ H Q=td σ H fun x H1=>bB x fun a=>dH (H1 a) fun _=>ty σ H1 fun y H2=>dH (H2 a) fun W0=>eM (nI y) fun k=>eM (dX W0 k) fun v=>Q v (WZ H2 a (.dK (Bs W0 k))):=rfl
theorem IL:OB td ty tx σ H Q=td σ H fun x H1=>bB x fun a=>dH (H1 a) fun _=>ty σ H1 fun y H2=>tx σ H2 fun z H3=>dH (H3 a) fun W0=>eM (nI y) fun k=>Q ((dX W0 k).getD z) H3:=rfl
theorem IK:Lf td σ H Q=td σ H fun x H1=>bB x fun a=>dH (H1 a) fun _=>Q .W3 (WZ H1 a (.dK [])):=rfl
theorem LG:RT td ty tx σ H Q=td σ H fun x H1=>bB x fun a=>dH (H1 a) fun _=>ty σ H1 fun y H2=>tx σ H2 fun z H3=>dH (H3 a) fun W0=>eM (nI y) fun k=>W0.length < sizeLine/\(∀ v,dX W0 k=some v->Q v H3)/\(dX W0 k=none->Q z (WZ H3 a (.dK (k9 W0 k z)))):=rfl
end
noncomputable def RZ:V->V->Hp->VK->Prop:=fun x y H Q=>bB x fun p=>fH y fun i=>bX (H p) fun xs=>eM (nK xs i) fun v=>Q v H
noncomputable def VW:TIp:=fun x y H Q=>fH x fun i=>fH y fun j=>Q (.int (i+j)) H
section
variable {X:Cx}
end
noncomputable def U2(tab:List (Str×Sp))(tk:TE)(t:TA):TE:=fun σ H Q=>tk σ H fun y H1=>gX y fun x=>eM (tab.lookup x) fun sp=>t σ H1 fun vs H2=>sp vs H2 Q E0
section
variable {tab:List (Str×Sp)} {tk to ti te:TE} {t:TA} {σ:St} {H:Hp} {Q:VK} {D:Ends} {p:Addr} {i j:Int} {ZS:V->V->Hp->VK->Prop} {tip:TIp} {ZT:TSet}
theorem O0:U2 tab tk t σ H Q=tk σ H fun y H1=>gX y fun x=>eM (tab.lookup x) fun sp=>t σ H1 fun vs H2=>sp vs H2 Q E0:=rfl
theorem Pm:RZ (.ref p) (.int i) H Q=bX (H p) fun xs=>eM (nK xs i) fun v=>Q v H:=rfl
theorem SX:VW (.int i) (.int j) H Q=Q (.int (i+j)) H:=rfl
theorem OS:UY to ti te ZS tip ZT D σ H=to σ H fun o H1=>ti σ H1 fun i H2=>ZS o i H2 fun x H3=>te σ H3 fun y H4=>tip x y H4 fun z H5=>ZT o i z H5 fun H6=>D.nx σ H6:=rfl
theorem SH{i:Nat}{ti:TIp}:Wv i te ti D σ H = ∃ x,σ[i]?=some (some x)/\te σ H fun y H1=>ti x y H1 fun z H2=>D.nx (σ.set i (some z)) H2:=rfl
end
noncomputable def intKeys:List (Key×V)->Option (List Int)
 | []=>some []
 | (.inl i,_)::r=>(intKeys r).map (i::·)
 | _=>none
theorem fT.there{P:Program}{w:World}{H:Hp}{h:Heap}{a:Addr}{o:HO}(x:fT P w H h a o):∃ ob,h.get? a=some ob:=by
 cases o with
 | lst xs=>obtain⟨_,_,_,_,e⟩:=x;exact⟨_,e⟩
 | tup xs=>obtain⟨_,_,_,o,e,_⟩:=x;exact⟨_,e⟩
 | dK W0=>obtain⟨_,_,_,_,o,_,_,e,_⟩:=x;exact⟨_,e⟩
 | dT W0=>obtain⟨_,_,_,_,o,_,_,e,_⟩:=x;exact⟨_,e⟩
 | set S n=>obtain⟨o,_,_,_,e,_⟩:=x;exact⟨_,e⟩
 | ins C dx fs=>obtain⟨_,_,_,e,_⟩:=x;exact⟨_,e⟩
 | own y=>obtain⟨_,e⟩:=x;exact⟨_,e⟩
 | xd fs=>obtain⟨_,⟨_,_,_,e,_⟩,_⟩:=x;exact⟨_,e⟩
 | rng lo hi=>obtain⟨_,_,_,e⟩:=x;exact⟨_,e⟩
 | XB ob u=>obtain⟨e,_⟩:=x;exact⟨_,e⟩
 | Z9 ps=>exact⟨_,(show h.get? a=some _ from x)⟩
 | met f y=>exact⟨_,(show h.get? a=some _ from x)⟩
 | ext φ=>obtain⟨_,⟨_,e⟩,_⟩:=x;exact⟨_,e⟩
noncomputable def OH:List V->Hp->VK->Prop:=fun vs H Q=>on1 vs fun x=>bB x fun p=>dH (H p) fun W0=>eM (intKeys W0) fun ns=>ns.length < 64/\∀(l:Addr) (ns':List Int),H l=none->ns'.Perm ns->ns'.Pairwise (·<=·)->Q (.ref l) (WZ H l (.lst (ns'.map V.int)))
section
variable {H:Hp} {Q:VK} {p:Addr}
theorem LY:OH [.ref p] H Q=dH (H p) fun W0=>eM (intKeys W0) fun ns=>ns.length < 64/\∀(l:Addr) (ns':List Int),H l=none->ns'.Perm ns->ns'.Pairwise (·<=·)->Q (.ref l) (WZ H l (.lst (ns'.map V.int))):=rfl
end
section
variable {X:Cx} {WY:List (Addr×Obj)} {σ:St} {H:Hp} {s:Shared} {h':Heap}
end
noncomputable def SOk(t:Bool)(h:Heap)(a:Addr)(us:Array Value):Prop:=match t with
 | true=>h.IsTuple a us
 | false=>h.IsList a us
noncomputable def SIter(t:Bool)(h:Heap)(it a:Addr)(i:Nat):Prop:=match t with
 | true=>h.IsTupleIter it a i
 | false=>h.IsListIter it a i
noncomputable def UJ(t:Bool):String:=match t with
 | true=>"tuple_iterator"
 | false=>"list_iterator"
theorem SOk.keep{t:Bool}{h h':Heap}{a:Addr}{us:Array Value}(x:SOk t h a us)(e:∀ o,h.get? a=some o->h'.get? a=some o):SOk t h' a us:=by
 cases t<;>(obtain⟨o,ho,r⟩:=x;exact⟨o,e o ho,r⟩)
theorem SIter.keep{t:Bool}{h h':Heap}{it a:Addr}{i:Nat}(x:SIter t h it a i)(e:∀ o,h.get? it=some o->h'.get? it=some o):SIter t h' it a i:=by
 cases t<;>(obtain⟨o,ho,r⟩:=x;exact⟨o,e o ho,r⟩)
theorem SIter.obj{t:Bool}{h:Heap}{it a:Addr}{i:Nat}(x:SIter t h it a i):∃ o,h.get? it=some o/\∀ v,o.data≠.cell v:=by
 cases t<;>(obtain⟨o,ho,c,d⟩:=x;exact⟨o,ho,fun v z=>by rw[d] at z;cases z⟩)
section
variable {prog:Program} {w:World} {A:Around} {E:q0A} {s:Shared}
end
section
variable {prog:Program} {w:World} {A:Around} {E:q0A} {s:Shared}
noncomputable abbrev Zr(h:Heap)(t:Bool)(a:Addr):Heap:=h.push {cls:=.type (UJ t),data:=.fields #[.ref a,.int 0 0]}
noncomputable abbrev zs2(h:Heap)(t u:Bool)(a b:Addr):Heap:=Zr (Zr h t a) u b
noncomputable abbrev zs3(h:Heap)(t u:Bool)(a b:Addr):Heap:=(zs2 h t u a b).push {cls:=.type "tuple",data:=.seq #[.ref h.objs.size,.ref (Zr h t a).objs.size]}
noncomputable abbrev zs4(h:Heap)(t u:Bool)(a b:Addr):Heap:=(zs3 h t u a b).push {cls:=.type "tuple",data:=.seq #[.none,.none]}
end
noncomputable def HP(K:q0B)(t:Bool)(H:Hp)(a:Addr)(xs:List V):Prop:=match t with
 | true=>hJ K H a xs
 | false=>dZ K H a xs
section
variable {X:Cx} {WY:List (Addr×Obj)} {σ:St} {H:Hp} {s:Shared} {a:Addr} {xs ys:List V} {t:Bool}
end
noncomputable def Itz(K:q0B)(t u:Bool)(a b:Addr):It :=
  ⟨fun i H=>∃ xs ys x y,HP K t H a xs/\HP K u H b ys/\xs[i]?=some x/\ys[i]?=some y,
   fun i H v H'=>∃ p x y,H p=none/\v=.ref p/\H'=WZ H p (.tup [x,y])/\(∀ xs,HP K t H a xs->xs[i]?=some x)/\∀ ys,HP K u H b ys->ys[i]?=some y,
   fun i H=>∃ xs ys,HP K t H a xs/\HP K u H b ys/\(xs.length<=i\/ys.length<=i)⟩
noncomputable def Ite(K:q0B)(a:Addr):It :=
  ⟨fun i H=>∃ xs x,dZ K H a xs/\xs[i]?=some x,fun i H v H'=>∃ p x,H p=none/\v=.ref p/\H'=WZ H p (.tup [.int i,x])/\∀ xs,dZ K H a xs->xs[i]?=some x,
   fun i H=>∃ xs,dZ K H a xs/\xs.length<=i⟩
section
variable {X:Cx} {elts:List Expr} {k:Nat} {tp:Pos}
noncomputable def Qw(K:q0B)(ta:TA):TI:=fun σ H R=>ta σ H fun vs H1=>on2 vs fun x y=>bB x fun a=>bB y fun b=>∃ t u,(∃ xs,HP K t H1 a xs)/\(∃ ys,HP K u H1 b ys)/\R (Itz K t u a b) H1
noncomputable def Qu(K:q0B)(ta:TA):TI:=fun σ H R=>ta σ H fun vs H1=>on1 vs fun x=>bB x fun a=>(∃ xs,dZ K H1 a xs)/\R (Ite K a) H1
end
section
variable {σ:St} {H:Hp} {D:Ends} {g:TG} {tb:TS} {as:TA} {K:q0B}
theorem Pj:vP (Qw K as) g tb D σ H=as σ H fun vs H1=>on2 vs fun x y=>bB x fun a=>bB y fun b=>∃ t u,(∃ xs,HP K t H1 a xs)/\(∃ ys,HP K u H1 b ys)/\lp (Itz K t u a b) g tb D σ H1:=rfl
theorem Pe:vP (Qu K as) g tb D σ H=as σ H fun vs H1=>on1 vs fun x=>bB x fun a=>(∃ xs,dZ K H1 a xs)/\lp (Ite K a) g tb D σ H1:=rfl
end
structure Fz(X:Cx)(sc:Scope)(cl:List (Str×Addr))(x y0:Str)(fr:List Nat)(N:List Str):Prop where
 kind:sc.kind=.function
 zU:∀ y∈sc.names,y.2≠.cell
 names:∀ y∈sc.names,y.2=.local->sc.names.lookup y.1=some .local
 Dy:closureFor sc X.env=pure cl
 sub:∀ y c,cl.lookup y=some c->X.env.cells.lookup y=some c
 has:∀ y,((relabel sc X.env).names.lookup y=some .cell\/(relabel sc X.env).names.lookup y=some .free)->∃ c,cl.lookup y=some c
 Zx:sc.names.lookup x=some .local
 Vg:sc.names.lookup y0=some .local
 nd:N.Nodup
 N0:N=x::y0::fr.map fun j=>X.N.getD j x
 frc:∀ j∈fr,∃ y,X.N[j]?=some y/\X.env.kindOf y=some .cell/\((relabel sc X.env).names.lookup y=some .cell\/(relabel sc X.env).names.lookup y=some .free)
section
variable {X:Cx} {WY:List (Addr×Obj)} {σ:St} {H:Hp} {s:Shared} {sc:Scope} {cl:List (Str×Addr)} {C:Addr} {x y0:Str} {fr:List Nat} {N:List Str} {fp:List Addr}
end
@[irreducible] def C9(K:q0B)(wi:TI)(fr:List Nat)(tc:TT)(te:TE):TE:=fun σ H Q=>wi σ H fun J H1=>∃ W:Nat->Nat->List V->Hp->Prop,(∃ m,W 0 m [] H1)/\∀ i m xs H,W i m xs H->xs.length<=1000000 /\
  ((J.stop i H/\∀ p,H p=none->Q (.ref p) (WZ H p (.lst xs))) \/
   (J.go i H/\∀ v H',J.yld i H v H'->∃ p y y2,v=.ref p/\hJ K H' p [y,y2]/\tc (some y::some y2::bP fr σ) H' fun b H2=>if b=true then te (some y::some y2::bP fr σ) H2 (fun z H3=>∃ m',m' < m/\W (i+1) m' (xs++[z]) H3) else ∃ m',m' < m/\W (i+1) m' xs H2))
section
variable {X:Cx} {sc:Scope} {cl:List (Str×Addr)} {x y0:Str} {fr:List Nat} {N:List Str} {elt iter:Expr} {px py tp pos:Pos} {tk:Nat} {ifs:List Expr} {wi:TI} {tc:TT} {te:TE}
end
theorem Fz.of{X:Cx}{sc:Scope}{cl:List (Str×Addr)}{x y0:Str}{fr:List Nat}{N M:List Str}(S:eO X sc cl x fr M)(Vg:sc.names.lookup y0=some .local)(nd:N.Nodup)(N0:N=x::y0::fr.map fun j=>X.N.getD j x):Fz X sc cl x y0 fr N :=
 ⟨S.kind,S.zU,S.names,S.Dy,S.sub,S.has,S.Zx,Vg,nd,N0,S.frc⟩
noncomputable def lc2(K:q0B)(J:It)(fr:List Nat)(tc:TT)(te:TE)(σ:St)(H:Hp)(Q:VK):Prop:=∃ W:Nat->Nat->List V->Hp->Prop,(∃ m,W 0 m [] H)/\∀ i m xs H,W i m xs H->xs.length<=1000000 /\
  ((J.stop i H/\∀ p,H p=none->Q (.ref p) (WZ H p (.lst xs))) \/
   (J.go i H/\∀ v H',J.yld i H v H'->∃ p y y2,v=.ref p/\hJ K H' p [y,y2]/\tc (some y::some y2::bP fr σ) H' fun b H2=>if b=true then te (some y::some y2::bP fr σ) H2 (fun z H3=>∃ m',m' < m/\W (i+1) m' (xs++[z]) H3) else ∃ m',m' < m/\W (i+1) m' xs H2))
section
variable {fr:List Nat} {tc:TT} {te:TE} {σ:St} {H:Hp} {Q:VK} {as:TA} {K:q0B}
theorem IC:C9 K (Qw K as) fr tc te σ H Q=as σ H fun vs H1=>on2 vs fun x y=>bB x fun a=>bB y fun b=>∃ t u,(∃ xs,HP K t H1 a xs)/\(∃ ys,HP K u H1 b ys)/\lc2 K (Itz K t u a b) fr tc te σ H1 Q:=by
 unfold C9 Qw;rfl
theorem IB:C9 K (Qu K as) fr tc te σ H Q=as σ H fun vs H1=>on1 vs fun x=>bB x fun a=>(∃ xs,dZ K H1 a xs)/\lc2 K (Ite K a) fr tc te σ H1 Q:=by
 unfold C9 Qu;rfl
end
inductive r8:List DictEntry->List (Key×V)->Prop
 | nil:r8 [] []
 | cons {h:Int} {x:Str} {t:Tok} {u:Value} {v:V} {es:List DictEntry} {W0:List (Key×V)}:cA v u->r8 es W0->r8 ({hash:=h,key:=.str x t,val:=u}::es) ((.inr x,v)::W0)
noncomputable def Ih(d:Addr)(W0:List (Key×V)):List V->Hp->VK->Prop:=fun vs H Q=>vs=[.ref d]/\∀ p,H p=none->Q (.ref p) (WZ H p (.dK W0))
theorem r8.vals{P:Program}{w:World}{es:List DictEntry}{W0:List (Key×V)}(h:r8 es W0):∃ vs:List (Key×Value),KV W0 vs/\Pairs (gE P w) es vs:=by
 induction h with
 | nil=>exact⟨[],.nil,.nil⟩
 | @cons h x t u v es W0 r _ ih =>
  obtain⟨vs,a,b⟩:=ih;exact⟨(.inr x,u)::vs,.cons ⟨rfl,r⟩ a,.cons (wF P w x t) rfl b⟩
theorem LC{d:Addr}{W0:List (Key×V)}{H:Hp}{Q:VK}:Ih d W0 [.ref d] H Q = ∀ p,H p=none->Q (.ref p) (WZ H p (.dK W0)):=by simp[Ih]
noncomputable def Ml:Option HO->Option Bool
 | some (.lst _)=>some true
 | some (.tup _)=>some false
 | _=>none
noncomputable def Nl:List V->Hp->VK->Prop:=fun vs H Q=>on2 vs fun x y=>bB x fun p=>y=.ty "list"/\eM (Ml (H p)) fun b=>Q (.bl b) H
section
variable {X:Cx}
noncomputable def Sf(K:q0B):List V->Hp->VK->Prop:=fun vs H Q=>on1 vs fun x=>bB x fun p=>∃ xs,hJ K H p xs/\Q (.int xs.length) H
variable {o:Expr} {to:TE} {apos W6:Pos}
noncomputable def Lh(to:TE):TE:=fun σ H Q=>to σ H fun x H1=>bB x fun a=>bX (H1 a) fun _=>Q .W3 (WZ H1 a (.lst []))
end
section
variable {H:Hp} {Q:VK} {p:Addr} {σ:St} {to:TE} {vs:List V}
theorem Px:Nl [.ref p,.ty "list"] H Q=eM (Ml (H p)) fun b=>Q (.bl b) H:=by
 unfold Nl on2;simp only[bB,true_and]
theorem PN{K:q0B}:Sf K [.ref p] H Q = ∃ xs,hJ K H p xs/\Q (.int xs.length) H:=rfl
theorem S4:Ml (some (.lst vs))=some true:=rfl
theorem S5:Ml (some (.tup vs))=some false:=rfl
theorem IW:Lh to σ H Q=to σ H fun x H1=>bB x fun a=>bX (H1 a) fun _=>Q .W3 (WZ H1 a (.lst [])):=rfl
theorem Tc{a b:Bool}:ML (.bl a) (.bl b) H Q=Q (.bl (!decide (a=b))) H:=by simp only[ML,show scal (.bl a) (.bl b)=true from rfl,V.bl.injEq,true_and]
end
noncomputable def V3(K:q0B):List V->Hp->VK->Prop:=fun vs H Q=>on1 vs fun x=>bB x fun p=>∃ ns:List Int,dZ K H p (ns.map V.int)/\∀ z:Int,Q (.int z) H
noncomputable def RS(K:q0B):R2:=fun x y H Q=>bB x fun a=>bB y fun b=>∃ xs ys,dZ K H a xs/\dZ K H b ys/\xs.length+ys.length<=sizeLine/\∀ p,H p=none->Q (.ref p) (WZ H p (.lst (xs++ys)))
section
variable {X:Cx}
end
section
variable {K:q0B} {H:Hp} {Q:VK} {p a b:Addr}
theorem TK:V3 K [.ref p] H Q = ∃ ns:List Int,dZ K H p (ns.map V.int)/\∀ z:Int,Q (.int z) H:=rfl
theorem OV:RS K (.ref a) (.ref b) H Q = ∃ xs ys,dZ K H a xs/\dZ K H b ys/\xs.length+ys.length<=sizeLine/\∀ p,H p=none->Q (.ref p) (WZ H p (.lst (xs++ys))):=rfl
end
section
variable {X:Cx} {sc:Scope} {cl:List (Str×Addr)} {x y0:Str} {fr:List Nat} {N:List Str} {elt iter:Expr} {px px0 tp pos:Pos} {tk:Nat} {ifs:List Expr} {wi:TI} {tc:TT} {te:TE}
end
section
variable {a b:TS} {D:Ends} {σ:St} {H:Hp}
theorem aU(h:∀ R:St->Hp->Prop,(∀ σ' H',b D σ' H'->R σ' H')->a {D with nx:=R} σ H):Rr a b D σ H:=h (b D) fun _ _ x=>x
theorem Sl{wt:TT}{P R:Hp->Prop}(h:∀ P':Hp->Prop,(∀ H',P H'->P' H')->wt σ H fun b H'=>if b=true then P' H' else R H'):wt σ H fun b H'=>if b=true then P H' else R H':=h P fun _ x=>x
theorem Nv{tb:TS}{i:Nat}{v:V}(h:tb D (σ.set i (some v)) H):wB i v σ H fun σ2 H2=>tb D σ2 H2:=h
theorem Bx{K:q0B}{a:Addr}{xs:List V}{g:TG}{tb:TS}(Pv:Nat->St->Hp->Prop)(h0:Pv 0 σ H)(hl:∀ i σ H,i<=xs.length->Pv i σ H->dZ K H a xs)
    (hs:∀(D':Ends) i x σ H,D'.nx=Pv (i+1)->xs[i]?=some x->Pv i σ H->g x σ H fun σ2 H2=>tb D' σ2 H2) (hd:∀ σ H,Pv xs.length σ H->D.nx σ H):lp (YR K a) g tb D σ H :=
  DL Pv h0 hl (fun i x σ H e p=>hs _ i x σ H rfl e p) hd
end
structure Fl(P:Program)(w:World)(base:Heap)(outer:List Env)(H:Hp)(s:Shared)(H':Hp)(x:Addr)(cls:Value)(s':Shared):Prop where
 os:s'.os=s.os
 bare:AllBare s'.gens
 un:Un (frs outer) [] H H' s.heap s'.heap
 W5:HOk P w H' s'.heap
 YS:∃ B a0,Heap.FlyingW B outer x cls a0 s'.heap/\base.StaysIn B/\(∀ a o,H' a=some o->∃ ob,B.get? a=some ob) /\
  (∀ b o,s.heap.get? b=some o->H b=none->b∉frs outer->B.get? b=some o)/\∀ b o,s.heap.get? b=some o->b∉frs outer->∃ ob,B.get? b=some ob
 nx:H' x=none
noncomputable def Xq(P:Program)(w:World)(base:Heap):CXT:=fun outer H s E e s'=>∃ x cls H',e=.ref x/\Fl P w base outer H s H' x cls s'/\E cls none H'
section
variable {P:Program} {w:World} {K:q0B} {mg:q0C} {base:Heap} {N:List Str} {qual:Str} {scope:Scope} {f:Addr} {cd:Value} {A:Around} {outer:List Env} {s0 s s':Shared} {H0 H H':Hp} {E:XK} {WY:List (Addr×Obj)} {σ:St} {x:Addr} {cls a0:Value} {B h':Heap}
theorem HOk.Ji(x:HOk P w H' s'.heap)(b0:B.StaysIn s'.heap)(b1:B.StaysIn h')(b2:∀ a o,H' a=some o->∃ ob,B.get? a=some ob):HOk P w H' h':=fun a o e =>
  (x a o e).C5 (fun b u hb q=>by
    obtain⟨ob,Zc⟩:∃ ob,B.get? b=some ob:=by
      rcases hb with rfl|hb
      · exact b2 _ _ e
      · exact b2 _ _ hb
    have:=b0 b ob Zc;rw[q] at this;cases this;exact b1 b _ Zc) (fun _ q=>q) fun _ _ q=>q
theorem Fl.out(I:W1 (qB (Xq P w base) P w K mg base N qual scope f cd A outer s0 H0 E) WY σ H' s)(hs:∀ b o,s.heap.get? b=some o->(∀ vs,o.data≠.fields vs)->∃ sl,h'.get? b=some {o with slots:=sl})
    (fl:Heap.FlyingW B outer x cls a0 h') (bs:base.StaysIn B) (b2:∀ a o,H' a=some o->∃ ob,B.get? a=some ob) (W5:HOk P w H' h')
    (b3:∀ b o,s0.heap.get? b=some o->H0 b=none->b∉frs outer->B.get? b=some o) (b4:∀ b o,s0.heap.get? b=some o->b∉frs outer->∃ ob,B.get? b=some ob) (nx:H' x=none) :
    Fl P w base outer H0 s0 H' x cls {s with heap:=h'}:=by
  have slot:∀ b o,s0.heap.get? b=some o->H0 b=none->b∈frs outer->∃ sl,h'.get? b=some {o with slots:=sl}:=fun b o q n hb=>by
    obtain⟨sl,e⟩:=I.base.slot b o q n hb (by intro z;cases z);obtain⟨_,o',Xr,hn⟩:=I.qD.mem hb;rw[e] at Xr;cases Xr;obtain⟨sl',e'⟩:=hs b _ e hn;exact⟨sl',e'⟩
  refine⟨I.os,I.bare,⟨fun b o q n hb _=>fl.1 b o (b3 b o q n hb),fun b o q n hb _=>slot b o q n hb,fun b o q n _=>I.base.free b o q n (by intro z;cases z),fun b o q _=>?_,I.base.pB,I.base.nH,I.base.pA⟩,W5,⟨B,a0,fl,bs,b2,b3,b4⟩,nx⟩;by_cases hb:b∈frs outer
  · obtain⟨_,o',Xr,_⟩:=fl.2.2.1.mem hb;exact⟨o',Xr⟩
  · obtain⟨ob,Zc⟩:=b4 b o q hb;exact⟨ob,fl.1 b ob Zc⟩
theorem FV{env:Env}{L b:Addr}(h:env.frame=some L)(hb:b∈frs (env::outer)):b=L\/b∈frs outer:=by
 unfold frs at hb;rw[List.filterMap_cons,h] at hb;exact List.mem_cons.mp hb
theorem pass1{E1:XK}(h:∀ cls od G,E1 cls od G->E cls od G):Passes (Xq P w base) (qB (Xq P w base) P w K mg base N qual scope f cd A outer s0 H0 E) E1:=by
 intro WY σ H s e s' I hx;obtain⟨x,cls,H',rfl,F,hE⟩:=hx;obtain⟨B,a0,YS,bs,b2,b3,b4⟩:=F.YS;have I':W1 (qB (Xq P w base) P w K mg base N qual scope f cd A outer s0 H0 E) WY σ H' s':=I.FH F.os F.un F.W5 F.bare (by simp);have nL:∀ b o,s0.heap.get? b=some o->b∉frs outer->b∉frs (envOfC qual scope s0.heap.objs.size f cd::outer):=fun b o q hb z=>by
  rcases FV (L:=s0.heap.objs.size) rfl z with z|z
  ·exact absurd (Heap.lt_size q) (by rw[z];exact Nat.lt_irrefl _)
  ·exact hb z
 refine wpAny_leaves_onW (L:=s0.heap.objs.size) I.ok.frames rfl YS fun h' fl' up=>?_;refine⟨x,cls,H',rfl,Fl.out I' up fl' bs b2 (F.W5.Ji YS.1 fl'.1 b2) (fun b o q n hb=>?_) (fun b o q hb=>?_) F.nx,h _ _ _ hE⟩
 ·exact b3 b o (I.base.keep b o q n hb (by intro z;cases z)) (I.base.free b o q n (by intro z;cases z)) (nL b o q hb)
 ·obtain⟨o',Xr⟩:=I.base.there b o q (by intro z;cases z);exact b4 b o' Xr (nL b o q hb)
theorem raised1{args:List Value}(I:W1 (qB (Xq P w base) P w K mg base N qual scope f cd A outer s0 H0 E) WY σ H s)(hx:Heap.MadeExcOf s.heap h' x cls args)(hE:E cls none H) :
    (qB (Xq P w base) P w K mg base N qual scope f cd A outer s0 H0 E).xe (.ref x) {s with heap:=h'}:=by
  have nL:∀ b o,s0.heap.get? b=some o->b∉frs outer->b∉frs (envOfC qual scope s0.heap.objs.size f cd::outer):=fun b o q hb z=>by
    rcases FV (L:=s0.heap.objs.size) rfl z with z|z
    · exact absurd (Heap.lt_size q) (by rw[z];exact Nat.lt_irrefl _)
    · exact hb z
  have ZQ:=I.stack;have YK:∀ env∈(envOfC qual scope s0.heap.objs.size f cd::outer),∀ b,env.frame=some b->b∈frs (envOfC qual scope s0.heap.objs.size f cd::outer):=fun env he b hb=>List.mem_filterMap.mpr ⟨env,he,hb⟩;have bs:base.StaysIn (PySem.W.hideAll s.heap (frs (envOfC qual scope s0.heap.objs.size f cd::outer))):=fun b o q=>PySem.W.hideAll_get _ (I.bk b o q) fun hm=>by
    have:base.get? b=none:=(ZQ.mem hm).1;rw[q] at this;cases this
  have b2:∀ a o,H a=some o->∃ ob,(PySem.W.hideAll s.heap (frs (envOfC qual scope s0.heap.objs.size f cd::outer))).get? a=some ob:=fun a o e=>by
    obtain⟨ob,Zc⟩:=(I.W5 a o e).there;refine⟨ob,PySem.W.hideAll_get _ Zc fun hm=>?_⟩;rw[I.C6 a hm] at e;cases e
  have nx:H x=none:=by
    cases e:H x with
    | none=>rfl
    | some o =>
      obtain⟨ob,Zc⟩:=(I.W5 x o e).there;rw[hx.new] at Zc;cases Zc
  have I':W1 (qB (Xq P w base) P w K mg base N qual scope f cd A outer s0 H0 E) WY σ H {s with heap:=h'}:=I.kept (t':=s.toks) fun b o e=>hx.keeps b o e;refine wpAny_leaves_madeW (L:=s0.heap.objs.size) (h:=s.heap) I.ok.frames rfl (fun b o q=>PySem.W.of_hideAll _ q) (PySem.W.funFrames_hide ZQ YK) hx fun h2 t fl _ _ up=>?_;refine⟨x,cls,H,rfl,Fl.out I' up fl bs b2 (I'.W5.Ji (fun b o q=>hx.keeps b o (PySem.W.of_hideAll _ q)) fl.1 b2) (fun b o q n hb=>?_) (fun b o q hb=>?_) nx,hE⟩
  · exact PySem.W.hideAll_get _ (I.base.keep b o q n hb (by intro z;cases z)) (nL b o q hb)
  · obtain⟨o',Xr⟩:=I.base.there b o q (by intro z;cases z);exact⟨o',PySem.W.hideAll_get _ Xr (nL b o q hb)⟩
end
noncomputable def JJ(K:q0B)(C:Addr)(l:List Value):Bool:=match K.lookup C with
 | some ob=>(match ob.data with
  | .cls cd=>cd.mro==l
  | _=>false)
 | none=>false
noncomputable abbrev jC:List Value:=[.type "ValueError",.type "Exception",.type "BaseException",.type "object"]
structure XCls(K:q0B)(C:Addr)(bm:List Value):Prop where
 ok:PySem.W.excIn K C jC "ValueError.__new__"=true
 mro:JJ K C (.ref C::bm)=true
theorem XCls.obj{K:q0B}{h:Heap}{C:Addr}{bm:List Value}(x:XCls K C bm)(X:K.In h):∃ N nm q bs hdct sn sub ab col dd k0 k1 k2 k3 k5 mN,h.get? C=some (excClassObj nm q C N bs bm hdct sn sub ab col dd k0 k1 k2 k3 k5 "ValueError.__new__")/\h.Ns N mN/\mN "__init__"=none/\OwnTail h jC bm:=by
 obtain⟨ok,mro⟩:=x;unfold JJ at mro;unfold PySem.W.excIn at ok;split at ok
 ·next dct cdt slt lk =>
  rw[lk] at mro;have e1:=X C _ lk;split at ok
  ·next D l a0 a1 a2 a3 idn a5 e2 e3 =>
   simp only[Bool.and_eq_true,beq_iff_eq,Bool.not_eq_true'] at ok mro;obtain⟨⟨⟨⟨⟨rfl,rfl⟩,o3⟩,o4⟩,o5⟩,o6⟩:=ok;rw[e2] at mro;cases mro;obtain⟨c1,c2,c3,c4,c5,c6,c7,c8,c9,c10,c11⟩:=cdt;simp only at e2 o3 o5 o6;subst e2 o3;obtain⟨ls⟩:=slt;simp only at e3;subst e3;exact⟨c4,c1,c5,c2,c6,c7,c8,c9,c10,dct,a0,a1,a2,a3,a5,_,e1,.of_isNs (PySem.W.isNs_of_in X o5),PySem.W.nsMap_none_of_in X o5 o6,PySem.W.tail_of_in X o4⟩
  ·cases ok
 ·cases ok
noncomputable def Throws(X:Cx)(E:XK):Prop:=∀(WY:List (Addr×Obj)) (σ:St) (H:Hp) (s:Shared) (x:Addr) (cls:Value) (args:List Value) (h':Heap),W1 X WY σ H s->Heap.MadeExcOf s.heap h' x cls args->E cls none H->X.xe (.ref x) {s with heap:=h'}
theorem throws1{P:Program}{w:World}{K:q0B}{mg:q0C}{base:Heap}{N:List Str}{qual:Str}{scope:Scope}{f:Addr}{cd:Value}{A:Around}{outer:List Env}{s0:Shared}{H0:Hp}{E:XK}:Throws (qB (Xq P w base) P w K mg base N qual scope f cd A outer s0 H0 E) E :=
 fun _ _ _ _ _ _ _ _ I hx hE=>raised1 I hx hE
noncomputable def Kw(C:Addr)(E:XK)(t:TA):TS:=fun _ σ H=>t σ H fun vs H1=>vs.length<=100/\E (.ref C) none H1
theorem eF{X:Cx}{x:Str}{C:Addr}{bm:List Value}{E:XK}{e:Expr}{es:List Expr}{t:TA}{np W6 pos:Pos}(hX:Throws X E)(hc:X.calm=true)(hg:Gl X x)(hm:X.mg x=some (.ref C))(xc:XCls X.K C bm)(ha:PA X (e::es) t)
    (Yj:(x==("__debug__":Str))=false:=by decide) (he:starEach (e::es) X.env=(false,eval e X.env)::starEach es X.env:=by rfl) (Yc:(backTo W6 (starEach (e::es) X.env)).any (·.1)=false:=by rfl) (hb:backTo W6 (starEach (e::es) X.env)=(false,eval e X.env)::backTo W6 (starEach es X.env):=by rfl) :
    PS X (.Raise (some (.Call (.Name x np) (e::es) [] W6)) none pos) (Kw C E t):=by
  intro WY s σ H D I h;obtain⟨N,nm,q,bs,hdct,sn,sub,ab,col,dd,k0,k1,k2,k3,k5,mN,c1,c2,c3,c4⟩:=xc.obj I.ok.mod.kin;refine wpAny_Raise_call_subU (C:=C) (N:=N) (nm:=nm) (q:=q) (bs:=bs) (bm:=bm) (hdct:=hdct) (sn:=sn) (sub:=sub) (ab:=ab) (col:=col) (dd:=dd) (k0:=k0) (k1:=k1) (k2:=k2) (k3:=k3) (k5:=k5) (mN:=mN) (bmB:=jC) PySem.F.excBase_ValueError (by rfl) PySem.F.excBase_ValueError (c4.hasType (by rfl)) (I.ok.hd hc) Yc c3 (mI I hg hm ⟨rfl,?_⟩ Yj);have key:=thn (ha W6 WY s σ H _ I h) (Q':=fun vs s'=>vs.length<=sizeLine/\s'.heap.get? C=some (excClassObj nm q C N bs bm hdct sn sub ab col dd k0 k1 k2 k3 k5 "ValueError.__new__")/\s'.heap.Ns N mN/\OwnTail s'.heap jC bm/\∀ h' e,Heap.MadeExcOf s'.heap h' e (.ref C) vs->X.xe (.ref e) {s' with heap:=h'})
    fun vs s1 ⟨ws,H1,I1,r,l,q1⟩=>⟨by rw[<- r.length];exact Nat.le_trans l (by decide),I1.bk _ _ c1,c2.keeps I1.bk,c4.keeps I1.bk,fun h' e hm=>hX _ _ _ _ _ _ _ _ I1 hm q1⟩
  rw[hb] at key ⊢;exact PySem.Calls.evalArgs_plain (thn key fun vs s1 ⟨a,b,c,d,e⟩=>⟨rfl,a,b,c,d,e⟩)
noncomputable def AK(x C:Addr):HO:=.ext fun h=>∃ oe vs,h.get? x=some oe/\oe.cls=.ref C/\oe.data=.fields vs
noncomputable abbrev Cx.sui(X:Cx)(x:Addr):Cx:={X with A:=X.A.mark (some (.ref x)),calm:=false,xe:=fun _ _=>False}
section
variable {X:Cx} {WY:List (Addr×Obj)} {σ:St} {H H':Hp} {s s':Shared} {x C:Addr} {h':Heap}
theorem Cx.Ok.sui(ok:X.Ok)(x:Addr):(X.sui x).Ok :=
 ⟨ok.mod,ok.kind,ok.glob,ok.blt,ok.above,ok.inj,ok.has,ok.cab,(fun z=>by cases z),ok.frames,ok.ZQ,ok.exf,ok.bs,ok.bsz,ok.E6,ok.G8,ok.qD,ok.frf⟩
theorem W1.sui(I:W1 X WY σ H s)(x:Addr):W1 (X.sui x) WY σ H s:=⟨I.ok.sui x,I.os,I.bare,I.base,I.loc,I.cell,I.free,I.kI,I.pin,I.W5,I.len⟩
theorem W1.Vj(ok:X.Ok)(I:W1 (X.sui x) WY σ H s):W1 X WY σ H s:=⟨ok,I.os,I.bare,I.base,I.loc,I.cell,I.free,I.kI,I.pin,I.W5,I.len⟩
theorem W1.Vi{o:HO}(I:W1 X WY σ H s)(h0:X.s₀.heap.get? x=none)(hn:H x=none)(nL:x≠X.env.locals)(nC:∀ y c,X.env.cells.lookup y=some c->c≠x)(nP:∀ p∈X.pn++WY,p.1≠x)(new:fT X.prog X.w (WZ H x o) s.heap x o):W1 X WY σ (WZ H x o) s:=by
 have ne:∀ b ob,X.s₀.heap.get? b=some ob->b≠x:=fun b ob e z=>by rw[z,h0] at e;cases e
 have nt:∀ b u,H b=some u->b≠x:=fun b u e=>aL e hn;refine⟨I.ok,I.os,I.bare,⟨I.base.keep,I.base.slot,fun b ob e n hx=>by rw[aV (ne b ob e)];exact I.base.free b ob e n hx,I.base.there,fun b xs e=>by have:=I.base.pB b xs e;rw[aV (nt b _ this)];exact this,fun b ob u e=>by have:=I.base.nH b ob u e;rw[aV (nt b _ this)];exact this,fun b ps e=>by
  obtain⟨m,q⟩:=I.base.pA b ps e;exact⟨m,by rw[aV (nt b _ q)];exact q⟩⟩,I.loc,I.cell,by rw[aV nL.symm];exact I.free,fun y c e=>by rw[aV (nC y c e)];exact I.kI y c e,fun p hp=>?_,fun b u e=>?_,I.len⟩
 ·obtain⟨a,b,c⟩:=I.pin p hp;exact⟨a,by rw[aV (nP p hp)];exact b,c⟩
 ·by_cases hb:b=x
  ·subst hb;rw[aE] at e;cases e;exact new
  ·rw[aV hb] at e;exact(I.W5 b u e).C5 (fun _ _ _ q=>q) (fun c q=>by rw[aV (nt c _ q)];exact q) fun c xs q=>by rw[aV (nt c _ q)];exact q
theorem W1.gone{j:Nat}{y:Str}{m:q0C}{v:Option Value}{t':Nat}(I:W1 X WY σ H s)(hN:X.N.Nodup)(hj:X.N[j]?=some y)(hm:s.heap.Ns X.env.locals m)(hn:h'.Ns X.env.locals (fun z=>if z=y then v else m z))(hs:Heap.SameBut X.env.locals s.heap h') :
    W1 X WY (σ.set j none) H {s with heap:=h',toks:=t'}:=by
  obtain⟨m',hm',hl⟩:=id I.loc;obtain⟨oL,_,_,hoL,_⟩:=id hm;have up:∀ b ob,X.s₀.heap.get? b=some ob->b≠X.env.locals:=fun b ob e=>Nat.ne_of_lt (Nat.lt_of_lt_of_le (Heap.lt_size e) I.ok.above);have em:m'=m:=by
    obtain⟨o1,es1,ep1,a1,a2,_,a4⟩:=hm';obtain⟨o2,es2,ep2,b1,b2,_,b4⟩:=hm;rw[a1] at b1;cases b1;rw[a2] at b2;cases b2;funext z;rw[<- a4,<- b4]
  subst em;refine⟨I.ok,I.os,I.bare,⟨fun b o e n hb hx=>(hs.2 b (up b o e)).trans (I.base.keep b o e n hb hx),fun b o e n hb hx=>?_,I.base.free,fun b o e hx=>?_,I.base.pB,I.base.nH,I.base.pA⟩,⟨_,hn,fun i z w e1 e2 e3=>?_⟩,fun z c e=>?_,I.free,I.kI,fun p hp=>?_,fun b ob e=>?_,by simpa using I.len⟩
  · obtain⟨sl,q⟩:=I.base.slot b o e n hb hx;exact⟨sl,(hs.2 b (up b o e)).trans q⟩
  · obtain⟨o',q⟩:=I.base.there b o e hx;exact⟨o',(hs.2 b (up b o e)).trans q⟩
  · have hi:i≠j:=fun z=>by
      subst z;by_cases XO:i < σ.length
      · rw[List.getElem?_set_self XO] at e2;cases e2
      · rw[List.getElem?_eq_none (by simpa using XO)] at e2;cases e2
    rw[List.getElem?_set_ne (Ne.symm hi)] at e2;obtain⟨u,r,q⟩:=hl i z w e1 e2 e3;refine⟨u,r,?_⟩;rcases q with⟨k,q⟩|⟨k,c,q1,q2⟩
    · refine .inl ⟨k,?_⟩;show(if z=y then v else m' z)=some u;rw[if_neg (fun zy:z=y=>hi (zV hN e1 (by rw[zy];exact hj)))];exact q
    · exact .inr ⟨k,c,q1,q2.sameBut hs (I.ZC z c q1)⟩
  · obtain⟨w,q⟩:=I.cell z c e;exact⟨w,q.sameBut hs (I.ZC z c e)⟩
  · obtain⟨a,b,c,d⟩:=I.pin p hp;exact⟨(hs.2 p.1 c).trans a,b,c,d⟩
  · refine(I.W5 b ob e).C5 (fun c u hc q=>(hs.2 c ?_).trans q) (fun _ q=>q) fun _ _ q=>q;rintro rfl;rcases hc with rfl|hc
    · rw[I.free] at e;cases e
    · rw[I.free] at hc;cases hc
end
theorem Fl.move{P:Program}{w:World}{base:Heap}{outer:List Env}{H:Hp}{s:Shared}{H':Hp}{x:Addr}{cls:Value}{s':Shared}(F:Fl P w base outer H s H' x cls s'){B h':Heap}{a0:Value}(YS:Heap.FlyingW B outer x cls a0 s'.heap)(bs:base.StaysIn B)(b2:∀ a o,H' a=some o->∃ ob,B.get? a=some ob)
    (b3:∀ b o,s.heap.get? b=some o->H b=none->b∉frs outer->B.get? b=some o) (b4:∀ b o,s.heap.get? b=some o->b∉frs outer->∃ ob,B.get? b=some ob) (Y4:Heap.FlyingW B outer x cls a0 h') (up:s'.heap.UpToSlots h'):Fl P w base outer H s H' x cls {s' with heap:=h'}:=by
  refine⟨F.os,F.bare,⟨fun b o q n hb _=>Y4.1 b o (b3 b o q n hb),fun b o q n hb hx=>?_,F.un.free,fun b o q hx=>?_,F.un.pB,F.un.nH,F.un.pA⟩,F.W5.Ji YS.1 Y4.1 b2,⟨B,a0,Y4,bs,b2,b3,b4⟩,F.nx⟩
  · obtain⟨sl,e⟩:=F.un.slot b o q n hb hx;obtain⟨_,o',Xr,hn⟩:=YS.2.2.1.mem hb;rw[e] at Xr;cases Xr;obtain⟨sl',e'⟩:=up b _ e hn;exact⟨sl',e'⟩
  · by_cases hb:b∈frs outer
    · obtain⟨_,o',Xr,_⟩:=Y4.2.2.1.mem hb;exact⟨o',Xr⟩
    · obtain⟨ob,Zc⟩:=b4 b o q hb;exact⟨ob,Y4.1 b ob Zc⟩
section
variable {M:Model} {A:Around} {E:q0A} {h:Heap} {g:Array GenState} {d:Drawn} {t:Nat} {os:OsState}
theorem GZ{Q:Bool->Shared->Prop}{e C D:Addr}{oe:Obj}{nm q nm' q':Str}{N N':Addr}{bs bm bs' bm':List Value}{hdct Z1:Bool}{sn sn':List Str}{sub abG:List Value}{ab ab':Bool}{col aaR:Option Bool}{dd dd':Option Addr}{k0 k1 k2 k3 k5 j0 j1 j2 j3 j5:Option Value}{i1 i2:String}
    (hC:h.get? C=some (excClassObj nm q C N bs bm hdct sn sub ab col dd k0 k1 k2 k3 k5 i1)) (hD:h.get? D=some (excClassObj nm' q' D N' bs' bm' Z1 sn' abG ab' aaR dd' j0 j1 j2 j3 j5 i2)) (he:h.get? e=some oe) (aaC:oe.cls=.ref C)
    (hb:(Value.ref D::bm').contains (.type "BaseException")=true) (hs:(Value.ref C::bm).contains (.ref D)=true) (hq:Q true ⟨h,g,d,t,os⟩):wpAny M A (excMatches (.ref e) (.ref D)) Q E ⟨h,g,d,t,os⟩:=by
  have f:=tc_notTuple;unfold excMatches
  repeat (first|(with_reducible refine wpAny_loadPart_at he ?_;rw[aaC])|with_reducible refine wpAny_loadPart_at hD ?_|(with_reducible refine wpAny_isSubtype_exc hD ?_;rw[hb])|(with_reducible refine wpAny_isSubtype_exc hC ?_;rw[hs])|wp_step)
  exact hq
end
section
variable {X:Cx} {WY:List (Addr×Obj)} {σ:St} {H H':Hp} {s s':Shared} {x C Dc:Addr} {bm bmD:List Value} {j:Nat} {n cx:Str} {b0:Stmt} {Xv:List Stmt} {np hp:Pos} {ts:TS} {D0:Ends}
noncomputable abbrev Gm(D0:Ends)(j:Nat):Ends:={nx:=fun σ' G=>D0.nx (σ'.set j none) G,rt:=fun _ _=>False}
theorem caught1(I:W1 X WY σ H s)(F:Fl X.prog X.w X.base X.stack H s H' x (.ref C) s')(X6:X.stack=X.env::X.outer/\X.env.frame=some X.env.locals)(hN:X.N.Nodup)(hj:X.N[j]?=some n)(hl:X.env.kindOf n=some .local)(hg:Gl X cx)(hm:X.mg cx=some (.ref Dc))(xC:XCls X.K C bm)(xD:XCls X.K Dc bmD)
    (hCD:(Value.ref C::bm).contains (.ref Dc)=true) (hsu:Yb (X.sui x) (b0::Xv) ts) (q:ts (Gm D0 j) (σ.set j (some (.ref x))) (WZ H' x (AK x C))) (Yj:(cx==("__debug__":Str))=false) (hex:X.ex=[]) :
    wpAny (model X.prog X.w) X.A (noteFrame (.ref x) X.env) (fun _ s₂=>wpAny (model X.prog X.w) X.A (setFlight (.ref x) none) (fun _ s₃=>wpAny (model X.prog X.w) X.A (handleBy (.ref x) X.env [.ExceptHandler (some (.Name cx np)) (some n) (b0::Xv) hp]) (SP X WY D0) X.xe s₃) X.xe s₂) X.xe s':=by
  obtain⟨B,a0,YS,bs,b2,b3,b4⟩:=F.YS;obtain⟨N,nm,q1,bs1,hdct,sn,sub,ab,col,dd,k0,k1,k2,k3,k5,mN,c1,c2,c3,c4⟩:=xC.obj I.ok.mod.kin;obtain⟨N',nm',q2,bs2,Z1,sn',abG,ab',aaR,dd',j0,j1,j2,j3,j5,mN',d1,d2,d3,d4⟩:=xD.obj I.ok.mod.kin;have fl0:Heap.FlyingW B (X.env::X.outer) x (.ref C) a0 s'.heap:=by rw[<- X6.1];exact YS
  refine wpAny_looks_onW (L:=X.env.locals) (by rw[I.ok.frames,X6.1]) X6.2 fl0 fun h4 held up4=>?_;refine wpAny_landsW held fun h5 aaB up5=>?_;have fl5:Heap.FlyingW B X.stack x (.ref C) a0 h5:=by rw[X6.1];exact aaB
  have F5:=F.move YS bs b2 b3 b4 fl5 (up4.trans up5);have I5:W1 X WY σ H' {s' with heap:=h5}:=I.FH F5.os F5.un F5.W5 F5.bare (by simp);obtain⟨oe,hoe,Zu⟩:=aaB.there;refine wpAny_handleBy_cons (codeAny_handlers_test (mI (X:=X.sui x) (I5.sui x) hg hm ?_ Yj)) (by intro z;cases z);refine GZ (I5.bk _ _ c1) (I5.bk _ _ d1) hoe Zu (by rw[List.contains_cons,show bmD.contains (Value.type "BaseException")=true from d4.hasType (by rfl),Bool.or_true]) hCD ?_;refine codeAny_handlers_suite_as ?_;refine lands_againW aaB fun h6 aaU up6=>?_;have fl6:Heap.FlyingW B X.stack x (.ref C) a0 h6:=by rw[X6.1];exact aaU
  have F6:=F5.move fl5 bs b2 b3 b4 fl6 up6;have I6:W1 X WY σ H' {s' with heap:=h6}:=I.FH F6.os F6.un F6.W5 F6.bare (by simp);obtain⟨oe6,vs6,_,_,_,he6,hc6,hd6,_⟩:=id aaU.2.2.2;have nf:x∉frs X.stack:=fun z=>by
    obtain⟨_,o',Xr,hn'⟩:=fl6.2.2.1.mem z;rw[he6] at Xr;cases Xr;exact hn' _ hd6
  have nB:∀ b ob,s.heap.get? b=some ob->b≠x:=fun b ob e z=>by
    subst z;obtain⟨o',Xr⟩:=b4 b ob e nf;rw[YS.2.1] at Xr;cases Xr
  have It:W1 X WY σ (WZ H' x (AK x C)) {s' with heap:=h6}:=by
    refine I6.Vi ?_ F.nx ?_ (fun y c e z=>?_) (fun p hp z=>?_) ?_
    · cases e:X.s₀.heap.get? x with
      | none=>rfl
      | some o0 =>
        have h0:x∉X.ex:=by rw[hex];exact List.not_mem_nil
        obtain⟨o',Xr⟩:=I.base.there x o0 e h0;exact absurd rfl (nB x o' Xr)
    · intro z;exact nf (by rw[X6.1,z];unfold frs;rw[List.filterMap_cons,X6.2];exact List.mem_cons_self)
    · obtain⟨v,o1,ho1,_⟩:=I.cell y c e;exact nB c o1 ho1 z
    · exact nB p.1 p.2 (I.pin p hp).1 z
    · exact⟨⟨oe6,vs6,he6,hc6.1,hd6⟩,⟨oe6,he6⟩,fun h1 h2 ⟨o1,v1,a1,a2,a3⟩ k=>⟨o1,v1,k _ a1,a2,a3⟩⟩
  refine tT (X:=X.sui x) (i:=j) (v:=.ref x) (It.sui x) hN hj (.inl hl) rfl (fun s6 Is=>?_) (.inr hl);refine wpAny_mono (hsu WY s6 _ _ _ Is q) (fun f s7 hs=>?_) (fun _ _ z=>z.elim);cases f with
  | next =>
    obtain⟨σ',H'',J,q'⟩:=hs;have J':=J.Vj I.ok;obtain⟨m,hm',_⟩:=id J'.loc;exact wpAny_nameGoes_keeps hl hm' (by rw[I.ok.kind];rfl) fun h8 v hn hs=>⟨σ'.set j none,H'',J'.gone hN hj hm' hn hs,q'⟩
  | ret u=>obtain⟨_,_,_,_,_,z⟩:=hs;exact z.elim
  | brk=>obtain⟨_,_,_,z⟩:=hs;exact z.elim
  | cont=>obtain⟨_,_,_,z⟩:=hs;exact z.elim
end
noncomputable def Ky(sp:Sp)(Xt:List V)(t:TA)(i j:Nat)(C:Addr)(ts:TS):TS:=fun D σ H=>t σ H fun vs H1=>sp (vs++Xt) H1 (fun v H2=>D.nx (σ.set i (some v)) H2) fun cls _ H2=>cls=.ref C/\∀ x,H2 x=none->ts (Gm D j) (σ.set j (some (.ref x))) (WZ H2 x (AK x C))
section
variable {X:Cx} {k:Nat} {f C Dc:Addr} {fd:FuncData} {ps:List Str} {sp:Sp} {Xt:List V} {ds:List Value} {bm bmD:List Value} {i j:Nat} {y n cx fx:Str} {b0:Stmt} {Xv:List Stmt} {np hp yp fp cp ap pos:Pos} {ts:TS} {e:Expr} {es:List Expr} {t:TA}
noncomputable abbrev Ny(X:Cx)(WY:List (Addr×Obj))(cx n:Str)(b0:Stmt)(Xv:List Stmt)(np hp:Pos)(D0:Ends):Value->Shared->Prop:=fun e s₁=>wpAny (model X.prog X.w) X.A (noteFrame e X.env) (fun _ s₂=>wpAny (model X.prog X.w) X.A (setFlight e none) (fun _ s₃=>wpAny (model X.prog X.w) X.A (handleBy e X.env [.ExceptHandler (some (.Name cx np)) (some n) (b0::Xv) hp]) (SP X WY D0) X.xe s₃) X.xe s₂) X.xe s₁
theorem Kz{WY:List (Addr×Obj)}{σ:St}{H:Hp}{s:Shared}{Q:VK}{D0:Ends}(F:bR X.prog X.w X.K X.mg X.base (Xq X.prog X.w X.base) k f fd ps sp)(hr:Room k X.A)(hgf:Gl X fx)(hmf:X.mg fx=some (.ref f))(hk:PySem.W.keepIn X.K (.ref f)=true)(hb:Binds X.K fd ps ds)(hd:Vals Xt ds)
    (ha:∀ E,PA (X.rX E) (e::es) t) (X6:X.stack=X.env::X.outer/\X.env.frame=some X.env.locals) (hN:X.N.Nodup) (hj:X.N[j]?=some n) (hl:X.env.kindOf n=some .local) (hg:Gl X cx) (hm:X.mg cx=some (.ref Dc)) (xC:XCls X.K C bm) (xD:XCls X.K Dc bmD) (hCD:(Value.ref C::bm).contains (.ref Dc)=true) (hsu:∀ x,Yb (X.sui x) (b0::Xv) ts)
    (ZH:(fx==("__debug__":Str))=false) (Yj:(cx==("__debug__":Str))=false) (hex:X.ex=[]) (he:starEach (e::es) X.env=(false,eval e X.env)::starEach es X.env) (Yc:(backTo cp (starEach es X.env)).any (·.1)=false) (I:W1 X WY σ H s)
    (h:t σ H fun vs H1=>sp (vs++Xt) H1 Q fun cls _ H2=>cls=.ref C/\∀ x,H2 x=none->ts (Gm D0 j) (σ.set j (some (.ref x))) (WZ H2 x (AK x C))) :
    wpAny (model X.prog X.w) X.A (eval (.Call (.Name fx fp) (e::es) [] cp) X.env) (EP X WY σ Q) (Ny X WY cx n b0 Xv np hp D0) s:=by
  refine wpAny_Call_Name_kw (mI I hgf hmf ?_ ZH);refine PySem.W.callWith_K (h₀:=X.base) I.ok.mod.kin hk (thn (ha (Ny X WY cx n b0 Xv np hp D0) cp WY s σ H _ (I.rX _) h) fun us s1 ⟨vs,H1,I1,r,q⟩=>⟨I1.jH.kIn,?_⟩) he Yc;have I1:=I1.jH;have r2:Vals (vs++Xt) (us++ds):=r.append hd;have hlen:(us++ds).length=ps.length:=by rw[<- r2.length];exact F.len _ _ _ _ q
  refine wpAny_call (codeAny_mono (F.run X.A X.stack s1 H1 ⟨us,[]⟩ (us++ds) (vs++Xt) _ _ hr I1.Qq (hb s1 us I1.kIn hlen) r2 q) fun r s' hq=>?_);cases r with
  | error e1 =>
    obtain⟨x,cls,H',rfl,Fx,rfl,hts⟩:=hq;exact caught1 I1 Fx X6 hN hj hl hg hm xC xD hCD (hsu x) (hts x Fx.nx) Yj hex
  | ok fl =>
    cases fl with
    | ret u=>exact I1.after hq
    | next=>exact False.elim hq
    | brk=>exact False.elim hq
    | cont=>exact False.elim hq
theorem MG(F:bR X.prog X.w X.K X.mg X.base (Xq X.prog X.w X.base) k f fd ps sp)(hr:Room k X.A)(hgf:Gl X fx)(hmf:X.mg fx=some (.ref f))(hk:PySem.W.keepIn X.K (.ref f)=true)(hb:Binds X.K fd ps ds)(hd:Vals Xt ds)
    (ha:∀ E,PA (X.rX E) (e::es) t) (hN:X.N.Nodup) (hi:X.N[i]?=some y) (hy:Loc X.env.scope y) (hj:X.N[j]?=some n) (hg:Gl X cx) (hm:X.mg cx=some (.ref Dc)) (xC:XCls X.K C bm) (xD:XCls X.K Dc bmD) (hCD:(Value.ref C::bm).contains (.ref Dc)=true) (hsu:∀ x,Yb (X.sui x) (b0::Xv) ts)
    (hl:X.env.kindOf n=some .local:=by rfl) (X6:X.stack=X.env::X.outer/\X.env.frame=some X.env.locals:=by exact⟨rfl,rfl⟩) (ZH:(fx==("__debug__":Str))=false:=by decide) (Yj:(cx==("__debug__":Str))=false:=by decide) (hex:X.ex=[]:=by rfl) (he:starEach (e::es) X.env=(false,eval e X.env)::starEach es X.env:=by rfl) (Yc:(backTo cp (starEach es X.env)).any (·.1)=false:=by rfl)
    (hs:swapsWith (.Call (.Name fx fp) (e::es) [] cp) (some (.Name y yp)) ap.line X.env=pure false:=by rfl) (hf:X.fn y=true\/X.env.scope.names.lookup y=some .local:=by first|exact .inl rfl|exact .inr rfl|assumption) :
    PS X (.Try [.Assign [.Name y yp] (.Call (.Name fx fp) (e::es) [] cp) ap] [.ExceptHandler (some (.Name cx np)) (some n) (b0::Xv) hp] [] [] pos) (Ky sp Xt t i j C ts):=by
  intro WY s σ H D I h;refine wpAny_Try_except (wpAny_execs_cons (wpAny_Assign_Name (thn (Kz (D0:=D) F hr hgf hmf hk hb hd ha X6 hN hj hl hg hm xC xD hCD hsu ZH Yj hex he Yc I h) fun v s1 ⟨z,H1,I1,r1,q1⟩=>?_) hs));exact tT I1 hN hi hy r1 (fun s2 I2=>wpAny_execs_nil (wpAny_execs_nil ⟨_,H1,I2,q1⟩)) hf
end
noncomputable def gG(K:q0B)(n:Str):List Value->Bool
 | .ref a::r=>(match K.lookup a with
  | some ob=>(match ob.data with
   | .cls cd=>PySem.W.nsIn K cd.ns n==some none
   | _=>false)
  | none=>false)&&gG K n r
 | _=>true
section
variable {K:q0B} {M:Model} {A:Around} {E:q0A} {h:Heap} {g:Array GenState} {d:Drawn} {t:Nat} {os:OsState} {n:Str} {y:Option Value} {Q:Option Value->Shared->Prop} {C:Addr} {bm:List Value}
theorem BH{a:Addr}{c0:Value}{dd:Option Addr}{cd:ClassData}{sl:Array (Option Value)}{mA:q0C}(X:K.In h)(ha:h.get? a=some {cls:=c0,dict:=dd,data:=.cls cd,slots:=sl})(hN:h.Ns cd.ns mA){r:List Value}(q:gG K n (.ref a::r)=true):mA n=none/\gG K n r=true:=by
 simp only[gG,Bool.and_eq_true] at q;refine⟨?_,q.2⟩;have q1:=q.1;split at q1
 ·next ob lk =>
  have e:=X _ _ lk;rw[ha] at e;cases e;simp only[beq_iff_eq] at q1;exact PySem.W.ns_none_of X hN q1
 ·cases q1
theorem EU{l:List Value}(X:K.In h)(T:OwnTail h jC l)(q:gG K n l=true)(hr:lookupAlong jC n=pure y)(hq:Q y ⟨h,g,d,t,os⟩):wpAny M A (lookupAlong l n) Q E ⟨h,g,d,t,os⟩:=by
 induction T with
 | base=>rw[hr];exact wpAny_pure hq
 | own hA hN _ _ ih =>
  obtain⟨q1,q2⟩:=BH X hA hN q;rw[lookupAlong_cons];unfold classOwn classData;refine wpAny_bind (wpAny_bind (wpAny_bind (wpAny_load hA (wpAny_pure (wpAny_nsGet hN ?_)))));rw[q1];exact ih q2
theorem Ft(xc:XCls K C bm)(X:K.In h)(q:gG K n (.ref C::bm)=true)(hB:typeLookup (.type "ValueError") n=pure y)(hv:mroOf (.type "ValueError")=pure jC)(hq:Q y ⟨h,g,d,t,os⟩):wpAny M A (typeLookup (.ref C) n) Q E ⟨h,g,d,t,os⟩:=by
 obtain⟨N,nm,q1,bs1,hdct,sn,sub,ab,col,dd,k0,k1,k2,k3,k5,mN,c1,c2,c3,c4⟩:=xc.obj X;have hr:lookupAlong jC n=pure y:=by rw[typeLookup_eq,hv] at hB;exact hB
 rw[typeLookup_eq];refine wpAny_bind (wpAny_mroOf_exc c1 ?_);obtain⟨e1,e2⟩:=BH X c1 c2 q;rw[lookupAlong_cons];refine wpAny_bind (wpAny_classOwn_exc c1 c2 ?_);rw[e1];exact EU X c4 e2 hr hq
end
section
variable {K:q0B} {prog:Program} {w:World} {A:Around} {E:q0A} {h:Heap} {g:Array GenState} {d:Drawn} {t:Nat} {os:OsState} {C a:Addr} {bm:List Value} {o:Obj}
theorem AH(xc:XCls K C bm)(X:K.In h)(T:String)(b:Bool)(hb:jC.contains (.type T)=b){M:Model}{Q:Bool->Shared->Prop}(hq:Q b ⟨h,g,d,t,os⟩):wpAny M A (isSubtype (.ref C) (.type T)) Q E ⟨h,g,d,t,os⟩:=by
 obtain⟨N,nm,q1,bs1,hdct,sn,sub,ab,col,dd,k0,k1,k2,k3,k5,mN,c1,c2,c3,c4⟩:=xc.obj X;refine wpAny_isSubtype_exc c1 ?_;rw[List.contains_cons,show bm.contains (Value.type T)=b from c4.hasType hb];cases b<;>exact hq
theorem A6:typeLookup (.type "ValueError") "__class__"=pure (some (.builtin "object.__class__")):=by rw[typeLookup_type,builtinLookup_eq_fast];kernel_rfl
theorem Ll{R:Result->Shared->Prop}(xc:XCls K C bm)(X:K.In h)(hx:h.get? a=some o)(hc:o.cls=.ref C)(hq:R (.ok (.ret (.ref C))) ⟨h,g,d,t,os⟩) :
    codeAny (model prog w) A (.call (.builtin "getset_descriptor.__get__") ⟨[.builtin "object.__class__",.ref a,.ref C],[]⟩) R ⟨h,g,d,t,os⟩:=by
  have f1:(⟨h,g,d,t,os⟩:Shared).TypeIs (.builtin "object.__class__") "getset_descriptor":=F.typeOf_object_class;have f2:∀ {M:Model} {A:Around} {E:q0A} {Q:Bool->Shared->Prop},Q true ⟨h,g,d,t,os⟩->wpAny M A (isSubtype (.ref C) (.type (".".intercalate ("object.__class__".cutAt '.').dropLast))) Q E ⟨h,g,d,t,os⟩:=fun z=>by
    rw[F.owner_object_class];exact AH xc X "object" true (by rfl) z
  refine codeAny_call_builtin F.slot_gs_get.plain F.entry_gs_get (F.slot_gs_get.check _ _ _ _ _ _ _ _ f1 (F.args_gs_get _ _ _) ?_)
  repeat (any_goals (first|assumption|(with_reducible refine wpAny_loadPart_at hx ?_;rw[hc])|with_reducible refine f2 ?_|wp_step))
  refine⟨Code.quiet_builtin _ (by decide +kernel),codeAny_builtin F.entry_object_class ?_⟩
  repeat (any_goals (first|assumption|(with_reducible refine wpAny_loadPart_at hx ?_;rw[hc])|wp_step))
structure XQ(K:q0B)(C:Addr)(bm:List Value):Prop extends XCls K C bm where
 q1:gG K "__getattribute__" (.ref C::bm)=true
 q2:gG K "__getattr__" (.ref C::bm)=true
 q3:gG K "__class__" (.ref C::bm)=true
theorem Jj{M:Model}{nv:Value}{Q:Unit->Shared->Prop}(xc:XCls K C bm)(X:K.In h)(hx:h.get? a=some o)(hc:o.cls=.ref C)(hq:Q () ⟨h,g,d,t,os⟩):wpAny M A (checkBuiltinCall "BaseException.__getattribute__" ⟨[.ref a,nv],[]⟩) Q E ⟨h,g,d,t,os⟩:=by
 have k1:builtinKind "BaseException.__getattribute__"=some .slot:=by decide +kernel
 have k2:splitId "BaseException.__getattribute__"=some ("BaseException","__getattribute__"):=by decide +kernel
 have k3:=F.args_bexc_ga (.ref a) nv;have f2:∀ {M:Model} {A:Around} {E:q0A} {Q:Bool->Shared->Prop},Q true ⟨h,g,d,t,os⟩->wpAny M A (isSubtype (.ref C) (.type "BaseException")) Q E ⟨h,g,d,t,os⟩:=fun z=>AH xc X "BaseException" true (by rfl) z;simp only[checkBuiltinCall,k1,k2];refine wpAny_bind ?_;unfold isInstance
 repeat (first|(with_reducible refine wpAny_loadPart_at hx ?_;rw[hc])|with_reducible refine f2 ?_|wp_step)
 exact hq
theorem GS{tk:Tok}{Q:Fin->Shared->Prop}(xc:XQ K C bm)(X:K.In h)(hx:h.get? a=some o)(hc:o.cls=.ref C)(hq:Q (.done (.ret (.ref C))) ⟨h,g,d,t,os⟩) :
    wpAny (model prog w) A (Builtin.«object.__getattribute__» ⟨[.ref a,.str "__class__" tk],[]⟩) Q E ⟨h,g,d,t,os⟩:=by
  have f1:(⟨h,g,d,t,os⟩:Shared).TypeIs (.builtin "object.__class__") "getset_descriptor":=F.typeOf_object_class;have f2:=F.typeOf_object_class;have f3:=F.slot_gs_get.lookup;have f4:=F.slot_gs_set.lookup;have lk:∀ {M:Model} {A:Around} {E:q0A} {Q:Option Value->Shared->Prop},Q (some (.builtin "object.__class__")) ⟨h,g,d,t,os⟩->wpAny M A (typeLookup (.ref C) "__class__") Q E ⟨h,g,d,t,os⟩:=fun z=>Ft xc.toXCls X xc.q3 A6 F.attrBase_ValueError.mro z
  repeat (any_goals (first|assumption|(with_reducible refine wpAny_loadPart_at hx ?_;rw[hc])|with_reducible refine lk ?_|wp_step))
  refine Ll xc.toXCls X hx hc ?_
  repeat (any_goals (first|assumption|wp_step))
theorem OI{tk:Tok}{fill expr:Bool}{Q:q0A}(xc:XQ K C bm)(X:K.In h)(hx:h.get? a=some o)(hc:o.cls=.ref C)(hq:Q (.ref C) ⟨h,g,d,t,os⟩):wpAny (model prog w) A (getAttrBy (.ref a) (.str "__class__" tk) fill expr) Q E ⟨h,g,d,t,os⟩:=by
 have FB:=F.attrBase_ValueError;have f3:=FB.ga.bind (.ref a);have y0:(expr&&onTheHeap (Value.builtin "BaseException.__getattribute__"))=false:=by cases expr<;>rfl
 have y2:(Value.builtin "BaseException.__getattribute__"==Value.builtin "object.__getattribute__")=false:=by decide +kernel
 have y1:(onTheHeap (Value.ref C)&&Value.builtin "BaseException.__getattribute__"==Value.builtin "object.__getattribute__")=false:=by rw[y2];rfl
 have l1:∀ {M:Model} {A:Around} {E:q0A} {Q:Option Value->Shared->Prop},Q (some (.builtin "BaseException.__getattribute__")) ⟨h,g,d,t,os⟩->wpAny M A (typeLookup (.ref C) "__getattribute__") Q E ⟨h,g,d,t,os⟩:=fun z=>Ft xc.toXCls X xc.q1 FB.ga.lookup FB.mro z;have l2:∀ {M:Model} {A:Around} {E:q0A} {Q:Option Value->Shared->Prop},Q none ⟨h,g,d,t,os⟩->wpAny M A (typeLookup (.ref C) "__getattr__") Q E ⟨h,g,d,t,os⟩:=fun z=>Ft xc.toXCls X xc.q2 FB.noGetattr FB.mro z
 repeat (any_goals (first|assumption|(with_reducible refine wpAny_loadPart_at hx ?_;rw[hc])|with_reducible refine l1 ?_|with_reducible refine l2 ?_|wp_step))
 refine codeAny_call_builtin FB.ga.plain F.entry_bexc_ga (Jj xc.toXCls X hx hc (GS xc X hx hc ?_))
 repeat (any_goals (first|assumption|wp_step))
theorem Ir{Q:Option Value->Shared->Prop}(xc:XQ K C bm)(X:K.In h)(hx:h.get? a=some o)(hc:o.cls=.ref C)(hq:Q (some (.ref C)) ⟨h,g,d,t+1,os⟩):wpAny (model prog w) A (getAttr? (.ref a) "__class__") Q E ⟨h,g,d,t,os⟩:=by
 unfold getAttr? getAttrBy?
 repeat (any_goals (first|assumption|with_reducible apply OI xc X hx hc|wp_step))
noncomputable def XP(K:q0B)(C a:Addr):Shared->Prop:=fun s=>K.In s.heap/\∃ o,s.heap.get? a=some o/\o.cls=.ref C
theorem HV(xc:XCls K C bm):Answers (XP K C a) (.ref a) (.ref C) true:=fun dep tk prog w A R s hs=>by
 obtain⟨h,g,d,t,os⟩:=s;obtain⟨⟨X,o,hx,hc⟩,hq⟩:=hs;have e:(Value.ref C==Value.ref C)=true:=by simp
 have q0:=hq t
 repeat (any_goals (first|assumption|(with_reducible refine wpAny_loadPart_at hx ?_;rw[hc])|wp_step))
theorem HW(xc:XCls K C bm):Answers (XP K C a) (.ref a) (.type "ValueError") true:=fun dep tk prog w A R s hs=>by
 obtain⟨h,g,d,t,os⟩:=s;obtain⟨⟨X,o,hx,hc⟩,hq⟩:=hs;have q0:=hq t;have f2:∀ {M:Model} {A:Around} {E:q0A} {Q:Bool->Shared->Prop},Q true ⟨h,g,d,t,os⟩->wpAny M A (isSubtype (.ref C) (.type "ValueError")) Q E ⟨h,g,d,t,os⟩:=fun z=>AH xc X "ValueError" true (by rfl) z;have ty:typeOf (.type "ValueError")=pure (.type "type"):=by kernel_rfl
 repeat (any_goals (first|assumption|(with_reducible refine wpAny_loadPart_at hx ?_;rw[hc])|with_reducible refine f2 ?_|wp_step))
noncomputable def kT(K:q0B)(D:Addr):Bool:=match K.lookup D with
 | some ⟨.type "type",_,.cls _,_⟩=>true
 | _=>false
theorem Ld{D:Addr}(xc:XQ K C bm)(xd:kT K D=true)(hn:(Value.ref C::bm).contains (.ref D)=false):Answers (XP K C a) (.ref a) (.ref D) false:=fun dep tk prog w A R s hs=>by
 obtain⟨h,g,d,t,os⟩:=s;obtain⟨⟨X,o,hx,hc⟩,hq⟩:=hs;obtain⟨N,nm,q1,bs1,hdct,sn,sub,ab,col,dd,k0,k1,k2,k3,k5,mN,c1,c2,c3,c4⟩:=xc.toXCls.obj X;obtain⟨od,cdD,slD,d1⟩:∃ od cdD slD,h.get? D=some (⟨.type "type",od,.cls cdD,slD⟩:Obj):=by
  unfold kT at xd;split at xd
  ·next lk=>exact⟨_,_,_,X _ _ lk⟩
  ·cases xd
 have q0:=hq (t+1);have ne:(Value.ref C==Value.ref D)=false:=by
  rw[List.contains_cons,Bool.or_eq_false_iff] at hn;exact beq_eq_false_iff_ne.mpr fun z=>beq_eq_false_iff_ne.mp hn.1 z.symm
 have f2:∀ {M:Model} {A:Around} {E:q0A} {t:Nat} {Q:Bool->Shared->Prop},Q false ⟨h,g,d,t,os⟩->wpAny M A (isSubtype (.ref C) (.ref D)) Q E ⟨h,g,d,t,os⟩:=fun z=>wpAny_isSubtype_exc c1 (by rw[hn];exact z)
 repeat (any_goals (first|assumption|(with_reducible refine wpAny_loadPart_at hx ?_;rw[hc])|with_reducible refine wpAny_loadPart_at c1 ?_|with_reducible refine wpAny_loadPart_at d1 ?_|with_reducible refine f2 ?_|with_reducible apply Ir xc X hx hc|wp_step))
theorem FE{P:Shared->Prop}{x:Value}:∀ {cs:List Value},(∀ c∈cs,Answers P x c false)->AnswersAll P x cs (cs.map fun _=>false)
 | [],_=>trivial
 | c::cs,h=>⟨h c (by simp),FE fun c' hc=>h c' (by simp[hc])⟩
theorem Mh{tp:Addr}{cs:List Value}{vs:List Bool}{tk:Tok}{s:Shared}{Q:Fin->Shared->Prop}{nn:Nat}{dt:Option Addr}{sl:Array (Option Value)}(xc:XCls K C bm)(hp:XP K C a s)(ht:s.heap.get? tp=some {cls:=.type "tuple",dict:=dt,data:=.seq cs.toArray nn,slots:=sl})(ha:AnswersAll (XP K C a) (.ref a) cs vs)
    (hq:∀ YN,Q (.done (.ret (.bool (vs.any id)))) {s with toks:=YN}):wpAny (model prog w) A (Builtin.«isinstance.nested» ⟨[.ref a,.ref tp,.int 0 tk],[]⟩) Q E s:=by
  obtain⟨h,g,d,t,os⟩:=s;obtain⟨X,o,hx,hc⟩:=id hp;have t2:(⟨h,g,d,t,os⟩:Shared).TypeIs (.ref tp) "tuple":=⟨_,ht,rfl⟩;have f1:=F.isi_sub_tuple;have ne:(Value.ref C==Value.ref tp)=false:=beq_eq_false_iff_ne.mpr fun z=>by
    obtain⟨_,_,_,_,_,_,_,_,_,_,_,_,_,_,_,_,c1,_⟩:=xc.obj X;injection z with z
    rw[z,ht] at c1;have z2:=congrArg Obj.cls (Option.some.inj c1);injection z2 with z2
    exact absurd z2 (by decide)
  repeat (any_goals (first|assumption|(with_reducible refine wpAny_loadPart_at hx ?_;rw[hc])|wp_step))
  refine wpAny_arrayLoop ?_;simp only[Option.getD_some,List.toList_toArray];refine isinstance_items (dep:=0) (fun _ _ z=>z) cs vs _ _ ha hp fun YN=>?_;cases hv:vs.any id<;>simp only[if_true,Bool.false_eq_true,if_false]<;>repeat (any_goals (first|assumption|wp_step))
  all_goals exact hv▸hq YN
end
section
variable {X:Cx} {C:Addr} {bm:List Value}
noncomputable def Sa(K:q0B)(C:Addr)(bm:List Value):List V->Hp->VK->Prop:=fun vs H Q=>∃ x,H x=some (AK x C)/\(((vs=[.ref x,.ref C]\/vs=[.ref x,.ty "ValueError"])/\Q (.bl true) H) \/
 ∃ p cs,vs=[.ref x,.ref p]/\H p=some (.tup cs)/\(∀ c∈cs,∃ D,c=.ref D/\kT K D=true/\(Value.ref C::bm).contains (.ref D)=false)/\Q (.bl false) H)
theorem Ip(xc:XQ X.K C bm):eR X (.builtin "isinstance") (Sa X.K C bm):=fun WY s σ H xs us Q I r h=>by
 obtain⟨x,hx,h⟩:=h;obtain⟨⟨oe,vs,e1,e2,e3⟩,_⟩:=I.W5 x _ hx;have P:XP X.K C x s:=⟨I.kIn,oe,e1,e2⟩;have fin:∀ {b:Bool} {c:Value},Answers (XP X.K C x) (.ref x) c b->Q (.bl b) H->wpAny (model X.prog X.w) X.A (call (.builtin "isinstance") [.ref x,c]) (EP X WY σ Q) X.xe s:=fun {b c} A q =>
  call_isinstance (S:=fun _ R s=>XP X.K C x s/\∀ YN,R (.ok (.ret (.bool b))) {s with toks:=YN}) (fun _ _ _ _ _ hs=>isinstance_outer (A 0 _ _ _ _ _ _ hs) (by intro e;cases e)) ⟨P,fun YN=>⟨.bl b,H,I.tok YN,rfl,q⟩⟩
 rcases h with⟨rfl|rfl,q⟩|⟨p,cs,rfl,hp,hc,q⟩
 ·cases r with
  | cons r1 r =>
   cases r with
   | cons r2 r =>
    cases r;cases r1;cases r2;exact fin (HV xc.toXCls) q
 ·cases r with
  | cons r1 r =>
   cases r with
   | cons r2 r =>
    cases r;cases r1;cases r2;exact fin (HW xc.toXCls) q
 ·cases r with
  | cons r1 r =>
   cases r with
   | cons r2 r =>
    cases r;cases r1;cases r2;obtain⟨_,W2,rv,⟨c0,dt,da,sl⟩,t1,t2,nt,t3⟩:=I.W5 p _ hp;simp only at t2 t3;subst t2 t3;have al:∀ u∈W2,Answers (XP X.K C x) (.ref x) u false:=fun u hu=>by
     obtain⟨i,hi⟩:=List.mem_iff_getElem?.mp hu;have li:i < cs.length:=by rw[rv.length];exact(List.getElem?_eq_some_iff.mp hi).1
     obtain⟨u',hu',ru⟩:=rv.get (List.getElem?_eq_getElem li);rw[hi] at hu';cases hu';obtain⟨D,eD,xd,hn⟩:=hc _ (List.getElem_mem li);rw[eD] at ru;cases ru;exact Ld xc xd hn
    have q':∀ YN,EP X WY σ Q (.bool ((W2.map fun _=>false).any id)) {s with toks:=YN}:=fun YN=>by
     rw[show(W2.map fun _=>false).any id=false by simp];exact⟨.bl false,H,I.tok YN,rfl,q⟩
    exact call_isinstance (S:=fun _ R s'=>s'=s/\∀ YN,R (.ok (.ret (.bool ((W2.map fun _=>false).any id)))) {s' with toks:=YN}) (fun _ _ _ _ _ hs=>isinstance_outer (by obtain⟨rfl,hs⟩:=hs;exact Mh xc.toXCls P t1 (FE al) hs) (by intro e;cases e)) ⟨rfl,q'⟩
end
theorem AN:bootBuiltins "ValueError"=some (.type "ValueError"):=by decide +kernel
section
variable {P:Program} {w:World} {K:q0B} {mg:q0C} {base:Heap}
theorem Fun.okE{x qual:Str}{st:Stmt}{f:Addr}{fd:FuncData}{N ps:List Str}{k:Nat}{sp:Sp}(F:Fun K x qual st f fd)(S:bD N ps (aT st))(len:∀ vs H Q E,sp vs H Q E->vs.length=ps.length)
    (Yi:∀(W7:Value) (A:Around) (outer:List Env) (s:Shared) (H:Hp) (vs:List V) (Q:VK) (E:XK),Room k (A.deeper (envOfC qual (aT st) s.heap.objs.size f W7))->sp vs H Q E ->
      ∃ t,Yb (qB (Xq P w base) P w K mg base N qual (aT st) f W7 A outer s H E) (pF st) t/\t {nx:=fun _ H'=>Q .W3 H',rt:=Q} (start N vs) H):bR P w K mg base (Xq P w base) (k+1) f fd ps sp:=by
  obtain⟨oc,od,kV,doc,pm,an,W7,ct,ZP,rfl,lk,YJ⟩:=F.ex;exact Nw lk YJ S len fun A outer s H vs Q E hr Zv=>Yi W7 A outer s H vs Q E hr Zv
end
noncomputable def VF(xs:List V)(n:Prop)(c:V->List V->Prop)(_u:Tg c:=()):Prop:=match xs with
 | []=>n
 | v::r=>c v r
section
variable {n:Prop} {c:V->List V->Prop} {v:V} {r:List V} {D:Ends} {σ:St} {H:Hp} {C:Addr} {E:XK} {t:TA} {sp:Sp} {i j:Nat} {ts:TS}
theorem PZ:VF [] n c=n:=rfl
theorem P2:VF (v::r) n c=c v r:=rfl
theorem Tf{y:Str}{Q:VK}:ML .W3 (.str y) H Q=Q (.bl true) H:=by simp[ML,scal]
theorem LV:Kw C E t D σ H=t σ H fun vs H1=>vs.length<=100/\E (.ref C) none H1:=rfl
theorem Qn:Ky sp [] t i j C ts D σ H=t σ H fun vs H1=>sp vs H1 (fun v H2=>D.nx (σ.set i (some v)) H2) fun cls _ H2=>cls=.ref C/\∀ x,H2 x=none->ts (Gm D j) (σ.set j (some (.ref x))) (WZ H2 x (AK x C)):=by simp only[Ky,List.append_nil]
end
theorem uD{X:Cx}{C:Addr}{bm:List Value}(K:q0B)(e:X.K=K)(xc:XQ K C bm):eR X (.builtin "isinstance") (Sa K C bm):=by subst e;exact Ip xc
noncomputable def Nt:R2:=fun x y H Q=>match x with
 | .str z=>fH y fun k=>(k=0/\Q (.str "") H)\/(k=1/\Q (.str z) H)
 | _=>False
theorem MA{X:Cx}:iX X (binaryOp .Mult) Nt:=fun WY s σ H x y v u Q I rx ry h=>by
 cases x with
 | str z =>
  obtain⟨k,rfl,h⟩:=eV h;obtain⟨t,rfl⟩:=rx;obtain⟨t',rfl⟩:=ry;rcases h with⟨rfl,q⟩|⟨rfl,q⟩
  ·exact P.mul_str_none (by decide) (by decide) ⟨.str "",H,I.tok _,⟨_,by rw[show Str.empty=("":Str) by decide +kernel]⟩,q⟩
  ·exact P.mul_str (by decide) (fun _ z=>by cases z) (fun _ z=>by cases z) (by
    rw[if_neg (by decide),if_pos (by rfl)];exact⟨.str z,H,I,⟨_,rfl⟩,q⟩)
 | _=>exact False.elim h
theorem Qb{z:Str}{k:Int}{H:Hp}{Q:VK}:Nt (.str z) (.int k) H Q=((k=0/\Q (.str "") H)\/(k=1/\Q (.str z) H)):=rfl
theorem VA{K:q0B}{C:Addr}{bm:List Value}(a:PySem.W.excIn K C [.type "ValueError",.type "Exception",.type "BaseException",.type "object"] "ValueError.__new__"=true)(b:JJ K C (.ref C::bm)=true)(c:gG K "__getattribute__" (.ref C::bm)=true)(d:gG K "__getattr__" (.ref C::bm)=true)(e:gG K "__class__" (.ref C::bm)=true):XQ K C bm:=⟨⟨a,b⟩,c,d,e⟩
noncomputable def Sh:R2:=fun x y H Q=>∃(c:Nat) (j:Str),x=.str ⟨#[c]⟩/\y=.str j/\Q (.bl (!decide (c∈j.cps.toList))) H
theorem JR{X:Cx}:iX X (compareOp .NotIn) Sh:=CM.imp fun x y H Q ⟨c,j,a,b,q⟩=>⟨⟨#[c]⟩,j,a,b,by rw[StrLaws.found_one];exact q⟩
theorem Ti{c:Nat}{j:Str}{H:Hp}{Q:VK}:Sh (.str ⟨#[c]⟩) (.str j) H Q=Q (.bl (!decide (c∈j.cps.toList))) H:=propext ⟨fun⟨c',j',a,b,q⟩=>by cases a;cases b;exact q,fun q=>⟨c,j,rfl,rfl,q⟩⟩
theorem En(c:Array Nat):∀(n:Nat) (a:Array Nat),((List.replicate n c).foldl (·++·) a).size=a.size+c.size * n
 | 0,a=>by simp
 | n+1,a=>by
  rw[List.replicate_succ,List.foldl_cons,En c n,Array.size_append,Nat.mul_succ];omega
noncomputable def Ij:R2:=fun x y H Q=>∃(z:Str) (k:Nat),x=.str z/\y=.int (k:Int)/\2<=k/\k<=2000/\1<=z.length/\z.length<=10/\∀ u:Str,u.length=z.length * k->Q (.str u) H
theorem sX{X:Cx}:iX X (binaryOp .Mult) Ij:=fun WY s σ H x y v u Q I rx ry ⟨z,k,hx,hy,h2,h3,h4,h5,q⟩=>by
 subst hx hy;obtain⟨t,rfl⟩:=rx;obtain⟨t',rfl⟩:=ry;have n1:¬ (k:Int) < 1:=by omega
 have n2:((k:Int)==1||z.length==0)=false:=by
  rw[Bool.or_eq_false_iff,beq_eq_false_iff_ne,beq_eq_false_iff_ne];exact⟨by omega,by omega⟩
 have hm:z.length * k<=10 * 2000:=Nat.mul_le_mul h5 h3;have hp:(2:Int) ^ 63=9223372036854775808:=by decide
 refine P.mul_str (by rw[hp,decide_eq_false (by omega),decide_eq_false (by omega)];rfl) (fun _ _=>?_) (fun _ _=>?_) ?_
 ·have:(4611686018427387:Int)<=(2 ^ 63 - 1) / (k:Int):=by
   rw[hp];exact(Int.le_ediv_iff_mul_le (by omega)).mpr (by omega)
  omega
 ·rw[Int.toNat_natCast];have:10 * 2000<=sizeLine:=by decide
  exact decide_eq_false (show ¬ z.length * k > sizeLine by omega)
 ·rw[if_neg n1,if_neg (by rw[n2];decide)];have hz:(⟨(List.replicate (k:Int).toNat z.cps).foldl (·++·) #[]⟩:Str).length=z.length * k:=by
   rw[Int.toNat_natCast];show((List.replicate k z.cps).foldl (·++·) #[]).size=_;rw[En];show 0+z.cps.size * k=_;rw[Nat.zero_add];rfl
  have:10 * 2000<=sizeLine:=by decide
  exact⟨by rw[hz];omega,.str _,H,I.tok _,⟨_,rfl⟩,q _ hz⟩
theorem L0{z:Str}{k:Int}{H:Hp}{Q:VK}:Ij (.str z) (.int k) H Q=(∃ n:Nat,k=(n:Int)/\2<=n/\n<=2000/\1<=z.length/\z.length<=10/\∀ u:Str,u.length=z.length * n->Q (.str u) H):=propext ⟨fun⟨z',k',a,b,q⟩=>by cases a;cases b;exact⟨k',rfl,q⟩,fun⟨n,e,q⟩=>⟨z,n,rfl,by rw[e],q⟩⟩
end L2
namespace Own
open PySem L2
local macro_rules | `(tactic| and_intros) => `(tactic| try dsimp only [L2.start, Jy, NF, List.cons_append, List.nil_append, List.replicate_succ, List.replicate_zero, List.length_cons, List.length_nil, Nat.reduceAdd, Nat.reduceSub, Nat.zero_add])
local macro_rules | `(tactic| infer_instance) => `(tactic| exact ⟨rfl, rfl, rfl, by decide +kernel, rfl, by decide +kernel, by decide +kernel⟩)
seal PE PA PT PW PS Yb PI PG PGs PTs PO PPs
noncomputable def top(i:Nat):Stmt:=PySem.Challenge.pw_outlast_k08_texts_of_no_program.main.body.getD i (.Pass ⟨0,0,0,0⟩)
noncomputable abbrev kA:Stmt:=top 11
noncomputable abbrev rN:Stmt:=top 12
noncomputable abbrev jG:Stmt:=top 17
noncomputable abbrev Ao:Stmt:=top 18
noncomputable abbrev lG:Stmt:=top 25
noncomputable abbrev mR:Stmt:=pK (top 26) 0
noncomputable abbrev lA:Stmt:=pK (top 26) 1
noncomputable abbrev lC:Stmt:=pK (top 26) 2
noncomputable abbrev iH:Stmt:=pK (top 26) 3
noncomputable abbrev gN:Stmt:=pK (top 26) 4
noncomputable abbrev fX:Stmt:=pK (top 26) 5
noncomputable abbrev oX:Stmt:=top 27
noncomputable abbrev oW:Stmt:=top 28
noncomputable abbrev mX:Stmt:=top 29
noncomputable abbrev mW:Stmt:=top 30
noncomputable abbrev mV:Stmt:=top 31
noncomputable abbrev rT:Stmt:=top 32
noncomputable abbrev rV:Stmt:=top 33
noncomputable abbrev mU:Stmt:=top 34
noncomputable abbrev oV:Stmt:=top 36
noncomputable abbrev vK:Stmt:=top 37
noncomputable abbrev rS:Stmt:=top 38
noncomputable abbrev Ap:Stmt:=top 39
noncomputable abbrev vH:Stmt:=top 40
noncomputable abbrev oU:Stmt:=top 41
noncomputable abbrev vF:Stmt:=top 42
noncomputable abbrev rP:Stmt:=top 43
noncomputable abbrev mT:Stmt:=top 44
noncomputable abbrev rR:Stmt:=top 45
noncomputable abbrev vE:Stmt:=top 46
noncomputable abbrev vJ:Stmt:=top 47
noncomputable abbrev vL:Stmt:=top 48
noncomputable abbrev oQ:Stmt:=top 49
noncomputable abbrev oT:Stmt:=top 50
noncomputable abbrev Aq:Stmt:=top 51
noncomputable abbrev lF:Stmt:=top 52
noncomputable abbrev oS:Stmt:=top 53
noncomputable abbrev mS:Stmt:=top 54
noncomputable abbrev oR:Stmt:=top 55
noncomputable abbrev vD:Stmt:=top 56
noncomputable abbrev kB:Stmt:=top 57
noncomputable abbrev vI:Stmt:=top 58
noncomputable abbrev rO:Stmt:=top 59
noncomputable abbrev vG:Stmt:=top 60
noncomputable abbrev lE:Stmt:=top 61
noncomputable abbrev lD:Stmt:=top 62
noncomputable abbrev vC:Stmt:=top 63
noncomputable abbrev rQ:Stmt:=top 64
noncomputable abbrev J7:Stmt:=top 65
set_option genInjectivity false in
set_option genSizeOf false in
structure Ad where
 kR:Addr
 kW:FuncData
 tW:Addr
 uG:FuncData
 jV:Addr
 jZ:FuncData
 BS:Addr
 B9:FuncData
 l9:Addr
 mG:FuncData
 kG:Addr
 nU:FuncData
 lY:Addr
 mD:FuncData
 dP:Addr
 dQ:FuncData
 iN:Addr
 iO:FuncData
 hZ:Addr
 iB:FuncData
 gI:Addr
 gK:FuncData
 qY:Addr
 rF:FuncData
 qX:Addr
 rE:FuncData
 nS:Addr
 n8:FuncData
 gP:Addr
 gS:FuncData
 nR:Addr
 nZ:FuncData
 t6:Addr
 uK:FuncData
 t7:Addr
 uL:FuncData
 nQ:Addr
 nY:FuncData
 qW:Addr
 rD:FuncData
 xZ:Addr
 yN:FuncData
 tZ:Addr
 uJ:FuncData
 BU:Addr
 Ca:FuncData
 xX:Addr
 yL:FuncData
 jW:Addr
 j4:FuncData
 xV:Addr
 yJ:FuncData
 lJ:Addr
 lO:FuncData
 nN:Addr
 nW:FuncData
 lK:Addr
 lP:FuncData
 xU:Addr
 yI:FuncData
 nO:Addr
 nX:FuncData
 x8:Addr
 yO:FuncData
 qS:Addr
 q9:FuncData
 qV:Addr
 rC:FuncData
 BV:Addr
 Cb:FuncData
 h9:Addr
 iC:FuncData
 qU:Addr
 rB:FuncData
 nM:Addr
 nV:FuncData
 qT:Addr
 rA:FuncData
 xT:Addr
 yH:FuncData
 kS:Addr
 kX:FuncData
 xY:Addr
 yM:FuncData
 tX:Addr
 uH:FuncData
 xW:Addr
 yK:FuncData
 l8:Addr
 mF:FuncData
 lZ:Addr
 mE:FuncData
 xS:Addr
 yG:FuncData
 tY:Addr
 uI:FuncData
 Ov:Addr
 OJ:FuncData
 zH:Tok
 Cp:Tok
 uR:Addr
 wW:Tok
 A5:Tok
 zG:Tok
 DS:Tok
 ET:Addr
 aZ:Addr
 aO:Addr
 aP:Addr
 jD:Addr
 dO:Addr
 fA:Addr
 dA:Addr
 eZ:Addr
 hV:Addr
 cM:Addr
structure Tx(K:q0B)(mg:q0C)(t:Ad):Prop where
 qG:Fun K "is_number_word" "is_number_word" kA t.kR t.kW
 AL:Binds K t.kW ["word","least","greatest"] []
 A7:mg "is_number_word"=some (.ref t.kR)
 Bt:Fun K "is_figure" "is_figure" rN t.tW t.uG
 GI:Binds K t.uG ["sign"] []
 Hm:mg "is_figure"=some (.ref t.tW)
 oA:Fun K "is_small_letter" "is_small_letter" jG t.jV t.jZ
 x9:Binds K t.jZ ["sign"] []
 zM:mg "is_small_letter"=some (.ref t.jV)
 xG:Fun K "is_name" "is_name" Ao t.BS t.B9
 BX:Binds K t.B9 ["thing"] []
 Cy:mg "is_name"=some (.ref t.BS)
 sO:Fun K "read_program" "read_program" lG t.l9 t.mG
 B0:Binds K t.mG ["text"] []
 CB:mg "read_program"=some (.ref t.l9)
 DD:Fun K "__init__" "Reader.__init__" mR t.kG t.nU
 Dp:Binds K t.nU ["self","lines"] []
 Mr:Meth K t.aZ "__init__" t.kG
 Cf:Fun K "ahead" "Reader.ahead" lA t.lY t.mD
 iA:Binds K t.mD ["self"] []
 fZ:Meth K t.aZ "ahead" t.lY
 Cg:Fun K "block" "Reader.block" lC t.dP t.dQ
 mB:Binds K t.dQ ["self","deep"] []
 kY:Meth K t.aZ "block" t.dP
 uN:Fun K "statement" "Reader.statement" iH t.iN t.iO
 t8:Binds K t.iO ["self","deep"] []
 sR:Meth K t.aZ "statement" t.iN
 sF:Fun K "with_blocks" "Reader.with_blocks" gN t.hZ t.iB
 sC:Binds K t.iB ["self","words","deep"] []
 rK:Meth K t.aZ "with_blocks" t.hZ
 rG:Fun K "second_block" "Reader.second_block" fX t.gI t.gK
 qZ:Binds K t.gK ["self","deep"] []
 qF:Meth K t.aZ "second_block" t.gI
 y7:Fun K "take_plain" "take_plain" oX t.qY t.rF
 EJ:Binds K t.rF ["words"] []
 E5:mg "take_plain"=some (.ref t.qY)
 y6:Fun K "take_given" "take_given" oW t.qX t.rE
 EI:Binds K t.rE ["name","words"] []
 E4:mg "take_given"=some (.ref t.qX)
 wA:Fun K "take_waited" "take_waited" mX t.nS t.n8
 Dv:Binds K t.n8 ["words"] []
 Ed:mg "take_waited"=some (.ref t.nS)
 cJ:Fun K "take_saying" "take_saying" mW t.gP t.gS
 cQ:Binds K t.gS ["words","deep"] []
 cR:mg "take_saying"=some (.ref t.gP)
 vZ:Fun K "take_joined" "take_joined" mV t.nR t.nZ
 Du:Binds K t.nZ ["words","deep"] []
 Ec:mg "take_joined"=some (.ref t.nR)
 pI:Fun K "take_name" "take_name" rT t.t6 t.uK
 uC:Binds K t.uK ["words"] []
 uV:mg "take_name"=some (.ref t.t6)
 fQ:Fun K "take_word" "take_word" rV t.t7 t.uL
 gR:Binds K t.uL ["words"] []
 gU:mg "take_word"=some (.ref t.t7)
 oC:Fun K "refuse_more" "refuse_more" mU t.nQ t.nY
 vT:Binds K t.nY ["words"] []
 wG:mg "refuse_more"=some (.ref t.nQ)
 yZ:Fun K "_law_stream" "_law_stream" oV t.qW t.rD
 EH:Binds K t.rD ["cell"] []
 E3:mg "_law_stream"=some (.ref t.qW)
 bG:Fun K "_law_take" "_law_take" vK t.xZ t.yN
 bH:Binds K t.yN ["row","many"] []
 bI:mg "_law_take"=some (.ref t.xZ)
 Bv:Fun K "_law_worth" "_law_worth" rS t.tZ t.uJ
 GK:Binds K t.uJ ["row"] []
 Ho:mg "_law_worth"=some (.ref t.tZ)
 sL:Fun K "_law_own" "_law_own" Ap t.BU t.Ca
 xE:Binds K t.Ca [] []
 xM:mg "_law_own"=some (.ref t.BU)
 sJ:Fun K "_law_name" "_law_name" vH t.xX t.yL
 yB:Binds K t.yL ["row"] []
 zP:mg "_law_name"=some (.ref t.xX)
 fD:Fun K "_law_saying" "_law_saying" oU t.jW t.j4
 gJ:Binds K t.j4 ["row","deep","names","left"] []
 gM:mg "_law_saying"=some (.ref t.jW)
 DI:Fun K "_law_line" "_law_line" vF t.xV t.yJ
 HZ:Binds K t.yJ ["row","names","deep"] []
 JF:mg "_law_line"=some (.ref t.xV)
 pG:Fun K "_law_block" "_law_block" rP t.lJ t.lO
 uA:Binds K t.lO ["row","names","deep","left","many"] []
 uT:mg "_law_block"=some (.ref t.lJ)
 vY:Fun K "_law_program" "_law_program" mT t.nN t.nW
 Dt:Binds K t.nW ["row"] []
 DZ:mg "_law_program"=some (.ref t.nN)
 fP:Fun K "_law_words" "_law_words" rR t.lK t.lP
 gQ:Binds K t.lP ["saying"] []
 gT:mg "_law_words"=some (.ref t.lK)
 DH:Fun K "_law_head" "_law_head" vE t.xU t.yI
 HY:Binds K t.yI ["one"] []
 JE:mg "_law_head"=some (.ref t.xU)
 sM:Fun K "_law_rows" "_law_rows" vJ t.nO t.nX
 yC:Binds K t.nX ["program"] []
 zQ:mg "_law_rows"=some (.ref t.nO)
 DK:Fun K "_law_text" "_law_text" vL t.x8 t.yO
 Ib:Binds K t.yO ["program"] []
 JH:mg "_law_text"=some (.ref t.x8)
 rH:Fun K "_law_is_name" "_law_is_name" oQ t.qS t.q9
 yA:Binds K t.q9 ["word"] []
 zO:mg "_law_is_name"=some (.ref t.qS)
 yY:Fun K "_law_number" "_law_number" oT t.qV t.rC
 EG:Binds K t.rC ["word"] []
 E2:mg "_law_number"=some (.ref t.qV)
 jL:Fun K "_law_pop" "_law_pop" Aq t.BV t.Cb
 kH:Binds K t.Cb ["deck"] []
 kK:mg "_law_pop"=some (.ref t.BV)
 cH:Fun K "_law_saying_in" "_law_saying_in" lF t.h9 t.iC
 cN:Binds K t.iC ["deck","left"] []
 cO:mg "_law_saying_in"=some (.ref t.h9)
 j6:Fun K "_law_name_in" "_law_name_in" oS t.qU t.rB
 mC:Binds K t.rB ["deck"] []
 mL:mg "_law_name_in"=some (.ref t.qU)
 vX:Fun K "_law_named_in" "_law_named_in" mS t.nM t.nV
 Ds:Binds K t.nV ["deck"] []
 DY:mg "_law_named_in"=some (.ref t.nM)
 yW:Fun K "_law_line_in" "_law_line_in" oR t.qT t.rA
 EF:Binds K t.rA ["line"] []
 EZ:mg "_law_line_in"=some (.ref t.qT)
 DF:Fun K "_law_done" "_law_done" vD t.xT t.yH
 HX:Binds K t.yH ["frame"] []
 JD:mg "_law_done"=some (.ref t.xT)
 qH:Fun K "_law_program_in" "_law_program_in" kB t.kS t.kX
 AM:Binds K t.kX ["lines"] []
 A8:mg "_law_program_in"=some (.ref t.kS)
 DJ:Fun K "_law_read" "_law_read" vI t.xY t.yM
 Ia:Binds K t.yM ["text"] []
 JG:mg "_law_read"=some (.ref t.xY)
 Bu:Fun K "_law_asked" "_law_asked" rO t.tX t.uH
 GJ:Binds K t.uH ["text"] []
 Hn:mg "_law_asked"=some (.ref t.tX)
 yX:Fun K "_law_menu" "_law_menu" vG t.xW t.yK
 Dr:Binds K t.yK ["row"] []
 DX:mg "_law_menu"=some (.ref t.xW)
 sI:Fun K "_law_line_menu" "_law_line_menu" lE t.l8 t.mF
 BZ:Binds K t.mF ["row"] []
 CA:mg "_law_line_menu"=some (.ref t.l8)
 sH:Fun K "_law_bent_line" "_law_bent_line" lD t.lZ t.mE
 BY:Binds K t.mE ["row","line"] []
 Cz:mg "_law_bent_line"=some (.ref t.lZ)
 yV:Fun K "_law_bent" "_law_bent" vC t.xS t.yG
 Dq:Binds K t.yG ["row","text"] []
 DW:mg "_law_bent"=some (.ref t.xS)
 pH:Fun K "_law_right" "_law_right" rQ t.tY t.uI
 uB:Binds K t.uI ["text"] []
 uU:mg "_law_right"=some (.ref t.tY)
 Wm:Fun K "law" "law" J7 t.Ov t.OJ
 WQ:Binds K t.OJ ["script"] []
 WS:mg "law"=some (.ref t.Ov)
 cB:Cls K t.aZ
 Mo:mg "Reader"=some (.ref t.aZ)
 zN:Mk K t.aZ t.kG
 sS:kQ K t.aZ "lines"
 eJ:kQ K t.aZ "lines_read"
 eB:kQ K t.aZ "statements_read"
 nT:mg "GREATEST_WORTH"=some (.int 1000000000 t.zH)
 B6:mg "LONGEST_NAME"=some (.int 6 t.Cp)
 GN:mg "OWN_WORDS"=some (.ref t.uR)
 Hy:∀ H:Hp,hJ K H t.uR [.str "order",.str "timer",.str "child",.str "send",.str "drop",.str "wait",.str "hear",.str "if",.str "else",.str "done",.str "while",.str "end",.str "none",.str "arg",.str "now",.str "answer",.str "not"]
 wN:mg "MOST_STATEMENTS"=some (.int 60 t.wW)
 AO:mg "DEEPEST_BLOCK"=some (.int 5 t.A5)
 yD:mg "DEEPEST_SAYING"=some (.int 6 t.zG)
 Dw:mg "MOST_WAITED"=some (.int 4 t.DS)
 OG:mg "SIGNS"=some (.ref t.ET)
 QX:∀ H:Hp,hJ K H t.ET [.str "+",.str "-",.str "*",.str "<",.str "="]
 zI:mg "OutlastError"=some (.ref t.aO)
 KS:kT K t.aO=true
 Bi:XQ K t.aO (jC)
 cG:mg "NoProgram"=some (.ref t.aP)
 RC:kT K t.aP=true
 cD:XQ K t.aP (.ref t.aO::jC)
 Mp:mg "NoLog"=some (.ref t.jD)
 RB:kT K t.jD=true
 Hk:mg "NoState"=some (.ref t.dO)
 KL:kT K t.dO=true
 Vz:XQ K t.dO (.ref t.aO::jC)
 Jx:mg "NoRule"=some (.ref t.fA)
 Nf:kT K t.fA=true
 VJ:XQ K t.fA (.ref t.aO::jC)
 EV:mg "NoPolicy"=some (.ref t.dA)
 HM:kT K t.dA=true
 RJ:XQ K t.dA (.ref t.aO::jC)
 Jw:mg "NoLine"=some (.ref t.eZ)
 Nd:kT K t.eZ=true
 VI:XQ K t.eZ (.ref t.aO::jC)
 Mq:mg "NoRun"=some (.ref t.hV)
 RD:kT K t.hV=true
 WB:XQ K t.hV (.ref t.aO::jC)
 DU:mg "NoCommand"=some (.ref t.cM)
 Fy:kT K t.cM=true
 RA:XQ K t.cM (.ref t.aO::jC)
 xne:(t.aP≠t.jD/\t.aO≠t.jD)/\(t.aP≠t.dO/\t.aO≠t.dO)/\(t.aP≠t.fA/\t.aO≠t.fA)/\(t.aP≠t.dA/\t.aO≠t.dA)/\(t.aP≠t.eZ/\t.aO≠t.eZ)/\(t.aP≠t.hV/\t.aO≠t.hV)/\(t.aP≠t.cM/\t.aO≠t.cM)
 pD:mg "ValueError"=none
 RE:mg "abs"=none
 Ng:mg "all"=none
 vQ:mg "int"=none
 fO:mg "isinstance"=none
 iK:mg "len"=none
 RF:mg "max"=none
 AI:mg "range"=none
 HN:mg "str"=none
 iU:mg "tuple"=none
theorem nF:bD ["word","least","greatest","figures"] ["word","least","greatest"] (aT kA):=by infer_instance
theorem Er:bD ["sign"] ["sign"] (aT rN):=by infer_instance
theorem vM:bD ["sign"] ["sign"] (aT jG):=by infer_instance
theorem HB:bD ["thing"] ["thing"] (aT Ao):=by infer_instance
theorem kD:bD ["text","reader","program"] ["text"] (aT lG):=by infer_instance
theorem Be:bD ["self","lines"] ["self","lines"] (aT mR):=by infer_instance
theorem Ar:bD ["self"] ["self"] (aT lA):=by infer_instance
theorem oY:bD ["self","deep","statements"] ["self","deep"] (aT lC):=by infer_instance
theorem gO:bD ["self","deep","words","statement"] ["self","deep"] (aT iH):=by infer_instance
theorem dD:bD ["self","words","deep","kind","saying","first","blocks"] ["self","words","deep"] (aT gN):=by infer_instance
theorem jB:bD ["self","deep","block"] ["self","deep"] (aT fX):=by infer_instance
theorem tR:bD ["words","first"] ["words"] (aT oX):=by infer_instance
theorem tQ:bD ["name","words","kind"] ["name","words"] (aT oW):=by infer_instance
theorem qM:bD ["words","sayings"] ["words"] (aT mX):=by infer_instance
theorem qL:bD ["words","deep","word"] ["words","deep"] (aT mW):=by infer_instance
theorem iW:bD ["words","deep","one","sign","other"] ["words","deep"] (aT mV):=by infer_instance
theorem wL:bD ["words","word"] ["words"] (aT rT):=by infer_instance
theorem Es:bD ["words"] ["words"] (aT rV):=by infer_instance
theorem Bf:bD ["words"] ["words"] (aT mU):=by infer_instance
theorem m8:bD ["cell","low"] ["cell"] (aT oV):=by infer_instance
theorem Au:bD ["row","many","got"] ["row","many"] (aT vK):=by infer_instance
theorem wK:bD ["row","far"] ["row"] (aT rS):=by infer_instance
theorem BK:bD ["words"] [] (aT Ap):=by infer_instance
theorem fM:bD ["row","letters","kind","word","name","k"] ["row"] (aT vH):=by infer_instance
theorem fS:bD ["row","deep","names","left","kind","leaf","worth","one","sign"] ["row","deep","names","left"] (aT oU):=by infer_instance
theorem mY:bD ["row","names","deep","kind","name","one"] ["row","names","deep"] (aT vF):=by infer_instance
theorem g0:bD ["row","names","deep","left","many","block","kind","saying","body","other"] ["row","names","deep","left","many"] (aT rP):=by infer_instance
theorem lH:bD ["row","names","most"] ["row"] (aT mT):=by infer_instance
theorem wJ:bD ["saying","one"] ["saying"] (aT rR):=by infer_instance
theorem fL:bD ["one","word","rest","text","part"] ["one"] (aT vE):=by infer_instance
theorem kC:bD ["program","rows","one"] ["program"] (aT vJ):=by infer_instance
theorem Fo:bD ["program"] ["program"] (aT vL):=by infer_instance
theorem CW:bD ["word"] ["word"] (aT oQ):=by infer_instance
theorem tP:bD ["word","figures"] ["word"] (aT oT):=by infer_instance
theorem HD:bD ["deck"] ["deck"] (aT Aq):=by infer_instance
theorem eI:bD ["deck","left","word","one","sign","other","number"] ["deck","left"] (aT lF):=by infer_instance
theorem tO:bD ["deck","word"] ["deck"] (aT oS):=by infer_instance
theorem gC:bD ["deck","name","word","work","sayings"] ["deck"] (aT mS):=by infer_instance
theorem dS:bD ["line","deck","word","one","key","found"] ["line"] (aT oR):=by infer_instance
theorem Fn:bD ["frame"] ["frame"] (aT vD):=by infer_instance
theorem cS:bD ["lines","frames","many","line","top","one"] ["lines"] (aT kB):=by infer_instance
theorem As:bD ["text","lines"] ["text"] (aT vI):=by infer_instance
theorem gZ:bD ["text","got","refused","e"] ["text"] (aT rO):=by infer_instance
theorem mZ:bD ["row","some"] ["row"] (aT vG):=by infer_instance
theorem iI:bD ["row","some"] ["row"] (aT lE):=by infer_instance
theorem cC:bD ["row","line","words","at","kind","old","spot","sign"] ["row","line"] (aT lD):=by infer_instance
theorem fK:bD ["row","text","lines","kind","at","other"] ["row","text"] (aT vC):=by infer_instance
theorem kO:bD ["text","due","got","refused"] ["text"] (aT rQ):=by infer_instance
theorem rW:bD ["script","cell","row","once","some","text"] ["script"] (aT J7):=by infer_instance
theorem WX{CX:CXT}{P:Program}{w:World}{K:q0B}{mg:q0C}{base:Heap}{N:List Str}{q:Str}{sc:Scope}{f:Addr}{cd:Value}{A:Around}{o:List Env}{s:Shared}{H:Hp}{E:XK}:(qB CX P w K mg base N q sc f cd A o s H E).K=K:=rfl
theorem Wy{CX:CXT}{P:Program}{w:World}{K:q0B}{mg:q0C}{base:Heap}{N:List Str}{q:Str}{sc:Scope}{f:Addr}{cd:Value}{A:Around}{o:List Env}{s:Shared}{H:Hp}{E:XK}:(qB CX P w K mg base N q sc f cd A o s H E).nox.K=K:=rfl
theorem small{n:Nat}(h:n<=1000):n<=sizeLine:=Nat.le_of_lt (small1000 h)
theorem Gd{i j:Int}(h0:-(2 ^ 64) < i)(h1:i < 2 ^ 64):CMul i j:=.inl ⟨h0,h1⟩
structure bQ(H:Hp)(r:Addr):Prop where
 ex:∃ c l f:Int,H r=some (.lst [.int c,.int l,.int f])/\0<=l/\l < 536870909
theorem bQ.kp{S:List Addr}{H H':Hp}{r:Addr}(R:bQ H r)(h:Kp S H H')(n:r∉S:=by first|exact List.not_mem_nil|simp_all):bQ H' r:=by
 obtain⟨c,l,f,e,x⟩:=R;exact⟨c,l,f,h _ _ e n,x⟩
theorem bQ.new{H:Hp}{r p:Addr}{o:HO}(R:bQ H r)(h:H p=none):bQ (WZ H p o) r:=R.kp (S:=[]) (Kp.new h)
theorem bQ.ne{H:Hp}{r p:Addr}{o:HO}(R:bQ H r)(h:H p=some o)(d:∀ a b c:V,o≠.lst [a,b,c]):p≠r:=by
 obtain⟨c,l,f,e,_⟩:=R;exact BB h e (d _ _ _)
theorem bQ.none{H:Hp}{r p:Addr}(R:bQ H r)(h:H p=Option.none):p≠r:=by
 obtain⟨c,l,f,e,_⟩:=R;exact(aL e h).symm
theorem _root_.L2.Kp.made{r p:Addr}{H H':Hp}{o:HO}(x:Kp [r] (WZ H p o) H')(R:bQ H r)(h:H p=none):H' p=some o:=x.at1 aE (R.none h)
noncomputable def Ki:Sp:=fun vs H Q _=>∃ c:Int,vs=[.int c]/\∀(r:Addr) (H':Hp),H r=none->Kp [] H H'->bQ H' r->Q (.ref r) H'
noncomputable def Kk:Sp:=fun vs H Q _=>∃(r:Addr) (m:Int),vs=[.ref r,.int m]/\0 < m/\m<=10 ^ 45/\bQ H r /\
 ∀(g:Int) (H':Hp),0<=g->g < m->bQ H' r->Kp [r] H H'->Q (.int g) H'
theorem Q0{r:Addr}{m:Int}{H:Hp}{Q:VK}{E:XK}:Kk [.ref r,.int m] H Q E=(0 < m/\m<=10 ^ 45/\bQ H r/\∀(g:Int) (H':Hp),0<=g->g < m->bQ H' r->Kp [r] H H'->Q (.int g) H') :=
 propext ⟨fun⟨_,_,e,h⟩=>by cases e;exact h,fun h=>⟨_,_,rfl,h⟩⟩
noncomputable def clamp(n:Int):Int:=if (if n < 1000000000 then n else 1000000000) > -1000000000 then (if n < 1000000000 then n else 1000000000) else -1000000000
noncomputable def Rg:Sp:=fun vs H Q _=>∃ n:Int,vs=[.int n]/\Q (.int (clamp n)) H
theorem QY{n:Int}{H:Hp}{Q:VK}{E:XK}:Rg [.int n] H Q E=Q (.int (clamp n)) H:=propext ⟨fun⟨_,e,h⟩=>by cases e;exact h,fun h=>⟨_,rfl,h⟩⟩
noncomputable abbrev Wo:=Option Int
noncomputable def wv:Wo->V
 | none=>.W3
 | some n=>.int n
noncomputable def num(w:Wo):Int:=w.getD 0
noncomputable def wk:Wo->Key
 | none=>.no
 | some n=>.inl n
noncomputable def A4(w:Wo):Prop:=∀ n,w=some n->-1000000000<=n/\n<=1000000000
theorem Fw{a b:Wo}(h:wv a=wv b):a=b:=by cases a<;>cases b<;>simp_all [wv]
theorem Ry(w:Wo):nI (wv w)=some (wk w):=by cases w<;>rfl
theorem KJ(w:Wo):(wv w=.W3)=(w=none):=by cases w<;>simp[wv]
theorem DP:A4 none:=fun _ h=>nomatch h
theorem Jr{n:Int}(h0:-1000000000<=n)(h1:n<=1000000000):A4 (some n):=fun m h=>by cases h;exact⟨h0,h1⟩
noncomputable def UN:Sp:=fun vs H Q _=>∃ w:Wo,vs=[wv w]/\Q (.int (num w)) H
theorem Ux{w:Wo}{H:Hp}{Q:VK}{E:XK}:UN [wv w] H Q E=Q (.int (num w)) H :=
 propext ⟨fun⟨u,e,h⟩=>by simp only[List.cons.injEq,and_true] at e;rw[Fw e];exact h,fun h=>⟨w,rfl,h⟩⟩
noncomputable def UO:Sp:=fun vs H Q _=>∃ b:Bool,vs=[.bl b]/\Q (.int (if b=true then 1 else 0)) H
theorem Uy{b:Bool}{H:Hp}{Q:VK}{E:XK}:UO [.bl b] H Q E=Q (.int (if b=true then 1 else 0)) H :=
 propext ⟨fun⟨u,e,h⟩=>by cases e;exact h,fun h=>⟨b,rfl,h⟩⟩
inductive Sg where
 | add|sub|mul|lt|eq
noncomputable def Sg.s:Sg->Str
 | .add=>"+" | .sub=>"-" | .mul=>"*" | .lt=>"<" | .eq=>"="
noncomputable def Sg.of(g:Sg)(a b:Wo):Int :=
 match g with
 | .add=>clamp (num a+num b) | .sub=>clamp (num a - num b) | .mul=>clamp (num a * num b) | .lt=>if num a < num b then 1 else 0 | .eq=>if a=b then 1 else 0
inductive Say where
 | num (n:Int)|W3|name (x:Str)|arg|now|Xz (s:Say)|neg (s:Say)|two (g:Sg) (a b:Say)
inductive bC(H:Hp):V->Say->Prop
 | num {a:Addr} {n:Int}:H a=some (.tup [.str "number",.int n])->bC H (.ref a) (.num n)
 | W3 {a:Addr}:H a=some (.tup [.str "none"])->bC H (.ref a) .W3
 | name {a:Addr} {x:Str}:H a=some (.tup [.str "name",.str x])->bC H (.ref a) (.name x)
 | arg {a:Addr}:H a=some (.tup [.str "arg"])->bC H (.ref a) .arg
 | now {a:Addr}:H a=some (.tup [.str "now"])->bC H (.ref a) .now
 | Xz {a:Addr} {v:V} {s:Say}:H a=some (.tup [.str "answer",v])->bC H v s->bC H (.ref a) (.Xz s)
 | neg {a:Addr} {v:V} {s:Say}:H a=some (.tup [.str "not",v])->bC H v s->bC H (.ref a) (.neg s)
 | two {a:Addr} {v u:V} {g:Sg} {s r:Say}:H a=some (.tup [.str g.s,v,u])->bC H v s->bC H u r->bC H (.ref a) (.two g s r)
noncomputable def aJ(H H':Hp):Prop:=∀ a xs,H a=some (.tup xs)->H' a=some (.tup xs)
theorem bC.kp{H H':Hp}{v:V}{s:Say}(h:bC H v s)(k:aJ H H'):bC H' v s:=by
 induction h with
 | num e=>exact .num (k _ _ e)
 | W3 e=>exact .W3 (k _ _ e)
 | name e=>exact .name (k _ _ e)
 | arg e=>exact .arg (k _ _ e)
 | now e=>exact .now (k _ _ e)
 | Xz e _ ih=>exact .Xz (k _ _ e) ih
 | neg e _ ih=>exact .neg (k _ _ e) ih
 | two e _ _ i1 i2=>exact .two (k _ _ e) i1 i2
theorem aJ.of{S:List Addr}{H H':Hp}(k:Kp S H H')(h:∀ a∈S,∃ o,H a=some o/\∀ xs,o≠.tup xs):aJ H H':=fun a xs e=>k a _ e fun z=>by
 obtain⟨o,e',d⟩:=h a z;rw[e] at e';exact d xs (Option.some.inj e').symm
theorem aJ.new{H:Hp}{p:Addr}{o:HO}(h:H p=none):aJ H (WZ H p o):=fun a xs e=>by rw[aV (aL e h)];exact e
theorem aJ.trans{H H1 H2:Hp}(a:aJ H H1)(b:aJ H1 H2):aJ H H2:=fun x xs e=>b x xs (a x xs e)
theorem aJ.row{r:Addr}{H H':Hp}(k:Kp [r] H H')(R:bQ H r):aJ H H':=.of k fun a ha=>by
 obtain⟨c,l,f,e,_⟩:=R;have:a=r:=by simpa using ha
 exact⟨_,this▸e,fun _ h=>by cases h⟩
noncomputable def Say.depth:Say->Nat
 | .Xz s=>s.depth+1 | .neg s=>s.depth+1 | .two _ a b=>max a.depth b.depth+1 | .num _=>1 | .W3=>1 | .name _=>1 | .arg=>1 | .now=>1
noncomputable def Say.ok:Say->Prop
 | .num n=>-1000000000<=n/\n<=1000000000 | .Xz s=>s.ok | .neg s=>s.ok | .two _ a b=>a.ok/\b.ok|_=>True
theorem Say.Bq(s:Say):1<=s.depth:=by cases s<;>simp[Say.depth]
structure Pl where
 nm:Str->Wo
 ar:Wo
 now:Int
 an:Wo->Wo
structure Pl.Ok(p:Pl):Prop where
 nm:∀ x,A4 (p.nm x)
 ar:A4 p.ar
 an:∀ w,A4 (p.an w)
noncomputable def ev(p:Pl):Say->Wo
 | .num n=>some n
 | .W3=>none
 | .name x=>p.nm x
 | .arg=>p.ar
 | .now=>some (clamp p.now)
 | .Xz s=>p.an (ev p s)
 | .neg s=>some (if num (ev p s)=0 then 1 else 0)
 | .two g a b=>some (g.of (ev p a) (ev p b))
noncomputable def KY(H:Hp)(d:Addr)(f:Str->Wo):Prop:=∃ W0,H d=some (.dK W0)/\∀ x,(dX W0 (.inr x)).getD .W3=wv (f x)
noncomputable def KU(H:Hp)(d:Addr)(f:Wo->Wo):Prop:=∃ W0,H d=some (.dK W0)/\∀ w,(dX W0 (wk w)).getD .W3=wv (f w)
noncomputable def Gv:Sp:=fun vs H Q _=>∃ r:Addr,vs=[.ref r]/\bQ H r/\∀(w:Wo) (H':Hp),A4 w->bQ H' r->Kp [r] H H'->Q (wv w) H'
theorem MJ{r:Addr}{H:Hp}{Q:VK}{E:XK}:Gv [.ref r] H Q E=(bQ H r/\∀(w:Wo) (H':Hp),A4 w->bQ H' r->Kp [r] H H'->Q (wv w) H') :=
 propext ⟨fun⟨_,e,h⟩=>by cases e;exact h,fun h=>⟨_,rfl,h⟩⟩
noncomputable def mO:List V:=[.str "order",.str "timer",.str "child",.str "send",.str "drop",.str "wait",.str "hear",.str "if",.str "else",.str "done",.str "while",.str "end",.str "none",.str "arg",.str "now",.str "answer",.str "not"]
theorem JT:mO.all cY=true:=by decide
noncomputable def NO:Sp:=fun vs H Q _=>vs=[]/\∀(p:Addr) (H':Hp),H p=none->Kp [] H H'->H' p=some (.lst mO)->Q (.ref p) H'
theorem Uz{H:Hp}{Q:VK}{E:XK}:NO [] H Q E = ∀(p:Addr) (H':Hp),H p=none->Kp [] H H'->H' p=some (.lst mO)->Q (.ref p) H':=propext ⟨fun h=>h.2,fun h=>⟨rfl,h⟩⟩
noncomputable def Rn(n:Nat):Sp:=fun vs H Q _=>∃ r:Addr,vs=[.ref r]/\bQ H r/\∀(x:Str) (H':Hp),x.length<=n->bQ H' r->Kp [r] H H'->Q (.str x) H'
theorem Q1{n:Nat}{r:Addr}{H:Hp}{Q:VK}{E:XK}:Rn n [.ref r] H Q E=(bQ H r/\∀(x:Str) (H':Hp),x.length<=n->bQ H' r->Kp [r] H H'->Q (.str x) H') :=
 propext ⟨fun⟨_,e,h⟩=>by cases e;exact h,fun h=>⟨_,rfl,h⟩⟩
noncomputable def dG(x:Str):Prop:=(decide (1<=x.length)&&(decide (x.length<=6)&&(x.cps.toList.all (fun c=>decide (97<=c)&&decide (c<=122))&&!cE (.str x) mO)))=true
theorem dG.len{x:Str}(h:dG x):x.length<=20:=by
 unfold dG at h;simp only[Bool.and_eq_true,decide_eq_true_eq] at h;omega
noncomputable def Ke:Sp:=fun vs H Q _=>∃ r:Addr,vs=[.ref r]/\bQ H r/\∀(x:Str) (H':Hp),dG x->bQ H' r->Kp [r] H H'->Q (.str x) H'
theorem QZ{r:Addr}{H:Hp}{Q:VK}{E:XK}:Ke [.ref r] H Q E=(bQ H r/\∀(x:Str) (H':Hp),dG x->bQ H' r->Kp [r] H H'->Q (.str x) H') :=
 propext ⟨fun⟨_,e,h⟩=>by cases e;exact h,fun h=>⟨_,rfl,h⟩⟩
theorem bE(a b:Str):(a++b).length=a.length+b.length:=by
 show(a.cps++b.cps).size=_;rw[Array.size_append];rfl
theorem lX(x:Str)(a b:Option Int):(Txt.slice x a b).length<=x.length:=Txt.slice_le x a b
theorem Mw(c:Nat):(⟨#[c]⟩:Str).length=1:=rfl
theorem Uk:("x":Str).length=1/\("z":Str).length=1/\("s":Str).length=1/\("q":Str).length=1/\("":Str).length=0/\("abcdefghijklmnopqrstuvwxyz":Str).length=26:=by decide +kernel
structure Dj(H:Hp)(r nl lf:Addr)(dp:Int)(xs:List Str)(k:Int):Prop where
 row:bQ H r
 lo:1<=dp
 XA:H nl=some (.lst (xs.map V.str))
 l0:1<=xs.length
 l1:xs.length<=1000
 XZ:H lf=some (.lst [.int k])
 n1:nl≠r
 n2:lf≠r
 n3:nl≠lf
noncomputable def Say.nms:Say->List Str
 | .name x=>[x] | .Xz s=>s.nms | .neg s=>s.nms | .two _ a b=>a.nms++b.nms | .num _=>[] | .W3=>[] | .arg=>[] | .now=>[]
structure xR(H H':Hp)(r lf:Addr)(dp:Int)(xs:List Str)(v:V)(s:Say):Prop where
 say:bC H' v s
 hdp:(s.depth:Int)<=dp
 ok:s.ok
 row:bQ H' r
 XZ:∃ k,H' lf=some (.lst [.int k])
 kp:Kp [r,lf] H H'
 nms:∀ x∈s.nms,x∈xs
theorem aJ.two{r lf:Addr}{H H':Hp}{k:Int}(x:Kp [r,lf] H H')(R:bQ H r)(l:H lf=some (.lst [.int k])):aJ H H':=.of x fun a ha=>by
 obtain⟨c,l',f,e,_⟩:=R;simp only[List.mem_cons,List.not_mem_nil,or_false] at ha;rcases ha with rfl|rfl
 ·exact⟨_,e,fun _ h=>by cases h⟩
 ·exact⟨_,l,fun _ h=>by cases h⟩
theorem Dj.kp{H H':Hp}{r nl lf:Addr}{dp:Int}{xs:List Str}{k k':Int}(I:Dj H r nl lf dp xs k)(x:Kp [r,lf] H H')(R:bQ H' r)(l:H' lf=some (.lst [.int k'])){e:Int}(he:1<=e):Dj H' r nl lf e xs k' :=
 ⟨R,he,x _ _ I.XA (by simp[I.n1,I.n3]),I.l0,I.l1,l,I.n1,I.n2,I.n3⟩
noncomputable def Ay(d:Nat):Sp:=fun vs H Q _=>∃(r nl lf:Addr) (dp:Int) (xs:List Str) (k:Int),vs=[.ref r,.int dp,.ref nl,.ref lf]/\Dj H r nl lf dp xs k/\dp<=d/\∀(v:V) (s:Say) (H':Hp),xR H H' r lf dp xs v s->Q v H'
structure DOk(W0:List (Key×V)):Prop where
 val:∀ kv∈W0,∃ w,kv.2=wv w/\A4 w
 nd:(W0.map (·.1)).Nodup
theorem DOk.nil:DOk []:=⟨fun _ h=>(by cases h),by simp⟩
theorem JB{W0:List (Key×V)}{k:Key}{v:V}{kv:Key×V}(h:kv∈k9 W0 k v):kv=(k,v)\/kv∈W0:=by
 unfold k9 at h;split at h
 ·obtain⟨y,hy,e⟩:=List.mem_map.mp h;by_cases c:y.1=k
  ·rw[if_pos c] at e;exact .inl (by rw[<- e,c])
  ·rw[if_neg c] at e;exact .inr (e▸hy)
 ·rcases List.mem_append.mp h with h|h
  ·exact .inr h
  ·exact .inl (by simpa using h)
theorem Hi(W0:List (Key×V))(k:Key)(v:V)(h:(W0.any fun kv=>decide (kv.1=k))=true):(k9 W0 k v).map (·.1)=W0.map (·.1):=by
 unfold k9;rw[if_pos h,List.map_map];refine List.map_congr_left fun kv _=>?_;simp only[Function.comp];split<;>rfl
theorem DOk.put{W0:List (Key×V)}(h:DOk W0)(k:Key){w:Wo}(hw:A4 w):DOk (k9 W0 k (wv w)):=by
  refine⟨fun kv hm=>?_,?_⟩
  · rcases JB hm with e|e
    · exact⟨w,by rw[e],hw⟩
    · exact h.val kv e
  · cases e:(W0.any fun kv=>decide (kv.1=k)) with
    | true=>rw[Hi W0 k _ e];exact h.nd
    | false=>exact Ms _ h.nd (by
        rw[pC] at e;cases q:dX W0 k with
        | none=>rfl
        | some z=>rw[q] at e;cases e)
noncomputable def WO:V->Wo
 | .int n=>some n
 | _=>none
theorem Rz(w:Wo):WO (wv w)=w:=by cases w<;>rfl
noncomputable def look(W0:List (Key×V))(k:Key):Wo:=WO ((dX W0 k).getD .W3)
theorem KC{W0:List (Key×V)}{k:Key}{v:V}(h:dX W0 k=some v):(k,v)∈W0:=by
 unfold dX at h;obtain⟨kv,e,rfl⟩:=Option.map_eq_some_iff.mp h;have h1:=List.mem_of_find?_eq_some e;have h2:kv.1=k:=by simpa using List.find?_some e
 rw[<- h2];exact h1
theorem DOk.look{W0:List (Key×V)}(h:DOk W0)(k:Key):(dX W0 k).getD .W3=wv (look W0 k)/\A4 (look W0 k):=by
 unfold Own.look;cases e:dX W0 k with
 | none=>exact⟨rfl,DP⟩
 | some v =>
  obtain⟨w,e2,hw⟩:=h.val _ (KC e);have e3:v=wv w:=e2;subst e3;rw[Option.getD_some,Rz];exact⟨rfl,hw⟩
theorem DOk.nm{H:Hp}{d:Addr}{W0:List (Key×V)}(h:DOk W0)(e:H d=some (.dK W0)):KY H d (fun x=>Own.look W0 (.inr x)):=⟨W0,e,fun x=>(h.look _).1⟩
theorem DOk.an{H:Hp}{d:Addr}{W0:List (Key×V)}(h:DOk W0)(e:H d=some (.dK W0)):KU H d (fun w=>Own.look W0 (wk w)):=⟨W0,e,fun x=>(h.look _).1⟩
theorem _root_.L2.Kp.free{S:List Addr}{H H':Hp}{a p:Addr}{o:HO}(k:Kp S H H')(e:H a=some o)(n:a∉S)(h:H' p=none):a≠p:=aL (k a o e n) h
noncomputable def MS:Sp:=fun vs H Q _=>∃ a b:Wo,vs=[wv a,wv b]/\Q (.bl (decide (a=b))) H
theorem MH{a b:Wo}{H:Hp}{Q:VK}{E:XK}:MS [wv a,wv b] H Q E=Q (.bl (decide (a=b))) H :=
 propext ⟨fun⟨c,d,e,h⟩=>by simp only[List.cons.injEq,and_true] at e;rw[Fw e.1,Fw e.2];exact h,fun h=>⟨a,b,rfl,h⟩⟩
theorem Iy(ns:List Int)(lo hi:Option Int):∃ ms:List Int,kU (ns.map V.int) lo hi=ms.map V.int/\ms.length<=ns.length:=by
 unfold kU;rw[<- List.map_drop,<- List.map_take];exact⟨_,rfl,by rw[List.length_take,List.length_drop];omega⟩
theorem Mg{ms:List Int}{i:Nat}{y:V}(h:(ms.map V.int)[i]?=some y):∃ z:Int,y=.int z:=by
 rw[List.getElem?_map] at h;cases e:ms[i]? with
 | none=>rw[e] at h;cases h
 | some z=>rw[e] at h;exact⟨z,(Option.some.inj h).symm⟩
theorem KY.kp{H H':Hp}{S:List Addr}{d:Addr}{f:Str->Wo}(h:KY H d f)(k:Kp S H H')(n:d∉S):KY H' d f:=by
 obtain⟨W0,e,q⟩:=h;exact⟨W0,k _ _ e n,q⟩
theorem KU.kp{H H':Hp}{S:List Addr}{d:Addr}{f:Wo->Wo}(h:KU H d f)(k:Kp S H H')(n:d∉S):KU H' d f:=by
 obtain⟨W0,e,q⟩:=h;exact⟨W0,k _ _ e n,q⟩
theorem Gn{a b:String}:(Str.ofString a==Str.ofString b)=decide (a=b):=by
 by_cases h:a=b
 ·subst h;simp
 ·rw[decide_eq_false h];exact beq_eq_false_iff_ne.mpr (fun z=>h (by rwa [cF] at z))
theorem aJ.nil{H H':Hp}(k:Kp [] H H'):aJ H H':=fun a xs e=>k a _ e (by simp)
noncomputable def MB:List Str:=["order","timer","child","send","drop","wait","hear","if","else","done","while","end","none","arg","now","answer","not"]
theorem MC:∀ x∈MB,x.length<=6/\dG (Txt.slice x none (some (-1))++"z")/\dG (Txt.slice (x++"s") (some (-6)) none)/\dG (Txt.slice x none (some 5)++"x"):=by
 unfold dG;decide +kernel
theorem JS:∀ x∈MB,dG (Txt.slice x none (some 5)++"q"):=by
 unfold dG;decide +kernel
theorem QU{v:V}(h:v∈mO):∃ x:Str,v=.str x/\x.length<=6/\dG (Txt.slice x none (some (-1))++"z")/\dG (Txt.slice (x++"s") (some (-6)) none)/\dG (Txt.slice x none (some 5)++"x"):=by
 have h:v∈MB.map V.str:=h;obtain⟨x,hx,rfl⟩:=List.mem_map.mp h;exact⟨x,rfl,MC x hx⟩
theorem Ut{x:Str}(h:cE (.str x) mO=true):dG (Txt.slice x none (some 5)++"q"):=by
 have h:(MB.map V.str).any (fun y=>Di y (.str x))=true:=h;obtain⟨v,hv,e⟩:=List.any_eq_true.mp h;obtain⟨y,hy,rfl⟩:=List.mem_map.mp hv;have e:(y==x)=true:=e;rw[<- eq_of_beq e];exact JS y hy
theorem Q8:∀ v∈([.str "x",.str "y",.str "xx",.str "zz",.str "abcdef",.str "abcdeg"]:List V),∃ x:Str,v=.str x/\dG x:=by
 intro v h;simp only[List.mem_cons,List.not_mem_nil,or_false] at h;rcases h with h|h|h|h|h|h<;>exact⟨_,h,by unfold dG;decide +kernel⟩
theorem GH:∀ c∈("abcdefghijklmnopqrstuvwxyz":Str).cps.toList,(decide (97<=c)&&decide (c<=122))=true:=by decide +kernel
theorem Um{x:Str}(h1:1<=x.length)(h6:x.length<=6)(hc:x.cps.toList.all (fun c=>decide (97<=c)&&decide (c<=122))=true)(hn:¬ cE (.str x) mO=true):dG x:=by
 unfold dG;simp only[h1,h6,decide_true,hc,Bool.true_and];simpa using hn
theorem HU{x:Str}{c:Nat}{p:Nat->Bool}(h:x.cps.toList.all p=true)(hc:p c=true):(x++(⟨#[c]⟩:Str)).cps.toList.all p=true:=by
 show(x.cps++#[c]).toList.all p=true;rw[Array.toList_append,List.all_append,h,Bool.true_and];simpa using hc
theorem slen(x:String):(Str.ofString x).length=x.length:=PySem.ofString_length x
theorem ilen{n:Int}(h0:-1000000000<=n)(h1:n<=1000000000):(Str.ofString (toString n)).length<=20:=by
 rw[slen];cases n with
 | ofNat m =>
  show(Nat.repr m).length<=20;have:(Nat.repr m).length<=19:=(Nat.length_repr_le_iff (by decide)).mpr (by have:(Int.ofNat m)=(m:Int):=rfl;omega);omega
 | negSucc m =>
  show("-"++Nat.repr (m+1)).length<=20;have:(Nat.repr (m+1)).length<=19:=(Nat.length_repr_le_iff (by decide)).mpr (by
   have:Int.negSucc m = -((m:Int)+1):=by omega
   omega)
  rw[String.length_append];show 1+_<=20;omega
theorem ilog{n:Int}(h0:-1000000000<=n)(h1:n<=1000000000):n.natAbs.log2 < 1920:=by
 have h:n.natAbs < 2 ^ 1920:=Nat.lt_of_le_of_lt (show n.natAbs<=1000000000 by omega) (Nat.lt_of_lt_of_le (show 1000000000 < 2 ^ 30 by decide) (Nat.pow_le_pow_right (by decide) (by decide)));by_cases z:n.natAbs=0
 ·rw[z];decide
 ·exact(Nat.log2_lt z).mpr h
noncomputable def wd:Say->Str
 | .num n=>Str.ofString (toString n)
 | .W3=>"none"
 | .name x=>x
 | .arg=>"arg"
 | .now=>"now"
 | .Xz s=>("answer":Str)++" "++wd s
 | .neg s=>("not":Str)++" "++wd s
 | .two g a b=>("( ":Str)++wd a++" "++g.s++" "++wd b++" )"
noncomputable def Say.sh(s:Say):Prop:=s.ok/\∀ x∈s.nms,dG x
theorem lens:("none":Str).length=4/\("arg":Str).length=3/\("now":Str).length=3/\("answer":Str).length=6/\("not":Str).length=3/\("( ":Str).length=2/\(" ":Str).length=1/\(" )":Str).length=2:=by decide +kernel
theorem Sg.len(g:Sg):g.s.length=1:=by cases g<;>decide +kernel
theorem Rx{s:Say}(h:s.sh):(wd s).length+7<=27 * 2 ^ s.depth:=by
 induction s with
 | num n =>
  have:=ilen h.1.1 h.1.2;simp only[wd,Say.depth];omega
 | W3=>simp only[wd,Say.depth,lens.1];omega
 | name x =>
  have:=(h.2 x (by simp[Say.nms])).len;simp only[wd,Say.depth];omega
 | arg=>simp only[wd,Say.depth,lens.2.1];omega
 | now=>simp only[wd,Say.depth,lens.2.2.1];omega
 | Xz s ih =>
  have:=ih ⟨h.1,h.2⟩;simp only[wd,Say.depth,bE,lens.2.2.2.1,lens.2.2.2.2.2.2.1,Nat.pow_succ];omega
 | neg s ih =>
  have:=ih ⟨h.1,h.2⟩;simp only[wd,Say.depth,bE,lens.2.2.2.2.1,lens.2.2.2.2.2.2.1,Nat.pow_succ];omega
 | two g a b i1 i2 =>
  have h1:=i1 ⟨h.1.1,fun x hx=>h.2 x (List.mem_append_left _ hx)⟩;have h2:=i2 ⟨h.1.2,fun x hx=>h.2 x (List.mem_append_right _ hx)⟩;have p1:2 ^ a.depth<=2 ^ max a.depth b.depth:=Nat.pow_le_pow_right (by decide) (Nat.le_max_left _ _);have p2:2 ^ b.depth<=2 ^ max a.depth b.depth:=Nat.pow_le_pow_right (by decide) (Nat.le_max_right _ _);simp only[wd,Say.depth,bE,lens.2.2.2.2.2.1,lens.2.2.2.2.2.2,g.len,Nat.pow_succ];omega
theorem gD{s:Say}(h:s.sh)(d:s.depth<=6):(wd s).length<=1800:=by
 have h1:=Rx h;have h2:2 ^ s.depth<=2 ^ 6:=Nat.pow_le_pow_right (by decide) d;omega
noncomputable def C1(d:Nat):Sp:=fun vs H Q _=>∃(v:V) (s:Say),vs=[v]/\bC H v s/\s.depth<=d/\s.depth<=6/\s.sh/\∀ H',Kp [] H H'->Q (.str (wd s)) H'
theorem jM{x a b:String}:cE (.str (Str.ofString x)) [.str (Str.ofString a),.str (Str.ofString b)]=(decide (a=x)||decide (b=x)):=by
 simp only[cE,dB,gL,List.any_cons,List.any_nil,Bool.or_false,Gn]
theorem zC{x a b c d:String}:cE (.str (Str.ofString x)) [.str (Str.ofString a),.str (Str.ofString b),.str (Str.ofString c),.str (Str.ofString d)]=(decide (a=x)||(decide (b=x)||(decide (c=x)||decide (d=x)))):=by
 simp only[cE,dB,gL,List.any_cons,List.any_nil,Bool.or_false,Gn]
theorem flat2{a b:Str}:([.str a,.str b]:List V).all cY=true:=rfl
theorem flat4{a b c d:Str}:([.str a,.str b,.str c,.str d]:List V).all cY=true:=rfl
inductive Stm where
 | set (x:Str) (s:Say)|order (x y:Str) (s:Say)|W4 (x:Str) (s:Say)|child (x y:Str) (s:Say)|send (s:Say) (k:Str) (r:Say)|drop (s:Say)
 | wait (x:Str) (ss:List Say)|W9 (x k:Str)|fin (s:Say)|Xd (s:Say) (b:List Stm)|iff (s:Say) (b o:List Stm)
inductive cT(H:Hp):List V->List Say->Prop
 | nil:cT H [] []
 | cons {v:V} {vs:List V} {s:Say} {ss:List Say}:bC H v s->cT H vs ss->cT H (v::vs) (s::ss)
theorem cT.kp{H H':Hp}{vs:List V}{ss:List Say}(h:cT H vs ss)(k:aJ H H'):cT H' vs ss:=by
 induction h with
 | nil=>exact .nil
 | cons a _ ih=>exact .cons (a.kp k) ih
mutual
inductive bV(H:Hp):V->Stm->Prop
 | set {a:Addr} {x:Str} {v:V} {s:Say}:H a=some (.tup [.str "set",.str x,v])->bC H v s->bV H (.ref a) (.set x s)
 | order {a:Addr} {x y:Str} {v:V} {s:Say}:H a=some (.tup [.str "order",.str x,.str y,v])->bC H v s->bV H (.ref a) (.order x y s)
 | W4 {a:Addr} {x:Str} {v:V} {s:Say}:H a=some (.tup [.str "timer",.str x,v])->bC H v s->bV H (.ref a) (.W4 x s)
 | child {a:Addr} {x y:Str} {v:V} {s:Say}:H a=some (.tup [.str "child",.str x,.str y,v])->bC H v s->bV H (.ref a) (.child x y s)
 | send {a:Addr} {k:Str} {v u:V} {s r:Say}:H a=some (.tup [.str "send",v,.str k,u])->bC H v s->bC H u r->bV H (.ref a) (.send s k r)
 | drop {a:Addr} {v:V} {s:Say}:H a=some (.tup [.str "drop",v])->bC H v s->bV H (.ref a) (.drop s)
 | wait {a p:Addr} {x:Str} {vs:List V} {ss:List Say}:H a=some (.tup [.str "wait",.str x,.ref p])->H p=some (.tup vs)->cT H vs ss->bV H (.ref a) (.wait x ss)
 | W9 {a:Addr} {x k:Str}:H a=some (.tup [.str "hear",.str x,.str k])->bV H (.ref a) (.W9 x k)
 | fin {a:Addr} {v:V} {s:Say}:H a=some (.tup [.str "end",v])->bC H v s->bV H (.ref a) (.fin s)
 | Xd {a p:Addr} {v:V} {s:Say} {vs:List V} {b:List Stm}:H a=some (.tup [.str "while",v,.ref p])->bC H v s->H p=some (.tup vs)->bJ H vs b->bV H (.ref a) (.Xd s b)
 | iff {a p q:Addr} {v:V} {s:Say} {vs us:List V} {b o:List Stm}:H a=some (.tup [.str "if",v,.ref p,.ref q])->bC H v s->H p=some (.tup vs)->bJ H vs b->H q=some (.tup us)->bJ H us o->bV H (.ref a) (.iff s b o)
inductive bJ(H:Hp):List V->List Stm->Prop
 | nil:bJ H [] []
 | cons {v:V} {vs:List V} {x:Stm} {xs:List Stm}:bV H v x->bJ H vs xs->bJ H (v::vs) (x::xs)
end
theorem bV.kp{H H':Hp}(k:aJ H H'){v:V}{m:Stm}(h:bV H v m):bV H' v m :=
 bV.rec (motive_1:=fun v m _=>bV H' v m) (motive_2:=fun vs ms _=>bJ H' vs ms)
  (fun e s=>.set (k _ _ e) (s.kp k)) (fun e s=>.order (k _ _ e) (s.kp k)) (fun e s=>.W4 (k _ _ e) (s.kp k)) (fun e s=>.child (k _ _ e) (s.kp k))
  (fun e s r=>.send (k _ _ e) (s.kp k) (r.kp k)) (fun e s=>.drop (k _ _ e) (s.kp k)) (fun e f s=>.wait (k _ _ e) (k _ _ f) (s.kp k)) (fun e=>.W9 (k _ _ e)) (fun e s=>.fin (k _ _ e) (s.kp k))
  (fun e s f _ b=>.Xd (k _ _ e) (s.kp k) (k _ _ f) b) (fun e s f _ f' _ b b'=>.iff (k _ _ e) (s.kp k) (k _ _ f) b (k _ _ f') b') .nil (fun _ _ a b=>.cons a b) h
theorem bJ.kp{H H':Hp}(k:aJ H H'){vs:List V}{ms:List Stm}(h:bJ H vs ms):bJ H' vs ms :=
 bJ.rec (motive_1:=fun v m _=>bV H' v m) (motive_2:=fun vs ms _=>bJ H' vs ms)
  (fun e s=>.set (k _ _ e) (s.kp k)) (fun e s=>.order (k _ _ e) (s.kp k)) (fun e s=>.W4 (k _ _ e) (s.kp k)) (fun e s=>.child (k _ _ e) (s.kp k))
  (fun e s r=>.send (k _ _ e) (s.kp k) (r.kp k)) (fun e s=>.drop (k _ _ e) (s.kp k)) (fun e f s=>.wait (k _ _ e) (k _ _ f) (s.kp k)) (fun e=>.W9 (k _ _ e)) (fun e s=>.fin (k _ _ e) (s.kp k))
  (fun e s f _ b=>.Xd (k _ _ e) (s.kp k) (k _ _ f) b) (fun e s f _ f' _ b b'=>.iff (k _ _ e) (s.kp k) (k _ _ f) b (k _ _ f') b') .nil (fun _ _ a b=>.cons a b) h
noncomputable def glue(t:Str)(ys:List Str):Str:=ys.foldl (fun t y=>t++" "++y) t
noncomputable def Say.s6(s:Say):Prop:=s.sh/\s.depth<=6
noncomputable def Stm.hd:Stm->Str
 | .set x s=>x++" = "++wd s
 | .order x y s=>glue (x++" = "++"order") [y,wd s]
 | .W4 x s=>glue (x++" = "++"timer") [wd s]
 | .child x y s=>glue (x++" = "++"child") [y,wd s]
 | .send s k r=>("send ":Str)++wd s++" "++k++" "++wd r
 | .drop s=>("drop":Str)++" "++wd s
 | .wait x ss=>glue (x++" = "++"wait") (ss.map wd)
 | .W9 x k=>glue (x++" = "++"hear") [k]
 | .fin s=>("end":Str)++" "++wd s
 | .Xd s _=>("while":Str)++" "++wd s
 | .iff s _ _=>("if":Str)++" "++wd s
noncomputable def Stm.W5:Stm->Prop
 | .set x s=>dG x/\s.s6
 | .order x y s=>dG x/\dG y/\s.s6
 | .W4 x s=>dG x/\s.s6
 | .child x y s=>dG x/\dG y/\s.s6
 | .send s k r=>s.s6/\dG k/\r.s6
 | .drop s=>s.s6
 | .wait x ss=>dG x/\(1<=ss.length/\ss.length<=4)/\∀ s∈ss,s.s6
 | .W9 x k=>dG x/\dG k
 | .fin s=>s.s6
 | .Xd s _=>s.s6
 | .iff s _ _=>s.s6
noncomputable def qR(H:Hp)(v:V)(y:Str):Prop:=v=.str y/\dG y\/∃ s:Say,bC H v s/\s.s6/\y=wd s
theorem qR.kp{H H':Hp}{v:V}{y:Str}(h:qR H v y)(k:aJ H H'):qR H' v y:=h.imp id fun⟨s,a,b⟩=>⟨s,a.kp k,b⟩
theorem qR.len{H:Hp}{v:V}{y:Str}(h:qR H v y):y.length<=1800:=by
 rcases h with⟨_,h⟩|⟨s,_,h,rfl⟩
 ·have:=h.len;omega
 ·exact gD h.1 h.2
inductive dY(H:Hp):List V->List Str->Prop
 | nil:dY H [] []
 | cons {v:V} {vs:List V} {y:Str} {ys:List Str}:qR H v y->dY H vs ys->dY H (v::vs) (y::ys)
theorem dY.at{H:Hp}{vs:List V}{ys:List Str}(h:dY H vs ys):∀ {i:Nat} {x:V},vs[i]?=some x->∃ y,ys[i]?=some y/\qR H x y:=by
 induction h with
 | nil=>intro i x e;simp at e
 | cons a _ ih =>
  intro i x e;cases i with
  | zero=>simp only[List.getElem?_cons_zero,Option.some.injEq] at e;subst e;exact⟨_,rfl,a⟩
  | succ i=>exact ih (by simpa using e)
theorem dY.len{H:Hp}{vs:List V}{ys:List Str}(h:dY H vs ys):ys.length=vs.length:=by
 induction h with
 | nil=>rfl
 | cons _ _ ih=>simp[ih]
theorem dY.all{H:Hp}{vs:List V}{ys:List Str}(h:dY H vs ys):∀ y∈ys,y.length<=1800:=by
 induction h with
 | nil=>intro y hy;cases hy
 | cons a _ ih =>
  intro y hy;rcases List.mem_cons.mp hy with rfl|hy
  ·exact a.len
  ·exact ih y hy
theorem Fh{H:Hp}{vs:List V}{ss:List Say}(h:cT H vs ss)(a:∀ s∈ss,s.s6):dY H vs (ss.map wd):=by
 induction h with
 | nil=>exact .nil
 | cons b _ ih=>exact .cons (.inr ⟨_,b,a _ (by simp),rfl⟩) (ih fun s hs=>a s (List.mem_cons_of_mem _ hs))
theorem pJ(t:Str)(l:List Str)(y:Str):glue t (l++[y])=glue t l++" "++y:=by simp[glue]
theorem zA(t:Str):∀(l:List Str),(∀ y∈l,y.length<=1800)->(glue t l).length<=t.length+1801 * l.length:=by
 intro l
 induction l generalizing t with
 | nil=>intro _;exact Nat.le_refl _
 | cons y l ih =>
  intro h;have h1:=ih (t++" "++y) fun z hz=>h z (List.mem_cons_of_mem _ hz);have h2:=h y (by simp);have h3:(glue t (y::l))=glue (t++" "++y) l:=rfl;rw[h3];simp only[bE,lens.2.2.2.2.2.2.1,List.length_cons] at h1 ⊢;omega
theorem bC.tup{H:Hp}{v:V}{s:Say}(h:bC H v s):∃ a xs,v=.ref a/\H a=some (.tup xs):=by
 cases h<;>exact⟨_,_,rfl,by assumption⟩
theorem jU{l:List Str}{i:Nat}{y:Str}(h:l[i]?=some y):l.take (i+1)=l.take i++[y]:=by rw[List.take_add_one,h];rfl
theorem hlens:("send ":Str).length=5/\(" = ":Str).length=3/\("order":Str).length=5/\("timer":Str).length=5/\("child":Str).length=5/\("wait":Str).length=4/\("hear":Str).length=4/\("drop":Str).length=4/\("end":Str).length=3/\("while":Str).length=5/\("if":Str).length=2:=by decide +kernel
noncomputable def Stm.is4:Stm->Bool
 | .drop _=>true | .fin _=>true | .Xd _ _=>true | .iff _ _ _=>true|_=>false
theorem bV.four{H:Hp}{v:V}{m:Stm}(h:bV H v m)(hm:m.W5):m.is4=false\/∃(a:Addr) (w:Str) (u:V) (r:List V) (s:Say),v=.ref a/\H a=some (.tup (.str w::u::r))/\bC H u s/\cE (.str w) [.str "if",.str "while",.str "drop",.str "end"]=true/\w.length<=5/\s.sh/\s.depth<=6/\m.hd=w++" "++wd s:=by
 have l:=hlens;cases h with
 | drop e s=>exact .inr ⟨_,_,_,_,_,rfl,e,s,by rw[zC];decide,by omega,hm.1,hm.2,rfl⟩
 | fin e s=>exact .inr ⟨_,_,_,_,_,rfl,e,s,by rw[zC];decide,by omega,hm.1,hm.2,rfl⟩
 | Xd e s f b=>exact .inr ⟨_,_,_,_,_,rfl,e,s,by rw[zC];decide,by omega,hm.1,hm.2,rfl⟩
 | iff e s f b f2 b2=>exact .inr ⟨_,_,_,_,_,rfl,e,s,by rw[zC];decide,by omega,hm.1,hm.2,rfl⟩
 | _=>exact .inl rfl
noncomputable def Stm.isL:Stm->Bool
 | .order _ _ _=>true | .child _ _ _=>true | .W4 _ _=>true | .W9 _ _=>true|_=>false
theorem dY.kp{H H':Hp}{vs:List V}{ys:List Str}(h:dY H vs ys)(k:aJ H H'):dY H' vs ys:=by
 induction h with
 | nil=>exact .nil
 | cons a _ ih=>exact .cons (a.kp k) ih
theorem bV.lop{H:Hp}{v:V}{m:Stm}(h:bV H v m)(hm:m.W5):m.isL=false\/∃(a:Addr) (w x:Str) (r:List V) (ys:List Str),v=.ref a/\H a=some (.tup (.str w::.str x::r))/\dY H r ys/\dG x/\cE (.str w) [.str "if",.str "while",.str "drop",.str "end"]=false/\((w=("send":Str))=False)/\((w=("set":Str))=False)/\((w=("wait":Str))=False)/\w.length<=5/\kU (.str w::.str x::r) (some 2) none=r/\r.length<=2/\ys.length<=4/\m.hd=glue (x++" = "++w) ys:=by
 have l:=hlens;cases h with
 | order e s=>exact .inr ⟨_,_,_,_,_,rfl,e,.cons (.inl ⟨rfl,hm.2.1⟩) (.cons (.inr ⟨_,s,hm.2.2,rfl⟩) .nil),hm.1,by rw[zC];decide,by simp only[cF,String.reduceEq],by simp only[cF,String.reduceEq],by simp only[cF,String.reduceEq],by omega,rfl,by simp,by simp,rfl⟩
 | child e s=>exact .inr ⟨_,_,_,_,_,rfl,e,.cons (.inl ⟨rfl,hm.2.1⟩) (.cons (.inr ⟨_,s,hm.2.2,rfl⟩) .nil),hm.1,by rw[zC];decide,by simp only[cF,String.reduceEq],by simp only[cF,String.reduceEq],by simp only[cF,String.reduceEq],by omega,rfl,by simp,by simp,rfl⟩
 | W4 e s=>exact .inr ⟨_,_,_,_,_,rfl,e,.cons (.inr ⟨_,s,hm.2,rfl⟩) .nil,hm.1,by rw[zC];decide,by simp only[cF,String.reduceEq],by simp only[cF,String.reduceEq],by simp only[cF,String.reduceEq],by omega,rfl,by simp,by simp,rfl⟩
 | W9 e=>exact .inr ⟨_,_,_,_,_,rfl,e,.cons (.inl ⟨rfl,hm.2⟩) .nil,hm.1,by rw[zC];decide,by simp only[cF,String.reduceEq],by simp only[cF,String.reduceEq],by simp only[cF,String.reduceEq],by omega,rfl,by simp,by simp,rfl⟩
 | _=>exact .inl rfl
noncomputable def Rc:Sp:=fun vs H Q _=>∃(v:V) (m:Stm),vs=[v]/\bV H v m/\m.W5/\∀ H',Kp [] H H'->Q (.str m.hd) H'
mutual
noncomputable def Stm.rows:Stm->List Str
 | .Xd s b=>((("while":Str)++" "++wd s)::bL b)++[("done":Str)]
 | .iff s b o=>(((("if":Str)++" "++wd s)::bL b)++(if o.isEmpty=true then [] else ("else":Str)::bL o))++[("done":Str)]
 | .set x s=>[(Stm.set x s).hd]
 | .order x y s=>[(Stm.order x y s).hd]
 | .W4 x s=>[(Stm.W4 x s).hd]
 | .child x y s=>[(Stm.child x y s).hd]
 | .send s k r=>[(Stm.send s k r).hd]
 | .drop s=>[(Stm.drop s).hd]
 | .wait x ss=>[(Stm.wait x ss).hd]
 | .W9 x k=>[(Stm.W9 x k).hd]
 | .fin s=>[(Stm.fin s).hd]
noncomputable def bL:List Stm->List Str
 | []=>[]
 | m::ms=>m.rows++bL ms
end
mutual
noncomputable def Stm.dp:Stm->Nat
 | .Xd _ b=>qC b+1
 | .iff _ b o=>max (qC b) (qC o)+1
 | .set _ _=>0
 | .order _ _ _=>0
 | .W4 _ _=>0
 | .child _ _ _=>0
 | .send _ _ _=>0
 | .drop _=>0
 | .wait _ _=>0
 | .W9 _ _=>0
 | .fin _=>0
noncomputable def qC:List Stm->Nat
 | []=>0
 | m::ms=>max m.dp (qC ms)
end
mutual
noncomputable def Stm.sz:Stm->Nat
 | .Xd _ b=>nJ b+1
 | .iff _ b o=>nJ b+nJ o+1
 | .set _ _=>1
 | .order _ _ _=>1
 | .W4 _ _=>1
 | .child _ _ _=>1
 | .send _ _ _=>1
 | .drop _=>1
 | .wait _ _=>1
 | .W9 _ _=>1
 | .fin _=>1
noncomputable def nJ:List Stm->Nat
 | []=>0
 | m::ms=>m.sz+nJ ms
end
mutual
noncomputable def Stm.wf:Stm->Prop
 | .Xd s b=>s.s6/\wZ b
 | .iff s b o=>s.s6/\wZ b/\wZ o
 | m=>m.W5
noncomputable def wZ:List Stm->Prop
 | []=>True
 | m::ms=>m.wf/\wZ ms
end
theorem Stm.cV{m:Stm}(h:m.wf):m.W5:=by
 cases m<;>simp only[Stm.wf,Stm.W5] at h ⊢<;>first|exact h|exact h.1
theorem BI:∀ a b:List Stm,bL (a++b)=bL a++bL b
 | [],b=>by simp[bL]
 | x::a,b=>by simp[bL,BI a b]
theorem C7:∀ a b:List Stm,nJ (a++b)=nJ a+nJ b
 | [],b=>by simp[nJ]
 | x::a,b=>by simp[nJ,C7 a b];omega
theorem GF:∀ {a b:List Stm},wZ (a++b)↔wZ a/\wZ b
 | [],b=>by simp[wZ]
 | x::a,b=>by simp[wZ,GF (a:=a),and_assoc]
theorem FP:∀ a b:List Stm,qC (a++b)=max (qC a) (qC b)
 | [],b=>by simp[qC]
 | x::a,b=>by simp[qC,FP a b,Nat.max_assoc]
mutual
theorem Stm.Eo:∀ m:Stm,m.rows.length<=3 * m.sz
 | .Xd s b=>by have:=fR b;simp only[Stm.rows,Stm.sz,List.length_append,List.length_cons,List.length_nil];omega
 | .iff s b o=>by
  have h1:=fR b;have h2:=fR o;simp only[Stm.rows,Stm.sz,List.length_append,List.length_cons,List.length_nil];split
  ·simp only[List.length_nil];omega
  ·simp only[List.length_cons];omega
 | .set _ _ | .order _ _ _ | .W4 _ _ | .child _ _ _ | .send _ _ _ | .drop _ | .wait _ _ | .W9 _ _ | .fin _=>by simp[Stm.rows,Stm.sz]
theorem fR:∀ b:List Stm,(bL b).length<=3 * nJ b
 | []=>by simp[bL]
 | m::ms=>by
  have h1:=m.Eo;have h2:=fR ms;simp only[bL,nJ,List.length_append];omega
end
theorem _root_.L2.Kp.Dg{H H':Hp}{p:Addr}(k:Kp [] H H')(h:H' p=none):H p=none:=by
 cases e:H p with
 | none=>rfl
 | some o=>rw[k.at e] at h;cases h
theorem _root_.L2.Kp.MN{H H':Hp}{p:Addr}{o:HO}(k:Kp [] H H')(h:H p=none):Kp [] H (WZ H' p o):=fun a ob e _=>by
 rw[aV (aL e h)];exact k.at e
theorem bJ.at{H:Hp}{vs:List V}{ms:List Stm}(h:bJ H vs ms):∀ {i:Nat} {x:V},vs[i]?=some x->∃ m,ms[i]?=some m/\bV H x m:=by
 induction ms generalizing vs with
 | nil=>cases h;intro i x e;simp at e
 | cons m ms ih =>
  cases h with
  | cons a b =>
   intro i x e;cases i with
   | zero=>simp only[List.getElem?_cons_zero,Option.some.injEq] at e;subst e;exact⟨_,rfl,a⟩
   | succ i=>exact ih b (by simpa using e)
theorem bJ.len{H:Hp}{vs:List V}{ms:List Stm}(h:bJ H vs ms):ms.length=vs.length:=by
 induction ms generalizing vs with
 | nil=>cases h;rfl
 | cons m ms ih =>
  cases h with
  | cons a b=>simp[ih b]
theorem Ve{l:List Stm}{i:Nat}{y:Stm}(h:l[i]?=some y):l.take (i+1)=l.take i++[y]:=by rw[List.take_add_one,h];rfl
theorem Ul:∀ {l:List Stm} {i:Nat} {y:Stm},l[i]?=some y->(wZ l->y.wf)/\y.dp<=qC l/\nJ (l.take i)+y.sz<=nJ l
 | m::ms,0,y,h=>by
  simp only[List.getElem?_cons_zero,Option.some.injEq] at h;subst h;refine⟨fun w=>w.1,by simp only[qC];omega,by simp only[nJ,List.take_zero];omega⟩
 | m::ms,i+1,y,h=>by
  obtain⟨h1,h2,h3⟩:=Ul (l:=ms) (i:=i) (y:=y) (by simpa using h);refine⟨fun w=>h1 w.2,by simp only[qC];omega,by simp only[nJ,List.take_succ_cons];omega⟩
 | [],_,_,h=>by simp at h
noncomputable def Fp(d:Nat):Sp:=fun vs H Q _=>∃(p:Addr) (us:List V) (b:List Stm),vs=[.ref p]/\H p=some (.tup us)/\bJ H us b/\wZ b/\qC b < d/\nJ b<=1000 /\
 ∀(l:Addr) (H':Hp),H l=none->Kp [] H H'->H' l=some (.lst ((bL b).map V.str))->Q (.ref l) H'
theorem Say.s6.len{s:Say}(h:s.s6):(wd s).length<=1800:=gD h.1 h.2
theorem Stm.dI{m:Stm}(h:m.W5):m.hd.length<=8000:=by
 obtain⟨_,_,_,_,_,lo,l1,lc⟩:=lens;obtain⟨abA,leq,aa9,abB,aa8,abC,Z6,Z5,lend,abD,lif⟩:=hlens;cases m with
 | set x s=>have:=h.2.len;have:=h.1.len;simp only[Stm.hd,bE];omega
 | send s k r=>have:=h.1.len;have:=h.2.2.len;have:=h.2.1.len;simp only[Stm.hd,bE];omega
 | drop s=>have:=Say.s6.len h;simp only[Stm.hd,bE];omega
 | fin s=>have:=Say.s6.len h;simp only[Stm.hd,bE];omega
 | Xd s b=>have:=Say.s6.len h;simp only[Stm.hd,bE];omega
 | iff s b o=>have:=Say.s6.len h;simp only[Stm.hd,bE];omega
 | order x y s=>have:=h.2.2.len;have:=h.1.len;have:=h.2.1.len;simp only[Stm.hd,glue,List.foldl_cons,List.foldl_nil,bE];omega
 | child x y s=>have:=h.2.2.len;have:=h.1.len;have:=h.2.1.len;simp only[Stm.hd,glue,List.foldl_cons,List.foldl_nil,bE];omega
 | W4 x s=>have:=h.2.len;have:=h.1.len;simp only[Stm.hd,glue,List.foldl_cons,List.foldl_nil,bE];omega
 | W9 x k=>have:=h.2.len;have:=h.1.len;simp only[Stm.hd,glue,List.foldl_cons,List.foldl_nil,bE];omega
 | wait x ss =>
  have h1:=zA (x++" = "++"wait") (ss.map wd) fun y hy=>by
   obtain⟨s,hs,rfl⟩:=List.mem_map.mp hy;exact(h.2.2 s hs).len
  have:=h.1.len;have:=h.2.1;simp only[Stm.hd,bE,List.length_map] at h1 ⊢;omega
mutual
theorem Stm.Fm:∀ {m:Stm},m.wf->∀ r∈m.rows,r.length<=8000
 | .Xd s b,h,r,hr=>by
  simp only[Stm.rows,List.mem_append,List.mem_cons,List.not_mem_nil,or_false] at hr;rcases hr with(rfl|hr)|rfl
  ·exact Stm.dI (m:=.Xd s b) h.1
  ·exact jA h.2 r hr
  ·decide +kernel
 | .iff s b o,h,r,hr=>by
  simp only[Stm.rows,List.mem_append,List.mem_cons,List.not_mem_nil,or_false] at hr;rcases hr with((rfl|hr)|hr)|rfl
  ·exact Stm.dI (m:=.iff s b o) h.1
  ·exact jA h.2.1 r hr
  ·split at hr
   ·cases hr
   ·rcases List.mem_cons.mp hr with rfl|hr
    ·decide +kernel
    ·exact jA h.2.2 r hr
  ·decide +kernel
 | .set x s,h,r,hr=>by rw[show r=_ by simpa[Stm.rows] using hr];exact Stm.dI (Stm.cV h)
 | .order x y s,h,r,hr=>by rw[show r=_ by simpa[Stm.rows] using hr];exact Stm.dI (Stm.cV h)
 | .W4 x s,h,r,hr=>by rw[show r=_ by simpa[Stm.rows] using hr];exact Stm.dI (Stm.cV h)
 | .child x y s,h,r,hr=>by rw[show r=_ by simpa[Stm.rows] using hr];exact Stm.dI (Stm.cV h)
 | .send s k u,h,r,hr=>by rw[show r=_ by simpa[Stm.rows] using hr];exact Stm.dI (Stm.cV h)
 | .drop s,h,r,hr=>by rw[show r=_ by simpa[Stm.rows] using hr];exact Stm.dI (Stm.cV h)
 | .wait x ss,h,r,hr=>by rw[show r=_ by simpa[Stm.rows] using hr];exact Stm.dI (Stm.cV h)
 | .W9 x k,h,r,hr=>by rw[show r=_ by simpa[Stm.rows] using hr];exact Stm.dI (Stm.cV h)
 | .fin s,h,r,hr=>by rw[show r=_ by simpa[Stm.rows] using hr];exact Stm.dI (Stm.cV h)
theorem jA:∀ {b:List Stm},wZ b->∀ r∈bL b,r.length<=8000
 | [],_,r,hr=>by simp[bL] at hr
 | m::ms,h,r,hr=>by
  simp only[bL,List.mem_append] at hr;rcases hr with hr|hr
  ·exact Stm.Fm h.1 r hr
  ·exact jA h.2 r hr
end
theorem BP{B:Nat}:∀ {ys:List Str},(∀ y∈ys,y.length<=B)->(ys.map fun z=>z.length).sum<=B * ys.length
 | [],_=>by simp
 | y::ys,h=>by
  have h1:=BP (ys:=ys) fun z hz=>h z (List.mem_cons_of_mem _ hz);have h2:=h y (by simp);simp only[List.map_cons,List.sum_cons,List.length_cons,Nat.mul_add,Nat.mul_one];omega
noncomputable def AB(b:List Stm):Str:=Txt.join "" ((bL b).map fun r:Str=>r++"\n")
noncomputable def MZ:Sp:=fun vs H Q _=>∃(p:Addr) (us:List V) (b:List Stm),vs=[.ref p]/\H p=some (.tup us)/\bJ H us b/\wZ b/\qC b<=5/\nJ b<=100/\∀ H',Kp [] H H'->Q (.str (AB b)) H'
theorem kZ:("\n":Str).length=1/\("":Str).length=0:=by decide +kernel
theorem look2{a b z:Str}{x y c:Addr}(n:(a==b)=false)(h:List.lookup z [(a,x),(b,y)]=some c):List.lookup z [(b,y),(a,x)]=some c:=by
 simp only[List.lookup_cons,List.lookup_nil] at h ⊢;cases e1:(z==a) with
 | false=>rw[e1] at h;cases e2:(z==b)<;>rw[e2] at h<;>simp_all
 | true =>
  have:z=a:=eq_of_beq e1;subst this;rw[n];rw[e1] at h;exact h
theorem cT.snoc{H:Hp}{vs:List V}{ss:List Say}{v:V}{s:Say}(h:cT H vs ss)(e:bC H v s):cT H (vs++[v]) (ss++[s]):=by
 induction h with
 | nil=>exact .cons e .nil
 | cons a _ ih=>exact .cons a ih
theorem cT.len{H:Hp}{vs:List V}{ss:List Say}(h:cT H vs ss):vs.length=ss.length:=by
 induction h with
 | nil=>rfl
 | cons _ _ ih=>simp[ih]
structure kP(H:Hp)(r nl:Addr)(xs:List Str):Prop where
 row:bQ H r
 XA:H nl=some (.lst (xs.map V.str))
 l0:1<=xs.length
 l1:xs.length<=1000
 n1:nl≠r
 sh:∀ x∈xs,dG x
theorem kP.kp{H H':Hp}{r nl:Addr}{xs:List Str}(I:kP H r nl xs)(k:Kp [r] H H')(R:bQ H' r):kP H' r nl xs:=⟨R,k.at1 I.XA I.n1,I.l0,I.l1,I.n1,I.sh⟩
theorem kP.say{H:Hp}{r nl lf:Addr}{xs:List Str}{dp k:Int}(I:kP H r nl xs)(h:H lf=none)(hd:1<=dp):Dj (WZ H lf (.lst [.int k])) r nl lf dp xs k :=
 ⟨I.row.new h,hd,(q0D h).at I.XA,I.l0,I.l1,aE,I.n1,I.row.none h,aL I.XA h⟩
theorem xR.kp1{H H':Hp}{r lf:Addr}{dp k:Int}{xs:List Str}{v:V}{s:Say}(O:xR (WZ H lf (.lst [.int k])) H' r lf dp xs v s)(h:H lf=none):Kp [r] H H':=fun a o e n=>by
 have n1:a≠r:=by simpa using n
 have n2:a≠lf:=aL e h;exact O.kp a o (by rw[aV n2];exact e) (by simp[n1,n2])
theorem xR.s6{H H':Hp}{r lf:Addr}{dp:Int}{xs:List Str}{v:V}{s:Say}(O:xR H H' r lf dp xs v s)(h:dp<=6)(sh:∀ x∈xs,dG x):s.s6 :=
 ⟨⟨O.ok,fun x hx=>sh x (O.nms x hx)⟩,by have:=O.hdp;omega⟩
structure KW(H H':Hp)(r:Addr)(v:V)(m:Stm):Prop where
 ZR:bV H' v m
 wf:m.wf
 dp:m.dp=0
 sz:m.sz=1
 row:bQ H' r
 kp:Kp [r] H H'
noncomputable def Kc:Sp:=fun vs H Q _=>∃(r nl:Addr) (dp:Int) (xs:List Str),vs=[.ref r,.ref nl,.int dp]/\kP H r nl xs/\1<=dp/\dp<=6/\∀(v:V) (m:Stm) (H':Hp),KW H H' r v m->Q v H'
structure Ou(H H':Hp)(r lf p:Addr)(us:List V)(b:List Stm)(dp k k':Int):Prop where
 tup:H' p=some (.tup us)
 M5:bJ H' us b
 wf:wZ b
 dp:(qC b:Int)<=dp
 sz:(nJ b:Int)+k'<=k
 k0:0<=k'
 row:bQ H' r
 XZ:H' lf=some (.lst [.int k'])
 kp:Kp [r,lf] H H'
noncomputable def C0(d:Nat):Sp:=fun vs H Q _=>∃(r nl lf:Addr) (dp many k:Int) (xs:List Str),vs=[.ref r,.ref nl,.int dp,.ref lf,.int many]/\kP H r nl xs/\0<=dp/\dp < d/\H lf=some (.lst [.int k])/\0<=k/\k<=100/\lf≠r/\lf≠nl /\
 ∀(p:Addr) (us:List V) (b:List Stm) (k':Int) (H':Hp),Ou H H' r lf p us b dp k k'->Q (.ref p) H'
theorem Stm.Kn(m:Stm):1<=m.sz:=by cases m<;>simp[Stm.sz]
theorem _root_.L2.Kp.UH{S:List Addr}{H H':Hp}{p:Addr}{o:HO}(k:Kp S H H')(h:H p=none):Kp S H (WZ H' p o):=fun a ob e n=>by
 rw[aV (aL e h)];exact k a ob e n
theorem bJ.snoc{H:Hp}{vs:List V}{ms:List Stm}{v:V}{m:Stm}(h:bJ H vs ms)(e:bV H v m):bJ H (vs++[v]) (ms++[m]):=by
 induction ms generalizing vs with
 | nil=>cases h;exact .cons e .nil
 | cons m ms ih =>
  cases h with
  | cons a b=>exact .cons a (ih b)
theorem aJ.set{H:Hp}{l:Addr}{xs ys:List V}(e:H l=some (.lst xs)):aJ H (WZ H l (.lst ys)):=fun a zs h=>by
 rw[aV (BB h e (by intro z;cases z))];exact h
theorem jF(a b c:Str):a++b++c=a++(b++c):=by
 show(⟨a.cps++b.cps++c.cps⟩:Str)=⟨a.cps++(b.cps++c.cps)⟩;rw[Array.append_assoc]
noncomputable def jb(ws:List Str):Str:=Txt.join " " ws
theorem FZ(ws:List Str):(jb ws).cps.toList=jn 32 (ws.map fun p=>p.cps.toList):=by
 unfold jb;rw[eP.2.1];exact xI 32 ws
theorem zF(w:Str):jb [w]=w:=jS (by rw[FZ];rfl)
theorem cI(w:Str){ws:List Str}(h:ws≠[]):jb (w::ws)=w++" "++jb ws:=by
 cases ws with
 | nil=>exact absurd rfl h
 | cons v r =>
  apply jS;rw[jK,jK,FZ,FZ,eP.2.1];simp[jn]
theorem zE:∀ {us ws:List Str},us≠[]->ws≠[]->jb (us++ws)=jb us++" "++jb ws
 | [],_,h,_=>absurd rfl h
 | [u],ws,_,h=>by rw[List.singleton_append,cI u h,zF]
 | u::v::r,ws,_,h=>by
  rw[List.cons_append,cI u (by simp),zE (us:=v::r) (by simp) h,cI u (ws:=v::r) (by simp)];simp only[jF]
noncomputable def sw:Say->List Str
 | .num n=>[Str.ofString (toString n)]
 | .W3=>["none"]
 | .name x=>[x]
 | .arg=>["arg"]
 | .now=>["now"]
 | .Xz s=>"answer"::sw s
 | .neg s=>"not"::sw s
 | .two g a b=>"("::(sw a++g.s::(sw b++[(")":Str)]))
theorem jJ:∀ s:Say,sw s≠[]
 | .num _ | .W3 | .name _ | .arg | .now | .Xz _ | .neg _ | .two _ _ _=>by simp[sw]
theorem JW:("( ":Str)=("(":Str)++" "/\(" )":Str)=(" ":Str)++")":=by decide +kernel
theorem qP(s:Say):wd s=jb (sw s):=by
 induction s with
 | Xz s ih=>rw[sw,wd,cI _ (jJ s),ih]
 | neg s ih=>rw[sw,wd,cI _ (jJ s),ih]
 | two g a b i1 i2 =>
  rw[sw,wd,cI _ (by simp),zE (jJ a) (by simp),cI _ (by simp),zE (jJ b) (by simp),zF,i1,i2,JW.1,JW.2];simp only[jF]
 | _=>simp only[sw,wd,zF]
noncomputable def Stm.ws:Stm->List Str
 | .set x s=>x::"="::sw s
 | .order x y s=>x::"="::"order"::y::sw s
 | .W4 x s=>x::"="::"timer"::sw s
 | .child x y s=>x::"="::"child"::y::sw s
 | .send s k r=>"send"::(sw s++k::sw r)
 | .drop s=>"drop"::sw s
 | .wait x ss=>x::"="::"wait"::(ss.map sw).flatten
 | .W9 x k=>[x,"=","hear",k]
 | .fin s=>"end"::sw s
 | .Xd s _=>"while"::sw s
 | .iff s _ _=>"if"::sw s
theorem eqm:(" ":Str)++"="++" " = " = "/\("send":Str)++" " = "send ":=by decide +kernel
theorem mH(x:Str):x++" = "=x++" "++"="++" ":=by rw[<- eqm.1];simp only[jF]
theorem Mc(t:Str):∀ l:List (List Str),(∀ w∈l,w≠[])->glue t (l.map jb)=if l.flatten=[] then t else t++" "++jb l.flatten:=by
 intro l
 induction l generalizing t with
 | nil=>intro _;simp[glue]
 | cons w l ih =>
  intro h;have hw:=h w (by simp);show glue (t++" "++jb w) (l.map jb)=_;rw[ih _ fun z hz=>h z (List.mem_cons_of_mem _ hz)];have h1:(w::l).flatten≠[]:=by simp[hw]
  rw[if_neg h1];by_cases h2:l.flatten=[]
  ·rw[if_pos h2,List.flatten_cons,h2,List.append_nil]
  ·rw[if_neg h2,List.flatten_cons,zE hw h2];simp only[jF]
theorem Stm.FX(m:Stm):m.hd=jb m.ws:=by
 cases m with
 | set x s=>simp only[Stm.hd,Stm.ws,cI _ (jJ s),cI x (ws:="="::sw s) (by simp),qP,mH,jF]
 | order x y s=>simp only[Stm.hd,Stm.ws,glue,List.foldl_cons,List.foldl_nil,cI _ (jJ s),cI _ (ws:=_::_) (by simp),qP,mH,jF]
 | child x y s=>simp only[Stm.hd,Stm.ws,glue,List.foldl_cons,List.foldl_nil,cI _ (jJ s),cI _ (ws:=_::_) (by simp),qP,mH,jF]
 | W4 x s=>simp only[Stm.hd,Stm.ws,glue,List.foldl_cons,List.foldl_nil,cI _ (jJ s),cI _ (ws:=_::_) (by simp),qP,mH,jF]
 | send s k r=>simp only[Stm.hd,Stm.ws,cI _ (ws:=sw s++k::sw r) (by simp),zE (jJ s) (ws:=k::sw r) (by simp),cI k (jJ r),qP,<- eqm.2,jF]
 | drop s=>simp only[Stm.hd,Stm.ws,cI _ (jJ s),qP]
 | fin s=>simp only[Stm.hd,Stm.ws,cI _ (jJ s),qP]
 | Xd s b=>simp only[Stm.hd,Stm.ws,cI _ (jJ s),qP]
 | iff s b o=>simp only[Stm.hd,Stm.ws,cI _ (jJ s),qP]
 | W9 x k=>simp only[Stm.hd,Stm.ws,glue,List.foldl_cons,List.foldl_nil,cI _ (ws:=_::_) (by simp),zF,mH,jF]
 | wait x ss =>
  have e:ss.map wd=(ss.map sw).map jb:=by rw[List.map_map];exact List.map_congr_left fun s _=>qP s
  simp only[Stm.hd,Stm.ws];rw[e,Mc _ _ fun w hw=>by obtain⟨s,_,rfl⟩:=List.mem_map.mp hw;exact jJ s];split
  ·next h=>rw[h];simp only[cI _ (ws:=_::_) (by simp),zF,mH,jF]
  ·next h=>simp only[cI _ (ws:=_::_) (by simp),cI _ h,mH,jF]
noncomputable def Fr(w:Str):Prop:=32∉w.cps.toList/\10∉w.cps.toList
theorem Fr.nm{x:Str}(h:dG x):Fr x:=by
 unfold dG at h;simp only[Bool.and_eq_true] at h;have:=List.all_eq_true.mp h.2.2.1;refine⟨fun z=>?_,fun z=>?_⟩<;>(have:=this _ z;simp at this)
theorem Fr.int(n:Int):Fr (Str.ofString (toString n)):=⟨PyProof.Rows.int_text_free' 32 (by decide) n,PyProof.Rows.int_text_free' 10 (by decide) n⟩
theorem fE:Fr "none"/\Fr "arg"/\Fr "now"/\Fr "answer"/\Fr "not"/\Fr "("/\Fr ")"/\Fr "="/\Fr "order"/\Fr "timer"/\Fr "child"/\Fr "send"/\Fr "drop"/\Fr "wait"/\Fr "hear"/\Fr "end"/\Fr "while"/\Fr "if"/\Fr "else"/\Fr "done":=by
 have f:∀ {w:Str},(w.cps.toList.all fun c=>c !=32&&c !=10)=true->Fr w:=fun h=>by
  have:=List.all_eq_true.mp h;exact⟨fun z=>by have:=this _ z;simp at this,fun z=>by have:=this _ z;simp at this⟩
 exact⟨f (by decide +kernel),f (by decide +kernel),f (by decide +kernel),f (by decide +kernel),f (by decide +kernel),f (by decide +kernel),f (by decide +kernel),f (by decide +kernel),f (by decide +kernel),f (by decide +kernel),f (by decide +kernel),f (by decide +kernel),f (by decide +kernel),f (by decide +kernel),f (by decide +kernel),f (by decide +kernel),f (by decide +kernel),f (by decide +kernel),f (by decide +kernel),f (by decide +kernel)⟩
theorem TR(g:Sg):Fr g.s:=by
 cases g<;>(unfold Fr;decide +kernel)
theorem oB{s:Say}(hs:s.sh):∀ w∈sw s,Fr w:=by
 induction s with
 | num n=>intro w h;rw[show w=_ by simpa[sw] using h];exact Fr.int n
 | W3=>intro w h;rw[show w=_ by simpa[sw] using h];exact fE.1
 | name x=>intro w h;rw[show w=x by simpa[sw] using h];exact Fr.nm (hs.2 x (by simp[Say.nms]))
 | arg=>intro w h;rw[show w=_ by simpa[sw] using h];exact fE.2.1
 | now=>intro w h;rw[show w=_ by simpa[sw] using h];exact fE.2.2.1
 | Xz s ih =>
  intro w h;rcases List.mem_cons.mp h with rfl|h
  ·exact fE.2.2.2.1
  ·exact ih ⟨hs.1,hs.2⟩ w h
 | neg s ih =>
  intro w h;rcases List.mem_cons.mp h with rfl|h
  ·exact fE.2.2.2.2.1
  ·exact ih ⟨hs.1,hs.2⟩ w h
 | two g a b i1 i2 =>
  intro w h;simp only[sw,List.mem_cons,List.mem_append,List.not_mem_nil,or_false] at h;rcases h with rfl|h|rfl|h|rfl
  ·exact fE.2.2.2.2.2.1
  ·exact i1 ⟨hs.1.1,fun x hx=>hs.2 x (List.mem_append_left _ hx)⟩ w h
  ·exact TR g
  ·exact i2 ⟨hs.1.2,fun x hx=>hs.2 x (List.mem_append_right _ hx)⟩ w h
  ·exact fE.2.2.2.2.2.2.1
theorem TU{m:Stm}(h:m.W5):∀ w∈m.ws,Fr w:=by
 obtain⟨_,_,_,_,_,_,_,feq,ab1,ab2,abZ,aaV,aaS,aaW,aaT,ab0,ab3,fif,_,_⟩:=fE;intro w hw;cases m with
 | set x s =>
  simp only[Stm.ws,List.mem_cons] at hw;rcases hw with rfl|rfl|hw
  ·exact Fr.nm h.1
  ·exact feq
  ·exact oB h.2.1 w hw
 | order x y s =>
  simp only[Stm.ws,List.mem_cons] at hw;rcases hw with rfl|rfl|rfl|rfl|hw
  ·exact Fr.nm h.1
  ·exact feq
  ·exact ab1
  ·exact Fr.nm h.2.1
  ·exact oB h.2.2.1 w hw
 | child x y s =>
  simp only[Stm.ws,List.mem_cons] at hw;rcases hw with rfl|rfl|rfl|rfl|hw
  ·exact Fr.nm h.1
  ·exact feq
  ·exact abZ
  ·exact Fr.nm h.2.1
  ·exact oB h.2.2.1 w hw
 | W4 x s =>
  simp only[Stm.ws,List.mem_cons] at hw;rcases hw with rfl|rfl|rfl|hw
  ·exact Fr.nm h.1
  ·exact feq
  ·exact ab2
  ·exact oB h.2.1 w hw
 | send s k r =>
  simp only[Stm.ws,List.mem_cons,List.mem_append] at hw;rcases hw with rfl|hw|rfl|hw
  ·exact aaV
  ·exact oB h.1.1 w hw
  ·exact Fr.nm h.2.1
  ·exact oB h.2.2.1 w hw
 | drop s =>
  rcases List.mem_cons.mp hw with rfl|hw
  ·exact aaS
  ·exact oB h.1 w hw
 | fin s =>
  rcases List.mem_cons.mp hw with rfl|hw
  ·exact ab0
  ·exact oB h.1 w hw
 | Xd s b =>
  rcases List.mem_cons.mp hw with rfl|hw
  ·exact ab3
  ·exact oB h.1 w hw
 | iff s b o =>
  rcases List.mem_cons.mp hw with rfl|hw
  ·exact fif
  ·exact oB h.1 w hw
 | W9 x k =>
  simp only[Stm.ws,List.mem_cons,List.not_mem_nil,or_false] at hw;rcases hw with rfl|rfl|rfl|rfl
  ·exact Fr.nm h.1
  ·exact feq
  ·exact aaT
  ·exact Fr.nm h.2
 | wait x ss =>
  simp only[Stm.ws,List.mem_cons] at hw;rcases hw with rfl|rfl|rfl|hw
  ·exact Fr.nm h.1
  ·exact feq
  ·exact aaW
  ·obtain⟨l,hl,hw⟩:=List.mem_flatten.mp hw;obtain⟨s,hs,rfl⟩:=List.mem_map.mp hl;exact oB (h.2.2 s hs).1 w hw
theorem JA{c k:Nat}:∀ {l:List (List Nat)},k∈jn c l->k=c\/∃ w∈l,k∈w
 | [],h=>by simp[jn] at h
 | [w],h=>.inr ⟨w,by simp,h⟩
 | w::v::r,h=>by
  rcases List.mem_append.mp (show k∈w++c::jn c (v::r) from h) with h|h
  ·exact .inr ⟨w,by simp,h⟩
  ·rcases List.mem_cons.mp h with h|h
   ·exact .inl h
   ·rcases JA h with h|⟨z,hz,h⟩
    ·exact .inl h
    ·exact .inr ⟨z,List.mem_cons_of_mem _ hz,h⟩
theorem oE{m:Stm}(h:m.W5):10∉m.hd.cps.toList:=by
 rw[Stm.FX,FZ];intro z;rcases JA z with z|⟨w,hw,z⟩
 ·cases z
 ·obtain⟨p,hp,rfl⟩:=List.mem_map.mp hw;exact(TU h p hp).2 z
mutual
theorem Stm.MP:∀ {m:Stm},m.wf->∀ r∈m.rows,10∉r.cps.toList
 | .Xd s b,h,r,hr=>by
  simp only[Stm.rows,List.mem_append,List.mem_cons,List.not_mem_nil,or_false] at hr;rcases hr with(rfl|hr)|rfl
  ·exact oE (m:=.Xd s b) h.1
  ·exact tN h.2 r hr
  ·exact fE.2.2.2.2.2.2.2.2.2.2.2.2.2.2.2.2.2.2.2.2
 | .iff s b o,h,r,hr=>by
  simp only[Stm.rows,List.mem_append,List.mem_cons,List.not_mem_nil,or_false] at hr;rcases hr with((rfl|hr)|hr)|rfl
  ·exact oE (m:=.iff s b o) h.1
  ·exact tN h.2.1 r hr
  ·split at hr
   ·cases hr
   ·rcases List.mem_cons.mp hr with rfl|hr
    ·exact fE.2.2.2.2.2.2.2.2.2.2.2.2.2.2.2.2.2.2.1.2
    ·exact tN h.2.2 r hr
  ·exact fE.2.2.2.2.2.2.2.2.2.2.2.2.2.2.2.2.2.2.2.2
 | .set x s,h,r,hr=>by rw[show r=_ by simpa[Stm.rows] using hr];exact oE (Stm.cV h)
 | .order x y s,h,r,hr=>by rw[show r=_ by simpa[Stm.rows] using hr];exact oE (Stm.cV h)
 | .W4 x s,h,r,hr=>by rw[show r=_ by simpa[Stm.rows] using hr];exact oE (Stm.cV h)
 | .child x y s,h,r,hr=>by rw[show r=_ by simpa[Stm.rows] using hr];exact oE (Stm.cV h)
 | .send s k u,h,r,hr=>by rw[show r=_ by simpa[Stm.rows] using hr];exact oE (Stm.cV h)
 | .drop s,h,r,hr=>by rw[show r=_ by simpa[Stm.rows] using hr];exact oE (Stm.cV h)
 | .wait x ss,h,r,hr=>by rw[show r=_ by simpa[Stm.rows] using hr];exact oE (Stm.cV h)
 | .W9 x k,h,r,hr=>by rw[show r=_ by simpa[Stm.rows] using hr];exact oE (Stm.cV h)
 | .fin s,h,r,hr=>by rw[show r=_ by simpa[Stm.rows] using hr];exact oE (Stm.cV h)
theorem tN:∀ {b:List Stm},wZ b->∀ r∈bL b,10∉r.cps.toList
 | [],_,r,hr=>by simp[bL] at hr
 | m::ms,h,r,hr=>by
  simp only[bL,List.mem_append] at hr;rcases hr with hr|hr
  ·exact Stm.MP h.1 r hr
  ·exact tN h.2 r hr
end
noncomputable def tV(x:Str):Bool:=decide (1<=x.length)&&(decide (x.length<=6)&&(x.cps.toList.all (fun c=>decide (97<=c)&&decide (c<=122))&&!cE (.str x) mO))
theorem zS{x:Str}:dG x↔tV x=true:=Iff.rfl
theorem NH{x:Str}(h:dG x){l:List V}(hl:∀ v∈l,v∈mO):cE (.str x) l=false:=by
 unfold dG at h;simp only[Bool.and_eq_true,Bool.not_eq_true'] at h;have h1:=h.2.2.2;rw[Bool.eq_false_iff] at h1 ⊢;intro z;apply h1;obtain⟨v,hv,e⟩:=List.any_eq_true.mp z;exact List.any_eq_true.mpr ⟨v,hl v hv,e⟩
theorem NG{x:Str}(h:dG x):x.cps.toList≠[]/\∀ c∈x.cps.toList,97<=c/\c<=122:=by
 unfold dG at h;simp only[Bool.and_eq_true,decide_eq_true_eq] at h;refine⟨fun z=>?_,fun c hc=>?_⟩
 ·have:x.length=0:=by show x.cps.size=0;rw[<- Array.length_toList,z];rfl
  omega
 ·have:=List.all_eq_true.mp h.2.2.1 c hc;simpa using this
theorem QN{x:Str}(h:dG x):(x = "(")=False:=eq_false fun e=>by
 subst e;have:=(NG h).2 40 (by decide +kernel);omega
theorem JL{x:Str}(h:dG x)(lo hi:Int):kF x lo hi=false:=by
 obtain⟨h1,h2⟩:=NG h;unfold kF;cases e:x.cps.toList with
 | nil=>exact absurd e h1
 | cons c r =>
  have hc:=h2 c (by rw[e];simp);have ef:eU (c::r)=c::r:=by
   unfold eU;split
   ·next z=>simp only[List.cons.injEq] at z;omega
   ·rfl
  have:¬ (48<=c/\c<=57):=by omega
  have h3:(decide (48<=c)&&decide (c<=57))=false:=by
   rw[Bool.and_eq_false_iff];simp only[decide_eq_false_iff_not];omega
  simp only[ef,List.all_cons,h3,Bool.false_and,Bool.and_false]
theorem uO{n:Int}{x:String}(k:Nat)(hk:k∈(Str.ofString x).cps.toList)(h:k≠45/\(k < 48\/57 < k)):(Str.ofString (toString n)=Str.ofString x)=False:=eq_false fun e=>PyProof.Rows.int_text_free' k h n (by rw[e];exact hk)
theorem Mf(n:Int):cE (.str (Str.ofString (toString n))) [.str "none",.str "arg",.str "now"]=false:=by
 have h1:=uO (n:=n) (x:="none") 110 (by decide +kernel) (by decide);have h2:=uO (n:=n) (x:="arg") 97 (by decide +kernel) (by decide);have h3:=uO (n:=n) (x:="now") 110 (by decide +kernel) (by decide);simp only[cE,List.any_cons,List.any_nil,dB,gL,Bool.or_false,Bool.or_eq_false_iff,beq_eq_false_iff_ne];exact⟨fun z=>(h1▸z.symm),fun z=>(h2▸z.symm),fun z=>(h3▸z.symm)⟩
theorem Me(n:Int):cE (.str (Str.ofString (toString n))) [.str "answer",.str "not"]=false:=by
 have h1:=uO (n:=n) (x:="answer") 110 (by decide +kernel) (by decide);have h2:=uO (n:=n) (x:="not") 110 (by decide +kernel) (by decide);simp only[cE,List.any_cons,List.any_nil,dB,gL,Bool.or_false,Bool.or_eq_false_iff,beq_eq_false_iff_ne];exact⟨fun z=>(h1▸z.symm),fun z=>(h2▸z.symm)⟩
theorem DO{n:Int}(h0:-1000000000<=n)(h1:n<=1000000000):kF (Str.ofString (toString n)) (-1000000000) 1000000000=true:=by
 have hr:=uP n (Nat.lt_of_le_of_lt (show n.natAbs<=1000000000 by omega) (by decide));have hL:(Str.ofString (toString (if (1000000000:Int) > - -1000000000 then (1000000000:Int) else - -1000000000))).length=10:=by decide +kernel
 have hd:(List.all · fun c=>decide (48<=c)&&decide (c<=57))=(List.all · fun c=>decide (48<=c)&&decide (c<=57)):=rfl;have all:∀ m:Nat,(W8 m).all (fun c=>decide (48<=c)&&decide (c<=57))=true:=fun m=>List.all_eq_true.mpr fun c hc=>by have:=lN m c hc;simpa using this
 have zero:("0":Str).cps.toList=[48]:=by decide +kernel
 unfold kF;rw[hr,hL];cases n with
 | ofNat m =>
  have e:(Str.ofString (toString (Int.ofNat m))).cps.toList=W8 m:=xH m;have hm:m < 10 ^ 10:=by have:(Int.ofNat m)=(m:Int):=rfl;omega
  have l10:(W8 m).length<=10:=(iY (by decide)).mpr hm;have l1:1<=(W8 m).length:=by
   cases hz:W8 m with
   | nil=>exact absurd hz (sD m)
   | cons _ _=>simp
  have ef:eU (W8 m)=W8 m:=by
   unfold eU;split
   ·next z=>have:=lN m 45 (by rw[z];simp);omega
   ·rfl
  have z0:(decide ((W8 m)[0]?=some 48)&&!decide (Str.ofString (toString (Int.ofNat m)) = "0"))=false:=by
   rw[Bool.and_eq_false_iff];by_cases hz:(W8 m)[0]?=some 48
   ·right;have:∃ cs,W8 m=48::cs:=by
     cases hq:W8 m with
     | nil=>rw[hq] at hz;cases hz
     | cons a cs=>rw[hq] at hz;simp only[List.getElem?_cons_zero,Option.some.injEq] at hz;exact⟨cs,by rw[hz]⟩
    obtain⟨cs,hc⟩:=this;have m0:=Br hc;subst m0;decide +kernel
   ·left;simpa using hz
  simp only[e,ef,l1,l10,all,z0,decide_true,Bool.true_and,Bool.not_false,Bool.and_true,Bool.and_eq_true,decide_eq_true_eq];exact⟨h0,h1⟩
 | negSucc m =>
  have e:=Cn m;have hm:m+1 < 10 ^ 10:=by
   have:Int.negSucc m = -((m:Int)+1):=by omega
   omega
  have l10:(W8 (m+1)).length<=10:=(iY (by decide)).mpr hm;have l1:1<=(W8 (m+1)).length:=by
   cases hz:W8 (m+1) with
   | nil=>exact absurd hz (sD _)
   | cons _ _=>simp
  have ef:eU (45::W8 (m+1))=W8 (m+1):=rfl;have z0:(decide ((W8 (m+1))[0]?=some 48)&&!decide (Str.ofString (toString (Int.negSucc m)) = "0"))=false:=by
   rw[Bool.and_eq_false_iff];left;simp only[decide_eq_false_iff_not];intro hz;have:∃ cs,W8 (m+1)=48::cs:=by
    cases hq:W8 (m+1) with
    | nil=>rw[hq] at hz;cases hz
    | cons a cs=>rw[hq] at hz;simp only[List.getElem?_cons_zero,Option.some.injEq] at hz;exact⟨cs,by rw[hz]⟩
   obtain⟨cs,hc⟩:=this;have:=Br hc;omega
  simp only[e,ef,l1,l10,all,z0,decide_true,Bool.true_and,Bool.not_false,Bool.and_true,Bool.and_eq_true,decide_eq_true_eq];exact⟨h0,h1⟩
theorem Mi{α:Type}(z1 z2:α){c:Prop}{inst:Decidable c}{A1 A2 B:Prop}{R:α->Prop}(h1:c->A1/\A2)(h2:¬ c->B)(hR:∀ z,z=(@ite α c inst z1 z2)->R z):@ite Prop c inst (A1/\A2/\R z1) (B/\R z2):=by
 by_cases h:c
 ·rw[if_pos h];exact⟨(h1 h).1,(h1 h).2,hR z1 (if_pos h).symm⟩
 ·rw[if_neg h];exact⟨h2 h,hR z2 (if_neg h).symm⟩
noncomputable def NN:Sp:=fun vs H Q _=>∃ c:Nat,vs=[.str ⟨#[c]⟩]/\Q (.bl (decide (97<=c)&&decide (c<=122))) H
noncomputable def NM:Sp:=fun vs H Q _=>∃ c:Nat,vs=[.str ⟨#[c]⟩]/\Q (.bl (decide (48<=c)&&decide (c<=57))) H
theorem Uw{c:Nat}{H:Hp}{Q:VK}{E:XK}:NN [.str ⟨#[c]⟩] H Q E=Q (.bl (decide (97<=c)&&decide (c<=122))) H:=propext ⟨fun⟨_,e,h⟩=>by cases e;exact h,fun h=>⟨_,rfl,h⟩⟩
theorem Uv{c:Nat}{H:Hp}{Q:VK}{E:XK}:NM [.str ⟨#[c]⟩] H Q E=Q (.bl (decide (48<=c)&&decide (c<=57))) H:=propext ⟨fun⟨_,e,h⟩=>by cases e;exact h,fun h=>⟨_,rfl,h⟩⟩
noncomputable def Et:Sp:=fun vs H Q _=>∃ x:Str,vs=[.str x]/\x.length<=8000000/\∀ H',Kp [] H H'->Q (.bl (tV x)) H'
theorem J3{x:Str}{H:Hp}{Q:VK}{E:XK}:Et [.str x] H Q E=(x.length<=8000000/\∀ H',Kp [] H H'->Q (.bl (tV x)) H'):=propext ⟨fun⟨_,e,h⟩=>by cases e;exact h,fun h=>⟨_,rfl,h⟩⟩
noncomputable def Gr:Sp:=fun vs H Q _=>∃(x:Str) (lo hi:Int),vs=[.str x,.int lo,.int hi]/\x.length<=8000000/\(-1000000000<=lo/\lo<=0/\0<=hi/\hi<=1000000000000)/\∀ H',Kp [] H H'->Q (.bl (kF x lo hi)) H'
theorem MI{x:Str}{lo hi:Int}{H:Hp}{Q:VK}{E:XK}:Gr [.str x,.int lo,.int hi] H Q E=(x.length<=8000000/\(-1000000000<=lo/\lo<=0/\0<=hi/\hi<=1000000000000)/\∀ H',Kp [] H H'->Q (.bl (kF x lo hi)) H') :=
 propext ⟨fun⟨_,_,_,e,h⟩=>by cases e;exact h,fun h=>⟨_,_,_,rfl,h⟩⟩
theorem mlog{n:Int}(h0:0<=n)(h1:n<=1000000000000):n.natAbs.log2 < 1920:=by
 have h:n.natAbs < 2 ^ 1920:=Nat.lt_of_le_of_lt (show n.natAbs<=1000000000000 by omega) (Nat.lt_of_lt_of_le (show 1000000000000 < 2 ^ 40 by decide) (Nat.pow_le_pow_right (by decide) (by decide)));by_cases z:n.natAbs=0
 ·rw[z];decide
 ·exact(Nat.log2_lt z).mpr h
theorem mlen{n:Int}(h0:0<=n)(h1:n<=1000000000000):(Str.ofString (toString n)).length<=13:=by
 obtain⟨m,rfl⟩:∃ m:Nat,n=(m:Int):=⟨n.toNat,by omega⟩;show(Str.ofString (toString (m:Int))).cps.size<=13;rw[<- Array.length_toList,xH];exact(iY (by decide)).mpr (by omega)
theorem n9(l:List Nat):l.length<=(eU l).length+1:=by
 unfold eU;split<;>simp
theorem JM{x:Str}(h:∀ c∈eU x.cps.toList,48<=c/\c<=57)(hn:eU x.cps.toList≠[])(hl:(eU x.cps.toList).length<=100):∃ n,intText? x=some n:=by
 have hx:x.length=x.cps.toList.length:=by show x.cps.size=_;rw[Array.length_toList]
 have XM:=n9 x.cps.toList;cases e:x.cps.toList with
 | nil=>rw[e] at hn;exact absurd rfl hn
 | cons c r =>
  by_cases hc:c=45
  ·subst hc;rw[e] at h hn;exact⟨_,intText_neg e h hn (by omega)⟩
  ·have ef:eU (c::r)=c::r:=by
    unfold eU;split
    ·next z=>simp only[List.cons.injEq] at z;exact absurd z.1 hc
    ·rfl
   rw[e,ef] at h hn;exact⟨_,intText_digits (by rw[e];exact h) (by rw[e];exact hn) (by omega)⟩
theorem Cw(a b:Nat):(decide (([a]:List Nat) < [b]))=decide (a < b):=by
 rw[Bool.eq_iff_iff,decide_eq_true_eq,decide_eq_true_eq];constructor
 ·intro h;cases h with
  | rel h=>exact h
  | cons h=>cases h
 ·exact fun h=>.rel h
theorem own17:mO.all cY=true:=by decide
theorem Ua{x a b c d e:String}:cE (.str (Str.ofString x)) [.str (Str.ofString a),.str (Str.ofString b),.str (Str.ofString c),.str (Str.ofString d),.str (Str.ofString e)]=(decide (a=x)||(decide (b=x)||(decide (c=x)||(decide (d=x)||decide (e=x))))):=by
 simp only[cE,dB,gL,List.any_cons,List.any_nil,Bool.or_false,Gn]
theorem Stm.oc(m:Stm):(∃(w y z:Str) (s:Say),m.ws=y::"="::w::z::sw s/\(m.W5->dG z/\s.sh/\s.depth<=6)/\(∀(H:Hp) (a:Addr) (v:V),H a=some (.tup [.str w,.str y,.str z,v])->bC H v s->bV H (.ref a) m)/\cE (.str w) [.str "order",.str "child",.str "timer",.str "wait",.str "hear"]=true/\((w=("timer":Str))=False)/\((w=("wait":Str))=False)/\((w=("hear":Str))=False))\/(∀ y z s,m≠.order y z s/\m≠.child y z s):=by
 cases m with
 | order y z s=>exact .inl ⟨_,y,z,s,rfl,fun h=>⟨h.2.1,h.2.2.1,h.2.2.2⟩,fun _ _ _ e h=>.order e h,by rw[Ua];decide,by simp only[cF,String.reduceEq],by simp only[cF,String.reduceEq],by simp only[cF,String.reduceEq]⟩
 | child y z s=>exact .inl ⟨_,y,z,s,rfl,fun h=>⟨h.2.1,h.2.2.1,h.2.2.2⟩,fun _ _ _ e h=>.child e h,by rw[Ua];decide,by simp only[cF,String.reduceEq],by simp only[cF,String.reduceEq],by simp only[cF,String.reduceEq]⟩
 | _=>exact .inr fun _ _ _=>⟨nofun,nofun⟩
theorem zB{x a b c:String}:cE (.str (Str.ofString x)) [.str (Str.ofString a),.str (Str.ofString b),.str (Str.ofString c)]=(decide (a=x)||(decide (b=x)||decide (c=x))):=by
 simp only[cE,dB,gL,List.any_cons,List.any_nil,Bool.or_false,Gn]
theorem flat3{a b c:Str}:([.str a,.str b,.str c]:List V).all cY=true:=rfl
theorem flat5{a b c d e:Str}:([.str a,.str b,.str c,.str d,.str e]:List V).all cY=true:=rfl
theorem aJ.w{wl:Addr}{H H':Hp}{xs:List V}(k:Kp [wl] H H')(e:H wl=some (.lst xs)):aJ H H':=fun a ys h=>k a _ h (by
 simp only[List.mem_cons,List.not_mem_nil,or_false];exact BB h e (by intro z;cases z))
theorem Say.v3(s:Say):(∃ w:Str,sw s=[w]/\(∀(H:Hp) (a:Addr),H a=some (.tup [.str w])->bC H (.ref a) s)/\cE (.str w) [.str "none",.str "arg",.str "now"]=true)\/(s≠.W3/\s≠.arg/\s≠.now):=by
 cases s with
 | W3=>exact .inl ⟨_,rfl,fun _ _ e=>.W3 e,by rw[zB];decide⟩
 | arg=>exact .inl ⟨_,rfl,fun _ _ e=>.arg e,by rw[zB];decide⟩
 | now=>exact .inl ⟨_,rfl,fun _ _ e=>.now e,by rw[zB];decide⟩
 | _=>exact .inr ⟨nofun,nofun,nofun⟩
theorem Say.v2(s:Say):(∃(w:Str) (s1:Say),sw s=w::sw s1/\s.depth=s1.depth+1/\(s.sh->s1.sh)/\(∀(H:Hp) (a:Addr) (v:V),H a=some (.tup [.str w,v])->bC H v s1->bC H (.ref a) s)/\cE (.str w) [.str "none",.str "arg",.str "now"]=false/\cE (.str w) [.str "answer",.str "not"]=true)\/(∀ s1,s≠.Xz s1/\s≠.neg s1):=by
 cases s with
 | Xz s1=>exact .inl ⟨_,s1,rfl,rfl,fun h=>⟨h.1,h.2⟩,fun _ _ _ e h=>.Xz e h,by rw[zB];decide,by rw[jM];decide⟩
 | neg s1=>exact .inl ⟨_,s1,rfl,rfl,fun h=>⟨h.1,h.2⟩,fun _ _ _ e h=>.neg e h,by rw[zB];decide,by rw[jM];decide⟩
 | _=>exact .inr fun _=>⟨nofun,nofun⟩
theorem NK(g:Sg):cE (.str g.s) [.str "+",.str "-",.str "*",.str "<",.str "="]=true:=by cases g<;>decide +kernel
theorem _root_.L2.Kp.lI{a:Addr}{H:Hp}{o:HO}:Kp [a] H (WZ H a o):=Kp.set (by simp)
noncomputable def Stm.blk:Stm->Bool
 | .Xd _ _=>true | .iff _ _ _=>true
 | .set _ _=>false | .order _ _ _=>false | .W4 _ _=>false | .child _ _ _=>false | .wait _ _=>false | .W9 _ _=>false | .send _ _ _=>false | .drop _=>false | .fin _=>false
noncomputable abbrev l5:List V:=[.str "order",.str "child",.str "timer",.str "wait",.str "hear"]
theorem cT.NL{H:Hp}{vs:List V}{ss:List Say}{v:V}{s:Say}(h:cT H vs ss)(a:bC H v s):cT H (vs++[v]) (ss++[s]):=by
 induction h with
 | nil=>exact .cons a .nil
 | cons b _ ih=>exact .cons b ih
theorem cT.ln{H:Hp}{vs:List V}{ss:List Say}(h:cT H vs ss):vs.length=ss.length:=by
 induction h with
 | nil=>rfl
 | cons _ _ ih=>simp[ih]
theorem CD{x:Str}(h:kF x (-1000000000) 1000000000=true):∃ i:Int,intText? x=some i/\x.length<=640:=by
 unfold kF at h;simp only[Bool.and_eq_true] at h;obtain⟨⟨⟨⟨h1,h2⟩,h3⟩,h4⟩,h5⟩:=h;cases e:intText? x with
 | none=>rw[e] at h5;cases h5
 | some i =>
  refine⟨i,rfl,?_⟩;have hL:(Str.ofString (toString (if (1000000000:Int) > - -1000000000 then (1000000000:Int) else - -1000000000))).length=10:=by decide +kernel
  rw[hL,decide_eq_true_eq] at h2;have:=n9 x.cps.toList;have lx:x.length=x.cps.toList.length:=by rw[Array.length_toList];rfl
  omega
noncomputable def sQ(w:Str):Say:=if w = "none" then .W3 else if w = "arg" then .arg else .now
noncomputable def un2(w:Str)(s:Say):Say:=if w = "answer" then .Xz s else .neg s
noncomputable def J9(w:Str):Sg:=if w = "+" then .add else if w = "-" then .sub else if w = "*" then .mul else if w = "<" then .lt else .eq
noncomputable abbrev ND:List V:=[.str "+",.str "-",.str "*",.str "<",.str "="]
noncomputable abbrev l3:List V:=[.str "none",.str "arg",.str "now"]
noncomputable abbrev l2:List V:=[.str "answer",.str "not"]
noncomputable def gY(f:List Str->Option (Say×List Str))(r:List Str):Option (Say×List Str) :=
 match f r with
 | some (a,g::r2)=>(match f r2 with
  | some (b,c::r4)=>if cE (.str g) ND=true/\c = ")" then some (.two (J9 g) a b,r4) else none
  | _=>none)
 | _=>none
noncomputable def cK:Nat->List Str->Option (Say×List Str)
 | 0,_=>none
 | _+1,[]=>none
 | d+1,w::r =>
  if cE (.str w) l3=true then some (sQ w,r)
  else if cE (.str w) l2=true then (match cK d r with
   | some (s,r')=>some (un2 w s,r')
   | none=>none)
  else if w = "(" then gY (cK d) r
  else if kF w (-1000000000) 1000000000=true then some (.num ((intText? w).getD 0),r)
  else if tV w=true then some (.name w,r)
  else none
theorem jE(d:Nat)(w:Str)(r:List Str):cK (d+1) (w::r)=if cE (.str w) l3=true then some (sQ w,r)
    else if cE (.str w) l2=true then (match cK d r with
      | some (s,r')=>some (un2 w s,r')
      | none=>none)
    else if w = "(" then gY (cK d) r
    else if kF w (-1000000000) 1000000000=true then some (.num ((intText? w).getD 0),r)
    else if tV w=true then some (.name w,r)
    else none:=rfl
noncomputable def kM:List Str->Option (Str×List Str)
 | []=>none
 | w::r=>if tV w=true then some (w,r) else none
theorem s8(w:Str)(r:List Str):kM (w::r)=if tV w=true then some (w,r) else none:=rfl
noncomputable def iM:Nat->List Say->List Str->Option (List Say×List Str)
 | 0,ss,ws=>some (ss,ws)
 | _+1,ss,[]=>some (ss,[])
 | n+1,ss,w::ws=>match cK 6 (w::ws) with
  | some (s,r)=>iM n (ss++[s]) r
  | none=>none
noncomputable def gF(ws:List Str):Option (List Say×List Str):=match cK 6 ws with
 | some (s,r)=>iM 3 [s] r
 | none=>none
noncomputable def k8(x:Str):List Str->Option (Stm×List Str)
  | []=>none
  | k::r=>if cE (.str k) l5=false then (match cK 6 (k::r) with
      | some (s,r')=>some (.set x s,r')
      | none=>none)
    else if k = "timer" then (match cK 6 r with
      | some (s,r')=>some (.W4 x s,r')
      | none=>none)
    else if k = "wait" then (match gF r with
      | some (ss,r')=>some (.wait x ss,r')
      | none=>none)
    else if k = "hear" then (match kM r with
      | some (y,r')=>some (.W9 x y,r')
      | none=>none)
    else match kM r with
      | some (y,r1)=>(match cK 6 r1 with
        | some (s,r')=>some (if k = "order" then .order x y s else .child x y s,r')
        | none=>none)
      | none=>none
noncomputable def iS:List Str->Option (Stm×List Str)
  | []=>none
  | f::r=>if f = "send" then (match cK 6 r with
      | some (a,r1)=>(match kM r1 with
        | some (k,r2)=>(match cK 6 r2 with
          | some (b,r')=>some (.send a k b,r')
          | none=>none)
        | none=>none)
      | none=>none)
    else if f = "drop"\/f = "end" then (match cK 6 r with
      | some (s,r')=>some (if f = "drop" then .drop s else .fin s,r')
      | none=>none)
    else if tV f=true then (match r with
      | []=>none
      | e::r1=>if e = "=" then k8 f r1 else none)
    else none
theorem bC.l3{H:Hp}{a:Addr}{w:Str}(h:cE (.str w) l3=true)(e:H a=some (.tup [.str w])):bC H (.ref a) (sQ w):=by
 unfold sQ;split
 ·next z=>subst z;exact .W3 e
 ·split
  ·next z=>subst z;exact .arg e
  ·next h1 h2 =>
   have:w = "now":=by
    simp only[cE,List.any_cons,List.any_nil,dB,gL,Bool.or_false,Bool.or_eq_true,beq_iff_eq] at h;rcases h with h|h|h
    ·exact absurd h.symm h1
    ·exact absurd h.symm h2
    ·exact h.symm
   subst this;exact .now e
theorem bC.l2{H:Hp}{a:Addr}{w:Str}{v:V}{s:Say}(h:cE (.str w) l2=true)(e:H a=some (.tup [.str w,v]))(hv:bC H v s):bC H (.ref a) (un2 w s):=by
 unfold un2;split
 ·next z=>subst z;exact .Xz e hv
 ·next h1 =>
  have:w = "not":=by
   simp only[cE,List.any_cons,List.any_nil,dB,gL,Bool.or_false,Bool.or_eq_true,beq_iff_eq] at h;rcases h with h|h
   ·exact absurd h.symm h1
   ·exact h.symm
  subst this;exact .neg e hv
theorem CY{w:Str}(h:cE (.str w) ND=true):(J9 w).s=w:=by
 simp only[cE,List.any_cons,List.any_nil,dB,gL,Bool.or_false,Bool.or_eq_true,beq_iff_eq] at h;rcases h with rfl|rfl|rfl|rfl|rfl<;>decide +kernel
noncomputable def WL(ws:List Str):Prop:=∀ w∈ws,w.length<=8000000
theorem WL.tl{w:Str}{ws:List Str}(h:WL (w::ws)):WL ws:=fun x hx=>h x (List.mem_cons_of_mem _ hx)
theorem WL.hd{w:Str}{ws:List Str}(h:WL (w::ws)):w.length<=8000000:=h w List.mem_cons_self
theorem tE:∀ {d:Nat} {ws:List Str} {s:Say} {r:List Str},cK d ws=some (s,r)->∃ u,ws=u++r
 | 0,_,_,_,h=>by cases h
 | _+1,[],_,_,h=>by cases h
 | d+1,w::ws,s,r,h=>by
  rw[jE] at h;split at h
  ·cases h;exact⟨[w],rfl⟩
  split at h
  ·split at h
   ·next s1 r1 e =>
    cases h;obtain⟨u,rfl⟩:=tE e;exact⟨w::u,rfl⟩
   ·cases h
  split at h
  ·unfold gY at h;split at h
   ·next a g r2 e =>
    split at h
    ·next b c r4 e2 =>
     split at h
     ·cases h;obtain⟨u,hu⟩:=tE e;obtain⟨u2,hu2⟩:=tE e2;exact⟨w::(u++g::(u2++[c])),by rw[hu,hu2];simp⟩
     ·cases h
    ·cases h
   ·cases h
  split at h
  ·cases h;exact⟨[w],rfl⟩
  split at h
  ·cases h;exact⟨[w],rfl⟩
  ·cases h
theorem WL.say{d:Nat}{ws r:List Str}{s:Say}(h:WL ws)(e:cK d ws=some (s,r)):WL r:=by
 obtain⟨u,rfl⟩:=tE e;exact fun w hw=>h w (List.mem_append_right _ hw)
noncomputable def NQ(C:Addr):Sp:=fun vs H Q E=>on1 vs fun x=>bB x fun a=>bX (H a) fun xs=>VF xs (E (.ref C) none H) fun v r=>Q v (WZ H a (.lst r))
theorem UA{C a:Addr}{H:Hp}{Q:VK}{E:XK}:NQ C [.ref a] H Q E=bX (H a) fun xs=>VF xs (E (.ref C) none H) fun v r=>Q v (WZ H a (.lst r)):=rfl
noncomputable def MW(C:Addr):Sp:=fun vs H Q E=>∃(a:Addr) (xs:List V),vs=[.ref a]/\H a=some (.lst xs)/\(xs=[]->Q .W3 H)/\(xs≠[]->E (.ref C) none H)
noncomputable def Kj(C:Addr)(d:Nat):Sp:=fun vs H Q E=>∃(wl:Addr) (dp:Int) (ws:List Str),vs=[.ref wl,.int dp]/\H wl=some (.lst (ws.map V.str))/\dp+d=7/\WL ws /\
 (∀(s:Say) (r:List Str),cK d ws=some (s,r)->∀(v:V) (H':Hp),bC H' v s->H' wl=some (.lst (r.map V.str))->Kp [wl] H H'->Q v H')/\(cK d ws=none->∀ H',Kp [wl] H H'->E (.ref C) none H')
noncomputable def NP(C:Addr)(d:Nat):Sp:=fun vs H Q E=>∃ d':Nat,d=d'+1/\Kj C d' vs H Q E
noncomputable def UR(C:Addr)(d:Nat):Sp:=fun vs H Q E=>∃(d':Nat) (wl:Addr) (dp:Int) (ws:List Str),d=d'+1/\vs=[.ref wl,.int dp]/\H wl=some (.lst (ws.map V.str))/\dp+d'=7/\WL ws /\
 (∀(s:Say) (r:List Str),gY (cK d') ws=some (s,r)->∀(v:V) (H':Hp),bC H' v s->H' wl=some (.lst (r.map V.str))->Kp [wl] H H'->Q v H')/\(gY (cK d') ws=none->∀ H',Kp [wl] H H'->E (.ref C) none H')
noncomputable def US(C:Addr):Sp:=fun vs H Q E=>∃(wl:Addr) (ws:List Str),vs=[.ref wl]/\H wl=some (.lst (ws.map V.str))/\WL ws /\
 (∀(x:Str) (r:List Str),kM ws=some (x,r)->∀ H',H' wl=some (.lst (r.map V.str))->Kp [wl] H H'->Q (.str x) H')/\(kM ws=none->∀ H',Kp [wl] H H'->E (.ref C) none H')
theorem WL.name{ws r:List Str}{x:Str}(h:WL ws)(e:kM ws=some (x,r)):WL r:=by
 cases ws with
 | nil=>cases e
 | cons w ws =>
  rw[s8] at e;split at e
  ·cases e;exact h.tl
  ·cases e
theorem Ui{wl:Addr}{H G:Hp}{o:HO}(k:Kp [] (WZ H wl o) G):Kp [wl] H G:=Kp.lI.trans (Kp.of k.same)
noncomputable def Rm(C:Addr):Sp:=fun vs H Q E=>∃(wl:Addr) (ws:List Str),vs=[.ref wl]/\H wl=some (.lst (ws.map V.str))/\WL ws /\
 (∀(ss:List Say) (r:List Str),gF ws=some (ss,r)->∀(p:Addr) (us:List V) (H':Hp),H' p=some (.tup us)->cT H' us ss->H' wl=some (.lst (r.map V.str))->Kp [wl] H H'->Q (.ref p) H')/\(gF ws=none->∀ H',Kp [wl] H H'->E (.ref C) none H')
noncomputable def UQ(C:Addr):Sp:=fun vs H Q E=>∃(wl:Addr) (x:Str) (ws:List Str),vs=[.str x,.ref wl]/\H wl=some (.lst (ws.map V.str))/\WL ws /\
 (∀(m:Stm) (r:List Str),k8 x ws=some (m,r)->∀(v:V) (H':Hp),bV H' v m->H' wl=some (.lst (r.map V.str))->Kp [wl] H H'->Q v H')/\(k8 x ws=none->∀ H',Kp [wl] H H'->E (.ref C) none H')
noncomputable def UT(C:Addr):Sp:=fun vs H Q E=>∃(wl:Addr) (ws:List Str),vs=[.ref wl]/\H wl=some (.lst (ws.map V.str))/\WL ws /\
 (∀(m:Stm) (r:List Str),iS ws=some (m,r)->∀(v:V) (H':Hp),bV H' v m->H' wl=some (.lst (r.map V.str))->Kp [wl] H H'->Q v H')/\(iS ws=none->∀ H',Kp [wl] H H'->E (.ref C) none H')
theorem pR(n:Nat)(ss:List Say)(w:Str)(ws:List Str):iM (n+1) ss (w::ws)=match cK 6 (w::ws) with
    | some (s,r)=>iM n (ss++[s]) r
    | none=>none:=rfl
theorem CO(n:Nat)(ss:List Say):iM n ss []=some (ss,[]):=by cases n<;>rfl
theorem Ag(x k:Str)(r:List Str):k8 x (k::r)=if cE (.str k) l5=false then (match cK 6 (k::r) with
      | some (s,r')=>some (.set x s,r')
      | none=>none)
    else if k = "timer" then (match cK 6 r with
      | some (s,r')=>some (.W4 x s,r')
      | none=>none)
    else if k = "wait" then (match gF r with
      | some (ss,r')=>some (.wait x ss,r')
      | none=>none)
    else if k = "hear" then (match kM r with
      | some (y,r')=>some (.W9 x y,r')
      | none=>none)
    else match kM r with
      | some (y,r1)=>(match cK 6 r1 with
        | some (s,r')=>some (if k = "order" then .order x y s else .child x y s,r')
        | none=>none)
      | none=>none:=rfl
theorem j8(f:Str)(r:List Str):iS (f::r)=if f = "send" then (match cK 6 r with
      | some (a,r1)=>(match kM r1 with
        | some (k,r2)=>(match cK 6 r2 with
          | some (b,r')=>some (.send a k b,r')
          | none=>none)
        | none=>none)
      | none=>none)
    else if f = "drop"\/f = "end" then (match cK 6 r with
      | some (s,r')=>some (if f = "drop" then .drop s else .fin s,r')
      | none=>none)
    else if tV f=true then (match r with
      | []=>none
      | e::r1=>if e = "=" then k8 f r1 else none)
    else none:=rfl
theorem Qz{p q A B:Prop}{d1:Decidable p}{d2:Decidable q}(h:p\/q)(a:A):@ite Prop p d1 A (@ite Prop q d2 A B):=by
 split
 ·exact a
 ·next z=>rw[if_pos (h.resolve_left z)];exact a
theorem T9:cE (.str "") l5=false:=by decide +kernel
structure g9(C:Addr)(H:Hp)(rd dx ll:Addr)(rows:List Str)(i k:Nat):Prop where
 ins:H rd=some (.ins C dx [("lines",.ref ll),("lines_read",.int i),("statements_read",.int k)])
 lin:H ll=some (.lst (rows.map V.str))
theorem g9.ne{C:Addr}{H:Hp}{rd dx ll:Addr}{rows:List Str}{i k:Nat}(R:g9 C H rd dx ll rows i k):ll≠rd:=BB R.lin R.ins (by intro z;cases z)
theorem g9.kp{C:Addr}{H H':Hp}{rd dx ll:Addr}{rows:List Str}{i k:Nat}(R:g9 C H rd dx ll rows i k)(h:Kp [] H H'):g9 C H' rd dx ll rows i k:=⟨h.at R.ins,h.at R.lin⟩
theorem g9.set{C:Addr}{H:Hp}{rd dx ll:Addr}{rows:List Str}{i k i' k':Nat}(R:g9 C H rd dx ll rows i k):g9 C (WZ H rd (.ins C dx [("lines",.ref ll),("lines_read",.int i'),("statements_read",.int k')])) rd dx ll rows i' k':=⟨aE,by rw[aV R.ne];exact R.lin⟩
theorem g9.w{C:Addr}{H H':Hp}{rd dx ll wl:Addr}{rows:List Str}{i k:Nat}(R:g9 C H rd dx ll rows i k)(h:Kp [wl] H H')(n1:rd≠wl)(n2:ll≠wl):g9 C H' rd dx ll rows i k:=⟨h.at1 R.ins n1,h.at1 R.lin n2⟩
theorem aJ.rd{C:Addr}{H H':Hp}{rd dx ll:Addr}{rows:List Str}{i k:Nat}(R:g9 C H rd dx ll rows i k)(h:Kp [rd] H H'):aJ H H':=fun a ys e=>h a _ e (by
 simp only[List.mem_cons,List.not_mem_nil,or_false];exact BB e R.ins (by intro z;cases z))
noncomputable def ah(rows:List Str)(i:Nat):V:=match rows[i]? with
 | some r=>.str r
 | none=>.W3
theorem pE{rows:List Str}{i:Nat}{r:Str}{l:List Str}(h:rows.drop i=r::l):ah rows i=.str r:=by
 unfold ah;have:rows[i]?=some r:=by
  have e:=congrArg (fun l=>l[0]?) h;simpa using e
 rw[this]
theorem xA{rows:List Str}{i:Nat}(h:rows.drop i=[]):ah rows i=.W3:=by
 unfold ah;rw[List.getElem?_eq_none (by simpa using h)]
noncomputable def MR(C:Addr):Sp:=fun vs H Q _=>∃(rd dx ll:Addr) (rows:List Str) (i k:Nat),vs=[.ref rd]/\g9 C H rd dx ll rows i k/\Q (ah rows i) H
noncomputable def Kg(C:Addr):Sp:=fun vs H Q _=>∃ x dx ll:Addr,vs=[.ref x,.ref ll]/\H x=some (.ins C dx [])/\∀ H',H' x=some (.ins C dx [("lines",.ref ll),("lines_read",.int 0),("statements_read",.int 0)])->Kp [x] H H'->Q .W3 H'
noncomputable def TN(o:List Stm):List Str:=if o.isEmpty=true then [] else ("else":Str)::bL o
theorem yP{rows r:List Str}{i:Nat}{x:Str}(h:rows.drop i=x::r):rows.drop (i+1)=r:=by
 rw[<- List.drop_drop,h];rfl
theorem Md{r:Str}(h:r = "else"\/r = "done"):cE (.str r) [.W3,.str "else",.str "done"]=true:=by rcases h with rfl|rfl<;>decide +kernel
theorem Jo:cE .W3 [.W3,.str "else",.str "done"]=true:=by decide
theorem TQ{a b:Str}:([.W3,.str a,.str b]:List V).all cY=true:=rfl
theorem Lb(rows:List Str)(i:Nat):cY (ah rows i)=true:=by unfold ah;split<;>rfl
theorem BJ(m:Stm):∃ r,m.rows=m.hd::r:=by cases m<;>exact⟨_,rfl⟩
noncomputable def sY:List Str->Option (List Str)
 | []=>none
 | l::L=>if l = "done" then some L else none
noncomputable abbrev rZ:=Nat->List Str->Option (List Stm×Nat×List Str)
noncomputable abbrev lB:List V:=[.str "if",.str "while"]
theorem sZ(l:Str)(L:List Str):sY (l::L)=if l = "done" then some L else none:=rfl
noncomputable def pU(blk:rZ)(k:Nat):List Str->Option (List Stm×Nat×List Str)
  | []=>some ([],k,[])
  | l::L=>if l = "else" then (match blk k L with
      | some (m::o,k',L')=>some (m::o,k',L')
      | _=>none)
    else some ([],k,l::L)
theorem pV(blk:rZ)(k:Nat)(l:Str)(L:List Str):pU blk k (l::L)=if l = "else" then (match blk k L with
      | some (m::o,k',L')=>some (m::o,k',L')
      | _=>none)
    else some ([],k,l::L):=rfl
noncomputable def El(blk:rZ)(k:Nat)(ws L:List Str):Option (Stm×Nat×List Str):=match ws with
  | []=>none
  | kind::r=>(match cK 6 r with
    | some (s,[])=>(match blk k L with
      | some (b,k1,L1)=>if kind = "while" then (match sY L1 with
          | some L2=>some (.Xd s b,k1,L2)
          | none=>none)
        else (match pU blk k1 L1 with
          | some (o,k2,L2)=>(match sY L2 with
            | some L3=>some (.iff s b o,k2,L3)
            | none=>none)
          | none=>none)
      | none=>none)
    | _=>none)
theorem CP(blk:rZ)(k:Nat)(kind:Str)(r L:List Str):El blk k (kind::r) L=(match cK 6 r with
    | some (s,[])=>(match blk k L with
      | some (b,k1,L1)=>if kind = "while" then (match sY L1 with
          | some L2=>some (.Xd s b,k1,L2)
          | none=>none)
        else (match pU blk k1 L1 with
          | some (o,k2,L2)=>(match sY L2 with
            | some L3=>some (.iff s b o,k2,L3)
            | none=>none)
          | none=>none)
      | none=>none)
    | _=>none):=rfl
noncomputable def i0(blk:rZ)(k:Nat)(l:Str)(L:List Str):Option (Stm×Nat×List Str) :=
 if 60 < k+1 then none
 else if cE (.str ((Txt.split l " ").headD "")) lB=true then El blk (k+1) (Txt.split l " ") L
 else match iS (Txt.split l " ") with
  | some (m,[])=>some (m,k+1,L)
  | _=>none
noncomputable def nD(st:Nat->Str->List Str->Option (Stm×Nat×List Str)):Nat->List Stm->Nat->List Str->Option (List Stm×Nat×List Str)
 | 0,_,_,_=>none
 | _+1,acc,k,[]=>some (acc,k,[])
 | n+1,acc,k,l::L=>if l = "else"\/l = "done" then some (acc,k,l::L) else match st k l L with
  | some (m,k',L')=>nD st n (acc++[m]) k' L'
  | none=>none
theorem xP(st:Nat->Str->List Str->Option (Stm×Nat×List Str))(n:Nat)(acc:List Stm)(k:Nat)(l:Str)(L:List Str):nD st (n+1) acc k (l::L)=if l = "else"\/l = "done" then some (acc,k,l::L) else match st k l L with
    | some (m,k',L')=>nD st n (acc++[m]) k' L'
    | none=>none:=rfl
noncomputable def dJ:Nat->rZ
 | 0,_,_=>none
 | D+1,k,L=>nD (i0 (dJ D)) (L.length+1) [] k L
noncomputable def oO(t:Str):Option (List Stm):=if t≠""/\Txt.endswith t "\n"=false then none else match dJ 6 0 (Txt.split t "\n").dropLast with
 | some (b,_,[])=>some b
 | _=>none
theorem GD:∀(cs ds:List Nat) (a b:Nat),cs.length=ds.length->(∀ c∈cs,48<=c/\c<=57)->(∀ c∈ds,48<=c/\c<=57)->List.foldl (fun acc c=>acc * 10+(c - 48)) a cs=List.foldl (fun acc c=>acc * 10+(c - 48)) b ds->a=b/\cs=ds
 | [],[],a,b,_,_,_,h=>⟨h,rfl⟩
 | [],_::_,_,_,l,_,_,_=>by cases l
 | _::_,[],_,_,l,_,_,_=>by cases l
 | c::cs,d::ds,a,b,l,h1,h2,h=>by
  obtain⟨e1,rfl⟩:=GD cs ds _ _ (Nat.succ.inj l) (fun z hz=>h1 z (List.mem_cons_of_mem _ hz)) (fun z hz=>h2 z (List.mem_cons_of_mem _ hz)) h;have x:=h1 c (by simp);have y:=h2 d (by simp);replace e1:a * 10+(c - 48)=b * 10+(d - 48):=e1;refine⟨by omega,?_⟩;rw[show c=d by omega]
theorem KH:∀(cs:List Nat) (a:Nat),a * 10 ^ cs.length<=List.foldl (fun acc c=>acc * 10+(c - 48)) a cs
 | [],a=>by simp
 | c::cs,a=>by
  have h2:=KH cs (a * 10+(c - 48));rw[List.foldl_cons];refine Nat.le_trans ?_ h2;rw[List.length_cons,Nat.pow_succ,Nat.mul_comm _ 10,<- Nat.mul_assoc];exact Nat.mul_le_mul_right _ (by omega)
theorem FN{cs:List Nat}(h:∀ c∈cs,48<=c/\c<=57)(ne:cs≠[])(h0:cs[0]?≠some 48):W8 (NumText.digitsVal cs)=cs:=by
 have hl:(W8 (NumText.digitsVal cs)).length=cs.length:=by
  have up:NumText.digitsVal cs < 10 ^ cs.length:=by
   have:=Df cs 0 h;simpa[NumText.digitsVal] using this
  have lo:10 ^ (cs.length - 1)<=NumText.digitsVal cs:=by
   cases cs with
   | nil=>exact absurd rfl ne
   | cons c r =>
    have hc:=h c (by simp);have ZF:c≠48:=fun z=>h0 (by rw[z];rfl);have:=KH r (0 * 10+(c - 48));rw[List.length_cons,Nat.add_sub_cancel];refine Nat.le_trans ?_ this;exact Nat.le_mul_of_pos_left _ (by omega)
  have l1:=(iY (n:=NumText.digitsVal cs) (k:=cs.length) (List.length_pos_iff.mpr ne)).mpr up;by_cases z:cs.length=1
  ·have:=sD (NumText.digitsVal cs);have:=List.length_pos_iff.mpr this;omega
  ·have hp:=List.length_pos_iff.mpr ne;have:¬ (W8 (NumText.digitsVal cs)).length<=cs.length - 1:=fun z=>by
    have:=(iY (n:=NumText.digitsVal cs) (k:=cs.length - 1) (by omega)).mp z;omega
   omega
 have hv:=sE (NumText.digitsVal cs);exact(GD _ _ 0 0 hl (lN _) h hv).2
theorem Ee{x:Str}(h:kF x (-1000000000) 1000000000=true):∃ i:Int,intText? x=some i/\x=Str.ofString (toString i)/\-1000000000<=i/\i<=1000000000:=by
 obtain⟨i,hi,lx⟩:=CD h;unfold kF at h;rw[hi] at h;simp only[Bool.and_eq_true,decide_eq_true_eq,Bool.not_eq_true',Bool.and_eq_false_iff,decide_eq_false_iff_not,Bool.not_eq_false'] at h;obtain⟨⟨⟨⟨h1,h2⟩,h3⟩,h4⟩,h5⟩:=h;refine⟨i,hi,?_,h5.1,h5.2⟩;have ad:∀ c∈eU x.cps.toList,48<=c/\c<=57:=fun c hc=>by have:=List.all_eq_true.mp h3 c hc;simpa using this
 have ne:eU x.cps.toList≠[]:=fun z=>by rw[z] at h1;simp at h1
 by_cases h0:x = "0"
 ·subst h0;have:intText? ("0":Str)=some 0:=by
   have:=uP 0 (by decide);exact this
  rw[this] at hi;cases hi;rfl
 ·have hz:(eU x.cps.toList)[0]?≠some 48:=by
   rcases h4 with h|h
   ·exact h
   ·exact absurd h h0
  apply jS;cases e:x.cps.toList with
  | nil=>rw[e] at ne;exact absurd rfl ne
  | cons c r =>
   by_cases hc:c=45
   ·subst hc;rw[e] at ad ne hz;have hv:=intText_neg e ad ne (by omega);rw[hv] at hi;cases hi;have hd:=FN (cs:=r) ad ne hz;obtain⟨n,hn⟩:∃ n,NumText.digitsVal r=n+1:=by
     cases hq:NumText.digitsVal r with
     | succ n=>exact⟨n,rfl⟩
     | zero =>
      rw[hq] at hd;exfalso;apply hz;show r[0]?=some 48;rw[<- hd];decide +kernel
    rw[hn] at hd ⊢;rw[show(-((n+1:Nat):Int))=Int.negSucc n from rfl,Cn,hd]
   ·have ef:eU (c::r)=c::r:=by
     unfold eU;split
     ·next z=>simp only[List.cons.injEq] at z;exact absurd z.1 hc
     ·rfl
    rw[e,ef] at ad ne hz;have hv:=intText_digits (x:=x) (by rw[e];exact ad) (by rw[e];exact ne) (by omega);rw[hv,e] at hi;cases hi;rw[xH,FN ad ne hz]
theorem eE:∀ {d:Nat} {ws:List Str} {s:Say} {r:List Str},cK d ws=some (s,r)->ws=sw s++r/\s.sh/\s.depth<=d
 | 0,_,_,_,h=>by cases h
 | _+1,[],_,_,h=>by cases h
 | d+1,w::ws,s,r,h=>by
  rw[jE] at h;split at h
  ·next h3 =>
   cases h;simp only[l3,cE,List.any_cons,List.any_nil,dB,gL,Bool.or_false,Bool.or_eq_true,beq_iff_eq] at h3;rcases h3 with rfl|rfl|rfl
   ·exact⟨rfl,⟨trivial,fun x hx=>by cases hx⟩,Nat.succ_le_succ (Nat.zero_le _)⟩
   ·exact⟨rfl,⟨trivial,fun x hx=>by cases hx⟩,Nat.succ_le_succ (Nat.zero_le _)⟩
   ·exact⟨rfl,⟨trivial,fun x hx=>by cases hx⟩,Nat.succ_le_succ (Nat.zero_le _)⟩
  split at h
  ·next h2 =>
   split at h
   ·next s1 r1 e =>
    cases h;obtain⟨e1,e2,e3⟩:=eE e;simp only[l2,cE,List.any_cons,List.any_nil,dB,gL,Bool.or_false,Bool.or_eq_true,beq_iff_eq] at h2;rcases h2 with rfl|rfl
    ·exact⟨by rw[e1];rfl,⟨e2.1,e2.2⟩,Nat.succ_le_succ e3⟩
    ·exact⟨by rw[e1];rfl,⟨e2.1,e2.2⟩,Nat.succ_le_succ e3⟩
   ·cases h
  split at h
  ·next hp =>
   unfold gY at h;split at h
   ·next a g r2 e =>
    split at h
    ·next b c r4 e2 =>
     split at h
     ·next hc =>
      cases h;obtain⟨a1,a2,a3⟩:=eE e;obtain⟨b1,b2,b3⟩:=eE e2;refine⟨?_,⟨⟨a2.1,b2.1⟩,fun x hx=>?_⟩,Nat.succ_le_succ (Nat.max_le.mpr ⟨a3,b3⟩)⟩
      ·rw[a1,b1,hp,hc.2,sw,CY hc.1];simp
      ·rcases List.mem_append.mp hx with hx|hx
       ·exact a2.2 x hx
       ·exact b2.2 x hx
     ·cases h
    ·cases h
   ·cases h
  split at h
  ·next hn =>
   cases h;obtain⟨i,hi,hx,h1,h2⟩:=Ee hn;rw[hi];exact⟨by rw[hx];rfl,⟨⟨h1,h2⟩,fun x hx=>by cases hx⟩,Nat.succ_le_succ (Nat.zero_le _)⟩
  split at h
  ·next hb =>
   cases h;exact⟨rfl,⟨trivial,fun x hx=>by rw[show x=w by simpa[Say.nms] using hx];exact zS.mpr hb⟩,Nat.succ_le_succ (Nat.zero_le _)⟩
  ·cases h
theorem u6{ws r:List Str}{x:Str}(h:kM ws=some (x,r)):ws=x::r/\dG x:=by
 cases ws with
 | nil=>cases h
 | cons w ws =>
  rw[s8] at h;split at h
  ·next hb=>cases h;exact⟨rfl,zS.mpr hb⟩
  ·cases h
theorem pS:∀ {n:Nat} {ss YV:List Say} {ws r:List Str},iM n ss ws=some (YV,r)->∃ tl,YV=ss++tl/\ws=(tl.map sw).flatten++r/\(∀ s∈tl,s.s6)/\tl.length<=n
 | 0,_,_,_,_,h=>by cases h;exact⟨[],by simp,rfl,by simp,Nat.le_refl _⟩
 | _+1,_,_,[],_,h=>by cases h;exact⟨[],by simp,rfl,by simp,Nat.zero_le _⟩
 | n+1,ss,YV,w::ws,r,h=>by
  rw[pR] at h;split at h
  ·next s r1 e =>
   obtain⟨a1,a2,a3⟩:=eE e;obtain⟨tl,rfl,b2,b3,b4⟩:=pS h;refine⟨s::tl,by simp,by rw[a1,b2];simp,fun z hz=>?_,Nat.succ_le_succ b4⟩;rcases List.mem_cons.mp hz with rfl|hz
   ·exact⟨a2,a3⟩
   ·exact b3 z hz
  ·cases h
theorem Fg{x:Str}{ws r:List Str}{m:Stm}(hx:dG x)(h:k8 x ws=some (m,r)):x::"="::ws=m.ws++r/\m.W5/\m.blk=false:=by
 cases ws with
 | nil=>cases h
 | cons k ws =>
  rw[Ag] at h;split at h
  ·split at h
   ·next s r' e =>
    cases h;obtain⟨a1,a2,a3⟩:=eE e;exact⟨by rw[a1];rfl,⟨hx,a2,a3⟩,rfl⟩
   ·cases h
  next h5 =>
  split at h
  ·next hk =>
   split at h
   ·next s r' e =>
    cases h;obtain⟨a1,a2,a3⟩:=eE e;exact⟨by rw[a1,hk];rfl,⟨hx,a2,a3⟩,rfl⟩
   ·cases h
  next k1 =>
  split at h
  ·next hk =>
   split at h
   ·next ss r' e =>
    cases h;unfold gF at e;split at e
    ·next s r1 e1 =>
     obtain⟨a1,a2,a3⟩:=eE e1;obtain⟨tl,rfl,b2,b3,b4⟩:=pS e;refine⟨by rw[a1,b2,hk];simp[Stm.ws],⟨hx,⟨by simp,by simp;omega⟩,fun z hz=>?_⟩,rfl⟩;rcases List.mem_cons.mp (show z∈s::tl from hz) with rfl|hz
     ·exact⟨a2,a3⟩
     ·exact b3 z hz
    ·cases e
   ·cases h
  next k2 =>
  split at h
  ·next hk =>
   split at h
   ·next y r' e =>
    cases h;obtain⟨rfl,hy⟩:=u6 e;exact⟨by rw[hk];rfl,⟨hx,hy⟩,rfl⟩
   ·cases h
  next k3 =>
  split at h
  ·next y r1 e =>
   obtain⟨rfl,hy⟩:=u6 e;split at h
   ·next s r' e2 =>
    cases h;obtain⟨a1,a2,a3⟩:=eE e2;split
    ·next hk=>exact⟨by rw[a1,hk];rfl,⟨hx,hy,a2,a3⟩,rfl⟩
    ·next k4 =>
     have k5:k = "child":=by
      rw[Bool.not_eq_false] at h5;simp only[l5,cE,List.any_cons,List.any_nil,dB,gL,Bool.or_false,Bool.or_eq_true,beq_iff_eq] at h5;rcases h5 with h|h|h|h|h
      ·exact absurd h.symm k4
      ·exact h.symm
      ·exact absurd h.symm k1
      ·exact absurd h.symm k2
      ·exact absurd h.symm k3
     exact⟨by rw[a1,k5];rfl,⟨hx,hy,a2,a3⟩,rfl⟩
   ·cases h
  ·cases h
theorem Ai{ws r:List Str}{m:Stm}(h:iS ws=some (m,r)):ws=m.ws++r/\m.W5/\m.blk=false:=by
 cases ws with
 | nil=>cases h
 | cons f ws =>
  rw[j8] at h;split at h
  ·next hf =>
   split at h
   ·next a r1 e =>
    split at h
    ·next k r2 e2 =>
     split at h
     ·next b r' e3 =>
      cases h;obtain⟨a1,a2,a3⟩:=eE e;obtain⟨rfl,hk⟩:=u6 e2;obtain⟨b1,b2,b3⟩:=eE e3;exact⟨by rw[a1,b1,hf];simp[Stm.ws],⟨⟨a2,a3⟩,hk,b2,b3⟩,rfl⟩
     ·cases h
    ·cases h
   ·cases h
  split at h
  ·next hf =>
   split at h
   ·next s r' e =>
    cases h;obtain⟨a1,a2,a3⟩:=eE e;split
    ·next z=>exact⟨by rw[a1,z];rfl,⟨a2,a3⟩,rfl⟩
    ·next z=>exact⟨by rw[a1,hf.resolve_left z];rfl,⟨a2,a3⟩,rfl⟩
   ·cases h
  split at h
  ·next hb =>
   split at h
   ·cases h
   ·next e r1 =>
    split at h
    ·next he =>
     have:=Fg (zS.mpr hb) h;exact⟨by rw[he];exact this.1,this.2⟩
    ·cases h
  ·cases h
theorem pL(y:Str)(ws:List Str):Txt.join y ws=Str.join y ws:=StrLaws.glued_eq_join y ws
theorem DQ(l:Str):jb (Txt.split l " ")=l:=by
 unfold jb;rw[pL];exact StrLaws.join_split l " "
theorem tS(l:Str):∃ w r,Txt.split l " "=w::r:=by
 cases h:Txt.split l " " with
 | nil=>exact absurd h (fN l " ")
 | cons w r=>exact⟨w,r,rfl⟩
theorem BE{L L':List Str}(h:sY L=some L'):L=("done":Str)::L':=by
 cases L with
 | nil=>cases h
 | cons l L =>
  rw[sZ] at h;split at h
  ·next e=>cases h;rw[e]
  ·cases h
noncomputable def ED(D:Nat)(blk:rZ):Prop:=∀ {k:Nat} {L:List Str} {b:List Stm} {k':Nat} {L':List Str},blk k L=some (b,k',L')->L=bL b++L'/\wZ b/\qC b < D/\k'=k+nJ b/\(k<=60->k'<=60)
theorem Ek{D:Nat}{blk:rZ}(S:ED D blk)(hD:0 < D){k k':Nat}{L L':List Str}{o:List Stm}(h:pU blk k L=some (o,k',L')):L=TN o++L'/\wZ o/\qC o < D/\k'=k+nJ o/\(k<=60->k'<=60):=by
 cases L with
 | nil=>cases h;exact⟨rfl,trivial,hD,rfl,id⟩
 | cons l L =>
  rw[pV] at h;split at h
  ·next e =>
   split at h
   ·next m o k1 L1 e1 =>
    cases h;obtain⟨a,b⟩:=S e1;exact⟨by rw[a,e];rfl,b⟩
   ·cases h
  ·cases h;exact⟨rfl,trivial,hD,rfl,id⟩
theorem VE{w:Str}(h:cE (.str w) lB=true):w = "if"\/w = "while":=by
 simp only[lB,cE,List.any_cons,List.any_nil,dB,gL,Bool.or_false,Bool.or_eq_true,beq_iff_eq] at h;rcases h with h|h
 ·exact .inl h.symm
 ·exact .inr h.symm
theorem Hw{D:Nat}{blk:rZ}(S:ED D blk){k k':Nat}{l w:Str}{r L L':List Str}{m:Stm}(hl:Txt.split l " "=w::r)(hw:cE (.str w) lB=true)(h:El blk k (w::r) L=some (m,k',L')):l::L=m.rows++L'/\m.wf/\m.dp<=D/\k'+1=k+m.sz/\(k<=60->k'<=60):=by
 rw[CP] at h;split at h
 ·next s e =>
  obtain⟨a1,a2,a3⟩:=eE e;rw[List.append_nil] at a1;have hj:=DQ l;rw[hl,a1] at hj;split at h
  ·next b k1 L1 e1 =>
   obtain⟨b1,b2,b3,b4,b5⟩:=S e1;split at h
   ·next hk =>
    split at h
    ·next L2 e2 =>
     cases h;rw[BE e2] at b1;refine⟨?_,⟨⟨a2,a3⟩,b2⟩,by show qC b+1<=D;omega,by show k'+1=k+(nJ b+1);omega,b5⟩;have:=Stm.FX (.Xd s b);rw[show(Stm.Xd s b).ws=w::sw s by rw[hk];rfl,hj] at this;rw[b1,<- this];simp[Stm.rows,Stm.hd]
    ·cases h
   ·next hk =>
    have hi:=(VE hw).resolve_right hk;split at h
    ·next o k2 L2 e2 =>
     obtain⟨c1,c2,c3,c4,c5⟩:=Ek S (by omega) e2;split at h
     ·next L3 e3 =>
      cases h;rw[BE e3] at c1;refine⟨?_,⟨⟨a2,a3⟩,b2,c2⟩,by show max (qC b) (qC o)+1<=D;omega,by show k'+1=k+(nJ b+nJ o+1);omega,fun z=>c5 (b5 z)⟩;have:=Stm.FX (.iff s b o);rw[show(Stm.iff s b o).ws=w::sw s by rw[hi];rfl,hj] at this;rw[b1,c1,<- this];simp[Stm.rows,Stm.hd,TN]
     ·cases h
    ·cases h
  ·cases h
 ·cases h
theorem u9{D:Nat}{blk:rZ}(S:ED D blk){k k':Nat}{l:Str}{L L':List Str}{m:Stm}(h:i0 blk k l L=some (m,k',L')):l::L=m.rows++L'/\m.wf/\m.dp<=D/\k'=k+m.sz/\k'<=60:=by
 unfold i0 at h;obtain⟨w,r,hl⟩:=tS l;rw[hl] at h;split at h
 ·cases h
 next hk =>
 split at h
 ·next hw =>
  obtain⟨a1,a2,a3,a4,a5⟩:=Hw S hl hw h;exact⟨a1,a2,a3,by omega,a5 (by omega)⟩
 ·split at h
  ·next m' e =>
   cases h;obtain⟨a1,a2,a3⟩:=Ai e;rw[List.append_nil] at a1;have hj:=DQ l;rw[hl,a1,<- Stm.FX] at hj;have:m.rows=[m.hd]/\m.wf/\m.dp=0/\m.sz=1:=by cases m<;>first|exact⟨rfl,a2,rfl,rfl⟩|cases a3
   obtain⟨b1,b2,b3,b4⟩:=this;exact⟨by rw[b1,hj];rfl,b2,by omega,by omega,by omega⟩
  ·cases h
theorem BF{D:Nat}{blk:rZ}(S:ED D blk):∀ {n:Nat} {acc:List Stm} {k:Nat} {L:List Str} {b:List Stm} {k':Nat} {L':List Str},nD (i0 blk) n acc k L=some (b,k',L')->∃ b2,b=acc++b2/\L=bL b2++L'/\wZ b2/\qC b2 < D+1/\k'=k+nJ b2/\(k<=60->k'<=60)
 | 0,_,_,_,_,_,_,h=>by cases h
 | _+1,_,_,[],_,_,_,h=>by cases h;exact⟨[],by simp,rfl,trivial,Nat.succ_pos _,rfl,id⟩
 | n+1,acc,k,l::L,b,k',L',h=>by
  rw[xP] at h;split at h
  ·cases h;exact⟨[],by simp,rfl,trivial,Nat.succ_pos _,rfl,id⟩
  ·split at h
   ·next m k1 L1 e =>
    obtain⟨a1,a2,a3,a4,a5⟩:=u9 S e;obtain⟨b2,rfl,c1,c2,c3,c4,c5⟩:=BF S h;exact⟨m::b2,by simp,by rw[a1,c1];simp[bL],⟨a2,c2⟩,by simp only[qC];omega,by simp only[nJ];omega,fun _=>c5 a5⟩
   ·cases h
theorem iR:∀ D,ED D (dJ D)
 | 0=>fun h=>by cases h
 | D+1=>fun h=>by
  obtain⟨b2,rfl,c⟩:=BF (iR D) h;exact c
theorem uM{t:Str}(h:t = ""\/Txt.endswith t "\n"=true):Txt.split t "\n"=(Txt.split t "\n").dropLast++[("":Str)]:=by
 have ne:=fN t "\n";have e:=List.dropLast_concat_getLast ne;have fr:10∉((Txt.split t "\n").getLast ne).cps.toList:=by
  have:=StrLaws.split_free t 10 _ (by rw[<- eP.1];exact List.getLast_mem ne);exact this
 have j:=StrLaws.join_split t "\n";rw[<- e,<- pL,<- rJ] at j;generalize (Txt.split t "\n").getLast ne=z at *;generalize Txt.join "" ((Txt.split t "\n").dropLast.map fun r:Str=>r++"\n")=y at *;have hz:z = "":=by
  have jl:y.cps.toList++z.cps.toList=t.cps.toList:=by rw[<- jK,j]
  have e0:("":Str).cps.toList=[]:=by decide +kernel
  apply jS;rw[e0];rcases h with rfl|h
  ·rw[e0] at jl;exact(List.append_eq_nil_iff.mp jl).2
  ·unfold Txt.endswith at h;rw[eP.1,Bool.and_eq_true,decide_eq_true_eq] at h;have h2:=(StrLaws.subAt_one t 10 (t.length - 1)).mp ⟨by have:=h.1;have l1:(⟨#[10]⟩:Str).length=1:=rfl;omega,h.2⟩;cases hc:z.cps.toList with
   | nil=>rfl
   | cons c r =>
    exfalso;apply fr;have hl:t.length=t.cps.toList.length:=by rw[Array.length_toList];rfl
    rw[hl,<- jl,List.getElem?_append_right (by rw[List.length_append,hc];simp)] at h2;exact List.mem_of_getElem? h2
 rw[hz] at e;exact e.symm
theorem Hv{t:Str}{b:List Stm}(h:oO t=some b):AB b=t/\wZ b/\qC b<=5/\nJ b<=60:=by
 unfold oO at h;split at h
 ·cases h
 next hn =>
 split at h
 ·next b' k e =>
  cases h;obtain⟨a1,a2,a3,a4,a5⟩:=iR 6 e;refine⟨?_,a2,by omega,by have:=a5 (by omega);omega⟩;rw[List.append_nil] at a1;have es:=uM (t:=t) (by
   by_cases z:t = ""
   ·exact .inl z
   ·refine .inr ?_;cases e:Txt.endswith t "\n" with
    | true=>rfl
    | false=>exact absurd ⟨z,e⟩ hn)
  have:=StrLaws.join_split t "\n";rw[es,a1] at this;rw[<- pL,<- rJ] at this;rw[<- this];apply jS;rw[jK,show("":Str).cps.toList=[] by decide +kernel,List.append_nil];rfl
 ·cases h
theorem lf3:cE (.str "none") l3=true/\cE (.str "arg") l3=true/\cE (.str "now") l3=true/\cE (.str "answer") l3=false/\cE (.str "not") l3=false/\cE (.str "(") l3=false/\cE (.str "answer") l2=true/\cE (.str "not") l2=true/\cE (.str "(") l2=false:=by decide +kernel
theorem Q7(g:Sg):J9 g.s=g:=by
 have n:∀ h:Sg,h.s=g.s->h=g:=fun h z=>by
  revert z
  cases h<;>cases g<;>first|exact fun _=>rfl|exact fun z=>absurd z (by decide +kernel)
 exact n _ (CY (NK g))
theorem MD(s:Say):∀ {d:Nat} (_:s.sh) (_:s.depth<=d) (r:List Str),cK d (sw s++r)=some (s,r):=by
 obtain⟨z1,z2,z3,z4,z5,z6,z7,z8,z9⟩:=lf3
 induction s with
 | num n =>
  intro d hs hd r;obtain⟨d,rfl⟩:∃ e,d=e+1:=⟨d - 1,by simp only[Say.depth] at hd;omega⟩;show cK (d+1) (Str.ofString (toString n)::r)=_;rw[jE,if_neg (by rw[Mf n];decide),if_neg (by rw[Me n];decide),if_neg (fun z=>by rw[uO (n:=n) (x:="(") 40 (by decide +kernel) (by decide)] at z;exact z),if_pos (DO hs.1.1 hs.1.2),uP n (Nat.lt_of_le_of_lt (show n.natAbs<=1000000000 by have:=hs.1.1;have:=hs.1.2;omega) (by decide))];rfl
 | W3 =>
  intro d hs hd r;obtain⟨d,rfl⟩:∃ e,d=e+1:=⟨d - 1,by simp only[Say.depth] at hd;omega⟩;show cK (d+1) ("none"::r)=_;rw[jE,if_pos z1,sQ,if_pos rfl]
 | arg =>
  intro d hs hd r;obtain⟨d,rfl⟩:∃ e,d=e+1:=⟨d - 1,by simp only[Say.depth] at hd;omega⟩;show cK (d+1) ("arg"::r)=_;rw[jE,if_pos z2,sQ,if_neg (by decide +kernel),if_pos rfl]
 | now =>
  intro d hs hd r;obtain⟨d,rfl⟩:∃ e,d=e+1:=⟨d - 1,by simp only[Say.depth] at hd;omega⟩;show cK (d+1) ("now"::r)=_;rw[jE,if_pos z3,sQ,if_neg (by decide +kernel),if_neg (by decide +kernel)]
 | name x =>
  intro d hs hd r;obtain⟨d,rfl⟩:∃ e,d=e+1:=⟨d - 1,by simp only[Say.depth] at hd;omega⟩;have hx:=hs.2 x (by simp[Say.nms]);show cK (d+1) (x::r)=_;rw[jE,if_neg (by rw[NH hx (by decide)];decide),if_neg (by rw[NH hx (by decide)];decide),if_neg (fun z=>by rw[QN hx] at z;exact z),if_neg (by rw[JL hx];decide),if_pos (zS.mp hx)]
 | Xz s ih =>
  intro d hs hd r;obtain⟨d,rfl⟩:∃ e,d=e+1:=⟨d - 1,by simp only[Say.depth] at hd;omega⟩;show cK (d+1) ("answer"::(sw s++r))=_;rw[jE,if_neg (by rw[z4];decide),if_pos z7,ih ⟨hs.1,hs.2⟩ (by simp only[Say.depth] at hd;omega) r];simp only[];rw[un2,if_pos rfl]
 | neg s ih =>
  intro d hs hd r;obtain⟨d,rfl⟩:∃ e,d=e+1:=⟨d - 1,by simp only[Say.depth] at hd;omega⟩;show cK (d+1) ("not"::(sw s++r))=_;rw[jE,if_neg (by rw[z5];decide),if_pos z8,ih ⟨hs.1,hs.2⟩ (by simp only[Say.depth] at hd;omega) r];simp only[];rw[un2,if_neg (by decide +kernel)]
 | two g a b i1 i2 =>
  intro d hs hd r;obtain⟨d,rfl⟩:∃ e,d=e+1:=⟨d - 1,by simp only[Say.depth] at hd;omega⟩;have e:sw (.two g a b)++r=("(":Str)::(sw a++(g.s::(sw b++((")":Str)::r)))):=by simp[sw]
  rw[e,jE,if_neg (by rw[z6];decide),if_neg (by rw[z9];decide),if_pos rfl,gY,i1 ⟨hs.1.1,fun x hx=>hs.2 x (List.mem_append_left _ hx)⟩ (by simp only[Say.depth] at hd;omega)];simp only[];rw[i2 ⟨hs.1.2,fun x hx=>hs.2 x (List.mem_append_right _ hx)⟩ (by simp only[Say.depth] at hd;omega)];simp only[];rw[if_pos ⟨NK g,trivial⟩,Q7]
theorem BG:∀(n:Nat) (tl acc:List Say),(∀ s∈tl,s.s6)->tl.length<=n->iM n acc (tl.map sw).flatten=some (acc++tl,[])
 | n,[],acc,_,_=>by simp only[List.map_nil,List.flatten_nil,List.append_nil];exact CO n acc
 | 0,s::tl,_,_,h=>by simp at h
 | n+1,s::tl,acc,hs,h=>by
  have h6:=hs s (by simp);obtain⟨w,r,hw⟩:∃ w r,sw s=w::r:=by
   cases h:sw s with
   | nil=>exact absurd h (jJ s)
   | cons a b=>exact⟨a,b,rfl⟩
  have e:=MD s h6.1 h6.2 (tl.map sw).flatten;have e2:=BG n tl (acc++[s]) (fun z hz=>hs z (List.mem_cons_of_mem _ hz)) (by simpa using h);simp only[List.map_cons,List.flatten_cons];rw[hw] at e ⊢;rw[List.cons_append] at e ⊢;rw[pR,e];simp only[];rw[e2];simp
theorem WE:cE (.str "while") lB=true/\cE (.str "if") lB=true/\¬ ("if":Str) = "while"/\¬ ("done":Str) = "else":=by decide +kernel
theorem CN(R:List Str):sY (("done":Str)::R)=some R:=by rw[sZ,if_pos rfl]
theorem Ga{c:Nat}:∀ {l:List (List Nat)} {w:List Nat},w∈l->w.length<=(jn c l).length
 | [],_,h=>by cases h
 | [v],w,h=>by rw[show w=v by simpa using h];exact Nat.le_refl _
 | v::u::r,w,h=>by
  show w.length<=(v++c::jn c (u::r)).length;rw[List.length_append,List.length_cons];rcases List.mem_cons.mp h with rfl|h
  ·omega
  ·have:=Ga (c:=c) h;omega
theorem BM(c:Nat)(x:Str):∀ w∈Txt.split x ⟨#[c]⟩,w.length<=x.length:=fun w hw=>by
 have h1:=Ga (c:=c) (List.mem_map_of_mem (f:=fun p:Str=>p.cps.toList) hw);rw[<- xI,pL,StrLaws.join_split] at h1;rw[Array.length_toList,Array.length_toList] at h1;exact h1
theorem Kl{l:Str}(h:l.length<=8000000):WL (Txt.split l " "):=fun w hw=>by
 rw[eP.2.1] at hw;have:=BM 32 l w hw;omega
noncomputable def RL(rows:List Str):Prop:=∀ r∈rows,r.length<=8000000
noncomputable def Kb(C X:Addr)(D:Nat):Sp:=fun vs H Q E=>∃(rd dx ll:Addr) (rows:List Str) (i k:Nat) (dp:Int),vs=[.ref rd,.int dp]/\g9 C H rd dx ll rows i k/\dp+D=6/\RL rows/\k<=60 /\
 (∀(b:List Stm) (k':Nat) (L':List Str),dJ D k (rows.drop i)=some (b,k',L')->∀(p:Addr) (us:List V) (H':Hp) (i':Nat),H' p=some (.tup us)->bJ H' us b->g9 C H' rd dx ll rows i' k'->rows.drop i'=L'->Kp [rd] H H'->Q (.ref p) H') /\
 (dJ D k (rows.drop i)=none->∀ H',Kp [rd] H H'->E (.ref X) none H')
noncomputable def Gq(C X:Addr)(D:Nat):Sp:=fun vs H Q E=>∃ D':Nat,D=D'+1/\Kb C X D' vs H Q E
noncomputable def Rk(C X:Addr)(D:Nat):Sp:=fun vs H Q E=>∃(D':Nat) (rd dx ll:Addr) (rows:List Str) (i k:Nat) (dp:Int),D=D'+1/\vs=[.ref rd,.int dp]/\g9 C H rd dx ll rows i k/\dp+D'=6/\RL rows/\k<=60 /\
 (∀(o:List Stm) (k':Nat) (L':List Str),pU (dJ D') k (rows.drop i)=some (o,k',L')->∀(p:Addr) (us:List V) (H':Hp) (i':Nat),H' p=some (.tup us)->bJ H' us o->g9 C H' rd dx ll rows i' k'->rows.drop i'=L'->Kp [rd] H H'->Q (.ref p) H') /\
 (pU (dJ D') k (rows.drop i)=none->∀ H',Kp [rd] H H'->E (.ref X) none H')
noncomputable def UU(C X:Addr)(D:Nat):Sp:=fun vs H Q E=>∃(D':Nat) (rd dx ll wl:Addr) (rows:List Str) (i k:Nat) (dp:Int) (kd:Str) (r:List Str),D=D'+1/\vs=[.ref rd,.ref wl,.int dp]/\g9 C H rd dx ll rows i k/\H wl=some (.lst ((kd::r).map V.str))/\wl≠ll/\cE (.str kd) lB=true/\WL (kd::r)/\dp+D=6/\RL rows/\k<=60 /\
 (∀(m:Stm) (k':Nat) (L':List Str),El (dJ D') k (kd::r) (rows.drop i)=some (m,k',L')->∀(v:V) (H':Hp) (i':Nat),bV H' v m->g9 C H' rd dx ll rows i' k'->rows.drop i'=L'->Kp [rd,wl] H H'->Q v H') /\
 (El (dJ D') k (kd::r) (rows.drop i)=none->∀ H',Kp [rd,wl] H H'->E (.ref X) none H')
noncomputable def Rl(C X:Addr)(D:Nat):Sp:=fun vs H Q E=>∃(D':Nat) (rd dx ll:Addr) (rows:List Str) (i k:Nat) (dp:Int) (l:Str) (L:List Str),D=D'+1/\vs=[.ref rd,.int dp]/\g9 C H rd dx ll rows i k/\rows.drop i=l::L/\dp+D=6/\RL rows/\k<=60 /\
 (∀(m:Stm) (k':Nat) (L':List Str),i0 (dJ D') k l L=some (m,k',L')->∀(v:V) (H':Hp) (i':Nat),bV H' v m->g9 C H' rd dx ll rows i' k'->rows.drop i'=L'->Kp [rd] H H'->Q v H') /\
 (i0 (dJ D') k l L=none->∀ H',Kp [rd] H H'->E (.ref X) none H')
theorem KA{H:Hp}{us:List V}{b:List Stm}(h:bJ H us b):us.isEmpty=b.isEmpty:=by
 cases h<;>rfl
theorem Qy{r:Str}(h:¬ (r = "else"\/r = "done")):cE (.str r) [.W3,.str "else",.str "done"]=false:=by
 simp only[cE,List.any_cons,List.any_nil,dB,gL,Bool.or_false,Bool.false_or];rw[Bool.or_eq_false_iff];exact⟨beq_eq_false_iff_ne.mpr fun z=>h (.inl z.symm),beq_eq_false_iff_ne.mpr fun z=>h (.inr z.symm)⟩
noncomputable def MX(X:Addr):Sp:=fun vs H Q E=>∃ t:Str,vs=[.str t]/\t.length<=8000000/\(∀(b:List Stm),oO t=some b->∀(p:Addr) (us:List V) (H':Hp),H' p=some (.tup us)->bJ H' us b->Kp [] H H'->Q (.ref p) H')/\(oO t=none->∀ H',Kp [] H H'->E (.ref X) none H')
noncomputable def tot(ws:List Str):Nat:=(ws.map fun w=>w.length+1).sum
theorem dC(a b:List Str):tot (a++b)=tot a+tot b:=by simp[tot]
theorem dF(w:Str):tot [w]=w.length+1:=by simp[tot]
theorem dE(w:Str)(ws:List Str):tot (w::ws)=w.length+1+tot ws:=by simp[tot]
theorem gH:∀ {ws:List Str} {w:Str},w∈ws->w.length+1<=tot ws
 | [],_,h=>by cases h
 | v::ws,w,h=>by
  rw[dE];rcases List.mem_cons.mp h with rfl|h
  ·omega
  ·have:=gH h;omega
theorem dU{a b:List Str}(h:a.Sublist b):tot a<=tot b:=by
 induction h with
 | slnil=>exact Nat.le_refl _
 | cons w _ ih=>rw[dE];omega
 | cons_cons w _ ih=>rw[dE,dE];omega
theorem pZ(w:Str):∀(ws:List Str) (i:Nat),tot (ws.set i w)<=tot ws+(w.length+1)
 | [],_=>by simp[tot]
 | v::ws,0=>by rw[List.set_cons_zero,dE,dE];omega
 | v::ws,i+1=>by rw[List.set_cons_succ,dE,dE];have:=pZ w ws i;omega
theorem pM:∀ ws:List Str,ws.length<=tot ws
 | []=>Nat.zero_le _
 | w::ws=>by rw[dE,List.length_cons];have:=pM ws;omega
theorem Js(c:Nat):∀ {l:List Str},l≠[]->(jn c (l.map fun p=>p.cps.toList)).length+1=tot l
 | [],h=>absurd rfl h
 | [w],_=>by simp[jn,tot,Str.length]
 | w::v::r,_=>by
  have:=Js c (l:=v::r) (by simp);rw[dE,<- this];show(w.cps.toList++c::jn c ((v::r).map fun p=>p.cps.toList)).length+1=_;rw[List.length_append,List.length_cons,Array.length_toList];show w.length+_+1=_;omega
theorem DR(c:Nat){l:List Str}(h:l≠[]):(Txt.join ⟨#[c]⟩ l).length+1=tot l:=by
 rw[<- Js c h,<- xI,Array.length_toList];rfl
theorem QD(l:List Str):(Txt.join " " l).length<=tot l:=by
 cases l with
 | nil=>exact Nat.le_of_eq (by decide +kernel)
 | cons w r=>rw[eP.2.1];have:=DR 32 (l:=w::r) (by simp);omega
theorem pY(c:Nat)(x:Str):tot (Txt.split x ⟨#[c]⟩)=x.length+1:=by
 rw[<- DR c (fN _ _),pL,StrLaws.join_split]
theorem pN(l:List Str):(Txt.join "" (l.map fun r:Str=>r++"\n")).length=tot l:=by
 show(Txt.join "" (l.map fun r:Str=>r++"\n")).cps.size=_;rw[<- Array.length_toList,uQ]
 induction l with
 | nil=>rfl
 | cons w r ih =>
  rw[dE,<- ih];simp only[List.map_cons,List.flatten_cons,List.length_append,jK,eP.1,Array.length_toList];rfl
theorem CC:(" ":Str).length=1/\("":Str).length=0:=by decide +kernel
theorem M9(us:List Str):(us.map fun z=>z.length).sum+us.length=tot us:=by
 induction us with
 | nil=>rfl
 | cons w r ih=>rw[dE,<- ih,List.map_cons,List.sum_cons,List.length_cons];omega
theorem qA{us vs:List Str}{a:Addr}{H:Hp}{Q:VK}{oa ob:Option HO}(e1:oa=some (.lst (us.map V.str)))(e2:ob=some (.lst (vs.map V.str)))(l:us.length+vs.length<=16777216)(q:∀ p H',H' p=some (.lst ((us++vs).map V.str))->Kp [] H H'->Q (.ref p) H'):GL H Q a oa ob:=by
 subst e1 e2;exact⟨by rw[List.length_map,List.length_map];exact l,fun p hp=>q p _ (by rw[List.map_append];exact aE) (Kp.new hp)⟩
theorem oF{xs:List V}{i:Int}(h0:0<=i)(h1:i < (xs.length:Int)):∃ j,Co xs.length i=some j/\j < xs.length:=⟨i.toNat,by unfold Co;rw[if_pos h0,if_pos h1],by omega⟩
theorem cX{us ws:List Str}(h:us.Sublist ws):us.length<=tot ws:=Nat.le_trans (pM us) (dU h)
theorem Cr{r wl:Addr}{H G G':Hp}(K:Kp [r] H G)(K2:Kp [wl] G G')(n:H wl=none):Kp [r] H G':=fun b o e hb=>K2 b o (K b o e hb) (by
 simp only[List.mem_cons,List.not_mem_nil,or_false];exact aL e n)
theorem tM{H:Hp}{r:Addr}(R:bQ H r)(us:List Str):H r≠some (.lst (us.map V.str)):=fun z=>by
 obtain⟨c,l,f,e,_⟩:=R;rw[e] at z;cases us with
 | nil=>cases z
 | cons a b=>cases z
theorem Em{K:q0B}{H:Hp}{a b:Addr}{xs:List V}(ha:H a=some (.lst xs))(hb:H b=some (.lst [])):vR K H 1 a b xs.isEmpty:=by
 cases xs with
 | nil =>
  have:=vR.list (K:=K) (H:=H) (n:=0) (e:=fun _=>true) (dZ.of ha) (dZ.of hb) rfl (fun j x y e _=>by simp at e);simpa using this
 | cons x xs=>exact vR.Xp (dZ.of ha) (dZ.of hb) (by simp)
theorem lsum(us:List Str):((us.map fun r:Str=>r++"\n").map fun z=>z.length).sum=tot us:=by
 induction us with
 | nil=>rfl
 | cons w r ih=>rw[dE,<- ih,List.map_cons,List.map_cons,List.sum_cons,bE,kZ.1]
theorem vW(ws:List Str){k:Int}(h:0<=k):∃ us:List Str,kU (ws.map V.str) none (some k)=us.map V.str/\us.Sublist ws/\us.length<=k.toNat:=by
 obtain⟨n,rfl⟩:∃ n:Nat,k=(n:Int):=⟨k.toNat,by omega⟩;unfold kU;rw[HT.CV,HT.Ep,List.drop_zero,<- List.map_take];exact⟨_,rfl,List.take_sublist _ _,by rw[List.length_take,List.length_map];simp;omega⟩
theorem vV(ws:List Str){k:Int}(h:0<=k):∃ us:List Str,kU (ws.map V.str) (some k) none=us.map V.str/\us.Sublist ws/\us.length<=ws.length - k.toNat:=by
 obtain⟨n,rfl⟩:∃ n:Nat,k=(n:Int):=⟨k.toNat,by omega⟩;unfold kU;rw[HT.CV,HT.Ep,<- List.map_drop,<- List.map_take];exact⟨_,rfl,(List.take_sublist _ _).trans (List.drop_sublist _ _),by rw[List.length_take,List.length_drop,List.length_map];simp;omega⟩
theorem p45{n:Nat}(h:n<=16777216):(n:Int)+1<=10 ^ 45:=Int.le_trans (Int.add_le_add_right (Int.ofNat_le.mpr h) 1) (by decide)
noncomputable def MT(X:Addr):Sp:=fun vs H Q _=>∃ t:Str,vs=[.str t]/\t.length<=8000000/\(∀(b:List Stm),oO t=some b->∀(a p:Addr) (us:List V) (H':Hp),H' a=some (.tup [.ref p,.bl false])->H' p=some (.tup us)->bJ H' us b->Kp [] H H'->Q (.ref a) H')/\(oO t=none->∀(a:Addr) (H':Hp),H' a=some (.tup [.W3,.bl true])->Kp [] H H'->Q (.ref a) H')
noncomputable def Kd:Sp:=fun vs H Q _=>∃ r:Addr,vs=[.ref r]/\bQ H r/\∀(y:Str) (H':Hp),y.length<=40->bQ H' r->Kp [r] H H'->Q (.str y) H'
noncomputable def MU:Sp:=fun vs H Q _=>∃(r:Addr) (x:Str),vs=[.ref r,.str x]/\bQ H r/\x.length<=4000000/\∀(y:Str) (H':Hp),y.length<=3 * (x.length+1)+50->bQ H' r->Kp [r] H H'->Q (.str y) H'
noncomputable def Rb:Sp:=fun vs H Q _=>∃(r:Addr) (x:Str),vs=[.ref r,.str x]/\bQ H r/\x.length<=600000/\∀(y:Str) (H':Hp),y.length<=4 * (x.length+1)+60->bQ H' r->Kp [r] H H'->Q (.str y) H'
noncomputable def strs40(l:List V):Bool:=l.all fun v=>match v with
 | .str y=>decide (y.length<=40)
 | _=>false
theorem vO{l:List V}(h:strs40 l=true){v:V}(hv:v∈l):∃ y:Str,v=.str y/\y.length<=40:=by
 have:=List.all_eq_true.mp h v hv;cases v with
 | str y=>exact⟨y,rfl,by simpa using this⟩
 | _=>cases this
theorem Fs{a b:List V}(h:strs40 a=true)(g:strs40 b=true):strs40 (a++b)=true:=by
 unfold strs40 at h g ⊢;rw[List.all_append,h,g];rfl
theorem cat40{xs ys:List V}{a:Addr}{H:Hp}{Q:VK}{oa ob:Option HO}(e1:oa=some (.lst xs))(e2:ob=some (.lst ys))(s1:strs40 xs=true)(s2:strs40 ys=true)(l:xs.length+ys.length<=1000)(q:∀ p zs H',H' p=some (.lst zs)->strs40 zs=true->zs.length=xs.length+ys.length->Kp [] H H'->Q (.ref p) H'):GL H Q a oa ob:=by
 subst e1 e2;exact⟨Nat.le_trans l (by decide),fun p hp=>q p _ _ aE (Fs s1 s2) List.length_append (Kp.new hp)⟩
theorem five40:strs40 [.str "",.str " ",.str "\n\n",.str "\n \n",.str " \n"]=true:=by decide +kernel
theorem own40:strs40 mO=true/\mO.length=17:=by decide +kernel
theorem zR{H:Hp}{r p:Addr}{zs:List V}{n:Nat}(R:bQ H r)(e:H p=some (.lst zs))(l:zs.length=n+4):p≠r:=R.ne e fun a b c z=>by
 cases z;simp at l
mutual
theorem J5:∀ {m:Stm},m.wf->tot m.rows<=8011 * m.sz
 | .Xd s b,h=>by
  have h1:=lW h.2;have h2:=Stm.dI (m:=.Xd s b) h.1;show tot ((((Stm.Xd s b).hd::bL b)++[("done":Str)]))<=8011 * (nJ b+1);rw[dC,dE,dF,show("done":Str).length=4 by decide +kernel];omega
 | .iff s b o,h=>by
  have h1:=lW h.2.1;have h3:=lW h.2.2;have h2:=Stm.dI (m:=.iff s b o) h.1;show tot ((((Stm.iff s b o).hd::bL b)++(if o.isEmpty=true then [] else ("else":Str)::bL o))++[("done":Str)])<=8011 * (nJ b+nJ o+1);rw[dC,dC,dE,dF,show("done":Str).length=4 by decide +kernel];split
  ·rw[show tot []=0 from rfl];omega
  ·rw[dE,show("else":Str).length=4 by decide +kernel];omega
 | .set x s,h=>by have:=Stm.dI (Stm.cV h);show tot [_]<=8011 * 1;rw[dF];omega
 | .order x y s,h=>by have:=Stm.dI (Stm.cV h);show tot [_]<=8011 * 1;rw[dF];omega
 | .W4 x s,h=>by have:=Stm.dI (Stm.cV h);show tot [_]<=8011 * 1;rw[dF];omega
 | .child x y s,h=>by have:=Stm.dI (Stm.cV h);show tot [_]<=8011 * 1;rw[dF];omega
 | .send s k u,h=>by have:=Stm.dI (Stm.cV h);show tot [_]<=8011 * 1;rw[dF];omega
 | .drop s,h=>by have:=Stm.dI (Stm.cV h);show tot [_]<=8011 * 1;rw[dF];omega
 | .wait x ss,h=>by have:=Stm.dI (Stm.cV h);show tot [_]<=8011 * 1;rw[dF];omega
 | .W9 x k,h=>by have:=Stm.dI (Stm.cV h);show tot [_]<=8011 * 1;rw[dF];omega
 | .fin s,h=>by have:=Stm.dI (Stm.cV h);show tot [_]<=8011 * 1;rw[dF];omega
theorem lW:∀ {b:List Stm},wZ b->tot (bL b)<=8011 * nJ b
 | [],_=>by simp[bL,tot]
 | m::ms,h=>by
  have h1:=J5 h.1;have h2:=lW h.2;show tot (m.rows++bL ms)<=8011 * (m.sz+nJ ms);rw[dC];omega
end
noncomputable def Kf:Sp:=fun vs H Q _=>∃ r:Addr,vs=[.ref r]/\bQ H r/\∀(p:Addr) (us:List V) (b:List Stm) (H':Hp),H' p=some (.tup us)->bJ H' us b->wZ b->qC b<=5->nJ b<=16->bQ H' r->Kp [r] H H'->Q (.ref p) H'
theorem MO(m:Stm):m.rows=m.hd::m.rows.tail:=by
 obtain⟨mr,hmr⟩:=BJ m;rw[hmr];rfl
inductive Fk where
 | bot|Xd (s:Say)|ifk (s:Say)|els (s:Say) (b:List Stm)
noncomputable abbrev Frm:=Fk×List Stm
inductive Lr where
 | ZR (m:Stm)|head (i:Bool) (s:Say)
noncomputable def lR(ws:List Str):Option Lr:=if cE (.str (ws.headD "")) lB=true then (match cK 6 ws.tail with
    | some (s,[])=>some (.head (decide (ws.headD "" = "if")) s)
    | _=>none)
  else match iS ws with
    | some (m,[])=>some (.ZR m)
    | _=>none
noncomputable def FO:Frm->Option Stm
 | (.bot,_)=>none
 | (.Xd s,acc)=>some (.Xd s acc)
 | (.ifk s,acc)=>some (.iff s acc [])
 | (.els s b,acc)=>if acc=[] then none else some (.iff s b acc)
noncomputable def RI(i:Bool)(s:Say):Fk:=if i=true then .ifk s else .Xd s
noncomputable def Jd(go:List Frm->Nat->Option (List Stm))(fs:List Frm)(k:Nat)(acc:List Stm):Fk->Option (List Stm)
 | .ifk s=>go ((.els s acc,[])::fs) k
 | _=>none
noncomputable def Uu(go:List Frm->Nat->Option (List Stm))(k:Nat):Option Stm->List Frm->Option (List Stm)
 | some m,(kd2,X8)::fs2=>go ((kd2,X8++[m])::fs2) k
 | _,_=>none
noncomputable def Gb(go:List Frm->Nat->Option (List Stm))(kd:Fk)(acc:List Stm)(fs:List Frm)(k:Nat):Option Lr->Option (List Stm)
 | none=>none
 | some (.ZR m)=>go ((kd,acc++[m])::fs) (k+1)
 | some (.head i s)=>if 6 < fs.length+2 then none else go ((RI i s,[])::(kd,acc)::fs) (k+1)
noncomputable def UW(go:List Frm->Nat->Option (List Stm))(l:Str)(k:Nat):List Frm->Option (List Stm)
 | []=>none
 | (kd,acc)::fs=>if l = "else" then Jd go fs k acc kd
  else if l = "done" then Uu go k (FO (kd,acc)) fs
  else if 60 < k+1 then none
  else Gb go kd acc fs k (lR (Txt.split l " "))
noncomputable def Wk:List Frm->Option (List Stm)
 | [(.bot,acc)]=>some acc
 | _=>none
noncomputable def zJ:List Str->List Frm->Nat->Option (List Stm)
 | [],fs,_=>Wk fs
 | l::L,fs,k=>UW (zJ L) l k fs
noncomputable abbrev Xh(fs:List Frm)(k:Nat)(L:List Str):Option (List Stm):=zJ L fs k
theorem mJ(kd:Fk)(acc:List Stm)(fs:List Frm)(k:Nat)(l:Str)(L:List Str):Xh ((kd,acc)::fs) k (l::L)=if l = "else" then Jd (zJ L) fs k acc kd
    else if l = "done" then Uu (zJ L) k (FO (kd,acc)) fs
    else if 60 < k+1 then none
    else Gb (zJ L) kd acc fs k (lR (Txt.split l " ")):=rfl
theorem zK(kd:Fk)(acc:List Stm)(f:Frm)(fs:List Frm)(k:Nat):Xh ((kd,acc)::f::fs) k []=none:=by
 cases kd<;>rfl
theorem pO{kd:Fk}(h:∀ s,kd≠.ifk s)(acc:List Stm)(fs:List Frm)(k:Nat)(L:List Str):Xh ((kd,acc)::fs) k (("else":Str)::L)=none:=by
 rw[mJ,if_pos rfl];cases kd with
 | ifk s=>exact absurd rfl (h s)
 | _=>rfl
theorem Cs{w:Str}{r:List Str}(h:cE (.str w) lB=true):lR (w::r)=match cK 6 r with
    | some (s,[])=>some (.head (decide (w = "if")) s)
    | _=>none:=by
  rw[lR,if_pos (show cE (.str ((w::r).headD "")) lB=true from h)];rfl
theorem Ct{w:Str}{r:List Str}(h:cE (.str w) lB=false):lR (w::r)=match iS (w::r) with
    | some (m,[])=>some (.ZR m)
    | _=>none:=by
  rw[lR,if_neg (show ¬ cE (.str ((w::r).headD "")) lB=true by show ¬ cE (.str w) lB=true;rw[h];decide)]
noncomputable def FC(L:List Str):Prop:=L=[]\/∃ l L',L=l::L'/\(l = "else"\/l = "done")
theorem Ah{st:Nat->Str->List Str->Option (Stm×Nat×List Str)}:∀ {n:Nat} {acc:List Stm} {k:Nat} {L:List Str} {b:List Stm} {k':Nat} {L':List Str},nD st n acc k L=some (b,k',L')->FC L'
 | 0,_,_,_,_,_,_,h=>by cases h
 | _+1,_,_,[],_,_,_,h=>by cases h;exact .inl rfl
 | n+1,acc,k,l::L,b,k',L',h=>by
  rw[xP] at h;split at h
  ·next e=>cases h;exact .inr ⟨_,_,rfl,e⟩
  ·split at h
   ·exact Ah h
   ·cases h
theorem oN{D k:Nat}{L:List Str}{b:List Stm}{k':Nat}{L':List Str}(h:dJ D k L=some (b,k',L')):FC L':=by
 cases D with
 | zero=>cases h
 | succ D=>exact Ah h
noncomputable def Sim(D:Nat)(blk:rZ):Prop:=∀(k:Nat) (L:List Str) (kd:Fk) (acc:List Stm) (fs:List Frm),fs.length+D=6->k<=60 ->
 (∀ b k' L',blk k L=some (b,k',L')->Xh ((kd,acc)::fs) k L=Xh ((kd,acc++b)::fs) k' L')/\(blk k L=none->Xh ((kd,acc)::fs) k L=none)
theorem wH:¬ ("done":Str) = "else":=by decide +kernel
theorem Ka{D:Nat}{blk:rZ}(S:D≠0->Sim D blk)(N:ED D blk)(Z:∀ k L b k' L',blk k L=some (b,k',L')->FC L')(h0:D=0->∀ k L,blk k L=none){k:Nat}{l:Str}{L:List Str}{kd:Fk}{acc:List Stm}{fs:List Frm}(hf:fs.length+(D+1)=6)(hk:k<=60)(hl:¬ (l = "else"\/l = "done")) :
    (∀ m k' L',i0 blk k l L=some (m,k',L')->Xh ((kd,acc)::fs) k (l::L)=Xh ((kd,acc++[m])::fs) k' L')/\(i0 blk k l L=none->Xh ((kd,acc)::fs) k (l::L)=none):=by
  have e1:¬ l = "else":=fun z=>hl (.inl z);have e2:¬ l = "done":=fun z=>hl (.inr z);rw[mJ,if_neg e1,if_neg e2,i0];by_cases Yt:60 < k+1
  · rw[if_pos Yt,if_pos Yt];exact⟨fun _ _ _ z=>(by cases z),fun _=>rfl⟩
  rw[if_neg Yt,if_neg Yt];obtain⟨w,r,hw⟩:=tS l;rw[hw];cases hB:cE (.str w) lB with
  | true =>
    rw[Cs hB,if_pos (show cE (.str ((w::r).headD "")) lB=true from hB),CP];have hw2:=VE hB;cases hs:cK 6 r with
    | none=>exact⟨fun _ _ _ z=>(by cases z),fun _=>rfl⟩
    | some p =>
      obtain⟨s,r2⟩:=p;cases r2 with
      | cons a c=>exact⟨fun _ _ _ z=>(by cases z),fun _=>rfl⟩
      | nil =>
        simp only[Gb];by_cases hD:D=0
        · rw[h0 hD,if_pos (by omega)];exact⟨fun _ _ _ z=>(by cases z),fun _=>rfl⟩
        rw[if_neg (by omega)];have S1:=S hD (k+1) L (RI (decide (w = "if")) s) [] ((kd,acc)::fs) (by rw[List.length_cons];omega) (by omega);cases hb:blk (k+1) L with
        | none=>exact⟨fun _ _ _ z=>(by cases z),fun _=>S1.2 hb⟩
        | some q =>
          obtain⟨b,k1,L1⟩:=q;have M1:=S1.1 _ _ _ hb;have k60:=(N hb).2.2.2.2 (by omega);rw[show zJ L ((RI (decide (w = "if")) s,[])::(kd,acc)::fs) (k+1)=_ from M1,List.nil_append];simp only[];rcases hw2 with rfl|rfl
          · rw[if_neg WE.2.2.1,show RI (decide (("if":Str) = "if")) s=.ifk s from rfl];rcases Z _ _ _ _ _ hb with rfl|⟨l1,L2,rfl,rfl|rfl⟩
            · exact⟨fun _ _ _ z=>(by cases z),fun _=>zK _ _ _ _ _⟩
            · rw[pV,if_pos rfl,mJ,if_pos rfl];simp only[Jd];have S2:=S hD k1 L2 (.els s b) [] ((kd,acc)::fs) (by rw[List.length_cons];omega) k60;cases ho:blk k1 L2 with
              | none=>exact⟨fun _ _ _ z=>(by cases z),fun _=>S2.2 ho⟩
              | some q2 =>
                obtain⟨o,k2,L3⟩:=q2;rw[show zJ L2 ((Fk.els s b,[])::(kd,acc)::fs) k1=_ from S2.1 _ _ _ ho,List.nil_append];cases o with
                | nil =>
                  refine⟨fun _ _ _ z=>(by cases z),fun _=>?_⟩;rcases Z _ _ _ _ _ ho with rfl|⟨l3,L4,rfl,rfl|rfl⟩
                  · exact zK _ _ _ _ _
                  · exact pO (by intro s;exact nofun) _ _ _ _
                  · rw[mJ,if_neg wH,if_pos rfl];rfl
                | cons m2 o =>
                  simp only[];rcases Z _ _ _ _ _ ho with rfl|⟨l3,L4,rfl,rfl|rfl⟩
                  · exact⟨fun _ _ _ z=>(by cases z),fun _=>zK _ _ _ _ _⟩
                  · rw[sZ,if_neg (fun z=>wH z.symm)];exact⟨fun _ _ _ z=>(by cases z),fun _=>pO (by intro s;exact nofun) _ _ _ _⟩
                  · rw[CN,mJ,if_neg wH,if_pos rfl];exact⟨fun _ _ _ z=>(by cases z;rfl),fun z=>(by cases z)⟩
            · rw[pV,if_neg wH];simp only[];rw[CN,mJ,if_neg wH,if_pos rfl];exact⟨fun _ _ _ z=>(by cases z;rfl),fun z=>(by cases z)⟩
          · rw[if_pos rfl,show RI (decide (("while":Str) = "if")) s=.Xd s by rw[decide_eq_false (fun z=>WE.2.2.1 z.symm)];rfl];rcases Z _ _ _ _ _ hb with rfl|⟨l1,L2,rfl,rfl|rfl⟩
            · exact⟨fun _ _ _ z=>(by cases z),fun _=>zK _ _ _ _ _⟩
            · rw[sZ,if_neg (fun z=>wH z.symm)];exact⟨fun _ _ _ z=>(by cases z),fun _=>pO (by intro s;exact nofun) _ _ _ _⟩
            · rw[CN,mJ,if_neg wH,if_pos rfl];exact⟨fun _ _ _ z=>(by cases z;rfl),fun z=>(by cases z)⟩
  | false =>
    rw[Ct hB,if_neg (show ¬ cE (.str ((w::r).headD "")) lB=true by show ¬ cE (.str w) lB=true;rw[hB];decide)];cases hp:iS (w::r) with
    | none=>exact⟨fun _ _ _ z=>(by cases z),fun _=>rfl⟩
    | some q =>
      obtain⟨m,r2⟩:=q;cases r2 with
      | cons a c=>exact⟨fun _ _ _ z=>(by cases z),fun _=>rfl⟩
      | nil=>exact⟨fun _ _ _ z=>(by cases z;rfl),fun z=>(by cases z)⟩
theorem Aw{D:Nat}{blk:rZ}(S:D≠0->Sim D blk)(N:ED D blk)(Z:∀ k L b k' L',blk k L=some (b,k',L')->FC L')(h0:D=0->∀ k L,blk k L=none):∀(n:Nat) (a0:List Stm) (k:Nat) (L:List Str) (kd:Fk) (acc:List Stm) (fs:List Frm),L.length < n->fs.length+(D+1)=6->k<=60 ->
    (∀ b k' L',nD (i0 blk) n a0 k L=some (b,k',L')->∃ b2,b=a0++b2/\Xh ((kd,acc)::fs) k L=Xh ((kd,acc++b2)::fs) k' L')/\(nD (i0 blk) n a0 k L=none->Xh ((kd,acc)::fs) k L=none)
  | 0,_,_,_,_,_,_,h,_,_=>absurd h (Nat.not_lt_zero _)
  | n+1,a0,k,[],kd,acc,fs,_,_,_=>⟨fun _ _ _ z=>(by cases z;exact⟨[],by simp,by rw[List.append_nil]⟩),fun z=>(by cases z)⟩
  | n+1,a0,k,l::L,kd,acc,fs,hn,hf,hk=>by
    rw[xP];by_cases hl:l = "else"\/l = "done"
    · rw[if_pos hl];exact⟨fun _ _ _ z=>(by cases z;exact⟨[],by simp,by rw[List.append_nil]⟩),fun z=>(by cases z)⟩
    rw[if_neg hl];obtain⟨s1,s2⟩:=Ka S N Z h0 (kd:=kd) (acc:=acc) (fs:=fs) (L:=L) hf hk hl;cases hs:i0 blk k l L with
    | none=>exact⟨fun _ _ _ z=>(by cases z),fun _=>s2 hs⟩
    | some q =>
      obtain⟨m,k1,L1⟩:=q;obtain⟨b1,_,_,_,b5⟩:=u9 N hs;have lL:L1.length<=L.length:=by
        have:=congrArg List.length b1;rw[List.length_append,List.length_cons,MO,List.length_cons] at this;omega
      obtain⟨i1,i2⟩:=Aw S N Z h0 n (a0++[m]) k1 L1 kd (acc++[m]) fs (by rw[List.length_cons] at hn;omega) hf b5;rw[s1 _ _ _ hs];refine⟨fun b k' L' z=>?_,fun z=>i2 z⟩;obtain⟨b2,rfl,e⟩:=i1 b k' L' z;exact⟨m::b2,by simp,by rw[e];simp⟩
theorem HF:∀ D,Sim (D+1) (dJ (D+1)):=by
 intro D
 induction D with
 | zero =>
  intro k L kd acc fs hf hk;obtain⟨i1,i2⟩:=Aw (D:=0) (blk:=dJ 0) (fun z=>absurd rfl z) (iR 0) (fun _ _ _ _ _ h=>oN h) (fun _ _ _=>rfl) (L.length+1) [] k L kd acc fs (Nat.lt_succ_self _) hf hk;refine⟨fun b k' L' z=>?_,fun z=>i2 z⟩;obtain⟨b2,rfl,e⟩:=i1 b k' L' z;exact e
 | succ D ih =>
  intro k L kd acc fs hf hk;obtain⟨i1,i2⟩:=Aw (D:=D+1) (blk:=dJ (D+1)) (fun _=>ih) (iR (D+1)) (fun _ _ _ _ _ h=>oN h) (fun z=>by cases z) (L.length+1) [] k L kd acc fs (Nat.lt_succ_self _) hf hk;refine⟨fun b k' L' z=>?_,fun z=>i2 z⟩;obtain⟨b2,rfl,e⟩:=i1 b k' L' z;exact e
theorem Hl(L:List Str):Xh [(.bot,[])] 0 L=match dJ 6 0 L with
    | some (b,_,[])=>some b
    | _=>none:=by
  obtain⟨i1,i2⟩:=HF 5 0 L .bot [] [] rfl (by decide);cases h:dJ 6 0 L with
  | none=>exact i2 h
  | some q =>
    obtain⟨b,k,L'⟩:=q;rw[i1 _ _ _ h,List.nil_append];rcases oN h with rfl|⟨l,L2,rfl,rfl|rfl⟩
    · rfl
    · exact pO (by intro s;exact nofun) _ _ _ _
    · rw[mJ,if_neg wH,if_pos rfl];rfl
theorem EN(rows:List Str)(h:¬ Txt.join "" (rows.map fun r:Str=>r++"\n") = ""):Txt.endswith (Txt.join "" (rows.map fun r:Str=>r++"\n")) "\n"=true:=by
 have Za:rows≠[]:=fun z=>h (by rw[z];rfl);obtain⟨rs,r,hr⟩:∃ rs r,rows=rs++[r]:=⟨(rows).dropLast,(rows).getLast Za,(List.dropLast_concat_getLast Za).symm⟩;rw[hr];have e:(Txt.join "" ((rs++[r]).map fun r:Str=>r++"\n")).cps.toList=((rs.map fun r:Str=>r++"\n").map fun p:Str=>p.cps.toList).flatten++r.cps.toList++[10]:=by
  rw[uQ];simp only[List.map_append,List.map_cons,List.map_nil,List.flatten_append,List.flatten_cons,List.flatten_nil,List.append_nil,jK];rw[show("\n":Str).cps.toList=[10] by decide +kernel];simp
 generalize Txt.join "" ((rs++[r]).map fun r:Str=>r++"\n")=x at *;have hl:x.length=(((rs.map fun r:Str=>r++"\n").map fun p:Str=>p.cps.toList).flatten++r.cps.toList).length+1:=by
  show x.cps.size=_;rw[<- Array.length_toList,e,List.length_append];rfl
 have h1:=(StrLaws.subAt_one x 10 (x.length - 1)).mpr (by
  rw[e,hl];simp)
 unfold Txt.endswith;rw[eP.1];have l1:(⟨#[10]⟩:Str).length=1:=rfl;rw[l1] at h1 ⊢;rw[h1.2,Bool.and_true,decide_eq_true_eq];omega
theorem HA(t:Str):oO t=if (Txt.split t "\n").getLast (fN t "\n")≠"" then none else Xh [(.bot,[])] 0 (Txt.split t "\n").dropLast:=by
 have e:=List.dropLast_concat_getLast (fN t "\n");rw[oO,Hl];by_cases h:(Txt.split t "\n").getLast (fN t "\n") = ""
 ·rw[if_neg (show ¬ (Txt.split t "\n").getLast (fN t "\n")≠"" from fun z=>z h),if_neg];rintro⟨h1,h2⟩;have j:=StrLaws.join_split t "\n";rw[<- e,h,<- pL,<- rJ] at j;have jl:t=Txt.join "" ((Txt.split t "\n").dropLast.map fun r:Str=>r++"\n"):=by
   conv=>lhs;rw[<- j]
   apply jS;rw[jK,show("":Str).cps.toList=[] by decide +kernel,List.append_nil]
  have:=EN (Txt.split t "\n").dropLast (by rw[<- jl];exact h1);rw[<- jl,h2] at this;cases this
 ·rw[if_pos h,if_pos];refine⟨fun z=>?_,?_⟩
  ·have:=uM (t:=t) (.inl z);exact h (by have:=List.append_cancel_left (e.trans this);exact(List.cons.inj this).1)
  ·cases h2:Txt.endswith t "\n" with
   | false=>rfl
   | true =>
    have:=uM (t:=t) (.inr h2);exact absurd (List.cons.inj (List.append_cancel_left (e.trans this))).1 h
theorem FD(c:Nat):decide (c∈("abcdefghijklmnopqrstuvwxyz":Str).cps.toList)=(decide (97<=c)&&decide (c<=122)):=by
 rw[show("abcdefghijklmnopqrstuvwxyz":Str).cps.toList=[97,98,99,100,101,102,103,104,105,106,107,108,109,110,111,112,113,114,115,116,117,118,119,120,121,122] by decide +kernel,Bool.eq_iff_iff];simp only[List.mem_cons,List.not_mem_nil,or_false,decide_eq_true_eq,Bool.and_eq_true];omega
theorem FT(c:Nat):decide (c∈("0123456789":Str).cps.toList)=(decide (48<=c)&&decide (c<=57)):=by
 rw[show("0123456789":Str).cps.toList=[48,49,50,51,52,53,54,55,56,57] by decide +kernel,Bool.eq_iff_iff];simp only[List.mem_cons,List.not_mem_nil,or_false,decide_eq_true_eq,Bool.and_eq_true];omega
theorem DE(p:Nat->Bool)(l:List Nat):((l.filter fun c=>!p c).map fun c=>V.str ⟨#[c]⟩).isEmpty=l.all p:=by
 rw[List.isEmpty_map]
 induction l with
 | nil=>rfl
 | cons c r ih=>cases h:p c<;>simp[h,ih]
noncomputable def Rf:Sp:=fun vs H Q _=>∃ x:Str,vs=[.str x]/\x.length<=8000000/\∀ H',Kp [] H H'->Q (.bl (tV x)) H'
noncomputable def E7(x:Str):Wo:=if kF x (-1000000000) 1000000000=true then intText? x else none
noncomputable def Rh:Sp:=fun vs H Q _=>∃ x:Str,vs=[.str x]/\x.length<=8000000/\∀ H',Kp [] H H'->Q (wv (E7 x)) H'
theorem G9(x:Str):(Txt.slice x (some (if decide (Txt.slice x none (some 1)=Str.ofString "-")=true then 1 else 0)) none).cps.toList=eU x.cps.toList:=by
 have h1:∀ y:Str,(Txt.slice y (some 0) none).cps.toList=y.cps.toList:=fun y=>by
  have e:Txt.slice y (some 0) none=StrLaws.sliceText y (some 0) none:=rfl;rw[e,StrLaws.sliceText_from (i:=0) ⟨by decide,by simp only[Array.length_toList];exact Int.natCast_nonneg _⟩];simp only[Int.toNat_zero,List.drop_zero];exact List.take_of_length_le (by simp)
 have h2:(Txt.slice x none (some 1)).cps.toList=x.cps.toList.take 1:=by
  have e:Txt.slice x none (some 1)=StrLaws.sliceText x none (some 1):=rfl;cases hc:x.cps.toList with
  | nil =>
   have l0:=Txt.slice_le x none (some 1);have:x.length=0:=by show x.cps.size=0;rw[<- Array.length_toList,hc];rfl
   rw[List.take_nil,<- List.length_eq_zero_iff,Array.length_toList];show(Txt.slice x none (some 1)).length=0;omega
  | cons c r =>
   rw[e,StrLaws.sliceText_to ⟨by decide,by rw[hc,List.length_cons];omega⟩,hc];rfl
 have key:(Txt.slice x none (some 1)=Str.ofString "-")↔x.cps.toList[0]?=some 45:=by
  constructor
  ·intro z;have:=congrArg (fun y:Str=>y.cps.toList) z;simp only[h2,eP.2.2.1] at this;cases hc:x.cps.toList with
   | nil=>rw[hc] at this;cases this
   | cons c r=>rw[hc] at this;simpa using this
  ·intro z;apply jS;rw[h2,eP.2.2.1];cases hc:x.cps.toList with
   | nil=>rw[hc] at z;cases z
   | cons c r=>rw[hc] at z;simp at z;simp[z]
 by_cases h:Txt.slice x none (some 1)=Str.ofString "-"
 ·rw[decide_eq_true h,if_pos rfl];have hz:=key.mp h;cases hc:x.cps.toList with
  | nil=>rw[hc] at hz;cases hz
  | cons c r =>
   rw[hc] at hz;simp at hz;subst hz;rw[BL x (by show 1<=x.cps.size;rw[<- Array.length_toList,hc];simp),hc];rfl
 ·rw[decide_eq_false h,if_neg (by decide),h1];have hz:=fun z=>h (key.mpr z);cases hc:x.cps.toList with
  | nil=>rfl
  | cons c r =>
   unfold eU;split
   ·next z=>rw[hc] at hz;exact absurd (by rw[z];rfl) hz
   ·rfl
theorem Mt{x:Str}(h:∀ c∈eU x.cps.toList,48<=c/\c<=57)(hn:eU x.cps.toList≠[])(hl:(eU x.cps.toList).length<=10):∃ n,intText? x=some n/\n.natAbs < 10 ^ 10:=by
 have hx:x.length=x.cps.toList.length:=by show x.cps.size=_;rw[Array.length_toList]
 have XM:=n9 x.cps.toList;replace hx:x.length<=11:=by omega
 have up:∀ cs:List Nat,(∀ c∈cs,48<=c/\c<=57)->cs.length<=10->NumText.digitsVal cs < 10 ^ 10:=fun cs h l=>by
  have:=Df cs 0 h;refine Nat.lt_of_lt_of_le (m:=10 ^ cs.length) (by simpa[NumText.digitsVal] using this) (Nat.pow_le_pow_right (by decide) l)
 cases e:x.cps.toList with
 | nil=>rw[e] at hn;exact absurd rfl hn
 | cons c r =>
  by_cases hc:c=45
  ·subst hc;rw[e] at h hn hl;exact⟨_,intText_neg e h hn (by omega),by rw[Int.natAbs_neg,Int.natAbs_natCast];exact up _ h hl⟩
  ·have ef:eU (c::r)=c::r:=by
    unfold eU;split
    ·next z=>simp only[List.cons.injEq] at z;exact absurd z.1 hc
    ·rfl
   rw[e,ef] at h hn hl;exact⟨_,intText_digits (by rw[e];exact h) (by rw[e];exact hn) (by omega),by rw[Int.natAbs_natCast,e];exact up _ h hl⟩
theorem Mn{n:Int}(h:n.natAbs < 10 ^ 10):n.natAbs.log2 < 1920:=by
 by_cases z:n.natAbs=0
 ·rw[z];decide
 ·exact(Nat.log2_lt z).mpr (Nat.lt_of_lt_of_le h (Nat.le_trans (m:=2 ^ 40) (by decide) (Nat.pow_le_pow_right (by decide) (by decide))))
structure Dk(H:Hp)(dk wl:Addr)(ws:List Str)(ok:Bool):Prop where
 e:H dk=some (.lst [.ref wl,.bl ok])
 w:H wl=some (.lst (ws.map V.str))
theorem Dk.ne{H:Hp}{dk wl:Addr}{ws:List Str}{ok:Bool}(h:Dk H dk wl ws ok):dk≠wl:=fun z=>by
 have a:=h.e;rw[z,h.w] at a;cases ws with
 | nil=>cases a
 | cons x r=>cases a
theorem Dk.kp{H H':Hp}{dk wl:Addr}{ws:List Str}{ok:Bool}(h:Dk H dk wl ws ok)(k:Kp [] H H'):Dk H' dk wl ws ok:=⟨k.at h.e,k.at h.w⟩
theorem Dk.fl{H:Hp}{dk wl:Addr}{ws:List Str}{ok:Bool}(h:Dk H dk wl ws ok)(Xf:Bool):Dk (WZ H dk (.lst [.ref wl,.bl Xf])) dk wl ws Xf:=⟨aE,by rw[aV h.ne.symm];exact h.w⟩
theorem Dk.po{H:Hp}{dk wl:Addr}{ws:List Str}{ok:Bool}(h:Dk H dk wl ws ok)(Xj:List Str):Dk (WZ H wl (.lst (Xj.map V.str))) dk wl Xj ok:=⟨by rw[aV h.ne];exact h.e,aE⟩
theorem Dk.tk{H H':Hp}{dk wl:Addr}{ws:List Str}{ok:Bool}(h:Dk H dk wl ws ok)(k:Kp [dk,wl] H H'):aJ H H':=fun a ys e=>k a _ e (by
 simp only[List.mem_cons,List.not_mem_nil,or_false,not_or];exact⟨fun z=>(by rw[z,h.e] at e;cases e),fun z=>(by rw[z,h.w] at e;cases e)⟩)
theorem qI{H:Hp}{dk wl:Addr}{o:HO}:Kp [dk,wl] H (WZ H dk o):=Kp.set (by simp)
theorem Uj{H:Hp}{dk wl:Addr}{o:HO}:Kp [dk,wl] H (WZ H wl o):=Kp.set (by simp)
structure WD(ws:List Str):Prop where
 a:WL ws
 n:ws.length<=8000001
theorem WD.tl{ws:List Str}(h:WD ws):WD ws.tail:=⟨fun w hw=>h.a w (List.mem_of_mem_tail hw),by have:=h.n;rw[List.length_tail];omega⟩
theorem WD.hd{ws:List Str}(h:WD ws):(ws.headD "").length<=8000000:=by
 cases ws with
 | nil=>exact Nat.le_trans (Nat.le_of_eq CC.2) (by decide)
 | cons w r=>exact h.a.hd
noncomputable def Ri:Sp:=fun vs H Q _=>∃(dk wl:Addr) (ws:List Str) (ok:Bool),vs=[.ref dk]/\Dk H dk wl ws ok/\∀ H',Dk H' dk wl ws.tail (ok&&!ws.isEmpty)->Kp [dk,wl] H H'->Q (.str (ws.headD "")) H'
structure HS(d:Nat)(ws:List Str)(ok Xf:Bool)(Xj:List Str)(H:Hp)(v:V):Prop where
 y:Xf=true->ok=true/\∃ s,cK d ws=some (s,Xj)/\bC H v s
 n:Xf=false->ok=false\/cK d ws=none
noncomputable def Gu(d:Nat):Sp:=fun vs H Q _=>∃(dk wl:Addr) (ws:List Str) (ok:Bool),vs=[.ref dk,.int (d:Int)]/\Dk H dk wl ws ok/\WD ws/\∀(v:V) (H':Hp) (Xj:List Str) (Xf:Bool),HS d ws ok Xf Xj H' v->WD Xj->Xj.length<=ws.length->Dk H' dk wl Xj Xf->Kp [dk,wl] H H'->Q v H'
noncomputable def Rj(d:Nat):Sp:=fun vs H Q E=>∃ d':Nat,d=d'+1/\Gu d' vs H Q E
noncomputable def UL:Sp:=fun vs H Q _=>∃(dk wl:Addr) (ws:List Str) (ok:Bool),vs=[.ref dk]/\Dk H dk wl ws ok/\WD ws/\∀ H',Dk H' dk wl ws.tail (ok&&tV (ws.headD ""))->Kp [dk,wl] H H'->Q (.str (ws.headD "")) H'
theorem zT:tV ""=false/\kF "" (-1000000000) 1000000000=false:=by decide +kernel
theorem Ud{d:Nat}{r r1 r3:List Str}{Yd Ya:Bool}{H1 H3:Hp}{v1 v3:V}(S1:HS d r true Yd r1 H1 v1)(S3:HS d r1.tail (Yd&&!r1.isEmpty) Ya r3 H3 v3)(h:Ya=false\/cE (.str (r1.headD "")) ND=false\/r3=[]\/r3.headD ""≠")"):gY (cK d) r=none:=by
 unfold gY;cases Yd with
 | false =>
  have:=(S1.n rfl).resolve_left (by decide);rw[this]
 | true =>
  obtain⟨_,a,ha,_⟩:=S1.y rfl;rw[ha];cases r1 with
  | nil=>rfl
  | cons g r2 =>
   simp only[];cases Ya with
   | false =>
    have:=(S3.n rfl).resolve_left (by simp);rw[show cK d r2=none from this]
   | true =>
    obtain⟨_,b,hb,_⟩:=S3.y rfl;rw[show cK d r2=some (b,r3) from hb];cases r3 with
    | nil=>rfl
    | cons c r4 =>
     simp only[];rw[if_neg];rintro⟨x,y⟩;rcases h with h|h|h|h
     ·cases h
     ·rw[show cE (.str g) ND=false from h] at x;cases x
     ·cases h
     ·exact h y
theorem Ue{d:Nat}{r r1 r3:List Str}{H1 H3:Hp}{v1 v3:V}(S1:HS d r true true r1 H1 v1)(S3:HS d r1.tail (true&&!r1.isEmpty) true r3 H3 v3)(hg:cE (.str (r1.headD "")) ND=true)(h3:r3≠[])(hc:r3.headD "" = ")"):∃ a b,bC H1 v1 a/\bC H3 v3 b/\gY (cK d) r=some (.two (J9 (r1.headD "")) a b,r3.tail):=by
 obtain⟨_,a,ha,sa⟩:=S1.y rfl;obtain⟨hn,b,hb,sb⟩:=S3.y rfl;refine⟨a,b,sa,sb,?_⟩;unfold gY;rw[ha];cases r1 with
 | nil=>cases hn
 | cons g r2 =>
  simp only[];rw[show cK d r2=some (b,r3) from hb];cases r3 with
  | nil=>exact absurd rfl h3
  | cons c r4 =>
   simp only[];rw[if_pos ⟨hg,hc⟩];rfl
theorem QV(d:Nat)(ws:List Str):cK (d+1) ws=if cE (.str (ws.headD "")) l3=true then some (sQ (ws.headD ""),ws.tail)
    else if cE (.str (ws.headD "")) l2=true then (match cK d ws.tail with
      | some (s,r')=>some (un2 (ws.headD "") s,r')
      | none=>none)
    else if ws.headD "" = "(" then gY (cK d) ws.tail
    else if kF (ws.headD "") (-1000000000) 1000000000=true then some (.num ((intText? (ws.headD "")).getD 0),ws.tail)
    else if tV (ws.headD "")=true then some (.name (ws.headD ""),ws.tail)
    else none:=by
  cases ws with
  | nil =>
    rw[show([]:List Str).headD "" = "" from rfl,if_neg (by decide +kernel),if_neg (by decide +kernel),if_neg (by decide +kernel),if_neg (by rw[zT.2];decide),if_neg (by rw[zT.1];decide)];rfl
  | cons w r=>exact jE d w r
theorem Jn(k:Str):cE (.str k) l5=cE (.str k) [.str "order",.str "child",.str "timer",.str "hear",.str "wait"]:=by
 simp only[cE,List.any_cons,List.any_nil,Bool.or_false];rw[Bool.or_comm (Di (.str "wait") (.str k))]
theorem NA{k:Str}(h:cE (.str k) [.str "order",.str "child"]=true):k = "order"\/k = "child":=by
 simp only[cE,List.any_cons,List.any_nil,dB,Bool.or_false,Bool.or_eq_true,beq_iff_eq] at h;rcases h with h|h
 ·exact .inl h.symm
 ·exact .inr h.symm
theorem Ub{k:Str}(h:cE (.str k) [.str "order",.str "child",.str "timer",.str "hear",.str "wait"]=true)(h2:cE (.str k) [.str "order",.str "child"]=false)(h3:¬ k = "timer")(h4:¬ k = "hear"):k = "wait":=by
 simp only[cE,List.any_cons,List.any_nil,dB,Bool.or_false,Bool.or_eq_true,Bool.or_eq_false_iff,beq_iff_eq,beq_eq_false_iff_ne] at h h2;rcases h with h|h|h|h|h
 ·exact absurd h h2.1
 ·exact absurd h h2.2
 ·exact absurd h.symm h3
 ·exact absurd h.symm h4
 ·exact h.symm
theorem D9{n N:Nat}{ss YV:List Say}{ws:List Str}(h:iM N ss ws=some (YV,[]))(l:YV.length<=ss.length+n):iM n ss ws=some (YV,[]):=by
 obtain⟨tl,rfl,rfl,h6,_⟩:=pS h;rw[List.append_nil];exact BG n tl ss h6 (by rw[List.length_append] at l;omega)
theorem JI{n:Nat}{ss YV:List Say}{ws r:List Str}(h:iM n ss ws=some (YV,r)):YV.length<=ss.length+n:=by
 obtain⟨tl,rfl,_,_,l⟩:=pS h;rw[List.length_append];omega
noncomputable def Dl(r2:List Str):Option (List Say×List Str):=match cK 6 r2 with
 | some (s0,r0)=>iM (r2.length+3) [s0] r0
 | none=>none
theorem Dm(r2:List Str)(ss:List Say):gF r2=some (ss,[])↔Dl r2=some (ss,[])/\ss.length<=4:=by
 unfold gF Dl;cases cK 6 r2 with
 | none=>exact⟨fun z=>(by cases z),fun z=>(by cases z.1)⟩
 | some q =>
  obtain⟨s0,r0⟩:=q;constructor
  ·intro h;have l:=JI h;simp only[List.length_cons,List.length_nil] at l;exact⟨D9 h (by simp only[List.length_cons,List.length_nil];omega),by omega⟩
  ·rintro⟨h,l⟩;exact D9 h (by simp only[List.length_cons,List.length_nil];omega)
theorem M6(s:Say):1<=(sw s).length:=by
 cases s<;>simp[sw]
structure VC(R:Option (Stm×List Str))(Xf:Bool)(Xj:List Str)(H:Hp)(v:V):Prop where
 y:Xf=true->Xj=[]->∃ m,R=some (m,[])/\bV H v m
 n:Xf=false\/Xj≠[]->∀ m,R≠some (m,[])
theorem VC.of{R:Option (Stm×List Str)}{Xf:Bool}{Xj:List Str}{H:Hp}{v:V}(y:Xf=true->∃ m,R=some (m,Xj)/\bV H v m)(n:Xf=false->R=none):VC R Xf Xj H v:=⟨fun a b=>by obtain⟨m,h,s⟩:=y a;rw[b] at h;exact⟨m,h,s⟩,fun z m e=>by
 cases Xf with
 | false=>rw[n rfl] at e;cases e
 | true =>
  obtain⟨m',h,_⟩:=y rfl;rw[h] at e;cases e;rcases z with z|z
  ·cases z
  ·exact z rfl⟩
theorem JV{ws:List Str}(h1:ws.headD ""≠"send")(h2:ws.headD ""≠"drop")(h3:ws.headD ""≠"end"):iS ws=if ((tV (ws.headD "")&&!ws.tail.isEmpty)&&decide (ws.tail.headD "" = "="))=true then k8 (ws.headD "") ws.tail.tail else none:=by
 cases ws with
 | nil=>rw[show([]:List Str).headD "" = "" from rfl,zT.1,Bool.false_and,Bool.false_and,if_neg (by decide)];rfl
 | cons f r =>
  replace h1:f≠"send":=h1;replace h2:f≠"drop":=h2;replace h3:f≠"end":=h3;rw[j8,if_neg h1,if_neg (fun z=>z.elim h2 h3)];show _=if ((tV f&&!r.isEmpty)&&decide (r.headD "" = "="))=true then k8 f r.tail else none;cases tV f with
  | false=>rw[if_neg (by decide),Bool.false_and,Bool.false_and,if_neg (by decide)]
  | true =>
   rw[if_pos rfl];cases r with
   | nil=>rfl
   | cons e r1 =>
    by_cases he:e = "="
    ·simp[he]
    ·simp[he]
theorem JU(x:Str)(ws:List Str):k8 x ws=if cE (.str (ws.headD "")) l5=false then (match cK 6 ws with
      | some (s,r')=>some (.set x s,r')
      | none=>none)
    else if ws.headD "" = "timer" then (match cK 6 ws.tail with
      | some (s,r')=>some (.W4 x s,r')
      | none=>none)
    else if ws.headD "" = "wait" then (match gF ws.tail with
      | some (ss,r')=>some (.wait x ss,r')
      | none=>none)
    else if ws.headD "" = "hear" then (match kM ws.tail with
      | some (y,r')=>some (.W9 x y,r')
      | none=>none)
    else match kM ws.tail with
      | some (y,r1)=>(match cK 6 r1 with
        | some (s,r')=>some (if ws.headD "" = "order" then .order x y s else .child x y s,r')
        | none=>none)
      | none=>none:=by
  cases ws with
  | nil=>rw[if_pos (by decide +kernel)];rfl
  | cons k r=>exact Ag x k r
theorem pT(ws:List Str):kM ws=if tV (ws.headD "")=true then some (ws.headD "",ws.tail) else none:=by
 cases ws with
 | nil=>rw[show([]:List Str).headD "" = "" from rfl,zT.1,if_neg (by decide)];rfl
 | cons w r=>exact s8 w r
noncomputable def UM:Sp:=fun vs H Q _=>∃(dk wl:Addr) (ws:List Str),vs=[.ref dk]/\Dk H dk wl ws true/\WD ws/\ws.headD ""≠"send"/\ws.headD ""≠"drop"/\ws.headD ""≠"end"/\∀(v:V) (H':Hp) (Xj:List Str) (Xf:Bool),VC (iS ws) Xf Xj H' v->Dk H' dk wl Xj Xf->Kp [dk,wl] H H'->Q v H'
noncomputable def HR(H:Hp)(v:V):Lr->Prop
 | .ZR m=>bV H v m/\m.blk=false
 | .head i s=>∃(a:Addr) (u:V),v=.ref a/\H a=some (.tup [.str (if i=true then "if" else "while"),u])/\bC H u s
theorem HR.kt{H H':Hp}{v:V}{x:Lr}(h:HR H v x)(k:aJ H H'):HR H' v x:=by
 cases x with
 | ZR m=>exact⟨h.1.kp k,h.2⟩
 | head i s =>
  obtain⟨a,u,e,h1,h2⟩:=h;exact⟨a,u,e,k _ _ h1,h2.kp k⟩
structure RH(R:Option Lr)(Xf:Bool)(Xj:List Str)(H:Hp)(v:V):Prop where
 y:Xf=true->Xj=[]->∃ x,R=some x/\HR H v x
 n:Xf=false\/Xj≠[]->R=none
theorem RH.nm{w:Str}{r:List Str}{Xf:Bool}{Xj:List Str}{H:Hp}{v:V}(hB:cE (.str w) lB=false)(h:VC (iS (w::r)) Xf Xj H v):RH (lR (w::r)) Xf Xj H v:=⟨fun a b=>by
 obtain⟨m,e,s⟩:=h.y a b;exact⟨.ZR m,by rw[Ct hB,e],s,(Ai e).2.2⟩,fun z=>by
 rw[Ct hB];cases e:iS (w::r) with
 | none=>rfl
 | some q =>
  obtain⟨m,r2⟩:=q;cases r2 with
  | nil=>exact absurd e (h.n z m)
  | cons a b=>rfl⟩
noncomputable def UK:Sp:=fun vs H Q _=>∃ l:Str,vs=[.str l]/\l.length<=8000000/\(lR (Txt.split l " ")=none->∀ H',Kp [] H H'->Q .W3 H')/\(∀ x,lR (Txt.split l " ")=some x->∀(v:V) (H':Hp),HR H' v x->Kp [] H H'->Q v H')
theorem in4{k:Str}(h:cE (.str k) [.str "drop",.str "end",.str "if",.str "while"]=true):k = "drop"\/k = "end"\/k = "if"\/k = "while":=by
 simp only[cE,List.any_cons,List.any_nil,dB,Bool.or_false,Bool.or_eq_true,beq_iff_eq] at h;rcases h with h|h|h|h
 ·exact .inl h.symm
 ·exact .inr (.inl h.symm)
 ·exact .inr (.inr (.inl h.symm))
 ·exact .inr (.inr (.inr h.symm))
theorem in4n{k:Str}(h:cE (.str k) [.str "drop",.str "end",.str "if",.str "while"]=false):k≠"drop"/\k≠"end"/\cE (.str k) lB=false:=by
 simp only[cE,List.any_cons,List.any_nil,dB,Bool.or_false,Bool.or_eq_false_iff,beq_eq_false_iff_ne] at h ⊢;exact⟨fun z=>h.1 z.symm,fun z=>h.2.1 z.symm,h.2.2⟩
noncomputable def HQ(H:Hp)(kw:Str)(v1:V)(bs:List V):Fk->Prop
 | .bot=>kw = ""
 | .Xd s=>kw = "while"/\bC H v1 s
 | .ifk s=>kw = "if"/\bC H v1 s
 | .els s b=>kw = "else"/\bC H v1 s/\bJ H bs b
structure Nh(H:Hp)(f:Frm)(a la lb:Addr)(kw:Str)(v1:V)(us bs:List V):Prop where
 e:H a=some (.lst [.str kw,v1,.ref la,.ref lb])
 u:H la=some (.lst us)
 s:bJ H us f.2
 b:H lb=some (.lst bs)
 k:HQ H kw v1 bs f.1
theorem HQ.kt{H H':Hp}{kw:Str}{v1:V}{bs:List V}{kd:Fk}(h:HQ H kw v1 bs kd)(t:aJ H H'):HQ H' kw v1 bs kd:=by
 cases kd with
 | bot=>exact h
 | Xd s=>exact⟨h.1,h.2.kp t⟩
 | ifk s=>exact⟨h.1,h.2.kp t⟩
 | els s b=>exact⟨h.1,h.2.1.kp t,h.2.2.kp t⟩
theorem Nh.keep{H H':Hp}{f:Frm}{a la lb:Addr}{kw:Str}{v1:V}{us bs:List V}(h:Nh H f a la lb kw v1 us bs)(k:∀ x∈[a,la,lb],∀ o,H x=some o->H' x=some o)(t:aJ H H'):Nh H' f a la lb kw v1 us bs :=
 ⟨k a (by simp) _ h.e,k la (by simp) _ h.u,h.s.kp t,k lb (by simp) _ h.b,h.k.kt t⟩
inductive qQ(H:Hp):List Frm->List Addr->List Addr->Prop
 | nil:qQ H [] [] []
 | cons {f:Frm} {fs:List Frm} {a la lb:Addr} {kw:Str} {v1:V} {us bs:List V} {as A:List Addr}:Nh H f a la lb kw v1 us bs->(a::la::lb::A).Nodup->qQ H fs as A->qQ H (f::fs) (a::as) (a::la::lb::A)
theorem qQ.keep{H H':Hp}{fs:List Frm}{as A:List Addr}(h:qQ H fs as A)(k:∀ x∈A,∀ o,H x=some o->H' x=some o)(t:aJ H H'):qQ H' fs as A:=by
 induction h with
 | nil=>exact .nil
 | cons f n r ih=>exact .cons (f.keep (fun x hx=>k x (by simp only[List.mem_cons,List.not_mem_nil,or_false] at hx ⊢;rcases hx with h|h|h<;>simp[h])) t) n (ih fun x hx=>k x (by simp[hx]))
theorem qQ.al{H:Hp}{fs:List Frm}{as A:List Addr}(h:qQ H fs as A):∀ x∈A,∃ o,H x=some (.lst o):=by
 induction h with
 | nil=>exact fun _ z=>nomatch z
 | cons f n r ih =>
  intro x hx;simp only[List.mem_cons] at hx;rcases hx with rfl|rfl|rfl|hx
  ·exact⟨_,f.e⟩
  ·exact⟨_,f.u⟩
  ·exact⟨_,f.b⟩
  ·exact ih x hx
theorem qQ.len{H:Hp}{fs:List Frm}{as A:List Addr}(h:qQ H fs as A):as.length=fs.length:=by
 induction h with
 | nil=>rfl
 | cons f n r ih=>simp[ih]
theorem last8(xs:List V)(x:V):nK (xs++[x]) (-1)=some x/\Co (xs++[x]).length (-1)=some xs.length/\(xs++[x])[(xs++[x]).length - 1]?=some x/\(xs++[x]).dropLast=xs/\∀ y,(xs++[x]).set xs.length y=xs++[y]:=by
 refine⟨?_,?_,by simp,by simp,fun y=>by simp⟩
 ·simp only[nK,Co];rw[if_neg (by decide)];rw[if_pos (by simp only[List.length_append,List.length_cons,List.length_nil];omega)];have e:(-1+((xs++[x]).length:Int)).toNat=xs.length:=by
   simp only[List.length_append,List.length_cons,List.length_nil];omega
  simp only[Option.bind_some,e];simp
 ·unfold Co;rw[if_neg (by decide),if_pos (by simp only[List.length_append,List.length_cons,List.length_nil];omega)]
  congr 1
  simp only[List.length_append,List.length_cons,List.length_nil];omega
theorem wI{H H':Hp}{x:Addr}(k:Kp [] H H')(h:H' x=none):H x=none:=by
 cases e:H x with
 | none=>rfl
 | some o=>rw[k.at e] at h;cases h
structure tU(H:Hp)(G:Hp)(fl:Addr)(fs:List Frm)(as A:List Addr):Prop where
 e:G fl=some (.lst (as.map V.ref).reverse)
 f:qQ G fs as A
 n:fl∉A
 o:∀ x∈fl::A,H x=none
 k:Kp [] H G
theorem tU.ini{H:Hp}{la lb fa fl:Addr}(h1:H la=none)(h2:WZ H la (.lst []) lb=none)(h3:WZ (WZ H la (.lst [])) lb (.lst []) fa=none)(h4:WZ (WZ (WZ H la (.lst [])) lb (.lst [])) fa (.lst [.str "",.W3,.ref la,.ref lb]) fl=none):tU H (WZ (WZ (WZ (WZ H la (.lst [])) lb (.lst [])) fa (.lst [.str "",.W3,.ref la,.ref lb])) fl (.lst [.ref fa])) fl [(.bot,[])] [fa] [fa,la,lb]:=by
 have k1:=q0D (o:=.lst []) h1;have e1:WZ H la (.lst []) la=some (.lst []):=aE;generalize WZ H la (.lst [])=G1 at *;have k2:=q0D (o:=.lst []) h2;have e2:WZ G1 lb (.lst []) lb=some (.lst []):=aE;generalize WZ G1 lb (.lst [])=G2 at *;have k3:=q0D (o:=.lst [.str "",.W3,.ref la,.ref lb]) h3;have e3:WZ G2 fa (.lst [.str "",.W3,.ref la,.ref lb]) fa=some (.lst [.str "",.W3,.ref la,.ref lb]):=aE;generalize WZ G2 fa (.lst [.str "",.W3,.ref la,.ref lb])=G3 at *;have k4:=q0D (o:=.lst [.ref fa]) h4;have nla:la≠lb:=aL e1 h2;have nfa:la≠fa:=aL (k2.at e1) h3;have nfb:lb≠fa:=aL e2 h3;refine⟨aE,.cons ⟨k4.at e3,k4.at (k3.at (k2.at e1)),.nil,k4.at (k3.at e2),rfl⟩ ?_ .nil,?_,?_,((k1.trans k2).trans k3).trans k4⟩
 ·simp only[List.nodup_cons,List.mem_cons,List.not_mem_nil,or_false,not_or,not_false_eq_true,List.nodup_nil,and_true];exact⟨⟨nfa.symm,nfb.symm⟩,nla⟩
 ·simp only[List.mem_cons,List.not_mem_nil,or_false,not_or];exact⟨(aL e3 h4).symm,(aL (k3.at (k2.at e1)) h4).symm,(aL (k3.at e2) h4).symm⟩
 ·intro x hx;simp only[List.mem_cons,List.not_mem_nil,or_false] at hx;rcases hx with rfl|rfl|rfl|rfl
  ·exact wI ((k1.trans k2).trans k3) h4
  ·exact wI (k1.trans k2) h3
  ·exact h1
  ·exact wI k1 h2
theorem AA{H:Hp}:∀ {vs:List V} {b:List Stm},bJ H vs b->vs.length=b.length
 | _,_,.nil=>rfl
 | _,_,.cons _ h=>by rw[List.length_cons,List.length_cons,AA h]
theorem QI{H G:Hp}{x:Addr}{o:HO}(k:Kp [] H G)(h:H x=none):Kp [] H (WZ G x o):=fun b u e n=>by
 rw[aV (aL e h)];exact k b u e n
theorem tU.kp{H G G':Hp}{fl:Addr}{fs:List Frm}{as A:List Addr}(h:tU H G fl fs as A)(k:Kp [] G G'):tU H G' fl fs as A :=
 ⟨k.at h.e,h.f.keep (fun _ _ _ e=>k.at e) (aJ.nil k),h.n,h.o,h.k.trans k⟩
theorem AE{G:Hp}{x:Addr}{o:HO}{A:List Addr}(h:x∉A):∀ y∈A,∀ u,G y=some u->WZ G x o y=some u:=fun y hy u e=>by
 rw[aV (fun z=>h (by rw[<- z];exact hy))];exact e
theorem nd3{a la lb:Addr}{A:List Addr}(n:(a::la::lb::A).Nodup):(a≠la/\a≠lb/\a∉A)/\(la≠lb/\la∉A)/\lb∉A/\A.Nodup:=by
 simp only[List.nodup_cons,List.mem_cons,not_or] at n;exact⟨⟨n.1.1,n.1.2.1,n.1.2.2⟩,n.2.1,n.2.2.1,n.2.2.2⟩
theorem tU.app{H G:Hp}{fl a la lb:Addr}{kd:Fk}{acc:List Stm}{fs:List Frm}{as A:List Addr}{kw:Str}{v1 v:V}{us bs:List V}{m:Stm}(h:tU H G fl ((kd,acc)::fs) (a::as) (a::la::lb::A))(F:Nh G (kd,acc) a la lb kw v1 us bs)(n:(a::la::lb::A).Nodup)(R:qQ G fs as A)(hv:bV G v m):tU H (WZ G la (.lst (us++[v]))) fl ((kd,acc++[m])::fs) (a::as) (a::la::lb::A):=by
 have t:aJ G (WZ G la (.lst (us++[v]))):=aJ.set F.u;obtain⟨⟨n1,n2,n3⟩,⟨n4,n5⟩,n6,n7⟩:=nd3 n;have nf:fl≠la:=fun z=>h.n (by rw[z];simp);exact⟨by rw[aV nf];exact h.e,.cons ⟨by rw[aV n1];exact F.e,aE,(F.s.kp t).snoc (hv.kp t),by rw[aV n4.symm];exact F.b,F.k.kt t⟩ n (R.keep (AE n5) t),h.n,h.o,QI h.k (h.o la (by simp))⟩
theorem tU.top{H G:Hp}{fl:Addr}{f:Frm}{fs:List Frm}{as A:List Addr}(h:tU H G fl (f::fs) as A):∃(a la lb:Addr) (as' A':List Addr) (kw:Str) (v1:V) (us bs:List V),as=a::as'/\A=a::la::lb::A'/\Nh G f a la lb kw v1 us bs/\(a::la::lb::A').Nodup/\qQ G fs as' A':=by
 cases h.f with
 | cons F n r=>exact⟨_,_,_,_,_,_,_,_,_,rfl,rfl,F,n,r⟩
theorem tU.Vh{H G:Hp}{fl a:Addr}{fs:List Frm}{as A:List Addr}(h:tU H G fl fs (a::as) A):G fl=some (.lst ((as.map V.ref).reverse++[.ref a])):=by
 rw[h.e,List.map_cons,List.reverse_cons]
theorem tU.pop{H G:Hp}{fl a la lb:Addr}{f:Frm}{fs:List Frm}{as A:List Addr}(h:tU H G fl (f::fs) (a::as) (a::la::lb::A))(R:qQ G fs as A):tU H (WZ G fl (.lst (as.map V.ref).reverse)) fl fs as A :=
 ⟨aE,R.keep (AE fun z=>h.n (by simp[z])) (aJ.set h.e),fun z=>h.n (by simp[z]),fun x hx=>h.o x (by simp only[List.mem_cons] at hx ⊢;rcases hx with r|r<;>simp[r]),QI h.k (h.o fl (by simp))⟩
theorem tU.put{H G:Hp}{fl a la lb:Addr}{f:Frm}{fs:List Frm}{as A:List Addr}{kw:Str}{v1:V}{us bs:List V}{xs:List V}(e:G fl=some (.lst xs))(F:Nh G f a la lb kw v1 us bs)(n:(a::la::lb::A).Nodup)(R:qQ G fs as A)(hf:fl∉a::la::lb::A)(ho:∀ x∈fl::a::la::lb::A,H x=none)(k:Kp [] H G):tU H (WZ G fl (.lst ((as.map V.ref).reverse++[.ref a]))) fl (f::fs) (a::as) (a::la::lb::A):=by
 have t:aJ G (WZ G fl (.lst ((as.map V.ref).reverse++[.ref a]))):=aJ.set e;have kk:=AE (G:=G) (o:=.lst ((as.map V.ref).reverse++[.ref a])) hf;exact⟨by rw[List.map_cons,List.reverse_cons];exact aE,.cons (F.keep (fun x hx=>kk x (by simp only[List.mem_cons,List.not_mem_nil,or_false] at hx ⊢;rcases hx with r|r|r<;>simp[r])) t) n (R.keep (fun x hx=>kk x (by simp[hx])) t),hf,ho,QI k (ho fl (by simp))⟩
theorem tU.not{H G:Hp}{fl p:Addr}{fs:List Frm}{as A:List Addr}(h:tU H G fl fs as A)(hp:G p=none):p∉fl::A:=fun z=>by
 rcases List.mem_cons.mp z with z|z
 ·rw[z,h.e] at hp;cases hp
 ·obtain⟨o,ho⟩:=h.f.al p z;rw[ho] at hp;cases hp
theorem tU.push{H G:Hp}{fl p1 p2 p3:Addr}{fs:List Frm}{as A:List Addr}{kw:Str}{u:V}{kd:Fk}(h:tU H G fl fs as A)(nd:A.Nodup)(h1:G p1=none)(h2:WZ G p1 (.lst []) p2=none)(h3:WZ (WZ G p1 (.lst [])) p2 (.lst []) p3=none)(hk:∀ G',aJ G G'->HQ G' kw u [] kd):WZ (WZ (WZ G p1 (.lst [])) p2 (.lst [])) p3 (.lst [.str kw,u,.ref p1,.ref p2]) fl=some (.lst (as.map V.ref).reverse)/\tU H (WZ (WZ (WZ (WZ G p1 (.lst [])) p2 (.lst [])) p3 (.lst [.str kw,u,.ref p1,.ref p2])) fl (.lst ((as.map V.ref).reverse++[.ref p3]))) fl ((kd,[])::fs) (p3::as) (p3::p1::p2::A):=by
 have k1:=q0D (o:=.lst []) h1;have e1:WZ G p1 (.lst []) p1=some (.lst []):=aE;have A1:=h.kp k1;have m1:=h.not h1;have o1:=wI h.k h1;generalize WZ G p1 (.lst [])=G1 at *;have k2:=q0D (o:=.lst []) h2;have e2:WZ G1 p2 (.lst []) p2=some (.lst []):=aE;have A2:=A1.kp k2;have m2:=A1.not h2;have o2:=wI A1.k h2;have n12:=aL e1 h2;replace e1:=k2.at e1;generalize WZ G1 p2 (.lst [])=G2 at *;have k3:=q0D (o:=.lst [.str kw,u,.ref p1,.ref p2]) h3;have e3:WZ G2 p3 (.lst [.str kw,u,.ref p1,.ref p2]) p3=some (.lst [.str kw,u,.ref p1,.ref p2]):=aE;have A3:=A2.kp k3;have m3:=A2.not h3;have o3:=wI A2.k h3;have n13:=aL e1 h3;have n23:=aL e2 h3;replace e1:=k3.at e1;replace e2:=k3.at e2;have hk3:=hk _ (aJ.nil ((k1.trans k2).trans k3));generalize WZ G2 p3 (.lst [.str kw,u,.ref p1,.ref p2])=G3 at *;simp only[List.mem_cons,not_or] at m1 m2 m3;refine⟨A3.e,tU.put A3.e ⟨e3,e1,.nil,e2,hk3⟩ ?_ A3.f ?_ ?_ A3.k⟩
 ·simp only[List.nodup_cons,List.mem_cons,not_or];exact⟨⟨n13.symm,n23.symm,m3.2⟩,⟨n12,m1.2⟩,m2.2,nd⟩
 ·simp only[List.mem_cons,not_or];exact⟨fun z=>m3.1 z.symm,fun z=>m1.1 z.symm,fun z=>m2.1 z.symm,h.n⟩
 ·intro x hx;simp only[List.mem_cons] at hx;rcases hx with rfl|rfl|rfl|rfl|hx
  ·exact h.o _ (by simp)
  ·exact o3
  ·exact o1
  ·exact o2
  ·exact h.o _ (by simp[hx])
theorem bV.hd8{H:Hp}{v:V}{m:Stm}(h:bV H v m)(hb:m.blk=false):∃(a:Addr) (kw:Str) (xs:List V),v=.ref a/\H a=some (.tup (.str kw::xs))/\cE (.str kw) lB=false:=by
 cases h with
 | Xd=>cases hb
 | iff=>cases hb
 | _=>exact⟨_,_,_,rfl,by assumption,by decide +kernel⟩
noncomputable def MV:Sp:=fun vs H Q _=>∃(f:Frm) (a la lb:Addr) (kw:Str) (v1:V) (us bs:List V),vs=[.ref a]/\Nh H f a la lb kw v1 us bs/\(FO f=none->∀ H',Kp [] H H'->Q .W3 H')/\(∀ m,FO f=some m->∀(v:V) (H':Hp),bV H' v m->Kp [] H H'->Q v H')
noncomputable def UP:Sp:=fun vs H Q _=>∃(ll:Addr) (L:List Str),vs=[.ref ll]/\H ll=some (.lst (L.map V.str))/\(∀ l∈L,l.length<=8000000)/\L.length<=8000001/\(Xh [(.bot,[])] 0 L=none->∀ H',Kp [] H H'->Q .W3 H')/\(∀ b,Xh [(.bot,[])] 0 L=some b->∀(p:Addr) (us:List V) (H':Hp),H' p=some (.tup us)->bJ H' us b->Kp [] H H'->Q (.ref p) H')
noncomputable def MY:Sp:=fun vs H Q _=>∃ x:Str,vs=[.str x]/\x.length<=8000000/\(oO x=none->∀ H',Kp [] H H'->Q .W3 H')/\(∀ b,oO x=some b->∀(p:Addr) (us:List V) (H':Hp),H' p=some (.tup us)->bJ H' us b->Kp [] H H'->Q (.ref p) H')
noncomputable def Kh:Sp:=fun vs H Q _=>∃ x:Str,vs=[.str x]/\x.length<=8000000/\∀ H',Kp [] H H'->Q (.bl true) H'
noncomputable def fix8:List Str:=[("\n":Str)," ","x","x = 1","done\n","else\n","if x\n","if x\nelse\ndone\n","while x\nelse\ndone\n"]
theorem Jh:∀ y∈fix8,y.length<=20000:=by decide +kernel
theorem lens8:("( ":Str).length=2/\("x = ":Str).length=4/\("1\n":Str).length=2/\("not ":Str).length=4/\("if 1\n":Str).length=5/\("\n":Str).length=1:=by decide +kernel
inductive KQ(H:Hp):Nat->V->Prop
 | int {n:Nat} {i:Int}:KQ H n (.int i)
 | str {n:Nat} {x:Str}:KQ H n (.str x)
 | tup {n:Nat} {a:Addr} {xs:List V}:H a=some (.tup xs)->(∀ x∈xs,KQ H n x)->KQ H (n+1) (.ref a)
theorem KQ.kp{H H':Hp}(k:aJ H H'){n:Nat}{v:V}(h:KQ H n v):KQ H' n v:=by
 induction h with
 | int=>exact .int
 | str=>exact .str
 | tup e _ ih=>exact .tup (k _ _ e) ih
theorem KQ.mono{H:Hp}{n m:Nat}{v:V}(h:KQ H n v)(hm:n<=m):KQ H m v:=by
 induction h generalizing m with
 | int=>exact .int
 | str=>exact .str
 | @tup n a xs e _ ih =>
  obtain⟨m',rfl⟩:∃ m',m=m'+1:=⟨m - 1,by omega⟩;exact .tup e fun x hx=>ih x hx (by omega)
noncomputable def Uq(K:q0B)(H:Hp)(n:Nat)(P:V->Prop):Prop:=∀ v u,P v->P u->AJ K H n v u true
inductive Ea:List V->List (V->Prop)->Prop
 | nil:Ea [] []
 | cons {v:V} {vs:List V} {P:V->Prop} {Ps:List (V->Prop)}:P v->Ea vs Ps->Ea (v::vs) (P::Ps)
theorem Ea.len{vs:List V}{Ps:List (V->Prop)}(h:Ea vs Ps):vs.length=Ps.length:=by
 induction h with
 | nil=>rfl
 | cons _ _ ih=>simp[ih]
noncomputable def vS(H:Hp)(Ps:List (V->Prop))(v:V):Prop:=∃ a vs,v=.ref a/\H a=some (.tup vs)/\Ea vs Ps
theorem Ea.eq{K:q0B}{H:Hp}{n:Nat}{vs:List V}{Ps:List (V->Prop)}(h:Ea vs Ps):∀ {us:List V},Ea us Ps->(∀ P∈Ps,Uq K H n P)->∀(j:Nat) (x y:V),vs[j]?=some x->us[j]?=some y->AJ K H n x y true:=by
 induction h with
 | nil=>intro us _ _ j x y e;simp at e
 | cons p _ ih =>
  intro us g d j x y e1 e2;cases g with
  | cons q r =>
   cases j with
   | zero=>cases e1;cases e2;exact d _ (by simp) _ _ p q
   | succ j=>exact ih r (fun P hP=>d P (List.mem_cons_of_mem _ hP)) j x y (by simpa using e1) (by simpa using e2)
theorem eQ{K:q0B}{H:Hp}{n:Nat}{Ps:List (V->Prop)}(h:∀ P∈Ps,Uq K H n P):Uq K H (n+1) (vS H Ps):=by
 rintro _ _ ⟨a,vs,rfl,ha,x⟩ ⟨b,us,rfl,hb,y⟩;exact .pair ha hb (by rw[x.len,y.len]) (x.eq y h)
theorem cU{K:q0B}{H:Hp}{n:Nat}{x:Str}:Uq K H n (fun v=>v=.str x):=by rintro _ _ rfl rfl;exact Km _
theorem Rv{K:q0B}{H:Hp}{n:Nat}{x:Int}:Uq K H n (fun v=>v=.int x):=by rintro _ _ rfl rfl;exact Jp _
theorem fc{K:q0B}{H:Hp}{n:Nat}{P:V->Prop}{Ps:List (V->Prop)}(a:Uq K H n P)(b:∀ Q∈Ps,Uq K H n Q):∀ Q∈P::Ps,Uq K H n Q:=List.forall_mem_cons.mpr ⟨a,b⟩
theorem fn{K:q0B}{H:Hp}{n:Nat}:∀ Q∈([]:List (V->Prop)),Uq K H n Q:=fun _ h=>nomatch h
noncomputable def Say.parts(H:Hp):Say->List (V->Prop)
 | .num i=>[fun v=>v=.str "number",fun v=>v=.int i]
 | .W3=>[fun v=>v=.str "none"]
 | .name x=>[fun v=>v=.str "name",fun v=>v=.str x]
 | .arg=>[fun v=>v=.str "arg"]
 | .now=>[fun v=>v=.str "now"]
 | .Xz s=>[fun v=>v=.str "answer",fun v=>bC H v s]
 | .neg s=>[fun v=>v=.str "not",fun v=>bC H v s]
 | .two g s r=>[fun v=>v=.str g.s,fun v=>bC H v s,fun v=>bC H v r]
theorem bC.un{H:Hp}{v:V}{s:Say}(h:bC H v s):vS H (s.parts H) v:=by
 cases h with
 | num e=>exact⟨_,_,rfl,e,.cons rfl (.cons rfl .nil)⟩
 | W3 e=>exact⟨_,_,rfl,e,.cons rfl .nil⟩
 | name e=>exact⟨_,_,rfl,e,.cons rfl (.cons rfl .nil)⟩
 | arg e=>exact⟨_,_,rfl,e,.cons rfl .nil⟩
 | now e=>exact⟨_,_,rfl,e,.cons rfl .nil⟩
 | Xz e s=>exact⟨_,_,rfl,e,.cons rfl (.cons s .nil)⟩
 | neg e s=>exact⟨_,_,rfl,e,.cons rfl (.cons s .nil)⟩
 | two e s r=>exact⟨_,_,rfl,e,.cons rfl (.cons s (.cons r .nil))⟩
theorem bC.uq{K:q0B}{H:Hp}(s:Say):∀ n,s.depth<=n->Uq K H n (fun v=>bC H v s):=by
 induction s with
 | Xz s ih =>
  intro n hn;simp only[Say.depth] at hn;obtain⟨n,rfl⟩:∃ m,n=m+1:=⟨n - 1,by omega⟩;exact fun v u h g=>eQ (fc cU (fc (ih n (by omega)) fn)) v u h.un g.un
 | neg s ih =>
  intro n hn;simp only[Say.depth] at hn;obtain⟨n,rfl⟩:∃ m,n=m+1:=⟨n - 1,by omega⟩;exact fun v u h g=>eQ (fc cU (fc (ih n (by omega)) fn)) v u h.un g.un
 | two g s r i1 i2 =>
  intro n hn;simp only[Say.depth] at hn;obtain⟨n,rfl⟩:∃ m,n=m+1:=⟨n - 1,by omega⟩;exact fun v u h g=>eQ (fc cU (fc (i1 n (by omega)) (fc (i2 n (by omega)) fn))) v u h.un g.un
 | num i =>
  intro n hn;simp only[Say.depth] at hn;obtain⟨n,rfl⟩:∃ m,n=m+1:=⟨n - 1,by omega⟩;exact fun v u h g=>eQ (fc cU (fc Rv fn)) v u h.un g.un
 | name x =>
  intro n hn;simp only[Say.depth] at hn;obtain⟨n,rfl⟩:∃ m,n=m+1:=⟨n - 1,by omega⟩;exact fun v u h g=>eQ (fc cU (fc cU fn)) v u h.un g.un
 | _ =>
  intro n hn;simp only[Say.depth] at hn;obtain⟨n,rfl⟩:∃ m,n=m+1:=⟨n - 1,by omega⟩;exact fun v u h g=>eQ (fc cU fn) v u h.un g.un
theorem cT.ea{H:Hp}{vs:List V}{ss:List Say}(h:cT H vs ss):Ea vs (ss.map fun s v=>bC H v s):=by
 induction h with
 | nil=>exact .nil
 | cons a _ ih=>exact .cons a ih
theorem bJ.ea{H:Hp}:∀ {vs:List V} {b:List Stm},bJ H vs b->Ea vs (b.map fun m v=>bV H v m)
 | _,[],h=>by cases h;exact .nil
 | _,m::ms,h=>by
  cases h with
  | cons a r=>exact .cons a (bJ.ea r)
noncomputable def Stm.parts(H:Hp):Stm->List (V->Prop)
 | .set x s=>[fun v=>v=.str "set",fun v=>v=.str x,fun v=>bC H v s]
 | .order x y s=>[fun v=>v=.str "order",fun v=>v=.str x,fun v=>v=.str y,fun v=>bC H v s]
 | .W4 x s=>[fun v=>v=.str "timer",fun v=>v=.str x,fun v=>bC H v s]
 | .child x y s=>[fun v=>v=.str "child",fun v=>v=.str x,fun v=>v=.str y,fun v=>bC H v s]
 | .send s k r=>[fun v=>v=.str "send",fun v=>bC H v s,fun v=>v=.str k,fun v=>bC H v r]
 | .drop s=>[fun v=>v=.str "drop",fun v=>bC H v s]
 | .wait x ss=>[fun v=>v=.str "wait",fun v=>v=.str x,vS H (ss.map fun s v=>bC H v s)]
 | .W9 x k=>[fun v=>v=.str "hear",fun v=>v=.str x,fun v=>v=.str k]
 | .fin s=>[fun v=>v=.str "end",fun v=>bC H v s]
 | .Xd s b=>[fun v=>v=.str "while",fun v=>bC H v s,vS H (b.map fun m v=>bV H v m)]
 | .iff s b o=>[fun v=>v=.str "if",fun v=>bC H v s,vS H (b.map fun m v=>bV H v m),vS H (o.map fun m v=>bV H v m)]
theorem bV.un{H:Hp}{v:V}{m:Stm}(h:bV H v m):vS H (m.parts H) v:=by
 cases h with
 | set e s=>exact⟨_,_,rfl,e,.cons rfl (.cons rfl (.cons s .nil))⟩
 | order e s=>exact⟨_,_,rfl,e,.cons rfl (.cons rfl (.cons rfl (.cons s .nil)))⟩
 | W4 e s=>exact⟨_,_,rfl,e,.cons rfl (.cons rfl (.cons s .nil))⟩
 | child e s=>exact⟨_,_,rfl,e,.cons rfl (.cons rfl (.cons rfl (.cons s .nil)))⟩
 | send e s r=>exact⟨_,_,rfl,e,.cons rfl (.cons s (.cons rfl (.cons r .nil)))⟩
 | drop e s=>exact⟨_,_,rfl,e,.cons rfl (.cons s .nil)⟩
 | wait e f s=>exact⟨_,_,rfl,e,.cons rfl (.cons rfl (.cons ⟨_,_,rfl,f,s.ea⟩ .nil))⟩
 | W9 e=>exact⟨_,_,rfl,e,.cons rfl (.cons rfl (.cons rfl .nil))⟩
 | fin e s=>exact⟨_,_,rfl,e,.cons rfl (.cons s .nil)⟩
 | Xd e s f b=>exact⟨_,_,rfl,e,.cons rfl (.cons s (.cons ⟨_,_,rfl,f,b.ea⟩ .nil))⟩
 | iff e s f b f2 b2=>exact⟨_,_,rfl,e,.cons rfl (.cons s (.cons ⟨_,_,rfl,f,b.ea⟩ (.cons ⟨_,_,rfl,f2,b2.ea⟩ .nil)))⟩
theorem Dh:∀ {b:List Stm} {m:Stm},wZ b->m∈b->m.wf
 | x::b,m,h,hm=>by
  rcases List.mem_cons.mp hm with rfl|hm
  ·exact h.1
  ·exact Dh h.2 hm
theorem Cc:∀ {b:List Stm} {m:Stm},m∈b->m.dp<=qC b
 | x::b,m,hm=>by
  simp only[qC];rcases List.mem_cons.mp hm with rfl|hm
  ·omega
  ·have:=Cc hm;omega
theorem Rw{K:q0B}{H:Hp}:∀(n:Nat) (m:Stm),m.wf->8+2 * m.dp<=n->Uq K H n (fun v=>bV H v m):=by
 intro n
 induction n using Nat.strongRecOn with
 | ind n ih =>
  intro m w hn v u h g;have h:=h.un;have g:=g.un;obtain⟨k,rfl⟩:∃ k,n=k+2:=⟨n - 2,by omega⟩;have bl:∀ b:List Stm,wZ b->8+2 * qC b<=k->Uq K H (k+1) (vS H (b.map fun m v=>bV H v m)):=fun b wb hb=>eQ (by
   intro P hP;obtain⟨m,hm,rfl⟩:=List.mem_map.mp hP;exact ih k (by omega) m (Dh wb hm) (by have:=Cc hm;omega))
  have sy:∀ s:Say,s.s6->Uq K H (k+1) (fun v=>bC H v s):=fun s hs=>bC.uq s (k+1) (by have:=hs.2;omega);cases m with
  | set x s=>exact eQ (fc cU (fc cU (fc (sy s w.2) fn))) v u h g
  | order x y s=>exact eQ (fc cU (fc cU (fc cU (fc (sy s w.2.2) fn)))) v u h g
  | W4 x s=>exact eQ (fc cU (fc cU (fc (sy s w.2) fn))) v u h g
  | child x y s=>exact eQ (fc cU (fc cU (fc cU (fc (sy s w.2.2) fn)))) v u h g
  | send s y r=>exact eQ (fc cU (fc (sy s w.1) (fc cU (fc (sy r w.2.2) fn)))) v u h g
  | drop s=>exact eQ (fc cU (fc (sy s w) fn)) v u h g
  | wait x ss =>
   refine eQ (fc cU (fc cU (fc (eQ ?_) fn))) v u h g;intro P hP;obtain⟨s,hs,rfl⟩:=List.mem_map.mp hP;exact bC.uq s k (by have:=(w.2.2 s hs).2;omega)
  | W9 x y=>exact eQ (fc cU (fc cU (fc cU fn))) v u h g
  | fin s=>exact eQ (fc cU (fc (sy s w) fn)) v u h g
  | Xd s b =>
   simp only[Stm.dp] at hn;exact eQ (fc cU (fc (sy s w.1) (fc (bl b w.2 (by omega)) fn))) v u h g
  | iff s b o =>
   simp only[Stm.dp] at hn;exact eQ (fc cU (fc (sy s w.1) (fc (bl b w.2.1 (by omega)) (fc (bl o w.2.2 (by omega)) fn)))) v u h g
theorem J1{K:q0B}{H:Hp}{p q:Addr}{us ws:List V}{b:List Stm}(e1:H p=some (.tup us))(e2:H q=some (.tup ws))(h1:bJ H us b)(h2:bJ H ws b)(w:wZ b)(d:qC b<=5):vR K H 20 p q true:=by
 have l:us.length=ws.length:=by rw[<- h1.len,<- h2.len]
 have:=vR.tup (K:=K) (H:=H) (n:=19) (e:=fun _=>true) (hJ.of e1) (hJ.of e2) (h1.ea.eq h2.ea fun P hP=>by obtain⟨m,hm,rfl⟩:=List.mem_map.mp hP;exact Rw 19 m (Dh w hm) (by have:=Cc hm;omega))
 rwa [show((List.range (min us.length ws.length)).all (fun _=>true)&&us.length==ws.length)=true by rw[l];simp[List.all_eq_true]] at this
noncomputable def Stm.nm:Stm->Str
 | .set x _ | .order x _ _ | .W4 x _ | .child x _ _ | .wait x _ | .W9 x _=>x
 | _=>""
theorem cT.at{H:Hp}{vs:List V}{ss:List Say}(h:cT H vs ss):∀ {i:Nat} {x:V},vs[i]?=some x->∃ y,ss[i]?=some y/\bC H x y:=by
 induction h with
 | nil=>intro i x e;simp at e
 | cons a _ ih =>
  intro i x e;cases i with
  | zero=>simp only[List.getElem?_cons_zero,Option.some.injEq] at e;subst e;exact⟨_,rfl,a⟩
  | succ i=>exact ih (by simpa using e)
theorem Sg.nn(g:Sg):(g.s=("number":Str))=False:=by cases g<;>simp only[Sg.s,cF,String.reduceEq]
theorem Sg.nm(g:Sg):(g.s=("name":Str))=False:=by cases g<;>simp only[Sg.s,cF,String.reduceEq]
theorem Sg.n3(g:Sg):cE (.str g.s) [.str "none",.str "arg",.str "now"]=false:=by cases g<;>(simp only[Sg.s,zB];decide)
theorem Sg.n2(g:Sg):cE (.str g.s) [.str "answer",.str "not"]=false:=by cases g<;>(simp only[Sg.s,jM];decide)
noncomputable def Say.is3:Say->Bool
 | .W3=>true | .arg=>true | .now=>true|_=>false
noncomputable def Say.is2:Say->Bool
 | .Xz _=>true | .neg _=>true|_=>false
theorem bC.sQ{H:Hp}{v:V}{s:Say}(h:bC H v s):s.is3=false\/∃(a:Addr) (w:Str),v=.ref a/\H a=some (.tup [.str w])/\((w=("number":Str))=False)/\((w=("name":Str))=False)/\cE (.str w) [.str "none",.str "arg",.str "now"]=true/\wd s=w:=by
 cases h with
 | W3 e=>exact .inr ⟨_,_,rfl,e,by simp only[cF,String.reduceEq],by simp only[cF,String.reduceEq],by rw[zB];decide,rfl⟩
 | arg e=>exact .inr ⟨_,_,rfl,e,by simp only[cF,String.reduceEq],by simp only[cF,String.reduceEq],by rw[zB];decide,rfl⟩
 | now e=>exact .inr ⟨_,_,rfl,e,by simp only[cF,String.reduceEq],by simp only[cF,String.reduceEq],by rw[zB];decide,rfl⟩
 | _=>exact .inl rfl
theorem bC.un2{H:Hp}{v:V}{s:Say}(h:bC H v s):s.is2=false\/∃(a:Addr) (w:Str) (u:V) (s1:Say),v=.ref a/\H a=some (.tup [.str w,u])/\bC H u s1/\((w=("number":Str))=False)/\((w=("name":Str))=False)/\cE (.str w) [.str "none",.str "arg",.str "now"]=false/\cE (.str w) [.str "answer",.str "not"]=true/\w.length<=6/\s.depth=s1.depth+1/\(s.sh->s1.sh)/\wd s=w++" "++wd s1:=by
 have l:=lens;cases h with
 | Xz e h1=>exact .inr ⟨_,_,_,_,rfl,e,h1,by simp only[cF,String.reduceEq],by simp only[cF,String.reduceEq],by rw[zB];decide,by rw[jM];decide,by omega,rfl,fun h=>⟨h.1,h.2⟩,rfl⟩
 | neg e h1=>exact .inr ⟨_,_,_,_,rfl,e,h1,by simp only[cF,String.reduceEq],by simp only[cF,String.reduceEq],by rw[zB];decide,by rw[jM];decide,by omega,rfl,fun h=>⟨h.1,h.2⟩,rfl⟩
 | _=>exact .inl rfl
theorem bJ.app{H:Hp}{vs us:List V}{a b:List Stm}(h:bJ H vs a)(y:bJ H us b):bJ H (vs++us) (a++b):=by
 induction a generalizing vs with
 | nil=>cases h;exact y
 | cons m ms ih =>
  cases h with
  | cons h r=>exact .cons h (ih r)
theorem bJ.take{H:Hp}{vs:List V}{a:List Stm}(n:Nat)(h:bJ H vs a):bJ H (vs.take n) (a.take n):=by
 induction n generalizing vs a with
 | zero=>exact .nil
 | succ n ih =>
  cases h with
  | nil=>exact .nil
  | cons h r=>exact .cons h (ih r)
theorem bJ.drop{H:Hp}{vs:List V}{a:List Stm}(n:Nat)(h:bJ H vs a):bJ H (vs.drop n) (a.drop n):=by
 induction n generalizing vs a with
 | zero=>exact h
 | succ n ih =>
  cases h with
  | nil=>exact .nil
  | cons h r=>exact ih r
noncomputable def Stm.kd:Stm->Str
 | .set _ _=>"set" | .order _ _ _=>"order" | .W4 _ _=>"timer" | .child _ _ _=>"child" | .send _ _ _=>"send" | .drop _=>"drop" | .wait _ _=>"wait" | .W9 _ _=>"hear" | .fin _=>"end" | .Xd _ _=>"while" | .iff _ _ _=>"if"
theorem bV.kd{H:Hp}{v:V}{m:Stm}(h:bV H v m):∃ a xs,v=.ref a/\H a=some (.tup (.str m.kd::xs)):=by cases h<;>exact⟨_,_,rfl,by assumption⟩
local macro_rules | `(tactic| wp_walk) => `(tactic| wp_walk using true_and)
local macro_rules | `(tactic| wp_walk using $ts,*) => do
  let us ← ts.getElems.mapM fun t => `(Lean.Parser.Tactic.simpLemma| $t:term)
  let vs <- ("↓Q0 ↓QY ↓Ux ↓Uy ↓MJ ↓Uz ↓Q1 ↓QZ ↓MH ↓Ry ↓UA ↓J3 ↓MI ↓Uw ↓Uv ↓TB ↓Su ↓PU ↓Tw ↓P7 ↓SV ↓Qe ↓Wi ↓V9 ↓Wf ↓Wj ↓WR ↓OW ↓Th ↓OT ↓V8 ↓S8 ↓TL ↓O4 ↓O6 ↓PX ↓Lo ↓OX ↓ON ↓Tr ↓PY ↓Sr ↓Wg ↓Tj ↓Lp ↓Wh ↓P4 ↓IY ↓Po ↓Pn ↓LJ ↓Pk ↓SS ↓Tu ↓Ss ↓Tt ↓Tq ↓Tp ↓LQ ↓LO ↓LP ↓IZ ↓I8 ↓LN ↓SY ↓S0 ↓OK ↓OM ↓OL ↓OU ↓TH ↓TF ↓OY ↓PM ↓PL ↓TC ↓Wa ↓O1 ↓PF ↓PJ ↓PH ↓Sv ↓Sw ↓Sx ↓Sy ↓Sz ↓SA ↓SD ↓SE ↓SF ↓SG ↓OO ↓OP ↓OQ ↓Lq ↓Ls ↓Lu ↓IA ↓LA ↓LB ↓ID ↓IE ↓IF ↓II ↓IJ ↓PB ↓PC ↓Pr ↓Pq ↓Wb ↓LK ↓S9 ↓Ta ↓So ↓AS ↓Cd ↓AW ↓AU ↓AV ↓yQ ↓AR ↓yT ↓yR ↓yS ↓AX ↓Ce ↓A0 ↓AY ↓AZ ↓wO ↓yU ↓wU ↓wQ ↓wR ↓IS ↓IU ↓GW ↓GX ↓IT ↓IV ↓EL ↓EM ↓IP ↓GV ↓IQ ↓SI ↓SJ ↓Pz ↓Py ↓Tn ↓LH ↓To ↓LI ↓Pf ↓Pg ↓Ph ↓Lx ↓Lw ↓LR ↓Ly ↓Qm ↓SK ↓SU ↓SN ↓Pb ↓Pa ↓O9 ↓Qa ↓Pp ↓V5 ↓V6 ↓V7 ↓Te ↓Td ↓LS ↓Pc ↓OZ ↓Lv ↓LW ↓P8 ↓Tz ↓LX ↓LD ↓V4 ↓TM ↓Qc ↓Qd ↓PD ↓L6 ↓LZ ↓PV ↓L8 ↓SR ↓Wc ↓Wd ↓IM ↓Pd ↓We ↓SO ↓P5 ↓L7 ↓Qk ↓Qg ↓Qi ↓Jc ↓Qj ↓Ql ↓Qh ↓LM ↓Lz ↓Tb ↓SM ↓Tv ↓LL ↓PK ↓DC ↓Pt ↓Ja ↓O8 ↓S7 ↓Sq ↓SW ↓FQ ↓SQ ↓P9 ↓OR ↓PR ↓PQ ↓IX ↓GY ↓P6 ↓LU ↓Qo ↓Qp ↓Pu ↓Qf ↓O3 ↓LF ↓IL ↓IK ↓LG ↓O0 ↓Pm ↓SX ↓OS ↓SH ↓LY ↓Pj ↓Pe ↓IC ↓IB ↓LC ↓Px ↓PN ↓S4 ↓S5 ↓IW ↓Tc ↓TK ↓OV ↓PZ ↓P2 ↓Tf ↓LV ↓Qn ↓Qb ↓Ti ↓L0 ↓Vp ↓Vq ↓Vr ↓Vt ↓Vu ↓Vv ↓Vw ↓Vx ↓Vy ↓NX ↓NY ↓NZ ↓N8 ↓N9 ↓Oa ↓Ob ↓Oc ↓Od ↓Oe ↓Of ↓Og ↓Oh ↓Oi ↓Oj ↓Ol ↓Om ↓Oo ↓Oq ↓Ot ↓Vs ↓NW ↓Vo ↓WA ↓Vk ↓Vl ↓Vm ↓Vn ↓Wz ↓aE ↓List.set_cons_zero ↓List.set_cons_succ ↓List.getElem?_cons_zero ↓List.getElem?_cons_succ L2.start Jy NF List.cons_append List.nil_append List.append_nil List.replicate_succ List.replicate_zero List.length_cons List.length_nil Nat.reduceAdd Nat.reduceSub Nat.zero_add Nat.add_zero Nat.reduceLeDiff Nat.reducePow Nat.reduceLT true_and and_true false_and and_false forall_const ↓reduceIte cF String.reduceEq Int.reduceToNat Int.reducePow Int.reduceNeg Int.reduceSub Int.reduceAdd Int.reduceMul Int.reduceLT Int.reduceLE Int.reduceEq sizeLine WX Wy decide_true decide_false Bool.not_true Bool.not_false Bool.false_eq_true".splitOn " ").toArray.mapM fun(n:String)=>do
    let p:=n.splitOn "↓";let x:=Lean.mkIdent (p.getLastD "").toName
    if p.length = 1 then `(Lean.Parser.Tactic.simpLemma| $x:term) else `(Lean.Parser.Tactic.simpLemma| ↓ $x:term)
  let ws:=us++vs
  `(tactic| try simp (config := { dsimp := false }) only [$ws,*])
noncomputable def Gs(K:q0B):Sp:=fun vs H Q _=>∃(a:Addr) (ns:List Int),vs=[.ref a]/\dZ K H a (ns.map V.int)/\ns.length<=63/\∀ H',Q (.bl true) H'
section
variable {P:Program} {w:World} {K:q0B} {mg:q0C} {base:Heap}
theorem CH{t:Ad}(T:Tx K mg t):bR P w K mg base Xe 1 t.qW t.rD ["cell"] Ki:=by
 refine T.yZ.ok m8 (fun vs H Q E h=>?_) (fun W7 A outer s H vs Q E hr h=>?_)
 ·obtain⟨c,rfl,_⟩:=h;rfl
 ·obtain⟨c,rfl,q⟩:=h;refine⟨_,(aD (aM (i:=1) m8.nd rfl (Or.inl rfl) (aS uZ (pv 0) aG))
   (aD (aM (i:=1) m8.nd rfl (Or.inl rfl) (aS uZ (aS aQ (aS Af (aS uZ (aS Af (pv 1) (pv 1)) aG) (aS aQ (pv 1) aG)) aG) aG))
   (aH (aN (bF (aC (pv 0) (aC (pv 1) (aC (bU jT rfl T.vQ jX (aC (iV Us (pv 0) (aS u0 aG aG) (nomark _)) aB)) aB)))))))),?_⟩
  and_intros
  wp_walk;have m0:=Int.emod_nonneg c (show(536870909:Int)≠0 by decide);have m1:=Int.emod_lt_of_pos c (show(0:Int) < 536870909 by decide);have n0:=Int.emod_nonneg (c % 536870909 * (c % 536870909)) (show(536870909:Int)≠0 by decide);have n1:=Int.emod_lt_of_pos (c % 536870909 * (c % 536870909)) (show(0:Int) < 536870909 by decide);refine⟨Gd (by omega) (by omega),Gd (by omega) (by omega),fun r hr'=>?_⟩;refine q r _ hr' (Kp.new hr') ⟨_,_,_,aE,?_,?_⟩
  ·exact Int.emod_nonneg _ (by decide)
  ·exact Int.emod_lt_of_pos _ (by decide)
theorem aY{t:Ad}(T:Tx K mg t):bR P w K mg base Xe 1 t.xZ t.yN ["row","many"] Kk:=by
 refine T.bG.ok Au (fun vs H Q E h=>?_) (fun W7 A outer s H vs Q E hr h=>?_)
 ·obtain⟨r,m,rfl,_⟩:=h;rfl
 ·obtain⟨r,m,rfl,m0,m1,⟨c,l,f,hr0,l0,l1⟩,q⟩:=h;refine⟨_,(aD (aW (aK bW (aX bM (pv 0) aG (fun _ _=>rfl)) aG (nomark _)) (aD (aM (i:=2) Au.nd rfl (Or.inl rfl) (aS uZ (aX bM (pv 0) aG (fun _ _=>rfl)) (pv 1)))
   (aD (fV (aS JQ (aX bM (pv 0) aG (fun _ _=>rfl)) (pv 1)) (fU (pv 0) aG jI))
   (aH (aN (pv 2))))) aR)
   (aD (fV (aS uZ (aS Af (aS aQ (aX bM (pv 0) aG (fun _ _=>rfl)) aG) (aS aQ (aX bM (pv 0) aG (fun _ _=>rfl)) aG)) aG) (fU (pv 0) aG jI))
   (aH (aN (aS uZ (aS aQ (aS Af (aX bM (pv 0) aG (fun _ _=>rfl)) aG) aG) (pv 1)))))),?_⟩
  and_intros
  wp_walk using hr0;have n0:=Int.emod_nonneg ((l+7919) * (l+104729)) (show(536870909:Int)≠0 by decide);have n1:=Int.emod_lt_of_pos ((l+7919) * (l+104729)) (show(0:Int) < 536870909 by decide);split
  ·exact⟨m0,⟨m0,log2_lt m0 m1⟩,q _ _ (Int.emod_nonneg _ (by omega)) (Int.emod_lt_of_pos _ m0) ⟨_,_,_,aE,l0,l1⟩ (Kp.set (by simp))⟩
  ·exact⟨Gd (by omega) (by omega),Gd (by omega) (by omega),m0,q _ _ (Int.emod_nonneg _ (by omega)) (Int.emod_lt_of_pos _ m0) ⟨_,_,_,aE,n0,n1⟩ (Kp.set (by simp))⟩
theorem pP{t:Ad}(T:Tx K mg t):bR P w K mg base Xe 1 t.BU t.Ca [] NO:=by
 refine T.sL.ok BK (fun vs H Q E h=>?_) (fun W7 A outer s H vs Q E hr h=>?_)
 ·obtain⟨rfl,_⟩:=h;rfl
 ·obtain⟨rfl,q⟩:=h;refine⟨_,(aD (aM (i:=0) BK.nd rfl (Or.inl rfl) (bF (aC aF (aC aF (aC aF (aC aF (aC aF (aC aF (aC aF (aC aF (aC aF (aC aF (aC aF (aC aF aB))))))))))))))
   (aH (aN (aS aQ (pv 0) (bF (aC aF (aC aF (aC aF (aC aF (aC aF aB)))))))))),?_⟩
  and_intros
  wp_walk;refine fun p1 h1 p2 h2=>?_;have n:p1≠p2:=aL aE h2;wp_walk using aV n;refine fun p3 h3=>?_;have n3:p3≠p2:=(aL aE h3).symm;have n4:p3≠p1:=fun z=>by rw[z,aV n,aE] at h3;cases h3
  have h4:=h3;rw[aV n3,aV n4] at h4;exact q p3 _ h4 (((Kp.new h1).trans (Kp.new h2)).trans (Kp.new h3)) aE
theorem Aa{t:Ad}(T:Tx K mg t):bR P w K mg base Xe 4 t.xW t.yK ["row"] Kd:=by
 refine T.yX.ok mZ (fun vs H Q E h=>?_) (fun W7 A outer s H vs Q E hr h=>?_)
 ·obtain⟨r,rfl,_⟩:=h;rfl
 ·obtain⟨r,rfl,hR,q⟩:=h;refine⟨_,(aD (aM (i:=1) mZ.nd rfl (Or.inl rfl) (aS aQ (tF (pP T) (hr.mono (by omega)) rfl T.xM T.sL.kp T.xE .nil pass0) (bF (aC aF (aC aF (aC aF (aC aF (aC aF (aC aF (aC aF (aC aF (aC aF (aC aF (aC aF (aC aF (aC aF aB))))))))))))))))
   (aD (aM (i:=1) mZ.nd rfl (Or.inl rfl) (aS aQ (pv 1) (bF (aC aF (aC aF (aC aF (aC aF (aC aF (aC aF (aC aF (aC aF (aC aF (aC aF (aC aF aB))))))))))))))
   (aD (aM (i:=1) mZ.nd rfl (Or.inl rfl) (aS aQ (pv 1) (bF (aC aF (aC aF (aC aF (aC aF (aC aF (aC aF (aC aF (aC aF (aC aF (aC aF aB)))))))))))))
   (aH (aN (aX bM (pv 1) (aI (aY T) (hr.mono (by omega)) rfl T.bI T.bG.kp T.bH .nil pass0 (aC (pv 0) (aC (bK bO rfl T.iK cZ (aC (pv 1) aB)) aB))) (fun _ _=>rfl))))))),?_⟩
  and_intros
  wp_walk;refine fun q1 H1 f1 N1 e1=>?_;have s1:=own40.1;have l1:=own40.2;refine fun p2 h2=>?_;wp_walk;refine cat40 (by rw[aV (aL e1 h2)];exact e1) rfl s1 (by decide +kernel) (by rw[l1];decide) fun q2 zs2 H2 e2 s2 l2 N2=>?_;rw[l1] at l2;replace N2:=(q0D h2).trans N2;wp_walk;refine fun p3 h3=>?_;wp_walk;refine cat40 (by rw[aV (aL e2 h3)];exact e2) rfl s2 (by decide +kernel) (by rw[l2];decide) fun q3 zs3 H3 e3 s3 l3 N3=>?_;rw[l2] at l3;replace N3:=(q0D h3).trans N3;wp_walk;refine fun p4 h4=>?_;wp_walk;refine cat40 (by rw[aV (aL e3 h4)];exact e3) rfl s3 (by decide +kernel) (by rw[l3];decide) fun q4 zs4 H4 e4 s4 l4 N4=>?_;rw[l3] at l4;replace N4:=(q0D h4).trans N4;wp_walk;wp_walk using e4;have R4:=hR.kp (((N1.trans N2).trans N3).trans N4);refine⟨by rw[l4];decide,by rw[l4];decide,R4,fun g G a b RG KG=>?_⟩;have nq:=zR R4 e4 l4;wp_walk using KG.at1 e4 nq;refine dN a b fun v hv=>?_;obtain⟨y,rfl,ly⟩:=vO s4 hv;wp_walk;exact q y G ly RG (((((N1.trans N2).trans N3).trans N4).mono (by simp)).trans KG)
theorem zY{t:Ad}(T:Tx K mg t):bR P w K mg base Xe 6 t.lZ t.mE ["row","line"] MU:=by
 refine T.sH.ok cC (fun vs H Q E h=>?_) (fun W7 A outer s H vs Q E hr h=>?_)
 ·obtain⟨r,x,rfl,_⟩:=h;rfl
 ·obtain⟨r,x,rfl,hR,lx,q⟩:=h;refine⟨_,(aD (aM (i:=2) cC.nd rfl (Or.inl rfl) (nE PySem.F.plainAttrs_str PySem.F.slot_str_split PySem.F.type_str_split lU (pv 1) (aC aF aB)))
   (aD (aM (i:=3) cC.nd rfl (Or.inl rfl) (aI (aY T) (hr.mono (by omega)) rfl T.bI T.bG.kp T.bH .nil pass0 (aC (pv 0) (aC (bK bO rfl T.iK cZ (aC (pv 2) aB)) aB))))
   (aD (aM (i:=4) cC.nd rfl (Or.inl rfl) (aI (aY T) (hr.mono (by omega)) rfl T.bI T.bG.kp T.bH .nil pass0 (aC (pv 0) (aC aG aB))))
   (aD (aW (aK qK (pv 4) aG (nomark _)) (aD (aM (i:=5) cC.nd rfl (Or.inl rfl) (aX bM (pv 2) (pv 3) (fun _ _=>rfl)))
   (aD (aM (i:=6) cC.nd rfl (Or.inl rfl) (aI (aY T) (hr.mono (by omega)) rfl T.bI T.bG.kp T.bH .nil pass0 (aC (pv 0) (aC (aS aQ (bK bO rfl T.iK cZ (aC (pv 5) aB)) aG) aB))))
   (aD (aM (i:=7) cC.nd rfl (Or.inl rfl) (aS MA (aX bM aF (aI (aY T) (hr.mono (by omega)) rfl T.bI T.bG.kp T.bH .nil pass0 (aC (pv 0) (aC aG aB))) (fun _ _=>rfl)) (bU jT rfl T.vQ jX (aC (iV bW (pv 4) aG (nomark _)) aB))))
   (aH (fV (aS aQ (aS aQ (bT iJ (pv 5) bY (bZ (pv 6))) (pv 7)) (bT iJ (pv 5) (bZ (aS aQ (pv 6) (bU jT rfl T.vQ jX (aC (iV bW (pv 4) aG (nomark _)) aB)))) bY)) (fU (pv 2) (pv 3) jI)))))) (aH (aW (aK bW (pv 4) aG (nomark _)) (aH (aM (i:=2) cC.nd rfl (Or.inl rfl) (aS aQ (bT iJ (pv 2) bY (bZ (pv 3))) (bT iJ (pv 2) (bZ (aS aQ (pv 3) aG)) bY)))) (aH (aW (aK bW (pv 4) aG (nomark _)) (aH (aM (i:=2) cC.nd rfl (Or.inl rfl) (aS aQ (aS aQ (bT iJ (pv 2) bY (bZ (pv 3))) (bF (aC (aI (Aa T) (hr.mono (by omega)) rfl T.DX T.yX.kp T.Dr .nil pass0 (aC (pv 0) aB)) aB))) (bT iJ (pv 2) (bZ (pv 3)) bY)))) (aH (aW (aK bW (pv 4) aG (nomark _)) (aH (aM (i:=2) cC.nd rfl (Or.inl rfl) (aS aQ (aS aQ (bT iJ (pv 2) bY (bZ (pv 3))) (bF (aC (aI (Aa T) (hr.mono (by omega)) rfl T.DX T.yX.kp T.Dr .nil pass0 (aC (pv 0) aB)) aB))) (bT iJ (pv 2) (bZ (aS aQ (pv 3) aG)) bY)))) (aH (aM (i:=2) cC.nd rfl (Or.inl rfl) (aS aQ (aS aQ (bT iJ (pv 2) bY (bZ (pv 3))) (bF (aC (aX bM (pv 2) (aI (aY T) (hr.mono (by omega)) rfl T.bI T.bG.kp T.bH .nil pass0 (aC (pv 0) (aC (bK bO rfl T.iK cZ (aC (pv 2) aB)) aB))) (fun _ _=>rfl)) aB))) (bT iJ (pv 2) (bZ (aS aQ (pv 3) aG)) bY)))))))))))
   (aH (aN (nE PySem.F.plainAttrs_str PySem.F.slot_str_join PySem.F.type_str_join xN aF (aC (pv 2) aB)))))))),?_⟩
  and_intros
  refine aU fun XF Xa=>?_;wp_walk;refine⟨by decide +kernel,by omega,fun wl X2=>?_⟩;have tw:=pY 32 x;rw[<- eP.2.1] at tw;have nw:=fN x " ";generalize Txt.split x " "=ws at *;have N1:=q0D (o:=.lst (ws.map V.str)) X2;have e1:WZ H wl (.lst (ws.map V.str)) wl=some (.lst (ws.map V.str)):=aE;have X0:wl≠r:=hR.none X2;replace hR:=hR.kp N1;replace N1:Kp [r] H _:=N1.mono (by simp);generalize WZ H wl (.lst (ws.map V.str))=G1 at *;have lw:=pM ws;have lp:=List.length_pos_iff.mpr nw;refine Xa _ _ ?_;clear Xa;refine aU fun YX Xu=>?_;wp_walk using e1,List.length_map;refine⟨by omega,by omega,hR,fun at_ G2 a2 b2 R2 K2=>?_⟩;replace e1:=K2.at1 e1 X0;replace N1:=N1.trans K2;clear hR K2;refine Xu _ _ ?_;clear Xu;refine aU fun R_3 XI=>?_;wp_walk;refine⟨R2,fun kd G3 a3 b3 R3 K3=>?_⟩;replace e1:=K3.at1 e1 X0;replace N1:=N1.trans K3;clear R2 K3;have nwH:H wl=none:=X2;refine XI _ _ ?_;clear XI;refine aU fun R_4 Yh=>?_
  suffices fin:∀(w2:Addr) (us:List Str) (v5 v6 v7:Option V) (G:Hp),G w2=some (.lst (us.map V.str))->tot us<=3 * (x.length+1)+50->bQ G r->Kp [r] H G->R_4 [some (.ref r),some (.str x),some (.ref w2),some (.int at_),some (.int kd),v5,v6,v7] G by
   by_cases c1:3 < kd
   ·wp_walk using c1,e1;refine dN a2 (by rw[List.length_map];exact b2) fun v hv=>?_;obtain⟨w0,Zg,rfl⟩:=List.mem_map.mp hv;have lw0:=gH Zg;wp_walk;refine⟨by omega,by omega,p45 (by omega),R3,fun sp G4 a4 b4 R4 K4=>?_⟩;replace e1:=K4.at1 e1 X0;replace N1:=N1.trans K4;clear R3 K4 hv;wp_walk;refine⟨R4,fun sg G5 a5 b5 R5 K5=>?_⟩;replace e1:=K5.at1 e1 X0;replace N1:=N1.trans K5;clear R4 K5;wp_walk;refine⟨by decide,Gk a5 (by rw[show("+-_.0 9aA()=":Str).length=12 by decide +kernel];exact b5) fun c hc=>?_⟩;have lc:(⟨#[c]⟩:Str).length=1:=rfl;generalize (⟨#[c]⟩:Str)=zc at *;wp_walk;by_cases k4:kd=4
    ·refine .inr ⟨by rw[decide_eq_true k4];rfl,?_⟩;have s1:=Txt.slice_le w0 none (some sp);have s2:=Txt.slice_le w0 (some (sp+if decide (kd=5)=true then 1 else 0)) none;generalize Txt.slice w0 none (some sp)=y1 at *;generalize Txt.slice w0 (some (sp+if decide (kd=5)=true then 1 else 0)) none=y3 at *;have ls:=bE y1 zc;have lz:=bE (y1++zc) y3;refine⟨by omega,by omega,by omega,by omega,?_⟩;rw[e1];wp_walk;obtain⟨j,hj,_⟩:=oF (xs:=ws.map V.str) a2 (by rw[List.length_map];exact b2);rw[hj];wp_walk;have K6:=Kp.lI (a:=wl) (H:=G5) (o:=.lst ((ws.map V.str).set j (.str (y1++zc++y3))));have T:=pZ (y1++zc++y3) ws j;have R6:bQ (WZ G5 wl (.lst ((ws.map V.str).set j (.str (y1++zc++y3))))) r:=R5.kp K6 (by simpa using X0.symm);refine fin wl (ws.set j (y1++zc++y3)) _ _ _ _ (by rw[<- List.map_set];exact aE) (by omega) R6 (Cr N1 K6 nwH)
    ·refine .inl ⟨by rw[decide_eq_false k4];rfl,?_⟩;have le:=CC.2;have s1:=Txt.slice_le w0 none (some sp);have s2:=Txt.slice_le w0 (some (sp+if decide (kd=5)=true then 1 else 0)) none;generalize Txt.slice w0 none (some sp)=y1 at *;generalize Txt.slice w0 (some (sp+if decide (kd=5)=true then 1 else 0)) none=y3 at *;have ls:=bE y1 (Str.ofString "");have lz:=bE (y1++(Str.ofString "")) y3;refine⟨by omega,by omega,by omega,by omega,?_⟩;rw[e1];wp_walk;obtain⟨j,hj,_⟩:=oF (xs:=ws.map V.str) a2 (by rw[List.length_map];exact b2);rw[hj];wp_walk;have K6:=Kp.lI (a:=wl) (H:=G5) (o:=.lst ((ws.map V.str).set j (.str (y1++(Str.ofString "")++y3))));have T:=pZ (y1++(Str.ofString "")++y3) ws j;have R6:bQ (WZ G5 wl (.lst ((ws.map V.str).set j (.str (y1++(Str.ofString "")++y3))))) r:=R5.kp K6 (by simpa using X0.symm);refine fin wl (ws.set j (y1++(Str.ofString "")++y3)) _ _ _ _ (by rw[<- List.map_set];exact aE) (by omega) R6 (Cr N1 K6 nwH)
   by_cases c2:kd=0
   ·wp_walk using c1,eq_true c2,e1;refine fun p1 h1=>?_;obtain⟨Xc,XH,Xy,lu1⟩:=vW ws (k:=at_) (by omega);rw[XH];have M1:=q0D (o:=.lst (Xc.map V.str)) h1;have f1:WZ G3 p1 (.lst (Xc.map V.str)) p1=some (.lst (Xc.map V.str)):=aE;replace e1:=M1.at e1;replace R3:=R3.kp M1;replace N1:=N1.trans (M1.mono (T:=[r]) (by simp));generalize WZ G3 p1 (.lst (Xc.map V.str))=GS1 at *;clear M1 XH;wp_walk using e1;refine fun p2 h2=>?_;obtain⟨XT,eu2,su2,lu2⟩:=vV ws (k:=(at_+1)) (by omega);rw[eu2];have M2:=q0D (o:=.lst (XT.map V.str)) h2;have f2:WZ GS1 p2 (.lst (XT.map V.str)) p2=some (.lst (XT.map V.str)):=aE;replace e1:=M2.at e1;replace R3:=R3.kp M2;replace N1:=N1.trans (M2.mono (T:=[r]) (by simp));replace f1:=M2.at f1;generalize WZ GS1 p2 (.lst (XT.map V.str))=GS2 at *;clear M2 eu2;wp_walk using e1;refine qA f1 rfl (by (try simp only[List.length_append,List.length_cons,List.length_nil]);have:=cX Xy;have:=cX su2;omega) fun q3 X7 f3 N3=>?_
    exact fin q3 (Xc++XT) _ _ _ _ f3 (by rw[dC];have:=dU Xy;have:=dU su2;omega) (R3.kp N3) (N1.trans (N3.mono (by simp)))
   by_cases c3:kd=1
   ·wp_walk using c1,c2,eq_true c3,e1;refine fun p1 h1=>?_;obtain⟨Xc,XH,Xy,lu1⟩:=vW ws (k:=at_) (by omega);rw[XH];have M1:=q0D (o:=.lst (Xc.map V.str)) h1;have f1:WZ G3 p1 (.lst (Xc.map V.str)) p1=some (.lst (Xc.map V.str)):=aE;replace e1:=M1.at e1;replace R3:=R3.kp M1;replace N1:=N1.trans (M1.mono (T:=[r]) (by simp));generalize WZ G3 p1 (.lst (Xc.map V.str))=GS1 at *;clear M1 XH;wp_walk using e1;refine⟨r,rfl,R3,fun y2 G7 ZM R7 K7 p2 h2=>?_⟩;have ZN:p1≠r:=fun z=>by rw[z] at f1;exact absurd f1 (tM R3 Xc)
    replace e1:=K7.at1 e1 X0;replace f1:=K7.at1 f1 ZN;replace N1:=N1.trans K7;clear R3;have R3:=R7;clear R7 K7;have M2:=q0D (o:=.lst [.str y2]) h2;refine qA (vs:=[y2]) (M2.at f1) rfl (by simp only[List.length_cons,List.length_nil];have:=cX Xy;omega) fun p3 X7 f3 N3=>?_;replace N3:=M2.trans N3;replace e1:=N3.at e1;replace R3:=R3.kp N3;replace N1:=N1.trans (N3.mono (T:=[r]) (by simp));clear M2 N3 h2;wp_walk using e1;refine fun p4 h4=>?_;obtain⟨Xm,Yg,Yn,lu4⟩:=vV ws (k:=at_) (by omega);rw[Yg];have M4:=q0D (o:=.lst (Xm.map V.str)) h4;have f4:WZ X7 p4 (.lst (Xm.map V.str)) p4=some (.lst (Xm.map V.str)):=aE;replace e1:=M4.at e1;replace R3:=R3.kp M4;replace N1:=N1.trans (M4.mono (T:=[r]) (by simp));replace f3:=M4.at f3;generalize WZ X7 p4 (.lst (Xm.map V.str))=GS4 at *;clear M4 Yg;wp_walk using e1;refine qA f3 rfl (by (try simp only[List.length_append,List.length_cons,List.length_nil]);have:=cX Xy;have:=cX Yn;omega) fun q5 HC5 f5 N5=>?_
    exact fin q5 ((Xc++[y2])++Xm) _ _ _ _ f5 (by rw[dC,dC,dF];have:=dU Xy;have:=dU Yn;omega) (R3.kp N5) (N1.trans (N5.mono (by simp)))
   by_cases c4:kd=2
   ·wp_walk using c1,c2,c3,eq_true c4,e1;refine fun p1 h1=>?_;obtain⟨Xc,XH,Xy,lu1⟩:=vW ws (k:=at_) (by omega);rw[XH];have M1:=q0D (o:=.lst (Xc.map V.str)) h1;have f1:WZ G3 p1 (.lst (Xc.map V.str)) p1=some (.lst (Xc.map V.str)):=aE;replace e1:=M1.at e1;replace R3:=R3.kp M1;replace N1:=N1.trans (M1.mono (T:=[r]) (by simp));generalize WZ G3 p1 (.lst (Xc.map V.str))=GS1 at *;clear M1 XH;wp_walk using e1;refine⟨r,rfl,R3,fun y2 G7 ZM R7 K7 p2 h2=>?_⟩;have ZN:p1≠r:=fun z=>by rw[z] at f1;exact absurd f1 (tM R3 Xc)
    replace e1:=K7.at1 e1 X0;replace f1:=K7.at1 f1 ZN;replace N1:=N1.trans K7;clear R3;have R3:=R7;clear R7 K7;have M2:=q0D (o:=.lst [.str y2]) h2;refine qA (vs:=[y2]) (M2.at f1) rfl (by simp only[List.length_cons,List.length_nil];have:=cX Xy;omega) fun p3 X7 f3 N3=>?_;replace N3:=M2.trans N3;replace e1:=N3.at e1;replace R3:=R3.kp N3;replace N1:=N1.trans (N3.mono (T:=[r]) (by simp));clear M2 N3 h2;wp_walk using e1;refine fun p4 h4=>?_;obtain⟨Xm,Yg,Yn,lu4⟩:=vV ws (k:=(at_+1)) (by omega);rw[Yg];have M4:=q0D (o:=.lst (Xm.map V.str)) h4;have f4:WZ X7 p4 (.lst (Xm.map V.str)) p4=some (.lst (Xm.map V.str)):=aE;replace e1:=M4.at e1;replace R3:=R3.kp M4;replace N1:=N1.trans (M4.mono (T:=[r]) (by simp));replace f3:=M4.at f3;generalize WZ X7 p4 (.lst (Xm.map V.str))=GS4 at *;clear M4 Yg;wp_walk using e1;refine qA f3 rfl (by (try simp only[List.length_append,List.length_cons,List.length_nil]);have:=cX Xy;have:=cX Yn;omega) fun q5 HC5 f5 N5=>?_
    exact fin q5 ((Xc++[y2])++Xm) _ _ _ _ f5 (by rw[dC,dC,dF];have:=dU Xy;have:=dU Yn;omega) (R3.kp N5) (N1.trans (N5.mono (by simp)))
   ·wp_walk using c1,c2,c3,c4,e1;refine fun p1 h1=>?_;obtain⟨Xc,XH,Xy,lu1⟩:=vW ws (k:=at_) (by omega);rw[XH];have M1:=q0D (o:=.lst (Xc.map V.str)) h1;have f1:WZ G3 p1 (.lst (Xc.map V.str)) p1=some (.lst (Xc.map V.str)):=aE;replace e1:=M1.at e1;replace R3:=R3.kp M1;replace N1:=N1.trans (M1.mono (T:=[r]) (by simp));generalize WZ G3 p1 (.lst (Xc.map V.str))=GS1 at *;clear M1 XH;wp_walk using e1;wp_walk using List.length_map;refine⟨by omega,by omega,R3,fun ot G7 a7 b7 R7 K7=>?_⟩;have ZN:p1≠r:=fun z=>by rw[z] at f1;exact absurd f1 (tM R3 Xc)
    replace e1:=K7.at1 e1 X0;replace f1:=K7.at1 f1 ZN;replace N1:=N1.trans K7;clear R3;have R3:=R7;clear R7 K7;wp_walk using e1;refine dN a7 (by rw[List.length_map];exact b7) fun v hv=>?_;obtain⟨y2,hy2,rfl⟩:=List.mem_map.mp hv;have ZM:=gH hy2;wp_walk;refine fun p2 h2=>?_;have M2:=q0D (o:=.lst [.str y2]) h2;refine qA (vs:=[y2]) (M2.at f1) rfl (by simp only[List.length_cons,List.length_nil];have:=cX Xy;omega) fun p3 X7 f3 N3=>?_;replace N3:=M2.trans N3;replace e1:=N3.at e1;replace R3:=R3.kp N3;replace N1:=N1.trans (N3.mono (T:=[r]) (by simp));clear M2 N3 h2;wp_walk using e1;refine fun p4 h4=>?_;obtain⟨Xm,Yg,Yn,lu4⟩:=vV ws (k:=(at_+1)) (by omega);rw[Yg];have M4:=q0D (o:=.lst (Xm.map V.str)) h4;have f4:WZ X7 p4 (.lst (Xm.map V.str)) p4=some (.lst (Xm.map V.str)):=aE;replace e1:=M4.at e1;replace R3:=R3.kp M4;replace N1:=N1.trans (M4.mono (T:=[r]) (by simp));replace f3:=M4.at f3;generalize WZ X7 p4 (.lst (Xm.map V.str))=GS4 at *;clear M4 Yg;wp_walk using e1;refine qA f3 rfl (by (try simp only[List.length_append,List.length_cons,List.length_nil]);have:=cX Xy;have:=cX Yn;omega) fun q5 HC5 f5 N5=>?_
    exact fin q5 ((Xc++[y2])++Xm) _ _ _ _ f5 (by rw[dC,dC,dF];have:=dU Xy;have:=dU Yn;omega) (R3.kp N5) (N1.trans (N5.mono (by simp)))
  intro w2 us v5 v6 v7 G e9 t9 R9 K9;clear e1 R3 N1;refine Yh _ _ ?_;clear Yh;wp_walk using e9;have:=M9 us;exact⟨by rw[CC.1];omega,q _ G (Nat.le_trans (QD us) t9) R9 K9⟩
theorem zZ{t:Ad}(T:Tx K mg t):bR P w K mg base Xe 4 t.l8 t.mF ["row"] Kd:=by
 refine T.sI.ok iI (fun vs H Q E h=>?_) (fun W7 A outer s H vs Q E hr h=>?_)
 ·obtain⟨r,rfl,_⟩:=h;rfl
 ·obtain⟨r,rfl,hR,q⟩:=h;refine⟨_,(aD (aM (i:=1) iI.nd rfl (Or.inl rfl) (bF (aC aF (aC aF (aC aF (aC aF (aC aF (aC aF (aC aF (aC aF (aC aF (aC aF (aC aF aB)))))))))))))
   (aD (aM (i:=1) iI.nd rfl (Or.inl rfl) (aS aQ (pv 1) (bF (aC aF (aC aF (aC aF (aC aF (aC aF (aC aF (aC aF aB))))))))))
   (aD (aM (i:=1) iI.nd rfl (Or.inl rfl) (aS aQ (pv 1) (bF (aC aF (aC aF (aC aF (aC aF (aC aF (aC aF (aC aF aB))))))))))
   (aH (aN (aX bM (pv 1) (aI (aY T) (hr.mono (by omega)) rfl T.bI T.bG.kp T.bH .nil pass0 (aC (pv 0) (aC (bK bO rfl T.iK cZ (aC (pv 1) aB)) aB))) (fun _ _=>rfl))))))),?_⟩
  and_intros
  wp_walk;refine fun q1 h1=>?_;have N1:=q0D (o:=.lst [.str "done",.str "else",.str "if x",.str "while 1",.str "x = 1",.str "end none",.str "",.str " x = 1",.str "x = 1 ",.str "x  = 1",.str "x = wait"]) h1;obtain⟨Zr,hz1⟩:∃ Zr:List V,Zr=[.str "done",.str "else",.str "if x",.str "while 1",.str "x = 1",.str "end none",.str "",.str " x = 1",.str "x = 1 ",.str "x  = 1",.str "x = wait"]:=⟨_,rfl⟩;have s1:strs40 Zr=true:=by rw[hz1];decide +kernel
  have l1:Zr.length=11:=by rw[hz1];rfl
  rw[<- hz1] at N1 ⊢;have e1:WZ H q1 (.lst Zr) q1=some (.lst Zr):=aE;generalize WZ H q1 (.lst Zr)=H1 at *;refine fun p2 h2=>?_;wp_walk;refine cat40 (by rw[aV (aL e1 h2)];exact e1) rfl s1 (by decide +kernel) (by rw[l1];decide) fun q2 zs2 H2 e2 s2 l2 N2=>?_;rw[l1] at l2;replace N2:=(q0D h2).trans N2;wp_walk;refine fun p3 h3=>?_;wp_walk;refine cat40 (by rw[aV (aL e2 h3)];exact e2) rfl s2 (by decide +kernel) (by rw[l2];decide) fun q3 zs3 H3 e3 s3 l3 N3=>?_;rw[l2] at l3;replace N3:=(q0D h3).trans N3;wp_walk;wp_walk using e3;have R3:=hR.kp ((N1.trans N2).trans N3);refine⟨by rw[l3];decide,by rw[l3];decide,R3,fun g G a b RG KG=>?_⟩;have nq:=zR R3 e3 l3;wp_walk using KG.at1 e3 nq;refine dN a b fun v hv=>?_;obtain⟨y,rfl,ly⟩:=vO s3 hv;wp_walk;exact q y G ly RG ((((N1.trans N2).trans N3).mono (by simp)).trans KG)
theorem zX{t:Ad}(T:Tx K mg t):bR P w K mg base Xe 10 t.xS t.yG ["row","text"] Rb:=by
 refine T.yV.ok fK (fun vs H Q E h=>?_) (fun W7 A outer s H vs Q E hr h=>?_)
 ·obtain⟨r,x,rfl,_⟩:=h;rfl
 ·obtain⟨r,x,rfl,hR,lx,q⟩:=h;refine⟨_,(aD (aM (i:=2) fK.nd rfl (Or.inl rfl) (bT iJ (nE PySem.F.plainAttrs_str PySem.F.slot_str_split PySem.F.type_str_split lU (pv 1) (aC aF aB)) bY (bZ (lV iT aG))))
   (aD (aM (i:=3) fK.nd rfl (Or.inl rfl) (aI (aY T) (hr.mono (by omega)) rfl T.bI T.bG.kp T.bH .nil pass0 (aC (pv 0) (aC aG aB))))
   (aD (aM (i:=4) fK.nd rfl (Or.inl rfl) (aI (aY T) (hr.mono (by omega)) rfl T.bI T.bG.kp T.bH .nil pass0 (aC (pv 0) (aC (aS aQ (bK bO rfl T.iK cZ (aC (pv 2) aB)) aG) aB))))
   (aD (aW (PW.pt (iG (aK bW (pv 3) aG (nomark _)) (fJ (aK (Ac 1 (Ck hr (by decide))) (pv 2) (bF aB) (nomark _))))) (aH (aN (nE PySem.F.plainAttrs_str PySem.F.slot_str_join PySem.F.type_str_join xN aF (aC (kN (cl:=[]) (fr:=[]) (N:=["line"]) rfl (fun _ _ h=>h) (eO.mM rfl rfl rfl rfl) (pX (aS aQ (aS aQ (bT iJ (pv 2) bY (bZ (pv 4))) (bF (aC (aI (zZ T) (hr.mono (by omega)) rfl T.CA T.sI.kp T.BZ .nil pass0 (aC (pv 0) aB)) aB))) (bT iJ (pv 2) (bZ (pv 4)) bY))) (fun C s H ex pn=>⟨mP,(aS aQ (pv 0) aF)⟩)) aB)))) aR)
   (aD (aM (i:=4) fK.nd rfl (Or.inl rfl) (aI (aY T) (hr.mono (by omega)) rfl T.bI T.bG.kp T.bH .nil pass0 (aC (pv 0) (aC (bK bO rfl T.iK cZ (aC (pv 2) aB)) aB))))
   (aD (aM (i:=5) fK.nd rfl (Or.inl rfl) (aI (aY T) (hr.mono (by omega)) rfl T.bI T.bG.kp T.bH .nil pass0 (aC (pv 0) (aC (bK bO rfl T.iK cZ (aC (pv 2) aB)) aB))))
   (aD (aW (aK bW (pv 3) aG (nomark _)) (aH (aM (i:=2) fK.nd rfl (Or.inl rfl) (aS aQ (bT iJ (pv 2) bY (bZ (pv 4))) (bT iJ (pv 2) (bZ (aS aQ (pv 4) aG)) bY)))) (aH (aW (aK bW (pv 3) aG (nomark _)) (aH (fV (bA (aC (aX bM (pv 2) (pv 5) (fun _ _=>rfl)) (aC (aX bM (pv 2) (pv 4) (fun _ _=>rfl)) aB))) (JY rfl (tI (fU (pv 2) (pv 4) jI) (tI (fU (pv 2) (pv 5) jI) Gi))))) (aH (aW (aK bW (pv 3) aG (nomark _)) (aH (aM (i:=2) fK.nd rfl (Or.inl rfl) (aS aQ (aS aQ (bT iJ (pv 2) bY (bZ (pv 4))) (bF (aC (aX bM (pv 2) (pv 5) (fun _ _=>rfl)) aB))) (bT iJ (pv 2) (bZ (pv 4)) bY)))) (aH (aW (aK bW (pv 3) aG (nomark _)) (aH (aN (aS aQ (bT iJ (pv 1) bY (bZ (lV iT aG))) (aX bM (bF (aC aF (aC aF (aC aF (aC aF (aC aF aB)))))) (aI (aY T) (hr.mono (by omega)) rfl T.bI T.bG.kp T.bH .nil pass0 (aC (pv 0) (aC aG aB))) (fun _ _=>rfl))))) (aH (fV (aI (zY T) (hr.mono (by omega)) rfl T.Cz T.sH.kp T.BY .nil pass0 (aC (pv 0) (aC (aX bM (pv 2) (pv 4) (fun _ _=>rfl)) aB))) (fU (pv 2) (pv 4) jI))))))))))
   (aH (aN (nE PySem.F.plainAttrs_str PySem.F.slot_str_join PySem.F.type_str_join xN aF (aC (kN (cl:=[]) (fr:=[]) (N:=["line"]) rfl (fun _ _ h=>h) (eO.mM rfl rfl rfl rfl) (pX (pv 2)) (fun C s H ex pn=>⟨mP,(aS aQ (pv 0) aF)⟩)) aB))))))))))),?_⟩
  and_intros
  refine aU fun XF Xa=>?_;wp_walk;refine⟨by decide +kernel,by omega,fun l0 h0=>?_⟩;obtain⟨ws,last,hs⟩:∃ rows last,Txt.split x "\n"=rows++[last]:=⟨_,_,(List.dropLast_concat_getLast (fN x "\n")).symm⟩;have tw:=pY 10 x;rw[<- eP.1,hs,dC,dF] at tw;rw[hs];have M0:=q0D (o:=.lst ((ws++[last]).map V.str)) h0;have e0:WZ H l0 (.lst ((ws++[last]).map V.str)) l0=some (.lst ((ws++[last]).map V.str)):=aE;generalize WZ H l0 (.lst ((ws++[last]).map V.str))=G0 at *;wp_walk using e0;refine fun wl X2=>?_;rw[uF V.str ws last];have N1:=M0.trans (q0D (o:=.lst (ws.map V.str)) X2);have e1:WZ G0 wl (.lst (ws.map V.str)) wl=some (.lst (ws.map V.str)):=aE;have nwH:H wl=none:=by
   cases hz:H wl with
   | none=>rfl
   | some o=>rw[M0.at hz] at X2;cases X2
  have X0:wl≠r:=hR.none nwH;replace hR:=hR.kp N1;replace N1:Kp [r] H _:=N1.mono (by simp);generalize WZ G0 wl (.lst (ws.map V.str))=G1 at *;have lw:=pM ws;clear M0 e0 h0 X2 hs;refine Xa _ _ ?_;clear Xa;refine aU fun YX Xu=>?_;wp_walk;refine⟨hR,fun kd G2 a2 b2 R2 K2=>?_⟩;replace e1:=K2.at1 e1 X0;replace N1:=N1.trans K2;clear hR K2;refine Xu _ _ ?_;clear Xu;refine aU fun R_3 XI=>?_;wp_walk using e1,List.length_map;refine⟨by omega,p45 (by omega),R2,fun at_ G3 a3 b3 R3 K3=>?_⟩;replace e1:=K3.at1 e1 X0;replace N1:=N1.trans K3;clear R2 K3;refine XI _ _ ?_;clear XI;refine aU fun R_4 Yh=>?_
  suffices go:∀(G:Hp),G wl=some (.lst (ws.map V.str))->ws≠[]->bQ G r->Kp [r] H G->R_4 [some (.ref r),some (.str x),some (.ref wl),some (.int kd),some (.int at_),none] G by
   wp_walk using e1;by_cases c0:kd=0
   ·wp_walk using eq_true c0;refine fun p1 h1=>?_;obtain⟨Xc,XH,Xy,lu1⟩:=vW ws (k:=at_) (by omega);rw[XH];have M1:=q0D (o:=.lst (Xc.map V.str)) h1;have f1:WZ G3 p1 (.lst (Xc.map V.str)) p1=some (.lst (Xc.map V.str)):=aE;replace e1:=M1.at e1;replace R3:=R3.kp M1;replace N1:=N1.trans (M1.mono (T:=[r]) (by simp));generalize WZ G3 p1 (.lst (Xc.map V.str))=GS1 at *;clear M1 XH;wp_walk using e1;refine⟨r,rfl,R3,fun y2 G7 ZM R7 K7 p2 h2=>?_⟩;have ZN:p1≠r:=fun z=>by rw[z] at f1;exact absurd f1 (tM R3 Xc)
    replace e1:=K7.at1 e1 X0;replace f1:=K7.at1 f1 ZN;replace N1:=N1.trans K7;clear R3;have R3:=R7;clear R7 K7;have M2:=q0D (o:=.lst [.str y2]) h2;refine qA (vs:=[y2]) (M2.at f1) rfl (by simp only[List.length_cons,List.length_nil];have:=cX Xy;omega) fun p3 X7 f3 N3=>?_;replace N3:=M2.trans N3;replace e1:=N3.at e1;replace R3:=R3.kp N3;replace N1:=N1.trans (N3.mono (T:=[r]) (by simp));clear M2 N3 h2;wp_walk using e1;refine fun p4 h4=>?_;obtain⟨Xm,Yg,Yn,lu4⟩:=vV ws (k:=at_) (by omega);rw[Yg];have M4:=q0D (o:=.lst (Xm.map V.str)) h4;have f4:WZ X7 p4 (.lst (Xm.map V.str)) p4=some (.lst (Xm.map V.str)):=aE;replace e1:=M4.at e1;replace R3:=R3.kp M4;replace N1:=N1.trans (M4.mono (T:=[r]) (by simp));replace f3:=M4.at f3;generalize WZ X7 p4 (.lst (Xm.map V.str))=GS4 at *;clear M4 Yg;wp_walk using e1;refine qA f3 rfl (by (try simp only[List.length_append,List.length_cons,List.length_nil]);have:=cX Xy;have:=cX Yn;omega) fun q5 HC5 f5 N5=>?_
    have l5:((Xc++[y2])++Xm).length<=700000:=by simp only[List.length_append,List.length_cons,List.length_nil];omega
    have t5:tot ((Xc++[y2])++Xm)<=4 * (x.length+1)+60:=by rw[dC,dC,dF];have:=dU Xy;have:=dU Yn;omega
    replace R3:=R3.kp N5;replace N1:=N1.trans (N5.mono (T:=[r]) (by simp));generalize (Xc++[y2])++Xm=us at *;wp_walk;refine⟨⟨_,dZ.of f5⟩,?_⟩;refine xJ (ys:=(us).map V.str) (fun j xs G'=>xs=(((us).take j).map fun r:Str=>r++"\n").map V.str/\Kp [] HC5 G') ⟨rfl,Kp.refl⟩ ?_ ?_ ?_ ?_
    ·rintro j xs G' ⟨rfl,_⟩;simp only[List.length_map,List.length_take];omega
    ·rintro j xs G' ⟨_,k⟩;exact dZ.of (k.at f5)
    ·rintro j y xs G' _ hj ⟨rfl,k⟩;obtain⟨z,hz,rfl⟩:∃ z,(us)[j]?=some z/\V.str z=y:=by
      rw[List.getElem?_map] at hj;exact Option.map_eq_some_iff.mp hj
     have e5:=jU hz;have lz:=gH (List.mem_of_getElem? hz);have ln:=kZ.1;wp_walk using bP,Option.join_some;refine⟨by omega,?_,k⟩;rw[e5];simp
    ·rintro xs G' ⟨rfl,k⟩ l2 XM;simp only[List.length_map,List.take_length];wp_walk;refine⟨by rw[lsum,kZ.2];omega,?_⟩;have ls:=pN (us);exact q _ _ (by omega) ((R3).kp (k.trans (q0D XM))) ((N1).trans ((k.trans (q0D XM)).mono (by simp)))
   ·wp_walk using c0;refine fun p0 h0=>⟨_,Em ((q0D h0).at e1) aE,?_⟩;have M0:=q0D (o:=.lst []) h0;replace e1:=M0.at e1;replace R3:=R3.kp M0;replace N1:=N1.trans (M0.mono (T:=[r]) (by simp));generalize WZ G3 p0 (.lst [])=G4 at *;clear M0 h0;rw[List.isEmpty_map];cases hz:ws.isEmpty with
    | false =>
     wp_walk;exact go G4 e1 (fun z=>by rw[z] at hz;cases hz) R3 N1
    | true =>
     wp_walk using e1;refine fun p1 h1=>?_;obtain⟨Xc,XH,Xy,lu1⟩:=vW ws (k:=at_) (by omega);rw[XH];have M1:=q0D (o:=.lst (Xc.map V.str)) h1;have f1:WZ G4 p1 (.lst (Xc.map V.str)) p1=some (.lst (Xc.map V.str)):=aE;replace e1:=M1.at e1;replace R3:=R3.kp M1;replace N1:=N1.trans (M1.mono (T:=[r]) (by simp));generalize WZ G4 p1 (.lst (Xc.map V.str))=GS1 at *;clear M1 XH;wp_walk using e1;refine⟨r,rfl,R3,fun y2 G7 ZM R7 K7 p2 h2=>?_⟩;have ZN:p1≠r:=fun z=>by rw[z] at f1;exact absurd f1 (tM R3 Xc)
     replace e1:=K7.at1 e1 X0;replace f1:=K7.at1 f1 ZN;replace N1:=N1.trans K7;clear R3;have R3:=R7;clear R7 K7;have M2:=q0D (o:=.lst [.str y2]) h2;refine qA (vs:=[y2]) (M2.at f1) rfl (by simp only[List.length_cons,List.length_nil];have:=cX Xy;omega) fun p3 X7 f3 N3=>?_;replace N3:=M2.trans N3;replace e1:=N3.at e1;replace R3:=R3.kp N3;replace N1:=N1.trans (N3.mono (T:=[r]) (by simp));clear M2 N3 h2;wp_walk using e1;refine fun p4 h4=>?_;obtain⟨Xm,Yg,Yn,lu4⟩:=vV ws (k:=at_) (by omega);rw[Yg];have M4:=q0D (o:=.lst (Xm.map V.str)) h4;have f4:WZ X7 p4 (.lst (Xm.map V.str)) p4=some (.lst (Xm.map V.str)):=aE;replace e1:=M4.at e1;replace R3:=R3.kp M4;replace N1:=N1.trans (M4.mono (T:=[r]) (by simp));replace f3:=M4.at f3;generalize WZ X7 p4 (.lst (Xm.map V.str))=GS4 at *;clear M4 Yg;wp_walk using e1;refine qA f3 rfl (by (try simp only[List.length_append,List.length_cons,List.length_nil]);have:=cX Xy;have:=cX Yn;omega) fun q5 HC5 f5 N5=>?_
     have l5:((Xc++[y2])++Xm).length<=700000:=by simp only[List.length_append,List.length_cons,List.length_nil];omega
     have t5:tot ((Xc++[y2])++Xm)<=4 * (x.length+1)+60:=by rw[dC,dC,dF];have:=dU Xy;have:=dU Yn;omega
     replace R3:=R3.kp N5;replace N1:=N1.trans (N5.mono (T:=[r]) (by simp));generalize (Xc++[y2])++Xm=us at *;wp_walk;refine⟨⟨_,dZ.of f5⟩,?_⟩;refine xJ (ys:=(us).map V.str) (fun j xs G'=>xs=(((us).take j).map fun r:Str=>r++"\n").map V.str/\Kp [] HC5 G') ⟨rfl,Kp.refl⟩ ?_ ?_ ?_ ?_
     ·rintro j xs G' ⟨rfl,_⟩;simp only[List.length_map,List.length_take];omega
     ·rintro j xs G' ⟨_,k⟩;exact dZ.of (k.at f5)
     ·rintro j y xs G' _ hj ⟨rfl,k⟩;obtain⟨z,hz,rfl⟩:∃ z,(us)[j]?=some z/\V.str z=y:=by
       rw[List.getElem?_map] at hj;exact Option.map_eq_some_iff.mp hj
      have e5:=jU hz;have lz:=gH (List.mem_of_getElem? hz);have ln:=kZ.1;wp_walk using bP,Option.join_some;refine⟨by omega,?_,k⟩;rw[e5];simp
     ·rintro xs G' ⟨rfl,k⟩ l2 XM;simp only[List.length_map,List.take_length];wp_walk;refine⟨by rw[lsum,kZ.2];omega,?_⟩;have ls:=pN (us);exact q _ _ (by omega) ((R3).kp (k.trans (q0D XM))) ((N1).trans ((k.trans (q0D XM)).mono (by simp)))
  intro G4 e4 nw R4 K4;clear e1 R3 N1;have lp:=List.length_pos_iff.mpr nw;refine Yh _ _ ?_;clear Yh;refine aU fun R_5 YD=>?_;wp_walk using e4,List.length_map;refine⟨by omega,by omega,R4,fun at2 G5 a5 b5 R5 K5=>?_⟩;replace e4:=K5.at1 e4 X0;replace K4:=K4.trans K5;clear R4 K5;refine YD _ _ ?_;clear YD;refine aU fun R_6 YE=>?_;wp_walk using e4,List.length_map;refine⟨by omega,by omega,R5,fun ot G3 a6 b6 R3 K6=>?_⟩;have e1:=K6.at1 e4 X0;have N1:=K4.trans K6;clear R5 K6 e4 K4;refine YE _ _ ?_;clear YE;refine aU fun R_7 Y5=>?_
  suffices fin:∀(w2:Addr) (us:List Str) (G:Hp),G w2=some (.lst (us.map V.str))->tot us<=4 * (x.length+1)+60->us.length<=700000->bQ G r->Kp [r] H G->R_7 [some (.ref r),some (.str x),some (.ref w2),some (.int kd),some (.int at2),some (.int ot)] G by
   by_cases c1:kd=1
   ·wp_walk using eq_true c1,e1;refine fun p1 h1=>?_;obtain⟨Xc,XH,Xy,lu1⟩:=vW ws (k:=at2) (by omega);rw[XH];have M1:=q0D (o:=.lst (Xc.map V.str)) h1;have f1:WZ G3 p1 (.lst (Xc.map V.str)) p1=some (.lst (Xc.map V.str)):=aE;replace e1:=M1.at e1;replace R3:=R3.kp M1;replace N1:=N1.trans (M1.mono (T:=[r]) (by simp));generalize WZ G3 p1 (.lst (Xc.map V.str))=GS1 at *;clear M1 XH;wp_walk using e1;refine fun p2 h2=>?_;obtain⟨XT,eu2,su2,lu2⟩:=vV ws (k:=(at2+1)) (by omega);rw[eu2];have M2:=q0D (o:=.lst (XT.map V.str)) h2;have f2:WZ GS1 p2 (.lst (XT.map V.str)) p2=some (.lst (XT.map V.str)):=aE;replace e1:=M2.at e1;replace R3:=R3.kp M2;replace N1:=N1.trans (M2.mono (T:=[r]) (by simp));replace f1:=M2.at f1;generalize WZ GS1 p2 (.lst (XT.map V.str))=GS2 at *;clear M2 eu2;wp_walk using e1;refine qA f1 rfl (by (try simp only[List.length_append,List.length_cons,List.length_nil]);have:=cX Xy;have:=cX su2;omega) fun q3 X7 f3 N3=>?_
    exact fin q3 (Xc++XT) _ f3 (by rw[dC];have:=dU Xy;have:=dU su2;omega) (by simp only[List.length_append];omega) (R3.kp N3) (N1.trans (N3.mono (by simp)))
   by_cases c2:kd=2
   ·wp_walk using c1,eq_true c2,e1;refine dN a6 (by rw[List.length_map];exact b6) fun v hv=>?_;obtain⟨y1,hy1,rfl⟩:=List.mem_map.mp hv;have ly1:=gH hy1;wp_walk using e1;refine dN a5 (by rw[List.length_map];exact b5) fun v2 YU=>?_;obtain⟨y2,hy2,rfl⟩:=List.mem_map.mp YU;have ZM:=gH hy2;wp_walk;refine fun p0 h0=>⟨_,hJ.of aE,rfl,?_⟩;have M0:=q0D (o:=.tup [.str y1,.str y2]) h0;replace e1:=M0.at e1;replace R3:=R3.kp M0;replace N1:=N1.trans (M0.mono (T:=[r]) (by simp));generalize WZ G3 p0 (.tup [.str y1,.str y2])=G4 at *;clear M0 h0;obtain⟨j,hj,_⟩:=oF (xs:=ws.map V.str) a5 (by rw[List.length_map];exact b5);obtain⟨i,hi,_⟩:=oF (xs:=(ws.set j y1).map V.str) a6 (by rw[List.length_map,List.length_set];exact b6);wp_walk using e1,hj;rw[<- List.map_set,hi];wp_walk;have K8:=(Kp.lI (a:=wl) (H:=G4) (o:=.lst ((ws.set j y1).map V.str))).trans (Kp.lI (a:=wl) (o:=.lst (((ws.set j y1).map V.str).set i (.str y2))));have T:=pZ y1 ws j;have T2:=pZ y2 (ws.set j y1) i;have R7:=R3.kp K8 (by simpa using X0.symm);exact fin wl ((ws.set j y1).set i y2) _ (by rw[<- List.map_set];exact aE) (by omega) (by rw[List.length_set,List.length_set];omega) R7 (Cr N1 K8 nwH)
   by_cases c3:kd=3
   ·wp_walk using c1,c2,eq_true c3,e1;refine fun p1 h1=>?_;obtain⟨Xc,XH,Xy,lu1⟩:=vW ws (k:=at2) (by omega);rw[XH];have M1:=q0D (o:=.lst (Xc.map V.str)) h1;have f1:WZ G3 p1 (.lst (Xc.map V.str)) p1=some (.lst (Xc.map V.str)):=aE;replace e1:=M1.at e1;replace R3:=R3.kp M1;replace N1:=N1.trans (M1.mono (T:=[r]) (by simp));generalize WZ G3 p1 (.lst (Xc.map V.str))=GS1 at *;clear M1 XH;wp_walk using e1;wp_walk using e1;refine dN a6 (by rw[List.length_map];exact b6) fun v hv=>?_;obtain⟨y2,hy2,rfl⟩:=List.mem_map.mp hv;have ZM:=gH hy2;wp_walk;refine fun p2 h2=>?_;have M2:=q0D (o:=.lst [.str y2]) h2;refine qA (vs:=[y2]) (M2.at f1) rfl (by simp only[List.length_cons,List.length_nil];have:=cX Xy;omega) fun p3 X7 f3 N3=>?_;replace N3:=M2.trans N3;replace e1:=N3.at e1;replace R3:=R3.kp N3;replace N1:=N1.trans (N3.mono (T:=[r]) (by simp));clear M2 N3 h2;wp_walk using e1;refine fun p4 h4=>?_;obtain⟨Xm,Yg,Yn,lu4⟩:=vV ws (k:=at2) (by omega);rw[Yg];have M4:=q0D (o:=.lst (Xm.map V.str)) h4;have f4:WZ X7 p4 (.lst (Xm.map V.str)) p4=some (.lst (Xm.map V.str)):=aE;replace e1:=M4.at e1;replace R3:=R3.kp M4;replace N1:=N1.trans (M4.mono (T:=[r]) (by simp));replace f3:=M4.at f3;generalize WZ X7 p4 (.lst (Xm.map V.str))=GS4 at *;clear M4 Yg;wp_walk using e1;refine qA f3 rfl (by (try simp only[List.length_append,List.length_cons,List.length_nil]);have:=cX Xy;have:=cX Yn;omega) fun q5 HC5 f5 N5=>?_
    exact fin q5 ((Xc++[y2])++Xm) _ f5 (by rw[dC,dC,dF];have:=dU Xy;have:=dU Yn;omega) (by simp only[List.length_append,List.length_cons,List.length_nil];omega) (R3.kp N5) (N1.trans (N5.mono (by simp)))
   by_cases c4:kd=4
   ·wp_walk using c1,c2,c3,eq_true c4,e1;refine⟨by omega,fun p5 h5=>⟨R3.new h5,fun g G6 a7 b7 R6 K6=>?_⟩⟩;wp_walk using K6.made R3 h5;refine dN a7 b7 fun v hv=>?_;obtain⟨y2,rfl,ZM⟩:=vO five40 hv;have s1:=Txt.slice_le x none (some (-1));have ls:=bE (Txt.slice x none (some (-1))) y2;wp_walk;exact⟨by omega,q _ _ (by omega) R6 ((N1.trans (Kp.new h5)).trans K6)⟩
   ·wp_walk using c1,c2,c3,c4,e1;refine dN a5 (by rw[List.length_map];exact b5) fun v hv=>?_;obtain⟨y1,hy1,rfl⟩:=List.mem_map.mp hv;have ly1:=gH hy1;wp_walk;refine⟨r,y1,rfl,R3,by omega,fun y2 G6 ZM R6 K6=>?_⟩;replace e1:=K6.at1 e1 X0;replace N1:=N1.trans K6;wp_walk using e1;obtain⟨j,hj,_⟩:=oF (xs:=ws.map V.str) a5 (by rw[List.length_map];exact b5);rw[hj];wp_walk;have K7:=Kp.lI (a:=wl) (H:=G6) (o:=.lst ((ws.map V.str).set j (.str y2)));have T:=pZ y2 ws j;have R7:bQ (WZ G6 wl (.lst ((ws.map V.str).set j (.str y2)))) r:=R6.kp K7 (by simpa using X0.symm);exact fin wl (ws.set j y2) _ (by rw[<- List.map_set];exact aE) (by omega) (by rw[List.length_set];omega) R7 (Cr N1 K7 nwH)
  intro w2 us G e9 t9 l5 R9 K9;clear e1 R3 N1;refine Y5 _ _ ?_;clear Y5;wp_walk using e9;refine⟨⟨_,dZ.of e9⟩,?_⟩;refine xJ (ys:=(us).map V.str) (fun j xs G'=>xs=(((us).take j).map fun r:Str=>r++"\n").map V.str/\Kp [] G G') ⟨rfl,Kp.refl⟩ ?_ ?_ ?_ ?_
  ·rintro j xs G' ⟨rfl,_⟩;simp only[List.length_map,List.length_take];omega
  ·rintro j xs G' ⟨_,k⟩;exact dZ.of (k.at e9)
  ·rintro j y xs G' _ hj ⟨rfl,k⟩;obtain⟨z,hz,rfl⟩:∃ z,(us)[j]?=some z/\V.str z=y:=by
    rw[List.getElem?_map] at hj;exact Option.map_eq_some_iff.mp hj
   have e5:=jU hz;have lz:=gH (List.mem_of_getElem? hz);have ln:=kZ.1;wp_walk using bP,Option.join_some;refine⟨by omega,?_,k⟩;rw[e5];simp
  ·rintro xs G' ⟨rfl,k⟩ l2 XM;simp only[List.length_map,List.take_length];wp_walk;refine⟨by rw[lsum,kZ.2];omega,?_⟩;have ls:=pN (us);exact q _ _ (by omega) ((R9).kp (k.trans (q0D XM))) ((K9).trans ((k.trans (q0D XM)).mono (by simp)))
theorem Ex{t:Ad}(T:Tx K mg t){n d:Nat}(hn:3<=n)(IH:bR P w K mg base Xe n t.lK t.lP ["saying"] (C1 d)):bR P w K mg base Xe (n+1) t.lK t.lP ["saying"] (C1 (d+1)):=by
  refine T.fP.ok wJ (fun vs H Q E h=>?_) (fun W7 A outer s H vs Q E hr h=>?_)
  · obtain⟨v,s,rfl,_⟩:=h;rfl
  · obtain⟨v,s,rfl,hS,hd,h6,hs,q⟩:=h;refine⟨_,(aD (aW (aK iQ (aX bM (pv 0) aG (fun _ _=>rfl)) (bA (aC aF (aC aF aB))) (by with_unfolding_all rfl)) (aH (aN (bU uE rfl T.HN B4 (aC (aX bM (pv 0) aG (fun _ _=>rfl)) aB)))) aR)
      (aD (aW (aK bW (bK bO rfl T.iK cZ (aC (pv 0) aB)) aG (nomark _)) (aH (aN (aX bM (pv 0) aG (fun _ _=>rfl)))) aR)
      (aD (aW (aK bW (bK bO rfl T.iK cZ (aC (pv 0) aB)) aG (nomark _)) (aH (aN (aS aQ (aS aQ (aX bM (pv 0) aG (fun _ _=>rfl)) aF) (aI IH (hr.mono (by omega)) rfl T.gT T.fP.kp T.gQ .nil pass0 (aC (aX bM (pv 0) aG (fun _ _=>rfl)) aB))))) aR)
      (aD (aM (i:=1) wJ.nd rfl (Or.inl rfl) (aI IH (hr.mono (by omega)) rfl T.gT T.fP.kp T.gQ .nil pass0 (aC (aX bM (pv 0) aG (fun _ _=>rfl)) aB)))
      (aH (aN (aS aQ (aS aQ (aS aQ (aS aQ (aS aQ (aS aQ aF (pv 1)) aF) (aX bM (pv 0) aG (fun _ _=>rfl))) aF) (aI IH (hr.mono (by omega)) rfl T.gT T.fP.kp T.gQ .nil pass0 (aC (aX bM (pv 0) aG (fun _ _=>rfl)) aB))) aF))))))),?_⟩
    and_intros
    obtain⟨_,_,_,la,ln,lo,l1,lc⟩:=lens;cases hS with
    | num e =>
      wp_walk using e;refine fun p hp=>⟨rfl,flat2,?_⟩;have KG:=q0D (o:=.tup [.str "number",.str "name"]) hp;have e1:=KG.at e;generalize WZ H p (.tup [.str "number",.str "name"])=G at *;wp_walk using e1,jM,String.reduceEq,decide_true,decide_false,Bool.or_false,Bool.true_or,Bool.or_true;exact⟨ilog hs.1.1 hs.1.2,q _ KG⟩
    | W3 e =>
      wp_walk using e;refine fun p hp=>⟨rfl,flat2,?_⟩;have KG:=q0D (o:=.tup [.str "number",.str "name"]) hp;have e1:=KG.at e;generalize WZ H p (.tup [.str "number",.str "name"])=G at *;wp_walk using e1,jM,String.reduceEq,decide_true,decide_false,Bool.or_false,Bool.true_or,Bool.or_true;exact q _ KG
    | name e =>
      wp_walk using e;refine fun p hp=>⟨rfl,flat2,?_⟩;have KG:=q0D (o:=.tup [.str "number",.str "name"]) hp;have e1:=KG.at e;generalize WZ H p (.tup [.str "number",.str "name"])=G at *;wp_walk using e1,jM,String.reduceEq,decide_true,decide_false,Bool.or_false,Bool.true_or,Bool.or_true;exact q _ KG
    | arg e =>
      wp_walk using e;refine fun p hp=>⟨rfl,flat2,?_⟩;have KG:=q0D (o:=.tup [.str "number",.str "name"]) hp;have e1:=KG.at e;generalize WZ H p (.tup [.str "number",.str "name"])=G at *;wp_walk using e1,jM,String.reduceEq,decide_true,decide_false,Bool.or_false,Bool.true_or,Bool.or_true;exact q _ KG
    | now e =>
      wp_walk using e;refine fun p hp=>⟨rfl,flat2,?_⟩;have KG:=q0D (o:=.tup [.str "number",.str "name"]) hp;have e1:=KG.at e;generalize WZ H p (.tup [.str "number",.str "name"])=G at *;wp_walk using e1,jM,String.reduceEq,decide_true,decide_false,Bool.or_false,Bool.true_or,Bool.or_true;exact q _ KG
    | @Xz a v s1 e h1 =>
      wp_walk using e;refine fun p hp=>⟨rfl,flat2,?_⟩;have KG:=q0D (o:=.tup [.str "number",.str "name"]) hp;have e1:=KG.at e;generalize WZ H p (.tup [.str "number",.str "name"])=G at *;wp_walk using e1,jM,String.reduceEq,decide_true,decide_false,Bool.or_false,Bool.true_or,Bool.or_true;simp only[Say.depth] at hd h6;have Zf:s1.sh:=⟨hs.1,hs.2⟩;have l2:=gD Zf (by omega);refine⟨by omega,v,s1,rfl,h1.kp (aJ.nil KG),by omega,by omega,Zf,fun H2 K2=>?_⟩;wp_walk using bE;exact⟨by omega,q _ (KG.trans K2)⟩
    | @neg a v s1 e h1 =>
      wp_walk using e;refine fun p hp=>⟨rfl,flat2,?_⟩;have KG:=q0D (o:=.tup [.str "number",.str "name"]) hp;have e1:=KG.at e;generalize WZ H p (.tup [.str "number",.str "name"])=G at *;wp_walk using e1,jM,String.reduceEq,decide_true,decide_false,Bool.or_false,Bool.true_or,Bool.or_true;simp only[Say.depth] at hd h6;have Zf:s1.sh:=⟨hs.1,hs.2⟩;have l2:=gD Zf (by omega);refine⟨by omega,v,s1,rfl,h1.kp (aJ.nil KG),by omega,by omega,Zf,fun H2 K2=>?_⟩;wp_walk using bE;exact⟨by omega,q _ (KG.trans K2)⟩
    | @two a v u g s1 s2 e h1 h2 =>
      simp only[Say.depth] at hd h6;have Zf:s1.sh:=⟨hs.1.1,fun x hx=>hs.2 x (List.mem_append_left _ hx)⟩;have Yk:s2.sh:=⟨hs.1.2,fun x hx=>hs.2 x (List.mem_append_right _ hx)⟩;have l2:=gD Zf (by omega);have l3:=gD Yk (by omega);have lg:=g.len;cases g <;>
      ( simp only[Sg.s] at e lg
        wp_walk using e;refine fun p hp=>⟨rfl,flat2,?_⟩;have KG:=q0D (o:=.tup [.str "number",.str "name"]) hp;have e1:=KG.at e;generalize WZ H p (.tup [.str "number",.str "name"])=G at *;wp_walk using e1,jM,String.reduceEq,decide_true,decide_false,Bool.or_false,Bool.true_or,Bool.or_true;refine⟨v,s1,rfl,h1.kp (aJ.nil KG),by omega,by omega,Zf,fun H2 K2=>?_⟩;have e2:=K2.at e1;wp_walk using e2,bE;refine⟨by omega,by omega,by omega,by omega,u,s2,rfl,(h2.kp (aJ.nil KG)).kp (aJ.nil K2),by omega,by omega,Yk,fun H3 K3=>?_⟩;wp_walk using e2,bE;exact⟨by omega,by omega,q _ ((KG.trans K2).trans K3)⟩)
theorem iZ{t:Ad}(T:Tx K mg t):∀ d,bR P w K mg base Xe (d+3) t.lK t.lP ["saying"] (C1 d):=by
 intro d
 induction d with
 | zero=>exact⟨fun _ _ _ _ x=>by (obtain⟨_,s,_,_,h,_⟩:=x;exact absurd h (by have:=s.Bq;omega)),fun _ _ _ _ _ _ _ _ _ _ _ _ _ x=>by (obtain⟨_,s,_,_,h,_⟩:=x;exact absurd h (by have:=s.Bq;omega))⟩
 | succ d ih=>exact Ex T (by omega) ih
theorem E9{t:Ad}(T:Tx K mg t):bR P w K mg base Xe 10 t.xU t.yI ["one"] Rc:=by
 refine T.DH.ok fL (fun vs H Q E h=>?_) (fun W7 A outer s H vs Q E hr h=>?_)
 ·obtain⟨v,m,rfl,_⟩:=h;rfl
 ·obtain⟨v,m,rfl,hM,hm,q⟩:=h;refine⟨_,(aD (aM (i:=1) fL.nd rfl (Or.inl rfl) (aX bM (pv 0) aG (fun _ _=>rfl)))
   (aD (aW (aK iQ (pv 1) (bA (aC aF (aC aF (aC aF (aC aF aB))))) (by with_unfolding_all rfl)) (aH (aN (aS aQ (aS aQ (pv 1) aF) (aI (iZ T 6) (hr.mono (by omega)) rfl T.gT T.fP.kp T.gQ .nil pass0 (aC (aX bM (pv 0) aG (fun _ _=>rfl)) aB))))) aR)
   (aD (aW (aK bW (pv 1) aF (nomark _)) (aH (aN (aS aQ (aS aQ (aS aQ (aS aQ (aS aQ aF (aI (iZ T 6) (hr.mono (by omega)) rfl T.gT T.fP.kp T.gQ .nil pass0 (aC (aX bM (pv 0) aG (fun _ _=>rfl)) aB))) aF) (aX bM (pv 0) aG (fun _ _=>rfl))) aF) (aI (iZ T 6) (hr.mono (by omega)) rfl T.gT T.fP.kp T.gQ .nil pass0 (aC (aX bM (pv 0) aG (fun _ _=>rfl)) aB))))) aR)
   (aD (aW (aK bW (pv 1) aF (nomark _)) (aH (aN (aS aQ (aS aQ (aX bM (pv 0) aG (fun _ _=>rfl)) aF) (aI (iZ T 6) (hr.mono (by omega)) rfl T.gT T.fP.kp T.gQ .nil pass0 (aC (aX bM (pv 0) aG (fun _ _=>rfl)) aB))))) aR)
   (aD (aM (i:=2) fL.nd rfl (Or.inl rfl) (bT iJ (pv 0) (bZ aG) bY))
   (aD (aW (aK bW (pv 1) aF (nomark _)) (aH (aM (i:=2) fL.nd rfl (Or.inl rfl) (aX bM (pv 0) aG (fun _ _=>rfl)))) aR)
   (aD (aM (i:=3) fL.nd rfl (Or.inl rfl) (aS aQ (aS aQ (aX bM (pv 0) aG (fun _ _=>rfl)) aF) (pv 1)))
   (aD (vB PassesOwn.never rfl (JZ (pv 2)) (jQ (i:=4) fL.nd rfl (Or.inl rfl)) (aH (aW (fI (bK Bp rfl T.fO fY (aC (pv 4) (aC (CQ (v:=.ty "tuple") rfl T.iU fB rfl) aB)))) (aH (aM (i:=3) fL.nd rfl (Or.inl rfl) (aS aQ (aS aQ (pv 3) aF) (aI (iZ T 6) (hr.mono (by omega)) rfl T.gT T.fP.kp T.gQ .nil pass0 (aC (pv 4) aB))))) (aH (aM (i:=3) fL.nd rfl (Or.inl rfl) (aS aQ (aS aQ (pv 3) aF) (pv 4)))))))
   (aH (aN (pv 3))))))))))),?_⟩
  and_intros
  obtain⟨_,_,_,_,_,lo,l1,lc⟩:=lens;rcases hM.four hm with hn|⟨a,wo,u,r,s1,rfl,e,h1,YK,hl,Zf,Yk,hh⟩
  rotate_left
  ·rw[hh] at q;clear hh hM hm;wp_walk using e;refine fun p hp=>⟨rfl,flat4,?_⟩;have KG:=q0D (o:=.tup [.str "if",.str "while",.str "drop",.str "end"]) hp;have e1:=KG.at e;generalize WZ H p (.tup [.str "if",.str "while",.str "drop",.str "end"])=G at *;wp_walk using e1,YK;have l2:=gD Zf Yk;refine⟨by omega,_,_,rfl,h1.kp (aJ.nil KG),Yk,Yk,Zf,fun H2 K2=>?_⟩;wp_walk using bE;exact⟨by omega,q _ (KG.trans K2)⟩
  rcases hM.lop hm with Y9|⟨a,wo,x,r,ys,rfl,e,hP0,hx,YK,ns,nt,nw,hl,hcut,hr2,h4,hh⟩
  rotate_left
  ·have leq:=hlens.2.1;rw[hh] at q;clear hh hM hm hn;wp_walk using e;refine fun p hp=>⟨rfl,flat4,?_⟩;have KG:=q0D (o:=.tup [.str "if",.str "while",.str "drop",.str "end"]) hp;have e1:=KG.at e;generalize WZ H p (.tup [.str "if",.str "while",.str "drop",.str "end"])=G at *;wp_walk using e1,YK,ns,nt;refine⟨fun h=>absurd ((HT.CV (r.length+1+1) 0 2).symm.trans h.1) (by omega),fun c hc=>?_⟩;rw[hcut];have KN:=q0D (o:=.tup r) hc;have Ys:=KG.trans KN;have e2:=KN.at e1;have eN:WZ G c (.tup r) c=some (.tup r):=aE;have kk:aJ H (WZ G c (.tup r)):=aJ.nil Ys;generalize WZ G c (.tup r)=G2 at *;have hP:dY G2 r ys:=hP0.kp kk;have eC:=eN;have n1:x.length<=20:=hx.len;wp_walk using e2,bE,nw;refine⟨by omega,by omega,?_⟩;refine⟨⟨_,hJ.of eC⟩,?_⟩;have all:=hP.all;have hl:=hP.len;have lT:((x++" = "++wo)).length<=100:=by
    simp only[bE];omega
   have tl:(ys).take (r:List V).length=ys:=by rw[<- hl,List.take_length]
   refine Ci (xs:=r) (fun i σ H'=>∃ v:Option V,σ=[some (.ref a),some (.str wo),some (.ref c),some (.str (glue (x++" = "++wo) ((ys).take i))),v]/\Kp [] G2 H') ⟨none,rfl,Kp.refl⟩ (fun i σ H' _ ⟨_,_,k⟩=>hJ.of (k.at eC)) ?_ ?_
   ·rintro i z σ H' hi ⟨v,rfl,K'⟩;obtain⟨y',hy',pt⟩:=hP.at hi;have e5:=jU hy';have l5:=zA (x++" = "++wo) ((ys).take i) fun z hz=>all z (List.mem_of_mem_take hz);have l6:=pt.len;have l7:((ys).take i).length<=4:=by rw[List.length_take];omega
    rcases pt.kp (aJ.nil K') with⟨rfl,_⟩|⟨s',Ze,h6',rfl⟩
    ·wp_walk using bE;exact⟨by omega,by omega,_,by rw[e5,pJ],K'⟩
    ·obtain⟨a',xs',rfl,e'⟩:=Ze.tup;wp_walk using e',bE;refine⟨by omega,_,s',rfl,Ze,h6'.2,h6'.2,h6'.1,fun H2 K2=>?_⟩;wp_walk using bE;exact⟨by omega,_,by rw[e5,pJ],K'.trans K2⟩
   ·rintro σ H' ⟨v,rfl,K'⟩;rw[tl];wp_walk;exact q H' (Ys.trans K')
  obtain⟨abA,leq,aa9,abB,aa8,abC,Z6,Z5,lend,abD,lif⟩:=hlens;clear aa9 abB aa8 Z6 Z5 lend abD lif;cases hM with
  | order=>exact nomatch (show true=false from Y9)
  | child=>exact nomatch (show true=false from Y9)
  | W4=>exact nomatch (show true=false from Y9)
  | W9=>exact nomatch (show true=false from Y9)
  | drop=>exact nomatch (show true=false from hn)
  | fin=>exact nomatch (show true=false from hn)
  | Xd=>exact nomatch (show true=false from hn)
  | iff=>exact nomatch (show true=false from hn)
  | @wait a p1 x vs ss e f h1 =>
   wp_walk using e;refine fun p hp=>⟨rfl,flat4,?_⟩;have KG:=q0D (o:=.tup [.str "if",.str "while",.str "drop",.str "end"]) hp;have e1:=KG.at e;generalize WZ H p (.tup [.str "if",.str "while",.str "drop",.str "end"])=G at *;wp_walk using e1,zC,String.reduceEq,decide_true,decide_false,Bool.or_false,Bool.true_or,Bool.or_true,Bool.false_or;refine⟨by decide,fun c hc=>?_⟩;rw[show kU [.str "wait",.str x,.ref p1] (some 2) none=[.ref p1] from rfl];have KN:=q0D (o:=.tup [.ref p1]) hc;have Ys:=KG.trans KN;have e2:=KN.at e1;have eN:WZ G c (.tup [.ref p1]) c=some (.tup [.ref p1]):=aE;have kk:aJ H (WZ G c (.tup [.ref p1])):=aJ.nil Ys;generalize WZ G c (.tup [.ref p1])=G2 at *;have hP:dY G2 vs (ss.map wd):=Fh (h1.kp kk) hm.2.2;have eC:=Ys.at f;have h4:(ss.map wd).length<=4:=by simpa using hm.2.1.2
   have n1:x.length<=20:=hm.1.len;wp_walk using e2,bE;refine⟨by omega,by omega,?_⟩;refine⟨⟨_,hJ.of eC⟩,?_⟩;have all:=hP.all;have hl:=hP.len;have lT:((x++" = "++"wait")).length<=100:=by
    simp only[bE];omega
   have tl:((ss.map wd)).take (vs:List V).length=(ss.map wd):=by rw[<- hl,List.take_length]
   refine Ci (xs:=vs) (fun i σ H'=>∃ v:Option V,σ=[some (.ref a),some (.str "wait"),some (.ref p1),some (.str (glue (x++" = "++"wait") (((ss.map wd)).take i))),v]/\Kp [] G2 H') ⟨none,rfl,Kp.refl⟩ (fun i σ H' _ ⟨_,_,k⟩=>hJ.of (k.at eC)) ?_ ?_
   ·rintro i z σ H' hi ⟨v,rfl,K'⟩;obtain⟨y',hy',pt⟩:=hP.at hi;have e5:=jU hy';have l5:=zA (x++" = "++"wait") (((ss.map wd)).take i) fun z hz=>all z (List.mem_of_mem_take hz);have l6:=pt.len;have l7:(((ss.map wd)).take i).length<=4:=by rw[List.length_take];omega
    rcases pt.kp (aJ.nil K') with⟨rfl,_⟩|⟨s',Ze,h6',rfl⟩
    ·wp_walk using bE;exact⟨by omega,by omega,_,by rw[e5,pJ],K'⟩
    ·obtain⟨a',xs',rfl,e'⟩:=Ze.tup;wp_walk using e',bE;refine⟨by omega,_,s',rfl,Ze,h6'.2,h6'.2,h6'.1,fun H2 K2=>?_⟩;wp_walk using bE;exact⟨by omega,_,by rw[e5,pJ],K'.trans K2⟩
   ·rintro σ H' ⟨v,rfl,K'⟩;rw[tl];wp_walk;exact q H' (Ys.trans K')
  | @set a x v s1 e h1 =>
   wp_walk using e;refine fun p hp=>⟨rfl,flat4,?_⟩;have KG:=q0D (o:=.tup [.str "if",.str "while",.str "drop",.str "end"]) hp;have e1:=KG.at e;generalize WZ H p (.tup [.str "if",.str "while",.str "drop",.str "end"])=G at *;wp_walk using e1,zC,String.reduceEq,decide_true,decide_false,Bool.or_false,Bool.true_or,Bool.or_true,Bool.false_or;have l2:=gD hm.2.1 hm.2.2;have n1:x.length<=20:=hm.1.len;refine⟨by omega,_,_,rfl,h1.kp (aJ.nil KG),hm.2.2,hm.2.2,hm.2.1,fun H2 K2=>?_⟩;wp_walk using bE;exact⟨by omega,q _ (KG.trans K2)⟩
  | @send a k v u s1 s2 e h1 h2 =>
   wp_walk using e;refine fun p hp=>⟨rfl,flat4,?_⟩;have KG:=q0D (o:=.tup [.str "if",.str "while",.str "drop",.str "end"]) hp;have e1:=KG.at e;generalize WZ H p (.tup [.str "if",.str "while",.str "drop",.str "end"])=G at *;wp_walk using e1,zC,String.reduceEq,decide_true,decide_false,Bool.or_false,Bool.true_or,Bool.or_true,Bool.false_or;have l2:=gD hm.1.1 hm.1.2;have l3:=gD hm.2.2.1 hm.2.2.2;have n1:k.length<=20:=hm.2.1.len;refine⟨_,_,rfl,h1.kp (aJ.nil KG),hm.1.2,hm.1.2,hm.1.1,fun H2 K2=>?_⟩;have e2:=K2.at e1;wp_walk using e2,bE;refine⟨by omega,by omega,by omega,by omega,_,_,rfl,(h2.kp (aJ.nil KG)).kp (aJ.nil K2),hm.2.2.2,hm.2.2.2,hm.2.2.1,fun H3 K3=>?_⟩;wp_walk using bE;exact⟨by omega,q _ ((KG.trans K2).trans K3)⟩
theorem Fq{t:Ad}(T:Tx K mg t){n d:Nat}(hn:10<=n)(IH:bR P w K mg base Xe n t.nO t.nX ["program"] (Fp d)):bR P w K mg base Xe (n+1) t.nO t.nX ["program"] (Fp (d+1)):=by
 refine T.sM.ok kC (fun vs H Q E h=>?_) (fun W7 A outer s H vs Q E hr h=>?_)
 ·obtain⟨p,us,b,rfl,_⟩:=h;rfl
 ·obtain⟨p,us,b,rfl,hp,hB,hw,hd,hz,q⟩:=h;refine⟨_,(aD (aM (i:=1) kC.nd rfl (Or.inl rfl) (bF aB))
   (aD (vB PassesOwn.never rfl (JZ (pv 0)) (jQ (i:=2) kC.nd rfl (Or.inl rfl)) (aD (eA (iF (pv 1) (aI (E9 T) (hr.mono (by omega)) rfl T.JE T.DH.kp T.HY .nil pass0 (aC (pv 2) aB))))
   (aH (aW (aK iQ (aX bM (pv 2) aG (fun _ _=>rfl)) (bA (aC aF (aC aF aB))) (by with_unfolding_all rfl)) (aD (aM (i:=1) kC.nd rfl (Or.inl rfl) (aS aQ (pv 1) (aI IH (hr.mono (by omega)) rfl T.zQ T.sM.kp T.yC .nil pass0 (aC (aX bM (pv 2) aG (fun _ _=>rfl)) aB))))
   (aD (aW (PW.pt (rM (aK bW (bK bO rfl T.iK cZ (aC (pv 2) aB)) aG (nomark _)) (mQ (aK (My (Nat.lt_of_succ_lt (TX hr))) (aX bM (pv 2) aG (fun _ _=>rfl)) (bA aB) (nomark _))))) (aH (aM (i:=1) kC.nd rfl (Or.inl rfl) (aS aQ (aS aQ (pv 1) (bF (aC aF aB))) (aI IH (hr.mono (by omega)) rfl T.zQ T.sM.kp T.yC .nil pass0 (aC (aX bM (pv 2) aG (fun _ _=>rfl)) aB))))) aR)
   (aH (eA (iF (pv 1) aF))))) aR))))
   (aH (aN (pv 1))))),?_⟩
  and_intros
  wp_walk;refine fun l0 hl0=>⟨⟨_,hJ.of ((q0D hl0).at hp)⟩,?_⟩;have hl:=hB.len;obtain⟨Pv,X1⟩:∃ Pv:Nat->St->Hp->Prop,∀ i σ G,Pv i σ G = ∃(v:Option V) (l:Addr),σ=[some (.ref p),some (.ref l),v]/\H l=none/\Kp [] H G/\G l=some (.lst ((bL (b.take i)).map V.str)):=⟨_,fun _ _ _=>rfl⟩;refine Ci (xs:=us) Pv ?_ ?_ ?_ ?_
  ·rw[X1];exact⟨none,l0,rfl,hl0,Kp.new hl0,aE⟩
  ·intro i σ G _ hG;rw[X1] at hG;obtain⟨_,_,_,_,k,_⟩:=hG;exact hJ.of (k.at hp)
  ·intro i y σ G hi hG;rw[X1] at hG;obtain⟨v,l,rfl,fl,KG,el⟩:=hG;obtain⟨m,hm,hM⟩:=hB.at hi;obtain⟨m1,m2,m3⟩:=Ul hm;have hmw:=m1 hw;have e5:=Ve hm;have back:∀(l':Addr) (w:Option V) (G':Hp),H l'=none->Kp [] H G'->G' l'=some (.lst ((bL (b.take i)++m.rows).map V.str))->Pv (i+1) [some (.ref p),some (.ref l'),w] G':=fun l' w G' h1 h2 h3=>by
    rw[X1];refine⟨_,_,rfl,h1,h2,?_⟩;rw[e5,BI,h3];simp[bL]
   clear X1;wp_walk using el;refine⟨y,m,rfl,hM.kp (aJ.nil KG),(Stm.cV hmw),fun H1 K1=>?_⟩;have el1:=K1.at el;have ll:=fR (b.take i);have lm:=m.Eo;wp_walk using el1,List.length_map;refine⟨by omega,?_⟩;have XX:Kp [] H (WZ H1 l (.lst ((bL (b.take i)).map V.str++[.str m.hd]))):=(KG.trans K1).MN fl;have Y3:WZ H1 l (.lst ((bL (b.take i)).map V.str++[.str m.hd])) l=some (.lst ((bL (b.take i)++[m.hd]).map V.str)):=by rw[aE];simp
   generalize WZ H1 l (.lst ((bL (b.take i)).map V.str++[.str m.hd]))=G1 at *;cases hM with
   | set e _ =>
    have e1:=XX.at e;wp_walk using e1;refine fun c hc=>⟨rfl,flat2,?_⟩;wp_walk using jM,String.reduceEq,decide_true,decide_false,Bool.or_false,Bool.true_or,Bool.or_true,Bool.false_or;exact back l _ _ fl (XX.trans (Kp.new hc)) ((q0D hc).at Y3)
   | order e _ =>
    have e1:=XX.at e;wp_walk using e1;refine fun c hc=>⟨rfl,flat2,?_⟩;wp_walk using jM,String.reduceEq,decide_true,decide_false,Bool.or_false,Bool.true_or,Bool.or_true,Bool.false_or;exact back l _ _ fl (XX.trans (Kp.new hc)) ((q0D hc).at Y3)
   | W4 e _ =>
    have e1:=XX.at e;wp_walk using e1;refine fun c hc=>⟨rfl,flat2,?_⟩;wp_walk using jM,String.reduceEq,decide_true,decide_false,Bool.or_false,Bool.true_or,Bool.or_true,Bool.false_or;exact back l _ _ fl (XX.trans (Kp.new hc)) ((q0D hc).at Y3)
   | child e _ =>
    have e1:=XX.at e;wp_walk using e1;refine fun c hc=>⟨rfl,flat2,?_⟩;wp_walk using jM,String.reduceEq,decide_true,decide_false,Bool.or_false,Bool.true_or,Bool.or_true,Bool.false_or;exact back l _ _ fl (XX.trans (Kp.new hc)) ((q0D hc).at Y3)
   | send e _ _ =>
    have e1:=XX.at e;wp_walk using e1;refine fun c hc=>⟨rfl,flat2,?_⟩;wp_walk using jM,String.reduceEq,decide_true,decide_false,Bool.or_false,Bool.true_or,Bool.or_true,Bool.false_or;exact back l _ _ fl (XX.trans (Kp.new hc)) ((q0D hc).at Y3)
   | drop e _ =>
    have e1:=XX.at e;wp_walk using e1;refine fun c hc=>⟨rfl,flat2,?_⟩;wp_walk using jM,String.reduceEq,decide_true,decide_false,Bool.or_false,Bool.true_or,Bool.or_true,Bool.false_or;exact back l _ _ fl (XX.trans (Kp.new hc)) ((q0D hc).at Y3)
   | wait e _ _ =>
    have e1:=XX.at e;wp_walk using e1;refine fun c hc=>⟨rfl,flat2,?_⟩;wp_walk using jM,String.reduceEq,decide_true,decide_false,Bool.or_false,Bool.true_or,Bool.or_true,Bool.false_or;exact back l _ _ fl (XX.trans (Kp.new hc)) ((q0D hc).at Y3)
   | W9 e =>
    have e1:=XX.at e;wp_walk using e1;refine fun c hc=>⟨rfl,flat2,?_⟩;wp_walk using jM,String.reduceEq,decide_true,decide_false,Bool.or_false,Bool.true_or,Bool.or_true,Bool.false_or;exact back l _ _ fl (XX.trans (Kp.new hc)) ((q0D hc).at Y3)
   | fin e _ =>
    have e1:=XX.at e;wp_walk using e1;refine fun c hc=>⟨rfl,flat2,?_⟩;wp_walk using jM,String.reduceEq,decide_true,decide_false,Bool.or_false,Bool.true_or,Bool.or_true,Bool.false_or;exact back l _ _ fl (XX.trans (Kp.new hc)) ((q0D hc).at Y3)
   | @Xd a p1 v1 s1 vs bb e h1 f hb =>
    have e1:=XX.at e;wp_walk using e1;refine fun c hc=>⟨rfl,flat2,?_⟩;have KN:=q0D (o:=.tup [.str "if",.str "while"]) hc;have Ys:=XX.trans KN;have e2:=KN.at e1;have el3:=KN.at Y3;generalize WZ G1 c (.tup [.str "if",.str "while"])=G2 at *;wp_walk using e2,jM,String.reduceEq,decide_true,decide_false,Bool.or_false,Bool.true_or,Bool.or_true,Bool.false_or;have d1:qC bb < d:=by simp only[Stm.dp] at m2;omega
    simp only[Stm.sz] at m3 lm;have z1:=fR bb;refine⟨p1,vs,bb,rfl,Ys.at f,hb.kp (aJ.nil Ys),hmw.2,d1,by omega,fun l2 H3 f3 K3 e3=>?_⟩;have el4:=K3.at el3;have e4:=K3.at e2;wp_walk using el4,e3,e4,List.length_map,List.length_append;refine⟨by omega,fun c2 ZF=>?_⟩;have fc2:=(Ys.trans K3).Dg ZF;have KN3:=q0D (o:=.lst ((bL (b.take i)++[(Stm.Xd s1 bb).hd]).map V.str++(bL bb).map V.str)) ZF;have KG3:=(Ys.trans K3).trans KN3;have e6:=KN3.at e4;have ec2:WZ H3 c2 (.lst ((bL (b.take i)++[(Stm.Xd s1 bb).hd]).map V.str++(bL bb).map V.str)) c2=some (.lst (((bL (b.take i)++[(Stm.Xd s1 bb).hd])++bL bb).map V.str)):=by rw[aE,<- List.map_append]
    generalize WZ H3 c2 (.lst ((bL (b.take i)++[(Stm.Xd s1 bb).hd]).map V.str++(bL bb).map V.str))=H5 at *;wp_walk using e6,ec2,List.length_map,List.length_append;exact⟨by omega,back c2 _ _ fc2 (KG3.MN fc2) (by rw[aE];simp[Stm.rows,Stm.hd])⟩
   | @iff a p1 q1 v1 s1 vs ws bb oo e h1 f hb f2 hb2 =>
    have e1:=XX.at e;wp_walk using e1;refine fun c hc=>⟨rfl,flat2,?_⟩;have KN:=q0D (o:=.tup [.str "if",.str "while"]) hc;have Ys:=XX.trans KN;have e2:=KN.at e1;have el3:=KN.at Y3;generalize WZ G1 c (.tup [.str "if",.str "while"])=G2 at *;wp_walk using e2,jM,String.reduceEq,decide_true,decide_false,Bool.or_false,Bool.true_or,Bool.or_true,Bool.false_or;have d1:qC bb < d:=by simp only[Stm.dp] at m2;omega
    simp only[Stm.sz] at m3 lm;have z1:=fR bb;refine⟨p1,vs,bb,rfl,Ys.at f,hb.kp (aJ.nil Ys),hmw.2.1,d1,by omega,fun l2 H3 f3 K3 e3=>?_⟩;have el4:=K3.at el3;have e4:=K3.at e2;wp_walk using el4,e3,e4,List.length_map,List.length_append;refine⟨by omega,fun c2 ZF=>?_⟩;have fc2:=(Ys.trans K3).Dg ZF;have KN3:=q0D (o:=.lst ((bL (b.take i)++[(Stm.iff s1 bb oo).hd]).map V.str++(bL bb).map V.str)) ZF;have KG3:=(Ys.trans K3).trans KN3;have e6:=KN3.at e4;have ec2:WZ H3 c2 (.lst ((bL (b.take i)++[(Stm.iff s1 bb oo).hd]).map V.str++(bL bb).map V.str)) c2=some (.lst (((bL (b.take i)++[(Stm.iff s1 bb oo).hd])++bL bb).map V.str)):=by rw[aE,<- List.map_append]
    generalize WZ H3 c2 (.lst ((bL (b.take i)++[(Stm.iff s1 bb oo).hd]).map V.str++(bL bb).map V.str))=H5 at *;wp_walk using e6,ec2,List.length_map,List.length_append;refine fun c4 hc4=>?_;have KN4:=q0D (o:=.tup []) hc4;have KG4:=KG3.trans KN4;have e7:=KN4.at e6;have ec3:=KN4.at ec2;have eq7:=KG4.at f2;have e0:WZ H5 c4 (.tup []) c4=some (.tup []):=aE;generalize WZ H5 c4 (.tup [])=H6 at *;wp_walk using e7,eq7,e0;have d2:qC oo < d:=by simp only[Stm.dp] at m2;omega
    have z2:=fR oo;cases hb2 with
    | nil =>
     wp_walk using ec3,List.isEmpty_nil,List.length_map,List.length_append;exact⟨by omega,back c2 _ _ fc2 (KG4.MN fc2) (by rw[aE];simp[Stm.rows,Stm.hd])⟩
    | @cons v5 vs5 x5 xs5 ha hbs =>
     wp_walk using ec3,List.isEmpty_cons;refine fun c5 hc5=>?_;have KN5:=q0D (o:=.lst [.str "else"]) hc5;have ec5:=KN5.at ec3;have e8:=KN5.at e7;wp_walk using ec5,e8,List.length_map,List.length_append;refine⟨by omega,fun c6 hc6=>?_⟩;have KN6:=q0D (o:=.lst (((bL (b.take i)++[(Stm.iff s1 bb (x5::xs5)).hd])++bL bb).map V.str++[.str "else"])) hc6;have KG6:=(KG4.trans KN5).trans KN6;have e9:=KN6.at e8;have ec6:WZ (WZ H6 c5 (.lst [.str "else"])) c6 (.lst (((bL (b.take i)++[(Stm.iff s1 bb (x5::xs5)).hd])++bL bb).map V.str++[.str "else"])) c6=some (.lst ((((bL (b.take i)++[(Stm.iff s1 bb (x5::xs5)).hd])++bL bb)++[("else":Str)]).map V.str)):=by rw[aE];simp
     generalize WZ (WZ H6 c5 (.lst [.str "else"])) c6 (.lst (((bL (b.take i)++[(Stm.iff s1 bb (x5::xs5)).hd])++bL bb).map V.str++[.str "else"]))=H7 at *;wp_walk using e9;refine⟨q1,_,_,rfl,KG6.at f2,(bJ.cons ha hbs).kp (aJ.nil KG6),hmw.2.2,d2,by omega,fun l7 H8 f8 K8 e10=>?_⟩;have ec7:=K8.at ec6;wp_walk using ec7,e10,List.length_map,List.length_append;refine⟨by omega,fun c9 hc9=>?_⟩;have fc9:=(KG6.trans K8).Dg hc9;wp_walk using aE,List.length_map,List.length_append;exact⟨by omega,back c9 _ _ fc9 (((KG6.trans K8).trans (Kp.new hc9)).MN fc9) (by rw[aE];simp[Stm.rows,Stm.hd])⟩
  ·intro σ G hG;rw[X1] at hG;obtain⟨v,l,rfl,fl,KG,el⟩:=hG;rw[<- hl,List.take_length] at el;wp_walk;exact q l G fl KG el
theorem Fd{t:Ad}(T:Tx K mg t):∀ d,bR P w K mg base Xe (d+10) t.nO t.nX ["program"] (Fp d):=by
 intro d
 induction d with
 | zero=>exact⟨fun _ _ _ _ x=>by (obtain⟨_,_,_,_,_,_,_,h,_⟩:=x;exact absurd h (by omega)),fun _ _ _ _ _ _ _ _ _ _ _ _ _ x=>by (obtain⟨_,_,_,_,_,_,_,h,_⟩:=x;exact absurd h (by omega))⟩
 | succ d ih=>exact Fq T (by omega) ih
theorem Fe{t:Ad}(T:Tx K mg t):bR P w K mg base Xe 18 t.x8 t.yO ["program"] MZ:=by
 refine T.DK.ok Fo (fun vs H Q E h=>?_) (fun W7 A outer s H vs Q E hr h=>?_)
 ·obtain⟨p,us,b,rfl,_⟩:=h;rfl
 ·obtain⟨p,us,b,rfl,hp,hB,hw,hd,hz,q⟩:=h;refine⟨_,(aH (aN (nE PySem.F.plainAttrs_str PySem.F.slot_str_join PySem.F.type_str_join xN aF (aC (kN (cl:=[]) (fr:=[]) (N:=["line"]) rfl (fun _ _ h=>h) (eO.mM rfl rfl rfl rfl) (pX (aI (Fd T 6) (hr.mono (by omega)) rfl T.zQ T.sM.kp T.yC .nil pass0 (aC (pv 0) aB))) (fun C s H ex pn=>⟨mP,aS aQ (pv 0) aF⟩)) aB)))),?_⟩
  and_intros
  wp_walk;refine⟨p,us,b,rfl,hp,hB,hw,by omega,by omega,fun l G fl KG el=>?_⟩;have ll:=fR b;have sm:=jA hw;wp_walk;refine⟨⟨_,dZ.of el⟩,?_⟩;refine xJ (ys:=(bL b).map V.str) (fun j xs G'=>xs=(((bL b).take j).map fun r:Str=>r++"\n").map V.str/\Kp [] G G') ⟨rfl,Kp.refl⟩ ?_ ?_ ?_ ?_
  ·rintro j xs G' ⟨rfl,_⟩;simp only[List.length_map,List.length_take];omega
  ·rintro j xs G' ⟨_,k⟩;exact dZ.of (k.at el)
  ·rintro j y xs G' _ hj ⟨rfl,k⟩;obtain⟨r,hr,rfl⟩:∃ r,(bL b)[j]?=some r/\V.str r=y:=by
    rw[List.getElem?_map] at hj;exact Option.map_eq_some_iff.mp hj
   have e5:=jU hr;have lr:=sm r (List.mem_of_getElem? hr);have ln:=kZ.1;wp_walk using bP,Option.join_some;refine⟨by omega,?_,k⟩;rw[e5];simp
  ·rintro xs G' ⟨rfl,k⟩ l2 XM;simp only[List.length_map,List.take_length];wp_walk;have sb:((((bL b).map fun r:Str=>r++"\n")).map fun z=>z.length).sum<=8001 * ((bL b).map fun r:Str=>r++"\n").length:=BP fun y hy=>by
    obtain⟨r,hr,rfl⟩:=List.mem_map.mp hy;have:=sm r hr;simp only[bE,kZ.1];omega
   simp only[List.length_map] at sb;simp only[kZ.2,List.length_map,Nat.mul_zero,Nat.add_zero];exact⟨by omega,q _ ((KG.trans k).trans (Kp.new XM))⟩
theorem E8{t:Ad}(T:Tx K mg t):bR P w K mg base Xe 1 t.xT t.yH ["frame"] MV:=by
 refine T.DF.ok Fn (fun vs H Q E h=>?_) (fun W7 A outer s H vs Q E hr h=>?_)
 ·obtain⟨f,a,la,lb,kw,v1,us,bs,rfl,_⟩:=h;rfl
 ·obtain⟨⟨kd,acc⟩,a,la,lb,kw,v1,us,bs,rfl,F,qN,q⟩:=h;refine⟨_,(aD (aW (aK bW (aX bM (pv 0) aG (fun _ _=>rfl)) aF (nomark _)) (aH (aN (bA (aC aF (aC (aX bM (pv 0) aG (fun _ _=>rfl)) (aC (bU eX rfl T.iU fB (aC (aX bM (pv 0) aG (fun _ _=>rfl)) aB)) aB)))))) aR)
   (aD (aW (aK bW (aX bM (pv 0) aG (fun _ _=>rfl)) aF (nomark _)) (aH (aN (bA (aC aF (aC (aX bM (pv 0) aG (fun _ _=>rfl)) (aC (bU eX rfl T.iU fB (aC (aX bM (pv 0) aG (fun _ _=>rfl)) aB)) (aC (bA aB) aB))))))) aR)
   (aD (aW (PW.pt (rM (aK bW (aX bM (pv 0) aG (fun _ _=>rfl)) aF (nomark _)) (mQ (aK (CL 1 (Ck hr (by decide))) (aX bM (pv 0) aG (fun _ _=>rfl)) (bF aB) (nomark _))))) (aH (aN (bA (aC aF (aC (aX bM (pv 0) aG (fun _ _=>rfl)) (aC (bU eX rfl T.iU fB (aC (aX bM (pv 0) aG (fun _ _=>rfl)) aB)) (aC (bU eX rfl T.iU fB (aC (aX bM (pv 0) aG (fun _ _=>rfl)) aB)) aB))))))) aR)
   (aH (aN dM))))),?_⟩
  and_intros
  have F1:=F.k;cases kd with
  | bot =>
   have ek:kw = "":=F1;subst ek;wp_walk using F.e;exact qN rfl _ Kp.refl
  | Xd s =>
   obtain⟨rfl,hs⟩:=F1;wp_walk using F.e,F.u;exact fun p hp p2 Xi=>q _ rfl _ _ (.Xd aE ((hs.kp (aJ.new hp)).kp (aJ.new Xi)) ((q0D Xi).at aE) ((F.s.kp (aJ.new hp)).kp (aJ.new Xi))) ((Kp.new hp).trans (Kp.new Xi))
  | ifk s =>
   obtain⟨rfl,hs⟩:=F1;wp_walk using F.e,F.u;exact fun p hp p2 Xi p3 Yu=>q _ rfl _ _ (.iff aE (((hs.kp (aJ.new hp)).kp (aJ.new Xi)).kp (aJ.new Yu)) ((q0D Yu).at ((q0D Xi).at aE)) (((F.s.kp (aJ.new hp)).kp (aJ.new Xi)).kp (aJ.new Yu)) ((q0D Yu).at aE) .nil) (((Kp.new hp).trans (Kp.new Xi)).trans (Kp.new Yu))
  | els s b =>
  obtain⟨rfl,hs,hb⟩:=F1;wp_walk using F.e,F.u;refine fun l hl=>⟨_,Em ((q0D hl).at F.u) aE,?_⟩;have K1:=q0D (o:=.lst []) hl;have F2:=F.keep (fun _ _ _ e=>K1.at e) (aJ.new hl);have Yk:=hs.kp (aJ.new (o:=.lst []) hl);have hb2:=hb.kp (aJ.new (o:=.lst []) hl);generalize WZ H l (.lst [])=G at *;have hS:=F2.s;cases us with
  | nil =>
   wp_walk using List.isEmpty_nil;cases hS;exact qN rfl _ K1
  | cons u us =>
   wp_walk using List.isEmpty_cons,F2.e,F2.u,F2.b;have Za:acc≠[]:=fun z=>by rw[show acc=[] from z] at hS;cases hS
   refine fun p hp=>?_;have F3:=(q0D (o:=.tup bs) hp).at F2.u;have F4:=(q0D (o:=.tup bs) hp).at F2.e;wp_walk using F3,F4;exact fun p2 Xi p3 Yu=>q _ (if_neg Za) _ _ (.iff aE (((Yk.kp (aJ.new hp)).kp (aJ.new Xi)).kp (aJ.new Yu)) ((q0D Yu).at ((q0D Xi).at aE)) (((hb2.kp (aJ.new hp)).kp (aJ.new Xi)).kp (aJ.new Yu)) ((q0D Yu).at aE) (((hS.kp (aJ.new hp)).kp (aJ.new Xi)).kp (aJ.new Yu))) (((K1.trans (Kp.new hp)).trans (Kp.new Xi)).trans (Kp.new Yu))
theorem gW{t:Ad}(T:Tx K mg t):bR P w K mg base Xe 1 t.BV t.Cb ["deck"] Ri:=by
 refine T.jL.ok HD (fun vs H Q E h=>?_) (fun W7 A outer s H vs Q E hr h=>?_)
 ·obtain⟨dk,wl,ws,ok,rfl,_⟩:=h;rfl
 ·obtain⟨dk,wl,ws,ok,rfl,D,q⟩:=h;refine⟨_,(aD (aW (aK (Ac 1 (Ck hr (by decide))) (aX bM (pv 0) aG (fun _ _=>rfl)) (bF aB) (nomark _)) (aD (fV j9 (fU (pv 0) aG jI))
   (aH (aN aF))) aR)
   (aH (aN (NI PySem.F.slot_list_pop PySem.F.type_list_pop Gc (aX bM (pv 0) aG (fun _ _=>rfl)) (aC aG aB))))),?_⟩
  and_intros
  wp_walk using D.e;refine fun l hl=>⟨_,Em ((q0D hl).at D.w) aE,?_⟩;have D1:=D.kp (q0D (o:=.lst []) hl);have K1:=Kp.new (S:=[dk,wl]) (o:=.lst []) hl;generalize WZ H l (.lst [])=G at *;cases ws with
  | nil =>
   wp_walk using D1.e,List.map_nil,List.isEmpty_nil;exact q _ (by rw[List.isEmpty_nil,Bool.not_true,Bool.and_false];exact D1.fl false) (K1.trans qI)
  | cons w r =>
  wp_walk using D1.e,D1.w,List.map_cons,List.isEmpty_cons;exact q _ (by rw[List.isEmpty_cons,Bool.not_false,Bool.and_true];exact D1.po r) (K1.trans Uj)
theorem sT{t:Ad}(T:Tx K mg t):bR P w K mg base Xe 3 t.qS t.q9 ["word"] Rf:=by
 refine T.rH.ok CW (fun vs H Q E h=>?_) (fun W7 A outer s H vs Q E hr h=>?_)
 ·obtain⟨x,rfl,_⟩:=h;rfl
 ·obtain⟨x,rfl,hx,q⟩:=h;refine⟨_,(aD (aW (PW.pt (iG (fW (An nA nA aG (bK bO rfl T.iK cZ (aC (pv 0) aB)) aG)) (fJ (aK iQ (pv 0) (tF (pP T) (hr.mono (by omega)) rfl T.xM T.sL.kp T.xE .nil pass0) (by with_unfolding_all rfl))))) (aH (aN j9)) aR)
   (aH (aN (iV (Ac 1 (Ck hr (by decide))) (kN (cl:=[]) (fr:=[]) (N:=["sign"]) rfl (fun _ _ h=>h) (eO.mM rfl rfl rfl rfl) (CS (pv 0)) (fun C s H ex pn=>⟨Gj (aK JR (pv 0) aF (by with_unfolding_all rfl)),(pv 0)⟩)) (bF aB) (nomark _))))),?_⟩
  and_intros
  have hB:tV x=(decide (1<=x.length)&&(decide (x.length<=6)&&(x.cps.toList.all (fun c=>decide (97<=c)&&decide (c<=122))&&!cE (.str x) mO))):=rfl;refine aU fun XF Xa=>?_;wp_walk;refine⟨by omega,?_⟩;by_cases c1:0 < (x.length:Int)
  case neg =>
   rw[if_neg c1];rw[hB,decide_eq_false (show ¬ 1<=x.length by omega),Bool.false_and] at q;exact q _ Kp.refl
  rw[if_pos c1];by_cases c2:(x.length:Int) < 7
  case neg =>
   rw[if_neg c2];rw[hB,decide_eq_false (show ¬ x.length<=6 by omega),Bool.false_and,Bool.and_false] at q;exact q _ Kp.refl
  rw[if_pos c2];rw[decide_eq_true (show 1<=x.length by omega),decide_eq_true (show x.length<=6 by omega),Bool.true_and,Bool.true_and] at hB;refine fun p G hp KG eG=>?_;wp_walk using eG;refine⟨rfl,own17,?_⟩;cases c3:cE (.str x) mO with
  | true =>
   wp_walk;rw[hB,c3,Bool.not_true,Bool.and_false] at q;exact q _ KG
  | false =>
  rw[c3,Bool.not_false,Bool.and_true] at hB;wp_walk;refine Xa _ _ ?_;clear Xa;wp_walk;refine Cu (fun i xs G'=>xs=((x.cps.toList.take i).filter fun c=>!(decide (97<=c)&&decide (c<=122))).map (fun c=>V.str ⟨#[c]⟩)/\Kp [] H G') ⟨rfl,KG⟩ ?_ ?_ ?_
  ·rintro i xs G' ⟨rfl,_⟩;rw[List.length_map];refine Nat.le_trans (Nat.le_trans (List.length_filter_le _ _) (List.length_take_le' _ _)) ?_;rw[Array.length_toList];have:x.cps.size=x.length:=rfl;omega
  ·rintro i c xs G' hi hc ⟨rfl,k⟩;have e:x.cps.toList[i]?=some c:=by simpa using hc
   wp_walk using bP,FD;rw[List.take_add_one,e];rw[Option.toList_some,List.filter_append,List.map_append];have hm:=FD c;cases h:(decide (97<=c)&&decide (c<=122)) with
   | true =>
    rw[if_pos (of_decide_eq_true (hm.trans h))];refine⟨?_,k⟩;simp only[List.filter_cons,h,if_false,List.filter_nil,List.map_nil,List.append_nil,Bool.not_true,Bool.false_eq_true]
   | false =>
    rw[if_neg (of_decide_eq_false (hm.trans h))];refine⟨?_,k⟩;simp only[List.filter_cons,h,if_true,List.filter_nil,List.map_cons,List.map_nil,Bool.not_false]
  ·rintro xs G' ⟨rfl,k⟩ l hl;rw[show x.cps.toList.take x.cps.size=x.cps.toList by rw[<- Array.length_toList,List.take_length]];wp_walk;refine fun l2 XM=>⟨_,Em ((q0D XM).at aE) aE,?_⟩;rw[DE (fun c=>decide (97<=c)&&decide (c<=122)),<- hB];exact q _ ((k.trans (q0D hl)).trans (q0D XM))
theorem CG{t:Ad}(T:Tx K mg t):bR P w K mg base Xe 3 t.qV t.rC ["word"] Rh:=by
 refine T.yY.ok tP (fun vs H Q E h=>?_) (fun W7 A outer s H vs Q E hr h=>?_)
 ·obtain⟨x,rfl,_⟩:=h;rfl
 ·obtain⟨x,rfl,hx,q⟩:=h;refine⟨_,(aD (aM (i:=1) tP.nd rfl (Or.inl rfl) (bT iJ (pv 0) (bZ (bU jT rfl T.vQ jX (aC (iV bW (bT iJ (pv 0) bY (bZ aG)) aF (nomark _)) aB))) bY))
   (aD (aW (PW.pt (iG (aK bW (pv 1) aF (nomark _)) (iG (aK qK (bK bO rfl T.iK cZ (aC (pv 1) aB)) aG (nomark _)) (fJ (aK (CL 1 (Ck hr (by decide))) (kN (cl:=[]) (fr:=[]) (N:=["sign"]) rfl (fun _ _ h=>h) (eO.mM rfl rfl rfl rfl) (CS (pv 1)) (fun C s H ex pn=>⟨Gj (aK JR (pv 0) aF (by with_unfolding_all rfl)),(pv 0)⟩)) (bF aB) (nomark _)))))) (aH (aN dM)) aR)
   (aD (aW (PW.pt (iG (aK oM (bU uE rfl T.HN B4 (aC (bU lM rfl T.vQ jX (aC (pv 0) aB)) aB)) (pv 0) (nomark _)) (fJ (aK qK (bK GO rfl T.RE Oy (aC (bU lM rfl T.vQ jX (aC (pv 0) aB)) aB)) (aS u0 aG aG) (nomark _))))) (aH (aN dM)) aR)
   (aH (aN (bU lM rfl T.vQ jX (aC (pv 0) aB))))))),?_⟩
  and_intros
  refine aU fun XF Xa=>?_;wp_walk;refine⟨by omega,by omega,?_⟩;have ef:=G9 x;have fl:=n9 x.cps.toList;have hW:kF x (-1000000000) 1000000000=(decide (1<=(eU x.cps.toList).length)&&decide ((eU x.cps.toList).length<=(Str.ofString (toString (if (1000000000:Int) > - -1000000000 then (1000000000:Int) else - -1000000000))).length)&&(eU x.cps.toList).all (fun c=>decide (48<=c)&&decide (c<=57))&&!(decide ((eU x.cps.toList)[0]?=some 48)&&!decide (x=Str.ofString "0"))&&(match intText? x with|some v=>decide (-1000000000<=v)&&decide (v<=1000000000)|none=>false)):=rfl;have hL:(Str.ofString (toString (if (1000000000:Int) > - -1000000000 then (1000000000:Int) else - -1000000000))).length=10:=by decide +kernel
  rw[hL] at hW;have lz:(Txt.slice x (some (if decide (Txt.slice x none (some 1)=Str.ofString "-")=true then 1 else 0)) none).length=(eU x.cps.toList).length:=by rw[<- ef,Array.length_toList];rfl
  have lzx:=Txt.slice_le x (some (if decide (Txt.slice x none (some 1)=Str.ofString "-")=true then 1 else 0)) none;have ns:=Mt (x:=x);generalize Txt.slice x (some (if decide (Txt.slice x none (some 1)=Str.ofString "-")=true then 1 else 0)) none=z at *;generalize eU x.cps.toList=F at *;refine Xa _ _ ?_;clear Xa;refine aU fun YX Xu=>?_;wp_walk;have no:∀ G,Kp [] H G->kF x (-1000000000) 1000000000=false->Q .W3 G:=fun G k e=>by
   have:=q G k;rw[E7,if_neg (by rw[e];decide)] at this;exact this
  by_cases c1:z=Str.ofString ""
  ·rw[if_pos c1];have:z.length=0:=by rw[c1];exact CC.2
   exact no _ Kp.refl (by rw[hW,decide_eq_false (show ¬ 1<=F.length by omega)];rfl)
  rw[if_neg c1];have l1:1<=F.length:=by
   rcases Nat.eq_zero_or_pos F.length with h|h
   ·exact absurd (jS (by rw[show("":Str).cps.toList=[] by decide +kernel,ef];exact List.length_eq_zero_iff.mp h)) c1
   ·exact h
  refine⟨by omega,?_⟩;by_cases c2:10 < (z.length:Int)
  ·rw[if_pos c2];exact no _ Kp.refl (by rw[hW,decide_eq_false (show ¬ F.length<=10 by omega),Bool.and_false];rfl)
  rw[if_neg c2];rw[decide_eq_true l1,decide_eq_true (show F.length<=10 by omega),Bool.true_and,Bool.true_and] at hW;refine Cu (fun i xs G'=>xs=((z.cps.toList.take i).filter fun c=>!(decide (48<=c)&&decide (c<=57))).map (fun c=>V.str ⟨#[c]⟩)/\Kp [] H G') ⟨rfl,Kp.refl⟩ ?_ ?_ ?_
  ·rintro i xs G' ⟨rfl,_⟩;rw[List.length_map];refine Nat.le_trans (Nat.le_trans (List.length_filter_le _ _) (List.length_take_le' _ _)) ?_;rw[Array.length_toList];have:z.cps.size=z.length:=rfl;omega
  ·rintro i c xs G' hi hc ⟨rfl,k⟩;have e:z.cps.toList[i]?=some c:=by simpa using hc
   wp_walk using bP,FT;rw[List.take_add_one,e];rw[Option.toList_some,List.filter_append,List.map_append];have hm:=FT c;cases h:(decide (48<=c)&&decide (c<=57)) with
   | true =>
    rw[if_pos (of_decide_eq_true (hm.trans h))];refine⟨?_,k⟩;simp only[List.filter_cons,h,if_false,List.filter_nil,List.map_nil,List.append_nil,Bool.not_true,Bool.false_eq_true]
   | false =>
    rw[if_neg (of_decide_eq_false (hm.trans h))];refine⟨?_,k⟩;simp only[List.filter_cons,h,if_true,List.filter_nil,List.map_cons,List.map_nil,Bool.not_false]
  rintro xs G' ⟨rfl,k⟩ l hl;rw[show z.cps.toList.take z.cps.size=z.cps.toList by rw[<- Array.length_toList,List.take_length],ef];wp_walk;refine fun l2 XM=>⟨_,Em ((q0D XM).at aE) aE,?_⟩;rw[DE (fun c=>decide (48<=c)&&decide (c<=57))];have KN:=(k.trans (q0D (o:=.lst ((F.filter fun c=>!(decide (48<=c)&&decide (c<=57))).map fun c=>V.str ⟨#[c]⟩)) hl)).trans (q0D (o:=.lst []) XM);generalize WZ (WZ G' l (.lst ((F.filter fun c=>!(decide (48<=c)&&decide (c<=57))).map fun c=>V.str ⟨#[c]⟩))) l2 (.lst [])=G2 at *;clear k hl XM;cases c3:F.all (fun c=>decide (48<=c)&&decide (c<=57)) with
  | false =>
   wp_walk;exact no _ KN (by rw[hW,c3];rfl)
  | true =>
  wp_walk;refine Xu _ _ ?_;clear Xu;refine aU fun R_3 XI=>?_;have ad:∀ c∈F,48<=c/\c<=57:=fun c hc=>by have:=List.all_eq_true.mp c3 c hc;simpa using this
  have lxx:x.length=x.cps.toList.length:=by rw[Array.length_toList];rfl
  obtain⟨n,hnv,nb⟩:=ns ad (fun z=>by rw[z] at l1;simp at l1) (by omega);have acH:=Mn nb;have yes:∀ G,Kp [] H G->(Str.ofString (toString n):Str)=x->n.natAbs<=1000000000->Q (.int n) G:=fun G k e l=>by
   have:=q G k;rw[E7,if_pos (by rw[<- e];exact DO (by omega) (by omega)),hnv] at this;exact this
  have nay:∀ G,Kp [] H G->¬ ((Str.ofString (toString n):Str)=x/\n.natAbs<=1000000000)->Q .W3 G:=fun G k e=>no G k (by
   cases hw:kF x (-1000000000) 1000000000 with
   | false=>rfl
   | true =>
    obtain⟨i,h1,h2,h3,h4⟩:=Ee hw;rw[hnv] at h1;cases h1;exact absurd ⟨h2.symm,by omega⟩ e)
  clear ns no q hW ef;wp_walk using hnv;refine⟨by omega,acH,?_⟩;split
  case isFalse h=>exact nay _ KN fun z=>h z.1
  case isTrue h =>
   refine⟨by omega,?_⟩;have ea:(if n < 0 then -n else n)=(n.natAbs:Int):=by split<;>omega
   rw[ea];split
   case isTrue h2=>exact nay _ KN fun z=>by omega
   case isFalse h2 =>
   refine XI _ _ ?_;clear XI;wp_walk using hnv;exact⟨by omega,yes _ KN h (by omega)⟩
theorem oZ{t:Ad}(T:Tx K mg t){n d:Nat}(hn:6<=n)(IH:bR P w K mg base Xe n t.h9 t.iC ["deck","left"] (Rj d)):bR P w K mg base Xe (n+2) t.h9 t.iC ["deck","left"] (Gu d):=by
 refine T.cH.ok eI (fun vs H Q E h=>?_) (fun W7 A outer s H vs Q E hr h=>?_)
 ·obtain⟨dk,wl,ws,ok,rfl,_⟩:=h;rfl
 ·obtain⟨dk,wl,ws,ok,rfl,D,hw,q⟩:=h;refine⟨_,(aD (aW (PW.pt (iG (aK bW (pv 1) aG (nomark _)) (fJ (fW (fI (aX bM (pv 0) aG (fun _ _=>rfl))))))) (aD (fV j9 (fU (pv 0) aG jI))
   (aH (aN dM))) aR)
   (aD (aM (i:=2) eI.nd rfl (Or.inl rfl) (aI (gW T) (hr.mono (by omega)) rfl T.kK T.jL.kp T.kH .nil pass0 (aC (pv 0) aB)))
   (aD (aW (aK iQ (pv 2) (bA (aC aF (aC aF (aC aF aB)))) (by with_unfolding_all rfl)) (aH (aN (bA (aC (pv 2) aB)))) aR)
   (aD (aW (aK iQ (pv 2) (bA (aC aF (aC aF aB))) (by with_unfolding_all rfl)) (aH (aN (bA (aC (pv 2) (aC (aI IH (hr.mono (by omega)) rfl T.cO T.cH.kp T.cN .nil pass0 (aC (pv 0) (aC (aS iE (pv 1) aG) aB))) aB))))) aR)
   (aD (aW (aK bW (pv 2) aF (nomark _)) (aD (aM (i:=3) eI.nd rfl (Or.inl rfl) (aI IH (hr.mono (by omega)) rfl T.cO T.cH.kp T.cN .nil pass0 (aC (pv 0) (aC (aS iE (pv 1) aG) aB))))
   (aD (aM (i:=4) eI.nd rfl (Or.inl rfl) (aI (gW T) (hr.mono (by omega)) rfl T.kK T.jL.kp T.kH .nil pass0 (aC (pv 0) aB)))
   (aD (aM (i:=5) eI.nd rfl (Or.inl rfl) (aI IH (hr.mono (by omega)) rfl T.cO T.cH.kp T.cN .nil pass0 (aC (pv 0) (aC (aS iE (pv 1) aG) aB))))
   (aD (aW (PW.pt (iG (aK pQ (pv 4) (bA (aC aF (aC aF (aC aF (aC aF (aC aF aB)))))) (by with_unfolding_all rfl)) (fJ (aK oM (aI (gW T) (hr.mono (by omega)) rfl T.kK T.jL.kp T.kH .nil pass0 (aC (pv 0) aB)) aF (nomark _))))) (aH (fV j9 (fU (pv 0) aG jI))) aR)
   (aH (aN (bA (aC (pv 4) (aC (pv 3) (aC (pv 5) aB)))))))))) aR)
   (aD (aW (fI (aI (sT T) (hr.mono (by omega)) rfl T.zO T.rH.kp T.yA .nil pass0 (aC (pv 2) aB))) (aH (aN (bA (aC aF (aC (pv 2) aB))))) aR)
   (aD (aM (i:=6) eI.nd rfl (Or.inl rfl) (aI (CG T) (hr.mono (by omega)) rfl T.E2 T.yY.kp T.EG .nil pass0 (aC (pv 2) aB)))
   (aD (aW (aK Ae (pv 6) dM (nomark _)) (aH (fV j9 (fU (pv 0) aG jI))) aR)
   (aH (aN (bA (aC aF (aC (pv 6) aB))))))))))))),?_⟩
  and_intros
  cases d with
  | zero =>
   wp_walk using D.e;exact q _ _ ws false ⟨fun z=>(by cases z),fun _=>.inr rfl⟩ hw (Nat.le_refl _) (D.fl false) qI
  | succ d =>
  cases ok with
  | false =>
   wp_walk using D.e;rw[if_neg (by omega)];exact q _ _ ws false ⟨fun z=>(by cases z),fun _=>.inl rfl⟩ hw (Nat.le_refl _) (D.fl false) qI
  | true =>
  wp_walk using D.e;rw[if_neg (by omega)];refine⟨dk,wl,ws,true,rfl,D,fun H1 D1 K1=>?_⟩;have hc:=QV d ws;have lt:ws.tail.length<=ws.length:=by rw[List.length_tail];omega
  have Z3:=hw.tl;have hwh:=hw.hd;have ho:(true&&!ws.isEmpty)=true\/ws.headD "" = "":=by
   cases ws with
   | nil=>exact .inr rfl
   | cons a b=>exact .inl rfl
  replace q:∀(v:V) (H':Hp) (Xj:List Str) (Xf:Bool),(Xf=true->∃ s,cK (d+1) ws=some (s,Xj)/\bC H' v s)->(Xf=false->cK (d+1) ws=none)->WD Xj->Xj.length<=ws.length->Dk H' dk wl Xj Xf->Kp [dk,wl] H H'->Q v H':=fun v H' Xj Xf a b=>q v H' Xj Xf ⟨fun z=>⟨rfl,a z⟩,fun z=>.inr (b z)⟩;generalize (true&&!ws.isEmpty)=o1 at *;generalize ws.headD ""=w0 at *;generalize ws.tail=r at *;generalize cK (d+1) ws=R at *;wp_walk;refine fun p hp=>⟨rfl,flat3,?_⟩;have D2:=D1.kp (q0D (o:=.tup [.str "none",.str "arg",.str "now"]) hp);replace K1:=K1.trans (Kp.new (S:=[dk,wl]) (o:=.tup [.str "none",.str "arg",.str "now"]) hp);generalize WZ H1 p (.tup [.str "none",.str "arg",.str "now"])=G at *;cases h3:cE (.str w0) l3 with
  | true =>
   rw[if_pos h3] at hc;rw[ho.resolve_right fun z=>by rw[z] at h3;revert h3;decide +kernel] at D2;wp_walk using h3;exact fun p2 Xi=>q _ _ r true (fun _=>⟨_,hc,bC.l3 h3 aE⟩) (fun z=>by cases z) Z3 lt (D2.kp (Kp.new Xi)) (K1.trans (Kp.new Xi))
  | false =>
  rw[if_neg (by rw[h3];decide)] at hc;wp_walk using h3;refine fun p2 Xi=>⟨rfl,flat2,?_⟩;have D3:=D2.kp (q0D (o:=.tup [.str "answer",.str "not"]) Xi);have K2:=K1.trans (Kp.new (S:=[dk,wl]) (o:=.tup [.str "answer",.str "not"]) Xi);generalize WZ G p2 (.tup [.str "answer",.str "not"])=G2 at *;cases h2:cE (.str w0) l2 with
  | true =>
   rw[if_pos h2] at hc;rw[ho.resolve_right fun z=>by rw[z] at h2;revert h2;decide +kernel] at D3;wp_walk using h2;refine⟨d,rfl,dk,wl,r,true,by rw[show((d+1:Nat):Int) - 1=(d:Int) by omega],D3,Z3,fun v H3 r3 Ya S3 Zw l3' D4 K3=>?_⟩;wp_walk;refine fun p4 Xb=>q _ _ r3 Ya (fun z=>?_) (fun z=>?_) Zw (by omega) (D4.kp (Kp.new Xb)) ((K2.trans K3).trans (Kp.new Xb))
   ·obtain⟨_,s,hs,sa⟩:=S3.y z;exact⟨_,by rw[hc,hs],bC.l2 h2 aE (sa.kp (aJ.new Xb))⟩
   ·rw[hc,(S3.n z).resolve_left (by decide)]
  | false =>
  rw[if_neg (by rw[h2];decide)] at hc;wp_walk using h2;by_cases X4:w0 = "("
  ·rw[if_pos X4] at hc ⊢;rw[ho.resolve_right fun z=>by rw[z] at X4;revert X4;decide +kernel] at D3;wp_walk;refine⟨d,rfl,dk,wl,r,true,by rw[show((d+1:Nat):Int) - 1=(d:Int) by omega],D3,Z3,fun v1 H3 r1 Yd S1 hw1 l1 D4 K3=>?_⟩;wp_walk;refine⟨dk,wl,r1,Yd,rfl,D4,fun H4 D5 K4=>?_⟩;wp_walk;refine⟨d,rfl,dk,wl,r1.tail,(Yd&&!r1.isEmpty),by rw[show((d+1:Nat):Int) - 1=(d:Int) by omega],D5,hw1.tl,fun v3 H5 r3 Ya S3 Zw l3' D6 K5=>?_⟩;have lr3:r3.length<=ws.length:=by
    rw[List.length_tail] at l3';omega
   have T4:=D4.tk K4;have T5:=D5.tk K5;have K6:=((K2.trans K3).trans K4).trans K5;have jN:=Ud S1 S3;have jY:Ya=true->r3≠[]->cE (.str (r1.headD "")) ND=true->r3.headD "" = ")"->∃ a b,bC H3 v1 a/\bC H5 v3 b/\gY (cK d) r=some (.two (J9 (r1.headD "")) a b,r3.tail):=fun z z3 hg hc=>by
    have z1:Yd=true:=by
     have:=(S3.y z).1;cases Yd
     ·cases this
     ·rfl
    subst z z1;exact Ue S1 S3 hg z3 hc
   rw[<- hc] at jN jY;clear hc S1 S3 ho X4;have hh3:=Zw.hd;generalize hg0:r1.headD ""=g at *;clear hg0;wp_walk;refine fun p5 Yv=>⟨rfl,flat5,?_⟩;have D7:=D6.kp (q0D (o:=.tup [.str "+",.str "-",.str "*",.str "<",.str "="]) Yv);have K7:=K6.trans (Kp.new (S:=[dk,wl]) (o:=.tup [.str "+",.str "-",.str "*",.str "<",.str "="]) Yv);have T7:aJ H5 _:=aJ.new (o:=.tup [.str "+",.str "-",.str "*",.str "<",.str "="]) Yv;generalize WZ H5 p5 (.tup [.str "+",.str "-",.str "*",.str "<",.str "="])=G5 at *;cases hg:cE (.str g) ND with
   | false =>
    wp_walk using hg,D7.e;exact fun p6 YT=>q _ _ r3 false (fun z=>by cases z) (fun _=>jN (.inr (.inl hg))) Zw lr3 ((D7.fl false).kp (Kp.new YT)) ((K7.trans qI).trans (Kp.new YT))
   | true =>
   wp_walk using hg;refine⟨dk,wl,r3,Ya,rfl,D7,fun H8 D8 K8=>?_⟩;have T8:=D7.tk K8;have K9:=K7.trans K8;have lr4:r3.tail.length<=ws.length:=by rw[List.length_tail];omega
   by_cases hc:r3.headD "" = ")"
   ·wp_walk using hc;have Za:r3≠[]:=fun z=>by rw[z] at hc;revert hc;decide +kernel
    rw[show(Ya&&!r3.isEmpty)=Ya by cases r3 with|nil=>exact absurd rfl Za|cons a b=>exact Bool.and_true _] at D8;refine fun p6 YT=>q _ _ r3.tail Ya (fun z=>?_) (fun z=>jN (.inl z)) Zw.tl lr4 (D8.kp (Kp.new YT)) (K9.trans (Kp.new YT));obtain⟨a,b,sa,sb,e⟩:=jY z Za hg hc;exact⟨_,e,.two (by rw[CY hg];exact aE) (((((sa.kp T4).kp T5).kp T7).kp T8).kp (aJ.new YT)) (((sb.kp T7).kp T8).kp (aJ.new YT))⟩
   ·wp_walk using hc,D8.e;exact fun p6 YT=>q _ _ r3.tail false (fun z=>by cases z) (fun _=>jN (.inr (.inr (.inr hc)))) Zw.tl lr4 ((D8.fl false).kp (Kp.new YT)) ((K9.trans qI).trans (Kp.new YT))
  rw[if_neg X4] at hc ⊢;wp_walk;refine⟨_,rfl,hwh,fun H3 K3=>?_⟩;have D4:=D3.kp K3;have K3':=K2.trans (Kp.of (S:=[dk,wl]) K3.same);cases hb:tV w0 with
  | true =>
   rw[if_neg (by rw[JL (zS.mpr hb)];decide),if_pos hb] at hc;rw[ho.resolve_right fun z=>by rw[z,zT.1] at hb;cases hb] at D4;wp_walk using hb;exact fun p4 Xb=>q _ _ r true (fun _=>⟨_,hc,.name aE⟩) (fun z=>by cases z) Z3 lt (D4.kp (Kp.new Xb)) (K3'.trans (Kp.new Xb))
  | false =>
  wp_walk using hb;refine⟨_,rfl,hwh,fun H4 K4=>?_⟩;have D5:=D4.kp K4;have K4':=K3'.trans (Kp.of (S:=[dk,wl]) K4.same);cases hn:kF w0 (-1000000000) 1000000000 with
  | true =>
   obtain⟨i,hi,li⟩:=CD hn;rw[if_pos hn,hi] at hc;rw[ho.resolve_right fun z=>by rw[z,zT.2] at hn;cases hn] at D5;have e8:E7 w0=some i:=by rw[E7,if_pos hn,hi]
   wp_walk using e8;exact fun p4 Xb=>q _ _ r true (fun _=>⟨_,hc,.num aE⟩) (fun z=>by cases z) Z3 lt (D5.kp (Kp.new Xb)) (K4'.trans (Kp.new Xb))
  | false =>
  rw[if_neg (by rw[hn];decide),if_neg (by rw[hb];decide)] at hc;have e8:E7 w0=none:=by rw[E7,if_neg (by rw[hn];decide)]
  wp_walk using e8,D5.e;exact fun p4 Xb=>q _ _ r false (fun z=>by cases z) (fun _=>hc) Z3 lt ((D5.fl false).kp (Kp.new Xb)) ((K4'.trans qI).trans (Kp.new Xb))
theorem cP{t:Ad}(T:Tx K mg t):∀ d,bR P w K mg base Xe (2 * d+8) t.h9 t.iC ["deck","left"] (Gu d)
 | 0=>oZ T (Nat.le_refl 6) ⟨fun _ _ _ _ x=>by (obtain⟨_,h,_⟩:=x;exact absurd h (by omega)),fun _ _ _ _ _ _ _ _ _ _ _ _ _ x=>by (obtain⟨_,h,_⟩:=x;exact absurd h (by omega))⟩
 | d+1=>oZ T (by omega) ((cP T d).imp fun _ _ _ _ ⟨d',h,x⟩=>by cases h;exact x)
theorem jO{t:Ad}(T:Tx K mg t):bR P w K mg base Xe 4 t.qU t.rB ["deck"] UL:=by
 refine T.j6.ok tO (fun vs H Q E h=>?_) (fun W7 A outer s H vs Q E hr h=>?_)
 ·obtain⟨dk,wl,ws,ok,rfl,_⟩:=h;rfl
 ·obtain⟨dk,wl,ws,ok,rfl,D,hw,q⟩:=h;refine⟨_,(aD (aM (i:=1) tO.nd rfl (Or.inl rfl) (aI (gW T) (hr.mono (by omega)) rfl T.kK T.jL.kp T.kH .nil pass0 (aC (pv 0) aB)))
   (aD (aW (fW (fI (aI (sT T) (hr.mono (by omega)) rfl T.zO T.rH.kp T.yA .nil pass0 (aC (pv 1) aB)))) (aH (fV j9 (fU (pv 0) aG jI))) aR)
   (aH (aN (pv 1))))),?_⟩
  and_intros
  wp_walk;refine⟨dk,wl,ws,ok,rfl,D,fun H1 D1 K1=>?_⟩;have h0:=hw.hd;have eq:(ok&&tV (ws.headD ""))=((ok&&!ws.isEmpty)&&tV (ws.headD "")):=by
   cases ws with
   | nil=>rw[show([]:List Str).headD "" = "" from rfl,zT.1,Bool.and_false,Bool.and_false]
   | cons w r=>rw[List.isEmpty_cons,Bool.not_false,Bool.and_true]
  rw[eq] at q;clear eq;generalize (ok&&!ws.isEmpty)=o1 at *;generalize ws.headD ""=w0 at *;wp_walk;refine⟨_,rfl,h0,fun H2 K2=>?_⟩;have D2:=D1.kp K2;have ZY:=K1.trans (Kp.of (S:=[dk,wl]) K2.same);cases hn:tV w0 with
  | true =>
   wp_walk using hn;exact q _ (by rw[hn,Bool.and_true];exact D2) ZY
  | false =>
  wp_walk using hn,D2.e;exact q _ (by rw[hn,Bool.and_false];exact D2.fl false) (ZY.trans qI)
theorem Bb{t:Ad}(T:Tx K mg t):bR P w K mg base Xe 30 t.nM t.nV ["deck"] UM:=by
 refine T.vX.ok gC (fun vs H Q E h=>?_) (fun W7 A outer s H vs Q E hr h=>?_)
 ·obtain⟨dk,wl,ws,rfl,_⟩:=h;rfl
 ·obtain⟨dk,wl,ws,rfl,D,hw,n1,n2,n3,q⟩:=h;refine⟨_,(aD (aM (i:=1) gC.nd rfl (Or.inl rfl) (aI (jO T) (hr.mono (by omega)) rfl T.mL T.j6.kp T.mC .nil pass0 (aC (pv 0) aB)))
   (aD (aW (aK oM (aI (gW T) (hr.mono (by omega)) rfl T.kK T.jL.kp T.kH .nil pass0 (aC (pv 0) aB)) aF (nomark _)) (aH (fV j9 (fU (pv 0) aG jI))) aR)
   (aD (aW (PW.pt (iG (aK (Ac 1 (Ck hr (by decide))) (aX bM (pv 0) aG (fun _ _=>rfl)) (bF aB) (nomark _)) (fJ (aK pQ (aX bM (aX bM (pv 0) aG (fun _ _=>rfl)) aG (fun _ _=>rfl)) (bA (aC aF (aC aF (aC aF (aC aF (aC aF aB)))))) (by with_unfolding_all rfl))))) (aH (aN (bA (aC aF (aC (pv 1) (aC (aI (cP T 6) (hr.mono (by omega)) rfl T.cO T.cH.kp T.cN .nil pass0 (aC (pv 0) (aC aG aB))) aB)))))) aR)
   (aD (aM (i:=2) gC.nd rfl (Or.inl rfl) (aI (gW T) (hr.mono (by omega)) rfl T.kK T.jL.kp T.kH .nil pass0 (aC (pv 0) aB)))
   (aD (aW (aK iQ (pv 2) (bA (aC aF (aC aF aB))) (by with_unfolding_all rfl)) (aD (aM (i:=3) gC.nd rfl (Or.inl rfl) (aI (jO T) (hr.mono (by omega)) rfl T.mL T.j6.kp T.mC .nil pass0 (aC (pv 0) aB)))
   (aH (aN (bA (aC (pv 2) (aC (pv 1) (aC (pv 3) (aC (aI (cP T 6) (hr.mono (by omega)) rfl T.cO T.cH.kp T.cN .nil pass0 (aC (pv 0) (aC aG aB))) aB)))))))) aR)
   (aD (aW (aK bW (pv 2) aF (nomark _)) (aH (aN (bA (aC (pv 2) (aC (pv 1) (aC (aI (cP T 6) (hr.mono (by omega)) rfl T.cO T.cH.kp T.cN .nil pass0 (aC (pv 0) (aC aG aB))) aB)))))) aR)
   (aD (aW (aK bW (pv 2) aF (nomark _)) (aH (aN (bA (aC (pv 2) (aC (pv 1) (aC (aI (jO T) (hr.mono (by omega)) rfl T.mL T.j6.kp T.mC .nil pass0 (aC (pv 0) aB)) aB)))))) aR)
   (aD (aM (i:=4) gC.nd rfl (Or.inl rfl) (bF (aC (aI (cP T 6) (hr.mono (by omega)) rfl T.cO T.cH.kp T.cN .nil pass0 (aC (pv 0) (aC aG aB))) aB)))
   (aD (tK PassesOwn.never (PW.pt (rM (fI (aX bM (pv 0) aG (fun _ _=>rfl))) (mQ (aK (CL 1 (Ck hr (by decide))) (aX bM (pv 0) aG (fun _ _=>rfl)) (bF aB) (nomark _))))) (aH (eA (iF (pv 4) (aI (cP T 6) (hr.mono (by omega)) rfl T.cO T.cH.kp T.cN .nil pass0 (aC (pv 0) (aC aG aB)))))))
   (aD (fV (Aj (aX bM (pv 0) aG (fun _ _=>rfl)) (Al (iV nA (bK bO rfl T.iK cZ (aC (pv 4) aB)) aG (nomark _)))) (fU (pv 0) aG jI))
   (aH (aN (bA (aC (pv 2) (aC (pv 1) (aC (bU eX rfl T.iU fB (aC (pv 4) aB)) aB)))))))))))))))),?_⟩
  and_intros
  have hP:=JV n1 n2 n3;clear n1 n2 n3;generalize iS ws=R at *;refine aU fun XF Xa=>?_;wp_walk;refine⟨dk,wl,ws,true,rfl,D,hw,fun H1 D1 K1=>?_⟩;have Z3:=hw.tl;have aa5:=hw.tl.tl;generalize ws.headD ""=f at *;generalize ws.tail=r at *;clear hw D;rw[Bool.true_and] at D1;wp_walk;refine Xa _ _ ?_;clear Xa;refine aU fun YX Xu=>?_;have rest:∀(G:Hp) (o2:Bool),(o2=true->R=k8 f r.tail)->(o2=false->R=none)->Dk G dk wl r.tail o2->Kp [dk,wl] H G->YX [some (.ref dk),some (.str f),none,none,none] G:=by
   clear hP D1 K1;intro G o2 hy hn DG KG;have hr:=aa5;generalize r.tail=ws at *;clear Z3 aa5;rw[JU] at hy;refine Xu _ _ ?_;clear Xu;refine aU fun R_3 XI=>?_;wp_walk using DG.e;refine fun l hl=>⟨_,Em ((q0D hl).at DG.w) aE,?_⟩;replace DG:=DG.kp (q0D (o:=.lst []) hl);replace KG:=KG.trans (Kp.new (S:=[dk,wl]) (o:=.lst []) hl);generalize WZ G l (.lst [])=G1 at *;have Yv:=Jn (ws.headD "");rw[Yv] at hy;have spS:∀ G2,Dk G2 dk wl ws o2->Kp [dk,wl] H G2->cE (.str (ws.headD "")) [.str "order",.str "child",.str "timer",.str "hear",.str "wait"]=false->Gu 6 [V.ref dk,V.int 6] G2 (fun x H1=>∀ p,H1 p=none->Q (.ref p) (WZ H1 p (.tup [.str "set",.str f,x]))) E0:=fun G2 D2 K2 h5=>by
    rw[if_pos h5] at hy;refine⟨dk,wl,ws,o2,rfl,D2,hr,fun v H3 r3 Ya S3 Zw l3' D3 K3 p4 Xb=>q _ _ r3 Ya (.of (fun z=>?_) (fun z=>?_)) (D3.kp (Kp.new Xb)) ((K2.trans K3).trans (Kp.new Xb))⟩
    ·obtain⟨a,s,hs,sa⟩:=S3.y z;exact⟨_,by rw[hy a,hs],.set aE (sa.kp (aJ.new Xb))⟩
    ·cases ho:o2 with
     | false=>exact hn ho
     | true=>rw[hy ho,(S3.n z).resolve_left (by rw[ho];decide)]
   cases ws with
   | nil =>
    wp_walk using List.map_nil,List.isEmpty_nil;exact spS _ DG KG (by decide +kernel)
   | cons k r2 =>
   rw[show(k::r2).headD ""=k from rfl] at Yv spS hy;rw[show(k::r2).tail=r2 from rfl] at hy;wp_walk using List.map_cons,List.isEmpty_cons,DG.e,DG.w;refine fun p hp=>⟨rfl,flat5,?_⟩;replace DG:=DG.kp (q0D (o:=.tup [.str "order",.str "child",.str "timer",.str "hear",.str "wait"]) hp);replace KG:=KG.trans (Kp.new (S:=[dk,wl]) (o:=.tup [.str "order",.str "child",.str "timer",.str "hear",.str "wait"]) hp);generalize WZ G1 p (.tup [.str "order",.str "child",.str "timer",.str "hear",.str "wait"])=G2 at *;cases h5:cE (.str k) [.str "order",.str "child",.str "timer",.str "hear",.str "wait"] with
   | false =>
    wp_walk using h5;exact spS _ DG KG h5
   | true =>
   clear spS;rw[if_neg (by rw[h5];decide)] at hy;wp_walk using h5;refine XI _ _ ?_;clear XI;wp_walk;refine⟨dk,wl,k::r2,o2,rfl,DG,fun H3 D3 K3=>?_⟩;replace KG:=KG.trans K3;rw[show(k::r2).tail=r2 from rfl,show(o2&&!(k::r2).isEmpty)=o2 from Bool.and_true _] at D3;rw[show(k::r2).headD ""=k from rfl];replace hr:=hr.tl;rw[show(k::r2).tail=r2 from rfl] at hr;clear DG K3;wp_walk;refine fun p1 X4=>⟨rfl,flat2,?_⟩;replace D3:=D3.kp (q0D (o:=.tup [.str "order",.str "child"]) X4);replace KG:=KG.trans (Kp.new (S:=[dk,wl]) (o:=.tup [.str "order",.str "child"]) X4);generalize WZ H3 p1 (.tup [.str "order",.str "child"])=G3 at *;cases Zu:cE (.str k) [.str "order",.str "child"] with
   | true =>
    wp_walk using Zu;refine⟨dk,wl,r2,o2,rfl,D3,hr,fun H5 D5 K5=>?_⟩;wp_walk;refine⟨dk,wl,r2.tail,_,rfl,D5,hr.tl,fun v H6 r6 ok6 S6 hw6 l6 D6 K6=>?_⟩;wp_walk;refine fun p7 YL=>q _ _ r6 ok6 (.of (fun z=>?_) (fun z=>?_)) (D6.kp (Kp.new YL)) (((KG.trans K5).trans K6).trans (Kp.new YL))
    ·obtain⟨a,s,hs,sa⟩:=S6.y z;obtain⟨a1,a2⟩:=Bool.and_eq_true_iff.mp a;rcases NA Zu with rfl|rfl
     ·exact⟨_,by rw[hy a1,if_neg (by decide +kernel),if_neg (by decide +kernel),if_neg (by decide +kernel),pT,if_pos a2];simp only[];rw[hs];rfl,.order aE (sa.kp (aJ.new YL))⟩
     ·exact⟨_,by rw[hy a1,if_neg (by decide +kernel),if_neg (by decide +kernel),if_neg (by decide +kernel),pT,if_pos a2];simp only[];rw[hs];rfl,.child aE (sa.kp (aJ.new YL))⟩
    ·cases ho:o2 with
     | false=>exact hn ho
     | true =>
      have e:=hy ho;have n:=S6.n z;rw[pT] at e;have ne:¬ k = "timer"/\¬ k = "wait"/\¬ k = "hear":=by rcases NA Zu with rfl|rfl<;>decide +kernel
      rw[if_neg ne.1,if_neg ne.2.1,if_neg ne.2.2] at e;rw[e];cases hb:tV (r2.headD "") with
      | false=>rw[if_neg (by decide)]
      | true =>
       rw[if_pos rfl];simp only[];rw[n.resolve_left (by rw[ho,hb];decide)]
   | false =>
   wp_walk using Zu;by_cases ht:k = "timer"
   ·rw[if_pos ht] at hy ⊢;wp_walk;refine⟨dk,wl,r2,o2,rfl,D3,hr,fun v H6 r6 ok6 S6 hw6 l6 D6 K6=>?_⟩;wp_walk;refine fun p7 YL=>q _ _ r6 ok6 (.of (fun z=>?_) (fun z=>?_)) (D6.kp (Kp.new YL)) ((KG.trans K6).trans (Kp.new YL))
    ·obtain⟨a,s,hs,sa⟩:=S6.y z;exact⟨_,by rw[hy a,hs],.W4 (by rw[ht];exact aE) (sa.kp (aJ.new YL))⟩
    ·cases ho:o2 with
     | false=>exact hn ho
     | true=>rw[hy ho,(S6.n z).resolve_left (by rw[ho];decide)]
   rw[if_neg ht] at hy ⊢;wp_walk;by_cases hh:k = "hear"
   ·rw[if_neg (by rw[hh];decide +kernel),if_pos hh,pT] at hy;rw[if_pos hh];wp_walk;refine⟨dk,wl,r2,o2,rfl,D3,hr,fun H5 D5 K5=>?_⟩;wp_walk;refine fun p7 YL=>q _ _ r2.tail _ (.of (fun z=>?_) (fun z=>?_)) (D5.kp (Kp.new YL)) ((KG.trans K5).trans (Kp.new YL))
    ·obtain⟨a1,a2⟩:=Bool.and_eq_true_iff.mp z;exact⟨_,by rw[hy a1,if_pos a2],.W9 (by rw[hh];exact aE)⟩
    ·cases ho:o2 with
     | false=>exact hn ho
     | true =>
      rw[ho,Bool.true_and] at z;rw[hy ho,if_neg (by rw[z];decide)]
   have hw:k = "wait":=Ub h5 Zu ht hh;rw[if_pos hw] at hy;rw[if_neg hh];wp_walk;refine⟨dk,wl,r2,o2,rfl,D3,hr,fun v H6 r6 ok6 S6 hw6 l6 D6 K6=>?_⟩;have fin:∀(G:Hp) (us:List V) (ss:List Say) (r:List Str) (YH Xf:Bool) (p p2:Addr),(YH=true->o2=true/\cT G us ss/\Dl r2=some (ss,[]))->(YH=false->o2=false\/Dl r2=none)->Xf=(YH&&decide (us.length < 5))->(YH=true->r=[])->Dk G dk wl r Xf->Kp [dk,wl] H G->G p=none->(WZ G p (.tup us)) p2=none->Q (.ref p2) (WZ (WZ G p (.tup us)) p2 (.tup [.str k,.str f,.ref p])):=fun G us ss r YH Xf p p2 a b c d e g hp Xi=>by
    refine q _ _ r Xf ⟨fun z z2=>?_,fun z m hm=>?_⟩ ((e.kp (Kp.new hp)).kp (Kp.new Xi)) ((g.trans (Kp.new hp)).trans (Kp.new Xi))
    ·rw[z] at c;obtain⟨c1,c2⟩:=Bool.and_eq_true_iff.mp c.symm;obtain⟨a1,a2,a3⟩:=a c1;have ln:=a2.ln;have:=(Dm r2 ss).mpr ⟨a3,by have:=of_decide_eq_true c2;omega⟩;exact⟨_,by rw[hy a1,this],.wait (by rw[hw];exact aE) ((q0D Xi).at aE) ((a2.kp (aJ.new hp)).kp (aJ.new Xi))⟩
    ·cases ho:o2 with
     | false=>rw[hn ho] at hm;cases hm
     | true =>
      rw[hy ho] at hm;cases hW:gF r2 with
      | none=>rw[hW] at hm;cases hm
      | some q2 =>
       obtain⟨YV,r'⟩:=q2;rw[hW] at hm;cases hm;obtain⟨w1,w2⟩:=(Dm r2 YV).mp hW;cases YH with
       | false =>
        rcases b rfl with b|b
        ·rw[ho] at b;cases b
        ·rw[b] at w1;cases w1
       | true =>
        obtain⟨a1,a2,a3⟩:=a rfl;have ln:=a2.ln;rw[w1] at a3;cases a3;rcases z with z|z
        ·rw[z,Bool.true_and] at c;have:=of_decide_eq_false c.symm;omega
        ·exact z (d rfl)
   clear q hy hn;wp_walk;refine fun sl X5=>?_;have nsd:dk≠sl:=aL D6.e X5;have nsw:wl≠sl:=aL D6.w X5;have K7:=KG.trans K6;have Zb:H sl=none:=by
    cases hz:H sl with
    | none=>rfl
    | some o =>
     rw[K7 sl o hz (by simp only[List.mem_cons,List.not_mem_nil,or_false,not_or];exact⟨nsd.symm,nsw.symm⟩)] at X5;cases X5
   have s6:=hr.n;obtain⟨W,hW⟩:∃ W:Nat->St->Hp->Prop,∀ m σ G,W m σ G = ∃(us:List V) (ss:List Say) (r:List Str) (YH:Bool),σ=[some (.ref dk),some (.str f),some (.str k),none,some (.ref sl)]/\m=(if YH=true then r.length+1 else 0)/\G sl=some (.lst us)/\(YH=true->us.length+r.length<=8000002)/\(YH=true->o2=true/\cT G us ss/\∃ m',Dl r2=iM m' ss r/\r.length<=m')/\(YH=false->o2=false\/Dl r2=none)/\Dk G dk wl r YH/\WD r/\Kp [dk,wl] H G:=⟨_,fun _ _ _=>rfl⟩;refine⟨W,⟨if ok6=true then r6.length+1 else 0,?_⟩,?_⟩
   ·rw[hW];refine⟨[v],[((cK 6 r2).map (·.1)).getD .W3],r6,ok6,rfl,rfl,aE,fun _=>by simp only[List.length_cons,List.length_nil];omega,fun z=>?_,fun z=>?_,D6.kp (Kp.new X5),hw6,K7.trans (Kp.new X5)⟩
    ·obtain⟨a,s,hs,sa⟩:=S6.y z;refine⟨a,?_,r2.length+3,?_,by omega⟩
     ·rw[hs];exact .cons (sa.kp (aJ.new X5)) .nil
     ·rw[Dl,hs];rfl
    ·rcases S6.n z with z|z
     ·exact .inl z
     ·exact .inr (by rw[Dl,z])
   clear S6 D6 hw6 l6 K6 K7 D3;intro m σ G hG;rw[hW] at hG;obtain⟨us,ss,r,YH,rfl,rfl,eS,hl,hY,hN,DG,hwr,KG⟩:=hG;cases YH with
   | false =>
    clear hW;have ZD:WZ G dk (.lst [.ref wl,.bl false]) sl=some (.lst us):=by rw[aV nsd.symm];exact eS
    wp_walk using DG.e,ZD;exact fun p hp p2 Xi=>fin _ us ss r false false p p2 (fun z=>by cases z) (fun _=>hN rfl) rfl (fun z=>by cases z) (DG.fl false) (KG.trans qI) hp Xi
   | true =>
   obtain⟨o2t,hU,m',hA,hm'⟩:=hY rfl;have ln:=hU.ln;replace hl:=hl rfl;wp_walk using DG.e,eS;refine fun p hp=>⟨_,Em ((q0D hp).at DG.w) aE,?_⟩;have eS1:=(q0D (o:=.lst []) hp).at eS;have DG1:=DG.kp (q0D (o:=.lst []) hp);have K1:=KG.trans (Kp.new (S:=[dk,wl]) (o:=.lst []) hp);have U1:=hU.kp (aJ.new (o:=.lst []) hp);generalize WZ G p (.lst [])=G1 at *;cases r with
   | nil =>
    clear hW;have ZD:∀ b,WZ G1 dk (.lst [.ref wl,.bl b]) sl=some (.lst us):=fun b=>by rw[aV nsd.symm];exact eS1
    wp_walk using List.map_nil,List.isEmpty_nil,DG1.e,eS1,ZD;exact fun p hp p2 Xi=>fin _ us ss [] true _ p p2 (fun _=>⟨o2t,U1.kp (aJ.set DG1.e),by rw[hA,CO]⟩) (fun z=>by cases z) (by rw[Bool.true_and];congr 1;exact propext ⟨fun z=>by omega,fun z=>by omega⟩) (fun _=>rfl) (DG1.fl _) (K1.trans qI) hp Xi
   | cons w1 r1 =>
   clear fin;wp_walk using List.map_cons,List.isEmpty_cons,eS1;refine⟨fun σ' H'=>∃ m',m' < (w1::r1).length+1/\W m' σ' H',fun _ _ h=>h,?_⟩;wp_walk using eS1;refine⟨dk,wl,w1::r1,true,rfl,DG1,hwr,fun v2 H2 r3 Ya S3 Zw l3' D3 K3=>?_⟩;have ZD:=K3.at eS1 (by simp only[List.mem_cons,List.not_mem_nil,or_false,not_or];exact⟨nsd.symm,nsw.symm⟩);wp_walk using ZD;have T2:=DG1.tk K3;have T3:=aJ.set (ys:=us++[v2]) ZD;refine⟨by simp only[List.length_cons] at hl;omega,?_⟩;have sh:Ya=true->r3.length<=r1.length:=fun z=>by
    obtain⟨_,s,hs,_⟩:=S3.y z;have e:=congrArg List.length (eE hs).1;have:=M6 s;rw[List.length_append,List.length_cons] at e;omega
   refine⟨if Ya=true then r3.length+1 else 0,?_,?_⟩
   ·split
    ·next z =>
     have:=sh z;omega
    ·omega
   rw[hW];refine⟨us++[v2],ss++[((cK 6 (w1::r1)).map (·.1)).getD .W3],r3,Ya,rfl,rfl,aE,fun z=>?_,fun z=>?_,fun z=>?_,⟨by rw[aV nsd];exact D3.e,by rw[aV nsw];exact D3.w⟩,Zw,fun b o eb nb=>?_⟩
   ·have:=sh z;simp only[List.length_append,List.length_cons,List.length_nil] at hl ⊢;omega
   ·obtain⟨_,s,hs,sa⟩:=S3.y z;have:=sh z;rw[List.length_cons] at hm';refine⟨o2t,?_,m' - 1,?_,by omega⟩
    ·rw[hs];exact((U1.kp T2).kp T3).NL (sa.kp T3)
    ·obtain⟨m2,rfl⟩:∃ m2,m'=m2+1:=⟨m' - 1,by omega⟩;rw[hA,pR,hs];rfl
   ·refine .inr ?_;obtain⟨m2,rfl⟩:∃ m2,m'=m2+1:=⟨m' - 1,by rw[List.length_cons] at hm';omega⟩;rw[hA,pR,(S3.n z).resolve_left (by decide)]
   ·have:=(K1.trans K3) b o eb nb;rw[aV (fun z=>?_)]
    ·exact this
    ·subst z;exact absurd eb (by rw[Zb];intro z;cases z)
  wp_walk;refine⟨dk,wl,r,_,rfl,D1,fun H2 D2 K2=>?_⟩;by_cases he:r.headD "" = "="
  ·wp_walk using he;exact rest _ _ (fun z=>by rw[hP,if_pos (by rw[z,decide_eq_true he];rfl)]) (fun z=>by rw[hP,if_neg (by rw[z,Bool.false_and];decide)]) D2 (K1.trans K2)
  wp_walk using he,D2.e;exact rest _ false (fun z=>by cases z) (fun z=>by rw[hP,if_neg (by rw[decide_eq_false he,Bool.and_false];decide)]) (D2.fl false) ((K1.trans K2).trans qI)
theorem CF{t:Ad}(T:Tx K mg t):bR P w K mg base Xe 32 t.qT t.rA ["line"] UK:=by
 refine T.yW.ok dS (fun vs H Q E h=>?_) (fun W7 A outer s H vs Q E hr h=>?_)
 ·obtain⟨x,rfl,_⟩:=h;rfl
 ·obtain⟨x,rfl,lx,qN,q⟩:=h;refine⟨_,(aD (aM (i:=1) dS.nd rfl (Or.inl rfl) (bF (aC (nE PySem.F.plainAttrs_str PySem.F.slot_str_split PySem.F.type_str_split lU (pv 0) (aC aF aB)) (aC j9 aB))))
   (aD (aM (i:=2) dS.nd rfl (Or.inl rfl) (aX bM (aX bM (pv 1) aG (fun _ _=>rfl)) aG (fun _ _=>rfl)))
   (aD (aW (aK bW (pv 2) aF (nomark _)) (aD (eA (aI (gW T) (hr.mono (by omega)) rfl T.kK T.jL.kp T.kH .nil pass0 (aC (pv 1) aB)))
   (aD (aM (i:=3) dS.nd rfl (Or.inl rfl) (aI (cP T 6) (hr.mono (by omega)) rfl T.cO T.cH.kp T.cN .nil pass0 (aC (pv 1) (aC aG aB))))
   (aD (aM (i:=4) dS.nd rfl (Or.inl rfl) (aI (jO T) (hr.mono (by omega)) rfl T.mL T.j6.kp T.mC .nil pass0 (aC (pv 1) aB)))
   (aH (aM (i:=5) dS.nd rfl (Or.inl rfl) (bA (aC (pv 2) (aC (pv 3) (aC (pv 4) (aC (aI (cP T 6) (hr.mono (by omega)) rfl T.cO T.cH.kp T.cN .nil pass0 (aC (pv 1) (aC aG aB))) aB)))))))))) (aH (aW (aK iQ (pv 2) (bA (aC aF (aC aF (aC aF (aC aF aB))))) (by with_unfolding_all rfl)) (aD (eA (aI (gW T) (hr.mono (by omega)) rfl T.kK T.jL.kp T.kH .nil pass0 (aC (pv 1) aB)))
   (aH (aM (i:=5) dS.nd rfl (Or.inl rfl) (bA (aC (pv 2) (aC (aI (cP T 6) (hr.mono (by omega)) rfl T.cO T.cH.kp T.cN .nil pass0 (aC (pv 1) (aC aG aB))) aB)))))) (aH (aM (i:=5) dS.nd rfl (Or.inl rfl) (aI (Bb T) (hr.mono (by omega)) rfl T.DY T.vX.kp T.Ds .nil pass0 (aC (pv 1) aB)))))))
   (aD (aW (PW.pt (iG (fW (fI (aX bM (pv 1) aG (fun _ _=>rfl)))) (fJ (aK (CL 1 (Ck hr (by decide))) (aX bM (pv 1) aG (fun _ _=>rfl)) (bF aB) (nomark _))))) (aH (aN dM)) aR)
   (aH (aN (pv 5))))))),?_⟩
  and_intros
  obtain⟨w0,r,Zg⟩:=tS x;have lw:tot (Txt.split x " ")=x.length+1:=by rw[eP.2.1];exact pY 32 x
  have hwd:WD (w0::r):=by
   rw[<- Zg];exact⟨fun w hw=>by have:=gH hw;omega,by have:=pM (Txt.split x " ");omega⟩
  rw[Zg] at qN q;refine aU fun XF Xa=>?_;wp_walk using Zg;refine⟨rfl,by omega,fun wl X2 dk hdk=>?_⟩;have D:Dk (WZ (WZ H wl (.lst (.str w0::r.map V.str))) dk (.lst [.ref wl,.bl true])) dk wl (w0::r) true:=⟨aE,(q0D hdk).at aE⟩;have K0:Kp [] H (WZ (WZ H wl (.lst (.str w0::r.map V.str))) dk (.lst [.ref wl,.bl true])):=(Kp.new X2).trans (Kp.new hdk);have aa0:H dk=none:=by
   cases hz:H dk with
   | none=>rfl
   | some o =>
    rw[(q0D (o:=.lst (.str w0::r.map V.str)) X2).at hz] at hdk;cases hdk
  generalize WZ (WZ H wl (.lst (.str w0::r.map V.str))) dk (.lst [.ref wl,.bl true])=H0 at *;have KO:∀ G,Kp [dk,wl] H0 G->Kp [] H G:=fun G k b o e _=>k b o (K0.at e) (by
   simp only[List.mem_cons,List.not_mem_nil,or_false,not_or];exact⟨aL e aa0,aL e X2⟩)
  clear K0 hdk aa0 X2;refine Xa _ _ ?_;clear Xa;refine aU fun XF Xa=>?_;wp_walk using D.e,D.w,List.map_cons;refine Xa _ _ ?_;clear Xa;refine aU fun XF Xa=>?_;have rest:∀(G:Hp) (v:V) (Xj:List Str) (Xf:Bool) (o1 o2:Option V),RH (lR (w0::r)) Xf Xj G v->Dk G dk wl Xj Xf->Kp [dk,wl] H0 G->XF [some (.str x),some (.ref dk),some (.str w0),o1,o2,some v] G:=by
   intro G v Xj Xf o1 o2 L DG KG;refine Xa _ _ ?_;clear Xa;wp_walk using DG.e;cases Xf with
   | false =>
    wp_walk;exact qN (L.n (.inl rfl)) _ (KO _ KG)
   | true =>
   wp_walk;refine fun l hl=>⟨_,Em ((q0D hl).at DG.w) aE,?_⟩;cases Xj with
   | nil =>
    wp_walk using List.map_nil,List.isEmpty_nil;obtain⟨y,hy,sy⟩:=L.y rfl rfl;exact q y hy _ _ (sy.kt (aJ.new hl)) (KO _ (KG.trans (Kp.new hl)))
   | cons a b =>
   wp_walk using List.map_cons,List.isEmpty_cons;exact qN (L.n (.inr (by simp))) _ (KO _ (KG.trans (Kp.new hl)))
  clear Xa q qN KO;by_cases hs:w0 = "send"
  ·subst hs;wp_walk;refine⟨dk,wl,("send":Str)::r,true,rfl,D,fun H1 D1 K1=>?_⟩;rw[show((("send":Str)::r)).tail=r from rfl,show(true&&!(("send":Str)::r).isEmpty)=true from rfl] at D1;refine⟨dk,wl,r,true,rfl,D1,hwd.tl,fun v1 H2 r1 Yd S1 hw1 l1 D2 K2=>?_⟩;refine⟨dk,wl,r1,Yd,rfl,D2,hw1,fun H3 D3 K3=>?_⟩;refine⟨dk,wl,r1.tail,_,rfl,D3,hw1.tl,fun v3 H4 r3 Ya S3 Zw l3' D4 K4 p hp=>?_⟩;refine rest _ _ r3 Ya _ _ (.nm (by decide +kernel) (.of (fun z=>?_) (fun z=>?_))) (D4.kp (Kp.new hp)) ((((K1.trans K2).trans K3).trans K4).trans (Kp.new hp))
   ·obtain⟨a,b,hb,sb⟩:=S3.y z;obtain⟨a1,a2⟩:=Bool.and_eq_true_iff.mp a;obtain⟨_,c,hc,sc⟩:=S1.y a1;exact⟨_,by rw[j8,if_pos rfl,hc];simp only[];rw[pT,if_pos a2];simp only[];rw[hb],.send aE (((sc.kp (D2.tk K3)).kp (D3.tk K4)).kp (aJ.new hp)) (sb.kp (aJ.new hp))⟩
   ·rw[j8,if_pos rfl];cases hk:Yd with
    | false=>rw[(S1.n hk).resolve_left (by decide)]
    | true =>
     obtain⟨_,c,hc,sc⟩:=S1.y hk;rw[hc];simp only[];rw[pT];cases hb:tV (r1.headD "") with
     | false=>rw[if_neg (by decide)]
     | true =>
      rw[if_pos rfl];simp only[];rw[(S3.n z).resolve_left (by rw[hk,hb];decide)]
  wp_walk using hs;refine fun p hp=>⟨rfl,flat4,?_⟩;replace rest:∀(G:Hp) (v:V) (Xj:List Str) (Xf:Bool) (o1 o2:Option V),RH (lR (w0::r)) Xf Xj G v->Dk G dk wl Xj Xf->Kp [dk,wl] (WZ H0 p (.tup [.str "drop",.str "end",.str "if",.str "while"])) G->XF [some (.str x),some (.ref dk),some (.str w0),o1,o2,some v] G:=fun G v Xj Xf o1 o2 a b c=>rest G v Xj Xf o1 o2 a b ((Kp.new hp).trans c);replace D:=D.kp (q0D (o:=.tup [.str "drop",.str "end",.str "if",.str "while"]) hp);generalize WZ H0 p (.tup [.str "drop",.str "end",.str "if",.str "while"])=G0 at *;cases h4:cE (.str w0) [.str "drop",.str "end",.str "if",.str "while"] with
  | true =>
   wp_walk using h4;refine⟨dk,wl,w0::r,true,rfl,D,fun H1 D1 K1=>?_⟩;rw[show(w0::r).tail=r from rfl,show(true&&!(w0::r).isEmpty)=true from rfl] at D1;refine⟨dk,wl,r,true,rfl,D1,hwd.tl,fun v1 H2 r1 Yd S1 hw1 l1 D2 K2 p hp=>?_⟩;refine rest _ _ r1 Yd _ _ ?_ (D2.kp (Kp.new hp)) ((K1.trans K2).trans (Kp.new hp));have pl:(w0 = "drop"\/w0 = "end")->RH (lR (w0::r)) Yd r1 (WZ H2 p (.tup [.str w0,v1])) (.ref p):=fun hw=>.nm (by rcases hw with rfl|rfl<;>decide +kernel) (.of (fun z=>by
    obtain⟨_,c,hc,sc⟩:=S1.y z;have sc2:=sc.kp (aJ.new (o:=.tup [.str w0,v1]) hp);rw[j8,if_neg hs,if_pos hw,hc];rcases hw with rfl|rfl
    ·exact⟨_,rfl,.drop aE sc2⟩
    ·exact⟨_,rfl,.fin aE sc2⟩) (fun z=>by rw[j8,if_neg hs,if_pos hw,(S1.n z).resolve_left (by decide)]))
   have hd:(hB:cE (.str w0) lB=true)->RH (lR (w0::r)) Yd r1 (WZ H2 p (.tup [.str w0,v1])) (.ref p):=fun hB=>⟨fun a b=>by
    obtain⟨_,c,hc,sc⟩:=S1.y a;have sc2:=sc.kp (aJ.new (o:=.tup [.str w0,v1]) hp);refine⟨.head (decide (w0 = "if")) c,by rw[Cs hB,hc,b],p,v1,rfl,?_,sc2⟩;rcases VE hB with rfl|rfl
    ·exact aE
    ·rw[if_neg (by decide +kernel)];exact aE,fun z=>by
    rw[Cs hB];cases hk:Yd with
    | false=>rw[(S1.n hk).resolve_left (by decide)]
    | true =>
     obtain⟨_,c,hc,sc⟩:=S1.y hk;rw[hc];cases r1 with
     | nil =>
      rcases z with z|z
      ·rw[hk] at z;cases z
      ·exact absurd rfl z
     | cons a b=>rfl⟩
   rcases in4 h4 with hw|hw|hw|hw
   ·exact pl (.inl hw)
   ·exact pl (.inr hw)
   ·exact hd (by rw[hw];decide +kernel)
   ·exact hd (by rw[hw];decide +kernel)
  | false =>
  obtain⟨m1,m2,m3⟩:=in4n h4;wp_walk using h4;refine⟨dk,wl,w0::r,rfl,D,hwd,hs,m1,m2,fun v H1 Xj Xf N D1 K1=>?_⟩;wp_walk;exact rest _ _ Xj Xf _ _ (.nm m3 N) D1 K1
theorem wY{t:Ad}(T:Tx K mg t):bR P w K mg base Xe 36 t.kS t.kX ["lines"] UP:=by
 refine T.qH.ok cS (fun vs H Q E h=>?_) (fun W7 A outer s H vs Q E hr h=>?_)
 ·obtain⟨ll,L,rfl,_⟩:=h;rfl
 ·obtain⟨ll,L,rfl,eL,hl,hn,qN,q⟩:=h;refine⟨_,(aD (aM (i:=1) cS.nd rfl (Or.inl rfl) (bF (aC (bF (aC aF (aC dM (aC (bF aB) (aC (bF aB) aB))))) aB)))
   (aD (aM (i:=2) cS.nd rfl (Or.inl rfl) aG)
   (aD (vB PassesOwn.never rfl (pX (pv 0)) (jQ (i:=3) cS.nd rfl (Or.inl rfl)) (aD (aM (i:=4) cS.nd rfl (Or.inl rfl) (aX bM (pv 1) (lV iT aG) (fun _ _=>rfl)))
   (aD (aW (aK bW (pv 3) aF (nomark _)) (aD (aW (aK oM (aX bM (pv 4) aG (fun _ _=>rfl)) aF (nomark _)) (aH (aN dM)) aR)
   (aH (fV (bF (aC aF (aC (aX bM (pv 4) aG (fun _ _=>rfl)) (aC (bF aB) (aC (aX bM (pv 4) aG (fun _ _=>rfl)) aB))))) (fU (pv 1) (lV iT aG) jI)))) (aH (aW (aK bW (pv 3) aF (nomark _)) (aD (aM (i:=5) cS.nd rfl (Or.inl rfl) (aI (E8 T) (hr.mono (by omega)) rfl T.JD T.DF.kp T.HX .nil pass0 (aC (MF (pv 1)) aB)))
   (aD (aW (aK Ae (pv 5) dM (nomark _)) (aH (aN dM)) aR)
   (aH (eA (iF (aX bM (aX bM (pv 1) (lV iT aG) (fun _ _=>rfl)) aG (fun _ _=>rfl)) (pv 5)))))) (aD (aM (i:=2) cS.nd rfl (Or.inl rfl) (aS aQ (pv 2) aG))
   (aD (aM (i:=5) cS.nd rfl (Or.inl rfl) (aI (CF T) (hr.mono (by omega)) rfl T.EZ T.yW.kp T.EF .nil pass0 (aC (pv 3) aB)))
   (aD (aW (PW.pt (iG (aK Ae (pv 5) dM (nomark _)) (fJ (aK qK (pv 2) aG (nomark _))))) (aH (aN dM)) aR)
   (aH (aW (aK iQ (aX bM (pv 5) aG (fun _ _=>rfl)) (bA (aC aF (aC aF aB))) (by with_unfolding_all rfl)) (aH (eA (iF (pv 1) (bF (aC (aX bM (pv 5) aG (fun _ _=>rfl)) (aC (aX bM (pv 5) aG (fun _ _=>rfl)) (aC (bF aB) (aC (bF aB) aB)))))))) (aH (eA (iF (aX bM (pv 4) aG (fun _ _=>rfl)) (pv 5))))))))))))
   (aH (aW (aK qK (bK bO rfl T.iK cZ (aC (pv 1) aB)) aG (nomark _)) (aH (aN dM)) aR)))))
   (aD (aW (aK qK (bK bO rfl T.iK cZ (aC (pv 1) aB)) aG (nomark _)) (aH (aN dM)) aR)
   (aH (aN (bU eX rfl T.iU fB (aC (aX bM (aX bM (pv 1) aG (fun _ _=>rfl)) aG (fun _ _=>rfl)) aB)))))))),?_⟩
  and_intros
  refine aU fun XF Xa=>?_;wp_walk;refine fun la hla lb hlb fa hfa fl hfl=>?_;obtain⟨H0,hH0⟩:∃ G:Hp,G=WZ (WZ (WZ (WZ H la (.lst [])) lb (.lst [])) fa (.lst [.str "",.W3,.ref la,.ref lb])) fl (.lst [.ref fa]):=⟨_,rfl⟩;have st:=tU.ini hla hlb hfa hfl;rw[<- hH0] at st ⊢;clear hH0 hla hlb hfa hfl;refine Xa _ _ ?_;clear Xa;refine aU fun XF Xa=>?_;wp_walk;refine Xa _ _ ?_;clear Xa;refine aU fun XF Xa=>?_;wp_walk using st.k.at eL;refine⟨⟨_,dZ.of (st.k.at eL)⟩,?_⟩;have hM:Xh [(.bot,[])] 0 (L.drop 0)=Xh [(.bot,[])] 0 L:=rfl;generalize Xh [(.bot,[])] 0 L=M at *;obtain⟨Pv,X1⟩:∃ Pv:Nat->St->Hp->Prop,∀ i σ G,Pv i σ G = ∃(fs:List Frm) (as A:List Addr) (k:Nat) (v3 v4 v5:Option V),σ=[some (.ref ll),some (.ref fl),some (.int (k:Int)),v3,v4,v5]/\tU H G fl fs as A/\fs.getLast?.map (·.1)=some .bot/\fs.length<=6/\k<=60/\(∀ f∈fs,f.2.length<=i)/\Xh fs k (L.drop i)=M:=⟨_,fun _ _ _=>rfl⟩;refine DL (xs:=L.map V.str) Pv ?_ ?_ ?_ ?_
  ·rw[X1];exact⟨_,_,_,0,_,_,_,rfl,st,rfl,by decide,by decide,by simp,hM⟩
  ·intro i σ G _ hG;rw[X1] at hG;obtain⟨_,_,_,_,_,_,_,_,FG,_⟩:=hG;exact dZ.of (FG.k.at eL)
  ·intro i y σ G hi hG;rw[X1] at hG;obtain⟨fs,as,A,k,v3,v4,v5,rfl,FG,hb,h6,Yt,hac,hm⟩:=hG;have iL:i < L.length:=by
    have:=(List.getElem?_eq_some_iff.mp hi).1
    rwa [List.length_map] at this
   rw[List.getElem?_map,List.getElem?_eq_getElem iL] at hi;cases hi;have ly:=hl _ (List.getElem_mem iL);rw[List.drop_eq_getElem_cons iL] at hm;generalize L[i]=l at *;have back:∀(fs:List Frm) (as A:List Addr) (k:Nat) (v3 v4 v5:Option V) (G':Hp),tU H G' fl fs as A->fs.getLast?.map (·.1)=some .bot->fs.length<=6->k<=60->(∀ f∈fs,f.2.length<=i+1)->Xh fs k (L.drop (i+1))=M->Pv (i+1) [some (.ref ll),some (.ref fl),some (.int (k:Int)),v3,v4,v5] G':=fun fs as A k v3 v4 v5 G' a b c d e f=>by
    rw[X1];exact⟨fs,as,A,k,v3,v4,v5,rfl,a,b,c,d,e,f⟩
   have hi1:i < 8000001:=by omega
   clear X1 hM st hl Xa q iL hn;generalize Pv (i+1)=N at *;generalize L.drop (i+1)=L' at *;cases fs with
   | nil=>cases hb
   | cons f0 fs =>
   obtain⟨kd,acc⟩:=f0;obtain⟨a,la,lb,as,A,kw,v1,us,bs,rfl,rfl,F,nd,R⟩:=FG.top;have et:=FG.Vh;obtain⟨t1,t2,t3,t4,t5⟩:=last8 (as.map V.ref).reverse (.ref a);rw[mJ] at hm;have lnu:=AA F.s;have lac:=hac (kd,acc) (by simp);refine Nv (aU fun XF Xa=>?_);wp_walk using et,t1;refine Xa _ _ ?_;clear Xa;refine aU fun XF Xa=>?_;have rest:∀(XY:List Frm) (as' A':List Addr) (k':Nat) (v5:Option V) (G':Hp),tU H G' fl XY as' A'->XY.getLast?.map (·.1)=some .bot->(XY.length<=6->k'<=60/\(∀ f∈XY,f.2.length<=i+1)/\Xh XY k' L'=M)->(¬ XY.length<=6->M=none)->XY.length<=100->XF [some (.ref ll),some (.ref fl),some (.int (k':Int)),some (.str l),some (.ref a),v5] G':=fun XY as' A' k' v5 G' x1 x2 x3 x4 x5=>by
    have l2:((as'.map V.ref).reverse).length=XY.length:=by rw[List.length_reverse,List.length_map,x1.f.len]
    refine Xa _ _ ?_;clear Xa;wp_walk using x1.e,l2;by_cases z6:XY.length<=6
    ·rw[if_neg (by omega)];obtain⟨y1,y2,y3⟩:=x3 z6;exact back XY as' A' k' _ _ _ G' x1 x2 z6 y1 y2 y3
    ·rw[if_pos (by omega)];exact qN (x4 z6) _ x1.k
   clear Xa back;by_cases he:l = "else"
   ·rw[if_pos he] at hm;have Fk:=F.k;cases kd with
    | bot =>
     obtain rfl:kw = "":=Fk;wp_walk using he,F.e;exact qN hm.symm _ FG.k
    | Xd s =>
     obtain⟨rfl,_⟩:=Fk;wp_walk using he,F.e;exact qN hm.symm _ FG.k
    | els s b =>
     obtain⟨rfl,_⟩:=Fk;wp_walk using he,F.e;exact qN hm.symm _ FG.k
    | ifk s =>
    obtain⟨rfl,hs⟩:=Fk;wp_walk using he,F.e;refine fun p1 X4=>?_;have K1:=q0D (o:=.lst []) X4;have F1:=F.keep (fun _ _ _ e=>K1.at e) (aJ.nil K1);have Zy:=FG.kp K1;have R1:=R.keep (fun _ _ _ e=>K1.at e) (aJ.nil K1);have e1:WZ G p1 (.lst []) p1=some (.lst []):=aE;have np1:p1∉fl::a::la::lb::A:=fun z=>by
     rcases List.mem_cons.mp z with z|z
     ·rw[z,FG.e] at X4;cases X4
     ·obtain⟨o,ho⟩:=FG.f.al p1 z;rw[ho] at X4;cases X4
    have acB:=wI FG.k X4;have et1:=K1.at et;have K1':=K1;generalize WZ G p1 (.lst [])=G1 at *;wp_walk using F1.e,et1,t2,t5;refine fun p2 Xi=>?_;have K2:=q0D (o:=.lst [.str "else",v1,.ref p1,.ref la]) Xi;have F2:=F1.keep (fun _ _ _ e=>K2.at e) (aJ.nil K2);have FG2:=Zy.kp K2;have R2:=R1.keep (fun _ _ _ e=>K2.at e) (aJ.nil K2);have e2:WZ G1 p2 (.lst [.str "else",v1,.ref p1,.ref la]) p2=some (.lst [.str "else",v1,.ref p1,.ref la]):=aE;have Yk:=(hs.kp (aJ.nil K1')).kp (aJ.nil K2);have np2:p2∉fl::a::la::lb::A:=fun z=>by
     rcases List.mem_cons.mp z with z|z
     ·rw[z,Zy.e] at Xi;cases Xi
     ·obtain⟨o,ho⟩:=Zy.f.al p2 z;rw[ho] at Xi;cases Xi
    have n12:=aL e1 Xi;have acC:=wI Zy.k Xi;have et2:=K2.at et1;replace e1:=K2.at e1;generalize WZ G1 p2 (.lst [.str "else",v1,.ref p1,.ref la])=G2 at *;wp_walk using et2,t2,t5;simp only[List.mem_cons,not_or] at np1 np2;obtain⟨⟨m1,m2,m3⟩,⟨m4,m5⟩,m6,m7⟩:=nd3 nd;have nl:=FG.n;simp only[List.mem_cons,not_or] at nl;refine rest _ _ _ k _ _ (tU.put (f:=(.els s acc,[])) (a:=p2) (la:=p1) (lb:=la) (us:=[]) (bs:=us) (kw:="else") (v1:=v1) et2 ⟨e2,e1,.nil,F2.u,rfl,Yk,F2.s⟩ ?_ R2 ?_ ?_ FG2.k) ?_ (fun _=>⟨Yt,fun f hf=>?_,hm⟩) (fun z=>absurd (Nat.le_trans (by simp) h6) z) (by simp only[List.length_cons] at h6 ⊢;omega)
    ·simp only[List.nodup_cons,List.mem_cons,not_or];exact⟨⟨n12.symm,np2.2.2.1,np2.2.2.2.2⟩,⟨np1.2.2.1,np1.2.2.2.2⟩,m5,m7⟩
    ·simp only[List.mem_cons,not_or];exact⟨fun z=>np2.1 z.symm,fun z=>np1.1 z.symm,nl.2.1,nl.2.2.2⟩
    ·intro x hx;simp only[List.mem_cons] at hx;rcases hx with rfl|rfl|rfl|rfl|hx
     ·exact FG.o _ (by simp)
     ·exact acC
     ·exact acB
     ·exact FG.o _ (by simp)
     ·exact FG.o _ (by simp[hx])
    ·rw[<- hb];cases fs with
     | nil=>cases hb
     | cons f2 fs2=>rfl
    ·rcases List.mem_cons.mp hf with rfl|hf
     ·exact Nat.zero_le _
     ·have:=hac f (by simp[hf]);omega
   rw[if_neg he] at hm;by_cases hd:l = "done"
   ·rw[if_pos hd] at hm;wp_walk using he,hd,et,t3,t4;have P0:=FG.pop R;have nf:∀ x∈[a,la,lb],fl≠x:=fun x hx z=>FG.n (by rw[z];simp only[List.mem_cons,List.not_mem_nil,or_false] at hx ⊢;rcases hx with r|r|r<;>simp[r]);refine⟨(kd,acc),a,la,lb,kw,v1,us,bs,rfl,F.keep (fun x hx o e=>by rw[aV (nf x hx).symm];exact e) (aJ.set FG.e),fun hN H1 K1=>?_,fun m hm2 v H1 hv K1=>?_⟩
    ·rw[hN] at hm;rw[if_pos rfl];exact qN (by rw[<- hm];cases fs<;>rfl) _ (P0.k.trans K1)
    ·rw[hm2] at hm;cases fs with
     | nil =>
      obtain rfl:kd=.bot:=Option.some.inj hb;cases hm2
     | cons f2 fs2 =>
     obtain⟨kd2,X8⟩:=f2;have P1:=P0.kp K1;obtain⟨a2,la2,lb2,as2,A2,kw2,w1,XT,bs2,rfl,rfl,F2,nd2,R2⟩:=P1.top;have et2:=P1.Vh;obtain⟨u1,u2,u3,u4,u5⟩:=last8 (as2.map V.ref).reverse (.ref a2);have acG:=AA F2.s;have aa7:=hac (kd2,X8) (by simp);obtain⟨vp,rfl⟩:∃ p,v=.ref p:=by cases hv<;>exact⟨_,rfl⟩
     wp_walk using et2,u1,F2.e,F2.u;refine⟨by simp only[] at acG aa7;omega,?_⟩;refine rest _ _ _ k _ _ (P1.app F2 nd2 R2 hv) ?_ (fun _=>⟨Yt,fun f hf=>?_,hm⟩) (fun z=>absurd (Nat.le_trans (by simp) h6) z) (by simp only[List.length_cons] at h6 ⊢;omega)
     ·rw[<- hb];cases fs2<;>rfl
     ·rcases List.mem_cons.mp hf with rfl|hf
      ·simp only[List.length_append,List.length_cons,List.length_nil] at aa7 ⊢;omega
      ·have:=hac f (by simp[hf]);omega
   rw[if_neg hd] at hm;wp_walk using he,hd;refine⟨l,rfl,ly,fun hN H1 K1=>?_,fun x hx v H1 hv K1=>?_⟩
   ·rw[hN] at hm;rw[if_pos rfl];exact qN (by rw[<- hm];split<;>rfl) _ (FG.k.trans K1)
   rw[hx] at hm;have F1:=F.keep (fun _ _ _ e=>K1.at e) (aJ.nil K1);have Zy:=FG.kp K1;have R1:=R.keep (fun _ _ _ e=>K1.at e) (aJ.nil K1);cases x with
   | ZR m =>
    obtain⟨hv,hbk⟩:=hv;obtain⟨pa,kw',xs',rfl,ea,hk⟩:=hv.hd8 hbk;wp_walk using ea;by_cases ZZ:60 < k+1
    ·rw[if_pos (show(60:Int) < (k:Int)+1 by omega)];rw[if_pos ZZ] at hm;exact qN hm.symm _ Zy.k
    rw[if_neg (show ¬ (60:Int) < (k:Int)+1 by omega)];rw[if_neg ZZ] at hm;refine fun p hp=>⟨rfl,flat2,?_⟩;have K2:=q0D (o:=.tup [.str "if",.str "while"]) hp;have F2:=F1.keep (fun _ _ _ e=>K2.at e) (aJ.nil K2);have FG2:=Zy.kp K2;have R2:=R1.keep (fun _ _ _ e=>K2.at e) (aJ.nil K2);have YU:=hv.kp (aJ.nil K2);generalize WZ H1 p (.tup [.str "if",.str "while"])=G2 at *;wp_walk using hk,F2.e,F2.u;refine⟨by simp only[] at lnu lac;omega,?_⟩;have ek:(k:Int)+1=((k+1:Nat):Int):=by omega
    rw[ek];refine rest _ _ _ (k+1) _ _ (FG2.app F2 nd R2 YU) ?_ (fun _=>⟨by omega,fun f hf=>?_,hm⟩) (fun z=>absurd h6 z) (by simp only[List.length_cons] at h6 ⊢;omega)
    ·rw[<- hb];cases fs<;>rfl
    ·rcases List.mem_cons.mp hf with rfl|hf
     ·simp only[List.length_append,List.length_cons,List.length_nil] at lac ⊢;omega
     ·have:=hac f (by simp[hf]);omega
   | head i s =>
    obtain⟨pa,u,rfl,ea,su⟩:=hv;wp_walk using ea;by_cases ZZ:60 < k+1
    ·rw[if_pos (show(60:Int) < (k:Int)+1 by omega)];rw[if_pos ZZ] at hm;exact qN hm.symm _ Zy.k
    rw[if_neg (show ¬ (60:Int) < (k:Int)+1 by omega)];rw[if_neg ZZ] at hm;refine fun p hp=>⟨rfl,flat2,?_⟩;have hkw:cE (.str (if i=true then "if" else "while")) lB=true:=by cases i<;>decide +kernel
    have K2:=q0D (o:=.tup [.str "if",.str "while"]) hp;have FG2:=Zy.kp K2;replace ea:=K2.at ea;replace su:=su.kp (aJ.nil K2);have ef:=FG2.e;generalize WZ H1 p (.tup [.str "if",.str "while"])=G2 at *;wp_walk using hkw,ea,ef;refine fun p1 h1 p2 h2 p3 h3=>?_;obtain⟨ef3,FG3⟩:=FG2.push (kw:=if i=true then "if" else "while") (u:=u) (kd:=RI i s) nd h1 h2 h3 (fun G' t=>by cases i<;>exact⟨rfl,su.kp t⟩);have la2:=FG2.f.len;have l7:(((a::as).map V.ref).reverse).length<=6:=by rw[List.length_reverse,List.length_map,la2];exact h6
    wp_walk using ef3;refine⟨by simp only[List.length_reverse,List.length_cons,List.length_map] at l7 ⊢;omega,?_⟩;have ek:(k:Int)+1=((k+1:Nat):Int):=by omega
    rw[ek];simp only[Gb] at hm;refine rest _ _ _ (k+1) _ _ FG3 ?_ (fun z=>⟨by omega,fun f hf=>?_,?_⟩) (fun z=>?_) (by simp only[List.length_cons] at h6 ⊢;omega)
    ·exact hb
    ·rcases List.mem_cons.mp hf with rfl|hf
     ·exact Nat.zero_le _
     ·have:=hac f hf;omega
    ·rw[if_neg (by simp only[List.length_cons] at z;omega)] at hm;exact hm
    ·rw[if_pos (by simp only[List.length_cons] at z;omega)] at hm;exact hm.symm
  ·intro σ G hG;rw[X1,List.length_map,List.drop_length] at hG;obtain⟨fs,as,A,k,v3,v4,v5,rfl,FG,hb,h6,Yt,hac,hm⟩:=hG;have la:=FG.f.len;cases fs with
   | nil=>cases hb
   | cons f0 fs =>
   obtain⟨kd,acc⟩:=f0;obtain⟨a,l1,lb,as,A,kw,v1,us,bs,rfl,rfl,F,nd,R⟩:=FG.top;have ef:=FG.e;cases fs with
   | nil =>
    have:as=[]:=List.length_eq_zero_iff.mp (Nat.succ.inj la);subst this;rw[show(([a]:List Addr).map V.ref).reverse=[.ref a] from rfl] at ef;refine Xa _ _ ?_;clear Xa;wp_walk using ef,F.e,F.u;obtain rfl:kd=.bot:=Option.some.inj hb;exact fun p hp=>q acc hm.symm p us _ aE (F.s.kp (aJ.new hp)) (FG.k.trans (Kp.new hp))
   | cons f1 fs =>
    rw[zK] at hm;have l2:(((a::as).map V.ref).reverse).length=fs.length+2:=by rw[List.length_reverse,List.length_map,la];rfl
    rw[List.map_cons] at l2 ef;refine Xa _ _ ?_;clear Xa;wp_walk using ef,l2;rw[if_pos (by omega)];exact qN hm.symm _ FG.k
theorem Fc{t:Ad}(T:Tx K mg t):bR P w K mg base Xe 37 t.xY t.yM ["text"] MY:=by
 refine T.DJ.ok As (fun vs H Q E h=>?_) (fun W7 A outer s H vs Q E hr h=>?_)
 ·obtain⟨x,rfl,_⟩:=h;rfl
 ·obtain⟨x,rfl,lx,qN,q⟩:=h;refine⟨_,(aD (aM (i:=1) As.nd rfl (Or.inl rfl) (nE PySem.F.plainAttrs_str PySem.F.slot_str_split PySem.F.type_str_split lU (pv 0) (aC aF aB)))
   (aD (aW (aK oM (aX bM (pv 1) (lV iT aG) (fun _ _=>rfl)) aF (nomark _)) (aH (aN dM)) aR)
   (aH (aN (aI (wY T) (hr.mono (by omega)) rfl T.A8 T.qH.kp T.AM .nil pass0 (aC (bT iJ (pv 1) bY (bZ (lV iT aG))) aB)))))),?_⟩
  and_intros
  have rp:=HA x;obtain⟨rows,last,hs⟩:∃ rows last,Txt.split x "\n"=rows++[last]:=⟨_,_,(List.dropLast_concat_getLast (fN x "\n")).symm⟩;simp only[hs,List.dropLast_concat,List.getLast_concat] at rp;rw[rp] at q qN;clear rp;have tw:=pY 10 x;rw[<- eP.1,hs,dC,dF] at tw;wp_walk;refine⟨by decide +kernel,by omega,fun l1 h1=>?_⟩;rw[hs];have N1:=q0D (o:=.lst ((rows++[last]).map V.str)) h1;have e1:WZ H l1 (.lst ((rows++[last]).map V.str)) l1=some (.lst ((rows++[last]).map V.str)):=aE;generalize WZ H l1 (.lst ((rows++[last]).map V.str))=G1 at *;have al:nK ((rows++[last]).map V.str) (-1)=some (.str last):=by rw[List.map_append];exact(last8 _ _).1
  by_cases h:last = ""
  case neg =>
   rw[if_pos h] at qN;wp_walk using al,h;exact qN rfl _ N1
  rw[if_neg (fun z=>z h)] at q qN;subst h;wp_walk using al,e1;refine fun l2 h2=>?_;rw[uF V.str rows ""];exact⟨l2,rows,rfl,aE,fun l hl=>by have:=gH hl;omega,by have:=pM rows;omega,fun z H' k=>qN z H' ((N1.trans (Kp.new h2)).trans k),fun b hb p us H' a c k=>q b hb p us H' a c ((N1.trans (Kp.new h2)).trans k)⟩
theorem Ba{t:Ad}(T:Tx K mg t):bR P w K mg base Xe 1 t.kG t.nU ["self","lines"] (Kg t.aZ):=by
 refine T.DD.ok Be (fun vs H Q E h=>?_) (fun W7 A outer s H vs Q E hr h=>?_)
 ·obtain⟨x,dx,ll,rfl,_⟩:=h;rfl
 ·obtain⟨x,dx,ll,rfl,e,q⟩:=h;refine⟨_,(aD (CT T.cB T.sS (pv 0) (pv 1))
   (aD (CT T.cB T.eJ (pv 0) aG)
   (aH (CT T.cB T.eB (pv 0) aG)))),?_⟩
  and_intros
  wp_walk using e;exact q _ aE (by intro b o e n;simp only[List.mem_cons,List.not_mem_nil,or_false] at n;rw[aV n,aV n,aV n];exact e)
theorem fG{t:Ad}(T:Tx K mg t):bR P w K mg base Xe 1 t.lY t.mD ["self"] (MR t.aZ):=by
 refine T.Cf.ok Ar (fun vs H Q E h=>?_) (fun W7 A outer s H vs Q E hr h=>?_)
 ·obtain⟨rd,dx,ll,rows,i,k,rfl,_⟩:=h;rfl
 ·obtain⟨rd,dx,ll,rows,i,k,rfl,R,q⟩:=h;refine⟨_,(aH (aN (tH (aK nA (tG T.cB T.eJ (pv 0)) (bK bO rfl T.iK cZ (aC (tG T.cB T.sS (pv 0)) aB)) (nomark _)) (aX bM (tG T.cB T.sS (pv 0)) (tG T.cB T.eJ (pv 0)) (fun _ _=>rfl)) dM))),?_⟩
  and_intros
  wp_walk using R.ins,R.lin,List.length_map;unfold ah at q;by_cases h:i < rows.length
  ·rw[List.getElem?_eq_getElem h] at q;rw[if_pos (by omega)];rw[xB (v:=.str rows[i]) (by rw[List.getElem?_map,List.getElem?_eq_getElem h];rfl)];exact q
  ·rw[List.getElem?_eq_none (by omega)] at q;rw[if_neg (by omega)];exact q
theorem eK{t:Ad}(T:Tx K mg t):bR P w K mg base (Xq P w base) 1 t.t7 t.uL ["words"] (NQ t.aP):=by
 refine T.fQ.okE Es (fun vs H Q E h=>?_) (fun W7 A outer s H vs Q E hr h=>?_)
 ·obtain⟨x,rfl,h1⟩:=k6 h;rfl
 ·obtain⟨x,rfl,h1⟩:=k6 h;obtain⟨a,rfl,h2⟩:=bN h1;obtain⟨xs,e,q⟩:=gA h2;refine⟨_,(aD (aW (fW (tL (pv 0) (fun _=>rfl))) (aH (eF throws1 rfl rfl T.cG T.cD.toXCls (aC aF aB))) aR)
   (aH (aN (NI PySem.F.slot_list_pop PySem.F.type_list_pop Gc (pv 0) (aC aG aB))))),?_⟩
  and_intros
  cases xs with
  | nil =>
   wp_walk using e,List.isEmpty_nil;exact q
  | cons y ys =>
   wp_walk using e,List.isEmpty_cons,List.tail_cons;exact q
theorem uX{t:Ad}(T:Tx K mg t):bR P w K mg base Xe 1 t.jV t.jZ ["sign"] NN:=by
 refine T.oA.ok vM (fun vs H Q E h=>?_) (fun W7 A outer s H vs Q E hr h=>?_)
 ·obtain⟨c,rfl,_⟩:=h;rfl
 ·obtain⟨c,rfl,q⟩:=h;refine⟨_,(aH (aN (Ak CK CK aF (pv 0) aF))),?_⟩
  and_intros
  wp_walk;have e1:(([c]:List Nat) < ("a":Str).cps.toList)=(c < 97):=by
   show(([c]:List Nat) < [97])=_;have:=Cw c 97;rw[Bool.eq_iff_iff,decide_eq_true_eq,decide_eq_true_eq] at this;exact propext this
  have e2:(!decide (("z":Str).cps.toList < ([c]:List Nat)))=decide (c<=122):=by
   show(!decide (([122]:List Nat) < [c]))=_;rw[Cw,Bool.eq_iff_iff];simp
  rw[e2];simp only[e1];split
  ·next h =>
   rw[show decide (97<=c)=false by simp;omega,Bool.false_and] at q;exact q
  ·next h =>
   rw[show decide (97<=c)=true by simp;omega,Bool.true_and] at q;exact q
theorem uW{t:Ad}(T:Tx K mg t):bR P w K mg base Xe 2 t.BS t.B9 ["thing"] Et:=by
 refine T.xG.ok HB (fun vs H Q E h=>?_) (fun W7 A outer s H vs Q E hr h=>?_)
 ·obtain⟨x,rfl,_⟩:=h;rfl
 ·obtain⟨x,rfl,hx,q⟩:=h;refine⟨_,(aD (aW (PW.pt (iG (fW (fI (bK Bp rfl T.fO fY (aC (pv 0) (aC (CQ (v:=.ty "str") rfl T.HN B4 rfl) aB))))) (fJ (fW (An BC BC aG (bK bO rfl T.iK cZ (aC (pv 0) aB)) (dR (v:=.int 6) rfl T.B6 ⟨_,rfl⟩)))))) (aH (aN j9)) aR)
   (aH (aN (Aj (iV BD (pv 0) (dR (v:=.ref t.uR) rfl T.GN rfl) (by with_unfolding_all rfl)) (Al (bK (Bo rfl) rfl T.Ng Ic (aC (kN (cl:=[]) (fr:=[]) (N:=["sign"]) rfl (fun _ _ h=>h) (eO.mM rfl rfl rfl rfl) (CS (pv 0)) (fun C s H ex pn=>⟨mP,(aI (uX T) (hr.mono (by omega)) rfl T.zM T.oA.kp T.x9 .nil pass0 (aC (pv 0) aB))⟩)) aB))))))),?_⟩
  and_intros
  have hB:tV x=(decide (1<=x.length)&&(decide (x.length<=6)&&(x.cps.toList.all (fun c=>decide (97<=c)&&decide (c<=122))&&!cE (.str x) mO))):=rfl;wp_walk;refine⟨by omega,?_⟩;by_cases c1:(1:Int)<=(x.length:Int)
  case neg =>
   rw[if_neg c1];wp_walk;rw[hB,show decide (1<=x.length)=false by simp;omega,Bool.false_and] at q;exact q _ Kp.refl
  rw[if_pos c1];wp_walk;by_cases c2:(x.length:Int)<=6
  case neg =>
   rw[if_neg c2];rw[hB,show decide (x.length<=6)=false by simp;omega,Bool.false_and,Bool.and_false] at q;exact q _ Kp.refl
  rw[if_pos c2];rw[show decide (1<=x.length)=true by simp;omega,show decide (x.length<=6)=true by simp;omega,Bool.true_and,Bool.true_and] at hB;refine⟨mO,T.Hy H,rfl,own17,?_⟩;by_cases c3:cE (.str x) mO=true
  ·rw[c3];wp_walk;rw[hB,c3,Bool.not_true,Bool.and_false] at q;exact q _ Kp.refl
  ·rw[show cE (.str x) mO=false from by simpa using c3];wp_walk;refine Cu (fun i xs G=>xs=((x.cps.toList.take i).map fun c=>decide (97<=c)&&decide (c<=122)).map V.bl/\Kp [] H G) ⟨rfl,Kp.refl⟩ ?_ ?_ ?_
   ·rintro i xs G ⟨rfl,_⟩;simp only[List.length_map,List.length_take,Array.length_toList];have:x.cps.size=x.length:=rfl;omega
   ·rintro i c xs G hi hc ⟨rfl,k⟩;wp_walk using bP;refine⟨?_,k⟩;have e:x.cps.toList[i]?=some c:=by simpa using hc
    rw[List.take_add_one,e];simp
   ·rintro xs G ⟨rfl,k⟩ l hl;wp_walk;rw[show x.cps.toList.take x.cps.size=x.cps.toList by rw[<- Array.length_toList,List.take_length]];rw[hB,show cE (.str x) mO=false from by simpa using c3,Bool.not_false,Bool.and_true] at q;have:=q _ (k.trans (Kp.new (o:=.lst ((x.cps.toList.map fun c=>decide (97<=c)&&decide (c<=122)).map V.bl)) hl));rw[List.all_map];exact this
theorem oJ{t:Ad}(T:Tx K mg t):bR P w K mg base (Xq P w base) 3 t.t6 t.uK ["words"] (US t.aP):=by
 refine T.pI.okE wL (fun vs H Q E h=>?_) (fun W7 A outer s H vs Q E hr h=>?_)
 ·obtain⟨wl,ws,rfl,_⟩:=h;rfl
 ·obtain⟨wl,ws,rfl,e,hw,q,qE⟩:=h;refine⟨_,(aD (aM (i:=1) wL.nd rfl (Or.inl rfl) (aI (eK T) (hr.mono (by omega)) rfl T.gU T.fQ.kp T.gR .nil (pass1 fun _ _ _ z=>z) (aC (pv 0) aB)))
   (aD (aW (fW (fI (aI (uW T) (hr.mono (by omega)) rfl T.Cy T.xG.kp T.BX .nil pass0 (aC (pv 1) aB)))) (aH (eF throws1 rfl rfl T.cG T.cD.toXCls (aC aF aB))) aR)
   (aH (aN (pv 1))))),?_⟩
  and_intros
  cases ws with
  | nil =>
   wp_walk using e,List.map_nil;exact qE rfl _ Kp.refl
  | cons w r =>
   wp_walk using e,List.map_cons;refine⟨hw.hd,fun H' K'=>?_⟩;cases hn:tV w with
   | true =>
    wp_walk using hn;exact q w r (by rw[s8,if_pos hn]) _ (K'.at aE) (Ui K')
   | false =>
    wp_walk using hn;exact qE (by rw[s8,if_neg (by rw[hn];decide)]) _ (Ui K')
theorem Ef{t:Ad}(T:Tx K mg t):bR P w K mg base Xe 1 t.tW t.uG ["sign"] NM:=by
 refine T.Bt.ok Er (fun vs H Q E h=>?_) (fun W7 A outer s H vs Q E hr h=>?_)
 ·obtain⟨c,rfl,_⟩:=h;rfl
 ·obtain⟨c,rfl,q⟩:=h;refine⟨_,(aH (aN (Ak CK CK aF (pv 0) aF))),?_⟩
  and_intros
  wp_walk;have e1:(([c]:List Nat) < ("0":Str).cps.toList)=(c < 48):=by
   show(([c]:List Nat) < [48])=_;have:=Cw c 48;rw[Bool.eq_iff_iff,decide_eq_true_eq,decide_eq_true_eq] at this;exact propext this
  have e2:(!decide (("9":Str).cps.toList < ([c]:List Nat)))=decide (c<=57):=by
   show(!decide (([57]:List Nat) < [c]))=_;rw[Cw,Bool.eq_iff_iff];simp
  rw[e2];simp only[e1];split
  ·next h =>
   rw[show decide (48<=c)=false by simp;omega,Bool.false_and] at q;exact q
  ·next h =>
   rw[show decide (48<=c)=true by simp;omega,Bool.true_and] at q;exact q
theorem wX{t:Ad}(T:Tx K mg t):bR P w K mg base Xe 2 t.kR t.kW ["word","least","greatest"] Gr:=by
 refine T.qG.ok nF (fun vs H Q E h=>?_) (fun W7 A outer s H vs Q E hr h=>?_)
 ·obtain⟨x,lo,hi,rfl,_⟩:=h;rfl
 ·obtain⟨x,lo,hi,rfl,hx,hb,q⟩:=h;refine⟨_,(aD (aM (i:=3) nF.nd rfl (Or.inl rfl) (tH (fI (nE PySem.F.plainAttrs_str PySem.F.slot_str_startswith PySem.F.type_str_startswith A9 (pv 0) (aC aF aB))) (bT iJ (pv 0) (bZ aG) bY) (pv 0)))
   (aD (aW (fW (An BC BC aG (bK bO rfl T.iK cZ (aC (pv 3) aB)) (bK bO rfl T.iK cZ (aC (bU uE rfl T.HN B4 (aC (bK (GR rfl) rfl T.RF Oz (aC (lV iT (pv 1)) (aC (pv 2) aB))) aB)) aB)))) (aH (aN j9)) aR)
   (aD (aW (PW.pt (iG (fW (fI (bK (Bo rfl) rfl T.Ng Ic (aC (kN (cl:=[]) (fr:=[]) (N:=["sign"]) rfl (fun _ _ h=>h) (eO.mM rfl rfl rfl rfl) (CS (pv 3)) (fun C s H ex pn=>⟨mP,(aI (Ef T) (hr.mono (by omega)) rfl T.Hm T.Bt.kp T.GI .nil pass0 (aC (pv 0) aB))⟩)) aB)))) (fJ (PW.pt (rM (aK bW (aX bM (pv 3) aG (fun _ _=>rfl)) aF (nomark _)) (mQ (aK oM (pv 0) aF (nomark _)))))))) (aH (aN j9)) aR)
   (aH (aN (Ak BC BC (pv 1) (bU lM rfl T.vQ jX (aC (pv 0) aB)) (pv 2))))))),?_⟩
  and_intros
  wp_walk;have fin:∀(b:Bool) (G:Hp),Kp [] H G->b=kF x lo hi->Q (.bl b) G:=fun b G k e=>by rw[e];exact q G k
  have hW:kF x lo hi=(decide (1<=(eU x.cps.toList).length)&&decide ((eU x.cps.toList).length<=(Str.ofString (toString (if hi > -lo then hi else -lo))).length)&&(eU x.cps.toList).all (fun c=>decide (48<=c)&&decide (c<=57))&&!(decide ((eU x.cps.toList)[0]?=some 48)&&!decide (x=Str.ofString "0"))&&(match intText? x with|some v=>decide (lo<=v)&&decide (v<=hi)|none=>false)):=rfl;have M0:0<=(if hi > -lo then hi else -lo)/\(if hi > -lo then hi else -lo)<=1000000000000:=by split<;>omega
  have abY:(if hi > -lo then hi else -lo).natAbs.log2 < 1920:=mlog M0.1 M0.2;have acK:(Str.ofString (toString (if hi > -lo then hi else -lo))).length<=13:=mlen M0.1 M0.2;have ef0:=Ma x;have ns:=JM (x:=x);have fl:=n9 x.cps.toList;generalize (if hi > -lo then hi else -lo)=M at *;generalize (Str.ofString (toString M)).length=L at *;generalize eU x.cps.toList=F at *;have lS:=lX x (some 1) none;generalize Txt.slice x (some 1) none=z1 at *;apply Mi z1 x
  ·exact fun _=>⟨by omega,by omega⟩
  ·exact fun _=>by omega
  intro z hz;have lz:z.length<=x.length:=by rw[hz];split<;>omega
  have ef:z.cps.toList=F:=by rw[hz,<- ef0];first|done|(split<;>rfl)
  have lf:(z).length=F.length:=by rw[<- ef,Array.length_toList];rfl
  by_cases c1:(1:Int)<=((z).length:Int)
  case neg =>
   rw[if_neg c1];exact fin false H Kp.refl (by rw[hW,decide_eq_false (show ¬ 1<=F.length by omega)];rfl)
  rw[if_pos c1];refine⟨abY,by omega,?_⟩;by_cases c2:((z).length:Int)<=(L:Int)
  case neg =>
   rw[if_neg c2];exact fin false H Kp.refl (by rw[hW,decide_eq_true (show 1<=F.length by omega),decide_eq_false (show ¬ F.length<=L by omega)];rfl)
  rw[if_pos c2];rw[decide_eq_true (show 1<=F.length by omega),decide_eq_true (show F.length<=L by omega),Bool.true_and,Bool.true_and] at hW;refine Cu (fun i xs G=>xs=(((z).cps.toList.take i).map fun c=>decide (48<=c)&&decide (c<=57)).map V.bl/\Kp [] H G) ⟨rfl,Kp.refl⟩ ?_ ?_ ?_
  ·rintro i xs G ⟨rfl,_⟩;simp only[List.length_map,List.length_take,Array.length_toList];have:(z).cps.size=(z).length:=rfl;omega
  ·rintro i c xs G hi hc ⟨rfl,k⟩;wp_walk using bP;refine⟨?_,k⟩;have e:(z).cps.toList[i]?=some c:=by simpa using hc
   rw[List.take_add_one,e];simp
  ·rintro xs G ⟨rfl,k⟩ l hl;rw[show(z).cps.toList.take (z).cps.size=F by rw[<- Array.length_toList,List.take_length,ef]];have KN:=k.trans (q0D (o:=.lst ((F.map fun c=>decide (48<=c)&&decide (c<=57)).map V.bl)) hl);have el:WZ G l (.lst ((F.map fun c=>decide (48<=c)&&decide (c<=57)).map V.bl)) l=some (.lst ((F.map fun c=>decide (48<=c)&&decide (c<=57)).map V.bl)):=aE;generalize WZ G l (.lst ((F.map fun c=>decide (48<=c)&&decide (c<=57)).map V.bl))=G2 at *;wp_walk using el;rw[List.all_map,show((id∘fun c=>decide (48<=c)&&decide (c<=57)):Nat->Bool)=fun c=>decide (48<=c)&&decide (c<=57) from rfl];by_cases c3:F.all (fun c=>decide (48<=c)&&decide (c<=57))=true
   case neg =>
    rw[Bool.not_eq_true] at c3;rw[c3];wp_walk;exact fin false _ KN (by rw[hW,c3];rfl)
   rw[c3];rw[c3,Bool.true_and] at hW;wp_walk;refine⟨by omega,?_⟩;have ad:∀ c∈F,48<=c/\c<=57:=fun c hc=>by have:=List.all_eq_true.mp c3 c hc;simpa using this
   have lxx:x.length=x.cps.toList.length:=by rw[Array.length_toList];rfl
   have lx:x.length<=640:=by omega
   cases F with
   | nil=>simp at lf;omega
   | cons c0 r0 =>
    obtain⟨nv,hnv⟩:=ns ad (by simp) (by omega);rw[ef];wp_walk using hnv;have hz:((⟨#[c0]⟩:Str)=Str.ofString "0")=(c0=48):=propext ⟨fun z=>by have:=congrArg (fun y:Str=>y.cps.toList) z;rw[eP.2.2.2.1] at this;simpa using this,fun z=>by rw[z,eP.2.2.2.1]⟩;rw[hnv] at hW;simp only[List.getElem?_cons_zero,Option.some.injEq] at hW;have last:(!(decide (c0=48)&&!decide (x=Str.ofString "0")))=true->(if lo<=nv then Q (.bl (decide (nv<=hi))) G2 else Q (.bl false) G2):=fun ht=>by
     rw[ht,Bool.true_and] at hW;split
     ·next hlo=>exact fin _ _ KN (by rw[hW,decide_eq_true hlo,Bool.true_and])
     ·next hlo=>exact fin _ _ KN (by rw[hW,decide_eq_false hlo,Bool.false_and])
    simp only[hz];split
    ·next h0 =>
     split
     ·next hx0=>exact⟨lx,last (by simp[hx0])⟩
     ·next hx0=>exact fin false _ KN (by rw[hW];simp[h0,hx0])
    ·next h0=>exact⟨lx,last (by simp[h0])⟩
theorem Bh{t:Ad}(T:Tx K mg t){n d:Nat}(hn:6<=n)(IH:bR P w K mg base (Xq P w base) n t.gP t.gS ["words","deep"] (NP t.aP d)):bR P w K mg base (Xq P w base) (n+1) t.nR t.nZ ["words","deep"] (UR t.aP d):=by
 refine T.vZ.okE iW (fun vs H Q E h=>?_) (fun W7 A outer s H vs Q E hr h=>?_)
 ·obtain⟨d,wl,dp,ws,rfl,rfl,_⟩:=h;rfl
 ·obtain⟨d,wl,dp,ws,rfl,rfl,e,hd,hw,q,qE⟩:=h;refine⟨_,(aD (aM (i:=2) iW.nd rfl (Or.inl rfl) (aI IH (hr.mono (by omega)) rfl T.cR T.cJ.kp T.cQ .nil (pass1 fun _ _ _ z=>z) (aC (pv 0) (aC (pv 1) aB))))
   (aD (aM (i:=3) iW.nd rfl (Or.inl rfl) (aI (eK T) (hr.mono (by omega)) rfl T.gU T.fQ.kp T.gR .nil (pass1 fun _ _ _ z=>z) (aC (pv 0) aB)))
   (aD (aM (i:=4) iW.nd rfl (Or.inl rfl) (aI IH (hr.mono (by omega)) rfl T.cR T.cJ.kp T.cQ .nil (pass1 fun _ _ _ z=>z) (aC (pv 0) (aC (pv 1) aB))))
   (aD (aW (PW.pt (iG (aK BD (pv 3) (dR (v:=.ref t.ET) rfl T.OG rfl) (by with_unfolding_all rfl)) (fJ (aK oM (aI (eK T) (hr.mono (by omega)) rfl T.gU T.fQ.kp T.gR .nil (pass1 fun _ _ _ z=>z) (aC (pv 0) aB)) aF (nomark _))))) (aH (eF throws1 rfl rfl T.cG T.cD.toXCls (aC aF aB))) aR)
   (aH (aN (bA (aC (pv 3) (aC (pv 2) (aC (pv 4) aB)))))))))),?_⟩
  and_intros
  wp_walk;refine⟨d,rfl,wl,dp,ws,rfl,e,hd,hw,fun a r1 h1 v1 H1 hv1 e1 K1=>?_,fun h1 H1 K1=>qE (by unfold gY;rw[h1]) _ K1⟩;have hw1:=hw.say h1;cases r1 with
  | nil =>
   wp_walk using e1,List.map_nil;exact qE (by unfold gY;rw[h1]) _ K1
  | cons g r2 =>
  wp_walk using e1,List.map_cons;have K2:=K1.trans (Kp.lI (a:=wl) (H:=H1) (o:=.lst (r2.map V.str)));have w2:WZ H1 wl (.lst (r2.map V.str)) wl=some (.lst (r2.map V.str)):=aE;have s2:=hv1.kp (aJ.set (ys:=r2.map V.str) e1);generalize WZ H1 wl (.lst (r2.map V.str))=G2 at *;refine⟨d,rfl,wl,dp,r2,rfl,w2,hd,hw1.tl,fun b r3 h3 v3 H3 hv3 e3 K3=>?_,fun h3 H3 K3=>qE (by unfold gY;rw[h1];simp only[];rw[h3]) _ (K2.trans K3)⟩;have s3:=s2.kp (aJ.w K3 w2);wp_walk;refine⟨_,T.QX H3,rfl,flat5,?_⟩;cases hg:cE (.str g) ND with
  | false =>
   wp_walk using hg;exact qE (by
    unfold gY;rw[h1];simp only[];rw[h3];cases r3 with
    | nil=>rfl
    | cons c r4=>simp only[];rw[if_neg (fun z=>by rw[hg] at z;cases z.1)]) _ (K2.trans K3)
  | true =>
  cases r3 with
  | nil =>
   wp_walk using hg,e3,List.map_nil;exact qE (by unfold gY;rw[h1];simp only[];rw[h3]) _ (K2.trans K3)
  | cons c r4 =>
  wp_walk using hg,e3,List.map_cons;by_cases hc:c = ")"
  ·rw[if_pos hc];refine fun p4 Xb=>?_;have T4:=aJ.set (ys:=r4.map V.str) e3;exact q _ _ (by unfold gY;rw[h1];simp only[];rw[h3];simp only[];rw[if_pos ⟨hg,hc⟩]) _ _ (.two (by rw[CY hg];exact aE) ((s3.kp T4).kp (aJ.new Xb)) ((hv3.kp T4).kp (aJ.new Xb))) ((q0D Xb).at aE) (((K2.trans K3).trans Kp.lI).trans (Kp.new Xb))
  ·rw[if_neg hc];exact qE (by unfold gY;rw[h1];simp only[];rw[h3];simp only[];rw[if_neg fun z=>hc z.2]) _ ((K2.trans K3).trans Kp.lI)
theorem qO{t:Ad}(T:Tx K mg t){n d:Nat}(hn:6<=n)(IH:bR P w K mg base (Xq P w base) n t.gP t.gS ["words","deep"] (NP t.aP d)):bR P w K mg base (Xq P w base) (n+2) t.gP t.gS ["words","deep"] (Kj t.aP d):=by
 refine T.cJ.okE qL (fun vs H Q E h=>?_) (fun W7 A outer s H vs Q E hr h=>?_)
 ·obtain⟨wl,dp,ws,rfl,_⟩:=h;rfl
 ·obtain⟨wl,dp,ws,rfl,e,hd,hw,q,qE⟩:=h;refine⟨_,(aD (aW (aK qK (pv 1) (dR (v:=.int 6) rfl T.yD ⟨_,rfl⟩) (nomark _)) (aH (eF throws1 rfl rfl T.cG T.cD.toXCls (aC aF aB))) aR)
   (aD (aM (i:=2) qL.nd rfl (Or.inl rfl) (aI (eK T) (hr.mono (by omega)) rfl T.gU T.fQ.kp T.gR .nil (pass1 fun _ _ _ z=>z) (aC (pv 0) aB)))
   (aD (aW (aK iQ (pv 2) (bA (aC aF (aC aF (aC aF aB)))) (by with_unfolding_all rfl)) (aH (aN (bA (aC (pv 2) aB)))) aR)
   (aD (aW (aK iQ (pv 2) (bA (aC aF (aC aF aB))) (by with_unfolding_all rfl)) (aH (aN (bA (aC (pv 2) (aC (aI IH (hr.mono (by omega)) rfl T.cR T.cJ.kp T.cQ .nil (pass1 fun _ _ _ z=>z) (aC (pv 0) (aC (aS aQ (pv 1) aG) aB))) aB))))) aR)
   (aD (aW (aK bW (pv 2) aF (nomark _)) (aH (aN (aI (Bh T hn IH) (hr.mono (by omega)) rfl T.Ec T.vZ.kp T.Du .nil (pass1 fun _ _ _ z=>z) (aC (pv 0) (aC (aS aQ (pv 1) aG) aB))))) aR)
   (aD (aW (fI (aI (wX T) (hr.mono (by omega)) rfl T.A7 T.qG.kp T.AL .nil pass0 (aC (pv 2) (aC (lV iT (dR (v:=.int 1000000000) rfl T.nT ⟨_,rfl⟩)) (aC (dR (v:=.int 1000000000) rfl T.nT ⟨_,rfl⟩) aB))))) (aH (aN (bA (aC aF (aC (bU lM rfl T.vQ jX (aC (pv 2) aB)) aB))))) aR)
   (aD (aW (fI (aI (uW T) (hr.mono (by omega)) rfl T.Cy T.xG.kp T.BX .nil pass0 (aC (pv 2) aB))) (aH (aN (bA (aC aF (aC (pv 2) aB))))) aR)
   (aH (eF throws1 rfl rfl T.cG T.cD.toXCls (aC aF aB)))))))))),?_⟩
  and_intros
  cases d with
  | zero =>
   wp_walk;rw[if_pos (by omega)];exact qE rfl _ Kp.refl
  | succ d =>
  cases ws with
  | nil =>
   wp_walk using e,List.map_nil;rw[if_neg (by omega)];exact qE rfl _ Kp.refl
  | cons w0 r =>
  rw[jE] at q qE;have Zg:=hw.hd;wp_walk using e,List.map_cons;rw[if_neg (by omega)];refine fun p hp=>⟨rfl,flat3,?_⟩;have K1:=(Kp.lI (a:=wl) (H:=H) (o:=.lst (r.map V.str))).trans (Kp.new (S:=[wl]) (o:=.tup [.str "none",.str "arg",.str "now"]) hp);have w1:=(q0D (o:=.tup [.str "none",.str "arg",.str "now"]) hp).at (aE (H:=H) (a:=wl) (o:=.lst (r.map V.str)));generalize WZ (WZ H wl (.lst (r.map V.str))) p (.tup [.str "none",.str "arg",.str "now"])=G at *;cases h3:cE (.str w0) l3 with
  | true =>
   rw[if_pos h3] at q;wp_walk using h3;exact fun p2 Xi=>q _ _ rfl _ _ (bC.l3 h3 aE) ((q0D Xi).at w1) (K1.trans (Kp.new Xi))
  | false =>
  rw[if_neg (by rw[h3];decide)] at q qE;wp_walk using h3;refine fun p2 Xi=>⟨rfl,flat2,?_⟩;have K2:=K1.trans (Kp.new (S:=[wl]) (o:=.tup [.str "answer",.str "not"]) Xi);have w2:=(q0D (o:=.tup [.str "answer",.str "not"]) Xi).at w1;generalize WZ G p2 (.tup [.str "answer",.str "not"])=G2 at *;cases h2:cE (.str w0) l2 with
  | true =>
   rw[if_pos h2] at q qE;wp_walk using h2;refine⟨d,rfl,wl,dp+1,r,rfl,w2,by omega,hw.tl,fun s r' hs v H3 hv e3 K3=>?_,fun hs H3 K3=>qE (by rw[hs]) _ (K2.trans K3)⟩;wp_walk;exact fun p4 Xb=>q _ _ (by rw[hs]) _ _ (bC.l2 h2 aE (hv.kp (aJ.new Xb))) ((q0D Xb).at e3) ((K2.trans K3).trans (Kp.new Xb))
  | false =>
  rw[if_neg (by rw[h2];decide)] at q qE;wp_walk using h2;by_cases X4:w0 = "("
  ·rw[if_pos X4] at q qE;rw[if_pos X4];wp_walk;exact⟨d,wl,dp+1,r,rfl,rfl,w2,by omega,hw.tl,fun s r' hs v H3 hv e3 K3=>q s r' hs v H3 hv e3 (K2.trans K3),fun hs H3 K3=>qE hs _ (K2.trans K3)⟩
  rw[if_neg X4] at q qE;rw[if_neg X4];wp_walk;refine⟨by omega,fun H3 K3=>?_⟩;have K3':=K2.trans (Kp.of (S:=[wl]) K3.same);have w3:=K3.at w2;cases hn:kF w0 (-1000000000) 1000000000 with
  | true =>
   rw[if_pos hn] at q;obtain⟨i,hi,li⟩:=CD hn;wp_walk using hn,hi;refine⟨by omega,fun p4 Xb=>?_⟩;exact q _ _ rfl _ _ (by rw[hi];exact .num aE) ((q0D Xb).at w3) (K3'.trans (Kp.new Xb))
  | false =>
  rw[if_neg (by rw[hn];decide)] at q qE;wp_walk using hn;refine⟨by omega,fun H4 K4=>?_⟩;have K4':=K3'.trans (Kp.of (S:=[wl]) K4.same);have w4:=K4.at w3;cases hb:tV w0 with
  | true =>
   rw[if_pos hb] at q;wp_walk using hb;exact fun p4 Xb=>q _ _ rfl _ _ (.name aE) ((q0D Xb).at w4) (K4'.trans (Kp.new Xb))
  | false =>
  rw[if_neg (by rw[hb];decide)] at qE;wp_walk using hb;exact qE rfl _ K4'
theorem cL{t:Ad}(T:Tx K mg t):∀ d,bR P w K mg base (Xq P w base) (2 * d+8) t.gP t.gS ["words","deep"] (Kj t.aP d)
 | 0=>qO T (Nat.le_refl 6) ⟨fun _ _ _ _ x=>by (obtain⟨_,h,_⟩:=x;exact absurd h (by omega)),fun _ _ _ _ _ _ _ _ _ _ _ _ _ x=>by (obtain⟨_,h,_⟩:=x;exact absurd h (by omega))⟩
 | d+1=>qO T (by omega) ((cL T d).imp fun _ _ _ _ ⟨d',h,x⟩=>by cases h;exact x)
theorem Bd{t:Ad}(T:Tx K mg t):bR P w K mg base (Xq P w base) 22 t.nS t.n8 ["words"] (Rm t.aP):=by
 refine T.wA.okE qM (fun vs H Q E h=>?_) (fun W7 A outer s H vs Q E hr h=>?_)
 ·obtain⟨wl,ws,rfl,_⟩:=h;rfl
 ·obtain⟨wl,ws,rfl,e,hw,q,qE⟩:=h;refine⟨_,(aD (aM (i:=1) qM.nd rfl (Or.inl rfl) (bF (aC (aI (cL T 6) (hr.mono (by omega)) rfl T.cR T.cJ.kp T.cQ .nil (pass1 fun _ _ _ z=>z) (aC (pv 0) (aC aG aB))) aB)))
   (aD (tK PassesOwn.leaving (PW.pt (rM (tL (pv 0) (fun _=>rfl)) (mQ (aK nA (bK bO rfl T.iK cZ (aC (pv 1) aB)) (dR (v:=.int 4) rfl T.Dw ⟨_,rfl⟩) (nomark _))))) (aH (eA (iF (pv 1) (aI (cL T 6) (hr.mono (by omega)) rfl T.cR T.cJ.kp T.cQ .nil (pass1 fun _ _ _ z=>z) (aC (pv 0) (aC aG aB)))))))
   (aH (aN (bU eX rfl T.iU fB (aC (pv 1) aB)))))),?_⟩
  and_intros
  wp_walk;refine⟨wl,1,ws,rfl,e,by decide,hw,fun s0 r0 h0 v1 H1 hv1 e1 K1=>?_,fun h0 H1 K1=>qE (by unfold gF;rw[h0]) _ K1⟩;wp_walk;refine fun sl X5=>?_;have KN:=q0D (o:=.lst [v1]) X5;have nsw:wl≠sl:=aL e1 X5;have Zb:H sl=none:=by
   cases hz:H sl with
   | none=>rfl
   | some o=>rw[K1.at1 hz nsw.symm] at X5;cases X5
  have hR:gF ws=iM 3 [s0] r0:=by unfold gF;rw[h0]
  rw[hR] at q qE;obtain⟨W,hW⟩:∃ W:Nat->St->Hp->Prop,∀ m σ G,W m σ G = ∃(us:List V) (ss:List Say) (r:List Str),σ=[some (.ref wl),some (.ref sl)]/\G sl=some (.lst us)/\cT G us ss/\ss.length+m=4/\G wl=some (.lst (r.map V.str))/\WL r/\iM 3 [s0] r0=iM m ss r/\Kp [wl] H G:=⟨_,fun _ _ _=>rfl⟩;refine⟨W,⟨3,?_⟩,?_⟩
  ·rw[hW];exact⟨[v1],[s0],r0,rfl,aE,.cons (hv1.kp (aJ.new X5)) .nil,rfl,KN.at e1,hw.say h0,rfl,K1.trans (Kp.new X5)⟩
  intro m σ G hG;rw[hW] at hG;obtain⟨us,ss,r,rfl,eS,hU,hm,eW,hwr,hP,KG⟩:=hG;have ln:=hU.ln;rw[hP] at q qE;have back:∀(XT:List V) (ss2:List Say) (r2:List Str) (G2:Hp) (m2:Nat),m=m2+1->G2 sl=some (.lst XT)->cT G2 XT ss2->ss2.length+m2=4->G2 wl=some (.lst (r2.map V.str))->WL r2->iM m ss r=iM m2 ss2 r2->Kp [wl] H G2->∃ m',m' < m/\W m' [some (.ref wl),some (.ref sl)] G2:=fun XT ss2 r2 G2 m2 hm2 a b c d e f g=>by
   refine⟨m2,by omega,?_⟩;rw[hW];exact⟨XT,ss2,r2,rfl,a,b,c,d,e,hP.trans f,g⟩
  clear hW;have stop:iM m ss r=some (ss,r)->∀ p,G p=none->Q (.ref p) (WZ G p (.tup us)):=fun z p hp=>q ss r z p us _ aE (hU.kp (aJ.new hp)) ((q0D hp).at eW) (KG.trans (Kp.new hp));cases r with
  | nil =>
   wp_walk using eW,eS,List.map_nil,List.isEmpty_nil;exact stop (CO _ _)
  | cons w1 r1 =>
  cases m with
  | zero =>
   wp_walk using eW,eS,List.map_cons,List.isEmpty_cons;rw[if_neg (by omega)];wp_walk using eS;exact stop rfl
  | succ m =>
  rw[pR] at qE;wp_walk using eW,eS,List.map_cons,List.isEmpty_cons;rw[if_pos (by omega)];refine⟨fun σ' H'=>∃ m',m' < m+1/\W m' σ' H',fun _ _ h=>h,?_⟩;wp_walk using eS;refine⟨wl,1,w1::r1,rfl,eW,by decide,hwr,fun s2 r2 h2 v2 H2 YU e2 K2=>?_,fun h2 H2 K2=>qE (by rw[h2]) _ (KG.trans K2)⟩;have ZD:=K2.at1 eS nsw.symm;wp_walk using ZD;have T2:=aJ.w K2 eW;have T3:=aJ.set (ys:=us++[v2]) ZD;refine⟨by omega,back _ _ _ _ m rfl aE (((hU.kp T2).kp T3).NL (YU.kp T3)) (by rw[List.length_append];simp only[List.length_cons,List.length_nil];omega) (by rw[aV nsw];exact e2) (hwr.say h2) (by rw[pR,h2]) ?_⟩;exact fun b o eb nb=>by
   have:=(KG.trans K2) b o eb nb;rw[aV (fun z=>?_)]
   ·exact this
   ·subst z;exact absurd eb (by rw[Zb];intro z;cases z)
theorem CI{t:Ad}(T:Tx K mg t):bR P w K mg base (Xq P w base) 24 t.qX t.rE ["name","words"] (UQ t.aP):=by
 refine T.y6.okE tQ (fun vs H Q E h=>?_) (fun W7 A outer s H vs Q E hr h=>?_)
 ·obtain⟨wl,x,ws,rfl,_⟩:=h;rfl
 ·obtain⟨wl,x,ws,rfl,e,hw,q,qE⟩:=h;refine⟨_,(aD (aM (i:=2) tQ.nd rfl (Or.inl rfl) (tH (tL (pv 1) (fun _=>rfl)) (aX bM (pv 1) aG (fun _ _=>rfl)) aF))
   (aD (aW (aK pQ (pv 2) (bA (aC aF (aC aF (aC aF (aC aF (aC aF aB)))))) (by with_unfolding_all rfl)) (aH (aN (bA (aC aF (aC (pv 0) (aC (aI (cL T 6) (hr.mono (by omega)) rfl T.cR T.cJ.kp T.cQ .nil (pass1 fun _ _ _ z=>z) (aC (pv 1) (aC aG aB))) aB)))))) aR)
   (aD (eA (aI (eK T) (hr.mono (by omega)) rfl T.gU T.fQ.kp T.gR .nil (pass1 fun _ _ _ z=>z) (aC (pv 1) aB)))
   (aD (aW (aK bW (pv 2) aF (nomark _)) (aH (aN (bA (aC (pv 2) (aC (pv 0) (aC (aI (cL T 6) (hr.mono (by omega)) rfl T.cR T.cJ.kp T.cQ .nil (pass1 fun _ _ _ z=>z) (aC (pv 1) (aC aG aB))) aB)))))) aR)
   (aD (aW (aK bW (pv 2) aF (nomark _)) (aH (aN (bA (aC (pv 2) (aC (pv 0) (aC (aI (Bd T) (hr.mono (by omega)) rfl T.Ed T.wA.kp T.Dv .nil (pass1 fun _ _ _ z=>z) (aC (pv 1) aB)) aB)))))) aR)
   (aD (aW (aK bW (pv 2) aF (nomark _)) (aH (aN (bA (aC (pv 2) (aC (pv 0) (aC (aI (oJ T) (hr.mono (by omega)) rfl T.uV T.pI.kp T.uC .nil (pass1 fun _ _ _ z=>z) (aC (pv 1) aB)) aB)))))) aR)
   (aH (aN (bA (aC (pv 2) (aC (pv 0) (aC (aI (oJ T) (hr.mono (by omega)) rfl T.uV T.pI.kp T.uC .nil (pass1 fun _ _ _ z=>z) (aC (pv 1) aB)) (aC (aI (cL T 6) (hr.mono (by omega)) rfl T.cR T.cJ.kp T.cQ .nil (pass1 fun _ _ _ z=>z) (aC (pv 1) (aC aG aB))) aB))))))))))))),?_⟩
  and_intros
  cases ws with
  | nil =>
   wp_walk using e,List.map_nil,List.isEmpty_nil;refine fun p hp=>⟨rfl,flat5,?_⟩;have KN:=q0D (o:=.tup [.str "order",.str "child",.str "timer",.str "wait",.str "hear"]) hp;have e1:=KN.at e;have K1:Kp [wl] H _:=KN.mono (by simp);generalize WZ H p (.tup [.str "order",.str "child",.str "timer",.str "wait",.str "hear"])=G at *;wp_walk using T9;exact⟨wl,1,[],rfl,e1,by decide,hw,fun _ _ h=>(nomatch h),fun _ H2 K2=>qE rfl _ (K1.trans K2)⟩
  | cons k r =>
  rw[Ag] at q qE;wp_walk using e,List.map_cons,List.isEmpty_cons;refine fun p hp=>⟨rfl,flat5,?_⟩;have KN:=q0D (o:=.tup [.str "order",.str "child",.str "timer",.str "wait",.str "hear"]) hp;have e1:=KN.at e;have K1:Kp [wl] H _:=KN.mono (by simp);generalize WZ H p (.tup [.str "order",.str "child",.str "timer",.str "wait",.str "hear"])=G at *;cases h5:cE (.str k) l5 with
  | false =>
   rw[if_pos h5] at q qE;wp_walk using h5;refine⟨wl,1,k::r,rfl,e1,by decide,hw,fun s r' hs v H2 hv e2 K2=>?_,fun hs H2 K2=>qE (by rw[hs]) _ (K1.trans K2)⟩;wp_walk;exact fun p4 Xb=>q _ _ (by rw[hs]) _ _ (.set aE (hv.kp (aJ.new Xb))) ((q0D Xb).at e2) ((K1.trans K2).trans (Kp.new Xb))
  | true =>
  rw[if_neg (by rw[h5];decide)] at q qE;wp_walk using h5,e1,List.map_cons;have K2:=K1.trans (Kp.lI (a:=wl) (H:=G) (o:=.lst (r.map V.str)));have e2:WZ G wl (.lst (r.map V.str)) wl=some (.lst (r.map V.str)):=aE;generalize WZ G wl (.lst (r.map V.str))=G2 at *;by_cases k1:k = "timer"
  ·rw[if_pos k1] at q qE;rw[if_pos k1];wp_walk;refine⟨wl,1,r,rfl,e2,by decide,hw.tl,fun s r' hs v H3 hv e3 K3=>?_,fun hs H3 K3=>qE (by rw[hs]) _ (K2.trans K3)⟩;wp_walk;exact fun p4 Xb=>q _ _ (by rw[hs]) _ _ (.W4 (by rw[<- k1];exact aE) (hv.kp (aJ.new Xb))) ((q0D Xb).at e3) ((K2.trans K3).trans (Kp.new Xb))
  rw[if_neg k1] at q qE;rw[if_neg k1];by_cases k2:k = "wait"
  ·rw[if_pos k2] at q qE;rw[if_pos k2];wp_walk;refine⟨wl,r,rfl,e2,hw.tl,fun ss r' hs p3 us H3 h3 hU e3 K3=>?_,fun hs H3 K3=>qE (by rw[hs]) _ (K2.trans K3)⟩;wp_walk;exact fun p4 Xb=>q _ _ (by rw[hs]) _ _ (.wait (by rw[<- k2];exact aE) ((q0D Xb).at h3) (hU.kp (aJ.new Xb))) ((q0D Xb).at e3) ((K2.trans K3).trans (Kp.new Xb))
  rw[if_neg k2] at q qE;rw[if_neg k2];by_cases k3:k = "hear"
  ·rw[if_pos k3] at q qE;rw[if_pos k3];wp_walk;refine⟨wl,r,rfl,e2,hw.tl,fun y r' hs H3 e3 K3=>?_,fun hs H3 K3=>qE (by rw[hs]) _ (K2.trans K3)⟩;wp_walk;exact fun p4 Xb=>q _ _ (by rw[hs]) _ _ (.W9 (by rw[<- k3];exact aE)) ((q0D Xb).at e3) ((K2.trans K3).trans (Kp.new Xb))
  rw[if_neg k3] at q qE;rw[if_neg k3];wp_walk;refine⟨wl,r,rfl,e2,hw.tl,fun y r1 hs H3 e3 K3=>?_,fun hs H3 K3=>qE (by rw[hs]) _ (K2.trans K3)⟩;rw[hs] at q qE;wp_walk;refine⟨wl,1,r1,rfl,e3,by decide,hw.tl.name hs,fun s r' Yk v H4 hv e4 K4=>?_,fun Yk H4 K4=>qE (by simp only[];rw[Yk]) _ ((K2.trans K3).trans K4)⟩;wp_walk;refine fun p4 Xb=>q _ _ (by simp only[];rw[Yk]) _ _ ?_ ((q0D Xb).at e4) (((K2.trans K3).trans K4).trans (Kp.new Xb));split
  ·next k4=>exact .order (by rw[<- k4];exact aE) (hv.kp (aJ.new Xb))
  ·next k4 =>
   have k5:k = "child":=by
    simp only[l5,cE,List.any_cons,List.any_nil,dB,gL,Bool.or_false,Bool.or_eq_true,beq_iff_eq] at h5;rcases h5 with h|h|h|h|h
    ·exact absurd h.symm k4
    ·exact h.symm
    ·exact absurd h.symm k1
    ·exact absurd h.symm k2
    ·exact absurd h.symm k3
   exact .child (by rw[<- k5];exact aE) (hv.kp (aJ.new Xb))
theorem CJ{t:Ad}(T:Tx K mg t):bR P w K mg base (Xq P w base) 26 t.qY t.rF ["words"] (UT t.aP):=by
 refine T.y7.okE tR (fun vs H Q E h=>?_) (fun W7 A outer s H vs Q E hr h=>?_)
 ·obtain⟨wl,ws,rfl,_⟩:=h;rfl
 ·obtain⟨wl,ws,rfl,e,hw,q,qE⟩:=h;refine⟨_,(aD (aM (i:=1) tR.nd rfl (Or.inl rfl) (aI (eK T) (hr.mono (by omega)) rfl T.gU T.fQ.kp T.gR .nil (pass1 fun _ _ _ z=>z) (aC (pv 0) aB)))
   (aD (aW (aK bW (pv 1) aF (nomark _)) (aH (aN (bA (aC (pv 1) (aC (aI (cL T 6) (hr.mono (by omega)) rfl T.cR T.cJ.kp T.cQ .nil (pass1 fun _ _ _ z=>z) (aC (pv 0) (aC aG aB))) (aC (aI (oJ T) (hr.mono (by omega)) rfl T.uV T.pI.kp T.uC .nil (pass1 fun _ _ _ z=>z) (aC (pv 0) aB)) (aC (aI (cL T 6) (hr.mono (by omega)) rfl T.cR T.cJ.kp T.cQ .nil (pass1 fun _ _ _ z=>z) (aC (pv 0) (aC aG aB))) aB))))))) aR)
   (aD (aW (PW.pt (iG (aK bW (pv 1) aF (nomark _)) (fJ (aK bW (pv 1) aF (nomark _))))) (aH (aN (bA (aC (pv 1) (aC (aI (cL T 6) (hr.mono (by omega)) rfl T.cR T.cJ.kp T.cQ .nil (pass1 fun _ _ _ z=>z) (aC (pv 0) (aC aG aB))) aB))))) aR)
   (aD (aW (PW.pt (iG (fW (fI (aI (uW T) (hr.mono (by omega)) rfl T.Cy T.xG.kp T.BX .nil pass0 (aC (pv 1) aB)))) (fJ (aK oM (aI (eK T) (hr.mono (by omega)) rfl T.gU T.fQ.kp T.gR .nil (pass1 fun _ _ _ z=>z) (aC (pv 0) aB)) aF (nomark _))))) (aH (eF throws1 rfl rfl T.cG T.cD.toXCls (aC aF aB))) aR)
   (aH (aN (aI (CI T) (hr.mono (by omega)) rfl T.E4 T.y6.kp T.EI .nil (pass1 fun _ _ _ z=>z) (aC (pv 1) (aC (pv 0) aB))))))))),?_⟩
  and_intros
  cases ws with
  | nil =>
   wp_walk using e,List.map_nil;exact qE rfl _ Kp.refl
  | cons f r =>
  rw[j8] at q qE;wp_walk using e,List.map_cons;have K1:=Kp.lI (a:=wl) (H:=H) (o:=.lst (r.map V.str));have e1:WZ H wl (.lst (r.map V.str)) wl=some (.lst (r.map V.str)):=aE;generalize WZ H wl (.lst (r.map V.str))=G1 at *;by_cases f1:f = "send"
  ·rw[if_pos f1] at q qE;rw[if_pos f1];wp_walk;refine⟨wl,1,r,rfl,e1,by decide,hw.tl,fun a r1 ha v2 H2 YU e2 K2=>?_,fun ha H2 K2=>qE (by rw[ha]) _ (K1.trans K2)⟩;rw[ha] at q qE;wp_walk;refine⟨wl,r1,rfl,e2,hw.tl.say ha,fun k r2 hk H3 e3 K3=>?_,fun hk H3 K3=>qE (by simp only[];rw[hk]) _ ((K1.trans K2).trans K3)⟩;wp_walk;refine⟨wl,1,r2,rfl,e3,by decide,(hw.tl.say ha).name hk,fun b r3 hb v4 H4 hv4 e4 K4=>?_,fun hb H4 K4=>qE (by simp only[];rw[hk];simp only[];rw[hb]) _ (((K1.trans K2).trans K3).trans K4)⟩;wp_walk;exact fun p5 Yv=>q _ _ (by simp only[];rw[hk];simp only[];rw[hb]) _ _ (.send (by rw[<- f1];exact aE) (((YU.kp (aJ.w K3 e2)).kp (aJ.w K4 e3)).kp (aJ.new Yv)) (hv4.kp (aJ.new Yv))) ((q0D Yv).at e4) ((((K1.trans K2).trans K3).trans K4).trans (Kp.new Yv))
  rw[if_neg f1] at q qE;rw[if_neg f1];by_cases hf:f = "drop"\/f = "end"
  ·rw[if_pos hf] at q qE;refine Qz hf ?_;wp_walk;refine⟨wl,1,r,rfl,e1,by decide,hw.tl,fun s r1 hs v2 H2 YU e2 K2=>?_,fun hs H2 K2=>qE (by rw[hs]) _ (K1.trans K2)⟩;wp_walk;refine fun p5 Yv=>q _ _ (by rw[hs]) _ _ ?_ ((q0D Yv).at e2) ((K1.trans K2).trans (Kp.new Yv));split
   ·next h=>exact .drop (by rw[<- h];exact aE) (YU.kp (aJ.new Yv))
   ·next h=>exact .fin (by rw[<- hf.resolve_left h];exact aE) (YU.kp (aJ.new Yv))
  rw[if_neg fun z=>hf (.inl z),if_neg fun z=>hf (.inr z)];rw[if_neg hf] at q qE;refine⟨hw.hd,fun H2 K2=>?_⟩;have ZY:=K1.trans (Kp.of (S:=[wl]) K2.same);have e2:=K2.at e1;cases hb:tV f with
  | false =>
   rw[if_neg (by rw[hb];decide)] at qE;wp_walk using hb;exact qE rfl _ ZY
  | true =>
  rw[if_pos hb] at q qE;cases r with
  | nil =>
   wp_walk using hb,e2,List.map_nil;exact qE rfl _ ZY
  | cons e3 r1 =>
  simp only[] at q qE;wp_walk using hb,e2,List.map_cons;by_cases h3:e3 = "="
  ·rw[if_pos h3] at q qE ⊢;wp_walk;exact⟨wl,f,r1,rfl,aE,hw.tl.tl,fun m r' hm v H4 hv e4 K4=>q m r' hm v H4 hv e4 ((ZY.trans Kp.lI).trans K4),fun hm H4 K4=>qE hm _ ((ZY.trans Kp.lI).trans K4)⟩
  ·rw[if_neg h3] at qE;rw[if_neg h3];exact qE rfl _ (ZY.trans Kp.lI)
theorem qJ{t:Ad}(T:Tx K mg t):bR P w K mg base (Xq P w base) 1 t.nQ t.nY ["words"] (MW t.aP):=by
 refine T.oC.okE Bf (fun vs H Q E h=>?_) (fun W7 A outer s H vs Q E hr h=>?_)
 ·obtain⟨a,xs,rfl,_⟩:=h;rfl
 ·obtain⟨a,xs,rfl,e,q,qE⟩:=h;refine⟨_,(aH (aW (tL (pv 0) (fun _=>rfl)) (aH (eF throws1 rfl rfl T.cG T.cD.toXCls (aC aF aB))) aR)),?_⟩
  and_intros
  cases xs with
  | nil =>
   wp_walk using e,List.isEmpty_nil;exact q rfl
  | cons y ys =>
   wp_walk using e,List.isEmpty_cons;exact qE (by simp)
theorem HG{t:Ad}(T:Tx K mg t){n D:Nat}(hn:34<=n)(IH:bR P w K mg base (Xq P w base) n t.dP t.dQ ["self","deep"] (Gq t.aZ t.aP D)):bR P w K mg base (Xq P w base) (n+1) t.gI t.gK ["self","deep"] (Rk t.aZ t.aP D):=by
 refine T.rG.okE jB (fun vs H Q E h=>?_) (fun W7 A outer s H vs Q E hr h=>?_)
 ·obtain⟨D,rd,dx,ll,rows,i,k,dp,rfl,rfl,_⟩:=h;rfl
 ·obtain⟨D,rd,dx,ll,rows,i,k,dp,rfl,rfl,R,hd,Zd,Yt,q,qE⟩:=h;refine⟨_,(aD (aW (aK oM (oP (pv 0) T.cB T.fZ (fG T) (hr.mono (by omega)) T.iA .nil pass0) aF (nomark _)) (aH (aN (bA aB))) aR)
   (aD (xQ T.cB T.eJ (pv 0) aG)
   (aD (aM (i:=2) jB.nd rfl (Or.inl rfl) (pW (pv 0) T.cB T.kY IH (hr.mono (by omega)) T.mB .nil (pass1 fun _ _ _ z=>z) (aC (pv 1) aB)))
   (aD (aW (fW (tL (pv 2) (fun _=>rfl))) (aH (eF throws1 rfl rfl T.cG T.cD.toXCls (aC aF aB))) aR)
   (aH (aN (pv 2))))))),?_⟩
  and_intros
  have ins:=R.ins;cases hL:rows.drop i with
  | nil =>
   rw[hL] at q;wp_walk using ins;refine⟨rd,dx,ll,rows,i,k,rfl,R,?_⟩;rw[xA hL];wp_walk;exact fun p hp=>q _ _ _ rfl p [] _ i aE .nil (R.kp (Kp.new hp)) hL (Kp.new hp)
  | cons l L =>
  rw[hL,pV] at q qE;wp_walk using ins;refine⟨rd,dx,ll,rows,i,k,rfl,R,?_⟩;rw[pE hL];by_cases he:l = "else"
  ·rw[if_pos he] at q qE;wp_walk using he,ins;have R1:=R.set (i':=i+1) (k':=k);rw[show((i+1:Nat):Int)=(i:Int)+1 by omega] at R1;have K1:=Kp.lI (a:=rd) (H:=H) (o:=.ins t.aZ dx [("lines",.ref ll),("lines_read",.int ((i:Int)+1)),("statements_read",.int k)]);have ZL:=R1.ins;generalize WZ H rd (.ins t.aZ dx [("lines",.ref ll),("lines_read",.int ((i:Int)+1)),("statements_read",.int k)])=G at *;have R1':g9 t.aZ G rd dx ll rows (i+1) k:=⟨by rw[ZL],R1.lin⟩;have hL1:=yP hL;wp_walk using ZL;refine⟨D,rfl,rd,dx,ll,rows,i+1,k,dp,rfl,R1',hd,Zd,Yt,fun b k' L' hb p us H2 i' h2 hU R2 hL2 K2=>?_,fun hb H2 K2=>qE (by rw[<- hL1,hb]) _ (K1.trans K2)⟩;rw[hL1] at hb;cases b with
   | nil =>
    have Za:us.isEmpty=true:=KA hU;wp_walk using h2,Za;exact qE (by rw[hb]) _ (K1.trans K2)
   | cons m ms =>
    have Za:us.isEmpty=false:=KA hU;wp_walk using h2,Za;exact q _ _ _ (by rw[hb]) p us H2 i' h2 hU R2 hL2 (K1.trans K2)
  ·rw[if_neg he] at q;wp_walk using he;exact fun p hp=>q _ _ _ rfl p [] _ i aE .nil (R.kp (Kp.new hp)) hL (Kp.new hp)
theorem M3{t:Ad}(T:Tx K mg t){n D:Nat}(hn:34<=n)(IH:bR P w K mg base (Xq P w base) n t.dP t.dQ ["self","deep"] (Gq t.aZ t.aP D)):bR P w K mg base (Xq P w base) (n+2) t.hZ t.iB ["self","words","deep"] (UU t.aZ t.aP D):=by
 refine T.sF.okE dD (fun vs H Q E h=>?_) (fun W7 A outer s H vs Q E hr h=>?_)
 ·obtain⟨D,rd,dx,ll,wl,rows,i,k,dp,kd,r,rfl,rfl,_⟩:=h;rfl
 ·obtain⟨D,rd,dx,ll,wl,rows,i,k,dp,kd,r,rfl,rfl,R,e,nwl,hkd,hw,hd,Zd,Yt,q,qE⟩:=h;refine⟨_,(aD (aM (i:=3) dD.nd rfl (Or.inl rfl) (aI (eK T) (hr.mono (by omega)) rfl T.gU T.fQ.kp T.gR .nil (pass1 fun _ _ _ z=>z) (aC (pv 1) aB)))
   (aD (aM (i:=4) dD.nd rfl (Or.inl rfl) (aI (cL T 6) (hr.mono (by omega)) rfl T.cR T.cJ.kp T.cQ .nil (pass1 fun _ _ _ z=>z) (aC (pv 1) (aC aG aB))))
   (aD (eA (aI (qJ T) (hr.mono (by omega)) rfl T.wG T.oC.kp T.vT .nil (pass1 fun _ _ _ z=>z) (aC (pv 1) aB)))
   (aD (aM (i:=5) dD.nd rfl (Or.inl rfl) (pW (pv 0) T.cB T.kY IH (hr.mono (by omega)) T.mB .nil (pass1 fun _ _ _ z=>z) (aC (aS aQ (pv 2) aG) aB)))
   (aD (aM (i:=6) dD.nd rfl (Or.inl rfl) (tH (aK bW (pv 3) aF (nomark _)) (bA (aC (pv 5) aB)) (bA (aC (pv 5) (aC (pW (pv 0) T.cB T.qF (HG T hn IH) (hr.mono (by omega)) T.qZ .nil (pass1 fun _ _ _ z=>z) (aC (aS aQ (pv 2) aG) aB)) aB)))))
   (aD (aW (aK oM (oP (pv 0) T.cB T.fZ (fG T) (hr.mono (by omega)) T.iA .nil pass0) aF (nomark _)) (aH (eF throws1 rfl rfl T.cG T.cD.toXCls (aC aF aB))) aR)
   (aD (xQ T.cB T.eJ (pv 0) aG)
   (aH (aN (aS Gg (bA (aC (pv 3) (aC (pv 4) aB))) (pv 6))))))))))),?_⟩
  and_intros
  have nrw:rd≠wl:=BB R.ins e (by intro z;cases z);rw[CP] at q qE;refine aU fun XF Xa=>?_;wp_walk using e,List.map_cons;have K1:=Kp.lI (a:=wl) (H:=H) (o:=.lst (r.map V.str));have R1:=R.w K1 nrw nwl.symm;have e1:WZ H wl (.lst (r.map V.str)) wl=some (.lst (r.map V.str)):=aE;generalize WZ H wl (.lst (r.map V.str))=G1 at *;refine Xa _ _ ?_;clear Xa;refine aU fun YX Xu=>?_;wp_walk;refine⟨wl,1,r,rfl,e1,by decide,hw.tl,fun s r2 hs v2 H2 YU e2 K2=>?_,fun hs H2 K2=>qE (by rw[hs]) _ ((K1.trans K2).mono (by simp))⟩;have R2:=R1.w K2 nrw nwl.symm;refine Xu _ _ ?_;clear Xu;refine aU fun R_3 XI=>?_;wp_walk;have YW:Kp [rd,wl] H H2:=(K1.trans K2).mono (by simp);refine⟨wl,r2.map V.str,rfl,e2,fun hz=>?_,fun hz=>qE (by rw[hs];cases r2 with|nil=>exact absurd rfl hz|cons a b=>rfl) _ YW⟩;obtain rfl:r2=[]:=by
   cases r2 with
   | nil=>rfl
   | cons a b=>cases hz
  rw[hs] at q qE;wp_walk;refine XI _ _ ?_;clear XI;refine aU fun R_4 Yh=>?_;wp_walk using R2.ins;refine⟨D,rfl,rd,dx,ll,rows,i,k,dp+1,rfl,R2,by omega,Zd,Yt,fun b k1 L1 hb p3 us H3 i3 h3 hU R3 hL3 K3=>?_,fun hb H3 K3=>qE (by simp only[];rw[hb]) _ (YW.trans (K3.mono (by simp)))⟩;simp only[hb] at q qE;have k60:k1<=60:=(iR D hb).2.2.2.2 Yt;have s3:=YU.kp (aJ.rd R2 K3);replace YW:=YW.trans (K3.mono (S:=[rd]) (T:=[rd,wl]) (by simp));clear K3 R2 R1 K1 K2 hs hb;refine Yh _ _ ?_;clear Yh;refine aU fun R_5 YD=>?_
  suffices fin:∀(bs:List V) (m:Stm) (k4 i4 p4:Nat) (L4:List Str) (G4:Hp),bC G4 v2 s->g9 t.aZ G4 rd dx ll rows i4 k4->rows.drop i4=L4->G4 p4=some (.tup bs)->Kp [rd,wl] H G4->(∀ L5,sY L4=some L5->∀(v:V) (H':Hp) (i':Nat),bV H' v m->g9 t.aZ H' rd dx ll rows i' k4->rows.drop i'=L5->Kp [rd,wl] H H'->Q v H')->(sY L4=none->∀ H',Kp [rd,wl] H H'->E (.ref t.aP) none H')->(bs.length<=2/\bs≠[])->(∀(G5:Hp) (a:Addr),aJ G4 G5->bC G5 v2 s->G5 a=some (.tup ([.str kd,v2]++bs))->bV G5 (.ref a) m)->R_5 [some (.ref rd),some (.ref wl),some (.int dp),some (.str kd),some v2,some (.ref p3),some (.ref p4)] G4 by
   by_cases hk:kd = "while"
   ·simp only[if_pos hk] at q qE;wp_walk using eq_true hk;refine fun p4 Xb=>?_;have N4:=q0D (o:=.tup [.ref p3]) Xb;refine fin [.ref p3] (.Xd s b) k1 i3 p4 L1 _ (s3.kp (aJ.nil N4)) (R3.kp N4) hL3 aE (YW.trans (N4.mono (by simp))) (fun L5 h5 v H' i' hv R' hL' K'=>q _ _ _ (by rw[h5]) v H' i' hv R' hL' K') (fun h5 H' K'=>qE (by rw[h5]) _ K') ⟨by simp,by simp⟩ fun G5 a T5 s5 ea=>?_;have Zs:aJ H3 G5:=(aJ.nil N4).trans T5;exact .Xd (by rw[ea,hk];rfl) s5 (Zs _ _ h3) (hU.kp Zs)
   ·simp only[if_neg hk] at q qE;have hi:=(VE hkd).resolve_right hk;wp_walk using hk,R3.ins;refine⟨D,rd,dx,ll,rows,i3,k1,dp+1,rfl,rfl,R3,by omega,Zd,k60,fun o k2 L2 ho q3 us3 H33 i33 h33 hU3 R33 ab5 K33=>?_,fun ho H33 K33=>qE (by rw[<- hL3,ho]) _ (YW.trans (K33.mono (by simp)))⟩;rw[hL3] at ho;have T33:=aJ.rd R3 K33;wp_walk;refine fun p4 Xb=>?_;have N4:=q0D (o:=.tup [.ref p3,.ref q3]) Xb;refine fin [.ref p3,.ref q3] (.iff s b o) k2 i33 p4 L2 _ ((s3.kp T33).kp (aJ.nil N4)) (R33.kp N4) ab5 aE ((YW.trans (K33.mono (by simp))).trans (N4.mono (by simp))) (fun L5 h5 v H' i' hv R' hL' K'=>q _ _ _ (by rw[ho];simp only[];rw[h5]) v H' i' hv R' hL' K') (fun h5 H' K'=>qE (by rw[ho];simp only[];rw[h5]) _ K') ⟨by simp,by simp⟩ fun G5 a T5 s5 ea=>?_;have Zs:aJ H33 G5:=(aJ.nil N4).trans T5;exact .iff (by rw[ea,hi];rfl) s5 (Zs _ _ (T33 _ _ h3)) ((hU.kp T33).kp Zs) (Zs _ _ h33) (hU3.kp Zs)
  intro bs m k4 i4 p4 L4 G4 s4 R4 ZE e4 K4 ok no lb mk;clear q qE s3 hU h3 R3 hL3;refine YD _ _ ?_;clear YD;refine aU fun R_6 YE=>?_;wp_walk using R4.ins;refine⟨rd,dx,ll,rows,i4,k4,rfl,R4,?_⟩;cases L4 with
  | nil =>
   rw[xA ZE];wp_walk;exact no rfl _ K4
  | cons l5 L5 =>
  rw[pE ZE];rw[sZ] at ok no;by_cases hdn:l5 = "done"
  case neg =>
   rw[if_neg hdn] at no;wp_walk using hdn;exact no rfl _ K4
  rw[if_pos hdn] at ok;wp_walk using hdn;refine YE _ _ ?_;clear YE;refine aU fun R_7 Y5=>?_;wp_walk using R4.ins;have R5:=R4.set (i':=i4+1) (k':=k4);rw[show((i4+1:Nat):Int)=(i4:Int)+1 by omega] at R5;have N5:=Kp.lI (a:=rd) (H:=G4) (o:=.ins t.aZ dx [("lines",.ref ll),("lines_read",.int ((i4:Int)+1)),("statements_read",.int k4)]);have T5:aJ G4 _:=aJ.rd R4 N5;replace K4:=K4.trans (N5.mono (S:=[rd]) (T:=[rd,wl]) (by simp));replace s4:=s4.kp T5;replace e4:=T5 _ _ e4;generalize WZ G4 rd (.ins t.aZ dx [("lines",.ref ll),("lines_read",.int ((i4:Int)+1)),("statements_read",.int k4)])=G5 at *;refine Y5 _ _ ?_;clear Y5 N5 R4;wp_walk;refine fun p6 YT=>?_;have N6:=q0D (o:=.tup [.str kd,v2]) YT;have e46:=N6.at e4;have e66:WZ G5 p6 (.tup [.str kd,v2]) p6=some (.tup [.str kd,v2]):=aE;have R6:g9 t.aZ G5 rd dx ll rows (i4+1) k4:=⟨by rw[R5.ins],R5.lin⟩;have R7:=R6.kp N6;have K6:=K4.trans (N6.mono (S:=[]) (T:=[rd,wl]) (by simp));have s6:=s4.kp (aJ.nil N6);replace T5:=T5.trans (aJ.nil N6);clear R5 R6 K4 s4 e4;generalize WZ G5 p6 (.tup [.str kd,v2])=G6 at *;obtain⟨lb1,lb2⟩:=lb;have bs0:bs.isEmpty=false:=by
   cases bs with
   | nil=>exact absurd rfl lb2
   | cons a b=>rfl
  wp_walk using e66,e46,reduceCtorEq,Jb,lb2;refine⟨by omega,?_⟩;refine fun p7 YL=>?_;have N7:=q0D (o:=.tup ([.str kd,v2]++bs)) YL;exact ok _ rfl _ _ (i4+1) (mk _ _ (T5.trans (aJ.nil N7)) (s6.kp (aJ.nil N7)) aE) (R7.kp N7) (yP ZE) (K6.trans (N7.mono (by simp)))
theorem C3{t:Ad}(T:Tx K mg t){n D:Nat}(hn:34<=n)(IH:bR P w K mg base (Xq P w base) n t.dP t.dQ ["self","deep"] (Gq t.aZ t.aP D)):bR P w K mg base (Xq P w base) (n+3) t.iN t.iO ["self","deep"] (Rl t.aZ t.aP D):=by
 refine T.uN.okE gO (fun vs H Q E h=>?_) (fun W7 A outer s H vs Q E hr h=>?_)
 ·obtain⟨D,rd,dx,ll,rows,i,k,dp,l,L,rfl,rfl,_⟩:=h;rfl
 ·obtain⟨D,rd,dx,ll,rows,i,k,dp,l,L,rfl,rfl,R,hL,hd,Zd,Yt,q,qE⟩:=h;refine⟨_,(aD (aM (i:=2) gO.nd rfl (Or.inl rfl) (nE PySem.F.plainAttrs_str PySem.F.slot_str_split PySem.F.type_str_split lU (oP (pv 0) T.cB T.fZ (fG T) (hr.mono (by omega)) T.iA .nil pass0) (aC aF aB)))
   (aD (xQ T.cB T.eJ (pv 0) aG)
   (aD (xQ T.cB T.eB (pv 0) aG)
   (aD (aW (aK qK (tG T.cB T.eB (pv 0)) (dR (v:=.int 60) rfl T.wN ⟨_,rfl⟩) (nomark _)) (aH (eF throws1 rfl rfl T.cG T.cD.toXCls (aC aF aB))) aR)
   (aD (aW (aK iQ (aX bM (pv 2) aG (fun _ _=>rfl)) (bA (aC aF (aC aF aB))) (by with_unfolding_all rfl)) (aH (aN (pW (pv 0) T.cB T.rK (M3 T hn IH) (hr.mono (by omega)) T.sC .nil (pass1 fun _ _ _ z=>z) (aC (pv 2) (aC (pv 1) aB))))) aR)
   (aD (aM (i:=3) gO.nd rfl (Or.inl rfl) (aI (CJ T) (hr.mono (by omega)) rfl T.E5 T.y7.kp T.EJ .nil (pass1 fun _ _ _ z=>z) (aC (pv 2) aB)))
   (aD (eA (aI (qJ T) (hr.mono (by omega)) rfl T.wG T.oC.kp T.vT .nil (pass1 fun _ _ _ z=>z) (aC (pv 2) aB)))
   (aH (aN (pv 3)))))))))),?_⟩
  and_intros
  have acD:=R.ins;have lh:l.length<=8000000:=Zd l (List.mem_of_mem_drop (i:=i) (by rw[hL];exact List.mem_cons_self));have X2:=Kl lh;have hL1:=yP hL;obtain⟨w0,wr,hws⟩:=tS l;rw[i0,hws] at q qE;rw[hws] at X2;refine aU fun XF Xa=>?_;wp_walk using acD;refine⟨rd,dx,ll,rows,i,k,rfl,R,?_⟩;rw[pE hL];wp_walk;refine⟨by decide +kernel,by omega,fun wl Zg=>?_⟩;rw[hws];have N1:=q0D (o:=.lst ((w0::wr).map V.str)) Zg;have R1:=R.kp N1;have e1:WZ H wl (.lst ((w0::wr).map V.str)) wl=some (.lst ((w0::wr).map V.str)):=aE;have nwl:wl≠ll:=(aL R.lin Zg).symm;have X0:wl≠rd:=(aL R.ins Zg).symm;have ZL:=R1.ins;generalize WZ H wl (.lst ((w0::wr).map V.str))=G1 at *;refine Xa _ _ ?_;clear Xa;refine aU fun YX Xu=>?_;wp_walk using ZL;refine Xu _ _ ?_;clear Xu;refine aU fun R_3 XI=>?_;wp_walk;have R2:=(R1.set (i':=i+1) (k':=k)).set (i':=i+1) (k':=k+1);rw[show((i+1:Nat):Int)=(i:Int)+1 by omega,show((k+1:Nat):Int)=(k:Int)+1 by omega] at R2;have K2:Kp [rd] G1 (WZ (WZ G1 rd (.ins t.aZ dx [("lines",.ref ll),("lines_read",.int ((i:Int)+1)),("statements_read",.int k)])) rd (.ins t.aZ dx [("lines",.ref ll),("lines_read",.int ((i:Int)+1)),("statements_read",.int ((k:Int)+1))])):=Kp.lI.trans Kp.lI;have e2:=K2.at1 e1 X0;have aa6:=R2.ins;generalize WZ (WZ G1 rd (.ins t.aZ dx [("lines",.ref ll),("lines_read",.int ((i:Int)+1)),("statements_read",.int k)])) rd (.ins t.aZ dx [("lines",.ref ll),("lines_read",.int ((i:Int)+1)),("statements_read",.int ((k:Int)+1))])=G2 at *;refine XI _ _ ?_;clear XI;have ZX:∀ {H5:Hp},Kp [rd,wl] G2 H5->Kp [rd] H H5:=fun K5 b o eb nb=>by
   have nb2:b≠wl:=aL eb Zg;exact K5 b o (K2 b o (N1.at eb) nb) (by simp[nb2];simpa using nb)
  refine aU fun R_4 Yh=>?_;wp_walk using aa6;by_cases ZZ:60 < k+1
  ·rw[if_pos ZZ] at qE;rw[if_pos (by omega)];wp_walk;exact qE rfl _ (ZX Kp.refl)
  rw[if_neg ZZ] at q qE;rw[if_neg (by omega)];wp_walk;refine Yh _ _ ?_;clear Yh;refine aU fun R_5 YD=>?_;have R2':g9 t.aZ G2 rd dx ll rows (i+1) (k+1):=⟨by rw[aa6],R2.lin⟩;wp_walk using e2,List.map_cons;refine fun p3 Yu=>⟨rfl,flat2,?_⟩;have N3:=q0D (o:=.tup [.str "if",.str "while"]) Yu;have R3:=R2'.kp N3;have e3:=N3.at e2;replace ZX:∀ {H5:Hp},Kp [rd,wl] _ H5->Kp [rd] H H5:=fun {H5} K5=>ZX ((N3.mono (by simp):Kp [rd,wl] G2 _).trans K5);generalize WZ G2 p3 (.tup [.str "if",.str "while"])=G3 at *;cases hb:cE (.str w0) lB with
  | true =>
   rw[if_pos (show cE (.str ((w0::wr).headD "")) lB=true from hb)] at q qE;wp_walk using hb,R3.ins;exact⟨D,rd,dx,ll,wl,rows,i+1,k+1,dp,w0,wr,rfl,rfl,R3,e3,nwl,hb,X2,hd,Zd,by omega,fun m k' L' hm v H' i' hv R' hL' K'=>q m k' L' (by rw[<- hL1];exact hm) v H' i' hv R' hL' (ZX K'),fun hm H' K'=>qE (by rw[<- hL1];exact hm) _ (ZX K')⟩
  | false =>
   rw[if_neg (show ¬ cE (.str ((w0::wr).headD "")) lB=true by show ¬ cE (.str w0) lB=true;rw[hb];decide)] at q qE;wp_walk using hb;refine YD _ _ ?_;clear YD;refine aU fun R_6 YE=>?_;wp_walk;refine⟨wl,w0::wr,rfl,e3,X2,fun m r hm v H4 hv e4 K4=>?_,fun hm H4 K4=>qE (by rw[hm]) _ (ZX (K4.mono (by simp)))⟩;refine YE _ _ ?_;clear YE;refine aU fun R_7 Y5=>?_;wp_walk;refine⟨wl,r.map V.str,rfl,e4,fun hz=>?_,fun hz=>qE (by rw[hm];cases r with|nil=>exact absurd rfl hz|cons a b=>rfl) _ (ZX (K4.mono (by simp)))⟩;obtain rfl:r=[]:=by
    cases r with
    | nil=>rfl
    | cons a b=>cases hz
   wp_walk;refine Y5 _ _ ?_;clear Y5;have R4:=R3.w K4 X0.symm nwl.symm;wp_walk;exact q m (k+1) L (by rw[hm]) v H4 (i+1) hv R4 hL1 (ZX (K4.mono (by simp)))
theorem Eu{t:Ad}(T:Tx K mg t){n D:Nat}(hn:34<=n)(IH:bR P w K mg base (Xq P w base) n t.dP t.dQ ["self","deep"] (Gq t.aZ t.aP D)):bR P w K mg base (Xq P w base) (n+4) t.dP t.dQ ["self","deep"] (Kb t.aZ t.aP D):=by
 refine T.Cg.okE oY (fun vs H Q E h=>?_) (fun W7 A outer s H vs Q E hr h=>?_)
 ·obtain⟨rd,dx,ll,rows,i,k,dp,rfl,_⟩:=h;rfl
 ·obtain⟨rd,dx,ll,rows,i,k,dp,rfl,R,hd,Zd,Yt,q,qE⟩:=h;refine⟨_,(aD (aW (aK qK (pv 1) (dR (v:=.int 5) rfl T.AO ⟨_,rfl⟩) (nomark _)) (aH (eF throws1 rfl rfl T.cG T.cD.toXCls (aC aF aB))) aR)
   (aD (aM (i:=2) oY.nd rfl (Or.inl rfl) (bF aB))
   (aD (tK PassesOwn.leaving (aK pQ (oP (pv 0) T.cB T.fZ (fG T) (hr.mono (by omega)) T.iA .nil pass0) (bA (aC dM (aC aF (aC aF aB)))) (by with_unfolding_all rfl)) (aH (eA (iF (pv 2) (pW (pv 0) T.cB T.sR (C3 T hn IH) (hr.mono (by omega)) T.t8 .nil (pass1 fun _ _ _ z=>z) (aC (pv 1) aB))))))
   (aH (aN (bU eX rfl T.iU fB (aC (pv 2) aB))))))),?_⟩
  and_intros
  cases D with
  | zero =>
   wp_walk;rw[if_pos (by omega)];exact qE rfl _ Kp.refl
  | succ D =>
  wp_walk;rw[if_neg (by omega)];refine fun sl X5=>?_;have nsr:rd≠sl:=aL R.ins X5;have nsl:ll≠sl:=aL R.lin X5;have hR:dJ (D+1) k (rows.drop i)=nD (i0 (dJ D)) ((rows.drop i).length+1) [] k (rows.drop i):=rfl;rw[hR] at q qE;obtain⟨res,aaG⟩:∃ res,res=nD (i0 (dJ D)) ((rows.drop i).length+1) [] k (rows.drop i):=⟨_,rfl⟩;rw[<- aaG] at q qE;obtain⟨W,hW⟩:∃ W:Nat->St->Hp->Prop,∀ m σ G,W m σ G = ∃(us:List V) (acc:List Stm) (i1 k1:Nat),σ=[some (.ref rd),some (.int dp),some (.ref sl)]/\G sl=some (.lst us)/\bJ G us acc/\g9 t.aZ G rd dx ll rows i1 k1/\res=nD (i0 (dJ D)) m acc k1 (rows.drop i1)/\(rows.drop i1).length < m/\acc.length<=k1/\k1<=60/\Kp [rd] H G:=⟨_,fun _ _ _=>rfl⟩;refine⟨W,⟨(rows.drop i).length+1,?_⟩,?_⟩
  ·rw[hW];exact⟨[],[],i,k,rfl,aE,.nil,R.kp (Kp.new X5),aaG,Nat.lt_succ_self _,Nat.zero_le _,Yt,Kp.new X5⟩
  clear hR aaG;intro m σ G hG;rw[hW] at hG;obtain⟨us,acc,i1,k1,rfl,eS,hU,RG,hP,hm,ha,hk1,KG⟩:=hG;have ln:=hU.len;obtain⟨m,rfl⟩:∃ e,m=e+1:=⟨m - 1,by omega⟩;have back:∀(XT:List V) (X8:List Stm) (i2 k2:Nat) (G2:Hp),G2 sl=some (.lst XT)->bJ G2 XT X8->g9 t.aZ G2 rd dx ll rows i2 k2->res=nD (i0 (dJ D)) m X8 k2 (rows.drop i2)->(rows.drop i2).length < m->X8.length<=k2->k2<=60->Kp [rd] H G2->∃ m',m' < m+1/\W m' [some (.ref rd),some (.int dp),some (.ref sl)] G2:=fun XT X8 i2 k2 G2 h1 h2 h3 h4 h5 h6 h7 h8=>by
   refine⟨m,Nat.lt_succ_self _,?_⟩;rw[hW];exact⟨XT,X8,i2,k2,rfl,h1,h2,h3,h4,h5,h6,h7,h8⟩
  clear hW;wp_walk using RG.ins;refine⟨rd,dx,ll,rows,_,_,rfl,RG,?_⟩;wp_walk;refine fun p3 Yu=>⟨Lb _ _,TQ,?_⟩;have N3:=q0D (o:=.tup [.W3,.str "else",.str "done"]) Yu;have R3:=RG.kp N3;have eS3:=N3.at eS;have U3:=hU.kp (aJ.nil N3);have K3:=KG.trans (N3.mono (by simp):Kp [rd] G _);generalize WZ G p3 (.tup [.W3,.str "else",.str "done"])=G3 at *;have fin:cE (ah rows i1) [.W3,.str "else",.str "done"]=true->res=some (acc,k1,rows.drop i1)->∀ p,G3 p=none->Q (.ref p) (WZ G3 p (.tup us)):=fun _ z p hp=>q acc k1 _ z p us _ i1 aE (U3.kp (aJ.new hp)) (R3.kp (Kp.new hp)) rfl (K3.trans (Kp.new hp));cases hL:rows.drop i1 with
  | nil =>
   rw[hL] at hP fin;have YK:cE (ah rows i1) [.W3,.str "else",.str "done"]=true:=by rw[xA hL];exact Jo
   wp_walk using YK,eS3;exact fin YK hP
  | cons l L =>
  rw[hL,xP] at hP;by_cases X6:l = "else"\/l = "done"
  ·rw[hL] at fin;rw[if_pos X6] at hP;have YK:cE (ah rows i1) [.W3,.str "else",.str "done"]=true:=by rw[pE hL];exact Md X6
   wp_walk using YK,eS3;exact fin YK hP
  rw[if_neg X6] at hP;clear fin;have YK:cE (ah rows i1) [.W3,.str "else",.str "done"]=false:=by rw[pE hL];exact Qy X6
  wp_walk using YK;refine⟨fun σ' H'=>∃ m',m' < m+1/\W m' σ' H',fun _ _ h=>h,?_⟩;wp_walk using eS3,R3.ins;refine⟨D,rd,dx,ll,rows,_,_,dp,l,L,rfl,rfl,R3,hL,hd,Zd,hk1,fun st k' L' hs v H4 i' hv R4 ZE K4=>?_,fun hs H4 K4=>qE (by rw[hP,hs]) _ (K3.trans K4)⟩;rw[hs] at hP;obtain⟨b1,b2,b3,b4,b5⟩:=u9 (iR D) hs;have sp:=st.Kn;have eS4:=K4.at1 eS3 nsr.symm;have T4:=aJ.rd R3 K4;wp_walk using eS4;have T5:=aJ.set (ys:=us++[v]) eS4;have K5:Kp [sl] H4 (WZ H4 sl (.lst (us++[v]))):=Kp.lI;have lL:L'.length<=L.length:=by
   have:=congrArg List.length b1;rw[List.length_append,List.length_cons] at this;obtain⟨mr,hmr⟩:=BJ st;rw[hmr,List.length_cons] at this;omega
  rw[hL,List.length_cons] at hm;refine⟨by omega,back _ (acc++[st]) i' k' _ aE (((U3.kp T4).kp T5).snoc (hv.kp T5)) (R4.w K5 nsr nsl) (by rw[ZE];exact hP) (by rw[ZE];omega) (by rw[List.length_append,List.length_cons,List.length_nil];omega) b5 ?_⟩;exact fun c o ec nc=>by
   have:=(K3.trans K4) c o ec nc;rw[aV (aL ec X5)];exact this
theorem oH{t:Ad}(T:Tx K mg t):∀ D,bR P w K mg base (Xq P w base) (4 * D+38) t.dP t.dQ ["self","deep"] (Kb t.aZ t.aP D)
 | 0=>Eu T (Nat.le_refl 34) ⟨fun _ _ _ _ x=>by (obtain⟨_,h,_⟩:=x;exact absurd h (by omega)),fun _ _ _ _ _ _ _ _ _ _ _ _ _ x=>by (obtain⟨_,h,_⟩:=x;exact absurd h (by omega))⟩
 | D+1=>Eu T (by omega) ((oH T D).imp fun _ _ _ _ ⟨D',h,x⟩=>by cases h;exact x)
theorem Ab{t:Ad}(T:Tx K mg t):bR P w K mg base (Xq P w base) 66 t.l9 t.mG ["text"] (MX t.aP):=by
 refine T.sO.okE kD (fun vs H Q E h=>?_) (fun W7 A outer s H vs Q E hr h=>?_)
 ·obtain⟨x,rfl,_⟩:=h;rfl
 ·obtain⟨x,rfl,lx,q,qE⟩:=h;refine⟨_,(aD (aW (PW.pt (rM (aK oM (pv 0) aF (nomark _)) (mQ (fW (fI (nE PySem.F.plainAttrs_str PySem.F.slot_str_endswith PySem.F.type_str_endswith Eb (pv 0) (aC aF aB))))))) (aH (eF throws1 rfl rfl T.cG T.cD.toXCls (aC aF aB))) aR)
   (aD (aM (i:=1) kD.nd rfl (Or.inl rfl) (ME T.zN (Ba T) (hr.mono (by omega)) rfl T.Mo T.Dp .nil pass0 (aC (bT iJ (nE PySem.F.plainAttrs_str PySem.F.slot_str_split PySem.F.type_str_split lU (pv 0) (aC aF aB)) bY (bZ (lV iT aG))) aB)))
   (aD (aM (i:=2) kD.nd rfl (Or.inl rfl) (pW (pv 1) T.cB T.kY (oH T 6) (hr.mono (by omega)) T.mB .nil (pass1 fun _ _ _ z=>z) (aC aG aB)))
   (aD (aW (aK Ht (oP (pv 1) T.cB T.fZ (fG T) (hr.mono (by omega)) T.iA .nil pass0) dM (nomark _)) (aH (eF throws1 rfl rfl T.cG T.cD.toXCls (aC aF aB))) aR)
   (aH (aN (pv 2))))))),?_⟩
  and_intros
  rw[oO] at q qE;refine aU fun XF Xa=>?_;wp_walk;by_cases Y6:x≠""/\Txt.endswith x "\n"=false
  ·rw[if_pos Y6] at qE;rw[if_neg Y6.1,Y6.2];wp_walk;exact qE rfl _ Kp.refl
  rw[if_neg Y6] at q qE
  suffices go:XF [some (.str x),none,none] H by
   split
   ·exact go
   ·next hx =>
    rw[show Txt.endswith x "\n"=true by
     cases e:Txt.endswith x "\n" with
     | true=>rfl
     | false=>exact absurd ⟨hx,e⟩ Y6]
    wp_walk;exact go
  refine Xa _ _ ?_;clear Xa;obtain⟨rows,last,hs⟩:∃ rows last,Txt.split x "\n"=rows++[last]:=⟨_,_,(List.dropLast_concat_getLast (fN x "\n")).symm⟩;have Zd:RL rows:=fun r hr=>by
   have:=BM 10 x r (by rw[<- eP.1,hs];exact List.mem_append_left _ hr);omega
  rw[hs,List.dropLast_concat] at q qE;refine aU fun YX Xu=>?_;wp_walk;refine⟨by decide +kernel,by omega,fun l1 h1=>?_⟩;rw[hs];have N1:=q0D (o:=.lst ((rows++[last]).map V.str)) h1;have e1:WZ H l1 (.lst ((rows++[last]).map V.str)) l1=some (.lst ((rows++[last]).map V.str)):=aE;generalize WZ H l1 (.lst ((rows++[last]).map V.str))=G1 at *;wp_walk using e1;refine fun l2 h2=>?_;rw[uF V.str rows last];have N2:=N1.trans (q0D (o:=.lst (rows.map V.str)) h2);have e2:WZ G1 l2 (.lst (rows.map V.str)) l2=some (.lst (rows.map V.str)):=aE;generalize WZ G1 l2 (.lst (rows.map V.str))=G2 at *;refine fun rd dx fr fd nd=>⟨rd,dx,l2,rfl,aE,fun H3 e3 K3=>⟨rfl,?_⟩⟩;have nlr:l2≠rd:=aL e2 fr;have nld:l2≠dx:=aL e2 fd;have e23:H3 l2=some (.lst (rows.map V.str)):=K3.at1 (by rw[aV nlr,aV nld];exact e2) nlr;have R3:g9 t.aZ H3 rd dx l2 rows 0 0:=⟨by rw[e3];rfl,e23⟩;have N3:Kp [] H H3:=fun c o ec nc=>by
   have e2c:=N2.at ec;have n1:=aL e2c fr;exact K3.at1 (by rw[aV n1,aV (aL e2c fd)];exact e2c) n1
  have N4:∀ {H4:Hp},Kp [rd] H3 H4->Kp [] H H4:=fun K4 c o ec nc=>K4.at1 (N3.at ec) (fun z=>by subst z;exact absurd (N2.at ec) (by rw[fr];intro z;cases z));refine Xu _ _ ?_;clear Xu N1 e1 N2 e2 e3 K3 nlr nld e23 N3;wp_walk using R3.ins;refine⟨rd,dx,l2,rows,0,0,0,rfl,R3,by decide,Zd,by decide,fun b k' L' hb p us H4 i' h4 hU R4 ZE K4=>?_,fun hb H4 K4=>qE (by rw[List.drop_zero] at hb;rw[hb]) _ (N4 K4)⟩;rw[List.drop_zero] at hb;rw[hb] at q qE;wp_walk using R4.ins;refine⟨rd,dx,l2,rows,_,_,rfl,R4,?_⟩;cases L' with
  | nil =>
   rw[xA ZE];wp_walk;exact q b rfl p us H4 h4 hU (N4 K4)
  | cons l L =>
   rw[pE ZE];wp_walk;exact qE rfl _ (N4 K4)
theorem Eg{t:Ad}(T:Tx K mg t):bR P w K mg base Xe 70 t.tX t.uH ["text"] (MT t.aP):=by
 refine T.Bu.ok gZ (fun vs H Q E h=>?_) (fun W7 A outer s H vs Q E hr h=>?_)
 ·obtain⟨x,rfl,_⟩:=h;rfl
 ·obtain⟨x,rfl,lx,q,qN⟩:=h;refine⟨_,(aD (aM (i:=1) gZ.nd rfl (Or.inl rfl) dM)
   (aD (aM (i:=2) gZ.nd rfl (Or.inl rfl) j9)
   (aD (MG (i:=1) (j:=3) (Ab T) (hr.mono (by omega)) rfl T.CB T.sO.kp T.B0 .nil (fun _=>(aC (pv 0) aB)) gZ.nd rfl (Or.inl rfl) rfl rfl T.zI T.cD.toXCls T.Bi.toXCls (by simp) (fun _=>(aD (aM (i:=2) gZ.nd rfl (Or.inl rfl) (Aj (bK (uD K rfl T.cD) rfl T.fO fY (aC (pv 3) (aC (dR (v:=.ref t.aP) rfl T.cG rfl) aB))) (Al (bK (uD K rfl T.cD) rfl T.fO fY (aC (pv 3) (aC (CQ (v:=.ty "ValueError") rfl T.pD AN rfl) aB))))))
   (aH (aM (i:=2) gZ.nd rfl (Or.inl rfl) (Aj (pv 2) (Al (JX (bK (uD K rfl T.cD) rfl T.fO fY (aC (pv 3) (aC (bA (aC (dR (v:=.ref t.cM) rfl T.DU rfl) (aC (dR (v:=.ref t.eZ) rfl T.Jw rfl) (aC (dR (v:=.ref t.jD) rfl T.Mp rfl) (aC (dR (v:=.ref t.dA) rfl T.EV rfl) (aC (dR (v:=.ref t.fA) rfl T.Jx rfl) (aC (dR (v:=.ref t.hV) rfl T.Mq rfl) (aC (dR (v:=.ref t.dO) rfl T.Hk rfl) aB)))))))) aB)))))))))))
   (aH (aN (bA (aC (pv 1) (aC (pv 2) aB)))))))),?_⟩
  and_intros
  wp_walk;refine⟨x,rfl,lx,fun b hb p us H1 h1 hU K1=>?_,fun hb H1 K1=>⟨rfl,fun e he=>?_⟩⟩
  ·wp_walk;exact fun a ha=>q b hb a p us _ aE ((q0D ha).at h1) (hU.kp (aJ.new ha)) (K1.trans (Kp.new ha))
  ·have N1:=q0D (o:=AK e t.aP) he;have e1:WZ H1 e (AK e t.aP) e=some (AK e t.aP):=aE;replace N1:=K1.trans N1;generalize WZ H1 e (AK e t.aP)=G1 at *;wp_walk;refine⟨e,e1,.inl ⟨.inl rfl,?_⟩⟩;wp_walk;refine⟨e,e1,.inl ⟨.inr rfl,?_⟩⟩;wp_walk;refine fun p hp=>?_;have N2:=q0D (o:=.tup [.ref t.cM,.ref t.eZ,.ref t.jD,.ref t.dA,.ref t.fA,.ref t.hV,.ref t.dO]) hp;refine⟨e,N2.at e1,.inr ⟨p,_,rfl,aE,?_,?_⟩⟩
   ·have ne:∀ D:Addr,t.aP≠D/\t.aO≠D->(Value.ref t.aP::Value.ref t.aO::jC).contains (.ref D)=false:=fun D ⟨a,b⟩=>by
     simp only[List.contains_cons,List.contains_nil,Bool.or_eq_false_iff,beq_eq_false_iff_ne,ne_eq,Value.ref.injEq,reduceCtorEq,not_false_eq_true,and_true];exact⟨fun z=>a z.symm,fun z=>b z.symm⟩
    obtain⟨x1,x2,x3,x4,x5,x6,x7⟩:=T.xne;intro c hc;simp only[List.mem_cons,List.not_mem_nil,or_false] at hc;rcases hc with rfl|rfl|rfl|rfl|rfl|rfl|rfl
    ·exact⟨_,rfl,T.Fy,ne _ x7⟩
    ·exact⟨_,rfl,T.Nd,ne _ x5⟩
    ·exact⟨_,rfl,T.RB,ne _ x1⟩
    ·exact⟨_,rfl,T.HM,ne _ x4⟩
    ·exact⟨_,rfl,T.Nf,ne _ x3⟩
    ·exact⟨_,rfl,T.RD,ne _ x6⟩
    ·exact⟨_,rfl,T.KL,ne _ x2⟩
   ·wp_walk;exact fun a ha=>qN hb a _ aE ((N1.trans N2).trans (Kp.new ha))
theorem oI{t:Ad}(T:Tx K mg t):bR P w K mg base Xe 72 t.tY t.uI ["text"] Kh:=by
 refine T.pH.ok kO (fun vs H Q E h=>?_) (fun W7 A outer s H vs Q E hr h=>?_)
 ·obtain⟨x,rfl,_⟩:=h;rfl
 ·obtain⟨x,rfl,lx,q⟩:=h;refine⟨_,(aD (aM (i:=1) kO.nd rfl (Or.inl rfl) (aI (Fc T) (hr.mono (by omega)) rfl T.JG T.DJ.kp T.Ia .nil pass0 (aC (pv 0) aB)))
   (aD (fV (aI (Eg T) (hr.mono (by omega)) rfl T.Hn T.Bu.kp T.GJ .nil pass0 (aC (pv 0) aB)) (JY rfl (tI (jQ (i:=2) kO.nd rfl (Or.inl rfl)) (tI (jQ (i:=3) kO.nd rfl (Or.inl rfl)) Gi))))
   (aH (aN (aX bM (bF (aC (Aj (JX (pv 3)) (Al (iV (Ac 20 (Ck hr (by decide))) (pv 2) (pv 1) (nomark _)))) (aC (pv 3) aB))) (bU jT rfl T.vQ jX (aC (iV Ae (pv 1) dM (nomark _)) aB)) (fun _ _=>rfl)))))),?_⟩
  and_intros
  wp_walk;refine⟨x,rfl,lx,fun hN H1 K1=>?_,fun b hb p us H1 h1 hU K1=>?_⟩
  ·refine⟨x,rfl,lx,fun b hb=>(by rw[hN] at hb;cases hb),fun _ a H2 h2 K2=>?_⟩;wp_walk;refine⟨_,hJ.of h2,rfl,?_⟩;wp_walk;exact fun l hl=>q _ ((K1.trans K2).trans (Kp.new hl))
  ·refine⟨x,rfl,lx,fun b2 hb2 a p2 XT H2 h2 h3 hU2 K2=>?_,fun z=>(by rw[hb] at z;cases z)⟩;rw[hb] at hb2;cases hb2;obtain⟨sy,sw_,sd,sz⟩:=Hv hb;wp_walk;refine⟨_,hJ.of h2,rfl,?_⟩;wp_walk;refine⟨true,J1 h3 (K2.at h1) hU2 (hU.kp (aJ.nil K2)) sw_ (by omega),?_⟩;wp_walk;exact fun l hl=>q _ ((K1.trans K2).trans (Kp.new hl))
theorem Ei{t:Ad}(T:Tx K mg t):bR P w K mg base Xe 2 t.tZ t.uJ ["row"] Gv:=by
 refine T.Bv.ok wK (fun vs H Q E h=>?_) (fun W7 A outer s H vs Q E hr h=>?_)
 ·obtain⟨r,rfl,_⟩:=h;rfl
 ·obtain⟨r,rfl,hR,q⟩:=h;refine⟨_,(aD (aM (i:=1) wK.nd rfl (Or.inl rfl) (aS iE (aI (aY T) (hr.mono (by omega)) rfl T.bI T.bG.kp T.bH .nil pass0 (aC (pv 0) (aC (aS aQ (aS Af aG (aS u0 aG aG)) aG) aB))) (aS u0 aG aG)))
   (aH (aN (aX bM (bF (aC dM (aC (aS u0 aG aG) (aC (lV iT (aS u0 aG aG)) (aC (pv 1) (aC (aS iE (aI (aY T) (hr.mono (by omega)) rfl T.bI T.bG.kp T.bH .nil pass0 (aC (pv 0) (aC aG aB))) aG) aB)))))) (aI (aY T) (hr.mono (by omega)) rfl T.bI T.bG.kp T.bH .nil pass0 (aC (pv 0) (aC aG aB))) (fun _ _=>rfl))))),?_⟩
  and_intros
  wp_walk;refine⟨hR,fun g H1 a1 b1 R1 K1=>?_⟩;wp_walk;refine⟨R1,fun g2 H2 a2 b2 R2 K2 p hp=>⟨R2.new hp,fun g3 H3 a3 b3 R3 K3=>?_⟩⟩;wp_walk using K3.made R2 hp;refine dN a3 b3 fun v hv=>?_;wp_walk;have K:=(K1.trans K2).trans ((Kp.new hp).trans K3);simp only[List.mem_cons,List.not_mem_nil,or_false] at hv;rcases hv with rfl|rfl|rfl|rfl|rfl
  ·exact q none _ DP R3 K
  all_goals exact q (some _) _ (Jr (by omega) (by omega)) R3 K
theorem C2{t:Ad}(T:Tx K mg t){n d:Nat}(hn:3<=n)(IH:bR P w K mg base Xe n t.jW t.j4 ["row","deep","names","left"] (Ay d)):bR P w K mg base Xe (n+1) t.jW t.j4 ["row","deep","names","left"] (Ay (d+1)):=by
 refine T.fD.ok fS (fun vs H Q E h=>?_) (fun W7 A outer s H vs Q E hr h=>?_)
 ·obtain⟨r,nl,lf,dp,xs,k,rfl,_⟩:=h;rfl
 ·obtain⟨r,nl,lf,dp,xs,k,rfl,I,hd,q⟩:=h;refine⟨_,(aD (aM (i:=4) fS.nd rfl (Or.inl rfl) (aI (aY T) (hr.mono (by omega)) rfl T.bI T.bG.kp T.bH .nil pass0 (aC (pv 0) (aC aG aB))))
   (aD (fV (aS iE (aX bM (pv 3) aG (fun _ _=>rfl)) aG) (fU (pv 3) aG jI))
   (aD (aW (PW.pt (iG (aK bW (pv 1) aG (nomark _)) (iG (aK nA (aX bM (pv 3) aG (fun _ _=>rfl)) aG (nomark _)) (fJ (aK nA (pv 4) aG (nomark _)))))) (aD (aM (i:=5) fS.nd rfl (Or.inl rfl) (aI (aY T) (hr.mono (by omega)) rfl T.bI T.bG.kp T.bH .nil pass0 (aC (pv 0) (aC aG aB))))
   (aD (aW (aK nA (pv 5) aG (nomark _)) (aH (aN (bA (aC aF (aC (aX bM (pv 2) (aI (aY T) (hr.mono (by omega)) rfl T.bI T.bG.kp T.bH .nil pass0 (aC (pv 0) (aC (bK bO rfl T.iK cZ (aC (pv 2) aB)) aB))) (fun _ _=>rfl)) aB))))) aR)
   (aD (aW (aK nA (pv 5) aG (nomark _)) (aD (aM (i:=6) fS.nd rfl (Or.inl rfl) (aI (Ei T) (hr.mono (by omega)) rfl T.Ho T.Bv.kp T.GK .nil pass0 (aC (pv 0) aB)))
   (aH (aN (aX bM (bF (aC (bA (aC aF (aC (pv 6) aB))) (aC (bA (aC aF aB)) aB))) (bU jT rfl T.vQ jX (aC (iV Ae (pv 6) dM (nomark _)) aB)) (fun _ _=>rfl))))) aR)
   (aH (aN (aX bM (bF (aC (bA (aC aF aB)) (aC (bA (aC aF aB)) aB))) (aS iE (pv 5) aG) (fun _ _=>rfl))))))) aR)
   (aD (aW (aK nA (pv 4) aG (nomark _)) (aH (aN (bA (aC (aX bM (bF (aC aF (aC aF aB))) (aS iE (pv 4) aG) (fun _ _=>rfl)) (aC (aI IH (hr.mono (by omega)) rfl T.gM T.fD.kp T.gJ .nil pass0 (aC (pv 0) (aC (aS iE (pv 1) aG) (aC (pv 2) (aC (pv 3) aB))))) aB))))) aR)
   (aD (aM (i:=7) fS.nd rfl (Or.inl rfl) (aI IH (hr.mono (by omega)) rfl T.gM T.fD.kp T.gJ .nil pass0 (aC (pv 0) (aC (aS iE (pv 1) aG) (aC (pv 2) (aC (pv 3) aB))))))
   (aD (aM (i:=8) fS.nd rfl (Or.inl rfl) (aX bM (bF (aC aF (aC aF (aC aF (aC aF (aC aF aB)))))) (aI (aY T) (hr.mono (by omega)) rfl T.bI T.bG.kp T.bH .nil pass0 (aC (pv 0) (aC aG aB))) (fun _ _=>rfl)))
   (aH (aN (bA (aC (pv 8) (aC (pv 7) (aC (aI IH (hr.mono (by omega)) rfl T.gM T.fD.kp T.gJ .nil pass0 (aC (pv 0) (aC (aS iE (pv 1) aG) (aC (pv 2) (aC (pv 3) aB))))) aB)))))))))))),?_⟩
  and_intros
  refine aU fun XF Xa=>?_;wp_walk;refine⟨I.row,fun g H1 a1 b1 R1 K1=>?_⟩;have l1:=K1.at1 I.XZ I.n2;have n1:=K1.at1 I.XA I.n1;refine Xa _ _ ?_;clear Xa;refine aU fun YX Xu=>?_;wp_walk using l1;have B:Kp [r,lf] H (WZ H1 lf (.lst [.int (k - 1)])):=(K1.mono (by simp)).trans (Kp.set (by simp));have R1':bQ (WZ H1 lf (.lst [.int (k - 1)])) r:=R1.kp (S:=[lf]) (Kp.set (by simp)) (by simp[I.n2.symm]);have Z4:WZ H1 lf (.lst [.int (k - 1)]) lf=some (.lst [.int (k - 1)]):=aE;generalize WZ H1 lf (.lst [.int (k - 1)])=G at *;refine Xu _ _ ?_;clear Xu;refine aU fun R_3 XI=>?_;wp_walk using Z4;simp only[Wl];have n1':=B _ _ I.XA (by simp[I.n1,I.n3]);have lo:=I.lo;split
  ·refine⟨R1',fun g2 H2 a2 b2 R2 K2=>?_⟩;have n2:=K2.at1 n1' I.n1;have l2:=K2.at1 Z4 I.n2;have B2:=B.trans (K2.mono (T:=[r,lf]) (by simp));split
   ·wp_walk using n2;have h0:=I.l0;have h1:=I.l1;refine⟨by simp;omega,by simp;omega,R2,fun g3 H3 a3 b3 R3 K3=>?_⟩;wp_walk using K3.at1 n2 I.n1;refine dN a3 b3 fun v hv=>?_;wp_walk;obtain⟨x,hxm,rfl⟩:=List.mem_map.mp hv;exact fun p hp=>q _ (.name x) _ ⟨.name aE,by simpa[Say.depth] using lo,trivial,R3.new hp,⟨_,(q0D hp).at (K3.at1 l2 I.n2)⟩,(B2.trans (K3.mono (by simp))).trans (Kp.new hp),fun y hy=>by rw[show y=x by simpa[Say.nms] using hy];exact hxm⟩
   split
   ·refine⟨R2,fun w H3 hw R3 K3 p1 h1 p2 h2 p3 h3=>?_⟩;have B3:=(((B2.trans (K3.mono (T:=[r,lf]) (by simp))).trans (Kp.new h1)).trans (Kp.new h2)).trans (Kp.new (o:=.lst [.ref p1,.ref p2]) h3);have l3:=(q0D (o:=.lst [.ref p1,.ref p2]) h3).at ((q0D h2).at ((q0D h1).at (K3.at1 l2 I.n2)));have t1:=(q0D (o:=.lst [.ref p1,.ref p2]) h3).at ((q0D (o:=.tup [.str "none"]) h2).at (aE (H:=H3) (a:=p1) (o:=.tup [.str "number",wv w])));have t2:=(q0D (o:=.lst [.ref p1,.ref p2]) h3).at (aE (H:=WZ H3 p1 (.tup [.str "number",wv w])) (a:=p2) (o:=.tup [.str "none"]));cases w with
    | none =>
     wp_walk using KJ;exact q _ .W3 _ ⟨.W3 t2,by simpa[Say.depth] using lo,trivial,((R3.new h1).new h2).new h3,⟨_,l3⟩,B3,(by simp[Say.nms])⟩
    | some m =>
     wp_walk using KJ,reduceCtorEq;exact q _ (.num m) _ ⟨.num t1,by simpa[Say.depth] using lo,hw m rfl,((R3.new h1).new h2).new h3,⟨_,l3⟩,B3,(by simp[Say.nms])⟩
   ·refine fun p1 h1 p2 h2 p3 h3=>?_;have B3:=((B2.trans (Kp.new h1)).trans (Kp.new h2)).trans (Kp.new (o:=.lst [.ref p1,.ref p2]) h3);have l3:=(q0D (o:=.lst [.ref p1,.ref p2]) h3).at ((q0D h2).at ((q0D h1).at l2));have t1:=(q0D (o:=.lst [.ref p1,.ref p2]) h3).at ((q0D (o:=.tup [.str "now"]) h2).at (aE (H:=H2) (a:=p1) (o:=.tup [.str "arg"])));have t2:=(q0D (o:=.lst [.ref p1,.ref p2]) h3).at (aE (H:=WZ H2 p1 (.tup [.str "arg"])) (a:=p2) (o:=.tup [.str "now"]));refine dN (by omega) (by simp;omega) fun v hv=>?_;wp_walk;simp only[List.mem_cons,List.not_mem_nil,or_false] at hv;rcases hv with rfl|rfl
    ·exact q _ .arg _ ⟨.arg t1,by simpa[Say.depth] using lo,trivial,((R2.new h1).new h2).new h3,⟨_,l3⟩,B3,(by simp[Say.nms])⟩
    ·exact q _ .now _ ⟨.now t2,by simpa[Say.depth] using lo,trivial,((R2.new h1).new h2).new h3,⟨_,l3⟩,B3,(by simp[Say.nms])⟩
  rename_i hc
  refine XI _ _ ?_;clear XI;refine aU fun R_4 Yh=>?_;wp_walk;split
  ·refine fun p hp=>?_;refine dN (by omega) (by simp;omega) fun v hv=>?_;wp_walk;have K2:Kp [r,lf] G (WZ G p (.lst [.str "answer",.str "not"])):=Kp.new hp;refine⟨r,nl,lf,dp - 1,xs,k - 1,rfl,I.kp (B.trans K2) (R1'.new hp) ((q0D hp).at Z4) (by omega),by omega,fun u s H2 O p2 h2=>?_⟩;obtain⟨k2,l2⟩:=O.XZ;have l3:=(q0D (o:=.tup [v,u]) h2).at l2;have B3:=((B.trans K2).trans O.kp).trans (Kp.new (o:=.tup [v,u]) h2);have od:=O.hdp;simp only[List.mem_cons,List.not_mem_nil,or_false] at hv;rcases hv with rfl|rfl
   ·exact q _ (.Xz s) _ ⟨.Xz aE (O.say.kp (aJ.new h2)),by simp only[Say.depth];omega,O.ok,O.row.new h2,⟨_,l3⟩,B3,O.nms⟩
   ·exact q _ (.neg s) _ ⟨.neg aE (O.say.kp (aJ.new h2)),by simp only[Say.depth];omega,O.ok,O.row.new h2,⟨_,l3⟩,B3,O.nms⟩
  ·refine Yh _ _ ?_;clear Yh;refine aU fun R_5 YD=>?_;wp_walk;refine⟨r,nl,lf,dp - 1,xs,k - 1,rfl,I.kp B R1' Z4 (by omega),by omega,fun u s H2 O=>?_⟩;refine YD _ _ ?_;clear YD;refine aU fun R_6 YE=>?_;wp_walk;obtain⟨k2,l2⟩:=O.XZ;refine fun p hp=>⟨O.row.new hp,fun g3 H3 a3 b3 R3 K3=>?_⟩;wp_walk using K3.made O.row hp;refine dN a3 b3 fun v hv=>?_;wp_walk;have l3:=K3.at1 ((q0D hp).at l2) I.n2;have B3:=((B.trans O.kp).trans (Kp.new hp)).trans (K3.mono (T:=[r,lf]) (by simp));refine YE _ _ ?_;clear YE;wp_walk;refine⟨r,nl,lf,dp - 1,xs,k2,rfl,I.kp B3 R3 l3 (by omega),by omega,fun u2 s2 H4 O2 p2 h2=>?_⟩;obtain⟨k4,l4⟩:=O2.XZ;have l5:=(q0D (o:=.tup [v,u,u2]) h2).at l4;have B5:=(B3.trans O2.kp).trans (Kp.new (o:=.tup [v,u,u2]) h2);have o1:=O.hdp;have o2:=O2.hdp;have T1:aJ H2 (WZ H4 p2 (.tup [v,u,u2])):=(((aJ.new hp).trans (aJ.row K3 (O.row.new hp))).trans (aJ.two O2.kp R3 l3)).trans (aJ.new h2);have fin:∀ gg:Sg,v=.str gg.s->Q (.ref p2) (WZ H4 p2 (.tup [v,u,u2])):=fun gg e=>by
    subst e;exact q _ (.two gg s s2) _ ⟨.two aE (O.say.kp T1) (O2.say.kp (aJ.new h2)),by simp only[Say.depth];omega,⟨O.ok,O2.ok⟩,O2.row.new h2,⟨_,l5⟩,B5,fun y hy=>(List.mem_append.mp hy).elim (O.nms y) (O2.nms y)⟩
   simp only[List.mem_cons,List.not_mem_nil,or_false] at hv;rcases hv with e|e|e|e|e
   ·exact fin .add e
   ·exact fin .sub e
   ·exact fin .mul e
   ·exact fin .lt e
   ·exact fin .eq e
theorem jP{t:Ad}(T:Tx K mg t):∀ d,bR P w K mg base Xe (d+3) t.jW t.j4 ["row","deep","names","left"] (Ay d):=by
 intro d
 induction d with
 | zero=>exact⟨fun _ _ _ _ x=>by (obtain⟨_,_,_,_,_,_,_,I,h,_⟩:=x;exact absurd h (by have:=I.lo;omega)),fun _ _ _ _ _ _ _ _ _ _ _ _ _ x=>by (obtain⟨_,_,_,_,_,_,_,I,h,_⟩:=x;exact absurd h (by have:=I.lo;omega))⟩
 | succ d ih=>exact C2 T (by omega) ih
theorem rL{t:Ad}(T:Tx K mg t):bR P w K mg base Xe 2 t.xX t.yL ["row"] Ke:=by
 refine T.sJ.ok fM (fun vs H Q E h=>?_) (fun W7 A outer s H vs Q E hr h=>?_)
 ·obtain⟨r,rfl,_⟩:=h;rfl
 ·obtain⟨r,rfl,hR,q⟩:=h;refine⟨_,(aD (aM (i:=1) fM.nd rfl (Or.inl rfl) aF)
   (aD (aM (i:=2) fM.nd rfl (Or.inl rfl) (aI (aY T) (hr.mono (by omega)) rfl T.bI T.bG.kp T.bH .nil pass0 (aC (pv 0) (aC aG aB))))
   (aD (aW (aK bW (pv 2) aG (nomark _)) (aD (aM (i:=3) fM.nd rfl (Or.inl rfl) (aX bM (tF (pP T) (hr.mono (by omega)) rfl T.xM T.sL.kp T.xE .nil pass0) (aI (aY T) (hr.mono (by omega)) rfl T.bI T.bG.kp T.bH .nil pass0 (aC (pv 0) (aC aG aB))) (fun _ _=>rfl)))
   (aH (aN (aX bM (bF (aC (aS aQ (bT iJ (pv 3) bY (bZ (lV iT aG))) aF) (aC (bT iJ (aS aQ (pv 3) aF) (bZ (lV iT aG)) bY) (aC (aS aQ (bT iJ (pv 3) bY (bZ aG)) aF) aB)))) (aI (aY T) (hr.mono (by omega)) rfl T.bI T.bG.kp T.bH .nil pass0 (aC (pv 0) (aC aG aB))) (fun _ _=>rfl))))) aR)
   (aD (aW (aK bW (pv 2) aG (nomark _)) (aH (aN (aX bM (bF (aC aF (aC aF (aC aF (aC aF (aC aF (aC aF aB))))))) (aI (aY T) (hr.mono (by omega)) rfl T.bI T.bG.kp T.bH .nil pass0 (aC (pv 0) (aC aG aB))) (fun _ _=>rfl)))) aR)
   (aD (aM (i:=4) fM.nd rfl (Or.inl rfl) aF)
   (aD (vB PassesOwn.never rfl (vA rfl T.AI (aC (aS aQ aG (aI (aY T) (hr.mono (by omega)) rfl T.bI T.bG.kp T.bH .nil pass0 (aC (pv 0) (aC aG aB)))) aB)) (jQ (i:=5) fM.nd rfl (Or.inl rfl)) (aH (aM (i:=4) fM.nd rfl (Or.inl rfl) (aS aQ (pv 4) (aX bM (pv 1) (aI (aY T) (hr.mono (by omega)) rfl T.bI T.bG.kp T.bH .nil pass0 (aC (pv 0) (aC aG aB))) (fun _ _=>rfl))))))
   (aD (aW (aK iQ (pv 4) (tF (pP T) (hr.mono (by omega)) rfl T.xM T.sL.kp T.xE .nil pass0) (by with_unfolding_all rfl)) (aH (aM (i:=4) fM.nd rfl (Or.inl rfl) (aS aQ (bT iJ (pv 4) bY (bZ aG)) aF))) aR)
   (aH (aN (pv 4)))))))))),?_⟩
  and_intros
  wp_walk;obtain⟨lx,lz,ls,lq,l0,l26⟩:=Uk;refine⟨hR,fun g H1 a1 b1 R1 K1=>?_⟩;split
  ·refine fun p H2 hp K2 e2=>⟨R1.kp K2,fun g2 H3 a3 b3 R3 K3=>?_⟩;have e3:=K3.at1 e2 (R1.none hp);wp_walk using e3;refine dN a3 b3 fun v hv=>?_;wp_walk;obtain⟨x,rfl,hx,nm1,nm2,nm3⟩:=QU hv;have l1:=lX x none (some (-1));have l2:=lX (x++"s") (some (-6)) none;have l3:=lX x none (some 5);have l4:=bE x "s";have l5:=bE (Txt.slice x none (some (-1))) "z";have l6:=bE (Txt.slice x none (some 5)) "x";wp_walk;refine⟨by omega,by omega,by omega,by omega,by omega,by omega,fun p4 h4=>⟨R3.new h4,fun g5 H5 a5 b5 R5 K5=>?_⟩⟩;wp_walk using K5.made R3 h4;refine dN a5 b5 fun v hv=>?_;wp_walk;have K:=K1.trans ((Kp.of K2.same).trans (K3.trans ((Kp.new h4).trans K5)));simp only[List.mem_cons,List.not_mem_nil,or_false] at hv;rcases hv with rfl|rfl|rfl
   ·exact q _ _ nm1 R5 K
   ·exact q _ _ nm2 R5 K
   ·exact q _ _ nm3 R5 K
  split
  ·refine fun p4 h4=>⟨R1.new h4,fun g5 H5 a5 b5 R5 K5=>?_⟩;wp_walk using K5.made R1 h4;refine dN a5 b5 fun v hv=>?_;wp_walk;have K:=K1.trans ((Kp.new h4).trans K5);obtain⟨x6,rfl,n6⟩:=Q8 _ hv;exact q _ _ n6 R5 K
  ·refine⟨R1,fun g5 H5 a5 b5 R5 K5=>⟨⟨by omega,by omega⟩,?_⟩⟩;refine Ha (lo:=0) (fun i σ H'=>∃(x:Str) (v:Option V),σ=[some (.ref r),some (.str "abcdefghijklmnopqrstuvwxyz"),some (.int g),none,some (.str x),v]/\(x.length=i/\x.length<=6/\x.cps.toList.all (fun c=>decide (97<=c)&&decide (c<=122))=true)/\bQ H' r/\Kp [r] H H')
    ⟨"",none,rfl,⟨l0,by omega,by decide +kernel⟩,R5,K1.trans K5⟩ ?_ ?_
   ·rintro i σ H' hi ⟨x,v,rfl,hx,R',K'⟩;wp_walk;refine⟨R',fun g6 H6 a6 b6 R6 K6=>⟨by omega,?_⟩⟩;refine Gk a6 (by omega) fun c hcm=>?_;have l1:=bE x ⟨#[c]⟩;have l2:=Mw c;wp_walk;exact⟨by omega,_,_,rfl,⟨by omega,by omega,HU hx.2.2 (GH c hcm)⟩,R6,K'.trans K6⟩
   ·rintro σ H' ⟨x,v,rfl,hx,R',K'⟩;have lx:x.length<=100:=by omega
    wp_walk;refine fun p H2 hp K2 e2=>?_;wp_walk using e2,JT,cY;have K:=K'.trans (Kp.of K2.same);split
    ·have l3:=lX x none (some 5);have l4:=bE (Txt.slice x none (some 5)) "q";exact⟨by omega,by omega,q _ _ (Ut ‹_›) (R'.kp K2) K⟩
    ·exact q _ _ (Um (by omega) hx.2.1 hx.2.2 ‹_›) (R'.kp K2) K
theorem Fb{t:Ad}(T:Tx K mg t):bR P w K mg base Xe 10 t.xV t.yJ ["row","names","deep"] Kc:=by
 refine T.DI.ok mY (fun vs H Q E h=>?_) (fun W7 A outer s H vs Q E hr h=>?_)
 ·obtain⟨r,nl,dp,xs,rfl,_⟩:=h;rfl
 ·obtain⟨r,nl,dp,xs,rfl,I,d0,d6,q⟩:=h;refine⟨_,(aD (aM (i:=3) mY.nd rfl (Or.inl rfl) (aI (aY T) (hr.mono (by omega)) rfl T.bI T.bG.kp T.bH .nil pass0 (aC (pv 0) (aC aG aB))))
   (aD (aM (i:=4) mY.nd rfl (Or.inl rfl) (aX bM (pv 1) (aI (aY T) (hr.mono (by omega)) rfl T.bI T.bG.kp T.bH .nil pass0 (aC (pv 0) (aC (bK bO rfl T.iK cZ (aC (pv 1) aB)) aB))) (fun _ _=>rfl)))
   (aD (aM (i:=5) mY.nd rfl (Or.inl rfl) (aI (jP T 6) (hr.mono (by omega)) rfl T.gM T.fD.kp T.gJ .nil pass0 (aC (pv 0) (aC (pv 2) (aC (pv 1) (aC (bF (aC aG aB)) aB))))))
   (aD (aW (aK bW (pv 3) aG (nomark _)) (aH (aN (bA (aC aF (aC (pv 4) (aC (aI (rL T) (hr.mono (by omega)) rfl T.zP T.sJ.kp T.yB .nil pass0 (aC (pv 0) aB)) (aC (pv 5) aB))))))) aR)
   (aD (aW (aK bW (pv 3) aG (nomark _)) (aH (aN (bA (aC aF (aC (pv 4) (aC (pv 5) aB)))))) aR)
   (aD (aW (aK bW (pv 3) aG (nomark _)) (aH (aN (bA (aC aF (aC (pv 4) (aC (aI (rL T) (hr.mono (by omega)) rfl T.zP T.sJ.kp T.yB .nil pass0 (aC (pv 0) aB)) (aC (pv 5) aB))))))) aR)
   (aD (aW (aK bW (pv 3) aG (nomark _)) (aH (aN (bA (aC aF (aC (pv 5) (aC (aX bM (pv 1) (aI (aY T) (hr.mono (by omega)) rfl T.bI T.bG.kp T.bH .nil pass0 (aC (pv 0) (aC (bK bO rfl T.iK cZ (aC (pv 1) aB)) aB))) (fun _ _=>rfl)) (aC (aI (jP T 6) (hr.mono (by omega)) rfl T.gM T.fD.kp T.gJ .nil pass0 (aC (pv 0) (aC (pv 2) (aC (pv 1) (aC (bF (aC aG aB)) aB))))) aB))))))) aR)
   (aD (aW (aK bW (pv 3) aG (nomark _)) (aH (aN (bA (aC aF (aC (pv 5) aB))))) aR)
   (aD (aW (aK bW (pv 3) aG (nomark _)) (aH (aN (bA (aC aF (aC (pv 4) (aC (aS Gg (bA (aC (pv 5) aB)) (bU eX rfl T.iU fB (aC (kN (fr:=[0,1]) (N:=["k","row","names"]) rfl (fun _ _ h=>h) (eO.free rfl rfl rfl rfl rfl (fun _ _ h=>look2 (by decide) h) rfl (by decide) rfl (fun j hj=>by rcases(show j=0\/j=1 by simpa using hj) with rfl|rfl<;>exact⟨_,rfl,rfl,.inl rfl⟩)) (vA rfl T.AI (aC (aI (aY T) (hr.mono (by omega)) rfl T.bI T.bG.kp T.bH .nil pass0 (aC (pv 0) (aC aG aB))) aB)) (fun C s H ex pn=>⟨mP,aI (jP T 6) (hr.mono (by omega)) rfl T.gM T.fD.kp T.gJ .nil pass0 (aC (pv 1) (aC aG (aC (pv 2) (aC (bF (aC aG aB)) aB))))⟩)) aB))) aB)))))) aR)
   (aD (aW (aK bW (pv 3) aG (nomark _)) (aH (aN (bA (aC aF (aC (pv 4) (aC (aX bM (pv 1) (aI (aY T) (hr.mono (by omega)) rfl T.bI T.bG.kp T.bH .nil pass0 (aC (pv 0) (aC (bK bO rfl T.iK cZ (aC (pv 1) aB)) aB))) (fun _ _=>rfl)) aB)))))) aR)
   (aD (aW (aK bW (pv 3) aG (nomark _)) (aH (aN (bA (aC aF (aC (pv 5) aB))))) aR)
   (aH (aN (bA (aC aF (aC (pv 4) (aC (pv 5) aB))))))))))))))))),?_⟩
  and_intros
  refine aU fun XF Xa=>?_;wp_walk;refine⟨I.row,fun g H1 a1 b1 R1 K1=>?_⟩;have I1:=I.kp K1 R1;refine Xa _ _ ?_;clear Xa;refine aU fun YX Xu=>?_;wp_walk using I1.XA,List.length_map;have x0:=I.l0;have x1:=I.l1;refine⟨by omega,by omega,R1,fun g2 H2 a2 b2 R2 K2=>?_⟩;have I2:=I1.kp K2 R2;wp_walk using I2.XA;refine dN a2 (by simpa using b2) fun v hv=>?_;wp_walk;obtain⟨x,hxm,rfl⟩:=List.mem_map.mp hv;have xsh:=I.sh x hxm;refine Xu _ _ ?_;clear Xu;refine aU fun R_3 XI=>?_;wp_walk;refine fun lf XZ=>⟨r,nl,lf,dp,xs,6,rfl,I2.say XZ d0,by omega,fun u s H3 O=>?_⟩;have K3:=(K1.trans K2).trans (O.kp1 XZ);have s6:=O.s6 d6 I.sh;have I3:=I.kp K3 O.row;have fin:∀(v:V) (m:Stm) (H':Hp),bV H' v m->m.wf->m.dp=0->m.sz=1->bQ H' r->Kp [r] H3 H'->Q v H':=fun v m H' h1 h2 h3 h4 h5 h6=>q v m H' ⟨h1,h2,h3,h4,h5,K3.trans h6⟩;refine XI _ _ ?_;clear XI;refine aU fun R_4 Yh=>?_;wp_walk using I3.XA,List.length_map;split
  ·refine⟨O.row,fun y H4 hy R4 K4 p hp=>?_⟩;exact fin _ (.order x y s) _ (.order aE ((O.say.kp (aJ.row K4 O.row)).kp (aJ.new hp))) ⟨xsh,hy,s6⟩ rfl rfl (R4.new hp) (K4.trans (Kp.new hp))
  refine Yh _ _ ?_;clear Yh;refine aU fun R_5 YD=>?_;wp_walk using I3.XA,List.length_map;split
  ·exact fun p hp=>fin _ (.W4 x s) _ (.W4 aE (O.say.kp (aJ.new hp))) ⟨xsh,s6⟩ rfl rfl (O.row.new hp) (Kp.new hp)
  refine YD _ _ ?_;clear YD;refine aU fun R_6 YE=>?_;wp_walk using I3.XA,List.length_map;split
  ·refine⟨O.row,fun y H4 hy R4 K4 p hp=>?_⟩;exact fin _ (.child x y s) _ (.child aE ((O.say.kp (aJ.row K4 O.row)).kp (aJ.new hp))) ⟨xsh,hy,s6⟩ rfl rfl (R4.new hp) (K4.trans (Kp.new hp))
  refine YE _ _ ?_;clear YE;refine aU fun R_7 Y5=>?_;wp_walk using I3.XA,List.length_map;split
  ·refine⟨by omega,by omega,O.row,fun g4 H4 a4 b4 R4 K4=>?_⟩;have I4:=I3.kp K4 R4;wp_walk using I4.XA;refine dN a4 (by simpa using b4) fun v4 hv4=>?_;wp_walk;obtain⟨k,hkm,rfl⟩:=List.mem_map.mp hv4;refine fun lf4 aa2=>⟨r,nl,lf4,dp,xs,6,rfl,I4.say aa2 d0,by omega,fun u5 s5 H5 O5 p hp=>?_⟩;have K5:=O5.kp1 aa2;exact fin _ (.send s k s5) _ (.send aE (((O.say.kp (aJ.row K4 O.row)).kp (aJ.row K5 R4)).kp (aJ.new hp)) (O5.say.kp (aJ.new hp))) ⟨s6,I.sh k hkm,O5.s6 d6 I.sh⟩ rfl rfl (O5.row.new hp) ((K4.trans K5).trans (Kp.new hp))
  refine Y5 _ _ ?_;clear Y5;refine aU fun R_8 hR8=>?_;wp_walk using I3.XA,List.length_map;split
  ·exact fun p hp=>fin _ (.drop s) _ (.drop aE (O.say.kp (aJ.new hp))) s6 rfl rfl (O.row.new hp) (Kp.new hp)
  refine hR8 _ _ ?_;clear hR8;refine aU fun R_9 hR9=>?_;wp_walk using I3.XA,List.length_map;split
  ·refine fun p hp=>⟨O.row.new hp,fun g4 H4 a4 b4 R4 K4=>⟨⟨by omega,by omega⟩,?_⟩⟩;have I4:=(I3.kp (Kp.new hp) (O.row.new hp)).kp K4 R4;have e4:H4 p=some (.tup [u]):=K4.made O.row hp;have s4:=(O.say.kp (aJ.new (o:=.tup [u]) hp)).kp (aJ.row K4 (O.row.new hp));have npr:=O.row.none hp;have K34:Kp [r] H3 H4:=(Kp.new hp).trans K4;refine DT (lo:=0) (fun j vs G=>∃ ss:List Say,cT G vs ss/\(ss.length=j/\j<=3)/\(∀ s∈ss,s.s6)/\bQ G r/\Kp [r] H4 G) ⟨[],.nil,⟨rfl,by decide⟩,by simp,R4,Kp.refl⟩ ?_ ?_ ?_
   ·rintro j vs G ⟨ss,h,hl,_,_,_⟩;have:=h.len;omega
   ·rintro j vs G hj ⟨ss,h,hl,h6,R,K⟩;have IG:=I4.kp K R;wp_walk using bP,Option.join_some;refine fun lf2 aa1=>⟨r,nl,lf2,2,xs,3,rfl,IG.say aa1 (by decide),by decide,fun u5 s5 H5 O5=>?_⟩;have K5:=O5.kp1 aa1;exact⟨ss++[s5],(h.kp (aJ.row K5 R)).snoc O5.say,⟨by simp[hl.1],by omega⟩,fun z hz=>(List.mem_append.mp hz).elim (h6 z) fun hz=>by rw[show z=s5 by simpa using hz];exact O5.s6 (by decide) I.sh,O5.row,K.trans K5⟩
   ·rintro vs G ⟨ss,h,hl,h6,R,K⟩ l XM;have eG:=K.at1 e4 npr;have sG:=s4.kp (aJ.row K R4);have hlen:=h.len;wp_walk;refine fun c hc=>?_;have KN:=(q0D (o:=.lst vs) XM).trans (Kp.new (o:=.tup vs) hc);have ep:=KN.at eG;have ec:WZ (WZ G l (.lst vs)) c (.tup vs) c=some (.tup vs):=aE;have sN:=sG.kp (aJ.nil KN);have hN:=h.kp (aJ.nil KN);have RN:=(R.new (o:=.lst vs) XM).new (o:=.tup vs) hc;generalize WZ (WZ G l (.lst vs)) c (.tup vs)=G2 at *;have KF:Kp [r] H3 G2:=(K34.trans K).trans (Kp.of KN.same);wp_walk using ep,ec,reduceCtorEq,Jb;refine⟨by omega,?_⟩;split
    ·rename_i c0
     subst c0;refine fun c7 ZG=>fin _ (.wait x [s]) _ (.wait aE ((q0D ZG).at ep) (.cons (sN.kp (aJ.new ZG)) .nil)) ⟨xsh,by simp,fun z hz=>by rw[show z=s by simpa using hz];exact s6⟩ rfl rfl (RN.new ZG) (KF.trans (Kp.new ZG))
    ·refine fun c6 hc6 c7 ZG=>?_;have T7:aJ G2 (WZ (WZ G2 c6 (.tup (u::vs))) c7 (.tup [.str "wait",.str x,.ref c6])):=(aJ.new hc6).trans (aJ.new ZG);refine fin _ (.wait x (s::ss)) _ (.wait aE ((q0D ZG).at aE) (.cons (sN.kp T7) (hN.kp T7))) ⟨xsh,by simp;omega,fun z hz=>?_⟩ rfl rfl ((RN.new hc6).new ZG) ((KF.trans (Kp.new hc6)).trans (Kp.new ZG));rcases List.mem_cons.mp hz with rfl|hz
     ·exact s6
     ·exact h6 z hz
  refine hR9 _ _ ?_;clear hR9;refine aU fun acL aaX=>?_;wp_walk using I3.XA,List.length_map;split
  ·refine⟨by omega,by omega,O.row,fun g4 H4 a4 b4 R4 K4=>?_⟩;have I4:=I3.kp K4 R4;wp_walk using I4.XA;refine dN a4 (by simpa using b4) fun v4 hv4=>?_;wp_walk;obtain⟨k,hkm,rfl⟩:=List.mem_map.mp hv4;exact fun p hp=>fin _ (.W9 x k) _ (.W9 aE) ⟨xsh,I.sh k hkm⟩ rfl rfl (R4.new hp) (K4.trans (Kp.new hp))
  refine aaX _ _ ?_;clear aaX;refine aU fun acM aaY=>?_;wp_walk using I3.XA,List.length_map;split
  ·exact fun p hp=>fin _ (.fin s) _ (.fin aE (O.say.kp (aJ.new hp))) s6 rfl rfl (O.row.new hp) (Kp.new hp)
  refine aaY _ _ ?_;clear aaY;wp_walk using I3.XA,List.length_map;exact fun p hp=>fin _ (.set x s) _ (.set aE (O.say.kp (aJ.new hp))) ⟨xsh,s6⟩ rfl rfl (O.row.new hp) (Kp.new hp)
theorem Ew{t:Ad}(T:Tx K mg t){n d:Nat}(hn:12<=n)(IH:bR P w K mg base Xe n t.lJ t.lO ["row","names","deep","left","many"] (C0 d)):bR P w K mg base Xe (n+1) t.lJ t.lO ["row","names","deep","left","many"] (C0 (d+1)):=by
  refine T.pG.ok g0 (fun vs H Q E h=>?_) (fun W7 A outer s H vs Q E hr h=>?_)
  · obtain⟨r,nl,lf,dp,many,k,xs,rfl,_⟩:=h;rfl
  · obtain⟨r,nl,lf,dp,many,k,xs,rfl,I,d0,d1,XZ,k0,k1,n1,n2,q⟩:=h;refine⟨_,(aD (aM (i:=5) g0.nd rfl (Or.inl rfl) (bF aB))
      (aD (tK PassesOwn.never (PW.pt (rM (aK qK (aX bM (pv 3) aG (fun _ _=>rfl)) aG (nomark _)) (mQ (aK nA (bK bO rfl T.iK cZ (aC (pv 5) aB)) (pv 4) (nomark _))))) (aD (fV (aS iE (aX bM (pv 3) aG (fun _ _=>rfl)) aG) (fU (pv 3) aG jI))
      (aD (aM (i:=6) g0.nd rfl (Or.inl rfl) (aI (aY T) (hr.mono (by omega)) rfl T.bI T.bG.kp T.bH .nil pass0 (aC (pv 0) (aC aG aB))))
      (aH (aW (PW.pt (iG (aK nA (pv 6) aG (nomark _)) (fJ (aK bW (pv 2) aG (nomark _))))) (aH (eA (iF (pv 5) (aI (Fb T) (hr.mono (by omega)) rfl T.JF T.DI.kp T.HZ .nil pass0 (aC (pv 0) (aC (pv 1) (aC aG aB))))))) (aD (aM (i:=7) g0.nd rfl (Or.inl rfl) (aI (jP T 6) (hr.mono (by omega)) rfl T.gM T.fD.kp T.gJ .nil pass0 (aC (pv 0) (aC aG (aC (pv 1) (aC (bF (aC aG aB)) aB))))))
      (aD (aM (i:=8) g0.nd rfl (Or.inl rfl) (aI IH (hr.mono (by omega)) rfl T.uT T.pG.kp T.uA .nil pass0 (aC (pv 0) (aC (pv 1) (aC (aS iE (pv 2) aG) (aC (pv 3) (aC (aI (aY T) (hr.mono (by omega)) rfl T.bI T.bG.kp T.bH .nil pass0 (aC (pv 0) (aC aG aB))) aB)))))))
      (aH (aW (aK bW (pv 6) aG (nomark _)) (aH (eA (iF (pv 5) (bA (aC aF (aC (pv 7) (aC (pv 8) aB))))))) (aD (aM (i:=9) g0.nd rfl (Or.inl rfl) (aI IH (hr.mono (by omega)) rfl T.uT T.pG.kp T.uA .nil pass0 (aC (pv 0) (aC (pv 1) (aC (aS iE (pv 2) aG) (aC (pv 3) (aC (aI (aY T) (hr.mono (by omega)) rfl T.bI T.bG.kp T.bH .nil pass0 (aC (pv 0) (aC aG aB))) aB)))))))
      (aH (eA (iF (pv 5) (bA (aC aF (aC (pv 7) (aC (pv 8) (aC (pv 9) aB))))))))))))))))))
      (aH (aN (bU eX rfl T.iU fB (aC (pv 5) aB)))))),?_⟩
    and_intros
    wp_walk;refine fun bl hbl=>?_;have nbr:=I.row.none hbl;have nbn:=aL I.XA hbl;have nbl:=aL XZ hbl;obtain⟨W,hW⟩:∃ W:Nat->St->Hp->Prop,∀ m σ G,W m σ G = ∃(v6 v7 v8 v9:Option V) (us:List V) (b:List Stm) (k':Int),σ=[some (.ref r),some (.ref nl),some (.int dp),some (.ref lf),some (.int many),some (.ref bl),v6,v7,v8,v9]/\m=k'.toNat/\0<=k'/\G lf=some (.lst [.int k'])/\G bl=some (.lst us)/\bJ G us b/\wZ b/\(qC b:Int)<=dp/\(nJ b:Int)+k'<=k/\us.length<=nJ b/\bQ G r/\Kp [r,lf] H G:=⟨_,fun _ _ _=>rfl⟩;refine⟨W,⟨k.toNat,?_⟩,?_⟩
    · rw[hW];exact⟨none,none,none,none,[],[],k,rfl,rfl,k0,(q0D hbl).at XZ,aE,.nil,trivial,d0,by simp[nJ],by simp,I.row.new hbl,Kp.new hbl⟩
    intro m σ G hG;rw[hW] at hG;obtain⟨v6,v7,v8,v9,us,b,k',rfl,rfl,kp0,elf,ebl,hB,hw,hd,hz,hl,R,KG⟩:=hG;have fin:∀ l,G l=none->Q (.ref l) (WZ G l (.tup us)):=fun l hl=>q l us b k' _ ⟨aE,hB.kp (aJ.new hl),hw,hd,hz,kp0,R.new hl,(q0D hl).at elf,KG.trans (Kp.new hl)⟩;have next:∀(G2:Hp) (v:V) (ms:Stm) (k2:Int) (w6 w7 w8 w9:Option V),G2 bl=some (.lst us)->G2 lf=some (.lst [.int k2])->0<=k2->(ms.sz:Int)+k2<=k'->bV G2 v ms->ms.wf->(ms.dp:Int)<=dp->bJ G2 us b->bQ G2 r->Kp [r,lf] H G2 ->
        ∃ m',m' < k'.toNat/\W m' [some (.ref r),some (.ref nl),some (.int dp),some (.ref lf),some (.int many),some (.ref bl),w6,w7,w8,w9] (WZ G2 bl (.lst (us++[v]))):=fun G2 v ms k2 w6 w7 w8 w9 e1 e2 h0 hs st hwf hdp hB2 R2 K2=>by
      have sp:=ms.Kn;refine⟨k2.toNat,by omega,?_⟩;rw[hW];refine⟨w6,w7,w8,w9,us++[v],b++[ms],k2,rfl,rfl,h0,by rw[aV nbl];exact e2,aE,(hB2.snoc st).kp (aJ.set e1),GF.mpr ⟨hw,hwf,trivial⟩,?_,?_,?_,R2.kp (S:=[bl]) (Kp.set (by simp)) (by simp[nbr.symm]),K2.UH hbl⟩
      · rw[FP];simp only[qC];omega
      · rw[C7];simp only[nJ];omega
      · rw[C7];simp only[nJ,List.length_append,List.length_cons,List.length_nil];omega
    clear hW;have aaA:us.length < 16777216:=by omega
    refine Sl fun P' hP'=>?_;wp_walk using elf,ebl;split
    case isFalse=>exact fin
    split
    case isFalse=>exact fin
    refine hP' _ ⟨fun σ' H'=>∃ m',m' < k'.toNat/\W m' σ' H',fun _ _ h=>h,?_⟩;clear hP';refine aU fun XF Xa=>?_;wp_walk using elf;have K1:Kp [r,lf] H (WZ G lf (.lst [.int (k' - 1)])):=KG.trans (Kp.set (by simp));have R1:bQ (WZ G lf (.lst [.int (k' - 1)])) r:=R.kp (S:=[lf]) (Kp.set (by simp)) (by simp[n1.symm]);have l1:WZ G lf (.lst [.int (k' - 1)]) lf=some (.lst [.int (k' - 1)]):=aE;have b1:WZ G lf (.lst [.int (k' - 1)]) bl=some (.lst us):=by rw[aV nbl.symm];exact ebl
    have B1:=hB.kp (aJ.set (ys:=[.int (k' - 1)]) elf);generalize WZ G lf (.lst [.int (k' - 1)])=G1 at *;refine Xa _ _ ?_;clear Xa;refine aU fun YX Xu=>?_;wp_walk;refine⟨R1,fun g G2 a2 b2 R2 K2=>?_⟩;refine Xu _ _ ?_;clear Xu;wp_walk;have YW:Kp [r,lf] H G2:=K1.trans (K2.mono (by simp));have l2:=K2.at1 l1 n1;have bb2:=K2.at1 b1 nbr;have B2:=B1.kp (aJ.row K2 R1);have I2:kP G2 r nl xs:=⟨R2,YW _ _ I.XA (by simp[I.n1,n2.symm]),I.l0,I.l1,I.n1,I.sh⟩;have line:Kc [.ref r,.ref nl,.int 6] G2 (fun y H2=>bX (H2 bl) fun ys=>ys.length < 16777216/\∃ m',m' < k'.toNat/\W m' [some (.ref r),some (.ref nl),some (.int dp),some (.ref lf),some (.int many),some (.ref bl),some (.int g),v7,v8,v9] (WZ H2 bl (.lst (ys++[y])))) E0:=by
      wp_walk using bb2;refine⟨r,nl,6,xs,rfl,I2,by decide,by decide,fun v ms H3 O=>?_⟩;have b3:=O.kp.at1 bb2 nbr;wp_walk using b3;exact⟨aaA,next H3 v ms (k' - 1) _ _ _ _ b3 (O.kp.at1 l2 n1) (by omega) (by rw[O.sz];omega) O.ZR O.wf (by rw[O.dp];omega) (B2.kp (aJ.row O.kp R2)) O.row (YW.trans (O.kp.mono (by simp)))⟩
    split
    · wp_walk using bb2;exact line
    split
    · wp_walk using bb2;exact line
    rename_i c1 c2 c3 c4
    refine fun c hc=>⟨r,nl,c,6,xs,6,rfl,I2.say hc (by decide),by decide,fun u s G3 O=>?_⟩;have K3:=O.kp1 hc;have s6:=O.s6 (by decide) I.sh;wp_walk;refine⟨O.row,fun g4 G4 a4 b4 R4 K4=>?_⟩;have K34:=K3.trans K4;have K14:Kp [r,lf] H G4:=YW.trans (K34.mono (by simp));have l4:=K34.at1 l2 n1;have bb4:=K34.at1 bb2 nbr;have T34:aJ G2 G4:=aJ.row K34 R2;have I4:kP G4 r nl xs:=I2.kp K34 R4;refine⟨r,nl,lf,dp - 1,g4,k' - 1,xs,rfl,I4,by omega,by omega,l4,by omega,by omega,n1,n2,fun p5 us5 b5 k5 G5 O5=>?_⟩;have bb5:=O5.kp _ _ bb4 (by simp[nbr,nbl.symm]);have Zs:aJ G4 G5:=aJ.two O5.kp R4 l4;have s5:=((O.say.kp (aJ.row K4 O.row)).kp Zs);have B5:=((B2.kp T34).kp Zs);have z5:=O5.sz;have p5d:=O5.dp;have k50:=O5.k0;wp_walk using bb5;split
    · refine fun p6 h6=>?_;have KN:=q0D (o:=.tup [.str "while",u,.ref p5]) h6;have b6:=KN.at bb5;wp_walk using b6;exact⟨aaA,next _ (.ref p6) (.Xd s b5) k5 _ _ _ _ b6 (KN.at O5.XZ) O5.k0 (by simp only[Stm.sz];omega) (.Xd aE (s5.kp (aJ.new h6)) (KN.at O5.tup) (O5.M5.kp (aJ.new h6))) ⟨s6,O5.wf⟩ (by simp only[Stm.dp];omega) (B5.kp (aJ.new h6)) (O5.row.new h6) ((K14.trans O5.kp).trans (Kp.new h6))⟩
    · refine⟨O5.row,fun g6 G6 a6 b6 R6 K6=>?_⟩;have I5:kP G5 r nl xs:=⟨O5.row,O5.kp _ _ I4.XA (by simp[I.n1,n2.symm]),I.l0,I.l1,I.n1,I.sh⟩;have I6:=I5.kp K6 R6;have l6:=K6.at1 O5.XZ n1;refine⟨r,nl,lf,dp - 1,g6,k5,xs,rfl,I6,by omega,by omega,l6,O5.k0,by omega,n1,n2,fun p7 us7 b7 k7 G7 O7=>?_⟩;have bb7:=O7.kp _ _ (K6.at1 bb5 nbr) (by simp[nbr,nbl.symm]);have T57:aJ G5 G7:=(aJ.row K6 O5.row).trans (aJ.two O7.kp R6 l6);have z7:=O7.sz;have p7d:=O7.dp;have k70:=O7.k0;wp_walk using bb7;refine fun p8 h8=>?_;have KN:=q0D (o:=.tup [.str "if",u,.ref p5,.ref p7]) h8;have b8:=KN.at bb7;wp_walk using b8;exact⟨aaA,next _ (.ref p8) (.iff s b5 b7) k7 _ _ _ _ b8 (KN.at O7.XZ) O7.k0 (by simp only[Stm.sz];omega) (.iff aE ((s5.kp T57).kp (aJ.new h8)) ((T57.trans (aJ.new h8)) _ _ O5.tup) ((O5.M5.kp T57).kp (aJ.new h8)) (KN.at O7.tup) (O7.M5.kp (aJ.new h8))) ⟨s6,O5.wf,O7.wf⟩ (by simp only[Stm.dp];omega) ((B5.kp T57).kp (aJ.new h8)) (O7.row.new h8) ((((K14.trans O5.kp).trans (K6.mono (by simp))).trans O7.kp).trans (Kp.new h8))⟩
theorem Eh{t:Ad}(T:Tx K mg t):∀ d,bR P w K mg base Xe (d+12) t.lJ t.lO ["row","names","deep","left","many"] (C0 d):=by
 intro d
 induction d with
 | zero=>exact⟨fun _ _ _ _ x=>by (obtain⟨_,_,_,_,_,_,_,_,_,h,h2,_⟩:=x;exact absurd h (by omega)),fun _ _ _ _ _ _ _ _ _ _ _ _ _ x=>by (obtain⟨_,_,_,_,_,_,_,_,_,h,h2,_⟩:=x;exact absurd h (by omega))⟩
 | succ d ih=>exact Ew T (by omega) ih
theorem Bc{t:Ad}(T:Tx K mg t):bR P w K mg base Xe 20 t.nN t.nW ["row"] Kf:=by
 refine T.vY.ok lH (fun vs H Q E h=>?_) (fun W7 A outer s H vs Q E hr h=>?_)
 ·obtain⟨r,rfl,_⟩:=h;rfl
 ·obtain⟨r,rfl,hR,q⟩:=h;refine⟨_,(aD (Fj (i:=1) (fr:=[0]) (N:=["k","row"]) rfl (fun _ _ h=>h) (eO.free rfl rfl rfl rfl rfl (fun _ _ h=>h) rfl (by decide) rfl (fun j hj=>by rw[show j=0 by simpa using hj];exact⟨_,rfl,rfl,.inl rfl⟩)) (vA rfl T.AI (aC aG aB)) (fun C s H ex pn=>⟨mP,aI (rL T) (hr.mono (by omega)) rfl T.zP T.sJ.kp T.yB .nil pass0 (aC (pv 1) aB)⟩) lH.nd rfl (Or.inl rfl))
   (aD (aM (i:=2) lH.nd rfl (Or.inl rfl) (aX bM (bF (aC aG (aC aG (aC aG aB)))) (aI (aY T) (hr.mono (by omega)) rfl T.bI T.bG.kp T.bH .nil pass0 (aC (pv 0) (aC aG aB))) (fun _ _=>rfl)))
   (aH (aN (aI (Eh T 6) (hr.mono (by omega)) rfl T.uT T.pG.kp T.uA .nil pass0 (aC (pv 0) (aC (pv 1) (aC aG (aC (bF (aC (pv 2) aB)) (aC (aX bM (bF (aC (pv 2) (aC (aI (aY T) (hr.mono (by omega)) rfl T.bI T.bG.kp T.bH .nil pass0 (aC (pv 0) (aC (aS aQ (pv 2) aG) aB))) aB))) (aI (aY T) (hr.mono (by omega)) rfl T.bI T.bG.kp T.bH .nil pass0 (aC (pv 0) (aC aG aB))) (fun _ _=>rfl)) aB)))))))))),?_⟩
  and_intros
  wp_walk;refine DT (lo:=0) (fun j xs G=>∃ l:List Str,xs=l.map V.str/\(l.length=j/\j<=4)/\(∀ x∈l,dG x)/\bQ G r/\Kp [r] H G) ⟨[],rfl,⟨rfl,by decide⟩,by simp,hR,Kp.refl⟩ ?_ ?_ ?_
  ·rintro j xs G ⟨l,rfl,⟨hl,h4⟩,_,_,_⟩;rw[List.length_map];omega
  ·rintro j xs G hj ⟨l,rfl,hl,sh,R,K⟩;wp_walk using bP,Option.join_some;refine⟨R,fun x G' hx R' K'=>⟨l++[x],by simp,⟨by simp[hl.1],by omega⟩,fun z hz=>?_,R',K.trans K'⟩⟩;rcases List.mem_append.mp hz with hz|hz
   ·exact sh z hz
   ·rw[show z=x by simpa using hz];exact hx
  rintro xs G ⟨l,rfl,⟨hl,_⟩,sh,R,K⟩ nl XA;wp_walk;refine fun c hc=>?_;have KN:=(q0D (o:=.lst (l.map V.str)) XA).trans (Kp.new (o:=.lst [.int 3,.int 8,.int 16]) hc);have nnr:=R.none XA;have ncr:=(R.new (o:=.lst (l.map V.str)) XA).none hc;have RN:=(R.new (o:=.lst (l.map V.str)) XA).new (o:=.lst [.int 3,.int 8,.int 16]) hc;have en:=(q0D (o:=.lst [.int 3,.int 8,.int 16]) hc).at (aE (H:=G) (a:=nl) (o:=.lst (l.map V.str)));have ec:WZ (WZ G nl (.lst (l.map V.str))) c (.lst [.int 3,.int 8,.int 16]) c=some (.lst [.int 3,.int 8,.int 16]):=aE;generalize WZ (WZ G nl (.lst (l.map V.str))) c (.lst [.int 3,.int 8,.int 16])=G1 at *;refine⟨RN,fun g H2 a2 b2 R2 K2=>?_⟩;have en2:=K2.at1 en nnr;have K02:Kp [r] H H2:=(K.trans (KN.mono (by simp))).trans K2;wp_walk using K2.at1 ec ncr;refine dN a2 b2 fun v hv=>?_;wp_walk;obtain⟨mo,rfl,m0,m1⟩:∃ mo:Int,v=.int mo/\0<=mo/\mo<=16:=by
   simp only[List.mem_cons,List.not_mem_nil,or_false] at hv;rcases hv with rfl|rfl|rfl<;>exact⟨_,rfl,by decide,by decide⟩
  refine fun lf XZ=>?_;have nlr:=R2.none XZ;have nln:lf≠nl:=(aL en2 XZ).symm;wp_walk;refine⟨by omega,by omega,R2.new XZ,fun g3 H3 a3 b3 R3 K3 c4 h4=>⟨R3.new h4,fun g5 H5 a5 b5 R5 K5=>?_⟩⟩;have e5:=K5.made R3 h4;have K25:Kp [r] (WZ H2 lf (.lst [.int mo])) H5:=(K3.trans (Kp.new h4)).trans K5;have elf:=K25.at1 (aE (H:=H2) (a:=lf) (o:=.lst [.int mo])) nlr;have en5:=K25.at1 ((q0D (o:=.lst [.int mo]) XZ).at en2) nnr;wp_walk using e5;refine dN a5 b5 fun v5 hv5=>?_;wp_walk;obtain⟨many,rfl⟩:∃ many:Int,v5=.int many:=by
   simp only[List.mem_cons,List.not_mem_nil,or_false] at hv5;rcases hv5 with rfl|rfl<;>exact⟨_,rfl⟩
  refine⟨r,nl,lf,5,many,mo,l,rfl,⟨R5,en5,by omega,by omega,nnr,sh⟩,by decide,by decide,elf,m0,by omega,nlr,nln,fun p us b k' H6 O=>?_⟩;have z:=O.sz;have d:=O.dp;have k0:=O.k0;refine q p us b H6 O.tup O.M5 O.wf (by omega) (by omega) O.row fun a o e n=>?_;have e2:=K02 a o e n;have n2:a≠lf:=aL e2 XZ;exact O.kp a o (K25 a o ((q0D XZ).at e2) n) (by simp[n2];simpa using n)
theorem QO{t:Ad}(T:Tx K mg t):bR P w K mg base Xe 90 t.Ov t.OJ ["script"] (Gs K):=by
 refine T.Wm.ok rW (fun vs H Q E h=>?_) (fun W7 A outer s H vs Q E hr h=>?_)
 ·obtain⟨a,ns,rfl,_⟩:=h;rfl
 ·obtain⟨a,ns,rfl,hS,h63,q⟩:=h;refine⟨_,(aD (vB PassesOwn.never rfl (pX (aS aQ (bF (aC aG aB)) (bT Gp (pv 0) bY (bZ aG)))) (jQ (i:=1) rW.nd rfl (Or.inl rfl)) (aD (aM (i:=2) rW.nd rfl (Or.inl rfl) (aI (CH T) (hr.mono (by omega)) rfl T.E3 T.yZ.kp T.EH .nil pass0 (aC (pv 1) aB)))
   (aD (aM (i:=3) rW.nd rfl (Or.inl rfl) (aI (zX T) (hr.mono (by omega)) rfl T.DW T.yV.kp T.Dq .nil pass0 (aC (pv 2) (aC (aI (Fe T) (hr.mono (by omega)) rfl T.JH T.DK.kp T.Ib .nil pass0 (aC (aI (Bc T) (hr.mono (by omega)) rfl T.DZ T.vY.kp T.Dt .nil pass0 (aC (pv 2) aB)) aB)) aB))))
   (aH (aW (PW.pt (iG (fW (fI (aI (oI T) (hr.mono (by omega)) rfl T.uU T.pH.kp T.uB .nil pass0 (aC (pv 3) aB)))) (fJ (fW (fI (aI (oI T) (hr.mono (by omega)) rfl T.uU T.pH.kp T.uB .nil pass0 (aC (aI (zX T) (hr.mono (by omega)) rfl T.DW T.yV.kp T.Dq .nil pass0 (aC (pv 2) (aC (pv 3) aB))) aB))))))) (aH (aN j9)) aR)))))
   (aD (aM (i:=4) rW.nd rfl (Or.inl rfl) (bF (aC aF (aC aF (aC aF (aC aF (aC aF (aC aF (aC aF (aC aF (aC aF aB)))))))))))
   (aD (aM (i:=4) rW.nd rfl (Or.inl rfl) (aS aQ (pv 4) (bF (aC (aS aQ (aS aQ aF (aS sX aF aG)) aF) (aC (aS aQ (aS aQ aF (aS sX aF aG)) aF) (aC (aS sX aF aG) (aC (aS aQ (aS sX aF aG) aF) aB)))))))
   (aD (vB PassesOwn.never rfl (pX (aS aQ (pv 4) (bF (aC aF aB)))) (jQ (i:=5) rW.nd rfl (Or.inl rfl)) (aH (aW (fW (fI (aI (oI T) (hr.mono (by omega)) rfl T.uU T.pH.kp T.uB .nil pass0 (aC (pv 5) aB)))) (aH (aN j9)) aR)))
   (aH (aN j9)))))),?_⟩
  and_intros
  refine aU fun R_9 hR9=>?_;wp_walk;refine fun p1 h1=>⟨_,(Kp.new h1).same.seq hS,fun p2 h2=>?_⟩;obtain⟨ms,em,lm⟩:=Iy ns none (some 20);rw[em] at *;have n12:=aL aE h2;wp_walk using aV n12,List.length_map;refine⟨by omega,fun p3 h3=>⟨⟨_,dZ.of aE⟩,?_⟩⟩;obtain⟨Pv,X1⟩:∃ Pv:Nat->St->Hp->Prop,∀ i σ G,Pv i σ G = ∃(v1 v2 v3 v4 v5:Option V),σ=[some (.ref a),v1,v2,v3,v4,v5]/\G p3=some (.lst ((0::ms).map V.int)):=⟨_,fun _ _ _=>rfl⟩;refine Bx (xs:=(0::ms).map V.int) Pv ?_ ?_ ?_ ?_
  ·rw[X1];exact⟨none,none,none,none,none,rfl,aE⟩
  ·intro i σ G _ hG;rw[X1] at hG;obtain⟨_,_,_,_,_,_,e⟩:=hG;exact dZ.of e
  ·intro D' i y σ G hn hi hG;rw[X1] at hG;obtain⟨v1,v2,v3,v4,v5,rfl,eG⟩:=hG;obtain⟨z,rfl⟩:=Mg hi;have back:∀(w1 w2 w3 w4 w5:Option V) (G':Hp),G' p3=some (.lst ((0::ms).map V.int))->D'.nx [some (.ref a),w1,w2,w3,w4,w5] G':=fun w1 w2 w3 w4 w5 G' e=>by
    rw[hn,X1];exact⟨_,_,_,_,_,rfl,e⟩
   clear X1;refine Nv (aU fun XF Xa=>?_);wp_walk;refine⟨z,rfl,fun r H1 nr K1 R1=>?_⟩;have n3r:p3≠r:=aL eG nr;replace eG:=K1.at eG;clear K1 nr;refine Xa _ _ ?_;clear Xa;refine aU fun YX Xu=>?_;wp_walk;refine⟨r,rfl,R1,fun po uo bo H2 ho Uo wo do_ zo R2 K2=>?_⟩;replace eG:=K2.at1 eG n3r;clear K2 R1;wp_walk;refine⟨po,uo,bo,rfl,ho,Uo,wo,by omega,by omega,fun H3 K3=>?_⟩;replace eG:=K3.at eG;replace R2:=R2.kp K3;have lt:(AB bo).length<=128176:=by
    have:=lW wo;unfold AB;rw[pN];omega
   clear K3 ho Uo;wp_walk;refine⟨r,AB bo,rfl,R2,by omega,fun y G1 ly R1 K1=>?_⟩;replace eG:=K1.at1 eG n3r;clear K1 R2;refine Xu _ _ ?_;clear Xu;wp_walk;refine⟨y,rfl,by omega,fun G2 K2=>?_⟩;replace eG:=K2.at eG;replace R1:=R1.kp K2;clear K2;wp_walk;refine⟨r,y,rfl,R1,by omega,fun y2 G3 ZM R3 K3=>?_⟩;replace eG:=K3.at1 eG n3r;wp_walk;refine⟨y2,rfl,by omega,fun G4 K4=>?_⟩;wp_walk;exact back _ _ _ _ _ _ (K4.at eG)
  intro σ G hG;rw[X1] at hG;obtain⟨v1,v2,v3,v4,v5,rfl,eG⟩:=hG;clear X1 eG h3;refine hR9 _ _ ?_;clear hR9;wp_walk;obtain⟨z1,z2,z3,z4,z5,z6⟩:=lens8;refine fun p4 h4=>⟨900,rfl,by decide,by decide,by omega,by omega,fun u1 l1=>?_⟩;have la1:=bE ("x = ":Str) u1;have lb1:=bE (("x = ":Str)++u1) "1\n";refine⟨by omega,by omega,2000,rfl,by decide,by decide,by omega,by omega,fun u2 l2=>?_⟩;have la2:=bE ("x = ":Str) u2;have lb2:=bE (("x = ":Str)++u2) "1\n";refine⟨by omega,by omega,2000,rfl,by decide,by decide,by omega,by omega,fun u3 l3=>?_⟩;refine⟨900,rfl,by decide,by decide,by omega,by omega,fun u4 l4=>?_⟩;have lb4:=bE u4 "\n";refine⟨by omega,?_⟩;generalize ("x = ":Str)++u1++"1\n"=y1 at *;generalize ("x = ":Str)++u2++"1\n"=y2 at *;generalize u4++("\n":Str)=y4 at *;replace lb1:y1.length<=20000:=by omega
  replace lb2:y2.length<=20000:=by omega
  replace lb4:y4.length<=20000:=by omega
  replace l3:u3.length<=20000:=by omega
  clear la1 la2 l1 l2 l4;wp_walk;refine fun p5 h5=>?_;have n45:p4≠p5:=aL aE h5;wp_walk;refine qA (us:=fix8) (vs:=[y1,y2,u3,y4]) (by rw[aV n45];exact aE) (by first|rfl|exact aE) (by show 9+4<=16777216;decide) fun p6 H6 e6 _=>?_
  have hW:∀ y∈(fix8++[y1,y2,u3,y4])++[("if x\nend 1\nelse\nend 2\nelse\nend 3\ndone\n":Str)],y.length<=20000:=by
   intro y hy;rcases List.mem_append.mp hy with hy|hy
   ·rcases List.mem_append.mp hy with hy|hy
    ·exact Jh y hy
    ·simp only[List.mem_cons,List.not_mem_nil,or_false] at hy;rcases hy with rfl|rfl|rfl|rfl<;>assumption
   ·simp only[List.mem_cons,List.not_mem_nil,or_false] at hy;rw[hy];decide +kernel
  have l13:(fix8++[y1,y2,u3,y4]).length=13:=rfl;generalize fix8++[y1,y2,u3,y4]=W at *;wp_walk;refine fun p7 h7=>?_;have n67:p6≠p7:=aL e6 h7;wp_walk;refine qA (us:=W) (vs:=[("if x\nend 1\nelse\nend 2\nelse\nend 3\ndone\n":Str)]) (by rw[aV n67];exact e6) (by first|rfl|exact aE) (by rw[l13];decide) fun p8 H8 e8 _=>?_
  generalize W++[("if x\nend 1\nelse\nend 2\nelse\nend 3\ndone\n":Str)]=Y at *;clear l13 e6 n67 n45 h4 h5;wp_walk;refine⟨⟨_,dZ.of e8⟩,?_⟩;obtain⟨Pw,hPw⟩:∃ Pw:Nat->St->Hp->Prop,∀ i σ G,Pw i σ G = ∃(v1 v2 v3 v4 v5:Option V),σ=[some (.ref a),v1,v2,v3,v4,v5]/\G p8=some (.lst (Y.map V.str)):=⟨_,fun _ _ _=>rfl⟩;refine Bx (xs:=Y.map V.str) Pw ?_ ?_ ?_ ?_
  ·rw[hPw];exact⟨_,_,_,_,_,rfl,e8⟩
  ·intro i σ G _ hG;rw[hPw] at hG;obtain⟨_,_,_,_,_,_,e⟩:=hG;exact dZ.of e
  ·intro D' i y σ G hn hi hG;rw[hPw] at hG;obtain⟨v1,v2,v3,v4,v5,rfl,eG⟩:=hG;obtain⟨y,hy,rfl⟩:=List.mem_map.mp (List.mem_of_getElem? hi);have ly:=hW y hy;wp_walk;refine⟨y,rfl,by omega,fun G2 K2=>?_⟩;wp_walk;rw[hn,hPw];exact⟨_,_,_,_,_,rfl,K2.at eG⟩
  ·intro σ G hG;rw[hPw] at hG;obtain⟨v1,v2,v3,v4,v5,rfl,eG⟩:=hG;wp_walk;exact q _
end
theorem b0{P:List Value->Prop}(h:P []):∀ us:List Value,us.length=0->P us:=fun us e=>by rw[List.length_eq_zero_iff.mp e];exact h
theorem bS{P:List Value->Prop}{n:Nat}(h:∀ a,∀ us:List Value,us.length=n->P (a::us)):∀ us:List Value,us.length=n+1->P us
 | [],e=>by cases e
 | a::us,e=>h a us (Nat.succ.inj e)
theorem KI{q:Program}{loose:List Str}{XP:(q0C)->Heap->Prop}{K:Params->q0B}{as:List Addr}{n t:Nat}{r:PySem.W.RowW}{d:DefRec}{kwd:List (Str×Expr)}{run:Value->List Value->Sem Value}(e:∀ P:Params,as=List.map (fun x=>x.fst) (K P))(H:PySem.W.WalkO q loose XP (PySem.W.kHook K as e).says r d kwd run):PySem.W.WalkX q loose XP (PySem.W.X.obsZ as) (PySem.W.X.valZ K n t) r d kwd run:=fun w s₀ s₁ mg mb G y a o pm cd doc dV kV h1 h2 h3 h4 h5 h6 args vals bs L=>by
 obtain⟨_,f,_,_⟩:=PySem.W.X.z_facts e y;exact H w s₀ s₁ mg mb G (show PySem.W.InK K w s₁.heap from fun p ob hp=>L.keeps _ _ (f p ob hp)) a o pm cd doc dV kV h1 h2 h3 h4 h5 h6 args vals bs
section
open PySem.W
theorem Ow{l:OpenLaw}{w:World}{K:Frag}{h:Heap}{mg:q0C}{fa:Addr}(X:K.In h)(G:h.Ns mainGlobals mg)(hfa:mg "law"=some (.ref fa))
    {f0 f1 f2 f3 f4 f5 f6 f7 f8 f9 f10 f11 f12 f13 f14 f15 f16 f17 f18 f19 f20 f21 f22 f23 f24 f25 f26 f27 f28 f29 f30 f31 f32 f33 f34 f35 f36 f37 f38 f39 f40 f41 f42 f43 f44 f45 f46 f47 f48:Addr} {d0 d1 d2 d3 d4 d5 d6 d7 d8 d9 d10 d11 d12 d13 d14 d15 d16 d17 d18 d19 d20 d21 d22 d23 d24 d25 d26 d27 d28 d29 d30 d31 d32 d33 d34 d35 d36 d37 d38 d39 d40 d41 d42 d43 d44 d45 d46 d47 d48:FuncData}
    {aZ:Addr}
    {aO aP jD dO fA dA eZ hV cM:Addr}
    {tk0:Tok}
    {tk1:Tok}
    {tp2:Addr} {td2:Option Addr} {tn2:Nat} {ts2:Array (Option Value)} {abH abI abJ abK abL abM abN abO abP abQ aaJ aaK aaL aaM aaN aaO aaP:Tok}
    {tk3:Tok}
    {tk4:Tok}
    {tk5:Tok}
    {tk6:Tok}
    {tp7:Addr} {td7:Option Addr} {tn7:Nat} {ts7:Array (Option Value)} {abR abS abT abU abV:Tok}
    (YY:nsIn K mainGlobals "Reader"=some (some (.ref aZ))) (Zj:plainGet K aZ Str.empty=true) (Y7:hasDictIn K aZ=true) (Zk:plainOver K aZ=true) (Zl:findIn K (.ref aZ) "__setattr__"=some (some (.builtin "object.__setattr__"))) (zN:makesIn K aZ=true) (Zh:keepIn K (.ref aZ)=true)
    (a0:nsIn K mainGlobals "is_number_word"=some (some (.ref f0)))
    (F0:Fun K "is_number_word" "is_number_word" kA f0 d0)
    (a1:nsIn K mainGlobals "is_figure"=some (some (.ref f1)))
    (F1:Fun K "is_figure" "is_figure" rN f1 d1)
    (a2:nsIn K mainGlobals "is_small_letter"=some (some (.ref f2)))
    (F2:Fun K "is_small_letter" "is_small_letter" jG f2 d2)
    (a3:nsIn K mainGlobals "is_name"=some (some (.ref f3)))
    (F3:Fun K "is_name" "is_name" Ao f3 d3)
    (a4:nsIn K mainGlobals "read_program"=some (some (.ref f4)))
    (F4:Fun K "read_program" "read_program" lG f4 d4)
    (a5:findIn K (.ref aZ) "__init__"=some (some (.ref f5))) (i5:isFn K (.ref f5)=true)
    (F5:Fun K "__init__" "Reader.__init__" mR f5 d5)
    (a6:findIn K (.ref aZ) "ahead"=some (some (.ref f6))) (i6:isFn K (.ref f6)=true)
    (F6:Fun K "ahead" "Reader.ahead" lA f6 d6)
    (a7:findIn K (.ref aZ) "block"=some (some (.ref f7))) (i7:isFn K (.ref f7)=true)
    (F7:Fun K "block" "Reader.block" lC f7 d7)
    (a8:findIn K (.ref aZ) "statement"=some (some (.ref f8))) (i8:isFn K (.ref f8)=true)
    (F8:Fun K "statement" "Reader.statement" iH f8 d8)
    (a9:findIn K (.ref aZ) "with_blocks"=some (some (.ref f9))) (i9:isFn K (.ref f9)=true)
    (F9:Fun K "with_blocks" "Reader.with_blocks" gN f9 d9)
    (a10:findIn K (.ref aZ) "second_block"=some (some (.ref f10))) (i10:isFn K (.ref f10)=true)
    (F10:Fun K "second_block" "Reader.second_block" fX f10 d10)
    (a11:nsIn K mainGlobals "take_plain"=some (some (.ref f11)))
    (F11:Fun K "take_plain" "take_plain" oX f11 d11)
    (a12:nsIn K mainGlobals "take_given"=some (some (.ref f12)))
    (F12:Fun K "take_given" "take_given" oW f12 d12)
    (a13:nsIn K mainGlobals "take_waited"=some (some (.ref f13)))
    (F13:Fun K "take_waited" "take_waited" mX f13 d13)
    (a14:nsIn K mainGlobals "take_saying"=some (some (.ref f14)))
    (F14:Fun K "take_saying" "take_saying" mW f14 d14)
    (a15:nsIn K mainGlobals "take_joined"=some (some (.ref f15)))
    (F15:Fun K "take_joined" "take_joined" mV f15 d15)
    (a16:nsIn K mainGlobals "take_name"=some (some (.ref f16)))
    (F16:Fun K "take_name" "take_name" rT f16 d16)
    (a17:nsIn K mainGlobals "take_word"=some (some (.ref f17)))
    (F17:Fun K "take_word" "take_word" rV f17 d17)
    (a18:nsIn K mainGlobals "refuse_more"=some (some (.ref f18)))
    (F18:Fun K "refuse_more" "refuse_more" mU f18 d18)
    (a19:nsIn K mainGlobals "_law_stream"=some (some (.ref f19)))
    (F19:Fun K "_law_stream" "_law_stream" oV f19 d19)
    (a20:nsIn K mainGlobals "_law_take"=some (some (.ref f20)))
    (F20:Fun K "_law_take" "_law_take" vK f20 d20)
    (a21:nsIn K mainGlobals "_law_worth"=some (some (.ref f21)))
    (F21:Fun K "_law_worth" "_law_worth" rS f21 d21)
    (a22:nsIn K mainGlobals "_law_own"=some (some (.ref f22)))
    (F22:Fun K "_law_own" "_law_own" Ap f22 d22)
    (a23:nsIn K mainGlobals "_law_name"=some (some (.ref f23)))
    (F23:Fun K "_law_name" "_law_name" vH f23 d23)
    (a24:nsIn K mainGlobals "_law_saying"=some (some (.ref f24)))
    (F24:Fun K "_law_saying" "_law_saying" oU f24 d24)
    (a25:nsIn K mainGlobals "_law_line"=some (some (.ref f25)))
    (F25:Fun K "_law_line" "_law_line" vF f25 d25)
    (a26:nsIn K mainGlobals "_law_block"=some (some (.ref f26)))
    (F26:Fun K "_law_block" "_law_block" rP f26 d26)
    (a27:nsIn K mainGlobals "_law_program"=some (some (.ref f27)))
    (F27:Fun K "_law_program" "_law_program" mT f27 d27)
    (a28:nsIn K mainGlobals "_law_words"=some (some (.ref f28)))
    (F28:Fun K "_law_words" "_law_words" rR f28 d28)
    (a29:nsIn K mainGlobals "_law_head"=some (some (.ref f29)))
    (F29:Fun K "_law_head" "_law_head" vE f29 d29)
    (a30:nsIn K mainGlobals "_law_rows"=some (some (.ref f30)))
    (F30:Fun K "_law_rows" "_law_rows" vJ f30 d30)
    (a31:nsIn K mainGlobals "_law_text"=some (some (.ref f31)))
    (F31:Fun K "_law_text" "_law_text" vL f31 d31)
    (a32:nsIn K mainGlobals "_law_is_name"=some (some (.ref f32)))
    (F32:Fun K "_law_is_name" "_law_is_name" oQ f32 d32)
    (a33:nsIn K mainGlobals "_law_number"=some (some (.ref f33)))
    (F33:Fun K "_law_number" "_law_number" oT f33 d33)
    (a34:nsIn K mainGlobals "_law_pop"=some (some (.ref f34)))
    (F34:Fun K "_law_pop" "_law_pop" Aq f34 d34)
    (a35:nsIn K mainGlobals "_law_saying_in"=some (some (.ref f35)))
    (F35:Fun K "_law_saying_in" "_law_saying_in" lF f35 d35)
    (a36:nsIn K mainGlobals "_law_name_in"=some (some (.ref f36)))
    (F36:Fun K "_law_name_in" "_law_name_in" oS f36 d36)
    (a37:nsIn K mainGlobals "_law_named_in"=some (some (.ref f37)))
    (F37:Fun K "_law_named_in" "_law_named_in" mS f37 d37)
    (a38:nsIn K mainGlobals "_law_line_in"=some (some (.ref f38)))
    (F38:Fun K "_law_line_in" "_law_line_in" oR f38 d38)
    (a39:nsIn K mainGlobals "_law_done"=some (some (.ref f39)))
    (F39:Fun K "_law_done" "_law_done" vD f39 d39)
    (a40:nsIn K mainGlobals "_law_program_in"=some (some (.ref f40)))
    (F40:Fun K "_law_program_in" "_law_program_in" kB f40 d40)
    (a41:nsIn K mainGlobals "_law_read"=some (some (.ref f41)))
    (F41:Fun K "_law_read" "_law_read" vI f41 d41)
    (a42:nsIn K mainGlobals "_law_asked"=some (some (.ref f42)))
    (F42:Fun K "_law_asked" "_law_asked" rO f42 d42)
    (a43:nsIn K mainGlobals "_law_menu"=some (some (.ref f43)))
    (F43:Fun K "_law_menu" "_law_menu" vG f43 d43)
    (a44:nsIn K mainGlobals "_law_line_menu"=some (some (.ref f44)))
    (F44:Fun K "_law_line_menu" "_law_line_menu" lE f44 d44)
    (a45:nsIn K mainGlobals "_law_bent_line"=some (some (.ref f45)))
    (F45:Fun K "_law_bent_line" "_law_bent_line" lD f45 d45)
    (a46:nsIn K mainGlobals "_law_bent"=some (some (.ref f46)))
    (F46:Fun K "_law_bent" "_law_bent" vC f46 d46)
    (a47:nsIn K mainGlobals "_law_right"=some (some (.ref f47)))
    (F47:Fun K "_law_right" "_law_right" rQ f47 d47)
    (a48:nsIn K mainGlobals "law"=some (some (.ref f48)))
    (F48:Fun K "law" "law" J7 f48 d48)
    (sS:findIn K (.ref aZ) "lines"=some none)
    (eJ:findIn K (.ref aZ) "lines_read"=some none)
    (eB:findIn K (.ref aZ) "statements_read"=some none)
    (XG:nsIn K mainGlobals "OutlastError"=some (some (.ref aO)))
    (Yf:nsIn K mainGlobals "NoProgram"=some (some (.ref aP)))
    (Zz:nsIn K mainGlobals "NoLog"=some (some (.ref jD)))
    (YI:nsIn K mainGlobals "NoState"=some (some (.ref dO)))
    (Y0:nsIn K mainGlobals "NoRule"=some (some (.ref fA)))
    (Yw:nsIn K mainGlobals "NoPolicy"=some (some (.ref dA)))
    (YZ:nsIn K mainGlobals "NoLine"=some (some (.ref eZ)))
    (ZA:nsIn K mainGlobals "NoRun"=some (some (.ref hV)))
    (Ye:nsIn K mainGlobals "NoCommand"=some (some (.ref cM)))
    (XW:kT K aO=true)
    (XU:XQ K aO (jC))
    (Yr:kT K aP=true)
    (Yp:XQ K aP (.ref aO::jC))
    (ZV:kT K jD=true)
    (YQ:kT K dO=true)
    (YO:XQ K dO (.ref aO::jC))
    (Zq:kT K fA=true)
    (Zo:XQ K fA (.ref aO::jC))
    (YA:kT K dA=true)
    (Yz:XQ K dA (.ref aO::jC))
    (Zp:kT K eZ=true)
    (Zn:XQ K eZ (.ref aO::jC))
    (ZW:kT K hV=true)
    (ZU:XQ K hV (.ref aO::jC))
    (Yq:kT K cM=true)
    (Yo:XQ K cM (.ref aO::jC))
    (xne:(aP≠jD/\aO≠jD)/\(aP≠dO/\aO≠dO)/\(aP≠fA/\aO≠fA)/\(aP≠dA/\aO≠dA)/\(aP≠eZ/\aO≠eZ)/\(aP≠hV/\aO≠hV)/\(aP≠cM/\aO≠cM))
    (v0:nsIn K mainGlobals "GREATEST_WORTH"=some (some (.int 1000000000 tk0)))
    (v1:nsIn K mainGlobals "LONGEST_NAME"=some (some (.int 6 tk1)))
    (v2:nsIn K mainGlobals "OWN_WORDS"=some (some (.ref tp2))) (u2:K.lookup tp2=some ⟨.type "tuple",td2,.seq #[.str "order" abH,.str "timer" abI,.str "child" abJ,.str "send" abK,.str "drop" abL,.str "wait" abM,.str "hear" abN,.str "if" abO,.str "else" abP,.str "done" abQ,.str "while" aaJ,.str "end" aaK,.str "none" aaL,.str "arg" aaM,.str "now" aaN,.str "answer" aaO,.str "not" aaP] tn2,ts2⟩)
    (v3:nsIn K mainGlobals "MOST_STATEMENTS"=some (some (.int 60 tk3)))
    (v4:nsIn K mainGlobals "DEEPEST_BLOCK"=some (some (.int 5 tk4)))
    (v5:nsIn K mainGlobals "DEEPEST_SAYING"=some (some (.int 6 tk5)))
    (v6:nsIn K mainGlobals "MOST_WAITED"=some (some (.int 4 tk6)))
    (v7:nsIn K mainGlobals "SIGNS"=some (some (.ref tp7))) (u7:K.lookup tp7=some ⟨.type "tuple",td7,.seq #[.str "+" abR,.str "-" abS,.str "*" abT,.str "<" abU,.str "=" abV] tn7,ts7⟩)
    (pD:nsIn K mainGlobals "ValueError"=some none)
    (RE:nsIn K mainGlobals "abs"=some none)
    (Ng:nsIn K mainGlobals "all"=some none)
    (vQ:nsIn K mainGlobals "int"=some none)
    (fO:nsIn K mainGlobals "isinstance"=some none)
    (iK:nsIn K mainGlobals "len"=some none)
    (RF:nsIn K mainGlobals "max"=some none)
    (AI:nsIn K mainGlobals "range"=some none)
    (HN:nsIn K mainGlobals "str"=some none)
    (iU:nsIn K mainGlobals "tuple"=some none)
    : ∃ fd:FuncData,(∀(s:Shared) (v:Value),BindsTo s fd ⟨[v],[]⟩ [("script",v)])/\∀ base:Heap,K.In base->base.Ns mainGlobals mg->bR l.prog w K mg base Xe 90 fa fd ["script"] (Gs K):=by
  have e:=hfa.symm.trans (mg_of X G a48);cases e;have T:Tx K mg ⟨f0,_,f1,_,f2,_,f3,_,f4,_,f5,_,f6,_,f7,_,f8,_,f9,_,f10,_,f11,_,f12,_,f13,_,f14,_,f15,_,f16,_,f17,_,f18,_,f19,_,f20,_,f21,_,f22,_,f23,_,f24,_,f25,_,f26,_,f27,_,f28,_,f29,_,f30,_,f31,_,f32,_,f33,_,f34,_,f35,_,f36,_,f37,_,f38,_,f39,_,f40,_,f41,_,f42,_,f43,_,f44,_,f45,_,f46,_,f47,_,fa,_,tk0,tk1,tp2,tk3,tk4,tk5,tk6,tp7,aZ,aO,aP,jD,dO,fA,dA,eZ,hV,cM⟩:=⟨F0,(F0.binds fun _ _ _ _ _ _=>bS fun _=>bS fun _=>bS fun _=>b0 rfl),(mg_of X G a0),F1,(F1.binds fun _ _ _ _ _ _=>bS fun _=>b0 rfl),(mg_of X G a1),F2,(F2.binds fun _ _ _ _ _ _=>bS fun _=>b0 rfl),(mg_of X G a2),F3,(F3.binds fun _ _ _ _ _ _=>bS fun _=>b0 rfl),(mg_of X G a3),F4,(F4.binds fun _ _ _ _ _ _=>bS fun _=>b0 rfl),(mg_of X G a4),F5,(F5.binds fun _ _ _ _ _ _=>bS fun _=>bS fun _=>b0 rfl),⟨a5,i5,F5.kp⟩,F6,(F6.binds fun _ _ _ _ _ _=>bS fun _=>b0 rfl),⟨a6,i6,F6.kp⟩,F7,(F7.binds fun _ _ _ _ _ _=>bS fun _=>bS fun _=>b0 rfl),⟨a7,i7,F7.kp⟩,F8,(F8.binds fun _ _ _ _ _ _=>bS fun _=>bS fun _=>b0 rfl),⟨a8,i8,F8.kp⟩,F9,(F9.binds fun _ _ _ _ _ _=>bS fun _=>bS fun _=>bS fun _=>b0 rfl),⟨a9,i9,F9.kp⟩,F10,(F10.binds fun _ _ _ _ _ _=>bS fun _=>bS fun _=>b0 rfl),⟨a10,i10,F10.kp⟩,F11,(F11.binds fun _ _ _ _ _ _=>bS fun _=>b0 rfl),(mg_of X G a11),F12,(F12.binds fun _ _ _ _ _ _=>bS fun _=>bS fun _=>b0 rfl),(mg_of X G a12),F13,(F13.binds fun _ _ _ _ _ _=>bS fun _=>b0 rfl),(mg_of X G a13),F14,(F14.binds fun _ _ _ _ _ _=>bS fun _=>bS fun _=>b0 rfl),(mg_of X G a14),F15,(F15.binds fun _ _ _ _ _ _=>bS fun _=>bS fun _=>b0 rfl),(mg_of X G a15),F16,(F16.binds fun _ _ _ _ _ _=>bS fun _=>b0 rfl),(mg_of X G a16),F17,(F17.binds fun _ _ _ _ _ _=>bS fun _=>b0 rfl),(mg_of X G a17),F18,(F18.binds fun _ _ _ _ _ _=>bS fun _=>b0 rfl),(mg_of X G a18),F19,(F19.binds fun _ _ _ _ _ _=>bS fun _=>b0 rfl),(mg_of X G a19),F20,(F20.binds fun _ _ _ _ _ _=>bS fun _=>bS fun _=>b0 rfl),(mg_of X G a20),F21,(F21.binds fun _ _ _ _ _ _=>bS fun _=>b0 rfl),(mg_of X G a21),F22,(F22.binds fun _ _ _ _ _ _=>b0 rfl),(mg_of X G a22),F23,(F23.binds fun _ _ _ _ _ _=>bS fun _=>b0 rfl),(mg_of X G a23),F24,(F24.binds fun _ _ _ _ _ _=>bS fun _=>bS fun _=>bS fun _=>bS fun _=>b0 rfl),(mg_of X G a24),F25,(F25.binds fun _ _ _ _ _ _=>bS fun _=>bS fun _=>bS fun _=>b0 rfl),(mg_of X G a25),F26,(F26.binds fun _ _ _ _ _ _=>bS fun _=>bS fun _=>bS fun _=>bS fun _=>bS fun _=>b0 rfl),(mg_of X G a26),F27,(F27.binds fun _ _ _ _ _ _=>bS fun _=>b0 rfl),(mg_of X G a27),F28,(F28.binds fun _ _ _ _ _ _=>bS fun _=>b0 rfl),(mg_of X G a28),F29,(F29.binds fun _ _ _ _ _ _=>bS fun _=>b0 rfl),(mg_of X G a29),F30,(F30.binds fun _ _ _ _ _ _=>bS fun _=>b0 rfl),(mg_of X G a30),F31,(F31.binds fun _ _ _ _ _ _=>bS fun _=>b0 rfl),(mg_of X G a31),F32,(F32.binds fun _ _ _ _ _ _=>bS fun _=>b0 rfl),(mg_of X G a32),F33,(F33.binds fun _ _ _ _ _ _=>bS fun _=>b0 rfl),(mg_of X G a33),F34,(F34.binds fun _ _ _ _ _ _=>bS fun _=>b0 rfl),(mg_of X G a34),F35,(F35.binds fun _ _ _ _ _ _=>bS fun _=>bS fun _=>b0 rfl),(mg_of X G a35),F36,(F36.binds fun _ _ _ _ _ _=>bS fun _=>b0 rfl),(mg_of X G a36),F37,(F37.binds fun _ _ _ _ _ _=>bS fun _=>b0 rfl),(mg_of X G a37),F38,(F38.binds fun _ _ _ _ _ _=>bS fun _=>b0 rfl),(mg_of X G a38),F39,(F39.binds fun _ _ _ _ _ _=>bS fun _=>b0 rfl),(mg_of X G a39),F40,(F40.binds fun _ _ _ _ _ _=>bS fun _=>b0 rfl),(mg_of X G a40),F41,(F41.binds fun _ _ _ _ _ _=>bS fun _=>b0 rfl),(mg_of X G a41),F42,(F42.binds fun _ _ _ _ _ _=>bS fun _=>b0 rfl),(mg_of X G a42),F43,(F43.binds fun _ _ _ _ _ _=>bS fun _=>b0 rfl),(mg_of X G a43),F44,(F44.binds fun _ _ _ _ _ _=>bS fun _=>b0 rfl),(mg_of X G a44),F45,(F45.binds fun _ _ _ _ _ _=>bS fun _=>bS fun _=>b0 rfl),(mg_of X G a45),F46,(F46.binds fun _ _ _ _ _ _=>bS fun _=>bS fun _=>b0 rfl),(mg_of X G a46),F47,(F47.binds fun _ _ _ _ _ _=>bS fun _=>b0 rfl),(mg_of X G a47),F48,(F48.binds fun _ _ _ _ _ _=>bS fun _=>b0 rfl),(mg_of X G a48),⟨Zj,Y7,Zk,Zl⟩,(mg_of X G YY),⟨zN,a5,i5,Zh⟩,sS,eJ,eB,(mg_of X G v0),(mg_of X G v1),(mg_of X G v2),(fun H=>.inr ⟨_,_,_,u2,rfl,rfl,(by show 17<=sizeLine;decide),(.cons ⟨_,rfl⟩ (.cons ⟨_,rfl⟩ (.cons ⟨_,rfl⟩ (.cons ⟨_,rfl⟩ (.cons ⟨_,rfl⟩ (.cons ⟨_,rfl⟩ (.cons ⟨_,rfl⟩ (.cons ⟨_,rfl⟩ (.cons ⟨_,rfl⟩ (.cons ⟨_,rfl⟩ (.cons ⟨_,rfl⟩ (.cons ⟨_,rfl⟩ (.cons ⟨_,rfl⟩ (.cons ⟨_,rfl⟩ (.cons ⟨_,rfl⟩ (.cons ⟨_,rfl⟩ (.cons ⟨_,rfl⟩ .nil)))))))))))))))))⟩),(mg_of X G v3),(mg_of X G v4),(mg_of X G v5),(mg_of X G v6),(mg_of X G v7),(fun H=>.inr ⟨_,_,_,u7,rfl,rfl,(by show 5<=sizeLine;decide),(.cons ⟨_,rfl⟩ (.cons ⟨_,rfl⟩ (.cons ⟨_,rfl⟩ (.cons ⟨_,rfl⟩ (.cons ⟨_,rfl⟩ .nil)))))⟩),(mg_of X G XG),XW,XU,(mg_of X G Yf),Yr,Yp,(mg_of X G Zz),ZV,(mg_of X G YI),YQ,YO,(mg_of X G Y0),Zq,Zo,(mg_of X G Yw),YA,Yz,(mg_of X G YZ),Zp,Zn,(mg_of X G ZA),ZW,ZU,(mg_of X G Ye),Yq,Yo,xne,(mg_none_of X G pD),(mg_none_of X G RE),(mg_none_of X G Ng),(mg_none_of X G vQ),(mg_none_of X G fO),(mg_none_of X G iK),(mg_none_of X G RF),(mg_none_of X G AI),(mg_none_of X G HN),(mg_none_of X G iU)⟩;refine⟨d48,?_,fun base _ _=>QO T⟩;obtain⟨_,_,_,_,_,_,_,_,_,rfl,_⟩:=F48.ex;exact fun s v=>.of_eq rfl
end
theorem walk{l:PySem.W.OpenLaw}{q:Program}{loose:List Str}{XP:(q0C)->Heap->Prop}{YP:World->Heap->Prop}{d:DefRec}{K:Params->q0B}(hn:l.most=some 63)(ZH:d.params.defaults=[])
    (hY:∀(w:World) (h:Heap),YP w h->(K w.params).In h)
    (F:∀(w:World) (mg:q0C) (fa:Addr) (h:Heap),(K w.params).In h->h.Ns mainGlobals mg->mg d.name=some (.ref fa) ->
      ∃ fd:FuncData,(∀(s:Shared) (u:Value),BindsTo s fd ⟨[u],[]⟩ [("script",u)])/\∀ base:Heap,(K w.params).In base->base.Ns mainGlobals mg->bR l.prog w (K w.params) mg base Xe 90 fa fd ["script"] (Gs (K w.params))) :
    PySem.W.WalkO q loose XP YP l.row.toRowW d [] (fun f vs=>PySem.call f vs) :=
  L2.Nc (n:=63) (k:=90) (x:="script") (CX:=fun _=>Xe) (sp:=fun w=>Gs (K w.params)) hn (by decide) ZH ⟨rfl,by decide,by decide⟩ hY F (fun _ _ a ns hl _ hS=>⟨a,ns,rfl,hS,hl,fun _=>rfl⟩) fun _ _ _ _ _ z=>z
end Own
open PySem PySem.W PyProof.Rows
set_option maxRecDepth 100000 in
set_option maxHeartbeats 0 in
theorem PySem.Challenge.cw_outlast_k08_texts_of_no_program_holds : PySem.Challenge.rw_outlast_k08_texts_of_no_program.Holds := by
 w_on;o_law;z_head;(case hw=>w_witness2)
 k_fill
 refine Own.KI (fun _=>rfl) ?_;refine Own.walk (l:=PySem.Challenge.rw_outlast_k08_texts_of_no_program) rfl rfl (fun w h Y=>PySem.W.kIn_of Y) ?F
 case F =>
  intro w mg fa h KX G hmg;apply Own.Ow KX G hmg
  iterate 161 (first|(apply L2.Qr<;>k_is)|k_is|(refine L2.VA (by k_exc) (by kernel_rfl) (by kernel_rfl) (by kernel_rfl) (by kernel_rfl))|kernel_rfl|decide)
