import PyProof.Rows.All
import Wide.All
import OpenK.AllK
import Wide.FinOn
import Lean
import PyProof.EqAt
import PyProof.EqKinds
import PyProof.TupleCall
import PySem.Challenge.RW_outlast_k18_whole_run_again
set_option Elab.async false
set_option linter.all false
set_option genInjectivity false
set_option compiler.extract_closed false
set_option bootstrap.genMatcherCode false
set_option genSizeOf false
set_option maxRecDepth 100000
local macro_rules | `(tactic| omega) => `(tactic| first | assumption | lia | omega +splitDisjunctions)
noncomputable section
local macro_rules
|`(mutual example:=[$ts,*] $cs:command* end)=>do
 let f(D:Array Lean.Syntax)(s:Lean.Syntax):=s.rewriteBottomUp fun s=>if s.isOfKind `scientific then (match s[0].getAtomVal.splitOn "e" with|[a,b]=>D[10*b.toNat!+a.toNat!]!|_=>s) else s.setInfo .none
 let D:=ts.getElems.foldl (fun D t=>D.push (f D t)) #[]
 return Lean.mkNullNode (cs.map fun c=>let s:=f D c;if s.isOfKind `Lean.Parser.Command.declaration&&(s[1].isOfKind `Lean.Parser.Command.definition||s[1].isOfKind `Lean.Parser.Command.abbrev) then s.setArg 0 (s[0].setArg 4 (Lean.mkNullNode #[Lean.mkNode `Lean.Parser.Command.noncomputable #[Lean.mkAtom "noncomputable"]])) else s)
namespace PySem.W.Fast
mutual
example:=[]
def K:=Nat
def tw9332316717557716507:=K
def tw14309758641340824349:=K
def tw6338489958381380005:=K
def tw6118975237656760502:=K
def tw2248276207003605788:=K
def tw251493704767981115:=K
def tw10985550248198131094:=K
def tw14861887255360191539:=K
def tw3142658842635932529:=K
def tw15709168323439179490:=K
def tw16137426953093315228:=K
def tw7465459343137164835:=K
def tw11806852464761134427:=K
def tw3977108495817078018:=K
def tw4686851653776708848:=K
def tw3807997588143923232:=K
def tw5277943098294668013:=K
def tw9442864021346921860:=K
def tw13351017146230855888:=K
def tw9649788406557847225:=K
def tw17172466384231141266:=K
def tw10884827406868616173:=K
def tw29084699562302340:=K
def tw18263276962498563856:=K
def tw6361252652903705653:=K
def tw2606641503642849631:=K
def tw3745822153646143672:=K
def tw11817512560847792236:=K
def tw4907184452510045345:=K
def tw6119778652118184625:=K
def tw1362678851261942203:=K
def tw4750933480568984921:=K
def tw11492764605176685077:=K
def tw7440253683430804075:=K
def tw14647704985889519710:=K
def tw9245346258884656508:=K
def tw12220744200759404181:=K
def tw4468240752990253329:=K
def tw5100672349978308762:=K
def tw9107663802670719415:=K
def tw2629733819729335900:=K
def tw1991802288357900794:=K
def tw1098703784752923985:=K
def tw16717062443340954293:=K
def tw6673119480879080882:=K
def tw9845072442597203528:=K
def tw7940531912106285053:=K
def tw6606808691018562636:=K
def tw10981303721407969423:=K
def tw12129346923604197513:=K
def tw6023480806717897877:=K
def tw16117859349753005176:=K
def tw13311322955709856900:=K
def tw5301836973007640646:=K
def tw16598928923404465774:=K
def tw6073063927741642361:=K
def tw15580933610857233275:=K
def tw14261838534949913773:=K
def tw1202656146014872096:=K
def tw3495447587890196295:=K
def tw4554575684033195925:=K
def tw11461421720646242329:=K
def tw8224592297443603321:=K
def tw14642881651867808779:=K
def tw3286836758441102998:=K
def tw7388807002373807116:=K
def tw7422476234952491242:=K
def tw7463182526085744682:=K
def tw5896112932437586626:=K
def tw12625111995156882102:=K
def tw16998814565128156985:=K
def tw3938003432495171840:=K
def tw3027450931104237420:=K
def tw6060650416134304628:=K
def tw5153812133212157518:=K
def tw13135867867834200167:=K
def tw11794917687332774132:=K
def tw4916970434026617754:=K
def tw17038813619113352476:=K
def tw15073043857528032776:=K
def tw1121284435236153103:=K
def tw15615971390244180595:=K
def tw8138673542815753926:=K
def tw8076268484531638147:=K
def tw8727151664551620536:=K
def tw8363078166537895896:=K
def tw4058727681193038027:=K
def tw16522692126742467772:=K
def tw8232956928809578023:=K
def tw3188354674774008139:=K
def tw892674324548497379:=K
def tw5387176496627037646:=K
def tw10042190629002354051:=K
def tw8184330742351248053:=K
def tw16130466210138841265:=K
def tw17249164238092659619:=K
def tw11468812535273988527:=K
def tw271532472175827461:=K
def tw14856117187267272779:=K
def tw12539535773869249054:=K
def tw83620655355331052:=K
def tw2531275058812657183:=K
def tw15284344697242784817:=K
def tw16449731549640303331:=K
def tw14601401152345558874:=K
def tw8997258646801602777:=K
def tw16818493357293910081:=K
def tw1412062736894391486:=K
def tw4359350482257719638:=K
def tw850335045528051659:=K
def tw14568975890033351483:=K
def tw2825189822116648530:=K
def tw10446643435835737472:=K
def tw3997955895832943434:=K
def tw1610716276302753601:=K
def tw17609486228344282373:=K
def tw2306768014081314213:=K
def tw6056462354618734264:=K
def tw11452506503499220269:=K
def tw16806445406483348899:=K
def tw18303679353301755672:=K
def tw15505418443974304016:=K
def tw2140235063855396052:=K
def tw8983853860781469733:=K
def tw8169753016931894318:=K
def tw5118288581915193087:=K
def tw4069662884016848884:=K
def tw11245558695688251028:=K
def tw8540537499359936568:=K
def tw14943216615104444694:=K
def tw7498253195202563490:=K
def tw17679994168200438213:=K
def tw870605125242278152:=K
def tw4157741039610599951:=K
def tw15199948221469981444:=K
def tw352387363145561923:=K
def tw12120847716373862444:=K
def tw5208838331083814513:=K
def tw11000938298521310123:=K
def tw5251683967436472393:=K
def tw12014303119096146859:=K
def tw8255757908855604005:=K
def tw2683877692467414152:=K
def tw16357136847569423181:=K
def tw18076330489211200428:=K
def tw3413114592217451381:=K
def tw12884531559434499777:=K
def tw7725951836721271862:=K
def tw7430506003854422701:=K
def tw2316993074695415943:=K
def tw15980603204208385485:=K
def tw6082228987097582809:=K
def tw6354612178894858882:=K
def tw16476255891458462141:=K
def tw5017598183127961875:=K
def tw14143071510806958016:=K
def tw17413540427120073888:=K
def tw13452895327828553211:=K
def tw10378382917381153939:=K
def tw4948923572897772486:=K
def tw10038679470313777666:=K
def tw17708667151516167192:=K
def tw14643622964075878875:=K
def tw12220871733379350261:=K
def tw3169328641109707892:=K
def tw16196884430190338359:=K
def tw1603386532703785047:=K
def tw4672484548539575788:=K
def tw7791379398725082256:=K
def tw8959944022841371089:=K
def tw1986301085161814653:=K
def tw892696604677653909:=K
def tw11568783003601882359:=K
def tw822731606221366767:=K
def tw11896955457887783321:=K
def tw7481585289287013938:=K
def tw2212178895014006579:=K
def tw17282835754437762995:=K
def tw3144793929051916770:=K
def tw17128993313636084885:=K
def tw7479224238547775970:=K
def tw11767390096119191025:=K
def tw5398801292645106579:=K
def tw2808234639385415704:=K
def tw13780685162475238662:=K
def tw11140572230236311268:=K
def tw6071479623594144433:=K
def tw15558458084637980387:=K
def tw2016886282906897839:=K
def tw11887861672190357607:=K
def tw1331774290160108016:=K
def tw6090561459859922172:=K
def tw9417277342381288012:=K
def tw7745333904544589752:=K
def tw12676028466712588072:=K
def tw4227922564733708369:=K
def tw6022841717292209680:=K
def tw7186228990370564484:=K
def tw3256259852424729522:=K
def tw17432668236830991397:=K
def tw3187500129269474603:=K
def tw14566880174021507808:=K
def tw741375711320723663:=K
def tw11135477581193613721:=K
def tw7205861498541349530:=K
def tw2666869874788502327:=K
def tw4161929315760195615:=K
def tw14572955649188221200:=K
def tw9917541791727190958:=K
def tw16045022810855598680:=K
def tw17420749353415376530:=K
def tw4762765122774262984:=K
def tw13013428486313844823:=K
def tw3473571111675249492:=K
def tw15770603815018632087:=K
def tw6250013238441832770:=K
def tw17674035971635653805:=K
def tw14537447007148536908:=K
def tw15429816772923575602:=K
def tw12801241869000162194:=K
def tw887843267716018411:=K
def tw9014716033736734218:=K
def tw8648219370314357501:=K
def tw12714255478071010106:=K
def tw2094384539322353764:=K
def tw18220876477885665915:=K
def tw2578709488000728138:=K
def tw4562998127744765023:=K
def tw15176226249483341888:=K
def tw903555798859375092:=K
def tw8732649631934002843:=K
def tw8515130879289187423:=K
def tw13572802833345085618:=K
def tw2748850981798232819:=K
def tw18019637480670260760:=K
def tw12759223175992341185:=K
def tw11710728137291560935:=K
def tw83404720621478179:=K
def tw373548050611637216:=K
def tw11787874596822120616:=K
def tw6863490583531324846:=K
def tw8347119425834206684:=K
def tw12007121879237771598:=K
def tw11719247082411755866:=K
def tw4659705630554811958:=K
def tw15516847829885739318:=K
def tw11444546862668689744:=K
def tw1903273745908543856:=K
def tw3708677326761731431:=K
def tw1950322250124332476:=K
def tw3811246663637815634:=K
def tw6313136555004077452:=K
def tw16344011013543095314:=K
def tw15988906426829022831:=K
def tw15594855929349819294:=K
def tw10750481561886224406:=K
def tw16526629006673689494:=K
def tw15457374229191518779:=K
def tw823434237679160885:=K
def tw17095492048691764569:=K
def tw4603322610789122071:=K
def tw21267646044020924:=K
def tw17776563997371234779:=K
def tw15343787951306848232:=K
def tw7299700463103926544:=K
def tw17950202139399100448:=K
def tw1921623828640221081:=K
def tw8803614111787914802:=K
def tw1929072215110033527:=K
def tw18357329580651593820:=K
def tw5444497719486342462:=K
def tw18351007320430465091:=K
def tw16560361174905522291:=K
def tw11886954314783795747:=K
def tw12852220474330394026:=K
def tw7187630203058307339:=K
def tw705191130740883717:=K
def tw3772539924494534141:=K
def tw15225199666417286241:=K
def tw12601380408142738853:=K
def tw12354789841438373583:=K
def tw13503476804684469040:=K
def tw1212202313443940612:=K
def tw12068838415787874572:=K
def tw11976197207605671356:=K
def tw6122425384664478318:=K
def tw15532624401491451135:=K
def tw13366478320473869654:=K
def tw851138524937851459:=K
def tw9854040659186533868:=K
def tw7624989248411299050:=K
def tw2851166752760020686:=K
def tw243786719060769799:=K
def tw1868629269428220087:=K
def tw18129956869486600359:=K
def tw17845933609678506975:=K
def tw14407320402078770111:=K
def tw1241400665252943578:=K
def tw8903829365440141194:=K
def tw8588301954238688155:=K
def tw5792824808057556445:=K
def tw4145943849572171518:=K
def tw10056656133504304564:=K
def tw9065790228059852438:=K
def tw15353429971289035980:=K
def tw13730971925559668870:=K
def tw14651695751830591020:=K
def tw17119309448940024541:=K
def tw4705963269836143829:=K
def tw4206408597255470586:=K
def tw3551670639676623145:=K
def tw7237224297138476904:=K
def tw5332048865391499650:=K
def tw7617254215854447081:=K
def tw1085764116461273635:=K
def tw7835830669135642280:=K
def tw14732706833198259689:=K
def tw6364038533510910100:=K
def tw2085384407849548290:=K
def tw8247650893134533128:=K
def tw18335215784508846868:=K
def tw1754372756253104177:=K
def tw10168643178111051691:=K
def tw10461646655591235228:=K
def tw18106092223843130418:=K
def tw8299391974784105140:=K
def tw8004290960419577536:=K
def tw10327164404270079156:=K
def tw8068155180616718452:=K
def tw4768074427341104259:=K
def tw4564979664099863562:=K
def tw17228495941778426927:=K
def tw16216590525268934907:=K
def tw12163978999589510845:=K
def tw9604637087602035823:=K
def tw9528770439976301431:=K
def tw12775548571169061487:=K
def tw7524752890614639242:=K
def tw5055527142620786200:=K
def tw1341973085918809079:=K
def tw13268774034359530182:=K
def tw12049105621045001187:=K
def tw3531068790760031902:=K
def tw16588832975628148673:=K
def tw12535093285260335583:=K
def tw12015372527542592078:=K
def tw9258421921163309702:=K
def tw17159212104154422042:=K
def tw8813156155476588811:=K
def tw11510296732028529965:=K
def tw7765200358774244850:=K
def tw7487738128394523504:=K
def tw12505695901470732956:=K
def tw6370973123882026885:=K
def tw8285651262716460660:=K
def tw16912413362303932091:=K
def tw14064624131510718000:=K
def tw12095149670071061478:=K
def tw4664703964709445276:=K
def tw4426480826662794492:=K
def tw14583022277409466771:=K
def tw14129746199629470151:=K
def tw16527021689769846471:=K
def tw15408289931242588179:=K
def tw13733904780939285826:=K
def tw16573073922544350610:=K
def tw16336215170691956086:=K
def tw16701793130219046444:=K
def tw16332085242464386567:=K
def tw13819833985601446598:=K
def tw13745148987356107966:=K
def tw8139992045764556461:=K
def tw5574607908229867053:=K
def tw10593049943992116823:=K
def tw5243348523546414425:=K
def tw3099585581666340369:=K
def tw14081193657153533593:=K
def tw13482468487452349457:=K
def tw16110534386971254367:=K
def tw167161240114010044:=K
def tw2797331739162670139:=K
def tw5265634662987929052:=K
def tw3365475167117344314:=K
def tw16880374126453667427:=K
def tw4920991626980126341:=K
def tw7039211239721827291:=K
def tw6416053989337022748:=K
def tw6079477925885405386:=K
def tw549089633473586604:=K
def tw5334062737407682627:=K
def tw2239024854850687997:=K
def tw18354448317008857341:=K
def tw18181190640972642773:=K
def tw17260776506210786759:=K
def tw13994025016932405230:=K
def tw13620747591627350943:=K
def tw12463484118100361048:=K
def tw11379648550563313537:=K
def tw10032735211782128980:=K
def tw7466816967447918076:=K
def tw3906095299025332199:=K
def tw11623110729364106990:=K
def tw8277949350792809245:=K
def tw8158757944319552350:=K
def tw5945659143084709558:=K
def tw3385267700180972381:=K
def tw9643645847430039736:=K
def tw14793623269870454096:=K
def tw12791490599820164049:=K
def tw9260170727539843298:=K
def tw7593419964457199286:=K
def tw16334163074579583450:=K
def tw9839955094046156200:=K
def tw9716779268003600757:=K
def tw9601187799921718351:=K
def tw9406728276353539202:=K
def tw9400319536519712442:=K
def tw9303789374875861529:=K
def tw9256728557315687989:=K
def tw9216549781809149736:=K
def tw9202476585327042081:=K
def tw9200250194019859513:=K
def tw8746285773505538683:=K
def tw8558707847474780918:=K
def tw8458757727193274499:=K
def tw8419040028323260858:=K
def tw8378643326178960098:=K
def tw8153981605259653940:=K
def tw8101358574885864095:=K
def tw8058382986813232726:=K
def tw8040458874614552538:=K
def tw797313967457162206:=K
def tw7961450839427119716:=K
def tw792513671099683216:=K
def tw791435037009091734:=K
def tw78230717238430094:=K
def tw7678792899287270622:=K
def tw7646887269674773037:=K
def tw7566828057962441035:=K
def tw7547413137191797750:=K
def tw7431360506089772091:=K
def tw7414139932713876782:=K
def tw7364575102468819811:=K
def tw6668760032257827367:=K
def tw6622428809528179871:=K
def tw6586353699169277434:=K
def tw6578172539425375475:=K
def tw6548478146173559:=K
def tw6525718257972764052:=K
def tw6485624842615522054:=K
def tw6463337537029990698:=K
def tw6435983697143487780:=K
def tw6411841300521591812:=K
def tw6387286768779571475:=K
def tw6233268470753895584:=K
def tw6199374880299833402:=K
def tw6124039145749328880:=K
def tw5959649727204553441:=K
def tw5880023958257655260:=K
def tw5853573669643089002:=K
def tw5822650918980656352:=K
def tw5779154260676422509:=K
def tw5746526812886844964:=K
def tw5588126973130927780:=K
def tw5376710104496962798:=K
def tw5314890943834003651:=K
def tw5310779564984078383:=K
def tw5226448936801949546:=K
def tw5123265708721321974:=K
def tw5122089323868094436:=K
def tw5110230885356042830:=K
def tw5072858784027289596:=K
def tw5056376396254911601:=K
def tw4994612204680010185:=K
def tw4969912418730817655:=K
def tw4578913835786624211:=K
def tw4516346898805080006:=K
def tw4163263700870325801:=K
def tw4138745362404244187:=K
def tw3839383500893988397:=K
def tw3762430278671401546:=K
def tw3598052280476246502:=K
def tw3534027902841426595:=K
def tw3512943347589160425:=K
def tw3434655280420794384:=K
def tw3404189687117766587:=K
def tw3395823683956054378:=K
def tw3062516383959965517:=K
def tw301121168157266448:=K
def tw2953481538057148366:=K
def tw2736572939270315487:=K
def tw2679220338262998782:=K
def tw2467091365368865358:=K
def tw2319025356731586335:=K
def tw2230647708459430760:=K
def tw1927668954088467268:=K
def tw18404721778265918902:=K
def tw18379872526552876365:=K
def tw18168752365753369633:=K
def tw18024092389205625118:=K
def tw17758065736975909254:=K
def tw17666568764404270090:=K
def tw17524954570274342549:=K
def tw17519190534533584035:=K
def tw17442218051929086907:=K
def tw17354726657890133320:=K
def tw17337053968203873818:=K
def tw17122352789473238920:=K
def tw17004124486839346861:=K
def tw16970339877514317744:=K
def tw16965849680490881596:=K
def tw16933404937455864664:=K
def tw16865688369525742933:=K
def tw1684382444995542435:=K
def tw16439549106338277814:=K
def tw16420373679393473288:=K
def tw16316317180350893925:=K
def tw16295260959344247270:=K
def tw16251004058081992862:=K
def tw16128918588538661136:=K
def tw16070147108166635452:=K
def tw16024573877114205639:=K
def tw16007817783775361497:=K
def tw15888995539444116551:=K
def tw15887582122818976844:=K
def tw15833992868727519454:=K
def tw15817378644385644580:=K
def tw15769635498564191072:=K
def tw15762402248821185283:=K
def tw15716962503156158913:=K
def tw15704007314515025786:=K
def tw15669250436495534083:=K
def tw15523084676370306984:=K
def tw15100661147190921751:=K
def tw15083525799262696060:=K
def tw14995248995752049799:=K
def tw14947866001738932980:=K
def tw14736913969876630508:=K
def tw14727272612025655948:=K
def tw14721200213679001204:=K
def tw14701498679520901762:=K
def tw14432860745795758911:=K
def tw14356174397443565458:=K
def tw14253752582922857325:=K
def tw14191725020936571734:=K
def tw14092573746923523218:=K
def tw1407831843725787668:=K
def tw14022163876917194228:=K
def tw13802654258761684254:=K
def tw13574162940635588780:=K
def tw13514646331786563098:=K
def tw13394225565315683890:=K
def tw13364307384119414629:=K
def tw13325033691395334584:=K
def tw13255994114866126630:=K
def tw1312603894018947574:=K
def tw12974126832794357518:=K
def tw12923367823735449250:=K
def tw12906843632741669732:=K
def tw1273160518346446205:=K
def tw12707310457649743027:=K
def tw12659204118668015530:=K
def tw12537366619227715907:=K
def tw12453200775057482313:=K
def tw12312521755251370997:=K
def tw12298041663881453663:=K
def tw12155861207608857947:=K
def tw11803060766896335568:=K
def tw11428897007805710879:=K
def tw11321331650458687089:=K
def tw11287164229764679422:=K
def tw11227996546854022622:=K
def tw11030994692574490143:=K
def tw10831967888798286882:=K
def tw10817561613764362937:=K
def tw10738526480103953190:=K
def tw10732407928282156477:=K
def tw10713709442007289433:=K
def tw1067294960124105322:=K
def tw10614064616289529941:=K
def tw10598040840315919186:=K
def tw10495847549112859403:=K
def tw10462736845679696901:=K
def tw10251179959052331346:=K
def tw10095835003845369993:=K
end
end PySem.W.Fast
mutual
example:=[]
abbrev q0A:=PySem.Value->PySem.Shared->Prop
abbrev q0B:=PySem.W.Frag
abbrev q0C:=PySem.Str->Option PySem.Value
def Α:=@List.mem_cons
def Β:=@PySem.wpAny_bind
def Γ:=@List.length_map
def Δ:=@List.not_mem_nil
def Ε:=@List.size_toArray
def Ζ:=@List.length_cons
def Η:=@PySem.Heap.get?_push_of_some
def Θ:=@PySem.wpAny_pure
def Ι:=@Nat.le_refl
def Κ:=@List.mem_append
def Λ:=@List.getElem?_eq_some_iff
def Μ:=@PySem.Heap.lt_size
def Ν:=@List.length_append
def Ξ:=@List.getElem?_cons_zero
def Ο:=@Option.some.injEq
def Ρ:=@Nat.ne_of_lt
def Τ:=@PySem.Heap.get?_push_size
def Υ:=@List.mem_of_getElem?
def Φ:=@Nat.lt_of_lt_of_le
def Χ:=@List.cons_append
def Ψ:=@or_false
def Ω:=@Bool.false_ne_true
def ϐ:=@List.getElem?_eq_getElem
def ϑ:=@List.mem_cons_of_mem
def ϒ:=@Nat.le_trans
def ϓ:=@List.map_cons
def ϔ:=@List.getElem?_map
def ϕ:=@List.length_nil
def ϖ:=@Option.some.inj
def ϗ:=@List.nodup_cons
def Ϙ:=@Bool.false_eq_true
def ϙ:=@List.nodup_append
def Ϛ:=@Option.map_eq_some_iff
def ϛ:=@List.append_nil
def Ϝ:=@List.mem_append_right
def ϝ:=@Nat.lt_irrefl
def Α0:=@List.take_length
def Α1:=@List.nil_append
def Α2:=@Option.toList_some
def Α3:=@List.map_append
def Α4:=@Nat.zero_le
def Α5:=@List.mem_filter
def Α6:=@PySem.Calls.callWith_builtin
def Α7:=@List.length_take
def Α8:=@List.take_add_one
def Α9:=@List.mem_map
def Β0:=@PySem.wpAny_holding
def Β1:=@List.forall_mem_cons
def Β2:=@List.getElem?_append_left
def Β3:=@beq_eq_false_iff_ne
def Β4:=@if_false
def Β5:=@PySem.wpAny_mono
def Β6:=@Option.join_some
def Β7:=@PySem.PassesOwn.never
def Β8:=@List.getElem?_append_right
def Β9:=@decide_eq_false
def Γ0:=@PySem.wpAny_newObj_type
def Γ1:=@PySem.F.called_set
def Γ2:=@List.pairwise_cons
def Γ3:=@if_true
def Γ4:=@Nat.zero_add
def Γ5:=@Int.zero_add
def Γ6:=@PySem.F.plainAttrs_dict
def Γ7:=@Array.length_toList
def Γ8:=@PySem.wpAny_setState_of
def Γ9:=@Bool.and_eq_true
def Δ0:=@PySem.F.slot_dict_get
def Δ1:=@List.length_filter_le
def Δ2:=@Array.getElem?_toList
def Δ3:=@PySem.call_meetsIn
def Δ4:=@Array.getElem?_eq_getElem
def Δ5:=@List.find?_cons
def Δ6:=@PySem.Calls.spliced_cons
def Δ7:=@Option.isSome_iff_exists
def Δ8:=@PySem.mem_of_lookup
def Δ9:=@PySem.lookup_relabel_local
def Ε0:=@PySem.Calls.evalArgs_plain
def Ε1:=@PySem.Around.under_plainId
def Ε2:=@PySem.wpAny_truthy_bool
def Ε3:=@Option.getD_some
def Ε4:=@PySem.sizeLine_eq
def Ε5:=@Nat.le_succ
def Ε6:=@Bool.eq_iff_iff
def Ε7:=@List.getD_eq_getElem?_getD
def Ε8:=@PySem.wpAny_passesOwn
def Ε9:=@PySem.codeAny_builtin
def Ζ0:=@List.pairwise_iff_getElem
def Ζ1:=@List.getElem?_eq_none_iff
def Ζ2:=@PyProof.Rows.F.plain_set_update_loop
def Ζ3:=@List.take_succ_cons
end
namespace L2
open PySem PySem.Spec PyProof.Rows
mutual
example:=[]
variable{C a b:Addr}{A:Around}{g':Array GenState}{op:CmpOp}{c e tg:Expr}{fd:FuncData}{base h:Heap}{TF:List (Addr×Obj)}{kw:List (Str×Value)}{ch fp:List Addr}{outer:List Env}{es:List Expr}{body:List Stmt}{ps:List Str}{us:List Value}{M:Model}{i k n t':Nat}{o:Obj}{pos:Pos}{P:Program}{scope:Scope}{pl:Sem Bool}{s s':Shared}{x:Str}{Q:Unit->Shared->Prop}{u:Value}{f:Value->Value->Sem Value}{w:World}{E:q0A}{K:q0B}{mg:q0C}
set_option genInjectivity true in
inductive Key where
 | inl (i:Int)|inr (x:Str)|no
 deriving DecidableEq
def yY:Key->Value->Bool
 | .inl k,v=>Value.isInt k v
 | .inr x,v=>Value.isStrOf x v
 | .no,.none=>true
 | .no,_=>false
def SY(w:World):Key->Int
 | .inl k=>hashInt k
 | .inr x=>hashStr w x
 | .no=>reduceHash 0xFCA86420
theorem eU:∀ {k:Key} {v:Value},yY k v=true->(∃ i t,k=Key.inl i/\v=Value.int i t)\/(∃ x t,k=Key.inr x/\v=Value.str x t)\/(k=Key.no/\v=Value.none)
 | .inl i,v,h=>by
  obtain⟨t,e⟩:=Value.isInt_shape (k:=i) (v:=v) h;exact .inl ⟨i,t,rfl,e⟩
 | .inr x,v,h=>by
  obtain⟨t,e⟩:=Value.isStrOf_shape (x:=x) (v:=v) h;exact .inr (.inl ⟨x,t,rfl,e⟩)
 | .no,v,h=>by
  cases v<;>first|exact .inr (.inr ⟨rfl,rfl⟩)|cases h
def Ft(i:Int)(t:Tok):yY (.inl i) (.int i t)=true:=by simp[yY,Value.isInt]
def Fu(x:Str)(t:Tok):yY (.inr x) (.str x t)=true:=by simp[yY,Value.isStrOf]
theorem OH(a b:Int):decide (Key.inl a=Key.inl b)=(a==b):=by
 by_cases e:a=b
 ·subst e;simp
 ·have h:¬ Key.inl a=Key.inl b:=fun q=>e (Key.inl.inj q);rw[Β9 h];exact(Β3.mpr e).symm
theorem OI(a b:Str):decide (Key.inr a=Key.inr b)=decide (a=b):=by
 by_cases e:a=b
 ·subst e;simp
 ·have h:¬ Key.inr a=Key.inr b:=fun q=>e (Key.inr.inj q);rw[Β9 h,Β9 e]
def bJ(prog:Program)(w:World):PySem.KeyKind prog w Key where
 is:=yY
 hash:=SY w
 inj:=fun v a b ha hb=>by
  rcases eU ha with⟨i,t,rfl,rfl⟩|⟨x,t,rfl,rfl⟩|⟨rfl,rfl⟩<;>rcases eU hb with⟨j,u,rfl,e⟩|⟨y,u,rfl,e⟩|⟨rfl,e⟩ <;>
   first|rfl|(cases e<;>rfl)
 byValue:=fun k v h=>by
  rcases eU h with⟨i,t,rfl,rfl⟩|⟨x,t,rfl,rfl⟩|⟨rfl,rfl⟩<;>rfl
 pyHash:=fun hv h=>by
  rcases eU hv with⟨i,t,rfl,rfl⟩|⟨x,t,rfl,rfl⟩|⟨rfl,rfl⟩
  ·exact wpAny_pyHash_int h
  ·exact wpAny_pyHash_str h
  ·exact PySem.W.pyHash_slot (T:="NoneType") rfl F.slot_NoneType_hash F.entry_NoneType_hash (F.args_NoneType_hash_1 _) (beq_builtin_none _) (.inl rfl) (Β (Θ (Β (wpAny_mkInt (Θ ⟨_,_,rfl,h⟩)))))
 eqBool:=fun hu hv h=>by
  rcases eU hu with⟨i,t,rfl,rfl⟩|⟨x,t,rfl,rfl⟩|⟨rfl,rfl⟩<;>rcases eU hv with⟨j,u,rfl,rfl⟩|⟨y,u,rfl,rfl⟩|⟨rfl,rfl⟩
  ·rw[OH] at h;exact wpAny_eqBool_int h
  ·exact SeqAt.EqAt.int_str i t y u _ _ _ _ h
  ·exact SeqAt.EqAt.int_none i t _ _ _ _ h
  ·exact SeqAt.EqAt.str_int x t j u _ _ _ _ h
  ·rw[OI] at h;exact wpAny_eqBool_str h
  ·exact SeqAt.EqAt.str_none x t _ _ _ _ h
  ·exact SeqAt.EqAt.none_int j u _ _ _ _ h
  ·exact SeqAt.EqAt.none_str y u _ _ _ _ h
  ·exact SeqAt.EqAt.same .none _ _ _ _ h
 «strs»:=fun k x t v h=>by
  rcases eU h with⟨i,u,rfl,e⟩|⟨y,u,rfl,e⟩|⟨rfl,e⟩
  ·exact nomatch e
  ·injection e with e1 _
   subst e1;cases v<;>rfl
  ·exact nomatch e
def BE(prog:Program)(w:World)(i:Int)(t:Tok):(bJ prog w).is (.inl i) (.int i t)=true:=Ft i t
def BF(prog:Program)(w:World)(x:Str)(t:Tok):(bJ prog w).is (.inr x) (.str x t)=true:=Fu x t
set_option genInjectivity true in
inductive V where
 | TK|bl (b:Bool)|int (i:Int)|str (x:Str)|byt (b:Array UInt8)|flt (b:UInt64)|ref (a:Addr)|ty (n:String)
 deriving DecidableEq
variable{vs xs:List V}{v:V}
def bQ:V->Value->Prop
 | .TK,u=>u=Value.none
 | .bl b,u=>u=Value.bool b
 | .int i,u=>∃ t,u=Value.int i t
 | .str x,u=>∃ t,u=Value.str x t
 | .byt b,u=>∃ t,u=Value.bytes b t
 | .flt b,u=>∃ t,u=Value.float b t
 | .ref a,u=>u=Value.ref a
 | .ty n,u=>u=Value.type n
abbrev TU:List V->List Value->Prop:=Paired bQ
def TU.length(r:TU xs us):xs.length=us.length:=Paired.length r
theorem TU.get:∀ {xs:List V} {us:List Value} {i:Nat} {x:V},TU xs us->xs[i]?=some x->∃ u,us[i]?=some u/\bQ x u
 | _,_,_,_,.nil,e=>by simp at e
 | _,_,0,_,.cons r _,e=>by simp at e;subst e;exact⟨_,rfl,r⟩
 | _,_,i+1,x,.cons _ t,e=>by
  obtain⟨u,h1,h2⟩:=TU.get (i:=i) (x:=x) t (by simpa using e);exact⟨u,by simpa using h1,h2⟩
theorem TU.set{x:V}{u:Value}(r:bQ x u):∀ {xs:List V} {us:List Value} (i:Nat),TU xs us->TU (xs.set i x) (us.set i u)
 | _,_,_,.nil=>.nil
 | _,_,0,.cons _ t=>.cons r t
 | _,_,i+1,.cons q t=>.cons q (TU.set r i t)
def TU.append{ys:List V}{ws:List Value}(h:TU xs us)(s:TU ys ws):TU (xs++ys) (us++ws):=by
 induction h with
 | nil=>exact s
 | cons r _ ih=>exact .cons r ih
theorem TU.take:∀ {xs:List V} {us:List Value} (n:Nat),TU xs us->TU (xs.take n) (us.take n)
 | _,_,0,_=>.nil
 | _,_,_+1,.nil=>.nil
 | _,_,n+1,.cons r t=>.cons r (TU.take n t)
theorem TU.drop:∀ {xs:List V} {us:List Value} (n:Nat),TU xs us->TU (xs.drop n) (us.drop n)
 | _,_,0,r=>r
 | _,_,_+1,.nil=>.nil
 | _,_,n+1,.cons _ t=>TU.drop n t
theorem TU.none_of:∀ {xs:List V} {us:List Value} {i:Nat},TU xs us->xs[i]?=none->us[i]?=none:=fun {xs us i} r e=>by
 have h1:=r.length;have h2:xs.length<=i:=Ζ1.mp e;exact Ζ1.mpr (by omega)
def kZ:Option V->Option Value->Prop
 | some v,some u=>bQ v u
 | none,none=>True
 | _,_=>False
def KV{κ:Type}:List (κ×V)->List (κ×Value)->Prop:=Paired fun(p:κ×V) (q:κ×Value)=>p.1=q.1/\bQ p.2 q.2
def kV:Key->V
 | .inl i=>.int i
 | .inr x=>.str x
 | .no=>.TK
set_option genInjectivity true in
inductive HO where
 /-- a list -/
 | lst (xs:List V)
 /-- a tuple (never changes) -/
 | tup (xs:List V)
 /-- a dict whose keys are ints and texts;one whose keys are tuples of ints and texts (the empty one is both) -/
 | dK (kvs:List (Key×V))|dT (kvs:List (List Key×V))
 /-- a set of ints: TR members,TR size -/
 | set (S:Int->Bool) (n:Nat)
 /-- an instance of the class at C,TR dict at dx,TR attributes -/
 | ins (C dx:Addr) (fs:List (Str×V))
 /-- the dict of the instance at x -/
 | own (x:Addr)
 /-- the dict of an exception -/
 | xd (fs:List (Str×V))
 /-- a bound method,f of x -/
 | met (f x:Addr)
 /-- a range object lo,lo+1,.. below hi -/
 | rng (lo hi:Int)
 /-- a thing that is known to the object (the script;a dict while a loop walks it): read,never written while it is so -/
 | Uv (o:Obj) (u:HO)
 /-- a code object's table -/
 | XU (ps:Array Value)
 /-- any other thing,by what is true of TR one object (a def of abK own: SetO a S n:=HO.ext fun h=>..) -/
 | ext (φ:Heap->Prop)
abbrev Hp:=Addr->Option HO
variable{H:Hp}
def TH(H:Hp)(a:Addr)(o:HO):Hp:=fun b=>if b=a then some o else H b
def aA{o:HO}:TH H a o a=some o:=by unfold TH;rw[if_pos rfl]
def aD{o:HO}(h:b≠a):TH H a o b=H b:=by unfold TH;rw[if_neg h]
def dB{o u:HO}(h:H a=some o)(h':H b=some u)(d:o≠u):a≠b:=by
 intro e;subst e;rw[h] at h';exact d (ϖ h')
def aF{o:HO}(h:H a=some o)(h':H b=none):a≠b:=by
 intro e;subst e;rw[h] at h';cases h'
end
section
variable(P:Program)(w:World)
noncomputable def eC(H:Hp)(h:Heap)(a:Addr):HO->Prop
  | .lst xs=>xs.length<=sizeLine/\∃(TR:List Value) (n:Nat),TU xs TR/\h.get? a=some {cls:=.type "list",data:=.seq TR.toArray n}
  | .tup xs=>xs.length<=sizeLine/\∃ TR:List Value,TU xs TR/\IsTup h a TR.toArray
  | .dK kvs=>kvs.length<=sizeLine/\(a==sysModules)=false/\∃ vs,KV kvs vs/\h.DictOf (bJ P w) a vs
  | .dT kvs=>kvs.length<=sizeLine/\(a==sysModules)=false/\∃ xs:List (List Key×Addr×Value),
      Paired (fun(p:List Key×V) (q:List Key×Addr×Value)=>p.1=q.1/\H q.2.1=some (.tup (p.1.map kV))/\bQ p.2 q.2.2) kvs xs /\
      ∃ o es ep,h.get? a=some o/\o.ExactDict/\o.data=.dict es ep/\es.toList=xs.map (entryOfKey (tupleKind (bJ P w)))/\(xs.map (·.1)).Nodup
  | .set S n=>h.SetOf (intKind P w) a S n
  | .ins C dx fs=>H dx=some (.own a)/\fs.length<=1000/\dx≠a/\h.get? a=some (PySem.W.instObj C dx) /\
      ∃ mA,h.Ns1 dx mA/\(∀ f,kZ (fs.lookup f) (mA f))/\PySem.Within mA (fs.map (·.1))
  | .own _=>∃ o,h.get? a=some o
  | .xd fs=>∃ mA,h.Ns1 a mA/\∀ f,kZ (fs.lookup f) (mA f)
  | .rng lo hi=>∃ t u v,h.get? a=some {cls:=.type "range",data:=.fields #[.int lo t,.int hi u,.int 1 v]}
  | .Uv o u=>h.get? a=some o/\eC H h a u
  | .XU ps=>h.get? a=some {cls:=.none,data:=.fields ps}
  | .met f x=>h.get? a=some (PySem.W.methodObj (.ref f) (.ref x))
  | .ext φ=>φ h/\(∃ o,h.get? a=some o)/\∀ h1 h2:Heap,φ h1->(∀ o,h1.get? a=some o->h2.get? a=some o)->φ h2
def HOk(H:Hp)(h:Heap):Prop:=∀ a o,H a=some o->eC P w H h a o
end
section
mutual
example:=[.inl rfl,.own a,PySem.W.methodObj (.ref f) (.ref y)]
variable{H':Hp}{h':Heap}{o:HO}
def eC.lt(x:eC P w H h a o):a < h.objs.size:=by
 cases o with
 | lst xs=>obtain⟨_,_,_,_,e⟩:=x;exact Μ e
 | tup xs=>obtain⟨_,_,_,p⟩:=x;exact p.lt
 | dK kvs=>obtain⟨_,_,_,_,o,_,_,e,_⟩:=x;exact Μ e
 | dT kvs=>obtain⟨_,_,_,_,o,_,_,e,_⟩:=x;exact Μ e
 | set S n=>obtain⟨o,_,_,_,e,_⟩:=x;exact Μ e
 | ins C dx fs=>obtain⟨_,_,_,e,_⟩:=x;exact Μ e
 | own y=>obtain⟨_,e⟩:=x;exact Μ e
 | xd fs=>obtain⟨_,⟨_,_,_,e,_⟩,_⟩:=x;exact Μ e
 | rng lo hi=>obtain⟨_,_,_,e⟩:=x;exact Μ e
 | Uv ob u=>obtain⟨e,_⟩:=x;exact Μ e
 | XU ps=>exact Μ (show h.get? a=some _ from x)
 | met f y=>exact Μ (show h.get? a=some _ from x)
 | ext φ=>obtain⟨_,⟨_,e⟩,_⟩:=x;exact Μ e
theorem Paired.OL{α β:Type}{F G:α->β->Prop}:∀ {l₁:List α} {l₂:List β},Paired F l₁ l₂->(∀ a b,F a b->G a b)->Paired G l₁ l₂
 | _,_,.nil,_=>.nil
 | _,_,.cons r t,f=>.cons (f _ _ r) (Paired.OL t f)
def eC.tF(x:eC P w H h a o)(k:∀ b u,(b=a\/H b=some 1e0)->h.get? b=some u->h'.get? b=some u)(ho:∀ b,H b=some 1e0->H' b=some 1e0)(ht:∀ b xs,H b=some (.tup xs)->H' b=some (.tup xs)):eC P w H' h' a o:=by
 induction o with
 | lst xs=>obtain⟨z,TR,n,r,e⟩:=x;exact⟨z,TR,n,r,k _ _ 0e0 e⟩
 | tup xs=>obtain⟨z,TR,r,ob,e,c⟩:=x;exact⟨z,TR,r,ob,k _ _ 0e0 e,c⟩
 | dK kvs=>obtain⟨z,y,vs,r,ob,es,ep,e,c⟩:=x;exact⟨z,y,vs,r,ob,es,ep,k _ _ 0e0 e,c⟩
 | dT kvs =>
  obtain⟨z,y,xs,r,ob,es,ep,e,c⟩:=x;exact⟨z,y,xs,Paired.OL r fun p q z=>⟨z.1,ht _ _ z.2.1,z.2.2⟩,ob,es,ep,k _ _ 0e0 e,c⟩
 | set S n=>obtain⟨ob,es,ep,t,e,c⟩:=x;exact⟨ob,es,ep,t,k _ _ 0e0 e,c⟩
 | ins C dx fs =>
  obtain⟨d,z,ne,e,mA,⟨od,es,ep,e2,c⟩,r⟩:=x;exact⟨ho _ d,z,ne,k _ _ 0e0 e,mA,⟨od,es,ep,k _ _ (.inr d) e2,c⟩,r⟩
 | own y=>obtain⟨ob,e⟩:=x;exact⟨ob,k _ _ 0e0 e⟩
 | xd fs=>obtain⟨mA,⟨od,es,ep,e,c⟩,r⟩:=x;exact⟨mA,⟨od,es,ep,k _ _ 0e0 e,c⟩,r⟩
 | rng lo hi=>obtain⟨t,u,v,e⟩:=x;exact⟨t,u,v,k _ _ 0e0 e⟩
 | Uv ob u ih=>obtain⟨e,q⟩:=x;exact⟨k _ _ 0e0 e,ih q⟩
 | XU ps =>
  have e:h.get? a=some {cls:=.none,data:=.fields ps}:=x;show h'.get? a=some {cls:=.none,data:=.fields ps};exact k a _ 0e0 e
 | met f y =>
  have e:h.get? a=some 2e0:=x;show h'.get? a=some 2e0;exact k a _ 0e0 e
 | ext φ=>obtain⟨p,⟨o,e⟩,st⟩:=x;exact⟨st _ _ p fun o q=>k _ _ 0e0 q,⟨o,k _ _ 0e0 e⟩,st⟩
def HOk.lt(x:HOk P w H h)(e:H a=some o):a < h.objs.size:=(x a o e).lt
def HOk.fresh(x:HOk P w H h)(e:h.objs.size<=a):H a=none:=by
 cases q:H a with
 | none=>rfl
 | some u=>exact absurd (Φ (x.lt q) e) (ϝ _)
def HOk.kept(x:HOk P w H h)(k:∀ b u,h.get? b=some u->h'.get? b=some u):HOk P w H h':=fun a o e =>
 (x a o e).tF (fun b u _ q=>k b u q) (fun _ q=>q) fun _ _ q=>q
def HOk.laid(x:HOk P w H h)(k:∀ b u,h.get? b=some u->h'.get? b=some u)(hp:h.objs.size<=a)(new:eC P w (TH H a o) h' a o):HOk P w (TH H a o) h':=fun b u e=>by
 have hn:=x.fresh hp;by_cases hb:b=a
 ·subst hb;rw[aA] at e;cases e;exact new
 ·rw[aD hb] at e;exact(x b u e).tF (fun c v _ q=>k c v q) (fun c q=>by rw[aD (aF q hn)];exact q) fun c xs q=>by rw[aD (aF q hn)];exact q
end
end
def Rd(H:Hp)(a:Addr)(u:HO):Prop:=H a=some u\/∃ o,H a=some (.Uv o u)
def Rd.ok{u:HO}(r:Rd H a u)(x:HOk P w H h):eC P w H h a u:=by
 rcases r with r|⟨o,r⟩
 ·exact x a u r
 ·obtain⟨_,q⟩:=x a _ r;exact q
noncomputable def Mut:Option HO->Prop
 | some (.lst _)=>True
 | some (.dK _)=>True
 | some (.dT _)=>True
 | some (.set _ _)=>True
 | some (.ins _ _ _)=>True
 | some (.ext _)=>True
 | _=>False
section
variable{h':Heap}{x e:Addr}{o':HO}
def HOk.write(ok:HOk P w H h)(mu:Mut (H x))(he:e=x\/H e=some (.own x))(k:∀ b u,b≠e->h.get? b=some u->h'.get? b=some u)(YN:∃ u,h'.get? e=some u)(new:eC P w (TH H x o') h' x o'):HOk P w (TH H x o') h':=fun b u q=>by
 have Z1:∀ c y,H c=some (.own y)->c≠x:=fun c y r z=>by subst z;rw[r] at mu;exact mu
 have aa4:∀ c xs,H c=some (.tup xs)->c≠x:=fun c xs r z=>by subst z;rw[r] at mu;exact mu
 by_cases hb:b=x
 ·subst hb;rw[aA] at q;cases q;exact new
 ·rw[aD hb] at q;by_cases Yb:b=e
  ·have q':H b=some (.own x):=by
    rcases he with z|z
    ·exact absurd (Yb.trans z) hb
    ·rw[Yb];exact z
   rw[q] at q';cases q';obtain⟨v,hv⟩:=YN;exact⟨v,by rw[Yb];exact hv⟩
  ·refine(ok b u q).tF (fun c v hc r=>k c v ?_ r) (fun c r=>by rw[aD (Z1 c b r)];exact r) fun c xs r=>by rw[aD (aa4 c xs r)];exact r
   rcases hc with rfl|hc
   ·exact Yb
   ·rintro rfl;rcases he with z|z
    ·exact Z1 c b hc z
    ·rw[hc] at z;cases z;exact hb rfl
end
structure Un(fs ex:List Addr)(H H':Hp)(h h':Heap):Prop where
 keep:∀ b o,h.get? b=some o->H b=none->b∉fs->b∉ex->h'.get? b=some o
 slot:∀ b o,h.get? b=some o->H b=none->b∈fs->b∉ex->∃ sl,h'.get? b=some {o with slots:=sl}
 free:∀ b o,h.get? b=some o->H b=none->b∉ex->H' b=none
 there:∀ b o,h.get? b=some o->b∉ex->∃ o',h'.get? b=some o'
 yG:∀ b xs,H b=some (.tup xs)->H' b=some (.tup xs)
 uU:∀ b o u,H b=some (.Uv o u)->H' b=some (.Uv o u)
 yF:∀ b ps,H b=some (.XU ps)->∃ more,H' b=some (.XU (ps++more))
section
mutual
example:=[(hm b _ q fun z=>z),aF q hn]
variable{fs Xz ex ex':List Addr}{H1 H2:Hp}{h1 h2 h':Heap}{x e:Addr}{o:HO}
def Un.any(u:Un fs ex H H1 h h1){ob:Obj}(q:h.get? b=some ob)(n:H b=none)(hx:b∉ex):∃ sl,h1.get? b=some {ob with slots:=sl}:=by
 by_cases hb:b∈fs
 ·exact u.slot b ob q n hb hx
 ·exact⟨ob.slots,u.keep b ob q n hb hx⟩
def Un.kept(k:∀ b u,h.get? b=some u->h'.get? b=some u):Un fs ex H H h h' :=
 ⟨fun b ob q _ _ _=>k b ob q,fun b ob q _ _ _=>⟨ob.slots,k b ob q⟩,fun _ _ _ n _=>n,fun b ob q _=>⟨ob,k b ob q⟩,fun _ _ q=>q,fun _ _ _ q=>q,fun _ ps q=>⟨#[],by rw[q];simp⟩⟩
def Un.refl:Un fs ex H H h h:=Un.kept fun _ _ q=>q
def Un.laid(k:∀ b u,h.get? b=some u->h'.get? b=some u)(hp:h.objs.size<=a)(hn:H a=none):Un fs ex H (TH H a o) h h' where
 keep:=fun b u q _ _ _=>k b u q
 slot:=fun b u q _ _ _=>⟨u.slots,k b u q⟩
 free:=fun b u q n _=>by rw[aD (Ρ (Φ (Μ q) hp))];exact n
 there:=fun b u q _=>⟨u,k b u q⟩
 yG:=fun b xs q=>by rw[aD 1e0];exact q
 uU:=fun b u xs q=>by rw[aD 1e0];exact q
 yF:=fun b ps q=>⟨#[],by rw[aD 1e0,q];simp⟩
def Un.write(mu:Mut (H x))(he:e=x\/H e=some (.own x))(k:∀ b u,b≠e->h.get? b=some u->h'.get? b=some u)(YN:∃ u,h'.get? e=some u):Un fs ex H (TH H x o) h h':=by
 have hx:∀ b,H b=none->b≠x:=fun b n z=>by subst z;rw[n] at mu;exact mu
 have hb:∀ b,H b=none->b≠e:=fun b n z=>by
  subst z;rcases he with r|r
  ·exact hx b n r
  ·rw[n] at r;cases r
 have hm:∀ b u,H b=some u->¬ Mut (some u)->b≠x:=fun b u q nm z=>by subst z;rw[q] at mu;exact nm mu
 refine⟨fun b u q n _ _=>k b u (hb b n) q,fun b u q n _ _=>⟨u.slots,k b u (hb b n) q⟩,fun b u q n _=>by rw[aD (hx b n)];exact n,fun b u q _=>?_,
  fun b xs q=>by rw[aD 0e0];exact q,fun b u xs q=>by rw[aD 0e0];exact q,fun b ps q=>⟨#[],by rw[aD 0e0,q];simp⟩⟩
 by_cases Yb:b=e
 ·subst Yb;exact YN
 ·exact⟨u,k b u Yb q⟩
end
end
mutual
example:=[Addr×Obj,trk h H]
def trk(h:Heap)(H:Hp):List Addr:=(List.range h.objs.size).filter fun a=>(H a).isSome
def Ag(h:Heap)(H:Hp):Heap:=PySem.W.hideAll h 1e0
def Fq(h:Heap)(H:Hp):(Ag h H).objs.size=h.objs.size:=PySem.W.hideAll_size _ _
def H8(e:h.get? b=some o)(n:H b=none):(Ag h H).get? b=some o :=
 PySem.W.hideAll_get _ e fun hm=>by
  have q:(H b).isSome=true:=(Α5.mp hm).2;rw[n] at q;simp at q
def Ln(e:(Ag h H).get? b=some o):h.get? b=some o/\H b=none:=by
 have e':h.get? b=some o:=PySem.W.of_hideAll 1e0 e;refine⟨e',?_⟩;cases q:H b with
 | none=>rfl
 | some x =>
  have hm:b∈trk h H:=Α5.mpr ⟨List.mem_range.mpr (Μ e'),by simp[q]⟩;have z:(Ag h H).get? b=none:=PySem.W.hideAll_none 1e0 hm;rw[z] at e;cases e
def JT(g h:Heap)(L:Addr):List 0e0:=(List.range h.objs.size).filterMap fun a=>if a=L\/(g.get? a).isSome=true then none else (h.get? a).map fun o=>(a,o)
def rest(g h:Heap)(L d:Addr):List 0e0:=(JT g h L).filter fun p=>decide (p.1≠d)
structure Mod(K:q0B)(mg:q0C)(base:Heap):Prop where
 kin:K.In base
 glob:base.Ns mainGlobals mg
 blt:∃ mb,base.Ns builtinsNs mb/\∀ x:Str,x≠"__name__"->mb x=bootBuiltins x
 nolimit:base.NoLimit
structure Cx where
 prog:Program
 w:World
 K:q0B
 mg:Str->Option Value
 base:Heap
 A:Around
 N:List Str
 s₀:Shared
 H₀:Hp
 env:Env
 outer:List Env
 stack:List Env
 ex:List Addr
 fn:Str->Bool
 calm:Bool
 pn:List 0e0
 xe:Value->Shared->Prop
variable{X:Cx}
def frs(l:List Env):List Addr:=l.filterMap (·.frame)
abbrev Cx.fs(X:Cx):List Addr:=frs X.outer
def Vis(sc:Scope)(x:Str):Prop:=sc.names.lookup x=some .local\/sc.names.lookup x=some .cell\/sc.names.lookup x=some .free
def Loc(sc:Scope)(x:Str):Prop:=sc.names.lookup x=some .local\/sc.names.lookup x=some .cell
def Look(env:Env)(h:Heap)(m:q0C)(x:Str)(u:Value):Prop :=
 (env.kindOf x=some .local/\m x=some u)\/((env.kindOf x=some .cell\/env.kindOf x=some .free)/\∃ c,env.cells.lookup x=some c/\h.IsCell c (some u))
structure Cx.Ok(X:Cx):Prop where
 mod:Mod X.K X.mg X.base
 kind:X.env.scope.kind=.function
 glob:X.env.globals=mainGlobals
 blt:X.env.builtins=builtinsNs
 above:X.s₀.heap.objs.size<=X.env.locals
 inj:∀ x y c,X.env.cells.lookup x=some c->X.env.cells.lookup y=some c->x=y
 has:∀ x,(X.env.kindOf x=some .cell\/X.env.kindOf x=some .free)->∃ c,X.env.cells.lookup x=some c
 cab:∀ x c,X.fn x=true->X.env.cells.lookup x=some c->X.s₀.heap.objs.size<=c
 hd:X.calm=true->X.A.handled=none
 frames:X.A.frames=some X.stack
 stk:X.stack=X.outer\/(X.stack=X.env::X.outer/\X.env.frame=some X.env.locals)
 exf:∀ b∈X.ex,b≠X.env.locals/\∀ x c,X.env.cells.lookup x=some c->c≠b
 bs:∀ b o,X.base.get? b=some o->X.s₀.heap.get? b=some o/\X.H₀ b=none
 bsz:X.base.objs.size<=X.s₀.heap.objs.size
 BL:∀ b o,X.base.get? b=some o->b∉X.ex
 Fj:∀ b∈X.ex,b∉X.fs
 pG:X.s₀.heap.FunFrames X.base X.outer
 frf:∀ b∈X.fs,X.H₀ b=none
structure TQ(X:Cx)(TF:List 0e0)(Z:List (Option V))(H:Hp)(s:Shared):Prop where
 ok:X.Ok
 os:s.os=X.s₀.os
 bare:AllBare s.gens
 base:Un X.fs X.ex X.H₀ H X.s₀.heap s.heap
 loc:∃ m,s.heap.Ns X.env.locals m/\∀(i:Nat) (x:Str) (v:V),X.N[i]?=some x->Z[i]?=some (some v)->Vis X.env.scope x->∃ u,bQ v u/\Look X.env s.heap m x u
 cell:∀ x c,X.env.cells.lookup x=some c->∃ v,s.heap.IsCell c v
 free:H X.env.locals=none
 kK:∀ x c,X.env.cells.lookup x=some c->H c=none
 pin:∀ p∈X.pn++TF,s.heap.get? p.1=some p.2/\H p.1=none/\p.1≠X.env.locals/\p.1∉X.fs/\∀ v,p.2.data≠.cell v
 TY:HOk X.prog X.w H s.heap
 len:Z.length=X.N.length
end
section
mutual
example:=[(by simp),Φ (Μ e) I.ok.above,XQ b o e hx,Ρ (Φ (Μ e) (I.ok.cab x c hfn hc)),(b∈X.ex\/X.s₀.heap.objs.size<=b),I.base.keep b o e n hb hx,(fun z=>hc (by simp[z])),I.base.free b o e n hx,I.kK x c e,storeName X.env x u,Z.set i (some v),I.ok.BL b o e,frs X.stack,(fun _ q=>q),Ne.symm hj,I.X5 x c e,neL b o e]
variable{Z:List (Option V)}{H':Hp}{h':Heap}
def Cx.Ok.S2(ok:X.Ok)(e:X.base.get? b=some o):b∉X.fs:=fun hb=>by
 have:=(ok.pG.mem hb).1;rw[e] at this;cases this
def TQ.bs(I:TQ X TF Z H s):∀ b o,X.base.get? b=some o->s.heap.get? b=some o/\H b=none:=fun b o e =>
 ⟨I.base.keep b o (I.ok.bs b o e).1 (I.ok.bs b o e).2 (I.ok.S2 e) 1e1,I.base.free b o (I.ok.bs b o e).1 (I.ok.bs b o e).2 1e1⟩
def TQ.bk(I:TQ X TF Z H s):∀ b o,X.base.get? b=some o->s.heap.get? b=some o:=fun b o e=>(I.bs b o e).1
def TQ.mod(I:TQ X TF Z H s):Mod X.K X.mg X.base:=I.ok.mod
def TQ.kIn(I:TQ X TF Z H s):X.K.In s.heap:=I.ok.mod.kin.keeps I.bk
def TQ.fr(I:TQ X TF Z H s):∃ m,Fr X.base X.env.locals s.heap m :=
 let ⟨m,hn,_⟩:=I.loc
 ⟨m,hn,I.bk,ϒ I.ok.bsz I.ok.above⟩
def TQ.lt(I:TQ X TF Z H s):X.env.locals < s.heap.objs.size:=let ⟨_,hn,_⟩:=I.loc;hn.lt
def TQ.sz(I:TQ X TF Z H s):X.s₀.heap.objs.size<=s.heap.objs.size:=ϒ I.ok.above (Nat.le_of_lt I.lt)
def TQ.Q6(I:TQ X TF Z H s)(h:s.heap.objs.size<=a):a∉X.fs:=fun hb=>by
 obtain⟨_,o,ho,_⟩:=I.ok.pG.mem hb;exact absurd (Φ (Μ ho) (ϒ I.sz h)) (ϝ _)
def TQ.X5(I:TQ X TF Z H s):∀ x c,X.env.cells.lookup x=some c->c≠X.env.locals:=fun x c e z=>by
 obtain⟨v,o,ho,hd⟩:=I.cell x c e;obtain⟨m,⟨o',es,ep,Wl,Zy,_⟩,_⟩:=I.loc;rw[z,Wl] at ho;cases ho;rw[Zy] at hd;cases hd
def TQ.pG(I:TQ X TF Z H s):s.heap.FunFrames X.base X.outer:=by
 have all:∀(l:List Env),(∀ b∈frs l,b∈X.fs)->X.s₀.heap.FunFrames X.base l->s.heap.FunFrames X.base l:=by
  intro l
  induction l with
  | nil=>intro _ _;trivial
  | cons env r ih =>
   intro hs hl;obtain⟨hk,⟨L,o,hf,hn,ho,hd⟩,hr⟩:=hl;have hL:L∈X.fs:=hs L (by unfold frs;rw[List.filterMap_cons,hf];exact List.mem_cons_self);obtain⟨sl,e⟩:=I.base.slot L o ho (I.ok.frf L hL) hL fun z=>I.ok.Fj L z hL;exact⟨hk,⟨L,_,hf,hn,e,hd⟩,ih (fun b hb=>hs b (by unfold frs;rw[List.filterMap_cons,hf];exact ϑ _ hb)) hr⟩
 exact all X.outer (fun _ hb=>hb) I.ok.pG
theorem TQ.stack(I:TQ X TF Z H s):s.heap.FunFrames X.base X.stack:=by
 rcases I.ok.stk with e|⟨e,hf⟩
 ·rw[e];exact I.pG
 ·rw[e];obtain⟨m,hn,_⟩:=I.loc;refine .cons (by rw[I.ok.kind];decide) hf hn ?_ I.pG;exact Heap.get?_none_of_le (ϒ I.ok.bsz I.ok.above)
def TQ.rZ(I:TQ X TF Z H s):∀ b∈frs X.stack,b∈X.env.locals::X.fs:=fun b hb=>by
 rcases I.ok.stk with e|⟨e,hf⟩
 ·rw[e] at hb;exact ϑ _ hb
 ·rw[e] at hb;unfold frs at hb;rw[List.filterMap_cons,hf] at hb;exact hb
def TQ.AS(I:TQ X TF Z H s):∀ b∈frs X.stack,H b=none:=fun b hb=>by
 rcases Α.mp (I.rZ b hb) with e|hb
 ·rw[e];exact I.free
 ·obtain⟨_,o,ho,_⟩:=I.ok.pG.mem hb;exact I.base.free b o ho (I.ok.frf b hb) fun z=>I.ok.Fj b z hb
def TQ.step{d':Drawn}(I:TQ X TF Z H s)(WU:∀ b∈ch,4e0/\b≠X.env.locals/\(∀ x c,X.env.cells.lookup x=some c->c≠b)/\∀ p∈X.pn++TF,p.1≠b)(keep:∀ b o,b≠X.env.locals->b∉X.fs->b∉ch->s.heap.get? b=some o->H b=none->h'.get? b=some o)(slot:∀ b o,b≠X.env.locals->b∈X.fs->b∉ch->s.heap.get? b=some o->H b=none->∃ sl,h'.get? b=some {o with slots:=sl})(free:∀ b o,b∉ch->s.heap.get? b=some o->H b=none->H' b=none)(there:∀ b o,b∉ch->s.heap.get? b=some o->∃ o',h'.get? b=some o')(yG:∀ b xs,H b=some (.tup xs)->H' b=some (.tup xs))(uU:∀ b o u,H b=some (.Uv o u)->H' b=some (.Uv o u))(yF:∀ b ps,H b=some (.XU ps)->∃ more,H' b=some (.XU (ps++more)))(ns:∀ m,s.heap.Ns X.env.locals m->h'.Ns X.env.locals m)(TY:HOk X.prog X.w H' h')(hg:AllBare g') : TQ X TF Z H' {s with heap:=h',gens:=g',drawn:=d',toks:=t'}:=by
 have neL:∀ b o,X.s₀.heap.get? b=some o->b≠X.env.locals:=fun b o e=>Ρ 1e0;have XQ:∀ b o,X.s₀.heap.get? b=some o->b∉X.ex->b∉ch:=fun b o e hx hb=>by
  rcases(WU b hb).1 with z|z
  ·exact hx z
  ·exact absurd (Φ (Μ e) z) (ϝ _)
 have cellK:∀ x c,X.env.cells.lookup x=some c->∀ v,s.heap.IsCell c v->h'.IsCell c v:=fun x c e v ⟨o,ho,hd⟩=>by
  have ZY:c∉ch:=fun z=>(WU c z).2.2.1 x c e rfl;by_cases hc:c∈X.fs
  ·obtain⟨sl,q⟩:=slot c o 5e1 hc ZY ho 8e0;exact⟨_,q,hd⟩
  ·exact⟨o,keep c o 5e1 hc ZY ho 8e0,hd⟩
 refine⟨I.ok,I.os,hg,⟨fun b o e n hb hx=>?_,fun b o e n hb hx=>?_,fun b o e n hx=>?_,fun b o e hx=>?_,fun b xs e=>yG b xs (I.base.yG b xs e),fun b o xs e=>uU b o xs (I.base.uU b o xs e),fun b ps e=>?_⟩,?_,fun x c e=>?_,?_,fun x c e=>?_,fun p hp=>?_,TY,I.len⟩
 ·exact keep b o 6e1 hb 2e0 5e0 7e0
 ·obtain⟨sl,e1⟩:=I.base.slot b o e n hb hx;obtain⟨Uk,e2⟩:=slot b _ 6e1 hb 2e0 e1 7e0;exact⟨Uk,e2⟩
 ·obtain⟨o',e1⟩:=I.base.there b o e hx;exact free b o' 2e0 e1 7e0
 ·obtain⟨o',e1⟩:=I.base.there b o e hx;exact there b o' 2e0 e1
 ·obtain⟨m1,e1⟩:=I.base.yF b ps e;obtain⟨m2,e2⟩:=yF b _ e1;exact⟨m1++m2,by rw[e2,Array.append_assoc]⟩
 ·obtain⟨m,hn,hl⟩:=I.loc;refine⟨m,ns m hn,fun i x v e1 e2 e3=>?_⟩;obtain⟨u,r,l⟩:=hl i x v e1 e2 e3;refine⟨u,r,?_⟩;rcases l with l|⟨k,c,e,z⟩
  ·exact .inl l
  ·exact .inr ⟨k,c,e,cellK x c e _ z⟩
 ·obtain⟨v,z⟩:=I.cell x c e;exact⟨v,cellK x c e v z⟩
 ·obtain⟨m,⟨o,_,_,ho,_⟩,_⟩:=I.loc;exact free _ o (fun z=>(WU _ z).2.1 rfl) ho I.free
 ·obtain⟨v,o,ho,hd⟩:=I.cell x c e;exact free c o (fun z=>(WU c z).2.2.1 x c e rfl) ho 8e0
 ·obtain⟨e,n,ne,nf,d⟩:=I.pin p hp;have ZY:p.1∉ch:=fun z=>(WU p.1 z).2.2.2 p hp rfl;exact⟨keep p.1 p.2 ne nf ZY e n,free p.1 p.2 ZY e n,ne,nf,d⟩
def TQ.un(I:TQ X TF Z H s)(u:Un X.fs [] H H' s.heap h')(TY:HOk X.prog X.w H' h'):TQ X TF Z H' {s with heap:=h',toks:=t'}:=by
 obtain⟨m,⟨o,es,ep,ho,r⟩,_⟩:=id I.loc;obtain⟨sl,hL⟩:=u.any ho I.free 0e0;exact I.step (g':=s.gens) (d':=s.drawn) (ch:=[]) (fun _ z=>nomatch z) (fun b o _ hb _ e n=>u.keep b o e n hb 0e0) (fun b o _ hb _ e n=>u.slot b o e n hb 0e0) (fun b o _ e n=>u.free b o e n 0e0) (fun b o _ e=>u.there b o e 0e0) u.yG u.uU u.yF (fun m' hm=>by
  obtain⟨o',Zl,Ww,Wl,r'⟩:=hm;rw[ho] at Wl;cases Wl;exact⟨_,Zl,Ww,hL,r'⟩) TY I.bare
def TQ.call{d':Drawn}(I:TQ X TF Z H s)(u:Un 2e1 ch H H' s.heap h')(TY:HOk X.prog X.w H' h')(hg:AllBare g')(WU:∀ b∈ch,4e0/\b≠X.env.locals/\(∀ x c,X.env.cells.lookup x=some c->c≠b)/\∀ p∈X.pn++TF,p.1≠b) : TQ X TF Z H' {s with heap:=h',gens:=g',drawn:=d',toks:=t'}:=by
 obtain⟨m,⟨o,es,ep,ho,r⟩,_⟩:=id I.loc;obtain⟨sl,hL⟩:=u.any ho I.free fun z=>(WU _ z).2.1 rfl;exact I.step (ch:=ch) WU (fun b o hL hb hc e n=>u.keep b o e n (fun z=>(Α.mp (I.rZ b z)).elim hL hb) hc) (fun b o _ _ hc e n=>u.any e n hc) (fun b o hc e n=>u.free b o e n hc) (fun b o hc e=>u.there b o e hc) u.yG u.uU u.yF (fun m' hm=>by
  obtain⟨o',Zl,Ww,Wl,r'⟩:=hm;rw[ho] at Wl;cases Wl;exact⟨_,Zl,Ww,hL,r'⟩) TY hg
def TQ.turned{it:Addr}(I:TQ X TF Z H s)(k:∀ b o,b≠it->s.heap.get? b=some o->h'.get? b=some o)(hn:H it=none)(hL:it≠X.env.locals)(h1:it∈X.ex\/X.s₀.heap.objs.size<=it)(h2:∀ x c,X.env.cells.lookup x=some c->c≠it)(h3:∀ p∈X.pn++TF,p.1≠it):TQ X TF Z H {s with heap:=h',toks:=t'}:=by
 have nit:∀ b u,H b=some u->b≠it:=fun b u e z=>by rw[z,hn] at e;cases e
 refine I.step (g':=s.gens) (d':=s.drawn) (ch:=[it]) (fun b hb=>?_) (fun b o _ _ hc e _=>k b o 6e0 e) (fun b o _ _ hc e _=>⟨o.slots,k b o 6e0 e⟩) (fun _ _ _ _ n=>n)
  (fun b o hc e=>⟨o,k b o 6e0 e⟩) (fun _ _ e=>e) (fun _ _ _ e=>e) (fun b ps e=>⟨#[],by rw[e];simp⟩) (fun m hm=>?_) (fun b u e=>?_) I.bare
 ·have e:b=it:=by simpa using hb
  subst e;exact⟨h1,hL,h2,h3⟩
 ·obtain⟨o,es,ep,ho,r⟩:=hm;exact⟨o,es,ep,k _ o (Ne.symm hL) ho,r⟩
 ·refine(I.TY b u e).tF (fun c v hc q=>k c v ?_ q) 3e1 fun _ _ q=>q;rcases hc with z|z
  ·rw[z];exact nit b u e
  ·exact nit c _ z
def TQ.tok(I:TQ X TF Z H s)(t:Nat):TQ X TF Z H {s with toks:=t}:=I.un (h':=s.heap) (t':=t) Un.refl I.TY
def TQ.kept(I:TQ X TF Z H s)(k:∀ b u,s.heap.get? b=some u->h'.get? b=some u):TQ X TF Z H {s with heap:=h',toks:=t'}:=I.un (Un.kept k) (I.TY.kept k)
def TQ.laid{o:HO}(I:TQ X TF Z H s)(k:∀ b u,s.heap.get? b=some u->h'.get? b=some u)(hp:s.heap.objs.size<=a)(new:eC X.prog X.w (TH H a o) h' a o) : TQ X TF Z (TH H a o) {s with heap:=h',toks:=t'}:=I.un (Un.laid k hp (I.TY.fresh hp)) (I.TY.laid k hp new)
def TQ.write{x e:Addr}{o:HO}(I:TQ X TF Z H s)(mu:Mut (H x))(he:e=x\/H e=some (.own x))(k:∀ b u,b≠e->s.heap.get? b=some u->h'.get? b=some u)(YN:∃ u,h'.get? e=some u)(new:eC X.prog X.w (TH H x o) h' x o):TQ X TF Z (TH H x o) {s with heap:=h',toks:=t'}:=I.un (Un.write mu he k YN) (I.TY.write mu he k YN new)
def TQ.qC{XS:List (Addr×Obj)}(I:TQ X TF Z H s)(h:∀ p∈XS,s.heap.get? p.1=some p.2/\H p.1=none/\p.1≠X.env.locals/\p.1∉X.fs/\∀ v,p.2.data≠.cell v):TQ X XS Z H s :=
 ⟨I.ok,I.os,I.bare,I.base,I.loc,I.cell,I.free,I.kK,fun p hp=>(Κ.mp hp).elim (fun z=>I.pin p (List.mem_append_left _ z)) (h p),I.TY,I.len⟩
def BK{N:List Str}(hN:N.Nodup){j:Nat}(a:N[i]?=some x)(b:N[j]?=some x):i=j:=by
 obtain⟨h1,e1⟩:=Λ.mp a;obtain⟨h2,e2⟩:=Λ.mp b;exact(List.getElem_inj hN).mp (e1.trans e2.symm)
theorem r8(I:TQ X TF Z H s)(hN:X.N.Nodup)(hi:X.N[i]?=some x)(hx:Loc X.env.scope x)(r:bQ v u)(h:∀ s',TQ X TF 0e1 H s'->(∃ a,Heap.SameBut a s.heap s'.heap/\(a=X.env.locals\/X.env.cells.lookup x=some a))->Q () s')(hf:X.fn x=true\/X.env.scope.names.lookup x=some .local:=by first|exact .inl rfl|exact .inr rfl|assumption):wpAny M A 9e0 Q E s:=by
 obtain⟨m,hn,hl⟩:=id I.loc;have aaK:(X.env.scope.kind==.class||(X.env.scope.kind==.module&&X.env.locals !=X.env.globals))=false:=by rw[I.ok.kind];rfl
 have hiσ:i < Z.length:=by rw[I.len];exact(Λ.mp hi).1
 have X5:=I.X5;have tracked:∀ {a:Addr} {h':Heap},(∃ o,s.heap.get? a=some o/\H a=none)->Heap.SameBut a s.heap h'->HOk X.prog X.w H h':=fun {a h'} ha hs b ob e=>by
  obtain⟨_,_,XE⟩:=ha;refine(I.TY b ob e).tF (fun c w' hc q=>(hs.2 c ?_).trans q) 3e1 fun _ _ q=>q;rintro rfl;rcases hc with rfl|hc
  ·rw[XE] at e;cases e
  ·rw[XE] at hc;cases hc
 rcases hx with hk|hk
 ·refine wpAny_storeName_local hk hn (fun h' hn' hs=>?_) aaK;obtain⟨oL,_,_,hoL,_⟩:=id hn;refine h _ ⟨I.ok,I.os,I.bare,⟨fun b o e n hb hx=>?_,fun b o e n hb hx=>?_,I.base.free,fun b o e hx=>?_,I.base.yG,I.base.uU,I.base.yF⟩,⟨_,hn',fun j y v' e1 e2 e3=>?_⟩,fun y c e=>?_,I.free,I.kK,fun p hp=>?_,tracked ⟨oL,hoL,I.free⟩ hs,by simpa using I.len⟩ ⟨_,hs,.inl rfl⟩
  ·exact(hs.2 b (Ρ 1e0)).trans 5e0
  ·obtain⟨sl,e1⟩:=I.base.slot b o e n hb hx;exact⟨sl,(hs.2 b (Ρ 1e0)).trans e1⟩
  ·obtain⟨o',e1⟩:=I.base.there b o e hx;exact⟨o',(hs.2 b (Ρ 1e0)).trans e1⟩
  ·by_cases hj:j=i
   ·subst hj;rw[hi] at e1;cases e1;rw[List.getElem?_set_self hiσ] at e2;cases e2;exact⟨u,r,.inl ⟨hk,by simp⟩⟩
   ·rw[List.getElem?_set_ne 4e1] at e2;obtain⟨u',r',q⟩:=hl j y v' e1 e2 e3;refine⟨u',r',?_⟩;rcases q with⟨k,e⟩|⟨k,c,e,z⟩
    ·refine .inl ⟨k,?_⟩;have:y≠x:=fun e=>hj (BK hN e1 (e▸hi));simp[this,e]
    ·exact .inr ⟨k,c,e,z.sameBut hs (X5 y c e)⟩
  ·obtain⟨w',z⟩:=I.cell y c e;exact⟨w',z.sameBut hs (X5 y c e)⟩
  ·obtain⟨e,n,ne,nf,d⟩:=I.pin p hp;exact⟨(hs.2 p.1 ne).trans e,n,ne,nf,d⟩
 ·have hfn:X.fn x=true:=by
   rcases hf with z|z
   ·exact z
   ·rw[z] at hk;cases hk
  obtain⟨c,hc⟩:=I.ok.has x (.inl hk);obtain⟨w',z⟩:=I.cell x c hc;refine wpAny_storeName_cell I.ok.kind hk hc z (fun h' WB hs=>?_);obtain⟨oc,hoc,aaS⟩:=id z;refine h {s with heap:=h'} ⟨I.ok,I.os,I.bare,⟨fun b o e n hb hx=>?_,fun b o e n hb hx=>?_,I.base.free,fun b o e hx=>?_,I.base.yG,I.base.uU,I.base.yF⟩,⟨m,hn.sameBut hs (Ne.symm (X5 x c hc)),fun j y v' e1 e2 e3=>?_⟩,fun y c' e=>?_,I.free,I.kK,fun p hp=>?_,tracked ⟨oc,hoc,I.kK x c hc⟩ hs,by simpa using I.len⟩ ⟨c,hs,.inr hc⟩
  ·exact(hs.2 b 3e0).trans 5e0
  ·obtain⟨sl,e1⟩:=I.base.slot b o e n hb hx;exact⟨sl,(hs.2 b 3e0).trans e1⟩
  ·obtain⟨o',e1⟩:=I.base.there b o e hx;exact⟨o',(hs.2 b 3e0).trans e1⟩
  ·by_cases hj:j=i
   ·subst hj;rw[hi] at e1;cases e1;rw[List.getElem?_set_self hiσ] at e2;cases e2;exact⟨u,r,.inr ⟨.inl hk,c,hc,WB⟩⟩
   ·rw[List.getElem?_set_ne 4e1] at e2;obtain⟨u',r',q⟩:=hl j y v' e1 e2 e3;refine⟨u',r',?_⟩;rcases q with q|⟨k,c',e,z'⟩
    ·exact .inl q
    ·refine .inr ⟨k,c',e,z'.sameBut hs ?_⟩;rintro rfl;exact hj (BK hN e1 (I.ok.inj _ _ _ e hc▸hi))
  ·by_cases hcc:c'=c
   ·subst hcc;exact⟨_,WB⟩
   ·obtain⟨w2,z2⟩:=I.cell y c' e;exact⟨w2,z2.sameBut hs hcc⟩
  ·obtain⟨e,n,ne,nf,d⟩:=I.pin p hp;refine⟨(hs.2 p.1 ?_).trans e,n,ne,nf,d⟩;intro q;rw[q,hoc] at e;have q':oc=p.2:=ϖ e;exact d w' (by rw[<- q'];exact aaS)
theorem xN(I:TQ X TF Z H s)(hN:X.N.Nodup)(hi:X.N[i]?=some x)(hx:Loc X.env.scope x)(r:bQ v u)(h:∀ s',TQ X TF 0e1 H s'->Q () s')(hf:X.fn x=true\/X.env.scope.names.lookup x=some .local:=by first|exact .inl rfl|exact .inr rfl|assumption):wpAny M A 9e0 Q E s :=
 r8 I hN hi hx r (fun s' I' _=>h s' I') hf
def TQ.PM(I:TQ X TF Z H s)(ho:s'.os=s.os)(u:Un 2e1 ch H H' s.heap s'.heap)(TY:HOk X.prog X.w H' s'.heap)(hg:AllBare s'.gens)(WU:∀ b∈ch,4e0/\b≠X.env.locals/\(∀ x c,X.env.cells.lookup x=some c->c≠b)/\∀ p∈X.pn++TF,p.1≠b):TQ X TF Z H' s':=by
 obtain⟨h',g',d',t',o'⟩:=s';have e:o'=s.os:=ho;subst e;exact I.call (g':=g') (t':=t') (d':=d') u TY hg WU
end
end
mutual
example:=[Addr×Obj,model X.prog X.w,eval e X.env,TP X TF Z Q,SP X TF D]
abbrev XK:=Value->Option Addr->Hp->Prop
abbrev St:=List (Option V)
variable{Z:St}
abbrev VK:=V->Hp->Prop
abbrev TE:=St->Hp->VK->Prop
variable{t te:TE}
abbrev TT:=St->Hp->(Bool->Hp->Prop)->Prop
abbrev TA:=St->Hp->(List V->Hp->Prop)->Prop
structure Ends where
 nx:St->Hp->Prop
 rt:VK
 bk:St->Hp->Prop:=fun _ _=>False
 ct:St->Hp->Prop:=fun _ _=>False
variable{D:Ends}
abbrev TS:=Ends->St->Hp->Prop
variable{tb:TS}
inductive EP(X:Cx)(TF:List 0e0)(Z:St)(Q:VK)(u:Value)(s':Shared):Prop
 | mk (v:V) (H':Hp) (I:TQ X TF Z H' s') (r:bQ v u) (q:Q v H'):EP X TF Z Q u s'
def TP(X:Cx)(TF:List 0e0)(Z:St)(Q:Bool->Hp->Prop)(b:Bool)(s':Shared):Prop:=∃ H',TQ X TF Z H' s'/\Q b H'
inductive AP(X:Cx)(TF:List 0e0)(Z:St)(Q:List V->Hp->Prop)(us:List Value)(s':Shared):Prop
 | mk (vs:List V) (H':Hp) (I:TQ X TF Z H' s') (r:TU vs us) (q:Q vs H'):AP X TF Z Q us s'
def SP(X:Cx)(TF:List 0e0)(D:Ends)(f:Flow)(s':Shared):Prop :=
 match f with
 | .next=>∃ Z' H',TQ X TF Z' H' s'/\D.nx Z' H'
 | .brk=>∃ Z' H',TQ X TF Z' H' s'/\D.bk Z' H'
 | .cont=>∃ Z' H',TQ X TF Z' H' s'/\D.ct Z' H'
 | .ret u=>∃ v Z' H',TQ X TF Z' H' s'/\bQ v u/\D.rt v H'
def PE(X:Cx)(e:Expr)(t:TE):Prop :=
 ∀(TF:List 0e0) (s:Shared) (Z:St) (H:Hp) (Q:VK),TQ X TF Z H s->t Z H Q->wpAny 1e0 X.A 2e0 (EP X TF Z Q) X.xe s
def PT(X:Cx)(e:Expr)(t:TT):Prop :=
 ∀(TF:List 0e0) (s:Shared) (Z:St) (H:Hp) (Q:Bool->Hp->Prop),TQ X TF Z H s->t Z H Q->wpAny 1e0 X.A (isTrue e X.env 2e0) 3e0 X.xe s
def PW(X:Cx)(e:Expr)(t:TT):Prop :=
 ∀(whole:Sem Value) (TF:List 0e0) (s:Shared) (Z:St) (H:Hp) (Q:Bool->Hp->Prop),TQ X TF Z H s->t Z H Q->wpAny 1e0 X.A (isTrue e X.env whole) 3e0 X.xe s
def PW.pt{t:TT}(h:PW X e t):PT X e t:=h _
def PA(X:Cx)(es:List Expr)(t:TA):Prop :=
 ∀(pos:Pos) (TF:List 0e0) (s:Shared) (Z:St) (H:Hp) (Q:List V->Hp->Prop),TQ X TF Z H s->t Z H Q->wpAny 1e0 X.A (spliced (backTo pos (starEach es X.env))) (AP X TF Z Q) X.xe s
def PS(X:Cx)(st:Stmt)(t:TS):Prop :=
 ∀(TF:List 0e0) (s:Shared) (Z:St) (H:Hp) (D:Ends),TQ X TF Z H s->t D Z H->wpAny 1e0 X.A (exec st X.env) 4e0 X.xe s
def Va(X:Cx)(st:List Stmt)(t:TS):Prop :=
 ∀(TF:List 0e0) (s:Shared) (Z:St) (H:Hp) (D:Ends),TQ X TF Z H s->t D Z H->wpAny 1e0 X.A (execs st X.env) 4e0 X.xe s
def thn{α:Type}{t:Sem α}{Q Q':α->Shared->Prop}(h:wpAny M A t Q E s)(hQ:∀ a s,Q a s->Q' a s):wpAny M A t Q' E s:=Β5 h hQ fun _ _ x=>x
end
section
mutual
example:=[model X.prog X.w,x==("__debug__":Str),.Name x pos,(by decide),(thn (ha TF s Z H _ I h) fun v s1 ⟨x,H1,I1,r1,q1⟩=>?_),ha TF s Z H _ I h,(by rw[I.ok.glob];exact I.mod.glob.keeps I.bk),(thn (ha TF s Z H Q I h) fun c s1 e=>?_),a::b::rest,.BoolOp .And 8e0 pos,.BoolOp .Or 8e0 pos,.BoolOp .And (b::rest) pos,.BoolOp .Or (b::rest) pos,.Compare a [op] [b] pos,.UnaryOp .Not a pos,h TF s Z H _ I hw,h TF s Z H Q I hw]
def nB(i:Nat):TE:=fun Z H Q=>∃ v,Z[i]?=some (some v)/\Q v H
def tC(v:V):TE:=fun _ H Q=>Q v H
theorem lH(hN:X.N[i]?=some x)(hv:Vis X.env.scope x)(hd:1e0=false:=by decide)(WC:(x==("__classdict__":Str))=false:=by decide):PE X 2e0 (nB i):=by
 intro TF s Z H Q I h;obtain⟨v,e,h⟩:=h;obtain⟨m,hn,hl⟩:=I.loc;obtain⟨u,r,l⟩:=hl i x v hN e hv;have fin:EP X TF Z Q u s:=⟨v,H,I,r,h⟩;rcases l with⟨hk,hm⟩|⟨hk,c,hc,VO⟩
 ·exact wpAny_Name (wpAny_loadName_local I.ok.kind hk hn hm fin) hd
 ·rcases hk with hk|hk
  ·exact wpAny_Name (wpAny_loadName_cell I.ok.kind hk hc VO fin) hd
  ·exact wpAny_Name (wpAny_loadName_free I.ok.kind hk hc VO fin WC) hd
def aB{i j pos}:PE X (.Constant (.int i) j pos) (tC (.int i)):=fun _ _ _ H _ I h=>wpAny_Constant_int ⟨.int i,H,I.tok _,⟨_,rfl⟩,h⟩
def zE{b j pos}:PE X (.Constant (.bool b) j pos) (tC (.bl b)):=fun _ _ _ H _ I h=>Constant_bool ⟨.bl b,H,I,rfl,h⟩
def cN{j pos}:PE X (.Constant .none j pos) (tC .TK):=fun _ _ _ H _ I h=>Constant_none ⟨.TK,H,I,rfl,h⟩
def aE{x j pos}:PE X (.Constant (.str x) j pos) (tC (.str x)):=fun _ _ _ H _ I h=>Calls.Constant_str ⟨.str x,H,I.tok _,⟨_,rfl⟩,h⟩
def Gl(X:Cx)(x:Str):Prop:=X.env.kindOf x=some .globalImplicit
theorem tK{Q:q0A}(I:TQ X TF Z H s)(hg:Gl X x)(hm:X.mg x=some u)(h:Q u s)(hd:1e0=false:=by decide):wpAny 0e0 X.A (eval 2e0 X.env) Q E s :=
 Calls.Name_function_global I.ok.kind hg (Calls.loadGlobal_global 6e0 hm h) hd
theorem C4{Q:q0A}(I:TQ X TF Z H s)(hg:Gl X x)(hm:X.mg x=none)(hv:bootBuiltins x=some u)(h:Q u s)(hn:x≠"__name__":=by decide)(hd:1e0=false:=by decide):wpAny 0e0 X.A (eval 2e0 X.env) Q E s:=by
 obtain⟨mb,h1,h2⟩:=I.mod.blt;exact Calls.Name_function_global I.ok.kind hg (Calls.loadGlobal_builtin 6e0 hm (by rw[I.ok.blt];exact h1.keeps I.bk) ((h2 x hn).trans hv) h) hd
theorem pY(hg:Gl X x)(hm:X.mg x=some u)(r:bQ v u)(hd:1e0=false:=by decide):PE X 2e0 (tC v) :=
 fun _ _ _ H _ I h=>tK I hg hm ⟨v,H,I,r,h⟩ hd
variable{a b:Expr}{ta tb:TE}
def PC(X:Cx)(op:CmpOp)(a b:Expr)(t:TE):Prop :=
 ∀(TF:List (Addr×Obj)) (s:Shared) (Z:St) (H:Hp) (Q:VK),TQ X TF Z H s->t Z H Q ->
  wpAny 0e0 X.A (eval a X.env) (fun v s₁=>wpAny 0e0 X.A (eval b X.env) (fun u s₂=>wpAny 0e0 X.A (compareOp op v u) (EP X TF Z Q) X.xe s₂) X.xe s₁) X.xe s
def nobehind(b:Expr)(h:op≠.In)(h2:op≠.NotIn):behindInMarks op b=false:=by
 have e1:(op==CmpOp.In)=false:=by cases op<;>first|rfl|exact absurd rfl h
 have e2:(op==CmpOp.NotIn)=false:=by cases op<;>first|rfl|exact absurd rfl h2
 cases b<;>simp[behindInMarks,e1,e2]
def tB(t:TE):TT:=fun Z H Q=>t Z H fun x H1=>∃ c,x=.bl c/\Q c H1
theorem OX(h:PC X op a b t)(h1:behindInMarks op b=false:=by first|exact nobehind _ 3e0 3e0|rfl):PE X 3e1 t:=fun TF s Z H Q I hw=>wpAny_Compare1 6e1 h1
theorem O9(h:PC X op a b t)(h1:behindInMarks op b=false:=by first|exact nobehind _ 3e0 3e0|rfl):PT X 3e1 (tB t):=by
 intro TF s Z H Q I hw;refine wpAny_isTrue_Compare1 (thn 5e1 fun v s1 h1=>thn h1 fun u s2 h2=>thn h2 fun c s3 ⟨x,H1,I1,r1,q1⟩=>?_) h1;obtain⟨d,rfl,q⟩:=q1;cases r1;exact Ε2 ⟨H1,I1,q⟩
def AF(h:PE X e t)(he:∀ whole,isTrue e X.env whole=(do let v <- whole;standAt e.pos;holding [v] (truthy v)):=by intro _;rfl):PT X e (tB t):=by
 intro TF s Z H Q I hw;refine isTrue_plain (thn 5e1 fun v s1 ⟨x,H1,I1,r1,q1⟩=>?_) (he _);obtain⟨d,rfl,q⟩:=q1;cases r1;exact Ε2 ⟨H1,I1,q⟩
variable{tA tB':TT}{rest:List Expr}
def Rv(t u:TT):TT:=fun Z H Q=>t Z H fun c H1=>if c=true then u Z H1 Q else Q false H1
def To(t u:TT):TT:=fun Z H Q=>t Z H fun c H1=>if c=true then Q true H1 else u Z H1 Q
def Ry(t:TT):TT:=fun Z H Q=>t Z H fun c H1=>Q (!c) H1
def e9(ha:PT X a tA):PW X (.BoolOp .And [a] pos) tA:=by
 intro wh TF s Z H Q I h;refine isTrue_and 7e0;cases c with
 | true=>exact isTrue_and_nil e
 | false=>exact e
def Ja(ha:PT X a tA):PW X (.BoolOp .Or [a] pos) tA:=by
 intro wh TF s Z H Q I h;refine isTrue_or 7e0;cases c with
 | false=>exact isTrue_or_nil e
 | true=>exact e
def fT(ha:PT X a tA)(hb:PW X 1e1 tB'):PW X 9e0 (Rv tA tB'):=by
 intro wh TF s Z H Q I h;refine isTrue_and (thn 5e0 fun c s1 ⟨H1,I1,q1⟩=>?_);cases c with
 | true=>exact hb wh TF s1 Z H1 Q I1 q1
 | false=>exact⟨H1,I1,q1⟩
def Mw(ha:PT X a tA)(hb:PW X 2e1 tB'):PW X 0e1 (To tA tB'):=by
 intro wh TF s Z H Q I h;refine isTrue_or (thn 5e0 fun c s1 ⟨H1,I1,q1⟩=>?_);cases c with
 | true=>exact⟨H1,I1,q1⟩
 | false=>exact hb wh TF s1 Z H1 Q I1 q1
def Pa(ha:PT X a tA):PT X 4e1 (Ry tA):=by
 intro TF s Z H Q I h;exact isTrue_not (ha TF s Z H (fun c H1=>Q (!c) H1) I h)
def JE(ta tb:TE):TE:=fun Z H Q=>ta Z H fun x H1=>∃ c,x=.bl c/\if c=true then tb Z H1 Q else Q (.bl false) H1
def Pm(ta tb:TE):TE:=fun Z H Q=>ta Z H fun x H1=>∃ c,x=.bl c/\if c=true then Q (.bl true) H1 else tb Z H1 Q
def JI(ta:TE):TE:=fun Z H Q=>ta Z H fun x H1=>∃ c,x=.bl c/\Q (.bl (!c)) H1
def mU{op}(h:PE X a t):PE X (.BoolOp op [a] pos) t:=fun TF s Z H Q I hw=>BoolOp_one 6e1
def OW(ha:PE X a ta)(hb:PE X 1e1 tb):PE X 9e0 (JE ta tb):=by
 intro TF s Z H Q I h;refine BoolOp_and 4e0;obtain⟨c,rfl,q1⟩:=q1;cases r1;refine Ε2 ?_;cases c with
 | true=>exact hb TF s1 Z H1 Q I1 q1
 | false=>exact⟨.bl false,H1,I1,rfl,q1⟩
def Mv(ha:PE X a ta)(hb:PE X 2e1 tb):PE X 0e1 (Pm ta tb):=by
 intro TF s Z H Q I h;refine BoolOp_or 4e0;obtain⟨c,rfl,q1⟩:=q1;cases r1;refine Ε2 ?_;cases c with
 | false=>exact hb TF s1 Z H1 Q I1 q1
 | true=>exact⟨.bl true,H1,I1,rfl,q1⟩
def OY(ha:PE X a ta):PE X 4e1 (JI ta):=by
 intro TF s Z H Q I h;refine UnaryOp_ 4e0;obtain⟨c,rfl,q1⟩:=q1;cases r1;exact not_of (Ε2 ⟨.bl (!c),H1,I1,rfl,q1⟩)
def Tj(t:TT)(ta tb:TE):TE:=fun Z H Q=>t Z H fun c H1=>if c=true then ta Z H1 Q else tb Z H1 Q
def pZ(hc:PT X c tA)(ha:PE X a ta)(hb:PE X b tb):PE X (.IfExp c a b pos) (Tj tA ta tb):=by
 intro TF s Z H Q I h;refine wpAny_IfExp (thn (hc TF s Z H _ I h) fun d s1 ⟨H1,I1,q1⟩=>?_);cases d with
 | true=>exact ha TF s1 Z H1 Q I1 q1
 | false=>exact hb TF s1 Z H1 Q I1 q1
end
end
mutual
example:=[]
def fY(K:q0B)(H:Hp)(a:Addr)(xs:List V):Prop :=
 Rd H a (.lst xs) \/
  ∃(o:Obj) (TR:Array Value) (n:Nat),K.lookup a=some o/\o.cls=.type "list"/\o.dict=none/\o.data=.seq TR n/\TR.size<=sizeLine/\TU xs TR.toList
def iR(K:q0B)(H:Hp)(a:Addr)(xs:List V):Prop :=
 Rd H a (.tup xs) \/
  ∃(o:Obj) (TR:Array Value) (n:Nat),K.lookup a=some o/\o.cls=.type "tuple"/\o.data=.seq TR n/\TR.size<=sizeLine/\TU xs TR.toList
def Sr:Value->Option V
 | .none=>some .TK
 | .bool b=>some (.bl b)
 | .int i _=>some (.int i)
 | .str x _=>some (.str x)
 | .bytes b _=>some (.byt b)
 | .float b _=>some (.flt b)
 | .ref a=>some (.ref a)
 | .type n=>some (.ty n)
 | _=>none
def bQ.abs{x:V}(r:bQ x u):Sr u=some x:=by
 cases x with
 | TK=>cases r;rfl
 | bl _=>cases r;rfl
 | int _=>obtain⟨t,rfl⟩:=r;rfl
 | str _=>obtain⟨t,rfl⟩:=r;rfl
 | byt _=>obtain⟨t,rfl⟩:=r;rfl
 | flt _=>obtain⟨t,rfl⟩:=r;rfl
 | ref _=>cases r;rfl
 | ty _=>cases r;rfl
def bQ.inj{x y:V}(r:bQ x u)(q:bQ y u):x=y:=ϖ (r.abs.symm.trans q.abs)
def TU.inj{ys:List V}(h:TU xs us)(g:TU ys us):xs=ys:=by
 induction h generalizing ys with
 | nil=>cases g;rfl
 | cons r t ih =>
  cases g with
  | cons r' t'=>rw[r.inj r',ih t']
end
section
mutual
example:=[]
variable{ys:List V}
def fY.of(h:H a=some (.lst xs)):fY K H a xs:=.inl (.inl h)
def iR.of(h:H a=some (.tup xs)):iR K H a xs:=.inl (.inl h)
theorem TQ.list(I:TQ X TF Z H s)(h:fY X.K H a xs):∃ TR:List Value,TU xs TR/\PlainL s.heap a TR.toArray/\xs.length<=sizeLine:=by
 rcases h with h|⟨o,TR,n,hk,hc,hd,hs,hz,r⟩
 ·obtain⟨z,TR,n,r,e⟩:=h.ok I.TY;exact⟨TR,r,⟨_,n,e,rfl,rfl,rfl⟩,z⟩
 ·refine⟨TR.toList,r,⟨o,n,I.kIn a o hk,hc,hd,by simpa using hs⟩,?_⟩;have e:=r.length;simp only[Γ7] at e;omega
theorem TQ.tuple(I:TQ X TF Z H s)(h:iR X.K H a xs):∃ TR:List Value,TU xs TR/\IsTup s.heap a TR.toArray/\xs.length<=sizeLine:=by
 rcases h with h|⟨o,TR,n,hk,hc,hs,hz,r⟩
 ·obtain⟨z,TR,r,p⟩:=h.ok I.TY;exact⟨TR,r,p,z⟩
 ·refine⟨TR.toList,r,⟨o,I.kIn a o hk,hc,n,by simpa using hs⟩,?_⟩;have e:=r.length;simp only[Γ7] at e;omega
def TQ.Ip(I:TQ X TF Z H s)(h:fY X.K H a xs)(h':fY X.K H a ys):xs=ys:=by
 obtain⟨TR,r,⟨o,n,e,_,_,d⟩,_⟩:=I.list h;obtain⟨its',r',⟨o',n',e',_,_,d'⟩,_⟩:=I.list h';rw[e] at e';cases e';rw[d] at d';injection d' with d1 _
 have:TR=its':=by simpa using congrArg Array.toList d1
 subst this;exact r.inj r'
def TQ.GH(I:TQ X TF Z H s)(h:iR X.K H a xs)(h':iR X.K H a ys):xs=ys:=by
 obtain⟨TR,r,⟨o,e,_,n,d⟩,_⟩:=I.tuple h;obtain⟨its',r',⟨o',e',_,n',d'⟩,_⟩:=I.tuple h';rw[e] at e';cases e';rw[d] at d';injection d' with d1 _
 have:TR=its':=by simpa using congrArg Array.toList d1
 subst this;exact r.inj r'
end
end
mutual
example:=[]
abbrev Cx.yH(X:Cx)(E:q0A):Cx:={X with xe:=E}
abbrev Cx.nox(X:Cx):Cx:=X.yH fun _ _=>False
def Cx.Ok.yH(ok:X.Ok)(E:q0A):(X.yH E).Ok :=
 ⟨ok.mod,ok.kind,ok.glob,ok.blt,ok.above,ok.inj,ok.has,ok.cab,ok.hd,ok.frames,ok.stk,ok.exf,ok.bs,ok.bsz,ok.BL,ok.Fj,ok.pG,ok.frf⟩
def Cx.Ok.nC(ok:(X.yH E).Ok):X.Ok :=
 ⟨ok.mod,ok.kind,ok.glob,ok.blt,ok.above,ok.inj,ok.has,ok.cab,ok.hd,ok.frames,ok.stk,ok.exf,ok.bs,ok.bsz,ok.BL,ok.Fj,ok.pG,ok.frf⟩
end
section
mutual
example:=[X.yH E]
def TQ.yH(I:TQ X TF Z H s)(E:q0A):TQ 0e0 TF Z H s:=⟨I.ok.yH E,I.os,I.bare,I.base,I.loc,I.cell,I.free,I.kK,I.pin,I.TY,I.len⟩
def TQ.nC(I:TQ 0e0 TF Z H s):TQ X TF Z H s:=⟨I.ok.nC,I.os,I.bare,I.base,I.loc,I.cell,I.free,I.kK,I.pin,I.TY,I.len⟩
def SP.nC{f:Flow}(h:SP 0e0 TF D f s'):SP X TF D f s':=by
 cases f with
 | next=>obtain⟨Z',H',I,q⟩:=h;exact⟨Z',H',I.nC,q⟩
 | brk=>obtain⟨Z',H',I,q⟩:=h;exact⟨Z',H',I.nC,q⟩
 | cont=>obtain⟨Z',H',I,q⟩:=h;exact⟨Z',H',I.nC,q⟩
 | ret u=>obtain⟨v,Z',H',I,r,q⟩:=h;exact⟨v,Z',H',I.nC,r,q⟩
def Va.nox{st:List Stmt}{t:TS}(h:Va X.nox st t):Va X st t:=fun TF s Z H D I hw =>
 Β5 (h TF s Z H D (I.yH _) hw) (fun _ _ q=>q.nC) fun _ _ z=>False.elim z
end
end
section
mutual
example:=[he TF s Z H _ I h]
variable{st:Stmt}{rest:List Stmt}{t u:TS}
def CA:TS:=fun D Z H=>D.nx Z H
def DB(t u:TS):TS:=fun D Z H=>t {D with nx:=u D} Z H
def LB:Va X [] CA:=fun _ _ Z H _ I h=>wpAny_execs_nil ⟨Z,H,I,h⟩
def aI(h1:PS X st t)(h2:Va X rest u):Va X (st::rest) (DB t u):=by
 intro TF s Z H D I h;refine wpAny_execs_cons (thn (h1 TF s Z H {D with nx:=u D} I h) fun f s1 q=>?_);cases f with
 | next =>
  obtain⟨Z',H',I',q⟩:=q;exact h2 TF s1 Z' H' D I' q
 | ret v=>exact q
 | brk=>exact q
 | cont=>exact q
def aJ(h1:PS X st t):Va X [st] t:=by
 intro TF s Z H D I h;refine wpAny_execs_cons (thn (h1 TF s Z H D I h) fun f s1 q=>?_);cases f with
 | next=>exact wpAny_execs_nil q
 | ret v=>exact q
 | brk=>exact q
 | cont=>exact q
def MF:TS:=fun D Z H=>D.ct Z H
def B6:PS X (.Continue pos) MF:=fun _ _ Z H _ I h=>wpAny_Continue ⟨Z,H,I,h⟩
def TQ.quiet(I:TQ X TF Z H s):interactive X.env=false:=by simp[interactive,I.ok.kind]
def JG(te:TE):TS:=fun D Z H=>te Z H fun _ H1=>D.nx Z H1
def aQ(he:PE X e te)(hs:swapsWith e none pos.line X.env=pure false:=by rfl):PS X (.Expr e pos) (JG te):=by
 intro TF s Z H D I h;exact wpAny_Expr_any (thn 0e0 fun v s1 ⟨x,H1,I1,r1,q1⟩=>⟨Z,H1,I1,q1⟩) I.quiet hs
def LZ(te:TE):TS:=fun D Z H=>te Z H D.rt
def aK(he:PE X e te):PS X (.Return (some e) pos) (LZ te):=by
 intro TF s Z H D I h;exact wpAny_Return_some (thn 0e0 fun v s1 ⟨x,H1,I1,r1,q1⟩=>⟨x,Z,H1,I1,r1,q1⟩)
def MI:TS:=fun D _ H=>D.rt .TK H
def tW:PS X (.Return none pos) MI:=fun _ _ Z H _ I h=>wpAny_Return_none ⟨.TK,Z,H,I,rfl,h⟩
def AV(c:TT)(t u:TS):TS:=fun D Z H=>c Z H fun b H1=>if b=true then t D Z H1 else u D Z H1
def gE{a b:List Stmt}{tc:TT}(hc:PT X c tc)(ha:Va X a t)(hb:Va X b u):PS X (.If c a b pos) (AV tc t u):=by
 intro TF s Z H D I h;refine wpAny_If (thn (hc TF s Z H _ I h) fun d s1 ⟨H1,I1,q1⟩=>?_);cases d with
 | true=>exact ha TF s1 Z H1 D I1 q1
 | false=>exact hb TF s1 Z H1 D I1 q1
end
end
mutual
example:=[model X.prog X.w,Addr×Obj,St->Hp->Prop]
abbrev TG:=V->St->Hp->2e0->Prop
variable{g:TG}
abbrev TGs:=List V->St->Hp->2e0->Prop
def PG(X:Cx)(target:Expr)(t:TG):Prop :=
 ∀(TF:List 1e0) (s:Shared) (Z:St) (H:Hp) (v:V) (u:Value) (Q:St->Hp->Prop),TQ X TF Z H s->bQ v u->t v Z H Q ->
  wpAny 0e0 X.A (assign target X.env u) (fun _ s'=>∃ Z' H',TQ X TF Z' H' s'/\Q Z' H') X.xe s
def PGs(X:Cx)(ts:List Expr)(t:TGs):Prop :=
 ∀(TF:List 1e0) (s:Shared) (Z:St) (H:Hp) (vs:List V) (us:List Value) (Q:St->Hp->Prop),TQ X TF Z H s->TU vs us->t vs Z H Q ->
  wpAny 0e0 X.A (assignInOrder ((assignEach ts X.env).map (·.2)) us) (fun _ s'=>∃ Z' H',TQ X TF Z' H' s'/\Q Z' H') X.xe s
abbrev TSet:=V->V->V->Hp->(Hp->Prop)->Prop
def PSet(X:Cx)(t:TSet):Prop :=
 ∀(TF:List 1e0) (s:Shared) (Z:St) (H:Hp) (o i v:V) (ov iv u:Value) (Q:Hp->Prop),TQ X TF Z H s->bQ o ov->bQ i iv->bQ v u->t o i v H Q ->
  wpAny 0e0 X.A (setItem ov iv u) (fun _ s'=>∃ H',TQ X TF Z H' s'/\Q H') X.xe s
abbrev TIp:=V->V->Hp->VK->Prop
def PIp(X:Cx)(op:Operator)(t:TIp):Prop :=
 ∀(TF:List 1e0) (s:Shared) (Z:St) (H:Hp) (x y:V) (v u:Value) (Q:VK),TQ X TF Z H s->bQ x v->bQ y u->t x y H Q ->
  wpAny 0e0 X.A (inplaceOp op v u) (EP X TF Z Q) X.xe s
end
section
mutual
example:=[model X.prog X.w,he TF s Z H _ I h,hi TF s1 Z H1 _ I1 q1,.Subscript o i pos,ho TF s Z H _ I h,.Name x pos']
def jV(i:Nat):TG:=fun v Z H Q=>Q (Z.set i (some v)) H
theorem tU(hN:X.N.Nodup)(hi:X.N[i]?=some x)(hx:Loc X.env.scope x)(hf:X.fn x=true\/X.env.scope.names.lookup x=some .local:=by first|exact .inl rfl|exact .inr rfl|assumption):PG X (.Name x pos) (jV i):=by
 intro TF s Z H v u Q I r h;exact wpAny_assign_Name (xN I hN hi hx r (fun s' I'=>⟨_,H,I',h⟩) hf)
def KR:TGs:=fun vs Z H Q=>vs=[]/\Q Z H
def Ec(t:TG)(u:TGs):TGs:=fun vs Z H Q=>∃ v r,vs=v::r/\t v Z H fun Z' H'=>u r Z' H' Q
def tV:PGs X [] KR:=by
 intro TF s Z H vs us Q I r h;obtain⟨e,h⟩:=h;subst e;cases r;exact assignInOrder_nil ⟨Z,H,I,h⟩
def fR{t:TG}{u:TGs}(h1:PG X e t)(h2:PGs X es u)(hs:(assignEach (e::es) X.env).map (·.2)=assign e X.env::(assignEach es X.env).map (·.2):=by rfl):PGs X (e::es) (Ec t u):=by
 intro TF s Z H vs us Q I r h;obtain⟨v,vr,e1,h⟩:=h;subst e1;cases r with
 | cons r rr =>
  rw[hs];refine assignInOrder_cons (thn (h1 TF s Z H _ _ _ I r h) fun _ s1 ⟨σ1,H1,I1,q1⟩=>?_);exact h2 TF s1 σ1 H1 _ _ Q I1 rr q1
def KU(K:q0B)(n:Nat)(t:TGs):TG:=fun v Z H Q=>∃ a xs,v=.ref a/\iR K H a xs/\xs.length=n/\t xs Z H Q
def IY{t:TGs}(hc:X.calm=true)(h:PGs X es t)(hn:(assignEach es X.env).length=n:=by rfl)(Ud:(assignEach es X.env).findIdx? (·.1)=none:=by rfl):PG X (.Tuple es k pos) (KU X.K n t):=by
 intro TF s Z H v u Q I r hw;obtain⟨a,xs,e1,hq,hl,hw⟩:=hw;subst e1;cases r;obtain⟨TR,rv,ht,hz⟩:=I.tuple hq;refine assign_Tuple_tuple (I.ok.hd hc) ht (by simp[hn,<- hl,rv.length]) Ud fun h' hx=>?_;have I1:TQ X TF Z H {s with heap:=h'}:=I.kept (t':=s.toks) fun b o e=>hx b o (Ρ (Μ e)) e;exact h TF _ Z H xs _ Q I1 (by simpa using rv) hw
def QN(to ti:TE)(t:TSet):TG:=fun v Z H Q=>to Z H fun o H1=>ti Z H1 fun i H2=>t o i v H2 fun H3=>Q Z H3
def rV{o i:Expr}{to ti:TE}{t:TSet}(ho:PE X o to)(hi:PE X i ti)(hs:PSet X t)
    (ha:∀ v,assign 3e0 X.env v=(do
      let ov <- holding [v] (eval o X.env);let iv <- holding [v,ov] (eval i X.env)
      standAt pos
      holding [v,ov,iv] (setItem ov iv v)
      release [v,ov,iv] []):=by intro _;rfl):PG X 3e0 (QN to ti t):=by
  intro TF s Z H v u Q I r h;rw[ha];refine Β (Β0 (thn 4e0 fun ov s1 ⟨x,H1,I1,r1,q1⟩=>?_));refine Β (Β0 (thn 2e0 fun iv s2 ⟨y,H2,I2,r2,q2⟩=>?_));refine Β (wpAny_standAt (Β (Β0 (thn (hs TF s2 Z H2 x y v ov iv u _ I2 r1 r2 r q2) fun _ s3 ⟨H3,I3,q3⟩=>?_))));exact wpAny_release ⟨Z,H3,I3,q3⟩
def GF(te:TE)(g:TG):TS:=fun D Z H=>te Z H fun x H1=>g x Z H1 D.nx
def lJ(he:PE X e te)(hg:PG X tg g)(hs:swapsWithSole [tg] e pos.line X.env=pure false:=by rfl)(hw:swappedStores [tg] e X.env=pure none:=by rfl)(h1:(assignEach [tg] X.env).map (·.2)=[assign tg X.env]:=by rfl):PS X (.Assign [tg] e pos) (GF te g):=by
 intro TF s Z H D I h;refine wpAny_Assign_stores (thn 1e0 fun v s1 ⟨x,H1,I1,r1,q1⟩=>?_) hs hw;rw[h1];exact thn (hg TF s1 Z H1 x v _ I1 r1 q1) fun _ s2 q=>q
theorem AE{pos':Pos}(hN:X.N.Nodup)(hi:X.N[i]?=some x)(hx:Loc X.env.scope x)(he:PE X e te)(hs:swapsWith e (some 5e0) pos.line X.env=pure false:=by rfl)(hf:X.fn x=true\/X.env.scope.names.lookup x=some .local:=by first|exact .inl rfl|exact .inr rfl|assumption) : PS X (.Assign [.Name x pos'] e pos) (GF te (jV i)):=by
 intro TF s Z H D I h;refine wpAny_Assign_Name (thn 1e0 fun v s1 ⟨y,H1,I1,r1,q1⟩=>?_) hs;exact xN I1 hN hi hx r1 (fun s2 I2=>⟨_,H1,I2,q1⟩) hf
def Rw(i:Nat)(te:TE)(ti:TIp):TS:=fun D Z H=>∃ x,Z[i]?=some (some x)/\te Z H fun y H1=>ti x y H1 fun z H2=>D.nx (Z.set i (some z)) H2
theorem O0{op:Operator}{ti:TIp}{pos':Pos}(hN:X.N.Nodup)(hi:X.N[i]?=some x)(hx:Loc X.env.scope x)(he:PE X e te)(ho:PIp X op ti)(hf:X.fn x=true\/X.env.scope.names.lookup x=some .local:=by first|exact .inl rfl|exact .inr rfl|assumption) : PS X (.AugAssign 5e0 op e pos) (Rw i te ti):=by
 intro TF s Z H D I h;obtain⟨v,e1,h⟩:=h;obtain⟨m,hn,hl⟩:=I.loc;have vis:Vis X.env.scope x:=by rcases hx with k|k;exact .inl k;exact .inr (.inl k)
 obtain⟨u,r,l⟩:=hl i x v hi e1 vis;refine wpAny_AugAssign_Name ?_;have go:wpAny 0e0 X.A (eval e X.env) (fun w s₂=>wpAny 0e0 X.A (inplaceOp op u w) (fun r s₃=>wpAny 0e0 X.A (storeName X.env x r) (fun _=>SP X TF D .next) X.xe s₃) X.xe s₂) X.xe s:=by
  refine thn 1e0 fun w s1 ⟨y,H1,I1,r1,q1⟩=>?_;refine thn (ho TF s1 Z H1 v y u w _ I1 r r1 q1) fun z s2 ⟨zv,H2,I2,r2,q2⟩=>?_;exact xN I2 hN hi hx r2 (fun s3 I3=>⟨_,H2,I3,q2⟩) hf
 rcases l with⟨hk,hm⟩|⟨hk,c,hc,VO⟩
 ·exact wpAny_loadName_local I.ok.kind hk hn hm go
 ·rcases hk with hk|hk
  ·exact wpAny_loadName_cell I.ok.kind hk hc VO go
  ·rcases hx with k|k
   ·have:X.env.scope.names.lookup x=some .free:=hk;rw[k] at this;cases this
   ·have:X.env.scope.names.lookup x=some .free:=hk;rw[k] at this;cases this
def ME(to ti te:TE)(VI:V->V->Hp->VK->Prop)(YH:TIp)(VL:TSet):TS:=fun D Z H=>to Z H fun o H1=>ti Z H1 fun i H2=>VI o i H2 fun x H3=>te Z H3 fun y H4=>YH x y H4 fun z H5=>VL o i z H5 fun H6=>D.nx Z H6
def PGet(X:Cx)(t:V->V->Hp->VK->Prop):Prop :=
 ∀(TF:List (Addr×Obj)) (s:Shared) (Z:St) (H:Hp) (o i:V) (ov iv:Value) (Q:VK),TQ X TF Z H s->bQ o ov->bQ i iv->t o i H Q ->
  wpAny 0e0 X.A (getItem ov iv) (EP X TF Z Q) X.xe s
def Lx{o i:Expr}{to ti:TE}{VI:V->V->Hp->VK->Prop}{YH:TIp}{VL:TSet}{op:Operator}{WO:Pos}(ho:PE X o to)(hi:PE X i ti)(hg:PGet X VI)(he:PE X e te)(hp:PIp X op YH)(hs:PSet X VL)
    (ha:∀ ov iv new,augStore i ov iv new=(do holding [new,ov,iv] (setItem ov iv new);release [new,ov,iv] [];pure .next):=by intros;rfl):PS X (.AugAssign (.Subscript o i WO) op e pos) (ME to ti te VI YH VL):=by
  intro TF s Z H D I h;refine wpAny_AugAssign_SubscriptAny (thn 4e0 fun ov s1 ⟨x1,H1,I1,r1,q1⟩=>?_) ha;refine thn 2e0 fun iv s2 ⟨x2,H2,I2,r2,q2⟩=>?_;refine thn (hg TF s2 Z H2 x1 x2 ov iv _ I2 r1 r2 q2) fun old s3 ⟨x3,H3,I3,r3,q3⟩=>?_;refine thn (he TF s3 Z H3 _ I3 q3) fun v s4 ⟨x4,H4,I4,r4,q4⟩=>?_;refine thn (hp TF s4 Z H4 x3 x4 old v _ I4 r3 r4 q4) fun new s5 ⟨x5,H5,I5,r5,q5⟩=>?_;exact thn (hs TF s5 Z H5 x1 x2 x5 ov iv new _ I5 r1 r2 r5 q5) fun _ s6 ⟨H6,I6,q6⟩=>⟨Z,H6,I6,q6⟩
def Tv(f:Int->Int->Int):TIp:=fun x y H Q=>∃ i j,x=.int i/\y=.int j/\Q (.int (f i j)) H
def OC:PIp X .Add (Tv fun i j=>i+j):=by
 intro TF s Z H x y v u Q I r1 r2 h;obtain⟨i,j,e1,e2,q⟩:=h;subst e1;subst e2;obtain⟨t,rfl⟩:=r1;obtain⟨t',rfl⟩:=r2;exact iadd_int ⟨.int _,H,I.tok _,⟨_,rfl⟩,q⟩
end
end
section
noncomputable def DC(c:TT)(tb:TS):TS:=fun D Z H=>∃ W:Nat->St->Hp->Prop,(∃ m,W m Z H)/\∀ m Z H,W m Z H ->
 c Z H fun b H1=>if b=true then ∃ N:St->Hp->Prop,(∀ Z' H',N Z' H'->∃ m',m' < m/\W m' Z' H')/\tb {D with nx:=N,ct:=N,bk:=D.nx} Z H1 else D.nx Z H1
def qD{tc:TT}(hp:PassesOwn (model X.prog X.w) X.A X.env X.xe)(hc:PT X c tc)(hb:Va X body tb):PS X (.While c body [] pos) (DC tc tb):=by
 intro TF s Z H D I h;obtain⟨W,⟨m0,w0⟩,turn⟩:=h;refine wpAny_While (codeAny_whileLoop (fun n s'=>∃ Z' H',TQ X TF Z' H' s'/\W n Z' H') ?_ m0 ⟨Z,H,I,w0⟩);rintro n s1 ⟨σ1,H1,I1,w1⟩;refine Ε8 hp (thn (hc TF s1 σ1 H1 _ I1 (turn n σ1 H1 w1)) fun b s2 ⟨H2,I2,q2⟩=>?_);cases b with
 | true =>
  obtain⟨N,hN,q2⟩:=q2;rw[if_pos rfl];refine Ε8 hp (thn (hb TF s2 σ1 H2 _ I2 q2) fun f s3 q3=>?_);cases f with
  | next =>
   obtain⟨σ3,H3,I3,n3⟩:=q3;obtain⟨m',hm,w3⟩:=hN σ3 H3 n3;exact⟨m',hm,σ3,H3,I3,w3⟩
  | cont =>
   obtain⟨σ3,H3,I3,n3⟩:=q3;obtain⟨m',hm,w3⟩:=hN σ3 H3 n3;exact⟨m',hm,σ3,H3,I3,w3⟩
  | brk=>exact q3
  | ret v=>exact q3
 | false =>
  rw[if_neg Ω];exact wpAny_execs_nil ⟨σ1,H2,I2,q2⟩
end
mutual
example:=[(by simp),Addr×Obj,.ref it,I.ok.hd hc,model P w,(fun b o hb e=>eb b o hb e),(by decide),(fun b o hb e=>(sb.2 b hb).trans e),letOwnedTupleGo tg (.ref it) u,(by simpa using hu),(by rw[z];exact hb),model X.prog X.w,(by simp;omega)]
structure It where
 go:Nat->Hp->Prop
 VM:Nat->Hp->V->Hp->Prop
 stop:Nat->Hp->Prop
def l7(X:Cx)(TF:List 1e0)(H:Hp)(b:Addr):Prop :=
 H b=none/\b≠X.env.locals/\b∉X.fs/\(b∈X.ex\/X.s₀.heap.objs.size<=b)/\(∀ x c,X.env.cells.lookup x=some c->c≠b)/\∀ p∈X.pn++TF,p.1≠b
def TQ.HR{H':Hp}(I:TQ X TF Z H s)(hb:s.heap.objs.size<=b)(hn:H' b=none):l7 X TF H' b:=by
 refine⟨hn,Nat.ne_of_gt (Φ I.lt hb),I.Q6 hb,.inr (ϒ I.sz hb),fun x c e z=>?_,fun p hp z=>?_⟩
 ·obtain⟨v,q⟩:=I.cell x c e;exact absurd (Φ q.lt 0e1) (ϝ _)
 ·exact absurd (Φ (Μ (I.pin p hp).1) 0e1) (ϝ _)
structure Turn(P:Program)(w:World)(K:q0B)(tg:Expr)(J:It)(fp:List Addr)(it:Addr)(tn:Nat->Heap->Prop):Prop where
 mem:it∈fp
 obj:∀ i h,tn i h->∀ b∈fp,∃ o,h.get? b=some o/\∀ v,o.data≠.cell v
 keep:∀ i h h',tn i h->(∀ b∈fp,∀ o,h.get? b=some o->h'.get? b=some o)->tn i h'
 item:∀(X:Cx),X.prog=P->X.w=w->X.K=K->X.calm=true->∀(i:Nat) (TF:List 1e0) (s:Shared) (Z:St) (H:Hp) (E:q0A),TQ X TF Z H s->(∀ b∈fp,l7 X TF H b)->tn i s.heap->J.go i H ->
  wpAny 4e0 X.A (pyNext 2e0) (fun r s1=>∃ u,r=some u /\
   wpAny 4e0 X.A 8e0 (fun _ s2=>∃ x H',TQ X TF Z H' s2/\bQ x u/\J.VM i H x H'/\tn (i+1) s2.heap/\∀ b∈fp,H' b=none) E s1) E s
 done:∀(X:Cx),X.prog=P->X.w=w->X.K=K->X.calm=true->∀(i:Nat) (TF:List 1e0) (s:Shared) (Z:St) (H:Hp) (E:q0A),TQ X TF Z H s->(∀ b∈fp,l7 X TF H b)->tn i s.heap->J.stop i H ->
  wpAny 4e0 X.A (pyNext 2e0) (fun r s1=>r=none/\TQ X TF Z H s1) E s
 self:∀(A:Around) (i:Nat) (s:Shared) (Q:q0A) (E:q0A),tn i s.heap->Q 2e0 s->wpAny 4e0 A (pyIter 2e0) Q E s
abbrev TI:=St->Hp->(It->Hp->Prop)->Prop
def PIE(X:Cx)(TF:List 1e0)(Z:St)(tg:Expr)(R:It->Hp->Prop)(ZT:Value)(s2:Shared):Prop :=
 ∃(it:Addr) (fp:List Addr) (tn:Nat->Heap->Prop) (J:It) (H':Hp),ZT=.ref it/\TQ X TF Z H' s2/\Turn X.prog X.w X.K tg J fp it tn/\tn 0 s2.heap/\(∀ b∈fp,l7 X TF H' b)/\R J H'
def PI(X:Cx)(tg iter:Expr)(wi:TI):Prop :=
 ∀(TF:List 1e0) (s:Shared) (Z:St) (H:Hp) (R:It->Hp->Prop),TQ X TF Z H s->wi Z H R ->
  wpAny 1e1 X.A (eval iter X.env) (fun v s1=>wpAny 1e1 X.A (pyIter v) (PIE X TF Z tg R) X.xe s1) X.xe s
def Ed{it:Addr}{n:String}{vs:Array Value}(ho:s.heap.get? it=some o)(hc:o.cls=.type n)(hd:o.data=.fields vs)(hn:["enumerate","zip","dict_itemiterator","dict_reverseitemiterator","odict_iterator","itertools.zip_longest","itertools.pairwise"].contains n=false)(hQ:Q () s):wpAny M A 8e0 Q E s:=by
  unfold letOwnedTupleGo;cases tg<;>first
    | exact Θ hQ
    | (cases u<;>first
        | exact Θ hQ
        | (refine Β (wpAny_load ho ?_)
           rw[hc,hd];show wpAny M A (if (["enumerate","zip","dict_itemiterator","dict_reverseitemiterator","odict_iterator","itertools.zip_longest","itertools.pairwise"].contains n&&vs[0]?==some (rawInt _))=true then _ else _) Q E s;rw[if_neg (by intro h;rw[hn,Bool.false_and] at h;cases h)];exact Θ hQ))
def VX(K:q0B)(a:Addr):It :=
 ⟨fun i H=>∃ xs x,fY K H a xs/\xs[i]?=some x,fun i H x H'=>H'=H/\∀ xs,fY K H a xs->xs[i]?=some x,fun i H=>∃ xs,fY K H a xs/\xs.length<=i⟩
def Itt(K:q0B)(a:Addr):It :=
 ⟨fun i H=>∃ xs x,iR K H a xs/\xs[i]?=some x,fun i H x H'=>H'=H/\∀ xs,iR K H a xs->xs[i]?=some x,fun i H=>∃ xs,iR K H a xs/\xs.length<=i⟩
def Wd(lo:Int)(n:Nat):It:=⟨fun i _=>i < n,fun i H x H'=>H'=H/\x=.int (lo+i),fun i _=>n<=i⟩
theorem GJ(a it:Addr):Turn P w K tg (VX K a) [it] it (fun i h=>h.IsListIter it a i) where
 mem:=by simp
 obj:=fun i h st b hb=>by
  have e:b=it:=by simpa using hb
  subst e;obtain⟨o,e,c,d⟩:=st;exact⟨o,e,fun v z=>by rw[d] at z;cases z⟩
 keep:=fun i h h' st k=>st.at fun o e=>k it 0e0 o e
 item:=by
  intro X hP hw hK hc i TF s Z H E I hf st hg;subst hP hw hK;obtain⟨xs,x,hq,hx⟩:=hg;obtain⟨TR,rv,p,hz⟩:=I.list hq;obtain⟨u,hu,ru⟩:=rv.get hx;obtain⟨f0,f1,f2,f3,f4,f5⟩:=hf it 0e0;refine wpAny_pyNext_list_item st p.isList (x:=u) 9e0 fun h' Ut sb=>?_;have I1:TQ X TF Z H {s with heap:=h'}:=I.turned (t':=s.toks) 7e0 f0 f1 f3 f4 f5;obtain⟨o,e,c,d⟩:=id Ut;exact⟨u,rfl,Ed (s:={s with heap:=h'}) e c d 6e0 ⟨x,H,I1,ru,⟨rfl,fun ys hy=>by rw[I.Ip hy hq];exact hx⟩,Ut,fun b hb=>(hf b hb).1⟩⟩
 done:=by
  intro X hP hw hK hc i TF s Z H E I hf st hg;subst hP hw hK;obtain⟨xs,hq,hx⟩:=hg;obtain⟨TR,rv,p,hz⟩:=I.list hq;obtain⟨f0,f1,f2,f3,f4,f5⟩:=hf it 0e0;have hl:=rv.length;exact wpAny_pyNext_list_end 3e0 st p.isList 2e1 fun h' eb=>⟨rfl,I.turned (t':=s.toks) 5e0 f0 f1 f3 f4 f5⟩
 self:=fun _ _ _ _ _ st h=>wpAny_pyIter_listiter st h
theorem DF(a it:Addr):Turn P w K tg (Itt K a) [it] it (fun i h=>h.IsTupleIter it a i) where
 mem:=by simp
 obj:=fun i h st b hb=>by
  have e:b=it:=by simpa using hb
  subst e;obtain⟨o,e,c,d⟩:=st;exact⟨o,e,fun v z=>by rw[d] at z;cases z⟩
 keep:=fun i h h' st k=>st.at fun o e=>k it 0e0 o e
 item:=by
  intro X hP hw hK hc i TF s Z H E I hf st hg;subst hP hw hK;obtain⟨xs,x,hq,hx⟩:=hg;obtain⟨TR,rv,p,hz⟩:=I.tuple hq;obtain⟨u,hu,ru⟩:=rv.get hx;obtain⟨f0,f1,f2,f3,f4,f5⟩:=hf it 0e0;refine wpAny_pyNext_tuple_item st (show s.heap.IsTuple a TR.toArray from p) (x:=u) 9e0 fun h' Ut sb=>?_;have I1:TQ X TF Z H {s with heap:=h'}:=I.turned (t':=s.toks) 7e0 f0 f1 f3 f4 f5;obtain⟨o,e,c,d⟩:=id Ut;exact⟨u,rfl,Ed (s:={s with heap:=h'}) e c d 6e0 ⟨x,H,I1,ru,⟨rfl,fun ys hy=>by rw[I.GH hy hq];exact hx⟩,Ut,fun b hb=>(hf b hb).1⟩⟩
 done:=by
  intro X hP hw hK hc i TF s Z H E I hf st hg;subst hP hw hK;obtain⟨xs,hq,hx⟩:=hg;obtain⟨TR,rv,p,hz⟩:=I.tuple hq;obtain⟨f0,f1,f2,f3,f4,f5⟩:=hf it 0e0;have hl:=rv.length;exact wpAny_pyNext_tuple_end 3e0 st (show s.heap.IsTuple a TR.toArray from p) 2e1 fun h' eb=>⟨rfl,I.turned (t':=s.toks) 5e0 f0 f1 f3 f4 f5⟩
 self:=fun _ _ _ _ _ st h=>wpAny_pyIter_tupleiter st h
theorem DE(it:Addr)(lo:Int)(n:Nat):Turn P w K tg (Wd lo n) [it] it (fun i h=>IsRangeIter h it (lo+(i:Nat) * 1) ((n:Int) - (i:Nat)) 1) where
 mem:=by simp
 obj:=fun i h st b hb=>by
  have e:b=it:=by simpa using hb
  subst e;exact⟨_,st,fun v z=>by
   have z':Data.fields _=Data.cell v:=z;cases z'⟩
 keep:=fun i h h' st k=>k it 0e0 _ st
 item:=by
  intro X hP hw hK hc i TF s Z H E I hf st hg;subst hP hw hK;obtain⟨f0,f1,f2,f3,f4,f5⟩:=hf it 0e0;have W:=Walks.range (prog:=X.prog) (w:=X.w) 3e0 it lo 1 n;refine W.item i s _ _ hg st fun v h' tk hv Ut kk=>?_;obtain⟨t,rfl⟩:=hv;have I1:TQ X TF Z H {s with heap:=h',toks:=tk}:=I.turned (fun b o hb e=>kk b o (by simpa using hb) e) f0 f1 f3 f4 f5;refine⟨_,rfl,Ed (s:={s with heap:=h',toks:=tk}) (n:="range_iterator") Ut rfl rfl 6e0 ⟨.int (lo+i),H,I1,⟨t,?_⟩,⟨rfl,rfl⟩,Ut,fun b hb=>(hf b hb).1⟩⟩;rw[Int.mul_one]
 done:=by
  intro X hP hw hK hc i TF s Z H E I hf st hg;subst hP hw hK;obtain⟨f0,f1,f2,f3,f4,f5⟩:=hf it 0e0;exact wpAny_pyNext_range_end 3e0 st (by have:n<=i:=hg;omega) fun h' eb=>⟨rfl,I.turned (t':=s.toks) 5e0 f0 f1 f3 f4 f5⟩
 self:=fun _ _ _ _ _ st h=>wpAny_pyIter_rangeiter st h
end
section
mutual
example:=[I1.TY.fresh (Ι _),2 ^ 62,Ϝ _ (Ϝ _ (lE hb e)),hl TF s Z H _ I h,model X.prog X.w,Addr×Obj]
def u7(K:q0B)(tl:TE):TI:=fun Z H R=>tl Z H fun x H1=>∃ a,x=.ref a/\(∃ xs,fY K H1 a xs)/\R (VX K a) H1
def OA(K:q0B)(tl:TE):TI:=fun Z H R=>tl Z H fun x H1=>∃ a,x=.ref a/\(∃ xs,iR K H1 a xs)/\R (Itt K a) H1
def j7{l:Expr}{tl:TE}(hl:PE X l tl):PI X tg l (u7 X.K tl):=by
 intro TF s Z H R I h;refine thn 3e0 fun v s1 ⟨x,H1,I1,r1,q1⟩=>?_;obtain⟨a,e,⟨xs,hq⟩,q⟩:=q1;subst e;cases r1;obtain⟨TR,rv,p,hz⟩:=I1.list hq;refine wpAny_pyIter_list p.isList ?_;refine⟨s1.heap.objs.size,[s1.heap.objs.size],_,_,H1,rfl,I1.kept (t':=s1.toks) fun b o e=>Η _ e,GJ a _,⟨_,Τ _ rfl,rfl,rfl⟩,fun b hb=>?_,q⟩;have e:b=s1.heap.objs.size:=by simpa using hb
 subst e;exact I1.HR (Ι _) 0e0
def IZ{l:Expr}{tl:TE}(hl:PE X l tl):PI X tg l (OA X.K tl):=by
 intro TF s Z H R I h;refine thn 3e0 fun v s1 ⟨x,H1,I1,r1,q1⟩=>?_;obtain⟨a,e,⟨xs,hq⟩,q⟩:=q1;subst e;cases r1;obtain⟨TR,rv,p,hz⟩:=I1.tuple hq;refine wpAny_pyIter_tuple (show s1.heap.IsTuple a TR.toArray from p) ?_;refine⟨s1.heap.objs.size,[s1.heap.objs.size],_,_,H1,rfl,I1.kept (t':=s1.toks) fun b o e=>Η _ e,DF a _,⟨_,Τ _ rfl,rfl,rfl⟩,fun b hb=>?_,q⟩;have e:b=s1.heap.objs.size:=by simpa using hb
 subst e;exact I1.HR (Ι _) 0e0
theorem Jb{R:It->Hp->Prop}{lo hi:Int}{t u v:Tok}{tk:Nat}(I:TQ X TF Z H s)(h1:-1e0<=lo)(h2:lo < 2 ^ 62)(h3:-1e0<=hi)(h4:hi < 2 ^ 62)(q:R (Wd lo (hi - lo).toNat) H):wpAny 4e0 X.A (pyIter (.ref s.heap.objs.size)) (PIE X TF Z tg R) E {s with heap:=s.heap.push {cls:=.type "range",data:=.fields #[.int lo t,.int hi u,.int 1 v]},toks:=tk}:=by
 refine wpAny_pyIter_range (IsRange.new ..) (small_one h1 h2 h3 h4) ?_;have I1:TQ X TF Z H {s with heap:=s.heap.push {cls:=.type "range",data:=.fields #[.int lo t,.int hi u,.int 1 v]},toks:=tk}:=I.kept fun b o e=>Η _ e;refine⟨(s.heap.push {cls:=.type "range",data:=.fields #[.int lo t,.int hi u,.int 1 v]}).objs.size,[(s.heap.push {cls:=.type "range",data:=.fields #[.int lo t,.int hi u,.int 1 v]}).objs.size],_,_,H,rfl,
  I1.kept (t':=tk) fun b o e=>Η _ e,DE _ lo (hi - lo).toNat,?_,fun b hb=>?_,q⟩
 ·have e1:lo+((0:Nat):Int) * 1=lo:=by simp
  have e2:(((hi - lo).toNat:Nat):Int) - ((0:Nat):Int)=Builtin.Range.rangeSize lo hi 1:=by rw[rangeSize_one];split<;>omega
  show IsRangeIter _ _ (lo+((0:Nat):Int) * 1) ((((hi - lo).toNat:Nat):Int) - ((0:Nat):Int)) 1;rw[e1,e2];exact Τ _ rfl
 ·have e:b=(s.heap.push {cls:=.type "range",data:=.fields #[.int lo t,.int hi u,.int 1 v]}).objs.size:=by simpa using hb
  subst e;exact I1.HR (Ι _) 0e0
def Bw(ta:TA):TI:=fun Z H R=>ta Z H fun vs H1=>∃ j:Int,vs=[.int j]/\-1e0<=j/\j < 2 ^ 62/\R (Wd 0 j.toNat) H1
theorem jE{a:Expr}{ta:TA}{p:Pos}(hg:Gl X "range")(hm:X.mg "range"=none)(ha:PA X [a] ta)(hs:starEach [a] X.env=[(false,eval a X.env)]:=by rfl):PI X tg (.Call (.Name "range" p) [a] [] pos) (Bw ta):=by
 intro TF s Z H R I h;refine Call_ (C4 I hg hm boot_range (PyProof.Rows.callWith_type1 (thn (ha pos TF s Z H _ I h) fun us s1 ⟨vs,H1,I1,r1,q1⟩=>?_) hs rfl));obtain⟨j,e,q1,q2,q⟩:=q1;subst e;cases r1 with
 | cons r rr =>
  cases rr;obtain⟨t,rfl⟩:=r;exact call_range_1 (Jb I1 (by omega) (by omega) q1 q2 (by simpa using q))
def JH(wi:TI)(g:TG)(tb:TS):TS:=fun D Z H=>wi Z H fun J H1=>∃ W:Nat->Nat->St->Hp->Prop,(∃ m,W 0 m Z H1)/\∀ i m Z H,W i m Z H ->
 (J.stop i H/\D.nx Z H)\/(J.go i H/\∃ N:St->Hp->Prop,(∀ Z' H',N Z' H'->∃ m',m' < m/\W (i+1) m' Z' H')/\∀ x H',J.VM i H x H'->g x Z H' fun σ2 H2=>tb {D with nx:=N,ct:=N,bk:=D.nx} σ2 H2)
def wM(fp:List Addr)(h:Heap):List 5e0:=fp.filterMap fun b=>(h.get? b).map fun o=>(b,o)
def lE(hb:b∈fp)(e:h.get? b=some o):(b,o)∈wM fp h:=List.mem_filterMap.mpr ⟨b,hb,by rw[e];rfl⟩
def FU{p:Addr×Obj}(hp:p∈wM fp h):p.1∈fp/\h.get? p.1=some p.2:=by
 obtain⟨b,hb,e⟩:=List.mem_filterMap.mp hp;cases q:h.get? b with
 | none=>rw[q] at e;cases e
 | some o =>
  rw[q] at e;have e':(b,o)=p:=ϖ e;subst e';exact⟨hb,q⟩
def TQ.pinned(I:TQ X TF Z H s)(hf:∀ b∈fp,l7 X TF H b)(ho:∀ b∈fp,∃ o,s.heap.get? b=some o/\∀ v,o.data≠.cell v):TQ X (TF++wM fp s.heap) Z H s :=
 I.qC fun p hp=>(Κ.mp hp).elim (fun z=>I.pin p (Ϝ _ z)) fun z=>by
  obtain⟨hb,e⟩:=FU z;obtain⟨f0,f1,f2,_⟩:=hf p.1 hb;obtain⟨o,e',d⟩:=ho p.1 hb;rw[e] at e';cases e';exact⟨e,f0,f1,f2,d⟩
def TQ.xS{pl:List 5e0}(I:TQ X (TF++pl) Z H s):TQ X TF Z H s:=I.qC fun p hp=>I.pin p (Ϝ _ (List.mem_append_left _ hp))
def o9{iter:Expr}{wi:TI}(hp:PassesOwn 4e0 X.A X.env X.xe)(hc:X.calm=true)(hi:PI X tg iter wi)(hg:PG X tg g)(hb:Va X body tb)(hs:∀ x,foldedSetIterable iter X.env x=pure x:=by intro _;rfl):PS X (.For tg iter body [] pos) (JH wi g tb):=by
 intro TF s Z H D I h;refine wpAny_For (thn (hi TF s Z H _ I h) fun v s1 h1=>thn h1 fun ZT s2 h2=>?_) hs;obtain⟨it,fp,tn,J,H2,e,I2,T,VG,f2,W,⟨m0,w0⟩,turn⟩:=h2;subst e;have VH:∀ {H':Hp},(∀ b∈fp,H' b=none)->∀ b∈fp,l7 X TF H' b:=fun hn b hb=>⟨hn b hb,(f2 b hb).2⟩;refine codeAny_forLoop_any (fun n s'=>∃ i Z' H',TQ X TF Z' H' s'/\tn i s'.heap/\(∀ b∈fp,H' b=none)/\W i n Z' H') ?_ m0 ⟨0,Z,H2,I2,VG,fun b hb=>(f2 b hb).1,w0⟩;rintro n s3 ⟨i,σ3,H3,I3,Y1,fr3,w3⟩;rcases turn i n σ3 H3 w3 with⟨stop,qn⟩|⟨go,N,hN,step⟩
 ·refine Ε8 hp (thn (T.done X rfl rfl rfl hc i TF s3 σ3 H3 X.xe I3 (VH fr3) Y1 stop) fun r s4 ⟨hr,I4⟩=>?_);subst hr;exact wpAny_execs_nil ⟨σ3,H3,I4,qn⟩
 ·refine Ε8 hp (thn (T.item X rfl rfl rfl hc i TF s3 σ3 H3 X.xe I3 (VH fr3) Y1 go) fun r s4 ⟨u,hr,h4⟩=>?_);subst hr;refine Ε8 hp (thn h4 fun _ s5 ⟨x,H5,I5,r5,y5,st5,Zq⟩=>?_);have I5':=I5.pinned (VH Zq) (T.obj _ _ st5);refine Ε8 hp (thn (hg _ s5 σ3 H5 x u _ I5' r5 (step x H5 y5)) fun _ s6 ⟨σ6,H6,I6,q6⟩=>?_);refine Ε8 hp (thn (hb _ s6 σ6 H6 _ I6 q6) fun f s7 q7=>?_);have again:∀ {σ7:St} {H7:Hp},TQ X (TF++wM fp s5.heap) σ7 H7 s7->N σ7 H7->∃ m,m < n/\∃ i Z' H',TQ X TF Z' H' s7/\tn i s7.heap/\(∀ b∈fp,H' b=none)/\W i m Z' H':=fun {σ7 H7} I7 n7=>by
   obtain⟨m',hm,w7⟩:=hN σ7 H7 n7;refine⟨m',hm,i+1,σ7,H7,I7.xS,T.keep _ _ _ st5 fun b hb o e=>(I7.pin (b,o) 2e0).1,fun b hb=>?_,w7⟩;obtain⟨o,e,d⟩:=T.obj _ _ st5 b hb;exact(I7.pin (b,o) 2e0).2.1
  cases f with
  | next=>obtain⟨σ7,H7,I7,n7⟩:=q7;exact again I7 n7
  | cont=>obtain⟨σ7,H7,I7,n7⟩:=q7;exact again I7 n7
  | brk=>obtain⟨σ7,H7,I7,q7⟩:=q7;exact⟨σ7,H7,I7.xS,q7⟩
  | ret v=>obtain⟨x7,σ7,H7,I7,r7,q7⟩:=q7;exact⟨x7,σ7,H7,I7.xS,r7,q7⟩
end
end
mutual
example:=[i+1,model X.prog X.w,Addr×Obj,EP X TF Z Q]
theorem Br(Pv:Nat->St->Hp->Prop)(h0:Pv 0 Z H)(hl:∀ i Z H,i<=xs.length->Pv i Z H->fY K H a xs)(hs:∀ i x Z H,xs[i]?=some x->Pv i Z H->g x Z H fun σ2 H2=>tb {D with nx:=Pv 0e0,ct:=Pv 0e0,bk:=D.nx} σ2 H2)(hd:∀ Z H,Pv xs.length Z H->D.nx Z H) : ∃ W:Nat->Nat->St->Hp->Prop,(∃ m,W 0 m Z H)/\∀ i m Z H,W i m Z H -> ((VX K a).stop i H/\D.nx Z H)\/((VX K a).go i H/\∃ N:St->Hp->Prop,(∀ Z' H',N Z' H'->∃ m',m' < m/\W 0e0 m' Z' H')/\∀ x H',(VX K a).VM i H x H'->g x Z H' fun σ2 H2=>tb {D with nx:=N,ct:=N,bk:=D.nx} σ2 H2):=by
 refine⟨fun i m Z H=>m=xs.length - i/\i<=xs.length/\Pv i Z H,⟨xs.length,by simp,Α4 _,h0⟩,?_⟩;rintro i m Z H ⟨rfl,hi,p⟩;have q:=hl i Z H hi p;by_cases Uu:i < xs.length
 ·refine .inr ⟨⟨xs,xs[i],q,by simp[Uu]⟩,Pv 0e0,fun Z' H' p'=>⟨xs.length - 0e0,by omega,rfl,Uu,p'⟩,fun x H' y=>?_⟩;obtain⟨e,y⟩:=y;subst e;exact hs i x Z _ (y xs q) p
 ·have e:i=xs.length:=by omega
  subst e;exact .inl ⟨⟨xs,q,Ι _⟩,hd Z H p⟩
theorem kJ{lo:Int}(Pv:Nat->St->Hp->Prop)(h0:Pv 0 Z H)(hs:∀ i Z H,i < n->Pv i Z H->g (.int (lo+i)) Z H fun σ2 H2=>tb {D with nx:=Pv 0e0,ct:=Pv 0e0,bk:=D.nx} σ2 H2)(hd:∀ Z H,Pv n Z H->D.nx Z H) : ∃ W:Nat->Nat->St->Hp->Prop,(∃ m,W 0 m Z H)/\∀ i m Z H,W i m Z H -> ((Wd lo n).stop i H/\D.nx Z H)\/((Wd lo n).go i H/\∃ N:St->Hp->Prop,(∀ Z' H',N Z' H'->∃ m',m' < m/\W 0e0 m' Z' H')/\∀ x H',(Wd lo n).VM i H x H'->g x Z H' fun σ2 H2=>tb {D with nx:=N,ct:=N,bk:=D.nx} σ2 H2):=by
 refine⟨fun i m Z H=>m=n - i/\i<=n/\Pv i Z H,⟨n,by simp,Α4 _,h0⟩,?_⟩;rintro i m Z H ⟨rfl,hi,p⟩;by_cases Uu:i < n
 ·refine .inr ⟨Uu,Pv 0e0,fun Z' H' p'=>⟨n - 0e0,by omega,rfl,Uu,p'⟩,fun x H' y=>?_⟩;obtain⟨e,y⟩:=y;subst e y;exact hs i Z _ Uu p
 ·have e:i=n:=by omega
  subst e;exact .inl ⟨Ι _,hd Z H p⟩
abbrev R2:=V->V->Hp->VK->Prop
variable{r:R2}
def jT(X:Cx)(f:Value->Value->Sem Value)(r:R2):Prop :=
 ∀(TF:List 2e0) (s:Shared) (Z:St) (H:Hp) (x y:V) (v u:Value) (Q:VK),TQ X TF Z H s->bQ x v->bQ y u->r x y H Q ->
  wpAny 1e0 X.A (f v u) 3e0 X.xe s
def Sq(X:Cx)(f:Value->Sem Value)(r:V->Hp->VK->Prop):Prop :=
 ∀(TF:List 2e0) (s:Shared) (Z:St) (H:Hp) (x:V) (v:Value) (Q:VK),TQ X TF Z H s->bQ x v->r x H Q ->
  wpAny 1e0 X.A (f v) 3e0 X.xe s
def gA(X:Cx)(f:Value)(r:List V->Hp->VK->Prop):Prop :=
 ∀(TF:List 2e0) (s:Shared) (Z:St) (H:Hp) (xs:List V) (us:List Value) (Q:VK),TQ X TF Z H s->TU xs us->r xs H Q ->
  wpAny 1e0 X.A (call f us) 3e0 X.xe s
def So(X:Cx)(r:V->Hp->(Bool->Hp->Prop)->Prop):Prop :=
 ∀(TF:List 2e0) (s:Shared) (Z:St) (H:Hp) (x:V) (v:Value) (Q:Bool->Hp->Prop),TQ X TF Z H s->bQ x v->r x H Q ->
  wpAny 1e0 X.A (truthy v) (TP X TF Z Q) X.xe s
def DA(r:R2)(ta tb:TE):TE:=fun Z H Q=>ta Z H fun x H1=>tb Z H1 fun y H2=>r x y H2 Q
def Tr(r:V->Hp->VK->Prop)(ta:TE):TE:=fun Z H Q=>ta Z H fun x H1=>r x H1 Q
def rI(C:Int->Int->Prop)(g:Int->Int->V):R2:=fun x y H Q=>∃ i j,x=.int i/\y=.int j/\C i j/\Q (g i j) H
def LI(g:Int->Int->V):R2:=fun x y H Q=>∃ i j,x=.int i/\y=.int j/\Q (g i j) H
def rU(g:Int->V):V->Hp->VK->Prop:=fun x H Q=>∃ i,x=.int i/\Q (g i) H
end
section
mutual
example:=[g i j,model X.prog X.w,f (.int i t) (.int j u),intBits_le_64 h1 h2,ha TF s Z H _ I h]
variable{a b:Expr}{ta tb tc:TE}
def MT(ha:PE X a ta)(hb:PE X b tb){R:V->V->Hp->Prop}(I:TQ X TF Z H s)(h:ta Z H fun x H1=>tb Z H1 fun y H2=>R x y H2){Q:q0A}(hf:∀ v u s2 x y H2,TQ X TF Z H2 s2->bQ x v->bQ y u->R x y H2->wpAny 1e0 X.A (f v u) Q X.xe s2) : wpAny 1e0 X.A (eval a X.env) (fun v s₁=>wpAny 1e0 X.A (eval b X.env) (fun u s₂=>wpAny 1e0 X.A (f v u) Q X.xe s₂) X.xe s₁) X.xe s:=by
 refine thn 4e0 fun v s1 ⟨x,H1,I1,r1,q1⟩=>?_;refine thn (hb TF s1 Z H1 _ I1 q1) fun u s2 ⟨y,H2,I2,r2,q2⟩=>?_;exact hf v u s2 x y H2 I2 r1 r2 q2
def bG{op:Operator}(ho:jT X (binaryOp op) r)(ha:PE X a ta)(hb:PE X b tb):PE X (.BinOp a op b pos) (DA r ta tb):=by
 intro TF s Z H Q I h;exact wpAny_BinOp (MT ha hb I h fun v u s2 x y H2 I2 rx ry q=>ho TF s2 Z H2 x y v u Q I2 rx ry q)
def gD{op:UnaryOp}{r:V->Hp->VK->Prop}(ho:Sq X (unaryOp op) r)(ha:PE X a ta):PE X (.UnaryOp op a pos) (Tr r ta):=by
 intro TF s Z H Q I h;exact UnaryOp_ (thn 4e0 fun v s1 ⟨x,H1,I1,r1,q1⟩=>ho TF s1 Z H1 x v Q I1 r1 q1)
def Sh{C:Int->Int->Prop}{g:Int->Int->Int}(rule:∀(i j:Int) (t u:Tok) (s:Shared) (Q:q0A) (E:q0A),C i j->Q (.int 0e0 s.toks) {s with toks:=s.toks+1}->wpAny 1e0 X.A 2e0 Q E s) : jT X f (rI C fun i j=>.int 0e0):=by
 intro TF s Z H x y v u Q I rx ry h;obtain⟨i,j,rfl,rfl,hc,q⟩:=h;obtain⟨t,rfl⟩:=rx;obtain⟨t',rfl⟩:=ry;exact rule i j t t' s _ _ hc ⟨.int 0e0,H,I.tok _,⟨_,rfl⟩,q⟩
def Q7{g:Int->Int->Int}(rule:∀(i j:Int) (t u:Tok) (s:Shared) (Q:q0A) (E:q0A),Q (.int 0e0 s.toks) {s with toks:=s.toks+1}->wpAny 1e0 X.A 2e0 Q E s) : jT X f (LI fun i j=>.int 0e0):=by
 intro TF s Z H x y v u Q I rx ry h;obtain⟨i,j,rfl,rfl,q⟩:=h;obtain⟨t,rfl⟩:=rx;obtain⟨t',rfl⟩:=ry;exact rule i j t t' s _ _ ⟨.int 0e0,H,I.tok _,⟨_,rfl⟩,q⟩
def OR{g:Int->Int->Bool}(rule:∀(i j:Int) (t u:Tok) (s:Shared) (Q:q0A) (E:q0A),Q (.bool 0e0) s->wpAny 1e0 X.A 2e0 Q E s) : jT X f (LI fun i j=>.bl 0e0):=by
 intro TF s Z H x y v u Q I rx ry h;obtain⟨i,j,rfl,rfl,q⟩:=h;obtain⟨t,rfl⟩:=rx;obtain⟨t',rfl⟩:=ry;exact rule i j t t' s _ _ ⟨.bl 0e0,H,I,rfl,q⟩
def CPow(i j:Int):Prop:=0<=j/\j<=1000000/\i.natAbs < 2 ^ 64
def CMul(i j:Int):Prop:=(-(2 ^ 64) < i/\i < 2 ^ 64)\/(-(2 ^ 64) < j/\j < 2 ^ 64)
def CMul.ok{i j:Int}(h:CMul i j):IntMulOk i j:=by
 rcases h with⟨h1,h2⟩|⟨h1,h2⟩
 ·exact .of_left 3e0
 ·exact .of_right 3e0
def OS:jT X (binaryOp .Add) (LI fun i j=>.int (i+j)):=Q7 fun _ _ _ _ _ _ _ q=>add_int q
def jL:jT X (binaryOp .Sub) (LI fun i j=>.int (i - j)):=Q7 fun _ _ _ _ _ _ _ q=>sub_int q
def oY:jT X (binaryOp .Mult) (rI CMul fun i j=>.int (i * j)):=Sh fun _ _ _ _ _ _ _ hc q=>mul_int q hc.ok
theorem wH:jT X (binaryOp .Mod) (rI (fun _ j=>0 < j) fun i j=>.int (i % j)):=Sh fun i j _ _ _ _ _ hc q=>by
 have h1:(0:Int) < j:=hc;exact mod_int' (by omega) (by rw[Int.fmod_eq_emod_of_nonneg i (by omega)];exact q)
def jK:jT X (binaryOp .Pow) (rI CPow fun i j=>.int (i ^ j.toNat)):=Sh fun _ _ _ _ _ _ _ hc q=>pow_int_small hc.1 hc.2.1 hc.2.2 q
def TB{f:Value->Sem Value}{g:Int->Int}(rule:∀(i:Int) (t:Tok) (s:Shared) (Q:q0A) (E:q0A),Q (.int (g i) s.toks) {s with toks:=s.toks+1}->wpAny 1e0 X.A (f (.int i t)) Q E s) : Sq X f (rU fun i=>.int (g i)):=by
 intro TF s Z H x v Q I rx h;obtain⟨i,rfl,q⟩:=h;obtain⟨t,rfl⟩:=rx;exact rule i t s _ _ ⟨.int (g i),H,I.tok _,⟨_,rfl⟩,q⟩
def eF:Sq X (unaryOp .USub) (rU fun i=>.int (-i)):=TB fun _ _ _ _ _ q=>neg_int q
end
end
mutual
example:=[]
def UX:V->V->Bool
 | .TK,.TK=>true | .TK,.int _=>true | .int _,.TK=>true | .TK,.bl _=>true | .bl _,.TK=>true | .TK,.str _=>true | .str _,.TK=>true
 | .int _,.int _=>true | .bl _,.bl _=>true | .str _,.str _=>true | .byt _,.byt _=>true
 | .int _,.str _=>true | .str _,.int _=>true | .bl _,.str _=>true | .str _,.bl _=>true
 | _,_=>false
def JQ:R2:=fun x y H Q=>UX x y=true/\Q (.bl (decide (x=y))) H
def Rl:R2:=fun x y H Q=>UX x y=true/\Q (.bl (!decide (x=y))) H
theorem DU{i j:Int}:decide (V.int i=V.int j)=(i==j):=by
 rw[Ε6];simp
theorem Hs{i j:Bool}:decide (V.bl i=V.bl j)=(i==j):=by
 rw[Ε6];simp
theorem DV{i j:Str}:decide (V.str i=V.str j)=(i==j):=by
 rw[Ε6];simp
theorem DT{i j:Array UInt8}:decide (V.byt i=V.byt j)=(i.toList==j.toList):=by
 rw[Ε6];cases i;cases j;simp
end
section
mutual
example:=[(cF I q (by simp)),(by omega),(by simp only[Ε];omega),.Compare a [op] [b] pos,(if k then 1 else 0),(y.length:Int) !=0,(y.size:Int) !=0,compareOp op,I.ok.hd hc,DA r ta tb,cF I q ?_]
variable{a b:Expr}{ta tb tc:TE}
def cF{Q:VK}{k k':Bool}(I:TQ X TF Z H s)(q:Q (.bl k) H)(e:k=k'):EP X TF Z Q (.bool k') s:=by
 subst e;exact⟨.bl k,H,I,rfl,q⟩
def aZ:jT X (compareOp .Eq) JQ:=by
 intro TF s Z H x y v u Q I rx ry h;obtain⟨hs,q⟩:=h;cases x with
 | TK =>
  cases rx;cases y with
  | TK=>cases ry;exact PySem.EqNone.eq_none_none 0e0
  | bl j=>cases ry;exact PySem.EqNone.eq_none_bool 0e0
  | int j=>obtain⟨t',rfl⟩:=ry;exact PySem.EqNone.eq_none_int 0e0
  | str j=>obtain⟨t',rfl⟩:=ry;exact PySem.EqNone.eq_none_str 0e0
  | _=>exact absurd (show false=true from hs) Ω
 | bl i =>
  cases rx;cases y with
  | TK=>cases ry;exact PySem.EqNone.eq_bool_none 0e0
  | bl j=>cases ry;exact eq_bool (cF I q Hs)
  | str j=>obtain⟨t',rfl⟩:=ry;exact PySem.EqMixed.eq_bool_str 0e0
  | _=>exact absurd (show false=true from hs) Ω
 | int i =>
  obtain⟨t,rfl⟩:=rx;cases y with
  | TK=>cases ry;exact PySem.EqNone.eq_int_none 0e0
  | int j=>obtain⟨t',rfl⟩:=ry;exact eq_int (cF I q DU)
  | str j=>obtain⟨t',rfl⟩:=ry;exact PySem.EqMixed.eq_int_str 0e0
  | _=>exact absurd (show false=true from hs) Ω
 | str i =>
  obtain⟨t,rfl⟩:=rx;cases y with
  | TK=>cases ry;exact PySem.EqNone.eq_str_none 0e0
  | bl j=>cases ry;exact PySem.EqMixed.eq_str_bool 0e0
  | int j=>obtain⟨t',rfl⟩:=ry;exact PySem.EqMixed.eq_str_int 0e0
  | str j=>obtain⟨t',rfl⟩:=ry;exact eq_str (cF I q DV)
  | _=>exact absurd (show false=true from hs) Ω
 | byt i =>
  obtain⟨t,rfl⟩:=rx;cases y with
  | byt j=>obtain⟨t',rfl⟩:=ry;exact PySem.W.eq_bytes (cF I q DT)
  | _=>exact absurd (show false=true from hs) Ω
 | _=>cases y<;>exact absurd (show false=true from hs) Ω
def Mt:jT X (compareOp .NotEq) Rl:=by
 intro TF s Z H x y v u Q I rx ry h;obtain⟨hs,q⟩:=h;cases x with
 | TK =>
  cases rx;cases y with
  | TK=>cases ry;exact PySem.EqNone.ne_none_none 0e0
  | bl j=>cases ry;exact PySem.EqNone.ne_none_bool 0e0
  | int j=>obtain⟨t',rfl⟩:=ry;exact PySem.EqNone.ne_none_int 0e0
  | str j=>obtain⟨t',rfl⟩:=ry;exact PySem.EqNone.ne_none_str 0e0
  | _=>exact absurd (show false=true from hs) Ω
 | bl i =>
  cases rx;cases y with
  | TK=>cases ry;exact PySem.EqNone.ne_bool_none 0e0
  | bl j=>cases ry;exact ne_bool (cF I q (congrArg not Hs))
  | str j=>obtain⟨t',rfl⟩:=ry;exact PySem.EqMixed.ne_bool_str 0e0
  | _=>exact absurd (show false=true from hs) Ω
 | int i =>
  obtain⟨t,rfl⟩:=rx;cases y with
  | TK=>cases ry;exact PySem.EqNone.ne_int_none 0e0
  | int j=>obtain⟨t',rfl⟩:=ry;exact ne_int (cF I q (congrArg not DU))
  | str j=>obtain⟨t',rfl⟩:=ry;exact PySem.EqMixed.ne_int_str 0e0
  | _=>exact absurd (show false=true from hs) Ω
 | str i =>
  obtain⟨t,rfl⟩:=rx;cases y with
  | TK=>cases ry;exact PySem.EqNone.ne_str_none 0e0
  | bl j=>cases ry;exact PySem.EqMixed.ne_str_bool 0e0
  | int j=>obtain⟨t',rfl⟩:=ry;exact PySem.EqMixed.ne_str_int 0e0
  | str j=>obtain⟨t',rfl⟩:=ry;exact ne_str (cF I q (congrArg not DV))
  | _=>exact absurd (show false=true from hs) Ω
 | byt i =>
  obtain⟨t,rfl⟩:=rx;cases y with
  | byt j=>obtain⟨t',rfl⟩:=ry;exact PySem.W.ne_bytes (cF I q (congrArg not DT))
  | _=>exact absurd (show false=true from hs) Ω
 | _=>cases y<;>exact absurd (show false=true from hs) Ω
theorem j6:jT X (compareOp .Lt) (LI fun i j=>.bl (decide (i < j))):=OR fun _ _ _ _ _ _ _ q=>lt_int q
theorem Es:jT X (compareOp .Gt) (LI fun i j=>.bl (decide (j < i))):=OR fun _ _ _ _ _ _ _ q=>gt_int q
theorem Ms:jT X (compareOp .GtE) (LI fun i j=>.bl (decide (j<=i))):=OR fun _ _ _ _ _ _ _ q=>ge_int q
theorem OV:jT X (compareOp .Is) (fun x y H Q=>y=.TK/\Q (.bl (decide (x=.TK))) H):=by
 intro TF s Z H x y v u Q I rx ry h;obtain⟨rfl,q⟩:=h;cases ry;refine is_none_gen 0e1;cases x<;>first
  | (cases rx;rfl)
  | (obtain⟨t,rfl⟩:=rx;rfl)
theorem Lp:jT X (compareOp .IsNot) (fun x y H Q=>y=.TK/\Q (.bl (!decide (x=.TK))) H):=by
 intro TF s Z H x y v u Q I rx ry h;obtain⟨rfl,q⟩:=h;cases ry;refine isnot_none_gen 0e1;cases x<;>first
  | (cases rx;rfl)
  | (obtain⟨t,rfl⟩:=rx;rfl)
def jT.or{r':R2}(h:jT X f r)(h':jT X f r'):jT X f (fun x y H Q=>r x y H Q\/r' x y H Q):=by
 intro TF s Z H x y v u Q I rx ry q;rcases q with q|q
 ·exact h TF s Z H x y v u Q I rx ry q
 ·exact h' TF s Z H x y v u Q I rx ry q
theorem nomark(b:Expr)(h:op≠.In:=by decide)(h2:op≠.NotIn:=by decide):behindInMarks op b=false:=by
 have e1:(op==CmpOp.In)=false:=by cases op<;>first|rfl|exact absurd rfl h
 have e2:(op==CmpOp.NotIn)=false:=by cases op<;>first|rfl|exact absurd rfl h2
 cases b<;>simp[behindInMarks,e1,e2]
def Lr(ho:jT X 7e0 r)(ha:PE X a ta)(hb:PE X b tb)(hm:behindInMarks op b=false):PE X 3e0 9e0:=by
 intro TF s Z H Q I h;exact wpAny_Compare1 (MT ha hb I h fun v u s2 x y H2 I2 rx ry q=>ho TF s2 Z H2 x y v u Q I2 rx ry q) hm
def CB(t:TE):TT:=fun Z H Q=>t Z H fun x H'=>∃ k,x=.bl k/\Q k H'
def fJ(ho:jT X 7e0 r)(ha:PE X a ta)(hb:PE X b tb)(hm:behindInMarks op b=false):PT X 3e0 (CB 9e0):=by
 intro TF s Z H Q I h;refine wpAny_isTrue_Compare1 (thn (ha TF s Z H _ I h) fun v s1 ⟨x,H1,I1,r1,q1⟩=>thn (hb TF s1 Z H1 _ I1 q1) fun u s2 ⟨y,H2,I2,r2,q2⟩ =>
  thn (ho TF s2 Z H2 x y v u _ I2 r1 r2 q2) fun c s3 ⟨z,H3,I3,r3,k,e,q3⟩=>?_) hm
 subst e;cases r3;exact Ε2 ⟨H3,I3,q3⟩
def Px(K:q0B)(x:V)(H:Hp)(k:Bool):Prop :=
 match x with
 | .TK=>k=false
 | .bl b=>k=b
 | .int i=>k=(i !=0)
 | .str y=>y.length<=sizeLine/\k=5e0
 | .byt y=>y.size<=sizeLine/\k=6e0
 | .ref p=>(∃ xs,fY K H p xs/\k = !xs.isEmpty)\/(∃ xs,iR K H p xs/\k = !xs.isEmpty)\/∃ kvs,H p=some (.dK kvs)/\k = !kvs.isEmpty
 | _=>False
def C3{κ:Type}{kvs:List (κ×V)}{vs:List (κ×Value)}(r:KV kvs vs):(!vs.isEmpty) = !kvs.isEmpty:=by
 cases r<;>rfl
def vC{TR:List Value}(r:TU xs TR):(!TR.toArray.isEmpty) = !xs.isEmpty:=by
 cases r<;>simp
theorem line63:(sizeLine:Nat) < 2 ^ 63:=by rw[Ε4];decide
theorem DD:So X (fun x H Q=>∃ k,Px X.K x H k/\Q k H):=by
 intro TF s Z H x v Q I rx h;obtain⟨k,e,q⟩:=h;have hl:=line63;have hs:sizeLine=16777216:=Ε4;cases x with
 | TK =>
  cases rx;have e':k=false:=e;subst e';exact truthy_none ⟨H,I,q⟩
 | bl b =>
  cases rx;have e':k=b:=e;subst e';exact Ε2 ⟨H,I,q⟩
 | int i =>
  obtain⟨t,rfl⟩:=rx;have e':k=(i !=0):=e;subst e';exact PySem.P.truthy_int ⟨H,I,q⟩
 | str y =>
  obtain⟨t,rfl⟩:=rx;obtain⟨hy,e'⟩:y.length<=sizeLine/\k=5e0:=e;subst e';exact PySem.P.truthy_str 1e0 ⟨H,I.tok _,q⟩
 | byt y =>
  obtain⟨t,rfl⟩:=rx;obtain⟨hy,e'⟩:y.size<=sizeLine/\k=6e0:=e;subst e';exact PySem.W.truthy_bytes 1e0 ⟨H,I.tok _,q⟩
 | ref p =>
  cases rx;have e':(∃ xs,fY X.K H p xs/\k = !xs.isEmpty)\/(∃ xs,iR X.K H p xs/\k = !xs.isEmpty)\/∃ kvs,H p=some (.dK kvs)/\k = !kvs.isEmpty:=e;rcases e' with⟨xs,hx,e'⟩|⟨xs,hx,e'⟩|⟨kvs,hx,e'⟩
  ·subst e';obtain⟨TR,r,pl,hz⟩:=I.list hx;have hlen:=r.length;exact wpAny_truthy_list pl.isList 2e0 ⟨H,I.tok _,by rw[vC r];exact q⟩
  ·subst e';obtain⟨TR,r,pl,hz⟩:=I.tuple hx;have hlen:=r.length;exact truthy_tuple pl 2e0 ⟨H,I.tok _,by rw[vC r];exact q⟩
  ·subst e';obtain⟨hz,hS,vs,r,m⟩:kvs.length<=sizeLine/\(p==sysModules)=false/\∃ vs,KV kvs vs/\s.heap.DictOf (bJ X.prog X.w) p vs:=I.TY p _ hx;have hlen:kvs.length=vs.length:=Paired.length r;exact wpAny_truthy_dict hS m 1e0 ⟨H,I.tok _,by rw[C3 r];exact q⟩
 | _=>exact(show False from e).elim
def Dm:jT X (binaryOp .Add) (fun x y H Q=>∃ i j,x=.str i/\y=.str j/\i.length+j.length<=sizeLine/\Q (.str (i++j)) H):=by
 intro TF s Z H x y v u Q I rx ry h;obtain⟨i,j,rfl,rfl,hz,q⟩:=h;obtain⟨t,rfl⟩:=rx;obtain⟨t',rfl⟩:=ry;exact add_str (fun t' tk=>⟨.str (i++j),H,I.tok _,⟨_,rfl⟩,q⟩) hz
def vals1{x:V}(r:TU [x] us):∃ u,us=[u]/\bQ x u:=by
 cases r with
 | cons r1 r2=>cases r2;exact⟨_,rfl,r1⟩
def vals2{x y:V}(r:TU [x,y] us):∃ u w',us=[u,w']/\bQ x u/\bQ y w':=by
 cases r with
 | cons r1 r2 =>
  cases r2 with
  | cons r3 r4=>cases r4;exact⟨_,_,rfl,r1,r3⟩
def Fb(hc:X.calm=true):gA X (.builtin "max") (fun xs H Q=>∃ i j,xs=[.int i,.int j]/\Q (.int (if j > i then j else i)) H):=by
 intro TF s Z H xs us Q I r h;obtain⟨i,j,rfl,q⟩:=h;obtain⟨u,w',rfl,⟨t,rfl⟩,⟨t',rfl⟩⟩:=vals2 r;refine max_two_ints 8e0 fun h' tk k=>⟨_,H,I.kept k,?_,q⟩;by_cases hj:j > i
 ·rw[if_pos hj,if_pos hj];exact⟨_,rfl⟩
 ·rw[if_neg hj,if_neg hj];exact⟨_,rfl⟩
def Fc(hc:X.calm=true):gA X (.builtin "min") (fun xs H Q=>∃ i j,xs=[.int i,.int j]/\Q (.int (if j < i then j else i)) H):=by
 intro TF s Z H xs us Q I r h;obtain⟨i,j,rfl,q⟩:=h;obtain⟨u,w',rfl,⟨t,rfl⟩,⟨t',rfl⟩⟩:=vals2 r;refine min_two_ints 8e0 fun h' tk k=>⟨_,H,I.kept k,?_,q⟩;by_cases hj:j < i
 ·rw[if_pos hj,if_pos hj];exact⟨_,rfl⟩
 ·rw[if_neg hj,if_neg hj];exact⟨_,rfl⟩
def E8:gA X (.type "int") (fun xs H Q=>(∃ i,xs=[.int i]/\Q (.int i) H)\/∃ k,xs=[.bl k]/\Q (.int 4e0) H):=by
 intro TF s Z H xs us Q I r h;rcases h with⟨i,rfl,q⟩|⟨k,rfl,q⟩
 ·obtain⟨u,rfl,t,rfl⟩:=vals1 r;exact call_int_int ⟨.int i,H,I,⟨_,rfl⟩,q⟩
 ·obtain⟨u,rfl,r1⟩:=vals1 r;cases r1;exact call_int_bool ⟨.int 4e0,H,I.tok _,⟨_,rfl⟩,q⟩
def Sm(K:q0B)(x:V)(H:Hp)(n:Nat):Prop :=
 match x with
 | .str y=>y.length<=sizeLine/\n=y.length
 | .byt y=>y.size<=sizeLine/\n=y.size
 | .ref p=>(∃ xs,fY K H p xs/\n=xs.length)\/∃ xs,iR K H p xs/\n=xs.length
 | _=>False
theorem uD:gA X (.builtin "len") (fun xs H Q=>∃ x n,xs=[x]/\Sm X.K x H n/\Q (.int n) H):=by
 intro TF s Z H xs us Q I r h;obtain⟨x,n,rfl,e,q⟩:=h;obtain⟨u,rfl,rx⟩:=vals1 r;have hl:=line63;have hs:sizeLine=16777216:=Ε4;cases x with
 | str y =>
  obtain⟨t,rfl⟩:=rx;obtain⟨hy,e'⟩:y.length<=sizeLine/\n=y.length:=e;subst e';exact len_str 1e0 ⟨.int _,H,I.tok _,⟨_,rfl⟩,q⟩
 | byt y =>
  obtain⟨t,rfl⟩:=rx;obtain⟨hy,e'⟩:y.size<=sizeLine/\n=y.size:=e;subst e';exact PySem.W.len_bytes 1e0 ⟨.int _,H,I.tok _,⟨_,rfl⟩,q⟩
 | ref p =>
  cases rx;have e':(∃ xs,fY X.K H p xs/\n=xs.length)\/∃ xs,iR X.K H p xs/\n=xs.length:=e;rcases e' with⟨xs,hx,e'⟩|⟨xs,hx,e'⟩
  ·subst e';obtain⟨TR,r',pl,hz⟩:=I.list hx;have hlen:=r'.length;exact Calls.call_len_list pl.isList 2e0 ⟨.int xs.length,H,I.tok _,⟨_,by simp only[Ε];rw[hlen]⟩,q⟩
  ·subst e';obtain⟨TR,r',pl,hz⟩:=I.tuple hx;have hlen:=r'.length;exact len_tuple pl 2e0 ⟨.int xs.length,H,I.tok _,⟨_,by simp only[Ε];rw[hlen]⟩,q⟩
 | _=>exact(show False from e).elim
end
end
structure CJ(h:Heap)(x dx C:Addr)(mA:q0C):Prop where
 obj:h.get? x=some (PySem.W.instObj C dx)
 ns:h.Ns1 dx mA
 ne:dx≠x
def FH{dx:Addr}{mA:q0C}(n:h.Ns1 dx mA):∃ od,h.get? dx=some od/\∀ name,PySem.W.lookIn name od=some (mA name):=by
 obtain⟨o,es,ep,ho,hd,hk,_,hm⟩:=n;refine⟨o,ho,fun name=>?_⟩;have e:=hm name;unfold nsFind findBy at e;rw[<- Array.find?_toList] at e;unfold PySem.W.lookIn;rw[hd];dsimp only;split
 ·rename_i y q
  rw[q] at e;exact congrArg some e
 ·rename_i q
  rw[q] at e;have a:es.toList.any (·.refKey)=false:=by
   rw[List.any_eq_false];intro y hy;obtain⟨z,t,V4⟩:=hk y (Array.mem_toList_iff.mp hy);simp[DictEntry.refKey,V4]
  have a':¬ es.toList.any (·.refKey)=true:=by rw[a];exact Ω
  rw[if_neg a'];exact congrArg some e
def CJ.look{x dx:Addr}{mA:q0C}(I:CJ h x dx C mA):∃ od,PySem.W.InstAt h x (PySem.W.instObj C dx) C (some od)/\∀ name,PySem.W.lookIn name od=some (mA name) :=
 let ⟨od,ho,hl⟩:=FH I.ns
 ⟨od,⟨I.obj,rfl,rfl,ho⟩,hl⟩
section
mutual
example:=[model prog w,.ref f,.ref C,.ref x,s.heap.objs.size+1]
variable{prog:Program}{x dx f:Addr}{mA:q0C}{name:Str}{v:Value}
def KY{expr:Bool}{Q:q0A}(X:K.In s.heap)(I:CJ s.heap x dx C mA)(hg:PySem.W.plainGet K C name=true)(hh:PySem.W.hasDictIn K C=true)(ha:PySem.W.findIn K 2e0 name=some none)(hv:mA name=some v)(WY:PySem.W.handedIn v=true)(h:Q v {s with toks:=s.toks+1}) : wpAny 0e0 A (getAttr 3e0 name expr) Q E s:=by
 obtain⟨od,J,hl⟩:=I.look;exact PySem.W.get_value X J (PySem.W.plainGet_of hg).1 (PySem.W.findObj_own hh ha rfl (by rw[hl,hv])) WY h
def HX{Q:Value×List Value->Shared->Prop}(X:K.In s.heap)(I:CJ s.heap x dx C mA)(hg:PySem.W.plainGet K C name=true)(hf:PySem.W.findIn K 2e0 name=some (some 1e0))(ht:PySem.W.isFn K 1e0=true)(hv:mA name=none)(h:Q (.ref f,[.ref x]) s) : wpAny 0e0 A (getMethod 3e0 name pl) Q E s:=by
 obtain⟨od,J,hl⟩:=I.look;exact PySem.W.method_fn X J (PySem.W.plainGet_of hg).1 (PySem.W.plainGet_of hg).2 hf (beq_iff_eq.mp ht) (by show(PySem.W.lookIn name od).map (·.isSome)=some false;rw[hl,hv];rfl) h
theorem LP{ns:List Str}(X:K.In s.heap)(I:CJ s.heap x dx C mA)(hs:PySem.W.findIn K 2e0 "__setattr__"=some (some (.builtin "object.__setattr__")))(hp:PySem.W.plainOver K C=true)(ht:PySem.W.takerIn K C name=some none)(hh:PySem.W.hasDictIn K C=true)(hw:PySem.Within mA ns)(hsz:ns.length<=sizeLine)(h:∀ h',CJ h' x dx C (fun y=>if y=name then some v else mA y)->Heap.SameBut dx s.heap h'->Q () {s with heap:=h',toks:=s.toks+2}) : wpAny 0e0 A (setAttr 3e0 name v) Q E s:=by
 obtain⟨od,J,hl⟩:=I.look;refine PySem.W.set_plain X J hs (PySem.W.osa_open (s:={s with toks:=s.toks+1}) (r:=none) X J hp ht fun b=>?_);obtain⟨cd,hc,Zy⟩:=PySem.W.any_some hh;have hx:s.heap.get? x=some ⟨.ref C,some dx,.plain,#[]⟩:=I.obj;refine Β (Θ (Β (Β (wpAny_loadPart hx (Β (PySem.W.Looks.here (s:={s with toks:=s.toks+1}) (PySem.W.looks_clsIn X hc) ?_))))));rw[Zy];refine Θ (a:=some dx) (Β (Θ (Β ?_)));refine wpAny_nsSet1 (s:={s with toks:=s.toks+1}) I.ns fun h' XH ZO=>?_;obtain⟨oD,esD,epD,hoD,hdD,hcD⟩:=XH.count (PySem.Within.cons name v hw);refine Β (wpAny_lookBehind hoD (by rw[hdD];exact pastItsLine_dict (ϒ hcD (by rw[Ζ];omega))) ?_);exact Θ (h _ ⟨(ZO.2 _ (Ne.symm I.ne)).trans I.obj,XH,I.ne⟩ ZO)
def Iu{R:Result->Shared->Prop}{vs:List Value}(X:K.In s.heap)(hm:PySem.W.makesIn K C=true)(hi:PySem.W.findIn K 2e0 "__init__"=some (some 1e0))(hf:PySem.W.typeIn K 1e0=some (.type "function"))(h:codeAny 0e0 (A.under (.builtin "type.__call__" ⟨.ref C::vs,kw⟩)) (.call 1e0 ⟨.ref 4e0::vs,kw⟩) (PySem.W.InitBack 4e0 R) {s with heap:=(s.heap.push PySem.W.emptyDict).push (PySem.W.instObj C s.heap.objs.size)}) : codeAny 0e0 A (.call 2e0 ⟨vs,kw⟩) R s:=by
 obtain⟨hh,g,d,t,os⟩:=s;exact PySem.W.make_core (PySem.W.makes_of X hm) (PySem.W.looks_findIn X hi) (fun self=>PySem.W.bind_fn X self hf) (.inl rfl) h
end
end
mutual
example:=[Str×V,(if k=f then (k,v)::r else (k,x)::jA f v r),((k,x)::r)]
def jA(f:Str)(v:V):List 0e0->List 0e0
 | []=>[(f,v)]
 | (g,x)::r=>if g=f then (g,v)::r else (g,x)::jA f v r
theorem sI(f g:Str)(v:V):∀ fs:List 0e0,(jA f v fs).lookup g=if g=f then some v else fs.lookup g
 | []=>by
  show List.lookup g [(f,v)]=_;by_cases h:g=f
  ·have hb:(g==f)=true:=beq_iff_eq.mpr h;simp only[List.lookup,hb,if_pos h]
  ·have hb:(g==f)=false:=Β3.mpr h;simp only[List.lookup,hb,if_neg h]
 | (k,x)::r=>by
  have ih:=sI f g v r;rw[show jA f v 2e0=1e0 from rfl];by_cases hk:k=f
  ·rw[if_pos hk];by_cases h:g=k
   ·have hb:(g==k)=true:=beq_iff_eq.mpr h;simp only[List.lookup,hb,if_pos (h.trans hk)]
   ·have hb:(g==k)=false:=Β3.mpr h;simp only[List.lookup,hb,if_neg (fun e:g=f=>h (e.trans hk.symm))]
  ·rw[if_neg hk];by_cases h:g=k
   ·have hb:(g==k)=true:=beq_iff_eq.mpr h;simp only[List.lookup,hb,if_neg (fun e:g=f=>hk (h.symm.trans e))]
   ·have hb:(g==k)=false:=Β3.mpr h;simp only[List.lookup,hb];exact ih
theorem q9(f:Str)(v:V):∀ fs:List 0e0,f∈(jA f v fs).map (·.1)/\∀ g,g∈fs.map (·.1)->g∈(jA f v fs).map (·.1)
 | []=>⟨by simp[jA],fun g h=>by simp at h⟩
 | (k,x)::r=>by
  obtain⟨i1,i2⟩:=q9 f v r;rw[show jA f v 2e0=1e0 from rfl];by_cases hk:k=f
  ·rw[if_pos hk];subst hk;exact⟨by simp,fun g h=>by simpa using h⟩
  ·rw[if_neg hk];refine⟨?_,fun g h=>?_⟩
   ·rw[ϓ];exact ϑ _ i1
   ·rw[ϓ] at h ⊢;rcases Α.mp h with e|e
    ·exact Α.mpr (.inl e)
    ·exact ϑ _ (i2 g e)
theorem sG(f:Str)(v:V):∀ fs:List 0e0,(jA f v fs).length<=fs.length+1
 | []=>by simp[jA]
 | (k,x)::r=>by
  have ih:=sG f v r;rw[show jA f v 2e0=1e0 from rfl];by_cases hk:k=f
  ·rw[if_pos hk,Ζ,Ζ];omega
  ·rw[if_neg hk,Ζ,Ζ];omega
def kZ.some_of{o:Option Value}(r:kZ (some v) o):∃ u,o=some u/\bQ v u:=by
 cases o with
 | none=>exact(show False from r).elim
 | some u=>exact⟨u,rfl,r⟩
def kZ.none_of{o:Option Value}(r:kZ none o):o=none:=by
 cases o with
 | none=>rfl
 | some u=>exact(show False from r).elim
def Fp(r:bQ v u):PySem.W.handedIn u=true:=by
 cases v with
 | TK=>cases (show u=Value.none from r);rfl
 | bl b=>cases (show u=Value.bool b from r);rfl
 | int i=>obtain⟨t,e⟩:=(show ∃ t,u=Value.int i t from r);cases e;rfl
 | str x=>obtain⟨t,e⟩:=(show ∃ t,u=Value.str x t from r);cases e;rfl
 | byt b=>obtain⟨t,e⟩:=(show ∃ t,u=Value.bytes b t from r);cases e;rfl
 | flt b=>obtain⟨t,e⟩:=(show ∃ t,u=Value.float b t from r);cases e;rfl
 | ref a=>cases (show u=Value.ref a from r);rfl
 | ty n=>cases (show u=Value.type n from r);rfl
end
section
variable{H':Hp}{h':Heap}{dx:Addr}{fs Xz:List (Str×V)}
def Ai(TY:HOk P w H h)(e:H a=some (.ins C dx fs)):∃ mA,CJ h a dx C mA/\(∀ f,kZ (fs.lookup f) (mA f))/\PySem.Within mA (fs.map (·.1))/\fs.length<=1000/\H dx=some (.own a):=by
 obtain⟨d,z,ne,ob,mA,n,r,q⟩:=(show eC P w H h a (.ins C dx fs) from TY a _ e);exact⟨mA,⟨ob,n,ne⟩,r,q,z,d⟩
end
mutual
example:=[.ref C,.ref f]
structure Cls(K:q0B)(C:Addr):Prop where
 pg:PySem.W.plainGet K C Str.empty=true
 hd:PySem.W.hasDictIn K C=true
 po:PySem.W.plainOver K C=true
 sa:PySem.W.findIn K 0e0 "__setattr__"=some (some (.builtin "object.__setattr__"))
def Cls.get(c:Cls K C)(f:Str):PySem.W.plainGet K C f=true:=c.pg
def eY(K:q0B)(C:Addr)(f:Str):Prop:=PySem.W.findIn K 0e0 f=some none
def eY.RJ{f:Str}(n:eY K C f):PySem.W.takerIn K C f=some none:=by
 unfold PySem.W.takerIn;rw[show PySem.W.findIn K 0e0 f=some none from n];rfl
structure Meth(K:q0B)(C:Addr)(m:Str)(f:Addr):Prop where
 at_:PySem.W.findIn K 0e0 m=some (some 1e0)
 fn:PySem.W.isFn K 1e0=true
 kp:PySem.W.keepIn K 1e0=true
end
section
mutual
example:=[s.heap.objs.size+1,PySem.W.instObj C s.heap.objs.size,model X.prog X.w,model prog w,.ins C dx fs,.ref a,(if g=f then some u else mA g),(fun b u q=>Η _ q),eval e env]
variable{dx:Addr}{fs:List (Str×V)}{f:Str}
def uY{b:Bool}{Q:q0A}(I:TQ X TF Z H s)(e:H a=some 4e0)(c:Cls X.K C)(n:eY X.K C f)(l:fs.lookup f=some v)(h:∀ u s',TQ X TF Z H s'->bQ v u->Q u s'):wpAny 2e0 A (getAttr 5e0 f b) Q E s:=by
 obtain⟨mA,O,r,_,_,_⟩:=Ai I.TY e;obtain⟨u,hu,ru⟩:=kZ.some_of (v:=v) (o:=mA f) (by rw[<- l];exact r f);exact KY I.kIn O (c.get f) c.hd n hu (Fp ru) (h u _ (I.tok _) ru)
def uZ{m:Str}{g:Addr}{Q:Value×List Value->Shared->Prop}(I:TQ X TF Z H s)(e:H a=some 4e0)(c:Cls X.K C)(k:Meth X.K C m g)(l:fs.lookup m=none)(h:Q (.ref g,[.ref a]) s):wpAny 2e0 A (getMethod 5e0 m pl) Q E s:=by
 obtain⟨mA,O,r,_,_,_⟩:=Ai I.TY e;have hn:mA m=none:=kZ.none_of (by rw[<- l];exact r m);exact HX I.kIn O (c.get m) k.at_ k.fn hn h
theorem xD{y:V}(I:TQ X TF Z H s)(e:H a=some 4e0)(c:Cls X.K C)(n:eY X.K C f)(hl:fs.length < 1000)(ry:bQ y u)(h:∀ s',TQ X TF Z (TH H a (.ins C dx (jA f y fs))) s'->Q () s'):wpAny 2e0 A (setAttr 5e0 f u) Q E s:=by
 obtain⟨mA,O,r,wi,_,ho⟩:=Ai I.TY e;have hz:(fs.map (·.1)).length<=sizeLine:=by rw[Γ,Ε4];omega
 refine LP I.kIn O c.sa c.po n.RJ c.hd wi hz fun h' O' sb=>h _ ?_;have hd:∃ o,h'.get? dx=some o:=let ⟨o,_,_,e',_⟩:=O'.ns;⟨o,e'⟩;refine I.write (x:=a) (e:=dx) (by rw[e];exact True.intro) (.inr ho) (fun b q hb z=>(sb.2 b hb).trans z) hd ?_;refine⟨by rw[aD O.ne];exact ho,?_,O.ne,O'.obj,_,O'.ns,fun g=>?_,fun g hg=>?_⟩
 ·have:=sG f y fs;omega
 ·show kZ ((jA f y fs).lookup g) 6e0;rw[sI];by_cases q:g=f
  ·rw[if_pos q,if_pos q];exact ry
  ·rw[if_neg q,if_neg q];exact r g
 ·by_cases q:g=f
  ·rw[q];exact(q9 f y fs).1
  ·refine(q9 f y fs).2 g (wi g fun z=>hg ?_);show 6e0=none;rw[if_neg q];exact z
def TQ.made(I:TQ X TF Z H s):TQ X TF Z (TH (TH H s.heap.objs.size (.own 0e0)) 0e0 (.ins C s.heap.objs.size [])) {s with heap:=(s.heap.push PySem.W.emptyDict).push 1e0}:=by
 have e1:(s.heap.push PySem.W.emptyDict).get? s.heap.objs.size=some PySem.W.emptyDict:=Τ s.heap rfl;have e2:((s.heap.push PySem.W.emptyDict).push 1e0).get? 0e0=some 1e0:=by
  have:=Τ (s.heap.push PySem.W.emptyDict) (o:=PySem.W.instObj C s.heap.objs.size) rfl
  rwa [Heap.size_push] at this
 have e3:(s.heap.push PySem.W.emptyDict).Ns s.heap.objs.size (fun _=>none):=⟨PySem.W.emptyDict,#[],_,e1,rfl,(fun e he=>absurd he (by simp)),fun _=>rfl⟩;have I1:=I.laid (a:=s.heap.objs.size) (o:=.own 0e0) (h':=s.heap.push PySem.W.emptyDict) (t':=s.toks) 7e0 (Ι _) ⟨_,e1⟩;refine I1.laid (a:=s.heap.objs.size+1) (o:=.ins C s.heap.objs.size []) (t':=s.toks) 7e0 (Nat.le_of_eq (Heap.size_push _ _)) ?_;have ne:s.heap.objs.size≠s.heap.objs.size+1:=Ρ (Nat.lt_succ_self _);refine⟨by rw[aD ne,aA],Α4 _,ne,e2,fun _=>none,(Heap.Ns1.of_empty e3).at fun o q=>Η _ q,fun _=>True.intro,fun y hy=>absurd rfl hy⟩
def JV{prog:Program}{env:Env}{Q:q0A}(hb:attributeBase e f env 8e0=eval e env)(h:wpAny 3e0 A 8e0 (fun o s₁=>wpAny 3e0 A (getAttr o f true) Q E s₁) E s):wpAny 3e0 A (eval (.Attribute e f pos) env) Q E s :=
 Attribute_any_ h (by rw[arm_eval_Attribute,hb])
end
end
noncomputable def Sl(X:Cx)(op:Operator)(rd:V->V->Hp->VK->Prop):Prop :=
 ∀(TF:List (Addr×Obj)) (s:Shared) (Z:St) (H:Hp) (x y:V) (u v:Value) (Q:VK),TQ X TF Z H s->bQ x u->bQ y v->rd x y H Q->wpAny (model X.prog X.w) X.A (inplaceOp op u v) (EP X TF Z Q) X.xe s
section
variable{o value:Expr}{f:Str}{pos' WO:Pos}{ta tv:TE}
def S5:V->V->Hp->VK->Prop:=fun x y H Q=>∃ i j,x=.int i/\y=.int j/\Q (.int (i+j)) H
def OB:Sl X .Add S5:=by
 rintro TF s Z H x y u v Q I rx ry ⟨i,j,rfl,rfl,q⟩;obtain⟨t,rfl⟩:=(show ∃ t,u=Value.int i t from rx);obtain⟨t',rfl⟩:=(show ∃ t',v=Value.int j t' from ry);exact PyProof.Rows.iadd_int ⟨.int (i+j),H,I.tok _,⟨_,rfl⟩,q⟩
end
section
variable{Q:q0A}{c:Value}{b:Bool}
end
mutual
example:=[(.builtin "type.__call__" ⟨.ref C::us,kw⟩)]
structure Room(k:Nat)(A:Around):Prop where
 hd:A.handled=none
 dp:A.depth+3 * k+5 < recursionLimit
 un:A.units+16 * k+200 < cLine
theorem Room.mono{j:Nat}(r:Room k A)(h:j<=k):Room j A:=⟨r.hd,by have:=r.dp;omega,by have:=r.un;omega⟩
theorem Room.deeper(r:Room (k+1) A)(env:Env):Room k (A.deeper env) :=
 ⟨r.hd,by have:=r.dp;show A.depth+1+3 * k+5 < _;omega,by have:=r.un;show A.units+3+16 * k+200 < _;omega⟩
def C6:(A.under 0e0).depth=A.depth+1:=by
 first|rfl|simp[Around.under,Code.weight,Code.isCreation,Code.isGuard,Code.isCaller,Code.frames,Code.isFrame,guardIds]
def C7:(A.under 0e0).units=A.units+1:=by
 first|rfl|simp[Around.under,Code.cUnits,Code.frames,Code.isFrame]
theorem Room.make(r:Room (k+1) A)(C:Addr)(us:List Value)(kw:List (Str×Value)):Room k (A.under 0e0) :=
 ⟨r.hd,by have:=r.dp;rw[C6];omega,by have:=r.un;rw[C7];omega⟩
theorem Room.depth(r:Room k A):A.depth < recursionLimit:=by have:=r.dp;omega
theorem Room.units(r:Room k A):A.units+64 < cLine:=by have:=r.un;omega
def qN:TA:=fun _ H Q=>Q [] H
def jP(ta:TE)(tr:TA):TA:=fun Z H Q=>ta Z H fun x H1=>tr Z H1 fun xs H2=>Q (x::xs) H2
end
section
mutual
example:=[(thn (h pos TF s Z H _ I hq) fun us s1 ⟨xs,H1,I1,r,z,q⟩=>⟨by rw[<- r.length];exact z,?_⟩),(fun b u e=>Η _ e)]
variable{t:TA}
def bU:PA X [] qN:=fun _ _ _ _ H Q I h=>Calls.spliced_nil ⟨[],H,I,.nil,h⟩
def Et(ha:PE X e te)(hr:PA X es t)(hs:starEach (e::es) X.env=(false,eval e X.env)::starEach es X.env:=by rfl):PA X (e::es) (jP te t):=by
 intro pos TF s Z H Q I h;rw[hs];show wpAny _ _ (spliced ((false,eval e X.env)::backTo pos (starEach es X.env))) _ _ s;refine Δ6 (thn (ha TF s Z H _ I h) fun u s1 ⟨x,H1,I1,r1,q1⟩=>?_);exact thn (hr pos TF s1 Z H1 _ I1 q1) fun us s2 ⟨xs,H2,I2,r2,q2⟩=>⟨x::xs,H2,I2,.cons r1 r2,q2⟩
def Pn(t:TA):TE:=fun Z H Q=>t Z H fun xs H1=>xs.length<=sizeLine/\∀ p,H1 p=none->Q (.ref p) (TH H1 p (.tup xs))
def Rx(t:TA):TE:=fun Z H Q=>t Z H fun xs H1=>xs.length<=sizeLine/\∀ p,H1 p=none->Q (.ref p) (TH H1 p (.lst xs))
def aW{x1}(h:PA X es t):PE X (.Tuple es x1 pos) (Pn t):=by
 intro TF s Z H Q I hq;refine wpAny_Tuple_spliced 0e0;have hf:H1 s1.heap.objs.size=none:=I1.TY.fresh (Ι _);refine⟨.ref s1.heap.objs.size,TH H1 s1.heap.objs.size (.tup xs),I1.laid (t':=s1.toks) 1e0 (Ι _) ?_,rfl,q _ hf⟩;exact⟨z,us,r,⟨_,Τ _ rfl,rfl,_,rfl⟩⟩
def aV(h:PA X es t):PE X (.List es pos) (Rx t):=by
 intro TF s Z H Q I hq;refine wpAny_List_spliced 0e0;have hf:H1 s1.heap.objs.size=none:=I1.TY.fresh (Ι _);refine⟨.ref s1.heap.objs.size,TH H1 s1.heap.objs.size (.lst xs),I1.laid (t':=s1.toks) 1e0 (Ι _) ?_,rfl,q _ hf⟩;exact⟨z,us,0,r,Τ _ rfl⟩
end
end
mutual
example:=[]
abbrev Sp:=List V->Hp->VK->XK->Prop
abbrev CXT:=List Env->Hp->Shared->XK->Value->Shared->Prop
variable{CX:CXT}
structure Env0(P:Program)(w:World)(K:q0B)(mg:q0C)(base:Heap)(A:Around)(outer:List Env)(s:Shared)(H:Hp):Prop where
 frames:A.frames=some outer
 mod:Mod K mg base
 bs:∀ b o,base.get? b=some o->s.heap.get? b=some o/\H b=none
 bsz:base.objs.size<=s.heap.objs.size
 pG:s.heap.FunFrames base outer
 frf:∀ b∈frs outer,H b=none
 TY:HOk P w H s.heap
 bare:AllBare s.gens
def CE(outer:List Env)(P:Program)(w:World)(H:Hp)(s:Shared)(Q:VK)(u:Value)(s':Shared):Prop :=
 ∃ v H',s'.os=s.os/\AllBare s'.gens/\Un (frs outer) [] H H' s.heap s'.heap/\HOk P w H' s'.heap/\bQ v u/\Q v H'
def CR(CX:CXT)(outer:List Env)(P:Program)(w:World)(H:Hp)(s:Shared)(Q:VK)(E:XK)(r:Result)(s':Shared):Prop :=
 match r with
 | .ok (.ret u)=>CE outer P w H s Q u s'
 | .ok _=>False
 | .error e=>CX outer H s E e s'
structure gO(P:Program)(w:World)(K:q0B)(mg:q0C)(base:Heap)(CX:CXT)(k:Nat)(f:Addr)(fd:FuncData)(ps:List Str)(sp:Sp):Prop where
 len:∀ vs H Q E,sp vs H Q E->vs.length=ps.length
 run:∀(A:Around) (outer:List Env) (s:Shared) (H:Hp) (args:Args) (us:List Value) (vs:List V) (Q:VK) (E:XK),Room k A->Env0 P w K mg base A outer s H->BindsTo s fd args (ps.zip us)->TU vs us->sp vs H Q E ->
  codeAny (model P w) A (.call (.ref f) args) (CR CX outer P w H s Q E) s
def gO.mono{j:Nat}{f:Addr}{sp:Sp}(F:gO P w K mg base CX j f fd ps sp)(h:j<=k) : gO P w K mg base CX k f fd ps sp:=⟨F.len,fun A outer s H args us vs Q E hr=>F.run A outer s H args us vs Q E (hr.mono h)⟩
def Env0.make(e:Env0 P w K mg base A outer s H)(C:Addr)(us:List Value)(kw:List (Str×Value)) : Env0 P w K mg base (A.under (.builtin "type.__call__" ⟨.ref C::us,kw⟩)) outer s H:=⟨by first|exact e.frames|(simpa[Around.under,Code.envs,Code.isFrame,pushEnvs] using e.frames),e.mod,e.bs,e.bsz,e.pG,e.frf,e.TY,e.bare⟩
end
section
def TQ.QI(I:TQ X TF Z H s):Env0 X.prog X.w X.K X.mg X.base X.A X.stack s H :=
 ⟨I.ok.frames,I.ok.mod,I.bs,ϒ I.ok.bsz I.sz,I.stack,I.AS,I.TY,I.bare⟩
def TQ.after{Q:VK}(I:TQ X TF Z H s)(h:CE X.stack X.prog X.w H s Q u s'):EP X TF Z Q u s':=by
 obtain⟨v,H',os,bare,un,TY,r,q⟩:=h;obtain⟨hh,g,d,t,Xs⟩:=s';obtain rfl:Xs=s.os:=os;exact⟨v,H',I.call (h':=hh) (g':=g) (d':=d) (t':=t) (ch:=[]) un TY bare (fun b z=>absurd z (by simp)),r,q⟩
end
mutual
example:=[vs++UL]
def EX(sp:Sp)(UL:List V)(E:XK)(t:TA):TE:=fun Z H Q=>t Z H fun vs H1=>sp 0e0 H1 Q E
def Cz(C:Addr)(m:Str)(sp:Sp)(UL:List V)(E:XK)(ta:TE)(t:TA):TE:=fun Z H Q=>ta Z H fun x H1=>∃ a dx fs,x=.ref a/\H1 a=some (.ins C dx fs)/\fs.lookup m=none /\
 t Z H1 fun vs H2=>sp (x::0e0) H2 Q E
def EY(C:Addr)(sp:Sp)(UL:List V)(E:XK)(t:TA):TE:=fun Z H Q=>t Z H fun vs H1=>∀ x dx,H1 x=none->H1 dx=none->dx≠x ->
 sp (.ref x::0e0) (TH (TH H1 dx (.own x)) x (.ins C dx [])) (fun v H2=>v=.TK/\Q (.ref x) H2) E
def Binds(K:q0B)(fd:FuncData)(ps:List Str)(ds:List Value):Prop :=
 ∀(s:Shared) (us:List Value),K.In s.heap->(us++ds).length=ps.length->BindsTo s fd ⟨us,[]⟩ (ps.zip (us++ds))
def Binds.all(h:∀ us:List Value,us.length=ps.length->bindArgs fd ⟨us,[]⟩=pure (ps.zip us)):Binds K fd ps []:=fun s us _ hl=>by
 rw[ϛ] at hl ⊢;exact .of_eq (h us hl)
def Passes(CX:CXT)(X:Cx)(E:XK):Prop:=∀(TF:List (Addr×Obj)) (Z:St) (H:Hp) (s:Shared) (e:Value) (s':Shared),TQ X TF Z H s->CX X.stack H s E e s'->X.xe e s'
end
section
mutual
example:=[e::es,s.heap.objs.size+1,vs++UL,.ref f,.ref C,.Attribute o m apos,us++ds,x==("__debug__":Str),starEach es X.env,tK I hg hm ?_ WD,.Name x p,(thn (ha pos TF s Z H _ I h) fun us s1 ⟨vs,H1,I1,r,q⟩=>⟨I1.kIn,?_⟩),(thn (he TF s Z H _ I h) fun u s1 ⟨x,H1,I1,rx,a,dx,fs,ex,ea,l,q⟩=>?_),backToKw pos (keywordEach [] X.env),getMethod ov m pl,model X.prog X.w,EP X TF Z Q]
variable{f:Addr}{sp:Sp}{UL:List V}{ds:List Value}{E:XK}{m:Str}{p apos:Pos}{o:Expr}{ta:TE}{t:TA}
def AI{Q:VK}(F:gO X.prog X.w X.K X.mg X.base CX k f fd ps sp)(hr:Room k X.A)(hb:Binds X.K fd ps ds)(hd:TU UL ds)(hx:Passes CX X E)(I:TQ X TF Z H s)(r:TU vs us)(h:sp 2e0 H Q E):wpAny 5e1 X.A (call 3e0 us) 6e1 X.xe s:=by
 have r2:TU 2e0 6e0:=r.append hd;have hl:(us++ds).length=ps.length:=by rw[<- r2.length];exact F.len _ _ _ _ h
 refine wpAny_call (codeAny_mono (F.run X.A X.stack s H ⟨us,[]⟩ 6e0 2e0 Q E hr I.QI (hb s us I.kIn hl) r2 h) fun r s' hq=>?_);cases r with
 | error e=>exact hx TF Z H s e s' I hq
 | ok fl =>
  cases fl with
  | ret u=>exact I.after hq
  | next=>exact False.elim hq
  | brk=>exact False.elim hq
  | cont=>exact False.elim hq
theorem AA(F:gO X.prog X.w X.K X.mg X.base CX k f fd ps sp)(hr:Room k X.A)(hg:Gl X x)(hm:X.mg x=some 3e0)(hk:PySem.W.keepIn X.K 3e0=true)(hb:Binds X.K fd ps ds)(hd:TU UL ds)(hx:Passes CX X E)(ha:PA X 0e0 t)(WD:7e0=false:=by decide)(he:starEach 0e0 X.env=(false,eval e X.env)::starEach es X.env:=by rfl)(Uy:(backTo pos 8e0).any (·.1)=false:=by rfl) : PE X (.Call 0e1 0e0 [] pos) (EX sp UL E t):=by
 intro TF s Z H Q I h;refine wpAny_Call_Name_kw 9e0;refine PySem.W.callWith_K (h₀:=X.base) I.ok.mod.kin hk 1e1 he Uy;exact AI F hr hb hd hx I1 r q
def AB(he:PE X o ta)(c:Cls X.K C)(hm:Meth X.K C m f)(F:gO X.prog X.w X.K X.mg X.base CX k f fd ps sp)(hr:Room k X.A)(hb:Binds X.K fd ps ds)(hd:TU UL ds)(hx:Passes CX X E)(ha:PA X 0e0 t)
    (Ud:starEach 0e0 X.env=(false,eval e X.env)::starEach es X.env:=by rfl) (Uy:(backTo pos 8e0).any (·.1)=false:=by rfl)
    (ht:eval (.Call 5e0 0e0 [] pos) X.env=(do
      let ov <- eval o X.env
      standAt apos.atName
      let (f,first) <- holding [ov] 4e1
      callWith pos f first (backTo pos (starEach 0e0 X.env)) 3e1):=by rfl) :
    PE X (.Call 5e0 0e0 [] pos) (Cz C m sp UL E ta t):=by
  intro TF s Z H Q I h;refine PySem.W.methodCall_KW (pl:=pl) 2e1 ht;subst ex;obtain rfl:u=Value.ref a:=rx;refine uZ I1 ea c hm l ?_;refine PySem.W.callWith_K (first:=[.ref a]) (h₀:=X.base) I.ok.mod.kin hm.kp (thn (ha pos TF s1 Z H1 _ I1 q) fun us s2 ⟨vs,H2,I2,r,q2⟩=>⟨I2.kIn,?_⟩) Ud Uy
  exact AI (us:=.ref a::us) (vs:=.ref a::vs) F hr hb hd hx I2 (.cons rfl r) q2
def IV(he:PE X o ta)(c:Cls X.K C)(hm:Meth X.K C m f)(F:gO X.prog X.w X.K X.mg X.base CX k f fd ps sp)(hr:Room k X.A)(hb:Binds X.K fd ps ds)(hd:TU UL ds)(hx:Passes CX X E)
    (ht:eval (.Call 5e0 [] [] pos) X.env=(do
      let ov <- eval o X.env
      standAt apos.atName
      let (f,first) <- holding [ov] 4e1
      callWith pos f first (backTo pos (starEach [] X.env)) 3e1):=by rfl) :
    PE X (.Call 5e0 [] [] pos) (Cz C m sp UL E ta qN):=by
  intro TF s Z H Q I h;refine PySem.W.methodCall_KW (pl:=pl) 2e1 ht;subst ex;obtain rfl:u=Value.ref a:=rx;refine uZ I1 ea c hm l ?_;exact PySem.W.callWith_K0 (first:=[.ref a]) I1.kIn hm.kp (AI (us:=[.ref a]) (vs:=[.ref a]) F hr hb hd hx I1 (.cons rfl .nil) q)
structure Mk(K:q0B)(C f:Addr):Prop where
 makes:PySem.W.makesIn K C=true
 init:PySem.W.findIn K 4e0 "__init__"=some (some 3e0)
 fn:PySem.W.isFn K 3e0=true
 kp:PySem.W.keepIn K 4e0=true
def Ca{Q:VK}(M:Mk X.K C f)(F:gO X.prog X.w X.K X.mg X.base CX k f fd ps sp)(hr:Room (k+1) X.A)(hb:Binds X.K fd ps ds)(hd:TU UL ds)(hx:Passes CX X E)(I:TQ X TF Z H s)(r:TU vs us)(h:∀ x dx,H x=none->H dx=none->dx≠x->sp (.ref x::2e0) (TH (TH H dx (.own x)) x (.ins C dx [])) (fun v H2=>v=.TK/\Q (.ref x) H2) E) : wpAny 5e1 X.A (call 4e0 us) 6e1 X.xe s:=by
 have hq:=h 1e0 s.heap.objs.size (I.TY.fresh (Ε5 _)) (I.TY.fresh (Ι _)) (Ρ (Nat.lt_succ_self _));have I2:=TQ.made (C:=C) I;have r2:TU (V.ref 1e0::2e0) (Value.ref 1e0::6e0):=.cons rfl (r.append hd);have hl:(Value.ref 1e0::us++ds).length=ps.length:=by
  have e:=r2.length;rw[F.len _ _ _ _ hq] at e;exact e.symm
 refine wpAny_call (Iu (f:=f) I.kIn M.makes M.init (beq_iff_eq.mp M.fn) (codeAny_mono (F.run _ X.stack _ _ ⟨Value.ref 1e0::us,[]⟩ (Value.ref 1e0::6e0) _ _ E (hr.make C us [])
  (I2.QI.make C us []) (hb _ (Value.ref 1e0::us) I2.kIn hl) r2 hq) fun r s' ZL=>?_))
 cases r with
 | error e=>exact hx TF Z _ _ e s' I2 ZL
 | ok fl =>
  cases fl with
  | ret u =>
   obtain⟨v,H',I3,rv,ev,q3⟩:=I2.after ZL;subst ev;exact⟨rv,⟨V.ref 1e0,H',I3,rfl,q3⟩⟩
  | next=>exact False.elim ZL
  | brk=>exact False.elim ZL
  | cont=>exact False.elim ZL
theorem qB(M:Mk X.K C f)(F:gO X.prog X.w X.K X.mg X.base CX k f fd ps sp)(hr:Room (k+1) X.A)(hg:Gl X x)(hm:X.mg x=some 4e0)(hb:Binds X.K fd ps ds)(hd:TU UL ds)(hx:Passes CX X E)(ha:PA X 0e0 t)(WD:7e0=false:=by decide)(he:starEach 0e0 X.env=(false,eval e X.env)::starEach es X.env:=by rfl)(Uy:(backTo pos 8e0).any (·.1)=false:=by rfl) : PE X (.Call 0e1 0e0 [] pos) (EY C sp UL E t):=by
 intro TF s Z H Q I h;refine wpAny_Call_Name_kw 9e0;refine PySem.W.callWith_K (h₀:=X.base) I.ok.mod.kin M.kp 1e1 he Uy;exact Ca M F hr hb hd hx I1 r q
theorem IU(M:Mk X.K C f)(F:gO X.prog X.w X.K X.mg X.base CX k f fd ps sp)(hr:Room (k+1) X.A)(hg:Gl X x)(hm:X.mg x=some 4e0)(hb:Binds X.K fd ps ds)(hd:TU UL ds)(hx:Passes CX X E)(WD:7e0=false:=by decide):PE X (.Call 0e1 [] [] pos) (EY C sp UL E qN):=by
 intro TF s Z H Q I h;refine wpAny_Call_Name_kw 9e0;exact PySem.W.callWith_K0 I.kIn M.kp (Ca (us:=[]) M F hr hb hd hx I .nil h)
end
end
section
variable{f:Addr}{ks:List Str}{sp:Sp}{E:XK}{m:Str}{p apos ab0:Pos}{o:Expr}{kws:List Keyword}{ta:TE}{t tk:TA}{nm:Option Str}
variable{g:List Value->List Value->List Value}{gV:List V->List V->List V}
end
mutual
example:=[((p,w)::P.zip vs),start N vs,Ab CX P w K mg base N qual scope f Uo A outer s H E,envOfC qual scope s.heap.objs.size f cd,PySem.W.fnOf name qual params body scope dV kV doc pm an Uo ct,x.above y c (Δ8 h),s.heap.objs.size+1,(by simpa using hi),(by simpa using h2),(by simpa using h1),Str×Value,ps.zip us]
structure nE(N P:List Str)(sc:Scope):Prop where
 kind:sc.kind=.function
 co:sc.isCoroutine=false
 gen:sc.isGenerator=false
 nd:N.Nodup
 pre:N.take P.length=P
 par:∀ x∈P,sc.names.lookup x=some .local\/sc.names.lookup x=some .cell
 eE:∀ y∈sc.names,y.2≠.free
theorem yN{kindOf:Str->Option NameKind}{x:Str}:∀ {binds:List 0e1} {m:q0C},(∀ v,(x,v)∉binds)->bindL kindOf binds m x=m x
 | [],_,_=>rfl
 | (n,v)::r,m,h=>by
  unfold bindL;rw[yN fun w hw=>h w (ϑ _ hw)];split
  ·have:x≠n:=by rintro rfl;exact h v List.mem_cons_self
   simp[this]
  ·rfl
theorem yL{kindOf:Str->Option NameKind}{x:Str}:∀ {binds:List 0e1} {m:q0C},(∀ v,(x,v)∉binds)->bindC kindOf binds m x=m x
 | [],_,_=>rfl
 | (n,v)::r,m,h=>by
  unfold bindC;rw[yL fun w hw=>h w (ϑ _ hw)];split
  ·rfl
  ·have:x≠n:=by rintro rfl;exact h v List.mem_cons_self
   simp[this]
theorem yM{kindOf:Str->Option NameKind}{x:Str}{v:Value}:∀ {P:List Str} {vs:List Value} {i:Nat} {m:q0C},P.Nodup->P[i]?=some x->vs[i]?=some v->kindOf x=some .local -> bindL kindOf (P.zip vs) m x=some v
 | [],_,_,_,_,h,_,_=>by simp at h
 | _::_,[],_,_,_,_,h,_=>by simp at h
 | p::P,w::vs,0,m,nd,h1,h2,hk=>by
  simp at h1 h2;subst h1;subst h2;show bindL kindOf 0e0 m p=_;unfold bindL;rw[yN fun v hv=>(ϗ.mp nd).1 (List.of_mem_zip hv).1,if_pos hk];simp
 | p::P,w::vs,i+1,m,nd,h1,h2,hk=>by
  show bindL kindOf 0e0 m x=_;unfold bindL;exact yM (i:=i) (ϗ.mp nd).2 9e0 8e0 hk
theorem yK{kindOf:Str->Option NameKind}{x:Str}{v:Value}:∀ {P:List Str} {vs:List Value} {i:Nat} {m:q0C},P.Nodup->P[i]?=some x->vs[i]?=some v->kindOf x≠some .local -> bindC kindOf (P.zip vs) m x=some v
 | [],_,_,_,_,h,_,_=>by simp at h
 | _::_,[],_,_,_,_,h,_=>by simp at h
 | p::P,w::vs,0,m,nd,h1,h2,hk=>by
  simp at h1 h2;subst h1;subst h2;show bindC kindOf 0e0 m p=_;unfold bindC;rw[yL fun v hv=>(ϗ.mp nd).1 (List.of_mem_zip hv).1,if_neg hk];simp
 | p::P,w::vs,i+1,m,nd,h1,h2,hk=>by
  show bindC kindOf 0e0 m x=_;unfold bindC;exact yK (i:=i) (ϗ.mp nd).2 9e0 8e0 hk
def start(N:List Str)(vs:List V):St:=vs.map some++List.replicate (N.length - vs.length) none
def Ab(CX:CXT)(P:Program)(w:World)(K:q0B)(mg:q0C)(base:Heap)(N:List Str)(qual:Str)(scope:Scope)(f:Addr)(cd:Value)(A:Around)(outer:List Env)(s:Shared)(H:Hp)(E:XK):Cx where
 prog:=P
 w:=w
 K:=K
 mg:=mg
 base:=base
 A:=A.deeper 3e0
 N:=N
 s₀:=s
 H₀:=H
 env:=envOfC qual scope s.heap.objs.size f cd
 outer:=outer
 stack:=envOfC qual scope s.heap.objs.size f cd::outer
 ex:=[]
 calm:=true
 fn:=fun _=>true
 pn:=[]
 xe:=fun e s'=>wpAny (model P w) (A.deeper 3e0) (leaving 3e0 e) (fun _ YE=>CX outer H s E e YE) (fun e' YE=>CX outer H s E e' YE) s'
def Bg{sc:Scope}(h:sc.names.lookup x=some .cell):∃ c,(cellsFrom n sc.names []).lookup x=some c:=by
 have q:=PySem.W.cellsFrom_some sc.names n [] (.inl h);exact Δ7.mp q
theorem Fs{N:List Str}{qual:Str}{f:Addr}{cd:Value}{s1:Shared}{E:XK}(S:nE N ps scope)(hd:A.handled=none)(e0:Env0 P w K mg base A outer s H)(hl:vs.length=ps.length)(r:TU vs us)(x:InCallC s s.heap.objs.size (bindL (envOfC qual scope s.heap.objs.size f cd).kindOf 1e1 fun _=>none) (cellsFrom 6e0 scope.names []) (bindC (envOfC qual scope s.heap.objs.size f cd).kindOf 1e1 fun _=>none) s1) : TQ (Ab CX P w K mg base N qual scope f cd A outer s H E) [] 1e0 H s1:=by
 have Uy:ps.length<=N.length:=by have:=congrArg List.length S.pre;rw[Α7] at this;omega
 obtain⟨h1,tk,rfl,hk⟩:=x.done;have ZZ:∀ b:Addr,b∉(Ab CX P w K mg base N qual scope f cd A outer s H E).ex:=fun b z=>absurd (show b∈([]:List Addr) from z) (by simp);refine⟨⟨e0.mod,S.kind,rfl,rfl,Ι _,fun y z c h1 h2=>?_,fun y hy=>?_,fun y c _ h=>?_,fun _=>hd,Around.frames_deeper e0.frames,.inr ⟨rfl,rfl⟩,fun b z=>absurd z (ZZ b),e0.bs,e0.bsz,fun b _ _=>ZZ b,fun b z=>absurd z (ZZ b),e0.pG,e0.frf⟩,
  rfl,e0.bare,Un.kept hk,⟨_,x.toInCall.ns,fun i y v h1 h2 h3=>?_⟩,fun y c h=>⟨_,x.cell y c h⟩,e0.TY.fresh (Ι _),fun y c h=>?_,fun p hp=>absurd (show p∈([]:List (Addr×Obj)) from hp) (by simp),e0.TY.kept hk,?_⟩
 ·exact name_of_addr x.apart (Δ8 h1) (Δ8 h2)
 ·have hy:scope.names.lookup y=some .cell\/scope.names.lookup y=some .free:=hy;rcases hy with hy|hy
  ·exact Bg hy
  ·exact absurd rfl (S.eE _ (Δ8 hy))
 ·exact Nat.le_of_lt 5e0
 ·have hi:i < vs.length:=by
   unfold start at h2;by_cases hi:i < vs.length
   ·exact hi
   ·rw[Β8 7e0] at h2;rw[List.getElem?_replicate] at h2;split at h2<;>cases h2
  have ha:vs[i]?=some v:=by
   unfold start at h2;rw[Β2 7e0,ϔ] at h2;cases e:vs[i]? with
   | none=>rw[e] at h2;cases h2
   | some a=>rw[e] at h2;cases h2;rfl
  obtain⟨u,hu,rv⟩:=r.get ha;have hp:ps[i]?=some y:=by
   rw[<- S.pre,List.getElem?_take_of_lt (by omega)];exact h1
  have ndP:ps.Nodup:=by rw[<- S.pre];exact S.nd.sublist (List.take_sublist _ _)
  refine⟨u,rv,?_⟩;rcases S.par y (Υ hp) with k|k
  ·exact .inl ⟨k,yM ndP hp hu k⟩
  ·obtain⟨c,e⟩:=Bg (n:=s.heap.objs.size+1) k;refine .inr ⟨.inl k,c,e,?_⟩;have q:=x.cell y c e;rw[yK ndP hp hu (by show scope.names.lookup y≠_;rw[k];decide)] at q;exact q
 ·exact e0.TY.fresh (Nat.le_of_lt 5e0)
 ·unfold start;show _=N.length;rw[Ν,Γ,List.length_replicate];omega
def QL{f:Addr}{name qual:Str}{params:Arguments}{dV kV doc pm Uo ct oc:Value}{an od:Option Addr}{Wm:Array (Option Value)}{N:List Str}{sp:Sp}(lk:K.lookup f=some ⟨oc,od,.func 4e0,Wm⟩)(WC:PySem.W.codeIn K Uo qual=true)(S:nE N ps scope)(len:∀ vs H Q E,sp vs H Q E->vs.length=ps.length)(Vm:∀(A:Around) (outer:List Env) (s:Shared) (H:Hp) (vs:List V) (Q:VK) (E:XK),Room k (A.deeper (envOfC qual scope s.heap.objs.size f Uo))->sp vs H Q E -> ∃ t,Va 2e0 body t/\t {nx:=fun _ H'=>Q .TK H',rt:=Q} 1e0 H) : gO P w K mg base CX (k+1) f 4e0 ps sp:=by
 refine⟨len,fun A outer s H args us vs Q E hr e0 hb r XM=>?_⟩;have hl:=len _ _ _ _ XM;have KX:K.In s.heap:=e0.mod.kin.keeps fun b o e=>(e0.bs b o e).1;have lim:s.heap.NoLimit:=e0.mod.nolimit.keeps fun b o e=>(e0.bs b o e).1;have UO:∀ y∈ps.zip us,scope.names.lookup y.1=some .local\/(scope.names.lookup y.1=some .cell/\((cellsFrom 6e0 scope.names []).lookup y.1).isSome=true):=fun⟨n,v⟩ hy=>by
  rcases S.par n (List.of_mem_zip hy).1 with q|q
  ·exact .inl q
  ·exact .inr ⟨q,PySem.W.cellsFrom_some _ _ _ (.inl q)⟩
 refine codeAny_call_function hr.depth (KX _ _ lk) rfl S.co S.gen rfl (PySem.W.codeRec_of KX WC) (hb _ _ _ _ ?_);refine wpAny_newFunctionEnv_cells S.kind UO fun env he s1 x=>?_;subst he;refine⟨lim.keeps x.toInCall.keep,codeAny_func ?_⟩;obtain⟨t,ht,hq⟩:=Vm A outer s H vs Q E (hr.deeper _) XM;have I:TQ 2e0 [] 1e0 H s1:=Fs S hr.hd e0 hl r x;refine Β5 (ht [] s1 1e0 H _ I hq) (fun fl s' hs=>?_) fun e s' hs=>hs;have fin:∀ {Z':St} {H':Hp} {v:V} {u:Value},TQ 2e0 [] Z' H' s'->bQ v u->Q v H'->CE outer P w H s Q u s' :=
  fun {Z' H' v u} J rv q=>⟨v,H',J.os,J.bare,J.base,J.TY,rv,q⟩
 cases fl with
 | ret u =>
  obtain⟨v,Z',H',J,rv,q⟩:=hs;exact fin J rv q
 | next =>
  obtain⟨Z',H',J,q⟩:=hs;exact fin (v:=V.TK) (u:=Value.none) J rfl q
 | brk =>
  obtain⟨_,_,_,q⟩:=hs;exact False.elim q
 | cont =>
  obtain⟨_,_,_,q⟩:=hs;exact False.elim q
end
section
variable{p:Pos}{t:TA}{id T:String}{r:List V->Hp->VK->Prop}
def Tb(r:List V->Hp->VK->Prop)(t:TA):TE:=fun Z H Q=>t Z H fun vs H1=>r vs H1 Q
theorem bF(hc:gA X (.builtin id) r)(hg:Gl X x)(hm:X.mg x=none)(hv:bootBuiltins x=some (.builtin id))(ha:PA X (e::es) t)(hn:x≠"__name__":=by decide)(WD:(x==("__debug__":Str))=false:=by decide)(he:starEach (e::es) X.env=(false,eval e X.env)::starEach es X.env:=by rfl)(Uy:(backTo pos (starEach es X.env)).any (·.1)=false:=by rfl):PE X (.Call (.Name x p) (e::es) [] pos) (Tb r t):=by
 intro TF s Z H Q I h;refine wpAny_Call_Name_kw (C4 I hg hm hv ?_ hn WD);exact PyProof.Rows.callWith_builtin1 (thn (ha pos TF s Z H _ I h) fun us s1 ⟨vs,H1,I1,r1,q1⟩=>hc TF s1 Z H1 vs us Q I1 r1 q1) he Uy
theorem bN(hc:gA X (.type T) r)(hg:Gl X x)(hm:X.mg x=none)(hv:bootBuiltins x=some (.type T))(ha:PA X (e::es) t)(hn:x≠"__name__":=by decide)(WD:(x==("__debug__":Str))=false:=by decide)(he:starEach (e::es) X.env=(false,eval e X.env)::starEach es X.env:=by rfl)(Uy:(backTo pos (starEach es X.env)).any (·.1)=false:=by rfl):PE X (.Call (.Name x p) (e::es) [] pos) (Tb r t):=by
 intro TF s Z H Q I h;refine wpAny_Call_Name_kw (C4 I hg hm hv ?_ hn WD);exact PyProof.Rows.callWith_type1 (thn (ha pos TF s Z H _ I h) fun us s1 ⟨vs,H1,I1,r1,q1⟩=>hc TF s1 Z H1 vs us Q I1 r1 q1) he Uy
end
end L2
namespace HT
open PySem PyProof.Rows
section
open PySem.SeqAt
open PySem.AutoSeq1 (wpAny_loadPart')
open PySem.MeetsSeq PySem.MeetsSeq2 PySem.MeetsSeq3
end
section
mutual
example:=[iF items.size items.size hi - iF items.size 0 lo,(Θ ⟨_,rfl,Θ h⟩),model prog w,.ref t,iF items.size 0 lo,(by decide),.ref sl,(if v < 0 then max (v+(n:Int)) 0 else min v (n:Int)),(if v < 0 then (v+(n:Int)).toNat else min v.toNat n),PySem.F.args_tuple_add_2 _ _,.ref s.heap.objs.size,(by simpa using hv)]
variable{prog:Program}{w:World}{A:Around}{E:q0A}{s:Shared}
def J2{t b:Addr}{vs ws:List Value}{Q:q0A}(ht:IsTup s.heap t vs.toArray)(hb:IsTup s.heap b ws.toArray)(hv:vs≠[])(h1:ws=[]->Q 3e0 s)(h2:ws≠[]->Q 0e1 {s with heap:=s.heap.push {cls:=.type "tuple",data:=.seq (vs++ws).toArray}})(hsz:vs.length+ws.length<=sizeLine):wpAny 2e0 A (binaryOp .Add 3e0 (.ref b)) Q E s:=by
 obtain⟨⟨cls,dd,data,sl⟩,ho,hc,n,hd⟩:=id ht;obtain⟨⟨abS,dd2,data2,Vt⟩,UC,hc2,n2,hd2⟩:=id hb;simp only at hc hd hc2 hd2;subst hc hd hc2 hd2;have e:vs.toArray++ws.toArray=(vs++ws).toArray:=by simp
 by_cases hw:ws=[]
 ·exact concat_meets ⟨_,ho,rfl⟩ ⟨_,UC,rfl⟩ noFill_tuple_add seq_tuple_add PySem.F.slot_tuple_add PySem.F.entry_tuple_add 9e0
   (tuple_addW1 t b vs.toArray ws.toArray n n2 dd dd2 sl Vt 1e1 (by simp[hw])) ⟨ho,UC,h1 hw⟩
 ·refine concat_meets ⟨_,ho,rfl⟩ ⟨_,UC,rfl⟩ noFill_tuple_add seq_tuple_add PySem.F.slot_tuple_add PySem.F.entry_tuple_add 9e0
   (tuple_addW2 t b vs.toArray ws.toArray n n2 dd dd2 sl Vt 1e1 (by simpa using hw) (by rw[Ε,Ε];exact hsz)) ⟨ho,UC,?_⟩
  rw[e];exact h2 hw
def iF(n d:Nat):Option Int->Nat
 | none=>d
 | some v=>if v < 0 then (v+(n:Int)).toNat else min v.toNat n
theorem Pf(n d:Nat)(hd:d<=n)(o:Option Int):iF n d o<=n:=by
 cases o with
 | none=>exact hd
 | some v =>
  show 8e0<=n;by_cases hv:v < 0
  ·rw[if_pos hv];omega
  ·rw[if_neg hv];exact Nat.min_le_right _ _
theorem DR(v:Int)(n d:Nat):7e0=((iF n d (some v):Nat):Int):=by
 show 7e0=((8e0:Nat):Int);by_cases hv:v < 0
 ·simp only[if_pos hv];omega
 ·simp only[if_neg hv];omega
theorem CM(lo hi:Option Int)(n:Nat):Builtin.Slice.sliceAdjust lo hi 1 (n:Int)=(((iF n 0 lo:Nat):Int),((iF n n hi:Nat):Int)):=by
 have h1:¬ ((1:Int) < 0):=by omega
 unfold Builtin.Slice.sliceAdjust;simp only[h1,Β4];refine Prod.ext ?_ ?_
 ·cases lo with
  | none=>rfl
  | some v=>exact DR v n 0
 ·cases hi with
  | none=>rfl
  | some v=>exact DR v n n
theorem Dp(i j:Nat):Builtin.Slice.slicePlaces (i:Int) (j:Int) 1=j - i:=by
 unfold Builtin.Slice.slicePlaces;have h1:(1:Int) > 0:=by omega
 simp only[h1,Γ3,Int.ediv_one];split<;>omega
def xE{v:Value}{o:Option Int}{Q:Option Int->Shared->Prop}(p:IsPart v o)(h:Q o s):wpAny 2e0 A (Builtin.Slice.slicePartIndex v) Q E s:=by
 cases p with
 | none=>exact slicePart_none h
 | int i t=>exact slicePart_int h
theorem rX{sl:Addr}{vl vu:Value}{lo hi:Option Int}{n:Nat}{Q:Int×Int×Nat->Shared->Prop}(hs:s.heap.IsSliceOf sl vl vu .none)(pl:IsPart vl lo)(pu:IsPart vu hi)(h:Q (((iF n 0 lo:Nat):Int),1,iF n n hi - iF n 0 lo) s):wpAny 2e0 A (Builtin.Slice.sliceApplied 6e0 (pure (n:Int))) Q E s:=by
 obtain⟨os,ZI,hcs,WE⟩:=id hs;unfold Builtin.Slice.sliceApplied Builtin.Slice.sliceFields;refine Β (Β (wpAny_field ZI WE (x:=vl) rfl (Β (wpAny_field ZI WE (x:=vu) rfl (Β (wpAny_field ZI WE (x:=.none) rfl (Θ ?_)))))));refine Β (slicePart_none ?_);show wpAny _ _ (if ((1:Int)==0)=true then _ else _) _ _ s;rw[if_neg 5e0];refine Β (xE pl (Β (xE pu (Β (Θ ?_)))));show wpAny _ _ (match Builtin.Slice.sliceAdjust lo hi 1 (n:Int) with|(lo,hi)=>pure (lo,(1:Int),Builtin.Slice.slicePlaces lo hi 1)) _ _ s;rw[CM lo hi n];show wpAny _ _ (pure (((iF n 0 lo:Nat):Int),(1:Int),Builtin.Slice.slicePlaces ((iF n 0 lo:Nat):Int) ((iF n n hi:Nat):Int) 1)) _ _ s;rw[Dp];exact Θ h
theorem I8(xs:Array Value)(i k:Nat):((List.range k).filterMap fun(m:Nat)=>xs[((i:Int)+(m:Int) * 1).toNat]?).toArray=((xs.toList.drop i).take k).toArray:=by
 have e:(fun(m:Nat)=>xs[((i:Int)+(m:Int) * 1).toNat]?)=fun m=>xs[i+m]?:=by
  funext m;have:((i:Int)+(m:Int) * 1).toNat=i+m:=by omega
  rw[this]
 rw[e];have:=pick_run xs i k;rw[List.filterMap_map] at this;have e2:((fun x=>xs[x]?)∘fun x=>i+x)=fun m=>xs[i+m]?:=rfl;rw[e2] at this;rw[this]
theorem pH{t sl:Addr}{items:Array Value}{vl vu:Value}{lo hi:Option Int}{Q:q0A}(ht:IsTup s.heap t items)(hs:s.heap.IsSliceOf sl vl vu .none)(pl:IsPart vl lo)(pu:IsPart vu hi)(hw:¬ (iF items.size 0 lo=0/\iF items.size items.size hi=items.size))(h:Q 0e1 {s with heap:=s.heap.push {cls:=.type "tuple",data:=.seq ((items.toList.drop 4e0).take 0e0).toArray}})(hsz:items.size<=sizeLine):wpAny 2e0 A (getItem 3e0 6e0) Q E s:=by
 have VR:sizeOk (.seq ((items.toList.drop 4e0).take 0e0).toArray):=by
  show((items.toList.drop 4e0).take 0e0).toArray.size<=sizeLine;rw[Ε,Α7,List.length_drop,Γ7];omega
 have hj:iF items.size items.size hi<=items.size:=Pf _ _ (Ι _) hi;obtain⟨os,ZI,hcs,WE⟩:=id hs;have hTs:s.TypeIs 6e0 "slice":=⟨os,ZI,hcs⟩;unfold getItem
 try with_reducible refine Β0 ?_
 first|refine Β (Θ ?_)|skip
 refine Β (wpAny_sequenceKey ht.typeIs 5e0 ?_);refine Β (wpAny_callSpecial?_slot (name:=Str.ofString "__getitem__") ht.typeIs PyProof.Rows.slot_tuple_getitem
  (wpAny_call_entry PyProof.Rows.slot_tuple_getitem ht.typeIs entry_tuple_getitem ?_ (args_tuple_getitem _ _)))
 show wpAny _ _ (Builtin.Tuple.tupleItemsOf 3e0 >>= _) _ _ s;refine Β (tupleItemsOf_ ht ?_);refine Β (wpAny_typeOf hTs ?_);rw[if_pos 5e0];refine Β (rX hs pl pu ?_);have hno:¬ ((((iF items.size 0 lo:Nat):Int)==0&&(1:Int)==1&&0e0==items.size)=true):=by
  intro q;rw[Γ9,Γ9] at q;have q1:((iF items.size 0 lo:Nat):Int)=0:=eq_of_beq q.1.1;have q2:iF items.size items.size hi - iF items.size 0 lo=items.size:=eq_of_beq q.2;exact hw ⟨by omega,by omega⟩
 show wpAny _ _ (if (((iF items.size 0 lo:Nat):Int)==0&&(1:Int)==1&&0e0==items.size)=true then _ else _) _ _ s;rw[if_neg hno,I8]
 first
  | exact Β (m:=Builtin.Tuple.tupleExact _) (Γ0 1e0 VR)
  | exact Β (m:=Builtin.Tuple.tupleExact _) (Γ0 (Β (Θ 1e0)) VR)
  | exact Β (Β (m:=Builtin.Tuple.tupleExact _) (Γ0 (Θ 1e0) VR))
  | exact Β (Β (m:=Builtin.Tuple.tupleExact _) (Γ0 1e0 VR))
end
end
end HT
namespace L2
open PySem PySem.Spec PyProof.Rows
mutual
example:=[Addr×Obj]
variable{a:Addr}{X:Cx}{H:Hp}{TF:List 0e0}{xs:List (List Key×Addr×Value)}{kvs:List (List Key×V)}{VJ:List (TE×TE)}{us:List Value}{n t':Nat}{o:Option V}{pos:Pos}{P:Program}{s:Shared}{Z:St}{y:V}{u:Value}{w:World}{Q:q0A}
abbrev TO:=St->Hp->(Option Int->Hp->Prop)->Prop
def PO(X:Cx)(e:Option Expr)(t:TO):Prop :=
 ∀(TF:List 0e0) (s:Shared) (Z:St) (H:Hp) (Q:Option Int->Hp->Prop),TQ X TF Z H s->t Z H Q ->
  wpAny (model X.prog X.w) X.A (evalPart e X.env) (fun u s'=>∃ o H',TQ X TF Z H' s'/\IsPart u o/\Q o H') X.xe s
def EZ:TO:=fun _ H Q=>Q none H
def JJ(t:TE):TO:=fun Z H Q=>t Z H fun x H1=>∃ i,x=.int i/\Q (some i) H1
def C2{ns:List Int}:∀ {us:List Value},TU (ns.map V.int) us->IntsAre us ns:=by
 induction ns with
 | nil=>intro us r;rw[List.map_nil] at r;cases r;exact .nil
 | cons n ns ih =>
  intro us r;rw[ϓ] at r;cases r with
  | cons r1 r2 =>
   obtain⟨t,e⟩:=r1;subst e;exact .cons n t (ih r2)
end
section
mutual
example:=[HT.iF xs.length xs.length hi - HT.iF xs.length 0 lo,HT.iF xs.length 0 lo,.Slice lo hi none p2,(fun b ob q=>Η _ q),I.TY.fresh (Ι _),model X.prog X.w,qU xs lo hi,EP X TF Z Q]
variable{e:Expr}{te:TE}{lo hi:Option Expr}{tl th:TO}{p2:Pos}
def Lv:PO X none EZ:=by
 intro TF s Z H Q I h;rw[evalPart_none];exact Θ ⟨none,H,I,.none,h⟩
def iJ(h:PE X e te):PO X (some e) (JJ te):=by
 intro TF s Z H Q I hw;rw[evalPart_some];refine thn (h TF s Z H _ I hw) fun u s1 ⟨x,H1,I1,r1,q1⟩=>?_;obtain⟨i,rfl,q⟩:=q1;obtain⟨t,rfl⟩:=r1;exact⟨some i,H1,I1,.int i t,q⟩
def JS(X:Cx)(r:V->Option Int->Option Int->Hp->VK->Prop):Prop :=
 ∀(TF:List (Addr×Obj)) (s:Shared) (Z:St) (H:Hp) (x:V) (v vl vu:Value) (lo hi:Option Int) (sl:Addr) (Q:VK),TQ X TF Z H s->bQ x v->s.heap.IsSliceOf sl vl vu .none->IsPart vl lo->IsPart vu hi->r x lo hi H Q ->
  ∃ T id,typeLookup (.type T) "__getitem__"=pure (some (.builtin id))/\s.TypeIs v T/\wpAny 5e0 X.A (getItem v (.ref sl)) 7e0 X.xe s
def JS.or{r r':V->Option Int->Option Int->Hp->VK->Prop}(h:JS X r)(h':JS X r'):JS X (fun x lo hi H Q=>r x lo hi H Q\/r' x lo hi H Q):=by
 intro TF s Z H x v vl vu lo hi sl Q I rx hs pl pu q;rcases q with q|q
 ·exact h TF s Z H x v vl vu lo hi sl Q I rx hs pl pu q
 ·exact h' TF s Z H x v vl vu lo hi sl Q I rx hs pl pu q
def Tq(r:V->Option Int->Option Int->Hp->VK->Prop)(te:TE)(tl th:TO):TE:=fun Z H Q=>te Z H fun x H1=>tl Z H1 fun l H2=>th Z H2 fun u H3=>r x l u H3 Q
def IW{r:V->Option Int->Option Int->Hp->VK->Prop}(hr:JS X r)(he:PE X e te)(hl:PO X lo tl)(hu:PO X hi th):PE X (.Subscript e 2e0 pos) (Tq r te tl th):=by
 intro TF s Z H Q I h;refine Subscript_ (thn (he TF s Z H _ I h) fun v s1 ⟨x,H1,I1,r1,q1⟩=>?_);refine wpAny_Slice (thn (hl TF s1 Z H1 _ I1 q1) fun vl s2 ⟨l,H2,I2,pl,q2⟩=>thn (hu TF s2 Z H2 _ I2 q2) fun vu s3 ⟨u,H3,I3,pu,q3⟩=>?_);rw[evalPart_none];refine Θ ?_;have I4:TQ X TF Z H3 {s3 with heap:=s3.heap.push {cls:=.type "slice",data:=.fields #[vl,vu,.none]}}:=I3.kept (t':=s3.toks) fun b ob q=>Η _ q;obtain⟨T,id,hT,ht,hg⟩:=hr TF {s3 with heap:=s3.heap.push {cls:=.type "slice",data:=.fields #[vl,vu,.none]}} Z H3 x v vl vu l u s3.heap.objs.size Q I4 r1 (Heap.IsSliceOf.new ..) pl pu q3;show wpAny 5e0 X.A (subscriptTail e 2e0 v (.ref s3.heap.objs.size)) 7e0 X.xe {s3 with heap:=s3.heap.push {cls:=.type "slice",data:=.fields #[vl,vu,.none]}};exact tail_any (ops:=[.ref s3.heap.objs.size,v]) ht hT hg (by with_unfolding_all rfl)
def qU(xs:List V)(lo hi:Option Int):List V:=(xs.drop 1e0).take 0e0
theorem sD(xs:List V)(lo hi:Option Int):(qU xs lo hi).length<=xs.length:=by
 unfold qU;rw[Α7,List.length_drop];omega
def S9(K:q0B):V->Option Int->Option Int->Hp->VK->Prop:=fun x lo hi H Q=>∃ a xs,x=.ref a/\iR K H a xs /\
 ¬ (HT.iF xs.length 0 lo=0/\HT.iF xs.length xs.length hi=xs.length)/\∀ p,H p=none->Q (.ref p) (TH H p (.tup 6e0))
def Ph:JS X (S9 X.K):=by
 intro TF s Z H x v vl vu lo hi sl Q I rx hs pl pu h;obtain⟨a,xs,rfl,hx,hw,q⟩:=h;cases rx;obtain⟨TR,r,ht,hz⟩:=I.tuple hx;have hlen:TR.toArray.size=xs.length:=by rw[Ε];exact r.length.symm
 refine⟨"tuple",_,PyProof.Rows.slot_tuple_getitem.lookup,ht.typeIs,?_⟩;refine HT.pH ht hs pl pu (by rw[hlen];exact hw) ?_ (by rw[hlen];exact hz);rw[hlen];refine⟨.ref s.heap.objs.size,_,I.laid (t':=s.toks) (o:=.tup 6e0) 3e0 (Ι _) ?_,rfl,q _ 4e0⟩;exact⟨ϒ (sD xs lo hi) hz,_,(r.drop 1e0).take 0e0,IsTup.new _ _⟩
def Rh(K:q0B):R2:=fun x y H Q=>∃ a b xs ys,x=.ref a/\y=.ref b/\iR K H a xs/\iR K H b ys/\xs≠[]/\xs.length+ys.length<=sizeLine /\
 (ys=[]->Q (.ref a) H)/\(ys≠[]->∀ p,H p=none->Q (.ref p) (TH H p (.tup (xs++ys))))
def TU.tN{xs:List V}(r:TU xs us):us=[]↔xs=[]:=by
 cases r with
 | nil=>simp
 | cons _ _=>simp
def Er:jT X (binaryOp .Add) (Rh X.K):=by
 intro TF s Z H x y v u Q I rx ry h;obtain⟨a,b,xs,ys,rfl,rfl,ha,hb,hx,hz,q1,q2⟩:=h;cases rx;cases ry;obtain⟨TR,r1,p1,_⟩:=I.tuple ha;obtain⟨UU,r2,p2,_⟩:=I.tuple hb;refine HT.J2 p1 p2 (fun z=>hx (r1.tN.mp z)) (fun z=>⟨.ref a,H,I,rfl,q1 (r2.tN.mp z)⟩) (fun z=>?_) (by rw[<- r1.length,<- r2.length];exact hz);refine⟨.ref s.heap.objs.size,_,I.laid (t':=s.toks) (o:=.tup (xs++ys)) 3e0 (Ι _) ?_,rfl,q2 (fun w=>z (r2.tN.mpr w)) _ 4e0⟩;exact⟨by rw[Ν];exact hz,_,r1.append r2,IsTup.new _ _⟩
end
end
mutual
example:=[(by omega),model X.prog X.w,EP X TF Z Q,Addr×Obj]
def yA(n:Nat)(i:Int):Option Nat:=if 0<=i then (if i < n then some i.toNat else none) else if -(n:Int)<=i then some (i+n).toNat else none
def fU{α:Type}(xs:List α)(i:Int):Option α:=(yA xs.length i).bind fun j=>xs[j]?
theorem Ei{i:Int}{j:Nat}(h:yA n i=some j):seqIndex? i n=some j/\j < n/\-(n:Int)<=i/\i < n:=by
 unfold yA at h;by_cases h0:0<=i
 ·rw[if_pos h0] at h;by_cases h1:i < n
  ·rw[if_pos h1] at h;have e:i.toNat=j:=ϖ h;exact⟨by rw[seqIndex_of h0 h1,e],by omega,by omega,h1⟩
  ·rw[if_neg h1] at h;cases h
 ·rw[if_neg h0] at h;by_cases h1:-(n:Int)<=i
  ·rw[if_pos h1] at h;have e:(i+n).toNat=j:=ϖ h;exact⟨by rw[seqIndex_neg 0e0 h1,e],by omega,h1,by omega⟩
  ·rw[if_neg h1] at h;cases h
def tH{α:Type}{xs:List α}{i:Int}{v:α}(h:fU xs i=some v):∃ j,seqIndex? i xs.length=some j/\xs[j]?=some v/\j < xs.length/\-(xs.length:Int)<=i/\i < xs.length:=by
 unfold fU at h;cases e:yA xs.length i with
 | none=>rw[e] at h;cases h
 | some j =>
  rw[e] at h;obtain⟨h1,h2,h3,h4⟩:=Ei e;exact⟨j,h1,h,h2,h3,h4⟩
theorem eI{α:Type}{xs:List α}{j:Nat}{v:α}(h:xs[j]?=some v):fU xs (j:Int)=some v:=by
 have hj:j < xs.length:=(Λ.mp h).1;have e:yA xs.length (j:Int)=some j:=by
  unfold yA;rw[if_pos 0e0,if_pos 0e0];simp
 unfold fU;rw[e];exact h
theorem kH{α:Type}(xs:List α)(v:α):fU (xs++[v]) (-1)=some v:=by
 have hl:(xs++[v]).length=xs.length+1:=by simp
 have e:yA (xs++[v]).length (-1)=some xs.length:=by
  unfold yA;rw[hl,if_neg (by decide),if_pos 0e0]
  congr 1
  omega
 unfold fU;rw[e];show(xs++[v])[xs.length]?=some v;simp
def DM(b:Expr):Prop:=∀ o i,subscripted b false o i=operate [o,i] (getItem o i)
def DL(X:Cx)(r:R2):Prop :=
 ∀(value slice:Expr) (TF:List 3e0) (s:Shared) (Z:St) (H:Hp) (x y:V) (v u:Value) (Q:VK),TQ X TF Z H s->bQ x v->bQ y u->r x y H Q ->
  subscripted slice false v u=operate [v,u] (getItem v u)->wpAny 1e0 X.A (subscriptTail value slice v u) 2e0 X.xe s
def Tt(X:Cx)(id:String)(r:V->List V->Hp->VK->Prop):Prop :=
 ∀(TF:List 3e0) (s:Shared) (Z:St) (H:Hp) (x:V) (xs:List V) (v:Value) (us:List Value) (Q:VK),TQ X TF Z H s->bQ x v->TU xs us->r x xs H Q ->
  wpAny 1e0 X.A (call (.builtin id) (v::us)) 2e0 X.xe s
end
section
mutual
example:=[CY x,(by omega),Ι _,(fun w hw=>mJ rx fx r fs w (by simpa using hw)),(by simp only[Ε]<;>omega),.tup ys,.lst ys,.lst xs,(fun h' c' kp e=>fin TR r' hz h' c' kp e),(by rw[hk];exact⟨_,I',q⟩),TH H p (.lst (xs.set j v)),(by rw[hj];simpa using ew),(by rw[Ε]<;>omega),I.TY.fresh 2e0,qU xs lo hi]
variable{a b:Expr}{ta tb:TE}
def DL.or{r r':R2}(h:DL X r)(h':DL X r'):DL X (fun x y H Q=>r x y H Q\/r' x y H Q):=by
 intro value slice TF s Z H x y v u Q I rx ry q hs;rcases q with q|q
 ·exact h value slice TF s Z H x y v u Q I rx ry q hs
 ·exact h' value slice TF s Z H x y v u Q I rx ry q hs
def Q8{r:R2}(hr:DL X r)(ha:PE X a ta)(hb:PE X b tb)(hs:DM b):PE X (.Subscript a b pos) (DA r ta tb):=by
 intro TF s Z H Q I h;exact Subscript_ (MT ha hb I h fun v u s2 x y H2 I2 rx ry q=>hr a b TF s2 Z H2 x y v u Q I2 rx ry q (hs _ _))
def Ri(K:q0B):R2:=fun x y H Q=>∃ p xs i v,x=.ref p/\y=.int i/\fY K H p xs/\fU xs i=some v/\Q v H
def Rk(K:q0B):R2:=fun x y H Q=>∃ p xs i v,x=.ref p/\y=.int i/\iR K H p xs/\fU xs i=some v/\Q v H
def Rj:R2:=fun x y H Q=>∃ z i c,x=.str z/\y=.int i/\z.length<=sizeLine/\fU z.cps.toList i=some c/\Q (.str ⟨#[c]⟩) H
theorem Lb:DL X (Ri X.K):=by
 intro value slice TF s Z H x y v u Q I rx ry h hs;obtain⟨p,xs,i,z,rfl,rfl,hq,he,q⟩:=h;cases rx;obtain⟨t,rfl⟩:=ry;obtain⟨TR,r,pl,hz⟩:=I.list hq;obtain⟨j,h1,h2,h3,h4,h5⟩:=tH he;obtain⟨w,ew,UW⟩:=r.get h2;have hl:=r.length;have hn:=line63;have fin:EP X TF Z Q w s:=⟨z,H,I,UW,q⟩;by_cases h0:0<=i
 ·have hj:i.toNat=j:=by
   rw[seqIndex_of h0 h5] at h1;exact ϖ h1
  exact item_listR pl.isList h0 1e0 1e1 fin hs
 ·have hj:(i+(TR.toArray.size:Int)).toNat=j:=by
   rw[seqIndex_neg 1e0 h4] at h1;rw[Ε,<- hl];exact ϖ h1
  exact subscriptTail_builtinR (x:=w) pl.isList.typeIs slot_list_getitem.lookup
   (wpAny_getItem_list_neg (Q:=fun r s'=>r=w/\EP X TF Z Q r s') pl.isList 1e0 2e1 1e0 1e1 ⟨rfl,fin⟩) hs
theorem OG:DL X (Rk X.K):=by
 intro value slice TF s Z H x y v u Q I rx ry h hs;obtain⟨p,xs,i,z,rfl,rfl,hq,he,q⟩:=h;cases rx;obtain⟨t,rfl⟩:=ry;obtain⟨TR,r,pl,hz⟩:=I.tuple hq;obtain⟨j,h1,h2,h3,h4,h5⟩:=tH he;obtain⟨w,ew,UW⟩:=r.get h2;have hl:=r.length;have hn:=line63;have fin:EP X TF Z Q w s:=⟨z,H,I,UW,q⟩;exact subscriptTail_builtinR (x:=w) pl.typeIs slot_tuple_getitem.lookup
  (getItem_tuple (j:=j) (Q:=fun r s'=>r=w/\EP X TF Z Q r s') pl 1e0 1e0 (by rw[Ε,<- hl];exact h1) (by simpa using ew) ⟨rfl,fin⟩) hs
theorem OF:DL X Rj:=by
 intro value slice TF s Z H x y v u Q I rx ry h hs;obtain⟨z,i,c,rfl,rfl,hz,he,q⟩:=h;obtain⟨t,rfl⟩:=rx;obtain⟨t',rfl⟩:=ry;obtain⟨j,h1,h2,h3,h4,h5⟩:=tH he;have hl:z.cps.toList.length=z.length:=by simp[Str.length]
 rw[hl] at h1 h4 h5;have hn:=line63;exact tail_any (typeIs_str s z t) slot_str_getitem.lookup (getItem_str (c:=c) (by
  have e1:decide (i < -(2 ^ 63:Int))=false:=Β9 1e0;have e2:decide (i >= 2 ^ 63)=false:=Β9 1e0;rw[e1,e2,Bool.or_false]) (by rw[h1];simpa using h2) ⟨.str ⟨#[c]⟩,H,I.tok _,⟨_,rfl⟩,q⟩) hs
def Tw(K:q0B):R2:=fun x y H Q=>Ri K x y H Q\/Rk K x y H Q\/Rj x y H Q
def OE:DL X (Tw X.K):=Lb.or (OG.or OF)
def C8(TR:List Value)(n j:Nat)(u:Value):Obj.mapSeq (·.setIfInBounds j u) {cls:=.type "list",data:=.seq TR.toArray n}={cls:=.type "list",data:=.seq (TR.set j u).toArray n}:=by
 simp[Obj.mapSeq]
def TQ.lst{p:Addr}{xs:List V}(I:TQ X TF Z H s)(h:H p=some 7e0) : ∃(TR:List Value) (n:Nat),TU xs TR/\s.heap.get? p=some {cls:=.type "list",data:=.seq TR.toArray n}/\xs.length<=sizeLine:=by
 obtain⟨z,TR,n,r,e⟩:=I.TY p _ h;exact⟨TR,n,r,e,z⟩
def TQ.OK{p:Addr}{xs ys:List V}{TR its':List Value}{n':Nat}{f:Obj->Obj}(I:TQ X TF Z H s)(h:H p=some 7e0)(ho:s.heap.get? p=some {cls:=.type "list",data:=.seq TR.toArray n})(hf:f {cls:=.type "list",data:=.seq TR.toArray n}={cls:=.type "list",data:=.seq its'.toArray n'})(r:TU ys its')(hz:ys.length<=sizeLine)(t:Nat) : TQ X TF Z (TH H p 6e0) {s with heap:=s.heap.update p f,toks:=t}:=by
 have e:(s.heap.update p f).get? p=some {cls:=.type "list",data:=.seq its'.toArray n'}:=by
  rw[Heap.get?_update_self f ho (by rw[hf]<;>rfl),hf]
 refine I.write (x:=p) (e:=p) (by rw[h];trivial) (.inl rfl) (fun b u hb q=>(Heap.get?_update_other _ _ (Ne.symm hb)).trans q) ⟨_,e⟩ ?_;exact⟨hz,its',n',r,e⟩
def Rm:V->V->V->Hp->(Hp->Prop)->Prop:=fun o i v H Q=>∃ p xs k j,o=.ref p/\i=.int k/\H p=some 7e0/\yA xs.length k=some j/\Q 0e1
theorem Ji:PSet X Rm:=by
 intro TF s Z H o i v ov iv u Q I ro ri rv h;obtain⟨p,xs,k,j,rfl,rfl,hp,hj,q⟩:=h;cases ro;obtain⟨t,rfl⟩:=ri;obtain⟨TR,n,r,ho,hz⟩:=I.lst hp;obtain⟨h1,h2,h3,h4⟩:=Ei hj;have hl:=r.length;have hn:=line63;have I':TQ X TF Z 0e1 {s with heap:=s.heap.update p (Obj.mapSeq (·.setIfInBounds j u))} :=
  I.OK hp ho (C8 TR n j u) (r.set rv j) (by rw[List.length_set];exact hz) s.toks
 by_cases h0:0<=k
 ·have hk:k.toNat=j:=by
   rw[seqIndex_of h0 h4] at h1;exact ϖ h1
  exact PySem.W.ki_setAt ho h0 1e0 (by rw[Ε,<- hl];exact h4) 9e0
 ·have hk:(k+(TR.toArray.size:Int)).toNat=j:=by
   rw[seqIndex_neg 1e0 h3] at h1;rw[Ε,<- hl];exact ϖ h1
  exact PySem.W.ki_setBack ho 1e0 (by rw[Ε,<- hl];exact h3) 1e0 9e0
theorem AK(lo hi:Option Int)(n:Nat):(sliceBounds lo hi none n).1=((HT.iF n 0 lo:Nat):Int)/\(sliceBounds lo hi none n).2.1=((HT.iF n n hi:Nat):Int)/\(sliceBounds lo hi none n).2.2=1:=by
 refine⟨?_,?_,rfl⟩
 ·cases lo with
  | none=>simp[sliceBounds,HT.iF]
  | some i =>
   simp only[sliceBounds,HT.iF,Option.getD_none,show(1:Int) > 0 by decide,Γ3];by_cases h:i < 0
   ·simp only[h,Γ3]<;>omega
   ·simp only[h,Β4]<;>omega
 ·cases hi with
  | none=>simp[sliceBounds,HT.iF]
  | some i =>
   simp only[sliceBounds,HT.iF,Option.getD_none,show(1:Int) > 0 by decide,Γ3];by_cases h:i < 0
   ·simp only[h,Γ3]<;>omega
   ·simp only[h,Β4]<;>omega
def yE(TR:List Value)(lo hi:Option Int):slicePick TR.toArray lo hi none=((TR.drop (HT.iF TR.length 0 lo)).take (HT.iF TR.length TR.length hi - HT.iF TR.length 0 lo)).toArray:=by
 obtain⟨h1,h2,h3⟩:=AK lo hi TR.toArray.size;unfold slicePick;rw[h1,h2,h3];simp only[sliceRange_one,pick_run,Ε]<;>rfl
def S8(K:q0B):V->Option Int->Option Int->Hp->VK->Prop:=fun x lo hi H Q=>∃ a xs,x=.ref a/\fY K H a xs/\∀ p,H p=none->Q (.ref p) (TH H p (.lst 4e1))
theorem LQ:JS X (S8 X.K):=by
 intro TF s Z H x v vl vu lo hi sl Q I rx hs pl pu h;obtain⟨a,xs,rfl,hx,q⟩:=h;cases rx;obtain⟨TR,r,ht,hz⟩:=I.list hx;have hlen:=r.length;refine⟨"list",_,slot_list_getitem.lookup,ht.isList.typeIs,?_⟩;refine wpAny_getItem_list_slice ht.isList hs pl pu .none (by simp) ?_ 2e1;rw[yE,<- hlen];refine⟨.ref s.heap.objs.size,_,I.laid (t':=s.toks) (o:=.lst 4e1) (fun b ob q=>Η _ q) 2e0 ?_,rfl,q _ 3e1⟩;exact⟨ϒ (sD xs lo hi) hz,_,0,(r.drop (HT.iF xs.length 0 lo)).take (HT.iF xs.length xs.length hi - HT.iF xs.length 0 lo),Τ _ rfl⟩
def eK:V->Bool
 | .TK=>true
 | .bl _=>true
 | .int _=>true
 | .str _=>true
 | _=>false
def n8:V->V->Bool
 | .TK,.TK=>true
 | .bl a,.bl b=>a==b
 | .bl a,.int b=>(if a then 1 else 0)==b
 | .int a,.bl b=>a==(if b then 1 else 0)
 | .int a,.int b=>a==b
 | .str a,.str b=>a==b
 | _,_=>false
def HN{A:Around}{x:V}{v:Value}(ry:bQ y u)(rx:bQ x v)(fy:eK y=true)(fx:eK x=true):SeqAt.EqAt A s u v (n8 y x):=by
 cases y with
 | TK =>
  cases ry;cases x with
  | TK=>cases rx;exact SeqAt.EqAt.same _
  | bl b=>cases rx;exact SeqAt.EqAt.none_bool b
  | int b=>obtain⟨t,rfl⟩:=rx;exact SeqAt.EqAt.none_int b t
  | str b=>obtain⟨t,rfl⟩:=rx;exact SeqAt.EqAt.none_str b t
  | _=>exact absurd (show false=true from fx) Ω
 | bl a =>
  cases ry;cases x with
  | TK=>cases rx;exact SeqAt.EqAt.bool_none a
  | bl b=>cases rx;exact SeqAt.EqAt.bool_bool a b
  | int b=>obtain⟨t,rfl⟩:=rx;exact SeqAt.EqAt.bool_int a b t
  | str b=>obtain⟨t,rfl⟩:=rx;exact SeqAt.EqAt.bool_str a b t
  | _=>exact absurd (show false=true from fx) Ω
 | int a =>
  obtain⟨t',rfl⟩:=ry;cases x with
  | TK=>cases rx;exact SeqAt.EqAt.int_none a t'
  | bl b=>cases rx;exact SeqAt.EqAt.int_bool a t' b
  | int b=>obtain⟨t,rfl⟩:=rx;exact SeqAt.EqAt.int_int a t' b t
  | str b=>obtain⟨t,rfl⟩:=rx;exact SeqAt.EqAt.int_str a t' b t
  | _=>exact absurd (show false=true from fx) Ω
 | str a =>
  obtain⟨t',rfl⟩:=ry;cases x with
  | TK=>cases rx;exact SeqAt.EqAt.str_none a t'
  | bl b=>cases rx;exact SeqAt.EqAt.str_bool a t' b
  | int b=>obtain⟨t,rfl⟩:=rx;exact SeqAt.EqAt.str_int a t' b t
  | str b=>obtain⟨t,rfl⟩:=rx;exact SeqAt.EqAt.str_str a t' b t
  | _=>exact absurd (show false=true from fx) Ω
 | _=>exact absurd (show false=true from fy) Ω
def CY(x:V)(u:Value):Bool:=match u with
 | .none=>n8 .TK x
 | .bool b=>n8 (.bl b) x
 | .int i _=>n8 (.int i) x
 | .str z _=>n8 (.str z) x
 | _=>false
def HP{x:V}(r:bQ y u)(f:eK y=true):CY x u=n8 y x:=by
 cases y with
 | TK=>cases r;rfl
 | bl b=>cases r;rfl
 | int i=>obtain⟨t,rfl⟩:=r;rfl
 | str z=>obtain⟨t,rfl⟩:=r;rfl
 | _=>exact absurd (show false=true from f) Ω
theorem pD{x:V}:∀ {xs:List V} {us:List Value},TU xs us->xs.all eK=true->us.any 0e0=xs.any fun y=>n8 y x
 | _,_,.nil,_=>rfl
 | y::xs,u::us,.cons r t,f=>by
  rw[List.all_cons,Γ9] at f;rw[List.any_cons,List.any_cons,HP r f.1,pD t f.2]
theorem mJ{A:Around}{s:Shared}{x:V}{v:Value}(rx:bQ x v)(fx:eK x=true):∀ {xs:List V} {us:List Value},TU xs us->xs.all eK=true->∀ u∈us,SeqAt.EqAt A s u v (CY x u)
 | _,_,.nil,_=>fun u hu=>by cases hu
 | y::xs,u::us,.cons r t,f=>fun u' hu=>by
  rw[List.all_cons,Γ9] at f;rcases Α.mp hu with rfl|hu
  ·rw[HP r f.1];exact HN r rx f.1 fx
  ·exact mJ rx fx t f.2 u' hu
def pM(x:V)(xs:List V):Bool:=xs.any fun y=>n8 y x
def Ti(K:q0B)(neg:Bool):R2:=fun x y H Q=>∃ p xs,y=.ref p/\(fY K H p xs\/iR K H p xs)/\eK x=true/\xs.all eK=true/\Q (.bl (if neg then !pM x xs else pM x xs)) H
def Gg:jT X (compareOp .In) (Ti X.K false):=by
 intro TF s Z H x y v u Q I rx ry h;obtain⟨p,xs,rfl,hq,fx,fs,q⟩:=h;cases ry;rcases hq with hq|hq
 ·obtain⟨TR,r,pl,hz⟩:=I.list hq;refine SeqAt.in_listAt 0e0 pl.isList 3e0 ⟨.bl _,H,I,rfl,?_⟩;rw[show TR.toArray.any 0e0=TR.any 0e0 by simp,pD r fs];exact q
 ·obtain⟨TR,r,pl,hz⟩:=I.tuple hq;refine SeqAt.in_tupleAt 0e0 pl 3e0 ⟨.bl _,H,I,rfl,?_⟩;rw[show TR.toArray.any 0e0=TR.any 0e0 by simp,pD r fs];exact q
def Az:jT X (compareOp .NotIn) (Ti X.K true):=by
 intro TF s Z H x y v u Q I rx ry h;obtain⟨p,xs,rfl,hq,fx,fs,q⟩:=h;cases ry;rcases hq with hq|hq
 ·obtain⟨TR,r,pl,hz⟩:=I.list hq;refine SeqAt.notIn_listAt 0e0 pl.isList 3e0 ⟨.bl _,H,I,rfl,?_⟩;rw[show TR.toArray.any 0e0=TR.any 0e0 by simp,pD r fs];exact q
 ·obtain⟨TR,r,pl,hz⟩:=I.tuple hq;refine SeqAt.notIn_tupleAt 0e0 pl 3e0 ⟨.bl _,H,I,rfl,?_⟩;rw[show TR.toArray.any 0e0=TR.any 0e0 by simp,pD r fs];exact q
theorem Aa:gA X (.type "list") (fun xs H Q=>∃ p ys,xs=[.ref p]/\(fY X.K H p ys\/iR X.K H p ys)/\∀ l,H l=none->Q (.ref l) (TH H l 6e0)):=by
  intro TF s Z H xs us Q I r h;obtain⟨p,ys,rfl,hq,q⟩:=h;obtain⟨u,rfl,rx⟩:=vals1 r;cases rx;have fin:∀(TR:List Value),TU ys TR->ys.length<=sizeLine->∀(h':Heap) (c':Nat),(∀ b o',s.heap.get? b=some o'->h'.get? b=some o') ->
      h'.get? s.heap.objs.size=some {cls:=.type "list",dict:=none,data:=.seq TR.toArray c',slots:=#[]}->EP X TF Z Q (.ref s.heap.objs.size) {s with heap:=h'}:=fun TR r' hz h' c' kp e =>
    ⟨.ref s.heap.objs.size,_,I.laid (t':=s.toks) kp 2e0 (show eC X.prog X.w _ h' _ 6e0 from ⟨hz,TR,c',r',e⟩),rfl,q _ 3e1⟩
  rcases hq with hq|hq
  · obtain⟨TR,r',pl,hz⟩:=I.list hq;have hlen:=r'.length;obtain⟨o,ho,hc,n,hd⟩:=pl.isList;exact call_list_seq p (.inl rfl) ho hc hd 8e0 4e0
  · obtain⟨TR,r',pl,hz⟩:=I.tuple hq;have hlen:=r'.length;obtain⟨o,ho,hc,n,hd⟩:=pl;exact call_list_seq p (.inr rfl) ho hc hd 8e0 4e0
theorem xZ:gA X (.type "tuple") (fun xs H Q=>∃ p ys,xs=[.ref p]/\((fY X.K H p ys/\∀ l,H l=none->Q (.ref l) (TH H l 5e0))\/(iR X.K H p ys/\Q (.ref p) H))):=by
 intro TF s Z H xs us Q I r h;obtain⟨p,ys,rfl,h⟩:=h;obtain⟨u,rfl,rx⟩:=vals1 r;cases rx;rcases h with⟨hq,q⟩|⟨hq,q⟩
 ·obtain⟨TR,r',pl,hz⟩:=I.list hq;have hlen:=r'.length;refine call_tuple_list pl.isList (fun h' kp=>?_) 4e0;have I1:TQ X TF Z H {s with heap:=h'}:=I.kept (t':=s.toks) kp;have I2:TQ X TF Z (TH H h'.objs.size 5e0) {s with heap:=h'.push {cls:=.type "tuple",data:=.seq TR.toArray}} :=
   I1.laid (t':=s.toks) (fun b o e=>Η _ e) 2e0 (show eC X.prog X.w _ _ _ 5e0 from ⟨hz,TR,r',IsTup.new _ _⟩)
  exact⟨.ref h'.objs.size,_,I2,rfl,q _ (I1.TY.fresh 2e0)⟩
 ·obtain⟨TR,r',pl,hz⟩:=I.tuple hq;exact call_tuple_same pl ⟨.ref p,H,I,rfl,q⟩
def Tz(K:q0B)(T:String)(x:V)(H:Hp):Prop:=match x with
  | .str _=>T = "str"
  | .int _=>T = "int"
  | .ref p=>(T = "list"/\∃ xs,fY K H p xs)\/(T = "tuple"/\∃ o,K.lookup p=some o/\o.cls=.type "tuple"/\o.dict=none) \/
      (T = "dict"/\((∃ kvs,H p=some (.dK kvs))\/∃ kvs,H p=some (.dT kvs)))\/(T = "set"/\∃ S n,H p=some (.set S n))
  | _=>False
def DH{T:String}{x:V}{v:Value}(I:TQ X TF Z H s)(r:bQ x v)(ty:Tz X.K T x H) : s.TypeIs v T/\∀ a,v=.ref a->∃ ob,s.heap.get? a=some ob/\ob.dict=none:=by
 cases x with
 | str z =>
  obtain⟨t,rfl⟩:=r;cases (show T = "str" from ty);exact⟨typeIs_str s z t,fun _ e=>nomatch e⟩
 | int i =>
  obtain⟨t,rfl⟩:=r;cases (show T = "int" from ty);exact⟨typeIs_int s i t,fun _ e=>nomatch e⟩
 | ref p =>
  cases r;rcases ty with⟨rfl,xs,hq⟩|⟨rfl,o,hk,hc,hd⟩|⟨rfl,hk⟩|⟨rfl,S,n,hk⟩
  ·obtain⟨TR,_,pl,_⟩:=I.list hq;refine⟨pl.isList.typeIs,fun a e=>?_⟩;cases e;obtain⟨o,n,e,c,hd,_⟩:=pl;exact⟨o,e,hd⟩
  ·refine⟨⟨o,I.kIn p o hk,hc⟩,fun a e=>?_⟩;cases e;exact⟨o,I.kIn _ o hk,hd⟩
  ·have z:∃ o,s.heap.get? p=some o/\o.ExactDict:=by
    rcases hk with⟨kvs,hk⟩|⟨kvs,hk⟩
    ·obtain⟨_,_,_,_,o,_,_,e,ex,_⟩:=I.TY p _ hk;exact⟨o,e,ex⟩
    ·obtain⟨_,_,_,_,o,_,_,e,ex,_⟩:=I.TY p _ hk;exact⟨o,e,ex⟩
   obtain⟨o,e,ex⟩:=z;refine⟨⟨o,e,ex.1⟩,fun a e2=>?_⟩;cases e2;exact⟨o,e,ex.2.1⟩
  ·obtain⟨o,_,_,_,e,ex,_⟩:=I.TY p _ hk;refine⟨⟨o,e,ex.1⟩,fun a e2=>?_⟩;cases e2;exact⟨o,e,ex.2.1⟩
 | _=>exact False.elim ty
variable{o e:Expr}{es:List Expr}{to:TE}{t:TA}{name:Str}{apos T9:Pos}{T id:String}{r:V->List V->Hp->VK->Prop}
end
end
mutual
example:=[]
def Mb(X:Cx)(id:String)(r:V->List V->Hp->VK->Prop):Prop :=
 ∀(TF:List (Addr×Obj)) (s:Shared) (Z:St) (H:Hp) (x:V) (xs:List V) (v:Value) (us:List Value) (Q:VK),TQ X TF Z H s->bQ x v->TU xs us->r x xs H Q ->
  wpAny (model X.prog X.w) X.A (call (.builtin id) (v::us)) (EP X TF Z Q) X.xe s
def TU.one{x:V}(h:TU [x] us):∃ u,us=[u]/\bQ x u:=by
 cases h with
 | cons r t=>cases t;exact⟨_,rfl,r⟩
theorem TU.zero:∀ {us:List Value},TU [] us->us=[]
 | _,.nil=>rfl
def TU.dropLast{xs:List V}(h:TU xs us):TU xs.dropLast us.dropLast:=by
 induction h with
 | nil=>exact .nil
 | cons r t ih =>
  cases t with
  | nil=>exact .nil
  | cons q t'=>exact .cons r ih
theorem TU.eraseIdx:∀ {xs:List V} {us:List Value} (i:Nat),TU xs us->TU (xs.eraseIdx i) (us.eraseIdx i)
 | _,_,_,.nil=>.nil
 | _,_,0,.cons _ t=>t
 | _,_,i+1,.cons r t=>.cons r (TU.eraseIdx i t)
theorem CZ{α:Type}(l:List α):l.eraseIdx (l.length - 1)=l.dropLast:=by
 induction l with
 | nil=>rfl
 | cons a r ih =>
  cases r with
  | nil=>rfl
  | cons b r =>
   have e:(a::b::r).length - 1=((b::r).length - 1)+1:=by
    have h1:(a::b::r).length=r.length+2:=rfl;have h2:(b::r).length=r.length+1:=rfl;omega
   rw[e,List.eraseIdx_cons_succ,ih]
   all_goals rfl
theorem rB{α:Type}:∀(l:List α) (i:Nat),(l.eraseIdx i).length<=l.length
 | [],_=>Ι _
 | _::_,0=>Ε5 _
 | _::r,i+1=>Nat.succ_le_succ (rB r i)
end
section
mutual
example:=[Obj.mapSeq f]
variable{l b:Addr}{xs ys zs:List V}
def TQ.vJ{TR its':List Value}{f:Array Value->Array Value}(I:TQ X TF Z H s)(hH:H l=some (.lst xs))(e:s.heap.get? l=some {cls:=.type "list",data:=.seq TR.toArray n})(hf:f TR.toArray=its'.toArray)(hv:TU ys its')(hz:ys.length<=sizeLine) : TQ X TF Z (TH H l (.lst ys)) {s with heap:=s.heap.update l 0e0,toks:=t'}:=by
 have q:=PySem.IsL.update e f;rw[hf] at q;refine I.write (x:=l) (e:=l) (by rw[hH];exact trivial) (.inl rfl) (fun b' u hb hu=>(Heap.get?_update_other s.heap 0e0 (Ne.symm hb)).trans hu) ⟨_,q⟩ ?_;exact⟨hz,its',_,hv,q⟩
def TQ.Lh{TR:List Value}(I:TQ X TF Z H s)(hv:TU ys TR)(hz:ys.length<=sizeLine) : TQ X TF Z (TH H s.heap.objs.size (.lst ys)) {s with heap:=s.heap.push {cls:=.type "list",data:=.seq TR.toArray},toks:=t'} :=
 I.laid (fun _ _ q=>Η _ q) (Ι _) ⟨hz,TR,0,hv,Τ _ rfl⟩
def TQ.fresh(I:TQ X TF Z H s):H s.heap.objs.size=none:=I.TY.fresh (Ι _)
def TQ.Ap(I:TQ X TF Z H s)(hH:H l=some (.lst xs)):xs.length<=sizeLine/\∃(TR:List Value) (n:Nat),TU xs TR/\xs.length=TR.length/\s.heap.get? l=some {cls:=.type "list",data:=.seq TR.toArray n}:=by
 obtain⟨z,TR,n,r,e⟩:=I.TY l _ hH;exact⟨z,TR,n,r,r.length,e⟩
theorem Iz(h:n<=sizeLine):Builtin.List.listTooLong n=false:=by
 unfold Builtin.List.listTooLong;exact Β9 (by omega)
end
end
section
mutual
example:=[.lst xs,(by rw[Ε];omega),.lst (xs++zs),r.append r2]
def LG:V->List V->Hp->VK->Prop:=fun x vs H Q=>∃ l xs y,x=.ref l/\vs=[y]/\H l=some 0e0/\xs.length < sizeLine/\Q .TK (TH H l (.lst (xs++[y])))
theorem FL:Mb X "list.append" LG:=by
 intro TF s Z H x vs v us Q I rx rv h;obtain⟨l,xs,y,rfl,rfl,hH,hz,q⟩:=h;cases rx;obtain⟨u,rfl,ru⟩:=rv.one;obtain⟨z,TR,n,r,hl,e⟩:=I.Ap hH;refine call_meets F.slot_list_append ⟨_,e,rfl⟩ F.entry_list_append (F.args_list_append_2 _ _) (PySem.list_append l TR.toArray n u 1e0) ⟨e,?_⟩;refine⟨.TK,_,I.vJ (its':=TR++[u]) hH e (by simp) (r.append (.cons ru .nil)) ?_,rfl,q⟩;rw[Ν,List.length_singleton];omega
def LH:V->List V->Hp->VK->Prop:=fun x vs H Q=>∃ l b xs zs,x=.ref l/\vs=[.ref b]/\H l=some 0e0/\H b=some (.lst zs)/\xs.length+zs.length<=sizeLine/\Q .TK (TH H l 2e0)
theorem FO:Mb X "list.extend" LH:=by
 intro TF s Z H x vs v us Q I rx rv h;obtain⟨l,b,xs,zs,rfl,rfl,hH,hB,hz,q⟩:=h;cases rx;obtain⟨u,rfl,ru⟩:=rv.one;cases ru;obtain⟨z,TR,n,r,hl,e⟩:=I.Ap hH;obtain⟨z2,UU,n2,r2,WV,e2⟩:=I.Ap hB;have hsz:TR.toArray.size+UU.toArray.size<=sizeLine:=by rw[Ε,Ε];omega
 have ZG:¬ (!TR.toArray.isEmpty&&Builtin.List.listTooLong (TR.toArray.size+UU.toArray.size))=true:=by
  rw[Iz hsz,Bool.and_false];exact Ω
 refine call_meets F.slot_list_extend ⟨_,e,rfl⟩ F.entry_list_extend (F.args_list_extend_2 _ _)
  (AutoSeq1.list_extend_list_list_0 l TR.toArray n b UU.toArray n2 ZG 1e0 (by omega)) ⟨e,e2,?_⟩
 refine⟨.TK,_,I.vJ (its':=TR++UU) hH e (by simp) 3e0 ?_,rfl,q⟩;rw[Ν];omega
def S7:V->List V->Hp->VK->Prop:=fun x vs H Q=>∃ l xs y,x=.ref l/\vs=[]/\H l=some 0e0/\xs[xs.length - 1]?=some y/\Q y (TH H l (.lst xs.dropLast))
theorem OM:Mb X "list.pop" S7:=by
 intro TF s Z H x vs v us Q I rx rv h;obtain⟨l,xs,y,rfl,rfl,hH,hy,q⟩:=h;cases rx;have hus:=rv.zero;subst hus;obtain⟨z,TR,n,r,hl,e⟩:=I.Ap hH;obtain⟨u,hu,ru⟩:=r.get hy;have hy':TR.toArray[TR.toArray.size - 1]?=some u:=by
  show TR.toArray[TR.length - 1]?=some u;rw[<- Δ2,<- hl];exact hu
 refine call_meets F.slot_list_pop ⟨_,e,rfl⟩ F.entry_list_pop (F.args_list_pop_1 _) (MeetsSeq.list_pop_last l TR.toArray n u hy' 1e0) ⟨e,?_⟩;refine⟨y,_,I.vJ (its':=TR.dropLast) hH e ?_ r.dropLast ?_,ru,q⟩
 ·show TR.toArray.eraseIdxIfInBounds (TR.toArray.size - 1)=TR.dropLast.toArray;rw[Ε,List.eraseIdxIfInBounds_toArray,CZ]
 ·rw[List.length_dropLast];omega
def Pc:V->List V->Hp->VK->Prop:=fun x vs H Q=>∃ l xs i k y,x=.ref l/\vs=[.int i]/\H l=some 0e0/\-(2 ^ 63)<=i/\i < 2 ^ 63/\seqIndex? i xs.length=some k/\xs[k]?=some y/\Q y (TH H l (.lst (xs.eraseIdx k)))
theorem Iv:Mb X "list.pop" Pc:=by
 intro TF s Z H x vs v us Q I rx rv h;obtain⟨l,xs,i,k,y,rfl,rfl,hH,h1,h2,hk,hy,q⟩:=h;cases rx;obtain⟨u,rfl,ru⟩:=rv.one;obtain⟨t,rfl⟩:=ru;obtain⟨z,TR,n,r,hl,e⟩:=I.Ap hH;obtain⟨w,hw,UW⟩:=r.get hy;refine call_meets F.slot_list_pop ⟨_,e,rfl⟩ F.entry_list_pop (F.args_list_pop_2 _ _)
  (MeetsSeq.list_pop_at l TR.toArray n i t k w (fitsIndex_both h1 h2) (by rw[Ε,<- hl];exact hk) (by rw[<- Δ2];exact hw) 1e0) ⟨e,?_⟩
 refine⟨y,_,I.vJ (its':=TR.eraseIdx k) hH e ?_ (r.eraseIdx k) ?_,UW,q⟩
 ·show TR.toArray.eraseIdxIfInBounds k=(TR.eraseIdx k).toArray;rw[List.eraseIdxIfInBounds_toArray]
 ·have:=rB xs k;omega
def S6:R2:=fun x y H Q=>∃ l b xs zs,x=.ref l/\y=.ref b/\H l=some 0e0/\H b=some (.lst zs)/\xs.length+zs.length<=sizeLine/\∀ p,H p=none->Q (.ref p) (TH H p 2e0)
theorem OT:jT X (binaryOp .Add) S6:=by
 intro TF s Z H x y v u Q I rx ry h;obtain⟨l,b,xs,zs,rfl,rfl,hH,hB,hz,q⟩:=h;cases rx;cases ry;obtain⟨z,TR,n,r,hl,e⟩:=I.Ap hH;obtain⟨z2,UU,n2,r2,WV,e2⟩:=I.Ap hB;refine PySem.P.add_list e e2 ?_ (by rw[Ε,Ε];omega);have ea:TR.toArray++UU.toArray=(TR++UU).toArray:=by simp
 rw[ea];exact⟨.ref _,_,I.Lh (t':=s.toks) 3e0 (by rw[Ν];omega),rfl,q _ I.fresh⟩
end
end
section
mutual
example:=[κ×V,κ×Value,(kvs.any fun kv=>decide (kv.1=k)),kv.1=k,h1.trans z,(kvs.map fun kv=>if kv.1=k then (kv.1,y) else kv),aS kvs k y,e.trans z]
variable{κ:Type}[DecidableEq κ]
def aY(kvs:List 0e0)(k:κ):Option V:=(kvs.find? fun kv=>decide 3e0).map (·.2)
def aS(kvs:List 0e0)(k:κ)(v:V):List 0e0 :=
 if 2e0=true then kvs.map (fun kv=>if kv.1=k then (kv.1,v) else kv) else kvs++[(k,v)]
def sE(kvs:List 0e0)(k:κ):List 0e0:=kvs.filter fun kv=>decide (kv.1≠k)
def xT{k:κ}:aY ([]:List 0e0) k=none:=rfl
def cO{p:κ×V}{r:List 0e0}{k:κ}(e:p.1=k):aY (p::r) k=some p.2:=by simp[aY,Δ5,e]
def cE{p:κ×V}{r:List 0e0}{k:κ}(e:¬ p.1=k):aY (p::r) k=aY r k:=by simp[aY,Δ5,e]
theorem iA(k:κ):∀ kvs:List 0e0,2e0=(aY kvs k).isSome
 | []=>rfl
 | p::r=>by
  rw[List.any_cons];by_cases e:p.1=k
  ·simp only[cO e,decide_eq_true e,Bool.true_or,Option.isSome_some]
  ·rw[cE e,Β9 e,Bool.false_or];exact iA k r
theorem CF(k j:κ)(y:V):∀ kvs:List 0e0,aY 5e0 j=(aY kvs j).map fun x=>if j=k then y else x
 | []=>rfl
 | p::r=>by
  have ih:=CF k j y r;rw[ϓ];by_cases h:p.1=k
  ·rw[if_pos h];by_cases e:p.1=j
   ·rw[cO (p:=(p.1,y)) e,cO e,Option.map_some,if_pos (e.symm.trans h)]
   ·rw[cE (p:=(p.1,y)) e,cE e,ih]
  ·rw[if_neg h];by_cases e:p.1=j
   ·rw[cO (p:=p) e,cO e,Option.map_some,if_neg (fun z=>h 7e0)]
   ·rw[cE (p:=p) e,cE e,ih]
theorem zV(k j:κ)(y:V):∀ kvs:List 0e0,aY kvs k=none->aY (kvs++[(k,y)]) j=if j=k then some y else aY kvs j
 | [],_=>by
  by_cases e:k=j
  ·rw[if_pos e.symm];exact cO (p:=(k,y)) e
  ·rw[if_neg (fun z=>e z.symm)];exact cE (p:=(k,y)) e
 | p::r,hn=>by
  rw[Χ];have hk:¬ p.1=k:=fun z=>by rw[cO z] at hn;cases hn
  rw[cE hk] at hn;have ih:=zV k j y r hn;by_cases e:p.1=j
  ·rw[cO e,cO e,if_neg (fun z=>hk 7e0)]
  ·rw[cE e,cE e,ih]
theorem gG(kvs:List 0e0)(k j:κ)(y:V):aY 6e0 j=if j=k then some y else aY kvs j:=by
 unfold aS;by_cases a:2e0=true
 ·rw[if_pos a,CF];rw[iA] at a;by_cases e:j=k
  ·obtain⟨x,hx⟩:=Δ7.mp a;rw[if_pos e,e,hx,Option.map_some,if_pos rfl]
  ·rw[if_neg e];cases aY kvs j with
   | none=>rfl
   | some x=>rw[Option.map_some,if_neg e]
 ·rw[if_neg a];refine zV k j y kvs ?_;rw[iA] at a;cases q:aY kvs k with
  | none=>rfl
  | some x=>rw[q] at a;exact(a rfl).elim
theorem iN(kvs:List 0e0)(k:κ)(v:V):(aS kvs k v).length<=kvs.length+1:=by
 unfold aS;split
 ·rw[Γ];omega
 ·rw[Ν,Ζ,ϕ];omega
theorem wN{kvs:List 0e0}{k:κ}(v:V)(h:aY kvs k=none):aS kvs k v=kvs++[(k,v)]:=by
 unfold aS;rw[iA,h];exact if_neg (by decide)
def kZ.qY{u:Option Value}(r:kZ o u):o.isSome=u.isSome:=by
 cases o with
 | none=>cases u with
  | none=>rfl
  | some _=>exact(show False from r).elim
 | some _=>cases u with
  | none=>exact(show False from r).elim
  | some _=>rfl
def kZ.getD{u:Option Value}{d:V}{d':Value}(r:kZ o u)(rd:bQ d d'):bQ (o.getD d) (u.getD d'):=by
 cases o with
 | none=>cases u with
  | none=>exact rd
  | some _=>exact(show False from r).elim
 | some _=>cases u with
  | none=>exact(show False from r).elim
  | some _=>exact r
def KV.val{kvs:List 0e0}{vs:List 1e0}(r:KV kvs vs)(k:κ):kZ (aY kvs k) (valueAt vs k):=by
 unfold KV at r
 induction r with
 | nil=>exact True.intro
 | @cons p q ps qs h t ih =>
  obtain⟨h1,h2⟩:=h;by_cases e:p.1=k
  ·have e':q.1=k:=h1.symm.trans e;have b:valueAt (q::qs) k=some q.2:=by simp[valueAt,Δ5,e']
   rw[cO e,b];exact h2
  ·have e':¬ q.1=k:=fun z=>e 4e0;have b:valueAt (q::qs) k=valueAt qs k:=by simp[valueAt,Δ5,e']
   rw[cE e,b];exact ih
theorem KV.any{kvs:List 0e0}{vs:List 1e0}(r:KV kvs vs)(k:κ):2e0=vs.any fun kv=>decide 3e0:=by
 unfold KV at r
 induction r with
 | nil=>rfl
 | cons h t ih=>rw[List.any_cons,List.any_cons,ih,h.1]
def KV.Je{kvs:List 0e0}{vs:List 1e0}(r:KV kvs vs)(k:κ)(ry:bQ y u) : KV 5e0 (vs.map fun kv=>if kv.1=k then (kv.1,u) else kv):=by
 unfold KV at r ⊢
 induction r with
 | nil=>exact .nil
 | @cons p q ps qs h t ih =>
  rw[ϓ,ϓ];refine .cons ?_ ih;obtain⟨h1,h2⟩:=h;by_cases e:p.1=k
  ·rw[if_pos e,if_pos (h1.symm.trans e)];exact⟨h1,ry⟩
  ·rw[if_neg e,if_neg (fun z=>e 4e0)];exact⟨h1,h2⟩
theorem KV.put{kvs:List 0e0}{vs:List 1e0}(r:KV kvs vs)(k:κ)(ry:bQ y u):KV 6e0 (stored vs k u):=by
 unfold aS stored;rw[r.any k];by_cases e:(vs.any fun kv=>decide 3e0)=true
 ·rw[if_pos e,if_pos e];exact r.Je k ry
 ·rw[if_neg e,if_neg e];exact Paired.snoc r ⟨rfl,ry⟩
theorem KV.drop{kvs:List 0e0}{vs:List 1e0}(r:KV kvs vs)(k:κ):KV (sE kvs k) (without vs k):=by
 unfold KV at r ⊢;unfold sE without
 induction r with
 | nil=>exact .nil
 | @cons p q ps qs h t ih =>
  obtain⟨h1,h2⟩:=h;rw[List.filter_cons,List.filter_cons];by_cases e:p.1=k
  ·have a:¬ decide (p.1≠k)=true:=by simp[e]
   have b:¬ decide (q.1≠k)=true:=by simp[h1.symm.trans e]
   rw[if_neg a,if_neg b];exact ih
  ·have e':¬ q.1=k:=fun z=>e 4e0;have a:decide (p.1≠k)=true:=by simp[e]
   have b:decide (q.1≠k)=true:=by simp[e']
   rw[if_pos a,if_pos b];exact .cons ⟨h1,h2⟩ ih
def KV.length{kvs:List 0e0}{vs:List 1e0}(r:KV kvs vs):kvs.length=vs.length:=Paired.length r
def Hu(kvs:List 0e0)(k:κ):(sE kvs k).length<=kvs.length:=Δ1 _ _
end
end
mutual
example:=[h1.trans z]
def oH{k:Key}(r:bQ (kV k) u):(bJ P w).is k u=true:=by
 cases k with
 | inl i=>obtain⟨t,e⟩:=(show ∃ t,u=Value.int i t from r);subst e;exact BE P w i t
 | inr x=>obtain⟨t,e⟩:=(show ∃ t,u=Value.str x t from r);subst e;exact BF P w x t
 | no=>cases (show u=Value.none from r);rfl
theorem yX{P:Program}{w:World}:∀ {ks:List Key} {us:List Value},TU (ks.map kV) us->ItemsAre (bJ P w) ks us
 | [],_,r=>by rw[List.map_nil] at r;cases r;exact .nil
 | k::ks,_,r=>by
  rw[ϓ] at r;cases r with
  | cons h t=>exact .cons (oH h) (yX t)
abbrev KT(H:Hp):List (List Key×V)->List (List Key×Addr×Value)->Prop:=Paired fun p q=>p.1=q.1/\H q.2.1=some (.tup (p.1.map kV))/\bQ p.2 q.2.2
def KT.val(r:KT H kvs xs)(k:List Key):kZ (aY kvs k) ((atKey xs k).map (·.2)):=by
 induction r with
 | nil=>exact True.intro
 | @cons p q ps qs h t ih =>
  obtain⟨h1,_,h2⟩:=h;by_cases e:p.1=k
  ·have e':q.1=k:=h1.symm.trans e;have b:atKey (q::qs) k=some q.2:=by simp[atKey,Δ5,e']
   rw[cO e,b];exact h2
  ·have e':¬ q.1=k:=fun z=>e 0e0;have b:atKey (q::qs) k=atKey qs k:=by simp[atKey,Δ5,e']
   rw[cE e,b];exact ih
def KT.Je(r:KT H kvs xs)(k:List Key)(ry:bQ y u) : KT H (kvs.map fun kv=>if kv.1=k then (kv.1,y) else kv) (xs.map (putAt k u)):=by
 induction r with
 | nil=>exact .nil
 | @cons p q ps qs h t ih =>
  rw[ϓ,ϓ];refine .cons ?_ ih;obtain⟨h1,h2,h3⟩:=h;unfold putAt;by_cases e:p.1=k
  ·rw[if_pos e,if_pos (h1.symm.trans e)];exact⟨h1,h2,ry⟩
  ·rw[if_neg e,if_neg (fun z=>e 0e0)];exact⟨h1,h2,h3⟩
theorem KT.put(r:KT H kvs xs)(k:List Key){b:Addr}(hb:H b=some (.tup (k.map kV)))(ry:bQ y u) : KT H (aS kvs k y) (storedH xs k b u):=by
 have e:(kvs.any fun kv=>decide (kv.1=k))=(atKey xs k).isSome:=by
  rw[iA,(r.val k).qY,Option.isSome_map]
 unfold aS storedH;rw[e];by_cases q:(atKey xs k).isSome=true
 ·rw[if_pos q,if_pos q];exact r.Je k ry
 ·rw[if_neg q,if_neg q];exact Paired.snoc r ⟨rfl,hb,ry⟩
def KT.keeps{H':Hp}(r:KT H kvs xs)(ht:∀ b ys,H b=some (.tup ys)->H' b=some (.tup ys)):KT H' kvs xs :=
 Paired.OL r fun _ _ z=>⟨z.1,ht _ _ z.2.1,z.2.2⟩
end
section
mutual
example:=[bJ P w,a==sysModules,.dT kvs,.dK kvs,.tup (ks.map kV)]
variable{h:Heap}
def Mx{u:HO}(ok:HOk P w H h)(e:Rd H a u):eC P w H h a u:=e.ok ok
def uJ{kvs:List (Key×V)}(ok:HOk P w H h)(e:Rd H a 3e0):kvs.length<=sizeLine/\1e0=false/\∃ vs,KV kvs vs/\h.DictOf 0e0 a vs :=
 show eC P w H h a 3e0 from Mx ok e
def oC{kvs:List (Key×V)}(ok:HOk P w H h)(e:H a=some 3e0):kvs.length<=sizeLine/\1e0=false/\∃ vs,KV kvs vs/\h.DictOf 0e0 a vs:=uJ ok (.inl e)
def qZ{ks:List Key}(ok:HOk P w H h)(e:H a=some 4e0):(tupleKind 0e0).is h ks a:=by
 obtain⟨_,TR,r,o,h1,h2,n,h3⟩:=(show eC P w H h a 4e0 from ok a _ e);exact⟨o,TR.toArray,n,h1,h2,h3,by simpa using yX r⟩
def uN(ok:HOk P w H h)(e:Rd H a 2e0):kvs.length<=sizeLine/\1e0=false /\ ∃ xs,KT H kvs xs/\h.DictOfH (tupleKind 0e0) a xs:=by
 obtain⟨z,y,xs,r,o,es,ep,h1,h2,h3,h4,h5⟩:=(show eC P w H h a 2e0 from Mx ok e);refine⟨z,y,xs,r,o,es,ep,h1,h2,h3,h4,fun x hx=>?_,h5⟩;have all:∀ {l:List (List Key×V)} {m:List (List Key×Addr×Value)},KT H l m->∀ x∈m,(tupleKind 0e0).is h x.1 x.2.1:=by
  intro l m q
  induction q with
  | nil=>intro x hx;exact nomatch hx
  | @cons p q ps qs hq t ih =>
   intro x hx;rcases Α.mp hx with e|hx
   ·subst e;exact qZ ok (by rw[<- hq.1];exact hq.2.1)
   ·exact ih x hx
 exact all r x hx
def PQ(ok:HOk P w H h)(e:H a=some 2e0):kvs.length<=sizeLine/\1e0=false /\ ∃ xs,KT H kvs xs/\h.DictOfH (tupleKind 0e0) a xs:=uN ok (.inl e)
end
end
mutual
example:=[.dK kvs,aS kvs k v,.tup (k.map kV)]
def DGet(H:Hp)(a:Addr)(y:V)(r:Option V):Prop :=
 (∃ kvs k,Rd H a 0e0/\y=kV k/\r=aY kvs k)\/∃ kvs k b,Rd H a (.dT kvs)/\y=.ref b/\H b=some 2e0/\r=aY kvs k
def DPut(H:Hp)(a:Addr)(y v:V)(H':Hp):Prop :=
 (∃ kvs k,H a=some 0e0/\y=kV k/\kvs.length < sizeLine/\H'=TH H a (.dK 1e0)) \/
 ∃ kvs k b,H a=some (.dT kvs)/\y=.ref b/\H b=some 2e0/\kvs.length < sizeLine/\H'=TH H a (.dT 1e0)
def DGet.k{kvs:List (Key×V)}{k:Key}(e:H a=some 0e0):DGet H a (kV k) (aY kvs k):=.inl ⟨kvs,k,.inl e,rfl,rfl⟩
def DPut.k{kvs:List (Key×V)}{k:Key}{v:V}(e:H a=some 0e0)(hl:kvs.length < sizeLine):DPut H a (kV k) v (TH H a (.dK 1e0)):=.inl ⟨kvs,k,e,rfl,hl,rfl⟩
end
section
mutual
example:=[I.tok _,tupleKind_room_in1 hu,model X.prog X.w,qZ I.TY eb,.ref a,(by rw[e];exact True.intro),(by rw[l];exact rel.val k),TH H a ob]
variable{v:V}{r:Value}{A:Around}{E:q0A}
theorem TQ.big(I:TQ X TF Z H s):sysModules < s.heap.objs.size:=by
 have h:mainGlobals < s.heap.objs.size:=(I.mod.glob.keeps I.bk).lt;exact Nat.lt_trans (by decide) h
def Ff(hu:A.units+1 < cLine)(I:TQ X TF Z H s)(g:DGet H a y (some v))(ry:bQ y u)(h:∀ w' s',TQ X TF Z H s'->bQ v w'->Q w' s') : wpAny 2e0 A (getItem 4e0 u) Q E s:=by
 rcases g with⟨kvs,k,e,ey,l⟩|⟨kvs,k,b,e,ey,eb,l⟩
 ·subst ey;obtain⟨z,hd,vs,rel,dd⟩:=uJ I.TY e;obtain⟨w',hw,UW⟩:=kZ.some_of (v:=v) (o:=valueAt vs k) 6e0;exact wpAny_getItem_of (oH ry) dd.mapOf hw (h w' _ 0e0 UW)
 ·subst ey;cases (show u=Value.ref b from ry);obtain⟨z,hd,xs,rel,dd⟩:=uN I.TY e;obtain⟨w',hw,UW⟩:=kZ.some_of (v:=v) (o:=(atKey xs k).map (·.2)) 6e0;obtain⟨p,hp,WH⟩:=Ϛ.mp hw;refine wpAny_getItem_heap 1e0 3e0 dd hp ?_;rw[WH];exact h w' _ 0e0 UW
def SE(hu:A.units+1 < cLine)(I:TQ X TF Z H s)(g:DGet H a y o)(ry:bQ y u)(h:∀ s',TQ X TF Z H s'->Q (.bool o.isSome) s') : wpAny 2e0 A (compareOp .In u 4e0) Q E s:=by
 rcases g with⟨kvs,k,e,ey,l⟩|⟨kvs,k,b,e,ey,eb,l⟩
 ·subst ey;obtain⟨z,hd,vs,rel,dd⟩:=uJ I.TY e;refine wpAny_in_of (oH ry) hd dd.mapOf ?_;rw[<- (rel.val k).qY,<- l];exact h _ 0e0
 ·subst ey;cases (show u=Value.ref b from ry);obtain⟨z,hd,xs,rel,dd⟩:=uN I.TY e;refine wpAny_in_heap 1e0 3e0 hd dd ?_;have q:=(rel.val k).qY;rw[Option.isSome_map] at q;rw[<- q,<- l];exact h _ 0e0
def nJ{h':Heap}{ob:HO}(I:TQ X TF Z H s)(mu:Mut (H a))(hs:Heap.SameBut a s.heap h')(he:∃ q,h'.get? a=some q)(new:eC X.prog X.w 7e0 h' a ob) : TQ X TF Z 7e0 {s with heap:=h',toks:=t'} :=
 I.write (x:=a) (e:=a) mu (.inl rfl) (fun b q hb z=>(hs.2 b hb).trans z) he new
def oW{H':Hp}{h':Heap}{kvs:List (Key×V)}{vs:List (Key×Value)}(z:kvs.length<=sizeLine)(hd:(a==sysModules)=false)(rel:KV kvs vs)(dd:h'.DictOf (bJ P w) a vs) : eC P w H' h' a (.dK kvs):=⟨z,hd,vs,rel,dd⟩
theorem Fg{H':Hp}{Q:Unit->Shared->Prop}(hu:A.units+1 < cLine)(I:TQ X TF Z H s)(g:DPut H a y v H')(ry:bQ y u)(rv:bQ v r)(h:∀ s',TQ X TF Z H' s'->Q () s') : wpAny 2e0 A (setItem 4e0 u r) Q E s:=by
 rcases g with⟨kvs,k,e,ey,l,eH⟩|⟨kvs,k,b,e,ey,eb,l,eH⟩
 ·subst ey eH;obtain⟨z,hd,vs,rel,dd⟩:=oC I.TY e;have hz:vs.length<=sizeLine:=by rw[<- rel.length];exact z
  have hl:(aS kvs k v).length<=sizeLine:=by have:=iN kvs k v;omega
  refine wpAny_setItem_pairs (hsz:=hz) (oH ry) dd fun h' Vr hs=>h _ ?_;have he:∃ q,h'.get? a=some q:=let ⟨q,_,_,hq,_⟩:=Vr;⟨q,hq⟩;exact nJ I 5e0 hs he (oW hl hd (rel.put k rv) Vr)
 ·subst ey eH;cases (show u=Value.ref b from ry);obtain⟨z,hd,xs,rel,dd⟩:=PQ I.TY e;have hz:xs.length<=sizeLine:=by rw[<- Paired.length rel];exact z
  have hl:(aS kvs k v).length<=sizeLine:=by have:=iN kvs k v;omega
  refine wpAny_setItem_heap (hsz:=hz) 1e0 3e0 dd fun h' Vr hs=>h _ ?_;obtain⟨q,es,ep,hq,h2,h3,h4,_,h5⟩:=Vr;refine nJ I 5e0 hs ⟨q,hq⟩ ⟨hl,hd,_,(rel.put k eb rv).keeps fun c ys ec=>?_,q,es,ep,hq,h2,h3,h4,h5⟩;rw[aD (dB ec e (fun z=>nomatch z))];exact ec
end
end
section
variable{kvs:List (Key×V)}{k:Key}{A:Around}{E:q0A}
def PN{v:V}{more:List Value}(I:TQ X TF Z H s)(e:H a=some (.dK kvs))(ry:bQ (kV k) u)(l:aY kvs k=some v)(hm:more=[]\/∃ x,more=[x])(h:∀ w' s',TQ X TF Z (TH H a (.dK (sE kvs k))) s'->bQ v w'->Q w' s'):wpAny (model X.prog X.w) A (call (.builtin "dict.pop") (.ref a::u::more)) Q E s:=by
 obtain⟨z,hd,vs,rel,dd⟩:=oC I.TY e;obtain⟨w',hw,UW⟩:=kZ.some_of (v:=v) (o:=valueAt vs k) (by rw[<- l];exact rel.val k);have hp:(keyPart u).isSome=true:=by
  cases k with
  | inl i=>obtain⟨t,q⟩:=(show ∃ t,u=Value.int i t from ry);subst q;rfl
  | inr x=>obtain⟨t,q⟩:=(show ∃ t,u=Value.str x t from ry);subst q;rfl
  | no=>cases (show u=Value.none from ry);rfl
 have ha:argsOk "dict.pop" ⟨.ref a::u::more,[]⟩:=by
  rcases hm with q|⟨x,q⟩
  ·subst q;exact PySem.F.args_dict_pop_2 _ _
  ·subst q;exact PySem.F.args_dict_pop_3 _ _ _
 refine Δ3 PySem.F.slot_dict_pop dd.typeIs PySem.F.entry_dict_pop ha (meets_dict_pop_there (bJ X.prog X.w) a (oH ry) more hm hp)
  ⟨vs,w',dd,by rw[<- rel.length];exact z,hw,fun h' Vr hs=>h w' _ ?_ UW⟩
 have he:∃ q,h'.get? a=some q:=let ⟨q,_,_,hq,_⟩:=Vr;⟨q,hq⟩;exact nJ I (by rw[e];exact True.intro) hs he (oW (ϒ (Hu kvs k) z) hd (rel.drop k) Vr)
end
def JR(i:Expr):Prop:=∀ ov iv,subscripted i false ov iv=operate [ov,iv] (getItem ov iv)
def EV{prog:Program}{A:Around}{E:q0A}{env:Env}{value slice:Expr}{T id:String}(hl:typeLookup (.type T) "__getitem__"=pure (some (.builtin id)))(hs:JR slice)(h:wpAny (model prog w) A (eval value env) (fun o s₁=>wpAny (model prog w) A (eval slice env) (fun i s₂=>s₂.TypeIs o T/\wpAny (model prog w) A (getItem o i) Q E s₂) E s₁) E s) : wpAny (model prog w) A (eval (.Subscript value slice pos) env) Q E s:=by
 refine Subscript_ (Β5 h (fun o s₁ h₁=>Β5 h₁ (fun i s₂ h₂=>?_) fun _ _ x=>x) fun _ _ x=>x);obtain⟨hT,h₂⟩:=h₂;unfold subscriptTail;refine Β ?_;rw[getitemInPython_of_ne hT.not_modules];refine Β (wpAny_specialOf hT hl ?_);have fin:wpAny (model prog w) A (subscripted slice false o i) (fun r s₃=>wpAny (model prog w) A (letTemporaryGo value o r >>= fun _=>pure r) Q E s₃) E s₂:=by
  rw[hs o i];exact wpAny_operating (Β5 h₂ (fun r s₃ h₃=>Β (wpAny_letTemporaryGo (Θ h₃))) fun _ _ x=>x)
 first
  | exact Θ (Β fin)
  | exact Β (Θ (Β fin))
  | exact Β fin
def Bm(I:TQ X TF Z H s)(g:DGet H a y o):s.TypeIs (.ref a) "dict":=by
 rcases g with⟨kvs,k,e,_,_⟩|⟨kvs,k,b,e,_,_,_⟩
 ·obtain⟨_,_,vs,_,dd⟩:=uJ I.TY e;exact dd.typeIs
 ·obtain⟨_,_,xs,_,dd⟩:=uN I.TY e;exact dd.typeIs
section
variable{o i e value:Expr}{pos' WO:Pos}{td ty tv:TE}
end
def Bn(h:Heap)(hb:sysModules < h.objs.size):eC P w H (h.push {cls:=.type "dict",data:=.dict #[]}) h.objs.size (.dK []) :=
 ⟨Α4 _,Β3.mpr (Ne.symm (Ρ hb)),[],.nil,Heap.DictOf.new h⟩
def JF:TE:=fun _ H Q=>∀ p,H p=none->Q (.ref p) (TH H p (.dK []))
section
def kR:PE X (.Dict [] [] pos) JF:=fun TF s Z H Q I h =>
 wpAny_Dict_empty ⟨.ref s.heap.objs.size,_,I.laid (a:=s.heap.objs.size) (o:=.dK []) (t':=s.toks) (fun _ _ q=>Η _ q) (Ι _) (Bn s.heap I.big),rfl,h _ (I.TY.fresh (Ι _))⟩
end
mutual
example:=[Key×V,aS kvs p.1 p.2,Option Expr,TE×TE,(if ([]:List Keyword).isEmpty then 0 else 1),apos.endLine==T9.line,(starEach [e,f] X.env),keywordEach [] X.env,starEach [e] X.env,(fun x=>x.1.isSome),eval o X.env,Value×Value,(fun x=>!x.1),Key×Value]
def pA:List 3e0->St->Hp->(List (V×V)->Hp->Prop)->Prop
 | [],_,H,Q=>Q [] H
 | (tk,tv)::r,Z,H,Q=>tk Z H fun x H1=>tv Z H1 fun y H2=>pA r Z H2 fun ps H3=>Q ((x,y)::ps) H3
abbrev VV:List (V×V)->List 1e1->Prop:=Paired fun p q=>bQ p.1 q.1/\bQ p.2 q.2
def PPs(X:Cx)(pos:Pos)(keys:List 2e0)(values:List Expr)(VJ:List 3e0):Prop :=
 ∀(TF:List (Addr×Obj)) (s:Shared) (Z:St) (H:Hp) (Q:List (V×V)->Hp->Prop),TQ X TF Z H s->pA VJ Z H Q ->
  wpAny (model X.prog X.w) X.A (evalPairs (pairTrees keys values X.env pos)) (fun vs s'=>∃ ps H',TQ X TF Z H' s'/\VV ps vs/\Q ps H') X.xe s
def Ez:PPs X pos [] [] []:=fun TF s Z H Q I h=>pairTrees_nil_walk ⟨[],H,I,.nil,h⟩
def fS{k v:Expr}{ks:List 2e0}{vs:List Expr}{tk tv:TE}(hk:PE X k tk)(hv:PE X v tv)(hr:PPs X pos ks vs VJ) : PPs X pos (some k::ks) (v::vs) ((tk,tv)::VJ):=fun TF s Z H Q I h =>
 pairTrees_cons_walk (thn (hk TF s Z H _ I h) fun u s1 ⟨x,H1,I1,rx,q1⟩=>thn (hv TF s1 Z H1 _ I1 q1) fun w2 s2 ⟨y,H2,I2,ry,q2⟩ =>
  thn (hr TF s2 Z H2 _ I2 q2) fun ws s3 ⟨ps,H3,I3,rel,q3⟩=>⟨(x,y)::ps,H3,I3,.cons ⟨rx,ry⟩ rel,q3⟩)
def eZ(kvs more:List 0e0):List 0e0:=more.foldl (fun acc kv=>aS acc kv.1 kv.2) kvs
def KV.merge:∀ {more:List 0e0} {rs:List 3e1} {kvs:List 0e0} {vs:List 3e1},KV more rs->KV kvs vs->KV (eZ kvs more) (merged vs rs):=by
 intro more rs kvs vs r;unfold KV at r
 induction r generalizing kvs vs with
 | nil=>intro q;exact q
 | @cons p q ps qs h t ih =>
  intro r0;have e:KV 1e0 (stored vs q.1 q.2):=by
   have:=r0.put p.1 h.2;rw[<- h.1];exact this
  exact ih e
theorem oI:∀(more kvs:List 0e0),(eZ kvs more).length<=kvs.length+more.length
 | [],kvs=>by show kvs.length<=kvs.length+0;omega
 | p::r,kvs=>by
  have h1:=oI r 1e0;have h2:=iN kvs p.1 p.2;show(eZ 1e0 r).length<=_;rw[Ζ];omega
theorem uF{P:Program}{w:World}:∀ {kvs:List 0e0} {ws:List 1e1},VV (kvs.map fun kv=>(kV kv.1,kv.2)) ws->∃ rs,Carries (bJ P w) ws rs/\KV kvs rs
 | [],_,r=>by rw[List.map_nil] at r;cases r;exact⟨[],True.intro,.nil⟩
 | p::kvs,_,r=>by
  rw[ϓ] at r;cases r with
  | @cons a b as bs h t =>
   obtain⟨rs,c,q⟩:=uF (P:=P) (w:=w) t;obtain⟨b1,b2⟩:=b;exact⟨(p.1,b2)::rs,⟨oH h.1,rfl,c⟩,.cons ⟨rfl,h.2⟩ q⟩
def MH(VJ:List 3e0):TE:=fun Z H Q=>∀ p,H p=none->pA VJ Z (TH H p (.dK [])) fun ps H2=>H2 p=some (.dK [])/\∃ kvs:List 0e0,ps=kvs.map (fun kv=>(kV kv.1,kv.2))/\kvs.length<=15/\Q (.ref p) (TH H2 p (.dK (eZ [] kvs)))
theorem Ew{keys:List 2e0}{values:List Expr}(h:PPs X pos keys values VJ)(WA:keys.all (·.isSome)=true)(hl:keys.length=values.length)(h0:keys≠[])(h15:keys.length<=15):PE X (.Dict keys values pos) (MH VJ):=by
 intro TF s Z H Q I q;have hn:=I.TY.fresh (Ι s.heap.objs.size);have I1:=I.laid (a:=s.heap.objs.size) (o:=.dK []) (h':=s.heap.push {cls:=.type "dict",data:=.dict #[]}) (t':=s.toks) (fun _ _ q=>Η _ q) (Ι _) (Bn s.heap I.big);refine wpAny_Dict_walk (knd:=bJ X.prog X.w) WA hl h0 h15 (thn (h TF _ Z _ _ I1 (q _ hn)) fun ws s2 ⟨ps,H2,I2,rel,e,kvs,ep,lk,q2⟩=>?_);subst ep;obtain⟨rs,c,rk⟩:=uF (P:=X.prog) (w:=X.w) rel;obtain⟨z,hd,XW,r0,dd⟩:=oC I2.TY e;cases r0;refine⟨rs,c,dd,fun h' Vr hs=>⟨.ref s.heap.objs.size,_,?_,rfl,q2⟩⟩;have hz:(eZ [] kvs).length<=sizeLine:=by
  have h1:=oI kvs [];rw[ϕ] at h1;rw[Ε4];omega
 have he:∃ q,h'.get? s.heap.objs.size=some q:=let ⟨q,_,_,hq,_⟩:=Vr;⟨q,hq⟩;exact nJ I2 (by rw[e];exact True.intro) hs he (oW hz hd (rk.merge .nil) Vr)
structure M1(X:Cx)(o:Expr)(m:Str)(apos:Pos)(e:Expr)(T9:Pos):Prop where
 base:attributeBase o m X.env 0e1=eval o X.env
 Us:((backTo T9 8e0).all 2e1&&(backToKw T9 7e0).all 9e0
 &&decide (([e]:List Expr).length+([]:List Keyword).length+4e0 < 30))=true
 line:5e0=true
 trees:backTo T9 8e0=[(false,eval e X.env)]
structure M2(X:Cx)(o:Expr)(m:Str)(apos:Pos)(e f:Expr)(T9:Pos):Prop where
 base:attributeBase o m X.env 0e1=eval o X.env
 Us:((backTo T9 6e0).all 2e1&&(backToKw T9 7e0).all 9e0
 &&decide (([e,f]:List Expr).length+([]:List Keyword).length+4e0 < 30))=true
 line:5e0=true
 trees:backTo T9 6e0=[(false,eval e X.env),(false,eval f X.env)]
def Ts(H:Hp)(a:Addr):Prop:=(∃ kvs,Rd H a (.dK kvs))\/∃ kvs,Rd H a (.dT kvs)
def qX(I:TQ X TF Z H s)(d:Ts H a) : s.TypeIs (.ref a) "dict"/\(∀ b,Value.ref a=.ref b->∃ ob,s.heap.get? b=some ob/\ob.dict=none)/\(a==sysModules)=false:=by
 rcases d with⟨kvs,e⟩|⟨kvs,e⟩
 ·obtain⟨_,hd,vs,_,dd⟩:=uJ I.TY e;refine⟨dd.typeIs,fun b q=>?_,hd⟩;cases q;obtain⟨ob,_,_,h1,h2,_⟩:=dd;exact⟨ob,h1,h2.2.1⟩
 ·obtain⟨_,hd,xs,_,dd⟩:=uN I.TY e;refine⟨dd.typeIs,fun b q=>?_,hd⟩;cases q;obtain⟨ob,_,_,h1,h2,_⟩:=dd;exact⟨ob,h1,h2.2.1⟩
end
section
variable{d:V}{r:Value}{A:Around}{E:q0A}
def Ng(hu:A.units+1 < cLine)(I:TQ X TF Z H s)(g:DGet H a y o)(ry:bQ y u)(h:∀ w' s',TQ X TF Z H s'->bQ (o.getD .TK) w'->Q w' s') : wpAny (model X.prog X.w) A (call (.builtin "dict.get") [.ref a,u]) Q E s:=by
 rcases g with⟨kvs,k,e,ey,l⟩|⟨kvs,k,b,e,ey,eb,l⟩
 ·subst ey;obtain⟨z,hd,vs,rel,dd⟩:=uJ I.TY e;refine Δ3 Δ0 dd.typeIs PySem.F.entry_dict_get (PySem.F.args_dict_get_2 _ _) (meets_dict_get (bJ X.prog X.w) a (oH ry) hd) ⟨_,dd.mapOf,h _ _ (I.tok _) ?_⟩;rw[l];exact(rel.val k).getD rfl
 ·subst ey;cases (show u=Value.ref b from ry);obtain⟨z,hd,xs,rel,dd⟩:=uN I.TY e;refine Δ3 Δ0 dd.typeIs PySem.F.entry_dict_get (PySem.F.args_dict_get_2 _ _) (meetsH_dict_get (tupleKind (bJ X.prog X.w)) a b hd) ⟨tupleKind_room_in1 hu,k,xs,qZ I.TY eb,dd,h _ _ (I.tok _) ?_⟩;rw[l];exact(rel.val k).getD rfl
def Nh(hu:A.units+1 < cLine)(I:TQ X TF Z H s)(g:DGet H a y o)(ry:bQ y u)(rd:bQ d r)(h:∀ w' s',TQ X TF Z H s'->bQ (o.getD d) w'->Q w' s') : wpAny (model X.prog X.w) A (call (.builtin "dict.get") [.ref a,u,r]) Q E s:=by
 rcases g with⟨kvs,k,e,ey,l⟩|⟨kvs,k,b,e,ey,eb,l⟩
 ·subst ey;obtain⟨z,hd,vs,rel,dd⟩:=uJ I.TY e;refine Δ3 Δ0 dd.typeIs PySem.F.entry_dict_get (PySem.F.args_dict_get_3 _ _ _) (meets_dict_get_default (bJ X.prog X.w) a (oH ry) hd r) ⟨_,dd.mapOf,h _ _ (I.tok _) ?_⟩;rw[l];exact(rel.val k).getD rd
 ·subst ey;cases (show u=Value.ref b from ry);obtain⟨z,hd,xs,rel,dd⟩:=uN I.TY e;refine Δ3 Δ0 dd.typeIs PySem.F.entry_dict_get (PySem.F.args_dict_get_3 _ _ _) (meetsH_dict_get_default (tupleKind (bJ X.prog X.w)) a b hd r) ⟨tupleKind_room_in1 hu,k,xs,qZ I.TY eb,dd,h _ _ (I.tok _) ?_⟩;rw[l];exact(rel.val k).getD rd
end
section
variable{o e f:Expr}{apos T9:Pos}{td ty tx:TE}
end
section
variable{kvs:List (Key×V)}{A:Around}{E:q0A}
end
section
variable{A:Around}{E:q0A}
end
end L2
namespace Att
open PySem PySem.W PySem.Calls PyProof.Rows
mutual
example:=[.bool true,ns.map WData.int,true==true]
variable{h:Heap}{l:OpenLaw}
def sY{P:Params}:∀(ns:List Int) (vs:List Value),WellAll P h vs 1e0->IntsAre vs ns:=by
 intro ns
 induction ns with
 | nil =>
  intro vs w;rw[List.map_nil] at w;cases w;exact .nil
 | cons n ns ih =>
  intro vs w;rw[ϓ] at w;cases w with
  | cons a b =>
   cases a;exact .cons _ _ (ih _ b)
theorem Gx{n:Nat}(hn:l.most=some n){P:Params}{args:List WData}{vals:List Value}(Xn:l.row.toRowW.claim.pre args=true)(hwl:WellAll P h vals args) : ∃ a vs ns,vals=[Value.ref a]/\args=[WData.list 1e0]/\h.get? a=some {cls:=.type "list",data:=.seq vs.toArray}/\IntsAre vs ns/\ns.length<=n:=by
 have hsh:WShape.hasAll [] args [.list .int]=true:=(pre_splitW Xn).1;have hc:l.pre.holds [] {args:=args}=true:=(pre_splitW Xn).2;obtain⟨d,r,rfl,h1,h2⟩:=hasAllW_cons hsh;obtain rfl:=hasAllW_nil h2;obtain⟨xs,rfl,h3⟩:=hasW_list h1;obtain⟨ns,rfl⟩:=items_int h3;have hlen:ns.length<=n:=by
  unfold OpenLaw.pre at hc;have h4:(WTm.not (.lt (.lit (.int (n:Int))) (.len (.arg 0)))).holds [] {args:=[.list (ns.map .int)]}=true:=by
   have h4:=(holds_andW hc).1;rw[hn] at h4;exact h4
  have h5:=condW_of h4 (w_not (w_lt w_lit (w_len_list (w_arg rfl))));rw[Γ] at h5;refine Nat.le_of_not_lt fun q=>?_;have q':(n:Int) < ((ns.length:Nat):Int):=by omega
  first
   | (rw[decide_eq_true q'] at h5;exact absurd h5 (by decide))
   | (simp at h5;omega)
 cases hwl with
 | cons w1 w2 =>
  cases w2;cases w1 with
  | list ho WA=>exact⟨_,_,ns,rfl,rfl,ho,sY ns _ WA,hlen⟩
theorem Gp(l:OpenLaw)(args:List WData):l.row.toRowW.claim.post args 0e0 args=true :=
 postW_of (r:=l.row.toRowW) (X:=2e0)
  (show WShape.has [] 0e0 .bool=true by first|rfl|decide|simp[WShape.has,WShape.arms,WShape.armsAll])
  (show(WTm.eq .res (.lit 0e0)).value [] {args:=args,res:=some 0e0,after:=args}=some (.bool 2e0) from w_eq_bool (w_res rfl) w_lit) rfl
def Bb{n:Nat}{q:Program}{loose:List Str}{XP:(q0C)->Heap->Prop}{YP:World->Heap->Prop}{d:DefRec}(hn:l.most=some n)(ZA:d.params.defaults=[])(call:∀(w:World) (s₀ s₁:Shared) (mg mb:q0C) (fa:Addr) (o:Obj) (pm cd doc:Value) (a:Addr) (vs:List Value) (ns:List Int), Ground q loose [] XP w s₀ mg mb s₁.heap->YP w s₁.heap -> s₁.heap.get? fa=some o->o.data=.func (docDef d.name d.params d.body d.scope pm cd doc)->s₁.heap.CodeRec cd d.name->mg d.name=some (.ref fa) -> s₁.heap.get? a=some {cls:=.type "list",data:=.seq vs.toArray}->IntsAre vs ns->ns.length<=n->s₁.gens = #[] -> codeAny (model l.prog w) callerA (.call (.ref fa) ⟨[.ref a],[]⟩) (fun r s'=>r=.ok (.ret 0e0)/\OldK s₁.heap s'.heap/\s'.os=s₁.os/\AllBare s'.gens) s₁) : WalkO q loose XP YP l.row.toRowW d [] (fun f vs=>PySem.call f vs):=by
 intro w s₀ s₁ mg mb G Y fa o pm cd doc dV kV ho hd WC hD ZH hg args vals as Xn abW hrd hwl Wk;obtain rfl:dV=.none:=Dflts.none hD ZA;obtain rfl:kV=.none:=Dflts.noKw hD;obtain⟨a,vs,ns,rfl,rfl,Yk,hints,hlen⟩:=Gx hn Xn hwl;refine enter_call (codeAny_mono (call w s₀ s₁ mg mb fa o pm cd doc a vs ns G Y ho (fd_plain hd) WC ZH Yk hints hlen hg) fun r s' hq=>?_);obtain⟨rfl,h2,h3,h4⟩:=hq;exact⟨.inl ⟨.bool true,.bool true,[],rfl,fun _=>rfl,.bool true,Gp l _,fun _=>⟨List.Pairwise.nil,fun _ hm=>(nomatch hm)⟩⟩,h2,h3,h4⟩
end
section
mutual
example:=[]
variable{prog:Program}{w:World}{A:Around}{E:q0A}{s:Shared}{K:Frag}
def As(h:Heap):Heap:={h with objs:=#[]}
def oX(h:Heap)(b:Addr):(As h).get? b=none:=by
 cases e:(As h).get? b with
 | none=>rfl
 | some o=>exact absurd (Μ e) (Nat.not_lt_zero _)
def ledger(h:Heap)(L d:Addr):List (Addr×Obj):=(List.range h.objs.size).filterMap fun a=>if a=L\/a=d then none else (h.get? a).map fun o=>(a,o)
def lB{L d a:Addr}{o:Obj}:(a,o)∈ledger h L d↔a≠L/\a≠d/\h.get? a=some o:=by
 unfold ledger;rw[List.mem_filterMap];constructor
 ·rintro⟨b,_,e⟩;split at e
  ·cases e
  ·rename_i hb
   obtain⟨o',ho,e'⟩:=Ϛ.mp e;cases e';exact⟨fun q=>hb (.inl q),fun q=>hb (.inr q),ho⟩
 ·rintro⟨n1,n2,ho⟩;refine⟨a,List.mem_range.mpr (Μ ho),?_⟩;rw[if_neg (show ¬ (a=L\/a=d) from fun q=>q.elim n1 n2),ho]<;>rfl
def mK{L d:Addr}{od:Obj}(UI:d≠L)(ho:h.get? d=some od):News (As h) L h ([]++(d,od)::ledger h L d):=by
 rintro⟨a,o⟩ hp;rcases Α.mp hp with e|hp
 ·cases e;exact⟨ho,UI,oX _ _⟩
 ·obtain⟨n1,n2,e⟩:=lB.mp hp;exact⟨e,n1,oX _ _⟩
def C1{L:Addr}{m:q0C}(n:h.Ns L m):Fr (As h) L h m :=
 ⟨n,fun b o e=>(by rw[oX] at e;cases e),Α4 _⟩
end
end
end Att
namespace L2
open PySem PySem.Spec PyProof.Rows
mutual
example:=[ns.map V.int,Ag s₁.heap H,(by rw[q];simp),(by simp),(fun r s'=>r=.ok (.ret (.bool true))/\OldK s₁.heap s'.heap/\s'.os=s₁.os/\AllBare s'.gens),(.call (.ref fa) ⟨[.ref a],[]⟩),(fun v _=>v=.bl true),(fun _ _ _=>False),K w.params,model P w,if_neg hb]
variable{f:Addr}{fd:FuncData}{k:Nat}{st:Stmt}{x:Str}
theorem nX:∀ {vs:List Value} {ns:List Int},IntsAre vs ns->TU 0e0 vs
 | _,_,.nil=>.nil
 | _,_,.cons n t h=>.cons ⟨t,rfl⟩ (nX h)
def Only(H:Hp):Prop:=∀ b,H b=none\/∃ o xs,H b=some (.Uv o (.lst xs))
def Ij{P:Program}{w:World}{K:q0B}{mg mb:q0C}{CX:CXT}{fa a:Addr}{sp:Sp}{s₁:Shared}{vs:List Value}{ns:List Int}(KX:K.In s₁.heap)(V5:s₁.heap.Ns mainGlobals mg)(hb:s₁.heap.Ns builtinsNs mb)(hbb:∀ x:Str,x≠"__name__"->mb x=bootBuiltins x)(aaP:s₁.heap.NoLimit)(hg:s₁.gens = #[])(ha:s₁.heap.get? a=some {cls:=.type "list",data:=.seq vs.toArray})(hi:IntsAre vs ns)(hl:ns.length<=sizeLine)(hr:Room k callerA)(F:∀ base:Heap,K.In base->base.Ns mainGlobals mg->gO P w K mg base CX k fa fd [x] sp)(Zx:∀(s:Shared) (u:Value),BindsTo s fd ⟨[u],[]⟩ [(x,u)])(XM:∀ H:Hp,Only H->fY K H a 0e0->sp [.ref a] H 6e0 fun _ _ _=>False)(hCX:∀ H e s',CX [] H s₁ 7e0 e s'->False) : codeAny 9e0 callerA 5e0 4e0 s₁:=by
  have rv:=nX hi;have aa0:=hi.length;have core:∀ H:Hp,Only H->fY K H a 0e0->HOk P w H s₁.heap->(∀ b,H b≠none->b=a)->(H a≠none->K.lookup a=none) ->
      codeAny 9e0 callerA 5e0 4e0 s₁:=by
    intro H hO hS TY hA hK;have VN:∀ {b:Addr} {o:Obj},s₁.heap.get? b=some o->H b=none->(Ag s₁.heap H).get? b=some o:=fun e n=>H8 e n;have ZZ:∀ {b:Addr} {o:Obj} {es:Array DictEntry} {ep:Nat},s₁.heap.get? b=some o->o.data=.dict es ep->H b=none:=fun {b o es ep} e d=>by
      cases q:H b with
      | none=>rfl
      | some u =>
        have e':b=a:=hA b 2e0;subst e';rw[ha] at e;cases e;have d':Data.seq vs.toArray _=Data.dict es ep:=d;cases d'
    have nsK:∀ {b:Addr} {m:q0C},s₁.heap.Ns b m->(Ag s₁.heap H).Ns b m:=fun {b m} ⟨o,es,ep,e,d,r⟩=>⟨o,es,ep,VN e (ZZ e d),d,r⟩;have hKb:K.In 1e0:=fun b o e=>VN (KX b o e) (by
      cases q:H b with
      | none=>rfl
      | some u =>
        have e':b=a:=hA b 2e0;subst e';rw[hK 2e0] at e;cases e)
    have hM:Mod K mg 1e0:=⟨hKb,nsK V5,⟨mb,nsK hb,hbb⟩,let ⟨mc,h1,h2⟩:=aaP;⟨mc,nsK h1,h2⟩⟩;have e0:Env0 P w K mg 1e0 callerA [] s₁ H:=⟨rfl,hM,fun b o e=>Ln e,Nat.le_of_eq (Fq _ _),trivial,fun b hb=>absurd (show b∈([]:List Addr) from hb) 3e0,TY,.of_eq hg⟩;refine codeAny_mono ((F _ hKb (nsK V5)).run callerA [] s₁ H ⟨[.ref a],[]⟩ [.ref a] [.ref a] _ _ hr e0 (Zx s₁ (.ref a)) (.cons rfl .nil) (XM H hO hS)) fun r s' h=>?_;cases r with
    | error e=>exact(hCX H e s' h).elim
    | ok fl =>
      cases fl with
      | next=>exact False.elim h
      | brk=>exact False.elim h
      | cont=>exact False.elim h
      | ret u =>
        obtain⟨v,H',os,bare,un,aaT,r',q⟩:=h;have q':v=.bl true:=q;subst q';obtain rfl:u=Value.bool true:=r';refine⟨rfl,OldK.of_keep fun b o e=>?_,os,bare⟩;cases q:H b with
        | none=>exact un.keep b o e q (by intro z;exact absurd (show b∈([]:List Addr) from z) 3e0) 3e0
        | some u =>
          rcases hO b with z|⟨ob,xs,z⟩
          · rw[q] at z;cases z
          · have z2:=un.uU b ob _ z;obtain⟨e1,_⟩:=TY b _ z;obtain⟨e2,_⟩:=aaT b _ z2;rw[e] at e1;cases e1;exact e2
  cases hk:K.lookup a with
  | some o =>
    have e:=KX a o hk;rw[ha] at e;cases e;refine core (fun _=>none) (fun _=>.inl rfl) (.inr ⟨_,vs.toArray,_,hk,rfl,rfl,rfl,by rw[Ε,aa0];exact hl,by simpa using rv⟩) (fun b u z=>by have z':(none:Option HO)=some u:=z;cases z') (fun b z=>absurd rfl z) fun z=>absurd rfl z
  | none =>
    refine core (fun b=>if b=a then some (.Uv {cls:=.type "list",data:=.seq vs.toArray} (.lst 0e0)) else none) (fun b=>?_) (.inl (.inr ⟨{cls:=.type "list",data:=.seq vs.toArray},if_pos rfl⟩)) (fun b u z=>?_) (fun b z=>?_) fun _=>hk
    · by_cases hb:b=a
      · exact .inr ⟨_,_,if_pos hb⟩
      · exact .inl 0e1
    · by_cases hb:b=a
      · have z':=(if_pos hb).symm.trans z;cases z';subst hb;exact⟨ha,by rw[Γ];exact hl,vs,_,rv,ha⟩
      · have z':=(if_neg hb).symm.trans z;cases z'
    · by_cases hb:b=a
      · exact hb
      · exact absurd 0e1 z
def L8{l:PySem.W.OpenLaw}{n:Nat}{q:Program}{loose:List Str}{XP:(q0C)->Heap->Prop}{YP:World->Heap->Prop}{d:DefRec}{K:Params->q0B}{CX:World->CXT}{sp:World->Sp}(hn:l.most=some n)(XH:n<=sizeLine)(ZA:d.params.defaults=[])(hr:Room k callerA)(hY:∀(w:World) (h:Heap),YP w h->(K w.params).In h)(F:∀(w:World) (mg:q0C) (fa:Addr) (h:Heap),(K w.params).In h->h.Ns mainGlobals mg->mg d.name=some (.ref fa) -> ∃ fd:FuncData,(∀(s:Shared) (u:Value),BindsTo s fd ⟨[u],[]⟩ [(x,u)]) /\ ∀ base:Heap,(K w.params).In base->base.Ns mainGlobals mg->gO l.prog w 8e0 mg base (CX w) k fa fd [x] (sp w))(XM:∀(w:World) (H:Hp) (a:Addr) (ns:List Int),ns.length<=n->Only H->fY 8e0 H a 0e0->sp w [.ref a] H 6e0 fun _ _ _=>False)(hCX:∀(w:World) (H:Hp) (s:Shared) (e:Value) (s':Shared),CX w [] H s 7e0 e s'->False) : PySem.W.WalkO q loose XP YP l.row.toRowW d [] (fun f vs=>PySem.call f vs):=by
 refine Att.Bb hn ZA fun w s₀ s₁ mg mb fa o pm cd doc a vs ns G Y ho hd WC ZH Yk hints hlen hg=>?_;have KX:=hY w _ Y;obtain⟨fd,hb,hF⟩:=F w mg fa _ KX G.T.g ZH;exact Ij KX G.T.g G.T.b G.T.builtins G.T.nolimit hg Yk hints (ϒ hlen XH) hr hF hb (fun H hO hS=>XM w H a ns hlen hO hS) fun H e s'=>hCX w H s₁ e s'
def bW(s:Stmt)(j:Nat):Stmt:=match s with
 | .ClassDef _ _ _ body _ _ _ _ _ _ _=>body.getD j (.Pass ⟨0,0,0,0⟩)
 | _=>.Pass ⟨0,0,0,0⟩
def iG(s:Stmt):Arguments:=match s with
 | .FunctionDef _ a _ _ _ _ _ _ _ _=>a
 | _=>{posonlyargs:=[],args:=[],vararg:=none,kwonlyargs:=[],kw_defaults:=[],kwarg:=none,defaults:=[]}
def gH(s:Stmt):List Stmt:=match s with
 | .FunctionDef _ _ b _ _ _ _ _ _ _=>b
 | _=>[]
def cY(s:Stmt):Scope:=match s with
 | .FunctionDef _ _ _ _ _ _ sc _ _ _=>sc
 | _=>{kind:=.function,names:=[],isGenerator:=false,isCoroutine:=false}
abbrev UR:CXT:=fun _ _ _ _ _ _=>False
abbrev E0:XK:=fun _ _ _=>False
def pass0{X:Cx}:Passes UR X E0:=fun _ _ _ _ _ _ _ h=>h.elim
structure Fun(K:q0B)(x qual:Str)(st:Stmt)(f:Addr)(fd:FuncData):Prop where
 ex:∃(oc:Value) (od:Option Addr) (kV doc pm:Value) (an:Option Addr) (Uo ct:Value) (Wm:Array (Option Value)),
  fd=PySem.W.fnOf x qual (iG st) (gH st) (cY st) .none kV doc pm an Uo ct/\K.lookup f=some ⟨oc,od,.func fd,Wm⟩/\PySem.W.codeIn K Uo qual=true
 kp:PySem.W.keepIn K (.ref f)=true
end
section
variable{P:Program}{w:World}{K:q0B}{mg:q0C}{base:Heap}
def Fun.ok{qual:Str}{N ps:List Str}{sp:Sp}(F:Fun K x qual st f fd)(S:nE N ps (cY st))(len:∀ vs H Q E,sp vs H Q E->vs.length=ps.length)(Vm:∀(Uo:Value) (A:Around) (outer:List Env) (s:Shared) (H:Hp) (vs:List V) (Q:VK) (E:XK),Room k (A.deeper (envOfC qual (cY st) s.heap.objs.size f Uo))->sp vs H Q E -> ∃ t,Va (Ab UR P w K mg base N qual (cY st) f Uo A outer s H E).nox (gH st) t/\t {nx:=fun _ H'=>Q .TK H',rt:=Q} (start N vs) H):gO P w K mg base UR (k+1) f fd ps sp:=by
 obtain⟨oc,od,kV,doc,pm,an,Uo,ct,Wm,rfl,lk,WC⟩:=F.ex;refine QL lk WC S len fun A outer s H vs Q E hr XM=>?_;obtain⟨t,h,q⟩:=Vm Uo A outer s H vs Q E hr XM;exact⟨t,h.nox,q⟩
def Fun.binds{qual:Str}{ps:List Str}(F:Fun K x qual st f fd)(h:∀(kV doc pm:Value) (an:Option Addr) (Uo ct:Value) (us:List Value),us.length=ps.length->bindArgs (PySem.W.fnOf x qual (iG st) (gH st) (cY st) .none kV doc pm an Uo ct) ⟨us,[]⟩=pure (ps.zip us)):Binds K fd ps []:=by
 obtain⟨oc,od,kV,doc,pm,an,Uo,ct,Wm,rfl,lk,WC⟩:=F.ex;exact .all (h kV doc pm an Uo ct)
def HU{qual:Str}{oc:Value}{od an:Option Addr}{Wm:Array (Option Value)}{kV doc pm Uo ct:Value}(l:K.lookup f=some ⟨oc,od,.func (PySem.W.fnOf x qual (iG st) (gH st) (cY st) .none kV doc pm an Uo ct),Wm⟩)(c:PySem.W.codeIn K Uo qual=true)(k:PySem.W.keepIn K (.ref f)=true):Fun K x qual st f (PySem.W.fnOf x qual (iG st) (gH st) (cY st) .none kV doc pm an Uo ct):=⟨⟨oc,od,kV,doc,pm,an,Uo,ct,Wm,rfl,l,c⟩,k⟩
end
theorem mH{A:Around}(hr:Room k A):A.units+1 < cLine:=Nat.lt_of_le_of_lt (Nat.add_le_add_left (by decide:1<=64) _) hr.units
theorem small1000{n:Nat}(h:n<=1000):n < sizeLine:=Nat.lt_of_le_of_lt h (by decide)
section
variable{X:Cx}
theorem pv(i:Nat){pos:Pos}(hN:X.N[i]?=some x:=by rfl)(hv:Vis X.env.scope x:=by first|exact Or.inl rfl|exact Or.inr (Or.inl rfl)|exact Or.inr (Or.inr rfl))(hd:(x==("__debug__":Str))=false:=by decide)(WC:(x==("__classdict__":Str))=false:=by decide):PE X (.Name x pos) (nB i):=lH hN hv hd WC
end
def Same(H H':Hp):Prop:=∀ b o,H b=some o->H' b=some o
def Same.seq{K:q0B}{H H':Hp}{a:Addr}{xs:List V}(e:Same H H')(h:fY K H a xs):fY K H' a xs:=by
 rcases h with(h|⟨o,h⟩)|h
 ·exact .inl (.inl (e _ _ h))
 ·exact .inl (.inr ⟨o,e _ _ h⟩)
 ·exact .inr h
section
variable{X:Cx}
end
section
variable{κ:Type}[DecidableEq κ]
end
end L2
set_option maxHeartbeats 4000000
namespace L2
open PySem PySem.Spec PyProof.Rows
mutual
example:=[]
variable{a it l:Addr}{A:Around}{items:Array Value}{r:Bool}{X:Cx}{tg:Expr}{h:Heap}{H:Hp}{g:Int->Int->V}{J:It}{TF:List (Addr×Obj)}{kvs:List (Key×V)}{cl:List (Str×Addr)}{R:List (V×V)->Hp->Prop}{fp:List Addr}{es:List Expr}{ns:List Int}{fr:List Nat}{vs xs ys:List V}{k:List V->Prop}{i j m0 n:Nat}{tn:Nat->Heap->Prop}{Pv:Nat->List V->Hp->Prop}{W:Nat->Nat->List V->Hp->Prop}{o:Option HO}{O:Option Int->Hp->Prop}{o0 o1:Option V}{Q:Option Value->Shared->Prop}{pos:Pos}{P:Program}{t:SetTable}{s:Shared}{Z:St}{N:St->Hp->Prop}{x y:Str}{v:Value}{RR:Value->Addr->Result->Shared->Prop}{w:World}{E:q0A}{K:q0B}
theorem mB:bootBuiltins "int"=some (.type "int"):=by decide +kernel
theorem DN:bootBuiltins "list"=some (.type "list"):=by decide +kernel
theorem JW:bootBuiltins "dict"=some (.type "dict"):=by decide +kernel
theorem fA:bootBuiltins "tuple"=some (.type "tuple"):=by decide +kernel
theorem oV:bootBuiltins "max"=some (.builtin "max"):=by decide +kernel
theorem z9:bootBuiltins "min"=some (.builtin "min"):=by decide +kernel
theorem nH:bootBuiltins "sorted"=some (.builtin "sorted"):=by decide +kernel
theorem fG:bootBuiltins "len"=some (.builtin "len"):=by decide +kernel
end
section
def Pq(_ j:Int):Prop:=0 < j/\j.natAbs.log2 < 9000
theorem wG:jT X (binaryOp .FloorDiv) (rI Pq fun i j=>.int (i / j)):=Sh fun i j _ _ _ _ _ hc q=>by
 have h1:(0:Int) < j:=hc.1;exact floordiv_int (by omega) (by rw[Int.fdiv_eq_ediv_of_nonneg i (by omega)];exact q) (.inl (PyProof.noPylong_of_log2 hc.2))
theorem log2_lt{j:Int}(h0:0 < j)(h:j<=10 ^ 45):j.natAbs.log2 < 9000:=by
 have h1:j.natAbs<=10 ^ 45:=by omega
 have h2:j.natAbs < 2 ^ 150:=Nat.lt_of_le_of_lt h1 (by decide);have h3:j.natAbs.log2 < 150:=(Nat.log2_lt (by omega)).mpr h2;omega
end
noncomputable def mI:Expr->Bool
 | .Starred ..=>true
 | _=>false
def GD{e:Expr}{env:Env}(h:mI e=false):starEach (e::es) env=(false,eval e env)::starEach es env:=by
 cases e<;>first|rfl|cases h
section
variable{e:Expr}{te:TE}{t:TA}
def dY(ha:PE X e te)(hr:PA X es t)(h:mI e=false:=by rfl):PA X (e::es) (jP te t):=Et ha hr (GD h)
end
noncomputable abbrev vS(prog:Program)(w:World)(A:Around)(env:Env)(R:Result->Shared->Prop):Value->Shared->Prop:=notedBy (model prog w) A env fun e s'=>R (.error e) s'
noncomputable abbrev E3(ifs:List Expr)(env:Env):Sem Bool:=forIn ifs true fun c r=>if r=true then do let ok <- isTrue c env (eval c env);pure (ForInStep.yield ok) else pure (ForInStep.yield r)
section
variable{prog:Program}{R:Result->Shared->Prop}
def Bj{elt target iter:Expr}{ifs:List Expr}{scope:Scope}{it acc:Value}{env:Env}(I:Nat->Shared->Prop)(turn:∀ n s,I n s->wpAny (model prog w) A (pyNext it) (fun r s₁=>match r with|none=>R (.ok .next) s₁|some v=>wpAny (model prog w) A (letOwnedTupleGo target it v) (fun _ s₁'=>wpAny (model prog w) A (assign target env v) (fun _ s₂ => wpAny (model prog w) A (E3 ifs env) (fun ok s₃ => if ok=true then wpAny (model prog w) A (eval elt env) (fun x s₄ => wpAny (model prog w) A (call (.builtin "list.append") [acc,x]) (fun _ s₅=>∃ m,m < n/\I m s₅) (vS prog w A env R) s₄) (vS prog w A env R) s₃ else ∃ m,m < n/\I m s₃) (vS prog w A env R) s₂) (vS prog w A env R) s₁') (vS prog w A env R) s₁) (vS prog w A env R) s)(n:Nat)(h:I n s):codeAny (model prog w) A (.compLoop (.ListComp elt [⟨target,iter,ifs,0⟩] scope pos) 0 it acc env) R s:=by
 refine codeAny_loop rfl I (fun n s hI=>?_) n h;show wpAny _ A ((compTurn (.ListComp elt [⟨target,iter,ifs,0⟩] scope pos) 0 it acc env).onRaise (fun x=>do noteFrame x env;theTreesLotGoes x)) _ _ s;refine wpAny_noted ?_;rw[compTurn_list];refine Β (wpAny_standAt (Β (Β5 (turn n s hI) (fun r s₁ h₁=>?_) fun _ _ h'=>h')));cases r with
 | none=>exact Θ h₁
 | some v =>
  refine Β (Β5 h₁ (fun _ s₁' h₁'=>?_) fun _ _ h'=>h');refine Β (Β5 h₁' (fun _ s₂ h₂=>Β (Β5 h₂ (fun ok s₃ h₃=>?_) fun _ _ h'=>h')) fun _ _ h'=>h');cases ok with
  | false=>exact Θ ⟨rfl,h₃⟩
  | true =>
   exact Β (Β (Β5 h₃ (fun x s₄ h₄=>Β (Β5 h₄ (fun _ s₅ h₅=>Θ (Θ ⟨rfl,h₅⟩)) fun _ _ h'=>h')) fun _ _ h'=>h'))
end
noncomputable def dA(X:Cx)(sc:Scope)(cl:List (Str×Addr))(C:Addr)(N:List Str)(s:Shared)(H:Hp)(ex:List Addr)(pn:List (Addr×Obj)):Cx :=
 {X with env:=compEnvC sc cl C X.env,N:=N,s₀:=s,H₀:=H,outer:=X.stack,ex:=ex,fn:=fun _=>false,pn:=pn}
structure fF(X:Cx)(sc:Scope)(cl:List (Str×Addr))(x:Str)(fr:List Nat)(N:List Str):Prop where
 kind:sc.kind=.function
 vR:∀ y∈sc.names,y.2≠.cell
 names:∀ y∈sc.names,y.2=.local->sc.names.lookup y.1=some .local
 Bh:closureFor sc X.env=pure cl
 sub:∀ y c,cl.lookup y=some c->X.env.cells.lookup y=some c
 has:∀ y,((relabel sc X.env).names.lookup y=some .cell\/(relabel sc X.env).names.lookup y=some .free)->∃ c,cl.lookup y=some c
 Xt:sc.names.lookup x=some .local
 nd:N.Nodup
 N0:N=x::fr.map fun j=>X.N.getD j x
 Xg:∀ j∈fr,∃ y,X.N[j]?=some y/\X.env.kindOf y=some .cell/\((relabel sc X.env).names.lookup y=some .cell\/(relabel sc X.env).names.lookup y=some .free)
def bC(fr:List Nat)(Z:St):St:=fr.map fun j=>(Z[j]?).join
section
mutual
example:=[S.sub y c e,some v,X.pn++TF,dA X sc cl C N s H fp 2e0,Φ (Μ e) hC,I.rZ b hm]
variable{sc:Scope}{C:Addr}{N:List Str}
def J3(I:TQ X TF Z H s)(S:fF X sc cl x fr N)(hf:∀ b∈fp,l7 X TF H b)(VC:∀ b∈fp,b < s.heap.objs.size)(hC:s.heap.objs.size<=C) : (dA X sc cl C N s H fp 2e0).Ok where
 mod:=I.ok.mod
 kind:=S.kind
 glob:=I.ok.glob
 blt:=I.ok.blt
 above:=hC
 inj:=fun y z c h1 h2=>I.ok.inj y z c (S.sub y c h1) (S.sub z c h2)
 has:=S.has
 cab:=fun _ _ h=>by cases h
 hd:=I.ok.hd
 frames:=I.ok.frames
 stk:=.inl rfl
 exf:=fun b hb=>⟨Ρ (Φ (VC b hb) hC),fun y c e=>(hf b hb).2.2.2.2.1 y c 0e0⟩
 bs:=I.bs
 bsz:=ϒ I.ok.bsz I.sz
 BL:=fun b o e hb=>by
  rcases(hf b hb).2.2.2.1 with z|z
  ·exact I.ok.BL b o e z
  ·exact absurd (Φ (Μ e) (ϒ I.ok.bsz z)) (ϝ _)
 Fj:=fun b hb hm=>by
  rcases Α.mp 5e0 with z|z
  ·exact(hf b hb).2.1 z
  ·exact(hf b hb).2.2.1 z
 pG:=I.stack
 frf:=I.AS
def nostk(I:TQ X TF Z H s){b:Addr}(h1:b≠X.env.locals)(h2:b∉X.fs):b∉frs X.stack:=fun hm=>by
 rcases Α.mp 5e0 with z|z
 ·exact h1 z
 ·exact h2 z
def Ho(I:TQ X TF Z H s)(S:fF X sc cl x fr N)(hf:∀ b∈fp,l7 X TF H b)(VC:∀ b∈fp,b < s.heap.objs.size)(hC:s.heap.objs.size<=C){h1:Heap}{t1:Nat}{m0:q0C}(hn:h1.Ns C m0)(hk:∀ b o,s.heap.get? b=some o->h1.get? b=some o):TQ 3e0 [] (none::bC fr Z) H {s with heap:=h1,toks:=t1}:=by
 refine⟨J3 I S hf VC hC,rfl,I.bare,Un.kept hk,⟨m0,hn,fun i y v e1 e2 e3=>?_⟩,fun y c e=>?_,I.TY.fresh hC,fun y c e=>I.kK y c 0e0,fun p hp=>?_,I.TY.kept hk,?_⟩
 ·have U6:N[i]?=some y:=e1;rw[S.N0] at U6;cases i with
  | zero =>
   have z:(some (none:Option V))=some 1e0:=e2;cases z
  | succ j =>
   have UM:(fr.map fun j=>X.N.getD j x)[j]?=some y:=U6;have VZ:(bC fr Z)[j]?=some 1e0:=e2;unfold bC at VZ;rw[ϔ] at UM VZ;cases q:fr[j]? with
   | none=>rw[q] at UM;cases UM
   | some k =>
    rw[q] at UM VZ;have ey:X.N.getD k x=y:=ϖ UM;have ev:(Z[k]?).join=some v:=ϖ VZ;obtain⟨y',hy,UO,WJ⟩:=S.Xg k (Υ q);have eyy:y=y':=by
     rw[<- ey,Ε7,hy];rfl
    subst eyy;have ev':Z[k]?=some 1e0:=by
     cases z:Z[k]? with
     | none=>rw[z] at ev;cases ev
     | some o =>
      rw[z] at ev;have ev2:o=some v:=ev;rw[ev2]
    obtain⟨m,_,hl⟩:=I.loc;obtain⟨u,r,l⟩:=hl k y v hy ev' (.inr (.inl UO));refine⟨u,r,.inr ⟨WJ,?_⟩⟩;rcases l with⟨z,_⟩|⟨_,c,hc,o,ho,hd⟩
    ·rw[UO] at z;cases z
    ·obtain⟨c',WB⟩:=S.has y WJ;have z:=S.sub y c' WB;rw[hc] at z;cases z;exact⟨c,WB,o,hk c o ho,hd⟩
 ·obtain⟨v,o,ho,hd⟩:=I.cell y c 0e0;exact⟨v,o,hk c o ho,hd⟩
 ·have ZJ:p∈X.pn++TF:=by
   have z:p∈2e0++[]:=hp;simpa using z
  obtain⟨e,n,ne,nf,d⟩:=I.pin p ZJ;exact⟨hk _ _ e,n,Ρ 4e0,nostk I ne nf,d⟩
 ·show(none::bC fr Z).length=N.length;rw[S.N0];simp[bC]
def Hn(I:TQ X TF Z H s)(hf:∀ b∈fp,l7 X TF H b){D:Addr}{pl:List (Addr×Obj)}{Z':St}{H':Hp}{s':Shared}(J:TQ 3e0 pl Z' H' s')(hC:s.heap.objs.size<=C)(hD:s.heap.objs.size<=D)(Ya:D≠C)(Wh:H' D=none){vals:List Value}{k:Nat}(hg:s'.heap.get? D=some {cls:=.type "list",data:=.seq vals.toArray k})(rv:TU xs vals)(hz:xs.length<=sizeLine){h':Heap}(hs:Heap.SameBut C s'.heap h'):TQ X TF Z (TH H' D (.lst xs)) {s' with heap:=h'}:=by
 have lt:∀ {b:Addr} {o:Obj},s.heap.get? b=some o->b < s.heap.objs.size:=fun e=>Μ e;have XQ:∀ {b:Addr} {o:Obj},s.heap.get? b=some o->b≠C:=fun e=>Ρ 4e0;have neD:∀ {b:Addr} {o:Obj},s.heap.get? b=some o->b≠D:=fun e=>Ρ (Φ (Μ e) hD);have Yy:∀ {b:Addr} {o:HO},H b=some o->b≠D:=fun e=>Ρ (Φ (I.TY.lt e) hD);have base:Un (frs X.stack) fp H H' s.heap s'.heap:=J.base;have HC:H' C=none:=J.free;refine I.PM (s':={s' with heap:=h'}) (ch:=fp) J.os ⟨fun b o e n hb hx=>?_,fun b o e n hb hx=>?_,fun b o e n hx=>?_,fun b o e hx=>?_,fun b ys e=>?_,fun b o u e=>?_,fun b ps e=>?_⟩ (fun b u e=>?_) J.bare (fun b hb=>?_)
 ·exact(hs.2 b (XQ e)).trans (base.keep b o e n hb hx)
 ·obtain⟨sl,q⟩:=base.slot b o e n hb hx;exact⟨sl,(hs.2 b (XQ e)).trans q⟩
 ·rw[aD (neD e)];exact base.free b o e n hx
 ·obtain⟨o',q⟩:=base.there b o e hx;exact⟨o',(hs.2 b (XQ e)).trans q⟩
 ·rw[aD (Yy e)];exact base.yG b ys e
 ·rw[aD (Yy e)];exact base.uU b o u e
 ·rw[aD (Yy e)];exact base.yF b ps e
 ·by_cases hb:b=D
  ·subst hb;rw[aA] at e;cases e;exact⟨hz,vals,k,rv,(hs.2 b Ya).trans hg⟩
  ·rw[aD hb] at e;have tC:∀ {c:Addr} {o:HO},H' c=some o->c≠C:=fun q z=>by rw[z,HC] at q;cases q
   have tD:∀ {c:Addr} {o:HO},H' c=some o->c≠D:=fun q z=>by rw[z,Wh] at q;cases q
   refine(J.TY b u e).tF (fun c v hc q=>(hs.2 c ?_).trans q) (fun c q=>by rw[aD (tD q)];exact q) fun c ys q=>by rw[aD (tD q)];exact q
   rcases hc with z|z
   ·rw[z];exact tC e
   ·exact tC z
 ·obtain⟨_,f1,_,f3,f4,f5⟩:=hf b hb;exact⟨f3,f1,f4,f5⟩
end
end
mutual
example:=[some y::bC fr Z]
def Xc(Y:Cx)(ifs:List Expr)(t:TT):Prop :=
 ∀(TF:List (Addr×Obj)) (s:Shared) (Z:St) (H:Hp) (Q:Bool->Hp->Prop),TQ Y TF Z H s->t Z H Q->wpAny (model Y.prog Y.w) Y.A (E3 ifs Y.env) (TP Y TF Z Q) Y.xe s
def MK:TT:=fun _ H Q=>Q true H
def AH{Y:Cx}:Xc Y [] MK:=fun _ _ _ H _ I h=>wpAny_tests_nil ⟨H,I,h⟩
def lL{Y:Cx}{c:Expr}{t:TT}(h:PT Y c t):Xc Y [c] t:=fun TF s Z H Q I hw=>wpAny_tests_one (h TF s Z H Q I hw)
@[irreducible] def kU(wi:TI)(fr:List Nat)(tc:TT)(te:TE):TE:=fun Z H Q=>wi Z H fun J H1=>∃ W:Nat->Nat->List V->Hp->Prop,(∃ m,W 0 m [] H1)/\∀ i m xs H,W i m xs H->xs.length<=1000000 /\
  ((J.stop i H/\∀ p,H p=none->Q (.ref p) (TH H p (.lst xs))) \/
   (J.go i H/\∀ y H',J.VM i H y H'->tc 0e0 H' fun b H2=>if b=true then te 0e0 H2 (fun z H3=>∃ m',m' < m/\W (i+1) m' (xs++[z]) H3) else ∃ m',m' < m/\W (i+1) m' xs H2))
end
section
variable{sc:Scope}{N:List Str}{elt iter:Expr}{px:Pos}{ifs:List Expr}{wi:TI}{tc:TT}{te:TE}
theorem sC{g:TG}{τ0:St}{O:St->Prop}(hc:X.calm=true)(hx:∀ e s,¬ X.xe e s)(NC:∀ y∈sc.names,y.2≠.cell)(KD:sc.kind=.function)(SB:∀ y c,cl.lookup y=some c->X.env.cells.lookup y=some c)(hpg:∀ C s H ex pn,PG (dA X sc cl C N s H ex pn) tg g)(hb:∀ C s H ex pn,Xc (dA X sc cl C N s H ex pn) ifs tc/\PE (dA X sc cl C N s H ex pn) elt te){Q:VK}(I:TQ X TF Z H s)(T:Turn X.prog X.w X.K tg J fp it tn)(st:tn 0 s.heap)(hf:∀ b∈fp,l7 X TF H b)(aaV:∀(C:Addr) (h1:Heap) (t1:Nat) (m0:q0C),(∀ b∈fp,b < s.heap.objs.size)->s.heap.objs.size<=C->h1.Ns C m0->(∀ b o,s.heap.get? b=some o->h1.get? b=some o)->TQ (dA X sc cl C N s H fp (X.pn++TF)) [] τ0 H {s with heap:=h1,toks:=t1})(ok0:O τ0)(w0:W 0 m0 [] H)(turn:∀ i m xs H,W i m xs H->xs.length<=1000000 /\ ((J.stop i H/\∀ p,H p=none->Q (.ref p) (TH H p (.lst xs))) \/ (J.go i H/\∀ y H',J.VM i H y H'->∀ σ1,O σ1->g y σ1 H' fun σ2 H1=>O σ2/\tc σ2 H1 fun b H2=>if b=true then te σ2 H2 (fun z H3=>∃ m',m' < m/\W (i+1) m' (xs++[z]) H3) else ∃ m',m' < m/\W (i+1) m' xs H2)))(fin:∀(D C:Addr) (s':Shared) (m':q0C) (H':Hp),s'.heap.Ns C m'->l7 X TF H' C->(∀ h',Heap.SameBut C s'.heap h'->TQ X TF Z H' {s' with heap:=h'})->Q (.ref D) H'->RR (.ref D) C (.ok .next) s') : wpAny (model X.prog X.w) X.A (newList []) (fun acc s₃=>wpAny (model X.prog X.w) X.A (newFunctionEnv sc X.env.globals cl [] X.env.qual none .none (some X.env)) (fun Vf s₄ => codeAny (model X.prog X.w) X.A (.compStart (.ListComp elt [⟨tg,iter,ifs,0⟩] sc pos) 0 (.ref it) acc {Vf with scope:=relabel sc X.env}) (RR acc Vf.locals) s₄) E s₃) E s:=by
  refine Γ0 (wpAny_newFunctionEnv NC (by intro y hy;simp at hy) (fun h₁ Yj Xo=>?_) KD);dsimp only at Yj Xo ⊢;generalize hH2:s.heap.push {cls:=.type "list",dict:=none,data:=.seq ([]:List Value).toArray}=G2 at Yj Xo ⊢;have hCs:G2.objs.size=s.heap.objs.size+1:=by rw[<- hH2,Heap.size_push]
  have Ya:s.heap.objs.size≠G2.objs.size:=by rw[hCs];exact Ρ (Nat.lt_succ_self _)
  have hC:s.heap.objs.size<=G2.objs.size:=by rw[hCs];exact Ε5 _
  have below:∀ b,b < s.heap.objs.size->b≠G2.objs.size:=fun b hb=>by rw[hCs];exact Ρ (Nat.lt_succ_of_lt hb)
  have old:∀ b o,s.heap.get? b=some o->h₁.get? b=some o:=fun b o e=>Xo.extBut b o (below b (Μ e)) (Η _ (hH2▸Η _ e));have hD1:h₁.get? s.heap.objs.size=some {cls:=.type "list",data:=.seq ([]:List Value).toArray 0}:=Xo.extBut _ _ Ya (Η _ (hH2▸Τ _ rfl));have VC:∀ b∈fp,b < s.heap.objs.size:=fun b hbm=>by
    obtain⟨o,e,_⟩:=T.obj 0 s.heap st b hbm;exact Μ e
  have Wh:H s.heap.objs.size=none:=I.TY.fresh (Ι _);have aaF:s.heap.objs.size∉frs X.stack:=fun hm=>by
    rcases Α.mp (I.rZ _ hm) with z|z
    · exact absurd I.lt (by rw[<- z];exact ϝ _)
    · exact I.Q6 (Ι _) z
  have Y3:∀ y c,cl.lookup y=some c->c≠s.heap.objs.size:=fun y c e z=>by
    obtain⟨v,q⟩:=I.cell y c (SB y c e);exact absurd q.lt (by rw[z];exact ϝ _)
  have aaE:∀ p∈X.pn++TF,p.1≠s.heap.objs.size:=fun p hp z=>absurd (Μ (I.pin p hp).1) (by rw[z];exact ϝ _);have Dfp:s.heap.objs.size∉fp:=fun hm=>ϝ _ (VC _ hm);have loop:∀ s₃:Shared,s₃={s with heap:=h₁,toks:=s.toks+([]:List (Str×Value)).length} ->
      codeAny (model X.prog X.w) X.A (.compLoop (.ListComp elt [⟨tg,iter,ifs,0⟩] sc pos) 0 (.ref it) (.ref s.heap.objs.size) (compEnvC sc cl G2.objs.size X.env)) (RR (.ref s.heap.objs.size) G2.objs.size) s₃:=by
    rintro s₃ rfl;have I0:=aaV G2.objs.size h₁ (s.toks+([]:List (Str×Value)).length) _ VC hC Yj old;refine Bj (fun n s'=>∃(i:Nat) (xs:List V) (vals:List Value) (k:Nat) (v0:St) (H':Hp),TQ (dA X sc cl G2.objs.size N s H fp (X.pn++TF)) [] v0 H' s'/\O v0/\tn i s'.heap/\(∀ b∈fp,H' b=none) /\
      s'.heap.get? s.heap.objs.size=some {cls:=.type "list",data:=.seq vals.toArray k}/\TU xs vals/\H' s.heap.objs.size=none/\W i n xs H') ?_ m0
      ⟨0,[],[],0,τ0,H,I0,ok0,T.keep _ _ _ st fun b _ o e=>old b o e,fun b hb=>(hf b hb).1,hD1,.nil,Wh,w0⟩
    rintro n s1 ⟨i,xs,vals,k,v0,H1,I1,ok1,st1,fr1,hg1,rv1,aaI,w1⟩;have hlen:=rv1.length;obtain⟨hz,step⟩:=turn i n xs H1 w1;have hz2:xs.length<=sizeLine:=ϒ hz (by decide);have VH:∀ {H':Hp} {pl:List (Addr×Obj)},(∀ b∈fp,H' b=none)->(∀ p∈pl,p.1=s.heap.objs.size)->∀ b∈fp,l7 (dA X sc cl G2.objs.size N s H fp (X.pn++TF)) pl H' b:=fun {H' pl} hn Uy b hb =>
      ⟨hn b hb,below b (VC b hb),nostk I (hf b hb).2.1 (hf b hb).2.2.1,.inl hb,fun y c e=>(hf b hb).2.2.2.2.1 y c (SB y c e),fun p hp z=>by
        rcases Κ.mp hp with q|q
        · exact(hf b hb).2.2.2.2.2 p q z
        · exact Dfp (by rw[<- Uy p q,z];exact hb)⟩
    have I1':TQ (dA X sc cl G2.objs.size N s H fp (X.pn++TF)) [(s.heap.objs.size,{cls:=.type "list",data:=.seq vals.toArray k})] v0 H1 s1:=I1.qC fun p hp=>by
      have e:p=(s.heap.objs.size,{cls:=.type "list",data:=.seq vals.toArray k}):=by simpa using hp
      subst e;exact⟨hg1,aaI,Ya,aaF,fun v z=>by cases z⟩
    rcases step with⟨stop,hq⟩|⟨go,step⟩
    · refine thn (T.done (dA X sc cl G2.objs.size N s H fp (X.pn++TF)) rfl rfl rfl hc i [(s.heap.objs.size,{cls:=.type "list",data:=.seq vals.toArray k})] s1 _ H1 _ I1' (VH fr1 fun p hp=>by
        have e:p=(s.heap.objs.size,{cls:=.type "list",data:=.seq vals.toArray k}):=by simpa using hp
        rw[e]) st1 stop) fun r s2 ⟨hr,I2⟩=>?_
      subst hr;obtain⟨g2,n2,_⟩:=I2.pin (s.heap.objs.size,{cls:=.type "list",data:=.seq vals.toArray k}) (Ϝ _ (by simp));obtain⟨m2,XH,_⟩:=I2.loc;have hCn:TH H1 s.heap.objs.size (.lst xs) G2.objs.size=none:=by
        rw[aD (Ne.symm Ya)];exact I2.free
      exact fin s.heap.objs.size G2.objs.size s2 m2 _ XH (I.HR hC hCn) (fun h' VQ=>Hn I hf I2 hC (Ι _) Ya n2 g2 rv1 hz2 VQ) (hq _ n2)
    · refine thn (T.item (dA X sc cl G2.objs.size N s H fp (X.pn++TF)) rfl rfl rfl hc i [(s.heap.objs.size,{cls:=.type "list",data:=.seq vals.toArray k})] s1 _ H1 _ I1' (VH fr1 fun p hp=>by
        have e:p=(s.heap.objs.size,{cls:=.type "list",data:=.seq vals.toArray k}):=by simpa using hp
        rw[e]) st1 go) fun r s2 ⟨u,hr,h2⟩=>?_
      subst hr;refine thn h2 fun _ s3 ⟨y,H3,I3,r3,y3,Y1,fr3⟩=>?_;have I3':=I3.pinned (VH fr3 fun p hp=>by
        have e:p=(s.heap.objs.size,{cls:=.type "list",data:=.seq vals.toArray k}):=by simpa using hp
        rw[e]) (T.obj _ _ Y1)
      have back:∀ {σ9:St} {H9:Hp} {s9:Shared},TQ (dA X sc cl G2.objs.size N s H fp (X.pn++TF)) ([(s.heap.objs.size,{cls:=.type "list",data:=.seq vals.toArray k})]++wM fp s3.heap) σ9 H9 s9 ->
          tn (i+1) s9.heap/\(∀ b∈fp,H9 b=none)/\s9.heap.get? s.heap.objs.size=some {cls:=.type "list",data:=.seq vals.toArray k}/\H9 s.heap.objs.size=none:=fun {σ9 H9 s9} I9=>by
        refine⟨T.keep _ _ _ Y1 fun b hb o e=>(I9.pin (b,o) (Ϝ _ (Ϝ _ (lE hb e)))).1,fun b hb=>?_,?_⟩
        · obtain⟨o,e,d⟩:=T.obj _ _ Y1 b hb;exact(I9.pin (b,o) (Ϝ _ (Ϝ _ (lE hb e)))).2.1
        · obtain⟨a1,a2,_⟩:=I9.pin (s.heap.objs.size,{cls:=.type "list",data:=.seq vals.toArray k}) (Ϝ _ (List.mem_append_left _ (by simp)));exact⟨a1,a2⟩
      have noX:∀ e s',(dA X sc cl G2.objs.size N s H fp (X.pn++TF)).xe e s'->vS X.prog X.w X.A (compEnvC sc cl G2.objs.size X.env) (RR (.ref s.heap.objs.size) G2.objs.size) e s':=fun e s' z=>(hx e s' z).elim;refine Β5 (hpg _ _ _ _ _ _ s3 _ H3 y u _ I3' r3 (step y H3 y3 v0 ok1)) (fun _ s4 ⟨σ4,H4,I4,ok4,hstep⟩=>?_) noX;obtain⟨hbT,hbE⟩:=hb G2.objs.size s H fp (X.pn++TF);refine Β5 (hbT _ s4 _ H4 _ I4 hstep) (fun ok s5 ⟨H5,I5,q5⟩=>?_) noX;cases ok with
      | false =>
        rw[if_neg Ω];have q5':∃ m',m' < n/\W (i+1) m' xs H5:=q5;obtain⟨m',hm,w5⟩:=q5';obtain⟨b1,b2,b3,b4⟩:=back I5;exact⟨m',hm,i+1,xs,vals,k,σ4,H5,I5.qC (fun p hp=>absurd hp (by simp)),ok4,b1,b2,b3,rv1,b4,w5⟩
      | true =>
        rw[if_pos rfl];refine Β5 (hbE _ s5 _ H5 _ I5 q5) (fun z s6 ⟨v6,H6,I6,r6,q6⟩=>?_) noX;obtain⟨m',hm,w6⟩:=q6;obtain⟨b1,b2,b3,b4⟩:=back I6;refine call_meets F.slot_list_append ⟨_,b3,rfl⟩ F.entry_list_append (F.args_list_append_2 _ _) (PySem.list_append s.heap.objs.size vals.toArray k z (by rw[Ε];omega)) ⟨b3,?_⟩;have q7:=PySem.IsL.update b3 (fun a:Array Value=>a.push z);have ZK:vals.toArray.push z=(vals++[z]).toArray:=by simp
        rw[ZK] at q7;have I6':TQ (dA X sc cl G2.objs.size N s H fp (X.pn++TF)) [] σ4 H6 s6:=I6.qC (fun p hp=>absurd hp (by simp));have others:∀ b o,b≠s.heap.objs.size->s6.heap.get? b=some o->(s6.heap.update s.heap.objs.size (Obj.mapSeq fun a=>a.push z)).get? b=some o:=fun b o Ux e=>(Heap.get?_update_other _ _ (Ne.symm Ux)).trans e;refine⟨m',hm,i+1,xs++[v6],vals++[z],_,σ4,H6,I6'.turned (it:=s.heap.objs.size) others b4 Ya (.inr (Ι _)) Y3 (fun p hp z'=>?_),ok4,T.keep _ _ _ b1 fun b Ux o e=>others b o (fun z'=>Dfp (by rw[<- z'];exact Ux)) e,b2,q7,rv1.append (.cons r6 .nil),b4,w6⟩;have ZJ:p∈X.pn++TF:=by
          have z2:p∈(X.pn++TF)++[]:=hp;simpa using z2
        exact aaE p ZJ z'
  exact codeAny_compStart_list (loop _ rfl) (T.self _ _ _ _ _ (T.keep _ _ _ st fun b _ o e=>old b o e) (loop _ rfl))
def uI(hc:X.calm=true)(hx:∀ e s,¬ X.xe e s)(S:fF X sc cl x fr N)(hb:∀ C s H ex pn,Xc (dA X sc cl C N s H ex pn) ifs tc/\PE (dA X sc cl C N s H ex pn) elt te){Q:VK}(I:TQ X TF Z H s)(T:Turn X.prog X.w X.K (.Name x px) J fp it tn)(st:tn 0 s.heap)(hf:∀ b∈fp,l7 X TF H b)(w0:W 0 m0 [] H)(turn:∀ i m xs H,W i m xs H->xs.length<=1000000 /\ ((J.stop i H/\∀ p,H p=none->Q (.ref p) (TH H p (.lst xs))) \/ (J.go i H/\∀ y H',J.VM i H y H'->tc (some y::bC fr Z) H' fun b H2=>if b=true then te (some y::bC fr Z) H2 (fun z H3=>∃ m',m' < m/\W (i+1) m' (xs++[z]) H3) else ∃ m',m' < m/\W (i+1) m' xs H2)))(fin:∀(D C:Addr) (s':Shared) (m':q0C) (H':Hp),s'.heap.Ns C m'->l7 X TF H' C->(∀ h',Heap.SameBut C s'.heap h'->TQ X TF Z H' {s' with heap:=h'})->Q (.ref D) H'->RR (.ref D) C (.ok .next) s') : wpAny (model X.prog X.w) X.A (newList []) (fun acc s₃=>wpAny (model X.prog X.w) X.A (newFunctionEnv sc X.env.globals cl [] X.env.qual none .none (some X.env)) (fun Vf s₄ => codeAny (model X.prog X.w) X.A (.compStart (.ListComp elt [⟨.Name x px,iter,ifs,0⟩] sc pos) 0 (.ref it) acc {Vf with scope:=relabel sc X.env}) (RR acc Vf.locals) s₄) E s₃) E s :=
 sC (τ0:=none::bC fr Z) (O:=fun σ1=>∃ v0,σ1=v0::bC fr Z) (g:=jV 0) hc hx S.vR S.kind S.sub (fun C s H ex pn=>tU (i:=0) S.nd (show N[0]?=some x by rw[S.N0];rfl) (.inl (Δ9 S.Xt)) (.inr (Δ9 S.Xt))) hb I T st hf
  (fun C h1 t1 m0 VC hC hn hk=>Ho I S hf VC hC hn hk) ⟨_,rfl⟩ w0
  (fun i m xs H w=>let ⟨l,z⟩:=turn i m xs H w;⟨l,z.imp id fun⟨g,h⟩=>⟨g,fun y H' hy σ1 ⟨v0,e⟩=>by subst e;exact⟨⟨_,rfl⟩,h y H' hy⟩⟩⟩) fin
def pX(hc:X.calm=true)(hx:∀ e s,¬ X.xe e s)(S:fF X sc cl x fr N)(hi:PI X (.Name x px) iter wi)(hb:∀ C s H ex pn,Xc (dA X sc cl C N s H ex pn) ifs tc/\PE (dA X sc cl C N s H ex pn) elt te)(hs:∀ v,foldedSetIterable iter X.env v=pure v:=by intro _;rfl):PE X (.ListComp elt [⟨.Name x px,iter,ifs,0⟩] sc pos) (kU wi fr tc te):=by
 intro TF s Z H Q I h;unfold kU at h;rw[eval_ListComp];refine wpAny_comprehension_free (use:=none) rfl hs S.Bh S.kind S.names ?_;refine thn (hi TF s Z H _ I h) fun v s1 h1=>thn h1 fun ZT s2 h2=>?_;obtain⟨it,fp,tn,J,H2,e,I2,T,VG,f2,W,⟨m0,w0⟩,turn⟩:=h2;subst e;refine uI (RR:=fun acc C=>compPost (model X.prog X.w) X.A X.xe none (EP X TF Z Q) acc C) hc hx S hb I2 T VG f2 w0 turn ?_;intro D C s' m' H' hn _ WG q;exact⟨m',hn,fun h' VQ=>⟨.ref D,H',WG h' VQ,rfl,q⟩⟩
end
section
def Pg:JS X (fun x lo hi H Q=>∃ z,x=.str z/\z.length<=sizeLine/\Q (.str (Txt.slice z lo hi)) H):=by
 intro TF s Z H x v vl vu lo hi sl Q I rx hs pl pu h;obtain⟨z,rfl,hz,q⟩:=h;obtain⟨t,rfl⟩:=rx;have fin:∀ t' k,EP X TF Z Q (.str (Txt.slice z lo hi) t') {s with toks:=k}:=fun t' k=>⟨.str _,H,I.tok _,⟨_,rfl⟩,q⟩;refine⟨"str",_,F.slot_str_getitem.lookup,typeIs_str s z t,?_⟩;cases pl with
 | none =>
  cases pu with
  | none=>exact wpAny_getItem_str_slice (l:=none) (u:=none) (st:=none) hs rfl (post_val_or_str ⟨ϒ (Txt.slice_le z _ _) hz,fin⟩)
  | int j uj=>exact wpAny_getItem_str_slice (l:=none) (u:=some (j,uj)) (st:=none) hs rfl (post_val_or_str ⟨ϒ (Txt.slice_le z _ _) hz,fin⟩)
 | int i ui =>
  cases pu with
  | none=>exact wpAny_getItem_str_slice (l:=some (i,ui)) (u:=none) (st:=none) hs rfl (post_val_or_str ⟨ϒ (Txt.slice_le z _ _) hz,fin⟩)
  | int j uj=>exact wpAny_getItem_str_slice (l:=some (i,ui)) (u:=some (j,uj)) (st:=none) hs rfl (post_val_or_str ⟨ϒ (Txt.slice_le z _ _) hz,fin⟩)
end
def cW(n:Nat)(Pv:Nat->List V->Hp->Prop)(i m:Nat)(xs:List V)(H:Hp):Prop:=m=n - i/\i<=n/\Pv i xs H
theorem cW.next(hi:i < n)(p:Pv (i+1) xs H):∃ m',m' < n - i/\cW n Pv (i+1) m' xs H:=⟨n - (i+1),by omega,rfl,hi,p⟩
section
variable{tc:TT}{te:TE}{Q:VK}
theorem Fe(Pv:Nat->List V->Hp->Prop)(h0:Pv 0 [] H)(hz:∀ i xs H,Pv i xs H->xs.length<=1000000)(hl:∀ i xs H,Pv i xs H->fY K H a ys)(hs:∀ i y xs H,i < ys.length->ys[i]?=some y->Pv i xs H->tc (some y::bC fr Z) H fun b H2=>if b=true then te (some y::bC fr Z) H2 (fun z H3=>∃ m',m' < ys.length - i/\cW ys.length Pv (i+1) m' (xs++[z]) H3) else ∃ m',m' < ys.length - i/\cW ys.length Pv (i+1) m' xs H2)(hd:∀ xs H,Pv ys.length xs H->∀ p,H p=none->Q (.ref p) (TH H p (.lst xs))) : ∃ W:Nat->Nat->List V->Hp->Prop,(∃ m,W 0 m [] H)/\∀ i m xs H,W i m xs H->xs.length<=1000000 /\ (((VX K a).stop i H/\∀ p,H p=none->Q (.ref p) (TH H p (.lst xs))) \/ ((VX K a).go i H/\∀ y H',(VX K a).VM i H y H'->tc (some y::bC fr Z) H' fun b H2=>if b=true then te (some y::bC fr Z) H2 (fun z H3=>∃ m',m' < m/\W (i+1) m' (xs++[z]) H3) else ∃ m',m' < m/\W (i+1) m' xs H2)):=by
 refine⟨cW ys.length Pv,⟨ys.length,by simp,Α4 _,h0⟩,?_⟩;rintro i m xs H ⟨rfl,hi,p⟩;refine⟨hz i xs H p,?_⟩;have q:=hl i xs H p;by_cases Uu:i < ys.length
 ·refine .inr ⟨⟨ys,ys[i],q,by simp[Uu]⟩,fun y H' yy=>?_⟩;obtain⟨e,yy⟩:=yy;subst e;exact hs i y xs _ Uu (yy ys q) p
 ·have e:i=ys.length:=by omega
  subst e;exact .inl ⟨⟨ys,q,Ι _⟩,hd xs H p⟩
theorem CU{lo:Int}(Pv:Nat->List V->Hp->Prop)(h0:Pv 0 [] H)(hz:∀ i xs H,Pv i xs H->xs.length<=1000000)(hs:∀ i xs H,i < n->Pv i xs H->tc (some (.int (lo+i))::bC fr Z) H fun b H2=>if b=true then te (some (.int (lo+i))::bC fr Z) H2 (fun z H3=>∃ m',m' < n - i/\cW n Pv (i+1) m' (xs++[z]) H3) else ∃ m',m' < n - i/\cW n Pv (i+1) m' xs H2)(hd:∀ xs H,Pv n xs H->∀ p,H p=none->Q (.ref p) (TH H p (.lst xs))) : ∃ W:Nat->Nat->List V->Hp->Prop,(∃ m,W 0 m [] H)/\∀ i m xs H,W i m xs H->xs.length<=1000000 /\ (((Wd lo n).stop i H/\∀ p,H p=none->Q (.ref p) (TH H p (.lst xs))) \/ ((Wd lo n).go i H/\∀ y H',(Wd lo n).VM i H y H'->tc (some y::bC fr Z) H' fun b H2=>if b=true then te (some y::bC fr Z) H2 (fun z H3=>∃ m',m' < m/\W (i+1) m' (xs++[z]) H3) else ∃ m',m' < m/\W (i+1) m' xs H2)):=by
 refine⟨cW n Pv,⟨n,by simp,Α4 _,h0⟩,?_⟩;rintro i m xs H ⟨rfl,hi,p⟩;refine⟨hz i xs H p,?_⟩;by_cases Uu:i < n
 ·refine .inr ⟨Uu,fun y H' yy=>?_⟩;obtain⟨e,rfl⟩:=yy;subst e;exact hs i xs _ Uu p
 ·have e:i=n:=by omega
  subst e;exact .inl ⟨Ι _,hd xs H p⟩
end
section
variable{tc:TT}{te:TE}{H1:Hp}{Q:VK}
end
def vM{l:List (Str×NameKind)}{k:NameKind}(h:l.lookup y=some k):(y,k)∈l:=Δ8 h
theorem fF.free{sc:Scope}{N:List Str}(kind:sc.kind=.function)(nc:(sc.names.all fun y=>y.2 !=.cell)=true)(nm:(sc.names.all fun y=>!(y.2==.local)||sc.names.lookup y.1==some .local)=true)(Xt:sc.names.lookup x=some .local)(Bh:closureFor sc X.env=pure cl)(sub:∀ y c,cl.lookup y=some c->X.env.cells.lookup y=some c)(has:((relabel sc X.env).names.all fun y=>(y.2 !=.cell&&y.2 !=.free)||(cl.lookup y.1).isSome)=true)(nd:N.Nodup)(N0:N=x::fr.map fun j=>X.N.getD j x)(Xg:∀ j∈fr,∃ y,X.N[j]?=some y/\X.env.kindOf y=some .cell/\((relabel sc X.env).names.lookup y=some .cell\/(relabel sc X.env).names.lookup y=some .free)):fF X sc cl x fr N where
 kind:=kind
 vR:=fun y hy e=>by
  have h:=List.all_eq_true.mp nc y hy;rw[e] at h;exact absurd h (by decide)
 names:=fun y hy e=>by
  have h:=List.all_eq_true.mp nm y hy;rw[e] at h;simpa using h
 Bh:=Bh
 sub:=sub
 has:=fun y h=>by
  have key:∀ k,(relabel sc X.env).names.lookup y=some k->(k=.cell\/k=.free)->∃ c,cl.lookup y=some c:=fun k e hk=>by
   have h:=List.all_eq_true.mp has (y,k) (vM e);rcases hk with rfl|rfl
   ·exact Δ7.mp (by simpa using h)
   ·exact Δ7.mp (by simpa using h)
  rcases h with h|h
  ·exact key _ h (.inl rfl)
  ·exact key _ h (.inr rfl)
 Xt:=Xt
 nd:=nd
 N0:=N0
 Xg:=Xg
section
variable{sc:Scope}{N:List Str}{elt iter:Expr}{px:Pos}{ifs:List Expr}{wi:TI}{tc:TT}{te:TE}
theorem lK{py WN:Pos}(hc:X.calm=true)(hx:∀ e s,¬ X.xe e s)(S:fF X sc cl x fr N)(hi:PI X (.Name x px) iter wi)(hb:∀ C s H ex pn,Xc (dA X sc cl C N s H ex pn) ifs tc/\PE (dA X sc cl C N s H ex pn) elt te)(hN:X.N.Nodup)(hy:X.N[i]?=some y)(hl:Loc X.env.scope y)(hsw:swapsWith (.ListComp elt [⟨.Name x px,iter,ifs,0⟩] sc pos) (some (.Name y py)) WN.line X.env=pure true:=by rfl)(hs:∀ v,foldedSetIterable iter X.env v=pure v:=by intro _;rfl)(hf:X.fn y=true\/X.env.scope.names.lookup y=some .local:=by first|exact .inl rfl|exact .inr rfl|assumption) : PS X (.Assign [.Name y py] (.ListComp elt [⟨.Name x px,iter,ifs,0⟩] sc pos) WN) (GF (kU wi fr tc te) (jV i)):=by
 intro TF s Z H D I h;have h:kU wi fr tc te Z H (fun x H1=>jV i x Z H1 D.nx):=h;unfold kU at h;rw[exec_Assign_Name_used _ _ _ _ hsw];refine Β (wpAny_standAt (Β ?_));show wpAny _ X.A (do let _ <- comprehension (.ListComp elt [⟨.Name x px,iter,ifs,0⟩] sc pos) sc X.env _ (newList []) false (eval iter X.env) (some (assign (.Name y py) X.env))) _ _ s;refine Β (Β5 (wpAny_comprehension_free (use:=some (assign (.Name y py) X.env)) (Q:=fun _ s'=>SP X TF D .next s') rfl hs S.Bh S.kind S.names
  (thn (hi TF s Z H _ I h) fun v s1 h1=>thn h1 fun ZT s2 h2=>?_)) (fun _ s' hq=>Θ (Θ hq)) fun _ _ e=>e)
 obtain⟨it,fp,tn,J,H2,e,I2,T,VG,f2,W,⟨m0,w0⟩,turn⟩:=h2;subst e;refine uI (Q:=fun x H1=>jV i x Z H1 D.nx) (RR:=fun acc C=>compPost (model X.prog X.w) X.A X.xe (some (assign (.Name y py) X.env)) (fun _ s'=>SP X TF D .next s') acc C) hc hx S hb I2 T VG f2 w0 turn ?_;intro D' C s' m' H' hn fC WG q;show wpAny _ X.A (assign (.Name y py) X.env (.ref D')) _ _ _;have I':TQ X TF Z H' s':=WG s'.heap (Heap.SameBut.refl ..);refine wpAny_assign_Name (r8 (v:=.ref D') I' hN hy hl rfl (fun YE I'' ⟨a,hsa,ha⟩=>?_) hf);obtain⟨f0,f1,f2',f3,f4,f5⟩:=fC;have hCa:C≠a:=fun z=>by
  rcases ha with ha|ha
  ·exact f1 (z.trans ha)
  ·exact f4 y a ha z.symm
 refine⟨m',hn.sameBut hsa hCa,fun h' VQ=>?_⟩;exact⟨Z.set i (some (.ref D')),H',I''.turned (t':=YE.toks) (fun b o Ux e=>(VQ.2 b Ux).trans e) f0 f1 f3 f4 f5,q⟩
end
section
variable{prog:Program}
end
section
mutual
example:=[.int i,.int j,.str y,.str x]
variable{Q:VK}{i j:Int}{v:V}
def MM:nB 0 (some v::Z) H Q=Q v H:=by simp[nB]
def AZ{o:Option V}:nB (n+1) (o::Z) H Q=nB n Z H Q:=by simp[nB]
def RX:nB 1 (o0::some v::Z) H Q=Q v H:=(AZ.trans MM)
def RY:nB 2 (o0::o1::some v::Z) H Q=Q v H:=(AZ.trans RX)
def RZ{o2:Option V}:nB 3 (o0::o1::o2::some v::Z) H Q=Q v H:=(AZ.trans RY)
def R7{o2 o3:Option V}:nB 4 (o0::o1::o2::o3::some v::Z) H Q=Q v H:=(AZ.trans RZ)
def R8{o2 o3 o4:Option V}:nB 5 (o0::o1::o2::o3::o4::some v::Z) H Q=Q v H:=(AZ.trans R7)
def R9{o2 o3 o4 o5:Option V}:nB 6 (o0::o1::o2::o3::o4::o5::some v::Z) H Q=Q v H:=(AZ.trans R8)
def Sa{o2 o3 o4 o5 o6:Option V}:nB 7 (o0::o1::o2::o3::o4::o5::o6::some v::Z) H Q=Q v H:=(AZ.trans R9)
def Sb{o2 o3 o4 o5 o6 o7:Option V}:nB 8 (o0::o1::o2::o3::o4::o5::o6::o7::some v::Z) H Q=Q v H:=(AZ.trans Sa)
def Tf{o2 o3 o4 o5 o6 o7 o8:Option V}:nB 9 (o0::o1::o2::o3::o4::o5::o6::o7::o8::some v::Z) H Q=Q v H:=(AZ.trans Sb)
def C5{α β:Type}{f:α->β}{a:α}{l:List α}:List.map f (a::l)=f a::List.map f l:=rfl
def Ir{α β:Type}{f:α->β}:List.map f []=[]:=rfl
def Td{C:Int->Int->Prop}:rI C g 0e0 1e0 H Q=(C i j/\Q (g i j) H):=by simp[rI]
def RV:LI g 0e0 1e0 H Q=Q (g i j) H:=by simp[LI]
def Te{g:Int->V}:rU g 0e0 H Q=Q (g i) H:=by simp[rU]
def w_lit(h:Nat.ble n 1000=true):(n<=sizeLine)=True:=eq_true (Nat.le_of_lt (small1000 (Nat.le_of_ble_eq_true h)))
theorem RP:JQ 0e0 1e0 H Q=Q (.bl (decide (i=j))) H:=by simp only[JQ,show UX 0e0 1e0=true from rfl,V.int.injEq,true_and]
theorem RQ:JQ 3e0 2e0 H Q=Q (.bl (decide (x=y))) H:=by simp only[JQ,show UX 3e0 2e0=true from rfl,V.str.injEq,true_and]
theorem RS:Rl 0e0 1e0 H Q=Q (.bl (!decide (i=j))) H:=by simp only[Rl,show UX 0e0 1e0=true from rfl,V.int.injEq,true_and]
theorem RT:Rl 3e0 2e0 H Q=Q (.bl (!decide (x=y))) H:=by simp only[Rl,show UX 3e0 2e0=true from rfl,V.str.injEq,true_and]
end
end
def cK{a b:String}:(Str.ofString a=Str.ofString b)=(a=b):=by
 refine propext ⟨fun h=>?_,fun h=>by rw[h]⟩;rw[Str.ofString_eq_toList,Str.ofString_eq_toList] at h;have e:(a.toList.map Char.toNat)=(b.toList.map Char.toNat):=by
  have:=congrArg (fun z:Str=>z.cps.toList) h;simpa using this
 have inj:∀ x y:Char,x.toNat=y.toNat->x=y:=fun x y q=>Char.ext (UInt32.toNat_inj.mp q);have:=(List.map_inj_right (f:=Char.toNat) (fun x y q=>inj x y q)).mp e;exact String.toList_inj.mp this
def Kp(S:List Addr)(H H':Hp):Prop:=∀ b o,H b=some o->b∉S->H' b=some o
section
mutual
example:=[TH H p o]
variable{S T:List Addr}{H1 H2:Hp}{p:Addr}{o:HO}
def Kp.refl:Kp S H H:=fun _ _ h _=>h
def Kp.trans(x:Kp S H H1)(y:Kp S H1 H2):Kp S H H2:=fun b o h n=>y b o (x b o h n) n
def Kp.mono(x:Kp S H H1)(h:∀ b∈S,b∈T):Kp T H H1:=fun b o e n=>x b o e fun z=>n (h b z)
def Kp.new(h:H p=none):Kp S H 0e0:=fun b u e _=>by rw[aD (aF e h)];exact e
def q0D(h:H p=none):Kp [] H 0e0:=Kp.new h
def Kp.set(h:p∈S):Kp S H 0e0:=fun b u e n=>by rw[aD (show b≠p from fun z=>n (by rw[z];exact h))];exact e
theorem Kp.at(x:Kp S H H1)(e:H a=some o)(n:a∉S:=by first|exact Δ|simp_all):H1 a=some o:=x a o e n
def Kp.same(x:Kp [] H H1):Same H H1:=fun b o e=>x b o e (by simp)
def Kp.of(x:Same H H1):Kp S H H1:=fun b o e _=>x b o e
def Kp.drop(x:Kp (p::S) H H1)(h:H p=none):Kp S H H1:=fun b o e n=>x b o e (by
 simp only[Α,not_or];exact⟨aF e h,n⟩)
end
end
mutual
example:=[.lst xs,.tup xs,.ref p,qU xs lo hi]
abbrev Tg{α:Type}(_:α):Type:=Unit
def iY{α:Type}(o:Option α)(k:α->Prop)(_u:Tg k:=()):Prop:=match o with
 | some x=>k x
 | none=>False
def IF(x:V)(k:Bool->Prop)(_u:Tg k:=()):Prop:=match x with
 | .bl b=>k b
 | _=>False
def eV(o:Option HO)(k:List V->Prop)(_u:Tg k:=()):Prop:=match o with
 | some 0e0=>k xs
 | _=>False
def lT(o:Option HO)(k:List V->Prop)(_u:Tg k:=()):Prop:=match o with
 | some 0e0=>k xs
 | some 1e0=>k xs
 | _=>False
def dF(o:Option HO)(k:List (Key×V)->Prop)(_u:Tg k:=()):Prop:=match o with
 | some (.dK xs)=>k xs
 | _=>False
def bH(x:V)(k:Addr->Prop)(_u:Tg k:=()):Prop:=match x with
 | .ref p=>k p
 | _=>False
def gZ(x:V)(k:Int->Prop)(_u:Tg k:=()):Prop:=match x with
 | .int i=>k i
 | _=>False
def dQ{α:Type}{o:Option α}{k:α->Prop}(h:iY o k):∃ x,o=some x/\k x:=by
 cases o with
 | none=>exact h.elim
 | some x=>exact⟨x,rfl,h⟩
def OQ{x:V}{k:Bool->Prop}(h:IF x k):∃ b,x=.bl b/\k b:=by
 cases x with
 | bl b=>exact⟨b,rfl,h⟩
 | _=>exact h.elim
def wA{x:V}{k:Bool->Prop}:(∃ b,x=.bl b/\k b)=IF x k:=by
 refine propext ⟨fun⟨b,e,h⟩=>by subst e;exact h,OQ⟩
def aU{x:V}{k:Addr->Prop}(h:bH x k):∃ b,x=.ref b/\k b:=by
 cases x with
 | ref b=>exact⟨b,rfl,h⟩
 | _=>exact h.elim
def eP{x:V}{k:Int->Prop}(h:gZ x k):∃ b,x=.int b/\k b:=by
 cases x with
 | int b=>exact⟨b,rfl,h⟩
 | _=>exact h.elim
def fP(h:eV o k):∃ xs,o=some 0e0/\k xs:=by
 unfold eV at h;split at h
 ·exact⟨_,rfl,h⟩
 ·exact h.elim
def mQ(h:lT o k):∃ xs,(o=some 0e0\/o=some 1e0)/\k xs:=by
 unfold lT at h;split at h
 ·exact⟨_,.inl rfl,h⟩
 ·exact⟨_,.inr rfl,h⟩
 ·exact h.elim
def dN{k:List (Key×V)->Prop}(h:dF o k):∃ xs,o=some (.dK xs)/\k xs:=by
 unfold dF at h;split at h
 ·exact⟨_,rfl,h⟩
 ·exact h.elim
def Mh:R2:=fun x y H Q=>match x with
 | .ref p=>lT (H p) fun xs=>gZ y fun i=>iY (fU xs i) fun v=>Q v H
 | .str z=>gZ y fun i=>z.length<=sizeLine/\iY (fU z.cps.toList i) fun c=>Q (.str ⟨#[c]⟩) H
 | _=>False
def JX(H:Hp)(Q:VK)(a:Addr)(oa ob:Option HO):Prop:=match oa,ob with
 | some 0e0,some (.lst ys)=>xs.length+ys.length<=sizeLine/\∀ p,H p=none->Q 2e0 (TH H p (.lst (xs++ys)))
 | some 1e0,some (.tup ys)=>xs≠[]/\xs.length+ys.length<=sizeLine/\(ys≠[]->∀ p,H p=none->Q 2e0 (TH H p (.tup (xs++ys))))/\(ys=[]->Q (.ref a) H)
 | _,_=>False
def GW:R2:=fun x y H Q=>match x,y with
 | .int i,.int j=>Q (.int (i+j)) H
 | .str a,.str b=>a.length+b.length<=sizeLine/\Q (.str (a++b)) H
 | .ref a,.ref b=>JX H Q a (H a) (H b)
 | _,_=>False
def GX(lo hi:Option Int)(H:Hp)(Q:VK)(o:Option HO):Prop:=match o with
 | some 0e0=>∀ p,H p=none->Q 2e0 (TH H p (.lst 3e0))
 | some 1e0=>¬ (HT.iF xs.length 0 lo=0/\HT.iF xs.length xs.length hi=xs.length)/\∀ p,H p=none->Q 2e0 (TH H p (.tup 3e0))
 | _=>False
def Sf:V->Option Int->Option Int->Hp->VK->Prop:=fun x lo hi H Q=>match x with
 | .str z=>z.length<=sizeLine/\Q (.str (Txt.slice z lo hi)) H
 | .ref a=>GX lo hi H Q (H a)
 | _=>False
def J1:List V->Hp->VK->Prop:=fun vs H Q=>match vs with
 | [.str z]=>z.length<=sizeLine/\Q (.int z.length) H
 | [.ref p]=>lT (H p) fun xs=>Q (.int xs.length) H
 | _=>False
def PL:V->V->V->Hp->(Hp->Prop)->Prop:=fun o i v H Q=>bH o fun p=>gZ i fun k=>eV (H p) fun xs=>iY (yA xs.length k) fun j=>Q (TH H p (.lst (xs.set j v)))
def jR:V->Option Key
 | .int i=>some (.inl i)
 | .str x=>some (.inr x)
 | .TK=>some .no
 | _=>none
def Am{y:V}{k:Key}(h:jR y=some k):y=kV k:=by
 cases y<;>simp only[jR,Ο,reduceCtorEq] at h<;>subst h<;>rfl
def Mf(td ty:TE):TE:=fun Z H Q=>td Z H fun x H1=>bH x fun a=>dF (H1 a) fun _=>ty Z H1 fun y H2=>dF (H2 a) fun kvs=>iY (jR y) fun k=>Q ((aY kvs k).getD .TK) H2
def MV(td ty:TE):TE:=fun Z H Q=>td Z H fun x H1=>ty Z H1 fun y H2=>bH x fun a=>dF (H2 a) fun kvs=>iY (jR y) fun k=>iY (aY kvs k) fun v=>Q v H2
def M9(td ty tv:TE):TS:=fun D Z H=>tv Z H fun v H1=>td Z H1 fun x H2=>ty Z H2 fun y H3=>bH x fun a=>dF (H3 a) fun kvs=>iY (jR y) fun k=>kvs.length < sizeLine/\D.nx Z (TH H3 a (.dK (aS kvs k v)))
def Ss(neg:Bool):R2:=fun x y H Q=>bH y fun p=>lT (H p) fun xs=>eK x=true/\xs.all eK=true/\Q (.bl (if neg=true then !pM x xs else pM x xs)) H
def JZ:List V->Hp->VK->Prop:=fun vs H Q=>match vs with
 | [.int i]=>Q (.int i) H
 | [.bl k]=>Q (.int (if k=true then 1 else 0)) H
 | _=>False
def MW:R2:=fun x y H Q=>match y with
 | .TK=>Q (.bl (decide (x=.TK))) H
 | _=>False
def Mi:R2:=fun x y H Q=>match y with
 | .TK=>Q (.bl (!decide (x=.TK))) H
 | _=>False
def MX:List V->Hp->VK->Prop:=fun vs H Q=>match vs with
 | [.int i,.int j]=>Q (.int (if j > i then j else i)) H
 | _=>False
def MY:List V->Hp->VK->Prop:=fun vs H Q=>match vs with
 | [.int i,.int j]=>Q (.int (if j < i then j else i)) H
 | _=>False
def Py(to te:TE):TE:=fun Z H Q=>to Z H fun x H1=>bH x fun a=>eV (H1 a) fun _=>te Z H1 fun y H2=>eV (H2 a) fun xs=>xs.length < sizeLine/\Q .TK (TH H2 a (.lst (xs++[y])))
def PJ(to:TE):TE:=fun Z H Q=>to Z H fun x H1=>bH x fun a=>eV (H1 a) fun xs=>iY (xs[xs.length - 1]?) fun y=>Q y (TH H1 a (.lst xs.dropLast))
end
section
mutual
example:=[(fun e=>.inl (.inl e)),.inl ‹_›,.inl e,(thn (ho TF s Z H _ I h) fun v s1 ⟨x,H1,I1,r1,q1⟩=>?_),(.inl ⟨rfl,xs,.inl (.inl e1)⟩),apos.endLine==T9.line,starEach [] X.env,eval o X.env]
def DL.imp{r r':R2}(h:DL X r)(f:∀ x y H Q,r' x y H Q->r x y H Q):DL X r':=fun value slice TF s Z H x y v u Q I rx ry q=>h value slice TF s Z H x y v u Q I rx ry (f _ _ _ _ q)
def jT.imp{f:Value->Value->Sem Value}{r r':R2}(h:jT X f r)(g:∀ x y H Q,r' x y H Q->r x y H Q):jT X f r':=fun TF s Z H x y v u Q I rx ry q=>h TF s Z H x y v u Q I rx ry (g _ _ _ _ q)
def aN:DL X Mh:=OE.imp fun x y H Q h=>by
 cases x with
 | ref p =>
  obtain⟨xs,e,h⟩:=mQ h;obtain⟨i,rfl,h⟩:=eP h;obtain⟨v,e2,h⟩:=dQ h;rcases e with e|e
  ·exact .inl ⟨_,_,_,_,rfl,rfl,.inl 2e0,e2,h⟩
  ·exact .inr (.inl ⟨_,_,_,_,rfl,rfl,.inl 2e0,e2,h⟩)
 | str z =>
  obtain⟨i,rfl,h1,h⟩:=eP h;obtain⟨v,e2,h⟩:=dQ h;exact .inr (.inr ⟨_,_,_,rfl,rfl,h1,e2,h⟩)
 | _=>exact h.elim
def cS:jT X (binaryOp .Add) GW:=(OS.or (Dm.or (OT.or Er))).imp fun x y H Q h=>by
 unfold GW JX at h;split at h
 ·exact .inl ⟨_,_,rfl,rfl,h⟩
 ·exact .inr (.inl ⟨_,_,rfl,rfl,h.1,h.2⟩)
 ·split at h
  ·exact .inr (.inr (.inl ⟨_,_,_,_,rfl,rfl,‹_›,‹_›,h.1,h.2⟩))
  ·exact .inr (.inr (.inr ⟨_,_,_,_,rfl,rfl,.inl 1e0,.inl 1e0,h.1,h.2.1,h.2.2.2,h.2.2.1⟩))
  ·exact h.elim
 ·exact h.elim
def Ta:JS X Sf:=fun TF s Z H x v vl vu lo hi sl Q I rx hs pl pu h=>by
 refine(LQ.or (Ph.or Pg)) TF s Z H x v vl vu lo hi sl Q I rx hs pl pu ?_;unfold Sf GX at h;split at h
 ·exact .inr (.inr ⟨_,rfl,h.1,h.2⟩)
 ·split at h
  ·exact .inl ⟨_,_,rfl,.inl 1e0,h⟩
  ·exact .inr (.inl ⟨_,_,rfl,.inl 1e0,h.1,h.2⟩)
  ·exact h.elim
 ·exact h.elim
def cP:gA X (.builtin "len") J1:=fun TF s Z H xs us Q I r h=>by
 unfold J1 at h;split at h
 ·exact uD TF s Z H _ us Q I r ⟨_,_,rfl,⟨h.1,rfl⟩,h.2⟩
 ·obtain⟨ys,e,h⟩:=mQ h;rcases e with e|e
  ·exact uD TF s Z H _ us Q I r ⟨_,_,rfl,.inl ⟨_,.inl 2e0,rfl⟩,h⟩
  ·exact uD TF s Z H _ us Q I r ⟨_,_,rfl,.inr ⟨_,.inl 2e0,rfl⟩,h⟩
 ·exact h.elim
def xC:PSet X PL:=fun TF s Z H o i v ov iv u Q I ro ri rv h=>by
 obtain⟨p,rfl,h⟩:=aU h;obtain⟨k,rfl,h⟩:=eP h;obtain⟨xs,e,h⟩:=fP h;obtain⟨j,e2,h⟩:=dQ h;exact Ji TF s Z H _ _ v ov iv u Q I ro ri rv ⟨_,_,_,_,rfl,rfl,e,e2,h⟩
def kE:jT X (compareOp .In) (Ss false):=Gg.imp fun x y H Q h=>by
 obtain⟨p,rfl,h⟩:=aU h;obtain⟨xs,e,h1,h2,h⟩:=mQ h;exact⟨_,_,rfl,e.imp 0e0 0e0,h1,h2,h⟩
def zD:jT X (compareOp .NotIn) (Ss true):=Az.imp fun x y H Q h=>by
 obtain⟨p,rfl,h⟩:=aU h;obtain⟨xs,e,h1,h2,h⟩:=mQ h;exact⟨_,_,rfl,e.imp 0e0 0e0,h1,h2,h⟩
def gU:gA X (.type "int") JZ:=fun TF s Z H xs us Q I r h=>by
 refine E8 TF s Z H xs us Q I r ?_;unfold JZ at h;split at h
 ·exact .inl ⟨_,rfl,h⟩
 ·exact .inr ⟨_,rfl,by
   rename_i k
   cases k<;>exact h⟩
 ·exact h.elim
def mR:jT X (compareOp .Is) MW:=OV.imp fun x y H Q h=>by
 cases y with
 | TK=>exact⟨rfl,h⟩
 | _=>exact h.elim
def nU:jT X (compareOp .IsNot) Mi:=Lp.imp fun x y H Q h=>by
 cases y with
 | TK=>exact⟨rfl,h⟩
 | _=>exact h.elim
def iD(hc:X.calm=true):gA X (.builtin "max") MX:=fun TF s Z H xs us Q I r h=>by
 refine Fb hc TF s Z H xs us Q I r ?_;unfold MX at h;split at h
 ·exact⟨_,_,rfl,h⟩
 ·exact h.elim
def nI(hc:X.calm=true):gA X (.builtin "min") MY:=fun TF s Z H xs us Q I r h=>by
 refine Fc hc TF s Z H xs us Q I r ?_;unfold MY at h;split at h
 ·exact⟨_,_,rfl,h⟩
 ·exact h.elim
variable{o e:Expr}{to te:TE}{apos T9:Pos}
theorem dD(ho:PE X o to)(he:PE X e te)(UA:attributeBase o "append" X.env 7e0=eval o X.env:=by rfl)(Yf:((backTo T9 (starEach [e] X.env)).all (fun x=>!x.1)&&(backToKw T9 (keywordEach [] X.env)).all (fun x=>x.1.isSome)&&decide ([e].length+([]:List Keyword).length+(if ([]:List Keyword).isEmpty then 0 else 1) < 30))=true:=by rfl)(UB:5e0=true:=by rfl)(hs:starEach [e] X.env=(false,eval e X.env)::starEach [] X.env:=by rfl)(VD:(backTo T9 6e0).any (·.1)=false:=by rfl) : PE X (.Call (.Attribute o "append" apos) [e] [] T9) (Py to te):=by
 intro TF s Z H Q I h;refine wpAny_Call_method_late UA Yf UB rfl 3e0;obtain⟨a,rfl,q1⟩:=aU q1;obtain⟨xs,e1,q1⟩:=fP q1;obtain⟨h1,h2⟩:=DH (T:="list") I1 r1 4e0;refine⟨"list","list.append",PySem.F.plainAttrs_list,PySem.F.slot_list_append,PySem.F.type_list_append,h1,h2,?_⟩;have q2:jP te qN Z H1 (fun vs H2=>vs.length=1/\eV (H2 a) fun xs=>xs.length < sizeLine/\Q .TK (TH H2 a (.lst (xs++vs)))):=by
  simpa only[jP,qN,Ζ,ϕ,Γ4,true_and] using q1
 have hA:=Et he bU hs T9 TF s1 Z H1 _ I1 q2;rw[hs] at hA ⊢;refine Α6 (by show(false||(backTo T9 6e0).any (·.1))=false;rw[VD]<;>rfl) (Ε0 ?_);refine thn hA fun us s2 ⟨vs,H2,I2,r2,l2,q3⟩=>?_;obtain⟨xs,e3,q4,q5⟩:=fP q3
 match vs,l2,r2,q5 with
 | [y],_,r2,q5=>exact FL TF s2 Z H2 _ _ v us Q I2 r1 r2 ⟨_,_,_,rfl,rfl,e3,q4,q5⟩
def tT(ho:PE X o to)(UA:attributeBase o "pop" X.env 7e0=eval o X.env:=by rfl)(UB:5e0=true:=by rfl):PE X (.Call (.Attribute o "pop" apos) [] [] T9) (PJ to):=by
 intro TF s Z H Q I h;refine wpAny_Call_method0_late UA UB 3e0;obtain⟨a,rfl,q1⟩:=aU q1;obtain⟨xs,e1,q1⟩:=fP q1;obtain⟨y,e2,q1⟩:=dQ q1;obtain⟨h1,h2⟩:=DH (T:="list") I1 r1 4e0;exact⟨"list","list.pop",PySem.F.plainAttrs_list,PySem.F.slot_list_pop,PySem.F.type_list_pop,h1,h2,Α6 rfl (PySem.evalArgs_none (OM TF s1 Z H1 _ [] v [] Q I1 r1 .nil ⟨_,_,_,rfl,rfl,e1,e2,q1⟩))⟩
end
end
section
variable{o i e value:Expr}{pos' apos T9:Pos}{td ty tv:TE}
def tS(hu:X.A.units+1 < cLine)(ho:PE X o td)(he:PE X e ty)(m:M1 X o "get" apos e T9):PE X (.Call (.Attribute o "get" apos) [e] [] T9) (Mf td ty):=by
 intro TF s Z H Q I h;refine wpAny_Call_method m.base m.Us m.line Γ6 Δ0 PySem.F.type_dict_get (thn (ho TF s Z H _ I h) fun u s1 ⟨x,H1,I1,rx,q1⟩=>?_);obtain⟨a,rfl,q1⟩:=aU q1;obtain⟨kvs,e1,q1⟩:=dN q1;obtain rfl:u=Value.ref a:=rx;obtain⟨t1,t2,_⟩:=qX I1 (.inl ⟨_,.inl e1⟩);refine⟨t1,t2,?_⟩;rw[m.trees];refine Α6 rfl (Ε0 (Δ6 (thn (he TF s1 Z H1 _ I1 q1) fun iv s2 ⟨y,H2,I2,ry,q2⟩=>Calls.spliced_nil ?_)));obtain⟨kvs,e1,q2⟩:=dN q2;obtain⟨k,e2,q2⟩:=dQ q2;have g:DGet H2 a y (aY kvs k):=by rw[Am e2];exact DGet.k e1
 exact Ng hu I2 g ry fun w' s3 I3 UW=>⟨_,H2,I3,UW,q2⟩
def mT(hu:X.A.units+1 < cLine)(ho:PE X o td)(hi:PE X i ty)(hs:JR i):PE X (.Subscript o i pos) (MV td ty):=by
 intro TF s Z H Q I h;refine EV PySem.F.slot_dict_getitem.lookup hs (thn (ho TF s Z H _ I h) fun u s1 ⟨x,H1,I1,rx,q1⟩=>thn (hi TF s1 Z H1 _ I1 q1) fun iv s2 ⟨y,H2,I2,ry,q2⟩=>?_);obtain⟨a,rfl,q2⟩:=aU q2;obtain⟨kvs,e1,q2⟩:=dN q2;obtain⟨k,e2,q2⟩:=dQ q2;obtain⟨v,e3,q2⟩:=dQ q2;obtain rfl:u=Value.ref a:=rx;have g:DGet H2 a y (some v):=by rw[Am e2,<- e3];exact DGet.k e1
 exact⟨Bm I2 g,Ff hu I2 g ry fun w' s3 I3 UW=>⟨v,H2,I3,UW,q2⟩⟩
def Ly(hu:X.A.units+1 < cLine)(ho:PE X o td)(hi:PE X i ty)(hv:PE X value tv)(hs:swapsWith value (some (.Subscript o i pos')) pos.line X.env=pure false:=by rfl) : PS X (.Assign [.Subscript o i pos'] value pos) (M9 td ty tv):=by
 intro TF s Z H D I h;refine wpAny_Assign_Subscript (thn (hv TF s Z H _ I h) fun r s1 ⟨v,H1,I1,rv,q1⟩=>thn (ho TF s1 Z H1 _ I1 q1) fun u s2 ⟨x,H2,I2,rx,q2⟩=>thn (hi TF s2 Z H2 _ I2 q2) fun iv s3 ⟨y,H3,I3,ry,q3⟩=>?_) hs;obtain⟨a,rfl,q3⟩:=aU q3;obtain⟨kvs,e1,q3⟩:=dN q3;obtain⟨k,e2,q3⟩:=dQ q3;obtain rfl:u=Value.ref a:=rx;have g:DPut H3 a y v (TH H3 a (.dK (aS kvs k v))):=by rw[Am e2];exact DPut.k e1 q3.1
 exact Fg hu I3 g ry rv fun s4 I4=>⟨Z,_,I4,q3.2⟩
end
section
mutual
example:=[.ref p,.int i,some (.lst vs),.str x]
variable{Q:VK}{D:Ends}{t u:TS}{te ta tb tc to ti:TE}{tl th:TO}{g:TG}{gs:TGs}{tt tt':TT}{as:TA}{i j:Int}{v w:V}{b:Bool}{p:Addr}{r r':R2}{B:Bool->Hp->Prop}
def QC:DB t u D Z H=t {D with nx:=u D} Z H:=rfl
def PV:GF te g D Z H=te Z H fun x H1=>g x Z H1 D.nx:=rfl
def Oe:jV n v Z H N=N (Z.set n (some v)) H:=rfl
def QB:LZ te D Z H=te Z H D.rt:=rfl
def Ol:MI D Z H=D.rt .TK H:=rfl
def Qg:AV tt t u D Z H=tt Z H fun b H1=>if b=true then t D Z H1 else u D Z H1:=rfl
def HK:CB te Z H B=te Z H fun x H'=>IF x fun k=>B k H':=by simp only[CB,wA]
def SS:tB te Z H B=te Z H fun x H'=>IF x fun k=>B k H':=by simp only[tB,wA]
def SJ:Tj tt ta tb Z H Q=tt Z H fun c H1=>if c=true then ta Z H1 Q else tb Z H1 Q:=rfl
def SO:DA r ta tb Z H Q=ta Z H fun x H1=>tb Z H1 fun y H2=>r x y H2 Q:=rfl
def SU{q:V->Hp->VK->Prop}:Tr q ta Z H Q=ta Z H fun x H1=>q x H1 Q:=rfl
def Tu:tC v Z H Q=Q v H:=rfl
def Nu{A:List V->Hp->Prop}:jP te as Z H A=te Z H fun x H1=>as Z H1 fun xs H2=>A (x::xs) H2:=rfl
def Qo{A:List V->Hp->Prop}:qN Z H A=A [] H:=rfl
def Hv{sp:Sp}{E:XK}:EX sp [] E as Z H Q=as Z H fun vs H1=>sp vs H1 Q E:=by simp only[EX,ϛ]
def SI{q:List V->Hp->VK->Prop}:Tb q as Z H Q=as Z H fun vs H1=>q vs H1 Q:=rfl
def Qk:Rx as Z H Q=as Z H fun xs H1=>xs.length<=sizeLine/\∀ p,H1 p=none->Q 0e0 (TH H1 p (.lst xs)):=rfl
def QH:Pn as Z H Q=as Z H fun xs H1=>xs.length<=sizeLine/\∀ p,H1 p=none->Q 0e0 (TH H1 p (.tup xs)):=rfl
def ND:JF Z H Q = ∀ p,H p=none->Q 0e0 (TH H p (.dK [])):=rfl
def NF:JG te D Z H=te Z H fun _ H1=>D.nx Z H1:=rfl
def Of:CA D Z H=D.nx Z H:=rfl
def Nv:MF D Z H=D.ct Z H:=rfl
def Nn:JE ta tb Z H Q=ta Z H fun x H1=>IF x fun c=>if c=true then tb Z H1 Q else Q (.bl false) H1:=by simp only[JE,wA]
def Qx:Pm ta tb Z H Q=ta Z H fun x H1=>IF x fun c=>if c=true then Q (.bl true) H1 else tb Z H1 Q:=by simp only[Pm,wA]
def Og:JI ta Z H Q=ta Z H fun x H1=>IF x fun c=>Q (.bl (!c)) H1:=by simp only[JI,wA]
def PR:Rv tt tt' Z H B=tt Z H fun c H1=>if c=true then tt' Z H1 B else B false H1:=rfl
def SQ:To tt tt' Z H B=tt Z H fun c H1=>if c=true then B true H1 else tt' Z H1 B:=rfl
def Qp:Ry tt Z H B=tt Z H fun c H1=>B (!c) H1:=rfl
def SR{q:V->Option Int->Option Int->Hp->VK->Prop}:Tq q te tl th Z H Q=te Z H fun x H1=>tl Z H1 fun l H2=>th Z H2 fun u H3=>q x l u H3 Q:=rfl
def II{k:Int->Prop}:(∃ i,v=.int i/\k i)=gZ v k:=propext ⟨fun⟨i,e,h⟩=>by subst e;exact h,eP⟩
def Oh:JJ te Z H O=te Z H fun x H1=>gZ x fun i=>O (some i) H1:=by simp only[JJ,II]
def HE:EZ Z H O=O none H:=rfl
def NO{s:TSet}:QN to ti s v Z H N=to Z H fun o H1=>ti Z H1 fun i H2=>s o i v H2 fun H3=>N Z H3:=rfl
def NM:KR [] Z H N=N Z H:=by simp[KR]
def Kh:Ec g gs (v::vs) Z H N=g v Z H fun Z' H'=>gs vs Z' H' N:=propext ⟨fun⟨_,_,e,h⟩=>by cases e;exact h,fun h=>⟨_,_,rfl,h⟩⟩
def NJ:Mf ta tb Z H Q=ta Z H fun x H1=>bH x fun a=>dF (H1 a) fun _=>tb Z H1 fun y H2=>dF (H2 a) fun kvs=>iY (jR y) fun k=>Q ((aY kvs k).getD .TK) H2:=rfl
def Qf:MV ta tb Z H Q=ta Z H fun x H1=>tb Z H1 fun y H2=>bH x fun a=>dF (H2 a) fun kvs=>iY (jR y) fun k=>iY (aY kvs k) fun v=>Q v H2:=rfl
def Qz:M9 ta tb tc D Z H=tc Z H fun v H1=>ta Z H1 fun x H2=>tb Z H2 fun y H3=>bH x fun a=>dF (H3 a) fun kvs=>iY (jR y) fun k=>kvs.length < sizeLine/\D.nx Z (TH H3 a (.dK (aS kvs k v))):=rfl
def PU:Py to te Z H Q=to Z H fun x H1=>bH x fun a=>eV (H1 a) fun _=>te Z H1 fun y H2=>eV (H2 a) fun xs=>xs.length < sizeLine/\Q .TK (TH H2 a (.lst (xs++[y]))):=rfl
def Qy:PJ to Z H Q=to Z H fun x H1=>bH x fun a=>eV (H1 a) fun xs=>iY (xs[xs.length - 1]?) fun y=>Q y (TH H1 a (.lst xs.dropLast)):=rfl
def Qu{α:Type}{z:α}{k:α->Prop}{u:Tg k}:@iY _ (some z) k u=k z:=rfl
def Qt{k:Bool->Prop}{u:Tg k}:@IF (.bl b) k u=k b:=rfl
def Kq{k:Addr->Prop}{u:Tg k}:@bH 0e0 k u=k p:=rfl
def Kn{k:Int->Prop}{u:Tg k}:@gZ 1e0 k u=k i:=rfl
def Ko{u:Tg k}:@eV 2e0 k u=k vs:=rfl
def HF{u:Tg k}:@lT 2e0 k u=k vs:=rfl
def HG{u:Tg k}:@lT (some (.tup vs)) k u=k vs:=rfl
def Km{k:List (Key×V)->Prop}{u:Tg k}:@dF (some (.dK kvs)) k u=k kvs:=rfl
def Qi:Mh 0e0 w H Q=lT (H p) fun xs=>gZ w fun i=>iY (fU xs i) fun v=>Q v H:=rfl
def Qj:Mh 3e0 w H Q=gZ w fun i=>x.length<=sizeLine/\iY (fU x.cps.toList i) fun c=>Q (.str ⟨#[c]⟩) H:=rfl
def Nj:GW 1e0 (.int j) H Q=Q (.int (i+j)) H:=rfl
def Nm:GW 3e0 (.str y) H Q=(x.length+y.length<=sizeLine/\Q (.str (x++y)) H):=rfl
def Nk:GW (.ref a) 0e0 H Q=JX H Q a (H a) (H p):=rfl
def Nt{us:List V}:JX H Q a 2e0 (some (.lst us))=(vs.length+us.length<=sizeLine/\∀ p,H p=none->Q 0e0 (TH H p (.lst (vs++us)))):=rfl
def QG{lo hi:Option Int}:Sf 3e0 lo hi H Q=(x.length<=sizeLine/\Q (.str (Txt.slice x lo hi)) H):=rfl
def QF{lo hi:Option Int}:Sf (.ref a) lo hi H Q=GX lo hi H Q (H a):=rfl
def Nw{lo hi:Option Int}:GX lo hi H Q 2e0 = ∀ p,H p=none->Q 0e0 (TH H p (.lst (qU vs lo hi))):=rfl
def Oc:J1 [.str x] H Q=(x.length<=sizeLine/\Q (.int x.length) H):=rfl
def Ob:J1 [.ref p] H Q=lT (H p) fun xs=>Q (.int xs.length) H:=rfl
def QD{N:Hp->Prop}:PL 0e0 1e0 v H N=eV (H p) fun xs=>iY (yA xs.length i) fun j=>N (TH H p (.lst (xs.set j v))):=rfl
def SK{neg:Bool}:Ss neg v 0e0 H Q=lT (H p) fun xs=>eK v=true/\xs.all eK=true/\Q (.bl (if neg=true then !pM v xs else pM v xs)) H:=rfl
def NY:jR 1e0=some (.inl i):=rfl
def Oa:jR 3e0=some (.inr x):=rfl
def N8:jR .TK=some .no:=rfl
theorem DX{α:Type}{xs:List α}{k:Nat}:fU xs (OfNat.ofNat k)=xs[k]?:=by
 show fU xs ((k:Nat):Int)=xs[k]?;cases e:xs[k]? with
 | some z=>exact eI e
 | none =>
  have:=Ζ1.mp e;unfold fU yA;rw[if_pos (by omega),if_neg (by omega)];rfl
def PX{α:Type}{xs:List α}:fU xs 0=xs[0]?:=DX (k:=0)
def PY{α:Type}{xs:List α}:fU xs 1=xs[1]?:=DX (k:=1)
def PZ{α:Type}{xs:List α}:fU xs 2=xs[2]?:=DX (k:=2)
def P4{α:Type}{xs:List α}:fU xs 3=xs[3]?:=DX (k:=3)
theorem J5:CMul 3 j=True:=eq_true (.inl ⟨by decide,by decide⟩)
theorem Kb:CPow 10 9=True:=eq_true ⟨by decide,by decide,by decide⟩
theorem Hx:CPow 10 12=True:=eq_true ⟨by decide,by decide,by decide⟩
theorem Hy:CPow 10 18=True:=eq_true ⟨by decide,by decide,by decide⟩
theorem NX{m:Nat}:yA (m+1) 0=some 0:=by simp[yA]<;>omega
def NU:JZ [.int i] H Q=Q 1e0 H:=rfl
def NT:JZ [.bl b] H Q=Q (.int (if b=true then 1 else 0)) H:=rfl
theorem SM:MW v .TK H Q=Q (.bl (decide (v=.TK))) H:=by cases v<;>rfl
theorem Ki:Mi v .TK H Q=Q (.bl (!decide (v=.TK))) H:=by cases v<;>rfl
def Ql:MX [.int i,.int j] H Q=Q (.int (if j > i then j else i)) H:=rfl
def Qm:MY [.int i,.int j] H Q=Q (.int (if j < i then j else i)) H:=rfl
theorem P8{c:Prop}[Decidable c]{P R:Prop}:(if (decide c)=true then P else R)=if c then P else R:=by
 by_cases h:c<;>simp[h]
theorem P9{c:Prop}[Decidable c]{P R:Prop}:(if (!decide c)=true then P else R)=if c then R else P:=by
 by_cases h:c<;>simp[h]
def NW{P R:Prop}:(if true=true then P else R)=P:=rfl
def NV{P R:Prop}:(if false=true then P else R)=R:=rfl
end
end
mutual
example:=[]
def SV{a b:Prop}[Decidable a][Decidable b]{P R:Prop}:(if a then P else if b then P else R)=if a\/b then P else R:=by
 by_cases ha:a<;>by_cases hb:b<;>simp[ha,hb]
def Kp.at1{r:Addr}{H':Hp}{o:HO}(x:Kp [r] H H')(e:H a=some o)(n:a≠r):H' a=some o:=x a o e (by simpa using n)
theorem iU{i:Int}{k:V->Prop}(h0:0<=i)(h1:i < (xs.length:Int))(q:∀ v∈xs,k v):iY (fU xs i) k:=by
 have hk:i.toNat < xs.length:=by omega
 have ek:i=((i.toNat:Nat):Int):=by omega
 have e:fU xs ((i.toNat:Nat):Int)=some xs[i.toNat]:=eI (ϐ hk);rw[<- ek] at e;rw[e];exact q _ (List.getElem_mem hk)
def on1(vs:List V)(k:V->Prop)(_u:Tg k:=()):Prop:=match vs with
 | [v]=>k v
 | _=>False
def lp(J:It)(g:TG)(tb:TS)(D:Ends)(Z:St)(H:Hp):Prop:=∃ W:Nat->Nat->St->Hp->Prop,(∃ m,W 0 m Z H)/\∀ i m Z H,W i m Z H ->
 (J.stop i H/\D.nx Z H)\/(J.go i H/\∃ N:St->Hp->Prop,(∀ Z' H',N Z' H'->∃ m',m' < m/\W (i+1) m' Z' H')/\∀ x H',J.VM i H x H'->g x Z H' fun σ2 H2=>tb {D with nx:=N,ct:=N,bk:=D.nx} σ2 H2)
end
section
mutual
example:=[]
variable{D:Ends}{g:TG}{tb:TS}{as:TA}{te:TE}{v w:V}
def OP{k:V->Prop}:(∃ z,vs=[z]/\k z)=on1 vs k:=by
 refine propext ⟨fun⟨z,e,h⟩=>by subst e;exact h,fun h=>?_⟩;unfold on1 at h;split at h
 ·exact⟨_,rfl,h⟩
 ·exact h.elim
def Qs{k:V->Prop}{u:Tg k}:@on1 [v] k u=k v:=rfl
def Kg:JH (Bw as) g tb D Z H=as Z H fun vs H1=>on1 vs fun v=>gZ v fun j=>(-(2 ^ 62)<=j/\j < 2 ^ 62)/\lp (Wd 0 j.toNat) g tb D Z H1:=by
 unfold JH Bw
 congr 1
 funext vs H1;refine propext ⟨fun⟨j,e,h1,h2,h⟩=>by subst e;exact⟨⟨h1,h2⟩,h⟩,fun h=>?_⟩;unfold on1 at h;split at h
 ·obtain⟨j,rfl,⟨h1,h2⟩,h⟩:=eP h;exact⟨j,rfl,h1,h2,h⟩
 ·exact h.elim
def NH:JH (u7 K te) g tb D Z H=te Z H fun x H1=>bH x fun a=>(∃ xs,fY K H1 a xs)/\lp (VX K a) g tb D Z H1:=by
 unfold JH u7
 congr 1
 funext x H1;exact propext ⟨fun⟨a,e,h1,h⟩=>by subst e;exact⟨h1,h⟩,fun h=>by obtain⟨a,rfl,h1,h⟩:=aU h;exact⟨a,rfl,h1,h⟩⟩
end
end
noncomputable def lc(J:It)(fr:List Nat)(tc:TT)(te:TE)(Z:St)(H:Hp)(Q:VK):Prop:=∃ W:Nat->Nat->List V->Hp->Prop,(∃ m,W 0 m [] H)/\∀ i m xs H,W i m xs H->xs.length<=1000000 /\
  ((J.stop i H/\∀ p,H p=none->Q (.ref p) (TH H p (.lst xs))) \/
   (J.go i H/\∀ y H',J.VM i H y H'->tc (some y::bC fr Z) H' fun b H2=>if b=true then te (some y::bC fr Z) H2 (fun z H3=>∃ m',m' < m/\W (i+1) m' (xs++[z]) H3) else ∃ m',m' < m/\W (i+1) m' xs H2))
section
mutual
example:=[(fun z H3=>Pv (i+1) (xs++[z]) H3),some (.int (lo+i))::bC fr Z,TH H p (.lst xs),some y::bC fr Z]
variable{tc:TT}{te tl:TE}{H1:Hp}{Q:VK}{as:TA}
def J8:kU (Bw as) fr tc te Z H Q=as Z H fun vs H1=>on1 vs fun v=>gZ v fun j=>(-(2 ^ 62)<=j/\j < 2 ^ 62)/\lc (Wd 0 j.toNat) fr tc te Z H1 Q:=by
 unfold kU Bw
 congr 1
 funext vs H1;refine propext ⟨fun⟨j,e,h1,h2,h⟩=>by subst e;exact⟨⟨h1,h2⟩,h⟩,fun h=>?_⟩;unfold on1 at h;split at h
 ·obtain⟨j,rfl,⟨h1,h2⟩,h⟩:=eP h;exact⟨j,rfl,h1,h2,h⟩
 ·exact h.elim
def J7:kU (u7 K tl) fr tc te Z H Q=tl Z H fun x H1=>bH x fun a=>(∃ xs,fY K H1 a xs)/\lc (VX K a) fr tc te Z H1 Q:=by
 unfold kU u7
 congr 1
 funext x H1;exact propext ⟨fun⟨a,e,h1,h⟩=>by subst e;exact⟨h1,h⟩,fun h=>by obtain⟨a,rfl,h1,h⟩:=aU h;exact⟨a,rfl,h1,h⟩⟩
def BW(x:V)(k:Str->Prop)(_u:Tg k:=()):Prop:=match x with
 | .str p=>k p
 | _=>False
def Kr{k:Str->Prop}{u:Tg k}:@BW (.str x) k u=k x:=rfl
def Oy{B:Bool->Hp->Prop}:MK Z H B=B true H:=rfl
def Qa:bC [] Z=[]:=rfl
def Be(hi:i < n):(∃ m',m' < n - i/\cW n Pv (i+1) m' xs H)=Pv (i+1) xs H :=
 propext ⟨fun⟨_,_,_,_,h⟩=>h,fun h=>cW.next hi h⟩
def Il{lo:Int}(Pv:Nat->List V->Hp->Prop)(h0:Pv 0 [] H)(hz:∀ i xs H,Pv i xs H->xs.length<=1000000)(hs:∀ i xs H,i < n->Pv i xs H->tc 1e0 H fun b H2=>if b=true then te 1e0 H2 0e0 else Pv (i+1) xs H2)(hd:∀ xs H,Pv n xs H->∀ p,H p=none->Q (.ref p) 2e0):lc (Wd lo n) fr tc te Z H Q :=
 CU Pv h0 hz (fun i xs H hi h=>by simp only[Be hi];exact hs i xs H hi h) hd
def pO(Pv:Nat->List V->Hp->Prop)(h0:Pv 0 [] H)(hz:∀ i xs H,Pv i xs H->xs.length<=1000000)(hl:∀ i xs H,Pv i xs H->fY K H a ys)(hs:∀ i y xs H,i < ys.length->ys[i]?=some y->Pv i xs H->tc 3e0 H fun b H2=>if b=true then te 3e0 H2 0e0 else Pv (i+1) xs H2)(hd:∀ xs H,Pv ys.length xs H->∀ p,H p=none->Q (.ref p) 2e0):lc (VX K a) fr tc te Z H Q :=
 Fe Pv h0 hz hl (fun i y xs H hi e h=>by simp only[Be hi];exact hs i y xs H hi e h) hd
end
end
noncomputable def J4(kb:List (Key×V)):List (Key×V)->Bool
 | []=>true
 | (k,v)::r=>match aY kb k with
  | none=>false
  | some y=>n8 v y&&J4 kb r
mutual
inductive r9(K:q0B)(H:Hp):Nat->V->V->Bool->Prop
 | flat {n:Nat} {x y:V}:eK x=true->eK y=true->r9 K H n x y (n8 x y)
 | same {n:Nat} {a:Addr}:r9 K H n (.ref a) (.ref a) true
 | refs {n:Nat} {a b:Addr} {r:Bool}:a≠b->qP K H n a b r->r9 K H n (.ref a) (.ref b) r
inductive qP(K:q0B)(H:Hp):Nat->Addr->Addr->Bool->Prop
 | list {n:Nat} {a b:Addr} {xs ys:List V} {e:Nat->Bool}:fY K H a xs->fY K H b ys->xs.length=ys.length->(∀ j x y,xs[j]?=some x->ys[j]?=some y->r9 K H n x y (e j))->qP K H (n+1) a b ((List.range xs.length).all e)
 | U8 {n:Nat} {a b:Addr} {xs ys:List V}:fY K H a xs->fY K H b ys->xs.length≠ys.length->qP K H (n+1) a b false
 | tup {n:Nat} {a b:Addr} {xs ys:List V} {e:Nat->Bool}:iR K H a xs->iR K H b ys->(∀ j x y,xs[j]?=some x->ys[j]?=some y->r9 K H n x y (e j))->qP K H (n+1) a b ((List.range (min xs.length ys.length)).all e&&xs.length==ys.length)
end
section
mutual
example:=[.ref b,.ref a,(by omega),(by show A.units+1+_ < _;omega),he j x y ex ey]
theorem jW{TR:List Value}(r:TU xs TR)(h:j < TR.toArray.size):∃ x,xs[j]?=some x/\bQ x TR.toArray[j]:=by
 have hj:j < xs.length:=by have:=r.length;simp only[Ε] at h;omega
 have e:=ϐ hj;obtain⟨u,g,ru⟩:=r.get e;refine⟨_,e,?_⟩;obtain⟨_,q⟩:=Λ.mp g;have:TR.toArray[j]=u:=by simpa using q
 rw[this];exact ru
theorem D7:∀(n:Nat),(∀ {a b:Addr} {r:Bool},qP X.K H n a b r->∀ {A:Around},TQ X TF Z H s->A.units+n < cLine->SeqAt.RcAt A s 1e0 0e0 r)/\(∀ {x y:V} {b:Bool},r9 X.K H n x y b->∀ {A:Around} {v u:Value},TQ X TF Z H s->bQ x v->bQ y u->A.units+n < cLine->SeqAt.EqAt A s v u b):=by
 intro n;have up:∀ {n:Nat},(∀ {a b:Addr} {r:Bool},qP X.K H n a b r->∀ {A:Around},TQ X TF Z H s->A.units+n < cLine->SeqAt.RcAt A s 1e0 0e0 r)->(∀ {x y:V} {b:Bool},r9 X.K H n x y b->∀ {A:Around} {v u:Value},TQ X TF Z H s->bQ x v->bQ y u->A.units+n < cLine->SeqAt.EqAt A s v u b):=by
  intro n rc x y b h A v u I rx ry hu;cases h with
  | flat fx fy=>exact HN rx ry fx fy
  | same =>
   cases rx;cases ry;exact SeqAt.EqAt.same _
  | refs ne h =>
   cases rx;cases ry;exact SeqAt.EqAt.of_refs ne (rc h I hu)
 suffices g:∀ {a b:Addr} {r:Bool},qP X.K H n a b r->∀ {A:Around},TQ X TF Z H s->A.units+n < cLine->SeqAt.RcAt A s 1e0 0e0 r from ⟨g,up g⟩
 induction n with
 | zero=>intro a b r h;cases h
 | succ n ih =>
  intro a b r h A I hu;have ih:=@up n @ih;cases h with
  | list hx hy hl he =>
   obtain⟨TR,r1,p1,z1⟩:=I.list hx;obtain⟨XN,r2,p2,z2⟩:=I.list hy;have l1:=r1.length;have l2:=r2.length;have:=SeqAt.RcAt.lists p1.isList p2.isList (by simp only[Ε];omega) 2e0 (A:=A) (fun j h1 h2=>by
    obtain⟨x,ex,rx⟩:=jW r1 h1;obtain⟨y,ey,ry⟩:=jW r2 h2;exact ih 4e0 I rx ry 3e0)
   rw[Ε,<- l1] at this;exact this
  | U8 hx hy hl =>
   obtain⟨TR,r1,p1,z1⟩:=I.list hx;obtain⟨XN,r2,p2,z2⟩:=I.list hy;have l1:=r1.length;have l2:=r2.length;exact SeqAt.RcAt.lists_lengths p1.isList p2.isList (by simp only[Ε,bne_iff_ne,ne_eq];omega) 2e0
  | tup hx hy he =>
   obtain⟨TR,r1,p1,z1⟩:=I.tuple hx;obtain⟨XN,r2,p2,z2⟩:=I.tuple hy;have l1:=r1.length;have l2:=r2.length;have:=SeqAt.RcAt.tuples (show s.heap.IsTuple _ TR.toArray from p1) (show s.heap.IsTuple _ XN.toArray from p2) 2e0 (A:=A) (fun j h1 h2=>by
    obtain⟨x,ex,rx⟩:=jW r1 h1;obtain⟨y,ey,ry⟩:=jW r2 h2;exact ih 4e0 I rx ry 3e0)
   rw[Ε,Ε,<- l1,<- l2] at this;exact this
def HM{x y:V}{b:Bool}(h:r9 X.K H n x y b){u:Value}(I:TQ X TF Z H s)(rx:bQ x v)(ry:bQ y u)(hu:A.units+n < cLine):SeqAt.EqAt A s v u b:=(D7 n).2 h I rx ry hu
def Jc{b:Addr}(h:qP X.K H n a b r)(I:TQ X TF Z H s)(hu:A.units+n < cLine):SeqAt.RcAt A s 1e0 0e0 r:=(D7 n).1 h I hu
end
end
section
variable{o e:Expr}{to te:TE}{apos T9:Pos}
end
section
mutual
example:=[]
variable{Q:VK}{b p:Addr}{x:V}
def NS{t:TGs}:KU K n t (.ref a) Z H N = ∃ xs,iR K H a xs/\xs.length=n/\t xs Z H N:=by simp[KU]
def SF:((0:Nat):Int)=0:=rfl
def SG:((1:Nat):Int)=1:=rfl
def SH:((2:Nat):Int)=2:=rfl
end
end
noncomputable def wB(o:Option HO)(k:List V->Prop)(_u:Tg k:=()):Prop:=match o with
 | some (.tup xs)=>k xs
 | _=>False
def BX(h:wB o k):∃ xs,o=some (.tup xs)/\k xs:=by
 unfold wB at h;split at h
 ·exact⟨_,rfl,h⟩
 ·exact h.elim
noncomputable def Hi:R2:=fun x y H Q=>bH x fun a=>bH y fun b=>wB (H a) fun xs=>wB (H b) fun ys=>xs.length+ys.length<=sizeLine/\(if xs=[] then Q y H else if ys=[] then Q x H else ∀ p,H p=none->Q (.ref p) (TH H p (.tup (xs++ys))))
section
def IM:jT X (binaryOp .Add) (fun x y H Q=>∃ a b ys,x=.ref a/\y=.ref b/\iR X.K H a []/\iR X.K H b ys/\Q (.ref b) H):=by
 intro TF s Z H x y v u Q I rx ry h;obtain⟨a,b,ys,rfl,rfl,ha,hb,q⟩:=h;cases rx;cases ry;obtain⟨TR,r1,p1,_⟩:=I.tuple ha;obtain⟨UU,r2,p2,_⟩:=I.tuple hb;have l1:TR=[]:=r1.tN.mpr rfl;obtain⟨⟨c1,d1,t1,o1⟩,ho,rfl,n,rfl⟩:=p1;obtain⟨⟨c2,d2,t2,o2⟩,UC,rfl,n2,rfl⟩:=p2;exact concat_meets ⟨_,ho,rfl⟩ ⟨_,UC,rfl⟩ noFill_tuple_add seq_tuple_add PySem.F.slot_tuple_add PySem.F.entry_tuple_add (PySem.F.args_tuple_add_2 _ _) (tuple_addW0 a b TR.toArray UU.toArray n n2 d1 d2 o1 o2 (by simp[l1])) ⟨ho,UC,.ref b,H,I,rfl,q⟩
def Lq:jT X (binaryOp .Add) Hi:=(IM.or Er).imp fun x y H Q h=>by
 obtain⟨a,rfl,h1⟩:=aU h;obtain⟨b,rfl,h2⟩:=aU h1;obtain⟨xs,e1,h3⟩:=BX h2;obtain⟨ys,e2,h4,h5⟩:=BX h3;by_cases c:xs=[]
 ·rw[if_pos c] at h5;subst c;exact .inl ⟨a,b,ys,rfl,rfl,.inl (.inl e1),.inl (.inl e2),h5⟩
 ·rw[if_neg c] at h5;refine .inr ⟨a,b,xs,ys,rfl,rfl,.inl (.inl e1),.inl (.inl e2),c,h4,fun z=>?_,fun z=>?_⟩
  ·rw[if_pos z] at h5;exact h5
  ·rw[if_neg z] at h5;exact h5
end
section
variable{Q:VK}{b p:Addr}{lo hi:Option Int}
def Ks{u:Tg k}:@wB (some (.tup vs)) k u=k vs:=rfl
def HJ:Hi (.ref a) (.ref b) H Q=wB (H a) fun xs=>wB (H b) fun ys=>xs.length+ys.length<=sizeLine/\(if xs=[] then Q (.ref b) H else if ys=[] then Q (.ref a) H else ∀ p,H p=none->Q (.ref p) (TH H p (.tup (xs++ys)))):=rfl
def Nx:GX lo hi H Q (some (.tup vs))=(¬ (HT.iF vs.length 0 lo=0/\HT.iF vs.length vs.length hi=vs.length)/\∀ p,H p=none->Q (.ref p) (TH H p (.tup (qU vs lo hi)))):=rfl
end
def Ao:typeLookup (.type "list") "keys"=pure none:=by rw[typeLookup_type,builtinLookup_eq_fast];kernel_rfl
section
mutual
example:=[(by omega),bJ P W,Key×Value,model P W,.ref a,(Builtin.«dict.update.loop» ⟨[.ref d,.ref it,rawInt i,.none],[]⟩),pyNext (.ref it) >>= _,(by decide +kernel),stored acc k v,.ret .none]
variable{prog:Program}
theorem Fy{TR:Array Value}(hx:s.heap.get? a=some {cls:=.type "list",data:=.seq TR n})(hA:A.handled=none)(hq:∀ h' tk,(∀ b o,s.heap.get? b=some o->h'.get? b=some o)->Q none {s with heap:=h',toks:=tk}):wpAny (model prog w) A (getAttr? 4e0 "keys") Q E s:=by
 obtain⟨hp,g,d,tk,os⟩:=s;have hT:∀ t,(⟨hp,g,d,t,os⟩:Shared).TypeIs 4e0 "list":=fun t=>⟨_,hx,rfl⟩;have f1:=sub_AttributeError;have f2:=F.slot_list_getattribute.lookup;have f3:=F.slot_list_getattribute.bind 4e0;unfold getAttr? getAttrBy? getAttrBy
 repeat (any_goals (first|assumption|exact hT _|((with_reducible show wpAny _ _ (call (Value.builtin "list.__getattribute__") _ _) _ _ _);refine call_meets F.slot_list_getattribute (hT _) am_entry_list_getattribute (F.args_list_getattribute_2 _ _) (meets_getattribute_miss_list a TR n #[] "keys" _ Ao 7e0 7e0) ⟨hx,hA,fun h' Y2 e hx'=>?_⟩)|wp_step))
 obtain⟨t',u',he⟩:=hx'.there;show wpAny _ _ (getattributeRaised _ _ _ _ _ _ _) _ _ _;unfold getattributeRaised;have f5:=am_list_getattr_none
 repeat (any_goals (first|assumption|wp_step))
 exact hq _ _ hx'.keeps
theorem nV:plainId "dict.update.loop"=true:=by decide +kernel
def yR:entryFor table "dict.update.loop"=some Builtin.«dict.update.loop»:=entryFor_of_fast (by kernel_rfl)
theorem L6{W:World}{d t:Addr}{kv:Value}{k:Key}{acc:List 2e0}{Q:PySem.Fin->Shared->Prop}(hit:s.heap.IsListIter it l i)(hl:s.heap.IsList l items)(hx:items[i]?=some (.ref t))(ht:s.heap.IsTuple t #[kv,v])(hk:(bJ P W).is k kv=true)(hd:s.heap.DictOf 1e0 d acc)(hsz:acc.length<=sizeLine)(Y0:d≠it)(nti:t≠it)(hq:∀ h' tk,h'.IsListIter it l (i+1)->h'.DictOf 1e0 d 8e0->(∀ b o,b≠d->b≠it->s.heap.get? b=some o->h'.get? b=some o)->Q (.again (.builtin "dict.update.loop" ⟨[.ref d,.ref it,rawInt (i+1),.none],[]⟩)) {s with heap:=h',toks:=tk}) : wpAny 3e0 A 5e0 Q E s:=by
 unfold Builtin.«dict.update.loop»;show wpAny _ _ 6e0 _ _ _;refine Β (wpAny_pyNext_list_item hit hl hx fun h1 aaN sb=>?_);dsimp only;refine Β (Β0 ?_);refine Β (wpAny_tryCatch ?_);unfold Builtin.Dict.pairItems;obtain⟨o,ho,hc,m,Ye⟩:=ht;have ho1:h1.get? t=some o:=(sb.2 t nti).trans ho;refine Β (wpAny_typeOf (T:="tuple") ⟨o,ho1,hc⟩ ?_);rw[if_pos (by decide)];refine Β (wpAny_seqItems ho1 Ye (Θ ?_));show wpAny _ _ (holding [kv,v] (dictSet d kv v)) _ _ _;refine Β0 (wpAny_dictSet_pairs hk (hd.sameBut sb Y0) (fun h2 hd2 sb2=>?_) hsz);refine Θ (hq h2 _ ?_ hd2 fun b o b1 b2 e=>(sb2.2 b b1).trans ((sb.2 b b2).trans e));exact aaN.at fun o e=>(sb2.2 it Y0.symm).trans e
def Po{W:World}{d:Addr}{Q:PySem.Fin->Shared->Prop}(hh:A.handled=none)(hit:s.heap.IsListIter it l i)(hl:s.heap.IsList l items)(hx:items[i]?=none)(hq:∀ h',(∀ b o,b≠it->s.heap.get? b=some o->h'.get? b=some o)->Q (.done 9e0) {s with heap:=h'}) : wpAny 3e0 A 5e0 Q E s:=by
 unfold Builtin.«dict.update.loop»;show wpAny _ _ 6e0 _ _ _;refine Β (wpAny_pyNext_list_end hh hit hl hx fun h1 eb=>?_);dsimp only;show wpAny _ _ (Builtin.Dict.addKeywords d [] >>= _) _ _ _;exact Β (Θ (Θ (hq h1 fun b o b1 e=>eb b o b1 e)))
theorem JL{P:Program}{W:World}{d it l:Addr}{items:List Value}(ps:List 2e0)(Y0:d≠it)(ndl:l≠d)(nli:l≠it):∀(m i:Nat),items.length=i+m->∀(A:Around) (R:Result->Shared->Prop) (s:Shared) (acc:List 2e0),A.handled=none->s.heap.IsListIter it l i->s.heap.IsList l items.toArray -> (∀ j,i<=j->j < items.length->∃(t:Addr) (kv:Value) (k:Key) (v:Value),items[j]?=some (.ref t)/\ps[j]?=some (k,v)/\s.heap.IsTuple t #[kv,v]/\(bJ P W).is k kv=true/\t≠it/\t≠d) -> s.heap.DictOf 1e0 d acc->acc.length+m<=sizeLine->ps.length=items.length -> (∀ h' tk,h'.DictOf 1e0 d (merged acc (ps.drop i))->(∀ b o,b≠d->b≠it->s.heap.get? b=some o->h'.get? b=some o)->R (.ok 9e0) {s with heap:=h',toks:=tk}) -> codeAny 3e0 A (.builtin "dict.update.loop" ⟨[.ref d,.ref it,rawInt i,.none],[]⟩) R s
 | 0,i,hm,A,R,s,acc,hh,hit,hl,hp,hd,hsz,Vn,q=>by
  refine Ε9 yR ?_;rw[Ε1 nV _];refine Po (A:=A.in1) hh hit hl (by simp;omega) fun h' k=>?_;have e:ps.drop i=[]:=List.drop_of_length_le 0e0;rw[e] at q;exact q h' s.toks (by
   obtain⟨o,es,ep,ho,r⟩:=hd;exact⟨o,es,ep,k _ _ Y0 ho,r⟩) fun b o _ b2 e=>k b o b2 e
 | m+1,i,hm,A,R,s,acc,hh,hit,hl,hp,hd,hsz,Vn,q=>by
  refine Ε9 yR ?_;rw[Ε1 nV _];obtain⟨t,kv,k,v,e1,e2,ht,hk,n1,n2⟩:=hp i (Ι _) 0e0;refine L6 (A:=A.in1) hit hl (by simpa using e1) ht hk hd 0e0 Y0 n1 fun h' tk aaM Zy kp=>?_;refine⟨plainId_quiet nV _,?_⟩;have c:((i:Int)+1)=((i+1:Nat):Int):=by omega
  rw[c];have es:ps.drop i=(k,v)::ps.drop (i+1):=by
   obtain⟨Uu,e3⟩:=Λ.mp e2;rw[List.drop_eq_getElem_cons Uu,e3]
  refine JL ps Y0 ndl nli m (i+1) 0e0 A R _ 8e0 hh aaM (hl.at fun o e=>kp l o ndl nli e) (fun j h1 h2=>?_) Zy ?_ Vn fun h'' Y2 aaL kp'=>?_
  ·obtain⟨t,kv,k,v,e1,e2,ht,hk,n1,n2⟩:=hp j 0e0 h2;obtain⟨o,ho,r⟩:=ht;exact⟨t,kv,k,v,e1,e2,⟨o,kp t o n2 n1 ho,r⟩,hk,n1,n2⟩
  ·have:=stored_length_le acc k v;omega
  ·refine q h'' Y2 ?_ fun b o b1 b2 e=>kp' b o b1 b2 (kp b o b1 b2 e);rw[es];exact aaL
end
end
mutual
example:=[.Uv o (.dK kvs),Key×V,(by simp),aS acc kv.1 kv.2,.dK (eZ [] kvs),bJ X.prog X.w,(.tup [kV k,v]),Itd a o kvs,Key×Value,(by decide)]
def tG(H:Hp)(xs:List V)(kvs:List 1e0):Prop:=xs.length=kvs.length/\∀(j:Nat) (x:V),xs[j]?=some x->∃(t:Addr) (k:Key) (v:V),x=.ref t/\H t=some 6e0/\kvs[j]?=some (k,v)
def CN:List V->Hp->VK->Prop:=fun vs H Q=>on1 vs fun x=>bH x fun l=>eV (H l) fun xs=>∃ kvs,tG H xs kvs/\∀ p,H p=none->Q (.ref p) (TH H p 4e0)
theorem Ii{H:Hp}{P:Program}{W:World}{h:Heap}(ok:HOk P W H h):∀ {xs:List V} {TR:List Value} {kvs:List 1e0},TU xs TR->tG H xs kvs->∃ ps:List 8e0,KV kvs ps/\ps.length=TR.length /\ ∀ j,j < TR.length->∃(t:Addr) (kv:Value) (k:Key) (v:Value),TR[j]?=some (.ref t)/\ps[j]?=some (k,v)/\h.IsTuple t #[kv,v]/\(bJ P W).is k kv=true/\H t≠none
 | [],_,[],.nil,_=>⟨[],.nil,rfl,fun j hj=>absurd hj (Nat.not_lt_zero _)⟩
 | [],_,_::_,.nil,p=>by cases p.1
 | _::_,_,[],.cons _ _,p=>by cases p.1
 | x::xs,_,kv::kvs,.cons r rr,p=>by
  obtain⟨t,k,v,rfl,ht,e⟩:=p.2 0 x rfl;cases r;have e':kv=(k,v):=by simpa using e
  subst e';obtain⟨ps,h1,h2,h3⟩:=Ii ok rr (kvs:=kvs) ⟨by simpa using p.1,fun j y hy=>by
   obtain⟨t,k,v,a,b,c⟩:=p.2 (j+1) y (by simpa using hy);exact⟨t,k,v,a,b,by simpa using c⟩⟩
  obtain⟨_,TR,ri,hi⟩:=(show eC P W H h t 6e0 from ok t _ ht);cases ri with
  | cons r1 ri=>cases ri with
   | cons r2 ri =>
    cases ri;refine⟨(k,_)::ps,.cons ⟨rfl,r2⟩ h1,by simp[h2],fun j hj=>?_⟩;cases j with
    | zero=>exact⟨t,_,k,_,rfl,rfl,hi,oH r1,by rw[ht];simp⟩
    | succ j =>
     obtain⟨t',WZ,k',v',a,b,c⟩:=h3 j (by simpa using hj);exact⟨t',WZ,k',v',by simpa using a,by simpa using b,c⟩
theorem vN:∀(more acc:List 1e0),(eZ acc more).length<=acc.length+more.length
 | [],acc=>Ι _
 | kv::more,acc=>by
  have h1:=vN more 3e0;have h2:=iN acc kv.1 kv.2;show(eZ 3e0 more).length<=_;simp only[Ζ];omega
theorem CO(hc:X.calm=true):gA X (.type "dict") CN:=fun TF s Z H vs us Q I r h=>by
 have h0:=h;unfold CN at h0;rw[<- OP] at h0;obtain⟨x,rfl,h1⟩:=h0;obtain⟨l,rfl,h2⟩:=aU h1;obtain⟨xs,el,kvs,hp,q⟩:=fP h2;obtain⟨u,rfl,ru⟩:=r.one;cases ru;obtain⟨z,TR,n,ri,hlen,eo⟩:=I.Ap el;obtain⟨ps,rel,aa7,pat⟩:=Ii I.TY ri hp;have hA:=I.ok.hd hc;refine callType_codes (Q₁:=fun obj s₁=>obj=.ref s.heap.objs.size/\s₁={s with heap:=s.heap.push {cls:=.type "dict",data:=.dict #[]}}) F.kt_called_dict (F.kt_typeCall_dict_1 _) F.entry_dict_init (kt_code_dict_new _ ⟨rfl,rfl⟩) ?_;rintro obj s₁ ⟨rfl,rfl⟩;have UT:(s.heap.push {cls:=.type "dict",data:=.dict #[]}).DictOf 5e0 s.heap.objs.size []:=Heap.DictOf.new s.heap;refine⟨UT.typeIs,F.args_dict_init_2 _ _,?_⟩;unfold Builtin.«dict.__init__» Builtin.Dict.selfAndRest;refine Β (Β (wpAny_notOrdered_dict UT.typeIs ?_));show wpAny _ _ (pure (s.heap.objs.size,[Value.ref l])) _ _ _;refine Θ ?_;show wpAny _ _ (Builtin.Dict.updateFrom "dict.__init__" s.heap.objs.size (.ref l) [] .none) _ _ _;unfold Builtin.Dict.updateFrom;have UN:(s.heap.push {cls:=.type "dict",data:=.dict #[]}).get? l=some {cls:=.type "list",data:=.seq TR.toArray n}:=Η _ eo;refine Β (wpAny_typeOf (T:="list") ⟨_,UN,rfl⟩ ?_);rw[if_pos 9e0];refine Β (Fy UN hA fun h' tk kp=>?_);rw[if_pos (show(none:Option Value).isNone=true from rfl)];refine Β (wpAny_rule ?_);have Wi:h'.IsList l TR.toArray:=⟨_,kp _ _ UN,rfl,n,rfl⟩;refine Β (wpAny_pyIter_list Wi (Θ ⟨plainId_quiet nV _,?_⟩));have hD:s.heap.objs.size < h'.objs.size:=Μ (kp _ _ (Τ _ rfl));have old:∀ b o,s.heap.get? b=some o->(h'.push {cls:=.type "list_iterator",data:=.fields #[.ref l,rawInt 0]}).get? b=some o:=fun b o e=>Η _ (kp b o (Η _ e));have lt:∀ b o,s.heap.get? b=some o->b < s.heap.objs.size:=fun b o e=>Μ e;have ll:=lt _ _ eo;refine JL ps (Ρ hD) (Ρ ll) (Ρ (Nat.lt_trans ll hD)) TR.length 0 2e0 X.A.in1 _ _ [] hA ⟨_,Τ _ rfl,rfl,rfl⟩ ⟨_,old _ _ eo,rfl,n,rfl⟩ (fun j _ hj=>?_) ?_ (by simp only[ϕ];omega) aa7 fun hF tkF hdF kpF=>?_
 ·obtain⟨t,kv,k,v,a1,a2,⟨o,ho,r⟩,a4,_⟩:=pat j hj;have tl:=lt _ _ ho;exact⟨t,kv,k,v,a1,a2,⟨o,old _ _ ho,r⟩,a4,Ρ (Nat.lt_trans tl hD),Ρ tl⟩
 ·obtain⟨o,es,ep,ho,r⟩:=UT;exact⟨o,es,ep,Η _ (kp _ _ ho),r⟩
 ·rw[List.drop_zero] at hdF;have kl:kvs.length<=sizeLine:=by rw[<- hp.1];exact z
  have ml:=vN kvs [];refine⟨rfl,.ref s.heap.objs.size,TH H s.heap.objs.size 4e0,I.laid (fun b o e=>kpF b o (Ρ (lt _ _ e)) (Ρ (Nat.lt_trans (lt _ _ e) hD)) (old _ _ e)) (Ι _)
   (oW (by simp only[ϕ] at ml;omega) (Β3.mpr (Ne.symm (Ρ I.big))) (rel.merge .nil) hdF),rfl,q _ (I.TY.fresh (Ι _))⟩
def Itd(a:Addr)(o:Obj)(kvs:List 1e0):It :=
 ⟨fun i H=>i < kvs.length/\H a=some 0e0,fun i H x H'=>H'=H/\∃ kv,kvs[i]?=some kv/\x=kV kv.1,fun i H=>i=kvs.length/\H a=some 0e0⟩
def pN{W:World}{k:Key}(h:(bJ P W).is k v=true):bQ (kV k) v:=by
 rcases eU h with⟨i,t,rfl,rfl⟩|⟨x,t,rfl,rfl⟩|⟨rfl,rfl⟩
 ·exact⟨t,rfl⟩
 ·exact⟨t,rfl⟩
 ·rfl
def HS{o:Obj}{es:Array DictEntry}{ep:Nat}(I:TQ X TF Z H s)(e:H a=some 0e0)(ho:o.data=.dict es ep) : ∃ vs,KV kvs vs/\s.heap.DictAt 5e0 a vs ep:=by
 obtain⟨h1,_,_,vs,rel,o',Zl,Ww,h2,h3,h4,r⟩:=(show eC X.prog X.w H s.heap a 0e0 from I.TY a _ e);rw[h1] at h2;cases h2;rw[ho] at h4;cases h4;exact⟨vs,rel,o,es,h1,h3,ho,r⟩
def KV.at{vs:List 8e0}(r:KV kvs vs){kv:Key×V}(e:kvs[i]?=some kv):∃ v,vs[i]?=some (kv.1,v):=by
 unfold KV at r
 induction r generalizing i with
 | nil=>simp at e
 | @cons p q ps qs h t ih=>cases i with
  | zero =>
   have e':p=kv:=by simpa using e
   subst e';exact⟨q.2,by simp[h.1]⟩
  | succ i=>simpa using ih (i:=i) (by simpa using e)
theorem GI(a it:Addr)(o:Obj)(kvs:List 1e0)(es:Array DictEntry)(ep:Nat)(ho:o.data=.dict es ep):Turn P w K tg 7e0 [it] it (fun i h=>h.IsKeyIter it a i kvs.length ep) where
 mem:=by simp
 obj:=fun i h st b hb=>by
  have e:b=it:=by simpa using hb
  subst e;obtain⟨o,e,c,d⟩:=st;exact⟨o,e,fun v z=>by rw[d] at z;cases z⟩
 keep:=fun i h h' st k=>st.at fun o e=>k it 2e0 o e
 item:=by
  intro X hP hw hK hc i TF s Z H E I hf st hg;subst hP hw hK;obtain⟨hi,hq⟩:=hg;obtain⟨vs,rel,dd⟩:=HS I hq ho;have hk:=ϐ hi;obtain⟨v,hv⟩:=rel.at hk;obtain⟨f0,f1,f2,f3,f4,f5⟩:=hf it 2e0;rw[rel.length] at st;refine wpAny_pyNext_dict_item st dd hv fun key h' V4 Ut sb=>?_;have I1:TQ X TF Z H {s with heap:=h'}:=I.turned (t':=s.toks) (fun b o hb e=>(sb.2 b hb).trans e) f0 f1 f3 f4 f5;rw[<- rel.length] at Ut;obtain⟨o',e,c,d⟩:=id Ut;exact⟨key,rfl,Ed (s:={s with heap:=h'}) e c d 9e0 ⟨kV (kvs[i]).1,H,I1,pN V4,⟨rfl,_,hk,rfl⟩,Ut,fun b hb=>(hf b hb).1⟩⟩
 done:=by
  intro X hP hw hK hc i TF s Z H E I hf st hg;subst hP hw hK;obtain⟨hi,hq⟩:=hg;obtain⟨vs,rel,dd⟩:=HS I hq ho;obtain⟨f0,f1,f2,f3,f4,f5⟩:=hf it 2e0;rw[rel.length] at st hi;exact wpAny_pyNext_dict_end (I.ok.hd hc) st dd (Ζ1.mpr (by omega)) fun h' eb=>⟨rfl,I.turned (t':=s.toks) (fun b o hb e=>eb b o hb e) f0 f1 f3 f4 f5⟩
 self:=fun _ _ _ _ _ st h=>wpAny_pyIter_keyiter st h
def Oz(tl:TE):TI:=fun Z H R=>tl Z H fun x H1=>bH x fun a=>dF (H1 a) fun kvs=>∀ o,R 7e0 (TH H1 a 0e0)
def Lu{l:Expr}{tl:TE}(hl:PE X l tl):PI X tg l (Oz tl):=by
 intro TF s Z H R I h;refine thn (hl TF s Z H _ I h) fun v s1 ⟨x,H1,I1,r1,q1⟩=>?_;obtain⟨a,rfl,q2⟩:=aU q1;obtain⟨kvs,e,q⟩:=dN q2;cases r1;obtain⟨z,hd,vs,rel,dd⟩:=oC I1.TY e;obtain⟨ep,dat⟩:=dd.dictAt;obtain⟨o,es,ho,hx,Ye,r⟩:=id dat;have I2:TQ X TF Z (TH H1 a 0e0) s1:=I1.write (t':=s1.toks) (x:=a) (e:=a) (by rw[e];exact True.intro) (.inl rfl) (fun _ _ _ q=>q) ⟨o,ho⟩ ⟨ho,oW z hd rel dd⟩;refine wpAny_pyIter_dict hd dat ?_;have F:(TH H1 a 0e0) s1.heap.objs.size=none:=I2.TY.fresh (Ι _);refine⟨s1.heap.objs.size,[s1.heap.objs.size],_,_,_,rfl,I2.kept (t':=s1.toks) fun b o e=>Η _ e,GI a _ o kvs es ep Ye,?_,fun b hb=>?_,q o⟩
 ·rw[rel.length];exact⟨_,Τ _ rfl,rfl,rfl⟩
 ·have e:b=s1.heap.objs.size:=by simpa using hb
  subst e;exact I2.HR (Ι _) F
end
section
variable{tc:TT}{te tl:TE}{Q:VK}
def J6:kU (Oz tl) fr tc te Z H Q=tl Z H fun x H1=>bH x fun a=>dF (H1 a) fun kvs=>∀ o,lc (Itd a o kvs) fr tc te Z (TH H1 a (.Uv o (.dK kvs))) Q:=by
 unfold kU Oz;rfl
theorem Lf{o:Obj}(Pv:Nat->List V->Hp->Prop)(h0:Pv 0 [] H)(hz:∀ i xs H,Pv i xs H->xs.length<=1000000)(hl:∀ i xs H,Pv i xs H->H a=some (.Uv o (.dK kvs)))(hs:∀ i kv xs H,i < kvs.length->kvs[i]?=some kv->Pv i xs H->tc (some (kV kv.1)::bC fr Z) H fun b H2=>if b=true then te (some (kV kv.1)::bC fr Z) H2 (fun z H3=>Pv (i+1) (xs++[z]) H3) else Pv (i+1) xs H2)(hd:∀ xs H,Pv kvs.length xs H->∀ p,H p=none->Q (.ref p) (TH H p (.lst xs))):lc (Itd a o kvs) fr tc te Z H Q:=by
 refine⟨cW kvs.length Pv,⟨kvs.length,by simp,Α4 _,h0⟩,?_⟩;rintro i m xs H ⟨rfl,hi,p⟩;refine⟨hz i xs H p,?_⟩;by_cases Uu:i < kvs.length
 ·refine .inr ⟨⟨Uu,hl i xs H p⟩,fun y H' yy=>?_⟩;obtain⟨e,kv,hk,rfl⟩:=yy;subst e;simp only[Be Uu];exact hs i kv xs _ Uu hk p
 ·have e:i=kvs.length:=by omega
  subst e;exact .inl ⟨⟨rfl,hl _ xs H p⟩,hd xs H p⟩
end
section
variable{td ty tx:TE}{Q:VK}{D:Ends}{v w x:V}
def Kd:CN [.ref l] H Q=eV (H l) fun xs=>∃ kvs,tG H xs kvs/\∀ p,H p=none->Q (.ref p) (TH H p (.dK (eZ [] kvs))):=rfl
end
def Hk:List V->Hp->VK->Prop:=fun vs H Q=>on1 vs fun x=>bH x fun p=>eV (H p) fun ys=>∀ l,H l=none->Q (.ref l) (TH H l (.tup ys))
def IJ{x:V}{k:Str->Prop}(h:BW x k):∃ z,x=.str z/\k z:=by
 unfold BW at h;split at h
 ·exact⟨_,rfl,h⟩
 ·exact h.elim
def jJ{k:V->Prop}(h:on1 vs k):∃ v,vs=[v]/\k v:=by
 unfold on1 at h;split at h
 ·exact⟨_,rfl,h⟩
 ·exact h.elim
section
def eJ:gA X (.type "tuple") Hk:=fun TF s Z H xs us Q I r h=>by
 obtain⟨x,rfl,h⟩:=jJ h;obtain⟨p,rfl,h⟩:=aU h;obtain⟨ys,e,h⟩:=fP h;exact xZ TF s Z H _ us Q I r ⟨_,_,rfl,.inl ⟨.inl (.inl e),h⟩⟩
end
section
variable{T:String}{r:V->List V->Hp->VK->Prop}{to:TE}{t:TA}{Q:VK}{i:Int}{p:Addr}{ys:List Str}
def KL:Hk [.ref p] H Q=eV (H p) fun ys=>∀ l,H l=none->Q (.ref l) (TH H l (.tup ys)):=rfl
end
abbrev TJ:=Str->St->Hp->(Str->Hp->Prop)->Prop
section
variable{e a b:Expr}{te:TE}{tj:TJ}
end
noncomputable def Tn(r:V->List V->Hp->VK->Prop)(to:TE)(t:TA):TE:=fun Z H Q=>to Z H fun x H1=>bH x fun a=>eV (H1 a) fun _=>t Z H1 fun xs H2=>r (.ref a) xs H2 Q
noncomputable def PF:V->List V->Hp->VK->Prop:=fun x vs H Q=>bH x fun a=>on1 vs fun y=>bH y fun b=>eV (H a) fun xs=>eV (H b) fun zs=>xs.length+zs.length<=sizeLine/\Q .TK (TH H a (.lst (xs++zs)))
noncomputable def Mj:V->List V->Hp->VK->Prop:=fun x vs H Q=>bH x fun a=>on1 vs fun y=>gZ y fun i=>eV (H a) fun xs=>i=0/\iY xs[0]? fun v=>Q v (TH H a (.lst xs.tail))
section
variable{o e:Expr}{to:TE}{t:TA}{name:Str}{apos T9:Pos}{id:String}{r:V->List V->Hp->VK->Prop}
theorem qA(slot:Slot "list" name id)(hty:typeOf (.builtin id)=pure (.type "method_descriptor"))(hm:Mb X id r)(ho:PE X o to)(ha:PA X (e::es) t)(UA:attributeBase o name X.env (eval o X.env)=eval o X.env:=by rfl)(Yf:((backTo T9 (starEach (e::es) X.env)).all (fun x=>!x.1)&&(backToKw T9 (keywordEach [] X.env)).all (fun x=>x.1.isSome)&&decide ((e::es).length+([]:List Keyword).length+(if ([]:List Keyword).isEmpty then 0 else 1) < 30))=true:=by rfl)(UB:(apos.endLine==T9.line)=true:=by rfl)(hs:starEach (e::es) X.env=(false,eval e X.env)::starEach es X.env:=by rfl)(VD:(backTo T9 (starEach es X.env)).any (·.1)=false:=by rfl) : PE X (.Call (.Attribute o name apos) (e::es) [] T9) (Tn r to t):=by
 intro TF s Z H Q I h;refine wpAny_Call_method_late UA Yf UB rfl (thn (ho TF s Z H _ I h) fun v s1 ⟨x,H1,I1,r1,q1⟩=>?_);obtain⟨a,rfl,q1⟩:=aU q1;obtain⟨xs,e1,q1⟩:=fP q1;obtain⟨h1,h2⟩:=DH (T:="list") I1 r1 (.inl ⟨rfl,xs,.inl (.inl e1)⟩);refine⟨"list",id,PySem.F.plainAttrs_list,slot,hty,h1,h2,?_⟩;have hA:=ha T9 TF s1 Z H1 _ I1 q1;rw[hs] at hA ⊢;refine Α6 (by show(false||(backTo T9 (starEach es X.env)).any (·.1))=false;rw[VD]<;>rfl) (Ε0 ?_);exact thn hA fun us s2 ⟨vs,H2,I2,r2,q2⟩=>hm TF s2 Z H2 _ vs v us Q I2 r1 r2 q2
def tM:Mb X "list.extend" PF:=fun TF s Z H x vs v us Q I rx rv h=>by
 obtain⟨a,rfl,h1⟩:=aU h;obtain⟨y,rfl,h2⟩:=jJ h1;obtain⟨b,rfl,h3⟩:=aU h2;obtain⟨xs,e1,h4⟩:=fP h3;obtain⟨zs,e2,h5⟩:=fP h4;exact FO TF s Z H _ _ v us Q I rx rv ⟨_,_,_,_,rfl,rfl,e1,e2,h5⟩
theorem Ar:Mb X "list.pop" Mj:=fun TF s Z H x vs v us Q I rx rv h=>by
 obtain⟨a,rfl,h1⟩:=aU h;obtain⟨y,rfl,h2⟩:=jJ h1;obtain⟨i,rfl,h3⟩:=eP h2;obtain⟨xs,e1,rfl,h4⟩:=fP h3;obtain⟨y,e2,h5⟩:=dQ h4;cases xs with
 | nil=>cases e2
 | cons z zs=>exact Iv TF s Z H _ _ v us Q I rx rv ⟨_,_,_,0,y,rfl,rfl,e1,by decide,by decide,by simp[seqIndex?],e2,h5⟩
end
mutual
example:=[!xs.isEmpty]
def GG:Option HO->Option Bool
 | some (.lst xs)=>some 0e0
 | some (.tup xs)=>some 0e0
 | some (.dK kvs)=>some (!kvs.isEmpty)
 | _=>none
def xR(H:Hp):V->Option Bool
 | .TK=>some false
 | .bl b=>some b
 | .int i=>some (i !=0)
 | .ref p=>GG (H p)
 | _=>none
def AW{x:V}{k:Bool}(h:xR H x=some k):Px K x H k:=by
 cases x with
 | TK=>cases h;rfl
 | bl b=>cases h;rfl
 | int i=>cases h;rfl
 | ref p =>
  simp only[xR] at h;unfold GG at h;split at h
  ·next e=>cases h;exact .inl ⟨_,.inl (.inl e),rfl⟩
  ·next e=>cases h;exact .inr (.inl ⟨_,iR.of e,rfl⟩)
  ·next e=>cases h;exact .inr (.inr ⟨_,e,rfl⟩)
  ·cases h
 | _=>cases h
def JK(ta:TE):TT:=fun Z H Q=>ta Z H fun x H'=>iY (xR H' x) fun k=>Q k H'
def tX{a:Expr}{ta:TE}(ha:PE X a ta)(he:∀ whole,isTrue a X.env whole=(do let v <- whole;standAt a.pos;holding [v] (truthy v))):PT X a (JK ta):=by
 intro TF s Z H Q I h;exact isTrue_plain (thn (ha TF s Z H _ I h) fun v s1 ⟨x,H1,I1,r1,q1⟩=>by
  obtain⟨k,e,q⟩:=dQ q1;exact DD TF s1 Z H1 x v Q I1 r1 ⟨k,AW e,q⟩) (he _)
end
section
mutual
example:=[.ref p,some y::bC fr Z,!vs.isEmpty]
variable{te to:TE}{t:TA}{tj:TJ}{Q:VK}{acc:Str}{r:V->List V->Hp->VK->Prop}{QS:Str->Hp->Prop}{B:Bool->Hp->Prop}{D:Ends}{p q:Addr}{v:V}{b:Bool}{i:Int}
def NG:Str.empty++x=x:=by
 show(⟨#[]++x.cps⟩:Str)=x;rw[Array.empty_append]
def SN:Tn r to t Z H Q=to Z H fun x H1=>bH x fun a=>eV (H1 a) fun _=>t Z H1 fun xs H2=>r (.ref a) xs H2 Q:=rfl
def Qd:PF 0e0 [.ref q] H Q=eV (H p) fun xs=>eV (H q) fun zs=>xs.length+zs.length<=sizeLine/\Q .TK (TH H p (.lst (xs++zs))):=rfl
def Oi:Mj 0e0 [.int 0] H Q=eV (H p) fun xs=>(0:Int)=0/\iY xs[0]? fun v=>Q v (TH H p (.lst xs.tail)):=rfl
def KI:JK te Z H B=te Z H fun x H'=>iY (xR H' x) fun k=>B k H':=rfl
def Ow:xR H .TK=some false:=rfl
def Oq:xR H (.bl b)=some b:=rfl
def Ou:xR H (.int i)=some (i !=0):=rfl
def HL:xR H 0e0=GG (H p):=rfl
def Ov:GG (some (.lst vs))=some 2e0:=rfl
def Ox:GG (some (.tup vs))=some 2e0:=rfl
def Ot:GG (some (.dK kvs))=some (!kvs.isEmpty):=rfl
variable{tc:TT}{tl:TE}
def Ka:kU (OA K tl) fr tc te Z H Q=tl Z H fun x H1=>bH x fun a=>(∃ xs,iR K H1 a xs)/\lc (Itt K a) fr tc te Z H1 Q:=by
 unfold kU OA
 congr 1
 funext x H1;exact propext ⟨fun⟨a,e,h1,h⟩=>by subst e;exact⟨h1,h⟩,fun h=>by obtain⟨a,rfl,h1,h⟩:=aU h;exact⟨a,rfl,h1,h⟩⟩
theorem Im(Pv:Nat->List V->Hp->Prop)(h0:Pv 0 [] H)(hz:∀ i xs H,Pv i xs H->xs.length<=1000000)(hl:∀ i xs H,Pv i xs H->iR K H a ys)(hs:∀ i y xs H,i < ys.length->ys[i]?=some y->Pv i xs H->tc 1e0 H fun b H2=>if b=true then te 1e0 H2 (fun z H3=>Pv (i+1) (xs++[z]) H3) else Pv (i+1) xs H2)(hd:∀ xs H,Pv ys.length xs H->∀ p,H p=none->Q 0e0 (TH H p (.lst xs))):lc (Itt K a) fr tc te Z H Q:=by
 refine⟨cW ys.length Pv,⟨ys.length,by simp,Α4 _,h0⟩,?_⟩;rintro i m xs H ⟨rfl,hi,p⟩;refine⟨hz i xs H p,?_⟩;have q:=hl i xs H p;by_cases Uu:i < ys.length
 ·refine .inr ⟨⟨ys,ys[i],q,by simp[Uu]⟩,fun y H' yy=>?_⟩;obtain⟨e,yy⟩:=yy;subst e;simp only[Be Uu];exact hs i y xs _ Uu (yy ys q) p
 ·have e:i=ys.length:=by omega
  subst e;exact .inl ⟨⟨ys,q,Ι _⟩,hd xs H p⟩
end
end
section
theorem LK{b:Addr}(h:qP X.K H n a b r)(I:TQ X TF Z H s)(hu:A.units+n < cLine):SeqAt.RcNeAt A s (.ref a) (.ref b) (!r):=by
 cases h with
 | list hx hy hl he =>
  obtain⟨TR,r1,p1,z1⟩:=I.list hx;obtain⟨XN,r2,p2,z2⟩:=I.list hy;have l1:=r1.length;have l2:=r2.length;have:=SeqAt.RcNeAt.lists p1.isList p2.isList (by simp only[Ε];omega) (by omega) (A:=A) (fun j h1 h2=>by
   obtain⟨x,ex,rx⟩:=jW r1 h1;obtain⟨y,ey,ry⟩:=jW r2 h2;exact HM (he j x y ex ey) I rx ry (by show A.units+1+_ < _;omega))
  rw[Ε,<- l1] at this;exact this
 | U8 hx hy hl =>
  obtain⟨TR,r1,p1,z1⟩:=I.list hx;obtain⟨XN,r2,p2,z2⟩:=I.list hy;have l1:=r1.length;have l2:=r2.length;exact SeqAt.RcNeAt.lists_lengths p1.isList p2.isList (by simp only[Ε,bne_iff_ne,ne_eq];omega) (by omega)
 | tup hx hy he =>
  obtain⟨TR,r1,p1,z1⟩:=I.tuple hx;obtain⟨XN,r2,p2,z2⟩:=I.tuple hy;have l1:=r1.length;have l2:=r2.length;have:=SeqAt.RcNeAt.tuples (show s.heap.IsTuple _ TR.toArray from p1) (show s.heap.IsTuple _ XN.toArray from p2) (by omega) (A:=A) (fun j h1 h2=>by
   obtain⟨x,ex,rx⟩:=jW r1 h1;obtain⟨y,ey,ry⟩:=jW r2 h2;exact HM (he j x y ex ey) I rx ry (by show A.units+1+_ < _;omega))
  rw[Ε,Ε,<- l1,<- l2] at this;exact this
end
mutual
example:=[]
def MZ(K:q0B)(n:Nat):R2:=fun x y H Q=>bH x fun a=>bH y fun b=>∃ r,qP K H n a b r/\Q (.bl (!r)) H
def PB(K:q0B)(n:Nat):R2:=fun x y H Q=>bH x fun a=>bH y fun b=>∃ r,qP K H n a b r/\Q (.bl r) H
theorem Bv{k:Nat}(hr:Room k A)(h:n<=60):A.units+n < cLine:=Nat.lt_of_le_of_lt (Nat.add_le_add_left (by omega:n<=64) _) hr.units
def Hd:List V->Hp->VK->Prop:=fun vs H Q=>on1 vs fun x=>bH x fun p=>lT (H p) fun ys=>∀ l,H l=none->Q (.ref l) (TH H l (.lst ys))
end
section
def wI(n:Nat)(hu:X.A.units+n < cLine):jT X (compareOp .NotEq) (MZ X.K n):=fun TF s Z H x y v u Q I rx ry h=>by
 obtain⟨a,rfl,h1⟩:=aU h;obtain⟨b,rfl,r,e,q⟩:=aU h1;cases rx;cases ry;exact LK e I hu X.prog X.w X.xe _ (cF I q rfl)
def IP(n:Nat)(hu:X.A.units+n < cLine):jT X (compareOp .Eq) (PB X.K n):=fun TF s Z H x y v u Q I rx ry h=>by
 obtain⟨a,rfl,h1⟩:=aU h;obtain⟨b,rfl,r,e,q⟩:=aU h1;cases rx;cases ry;exact Jc e I hu X.prog X.w X.xe _ (cF I q rfl)
def yP:gA X (.type "list") Hd:=fun TF s Z H xs us Q I r h=>by
 obtain⟨x,rfl,h1⟩:=jJ h;obtain⟨p,rfl,h2⟩:=aU h1;obtain⟨ys,e,h3⟩:=mQ h2;refine Aa TF s Z H _ us Q I r ⟨p,ys,rfl,?_,h3⟩;rcases e with e|e
 ·exact .inl (fY.of e)
 ·exact .inr (iR.of e)
end
section
variable{Q:VK}{b p:Addr}{i:Int}
def Qn:MZ K n (.ref a) (.ref b) H Q = ∃ r,qP K H n a b r/\Q (.bl (!r)) H:=rfl
def Qb:PB K n (.ref a) (.ref b) H Q = ∃ r,qP K H n a b r/\Q (.bl r) H:=rfl
def Kl:Hd [.ref p] H Q=lT (H p) fun ys=>∀ l,H l=none->Q (.ref l) (TH H l (.lst ys)):=rfl
end
def Str.cs(x:Str):List Nat:=x.cps.toList
section
variable{Q:VK}{p:Addr}{z:Str}{neg:Bool}{v:V}
end
mutual
example:=[fs.lookup f]
def iX(C:Addr)(o:Option HO)(k:Addr->List (Str×V)->Prop)(_u:Tg k:=()):Prop:=match o with
 | some (.ins C' dx fs)=>C'=C/\k dx fs
 | _=>False
def mP{C:Addr}{k:Addr->List (Str×V)->Prop}(h:iX C o k):∃ dx fs,o=some (.ins C dx fs)/\k dx fs:=by
 unfold iX at h;split at h
 ·obtain⟨rfl,h⟩:=h;exact⟨_,_,rfl,h⟩
 ·exact h.elim
def JY(C:Addr)(f:Str)(ta:TE):TE:=fun Z H Q=>ta Z H fun x H1=>bH x fun a=>iX C (H1 a) fun _ fs=>iY 0e0 fun v=>Q v H1
def Ml(C:Addr)(f:Str)(ta tv:TE):TS:=fun D Z H=>tv Z H fun y H1=>ta Z H1 fun x H2=>bH x fun a=>iX C (H2 a) fun dx fs=>fs.length < 1000/\D.nx Z (TH H2 a (.ins C dx (jA f y fs)))
def Md(C:Addr)(f:Str)(ta tv:TE):TS:=fun D Z H=>ta Z H fun x H1=>bH x fun a=>iX C (H1 a) fun _ fs=>iY 0e0 fun v=>tv Z H1 fun y H2=>gZ v fun i=>gZ y fun j=>iX C (H2 a) fun dx Xz=>Xz.length < 1000/\D.nx Z (TH H2 a (.ins C dx (jA f (.int (i+j)) Xz)))
end
section
variable{o e value:Expr}{f:Str}{pos' WO:Pos}{ta tv:TE}{C:Addr}
def aM(c:Cls X.K C)(n:eY X.K C f)(he:PE X e ta)(hb:attributeBase e f X.env (eval e X.env)=eval e X.env:=by rfl):PE X (.Attribute e f pos) (JY C f ta):=fun TF s Z H Q I h=>by
 refine JV hb (thn (he TF s Z H _ I h) fun u s1 ⟨x,H1,I1,rx,q1⟩=>?_);obtain⟨a,rfl,q2⟩:=aU q1;obtain⟨dx,fs,ea,q3⟩:=mP q2;obtain⟨v,l,q⟩:=dQ q3;obtain rfl:u=Value.ref a:=rx;exact uY I1 ea c n l fun u' s2 I2 ru=>⟨v,H1,I2,ru,q⟩
def dR(c:Cls X.K C)(n:eY X.K C f)(ha:PE X o ta)(hv:PE X value tv)(hs:swapsWith value (some (.Attribute o f pos')) pos.line X.env=pure false:=by rfl):PS X (.Assign [.Attribute o f pos'] value pos) (Ml C f ta tv):=fun TF s Z H D I h=>by
 refine plainObj_wpAny_Assign_Attribute (thn (hv TF s Z H _ I h) fun u s1 ⟨y,H1,I1,ry,q⟩=>thn (ha TF s1 Z H1 _ I1 q) fun ov s2 ⟨x,H2,I2,rx,q1⟩=>?_) hs;obtain⟨a,rfl,q2⟩:=aU q1;obtain⟨dx,fs,ea,l,q3⟩:=mP q2;obtain rfl:ov=Value.ref a:=rx;exact xD I2 ea c n l ry fun s3 I3=>⟨Z,_,I3,q3⟩
def Lw(c:Cls X.K C)(n:eY X.K C f)(ha:PE X o ta)(hv:PE X value tv):PS X (.AugAssign (.Attribute o f WO) .Add value pos) (Md C f ta tv):=fun TF s Z H D I h=>by
 refine wpAny_AugAssign_AttributeAny (thn (ha TF s Z H _ I h) fun ov s1 ⟨x,H1,I1,rx,q1⟩=>?_);obtain⟨a,rfl,q2⟩:=aU q1;obtain⟨dx,fs,ea,q3⟩:=mP q2;obtain⟨v,l,q⟩:=dQ q3;obtain rfl:ov=Value.ref a:=rx;refine uY I1 ea c n l fun u s2 I2 ru=>thn (hv TF s2 Z H1 _ I2 q) fun w3 s3 ⟨y,H2,I3,ry,q4⟩=>?_;obtain⟨i,rfl,q5⟩:=eP q4;obtain⟨j,rfl,q6⟩:=eP q5;obtain⟨dx',Xz,ea',l',q7⟩:=mP q6;refine thn (OB TF s3 Z H2 (.int i) (.int j) u w3 (fun z H3=>z=.int (i+j)/\H3=H2) I3 ru ry ⟨i,j,rfl,rfl,rfl,rfl⟩) fun w4 s4 ⟨z,H3,I4,rz,ez,eH⟩=>?_;subst ez eH;exact xD I4 ea' c n l' rz fun s5 I5=>⟨Z,_,I5,q7⟩
end
section
mutual
example:=[Str.ofString x,Str×V,((Str.ofString y,v)::r),fs.lookup f]
variable{C dx:Addr}{fs:List 1e0}{k:Addr->List 1e0->Prop}{m f:Str}{sp:Sp}{E:XK}{ta tv:TE}{t:TA}{Q:VK}{D:Ends}{v u:V}{r:List 1e0}
def DY{u:Tg k}:@iX C (some (.ins C dx fs)) k u=k dx fs:=by simp[iX]
def Qe:JY C f ta Z H Q=ta Z H fun x H1=>bH x fun a=>iX C (H1 a) fun _ fs=>iY 3e0 fun v=>Q v H1:=rfl
def Om:Ml C f ta tv D Z H=tv Z H fun y H1=>ta Z H1 fun x H2=>bH x fun a=>iX C (H2 a) fun dx fs=>fs.length < 1000/\D.nx Z (TH H2 a (.ins C dx (jA f y fs))):=rfl
def Np:Md C f ta tv D Z H=ta Z H fun x H1=>bH x fun a=>iX C (H1 a) fun _ fs=>iY 3e0 fun v=>tv Z H1 fun y H2=>gZ v fun i=>gZ y fun j=>iX C (H2 a) fun dx Xz=>Xz.length < 1000/\D.nx Z (TH H2 a (.ins C dx (jA f (.int (i+j)) Xz))):=rfl
def HD:Cz C m sp [] E ta t Z H Q=ta Z H fun x H1=>bH x fun a=>iX C (H1 a) fun _ fs=>fs.lookup m=none/\t Z H1 fun vs H2=>sp (.ref a::vs) H2 Q E:=by
 unfold Cz
 congr 1
 funext x H1;refine propext ⟨fun⟨a,dx,fs,e,e1,l,h⟩=>?_,fun h=>?_⟩
 ·subst e;show iX C (H1 a) _;rw[e1,DY];simp only[ϛ] at h;exact⟨l,h⟩
 ·obtain⟨a,rfl,h⟩:=aU h;obtain⟨dx,fs,e1,l,h⟩:=mP h;exact⟨a,dx,fs,rfl,e1,l,by simpa only[ϛ] using h⟩
def Od:EY C sp [] E t Z H Q=t Z H fun vs H1=>∀ x dx,H1 x=none->H1 dx=none->dx≠x->sp (.ref x::vs) (TH (TH H1 dx (.own x)) x (.ins C dx [])) (fun v H2=>v=.TK/\Q (.ref x) H2) E:=by
 unfold EY;simp only[ϛ]
def IB{x y:String}:(Str.ofString x=Str.ofString y)=(x=y):=cK
def HB{x y:String}:List.lookup 0e0 2e0=if x=y then some v else List.lookup 0e0 r:=by
 by_cases h:x=y
 ·subst h;simp[List.lookup]
 ·have:(Str.ofString x==Str.ofString y)=false:=Β3.mpr fun z=>h (IB▸z);simp only[List.lookup,this,if_neg h]
def Fh:List.lookup x ([]:List 1e0)=none:=rfl
def Oj{x y:String}:jA 0e0 u 2e0=if y=x then (Str.ofString y,u)::r else (Str.ofString y,v)::jA 0e0 u r:=by
 rw[show jA 0e0 u 2e0=(if Str.ofString y=Str.ofString x then (Str.ofString y,u)::r else (Str.ofString y,v)::jA 0e0 u r) from rfl];by_cases h:y=x
 ·rw[if_pos h,if_pos (by rw[h])]
 ·rw[if_neg h,if_neg fun z=>h (IB▸z)]
def Kv:jA x u []=[(x,u)]:=rfl
end
end
section
variable{Q:VK}{x:V}{p:Addr}{t:TA}{i:Int}{z:Str}{b:Bool}
end
def D0{a b:Str}:n8 (.str a) (.str b)=(a==b):=rfl
def KQ{a b:Int}:n8 (.int a) (.int b)=(a==b):=rfl
section
variable{o:Obj}
def TQ.L5(I:TQ X TF Z H s)(e:H a=some (.Uv o (.dK kvs)))(UI:∀ ob u,X.H₀ a≠some (.Uv ob u)):TQ X TF Z (TH H a (.dK kvs)) s:=by
 have nn:∀ {b:Addr},H b=none->b≠a:=fun h z=>by subst z;rw[e] at h;cases h
 refine⟨I.ok,I.os,I.bare,⟨I.base.keep,I.base.slot,fun b ob q n hx=>?_,I.base.there,fun b xs q=>?_,fun b ob u q=>?_,fun b ps q=>?_⟩,I.loc,I.cell,?_,fun x c hc=>?_,fun p hp=>?_,fun b u q=>?_,I.len⟩
 ·have:=I.base.free b ob q n hx;rw[aD (nn this)];exact this
 ·have:=I.base.yG b xs q;rw[aD (dB this e (by intro z;cases z))];exact this
 ·have h1:=I.base.uU b ob u q;rw[aD (fun z=>by subst z;exact UI _ _ q)];exact h1
 ·obtain⟨more,h1⟩:=I.base.yF b ps q;exact⟨more,by rw[aD (dB h1 e (by intro z;cases z))];exact h1⟩
 ·rw[aD (nn I.free)];exact I.free
 ·rw[aD (nn (I.kK x c hc))];exact I.kK x c hc
 ·obtain⟨h1,h2,h3⟩:=I.pin p hp;exact⟨h1,by rw[aD (nn h2)];exact h2,h3⟩
 ·have own:∀ b c,H b=some (.own c)->TH H a (.dK kvs) b=some (.own c):=fun b c q=>by rw[aD (dB q e (by intro z;cases z))];exact q
  have tup:∀ b xs,H b=some (.tup xs)->TH H a (.dK kvs) b=some (.tup xs):=fun b c q=>by rw[aD (dB q e (by intro z;cases z))];exact q
  by_cases hb:b=a
  ·subst hb;rw[aA] at q;cases q;exact eC.tF (I.TY b _ e).2 (fun _ _ _ z=>z) (fun b q=>own b _ q) tup
  ·rw[aD hb] at q;exact(I.TY b u q).tF (fun _ _ _ z=>z) (fun b q=>own b _ q) tup
end
mutual
example:=[TH H a (.dK kvs),.Uv o (.dK kvs),.Uv ob u]
def ML(H₀:Hp)(D:Ends):Ends :=
 {nx:=fun Z H=>∃ a o kvs,H a=some 1e0/\(∀ ob u,H₀ a≠some 2e0)/\D.nx Z 0e0
  bk:=fun Z H=>∃ a o kvs,H a=some 1e0/\(∀ ob u,H₀ a≠some 2e0)/\D.bk Z 0e0
  ct:=fun Z H=>∃ a o kvs,H a=some 1e0/\(∀ ob u,H₀ a≠some 2e0)/\D.ct Z 0e0
  rt:=fun v H=>∃ a o kvs,H a=some 1e0/\(∀ ob u,H₀ a≠some 2e0)/\D.rt v 0e0}
def MJ(H₀:Hp)(t:TS):TS:=fun D Z H=>t (ML H₀ D) Z H
def Lz{st:Stmt}{t:TS}(h:PS X st t):PS X st (MJ X.H₀ t):=fun TF s Z H D I hq =>
 thn (h TF s Z H _ I hq) fun f s' q=>by
  cases f with
  | next=>obtain⟨Z',H',I',a,o,kvs,e,UI,q⟩:=q;exact⟨Z',_,I'.L5 e UI,q⟩
  | brk=>obtain⟨Z',H',I',a,o,kvs,e,UI,q⟩:=q;exact⟨Z',_,I'.L5 e UI,q⟩
  | cont=>obtain⟨Z',H',I',a,o,kvs,e,UI,q⟩:=q;exact⟨Z',_,I'.L5 e UI,q⟩
  | ret u=>obtain⟨v,Z',H',I',r,a,o,kvs,e,UI,q⟩:=q;exact⟨v,Z',_,I'.L5 e UI,r,q⟩
def Pz(ty td:TE):TE:=fun Z H Q=>ty Z H fun y H1=>td Z H1 fun x H2=>bH x fun a=>dF (H2 a) fun kvs=>iY (jR y) fun k=>Q (.bl (aY kvs k).isSome) H2
def Ha(td ty:TE):TE:=fun Z H Q=>td Z H fun x H1=>bH x fun a=>dF (H1 a) fun _=>ty Z H1 fun y H2=>dF (H2 a) fun kvs=>iY (jR y) fun k=>iY (aY kvs k) fun v=>Q v (TH H2 a (.dK (sE kvs k)))
def GY(td ty tx:TE):TE:=fun Z H Q=>td Z H fun x H1=>bH x fun a=>dF (H1 a) fun _=>ty Z H1 fun y H2=>tx Z H2 fun z H3=>dF (H3 a) fun kvs=>iY (jR y) fun k=>Q ((aY kvs k).getD z) H3
def Al{y:V}{k:Key}(h:jR y=some k):y=kV k:=by
 cases y<;>simp[jR] at h<;>subst h<;>rfl
end
section
mutual
example:=[ho TF s Z H _ I h,(thn 0e0 fun u s1 ⟨x,H1,I1,rx,q1⟩=>?_),he TF s1 Z H1 _ I1 q3,(.inl ⟨Up,.inl e0⟩),(thn (hf TF s2 Z H2 _ I2 q4) fun fv s3 ⟨z,H3,I3,rz,q5⟩=>Calls.spliced_nil ?_),bJ X.prog X.w]
variable{o e f:Expr}{apos T9:Pos}{td ty tx:TE}
def IQ(ho:PE X o td)(he:PE X e ty)(m:M1 X o "pop" apos e T9):PE X (.Call (.Attribute o "pop" apos) [e] [] T9) (Ha td ty):=fun TF s Z H Q I h=>by
 refine wpAny_Call_method m.base m.Us m.line Γ6 PySem.F.slot_dict_pop PySem.F.type_dict_pop 1e0;obtain⟨a,rfl,q2⟩:=aU q1;obtain⟨Up,e0,q3⟩:=dN q2;obtain rfl:u=Value.ref a:=rx;obtain⟨t1,t2,_⟩:=qX I1 3e0;refine⟨t1,t2,?_⟩;rw[m.trees];refine Α6 rfl (Ε0 (Δ6 (thn 2e0 fun iv s2 ⟨y,H2,I2,ry,q4⟩=>Calls.spliced_nil ?_)));obtain⟨kvs,ea,q5⟩:=dN q4;obtain⟨k,ek,q6⟩:=dQ q5;obtain⟨v,l,q7⟩:=dQ q6;cases Al ek;exact PN I2 ea ry l (.inl rfl) fun w' s3 I3 UW=>⟨v,_,I3,UW,q7⟩
def rS(hu:X.A.units+1 < cLine)(ho:PE X o td)(he:PE X e ty)(hf:PE X f tx)(m:M2 X o "get" apos e f T9):PE X (.Call (.Attribute o "get" apos) [e,f] [] T9) (GY td ty tx):=fun TF s Z H Q I h=>by
 refine wpAny_Call_method m.base m.Us m.line Γ6 Δ0 PySem.F.type_dict_get 1e0;obtain⟨a,rfl,q2⟩:=aU q1;obtain⟨Up,e0,q3⟩:=dN q2;obtain rfl:u=Value.ref a:=rx;obtain⟨t1,t2,_⟩:=qX I1 3e0;refine⟨t1,t2,?_⟩;rw[m.trees];refine Α6 rfl (Ε0 (Δ6 (thn 2e0 fun iv s2 ⟨y,H2,I2,ry,q4⟩ =>
  Δ6 4e0)))
 obtain⟨kvs,ea,q6⟩:=dN q5;obtain⟨k,ek,q7⟩:=dQ q6;cases Al ek;exact Nh hu I3 (DGet.k ea) ry rz fun w' s4 I4 UW=>⟨_,H3,I4,UW,q7⟩
def Eu(hu:X.A.units+1 < cLine)(hi:PE X e ty)(ho:PE X o td):PC X .In e o (Pz ty td):=fun TF s Z H Q I h=>by
 refine thn (hi TF s Z H _ I h) fun iv s1 ⟨y,H1,I1,ry,q1⟩=>thn (ho TF s1 Z H1 _ I1 q1) fun u s2 ⟨x,H2,I2,rx,q2⟩=>?_;obtain⟨a,rfl,q3⟩:=aU q2;obtain⟨kvs,e0,q4⟩:=dN q3;obtain⟨k,ek,q5⟩:=dQ q4;obtain rfl:u=Value.ref a:=rx;cases Al ek;exact SE hu I2 (DGet.k e0) ry fun s3 I3=>⟨.bl (aY kvs k).isSome,H2,I3,rfl,q5⟩
def DQ(td:TE):TE:=fun Z H Q=>td Z H fun x H1=>bH x fun a=>dF (H1 a) fun _=>Q .TK (TH H1 a (.dK []))
def Gh(ho:PE X o td)(UA:attributeBase o "clear" X.env (eval o X.env)=eval o X.env:=by rfl)(UB:(apos.endLine==T9.line)=true:=by rfl):PE X (.Call (.Attribute o "clear" apos) [] [] T9) (DQ td):=fun TF s Z H Q I h=>by
 refine wpAny_Call_method0_late UA UB (thn 0e0 fun v s1 ⟨x,H1,I1,r1,q1⟩=>?_);obtain⟨a,rfl,q2⟩:=aU q1;obtain⟨kvs,e0,q3⟩:=dN q2;obtain rfl:v=Value.ref a:=r1;obtain⟨t1,t2,_⟩:=qX I1 (.inl ⟨kvs,.inl e0⟩);refine⟨"dict","dict.clear",Γ6,PySem.F.slot_dict_clear,PySem.F.type_dict_clear,t1,t2,Α6 rfl (PySem.evalArgs_none ?_)⟩;obtain⟨z,hd,vs,rel,dd⟩:=oC I1.TY e0;refine Δ3 PySem.F.slot_dict_clear dd.typeIs PySem.F.entry_dict_clear (PySem.F.args_dict_clear_1 _) (meets_dict_clear 5e0 a)
  ⟨vs,dd,by rw[<- rel.length];exact z,fun h' Vr hs=>⟨.TK,_,?_,rfl,q3⟩⟩
 have he:∃ q,h'.get? a=some q:=let ⟨q,_,_,hq,_⟩:=Vr;⟨q,hq⟩;exact nJ I1 (by rw[e0];exact True.intro) hs he (oW (Α4 _) hd .nil Vr)
def Me(td ty tx:TE):TE:=fun Z H Q=>td Z H fun x H1=>bH x fun a=>dF (H1 a) fun _=>ty Z H1 fun y H2=>tx Z H2 fun z H3=>dF (H3 a) fun kvs=>iY (jR y) fun k=>kvs.length < sizeLine /\
 (∀ v,aY kvs k=some v->Q v H3)/\(aY kvs k=none->Q z (TH H3 a (.dK (aS kvs k z))))
theorem IS(ho:PE X o td)(he:PE X e ty)(hf:PE X f tx)(m:M2 X o "setdefault" apos e f T9):PE X (.Call (.Attribute o "setdefault" apos) [e,f] [] T9) (Me td ty tx):=fun TF s Z H Q I h=>by
 refine wpAny_Call_method m.base m.Us m.line Γ6 PySem.F.slot_dict_setdefault PySem.F.type_dict_setdefault 1e0;obtain⟨a,rfl,q2⟩:=aU q1;obtain⟨Up,e0,q3⟩:=dN q2;obtain rfl:u=Value.ref a:=rx;obtain⟨t1,t2,_⟩:=qX I1 3e0;refine⟨t1,t2,?_⟩;rw[m.trees];refine Α6 rfl (Ε0 (Δ6 (thn 2e0 fun iv s2 ⟨y,H2,I2,ry,q4⟩ =>
  Δ6 4e0)))
 obtain⟨kvs,ea,q6⟩:=dN q5;obtain⟨k,ek,hl,q7,q8⟩:=dQ q6;cases Al ek;obtain⟨z',hd,vs,rel,dd⟩:=oC I3.TY ea;refine Δ3 PySem.F.slot_dict_setdefault dd.typeIs PySem.F.entry_dict_setdefault (PySem.F.args_dict_setdefault_3 _ _ _) (kt_meets_setdefault 5e0 a (oH ry) hd fv)
  ⟨vs,dd,by rw[<- rel.length];exact z',fun v hv=>?_,fun hv h' Vr hs=>?_⟩
 ·have:=rel.val k;rw[hv] at this;cases l:aY kvs k with
  | none=>rw[l] at this;exact this.elim
  | some w=>rw[l] at this;exact⟨w,H3,I3.tok _,this,q7 w l⟩
 ·have:=rel.val k;rw[hv] at this;cases l:aY kvs k with
  | some w=>rw[l] at this;exact this.elim
  | none =>
   have he:∃ q,h'.get? a=some q:=let ⟨q,_,_,hq,_⟩:=Vr;⟨q,hq⟩;exact⟨z,_,nJ I3 (by rw[ea];exact True.intro) hs he (oW (by have:=iN kvs k z;omega) hd (rel.put k rz) Vr),rz,q8 l⟩
end
end
section
mutual
example:=[]
variable{td ty tx:TE}{H₀:Hp}{Q:VK}{t:TS}{D:Ends}{v:V}
def Oo:MJ H₀ t D Z H=t (ML H₀ D) Z H:=rfl
def Nz:Pz ty td Z H Q=ty Z H fun y H1=>td Z H1 fun x H2=>bH x fun a=>dF (H2 a) fun kvs=>iY (jR y) fun k=>Q (.bl (aY kvs k).isSome) H2:=rfl
def Ke:Ha td ty Z H Q=td Z H fun x H1=>bH x fun a=>dF (H1 a) fun _=>ty Z H1 fun y H2=>dF (H2 a) fun kvs=>iY (jR y) fun k=>iY (aY kvs k) fun v=>Q v (TH H2 a (.dK (sE kvs k))):=rfl
def HA:GY td ty tx Z H Q=td Z H fun x H1=>bH x fun a=>dF (H1 a) fun _=>ty Z H1 fun y H2=>tx Z H2 fun z H3=>dF (H3 a) fun kvs=>iY (jR y) fun k=>Q ((aY kvs k).getD z) H3:=rfl
def Hz:DQ td Z H Q=td Z H fun x H1=>bH x fun a=>dF (H1 a) fun _=>Q .TK (TH H1 a (.dK [])):=rfl
def Kf:Me td ty tx Z H Q=td Z H fun x H1=>bH x fun a=>dF (H1 a) fun _=>ty Z H1 fun y H2=>tx Z H2 fun z H3=>dF (H3 a) fun kvs=>iY (jR y) fun k=>kvs.length < sizeLine/\(∀ v,aY kvs k=some v->Q v H3)/\(aY kvs k=none->Q z (TH H3 a (.dK (aS kvs k z)))):=rfl
end
end
def Mg:V->V->Hp->VK->Prop:=fun x y H Q=>bH x fun p=>gZ y fun i=>eV (H p) fun xs=>iY (fU xs i) fun v=>Q v H
def PH:TIp:=fun x y H Q=>gZ x fun i=>gZ y fun j=>Q (.int (i+j)) H
section
theorem QO:PGet X Mg:=fun TF s Z H o i ov iv Q I ro ri h=>by
 obtain⟨p,rfl,h1⟩:=aU h;obtain⟨k,rfl,h2⟩:=eP h1;obtain⟨xs,e,h3⟩:=fP h2;obtain⟨v,ea,q⟩:=dQ h3;cases ro;obtain⟨t,rfl⟩:=ri;obtain⟨TR,r,pl,hz⟩:=I.list (fY.of e);obtain⟨j,g1,g2,g3,g4,g5⟩:=tH ea;obtain⟨w,ew,UW⟩:=r.get g2;have hl:=r.length;have hn:=line63;have fin:EP X TF Z Q w s:=⟨v,H,I,UW,q⟩;by_cases h0:0<=k
 ·have hj:k.toNat=j:=by
   rw[seqIndex_of h0 g5] at g1;exact ϖ g1
  exact wpAny_getItem_list pl.isList h0 (by omega) (by rw[hj];simpa using ew) fin
 ·have hj:(k+(TR.toArray.size:Int)).toNat=j:=by
   rw[seqIndex_neg (by omega) g4] at g1;rw[Ε,<- hl];exact ϖ g1
  exact wpAny_getItem_list_neg pl.isList (by omega) (by rw[Ε];omega) (by omega) (by rw[hj];simpa using ew) fin
def Eh:PIp X .Add PH:=fun TF s Z H x y v u Q I r1 r2 h=>by
 obtain⟨i,rfl,h1⟩:=eP h;obtain⟨j,rfl,q⟩:=eP h1;exact OC TF s Z H _ _ v u Q I r1 r2 ⟨i,j,rfl,rfl,q⟩
end
structure Pt(P:Params)(K:q0B)(d:Addr):Prop where
 ex:∃ es n,K.lookup d=some {cls:=.type "dict",data:=.dict es n}/\PySem.W.KeysLit P es.toList
noncomputable def MG(tab:List (Str×Sp))(tk:TE)(t:TA):TE:=fun Z H Q=>tk Z H fun y H1=>BW y fun x=>iY (tab.lookup x) fun sp=>t Z H1 fun vs H2=>sp vs H2 Q E0
theorem Ls{p pos':Pos}{d:Addr}{ke e:Expr}{tk:TE}{t:TA}{k:Nat}{tab:List (Str×Sp)}(hg:Gl X x)(hm:X.mg x=some (.ref d))(M:Pt X.w.params X.K d)(hk:PE X ke tk)(hs:JR ke)
    (F:∀ y sp,tab.lookup y=some sp->∃ f fd ps,PySem.W.nsIn X.K d y=some (some (.ref f))/\gO X.prog X.w X.K X.mg X.base UR k f fd ps sp/\PySem.W.keepIn X.K (.ref f)=true/\Binds X.K fd ps [])
    (hr:Room k X.A) (ha:PA X (e::es) t) (hd:(x==("__debug__":Str))=false:=by decide) (he:starEach (e::es) X.env=(false,eval e X.env)::starEach es X.env:=by rfl) (Uy:(backTo pos (starEach es X.env)).any (·.1)=false:=by rfl)
    (hc:eval (.Call (.Subscript (.Name x p) ke pos') (e::es) [] pos) X.env=(do
      let f <- eval (.Subscript (.Name x p) ke pos') X.env
      callWith pos f [] (backTo pos (starEach (e::es) X.env)) (backToKw pos (keywordEach [] X.env))):=by rfl) :
    PE X (.Call (.Subscript (.Name x p) ke pos') (e::es) [] pos) (MG tab tk t):=fun TF s Z H Q I h=>by
  obtain⟨Zl,n',lk,kl⟩:=M.ex;refine PyProof.Rows.Call_ (EV (T:="dict") PySem.F.slot_dict_getitem.lookup hs (thn (pY (v:=.ref d) hg hm rfl hd TF s Z H (fun v H'=>v=.ref d/\tk Z H' _) I ⟨rfl,h⟩) fun o s1 ⟨v,H1,I1,r1,ev,q1⟩=>?_)) hc;subst ev;obtain rfl:o=Value.ref d:=r1;refine thn (hk TF s1 Z H1 _ I1 q1) fun i s2 ⟨y,H2,I2,ry,q2⟩=>?_;obtain⟨z,rfl,q3⟩:=IJ q2;obtain⟨sp,el,q4⟩:=dQ q3;obtain⟨f,fd,ps,V5,hf,hkp,hb⟩:=F z sp el;obtain⟨t',rfl⟩:=ry;obtain⟨m,fr⟩:=I2.fr;refine⟨⟨_,I2.kIn _ _ lk,rfl⟩,PySem.W.topGetDict_K fr I2.mod.kin lk kl V5 ?_⟩;refine PySem.W.callWith_K (h₀:=X.base) I2.mod.kin hkp (thn (ha pos TF _ Z H2 _ (I2.tok _) q4) fun us s3 ⟨vs,H3,I3,r3,q5⟩=>⟨I3.kIn,?_⟩) he Uy;exact AI (E:=E0) hf hr hb .nil pass0 I3 r3 (by simpa using q5)
section
mutual
example:=[]
variable{tab:List (Str×Sp)}{tk to ti te:TE}{t:TA}{Q:VK}{D:Ends}{p:Addr}{i j:Int}{VI:V->V->Hp->VK->Prop}{YH:TIp}{VL:TSet}
def Ny:MG tab tk t Z H Q=tk Z H fun y H1=>BW y fun x=>iY (tab.lookup x) fun sp=>t Z H1 fun vs H2=>sp vs H2 Q E0:=rfl
def NK:Mg (.ref p) (.int i) H Q=eV (H p) fun xs=>iY (fU xs i) fun v=>Q v H:=rfl
def Qh:PH (.int i) (.int j) H Q=Q (.int (i+j)) H:=rfl
def Nr:ME to ti te VI YH VL D Z H=to Z H fun o H1=>ti Z H1 fun i H2=>VI o i H2 fun x H3=>te Z H3 fun y H4=>YH x y H4 fun z H5=>VL o i z H5 fun H6=>D.nx Z H6:=rfl
def P6{i:Nat}{ti:TIp}:Rw i te ti D Z H = ∃ x,Z[i]?=some (some x)/\te Z H fun y H1=>ti x y H1 fun z H2=>D.nx (Z.set i (some z)) H2:=rfl
end
end
mutual
example:=[]
def intKeys:List (Key×V)->Option (List Int)
 | []=>some []
 | (.inl i,_)::r=>(intKeys r).map (i::·)
 | _=>none
theorem vB:∀ {kvs:List (Key×V)} {ns:List Int},intKeys kvs=some ns->kvs.length=ns.length/\∀(j:Nat) (k:Key) (x:V),kvs[j]?=some (k,x)->∃ i:Int,k=.inl i/\ns[j]?=some i
 | [],ns,h=>by cases h;exact⟨rfl,fun j k x e=>by simp at e⟩
 | (k,v)::kvs,ns,h=>by
  cases k with
  | inl i =>
   simp only[intKeys,Ϛ] at h;obtain⟨ms,e,rfl⟩:=h;obtain⟨l,f⟩:=vB e;refine⟨by simp[l],fun j k x ej=>?_⟩;cases j with
   | zero=>simp only[Ξ,Ο,Prod.mk.injEq] at ej;exact⟨i,ej.1.symm,rfl⟩
   | succ j=>exact f j k x (by simpa using ej)
  | _=>cases h
def Eg:∀ {vs:List Value},vs.length=ns.length->(∀(j:Nat) (v:Value),vs[j]?=some v->∃ i t,ns[j]?=some i/\v=Value.int i t)->IntsAre vs ns:=by
 induction ns with
 | nil =>
  intro vs hl _;cases vs with
  | nil=>exact .nil
  | cons _ _=>simp at hl
 | cons n ns ih =>
  intro vs hl h;cases vs with
  | nil=>simp at hl
  | cons v vs =>
   obtain⟨i,t,e,rfl⟩:=h 0 v rfl;cases e;exact .cons _ _ (ih (by simpa using hl) fun j v e=>h (j+1) v (by simpa using e))
def eC.there{o:HO}(x:eC P w H h a o):∃ ob,h.get? a=some ob:=by
 cases o with
 | lst xs=>obtain⟨_,_,_,_,e⟩:=x;exact⟨_,e⟩
 | tup xs=>obtain⟨_,_,_,o,e,_⟩:=x;exact⟨_,e⟩
 | dK kvs=>obtain⟨_,_,_,_,o,_,_,e,_⟩:=x;exact⟨_,e⟩
 | dT kvs=>obtain⟨_,_,_,_,o,_,_,e,_⟩:=x;exact⟨_,e⟩
 | set S n=>obtain⟨o,_,_,_,e,_⟩:=x;exact⟨_,e⟩
 | ins C dx fs=>obtain⟨_,_,_,e,_⟩:=x;exact⟨_,e⟩
 | own y=>obtain⟨_,e⟩:=x;exact⟨_,e⟩
 | xd fs=>obtain⟨_,⟨_,_,_,e,_⟩,_⟩:=x;exact⟨_,e⟩
 | rng lo hi=>obtain⟨_,_,_,e⟩:=x;exact⟨_,e⟩
 | Uv ob u=>obtain⟨e,_⟩:=x;exact⟨_,e⟩
 | XU ps=>exact⟨_,(show h.get? a=some _ from x)⟩
 | met f y=>exact⟨_,(show h.get? a=some _ from x)⟩
 | ext φ=>obtain⟨_,⟨_,e⟩,_⟩:=x;exact⟨_,e⟩
end
section
variable{Q:VK}{p:Addr}
end
section
variable{h':Heap}
end
noncomputable def SOk(t:Bool)(h:Heap)(a:Addr)(us:Array Value):Prop:=match t with
 | true=>h.IsTuple a us
 | false=>h.IsList a us
section
variable{prog:Program}
end
section
variable{prog:Program}
end
section
variable{t:Bool}
end
section
variable{elts:List Expr}{k:Nat}{tp:Pos}
end
section
variable{D:Ends}{g:TG}{tb:TS}{as:TA}
end
structure kY(X:Cx)(sc:Scope)(cl:List (Str×Addr))(x y0:Str)(fr:List Nat)(N:List Str):Prop where
 kind:sc.kind=.function
 vR:∀ y∈sc.names,y.2≠.cell
 names:∀ y∈sc.names,y.2=.local->sc.names.lookup y.1=some .local
 Bh:closureFor sc X.env=pure cl
 sub:∀ y c,cl.lookup y=some c->X.env.cells.lookup y=some c
 has:∀ y,((relabel sc X.env).names.lookup y=some .cell\/(relabel sc X.env).names.lookup y=some .free)->∃ c,cl.lookup y=some c
 Xt:sc.names.lookup x=some .local
 L4:sc.names.lookup y0=some .local
 nd:N.Nodup
 N0:N=x::y0::fr.map fun j=>X.N.getD j x
 Xg:∀ j∈fr,∃ y,X.N[j]?=some y/\X.env.kindOf y=some .cell/\((relabel sc X.env).names.lookup y=some .cell\/(relabel sc X.env).names.lookup y=some .free)
section
variable{sc:Scope}{C:Addr}{y0:Str}{N:List Str}
def Hq(I:TQ X TF Z H s)(S:kY X sc cl x y0 fr N)(hf:∀ b∈fp,l7 X TF H b)(VC:∀ b∈fp,b < s.heap.objs.size)(hC:s.heap.objs.size<=C) : (dA X sc cl C N s H fp (X.pn++TF)).Ok where
 mod:=I.ok.mod
 kind:=S.kind
 glob:=I.ok.glob
 blt:=I.ok.blt
 above:=hC
 inj:=fun n z c h1 h2=>I.ok.inj n z c (S.sub n c h1) (S.sub z c h2)
 has:=S.has
 cab:=fun _ _ h=>by cases h
 hd:=I.ok.hd
 frames:=I.ok.frames
 stk:=.inl rfl
 exf:=fun b hb=>⟨Ρ (Φ (VC b hb) hC),fun n c e=>(hf b hb).2.2.2.2.1 n c (S.sub n c e)⟩
 bs:=I.bs
 bsz:=ϒ I.ok.bsz I.sz
 BL:=fun b o e hb=>by
  rcases(hf b hb).2.2.2.1 with z|z
  ·exact I.ok.BL b o e z
  ·exact absurd (Φ (Μ e) (ϒ I.ok.bsz z)) (ϝ _)
 Fj:=fun b hb hm=>by
  rcases Α.mp (I.rZ b hm) with z|z
  ·exact(hf b hb).2.1 z
  ·exact(hf b hb).2.2.1 z
 pG:=I.stack
 frf:=I.AS
def Fd(I:TQ X TF Z H s)(S:kY X sc cl x y0 fr N)(hf:∀ b∈fp,l7 X TF H b)(VC:∀ b∈fp,b < s.heap.objs.size)(hC:s.heap.objs.size<=C){h1:Heap}{t1:Nat}{m0:q0C}(hn:h1.Ns C m0)(hk:∀ b o,s.heap.get? b=some o->h1.get? b=some o):TQ (dA X sc cl C N s H fp (X.pn++TF)) [] (none::none::bC fr Z) H {s with heap:=h1,toks:=t1}:=by
 refine⟨Hq I S hf VC hC,rfl,I.bare,Un.kept hk,⟨m0,hn,fun i y v e1 e2 e3=>?_⟩,fun y c e=>?_,I.TY.fresh hC,fun y c e=>I.kK y c (S.sub y c e),fun p hp=>?_,I.TY.kept hk,?_⟩
 ·have U6:N[i]?=some y:=e1;rw[S.N0] at U6
  match i,U6,e2 with
  | 0,_,e2=>exact absurd (show(some (none:Option V))=some (some v) from e2) (by simp)
  | 1,_,e2=>exact absurd (show(some (none:Option V))=some (some v) from e2) (by simp)
  | j+2,U6,e2 =>
   have UM:(fr.map fun j=>X.N.getD j x)[j]?=some y:=U6;have VZ:(bC fr Z)[j]?=some (some v):=e2;unfold bC at VZ;rw[ϔ] at UM VZ;cases q:fr[j]? with
   | none=>rw[q] at UM;cases UM
   | some k =>
    rw[q] at UM VZ;have ey:X.N.getD k x=y:=ϖ UM;have ev:(Z[k]?).join=some v:=ϖ VZ;obtain⟨y',hy,UO,WJ⟩:=S.Xg k (Υ q);have eyy:y=y':=by
     rw[<- ey,Ε7,hy];rfl
    subst eyy;have ev':Z[k]?=some (some v):=by
     cases z:Z[k]? with
     | none=>rw[z] at ev;cases ev
     | some o =>
      rw[z] at ev;have ev2:o=some v:=ev;rw[ev2]
    obtain⟨m,_,hl⟩:=I.loc;obtain⟨u,r,l⟩:=hl k y v hy ev' (.inr (.inl UO));refine⟨u,r,.inr ⟨WJ,?_⟩⟩;rcases l with⟨z,_⟩|⟨_,c,hc,o,ho,hd⟩
    ·rw[UO] at z;cases z
    ·obtain⟨c',WB⟩:=S.has y WJ;have z:=S.sub y c' WB;rw[hc] at z;cases z;exact⟨c,WB,o,hk c o ho,hd⟩
 ·obtain⟨v,o,ho,hd⟩:=I.cell y c (S.sub y c e);exact⟨v,o,hk c o ho,hd⟩
 ·have ZJ:p∈X.pn++TF:=by
   have z:p∈(X.pn++TF)++[]:=hp;simpa using z
  obtain⟨e,n,ne,nf,d⟩:=I.pin p ZJ;exact⟨hk _ _ e,n,Ρ (Φ (Μ e) hC),nostk I ne nf,d⟩
 ·show(none::none::bC fr Z).length=N.length;rw[S.N0];simp[bC]
end
@[irreducible] def xP(K:q0B)(wi:TI)(fr:List Nat)(tc:TT)(te:TE):TE:=fun Z H Q=>wi Z H fun J H1=>∃ W:Nat->Nat->List V->Hp->Prop,(∃ m,W 0 m [] H1)/\∀ i m xs H,W i m xs H->xs.length<=1000000 /\
  ((J.stop i H/\∀ p,H p=none->Q (.ref p) (TH H p (.lst xs))) \/
   (J.go i H/\∀ v H',J.VM i H v H'->∃ p y y2,v=.ref p/\iR K H' p [y,y2]/\tc (some y::some y2::bC fr Z) H' fun b H2=>if b=true then te (some y::some y2::bC fr Z) H2 (fun z H3=>∃ m',m' < m/\W (i+1) m' (xs++[z]) H3) else ∃ m',m' < m/\W (i+1) m' xs H2))
section
variable{sc:Scope}{y0:Str}{N:List Str}{elt iter:Expr}{px py tp:Pos}{tk:Nat}{ifs:List Expr}{wi:TI}{tc:TT}{te:TE}
def Bk(hc:X.calm=true)(hx:∀ e s,¬ X.xe e s)(S:kY X sc cl x y0 fr N)(hb:∀ C s H ex pn,Xc (dA X sc cl C N s H ex pn) ifs tc/\PE (dA X sc cl C N s H ex pn) elt te){Q:VK}(I:TQ X TF Z H s)(T:Turn X.prog X.w X.K (.Tuple [.Name x px,.Name y0 py] tk tp) J fp it tn)(st:tn 0 s.heap)(hf:∀ b∈fp,l7 X TF H b)(w0:W 0 m0 [] H)(turn:∀ i m xs H,W i m xs H->xs.length<=1000000 /\ ((J.stop i H/\∀ p,H p=none->Q (.ref p) (TH H p (.lst xs))) \/ (J.go i H/\∀ v H',J.VM i H v H'->∃ p y y2,v=.ref p/\iR X.K H' p [y,y2]/\tc (some y::some y2::bC fr Z) H' fun b H2=>if b=true then te (some y::some y2::bC fr Z) H2 (fun z H3=>∃ m',m' < m/\W (i+1) m' (xs++[z]) H3) else ∃ m',m' < m/\W (i+1) m' xs H2)))(fin:∀(D C:Addr) (s':Shared) (m':q0C) (H':Hp),s'.heap.Ns C m'->l7 X TF H' C->(∀ h',Heap.SameBut C s'.heap h'->TQ X TF Z H' {s' with heap:=h'})->Q (.ref D) H'->RR (.ref D) C (.ok .next) s') : wpAny (model X.prog X.w) X.A (newList []) (fun acc s₃=>wpAny (model X.prog X.w) X.A (newFunctionEnv sc X.env.globals cl [] X.env.qual none .none (some X.env)) (fun Vf s₄ => codeAny (model X.prog X.w) X.A (.compStart (.ListComp elt [⟨.Tuple [.Name x px,.Name y0 py] tk tp,iter,ifs,0⟩] sc pos) 0 (.ref it) acc {Vf with scope:=relabel sc X.env}) (RR acc Vf.locals) s₄) E s₃) E s :=
  sC (τ0:=none::none::bC fr Z) (O:=fun σ1=>∃ v0 v1,σ1=v0::v1::bC fr Z) (g:=KU X.K 2 (Ec (jV 0) (Ec (jV 1) KR))) hc hx S.vR S.kind S.sub
    (fun C s H ex pn=>IY hc (fR (tU (i:=0) S.nd (show N[0]?=some x by rw[S.N0];rfl) (.inl (Δ9 S.Xt)) (.inr (Δ9 S.Xt))) (fR (tU (i:=1) S.nd (show N[1]?=some y0 by rw[S.N0];rfl) (.inl (Δ9 S.L4)) (.inr (Δ9 S.L4))) tV))) hb I T st hf
    (fun C h1 t1 m0 VC hC hn hk=>Fd I S hf VC hC hn hk) ⟨_,_,rfl⟩ w0
    (fun i m xs H w=>let ⟨l,z⟩:=turn i m xs H w;⟨l,z.imp id fun⟨g,h⟩=>⟨g,fun v H' hy σ1 ⟨v0,v1,e⟩=>by
      subst e;obtain⟨pp,y,y2,rfl,hpp,hs⟩:=h v H' hy;exact⟨pp,[y,y2],rfl,hpp,rfl,_,_,rfl,_,_,rfl,rfl,⟨_,_,rfl⟩,hs⟩⟩⟩) fin
end
def kY.of{sc:Scope}{y0:Str}{N M:List Str}(S:fF X sc cl x fr M)(L4:sc.names.lookup y0=some .local)(nd:N.Nodup)(N0:N=x::y0::fr.map fun j=>X.N.getD j x):kY X sc cl x y0 fr N :=
 ⟨S.kind,S.vR,S.names,S.Bh,S.sub,S.has,S.Xt,L4,nd,N0,S.Xg⟩
noncomputable def lc2(K:q0B)(J:It)(fr:List Nat)(tc:TT)(te:TE)(Z:St)(H:Hp)(Q:VK):Prop:=∃ W:Nat->Nat->List V->Hp->Prop,(∃ m,W 0 m [] H)/\∀ i m xs H,W i m xs H->xs.length<=1000000 /\
  ((J.stop i H/\∀ p,H p=none->Q (.ref p) (TH H p (.lst xs))) \/
   (J.go i H/\∀ v H',J.VM i H v H'->∃ p y y2,v=.ref p/\iR K H' p [y,y2]/\tc (some y::some y2::bC fr Z) H' fun b H2=>if b=true then te (some y::some y2::bC fr Z) H2 (fun z H3=>∃ m',m' < m/\W (i+1) m' (xs++[z]) H3) else ∃ m',m' < m/\W (i+1) m' xs H2))
section
variable{tc:TT}{te:TE}{Q:VK}{as:TA}
end
section
variable{o:Expr}{to:TE}{apos T9:Pos}
end
section
variable{Q:VK}{p:Addr}{to:TE}
end
section
variable{Q:VK}{p b:Addr}
end
section
variable{sc:Scope}{y0:Str}{N:List Str}{elt iter:Expr}{px px0 tp:Pos}{tk:Nat}{ifs:List Expr}{wi:TI}{tc:TT}{te:TE}
theorem B7{py WN:Pos}(hc:X.calm=true)(hx:∀ e s,¬ X.xe e s)(S:kY X sc cl x y0 fr N)(hi:PI X (.Tuple [.Name x px,.Name y0 px0] tk tp) iter wi)(hb:∀ C s H ex pn,Xc (dA X sc cl C N s H ex pn) ifs tc/\PE (dA X sc cl C N s H ex pn) elt te)(hN:X.N.Nodup)(hy:X.N[i]?=some y)(hl:Loc X.env.scope y)(hsw:swapsWith (.ListComp elt [⟨.Tuple [.Name x px,.Name y0 px0] tk tp,iter,ifs,0⟩] sc pos) (some (.Name y py)) WN.line X.env=pure true:=by rfl)(hs:∀ v,foldedSetIterable iter X.env v=pure v:=by intro _;rfl)(hf:X.fn y=true\/X.env.scope.names.lookup y=some .local:=by first|exact .inl rfl|exact .inr rfl|assumption) : PS X (.Assign [.Name y py] (.ListComp elt [⟨.Tuple [.Name x px,.Name y0 px0] tk tp,iter,ifs,0⟩] sc pos) WN) (GF (xP X.K wi fr tc te) (jV i)):=by
 intro TF s Z H D I h;have h:xP X.K wi fr tc te Z H (fun x H1=>jV i x Z H1 D.nx):=h;unfold xP at h;rw[exec_Assign_Name_used _ _ _ _ hsw];refine Β (wpAny_standAt (Β ?_));show wpAny _ X.A (do let _ <- comprehension (.ListComp elt [⟨.Tuple [.Name x px,.Name y0 px0] tk tp,iter,ifs,0⟩] sc pos) sc X.env _ (newList []) false (eval iter X.env) (some (assign (.Name y py) X.env))) _ _ s;refine Β (Β5 (wpAny_comprehension_free (use:=some (assign (.Name y py) X.env)) (Q:=fun _ s'=>SP X TF D .next s') rfl hs S.Bh S.kind S.names
  (thn (hi TF s Z H _ I h) fun v s1 h1=>thn h1 fun ZT s2 h2=>?_)) (fun _ s' hq=>Θ (Θ hq)) fun _ _ e=>e)
 obtain⟨it,fp,tn,J,H2,e,I2,T,VG,f2,W,⟨m0,w0⟩,turn⟩:=h2;subst e;refine Bk (Q:=fun x H1=>jV i x Z H1 D.nx) (RR:=fun acc C=>compPost (model X.prog X.w) X.A X.xe (some (assign (.Name y py) X.env)) (fun _ s'=>SP X TF D .next s') acc C) hc hx S hb I2 T VG f2 w0 turn ?_;intro D' C s' m' H' hn fC WG q;show wpAny _ X.A (assign (.Name y py) X.env (.ref D')) _ _ _;have I':TQ X TF Z H' s':=WG s'.heap (Heap.SameBut.refl ..);refine wpAny_assign_Name (r8 (v:=.ref D') I' hN hy hl rfl (fun YE I'' ⟨a,hsa,ha⟩=>?_) hf);obtain⟨f0,f1,f2',f3,f4,f5⟩:=fC;have hCa:C≠a:=fun z=>by
  rcases ha with ha|ha
  ·exact f1 (z.trans ha)
  ·exact f4 y a ha z.symm
 refine⟨m',hn.sameBut hsa hCa,fun h' VQ=>?_⟩;exact⟨Z.set i (some (.ref D')),H',I''.turned (t':=YE.toks) (fun b o Ux e=>(VQ.2 b Ux).trans e) f0 f1 f3 f4 f5,q⟩
end
section
variable{a b:TS}{D:Ends}
def cG(h:∀ R:St->Hp->Prop,(∀ Z' H',b D Z' H'->R Z' H')->a {D with nx:=R} Z H):DB a b D Z H:=h (b D) fun _ _ x=>x
end
section
variable{td ty tv:TE}{VJ:List (TE×TE)}{tk:TE}{Q:VK}{D:Ends}
def HH:pA [] Z H R=R [] H:=rfl
def Ku:pA ((tk,tv)::VJ) Z H R=tk Z H fun x H1=>tv Z H1 fun y H2=>pA VJ Z H2 fun ps H3=>R ((x,y)::ps) H3:=rfl
end
section
variable{W:World}{dd:Addr}{es:Array DictEntry}{ep:Nat}
end
section
open PySem.W
variable{p:Array Nat}
end
section
open PySem.W
variable{W:World}
end
section
variable{W:World}{b:Addr}{es fs:Array DictEntry}{ep fp:Nat}
end
section
variable{D:Ends}{g:TG}{tb:TS}{as:TA}{Q:VK}{b:Addr}{p:Addr}
def NB{VJ:List (TE×TE)}:MH VJ Z H Q = ∀ p,H p=none->pA VJ Z (TH H p (.dK [])) fun ps H2=>H2 p=some (.dK [])/\∃ kvs:List (Key×V),ps=kvs.map (fun kv=>(kV kv.1,kv.2))/\kvs.length<=15/\Q (.ref p) (TH H2 p (.dK (eZ [] kvs))):=rfl
end
section
variable{Q:VK}{x:V}{p:Addr}{i:Int}{z:Str}
end
def RF(ta tb:TE):TE:=fun Z H Q=>ta Z H fun x H1=>iY (xR H1 x) fun c=>if c=true then Q x H1 else tb Z H1 Q
section
variable{a b:Expr}{rest:List Expr}{ta tb:TE}
def OZ(ha:PE X a ta)(hb:PE X (.BoolOp .Or (b::rest) pos) tb):PE X (.BoolOp .Or (a::b::rest) pos) (RF ta tb):=by
 intro TF s Z H Q I h;refine BoolOp_or (thn (ha TF s Z H _ I h) fun v s1 ⟨x,H1,I1,r1,q1⟩=>?_);obtain⟨k,e,q⟩:=dQ q1;refine thn (DD TF s1 Z H1 x v (fun c H2=>c=k/\H2=H1) I1 r1 ⟨k,AW e,rfl,rfl⟩) fun c s2 ⟨H2,I2,e1,e2⟩=>?_;subst e1 e2;cases c with
 | true=>exact⟨x,_,I2,r1,q⟩
 | false=>exact hb TF s2 Z _ Q I2 q
end
mutual
example:=[ns.map V.int]
def IG(x:V)(k:Int->Prop)(_u:Tg k:=()):Prop:=match x with
 | .TK=>k 0
 | .int i=>k i
 | _=>False
def Rz(ta:TE):TE:=fun Z H Q=>ta Z H fun x H1=>IG x fun i=>Q (.int i) H1
def AD{a b:Expr}{rest:List Expr}{ta:TE}(ha:PE X a ta)(hb:PE X (.BoolOp .Or (b::rest) pos) (tC (.int 0))):PE X (.BoolOp .Or (a::b::rest) pos) (Rz ta):=by
 intro TF s Z H Q I h;refine BoolOp_or (thn (ha TF s Z H _ I h) fun v s1 ⟨x,H1,I1,r1,q1⟩=>?_);have hk:∃ k,xR H1 x=some k/\(if k=true then Q x H1 else Q (.int 0) H1):=by
  cases x with
  | TK=>exact⟨false,rfl,q1⟩
  | int i =>
   refine⟨i !=0,rfl,?_⟩;by_cases hi:i=0
   ·subst hi;exact q1
   ·rw[if_pos (by simpa using hi)];exact q1
  | _=>exact q1.elim
 obtain⟨k,e,q⟩:=hk;refine thn (DD TF s1 Z H1 x v (fun c H2=>c=k/\H2=H1) I1 r1 ⟨k,AW e,rfl,rfl⟩) fun c s2 ⟨H2,I2,e1,e2⟩=>?_;subst e1 e2;cases c with
 | true=>exact⟨x,_,I2,r1,q⟩
 | false=>exact hb TF s2 Z _ Q I2 q
def B5(i:Int)(ns:List Int):Option Nat:=ns.findIdx? fun j=>decide (j=i)
def PK:V->List V->Hp->VK->Prop:=fun x vs H Q=>bH x fun l=>on1 vs fun y=>gZ y fun i=>∃ ns:List Int,H l=some (.lst 0e0)/\iY (B5 i ns) fun k=>Q .TK (TH H l (.lst ((ns.eraseIdx k).map V.int)))
theorem xU:∀ {ns:List Int} {us:List Value},TU 0e0 us->∀(j:Nat) (h:j < us.length) (h':j < ns.length),∃ k:Tok,us[j]=.int ns[j] k
 | [],_,.nil,j,h,_=>absurd h (by simp)
 | n::ns,u::us,.cons r t,0,_,_=>r
 | n::ns,u::us,.cons r t,j+1,h,h'=>xU (ns:=ns) (us:=us) t j (by simpa using h) (by simpa using h')
theorem uQ:∀(ns:List Int) (k:Nat),(ns.map V.int).eraseIdx k=(ns.eraseIdx k).map V.int
 | [],_=>rfl
 | _::_,0=>rfl
 | n::ns,k+1=>by simp only[ϓ,List.eraseIdx_cons_succ,uQ ns k]
end
section
theorem Iw:Mb X "list.remove" PK:=fun TF s Z H x vs v us Q I rx rv h=>by
 obtain⟨l,rfl,h1⟩:=aU h;obtain⟨y,rfl,h2⟩:=jJ h1;obtain⟨i,rfl,ns,hH,h3⟩:=eP h2;obtain⟨k,ek,q⟩:=dQ h3;cases rx;obtain⟨u,rfl,ru⟩:=rv.one;obtain⟨t,rfl⟩:=ru;obtain⟨z,TR,n,r,hl,e⟩:=I.Ap hH;have hl':TR.length=ns.length:=by rw[<- r.length,Γ]
 obtain⟨hk,hk1,hk2⟩:=List.findIdx?_eq_some_iff_getElem.mp ek;have isI:∀(j:Nat) (h:j < TR.length),∃ tk:Tok,TR[j]=.int (ns[j]'(by omega)) tk:=fun j h=>xU r j h (by omega);obtain⟨g,hg⟩:∃ g:Value->Bool,g=fun y=>(match y with | .int a _=>a==i|_=>false):=⟨_,rfl⟩;refine call_meets PySem.F.slot_list_remove ⟨_,e,rfl⟩ PySem.F.entry_list_remove (PySem.F.args_list_remove_2 _ _)
  (MeetsSeq.list_remove l TR.toArray n (.int i t) g (fun y hy=>?_) k (by simp only[Ε];omega) ?_ ?_ (by rw[Ε];omega)) ⟨e,?_⟩
 ·obtain⟨j,hj,rfl⟩:=Array.mem_iff_getElem.mp hy;obtain⟨tk,et⟩:=isI j (by simpa using hj);rw[List.getElem_toArray,et,hg];exact MeetsSeq.EqGives.int _ _ _ _
 ·obtain⟨tk,et⟩:=isI k (by omega);rw[List.getElem_toArray,et,hg];simpa using hk1
 ·intro m hm Uu;obtain⟨tk,et⟩:=isI m (by simpa using hm);rw[List.getElem_toArray,et,hg];simpa using hk2 m Uu
 ·refine⟨.TK,_,I.vJ (its':=TR.eraseIdx k) hH e ?_ ?_ ?_,rfl,q⟩
  ·show TR.toArray.eraseIdxIfInBounds k=(TR.eraseIdx k).toArray;rw[List.eraseIdxIfInBounds_toArray]
  ·rw[show(ns.eraseIdx k).map V.int=(ns.map V.int).eraseIdx k by rw[uQ]];exact r.eraseIdx k
  ·have:=rB ns k;simp only[Γ] at this ⊢;omega
end
section
mutual
example:=[]
variable{Q:VK}{ta tb:TE}{i:Int}
def Qw:RF ta tb Z H Q=ta Z H fun x H1=>iY (xR H1 x) fun c=>if c=true then Q x H1 else tb Z H1 Q:=rfl
def Qv:Rz ta Z H Q=ta Z H fun x H1=>IG x fun i=>Q (.int i) H1:=rfl
def Qq{k:Int->Prop}{u:Tg k}:IG (.int i) k u=k i:=rfl
def Qr{k:Int->Prop}{u:Tg k}:IG .TK k u=k 0:=rfl
def QA:PK (.ref l) [.int i] H Q = ∃ ns:List Int,H l=some (.lst (ns.map V.int))/\iY (B5 i ns) fun k=>Q .TK (TH H l (.lst ((ns.eraseIdx k).map V.int))):=rfl
end
end
mutual
example:=[(by omega),lo+hi,(by simpa using XF)]
def Rising(l:List Nat):Prop:=l.Pairwise (· < ·)
theorem uB(xs:Array Nat)(j:Nat)(hr:Rising xs.toList):∀(fuel lo hi:Nat),hi - lo<=fuel->lo<=hi->hi<=xs.size -> (∀ i (h:i < xs.size),i < lo->xs[i] < j)->(∀ i (h:i < xs.size),hi<=i->j<=xs[i]) -> (∀ i (h:i < xs.size),i < SetTable.below.go xs j fuel lo hi->xs[i] < j)/\(∀ i (h:i < xs.size),SetTable.below.go xs j fuel lo hi<=i->j<=xs[i])/\SetTable.below.go xs j fuel lo hi<=xs.size
 | 0,lo,hi,hf,hl,hh,h1,h2=>by
  have:lo=hi:=by omega
  subst this;exact⟨h1,h2,hh⟩
 | fuel+1,lo,hi,hf,hl,hh,h1,h2=>by
  have mono:∀ i k (hi:i < xs.size) (hk:k < xs.size),i < k->xs[i] < xs[k]:=fun i k hi hk hik=>by
   have:=Ζ0.mp hr i k (by simpa using hi) (by simpa using hk) hik;simpa using this
  unfold SetTable.below.go;by_cases c:lo < hi
  ·rw[if_pos c];have hm:1e0 / 2 < xs.size:=by omega
   have em:xs.getD (1e0 / 2) j=xs[1e0 / 2]:=by simp[Array.getD,hm]
   simp only[em];by_cases d:xs[1e0 / 2] < j
   ·rw[if_pos d];refine uB xs j hr fuel _ hi 0e0 0e0 hh (fun i h Uu=>?_) h2;by_cases e:i=1e0 / 2
    ·subst e;exact d
    ·exact Nat.lt_trans (mono i _ h hm 0e0) d
   ·rw[if_neg d];refine uB xs j hr fuel lo _ 0e0 0e0 0e0 h1 (fun i h hle=>?_);by_cases e:i=1e0 / 2
    ·subst e;omega
    ·have:=mono _ i hm h 0e0;omega
  ·rw[if_neg c];have:lo=hi:=by omega
   subst this;exact⟨h1,h2,hh⟩
theorem oU(xs:Array Nat)(j:Nat)(hr:Rising xs.toList):(∀ i (h:i < xs.size),i < SetTable.below xs j->xs[i] < j)/\(∀ i (h:i < xs.size),SetTable.below xs j<=i->j<=xs[i])/\SetTable.below xs j<=xs.size :=
 uB xs j hr xs.size 0 xs.size 0e0 0e0 (Ι _) (fun i h Uu=>absurd Uu 0e0) (fun i h hle=>absurd h 0e0)
theorem x9{xs:Array Nat}(hr:Rising xs.toList)(hn:¬ xs[SetTable.below xs j]?=some j):Rising (SetTable.insertAt xs (SetTable.below xs j) j).toList:=by
 obtain⟨h1,h2,h3⟩:=oU xs j hr;rw[SetTable.toList_insertAt];generalize hb:SetTable.below xs j=b at *;unfold Rising at *;have split:=List.pairwise_append.mp (show(xs.toList.take b++xs.toList.drop b).Pairwise (· < ·) by rw[List.take_append_drop];exact hr);have lt:∀ x∈xs.toList.take b,x < j:=fun x hx=>by
  obtain⟨i,hi,rfl⟩:=List.mem_iff_getElem.mp hx;have XF:i < b/\i < xs.size:=by simpa[Nat.lt_min] using hi
  have:=h1 i XF.2 XF.1;simpa using this
 have gt:∀ x∈xs.toList.drop b,j < x:=fun x hx=>by
  obtain⟨i,hi,rfl⟩:=List.mem_iff_getElem.mp hx;have XF:b+i < xs.size:=by simp at hi;omega
  have hle:=h2 (b+i) XF 0e0;have UI:xs[b+i]≠j:=fun e=>by
   by_cases hz:i=0
   ·subst hz;exact hn (by rw[Δ4 2e0];simpa using e)
   ·have Ux:b < xs.size:=by omega
    have h0:=h2 b Ux (Ι _);have:=Ζ0.mp hr b (b+i) (by simpa using Ux) 2e0 0e0;simp at this;omega
  have:xs.toList.drop b=xs.toList.drop b:=rfl;simp only[List.getElem_drop,Array.getElem_toList];omega
 refine List.pairwise_append.mpr ⟨split.1,Γ2.mpr ⟨gt,split.2.1⟩,fun x hx y hy=>?_⟩;rcases Α.mp hy with rfl|hy
 ·exact lt x hx
 ·exact split.2.2 x hx y hy
theorem uR{α:Type}:∀ {l:List α} {i:Nat} (h:i < l.length),(l[i]::l.eraseIdx i).Perm l
 | a::l,0,_=>by simp
 | a::l,i+1,h=>by
  have:=uR (l:=l) (i:=i) (by simpa using h);simp only[List.getElem_cons_succ,List.eraseIdx_cons_succ];exact(List.Perm.swap _ _ _).trans (this.cons a)
theorem Ex{α:Type}(next:Nat->Nat):∀(fuel k:Nat) (left:List α) (out:Array α),fuel=left.length->∃ Z7:Array α,pickOrder.go next fuel k left out=Z7/\Z7.toList.Perm (out.toList++left)
 | 0,k,left,out,h=>by
  have:left=[]:=List.length_eq_zero_iff.mp h.symm;subst this;exact⟨out,by simp[pickOrder.go],by simp⟩
 | fuel+1,k,left,out,h=>by
  have hp:0 < left.length:=by omega
  have hi:next k % left.length < left.length:=Nat.mod_lt _ hp
  obtain⟨o,e,p⟩:=Ex next fuel (k+1) (left.eraseIdx (next k % left.length)) (out.push left[next k % left.length]) (by rw[List.length_eraseIdx_of_lt hi];omega)
  refine⟨o,?_,p.trans ?_⟩
  ·rw[pickOrder.go,ϐ hi];exact e
  ·rw[Array.toList_push,List.append_assoc];refine List.Perm.append_left _ ?_;exact uR hi
def Gn{α:Type}(next:Nat->Nat)(xs:Array α):(pickOrder next xs).toList.Perm xs.toList:=by
 obtain⟨o,e,p⟩:=Ex next xs.size 0 xs.toList #[] (by simp)
 unfold pickOrder;rw[e];simpa using p
structure oB(w:World)(t:SetTable):Prop where
 rise:Rising t.place.toList
 led:w.params.followText "set-order"=true\/t.led=true
 dum:t.dummies = #[]
 msk:t.mask=7
 pln:t.plain=true
def Bu(j:Nat):SetTable.has #[] j=false:=by simp[SetTable.has]
def Dr(h:t.slot j=.empty):¬ t.place[SetTable.below t.place j]?=some j:=fun e=>by
 unfold SetTable.slot at h;simp only[e,beq_self_eq_true,Γ3] at h;cases h
def xF(hd:t.dummies = #[])(j:Nat):t.slot j=.empty\/(∃ i,t.slot j=.live i/\j∈t.place.toList):=by
 unfold SetTable.slot;rw[hd,Bu];by_cases h:t.place[SetTable.below t.place j]?=some j
 ·refine .inr ⟨SetTable.below t.place j,by simp only[h,beq_self_eq_true,Γ3],?_⟩;rw[<- Δ2] at h;exact Υ h
 ·refine .inl ?_;have:(t.place[SetTable.below t.place j]?==some j)=false:=by simpa using h
  simp[this]
theorem free4{l:List Nat}(h:l.length<=3):∃ j,j < 8/\j∉l:=by
 match l,h with
 | [],_=>exact⟨0,by decide,by simp⟩
 | [a],_=>by_cases h0:a=0;exact⟨1,by decide,by simp;omega⟩;exact⟨0,by decide,by simp;omega⟩
 | [a,b],_ =>
  by_cases h0:a=0\/b=0
  ·by_cases h1:a=1\/b=1
   ·exact⟨2,by decide,by simp;omega⟩
   ·exact⟨1,by decide,by simp;omega⟩
  ·exact⟨0,by decide,by simp;omega⟩
 | [a,b,c],_ =>
  by_cases h0:a=0\/b=0\/c=0
  ·by_cases h1:a=1\/b=1\/c=1
   ·by_cases h2:a=2\/b=2\/c=2
    ·exact⟨3,by decide,by simp;omega⟩
    ·exact⟨2,by decide,by simp;omega⟩
   ·exact⟨1,by decide,by simp;omega⟩
  ·exact⟨0,by decide,by simp;omega⟩
def Yl(i:Nat):Nat:=(i * 5+1) % 8
def hops:Nat->Nat->Nat
 | 0,i=>i
 | m+1,i=>hops m (Yl i)
theorem Ib:∀ i,i < 8->∀ j,j < 8->∃ m,m < 8/\hops m i=j:=by decide
end
section
variable(hd:t.dummies = #[])(hm:t.mask=7){h:Int}
abbrev prb(i pt:Nat):SetTable.Probe:=⟨i,0,i,pt,none⟩
include hd hm
mutual
example:=[(fun _=>h+1),prb i pt,(by omega),(by decide),(Nat.mod_lt _ 3e0),(i * 5+1+pt / 32),3e0,SetTable.bits h % 8,SetTable.bits h,.empty j none]
theorem adv(i pt:Nat):t.advance 1e0=prb (5e0 % 8) (pt / 32):=by
 have:5e0 % 8 < 8:=Nat.mod_lt _ 6e0;simp only[SetTable.advance,SetTable.leap,hm,SetTable.runEnd];simp
 try omega
theorem Ee(fuel i pt:Nat):(t.slot i=.empty/\SetTable.probe.go t 0e0 h (fuel+1) 1e0=some (.empty i none))\/SetTable.probe.go t 0e0 h (fuel+1) 1e0=SetTable.probe.go t 0e0 h fuel (prb (5e0 % 8) (pt / 32)):=by
 rcases xF hd i with e|⟨k,e,_⟩
 ·refine .inl ⟨e,?_⟩;unfold SetTable.probe.go;simp only[e]
 ·refine .inr ?_
  conv=>lhs;unfold SetTable.probe.go
  simp only[e];rw[if_neg (by simp;try omega),adv hd hm]
theorem Ef:∀(m fuel i:Nat),m < fuel->i < 8->t.slot (hops m i)=.empty->∃ j,t.slot j=.empty/\SetTable.probe.go t 0e0 h fuel (prb i 0)=some 9e0
 | 0,fuel+1,i,_,hi,he=>by
  refine⟨i,he,?_⟩;have e:t.slot i=.empty:=he;unfold SetTable.probe.go;simp only[e]
 | m+1,fuel+1,i,hf,hi,he=>by
  rcases Ee hd hm (h:=h) fuel i 0 with⟨e,g⟩|g
  ·exact⟨i,e,g⟩
  ·rw[g];exact Ef m fuel _ 2e0 4e0 he
theorem HZ(hp:t.place.size<=3):∀(d fuel i pt:Nat),pt < 32 ^ d->d+8<=fuel->i < 8->∃ j,t.slot j=.empty/\SetTable.probe.go t 0e0 h fuel 1e0=some 9e0
 | 0,fuel,i,pt,h1,h2,hi=>by
  have:pt=0:=by simpa using h1
  subst this;obtain⟨j,hj,hn⟩:=free4 (l:=t.place.toList) (by simpa using hp);obtain⟨m,hm',e⟩:=Ib i hi j hj;refine Ef hd hm m fuel i 2e0 hi ?_;rw[e];rcases xF hd j with z|⟨_,_,z⟩
  ·exact z
  ·exact absurd z hn
 | d+1,0,i,pt,h1,h2,hi=>absurd h2 2e0
 | d+1,fuel+1,i,pt,h1,h2,hi=>by
  rcases Ee hd hm (h:=h) fuel i pt with⟨e,g⟩|g
  ·exact⟨i,e,g⟩
  ·rw[g];exact HZ hp d fuel _ _ (by rw[Nat.pow_succ] at h1;omega) 2e0 4e0
theorem Fo(hp:t.place.size<=3):∃ j,t.slot j=.empty/\t.freeSlot h=some (j,false):=by
 have hb:SetTable.bits h < 32 ^ 13:=by
  unfold SetTable.bits;have h1:=Int.emod_lt_of_pos h (show(0:Int) < 2 ^ 64 by decide);have h2:=Int.emod_nonneg h (show(2 ^ 64:Int)≠0 by decide);have:(32:Nat) ^ 13=36893488147419103232:=by decide
  omega
 have hs:t.probeStart h=prb 7e0 8e0:=by
  unfold SetTable.probeStart SetTable.runEnd;rw[hm];have:SetTable.bits h % 8 < 8:=Nat.mod_lt _ 6e0;simp
  try omega
 obtain⟨j,e,g⟩:=HZ hd hm (h:=h) hp 13 (10 * SetTable.turns t.mask) 7e0 8e0 hb (by rw[hm];decide) 4e0;refine⟨j,e,?_⟩;unfold SetTable.freeSlot SetTable.probe;rw[hs,g];rfl
end
end
mutual
example:=[Int×Value]
theorem Le(T:oB w t)(es:Array 0e0)(h:Int)(x:Value)(hp:t.place.size<=3)(hf:t.place.size=es.size):oB w (layNew t es h x).2.1:=by
 obtain⟨slot,hs,e⟩:=Fo T.dum T.msk (h:=h) hp;have Tp:oB w (t.put slot).1:=by
  refine⟨x9 T.rise (Dr hs),T.led,?_,T.msk,T.pln⟩;show(if SetTable.has t.dummies slot=true then _ else t.dummies) = #[];rw[T.dum,Bu];rfl
 unfold layNew;rw[e];show oB w ((t.put slot).1.orStandIn _);have h1:=(SetTable.insertAt_perm es (t.put slot).2 (h,x)).length_eq;rw[Γ7,Γ7,Array.size_push] at h1;have h2:(t.put slot).1.place.size=t.place.size+1:=by
  have:=(SetTable.insertAt_perm t.place (SetTable.below t.place slot) slot).length_eq;rw[Γ7,Γ7,Array.size_push] at this;exact this
 have fit:(t.put slot).1.fits (SetTable.insertAt es (t.put slot).2 (h,x)).size=true:=by
  unfold SetTable.fits SetTable.fill;rw[Tp.dum,h2,h1,Tp.msk,hf];simp;omega
 unfold SetTable.orStandIn;rw[if_pos fit];exact Tp
def BC:Value->Int
 | .int i _=>i
 | _=>0
def qR(P:Program)(w:World)(a:Addr)(ns:List Int)(h:Heap):Prop:=∃(o:Obj) (es:Array 0e0) (ep:Nat) (t:SetTable),h.get? a=some o/\o.ExactSet/\o.data=.set es ep t/\ElemsOf (intKind P w) es.toList/\es.size < scanBound/\t.fits es.size=true/\oB w t/\(∀ e∈es.toList,∃ i tk,e.2=Value.int i tk)/\(es.toList.map fun e=>BC e.2).Perm ns
def qR.keep{h':Heap}(x:qR P w a ns h)(k:∀ o,h.get? a=some o->h'.get? a=some o):qR P w a ns h':=by
 obtain⟨o,es,ep,t,e,r⟩:=x;exact⟨o,es,ep,t,k o e,r⟩
end
section
def OD{i:Int}:(intKind P w).is i v=true↔∃ tk,v=.int i tk:=by
 constructor
 ·intro h;cases v with
  | int j tk=>exact⟨tk,by have:Value.isInt i (.int j tk)=true:=h;simp[Value.isInt] at this;rw[this]⟩
  | _=>cases h
 ·rintro⟨tk,rfl⟩;exact intKind_is _ _ _ _
theorem Ba{o:Obj}{es:Array (Int×Value)}{ep:Nat}(ho:s.heap.get? a=some o)(hex:o.ExactSet)(hd:o.data=.set es ep t)
    {Ur:Array (Int×Value)} {t2:SetTable}  (XD:ElemsOf (intKind P w) Ur.toList) (hb:Ur.size < scanBound) (hf:t2.fits Ur.size=true) (T:oB w t2) (hi:∀ e∈Ur.toList,∃ i tk,e.2=Value.int i tk) (hp:(Ur.toList.map fun e=>BC e.2).Perm ns) (h4:Ur.size<=4)
    {Vq:Bool} {X:Sem (Option Bool)} {R:Option Bool->Shared->Prop} (h:∀ h',Heap.SameBut a s.heap h'->qR P w a ns h'->R (some true) {s with heap:=h'}) :
    wpAny (model P w) A (do
        storeSet a Ur t2
        if (!Vq&&t2.tooFull)=true then X else pure (some true)) R E s:=by
  refine Β (wpAny_storeSet_of ho hd ?_ (fits_of_scanBound hb));have full:t2.tooFull=false:=by
    have h1:t2.place.size=Ur.size:=by
      have:=hf;unfold SetTable.fits at this;simp only[Γ9,beq_iff_eq] at this;exact this.1
    unfold SetTable.tooFull SetTable.fill;rw[T.dum,h1];have:=T.msk;simp;omega
  rw[full,Bool.and_false];simp only[Ϙ,Β4];have hg:(s.heap.update a (Obj.putSet Ur t2)).get? a=some {o with data:=.set Ur (ep+1) t2}:=by
    have:=Heap.get?_update_self (Obj.putSet Ur t2) ho (by rw[putSet_of Ur t2 hd];rfl);rw[putSet_of Ur t2 hd] at this;exact this
  exact Θ (h _ (Heap.SameBut.update s.heap a (Obj.putSet Ur t2)) ⟨_,Ur,ep+1,t2,hg,hex,rfl,XD,hb,hf,T,hi,hp⟩)
theorem CL{i:Int}{tk:Tok}{Q:Bool->Shared->Prop}(hS:qR P w a ns s.heap)(hn:ns.length<=3)(h:∀ h',Heap.SameBut a s.heap h'->qR P w a (if i∈ns then ns else ns++[i]) h'->∀ b,Q b {s with heap:=h'}):wpAny (model P w) A (setAddHashed a (.int i tk) ((intKind P w).hash i)) Q E s:=by
 obtain⟨o,es,ep,t,ho,hex,hd,XD,hb,hf,T,hi,hp⟩:=hS;have V4:(intKind P w).is i (.int i tk)=true:=intKind_is _ _ _ _;have hl:es.size=ns.length:=by have:=hp.length_eq;simpa using this
 have b1:scanBound=4096:=rfl;unfold setAddHashed setAddHashedIn;refine Β0 (Β (Γ8 ho hd hf ?_));dsimp only;rw[byScan_of (knd:=intKind P w) rfl hb XD];simp only[↓reduceIte];unfold setAddByScan;refine Β ?_;refine Β (wpAny_rule ?_);refine Β (wpAny_setScan_of V4 ho hd hf XD ?_);cases hr:List.findIdx? (fun e=>(intKind P w).is i e.2) es.toList with
 | some j =>
  dsimp only;obtain⟨hj,hpj,_⟩:=List.findIdx?_eq_some_iff_getElem.mp hr;obtain⟨Y2,et⟩:=OD.mp hpj;have hm:i∈ns:=hp.mem_iff.mp (Α9.mpr ⟨es.toList[j],List.getElem_mem hj,by rw[et];rfl⟩);rw[if_pos hm] at h;refine Θ (Θ ?_);exact h s.heap (Heap.SameBut.refl a s.heap) ⟨o,es,ep,t,ho,hex,hd,XD,hb,hf,T,hi,hp⟩ _
 | none =>
  dsimp only;have hm:i∉ns:=fun z=>by
   obtain⟨e,he,ek⟩:=Α9.mp (hp.mem_iff.mpr z);obtain⟨k,Y2,ev⟩:=hi e he;have h1:=List.findIdx?_eq_none_iff.mp hr e he;rw[ev] at ek h1;have:k=i:=ek;subst this;rw[intKind_is] at h1;cases h1
  rw[if_neg hm] at h;have Uw:=layNew_perm t es ((intKind P w).hash i) (.int i tk);have VP:=layNew_fits t es ((intKind P w).hash i) (.int i tk);have hsz:t.place.size=es.size:=by
   have:=hf;unfold SetTable.fits at this;simp only[Γ9,beq_iff_eq] at this;exact this.1
  have T1:=Le T es ((intKind P w).hash i) (.int i tk) (by omega) hsz;generalize layNew t es ((intKind P w).hash i) (.int i tk)=Y at Uw VP T1 ⊢;obtain⟨Ur,t1,Vq,abV⟩:=Y;dsimp only at Uw VP T1 ⊢;rw[Array.toList_push] at Uw;have ZE:ElemsOf (intKind P w) Ur.toList:=(XD.push V4 rfl).perm Uw;have sz:Ur.size=es.size+1:=by
   have:=Uw.length_eq;simpa using this
  have hi1:∀ e∈Ur.toList,∃ i tk,e.2=Value.int i tk:=fun e he=>by
   rcases Κ.mp (Uw.mem_iff.mp he) with he|he
   ·exact hi e he
   ·rw[show e=_ by simpa using he];exact⟨i,tk,rfl⟩
  have WW:(Ur.toList.map fun e=>BC e.2).Perm (ns++[i]):=by
   refine(Uw.map _).trans ?_;rw[Α3];exact hp.append (.refl _)
  have hgw:∀(b:Bool) {s₁:Shared} {Q':Unit->Shared->Prop},Q' () s₁->wpAny (model P w) A (match b with|true=>rule "set.scan.the-table-gave-way" | false=>pure ()) Q' E s₁:=fun b s₁ Q' hq=>by
   cases b
   ·exact Θ hq
   ·exact wpAny_rule hq
  refine Β (hgw _ ?_);split
  ·refine Β ?_;rw[hashByValue_scannable 8 rfl];refine Θ ?_;simp only[plainKind,↓reduceIte];exact Ba ho hex hd ZE (by omega) VP T1 hi1 WW (by omega) fun h' hs Xj=>Θ (h h' hs Xj _)
  ·refine Β (Θ ?_);simp only[↓reduceIte];exact Ba ho hex hd ZE (by omega) VP T1 hi1 WW (by omega) fun h' hs Xj=>Θ (h h' hs Xj _)
end
noncomputable def once(val:Nat->Int):Nat->List Int
 | 0=>[]
 | i+1=>if val i∈once val i then once val i else once val i++[val i]
theorem wC(val:Nat->Int):∀ i,(once val i).length<=i
 | 0=>Ι _
 | i+1=>by
  have:=wC val i;rw[once];split
  ·omega
  ·rw[Ν];simp;omega
section
variable{R:Result->Shared->Prop}{wr:List Addr}{Gs:Array GenState->Array GenState->Prop}{Pi:Nat->Value->Prop}{St:Nat->Shared->Prop}
theorem BD(W:WalksS P w A.in1 it fp wr Gs n Pi St)(z:Addr)(hz:z∉fp)(val:Nat->Int)(Yq:∀ i v,Pi i v->∃ t,v=.int (val i) t)(hn:n<=4) : ∀(k i:Nat) (s:Shared),n - i=k->i<=n->St i s->qR P w z (once val i) s.heap -> (∀ s',Moved (z::wr) Gs s s'->qR P w z (once val n) s'.heap->R (.ok (.ret .none)) s')->codeAny (model P w) A (.builtin "set.update.loop" ⟨[.ref z,.ref it],[]⟩) R s:=by
 have zw:z∉wr:=fun h=>hz (W.sub _ h);have up:∀ b∈wr,b∈z::wr:=fun b hb=>ϑ _ hb;intro k
 induction k with
 | zero =>
  intro i s hk hi st hS hR;obtain rfl:i=n:=by omega
  refine Ε9 PyProof.Rows.F.entry_set_update_loop ?_;rw[Ε1 Ζ2 _];show wpAny _ A.in1 (pyNext (.ref it) >>= _) _ _ s;refine Β (W.done s _ _ st fun s' hm=>?_);show wpAny _ A.in1 (ret Value.none) _ _ s';exact Θ (hR s' (hm.mono up) (hS.keep fun o e=>hm.heap z _ zw e))
 | succ k ih =>
  intro i s hk hi st hS hR;have lt:i < n:=by omega
  refine Ε9 PyProof.Rows.F.entry_set_update_loop ?_;rw[Ε1 Ζ2 _];show wpAny _ A.in1 (pyNext (.ref it) >>= _) _ _ s;refine Β (W.item i s _ _ lt st fun v s' hP Ut hm=>?_);obtain⟨t,rfl⟩:=Yq i v hP;have Xj:qR P w z (once val i) s'.heap:=hS.keep fun o e=>hm.heap z _ zw e;show wpAny _ A.in1 (holding [Value.int (val i) t] (setAdd z (.int (val i) t)) >>= _) _ _ s';refine Β (Β0 ?_);unfold setAdd;refine Β0 ?_;refine Β ((intKind P w).pyHash (k:=val i) (intKind_is _ _ _ _) ?_);have room:(once val i).length<=3:=by have:=wC val i;omega
  refine CL (s:={s' with toks:=s'.toks+1}) Xj room fun h' sb hS2 b=>?_;refine Θ ⟨plainId_quiet Ζ2 _,ih (i+1) _ (by omega) lt (W.frame _ s' _ _ Ut (Ε5 _) fun c hc o e=>?_) hS2 fun s2 hm2 hS3=>?_⟩
  ·rw[sb.2 c (fun h:c=z=>hz (by rw[<- h];exact hc))];exact e
  ·refine hR s2 (Moved.trans W.gtrans ((hm.mono up).then_heap (Ε5 _) fun c o hc e=>?_) hm2) hS3;rw[sb.2 c (fun h:c=z=>hc (by rw[h];exact List.mem_cons_self))];exact e
end
section
abbrev oJ(led:Bool):Obj:={cls:=.type "set",dict:=none,data:=.set #[] 0 (.fresh 0 0 led)}
def Dh(a:Value){Q₁:q0A}(h:∀ led:Bool,(w.params.followText "set-order"=true\/led=true)->Q₁ (.ref s.heap.objs.size) {s with heap:=s.heap.push (oJ led)}) : codeAny (model P w) A (.call (.builtin "set.__new__") ⟨[.type "set",a],[]⟩) (wants Q₁ E) s:=by
 refine codeAny_of_tree ?_;show wpAny _ A.in1 (do checkBuiltinCall "set.__new__" ⟨[.type "set",a],[]⟩;again (.builtin "set.__new__" ⟨[.type "set",a],[]⟩)) _ _ s;refine Β (wpAny_of_eq (PySem.F.newCall_set_1 a) (Θ ⟨plainId_quiet PySem.F.plain_set_new _,Ε9 PySem.F.entry_set_new ?_⟩));rw[Ε1 PySem.F.plain_set_new _];unfold Builtin.«set.__new__» Builtin.Frozenset.newClass;have Xp:=sub_set_self;obtain⟨hp,g,d,tk,os⟩:=s;dsimp only;wp_walk;refine wpAny_askSetting (Θ ?_);dsimp only;simp only[newObj];refine Β (wpAny_alloc (Θ ?_));refine Θ (h _ ?_);cases e:w.params.followText "set-order" with
 | true=>exact .inl rfl
 | false =>
  refine .inr ?_;show(!w.params.followText "set-order")=true;rw[e];rfl
def Fi{led:Bool}(h:w.params.followText "set-order"=true\/led=true):oB w (.fresh 0 0 led):=⟨.nil,h,rfl,rfl,rfl⟩
set_option maxHeartbeats 8000000 in
theorem Bf{Q:q0A}(hh:A.handled=none)(hl:s.heap.IsList l items)(hi:IntsAre items.toList ns)(h4:items.size<=4)(h:∀(h':Heap) (tk:Nat),qR P w s.heap.objs.size (once (fun i=>ns.getD i 0) items.size) h'->(∀ b o,b < s.heap.objs.size->s.heap.get? b=some o->h'.get? b=some o)->Q (.ref s.heap.objs.size) {s with heap:=h',toks:=tk}) : wpAny (model P w) A (call (.type "set") [.ref l]) Q E s:=by
  obtain⟨c,tl,abX⟩:=Γ1.mro;have abI:=Γ1.made;have Xp:=Γ1.sub;refine wpAny_call (codeAny_of_tree ?_);show wpAny _ _ (callAny (.type "set") _) _ _ _;refine Θ ⟨Code.quiet_builtin _ (by decide +kernel),Ε9 PySem.F.entry_type_call ?_⟩;rw[Around.under_plain (weight_type_call_type "set" [.ref l] []) rfl];have h1:=Γ1.notType;have h2:=Γ1.canCreate;have Yc:=PySem.F.typeCall_set_1 (.ref l)
  repeat (any_goals (first|assumption|wp_step))
  refine codeAny_mono (Dh (.ref l) (E:=E) (Q₁:=fun obj s₁=>∃ led:Bool,(w.params.followText "set-order"=true\/led=true)/\obj=.ref s.heap.objs.size/\s₁={s with heap:=s.heap.push (oJ led)}) fun led Yh=>⟨led,Yh,rfl,rfl⟩) fun r s₁ hr=>?_;cases r with
  | error e=>exact hr
  | ok fl =>
    cases fl with
    | ret obj =>
      obtain⟨led,Yh,rfl,rfl⟩:=hr;have hS:(s.heap.push (oJ led)).get? s.heap.objs.size=some (oJ led):=Τ _ rfl;have hT:Shared.TypeIs {s with heap:=s.heap.push (oJ led)} (.ref s.heap.objs.size) "set":=⟨_,hS,rfl⟩;have hli:=Γ1.init.lookup;have hbi:=Γ1.init.bind (.ref s.heap.objs.size)
      repeat (any_goals (first|assumption|wp_step))
      refine codeAny_mono (codeAny_call_builtin (R:=wants (fun r s₂=>r=.none/\∃ h' tk,s₂={s with heap:=h',toks:=tk}/\qR P w s.heap.objs.size (once (fun i=>ns.getD i 0) items.size) h' /\
          (∀ b o,b < s.heap.objs.size->s.heap.get? b=some o->h'.get? b=some o)) E) Γ1.init.plain PySem.F.entry_set_init (check_set_init_1 hT ?_)) fun r₂ s₂ hr₂=>?_
      · obtain⟨ol,hol,hcl,nl,hdl⟩:=hl;obtain⟨ab4,Z5,abJ,YB⟩:=ol;simp only at hcl hdl;subst hcl hdl;have aaU:(s.heap.push (oJ led)).get? l=some ⟨.type "list",Z5,.seq items nl,YB⟩:=Η _ hol;have abZ:=PySem.F.sub_list_set;have abY:=PySem.F.sub_list_frozenset;have UI:(Value.type "list"==Value.type "dict")=false:=by decide
        have Wi:(s.heap.push (oJ led)).IsList l items:=⟨_,aaU,rfl,nl,rfl⟩;unfold Builtin.«set.__init__» noKeywords Builtin.Frozenset.updateFrom;generalize hPI:pyIter=PI;wp_walk;subst hPI;refine wpAny_pyIter_list Wi ?_;refine Β (wpAny_runValue ?_);have lS:l < s.heap.objs.size:=Μ hol;have hh3:A.in1.in1.in1.handled=none:=by simp[hh]
        have sz:(s.heap.push (oJ led)).objs.size=s.heap.objs.size+1:=Heap.size_push _ _;have aaR:l≠(s.heap.push (oJ led)).objs.size:=Ρ (by rw[sz];exact Nat.lt_succ_of_lt lS);have hSf:s.heap.objs.size∉[(s.heap.push (oJ led)).objs.size,l]:=by
          simp only[Α,Δ,Ψ,not_or];exact⟨Ρ (by rw[sz];exact Nat.lt_succ_self _),Nat.ne_of_gt lS⟩
        have Yq:∀(i:Nat) (v:Value),items[i]?=some v->∃ t,v=.int ((fun i=>ns.getD i 0) i) t:=fun i v hv=>IntsAre.int_at hi i v (by rw[Δ2];exact hv);refine BD ((Walks.list hh3 _ l aaR items).toS) s.heap.objs.size hSf (fun i=>ns.getD i 0) Yq h4 (items.size - 0) 0 _ (by omega) (Α4 _) ⟨⟨_,Τ _ rfl,rfl,rfl⟩,(Wi.push _)⟩ ?hS0 ?hR
        case hS0=>exact⟨_,#[],0,_,Η _ hS,⟨rfl,rfl,rfl⟩,rfl,fun e he=>(by simp at he),by decide,rfl,Fi Yh,by simp,.nil⟩
        case hR =>
          intro s' hm Xj;obtain⟨h',g',d',Y2,Xs⟩:=s';have eg:g'=s.gens:=hm.gens;have ed:d'=s.drawn:=hm.drawn;have eo:Xs=s.os:=hm.os;subst eg ed eo;show wpAny _ _ _ _ _ _;refine Θ ?_;show wpAny _ _ (ret Value.none) _ _ _;refine Θ ⟨rfl,h',Y2,rfl,Xj,fun b o hb e=>?_⟩;exact hm.heap b o (by simp only[Α,Δ,Ψ,not_or];exact⟨Ρ hb,Ρ (by rw[sz];exact Nat.lt_succ_of_lt hb)⟩) (Η _ (Η _ e))
      · cases r₂ with
        | error e=>exact hr₂
        | ok fl₂ =>
          cases fl₂ with
          | ret r =>
            obtain⟨rfl,h',tk,rfl,Xj,hk'⟩:=hr₂
            repeat (any_goals (first|assumption|wp_step))
            exact h _ _ Xj hk'
          | _=>exact hr₂.elim
    | _=>exact hr.elim
end
mutual
example:=[(by decide +kernel),(by kernel_rfl),(by rw[typeLookup_type,builtinLookup_eq_fast];kernel_rfl),(by rw[isSubtype_type];kernel_rfl),(by first|exact .inl 0e0|exact .inr 0e0)]
def B3:Manifest.owners.lookup (String.ofList ['r','o','t','a','r','e','t','i','_','t','e','s'].reverse)=some Manifest.sig_set_iterator:=by kernel_rfl
theorem fW:Slot "set_iterator" "__next__" "set_iterator.__next__" :=
 .of (owner:="set_iterator") (n:="__next__") 2e0 0e0 0e0 0e0
  4e0 3e0
def oF:entryFor table "set_iterator.__next__"=some Builtin.«set_iterator.__next__»:=entryFor_of_tree 1e0
def pE(a:Value):argsOk "set_iterator.__next__" ⟨[a],[]⟩:=by
 unfold argsOk;rw[signature?_of (id:="set_iterator.__next__") (n:=['_','_','t','x','e','n','_','_']) (o:=['r','o','t','a','r','e','t','i','_','t','e','s']) 1e0 B3];kernel_rfl
theorem qL:Slot "set_iterator" "__iter__" "set_iterator.__iter__" :=
 .of (owner:="set_iterator") (n:="__iter__") 2e0 0e0 0e0 0e0
  4e0 3e0
theorem x8:entryFor table "set_iterator.__iter__"=some Builtin.«dict_keyiterator.__iter__» :=
 entryFor_alias (id':="dict_keyiterator.__iter__") 1e0 rfl 0e0 1e0
def zY(a:Value):argsOk "set_iterator.__iter__" ⟨[a],[]⟩:=by
 unfold argsOk;rw[signature?_of (id:="set_iterator.__iter__") (n:=['_','_','r','e','t','i','_','_']) (o:=['r','o','t','a','r','e','t','i','_','t','e','s']) 1e0 B3];kernel_rfl
theorem uP:entryFor table "set.__iter__"=some Builtin.«frozenset.__iter__» :=
 entryFor_alias (id':="frozenset.__iter__") 1e0 rfl 0e0 1e0
end
section
mutual
example:=[.ref it,(by simp),(by omega),Int×Value,model P w,w.params.setOrder a ep,rawInt (Uk:Nat),lV w a es ep,Θ ?_,Β (wpAny_askSetting (Θ ?_)),Β (Γ8 e1 e3 e4 (Θ ?_)),Γ8 e1 e3 e4 ?_,(if w.params.followText "set-order"=true then _ else _),wpAny_call_entry fW ki.ty oF ?_ (pE _),Θ (Β (wpAny_fieldsOf i1 i3 ?_)),!t.plain&&decide (es.size > 1),(setEntries a >>= fun _=>_),(fun h=>hb (by simp[h])),(Γ0 ?_ (by size_fits)),(by rw[mS];exact hi),Int.toNat (sl:Nat),Int.toNat (ep:Nat)]
variable{es:Array 3e0}{ep:Nat}
def kG(w:World)(h:Heap)(a:Addr)(es:Array 3e0)(ep:Nat)(t:SetTable):Prop:=∃ o,h.get? a=some o/\o.ExactSet/\o.data=.set es ep t/\t.fits es.size=true/\oB w t
def kG.to{h':Heap}(x:kG w h a es ep t)(k:∀ o,h.get? a=some o->h'.get? a=some o):kG w h' a es ep t:=let ⟨o,e,r⟩:=x;⟨o,k _ e,r⟩
def kG.lt(x:kG w h a es ep t):a < h.objs.size:=let ⟨_,e,_⟩:=x;Μ e
def kG.ty(x:kG w s.heap a es ep t):s.TypeIs (.ref a) "set":=let ⟨o,e,c,_⟩:=x;⟨o,e,c.1⟩
def lV(w:World)(a:Addr)(es:Array 3e0)(ep:Nat):Array 3e0:=if w.params.followText "set-order"=true then pickOrder 5e0 es else es
def wJ:(lV w a es ep).toList.Perm es.toList:=by
 unfold lV;split
 ·exact Gn _ _
 ·exact .refl _
def mS:(lV w a es ep).size=es.size:=by have:=(wJ (w:=w) (a:=a) (es:=es) (ep:=ep)).length_eq;simpa using this
def zX(w:World)(t:SetTable)(i sl:Nat):Prop:=w.params.followText "set-order"=true\/SetTable.below t.place sl=i
def xX(w:World)(h:Heap)(it a:Addr)(i n ep:Nat)(t:SetTable):Prop:=∃ o sl,h.get? it=some o/\o.cls=.type "set_iterator"/\o.data=.fields #[.int (sl:Nat) 0,.int (i:Nat) 0,.ref a,.int (n:Nat) 0,.int (ep:Nat) 0]/\zX w t i sl
def xX.to{h':Heap}(x:xX w h it a i n ep t)(k:∀ o,h.get? it=some o->h'.get? it=some o):xX w h' it a i n ep t:=let ⟨o,sl,e,r⟩:=x;⟨o,sl,k _ e,r⟩
def xX.ty(x:xX w s.heap it a i n ep t):s.TypeIs 0e0 "set_iterator":=let ⟨o,_,e,c,_⟩:=x;⟨o,e,c⟩
theorem Gz(T:oB w t):zX w t 0 0:=.inr (by
 obtain⟨h1,h2,h3⟩:=oU t.place 0 T.rise;by_cases z:SetTable.below t.place 0=0
 ·exact z
 ·have:=h1 0 2e0 2e0;omega)
theorem Gy(T:oB w t)(e:t.place[i]?=some j):SetTable.below t.place (j+1)=i+1:=by
 obtain⟨hi,ej⟩:=Array.getElem?_eq_some_iff.mp e;obtain⟨h1,h2,h3⟩:=oU t.place (j+1) T.rise;by_cases c:SetTable.below t.place (j+1)<=i
 ·have:=h2 i hi c;omega
 ·by_cases d:i+1 < SetTable.below t.place (j+1)
  ·have h4:i+1 < t.place.size:=by omega
   have h5:=h1 (i+1) h4 d;have h6:=Ζ0.mp T.rise i (i+1) (by simpa using hi) (by simpa using h4) 2e0;simp at h6;omega
  ·omega
theorem Jh{Q:q0A}(x:kG w s.heap a es ep t)(q:Q (.ref s.heap.objs.size) {s with heap:=s.heap.push {cls:=.type "set_iterator",data:=.fields #[.int 0 0,.int 0 0,.ref a,.int es.size 0,.int ep 0]}}):wpAny 4e0 A (pyIter (.ref a)) Q E s:=by
 obtain⟨o,e1,e2,e3,e4,T⟩:=id x;refine wpAny_pyIter_slot x.ty F.slot_set_iter (wpAny_call_entry F.slot_set_iter x.ty uP ?_ (F.args_set_iter_1 _));unfold Builtin.«frozenset.__iter__»;refine Β ?_;show wpAny _ _ ((pure (Value.ref a,([]:List Value)):Sem _) >>= fun z=>Builtin.Frozenset.addrOf z.1) _ _ s;refine Β (Θ 8e0);refine Β (Β (Β (Γ8 e1 e3 e4 (Θ 8e0))));refine Β (Β 1e1);refine Β 9e0;refine Θ ?_;show wpAny _ _ (if (!w.params.followText "set-order"&&5e1)=true then _ else _) _ _ s;rw[T.pln];simp only[Bool.not_true,Bool.false_and,Bool.and_false,Ϙ,Β4];refine Β (Θ (Β 0e1));refine Β (Γ0 (Θ ⟨_,rfl,"set_iterator",_,⟨_,Τ _ rfl,rfl⟩,fW.lookup,by simpa[rawInt] using q⟩))
theorem xV{sl:Nat}{Q:Option (Value×Nat)->Shared->Prop}(x:kG w s.heap a es ep t)(hs:zX w t i sl)(q1:∀ e Uk,7e0[i]?=some e->zX w t (i+1) Uk->Q (some (e.2,Uk)) s)(q0:7e0[i]?=none->Q none s):wpAny 4e0 A (setNext a sl i ep) Q E s:=by
 obtain⟨o,e1,e2,e3,e4,T⟩:=id x;unfold setNext;refine Β 1e1;dsimp only;refine Β 9e0;show wpAny _ _ 2e1 _ _ s;by_cases c:w.params.followText "set-order"=true
 ·rw[if_pos c,if_neg 1e0];unfold setWalk;refine Β (Β 1e1);dsimp only;refine Β 9e0;show wpAny _ _ 2e1 _ _ s;rw[if_pos c];refine Β (wpAny_askSetting (Θ 8e0));show Q (Option.map _ (pickOrder 5e0 es)[i]?) s;have eo:lV w a es ep=pickOrder 5e0 es:=if_pos c;rw[eo] at q1 q0;cases h:(pickOrder 5e0 es)[i]? with
  | none=>exact q0 h
  | some e=>exact q1 e sl h (.inl c)
 ·rw[if_neg c];have eo:lV w a es ep=es:=if_neg c;rw[eo] at q1 q0;have hb:SetTable.below t.place sl=i:=hs.resolve_left c;have hl:t.led=true:=T.led.resolve_left c;show wpAny _ _ (if 5e1=true then _ else _) _ _ s;rw[T.pln];simp only[Bool.not_true,Bool.false_and,Ϙ,Β4];show wpAny _ _ ((if (!t.led&&!es.isEmpty)=true then unsupported "set:maker-not-led" else pure ()) >>= fun _=>_) _ _ s;rw[hl];simp only[Bool.not_true,Bool.false_and,Ϙ,Β4];refine Β (Θ 8e0);rw[hb];have hz:t.place.size=es.size:=by
   have:=e4;unfold SetTable.fits at this;simp only[Γ9,beq_iff_eq] at this;exact this.1
  by_cases d:i < es.size
  ·have h1:es[i]?=some es[i]:=Δ4 d;have h2:t.place[i]?=some (t.place[i]' 2e0):=Δ4 2e0;rw[h1,h2];exact q1 _ _ h1 (.inr (Gy T h2))
  ·have h1:es[i]?=none:=Array.getElem?_eq_none 2e0;rw[h1];exact q0 h1
def Jj(ki:xX w s.heap it a i es.size ep t)(x:kG w s.heap a es ep t){e:Int×Value}(he:7e0[i]?=some e)(q:∀ h',xX w h' it a (i+1) es.size ep t->Heap.SameBut it s.heap h'->Q (some e.2) {s with heap:=h'}):wpAny 4e0 A (pyNext 0e0) Q E s:=by
 obtain⟨oi,sl,i1,i2,i3,i4⟩:=id ki;obtain⟨o,e1,e2,e3,e4,T⟩:=id x;have lt:i < es.size:=by have:=(Array.getElem?_eq_some_iff.mp he).1;rw[mS] at this;exact this
 unfold pyNext;refine Β (wpAny_attempt (wpAny_callSpecial?_slot (name:=Str.ofString "__next__") ki.ty fW
  3e1))
 unfold Builtin.«set_iterator.__next__»;refine Β 4e1;show wpAny _ _ 6e1 _ _ s;refine Β 0e1;rw[if_neg 1e0];show wpAny _ _ (setNext a 0e2 (Int.toNat (i:Nat)) 1e2 >>= fun z=>_) _ _ s;simp only[Int.toNat_natCast];refine Β ?_;refine xV x i4 (fun e' Uk he' VQ=>?_) fun z=>by rw[z] at he;cases he
 rw[he] at he';cases he';show wpAny _ _ (setField 0e0 0 6e0 >>= fun _=>_) _ _ s;refine Β (wpAny_setField i1 i3 1e0 ?_);have j1:(s.heap.update it (Obj.mapFields (·.setIfInBounds 0 6e0))).get? it=some (Obj.mapFields (·.setIfInBounds 0 6e0) oi):=Heap.get?_update_self _ i1 (Obj.isFreed_of_fields (Obj.data_mapFields i3 _));have j3:(Obj.mapFields (·.setIfInBounds 0 6e0) oi).data=.fields #[.int (Uk:Nat) 0,.int (i:Nat) 0,.ref a,.int (es.size:Nat) 0,.int (ep:Nat) 0]:=by rw[Obj.data_mapFields i3];simp[rawInt]
 show wpAny _ _ (setField 0e0 1 (rawInt ((i:Int)+1)) >>= fun _=>_) _ _ _;refine Β (wpAny_setField j1 j3 1e0 ?_);refine Θ ⟨_,rfl,Θ (q _ ⟨_,Uk,Heap.get?_update_self _ j1 (Obj.isFreed_of_fields (Obj.data_mapFields j3 _)),((Obj.cls_mapFields ..).trans (Obj.cls_mapFields ..)).trans i2,by rw[Obj.data_mapFields j3];simp[rawInt],VQ⟩ ((Heap.SameBut.update ..).trans (Heap.SameBut.update ..)))⟩
theorem LO(hh:A.handled=none)(ki:xX w s.heap it a es.size es.size ep t)(x:kG w s.heap a es ep t)(q:∀ h',Heap.ExtBut it s.heap h'->Q none {s with heap:=h'}):wpAny 4e0 A (pyNext 0e0) Q E s:=by
 obtain⟨oi,sl,i1,i2,i3,i4⟩:=id ki;obtain⟨o,e1,e2,e3,e4,T⟩:=id x;unfold pyNext;refine Β (wpAny_attempt (wpAny_callSpecial?_slot (name:=Str.ofString "__next__") ki.ty fW
  3e1))
 unfold Builtin.«set_iterator.__next__»;refine Β 4e1;show wpAny _ _ 6e1 _ _ s;refine Β 0e1;rw[if_neg 1e0];show wpAny _ _ (setNext a 0e2 (Int.toNat (es.size:Nat)) 1e2 >>= fun z=>_) _ _ s;simp only[Int.toNat_natCast];refine Β ?_;refine xV x i4 (fun e' Uk he' VQ=>by
  have:=(Array.getElem?_eq_some_iff.mp he').1;rw[mS] at this;omega) fun _=>?_
 show wpAny _ _ (setField 0e0 2 .none >>= fun _=>_) _ _ s;refine Β (wpAny_setField i1 i3 1e0 ?_);show wpAny _ _ (newExc (.type "StopIteration") [] >>= fun _=>_) _ _ _;refine Β ?_;simp only[newExc,newTuple];refine Β 8e1;refine Β (m:=firstArgMember _ _) (wpAny_of_eq (a:=Value.none) (by first|rfl|(simp only[firstArgMember];rfl)) 8e1)
 simp only[raiseNew];refine Β (wpAny_handled ?_);rw[show A.in1.handled=none from hh];refine Β (Θ (wpAny_throw ?_));refine Β (wpAny_isInstance (T:="StopIteration") (b:=true) ⟨_,Τ _ rfl,rfl⟩ (show _ from isSubtype_stop) ?_);exact Θ (q _ (((Heap.SameBut.update ..).extBut.push _).push _))
def Jk{Q:q0A}(ki:xX w s.heap it a i n ep t)(h:Q 0e0 s):wpAny 4e0 A (pyIter 0e0) Q E s:=by
 refine wpAny_pyIter_slot ki.ty qL (wpAny_call_entry qL ki.ty x8 ?_ (zY _));show wpAny _ _ (ret 0e0) _ _ s;exact Θ ⟨_,rfl,"set_iterator",_,ki.ty,fW.lookup,h⟩
def GK(hh:A.handled=none)(it a:Addr)(ne:a≠it)(es:Array 3e0)(ep:Nat)(t:SetTable) : Walks P w A it [it,a] [it] es.size (fun i v=>∃ e,7e0[i]?=some e/\v=e.2) (fun i h=>xX w h it a i es.size ep t/\kG w h a es ep t) where
 sub:=fun b hb=>by simp at hb;simp[hb]
 frame:=fun _ _ _ st hk=>⟨st.1.to fun o e=>hk it 1e0 o e,st.2.to fun o e=>hk a 1e0 o e⟩
 item:=fun i s Q E hi st hQ=>Jj st.1 st.2 (Δ4 9e1) fun h' k2 sb=>hQ _ h' s.toks ⟨_,Δ4 9e1,rfl⟩ ⟨k2,st.2.to fun o e=>sb.extBut a o ne e⟩ fun b o hb e=>sb.extBut b o 7e1 e
 done:=fun s Q E st hQ=>LO hh st.1 st.2 fun h' he=>hQ h' s.toks fun b o hb e=>he b o 7e1 e
 self:=fun _ _ _ _ st hQ=>Jk st.1 hQ
end
end
section
variable{prog:Program}{r:Addr}{es:Array (Int×Value)}{ep:Nat}
theorem Ia{Q:Bool->Shared->Prop}(hT:s.TypeIs (.ref r) "set")(h:Q false s):wpAny (model prog w) A (Builtin.List.listLengthHint (.ref r)) Q E s:=by
 unfold Builtin.List.listLengthHint;refine Β (wpAny_specialOf hT PySem.F.slot_set_len.lookup ?_);generalize hid:("set.__len__":String)=id0
 wp_delta
 rw[show splitId id0=some ("set","__len__") from by subst hid;decide +kernel];subst hid;refine Β (wpAny_isInstance (T:="set") (b:=true) hT (by rw[isSubtype_type];kernel_rfl) ?_);refine wpAny_ite_split (fun Xk=>absurd Xk (by decide)) (fun _=>?_);refine wpAny_ite_split (fun _=>?_) (fun Xk=>absurd (by decide +kernel) Xk);refine Β (wpAny_typeOf hT ?_);exact Θ h
open PySem.W in
theorem LU:KdlSrc prog w "set" a a es.size (fun i v=>∃ e,(lV w a es ep)[i]?=some e/\v=e.2) (fun h=>kG w h a es ep t) where
 type:=fun _ hm=>hm.ty
 there:=fun _ hm=>⟨hm.lt,hm.lt⟩
 keep:=fun _ _ hm hk=>hm.to fun o e=>hk a (.inl rfl) o e
 notList:=by decide
 notTuple:=by decide
 hint:=fun _ _ _ _ hm hq=>Ia hm.ty hq
 iter:=fun _ _ hh hm=>⟨_,_,(fun _ _ hq=>Jh hm hq),GK hh _ a (Ρ hm.lt) es ep t,⟨⟨_,0,Τ _ rfl,rfl,rfl,Gz (let ⟨_,_,_,_,_,T⟩:=hm;T)⟩,hm.to fun o e=>Η _ e⟩⟩
end
mutual
example:=[List.Mem.head _,(by omega),.lst (Ug.map V.int),.ref l,seqObj "list" vs.toArray 0,List.Mem.tail _ mem,CK P w p ns,.type "set",I.ok.hd hc]
theorem GV:bootBuiltins "set"=some 7e0:=by decide +kernel
def look1{k z:Str}{c:Addr}{r:List (Str×Addr)}(e:List.lookup k r=some a)(h:List.lookup z [(k,a)]=some c):List.lookup z r=some c:=by
 simp only[List.lookup] at h;split at h
 ·next y=>cases h;rw[eq_of_beq y];exact e
 ·cases h
def CK(P:Program)(w:World)(a:Addr)(ns:List Int):HO:=.ext (qR P w a ns)
def LN(x:qR X.prog X.w a ns h):eC X.prog X.w H h a (CK X.prog X.w a ns) :=
 ⟨x,let ⟨o,_,_,_,e,_⟩:=x;⟨o,e⟩,fun _ _ y k=>y.keep k⟩
def lU(ns:List Int):List Int:=once (fun i=>ns.getD i 0) ns.length
def He(P:Program)(w:World):List V->Hp->VK->Prop:=fun vs H Q=>on1 vs fun x=>bH x fun p=>∃ ns:List Int,H p=some (.lst (ns.map V.int))/\ns.length<=4/\∀ l,H l=none->Q 3e0 (TH H l (CK P w l (lU ns)))
theorem yQ(hc:X.calm=true):gA X 7e0 (He X.prog X.w):=fun TF s Z H xs us Q I r h=>by
 obtain⟨x,rfl,h1⟩:=jJ h;obtain⟨p,rfl,ns,e,h4,q⟩:=aU h1;obtain⟨u,rfl,ru⟩:=vals1 r;cases ru;obtain⟨TR,r',pl,hz⟩:=I.list (fY.of e);have hi:IntsAre TR ns:=C2 r';have hlen:=r'.length;have lm:TR.toArray.size=ns.length:=by simpa using hlen.symm
 refine Bf (items:=TR.toArray) 8e0 pl.isList (by simpa using hi) 1e0 fun h' tk hS kp=>?_;rw[lm] at hS;exact⟨.ref s.heap.objs.size,_,I.laid (t':=tk) (fun b o e=>kp b o (Μ e) e) (Ι _) (LN hS),rfl,q _ (I.TY.fresh (Ι _))⟩
def Hc(P:Program)(w:World):List V->Hp->VK->Prop:=fun vs H Q=>on1 vs fun x=>bH x fun p=>∃ ns:List Int,H p=some 6e0/\Q (.int ns.length) H
theorem CP:gA X (.builtin "len") (Hc X.prog X.w):=fun TF s Z H xs us Q I r h=>by
 obtain⟨x,rfl,h1⟩:=jJ h;obtain⟨p,rfl,ns,e,q⟩:=aU h1;obtain⟨u,rfl,ru⟩:=vals1 r;cases ru;obtain⟨⟨o,es,ep,t,ho,hex,hd,XD,hb,hf,T,hi,hp⟩,_⟩:=I.TY p _ e;have hl:es.size=ns.length:=by have:=hp.length_eq;simpa using this
 have b1:scanBound=4096:=rfl;refine call_len_set ho hex hd hf 1e0 ?_;exact⟨.int ns.length,H,I.tok _,⟨_,by rw[hl]⟩,q⟩
def Hf(P:Program)(w:World):List V->Hp->VK->Prop:=fun vs H Q=>on1 vs fun x=>bH x fun p=>∃ ns:List Int,H p=some 6e0/\ns.length < 64/\∀(l:Addr) (Ug:List Int),H l=none->Ug.Perm ns->Ug.Pairwise (·<=·)->Q 3e0 (TH H l 2e0)
theorem CQ(hc:X.calm=true):gA X (.builtin "sorted") (Hf X.prog X.w):=fun TF s Z H xs us Q I r h=>by
 obtain⟨x,rfl,h1⟩:=jJ h;obtain⟨p,rfl,ns0,e,h64,q0⟩:=aU h1;obtain⟨u,rfl,ru⟩:=vals1 r;cases ru;obtain⟨⟨od,es,ep,t,ho,hex,hd,XD,hb,hf,T,hi,hp0⟩,_⟩:=I.TY p _ e;have hl:es.size=ns0.length:=by have:=hp0.length_eq;simpa using this
 obtain⟨m,hn,_⟩:=I.loc;have UI:p≠X.env.locals:=aF e I.free;obtain⟨ns,Wv⟩:∃ ns,ns=(lV X.w p es ep).toList.map fun e=>BC e.2:=⟨_,rfl⟩;have pns:ns.Perm ns0:=by rw[Wv];exact(wJ.map _).trans hp0
 have lns:ns.length=es.size:=by rw[Wv];simp[mS]
 have q:∀(l:Addr) (Ug:List Int),H l=none->Ug.Perm ns->Ug.Pairwise (·<=·)->Q 3e0 (TH H l 2e0):=fun l Ug a b c=>q0 l Ug a (b.trans pns) c;refine PySem.W.kdu_sorted (LU (a:=p) (es:=es) (ep:=ep) (t:=t)) 8e0 (Att.C1 hn) (Att.mK UI ho) ⟨od,ho,hex,hd,hf,T⟩ (by rw[Ε4];omega) fun D h' tk vs F N lt hlen hP=>?_;have hI:IntsAre vs ns:=Eg 1e0 fun j v ev=>by
  obtain⟨e,e1,rfl⟩:=hP j v ev;have U6:(lV X.w p es ep).toList[j]?=some e:=by rw[Δ2];exact e1
  obtain⟨i,tk,et⟩:=hi e (wJ.mem_iff.mp (Υ U6));exact⟨i,tk,by rw[Wv,ϔ,U6];simp only[Option.map_some,et,BC],et⟩
 have hD:h'.get? D=some 4e0:=(N _ 0e0).1;have old:∀ b o,b≠X.env.locals->s.heap.get? b=some o->h'.get? b=some o/\b < D:=fun b o nb eb=>by
  by_cases hb:b=p
  ·subst hb;rw[ho] at eb;cases eb;exact⟨(N _ (List.Mem.tail _ 0e0)).1,lt _ 0e0⟩
  ·have mem:=Att.lB (h:=s.heap) (L:=X.env.locals) (d:=p) |>.mpr ⟨nb,hb,eb⟩;exact⟨(N _ (List.Mem.tail _ 5e0)).1,lt _ 5e0⟩
 have g:MeetsIn X.prog X.w (Builtin.«list.sort» ⟨[.ref D],[]⟩) (fun _ R s=>s.heap.get? D=some 4e0/\∀(out:Array Value) (Ug:List Int),IntsAre out.toList Ug->Ug.Perm ns->Ug.Pairwise (·<=·)->R (.ok (.ret .none)) {s with heap:=sortedHeap s.heap D vs out}) :=
  fun A R s ⟨g1,g2⟩=>list_sort_tree g1 hI 1e0 fun out Ug a b c=>g2 out Ug a b c
 refine Δ3 PySem.F.slot_list_sort ⟨_,hD,rfl⟩ PySem.F.entry_list_sort (PySem.F.args_list_sort_1 _) g ⟨hD,fun out Ug Zt hp hs=>?_⟩;have Wz:D≠X.env.locals:=(N _ 0e0).2.1;have Wh:H D=none:=by
  cases z:H D with
  | none=>rfl
  | some o =>
   obtain⟨ob,eb⟩:=(I.TY D o z).there;exact absurd (old D ob Wz eb).2 (ϝ _)
 have new:∀ b o,b≠X.env.locals->s.heap.get? b=some o->(sortedHeap h' D vs out).get? b=some o:=fun b o nb eb=>by
  obtain⟨h1,h2⟩:=old b o nb eb;rw[sortedHeap_old (Ρ h2) (Μ h1)];exact h1
 obtain⟨e',Zs⟩:=sortedHeap_at (out:=out) hD;have V5:∀ m',s.heap.Ns X.env.locals m'->(sortedHeap h' D vs out).Ns X.env.locals m':=fun m' hm=>by
  have em:m'=m:=by
   obtain⟨o1,Ur,V0,a1,b1,_,c1⟩:=hm;obtain⟨o2,es2,Vb,a2,b2,_,c2⟩:=hn;rw[a1] at a2;cases a2;rw[b1] at b2;cases b2;funext y;rw[<- c1,<- c2]
  subst em;obtain⟨o1,Ur,V0,a1,r1⟩:=F.ns;exact⟨o1,Ur,V0,by rw[sortedHeap_old Wz.symm (Μ a1)];exact a1,r1⟩
 have nn:∀ {b:Addr} {o:HO},H b=some o->b≠D:=fun h z=>by subst z;rw[Wh] at h;cases h
 have nl:∀ {b:Addr} {o:HO},H b=some o->b≠X.env.locals:=fun h=>aF h I.free;refine⟨.ref D,TH H D 2e0,show TQ X TF Z _ {s with heap:=sortedHeap h' D vs out,gens:=s.gens,drawn:=s.drawn,toks:=tk} from I.step (g':=s.gens) (d':=s.drawn) (t':=tk) (ch:=[]) (fun _ z=>nomatch z) (fun b o nb _ _ eb _=>new b o nb eb) (fun b o nb _ _ eb _=>⟨o.slots,new b o nb eb⟩) (fun b o _ eb hb=>?_) (fun b o _ eb=>?_)
  (fun b xs hb=>by rw[aD (nn hb)];exact hb) (fun b o u hb=>by rw[aD (nn hb)];exact hb) (fun b ps hb=>⟨#[],by rw[aD (nn hb),hb];simp⟩) V5 (fun b o hb=>?_) I.bare,rfl,q D Ug Wh hp hs⟩
 ·by_cases Vk:b=D
  ·subst Vk;by_cases Vl:b=X.env.locals
   ·exact absurd Vl Wz
   ·exact absurd (old b o Vl eb).2 (ϝ _)
  ·rw[aD Vk];exact hb
 ·by_cases Vl:b=X.env.locals
  ·subst Vl;obtain⟨o1,Ur,V0,a1,r1⟩:=V5 m hn;exact⟨o1,a1⟩
  ·exact⟨o,new b o Vl eb⟩
 ·by_cases Vk:b=D
  ·subst Vk;rw[aA] at hb;cases hb;exact⟨by rw[Γ,hp.length_eq,Ε4];omega,out.toList,e',nX Zt,Zs⟩
  ·rw[aD Vk] at hb;refine(I.TY b o hb).tF (fun c v hc ev=>?_) (fun c hc=>by rw[aD (nn hc)];exact hc) fun c xs hc=>by rw[aD (nn hc)];exact hc
   rcases hc with hc|hc
   ·subst hc;exact new c v (nl hb) ev
   ·exact new c v (nl hc) ev
end
section
variable{Q:VK}{p:Addr}
def Kx:He P w [.ref p] H Q = ∃ ns:List Int,H p=some (.lst (ns.map V.int))/\ns.length<=4/\∀ l,H l=none->Q (.ref l) (TH H l (CK P w l (lU ns))):=rfl
def Kk:Hc P w [.ref p] H Q = ∃ ns:List Int,H p=some (CK P w p ns)/\Q (.int ns.length) H:=rfl
def HI:Hf P w [.ref p] H Q = ∃ ns:List Int,H p=some (CK P w p ns)/\ns.length < 64/\∀(l:Addr) (Ug:List Int),H l=none->Ug.Perm ns->Ug.Pairwise (·<=·)->Q (.ref l) (TH H l (.lst (Ug.map V.int))):=rfl
end
noncomputable def PD(K:q0B)(n:Nat):R2:=fun x y H Q=>bH x fun a=>bH y fun b=>(∃ r,qP K H n a b r/\Q (.bl r) H) \/
 ∃(z z' u:Str) (p:Addr) (ts:List V),H a=some (.tup [.str z,.ref p])/\H p=some (.tup ts)/\H b=some (.tup [.str z',.str u])/\z≠z'/\Q (.bl false) H
theorem OU(n:Nat)(hn:2<=n)(hu:X.A.units+n < cLine):jT X (compareOp .Eq) (PD X.K n):=fun TF s Z H x y v u Q I rx ry h=>by
 obtain⟨a,rfl,h1⟩:=aU h;obtain⟨b,rfl,h2⟩:=aU h1;cases rx;cases ry;rcases h2 with⟨r,e,q⟩|⟨z,z',k,p,ts,ea,ep,eb,ne,q⟩
 ·exact Jc e I hu X.prog X.w X.xe _ (cF I q rfl)
 ·obtain⟨TR,r1,p1,_⟩:=I.tuple (iR.of ea);obtain⟨XN,r2,p2,_⟩:=I.tuple (iR.of eb);obtain⟨kts,r3,p3,_⟩:=I.tuple (iR.of ep);cases r1 with
  | cons a1 r1 =>
  cases r1 with
  | cons a2 r1 =>
  cases r1;cases r2 with
  | cons b1 r2 =>
  cases r2 with
  | cons b2 r2 =>
  cases r2;obtain⟨t1,rfl⟩:=a1;cases a2;obtain⟨t2,rfl⟩:=b1;obtain⟨t3,rfl⟩:=b2;have:=SeqAt.RcAt.tuples (A:=X.A) (e:=fun j=>if j=0 then (z==z') else false) (show s.heap.IsTuple a #[_,_] from p1) (show s.heap.IsTuple b #[_,_] from p2) (by omega) (fun j h1 h2=>by
   match j,h1 with
   | 0,_=>exact SeqAt.EqAt.str_str z t1 z' t2
   | 1,_=>exact SeqAt.EqAt.tuple_str k t3 (show s.heap.IsTuple p kts.toArray from p3) (by show X.A.units+1 < _;omega))
  have nz:(z==z')=false:=Β3.mpr ne;have ef:((List.range (min (2:Nat) 2)).all (fun j=>if j=0 then (z==z') else false)&&((2:Nat)==2))=false:=by rw[nz];rfl
  have:=this X.prog X.w X.xe (EP X TF Z Q) (by
   show EP X TF Z Q (.bool ((List.range (min (2:Nat) 2)).all (fun j=>if j=0 then (z==z') else false)&&((2:Nat)==2))) s;rw[ef];exact cF I q rfl)
  exact this
section
variable{Q:VK}{b:Addr}
def Qc:PD K n (.ref a) (.ref b) H Q=((∃ r,qP K H n a b r/\Q (.bl r) H)\/∃(z z' u:Str) (p:Addr) (ts:List V),H a=some (.tup [.str z,.ref p])/\H p=some (.tup ts)/\H b=some (.tup [.str z',.str u])/\z≠z'/\Q (.bl false) H):=rfl
end
mutual
example:=[List.Mem.head _,(by omega),seqObj "list" vs.toArray 0,List.Mem.tail _ mem,.lst (Ug.map V.str)]
def jB:List (Key×V)->Option (List Str)
 | []=>some []
 | (.inr i,_)::r=>(jB r).map (i::·)
 | _=>none
theorem xO:∀ {kvs:List (Key×V)} {ns:List Str},jB kvs=some ns->kvs.length=ns.length/\∀(j:Nat) (k:Key) (x:V),kvs[j]?=some (k,x)->∃ i:Str,k=.inr i/\ns[j]?=some i
 | [],ns,h=>by cases h;exact⟨rfl,fun j k x e=>by simp at e⟩
 | (k,v)::kvs,ns,h=>by
  cases k with
  | inr i =>
   simp only[jB,Ϛ] at h;obtain⟨ms,e,rfl⟩:=h;obtain⟨l,f⟩:=xO e;refine⟨by simp[l],fun j k x ej=>?_⟩;cases j with
   | zero=>simp only[Ξ,Ο,Prod.mk.injEq] at ej;exact⟨i,ej.1.symm,rfl⟩
   | succ j=>exact f j k x (by simpa using ej)
  | _=>cases h
def LY{ns:List Str}:∀ {vs:List Value},vs.length=ns.length->(∀(j:Nat) (v:Value),vs[j]?=some v->∃ i t,ns[j]?=some i/\v=Value.str i t)->StrsAre vs ns:=by
 induction ns with
 | nil =>
  intro vs hl _;cases vs with
  | nil=>exact .nil
  | cons _ _=>simp at hl
 | cons n ns ih =>
  intro vs hl h;cases vs with
  | nil=>simp at hl
  | cons v vs =>
   obtain⟨i,t,e,rfl⟩:=h 0 v rfl;cases e;exact .cons _ _ (ih (by simpa using hl) fun j v e=>h (j+1) v (by simpa using e))
def DI{vs:List Value}{ss:List Str}(h:StrsAre vs ss):TU (ss.map V.str) vs:=by
 induction h with
 | nil=>exact .nil
 | cons y t _ ih=>exact .cons ⟨t,rfl⟩ ih
def Hh:List V->Hp->VK->Prop:=fun vs H Q=>on1 vs fun x=>bH x fun p=>dF (H p) fun kvs=>iY (jB kvs) fun ns=>ns.length < 64/\∀(l:Addr) (Ug:List Str),H l=none->Ug.Perm ns->sortedS Ug=true->Q (.ref l) (TH H l 4e0)
theorem uE(hc:X.calm=true):gA X (.builtin "sorted") Hh:=fun TF s Z H xs us Q I r h=>by
 obtain⟨x,rfl,h1⟩:=jJ h;obtain⟨p,rfl,h2⟩:=aU h1;obtain⟨kvs,e,h3⟩:=dN h2;obtain⟨ns,ek,h64,q⟩:=dQ h3;obtain⟨u,rfl,ru⟩:=vals1 r;cases ru;obtain⟨hl,hk⟩:=xO ek;obtain⟨z,hd,XW,rel,dd⟩:=oC I.TY e;obtain⟨ep,dat⟩:=dd.dictAt;obtain⟨od,es,ho,_⟩:=id dat;obtain⟨m,hn,_⟩:=I.loc;have UI:p≠X.env.locals:=aF e I.free;have l0:=rel.length;refine PySem.W.kdu_sorted (PySem.W.kdl_dict (knd:=bJ X.prog X.w) (kvs:=XW) (ep:=ep) hd) (I.ok.hd hc) (Att.C1 hn) (Att.mK UI ho) dat 1e0 fun D h' tk vs F N lt hlen hP=>?_;have hI:StrsAre vs ns:=LY 1e0 fun j v ev=>by
  obtain⟨k,x,e1,e2⟩:=hP j v ev;have hj:j < kvs.length:=by
   have:=(Λ.mp e1).1;omega
  obtain⟨⟨k',x'⟩,Xw⟩:∃ y,kvs[j]?=some y:=⟨_,ϐ hj⟩;obtain⟨v',e3⟩:=KV.at rel Xw;rw[e1] at e3;cases e3;obtain⟨i,rfl,ei⟩:=hk j _ _ Xw;obtain⟨t,et⟩:=(show ∃ t,v=Value.str i t from pN e2);exact⟨i,t,ei,et⟩
 have hD:h'.get? D=some 2e0:=(N _ 0e0).1;have old:∀ b o,b≠X.env.locals->s.heap.get? b=some o->h'.get? b=some o/\b < D:=fun b o nb eb=>by
  by_cases hb:b=p
  ·subst hb;rw[ho] at eb;cases eb;exact⟨(N _ (List.Mem.tail _ 0e0)).1,lt _ 0e0⟩
  ·have mem:=Att.lB (h:=s.heap) (L:=X.env.locals) (d:=p) |>.mpr ⟨nb,hb,eb⟩;exact⟨(N _ (List.Mem.tail _ 3e0)).1,lt _ 3e0⟩
 have g:MeetsIn X.prog X.w (Builtin.«list.sort» ⟨[.ref D],[]⟩) (fun _ R s=>s.heap.get? D=some 2e0/\∀(out:Array Value) (Ug:List Str),StrsAre out.toList Ug->Ug.Perm ns->sortedS Ug=true->R (.ok (.ret .none)) {s with heap:=sortedHeap s.heap D vs out}) :=
  fun A R s ⟨g1,g2⟩=>list_sort_treeK strKind_oneLt g1 hI.keysOf (fun v₁ v₂ rest e=>keyKind_strs (by rw[<- e];exact hI)) 1e0 fun Ut hp hs=>by
   obtain⟨ss',h1,h2,h3⟩:=sorted_out_str hI hp hs;exact g2 _ ss' h1 h2 h3
 refine Δ3 PySem.F.slot_list_sort ⟨_,hD,rfl⟩ PySem.F.entry_list_sort (PySem.F.args_list_sort_1 _) g ⟨hD,fun out Ug Zt hp hs=>?_⟩;have Wz:D≠X.env.locals:=(N _ 0e0).2.1;have Wh:H D=none:=by
  cases z:H D with
  | none=>rfl
  | some o =>
   obtain⟨ob,eb⟩:=(I.TY D o z).there;exact absurd (old D ob Wz eb).2 (ϝ _)
 have new:∀ b o,b≠X.env.locals->s.heap.get? b=some o->(sortedHeap h' D vs out).get? b=some o:=fun b o nb eb=>by
  obtain⟨h1,h2⟩:=old b o nb eb;rw[sortedHeap_old (Ρ h2) (Μ h1)];exact h1
 obtain⟨e',Zs⟩:=sortedHeap_at (out:=out) hD;have V5:∀ m',s.heap.Ns X.env.locals m'->(sortedHeap h' D vs out).Ns X.env.locals m':=fun m' hm=>by
  have em:m'=m:=by
   obtain⟨o1,Ur,V0,a1,b1,_,c1⟩:=hm;obtain⟨o2,es2,Vb,a2,b2,_,c2⟩:=hn;rw[a1] at a2;cases a2;rw[b1] at b2;cases b2;funext y;rw[<- c1,<- c2]
  subst em;obtain⟨o1,Ur,V0,a1,r1⟩:=F.ns;exact⟨o1,Ur,V0,by rw[sortedHeap_old Wz.symm (Μ a1)];exact a1,r1⟩
 have nn:∀ {b:Addr} {o:HO},H b=some o->b≠D:=fun h z=>by subst z;rw[Wh] at h;cases h
 have nl:∀ {b:Addr} {o:HO},H b=some o->b≠X.env.locals:=fun h=>aF h I.free;refine⟨.ref D,TH H D 4e0,show TQ X TF Z _ {s with heap:=sortedHeap h' D vs out,gens:=s.gens,drawn:=s.drawn,toks:=tk} from I.step (g':=s.gens) (d':=s.drawn) (t':=tk) (ch:=[]) (fun _ z=>nomatch z) (fun b o nb _ _ eb _=>new b o nb eb) (fun b o nb _ _ eb _=>⟨o.slots,new b o nb eb⟩) (fun b o _ eb hb=>?_) (fun b o _ eb=>?_)
  (fun b xs hb=>by rw[aD (nn hb)];exact hb) (fun b o u hb=>by rw[aD (nn hb)];exact hb) (fun b ps hb=>⟨#[],by rw[aD (nn hb),hb];simp⟩) V5 (fun b o hb=>?_) I.bare,rfl,q D Ug Wh hp hs⟩
 ·by_cases Vk:b=D
  ·subst Vk;by_cases Vl:b=X.env.locals
   ·exact absurd Vl Wz
   ·exact absurd (old b o Vl eb).2 (ϝ _)
  ·rw[aD Vk];exact hb
 ·by_cases Vl:b=X.env.locals
  ·subst Vl;obtain⟨o1,Ur,V0,a1,r1⟩:=V5 m hn;exact⟨o1,a1⟩
  ·exact⟨o,new b o Vl eb⟩
 ·by_cases Vk:b=D
  ·subst Vk;rw[aA] at hb;cases hb;exact⟨by rw[Γ,hp.length_eq];omega,out.toList,e',DI Zt,Zs⟩
  ·rw[aD Vk] at hb;refine(I.TY b o hb).tF (fun c v hc ev=>?_) (fun c hc=>by rw[aD (nn hc)];exact hc) fun c xs hc=>by rw[aD (nn hc)];exact hc
   rcases hc with hc|hc
   ·subst hc;exact new c v (nl hb) ev
   ·exact new c v (nl hc) ev
end
section
variable{Q:VK}{p:Addr}
def Kz:Hh [.ref p] H Q=dF (H p) fun kvs=>iY (jB kvs) fun ns=>ns.length < 64/\∀(l:Addr) (Ug:List Str),H l=none->Ug.Perm ns->sortedS Ug=true->Q (.ref l) (TH H l (.lst (Ug.map V.str))):=rfl
end
end L2
namespace PySem
open AutoSeq1 (wpAny_loadPart')
open PyProof.Rows PySem.W
section
variable {prog:Program} {w:World} {A:Around} {E:q0A} {s:Shared} {K:Type} [DecidableEq K] {knd:KeyKind prog w K} {r d:Addr} {kvs:List (K×Value)} {ep:Nat}
def mF{Q₁:q0A}(hh:A.handled=none)(hv:s.heap.IsItemsView r d)(hm:s.heap.DictAt knd d kvs ep)(hn:kvs.length<=sizeLine)(hQ:∀(h':Heap) (tk:Nat) (as:List Addr),(∀ b o,s.heap.get? b=some o->h'.get? b=some o)->as.length=kvs.length->KdxG knd kvs s.heap.objs.size h' as->Q₁ (.ref h'.objs.size) {s with heap:=h'.push {cls:=.type "tuple",data:=.seq (as.map Value.ref).toArray},toks:=tk}) : codeAny (model prog w) A (.call (.builtin "tuple.__new__") ⟨[.type "tuple",.ref r],[]⟩) (wants Q₁ E) s:=by
 refine codeAny_of_tree ?_;show wpAny _ A.in1 (do checkBuiltinCall "tuple.__new__" ⟨[.type "tuple",.ref r],[]⟩;again (.builtin "tuple.__new__" ⟨[.type "tuple",.ref r],[]⟩)) _ _ s;refine Β (wpAny_of_eq (F.newCall_tuple_1 _) (Θ ⟨plainId_quiet F.plain_tuple_new _,Ε9 F.entry_tuple_new ?_⟩));rw[Ε1 F.plain_tuple_new _];have Xp:=sub_tuple_self;have abH:=init_tuple_lookup;have hmh:=madeHere_tuple;have hTI:s.TypeIs (.ref r) "dict_items":=let ⟨o,ho,x,_⟩:=hv;⟨o,ho,x⟩;wp_walk using wpAny_typeOf hTI,kdx_collect (A:=A.in1) (knd:=knd) (kvs:=kvs) (ep:=ep) hh hv hm hn;intro h' tk as hk hl hG;show wpAny _ _ (Builtin.Tuple.tupleExact (as.map Value.ref).toArray >>= fun v=>ret v) _ _ _;unfold Builtin.Tuple.tupleExact;refine Β (Γ0 ?_ (by show(as.map Value.ref).toArray.size<=sizeLine;simpa[hl] using hn));refine Θ ?_;exact hQ h' tk as hk hl hG
theorem qS{Q:q0A}(hh:A.handled=none)(hv:s.heap.IsItemsView r d)(hm:s.heap.DictAt knd d kvs ep)(hn:kvs.length<=sizeLine)(hQ:∀(h':Heap) (tk:Nat) (as:List Addr),(∀ b o,s.heap.get? b=some o->h'.get? b=some o)->as.length=kvs.length->KdxG knd kvs s.heap.objs.size h' as->Q (.ref h'.objs.size) {s with heap:=h'.push {cls:=.type "tuple",data:=.seq (as.map Value.ref).toArray},toks:=tk}) : wpAny (model prog w) A (call (.type "tuple") [.ref r]) Q E s:=by
 refine callType_codes (Q₁:=fun obj s₁=>s₁.TypeIs obj "tuple"/\Q obj s₁) F.called_tuple (F.typeCall_tuple_1 _) F.entry_object_init
  (mF (knd:=knd) (kvs:=kvs) (ep:=ep) hh hv hm hn fun h' tk as hk hl hG=>⟨⟨_,Τ _ rfl,rfl⟩,hQ h' tk as hk hl hG⟩) fun obj s₁ h₁=>?_
 exact⟨h₁.1,F.args_object_init_2 obj _,object_init_meets F.called_tuple.init.lookup F.called_tuple.made (by decide) prog w A.in1 _ s₁ ⟨h₁.1,rfl,h₁.2⟩⟩
end
end PySem
namespace L2
open PySem PySem.Spec PyProof.Rows
variable{a:Addr}{items:Array Value}{X:Cx}{H:Hp}{kvs:List (Key×V)}{ns:List Int}{vs:List Value}{i n:Nat}{st:SortSt}
def MN(a d:Addr):HO:=.ext fun h=>h.IsItemsView a d
section
variable{o:Expr}{td:TE}{apos T9:Pos}
def Hb(td:TE):TE:=fun Z H Q=>td Z H fun x H1=>bH x fun a=>dF (H1 a) fun _=>∀ r,H1 r=none->Q (.ref r) (TH H1 r (MN r a))
def IT(ho:PE X o td)(UA:attributeBase o "items" X.env (eval o X.env)=eval o X.env:=by rfl)(UB:(apos.endLine==T9.line)=true:=by rfl):PE X (.Call (.Attribute o "items" apos) [] [] T9) (Hb td):=fun TF s Z H Q I h=>by
 refine wpAny_Call_method0_late UA UB (thn (ho TF s Z H _ I h) fun v s1 ⟨x,H1,I1,r1,q1⟩=>?_);obtain⟨a,rfl,q2⟩:=aU q1;obtain⟨kvs,e0,q3⟩:=dN q2;obtain rfl:v=Value.ref a:=r1;obtain⟨t1,t2,_⟩:=qX I1 (.inl ⟨kvs,.inl e0⟩);refine⟨"dict","dict.items",Γ6,PySem.F.slot_dict_items,PySem.F.type_dict_items,t1,t2,Α6 rfl (PySem.evalArgs_none ?_)⟩;obtain⟨z,hd,vs,rel,dd⟩:=oC I1.TY e0;refine Δ3 PySem.F.slot_dict_items dd.typeIs PySem.F.entry_dict_items (PySem.F.args_dict_items_1 _) (meets_dict_items (bJ X.prog X.w) a hd) ⟨⟨vs,dd⟩,?_⟩;have I2:=I1.laid (t':=s1.toks) (fun b o e=>Η _ e) (Ι _) (show eC X.prog X.w _ (s1.heap.push {cls:=.type "dict_items",data:=.fields #[.ref a]}) _ (MN s1.heap.objs.size a) from ⟨⟨_,Τ _ rfl,rfl,rfl⟩,⟨_,Τ _ rfl⟩,fun h1 h2 ⟨o,ho,x⟩ k=>⟨o,k o ho,x⟩⟩);exact⟨.ref _,_,I2,rfl,q3 _ (I1.TY.fresh (Ι _))⟩
end
mutual
example:=[Key×V,as.map V.ref,.tup 1e0,(.tup [kV k,x]),l9 as kvs H]
def KV.atR{vs:List (Key×Value)}(r:KV kvs vs){k:Key}{x:V}(e:kvs[i]?=some (k,x)):∃ v,vs[i]?=some (k,v)/\bQ x v:=by
 unfold KV at r
 induction r generalizing i with
 | nil=>simp at e
 | @cons p q ps qs h t ih=>cases i with
  | zero =>
   have e':p=(k,x):=by simpa using e
   subst e';exact⟨q.2,by rw[Ξ,show k=q.1 from h.1],h.2⟩
  | succ i=>simpa using ih (i:=i) (by simpa using e)
theorem zW:∀ as:List Addr,TU 1e0 (as.map Value.ref)
 | []=>.nil
 | a::as=>.cons rfl (zW as)
def l9:List Addr->List 0e0->Hp->Hp
 | a::as,(k,x)::kvs,H=>TH 4e0 a 3e0
 | _,_,H=>H
theorem nG{H:Hp}{b:Addr}:∀ {as:List Addr} {kvs:List 0e0},b∉as->l9 as kvs H b=H b
 | [],_,_=>by simp[l9]
 | a::as,[],_=>by simp[l9]
 | a::as,(k,x)::kvs,h=>by
  simp only[Α,not_or] at h;rw[l9,aD h.1,nG h.2]
theorem uA{H:Hp}{a:Addr}{k:Key}{x:V}:∀ {as:List Addr} {kvs:List 0e0} {j:Nat},as.Nodup->as[j]?=some a->kvs[j]?=some (k,x)->l9 as kvs H a=some 3e0
 | [],_,_,_,h,_=>by simp at h
 | b::as,[],_,_,_,h=>by simp at h
 | b::as,(k',x')::kvs,0,_,h1,h2=>by
  simp only[Ξ,Ο,Prod.mk.injEq] at h1 h2;obtain⟨rfl,rfl⟩:=h2;subst h1;rw[l9,aA]
 | b::as,(k',x')::kvs,j+1,nd,h1,h2=>by
  rw[ϗ] at nd;simp only[List.getElem?_cons_succ] at h1 h2;have:a≠b:=fun z=>nd.1 (by rw[<- z];exact Υ h1);rw[l9,aD this,uA nd.2 h1 h2]
theorem GR{b:Addr}{o:HO}{as:List Addr}(nd:as.Nodup)(hl:as.length=kvs.length)(hb:b∈as)(h:l9 as kvs H b=some o):∃(j:Nat) (k:Key) (x:V),as[j]?=some b/\kvs[j]?=some (k,x)/\o=.tup [kV k,x]:=by
 obtain⟨j,hj⟩:=List.mem_iff_getElem?.mp hb;have Uu:j < kvs.length:=by have:=(Λ.mp hj).1;omega
 obtain⟨⟨k,x⟩,e⟩:∃ y,kvs[j]?=some y:=⟨_,ϐ Uu⟩;rw[uA nd hj e] at h;exact⟨j,k,x,hj,e,(ϖ h).symm⟩
def Hj:List V->Hp->VK->Prop:=fun vs H Q=>on1 vs fun x=>bH x fun r=>∃(d:Addr) (kvs:List 0e0),H r=some (MN r d)/\H d=some (.dK kvs)/\∀(l:Addr) (as:List Addr) (H':Hp),H l=none->Same H H'->H' l=some 2e0->as.length=kvs.length->(∀(j:Nat) (a:Addr) (k:Key) (x:V),as[j]?=some a->kvs[j]?=some (k,x)->H' a=some 3e0)->Q (.ref l) H'
theorem CT(hc:X.calm=true):gA X (.type "tuple") Hj:=fun TF s Z H xs us Q I rr h=>by
 obtain⟨x,rfl,h1⟩:=jJ h;obtain⟨r,rfl,d,kvs,er,ed,q⟩:=aU h1;obtain⟨u,rfl,ru⟩:=vals1 rr;cases ru;have hv:s.heap.IsItemsView r d:=(I.TY r _ er).1;obtain⟨z,hd,XW,rel,dd⟩:=oC I.TY ed;obtain⟨ep,dat⟩:=dd.dictAt;have l0:=rel.length;refine qS (knd:=bJ X.prog X.w) (kvs:=XW) (ep:=ep) (I.ok.hd hc) hv dat (by omega) fun h' tk as hk hl hG=>?_;have fresh:∀ {b:Addr},s.heap.objs.size<=b->H b=none:=fun hb=>I.TY.fresh hb;have YG:∀ b o,H b=some o->∃ ob,s.heap.get? b=some ob:=fun b o e=>(I.TY b o e).there;have hl0:H h'.objs.size=none:=by
  cases e:H h'.objs.size with
  | none=>rfl
  | some o =>
   obtain⟨ob,eb⟩:=YG _ _ e;exact absurd (Μ (hk _ _ eb)) (ϝ _)
 have nd:as.Nodup:=hG.rise.imp fun h=>Ρ h;have aH:∀ a∈as,H a=none:=fun a ha=>fresh (Nat.le_of_lt (hG.above a ha));have nl:h'.objs.size∉as:=fun z=>absurd (hG.there z) (ϝ _);have hlk:as.length=kvs.length:=by omega
 have same:Same H (TH 4e0 h'.objs.size 2e0):=fun b o e=>by
  have h1:b≠h'.objs.size:=fun z=>by rw[z,hl0] at e;cases e
  have h2:b∉as:=fun z=>by rw[aH b z] at e;cases e
  rw[aD h1,nG h2];exact e
 have Vp:∀ b o,s.heap.get? b=some o->(h'.push {cls:=.type "tuple",data:=.seq (as.map Value.ref).toArray}).get? b=some o:=fun b o e=>Η _ (hk b o e);refine⟨.ref h'.objs.size,TH 4e0 h'.objs.size 2e0,show TQ X TF Z _ {s with heap:=h'.push {cls:=.type "tuple",data:=.seq (as.map Value.ref).toArray},gens:=s.gens,drawn:=s.drawn,toks:=tk} from I.step (g':=s.gens) (d':=s.drawn) (t':=tk) (ch:=[]) (fun _ z=>nomatch z) (fun b o nb _ _ eb _=>Vp b o eb) (fun b o nb _ _ eb _=>⟨o.slots,Vp b o eb⟩) (fun b o _ eb hb=>?_) (fun b o _ eb=>⟨o,Vp b o eb⟩)
  (fun b xs hb=>same b _ hb) (fun b o u hb=>same b _ hb) (fun b ps hb=>⟨#[],by rw[same b _ hb];simp⟩) (fun m hm=>?_) (fun b o hb=>?_) I.bare,rfl,q _ as _ hl0 same aA hlk fun j a k x e1 e2=>?_⟩
 ·have h1:b≠h'.objs.size:=Ρ (Μ (hk b o eb));have h2:b∉as:=fun z=>absurd (Nat.lt_trans (hG.above b z) (Μ eb)) (ϝ _);rw[aD h1,nG h2];exact hb
 ·obtain⟨o1,Ur,V0,a1,r1⟩:=hm;exact⟨o1,Ur,V0,Vp _ _ a1,r1⟩
 ·by_cases h1:b=h'.objs.size
  ·subst h1;rw[aA] at hb;cases hb;exact⟨by rw[Γ];omega,as.map Value.ref,zW as,IsTup.new _ _⟩
  ·rw[aD h1] at hb;by_cases h2:b∈as
   ·obtain⟨j,k,x,e1,e2,rfl⟩:=GR nd hlk h2 hb;obtain⟨key,k',x',e3,e4,e5⟩:=hG.pairs j b e1;obtain⟨v,e6,e7⟩:=KV.atR rel e2;rw[e3] at e6;cases e6;exact⟨by show 2<=sizeLine;rw[Ε4];decide,[key,x'],.cons (pN e4) (.cons e7 .nil),⟨_,Η _ e5,rfl,_,rfl⟩⟩
   ·rw[nG h2] at hb;exact(I.TY b o hb).tF (fun c v _ ev=>Vp c v ev) (fun c hc=>same _ _ hc) fun c xs hc=>same _ _ hc
 ·have:a≠h'.objs.size:=fun z=>nl (by rw[<- z];exact Υ e1);rw[aD this,uA nd e1 e2]
end
section
variable{Q:VK}{p:Addr}{td:TE}{Z:St}
def Kj:Hb td Z H Q=td Z H fun x H1=>bH x fun a=>dF (H1 a) fun _=>∀ r,H1 r=none->Q (.ref r) (TH H1 r (MN r a)):=rfl
def KJ:Hj [.ref p] H Q = ∃(d:Addr) (kvs:List (Key×V)),H p=some (MN p d)/\H d=some (.dK kvs)/\∀(l:Addr) (as:List Addr) (H':Hp),H l=none->Same H H'->H' l=some (.tup (as.map V.ref))->as.length=kvs.length->(∀(j:Nat) (a:Addr) (k:Key) (x:V),as[j]?=some a->kvs[j]?=some (k,x)->H' a=some (.tup [kV k,x]))->Q (.ref l) H':=rfl
end
mutual
example:=[]
def GO(a b:Str):Prop:=a.cps.toList<=b.cps.toList
def yZ{a b c:Str}(h:GO a b)(g:GO b c):GO a c:=List.le_trans h g
def Io{a b:Str}(h:GO a b)(g:GO b a):a=b:=by
 have e:=List.le_antisymm h g;obtain⟨⟨x⟩⟩:=a;obtain⟨⟨y⟩⟩:=b;simp only at e;rw[e]
def FA(a b:Str):GO a b\/GO b a:=List.le_total a.cps.toList b.cps.toList
theorem wO:∀ {l:List Str} {p:Str},risingS p l=true->(p::l).Pairwise GO
 | [],p,_=>by simp
 | x::r,p,h=>by
  rw[risingS,Γ9,Bool.not_eq_true',ltCps_eq,decide_eq_false_iff_not,List.not_lt] at h;have ih:=wO h.2;rw[Γ2];refine⟨fun y hy=>?_,ih⟩;rcases Α.mp hy with rfl|hy
  ·exact h.1
  ·exact yZ h.1 ((Γ2.mp ih).1 y hy)
def Dt{l:List Str}(h:sortedS l=true):l.Pairwise GO:=by
 cases l with
 | nil=>exact .nil
 | cons x r=>exact wO h
theorem EB:∀ {a b:List Str},a.Perm b->a.Pairwise GO->b.Pairwise GO->a=b
 | [],b,p,_,_=>by rw[List.nil_perm.mp p]
 | x::a,[],p,_,_=>by have:=p.length_eq;simp at this
 | x::a,y::b,p,ha,hb=>by
  rw[Γ2] at ha hb;have e:x=y:=by
   have h1:x∈y::b:=p.mem_iff.mp (by simp);have h2:y∈x::a:=p.mem_iff.mpr (by simp);rcases Α.mp h1 with h1|h1
   ·exact h1
   rcases Α.mp h2 with h2|h2
   ·exact h2.symm
   exact Io (ha.1 y h2) (hb.1 x h1)
  subst e;rw[EB p.cons_inv ha.2 hb.2]
def Q0(a b:Str):Bool:=!(ltCps b.cps.toList a.cps.toList)
def nQ{a b:Str}:Q0 a b=true↔GO a b:=by
 rw[Q0,Bool.not_eq_true',ltCps_eq,decide_eq_false_iff_not,List.not_lt];exact Iff.rfl
def srt(l:List Str):List Str:=l.mergeSort Q0
def JA{l ns:List Str}(p:ns.Perm l)(h:sortedS ns=true):ns=srt l:=by
 refine EB (p.trans (List.mergeSort_perm l Q0).symm) (Dt h) ?_;have:=List.pairwise_mergeSort (le:=Q0) (fun a b c h g=>nQ.mpr (yZ (nQ.mp h) (nQ.mp g))) (fun a b=>by
  rcases FA a b with h|h
  ·rw[nQ.mpr h];simp
  ·rw[nQ.mpr h];simp) l
 exact this.imp fun h=>nQ.mp h
theorem Em:∀(f n r:Nat),r<=1->minRun' f n r<=n+r
 | 0,n,r,_=>Nat.le_of_eq rfl
 | f+1,n,r,hr=>by
  rw[minRun'_succ];split
  ·omega
  ·have:=Em f (n / 2) (max r (n % 2)) (by omega);omega
end
section
mutual
example:=[(by omega),arrOf st,model prog w,(Obj.mapSeq fun _=>#[]),pairsOf (u::v::rest),wpS_get ?_,(by simp),u::v::rest,seqObj "tuple" vs.toArray 0,seqObj "list" #[] e1,seqObj "list" #[] 0,pairsOf vs]
variable{prog:Program}{w:World}{A:Around}{E:q0A}{s:Shared}{b0:Array Keyed}
theorem Pd{C:Option Nat->SortSt->Prop}(ik:IntKeys b0)(sb:SBase b0 st)(one:1<=b0.size)(up:∀ n,1<=n->n < b0.size->K 1e0 (n - 1)<=K 1e0 n)(q:SortedTo 1e0 b0.size->C (some b0.size) st):wpS 2e0 A E s (countRun' 0 b0.size) C st:=by
 rw[countRun0_eq];refine wpS_bind (wpS_ascLoop ik (Ι _) (Ι 1) one sb (fun i j a b=>?_) fun n n1 n2 so oz=>?_)
 ·obtain rfl:i=j:=by omega
  exact Int.le_refl _
 ·have en:n=b0.size:=by
   rcases oz with z|z
   ·exact z
   ·rcases Nat.lt_or_ge n b0.size with y|y
    ·have:=up n n1 y;omega
    ·omega
  dsimp only;rw[en] at so ⊢;rw[if_pos 6e0];exact wpS_pure (q so)
theorem LR{C:Unit->SortSt->Prop}(ik:IntKeys b0)(sb:SBase b0 st)(two:2<=b0.size)(up:∀ n,1<=n->n < b0.size->K 1e0 (n - 1)<=K 1e0 n)(q:∀ Ut,(arrOf Ut).Perm b0->failedOf Ut=none->SortedTo (arrOf Ut) b0.size->C () Ut):wpS 2e0 A E s sortRuns' C st:=by
 rw[sortRuns'_eq];refine wpS_bind 5e0;dsimp only;have mr:=Em b0.size b0.size 0 0e0;simp only[sb.size];obtain⟨P1,hP1⟩:∃ P1:SortSt->Prop,∀ z,P1 z=(arrOf z=arrOf st/\failedOf z=none/\pendingOf z = #[(0,b0.size,0)]/\SortedTo (arrOf z) b0.size):=⟨_,fun _=>rfl⟩;refine wpS_bind (wpS_mono (wpS_forRange (I:=fun x c z=>(x=0/\c=(none,0)/\z=st)\/(1<=x/\c=(none,b0.size)/\P1 z)) (Q:=fun c z=>c=(none,b0.size)/\P1 z) ?stp ?end0 (.inl ⟨rfl,rfl,rfl⟩)) ?aft)
 case end0 =>
  rintro c z (⟨a,_,_⟩|⟨_,a,b⟩)
  ·omega
  ·exact⟨a,b⟩
 case stp =>
  rintro x c z _ _ (⟨rfl,rfl,rfl⟩|⟨_,rfl,b⟩)
  ·dsimp only;rw[if_neg 0e0];simp only[Nat.sub_zero,Γ4];refine wpS_bind (Pd ik sb 0e0 up fun so=>?_);dsimp only;rw[if_neg 0e0];refine wpS_bind 5e0;rw[show(pendingOf z).back?=none by rw[sb.pend];rfl];dsimp only;refine wpS_bind (wpS_modify (wpS_pure (.inr ⟨Ι _,rfl,?_⟩)));rw[hP1];exact⟨rfl,sb.failed,by show(pendingOf z).push _=_;rw[sb.pend];rfl,so⟩
  ·dsimp only;rw[if_pos (Ι _)];exact wpS_pure ⟨rfl,b⟩
 case aft =>
  rintro c z ⟨rfl,b⟩;rw[hP1] at b;dsimp only;refine wpS_bind (wpS_mono (wpS_forRange (I:=fun _ c y=>y=z/\c=(none,())) (Q:=fun c y=>y=z/\c=(none,())) ?_ (fun _ _ e=>e) ⟨rfl,rfl⟩) ?_)
  ·rintro x c y _ _ ⟨rfl,rfl⟩;refine wpS_bind 5e0;rw[if_pos (by rw[b.2.2.1];exact Ι 1)];exact wpS_pure ⟨rfl,rfl⟩
  ·rintro c y ⟨rfl,rfl⟩;exact wpS_pure (q _ (b.1▸sb.perm) b.2.1 b.2.2.2)
def Ig(hI:IntsAre vs ns):∀ {i:Nat} {n:Int},ns[i]?=some n->∃ t,vs[i]?=some (.int n t):=by
 induction hI with
 | nil=>intro i n h;simp at h
 | cons m t _ ih =>
  intro i n h;cases i with
  | zero =>
   simp only[Ξ,Ο] at h;subst h;exact⟨t,rfl⟩
  | succ i=>exact ih (by simpa using h)
def Ma(hI:IntsAre vs ns){n:Int}(h:ns[i]?=some n):K 1e1 i=n:=by
 obtain⟨t,e⟩:=Ig hI h;have z:1e1[i]?=some (.int n t,.int n t):=by
  rw[<- Δ2,pairsOf_toList,List.getElem?_zip_eq_some];exact⟨e,e⟩
 unfold K;rw[z];rfl
theorem An{C:Fin->Shared->Prop}(ho:s.heap.get? a=some (seqObj "list" vs.toArray n))(hI:IntsAre vs ns)(hr:ns.Pairwise (·<=·))(hz:vs.length<=sizeLine)(q:∀(out:Array Value) (Ug:List Int),IntsAre out.toList Ug->Ug.Perm ns->Ug.Pairwise (·<=·)->C (.done (.ret .none)) {s with heap:=sortedHeap s.heap a vs out}) : wpAny 2e0 A (Builtin.«list.sort» ⟨[.ref a],[]⟩) C E s:=by
 by_cases Us:vs.length < 64
 ·exact list_sort_tree ho hI Us q
 have lI:vs.length=ns.length:=hI.length;have la:a < s.heap.objs.size:=Μ ho;rw[list_sort_plain];refine Β (listItems_at ho rfl (Β (listUpdate_at ho rfl ?_)));obtain⟨e1,o1⟩:∃ e1,(s.heap.update a 3e0).get? a=some 9e0:=⟨_,get?_update_seq ho (fun _=>#[])⟩;refine Β (seqEpoch_at o1 rfl (Β (wpAny_newTuple (Β (wpAny_newList (Β0 ?_))))));have o6:(((s.heap.update a 3e0).push 8e0).push 0e1).get? a=some 9e0:=Η _ (Η _ o1);show wpAny 2e0 A _ C E {s with heap:=((s.heap.update a 3e0).push 8e0).push 0e1};dsimp only;have UI:¬ vs.toArray.size < 2:=by rw[Ε];omega
 rw[if_neg UI,if_neg UI];obtain⟨u,v,rest,rfl⟩:∃ u v rest,vs=u::v::rest:=by
  match vs,Us with
  | [],z=>exact absurd 6e0 z
  | [_],z=>exact absurd 6e0 z
  | u::v::rest,_=>exact⟨u,v,rest,rfl⟩
 rw[keyKind_ints hI];refine Β (Θ (Β (Β5 (LR (b0:=pairsOf 7e0) (st:=SortSt.mk' oneType' ((u::v::rest).toArray.zip (u::v::rest).toArray) #[] 7 none)
  (C:=fun _ z=>(arrOf z).Perm 4e0/\failedOf z=none/\SortedTo (arrOf z) (pairsOf 7e0).size)
  hI.intKeys ⟨Array.Perm.refl _,rfl,rfl,rfl⟩ (by rw[pairsOf_size];simp) (fun i i1 i2=>?_) fun z x y c=>⟨x,y,c⟩) ?_ fun _ _ e=>e)))
 ·rw[pairsOf_size] at i2;have l1:i - 1 < ns.length:=by omega
  have l2:i < ns.length:=by omega
  show K 4e0 (i - 1)<=K 4e0 i;rw[Ma hI (ϐ l1),Ma hI (ϐ l2)];exact Ζ0.mp hr (i - 1) i l1 l2 0e0
 rintro⟨⟨⟩,z⟩ s' ⟨rfl,hp,hf,hs⟩;dsimp only;refine Β (seqEpoch_at o6 rfl (Β (listUpdate_at o6 rfl ?_ (hsz2:=by refine ϒ (Nat.le_of_eq ((Array.size_map ..).trans (hp.size_eq.trans (pairsOf_size _)))) ?_;omega))));rw[hf];simp only[bne_self_eq_false,Ϙ,Β4];obtain⟨Ug,h1,h2,h3⟩:=sorted_out hI hp hs;exact Θ (q _ Ug h1 h2 h3)
end
end
noncomputable def Hg:List V->Hp->VK->Prop:=fun vs H Q=>on1 vs fun x=>bH x fun p=>dF (H p) fun kvs=>iY (intKeys kvs) fun ns=>ns.Pairwise (· < ·)/\∀(l:Addr) (Ug:List Int),H l=none->Ug.Perm ns->Ug.Pairwise (·<=·)->Q (.ref l) (TH H l (.lst (Ug.map V.int)))
theorem CS(hc:X.calm=true):gA X (.builtin "sorted") Hg:=fun TF s Z H xs us Q I r h=>by
 obtain⟨x,rfl,h1⟩:=jJ h;obtain⟨p,rfl,h2⟩:=aU h1;obtain⟨kvs,e,h3⟩:=dN h2;obtain⟨ns,ek,aaJ,q⟩:=dQ h3;obtain⟨u,rfl,ru⟩:=vals1 r;cases ru;obtain⟨hl,hk⟩:=vB ek;obtain⟨z,hd,XW,rel,dd⟩:=oC I.TY e;obtain⟨ep,dat⟩:=dd.dictAt;obtain⟨od,es,ho,_⟩:=id dat;obtain⟨m,hn,_⟩:=I.loc;have UI:p≠X.env.locals:=aF e I.free;have l0:=rel.length;refine PySem.W.kdu_sorted (PySem.W.kdl_dict (knd:=bJ X.prog X.w) (kvs:=XW) (ep:=ep) hd) (I.ok.hd hc) (Att.C1 hn) (Att.mK UI ho) dat (by omega) fun D h' tk vs F N lt hlen hP=>?_;have hI:IntsAre vs ns:=Eg (by omega) fun j v ev=>by
  obtain⟨k,x,e1,e2⟩:=hP j v ev;have hj:j < kvs.length:=by
   have:=(Λ.mp e1).1;omega
  obtain⟨⟨k',x'⟩,Xw⟩:∃ y,kvs[j]?=some y:=⟨_,ϐ hj⟩;obtain⟨v',e3⟩:=KV.at rel Xw;rw[e1] at e3;cases e3;obtain⟨i,rfl,ei⟩:=hk j _ _ Xw;obtain⟨t,et⟩:=(show ∃ t,v=Value.int i t from pN e2);exact⟨i,t,ei,et⟩
 have hD:h'.get? D=some (seqObj "list" vs.toArray 0):=(N _ (List.Mem.head _)).1;have old:∀ b o,b≠X.env.locals->s.heap.get? b=some o->h'.get? b=some o/\b < D:=fun b o nb eb=>by
  by_cases hb:b=p
  ·subst hb;rw[ho] at eb;cases eb;exact⟨(N _ (List.Mem.tail _ (List.Mem.head _))).1,lt _ (List.Mem.head _)⟩
  ·have mem:=Att.lB (h:=s.heap) (L:=X.env.locals) (d:=p) |>.mpr ⟨nb,hb,eb⟩;exact⟨(N _ (List.Mem.tail _ (List.Mem.tail _ mem))).1,lt _ (List.Mem.tail _ mem)⟩
 have g:MeetsIn X.prog X.w (Builtin.«list.sort» ⟨[.ref D],[]⟩) (fun _ R s=>s.heap.get? D=some (seqObj "list" vs.toArray 0)/\∀(out:Array Value) (Ug:List Int),IntsAre out.toList Ug->Ug.Perm ns->Ug.Pairwise (·<=·)->R (.ok (.ret .none)) {s with heap:=sortedHeap s.heap D vs out}) :=
  fun A R s ⟨g1,g2⟩=>An g1 hI (aaJ.imp fun h=>Int.le_of_lt h) (by omega) fun out Ug a b c=>g2 out Ug a b c
 refine Δ3 PySem.F.slot_list_sort ⟨_,hD,rfl⟩ PySem.F.entry_list_sort (PySem.F.args_list_sort_1 _) g ⟨hD,fun out Ug Zt hp hs=>?_⟩;have Wz:D≠X.env.locals:=(N _ (List.Mem.head _)).2.1;have Wh:H D=none:=by
  cases z:H D with
  | none=>rfl
  | some o =>
   obtain⟨ob,eb⟩:=(I.TY D o z).there;exact absurd (old D ob Wz eb).2 (ϝ _)
 have new:∀ b o,b≠X.env.locals->s.heap.get? b=some o->(sortedHeap h' D vs out).get? b=some o:=fun b o nb eb=>by
  obtain⟨h1,h2⟩:=old b o nb eb;rw[sortedHeap_old (Ρ h2) (Μ h1)];exact h1
 obtain⟨e',Zs⟩:=sortedHeap_at (out:=out) hD;have V5:∀ m',s.heap.Ns X.env.locals m'->(sortedHeap h' D vs out).Ns X.env.locals m':=fun m' hm=>by
  have em:m'=m:=by
   obtain⟨o1,Ur,V0,a1,b1,_,c1⟩:=hm;obtain⟨o2,es2,Vb,a2,b2,_,c2⟩:=hn;rw[a1] at a2;cases a2;rw[b1] at b2;cases b2;funext y;rw[<- c1,<- c2]
  subst em;obtain⟨o1,Ur,V0,a1,r1⟩:=F.ns;exact⟨o1,Ur,V0,by rw[sortedHeap_old Wz.symm (Μ a1)];exact a1,r1⟩
 have nn:∀ {b:Addr} {o:HO},H b=some o->b≠D:=fun h z=>by subst z;rw[Wh] at h;cases h
 have nl:∀ {b:Addr} {o:HO},H b=some o->b≠X.env.locals:=fun h=>aF h I.free;refine⟨.ref D,TH H D (.lst (Ug.map V.int)),show TQ X TF Z _ {s with heap:=sortedHeap h' D vs out,gens:=s.gens,drawn:=s.drawn,toks:=tk} from I.step (g':=s.gens) (d':=s.drawn) (t':=tk) (ch:=[]) (fun _ z=>nomatch z) (fun b o nb _ _ eb _=>new b o nb eb) (fun b o nb _ _ eb _=>⟨o.slots,new b o nb eb⟩) (fun b o _ eb hb=>?_) (fun b o _ eb=>?_)
  (fun b xs hb=>by rw[aD (nn hb)];exact hb) (fun b o u hb=>by rw[aD (nn hb)];exact hb) (fun b ps hb=>⟨#[],by rw[aD (nn hb),hb];simp⟩) V5 (fun b o hb=>?_) I.bare,rfl,q D Ug Wh hp hs⟩
 ·by_cases Vk:b=D
  ·subst Vk;by_cases Vl:b=X.env.locals
   ·exact absurd Vl Wz
   ·exact absurd (old b o Vl eb).2 (ϝ _)
  ·rw[aD Vk];exact hb
 ·by_cases Vl:b=X.env.locals
  ·subst Vl;obtain⟨o1,Ur,V0,a1,r1⟩:=V5 m hn;exact⟨o1,a1⟩
  ·exact⟨o,new b o Vl eb⟩
 ·by_cases Vk:b=D
  ·subst Vk;rw[aA] at hb;cases hb;exact⟨by rw[Γ,hp.length_eq];omega,out.toList,e',nX Zt,Zs⟩
  ·rw[aD Vk] at hb;refine(I.TY b o hb).tF (fun c v hc ev=>?_) (fun c hc=>by rw[aD (nn hc)];exact hc) fun c xs hc=>by rw[aD (nn hc)];exact hc
   rcases hc with hc|hc
   ·subst hc;exact new c v (nl hb) ev
   ·exact new c v (nl hc) ev
section
variable{Q:VK}{p:Addr}
def Ky:Hg [.ref p] H Q=dF (H p) fun kvs=>iY (intKeys kvs) fun ns=>ns.Pairwise (· < ·)/\∀(l:Addr) (Ug:List Int),H l=none->Ug.Perm ns->Ug.Pairwise (·<=·)->Q (.ref l) (TH H l (.lst (Ug.map V.int))):=rfl
end
theorem B4{xs:List V}{TR:List Value}(r:TU xs TR):∀ js:List Nat,∃ ys,TU ys (js.filterMap fun x=>TR.toArray[x]?)/\(∀ y∈ys,y∈xs)/\ys.length<=js.length
 | []=>⟨[],.nil,by simp,by simp⟩
 | j::js=>by
  obtain⟨ys,h1,h2,h3⟩:=B4 r js;cases e:xs[j]? with
  | none =>
   have e':=r.none_of e;refine⟨ys,?_,h2,by simp only[Ζ];omega⟩;rw[List.filterMap_cons_none (by simpa using e')];exact h1
  | some x =>
   obtain⟨u,e',ru⟩:=r.get e;refine⟨x::ys,?_,fun y hy=>?_,by simp only[Ζ];omega⟩
   ·rw[List.filterMap_cons_some (by simpa using e')];exact .cons ru h1
   ·rcases Α.mp hy with rfl|hy
    ·exact Υ e
    ·exact h2 y hy
theorem Gu{lo hi:Option Int}{k:Int}(h:0 < k)(n:Nat):(sliceRange (sliceBounds lo hi (some k) n).1 (sliceBounds lo hi (some k) n).2.1 (sliceBounds lo hi (some k) n).2.2).length<=n:=by
 have a1:0<=(sliceBounds lo hi (some k) n).1:=by
  cases lo with
  | none=>simp[sliceBounds,h]
  | some i=>simp only[sliceBounds,Ε3,show k > 0 from h,Γ3];omega
 have a2:(sliceBounds lo hi (some k) n).2.1<=n:=by
  cases hi with
  | none=>simp[sliceBounds,h]
  | some i=>simp only[sliceBounds,Ε3,show k > 0 from h,Γ3];omega
 have a3:(sliceBounds lo hi (some k) n).2.2=k:=rfl;generalize sliceBounds lo hi (some k) n=z at *;obtain⟨b,c,d⟩:=z;simp only at a1 a2 a3;subst a3;unfold sliceRange;simp only[Γ,List.length_range,show d > 0 from h,Γ3];split
 ·next hl =>
  have:(c - b+d - 1) / d<=c - b:=by
   refine Int.lt_add_one_iff.mp ?_;refine Int.ediv_lt_of_lt_mul h ?_;have m:(c - b) * 1<=(c - b) * d:=Int.mul_le_mul_of_nonneg_left (by omega) (by omega);rw[Int.add_mul];generalize (c - b) * d=y at *;omega
  omega
 ·simp
section
variable{fr:List Nat}{tc:TT}{te tl:TE}{Z:St}{Q:VK}{K:q0B}
def Hw:xP K (u7 K tl) fr tc te Z H Q=tl Z H fun x H1=>bH x fun a=>(∃ xs,fY K H1 a xs)/\lc2 K (VX K a) fr tc te Z H1 Q:=by
 unfold xP u7
 congr 1
 funext x H1;exact propext ⟨fun⟨a,e,h1,h⟩=>by subst e;exact⟨h1,h⟩,fun h=>by obtain⟨a,rfl,h1,h⟩:=aU h;exact⟨a,rfl,h1,h⟩⟩
theorem Ik{ys:List V}(Pv:Nat->List V->Hp->Prop)(h0:Pv 0 [] H)(hz:∀ i xs H,Pv i xs H->xs.length<=1000000)(hl:∀ i xs H,Pv i xs H->fY K H a ys)(hs:∀(i:Nat) y xs H,i < ys.length->ys[i]?=some y->Pv i xs H->∃ p y1 y2,y=.ref p/\iR K H p [y1,y2]/\tc (some y1::some y2::bC fr Z) H fun b H2=>if b=true then te (some y1::some y2::bC fr Z) H2 (fun z H3=>Pv (i+1) (xs++[z]) H3) else Pv (i+1) xs H2)(hd:∀ xs H,Pv ys.length xs H->∀ p,H p=none->Q (.ref p) (TH H p (.lst xs))):lc2 K (VX K a) fr tc te Z H Q:=by
 refine⟨cW ys.length Pv,⟨ys.length,by simp,Α4 _,h0⟩,?_⟩;rintro i m xs H ⟨rfl,hi,pv⟩;refine⟨hz i xs H pv,?_⟩;have q1:=hl i xs H pv;by_cases lt:i < ys.length
 ·refine .inr ⟨⟨ys,ys[i],q1,by simp[lt]⟩,fun v H' yy=>?_⟩;obtain⟨e,yy⟩:=yy;subst e;obtain⟨p,y1,y2,ey,hp,hh⟩:=hs i v xs H' lt (yy ys q1) pv;refine⟨p,y1,y2,ey,hp,?_⟩;simp only[Be lt];exact hh
 ·refine .inl ⟨⟨ys,q1,by omega⟩,?_⟩;exact hd xs H ((show i=ys.length by omega)▸pv)
end
def uC:R2:=Hi
def kP:jT X (binaryOp .Add) uC:=Lq
section
variable{prog:Program}{w:World}{A:Around}{E:q0A}{s:Shared}
theorem uM{it t:Addr}{items:Array Value}(UI:t≠it):∀(n i:Nat) (s:Shared) (Q:List Value->Shared->Prop),s.heap.IsListIter it t i->s.heap.IsList t items->i+n<=items.size -> (∀ h',Heap.IsListIter h' it t (i+n)->Heap.SameBut it s.heap h'->Q ((items.toList.drop i).take n) {s with heap:=h'})->wpAny (model prog w) A (draw (.ref it) n) Q E s
 | 0,i,s,Q,hit,_,_,hQ=>by
  show wpAny _ _ (pure []) Q E s;exact Θ (by simpa using hQ s.heap hit (Heap.SameBut.refl ..))
 | n+1,i,s,Q,hit,ht,hle,hQ=>by
  have Uu:i < items.size:=by omega
  show wpAny _ _ (pyNext (.ref it) >>= _) Q E s;refine Β (wpAny_pyNext_list_item hit ht (x:=items[i]) (by simp[Uu]) fun h₁ Yg ZQ=>?_);refine Β (Β0 (uM UI n (i+1) _ _ Yg (ht.extBut ZQ.extBut UI) (by omega) fun h₂ aaO hs₂=>Θ ?_));have hd:items.toList.drop i=items[i]::items.toList.drop (i+1):=by simp[List.drop_eq_getElem_cons,Uu]
  have:=hQ h₂ (by rw[show i+(n+1)=i+1+n by omega];exact aaO) (ZQ.trans hs₂);rw[hd,Ζ3] at this;exact this
theorem qO{t:Addr}{Q:List Value->Shared->Prop}(hh:A.handled=none)(ht:s.heap.IsList t items)(hQ:∀ h',Heap.ExtBut s.heap.objs.size s.heap h'->Q items.toList {s with heap:=h'}):wpAny (model prog w) A (unpackItems (.ref t) items.size none) Q E s:=by
 have Uu:t≠s.heap.objs.size:=by obtain⟨o,ho,_⟩:=ht;exact Ρ (Μ ho)
 unfold unpackItems;refine Β ?_
 ·unfold notIterableAtAll;refine Β (wpAny_specialOf ht.typeIs slot_list_iter.lookup ?_);refine Θ ?_;simp only[Ϙ,Β4];refine Β (Β0 (wpAny_pyIter_list ht ?_));refine Β (Β0 (uM Uu items.size 0 _ _ ⟨_,Τ _ rfl,rfl,rfl⟩ (ht.push _) (by omega) fun h₁ Yg ZQ=>?_));have WA:List.take items.size (List.drop 0 items.toList)=items.toList:=by
   rw[List.drop_zero];exact List.take_of_length_le (by simp)
  rw[WA];rw[if_neg (by simp)];have ht₁:h₁.IsList t items:=(ht.push _).extBut ZQ.extBut Uu;refine Β (Β0 (wpAny_pyNext_list_end hh Yg ht₁ (by simp) fun h₂ he₂=>?_));simp only[Option.isSome_none,Ϙ,Β4];refine Θ (hQ h₂ fun b o hb e=>he₂ b o hb (ZQ.extBut b o hb (Η _ e)))
def oT{env:Env}{elts:List Expr}{x1}{pos:Pos}{t:Addr}{Q:Unit->Shared->Prop}(hh:A.handled=none)(ht:s.heap.IsList t items)(hn:(assignEach elts env).length=items.size)(ZP:(assignEach elts env).findIdx? (·.1)=none)(h:∀ h',Heap.ExtBut s.heap.objs.size s.heap h'->wpAny (model prog w) A (assignInOrder ((assignEach elts env).map (·.2)) items.toList) Q E {s with heap:=h'}) : wpAny (model prog w) A (assign (.Tuple elts x1 pos) env (.ref t)) Q E s:=by
 rw[assign_Tuple];refine Β (wpAny_standAt ?_);unfold unpack;rw[hn,ZP];exact Β (Β0 (qO hh ht h))
end
section
variable{pos:Pos}
def QM(K:q0B)(n:Nat)(t:TGs):TG:=fun v Z H Q=>∃ a xs,v=.ref a/\fY K H a xs/\xs.length=n/\t xs Z H Q
def IX{es:List Expr}{k:Nat}{t:TGs}(hc:X.calm=true)(h:PGs X es t)(hn:(assignEach es X.env).length=n:=by rfl)(Ud:(assignEach es X.env).findIdx? (·.1)=none:=by rfl):PG X (.Tuple es k pos) (QM X.K n t):=by
 intro TF s Z H v u Q I r hw;obtain⟨a,xs,e1,hq,hl,hw⟩:=hw;subst e1;cases r;obtain⟨TR,rv,ht,hz⟩:=I.list hq;refine oT (I.ok.hd hc) ht.isList (by simp[hn,<- hl,rv.length]) Ud fun h' hx=>?_;have I1:TQ X TF Z H {s with heap:=h'}:=I.kept (t':=s.toks) fun b o e=>hx b o (Ρ (Μ e)) e;exact h TF _ Z H xs _ Q I1 (by simpa using rv) hw
def NI{K:q0B}{t:TGs}{Z:St}{Q:St->Hp->Prop}:QM K n t (.ref a) Z H Q = ∃ xs,fY K H a xs/\xs.length=n/\t xs Z H Q:=propext ⟨fun⟨b,xs,e,h⟩=>by cases e;exact⟨xs,h⟩,fun⟨xs,h⟩=>⟨a,xs,rfl,h⟩⟩
end
mutual
example:=[]
def iM(i:Nat):TE:=fun Z H Q=>iY (Z[i]?).join fun v=>Q v H
def Bd(t:TE):TT:=fun Z H B=>t Z H fun x H'=>IF x fun k=>B k H'
def DO(sp:Sp)(t:TA):TE:=fun Z H Q=>t Z H fun vs H1=>sp vs H1 Q E0
def yO(C:Addr)(m:Str)(sp:Sp)(ta:TE)(t:TA):TE:=fun Z H Q=>ta Z H fun x H1=>bH x fun a=>iX C (H1 a) fun _ fs=>fs.lookup m=none/\t Z H1 fun vs H2=>sp (.ref a::vs) H2 Q E0
end
section
mutual
example:=[]
variable{e:Expr}{te ta:TE}{t:TA}{sp:Sp}{C:Addr}{m:Str}
def PE.cV(h:PE X e (nB i)):PE X e (iM i):=fun TF s Z H Q I q=>h TF s Z H Q I (by
 obtain⟨v,e,q⟩:=dQ q;refine⟨v,?_,q⟩;cases z:Z[i]? with
 | none=>rw[z] at e;cases e
 | some o=>rw[z] at e;cases o with
  | none=>cases e
  | some u=>cases e;rfl)
def PT.cT(h:PT X e (CB te)):PT X e (Bd te):=fun TF s Z H Q I q=>h TF s Z H Q I (by rw[HK];exact q)
def PE.cC(h:PE X e (EX sp [] E0 t)):PE X e (DO sp t):=fun TF s Z H Q I q=>h TF s Z H Q I (by rw[Hv];exact q)
def PE.cM(h:PE X e (Cz C m sp [] E0 ta t)):PE X e (yO C m sp ta t):=fun TF s Z H Q I q=>h TF s Z H Q I (by rw[HD];exact q)
end
end
section
mutual
example:=[]
variable{v:V}{o0 o1 o2 o3 o4 o5 o6:Option V}{Z:St}{Q:VK}{B:Bool->Hp->Prop}{te ta:TE}{t:TA}{sp:Sp}{C:Addr}{m:Str}
def Su:iM 0 (some v::Z) H Q=Q v H:=rfl
def Sv:iM 1 (o0::some v::Z) H Q=Q v H:=rfl
def Sw:iM 2 (o0::o1::some v::Z) H Q=Q v H:=rfl
def Sx:iM 3 (o0::o1::o2::some v::Z) H Q=Q v H:=rfl
def Sy:iM 4 (o0::o1::o2::o3::some v::Z) H Q=Q v H:=rfl
def Sz:iM 5 (o0::o1::o2::o3::o4::some v::Z) H Q=Q v H:=rfl
def SA:iM 6 (o0::o1::o2::o3::o4::o5::some v::Z) H Q=Q v H:=rfl
def SD:iM 7 (o0::o1::o2::o3::o4::o5::o6::some v::Z) H Q=Q v H:=rfl
def Nc:Bd te Z H B=te Z H fun x H'=>IF x fun k=>B k H':=rfl
def Na:DO sp t Z H Q=t Z H fun vs H1=>sp vs H1 Q E0:=rfl
def Nb:yO C m sp ta t Z H Q=ta Z H fun x H1=>bH x fun a=>iX C (H1 a) fun _ fs=>fs.lookup m=none/\t Z H1 fun vs H2=>sp (.ref a::vs) H2 Q E0:=rfl
end
end
theorem Gr{L U k:Int}(h:0 < k)(hL:0<=L)(hU:0<=U)(n:Nat):k * ((sliceRange (sliceBounds (some L) (some U) (some k) n).1 (sliceBounds (some L) (some U) (some k) n).2.1 (sliceBounds (some L) (some U) (some k) n).2.2).length:Int)<=max 0 (min U n - L)+k - 1:=by
 have a1:(sliceBounds (some L) (some U) (some k) n).1=min L n:=by
  simp only[sliceBounds,Ε3,show k > 0 from h,Γ3];omega
 have a2:(sliceBounds (some L) (some U) (some k) n).2.1=min U n:=by
  simp only[sliceBounds,Ε3,show k > 0 from h,Γ3];omega
 have a3:(sliceBounds (some L) (some U) (some k) n).2.2=k:=rfl;rw[a1,a2,a3];unfold sliceRange;simp only[Γ,List.length_range,show k > 0 from h,Γ3];split
 ·next hl =>
  have q:k * ((min U n - min L n+k - 1) / k)<=min U n - min L n+k - 1:=Int.mul_ediv_self_le (by omega);have p:0<=(min U n - min L n+k - 1) / k:=Int.ediv_nonneg (by omega) (by omega);rw[Int.toNat_of_nonneg p];generalize k * ((min U n - min L n+k - 1) / k)=y at *;omega
 ·simp;omega
section
noncomputable def RH(K:q0B)(te:TE)(tl th ts:TO):TE:=fun Z H Q=>te Z H fun x H1=>tl Z H1 fun l H2=>th Z H2 fun u H3=>ts Z H3 fun k H4=>∃ a xs m L U,x=.ref a/\fY K H4 a xs/\(l=some L/\u=some U/\k=some m)/\(0 < m/\0<=L/\0<=U)/\∀(ys:List V) p,(∀ y∈ys,y∈xs)->m * (ys.length:Int)<=max 0 (min U xs.length - L)+m - 1->H4 p=none->Q (.ref p) (TH H4 p (.lst ys))
theorem rT{e:Expr}{te:TE}{lo hi:Option Expr}{st:Expr}{tl th ts:TO}{p2 pos:Pos}(he:PE X e te)(hl:PO X lo tl)(hu:PO X hi th)(hs:PO X (some st) ts):PE X (.Subscript e (.Slice lo hi (some st) p2) pos) (RH X.K te tl th ts):=by
 intro TF s Z H Q I h;refine Subscript_ (thn (he TF s Z H _ I h) fun v s1 ⟨x,H1,I1,r1,q1⟩=>?_);refine wpAny_Slice (thn (hl TF s1 Z H1 _ I1 q1) fun vl s2 ⟨l,H2,I2,pl,q2⟩=>thn (hu TF s2 Z H2 _ I2 q2) fun vu s3 ⟨u,H3,I3,pu,q3⟩=>thn (hs TF s3 Z H3 _ I3 q3) fun vk s4 ⟨k,H4,I4',pk,q4⟩=>?_);have I4:TQ X TF Z H4 {s4 with heap:=s4.heap.push {cls:=.type "slice",data:=.fields #[vl,vu,vk]}}:=I4'.kept (t':=s4.toks) fun b ob q=>Η _ q;obtain⟨a,xs,m,L,U,rfl,hx,⟨rfl,rfl,rfl⟩,⟨hm,hL,hU⟩,q⟩:=q4;cases r1;obtain⟨TR,r,ht,hz⟩:=I4.list hx;have hlen:=r.length;show wpAny (model X.prog X.w) X.A (subscriptTail e (.Slice lo hi (some st) p2) (.ref a) (.ref s4.heap.objs.size)) (EP X TF Z Q) X.xe {s4 with heap:=s4.heap.push {cls:=.type "slice",data:=.fields #[vl,vu,vk]}};refine tail_any (ops:=[.ref a,.ref s4.heap.objs.size]) ht.isList.typeIs slot_list_getitem.lookup ?_ (by with_unfolding_all rfl);refine wpAny_getItem_list_slice ht.isList (Heap.IsSliceOf.new ..) pl pu pk (by intro z;cases z;omega) ?_ (by rw[Ε]<;>omega);obtain⟨ys,h1,h2,h3⟩:=B4 r (sliceRange (sliceBounds (some L) (some U) (some m) TR.toArray.size).1 (sliceBounds (some L) (some U) (some m) TR.toArray.size).2.1 (sliceBounds (some L) (some U) (some m) TR.toArray.size).2.2);have h4:=Gu (lo:=some L) (hi:=some U) hm TR.toArray.size;have h6:=Gr hm hL hU TR.toArray.size;rw[Ε] at h4 h6;have h5:ys.length<=xs.length:=by rw[Ε] at h3;omega
 have h7:m * (ys.length:Int)<=max 0 (min U xs.length - L)+m - 1:=by
  rw[Ε] at h3;have:m * (ys.length:Int)<=m * ((sliceRange (sliceBounds (some L) (some U) (some m) TR.length).1 (sliceBounds (some L) (some U) (some m) TR.length).2.1 (sliceBounds (some L) (some U) (some m) TR.length).2.2).length:Int):=Int.mul_le_mul_of_nonneg_left (by omega) (by omega);rw[hlen];omega
 refine⟨.ref (s4.heap.push {cls:=.type "slice",data:=.fields #[vl,vu,vk]}).objs.size,_,I4.laid (t':=s4.toks) (o:=.lst ys) (fun b ob q=>Η _ q) (Ι _) ?_,rfl,q ys _ h2 h7 (I4.TY.fresh (Ι _))⟩;exact⟨ϒ h5 hz,_,0,h1,Τ _ rfl⟩
def QE{K:q0B}{te:TE}{tl th ts:TO}{Z:St}{Q:VK}:RH K te tl th ts Z H Q=te Z H fun x H1=>tl Z H1 fun l H2=>th Z H2 fun u H3=>ts Z H3 fun k H4=>∃ a xs m L U,x=.ref a/\fY K H4 a xs/\(l=some L/\u=some U/\k=some m)/\(0 < m/\0<=L/\0<=U)/\∀(ys:List V) p,(∀ y∈ys,y∈xs)->m * (ys.length:Int)<=max 0 (min U xs.length - L)+m - 1->H4 p=none->Q (.ref p) (TH H4 p (.lst ys)):=rfl
end
end L2
namespace Own
open PySem L2
variable{XP:(q0C)->Heap->Prop}{C a dd fl l o2 op:Addr}{Wm:Array (Option Value)}{wt:Bool}{o:HO}{base:Heap}{G H H' H1:Hp}{j:Int}{kvs:List (Key×V)}{D UY:List Addr}{ns pd pend pt:List Int}{K L loose:List Str}{ds us xs ys:List V}{N i p:Nat}{s0 s1 s2 s3 s4 s5 s6 s7 s8:Sp}{Z:St}{k q:Str}{ot ot':Str->Option V}{v y:V}{Q:VK}{E:XK}{mg:q0C}
local macro_rules | `(tactic| exists $ts,*) => `(tactic| wp_walk using $ts,*)
set_option hygiene false in
local macro_rules | `(tactic| nomatch $a) => `(tactic| refine ($a).ok (fun vs H Q E h => ?_) (fun cdv A outer s H vs Q E hr sc h => ?_))
set_option hygiene false in
local macro_rules | `(tactic| nomatch $a, 0) => `(tactic| (refine ⟨_, $a, ?_⟩; clear sc; try dsimp only [L2.start, C5, Ir, List.cons_append, List.nil_append, List.replicate_succ, List.replicate_zero, List.length_cons, List.length_nil, Nat.reduceAdd, Nat.reduceSub, Nat.zero_add]))
set_option hygiene false in
local macro_rules | `(tactic| left) => `(tactic| (refine cG fun R0 hR0 => ?_; try dsimp only))
set_option hygiene false in
local macro_rules | `(tactic| right) => `(tactic| (refine hR0 _ _ ?_; clear hR0; try clear R0))
local macro_rules | `(tactic| and_intros) => `(tactic| try dsimp only [L2.start, C5, Ir, List.cons_append, List.nil_append, List.replicate_succ, List.replicate_zero, List.length_cons, List.length_nil, Nat.reduceAdd, Nat.reduceSub, Nat.zero_add])
local macro_rules | `(tactic| infer_instance) => `(tactic| first | exact ⟨rfl, by first | exact Or.inl rfl | exact Or.inr (Or.inl rfl) | exact Or.inr (Or.inr rfl), by decide, by decide⟩ | exact ⟨rfl, rfl, rfl, by decide +kernel, rfl, by decide +kernel, by decide +kernel⟩)
seal PE PA PT PW PS Va PI PG PGs Xc PO PPs
mutual
example:=[]
inductive A4(p0 p1 p2 p3:Prop):Prop
 | mk (_:p0) (_:p1) (_:p2) (_:p3):A4 p0 p1 p2 p3
inductive A5(p0 p1 p2 p3 p4:Prop):Prop
 | mk (_:p0) (_:p1) (_:p2) (_:p3) (_:p4):A5 p0 p1 p2 p3 p4
inductive A6(p0 p1 p2 p3 p4 p5:Prop):Prop
 | mk (_:p0) (_:p1) (_:p2) (_:p3) (_:p4) (_:p5):A6 p0 p1 p2 p3 p4 p5
inductive A7(p0 p1 p2 p3 p4 p5 p6:Prop):Prop
 | mk (_:p0) (_:p1) (_:p2) (_:p3) (_:p4) (_:p5) (_:p6):A7 p0 p1 p2 p3 p4 p5 p6
inductive A15(p0 p1 p2 p3 p4 p5 p6 p7 p8 p9 p10 p11 p12 p13 p14:Prop):Prop
 | mk (_:p0) (_:p1) (_:p2) (_:p3) (_:p4) (_:p5) (_:p6) (_:p7) (_:p8) (_:p9) (_:p10) (_:p11) (_:p12) (_:p13) (_:p14):A15 p0 p1 p2 p3 p4 p5 p6 p7 p8 p9 p10 p11 p12 p13 p14
inductive E2{α0 α1:Type}(P:α0->α1->Prop):Prop
 | mk (a0:α0) (a1:α1) (_:P a0 a1):E2 P
inductive E5{α0 α1 α2 α3 α4:Type}(P:α0->α1->α2->α3->α4->Prop):Prop
 | mk (a0:α0) (a1:α1) (a2:α2) (a3:α3) (a4:α4) (_:P a0 a1 a2 a3 a4):E5 P
inductive E6{α0 α1 α2 α3 α4 α5:Type}(P:α0->α1->α2->α3->α4->α5->Prop):Prop
 | mk (a0:α0) (a1:α1) (a2:α2) (a3:α3) (a4:α4) (a5:α5) (_:P a0 a1 a2 a3 a4 a5):E6 P
inductive E7{α0 α1 α2 α3 α4 α5 α6:Type}(P:α0->α1->α2->α3->α4->α5->α6->Prop):Prop
 | mk (a0:α0) (a1:α1) (a2:α2) (a3:α3) (a4:α4) (a5:α5) (a6:α6) (_:P a0 a1 a2 a3 a4 a5 a6):E7 P
inductive E9{α0 α1 α2 α3 α4 α5 α6 α7 α8:Type}(P:α0->α1->α2->α3->α4->α5->α6->α7->α8->Prop):Prop
 | mk (a0:α0) (a1:α1) (a2:α2) (a3:α3) (a4:α4) (a5:α5) (a6:α6) (a7:α7) (a8:α8) (_:P a0 a1 a2 a3 a4 a5 a6 a7 a8):E9 P
structure Pr(K:q0B)(x q:Str)(st:Stmt)(ns ps:List Str)(f:Addr)(d:FuncData)(M:Prop):Prop where
 fn:Fun K x q st f d
 bd:Binds K d ps []
 sc:nE ns ps (cY st)
 m:M
abbrev kF(K:q0B)(mg:q0C)(x:Str)(st:Stmt)(ns ps:List Str)(f:Addr)(d:FuncData):Prop:=Pr K x x st ns ps f d (mg x=some (.ref f))
abbrev nF(K:q0B)(C:Addr)(x q:Str)(st:Stmt)(ns ps:List Str)(f:Addr)(d:FuncData):Prop:=Pr K x q st ns ps f d (Meth K C x f)
end
section
open PySem.Spec PyProof.Rows
mutual
example:=[some (.ref f),.ref f,cY st,PySem.W.fnOf x x (iG st) (gH st) (cY st) .none kV doc pm an Uo ct,PySem.W.fnOf x q (iG st) (gH st) (cY st) .none kV doc pm an Uo ct,ps.zip us]
variable{P:Program}{w:World}{K:q0B}{h:Heap}{x:Str}{st:Stmt}{ns ps:List Str}{f:Addr}{d:FuncData}{M:Prop}{k:Nat}{sp:Sp}
def Pr.ok(g:Pr K x q st ns ps f d M)(len:∀ vs H Q E,sp vs H Q E->vs.length=ps.length)(Vm:∀(Uo:Value) (A:Around) (outer:List Env) (s:Shared) (H:Hp) (vs:List V) (Q:VK) (E:XK),Room k (A.deeper (envOfC q 2e0 s.heap.objs.size f Uo))->ns.Nodup->sp vs H Q E -> ∃ t,Va (Ab UR P w K mg base ns q 2e0 f Uo A outer s H E).nox (gH st) t/\t {nx:=fun _ H'=>Q .TK H',rt:=Q} (start ns vs) H):gO P w K mg base UR (k+1) f d ps sp:=g.fn.ok g.sc len fun Uo A outer s H vs Q E hr h=>Vm Uo A outer s H vs Q E hr g.sc.nd h
def b0{P:List Value->Prop}(h:P []):∀ us:List Value,us.length=0->P us:=fun us e=>by rw[List.length_eq_zero_iff.mp e];exact h
theorem bS{P:List Value->Prop}{n:Nat}(h:∀ a,∀ us:List Value,us.length=n->P (a::us)):∀ us:List Value,us.length=n+1->P us
 | [],e=>by cases e
 | a::us,e=>h a us (Nat.succ.inj e)
structure Gf0(K:q0B)(x:Str)(st:Stmt)(f:Addr)(d:FuncData):Prop where
 a:PySem.W.nsIn K mainGlobals x=some 0e0
 F:Fun K x x st f d
structure Gm0(K:q0B)(C:Addr)(x q:Str)(st:Stmt)(f:Addr)(d:FuncData):Prop where
 a:PySem.W.findIn K (.ref C) x=some 0e0
 i:PySem.W.isFn K 1e0=true
 F:Fun K x q st f d
def QP{oc:Value}{od an:Option Addr}{kV doc pm Uo ct:Value}(a:PySem.W.nsIn K mainGlobals x=some 0e0)(l:K.lookup f=some ⟨oc,od,.func 3e0,Wm⟩)(c:PySem.W.codeIn K Uo x=true)(k:PySem.W.keepIn K 1e0=true):Gf0 K x st f 3e0:=⟨a,HU l c k⟩
def QQ{oc:Value}{od an:Option Addr}{kV doc pm Uo ct:Value}(a:PySem.W.findIn K (.ref C) x=some 0e0)(i:PySem.W.isFn K 1e0=true)(l:K.lookup f=some ⟨oc,od,.func 4e0,Wm⟩)(c:PySem.W.codeIn K Uo q=true)(k:PySem.W.keepIn K 1e0=true):Gm0 K C x q st f 4e0:=⟨a,i,HU l c k⟩
def Gf0.go(F:Gf0 K x st f d)(X:K.In h)(G:h.Ns mainGlobals mg)(b:∀(kV doc pm:Value) (an:Option Addr) (Uo ct:Value) (us:List Value),us.length=ps.length->bindArgs 3e0 ⟨us,[]⟩=pure 5e0:=by exact fun _ _ _ _ _ _=>by repeat (first|exact b0 rfl|refine bS fun _=>?_))(sc:nE ns ps 2e0:=by infer_instance):kF K mg x st ns ps f d:=⟨F.F,F.F.binds b,sc,PySem.W.mg_of X G F.a⟩
def Gm0.go(F:Gm0 K C x q st f d)(b:∀(kV doc pm:Value) (an:Option Addr) (Uo ct:Value) (us:List Value),us.length=ps.length->bindArgs 4e0 ⟨us,[]⟩=pure 5e0:=by exact fun _ _ _ _ _ _=>by repeat (first|exact b0 rfl|refine bS fun _=>?_))(sc:nE ns ps 2e0:=by infer_instance):nF K C x q st ns ps f d:=⟨F.F,F.F.binds b,sc,F.a,F.i,F.F.kp⟩
end
end
section
open PySem.Spec PyProof.Rows
mutual
example:=[.Name x pos,e::es,.Attribute o m apos,DA r ta tb,(by omega),backToKw pos (keywordEach [] X.env),.Compare a [op] [b] pos,x==("__debug__":Str),starEach es X.env,getMethod ov m pl,compareOp op]
variable{X:Cx}{x:Str}{p pos:Pos}{e o:Expr}{es:List Expr}{t:TA}{k:Nat}{f:Addr}{fd:FuncData}{ns ps:List Str}{sp:Sp}{st:Stmt}{ta td ty te tb tv:TE}{a b i value:Expr}
theorem pcl(F:gO X.prog X.w X.K X.mg X.base UR k f fd ps sp)(g:kF X.K X.mg x st ns ps f fd)(ha:PA X 1e0 t)(hr:Room k X.A:=by exact hr.mono 4e0)(hg:Gl X x:=by rfl)(WD:7e0=false:=by decide)(he:starEach 1e0 X.env=(false,eval e X.env)::starEach es X.env:=by rfl)(Uy:(backTo pos 8e0).any (·.1)=false:=by rfl) : PE X (.Call (.Name x p) 1e0 [] pos) (DO sp t):=(AA F hr hg g.m g.fn.kp g.bd .nil pass0 ha WD he Uy).cC
theorem pmt{m:Str}{apos:Pos}{pl:Sem Bool}(he:PE X o ta)(c:Cls X.K C)(F:gO X.prog X.w X.K X.mg X.base UR k f fd ps sp)(g:nF X.K C m q st ns ps f fd)(ha:PA X 1e0 t)(hr:Room k X.A:=by exact hr.mono 4e0)
    (Ud:starEach 1e0 X.env=(false,eval e X.env)::starEach es X.env:=by rfl) (Uy:(backTo pos 8e0).any (·.1)=false:=by rfl)
    (ht:eval (.Call 2e0 1e0 [] pos) X.env=(do
      let ov <- eval o X.env
      standAt apos.atName
      let (f,first) <- holding [ov] 9e0
      callWith pos f first (backTo pos (starEach 1e0 X.env)) 5e0):=by rfl) :
    PE X (.Call 2e0 1e0 [] pos) (yO C m sp ta t):=(AB he c g.m F hr g.bd .nil pass0 ha Ud Uy ht).cM
theorem pmt0{m:Str}{apos:Pos}{pl:Sem Bool}(he:PE X o ta)(c:Cls X.K C)(F:gO X.prog X.w X.K X.mg X.base UR k f fd ps sp)(g:nF X.K C m q st ns ps f fd)(hr:Room k X.A:=by exact hr.mono 4e0)
    (ht:eval (.Call 2e0 [] [] pos) X.env=(do
      let ov <- eval o X.env
      standAt apos.atName
      let (f,first) <- holding [ov] 9e0
      callWith pos f first (backTo pos (starEach [] X.env)) 5e0):=by rfl) :
    PE X (.Call 2e0 [] [] pos) (yO C m sp ta qN):=(IV he c g.m F hr g.bd .nil pass0 ht).cM
theorem pst{pos':Pos}(i:Nat)(he:PE X e te)(hN:X.N.Nodup:=by exact sc)(hi:X.N[i]?=some x:=by rfl)(hx:Loc X.env.scope x:=by exact .inl rfl)(hs:swapsWith e (some (.Name x pos')) pos.line X.env=pure false:=by rfl)(hf:X.fn x=true\/X.env.scope.names.lookup x=some .local:=by first|exact .inl rfl|exact .inr rfl|assumption) : PS X (.Assign [.Name x pos'] e pos) (GF te (jV i)):=AE hN hi hx he hs hf
theorem pgn(i:Nat)(hN:X.N.Nodup:=by exact sc)(hi:X.N[i]?=some x:=by rfl)(hx:Loc X.env.scope x:=by exact .inl rfl)(hf:X.fn x=true\/X.env.scope.names.lookup x=some .local:=by first|exact .inl rfl|exact .inr rfl|assumption):PG X 0e0 (jV i):=tU hN hi hx hf
def pdg(ho:PE X o td)(hi:PE X i ty)(hs:JR i:=by exact fun _ _=>rfl)(hu:X.A.units+1 < cLine:=by exact mH hr):PE X (.Subscript o i pos) (MV td ty):=mT hu ho hi hs
def ppt{pos':Pos}(ho:PE X o td)(hi:PE X i ty)(hv:PE X value tv)(hs:swapsWith value (some (.Subscript o i pos')) pos.line X.env=pure false:=by rfl)(hu:X.A.units+1 < cLine:=by exact mH hr) : PS X (.Assign [.Subscript o i pos'] value pos) (M9 td ty tv):=Ly hu ho hi hv hs
def ptc{op:CmpOp}{r:R2}(ho:jT X 0e1 r)(ha:PE X a ta)(hb:PE X b tb)(hm:behindInMarks op b=false:=by exact nomark _):PT X 6e0 (Bd 3e0):=(fJ ho ha hb hm).cT
def pcr{op:CmpOp}{r:R2}(ho:jT X 0e1 r)(ha:PE X a ta)(hb:PE X b tb)(hm:behindInMarks op b=false:=by exact nomark _):PE X 6e0 3e0:=Lr ho ha hb hm
def pix{r:R2}(hr:DL X r)(ha:PE X a ta)(hb:PE X b tb)(hs:DM b:=by exact fun _ _=>rfl):PE X (.Subscript a b pos) 3e0:=Q8 hr ha hb hs
def pa1{t1:TE}{e1:Expr}(a:PE X e1 t1)(i:mI e1=false:=by rfl):PA X [e1] (jP t1 qN):=dY a bU i
def pa2{t1 t2:TE}{e1 e2:Expr}(a:PE X e1 t1)(b:PE X e2 t2)(i:mI e1=false:=by rfl)(j:mI e2=false:=by rfl):PA X [e1,e2] (jP t1 (jP t2 qN)):=dY a (pa1 b j) i
def pa3{t1 t2 t3:TE}{e1 e2 e3:Expr}(a:PE X e1 t1)(b:PE X e2 t2)(c:PE X e3 t3)(i:mI e1=false:=by rfl)(j:mI e2=false:=by rfl)(k:mI e3=false:=by rfl):PA X [e1,e2,e3] (jP t1 (jP t2 (jP t3 qN))):=dY a (pa2 b c j k) i
def pss2{s1 s2:Stmt}{t1 t2:TS}(a:PS X s1 t1)(b:PS X s2 t2):Va X [s1,s2] (DB t1 t2):=aI a (aJ b)
def pss3{s1 s2 s3:Stmt}{t1 t2 t3:TS}(a:PS X s1 t1)(b:PS X s2 t2)(c:PS X s3 t3):Va X [s1,s2,s3] (DB t1 (DB t2 t3)):=aI a (pss2 b c)
def pif{c:Expr}{l:List Stmt}{tc:TT}{t1:TS}(hc:PT X c tc)(ha:Va X l t1):PS X (.If c l [] pos) (AV tc t1 CA):=gE hc ha LB
def Pk(X:Cx)(i:Nat)(x:Str):Prop:=X.N[i]?=some x/\Vis X.env.scope x/\7e0=false/\(x==("__classdict__":Str))=false
def pv0(h:Pk X 0 x:=by infer_instance):PE X 0e0 (iM 0):=(lH h.1 h.2.1 h.2.2.1 h.2.2.2).cV
def pv1(h:Pk X 1 x:=by infer_instance):PE X 0e0 (iM 1):=(lH h.1 h.2.1 h.2.2.1 h.2.2.2).cV
def pv2(h:Pk X 2 x:=by infer_instance):PE X 0e0 (iM 2):=(lH h.1 h.2.1 h.2.2.1 h.2.2.2).cV
def pv3(h:Pk X 3 x:=by infer_instance):PE X 0e0 (iM 3):=(lH h.1 h.2.1 h.2.2.1 h.2.2.2).cV
def pv4(h:Pk X 4 x:=by infer_instance):PE X 0e0 (iM 4):=(lH h.1 h.2.1 h.2.2.1 h.2.2.2).cV
def pv5(h:Pk X 5 x:=by infer_instance):PE X 0e0 (iM 5):=(lH h.1 h.2.1 h.2.2.1 h.2.2.2).cV
def pv6(h:Pk X 6 x:=by infer_instance):PE X 0e0 (iM 6):=(lH h.1 h.2.1 h.2.2.1 h.2.2.2).cV
def pv7(h:Pk X 7 x:=by infer_instance):PE X 0e0 (iM 7):=(lH h.1 h.2.1 h.2.2.1 h.2.2.2).cV
end
end
def top(i:Nat):Stmt:=PySem.Challenge.pw_outlast_k18_whole_run_again.main.body.getD i (.Pass ⟨0,0,0,0⟩)
mutual
example:=[top 25,k _ _ e,top 11,.ref a,top 13,ev p s,(if n < 1000000000 then n else 1000000000),(if num a < num b then (1:Int) else 0),(if num (ev p s)=0 then 1 else 0),(.int (if b=true then 1 else 0)),(if a=b then (1:Int) else 0),some (.ref (t.a 21)),.int (clamp n),.int (num w),(by decide)]
abbrev Jf:Stmt:=top 4
abbrev zR:Stmt:=top 6
abbrev Cg:Stmt:=top 7
abbrev xB:Stmt:=top 8
abbrev oR:Stmt:=top 9
abbrev oO:Stmt:=bW 2e0 0
abbrev oP:Stmt:=bW 2e0 1
abbrev lZ:Stmt:=bW 2e0 2
abbrev jO:Stmt:=bW 2e0 3
abbrev lY:Stmt:=bW 2e0 4
abbrev oQ:Stmt:=bW 2e0 5
abbrev kT:Stmt:=bW 2e0 6
abbrev jN:Stmt:=bW 2e0 7
abbrev wW:Stmt:=bW 4e0 0
abbrev qF:Stmt:=bW 4e0 1
abbrev mY:Stmt:=bW 4e0 2
abbrev qG:Stmt:=bW 4e0 3
abbrev sM:Stmt:=bW 4e0 4
abbrev sN:Stmt:=bW 4e0 5
abbrev sO:Stmt:=bW 4e0 6
abbrev ED:Stmt:=top 16
abbrev zK:Stmt:=top 17
abbrev zL:Stmt:=top 18
abbrev Ce:Stmt:=top 19
abbrev Cc:Stmt:=top 20
abbrev Cf:Stmt:=top 21
abbrev Cd:Stmt:=top 22
abbrev EC:Stmt:=top 23
abbrev zG:Stmt:=bW 0e0 0
abbrev wU:Stmt:=bW 0e0 1
abbrev kS:Stmt:=bW 0e0 2
abbrev wR:Stmt:=bW 0e0 3
abbrev zI:Stmt:=bW 0e0 4
abbrev lW:Stmt:=bW 0e0 5
abbrev oN:Stmt:=bW 0e0 6
abbrev lX:Stmt:=bW 0e0 7
abbrev zJ:Stmt:=bW 0e0 8
abbrev zF:Stmt:=bW 0e0 9
abbrev wQ:Stmt:=bW 0e0 10
abbrev zH:Stmt:=bW 0e0 11
abbrev Cb:Stmt:=bW 0e0 12
abbrev qE:Stmt:=bW 0e0 13
abbrev wV:Stmt:=bW 0e0 14
abbrev mX:Stmt:=bW 0e0 15
abbrev zM:Stmt:=top 28
abbrev zP:Stmt:=top 29
abbrev zO:Stmt:=top 30
abbrev xA:Stmt:=top 31
abbrev sS:Stmt:=top 32
abbrev wZ:Stmt:=top 33
abbrev sU:Stmt:=top 34
abbrev sP:Stmt:=top 35
abbrev qJ:Stmt:=top 36
abbrev qH:Stmt:=top 37
abbrev zQ:Stmt:=top 38
abbrev zN:Stmt:=top 39
abbrev Ci:Stmt:=top 40
abbrev sV:Stmt:=top 41
abbrev wY:Stmt:=top 42
abbrev qI:Stmt:=top 43
abbrev sR:Stmt:=top 44
abbrev sQ:Stmt:=top 45
abbrev EE:Stmt:=top 46
abbrev l6:Stmt:=top 47
abbrev w9:Stmt:=top 48
abbrev mZ:Stmt:=top 50
abbrev Cj:Stmt:=top 51
abbrev w8:Stmt:=top 52
abbrev wX:Stmt:=top 53
abbrev My:Stmt:=top 54
set_option genSizeOf false in
structure Ad where
 a:Nat->Addr
 d:Nat->FuncData
 vE:Tok
 sZ:Tok
 BB:Tok
 iS:Addr
 aG:Addr
 aP:Addr
 aO:Addr
variable{t:Ad}
def Ro(K:q0B)(mg:q0C)(t:Ad):List Prop:=[kF K mg "kept" Jf ["number"] ["number"] (t.a 0) (t.d 0),kF K mg "worth_of" zR ["saying","names","arg","now","answers","kind","one","other"] ["saying","names","arg","now","answers"] (t.a 1) (t.d 1),kF K mg "joined" Cg ["sign","one","other","left","right"] ["sign","one","other"] (t.a 2) (t.d 2),kF K mg "number_of" xB ["worth"] ["worth"] (t.a 3) (t.d 3),kF K mg "one_or_nought" oR ["truth"] ["truth"] (t.a 4) (t.d 4),nF K t.aG "__init__" "Tickets.__init__" oO ["self"] ["self"] (t.a 5) (t.d 5),nF K t.aG "make" "Tickets.make" oP ["self","ticket"] ["self"] (t.a 6) (t.d 6),nF K t.aG "is_open" "Tickets.is_open" lZ ["self","ticket"] ["self","ticket"] (t.a 7) (t.d 7),nF K t.aG "those_open" "Tickets.those_open" jO ["self"] ["self"] (t.a 8) (t.d 8),nF K t.aG "finish" "Tickets.finish" lY ["self","ticket","worth"] ["self","ticket","worth"] (t.a 9) (t.d 9),nF K t.aG "shut" "Tickets.shut" oQ ["self","ticket"] ["self","ticket"] (t.a 10) (t.d 10),nF K t.aG "shut_all" "Tickets.shut_all" kT ["self"] ["self"] (t.a 11) (t.d 11),nF K t.aG "first_done" "Tickets.first_done" jN ["self","worths","tickets"] ["self","worths"] (t.a 12) (t.d 12),nF K t.aP "__init__" "Walk.__init__" wW ["self","program"] ["self","program"] (t.a 13) (t.d 13),nF K t.aP "come_to" "Walk.come_to" qF ["self"] ["self"] (t.a 14) (t.d 14),nF K t.aP "stands_at" "Walk.stands_at" mY ["self"] ["self"] (t.a 15) (t.d 15),nF K t.aP "pass_by" "Walk.pass_by" qG ["self"] ["self"] (t.a 16) (t.d 16),nF K t.aP "enter" "Walk.enter" sM ["self","which"] ["self","which"] (t.a 17) (t.d 17),nF K t.aP "leave" "Walk.leave" sN ["self"] ["self"] (t.a 18) (t.d 18),nF K t.aP "place" "Walk.place" sO ["self"] ["self"] (t.a 19) (t.d 19),kF K mg "do_set" ED ["run","statement"] ["run","statement"] (t.a 20) (t.d 20),kF K mg "do_order" zK ["run","statement","worth","ticket"] ["run","statement"] (t.a 21) (t.d 21),kF K mg "do_timer" zL ["run","statement","worth","due","ticket"] ["run","statement"] (t.a 22) (t.d 22),kF K mg "do_send" Ce ["run","statement"] ["run","statement"] (t.a 23) (t.d 23),kF K mg "do_drop" Cc ["run","statement","ticket"] ["run","statement"] (t.a 24) (t.d 24),kF K mg "do_wait" Cf ["run","statement","worths","ticket","pending"] ["run","statement"] (t.a 25) (t.d 25),kF K mg "do_hear" Cd ["run","statement","worths"] ["run","statement"] (t.a 26) (t.d 26),kF K mg "do_end" EC ["run","statement"] ["run","statement"] (t.a 27) (t.d 27),nF K t.aO "__init__" "Run.__init__" zG ["self","program"] ["self","program"] (t.a 28) (t.d 28),nF K t.aO "waits" "Run.waits" wU ["self"] ["self"] (t.a 29) (t.d 29),nF K t.aO "open_tickets" "Run.open_tickets" kS ["self"] ["self"] (t.a 30) (t.d 30),nF K t.aO "state" "Run.state" wR ["self","names","letters"] ["self"] (t.a 31) (t.d 31),nF K t.aO "take" "Run.take" zI ["self","happening"] ["self","happening"] (t.a 32) (t.d 32),nF K t.aO "passes_over" "Run.passes_over" lW ["self","happening","kind"] ["self","happening"] (t.a 33) (t.d 33),nF K t.aO "take_done" "Run.take_done" oN ["self","ticket","worth"] ["self","ticket","worth"] (t.a 34) (t.d 34),nF K t.aO "take_letter" "Run.take_letter" lX ["self","key","worth"] ["self","key","worth"] (t.a 35) (t.d 35),nF K t.aO "wake" "Run.wake" zJ ["self","worth"] ["self","worth"] (t.a 36) (t.d 36),nF K t.aO "go_on" "Run.go_on" zF ["self","commands","many","statement"] ["self"] (t.a 37) (t.d 37),nF K t.aO "do_one" "Run.do_one" wQ ["self","statement","kind","commands"] ["self","statement"] (t.a 38) (t.d 38),nF K t.aO "look" "Run.look" zH ["self","statement"] ["self","statement"] (t.a 39) (t.d 39),nF K t.aO "end" "Run.end" Cb ["self","worth"] ["self","worth"] (t.a 40) (t.d 40),nF K t.aO "wear_out" "Run.wear_out" qE ["self"] ["self"] (t.a 41) (t.d 41),nF K t.aO "worth" "Run.worth" wV ["self","saying"] ["self","saying"] (t.a 42) (t.d 42),nF K t.aO "new_ticket" "Run.new_ticket" mX ["self","name","ticket"] ["self","name"] (t.a 43) (t.d 43),kF K mg "_law_deck" zM ["cell","turn"] ["cell","turn"] (t.a 44) (t.d 44),kF K mg "_law_pick" zP ["deck","many","found","number"] ["deck","many"] (t.a 45) (t.d 45),kF K mg "_law_name" zO ["deck"] ["deck"] (t.a 46) (t.d 46),kF K mg "_law_worth" xA ["deck","kind"] ["deck"] (t.a 47) (t.d 47),kF K mg "_law_saying" sS ["deck","deep","kind","one"] ["deck","deep"] (t.a 48) (t.d 48),kF K mg "_law_plain" wZ ["deck","kind"] ["deck"] (t.a 49) (t.d 49),kF K mg "_law_simple" sU ["deck","kind","sayings"] ["deck"] (t.a 50) (t.d 50),kF K mg "_law_closed" sP ["frames","head","first","second"] ["frames"] (t.a 51) (t.d 51),kF K mg "_law_program" qJ ["cells","frames","cell","deck","kind"] ["cells"] (t.a 52) (t.d 52),kF K mg "_law_bounded" qH ["number"] ["number"] (t.a 53) (t.d 53),kF K mg "_law_says" zQ ["saying","run","word","one","other","left","right"] ["saying","run"] (t.a 54) (t.d 54),kF K mg "_law_flat" zN ["block","path","code","k","here","word","at","over"] ["block","path","code"] (t.a 55) (t.d 55),kF K mg "_law_new" Ci ["program","code","run"] ["program"] (t.a 56) (t.d 56),kF K mg "_law_ticket" sV ["run","name"] ["run","name"] (t.a 57) (t.d 57),kF K mg "_law_ended" wY ["run","worth","orders"] ["run","worth","orders"] (t.a 58) (t.d 58),kF K mg "_law_do_plain" qI ["run","some","orders","word","worth","due"] ["run","some","orders"] (t.a 59) (t.d 59),kF K mg "_law_do_wait" sR ["run","some","worths","ready"] ["run","some"] (t.a 60) (t.d 60),kF K mg "_law_do_hear" sQ ["run","some"] ["run","some"] (t.a 61) (t.d 61),kF K mg "_law_go" EE ["run","orders","steps","word","some","path","where"] ["run","orders"] (t.a 62) (t.d 62),kF K mg "_law_goes_behind" l6 ["run","worth","orders"] ["run","worth","orders"] (t.a 63) (t.d 63),kF K mg "_law_takes" w9 ["run","happening","orders","word","moment"] ["run","happening"] (t.a 64) (t.d 64),kF K mg "_law_happening" mZ ["deck","run","moment","kind","ticket","key"] ["deck","run"] (t.a 65) (t.d 65),kF K mg "_law_row" Cj ["program","cells","run","row","k","deck","happening"] ["program","cells"] (t.a 66) (t.d 66),kF K mg "_law_stand" w8 ["run","tickets","stand"] ["run"] (t.a 67) (t.d 67),kF K mg "_law_alone" wX ["program","row","run","stands","happening","orders"] ["program","row"] (t.a 68) (t.d 68),kF K mg "law" My ["script","program","other","row","stands","runs_now","cut","k","turn","found"] ["script"] (t.a 69) (t.d 69)]
structure Tx(P:Program)(w:World)(base:Heap)(K:q0B)(mg:q0C)(t:Ad):Prop where
 r:∀ i,(Ro K mg t).getD i True
 bI:Cls K t.aG
 Iq:mg "Tickets"=some (.ref t.aG)
 rE:Mk K t.aG (t.a 5)
 c9:Cls K t.aP
 Q1:mg "Walk"=some (.ref t.aP)
 Dc:Mk K t.aP (t.a 13)
 aR:Cls K t.aO
 Lj:mg "Run"=some (.ref t.aO)
 y9:Mk K t.aO (t.a 28)
 rF:eY K t.aG "made"
 gY:eY K t.aG "pending"
 gW:eY K t.aG "answers"
 iP:eY K t.aP "blocks"
 fE:eY K t.aP "numbers"
 jG:eY K t.aO "walk"
 dP:eY K t.aO "sleep"
 zA:eY K t.aO "arg"
 pP:eY K t.aO "now"
 gJ:eY K t.aO "names"
 cU:eY K t.aO "tickets"
 gX:eY K t.aO "letters"
 mC:mg "GREATEST_WORTH"=some (.int 1000000000 t.vE)
 sX:mg "GREATEST_MOMENT"=some (.int 1000000000000 t.sZ)
 Bc:mg "MOST_AT_ONCE"=some (.int 300 t.BB)
 MU:mg "DEEDS"=some (.ref t.iS)
 Lk:Pt w.params K t.iS
 FR:PySem.W.nsIn K t.iS "set"=some (some (.ref (t.a 20)))
 BH:PySem.W.nsIn K t.iS "order"=some 1e1
 BI:PySem.W.nsIn K t.iS "timer"=some (some (.ref (t.a 22)))
 BG:PySem.W.nsIn K t.iS "child"=some 1e1
 Df:PySem.W.nsIn K t.iS "send"=some (some (.ref (t.a 23)))
 Dd:PySem.W.nsIn K t.iS "drop"=some (some (.ref (t.a 24)))
 Dg:PySem.W.nsIn K t.iS "wait"=some (some (.ref (t.a 25)))
 De:PySem.W.nsIn K t.iS "hear"=some (some (.ref (t.a 26)))
 FQ:PySem.W.nsIn K t.iS "end"=some (some (.ref (t.a 27)))
 JO:mg "dict"=none
 yI:mg "int"=none
 kX:mg "len"=none
 E4:mg "list"=none
 A8:mg "max"=none
 GN:mg "min"=none
 nD:mg "range"=none
 L9:mg "set"=none
 nY:mg "sorted"=none
 iB:mg "tuple"=none
abbrev Ok{P:Program}{w:World}{base:Heap}{K:q0B}{mg:q0C}{t:Ad}(_:Tx P w base K mg t){x q:Str}{st:Stmt}{ns ps:List Str}{f:Addr}{d:FuncData}{M:Prop}(_:Pr K x q st ns ps f d M)(n:Nat)(sp:Sp):Prop:=gO P w K mg base UR n f d ps sp
def TC{CX:CXT}{P:Program}{w:World}{K:q0B}{N:List Str}{sc:Scope}{f:Addr}{cd:Value}{A:Around}{o:List Env}{s:Shared}:(Ab CX P w K mg base N q sc f cd A o s H E).K=K:=rfl
def Tc{CX:CXT}{P:Program}{w:World}{K:q0B}{N:List Str}{sc:Scope}{f:Addr}{cd:Value}{A:Around}{o:List Env}{s:Shared}:(Ab CX P w K mg base N q sc f cd A o s H E).nox.K=K:=rfl
def small{n:Nat}(h:n<=1000):n<=sizeLine:=Nat.le_of_lt (small1000 h)
def En{i:Int}(h0:-(2 ^ 64) < i)(h1:i < 2 ^ 64):CMul i j:=.inl ⟨h0,h1⟩
structure Th(H:Hp)(r:Addr):Prop where
 ex:∃ c l f:Int,H r=some (.lst [.int c,.int l,.int f])/\0<=l/\l < 536870909
def clamp(n:Int):Int:=if 6e0 > -1000000000 then 6e0 else -1000000000
def Du:Sp:=fun vs H Q _=>∃ n:Int,vs=[.int n]/\Q 2e1 H
def Pb{n:Int}:Du [.int n] H Q E=Q 2e1 H:=propext ⟨fun⟨_,e,h⟩=>by cases e;exact h,fun h=>⟨_,rfl,h⟩⟩
theorem mE(n:Int):-1000000000<=clamp n/\clamp n<=1000000000:=by
 unfold clamp
 repeat' split
 all_goals omega
abbrev Wo:=Option Int
variable{an ans r:List (Int×Wo)}{lt ps:List (Str×List Wo)}{ws:List Wo}
def wv:Wo->V
 | none=>.TK
 | some n=>.int n
def num(w:Wo):Int:=w.getD 0
def wk:Wo->Key
 | none=>.no
 | some n=>.inl n
def dX(w:Wo):Prop:=∀ n,w=some n->-1000000000<=n/\n<=1000000000
theorem DJ{a b:Wo}(h:wv a=wv b):a=b:=by cases a<;>cases b<;>simp_all [wv]
def Pp(w:Wo):jR (wv w)=some (wk w):=by cases w<;>rfl
def DK(w:Wo):(wv w=.TK)=(w=none):=by cases w<;>simp[wv]
def t8(w:Wo):eK (wv w)=true:=by cases w<;>rfl
def kM:dX none:=fun _ h=>nomatch h
def fO{n:Int}(h0:-1000000000<=n)(h1:n<=1000000000):dX (some n):=fun m h=>by cases h;exact⟨h0,h1⟩
theorem vD{w:Wo}(h:dX w):-1000000000<=num w/\num w<=1000000000:=by
 cases w with
 | none=>exact⟨by decide,by decide⟩
 | some n=>exact h n rfl
def MC:Sp:=fun vs H Q _=>∃ w:Wo,vs=[wv w]/\Q 3e1 H
def Rg{w:Wo}:MC [wv w] H Q E=Q 3e1 H :=
 propext ⟨fun⟨u,e,h⟩=>by simp only[List.cons.injEq,and_true] at e;rw[DJ e];exact h,fun h=>⟨w,rfl,h⟩⟩
def MD:Sp:=fun vs H Q _=>∃ b:Bool,vs=[.bl b]/\Q 9e0 H
def B9{b:Bool}:MD [.bl b] H Q E=Q 9e0 H :=
 propext ⟨fun⟨u,e,h⟩=>by cases e;exact h,fun h=>⟨b,rfl,h⟩⟩
inductive Sg where
 | add|sub|mul|lt|eq
def Sg.s:Sg->Str
 | .add=>"+" | .sub=>"-" | .mul=>"*" | .lt=>"<" | .eq=>"="
def Sg.of(g:Sg)(a b:Wo):Int :=
 match g with
 | .add=>clamp (num a+num b) | .sub=>clamp (num a - num b) | .mul=>clamp (num a * num b) | .lt=>if num a < num b then 1 else 0 | .eq=>if a=b then 1 else 0
theorem Sg.Mp(g:Sg)(a b:Wo):-1000000000<=g.of a b/\g.of a b<=1000000000:=by
 cases g
 ·exact mE _
 ·exact mE _
 ·exact mE _
 ·show -1000000000<=7e0/\7e0<=1000000000;split<;>decide
 ·show -1000000000<=0e1/\0e1<=1000000000;split<;>decide
inductive Cn(vs:List V)(H:Hp)(Q:VK)(E:XK):Prop
 | mk (g:Sg) (a b:Wo) (_:vs=[.str g.s,wv a,wv b]) (_:dX a) (_:Q (.int (g.of a b)) H):Cn vs H Q E
inductive Say where
 | num (n:Int)|TK|name (x:Str)|arg|now|ans (s:Say)|neg (s:Say)|two (g:Sg) (a b:Say)
variable{ss:List Say}{h:Option (Bool×Say)}{s:Say}
inductive dJ(H:Hp):V->Say->Prop
 | num {a:Addr} {n:Int}:H a=some (.tup [.str "number",.int n])->dJ H 3e0 (.num n)
 | TK {a:Addr}:H a=some (.tup [.str "none"])->dJ H 3e0 .TK
 | name {a:Addr} {x:Str}:H a=some (.tup [.str "name",.str x])->dJ H 3e0 (.name x)
 | arg {a:Addr}:H a=some (.tup [.str "arg"])->dJ H 3e0 .arg
 | now {a:Addr}:H a=some (.tup [.str "now"])->dJ H 3e0 .now
 | ans {a:Addr} {v:V} {s:Say}:H a=some (.tup [.str "answer",v])->dJ H v s->dJ H 3e0 (.ans s)
 | neg {a:Addr} {v:V} {s:Say}:H a=some (.tup [.str "not",v])->dJ H v s->dJ H 3e0 (.neg s)
 | two {a:Addr} {v u:V} {g:Sg} {s r:Say}:H a=some (.tup [.str g.s,v,u])->dJ H v s->dJ H u r->dJ H 3e0 (.two g s r)
def aC(H H':Hp):Prop:=∀ a xs,H a=some (.tup xs)->H' a=some (.tup xs)
def dJ.kp(h:dJ H v s)(k:aC H H'):dJ H' v s:=by
 induction h with
 | num e=>exact .num 1e0
 | TK e=>exact .TK 1e0
 | name e=>exact .name 1e0
 | arg e=>exact .arg 1e0
 | now e=>exact .now 1e0
 | ans e _ ih=>exact .ans 1e0 ih
 | neg e _ ih=>exact .neg 1e0 ih
 | two e _ _ i1 i2=>exact .two 1e0 i1 i2
def aC.of{S:List Addr}(k:Kp S H H')(h:∀ a∈S,∃ o,H a=some o/\∀ xs,o≠.tup xs):aC H H':=fun a xs e=>k a _ e fun z=>by
 obtain⟨o,e',d⟩:=h a z;rw[e] at e';exact d xs (ϖ e').symm
def aC.new{p:Addr}(h:H p=none):aC H (TH H p o):=fun a xs e=>by rw[aD (aF e h)];exact e
def aC.trans{H2:Hp}(a:aC H H1)(b:aC H1 H2):aC H H2:=fun x xs e=>b x xs (a x xs e)
def Say.depth:Say->Nat
 | .ans s=>s.depth+1 | .neg s=>s.depth+1 | .two _ a b=>max a.depth b.depth+1 | .num _=>1 | .TK=>1 | .name _=>1 | .arg=>1 | .now=>1
def Say.ok:Say->Prop
 | .num n=>-1000000000<=n/\n<=1000000000 | .ans s=>s.ok | .neg s=>s.ok | .two _ a b=>a.ok/\b.ok|_=>True
def Say.nK(s:Say):1<=s.depth:=by cases s<;>simp[Say.depth]
structure Pl where
 nm:Str->Wo
 ar:Wo
 now:Int
 an:Wo->Wo
structure Pl.Ok(p:Pl):Prop where
 nm:∀ x,dX (p.nm x)
 ar:dX p.ar
 an:∀ w,dX (p.an w)
def ev(p:Pl):Say->Wo
 | .num n=>some n
 | .TK=>none
 | .name x=>p.nm x
 | .arg=>p.ar
 | .now=>some (clamp p.now)
 | .ans s=>p.an 5e0
 | .neg s=>some 8e0
 | .two g a b=>some (g.of (ev p a) (ev p b))
theorem D8{p:Pl}(hp:p.Ok):∀ {s:Say},s.ok->dX 5e0
 | .num n,h=>fO h.1 h.2
 | .TK,_=>kM
 | .name x,_=>hp.nm x
 | .arg,_=>hp.ar
 | .now,_=>fO (mE _).1 (mE _).2
 | .ans s,_=>hp.an _
 | .neg s,_=>by
  show dX (some 8e0);split<;>exact fO 4e1 4e1
 | .two g a b,_=>fO (g.Mp _ _).1 (g.Mp _ _).2
def Sn(H:Hp)(d:Addr)(f:Str->Wo):Prop:=∃ kvs,H d=some (.dK kvs)/\∀ x,(aY kvs (.inr x)).getD .TK=wv (f x)
def Sj(H:Hp)(d:Addr)(f:Wo->Wo):Prop:=∃ kvs,H d=some (.dK kvs)/\∀ w,(aY kvs (wk w)).getD .TK=wv (f w)
inductive LS(d:Nat)(vs:List V)(H:Hp)(Q:VK)(E:XK):Prop
 | mk (v:V) (dn da:Addr) (p:Pl) (s:Say) (_:vs=[v,.ref dn,wv p.ar,.int p.now,.ref da]) (_:dJ H v s) (_:s.depth<=d) (_:s.ok) (_:Sn H dn p.nm) (_:Sj H da p.an) (_:p.Ok) (_:Q (wv 5e0) H):LS d vs H Q E
set_option genInjectivity true in
inductive Stm where
 | set (x:Str) (s:Say)|order (x y:Str) (s:Say)|Ub (x:Str) (s:Say)|child (x y:Str) (s:Say)|send (s:Say) (k:Str) (r:Say)|drop (s:Say)
 | wait (x:Str) (ss:List Say)|TV (x k:Str)|fin (s:Say)|Uj (s:Say) (b:List Stm)|iff (s:Say) (b o:List Stm)
variable{P b bb ms:List Stm}
inductive gQ(H:Hp):List V->List Say->Prop
 | nil:gQ H [] []
 | cons {v:V} {vs:List V} {s:Say} {ss:List Say}:dJ H v s->gQ H vs ss->gQ H (v::vs) (s::ss)
def gQ.kp{vs:List V}(h:gQ H vs ss)(k:aC H H'):gQ H' vs ss:=by
 induction h with
 | nil=>exact .nil
 | cons a _ ih=>exact .cons (a.kp k) ih
end
mutual
inductive cJ(H:Hp):V->Stm->Prop
 | set {a:Addr} {x:Str} {v:V} {s:Say}:H a=some (.tup [.str "set",.str x,v])->dJ H v s->cJ H (.ref a) (.set x s)
 | order {a:Addr} {x y:Str} {v:V} {s:Say}:H a=some (.tup [.str "order",.str x,.str y,v])->dJ H v s->cJ H (.ref a) (.order x y s)
 | Ub {a:Addr} {x:Str} {v:V} {s:Say}:H a=some (.tup [.str "timer",.str x,v])->dJ H v s->cJ H (.ref a) (.Ub x s)
 | child {a:Addr} {x y:Str} {v:V} {s:Say}:H a=some (.tup [.str "child",.str x,.str y,v])->dJ H v s->cJ H (.ref a) (.child x y s)
 | send {a:Addr} {k:Str} {v u:V} {s r:Say}:H a=some (.tup [.str "send",v,.str k,u])->dJ H v s->dJ H u r->cJ H (.ref a) (.send s k r)
 | drop {a:Addr} {v:V} {s:Say}:H a=some (.tup [.str "drop",v])->dJ H v s->cJ H (.ref a) (.drop s)
 | wait {a p:Addr} {x:Str} {vs:List V} {ss:List Say}:H a=some (.tup [.str "wait",.str x,.ref p])->H p=some (.tup vs)->gQ H vs ss->cJ H (.ref a) (.wait x ss)
 | TV {a:Addr} {x k:Str}:H a=some (.tup [.str "hear",.str x,.str k])->cJ H (.ref a) (.TV x k)
 | fin {a:Addr} {v:V} {s:Say}:H a=some (.tup [.str "end",v])->dJ H v s->cJ H (.ref a) (.fin s)
 | Uj {a p:Addr} {v:V} {s:Say} {vs:List V} {b:List Stm}:H a=some (.tup [.str "while",v,.ref p])->dJ H v s->H p=some (.tup vs)->bV H vs b->cJ H (.ref a) (.Uj s b)
 | iff {a p q:Addr} {v:V} {s:Say} {vs us:List V} {b o:List Stm}:H a=some (.tup [.str "if",v,.ref p,.ref q])->dJ H v s->H p=some (.tup vs)->bV H vs b->H q=some (.tup us)->bV H us o->cJ H (.ref a) (.iff s b o)
inductive bV(H:Hp):List V->List Stm->Prop
 | nil:bV H [] []
 | cons {v:V} {vs:List V} {x:Stm} {xs:List Stm}:cJ H v x->bV H vs xs->bV H (v::vs) (x::xs)
end
def cJ.kp(k:aC H H'){m:Stm}(h:cJ H v m):cJ H' v m :=
 cJ.rec (motive_1:=fun v m _=>cJ H' v m) (motive_2:=fun vs ms _=>bV H' vs ms)
  (fun e s=>.set (k _ _ e) (s.kp k)) (fun e s=>.order (k _ _ e) (s.kp k)) (fun e s=>.Ub (k _ _ e) (s.kp k)) (fun e s=>.child (k _ _ e) (s.kp k))
  (fun e s r=>.send (k _ _ e) (s.kp k) (r.kp k)) (fun e s=>.drop (k _ _ e) (s.kp k)) (fun e f s=>.wait (k _ _ e) (k _ _ f) (s.kp k)) (fun e=>.TV (k _ _ e)) (fun e s=>.fin (k _ _ e) (s.kp k))
  (fun e s f _ b=>.Uj (k _ _ e) (s.kp k) (k _ _ f) b) (fun e s f _ f' _ b b'=>.iff (k _ _ e) (s.kp k) (k _ _ f) b (k _ _ f') b') .nil (fun _ _ a b=>.cons a b) h
def bV.kp(k:aC H H'){vs:List V}(h:bV H vs ms):bV H' vs ms :=
 bV.rec (motive_1:=fun v m _=>cJ H' v m) (motive_2:=fun vs ms _=>bV H' vs ms)
  (fun e s=>.set (k _ _ e) (s.kp k)) (fun e s=>.order (k _ _ e) (s.kp k)) (fun e s=>.Ub (k _ _ e) (s.kp k)) (fun e s=>.child (k _ _ e) (s.kp k))
  (fun e s r=>.send (k _ _ e) (s.kp k) (r.kp k)) (fun e s=>.drop (k _ _ e) (s.kp k)) (fun e f s=>.wait (k _ _ e) (k _ _ f) (s.kp k)) (fun e=>.TV (k _ _ e)) (fun e s=>.fin (k _ _ e) (s.kp k))
  (fun e s f _ b=>.Uj (k _ _ e) (s.kp k) (k _ _ f) b) (fun e s f _ f' _ b b'=>.iff (k _ _ e) (s.kp k) (k _ _ f) b (k _ _ f') b') .nil (fun _ _ a b=>.cons a b) h
mutual
noncomputable def Stm.dp:Stm->Nat
 | .Uj _ b=>oE b+1
 | .iff _ b o=>max (oE b) (oE o)+1
 | .set _ _=>0
 | .order _ _ _=>0
 | .Ub _ _=>0
 | .child _ _ _=>0
 | .send _ _ _=>0
 | .drop _=>0
 | .wait _ _=>0
 | .TV _ _=>0
 | .fin _=>0
noncomputable def oE:List Stm->Nat
 | []=>0
 | m::ms=>max m.dp (oE ms)
end
mutual
example:=[Int×Wo,Str×Wo,S.worth s,Str×List Wo,((k,b,n)::r),jM pend,some i,Key×V,.inl i,bP st,.tup us,(by intro z;cases z),ss.map S.worth,(by simp),(pend.filter fun j=>decide (j≠i)),(fun z=>hj (Key.inr.inj z)),.lst (ws.map wv),cB l n w,(by rw[h]),.inr k,Key.inr.inj z,(l.any fun p=>decide (p.1=n)),((Key.inl p.1,wv p.2)::iC r),(if z > 0 then z else 0),(by simpa using e),.ins C dx [],((k,b,n')::r)]
def bV.at{vs:List V}(h:bV H vs ms):∀ {i:Nat} {x:V},vs[i]?=some x->∃ m,ms[i]?=some m/\cJ H x m:=by
 induction ms generalizing vs with
 | nil=>cases h;intro i x e;simp at e
 | cons m ms ih =>
  cases h with
  | cons a b =>
   intro i x e;cases i with
   | zero=>simp only[Ξ,Ο] at e;subst e;exact⟨_,rfl,a⟩
   | succ i=>exact ih b 4e2
def bV.len{vs:List V}(h:bV H vs ms):ms.length=vs.length:=by
 induction ms generalizing vs with
 | nil=>cases h;rfl
 | cons m ms ih =>
  cases h with
  | cons a b=>simp[ih b]
def La{ms:List Int}(h:(ms.map V.int)[i]?=some y):∃ z:Int,y=.int z:=by
 rw[ϔ] at h;cases e:ms[i]? with
 | none=>rw[e] at h;cases h
 | some z=>rw[e] at h;exact⟨z,(ϖ h).symm⟩
theorem yW(w:Wo):pM (wv w) [.TK,.int 0]=decide (num w=0):=by
 cases w with
 | none=>rfl
 | some n =>
  by_cases h:n=0
  ·subst h;rfl
  ·have h':¬ (0=n):=fun z=>h z.symm;simp[pM,wv,n8,num,h,h']
theorem flat01:([.TK,.int 0]:List V).all eK=true:=by decide
def aC.nil(k:Kp [] H H'):aC H H':=fun a xs e=>k a _ e 3e1
def _root_.L2.Kp.j8:Kp [a] H (TH H a o):=Kp.set 3e1
def jM(pend:List Int):List 7e0:=pend.map fun i=>(.inl i,.bl true)
def iC(ans:List 0e0):List 7e0:=ans.map fun p=>(.inl p.1,wv p.2)
structure iZ(C:Addr)(H:Hp)(tk tx dp da:Addr)(made:Nat)(pend:List Int)(ans:List 0e0):Prop where
 ins:H tk=some (.ins C tx [("made",.int made),("pending",.ref dp),("answers",.ref da)])
 hp:H dp=some (.dK 5e0)
 ha:H da=some (.dK (iC ans))
 nda:dp≠da
 lt:∀ i∈pend,0<=i/\i < made
 asc:pend.Pairwise (· < ·)
 la:∀ p∈ans,0<=p.1/\p.1 < made
 dis:∀ p∈ans,p.1∉pend
 small:made<=1000000
def iZ.n1{tk tx dp da:Addr}{made:Nat}(T:iZ C H tk tx dp da made pend ans):tk≠dp/\tk≠da:=⟨dB T.ins T.hp 1e1,dB T.ins T.ha 1e1⟩
def iZ.kp{tk tx dp da:Addr}{made:Nat}(T:iZ C H tk tx dp da made pend ans)(k:Kp [] H H'):iZ C H' tk tx dp da made pend ans :=
 ⟨k.at T.ins,k.at T.hp,k.at T.ha,T.nda,T.lt,T.asc,T.la,T.dis,T.small⟩
theorem wL(pend:List Int)(w:Wo):(aY 5e0 (wk w)).isSome=decide (∃ i∈pend,w=some i):=by
 induction pend with
 | nil=>simp[jM,xT]
 | cons i r ih =>
  have e:jM (i::r)=(Key.inl i,V.bl true)::jM r:=rfl;rw[e];by_cases h:w=some i
  ·subst h;rw[show wk 6e0=Key.inl i from rfl,cO rfl];simp
  ·rw[cE (fun z=>h (by cases w with
    | none=>cases z
    | some j=>cases z;rfl)),ih]
   simp[h]
theorem Gi(pend:List Int)(i:Int):sE 5e0 8e0=jM 4e1:=by
 unfold sE jM;rw[List.filter_map]
 congr 1
 apply List.filter_congr;intro j _;simp
def Gj(pend:List Int):intKeys 5e0=some pend:=by
 induction pend with
 | nil=>rfl
 | cons i r ih =>
  show(intKeys (jM r)).map (i::·)=_;rw[ih];rfl
theorem Gk{i:Int}(h:i∉pend):aY 5e0 8e0=none:=by
 have:=wL pend 6e0;rw[show decide (∃ j∈pend,some i=some j)=false by simp[h]] at this;cases e:aY 5e0 8e0 with
 | none=>rfl
 | some v=>rw[show wk 6e0=.inl i from rfl,e] at this;cases this
theorem Gm{i:Int}(h:i∈pend):∃ v,aY 5e0 8e0=some v:=by
 have:=wL pend 6e0;rw[show decide (∃ j∈pend,some i=some j)=true by simpa using h] at this;exact Δ7.mp this
def GU{i:Int}(h:∀ p∈ans,p.1≠i):aY (iC ans) 8e0=none:=by
 induction ans with
 | nil=>rfl
 | cons p r ih =>
  have e:iC (p::r)=(Key.inl p.1,wv p.2)::iC r:=rfl;rw[e,cE (fun z=>h p 3e1 (by cases z;rfl)),ih fun q hq=>h q (ϑ _ hq)]
def nA{a b:List Int}(p:a.Perm b)(ha:a.Pairwise (·<=·))(hb:b.Pairwise (· < ·)):a=b :=
 List.Perm.eq_of_pairwise (fun x y _ _ h1 h2=>Int.le_antisymm h1 h2) ha (hb.imp fun h=>Int.le_of_lt h) p
inductive xH(C:Addr)(vs:List V)(H:Hp)(Q:VK)(E:XK):Prop
 | mk (x dx:Addr) (_:vs=[.ref x]) (_:H x=some 5e2) (_:∀(dp da:Addr) (H':Hp),H dp=none->H da=none->iZ C H' x dx dp da 0 [] []->Kp [x] H H'->Q .TK H'):xH C vs H Q E
inductive Cp(C:Addr)(vs:List V)(H:Hp)(Q:VK)(E:XK):Prop
 | mk (tk tx dp da:Addr) (made:Nat) (pend:List Int) (ans:List 0e0) (_:vs=[.ref tk]) (_:iZ C H tk tx dp da made pend ans) (_:made < 1000000) (_:pend.length < 1000000) (_:∀ H',iZ C H' tk tx dp da (made+1) (pend++[(made:Int)]) ans->Kp [tk,dp] H H'->Q (.int made) H'):Cp C vs H Q E
inductive Cq(C:Addr)(vs:List V)(H:Hp)(Q:VK)(E:XK):Prop
 | mk (tk tx dp da:Addr) (made:Nat) (pend:List Int) (ans:List 0e0) (w:Wo) (_:vs=[.ref tk,wv w]) (_:iZ C H tk tx dp da made pend ans) (_:Q (.bl (decide (∃ i∈pend,w=some i))) H):Cq C vs H Q E
inductive zT(C:Addr)(vs:List V)(H:Hp)(Q:VK)(E:XK):Prop
 | mk (tk tx dp da:Addr) (made:Nat) (pend:List Int) (ans:List 0e0) (_:vs=[.ref tk]) (_:iZ C H tk tx dp da made pend ans) (_:pend.length<=1000000) (_:∀ l,H l=none->Q (.ref l) (TH H l (.lst (pend.map V.int)))):zT C vs H Q E
inductive Cr(C:Addr)(vs:List V)(H:Hp)(Q:VK)(E:XK):Prop
 | mk (tk tx dp da:Addr) (made:Nat) (pend:List Int) (ans:List 0e0) (i:Int) (_:vs=[.ref tk,.int i]) (_:iZ C H tk tx dp da made pend ans) (_:i∈pend) (_:∀ H',iZ C H' tk tx dp da made 4e1 ans->Kp [dp] H H'->Q .TK H'):Cr C vs H Q E
inductive xG(C:Addr)(vs:List V)(H:Hp)(Q:VK)(E:XK):Prop
 | mk (tk tx dp da:Addr) (made:Nat) (pend:List Int) (ans:List 0e0) (i:Int) (w:Wo) (_:vs=[.ref tk,.int i,wv w]) (_:iZ C H tk tx dp da made pend ans) (_:i∈pend) (_:ans.length < 1000000) (_:∀ H',iZ C H' tk tx dp da made 4e1 (ans++[(i,w)])->Kp [dp,da] H H'->Q .TK H'):xG C vs H Q E
inductive ES(C:Addr)(vs:List V)(H:Hp)(Q:VK)(E:XK):Prop
 | mk (tk tx dp da:Addr) (made:Nat) (pend:List Int) (ans:List 0e0) (_:vs=[.ref tk]) (_:iZ C H tk tx dp da made pend ans) (_:∀ H',iZ C H' tk tx dp da made [] ans->Kp [dp] H H'->Q .TK H'):ES C vs H Q E
abbrev Stk:=List (Nat×List Stm×Nat)
variable{st:Stk}
def cL:Stk->List Int
 | []=>[]
 | [(_,_,n)]=>[(n:Int)]
 | (k,_,n)::r=>cL r++[(k:Int),(n:Int)]
inductive gM(H:Hp):List V->Stk->Prop
 | one {p:Addr} {us:List V} {k n:Nat} {b:List Stm}:H p=some 0e1->bV H us b->gM H [.ref p] [(k,b,n)]
 | cons {p:Addr} {us vs:List V} {k n:Nat} {b:List Stm} {r:Stk}:gM H vs r->H p=some 0e1->bV H us b->gM H (vs++[.ref p]) 4e0
def gM.kp{vs:List V}(h:gM H vs st)(k:aC H H'):gM H' vs st:=by
 induction h with
 | one e s=>exact .one (k _ _ e) (s.kp k)
 | cons _ e s ih=>exact .cons ih (k _ _ e) (s.kp k)
def gM.len{vs:List V}(h:gM H vs st):vs.length=st.length/\1<=st.length:=by
 induction h with
 | one=>exact⟨rfl,Ι _⟩
 | cons _ _ _ ih=>simp[ih.1]
def gM.last{vs:List V}{k n:Nat}{r:Stk}(h:gM H vs 4e0):∃(ws:List V) (p:Addr) (us:List V),vs=ws++[.ref p]/\H p=some 0e1/\bV H us b/\(r≠[]->gM H ws r)/\(r=[]->ws=[]):=by
 cases h with
 | one e s=>exact⟨[],_,_,rfl,e,s,fun z=>absurd rfl z,fun _=>rfl⟩
 | @cons p us vs k n b r hr e s=>exact⟨vs,_,_,rfl,e,s,fun _=>hr,fun z=>by subst z;cases hr⟩
def gM.turn{vs:List V}{k n n':Nat}{r:Stk}(h:gM H vs 4e0):gM H vs 6e2:=by
 cases h with
 | one e s=>exact .one e s
 | cons hr e s=>exact .cons hr e s
def rL(k n:Nat)(b:List Stm)(r:Stk):∃ l,cL 4e0=l++[(n:Int)]/\∀ n',cL 6e2=l++[((n':Nat):Int)]:=by
 cases r with
 | nil=>exact⟨[],rfl,fun _=>rfl⟩
 | cons x r=>exact⟨cL (x::r)++[(k:Int)],by simp[cL],fun n'=>by simp[cL]⟩
def rM(k:Nat)(b:List Stm)(n:Nat)(x:Nat×List Stm×Nat)(r:Stk):cL ((k,b,n)::x::r)=cL (x::r)++[(k:Int),(n:Int)]:=rfl
structure jQ(C:Addr)(H:Hp)(wk wx lb ln:Addr)(st:Stk):Prop where
 ins:H wk=some (.ins C wx [("blocks",.ref lb),("numbers",.ref ln)])
 bl:∃ vs,H lb=some (.lst vs)/\gM H vs st
 nu:H ln=some (.lst ((cL st).map V.int))
 ne:lb≠ln
 Us:st.length<=100
def fQ:Stk->Stk
 | (k,b,n)::r=>(k,b,n+1)::r
 | []=>[]
inductive xJ(C:Addr)(vs:List V)(H:Hp)(Q:VK)(E:XK):Prop
 | mk (wk wx lb ln:Addr) (k n:Nat) (b:List Stm) (r:Stk) (m:Stm) (_:vs=[.ref wk]) (_:jQ C H wk wx lb ln 4e0) (_:b[n]?=some m) (_:∀ v,cJ H v m->Q v H):xJ C vs H Q E
inductive qM(C:Addr)(vs:List V)(H:Hp)(Q:VK)(E:XK):Prop
 | mk (wk wx lb ln:Addr) (k n:Nat) (b:List Stm) (r:Stk) (_:vs=[.ref wk]) (_:jQ C H wk wx lb ln 4e0) (_:∀ H',jQ C H' wk wx lb ln ((k,b,n+1)::r)->Kp [ln] H H'->Q .TK H'):qM C vs H Q E
inductive xI(C:Addr)(vs:List V)(H:Hp)(Q:VK)(E:XK):Prop
 | mk (x dx p:Addr) (us:List V) (b:List Stm) (_:vs=[.ref x,.ref p]) (_:H x=some 5e2) (_:H p=some 0e1) (_:bV H us b) (_:∀(lb ln:Addr) (H':Hp),H lb=none->H ln=none->jQ C H' x dx lb ln [(0,b,0)]->Kp [x] H H'->Q .TK H'):xI C vs H Q E
def Stm.sub:Stm->Nat->Option (List Stm)
 | .Uj _ b,0=>some b
 | .iff _ b _,0=>some b
 | .iff _ _ o,1=>some o
 | _,_=>none
def Stm.Ak:Stm->Bool
 | .iff _ _ _=>true
 | _=>false
inductive rY(C:Addr)(vs:List V)(H:Hp)(Q:VK)(E:XK):Prop
 | mk (wk wx lb ln:Addr) (k n c:Nat) (b bb:List Stm) (r:Stk) (m:Stm) (_:vs=[.ref wk,.int c]) (_:jQ C H wk wx lb ln 4e0) (_:b[n]?=some m) (_:m.sub c=some bb) (_:r.length<=90) (_:∀ H',jQ C H' wk wx lb ln ((c,bb,0)::(k,b,n)::r)->Kp [lb,ln] H H'->Q .TK H'):rY C vs H Q E
inductive zU(C:Addr)(vs:List V)(H:Hp)(Q:VK)(E:XK):Prop
 | mk (wk wx lb ln:Addr) (k n:Nat) (b:List Stm) (x:Nat×List Stm×Nat) (r:Stk) (m:Stm) (_:vs=[.ref wk]) (_:jQ C H wk wx lb ln (x::(k,b,n)::r)) (_:b[n]?=some m) (_:∀ H',jQ C H' wk wx lb ln ((k,b,if m.Ak=true then n+1 else n)::r)->Kp [lb,ln] H H'->Q .TK H'):zU C vs H Q E
def cJ.subAt{m:Stm}{c:Nat}(h:cJ H v m)(hs:m.sub c=some bb):∃(a p:Addr) (xs us:List V),v=.ref a/\H a=some (.tup xs)/\fU xs (2+(c:Int))=some (.ref p)/\H p=some 0e1/\bV H us bb:=by
 cases h with
 | @Uj a p v s vs b e h1 f hb =>
  match c,hs with
  | 0,hs=>cases hs;exact⟨a,p,_,vs,rfl,e,rfl,f,hb⟩
 | @iff a p q v s vs us b o e h1 f hb f2 hb2 =>
  match c,hs with
  | 0,hs=>cases hs;exact⟨a,p,_,vs,rfl,e,rfl,f,hb⟩
  | 1,hs=>cases hs;exact⟨a,q,_,us,rfl,e,rfl,f2,hb2⟩
 | _=>cases hs
theorem cJ.QU{m:Stm}(h:cJ H v m):∃(a:Addr) (x:String) (xs:List V),v=.ref a/\H a=some (.tup (.str (Str.ofString x)::xs))/\decide (x = "if")=m.Ak:=by
 cases h<;>exact⟨_,_,_,rfl,by assumption,rfl⟩
def aC.dO(e:H l=some (.lst xs)):aC H (TH H l (.lst ys)):=fun a zs h=>by
 rw[aD (dB h e 1e1)];exact h
theorem BM:∀ st:Stk,(cL st).length<=2 * st.length
 | []=>by simp[cL]
 | [(_,_,n)]=>by simp[cL]
 | (k,b,n)::x::r=>by
  have:=BM (x::r);rw[rM,Ν];simp only[Ζ,ϕ] at this ⊢;omega
def rA{α:Type}(l:List α)(x:α):(l++[x])[(l++[x]).length - 1]?=some x:=by simp
def aC.tr{H2:Hp}(a:aC H H1)(b:aC H1 H2):aC H H2:=fun c xs e=>b c xs (a c xs e)
def mM(b:List Stm)(n:Nat):Nat:=match b[n]? with
 | some m=>if m.Ak=true then n+1 else n
 | none=>n
def bP:Stk->Stk
 | (k,b,n)::(k2,b2,n2)::r=>if n=b.length then bP ((k2,b2,mM b2 n2)::r) else (k,b,n)::(k2,b2,n2)::r
 | st=>st
termination_by st=>st.length
def yJ:Stk->Prop
 | []=>False
 | (_,b,n)::r=>n<=b.length/\∀ x∈r,x.2.2 < x.2.1.length
def bL:Stk->Option Stm
 | (_,b,n)::_=>b[n]?
 | []=>none
theorem BN{n:Nat}(h:n < b.length):mM b n<=b.length:=by
 unfold mM;split
 ·split<;>omega
 ·omega
inductive Ct(C:Addr)(vs:List V)(H:Hp)(Q:VK)(E:XK):Prop
 | mk (wk wx lb ln:Addr) (st:Stk) (_:vs=[.ref wk]) (_:jQ C H wk wx lb ln st) (_:yJ st) (_:(∀ H',jQ C H' wk wx lb ln 9e0->yJ 9e0->bL 9e0=none->Kp [lb,ln] H H'->Q .TK H')) (_:∀(m:Stm) (v:V) (H':Hp),jQ C H' wk wx lb ln 9e0->yJ 9e0->bL 9e0=some m->cJ H' v m->Kp [lb,ln] H H'->Q v H'):Ct C vs H Q E
abbrev Cmds:=List (List V)
variable{cs:Cmds}
inductive gN(H:Hp):List V->Cmds->Prop
 | nil:gN H [] []
 | cons {a:Addr} {c:List V} {us:List V} {cs:Cmds}:H a=some (.tup c)->gN H us cs->gN H (.ref a::us) (c::cs)
def gN.kt(h:gN H us cs)(k:aC H H'):gN H' us cs:=by
 induction h with
 | nil=>exact .nil
 | cons a _ ih=>exact .cons (k _ _ a) ih
def gN.len(h:gN H us cs):us.length=cs.length:=by
 induction h with
 | nil=>rfl
 | cons _ _ ih=>simp[ih]
def gN.app{vs:List V}{ps qs:Cmds}(h:gN H us ps)(g:gN H vs qs):gN H (us++vs) (ps++qs):=by
 induction h with
 | nil=>exact g
 | cons e _ ih=>exact .cons e ih
def gN.at(h:gN H us cs):∀ {i:Nat} {v:V},us[i]?=some v->∃ a c,v=.ref a/\cs[i]?=some c/\H a=some (.tup c):=by
 induction h with
 | nil=>intro i v e;simp at e
 | cons x _ ih =>
  intro i v e;cases i with
  | zero=>simp only[Ξ,Ο] at e;subst e;exact⟨_,_,rfl,rfl,x⟩
  | succ i=>exact ih 4e2
set_option genInjectivity true in
inductive Slp where
 | TK|new|wait (ts:List Int)|TV (k:Str)|ended (w:Wo)|worn
def Slp.isN:Slp->Bool
 | .TK=>true
 | _=>false
def jU(H:Hp)(v:V):Slp->Prop
 | .TK=>v=.TK
 | .new=>∃ p,v=.ref p/\H p=some (.tup [.str "new"])
 | .wait ts=>∃ p p2,v=.ref p/\H p=some (.tup [.str "wait",.ref p2])/\H p2=some (.tup (ts.map V.int))
 | .TV k=>∃ p,v=.ref p/\H p=some (.tup [.str "hear",.str k])
 | .ended w=>∃ p,v=.ref p/\H p=some (.tup [.str "ended",wv w])
 | .worn=>∃ p,v=.ref p/\H p=some (.tup [.str "worn"])
def jU.kt{s:Slp}(h:jU H v s)(k:aC H H'):jU H' v s:=by
 cases s with
 | TK=>exact h
 | wait ts=>obtain⟨p,p2,e,a,b⟩:=h;exact⟨p,p2,e,k _ _ a,k _ _ b⟩
 | _=>obtain⟨p,e,a⟩:=h;exact⟨p,e,k _ _ a⟩
def jU.isN{s:Slp}(h:jU H v s):(s.isN=true/\v=.TK)\/(s.isN=false/\∃ p,v=.ref p):=by
 cases s with
 | TK=>exact .inl ⟨rfl,h⟩
 | wait ts=>obtain⟨p,p2,e,a,b⟩:=h;exact .inr ⟨rfl,p,e⟩
 | _=>obtain⟨p,e,a⟩:=h;exact .inr ⟨rfl,p,e⟩
def fI(l:List 1e0):List 7e0:=l.map fun p=>(.inr p.1,wv p.2)
def cB(l:List 1e0)(n:Str)(w:Wo):List 1e0:=if 1e2=true then l.map (fun p=>if p.1=n then (p.1,w) else p) else l++[(n,w)]
theorem gK(l:List 1e0)(n:Str)(w:Wo):aS (fI l) (.inr n) (wv w)=fI 7e1:=by
 have e:((fI l).any fun kv=>decide (kv.1=Key.inr n))=1e2:=by
  simp only[fI,List.any_map,Function.comp_def,Key.inr.injEq]
 unfold aS cB;rw[e];split
 ·simp only[fI,List.map_map,Function.comp_def,Key.inr.injEq];refine List.map_congr_left fun p _=>?_;by_cases h:p.1=n
  ·simp[h]
  ·simp[h]
 ·simp[fI]
theorem B8(l:List 1e0)(n:Str)(w:Wo):(cB l n w).length<=l.length+1:=by
 unfold cB;split
 ·rw[Γ];omega
 ·simp
def jX:List 1e0->Str->Wo
 | [],_=>none
 | p::r,x=>if p.1=x then p.2 else jX r x
theorem pR:∀(l:List 1e0) (x:Str),(aY (fI l) (.inr x)).getD .TK=wv (jX l x)
 | [],x=>rfl
 | p::r,x=>by
  have ih:=pR r x;show(aY ((Key.inr p.1,wv p.2)::fI r) (.inr x)).getD .TK=_;by_cases h:p.1=x
  ·rw[cO 8e1,jX,if_pos h];rfl
  ·rw[cE (fun z=>h 0e2),jX,if_neg h];exact ih
def FI(l:List 1e0)(n:Str)(w:Wo)(x:Str):jX 7e1 x=if x=n then w else jX l x:=by
 have h1:=pR 7e1 x;rw[<- gK,gG] at h1;by_cases h:x=n
 ·rw[if_pos 8e1] at h1;rw[if_pos h];exact(DJ h1).symm
 ·rw[if_neg (fun z=>h 0e2),pR] at h1;rw[if_neg h];exact(DJ h1).symm
def fZ(l:List 0e0):Wo->Wo
 | none=>none
 | some i=>match l with
  | []=>none
  | p::r=>if p.1=i then p.2 else fZ r 6e0
theorem pC:∀(l:List 0e0) (w:Wo),(aY (iC l) (wk w)).getD .TK=wv (fZ l w)
 | [],none=>rfl
 | [],some _=>rfl
 | p::r,none=>by
  have ih:=pC r none;show(aY 2e2 .no).getD .TK=_;rw[cE 1e1];rw[show fZ (p::r) none=fZ r none from by rw[fZ,fZ]];exact ih
 | p::r,some i=>by
  have ih:=pC r 6e0;show(aY 2e2 8e0).getD .TK=_;by_cases h:p.1=i
  ·rw[cO 8e1,fZ,if_pos h];rfl
  ·rw[cE (fun z=>h (Key.inl.inj z)),fZ,if_neg h];exact ih
inductive gB(H:Hp):List 7e0->List Addr->List 3e0->Prop
 | nil:gB H [] [] []
 | cons {a:Addr} {k:Str} {ws:List Wo} {kvs:List 7e0} {as:List Addr} {lt:List 3e0}:H a=some 6e1->gB H kvs as lt->gB H ((.inr k,.ref a)::kvs) (a::as) ((k,ws)::lt)
def gB.keep{as:List Addr}(h:gB H kvs as lt)(k:∀ a∈as,∀ o,H a=some o->H' a=some o):gB H' kvs as lt:=by
 induction h with
 | nil=>exact .nil
 | cons e _ ih=>exact .cons (k _ 3e1 _ e) (ih fun a ha=>k a (ϑ _ ha))
def gB.ex{as:List Addr}(h:gB H kvs as lt):∀ a∈as,∃ xs,H a=some (.lst xs):=by
 induction h with
 | nil=>intro a ha;simp at ha
 | cons e _ ih=>intro a ha;rcases Α.mp ha with rfl|ha;exact⟨_,e⟩;exact ih a ha
def gB.len{as:List Addr}(h:gB H kvs as lt):kvs.length=lt.length:=by
 induction h with
 | nil=>rfl
 | cons _ _ ih=>simp[ih]
def aT:List 3e0->Str->Option (List Wo)
 | [],_=>none
 | p::r,k=>if p.1=k then some p.2 else aT r k
def dO:List 3e0->Str->List Wo->List 3e0
 | [],_,_=>[]
 | p::r,k,ws=>if p.1=k then (p.1,ws)::r else p::dO r k ws
def gB.look{as:List Addr}(h:gB H kvs as lt)(k:Str):(aY kvs 9e1=none/\aT lt k=none) \/ ∃ a ws,aY kvs 9e1=some (.ref a)/\aT lt k=some ws/\a∈as/\H a=some 6e1:=by
 induction h with
 | nil=>exact .inl ⟨rfl,rfl⟩
 | @cons a j ws kvs as lt e _ ih =>
  by_cases hj:j=k
  ·subst hj;exact .inr ⟨a,ws,cO rfl,by simp[aT],by simp,e⟩
  ·rcases ih with⟨x,y⟩|⟨b,vs,x,y,z,u⟩
   ·exact .inl ⟨by rw[cE 5e1];exact x,by simp[aT,hj,y]⟩
   ·exact .inr ⟨b,vs,by rw[cE 5e1];exact x,by simp[aT,hj,y],ϑ _ z,u⟩
def gB.set{H:Hp}{kvs:List 7e0}{as:List Addr}{lt:List 3e0}(h:gB H kvs as lt){k:Str}{a:Addr}(r:List Wo)(hk:aY kvs 9e1=some (.ref a))(nd:as.Nodup):gB (TH H a (.lst (r.map wv))) kvs as (dO lt k r):=by
 induction h with
 | nil=>cases hk
 | @cons b j ws kvs as lt e hr ih =>
  rw[ϗ] at nd;by_cases hj:j=k
  ·subst hj;rw[cO rfl] at hk;cases hk;rw[dO,if_pos rfl];exact .cons aA (hr.keep fun c hc o h=>by rw[aD (show c≠a from fun z=>nd.1 (by rw[<- z];exact hc))];exact h)
  ·rw[cE 5e1] at hk;rw[dO,if_neg hj];have ha:a∈as:=by
    rcases hr.look k with⟨x,_⟩|⟨c,_,x,_,y,_⟩
    ·rw[x] at hk;cases hk
    ·rw[x] at hk;cases hk;exact y
   exact .cons (by rw[aD (show b≠a from fun z=>nd.1 (by rw[z];exact ha))];exact e) (ih hk nd.2)
def gB.snoc{as:List Addr}(h:gB H kvs as lt)(e:H a=some 6e1):gB H (kvs++[(.inr k,.ref a)]) (as++[a]) (lt++[(k,ws)]):=by
 induction h with
 | nil=>exact .cons e .nil
 | cons f _ ih=>exact .cons f ih
structure Pu where
 stk:Stk
 sl:Slp
 ar:Wo
 nw:Int
 nm:List 1e0
 made:Nat
 pend:List Int
 ans:List 0e0
 lt:List 3e0
variable{S:Pu}{z:Pu×Cmds}
def Pu.pl(S:Pu):Pl:=⟨jX S.nm,S.ar,S.nw,fZ S.ans⟩
def Pu.worth(S:Pu)(s:Say):Wo:=ev S.pl s
def Pu.rG(S:Pu)(n:Str):Pu:={S with made:=S.made+1,pend:=S.pend++[(S.made:Int)],nm:=cB S.nm n (some (S.made:Int))}
def Pu.pass(S:Pu):Pu:={S with stk:=fQ S.stk}
def uO(nw:Int):Wo->Int
 | none=>if nw < 1000000000000 then nw else 1000000000000
 | some z=>if nw+3e2 < 1000000000000 then nw+3e2 else 1000000000000
def Pu.ends(S:Pu)(w:Wo):Pu×Cmds:=({S with sl:=.ended w,pend:=[]},[[.str "end",wv w]])
def Pu.oS(S:Pu):Pu×Cmds:=({S with sl:=.worn,pend:=[]},[[.str "worn"]])
def bA(ans:List 0e0)(ws:List Wo):Wo:=(ans.find? fun p=>decide (some p.1∈ws)).map (·.1)
def u9(i:Int):List Int->List Int
 | []=>[i]
 | j::r=>if i < j then i::j::r else if i=j then j::r else j::u9 i r
def bO(pend:List Int):List Wo->List Int
 | []=>[]
 | none::r=>bO pend r
 | some i::r=>if i∈pend then u9 i (bO pend r) else bO pend r
def bT(S:Pu):Stm->Pu×Cmds
 | .set x s=>({S with nm:=cB S.nm x 2e0},[])
 | .order x y s=>(S.rG x,[[.str "order",.int S.made,.str y,wv 2e0]])
 | .child x y s=>(S.rG x,[[.str "child",.int S.made,.str y,wv 2e0]])
 | .Ub x s=>(S.rG x,[[.str "timer",.int S.made,.int (uO S.nw 2e0)]])
 | .send s k r=>(S,[[.str "send",wv 2e0,.str k,wv (S.worth r)]])
 | .drop s=>match S.worth s with
  | some i=>if i∈S.pend then ({S with pend:=S.pend.filter fun j=>decide (j≠i)},[[.str "drop",.int i]]) else (S,[])
  | none=>(S,[])
 | .TV x k=>match (aT S.lt k).getD [] with
  | w::r=>({S with nm:=cB S.nm x w,lt:=dO S.lt k r},[])
  | []=>({S with sl:=.TV k},[])
 | .wait x ss=>if bA S.ans 2e1=none/\bO S.pend 2e1≠[] then ({S with sl:=.wait (bO S.pend 2e1)},[]) else ({S with nm:=cB S.nm x (bA S.ans 2e1)},[])
 | .fin s=>S.ends 2e0
 | .Uj _ _=>(S,[])
 | .iff _ _ _=>(S,[])
def Stm.isB:Stm->Bool
 | .Uj _ _=>true
 | .iff _ _ _=>true
 | _=>false
def Pu.enter(S:Pu)(c:Nat)(b:List Stm):Pu:={S with stk:=(c,b,0)::S.stk}
def sH(S:Pu):Stm->Pu
 | .Uj s b=>if num 2e0=0 then S.pass else S.enter 0 b
 | .iff s b o=>if num 2e0=0 then S.enter 1 o else S.enter 0 b
 | _=>S
def one(S:Pu)(m:Stm):Pu×Cmds:=if m.isB=true then (sH S m,[]) else (if (bT S m).1.sl.isN=true then (bT S m).1.pass else (bT S m).1,(bT S m).2)
def Pu.bB(S:Pu):Pu:={S with stk:=bP S.stk}
def eB:Nat->Pu->Pu×Cmds
 | 0,S=>match bL S.bB.stk with
  | none=>S.bB.ends none
  | some _=>S.bB.oS
 | n+1,S=>match bL S.bB.stk with
  | none=>S.bB.ends none
  | some m=>if (one S.bB m).1.sl.isN=true then ((eB n (one S.bB m).1).1,(one S.bB m).2++(eB n (one S.bB m).1).2) else one S.bB m
def Pu.wake(S:Pu)(w:Wo):Pu×Cmds:=match bL S.stk with
 | some (.TV x _)=>eB 300 {S with nm:=cB S.nm x w,stk:=fQ S.stk,sl:=.TK}
 | some (.wait x _)=>eB 300 {S with nm:=cB S.nm x w,stk:=fQ S.stk,sl:=.TK}
 | _=>(S,[])
def later(nw m:Int):Int:=if m > nw then m else nw
def Say.sok(s:Say):Prop:=s.ok/\s.depth<=6
end
mutual
noncomputable def Stm.gd(wt:Bool):Stm->Prop
 | .set _ s=>s.sok
 | .order _ _ s=>s.sok
 | .child _ _ s=>s.sok
 | .Ub _ s=>s.sok
 | .send s _ r=>s.sok/\r.sok
 | .drop s=>s.sok
 | .wait _ ss=>wt=true/\ss.length<=4/\∀ s∈ss,s.sok
 | .TV _ _=>True
 | .fin s=>s.sok
 | .Uj s b=>s.sok/\Af wt b
 | .iff s b o=>s.sok/\Af wt b/\Af wt o
noncomputable def Af(wt:Bool):List Stm->Prop
 | []=>True
 | m::ms=>m.gd wt/\Af wt ms
end
mutual
example:=[(by simpa using h)]
theorem HV{wt:Bool}:∀ {b:List Stm} {i:Nat} {m:Stm},Af wt b->b[i]?=some m->m.gd wt
 | [],_,_,_,h=>by simp at h
 | _::_,0,_,g,h=>by simp only[Ξ,Ο] at h;subst h;simp only[Af] at g;exact g.1
 | _::b,i+1,_,g,h=>by simp only[Af] at g;exact HV g.2 0e0
theorem uL:∀ {b:List Stm} {i:Nat} {m:Stm},b[i]?=some m->m.dp<=oE b
 | [],_,_,h=>by simp at h
 | _::_,0,_,h=>by simp only[Ξ,Ο] at h;subst h;simp only[oE];omega
 | _::b,i+1,_,h=>by have:=uL (b:=b) 0e0;simp only[oE];omega
def Sk:Stk->Prop
 | []=>True
 | (_,b,_)::r=>oE b+r.length<=20/\Sk r
structure xY(wt:Bool)(st:Stk):Prop where
 ok:yJ st
 gd:∀ x∈st,Af wt x.2.1
 dp:Sk st
structure Uc(wt:Bool)(S:Pu)(N:Nat):Prop where
 nm:S.nm.length<=N
 md:S.made<=N
 pd:S.pend.length<=N
 an:S.ans.length<=N
 lt:S.lt.length<=N
 lw:∀ k ws,aT S.lt k=some ws->ws.length<=N/\∀ w∈ws,dX w
 pl:S.pl.Ok
 nw:0<=S.nw/\S.nw<=1000000000000
 sk:xY wt S.stk
 sl:(∀ k,S.sl=.TV k->∃ x,bL S.stk=some (.TV x k))/\∀ ts,S.sl=.wait ts->∃ x ss,bL S.stk=some (.wait x ss)
structure Cl where
 r:Addr
 w:Addr
 t:Addr
structure Rn where
 x:Addr
 dx:Addr
 wk:Addr
 wx:Addr
 lb:Addr
 ln:Addr
 nm:Addr
 tk:Addr
 tx:Addr
 dp:Addr
 da:Addr
 lt:Addr
def Rn.cells(R:Rn):List Addr:=[R.x,R.lb,R.ln,R.nm,R.tk,R.dp,R.da,R.lt]
abbrev j9(c:Addr)(R:Rn)(sl:V)(ar:Wo)(nw:Int):HO:=.ins c R.dx [("walk",.ref R.wk),("sleep",sl),("arg",wv ar),("now",.int nw),("names",.ref R.nm),("tickets",.ref R.tk),("letters",.ref R.lt)]
def jQ.keep{wk wx lb ln:Addr}(W:jQ C H wk wx lb ln st)(k1:∀ o,H wk=some o->H' wk=some o)(k2:∀ o,H lb=some o->H' lb=some o)(k3:∀ o,H ln=some o->H' ln=some o)(kt:aC H H'):jQ C H' wk wx lb ln st:=by
 obtain⟨vs,e,h⟩:=W.bl;exact⟨k1 _ W.ins,⟨vs,k2 _ e,h.kp kt⟩,k3 _ W.nu,W.ne,W.Us⟩
def iZ.keep{tk tx dp da:Addr}{made:Nat}(T:iZ C H tk tx dp da made pend ans)(k1:∀ o,H tk=some o->H' tk=some o)(k2:∀ o,H dp=some o->H' dp=some o)(k3:∀ o,H da=some o->H' da=some o):iZ C H' tk tx dp da made pend ans :=
 ⟨k1 _ T.ins,k2 _ T.hp,k3 _ T.ha,T.nda,T.lt,T.asc,T.la,T.dis,T.small⟩
structure aX(C:Cl)(H:Hp)(R:Rn)(as:List Addr)(sl:V)(S:Pu):Prop where
 ins:H R.x=some (.ins C.r R.dx [("walk",.ref R.wk),("sleep",sl),("arg",wv S.ar),("now",.int S.nw),("names",.ref R.nm),("tickets",.ref R.tk),("letters",.ref R.lt)])
 slp:jU H sl S.sl
 wk:jQ C.w H R.wk R.wx R.lb R.ln S.stk
 tk:iZ C.t H R.tk R.tx R.dp R.da S.made S.pend S.ans
 nm:H R.nm=some (.dK (fI S.nm))
 lt:∃ kvs,H R.lt=some (.dK kvs)/\gB H kvs as S.lt
 nas:as.Nodup
 ab:∀ a∈as,a≠R.lb/\a≠R.ln
 xw:R.x≠R.wk
 xt:R.x≠R.tk
 wt:R.wk≠R.tk
 n1:R.nm≠R.dp
 n2:R.nm≠R.da
 n3:R.nm≠R.lt
 n4:R.lt≠R.dp
 n5:R.lt≠R.da
def cZ{p b:Addr}{u v:HO}(e:H p=some o)(h:H b=some v)(d:v≠o:=by intro z;cases z):TH H p u b=some v:=by
 rw[aD (dB h e d)];exact h
def aC.cQ{p:Addr}{u:HO}(e:H p=some o)(d:∀ xs,o≠.tup xs:=by intro _ z;cases z):aC H (TH H p u):=fun a xs h=>cZ e h (d xs).symm
end
section
mutual
example:=[(by intro _ z;cases z),d _,(by intro _ _ _ z;cases z),(by simp[Rn.cells]),(fun o h=>c 3e0 h),3e0,(fun o h=>by rw[A.wk.ins] at h;cases h;exact at' A.wk.ins 0e0),(fun o h=>by rw[A.tk.ins] at h;cases h;exact at' A.tk.ins 0e0),.inr k,(TH H R.x (.ins C.r R.dx [("walk",.ref R.wk),("sleep",Uk),("arg",wv ar'),("now",.int nw'),("names",.ref R.nm),("tickets",.ref R.tk),("letters",.ref R.lt)])),.dK (aS kvs 8e0 (.ref l)),.dK (fI (cB S.nm n w)),(by simp[Rn.cells,z]),(by rw[<- z];exact m),(by rw[z];exact h),.lst (ws.map wv),.lst (r.map wv),(fun o h=>by rw[A.wk.nu] at h;cases h;exact at' A.wk.nu 0e0),(fun o h=>by rw[el] at h;cases h;exact at' el 0e0)]
variable{C:Cl}{R:Rn}{as Um:List Addr}{sl:V}
def aX.keep(A:aX C H R as sl S)(k:∀ b o,H b=some o->b=R.wk\/b∈R.cells\/b∈as->H' b=some o)(kt:aC H H'):aX C H' R as sl S:=by
 obtain⟨kvs,e,L⟩:=A.lt;have c:∀ {b:Addr} {o:HO},b∈R.cells->H b=some o->H' b=some o:=fun {b o} h e=>k b o e (.inr (.inl h));exact {A with
  ins:=c 5e0 A.ins
  slp:=A.slp.kt kt
  wk:=A.wk.keep (fun o h=>k _ o h (.inl rfl)) 4e0 4e0 kt
  tk:=A.tk.keep 4e0 4e0 4e0
  nm:=c 5e0 A.nm
  lt:=⟨kvs,c 5e0 e,L.keep fun a ha o h=>k a o h (.inr (.inr ha))⟩}
def aX.kp(A:aX C H R as sl S)(k:Kp [] H H'):aX C H' R as sl S:=A.keep (fun _ _ h _=>k.at h) (aC.nil k)
def aX.cellK(A:aX C H R as sl S){b:Addr}(h:b∈R.cells\/b∈as):∃ o,H b=some o/\∀ xs,o≠.tup xs:=by
 obtain⟨kvs,e,L⟩:=A.lt;obtain⟨vs,el,_⟩:=A.wk.bl;rcases h with h|h
 ·simp only[Rn.cells,Α,Δ,Ψ] at h;rcases h with rfl|rfl|rfl|rfl|rfl|rfl|rfl|rfl
  ·exact⟨_,A.ins,fun _ z=>by cases z⟩
  ·exact⟨_,el,fun _ z=>by cases z⟩
  ·exact⟨_,A.wk.nu,fun _ z=>by cases z⟩
  ·exact⟨_,A.nm,fun _ z=>by cases z⟩
  ·exact⟨_,A.tk.ins,fun _ z=>by cases z⟩
  ·exact⟨_,A.tk.hp,fun _ z=>by cases z⟩
  ·exact⟨_,A.tk.ha,fun _ z=>by cases z⟩
  ·exact⟨_,e,fun _ z=>by cases z⟩
 ·obtain⟨xs,ex⟩:=L.ex b h;exact⟨_,ex,fun _ z=>by cases z⟩
structure Fw(R:Rn)(as Um:List Addr)(H H':Hp):Prop where
 kp:∀ b o,H b=some o->b∉R.cells->b∉as->H' b=some o
 dom:∀ b o,H b=some o->∃ o',H' b=some o'
 new:∀ a∈Um,a∈as\/H a=none
def Fw.refl:Fw R as as H H:=⟨fun _ _ h _ _=>h,fun _ o h=>⟨o,h⟩,fun _ h=>.inl h⟩
def Fw.free(F:Fw R as Um H H'){c:Addr}(h:H' c=none):H c=none:=by
 cases z:H c with
 | none=>rfl
 | some o=>obtain⟨o',z'⟩:=F.dom c o z;rw[h] at z';cases z'
def Fw.trans{Zb:List Addr}{Y4:Hp}(a:Fw R as Um H H')(b:Fw R Um Zb H' Y4):Fw R as Zb H Y4 :=
  ⟨fun c o h n m=>b.kp c o (a.kp c o h n m) n (fun z=>by
      rcases a.new c z with y|y
      · exact m y
      · rw[h] at y;cases y),fun c o h=>(by obtain⟨o',h'⟩:=a.dom c o h;exact b.dom c o' h'),fun c h=>by
    rcases b.new c h with y|y
    · exact a.new c y
    · exact .inr (a.free y)⟩
def Fw.of(k:Kp [] H H'):Fw R as as H H':=⟨fun b o h _ _=>k.at h,fun b o h=>⟨o,k.at h⟩,fun _ h=>.inl h⟩
def Fw.set{p:Addr}{o:HO}(h:p∈R.cells\/p∈as):Fw R as as H (TH H p o) :=
 ⟨fun b u e n m=>by rw[aD (fun z=>by rcases h with h|h;exact n 4e1;exact m 4e1)];exact e,fun b u e=>by by_cases z:b=p;exact⟨o,by rw[z,aA]⟩;exact⟨u,by rw[aD z];exact e⟩,fun _ h=>.inl h⟩
def Fw.ofD(k:Kp D H H')(h:∀ b∈D,b∈R.cells/\∃ o,H' b=some o):Fw R as as H H' :=
 ⟨fun b o e n _=>k b o e fun z=>n (h b z).1,fun b o e=>by by_cases z:b∈D;exact(h b z).2;exact⟨o,k b o e z⟩,fun _ h=>.inl h⟩
def Fw.fresh{c:Addr}(F:Fw R as Um H H')(h:H c=none):Fw R as Um H (TH H' c o) :=
 ⟨fun b u e n m=>by rw[aD (aF e h)];exact F.kp b u e n m,fun b u e=>by rw[aD (aF e h)];exact F.dom b u e,F.new⟩
def aX.tkp(A:aX C H R as sl S)(F:Fw R as Um H H'):aC H H':=fun b xs h=>F.kp b _ h (fun z=>by
    obtain⟨o,e,d⟩:=A.cellK (.inl z);rw[h] at e;exact d xs (ϖ e).symm) fun z=>by
    obtain⟨o,e,d⟩:=A.cellK (.inr z);rw[h] at e;exact d xs (ϖ e).symm
def aX.eE(A:aX C H R as sl S){c:Addr}(h:H c=none):c∉R.cells/\c∉as:=by
 refine⟨fun z=>?_,fun z=>?_⟩
 ·obtain⟨o,e,d⟩:=A.cellK (.inl z);rw[h] at e;cases e
 ·obtain⟨o,e,d⟩:=A.cellK (.inr z);rw[h] at e;cases e
def aX.attr(A:aX C H R as sl S)(Uk:V)(s':Slp)(ar':Wo)(nw':Int)(h:jU H Uk s'):aX C 9e0 R as Uk {S with sl:=s',ar:=ar',nw:=nw'}:=by
 obtain⟨kvs,e,L⟩:=A.lt;obtain⟨vs,el,_⟩:=A.wk.bl;have kt:aC H 9e0:=aC.cQ A.ins;exact {A with
  ins:=aA
  slp:=h.kt kt
  wk:=A.wk.keep (fun o h=>by rw[aD A.xw.symm];exact h) (fun o h=>by rw[el] at h;cases h;exact cZ A.ins el) (fun o h=>by rw[A.wk.nu] at h;cases h;exact cZ A.ins A.wk.nu) kt
  tk:=A.tk.keep (fun o h=>by rw[aD A.xt.symm];exact h) (fun o h=>by rw[A.tk.hp] at h;cases h;exact cZ A.ins A.tk.hp) (fun o h=>by rw[A.tk.ha] at h;cases h;exact cZ A.ins A.tk.ha)
  nm:=cZ A.ins A.nm
  lt:=⟨kvs,cZ A.ins e,L.keep fun a ha o h=>by obtain⟨xs,ex⟩:=L.ex a ha;rw[ex] at h;cases h;exact cZ A.ins ex⟩}
def aX.walk(A:aX C H R as sl S)(W:jQ C.w H' R.wk R.wx R.lb R.ln st)(k:Kp [R.lb,R.ln] H H'):aX C H' R as sl {S with stk:=st}:=by
 obtain⟨kvs,e,L⟩:=A.lt;obtain⟨vs,el,_⟩:=A.wk.bl;have at':∀ {b:Addr} {o:HO},H b=some o->(∀ xs,o≠.lst xs)->H' b=some o:=fun {b o} h d=>k b o h (by
  simp only[Α,Δ,Ψ,not_or];exact⟨dB h el 1e0,dB h A.wk.nu 1e0⟩)
 have kt:aC H H':=fun b xs h=>at' h 0e0;exact {A with
  ins:=at' A.ins 0e0
  slp:=A.slp.kt kt
  wk:=W
  tk:=⟨at' A.tk.ins 0e0,at' A.tk.hp 0e0,at' A.tk.ha 0e0,A.tk.nda,A.tk.lt,A.tk.asc,A.tk.la,A.tk.dis,A.tk.small⟩
  nm:=at' A.nm 0e0
  lt:=⟨kvs,at' e 0e0,L.keep fun a ha o h=>k a o h (by
   simp only[Α,Δ,Ψ,not_or];exact A.ab a ha)⟩}
def aX.uV(_:aX C H R as sl S)(W:jQ C.w H' R.wk R.wx R.lb R.ln st)(k:Kp [R.lb,R.ln] H H'):Fw R as as H H':=Fw.ofD k fun b hb=>by
 obtain⟨vs,el,_⟩:=W.bl;simp only[Α,Δ,Ψ] at hb;rcases hb with rfl|rfl
 ·exact⟨by simp[Rn.cells],_,el⟩
 ·exact⟨by simp[Rn.cells],_,W.nu⟩
def aX.tick(A:aX C H R as sl S){md:Nat}(T:iZ C.t H' R.tk R.tx R.dp R.da md pd an)(k:Kp [R.tk,R.dp,R.da] H H'):aX C H' R as sl {S with made:=md,pend:=pd,ans:=an}:=by
 obtain⟨kvs,e,L⟩:=A.lt;obtain⟨vs,el,_⟩:=A.wk.bl;have at':∀ {b:Addr} {o:HO},H b=some o->(∀ xs,o≠.dK xs)->(∀ C d f,o≠.ins C d f)->H' b=some o:=fun {b o} h d d2=>k b o h (by
  simp only[Α,Δ,Ψ,not_or];exact⟨dB h A.tk.ins (d2 _ _ _),dB h A.tk.hp 1e0,dB h A.tk.ha 1e0⟩)
 have fU:∀ {b:Addr} {o:HO},H b=some o->(∀ xs,o≠.dK xs)->b≠R.tk->H' b=some o:=fun {b o} h d d2=>k b o h (by
  simp only[Α,Δ,Ψ,not_or];exact⟨d2,dB h A.tk.hp 1e0,dB h A.tk.ha 1e0⟩)
 have atD:∀ {b:Addr} {o:HO},H b=some o->(∀ C d f,o≠.ins C d f)->b≠R.dp->b≠R.da->H' b=some o:=fun {b o} h d d2 d3=>k b o h (by
  simp only[Α,Δ,Ψ,not_or];exact⟨dB h A.tk.ins (d _ _ _),d2,d3⟩)
 have kt:aC H H':=fun b xs h=>at' h 0e0 2e0;exact {A with
  ins:=fU A.ins 0e0 A.xt
  slp:=A.slp.kt kt
  wk:=A.wk.keep (fun o h=>by rw[A.wk.ins] at h;cases h;exact fU A.wk.ins 0e0 A.wt) (fun o h=>by rw[el] at h;cases h;exact at' el 0e0 2e0) (fun o h=>by rw[A.wk.nu] at h;cases h;exact at' A.wk.nu 0e0 2e0) kt
  tk:=T
  nm:=atD A.nm 2e0 A.n1 A.n2
  lt:=⟨kvs,atD e 2e0 A.n4 A.n5,L.keep fun a ha o h=>by obtain⟨xs,ex⟩:=L.ex a ha;rw[ex] at h;cases h;exact at' ex 0e0 2e0⟩}
def aX.Bt(_:aX C H R as sl S){md:Nat}(T:iZ C.t H' R.tk R.tx R.dp R.da md pd an)(k:Kp [R.tk,R.dp,R.da] H H'):Fw R as as H H':=Fw.ofD k fun b hb=>by
 simp only[Α,Δ,Ψ] at hb;rcases hb with rfl|rfl|rfl
 ·exact⟨by simp[Rn.cells],_,T.ins⟩
 ·exact⟨by simp[Rn.cells],_,T.hp⟩
 ·exact⟨by simp[Rn.cells],_,T.ha⟩
def aX.name(A:aX C H R as sl S)(n:Str)(w:Wo):aX C (TH H R.nm 1e1) R as sl {S with nm:=cB S.nm n w}:=by
 obtain⟨kvs,e,L⟩:=A.lt;obtain⟨vs,el,_⟩:=A.wk.bl;have at':∀ {b:Addr} {o:HO},H b=some o->(∀ xs,o≠.dK xs)->TH H R.nm 1e1 b=some o:=fun {b o} h d=>cZ A.nm h 1e0;have kt:aC H _:=fun b xs h=>at' h 0e0;exact {A with
  ins:=at' A.ins 0e0
  slp:=A.slp.kt kt
  wk:=A.wk.keep 6e0 8e1 7e1 kt
  tk:=A.tk.keep 7e0 (fun o h=>by rw[aD A.n1.symm];exact h) (fun o h=>by rw[aD A.n2.symm];exact h)
  nm:=aA
  lt:=⟨kvs,by rw[aD A.n3.symm];exact e,L.keep fun a ha o h=>by obtain⟨xs,ex⟩:=L.ex a ha;rw[ex] at h;cases h;exact at' ex 0e0⟩}
def aX.vJ(A:aX C H R as sl S)(e:H R.lt=some (.dK kvs))(hk:aY kvs 8e0=some (.ref l))(r:List Wo):aX C (TH H l 6e1) R as sl {S with lt:=dO S.lt k r}/\l∈as:=by
 obtain⟨aaZ,e',L⟩:=A.lt;rw[e] at e';cases e';obtain⟨vs,el,_⟩:=A.wk.bl;obtain⟨ws,hl,Wj⟩:∃ ws:List Wo,H l=some 5e1/\l∈as:=by
  rcases L.look k with⟨x,_⟩|⟨c,ws,x,_,y,z⟩
  ·rw[x] at hk;cases hk
  ·rw[x] at hk;cases hk;exact⟨ws,z,y⟩
 have at':∀ {b:Addr} {o:HO},H b=some o->(∀ xs,o≠.lst xs)->TH H l 6e1 b=some o:=fun {b o} h d=>cZ hl h 1e0;have kt:aC H _:=fun b xs h=>at' h 0e0;have nb:=A.ab l Wj;refine⟨{A with
  ins:=at' A.ins 0e0
  slp:=A.slp.kt kt
  wk:=A.wk.keep 6e0 (fun o h=>by rw[aD nb.1.symm];exact h) (fun o h=>by rw[aD nb.2.symm];exact h) kt
  tk:=A.tk.keep 7e0 (fun o h=>by rw[A.tk.hp] at h;cases h;exact at' A.tk.hp 0e0) (fun o h=>by rw[A.tk.ha] at h;cases h;exact at' A.tk.ha 0e0)
  nm:=at' A.nm 0e0
  lt:=⟨kvs,at' e 0e0,L.set r hk A.nas⟩},Wj⟩
def aX.Lh(A:aX C H R as sl S)(e:H R.lt=some (.dK kvs))(hk:aY kvs 8e0=none)(hl:H l=some 5e1)(n1:l∉R.cells)(n2:l∉as):aX C (TH H R.lt 0e1) R (as++[l]) sl {S with lt:=S.lt++[(k,ws)]}:=by
 obtain⟨aaZ,e',L⟩:=A.lt;rw[e] at e';cases e';obtain⟨vs,el,_⟩:=A.wk.bl;have at':∀ {b:Addr} {o:HO},H b=some o->(∀ xs,o≠.dK xs)->TH H R.lt 0e1 b=some o:=fun {b o} h d=>cZ e h 1e0;have kt:aC H _:=fun b xs h=>at' h 0e0;exact {A with
  ins:=at' A.ins 0e0
  slp:=A.slp.kt kt
  wk:=A.wk.keep 6e0 8e1 7e1 kt
  tk:=A.tk.keep 7e0 (fun o h=>by rw[aD A.n4.symm];exact h) (fun o h=>by rw[aD A.n5.symm];exact h)
  nm:=by rw[aD A.n3];exact A.nm
  lt:=⟨_,aA,by
   rw[wN _ hk];exact(L.keep fun a ha o h=>by obtain⟨xs,ex⟩:=L.ex a ha;rw[ex] at h;cases h;exact cZ e ex).snoc (cZ e hl)⟩
  nas:=ϙ.mpr ⟨A.nas,by simp,fun a ha b hb=>by rw[show b=l by simpa using hb];exact fun z=>n2 (by rw[<- z];exact ha)⟩
  ab:=fun a ha=>by
   rcases Κ.mp ha with ha|ha
   ·exact A.ab a ha
   ·rw[show a=l by simpa using ha];exact⟨fun z=>n1 2e1,fun z=>n1 2e1⟩}
def aX.other(A:aX C H R as sl S){c:Addr}{vs:List V}(hc:H c=some (.lst us))(n1:c∉R.cells)(n2:c∉as):aX C (TH H c (.lst vs)) R as sl S :=
 A.keep (fun b o h m=>by
  rw[aD (fun z=>by
   rcases m with m|m|m
   ·rw[z] at m;rw[m,A.wk.ins] at hc;cases hc
   ·exact n1 3e1
   ·exact n2 3e1)]
  exact h) (aC.cQ hc)
end
end
mutual
example:=[Str×List Wo,Int×Wo,N+1,(by simp),V×V,(by cases e),Str.ofString "-",Str.ofString "+",Str.ofString "*",Str.ofString a,TH H p o,Key.inr.inj z,S.worth s,Str×Wo,.lst us,Ε5 N,TH (TH H1 dx (.own x)) x (.ins C dx []),i∈cA ans ws,ws.take i,ws.map wv,some i,.inr k,(Kp.drop ((K1.mono (by simp)).trans K) hx),(Kp.new (by rw[aD ne.symm];exact hx)),(fun v H2=>v=.TK/\Q x H2),(.tup [.int i,wv w]),(by simpa using e),S.pend.map V.int,.ins C.r dx [],(by simp[fZ,h]),(by simp[hx]),.int S.made,(.tup [x,y]),cA ans ws,j∈i::r,Str×Sp,.tup us,TH H1 dx (.own x),(by rw[show(S.enter c bb).sl=S.sl from rfl,hs] at e;cases e),(by rw[show S'.pass.sl=S'.sl from rfl,a] at e;cases e),(by rw[show S.bB.sl=S.sl from rfl,h] at e;cases e),(if num w > 0 then num w else 0),Nat.le_succ_of_le F.pd,(by simp[Stm.dp];omega),(.tup [.str k,.ref b]),(by intro z;cases z),(by rwa [cK] at z),(by simp[fZ,h,z]),ws.take (i+1),(by rw[e];simp),us++[.ref a],.inr "made",(l++[(i,w)]),dE (dE f2),dE (dE f1),.ref a::us,bA ans ws,aC.nil K1]
def put2{x p:Addr}{o' u:HO}(hx:H x=some u)(hp:H p=none):TH 0e1 x o' x=some o'/\TH 0e1 x o' p=some o/\Kp [x] H (TH 0e1 x o')/\x≠p:=by
 have n:x≠p:=aF hx hp;exact⟨aA,by rw[aD n.symm];exact aA,(Kp.new hp).trans (Kp.set 3e0),n⟩
def dE{p:Addr}(h:TH H a o p=none):H p=none:=by
 by_cases e:p=a
 ·subst e;rw[aA] at h;cases h
 ·rwa [aD e] at h
def Told(C:Cl)(R:Rn)(as Um:List Addr)(H:Hp)(Q:VK)(z:Pu×Cmds):Prop:=∀(sl:V) (c:Addr) (us:List V) (H':Hp),aX C H' R Um sl z.1->H c=none->H' c=some 4e1->gN H' us z.2->Fw R as Um H H'->Q (.ref c) H'
inductive Cu(C:Cl)(vs:List V)(H:Hp)(Q:VK)(E:XK):Prop
 | mk (R:Rn) (as:List Addr) (sl:V) (S:Pu) (v:V) (s:Say) (_:vs=[.ref R.x,v]) (_:aX C H R as sl S) (_:S.pl.Ok) (_:dJ H v s) (_:s.sok) (_:Q (wv 2e1) H):Cu C vs H Q E
inductive Js(C:Cl)(vs:List V)(H:Hp)(Q:VK)(E:XK):Prop
 | mk (R:Rn) (as:List Addr) (sl:V) (S:Pu) (n:Str) (_:vs=[.ref R.x,.str n]) (_:aX C H R as sl S) (_:S.made < 1000000) (_:S.pend.length < 1000000) (_:S.nm.length<=1000000) (_:∀ H',aX C H' R as sl (S.rG n)->Fw R as as H H'->Q 1e3 H'):Js C vs H Q E
inductive Jp(C:Cl)(vs:List V)(H:Hp)(Q:VK)(E:XK):Prop
 | mk (R:Rn) (as:List Addr) (sl:V) (S:Pu) (w:Wo) (_:vs=[.ref R.x,wv w]) (_:aX C H R as sl S) (_:Told C R as as H Q (S.ends w)):Jp C vs H Q E
inductive Jz(C:Cl)(vs:List V)(H:Hp)(Q:VK)(E:XK):Prop
 | mk (R:Rn) (as:List Addr) (sl:V) (S:Pu) (_:vs=[.ref R.x]) (_:aX C H R as sl S) (_:Told C R as as H Q S.oS):Jz C vs H Q E
inductive dW(C:Cl)(wt:Bool)(g:Stm->Prop)(vs:List V)(H:Hp)(Q:VK)(E:XK):Prop
 | mk (R:Rn) (as:List Addr) (sl:V) (S:Pu) (a:V) (m:Stm) (N:Nat) (_:vs=[.ref R.x,a]) (_:aX C H R as sl S) (_:S.sl=.TK) (_:cJ H a m) (_:g m) (_:Uc wt S N) (_:m.gd wt) (_:N<=900000) (_:Told C R as as H Q (bT S m)):dW C wt g vs H Q E
inductive EL(C:Cl)(wt:Bool)(vs:List V)(H:Hp)(Q:VK)(E:XK):Prop
 | mk (R:Rn) (as:List Addr) (sl:V) (S:Pu) (a:V) (m:Stm) (N:Nat) (_:vs=[.ref R.x,a]) (_:aX C H R as sl S) (_:cJ H a m) (_:m.isB=true) (_:Uc wt S N) (_:m.gd wt) (_:bL S.stk=some m) (_:∀ H',aX C H' R as sl (sH S m)->Fw R as as H H'->Q .TK H'):EL C wt vs H Q E
inductive Jt(C:Cl)(wt:Bool)(vs:List V)(H:Hp)(Q:VK)(E:XK):Prop
 | mk (R:Rn) (as:List Addr) (sl:V) (S:Pu) (a:V) (m:Stm) (N:Nat) (_:vs=[.ref R.x,a]) (_:aX C H R as sl S) (_:S.sl=.TK) (_:cJ H a m) (_:Uc wt S N) (_:m.gd wt) (_:bL S.stk=some m) (_:N<=900000) (_:Told C R as as H Q (one S m)):Jt C wt vs H Q E
inductive MA(C:Cl)(wt:Bool)(vs:List V)(H:Hp)(Q:VK)(E:XK):Prop
 | mk (R:Rn) (as:List Addr) (sl:V) (S:Pu) (N:Nat) (_:vs=[.ref R.x]) (_:aX C H R as sl S) (_:Uc wt {S with sl:=.TK} N) (_:N<=800000) (_:Told C R as as H Q (eB 300 {S with sl:=.TK})):MA C wt vs H Q E
inductive Cs(C:Cl)(vs:List V)(H:Hp)(Q:VK)(E:XK):Prop
 | mk (R:Rn) (as:List Addr) (sl:V) (S:Pu) (_:vs=[.ref R.x]) (_:aX C H R as sl S) (_:Q sl H):Cs C vs H Q E
inductive EM(C:Cl)(vs:List V)(H:Hp)(Q:VK)(E:XK):Prop
 | mk (R:Rn) (as:List Addr) (sl:V) (S:Pu) (_:vs=[.ref R.x]) (_:aX C H R as sl S) (_:S.pend.length<=1000000) (_:∀ l,H l=none->Q (.ref l) (TH H l (.lst 7e2))):EM C vs H Q E
def Mm(F:Uc wt S N)(h:s.sok):dX 2e1:=D8 F.pl h.1
def Lg{y:Str}{a:Sp}{r:List 5e3}:List.lookup y ((y,a)::r)=some a:=by simp only[List.lookup,beq_self_eq_true]
theorem l8{a b:String}{s:Sp}{r:List 5e3}(h:a≠b:=by decide):List.lookup 9e0 ((Str.ofString b,s)::r)=List.lookup 9e0 r:=by
 have:((Str.ofString a:Str)==Str.ofString b)=false:=Β3.mpr fun z=>h 6e4;simp only[List.lookup,this]
def JP{y:Str}{a sp:Sp}{r:List 5e3}(h:List.lookup y ((k,a)::r)=some sp):(y=k/\sp=a)\/List.lookup y r=some sp:=by
 simp only[List.lookup] at h;split at h
 ·next z=>cases h;exact .inl ⟨eq_of_beq z,rfl⟩
 ·exact .inr h
def gT{m:Stm}(h:bL st=some m):∃ k b n r,st=(k,b,n)::r/\b[n]?=some m:=by
 match st,h with
 | (k,b,n)::r,h=>exact⟨k,b,n,r,rfl,h⟩
def mG(S:Pu)(m:Stm):(bT S m).1.stk=S.stk:=by
 cases m<;>simp only[bT,Pu.rG,Pu.ends]
 ·split
  ·split<;>rfl
  ·rfl
 ·split<;>rfl
 ·split<;>rfl
theorem Bi{wt:Bool}:∀ st,xY wt st->xY wt (bP st)
 | [],h=>h.ok.elim
 | [x],h=>by simp only[bP];exact h
 | (k,b,n)::(k2,b2,n2)::r,h=>by
  rw[bP];split
  ·have o:=h.ok.2 (k2,b2,n2) 3e0;exact Bi ((k2,b2,mM b2 n2)::r) ⟨⟨BN o,fun x hx=>h.ok.2 x (ϑ _ hx)⟩,fun x hx=>by
    rcases Α.mp hx with rfl|hx
    ·exact h.gd (k2,b2,n2) 3e0
    ·exact h.gd x 0e3,⟨h.dp.2.1,h.dp.2.2⟩⟩
  ·exact h
termination_by st=>st.length
def Uc.bB(F:Uc wt S N)(h:S.sl=.TK):Uc wt S.bB N :=
 {F with sk:=Bi _ F.sk,sl:=⟨fun k e=>0e4,fun k e=>0e4⟩}
def Uc.more{M:Nat}(F:Uc wt S N)(h:N<=M):Uc wt S M :=
 {F with nm:=ϒ F.nm h,md:=ϒ F.md h,pd:=ϒ F.pd h,an:=ϒ F.an h,lt:=ϒ F.lt h,lw:=fun k ws e=>⟨ϒ (F.lw k ws e).1 h,(F.lw k ws e).2⟩}
def xY.pass{m:Stm}(G:xY wt st)(h:bL st=some m):xY wt (fQ st):=by
 obtain⟨k,b,n,r,rfl,hm⟩:=gT h;have hn:=(Λ.mp hm).1;exact⟨⟨hn,G.ok.2⟩,fun x hx=>by
  rcases Α.mp hx with rfl|hx
  ·exact G.gd (k,b,n) 3e0
  ·exact G.gd x 0e3,G.dp⟩
theorem xY.enter{m:Stm}{c:Nat}(G:xY wt st)(h:bL st=some m)(hg:Af wt bb)(hd:oE bb+1<=m.dp):xY wt ((c,bb,0)::st):=by
 obtain⟨k,b,n,r,rfl,hm⟩:=gT h;have hn:=(Λ.mp hm).1;have h2:=uL hm;have h3:=G.dp.1;refine⟨⟨Α4 _,fun x hx=>?_⟩,fun x hx=>?_,?_,G.dp⟩
 ·rcases Α.mp hx with rfl|hx
  ·exact hn
  ·exact G.ok.2 x hx
 ·rcases Α.mp hx with rfl|hx
  ·exact hg
  ·exact G.gd x hx
 ·simp only[Ζ];omega
def Uc.stm(F:Uc wt S N){m:Stm}(h:bL S.stk=some m):m.gd wt:=by
 obtain⟨k,b,n,r,e,hm⟩:=gT h;exact HV (F.sk.gd (k,b,n) 9e4) hm
def IE(h:S.pl.Ok)(n:Str){w:Wo}(hw:dX w):({S with nm:=cB S.nm n w}:Pu).pl.Ok :=
 ⟨fun x=>by show dX (jX (cB S.nm n w) x);rw[FI];split;exact hw;exact h.nm x,h.ar,h.an⟩
theorem rC:∀(l:List 0e0) (k:Str) (r:List Wo) (j:Str) (ws:List Wo),aT (dO l k r) j=some ws->(j=k/\ws=r)\/aT l j=some ws
 | [],_,_,_,_,h=>by simp[dO,aT] at h
 | p::l,k,r,j,ws,h=>by
  by_cases e:p.1=k
  ·rw[dO,if_pos e,aT] at h;by_cases e2:p.1=j
   ·rw[if_pos e2] at h;cases h;exact .inl ⟨by rw[<- e2,e],rfl⟩
   ·rw[if_neg e2] at h;exact .inr (by rw[aT,if_neg e2];exact h)
  ·rw[dO,if_neg e,aT] at h;by_cases e2:p.1=j
   ·rw[if_pos e2] at h;exact .inr (by rw[aT,if_pos e2];exact h)
   ·rw[if_neg e2] at h;rcases rC l k r j ws h with x|x
    ·exact .inl x
    ·exact .inr (by rw[aT,if_neg e2];exact x)
theorem m9:∀(l:List 0e0) (k:Str) (r:List Wo),(dO l k r).length=l.length
 | [],_,_=>rfl
 | p::l,k,r=>by
  rw[dO];split
  ·rfl
  ·simp[m9 l k r]
theorem Ac(h:∀ w∈ws,dX w):dX 6e5:=by
 unfold bA;cases e:ans.find? fun p=>decide (some p.1∈ws) with
 | none=>exact kM
 | some p =>
  have:=List.find?_some e;exact h _ (by simpa using this)
def yS{α:Type}{p:α->Bool}{l:List α}:(l.filter p).length<=l.length:=Δ1 p l
theorem Uc.bT(F:Uc wt S N){m:Stm}(h:bL S.stk=some m)(hs:S.sl=.TK)(hN:N<=900000):Uc wt (bT S m).1 2e0:=by
 have g:=F.stm h;have F1:=F.more 5e1;have Ui:(∀ k,S.sl=.TV k->∃ x,bL S.stk=some (.TV x k))/\∀ ts,S.sl=.wait ts->∃ x ss,bL S.stk=some (.wait x ss):=F.sl;have put:∀(n:Str) {w:Wo},dX w->Uc wt {S with nm:=cB S.nm n w} 2e0:=fun n w hw =>
  {F1 with nm:=by (have:=B8 S.nm n w;have:=F.nm;show(cB S.nm n w).length<=N+1;omega),pl:=IE F.pl n hw}
 have rG:∀ n,Uc wt (S.rG n) 2e0:=fun n =>
  have hw:dX (some (S.made:Int)):=fO (by omega) (by have:=F.md;omega)
  {F1 with
   nm:=(put n hw).nm
   pl:=(put n hw).pl
   md:=(by have:=F.md;show S.made+1<=N+1;omega)
   pd:=(by have:=F.pd;show(S.pend++[(S.made:Int)]).length<=N+1;rw[Ν];simp;exact this)}
 cases m with
 | set x s=>exact put x (Mm F g)
 | order x y s=>exact rG x
 | child x y s=>exact rG x
 | Ub x s=>exact rG x
 | send s k r=>exact F1
 | drop s =>
  simp only[Own.bT];split
  ·split
   ·exact {F1 with pd:=ϒ yS 2e4}
   ·exact F1
  ·exact F1
 | wait x ss =>
  simp only[Own.bT];split
  ·exact {F1 with sl:=⟨fun k e=>5e0,fun ts e=>⟨x,ss,h⟩⟩}
  ·exact put x (Ac fun w hw=>by
    obtain⟨s,VQ,rfl⟩:=Α9.mp hw;exact Mm F (g.2.2 s VQ))
 | TV x k =>
  simp only[Own.bT];split
  ·next w r e =>
   obtain⟨ws,el,rfl⟩:∃ ws,aT S.lt k=some ws/\ws=w::r:=by
    cases el:aT S.lt k with
    | none=>rw[el] at e;cases e
    | some ws=>rw[el] at e;exact⟨ws,rfl,e⟩
   have hl:=F.lw k _ el;exact {put x (hl.2 w 3e0) with
    lt:=(by have:=F.lt;show(dO S.lt k r).length<=N+1;rw[m9];omega)
    lw:=fun j vs hj=>by
     rcases rC S.lt k r j vs hj with⟨_,rfl⟩|z
     ·exact⟨by have:=hl.1;simp only[Ζ] at this;omega,fun w hw=>hl.2 w (ϑ _ hw)⟩
     ·exact F1.lw j vs z}
  ·exact {F1 with sl:=⟨fun k' e=>(by cases e;exact⟨x,h⟩),fun ts e=>5e0⟩}
 | fin s=>exact {F1 with pd:=Α4 _,sl:=⟨fun k e=>5e0,fun k e=>5e0⟩}
 | Uj s b=>exact F1
 | iff s b o=>exact F1
def nP{s:Slp}(h:s.isN=true):s=.TK:=by cases s<;>first|rfl|cases h
theorem Uc.one(F:Uc wt S N){m:Stm}(h:bL S.stk=some m)(hs:S.sl=.TK)(hN:N<=900000):Uc wt (one S m).1 2e0:=by
 have g:=F.stm h;have F1:=F.more 5e1;have ab3:∀ {st:Stk},Uc wt {S with stk:=st} 2e0->Uc wt {S with stk:=st} 2e0:=fun z=>z;have pass:∀ {S':Pu},Uc wt S' 2e0->S'.sl=.TK->S'.stk=S.stk->Uc wt S'.pass 2e0:=fun {S'} z a b =>
  {z with sk:=(by have:=z.sk;rw[b] at this;show xY wt (fQ S'.stk);rw[b];exact this.pass h),sl:=⟨fun k e=>9e3,fun k e=>9e3⟩}
 have enter:∀(c:Nat) (bb:List Stm),Af wt bb->oE bb+1<=m.dp->Uc wt (S.enter c bb) 2e0:=fun c bb hg hd =>
  {F1 with sk:=F.sk.enter h hg hd,sl:=⟨fun k e=>8e3,fun k e=>8e3⟩}
 by_cases hB:m.isB=true
 ·simp only[Own.one,if_pos hB];cases m with
  | Uj s b =>
   simp only[sH];split
   ·exact pass F1 hs rfl
   ·exact enter 0 b g.2 (by simp[Stm.dp])
  | iff s b o =>
   simp only[sH];split
   ·exact enter 1 o g.2.2 3e4
   ·exact enter 0 b g.2.1 3e4
  | _=>cases hB
 ·simp only[Own.one,if_neg hB];have D:=F.bT h hs hN;split
  ·next z=>exact pass D (nP z) (mG S m)
  ·exact D
def kD{m:Stm}(h:m.isB=false):one S m=(if (bT S m).1.sl.isN=true then (bT S m).1.pass else (bT S m).1,(bT S m).2):=by simp[one,h]
def BY{m:Stm}(h:m.isB=true):one S m=(sH S m,[]):=by simp[one,h]
def k7:List.lookup (Str.ofString "set") [((Str.ofString "set":Str),s0),((Str.ofString "order":Str),s1),((Str.ofString "timer":Str),s2),((Str.ofString "child":Str),s3),((Str.ofString "send":Str),s4),((Str.ofString "drop":Str),s5),((Str.ofString "wait":Str),s6),((Str.ofString "hear":Str),s7),((Str.ofString "end":Str),s8)]=some s0:=by rw[Lg]
def hW:List.lookup (Str.ofString "order") [((Str.ofString "set":Str),s0),((Str.ofString "order":Str),s1),((Str.ofString "timer":Str),s2),((Str.ofString "child":Str),s3),((Str.ofString "send":Str),s4),((Str.ofString "drop":Str),s5),((Str.ofString "wait":Str),s6),((Str.ofString "hear":Str),s7),((Str.ofString "end":Str),s8)]=some s1:=by rw[l8,Lg]
def hZ:List.lookup (Str.ofString "timer") [((Str.ofString "set":Str),s0),((Str.ofString "order":Str),s1),((Str.ofString "timer":Str),s2),((Str.ofString "child":Str),s3),((Str.ofString "send":Str),s4),((Str.ofString "drop":Str),s5),((Str.ofString "wait":Str),s6),((Str.ofString "hear":Str),s7),((Str.ofString "end":Str),s8)]=some s2:=by rw[l8,l8,Lg]
def hE:List.lookup (Str.ofString "child") [((Str.ofString "set":Str),s0),((Str.ofString "order":Str),s1),((Str.ofString "timer":Str),s2),((Str.ofString "child":Str),s3),((Str.ofString "send":Str),s4),((Str.ofString "drop":Str),s5),((Str.ofString "wait":Str),s6),((Str.ofString "hear":Str),s7),((Str.ofString "end":Str),s8)]=some s3:=by rw[l8,l8,l8,Lg]
def i8:List.lookup (Str.ofString "send") [((Str.ofString "set":Str),s0),((Str.ofString "order":Str),s1),((Str.ofString "timer":Str),s2),((Str.ofString "child":Str),s3),((Str.ofString "send":Str),s4),((Str.ofString "drop":Str),s5),((Str.ofString "wait":Str),s6),((Str.ofString "hear":Str),s7),((Str.ofString "end":Str),s8)]=some s4:=by rw[l8,l8,l8,l8,Lg]
def i6:List.lookup (Str.ofString "drop") [((Str.ofString "set":Str),s0),((Str.ofString "order":Str),s1),((Str.ofString "timer":Str),s2),((Str.ofString "child":Str),s3),((Str.ofString "send":Str),s4),((Str.ofString "drop":Str),s5),((Str.ofString "wait":Str),s6),((Str.ofString "hear":Str),s7),((Str.ofString "end":Str),s8)]=some s5:=by rw[l8,l8,l8,l8,l8,Lg]
def i9:List.lookup (Str.ofString "wait") [((Str.ofString "set":Str),s0),((Str.ofString "order":Str),s1),((Str.ofString "timer":Str),s2),((Str.ofString "child":Str),s3),((Str.ofString "send":Str),s4),((Str.ofString "drop":Str),s5),((Str.ofString "wait":Str),s6),((Str.ofString "hear":Str),s7),((Str.ofString "end":Str),s8)]=some s6:=by rw[l8,l8,l8,l8,l8,l8,Lg]
def i7:List.lookup (Str.ofString "hear") [((Str.ofString "set":Str),s0),((Str.ofString "order":Str),s1),((Str.ofString "timer":Str),s2),((Str.ofString "child":Str),s3),((Str.ofString "send":Str),s4),((Str.ofString "drop":Str),s5),((Str.ofString "wait":Str),s6),((Str.ofString "hear":Str),s7),((Str.ofString "end":Str),s8)]=some s7:=by rw[l8,l8,l8,l8,l8,l8,l8,Lg]
def k6:List.lookup (Str.ofString "end") [((Str.ofString "set":Str),s0),((Str.ofString "order":Str),s1),((Str.ofString "timer":Str),s2),((Str.ofString "child":Str),s3),((Str.ofString "send":Str),s4),((Str.ofString "drop":Str),s5),((Str.ofString "wait":Str),s6),((Str.ofString "hear":Str),s7),((Str.ofString "end":Str),s8)]=some s8:=by rw[l8,l8,l8,l8,l8,l8,l8,l8,Lg]
def deeds9{σ:Str->Sp->Prop}{y:Str}{sp:Sp}(h:List.lookup y [((Str.ofString "set":Str),s0),((Str.ofString "order":Str),s1),((Str.ofString "timer":Str),s2),((Str.ofString "child":Str),s3),((Str.ofString "send":Str),s4),((Str.ofString "drop":Str),s5),((Str.ofString "wait":Str),s6),((Str.ofString "hear":Str),s7),((Str.ofString "end":Str),s8)]=some sp)(z0:σ "set" s0)(z1:σ "order" s1)(z2:σ "timer" s2)(z3:σ "child" s3)(z4:σ "send" s4)(z5:σ "drop" s5)(z6:σ "wait" s6)(z7:σ "hear" s7)(z8:σ "end" s8):σ y sp:=by
 rcases JP h with⟨rfl,rfl⟩|h
 ·exact z0
 rcases JP h with⟨rfl,rfl⟩|h
 ·exact z1
 rcases JP h with⟨rfl,rfl⟩|h
 ·exact z2
 rcases JP h with⟨rfl,rfl⟩|h
 ·exact z3
 rcases JP h with⟨rfl,rfl⟩|h
 ·exact z4
 rcases JP h with⟨rfl,rfl⟩|h
 ·exact z5
 rcases JP h with⟨rfl,rfl⟩|h
 ·exact z6
 rcases JP h with⟨rfl,rfl⟩|h
 ·exact z7
 rcases JP h with⟨rfl,rfl⟩|h
 ·exact z8
 cases h
def eL(h:bL S.bB.stk=none)(n:Nat):eB n S=S.bB.ends none:=by
 cases n<;>simp only[eB,h]
def jD{m:Stm}(h:bL S.bB.stk=some m):eB 0 S=S.bB.oS:=by simp only[eB,h]
def nO{m:Stm}(h:bL S.bB.stk=some m)(z:(one S.bB m).1.sl.isN=true)(n:Nat):eB (n+1) S=((eB n (one S.bB m).1).1,(one S.bB m).2++(eB n (one S.bB m).1).2):=by simp only[eB,h,z,Γ3]
def jC{m:Stm}(h:bL S.bB.stk=some m)(z:(one S.bB m).1.sl.isN=false)(n:Nat):eB (n+1) S=one S.bB m:=by simp only[eB,h,z,Β4,Ϙ]
def Bl(S:Pu)(m:Stm):(bT S m).2.length<=1:=by
 cases m<;>simp only[bT,Pu.ends,Ζ,ϕ,Α4,Ι,Γ4]
 ·split
  ·split<;>simp
  ·simp
 ·split<;>simp
 ·split<;>simp
def Ep(S:Pu)(m:Stm):(one S m).2.length<=1:=by
 unfold one;split
 ·simp
 ·exact Bl S m
inductive Hap where
 | UE (m:Int) (w:Wo)|don (m t:Int) (w:Wo)|ltr (m:Int) (k:Str) (w:Wo)
variable{hs:List Hap}
def Hap.ini:Hap->List V
 | .UE m _=>[.str "begin",.int m]
 | .don m t _=>[.str "done",.int m,.int t]
 | .ltr m k _=>[.str "letter",.int m,.str k]
def Hap.w:Hap->Wo
 | .UE _ w | .don _ _ w | .ltr _ _ w=>w
def Hap.vs(h:Hap):List V:=h.ini++[wv h.w]
variable{vs:List V}
def Hap.m:Hap->Int
 | .UE m _ | .don m _ _ | .ltr m _ _=>m
variable{m:Stm}
def lQ(H:Hp)(v:V)(h:Hap):Prop:=∃ a,v=.ref a/\H a=some (.tup h.vs)
def Pu.over(S:Pu)(h:Hap):Bool:=match S.sl with
 | .new=>(match h with
  | .UE _ _=>false
  | _=>true)
 | .ended _=>true
 | .worn=>true
 | _=>(match h with
  | .UE _ _=>true
  | .don _ i _=>!decide (i∈S.pend)
  | .ltr _ _ _=>false)
def fM(l:List 0e0)(k:Str)(w:Wo):List 0e0:=match aT l k with
 | some ws=>dO l k (ws++[w])
 | none=>l++[(k,[w])]
def Pu.at'(S:Pu)(m:Int):Pu:={S with nw:=later S.nw m}
def Pu.done(S:Pu)(i:Int)(w:Wo):Pu:={S with pend:=S.pend.filter fun j=>decide (j≠i),ans:=S.ans++[(i,w)]}
def Pu.fB(S:Pu)(i:Int)(w:Wo):Pu×Cmds:=match S.sl with
 | .wait ts=>if i∈ts then (S.done i w).wake 0e2 else (S.done i w,[])
 | _=>(S.done i w,[])
def Pu.eW(S:Pu)(k:Str)(w:Wo):Pu×Cmds:=match S.sl with
 | .TV k'=>if k'=k then S.wake w else ({S with lt:=fM S.lt k w},[])
 | _=>({S with lt:=fM S.lt k w},[])
def Pu.take(S:Pu)(h:Hap):Pu×Cmds:=if S.over h=true then (S,[]) else match h with
 | .UE m w=>eB 300 {S with nw:=later S.nw m,ar:=w,sl:=.TK}
 | .don m i w=>(S.at' m).fB i w
 | .ltr m k w=>(S.at' m).eW k w
def dM(b:List Stm):Pu:=⟨[(0,b,0)],.new,none,0,[],0,[],[],[]⟩
inductive Ju(C:Cl)(vs:List V)(H:Hp)(Q:VK)(E:XK):Prop
 | mk (R:Rn) (as:List Addr) (sl:V) (S:Pu) (v:V) (h:Hap) (_:vs=[.ref R.x,v]) (_:aX C H R as sl S) (_:S.sl.isN=false) (_:lQ H v h) (_:∀ H',Kp [] H H'->Q (.bl (S.over h)) H'):Ju C vs H Q E
inductive ET(C:Cl)(wt:Bool)(vs:List V)(H:Hp)(Q:VK)(E:XK):Prop
 | mk (R:Rn) (as:List Addr) (sl:V) (S:Pu) (w:Wo) (N:Nat) (_:vs=[.ref R.x,wv w]) (_:aX C H R as sl S) (_:Uc wt S N) (_:N<=700000) (_:dX w) (_:((∃ k,S.sl=.TV k)\/∃ ts,S.sl=.wait ts)) (_:Told C R as as H Q (S.wake w)):ET C wt vs H Q E
inductive ER(C:Cl)(wt:Bool)(vs:List V)(H:Hp)(Q:VK)(E:XK):Prop
 | mk (R:Rn) (as:List Addr) (sl:V) (S:Pu) (i:Int) (w:Wo) (N:Nat) (_:vs=[.ref R.x,.int i,wv w]) (_:aX C H R as sl S) (_:Uc wt S N) (_:N<=600000) (_:dX w) (_:i∈S.pend) (_:S.sl.isN=false) (_:Told C R as as H Q (S.fB i w)):ER C wt vs H Q E
def Mc(C:Cl)(R:Rn)(as Um:List Addr)(H:Hp)(Q:VK)(z:Pu×Cmds):Prop:=∀(sl:V) (c:Addr) (us:List V) (H':Hp),aX C H' R Um sl z.1->H c=none->c∉Um->H' c=some 4e1->gN H' us z.2->Fw R as Um H H'->Q (.ref c) H'
inductive Jy(C:Cl)(wt:Bool)(vs:List V)(H:Hp)(Q:VK)(E:XK):Prop
 | mk (R:Rn) (as:List Addr) (sl:V) (S:Pu) (k:Str) (w:Wo) (N:Nat) (_:vs=[.ref R.x,.str k,wv w]) (_:aX C H R as sl S) (_:Uc wt S N) (_:N<=600000) (_:dX w) (_:((∃ k,S.sl=.TV k)\/∃ ts,S.sl=.wait ts)) (_:∀ Um,Mc C R as Um H Q (S.eW k w)):Jy C wt vs H Q E
inductive AQ(C:Cl)(wt:Bool)(vs:List V)(H:Hp)(Q:VK)(E:XK):Prop
 | mk (R:Rn) (as:List Addr) (sl:V) (S:Pu) (v:V) (h:Hap) (N:Nat) (_:vs=[.ref R.x,v]) (_:aX C H R as sl S) (_:Uc wt S N) (_:N<=500000) (_:S.sl.isN=false) (_:lQ H v h) (_:((0<=h.m/\h.m<=1000000000000)/\dX h.w)) (_:∀ Um,Mc C R as Um H Q (S.take h)):AQ C wt vs H Q E
inductive AN(C:Cl)(vs:List V)(H:Hp)(Q:VK)(E:XK):Prop
 | mk (x dx pg:Addr) (us:List V) (b:List Stm) (_:vs=[.ref x,.ref pg]) (_:H x=some 8e2) (_:H pg=some 6e3) (_:bV H us b) (_:∀(R:Rn) (sl:V) (H':Hp),R.x=x->aX C H' R [] sl (dM b)->Kp [x] H H'->(∀ a∈R.cells,a=x\/H a=none)->Q .TK H'):AN C vs H Q E
theorem tJ(i:Int)(ts:List Int):pM (.int i) (ts.map V.int)=decide (i∈ts):=by
 rw[Ε6];simp[pM,n8]
def nN(ts:List Int):(ts.map V.int).all eK=true:=by simp[eK]
theorem K0{K:q0B}{b:Addr}{z x y:Str}(n:Nat)(ha:H a=some (.tup [.str z,.str x]))(hb:H b=some (.tup [.str z,.str y])):qP K H (n+1) a b (decide (x=y)):=by
 have:=qP.tup (K:=K) (H:=H) (n:=n) (e:=fun j=>if j=0 then true else decide (x=y)) (iR.of ha) (iR.of hb) fun j u v e1 e2=>by
  rcases j with _|_|j
  ·simp only[Ξ,Ο] at e1 e2;subst e1 e2;have:=r9.flat (K:=K) (H:=H) (n:=n) (x:=.str z) (y:=.str z) rfl rfl
   rwa [show n8 (.str z) (.str z)=true by simp[n8]] at this
  ·simp only[List.getElem?_cons_succ,Ξ,Ο] at e1 e2;subst e1 e2;have:=r9.flat (K:=K) (H:=H) (n:=n) (x:=.str x) (y:=.str y) rfl rfl
   rwa [D0] at this
  ·simp at e1
 rw[show((List.range (min [V.str z,V.str x].length [V.str z,V.str y].length)).all (fun j=>if j=0 then true else decide (x=y))&&[V.str z,V.str x].length==[V.str z,V.str y].length)=decide (x=y) by simp[List.range_succ]] at this;exact this
theorem Uc.at'(F:Uc wt S N){m:Int}(h:0<=m/\m<=1000000000000):Uc wt (S.at' m) N :=
 {F with pl:=⟨F.pl.nm,F.pl.ar,F.pl.an⟩,nw:=(by have:=F.nw;show 0<=later S.nw m/\later S.nw m<=1000000000000;unfold later;split<;>omega)}
theorem vF{i:Int}{w:Wo}:∀(l:List 1e0) (x:Wo),fZ 2e5 x=fZ l x\/fZ 2e5 x=w
 | _,none=>.inl (by simp[fZ])
 | [],some j=>by
  by_cases h:i=j
  ·exact .inr 9e2
  ·exact .inl 9e2
 | p::r,some j=>by
  by_cases h:p.1=j
  ·exact .inl 9e2
  ·rcases vF (i:=i) (w:=w) r (some j) with z|z
   ·exact .inl 7e4
   ·exact .inr 7e4
def Uc.done(F:Uc wt S N){i:Int}{w:Wo}(hw:dX w):Uc wt (S.done i w) 2e0 :=
 {F.more 5e1 with
  pd:=ϒ yS 2e4
  an:=(by have:=F.an;show(S.ans++[(i,w)]).length<=N+1;simp;exact this)
  pl:=⟨F.pl.nm,F.pl.ar,fun x=>(by
   show dX (fZ (S.ans++[(i,w)]) x);rcases vF (i:=i) (w:=w) S.ans x with z|z
   ·rw[z];exact F.pl.an x
   ·rw[z];exact hw)⟩}
theorem vI{k:Str}{ws:List Wo}:∀(l:List 0e0) (j:Str) (vs:List Wo),aT (l++[(k,ws)]) j=some vs->(j=k/\vs=ws)\/aT l j=some vs
 | [],j,vs,h=>by
  rw[Α1,aT] at h;by_cases e:k=j
  ·rw[if_pos e] at h;cases h;exact .inl ⟨e.symm,rfl⟩
  ·rw[if_neg e] at h;cases h
 | p::r,j,vs,h=>by
  rw[Χ,aT] at h;by_cases e:p.1=j
  ·rw[if_pos e] at h;exact .inr (by rw[aT,if_pos e];exact h)
  ·rw[if_neg e] at h;rcases vI r j vs h with z|z
   ·exact .inl z
   ·exact .inr (by rw[aT,if_neg e];exact z)
theorem Uc.fM(F:Uc wt S N){w:Wo}(hw:dX w):Uc wt {S with lt:=fM S.lt k w} 2e0:=by
 have F1:=F.more 5e1;unfold Own.fM;cases e:aT S.lt k with
 | some ws =>
  have hl:=F.lw k ws e;exact {F1 with
   lt:=(by have:=F.lt;show(dO S.lt k (ws++[w])).length<=N+1;rw[m9];omega)
   lw:=fun j vs h=>by
    rcases rC S.lt k _ j vs h with⟨_,rfl⟩|z
    ·exact⟨by have:=hl.1;simp;exact this,fun u hu=>by
      rcases Κ.mp hu with hu|hu
      ·exact hl.2 u hu
      ·rw[show u=w by simpa using hu];exact hw⟩
    ·exact F1.lw j vs z}
 | none =>
  exact {F1 with
   lt:=(by have:=F.lt;show(S.lt++[(k,[w])]).length<=N+1;simp;exact this)
   lw:=fun j vs h=>by
    rcases vI S.lt j vs h with⟨_,rfl⟩|z
    ·exact⟨by simp,fun u hu=>by rw[show u=w by simpa using hu];exact hw⟩
    ·exact F1.lw j vs z}
theorem AJ{k:Str}{a b:List Wo}:∀ {l:List 0e0},aT l k=none->dO (l++[(k,a)]) k b=l++[(k,b)]
 | [],_=>by simp[dO]
 | p::r,h=>by
  rw[aT] at h;by_cases e:p.1=k
  ·rw[if_pos e] at h;cases h
  ·rw[if_neg e] at h;rw[Χ,dO,if_neg e,AJ h];rfl
theorem Uc.wake(F:Uc wt S N)(h:bL S.stk=some m){w:Wo}(hw:dX w)(n:Str):Uc wt {S with nm:=cB S.nm n w,stk:=fQ S.stk,sl:=.TK} 2e0 :=
 {F.more 5e1 with
  nm:=(by have:=B8 S.nm n w;have:=F.nm;show(cB S.nm n w).length<=N+1;omega)
  pl:=(IE F.pl n hw)
  sk:=F.sk.pass h
  sl:=⟨fun k e=>5e0,fun k e=>5e0⟩}
def SW{x:Addr}{p:Addr}{u:HO}(k:Kp [x] H G)(gx:G x=some u)(hp:G p=none):H p=none:=by
 cases z:H p with
 | none=>rfl
 | some o =>
  by_cases hz:p=x
  ·subst hz;rw[gx] at hp;cases hp
  ·rw[k.at1 z hz] at hp;cases hp
def Ll{pg:Addr}{Q:Addr->Hp->Prop}(ep:H1 pg=some 6e3)(hs:bV H1 us b)(q:∀ x wx lb ln H',Kp [] H1 H'->H1 x=none->H1 lb=none->H1 ln=none->jQ C H' x wx lb ln [(0,b,0)]->Q x H') : ∀ x dx,H1 x=none->H1 dx=none->dx≠x->xI C [.ref x,.ref pg] 6e1 4e2 E:=fun x dx hx ZD ne=>by
 have K1:Kp [] H1 6e1:=(Kp.new ZD).trans 3e2;exact⟨x,dx,pg,us,b,rfl,aA,K1.at ep,hs.kp 7e5,fun lb ln H' f1 f2 W K=>⟨rfl,q x dx lb ln H' 2e2 hx 4e5 3e5 W⟩⟩
def Q4{Q:Addr->Hp->Prop}(q:∀ x tx dp da H',Kp [] H1 H'->H1 x=none->H1 dp=none->H1 da=none->iZ C H' x tx dp da 0 [] []->Q x H') : ∀ x dx,H1 x=none->H1 dx=none->dx≠x->xH C [.ref x] 6e1 4e2 E:=fun x dx hx ZD ne=>by
 have K1:Kp [] H1 6e1:=(Kp.new ZD).trans 3e2;exact⟨x,dx,rfl,aA,fun dp da H' f1 f2 T K=>⟨rfl,q x dx dp da H' 2e2 hx 4e5 3e5 T⟩⟩
def Aq{C:Cl}{pg:Addr}{Q:Addr->Hp->Prop}(ep:H1 pg=some 6e3)(hs:bV H1 us b)(q:∀(R:Rn) (sl:V) H',aX C H' R [] sl (dM b)->Kp [] H1 H'->(∀ a∈R.cells,H1 a=none)->Q R.x H') : ∀ x dx,H1 x=none->H1 dx=none->dx≠x->AN C [.ref x,.ref pg] (TH 7e3 x 8e2) 4e2 E:=fun x dx hx ZD ne=>by
 have K1:Kp [] H1 (TH 7e3 x 8e2):=(Kp.new ZD).trans 3e2;refine⟨x,dx,pg,us,b,rfl,aA,K1.at ep,hs.kp 7e5,fun R sl H' e1 A K M=>⟨rfl,?_⟩⟩;subst e1;exact q R sl H' A 2e2 fun a ha=>by
  rcases M a ha with rfl|z
  ·exact hx
  ·exact dE (dE z)
inductive zS(C:Addr)(vs:List V)(H:Hp)(Q:VK)(E:XK):Prop
 | mk (tk tx dp da l:Addr) (made:Nat) (pend:List Int) (ans:List 1e0) (ws:List Wo) (_:vs=[.ref tk,.ref l]) (_:iZ C H tk tx dp da made pend ans) (_:H l=some (.lst 9e1)) (_:ws.length<=4) (_:ans.length<=1000000) (_:∀ H',Kp [] H H'->Q (wv 6e5) H'):zS C vs H Q E
def Ic(ans:List 1e0)(w:Wo):Bool:=ans.any fun p=>decide (w=some p.1)
def cA(ans:List 1e0):List Wo->List Int
 | []=>[]
 | none::r=>cA ans r
 | some i::r=>if Ic ans 0e2=true then i::cA ans r else cA ans r
def JU(ans:List 1e0)(w:Wo):(aY (iC ans) (wk w)).isSome=Ic ans w:=by
 induction ans with
 | nil=>simp[iC,xT,Ic]
 | cons p r ih =>
  have e:iC (p::r)=(Key.inl p.1,wv p.2)::iC r:=rfl;rw[e];by_cases h:w=some p.1
  ·subst h;rw[show wk (some p.1)=Key.inl p.1 from rfl,cO rfl];simp[Ic]
  ·rw[cE (fun z=>h (by cases w with
    | none=>cases z
    | some j=>cases z;rfl)),ih]
   simp[Ic,h]
def Ie(ans:List 1e0):Ic ans none=false:=by simp[Ic]
theorem qW(ans:List 1e0):∀(l r:List Wo),cA ans (l++r)=cA ans l++cA ans r
 | [],r=>rfl
 | none::l,r=>by simp only[Χ,cA,qW ans l r]
 | some i::l,r=>by
  simp only[Χ,cA,qW ans l r];split<;>simp
def CW{w:Wo}(e:ws[i]?=some w):(cA ans 8e4).map V.int=if Ic ans w=true then (cA ans 8e1).map V.int++[wv w] else (cA ans 8e1).map V.int:=by
 rw[Α8,e];simp only[Α2,qW,Α3];cases w with
 | none=>rw[Ie];simp[cA]
 | some j =>
  simp only[cA];split<;>simp[wv]
theorem nM(ans:List 1e0):∀ ws:List Wo,(cA ans ws).length<=ws.length
 | []=>Ι _
 | none::r=>by have:=nM ans r;simp only[cA,Ζ];omega
 | some i::r=>by
  have:=nM ans r;simp only[cA,Ζ];split
  ·simp only[Ζ];omega
  ·omega
theorem kN{ans:List 1e0}{i:Int}:∀ {ws:List Wo},i∈cA ans ws↔Ic ans 0e2=true/\some i∈ws
 | []=>by simp[cA]
 | none::r=>by simp[cA,kN (ws:=r)]
 | some j::r=>by
  have ih:=kN (ans:=ans) (i:=i) (ws:=r);simp only[cA];split
  ·next h =>
   simp only[Α,ih,Ο];constructor
   ·rintro(rfl|⟨a,b⟩)
    ·exact⟨h,.inl rfl⟩
    ·exact⟨a,.inr b⟩
   ·rintro⟨a,b|b⟩
    ·exact .inl b
    ·exact .inr ⟨a,b⟩
  ·next h =>
   rw[ih];simp only[Α,Ο];constructor
   ·rintro⟨a,b⟩;exact⟨a,.inr b⟩
   ·rintro⟨a,b|b⟩
    ·subst b;exact absurd a h
    ·exact⟨a,b⟩
theorem Bx(i:Int):∀ ns:List Int,pM (.int i) (ns.map V.int)=decide (i∈ns)
 | []=>by simp[pM]
 | n::r=>by
  have ih:=Bx i r;simp only[pM,ϓ,List.any_cons] at ih ⊢;rw[ih];by_cases h:n=i
  ·subst h;simp[n8]
  ·have:n8 (V.int n) (V.int i)=false:=by simp[n8,h]
   rw[this];simp[Ne.symm h]
theorem uS{α:Type}{p q:α->Bool}:∀ {l:List α},(∀ x∈l,p x=q x)->l.find? p=l.find? q
 | [],_=>rfl
 | x::l,h=>by
  simp only[List.find?,h x 3e0,uS fun y hy=>h y (ϑ _ hy)]
theorem uT(ans:List 1e0)(ws:List Wo):bA ans ws=((ans.map (·.1)).filter fun i=>decide 7e1).head?:=by
 unfold bA;rw[List.head?_filter,List.find?_map]
 congr 1
 refine uS fun p hp=>?_;have:Ic ans (some p.1)=true:=by simp only[Ic,List.any_eq_true];exact⟨p,hp,by simp⟩
 simp only[Function.comp,kN,this,true_and]
theorem wD{val:Nat->Int}{j:Int}:∀ {n:Nat},j∈once val n↔∃ k,k < n/\val k=j
 | 0=>by simp[once]
 | n+1=>by
  have ih:=wD (val:=val) (j:=j) (n:=n);have up:(∃ k,k < n+1/\val k=j)↔(∃ k,k < n/\val k=j)\/val n=j:=by
   constructor
   ·rintro⟨k,hk,e⟩;by_cases h:k=n
    ·subst h;exact .inr e
    ·exact .inl ⟨k,by omega,e⟩
   ·rintro(⟨k,hk,e⟩|e)
    ·exact⟨k,by omega,e⟩
    ·exact⟨n,by omega,e⟩
  rw[up,once];split
  ·next h =>
   rw[ih];constructor
   ·exact .inl
   ·rintro(z|z)
    ·exact z
    ·subst z;exact wD.mp h
  ·simp only[Κ,List.mem_singleton,ih];constructor
   ·rintro(z|z)
    ·exact .inl z
    ·exact .inr z.symm
   ·rintro(z|z)
    ·exact .inl z
    ·exact .inr z.symm
def nS:j∈lU ns↔j∈ns:=by
 unfold lU;rw[wD,List.mem_iff_getElem];constructor
 ·rintro⟨k,hk,e⟩;exact⟨k,hk,by rw[Ε7,ϐ hk] at e;exact e⟩
 ·rintro⟨k,hk,e⟩;exact⟨k,hk,by rw[Ε7,ϐ hk];exact e⟩
def IK(h:(lU ns).length < 2){i:Int}(hi:i∈ns)(hj:j∈ns):i=j:=by
 have a:=nS.mpr hi;have b:=nS.mpr hj
 match e:lU ns,h with
 | [],_=>rw[e] at a;cases a
 | [x],_ =>
  rw[e] at a b;rw[List.mem_singleton.mp a,List.mem_singleton.mp b]
theorem Fl(h:(lU 3e3).length < 2):bA ans ws=(cA ans ws).head?:=by
 rw[uT];cases e:cA ans ws with
 | nil=>simp
 | cons i r =>
  have hi:i∈cA ans ws:=by rw[e];simp
  have he:∀ j∈cA ans ws,j=i:=fun j hj=>IK h hj hi;obtain⟨p,hp,ep⟩:=List.any_eq_true.mp (kN.mp hi).1;have ep:i=p.1:=by simpa using ep
  show _=some i;have hm:i∈((ans.map (·.1)).filter fun j=>decide 4e3):=Α5.mpr ⟨Α9.mpr ⟨p,hp,ep.symm⟩,by simp⟩;cases z:((ans.map (·.1)).filter fun j=>decide 4e3) with
  | nil=>rw[z] at hm;cases hm
  | cons x xs =>
   have hx:x∈((ans.map (·.1)).filter fun j=>decide 4e3):=by rw[z];simp
   have:=he x (by rw[e];simpa using(Α5.mp hx).2);rw[this];rfl
theorem C0(h:¬ (lU 3e3).length < 2):∃ i r,((ans.map (·.1)).filter fun i=>decide 7e1)=i::r/\bA ans ws=some i:=by
 have hf:=uT ans ws;cases z:((ans.map (·.1)).filter fun i=>decide 7e1) with
 | cons i r=>rw[z] at hf;exact⟨i,r,rfl,hf⟩
 | nil =>
  exfalso;cases e:lU 3e3 with
  | nil=>rw[e] at h;exact h 3e0
  | cons i r =>
   have hi:i∈cA ans ws:=nS.mp 9e4;obtain⟨p,hp,ep⟩:=List.any_eq_true.mp (kN.mp hi).1;have ep:i=p.1:=by simpa using ep
   have hm:i∈((ans.map (·.1)).filter fun i=>decide 7e1):=Α5.mpr ⟨Α9.mpr ⟨p,hp,ep.symm⟩,by simpa using hi⟩;rw[z] at hm;cases hm
def gQ.atW(h:gQ H vs ss):∀ {i:Nat} {x:V},vs[i]?=some x->∃ y,ss[i]?=some y/\dJ H x y:=by
 induction h with
 | nil=>intro i x e;simp at e
 | cons h _ ih =>
  intro i x e;cases i with
  | zero=>simp only[Ξ,Ο] at e;subst e;exact⟨_,rfl,h⟩
  | succ i=>exact ih 6e2
def gQ.OJ(h:gQ H vs ss):vs.length=ss.length:=by
 induction h with
 | nil=>rfl
 | cons _ _ ih=>simp[ih]
def dS(pend:List Int):List Wo->List Int
 | []=>[]
 | none::r=>dS pend r
 | some i::r=>if i∈pend then i::dS pend r else dS pend r
theorem rQ(pend:List Int):∀(l r:List Wo),dS pend (l++r)=dS pend l++dS pend r
 | [],r=>rfl
 | none::l,r=>by simp only[Χ,dS,rQ pend l r]
 | some i::l,r=>by
  simp only[Χ,dS,rQ pend l r];split<;>simp
theorem Dn{w:Wo}(e:ws[i]?=some w):(dS pend 8e4).map V.int=if decide (∃ j∈pend,w=some j)=true then (dS pend 8e1).map V.int++[wv w] else (dS pend 8e1).map V.int:=by
 rw[Α8,e];simp only[Α2,rQ,Α3];cases w with
 | none=>simp[dS]
 | some j =>
  by_cases h:j∈pend
  ·simp[dS,h,wv]
  ·simp[dS,h]
theorem kQ(pend:List Int):∀ ws:List Wo,(dS pend ws).length<=ws.length
 | []=>Ι _
 | none::r=>by have:=kQ pend r;simp only[dS,Ζ];omega
 | some i::r=>by
  have:=kQ pend r;simp only[dS,Ζ];split
  ·simp only[Ζ];omega
  ·omega
theorem vL{i j:Int}:∀ {l:List Int},j∈u9 i l↔j=i\/j∈l
 | []=>by simp[u9]
 | k::r=>by
  have ih:=vL (i:=i) (j:=j) (l:=r);simp only[u9];split
  ·simp
  ·split
   ·next h =>
    subst h;simp only[Α];constructor
    ·exact .inr
    ·rintro(z|z)
     ·exact .inl z
     ·exact z
   ·simp only[Α,ih];constructor
    ·rintro(z|z|z)
     ·exact .inr (.inl z)
     ·exact .inl z
     ·exact .inr (.inr z)
    ·rintro(z|z|z)
     ·exact .inr (.inl z)
     ·exact .inl z
     ·exact .inr (.inr z)
theorem By{i:Int}:∀ {l:List Int},l.Pairwise (· < ·)->(u9 i l).Pairwise (· < ·)
 | [],_=>by simp[u9]
 | k::r,h=>by
  obtain⟨h1,h2⟩:=Γ2.mp h;simp only[u9];split
  ·next c=>exact Γ2.mpr ⟨fun x hx=>by
    rcases Α.mp hx with rfl|hx
    ·exact c
    ·have:=h1 x hx;omega,h⟩
  ·split
   ·exact h
   ·exact Γ2.mpr ⟨fun x hx=>by
     rcases vL.mp hx with rfl|hx
     ·omega
     ·exact h1 x hx,By h2⟩
theorem gS(pend:List Int):∀ ws:List Wo,(bO pend ws).Pairwise (· < ·)
 | []=>.nil
 | none::r=>gS pend r
 | some i::r=>by
  simp only[bO];split
  ·exact By (gS pend r)
  ·exact gS pend r
theorem lD{pend:List Int}{j:Int}:∀ {ws:List Wo},j∈bO pend ws↔j∈dS pend ws
 | []=>by simp[bO,dS]
 | none::r=>by simp only[bO,dS];exact lD
 | some i::r=>by
  have ih:=lD (pend:=pend) (j:=j) (ws:=r);simp only[bO,dS];split
  ·rw[vL,ih,Α]
  ·exact ih
theorem wF(val:Nat->Int):∀ n,(once val n).Nodup
 | 0=>by simp[once]
 | n+1=>by
  have ih:=wF val n;rw[once];split
  ·exact ih
  ·next h=>exact ϙ.mpr ⟨ih,by simp,fun a ha b hb=>by
    rw[List.mem_singleton.mp hb];exact fun z=>h (z▸ha)⟩
theorem B0(hp:ns.Perm (lU (dS pend ws)))(hs:ns.Pairwise (·<=·)):ns=bO pend ws:=by
 refine nA (hp.trans ?_) hs (gS pend ws);refine(List.perm_ext_iff_of_nodup (wF _ _) ((gS pend ws).imp fun h=>by omega)).mpr fun j=>?_;show j∈lU _↔_;rw[nS,lD]
inductive fX(H:Hp):List V->List 4e0->Prop
 | nil:fX H [] []
 | cons {a:Addr} {x y:V} {us:List V} {ps:List 4e0}:H a=some 2e3->fX H us ps->fX H 5e5 ((x,y)::ps)
def fX.kt{ps:List 4e0}(h:fX H us ps)(k:aC H H'):fX H' us ps:=by
 induction h with
 | nil=>exact .nil
 | cons a _ ih=>exact .cons (k _ _ a) ih
def fX.snoc{ps:List 4e0}{x:V}(h:fX H us ps)(e:H a=some 2e3):fX H 0e5 (ps++[(x,y)]):=by
 induction h with
 | nil=>exact .cons e .nil
 | cons b _ ih=>exact .cons b ih
def fX.len{ps:List 4e0}(h:fX H us ps):us.length=ps.length:=by
 induction h with
 | nil=>rfl
 | cons _ _ ih=>simp[ih]
theorem fX.of{H:Hp}:∀ {as:List Addr} {ps:List 4e0},as.length=ps.length->(∀(j:Nat) (a:Addr) (x y:V),as[j]?=some a->ps[j]?=some (x,y)->H a=some 2e3)->fX H (as.map V.ref) ps
 | [],[],_,_=>.nil
 | [],_::_,h,_=>by simp at h
 | _::_,[],h,_=>by simp at h
 | a::as,(x,y)::ps,h,g=>.cons (g 0 a x y rfl rfl) (fX.of (by simpa using h) fun j b x y e1 e2=>g (j+1) b x y (by simpa using e1) (by simpa using e2))
inductive iV(H:Hp):List V->List 0e0->Prop
 | nil:iV H [] []
 | cons {a b:Addr} {k:Str} {ws:List Wo} {us:List V} {ps:List 0e0}:H a=some 4e4->H b=some (.tup 9e1)->iV H us ps->iV H 5e5 ((k,ws)::ps)
def iV.kt(h:iV H us ps)(k:aC H H'):iV H' us ps:=by
 induction h with
 | nil=>exact .nil
 | cons a b _ ih=>exact .cons (k _ _ a) (k _ _ b) ih
def iV.snoc{b:Addr}(h:iV H us ps)(e:H a=some 4e4)(f:H b=some (.tup 9e1)):iV H 0e5 (ps++[(k,ws)]):=by
 induction h with
 | nil=>exact .cons e f .nil
 | cons c d _ ih=>exact .cons c d ih
def iV.len(h:iV H us ps):us.length=ps.length:=by
 induction h with
 | nil=>rfl
 | cons _ _ _ ih=>simp[ih]
def gC(nm:List 3e1):List Str->List 4e0
 | []=>[]
 | n::r=>if jX nm n=none then gC nm r else (.str n,wv (jX nm n))::gC nm r
theorem zB(nm:List 3e1):∀ l r:List Str,gC nm (l++r)=gC nm l++gC nm r
 | [],_=>rfl
 | n::l,r=>by
  simp only[Χ,gC,zB nm l r];split<;>rfl
def iO(lt:List 0e0):List Str->List 0e0
 | []=>[]
 | k::r=>if (aT lt k).getD []=[] then iO lt r else (k,(aT lt k).getD [])::iO lt r
theorem y7(lt:List 0e0):∀ l r:List Str,iO lt (l++r)=iO lt l++iO lt r
 | [],_=>rfl
 | n::l,r=>by
  simp only[Χ,iO,y7 lt l r];split<;>rfl
theorem rH(nm:List 3e1):∀ l:List Str,(gC nm l).length<=l.length
 | []=>Ι _
 | n::l=>by
  have:=rH nm l;simp only[gC];split<;>simp only[Ζ]<;>omega
theorem rD(lt:List 0e0):∀ l:List Str,(iO lt l).length<=l.length
 | []=>Ι _
 | n::l=>by
  have:=rD lt l;simp only[iO];split<;>simp only[Ζ]<;>omega
def Pu.nmS(S:Pu):List 4e0:=gC S.nm (srt (S.nm.map (·.1)))
def Pu.ltS(S:Pu):List 0e0:=iO S.lt (srt (S.lt.map (·.1)))
def Pu.anS(S:Pu):List 4e0:=S.ans.map fun p=>(.int p.1,wv p.2)
def Slp.sF:Slp->Bool
 | .wait _=>true
 | .TV _=>true
 | _=>false
def t9(H:Hp)(v:V)(S:Pu):Prop:=if S.sl.sF=true then ∃(p pl pn po pa pt:Addr) (sl:V) (un ua ut:List V),v=.ref p/\H p=some (.tup [sl,.ref pl,wv S.ar,.int S.nw,.ref pn,.int S.made,.ref po,.ref pa,.ref pt])/\jU H sl S.sl /\
    H pl=some (.tup ((cL S.stk).map V.int))/\H pn=some (.tup un)/\fX H un S.nmS/\H po=some (.tup 7e2)/\H pa=some (.tup ua)/\fX H ua S.anS/\H pt=some (.tup ut)/\iV H ut S.ltS
  else jU H v S.sl
theorem EU:∀ nm:List 3e1,jB (fI nm)=some (nm.map (·.1))
 | []=>rfl
 | p::r=>by
  have ih:=EU r;show(jB (fI r)).map (p.1::·)=_;rw[ih];rfl
def LX{as:List Addr}(h:gB H kvs as lt):jB kvs=some (lt.map (·.1)):=by
 induction h with
 | nil=>rfl
 | @cons a k ws kvs as lt _ _ ih =>
  show(jB kvs).map (k::·)=_;rw[ih];rfl
theorem Iy:∀ {nm:List 3e1} {n:Str},n∈nm.map (·.1)->aY (fI nm) (.inr n)=some (wv (jX nm n))
 | [],n,h=>by simp at h
 | p::r,n,h=>by
  show aY ((Key.inr p.1,wv p.2)::fI r) (.inr n)=_;by_cases e:p.1=n
  ·rw[cO (by rw[e]),jX,if_pos e]
  ·rw[cE (fun z=>e 1e1),jX,if_neg e];refine Iy ?_;rcases Α.mp h with h|h
   ·exact absurd h.symm e
   ·exact h
def gB.inS{as:List Addr}(h:gB H kvs as lt)(hk:k∈lt.map (·.1)):∃ a ws,aY kvs 1e2=some (.ref a)/\aT lt k=some ws/\H a=some (.lst 9e1):=by
 rcases h.look k with⟨_,e⟩|⟨a,ws,x,y,_,u⟩
 ·exfalso;clear h
  induction lt with
  | nil=>simp at hk
  | cons p r ih =>
   simp only[aT] at e;split at e
   ·cases e
   ·next hp =>
    rcases Α.mp hk with z|z
    ·exact hp z.symm
    ·exact ih z e
 ·exact⟨a,ws,x,y,u⟩
def jU.word{s:Slp}(h:jU H v s)(hn:s.isN=false):∃(p:Addr) (s0:Str) (r0:List V),v=.ref p/\H p=some (.tup (.str s0::r0))/\pM (.str s0) [.str "wait",.str "hear"]=s.sF:=by
 cases s with
 | TK=>cases hn
 | new=>obtain⟨p,rfl,e⟩:=h;exact⟨p,_,_,rfl,e,by simp[pM,n8,cK,Slp.sF]⟩
 | wait ts=>obtain⟨p,p2,rfl,e,_⟩:=h;exact⟨p,_,_,rfl,e,by simp[pM,n8,cK,Slp.sF]⟩
 | TV k=>obtain⟨p,rfl,e⟩:=h;exact⟨p,_,_,rfl,e,by simp[pM,n8,cK,Slp.sF]⟩
 | ended w=>obtain⟨p,rfl,e⟩:=h;exact⟨p,_,_,rfl,e,by simp[pM,n8,cK,Slp.sF]⟩
 | worn=>obtain⟨p,rfl,e⟩:=h;exact⟨p,_,_,rfl,e,by simp[pM,n8,cK,Slp.sF]⟩
def cR{c:TT}{t u:TS}{D:Ends}(h:∀ R:St->Hp->Prop,(∀ Z' H',t D Z' H'->R Z' H')->AV c (fun _=>R) u D Z H):AV c t u D Z H:=h (t D) fun _ _ z=>z
inductive EN(C:Addr)(vs:List V)(H:Hp)(Q:VK)(E:XK):Prop
 | mk (wk wx lb ln:Addr) (st:Stk) (_:vs=[.ref wk]) (_:jQ C H wk wx lb ln st) (_:∀ p,H p=none->Q (.ref p) (TH H p (.tup ((cL st).map V.int)))):EN C vs H Q E
inductive EO(C:Cl)(vs:List V)(H:Hp)(Q:VK)(E:XK):Prop
 | mk (R:Rn) (as:List Addr) (sl:V) (S:Pu) (_:vs=[.ref R.x]) (_:aX C H R as sl S) (_:S.sl.isN=false) (_:S.pend.length<=1000000) (_:S.nm.length < 64) (_:S.lt.length < 64) (_:S.ans.length<=1000000) (_:(∀ k ws,aT S.lt k=some ws->ws.length<=1000000)) (_:∀(v:V) (H':Hp),t9 H' v S->Kp [] H H'->Q v H'):EO C vs H Q E
def Stm.BA:Stm->Bool
 | .set _ _ | .order _ _ _ | .Ub _ _ | .child _ _ _ | .send _ _ _ | .drop _=>true
 | _=>false
theorem Mo{i M:Int}(h:0 < M)(h':M<=2 ^ 62)(j:Int):CMul (i % M) j:=by
 have:=Int.emod_nonneg i (show M≠0 by omega);have:=Int.emod_lt_of_pos i h;exact .inl ⟨by omega,by omega⟩
def ix32:yA 3 2=some 2:=rfl
structure cH(H:Hp)(r:Addr)(n:Nat):Prop where
 ex:∃ c m s:Int,H r=some (.lst [.int c,.int m,.int s])/\0<=s/\s<=n
def cH.kp{r:Addr}{n:Nat}(R:cH H r n)(h:Kp [] H H'):cH H' r n:=by
 obtain⟨c,m,s,e,x⟩:=R;exact⟨c,m,s,h _ _ e 3e0,x⟩
def cH.new{r p:Addr}{n:Nat}(R:cH H r n)(h:H p=none):cH 0e1 r n:=R.kp (Kp.new h)
def cH.none{r p:Addr}{n:Nat}(R:cH H r n)(h:H p=Option.none):p≠r:=by
 obtain⟨c,m,s,e,_⟩:=R;exact(aF e h).symm
def made1{r p:Addr}{n:Nat}(x:Kp [r] 0e1 H')(R:cH H r n)(h:H p=none):H' p=some o:=x.at1 aA (R.none h)
def EI:Sp:=fun vs H Q _=>∃(r:Addr) (m:Int) (n:Nat),vs=[.ref r,.int m]/\0 < m/\m<=10 ^ 45/\cH H r n/\n<=100000/\∀(g:Int) (H':Hp),0<=g->g < m->cH H' r (n+1)->Kp [r] H H'->Q (.int g) H'
def LF{r:Addr}{m:Int}:EI [.ref r,.int m] H Q E=(0 < m/\m<=10 ^ 45/\∃ n,cH H r n/\n<=100000/\∀(g:Int) (H':Hp),0<=g->g < m->cH H' r (n+1)->Kp [r] H H'->Q (.int g) H') :=
 propext ⟨fun⟨_,_,n,e,a,b,c⟩=>by cases e;exact⟨a,b,n,c⟩,fun⟨a,b,n,c⟩=>⟨_,_,n,rfl,a,b,c⟩⟩
inductive Jn(vs:List V)(H:Hp)(Q:VK)(E:XK):Prop
 | mk (z:Int) (k:Nat) (_:vs=[.int z,.int k]) (_:∀ r H',H r=none->Kp [] H H'->cH H' r k->Q (.ref r) H'):Jn vs H Q E
theorem cH.up{H:Hp}{r:Addr}{n m:Nat}(R:cH H r n)(h:n<=m):cH H r m:=by
 obtain⟨c,f,s,e,x,y⟩:=R;exact⟨c,f,s,e,x,by omega⟩
def cH.tk{r:Addr}{n:Nat}(R:cH H r n)(k:Kp [r] H H'):aC H H':=.of k fun a ha=>by
 obtain⟨c,f,s,e,_⟩:=R;have:a=r:=by simpa using ha
 exact⟨_,this▸e,fun _ h=>by cases h⟩
def bd:Nat->Nat
 | 0=>3
 | d+1=>2 * bd d+3
theorem MS(d:Nat):3<=bd d:=by
 cases d with
 | zero=>exact Ι _
 | succ d=>rw[bd];omega
inductive Cm(vs:List V)(H:Hp)(Q:VK)(E:XK):Prop
 | mk (r:Addr) (n:Nat) (_:vs=[.ref r]) (_:cH H r n) (_:n<=900) (_:∀(w:Wo) (H':Hp),dX w->cH H' r (n+2)->Kp [r] H H'->Q (wv w) H'):Cm vs H Q E
def EH:Sp:=fun vs H Q _=>∃(r:Addr) (n:Nat),vs=[.ref r]/\cH H r n/\n<=900/\∀(x:Str) (H':Hp),cH H' r (n+1)->Kp [r] H H'->Q (.str x) H'
def LD{r:Addr}:EH [.ref r] H Q E = ∃ n,cH H r n/\n<=900/\∀(x:Str) (H':Hp),cH H' r (n+1)->Kp [r] H H'->Q (.str x) H' :=
 propext ⟨fun⟨_,n,e,c⟩=>by cases e;exact⟨n,c⟩,fun⟨n,c⟩=>⟨_,n,rfl,c⟩⟩
inductive AL(d:Nat)(vs:List V)(H:Hp)(Q:VK)(E:XK):Prop
 | mk (r:Addr) (dp:Int) (n:Nat) (_:vs=[.ref r,.int dp]) (_:1<=dp) (_:dp<=d) (_:cH H r n) (_:n+bd d<=900) (_:∀(v:V) (s:Say) (H':Hp),dJ H' v s->s.ok->(s.depth:Int)<=dp->cH H' r (n+bd d)->Kp [r] H H'->Q v H'):AL d vs H Q E
inductive Ck(vs:List V)(H:Hp)(Q:VK)(E:XK):Prop
 | mk (r:Addr) (n:Nat) (_:vs=[.ref r]) (_:cH H r n) (_:n<=100) (_:∀(v:V) (m:Stm) (H':Hp),cJ H' v m->m.gd false/\m.BA=true->Kp [r] H H'->Q v H'):Ck vs H Q E
def sst{a b:String}(h:a≠b):¬ ((Str.ofString a:Str)=Str.ofString b):=fun z=>h 6e4
def Lc{S:List Addr}{p:Addr}{u:HO}(h:H p=none):Kp S H (TH 0e1 p u):=fun b x e _=>by rw[aD (aF e h),aD (aF e h)];exact e
def OK6:List Str:=["code","at","mode","letters","awaited","outcome"]
inductive iL(H:Hp):List V->List 1e0->Prop
 | nil:iL H [] []
 | cons {a:Addr} {i:Int} {w:Wo} {ds:List V} {r:List 1e0}:H a=some 5e2->iL H ds r->iL H (.ref a::ds) ((i,w)::r)
def iL.kt(h:iL H ds r)(k:aC H H'):iL H' ds r:=by
 induction h with
 | nil=>exact .nil
 | cons e _ ih=>exact .cons (k _ _ e) ih
def iL.len(h:iL H ds r):ds.length=r.length:=by
 induction h with
 | nil=>rfl
 | cons _ _ ih=>simp[ih]
def iL.snoc{i:Int}{w:Wo}(h:iL H ds r)(e:H a=some 5e2):iL H (ds++[.ref a]) (r++[(i,w)]):=by
 induction h with
 | nil=>exact .cons e .nil
 | cons f _ ih=>exact .cons f ih
def iL.at(h:iL H ds r):∀ {j:Nat} {v:V},ds[j]?=some v->∃ a i w,v=.ref a/\r[j]?=some (i,w)/\H a=some 5e2:=by
 induction h with
 | nil=>intro j v e;simp at e
 | cons f _ ih =>
  intro j v e;cases j with
  | zero=>simp only[Ξ,Ο] at e;subst e;exact⟨_,_,_,rfl,rfl,f⟩
  | succ j=>simpa using ih 6e2
def iL.pairs(h:iL H ds r):tG H ds (iC r):=by
 refine⟨by rw[h.len];simp[iC],fun j v e1=>?_⟩;obtain⟨a,i,w,rfl,e2,e3⟩:=h.at e1;exact⟨a,.inl i,wv w,rfl,e3,by rw[iC,ϔ,e2];rfl⟩
structure cX(H:Hp)(md nd od dd:Addr)(ot:Str->Option V)(S:Pu):Prop where
 hm:∃ kvs,H md=some (.dK kvs)/\A7 ((kvs.length<=50/\∀ k∈OK6,aY kvs 1e2=ot k)) (aY kvs (.inr "names")=some (.ref nd)) (aY kvs (.inr "arg")=some (wv S.ar)) (aY kvs (.inr "now")=some (.int S.nw)) (aY kvs 1e5=some 1e3) (aY kvs (.inr "open")=some (.ref od)) (aY kvs (.inr "done")=some (.ref dd))
 hn:H nd=some (.dK (fI S.nm))
 ho:H od=some (.lst 7e2)
 hd:∃ ds,H dd=some (.lst ds)/\iL H ds S.ans
 n1:md≠nd
 n2:od≠dd
 asc:S.pend.Pairwise (· < ·)
 lt:∀ i∈S.pend,0<=i/\i < S.made
 uq:(S.ans.map (·.1)).Nodup
 dis:∀ p∈S.ans,p.1∉S.pend/\p.1 < S.made
def cX.kp{md nd od:Addr}(M:cX H md nd od dd ot S)(k:Kp [] H H'):cX H' md nd od dd ot S:=by
 obtain⟨kvs,e,r⟩:=M.hm;obtain⟨ds,e2,r2⟩:=M.hd;exact {M with hm:=⟨kvs,k.at e,r⟩,hn:=k.at M.hn,ho:=k.at M.ho,hd:=⟨ds,k.at e2,r2.kt (aC.nil k)⟩}
theorem y8:∀(more acc:List (Key×V)),(∀ kv∈more,aY acc kv.1=none)->(more.map (·.1)).Nodup->eZ acc more=acc++more
 | [],acc,_,_=>by simp[eZ]
 | kv::r,acc,h,nd=>by
  have e:aS acc kv.1 kv.2=acc++[kv]:=by
   have:=h kv 3e0;unfold aS;rw[iA,this];simp
  have:=y8 r (acc++[kv]) (fun x hx=>by
   rw[ϓ,ϗ] at nd;rw[<- e,gG,if_neg (fun z=>nd.1 (by rw[<- z];exact List.mem_map_of_mem hx))];exact h x 0e3) (by rw[ϓ,ϗ] at nd;exact nd.2)
  show eZ (aS acc kv.1 kv.2) r=_;rw[e,this];simp
def FJ{l:List 1e0}(h:(l.map (·.1)).Nodup):eZ [] (iC l)=iC l:=by
 rw[y8 _ _ (fun _ _=>xT)]
 ·rfl
 ·rw[iC,List.map_map];have:(l.map (·.1)).Nodup:=h
  induction l with
  | nil=>simp
  | cons x r ih =>
   rw[ϓ,ϗ] at h ⊢;refine⟨fun z=>h.1 ?_,ih h.2 h.2⟩;obtain⟨y,hy,e⟩:=Α9.mp z;simp only[Function.comp_apply,Key.inl.injEq] at e;exact Α9.mpr ⟨y,hy,by simpa using e⟩
inductive tZ(d:Nat)(vs:List V)(H:Hp)(Q:VK)(E:XK):Prop
 | mk (v:V) (md nd od dd:Addr) (ot:Str->Option V) (S:Pu) (s:Say) (_:vs=[v,.ref md]) (_:dJ H v s) (_:s.depth<=d) (_:s.ok) (_:cX H md nd od dd ot S) (_:S.pl.Ok) (_:∀ H',Kp [] H H'->Q (wv 2e1) H'):tZ d vs H Q E
def w_arg:S.worth .arg=S.ar:=rfl
def RO:S.worth (.ans s)=fZ S.ans 2e1:=rfl
def RU:S.worth (.neg s)=some (if num 2e1=0 then 1 else 0):=rfl
def RW{g:Sg}{a b:Say}:S.worth (.two g a b)=some (g.of (S.worth a) (S.worth b)):=rfl
def S4{w:Wo}{k:Int->Prop}{u:Tg k}:IG (wv w) k u=k (num w):=by cases w<;>rfl
theorem QJ{a b:Wo}(q:Q (.bl (decide (a=b))) H):JQ (wv a) (wv b) H Q:=by
 cases a<;>cases b<;>(refine⟨rfl,?_⟩;simpa[wv] using q)
def FE(w:Wo):fZ [] w=none:=by cases w<;>rfl
theorem FK{a b c:V}:eZ [] [((.inr 7e0:Key),a),(.inr 6e0,b),(.inr 8e0,c)]=[(.inr 7e0,a),(.inr 6e0,b),(.inr 8e0,c)]:=by
 have n1:=sst (show "+"≠"-" by decide);have n2:=sst (show "+"≠"*" by decide);have n3:=sst (show "-"≠"*" by decide);simp[eZ,aS,n1,n2,n3]
def RK{a b c:V}:aY [((.inr 7e0:Key),a),(.inr 6e0,b),(.inr 8e0,c)] (.inr 7e0)=some a:=cO rfl
theorem RN{a b c:V}:aY [((.inr 7e0:Key),a),(.inr 6e0,b),(.inr 8e0,c)] (.inr 6e0)=some b:=by
 rw[cE (fun z=>sst (show "+"≠"-" by decide) 1e1),cO rfl]
theorem RM{a b c:V}:aY [((.inr 7e0:Key),a),(.inr 6e0,b),(.inr 8e0,c)] (.inr 8e0)=some c:=by
 rw[cE (fun z=>sst (show "+"≠"*" by decide) 1e1),cE (fun z=>sst (show "-"≠"*" by decide) 1e1),cO rfl]
theorem g8{a b:String}{x:V}{o:Option V}(e:aY kvs (.inr 9e0)=o)(h:a≠b:=by decide):aY (aS kvs (.inr (Str.ofString b)) x) (.inr 9e0)=o:=by
 rw[gG,if_neg (fun z=>sst h 1e1)];exact e
def AY{a:String}{x:V}:aY (aS kvs (.inr 9e0) x) (.inr 9e0)=some x:=by rw[gG,if_pos rfl]
def mV{k:Key}{x:V}(h:aY kvs k=some y):(aS kvs k x).length=kvs.length:=by
 unfold aS;rw[iA,h];simp
def ok6{b:Str}{x:V}(hk:k∈OK6)(h:b∉OK6):aY (aS kvs (.inr b) x) 1e2=aY kvs 1e2:=by
 rw[gG,if_neg (fun z=>h (by cases z;exact hk))]
def made6:(Str.ofString "made")∉OK6:=by simp[OK6,cK]
theorem cX.made{md nd od:Addr}(M:cX H md nd od dd ot S)(e:H md=some (.dK kvs)):cX (TH H md (.dK (aS kvs 1e5 (.int ((S.made:Int)+1))))) md nd od dd ot {S with made:=S.made+1}:=by
 obtain⟨kv,e',l,v1,v2,v3,v4,v5,v6⟩:=M.hm;obtain⟨ds,e2,r2⟩:=M.hd;rw[e] at e';cases e';exact {M with
  hm:=⟨_,aA,⟨by rw[mV v4];exact l.1,fun k hk=>by rw[ok6 hk made6];exact l.2 k hk⟩,g8 v1,g8 v2,g8 v3,AY,g8 v5,g8 v6⟩
  hn:=by rw[aD M.n1.symm];exact M.hn
  ho:=cZ e M.ho
  hd:=⟨ds,cZ e e2,r2.kt (aC.cQ e)⟩
  lt:=fun i hi=>(by have:=M.lt i hi;exact⟨this.1,by show i < ((S.made+1:Nat):Int);omega⟩)
  dis:=fun p hp=>(by have:=M.dis p hp;exact⟨this.1,by show p.1 < ((S.made+1:Nat):Int);omega⟩)}
def cX.open{md nd od:Addr}(M:cX H md nd od dd ot S)(a:pd.Pairwise (· < ·))(b:∀ i∈pd,0<=i/\i < S.made)(c:∀ p∈S.ans,p.1∉pd):cX (TH H od (.lst (pd.map V.int))) md nd od dd ot {S with pend:=pd}:=by
 obtain⟨kv,e',r⟩:=M.hm;obtain⟨ds,e2,r2⟩:=M.hd;exact {M with
  hm:=⟨kv,cZ M.ho e',r⟩
  hn:=cZ M.ho M.hn
  ho:=aA
  hd:=⟨ds,by rw[aD M.n2.symm];exact e2,r2.kt (aC.cQ M.ho)⟩
  asc:=a
  lt:=b
  dis:=fun p hp=>⟨c p hp,(M.dis p hp).2⟩}
def cX.name{H:Hp}{md nd od dd:Addr}{ot:Str->Option V}{S:Pu}(M:cX H md nd od dd ot S)(x:Str)(w:Wo):cX (TH H nd (.dK (fI (cB S.nm x w)))) md nd od dd ot {S with nm:=cB S.nm x w}:=by
 obtain⟨kv,e',r⟩:=M.hm;obtain⟨ds,e2,r2⟩:=M.hd;exact {M with
  hm:=⟨kv,by rw[aD M.n1];exact e',r⟩
  hn:=aA
  ho:=cZ M.hn M.ho
  hd:=⟨ds,cZ M.hn e2,r2.kt (aC.cQ M.hn)⟩}
def cX.tk{md nd od:Addr}(M:cX H md nd od dd ot S)(k:Kp D H H')(h:∀ a∈D,a=md\/a=nd\/a=od\/∃ xs,H a=some (.lst xs)):aC H H':=.of k fun a ha=>by
 obtain⟨kv,e',r⟩:=M.hm;rcases h a ha with rfl|rfl|rfl|⟨xs,e⟩
 ·exact⟨_,e',fun _ z=>by cases z⟩
 ·exact⟨_,M.hn,fun _ z=>by cases z⟩
 ·exact⟨_,M.ho,fun _ z=>by cases z⟩
 ·exact⟨_,e,fun _ z=>by cases z⟩
def cX.other{md nd od:Addr}(M:cX H md nd od dd ot S)(e:H op=some 4e1)(n1:op≠od)(n2:op≠dd):cX (TH H op (.lst vs)) md nd od dd ot S:=by
 obtain⟨kv,e',r⟩:=M.hm;obtain⟨ds,e2,r2⟩:=M.hd;exact {M with
  hm:=⟨kv,cZ e e',r⟩
  hn:=cZ e M.hn
  ho:=by rw[aD n1.symm];exact M.ho
  hd:=⟨ds,by rw[aD n2.symm];exact e2,r2.kt (aC.cQ e)⟩}
def Ni(nw:Int)(w:Wo):(if nw+1e4 < 1000000000000 then nw+1e4 else 1000000000000)=uO nw w:=by
 cases w with
 | none=>simp[num,uO]
 | some z=>rfl
def cX.Z0{md nd od:Addr}(M:cX H md nd od dd ot S)(e:H op=some 4e1)(n1:op≠od):op∉[md,nd,od]:=by
 obtain⟨kv,e',r⟩:=M.hm;simp only[Α,Δ,Ψ,not_or];exact⟨dB e e' 5e4,dB e M.hn 5e4,n1⟩
inductive EJ(vs:List V)(H:Hp)(Q:VK)(E:XK):Prop
 | mk (md nd od dd:Addr) (ot:Str->Option V) (S:Pu) (x:Str) (_:vs=[.ref md,.str x]) (_:cX H md nd od dd ot S) (_:S.made<=100000) (_:S.pend.length<=100000) (_:S.nm.length<=100000) (_:∀ H',cX H' md nd od dd ot (S.rG x)->Kp [md,nd,od] H H'->Q 1e3 H'):EJ vs H Q E
inductive MB(vs:List V)(H:Hp)(Q:VK)(E:XK):Prop
 | mk (md nd od dd op:Addr) (ot:Str->Option V) (v:V) (S:Pu) (m:Stm) (us:List V) (cs:Cmds) (_:vs=[.ref md,v,.ref op]) (_:cX H md nd od dd ot S) (_:cJ H v m) (_:m.BA=true) (_:m.gd false) (_:S.pl.Ok) (_:S.made<=100000) (_:S.pend.length<=100000) (_:S.nm.length<=100000) (_:H op=some 4e1) (_:gN H us cs) (_:us.length<=100000) (_:op≠od) (_:op≠dd) (_:∀(H':Hp) (us':List V),cX H' md nd od dd ot (bT S m).1->H' op=some (.lst us')->gN H' us' (cs++(bT S m).2)->Kp [md,nd,od,op] H H'->Q .TK H'):MB vs H Q E
theorem k5:∀ {l:List Int} {i:Int} {k:Nat},l.Pairwise (· < ·)->B5 i l=some k->l.eraseIdx k=l.filter fun j=>decide (j≠i)
 | [],i,k,_,h=>by simp[B5] at h
 | a::l,i,k,p,h=>by
  rw[Γ2] at p;unfold B5 at h;rw[List.findIdx?_cons] at h;by_cases e:a=i
  ·subst e;simp only[decide_true,Γ3,Ο] at h;subst h;rw[List.eraseIdx_cons_zero,List.filter_cons_of_neg 3e0];exact(List.filter_eq_self.mpr fun j hj=>by have:=p.1 j hj;simp;omega).symm
  ·simp only[e,decide_false,Ϙ,Β4,Ϛ] at h;obtain⟨k',e',rfl⟩:=h;rw[List.eraseIdx_cons_succ,List.filter_cons_of_pos 6e2,k5 p.2 e']
def Ey{l:List Int}{i:Int}(h:i∈l):∃ k,B5 i l=some k:=by
 cases e:B5 i l with
 | some k=>exact⟨k,rfl⟩
 | none =>
  unfold B5 at e;rw[List.findIdx?_eq_none_iff] at e;exact absurd (e i h) 3e0
theorem QR(w:Wo)(p:List Int):pM (wv w) (p.map V.int)=decide (∃ i,i∈p/\w=some i):=by
 cases w with
 | none=>simp[pM,wv,n8]
 | some i=>rw[show wv 0e2=.int i from rfl,tJ];simp
def Pu.w(S:Pu)(st:Stk)(x:Slp):Pu:={S with stk:=st,sl:=x}
variable{w:Wo}
def DW(h:m.BA=true):(bT S m).1.sl=S.sl/\(bT S m).1.lt=S.lt/\(bT S m).1.ar=S.ar/\(bT S m).1.nw=S.nw:=by
 cases m with
 | drop s =>
  simp only[bT];split
  ·split
   ·exact⟨rfl,rfl,rfl,rfl⟩
   ·exact⟨rfl,rfl,rfl,rfl⟩
  ·exact⟨rfl,rfl,rfl,rfl⟩
 | wait _ _=>cases h
 | TV _ _=>cases h
 | fin _=>cases h
 | Uj _ _=>cases h
 | iff _ _ _=>cases h
 | _=>exact⟨rfl,rfl,rfl,rfl⟩
theorem tI(g:Af wt b)(d:oE b<=20):Uc wt (dM b) 0 :=
 {nm:=Ι _,md:=Ι _,pd:=Ι _,an:=Ι _,lt:=Ι _,lw:=fun k ws h=>(by cases h)
  pl:=⟨fun _=>kM,kM,fun w=>(by show dX (fZ [] w);rw[FE];exact kM)⟩
  nw:=⟨Int.le_refl _,by show(0:Int)<=1000000000000;decide⟩
  sk:=⟨⟨Α4 _,by simp⟩,fun x hx=>(by rw[show x=(0,b,0) by simpa[dM] using hx];exact g),⟨by simpa using d,trivial⟩⟩
  sl:=⟨fun k e=>5e0,fun k e=>5e0⟩}
def qV{c:TT}{t u:TS}{D:Ends}(h:∀ R:St->Hp->Prop,(∀ Z' H',u D Z' H'->R Z' H')->AV c t (fun _=>R) D Z H):AV c t u D Z H:=h (u D) fun _ _ z=>z
def Hr{c:TT}{tb:TS}{D:Ends}(h:∀ b:TS,(∀ D Z H,tb D Z H->b D Z H)->DC c b D Z H):DC c tb D Z H:=h tb fun _ _ _ z=>z
structure CE where
 m:Option Stm
 pt:List Int
 wh:Option Nat
variable{c:List CE}
end
mutual
noncomputable def Stm.sz:Stm->Nat
 | .Uj _ b=>bZ b+2
 | .iff _ b o=>bZ b+bZ o+2
 | _=>1
noncomputable def bZ:List Stm->Nat
 | []=>0
 | m::r=>m.sz+bZ r
end
mutual
noncomputable def Ae(pt:List Int)(p:Nat):Stm->List CE
 | .Uj s b=>⟨some (.Uj s b),pt,some (p+bZ b+2)⟩::(yT (pt++[0]) 0 (p+1) b++[⟨none,pt,some p⟩])
 | .iff s b o=>⟨some (.iff s b o),pt,some (p+bZ b+2)⟩::(yT (pt++[0]) 0 (p+1) b++(⟨none,pt,some (p+bZ b+bZ o+2)⟩::yT (pt++[1]) 0 (p+bZ b+2) o))
 | m=>[⟨some m,pt,none⟩]
noncomputable def yT(pt:List Int)(k p:Nat):List Stm->List CE
 | []=>[]
 | m::r=>Ae (pt++[(k:Int)]) p m++yT pt (k+1) (p+m.sz) r
end
def QK(h:m.isB=false):Ae pt p m=[⟨some m,pt,none⟩]:=by
 cases m<;>first|(simp only[Ae];done)|cases h
def JD(h:m.isB=false):m.sz=1:=by
 cases m<;>first|(simp only[Stm.sz];done)|cases h
mutual
theorem Eb(pt:List Int)(p:Nat):∀ m:Stm,(Ae pt p m).length=m.sz
 | .Uj s b=>by simp only[Ae,Stm.sz,Ζ,Ν,ϕ,gI]
 | .iff s b o=>by simp only[Ae,Stm.sz,Ζ,Ν,gI];omega
 | .set _ _ | .order _ _ _ | .Ub _ _ | .child _ _ _ | .send _ _ _ | .drop _ | .wait _ _ | .TV _ _ | .fin _=>by simp[Ae,Stm.sz]
theorem gI(pt:List Int)(k p:Nat):∀ b:List Stm,(yT pt k p b).length=bZ b
 | []=>by simp[yT,bZ]
 | m::r=>by simp only[yT,bZ,Ν,Eb,gI]
end
mutual
example:=[b.take n,.iff s b o,b2.take n2,.inr a,bP st,(by simpa using h),((k2,b2,n2)::r),p+bZ b+2,.lst xs,xs++ys,((0,b,n)::(k2,b2,n2)::r),pt++[((k+n:Nat):Int)],pt++[(n2:Int)]++[0],((k2,b2,n2+1)::r),b.take (n+1),((0,b,0)::st),((k,b,n)::r)]
theorem gF:∀ {b:List Stm} {n:Nat} {m:Stm},b[n]?=some m->bZ 4e1=bZ 0e0+m.sz
 | [],n,m,h=>by simp at h
 | x::b,0,m,h=>by
  simp only[Ξ,Ο] at h;subst h;simp[bZ]
 | x::b,n+1,m,h=>by
  have:=gF (b:=b) (n:=n) (m:=m) 5e0;simp only[Ζ3,bZ] at this ⊢;omega
def xW(c:List CE)(p:Nat)(xs:List CE):Prop:=∀ i x,xs[i]?=some x->c[p+i]?=some x
def xW.left{xs ys:List CE}(h:xW c p 9e0):xW c p xs:=fun i x e=>h i x (by
 rw[Β2 (Λ.mp e).1];exact e)
theorem xW.right{xs ys:List CE}(h:xW c p 9e0):xW c (p+xs.length) ys:=fun i x e=>by
 rw[Nat.add_assoc];exact h (xs.length+i) x (by rw[Β8 (by omega)];simpa using e)
def xW.head{x:CE}{xs:List CE}(h:xW c p (x::xs)):c[p]?=some x:=h 0 x rfl
def xW.tail{x:CE}{xs:List CE}(h:xW c p (x::xs)):xW c (p+1) xs:=fun i y e=>by
 rw[Nat.add_assoc,Nat.add_comm 1 i];exact h (i+1) y (by simpa using e)
theorem xW.at{c:List CE}{pt:List Int}:∀ {b:List Stm} {k p n:Nat} {m:Stm},xW c p (yT pt k p b)->b[n]?=some m->xW c (p+bZ 0e0) (Ae 1e1 (p+bZ 0e0) m)
 | [],_,_,_,_,_,h=>by simp at h
 | x::b,k,p,0,m,hi,h=>by
  simp only[Ξ,Ο] at h;subst h;simp only[yT] at hi;simpa[bZ] using hi.left
 | x::b,k,p,n+1,m,hi,h=>by
  simp only[yT] at hi;have r:=hi.right;rw[Eb] at r;have:=xW.at (n:=n) (m:=m) r 5e0;rw[Ζ3,bZ,<- Nat.add_assoc]
  rwa [show k+1+n=k+(n+1) by omega] at this
inductive Bs(P:List Stm):Stk->Nat->List Int->Prop
 | bot {n:Nat}:Bs P [(0,P,n)] 0 []
 | Uj {n k2 n2 B:Nat} {s:Say} {b b2:List Stm} {r:Stk} {pt:List Int}:Bs P 6e0 B pt->b2[n2]?=some (.Uj s b)->Bs P 0e1 (B+bZ 2e0+1) 2e1
 | Yr {n k2 n2 B:Nat} {s:Say} {b o b2:List Stm} {r:Stk} {pt:List Int}:Bs P 6e0 B pt->b2[n2]?=some 1e0->Bs P 0e1 (B+bZ 2e0+1) 2e1
 | if1 {n k2 n2 B:Nat} {s:Say} {b o b2:List Stm} {r:Stk} {pt:List Int}:Bs P 6e0 B pt->b2[n2]?=some 1e0->Bs P ((1,o,n)::(k2,b2,n2)::r) (B+bZ 2e0+bZ b+2) (pt++[(n2:Int)]++[1])
def jF(P:List Stm):List CE:=yT [] 0 0 P
theorem Bs.inC{B:Nat}(h:Bs P st B pt):∃ k b n r,st=(k,b,n)::r/\xW (jF P) B (yT pt 0 B b):=by
 induction h with
 | bot=>exact⟨_,_,_,_,rfl,fun i x e=>by rw[Γ4];exact e⟩
 | Uj hb e ih =>
  obtain⟨_,_,_,_,z,ih⟩:=ih;cases z;have:=xW.at ih e;simp only[Ae,Γ4] at this;exact⟨_,_,_,_,rfl,this.tail.left⟩
 | Yr hb e ih =>
  obtain⟨_,_,_,_,z,ih⟩:=ih;cases z;have:=xW.at ih e;simp only[Ae,Γ4] at this;exact⟨_,_,_,_,rfl,this.tail.left⟩
 | if1 hb e ih =>
  obtain⟨_,_,_,_,z,ih⟩:=ih;cases z;have:=xW.at ih e;simp only[Ae,Γ4] at this;have:=this.tail.right.tail;rw[gI] at this;refine⟨_,_,_,_,rfl,?_⟩
  rwa [show ∀ x y:Nat,x+1+y+1=x+y+2 by omega] at this
def Bs.n{k n:Nat}{r:Stk}{B:Nat}(h:Bs P 6e1 B pt)(n':Nat):Bs P ((k,b,n')::r) B pt:=by
 cases h with
 | bot=>exact .bot
 | Uj hb e=>exact .Uj hb e
 | Yr hb e=>exact .Yr hb e
 | if1 hb e=>exact .if1 hb e
variable{n:Nat}
def Ps(P:List Stm)(st:Stk)(p:Nat):Prop:=∃ B pt k b n r,st=(k,b,n)::r/\Bs P st B pt/\p=B+bZ 0e0/\n<=b.length
def JN(p:Nat):Stm->Option Nat
 | .Uj _ b=>some 7e0
 | .iff _ b _=>some 7e0
 | _=>none
def HQ(pt:List Int)(p:Nat)(m:Stm):∃ r,Ae pt p m=⟨some m,pt,JN p m⟩::r:=by
 cases m<;>exact⟨_,by simp only[Ae,JN];rfl⟩
def Ps.ent(h:Ps P st p)(e:bL st=some m):∃ pt,(jF P)[p]?=some ⟨some m,pt,JN p m⟩:=by
 obtain⟨B,pt,k,b,n,r,rfl,hB,rfl,hn⟩:=h;obtain⟨_,_,_,_,z,i⟩:=hB.inC;cases z;have:=xW.at i (show b[n]?=some m from e);obtain⟨q,hq⟩:=HQ (pt++[((0+n:Nat):Int)]) (B+bZ 0e0) m;rw[hq] at this;exact⟨_,this.head⟩
theorem Ps.pass(h:Ps P st p)(e:bL st=some m):Ps P (fQ st) (p+m.sz):=by
 obtain⟨B,pt,k,b,n,r,rfl,hB,rfl,hn⟩:=h;have e':b[n]?=some m:=e;exact⟨B,pt,k,b,n+1,r,rfl,hB.n _,by rw[gF e'];omega,(Λ.mp e').1⟩
theorem Ps.Uj{P:List Stm}{st:Stk}{p:Nat}{s:Say}{b:List Stm}(h:Ps P st p)(e:bL st=some (.Uj s b)):Ps P 5e1 (p+1):=by
 obtain⟨B,pt,k,b',n,r,rfl,hB,rfl,hn⟩:=h;exact⟨_,_,_,_,_,_,rfl,.Uj hB e,by simp[bZ],by omega⟩
theorem Ps.Yr{P:List Stm}{st:Stk}{p:Nat}{s:Say}{b o:List Stm}(h:Ps P st p)(e:bL st=some 1e0):Ps P 5e1 (p+1):=by
 obtain⟨B,pt,k,b',n,r,rfl,hB,rfl,hn⟩:=h;exact⟨_,_,_,_,_,_,rfl,.Yr hB e,by simp[bZ],by omega⟩
theorem Ps.if1{P:List Stm}{st:Stk}{p:Nat}{s:Say}{b o:List Stm}(h:Ps P st p)(e:bL st=some 1e0):Ps P ((1,o,0)::st) 7e0:=by
 obtain⟨B,pt,k,b',n,r,rfl,hB,rfl,hn⟩:=h;exact⟨_,_,_,_,_,_,rfl,.if1 hB e,by simp[bZ],by omega⟩
def uG{k:Nat}:bP [(k,b,n)]=[(k,b,n)]:=by simp[bP]
def Hm{k:Nat}{x:Nat×List Stm×Nat}{r:Stk}(h:n≠b.length):bP ((k,b,n)::x::r)=(k,b,n)::x::r:=by
 obtain⟨a,c,d⟩:=x;rw[bP,if_neg h]
def uH{k k2 n2:Nat}{b2:List Stm}{r:Stk}:bP ((k,b,b.length)::(k2,b2,n2)::r)=bP ((k2,b2,mM b2 n2)::r):=by
 rw[bP,if_pos rfl]
theorem Ps.turn:∀(l:Nat) (st:Stk) (p:Nat),st.length=l->Ps P st p -> (p=(jF P).length/\bL 4e0=none/\Ps P 4e0 p)\/(∃ m,bL 4e0=some m/\Ps P 4e0 p)\/∃ Ut p' pt,(jF P)[p]?=some ⟨none,pt,some p'⟩/\Ps P Ut p'/\bP Ut=bP st/\Ut.length < st.length:=by
 intro l
 induction l with
 | zero=>intro st p hl h;obtain⟨_,_,_,_,_,_,rfl,_⟩:=h;simp at hl
 | succ l ih =>
  intro st p hl h;have hh:=h;obtain⟨B,pt,k,b,n,r,rfl,hB,rfl,hn⟩:=h;by_cases e:n=b.length
  ·subst e;cases hB with
   | bot =>
    refine .inl ⟨?_,?_,?_⟩
    ·rw[jF,gI,Α0,Γ4]
    ·rw[uG];simp[bL]
    ·rw[uG];exact hh
   | @Uj _ k2 n2 B s _ b2 r pt hb e =>
    refine .inr (.inr ?_);obtain⟨_,_,_,_,z,i⟩:=hb.inC;cases z;have:=xW.at i e;simp only[Ae,Γ4] at this;have j:=this.tail.right.head;rw[gI] at j;rw[Α0];refine⟨_,_,_,j,⟨_,_,_,_,_,_,rfl,hb,rfl,Nat.le_of_lt (Λ.mp e).1⟩,?_,by simp⟩;rw[uH]
    congr 2
    simp[mM,e,Stm.Ak]
   | @Yr _ k2 n2 B s _ o b2 r pt hb e =>
    refine .inr (.inr ?_);obtain⟨_,_,_,_,z,i⟩:=hb.inC;cases z;have:=xW.at i e;simp only[Ae,Γ4] at this;have j:=this.tail.right.head;rw[gI] at j;rw[Α0];refine⟨_,_,_,j,⟨_,_,_,_,n2+1,_,rfl,hb.n _,by rw[gF e,Stm.sz];omega,(Λ.mp e).1⟩,?_,by simp⟩;rw[uH];simp[mM,e,Stm.Ak]
   | @if1 _ k2 n2 B s b0 _ b2 r pt hb e =>
    have hp:Ps P 3e1 (B+bZ 2e0+bZ b0+2+bZ (b.take b.length)):=⟨_,_,_,_,n2+1,_,rfl,hb.n _,by rw[gF e,Stm.sz,Α0];omega,(Λ.mp e).1⟩;have ec:bP ((1,b,b.length)::(k2,b2,n2)::r)=bP 3e1:=by
     rw[uH];simp[mM,e,Stm.Ak]
    rw[ec];rcases ih _ _ (by simp only[Ζ] at hl ⊢;omega) hp with z|z|⟨Ut,p',pt',h1,h2,h3,h4⟩
    ·exact .inl z
    ·exact .inr (.inl z)
    ·exact .inr (.inr ⟨Ut,p',pt',h1,h2,h3,by simp only[Ζ] at h4 ⊢;omega⟩)
  ·have lt:n < b.length:=by omega
   have ec:bP 6e1=(k,b,n)::r:=by
    cases r with
    | nil=>exact uG
    | cons x r=>exact Hm e
   rw[ec];exact .inr (.inl ⟨b[n],by simp[bL,lt],hh⟩)
def Stm.kw:Stm->Str
 | .set _ _=>"set" | .order _ _ _=>"order" | .Ub _ _=>"timer" | .child _ _ _=>"child" | .send _ _ _=>"send" | .drop _=>"drop" | .wait _ _=>"wait" | .TV _ _=>"hear" | .fin _=>"end" | .Uj _ _=>"while" | .iff _ _ _=>"if"
theorem cJ.kw(h:cJ H v m):∃ a r,v=.ref a/\H a=some (.tup (.str m.kw::r)):=by
 cases h<;>exact⟨_,_,rfl,by assumption⟩
def cJ.SX{o:List Stm}(h:cJ H (.ref a) 1e0):∃ v p q us,H a=some (.tup [.str "if",v,.ref p,.ref q])/\H q=some (.tup us)/\bV H us o:=by
 cases h with
 | iff e _ _ _ eq ho=>exact⟨_,_,_,_,e,eq,ho⟩
def QY(h:m.isB=false):((m.kw=("while":Str))=False)/\((m.kw=("if":Str))=False)/\((m.kw=("jump":Str))=False):=by
 cases m<;>first|(simp[Stm.kw,cK];done)|cases h
theorem Pj(m:Stm):1<=m.sz:=by cases m<;>simp only[Stm.sz]<;>omega
theorem i5:∀ b:List Stm,b.length<=bZ b
 | []=>by simp
 | m::r=>by have:=i5 r;have:=Pj m;simp only[Ζ,bZ];omega
theorem JC:∀(b:List Stm) (n:Nat),bZ 0e0<=bZ b
 | [],_=>by simp
 | _::_,0=>by simp[bZ]
 | m::r,n+1=>by have:=JC r n;simp only[Ζ3,bZ];omega
def kp1T{c:Addr}(k:Kp [c] H H')(e:H c=some 8e0):aC H H':=fun a ys h=>k a _ h (by
 simp only[Α,Δ,Ψ];intro z;subst z;rw[e] at h;cases h)
def free1{c p:Addr}(k:Kp [c] H G)(e:G c=some o)(h:G p=none):H p=none:=by
 cases z:H p with
 | none=>rfl
 | some u =>
  by_cases hc:p=c
  ·subst hc;rw[e] at h;cases h
  ·rw[k.at1 z hc] at h;cases h
def _root_.L2.Kp.bR{p:Addr}(k:Kp [] H H')(h:H' p=none):H p=none:=by
 cases e:H p with
 | none=>rfl
 | some o=>rw[k.at e] at h;cases h
def pQ{l k:List Addr}(h1:l.Nodup)(h2:k.Nodup)(t:∀ a∈l,∃ o,G a=some o)(f:∀ a∈k,G a=none):(l++k).Nodup:=ϙ.mpr ⟨h1,h2,fun x hx y hy z=>by
 obtain⟨o,e⟩:=t x hx;rw[z,f y hy] at e;cases e⟩
def g0{l k:List Addr}(h1:∀ a∈l,∃ o,G a=some o)(h2:∀ a∈k,∃ o,G a=some o):∀ a∈l++k,∃ o,G a=some o:=fun a ha=>(Κ.mp ha).elim (h1 a) (h2 a)
def kW{p:Addr}(h:G p=some o):∀ a∈[p],∃ o,G a=some o:=fun a ha=>by rw[show a=p by simpa using ha];exact⟨o,h⟩
def Si:Option Nat->V
 | none=>.TK
 | some n=>.int n
def CI(H:Hp)(a:Addr)(e:CE):Prop:=∃ pa,H pa=some (.tup (e.pt.map V.int))/\match e.m with
 | some m=>∃ sv,cJ H sv m/\H a=some (.lst [.str m.kw,sv,.ref pa,Si e.wh])
 | none=>H a=some (.lst [.str "jump",.TK,.ref pa,Si e.wh])
def CI.there{e:CE}(h:CI H a e):∃ xs,H a=some 8e0:=by
 obtain⟨pa,_,h⟩:=h;cases hm:e.m with
 | none=>rw[hm] at h;exact⟨_,h⟩
 | some m=>rw[hm] at h;obtain⟨_,_,h⟩:=h;exact⟨_,h⟩
def CI.keep{e:CE}(h:CI H a e)(k:∀ o,H a=some o->H' a=some o)(t:aC H H'):CI H' a e:=by
 obtain⟨pa,hp,h⟩:=h;refine⟨pa,t _ _ hp,?_⟩;cases hm:e.m with
 | none=>rw[hm] at h;exact k _ h
 | some m=>rw[hm] at h;obtain⟨sv,hs,h⟩:=h;exact⟨sv,hs.kp t,k _ h⟩
inductive dI(H:Hp):List Addr->List CE->Prop
 | nil:dI H [] []
 | cons {a:Addr} {e:CE} {as:List Addr} {c:List CE}:CI H a e->dI H as c->dI H (a::as) (e::c)
def dI.len{as:List Addr}(h:dI H as c):as.length=c.length:=by
 induction h with
 | nil=>rfl
 | cons _ _ ih=>simp[ih]
def dI.there{as:List Addr}(h:dI H as c):∀ a∈as,∃ xs,H a=some 8e0:=by
 induction h with
 | nil=>simp
 | cons e _ ih =>
  intro a ha;rcases Α.mp ha with rfl|ha
  ·exact e.there
  ·exact ih a ha
def dI.ex{as:List Addr}(h:dI H as c):∀ a∈as,∃ o,H a=some o:=fun a ha=>let ⟨_,e⟩:=h.there a ha;⟨_,e⟩
def dI.keep{as:List Addr}(h:dI H as c)(k:∀ a∈as,∀ o,H a=some o->H' a=some o)(t:aC H H'):dI H' as c:=by
 induction h with
 | nil=>exact .nil
 | cons e _ ih=>exact .cons (e.keep (k _ (by simp)) t) (ih fun a ha=>k a (by simp[ha]))
def dI.app{as bs:List Addr}{d:List CE}(h:dI H as c)(g:dI H bs d):dI H (as++bs) (c++d):=by
 induction h with
 | nil=>exact g
 | cons e _ ih=>exact .cons e ih
def dI.at{as:List Addr}(h:dI H as c):∀ {i:Nat} {e:CE},c[i]?=some e->∃ a,as[i]?=some a/\CI H a e:=by
 induction h with
 | nil=>intro i e z;simp at z
 | cons f _ ih =>
  intro i e z;cases i with
  | zero=>simp only[Ξ,Ο] at z;subst z;exact⟨_,rfl,f⟩
  | succ i=>simpa using ih (by simpa using z)
theorem Bp{pt:List Int}:∀ {b:List Stm} {k p n:Nat} {m:Stm},b[n]?=some m->yT pt k p 4e1=yT pt k p 0e0++Ae 1e1 (p+bZ 0e0) m
 | [],_,_,_,_,h=>by simp at h
 | x::b,k,p,0,m,h=>by
  simp only[Ξ,Ο] at h;subst h;simp[yT,bZ]
 | x::b,k,p,n+1,m,h=>by
  have:=Bp (pt:=pt) (b:=b) (k:=k+1) (p:=p+x.sz) (n:=n) (m:=m) 5e0;simp only[Ζ3,yT,bZ] at this ⊢;rw[this,List.append_assoc,show k+1+n=k+(n+1) by omega,Nat.add_assoc p]
theorem CD{b:Addr}(ha:H a=some (.tup xs))(hb:H b=some (.tup ys))(l:xs.length+ys.length<=1000)(h:∀ p H',H' p=some (.tup 9e0)->Kp [] H H'->Q (.ref p) H'):uC (.ref a) (.ref b) H Q:=by
 unfold uC;rw[HJ,ha,hb];refine⟨by rw[Ε4];omega,?_⟩;split
 ·next e=>subst e;exact h b H (by simpa using hb) Kp.refl
 ·split
  ·next e=>subst e;exact h a H (by simpa using ha) Kp.refl
  ·exact fun p hp=>h p _ aA (Kp.new hp)
inductive AM(d:Nat)(vs:List V)(H:Hp)(Q:VK)(E:XK):Prop
 | mk (bp pp cl:Addr) (us:List V) (b:List Stm) (pt:List Int) (as:List Addr) (_:vs=[.ref bp,.ref pp,.ref cl]) (_:H bp=some (.tup us)) (_:bV H us b) (_:oE b < d) (_:H pp=some (.tup (pt.map V.int))) (_:pt.length+2 * d<=1000) (_:H cl=some (.lst (as.map V.ref))) (_:as.length+bZ b<=100000) (_:∀(H':Hp) (new:List Addr),H' cl=some (.lst ((as++new).map V.ref))->dI H' new (yT pt 0 as.length b)->(∀ a∈new,H a=none)->new.Nodup->Kp [cl] H H'->Q .TK H'):AM d vs H Q E
def six6(h:k∈OK6):k≠("names":Str)/\k≠("arg":Str)/\k≠("now":Str)/\k≠("made":Str)/\k≠("open":Str)/\k≠("done":Str):=by
 simp only[OK6,Α,Δ,Ψ] at h;rcases h with rfl|rfl|rfl|rfl|rfl|rfl<;>simp[cK]
def AX{a b:Str}{x:V}{o:Option V}(h:a≠b)(e:aY kvs 3e0=o):aY (aS kvs (.inr b) x) 3e0=o:=by
 rw[gG,if_neg (fun z=>h (Key.inr.inj z))];exact e
def RL{a:Str}{x:V}:aY (aS kvs 3e0 x) 3e0=some x:=by rw[gG,if_pos rfl]
end
section
mutual
example:=[.dK kvs,.dK WZ,aS kvs (.inr "open") (.ref o2),aS kvs (.inr "now") (.int m),aS kvs (.inr "arg") (wv w),aS kvs (.inr k) v]
variable{md nd od:Addr}
def cX.zZ(M:cX H md nd od dd ot S)(e:H md=some 0e0)(WZ:List (Key×V)):TH H md 1e0 nd=some (.dK (fI S.nm))/\TH H md 1e0 od=some (.lst (S.pend.map V.int))/\∃ ds,TH H md 1e0 dd=some (.lst ds)/\iL (TH H md 1e0) ds S.ans:=by
 obtain⟨ds,e2,r2⟩:=M.hd;exact⟨by rw[aD M.n1.symm];exact M.hn,cZ e M.ho,ds,cZ e e2,r2.kt (aC.cQ e)⟩
def cX.ot6(M:cX H md nd od dd ot S)(e:H md=some 0e0)(hk:k∈OK6)(hy:ot k=some y)(v:V):cX (TH H md (.dK 5e0)) md nd od dd (fun j=>if j=k then some v else ot j) S:=by
 obtain⟨kv,e',l,v1,v2,v3,v4,v5,v6⟩:=M.hm;rw[e] at e';cases e';obtain⟨b1,b2,b3⟩:=M.zZ e 5e0;obtain⟨n1,n2,n3,n4,n5,n6⟩:=six6 hk;exact {M with
  hm:=⟨_,aA,⟨by rw[mV (by rw[l.2 k hk];exact hy)];exact l.1,fun j hj=>by
   rw[gG];by_cases h:j=k
   ·subst h;simp
   ·rw[if_neg (fun z=>h (Key.inr.inj z)),if_neg h];exact l.2 j hj⟩,AX n1.symm v1,AX n2.symm v2,AX n3.symm v3,AX n4.symm v4,AX n5.symm v5,AX n6.symm v6⟩
  hn:=b1
  ho:=b2
  hd:=b3}
def cX.now(M:cX H md nd od dd ot S)(e:H md=some 0e0)(m:Int):cX (TH H md (.dK 3e0)) md nd od dd ot {S with nw:=m}:=by
 obtain⟨kv,e',l,v1,v2,v3,v4,v5,v6⟩:=M.hm;rw[e] at e';cases e';obtain⟨b1,b2,b3⟩:=M.zZ e 3e0;exact {M with
  hm:=⟨_,aA,⟨by rw[mV v3];exact l.1,fun k hk=>by rw[AX (six6 hk).2.2.1 rfl];exact l.2 k hk⟩,g8 v1,g8 v2,AY,g8 v4,g8 v5,g8 v6⟩
  hn:=b1
  ho:=b2
  hd:=b3}
def cX.arg(M:cX H md nd od dd ot S)(e:H md=some 0e0)(w:Wo):cX (TH H md (.dK 4e0)) md nd od dd ot {S with ar:=w}:=by
 obtain⟨kv,e',l,v1,v2,v3,v4,v5,v6⟩:=M.hm;rw[e] at e';cases e';obtain⟨b1,b2,b3⟩:=M.zZ e 4e0;exact {M with
  hm:=⟨_,aA,⟨by rw[mV v2];exact l.1,fun k hk=>by rw[AX (six6 hk).2.1 rfl];exact l.2 k hk⟩,g8 v1,AY,g8 v3,g8 v4,g8 v5,g8 v6⟩
  hn:=b1
  ho:=b2
  hd:=b3}
def cX.opn(M:cX H md nd od dd ot S)(e:H md=some 0e0)(UC:H o2=some (.lst []))(n:o2≠dd):cX (TH H md (.dK 2e0)) md nd o2 dd ot {S with pend:=[]}:=by
 obtain⟨kv,e',l,v1,v2,v3,v4,v5,v6⟩:=M.hm;rw[e] at e';cases e';obtain⟨b1,b2,b3⟩:=M.zZ e 2e0;exact {M with
  hm:=⟨_,aA,⟨by rw[mV v5];exact l.1,fun k hk=>by rw[AX (six6 hk).2.2.2.2.1 rfl];exact l.2 k hk⟩,g8 v1,g8 v2,g8 v3,g8 v4,AY,g8 v6⟩
  hn:=b1
  ho:=cZ e UC
  hd:=b3
  n2:=n
  asc:=List.Pairwise.nil
  lt:=fun i hi=>(by simp at hi)
  dis:=fun p hp=>⟨by simp,(M.dis p hp).2⟩}
end
end
mutual
example:=[Str.ofString "names",Str.ofString "open",Str.ofString "mode",Str.ofString "made",Str.ofString "code",Str.ofString "now",Str.ofString "arg",Str.ofString "at"]
structure Fa where
 md:Addr
 nd:Addr
 od:Addr
 dd:Addr
 ld:Addr
 cl:Addr
 cs:List Addr
 las:List Addr
 nk:Nat
 aw:Addr
variable{A:Fa}
def Fa.mut(A:Fa):List Addr:=[A.md,A.nd,A.od,A.dd,A.ld]++A.las
def eX(H:Hp)(A:Fa)(ot:Str->Option V):Slp->Prop
 | .new=>ot "mode"=some (.str "new")
 | .TK=>ot "mode"=some (.str "on")
 | .wait ts=>ot "mode"=some (.str "wait")/\ot "awaited"=some (.ref A.aw)/\H A.aw=some (.lst (ts.map V.int))/\A.aw∉A.mut
 | .TV _=>ot "mode"=some (.str "hear")
 | .ended w=>ot "mode"=some (.str "ended")/\ot "outcome"=some (wv w)
 | .worn=>ot "mode"=some (.str "worn")
structure bY(P:List Stm)(H:Hp)(A:Fa)(S:Pu)(p:Nat):Prop where
 ex:∃ ot:Str->Option V,cX H A.md A.nd A.od A.dd ot S/\A5 ((∀ k∈OK6,∃ v,ot k=some v)) (ot "code"=some (.ref A.cl)) (ot "at"=some (.int p)) (ot "letters"=some (.ref A.ld)) (eX H A ot S.sl)
 cl:H A.cl=some (.lst (A.cs.map V.ref))
 co:dI H A.cs (jF P)
 lt:∃ kvs ml,H A.ld=some (.dK kvs)/\gB H kvs A.las ml/\((ml.map (·.1)).Nodup/\ml.length<=A.nk)/\∀ k,(aT ml k).getD []=(aT S.lt k).getD []
 ps:Ps P S.stk p
 n1:A.md≠A.ld
 n2:A.nd≠A.ld
 nl:A.las.Nodup
 s1:A.od≠A.cl/\A.od∉A.cs/\A.dd≠A.cl/\A.dd∉A.cs
 s2:∀ a∈A.las,a≠A.od/\a≠A.dd/\a≠A.cl/\a∉A.cs
inductive Jr(vs:List V)(H:Hp)(Q:VK)(E:XK):Prop
 | mk (bp:Addr) (us:List V) (b:List Stm) (_:vs=[.ref bp]) (_:H bp=some (.tup us)) (_:bV H us b) (_:oE b < 9) (_:bZ b<=1000) (_:∀(A:Fa) (H':Hp),bY b H' A (dM b) 0->(∀ a∈A.mut,H a=none)->A.nk=0->(∃ o,H' A.aw=some o)->Kp [] H H'->Q (.ref A.md) H'):Jr vs H Q E
def rW{cl x:Addr}{cs:List Addr}(e:H cl=some o)(h:dI H cs c)(n:H x=none):x≠cl/\x∉cs:=by
 refine⟨fun z=>?_,fun z=>?_⟩
 ·rw[z,e] at n;cases n
 ·obtain⟨o,e⟩:=h.ex x z;rw[e] at n;cases n
theorem ps0(b:List Stm):Ps b (dM b).stk 0:=⟨0,[],0,b,0,[],rfl,.bot,by simp[bZ],by omega⟩
def eights{a b c d e f g h:V}:eZ [] [((.inr 4e0:Key),a),(.inr 7e0,b),(.inr 2e0,c),(.inr 0e0,d),(.inr 6e0,e),(.inr 5e0,f),(.inr 3e0,g),(.inr 1e0,h)]=[((.inr 4e0:Key),a),(.inr 7e0,b),(.inr 2e0,c),(.inr 0e0,d),(.inr 6e0,e),(.inr 5e0,f),(.inr 3e0,g),(.inr 1e0,h)]:=by
 simp[eZ,aS,cK]
end
section
mutual
example:=[(by simp),(fun j=>if j=k then some v else ot j),(by intro z;cases z),.ref A.ld,.ref A.cl,.inl rfl,.int p',(b=A.cl\/b∈A.cs\/b=A.ld\/b∈A.las),Str.ofString a]
variable{Y4:Hp}{A' A'':Fa}{S':Pu}{p':Nat}
def bY.far(F:bY P H A S p){b:Addr}(hb:b=A.cl\/b∈A.cs\/b=A.ld\/b∈A.las):b≠A.md/\b≠A.nd/\b≠A.od/\b≠A.dd:=by
 obtain⟨ot,M,_⟩:=F.ex;obtain⟨kvs,em,_⟩:=M.hm;obtain⟨ds,ed,_⟩:=M.hd;obtain⟨lk,ml,el,hl,_⟩:=F.lt;have lst:∀ {xs:List V},H b=some (.lst xs)->b≠A.md/\b≠A.nd:=fun e=>⟨dB e em 2e0,dB e M.hn 2e0⟩;rcases hb with rfl|hb|rfl|hb
 ·exact⟨(lst F.cl).1,(lst F.cl).2,F.s1.1.symm,F.s1.2.2.1.symm⟩
 ·obtain⟨xs,e⟩:=F.co.there b hb;exact⟨(lst e).1,(lst e).2,fun z=>F.s1.2.1 (z▸hb),fun z=>F.s1.2.2.2 (z▸hb)⟩
 ·exact⟨F.n1.symm,F.n2.symm,dB el M.ho 2e0,dB el ed 2e0⟩
 ·obtain⟨xs,e⟩:=hl.ex b hb;exact⟨(lst e).1,(lst e).2,(F.s2 b hb).1,(F.s2 b hb).2.1⟩
def bY.asm(F:bY P H A S p)(M':cX H' A.md A.nd o2 A.dd ot' S')(Xs:∀ k∈OK6,∃ v,ot' k=some v)(c1:ot' "code"=some 4e0)(c2:ot' "at"=some 6e0)(c3:ot' "letters"=some 3e0)(c4:eX H' {A with od:=o2} ot' S'.sl)(K:∀ b o,H b=some o->7e0->H' b=some o)(T:aC H H')(hl:S'.lt=S.lt)(hp:Ps P S'.stk p')(so:o2≠A.cl/\o2∉A.cs)(sl:∀ a∈A.las,a≠o2):bY P H' {A with od:=o2} S' p':=by
 obtain⟨lk,ml,el,h1,h0,h2⟩:=F.lt;exact⟨⟨ot',M',Xs,c1,c2,c3,c4⟩,K _ _ F.cl 5e0,F.co.keep (fun a ha o e=>K a o e (.inr (.inl ha))) T,⟨lk,ml,K _ _ el (.inr (.inr 5e0)),h1.keep (fun a ha o e=>K a o e (.inr (.inr (.inr ha)))),h0,fun k=>by rw[hl];exact h2 k⟩,hp,F.n1,F.n2,F.nl,⟨so.1,so.2,F.s1.2.2.1,F.s1.2.2.2⟩,fun a ha=>⟨sl a ha,(F.s2 a ha).2⟩⟩
def bY.pF(F:bY P H A S p)(M':cX H' A.md A.nd A.od A.dd ot' S')(Xs:∀ k∈OK6,∃ v,ot' k=some v)(c1:ot' "code"=some 4e0)(c2:ot' "at"=some 6e0)(c3:ot' "letters"=some 3e0)(c4:eX H' A ot' S'.sl)(K:∀ b o,H b=some o->7e0->H' b=some o)(T:aC H H')(hl:S'.lt=S.lt)(hp:Ps P S'.stk p'):bY P H' A S' p' :=
 F.asm M' Xs c1 c2 c3 c4 K T hl hp ⟨F.s1.1,F.s1.2.1⟩ fun a ha=>(F.s2 a ha).1
def bY.MR(F:bY P H A S p){las:List Addr}{nk:Nat}(M':cX H' A.md A.nd A.od A.dd ot' S')(Xs:∀ k∈OK6,∃ v,ot' k=some v)(c1:ot' "code"=some 4e0)(c2:ot' "at"=some 6e0)(c3:ot' "letters"=some 3e0)(c4:eX H' {A with las:=las,nk:=nk} ot' S'.sl)(K:∀ b o,H b=some o->(b=A.cl\/b∈A.cs)->H' b=some o)(T:aC H H')(hl:∃ kvs ml,H' A.ld=some (.dK kvs)/\gB H' kvs las ml/\((ml.map (·.1)).Nodup/\ml.length<=nk)/\∀ k,(aT ml k).getD []=(aT S'.lt k).getD [])(hp:Ps P S'.stk p')(nd:las.Nodup)(s2:∀ a∈las,a≠A.od/\a≠A.dd/\a≠A.cl/\a∉A.cs):bY P H' {A with las:=las,nk:=nk} S' p' :=
 ⟨⟨ot',M',Xs,c1,c2,c3,c4⟩,K _ _ F.cl 5e0,F.co.keep (fun a ha o e=>K a o e (.inr ha)) T,hl,hp,F.n1,F.n2,nd,F.s1,s2⟩
def eX.keep{s:Slp}(h:eX H A ot s)(k:∀ b o,H b=some o->b∉A.mut->H' b=some o):eX H' A ot s:=by
 cases s with
 | wait ts=>obtain⟨h1,h2,h3,h4⟩:=h;exact⟨h1,h2,k _ _ h3 h4,h4⟩
 | _=>exact h
def bY.kp(F:bY P H A S p)(k:Kp [] H H'):bY P H' A S p:=by
 obtain⟨ot,M,os,c1,c2,c3,c4⟩:=F.ex;exact F.pF (M.kp k) os c1 c2 c3 (c4.keep fun _ _ e _=>k.at e) (fun _ _ e _=>k.at e) (aC.nil k) rfl F.ps
def bY.Rq(F:bY P H A S p)(n:S.sl=.TK)(a:Addr):bY P H {A with aw:=a} S p:=by
 obtain⟨ot,M,os,c1,c2,c3,c4⟩:=F.ex;exact⟨⟨ot,M,os,c1,c2,c3,by rw[n] at c4 ⊢;exact c4⟩,F.cl,F.co,F.lt,F.ps,F.n1,F.n2,F.nl,F.s1,F.s2⟩
def g9(H:Hp)(A:Fa)(op:Addr)(cs:Cmds):Prop:=∃ us,H op=some (.lst us)/\gN H us cs/\op∉A.mut/\op≠A.cl/\op∉A.cs
def g9.kp(h:g9 H A op cs)(k:Kp [] H H'):g9 H' A op cs:=by
 obtain⟨us,e,c,r⟩:=h;exact⟨us,k.at e,c.kt (aC.nil k),r⟩
structure Fm(D:List Addr)(A A':Fa)(H H':Hp):Prop where
 kp:∀ b o,H b=some o->b∉A.mut->b∉D->H' b=some o
 st:∀ b o,H b=some o->∃ u,H' b=some u
 nw:∀ b∈A'.mut,b∈A.mut\/H b=none
 m1:A'.md=A.md/\A'.cl=A.cl/\A'.cs=A.cs
 nk:A'.nk=A.nk
 na:A'.aw=A.aw\/(H A'.aw=none/\∃ o,H' A'.aw=some o)
def Fm.refl:Fm D A A H H:=⟨fun _ _ e _ _=>e,fun _ o e=>⟨o,e⟩,fun _ h=>.inl h,⟨rfl,rfl,rfl⟩,rfl,.inl rfl⟩
def Fm.trans(x:Fm D A A' H H')(y:Fm D A' A'' H' Y4):Fm D A A'' H Y4:=by
 refine⟨fun b o e h1 h2=>y.kp b o (x.kp b o e h1 h2) (fun z=>?_) h2,fun b o e=>?_,fun b hb=>?_,⟨y.m1.1.trans x.m1.1,y.m1.2.1.trans x.m1.2.1,y.m1.2.2.trans x.m1.2.2⟩,y.nk.trans x.nk,?_⟩
 ·rcases x.nw b z with z|z
  ·exact h1 z
  ·rw[z] at e;cases e
 ·obtain⟨u,e'⟩:=x.st b o e;exact y.st b u e'
 ·rcases y.nw b hb with z|z
  ·exact x.nw b z
  ·refine .inr ?_;cases e:H b with
   | none=>rfl
   | some o =>
    obtain⟨u,e'⟩:=x.st b o e;rw[z] at e';cases e'
 ·rcases y.na with z|⟨z,zz⟩
  ·rw[z];rcases x.na with w|⟨w,o,e⟩
   ·exact .inl w
   ·exact .inr ⟨w,y.st _ o e⟩
  ·refine .inr ⟨?_,zz⟩;cases e:H A''.aw with
   | none=>rfl
   | some o =>
    obtain⟨u,e'⟩:=x.st _ o e;rw[z] at e';cases e'
def Fm.awN(x:Fm D A A H H')(h:H a=none)(e:H' a=some o):Fm D A {A with aw:=a} H H':=⟨x.kp,x.st,x.nw,x.m1,x.nk,.inr ⟨h,o,e⟩⟩
def Fm.of(k:Kp [] H H'):Fm D A A H H':=⟨fun _ _ e _ _=>k.at e,fun _ o e=>⟨o,k.at e⟩,fun _ h=>.inl h,⟨rfl,rfl,rfl⟩,rfl,.inl rfl⟩
def Fm.set{b:Addr}{o:HO}(h:b∈A.mut\/b∈D):Fm D A A H (TH H b o):=by
 refine⟨fun c u e h1 h2=>by rw[aD (fun z=>by subst z;exact h.elim h1 h2)];exact e,fun c u e=>?_,fun _ h=>.inl h,⟨rfl,rfl,rfl⟩,rfl,.inl rfl⟩;by_cases z:c=b
 ·subst z;exact⟨_,aA⟩
 ·exact⟨u,by rw[aD z];exact e⟩
def Fm.ofK{E:List Addr}(k:Kp E H H')(h:∀ b∈E,(b∈A.mut\/b∈D)/\∃ u,H' b=some u):Fm D A A H H':=by
 refine⟨fun b o e h1 h2=>k b o e (fun z=>(h b z).1.elim h1 h2),fun b o e=>?_,fun _ h=>.inl h,⟨rfl,rfl,rfl⟩,rfl,.inl rfl⟩;by_cases z:b∈E
 ·exact(h b z).2
 ·exact⟨o,k b o e z⟩
def Fm.od(F:Fm D A A H H')(h:H o2=none):Fm D A {A with od:=o2} H H':=by
 refine⟨F.kp,F.st,fun b hb=>?_,⟨rfl,rfl,rfl⟩,rfl,.inl rfl⟩;simp only[Fa.mut,Κ,Α,Δ,Ψ] at hb ⊢;rcases hb with(rfl|rfl|rfl|rfl|rfl)|hb
 ·exact .inl 0e0
 ·exact .inl 0e0
 ·exact .inr h
 ·exact .inl 0e0
 ·exact .inl 0e0
 ·exact .inl (.inr hb)
def bY.tup(F:bY P H A S p){b:Addr}(hb:b∈A.mut):∃ o,H b=some o/\∀ xs,o≠.tup xs:=by
 obtain⟨ot,M,_⟩:=F.ex;obtain⟨kvs,em,_⟩:=M.hm;obtain⟨ds,ed,_⟩:=M.hd;obtain⟨lk,ml,el,hl,_⟩:=F.lt;simp only[Fa.mut,Κ,Α,Δ,Ψ] at hb;rcases hb with(rfl|rfl|rfl|rfl|rfl)|hb
 ·exact⟨_,em,fun _ z=>by cases z⟩
 ·exact⟨_,M.hn,fun _ z=>by cases z⟩
 ·exact⟨_,M.ho,fun _ z=>by cases z⟩
 ·exact⟨_,ed,fun _ z=>by cases z⟩
 ·exact⟨_,el,fun _ z=>by cases z⟩
 ·obtain⟨xs,e⟩:=hl.ex b hb;exact⟨_,e,fun _ z=>by cases z⟩
def bY.tkp(F:bY P H A S p)(f:Fm [op] A A' H H')(e:H op=some (.lst us)):aC H H':=fun a xs h=>f.kp a _ h (fun z=>by
 obtain⟨o,e',n⟩:=F.tup z;rw[h] at e';cases e';exact n xs rfl) (by
 simp only[Α,Δ,Ψ];intro z;subst z;rw[h] at e;cases e)
def Q5(h:op∉A.mut)(n:op≠o2):op∉({A with od:=o2}:Fa).mut:=by
 simp only[Fa.mut,Κ,Α,Δ,Ψ,not_or] at h ⊢;exact⟨⟨h.1.1,h.1.2.1,n,h.1.2.2.2⟩,h.2⟩
def Mu(h:∀ j∈OK6,∃ u,ot j=some u):∀ j∈OK6,∃ u,1e0 j=some u:=fun j hj=>by
 by_cases e:j=k
 ·exact⟨v,by simp[e]⟩
 ·obtain⟨u,z⟩:=h j hj;exact⟨u,by simp[e,z]⟩
def cX.six{H0:Hp}{md nd od:Addr}(M:cX H md nd od dd ot S)(e:H md=some (.dK kvs))(hk:k∈OK6)(hy:ot k=some y)(os:∀ j∈OK6,∃ u,ot j=some u)(KM:Kp D H0 H)(TM:aC H0 H)(hd:md∈D)(v:V){P:Hp->Prop}(h:∀ G,cX G md nd od dd 1e0 S->(∀ j∈OK6,∃ u,1e0 j=some u)->Kp D H0 G->aC H0 G->(∀ {b:Addr} {o:HO},H b=some o->o≠.dK kvs->G b=some o)->aC H G->Kp [md] H G->P G):P (TH H md (.dK (aS kvs (.inr k) v))) :=
 h _ (M.ot6 e hk hy v) (Mu os) (KM.trans (Kp.set hd)) (TM.trans (aC.cQ e)) (fun e1 d=>cZ e e1 d) (aC.cQ e) (Kp.set 0e0)
def tY(l:List (Key×V))(k:Key)(v:V):(aS l k v).length<=l.length+1:=by
 unfold aS;split<;>simp
theorem eQ{a b:String}(h:a≠b:=by decide):(fun j=>if j=Str.ofString b then some v else ot j) 8e0=ot 8e0:=by
 simp only;rw[if_neg (sst h)]
def wK:1e0 k=some v:=by simp
end
end
mutual
example:=[(fun _ h=>nomatch h),(fun h=>nomatch h),Str×List Wo,Int×Wo,(by show S.sl.isN=true;rw[n];rfl),S.worth s,(by simp),.int (p':Int),.dK (aS kvs (.inr "at") 7e0),some i∈ws,s.wt ts hs,ans.take i,aC.cQ M.hn,.wait x ss]
def cX.as{md nd od:Addr}{S':Pu}(M:cX H md nd od dd ot S)(h:S'.ar=S.ar/\S'.nw=S.nw/\S'.nm=S.nm/\S'.made=S.made/\S'.pend=S.pend/\S'.ans=S.ans):cX H md nd od dd ot S':=by
 obtain⟨h1,h2,h3,h4,h5,h6⟩:=h;exact⟨by rw[h1,h2,h4];exact M.hm,by rw[h3];exact M.hn,by rw[h5];exact M.ho,by rw[h6];exact M.hd,M.n1,M.n2,by rw[h5];exact M.asc,by rw[h5,h4];exact M.lt,by rw[h6];exact M.uq,by rw[h6,h5,h4];exact M.dis⟩
variable{as:List Addr}
def bY.Ea(F:bY P H A S p)(s1:op∉A.mut)(s2:op≠A.cl)(s3:op∉A.cs){b:Addr}(hb:b=A.cl\/b∈A.cs\/b=A.ld\/b∈A.las):b≠A.md/\b≠A.nd/\b≠A.od/\b≠A.dd/\b≠op:=by
 obtain⟨a1,a2,a3,a4⟩:=F.far hb;refine⟨a1,a2,a3,a4,?_⟩;simp only[Fa.mut,Κ,Α,Δ,Ψ,not_or] at s1;rcases hb with rfl|hb|rfl|hb
 ·exact s2.symm
 ·exact fun z=>s3 (z▸hb)
 ·exact fun z=>s1.1.2.2.2.2 z.symm
 ·exact fun z=>s1.2 (z▸hb)
def bY.new(F:bY P H A S p){x:Addr}(h:H x=none):(x≠A.cl/\x∉A.cs)/\(∀ a∈A.las,a≠x)/\x∉A.mut:=by
 obtain⟨lk,ml,el,hl,_⟩:=F.lt;refine⟨rW F.cl F.co h,fun a ha=>?_,fun z=>?_⟩
 ·obtain⟨xs,e⟩:=hl.ex a ha;exact aF e h
 ·obtain⟨o,e,_⟩:=F.tup z;rw[h] at e;cases e
def bD:A.md∈A.mut/\A.nd∈A.mut/\A.od∈A.mut/\A.dd∈A.mut/\A.ld∈A.mut:=by simp[Fa.mut]
def MO(P:List Stm)(A:Fa)(op:Addr)(H:Hp)(Q:VK)(cs:Cmds)(z:Pu×Cmds):Prop:=∀(A':Fa) (p':Nat) (H':Hp),bY P H' A' z.1 p'->g9 H' A' op (cs++z.2)->Fm [op] A A' H H'->Q .TK H'
inductive Jo(vs:List V)(H:Hp)(Q:VK)(E:XK):Prop
 | mk (P:List Stm) (A:Fa) (S:Pu) (p:Nat) (w:Wo) (op:Addr) (cs:Cmds) (_:vs=[.ref A.md,wv w,.ref op]) (_:bY P H A S p) (_:g9 H A op cs) (_:cs.length<=1000) (_:MO P A op H Q cs (S.ends w)):Jo vs H Q E
inductive Dv(g:Stm->Prop)(vs:List V)(H:Hp)(Q:VK)(E:XK):Prop
 | mk (P:List Stm) (A:Fa) (S:Pu) (p:Nat) (v:V) (m:Stm) (_:vs=[.ref A.md,v]) (_:bY P H A S p) (_:S.sl=.TK) (_:cJ H v m) (_:g m) (_:m.gd true) (_:bL S.stk=some m) (_:S.pl.Ok) (_:S.nm.length<=100000) (_:S.pend.length<=100000) (_:S.ans.length<=100000) (_:∀(A':Fa) (p':Nat) (H':Hp),bY P H' A' (one S m).1 p'->Fm [] A A' H H'->Q .TK H'):Dv g vs H Q E
theorem Ah(i:Int):∀ ws:List Wo,pM (.int i) (ws.map wv)=decide 9e0
 | []=>by simp[pM]
 | none::r=>by
  have:=Ah i r;simp only[ϓ,Α,reduceCtorEq,false_or] at this ⊢;rw[<- this];simp[pM,wv,n8]
 | some j::r=>by
  have:=Ah i r;simp only[ϓ,Α,Ο] at this ⊢;rw[Ε6] at this ⊢;simp only[decide_eq_true_eq] at this ⊢;rw[<- this];simp only[pM,List.any_cons,Bool.or_eq_true];constructor
  ·rintro(h|h)
   ·exact .inl (by simp only[n8,wv,beq_iff_eq] at h;omega)
   ·exact .inr h
  ·rintro(h|h)
   ·exact .inl (by simp only[n8,wv,beq_iff_eq];omega)
   ·exact .inr h
def Bq(ws:List Wo):(ws.map wv).all eK=true:=by simp[t8]
def LM{K:q0B}{b:Addr}(ha:H a=some (.lst xs))(hb:H b=some (.lst [])):qP K H 1 a b xs.isEmpty:=by
 cases xs with
 | nil =>
  have:=qP.list (K:=K) (H:=H) (n:=0) (e:=fun _=>true) (fY.of ha) (fY.of hb) rfl (fun j x y e _=>by simp at e);simpa using this
 | cons x xs=>exact qP.U8 (fY.of ha) (fY.of hb) 6e0
theorem nR{pend:List Int}{j:Int}:∀ {ws:List Wo},j∈dS pend ws↔j∈pend/\some j∈ws
 | []=>by simp[dS]
 | none::r=>by simp only[dS,nR (ws:=r)];simp
 | some i::r=>by
  simp only[dS];split
  ·next h =>
   simp only[Α,nR (ws:=r),Ο];constructor
   ·rintro(rfl|h2)
    ·exact⟨h,.inl rfl⟩
    ·exact⟨h2.1,.inr h2.2⟩
   ·rintro⟨h1,rfl|h2⟩
    ·exact .inl rfl
    ·exact .inr ⟨h1,h2⟩
  ·next h =>
   simp only[Α,nR (ws:=r),Ο];constructor
   ·rintro⟨h1,h2⟩;exact⟨h1,.inr h2⟩
   ·rintro⟨h1,rfl|h2⟩
    ·exact absurd h1 h
    ·exact⟨h1,h2⟩
theorem BZ(h:pend.Pairwise (· < ·))(ws:List Wo):pend.filter (fun i=>decide 9e0)=bO pend ws:=by
 refine nA ((List.perm_ext_iff_of_nodup ?_ ((gS pend ws).imp fun h=>by omega)).mpr fun j=>?_) ((h.filter _).imp fun h=>by omega) (gS pend ws)
 ·exact(h.filter _).imp fun h=>by omega
 ·rw[lD,nR,Α5];simp
def dH(ans:List 3e0)(ws:List Wo):List Int:=(ans.filter fun p=>decide (some p.1∈ws)).map (·.1)
def mW(ans:List 3e0)(ws:List Wo):bA ans ws=(dH ans ws).head?:=by
 unfold bA dH
 induction ans with
 | nil=>rfl
 | cons x r ih =>
  by_cases h:some x.1∈ws
  ·simp[Δ5,h]
  ·simp only[Δ5,List.filter_cons,h,decide_false,Ϙ,Β4];exact ih
theorem Dq(e:ans[i]?=some (j,w)):(dH (ans.take (i+1)) ws).map V.int=if decide (some j∈ws)=true then (dH 1e1 ws).map V.int++[.int j] else (dH 1e1 ws).map V.int:=by
 unfold dH;rw[Α8,e,Α2,List.filter_append];by_cases h:some j∈ws<;>simp[h]
def Fk{l:List Int}{q:Int->Bool}(e:l[i]?=some j):((l.take (i+1)).filter q).map V.int=if q j=true then ((l.take i).filter q).map V.int++[.int j] else ((l.take i).filter q).map V.int:=by
 rw[Α8,e,Α2,List.filter_append];by_cases h:q j=true<;>simp[h]
def Jd(ans:List 3e0)(ws:List Wo):((dH ans ws).map V.int++[V.TK])[0]?=some (wv (bA ans ws)):=by
 rw[mW];cases dH ans ws<;>rfl
def Gv(ans:List 3e0)(ws:List Wo):(dH ans ws).length<=ans.length:=by
 rw[dH,Γ];exact Δ1 _ _
theorem lA:∀(l:List 2e0) (k:Str) (r:List Wo) (j:Str),aT (dO l k r) j=if j=k then (aT l k).map (fun _=>r) else aT l j
 | [],k,r,j=>by simp[aT,dO]
 | p::l,k,r,j=>by
  have ih:=lA l k r j;by_cases h:p.1=k
  ·by_cases hj:j=k
   ·subst hj;simp[dO,aT,h]
   ·have:¬ p.1=j:=fun z=>hj (z▸h);have hk:¬ k=j:=fun z=>hj z.symm;simp[dO,aT,h,hj,hk]
  ·simp only[dO,h,Β4,aT,ih];by_cases hj:j=k
   ·subst hj;simp[h]
   ·simp[hj]
theorem nW:∀(l:List 2e0) (k:Str) (r:List Wo),(dO l k r).map (·.1)=l.map (·.1)
 | [],_,_=>rfl
 | p::l,k,r=>by
  simp only[dO];split
  ·rfl
  ·simp[nW l k r]
def uX{l:List 2e0}{r':List Wo}(h:(aT l k).getD []=w::r')(r:List Wo)(j:Str):(aT (dO l k r) j).getD []=if j=k then r else (aT l j).getD []:=by
 rw[lA];by_cases hj:j=k
 ·rw[if_pos hj,if_pos hj];cases e:aT l k with
  | none=>rw[e] at h;simp at h
  | some v=>rfl
 ·rw[if_neg hj,if_neg hj]
def Slp.md:Slp->Str
 | .new=>"new" | .TK=>"on" | .wait _=>"wait" | .TV _=>"hear" | .ended _=>"ended" | .worn=>"worn"
def eX.md{s:Slp}(h:eX H A ot s):ot "mode"=some (.str s.md):=by
 cases s with
 | wait ts=>exact h.1
 | ended w=>exact h.1
 | _=>exact h
def Q2(s:Slp):(s.md=("on":Str))=(s.isN=true):=by
 cases s<;>simp[Slp.md,Slp.isN,cK]
def pI(h:bL S.bB.stk=none)(n:Nat):eB n S=S.bB.ends none:=by
 cases n<;>simp only[eB,h]
def yV(h:bL S.bB.stk=some m):eB 0 S=S.bB.oS:=by simp only[eB,h]
def yU(h:bL S.bB.stk=some m)(n:Nat):eB (n+1) S=if (one S.bB m).1.sl.isN=true then ((eB n (one S.bB m).1).1,(one S.bB m).2++(eB n (one S.bB m).1).2) else one S.bB m:=by simp only[eB,h]
def HY(h:bP st=bP S.stk)(n:Nat):eB n {S with stk:=st}=eB n S:=by
 have e:({S with stk:=st}:Pu).bB=S.bB:=by simp only[Pu.bB,h]
 cases n<;>simp only[eB,e]
def bY.stk(F:bY P H A S p)(h:Ps P st p):bY P H A {S with stk:=st} p:=by
 obtain⟨ot,M,os,c1,c2,c3,c4⟩:=F.ex;exact F.pF (M.as ⟨rfl,rfl,rfl,rfl,rfl,rfl⟩) os c1 c2 c3 c4 (fun _ _ e _=>e) (fun _ _ e=>e) rfl h
def bY.setAt(F:bY P H A S p)(e:H A.md=some (.dK kvs)){p':Nat}(h:Ps P st p'):bY P (TH H A.md 8e0) A {S with stk:=st} p':=by
 obtain⟨ot,M,os,c1,c2,c3,c4⟩:=F.ex;refine F.pF ((M.ot6 e (k:="at") (by simp[OK6]) c2 7e0).as ⟨rfl,rfl,rfl,rfl,rfl,rfl⟩) (Mu os) ((eQ).trans c1) wK ((eQ).trans c3) ?_ (fun b o z hb=>by rw[aD (F.far hb).1];exact z) (aC.cQ e) rfl h;have c5:=eX.keep (H':=TH H A.md 8e0) c4 (fun b o z hb=>by rw[aD (fun y=>hb (by rw[y];exact bD.1))];exact z);show eX _ _ _ S.sl;cases hs:S.sl with
 | wait ts=>rw[hs] at c5;obtain⟨a1,a2,a3,a4⟩:=c5;exact⟨(eQ).trans a1,(eQ).trans a2,a3,a4⟩
 | ended w=>rw[hs] at c5;exact⟨(eQ).trans c5.1,(eQ).trans c5.2⟩
 | _=>rw[hs] at c5;exact(eQ).trans c5
def g9.md(h:g9 H A op cs)(e:H A.md=some (.dK kvs))(WZ:List (Key×V)):g9 (TH H A.md (.dK WZ)) A op cs:=by
 obtain⟨us,eo,hC,s⟩:=h;exact⟨us,cZ e eo,hC.kt (aC.cQ e),s⟩
theorem LW(h:Sk st):st.length<=21:=by
 cases st with
 | nil=>simp
 | cons x r=>obtain⟨a,b,c⟩:=x;have:=h.1;simp only[Ζ];omega
inductive Mz(vs:List V)(H:Hp)(Q:VK)(E:XK):Prop
 | mk (P:List Stm) (A:Fa) (S:Pu) (p:Nat) (op:Addr) (N:Nat) (_:vs=[.ref A.md,.ref op]) (_:bY P H A S p) (_:g9 H A op []) (_:Uc true {S with sl:=.TK} N) (_:N<=90000) (_:MO P A op H Q [] (eB 300 {S with sl:=.TK})):Mz vs H Q E
def QX(m:Stm):pM (.str m.kw) [.str "if",.str "while"]=m.isB:=by
 cases m<;>simp[pM,n8,Stm.kw,Stm.isB,cK]
def QZ(m:Stm):(m.kw=("wait":Str))=(∃ x ss,m=.wait x ss):=by
 cases m<;>simp[Stm.kw,cK]
def QW(m:Stm):(m.kw=("hear":Str))=(∃ x k,m=.TV x k):=by
 cases m<;>simp[Stm.kw,cK]
def QV(m:Stm):(m.kw=("end":Str))=(∃ s,m=.fin s):=by
 cases m<;>simp[Stm.kw,cK]
def HW(h:m.BA=true)(g:m.gd true):m.gd false:=by
 cases m<;>first|exact g|cases h
def Fm.mono{E:List Addr}{A':Fa}(x:Fm D A A' H H')(h:∀ a∈D,a∈E:=by simp):Fm E A A' H H':=⟨fun b o e h1 h2=>x.kp b o e h1 fun z=>h2 (h b z),x.st,x.nw,x.m1,x.nk,x.na⟩
def Fm.to{A':Fa}(x:Fm D A A' H H')(n:Nat):Fm D {A with nk:=n} {A' with nk:=n} H H':=⟨x.kp,x.st,x.nw,x.m1,rfl,x.na⟩
def Fm.eta{A':Fa}(x:Fm D A A' H H'):Fm D A {A' with nk:=A.nk} H H':=⟨x.kp,x.st,x.nw,x.m1,rfl,x.na⟩
def g9.fm{A':Fa}(O:g9 H A op cs)(F:bY P H A S p)(W:Fm [] A A' H H'):g9 H' A' op cs:=by
 obtain⟨us,eo,hC,s1,s2,s3⟩:=O;have T:=F.tkp (W.mono (E:=[op]) 6e0) eo;refine⟨us,W.kp _ _ eo s1 6e0,hC.kt T,fun z=>?_,by rw[W.m1.2.1];exact s2,by rw[W.m1.2.2];exact s3⟩;rcases W.nw op z with z|z
 ·exact s1 z
 ·rw[z] at eo;cases eo
def Mr(h:(∃ x ss,m=.wait x ss)\/∃ x k,m=.TV x k):(one S m).2=[]:=by
 rcases h with⟨x,ss,rfl⟩|⟨x,k,rfl⟩
 ·rw[kD rfl];simp only[bT];split<;>rfl
 ·rw[kD rfl];simp only[bT];split<;>rfl
def Eo:one S (.fin s)=S.ends 5e0:=by
 rw[kD rfl];rfl
def IL(h:m.BA=true)(n:S.sl=.TK):one S m=((bT S m).1.pass,(bT S m).2):=by
 have hb:m.isB=false:=by cases m<;>first|rfl|cases h
 rw[kD hb,if_pos (by rw[(DW h).1,n];rfl)]
def tR:one S (.Uj s b)=(if num 5e0=0 then S.pass else S.enter 0 b,[]):=by rw[BY rfl];rfl
def tQ{o:List Stm}:one S (.iff s b o)=(if num 5e0=0 then S.enter 1 o else S.enter 0 b,[]):=by rw[BY rfl];rfl
def Rf(h1:¬ m.isB=true)(h2:¬ ∃ x ss,m=.wait x ss)(h3:¬ ∃ x k,m=.TV x k)(h4:¬ ∃ s,m=.fin s):m.BA=true:=by
 cases m<;>first|rfl|exact absurd rfl h1|exact absurd ⟨_,_,rfl⟩ h2|exact absurd ⟨_,_,rfl⟩ h3|exact absurd ⟨_,rfl⟩ h4
def bY.Rr(F:bY P H A S p)(x:Str)(w:Wo):bY P (TH H A.nd (.dK (fI (cB S.nm x w)))) A {S with nm:=cB S.nm x w} p:=by
 obtain⟨ot,M,os,c1,c2,c3,c4⟩:=F.ex;exact F.pF (M.name x w) os c1 c2 c3 (c4.keep fun b o z hb=>by rw[aD (fun y=>hb (by rw[y];exact bD.2.1))];exact z) (fun b o z hb=>by rw[aD (F.far hb).2.1];exact z) 2e1 rfl F.ps
def g9.nd(h:g9 H A op cs)(F:bY P H A S p)(WZ:List (Key×V)):g9 (TH H A.nd (.dK WZ)) A op cs:=by
 obtain⟨us,eo,hC,s⟩:=h;obtain⟨ot,M,_⟩:=F.ex;exact⟨us,cZ M.hn eo,hC.kt 2e1,s⟩
inductive Jl(vs:List V)(H:Hp)(Q:VK)(E:XK):Prop
 | mk (P:List Stm) (A:Fa) (S:Pu) (p:Nat) (w:Wo) (op:Addr) (N:Nat) (_:vs=[.ref A.md,wv w,.ref op]) (_:bY P H A S p) (_:g9 H A op []) (_:Uc true S N) (_:N<=80000) (_:dX w) (_:((∃ k,S.sl=.TV k)\/∃ ts,S.sl=.wait ts)) (_:MO P A op H Q [] (S.wake w)):Jl vs H Q E
def L7(F:Uc wt S N)(h:(∃ k,S.sl=.TV k)\/∃ ts,S.sl=.wait ts):∃ x m,bL S.stk=some m/\m.isB=false/\(∀(H:Hp) v,cJ H v m->∃ a kw xs,v=.ref a/\H a=some (.tup (.str kw::.str x::xs)))/\∀ w,S.wake w=eB 300 {S with nm:=cB S.nm x w,stk:=fQ S.stk,sl:=.TK}:=by
 rcases h with⟨k,hk⟩|⟨ts,hk⟩
 ·obtain⟨x,Ud⟩:=F.sl.1 k hk;exact⟨x,_,Ud,rfl,fun H v h=>by cases h with|TV e=>exact⟨_,_,_,rfl,e⟩,fun w=>by simp only[Pu.wake,Ud]⟩
 ·obtain⟨x,ss,Ud⟩:=F.sl.2 ts hk;exact⟨x,_,Ud,rfl,fun H v h=>by cases h with|wait e _ _=>exact⟨_,_,_,rfl,e⟩,fun w=>by simp only[Pu.wake,Ud]⟩
structure Std(S:Pu):Prop where
 nw:S.sl=.new->S.nw=0/\S.pend=[]
 en:∀ w,S.sl=.ended w->S.pend=[]
 wo:S.sl=.worn->S.pend=[]
 he:∀ k,S.sl=.TV k->(aT S.lt k).getD []=[]
 wt:∀ ts,S.sl=.wait ts->∃ x ss,bL S.stk=some 3e1/\ts.length<=ss.length
theorem Bz(i:Int):∀ l:List Int,(u9 i l).length<=l.length+1
 | []=>by simp[u9]
 | j::r=>by
  have:=Bz i r;simp only[u9];split
  ·simp
  ·split
   ·simp
   ·simp only[Ζ];omega
theorem oZ(pend:List Int):∀ ws:List Wo,(bO pend ws).length<=ws.length
 | []=>by simp[bO]
 | none::r=>by have:=oZ pend r;simp only[bO,Ζ];omega
 | some i::r=>by
  have:=oZ pend r;have:=Bz i (bO pend r);simp only[bO,Ζ];split<;>omega
def t7(b:List Stm):Std (dM b):=⟨fun _=>⟨rfl,rfl⟩,0e0,1e0,0e0,0e0⟩
def xK(S:Pu)(w:Wo):Std (S.ends w).1:=⟨1e0,fun _ _=>rfl,1e0,0e0,0e0⟩
def LV(st:bL S.stk=some m)(n:S.sl=.TK)(h:¬ (one S m).1.sl.isN=true):Std (one S m).1:=by
 by_cases hb:m.isB=true
 ·exfalso;apply h;rw[BY hb];cases m<;>first|(simp only[sH];split<;>(show S.sl.isN=true;rw[n];rfl))|cases hb
 ·rw[kD (by simpa using hb)] at h ⊢;by_cases hd:(bT S m).1.sl.isN=true
  ·exfalso;apply h;rw[if_pos hd];exact hd
  ·rw[if_neg hd];cases m with
   | TV x k =>
    simp only[bT] at hd ⊢;split
    ·next e=>rw[e] at hd;exact absurd 4e0 hd
    ·next e=>exact⟨1e0,0e0,1e0,fun k' hk=>by cases hk;exact e,0e0⟩
   | wait x ss =>
    simp only[bT] at hd ⊢;split
    ·exact⟨1e0,0e0,1e0,0e0,fun ts hts=>by
      cases hts;refine⟨x,ss,st,?_⟩;have:=oZ S.pend (ss.map S.worth);rw[Γ] at this;exact this⟩
    ·next e=>rw[if_neg e] at hd;exact absurd 4e0 hd
   | fin s=>exact xK S _
   | drop s =>
    exfalso;apply hd;simp only[bT];split
    ·split<;>(show S.sl.isN=true;rw[n];rfl)
    ·show S.sl.isN=true;rw[n];rfl
   | Uj _ _=>exact absurd rfl hb
   | iff _ _ _=>exact absurd rfl hb
   | _=>exact absurd 4e0 hd
theorem pL:∀(n:Nat) (S:Pu),S.sl=.TK->Std (eB n S).1
 | 0,S,h=>by
  cases e:bL S.bB.stk with
  | none=>rw[pI e];exact xK _ _
  | some m=>rw[yV e];exact⟨1e0,0e0,fun _=>rfl,0e0,0e0⟩
 | n+1,S,h=>by
  cases e:bL S.bB.stk with
  | none=>rw[pI e];exact xK _ _
  | some m =>
   rw[yU e];split
   ·next hn=>exact pL n _ (nP hn)
   ·next hn=>exact LV e h hn
def Cy(h:Std S)(w:Wo):Std (S.wake w).1:=by
 unfold Pu.wake;split
 ·exact pL _ _ rfl
 ·exact pL _ _ rfl
 ·exact h
def vG(l:List 2e0)(k:Str)(w:Wo)(j:Str):(aT (fM l k w) j).getD []=if j=k then (aT l k).getD []++[w] else (aT l j).getD []:=by
 unfold fM;cases e:aT l k with
 | some ws =>
  simp only;rw[lA];by_cases hj:j=k
  ·rw[if_pos hj,if_pos hj,e];rfl
  ·rw[if_neg hj,if_neg hj]
 | none =>
  simp only;have app:∀(l:List 2e0),aT (l++[(k,[w])]) j=match aT l j with|some v=>some v|none=>if k=j then some [w] else none:=fun l=>by
   induction l with
   | nil=>simp[aT]
   | cons x r ih =>
    simp only[Χ,aT];split
    ·rfl
    ·exact ih
  rw[app];by_cases hj:j=k
  ·subst hj;rw[e];simp
  ·rw[if_neg hj];cases aT l j with
   | some v=>rfl
   | none=>simp only;rw[if_neg (fun z:k=j=>hj z.symm)]
def Cw{ts:List Int}(h:S.sl=.wait ts)(w:∃ x ss,bL S.stk=some 3e1/\ts.length<=ss.length):Std S:=by
 refine⟨fun z=>?_,fun _ z=>?_,fun z=>?_,fun _ z=>?_,fun j z=>?_⟩
 ·rw[h] at z;cases z
 ·rw[h] at z;cases z
 ·rw[h] at z;cases z
 ·rw[h] at z;cases z
 ·rw[h] at z;cases z;exact w
def xM(h:S.sl=.TV k)(e:(aT S.lt k).getD []=[]):Std S:=by
 refine⟨fun z=>?_,fun _ z=>?_,fun z=>?_,fun j z=>?_,fun _ z=>?_⟩
 ·rw[h] at z;cases z
 ·rw[h] at z;cases z
 ·rw[h] at z;cases z
 ·rw[h] at z;cases z;exact e
 ·rw[h] at z;cases z
def Cv(s:Std S)(n:S.sl.isN=false)(h:Hap):Std (S.take h).1:=by
 unfold Pu.take;split
 ·exact s
 ·next ho =>
  cases h with
  | UE m w=>exact pL _ _ rfl
  | don m i w =>
   cases hs:S.sl with
   | wait ts =>
    have sd:Std ((S.at' m).done i w):=Cw (show((S.at' m).done i w).sl=.wait ts from hs) 0e1;simp only[Pu.fB,show(S.at' m).sl=S.sl from rfl,hs];split
    ·exact Cy sd _
    ·exact sd
   | TV k =>
    simp only[Pu.fB,show(S.at' m).sl=S.sl from rfl,hs];exact xM (show((S.at' m).done i w).sl=.TV k from hs) (s.he k hs)
   | TK=>rw[hs] at n;cases n
   | new=>simp[Pu.over,hs] at ho
   | ended w'=>simp[Pu.over,hs] at ho
   | worn=>simp[Pu.over,hs] at ho
  | ltr m k w =>
   cases hs:S.sl with
   | wait ts =>
    simp only[Pu.eW,show(S.at' m).sl=S.sl from rfl,hs];exact Cw rfl 0e1
   | TV k' =>
    simp only[Pu.eW,show(S.at' m).sl=S.sl from rfl,hs];split
    ·exact Cy (xM (show(S.at' m).sl=.TV k' from hs) (s.he k' hs)) _
    ·next hk =>
     refine xM rfl ?_;show(aT (fM S.lt k w) k').getD []=[];rw[vG,if_neg hk];exact s.he k' hs
   | TK=>rw[hs] at n;cases n
   | new=>simp[Pu.over,hs] at ho
   | ended w'=>simp[Pu.over,hs] at ho
   | worn=>simp[Pu.over,hs] at ho
end
section
mutual
example:=[(c4.keep fun b o z hb=>by rw[aD (fun y=>hb (by rw[y];exact bD.1))];exact z),(fun b o z hb=>by rw[aD (F.far hb).1];exact z),TH H A.dd (.lst (ds++[.ref t]))]
def bY.Jg(F:bY P H A S p)(e:H A.md=some (.dK kvs))(m:Int):bY P (TH H A.md (.dK (aS kvs (.inr "now") (.int m)))) A {S with nw:=m} p:=by
 obtain⟨ot,M,os,c1,c2,c3,c4⟩:=F.ex;exact F.pF (M.now e m) os c1 c2 c3 0e0 1e0 (aC.cQ e) rfl F.ps
def bY.Rp(F:bY P H A S p)(e:H A.md=some (.dK kvs))(w:Wo):bY P (TH H A.md (.dK (aS kvs (.inr "arg") (wv w)))) A {S with ar:=w} p:=by
 obtain⟨ot,M,os,c1,c2,c3,c4⟩:=F.ex;exact F.pF (M.arg e w) os c1 c2 c3 0e0 1e0 (aC.cQ e) rfl F.ps
def bY.Rt(F:bY P H A S p)(a:pd.Pairwise (· < ·))(b:∀ i∈pd,0<=i/\i < S.made)(c:∀ q∈S.ans,q.1∉pd):bY P (TH H A.od (.lst (pd.map V.int))) A {S with pend:=pd} p:=by
 obtain⟨ot,M,os,c1,c2,c3,c4⟩:=F.ex;exact F.pF (M.open a b c) os c1 c2 c3 (c4.keep fun b o z hb=>by rw[aD (fun y=>hb (by rw[y];exact bD.2.2.1))];exact z) (fun b o z hb=>by rw[aD (F.far hb).2.2.1];exact z) (aC.cQ M.ho) rfl F.ps
def bY.MP(F:bY P H A S p)(e:H A.dd=some (.lst ds)){t:Addr}{i:Int}(et:H t=some (.tup [.int i,wv w]))(n1:i∉S.ans.map (·.1))(n2:i∉S.pend)(n3:i < S.made):bY P 2e0 A {S with ans:=S.ans++[(i,w)]} p:=by
 obtain⟨ot,M,os,c1,c2,c3,c4⟩:=F.ex;obtain⟨kv,e',r⟩:=M.hm;obtain⟨ds',e2,r2⟩:=M.hd;rw[e] at e2;cases e2;have T:aC H 2e0:=aC.cQ e;refine F.pF (ot':=ot) ⟨⟨kv,cZ e e',r⟩,cZ e M.hn,by rw[aD M.n2];exact M.ho,⟨_,aA,(r2.snoc et).kt T⟩,M.n1,M.n2,M.asc,M.lt,?_,?_⟩ os c1 c2 c3 (c4.keep fun b o z hb=>by rw[aD (fun y=>hb (by rw[y];exact bD.2.2.2.1))];exact z) (fun b o z hb=>by rw[aD (F.far hb).2.2.2];exact z) T rfl F.ps
 ·show((S.ans++[(i,w)]).map (·.1)).Nodup;rw[Α3];exact ϙ.mpr ⟨M.uq,by simp,fun x hx y hy z=>n1 (by rw[show y=i by simpa using hy] at z;rw[<- z];exact hx)⟩
 ·intro q hq;rcases Κ.mp hq with hq|hq
  ·exact M.dis q hq
  ·rw[show q=(i,w) by simpa using hq];exact⟨n2,n3⟩
def g9.put{b:Addr}{u:HO}(h:g9 H A op cs)(e:H b=some o)(hb:b∈A.mut)(d:∀ xs,o≠.tup xs):g9 (TH H b u) A op cs:=by
 obtain⟨us,eo,hC,s⟩:=h;exact⟨us,by rw[aD (fun z=>s.1 (by rw[z];exact hb))];exact eo,hC.kt (aC.cQ e d),s⟩
end
end
mutual
example:=[(by omega),FC×Fr,(by simp),(by simp[z]),I++[x],(fun _ z=>by cases z),.lst us,f.b2.getD [],N+302,(TH H fl (.lst (I.map fun x=>.ref x.1.fa))),(by simp[y]),(I++[(x.1,x.2.add (fH y.2 i s))]),(0<=h.m/\h.m<=1000000000000),fH y.2 i s,x.2.b2.getD [],.ref l2,(by simp[hy]),I++[x]++[y],.inr k,List Stm,vs++[v],(TH H fl (.lst ((L++[((⟨fa,f1,none⟩:FC),(⟨h,[],none⟩:Fr))]).map fun x=>.ref x.1.fa))),(TH H x.1.fa (.lst [hv,.ref x.1.f1,.ref a])),((I++[x]).map fun x=>V.ref x.1.fa),.lst (us++[v]),TH H x.1.cur 4e2,aS kvs (.inr k) (.ref l2),.lst (ms.map V.int),(by simp[FC.cells]),.lst (ws.map wv),.inr (.inl rfl),F2.wake e hi _,F1.wake e hw _,Str×List Wo,.ref x.1.fa,(by cases e),Bool×Say]
def gB.keys(h:gB H kvs as lt):kvs.map (·.1)=lt.map fun p=>Key.inr p.1:=by
 induction h with
 | nil=>rfl
 | cons _ _ ih=>simp[ih]
def gB.Je{l2:Addr}(e2:H l2=some 9e2)(h:gB H kvs as lt):(lt.map (·.1)).Nodup->as.Nodup->l2∉as->(∃ v,aT lt k=some v)->∃ Um,gB H (kvs.map fun kv=>if kv.1=.inr k then (kv.1,.ref l2) else kv) Um (dO lt k ws)/\Um.Nodup/\(∀ a∈Um,a=l2\/a∈as)/\l2∈Um:=by
 induction h with
 | nil=>intro _ _ _ ⟨v,z⟩;simp[aT] at z
 | @cons a j vs kvs as lt e hr ih =>
  intro nk na n2 ⟨v,z⟩;rw[ϓ,ϗ] at nk;rw[ϗ] at na;by_cases hj:j=k
  ·subst hj;have same:(kvs.map fun kv=>if kv.1=.inr j then (kv.1,.ref l2) else kv)=kvs:=by
    conv=>rhs;rw[<- List.map_id kvs]
    refine List.map_congr_left fun kv hkv=>?_;have:kv.1∈kvs.map (·.1):=List.mem_map_of_mem hkv;rw[hr.keys] at this;obtain⟨q,hq,eq⟩:=Α9.mp this;have:¬ kv.1=.inr j:=fun y=>nk.1 (by
     rw[<- eq] at y;cases y;exact Α9.mpr ⟨q,hq,rfl⟩)
    simp[this]
   refine⟨l2::as,?_,ϗ.mpr ⟨fun y=>n2 0e1,na.2⟩,fun b hb=>?_,by simp⟩
   ·rw[ϓ,same,dO,if_pos rfl,if_pos rfl];exact .cons e2 hr
   ·rcases Α.mp hb with hb|hb
    ·exact .inl hb
    ·exact .inr (by simp[hb])
  ·obtain⟨Um,h1,h2,h3,h4⟩:=ih nk.2 na.2 (fun y=>n2 0e1) ⟨v,by simpa[aT,hj] using z⟩;refine⟨a::Um,?_,ϗ.mpr ⟨fun y=>?_,h2⟩,fun b hb=>?_,by simp[h4]⟩
   ·rw[ϓ,if_neg (fun y=>hj (Key.inr.inj y)),dO,if_neg hj];exact .cons e h1
   ·rcases h3 a y with y|y
    ·exact n2 0e1
    ·exact na.1 y
   ·rcases Α.mp hb with rfl|hb
    ·exact .inr 2e0
    ·rcases h3 b hb with y|y
     ·exact .inl y
     ·exact .inr 0e1
def gB.S3{l2:Addr}(e2:H l2=some 9e2)(h:gB H kvs as lt)(nk:(lt.map (·.1)).Nodup)(na:as.Nodup)(n2:l2∉as):∃ Um lt',gB H 6e2 Um lt'/\(lt'.map (·.1)).Nodup/\Um.Nodup/\(∀ a∈Um,a=l2\/a∈as)/\l2∈Um/\aY 6e2 8e1=some 5e1/\∀ j,(aT lt' j).getD []=if j=k then ws else (aT lt j).getD []:=by
 rcases h.look k with⟨z1,z2⟩|⟨a,vs,z1,z2,z3,z4⟩
 ·refine⟨as++[l2],lt++[(k,ws)],?_,?_,ϙ.mpr ⟨na,by simp,fun x hx y hy z=>n2 (by rw[show y=l2 by simpa using hy] at z;rw[<- z];exact hx)⟩,fun a ha=>(Κ.mp ha).elim .inr (fun y=>.inl (by simpa using y)),by simp,RL,fun j=>?_⟩
  ·have:aS kvs 8e1 5e1=kvs++[(.inr k,.ref l2)]:=by
    unfold aS;rw[iA,z1];simp
   rw[this];exact h.snoc e2
  ·rw[Α3];refine ϙ.mpr ⟨nk,by simp,fun x hx y hy z=>?_⟩;obtain⟨q,hq,e⟩:=Α9.mp hx;have:∀(l:List 3e3),q∈l->aT l k≠none:=fun l=>by
    induction l with
    | nil=>simp
    | cons u r ih =>
     intro hu;rcases Α.mp hu with rfl|hu
     ·simp[aT,e,z,show y=k by simpa using hy]
     ·simp only[aT];split
      ·simp
      ·exact ih hu
   exact this lt hq z2
  ·have app:∀(l:List 3e3),aT (l++[(k,ws)]) j=match aT l j with|some v=>some v|none=>if k=j then some ws else none:=fun l=>by
    induction l with
    | nil=>simp[aT]
    | cons x r ih =>
     simp only[Χ,aT];split
     ·rfl
     ·exact ih
   rw[app];by_cases hj:j=k
   ·subst hj;rw[z2];simp
   ·rw[if_neg hj];cases aT lt j with
    | some v=>rfl
    | none=>simp only;rw[if_neg (fun z:k=j=>hj z.symm)]
 ·obtain⟨Um,h1,h2,h3,h4⟩:=h.Je e2 nk na n2 ⟨vs,z2⟩;refine⟨Um,dO lt k ws,?_,by rw[nW];exact nk,h2,h3,h4,RL,fun j=>?_⟩
  ·have:aS kvs 8e1 5e1=kvs.map fun kv=>if kv.1=.inr k then (kv.1,.ref l2) else kv:=by
    unfold aS;rw[iA,z1];simp
   rw[this];exact h1
  ·rw[lA];by_cases hj:j=k
   ·rw[if_pos hj,if_pos hj,z2];rfl
   ·rw[if_neg hj,if_neg hj]
def LC{k:Key}{x:V}:(aS kvs k x).length<=kvs.length+1:=by
 unfold aS;split<;>simp
def cX.QT{md nd od:Addr}(M:cX H md nd od dd ot S)(k:∀ a o,H a=some o->a=md\/a=nd\/a=od\/a=dd->H' a=some o)(T:aC H H'):cX H' md nd od dd ot S:=by
 obtain⟨kvs,e,r⟩:=M.hm;obtain⟨ds,e2,r2⟩:=M.hd;exact {M with hm:=⟨kvs,k _ _ e (.inl rfl),r⟩,hn:=k _ _ M.hn 0e3,ho:=k _ _ M.ho (.inr 0e3),hd:=⟨ds,k _ _ e2 (.inr (.inr (.inr rfl))),r2.kt T⟩}
def eX.las{s:Slp}(h:eX H A ot s){las:List Addr}(hl:∀ a∈las,a∈A.las\/H a=none)(k:∀ b o,H b=some o->b∉A.mut->H' b=some o):eX H' {A with las:=las,nk:=n} ot s:=by
 cases s with
 | wait ts =>
  obtain⟨h1,h2,h3,h4⟩:=h;refine⟨h1,h2,k _ _ h3 h4,fun z=>?_⟩;simp only[Fa.mut,Κ,Α,Δ,Ψ,not_or] at h4 z;rcases z with z|z
  ·rcases z with z|z|z|z|z
   ·exact h4.1.1 z
   ·exact h4.1.2.1 z
   ·exact h4.1.2.2.1 z
   ·exact h4.1.2.2.2.1 z
   ·exact h4.1.2.2.2.2 z
  ·rcases hl A.aw z with z|z
   ·exact h4.2 z
   ·rw[z] at h3;cases h3
 | _=>exact h
def Ej{las:List Addr}{b:Addr}(h:b∈({A with las:=las,nk:=n}:Fa).mut):b∈A.mut\/b∈las:=by
 simp only[Fa.mut,Κ,Α,Δ,Ψ] at h ⊢;rcases h with h|h
 ·exact .inl (.inl h)
 ·exact .inr h
inductive Co(vs:List V)(H:Hp)(Q:VK)(E:XK):Prop
 | mk (P:List Stm) (A:Fa) (S:Pu) (p:Nat) (v:V) (h:Hap) (N:Nat) (_:vs=[.ref A.md,v]) (_:bY P H A S p) (_:lQ H v h) (_:(2e1/\dX h.w)) (_:Uc true S N) (_:N<=70000) (_:S.sl.isN=false) (_:Std S) (_:A.nk<=1000) (_:∀(A':Fa) (p':Nat) (op:Addr) (us:List V) (H':Hp),bY P H' A' (S.take h).1 p'->H op=none->H' op=some 6e0->gN H' us (S.take h).2->op∉A'.mut->Fm [] A {A' with nk:=A.nk} H H'->A'.nk<=A.nk+1->Q (.ref op) H'):Co vs H Q E
def Slp.wh:Slp->Bool
 | .wait _=>true
 | .TV _=>true
 | _=>false
def Q3(s:Slp):pM (.str s.md) [.str "wait",.str "hear"]=s.wh:=by
 rw[Ε6];cases s<;>simp[pM,n8,Slp.md,Slp.wh,cK]
def Sd{s:Slp}(h:s.wh=true):(∃ k,s=.TV k)\/∃ ts,s=.wait ts:=by
 cases s<;>first|exact .inl ⟨_,rfl⟩|exact .inr ⟨_,rfl⟩|cases h
def C9(s:Slp):(s.md=("new":Str))=(s=.new):=by
 cases s<;>simp[Slp.md,cK]
def El(s:Slp):(s.md=("hear":Str))=(∃ k,s=.TV k):=by
 cases s<;>simp[Slp.md,cK]
inductive Jq(vs:List V)(H:Hp)(Q:VK)(E:XK):Prop
 | mk (P:List Stm) (A:Fa) (S:Pu) (p r n N:Nat) (_:vs=[.ref r,.ref A.md]) (_:bY P H A S p) (_:Uc true S N) (_:N<=90000) (_:cH H r n) (_:n<=200) (_:r∉A.mut) (_:r≠A.cl) (_:r∉A.cs) (_:∀(v:V) (h:Hap) (n':Nat) (H':Hp),lQ H' v h->(2e1/\dX h.w)->cH H' r n'->n'<=n+20->Kp [r] H H'->Q v H'):Jq vs H Q E
def Uc.slp(F:Uc wt S N)(x:Slp)(h1:∀ k,x≠.TV k)(h2:∀ ts,x≠.wait ts):Uc wt {S with sl:=x,pend:=[]} N :=
 ⟨F.nm,F.md,Α4 _,F.an,F.lt,F.lw,F.pl,F.nw,F.sk,fun k e=>absurd e (h1 k),fun ts e=>absurd e (h2 ts)⟩
theorem kI{wt:Bool}:∀(n:Nat) {S:Pu} {N:Nat},Uc wt S N->S.sl=.TK->N+n<=900000->Uc wt (eB n S).1 (N+n)
 | 0,S,N,F,h,_=>by
  cases e:bL S.bB.stk with
  | none=>rw[eL e];exact(F.bB h).slp _ 5e0 5e0
  | some m=>rw[jD e];exact(F.bB h).slp _ 5e0 5e0
 | n+1,S,N,F,h,hN=>by
  cases e:bL S.bB.stk with
  | none=>rw[eL e];exact((F.bB h).slp _ 5e0 5e0).more 0e0
  | some m =>
   have F1:=(F.bB h).one e h 0e0;cases z:(one S.bB m).1.sl.isN with
   | true =>
    rw[nO e z];exact(kI n F1 (nP z) 0e0).more 0e0
   | false=>rw[jC e z];exact F1.more 0e0
theorem Uc.L3(F:Uc wt S N){m i:Int}(hm:0<=m/\m<=1000000000000)(hw:dX w)(hi:dX (some i))(hN:N<=800000):Uc wt (S.take (.don m i w)).1 8e0:=by
 have F1:=F.at' hm;have F2:=F1.done (i:=i) hw;unfold Pu.take;split
 ·exact F.more 0e0
 show Uc wt ((S.at' m).fB i w).1 8e0;unfold Pu.fB;split
 ·split
  ·unfold Pu.wake;split
   ·next e=>exact(kI 300 1e3 rfl 0e0).more 0e0
   ·next e=>exact(kI 300 1e3 rfl 0e0).more 0e0
   ·exact F2.more 0e0
  ·exact F2.more 0e0
 ·exact F2.more 0e0
theorem Uc.E1(F:Uc wt S N)(h:Hap)(hm:0<=h.m/\h.m<=1000000000000)(hw:dX h.w)(hi:∀ i∈S.pend,dX (some i))(hN:N<=800000):Uc wt (S.take h).1 8e0:=by
 cases h with
 | UE m w =>
  unfold Pu.take;split
  ·exact F.more 0e0
  have F1:=F.at' hm;have F2:Uc wt {S with nw:=later S.nw m,ar:=w,sl:=.TK} N:=⟨F1.nm,F1.md,F1.pd,F1.an,F1.lt,F1.lw,⟨F1.pl.nm,hw,F1.pl.an⟩,F1.nw,F1.sk,fun k e=>5e3,fun k e=>5e3⟩;exact(kI 300 F2 rfl 0e0).more 0e0
 | don m i w =>
  by_cases hp:i∈S.pend
  ·exact F.L3 hm hw (hi i hp) hN
  ·have F1:=F.at' hm;unfold Pu.take;split
   ·exact F.more 0e0
   ·next ho =>
    have F2:=F1.done (i:=i) hw;show Uc wt ((S.at' m).fB i w).1 8e0;exfalso;refine ho ?_;unfold Pu.over;cases S.sl<;>simp[hp]
 | ltr m k w =>
  have F1:=F.at' hm;unfold Pu.take;split
  ·exact F.more 0e0
  show Uc wt ((S.at' m).eW k w).1 8e0;unfold Pu.eW;split
  ·split
   ·unfold Pu.wake;split
    ·next e=>exact(kI 300 2e3 rfl 0e0).more 0e0
    ·next e=>exact(kI 300 2e3 rfl 0e0).more 0e0
    ·exact F1.more 0e0
   ·exact(F1.fM hw).more 0e0
  ·exact(F1.fM hw).more 0e0
inductive fL(H:Hp):List V->List Hap->Prop
 | nil:fL H [] []
 | cons {v:V} {vs:List V} {h:Hap} {hs:List Hap}:lQ H v h->fL H vs hs->fL H (v::vs) (h::hs)
def u0{h:Hap}(x:lQ H v h)(k:aC H H'):lQ H' v h:=by
 obtain⟨a,e,f⟩:=x;exact⟨a,e,k _ _ f⟩
def fL.kt(h:fL H vs hs)(k:aC H H'):fL H' vs hs:=by
 induction h with
 | nil=>exact .nil
 | cons a _ ih=>exact .cons (u0 a k) ih
def fL.len(h:fL H vs hs):vs.length=hs.length:=by
 induction h with
 | nil=>rfl
 | cons _ _ ih=>simp[ih]
theorem pJ:∀(n:Nat) (S:Pu),(eB n S).1.sl.isN=false
 | 0,S=>by
  cases e:bL S.bB.stk with
  | none=>rw[eL e];rfl
  | some m=>rw[jD e];rfl
 | n+1,S=>by
  cases e:bL S.bB.stk with
  | none=>rw[eL e];rfl
  | some m =>
   cases z:(one S.bB m).1.sl.isN with
   | true=>rw[nO e z];exact pJ n _
   | false=>rw[jC e z];exact z
def CG(h:S.sl.isN=false)(w:Wo):(S.wake w).1.sl.isN=false:=by
 unfold Pu.wake;split
 ·exact pJ _ _
 ·exact pJ _ _
 ·exact h
def CC(h:S.sl.isN=false)(x:Hap):(S.take x).1.sl.isN=false:=by
 unfold Pu.take;split
 ·exact h
 cases x with
 | UE m w=>exact pJ _ _
 | don m i w =>
  show((S.at' m).fB i w).1.sl.isN=false;unfold Pu.fB;split
  ·split
   ·exact CG (show((S.at' m).done i w).sl.isN=false from h) _
   ·exact h
  ·exact h
 | ltr m k w =>
  show((S.at' m).eW k w).1.sl.isN=false;unfold Pu.eW;split
  ·split
   ·exact CG (show(S.at' m).sl.isN=false from h) _
   ·exact h
  ·exact h
def takes:Pu->List Hap->Pu×List Cmds
 | S,[]=>(S,[])
 | S,h::r=>((takes (S.take h).1 r).1,(S.take h).2::(takes (S.take h).1 r).2)
theorem lP(h:Hap):∀(l:List Hap) (S:Pu),takes S (l++[h])=(((takes S l).1.take h).1,(takes S l).2++[((takes S l).1.take h).2])
 | [],S=>by simp[takes]
 | x::l,S=>by
  have:=lP h l (S.take x).1;simp only[Χ,takes,this]
def fL.fU(h:fL H vs hs):∀ {i:Nat} {v:V},vs[i]?=some v->∃ x,hs[i]?=some x/\lQ H v x:=by
 induction h with
 | nil=>intro i v e;simp at e
 | cons a _ ih =>
  intro i v e;cases i with
  | zero=>simp only[Ξ,Ο] at e;subst e;exact⟨_,rfl,a⟩
  | succ i=>exact ih (by simpa using e)
def fL.snoc{h:Hap}(x:fL H vs hs)(a:lQ H v h):fL H 0e2 (hs++[h]):=by
 induction x with
 | nil=>exact .cons a .nil
 | cons b _ ih=>exact .cons b ih
def bY.oth(F:bY P H A S p)(e:H op=some 6e0)(s1:op∉A.mut)(s2:op≠A.cl)(s3:op∉A.cs)(hw:∀ ts:List Int,S.sl=.wait ts->us≠ts.map V.int):bY P (TH H op (.lst vs)) A S p:=by
 obtain⟨ot,M,os,c1,c2,c3,c4⟩:=F.ex;refine F.pF (M.other e (fun z=>s1 (by rw[z];exact bD.2.2.1)) (fun z=>s1 (by rw[z];exact bD.2.2.2.1))) os c1 c2 c3 ?_ (fun b o z hb=>by rw[aD (F.Ea s1 s2 s3 hb).2.2.2.2];exact z) (aC.cQ e) rfl F.ps;cases hs:S.sl with
 | wait ts =>
  rw[hs] at c4;obtain⟨h1,h2,h3,h4⟩:=c4;refine⟨h1,h2,?_,h4⟩;rw[aD (fun z=>by
   rw[z,e] at h3;cases h3;exact hw ts hs rfl)]
  exact h3
 | _=>rw[hs] at c4;exact c4
def IA{hv:List V}(h:fL H hv hs)(n:hs≠[])(ts:List Int):hv≠ts.map V.int:=by
 cases h with
 | nil=>exact absurd rfl n
 | cons a _ =>
  obtain⟨x,rfl,_⟩:=a;cases ts<;>simp
def hap1(h:Hap):h.vs[1]?=some (.int h.m):=by cases h<;>rfl
inductive Jw(vs:List V)(H:Hp)(Q:VK)(E:XK):Prop
 | mk (bp cc:Addr) (us:List V) (b:List Stm) (ms:List Int) (_:vs=[.ref bp,.ref cc]) (_:H bp=some (.tup us)) (_:bV H us b) (_:Af true b) (_:oE b < 9) (_:bZ b<=1000) (_:H cc=some 7e2) (_:ms.length<=63) (_:∀(rl:Addr) (hv:List V) (hs:List Hap) (H':Hp),H' rl=some (.lst hv)->fL H' hv hs->(∀ h∈hs,2e1/\dX h.w)->hs.length<=ms.length->Kp [] H H'->Q (.ref rl) H'):Jw vs H Q E
def gQ.EF(h:gQ H vs ss)(a:dJ H v s):gQ H 0e2 (ss++[s]):=by
 induction ss generalizing vs with
 | nil=>cases h;exact .cons a .nil
 | cons x r ih=>cases h with|cons b c=>exact .cons b (ih c)
inductive Jx(vs:List V)(H:Hp)(Q:VK)(E:XK):Prop
 | mk (r:Addr) (n:Nat) (_:vs=[.ref r]) (_:cH H r n) (_:n<=20) (_:∀(v:V) (m:Stm) (H':Hp),cJ H' v m->m.gd true->m.isB=false->Kp [r] H H'->Q v H'):Jx vs H Q E
def KW(h:m.BA=true)(g:m.gd false):m.gd true:=by
 cases m<;>first|exact g|cases h
def Q9(h:m.BA=true):m.isB=false:=by cases m<;>first|rfl|cases h
structure Fr where
 hd:Option 6e3
 b1:List Stm
 b2:Option 9e1
variable{f:Fr}
structure FC where
 fa:Addr
 f1:Addr
 f2:Option Addr
variable{x:FC×Fr}{I:List 1e0}
def FC.cells(c:FC):List Addr:=c.fa::c.f1::c.f2.toList
def FC.cur(c:FC):Addr:=c.f2.getD c.f1
def rv:Option Addr->V
 | none=>.TK
 | some a=>.ref a
def GQ(H:Hp)(v:V):Option 6e3->Prop
 | none=>v=.TK
 | some (i,s)=>∃ a sv,v=.ref a/\H a=some (.tup [.str (if i=true then "if" else "while"),sv])/\dJ H sv s
def B2At(H:Hp):Option Addr->Option 9e1->Prop
 | none,none=>True
 | some a,some b=>∃ us,H a=some 6e0/\bV H us b
 | _,_=>False
def qQ(H:Hp)(c:FC)(f:Fr):Prop:=∃ hv Vu,H c.fa=some (.lst [hv,.ref c.f1,rv c.f2])/\GQ H hv f.hd/\H c.f1=some (.lst Vu)/\bV H Vu f.b1/\B2At H c.f2 f.b2
def GQ.kt(x:GQ H v h)(t:aC H H'):GQ H' v h:=by
 cases h with
 | none=>exact x
 | some p=>obtain⟨i,s⟩:=p;obtain⟨a,sv,e,e1,e2⟩:=x;exact⟨a,sv,e,t _ _ e1,e2.kp t⟩
def B2At.keep{o:Option Addr}{b:Option 9e1}(x:B2At H o b)(k:∀ a∈o.toList,∀ u,H a=some u->H' a=some u)(t:aC H H'):B2At H' o b:=by
 cases o with
 | none=>cases b<;>exact x
 | some a =>
  cases b with
  | none=>exact x
  | some b=>obtain⟨us,e,h⟩:=x;exact⟨us,k a 2e0 _ e,h.kp t⟩
def qQ.keep{c:FC}(h:qQ H c f)(k:∀ a∈c.cells,∀ o,H a=some o->H' a=some o)(t:aC H H'):qQ H' c f:=by
 obtain⟨hv,Vu,e1,e2,e3,e4,e5⟩:=h;exact⟨hv,Vu,k _ 8e2 _ e1,e2.kt t,k _ 8e2 _ e3,e4.kp t,e5.keep (fun a ha=>k a (by simp[FC.cells] at ha ⊢;exact .inr (.inr ha))) t⟩
def Fr.add(f:Fr)(m:Stm):Fr:=match f.b2 with
 | none=>{f with b1:=f.b1++[m]}
 | some b=>{f with b2:=some (b++[m])}
def bV.EF{ss:List Stm}{s:Stm}(h:bV H vs ss)(a:cJ H v s):bV H 0e2 (ss++[s]):=by
 induction ss generalizing vs with
 | nil=>cases h;exact .cons a .nil
 | cons x r ih=>cases h with|cons b c=>exact .cons b (ih c)
def qQ.add{c:FC}(h:qQ H c f)(nd:c.cells.Nodup)(hm:cJ H v m):∃ us b,H c.cur=some 6e0/\bV H us b/\(b=f.b1\/f.b2=some b)/\qQ (TH H c.cur 4e2) c (f.add m):=by
 obtain⟨hv,Vu,e1,e2,e3,e4,e5⟩:=h;obtain⟨fa,f1,f2⟩:=c;obtain⟨hd,b1,b2⟩:=f;cases f2 with
 | none =>
  cases b2 with
  | some b=>exact e5.elim
  | none =>
   have n1:fa≠f1:=by simp[FC.cells] at nd;exact nd
   have t:aC H (TH H f1 (.lst (Vu++[v]))):=aC.cQ e3;exact⟨Vu,b1,e3,e4,.inl rfl,hv,Vu++[v],(by show TH H f1 _ fa=_;rw[aD n1];exact e1),e2.kt t,aA,(e4.kp t).EF (hm.kp t),trivial⟩
 | some a =>
  cases b2 with
  | none=>exact e5.elim
  | some b =>
   obtain⟨Vv,e6,e7⟩:=e5;have n1:fa≠a/\f1≠a:=by simp[FC.cells] at nd;exact⟨nd.1.2,nd.2⟩
   have t:aC H (TH H a (.lst (Vv++[v]))):=aC.cQ e6;exact⟨Vv,b,e6,e7,.inr rfl,hv,Vu,(by show TH H a _ fa=_;rw[aD n1.1];exact e1),e2.kt t,(by show TH H a _ f1=_;rw[aD n1.2];exact e3),e4.kp t,Vv++[v],aA,(e7.kp t).EF (hm.kp t)⟩
def dZ(L:List 1e0):List Addr:=L.flatMap fun x=>x.1.cells
structure iK(H:Hp)(fl:Addr)(L:List 1e0):Prop where
 e:H fl=some (.lst (L.map fun x=>.ref x.1.fa))
 fr:∀ x∈L,qQ H x.1 x.2
 nd:(fl::dZ L).Nodup
def bK(L M:List 1e0):dZ (L++M)=dZ L++dZ M:=by simp[dZ]
def bX(x:FC×Fr):dZ [x]=x.1.cells:=by simp[dZ]
def mD{L:List 1e0}(h:x∈L)(ha:a∈x.1.cells):a∈dZ L:=List.mem_flatMap.mpr ⟨x,h,ha⟩
def iK.keep{L:List 1e0}(F:iK H fl L)(k:∀ a∈fl::dZ L,∀ o,H a=some o->H' a=some o)(t:aC H H'):iK H' fl L :=
 ⟨k _ 2e0 _ F.e,fun x hx=>(F.fr x hx).keep (fun a ha=>k a (ϑ _ (mD hx ha))) t,F.nd⟩
def iK.kp{L:List 1e0}(F:iK H fl L)(k:Kp [] H H'):iK H' fl L:=F.keep (fun _ _ _ e=>k.at e) (aC.nil k)
def qQ.lst{c:FC}(h:qQ H c f):∀ a∈c.cells,∃ xs,H a=some (.lst xs):=by
 obtain⟨hv,Vu,e1,e2,e3,e4,e5⟩:=h;intro a ha;simp only[FC.cells,Α] at ha;rcases ha with rfl|rfl|ha
 ·exact⟨_,e1⟩
 ·exact⟨_,e3⟩
 ·cases h2:c.f2 with
  | none=>rw[h2] at ha;simp at ha
  | some b =>
   rw[h2] at ha e5;cases hb:f.b2 with
   | none=>rw[hb] at e5;exact e5.elim
   | some b'=>rw[hb] at e5;obtain⟨us,e,_⟩:=e5;rw[show a=b by simpa using ha];exact⟨_,e⟩
def iK.free{p:Addr}{L:List 1e0}(F:iK H fl L)(h:H p=none):p∉fl::dZ L:=fun z=>by
 rcases Α.mp z with rfl|z
 ·rw[F.e] at h;cases h
 ·obtain⟨x,hx,hp⟩:=List.mem_flatMap.mp z;obtain⟨xs,e⟩:=(F.fr x hx).lst p hp;rw[h] at e;cases e
def iK.app(F:iK H fl 4e0)(hm:cJ H v m):∃ us b,H x.1.cur=some 6e0/\bV H us b/\(b=x.2.b1\/x.2.b2=some b)/\x.1.cur∈x.1.cells/\iK 5e2 fl (I++[(x.1,x.2.add m)]):=by
 have nd:=F.nd;rw[bK,bX,ϗ,ϙ] at nd;obtain⟨us,b,e1,e2,e3,e4⟩:=(F.fr x 2e0).add nd.2.2.1 hm;have hc:x.1.cur∈x.1.cells:=by
  cases h:x.1.f2<;>simp[FC.cur,FC.cells,h]
 have t:aC H 5e2:=aC.cQ e1;refine⟨us,b,e1,e2,e3,hc,⟨?_,fun y hy=>?_,?_⟩⟩
 ·rw[aD (fun z=>nd.1 (by rw[z];simp[hc]))];rw[F.e];simp
 ·rcases Κ.mp hy with hy|hy
  ·refine(F.fr y 6e1).keep (fun a ha o e=>?_) t;rw[aD (fun z=>nd.2.2.2 a (mD hy ha) _ hc z)];exact e
  ·rw[show y=(x.1,x.2.add m) by simpa using hy];exact e4
 ·rw[bK,bX];exact ϗ.mpr ⟨nd.1,ϙ.mpr nd.2⟩
def iK.pop(F:iK H fl 4e0):iK 9e0 fl I/\qQ 9e0 x.1 x.2:=by
 have nd:=F.nd;rw[bK,bX,ϗ,ϙ] at nd;have t:aC H 9e0:=aC.cQ F.e;have k:∀ y∈I++[x],qQ 9e0 y.1 y.2:=fun y hy=>(F.fr y hy).keep (fun a ha o e=>by
  rw[aD (fun z=>nd.1 (by
   rw[<- z];have:=mD hy ha;rw[bK,bX] at this;exact this))]
  exact e) t
 exact⟨⟨aA,fun y hy=>k y 6e1,ϗ.mpr ⟨fun z=>nd.1 3e0,nd.2.1⟩⟩,k x 2e0⟩
def iK.push{fa f1:Addr}{L:List 1e0}{hv:V}(F:iK H fl L)(e1:H fa=some (.lst [hv,.ref f1,.TK]))(e2:H f1=some (.lst []))(hh:GQ H hv h)(n1:fa∉fl::dZ L)(n2:f1∉fl::dZ L)(n3:fa≠f1):iK 1e2 fl (L++[((⟨fa,f1,none⟩:FC),(⟨h,[],none⟩:Fr))]):=by
 have nd:=F.nd;rw[ϗ] at nd;rw[Α,not_or] at n1 n2;have t:aC H 1e2:=aC.cQ F.e;refine⟨aA,fun y hy=>?_,?_⟩
 ·rcases Κ.mp hy with hy|hy
  ·exact(F.fr y hy).keep (fun a ha o e=>by rw[aD (fun z=>nd.1 (by rw[<- z];exact mD hy ha))];exact e) t
  ·rw[show y=((⟨fa,f1,none⟩:FC),(⟨h,[],none⟩:Fr)) by simpa using hy];exact⟨hv,[],by rw[aD n1.1];exact e1,hh.kt t,by rw[aD n2.1];exact e2,.nil,trivial⟩
 ·rw[bK,bX,ϗ];refine⟨fun z=>?_,ϙ.mpr ⟨nd.2,by simp[FC.cells,n3],fun a ha b hb z=>?_⟩⟩
  ·rcases Κ.mp z with z|z
   ·exact nd.1 z
   ·simp only[FC.cells,Option.toList_none,Α,Δ,Ψ] at z;rcases z with z|z
    ·exact n1.1 z.symm
    ·exact n2.1 z.symm
  ·simp only[FC.cells,Option.toList_none,Α,Δ,Ψ] at hb;rcases hb with rfl|rfl
   ·exact n1.2 (z▸ha)
   ·exact n2.2 (z▸ha)
def iK.snd{hv:V}(F:iK H fl 4e0)(f0:x.1.f2=none)(e1:H x.1.fa=some (.lst [hv,.ref x.1.f1,.TK]))(e2:H a=some (.lst []))(n:a∉fl::dZ 4e0):iK 2e2 fl (I++[(⟨x.1.fa,x.1.f1,some a⟩,⟨x.2.hd,x.2.b1,some []⟩)]):=by
 have nd:=F.nd;rw[bK,bX,ϗ,ϙ] at nd;rw[bK,bX,Α,Κ,not_or,not_or] at n;have hc:x.1.cells=[x.1.fa,x.1.f1]:=by simp[FC.cells,f0]
 rw[hc] at nd n;have t:aC H 2e2:=aC.cQ e1;obtain⟨WY,Vu,g1,g2,g3,g4,g5⟩:=F.fr x 2e0;rw[e1] at g1;have ehv:WY=hv:=by
  have g:=ϖ g1;simp only[HO.lst.injEq,List.cons.injEq] at g;exact g.1.symm
 subst ehv;have n12:x.1.fa≠x.1.f1:=by simpa using nd.2.2.1
 refine⟨?_,fun y hy=>?_,?_⟩
 ·rw[aD (fun z=>nd.1 (by rw[z];simp))];rw[F.e];simp
 ·rcases Κ.mp hy with hy|hy
  ·exact(F.fr y 6e1).keep (fun b hb o e=>by rw[aD (fun z=>nd.2.2.2 b (mD hy hb) x.1.fa 2e0 z)];exact e) t
  ·rw[show y=(⟨x.1.fa,x.1.f1,some a⟩,⟨x.2.hd,x.2.b1,some []⟩) by simpa using hy];exact⟨WY,Vu,aA,g2.kt t,by rw[aD n12.symm];exact g3,g4.kp t,[],by rw[aD (fun z=>n.2.2 3e0)];exact e2,.nil⟩
 ·rw[bK,bX,ϗ];refine⟨fun z=>?_,ϙ.mpr ⟨nd.2.1,?_,fun b hb c WB z=>?_⟩⟩
  ·rcases Κ.mp z with z|z
   ·exact nd.1 3e0
   ·simp only[FC.cells,Α2,Α,Δ,Ψ] at z;rcases z with z|z|z
    ·exact nd.1 3e0
    ·exact nd.1 3e0
    ·exact n.1 z.symm
  ·have h1:¬ a=x.1.fa:=fun z=>n.2.2 3e0;have h2:¬ a=x.1.f1:=fun z=>n.2.2 3e0;simp[FC.cells,n12];exact⟨fun z=>h1 z.symm,fun z=>h2 z.symm⟩
  ·simp only[FC.cells,Α2,Α,Δ,Ψ] at WB;rcases WB with rfl|rfl|rfl
   ·exact nd.2.2.2 b hb _ 2e0 z
   ·exact nd.2.2.2 b hb _ 2e0 z
   ·exact n.2.1 (z▸hb)
def Pe{o:Option Addr}(h:rv o=.TK):o=none:=by
 cases o with
 | none=>rfl
 | some a=>cases h
theorem CV{c:FC}{u:V}:fU [u,.ref c.f1,rv c.f2] (1+if (!decide (rv c.f2=V.TK))=true then 1 else 0)=some (.ref c.cur):=by
 obtain⟨fa,f1,f2⟩:=c;cases f2<;>rfl
def qQ.cu{c:FC}(h:qQ H c f):∃ us,H c.cur=some 6e0:=h.lst _ (by cases e:c.f2<;>simp[FC.cur,FC.cells,e])
def Ek(I:List 1e0)(x:FC×Fr):fU 3e2 (-1)=some 4e3:=by
 rw[Α3];exact kH _ _
def Ld(I:List 1e0)(x:FC×Fr):3e2[((I++[x]).map fun x=>V.ref x.1.fa).length - 1]?=some 4e3:=by simp
def Fz(I:List 1e0)(x:FC×Fr):((I++[x]).map fun x=>V.ref x.1.fa).dropLast=I.map fun x=>V.ref x.1.fa:=by simp
def fH(f:Fr)(i:Bool)(s:Say):Stm:=if i=true then .iff s f.b1 7e0 else .Uj s f.b1
inductive Jm(vs:List V)(H:Hp)(Q:VK)(E:XK):Prop
 | mk (fl:Addr) (I:List 1e0) (x y:FC×Fr) (i:Bool) (s:Say) (_:vs=[.ref fl]) (_:iK H fl 7e1) (_:y.2.hd=some (i,s)) (_:(∀ z∈I++[x]++[y],z.2.b1.length<=1000/\(z.2.b2.getD []).length<=1000)) (_:∀ H',iK H' fl 1e1->Kp (fl::x.1.cells) H H'->Q .TK H'):Jm vs H Q E
def Gf(j:Nat)(f:Fr):Prop:=Af true f.b1/\Af true 7e0/\oE f.b1+j<=5/\oE 7e0+j<=5/\(j≠0->∃ i s,f.hd=some (i,s)/\s.sok)
def AU(L:List 1e0):Nat:=(L.map fun x=>bZ x.2.b1+bZ 4e1+2).sum
def GL(L:List 1e0):Prop:=∀ j x,L[j]?=some x->Gf j x.2
def lM(L M:List 1e0):AU (L++M)=AU L+AU M:=by simp[AU]
def lO(x:FC×Fr):AU [x]=bZ x.2.b1+bZ 4e1+2:=by simp[AU]
def GL.top(h:GL 4e0):Gf I.length x.2:=h I.length x 2e0
def GL.init(h:GL 4e0):GL I:=fun j y e=>h j y (by rw[Β2 (Λ.mp e).1];exact e)
theorem GL.snoc(h:GL I)(g:Gf I.length x.2):GL 4e0:=fun j y e=>by
 by_cases hj:j < I.length
 ·rw[Β2 hj] at e;exact h j y e
 ·have:j=I.length:=by
   have:=(Λ.mp e).1;simp at this;omega
  subst this;simp at e;subst e;exact g
theorem EW:∀(a b:List Stm),bZ (a++b)=bZ a+bZ b
 | [],b=>by simp[bZ]
 | x::a,b=>by simp only[Χ,bZ,EW a b];omega
theorem uK:∀(a:List Stm) (m:Stm),oE (a++[m])=max (oE a) m.dp
 | [],m=>by simp[oE]
 | x::a,m=>by simp only[Χ,oE,uK a m];omega
theorem uW{wt:Bool}:∀ {a:List Stm} {m:Stm},Af wt a->m.gd wt->Af wt (a++[m])
 | [],m,_,h=>⟨h,trivial⟩
 | x::a,m,g,h=>⟨g.1,uW g.2 h⟩
theorem GS(f:Fr)(m:Stm):bZ (f.add m).b1+bZ ((f.add m).b2.getD [])=bZ f.b1+bZ 7e0+m.sz:=by
 unfold Fr.add;cases h:f.b2<;>simp[h,EW,bZ]<;>omega
theorem Gf.add{j:Nat}(g:Gf j f)(gm:m.gd true)(dm:m.dp+j<=5):Gf j (f.add m):=by
 obtain⟨g1,g2,g3,g4,g5⟩:=g;unfold Fr.add;cases h:f.b2 with
 | none =>
  rw[h] at g2 g4;exact⟨uW g1 gm,g2,by show oE (f.b1++[m])+j<=5;rw[uK];omega,g4,g5⟩
 | some b =>
  rw[h] at g2 g4;exact⟨g1,uW (show Af true b from g2) gm,g3,by show oE (b++[m])+j<=5;rw[uK];have:oE b+j<=5:=g4;omega,g5⟩
theorem Hl{j:Nat}{i:Bool}(g:Gf (j+1) f)(hs:s.sok):(fH f i s).gd true/\(fH f i s).dp+j<=5/\(fH f i s).sz<=bZ f.b1+bZ 7e0+2:=by
 obtain⟨g1,g2,g3,g4,g5⟩:=g;cases i with
 | true=>exact⟨⟨hs,g1,g2⟩,by simp only[fH,Γ3,Stm.dp];omega,by simp only[fH,Γ3,Stm.sz];omega⟩
 | false=>exact⟨⟨hs,g1⟩,by simp only[fH,Ϙ,Β4,Stm.dp];omega,by simp only[fH,Ϙ,Β4,Stm.sz];omega⟩
theorem Dz{L:List 1e0}(h:x∈L):bZ x.2.b1+bZ 4e1+2<=AU L:=by
 induction L with
 | nil=>simp at h
 | cons y r ih =>
  rcases Α.mp h with rfl|h
  ·simp[AU]
  ·have:=ih h;simp only[AU,ϓ,List.sum_cons] at this ⊢;omega
theorem DS{y:FC×Fr}{i:Bool}(g:GL 7e1)(h:y.2.hd=some (i,s))(hs:s.sok):GL 1e1/\AU 1e1<=AU 7e1:=by
 have gy:=g.top;rw[Ν,List.length_singleton] at gy;obtain⟨c1,c2,c3⟩:=Hl (i:=i) gy hs;refine⟨g.init.init.snoc (g.init.top.add c1 c2),?_⟩;rw[lM,lM,lM,lO,lO,lO];have:=GS x.2 3e1;show AU I+(bZ (x.2.add 3e1).b1+bZ ((x.2.add 3e1).b2.getD [])+2)<=_;omega
inductive Jv(vs:List V)(H:Hp)(Q:VK)(E:XK):Prop
 | mk (cl:Addr) (ms:List Int) (_:vs=[.ref cl]) (_:H cl=some 7e2) (_:ms.length<=63) (_:∀(p:Addr) (us:List V) (b:List Stm) (H':Hp),H' p=some (.tup us)->bV H' us b->Af true b->oE b<=5->bZ b<=2 * ms.length->Kp [] H H'->Q (.ref p) H'):Jv vs H Q E
end
mutual
noncomputable def Stm.iQ(L:List Str):Stm->Prop
 | .set x _=>x∈L
 | .order x _ _=>x∈L
 | .child x _ _=>x∈L
 | .Ub x _=>x∈L
 | .wait x ss=>x∈L
 | .TV x _=>x∈L
 | .Uj _ b=>iW L b
 | .iff _ b o=>iW L b/\iW L o
 | _=>True
noncomputable def iW(L:List Str):List Stm->Prop
 | []=>True
 | m::ms=>m.iQ L/\iW L ms
end
mutual
example:=[h.same rfl,(by simp),(if _ then (Own.bT S m).1.pass else (Own.bT S m).1),(if _ then S.enter 1 o else S.enter 0 b),(if _ then S.pass else S.enter 0 b),hx m k w rfl,Str×List Wo,(by simp[hx])]
theorem BJ{L:List Str}:∀ {b:List Stm} {i:Nat} {m:Stm},iW L b->b[i]?=some m->m.iQ L
 | [],_,_,_,h=>by simp at h
 | _::_,0,_,g,h=>by simp only[Ξ,Ο] at h;subst h;simp only[iW] at g;exact g.1
 | _::b,i+1,_,g,h=>by simp only[iW] at g;exact BJ g.2 (by simpa using h)
theorem Gq(l:List (Str×Wo))(n:Str)(w:Wo):(cB l n w).map (·.1)=if n∈l.map (·.1) then l.map (·.1) else l.map (·.1)++[n]:=by
 have e:(l.any fun p=>decide (p.1=n))=true↔n∈l.map (·.1):=by
  rw[List.any_eq_true,Α9];constructor
  ·rintro⟨p,h,e⟩;exact⟨p,h,by simpa using e⟩
  ·rintro⟨p,h,e⟩;exact⟨p,h,by simpa using e⟩
 unfold cB;by_cases h:n∈l.map (·.1)
 ·rw[if_pos (e.mpr h),if_pos h,List.map_map];refine List.map_congr_left fun p _=>?_;simp only[Function.comp];split<;>rfl
 ·rw[if_neg (fun z=>h (e.mp z)),if_neg h];simp
structure fK(L:List Str)(S:Pu):Prop where
 nd:(S.nm.map (·.1)).Nodup
 sub:∀ n∈S.nm.map (·.1),n∈L
 stk:∀ x∈S.stk,iW L x.2.1
def fK.put(h:fK L S){n:Str}(hn:n∈L)(w:Wo):fK L {S with nm:=cB S.nm n w}:=by
 have e:=Gq S.nm n w;refine⟨?_,?_,h.stk⟩
 ·show((cB S.nm n w).map (·.1)).Nodup;rw[e];split
  ·exact h.nd
  ·next hc =>
   rw[ϙ];exact⟨h.nd,by simp,fun a ha b hb=>by rw[show b=n by simpa using hb];intro z;exact hc (z▸ha)⟩
 ·show ∀ x∈(cB S.nm n w).map (·.1),x∈L;rw[e];split
  ·exact h.sub
  ·intro x hx;rcases Κ.mp hx with hx|hx
   ·exact h.sub x hx
   ·rw[show x=n by simpa using hx];exact hn
def fK.same{T:Pu}(h:fK L S)(e1:T.nm=S.nm)(e2:T.stk=S.stk):fK L T:=⟨by rw[e1];exact h.nd,by rw[e1];exact h.sub,by rw[e2];exact h.stk⟩
def fK.bT(h:fK L S)(g:m.iQ L):fK L (bT S m).1:=by
 cases m with
 | set x s=>simp only[Stm.iQ] at g;exact h.put g _
 | order x y s=>simp only[Stm.iQ] at g;exact(h.put g _).same rfl rfl
 | child x y s=>simp only[Stm.iQ] at g;exact(h.put g _).same rfl rfl
 | Ub x s=>simp only[Stm.iQ] at g;exact(h.put g _).same rfl rfl
 | send s k r=>exact h
 | drop s =>
  simp only[Own.bT];split
  ·split
   ·exact h.same rfl rfl
   ·exact h
  ·exact h
 | TV x k =>
  simp only[Stm.iQ] at g;simp only[Own.bT];split
  ·exact(h.put g _).same rfl rfl
  ·exact h.same rfl rfl
 | wait x ss =>
  simp only[Stm.iQ] at g;simp only[Own.bT];split
  ·exact h.same rfl rfl
  ·exact h.put g _
 | fin s=>exact h.same rfl rfl
 | Uj s b=>exact h
 | iff s b o=>exact h
theorem qT{L:List Str}:∀ st:Stk,(∀ x∈st,iW L x.2.1)->∀ x∈bP st,iW L x.2.1
 | [],h=>by simpa[bP] using h
 | [a],h=>by simpa[bP] using h
 | (k,b,n)::(k2,b2,n2)::r,h=>by
  rw[bP];split
  ·refine qT ((k2,b2,mM b2 n2)::r) fun x hx=>?_;rcases Α.mp hx with rfl|hx
   ·exact h (k2,b2,n2) 1e0
   ·exact h x 7e0
  ·exact h
termination_by st=>st.length
def rR(h:∀ x∈st,iW L x.2.1):∀ x∈fQ st,iW L x.2.1:=by
 cases st with
 | nil=>exact h
 | cons a r =>
  obtain⟨k,b,n⟩:=a;intro x hx;simp only[fQ,Α] at hx;rcases hx with rfl|hx
  ·exact h (k,b,n) 1e0
  ·exact h x 7e0
def fK.bL(h:fK L S)(e:bL S.stk=some m):m.iQ L:=by
 cases hs:S.stk with
 | nil=>rw[hs] at e;cases e
 | cons a r =>
  obtain⟨k,b,n⟩:=a;rw[hs] at e;exact BJ (h.stk (k,b,n) (by rw[hs];simp)) e
def fK.one(h:fK L S)(e:Own.bL S.stk=some m):fK L (one S m).1:=by
 have g:=h.bL e;have en:∀(c:Nat) (b:List Stm),iW L b->fK L (S.enter c b):=fun c b hb=>⟨h.nd,h.sub,fun x hx=>by
  rcases Α.mp hx with rfl|hx
  ·exact hb
  ·exact h.stk x hx⟩
 have ps:∀ T:Pu,fK L T->fK L T.pass:=fun T hT=>⟨hT.nd,hT.sub,rR hT.stk⟩;unfold Own.one;split
 ·cases m with
  | Uj s b =>
   simp only[Stm.iQ] at g;show fK L 4e0;split
   ·exact ps S h
   ·exact en 0 b g
  | iff s b o =>
   simp only[Stm.iQ] at g;show fK L 3e0;split
   ·exact en 1 o g.2
   ·exact en 0 b g.1
  | _=>exact h
 ·show fK L 2e0;split
  ·exact ps _ (h.bT g)
  ·exact h.bT g
theorem tO{L:List Str}:∀(n:Nat) {S:Pu},fK L S->fK L (eB n S).1
 | 0,S,h=>by
  have hc:fK L S.bB:=⟨h.nd,h.sub,qT _ h.stk⟩;cases e:bL S.bB.stk with
  | none=>rw[eL e];exact hc.same rfl rfl
  | some m=>rw[jD e];exact hc.same rfl rfl
 | n+1,S,h=>by
  have hc:fK L S.bB:=⟨h.nd,h.sub,qT _ h.stk⟩;cases e:bL S.bB.stk with
  | none=>rw[eL e];exact hc.same rfl rfl
  | some m =>
   cases z:(one S.bB m).1.sl.isN with
   | true=>rw[nO e z];exact tO n (hc.one e)
   | false=>rw[jC e z];exact hc.one e
def fK.wake(h:fK L S)(w:Wo):fK L (S.wake w).1:=by
 unfold Pu.wake;split
 ·next x k e =>
  have g:=h.bL e;simp only[Stm.iQ] at g;have h1:=h.put g w;exact tO 300 ⟨h1.nd,h1.sub,rR h.stk⟩
 ·next x ss e =>
  have g:=h.bL e;simp only[Stm.iQ] at g;have h1:=h.put g w;exact tO 300 ⟨h1.nd,h1.sub,rR h.stk⟩
 ·exact h
def fK.take(h:fK L S)(x:Hap):fK L (S.take x).1:=by
 unfold Pu.take;split
 ·exact h
 cases x with
 | UE m w=>exact tO 300 (h.same rfl rfl)
 | don m i w =>
  show fK L ((S.at' m).fB i w).1;unfold Pu.fB;split
  ·split
   ·exact(h.same (T:=(S.at' m).done i w) rfl rfl).wake _
   ·exact h.same rfl rfl
  ·exact h.same rfl rfl
 | ltr m k w =>
  show fK L ((S.at' m).eW k w).1;unfold Pu.eW;split
  ·split
   ·exact(h.same (T:=S.at' m) rfl rfl).wake _
   ·exact h.same rfl rfl
  ·exact h.same rfl rfl
theorem rK:∀ {a L:List Str},a.Nodup->(∀ x∈a,x∈L)->a.length<=L.length
 | [],L,_,_=>Α4 _
 | x::a,L,nd,h=>by
  rw[ϗ] at nd;have hx:=h x 1e0;have:=rK (a:=a) (L:=L.erase x) nd.2 fun y hy=>(List.mem_erase_of_ne (fun z:y=x=>nd.1 (by rw[<- z];exact hy))).mpr (h y (ϑ _ hy));have hl:=List.length_erase_of_mem hx;have hp:0 < L.length:=List.length_pos_of_mem hx;simp only[Ζ];omega
def fK.len(h:fK L S):S.nm.length<=L.length:=by
 have:=rK h.nd h.sub
 rwa [Γ] at this
structure gP(K:List Str)(S:Pu):Prop where
 nd:(S.lt.map (·.1)).Nodup
 sub:∀ n∈S.lt.map (·.1),n∈K
theorem qK(r:List Wo):∀(l:List 6e0) (k:Str),(dO l k r).map (·.1)=l.map (·.1)
 | [],_=>rfl
 | p::l,k=>by
  simp only[dO];split
  ·rfl
  ·simp only[ϓ,qK r l k]
theorem vH:∀ {l:List 6e0} {k:Str},aT l k=none->k∉l.map (·.1)
 | [],_,_=>by simp
 | p::l,k,h=>by
  simp only[aT] at h;split at h
  ·cases h
  ·next hp =>
   simp only[ϓ,Α,not_or];exact⟨fun z=>hp z.symm,vH h⟩
def gP.same{T:Pu}(h:gP K S)(e:T.lt=S.lt):gP K T:=⟨by rw[e];exact h.nd,by rw[e];exact h.sub⟩
def gP.add(h:gP K S)(hk:k∈K)(w:Wo):gP K {S with lt:=fM S.lt k w}:=by
 cases e:aT S.lt k with
 | some ws =>
  have ea:fM S.lt k w=dO S.lt k (ws++[w]):=by simp only[fM,e]
  have kk:=qK (ws++[w]) S.lt k;exact⟨by show((fM S.lt k w).map (·.1)).Nodup;rw[ea,kk];exact h.nd,by show ∀ n∈(fM S.lt k w).map (·.1),n∈K;rw[ea,kk];exact h.sub⟩
 | none =>
  have ea:fM S.lt k w=S.lt++[(k,[w])]:=by simp only[fM,e]
  have nk:=vH e;refine⟨?_,?_⟩
  ·show((fM S.lt k w).map (·.1)).Nodup;rw[ea,Α3,ϙ];exact⟨h.nd,by simp,fun a ha b hb=>by rw[show b=k by simpa using hb];intro z;exact nk (z▸ha)⟩
  ·show ∀ n∈(fM S.lt k w).map (·.1),n∈K;rw[ea,Α3];intro n hn;rcases Κ.mp hn with hn|hn
   ·exact h.sub n hn
   ·rw[show n=k by simpa using hn];exact hk
def gP.bT(h:gP K S)(m:Stm):gP K (bT S m).1:=by
 cases m with
 | drop s =>
  simp only[Own.bT];split
  ·split
   ·exact h.same rfl
   ·exact h
  ·exact h
 | TV x k =>
  simp only[Own.bT];split
  ·next w r e=>exact⟨by show((dO S.lt k r).map (·.1)).Nodup;rw[qK];exact h.nd,by show ∀ n∈(dO S.lt k r).map (·.1),n∈K;rw[qK];exact h.sub⟩
  ·exact h.same rfl
 | wait x ss =>
  simp only[Own.bT];split
  ·exact h.same rfl
  ·exact h.same rfl
 | _=>exact h.same rfl
def gP.one(h:gP K S)(m:Stm):gP K (one S m).1:=by
 unfold Own.one;split
 ·cases m with
  | Uj s b=>show gP K 4e0;split<;>exact h.same rfl
  | iff s b o=>show gP K 3e0;split<;>exact h.same rfl
  | _=>exact h
 ·show gP K 2e0;split
  ·exact(h.bT m).same rfl
  ·exact h.bT m
theorem tL{K:List Str}:∀(n:Nat) {S:Pu},gP K S->gP K (eB n S).1
 | 0,S,h=>by
  have hc:gP K S.bB:=h.same rfl;cases e:bL S.bB.stk with
  | none=>rw[eL e];exact hc.same rfl
  | some m=>rw[jD e];exact hc.same rfl
 | n+1,S,h=>by
  have hc:gP K S.bB:=h.same rfl;cases e:bL S.bB.stk with
  | none=>rw[eL e];exact hc.same rfl
  | some m =>
   cases z:(one S.bB m).1.sl.isN with
   | true=>rw[nO e z];exact tL n (hc.one m)
   | false=>rw[jC e z];exact hc.one m
def gP.wake(h:gP K S)(w:Wo):gP K (S.wake w).1:=by
 unfold Pu.wake;split
 ·exact tL 300 0e0
 ·exact tL 300 0e0
 ·exact h
def gP.take(h:gP K S)(x:Hap)(hx:∀ m k w,x=.ltr m k w->k∈K):gP K (S.take x).1:=by
 unfold Pu.take;split
 ·exact h
 cases x with
 | UE m w=>exact tL 300 0e0
 | don m i w =>
  show gP K ((S.at' m).fB i w).1;unfold Pu.fB;split
  ·split
   ·exact(h.same (T:=(S.at' m).done i w) rfl).wake _
   ·exact h.same rfl
  ·exact h.same rfl
 | ltr m k w =>
  show gP K ((S.at' m).eW k w).1;unfold Pu.eW;split
  ·split
   ·exact(h.same (T:=S.at' m) rfl).wake _
   ·exact((h.same (T:=S.at' m) rfl).add 5e0 w).same rfl
  ·exact((h.same (T:=S.at' m) rfl).add 5e0 w).same rfl
def gP.len(h:gP K S):S.lt.length<=K.length:=by
 have:=rK h.nd h.sub
 rwa [Γ] at this
end
mutual
noncomputable def Stm.nms:Stm->List Str
 | .set x _=>[x]
 | .order x _ _=>[x]
 | .child x _ _=>[x]
 | .Ub x _=>[x]
 | .wait x _=>[x]
 | .TV x _=>[x]
 | .Uj _ b=>vQ b
 | .iff _ b o=>vQ b++vQ o
 | _=>[]
noncomputable def vQ:List Stm->List Str
 | []=>[]
 | m::r=>m.nms++vQ r
end
mutual
theorem Lm:∀ m:Stm,m.nms.length<=m.sz
 | .Uj _ b=>by have:=mL b;simp only[Stm.nms,Stm.sz];omega
 | .iff _ b o=>by have:=mL b;have:=mL o;simp only[Stm.nms,Stm.sz,Ν];omega
 | .set _ _=>by simp[Stm.nms,Stm.sz]
 | .order _ _ _=>by simp[Stm.nms,Stm.sz]
 | .child _ _ _=>by simp[Stm.nms,Stm.sz]
 | .Ub _ _=>by simp[Stm.nms,Stm.sz]
 | .wait _ _=>by simp[Stm.nms,Stm.sz]
 | .TV _ _=>by simp[Stm.nms,Stm.sz]
 | .send _ _ _=>by simp[Stm.nms,Stm.sz]
 | .drop _=>by simp[Stm.nms,Stm.sz]
 | .fin _=>by simp[Stm.nms,Stm.sz]
theorem mL:∀ b:List Stm,(vQ b).length<=bZ b
 | []=>by simp[vQ]
 | m::r=>by have:=Lm m;have:=mL r;simp only[vQ,bZ,Ν];omega
end
mutual
theorem ON{L:List Str}:∀ m:Stm,(∀ x∈m.nms,x∈L)->m.iQ L
 | .Uj _ b,h=>by simp only[Stm.nms] at h;simp only[Stm.iQ];exact pS b h
 | .iff _ b o,h=>by simp only[Stm.nms,Κ] at h;simp only[Stm.iQ];exact⟨pS b fun x hx=>h x (.inl hx),pS o fun x hx=>h x (.inr hx)⟩
 | .set _ _,h=>by simp only[Stm.iQ];exact h _ (by simp[Stm.nms])
 | .order _ _ _,h=>by simp only[Stm.iQ];exact h _ (by simp[Stm.nms])
 | .child _ _ _,h=>by simp only[Stm.iQ];exact h _ (by simp[Stm.nms])
 | .Ub _ _,h=>by simp only[Stm.iQ];exact h _ (by simp[Stm.nms])
 | .wait _ _,h=>by simp only[Stm.iQ];exact h _ (by simp[Stm.nms])
 | .TV _ _,h=>by simp only[Stm.iQ];exact h _ (by simp[Stm.nms])
 | .send _ _ _,_=>by simp only[Stm.iQ]
 | .drop _,_=>by simp only[Stm.iQ]
 | .fin _,_=>by simp only[Stm.iQ]
theorem pS{L:List Str}:∀ b:List Stm,(∀ x∈vQ b,x∈L)->iW L b
 | [],_=>by simp only[iW]
 | m::r,h=>by simp only[vQ,Κ] at h;simp only[iW];exact⟨ON m fun x hx=>h x (.inl hx),pS r fun x hx=>h x (.inr hx)⟩
end
mutual
example:=[(fun _=>true)]
def vP:fK (vQ b) (dM b):=⟨by simp[dM],by simp[dM],fun x hx=>by rw[show x=(0,b,0) by simpa[dM] using hx];exact pS b fun _ h=>h⟩
def vK:gP K (dM b):=⟨by simp[dM],by simp[dM]⟩
def Hap.key:Hap->Option Str
 | .ltr _ k _=>some k
 | _=>none
def Ih(hs:List Hap):List Str:=hs.filterMap Hap.key
def Fx{h:Hap}(hm:h∈hs):∀ m k w,h=.ltr m k w->k∈Ih hs:=fun m k w e=>List.mem_filterMap.mpr ⟨h,hm,by rw[e];rfl⟩
def Fv(hs:List Hap):(Ih hs).length<=hs.length:=List.length_filterMap_le _ _
def t9.kt(h:t9 H v S)(k:aC H H'):t9 H' v S:=by
 unfold t9 at *;split at h
 ·next hg =>
  rw[if_pos hg];obtain⟨p,pl,pn,po,pa,pt,sl,un,ua,ut,e,a1,a2,a3,a4,a5,a6,a7,a8,a9,a10⟩:=h;exact⟨p,pl,pn,po,pa,pt,sl,un,ua,ut,e,k _ _ a1,a2.kt k,k _ _ a3,k _ _ a4,a5.kt k,k _ _ a6,k _ _ a7,a8.kt k,k _ _ a9,a10.kt k⟩
 ·next hg =>
  rw[if_neg hg];exact h.kt k
def dU(H:Hp)(p lo:Addr)(S:Pu):Prop:=∃(v sl:V),H p=some (.tup [sl,.ref lo,v])/\t9 H v S/\jU H sl S.sl/\H lo=some (.lst (S.pend.map V.int))
def dU.keep{G':Hp}{p lo:Addr}(h:dU G p lo S)(t:aC G G')(k:∀ o,G lo=some o->G' lo=some o):dU G' p lo S:=by
 obtain⟨v,sl,e,hv,hs,eo⟩:=h;exact⟨v,sl,t _ _ e,hv.kt t,hs.kt t,k _ eo⟩
def dU.kp{G':Hp}{p lo:Addr}(h:dU G p lo S)(k:Kp [] G G'):dU G' p lo S:=h.keep (aC.nil k) fun _ e=>k.at e
inductive AO(C:Cl)(vs:List V)(H:Hp)(Q:VK)(E:XK):Prop
 | mk (R:Rn) (as:List Addr) (sl:V) (S:Pu) (_:vs=[.ref R.x]) (_:aX C H R as sl S) (_:S.sl.isN=false) (_:S.pend.length<=1000000) (_:S.nm.length < 64) (_:S.lt.length < 64) (_:S.ans.length<=1000000) (_:(∀ k ws,aT S.lt k=some ws->ws.length<=1000000)) (_:∀(p lo:Addr) (H':Hp),dU H' p lo S->H lo=none->Kp [] H H'->Q (.ref p) H'):AO C vs H Q E
def DZ{K:q0B}{b:Addr}(ha:H a=some (.tup xs))(hb:H b=some (.tup ys))(hl:xs.length=ys.length)(h:∀(j:Nat) x y,xs[j]?=some x->ys[j]?=some y->r9 K H n x y true):r9 K H (n+1) (.ref a) (.ref b) true:=by
 by_cases Xk:a=b
 ·subst Xk;exact .same
 ·refine .refs Xk ?_;have:=qP.tup (K:=K) (H:=H) (n:=n) (e:=fun _=>true) (iR.of ha) (iR.of hb) h
  rwa [show((List.range (min xs.length ys.length)).all 0e0&&xs.length==ys.length)=true by simp[hl]] at this
def LJ{K:q0B}{b:Addr}(ha:H a=some (.lst xs))(hb:H b=some (.lst ys))(hl:xs.length=ys.length)(h:∀(j:Nat) x y,xs[j]?=some x->ys[j]?=some y->r9 K H n x y true):qP K H (n+1) a b true:=by
 have:=qP.list (K:=K) (H:=H) (n:=n) (e:=fun _=>true) (fY.of ha) (fY.of hb) hl h
 rwa [show(List.range xs.length).all 0e0=true by simp] at this
def KO{K:q0B}{b:Addr}(ha:H a=some (.lst xs))(hb:H b=some (.lst ys))(hl:xs.length=ys.length)(h:∀(j:Nat) x y,xs[j]?=some x->ys[j]?=some y->r9 K H n x y true):r9 K H (n+1) (.ref a) (.ref b) true:=by
 by_cases Xk:a=b
 ·subst Xk;exact .same
 ·exact .refs Xk (LJ ha hb hl h)
def Bo{K:q0B}{x:V}(h:eK x=true)(e:n8 x x=true):r9 K H n x x true:=by
 have:=r9.flat (K:=K) (H:=H) (n:=n) h h
 rwa [e] at this
def oG(cs:Cmds):Prop:=∀ c∈cs,∀ v∈c,eK v=true/\n8 v v=true
def Nd{K:q0B}(h:gN H us cs)(g:gN H vs cs)(f:oG cs):∀(j:Nat) x y,us[j]?=some x->vs[j]?=some y->r9 K H (n+1) x y true:=fun j x y e1 e2=>by
 obtain⟨a,c,rfl,e3,ha⟩:=h.at e1;obtain⟨b,c',rfl,e4,hb⟩:=g.at e2;rw[e3] at e4;cases e4;refine DZ ha hb rfl fun i v w e5 e6=>?_;rw[e5] at e6;cases e6;have:=f c (Υ e3) v (Υ e5);exact Bo this.1 this.2
def FV(v:V):Prop:=eK v=true/\n8 v v=true
def dG(x:Str):FV (.str x):=⟨rfl,by simp[D0]⟩
def iH(i:Int):FV (.int i):=⟨rfl,by simp[KQ]⟩
def iT(w:Wo):FV (wv w):=by
 cases w with
 | none=>exact⟨rfl,rfl⟩
 | some i=>exact iH i
structure jS(K:q0B)(H:Hp)(n:Nat)(xs ys:List V):Prop where
 len:xs.length=ys.length
 at':∀(j:Nat) x y,xs[j]?=some x->ys[j]?=some y->r9 K H n x y true
end
section
mutual
example:=[.cons (dG _).eq .nil,jS.refl (pT _)]
variable{K:q0B}{b:Addr}{x:V}
def jS.nil:jS K H n [] []:=⟨rfl,fun j x y e=>by simp at e⟩
def jS.cons(h:r9 K H n x y true)(t:jS K H n xs ys):jS K H n (x::xs) (y::ys):=⟨by simp[t.len],fun j u v e1 e2=>by
 cases j with
 | zero =>
  simp only[Ξ,Ο] at e1 e2;subst e1 e2;exact h
 | succ j=>exact t.at' j u v (by simpa using e1) (by simpa using e2)⟩
theorem jS.app(h:jS K H n xs ys)(t:jS K H n us vs):jS K H n (xs++us) (ys++vs):=⟨by simp[h.len,t.len],fun j u v e1 e2=>by
 by_cases c:j < xs.length
 ·rw[Β2 c] at e1;rw[Β2 (by rw[<- h.len];exact c)] at e2;exact h.at' j u v e1 e2
 ·rw[Β8 (by omega)] at e1;rw[Β8 (by rw[<- h.len];omega),<- h.len] at e2;exact t.at' _ u v e1 e2⟩
def FV.eq(h:FV x):r9 K H n x x true:=Bo h.1 h.2
def jS.refl(h:∀ v∈xs,FV v):jS K H n xs xs:=⟨rfl,fun j u v e1 e2=>by
 rw[e1] at e2;cases e2;exact(h u (Υ e1)).eq⟩
def jS.tup(h:jS K H n xs ys)(ha:H a=some (.tup xs))(hb:H b=some (.tup ys)):r9 K H (n+1) (.ref a) (.ref b) true:=DZ ha hb h.len h.at'
def jS.lst(h:jS K H n xs ys)(ha:H a=some (.lst xs))(hb:H b=some (.lst ys)):r9 K H (n+1) (.ref a) (.ref b) true:=KO ha hb h.len h.at'
def jS.rcT(h:jS K H n xs ys)(ha:H a=some (.tup xs))(hb:H b=some (.tup ys)):qP K H (n+1) a b true:=by
 have:=qP.tup (K:=K) (H:=H) (n:=n) (e:=fun _=>true) (iR.of ha) (iR.of hb) h.at'
 rwa [show((List.range (min xs.length ys.length)).all (fun _=>true)&&xs.length==ys.length)=true by simp[h.len]] at this
def Nf(h:gN H us cs)(g:gN H vs cs)(f:oG cs):jS K H (n+1) us vs:=⟨by rw[h.len,g.len],Nd h g f⟩
def EA{ps:List (V×V)}(h:fX H us ps)(g:fX H vs ps)(f:∀ p∈ps,FV p.1/\FV p.2):jS K H (n+1) us vs:=by
 induction h generalizing vs with
 | nil=>cases g;exact .nil
 | @cons a x y us ps e _ ih =>
  cases g with
  | cons e2 g =>
   have:=f (x,y) (by simp);exact .cons (jS.tup (.cons this.1.eq (.cons this.2.eq .nil)) e e2) (ih g fun p hp=>f p (ϑ _ hp))
def Li(h:iV H us ps)(g:iV H vs ps):jS K H (n+2) us vs:=by
 induction h generalizing vs with
 | nil=>cases g;exact .nil
 | @cons a b k ws us ps e e' _ ih =>
  cases g with
  | cons e2 VZ g =>
   refine .cons (jS.tup (.cons (dG k).eq (.cons (jS.tup (jS.refl fun v hv=>?_) e' VZ) .nil)) e e2) (ih g);obtain⟨w,_,rfl⟩:=Α9.mp hv;exact iT w
def pT(ts:List Int):∀ v∈ts.map V.int,FV v:=fun v hv=>by
 obtain⟨i,_,rfl⟩:=Α9.mp hv;exact iH i
def Ds{s:Slp}(h:jU H x s)(g:jU H y s):r9 K H (n+2) x y true:=by
 cases s with
 | TK =>
  rw[show x=.TK from h,show y=.TK from g];exact(show FV .TK from ⟨rfl,rfl⟩).eq
 | new =>
  obtain⟨p,rfl,e⟩:=h;obtain⟨p2,rfl,e2⟩:=g;exact jS.tup 0e0 e e2
 | wait ts =>
  obtain⟨p,p2,rfl,e,f⟩:=h;obtain⟨q,q2,rfl,e2,f2⟩:=g;exact jS.tup (.cons (dG _).eq (.cons (jS.tup (jS.refl (pT ts)) f f2) .nil)) e e2
 | TV k =>
  obtain⟨p,rfl,e⟩:=h;obtain⟨p2,rfl,e2⟩:=g;exact jS.tup (.cons (dG _).eq 0e0) e e2
 | ended w =>
  obtain⟨p,rfl,e⟩:=h;obtain⟨p2,rfl,e2⟩:=g;exact jS.tup (.cons (dG _).eq (.cons (iT _).eq .nil)) e e2
 | worn =>
  obtain⟨p,rfl,e⟩:=h;obtain⟨p2,rfl,e2⟩:=g;exact jS.tup 0e0 e e2
theorem vO(nm:List (Str×Wo)):∀(l:List Str),∀ p∈gC nm l,FV p.1/\FV p.2
 | [],p,h=>by simp[gC] at h
 | k::l,p,h=>by
  simp only[gC] at h;split at h
  ·exact vO nm l p h
  ·rcases Α.mp h with rfl|h
   ·exact⟨dG _,iT _⟩
   ·exact vO nm l p h
def Ru(h:t9 H x S)(g:t9 H y S):r9 K H (n+4) x y true:=by
 unfold t9 at h g;split at h
 ·next hg =>
  rw[if_pos hg] at g;obtain⟨p,pl,pn,po,pa,pt,sl,un,ua,ut,rfl,a1,a2,a3,a4,a5,a6,a7,a8,a9,a10⟩:=h;obtain⟨q,ql,qn,qo,qa,qt,Uk,un',ua',ut',rfl,b1,b2,b3,b4,b5,b6,b7,b8,b9,b10⟩:=g;refine jS.tup (n:=n+3) (.cons (Ds (n:=n+1) a2 b2) (.cons (jS.tup (n:=n+2) 1e0 a3 b3) (.cons (iT _).eq (.cons (iH _).eq (.cons (jS.tup (n:=n+2) (EA (n:=n+1) a5 b5 (vO _ _)) a4 b4) (.cons (iH _).eq (.cons (jS.tup (n:=n+2) 1e0 a6 b6) (.cons (jS.tup (n:=n+2) (EA (n:=n+1) a8 b8 fun p hp=>?_) a7 b7) (.cons (jS.tup (n:=n+2) (Li (n:=n) a10 b10) a9 b9) .nil))))))))) a1 b1;obtain⟨z,_,rfl⟩:=Α9.mp hp;exact⟨iH _,iT _⟩
 ·next hg =>
  rw[if_neg hg] at g;exact Ds (n:=n+2) h g
def JB{lo lo':Addr}(h:dU H a lo S)(g:dU H b lo' S):qP K H (n+5) a b true:=by
 obtain⟨v,sl,e,hv,hs,eo⟩:=h;obtain⟨v',Uk,e',WY,VQ,eo'⟩:=g;exact jS.rcT (n:=n+4) (.cons (Ds (n:=n+2) hs VQ) (.cons (jS.lst (n:=n+3) 1e0 eo eo') (.cons (Ru hv WY) .nil))) e e'
end
end
mutual
example:=[(by simp only[Β1];exact⟨dG _,iT _,by simp⟩),(by simp only[Β1];exact⟨dG _,iH _,dG _,iT _,by simp⟩)]
def fD:oG []:=fun _ h=>by cases h
def Fn{a b:Cmds}(h:oG a)(g:oG b):oG (a++b):=fun c hc=>by
 rcases Κ.mp hc with hc|hc
 ·exact h c hc
 ·exact g c hc
def fV{c:List V}(h:∀ v∈c,FV v):oG [c]:=fun x hx=>by
 rw[show x=c by simpa using hx];exact h
def Mq(m:Nat)(cs:Cmds):Prop:=oG cs/\cs.length<=m
def Ht(S:Pu)(m:Stm):Mq 1 (bT S m).2:=by
 refine⟨?_,Bl S m⟩;cases m with
 | set x s=>exact fD
 | order x y s=>exact fV 1e0
 | child x y s=>exact fV 1e0
 | Ub x s=>exact fV (by simp only[Β1];exact⟨dG _,iH _,iH _,by simp⟩)
 | send s k r=>exact fV (by simp only[Β1];exact⟨dG _,iT _,dG _,iT _,by simp⟩)
 | drop s =>
  simp only[Own.bT];split
  ·split
   ·exact fV (by simp only[Β1];exact⟨dG _,iH _,by simp⟩)
   ·exact fD
  ·exact fD
 | TV x k =>
  simp only[Own.bT];split<;>exact fD
 | wait x ss =>
  simp only[Own.bT];split<;>exact fD
 | fin s=>exact fV 0e0
 | Uj s b=>exact fD
 | iff s b o=>exact fD
def Lo(S:Pu)(m:Stm):Mq 1 (one S m).2:=by
 unfold one;split
 ·exact⟨fD,by simp⟩
 ·exact Ht S m
theorem pK:∀(n:Nat) (S:Pu),Mq (n+1) (eB n S).2
 | 0,S=>by
  cases e:bL S.bB.stk with
  | none=>rw[eL e];exact⟨fV 0e0,by simp[Pu.ends]⟩
  | some m=>rw[jD e];exact⟨fV (by simp only[Β1];exact⟨dG _,by simp⟩),by simp[Pu.oS]⟩
 | n+1,S=>by
  cases e:bL S.bB.stk with
  | none=>rw[eL e];exact⟨fV 0e0,by simp[Pu.ends]⟩
  | some m =>
   have h1:=Lo S.bB m;cases z:(one S.bB m).1.sl.isN with
   | true =>
    rw[nO e z];have h2:=pK n (one S.bB m).1;exact⟨Fn h1.1 h2.1,by simp only[Ν];have:=h1.2;have:=h2.2;omega⟩
   | false=>rw[jC e z];exact⟨h1.1,by have:=h1.2;omega⟩
def CH(S:Pu)(w:Wo):Mq 301 (S.wake w).2:=by
 unfold Pu.wake;split
 ·exact pK 300 _
 ·exact pK 300 _
 ·exact⟨fD,by simp⟩
def xQ(S:Pu)(x:Hap):Mq 301 (S.take x).2:=by
 have nl:Mq 301 []:=⟨fD,by simp⟩;unfold Pu.take;split
 ·exact nl
 cases x with
 | UE m w=>exact pK 300 _
 | don m i w =>
  show Mq 301 ((S.at' m).fB i w).2;unfold Pu.fB;split
  ·split
   ·exact CH _ _
   ·exact nl
  ·exact nl
 | ltr m k w =>
  show Mq 301 ((S.at' m).eW k w).2;unfold Pu.eW;split
  ·split
   ·exact CH _ _
   ·exact nl
  ·exact nl
def Fw.Mn{R:Rn}{Um:List Addr}{G0:Hp}(F:Fw R as Um G H')(k:Kp [] G0 G)(h:∀ a,a∈R.cells\/a∈as->G0 a=none):Kp [] G0 H':=fun b o e _=>F.kp b o (k.at e) (fun z=>by rw[h b (.inl z)] at e;cases e) (fun z=>by rw[h b (.inr z)] at e;cases e)
def Aj(h:∀ y∈ys,y∈ns.map V.int):∃ ms:List Int,ys=ms.map V.int/\ms.length=ys.length:=by
 induction ys with
 | nil=>exact⟨[],rfl,rfl⟩
 | cons y r ih =>
  obtain⟨ms,e,l⟩:=ih fun z hz=>h z (by simp[hz]);obtain⟨n,_,rfl⟩:=Α9.mp (h y (by simp));exact⟨n::ms,by rw[e];rfl,by simp[l]⟩
end
section
variable{C:Cl}{md:Addr}{G0 G':Hp}{R:Rn}{sl Vt:V}{A':Fa}{p':Nat}{S' T T':Pu}
end
mutual
example:=[]
structure Pu13(b:List Stm)(hs:List Hap)(S:Pu)(i:Nat):Prop where
 ft:Uc true S (302 * i)
 hn:S.sl.isN=false
 sd:Std S
 nm:fK (vQ b) S
 lt:gP (Ih hs) S
theorem Pu13.Us(P:Pu13 b hs S i)(hi:i<=63)(hb:bZ b<=62)(hl:hs.length<=63):S.pend.length<=1000000/\S.nm.length < 64/\S.lt.length < 64/\S.ans.length<=1000000/\∀ k ws,aT S.lt k=some ws->ws.length<=1000000:=by
 have a1:=P.ft.pd;have a2:=P.ft.an;have a3:=P.nm.len;have a4:=mL b;have a5:=P.lt.len;have a6:=Fv hs;exact⟨by omega,by omega,by omega,by omega,fun k ws h=>by have:=(P.ft.lw k ws h).1;omega⟩
theorem Pu13.take(P:Pu13 b hs S i){x:Hap}(hx:x∈hs)(hf:(0<=x.m/\x.m<=1000000000000)/\dX x.w)(hi:i<=63)(hp:∀ j∈S.pend,0<=j/\j < (S.made:Int)):Pu13 b hs (S.take x).1 (i+1) :=
 ⟨by
  rw[show 302 * (i+1)=302 * i+302 by omega];exact P.ft.E1 x hf.1 hf.2 (fun j hj=>fO (by have:=(hp j hj).1;omega) (by have:=(hp j hj).2;have:=P.ft.md;omega)) (by omega),CC P.hn x,Cv P.sd P.hn x,P.nm.take x,P.lt.take x (Fx hx)⟩
def dU.put{p lo:Addr}(h:dU G p lo S)(e:G l=some (.lst xs))(n:l≠lo):dU (TH G l (.lst ys)) p lo S :=
 h.keep (aC.cQ e) fun o eo=>by rw[aD (Ne.symm n)];exact eo
def sW(H:Hp)(L:List Addr)(v:V)(z:Pu×Cmds):Prop:=∃(q lc p lo:Addr) (us:List V),v=.ref q/\(lc∈L/\lo∈L)/\H q=some (.tup [.ref lc,.ref p])/\H lc=some (.lst us)/\gN H us z.2/\dU H p lo z.1
def sW.keep{L L':List Addr}(h:sW H L v z)(t:aC H H')(k:∀ a∈L,∀ o,H a=some o->H' a=some o)(s:∀ a∈L,a∈L'):sW H' L' v z:=by
 obtain⟨q,lc,p,lo,us,e,⟨m1,m2⟩,e1,e2,e3,e4⟩:=h;exact⟨q,lc,p,lo,us,e,⟨s _ m1,s _ m2⟩,t _ _ e1,k _ m1 _ e2,e3.kt t,e4.keep t fun o=>k _ m2 o⟩
def pB(H:Hp)(L:List Addr)(vs:List V)(b:List Stm)(hs:List Hap):Prop:=∀(k:Nat) (v:V),vs[k]?=some v->∃ x,hs[k]?=some x/\sW H L v ((takes (dM b) (hs.take k)).1.take x)
def pB.keep{L L':List Addr}(h:pB H L vs b hs)(t:aC H H')(k:∀ a∈L,∀ o,H a=some o->H' a=some o)(s:∀ a∈L,a∈L'):pB H' L' vs b hs:=fun i v e=>let ⟨x,ex,h⟩:=h i v e;⟨x,ex,h.keep t k s⟩
theorem pB.snoc{L:List Addr}{x:Hap}(h:pB H L vs b hs)(ex:hs[vs.length]?=some x)(a:sW H L v ((takes (dM b) (hs.take vs.length)).1.take x)):pB H L (vs++[v]) b hs:=fun i u e=>by
 by_cases hi:i < vs.length
 ·exact h i u (by rwa [Β2 hi] at e)
 ·rw[Β8 (by omega)] at e;cases hj:i - vs.length with
  | zero =>
   rw[hj] at e;simp only[Ξ,Ο] at e;subst e;rw[show i=vs.length by omega];exact⟨x,ex,a⟩
  | succ n=>rw[hj] at e;simp at e
structure A18(C:Cl)(b:List Stm)(hs:List Hap)(H G:Hp)(R:Rn)(st:Addr)(as:List Addr)(sl:V)(S:Pu)(vs:List V)(L:List Addr):Prop where
 ra:aX C G R as sl S
 es:G st=some (.lst vs)
 al:pB G L vs b hs
 aL:∀ a∈st::L,(a∉R.cells/\a∉as)/\H a=none/\∃ o,G a=some o
 nL:st∉L
 kb:Kp [] H G
 nb:∀ a,a∈R.cells\/a∈as->H a=none
end
section
mutual
example:=[(fun _ h=>h),(by simp),.lst (vs++[v]),(by simp[ha]),TH G c (.lst ws)]
variable{C:Cl}{G':Hp}{R:Rn}{st c:Addr}{L L':List Addr}{sl Vt:V}{S':Pu}{ws:List V}
def A18.kp(J:A18 C b hs H G R st as sl S vs L)(k:Kp [] G G'):A18 C b hs H G' R st as sl S vs L :=
 ⟨J.ra.kp k,k.at J.es,J.al.keep (aC.nil k) (fun _ _ _ e=>k.at e) 0e0,fun a ha=>let ⟨x,y,o,e⟩:=J.aL a ha;⟨x,y,o,k.at e⟩,J.nL,J.kb.trans k,J.nb⟩
def A18.ne(J:A18 C b hs H G R st as sl S vs L)(h:G c=none):∀ a∈st::L,a≠c:=fun a ha z=>by
 obtain⟨_,_,o,e⟩:=J.aL a ha;rw[z,h] at e;cases e
def A18.take(J:A18 C b hs H G R st as sl S vs L)(W:Fw R as UY G G')(A:aX C G' R UY Vt S'):A18 C b hs H G' R st UY Vt S' vs L/\aC G G':=by
 have T:=J.ra.tkp W;refine⟨⟨A,W.kp _ _ J.es (J.aL st 1e0).1.1 (J.aL st 1e0).1.2,J.al.keep T (fun a ha o e=>W.kp _ _ e (J.aL a 3e0).1.1 (J.aL a 3e0).1.2) 0e0,fun a ha=>?_,J.nL,W.Mn J.kb J.nb,fun a h=>?_⟩,T⟩
 ·obtain⟨⟨n1,n2⟩,n3,o,eo⟩:=J.aL a ha;refine⟨⟨n1,fun z=>?_⟩,n3,W.dom a o eo⟩;rcases W.new a z with w|w
  ·exact n2 w
  ·rw[eo] at w;cases w
 ·rcases h with h|h
  ·exact J.nb a (.inl h)
  ·rcases W.new a h with w|w
   ·exact J.nb a (.inr w)
   ·exact J.kb.bR w
def A18.app(J:A18 C b hs H G R st as sl S vs L){x:Hap}(ex:hs[vs.length]?=some x)(hv:sW G L' v ((takes (dM b) (hs.take vs.length)).1.take x))(sub:∀ a∈L,a∈L')(nw:∀ a∈L',a∈L\/(a∉R.cells/\a∉as)/\H a=none/\(∃ o,G a=some o)/\a≠st):A18 C b hs H (TH G st 2e0) R st as sl S (vs++[v]) L':=by
 have T:aC G (TH G st 2e0):=aC.cQ J.es;have Z4:st∉L':=fun z=>by
  rcases nw st z with w|w
  ·exact J.nL w
  ·exact w.2.2.2 rfl
 have kL:∀ a∈L',∀ o,G a=some o->TH G st 2e0 a=some o:=fun a ha o e=>by rw[aD (show a≠st from fun z=>Z4 (z▸ha)),e]
 obtain⟨⟨n1,n2⟩,n3,_⟩:=J.aL st 1e0;refine⟨J.ra.other J.es n1 n2,aA,(J.al.keep T (fun a ha=>kL a (sub a ha)) sub).snoc ex (hv.keep T kL 0e0),fun a ha=>?_,Z4,fun a o e _=>?_,J.nb⟩
 ·rcases Α.mp ha with rfl|ha
  ·exact⟨⟨n1,n2⟩,n3,_,aA⟩
  ·rcases nw a ha with w|⟨w1,w2,⟨o,w3⟩,_⟩
   ·obtain⟨w1,w2,o,w3⟩:=J.aL a (by simp[w]);exact⟨w1,w2,o,kL a ha o w3⟩
   ·exact⟨w1,w2,o,kL a ha o w3⟩
 ·rw[aD (fun z=>by rw[z,n3] at e;cases e)];exact J.kb.at e
def A18.other(J:A18 C b hs H G R st as sl S vs L)(e:G c=some (.lst us))(n1:c∉R.cells)(n2:c∉as)(n3:∀ a∈st::L,a≠c)(n4:H c=none):A18 C b hs H 4e0 R st as sl S vs L:=by
 have T:aC G 4e0:=aC.cQ e;have kL:∀ a∈st::L,∀ o,G a=some o->TH G c (.lst ws) a=some o:=fun a ha o eo=>by rw[aD (n3 a ha),eo]
 refine⟨J.ra.other e n1 n2,kL st 1e0 _ J.es,J.al.keep T (fun a ha=>kL a 3e0) 0e0,fun a ha=>let ⟨x,y,o,z⟩:=J.aL a ha;⟨x,y,o,kL a ha o z⟩,J.nL,fun a o eo _=>?_,J.nb⟩;rw[aD (fun z=>by rw[z,n4] at eo;cases eo)];exact J.kb.at eo
end
end
mutual
example:=[hs.take (c i),dM (bs i)]
inductive EG(C:Cl)(vs:List V)(H:Hp)(Q:VK)(E:XK):Prop
 | mk (bp hl:Addr) (us hv:List V) (b:List Stm) (hs:List Hap) (_:vs=[.ref bp,.ref hl]) (_:H bp=some (.tup us)) (_:bV H us b) (_:Af true b) (_:oE b<=20) (_:bZ b<=62) (_:H hl=some (.lst hv)) (_:fL H hv hs) (_:(∀ h∈hs,(0<=h.m/\h.m<=1000000000000)/\dX h.w)) (_:hs.length<=63) (_:∀(st:Addr) (vs L:List _) (H':Hp),H' st=some (.lst vs)->vs.length=hs.length->pB H' L vs b hs->(∀ a∈st::L,H a=none)->Kp [] H H'->Q (.ref st) H'):EG C vs H Q E
def aX.Se{C:Cl}{R R':Rn}{Um:List Addr}{sl Uk:V}{S':Pu}(A:aX C H R as sl S)(B:aX C H R' Um Uk S'):R'.wk∉R.cells/\R'.wk∉as:=by
 obtain⟨kvs,e,L⟩:=A.lt;obtain⟨vs,el,_⟩:=A.wk.bl;have w:=B.wk.ins;refine⟨fun h=>?_,fun h=>?_⟩
 ·simp only[Rn.cells,Α,Δ,Ψ] at h;rcases h with h|h|h|h|h|h|h|h<;>rw[h] at w
  ·rw[A.ins] at w;simp at w
  ·rw[el] at w;cases w
  ·rw[A.wk.nu] at w;cases w
  ·rw[A.nm] at w;cases w
  ·rw[A.tk.ins] at w;simp at w
  ·rw[A.tk.hp] at w;cases w
  ·rw[A.tk.ha] at w;cases w
  ·rw[e] at w;cases w
 ·obtain⟨xs,ex⟩:=L.ex _ h;rw[ex] at w;cases w
def GC{K:q0B}{b lo lo':Addr}(h:dU H a lo S)(g:dU H b lo' S):r9 K H (n+5) (.ref a) (.ref b) true:=by
 by_cases e:a=b
 ·subst e;exact .same
 ·exact .refs e (JB h g)
def sW.rc{K:q0B}{L:List Addr}{q' qq c p lo:Addr}{uc:List V}(h:sW H L (.ref q') z)(eq:H qq=some (.tup [.ref c,.ref p]))(ec:H c=some (.lst uc))(hC:gN H uc z.2)(Ud:dU H p lo z.1)(f:oG z.2):qP K H (n+6) qq q' true:=by
 obtain⟨q,lc,p',lo',us,e,_,e1,e2,e3,e4⟩:=h;cases e;exact jS.rcT (n:=n+5) (.cons (jS.lst (n:=n+4) (Nf (n:=n+3) hC e3 f) ec e2) (.cons (GC Ud e4) .nil)) eq e1
def eR{α:Type}(f:Nat->α)(i:Nat)(v:α):Nat->α:=fun j=>if j=i then v else f j
def bM{α:Type}{f:Nat->α}{v:α}:eR f i v i=v:=if_pos rfl
def cD{α:Type}{f:Nat->α}{j:Nat}{v:α}(h:j≠i):eR f i v j=f j:=if_neg h
structure Vw(C:Cl)(n:Nat)(bs:Nat->List Stm)(hs:List Hap)(G0 G:Hp)(R:Nat->Rn)(as:Nat->List Addr)(sl:Nat->V)(c:Nat->Nat):Prop where
 ra:∀ i,i < n->aX C G (R i) (as i) (sl i) (takes 1e0 0e0).1
 pu:∀ i,i < n->Pu13 (bs i) hs (takes 1e0 0e0).1 (c i)
 sep:∀ i j,i < n->j < n->i≠j->∀ x,x∈(R i).cells\/x∈as i->x∉(R j).cells/\x∉as j
 kb:Kp [] G0 G
 nb:∀ i,i < n->∀ x,x∈(R i).cells\/x∈as i->G0 x=none
def Off(n:Nat)(R:Nat->Rn)(as:Nat->List Addr)(a:Addr):Prop:=∀ i,i < n->a∉(R i).cells/\a∉as i
end
section
mutual
example:=[(by omega),dM (bs i),(hx.elim id (by simp)),hs.take (c i),eR as i UY,dM (bs n)]
variable{C:Cl}{bs:Nat->List Stm}{G0 G':Hp}{R:Nat->Rn}{as:Nat->List Addr}{sl:Nat->V}{c:Nat->Nat}
def Vw.kp(F:Vw C n bs hs G0 G R as sl c)(k:Kp [] G G'):Vw C n bs hs G0 G' R as sl c:=⟨fun i hi=>(F.ra i hi).kp k,F.pu,F.sep,F.kb.trans k,F.nb⟩
def Vw.off(F:Vw C n bs hs G0 G R as sl c)(h:G a=none):Off n R as a:=fun i hi=>(F.ra i hi).eE h
theorem Vw.more(F:Vw C n bs hs G0 G R as sl c){Q:Rn}{s:V}(A:aX C G' Q [] s 5e0)(k:Kp [] G G')(f:∀ a∈Q.cells,G a=none)(P:Pu13 (bs n) hs 5e0 0):Vw C (n+1) bs hs G0 G' (eR R n Q) (eR as n []) (eR sl n s) (eR c n 0):=by
 have off:∀ i,i < n->∀ x∈Q.cells,x∉(R i).cells/\x∉as i:=fun i hi x hx=>F.off (f x hx) i hi;refine⟨fun i hi=>?_,fun i hi=>?_,fun i j hi hj hij x hx=>?_,F.kb.trans k,fun i hi x hx=>?_⟩
 ·by_cases e:i=n
  ·rw[e,bM,bM,bM,bM];exact A
  ·rw[cD e,cD e,cD e,cD e];exact(F.ra i 0e0).kp k
 ·by_cases e:i=n
  ·rw[e,bM];exact P
  ·rw[cD e];exact F.pu i 0e0
 ·by_cases e:i=n
  ·rw[e,bM,bM] at hx;have hjn:j≠n:=by omega
   rw[cD hjn,cD hjn];exact off j 0e0 x 2e0
  ·rw[cD e,cD e] at hx;by_cases e2:j=n
   ·rw[e2,bM,bM];exact⟨fun z=>hx.elim (off i 0e0 x z).1 (off i 0e0 x z).2,by simp⟩
   ·rw[cD e2,cD e2];exact F.sep i j 0e0 0e0 hij x hx
 ·by_cases e:i=n
  ·rw[e,bM,bM] at hx;exact F.kb.bR (f x 2e0)
  ·rw[cD e,cD e] at hx;exact F.nb i 0e0 x hx
theorem Vw.step(F:Vw C n bs hs G0 G R as sl c)(hi:i < n){x:Hap}(ex:hs[c i]?=some x)(hf:(0<=x.m/\x.m<=1000000000000)/\dX x.w)(Zr:c i<=63){s2:V}(W:Fw (R i) (as i) UY G G')(A:aX C G' (R i) UY s2 ((takes 1e0 3e0).1.take x).1):Vw C n bs hs G0 G' R 4e0 (eR sl i s2) (eR c i (c i+1))/\aC G G'/\∀ a o,Off n R as a->G a=some o->G' a=some o/\Off n R 4e0 a:=by
 have eT:(takes 1e0 (hs.take (c i+1))).1=((takes 1e0 3e0).1.take x).1:=by rw[Α8,ex,Α2,lP]
 have T:=(F.ra i hi).tkp W;refine⟨⟨fun j hj=>?_,fun j hj=>?_,fun j k hj hk hjk y hy=>?_,W.Mn F.kb (F.nb i hi),fun j hj y hy=>?_⟩,T,fun a o ha e=>⟨W.kp a o e (ha i hi).1 (ha i hi).2,fun j hj=>?_⟩⟩
 ·by_cases e:j=i
  ·rw[e,bM,bM,bM,eT];exact A
  ·rw[cD e,cD e,cD e];refine(F.ra j hj).keep (fun b o eo hb=>?_) T;rcases hb with rfl|hb
   ·have:=(F.ra i hi).Se (F.ra j hj);exact W.kp _ o eo this.1 this.2
   ·have:=F.sep j i hj hi e b hb;exact W.kp b o eo this.1 this.2
 ·by_cases e:j=i
  ·rw[e,bM,eT];exact(F.pu i hi).take (Υ ex) hf Zr (fun j hj=>(F.ra i hi).tk.lt j hj)
  ·rw[cD e];exact F.pu j hj
 ·by_cases e:j=i
  ·have ek:k≠i:=by omega
   rw[e,bM] at hy;rw[cD ek];rcases hy with hy|hy
   ·exact F.sep i k hi hk 0e0 y (.inl hy)
   ·rcases W.new y hy with w|w
    ·exact F.sep i k hi hk 0e0 y (.inr w)
    ·exact(F.ra k hk).eE w
  ·rw[cD e] at hy;have old:=F.sep j k hj hk hjk y hy;by_cases e2:k=i
   ·subst e2;rw[bM];refine⟨old.1,fun z=>?_⟩;rcases W.new y z with w|w
    ·exact old.2 w
    ·have:=(F.ra j hj).eE w;exact hy.elim this.1 this.2
   ·rw[cD e2];exact old
 ·by_cases e:j=i
  ·rw[e,bM] at hy;rcases hy with hy|hy
   ·exact F.nb i hi y (.inl hy)
   ·rcases W.new y hy with w|w
    ·exact F.nb i hi y (.inr w)
    ·exact F.kb.bR w
  ·rw[cD e] at hy;exact F.nb j hj y hy
 ·by_cases e2:j=i
  ·rw[e2,bM];refine⟨(ha i hi).1,fun z=>?_⟩;rcases W.new a z with w|w
   ·exact(ha i hi).2 w
   ·rw[e] at w;cases w
  ·rw[cD e2];exact ha j hj
end
end
structure We(C:Cl)(bs:Nat->List Stm)(hs:List Hap)(G0 G:Hp)(R:Nat->Rn)(as:Nat->List Addr)(sl:Nat->V)(c:Nat->Nat)(rn:Addr):Prop where
 f:Vw C 3 bs hs G0 G R as sl c
 o:Off 3 R as rn
 e:G rn=some (.lst [.ref (R 0).x,.ref (R 1).x,.ref (R 2).x])
section
variable{C:Cl}{bs:Nat->List Stm}{G0 G' G2:Hp}{R:Nat->Rn}{as:Nat->List Addr}{sl:Nat->V}{c:Nat->Nat}{rn:Addr}
def We.step(L:We C bs hs G0 G R as sl c rn)(hi:i < 3){x:Hap}(ex:hs[c i]?=some x)(hf:(0<=x.m/\x.m<=1000000000000)/\dX x.w)(Zr:c i<=63){s2:V}(W:Fw (R i) (as i) UY G G')(A:aX C G' (R i) UY s2 ((takes (dM (bs i)) (hs.take (c i))).1.take x).1):We C bs hs G0 G' R (eR as i UY) (eR sl i s2) (eR c i (c i+1)) rn/\Pu13 (bs i) hs ((takes (dM (bs i)) (hs.take (c i))).1.take x).1 (c i+1):=by
 obtain⟨F,_,kf⟩:=L.f.step hi ex hf Zr W A;obtain⟨a,b⟩:=kf rn _ L.o L.e;exact⟨⟨F,b,a⟩,(L.f.pu i hi).take (Υ ex) hf Zr (fun z hz=>(L.f.ra i hi).tk.lt z hz)⟩
def We.fin{K:q0B}(L:We C bs hs G0 G R as sl c rn){co p lo qq q':Addr}{uc:List V}{LL:List Addr}{z:Pu×Cmds}(ec:G co=some (.lst uc))(hC:gN G uc z.2)(k:Kp [] G G2)(Ud:dU G2 p lo z.1)(hq:G2 qq=none)(al:sW G0 LL (.ref q') z)(f:oG z.2):We C bs hs G0 (TH G2 qq (.tup [.ref co,.ref p])) R as sl c rn/\qP K (TH G2 qq (.tup [.ref co,.ref p])) 6 qq q' true:=by
 have n:=q0D (o:=.tup [.ref co,.ref p]) hq;have k3:=k.trans n;have F:=L.f.kp k3;exact⟨⟨F,L.o,k3.at L.e⟩,(al.keep (aC.nil F.kb) (fun _ _ _ e=>F.kb.at e) (fun _ h=>h)).rc (n:=0) aA (k3.at ec) (hC.kt (aC.nil k3)) (Ud.kp n) f⟩
end
local macro_rules | `(tactic| wp_walk) => `(tactic| wp_walk using true_and)
local macro_rules | `(tactic| wp_walk using $ts,*) => do
  let us ← ts.getElems.mapM fun t => `(Lean.Parser.Tactic.simpLemma| $t:term)
  let vs <- ("Pb Rg B9 Pp LF LD S4 Su Sv Sw Sx Sy Sz SA SD Nc Na Nb QC PV Oe QB Ol Qg HK SS SJ SO SU Tu Nu Qo Hv SI Qk QH ND NF Of Nv Nn Qx Og PR SQ Qp SR Oh HE NO NM Kh NJ Qf Qz PU Qy Qu Qt Kq Kn Ko HF HG Km Qi Qj Nj Nm Nk Nt QG QF Nw Oc Ob QD SK NY Oa N8 PX PY PZ P4 J5 Kb Hx Hy NX NU NT SM Ki Ql Qm P8 P9 NW NV Qs Kg NH J8 J7 Kr Oy Qa NS SF SG SH Ks HJ Nx J6 Kd KL NG SN Qd Oi KI Ow Oq Ou HL Ov Ox Ot Ka Qn Qb Kl DY Qe Om Np HD Od HB Fh Oj Kv Oo Nz Ke HA Hz Kf Ny NK Qh Nr P6 HH Ku NB Qw Qv Qq Qr QA Kx Kk HI Qc Kz Kj KJ Ky Hw NI QE RX RY RZ R7 R8 R9 Sa Sb Tf MM RV Te RP RQ RS RT Td aA List.set_cons_zero List.set_cons_succ List.getElem?_cons_zero List.getElem?_cons_succ @L2.start @C5 @Ir @List.cons_append @List.nil_append @List.append_nil @List.replicate_succ @List.replicate_zero @List.length_cons @List.length_nil @Nat.reduceAdd @Nat.reduceSub @Nat.zero_add @Nat.add_zero @Nat.reduceLeDiff @Nat.reducePow @Nat.reduceLT @true_and @and_true @false_and @and_false @forall_const reduceIte @cK @String.reduceEq @Int.reduceToNat @Int.reducePow @Int.reduceNeg @Int.reduceSub @Int.reduceAdd @Int.reduceMul @Int.reduceLT @Int.reduceLE @Int.reduceEq @sizeLine @TC @Tc @decide_true @decide_false @Bool.not_true @Bool.not_false @Bool.false_eq_true".splitOn " ").toArray.mapM fun(n:String)=>do
    let p:=n.splitOn "@";let x:=Lean.mkIdent (p.getLastD "").toName
    if p.length=1 then `(Lean.Parser.Tactic.simpLemma| ↓ $x:term) else `(Lean.Parser.Tactic.simpLemma| $x:term)
  let ws:=us++vs
  `(tactic| try simp (config := { dsimp := false }) only [$ws,*])
noncomputable def EK(K:q0B):Sp:=fun vs H Q _=>∃(a:Addr) (ns:List Int),vs=[.ref a]/\fY K H a (ns.map V.int)/\ns.length<=63/\∀ H',Q (.bl true) H'
section
mutual
example:=[(by simp),(by omega),.lst [],pix aN pv1 aB,(by simp[OK6]),pdg pv0 aE,(by decide),6e0,aV bU,.inr "at",T.r 45,bE T,pcl 1e1 0e1 (pa2 pv0 aB),(by intro z;cases z),aC.nil N,i+1,(.inl (by simp[Rn.cells])),S.worth s,I++[x],dM b,.ref a,pv 0,fI (cB S.nm x w),S.pend.map V.int,aC.nil N4,pix aN pv0 aB,(bO S.pend ws).map V.int,F1.free hc,.inr k,.ref l2,.dK (aS lk 8e2 9e2),.ref p2,aS kvs 8e2 1e3,aC.nil K1,aM T.aR T.cU pv0,ptc aZ pv3 aE,ptc aZ pv2 aE,(fun _ _ h=>h),bG jK aB aB,pa1 pv1,.ref cl,.ref p,(by with_unfolding_all rfl),new++[pe],F1.trans (Fw.of N4),(z▸ha),pdg pv1 aE,pa1 pv2,pv 1,tail rfl _ Uk c us H' A' hc ec hC FF,later S.nw m,j9 t.aO R (sl) S.ar 0e5,aM T.aR T.dP pv0,ptc aZ pv5 aE,gD eF aB,.lst [wv w],.inl bD.1,.don m i w,A1.kp N4,.ref fl,.ref rl,.int kd,.inr "now",(aS Up 2e6 (.int (if m > S.nw then m else S.nw))),new++[pe],.lst (((as++4e6++Ul)++[pj]).map V.ref),(pmt pv0 T.aR (eD T) (T.r 42) (pa1 3e0)),some (S.made:Int),(by intro _ z;cases z),.lst (us++[.ref pt]),(by decide +kernel),Fw.of N4,ws.map wv,.lst 2e7,.ref A0.md,.ref dk,.UE m w,T.r 48,.int z,(.lst [.str "jump",.TK,.ref ph,.int ((as.length+new.length+bZ b'+bZ o'+2:Nat):Int)]),(.lst [.str "while",.ref a0,.ref ph,.int ((as.length+new.length+bZ b'+2:Nat):Int)]),(.lst [.str "if",.ref a0,.ref ph,.int ((as.length+new.length+bZ b'+2:Nat):Int)]),j≠i,((S.pend.filter fun j=>decide 2e8).map V.int),((k,b,n)::r),4e8,((cL 5e8).map V.int++[.int kx]),Kp.new (o:=.lst [.ref p3]) h4,(by simpa[Say.depth] using d1),.cons ((q0D h4).at aA) .nil,([]:List Wo).map wv,.lst 0e9,(.tup [.str "hear",.str k]),bA S.ans ws,new++[pe]++Ul++[pj],(fun _ _ _ e=>N.at e),aC.new hp,hv.kp 6e9,aM T.aR T.gJ pv0,.lst [.ref fa],.lst (hv++[v]),Kp.new hp,ptc aZ pv1 aB,(fun _ _=>rfl),aW (pa1 aE),Or.inl rfl,(p1:Int)+1,hs.take i,aC.nil N3,.ref sn,.ref rn,.ref p1,.lst ws,.TV x k,dC T 4,.int p,.dK [],(.lst [.TK,.ref f1,.TK]),(TH (TH H f1 2e0) fa 7e11),.lst ((cA ans ws).map V.int),pix aN pv1 (gD eF aB),.lst (vs++[.ref p]),.lst (ns.map V.str),aM T.c9 T.fE pv0,r.map wv,.lst 4e12,F3.free hc,.wait x ss,ns.take i,as++[p2],pa1 pv3,pa1 pv0,pa1 aB,iD rfl,aK pv2,.dK kC,.dK kB,.dK kA,.dK k9,.dK k8,(fun j hj=>by rw[show j=0 by simpa using hj];exact⟨_,rfl,rfl,.inl rfl⟩),(fF.free rfl rfl rfl rfl rfl 7e3 rfl 6e0 rfl 0e14),pa2 pv0 aB,(if ib=true then "if" else "while"),(.tup [.str 3e14,sv]),pcl (gR T) (T.r 46) 1e13,fI (cB S.nm x (bA S.ans ws)),TH (TH G2 md 6e11) nd 6e11,TH G3 op (.lst (us++[.ref p])),(U0.app (.cons e3 .nil)).kt t4,bF cP rfl T.kX fG 7e4,bF cP rfl T.kX fG 9e3,aM T.aR T.jG pv0,(.lst ((as++3e4).map V.ref)),(ppt pv0 aE (bG cS 5e0 aB)),(K3.trans (Kp.set 0e0)),pa2 aE aE,aV 6e15,(ws++[w]).map wv,.tup [.str "worn"],(by simp;try omega),M3.other US Xr WL,(by simpa using h),aM T.c9 T.iP pv0,aM T.bI T.gY pv0,aM T.aR T.pP pv0,ppt pv0 aE aE,i∈cA ans ws,(Α5.mp hj).1,WX.trans W',KG.trans N3,.inr "mode",.inr "code",S.worth s2,S.worth s1,F2.free hc,.ref A0.ld,.ref A0.cl,.ltr m k w,.ref op,.ref bp,.lst us,.drop s,T.r 54,T.r 0,vA j,(.ins t.aO dx [("walk",.ref wk),("sleep",.ref p),("arg",.TK),("now",.int 0),("names",.ref nm),("tickets",.ref tk)]),(.ins t.aO dx [("walk",.ref wk),("sleep",.ref p),("arg",.TK),("now",.int 0)]),as++4e6++Ul,(.ins t.aO dx [("walk",.ref wk),("sleep",.ref p),("arg",.TK)]),(.lst [.int ((p1+bZ b+2:Nat):Int),.int 6e10]),(fun a ha o e=>KE _ _ (fun z=>XZ.2 5e4) e),(M4.as ⟨rfl,rfl,rfl,rfl,rfl,rfl⟩),(.lst ((cL 4e8).map V.int)),.int (((p1+bZ b+2:Nat):Int):Int),(.ins t.aO dx [("walk",.ref wk)]),(K1.trans K2).trans (Kp.new hp),j9 t.aO R 1e4 S.ar S.nw,bN eJ rfl T.iB fA 7e4,aS Up 2e6 (.int m),(.tup [.str "wait",.ref l5]),(by simp[z]),(fun z=>n 1e20),(cL S.stk).map V.int,Fw.of N3,F1.trans 4e20,ds++[.ref pt],(by rw[ϔ,ea];rfl),aW (pa2 aE pv1),F1.free (dE h4),A0.cs.map V.ref,(z▸bD.2.2.2.1),.inr "letters",ptc j6 pv1 aB,ptc aZ pv0 aE,(by simp;omega),bO S.pend ws,.str S.sl.md,(by simp[hz]),K1.trans K2,i∈S.pend,(fun _=>rfl),aJ (aK zE),aJ (aK cN),KH b o e n,ws.take i,aC.nil NL,aC.nil K5,aC.nil K2,(z▸bD.1),Fw.of N2,A3.kp N4,.ref R.x,.inl rfl,ws++[w],aF e fm,Vh a ha,S.at' m,KG.at e,301 - i,.ref q',.int kk,us++Wc,nI rfl,jH T 6,T.r 67,T.r 32,.ref r,pgn 4,pgn 3,iJ aB,T.r 4,T.r 3,(fun _ _ h=>look1 rfl h),(fF.free rfl rfl rfl rfl rfl 3e25 rfl 6e0 rfl (fun j hj=>by rw[show j=2 by simpa using hj];exact⟨_,rfl,rfl,.inl rfl⟩)),(fun a ha=>by simp only[Α,Δ,Ψ] at ha;rcases ha with rfl|rfl|rfl;exact .inl rfl;exact .inr 3e23;exact .inr (.inr 3e23)),pix aN pv0 pv3,T.r 55,aQ (pcl IH 7e25 (pa3 (pix aN 6e25 aB) (bG kP pv4 (aW 2e13)) pv2)),(dW ⟨t.aO,t.aP,t.aG⟩ true (fun m=>∃ x y s,m=.order x y s\/m=.child x y s)),Kp.new h1,(((K1.trans K2).trans 0e26).trans (K3.trans K4)).trans 1e10,pcl IH 7e7 (pa2 pv0 (bG jL pv1 aB)),(dH S.ans ws).map V.int,.lst 3e26,(.ins t.aP wx [("blocks",.ref lb),("numbers",.ref ln)]),(fun z=>YZ (z▸ha)),(fun a ha _ e=>KS.at1 e 6e26),.inr "open",aS XO 8e26 (.ref o2),aS Uz 8e26 (.ref o2),6e26,(Fm.ofK KM fun b hb=>?_),((Fm.of N1).trans 2e27),(.lst [.str m.kw,.ref a0,.ref ph,.TK]),T.r 16,(aQ (pmt0 2e15 T.c9 (iI T) 5e27)),(by simp only[Γ,Ν,Ζ,ϕ];omega),Kp.new Yp,(Kp.new hle).trans 8e27,T.r 15,pmt0 pv0 T.c9 (gL T) 0e28,T.r 47,pcl (j5 T) 2e28 1e13,(by simp only[Say.depth];omega),.int ((p+1:Nat):Int),(by rw[bK,bX];simp[FC.cells]),(.lst [.ref ht,.ref Wy,.TK]),aS Uz (.inr "arg") (wv w),(.tup [.str "ended",wv w]),(l++[(n:Int)]).map V.int,TH H3 c (.lst 2e24),(fun _ _ _ e=>N1.at e),dY aE (pa3 aE aE aE),(TH G4 l5 (.tup 6e2)),F3.trans 4e20,(Fm.of N2).trans W',(fI (cB S.nm x 7e6)),(fI (cB S.nm x 7e1)),(by rw[et];exact O1),(by rw[et];exact F),(wI 6 (Bv hr 7e0)),g0 hC.ex (kW ee),(fun b o e hb=>?_),aM T.aR T.gX pv0,F3.free (dE h4),(z▸bD.2.2.2.2),ptc j6 pv3 aB,ptc aZ pv4 aB,ptc aZ pv2 aB,.int (cu:Int),(eQ).trans c3,(eQ).trans c1,(z▸bD.2.2.1),.dK (iC ans),M1.Z0 UN Xr,K6.trans K7,aC.nil N2,aC.nil KZ,aC.nil K4,Kp.new m2,Kp [] H G,A3.tkp F3,A2.tkp F2,(fun _=>0),NZ.at eh,A3.kp N3,A1.kp N3,pa1 pv4,fI S.nm,.ref pt,.ref p3,.lst xs,.lst ut,.lst un,.lst uc,some 2,aK pv3,T.r 68,T.r 63,T.r 58,T.r 53,T.r 44,T.r 40,T.r 36,T.r 10,FC×Fr,.ref l,.int n,.int j,.int i,0e14,3e14,(cX G A0.md A0.nd A0.od A0.dd Vo S/\G a=some (.tup [.str "wait",.str x,.ref pp])/\G p2=some (.lst 3e26)/\G p3=some (.lst 6e2)/\Kp [A0.md] G1 G/\aC G1 G),pix aN (pix aN pv0 4e5) (bG cS aB (bN gU rfl T.yI mB (pa1 (pcr nU (pix aN (pix aN pv0 4e5) aB) cN)))),(aJ (aK (aW (dY aE (pa3 5e14 (pix aN (aV 6e15) 2e1) (pcl 4e11 7e7 2e14)))))),(Fm.set (b:=A1.md) (o:=.dK (aS Uz 9e0 (.int (((p1+1:Nat):Int):Int)))) (.inl bD.1)),.int (((p1+1:Nat):Int):Int),(qA PySem.F.slot_list_pop PySem.F.type_list_pop Ar (pdg 5e0 3e0) 2e13),ns.map V.str,(qB T.y9 (lF T) (hr.mono 1e0) rfl T.Lj (T.r 28).bd .nil pass0 (pa1 pv1)),(.lst [.str "jump",.TK,.ref ph,.int ((as.length+new.length:Nat):Int)]),pa1 (pix aN pv3 pv7),pix aN pv5 aB,pmt 3e36 T.aR (lG T) 6e24 2e36,(dW ⟨t.aO,t.aP,t.aG⟩ true (fun m=>∃ s k r,m=.send s k r)),(fun C s H ex pn=>⟨lL (fJ kE 1e2 8e4 2e4) ,1e2 ⟩),(dW ⟨t.aO,t.aP,t.aG⟩ true (fun m=>∃ x ss,m=.wait x ss)),rT pv0 0e25 0e25 0e25,(dW ⟨t.aO,t.aP,t.aG⟩ true (fun m=>∃ x s,m=.set x s)),(dW ⟨t.aO,t.aP,t.aG⟩ true (fun m=>∃ x s,m=.Ub x s)),(dW ⟨t.aO,t.aP,t.aG⟩ true (fun m=>∃ x k,m=.TV x k)),(dW ⟨t.aO,t.aP,t.aG⟩ true (fun m=>∃ s,m=.drop s)),(aJ (aK (aW (pa3 aE 5e14 (pcl 4e11 7e7 2e14))))),(dW ⟨t.aO,t.aP,t.aG⟩ true (fun m=>∃ s,m=.fin s)),(ppt pv0 aE (bF 3e13 rfl T.A8 oV (pa2 5e0 pv4))),(pcl IH (T.r 1) (dY 5e2 (dY pv1 (pa3 pv2 pv3 pv4)))),(.tup [.str "timer",.int S.made,.int (uO S.nw 7e1)]),.dK (aS kvs (.inr "made") (.int ((S.made:Int)+1))),TH H ln (.lst ((l++[((n+1:Nat):Int)]).map V.int)),(pif 9e30 (aJ (aK (aW (pa2 aE 2e26))))),pix aN pv4 aB,pcl 4e24 3e18 (pa2 1e38 pv0),(aJ (aQ (pmt 2e15 T.c9 (pU T) (T.r 17) 2e13))),S.worth r,(.tup [.str "send",wv 7e1,.str k,wv 4e38]),(.tup [.str "order",.int S.made,.str y,wv 7e1]),(.tup [.str "child",.int S.made,.str y,wv 7e1]),(pY (v:=.int 1000000000) rfl T.mC ⟨_,rfl⟩),(aK (aW (pa2 aE (pcl 4e11 7e7 2e14)))),Fw.set (p:=l) (o:=.lst 4e12) (.inr Wj),(by rw[show a=p2 by simpa using ha];exact WH),aC.nil (((NL.trans K3).trans NP).trans Kt),pcl (j4 T) 5e24 (pa1 3e36),(fun a ha o e=>KE _ _ (fun z=>npn 5e4) e),(fun a ha _ e=>KS.at1 e (fun z=>nc5 5e4)),(pmt pv0 T.aR (lR T) (T.r 43) (pa1 3e0)),(pix aN (pix aN (pix aN 5e0 5e0) aB) aB),(fun a ha o e=>KE _ _ (fun z=>YA 5e4) e),aQ (pcl (BS T) (T.r 62) (pa2 pv0 pv2)),(.lst ((I++[x]).map fun x=>.ref x.1.fa)),(Fw.set (p:=l) (o:=.lst 8e15) (.inr Wj)),.tup ((pt++[(i:Int)]++[0]).map V.int),(fun b o e hb=>KM.at1 e (F1.far hb).1),(.lst [.ref Ra.x,.ref Rb.x,.ref Rc.x]),(bA S.ans ws=none/\bO S.pend ws≠[]),(M7.as ⟨rfl,rfl,rfl,rfl,rfl,rfl⟩),(aQ (pmt0 4e3 T.bI (jZ T) (T.r 11))),aK (pmt0 pv0 T.aR (vT T) (T.r 37)),(.lst [.str "jump",.TK,.ref ph,.TK]),(S.pend++[(S.made:Int)]).map V.int,(pcl (pW T) (T.r 57) (pa2 pv0 3e0)),(aJ (aQ (pcl (pV T) (T.r 51) 9e3))),(fun z=>by rw[z] at l0;simp at l0),(.tup [.str "ended",.str "worn"]),(Z=[some 0e4,some 9e5,v2,v3,v4]),(.lst [.str "wait",.str "hear"]),(dH S.ans ws).map V.int++[.TK],((Fm.ofK KF fun b hb=>?_).od Zo),pmt0 pv0 T.aR (jY T) (T.r 30),(pcl IH 3e18 (pa2 5e2 pv1)),(pcl (oM T) (T.r 52) (pa1 8e36)),j9 t.aO R (.ref p6) S.ar S.nw,((∀ a∈fl::dZ 8e1,H a=none)),(p1:Int)=((jF P0).length:Int),((as++3e4++Ul++[pj]).map V.ref),as.length+new.length+bZ b'+2,(AQ ⟨t.aO,t.aP,t.aG⟩ true),(.tup [.str "letter",.int m]),pix aN 1e38 pv7,(by rw[aD n1.symm];exact aA),(0<=x.m/\x.m<=1000000000000),(0<=h.m/\h.m<=1000000000000),(.tup [.str "begin",.int m]),.int ((p1+bZ b+2:Nat):Int),rV (pix aN pv2 pv6) aB xC,(ptc aZ (pix aN 2e5 aB) aE),j9 t.aO R (.TK) S.ar S.nw,(.tup [.str "drop",.int i]),(.tup [.str "done",.int m]),(TH H4 p2 (.tup [v,u,u2])),(S.lt++[(k,([]:List Wo))]),.lst (ws.map wv++[wv w]),(TH GW1a A1.md (.dK 0e27)),Int.emod_lt_of_pos _ m0,(AO ⟨t.aO,t.aP,t.aG⟩),(e9 (fJ kE 3e0 5e0 2e4)),(TH G5 A0.dd (.lst 6e20)),(TH G2a A0.md (.dK 3e6)),(TH G2a A0.md (.dK 9e26)),(KK.trans (N2.mono 0e0)),(A1.uV W2 (K2.mono 0e0)),(.tup [.str "end",wv w]),(.lst [.ref s0,.ref s1]),(TH G5 A0.nd (.dK 6e14)),(TH G2 A0.nd (.dK 2e2)),(TH G2 A0.md (.dK 3e6)),(.tup [.ref lc,.ref p]),(.tup [.ref co,.ref p]),(.lst (6e8++[.int nx])),.int ((p1+1:Nat):Int),.inr (.inr (.inr ha)),(fun h=>.inr (.inl h)),(fun a _ o h=>N2.at h),as.length+new.length,aC.nil (NL.trans Kt),List.cons_ne_nil _ _,.lst (vs++[.ref qq]),(fun _ _=>by wp_walk),(TH H1 od (.lst 3e8)),(.tup [sl,.ref lo,v]),(.dK (aS Up 9e0 5e28)),(Fm.of NQ).trans W',kp1T X0 (KZ.at eG),(fun _ h=>nomatch h),(fun _ H1=>Q .TK H1),(fI (cB S.nm n 7e6)),(by simp[Fa.mut,a5]),(by rw[e0];exact ok),(by rw[Xl];exact P0),(by rw[W'.nk];omega),(by rw[VB];exact ex),(.tup [.int i,wv w]),.tup (.str kd::xs),pix aN pv5 (pv 8),(by simpa using hm),(by simpa using YK),(by simp[Fa.mut,y]),(by rw[e0];exact W),(.tup [.TK,.int 0]),.int (S.made:Int),(wI 1 (Bv hr 7e0)),aM T.bI T.gW pv0,aM T.aR T.zA pv0,(IP 1 (Bv hr 7e0)),.int ((p:Int)+1),(by split<;>simp),DA Mh (iM 5) TI,A1.cs.map V.ref,z.2.b2.getD [],y.2.b2.getD [],(by simp[a1,a5]),(by rw[eG];simp),Str.ofString j,AD pv4 (mU aB),.inr "awaited",ws++[V.ref p],ptc mR pv3 cN,ptc j6 pv2 aB,pcr aZ pv2 aE,(by rw[hn];rfl),aC.nil L.f.kb,S1.bB.worth s,.int (p':Int),.cons YL .nil,(eQ).trans d3,(eQ).trans d1,(eQ).trans c2,rV pv0 aB xC,ms.map V.int,ZF n (Υ en),S.ans.take i,I'++[y]++[x],.int (i:Int),.iff s b' o',some j∈ws,pa2 pv0 pv4,(by simp[hb]),(aQ (tT 3e12)),(aJ (aK 8e0)),(aJ (aK 2e5)),(aJ (aK 5e2)),W2.trans W',TM.trans T4,N1.trans N2,K2.trans N2,F2.trans F4,F2.trans F3,F1.trans F3,A2.Bt T3 K4,.ltr m k0 w,pa2 pv3 aB,(fun _=>.TK),(fun _ h=>h),(by cases e),Or.inr rfl,MN rv R.da,F6.free hc,F4.free hc,300 - many,.lst [.TK],h.2.at el,(fun z=>?_),(fun _=>[]),(fun _=>Ra),aC.nil NR,aC.nil NQ,aC.nil N5,aC.nil K7,aC.new h2,V.ref R.x,Kp.new hc,Kp.new h9,Kp.new h6,Kp.new h5,Kp.new h4,Kp.new ZM,D6.new h6,D5.new h2,.str "on"]
variable{P:Program}{w:World}{K:q0B}(T:Tx P w base K mg t)
theorem vZ:Ok T 2e34 1 Jn:=by
 nomatch T.r 44
 ·obtain⟨z,k,rfl,_⟩:=h;rfl
 ·obtain⟨z,k,rfl,q⟩:=h
  nomatch (pss2 (pif (ptc Ms pv0 8e3) (aJ (aK (aV (pa3 (bG jL pv0 8e3) aB pv1))))) (aK (aV (pa3 pv0 aB pv1)))),0
  wp_walk;split
  ·exact fun r ZM=>q r _ ZM 6e56 ⟨_,_,_,aA,by omega,by omega⟩
  ·exact fun r ZM=>q r _ ZM 6e56 ⟨_,_,_,aA,by omega,by omega⟩
theorem bE:Ok T 0e1 1 EI:=by
 nomatch T.r 45
 ·obtain⟨r,m,n,rfl,_⟩:=h;rfl
 ·obtain⟨r,m,n,rfl,m0,m1,⟨c,f,s,hr0,s0,s1⟩,hn,q⟩:=h
  nomatch (aI (lJ (bG cS 5e2 aB) 8e51) (aI (pif (ptc aZ 5e2 aB) (pss3 (pst 2 (bG wH 5e2 pv1)) (lJ (bG wG 5e2 pv1) 8e51) 4e13)) (pss3 (pst 3 (bG wH (bG cS 5e2 (bG oY aB 5e2)) aB)) (pst 3 (bG wH (bG oY pv3 pv3) aB)) (aK (bG wH (bG wG (bG wH (bG oY pv3 (bG cS (bG cS pv3 aB) (bG oY aB 5e2))) aB) aB) pv1))))),0
  exists hr0,ix32
  split
  ·exact⟨m0,⟨m0,log2_lt m0 m1⟩,q _ _ (Int.emod_nonneg _ 1e0) 4e44 ⟨_,_,_,aA,by omega,by omega⟩ ((Kp.set 0e0).trans (Kp.set 0e0))⟩
  ·exact⟨En 7e0 7e0,Mo 7e0 7e0 _,Mo 7e0 7e0 _,⟨by decide,by decide⟩,m0,q _ _ (Int.emod_nonneg _ 1e0) 4e44 ⟨_,_,_,aA,by omega,by omega⟩ (Kp.set 0e0)⟩
theorem pV:Ok T (T.r 51) 1 Jm:=by
 nomatch T.r 51
 ·obtain⟨fl,I,x,y,i,s,rfl,_⟩:=h;rfl
 ·obtain⟨fl,I,x,y,i,s,rfl,F,hh,hl,q⟩:=h;have hu:=mH hr
  nomatch (pss2 (lJ (tT pv0) (IX rfl (fR (pgn 1) (fR (pgn 2) (fR 9e24 tV))))) (gE (ptc aZ 3e0 aE) (aJ (aQ (dD 4e35 (bG kP pv1 (aW (pa2 8e19 (bN eJ rfl T.iB fA (pa1 (OZ pv3 (mU 8e0)))))))))) (aJ (aQ (dD 4e35 (bG kP pv1 (aW (pa1 8e19)))))))),0
  have la:=Ld 8e1 y;have ld:=Fz 8e1 y;have ef:=F.e;obtain⟨P1,FY⟩:=F.pop;obtain⟨hv,Vu,e1,e2,e3,e4,e5⟩:=FY;rw[hh] at e2;obtain⟨ha,sv,rfl,eh,hS⟩:=e2;have K1:Kp (fl::x.1.cells) H (TH H fl 0e40):=Kp.set 0e0;left
  exists ef,la,ld
  refine⟨_,fY.of e1,rfl,?_⟩;generalize TH H fl 0e40=G1 at *;wp_walk;right;obtain⟨ux,ex⟩:=(P1.fr x 0e0).cu;obtain⟨hvx,usx,x1,_⟩:=P1.fr x 0e0;have ep:=P1.e;have l1:=Ek I x;have tl:∀(m:Stm) (p:Addr) (GP:Hp) (Kc:VK) (ys:List V),m=fH y.2 i s->GP p=some (.tup ys)->ys.length<=4->(∀ pt Gt,Gt pt=some (.tup ([.str (if i=true then "if" else "while"),sv]++ys))->Kp [] GP Gt->cJ Gt 0e33 m)->Kp [] G1 GP->(∀ pt Gt us,Gt x.1.cur=some 1e18->us.length < 16777216->Q .TK (TH Gt x.1.cur 9e6)->Kc 0e33 Gt)->uC (.ref ha) 1e4 GP Kc:=fun m p GP Kc ys em ep ly hm KP k=>by
   refine CD (KP.at eh) ep 5e21 fun pt Gt et Kt=>?_;subst em;have KT:=KP.trans Kt;obtain⟨us,b,c1,c2,c3,c4,c5⟩:=(P1.kp KT).app (hm pt Gt et Kt);have lu:=c2.len;have lx:=hl x 0e0;refine k _ _ _ c1 ?_ (q _ c5 (fun z o e n=>?_))
   ·rcases c3 with rfl|c3
    ·omega
    ·rw[c3] at lx;have:b.length<=1000:=lx.2;omega
   ·rw[aD (fun y=>n (by rw[y];exact ϑ _ c4))];exact KT.at (K1 z o e n)
  clear q P1 F la ld ef hl;cases i with
  | true =>
   replace eh:G1 ha=some (.tup [.str "if",sv]):=eh
   exists eh,ep,l1,x1,CV,ex,e3
   refine fun l hl=>?_;generalize hg:TH G1 l (.tup Vu)=G2;have NL:Kp [] G1 G2:=hg▸Kp.new hl;have el:G2 l=some (.tup Vu):=hg▸aA;clear hg;have ny:∀(q2 p:Addr) (Vv:List V) (G3:Hp) (Kc:VK),G3 q2=some (.tup Vv)->bV G3 Vv 0e50->Kp [] G2 G3->G3 p=none->(∀ pt Gt us,Gt x.1.cur=some 1e18->us.length < 16777216->Q .TK (TH Gt x.1.cur 9e6)->Kc 0e33 Gt)->uC (.ref ha) 1e4 (TH G3 p (.tup [.ref l,.ref q2])) Kc:=fun q2 p Vv G3 Kc z1 z2 K3 hp k=>by
    have NP:=q0D (o:=.tup [.ref l,.ref q2]) hp;refine tl _ p _ Kc [.ref l,.ref q2] rfl aA 0e0 (fun pt Gt et Kt=>?_) ((NL.trans K3).trans NP) k;have TT:=aC.nil (NP.trans Kt);exact .iff et (hS.kp 2e39) (TT _ _ (K3.at el)) (e4.kp 2e39) (TT _ _ z1) (z2.kp TT)
   clear tl;cases hy2:y.1.f2 with
   | none =>
    have hb:y.2.b2.getD []=[]:=by
     rw[hy2] at e5;cases h:y.2.b2 with
     | none=>rfl
     | some b=>rw[h] at e5;exact e5.elim
    exists rv
    exact fun le hle q2 Yp p hp=>ny q2 p [] _ _ aA (by rw[hb];exact .nil) 9e27 hp fun pt Gt us c1 c2 c3=>by rw[c1];exact⟨c2,c3⟩
   | some a2 =>
    rw[hy2] at e5;obtain⟨Vv,e6,e7⟩:∃ Vv,G1 a2=some (.lst Vv)/\bV G1 Vv 0e50:=by
     cases h:y.2.b2 with
     | none=>rw[h] at e5;exact e5.elim
     | some b=>rw[h] at e5;obtain⟨us,e6,e7⟩:=e5;exact⟨us,e6,e7⟩
    replace e6:=NL.at e6;replace e7:=e7.kp 6e22
    exists rv,e6
    split
    ·exact fun q2 Yp p hp=>ny q2 p Vv _ _ aA (e7.kp (aC.nil 8e27)) 8e27 hp fun pt Gt us c1 c2 c3=>by rw[c1];exact⟨c2,c3⟩
    ·next ht =>
     have hu:Vv=[]:=by cases Vv<;>simp at ht ⊢
     subst hu;exact fun le hle q2 Yp p hp=>ny q2 p [] _ _ aA (e7.kp (aC.nil 9e27)) 9e27 hp fun pt Gt us c1 c2 c3=>by rw[c1];exact⟨c2,c3⟩
  | false =>
   replace eh:G1 ha=some (.tup [.str "while",sv]):=eh
   exists eh,ep,l1,x1,CV,ex,e3
   refine fun l hl p hp=>?_;have NL:=(q0D (o:=.tup Vu) hl).trans (Kp.new (o:=.tup [.ref l]) hp);exact tl _ p _ _ [.ref l] rfl aA 0e0 (fun pt Gt et Kt=>.Uj et (hS.kp 5e46) (Kt.at ((q0D hp).at aA)) (e4.kp 5e46)) NL fun pt Gt us c1 c2 c3=>by rw[c1];exact⟨c2,c3⟩
theorem gR:Ok T (T.r 46) 2 EH:=by
 nomatch T.r 46
 ·obtain⟨r,n,rfl,_⟩:=h;rfl
 ·obtain⟨r,n,rfl,hR,hn,q⟩:=h
  nomatch (aJ (aK (pix aN (aV 3e29) 2e1))),0
  wp_walk;refine fun p hp=>⟨_,hR.new hp,by omega,fun g H1 a1 b1 R1 K1=>?_⟩
  exists made1 K1 hR hp
  refine iU a1 b1 fun v hv=>?_;have K:=(Kp.new (S:=[r]) hp).trans K1;simp only[Α,Δ,Ψ] at hv;rcases hv with rfl|rfl|rfl|rfl<;>exact q _ _ R1 K
theorem AR{d:Nat}(hn:3<=n)(IH:gO P w K mg base UR n (t.a 48) (t.d 48) ["deck","deep"] (AL d)):Ok T 7e7 (n+1) (AL (d+1)):=by
 nomatch T.r 48
 ·obtain⟨r,dp,n,rfl,_⟩:=h;rfl
 ·obtain⟨r,dp,n0,rfl,d1,d2,hR,hn0,q⟩:=h
  nomatch (aI (pst 2 2e1) (aI (pif 8e50 (aJ (aK (aW (pa2 aE 5e14))))) (aI (pif (PW.pt (Mw 8e50 (Ja 3e21))) (aJ (aK (pix aN (aV (dY (aW (pa2 aE 2e1)) (dY 4e10 (pa3 4e10 4e10 (aW (pa2 aE 4e5)))))) 2e1)))) (aI (pif 9e30 (aJ (aK (aW (pa2 aE (pix aN (aV (dY 8e3 (pa3 (gD eF 8e3) aB aB))) 2e1)))))) (aI 0e38 (pss3 0e38 (pst 3 2e26) (aK (aW (pa3 (pix aN (aV (dY aE 3e29)) 2e1) pv3 2e26))))))))),0
  left;wp_walk;have bp:=MS d;have be:bd (d+1)=2 * bd d+3:=rfl;refine⟨_,hR,by omega,fun g H1 a1 b1 R1 K1=>?_⟩;right;left;wp_walk;split
  ·refine⟨_,R1,by omega,fun x H2 R2 K2=>?_⟩;wp_walk;exact fun p hp=>q _ (.name x) _ (.name aA) trivial 8e8 ((R2.new hp).up 1e0) 6e19
  right;left;wp_walk;simp only[SV];split
  ·refine⟨_,R1,by omega,fun g2 H2 a2 b2 R2 K2=>?_⟩;wp_walk;refine fun p1 h1 p2 h2 p3 h3 p4 h4 p5 h5 p6 h6=>⟨_,(((((R2.new h1).new h2).new h3).new h4).new h5).new h6,by omega,fun g3 H3 a3 b3 R3 K3=>?_⟩;have q1:=(R2.none h1);have q2:=((R2.new (o:=.tup [.str "number",.int g2]) h1).none h2);have q3:=(((R2.new (o:=.tup [.str "number",.int g2]) h1).new (o:=.tup [.str "none"]) h2).none h3);have q4:=((((R2.new (o:=.tup [.str "number",.int g2]) h1).new (o:=.tup [.str "none"]) h2).new (o:=.tup [.str "arg"]) h3).none h4);have q5:=(((((R2.new (o:=.tup [.str "number",.int g2]) h1).new (o:=.tup [.str "none"]) h2).new (o:=.tup [.str "arg"]) h3).new (o:=.tup [.str "now"]) h4).none h5);have q6:=((((((R2.new (o:=.tup [.str "number",.int g2]) h1).new (o:=.tup [.str "none"]) h2).new (o:=.tup [.str "arg"]) h3).new (o:=.tup [.str "now"]) h4).new (o:=.tup [.str "number",.int (-7)]) h5).none h6);have N6:=q0D (o:=.lst [.ref p1,.ref p2,.ref p3,.ref p4,.ref p5]) h6;have N5:=(q0D (o:=.tup [.str "number",.int (-7)]) h5).trans N6;have N4:=(q0D (o:=.tup [.str "now"]) h4).trans N5;have N3:=(q0D (o:=.tup [.str "arg"]) h3).trans N4;have N2:=(q0D (o:=.tup [.str "none"]) h2).trans N3;have N1:=(q0D (o:=.tup [.str "number",.int g2]) h1).trans N2;have t1:=K3.at1 (N2.at aA) q1;have t2:=K3.at1 (N3.at aA) q2;have t3:=K3.at1 (N4.at aA) q3;have t4:=K3.at1 (N5.at aA) q4;have t5:=K3.at1 (N6.at aA) q5;have t6:=K3.at1 aA q6;have K:=((K1.trans K2).trans (N1.mono (T:=[r]) 0e0)).trans K3
   exists t6
   refine iU a3 b3 fun v hv=>?_;simp only[Α,Δ,Ψ] at hv;rcases hv with rfl|rfl|rfl|rfl|rfl
   ·exact q _ (.num g2) _ (.num t1) ⟨by omega,by omega⟩ 8e8 (R3.up 1e0) K
   ·exact q _ .TK _ (.TK t2) trivial 8e8 (R3.up 1e0) K
   ·exact q _ .arg _ (.arg t3) trivial 8e8 (R3.up 1e0) K
   ·exact q _ .now _ (.now t4) trivial 8e8 (R3.up 1e0) K
   ·exact q _ (.num (-7)) _ (.num t5) ⟨by decide,by decide⟩ 8e8 (R3.up 1e0) K
  rename_i hc
  right;left;wp_walk;split
  ·refine fun p hp=>⟨_,R1.new hp,by omega,fun g2 H2 a2 b2 R2 K2=>?_⟩
   exists made1 K2 R1 hp
   refine iU a2 b2 fun v hv=>?_;wp_walk;refine fun p2 h2=>?_;have K:=((K1.trans 1e10).trans K2).trans (Kp.new (o:=.tup [.str "number",v]) h2);simp only[Α,Δ,Ψ] at hv;rcases hv with rfl|rfl|rfl|rfl<;>exact q _ (.num _) _ (.num aA) ⟨by decide,by decide⟩ 8e8 ((R2.new h2).up 1e0) K
  right;left;wp_walk;split
  ·refine⟨r,dp - 1,_,rfl,by omega,by omega,R1,by omega,fun v s H2 hv ok ZC R2 K2=>?_⟩;wp_walk;exact fun p hp=>q _ (.ans s) _ (.ans aA 7e9) ok 4e28 ((R2.new hp).up 1e0) 6e19
  right;left;wp_walk;split
  ·refine⟨r,dp - 1,_,rfl,by omega,by omega,R1,by omega,fun v s H2 hv ok ZC R2 K2=>?_⟩;wp_walk;exact fun p hp=>q _ (.neg s) _ (.neg aA 7e9) ok 4e28 ((R2.new hp).up 1e0) 6e19
  right;left;wp_walk;refine⟨r,dp - 1,_,rfl,by omega,by omega,R1,by omega,fun u s1 H2 hv1 ok1 hd1 R2 K2=>?_⟩;right;wp_walk;refine fun p hp=>⟨_,R2.new hp,by omega,fun g3 H3 a3 b3 R3 K3=>?_⟩
  exists made1 K3 R2 hp
  refine iU a3 b3 fun v hv=>?_;wp_walk;refine⟨r,dp - 1,_,rfl,by omega,by omega,R3,by omega,fun u2 s2 H4 hv2 ok2 hd2 R4 K4 p2 h2=>?_⟩;have K:=(((K1.trans K2).trans 1e10).trans K3).trans (K4.trans (Kp.new (o:=.tup [v,u,u2]) h2));have T1:aC H2 0e44:=(((aC.new hp).trans ((R2.new hp).tk K3)).trans (R3.tk K4)).trans 9e55;have fin:∀ gg:Sg,v=.str gg.s->Q 1e3 0e44:=fun gg e=>by
   subst e;exact q _ (.two gg s1 s2) _ (.two aA (hv1.kp T1) (hv2.kp 9e55)) ⟨ok1,ok2⟩ 4e28 ((R4.new h2).up 1e0) K
  simp only[Α,Δ,Ψ] at hv;rcases hv with e|e|e|e|e
  ·exact fin .add e
  ·exact fin .sub e
  ·exact fin .mul e
  ·exact fin .lt e
  ·exact fin .eq e
theorem dC(T:Tx P w base K mg t):∀ d,gO P w K mg base UR (d+3) (t.a 48) (t.d 48) ["deck","deep"] (AL d):=by
 intro d
 induction d with
 | zero=>exact⟨fun _ _ _ _ x=>by (obtain⟨_,_,_,_,h,h',_⟩:=x;exact absurd h 1e0),fun _ _ _ _ _ _ _ _ _ _ _ _ _ x=>by (obtain⟨_,_,_,_,h,h',_⟩:=x;exact absurd h 1e0)⟩
 | succ d ih=>exact AR T 1e0 ih
theorem BU:Ok T (T.r 49) 9 Ck:=by
 nomatch T.r 49
 ·obtain⟨r,n,rfl,_⟩:=h;rfl
 ·obtain⟨r,n,rfl,hR,hn,q⟩:=h
  nomatch (aI (pst 1 2e1) (aI (pif 3e21 3e37) (aI (pif 3e21 5e35) (aI (pif 2e10 3e37) (pss3 (pif 2e10 5e35) (pif 2e10 (aJ (aK (aW (dY aE (pa3 (pcl 4e11 7e7 2e14) (pix aN 7e15 2e1) (pcl 4e11 7e7 2e14))))))) 9e38))))),0
  left;wp_walk;have b4:bd 4=93:=rfl;refine⟨_,hR,by omega,fun g H1 a1 b1 R1 K1=>?_⟩;right;left;wp_walk;split
  ·refine⟨_,R1,by omega,fun x H2 R2 K2=>?_⟩;wp_walk;refine⟨r,4,_,rfl,by decide,by decide,R2,by omega,fun v s H3 hv ok hd R3 K3 p hp=>?_⟩;exact q _ (.set x s) _ (.set aA 7e9) ⟨⟨ok,by omega⟩,rfl⟩ (((K1.trans K2).trans K3).trans 1e10)
  right;left;wp_walk;split
  ·refine⟨_,R1,by omega,fun x H2 R2 K2=>?_⟩;wp_walk;refine fun p1 h1=>⟨_,R2.new h1,by omega,fun g3 H3 a3 b3 R3 K3=>?_⟩
   exists made1 K3 R2 h1
   refine iU a3 b3 fun y hy=>?_;wp_walk;obtain⟨z,rfl⟩:∃ z:Str,y=.str z:=by simp only[Α,Δ,Ψ] at hy;rcases hy with rfl|rfl<;>exact⟨_,rfl⟩
   refine⟨r,3,_,rfl,by decide,by decide,R3,by omega,fun v s H4 hv ok hd R4 K4 p hp=>?_⟩;exact q _ (.order x z s) _ (.order aA 7e9) ⟨⟨ok,by omega⟩,rfl⟩ 1e26
  right;left;wp_walk;split
  ·refine⟨_,R1,by omega,fun x H2 R2 K2=>?_⟩;wp_walk;refine⟨r,3,_,rfl,by decide,by decide,R2,by omega,fun v s H3 hv ok hd R3 K3 p hp=>?_⟩;exact q _ (.Ub x s) _ (.Ub aA 7e9) ⟨⟨ok,by omega⟩,rfl⟩ (((K1.trans K2).trans K3).trans 1e10)
  right;left;wp_walk;split
  ·refine⟨_,R1,by omega,fun x H2 R2 K2=>?_⟩;wp_walk;refine fun p1 h1=>⟨_,R2.new h1,by omega,fun g3 H3 a3 b3 R3 K3=>?_⟩
   exists made1 K3 R2 h1
   refine iU a3 b3 fun y hy=>?_;wp_walk;obtain⟨z,rfl⟩:∃ z:Str,y=.str z:=by simp only[Α,Δ,Ψ] at hy;rcases hy with rfl|rfl<;>exact⟨_,rfl⟩
   refine⟨r,3,_,rfl,by decide,by decide,R3,by omega,fun v s H4 hv ok hd R4 K4 p hp=>?_⟩;exact q _ (.child x z s) _ (.child aA 7e9) ⟨⟨ok,by omega⟩,rfl⟩ 1e26
  right;left;wp_walk;split
  ·refine⟨r,2,_,rfl,by decide,by decide,R1,by omega,fun v s H2 hv ok hd R2 K2=>?_⟩;wp_walk;refine fun p1 h1=>⟨_,R2.new h1,by omega,fun g3 H3 a3 b3 R3 K3=>?_⟩
   exists made1 K3 R2 h1
   refine iU a3 b3 fun y hy=>?_;wp_walk;obtain⟨z,rfl⟩:∃ z:Str,y=.str z:=by simp only[Α,Δ,Ψ] at hy;rcases hy with rfl|rfl<;>exact⟨_,rfl⟩
   refine⟨r,3,_,rfl,by decide,by decide,R3,by omega,fun v2 s2 H4 hv2 ok2 hd2 R4 K4 p hp=>?_⟩;have T1:aC H2 (TH H4 p (.tup [.str "send",v,.str z,v2])):=(((aC.new h1).trans ((R2.new h1).tk K3)).trans (R3.tk K4)).trans 6e9;exact q _ (.send s z s2) _ (.send aA (hv.kp T1) (hv2.kp 6e9)) ⟨⟨⟨ok,by omega⟩,ok2,by omega⟩,rfl⟩ 1e26
  right;wp_walk;refine⟨r,2,_,rfl,by decide,by decide,R1,by omega,fun v s H2 hv ok hd R2 K2 p hp=>?_⟩;exact q _ 2e18 _ (.drop aA 7e9) ⟨⟨ok,by omega⟩,rfl⟩ 6e19
theorem Ay:Ok T (T.r 50) 12 Jx:=by
 nomatch T.r 50
 ·obtain⟨r,n,rfl,_⟩:=h;rfl
 ·obtain⟨r,n,rfl,hR,hn,q⟩:=h
  nomatch (aI (pst 1 2e1) (aI (pif 3e21 (pss2 (lK (i:=2) (fr:=[0]) (N:=["k","deck"]) rfl 7e3 1e14 (jE rfl T.nD (pa1 (bG cS aB 2e1))) (fun C s H ex pn=>⟨AH,(AA 4e11 (hr.mono 1e0) rfl (T.r 48).m (T.r 48).fn.kp (T.r 48).bd .nil pass0 (dY 8e4 (dY aB bU))) ⟩) sc rfl 5e10) (aK (aW (pa3 aE 5e14 8e19))))) (pss3 (pif 2e10 (aJ (aK (aW (pa3 aE 5e14 (pix aN 7e15 2e1)))))) (pif (PW.pt (fT 2e10 (e9 (ptc aZ 2e1 aB)))) (aJ 9e38)) (aK (pcl (BU T) (T.r 49) 1e13))))),0
  have bb:bd 4=93:=rfl;left;wp_walk;refine⟨_,hR,by omega,fun g G1 a1 b1 D1 K1=>?_⟩;wp_walk;right;left;refine cR fun RI TZ=>?_;wp_walk;split
  ·refine TZ _ _ ?_;clear TZ RI;left;wp_walk;refine⟨_,D1,by omega,fun gm G4 a4 b4 D4 K4=>⟨⟨by omega,by omega⟩,?_⟩⟩;obtain⟨Pv,Ua⟩:∃ Pv:Nat->List V->Hp->Prop,∀ i xs G,Pv i xs G = ∃ ss:List Say,gQ G xs ss/\ss.length=i/\i<=4/\(∀ s∈ss,s.sok)/\cH G r (n+2+93 * i)/\Kp [r] H G:=⟨_,fun _ _ _=>rfl⟩;refine Il (lo:=0) Pv ?_ ?_ ?_ ?_
   ·rw[Ua];exact⟨[],.nil,rfl,by omega,by simp,D4,K1.trans K4⟩
   ·intro i xs G h;rw[Ua] at h;obtain⟨ss,hS,lS,l3,_⟩:=h;have lv:=hS.OJ;omega
   ·intro i xs G hi h;rw[Ua] at h;obtain⟨ss,hS,lS,l3,hL,DG,KG⟩:=h
    exists bC,Β6
    refine⟨r,2,_,rfl,by decide,by decide,DG,by omega,fun v s G5 hv ok hd D5 K5=>?_⟩;show Pv 5e1 _ _;rw[Ua];refine⟨ss++[s],(hS.kp (DG.tk K5)).EF hv,by simp[lS],by omega,fun y hy=>?_,D5.up 1e0,KG.trans K5⟩;rcases Κ.mp hy with hy|hy
    ·exact hL y hy
    ·rw[show y=s by simpa using hy];exact⟨ok,by omega⟩
   intro xs G h l hl;rw[Ua] at h;obtain⟨ss,hS,lS,l3,hL,DG,KG⟩:=h;have nlr:=DG.none hl;have NL:=q0D (o:=.lst xs) hl;have el:TH G l 2e33 l=some 2e33:=aA;replace hS:=hS.kp 6e22;replace DG:=DG.kp NL;replace KG:=KG.trans (NL.mono (T:=[r]) 0e0);generalize TH G l 2e33=G8 at *;clear NL hl Ua Pv;right;wp_walk;refine⟨_,DG,by omega,fun x G9 D9 K9=>?_⟩;have el9:=K9.at1 el nlr
   exists el9
   refine fun p8 h8 p9 h9=>?_;have N:=(q0D (o:=.tup xs) h8).trans (Kp.new (o:=.tup [.str "wait",.str x,.ref p8]) h9);exact q _ 7e12 _ (.wait aA ((q0D h9).at aA) (hS.kp ((DG.tk K9).trans 4e1))) ⟨rfl,by omega,hL⟩ rfl ((KG.trans K9).trans (N.mono 0e0))
  clear TZ RI;right;left;wp_walk;split
  ·refine⟨_,D1,by omega,fun x G2 D2 K2=>?_⟩;wp_walk;refine fun p1 h1=>⟨_,D2.new h1,by omega,fun g3 G3 a3 b3 D3 K3=>?_⟩
   exists made1 K3 D2 h1
   refine iU a3 b3 fun y hy=>?_;obtain⟨z,rfl⟩:∃ z:Str,y=.str z:=by simp only[Α,Δ,Ψ] at hy;rcases hy with rfl|rfl<;>exact⟨_,rfl⟩
   wp_walk;intro p4 h4;exact q _ (.TV x z) _ (.TV aA) trivial rfl ((((K1.trans K2).trans 0e26).trans K3).trans 5e56)
  right;refine cG fun R4 XA=>?_;refine cR fun RI TZ=>?_
  suffices fin:(∀ n' G,cH G r n'->n'<=n+2->Kp [r] H G->RI [some 7e24,some (.int g),none] G)/\(∀ n' G,cH G r n'->n'<=n+2->Kp [r] H G->R4 [some 7e24,some (.int g),none] G) by
   wp_walk;split
   ·refine⟨_,D1,by omega,fun g2 G2 a2 b2 D2 K2=>?_⟩;split
    ·exact fin.1 _ _ D2 1e0 9e21
    ·exact fin.2 _ _ D2 1e0 9e21
   ·exact fin.2 _ _ D1 1e0 K1
  refine⟨fun n' G DG ln KG=>TZ _ _ ?_,fun n' G DG ln KG=>?_⟩
  ·clear TZ RI;wp_walk;refine⟨r,3,_,rfl,by decide,by decide,DG,by omega,fun v s G5 hv ok hd D5 K5=>?_⟩;wp_walk;intro p4 h4;exact q _ (.fin s) _ (.fin aA (hv.kp (aC.new h4))) ⟨ok,by omega⟩ rfl ((KG.trans K5).trans 5e56)
  ·clear TZ RI;refine XA _ _ ?_;clear XA;clear R4;wp_walk;refine⟨r,_,rfl,DG,by omega,fun v m G5 hm ⟨gm,Uy⟩ K5=>?_⟩;wp_walk;exact q _ m _ hm (KW Uy gm) (Q9 Uy) (KG.trans K5)
theorem oM:Ok T (T.r 52) 20 Jv:=by
 nomatch T.r 52
 ·obtain⟨cl,ms,rfl,_⟩:=h;rfl
 ·obtain⟨cl,ms,rfl,ec,lm,q⟩:=h
  nomatch (aI (pst 1 (aV (pa1 (aV (pa3 cN 8e0 cN))))) (pss3 (o9 Β7 rfl (j7 pv0) (pgn 2) (pss3 (pst 3 (pcl (vZ T) 2e34 (pa2 pv2 aB))) (pst 4 (pcl 1e1 0e1 1e54)) (gE (PW.pt (fT (ptc j6 pv4 aB) (e9 (ptc j6 1e15 aB)))) (aJ (aQ (dD pv1 (aV (pa3 (aW (pa2 (pix aN (aV 3e29) pv4) (pcl 4e11 7e7 1e54))) 8e0 cN))))) (aJ (gE (PW.pt (fT 8e30 (e9 (ptc Es 1e15 aB)))) 2e41 (aJ (gE (PW.pt (fT 8e30 (fT (ptc Es 1e15 aB) (fT (ptc aZ (pix aN (pix aN 0e12 aB) aB) aE) (e9 (ptc mR (pix aN 0e12 aB) cN)))))) (aJ (lJ 8e0 (rV 0e12 aB xC))) (aJ (aQ (dD (pix aN 0e12 (bG cS aB (bN gU rfl T.yI mB (pa1 (pcr nU (pix aN 0e12 aB) cN))))) (pcl (Ay T) (T.r 50) 0e13))))))))))) (qD Β7 (ptc Es 1e15 aB) 2e41) (aK (bN eJ rfl T.iB fA (pa1 (pix aN 3e0 aB)))))),0
  left;wp_walk;refine fun f1 h1 fa h2 fl h3=>?_;have n1:fa≠f1:=fun z=>by rw[z,aA] at h2;cases h2
  have n2:fl≠fa:=fun z=>by rw[z,aA] at h3;cases h3
  have n3:fl≠f1:=fun z=>by rw[z,aD n1.symm,aA] at h3;cases h3
  have e1:TH 8e11 fl 9e9 f1=some 2e0:=by rw[aD n3.symm,aD n1.symm,aA]
  have e2:TH 8e11 fl 9e9 fa=some 7e11:=by rw[aD n2.symm,aA]
  have e3:TH 8e11 fl 9e9 fl=some 9e9:=aA;have K1:Kp [] H (TH 8e11 fl 9e9):=((Kp.new h1).trans (Kp.new h2)).trans (Kp.new h3);have z2:H fa=none:=by rw[aD n1] at h2;exact h2
  have z3:H fl=none:=by rw[aD n2,aD n3] at h3;exact h3
  have F1:iK (TH 8e11 fl 9e9) fl ([]++[(⟨fa,f1,none⟩,⟨none,[],none⟩)]):=⟨e3,fun x hx=>by
   rw[show x=(⟨fa,f1,none⟩,⟨none,[],none⟩) by simpa using hx];exact⟨.TK,[],e2,rfl,e1,.nil,trivial⟩,by simp[dZ,FC.cells,n1,n2,n3]⟩
  have fr1:∀ a∈fl::dZ ([]++[((⟨fa,f1,none⟩:FC),(⟨none,[],none⟩:Fr))]),H a=none:=fun a ha=>by
   simp only[Α1,dZ,List.flatMap_cons,List.flatMap_nil,FC.cells,Option.toList_none,ϛ,Α,Δ,Ψ] at ha;rcases ha with rfl|rfl|rfl
   ·exact z3
   ·exact z2
   ·exact h1
  generalize TH 8e11 fl 9e9=G1 at *;clear e1 e2 e3 h2 h3;right;left;wp_walk;have ec1:=K1.at ec;refine⟨⟨_,fY.of ec1⟩,?_⟩;obtain⟨Pv,Ua⟩:∃ Pv:Nat->St->Hp->Prop,∀ i Z G,Pv i Z G=E5 fun(v2 v3 v4:Option V) (I:List 6e34) (x:FC×Fr)=>A7 5e41 (iK G fl 8e1) (GL 8e1) (AU 8e1<=2 * i+2) (I.length<=5) 3e42 1e32:=⟨_,fun _ _ _=>rfl⟩;refine Br (xs:=ms.map V.int) Pv ?_ ?_ ?_ ?_
  ·rw[Ua];exact⟨_,_,_,[],_,rfl,F1,(show GL [] from fun j x e=>by simp at e).snoc ⟨trivial,trivial,by simp[oE],by simp[oE],fun z=>absurd rfl z⟩,by simp[AU,bZ],by simp,fr1,K1⟩
  ·intro i Z G _ h;rw[Ua] at h;obtain⟨_,_,_,_,_,_,_,_,_,_,_,k⟩:=h;exact fY.of (k.at ec)
  ·intro i y Z G hi h;rw[Ua] at h;obtain⟨v2,v3,v4,I,x,rfl,F,gl,sz,ll,fr,KG⟩:=h;obtain⟨z,rfl⟩:=La hi;have hil:i < ms.length:=by have:=(Λ.mp hi).1;simpa using this
   have back:∀(v2 v3 v4:Option V) (I:List 6e34) (x:FC×Fr) (G':Hp),iK G' fl 8e1->GL 8e1->AU 8e1<=2 * 5e1+2->I.length<=5->(∀ a∈fl::dZ 8e1,H a=none)->Kp [] H G'->Pv 5e1 [some 0e4,some 9e5,v2,v3,v4] G':=fun v2 v3 v4 I x G' x1 x2 x3 x4 x5 x6=>by
    rw[Ua];exact⟨_,_,_,I,x,rfl,x1,x2,x3,x4,x5,x6⟩
   clear Ua;left;wp_walk;refine⟨z,3,rfl,fun dk G3 XC K3 RD=>?_⟩;wp_walk;right;left;wp_walk;refine⟨_,RD,by omega,fun kd G4 a4 b4 D4 K4=>?_⟩;have fdk:=F.free XC;have Zn:H dk=none:=KG.bR XC;have KK:Kp [] G G4:=fun b o e _=>K4.at1 (K3.at e) (aF e XC);replace F:=F.kp KK;replace KG:=KG.trans KK;wp_walk;right;have VA:=F.e;have le:((I++[x]).map fun x=>V.ref x.1.fa).length=I.length+1:=by simp
   have l1:=Ek I x;have FX:=F.fr x 0e0;have FX0:=FX;obtain⟨hvx,usx,x1,x2,x3,x4,x5⟩:=FX;have ZX:∀ z∈I++[x],z.2.b1.length<=1000/\(z.2.b2.getD []).length<=1000:=fun z hz=>by
    have:=Dz hz;have:=i5 z.2.b1;have:=i5 9e49;omega
   have gx:=gl.top;refine cR fun RI TZ=>?_;refine qV fun RE U2=>?_
   suffices fin:(kd < 4->I.length < 5->RI [some 0e4,some 9e5,some 8e7,some 5e7,some 1e6] G4)/\RE [some 0e4,some 9e5,some 8e7,some 5e7,some 1e6] G4 by
    exists VA,le
    split
    ·next h1 =>
     split
     ·next h2=>exact fin.1 h1 1e0
     ·exact fin.2
    ·exact fin.2
   refine⟨fun k4 l5=>TZ _ _ ?_,U2 _ _ ?_⟩
   ·clear TZ RI U2 RE
    exists VA
    refine fun pl Uy=>?_;refine iU a4 5e21 fun v hv=>?_;obtain⟨ib,rfl⟩:∃ ib:Bool,v=.str 2e35:=by
     simp only[Α,Δ,Ψ] at hv;rcases hv with rfl|rfl|rfl|rfl
     ·exact⟨true,rfl⟩
     ·exact⟨false,rfl⟩
     ·exact⟨true,rfl⟩
     ·exact⟨true,rfl⟩
    have NP:=q0D (o:=.lst [.str "if",.str "while",.str "if",.str "if"]) Uy;have DP:=D4.kp NP;have FP:=F.kp NP;have KP:=KG.trans NP;have abU:dk∉fl::dZ 8e1:=fdk;generalize TH G4 pl (.lst [.str "if",.str "while",.str "if",.str "if"])=G5 at *;have bb:bd 4=93:=rfl;wp_walk;refine⟨dk,3,_,rfl,by decide,by decide,DP,by omega,fun sv s G6 hs ok hd D6 K6=>?_⟩;have KX:∀ b o,G5 b=some o->b≠dk->G6 b=some o:=fun b o e n=>K6.at1 e n;have F6:=FP.keep (fun a ha o e=>KX a o e (fun z=>fdk 5e4)) (DP.tk K6);have KH6:Kp [] H G6:=fun b o e _=>KX b o (KP.at e) (aF e Zn);wp_walk;refine fun ht h1 Wy h2 X9 h3=>?_;have N1:=q0D (o:=.tup [.str 2e35,sv]) h1;have N2:=q0D (o:=.lst []) h2;have N3:=q0D (o:=.lst [.ref ht,.ref Wy,.TK]) h3;have m1:=((F6.kp N1).kp N2).free h3;have m2:=(F6.kp N1).free h2;have z1:H Wy=none:=(KH6.trans N1).bR h2;have z2:H X9=none:=((KH6.trans N1).trans N2).bR h3;have m3:X9≠Wy:=fun z=>by rw[z,aA] at h3;cases h3
    have NN:=(N1.trans N2).trans N3;have eh:=N3.at (N2.at (show TH G6 ht 4e14 ht=some 4e14 from aA));have e2:=N3.at (show TH (TH G6 ht 4e14) Wy 2e0 Wy=some 2e0 from aA);have e1:TH (TH (TH G6 ht 4e14) Wy 2e0) X9 7e28 X9=some 7e28:=aA;generalize TH (TH (TH G6 ht 4e14) Wy 2e0) X9 7e28=G7 at *;have F7:=(F6.kp NN).push e1 e2 (h:=some (ib,s)) ⟨ht,sv,rfl,eh,hs.kp (aC.nil NN)⟩ m1 m2 m3;have aaG:=(F6.kp NN).e
    exists aaG
    refine⟨by rw[le];omega,?_⟩;rw[show((I++[x]).map fun x=>V.ref x.1.fa)++[V.ref X9]=(8e1++[((⟨X9,Wy,none⟩:FC),(⟨some (ib,s),[],none⟩:Fr))]).map fun x=>V.ref x.1.fa by simp];refine back _ _ _ 8e1 _ _ F7 (gl.snoc ⟨trivial,trivial,by simp[oE];omega,by simp[oE];omega,fun _=>⟨ib,s,rfl,ok,by omega⟩⟩) ?_ 5e21 (fun b hb=>?_) (fun b o e _=>by
     rw[aD (aF e (fr fl 0e0))];exact NN.at (KH6.at e))
    ·rw[lM,lO];show AU 8e1+(bZ []+bZ []+2)<=_;have:bZ []=0:=by simp[bZ]
     omega
    ·rw[bK,bX] at hb;rcases Α.mp hb with hb|hb
     ·exact fr b 7e52
     ·rcases Κ.mp hb with hb|hb
      ·exact fr b 7e52
      ·simp only[FC.cells,Option.toList_none,Α,Δ,Ψ] at hb;rcases hb with rfl|rfl
       ·exact z2
       ·exact z1
   ·clear TZ RI U2 RE;refine cR fun RI TZ=>?_;refine qV fun RE U2=>?_
    suffices fin:(0 < I.length->RI [some 0e4,some 9e5,some 8e7,some 5e7,some 1e6] G4)/\RE [some 0e4,some 9e5,some 8e7,some 5e7,some 1e6] G4 by
     exists VA,le
     split
     ·split
      ·next h2=>exact fin.1 1e0
      ·exact fin.2
     ·exact fin.2
    refine⟨fun l0=>TZ _ _ ?_,U2 _ _ ?_⟩
    ·clear TZ RI U2 RE;obtain⟨I',y,rfl⟩:∃ I' y,I=I'++[y]:=⟨I.dropLast,I.getLast 3e41,(List.dropLast_concat_getLast _).symm⟩;obtain⟨i0,s0,hh,hs0⟩:=gx.2.2.2.2 1e0;wp_walk;refine⟨fl,I',y,x,i0,s0,rfl,F,hh,ZX,fun G5 F5 K5=>?_⟩;obtain⟨c1,c2⟩:=DS gl hh hs0;refine back _ _ _ I' _ G5 F5 c1 1e0 (by rw[Ν] at ll;simp at ll;omega) (fun a ha=>fr a ?_) ?_
     ·rw[bK,bX] at ha;rw[bK,bK,bX];rcases Α.mp ha with ha|ha
      ·simp[ha]
      ·rcases Κ.mp ha with ha|ha
       ·simp[ha]
       ·simp[show a∈y.1.cells from ha]
     ·intro b o e _;refine K5 b o 8e23 2e55;have:b∈fl::dZ 2e52:=by
       rw[bK,bK,bX];rcases Α.mp z with z|z
       ·simp[z]
       ·simp[z]
      rw[fr b this] at e;cases e
    ·clear TZ RI U2 RE;refine cR fun RI TZ=>?_;refine qV fun RE U2=>?_
     suffices fin:(0 < I.length->x.1.f2=none->RI [some 0e4,some 9e5,some 8e7,some 5e7,some 1e6] G4)/\RE [some 0e4,some 9e5,some 8e7,some 5e7,some 1e6] G4 by
      by_cases l0:0 < I.length
      ·obtain⟨i0,s0,hh,hs0⟩:=gx.2.2.2.2 1e0;rw[hh] at x2;obtain⟨ha,sv,rfl,eh,hS⟩:=x2
       exists VA,le,l1,x1,eh
       repeat' split
       all_goals first|exact fin.2|exact fin.1 l0 (Pe ‹_›)
      ·skip
       exists VA,le
       split
       ·rw[if_neg 1e0];exact fin.2
       ·exact fin.2
     refine⟨fun l0 f0=>TZ _ _ ?_,U2 _ _ ?_⟩
     ·clear TZ RI U2 RE;rw[f0] at x1;replace x1:G4 x.1.fa=some (.lst [hvx,.ref x.1.f1,.TK]):=x1
      exists VA,l1,x1
      refine fun a ha=>?_;generalize hg:TH G4 a 2e0=G5;have NA:Kp [] G4 G5:=hg▸Kp.new ha;have ea:G5 a=some 2e0:=hg▸aA;clear hg;have na:=F.free ha;replace F:=F.kp NA;replace VA:=NA.at VA;replace x1:=NA.at x1;have fa0:H a=none:=KG.bR ha;replace KG:=KG.trans NA;have F5:=F.snd f0 x1 ea na
      exists VA,l1,x1
      rw[show yA 3 2=some 2 from rfl];show Pv 5e1 _ (TH G5 x.1.fa (.lst [hvx,.ref x.1.f1,.ref a]));obtain⟨g1,g2,g3,g4,g5⟩:=gx;have hb:x.2.b2=none:=by
       cases h:x.2.b2 with
       | none=>rfl
       | some b=>rw[f0,h] at x5;exact x5.elim
      rw[hb] at g2 g4;refine back _ _ _ I _ _ F5 (gl.init.snoc ⟨g1,g2,g3,g4,g5⟩) ?_ ll (fun b Ux=>?_) (fun b o e _=>by
       rw[aD (fun z=>by
        rw[z,fr x.1.fa 6e28] at e;cases e)]
       exact KG.at e)
      ·have:=sz;rw[lM,lO,hb] at this;rw[lM,lO];show AU I+(bZ x.2.b1+bZ (([]:List Stm))+2)<=_;have h0:bZ ((none:Option (List Stm)).getD [])=bZ ([]:List Stm):=rfl;omega
      ·rw[bK,bX] at Ux;rcases Α.mp Ux with Ux|Ux
       ·exact fr b (by simp[Ux])
       ·rcases Κ.mp Ux with Ux|Ux
        ·exact fr b (by rw[bK];simp[Ux])
        ·simp only[FC.cells,Α2,Α,Δ,Ψ] at Ux;rcases Ux with rfl|rfl|rfl
         ·exact fr _ 6e28
         ·exact fr _ 6e28
         ·exact fa0
     ·clear TZ RI U2 RE;obtain⟨ux,ex⟩:=FX0.cu
      exists VA,l1,x1,CV,ex
      refine⟨dk,_,rfl,D4,by omega,fun v m G5 hm gm hB K5=>?_⟩;have F5:=F.keep (fun a ha o e=>K5.at1 e (fun z=>fdk 5e4)) (D4.tk K5);have KH5:Kp [] H G5:=fun b o e _=>K5.at1 8e23 (aF e Zn);obtain⟨us,b,c1,c2,c3,c4,c5⟩:=F5.app hm;have lx:=ZX x 0e0;have lb:us.length<=1000:=by
       have lu:=c2.len;rcases c3 with rfl|c3
       ·omega
       ·rw[c3] at lx;have:b.length<=1000:=lx.2;omega
      have Xg:H x.1.cur=none:=fr _ (by rw[bK,bX];simp[c4]);have dm:m.dp=0:=by cases m<;>first|rfl|cases hB
      have sm:m.sz=1:=JD hB;have bk:Pv 5e1 [some 0e4,some 9e5,some 8e7,some 5e7,some 1e6] (TH G5 x.1.cur (.lst (us++[v]))):=back _ _ _ I _ _ c5 (gl.init.snoc (gx.add gm 1e0)) (by
       have ha:=GS x.2 m;have:=sz;rw[lM,lO] at this ⊢;show AU I+(bZ (x.2.add m).b1+bZ ((x.2.add m).b2.getD [])+2)<=_;omega) ll (fun b hb=>fr b (by
       rw[bK,bX] at hb ⊢;exact hb)) (fun b o e _=>by rw[aD (aF e Xg)];exact KH5.at e)
      exists c1
      exact⟨by omega,bk⟩
  intro Z G h;rw[Ua,Γ] at h;obtain⟨v2,v3,v4,I,x,rfl,F,gl,sz,ll,fr,KG⟩:=h;clear Ua;right;left;refine Hr fun tb YU=>?_;obtain⟨Y,hY⟩:∃ Y:Nat->St->Hp->Prop,∀ m Z G,Y m Z G=E2 fun(I:List 6e34) (x:FC×Fr)=>A7 5e41 (iK G fl 8e1) (GL 8e1) (AU 8e1<=2 * ms.length+2) 3e42 1e32 (m=I.length):=⟨_,fun _ _ _=>rfl⟩;refine⟨Y,⟨_,(hY _ _ _).mpr ⟨I,x,rfl,F,gl,by omega,fr,KG,rfl⟩⟩,?_⟩;clear F gl sz fr KG I x ll;intro m Z G hG;rw[hY] at hG;obtain⟨I,x,rfl,F,gl,sz,fr,KG,rfl⟩:=hG;have VA:=F.e;have le:((I++[x]).map fun x=>V.ref x.1.fa).length=I.length+1:=by simp
  have ZX:∀ z∈I++[x],z.2.b1.length<=1000/\(z.2.b2.getD []).length<=1000:=fun z hz=>by
   have:=Dz hz;have:=i5 z.2.b1;have:=i5 9e49;omega
  have gx:=gl.top
  exists VA,le
  by_cases l0:0 < I.length
  ·rw[if_pos 1e0];refine⟨fun Z' G'=>∃ m',m' < I.length/\Y m' Z' G',fun _ _ z=>z,?_⟩;refine YU _ _ _ ?_;clear YU tb;obtain⟨I',y,rfl⟩:∃ I' y,I=I'++[y]:=⟨I.dropLast,I.getLast 3e41,(List.dropLast_concat_getLast _).symm⟩;obtain⟨i0,s0,hh,hs0⟩:=gx.2.2.2.2 1e0;wp_walk;refine⟨fl,I',y,x,i0,s0,rfl,F,hh,ZX,fun G5 F5 K5=>?_⟩;obtain⟨c1,c2⟩:=DS gl hh hs0;refine⟨I'.length,by simp,(hY _ _ _).mpr ⟨I',_,rfl,F5,c1,by omega,fun a ha=>fr a ?_,?_,rfl⟩⟩
   ·rw[bK,bX] at ha;rw[bK,bK,bX];rcases Α.mp ha with ha|ha
    ·simp[ha]
    ·rcases Κ.mp ha with ha|ha
     ·simp[ha]
     ·simp[show a∈y.1.cells from ha]
   ·intro b o e _;refine K5 b o 8e23 2e55;have:b∈fl::dZ 2e52:=by
     rw[bK,bK,bX];rcases Α.mp z with z|z
     ·simp[z]
     ·simp[z]
    rw[fr b this] at e;cases e
  ·rw[if_neg 1e0];have hI:I=[]:=by cases I with|nil=>rfl|cons _ _=>simp at l0
   subst hI;clear hY YU;right;obtain⟨hvx,usx,x1,x2,x3,x4,x5⟩:=F.fr x 0e0;replace VA:G fl=some (.lst [.ref x.1.fa]):=VA
   exists VA,x1,x3
   refine fun p hp=>?_;have N:=q0D (o:=.tup usx) hp;have:=Dz (show x∈[]++[x] by simp);exact q p usx x.2.b1 _ aA (x4.kp 4e1) gx.1 (by have:=gx.2.2.1;omega) 1e0 (KG.trans N)
theorem Dw{d:Nat}(hn:3<=n)(IH:gO P w K mg base UR n (t.a 55) (t.d 55) ["block","path","code"] (AM d)):Ok T 7e25 (n+1) (AM (d+1)):=by
 nomatch T.r 55
 ·obtain⟨bp,pp,cl,us,b,pt,as,rfl,_⟩:=h;rfl
 ·obtain⟨bp,pp,cl,us,b,pt,as,rfl,eb,hs,hd,ep,lp,ec,lc,q⟩:=h
  nomatch (aJ (o9 Β7 rfl (jE rfl T.nD (pa1 (bF cP rfl T.kX fG 1e13))) 9e24 (aI (pst 4 (bG kP pv1 (aW 0e13))) (aI (pst 5 (pix aN 6e25 aB)) (aI (pst 6 0e15) (pss3 (aQ (dD pv2 (aV (dY pv5 (pa3 6e25 pv4 cN))))) (pif 3e5 (pss3 8e25 (aQ (dD pv2 (aV (dY aE (pa3 cN pv4 pv6))))) (lJ 0e15 5e43))) (pif 3e5 (aI 8e25 (aI (aQ (dD pv2 (aV (dY aE (pa3 cN pv4 cN))))) (aI (lJ 0e15 5e43) (pss3 (pst 7 (bG jL 0e15 aB)) 8e25 (lJ 0e15 (rV (pix aN pv2 pv7) aB xC))))))))))))),0
  have lus:=hs.len;have ZX:=i5 b
  exists eb
  refine⟨⟨by omega,by omega⟩,?_⟩;obtain⟨Pv,Ua⟩:∃ Pv:Nat->St->Hp->Prop,∀ i Z G,Pv i Z G=E6 fun(v3 v4 v5 v6 v7:Option V) (new:List Addr)=>A6 (Z=[some 0e18,some (.ref pp),some 0e4,v3,v4,v5,v6,v7]) (G cl=some (.lst ((as++new).map V.ref))) (dI G new (yT pt 0 as.length (b.take i))) ((∀ a∈new,H a=none)) (new.Nodup) (Kp [cl] H G):=⟨_,fun _ _ _=>rfl⟩;refine kJ (lo:=0) Pv ?_ ?_ ?_
  ·rw[Ua];exact⟨_,_,_,_,_,[],rfl,by simpa using ec,by simpa[yT] using .nil,by simp,by simp,Kp.refl⟩
  ·intro i Z G hi h;rw[Ua] at h;obtain⟨v3,v4,v5,v6,v7,new,rfl,eG,hC,fN,nd,KG⟩:=h;have TG:=kp1T KG ec;have eG0:=eG;obtain⟨sv,ev⟩:∃ sv,us[i]?=some sv:=⟨us[i]' 1e0,by simp⟩;obtain⟨m,em,hm⟩:=hs.at ev;replace hm:=hm.kp TG;have U7:=TG _ _ eb;have epG:=TG _ _ ep;have ix:fU us (i:Nat)=some sv:=eI ev;obtain⟨a0,r0,rfl,e0⟩:=hm.kw;have lt:as.length+new.length+m.sz<=100000:=by
    have h1:=JC b 5e1;rw[gF em] at h1;have h2:=hC.len;rw[gI] at h2;omega
   have el:((as++new).map V.ref).length=as.length+new.length:=by simp
   have back:∀(v3 v4 v5 v6 v7:Option V) (V7:List Addr) (G':Hp),G' cl=some (.lst ((as++V7).map V.ref))->dI G' V7 (yT pt 0 as.length (b.take i)++Ae (pt++[(i:Int)]) 4e46 m)->(∀ a∈V7,H a=none)->V7.Nodup->Kp [cl] H G'->Pv 5e1 [some 0e18,some (.ref pp),some 0e4,v3,v4,v5,v6,v7] G':=fun v3 v4 v5 v6 v7 V7 G' x1 x2 x3 x4 x5=>by
    rw[Ua];have h2:=hC.len;rw[gI] at h2;rw[h2] at x2;refine⟨_,_,_,_,_,V7,rfl,x1,?_,x3,x4,x5⟩;rw[Bp em,Γ4];exact x2
   clear Ua;left
   exists Γ5
   refine fun p1 h1=>?_;have N1:=q0D (o:=.tup [.int (i:Nat)]) h1;refine CD (N1.at epG) aA (by simp only[Γ,Ζ,ϕ];omega) fun ph G1 eh K1=>?_;replace eh:G1 ph=some (.tup ((pt++[(i:Int)]).map V.int)):=by rw[eh];simp
   replace K1:=N1.trans K1;replace hm:=hm.kp 3e3;replace hC:=hC.keep (fun _ _ _ e=>K1.at e) 3e3;replace eG:=K1.at eG;replace e0:=K1.at e0;replace U7:=K1.at U7;wp_walk;right;left
   exists U7,Γ5,ix,e0
   right;left
   exists eG,el
   right;left
   exists eG,U7,Γ5,ix
   refine fun pe Yo=>?_;have N4:=q0D (o:=.lst [.str m.kw,.ref a0,.ref ph,.TK]) Yo;have ee:TH G1 pe 4e27 pe=some 4e27:=aA;have Zp:H pe=none:=free1 KG eG0 (K1.bR Yo);have XR:pe≠cl:=fun z=>by rw[z,eG] at Yo;cases Yo
   have npn:pe∉new:=fun z=>by
    obtain⟨xs,e⟩:=hC.there pe z;rw[e] at Yo;cases Yo
   have KN:=K1.trans N4;replace hm:=hm.kp 4e2;replace hC:=hC.keep (fun _ _ _ e=>N4.at e) 4e2;replace eG:=N4.at eG;replace e0:=N4.at e0;replace U7:=N4.at U7;replace eh:=N4.at eh;generalize TH G1 pe 4e27=G2 at *
   exists eG
   refine⟨by rw[el];omega,?_⟩;have ea:(as++new).map V.ref++[V.ref pe]=(as++3e4).map V.ref:=by simp
   rw[ea];have KS:Kp [cl] G2 (TH G2 cl 3e15):=Kp.j8;have TS:=kp1T KS eG;have YZ:cl∉new:=fun z=>by rw[fN cl z] at ec;cases ec
   replace eG:TH G2 cl 3e15 cl=some 3e15:=aA;replace ee:=KS.at1 ee XR;replace hm:=hm.kp TS;replace hC:=hC.keep 7e26 TS;replace e0:=TS _ _ e0;replace U7:=TS _ _ U7;replace eh:=TS _ _ eh;have KH:Kp [cl] H (TH G2 cl 3e15):=(KG.trans (KN.mono 0e0)).trans KS;generalize TH G2 cl 3e15=G3 at *;have fN':∀ a∈new++[pe],H a=none:=fun a ha=>by
    rcases Κ.mp ha with ha|ha
    ·exact fN a ha
    ·rw[show a=pe by simpa using ha];exact Zp
   have nd':(new++[pe]).Nodup:=ϙ.mpr ⟨nd,by simp,fun x hx y hy z=>npn (by rw[show y=pe by simpa using hy] at z;rw[<- z];exact hx)⟩;have th3:=g0 hC.ex (kW ee);clear K1 N1 N4 KN KS TS ea KG TG Yo h1;right;by_cases hB:m.isB=false
   ·obtain⟨w1,w2,_⟩:=QY hB
    exists w1,w2
    exact back _ _ _ _ _ _ _ eG (by rw[QK hB];exact hC.app (.cons ⟨ph,eh,_,hm,ee⟩ .nil)) fN' nd' KH
   cases hm with
   | @Uj a p v s vs b' e hv Ww Ux =>
    have hm:cJ G3 (.ref a0) (.Uj s b'):=.Uj e hv Ww Ux;have lt':as.length+new.length+bZ b'+2<=100000:=by simp only[Stm.sz] at lt;omega
    have dl:oE b' < d:=by have:=uL em;simp only[Stm.dp] at this;omega
    refine cG fun R5 Zv=>?_;refine cR fun RI TZ=>?_
    exists Stm.kw
    refine TZ _ _ ?_;clear TZ RI;have Zg:=ee;left
    exists U7,Γ5,ix,e
    refine fun pz hz=>?_;have NZ:=q0D (o:=.tup [.int 0]) hz;refine CD 5e32 aA 7e27 fun pq GZ eq KZ=>?_;replace KZ:=NZ.trans KZ;replace eq:GZ pq=some 2e40:=by rw[eq];simp
    refine⟨_,pq,cl,_,_,pt++[(i:Int)]++[0],as++3e4,rfl,KZ.at Ww,(Ux).kp 8e31,dl,eq,by simp only[Ν,Ζ,ϕ];omega,KZ.at eG,by simp only[Ν,Ζ,ϕ];omega,fun Xa Ul e50 UK Vh Yx X0=>?_⟩;wp_walk;right;have Xv:=(aC.nil KZ).trans 3e47;have Vx:Kp [cl] G3 Xa:=(KZ.mono 0e0).trans X0;have Xx:∀ a∈Ul,H a=none:=fun a ha=>free1 KH eG (KZ.bR 6e23);have x50:∀ a∈Ul,G3 a=none:=fun a ha=>KZ.bR 6e23;replace KH:=KH.trans Vx;replace eh:=Xv _ _ eh;replace ee:=Vx.at1 ee XR;replace hC:=hC.keep (fun a ha _ e=>Vx.at1 e 1e27) Xv;replace hm:=hm.kp Xv;replace eG:=e50;clear KZ X0 NZ hz eq;have nc5:cl∉Ul:=fun z=>by rw[Xx cl z] at ec;cases ec
    have Yu:Ul.length=bZ b':=by rw[UK.len,gI]
    have ee1:=ee;have nd5:(new++[pe]++Ul).Nodup:=pQ nd' Yx th3 x50;have th5:=g0 2e30 UK.ex;left
    exists eG
    refine fun pj hp=>?_;generalize hg:TH Xa pj 1e36=G6;have N:Kp [] Xa G6:=hg▸Kp.new hp;have Vc:G6 pj=some 1e36:=hg▸aA;clear hg;have Yz:pj≠cl:=fun z=>by rw[z,eG] at hp;cases hp
    have fpj:H pj=none:=free1 KH eG hp;have YK:Xa pj=none:=hp;replace eh:=N.at eh;replace ee:=N.at ee;replace eG:=N.at eG;replace hC:=hC.keep 5e9 4e1;replace UK:=UK.keep 5e9 4e1;replace hm:=hm.kp 4e1;replace KH:=KH.trans (N.mono 0e0)
    exists eG
    refine⟨by simp only[Γ,Ν,Ζ,ϕ];omega,?_⟩;rw[show(8e18).map V.ref++[V.ref pj]=(8e18++[pj]).map V.ref by simp];have KS:Kp [cl] G6 (TH G6 cl 5e6):=Kp.j8;have TS:=kp1T KS eG;replace eG:TH G6 cl 5e6 cl=some 5e6:=aA;replace eh:=TS _ _ eh;replace ee:=KS.at1 ee XR;replace Vc:=KS.at1 Vc Yz;replace hC:=hC.keep 7e26 TS;replace UK:=UK.keep 5e39 TS;replace hm:=hm.kp TS;replace KH:=KH.trans KS;generalize TH G6 cl 5e6=G7 at *;clear KS TS N hp;right;have ixe:fU 5e42 ((as.length+new.length:Nat):Int)=some (.ref pe):=eI 0e0;have YA:pe∉Ul:=fun z=>by rw[x50 pe z] at Zg;cases Zg
    have Yz:pj≠pe:=fun z=>by rw[z,ee1] at YK;cases YK
    exists eG,ixe,ee,Stm.kw
    rw[show yA 4 3=some 3 from rfl,show(List.map V.ref (as++3e4++Ul++[pj])).length=as.length+new.length+bZ b'+2 from by simp[Yu];omega];show R5 _ (TH G7 pe 0e8);have TS:aC G7 (TH G7 pe 0e8):=aC.cQ ee;replace ee:TH G7 pe 0e8 pe=some 0e8:=aA;have KE:∀ a u,a≠pe->G7 a=some u->TH G7 pe 0e8 a=some u:=fun a u n e=>by rw[aD n];exact e
    replace eG:=KE _ _ XR.symm eG;replace hm:=hm.kp TS;replace KH:Kp [cl] H (TH G7 pe 0e8):=fun b o e n=>by rw[aD (aF e Zp)];exact KH b o e n
    replace eh:=TS _ _ eh;replace hC:=hC.keep 4e39 TS;replace UK:=UK.keep 8e39 TS;replace Vc:=KE _ _ Yz Vc;generalize TH G7 pe 0e8=G8 at *;clear TS KE;refine Zv _ _ ?_;clear Zv;clear R5
    exists Stm.kw
    refine back _ _ _ _ _ 4e9 _ 2e50 ?_ ?_ ?_ KH
    ·simp only[Ae];have h5:=UK;rw[show(as++3e4).length=as.length+new.length+1 by simp;omega] at h5;have:=hC.app ((dI.cons (e:=⟨some (.Uj s b'),pt++[(i:Int)],some 6e42⟩) ⟨ph,eh,_,hm,ee⟩ h5).app (.cons (e:=⟨none,pt++[(i:Int)],some 4e46⟩) ⟨ph,eh,Vc⟩ .nil));simpa using this
    ·intro a ha;simp only[Κ,Α,Δ,Ψ] at ha;rcases ha with((ha|rfl)|ha)|rfl
     ·exact fN a ha
     ·exact Zp
     ·exact Xx a ha
     ·exact fpj
    ·exact pQ nd5 0e0 th5 6e48
   | @iff a p q v s vs us' b' o' e hv Ww Ux WT Wl =>
    have hm:cJ G3 (.ref a0) 4e52:=.iff e hv Ww Ux WT Wl;have lt':as.length+new.length+bZ b'+bZ o'+2<=100000:=by simp only[Stm.sz] at lt;omega
    have dl:oE b' < d:=by have:=uL em;simp only[Stm.dp] at this;omega
    have dl2:oE o' < d:=by have:=uL em;simp only[Stm.dp] at this;omega
    refine cG fun R5 Zv=>?_
    exists Stm.kw
    refine Zv _ _ ?_;clear Zv;clear R5;refine cR fun RI TZ=>?_
    exists Stm.kw
    refine TZ _ _ ?_;clear TZ RI;have Zg:=ee;left
    exists U7,Γ5,ix,e
    refine fun pz hz=>?_;have NZ:=q0D (o:=.tup [.int 0]) hz;refine CD 5e32 aA 7e27 fun pq GZ eq KZ=>?_;replace KZ:=NZ.trans KZ;replace eq:GZ pq=some 2e40:=by rw[eq];simp
    refine⟨_,pq,cl,_,_,pt++[(i:Int)]++[0],as++3e4,rfl,KZ.at Ww,(Ux).kp 8e31,dl,eq,by simp only[Ν,Ζ,ϕ];omega,KZ.at eG,by simp only[Ν,Ζ,ϕ];omega,fun Xa Ul e50 UK Vh Yx X0=>?_⟩;wp_walk;right;have Xv:=(aC.nil KZ).trans 3e47;have Vx:Kp [cl] G3 Xa:=(KZ.mono 0e0).trans X0;have Xx:∀ a∈Ul,H a=none:=fun a ha=>free1 KH eG (KZ.bR 6e23);have x50:∀ a∈Ul,G3 a=none:=fun a ha=>KZ.bR 6e23;replace KH:=KH.trans Vx;replace eh:=Xv _ _ eh;replace U7:=Xv _ _ U7;replace ee:=Vx.at1 ee XR;replace hC:=hC.keep (fun a ha _ e=>Vx.at1 e 1e27) Xv;replace hm:=hm.kp Xv;replace eG:=e50;clear KZ X0 NZ hz eq;have nc5:cl∉Ul:=fun z=>by rw[Xx cl z] at ec;cases ec
    have Yu:Ul.length=bZ b':=by rw[UK.len,gI]
    have ee1:=ee;have nd5:(new++[pe]++Ul).Nodup:=pQ nd' Yx th3 x50;have th5:=g0 2e30 UK.ex;left
    exists eG
    refine fun pj hp=>?_;generalize hg:TH Xa pj 9e40=G6;have N:Kp [] Xa G6:=hg▸Kp.new hp;have Vc:G6 pj=some 9e40:=hg▸aA;clear hg;have Yz:pj≠cl:=fun z=>by rw[z,eG] at hp;cases hp
    have fpj:H pj=none:=free1 KH eG hp;have YK:Xa pj=none:=hp;replace eh:=N.at eh;replace U7:=N.at U7;replace ee:=N.at ee;replace eG:=N.at eG;replace hC:=hC.keep 5e9 4e1;replace UK:=UK.keep 5e9 4e1;replace hm:=hm.kp 4e1;replace KH:=KH.trans (N.mono 0e0)
    exists eG
    refine⟨by simp only[Γ,Ν,Ζ,ϕ];omega,?_⟩;rw[show(8e18).map V.ref++[V.ref pj]=(8e18++[pj]).map V.ref by simp];have KS:Kp [cl] G6 (TH G6 cl 5e6):=Kp.j8;have TS:=kp1T KS eG;replace eG:TH G6 cl 5e6 cl=some 5e6:=aA;replace eh:=TS _ _ eh;replace U7:=TS _ _ U7;replace ee:=KS.at1 ee XR;replace Vc:=KS.at1 Vc Yz;replace hC:=hC.keep 7e26 TS;replace UK:=UK.keep 5e39 TS;replace hm:=hm.kp TS;replace KH:=KH.trans KS;generalize TH G6 cl 5e6=G7 at *;clear KS TS N hp;right;have ixe:fU 5e42 ((as.length+new.length:Nat):Int)=some (.ref pe):=eI 0e0;have YA:pe∉Ul:=fun z=>by rw[x50 pe z] at Zg;cases Zg
    have Z3:pj≠pe:=fun z=>by rw[z,ee1] at YK;cases YK
    refine cG fun R52 Zw=>?_
    exists eG,ixe,ee,Stm.kw
    rw[show yA 4 3=some 3 from rfl,show(List.map V.ref (as++3e4++Ul++[pj])).length=as.length+new.length+bZ b'+2 from by simp[Yu];omega];show R52 _ (TH G7 pe 1e8);have TS:aC G7 (TH G7 pe 1e8):=aC.cQ ee;replace ee:TH G7 pe 1e8 pe=some 1e8:=aA;have KE:∀ a u,a≠pe->G7 a=some u->TH G7 pe 1e8 a=some u:=fun a u n e=>by rw[aD n];exact e
    replace eG:=KE _ _ XR.symm eG;replace hm:=hm.kp TS;replace KH:Kp [cl] H (TH G7 pe 1e8):=fun b o e n=>by rw[aD (aF e Zp)];exact KH b o e n
    replace eh:=TS _ _ eh;replace U7:=TS _ _ U7;replace hC:=hC.keep 4e39 TS;replace UK:=UK.keep 8e39 TS;replace Vc:=KE _ _ Z3 Vc;generalize TH G7 pe 1e8=G8 at *;clear TS KE;refine Zw _ _ ?_;clear Zw;clear R52;left
    exists eG
    rw[show((List.map V.ref (as++3e4++Ul++[pj])).length:Int) - 1=((as.length+new.length+bZ b'+1:Nat):Int) by simp[Yu];omega];right;replace eG:G8 cl=some (.lst ((as++4e9).map V.ref)):=by rw[eG];simp
    have nd6:(new++[pe]++Ul++[pj]).Nodup:=pQ nd5 0e0 th5 6e48;have th6:=g0 (g0 2e30 UK.ex) (kW Vc);clear e Ww Ux WT Wl;obtain⟨_,_,_,_,e,WT,Wl⟩:=hm.SX;left
    exists U7,Γ5,ix,e
    refine fun pz hz=>?_;have NZ:=q0D (o:=.tup [.int 1]) hz;refine CD 5e32 aA 7e27 fun pq GZ eq KZ=>?_;replace KZ:=NZ.trans KZ;replace eq:GZ pq=some (.tup ((pt++[(i:Int)]++[1]).map V.int)):=by rw[eq];simp
    refine⟨_,pq,cl,_,_,pt++[(i:Int)]++[1],as++4e9,rfl,KZ.at WT,(Wl).kp 8e31,dl2,eq,by simp only[Ν,Ζ,ϕ];omega,KZ.at eG,by simp only[Ν,Ζ,ϕ];omega,fun Xb W9 e54 h54 Xy aa1 K54=>?_⟩;wp_walk;right;have T54:=(aC.nil KZ).trans (kp1T K54 (KZ.at eG));have Wq:Kp [cl] G8 Xb:=(KZ.mono 0e0).trans K54;have f54:∀ a∈W9,H a=none:=fun a ha=>free1 KH eG (KZ.bR (Xy a ha));have x54:∀ a∈W9,G8 a=none:=fun a ha=>KZ.bR (Xy a ha);replace KH:=KH.trans Wq;replace eh:=T54 _ _ eh;replace ee:=Wq.at1 ee XR;replace Vc:=Wq.at1 Vc Yz;replace hC:=hC.keep (fun a ha _ e=>Wq.at1 e 1e27) T54;replace UK:=UK.keep (fun a ha _ e=>Wq.at1 e (fun z=>nc5 5e4)) T54;replace hm:=hm.kp T54;replace eG:=e54;clear KZ K54 NZ hz eq;have l54:W9.length=bZ o':=by rw[h54.len,gI]
    have ixj:fU ((as++4e9++W9).map V.ref) ((as.length+new.length+bZ b'+1:Nat):Int)=some (.ref pj):=eI (by
     rw[ϔ,<- Yu,show as++4e9++W9=(as++new++[pe]++Ul)++(pj::W9) by simp,Β8 5e21];simp only[Ν,Ζ,ϕ];rw[show as.length+new.length+Ul.length+1 - (as.length+new.length+(0+1)+Ul.length)=0 by omega];rfl)
    have abT:=Vc;have aa3:pj∉new:=fun z=>by
     have h:=(ϙ.mp nd6).2.2 pj 1e20 pj 0e0;exact h rfl
    have aa2:pj∉Ul:=fun z=>by
     have h:=(ϙ.mp nd6).2.2 pj 1e20 pj 0e0;exact h rfl
    have Z2:pj∉W9:=fun z=>by
     obtain⟨o,e⟩:=th6 pj 0e0;rw[x54 pj z] at e;cases e
    have nd7:(new++[pe]++Ul++[pj]++W9).Nodup:=pQ nd6 aa1 th6 x54
    exists eG,ixj,Vc,Stm.kw
    rw[show yA 4 3=some 3 from rfl,show(List.map V.ref (as++4e9++W9)).length=as.length+new.length+bZ b'+bZ o'+2 from by simp[Yu,l54];omega];show Pv 5e1 _ (TH Xb pj 9e7);have TS:aC Xb (TH Xb pj 9e7):=aC.cQ Vc;replace Vc:TH Xb pj 9e7 pj=some 9e7:=aA;have KE:∀ a u,a≠pj->Xb a=some u->TH Xb pj 9e7 a=some u:=fun a u n e=>by rw[aD n];exact e
    replace eG:=KE _ _ Yz.symm eG;replace hm:=hm.kp TS;replace KH:Kp [cl] H (TH Xb pj 9e7):=fun b o e n=>by rw[aD (aF e fpj)];exact KH b o e n
    replace eh:=TS _ _ eh;replace hC:=hC.keep (fun a ha o e=>KE _ _ (fun z=>aa3 5e4) e) TS;replace UK:=UK.keep (fun a ha o e=>KE _ _ (fun z=>aa2 5e4) e) TS;replace h54:=h54.keep (fun a ha o e=>KE _ _ (fun z=>Z2 5e4) e) TS;replace ee:=KE _ _ Z3.symm ee;generalize TH Xb pj 9e7=G9 at *;clear TS KE;refine back _ _ _ _ _ (new++[pe]++Ul++[pj]++W9) _ 2e50 ?_ ?_ nd7 KH
    ·simp only[Ae];have h5:=UK;rw[show(as++3e4).length=as.length+new.length+1 by simp;omega] at h5;have h6:=h54;rw[show(as++4e9).length=as.length+new.length+bZ b'+2 by simp[Yu];omega] at h6;have:=hC.app ((dI.cons (e:=⟨some 4e52,pt++[(i:Int)],some 6e42⟩) ⟨ph,eh,_,hm,ee⟩ h5).app (.cons (e:=⟨none,pt++[(i:Int)],some (as.length+new.length+bZ b'+bZ o'+2)⟩) ⟨ph,eh,Vc⟩ h6));simpa using this
    ·intro a ha;simp only[Κ,Α,Δ,Ψ] at ha;rcases ha with(((ha|rfl)|ha)|rfl)|ha
     ·exact fN a ha
     ·exact Zp
     ·exact Xx a ha
     ·exact fpj
     ·exact f54 a ha
   | _=>exact absurd rfl hB
  intro Z G h;rw[Ua,Int.toNat_natCast,<- lus,Α0] at h;obtain⟨v3,v4,v5,v6,v7,new,rfl,eG,hC,fN,nd,KG⟩:=h;exact q G new eG hC fN nd KG
theorem Dk(T:Tx P w base K mg t):∀ d,gO P w K mg base UR (d+3) (t.a 55) (t.d 55) ["block","path","code"] (AM d):=by
 intro d
 induction d with
 | zero=>exact⟨fun _ _ _ _ x=>by (obtain⟨_,_,_,_,_,_,_,_,_,_,h,_⟩:=x;exact absurd h 1e0),fun _ _ _ _ _ _ _ _ _ _ _ _ _ x=>by (obtain⟨_,_,_,_,_,_,_,_,_,_,h,_⟩:=x;exact absurd h 1e0)⟩
 | succ d ih=>exact Dw T 1e0 ih
theorem Gd:Ok T (T.r 56) 13 Jr:=by
 nomatch T.r 56
 ·obtain⟨bp,us,b,rfl,_⟩:=h;rfl
 ·obtain⟨bp,us,b,rfl,eb,hs,hd,hz,q⟩:=h
  nomatch (aI (pst 1 8e0) (aI (aQ (pcl (Dk T 9) 7e25 (pa3 pv0 (aW bU) pv1))) (aI (pst 2 (Ew (fS aE pv1 (fS aE aB (fS aE aE (fS aE kR (fS aE cN (fS aE aB (fS aE aB (fS aE 8e0 Ez)))))))) rfl rfl 6e46 7e0)) (aI (ppt pv2 aE 8e0) (aI (ppt pv2 aE kR) (pss3 (ppt pv2 aE 8e0) (ppt pv2 aE cN) 4e13)))))),0
  left;wp_walk;refine fun cl hc=>?_;have K1:=q0D (o:=.lst []) hc;have e1:TH H cl 2e0 cl=some (.lst (([]:List Addr).map V.ref)):=aA;replace eb:=K1.at eb;replace hs:=hs.kp 3e3;generalize TH H cl 2e0=G1 at *;right;left;wp_walk;refine fun pe he=>?_;have K2:=q0D (o:=.tup []) he;refine⟨bp,pe,cl,us,b,[],[],rfl,K2.at eb,hs.kp 8e22,hd,aA,by simp,K2.at e1,by simp;omega,fun G2 cs e2 hC fr nd K3=>?_⟩;wp_walk;right;left;wp_walk;have Y6:Kp [] H G2:=fun b o e _=>K3.at1 (K2.at (K1.at e)) (fun z=>by rw[z,hc] at e;cases e);have fr':∀ a∈cs,H a=none:=fun a ha=>K1.bR (K2.bR (fr a ha));rw[Α1] at e2;rw[ϕ] at hC;refine fun md Yi nd YR od Xm=>?_;have x1:nd≠md:=fun z=>by rw[z,aA] at YR;cases YR
  have x2:od≠nd:=fun z=>by rw[z,aA] at Xm;cases Xm
  have x3:od≠md:=fun z=>by rw[z,aD x1.symm,aA] at Xm;cases Xm
  rw[aD x1] at YR;rw[aD x2,aD x3] at Xm;refine⟨by rw[aD x3.symm,aD x1.symm,aA],[(.inr "code",.ref cl),(.inr "at",.int 0),(.inr "mode",.str "new"),(.inr "names",.ref nd),(.inr "arg",.TK),(.inr "now",.int 0),(.inr "made",.int 0),(.inr "open",.ref od)],rfl,by simp,?_⟩;rw[eights];obtain⟨k8,hk8⟩:∃ k:List (Key×V),k=[(.inr "code",.ref cl),(.inr "at",.int 0),(.inr "mode",.str "new"),(.inr "names",.ref nd),(.inr "arg",.TK),(.inr "now",.int 0),(.inr "made",.int 0),(.inr "open",.ref od)]:=⟨_,rfl⟩;rw[<- hk8];have lk8:k8.length=8:=by rw[hk8];rfl
  have NA:Kp [] G2 (TH (TH 7e14 od 2e0) md 9e13):=fun b o e _=>by rw[aD (aF e Yi),aD (aF e Xm),aD (aF e YR),aD (aF e Yi)];exact e
  have eM:TH (TH 7e14 od 2e0) md 9e13 md=some 9e13:=aA;have eN:TH (TH 7e14 od 2e0) md 9e13 nd=some 6e11:=by rw[aD x1,aD x2.symm,aA]
  have eO:TH (TH 7e14 od 2e0) md 9e13 od=some 2e0:=by rw[aD x3,aA]
  generalize TH (TH 7e14 od 2e0) md 9e13=G3 at *;have fm:H md=none:=Y6.bR Yi;have fn:H nd=none:=Y6.bR YR;have fo:H od=none:=Y6.bR Xm;have yo:od≠cl/\od∉cs:=rW e2 hC Xm;have KH:=Y6.trans NA;have VZ:=e2;have hC':=hC;have aaQ:=Yi;replace e2:=NA.at e2;replace hC:=hC.keep (fun _ _ _ e=>NA.at e) (aC.nil NA);clear NA K3 Y6 K2 K1 YR Xm he;have XZ:md≠cl/\md∉cs:=rW VZ hC' aaQ;right;left
  exists eM
  refine fun dd hX=>?_;generalize hg:TH G3 dd 2e0=G3a;have N:Kp [] G3 G3a:=hg▸Kp.new hX;have Vz:G3a dd=some 2e0:=hg▸aA;clear hg;have fdd:H dd=none:=KH.bR hX;have ydd:dd≠cl/\dd∉cs:=rW e2 hC hX;have VT:dd≠md:=fun z=>by rw[z,eM] at hX;cases hX
  have abP:dd≠nd:=fun z=>by rw[z,eN] at hX;cases hX
  have aaD:dd≠od:=fun z=>by rw[z,eO] at hX;cases hX
  replace eN:=N.at eN;replace eO:=N.at eO;replace e2:=N.at e2;replace eM:=N.at eM;replace hC:=hC.keep 5e9 4e1;replace KH:=KH.trans N;clear N hX
  exists eM
  refine⟨by omega,?_⟩;obtain⟨k9,hk9⟩:∃ k,aS (κ:=Key) k8 (.inr (Str.ofString "done")) (.ref dd)=k:=⟨_,rfl⟩;have lk9:k9.length<=k8.length+1:=hk9▸tY _ _ _;rw[hk9];have TS:aC G3a (TH G3a md 8e13):=aC.cQ eM;have KE:∀ a u,a≠md->G3a a=some u->TH G3a md 8e13 a=some u:=fun a u n e=>by rw[aD n];exact e
  replace eM:TH G3a md 8e13 md=some 8e13:=aA;replace hC:=hC.keep 1e19 TS;replace KH:Kp [] H (TH G3a md 8e13):=fun b o e n=>KE _ _ 5e23 4e22;replace eN:=KE _ _ x1 eN;replace eO:=KE _ _ x3 eO;replace e2:=KE _ _ XZ.1.symm e2;replace Vz:=KE _ _ VT Vz;generalize TH G3a md 8e13=G3x at *;clear TS KE;right;left
  exists eM
  refine fun ld hX=>?_;generalize hg:TH G3x ld 6e11=G3xa;have N:Kp [] G3x G3xa:=hg▸Kp.new hX;have WS:G3xa ld=some 6e11:=hg▸aA;clear hg;have fld:H ld=none:=KH.bR hX;have VM:ld≠cl/\ld∉cs:=rW e2 hC hX;have VU:ld≠md:=fun z=>by rw[z,eM] at hX;cases hX
  have aaC:ld≠nd:=fun z=>by rw[z,eN] at hX;cases hX
  have abR:ld≠od:=fun z=>by rw[z,eO] at hX;cases hX
  have abM:ld≠dd:=fun z=>by rw[z,Vz] at hX;cases hX
  replace eN:=N.at eN;replace eO:=N.at eO;replace e2:=N.at e2;replace Vz:=N.at Vz;replace eM:=N.at eM;replace hC:=hC.keep 5e9 4e1;replace KH:=KH.trans N;clear N hX
  exists eM
  refine⟨by omega,?_⟩;obtain⟨kA,hkA⟩:∃ k,aS (κ:=Key) k9 (.inr (Str.ofString "letters")) (.ref ld)=k:=⟨_,rfl⟩;have lkA:kA.length<=k9.length+1:=hkA▸tY _ _ _;rw[hkA];have TS:aC G3xa (TH G3xa md 7e13):=aC.cQ eM;have KE:∀ a u,a≠md->G3xa a=some u->TH G3xa md 7e13 a=some u:=fun a u n e=>by rw[aD n];exact e
  replace eM:TH G3xa md 7e13 md=some 7e13:=aA;replace hC:=hC.keep 1e19 TS;replace KH:Kp [] H (TH G3xa md 7e13):=fun b o e n=>KE _ _ 5e23 4e22;replace eN:=KE _ _ x1 eN;replace eO:=KE _ _ x3 eO;replace e2:=KE _ _ XZ.1.symm e2;replace Vz:=KE _ _ VT Vz;replace WS:=KE _ _ VU WS;generalize TH G3xa md 7e13=G3xx at *;clear TS KE;right;left
  exists eM
  refine fun aw hX=>?_;have N:=q0D (o:=.lst []) hX;have Zc:TH G3xx aw 2e0 aw=some 2e0:=aA;have faw:H aw=none:=KH.bR hX;have yaw:aw≠cl/\aw∉cs:=rW e2 hC hX;have XY:aw≠md:=fun z=>by rw[z,eM] at hX;cases hX
  have abO:aw≠nd:=fun z=>by rw[z,eN] at hX;cases hX
  have abQ:aw≠od:=fun z=>by rw[z,eO] at hX;cases hX
  have abL:aw≠dd:=fun z=>by rw[z,Vz] at hX;cases hX
  have abN:aw≠ld:=fun z=>by rw[z,WS] at hX;cases hX
  replace eN:=N.at eN;replace eO:=N.at eO;replace e2:=N.at e2;replace Vz:=N.at Vz;replace WS:=N.at WS;replace eM:=N.at eM;replace hC:=hC.keep 5e9 4e1;replace KH:=KH.trans N;generalize TH G3xx aw 2e0=G3xxa at *;clear N hX
  exists eM
  refine⟨by omega,?_⟩;obtain⟨kB,hkB⟩:∃ k,aS (κ:=Key) kA (.inr (Str.ofString "awaited")) (.ref aw)=k:=⟨_,rfl⟩;have lkB:kB.length<=kA.length+1:=hkB▸tY _ _ _;rw[hkB];have TS:aC G3xxa (TH G3xxa md 6e13):=aC.cQ eM;have KE:∀ a u,a≠md->G3xxa a=some u->TH G3xxa md 6e13 a=some u:=fun a u n e=>by rw[aD n];exact e
  replace eM:TH G3xxa md 6e13 md=some 6e13:=aA;replace hC:=hC.keep 1e19 TS;replace KH:Kp [] H (TH G3xxa md 6e13):=fun b o e n=>KE _ _ 5e23 4e22;replace eN:=KE _ _ x1 eN;replace eO:=KE _ _ x3 eO;replace e2:=KE _ _ XZ.1.symm e2;replace Vz:=KE _ _ VT Vz;replace WS:=KE _ _ VU WS;replace Zc:=KE _ _ XY Zc;generalize TH G3xxa md 6e13=G3xxx at *;clear TS KE;right;left
  exists eM
  refine⟨by omega,?_⟩;obtain⟨kC,hkC⟩:∃ k,aS (κ:=Key) kB (.inr (Str.ofString "outcome")) .TK=k:=⟨_,rfl⟩;have JP:kC.length<=kB.length+1:=hkC▸tY _ _ _;rw[hkC];have TS:aC G3xxx (TH G3xxx md 5e13):=aC.cQ eM;have KE:∀ a u,a≠md->G3xxx a=some u->TH G3xxx md 5e13 a=some u:=fun a u n e=>by rw[aD n];exact e
  replace eM:TH G3xxx md 5e13 md=some 5e13:=aA;replace hC:=hC.keep 1e19 TS;replace KH:Kp [] H (TH G3xxx md 5e13):=fun b o e n=>KE _ _ 5e23 4e22;replace eN:=KE _ _ x1 eN;replace eO:=KE _ _ x3 eO;replace e2:=KE _ _ XZ.1.symm e2;replace Vz:=KE _ _ VT Vz;replace WS:=KE _ _ VU WS;replace Zc:=KE _ _ XY Zc;generalize TH G3xxx md 5e13=G3xxxx at *;clear TS KE;right;wp_walk;obtain rfl:kC=[(.inr "code",.ref cl),(.inr "at",.int 0),(.inr "mode",.str "new"),(.inr "names",.ref nd),(.inr "arg",.TK),(.inr "now",.int 0),(.inr "made",.int 0),(.inr "open",.ref od),(.inr "done",.ref dd),(.inr "letters",.ref ld),(.inr "awaited",.ref aw),(.inr "outcome",.TK)]:=by rw[<- hkC,<- hkB,<- hkA,<- hk9,hk8];simp[aS,cK]
  refine q ⟨md,nd,od,dd,ld,cl,cs,[],0,aw⟩ _ ?_ ?_ rfl ⟨_,Zc⟩ KH
  ·have vv:∀ j:String,aY (κ:=Key) [(.inr "code",.ref cl),(.inr "at",.int 0),(.inr "mode",.str "new"),(.inr "names",.ref nd),(.inr "arg",.TK),(.inr "now",.int 0),(.inr "made",.int 0),(.inr "open",.ref od),(.inr "done",.ref dd),(.inr "letters",.ref ld),(.inr "awaited",.ref aw),(.inr "outcome",.TK)] (.inr 3e50)=(([(.inr "code",.ref cl),(.inr "at",.int 0),(.inr "mode",.str "new"),(.inr "names",.ref nd),(.inr "arg",.TK),(.inr "now",.int 0),(.inr "made",.int 0),(.inr "open",.ref od),(.inr "done",.ref dd),(.inr "letters",.ref ld),(.inr "awaited",.ref aw),(.inr "outcome",.TK)]:List (Key×V)).find? fun kv=>decide (kv.1=.inr 3e50)).map (·.2):=fun _=>rfl;refine⟨⟨fun j=>aY (κ:=Key) [(.inr "code",.ref cl),(.inr "at",.int 0),(.inr "mode",.str "new"),(.inr "names",.ref nd),(.inr "arg",.TK),(.inr "now",.int 0),(.inr "made",.int 0),(.inr "open",.ref od),(.inr "done",.ref dd),(.inr "letters",.ref ld),(.inr "awaited",.ref aw),(.inr "outcome",.TK)] (.inr j),⟨⟨_,eM,⟨by simp,fun _ _=>rfl⟩,?_,?_,?_,?_,?_,?_⟩,eN,eO,⟨[],Vz,.nil⟩,x1.symm,aaD.symm,List.Pairwise.nil,by simp[dM],by simp[dM],by simp[dM]⟩,?_,?_,?_,?_,?_⟩,e2,hC,⟨[],[],WS,.nil,by simp,fun _=>rfl⟩,ps0 b,VU.symm,aaC.symm,by simp,⟨yo.1,yo.2,ydd.1,ydd.2⟩,by simp⟩
   all_goals first|(rw[vv];simp[cK,dM,wv];done)|(dsimp only;rw[vv];simp[cK];done)|(show aY (κ:=Key) [(.inr "code",.ref cl),(.inr "at",.int 0),(.inr "mode",.str "new"),(.inr "names",.ref nd),(.inr "arg",.TK),(.inr "now",.int 0),(.inr "made",.int 0),(.inr "open",.ref od),(.inr "done",.ref dd),(.inr "letters",.ref ld),(.inr "awaited",.ref aw),(.inr "outcome",.TK)] (.inr (Str.ofString "mode"))=_;rw[vv];simp[cK];done)|skip
   intro k hk;simp only[OK6,Α,Δ,Ψ] at hk;rcases hk with rfl|rfl|rfl|rfl|rfl|rfl<;>(simp only[vv];simp[cK])
  ·intro a ha;simp only[Fa.mut,ϛ,Α,Δ,Ψ] at ha;rcases ha with rfl|rfl|rfl|rfl|rfl<;>assumption
theorem j5:Ok T 2e28 2 Cm:=by
 nomatch T.r 47
 ·obtain⟨r,n,rfl,_⟩:=h;rfl
 ·obtain⟨r,n,rfl,hR,hn,q⟩:=h
  nomatch (aI (pst 1 2e1) (pss3 (pif 2e10 3e22) (pif 2e10 (aJ (aK (pix aN (aV (dY 8e3 (pa3 (gD eF 8e3) (bG oY aB 8e3) 4e5))) 2e1)))) (aK 2e1))),0
  wp_walk;refine⟨_,hR,by omega,fun g H1 a1 b1 R1 K1=>?_⟩;split
  ·exact q none _ kM (R1.up 1e0) K1
  split
  ·refine⟨⟨by decide,by decide,by decide⟩,En 7e0 7e0,fun p hp=>⟨_,R1.new hp,by omega,fun g2 H2 a2 b2 R2 K2=>?_⟩⟩
   exists made1 K2 R1 hp
   refine iU a2 b2 fun v hv=>?_;simp only[Α,Δ,Ψ] at hv;have K:=K1.trans ((Kp.new hp).trans K2);rcases hv with rfl|rfl|rfl|rfl<;>exact q (some _) _ (fO 7e0 7e0) R2 K
  ·refine⟨_,R1,by omega,fun g2 H2 a2 b2 R2 K2=>?_⟩;exact q (some _) _ (fO 1e0 1e0) R2 9e21
theorem tE:Ok T (T.r 65) 4 Jq:=by
 nomatch T.r 65
 ·obtain⟨P0,A0,S,p,r,n,N,rfl,_⟩:=h;rfl
 ·obtain⟨P0,A0,S,p,r,n,N,rfl,F,FT,lN,hR,hn,s1,s2,s3,q⟩:=h
  nomatch (aI (pst 2 (pix aN (aV (pa2 2e1 (pcl 1e1 0e1 (pa2 pv0 (bG cS 8e3 aB))))) (bN gU rfl T.yI mB (pa1 (pcr aZ 2e1 aB))))) (aI (pst 3 2e1) (aI (pif (ptc aZ pv3 aB) (aJ (aK (aW (pa3 aE pv2 3e28))))) (aI (pif 7e30 (pss3 (pst 4 2e1) (pif (PW.pt (fT (ptc 1e49 6e4 8e0) (e9 7e30))) (aJ (pst 4 (pix aN 6e4 (pcl 1e1 0e1 (pa2 pv0 (bF cP rfl T.kX fG (pa1 6e4)))))))) (aK (aW (dY aE (pa3 pv2 pv4 3e28)))))) (pss3 (pst 5 (pix aN 7e15 2e1)) (pif (PW.pt (fT (ptc aZ 6e4 aE) (e9 7e30))) (aJ (pst 5 (pix aN (pix aN (pix aN 6e4 6e4) aB) aB)))) (aK (aW (dY aE (pa3 pv2 pv5 3e28))))))))),0
  obtain⟨ot,M0,Ve,c1,c2,c3,c4⟩:=F.ex;obtain⟨Up,Uh,U4,t1,t2,t3,t4,t5,t6⟩:=M0.hm;have vm:aY Up 1e17=some 7e21:=(U4.2 _ 4e0).trans c4.md;have va7:aY Up 9e0=some 5e11:=(U4.2 _ 4e0).trans c2;have vc7:aY Up 2e17=some 7e17:=(U4.2 _ 4e0).trans c1;have rmd:A0.md≠r:=fun z=>s1 9e22;have rod:A0.od≠r:=fun z=>s1 3e31;have lpd:=FT.pd;left;wp_walk;refine⟨n,hR,by omega,fun g1 H1 a1 b1 D1 K1=>⟨_,D1,by omega,fun g2 H2 a2 b2 D2 K2 p1 h1=>⟨_,D2.new h1,by omega,fun g3 H3 a3 b3 D3 K3=>?_⟩⟩⟩
  exists made1 K3 D2 h1
  refine iU 6e49 6e49 fun v hv=>?_;obtain⟨mo,rfl,hm⟩:∃ mo:Int,v=.int mo/\0<=mo/\mo<=1000000000000:=by
   simp only[Α,Δ,Ψ] at hv;rcases hv with rfl|rfl
   ·exact⟨_,rfl,by omega,by omega⟩
   ·exact⟨_,rfl,by omega,by omega⟩
  have KK:Kp [r] H H3:=((K1.trans K2).trans 0e26).trans K3;clear K1 K2 K3 D1 D2 h1 hv;wp_walk;right;left;wp_walk;refine⟨_,D3,by omega,fun kd H4 a4 b4 D4 K4=>?_⟩;replace KK:=KK.trans K4;clear K4 D3;wp_walk;right;left;wp_walk;split
  ·refine⟨r,_,rfl,D4,by omega,fun w H5 hw D5 K5=>?_⟩;wp_walk;intro p5 h5;exact q _ (.UE mo w) _ _ ⟨p5,rfl,aA⟩ ⟨hm,hw⟩ (D5.new h5) 1e0 ((KK.trans K5).trans 4e56)
  right;left;refine cR fun RI TZ=>?_;wp_walk;split
  ·refine TZ _ _ ?_;clear TZ RI;left;wp_walk;refine⟨_,D4,by omega,fun tk H5 a5 b5 D5 K5=>?_⟩;replace KK:=KK.trans K5;wp_walk;right;refine cG fun R6 XB=>?_;refine cR fun RI TZ=>?_
   suffices fin:∀(j:Int) (n':Nat) (G:Hp),cH G r n'->n'<=n+8->Kp [r] H G->R6 [some 7e24,some 4e7,some (.int mo),some 1e6,some 9e34,none] G by
    have YS:=KK.at1 M0.ho rod;have UH:=KK.at1 Uh rmd
    exists UH,t5,YS
    refine fun p2 h2=>⟨_,LM ((q0D h2).at YS) aA,?_⟩;have N2:=q0D (o:=.lst []) h2;split
    ·next hp =>
     split
     ·refine TZ _ _ ?_;replace YS:=N2.at YS;replace UH:=N2.at UH;have pos:0 < S.pend.length:=by
       cases e:S.pend with
       | nil=>rw[e] at hp;simp at hp
       | cons _ _=>simp
      exists UH,t5,YS
      rw[Γ];refine⟨by omega,by omega,_,D5.new h2,by omega,fun g H' ag bg D6 K6=>?_⟩;have ho6:=K6.at1 YS rod;obtain⟨j,ej⟩:∃ j,fU 3e2 g=some 9e34:=by
       obtain⟨g',rfl⟩:∃ g':Nat,g=(g':Int):=⟨g.toNat,by omega⟩;exact⟨S.pend[g']' 1e0,eI 0e0⟩
      exists ho6,ej
      exact fin j _ _ D6 1e0 ((KK.trans (N2.mono 0e0)).trans K6)
     ·exact fin tk _ _ 8e56 1e0 0e45
    ·exact fin tk _ _ 8e56 1e0 0e45
   intro j n' G RG ln KG;clear RI TZ;refine XB _ _ ?_;clear XB;clear R6;wp_walk;refine⟨r,_,rfl,RG,by omega,fun w H6 hw D6 K6=>?_⟩;wp_walk;intro p6 h6;exact q _ (.don mo j w) _ _ ⟨p6,rfl,aA⟩ ⟨hm,hw⟩ 7e56 1e0 ((KG.trans K6).trans 3e56)
  clear TZ RI;right;left;wp_walk;refine fun p5 h5=>⟨_,D4.new h5,by omega,fun g5 G5 a5 b5 D5 K5=>?_⟩
  exists made1 K5 D4 h5
  refine iU a5 b5 fun y5 hy5=>?_;obtain⟨z5,rfl⟩:∃ z:Str,y5=.str z:=by simp only[Α,Δ,Ψ] at hy5;rcases hy5 with rfl|rfl<;>exact⟨_,rfl⟩
  replace KK:Kp [r] H G5:=(KK.trans 4e56).trans K5;wp_walk;right;refine cG fun R6 XB=>?_;refine cR fun RI TZ=>?_
  suffices fin:∀ z:Str,R6 [some 7e24,some 4e7,some (.int mo),some 1e6,none,some (.str z)] G5 by
   have UH:=KK.at1 Uh rmd
   exists UH,vm,El
   split
   ·next hh =>
    rw[El] at hh;obtain⟨k',hs⟩:=hh;obtain⟨x,Ud⟩:=FT.sl.1 k' hs;obtain⟨pt,ec⟩:=F.ps.ent Ud;obtain⟨a,ea,pa,Yn,sv,VE,eA⟩:=F.co.at ec;have ar:a≠r:=fun z=>s3 (z▸Υ ea);have eA5:=KK.at1 eA ar;replace VE:=VE.kp (hR.tk KK);have ix:fU 0e21 (p:Int)=some 0e2:=eI 7e20;have Ws:=KK.at1 F.cl (fun z=>s2 z.symm);cases VE with
    | @TV a0 x k' e1 =>
     split
     ·refine TZ _ _ ?_
      exists UH,va7,vc7,Ws,ix,eA5,e1
      exact fin _
     ·exact fin _
   ·exact fin _
  intro z;clear RI TZ;refine XB _ _ ?_;clear XB;clear R6;wp_walk;refine⟨r,_,rfl,D5,by omega,fun w H6 hw D6 K6=>?_⟩;wp_walk;intro p6 h6;exact q _ (.ltr mo z w) _ _ ⟨p6,rfl,aA⟩ ⟨hm,hw⟩ 7e56 1e0 ((KK.trans K6).trans 3e56)
theorem sL:Ok T 0e34 1 Jo:=by
 nomatch T.r 58
 ·obtain⟨P0,A0,S,p,w,op,cs,rfl,_⟩:=h;rfl
 ·obtain⟨P0,A0,S,p,w,op,cs,rfl,F,O,lc,q⟩:=h
  nomatch (aI 6e16 (pss3 (ppt pv0 aE pv1) (ppt pv0 aE 8e0) (aQ (dD pv2 8e20)))),0
  obtain⟨ot,M0,Ve,c1,c2,c3,c4⟩:=F.ex;obtain⟨us,eo,hC,s1,s2,s3⟩:=O;have lu:=hC.len;have F0:=F;have e00:=eo;have KM:Kp [A0.md] H H:=Kp.refl;have TM:aC H H:=fun _ _ e=>e;obtain⟨Up,Uh,U4,_⟩:=M0.hm;obtain⟨y0,ZR⟩:=Ve "mode" 4e0;left
  exists Uh
  refine⟨by omega,?_⟩;refine M0.six Uh (k:="mode") 4e0 ZR Ve KM TM 0e0 (.str "ended") fun G1 M1 V8 KM TM Yt X3 Y7=>?_;replace eo:=Yt eo 3e1;replace hC:=hC.kt X3;clear Yt X3 Y7 Uh U4;right;obtain⟨Uz,Ue,U9,_⟩:=M1.hm;obtain⟨y1,ZS⟩:=V8 "outcome" 4e0;left
  exists Ue
  refine⟨by omega,?_⟩;refine M1.six Ue (k:="outcome") 4e0 ZS V8 KM TM 0e0 (wv w) fun G2 M2 WM KM TM Xq WQ Xu=>?_;replace eo:=Xq eo 3e1;replace hC:=hC.kt WQ;clear Xq WQ Xu Ue U9;right;left;obtain⟨XO,UD,YX,_⟩:=M2.hm
  exists UD
  refine fun o2 UC=>?_;generalize hg:TH G2 o2 2e0=G2a;have N:Kp [] G2 G2a:=hg▸Kp.new UC;have UZ:G2a o2=some 2e0:=hg▸aA;clear hg;have Zo:H o2=none:=by
   cases e:H o2 with
   | none=>rfl
   | some o =>
    by_cases z:o2=A0.md
    ·rw[z,UD] at UC;cases UC
    ·rw[KM.at1 e z] at UC;cases UC
  have WL:op≠o2:=aF eo UC;have nd2:o2≠A0.dd:=fun z=>by
   obtain⟨ds,ed,_⟩:=M2.hd;rw[z,ed] at UC;cases UC
  replace M2:=M2.kp N;replace UD:=N.at UD;replace eo:=N.at eo;replace hC:=hC.kt 4e1;replace KM:=KM.trans (N.mono (T:=[A0.md]) 0e0);replace TM:=TM.trans 4e1
  exists UD
  refine⟨by omega,?_⟩;have M3:=M2.opn UD UZ nd2;have KS2:Kp [A0.md] G2a 9e44:=Kp.j8;have TS2:aC G2a 9e44:=aC.cQ UD;replace eo:=cZ (u:=.dK 9e26) UD eo;replace hC:=hC.kt TS2;replace KM:=KM.trans KS2;replace TM:=TM.trans TS2;generalize TH G2a A0.md (.dK 9e26)=G3 at *;clear KS2 TS2 UD YX N UC UZ;right
  exists eo
  refine fun pt WI=>?_;generalize hg:TH G3 pt 2e45=G3b;have N:Kp [] G3 G3b:=hg▸Kp.new WI;have YL:G3b pt=some 2e45:=hg▸aA;clear hg;replace M3:=M3.kp N;replace eo:=N.at eo;replace hC:=hC.kt 4e1;replace KM:=KM.trans (N.mono (T:=[A0.md]) 0e0);replace TM:=TM.trans 4e1
  exists eo
  refine⟨by omega,?_⟩;have T4:aC G3b (TH G3b op 9e6):=aC.cQ eo;have K4:Kp [op] G3b (TH G3b op 9e6):=Kp.j8;have hC4:=(hC.app 4e51).kt T4;have nod:op≠A0.dd:=fun z=>s1 1e21;have nom:op≠A0.md:=fun z=>s1 9e22;have M4:=M3.other (vs:=us++[.ref pt]) eo WL nod;have KF:Kp [A0.md,op] H (TH G3b op 9e6):=fun b o e n=>K4.at1 (KM.at1 e 2e20) 2e20;obtain⟨w1,w2,w3⟩:=F0.new Zo;refine q _ p _ (F0.asm 2e19 WM ?_ ?_ ?_ ⟨?_,?_⟩ 3e30 3e53 rfl F0.ps w1 w2) ⟨_,aA,hC4,Q5 s1 WL,s2,s3⟩ 8e41
  ·simp[cK,c1]
  ·simp[cK,c2]
  ·simp[cK,c3]
  ·simp[cK]
  ·simp
  ·obtain⟨a1,a2,a3,a4,a5⟩:=F0.Ea s1 s2 s3 hb;exact KF b o e 1e50
  ·simp only[Α,Δ,Ψ] at hb;rcases hb with rfl|rfl
   ·obtain⟨kv,e,_⟩:=M4.hm;exact⟨.inl bD.1,_,e⟩
   ·exact⟨.inr 0e0,_,aA⟩
theorem oK:Ok T 1e34 1 Du:=by
 nomatch T.r 53
 ·obtain⟨n,rfl,_⟩:=h;rfl
 ·obtain⟨n,rfl,q⟩:=h
  nomatch (aJ (aK (bF 3e13 rfl T.A8 oV (pa2 (gD eF 8e3) (bF 3e24 rfl T.GN z9 (pa2 8e3 pv0)))))),0
  wp_walk;exact q
theorem Dx{d:Nat}(hn:3<=n)(IH:gO P w K mg base UR n (t.a 54) (t.d 54) ["saying","run"] (tZ d)):Ok T 3e18 (n+1) (tZ (d+1)):=by
  nomatch T.r 54
  · obtain⟨v,md,nd,od,dd,ot,S,s,rfl,_⟩:=h;rfl
  · obtain⟨v,md,nd,od,dd,ot,S,s,rfl,hS,hd,TY,M,hP,q⟩:=h;have hu:=mH hr
    nomatch (aI (pst 2 5e2) (aI (pif 6e3 1e53) (aI (pif 6e3 3e22) (aI (pif 6e3 (aJ (aK (tS hu 6e4 5e2 ⟨rfl,rfl,rfl,rfl⟩)))) (aI (pif 6e3 (aJ (aK 6e4))) (aI (pif 6e3 (aJ (aK (pcl (oK T) 1e34 (pa1 6e4))))) (aI (pst 3 0e42) (aI (pif 6e3 (aJ (aK (tS hu (bN ((CO rfl)) rfl T.JO JW (pa1 6e4)) pv3 ⟨rfl,rfl,rfl,rfl⟩)))) (aI (pif 6e3 (aJ (aK (bN gU rfl T.yI mB (pa1 (Mv (pcr mR pv3 cN) (mU (pcr aZ pv3 aB)))))))) (aI (pst 4 0e42) (aI (pif 6e3 (aJ (aK (bN gU rfl T.yI mB (pa1 (pcr aZ pv3 pv4)))))) (aI (pst 5 (AD pv3 (mU aB))) (pss3 (pst 6 4e50) (pif 6e3 (aJ (aK (bN gU rfl T.yI mB (pa1 (pcr j6 pv5 pv6)))))) (aK (pcl (oK T) 1e34 (pa1 (pdg (Ew (fS aE (bG cS pv5 pv6) (fS aE (bG jL pv5 pv6) (fS aE (bG oY pv5 pv6) Ez))) rfl rfl 6e46 7e0) pv2))))))))))))))))),0
    obtain⟨kvs,em,_,v1,v2,v3,v4,v5,v6⟩:=M.hm;cases hS with
    | num e =>
      exists e
      exact q _ Kp.refl
    | TK e =>
      exists e
      exact q _ Kp.refl
    | @name a x e =>
      exists e,em,v1,M.hn,pR
      exact q _ Kp.refl
    | arg e =>
      exists e,em,v2
      exact q _ Kp.refl
    | now e =>
      exists e,em,v3
      exact q _ Kp.refl
    | @ans a v s e h1 =>
      exists e
      simp only[Say.depth] at hd;refine⟨_,md,nd,od,dd,ot,S,_,rfl,h1,by omega,TY,M,hP,fun H1 K1=>?_⟩;obtain⟨ds,ed,rd⟩:=M.hd
      exists K1.at em,v6,K1.at ed
      refine⟨_,(rd.kt 3e3).pairs,fun p hp=>?_⟩
      exists FJ M.uq,pC
      rw[RO] at q;exact q _ (K1.trans 1e10)
    | @neg a v s e h1 =>
      exists e
      simp only[Say.depth] at hd;refine⟨_,md,nd,od,dd,ot,S,_,rfl,h1,by omega,TY,M,hP,fun H1 K1=>?_⟩;rw[RU] at q;cases hw:S.worth s with
      | none =>
        rw[hw] at q
        exists wv
        exact q _ K1
      | some z =>
        rw[hw] at q
        exists wv,reduceCtorEq
        by_cases hz:z=0
        · subst hz;exact q _ K1
        · have:=q _ K1;simp only[num,Ε3,hz,Β4,wv] at this;simpa[hz] using this
    | @two a v u g s1 s2 e h1 h2 =>
      simp only[Say.depth] at hd;rw[RW] at q;have w1:dX 4e17:=D8 hP TY.1;have w2:dX 3e17:=D8 hP TY.2;have b1:=vD w1;have b2:=vD w2;cases g <;>
      ( exists e,Sg.s
        refine⟨_,md,nd,od,dd,ot,S,_,rfl,h1,by omega,TY.1,M,hP,fun H1 K1=>?_⟩
        exists K1.at e,Sg.s
        refine⟨_,md,nd,od,dd,ot,S,_,rfl,h2.kp 3e3,by omega,TY.2,M.kp K1,hP,fun H2 K2=>?_⟩;have q0:=q;replace q:=q H2 9e21;wp_walk)
      case eq =>
        refine QJ ?_;wp_walk;rw[show(Sg.eq.of 4e17 3e17)=if S.worth s1=S.worth s2 then 1 else 0 from rfl] at q;simpa[wv] using q
      case lt =>
        exists decide_eq_true_eq
        exact q
      all_goals (
        refine fun p hp=>⟨En 1e0 1e0,[(.inr "+",.int (num 4e17+num 3e17)),(.inr "-",.int (num 4e17 - num 3e17)),(.inr "*",.int (num 4e17 * num 3e17))],rfl,by simp,?_⟩
        exists FK,RK,RN,RM
        exact q0 _ ((K1.trans K2).trans (Lc hp)))
theorem jH(T:Tx P w base K mg t):∀ d,gO P w K mg base UR (d+3) (t.a 54) (t.d 54) ["saying","run"] (tZ d):=by
 intro d
 induction d with
 | zero=>exact⟨fun _ _ _ _ x=>by (obtain⟨_,_,_,_,_,_,_,s,_,_,h,_⟩:=x;exact absurd h (by have:=s.nK;omega)),fun _ _ _ _ _ _ _ _ _ _ _ _ _ x=>by (obtain⟨_,_,_,_,_,_,_,s,_,_,h,_⟩:=x;exact absurd h (by have:=s.nK;omega))⟩
 | succ d ih=>exact Dx T 1e0 ih
theorem Ax:Ok T (T.r 60) 11 (Dv (fun m=>∃ x ss,m=.wait x ss)):=by
 nomatch T.r 60
 ·obtain⟨P0,A0,S,p,v,m,rfl,_⟩:=h;rfl
 ·obtain⟨P0,A0,S,p,v,m,rfl,F,sn,hs,gm,g,st,hP,b1,b2,b3,q⟩:=h
  nomatch (aI (AE (i:=2) sc rfl 5e54 (pX (fr:=[0]) (N:=["saying","run"]) rfl 7e3 (fF.free rfl rfl rfl rfl rfl 3e25 rfl 7e0 rfl 1e35) (IZ 3e0) (fun C s H ex pn=>⟨AH,(AA 4e24 (hr.mono 1e0) rfl (T.r 54).m (T.r 54).fn.kp (T.r 54).bd .nil pass0 (dY 1e2 (dY 8e4 bU))) ⟩))) (aI (B7 (i:=3) (fr:=[2]) (N:=["ticket","worth","worths"]) rfl 7e3 (kY.of (M:=["ticket","worths"]) 4e25 rfl 7e0 rfl) (j7 5e0) (fun C s H ex pn=>⟨lL (fJ kE 1e2 (pv 2) 2e4) ,1e2 ⟩) sc rfl 5e10) (aI (ppt pv0 aE (pX (fr:=[2]) (N:=["ticket","worths"]) rfl 7e3 4e25 (j7 5e0) 6e36)) (pss3 (pif (PW.pt (fT (ptc 4e49 pv3 8e0) (e9 (ptc 1e49 5e0 8e0)))) (pss2 6e16 tW)) (ppt 5e0 3e0 (pix aN (bG cS pv3 (aV (pa1 cN))) aB)) 4e15)))),0
  obtain⟨x,ss,rfl⟩:=gm;cases hs with
  | @wait a pp x vs ss e1 e2 hss =>
   obtain⟨_,g4,gs⟩:=g;have lv:=hss.OJ;obtain⟨ot,M0,Ve,c1,c2,c3,c4⟩:=F.ex;left
   exists e1
   refine⟨⟨_,iR.of e2⟩,?_⟩;obtain⟨Pv,Ua⟩:∃ Pv:Nat->List V->Hp->Prop,∀ i xs G,Pv i xs G=(Kp [] H G/\xs=((ss.take i).map S.worth).map wv):=⟨_,fun _ _ _=>rfl⟩;refine Im (ys:=vs) Pv ?_ ?_ ?_ ?_ ?_
   ·rw[Ua];exact⟨Kp.refl,rfl⟩
   ·intro i xs G h;rw[Ua] at h;rw[h.2,Γ,Γ,Α7];omega
   ·intro i xs G h;rw[Ua] at h;exact iR.of (h.1.at e2)
   ·intro i y xs G hi ey h;rw[Ua] at h;obtain⟨k,rfl⟩:=h;obtain⟨s0,es,h0⟩:=hss.atW ey;obtain⟨sk1,sk2⟩:=gs s0 (Υ es)
    exists bC,Β6
    refine⟨y,A0.md,A0.nd,A0.od,A0.dd,ot,S,s0,rfl,h0.kp (aC.nil k),sk2,sk1,M0.kp k,hP,fun G' k'=>?_⟩;show Pv 5e1 _ _;rw[Ua,Α8,es];exact⟨k.trans k',by simp⟩
   intro xs G h p1 WW;rw[Ua] at h;obtain⟨k,rfl⟩:=h;rw[lv,Α0];obtain⟨ws,U3⟩:∃ ws,ws=ss.map S.worth:=⟨_,rfl⟩;have hd:bT S 7e12=if bA S.ans ws=none/\bO S.pend ws≠[] then ({S with sl:=.wait 6e21},[]) else ({S with nm:=cB S.nm x 3e9},[]):=by rw[U3];rfl
   rw[<- U3];have lw:ws.length<=4:=by rw[U3,Γ];exact g4
   clear U3 Ua Pv;have N1:=k.trans (q0D (o:=.lst 2e7) WW);have f1:TH G p1 3e7 p1=some 3e7:=aA;generalize TH G p1 3e7=G1 at *;have F1:=F.kp N1;have M1:=M0.kp N1;replace e1:=N1.at e1;right;left;obtain⟨Uz,Ue,U9,u1,u2,u3,u4,u5,u6⟩:=M1.hm;obtain⟨ds,ed,WE⟩:=M1.hd;have lds:=WE.len
   exists Ue,u6
   refine⟨⟨_,fY.of ed⟩,?_⟩;obtain⟨Pw,Uq⟩:∃ Pw:Nat->List V->Hp->Prop,∀ i xs G',Pw i xs G'=(G'=G1/\xs=(dH 1e52 ws).map V.int):=⟨_,fun _ _ _=>rfl⟩;refine Ik (ys:=ds) Pw ?_ ?_ ?_ ?_ ?_
   ·rw[Uq];exact⟨rfl,rfl⟩
   ·intro i xs G' h;rw[Uq] at h;have:=Δ1 (fun p:Int×Wo=>decide (some p.1∈ws)) 1e52;rw[h.2,Γ,dH,Γ];rw[Α7] at this;omega
   ·intro i xs G' h;rw[Uq] at h;rw[h.1];exact fY.of ed
   ·intro i y xs G' hi ey h;rw[Uq] at h;obtain⟨rfl,rfl⟩:=h;obtain⟨t0,j0,w0,rfl,ej,et⟩:=WE.at ey;refine⟨t0,_,_,rfl,iR.of et,?_⟩
    exists bC,Β6,f1,Ah
    refine⟨rfl,Bq ws,?_⟩;rw[Uq,Uq,Dq ej];split
    ·next h=>exact⟨rfl,(if_pos 2e16).symm⟩
    ·next h=>exact⟨rfl,(if_neg 2e16).symm⟩
   intro xs G' h p2 WH;rw[Uq,lds,Α0] at h;obtain⟨rfl,rfl⟩:=h;clear Uq Pw;have N2:=q0D (o:=.lst 3e26) WH;have f2:TH G' p2 4e26 p2=some 4e26:=aA;have n12:p2≠A0.md:=fun z=>by rw[z,Ue] at WH;cases WH
   generalize TH G' p2 4e26=G2 at *;replace F1:=F1.kp N2;replace M1:=M1.kp N2;replace e1:=N2.at e1;replace f1:=N2.at f1;replace N1:=N1.trans N2;clear Ue U9 u1 u2 u3 u4 u5 u6 ed WE N2 Uz ds lds;right;left;obtain⟨Uz,Ue,U9,u1,u2,u3,u4,u5,u6⟩:=M1.hm;obtain⟨y1,ZS⟩:=Ve "awaited" 4e0
   exists Ue,u5
   refine⟨⟨_,fY.of M1.ho⟩,?_⟩;obtain⟨Pw,Uq⟩:∃ Pw:Nat->List V->Hp->Prop,∀ i xs G',Pw i xs G'=(G'=G2/\xs=((S.pend.take i).filter fun j=>decide 5e52).map V.int):=⟨_,fun _ _ _=>rfl⟩;refine pO (ys:=S.pend.map V.int) Pw ?_ ?_ ?_ ?_ ?_
   ·rw[Uq];exact⟨rfl,rfl⟩
   ·intro i xs G' h;rw[Uq] at h;have:=Δ1 (fun j=>decide 5e52) (S.pend.take i);rw[h.2,Γ];rw[Α7] at this;omega
   ·intro i xs G' h;rw[Uq] at h;rw[h.1];exact fY.of M1.ho
   ·intro i y xs G' hi ey h;rw[Uq] at h;obtain⟨rfl,rfl⟩:=h;rw[ϔ] at ey;obtain⟨j0,ej,rfl⟩:=Ϛ.mp ey
    exists bC,Β6,f1,Ah
    refine⟨rfl,Bq ws,?_⟩;rw[Uq,Uq,Fk ej];split
    ·next h=>exact⟨rfl,(if_pos 2e16).symm⟩
    ·next h=>exact⟨rfl,(if_neg 2e16).symm⟩
   intro xs G' h p3 XI;rw[Uq,Γ,Α0,BZ M1.asc] at h;obtain⟨rfl,rfl⟩:=h;clear Uq Pw;have N2:=q0D (o:=.lst 6e2) XI;have f3:TH G' p3 (.lst 6e2) p3=some (.lst 6e2):=aA;obtain⟨w1,w2,w3⟩:=F1.new XI;have fp3:H p3=none:=N1.bR XI;replace F1:=F1.kp N2;replace M1:=M1.kp N2;replace e1:=N2.at e1;replace Ue:=N2.at Ue;replace f2:=N2.at f2;replace N1:=N1.trans N2;generalize TH G' p3 (.lst 6e2)=G1 at *;have KM:Kp [A0.md] G1 G1:=Kp.refl;have TM:aC G1 G1:=fun _ _ e=>e;have V8:=Ve
   exists Ue
   refine⟨by omega,?_⟩;refine M1.six Ue (k:="awaited") 4e0 ZS V8 KM TM 0e0 1e33 fun G2 M2 WM KM TM Xq WQ Xu=>?_;replace f2:=Xq f2 3e1;replace f3:=Xq f3 3e1;replace e1:=Xq e1 3e1;clear Xq WQ Xu Ue U9;right;obtain⟨Vo,M2,WM,d1,d2,d3,da,dm⟩:∃ Vo:Str->Option V,cX G2 A0.md A0.nd A0.od A0.dd Vo S/\(∀ k∈OK6,∃ v,Vo k=some v)/\Vo "code"=some 7e17/\Vo "at"=some 5e11/\Vo "letters"=some 6e17/\Vo "awaited"=some 1e33/\Vo "mode"=some 9e56:=⟨_,M2,WM,(eQ).trans c1,(eQ).trans c2,(eQ).trans c3,wK,(eQ).trans (by rw[sn] at c4;exact c4)⟩;have kn2:(fI S.nm).length<=100000:=by rw[fI,Γ];exact b1
   refine cG fun R4 XA=>?_;refine cR fun RI TZ=>?_
   suffices fin:(bA S.ans ws=none/\bO S.pend ws≠[]->∀ G,3e35->RI [some 4e7,some 0e2,some 1e11,some 1e3] G)/\(¬ 5e40->∀ G,3e35->R4 [some 4e7,some 0e2,some 1e11,some 1e3] G) by
    obtain⟨XO,UD,YX,t1,t2,t3,t4,t5,t6⟩:=M2.hm;have va:aY XO 5e50=some 1e33:=(YX.2 _ 4e0).trans da
    exists f2
    refine fun q1 h1=>⟨_,LM ((q0D h1).at f2) aA,?_⟩;generalize hg:TH G2 q1 2e0=G3;have NQ:Kp [] G2 G3:=hg▸Kp.new h1;clear hg;replace M2:=M2.kp NQ;replace UD:=NQ.at UD;replace f2:=NQ.at f2;replace f3:=NQ.at f3;replace e1:=NQ.at e1;replace KM:=KM.trans (NQ.mono (T:=[A0.md]) 0e0);replace TM:=TM.trans 6e55
    exists UD,va
    split
    ·next hr =>
     have hf:bA S.ans ws=none:=by rw[mW];simpa using hr
     refine fun q2 h2=>⟨_,LM ((q0D h2).at f3) aA,?_⟩;have NR:=q0D (o:=.lst []) h2;split
     ·next ho=>exact fin.1 ⟨hf,by simpa using ho⟩ _ ⟨M2.kp NR,NR.at e1,NR.at f2,NR.at f3,KM.trans (NR.mono 0e0),TM.trans 5e55⟩
     ·next ho=>exact fin.2 (fun z=>ho (by simpa using z.2)) _ ⟨M2.kp NR,NR.at e1,NR.at f2,NR.at f3,KM.trans (NR.mono 0e0),TM.trans 5e55⟩
    ·next hr=>exact fin.2 (fun z=>hr (by have:=z.1;rw[mW] at this;simpa using this)) _ ⟨M2,e1,f2,f3,KM,TM⟩
   clear KM TM M2 e1 f2 f3;refine⟨fun cw G3 ⟨M3,e1,f2,f3,KM,TM⟩=>TZ _ _ ?_,fun cw G3 ⟨M3,e1,f2,f3,KM,TM⟩=>?_⟩
   ·clear TZ RI;have Z6:=WM;obtain⟨WK,UG,VF,_⟩:=M3.hm;obtain⟨y3,hy3⟩:=Z6 "mode" 4e0;left
    exists UG
    refine⟨by omega,?_⟩;refine M3.six UG (k:="mode") 4e0 hy3 Z6 KM TM 0e0 (.str "wait") fun G4 M4 os4 KM TM ZW TS3 Y8=>?_;replace f3:=ZW f3 3e1;clear ZW TS3 Y8 UG VF;right;wp_walk;have h1:one S 7e12=({S with sl:=.wait 6e21},[]):=by rw[kD rfl,hd,if_pos cw];rfl
    rw[h1] at q;refine q {A0 with aw:=p3} p G4 ((F1.Rq sn p3).pF 2e19 os4 6e51 ((eQ).trans d2) 5e51 ⟨wK,(eQ).trans da,f3,w3⟩ 3e40 TM rfl F1.ps) (((Fm.of N1).trans 2e27).awN fp3 f3);rw[show b=A0.md by simpa using hb];obtain⟨kv,e,_⟩:=M4.hm;exact⟨.inl bD.1,_,e⟩
   ·clear TZ RI;refine XA _ _ ?_;clear XA;clear R4;obtain⟨WK,UG,VF,t1,t2,t3,t4,t5,t6⟩:=M3.hm;left
    exists UG,t1,f2,e1,M3.hn
    refine fun p4 h4=>?_;generalize hg:TH G3 p4 0e55=G4;have N4:Kp [] G3 G4:=hg▸Kp.new h4;have e4:G4 p4=some 0e55:=hg▸aA;clear hg;replace M3:=M3.kp N4;replace UG:=N4.at UG;replace f2:=N4.at f2;replace e1:=N4.at e1;replace KM:=KM.trans (N4.mono (T:=[A0.md]) 0e0);replace TM:=TM.trans 4e2
    exists f2,e4
    refine⟨by have:=Gv S.ans ws;rw[Γ];omega,fun p5 h5=>?_⟩;rw[Jd];have N5:=q0D (o:=.lst 7e41) h5;replace M3:=M3.kp N5;replace UG:=N5.at UG;replace e1:=N5.at e1;replace KM:=KM.trans (N5.mono (T:=[A0.md]) 0e0);replace TM:=TM.trans 7e55;generalize TH G4 p5 (.lst 7e41)=G5 at *
    exists UG,t1,e1,M3.hn,gK
    refine⟨by omega,?_⟩;have M6:=M3.name x 3e9;have TN:aC G5 4e45:=aC.cQ M3.hn;have KN:Kp [A0.md,A0.nd] G5 4e45:=Kp.set 0e0;replace KM:=(KM.mono (T:=[A0.md,A0.nd]) 0e0).trans KN;replace TM:=TM.trans TN;generalize TH G5 A0.nd (.dK 6e14)=G6 at *;clear UG VF t1 t2 t3 t4 t5 t6 N4 N5 TN KN;have os6:=WM;right;obtain⟨kv6,em6,lk6,_⟩:=M6.hm;have vat:aY kv6 9e0=some 5e11:=(lk6.2 _ 4e0).trans d2;obtain⟨y6,hy6⟩:=os6 "at" 4e0
    exists em6,vat
    refine⟨by omega,?_⟩;refine M6.six em6 (k:="at") 4e0 hy6 os6 KM TM 0e0 5e49 fun G7 M7 os7 KM TM kp6 TS6 KS6=>?_;clear kp6 TS6 KS6 em6 lk6;have h1:one S 7e12=(({S with nm:=cB S.nm x 3e9}:Pu).pass,[]):=by rw[kD rfl,hd,if_neg cw,if_pos (by rw[show(({S with nm:=cB S.nm x 3e9}:Pu).sl)=S.sl from rfl,sn];rfl)]
    rw[h1] at q;have Vn:=F1.ps.pass st;rw[JD rfl] at Vn;refine q A0 (p+1) G7 (F1.pF 6e40 os7 6e51 wK 5e51 ?_ (fun b o e hb=>KM b o e (by have:=F1.far hb;simp[this.1,this.2.1])) TM rfl Vn) 3e27
    ·show eX _ _ _ S.sl;rw[sn] at c4 ⊢;exact(eQ).trans dm
    ·simp only[Α,Δ,Ψ] at hb;rcases hb with rfl|rfl
     ·obtain⟨kv,e,_⟩:=M7.hm;exact⟨.inl bD.1,_,e⟩
     ·exact⟨.inl bD.2.1,_,M7.hn⟩
theorem Aw:Ok T (T.r 61) 1 (Dv (fun m=>∃ x k,m=.TV x k)):=by
 nomatch T.r 61
 ·obtain⟨P0,A0,S,p,v,m,rfl,_⟩:=h;rfl
 ·obtain⟨P0,A0,S,p,v,m,rfl,F,sn,hs,gm,g,st,hP,b1,b2,b3,q⟩:=h;have hu:=mH hr
  nomatch (pss3 (pif (ptc 4e49 (rS hu 5e0 3e0 8e0 ⟨rfl,rfl,rfl,rfl⟩) 8e0) (pss2 6e16 tW)) (ppt 5e0 3e0 8e35) 4e15),0
  obtain⟨x,k,rfl⟩:=gm;cases hs with
  | @TV a x k e1 =>
   obtain⟨ot,M0,Ve,c1,c2,c3,c4⟩:=F.ex;obtain⟨lk,ml,el,hl,YV,hq⟩:=F.lt;obtain⟨Up,Uh,U4,t1,t2,t3,t4,t5,t6⟩:=M0.hm;have vl:aY Up 2e21=some 6e17:=(U4.2 _ 4e0).trans c3;have kn2:(fI S.nm).length<=100000:=by rw[fI,Γ];exact b1
   refine cG fun R1 Zu=>?_;refine cR fun RI TZ=>?_
   suffices fin:((aT S.lt k).getD []=[]->∀ G,Kp [] H G->RI [some 4e7,some 0e2] G)/\(∀ w r l,(aT S.lt k).getD []=w::r->aY lk 8e2=some 7e34->l∈A0.las->∀ G,G l=some (.lst ((w::r).map wv))->Kp [] H G->R1 [some 4e7,some 0e2] G) by
    exists Uh,vl,e1,el
    refine fun p1 h1=>?_;have N1:=q0D (o:=.lst []) h1;have e0:TH H p1 2e0 p1=some 2e0:=aA;have hl':=hl.keep 2e29;have el':=N1.at el;obtain⟨l,ws,hv,Wi,U3,hx⟩:∃ l ws,(aY lk 8e2).getD 1e11=.ref l/\TH H p1 2e0 l=some 3e7/\(aT S.lt k).getD []=ws/\(ws≠[]->aY lk 8e2=some 7e34/\l∈A0.las):=by
     rcases hl'.look k with⟨z1,z2⟩|⟨l,ws,z1,z2,z3,z4⟩
     ·exact⟨p1,[],by rw[z1];rfl,e0,by rw[<- hq k,z2];rfl,fun z=>absurd rfl z⟩
     ·exact⟨l,ws,by rw[z1];rfl,z4,by rw[<- hq k,z2];rfl,fun _=>⟨z1,z3⟩⟩
    generalize TH H p1 2e0=G1 at *
    exists el',hv
    refine fun p2 h2=>?_;have N2:=q0D (o:=.lst []) h2;have WV:=N2.at Wi;refine⟨_,LM WV aA,?_⟩;cases ws with
    | nil=>exact fin.1 U3 _ 4e53
    | cons w r =>
     obtain⟨x1,x2⟩:=hx 0e0;exact fin.2 w r l U3 x1 x2 _ WV 4e53
   refine⟨fun hn G1 N1=>TZ _ _ ?_,fun w r l hn hv hll G1 Xe N1=>?_⟩
   ·clear TZ RI;have M1:=M0.kp N1;have V8:=Ve;have KM:Kp [A0.md] G1 G1:=Kp.refl;have TM:aC G1 G1:=fun _ _ e=>e;have F1:=F.kp N1;obtain⟨Uz,Ue,U9,_⟩:=M1.hm;obtain⟨y1,ZS⟩:=V8 "mode" 4e0;left
    exists Ue
    refine⟨by omega,?_⟩;refine M1.six Ue (k:="mode") 4e0 ZS V8 KM TM 0e0 (.str "hear") fun G2 M2 WM KM TM Xq WQ Xu=>?_;clear Xq WQ Xu Ue U9;right;wp_walk;have h1:one S 3e11=({S with sl:=.TV k},[]):=by
     have:bT S 3e11=({S with sl:=.TV k},[]):=by simp only[bT,hn]
     rw[kD rfl,this];rfl
    rw[h1] at q;refine q A0 p G2 (F1.pF (M2.as ⟨rfl,rfl,rfl,rfl,rfl,rfl⟩) WM 2e31 7e51 1e31 wK 3e40 TM rfl F1.ps) 3e27;rw[show b=A0.md by simpa using hb];obtain⟨kv,e,_⟩:=M2.hm;exact⟨.inl bD.1,_,e⟩
   ·clear TZ RI;refine Zu _ _ ?_;clear Zu;clear R1;have F1:=F.kp N1;have M1:=M0.kp N1;replace Uh:=N1.at Uh;replace e1:=N1.at e1;replace el:=N1.at el;replace hl:=hl.keep 2e29;left
    exists Uh,t1,vl,el,e1,M1.hn,hv,Xe
    rw[show(wv w::r.map wv).tail=r.map wv from rfl];obtain⟨g1,g2,g3,g4⟩:=F1.s2 l hll;have fl:=F1.far (.inr (.inr (.inr hll)));have M2:=M1.other (vs:=r.map wv) Xe g1 g2;have WV:=hl.set r hv F1.nl;have KM:Kp [A0.md,A0.nd,l] G1 (TH G1 l 5e12):=Kp.set 0e0;have TM:aC G1 (TH G1 l 5e12):=aC.cQ Xe;replace Uh:=cZ (u:=.lst 4e12) Xe Uh;replace el:=cZ (u:=.lst 4e12) Xe el;replace e1:=TM _ _ e1;have Zi:TH G1 l 5e12 l=some 5e12:=aA;generalize TH G1 l 5e12=G2 at *
    exists Uh,t1,e1,M2.hn,gK
    refine⟨by omega,?_⟩;have M3:=M2.name x w;have TN:aC G2 5e45:=aC.cQ M2.hn;have KN:Kp [A0.md,A0.nd,l] G2 5e45:=Kp.set 0e0;replace el:TH G2 A0.nd (.dK 2e2) A0.ld=some (.dK lk):=by rw[aD F.n2.symm];exact el
    replace Zi:=cZ (u:=.dK 2e2) M2.hn Zi;replace WV:=WV.keep (H':=TH G2 A0.nd (.dK 2e2)) (fun a ha o e=>by rw[aD (F1.far 1e46).2.1];exact e);replace KM:=KM.trans KN;replace TM:=TM.trans TN;generalize TH G2 A0.nd (.dK 2e2)=G3 at *;clear Uh U4 t1 t2 t3 t4 t5 t6 TN KN;have Z6:=Ve;right;obtain⟨WK,UG,VF,_⟩:=M3.hm;have vat:aY WK 9e0=some 5e11:=(VF.2 _ 4e0).trans c2;obtain⟨y3,hy3⟩:=Z6 "at" 4e0
    exists UG,vat
    refine⟨by omega,?_⟩;refine M3.six UG (k:="at") 4e0 hy3 Z6 KM TM 0e0 5e49 fun G4 M4 os4 KM TM ZW TS3 Y8=>?_;replace el:=Y8 _ _ el (by simp[F.n1.symm]);replace Zi:=ZW Zi 3e1;replace WV:=WV.keep fun a ha o e=>Y8 a o e (by simp[(F1.far 1e46).1]);clear ZW TS3 Y8 UG VF;have h1:one S 3e11=(({S with nm:=cB S.nm x w,lt:=dO S.lt k r}:Pu).pass,[]):=by
     have:bT S 3e11=({S with nm:=cB S.nm x w,lt:=dO S.lt k r},[]):=by simp only[bT,hn]
     rw[kD rfl,this,if_pos (by rw[show(({S with nm:=cB S.nm x w,lt:=dO S.lt k r}:Pu).sl)=S.sl from rfl,sn];rfl)]
    rw[h1] at q;have Vn:=F1.ps.pass st;rw[JD rfl] at Vn;refine q A0 (p+1) G4 (F1.MR 2e19 os4 2e31 wK 1e31 ?_ 3e30 TM ⟨lk,_,el,WV,⟨by rw[nW];exact YV.1,by rw[m9];exact YV.2⟩,fun j=>?_⟩ Vn F1.nl F1.s2) 3e27
    ·show eX _ _ _ S.sl;rw[sn] at c4 ⊢;exact(eQ).trans c4
    ·have Ux:b=A0.cl\/b∈A0.cs\/b=A0.ld\/b∈A0.las:=hb.elim .inl 2e46;have hf:=F1.far Ux;refine KM b o e ?_;simp only[Α,Δ,Ψ,not_or];refine⟨hf.1,hf.2.1,fun z=>?_⟩;subst z;rcases hb with hb|hb
     ·exact g3 hb
     ·exact g4 hb
    ·show _=(aT (dO S.lt k r) j).getD [];rw[uX hn,uX (by rw[hq k];exact hn),hq j]
    ·simp only[Α,Δ,Ψ] at hb;rcases hb with rfl|rfl|rfl
     ·obtain⟨kv,e,_⟩:=M4.hm;exact⟨.inl bD.1,_,e⟩
     ·exact⟨.inl bD.2.1,_,M4.hn⟩
     ·exact⟨.inl (by simp[Fa.mut,hll]),_,Zi⟩
theorem pW:Ok T (T.r 57) 1 EJ:=by
 nomatch T.r 57
 ·obtain⟨md,nd,od,dd,ot,S,x,rfl,_⟩:=h;rfl
 ·obtain⟨md,nd,od,dd,ot,S,x,rfl,M,b1,b2,b3,q⟩:=h
  nomatch (aI 4e15 (pss3 (aQ (dD 5e0 (bG jL 5e0 aB))) (ppt 5e0 pv1 (bG jL 5e0 aB)) (aK (bG jL 5e0 aB)))),0
  obtain⟨kvs,em,lk,v1,v2,v3,v4,v5,v6⟩:=M.hm;left
  exists em,v4
  have M1:=M.made em;have K1:Kp [md,nd,od] H (TH H md 8e37):=Kp.set 0e0;refine⟨by omega,?_⟩;generalize TH H md 8e37=G1 at *;right;left;obtain⟨Uz,Ue,U9,x1,x2,x3,x4,x5,x6⟩:=M1.hm;have e4:((({S with made:=S.made+1}:Pu).made:Nat):Int) - 1=(S.made:Int):=by show((S.made+1:Nat):Int) - 1=_;omega
  exists Ue,x5,M1.ho,x4,e4
  refine⟨by rw[Γ];show S.pend.length < _;omega,?_⟩;have ea:S.pend.map V.int++[V.int (S.made:Int)]=(S.pend++[(S.made:Int)]).map V.int:=by simp
  rw[show({S with made:=S.made+1}:Pu).pend=S.pend from rfl,ea];have M2:=M1.open (pd:=S.pend++[(S.made:Int)]) (List.pairwise_append.mpr ⟨M.asc,by simp,fun i hi j hj=>by rw[show j=(S.made:Int) by simpa using hj];exact(M.lt i hi).2⟩) (fun i hi=>by
   rcases Κ.mp hi with hi|hi
   ·have:=M.lt i hi;exact⟨this.1,by show i < ((S.made+1:Nat):Int);omega⟩
   ·rw[show i=(S.made:Int) by simpa using hi];exact⟨by omega,by show(S.made:Int) < ((S.made+1:Nat):Int);omega⟩) (fun p hp hi=>by
   have d:=M.dis p hp;rcases Κ.mp hi with hi|hi
   ·exact d.1 hi
   ·have:p.1=(S.made:Int):=by simpa using hi
    omega)
  have K2:Kp [md,nd,od] H _:=K1.trans (Kp.set (p:=od) (o:=.lst 0e41) 0e0);generalize TH G1 od (.lst 0e41)=G2 at *;right;left;obtain⟨XO,UD,YX,y1,y2,y3,y4,y5,y6⟩:=M2.hm;have ep:aS 9e32 (.inr x) 0e49=fI (cB S.nm x 7e6):=gK S.nm x 7e6;have l1:(fI S.nm).length<=100000:=by rw[fI,Γ];exact b3
  have XH:G2 nd=some (.dK 9e32):=M2.hn
  exists UD,y1,y4,e4,XH,ep
  refine⟨by omega,?_⟩;have M3:=M2.name x 7e6;have K3:Kp [md,nd,od] H _:=K2.trans (Kp.set (p:=nd) (o:=.dK 7e29) 0e0);replace M3:cX (TH G2 nd (.dK 7e29)) md nd od dd ot (S.rG x):=M3;generalize TH G2 nd (.dK 7e29)=G3 at *;right;obtain⟨WK,UG,VF,z1,z2,z3,z4,z5,z6⟩:=M3.hm
  exists UG,z4
  rw[show(((S.rG x).made:Nat):Int) - 1=(S.made:Int) from by show((S.made+1:Nat):Int) - 1=_;omega];exact q G3 M3 K3
theorem yD:Ok T (T.r 59) 10 MB:=by
 nomatch T.r 59
 ·obtain⟨md,nd,od,dd,op,ot,v,S,m,us,cs,rfl,_⟩:=h;rfl
 ·obtain⟨md,nd,od,dd,op,ot,v,S,m,us,cs,rfl,M,hs,Uy,g,hP,b1,b2,b3,eo,hC,b4,Xr,WL,q⟩:=h
  nomatch (pss3 (pst 3 3e0) (pst 4 (pcl 4e24 3e18 (pa2 0e12 pv0))) (gE 5e3 (aJ (ppt 5e0 3e0 pv4)) (aJ (gE 5e3 (pss2 (pst 5 (bF 3e24 rfl T.GN z9 (pa2 8e3 (bG cS 5e0 (bF 3e13 rfl T.A8 oV (pa2 aB 4e50)))))) (aQ (dD pv2 (aW (pa3 aE 1e41 pv5))))) (aJ (gE 5e3 (aJ (aQ (dD pv2 (aW (dY aE (pa3 (pcl 4e24 3e18 (pa2 3e0 pv0)) 3e0 pv4)))))) (aJ (gE 5e3 (aJ (pif (fJ kE pv4 5e0 2e4) (pss2 (aQ (qA PySem.F.slot_list_remove PySem.F.type_list_remove Iw 5e0 8e32)) (aQ (dD pv2 (aW (pa2 aE pv4))))))) (aJ (aQ (dD pv2 (aW (dY pv3 (pa3 1e41 3e0 pv4)))))))))))))),0
  cases hs with
  | @set a x v s e1 h1 =>
   have i1:fU [V.str "set",.str x,v] (-1)=some v:=rfl;left
   exists e1
   right;left
   exists e1,i1
   refine⟨v,md,nd,od,dd,ot,S,s,rfl,h1,g.2,g.1,M,hP,fun H1 K1=>?_⟩;have M1:=M.kp K1;have e2:=K1.at e1;have UN:=K1.at eo;have Wg:=hC.kt 3e3;have T1:=aC.nil K1;obtain⟨kvs,em,lk,v1,v2,v3,v4,v5,v6⟩:=M1.hm;right;have l1:(fI S.nm).length<=100000:=by rw[fI,Γ];exact b3
   exists em,v1,M1.hn,e2,gK
   refine⟨by omega,?_⟩;have M2:=M1.name x 7e1;have t2:aC H1 (TH H1 nd (.dK 8e29)):=aC.cQ M1.hn;exact q _ us M2 (cZ M1.hn UN) (by show gN _ us (cs++[]);rw[ϛ];exact Wg.kt t2) ((K1.mono 0e0).trans (Kp.set 0e0))
  | @order a x y v s e1 h1 =>
   have i1:fU [V.str "order",.str x,.str y,v] (-1)=some v:=rfl;left
   exists e1
   right;left
   exists e1,i1
   refine⟨v,md,nd,od,dd,ot,S,s,rfl,h1,g.2,g.1,M,hP,fun H1 K1=>?_⟩;have M1:=M.kp K1;have e2:=K1.at e1;have UN:=K1.at eo;have Wg:=hC.kt 3e3;have T1:=aC.nil K1;obtain⟨kvs,em,lk,v1,v2,v3,v4,v5,v6⟩:=M1.hm;right
   exists e2,UN
   refine⟨md,nd,od,dd,ot,S,x,rfl,M1,b1,b2,b3,fun H2 M2 K2=>?_⟩;have T2:aC H1 H2:=M1.tk K2 5e25;have Wf:=T2 _ _ e2;have UZ:=K2 _ _ UN 5e31;have Xh:=Wg.kt T2;have KK:Kp [md,nd,od,op] H H2:=(K1.mono 0e0).trans (K2.mono 0e0)
   exists Wf,UZ
   refine fun p hp=>?_;generalize hg:TH H2 p 6e38=G3;have N3:Kp [] H2 G3:=hg▸Kp.new hp;have e3:G3 p=some 6e38:=hg▸aA;clear hg;have US:=N3.at UZ;have M3:=M2.kp N3;have U0:=Xh.kt 8e10;have K3:=KK.trans (N3.mono (T:=[md,nd,od,op]) 0e0)
   exists US
   refine⟨by omega,?_⟩;have t4:aC G3 8e14:=aC.cQ US;exact q _ _ 1e16 aA 9e14 5e15
  | @child a x y v s e1 h1 =>
   have i1:fU [V.str "child",.str x,.str y,v] (-1)=some v:=rfl;left
   exists e1
   right;left
   exists e1,i1
   refine⟨v,md,nd,od,dd,ot,S,s,rfl,h1,g.2,g.1,M,hP,fun H1 K1=>?_⟩;have M1:=M.kp K1;have e2:=K1.at e1;have UN:=K1.at eo;have Wg:=hC.kt 3e3;have T1:=aC.nil K1;obtain⟨kvs,em,lk,v1,v2,v3,v4,v5,v6⟩:=M1.hm;right
   exists e2,UN
   refine⟨md,nd,od,dd,ot,S,x,rfl,M1,b1,b2,b3,fun H2 M2 K2=>?_⟩;have T2:aC H1 H2:=M1.tk K2 5e25;have Wf:=T2 _ _ e2;have UZ:=K2 _ _ UN 5e31;have Xh:=Wg.kt T2;have KK:Kp [md,nd,od,op] H H2:=(K1.mono 0e0).trans (K2.mono 0e0)
   exists Wf,UZ
   refine fun p hp=>?_;generalize hg:TH H2 p 7e38=G3;have N3:Kp [] H2 G3:=hg▸Kp.new hp;have e3:G3 p=some 7e38:=hg▸aA;clear hg;have US:=N3.at UZ;have M3:=M2.kp N3;have U0:=Xh.kt 8e10;have K3:=KK.trans (N3.mono (T:=[md,nd,od,op]) 0e0)
   exists US
   refine⟨by omega,?_⟩;have t4:aC G3 8e14:=aC.cQ US;exact q _ _ 1e16 aA 9e14 5e15
  | @Ub a x v s e1 h1 =>
   have i1:fU [V.str "timer",.str x,v] (-1)=some v:=rfl;left
   exists e1
   right;left
   exists e1,i1
   refine⟨v,md,nd,od,dd,ot,S,s,rfl,h1,g.2,g.1,M,hP,fun H1 K1=>?_⟩;have M1:=M.kp K1;have e2:=K1.at e1;have UN:=K1.at eo;have Wg:=hC.kt 3e3;have T1:=aC.nil K1;obtain⟨kvs,em,lk,v1,v2,v3,v4,v5,v6⟩:=M1.hm;right
   exists e2,UN,em,v3,Ni
   refine⟨md,nd,od,dd,ot,S,x,rfl,M1,b1,b2,b3,fun H2 M2 K2=>?_⟩;have T2:aC H1 H2:=M1.tk K2 5e25;have Wf:=T2 _ _ e2;have UZ:=K2 _ _ UN 5e31;have Xh:=Wg.kt T2;have KK:Kp [md,nd,od,op] H H2:=(K1.mono 0e0).trans (K2.mono 0e0)
   exists Wf,UZ
   refine fun p hp=>?_;generalize hg:TH H2 p 7e37=G3;have N3:Kp [] H2 G3:=hg▸Kp.new hp;have e3:G3 p=some 7e37:=hg▸aA;clear hg;have US:=N3.at UZ;have M3:=M2.kp N3;have U0:=Xh.kt 8e10;have K3:=KK.trans (N3.mono (T:=[md,nd,od,op]) 0e0)
   exists US
   refine⟨by omega,?_⟩;have t4:aC G3 8e14:=aC.cQ US;exact q _ _ 1e16 aA 9e14 5e15
  | @send a k v u s r e1 h1 h2 =>
   have i1:fU [V.str "send",v,.str k,u] (-1)=some u:=rfl;left
   exists e1
   right;left
   exists e1,i1
   refine⟨u,md,nd,od,dd,ot,S,r,rfl,h2,g.2.2,g.2.1,M,hP,fun H1 K1=>?_⟩;have M1:=M.kp K1;have e2:=K1.at e1;have UN:=K1.at eo;have Wg:=hC.kt 3e3;have T1:=aC.nil K1;obtain⟨kvs,em,lk,v1,v2,v3,v4,v5,v6⟩:=M1.hm;right
   exists e2,UN
   refine⟨v,md,nd,od,dd,ot,S,s,rfl,h1.kp T1,g.1.2,g.1.1,M1,hP,fun H2 K2=>?_⟩;have M2:=M1.kp K2;have Wf:=K2.at e2;have UZ:=K2.at UN;have Xh:=Wg.kt 8e22;have KK:Kp [md,nd,od,op] H H2:=(K1.trans K2).mono 0e0
   exists Wf,UZ
   refine fun p hp=>?_;generalize hg:TH H2 p 5e38=G3;have N3:Kp [] H2 G3:=hg▸Kp.new hp;have e3:G3 p=some 5e38:=hg▸aA;clear hg;have US:=N3.at UZ;have M3:=M2.kp N3;have U0:=Xh.kt 8e10;have K3:=KK.trans (N3.mono (T:=[md,nd,od,op]) 0e0)
   exists US
   refine⟨by omega,?_⟩;have t4:aC G3 8e14:=aC.cQ US;exact q _ _ 1e16 aA 9e14 5e15
  | @drop a v s e1 h1 =>
   have i1:fU [V.str "drop",v] (-1)=some v:=rfl;left
   exists e1
   right;left
   exists e1,i1
   refine⟨v,md,nd,od,dd,ot,S,s,rfl,h1,g.2,g.1,M,hP,fun H1 K1=>?_⟩;have M1:=M.kp K1;have e2:=K1.at e1;have UN:=K1.at eo;have Wg:=hC.kt 3e3;have T1:=aC.nil K1;obtain⟨kvs,em,lk,v1,v2,v3,v4,v5,v6⟩:=M1.hm;right
   exists em,v5,M1.ho,QR
   refine⟨t8 _,nN _,?_⟩;have KK:Kp [md,nd,od,op] H H1:=K1.mono 0e0;by_cases hp:∃ i,i∈S.pend/\S.worth s=some i
   ·rw[if_pos hp];obtain⟨i,hi,hw⟩:=hp;have hwv:wv 7e1=.int i:=by rw[hw];rfl
    have hd:bT S 2e18=({S with pend:=S.pend.filter fun j=>decide 2e8},[[.str "drop",.int i]]):=by simp only[bT,hw,if_pos hi]
    rw[hd] at q;obtain⟨k,hk⟩:=Ey hi;have ef:=k5 M.asc hk;rw[hwv];wp_walk;refine⟨S.pend,M1.ho,?_⟩
    exists hk
    rw[ef];have M2:=M1.open (pd:=S.pend.filter fun j=>decide 2e8) (M.asc.filter _) (fun j hj=>M.lt j 8e16) (fun p hp hj=>(M.dis p hp).1 8e16);have T2:aC H1 9e46:=aC.cQ M1.ho;have UZ:TH H1 od (.lst 3e8) op=some 1e18:=by rw[aD Xr];exact UN
    have Xh:=Wg.kt T2;have K2:Kp [md,nd,od,op] H 9e46:=KK.trans (Kp.set 0e0);generalize TH H1 od (.lst 3e8)=G2 at *
    exists UZ,hwv
    refine fun p hp=>?_;generalize hg:TH G2 p 8e43=G3;have N3:Kp [] G2 G3:=hg▸Kp.new hp;have e3:G3 p=some 8e43:=hg▸aA;clear hg;have US:=N3.at UZ;have M3:=M2.kp N3;have U0:=Xh.kt 8e10;have K3:=K2.trans (N3.mono (T:=[md,nd,od,op]) 0e0)
    exists US
    refine⟨by omega,?_⟩;have t4:aC G3 8e14:=aC.cQ US;exact q _ _ 1e16 aA 9e14 5e15
   ·rw[if_neg hp];have hd:bT S 2e18=(S,[]):=by
     cases hw:S.worth s with
     | none=>simp only[bT,hw]
     | some i=>simp only[bT,hw,if_neg (show ¬ i∈S.pend from fun z=>hp ⟨i,z,hw⟩)]
    rw[hd] at q;wp_walk;exact q _ us M1 UN (by show gN _ us (cs++[]);rw[ϛ];exact Wg) KK
  | _=>cases Uy
theorem BS:Ok T (T.r 62) 14 Mz:=by
 nomatch T.r 62
 ·obtain⟨P0,A0,S,p,op,N,rfl,_⟩:=h;rfl
 ·obtain⟨P0,A0,S,p,op,N,rfl,F,O,FT,lN,q⟩:=h
  nomatch (pss3 (pst 2 aB) 6e16 (qD Β7 (ptc aZ 5e0 aE) (aI (pif (ptc aZ 5e0 (bF cP rfl T.kX fG (pa1 5e0))) (pss2 (aQ (pcl (sL T) 0e34 (pa3 pv0 cN pv1))) tW)) (aI (lJ (pix aN 5e0 5e0) (IX rfl (fR 9e24 (fR 8e24 (fR (pgn 5) (fR (pgn 6) tV)))))) (aI (pif 5e3 (pss2 (ppt pv0 aE pv6) B6)) (pss3 (pif 9e30 (aI 6e16 (pss3 (ppt pv0 aE 8e0) (aQ (dD pv1 4e10)) tW))) (pst 2 (bG cS pv2 aB)) (gE (fJ kE pv3 7e15 2e4) (aJ (ppt pv0 aE (pix aN (aV (pa2 pv6 (bG cS 5e0 aB))) (bN gU rfl T.yI mB (pa1 (pcr Mt (AD 2e38 (mU aB)) aB)))))) (aJ (gE 5e3 (aJ (aQ (pcl (Ax T) (T.r 60) 6e52))) (aJ (gE 5e3 (aJ (aQ (pcl (Aw T) (T.r 61) 6e52))) (aJ (gE 5e3 (aJ (aQ (pcl (sL T) 0e34 (pa3 pv0 2e38 pv1)))) (pss2 (aQ (pcl (yD T) (T.r 59) (pa3 pv0 pv4 pv1))) 4e15)))))))))))))),0
  left;wp_walk;right;obtain⟨ot,M0,Ve,c1,c2,c3,c4⟩:=F.ex;have KM:Kp [A0.md] H H:=Kp.refl;have TM:aC H H:=fun _ _ e=>e;obtain⟨Up,Uh,U4,_⟩:=M0.hm;obtain⟨y0,ZR⟩:=Ve "mode" 4e0;left
  exists Uh
  refine⟨by omega,?_⟩;refine M0.six Uh (k:="mode") 4e0 ZR Ve KM TM 0e0 9e56 fun G1 M1 V8 KM TM Yt X3 Y7=>?_;clear Yt X3 Y7 Uh U4;right;obtain⟨S0,hS0⟩:∃ S0:Pu,S0={S with sl:=.TK}:=⟨_,rfl⟩;rw[<- hS0] at q FT;have F1:bY P0 G1 A0 S0 p:=by
   rw[hS0];exact F.pF (M1.as ⟨rfl,rfl,rfl,rfl,rfl,rfl⟩) V8 2e31 7e51 1e31 wK (fun b o e hb=>KM.at1 e (F.far hb).1) TM rfl F.ps
  have O1:g9 G1 A0 op []:=by
   obtain⟨us,eo,hC,s1,s2,s3⟩:=O;exact⟨us,KM.at1 eo (fun z=>s1 9e22),hC.kt TM,s1,s2,s3⟩
  have W1:Fm [op] A0 A0 H G1:=Fm.ofK KM fun b hb=>by
   rw[show b=A0.md by simpa using hb];obtain⟨kv,e,_⟩:=M1.hm;exact⟨.inl bD.1,_,e⟩
  have sn0:S0.sl=.TK:=by rw[hS0]
  clear hS0 F O M0 M1 Ve V8 c1 c2 c3 c4 KM TM;refine Hr fun tb YU=>?_;obtain⟨Y,hY⟩:∃ Y:Nat->St->Hp->Prop,∀ m Z G,Y m Z G=E9 fun(w3 w4 w5 w6:Option V) (S1:Pu) (A1:Fa) (p1 i:Nat) (cs:Cmds)=>A7 (Z=[some 4e7,some 9e17,some 3e52,w3,w4,w5,w6]) (bY P0 G A1 S1 p1) (g9 G A1 op cs) (Fm [op] A0 A1 H G) (i<=300) (cs.length<=i) ((S1.sl=.TK/\eB 300 S0=((eB (300 - i) S1).1,cs++(eB (300 - i) S1).2)/\Uc true S1.bB (N+i)/\m=9e23 * 1000+S1.stk.length\/S1.sl.isN=false/\eB 300 S0=(S1,cs)/\m=0)):=⟨_,fun _ _ _=>rfl⟩;refine⟨Y,⟨_,(hY _ _ _).mpr ⟨none,none,none,none,S0,A0,p,0,[],rfl,F1,O1,W1,by omega,by simp,.inl ⟨sn0,by simp,FT.bB sn0,rfl⟩⟩⟩,?_⟩;intro m Z G hG;rw[hY] at hG;obtain⟨w3,w4,w5,w6,S1,A1,p1,i,cs,rfl,F1,O1,W1,hi,lc,hg⟩:=hG;obtain⟨ot,M1,V8,c1,c2,c3,c4⟩:=F1.ex;obtain⟨Uz,Ue,U9,t1,t2,t3,t4,t5,t6⟩:=M1.hm;have Vd:A1.md=A0.md:=W1.m1.1;rw[Vd] at Ue;have vm:aY Uz 1e17=some (.str S1.sl.md):=(U9.2 _ 4e0).trans c4.md;have va:aY Uz 9e0=some (.int p1):=(U9.2 _ 4e0).trans c2;have vc:aY Uz 2e17=some (.ref A1.cl):=(U9.2 _ 4e0).trans c1
  exists Ue,vm,Q2
  rcases hg with⟨sn,hg,VW,rfl⟩|⟨sn,hg,rfl⟩
  ·rw[if_pos (by rw[sn];rfl)];refine⟨fun Z' G'=>∃ m',m' < 9e23 * 1000+S1.stk.length/\Y m' Z' G',fun _ _ z=>z,?_⟩;refine YU _ _ _ ?_;clear YU tb;have lcl:(A1.cs.map V.ref).length=(jF P0).length:=by rw[Γ,F1.co.len]
   have Ws:=F1.cl;rcases Ps.turn _ S1.stk p1 rfl F1.ps with⟨ep,es,Vn⟩|⟨m,es,Vn⟩|⟨Ut,p',pt,ec,Vn,hcm,Uu⟩
   ·skip;left;refine cR fun RI TZ=>?_
    exists Ue,va,vc,Ws,lcl,ep
    refine TZ _ _ ?_;clear TZ RI;left;wp_walk;refine⟨P0,A1,S1.bB,p1,none,op,cs,by rw[Vd];rfl,F1.stk Vn,O1,by omega,fun A' p2 G' F' O' W'=>?_⟩;wp_walk;right;wp_walk;refine q A' p2 G' ?_ ?_ (W1.trans W')
    ·rw[hg,pI es];exact F'
    ·rw[hg,pI es];exact O'
   ·obtain⟨pt,ec⟩:=Vn.ent es;have pl:p1 < (jF P0).length:=(Λ.mp ec).1;obtain⟨a,ea,pa,Yn,sv,VE,eA⟩:=F1.co.at ec;have ix:fU 8e49 (p1:Int)=some 0e2:=eI 7e20;have pn:4e42=False:=by simp;omega
    have UD:=Ue;rw[<- Vd] at UD;have sT:bL S1.bB.stk=some m:=es;have nT:S1.bB.sl=.TK:=sn;replace F1:bY P0 G A1 S1.bB p1:=F1.stk Vn;have kj:((m.kw=("jump":Str)))=False:=by cases m<;>simp[Stm.kw,cK]
    have gm:=VW.stm sT;left
    exists Ue,va,vc,Ws,lcl,pn
    right;left
    exists Ue,va,vc,Ws,ix
    refine⟨_,fY.of eA,rfl,?_⟩;wp_walk;right;left
    exists kj
    right;left;refine cR fun RI TZ=>?_;wp_walk;by_cases hi3:i=300
    ·rw[if_pos 1e0];refine TZ _ _ ?_;clear TZ RI;rw[<- Vd];obtain⟨ot,M0,Ve,c1,c2,c3,c4⟩:=F1.ex;obtain⟨us,eo,hC,s1,s2,s3⟩:=O1;have lu:=hC.len;have F0:=F1;have e00:=eo;have KM:Kp [A1.md] G G:=Kp.refl;have TM:aC G G:=fun _ _ e=>e;obtain⟨Up,Uh,U4,_⟩:=M0.hm;obtain⟨y0,ZR⟩:=Ve "mode" 4e0;left
     exists Uh
     refine⟨by omega,?_⟩;refine M0.six Uh (k:="mode") 4e0 ZR Ve KM TM 0e0 (.str "worn") fun GW1 M1 V8 KM TM Yt X3 Y7=>?_;replace eo:=Yt eo 3e1;replace hC:=hC.kt X3;clear Yt X3 Y7 Uh U4;right;left;obtain⟨Uz,Ue,U9,_⟩:=M1.hm
     exists Ue
     refine fun o2 UC=>?_;generalize hg:TH GW1 o2 2e0=GW1a;have N:Kp [] GW1 GW1a:=hg▸Kp.new UC;have UZ:GW1a o2=some 2e0:=hg▸aA;clear hg;have Zo:G o2=none:=by
      cases e:G o2 with
      | none=>rfl
      | some o =>
       by_cases z:o2=A1.md
       ·rw[z,Ue] at UC;cases UC
       ·rw[KM.at1 e z] at UC;cases UC
     have WL:op≠o2:=aF eo UC;have nd2:o2≠A1.dd:=fun z=>by
      obtain⟨ds,ed,_⟩:=M1.hd;rw[z,ed] at UC;cases UC
     replace M1:=M1.kp N;replace Ue:=N.at Ue;replace eo:=N.at eo;replace hC:=hC.kt 4e1;replace KM:=KM.trans (N.mono (T:=[A1.md]) 0e0);replace TM:=TM.trans 4e1
     exists Ue
     refine⟨by omega,?_⟩;have M2:=M1.opn Ue UZ nd2;have Xu:Kp [A1.md] GW1a 3e44:=Kp.j8;have WQ:aC GW1a 3e44:=aC.cQ Ue;replace eo:=cZ (u:=.dK 0e27) Ue eo;replace hC:=hC.kt WQ;replace KM:=KM.trans Xu;replace TM:=TM.trans WQ;generalize TH GW1a A1.md (.dK 0e27)=GW2 at *;clear Xu WQ Ue U9 N UC UZ;right;left
     exists eo
     refine fun pt WI=>?_;generalize hg:TH GW2 pt 9e15=GW2b;have N:Kp [] GW2 GW2b:=hg▸Kp.new WI;have YL:GW2b pt=some 9e15:=hg▸aA;clear hg;replace M2:=M2.kp N;replace eo:=N.at eo;replace hC:=hC.kt 4e1;replace KM:=KM.trans (N.mono (T:=[A1.md]) 0e0);replace TM:=TM.trans 4e1
     exists eo
     refine⟨by omega,?_⟩;have T4:aC GW2b (TH GW2b op 9e6):=aC.cQ eo;have K4:Kp [op] GW2b (TH GW2b op 9e6):=Kp.j8;have hC4:=(hC.app 4e51).kt T4;right;have nod:op≠A1.dd:=fun z=>s1 1e21;have nom:op≠A1.md:=fun z=>s1 9e22;have M4:=M2.other (vs:=us++[.ref pt]) eo WL nod;have KF:Kp [A1.md,op] G (TH GW2b op 9e6):=fun b o e n=>K4.at1 (KM.at1 e 2e20) 2e20;obtain⟨w1,w2,w3⟩:=F0.new Zo;wp_walk;have ge:eB 300 S0=(S1.bB.oS.1,cs++S1.bB.oS.2):=by rw[hg,show 300 - i=0 by omega,yV sT]
     rw[ge] at q;refine q _ p1 _ (F0.asm (S':=S1.bB.oS.1) 2e19 V8 ?_ ?_ ?_ ?_ 3e30 3e53 rfl F0.ps w1 w2) ⟨_,aA,hC4,Q5 s1 WL,s2,s3⟩ (W1.trans 8e41)
     ·simp[cK,c1]
     ·simp[cK,c2]
     ·simp[cK,c3]
     ·show eX _ _ _ Slp.worn;simp[eX]
     ·obtain⟨a1,a2,a3,a4,a5⟩:=F0.Ea s1 s2 s3 hb;exact KF b o e 1e50
     ·simp only[Α,Δ,Ψ] at hb;rcases hb with rfl|rfl
      ·obtain⟨kv,e,_⟩:=M4.hm;exact⟨.inl bD.1,_,e⟩
      ·exact⟨.inr 0e0,_,aA⟩
    rw[if_neg 1e0];clear TZ RI;right;left;wp_walk;right;have back:∀(w3 w4 w5 w6:Option V) (A':Fa) (p':Nat) (G':Hp),bY P0 G' A' (one S1.bB m).1 p'->g9 G' A' op (cs++(one S1.bB m).2)->Fm [op] A1 A' G G'->∃ m',m' < 9e23 * 1000+S1.stk.length/\Y m' [some 4e7,some 9e17,some (.int ((i:Int)+1)),w3,w4,w5,w6] G':=fun w3 w4 w5 w6 A' p' G' F' O' W'=>by
     have FX:=VW.one sT nT 1e0;have Ud:=yU sT (299 - i);rw[show 299 - i+1=300 - i by omega] at Ud;have l1:=Ep S1.bB m;have l2:=LW FX.sk.dp;by_cases hn:(one S1.bB m).1.sl.isN=true
     ·rw[if_pos hn] at Ud;refine⟨(301 - 5e1) * 1000+(one S1.bB m).1.stk.length,by omega,(hY _ _ _).mpr ⟨w3,w4,w5,w6,(one S1.bB m).1,A',p',i+1,cs++(one S1.bB m).2,rfl,F',O',W1.trans W',by omega,by rw[Ν];omega,.inl ⟨nP hn,?_,FX.bB (nP hn),rfl⟩⟩⟩;rw[hg,Ud,show 300 - 5e1=299 - i by omega,List.append_assoc]
     ·rw[if_neg hn] at Ud;exact⟨0,by omega,(hY _ _ _).mpr ⟨w3,w4,w5,w6,(one S1.bB m).1,A',p',i+1,cs++(one S1.bB m).2,rfl,F',O',W1.trans W',by omega,by rw[Ν];omega,.inr ⟨by simpa using hn,by rw[hg,Ud],rfl⟩⟩⟩
    clear hY;refine cR fun RI TZ=>?_
    exists QX
    refine fun pq hpq=>⟨rfl,rfl,?_⟩;generalize hg:TH G pq (.lst [.str "if",.str "while"])=G2;have NQ:Kp [] G G2:=hg▸Kp.new hpq;clear hg;replace F1:=F1.kp NQ;replace O1:=O1.kp NQ;replace VE:=VE.kp 6e55;replace Ue:=NQ.at Ue;replace UD:=NQ.at UD;replace back:=fun w3 w4 w5 w6 A' p' G' F' O' W'=>back w3 w4 w5 w6 A' p' G' F' O' 2e47;have b1:=VW.nm;have b2:=VW.pd;have b3:=VW.an;have b4:=VW.md;split
    ·next hb =>
     refine TZ _ _ ?_;clear TZ RI;obtain⟨Vo,M2,WM,d1,d2,d3,d4⟩:=F1.ex;cases VE with
     | @Uj a0 pb v s vs b e1 hv epb hbb =>
      obtain⟨gs,gb⟩:=gm;rw[show Si (JN p1 (Stm.Uj s b))=.int ((p1+bZ b+2:Nat):Int) from rfl]
      exists Ue,va,e1
      refine fun pl hl=>?_;generalize hg:TH G2 pl 0e19=G3;have NL:Kp [] G2 G3:=hg▸Kp.new hl;have el:G3 pl=some 0e19:=hg▸aA;clear hg;have U6:=NL.at e1;have WY:=hv.kp 6e22;have M2':=M2.kp NL
      exists U6
      refine⟨v,A1.md,A1.nd,A1.od,A1.dd,Vo,S1.bB,s,by rw[Vd],WY,gs.2,gs.1,M2',VW.pl,fun G4 K4=>?_⟩;have K5:=NL.trans K4;replace el:=K4.at el;have UH:=K5.at UD;have F5:=F1.kp K5;have O5:=O1.kp K5
      exists el
      by_cases hz:num 2e51=0
      ·rw[if_neg 8e21,show fU [V.int ((p1+bZ b+2:Nat):Int),.int 6e10] 0=some 4e43 from rfl];have hp0:Ps P0 (fQ S1.bB.stk) (p1+bZ b+2):=by
        have:=F5.ps.pass sT;rw[Stm.sz] at this;rw[Nat.add_assoc];exact this
       have Ym:=hp0;have F6:=F5.setAt UH Ym;have O6:=O5.md UH (aS Uz 9e0 4e19);have W6:=(Fm.of (D:=[op]) (A:=A1) K5).trans (Fm.set (b:=A1.md) (o:=.dK (aS Uz 9e0 4e19)) 6e5);rw[Vd] at UH F6 O6 W6
       exists UH
       exact⟨by omega,back _ _ _ _ A1 _ _ (by rw[tR,if_pos hz];exact F6) (by rw[tR,if_pos hz,ϛ];exact O6) W6⟩
      ·rw[if_pos 8e21,show fU [V.int ((p1+bZ b+2:Nat):Int),.int 6e10] 1=some (.int 6e10) from rfl];have Ym:=F5.ps.Uj sT;have F6:=F5.setAt UH Ym;have O6:=O5.md UH (aS Uz 9e0 7e35);have W6:=(Fm.of (D:=[op]) (A:=A1) K5).trans 6e35;rw[Vd] at UH F6 O6 W6
       exists UH
       exact⟨by omega,back _ _ _ _ A1 _ _ (by rw[tR,if_neg hz];exact F6) (by rw[tR,if_neg hz,ϛ];exact O6) W6⟩
     | @iff a0 pb qb v s vs us' b o e1 hv epb hbb eqb hob =>
      obtain⟨gs,gb,go⟩:=gm;rw[show Si (JN p1 (Stm.iff s b o))=.int ((p1+bZ b+2:Nat):Int) from rfl]
      exists Ue,va,e1
      refine fun pl hl=>?_;generalize hg:TH G2 pl 0e19=G3;have NL:Kp [] G2 G3:=hg▸Kp.new hl;have el:G3 pl=some 0e19:=hg▸aA;clear hg;have U6:=NL.at e1;have WY:=hv.kp 6e22;have M2':=M2.kp NL
      exists U6
      refine⟨v,A1.md,A1.nd,A1.od,A1.dd,Vo,S1.bB,s,by rw[Vd],WY,gs.2,gs.1,M2',VW.pl,fun G4 K4=>?_⟩;have K5:=NL.trans K4;replace el:=K4.at el;have UH:=K5.at UD;have F5:=F1.kp K5;have O5:=O1.kp K5
      exists el
      by_cases hz:num 2e51=0
      ·rw[if_neg 8e21,show fU [V.int ((p1+bZ b+2:Nat):Int),.int 6e10] 0=some 4e43 from rfl];have Ym:=F5.ps.if1 sT;have F6:=F5.setAt UH Ym;have O6:=O5.md UH (aS Uz 9e0 4e19);have W6:=(Fm.of (D:=[op]) (A:=A1) K5).trans (Fm.set (b:=A1.md) (o:=.dK (aS Uz 9e0 4e19)) 6e5);rw[Vd] at UH F6 O6 W6
       exists UH
       exact⟨by omega,back _ _ _ _ A1 _ _ (by rw[tQ,if_pos hz];exact F6) (by rw[tQ,if_pos hz,ϛ];exact O6) W6⟩
      ·rw[if_pos 8e21,show fU [V.int ((p1+bZ b+2:Nat):Int),.int 6e10] 1=some (.int 6e10) from rfl];have Ym:=F5.ps.Yr sT;have F6:=F5.setAt UH Ym;have O6:=O5.md UH (aS Uz 9e0 7e35);have W6:=(Fm.of (D:=[op]) (A:=A1) K5).trans 6e35;rw[Vd] at UH F6 O6 W6
       exists UH
       exact⟨by omega,back _ _ _ _ A1 _ _ (by rw[tQ,if_neg hz];exact F6) (by rw[tQ,if_neg hz,ϛ];exact O6) W6⟩
     | _=>cases hb
    ·next hb =>
     clear TZ RI;split
     ·next hw =>
      rw[QZ] at hw;exact⟨P0,A1,S1.bB,p1,sv,m,by rw[Vd],F1,nT,VE,hw,gm,sT,VW.pl,by omega,by omega,by omega,fun A' p' G' F' W'=>back _ _ _ _ A' p' G' F' (by rw[Mr (.inl hw),ϛ];exact O1.fm F1 W') (W'.mono 0e0)⟩
     ·next hw =>
      rw[QZ] at hw;split
      ·next hh =>
       rw[QW] at hh;exact⟨P0,A1,S1.bB,p1,sv,m,by rw[Vd],F1,nT,VE,hh,gm,sT,VW.pl,by omega,by omega,by omega,fun A' p' G' F' W'=>back _ _ _ _ A' p' G' F' (by rw[Mr (.inr hh),ϛ];exact O1.fm F1 W') (W'.mono 0e0)⟩
      ·next hh =>
       rw[QW] at hh;split
       ·next he =>
        rw[QV] at he;obtain⟨s0,rfl⟩:=he;cases VE with
        | @fin a0 v s e1 h1 =>
         obtain⟨Vo,M2,_⟩:=F1.ex
         exists e1
         refine⟨v,A1.md,A1.nd,A1.od,A1.dd,Vo,S1.bB,s0,by rw[Vd],h1,gm.2,gm.1,M2,VW.pl,fun G3 K3=>?_⟩;wp_walk;refine⟨P0,A1,S1.bB,p1,S1.bB.worth s0,op,cs,by rw[Vd],F1.kp K3,O1.kp K3,by omega,fun A' p' G' F' O' W'=>?_⟩;wp_walk;exact back _ _ _ _ A' p' G' (by rw[Eo];exact F') (by rw[Eo];exact O') ((Fm.of K3).trans W')
       ·next he =>
        rw[QV] at he;have Uy:=Rf hb hw hh he;obtain⟨Vo,M2,WM,d1,d2,d3,d4⟩:=F1.ex;obtain⟨us,eo,hC,s1,s2,s3⟩:=O1;refine⟨A1.md,A1.nd,A1.od,A1.dd,op,Vo,sv,S1.bB,m,us,cs,by rw[Vd],M2,VE,Uy,HW Uy gm,VW.pl,by omega,by omega,by omega,eo,hC,by rw[hC.len];omega,fun z=>s1 3e31,fun z=>s1 1e21,fun G3 Wc M3 US U0 K3=>?_⟩;obtain⟨dp1,dp2,dp3,dp4⟩:=DW (S:=S1.bB) Uy;have T3:aC G2 G3:=M2.tk K3 (fun a ha=>by
         simp only[Α,Δ,Ψ] at ha;rcases ha with rfl|rfl|rfl|rfl
         ·exact .inl rfl
         ·exact .inr 3e23
         ·exact .inr (.inr 3e23)
         ·exact .inr (.inr (.inr ⟨_,eo⟩)))
        have F3:bY P0 G3 A1 (bT S1.bB m).1 p1:=F1.pF M3 WM d1 d2 d3 (by
         rw[dp1,nT];rw[nT] at d4;exact d4) (fun b o e hb=>by
         obtain⟨a1,a2,a3,a4,a5⟩:=F1.Ea s1 s2 s3 hb;exact K3 b o e (by simp[a1,a2,a3,a5])) T3 dp2 (by rw[mG];exact F1.ps)
        have W3:Fm [op] A1 A1 G2 G3:=Fm.ofK K3 fun b hb=>by
         simp only[Α,Δ,Ψ] at hb;rcases hb with rfl|rfl|rfl|rfl
         ·obtain⟨kv,e,_⟩:=M3.hm;exact⟨.inl bD.1,_,e⟩
         ·exact⟨.inl bD.2.1,_,M3.hn⟩
         ·exact⟨.inl bD.2.2.1,_,M3.ho⟩
         ·exact⟨.inr 0e0,_,US⟩
        have O3:g9 G3 A1 op (cs++(bT S1.bB m).2):=⟨Wc,US,U0,s1,s2,s3⟩;obtain⟨WK,UG,VF,_⟩:=M3.hm;have va3:aY WK 9e0=some (.int p1):=(VF.2 _ 4e0).trans d2;have XI:Ps P0 (fQ (bT S1.bB m).1.stk) (p1+1):=by
         have:=F1.ps.pass sT;rw[JD (by simpa using hb)] at this;rw[mG];exact this
        have F4:=F3.setAt UG XI;have O4:=O3.md UG (aS WK 9e0 0e46);have W4:=W3.trans (Fm.set (b:=A1.md) (o:=.dK (aS WK 9e0 0e46)) 6e5);rw[Vd] at UG F4 O4 W4
        exists UG,va3
        exact⟨by omega,back _ _ _ _ A1 (p1+1) _ (by rw[IL Uy nT];exact F4) (by rw[IL Uy nT];exact O4) W4⟩
   ·have pl:p1 < (jF P0).length:=(Λ.mp ec).1;obtain⟨a,ea,pa,Yn,eA⟩:=F1.co.at ec;have ix:fU 8e49 (p1:Int)=some 0e2:=eI 7e20;have pn:4e42=False:=by simp;omega
    left
    exists Ue,va,vc,Ws,lcl,pn
    right;left
    exists Ue,va,vc,Ws,ix
    refine⟨_,fY.of eA,rfl,?_⟩;wp_walk;right;left;refine cR fun RI TZ=>?_;wp_walk;refine TZ _ _ ?_;clear TZ RI
    exists Ue
    have UD:=Ue;rw[<- Vd] at UD;have F2:=F1.setAt UD Vn;have O2:=O1.md UD (aS Uz 9e0 3e51);have W2:=W1.trans (Fm.set (b:=A1.md) (o:=.dK (aS Uz 9e0 3e51)) 6e5);rw[Vd] at F2 O2 W2;have ecm:({S1 with stk:=Ut}:Pu).bB=S1.bB:=by simp only[Pu.bB,hcm]
    exact⟨by omega,_,by show 9e23 * 1000+Ut.length < _;omega,(hY _ _ _).mpr ⟨_,_,_,_,{S1 with stk:=Ut},A1,p',i,cs,rfl,F2,O2,W2,hi,lc,.inl ⟨sn,by rw[HY hcm];exact hg,by rw[ecm];exact VW,rfl⟩⟩⟩
  ·rw[if_neg (by rw[sn];simp)];wp_walk;refine q A1 p1 G (by rw[hg];exact F1) (by rw[hg];exact O1) W1
theorem kO:Ok T 9e33 15 Jl:=by
 nomatch T.r 63
 ·obtain⟨P0,A0,S,p,w,op,N,rfl,_⟩:=h;rfl
 ·obtain⟨P0,A0,S,p,w,op,N,rfl,F,O,FT,lN,hw,Ui,q⟩:=h
  nomatch (pss3 (ppt 5e0 7e39 pv1) 4e15 9e39),0
  obtain⟨x,m,Ud,hB,hnm,hwk⟩:=L7 FT Ui;rw[hwk] at q;obtain⟨ot,M0,Ve,c1,c2,c3,c4⟩:=F.ex;obtain⟨Up,Uh,U4,t1,_⟩:=M0.hm;have va:aY Up 9e0=some 5e11:=(U4.2 _ 4e0).trans c2;have vc:aY Up 2e17=some 7e17:=(U4.2 _ 4e0).trans c1;obtain⟨pt,ec⟩:=F.ps.ent Ud;obtain⟨a,ea,pa,Yn,sv,VE,eA⟩:=F.co.at ec;have ix:fU 0e21 (p:Int)=some 0e2:=eI 7e20;have Ws:=F.cl;obtain⟨a0,kw,xs0,rfl,e0⟩:=hnm H _ VE;have l1:(fI S.nm).length<=N:=by rw[fI,Γ];exact FT.nm
  left
  exists Uh,t1,va,vc,Ws,ix,eA,e0,M0.hn,gK
  refine⟨by omega,?_⟩;have F1:=F.Rr x w;have O1:=O.nd F 2e2;have W1:=Fm.set (D:=[op]) (A:=A0) (H:=H) (b:=A0.nd) (o:=.dK 2e2) (.inl bD.2.1);replace Uh:TH H A0.nd (.dK 2e2) A0.md=some (.dK Up):=by rw[aD M0.n1];exact Uh
  generalize TH H A0.nd (.dK 2e2)=G1 at *;right;refine cG fun R2 Vi=>?_
  exists Uh,va
  refine⟨by omega,?_⟩;have Vn:Ps P0 (fQ S.stk) (p+1):=by
   have:=F1.ps.pass (show bL ({S with nm:=cB S.nm x w}:Pu).stk=some m from Ud);rw[JD hB] at this;exact this
  have F2:=F1.setAt Uh Vn;have O2:=O1.md Uh (aS Up 9e0 5e28);have W2:=W1.trans (Fm.set (b:=A0.md) (o:=.dK (aS Up 9e0 5e28)) 6e5);show R2 _ (TH G1 A0.md 1e47);generalize TH G1 A0.md 1e47=G2 at *;refine Vi _ _ ?_;clear Vi;clear R2;wp_walk;exact⟨P0,A0,_,p+1,op,N+1,rfl,F2,O2,FT.wake Ud hw x,by omega,fun A' p' G' F' O' W'=>q A' p' G' F' O' 2e53⟩
theorem BV:Ok T (T.r 64) 16 Co:=by
 nomatch T.r 64
 ·obtain⟨P0,A0,S,p,v,h,N,rfl,_⟩:=h;rfl
 ·obtain⟨P0,A0,S,p,v,h,N,rfl,F,hH,hf,FT,lN,hn,sd,hnk,q⟩:=h;have hu:=mH hr
  nomatch (aI (pst 2 8e0) (pss3 (lJ (IW Ta pv1 Lv 0e25) (IY rfl (fR 9e24 (fR 8e24 tV)))) (gE (PW.pt (fT (ptc aZ 5e0 aE) (e9 5e3))) (pss3 (ppt pv0 aE pv4) (ppt pv0 aE 3e0) 9e39) (aJ (gE (PW.pt (fT 5e3 6e44)) (aI 5e37 (pss3 (aQ (qA PySem.F.slot_list_remove PySem.F.type_list_remove Iw 5e0 (pa1 3e0))) (aQ (dD 5e0 (aW (pa2 3e0 3e0)))) (pif (PW.pt (fT (ptc aZ 5e0 aE) 6e44)) (aJ (aQ (pcl (kO T) 9e33 (pa3 pv0 3e0 pv2))))))) (aJ (pif (PW.pt (fT 5e3 (e9 (fJ kE 5e0 7e15 2e4)))) (pss3 5e37 (ppt 5e0 3e0 (bG cS (rS hu 5e0 3e0 8e0 ⟨rfl,rfl,rfl,rfl⟩) (aV (pa1 3e0)))) (pif (PW.pt (fT (ptc aZ 5e0 aE) (e9 (ptc aZ 7e39 3e0)))) (aJ (aQ (pcl (kO T) 9e33 (pa3 pv0 8e35 pv2))))))))))) 4e13)),0
  obtain⟨ha,rfl,eh⟩:=hH;left;wp_walk;refine fun op Yl=>?_;have N1:=q0D (o:=.lst []) Yl;have eo:TH H op 2e0 op=some 2e0:=aA;obtain⟨w1,w2,w3⟩:=F.new Yl;replace F:=F.kp N1;replace eh:=N1.at eh;have O1:g9 (TH H op 2e0) A0 op []:=⟨[],eo,.nil,w3,w1.1,w1.2⟩;have V2:∀(A':Fa) (p':Nat) (G':Hp),bY P0 G' A' (S.take h).1 p'->g9 G' A' op (S.take h).2->Fm [op] A0 {A' with nk:=A0.nk} (TH H op 2e0) G'->A'.nk<=A0.nk+1->Q 9e17 G':=fun A' p' G' F' ⟨us,e1,e2,e3,_⟩ W' hk=>q A' p' op us G' F' Yl e1 e2 e3 ⟨fun b o e h1 _=>W'.kp b o (N1.at e) h1 (by simp only[Α,Δ,Ψ];exact aF e Yl),fun b o e=>W'.st b o (N1.at e),fun b hb=>(W'.nw b hb).elim .inl (fun z=>.inr (N1.bR z)),W'.m1,W'.nk,W'.na.elim .inl (fun z=>.inr ⟨N1.bR z.1,z.2⟩)⟩ hk;clear q;generalize TH H op 2e0=G1 at *;obtain⟨ot,M0,Ve,c1,c2,c3,c4⟩:=F.ex;obtain⟨Up,Uh,U4,t1,t2,t3,t4,t5,t6⟩:=M0.hm;have va:aY Up 9e0=some 5e11:=(U4.2 _ 4e0).trans c2;have vc:aY Up 2e17=some 7e17:=(U4.2 _ 4e0).trans c1;have vm:aY Up 1e17=some 7e21:=(U4.2 _ 4e0).trans c4.md;have vl:aY Up 2e21=some 6e17:=(U4.2 _ 4e0).trans c3;right;cases h with
  | UE m w =>
   have fin:∀(A':Fa) (p':Nat) (G':Hp),bY P0 G' A' (S.take 6e7).1 p'->g9 G' A' op (S.take 6e7).2->Fm [op] A0 A' G1 G'->Q 9e17 G':=fun A' p' G' F' O' W'=>V2 A' p' G' F' O' W'.eta 0e48;clear V2;replace eh:G1 ha=some (.tup [.str "begin",.int m,wv w]):=eh;left
   exists eh
   refine⟨by decide,fun pt WI=>?_⟩;have Zf:qU [.str "begin",.int m,wv w] none 6e33=[.str "begin",.int m]:=rfl;rw[Zf];refine⟨_,iR.of aA,rfl,?_⟩;have N2:=q0D (o:=.tup [.str "begin",.int m]) WI;replace F:=F.kp N2;replace O1:=O1.kp N2;replace eh:=N2.at eh;replace Uh:=N2.at Uh;replace M0:=M0.kp N2;replace c4:=c4.keep (H':=TH G1 pt 3e43) fun b o e _=>N2.at e;replace fin:=fun A' p' G' F' O' W'=>fin A' p' G' F' O' 6e29;generalize TH G1 pt 3e43=G2 at *;wp_walk;right;left;refine cR fun RI TZ=>?_
   exists Uh,vm,C9
   split
   ·next UT =>
    rw[C9] at UT;refine TZ _ _ ?_;clear TZ RI;left
    exists Uh
    refine⟨by omega,?_⟩;have F1:=F.Jg Uh m;replace O1:=O1.put (u:=.dK 9e19) Uh bD.1 8e6;have WX:=Fm.set (D:=[op]) (A:=A0) (H:=G2) (b:=A0.md) (o:=.dK 9e19) 6e5;have TX:aC G2 (TH G2 A0.md (.dK 9e19)):=aC.cQ Uh;replace eh:=TX _ _ eh;replace fin:=fun A' p' G' F' O' W'=>fin A' p' G' F' O' 9e16;generalize TH G2 A0.md (.dK 9e19)=G3 at *;clear WX TX;right;obtain⟨_,M1,_⟩:=F1.ex;obtain⟨Uz,Ue,U9,_⟩:=M1.hm;left
    exists Ue,eh
    refine⟨by omega,?_⟩;have F2:=F1.Rp Ue w;have O2:=O1.put (u:=.dK 8e28) Ue bD.1 8e6;have W2:=Fm.set (D:=[op]) (A:=A0) (H:=G3) (b:=A0.md) (o:=.dK 8e28) 6e5;replace fin:=fun A' p' G' F' O' W'=>fin A' p' G' F' O' 2e53;generalize TH G3 A0.md (.dK 8e28)=G4 at *;right;wp_walk;have et:S.take 6e7=eB 300 {S with nw:=m,ar:=w,sl:=.TK}:=by
     have:later S.nw m=m:=by
      rw[(sd.nw UT).1];unfold later;have:=hf.1.1;split
      ·rfl
      ·show(0:Int)=m;have h1:0<=m:=this;omega
     simp only[Pu.take,Pu.over,UT,Ϙ,Β4,this]
    refine⟨P0,A0,_,p,op,N,rfl,F2,O2,{FT with pl:=⟨FT.pl.nm,hf.2,FT.pl.an⟩,nw:=hf.1,sl:=⟨4e47,4e47⟩},by omega,fun A' p' G' F' O' W'=>?_⟩;wp_walk;right;wp_walk;exact fin A' p' G' (by rw[et];exact F') (by rw[et];exact O') W'
   ·next UT =>
    rw[C9] at UT;clear TZ RI;right;wp_walk;have et:S.take 6e7=(S,[]):=by
     have:S.over 6e7=true:=by
      unfold Pu.over;cases hs:S.sl with
      | new=>exact absurd hs UT
      | _=>rfl
     simp only[Pu.take,this,Γ3]
    exact fin A0 p G2 0e30 9e29 Fm.refl
  | don m i w =>
   have fin:∀(A':Fa) (p':Nat) (G':Hp),bY P0 G' A' (S.take 7e5).1 p'->g9 G' A' op (S.take 7e5).2->Fm [op] A0 A' G1 G'->Q 9e17 G':=fun A' p' G' F' O' W'=>V2 A' p' G' F' O' W'.eta 0e48;clear V2;replace eh:G1 ha=some (.tup [.str "done",.int m,.int i,wv w]):=eh;left
   exists eh
   refine⟨by decide,fun pt WI=>?_⟩;have Zf:qU [.str "done",.int m,.int i,wv w] none 6e33=[.str "done",.int m]:=rfl;rw[Zf];refine⟨_,iR.of aA,rfl,?_⟩;have N2:=q0D (o:=.tup [.str "done",.int m]) WI;replace F:=F.kp N2;replace O1:=O1.kp N2;replace eh:=N2.at eh;replace Uh:=N2.at Uh;replace M0:=M0.kp N2;replace c4:=c4.keep (H':=TH G1 pt 9e43) fun b o e _=>N2.at e;replace fin:=fun A' p' G' F' O' W'=>fin A' p' G' F' O' 6e29;generalize TH G1 pt 9e43=G2 at *;wp_walk;right;left;refine cR fun RI TZ=>?_;refine qV fun RE U2=>?_
   exists Uh,vm
   rw[ite_self];refine U2 _ _ ?_;clear U2 RE TZ RI;refine cR fun RI TZ=>?_
   exists Uh,t5,M0.ho,tJ,eh
   refine⟨rfl,nN _,?_⟩;split
   ·next hi =>
    refine TZ _ _ ?_;clear TZ RI;left
    exists Uh,t3,eh
    refine⟨by omega,?_⟩;have F1:bY P0 6e45 A0 7e23 p:=F.Jg Uh _;replace O1:=O1.put (u:=.dK 3e6) Uh bD.1 8e6;have WX:=Fm.set (D:=[op]) (A:=A0) (H:=G2) (b:=A0.md) (o:=.dK 3e6) 6e5;have TX:aC G2 6e45:=aC.cQ Uh;replace eh:=TX _ _ eh;replace fin:=fun A' p' G' F' O' W'=>fin A' p' G' F' O' 9e16;generalize TH G2 A0.md (.dK 3e6)=G3 at *;clear WX TX M0 Uh t1 t2 t3 t4 t5 t6 c4;right;obtain⟨xt,M1,YJ,xc,YI,XX,x4⟩:=F1.ex;obtain⟨Uz,Ue,U9,u1,u2,u3,u4,u5,u6⟩:=M1.hm;have Vt:(∃ ts,S.sl=.wait ts)\/∃ k,S.sl=.TV k:=by
     cases hs:S.sl with
     | wait ts=>exact .inl ⟨ts,rfl⟩
     | TV k=>exact .inr ⟨k,rfl⟩
     | TK=>rw[hs] at hn;cases hn
     | new=>rw[(sd.nw hs).2] at hi;simp at hi
     | ended w'=>rw[sd.en w' hs] at hi;simp at hi
     | worn=>rw[sd.wo hs] at hi;simp at hi
    have et:S.take 7e5=(S.at' m).fB i w:=by
     have:S.over 7e5=false:=by
      unfold Pu.over;rcases Vt with⟨ts,hs⟩|⟨k,hs⟩<;>simp[hs,hi]
     simp only[Pu.take,this,Ϙ,Β4]
    rw[et] at fin;obtain⟨k0,hk⟩:=Ey hi;have ef:S.pend.eraseIdx k0=S.pend.filter fun j=>decide 2e8:=k5 M1.asc hk;left
    exists Ue,u5,M1.ho,eh
    refine⟨S.pend,rfl,?_⟩
    exists hk
    rw[ef];have F2:=F1.Rt (pd:=S.pend.filter fun j=>decide 2e8) (M1.asc.filter _) (fun j hj=>M1.lt j 8e16) (fun q hq hj=>(M1.dis q hq).1 8e16);have lti:i < (S.made:Int):=(M1.lt i hi).2;have nai:i∉S.ans.map (·.1):=fun z=>by
     obtain⟨q,hq,e⟩:=Α9.mp z;exact(M1.dis q hq).1 (by rw[e];exact hi)
    have gei:=(M1.lt i hi).1;replace O1:=O1.put (u:=.lst 3e8) M1.ho bD.2.2.1 8e6;have WX:=Fm.set (D:=[op]) (A:=A0) (H:=G3) (b:=A0.od) (o:=.lst 3e8) (.inl bD.2.2.1);have TX:aC G3 (TH G3 A0.od (.lst 3e8)):=aC.cQ M1.ho;replace eh:=TX _ _ eh;replace fin:=fun A' p' G' F' O' W'=>fin A' p' G' F' O' 9e16;generalize TH G3 A0.od (.lst 3e8)=G4 at *;clear WX TX F1 M1 Ue U9 u3 u5 u6 x4 YJ xc;right;obtain⟨xt,M2,YJ,xc1,YI,XX,x4⟩:=F2.ex;obtain⟨XO,UD,YX,u1,u2,u3,u4,u5,u6⟩:=M2.hm;obtain⟨ds,ed,WE⟩:=M2.hd;have lds:=WE.len;left
    exists UD,u6,eh,ed
    refine fun pt WI=>?_;generalize hg:TH G4 pt 2e48=G5;have N3:Kp [] G4 G5:=hg▸Kp.new WI;have YL:G5 pt=some 2e48:=hg▸aA;clear hg;replace F2:=F2.kp N3;replace O1:=O1.kp N3;replace ed:=N3.at ed;replace eh:=N3.at eh;replace fin:=fun A' p' G' F' O' W'=>fin A' p' G' F' O' ((Fm.of N3).trans W')
    exists ed
    refine⟨by have:=FT.an;have:ds.length=S.ans.length:=lds;omega,?_⟩;have F3:bY P0 7e44 A0 ((S.at' m).done i w) p:=F2.MP ed YL nai (by show i∉S.pend.filter _;simp) lti;replace O1:=O1.put (u:=.lst 6e20) ed bD.2.2.2.1 8e6;have WX:=Fm.set (D:=[op]) (A:=A0) (H:=G5) (b:=A0.dd) (o:=.lst 6e20) (.inl bD.2.2.2.1);have TX:aC G5 7e44:=aC.cQ ed;replace eh:=TX _ _ eh;replace fin:=fun A' p' G' F' O' W'=>fin A' p' G' F' O' 9e16;generalize TH G5 A0.dd (.lst 6e20)=G6 at *;clear WX TX F2 M2 UD YX u1 u2 u3 u4 u5 u6 x4 YJ xc1 YI XX ed WE N3 YL;right;obtain⟨xt,M3,YJ,xc1,YI,XX,x4⟩:=F3.ex;obtain⟨WK,UG,VF,_⟩:=M3.hm;have vm3:aY WK 1e17=some 7e21:=(VF.2 _ 4e0).trans x4.md;have FD:=(FT.at' hf.1).done (i:=i) hf.2;rcases Vt with⟨ts,hs⟩|⟨k,hs⟩
    ·have x5:eX G6 A0 xt (.wait ts):=by
      have:=x4;rw[show((S.at' m).done i w).sl=S.sl from rfl,hs] at this;exact this
     obtain⟨_,va3,ea,_⟩:=x5;have va4:aY WK 5e50=some (.ref A0.aw):=(VF.2 _ 4e0).trans va3;rw[hs] at vm3;have etd:(S.at' m).fB i w=if i∈ts then ((S.at' m).done i w).wake (some i) else ((S.at' m).done i w,[]):=by simp only[Pu.fB,show(S.at' m).sl=S.sl from rfl,hs]
     rw[etd] at fin;refine cR fun RI TZ=>?_
     exists UG,vm3,Slp.md,va4,ea,tJ,eh
     refine⟨rfl,nN _,?_⟩;split
     ·next ht =>
      refine TZ _ _ ?_;clear TZ RI;rw[if_pos ht] at fin
      exists eh
      refine⟨P0,A0,(S.at' m).done i w,p,some i,op,N+1,rfl,F3,O1,FD,by omega,fO 1e0 (by have:=FT.md;omega),.inr ⟨ts,hs⟩,fun A' p' G' F' O' W'=>?_⟩;wp_walk;right;wp_walk;exact fin A' p' G' F' O' W'
     ·next ht =>
      clear TZ RI;rw[if_neg ht] at fin;right;wp_walk;exact fin A0 p G6 F3 O1 Fm.refl
    ·rw[hs] at vm3;have etd:(S.at' m).fB i w=((S.at' m).done i w,[]):=by simp only[Pu.fB,show(S.at' m).sl=S.sl from rfl,hs]
     rw[etd] at fin;refine cR fun RI TZ=>?_
     exists UG,vm3,Slp.md
     clear TZ RI;right;wp_walk;exact fin A0 p G6 F3 O1 Fm.refl
   ·next hi =>
    clear TZ RI;wp_walk;right;wp_walk;have et:S.take 7e5=(S,[]):=by
     have:S.over 7e5=true:=by
      unfold Pu.over;cases hs:S.sl with
      | new=>rfl
      | ended _=>rfl
      | worn=>rfl
      | _=>simp[hi]
     simp only[Pu.take,this,Γ3]
    exact fin A0 p G2 0e30 9e29 Fm.refl
  | ltr m k w =>
   have fin:=V2;clear V2;replace eh:G1 ha=some (.tup [.str "letter",.int m,.str k,wv w]):=eh;left
   exists eh
   refine⟨by decide,fun pt WI=>?_⟩;have Zf:qU [.str "letter",.int m,.str k,wv w] none 6e33=[.str "letter",.int m]:=rfl;rw[Zf];refine⟨_,iR.of aA,rfl,?_⟩;have N2:=q0D (o:=.tup [.str "letter",.int m]) WI;replace F:=F.kp N2;replace O1:=O1.kp N2;replace eh:=N2.at eh;replace Uh:=N2.at Uh;replace M0:=M0.kp N2;replace c4:=c4.keep (H':=TH G1 pt 8e42) fun b o e _=>N2.at e;replace fin:=fun A' p' G' F' O' W'=>fin A' p' G' F' O' 6e29;generalize TH G1 pt 8e42=G2 at *;wp_walk;right;left;refine cR fun RI TZ=>?_;refine qV fun RE U2=>?_
   exists Uh,vm
   rw[ite_self];refine U2 _ _ ?_;clear U2 RE TZ RI;refine cR fun RI TZ=>?_;refine qV fun RE U2=>?_;wp_walk;refine U2 _ _ ?_;clear U2 RE TZ RI;refine cR fun RI TZ=>?_
   exists Uh,vm,Q3
   refine fun pq hpq=>⟨rfl,rfl,?_⟩;have NQ:=q0D (o:=.lst [.str "wait",.str "hear"]) hpq;replace F:=F.kp NQ;replace O1:=O1.kp NQ;replace eh:=NQ.at eh;replace Uh:=NQ.at Uh;replace M0:=M0.kp NQ;replace c4:=c4.keep (H':=TH G2 pq 6e41) fun b o e _=>NQ.at e;replace fin:=fun A' p' G' F' O' W'=>fin A' p' G' F' O' 2e47;generalize TH G2 pq 6e41=G2a at *;split
   ·next hw =>
    refine TZ _ _ ?_;clear TZ RI;left
    exists Uh,t3,eh
    refine⟨by omega,?_⟩;have F1:bY P0 8e44 A0 7e23 p:=F.Jg Uh _;replace O1:=O1.put (u:=.dK 3e6) Uh bD.1 8e6;have WX:=Fm.set (D:=[op]) (A:=A0) (H:=G2a) (b:=A0.md) (o:=.dK 3e6) 6e5;have TX:aC G2a 8e44:=aC.cQ Uh;replace eh:=TX _ _ eh;replace fin:=fun A' p' G' F' O' W'=>fin A' p' G' F' O' 9e16;generalize TH G2a A0.md (.dK 3e6)=G3 at *;clear WX TX M0 Uh t1 t2 t3 t4 t5 t6 c4;right;obtain⟨xt,M1,YJ,xc,YI,XX,x4⟩:=F1.ex;obtain⟨Uz,Ue,U9,u1,u2,u3,u4,u5,u6⟩:=M1.hm;have Vt:=Sd hw;have et:S.take 8e17=(S.at' m).eW k w:=by
     have:S.over 8e17=false:=by
      unfold Pu.over;rcases Vt with⟨ts,hs⟩|⟨k,hs⟩<;>simp[hs]
     simp only[Pu.take,this,Ϙ,Β4]
    rw[et] at fin;obtain⟨lk,ml,el,hl,YV,hq⟩:=F1.lt;have vl1:aY Uz 2e21=some 6e17:=(U9.2 _ 4e0).trans XX;left
    exists Ue,vl1,eh,el
    refine fun p1 h1=>?_;have N1:=q0D (o:=.lst []) h1;have e0:TH G3 p1 2e0 p1=some 2e0:=aA;have hl':=hl.keep 2e29;obtain⟨l,ws,hv,Wi,U3⟩:∃ l ws,(aY lk 8e2).getD 1e11=.ref l/\TH G3 p1 2e0 l=some 3e7/\(aT S.lt k).getD []=ws:=by
     rcases hl'.look k with⟨z1,z2⟩|⟨l,ws,z1,z2,z3,z4⟩
     ·exact⟨p1,[],by rw[z1];rfl,e0,by rw[<- show(aT ml k).getD []=(aT S.lt k).getD [] from hq k,z2];rfl⟩
     ·exact⟨l,ws,by rw[z1];rfl,z4,by rw[<- show(aT ml k).getD []=(aT S.lt k).getD [] from hq k,z2];rfl⟩
    replace el:=N1.at el;replace eh:=N1.at eh;replace Ue:=N1.at Ue;generalize TH G3 p1 2e0=G4 at *;have lws:ws.length<=N:=by
     cases e:aT S.lt k with
     | none=>rw[e] at U3;rw[<- U3];simp
     | some v=>rw[e] at U3;have:=(FT.lw k v e).1;rw[<- U3];exact this
    exists el,hv,eh,Wi
    refine fun p2 h2=>?_;generalize hg:TH G4 p2 5e5=G5;have N2:Kp [] G4 G5:=hg▸Kp.new h2;have e2:G5 p2=some 5e5:=hg▸aA;clear hg;replace el:=N2.at el;replace eh:=N2.at eh;replace Ue:=N2.at Ue;replace Wi:=N2.at Wi
    exists Wi,e2
    refine⟨by rw[Γ];omega,fun l2 h2'=>?_⟩;rw[show ws.map wv++[wv w]=(ws++[w]).map wv by simp];have K5:Kp [] G3 G5:=N1.trans N2;obtain⟨n1,n2,n3⟩:=(F1.kp K5).new h2';have NL:=q0D (o:=.lst 8e15) h2';have e3:TH G5 l2 (.lst 8e15) l2=some (.lst 8e15):=aA;have nol:op≠l2:=by
     obtain⟨us,e,_⟩:=O1;exact aF (K5.at e) h2'
    have f3:G3 l2=none:=K5.bR h2';have KX:=K5.trans NL;replace O1:=O1.kp KX;replace M1:=M1.kp KX;replace hl:=hl.keep (fun _ _ _ e=>KX.at e);replace el:=NL.at el;replace eh:=NL.at eh;replace Ue:=NL.at Ue;generalize TH G5 l2 (.lst 8e15)=G6 at *;have F6:=F1.kp KX;have nl2:l2∉A0.las:=fun z=>n2 l2 z rfl;obtain⟨UQ,ml',a1,a2,a3,a4,a5,a6,a7⟩:=hl.S3 (k:=k) e3 YV.1 F1.nl nl2;have lml:lk.length=ml.length:=hl.len;have lm2:ml'.length<=A0.nk+1:=by
     rw[<- a1.len];have:=LC (kvs:=lk) (k:=.inr k) (x:=.ref l2);have:=YV.2;omega
    exists Ue,vl1,eh,el
    refine⟨by have:=YV.2;omega,?_⟩;have TL:aC G6 (TH G6 A0.ld 0e3):=aC.cQ el;have e7:TH G6 A0.ld 0e3 A0.ld=some 0e3:=aA;have KE:∀ b o,G6 b=some o->b≠A0.ld->TH G6 A0.ld 0e3 b=some o:=fun b o e n=>by rw[aD n];exact e
    have nld:l2≠A0.ld:=dB e3 el 3e1;replace O1:=O1.put (u:=.dK (aS lk 8e2 9e2)) el bD.2.2.2.2 8e6;replace eh:=TL _ _ eh;replace e3:=KE _ _ e3 nld;replace a1:=a1.keep (H':=TH G6 A0.ld 0e3) (fun a ha o e=>KE a o e (by
     obtain⟨xs,ex⟩:=a1.ex a ha;exact dB ex el 3e1))
    have M7:cX (TH G6 A0.ld 0e3) A0.md A0.nd A0.od A0.dd xt 7e23:=M1.QT (fun a o e h=>KE a o e (by
     obtain⟨ds,ed,_⟩:=M1.hd;rcases h with rfl|rfl|rfl|rfl
     ·exact F1.n1
     ·exact F1.n2
     ·exact dB M1.ho el 3e1
     ·exact dB ed el 3e1)) TL
    have em7:=KE _ _ Ue F1.n1;have K7:∀ b o,G3 b=some o->b≠A0.ld->TH G6 A0.ld 0e3 b=some o:=fun b o e n=>KE b o (KX.at e) n;have Yv:∀ a∈UQ,a∈A0.las\/G3 a=none:=fun a ha=>(a4 a ha).elim (fun z=>.inr (z▸f3)) .inl;have s22:∀ a∈UQ,a≠A0.od/\a≠A0.dd/\a≠A0.cl/\a∉A0.cs:=fun a ha=>by
     rcases a4 a ha with rfl|z
     ·obtain⟨ds,ed,_⟩:=(F1.ex.choose_spec).1.hd;exact⟨fun z=>n3 3e31,fun z=>n3 1e21,n1.1,n1.2⟩
     ·exact F1.s2 a z
    have T7:aC G3 (TH G6 A0.ld 0e3):=(aC.nil KX).trans TL;have c7:=x4.las (H':=TH G6 A0.ld 0e3) (las:=UQ) (n:=A0.nk+1) Yv (fun b o e h=>K7 b o e (fun z=>h 6e30));have Z0:op∉UQ:=fun z=>by
     obtain⟨us,e,_,s,_⟩:=O1;rcases a4 op z with y|y
     ·exact nol y
     ·exact s 7e48
    have O7:g9 (TH G6 A0.ld 0e3) {A0 with las:=UQ,nk:=A0.nk+1} op []:=by
     obtain⟨us,e,hc,s,s2,s3⟩:=O1;exact⟨us,e,hc,fun z=>(Ej z).elim s Z0,s2,s3⟩
    have W7:Fm [op] A0 {A0 with las:=UQ,nk:=A0.nk} G3 (TH G6 A0.ld 0e3):=⟨fun b o e h1 _=>K7 b o e (fun z=>h1 6e30),fun b o e=>by
     by_cases z:b=A0.ld
     ·exact⟨_,by rw[z];exact e7⟩
     ·exact⟨o,K7 b o e z⟩,fun b hb=>(Ej hb).elim .inl (fun z=>(Yv b z).elim (fun y=>.inl 7e48) .inr),⟨rfl,rfl,rfl⟩,rfl,.inl rfl⟩
    generalize TH G6 A0.ld 0e3=G7 at *;have Yw:∀ j,(aT ml' j).getD []=if j=k then ws++[w] else (aT S.lt j).getD []:=fun j=>by
     rw[a7 j];split
     ·rfl
     ·exact hq j
    clear KE TL el NL N1 N2 K5 e2 Wi;right;obtain⟨kv7,X7,lk7,_⟩:=M7.hm;have vm7:aY kv7 1e17=some 7e21:=(lk7.2 _ 4e0).trans x4.md;have F2:bY P0 G7 {A0 with las:=UQ,nk:=A0.nk+1} {S.at' m with lt:=fM S.lt k w} p:=F1.MR 6e40 YJ xc YI XX c7 (fun b o e hb=>K7 b o e (fun z=>by
     have:=F1.far (hb.elim .inl 2e46:b=A0.cl\/b∈A0.cs\/b=A0.ld\/b∈A0.las);rcases hb with hb|hb
     ·obtain⟨VF,_,WR,_⟩:=F1.lt;have c:=F1.cl;rw[<- hb,z,WR] at c;cases c
     ·obtain⟨xs,ex⟩:=F1.co.there b hb;obtain⟨VF,_,WR,_⟩:=F1.lt;rw[z,WR] at ex;cases ex)) T7 ⟨_,ml',e7,a1,⟨a2,lm2⟩,fun j=>by
      rw[Yw j];show _=(aT (fM S.lt k w) j).getD [];rw[vG,U3]⟩ F1.ps a3 s22
    rcases Vt with⟨k',hs⟩|⟨ts,hs⟩
    ·rw[hs] at vm7;obtain⟨x,Ud⟩:=FT.sl.1 k' hs;obtain⟨pt,ec⟩:=F2.ps.ent (show bL S.stk=some (.TV x k') from Ud);obtain⟨a,ea,pa,Yn,sv,VE,eA⟩:=F2.co.at ec;cases VE with
     | @TV a0 x k' e1 =>
      have ix:fU 0e21 (p:Int)=some 0e2:=eI (by rw[ϔ,show A0.cs[p]?=some a from ea];rfl);have Ws:G7 A0.cl=some (.lst 0e21):=F2.cl;have va7:aY kv7 9e0=some 5e11:=(lk7.2 _ 4e0).trans YI;have vc7:aY kv7 2e17=some 7e17:=(lk7.2 _ 4e0).trans xc;have vl7:aY kv7 2e21=some 6e17:=(lk7.2 _ 4e0).trans XX;refine cR fun RI TZ=>?_
      exists X7,vm7,Slp.md,va7,vc7,Ws,ix,eA,e1,eh
      split
      ·next hk =>
       subst hk;refine TZ _ _ ?_;clear TZ RI;have hw0:ws=[]:=by rw[<- U3];exact sd.he _ hs
       subst hw0;have Wf:G7 l2=some 5e5:=e3;have Zm:(S.at' m).eW k' w=(S.at' m).wake w:=by simp only[Pu.eW,show(S.at' m).sl=S.sl from rfl,hs,Γ3]
       rw[Zm] at fin
       exists X7,vl7,eh,e7,a6,Wf
       rw[show[wv w].tail=([]:List Wo).map wv from rfl];have aaB:=s22 l2 a5;have M8:=M7.other (vs:=([]:List Wo).map wv) Wf aaB.1 aaB.2.1;have a8:=a1.set ([]:List Wo) a6 a3;have T8:aC G7 (TH G7 l2 1e9):=aC.cQ Wf;have K8:∀ b o,G3 b=some o->b≠A0.ld->TH G7 l2 1e9 b=some o:=fun b o e n=>by rw[aD (aF e f3)];exact K7 b o e n
       have e8:TH G7 l2 1e9 A0.ld=some (.dK (aS lk (.inr k') 9e2)):=by rw[aD nld.symm];exact e7
       have c8:=x4.las (H':=TH G7 l2 1e9) (las:=UQ) (n:=A0.nk+1) Yv (fun b o e h=>K8 b o e (fun z=>h 6e30));have O8:g9 (TH G7 l2 1e9) {A0 with las:=UQ,nk:=A0.nk+1} op []:=O7.put Wf 7e47 8e6;have W8:=W7.trans (Fm.set (b:=l2) (o:=.lst 0e9) (.inl 7e47));have F3:bY P0 (TH G7 l2 1e9) {A0 with las:=UQ,nk:=A0.nk+1} 7e23 p:=F1.MR (M8.as ⟨rfl,rfl,rfl,rfl,rfl,rfl⟩) YJ xc YI XX c8 (fun b o e hb=>K8 b o e (fun z=>by
        obtain⟨VF,_,WR,_⟩:=F1.lt;rcases hb with hb|hb
        ·have c:=F1.cl;rw[<- hb,z,WR] at c;cases c
        ·obtain⟨xs,ex⟩:=F1.co.there b hb;rw[z,WR] at ex;cases ex)) (T7.trans T8) ⟨_,_,e8,a8,⟨by rw[nW];exact a2,by rw[m9];exact lm2⟩,fun j=>by
         rw[uX (w:=w) (r':=[]) (by rw[Yw k',if_pos rfl];rfl)];show _=(aT S.lt j).getD [];split
         ·next z=>rw[z,U3]
         ·next z=>rw[Yw j,if_neg z]⟩ F1.ps a3 s22
       generalize TH G7 l2 1e9=G8 at *;refine⟨P0,{A0 with las:=UQ,nk:=A0.nk+1},S.at' m,p,w,op,N,rfl,F3,O8,FT.at' hf.1,by omega,hf.2,.inl ⟨k',hs⟩,fun A' p' G' F' O' W'=>?_⟩;wp_walk;right;wp_walk;exact fin A' p' G' F' O' (W8.trans (W'.to A0.nk)) (by rw[W'.nk];exact Ι _)
      ·next hk =>
       clear TZ RI;have Zm:(S.at' m).eW k w=({S.at' m with lt:=fM S.lt k w},[]):=by simp only[Pu.eW,show(S.at' m).sl=S.sl from rfl,hs,if_neg hk];rfl
       rw[Zm] at fin;right;wp_walk;exact fin _ p G7 F2 O7 W7 (Ι _)
    ·rw[hs] at vm7;have Zm:(S.at' m).eW k w=({S.at' m with lt:=fM S.lt k w},[]):=by simp only[Pu.eW,show(S.at' m).sl=S.sl from rfl,hs];rfl
     rw[Zm] at fin;refine cR fun RI TZ=>?_
     exists X7,vm7,Slp.md
     clear TZ RI;right;wp_walk;exact fin _ p G7 F2 O7 W7 (Ι _)
   ·next hw =>
    clear TZ RI;right;wp_walk;have et:S.take 8e17=(S,[]):=by
     have:S.over 8e17=true:=by
      unfold Pu.over;cases hs:S.sl with
      | new=>rfl
      | ended _=>rfl
      | worn=>rfl
      | TK=>rw[hs] at hn;cases hn
      | wait ts=>rw[hs] at hw;exact absurd rfl hw
      | TV ts=>rw[hs] at hw;exact absurd rfl hw
     simp only[Pu.take,this,Γ3]
    exact fin A0 p G2a 0e30 9e29 Fm.refl 1e0
theorem Ge:Ok T (T.r 66) 18 Jw:=by
 nomatch T.r 66
 ·obtain⟨bp,cc,us,b,ms,rfl,_⟩:=h;rfl
 ·obtain⟨bp,cc,us,b,ms,rfl,eb,UP,gb,hd,hz,ec,lm,q⟩:=h
  nomatch (aI (pst 2 (pcl (Gd T) (T.r 56) 1e13)) (pss3 (pst 3 8e0) (o9 Β7 rfl (jE rfl T.nD (pa1 1e15)) 8e24 (aI (pst 5 (pcl (vZ T) 2e34 (pa2 (pix aN pv1 pv4) aB))) (aI (pst 6 (pcl (tE T) (T.r 65) (pa2 pv5 pv2))) (pss3 (pif (PW.pt (fT 8e30 (e9 (ptc Es (pcl 1e1 0e1 (pa2 pv5 aB)) aB)))) (aJ (pst 6 (aW (pa3 aE (pix aN pv6 aB) (pcl (j5 T) 2e28 (pa1 pv5))))))) (aQ (dD pv3 pv6)) (aQ (pcl (BV T) (T.r 64) (pa2 pv2 pv6))))))) 7e33)),0
  left;wp_walk;refine⟨bp,us,b,rfl,eb,UP,hd,hz,fun A1 G1 F1 fr nk0 _ K1=>?_⟩;obtain⟨md,Yi⟩:∃ md,md=A1.md:=⟨_,rfl⟩;rw[<- Yi];wp_walk;right;left;wp_walk;refine fun rl hrl=>?_;generalize hg:TH G1 rl 2e0=G2;have N1:Kp [] G1 G2:=hg▸Kp.new hrl;have er:G2 rl=some 2e0:=hg▸aA;clear hg;obtain⟨nc,_,nr⟩:=F1.new hrl;have frl:H rl=none:=K1.bR hrl;replace F1:=F1.kp N1;replace K1:=K1.trans N1;right;left
  exists K1.at ec
  refine⟨⟨by rw[Γ];omega,by rw[Γ];omega⟩,?_⟩;obtain⟨Pv,Ua⟩:∃ Pv:Nat->St->Hp->Prop,∀ i Z G,Pv i Z G=E7 fun(v4 v5 v6:Option V) (A:Fa) (p:Nat) (hv:List V) (hs:List Hap)=>A15 (Z=[some 0e18,some (.ref cc),some (.ref md),some 0e6,v4,v5,v6]) (bY b G A (takes 9e1 hs).1 p) (Uc true (takes 9e1 hs).1 (302 * i)) ((takes 9e1 hs).1.sl.isN=false) (Std (takes 9e1 hs).1) (A.nk<=i) (A.md=md) (G rl=some (.lst hv)) (fL G hv hs) (hs.length=i) ((∀ h∈hs,2e43/\dX h.w)) (rl∉A.mut) ((rl≠A.cl/\rl∉A.cs)) ((∀ a∈A.mut,H a=none)) 1e32:=⟨_,fun _ _ _=>rfl⟩;refine kJ (lo:=0) Pv ?_ ?_ ?_
  ·rw[Ua];exact⟨_,_,_,A1,0,[],[],rfl,F1,tI gb 1e0,rfl,t7 b,by omega,Yi.symm,er,.nil,rfl,by simp,nr,nc,fr,K1⟩
  ·intro i Z G hi h;rw[Ua] at h;obtain⟨v4,v5,v6,A2,p,hv,hs,rfl,F,FT,hn,sd,hk,hm,eG,hH,lh,ok,nr,nc,fr,KG⟩:=h;rw[Γ] at hi;have hil:i < ms.length:=by omega
   obtain⟨z,ez⟩:∃ z,fU 9e51 (i:Nat)=some 8e7:=⟨ms[i],eI 0e0⟩;have ecG:=KG.at ec;generalize eS:(takes 9e1 hs).1=S at *;left
   exists ecG,Γ5,ez
   refine⟨z,90,rfl,fun dk G3 XC K3 RD=>?_⟩;wp_walk;right;left;wp_walk;obtain⟨d1,d2,d3⟩:=F.new XC;refine⟨b,A2,S,p,dk,_,302 * i,by rw[hm],F.kp K3,FT,by omega,RD,by omega,d3,d1.1,d1.2,fun v h n' G4 hA hf D4 ln K4=>?_⟩;wp_walk;right;have KK:Kp [] G G4:=fun b o e _=>K4.at1 (K3.at e) (aF e XC);refine cG fun R6 XB=>?_;refine cR fun RI TZ=>?_
   suffices fin:∀(v:V) (h:Hap) (G':Hp),lQ G' v h->(2e43/\dX h.w)->Kp [] G G'->R6 [some 0e18,some (.ref cc),some (.ref md),some 0e6,some (.int (i:Nat)),some 5e7,some v] G' by
    obtain⟨ha,rfl,eh⟩:=hA;wp_walk;split
    ·refine⟨_,D4,by omega,fun g G5 a5 b5 D5 K5=>?_⟩;have K45:Kp [] G G5:=fun b o e _=>K5.at1 (KK.at e) (fun z=>by
      have:=K3.at e;rw[z] at e;rw[XC] at e;cases e)
     have eh5:=D4.tk K5 _ _ eh;wp_walk;split
     ·refine TZ _ _ ?_
      exists eh5,hap1 h
      refine⟨dk,_,rfl,D5,by omega,fun w G6 hw D6 K6=>?_⟩;wp_walk;intro p6 h6;exact fin _ (.UE h.m w) _ ⟨p6,rfl,aA⟩ ⟨hf.1,hw⟩ (fun b o e _=>(q0D h6).at (K6.at1 (K45.at e) (fun z=>by rw[z,XC] at e;cases e)))
     ·exact fin _ h _ ⟨ha,rfl,eh5⟩ hf K45
    ·exact fin _ h _ ⟨ha,rfl,eh⟩ hf KK
   clear hA hf TZ RI D4 KK;intro v h G' hA hf KK;refine XB _ _ ?_;clear XB;clear R6;replace F:=F.kp KK;replace eG:=KK.at eG;replace hH:=hH.kt (aC.nil KK);have lv:=hH.len;left
   exists eG
   refine⟨by omega,?_⟩;have F5:=F.oth (vs:=hv++[v]) eG nr nc.1 nc.2 (fun ts hts=>IA hH (fun z=>by
    rw[z] at eS;rw[<- eS] at hts;cases hts) ts)
   have T5:aC G' (TH G' rl 0e10):=aC.cQ eG;have K5:∀ b o,b≠rl->G' b=some o->TH G' rl 0e10 b=some o:=fun b o n e=>by rw[aD n];exact e
   replace eG:TH G' rl 0e10 rl=some 0e10:=aA;replace hA:=u0 hA T5;have hH5:=(hH.kt T5).snoc hA;have KH5:Kp [] H (TH G' rl 0e10):=fun b o e _=>K5 b o (aF e frl) (KK.at 8e23);generalize TH G' rl 0e10=G5 at *;right;wp_walk;refine⟨b,A2,S,p,v,h,302 * i,by rw[hm],F5,hA,hf,FT,by omega,hn,sd,by omega,fun A' p' op us' G6 F6 Yl e6 c6 n6 W6 hk6=>?_⟩;show Pv 5e1 _ _;rw[Ua];obtain⟨_,M5,_⟩:=F5.ex;have es:(takes 9e1 (hs++[h])).1=(S.take h).1:=by rw[lP,eS]
   have T6:aC G5 G6:=F5.tkp ((show Fm [] A2 {A' with nk:=A2.nk} G5 G6 from W6).mono (E:=[rl]) 0e0) eG;have e6r:G6 rl=some 0e10:=W6.kp _ _ eG nr 0e0;refine⟨_,_,_,A',p',hv++[v],hs++[h],rfl,by rw[es];exact F6,?_,?_,?_,by omega,W6.m1.1.trans hm,e6r,hH5.kt T6,by simp[lh],?_,fun z=>?_,⟨by rw[show A'.cl=A2.cl from W6.m1.2.1];exact nc.1,by rw[show A'.cs=A2.cs from W6.m1.2.2];exact nc.2⟩,fun a ha=>?_,fun b o e _=>W6.kp b o (KH5.at e) (fun z=>by rw[fr b z] at e;cases e) 0e0⟩
   ·rw[es,show 302 * 5e1=302 * i+302 by omega];exact FT.E1 h hf.1 hf.2 (fun j hj=>fO (by have:=(M5.lt j hj).1;omega) (by have:=(M5.lt j hj).2;have:=FT.md;omega)) 1e0
   ·rw[es];exact CC hn h
   ·rw[es];exact Cv sd hn h
   ·intro x hx;rcases Κ.mp hx with hx|hx
    ·exact ok x hx
    ·rw[show x=h by simpa using hx];exact hf
   ·rcases W6.nw rl z with z|z
    ·exact nr z
    ·rw[eG] at z;cases z
   ·rcases W6.nw a ha with z|z
    ·exact fr a z
    ·exact KH5.bR z
  intro Z G h;rw[Ua,Γ] at h;obtain⟨v4,v5,v6,A2,p,hv,hs,rfl,F,FT,hn,sd,hk,hm,eG,hH,lh,ok,nr,nc,fr,KG⟩:=h;right;wp_walk;exact q rl hv hs G eG hH ok 1e0 KG
theorem BR:Ok T (T.r 13) 1 (xI t.aP):=by
 nomatch T.r 13
 ·obtain⟨x,dx,p,us,b,rfl,_⟩:=h;rfl
 ·obtain⟨x,dx,p,us,b,rfl,e,ep,hU,q⟩:=h
  nomatch (pss2 (dR T.c9 T.iP pv0 (aV 9e3)) (dR T.c9 T.fE pv0 (aV 2e13))),0
  exists e
  refine fun lb f1=>?_;have n1:x≠lb:=aF e f1
  exists aD n1,e
  refine fun ln f2=>?_;have n2:x≠ln:=aF aA f2;have n3:lb≠ln:=aF 0e43 f2
  exists aD n2
  rw[aD n2.symm,aD n3.symm] at f2;have npx:p≠x:=dB ep e 3e1;have npl:=aF ep f1;have npn:=aF ep f2;have KK:Kp [x] H (TH (TH (TH (TH H lb (.lst [.ref p])) x (.ins t.aP dx [("blocks",.ref lb)])) ln (.lst [.int 0])) x (.ins t.aP dx [("blocks",.ref lb),("numbers",.ref ln)])):=fun b o eb nb=>by
   have YY:b≠x:=by simpa using nb
   rw[aD YY,aD (aF eb f2),aD YY,aD (aF eb f1)];exact eb
  have TT:aC H _:=fun a xs ea=>KK a _ ea (by simp only[Α,Δ,Ψ];exact dB ea e 3e1);refine q lb ln _ f1 f2 ⟨aA,⟨[.ref p],?_,.one (TT _ _ ep) (hU.kp TT)⟩,?_,n3,by simp⟩ KK
  ·rw[aD n1.symm,aD n3,aD n1.symm];exact aA
  ·rw[aD n2.symm];exact aA
theorem vW:Ok T (T.r 5) 1 (xH t.aG):=by
 nomatch T.r 5
 ·obtain⟨x,dx,rfl,_⟩:=h;rfl
 ·obtain⟨x,dx,rfl,e,q⟩:=h
  nomatch (pss3 (dR T.bI T.rF pv0 aB) (dR T.bI T.gY pv0 kR) (dR T.bI T.gW pv0 kR)),0
  exists e
  refine fun dp f1=>?_;have n1:x≠dp:=aF aA f1
  exists aD n1
  refine fun da f2=>?_;have n2:x≠da:=aF aA f2;have n3:dp≠da:=aF 0e43 f2
  exists aD n2
  rw[aD n1.symm] at f1;rw[aD n2.symm,aD n3.symm,aD n2.symm] at f2;refine q dp da _ f1 f2 ⟨aA,?_,?_,n3,by simp,.nil,by simp,by simp,by decide⟩ ?_
  ·rw[aD n1.symm,aD n3,aD n1.symm];exact aA
  ·rw[aD n2.symm];exact aA
  ·intro b o eb nb;have YY:b≠x:=by simpa using nb
   rw[aD YY,aD (aF eb f2),aD YY,aD (aF eb f1),aD YY];exact eb
theorem lF:Ok T (T.r 28) 3 (AN ⟨t.aO,t.aP,t.aG⟩):=by
 nomatch T.r 28
 ·obtain⟨x,dx,pg,us,b,rfl,_⟩:=h;rfl
 ·obtain⟨x,dx,pg,us,b,rfl,e,ep,hs,q⟩:=h
  nomatch (aI (dR T.aR T.jG pv0 (qB T.Dc (BR T) (hr.mono 1e0) rfl T.Q1 (T.r 13).bd .nil pass0 9e3)) (aI (dR T.aR T.dP pv0 4e10) (aI (dR T.aR T.zA pv0 cN) (aI (dR T.aR T.pP pv0 aB) (pss3 (dR T.aR T.gJ pv0 kR) (dR T.aR T.cU pv0 (IU T.rE (vW T) (hr.mono 1e0) rfl T.Iq (T.r 5).bd .nil pass0)) (dR T.aR T.gX pv0 kR)))))),0
  left
  exists e
  refine Ll ep hs fun wk wx lb ln Gw Kw hwk hlb XG W0=>?_;have ew:=Kw.at e
  exists ew
  have g1:TH Gw x 5e19 x=some 5e19:=aA;have K1:Kp [x] Gw (TH Gw x 5e19):=Kp.set 0e0;generalize TH Gw x 5e19=G1 at *;right;left
  exists g1
  refine fun p h2=>?_;obtain⟨g2,f2,K2,n2⟩:=put2 (o:=.tup [.str "new"]) (o':=.ins t.aO dx [("walk",.ref wk),("sleep",.ref p)]) g1 h2
  exists aD n2,g1
  generalize TH (TH G1 p (.tup [.str "new"])) x (.ins t.aO dx [("walk",.ref wk),("sleep",.ref p)])=G2 at *;right;left
  exists g2
  have g3:TH G2 x 9e18 x=some 9e18:=aA;have K3:Kp [x] G2 (TH G2 x 9e18):=Kp.set 0e0;generalize TH G2 x 9e18=G3 at *;right;left
  exists g3
  have g4:TH G3 x 7e18 x=some 7e18:=aA;have K4:Kp [x] G3 (TH G3 x 7e18):=Kp.set 0e0;generalize TH G3 x 7e18=G4 at *;right;left
  exists g4
  refine fun nm h5=>?_;obtain⟨g5,f5,K5,n5⟩:=put2 (o:=.dK []) (o':=.ins t.aO dx [("walk",.ref wk),("sleep",.ref p),("arg",.TK),("now",.int 0),("names",.ref nm)]) g4 h5
  exists aD n5,g4
  generalize TH (TH G4 nm 6e11) x (.ins t.aO dx [("walk",.ref wk),("sleep",.ref p),("arg",.TK),("now",.int 0),("names",.ref nm)])=G5 at *;right;left
  exists g5
  refine Q4 fun tk tx dp da Gt Kt htk ZC hda T0=>?_;have et:=Kt.at g5
  exists et
  have g6:TH Gt x 6e18 x=some 6e18:=aA;have K6:Kp [x] Gt (TH Gt x 6e18):=Kp.set 0e0;generalize TH Gt x 6e18=G6 at *;right
  exists g6
  refine fun lt h7=>?_;obtain⟨g7,f7,K7,n7⟩:=put2 (o:=.dK []) (o':=.ins t.aO dx [("walk",.ref wk),("sleep",.ref p),("arg",.TK),("now",.int 0),("names",.ref nm),("tickets",.ref tk),("letters",.ref lt)]) g6 h7
  exists aD n7,g6
  generalize TH (TH G6 lt 6e11) x (.ins t.aO dx [("walk",.ref wk),("sleep",.ref p),("arg",.TK),("now",.int 0),("names",.ref nm),("tickets",.ref tk),("letters",.ref lt)])=G7 at *;have KA:Kp [x] H G4:=((((Kw.mono 0e0).trans K1).trans K2).trans K3).trans K4;have KB:Kp [x] H Gt:=(KA.trans K5).trans (Kt.mono 0e0);have KC:Kp [x] H G6:=KB.trans K6;have xwk:x≠wk:=aF e hwk;have xtk:x≠tk:=aF g5 htk;have W7:Kp [x] Gw G7:=(((((K1.trans K2).trans K3).trans K4).trans K5).trans (Kt.mono 0e0)).trans 6e31;have P7:Kp [x] G2 G7:=(((K3.trans K4).trans K5).trans (Kt.mono 0e0)).trans 6e31;have N7:Kp [x] G5 G7:=(Kt.mono 0e0).trans 6e31;have T7:Kp [x] Gt G7:=K6.trans K7;have KD:Kp [x] H G7:=KC.trans K7;have W5:Kp [x] Gw G5:=((((K1.trans K2).trans K3).trans K4).trans K5);have xlb:lb≠x:=(aF e hlb).symm;have xln:ln≠x:=(aF e XG).symm;have xdp:dp≠x:=(aF g5 ZC).symm;have xda:da≠x:=(aF g5 hda).symm;have nm6:=K6.at1 (Kt.at f5) n5.symm;have dp6:=K6.at1 T0.hp xdp;have da6:=K6.at1 T0.ha xda;have wk5:=W5.at1 W0.ins xwk.symm;have fr4:H nm=none:=SW KA g4 h5;have Zq:∀ {a:Addr},G5 a=none->H a=none:=fun h=>SW (KA.trans K5) g5 h;have aaH:H lt=none:=SW KC g6 h7;have kt7:aC Gw G7:=fun b xs hb=>W7.at1 hb (dB hb ew 3e1);refine q ⟨x,dx,wk,wx,lb,ln,nm,tk,tx,dp,da,lt⟩ 1e4 G7 rfl ⟨g7,⟨p,rfl,P7.at1 f2 n2.symm⟩,W0.keep (fun o h=>W7.at1 h xwk.symm) (fun o h=>W7.at1 h xlb) (fun o h=>W7.at1 h xln) kt7,T0.keep (fun o h=>T7.at1 h xtk.symm) (fun o h=>T7.at1 h xdp) (fun o h=>T7.at1 h xda),N7.at1 f5 n5.symm,⟨[],f7,.nil⟩,by simp,by simp,xwk,xtk,aF wk5 htk,aF f5 ZC,aF f5 hda,aF nm6 h7,(aF dp6 h7).symm,(aF da6 h7).symm⟩ KD fun a ha=>?_;simp only[Rn.cells,Α,Δ,Ψ] at ha;rcases ha with rfl|rfl|rfl|rfl|rfl|rfl|rfl|rfl
  ·exact .inl rfl
  ·exact .inr hlb
  ·exact .inr XG
  ·exact .inr fr4
  ·exact .inr (Zq htk)
  ·exact .inr (Zq ZC)
  ·exact .inr (Zq hda)
  ·exact .inr aaH
theorem iE:Ok T (T.r 7) 1 (Cq t.aG):=by
 nomatch T.r 7
 ·obtain⟨tk,tx,dp,da,made,pend,ans,w,rfl,_⟩:=h;rfl
 ·obtain⟨tk,tx,dp,da,made,pend,ans,w,rfl,R,q⟩:=h;have hu:=mH hr
  nomatch (aJ (aK (OX (Eu hu pv1 4e16)))),0
  exists R.ins,R.hp,wL
  exact q
theorem rN:Ok T (T.r 33) 2 (Ju ⟨t.aO,t.aP,t.aG⟩):=by
 nomatch T.r 33
 ·obtain⟨R,as,sl,S,v,h,rfl,_⟩:=h;rfl
 ·obtain⟨R,as,sl,S,v,h,rfl,A,hn,hH,q⟩:=h
  nomatch (aI (pst 2 3e0) (pss3 (pif 6e43 (aJ (aK (pcr Mt pv2 aE)))) (pif (fJ kE (pix aN 2e5 aB) (aW 6e15) 2e4) 2e22) (aK (Mv 9e50 (mU (OW 9e50 (mU (OY (pmt 4e3 T.bI (iE T) (T.r 7) (pa1 3e0)))))))))),0
  obtain⟨a,rfl,eh⟩:=hH;cases es:S.sl with
  | TK=>rw[es] at hn;cases hn
  | new =>
   have Ui:=A.slp;rw[es] at Ui;obtain⟨p,rfl,ep⟩:=Ui;cases h with
   | UE m w =>
    simp only[Hap.vs,Hap.ini,Hap.w,Χ,Α1] at eh;rw[show S.over 6e7=false by simp only[Pu.over,es]] at q
    exists A.ins,eh,ep
    exact q _ Kp.refl
   | don m i w =>
    simp only[Hap.vs,Hap.ini,Hap.w,Χ,Α1] at eh;rw[show S.over 7e5=true by simp only[Pu.over,es]] at q
    exists A.ins,eh,ep
    exact q _ Kp.refl
   | ltr m k w =>
    simp only[Hap.vs,Hap.ini,Hap.w,Χ,Α1] at eh;rw[show S.over 8e17=true by simp only[Pu.over,es]] at q
    exists A.ins,eh,ep
    exact q _ Kp.refl
  | wait ts =>
   have Ui:=A.slp;rw[es] at Ui;obtain⟨p,p2,rfl,ep,Vb⟩:=Ui;cases h with
   | UE m w =>
    simp only[Hap.vs,Hap.ini,Hap.w,Χ,Α1] at eh;rw[show S.over 6e7=true by simp only[Pu.over,es]] at q
    exists A.ins,eh,ep
    refine fun p9 h9=>⟨rfl,by decide +kernel,?_⟩;rw[if_neg 0e7];have N9:=q0D (o:=.tup [.str "ended",.str "worn"]) h9
    exists N9.at eh
    exact q _ N9
   | don m i w =>
    simp only[Hap.vs,Hap.ini,Hap.w,Χ,Α1] at eh;rw[show S.over 7e5 = !decide 0e22 by simp only[Pu.over,es]] at q
    exists A.ins,eh,ep
    refine fun p9 h9=>⟨rfl,by decide +kernel,?_⟩;rw[if_neg 0e7];have N9:=q0D (o:=.tup [.str "ended",.str "worn"]) h9;have A9:=A.kp N9;have eh9:=N9.at eh;generalize TH H p9 4e41=G9 at *
    exists A9.ins,A9.tk.ins,eh9
    refine⟨R.tk,R.tx,R.dp,R.da,_,_,_,some i,rfl,A9.tk,?_⟩;wp_walk;rw[show decide (∃ j,j∈S.pend/\(some i:Wo)=some j)=decide 0e22 by simp];exact q _ N9
   | ltr m k0 w =>
    simp only[Hap.vs,Hap.ini,Hap.w,Χ,Α1] at eh;rw[show S.over 0e54=false by simp only[Pu.over,es]] at q
    exists A.ins,eh,ep
    refine fun p9 h9=>⟨rfl,by decide +kernel,?_⟩;rw[if_neg 0e7];have N9:=q0D (o:=.tup [.str "ended",.str "worn"]) h9
    exists N9.at eh
    exact q _ N9
  | TV k =>
   have Ui:=A.slp;rw[es] at Ui;obtain⟨p,rfl,ep⟩:=Ui;cases h with
   | UE m w =>
    simp only[Hap.vs,Hap.ini,Hap.w,Χ,Α1] at eh;rw[show S.over 6e7=true by simp only[Pu.over,es]] at q
    exists A.ins,eh,ep
    refine fun p9 h9=>⟨rfl,by decide +kernel,?_⟩;rw[if_neg 0e7];have N9:=q0D (o:=.tup [.str "ended",.str "worn"]) h9
    exists N9.at eh
    exact q _ N9
   | don m i w =>
    simp only[Hap.vs,Hap.ini,Hap.w,Χ,Α1] at eh;rw[show S.over 7e5 = !decide 0e22 by simp only[Pu.over,es]] at q
    exists A.ins,eh,ep
    refine fun p9 h9=>⟨rfl,by decide +kernel,?_⟩;rw[if_neg 0e7];have N9:=q0D (o:=.tup [.str "ended",.str "worn"]) h9;have A9:=A.kp N9;have eh9:=N9.at eh;generalize TH H p9 4e41=G9 at *
    exists A9.ins,A9.tk.ins,eh9
    refine⟨R.tk,R.tx,R.dp,R.da,_,_,_,some i,rfl,A9.tk,?_⟩;wp_walk;rw[show decide (∃ j,j∈S.pend/\(some i:Wo)=some j)=decide 0e22 by simp];exact q _ N9
   | ltr m k0 w =>
    simp only[Hap.vs,Hap.ini,Hap.w,Χ,Α1] at eh;rw[show S.over 0e54=false by simp only[Pu.over,es]] at q
    exists A.ins,eh,ep
    refine fun p9 h9=>⟨rfl,by decide +kernel,?_⟩;rw[if_neg 0e7];have N9:=q0D (o:=.tup [.str "ended",.str "worn"]) h9
    exists N9.at eh
    exact q _ N9
  | ended w =>
   have Ui:=A.slp;rw[es] at Ui;obtain⟨p,rfl,ep⟩:=Ui;have e0:∃(kd:Str) (xs:List V),H a=some 3e48:=by cases h<;>exact⟨_,_,eh⟩
   obtain⟨kd,xs,e0⟩:=e0;rw[show S.over (h)=true by simp only[Pu.over,es]] at q
   exists A.ins,e0,ep
   refine fun p9 h9=>⟨rfl,by decide +kernel,?_⟩;rw[if_pos 0e7];exact q _ 2e56
  | worn =>
   have Ui:=A.slp;rw[es] at Ui;obtain⟨p,rfl,ep⟩:=Ui;have e0:∃(kd:Str) (xs:List V),H a=some 3e48:=by cases h<;>exact⟨_,_,eh⟩
   obtain⟨kd,xs,e0⟩:=e0;rw[show S.over (h)=true by simp only[Pu.over,es]] at q
   exists A.ins,e0,ep
   refine fun p9 h9=>⟨rfl,by decide +kernel,?_⟩;rw[if_pos 0e7];exact q _ 2e56
theorem iI:Ok T 5e27 1 (qM t.aP):=by
 nomatch T.r 16
 ·obtain⟨wk,wx,lb,ln,k,n,b,r,rfl,_⟩:=h;rfl
 ·obtain⟨wk,wx,lb,ln,k,n,b,r,rfl,W,q⟩:=h
  nomatch (aJ (Lx 3e12 4e5 QO aB Eh xC)),0
  obtain⟨vs,eb,hB⟩:=W.bl;obtain⟨l,el,Wu⟩:=rL k n b r;have en:=W.nu;rw[el] at en;have i2:fU 0e29 (-1)=some 8e34:=by rw[Α3];exact kH _ _
  have i3:yA ((l++[(n:Int)]).map V.int).length (-1)=some l.length:=by
   unfold yA;simp;omega
  have i4:((l++[(n:Int)]).map V.int).set l.length (.int ((n:Int)+1))=(l++[((n+1:Nat):Int)]).map V.int:=by simp
  exists W.ins,en,i2,i3,i4
  have n1:wk≠ln:=dB W.ins W.nu 3e1;have K1:Kp [ln] H 9e37:=Kp.j8;have T1:aC H 9e37:=fun a xs e=>by rw[aD (dB e W.nu 3e1)];exact e
  exact q _ ⟨by rw[aD n1];exact W.ins,⟨vs,by rw[aD W.ne];exact eb,(hB.kp T1).turn⟩,by rw[aA,Wu],W.ne,W.Us⟩ K1
theorem gL:Ok T 0e28 1 (xJ t.aP):=by
 nomatch T.r 15
 ·obtain⟨wk,wx,lb,ln,k,n,b,r,m,rfl,_⟩:=h;rfl
 ·obtain⟨wk,wx,lb,ln,k,n,b,r,m,rfl,W,hm,q⟩:=h
  nomatch (aJ (aK (pix aN (pix aN 3e16 4e5) (pix aN 3e12 4e5)))),0
  obtain⟨vs,eb,hB⟩:=W.bl;obtain⟨ws,p,us,rfl,ep,hU,_,_⟩:=hB.last;obtain⟨l,el,_⟩:=rL k n b r;have en:=W.nu;rw[el] at en;have hn:n < us.length:=by
   have:=(Λ.mp hm).1;have:=hU.len;omega
  obtain⟨m',hm',hM⟩:=hU.at (ϐ hn);rw[hm] at hm';cases hm';have i1:fU 6e50 (-1)=some 1e4:=kH _ _;have i2:fU 0e29 (-1)=some 8e34:=by rw[Α3];exact kH _ _
  have i3:fU us (n:Int)=some us[n]:=eI (ϐ hn)
  exists W.ins,eb,en,i1,i2,ep,i3
  exact q _ hM
theorem Au:Ok T (T.r 18) 2 (zU t.aP):=by
 nomatch T.r 18
 ·obtain⟨wk,wx,lb,ln,k,n,b,x,r,m,rfl,_⟩:=h;rfl
 ·obtain⟨wk,wx,lb,ln,k,n,b,⟨kx,bx,nx⟩,r,m,rfl,W,hm,q⟩:=h
  nomatch (aI (aQ (tT 3e16)) (pss3 8e52 8e52 (pif (ptc aZ (pix aN 1e28 aB) aE) (aJ (aQ (pmt0 pv0 T.c9 (iI T) 5e27)))))),0
  obtain⟨vs,eb,hB⟩:=W.bl;have n1:wk≠ln:=dB W.ins W.nu 3e1;have n2:wk≠lb:=dB W.ins eb 3e1;obtain⟨ws,p,us,rfl,ep,hU,hBr,_⟩:=hB.last;have hB2:=hBr 0e0;have nu0:H ln=some 9e45:=by rw[W.nu,rM];simp
  have Us:=W.Us;simp only[Ζ] at Us;left
  exists W.ins,eb,rA,List.dropLast_concat
  have T1:=aC.dO (ys:=ws) eb;have i1:TH H lb 2e11 wk=some 5e26:=by rw[aD n2];exact W.ins
  have i2:TH H lb 2e11 ln=some 9e45:=by rw[aD W.ne.symm];exact nu0
  have i3:TH H lb 2e11 lb=some 2e11:=aA;have K1:Kp [lb] H (TH H lb 2e11):=Kp.j8;have B1:=hB2.kp T1;generalize TH H lb 2e11=G at *;right;left
  exists i1,i2,rA,List.dropLast_concat
  have T2:=aC.dO (ys:=(cL 5e8).map V.int++[.int kx]) i2;have j1:TH G ln (.lst 6e8) wk=some 5e26:=by rw[aD n1];exact i1
  have j2:TH G ln (.lst 6e8) ln=some (.lst 6e8):=aA;have j3:TH G ln (.lst 6e8) lb=some 2e11:=by rw[aD W.ne];exact i3
  have K2:Kp [ln] G (TH G ln (.lst 6e8)):=Kp.j8;have B2:=B1.kp T2;generalize TH G ln (.lst 6e8)=G2 at *;right;left
  exists j1,j2,rA,List.dropLast_concat
  have T3:=aC.dO (ys:=(cL 5e8).map V.int) j2;have W3:jQ t.aP (TH G2 ln 3e19) wk wx lb ln 5e8:=⟨by rw[aD n1];exact j1,⟨ws,by rw[aD W.ne];exact j3,B2.kp T3⟩,aA,W.ne,by simp only[Ζ];omega⟩;have K3:Kp [ln] G2 (TH G2 ln 3e19):=Kp.j8;generalize TH G2 ln 3e19=G3 at *;right;have K13:Kp [lb,ln] H G3:=((K1.mono 0e0).trans (K2.mono 0e0)).trans (K3.mono 0e0)
  exists W3.ins
  refine⟨wk,wx,lb,ln,k,n,b,r,m,rfl,W3,hm,fun v hv=>?_⟩;obtain⟨a,kd,xs,rfl,ea,hk⟩:=hv.QU
  exists ea
  by_cases hi:m.Ak=true
  ·rw[hi] at hk q;have hkd:kd = "if":=by simpa using hk
   subst hkd
   exists W3.ins
   exact⟨wk,wx,lb,ln,k,n,b,r,rfl,W3,fun H4 W4 K4=>q H4 W4 (K13.trans (K4.mono 0e0))⟩
  ·have XF:m.Ak=false:=by simpa using hi
   rw[XF] at hk q;have hkd:(kd = "if")=False:=by simpa using hk
   exists hkd
   exact q G3 W3 K13
theorem yC:Ok T (T.r 14) 3 (Ct t.aP):=by
 nomatch T.r 14
 ·obtain⟨wk,wx,lb,ln,st,rfl,_⟩:=h;rfl
 ·obtain⟨wk,wx,lb,ln,st,rfl,W0,ok0,q0,q1⟩:=h
  nomatch (pss2 (qD Β7 (ptc aZ (pix aN 3e12 4e5) (bF cP rfl T.kX fG (pa1 (pix aN 3e16 4e5)))) (pss2 (pif (ptc aZ (bF cP rfl T.kX fG (pa1 3e16)) aB) 3e22) (aQ (pmt0 pv0 T.c9 (Au T) (T.r 18))))) (aK 1e28)),0
  obtain⟨Y,hV⟩:∃ Y:Nat->St->Hp->Prop,∀ m Z G,Y m Z G = ∃ Ut:Stk,Z=[some (.ref wk)]/\jQ t.aP G wk wx lb ln Ut/\yJ Ut/\bP Ut=bP st/\m=Ut.length/\Kp [lb,ln] H G:=⟨_,fun _ _ _=>rfl⟩
  try simp only[L2.start,ϓ,List.map_nil,Ζ,ϕ,Nat.reduceAdd,Nat.reduceSub,List.replicate_zero,ϛ]
  refine⟨Y,⟨st.length,?_⟩,?_⟩
  ·rw[hV];exact⟨st,rfl,W0,ok0,rfl,rfl,Kp.refl⟩
  intro m Z G hG;rw[hV] at hG;obtain⟨Ut,rfl,W,ok,Yc,rfl,KG⟩:=hG;have back:∀(VG:Stk) (G2:Hp),jQ t.aP G2 wk wx lb ln VG->yJ VG->bP VG=bP st->VG.length < Ut.length->Kp [lb,ln] H G2->∃ m',m' < Ut.length/\Y m' [some (.ref wk)] G2:=fun VG G2 a b c d e=>by
   refine⟨VG.length,d,?_⟩;rw[hV];exact⟨VG,rfl,a,b,c,rfl,e⟩
  clear hV
  match Ut,ok with
  | (k,b,n)::r,ok =>
   obtain⟨vs,eb,hB⟩:=W.bl;obtain⟨ws,p,us,rfl,ep,hU,hBr,hBn⟩:=hB.last;obtain⟨l,el,_⟩:=rL k n b r;have en:=W.nu;rw[el] at en;have i1:fU 6e50 (-1)=some 1e4:=kH _ _;have i2:fU 0e29 (-1)=some 8e34:=by rw[Α3];exact kH _ _
   have lu:=hU.len;have lw:=hB.len
   exists W.ins,eb,en,i1,i2,ep
   by_cases hn:n=b.length
   ·rw[if_pos 1e0]
    exists W.ins,eb,en
    refine⟨fun Z' G'=>∃ m',m' < r.length+1/\Y m' Z' G',fun _ _ z=>z,?_⟩
    match r,ok,W,Yc,back,hBn,lw with
    | [],ok,W,Yc,back,hBn,lw =>
     have e0:bP st=[(k,b,n)]:=by rw[<- Yc];simp[bP]
     rw[if_pos (by have:=lw.1;simp only[Ζ,ϕ] at this;omega)];exact q0 G 8e48 8e47 (by rw[e0];simp[bL,hn]) KG
    | (k2,b2,n2)::r,ok,W,Yc,back,hBn,lw =>
     rw[if_neg (by have:=lw.1;simp only[Ζ] at this;omega)];have h2:n2 < b2.length:=ok.2 (k2,b2,n2) 0e0;have hm:b2[n2]?=some b2[n2]:=ϐ h2;have ho:mM b2 n2=if (b2[n2]).Ak=true then n2+1 else n2:=by unfold mM;rw[hm]
     refine⟨wk,wx,lb,ln,k2,n2,b2,(k,b,n),r,b2[n2],rfl,W,hm,fun H' W' K'=>?_⟩;rw[<- ho] at W';refine back _ H' W' ⟨BN h2,fun x hx=>ok.2 x (ϑ _ hx)⟩ ?_ 0e0 (Kp.trans KG K');rw[<- Yc]
     conv=>rhs;rw[bP]
     rw[if_pos hn]
   ·rw[if_neg 1e0];have h2:n < b.length:=by have:=ok.1;omega
    have hm:b[n]?=some b[n]:=ϐ h2;have e0:bP st=(k,b,n)::r:=by
     rw[<- Yc];cases r with
     | nil=>simp[bP]
     | cons x r=>obtain⟨k2,b2,n2⟩:=x;simp[bP,hn]
    exact⟨wk,wx,lb,ln,k,n,b,r,b[n],rfl,W,hm,fun v hv=>q1 b[n] v G 8e48 8e47 (by rw[e0];exact hm) hv KG⟩
theorem jZ:Ok T (T.r 11) 1 (ES t.aG):=by
 nomatch T.r 11
 ·obtain⟨tk,tx,dp,da,made,pend,ans,rfl,_⟩:=h;rfl
 ·obtain⟨tk,tx,dp,da,made,pend,ans,rfl,R,q⟩:=h
  nomatch (aJ (aQ (Gh 4e16))),0
  exists R.ins,R.hp
  have n1:=R.n1;exact q _ ⟨by rw[aD n1.1];exact R.ins,aA,by rw[aD R.nda.symm];exact R.ha,R.nda,by simp,.nil,R.la,by simp,R.small⟩ Kp.j8
theorem zC:Ok T 3e34 2 (Jp ⟨t.aO,t.aP,t.aG⟩):=by
 nomatch T.r 40
 ·obtain⟨R,as,sl,S,w,rfl,_⟩:=h;rfl
 ·obtain⟨R,as,sl,S,w,rfl,A,q⟩:=h
  nomatch (pss3 (dR T.aR T.dP pv0 8e20) 7e40 (aK (aV (pa1 8e20)))),0
  left
  exists A.ins
  refine fun p hp=>?_;have N1:=q0D (o:=.tup [.str "ended",wv w]) hp;have e1:TH H p 9e28 p=some 9e28:=aA;have A1:=A.kp N1
  exists N1.at A.ins
  have A2:=A1.attr 1e4 (.ended w) S.ar S.nw ⟨p,rfl,e1⟩;have F2:=(Fw.of (R:=R) (as:=as) N1).trans (Fw.set (p:=R.x) (o:=7e19) 6e1);generalize TH (TH H p 9e28) R.x 7e19=G2 at *;right;left
  exists A2.ins,A2.tk.ins
  refine⟨R.tk,R.tx,R.dp,R.da,_,_,_,rfl,A2.tk,fun H3 T3 K3=>?_⟩;have K4:Kp [R.tk,R.dp,R.da] G2 H3:=K3.mono 0e16
  have A3:=A2.tick T3 K4;have F3:=F2.trans 9e53;wp_walk;right;wp_walk;refine fun p3 h3 c h4=>?_;have N3:=(q0D (o:=.tup [.str "end",wv w]) h3).trans 7e8;exact q _ c [.ref p3] _ 6e32 5e30 aA 9e8 5e29
theorem yB:Ok T (T.r 41) 2 (Jz ⟨t.aO,t.aP,t.aG⟩):=by
 nomatch T.r 41
 ·obtain⟨R,as,sl,S,rfl,_⟩:=h;rfl
 ·obtain⟨R,as,sl,S,rfl,A,q⟩:=h
  nomatch (pss3 (dR T.aR T.dP pv0 4e10) 7e40 (aK (aV (pa1 4e10)))),0
  left
  exists A.ins
  refine fun p hp=>?_;have N1:=q0D (o:=.tup [.str "worn"]) hp;have e1:TH H p 9e15 p=some 9e15:=aA;have A1:=A.kp N1
  exists N1.at A.ins
  have A2:=A1.attr 1e4 (.worn) S.ar S.nw ⟨p,rfl,e1⟩;have F2:=(Fw.of (R:=R) (as:=as) N1).trans (Fw.set (p:=R.x) (o:=7e19) 6e1);generalize TH (TH H p 9e15) R.x 7e19=G2 at *;right;left
  exists A2.ins,A2.tk.ins
  refine⟨R.tk,R.tx,R.dp,R.da,_,_,_,rfl,A2.tk,fun H3 T3 K3=>?_⟩;have K4:Kp [R.tk,R.dp,R.da] G2 H3:=K3.mono 0e16
  have A3:=A2.tick T3 K4;have F3:=F2.trans 9e53;wp_walk;right;wp_walk;refine fun p3 h3 c h4=>?_;have N3:=(q0D (o:=.tup [.str "worn"]) h3).trans 7e8;exact q _ c [.ref p3] _ 6e32 5e30 aA 9e8 5e29
theorem mO:Ok T 2e25 1 MC:=by
 nomatch T.r 3
 ·obtain⟨w,rfl,_⟩:=h;rfl
 ·obtain⟨w,rfl,q⟩:=h
  nomatch (aJ (aK (pZ (ptc mR pv0 cN) aB pv0))),0
  exists DK
  cases w with
  | none=>exact q
  | some n=>exact q
theorem tP:Ok T 4e18 1 Du:=by
 nomatch T.r 0
 ·obtain⟨n,rfl,_⟩:=h;rfl
 ·obtain⟨n,rfl,q⟩:=h
  nomatch (aJ (aK (bF 3e13 rfl T.A8 oV (pa2 (gD eF 8e38) (bF 3e24 rfl T.GN z9 (pa2 8e38 pv0)))))),0
  wp_walk;exact q
theorem jI:Ok T 1e25 1 MD:=by
 nomatch T.r 4
 ·obtain⟨b,rfl,_⟩:=h;rfl
 ·obtain⟨b,rfl,q⟩:=h
  nomatch (aJ (aK (pZ (AF pv0) aB aB))),0
  wp_walk;cases b<;>exact q
theorem Gc:Ok T (T.r 2) 2 Cn:=by
 nomatch T.r 2
 ·obtain⟨g,a,b,rfl,_⟩:=h;rfl
 ·obtain⟨g,a,b,rfl,ha,q⟩:=h
  nomatch (aI (pif 4e21 (aJ (aK (pcl (jI T) 1e25 (pa1 (pcr aZ pv1 pv2)))))) (aI (pst 3 (pcl (mO T) 2e25 9e3)) (aI (pst 4 (pcl (mO T) 2e25 7e4)) (aI (pif 4e21 (aJ (aK (pcl (jI T) 1e25 (pa1 (pcr j6 pv3 pv4)))))) (pss3 (pif 4e21 (aJ (aK (pcl (tP T) 4e18 (pa1 (bG cS pv3 pv4)))))) (pif 4e21 (aJ (aK (pcl (tP T) 4e18 (pa1 (bG jL pv3 pv4)))))) (aK (pcl (tP T) 4e18 (pa1 (bG oY pv3 pv4))))))))),0
  have b1:=vD ha;cases g with
  | eq =>
   exists Sg.s
   have sc0:UX .TK .TK=true:=rfl;have sc1:∀ i,UX .TK 0e35=true:=fun _=>rfl;have sc2:∀ i,UX 0e35 .TK=true:=fun _=>rfl;have sc3:∀ i j,UX 0e35 9e34=true:=fun _ _=>rfl;cases a with
   | none=>cases b with
    | none=>simpa[JQ,sc0,sc1,sc2,sc3,wv,B9,Sg.of] using q
    | some n=>simpa[JQ,sc0,sc1,sc2,sc3,wv,B9,Sg.of] using q
   | some m=>cases b with
    | none=>simpa[JQ,sc0,sc1,sc2,sc3,wv,B9,Sg.of] using q
    | some n=>simpa[JQ,sc0,sc1,sc2,sc3,wv,B9,Sg.of] using q
  | lt =>
   exists Sg.s,decide_eq_true_eq
   exact q
  | add =>
   exists Sg.s
   exact q
  | sub =>
   exists Sg.s
   exact q
  | mul =>
   exists Sg.s
   exact⟨En 1e0 1e0,q⟩
theorem Dy{d:Nat}(hn:3<=n)(IH:gO P w K mg base UR n (t.a 1) (t.d 1) ["saying","names","arg","now","answers"] (LS d)):Ok T (T.r 1) (n+1) (LS (d+1)):=by
  nomatch T.r 1
  · obtain⟨v,dn,da,p,s,rfl,_⟩:=h;rfl
  · obtain⟨v,dn,da,p,s,rfl,hS,hd,TY,hN,hA,hP,q⟩:=h;have hu:=mH hr
    nomatch (aI (pst 5 5e2) (aI (pif 3e5 1e53) (aI (pif 3e5 3e22) (aI (pif 3e5 (aJ (aK (tS hu pv1 5e2 ⟨rfl,rfl,rfl,rfl⟩)))) (aI (pif 3e5 (aJ 4e13)) (aI (pif 3e5 (aJ (aK (pcl (tP T) 4e18 0e13)))) (aI (pst 6 6e37) (aI (pif 3e5 (aJ (aK (tS hu pv4 pv6 ⟨rfl,rfl,rfl,rfl⟩)))) (pss3 (pif 3e5 (aJ (aK (pcl (jI T) 1e25 (pa1 (pcr aZ (pcl (mO T) 2e25 (pa1 pv6)) aB)))))) (pst 7 6e37) (aK (pcl (Gc T) (T.r 2) (pa3 pv5 pv6 pv7)))))))))))),0
    cases hS with
    | num e =>
      exists e
      exact q
    | TK e =>
      exists e
      exact q
    | name e =>
      obtain⟨kvs,ek,hk⟩:=hN
      exists e,ek,hk
      exact q
    | arg e =>
      exists e
      exact q
    | now e =>
      exists e
      exact q
    | ans e h1 =>
      exists e
      simp only[Say.depth] at hd;refine⟨_,_,_,p,_,rfl,h1,by omega,TY,hN,hA,hP,?_⟩;obtain⟨kvs,ek,hk⟩:=hA
      exists e,ek,hk
      exact q
    | neg e h1 =>
      exists e
      simp only[Say.depth] at hd;refine⟨_,_,_,p,_,rfl,h1,by omega,TY,hN,hA,hP,?_⟩
      exists e,decide_eq_true_eq
      exact q
    | @two a v u g s1 s2 e h1 h2 =>
      simp only[Say.depth] at hd;cases g <;>
      ( exists e,Sg.s
        refine⟨_,_,_,p,_,rfl,h1,by omega,TY.1,hN,hA,hP,?_⟩
        exists e,Sg.s
        refine⟨_,_,_,p,_,rfl,h2,by omega,TY.2,hN,hA,hP,?_⟩
        exists e,Sg.s
        exact⟨_,_,_,rfl,D8 hP TY.1,q⟩)
theorem Dl(T:Tx P w base K mg t):∀ d,gO P w K mg base UR (d+3) (t.a 1) (t.d 1) ["saying","names","arg","now","answers"] (LS d):=by
 intro d
 induction d with
 | zero=>exact⟨fun _ _ _ _ x=>by (obtain⟨_,_,_,_,s,_,_,h,_⟩:=x;exact absurd h (by have:=s.nK;omega)),fun _ _ _ _ _ _ _ _ _ _ _ _ _ x=>by (obtain⟨_,_,_,_,s,_,_,h,_⟩:=x;exact absurd h (by have:=s.nK;omega))⟩
 | succ d ih=>exact Dy T 1e0 ih
theorem eD:Ok T (T.r 42) 10 (Cu ⟨t.aO,t.aP,t.aG⟩):=by
 nomatch T.r 42
 ·obtain⟨R,as,sl,S,v,s,rfl,_⟩:=h;rfl
 ·obtain⟨R,as,sl,S,v,s,rfl,A,ok,hS,so,q⟩:=h
  nomatch (aJ (aK (pcl (Dl T 6) (T.r 1) (dY pv1 (dY 8e9 (pa3 3e49 5e16 (aM T.bI T.gW 4e3))))))),0
  exists A.ins,A.tk.ins
  exact⟨v,R.nm,R.da,S.pl,s,rfl,hS,so.2,so.1,⟨_,A.nm,pR S.nm⟩,⟨_,A.tk.ha,pC S.ans⟩,ok,q⟩
theorem pU:Ok T (T.r 17) 2 (rY t.aP):=by
 nomatch T.r 17
 ·obtain⟨wk,wx,lb,ln,k,n,c,b,bb,r,m,rfl,_⟩:=h;rfl
 ·obtain⟨wk,wx,lb,ln,k,n,c,b,bb,r,m,rfl,W,hm,hs,ZN,q⟩:=h
  nomatch (pss2 (aQ (dD 3e16 (pix aN 1e28 (bG cS aB pv1)))) (aQ (qA PySem.F.slot_list_extend PySem.F.type_list_extend tM 3e12 (pa1 (aV (pa2 pv1 aB)))))),0
  obtain⟨vs,eb,hB⟩:=W.bl;have n1:wk≠ln:=dB W.ins W.nu 3e1;have n2:wk≠lb:=dB W.ins eb 3e1;have lv:=hB.len
  exists W.ins,eb
  refine⟨wk,wx,lb,ln,k,n,b,r,m,rfl,W,hm,fun v hv=>?_⟩;obtain⟨a,p,xs,us,rfl,ea,hat,ep,hU⟩:=hv.subAt hs
  exists ea,hat,eb
  have lf:=W.Us;simp only[Ζ] at lv lf;refine⟨by omega,?_⟩;have T1:=aC.dO (ys:=vs++[V.ref p]) eb;have i1:TH H lb 1e12 wk=some 5e26:=by rw[aD n2];exact W.ins
  have i2:TH H lb 1e12 ln=some 3e19:=by rw[aD W.ne.symm];exact W.nu
  have i3:TH H lb 1e12 lb=some 1e12:=aA;have K1:Kp [lb] H (TH H lb 1e12):=Kp.j8;have B1:=hB.kp T1;have U1:=hU.kp T1;have p1:=T1 _ _ ep;generalize TH H lb 1e12=G at *
  exists i1,i2
  refine fun l0 f0=>?_;have N0:=q0D (o:=.lst [.int c,.int 0]) f0
  exists N0.at i2,Γ
  have ll:=BM 5e8;simp only[Ζ] at ll;refine⟨by omega,?_⟩;have nl0:ln≠l0:=aF i2 f0;have nb0:lb≠l0:=aF i3 f0;have nw0:wk≠l0:=aF i1 f0;have T2:aC G (TH (TH G l0 (.lst [.int c,.int 0])) ln (.lst ((cL 5e8).map V.int++[.int c,.int 0]))):=(aC.nil N0).tr (aC.dO (N0.at i2));refine q _ ⟨by rw[aD n1,aD nw0];exact i1,⟨_,by rw[aD W.ne,aD nb0];exact i3,.cons (B1.kp T2) (T2 _ _ p1) (U1.kp T2)⟩,by rw[aA,rM];simp,W.ne,by simp only[Ζ];omega⟩ ?_;intro d o ed nd;simp only[Α,Δ,Ψ,not_or] at nd;have g1:=K1.at1 ed nd.1;rw[aD nd.2,aD (aF g1 f0)];exact g1
theorem Di:Ok T (T.r 39) 11 (EL ⟨t.aO,t.aP,t.aG⟩ true):=by
 nomatch T.r 39
 ·obtain⟨R,as,sl,S,a,m,N,rfl,_⟩:=h;rfl
 ·obtain⟨R,as,sl,S,a,m,N,rfl,A,hs,hB,F,g,Ud,q⟩:=h
  nomatch (aJ (gE (fJ zD 6e6 (aW (pa2 cN aB)) 2e4) 3e38 (aJ (gE (ptc aZ 3e0 aE) 3e38 (aJ 6e27))))),0
  obtain⟨k0,b0,n0,r0,Vs,YQ⟩:=gT Ud;have d0:=F.sk.dp;rw[Vs] at d0;have ZN:r0.length<=90:=by have:=d0.1;omega
  have enter:∀(G:Hp) (_:aX ⟨t.aO,t.aP,t.aG⟩ G R as sl S) (_:Fw R as as H G) (c:Nat) (bb:List Stm),m.sub c=some bb->(∀ H',aX ⟨t.aO,t.aP,t.aG⟩ H' R as sl (S.enter c bb)->Fw R as as H H'->Q .TK H')->rY t.aP [.ref R.wk,.int (c:Int)] G 5e47 E0:=fun G A FG c bb Xp q=>by
   have W:=A.wk;rw[Vs] at W;refine⟨R.wk,R.wx,R.lb,R.ln,k0,n0,c,b0,bb,r0,m,rfl,W,YQ,Xp,ZN,fun H1 W1 K1=>?_⟩;rw[<- Vs] at W1;exact q H1 (A.walk W1 K1) (FG.trans (A.uV W1 K1))
  have pass:∀(G:Hp) (_:aX ⟨t.aO,t.aP,t.aG⟩ G R as sl S) (_:Fw R as as H G),(∀ H',aX ⟨t.aO,t.aP,t.aG⟩ H' R as sl S.pass->Fw R as as H H'->Q .TK H')->qM t.aP [.ref R.wk] G 5e47 E0:=fun G A FG q=>by
   have W:=A.wk;rw[Vs] at W;refine⟨R.wk,R.wx,R.lb,R.ln,k0,n0,b0,r0,rfl,W,fun H1 W1 K1=>?_⟩;have e:(k0,b0,n0+1)::r0=fQ S.stk:=by rw[Vs];rfl
   rw[e] at W1;exact q H1 (A.walk W1 (K1.mono 0e0)) (FG.trans (A.uV W1 (K1.mono 0e0)))
  cases hs with
  | @Uj a p v s vs b e1 h1 e2 h2 =>
   simp only[sH] at q
   exists A.ins,e1
   refine⟨R,as,sl,S,v,s,rfl,A,F.pl,h1,g.1,?_⟩
   exists A.ins,A.wk.ins,e1
   refine fun p0 h0=>⟨t8 _,flat01,?_⟩;rw[yW];have N0:=q0D (o:=.tup [.TK,.int 0]) h0;have A0:=A.kp N0;have e0:=N0.at e1;have F0:=Fw.of (R:=R) (as:=as) N0;generalize TH H p0 9e48=G0 at *;by_cases hw:num 7e1=0
   ·rw[if_pos hw] at q;rw[decide_eq_true hw]
    exists A0.ins,A0.wk.ins,e0
    exact pass G0 A0 F0 q
   ·rw[if_neg hw] at q;rw[Β9 hw]
    exists A0.ins,A0.wk.ins,e0
    exact enter G0 A0 F0 0 b rfl q
  | @iff a p p2 v s vs us b o e1 h1 e2 h2 e3 h3 =>
   simp only[sH] at q
   exists A.ins,e1
   refine⟨R,as,sl,S,v,s,rfl,A,F.pl,h1,g.1,?_⟩
   exists A.ins,A.wk.ins,e1
   refine fun p0 h0=>⟨t8 _,flat01,?_⟩;rw[yW];have N0:=q0D (o:=.tup [.TK,.int 0]) h0;have A0:=A.kp N0;have e0:=N0.at e1;have F0:=Fw.of (R:=R) (as:=as) N0;generalize TH H p0 9e48=G0 at *;by_cases hw:num 7e1=0
   ·rw[if_pos hw] at q;rw[decide_eq_true hw]
    exists A0.ins,A0.wk.ins,e0
    exact enter G0 A0 F0 1 o rfl q
   ·rw[if_neg hw] at q;rw[Β9 hw]
    exists A0.ins,A0.wk.ins,e0
    exact enter G0 A0 F0 0 b rfl q
  | _=>cases hB
theorem ID:Ok T (T.r 20) 11 9e36:=by
 nomatch T.r 20
 ·obtain⟨R,as,sl,S,a,m,N,rfl,_⟩:=h;rfl
 ·obtain⟨R,as,sl,S,a,m,N,rfl,A,Ui,hs,⟨x,s,rfl⟩,F,g,hN,q⟩:=h
  nomatch (pss2 (ppt 8e9 3e0 6e6) (aK 8e0)),0
  cases hs with
  | @set a x v s e1 h1 =>
   have l1:(fI S.nm).length<=N:=by rw[fI,Γ];exact F.nm
   left
   exists A.ins,e1
   refine⟨R,as,sl,S,v,s,rfl,A,F.pl,h1,g,?_⟩
   exists A.ins,e1,A.nm,gK
   refine⟨by omega,?_⟩;have A1:=A.name x 7e1;have F1:=Fw.set (R:=R) (as:=as) (H:=H) (o:=.dK 8e29) (p:=R.nm) 6e1;generalize TH H R.nm (.dK 8e29)=G1 at *;right;wp_walk;refine fun c hc=>?_;have N4:=q0D (o:=.lst []) hc;exact q _ c [] _ 8e5 7e2 aA .nil 4e4
theorem vX:Ok T (T.r 6) 1 (Cp t.aG):=by
 nomatch T.r 6
 ·obtain⟨tk,tx,dp,da,made,pend,ans,rfl,_⟩:=h;rfl
 ·obtain⟨tk,tx,dp,da,made,pend,ans,rfl,R,hm,hl,q⟩:=h
  nomatch (aI (pst 1 (aM T.bI T.rF pv0)) (pss3 (Lw T.bI T.rF pv0 aB) (ppt 4e16 pv1 zE) (aK pv1))),0
  exists R.ins
  have n1:=R.n1;have nk:(made:Int)∉pend:=fun z=>by have:=R.lt _ z;omega
  exists aD n1.1.symm,R.hp,wN (.bl true) (Gk nk)
  refine⟨by simp only[jM,Γ];omega,?_⟩;refine q _ ⟨by rw[aD n1.1];exact aA,by rw[aA];simp[jM],by rw[aD R.nda.symm,aD n1.2.symm];exact R.ha,R.nda,fun i hi=>?_,?_,fun p hp=>?_,fun p hp z=>?_,by omega⟩ ?_
  ·rcases Κ.mp hi with hi|hi
   ·have:=R.lt i hi;omega
   ·rw[show i=(made:Int) by simpa using hi];omega
  ·refine List.pairwise_append.mpr ⟨R.asc,by simp,fun i hi j hj=>?_⟩;rw[show j=(made:Int) by simpa using hj];exact(R.lt i hi).2
  ·have:=R.la p hp;omega
  ·rcases Κ.mp z with z|z
   ·exact R.dis p hp z
   ·have:=R.la p hp;rw[show p.1=(made:Int) by simpa using z] at this;omega
  ·intro b o eb nb;simp only[Α,Δ,Ψ,not_or] at nb;rw[aD nb.2,aD nb.1];exact eb
theorem lR:Ok T (T.r 43) 2 (Js ⟨t.aO,t.aP,t.aG⟩):=by
 nomatch T.r 43
 ·obtain⟨R,as,sl,S,n,rfl,_⟩:=h;rfl
 ·obtain⟨R,as,sl,S,n,rfl,A,b1,b2,b3,q⟩:=h
  nomatch (pss3 (pst 2 (pmt0 4e3 T.bI (vX T) (T.r 6))) (ppt 8e9 pv1 pv2) 4e13),0
  left
  exists A.ins,A.tk.ins
  refine⟨R.tk,R.tx,R.dp,R.da,S.made,S.pend,S.ans,rfl,A.tk,b1,b2,fun H1 T1 K1=>?_⟩;have K2:Kp [R.tk,R.dp,R.da] H H1:=K1.mono 0e16
  have A1:=A.tick T1 K2;have F1:=A.Bt T1 K2;wp_walk;right;left;have ep:aS 9e32 (.inr n) 0e49=fI (cB S.nm n 7e6):=gK S.nm n 7e6;have l1:(fI S.nm).length<=1000000:=by rw[fI,Γ];exact b3
  exists A1.ins,A1.nm,ep
  refine⟨by omega,?_⟩;have A2:=A1.name n 7e6;have F2:=F1.trans (Fw.set (R:=R) (as:=as) (H:=H1) (o:=.dK 6e47) (p:=R.nm) 6e1);generalize TH H1 R.nm (.dK 6e47)=G2 at *;right;wp_walk;exact q G2 A2 F2
theorem vY:Ok T (T.r 21) 11 9e25:=by
 nomatch T.r 21
 ·obtain⟨R,as,sl,S,a,m,N,rfl,_⟩:=h;rfl
 ·obtain⟨R,as,sl,S,a,m,N,rfl,A,Ui,hs,⟨x,y,s,hm⟩,F,g,hN,q⟩:=h
  nomatch (pss3 (pst 2 6e6) (pst 3 6e39) (aK (aV (pa1 (aW (dY 3e0 (pa3 pv3 3e0 pv2))))))),0
  rcases hm with rfl|rfl
  ·cases hs with
   | @order a x y v s e1 h1 =>
    left
    exists A.ins,e1
    refine⟨R,as,sl,S,v,s,rfl,A,F.pl,h1,g,?_⟩;wp_walk;right;left
    exists A.ins,e1
    refine⟨R,as,sl,S,x,rfl,A,by have:=F.md;omega,by have:=F.pd;omega,by have:=F.nm;omega,fun H1 A1 F1=>?_⟩;have e2:=A.tkp F1 _ _ e1;wp_walk;right
    exists e2
    refine fun p3 h3 c h4=>?_;have N3:=(q0D (o:=.tup [.str "order",.int S.made,.str y,wv 7e1]) h3).trans 7e8;exact q _ c [.ref p3] _ 7e32 9e20 aA 9e8 5e20
  ·cases hs with
   | @child a x y v s e1 h1 =>
    left
    exists A.ins,e1
    refine⟨R,as,sl,S,v,s,rfl,A,F.pl,h1,g,?_⟩;wp_walk;right;left
    exists A.ins,e1
    refine⟨R,as,sl,S,x,rfl,A,by have:=F.md;omega,by have:=F.pd;omega,by have:=F.nm;omega,fun H1 A1 F1=>?_⟩;have e2:=A.tkp F1 _ _ e1;wp_walk;right
    exists e2
    refine fun p3 h3 c h4=>?_;have N3:=(q0D (o:=.tup [.str "child",.int S.made,.str y,wv 7e1]) h3).trans 7e8;exact q _ c [.ref p3] _ 7e32 9e20 aA 9e8 5e20
theorem Dj:Ok T (T.r 22) 11 0e37:=by
 nomatch T.r 22
 ·obtain⟨R,as,sl,S,a,m,N,rfl,_⟩:=h;rfl
 ·obtain⟨R,as,sl,S,a,m,N,rfl,A,Ui,hs,⟨x,s,rfl⟩,F,g,hN,q⟩:=h
  nomatch (aI (pst 2 6e6) (pss3 (pst 3 (bF 3e24 rfl T.GN z9 (pa2 (pY (v:=.int 1000000000000) rfl T.sX ⟨_,rfl⟩) (pZ (ptc mR pv2 cN) 5e16 (bG cS 5e16 (bF 3e13 rfl T.A8 oV (pa2 aB pv2))))))) (pst 4 6e39) (aK (aV (pa1 (aW (pa3 aE pv4 pv3))))))),0
  cases hs with
  | @Ub a x v s e1 h1 =>
   left
   exists A.ins,e1
   refine⟨R,as,sl,S,v,s,rfl,A,F.pl,h1,g,?_⟩;wp_walk;right;refine cG fun R2 Vi=>?_
   exists A.ins,DK
   have rest:R2 [some 0e56,some (V.ref a),some (wv 7e1),some (V.int (uO S.nw 7e1)),none] H:=by
    refine Vi _ _ ?_;left
    exists A.ins,e1
    refine⟨R,as,sl,S,x,rfl,A,by have:=F.md;omega,by have:=F.pd;omega,by have:=F.nm;omega,fun H1 A1 F1=>?_⟩;wp_walk;right;wp_walk;refine fun p3 h3 c h4=>?_;have N3:=(q0D (o:=.tup [.str "timer",.int S.made,.int (uO S.nw 7e1)]) h3).trans 7e8;exact q _ c [.ref p3] _ 7e32 9e20 aA 9e8 5e20
   cases hw:S.worth s with
   | none =>
    rw[hw] at rest;rw[if_pos rfl];exact rest
   | some z =>
    rw[hw] at rest;rw[if_neg 0e0]
    exists wv
    exact rest
theorem Ga:Ok T (T.r 23) 11 5e36:=by
 nomatch T.r 23
 ·obtain⟨R,as,sl,S,a,m,N,rfl,_⟩:=h;rfl
 ·obtain⟨R,as,sl,S,a,m,N,rfl,A,Ui,hs,⟨s,k,r,rfl⟩,F,g,hN,q⟩:=h
  nomatch (aJ (aK (aV (pa1 (aW (dY aE (pa3 6e6 3e0 6e6))))))),0
  cases hs with
  | @send a k v u s r e1 h1 h2 =>
   exists A.ins,e1
   refine⟨R,as,sl,S,v,s,rfl,A,F.pl,h1,g.1,?_⟩
   exists A.ins,e1
   refine⟨R,as,sl,S,u,r,rfl,A,F.pl,h2,g.2,?_⟩;wp_walk;have F1:Fw R as as H H:=Fw.refl;refine fun p3 h3 c h4=>?_;have N3:=(q0D (o:=.tup [.str "send",wv 7e1,.str k,wv 4e38]) h3).trans 7e8;exact q _ c [.ref p3] _ (A.kp N3) 9e20 aA 9e8 5e20
theorem mN:Ok T 5e34 1 (Cr t.aG):=by
 nomatch T.r 10
 ·obtain⟨tk,tx,dp,da,made,pend,ans,i,rfl,_⟩:=h;rfl
 ·obtain⟨tk,tx,dp,da,made,pend,ans,i,rfl,R,hi,q⟩:=h
  nomatch (aJ (aQ (IQ 4e16 pv1 ⟨rfl,rfl,rfl,rfl⟩))),0
  obtain⟨v,hv⟩:=Gm hi
  exists R.ins,R.hp,hv,Gi
  have n1:=R.n1;exact q _ ⟨by rw[aD n1.1];exact R.ins,aA,by rw[aD R.nda.symm];exact R.ha,R.nda,fun j hj=>R.lt j 8e16,R.asc.filter _,R.la,fun p hp z=>R.dis p hp ((Α5.mp z).1),R.small⟩ Kp.j8
theorem FW:Ok T (T.r 24) 11 2e37:=by
 nomatch T.r 24
 ·obtain⟨R,as,sl,S,a,m,N,rfl,_⟩:=h;rfl
 ·obtain⟨R,as,sl,S,a,m,N,rfl,A,Ui,hs,⟨s,rfl⟩,F,g,hN,q⟩:=h
  nomatch (aI (pst 2 6e6) (pss3 (pif (Pa (AF (pmt 4e3 T.bI (iE T) (T.r 7) 7e4))) 9e52) (aQ (pmt 4e3 T.bI (mN T) 5e34 7e4)) (aK (aV (pa1 (aW (pa2 aE pv2))))))),0
  cases hs with
  | @drop a v s e1 h1 =>
   left
   exists A.ins,e1
   refine⟨R,as,sl,S,v,s,rfl,A,F.pl,h1,g,?_⟩;wp_walk;right;left
   exists A.ins,A.tk.ins
   refine⟨R.tk,R.tx,R.dp,R.da,_,_,_,S.worth s,rfl,A.tk,?_⟩;by_cases hp:∃ i,i∈S.pend/\S.worth s=some i
   ·rw[decide_eq_true hp];obtain⟨i,hi,hw⟩:=hp;have hwv:wv 7e1=.int i:=by rw[hw];rfl
    have hd:bT S 2e18=({S with pend:=S.pend.filter fun j=>decide 2e8},[[.str "drop",.int i]]):=by simp only[bT,hw,if_pos hi]
    rw[hd] at q;wp_walk;right;left
    exists A.ins,A.tk.ins,hwv
    refine⟨R.tk,R.tx,R.dp,R.da,_,_,_,i,rfl,A.tk,hi,fun H3 T3 K3=>?_⟩;have K4:Kp [R.tk,R.dp,R.da] H H3:=K3.mono 0e16
    have A3:=A.tick T3 K4;have F3:=A.Bt T3 K4;wp_walk;right;wp_walk;refine fun p3 h3 c h4=>?_;have N3:=(q0D (o:=.tup [.str "drop",.int i]) h3).trans 7e8;exact q _ c [.ref p3] _ 6e32 5e30 aA 9e8 5e29
   ·rw[Β9 hp];have hd:bT S 2e18=(S,[]):=by
     cases hw:S.worth s with
     | none=>simp only[bT,hw]
     | some i=>simp only[bT,hw,if_neg (show ¬ i∈S.pend from fun z=>hp ⟨i,z,hw⟩)]
    rw[hd] at q;wp_walk;have F1:Fw R as as H H:=Fw.refl;refine fun c hc=>?_;have N4:=q0D (o:=.lst []) hc;exact q _ c [] _ (A.kp N4) 7e2 aA .nil 4e4
theorem n9:Ok T (T.r 12) 1 (zS t.aG):=by
 nomatch T.r 12
 ·obtain⟨tk,tx,dp,da,l,made,pend,ans,ws,rfl,_⟩:=h;rfl
 ·obtain⟨tk,tx,dp,da,l,made,pend,ans,ws,rfl,A,el,h4,ha,q⟩:=h;have hu:=mH hr
  nomatch (pss3 (AE (i:=2) sc rfl 5e54 (pX (fr:=[0]) (N:=["worth","self"]) rfl 7e3 (fF.free rfl rfl rfl rfl rfl 3e25 rfl 7e0 rfl 1e35) (j7 pv1) (fun C s H ex pn=>⟨lL (O9 (Eu hu 1e2 (aM T.bI T.gW 8e4))) ,1e2 ⟩))) (pif (ptc j6 (bF CP rfl T.kX fG (pa1 (bN (yQ rfl) rfl T.L9 GV 7e4))) aB) (aJ (aK (pZ (tX pv2 1e22) (pix aN pv2 aB) cN)))) (Lz (aK (pix aN (pX (fr:=[2]) (N:=["ticket","tickets"]) rfl 7e3 4e25 (Lu 2e49) 6e36) aB)))),0
  left
  exists el
  refine⟨⟨_,fY.of el⟩,?_⟩;obtain⟨Pv,Ua⟩:∃ Pv:Nat->List V->Hp->Prop,∀ i xs G,Pv i xs G=(G=H/\xs=(cA ans 5e22).map V.int):=⟨_,fun _ _ _=>rfl⟩;refine pO (ys:=ws.map wv) Pv ?_ ?_ ?_ ?_ ?_
  ·rw[Ua];exact⟨rfl,rfl⟩
  ·intro i xs G h;rw[Ua] at h;rw[h.2,Γ];have:=nM ans 5e22;have:(ws.take i).length<=ws.length:=by rw[Α7];omega
   omega
  ·intro i xs G h;rw[Ua] at h;rw[h.1];exact fY.of el
  ·intro i y xs G hi ey h;rw[Ua] at h;obtain⟨rfl,rfl⟩:=h;obtain⟨w0,ew,rfl⟩:∃ w0,ws[i]?=some w0/\y=wv w0:=by
    rw[ϔ] at ey;obtain⟨w0,a,b⟩:=Ϛ.mp ey;exact⟨w0,a,b.symm⟩
   exists bC,Β6,A.ins,A.ha,JU
   rw[Ua,Ua,CW ew];split
   ·exact⟨rfl,rfl⟩
   ·exact⟨rfl,rfl⟩
  intro xs G h p hp;rw[Ua] at h;obtain⟨rfl,rfl⟩:=h;rw[show ws.take (ws.map wv).length=ws by rw[Γ,Α0]];right
  exists aA
  refine⟨cA ans ws,rfl,ϒ (nM ans ws) h4,fun c hc=>⟨_,rfl,?_⟩⟩;have n1:p≠c:=aF aA hc;have K2:∀ o,Kp [] G (TH (TH G p 9e11) c o):=fun o=>(Kp.new hp).trans 1e56;have e2:∀ o,TH (TH G p 9e11) c o p=some 9e11:=fun o=>by rw[aD n1,aA]
  generalize hG2:TH (TH G p 9e11) c _=G2;replace K2:Kp [] G G2:=hG2▸K2 _;replace e2:G2 p=some 9e11:=hG2▸e2 _;clear hG2;have A2:=A.kp K2;have qq:=q G2 K2;by_cases hl:(lU (cA ans ws)).length < 2
  ·rw[if_pos 1e0];rw[Fl hl] at qq;cases ed:cA ans ws with
   | nil =>
    rw[ed] at e2 qq
    exists e2
    rw[if_neg 0e0];exact qq
   | cons i r =>
    rw[ed] at e2 qq
    exists e2
    rw[if_pos 0e0];exact qq
  rw[if_neg 1e0];obtain⟨i,r,ef,fo⟩:=C0 hl;rw[fo] at qq
  exists A2.ins,A2.ha,e2
  refine fun o=>?_;have npd:p≠da:=fun z=>by
   rw[z,A2.ha] at e2;cases e2
  generalize hG3:TH G2 da (.Uv o 4e31)=G3;have e3:G3 p=some 9e11:=by rw[<- hG3,aD npd];exact e2
  have d3:G3 da=some (.Uv o 4e31):=by rw[<- hG3];exact aA
  obtain⟨Pw,Uq⟩:∃ Pw:Nat->List V->Hp->Prop,∀ i xs G',Pw i xs G'=(G'=G3/\xs=(((ans.map (·.1)).take i).filter fun i=>decide 7e16).map V.int):=⟨_,fun _ _ _=>rfl⟩;refine Lf Pw ?_ ?_ ?_ ?_ ?_
  ·rw[Uq];exact⟨rfl,rfl⟩
  ·intro j xs G' h;rw[Uq] at h;rw[h.2,Γ];have h1:=Δ1 (fun i=>decide 7e16) ((ans.map (·.1)).take j);have h2:((ans.map (·.1)).take j).length<=ans.length:=by rw[Α7,Γ];omega
   omega
  ·intro j xs G' h;rw[Uq] at h;rw[h.1];exact d3
  ·intro j kv xs G' hj Xw h;rw[Uq] at h;obtain⟨rfl,rfl⟩:=h;obtain⟨a0,ea,rfl⟩:∃ a0,ans[j]?=some a0/\kv=(Key.inl a0.1,wv a0.2):=by
    rw[iC,ϔ] at Xw;obtain⟨a0,x,y⟩:=Ϛ.mp Xw;exact⟨a0,x,y.symm⟩
   have es:(((ans.map (·.1)).take (j+1)).filter fun i=>decide 7e16).map V.int=if a0.1∈cA ans ws then (((ans.map (·.1)).take j).filter fun i=>decide 7e16).map V.int++[V.int a0.1] else (((ans.map (·.1)).take j).filter fun i=>decide 7e16).map V.int:=by
    rw[Α8,ϔ,ea];simp only[Option.map_some,Α2,List.filter_append,Α3];split
    ·next h=>simp[h]
    ·next h=>simp[h]
   show CB _ (some (V.int a0.1)::_) _ _
   exists bC,Β6,e3
   refine⟨rfl,by simp[eK],?_⟩;rw[Uq,Uq,es,Bx];by_cases hm:a0.1∈cA ans ws
   ·rw[if_pos 5e48,if_pos hm];exact⟨rfl,rfl⟩
   ·rw[if_neg 5e48,if_neg hm];exact⟨rfl,rfl⟩
  intro xs G' h pp hpp;rw[Uq] at h;obtain⟨rfl,rfl⟩:=h;rw[show(ans.map (·.1)).take (iC ans).length=ans.map (·.1) by rw[iC,Γ,<- Γ (f:=fun p:Int×Wo=>p.1) (as:=ans),Α0],ef]
  exists aA,ϓ
  have npp:da≠pp:=aF d3 hpp;have KK:Kp [] G (TH (TH G' pp (.lst (V.int i::r.map V.int))) da 4e31):=fun b ob eb nb=>by
   by_cases hb:b=da
   ·subst hb;rw[aA];rw[A.ha] at eb;exact eb
   ·have e4:G' b=some ob:=by rw[<- hG3,aD hb];exact K2 b ob eb nb
    rw[aD hb,aD (aF e4 hpp)];exact e4
  have q3:=q _ KK;rw[fo] at q3;exact⟨da,o,iC ans,by rw[aD npp];exact d3,(fun ob u z=>by
   have z:G da=some (.Uv ob u):=z;rw[A.ha] at z;cases z),q3⟩
theorem Gb:Ok T (T.r 25) 11 7e36:=by
 nomatch T.r 25
 ·obtain⟨R,as,sl,S,a,m,N,rfl,_⟩:=h;rfl
 ·obtain⟨R,as,sl,S,a,m,N,rfl,A,Ui,hs,⟨x,ss,rfl⟩,F,g,hN,q⟩:=h
  nomatch (aI (lK (i:=2) (fr:=[0]) (N:=["saying","run"]) rfl 7e3 1e14 (IZ 3e0) (fun C s H ex pn=>⟨AH,(AB 8e4 T.aR (T.r 42).m (eD T) (hr.mono 1e0) (T.r 42).bd .nil pass0 (dY 1e2 bU)) ⟩) sc rfl 5e10) (aI (pst 3 (pmt 4e3 T.bI (n9 T) (T.r 12) 7e4)) (pss3 (AE (i:=4) sc rfl 5e10 (bF (CQ rfl) rfl T.nY nH (pa1 (bN (yQ rfl) rfl T.L9 GV (pa1 (pX (fr:=[0]) (N:=["worth","run"]) rfl 7e3 1e14 (j7 pv2) (fun C s H ex pn=>⟨lL (AF (AB (aM T.aR T.cU 8e4) T.bI (T.r 7).m (iE T) (hr.mono 1e0) (T.r 7).bd .nil pass0 (dY 1e2 bU))) ,1e2 ⟩))))))) (gE (PW.pt (fT 7e50 (e9 (tX pv4 1e22)))) (aJ (dR T.aR T.dP pv0 (aW (pa2 aE (bN eJ rfl T.iB fA 8e32))))) (aJ (ppt 8e9 3e0 pv3))) (aK 8e0)))),0
  cases hs with
  | @wait a pw x vs ss e1 e2 ZO =>
   obtain⟨_,g4,gs⟩:=g;have l1:(fI S.nm).length<=N:=by rw[fI,Γ];exact F.nm
   have lv:=ZO.OJ;left
   exists A.ins,e1
   refine⟨⟨_,iR.of e2⟩,?_⟩;obtain⟨Pv,Ua⟩:∃ Pv:Nat->List V->Hp->Prop,∀ i xs G,Pv i xs G=(G=H/\xs=((ss.take i).map S.worth).map wv):=⟨_,fun _ _ _=>rfl⟩;refine Im (ys:=vs) Pv ?_ ?_ ?_ ?_ ?_
   ·rw[Ua];exact⟨rfl,rfl⟩
   ·intro i xs G h;rw[Ua] at h;rw[h.2,Γ,Γ,Α7];omega
   ·intro i xs G h;rw[Ua] at h;rw[h.1];exact iR.of e2
   ·intro i y xs G hi ey h;rw[Ua] at h;obtain⟨rfl,rfl⟩:=h;obtain⟨s0,es,h0⟩:=ZO.atW ey
    exists bC,Β6,A.ins
    refine⟨R,as,sl,S,y,s0,rfl,A,F.pl,h0,gs s0 (Υ es),?_⟩;show Pv 5e1 _ _;rw[Ua,Α8,es];exact⟨rfl,by simp⟩
   intro xs G h p1 WW;rw[Ua] at h;obtain⟨rfl,rfl⟩:=h;rw[lv,Α0];obtain⟨ws,U3⟩:∃ ws,ws=ss.map S.worth:=⟨_,rfl⟩;have hd:bT S 7e12=if bA S.ans ws=none/\bO S.pend ws≠[] then ({S with sl:=.wait 6e21},[]) else ({S with nm:=cB S.nm x 3e9},[]):=by rw[U3];rfl
   rw[<- U3];have lw:ws.length<=4:=by rw[U3,Γ];exact g4
   clear U3 Ua Pv;rw[hd] at q;clear hd;have N1:=q0D (o:=.lst 2e7) WW;have f1:TH G p1 3e7 p1=some 3e7:=aA;have A1:=A.kp N1;have e3:=N1.at e1;have F1:=Fw.of (R:=R) (as:=as) N1;generalize TH G p1 3e7=G1 at *;right;left
   exists A1.ins,A1.tk.ins
   refine⟨R.tk,R.tx,R.dp,R.da,p1,_,_,_,ws,rfl,A1.tk,f1,lw,by have:=F.an;omega,fun G2 K2=>?_⟩;have A2:=A1.kp K2;have f2:=K2.at f1;have e4:=K2.at e3;have F2:=F1.trans (Fw.of K2);wp_walk;right;left
   exists A2.ins,A2.tk.ins,f2
   refine⟨⟨_,fY.of f2⟩,?_⟩;obtain⟨Pw,Uq⟩:∃ Pw:Nat->List V->Hp->Prop,∀ i xs G',Pw i xs G'=(G'=G2/\xs=(dS S.pend 5e22).map V.int):=⟨_,fun _ _ _=>rfl⟩;refine pO (ys:=ws.map wv) Pw ?_ ?_ ?_ ?_ ?_
   ·rw[Uq];exact⟨rfl,rfl⟩
   ·intro i xs G' h;rw[Uq] at h;rw[h.2,Γ];have:=kQ S.pend 5e22;have:(ws.take i).length<=ws.length:=by rw[Α7];omega
    omega
   ·intro i xs G' h;rw[Uq] at h;rw[h.1];exact fY.of f2
   ·intro i y xs G' hi ey h;rw[Uq] at h;obtain⟨rfl,rfl⟩:=h;obtain⟨w0,ew,rfl⟩:∃ w0,ws[i]?=some w0/\y=wv w0:=by
     rw[ϔ] at ey;obtain⟨w0,a,b⟩:=Ϛ.mp ey;exact⟨w0,a,b.symm⟩
    exists bC,Β6,A2.ins,A2.tk.ins
    refine⟨R.tk,R.tx,R.dp,R.da,_,_,_,w0,rfl,A2.tk,?_⟩;show IF (V.bl _) _;wp_walk;rw[Uq,Uq,Dn ew];split
    ·next h=>exact⟨rfl,(if_pos (decide_eq_true h)).symm⟩
    ·next h=>exact⟨rfl,(if_neg 2e16).symm⟩
   intro xs G' h p3 XI;rw[Uq] at h;obtain⟨rfl,rfl⟩:=h;rw[show ws.take (ws.map wv).length=ws by rw[Γ,Α0]];clear Uq Pw
   exists aA
   refine⟨dS S.pend ws,rfl,ϒ (kQ S.pend ws) lw,fun c hc=>⟨_,rfl,?_,fun l4 ns h4 Uw XJ=>?_⟩⟩
   ·have:=wC (fun i=>(dS S.pend ws).getD i 0) (dS S.pend ws).length;have:=kQ S.pend ws;show(once _ _).length < 64;omega
   obtain rfl:=B0 Uw XJ;have N3:=((q0D XI).trans 1e56).trans (Kp.new (o:=.lst 6e2) h4);have f4:∀ G5:Hp,TH G5 l4 (.lst 6e2) l4=some (.lst 6e2):=fun _=>aA;generalize hG4:TH (TH (TH G' p3 (.lst ((dS S.pend ws).map V.int))) c _) l4 (.lst 6e2)=G4 at N3 ⊢;replace f4:G4 l4=some (.lst 6e2):=hG4▸f4 _;clear hG4 Uw XJ h4 hc XI;have A4:=A2.kp N3;have e5:=N3.at e4;have F4:=F2.trans 4e20;right;refine cG fun R4 XA=>?_;have named:¬ 5e40->R4 [some 0e56,some (V.ref a),some (V.ref p1),some (wv 3e9),some (V.ref l4)] (TH G4 R.nm (.dK 6e14)):=fun hn=>by
    rw[if_neg hn] at q;have A6:=A4.name x 3e9;have F6:=F4.trans (Fw.set (p:=R.nm) (o:=.dK 6e14) 6e1);refine XA _ _ ?_;generalize TH G4 R.nm (.dK 6e14)=G6 at *;wp_walk;refine fun c hc=>?_;have N4:=q0D (o:=.lst []) hc;exact q _ c [] _ (A6.kp N4) 7e54 aA .nil (F6.trans 1e7)
   exists A4.ins,f4,DK,e5,A4.nm,gK
   by_cases hf:bA S.ans ws=none
   ·rw[if_pos hf];by_cases ho:bO S.pend ws=[]
    ·rw[if_neg (by rw[ho];simp)];exact⟨by first|omega|(rw[Ε4];omega),named fun z=>z.2 ho⟩
    ·rw[if_pos (by simpa using ho)];rw[if_pos ⟨hf,ho⟩] at q;refine fun l5 h5 p6 h6=>?_;have N5:=(q0D (o:=.tup 6e2) h5).trans (Kp.new (o:=.tup [.str "wait",.ref l5]) h6);have f6:TH 4e29 p6 0e20 p6=some 0e20:=aA;have f5:TH 4e29 p6 0e20 l5=some (.tup 6e2):=by rw[aD (aF aA h6),aA]
     have A5:=A4.kp N5;clear named h6 h5;generalize TH 4e29 p6 0e20=G5 at *
     exists A5.ins
     have A6:=A5.attr (.ref p6) (.wait 6e21) S.ar S.nw ⟨p6,l5,rfl,f6,f5⟩;have F6:=(F4.trans (Fw.of N5)).trans (Fw.set (p:=R.x) (o:=2e42) 6e1);refine XA _ _ ?_;generalize TH G5 R.x 2e42=G6 at *;wp_walk;refine fun c hc=>?_;have N4:=q0D (o:=.lst []) hc;exact q _ c [] _ (A6.kp N4) 7e54 aA .nil (F6.trans 1e7)
   ·rw[if_neg hf];exact⟨by first|omega|(rw[Ε4];omega),named fun z=>hf z.1⟩
theorem FZ:Ok T (T.r 26) 11 1e37:=by
 nomatch T.r 26
 ·obtain⟨R,as,sl,S,a,m,N,rfl,_⟩:=h;rfl
 ·obtain⟨R,as,sl,S,a,m,N,rfl,A,Ui,hs,⟨x,k,rfl⟩,F,g,hN,q⟩:=h;have hu:=mH hr
  nomatch (pss3 (pst 2 (rS hu 4e30 3e0 8e0 ⟨rfl,rfl,rfl,rfl⟩)) (gE (tX pv2 1e22) (aJ (ppt 8e9 3e0 (qA PySem.F.slot_list_pop PySem.F.type_list_pop Ar pv2 2e13))) (aJ (dR T.aR T.dP pv0 (aW (pa2 aE 3e0))))) (aK 8e0)),0
  cases hs with
  | @TV a x k e1 =>
   obtain⟨kvs,el,L⟩:=A.lt;have l1:(fI S.nm).length<=N:=by rw[fI,Γ];exact F.nm
   refine cG fun R1 Zu=>?_
   exists A.ins,el,e1
   refine fun p1 h1=>?_;generalize hg:TH H p1 2e0=G1;have N1:Kp [] H G1:=hg▸Kp.new h1;have f1:G1 p1=some 2e0:=hg▸aA;clear hg;have A1:=A.kp N1;have U6:=N1.at e1;have Xe:=N1.at el;have L1:=L.keep (fun a _ o h=>N1.at h);have F1:=Fw.of (R:=R) (as:=as) N1;have XT:∀ l:Addr,G1 l=some 2e0->(aT S.lt k).getD []=[]->R1 [some 2e23,some 0e2,some 7e34] G1:=fun l hl hq=>by
    have hd:bT S 3e11=({S with sl:=.TV k},[]):=by simp only[bT,hq]
    rw[hd] at q;refine Zu _ _ ?_;refine cG fun R2 Vi=>?_
    exists hl,U6
    refine fun p2 h2=>?_;have N2:=q0D (o:=.tup [.str "hear",.str k]) h2;have f2:TH G1 p2 2e9 p2=some 2e9:=aA;have A2:=A1.kp N2
    exists N2.at A1.ins
    have A3:=A2.attr 1e3 (.TV k) S.ar S.nw ⟨p2,rfl,f2⟩;have F3:=(F1.trans 0e23).trans (Fw.set (p:=R.x) (o:=(j9 t.aO R 1e3 S.ar S.nw)) 6e1);refine Vi _ _ ?_;generalize TH (TH G1 p2 2e9) R.x (j9 t.aO R 1e3 S.ar S.nw)=G3 at *;wp_walk;refine fun c hc=>?_;have N4:=q0D (o:=.lst []) hc;exact q _ c [] _ 1e23 6e12 aA .nil (F3.trans 1e7)
   rcases L1.look k with⟨hv,hn⟩|⟨l,ws,hv,hn,hl,ew⟩
   ·exists A1.ins,Xe,U6,hv,Option.getD_none
    exact XT p1 f1 0e51
   ·exists A1.ins,Xe,U6,hv,Ε3
    cases ws with
    | nil=>exact XT l ew 0e51
    | cons w r =>
     have hd:bT S 3e11=({S with nm:=cB S.nm x w,lt:=dO S.lt k r},[]):=by simp only[bT,hn,Ε3]
     rw[hd] at q;rw[ϓ] at ew;refine Zu _ _ ?_;refine cG fun R2 Vi=>?_;obtain⟨A2,Wj⟩:=A1.vJ Xe hv r;have F2:=F1.trans 0e39;have e2:=A1.tkp 0e39 _ _ U6
     exists ew,List.tail_cons,List.isEmpty_cons,Bool.not_false,A2.ins,e2,A2.nm,gK
     have A3:=A2.name x w;have F3:=F2.trans (Fw.set (p:=R.nm) (o:=.dK 2e2) 6e1);refine⟨by omega,Vi _ _ ?_⟩;generalize TH (TH G1 l 5e12) R.nm (.dK 2e2)=G3 at *;wp_walk;refine fun c hc=>?_;have N4:=q0D (o:=.lst []) hc;exact q _ c [] _ 1e23 6e12 aA .nil (F3.trans 1e7)
theorem IC:Ok T (T.r 27) 11 4e37:=by
 nomatch T.r 27
 ·obtain⟨R,as,sl,S,a,m,N,rfl,_⟩:=h;rfl
 ·obtain⟨R,as,sl,S,a,m,N,rfl,A,Ui,hs,⟨s,rfl⟩,F,g,hN,q⟩:=h
  nomatch (aJ (aK (pmt pv0 T.aR (zC T) 3e34 (pa1 6e6)))),0
  cases hs with
  | @fin a v s e1 h1 =>
   exists A.ins,e1
   refine⟨R,as,sl,S,v,s,rfl,A,F.pl,h1,g,?_⟩;wp_walk;exact⟨R,as,sl,S,_,rfl,A,q⟩
theorem BO:Ok T (T.r 38) 12 (Jt ⟨t.aO,t.aP,t.aG⟩ true):=by
  nomatch T.r 38
  · obtain⟨R,as,sl,S,a,m,N,rfl,_⟩:=h;rfl
  · obtain⟨R,as,sl,S,a,m,N,rfl,A,Ui,hs,F,g,Ud,hN,q⟩:=h
    nomatch (aI (pst 2 3e0) (aI (pif (PW.pt (Mw 6e3 (Ja 6e3))) (pss2 (aQ (pmt pv0 T.aR (Di T) (T.r 39) 9e3)) (aK 8e0))) (pss3 (pst 3 (Ls (tab:=[ ("set",9e36) ,("order",9e25) ,("timer",0e37) ,("child",9e25) ,("send",5e36) ,("drop",2e37) ,("wait",7e36) ,("hear",1e37) ,("end",4e37) ]) rfl T.MU T.Lk pv2 3e10 (fun y sp h=>deeds9 (σ:=fun y sp=>∃ f fd ps,PySem.W.nsIn K t.iS y=some (some (.ref f))/\gO P w K mg base UR 11 f fd ps sp/\PySem.W.keepIn K (.ref f)=true/\Binds K fd ps []) h ⟨_,_,_,T.FR,(ID T).mono 7e0 ,(T.r 20).fn.kp,(T.r 20).bd⟩ ⟨_,_,_,T.BH,(vY T).mono 7e0 ,(T.r 21).fn.kp,(T.r 21).bd⟩ ⟨_,_,_,T.BI,(Dj T).mono 7e0 ,(T.r 22).fn.kp,(T.r 22).bd⟩ ⟨_,_,_,T.BG,(vY T).mono 7e0 ,(T.r 21).fn.kp,(T.r 21).bd⟩ ⟨_,_,_,T.Df,(Ga T).mono 7e0 ,(T.r 23).fn.kp,(T.r 23).bd⟩ ⟨_,_,_,T.Dd,(FW T).mono 7e0 ,(T.r 24).fn.kp,(T.r 24).bd⟩ ⟨_,_,_,T.Dg,(Gb T).mono 7e0 ,(T.r 25).fn.kp,(T.r 25).bd⟩ ⟨_,_,_,T.De,(FZ T).mono 7e0 ,(T.r 26).fn.kp,(T.r 26).bd⟩ ⟨_,_,_,T.FQ,(IC T).mono 7e0 ,(T.r 27).fn.kp,(T.r 27).bd⟩) (hr.mono 1e0) (pa2 pv0 pv1))) (pif (ptc mR 2e5 cN) (aJ 6e27)) 7e33))),0
    have tail:m.isB=false->∀(kd Uk:V) (c:Addr) (us:List V) (H':Hp),aX ⟨t.aO,t.aP,t.aG⟩ H' R as Uk (bT S m).1->H c=none->H' c=some 1e18->gN H' us (bT S m).2->Fw R as as H H' ->
        DB (AV (Bd (DA MW (JY t.aO "sleep" (iM 0)) (tC .TK))) (JG (yO t.aP "pass_by" (qM t.aP) (JY t.aO "walk" (iM 0)) qN)) CA) (LZ (iM 3)) {nx:=fun _ H'=>Q .TK H',rt:=Q} [some 2e23,some a,some kd,some (.ref c)] H':=fun hB kd Uk c us H' A' hc ec hC FF=>by
      rw[kD hB] at q;left;rcases A'.slp.isN with⟨hn,rfl⟩|⟨hn,p,rfl⟩
      · simp only[hn,Γ3] at q;obtain⟨k0,b0,n0,r0,Vs,YQ⟩:=gT Ud
        exists A'.ins,A'.wk.ins
        have W:=A'.wk;rw[mG,Vs] at W;refine⟨R.wk,R.wx,R.lb,R.ln,k0,n0,b0,r0,rfl,W,fun H1 W1 K1=>?_⟩;have e:(k0,b0,n0+1)::r0=fQ (bT S m).1.stk:=by rw[mG,Vs];rfl
        rw[e] at W1;have A2:=A'.walk W1 (K1.mono 0e0);have F2:=A'.uV W1 (K1.mono 0e0);wp_walk;right;wp_walk;have nc:=A.eE hc;exact q .TK c us H1 A2 hc (F2.kp _ _ ec nc.1 nc.2) (hC.kt (A'.tkp F2)) (FF.trans F2)
      · simp only[hn,Β4,Ϙ] at q
        exists A'.ins
        right;wp_walk;exact q 1e4 c us H' A' hc ec hC FF
    cases hs with
    | @set a0 x v s e1 h1 =>
      left
      exists e1
      right;left;wp_walk;right;refine cG fun R3 Vj=>?_
      exists k7,hW,hZ,hE,i8,i6,i9,i7,k6
      refine⟨R,as,sl,S,_,_,N,rfl,A,Ui,.set e1 h1,⟨_,_,rfl⟩,F,g,hN,fun Uk c us H' A' hc ec hC FF=>?_⟩;wp_walk;exact Vj _ _ 9e4
    | @order a0 x y v s e1 h1 =>
      left
      exists e1
      right;left;wp_walk;right;refine cG fun R3 Vj=>?_
      exists k7,hW,hZ,hE,i8,i6,i9,i7,k6
      refine⟨R,as,sl,S,_,_,N,rfl,A,Ui,.order e1 h1,⟨_,_,_,.inl rfl⟩,F,g,hN,fun Uk c us H' A' hc ec hC FF=>?_⟩;wp_walk;exact Vj _ _ 9e4
    | @Ub a0 x v s e1 h1 =>
      left
      exists e1
      right;left;wp_walk;right;refine cG fun R3 Vj=>?_
      exists k7,hW,hZ,hE,i8,i6,i9,i7,k6
      refine⟨R,as,sl,S,_,_,N,rfl,A,Ui,.Ub e1 h1,⟨_,_,rfl⟩,F,g,hN,fun Uk c us H' A' hc ec hC FF=>?_⟩;wp_walk;exact Vj _ _ 9e4
    | @child a0 x y v s e1 h1 =>
      left
      exists e1
      right;left;wp_walk;right;refine cG fun R3 Vj=>?_
      exists k7,hW,hZ,hE,i8,i6,i9,i7,k6
      refine⟨R,as,sl,S,_,_,N,rfl,A,Ui,.child e1 h1,⟨_,_,_,.inr rfl⟩,F,g,hN,fun Uk c us H' A' hc ec hC FF=>?_⟩;wp_walk;exact Vj _ _ 9e4
    | @send a0 k v u s r e1 h1 h2 =>
      left
      exists e1
      right;left;wp_walk;right;refine cG fun R3 Vj=>?_
      exists k7,hW,hZ,hE,i8,i6,i9,i7,k6
      refine⟨R,as,sl,S,_,_,N,rfl,A,Ui,.send e1 h1 h2,⟨_,_,_,rfl⟩,F,g,hN,fun Uk c us H' A' hc ec hC FF=>?_⟩;wp_walk;exact Vj _ _ 9e4
    | @drop a0 v s e1 h1 =>
      left
      exists e1
      right;left;wp_walk;right;refine cG fun R3 Vj=>?_
      exists k7,hW,hZ,hE,i8,i6,i9,i7,k6
      refine⟨R,as,sl,S,_,_,N,rfl,A,Ui,.drop e1 h1,⟨_,rfl⟩,F,g,hN,fun Uk c us H' A' hc ec hC FF=>?_⟩;wp_walk;exact Vj _ _ 9e4
    | @TV a0 x k e1 =>
      left
      exists e1
      right;left;wp_walk;right;refine cG fun R3 Vj=>?_
      exists k7,hW,hZ,hE,i8,i6,i9,i7,k6
      refine⟨R,as,sl,S,_,_,N,rfl,A,Ui,.TV e1,⟨_,_,rfl⟩,F,g,hN,fun Uk c us H' A' hc ec hC FF=>?_⟩;wp_walk;exact Vj _ _ 9e4
    | @fin a0 v s e1 h1 =>
      left
      exists e1
      right;left;wp_walk;right;refine cG fun R3 Vj=>?_
      exists k7,hW,hZ,hE,i8,i6,i9,i7,k6
      refine⟨R,as,sl,S,_,_,N,rfl,A,Ui,.fin e1 h1,⟨_,rfl⟩,F,g,hN,fun Uk c us H' A' hc ec hC FF=>?_⟩;wp_walk;exact Vj _ _ 9e4
    | @wait a0 p x vs ss e1 e2 h1 =>
      left
      exists e1
      right;left;wp_walk;right;refine cG fun R3 Vj=>?_
      exists k7,hW,hZ,hE,i8,i6,i9,i7,k6
      refine⟨R,as,sl,S,_,_,N,rfl,A,Ui,.wait e1 e2 h1,⟨_,_,rfl⟩,F,g,hN,fun Uk c us H' A' hc ec hC FF=>?_⟩;wp_walk;exact Vj _ _ 9e4
    | @Uj a0 p v s vs b e1 h1 e2 h2 =>
      rw[BY rfl] at q;left
      exists e1
      right
      exists A.ins
      refine⟨R,as,sl,S,_,_,N,rfl,A,.Uj e1 h1 e2 h2,rfl,F,g,Ud,fun H1 A1 F1=>?_⟩;wp_walk;refine fun c hc=>?_;have N4:=q0D (o:=.lst []) hc;exact q _ c [] _ 8e5 7e2 aA .nil 4e4
    | @iff a0 p p2 v s vs us b o e1 h1 e2 h2 e3 h3 =>
      rw[BY rfl] at q;left
      exists e1
      right
      exists A.ins
      refine⟨R,as,sl,S,_,_,N,rfl,A,.iff e1 h1 e2 h2 e3 h3,rfl,F,g,Ud,fun H1 A1 F1=>?_⟩;wp_walk;refine fun c hc=>?_;have N4:=q0D (o:=.lst []) hc;exact q _ c [] _ 8e5 7e2 aA .nil 4e4
theorem vT:Ok T (T.r 37) 13 (MA ⟨t.aO,t.aP,t.aG⟩ true):=by
  nomatch T.r 37
  · obtain⟨R,as,sl,S,N,rfl,_⟩:=h;rfl
  · obtain⟨R,as,sl,S,N,rfl,A,FN,hN,q⟩:=h
    nomatch (aI (dR T.aR T.dP pv0 cN) (aI (pst 1 8e0) (pss3 (pst 2 aB) (qD Β7 (ptc mR 2e5 cN) (pss2 (pst 3 (pmt0 2e15 T.c9 (yC T) (T.r 14))) (gE 7e50 (aJ (aQ (qA PySem.F.slot_list_extend PySem.F.type_list_extend tM pv1 (pa1 (pmt pv0 T.aR (zC T) 3e34 (pa1 cN)))))) (aJ (gE (ptc aZ pv2 (pY (v:=.int 300) rfl T.Bc ⟨_,rfl⟩)) (aJ (aQ (qA PySem.F.slot_list_extend PySem.F.type_list_extend tM pv1 (pa1 (pmt0 pv0 T.aR (yB T) (T.r 41)))))) (pss2 (O0 (i:=2) sc rfl 5e10 aB Eh) (aQ (qA PySem.F.slot_list_extend PySem.F.type_list_extend tM pv1 (pa1 (pmt pv0 T.aR (BO T) (T.r 38) 0e13)))))))))) (aK pv1)))),0
    left
    exists A.ins
    have A1:=A.attr .TK .TK S.ar S.nw rfl;have F1:=Fw.set (R:=R) (as:=as) (H:=H) (p:=R.x) (o:=7e43) 6e1;generalize TH H R.x 7e43=G1 at *;right;left;wp_walk;refine fun c hc=>?_;have fc:H c=none:=F1.free hc;have nc:=A.eE fc;have N2:=q0D (o:=.lst []) hc;have ec:TH G1 c 2e0 c=some 2e0:=aA;replace A1:=A1.kp N2;replace F1:=F1.trans 0e23;generalize TH G1 c 2e0=G2 at *;right;left;wp_walk;right;left;obtain⟨S0,hS0⟩:∃ S0:Pu,S0={S with sl:=.TK}:=⟨_,rfl⟩;rw[<- hS0] at q FN;replace A1:aX ⟨t.aO,t.aP,t.aG⟩ G2 R as .TK S0:=by rw[hS0];exact A1
    have s0:S0.sl=.TK:=by rw[hS0]
    clear hS0;obtain⟨Y,hY⟩:∃ Y:Nat->St->Hp->Prop,∀ m Z G,Y m Z G = ∃(many:Nat) (u:Option V) (us:List V) (cs:Cmds) (S1:Pu) (sl1:V),Z=[some 2e23,some (.ref c),some (.int many),u]/\G c=some 1e18/\Fw R as as H G/\gN G us cs/\aX ⟨t.aO,t.aP,t.aG⟩ G R as sl1 S1 /\
        ((S1.sl=.TK/\many<=300/\cs.length<=many/\m=301 - many/\Uc true S1 (N+many)/\eB 300 S0=((eB 9e54 S1).1,cs++(eB 9e54 S1).2))\/(S1.sl.isN=false/\eB 300 S0=(S1,cs))):=⟨_,fun _ _ _=>rfl⟩
    refine⟨Y,⟨301,?_⟩,?_⟩
    · rw[hY];exact⟨0,none,[],[],S0,.TK,rfl,ec,F1,.nil,A1,.inl ⟨s0,by decide,Α4 _,rfl,FN,rfl⟩⟩
    intro m Z G hG;rw[hY] at hG;obtain⟨many,u,us,cs,S1,sl1,rfl,eG,FG,hC,A2,hG⟩:=hG;rcases hG with⟨YT,hm,lC,rfl,F0,eq⟩|⟨YT,eq⟩
    · have:sl1=.TK:=by have:=A2.slp;rw[YT] at this;exact this
      subst this
      exists A2.ins
      refine⟨fun Z' G'=>∃ m',m' < 301 - many/\Y m' Z' G',fun _ _ z=>z,?_⟩
      exists A2.wk.ins,A2.ins
      refine⟨R.wk,R.wx,R.lb,R.ln,S1.stk,rfl,A2.wk,F0.sk.ok,fun H1 W1 _ Ud K1=>?_,fun m v H1 W1 _ Ud hv K1=>?_⟩
      · have A3:aX ⟨t.aO,t.aP,t.aG⟩ H1 R as .TK S1.bB:=A2.walk W1 K1;have F2:=A2.uV W1 K1;replace eG:=F2.kp _ _ eG nc.1 nc.2;rw[eL Ud] at eq
        exists A3.ins,eG
        refine⟨R,as,.TK,S1.bB,none,rfl,A3,fun U5 c3 Wc H3 A4 hc3 Zd U0 F3=>?_⟩;have lc3:(S1.bB.ends none).2.length<=1:=by simp[Pu.ends]
        have Wt:=F3.kp _ _ eG nc.1 nc.2;have l1:=hC.len;have l3:=U0.len
        exists Wt,Zd
        refine⟨by omega,?_⟩;have A5:=A4.other (vs:=us++Wc) Wt nc.1 nc.2;have F5:=((FG.trans F2).trans F3).fresh (o:=.lst 2e24) fc;have tk5:aC H3 1e29:=aC.cQ Wt;have YM:=((hC.kt 3e32).kt 2e32).app U0 |>.kt tk5;refine⟨0,by omega,?_⟩;rw[hY];exact⟨many,some .TK,_,_,_,U5,rfl,aA,F5,YM,A5,.inr ⟨rfl,by rw[eq]⟩⟩
      · have A3:aX ⟨t.aO,t.aP,t.aG⟩ H1 R as .TK S1.bB:=A2.walk W1 K1;have F2:=A2.uV W1 K1;have FC:=F0.bB YT;replace eG:=F2.kp _ _ eG nc.1 nc.2;obtain⟨a,rfl⟩:∃ a,v=.ref a:=by cases hv<;>exact⟨_,rfl⟩
        exists reduceCtorEq,Β4
        by_cases h3:many=300
        · subst h3;rw[if_pos 7e0];rw[jD Ud] at eq
          exists A3.ins,eG
          refine⟨R,as,.TK,S1.bB,rfl,A3,fun U5 c3 Wc H3 A4 hc3 Zd U0 F3=>?_⟩;have lc3:(S1.bB.oS).2.length<=1:=by simp[Pu.oS]
          have Wt:=F3.kp _ _ eG nc.1 nc.2;have l1:=hC.len;have l3:=U0.len
          exists Wt,Zd
          refine⟨by omega,?_⟩;have A5:=A4.other (vs:=us++Wc) Wt nc.1 nc.2;have F5:=((FG.trans F2).trans F3).fresh (o:=.lst 2e24) fc;have tk5:aC H3 1e29:=aC.cQ Wt;have YM:=((hC.kt 3e32).kt 2e32).app U0 |>.kt tk5;refine⟨0,by omega,?_⟩;rw[hY];exact⟨300,some 0e2,_,_,_,U5,rfl,aA,F5,YM,A5,.inr ⟨rfl,by rw[eq]⟩⟩
        · rw[if_neg 1e0];obtain⟨n,hn⟩:∃ n,300 - many=n+1:=⟨299 - many,by omega⟩;rw[hn] at eq;refine⟨_,rfl,?_⟩
          exists A3.ins,eG
          refine⟨R,as,.TK,S1.bB,.ref a,m,N+many,rfl,A3,YT,hv,FC,FC.stm Ud,Ud,by omega,fun U5 c3 Wc H3 A4 hc3 Zd U0 F3=>?_⟩;have lc3:=Ep S1.bB m;have Wt:=F3.kp _ _ eG nc.1 nc.2;have l1:=hC.len;have l3:=U0.len
          exists Wt,Zd
          refine⟨by omega,?_⟩;have A5:=A4.other (vs:=us++Wc) Wt nc.1 nc.2;have F5:=((FG.trans F2).trans F3).fresh (o:=.lst 2e24) fc;have tk5:aC H3 1e29:=aC.cQ Wt;have YM:=((hC.kt 3e32).kt 2e32).app U0 |>.kt tk5;cases hz:(one S1.bB m).1.sl.isN with
          | true =>
            rw[nO Ud hz] at eq;refine⟨301 - (many+1),by omega,?_⟩;rw[hY];exact⟨many+1,some 0e2,_,_,_,U5,rfl,aA,F5,YM,A5,.inl ⟨nP hz,by omega,by rw[Ν];omega,rfl,FC.one Ud YT 1e0,by rw[eq,show 300 - (many+1)=n by omega,List.append_assoc]⟩⟩
          | false =>
            rw[jC Ud hz] at eq;refine⟨0,by omega,?_⟩;rw[hY];exact⟨many+1,some 0e2,_,_,_,U5,rfl,aA,F5,YM,A5,.inr ⟨hz,by rw[eq]⟩⟩
    · rcases A2.slp.isN with⟨z,_⟩|⟨_,p,rfl⟩
      · rw[YT] at z;cases z
      exists A2.ins,reduceCtorEq,Β4
      right;wp_walk;rw[eq] at q;exact q _ c us G A2 fc eG hC FG
theorem vV:Ok T 4e34 14 (ET ⟨t.aO,t.aP,t.aG⟩ true):=by
 nomatch T.r 36
 ·obtain⟨R,as,sl,S,w,N,rfl,_⟩:=h;rfl
 ·obtain⟨R,as,sl,S,w,N,rfl,A,F,hN,hw,Ui,q⟩:=h
  nomatch (pss3 (ppt 8e9 (pix aN (pmt0 2e15 T.c9 (gL T) 0e28) aB) pv1) 6e27 8e40),0
  have l1:(fI S.nm).length<=N:=by rw[fI,Γ];exact F.nm
  rcases Ui with⟨k,hk⟩|⟨ts,hk⟩
  ·obtain⟨x,Ud⟩:=F.sl.1 k hk;obtain⟨k0,b0,n0,r0,Vs,YQ⟩:=gT Ud;have nm1:∀ v,cJ H v 3e11->∃ a xs,v=.ref a/\H a=some (.tup (.str "hear"::.str x::xs)):=fun v h=>by cases h with|TV e=>exact⟨_,_,rfl,e⟩
   simp only[Pu.wake,Ud] at q;left
   exists A.ins,A.wk.ins,A.nm
   have W:=A.wk;rw[Vs] at W;refine⟨R.wk,R.wx,R.lb,R.ln,k0,n0,b0,r0,_,rfl,W,YQ,fun v hv=>?_⟩;obtain⟨a,xs,rfl,e1⟩:=nm1 v hv
   exists e1,A.nm,gK
   refine⟨by omega,?_⟩;have A1:=A.name x w;have F1:=Fw.set (R:=R) (as:=as) (H:=H) (o:=.dK 2e2) (p:=R.nm) 6e1;generalize TH H R.nm (.dK 2e2)=G1 at *;right;left
   exists A1.ins,A1.wk.ins
   have W1:=A1.wk;rw[show({S with nm:=cB S.nm x w}:Pu).stk=S.stk from rfl,Vs] at W1;refine⟨R.wk,R.wx,R.lb,R.ln,k0,n0,b0,r0,rfl,W1,fun H2 W2 K2=>?_⟩;have e:(k0,b0,n0+1)::r0=fQ S.stk:=by rw[Vs];rfl
   rw[e] at W2;have A2:=A1.walk W2 (K2.mono 0e0);have F2:=F1.trans 1e45;wp_walk;right
   exists A2.ins
   exact⟨R,as,sl,_,N+1,rfl,A2,F.wake Ud hw x,by omega,fun U5 c us H3 A3 hc ec hC F3=>q U5 c us H3 A3 5e17 ec hC 7e53⟩
  ·obtain⟨x,ss,Ud⟩:=F.sl.2 ts hk;obtain⟨k0,b0,n0,r0,Vs,YQ⟩:=gT Ud;have nm1:∀ v,cJ H v 7e12->∃ a xs,v=.ref a/\H a=some (.tup (.str "wait"::.str x::xs)):=fun v h=>by cases h with|wait e _ _=>exact⟨_,_,rfl,e⟩
   simp only[Pu.wake,Ud] at q;left
   exists A.ins,A.wk.ins,A.nm
   have W:=A.wk;rw[Vs] at W;refine⟨R.wk,R.wx,R.lb,R.ln,k0,n0,b0,r0,_,rfl,W,YQ,fun v hv=>?_⟩;obtain⟨a,xs,rfl,e1⟩:=nm1 v hv
   exists e1,A.nm,gK
   refine⟨by omega,?_⟩;have A1:=A.name x w;have F1:=Fw.set (R:=R) (as:=as) (H:=H) (o:=.dK 2e2) (p:=R.nm) 6e1;generalize TH H R.nm (.dK 2e2)=G1 at *;right;left
   exists A1.ins,A1.wk.ins
   have W1:=A1.wk;rw[show({S with nm:=cB S.nm x w}:Pu).stk=S.stk from rfl,Vs] at W1;refine⟨R.wk,R.wx,R.lb,R.ln,k0,n0,b0,r0,rfl,W1,fun H2 W2 K2=>?_⟩;have e:(k0,b0,n0+1)::r0=fQ S.stk:=by rw[Vs];rfl
   rw[e] at W2;have A2:=A1.walk W2 (K2.mono 0e0);have F2:=F1.trans 1e45;wp_walk;right
   exists A2.ins
   exact⟨R,as,sl,_,N+1,rfl,A2,F.wake Ud hw x,by omega,fun U5 c us H3 A3 hc ec hC F3=>q U5 c us H3 A3 5e17 ec hC 7e53⟩
theorem rO:Ok T (T.r 35) 15 (Jy ⟨t.aO,t.aP,t.aG⟩ true):=by
 nomatch T.r 35
 ·obtain⟨R,as,sl,S,k,w,N,rfl,_⟩:=h;rfl
 ·obtain⟨R,as,sl,S,k,w,N,rfl,A,F,hN,hw,Ui,q⟩:=h
  nomatch (pss3 (pif (ptc (OU 2 7e0 (Bv hr 7e0)) 2e5 8e20) (aJ (aK (pmt pv0 T.aR (vV T) 4e34 7e4)))) (aQ (dD (IS 4e30 pv1 8e0 ⟨rfl,rfl,rfl,rfl⟩) pv2)) (aK 8e0)),0
  have tl:=A.slp;rcases Ui with⟨k',es⟩|⟨ts,es⟩
  ·rw[es] at tl;obtain⟨p,rfl,ep⟩:=tl;left
   exists A.ins
   refine fun p1 h1=>?_;generalize hg:TH H p1 2e9=G1;have N1:Kp [] H G1:=hg▸Kp.new h1;have f1:G1 p1=some 2e9:=hg▸aA;clear hg;have A1:=A.kp N1;have WW:=N1.at ep;have F1:=Fw.of (R:=R) (as:=as) N1;refine .inl ⟨_,K0 1 WW f1,?_⟩;by_cases hk:k'=k
   ·subst hk;simp only[Pu.eW,es,Γ3] at q
    exists decide_true,A1.ins
    exact⟨R,as,.ref p,S,w,N,rfl,A1,F,by omega,hw,.inl ⟨k',es⟩,fun U5 c us H3 A3 hc ec hC F3=>q as U5 c us H3 A3 7e2 (A.eE 7e2).2 ec hC 8e53⟩
   ·have hq:S.eW k w=({S with lt:=fM S.lt k w},[]):=by simp only[Pu.eW,es,if_neg hk]
    rw[hq] at q
    exists decide_false,hk
    right;left;obtain⟨kvs,el,L⟩:=A1.lt;have ll:=L.len;have fl:=F.lt
    exists A1.ins,el
    refine fun p2 h2=>?_;have WH:=F1.free h2;have N2:=q0D (o:=.lst []) h2;have f2:TH G1 p2 2e0 p2=some 2e0:=aA;have A2:=A1.kp N2;have Wu:=N2.at el;have LL:=L.keep 3e46;have F2:=F1.trans 0e23;have nc:=A1.eE h2;generalize TH G1 p2 2e0=G2 at *
    exists Wu
    refine⟨by omega,fun v hv=>?_,fun hv=>?_⟩
    ·rcases LL.look k with⟨z,_⟩|⟨l,ws,z,hn,Wj,hl⟩
     ·rw[z] at hv;cases hv
     rw[z] at hv;cases hv;have lw:=(F.lw k ws hn).1;obtain⟨A3,_⟩:=A2.vJ Wu z 4e23;have F3:=F2.trans 1e40;rw[show dO S.lt k 4e23=fM S.lt k w by rw[fM,hn]] at A3;rw[Α3,ϓ,List.map_nil] at A3 F3
     exists hl
     refine⟨by simp;omega,?_⟩;generalize TH G2 l 2e44=G3 at *;wp_walk;right;wp_walk;refine fun c hc=>?_;have N4:=q0D (o:=.lst []) hc;exact q as _ c [] _ 1e23 6e12 (A3.eE hc).2 aA .nil (F3.trans 1e7)
    ·rcases LL.look k with⟨z,hn⟩|⟨l,ws,z,_⟩
     rotate_left
     ·rw[z] at hv;cases hv
     have A3:=A2.Lh (ws:=[]) Wu z f2 nc.1 nc.2;have F3:=F2.trans (Fw.set (p:=R.lt) (o:=.dK 2e3) 6e1);have f3:TH G2 R.lt (.dK 2e3) p2=some 2e0:=cZ Wu f2;have WR:TH G2 R.lt (.dK 2e3) R.lt=some (.dK 2e3):=aA;have z3:aY 2e3 8e2=some 1e3:=by rw[gG,if_pos rfl]
     generalize TH G2 R.lt (.dK 2e3)=G3 at *
     exists f3
     obtain⟨A4,_⟩:=A3.vJ WR z3 [w];have e4:dO 1e44 k [w]=fM S.lt k w:=by rw[AJ hn,fM,hn]
     rw[show({S with lt:=S.lt++[(k,([]:List Wo))]}:Pu).lt=S.lt++[(k,[])] from rfl,e4] at A4;have F4:Fw R as 9e12 H (TH G3 p2 5e5):=by
      have z:=F3.fresh (o:=.lst [wv w]) WH;exact⟨z.kp,z.dom,fun a ha=>by
       rcases Κ.mp ha with ha|ha
       ·exact .inl ha
       ·exact .inr 1e39⟩
     replace A4:aX ⟨t.aO,t.aP,t.aG⟩ (TH G3 p2 5e5) R 9e12 1e4 {S with lt:=fM S.lt k w}:=A4;generalize TH G3 p2 5e5=G4 at *;right;wp_walk;refine fun c hc=>?_;have N4:=q0D (o:=.lst []) hc;exact q 9e12 _ c [] _ (A4.kp N4) 8e54 (A4.eE hc).2 aA .nil (F4.trans 1e7)
  ·rw[es] at tl;obtain⟨p,pw,rfl,ep,epw⟩:=tl;left
   exists A.ins
   refine fun p1 h1=>?_;generalize hg:TH H p1 2e9=G1;have N1:Kp [] H G1:=hg▸Kp.new h1;have f1:G1 p1=some 2e9:=hg▸aA;clear hg;have A1:=A.kp N1;have WW:=N1.at ep;have hpw:=N1.at epw;have F1:=Fw.of (R:=R) (as:=as) N1;refine .inr ⟨Str.ofString "wait",Str.ofString "hear",k,pw,_,WW,hpw,rfl,by decide,?_⟩;have hq:S.eW k w=({S with lt:=fM S.lt k w},[]):=by simp only[Pu.eW,es]
   rw[hq] at q;wp_walk;right;left;obtain⟨kvs,el,L⟩:=A1.lt;have ll:=L.len;have fl:=F.lt
   exists A1.ins,el
   refine fun p2 h2=>?_;have WH:=F1.free h2;have N2:=q0D (o:=.lst []) h2;have f2:TH G1 p2 2e0 p2=some 2e0:=aA;have A2:=A1.kp N2;have Wu:=N2.at el;have LL:=L.keep 3e46;have F2:=F1.trans 0e23;have nc:=A1.eE h2;generalize TH G1 p2 2e0=G2 at *
   exists Wu
   refine⟨by omega,fun v hv=>?_,fun hv=>?_⟩
   ·rcases LL.look k with⟨z,_⟩|⟨l,ws,z,hn,Wj,hl⟩
    ·rw[z] at hv;cases hv
    rw[z] at hv;cases hv;have lw:=(F.lw k ws hn).1;obtain⟨A3,_⟩:=A2.vJ Wu z 4e23;have F3:=F2.trans 1e40;rw[show dO S.lt k 4e23=fM S.lt k w by rw[fM,hn]] at A3;rw[Α3,ϓ,List.map_nil] at A3 F3
    exists hl
    refine⟨by simp;omega,?_⟩;generalize TH G2 l 2e44=G3 at *;wp_walk;right;wp_walk;refine fun c hc=>?_;have N4:=q0D (o:=.lst []) hc;exact q as _ c [] _ 1e23 6e12 (A3.eE hc).2 aA .nil (F3.trans 1e7)
   ·rcases LL.look k with⟨z,hn⟩|⟨l,ws,z,_⟩
    rotate_left
    ·rw[z] at hv;cases hv
    have A3:=A2.Lh (ws:=[]) Wu z f2 nc.1 nc.2;have F3:=F2.trans (Fw.set (p:=R.lt) (o:=.dK 2e3) 6e1);have f3:TH G2 R.lt (.dK 2e3) p2=some 2e0:=cZ Wu f2;have WR:TH G2 R.lt (.dK 2e3) R.lt=some (.dK 2e3):=aA;have z3:aY 2e3 8e2=some 1e3:=by rw[gG,if_pos rfl]
    generalize TH G2 R.lt (.dK 2e3)=G3 at *
    exists f3
    obtain⟨A4,_⟩:=A3.vJ WR z3 [w];have e4:dO 1e44 k [w]=fM S.lt k w:=by rw[AJ hn,fM,hn]
    rw[show({S with lt:=S.lt++[(k,([]:List Wo))]}:Pu).lt=S.lt++[(k,[])] from rfl,e4] at A4;have F4:Fw R as 9e12 H (TH G3 p2 5e5):=by
     have z:=F3.fresh (o:=.lst [wv w]) WH;exact⟨z.kp,z.dom,fun a ha=>by
      rcases Κ.mp ha with ha|ha
      ·exact .inl ha
      ·exact .inr 1e39⟩
    replace A4:aX ⟨t.aO,t.aP,t.aG⟩ (TH G3 p2 5e5) R 9e12 1e4 {S with lt:=fM S.lt k w}:=A4;generalize TH G3 p2 5e5=G4 at *;right;wp_walk;refine fun c hc=>?_;have N4:=q0D (o:=.lst []) hc;exact q 9e12 _ c [] _ (A4.kp N4) 8e54 (A4.eE hc).2 aA .nil (F4.trans 1e7)
theorem rP:Ok T (T.r 9) 2 (xG t.aG):=by
 nomatch T.r 9
 ·obtain⟨tk,tx,dp,da,made,pend,ans,i,w,rfl,_⟩:=h;rfl
 ·obtain⟨tk,tx,dp,da,made,pend,ans,i,w,rfl,R,hi,hl,q⟩:=h
  nomatch (pss2 (aQ (pmt pv0 T.bI (mN T) 5e34 9e3)) (ppt 2e49 pv1 pv2)),0
  exists R.ins
  refine⟨tk,tx,dp,da,made,pend,ans,i,rfl,R,hi,fun H1 R1 K1=>?_⟩
  exists R1.ins,R1.ha,wN (wv w) (GU fun p hp z=>R.dis p hp (z▸hi))
  have n1:=R.n1;refine⟨by simp only[iC,Γ];omega,q _ ⟨by rw[aD n1.2];exact R1.ins,by rw[aD R.nda];exact R1.hp,by rw[aA];simp[iC],R.nda,R1.lt,R1.asc,fun p hp=>?_,fun p hp z=>?_,R.small⟩ ?_⟩
  ·rcases Κ.mp hp with hp|hp
   ·exact R.la p hp
   ·rw[show p=(i,w) by simpa using hp];exact R.lt i hi
  ·rcases Κ.mp hp with hp|hp
   ·exact R1.dis p hp z
   ·rw[show p=(i,w) by simpa using hp] at z;simpa using(Α5.mp z).2
  ·intro b o eb nb;simp only[Α,Δ,Ψ,not_or] at nb;rw[aD nb.2];exact K1.at1 eb nb.1
theorem vU:Ok T (T.r 34) 15 (ER ⟨t.aO,t.aP,t.aG⟩ true):=by
 nomatch T.r 34
 ·obtain⟨R,as,sl,S,i,w,N,rfl,_⟩:=h;rfl
 ·obtain⟨R,as,sl,S,i,w,N,rfl,A,F,hN,hw,hi,hn,q⟩:=h
  nomatch (pss3 (aQ (pmt 4e3 T.bI (rP T) (T.r 9) (pa2 pv1 pv2))) (pif (PW.pt (fT 6e43 (e9 (fJ kE pv1 (pix aN 2e5 aB) 2e4)))) (aJ (aK (pmt pv0 T.aR (vV T) 4e34 9e3)))) (aK 8e0)),0
  left
  exists A.ins,A.tk.ins
  refine⟨R.tk,R.tx,R.dp,R.da,_,_,_,i,w,rfl,A.tk,hi,by have:=F.an;omega,fun H1 T1 K1=>?_⟩;have K2:Kp [R.tk,R.dp,R.da] H H1:=K1.mono 0e16
  have A1:aX ⟨t.aO,t.aP,t.aG⟩ H1 R as sl (S.done i w):=A.tick T1 K2;have F1:=A.Bt T1 K2;have FD:=F.done (i:=i) hw;have wi:dX (some i):=fO (by have:=(A.tk.lt i hi).1;omega) (by have:=(A.tk.lt i hi).2;have:=F.md;omega);wp_walk;right;left;cases es:S.sl with
  | TK=>rw[es] at hn;cases hn
  | wait ts =>
   have Ui:=A1.slp;rw[show(S.done i w).sl=S.sl from rfl,es] at Ui;obtain⟨p,p2,rfl,ep,Vb⟩:=Ui;simp only[Pu.fB,es] at q
   exists A1.ins,ep,Vb,tJ,nN
   refine⟨rfl,?_⟩;by_cases ht:i∈ts
   ·rw[if_pos ht] at q
    exists ht,decide_true,A1.ins
    exact⟨R,as,.ref p,_,some i,N+1,rfl,A1,FD,by omega,wi,.inr ⟨ts,es⟩,fun U5 c us H3 A3 hc ec hC F3=>q U5 c us H3 A3 7e2 ec hC 8e53⟩
   ·rw[if_neg ht] at q
    exists ht,decide_false
    right;wp_walk;refine fun c hc=>?_;have N4:=q0D (o:=.lst []) hc;exact q _ c [] _ 8e5 7e2 aA .nil 4e4
  | new =>
   have Ui:=A1.slp;rw[show(S.done i w).sl=S.sl from rfl,es] at Ui;obtain⟨p,rfl,ep⟩:=Ui;simp only[Pu.fB,es] at q
   exists A1.ins,ep
   right;wp_walk;refine fun c hc=>?_;have N4:=q0D (o:=.lst []) hc;exact q _ c [] _ 8e5 7e2 aA .nil 4e4
  | TV k =>
   have Ui:=A1.slp;rw[show(S.done i w).sl=S.sl from rfl,es] at Ui;obtain⟨p,rfl,ep⟩:=Ui;simp only[Pu.fB,es] at q
   exists A1.ins,ep
   right;wp_walk;refine fun c hc=>?_;have N4:=q0D (o:=.lst []) hc;exact q _ c [] _ 8e5 7e2 aA .nil 4e4
  | ended u =>
   have Ui:=A1.slp;rw[show(S.done i w).sl=S.sl from rfl,es] at Ui;obtain⟨p,rfl,ep⟩:=Ui;simp only[Pu.fB,es] at q
   exists A1.ins,ep
   right;wp_walk;refine fun c hc=>?_;have N4:=q0D (o:=.lst []) hc;exact q _ c [] _ 8e5 7e2 aA .nil 4e4
  | worn =>
   have Ui:=A1.slp;rw[show(S.done i w).sl=S.sl from rfl,es] at Ui;obtain⟨p,rfl,ep⟩:=Ui;simp only[Pu.fB,es] at q
   exists A1.ins,ep
   right;wp_walk;refine fun c hc=>?_;have N4:=q0D (o:=.lst []) hc;exact q _ c [] _ 8e5 7e2 aA .nil 4e4
theorem lG:Ok T 6e24 16 7e42:=by
 nomatch T.r 32
 ·obtain⟨R,as,sl,S,v,h,N,rfl,_⟩:=h;rfl
 ·obtain⟨R,as,sl,S,v,h,N,rfl,A,F,hN,hn,hH,ok,q⟩:=h
  nomatch (aI (pif (AF (pmt pv0 T.aR (rN T) (T.r 33) 9e3)) 9e52) (aI (dR T.aR T.pP pv0 (bF 3e13 rfl T.A8 oV (pa2 5e16 3e0))) (pss3 (pif (ptc aZ 3e0 aE) (pss2 (dR T.aR T.zA pv0 3e0) 8e40)) (pif (ptc aZ 3e0 aE) (aJ (aK (pmt pv0 T.aR (vU T) (T.r 34) (pa2 3e0 3e0))))) (aK (pmt pv0 T.aR (rO T) (T.r 35) (pa2 3e0 3e0)))))),0
  left
  exists A.ins
  refine⟨R,as,sl,S,v,h,rfl,A,hn,hH,fun H1 K1=>?_⟩;have A1:=A.kp K1;obtain⟨a,rfl,eh⟩:=hH;have Xd:=K1.at eh;cases ho:S.over h with
  | true =>
   simp only[Pu.take,ho,Γ3] at q;wp_walk;have F1:=Fw.of (R:=R) (as:=as) K1;refine fun c hc=>?_;have N4:=q0D (o:=.lst []) hc;exact q as _ c [] _ 8e5 7e2 (A1.eE hc).2 aA .nil 4e4
  | false =>
   simp only[Pu.take,ho,Β4,Ϙ] at q;wp_walk;right;cases h with
   | UE m w =>
    simp only[Hap.vs,Hap.ini,Hap.w,Χ,Α1] at Xd;refine cG fun R2 Vi=>?_
    exists A1.ins,Xd
    have F1:=Fw.of (R:=R) (as:=as) K1;have A2:=A1.attr sl S.sl S.ar 0e5 A1.slp;have Wp:=Fw.set (R:=R) (as:=as) (H:=H1) (p:=R.x) (o:=1e5) 6e1;have Zh:=A1.tkp Wp _ _ Xd;have F2:=F1.trans Wp;clear Wp;change R2 _ (TH H1 R.x 1e5);generalize TH H1 R.x 1e5=G2 at *;refine Vi _ _ ?_;clear Vi;clear R2
    exists A2.ins,Zh
    have A3:=A2.attr sl S.sl w 0e5 A2.slp;have F3:=F2.trans (Fw.set (p:=R.x) (o:=(j9 t.aO R (sl) w 0e5)) 6e1);generalize TH G2 R.x (j9 t.aO R (sl) w 0e5)=G3 at *
    exists A3.ins
    have FF:Uc true ({S with nw:=later S.nw m,ar:=w,sl:=.TK}:Pu) N:={F with pl:=⟨F.pl.nm,ok.2,F.pl.an⟩,nw:=(F.at' ok.1).nw,sl:=⟨fun k e=>4e54,fun k e=>4e54⟩};exact⟨R,as,sl,_,N,rfl,A3,FF,by omega,fun U5 c us H3 A4 hc ec hC F4=>q as U5 c us H3 A4 6e12 (A.eE 6e12).2 ec hC (F3.trans F4)⟩
   | don m i w =>
    simp only[Hap.vs,Hap.ini,Hap.w,Χ,Α1] at Xd;have hi:i∈S.pend:=by
     cases es:S.sl<;>simp only[Pu.over,es,Bool.not_eq_false',decide_eq_true_eq] at ho
     all_goals first|exact ho|cases ho
    refine cG fun R2 Vi=>?_
    exists A1.ins,Xd
    have F1:=Fw.of (R:=R) (as:=as) K1;have A2:=A1.attr sl S.sl S.ar 0e5 A1.slp;have Wp:=Fw.set (R:=R) (as:=as) (H:=H1) (p:=R.x) (o:=1e5) 6e1;have Zh:=A1.tkp Wp _ _ Xd;have F2:=F1.trans Wp;clear Wp;change R2 _ (TH H1 R.x 1e5);generalize TH H1 R.x 1e5=G2 at *;refine Vi _ _ ?_;clear Vi;clear R2
    exists A2.ins,Zh
    exact⟨R,as,sl,S.at' m,i,w,N,rfl,A2,F.at' ok.1,by omega,ok.2,hi,hn,fun U5 c us H3 A4 hc ec hC F4=>q as U5 c us H3 A4 5e17 (A.eE 5e17).2 ec hC 6e53⟩
   | ltr m k w =>
    simp only[Hap.vs,Hap.ini,Hap.w,Χ,Α1] at Xd;have hs:(∃ k,S.sl=.TV k)\/∃ ts,S.sl=.wait ts:=by
     cases es:S.sl with
     | TV k=>exact .inl ⟨k,rfl⟩
     | wait ts=>exact .inr ⟨ts,rfl⟩
     | TK=>rw[es] at hn;cases hn
     | _=>simp only[Pu.over,es] at ho;cases ho
    refine cG fun R2 Vi=>?_
    exists A1.ins,Xd
    have F1:=Fw.of (R:=R) (as:=as) K1;have A2:=A1.attr sl S.sl S.ar 0e5 A1.slp;have Wp:=Fw.set (R:=R) (as:=as) (H:=H1) (p:=R.x) (o:=1e5) 6e1;have Zh:=A1.tkp Wp _ _ Xd;have F2:=F1.trans Wp;clear Wp;change R2 _ (TH H1 R.x 1e5);generalize TH H1 R.x 1e5=G2 at *;refine Vi _ _ ?_;clear Vi;clear R2
    exists A2.ins,Zh
    exact⟨R,as,sl,S.at' m,k,w,N,rfl,A2,F.at' ok.1,by omega,ok.2,hs,fun Um U5 c us H3 A4 hc nc ec hC F4=>q Um U5 c us H3 A4 5e17 nc ec hC 6e53⟩
theorem oA:Ok T (T.r 8) 1 (zT t.aG):=by
 nomatch T.r 8
 ·obtain⟨tk,tx,dp,da,made,pend,ans,rfl,_⟩:=h;rfl
 ·obtain⟨tk,tx,dp,da,made,pend,ans,rfl,R,h64,q⟩:=h
  nomatch (aJ (aK (bF (CS rfl) rfl T.nY nH (pa1 4e16)))),0
  exists R.ins,R.hp,Gj
  exact⟨R.asc,fun l Ug hl hp hs=>by rw[nA hp hs R.asc];exact q l hl⟩
theorem jY:Ok T (T.r 30) 2 (EM ⟨t.aO,t.aP,t.aG⟩):=by
 nomatch T.r 30
 ·obtain⟨R,as,sl,S,rfl,_⟩:=h;rfl
 ·obtain⟨R,as,sl,S,rfl,A,h64,q⟩:=h
  nomatch (aJ (aK (pmt0 4e3 T.bI (oA T) (T.r 8)))),0
  exists A.ins,A.tk.ins
  exact⟨R.tk,R.tx,R.dp,R.da,_,_,_,rfl,A.tk,h64,q⟩
theorem BQ:Ok T (T.r 29) 1 (Cs ⟨t.aO,t.aP,t.aG⟩):=by
 nomatch T.r 29
 ·obtain⟨R,as,sl,S,rfl,_⟩:=h;rfl
 ·obtain⟨R,as,sl,S,rfl,A,q⟩:=h
  nomatch 0e53,0
  exists A.ins
  exact q
theorem Av:Ok T (T.r 19) 1 (EN t.aP):=by
 nomatch T.r 19
 ·obtain⟨wk,wx,lb,ln,st,rfl,_⟩:=h;rfl
 ·obtain⟨wk,wx,lb,ln,st,rfl,W,q⟩:=h
  nomatch (aJ (aK (bN eJ rfl T.iB fA (pa1 3e12)))),0
  exists W.ins,W.nu
  exact q
theorem BP:Ok T (T.r 31) 3 (EO ⟨t.aO,t.aP,t.aG⟩):=by
 nomatch T.r 31
 ·obtain⟨R,as,sl,S,rfl,_⟩:=h;rfl
 ·obtain⟨R,as,sl,S,rfl,A,hn,b1,b2,b3,b4,b5,q⟩:=h;have hu:=mH hr
  nomatch (aI (pif (fJ zD (pix aN 2e5 aB) (aW 6e15) 2e4) 0e53) (pss3 (lK (i:=1) (fr:=[0]) (N:=["name","self"]) rfl 7e3 1e14 (j7 (bF (uE rfl) rfl T.nY nH (pa1 8e9))) (fun C s H ex pn=>⟨lL (fJ nU (mT hu (aM T.aR T.gJ 8e4) 1e2 3e10) cN (nomark _)) ,(aW (dY 1e2 (dY (mT hu (aM T.aR T.gJ 8e4) 1e2 3e10) bU))) ⟩) sc rfl 5e10) (lK (i:=2) (fr:=[0]) (N:=["key","self"]) rfl 7e3 1e14 (j7 (bF (uE rfl) rfl T.nY nH (pa1 4e30))) (fun C s H ex pn=>⟨lL (tX (mT hu (aM T.aR T.gX 8e4) 1e2 3e10) 1e22) ,(aW (dY 1e2 (dY (bN eJ rfl T.iB fA (dY (mT hu (aM T.aR T.gX 8e4) 1e2 3e10) bU)) bU))) ⟩) sc rfl 5e10) (aK (aW (dY 2e5 (dY (pmt0 2e15 T.c9 (Av T) (T.r 19)) (dY 3e49 (dY 5e16 (dY (bN eJ rfl T.iB fA 9e3) (dY (aM T.bI T.rF 4e3) (pa3 (bN eJ rfl T.iB fA (pa1 9e41)) (bN (CT rfl) rfl T.iB fA (pa1 (IT (aM T.bI T.gW 4e3)))) 8e19))))))))))),0
  left;obtain⟨ps,s0,r0,rfl,ep,hin⟩:=A.slp.word hn;refine cR fun RI TZ=>?_
  exists A.ins,ep
  refine fun p1 m1=>⟨rfl,rfl,?_⟩;rw[hin];have N1:=q0D (o:=.tup [.str "wait",.str "hear"]) m1;replace A:=A.kp N1;generalize TH H p1 (.tup [.str "wait",.str "hear"])=G1 at *;clear m1 ep hin;cases hg:S.sl.sF with
  | false =>
   rw[if_pos (show(!false)=true from rfl)];refine TZ _ _ ?_
   exists A.ins
   exact q _ _ (by unfold t9;rw[if_neg (by rw[hg];simp)];exact A.slp) N1
  | true =>
   rw[if_neg 0e0];clear TZ RI;right;left
   exists A.ins,A.nm,EU
   refine⟨by rw[Γ];exact b2,fun l ns hl hp hs=>?_⟩;have ZF:∀ n∈ns,n∈S.nm.map (·.1):=fun n hn=>hp.mem_iff.mp hn;have lns:ns.length < 64:=by rw[hp.length_eq,Γ];exact b2
   have Wv:=JA hp hs;have N2:=q0D (o:=.lst 9e35) hl;have el:TH G1 l 2e12 l=some 2e12:=aA;replace A:=A.kp N2;replace N1:=N1.trans N2;generalize TH G1 l 2e12=G2 at *;clear hp hs hl N2;refine⟨⟨_,fY.of el⟩,?_⟩;obtain⟨Pv,Ua⟩:∃ Pv:Nat->List V->Hp->Prop,∀ i xs G,Pv i xs G=(fX G xs (gC S.nm 8e12)/\Kp [] G2 G):=⟨_,fun _ _ _=>rfl⟩;refine pO (ys:=ns.map V.str) Pv ?_ ?_ ?_ ?_ ?_
   ·rw[Ua];exact⟨.nil,Kp.refl⟩
   ·intro i xs G h;rw[Ua] at h;rw[h.1.len];have h1:=rH S.nm 8e12;rw[Α7] at h1;omega
   ·intro i xs G h;rw[Ua] at h;exact fY.of 1e55
   ·intro i y xs G hi ey h;rw[Ua] at h;obtain⟨hP,KG⟩:=h;obtain⟨n,en,rfl⟩:∃ n,ns[i]?=some n/\y=V.str n:=by
     rw[ϔ] at ey;obtain⟨n,a0,b0⟩:=Ϛ.mp ey;exact⟨n,a0,b0.symm⟩
    have vn:=Iy 0e52;have AG:=A.kp KG;have es:gC S.nm (ns.take 5e1)=gC S.nm 8e12++gC S.nm [n]:=by rw[Α8,en,Α2,zB]
    exists bC,Β6,AG.ins,AG.nm,vn
    cases hw:jX S.nm n with
    | none =>
     rw[if_pos (show wv none=V.TK from rfl),Ua,es];exact⟨by rw[show gC S.nm [n]=[] by simp[gC,hw],ϛ];exact hP,KG⟩
    | some z =>
     rw[if_neg (by simp[wv])];intro p hp;rw[Ua,es,show gC S.nm [n]=[(.str n,wv (some z))] by simp[gC,hw]];exact⟨(hP.kt 6e9).snoc aA,KG.trans 1e10⟩
   intro un G h ln2 XG;rw[Ua] at h;obtain⟨hP,KG⟩:=h;rw[Γ,Α0,Wv] at hP;replace hP:fX G un S.nmS:=hP;have lun:un.length<=64:=by
    rw[hP.len];have h1:=rH S.nm (srt (S.nm.map (·.1)));rw[<- Wv] at h1;show(gC S.nm (srt (S.nm.map (·.1)))).length<=64;rw[<- Wv];omega
   have N3:=q0D (o:=.lst un) XG;have Vg:TH G ln2 4e33 ln2=some 4e33:=aA;replace hP:=hP.kt 8e10;replace A:=A.kp 0e17;replace N1:=N1.trans 0e17;generalize TH G ln2 4e33=G3 at *;clear Ua KG N3 XG el ZF Wv lns;right;left;obtain⟨kvs,ek,hL⟩:=A.lt;have sk:=LX hL
   exists A.ins,ek,sk
   refine⟨by rw[Γ];exact b3,fun l ns hl hp hs=>?_⟩;have ZF:∀ n∈ns,n∈S.lt.map (·.1):=fun n hn=>hp.mem_iff.mp hn;have lns:ns.length < 64:=by rw[hp.length_eq,Γ];exact b3
   have Wv:=JA hp hs;have N2:=q0D (o:=.lst 9e35) hl;have el:TH G3 l 2e12 l=some 2e12:=aA;replace A:=A.kp N2;replace N1:=N1.trans N2;replace hP:=hP.kt 7e31;replace Vg:=N2.at Vg;replace ek:=N2.at ek;replace hL:=hL.keep (fun a _ o e=>N2.at e);generalize TH G3 l 2e12=G4 at *;clear hp hs hl N2 sk;refine⟨⟨_,fY.of el⟩,?_⟩;obtain⟨Pv,Ua⟩:∃ Pv:Nat->List V->Hp->Prop,∀ i xs G,Pv i xs G=(iV G xs (iO S.lt 8e12)/\Kp [] G4 G):=⟨_,fun _ _ _=>rfl⟩;refine pO (ys:=ns.map V.str) Pv ?_ ?_ ?_ ?_ ?_
   ·rw[Ua];exact⟨.nil,Kp.refl⟩
   ·intro i xs G h;rw[Ua] at h;rw[h.1.len];have h1:=rD S.lt 8e12;rw[Α7] at h1;omega
   ·intro i xs G h;rw[Ua] at h;exact fY.of 1e55
   ·intro i y xs G hi ey h;rw[Ua] at h;obtain⟨hT,KG⟩:=h;obtain⟨n,en,rfl⟩:∃ n,ns[i]?=some n/\y=V.str n:=by
     rw[ϔ] at ey;obtain⟨n,a0,b0⟩:=Ϛ.mp ey;exact⟨n,a0,b0.symm⟩
    obtain⟨la,ws,vn,lw,ela⟩:=hL.inS 0e52;have AG:=A.kp KG;have ekG:=KG.at ek;have elG:=KG.at ela;have es:iO S.lt (ns.take 5e1)=iO S.lt 8e12++iO S.lt [n]:=by rw[Α8,en,Α2,y7]
    exists bC,Β6,AG.ins,ekG,vn,elG
    cases ws with
    | nil =>
     rw[if_neg 0e0,Ua,es];exact⟨by rw[show iO S.lt [n]=[] by simp[iO,lw],ϛ];exact hT,KG⟩
    | cons w r =>
     rw[if_pos 0e0]
     exists AG.ins,ekG,vn,elG
     intro q1 m1 q2 m2;rw[Ua,es,show iO S.lt [n]=[(n,w::r)] by simp[iO,lw]];exact⟨((hT.kt (aC.new m1)).kt (aC.new m2)).snoc aA ((q0D m2).at aA),(KG.trans (Kp.new m1)).trans 0e32⟩
   intro ut G h ln3 XG;rw[Ua] at h;obtain⟨hT,KG⟩:=h;rw[Γ,Α0] at hT;have lut:ut.length<=64:=by
    rw[hT.len];have h1:=rD S.lt ns;omega
   rw[Wv] at hT;replace hT:iV G ut S.ltS:=hT;have N3:=q0D (o:=.lst ut) XG;have V1:TH G ln3 3e33 ln3=some 3e33:=aA;replace hT:=hT.kt 8e10;replace hP:=hP.kt (aC.nil 0e17);replace Vg:=(KG.trans N3).at Vg;replace A:=A.kp 0e17;replace N1:=N1.trans 0e17;generalize TH G ln3 3e33=G5 at *;clear Ua KG N3 XG el ZF Wv lns ek hL;right
   exists A.ins,A.wk.ins
   refine⟨R.wk,R.wx,R.lb,R.ln,S.stk,rfl,A.wk,fun pl m1=>?_⟩;have N4:=q0D (o:=.tup 3e20) m1;have Wx:TH G5 pl (.tup 3e20) pl=some (.tup 3e20):=aA;replace A:=A.kp N4;replace N1:=N1.trans N4;replace hP:=hP.kt 4e2;replace hT:=hT.kt 4e2;replace Vg:=N4.at Vg;replace V1:=N4.at V1;generalize TH G5 pl (.tup 3e20)=G6 at *;clear N4 m1
   exists A.ins,A.tk.ins,Vg
   refine fun pn m2=>?_;generalize hg:TH G6 pn (.tup un)=G7;have N4:Kp [] G6 G7:=hg▸Kp.new m2;have Xf:G7 pn=some (.tup un):=hg▸aA;clear hg;replace A:=A.kp N4;replace N1:=N1.trans N4;replace hP:=hP.kt 4e2;replace hT:=hT.kt 4e2;replace Vg:=N4.at Vg;replace V1:=N4.at V1;replace Wx:=N4.at Wx;clear N4 m2
   exists A.ins,A.tk.ins
   refine⟨R,as,_,S,rfl,A,b1,fun lo m3=>?_⟩;have N4:=q0D (o:=.lst 3e2) m3;have elo:TH G7 lo (.lst 3e2) lo=some (.lst 3e2):=aA;replace A:=A.kp N4;replace N1:=N1.trans N4;replace hP:=hP.kt 4e2;replace hT:=hT.kt 4e2;replace Vg:=N4.at Vg;replace V1:=N4.at V1;replace Wx:=N4.at Wx;replace Xf:=N4.at Xf;generalize TH G7 lo (.lst 3e2)=G8 at *;clear N4 m3
   exists elo
   refine fun po m4=>?_;generalize hg:TH G8 po (.tup 3e2)=G9;have N4:Kp [] G8 G9:=hg▸Kp.new m4;have Zj:G9 po=some (.tup 3e2):=hg▸aA;clear hg;replace A:=A.kp N4;replace N1:=N1.trans N4;replace hP:=hP.kt 4e2;replace hT:=hT.kt 4e2;replace Vg:=N4.at Vg;replace V1:=N4.at V1;replace Wx:=N4.at Wx;replace Xf:=N4.at Xf;clear N4 m4
   exists A.ins,A.tk.ins,A.tk.ha
   refine fun rv m5=>?_;generalize hg:TH G9 rv 6e54=GA;have N4:Kp [] G9 GA:=hg▸Kp.new m5;have erv:GA rv=some 6e54:=hg▸aA;clear hg;replace A:=A.kp N4;replace N1:=N1.trans N4;replace hP:=hP.kt 4e2;replace hT:=hT.kt 4e2;replace Vg:=N4.at Vg;replace V1:=N4.at V1;replace Wx:=N4.at Wx;replace Xf:=N4.at Xf;replace Zj:=N4.at Zj;clear N4 m5;refine⟨R.da,_,rfl,A.tk.ha,fun pa aa GB m6 sm epa Wj Yn=>?_⟩;have N4:Kp [] GA GB:=Kp.of sm;replace A:=A.kp N4;replace N1:=N1.trans N4;replace hP:=hP.kt 4e2;replace hT:=hT.kt 4e2;replace Vg:=N4.at Vg;replace V1:=N4.at V1;replace Wx:=N4.at Wx;replace Xf:=N4.at Xf;replace Zj:=N4.at Zj;have hA:fX GB (aa.map V.ref) S.anS:=fX.of (by rw[Wj,Pu.anS,Γ,iC,Γ]) fun j a x y e1 e2=>by
    rw[Pu.anS,ϔ] at e2;obtain⟨p0,e3,e4⟩:=Ϛ.mp e2;cases e4;exact Yn j a (.inl p0.1) (wv p0.2) e1 (by rw[iC,ϔ,e3];rfl)
   clear N4 sm Wj Yn m6 erv
   exists V1
   refine fun pt m7 p m8=>?_;have N4:=(q0D (o:=.tup ut) m7).trans (Kp.new (o:=.tup [.ref ps,.ref pl,wv S.ar,.int S.nw,.ref pn,.int S.made,.ref po,.ref pa,.ref pt]) m8);refine q _ _ ?_ (N1.trans N4);unfold t9;rw[if_pos hg];have T:=aC.nil N4;exact⟨p,pl,pn,po,pa,pt,.ref ps,un,_,ut,rfl,aA,A.slp.kt T,N4.at Wx,N4.at Xf,hP.kt T,N4.at Zj,N4.at epa,hA.kt T,(q0D m8).at aA,hT.kt T⟩
theorem j4:Ok T 5e24 4 5e44:=by
 nomatch T.r 67
 ·obtain⟨R,as,sl,S,rfl,_⟩:=h;rfl
 ·obtain⟨R,as,sl,S,rfl,A,hn,b1,b2,b3,b4,b5,q⟩:=h
  nomatch (aI (pst 1 9e41) (pss3 (pst 2 (aW (pa3 (pmt0 pv0 T.aR (BQ T) (T.r 29)) (bN yP rfl T.E4 DN 9e3) (pmt0 pv0 T.aR (BP T) (T.r 31))))) (aQ (dD pv1 aB)) 4e13)),0
  left
  exists A.ins
  refine⟨R,as,sl,S,rfl,A,b1,fun tk m0=>?_⟩;have N0:=q0D (o:=.lst 3e2) m0;have et:TH H tk (.lst 3e2) tk=some (.lst 3e2):=aA;generalize TH H tk (.lst 3e2)=G0 at *;replace A:=A.kp N0;wp_walk;right;left
  exists A.ins
  refine⟨R,as,sl,S,rfl,A,?_⟩
  exists et
  refine fun lo m1=>?_;have nlt:tk≠lo:=fun z=>by rw[z,m1] at et;cases et
  have Wk:H lo=none:=N0.bR m1;have N1:=q0D (o:=.lst 3e2) m1;have eo:TH G0 lo (.lst 3e2) lo=some (.lst 3e2):=aA;replace et:=N1.at et;replace A:=A.kp N1;replace N0:=N0.trans N1;generalize TH G0 lo (.lst 3e2)=G1 at *;clear N1 m1
  exists A.ins
  refine⟨R,as,sl,S,rfl,A,hn,b1,b2,b3,b4,b5,fun v G2 hv K2=>?_⟩;wp_walk;intro p m2;have N2:=q0D (o:=.tup [sl,.ref lo,v]) m2;have Ud:dU (TH G2 p 0e47) p lo S:=⟨v,sl,aA,hv.kt 7e31,A.slp.kt (aC.nil 5e53),(K2.trans N2).at eo⟩;replace et:=(K2.trans N2).at et;replace N0:=N0.trans 5e53;generalize TH G2 p 0e47=G3 at *;clear K2 N2 m2 hv eo A;right;left
  exists et
  refine⟨by rw[Γ];omega,?_⟩;right;wp_walk;exact q p lo _ (Ud.put et nlt) Wk (Kp.drop ((N0.mono 0e0).trans (Kp.set 0e0)) m0)
theorem sJ:Ok T 8e33 18 (EG ⟨t.aO,t.aP,t.aG⟩):=by
 nomatch T.r 68
 ·obtain⟨bp,hl,us,hv,b,hs,rfl,_⟩:=h;rfl
 ·obtain⟨bp,hl,us,hv,b,hs,rfl,ep,UP,gb,db,zb,er,hH,ok,l63,q⟩:=h
  nomatch (aI (pst 2 (qB T.y9 (lF T) (hr.mono 1e0) rfl T.Lj (T.r 28).bd .nil pass0 1e13)) (pss3 (pst 3 8e0) (o9 Β7 rfl (j7 pv1) 8e24 (pss3 (pst 5 (pmt pv2 T.aR (lG T) 6e24 8e32)) (aQ (dD pv3 (aW (pa2 (bN yP rfl T.E4 DN (pa1 pv5)) (pcl (j4 T) 5e24 7e4))))) (aQ (dD pv5 (aW (pa2 aE aB)))))) 7e33)),0
  left;have lu:=UP.len;have lbz:=i5 b
  exists ep
  refine Aq ep UP fun R sl G1 RA K1 NR=>?_;right;left;wp_walk;refine fun st m2=>?_;have J0:A18 ⟨t.aO,t.aP,t.aG⟩ b hs H (TH G1 st 2e0) R st [] sl 9e1 [] []:=⟨RA.kp 0e32,aA,(fun k v e=>by simp at e),(fun a ha=>by rw[show a=st by simpa using ha];exact⟨RA.eE m2,K1.bR m2,_,aA⟩),by simp,K1.trans 0e32,fun a h=>h.elim (NR a) 0e0⟩;have lh2:=hH.len;have P0:Pu13 b hs 9e1 0:=⟨tI gb 1e0,rfl,t7 b,vP,vK⟩;generalize TH G1 st 2e0=G2 at *;have er3:=J0.kb.at er;clear K1 m2 RA NR;right;left
  exists er3
  refine⟨⟨_,fY.of er3⟩,?_⟩;obtain⟨Pv,Ua⟩:∃ Pv:Nat->St->Hp->Prop,∀ i Z G,Pv i Z G=E6 fun(v4 v5:Option V) (as:List Addr) (sl:V) (vs:List V) (L:List Addr)=>A4 (Z=[some 0e18,some (.ref hl),some 2e23,some (.ref st),v4,v5]) (A18 ⟨t.aO,t.aP,t.aG⟩ b hs H G R st as sl (takes 9e1 7e10).1 vs L) (Pu13 b hs (takes 9e1 7e10).1 i) (vs.length=i):=⟨_,fun _ _ _=>rfl⟩;refine Br (xs:=hv) Pv ?_ ?_ ?_ ?_
  ·rw[Ua];exact⟨_,_,[],sl,[],[],rfl,J0,P0,rfl⟩
  ·intro i Z G _ h;rw[Ua] at h;obtain⟨_,_,_,_,_,_,_,J,_⟩:=h;exact fY.of (J.kb.at er)
  ·intro i y Z G hi h;rw[Ua] at h;clear J0 P0;obtain⟨v4,v5,as,sl,vs,L,rfl,J,P,lv⟩:=h;obtain⟨x,ex,hx⟩:=hH.fU hi;have hf:=ok x (Υ ex);have il:i < hs.length:=(Λ.mp ex).1;have eT:takes 9e1 (hs.take 5e1)=(((takes 9e1 7e10).1.take x).1,(takes 9e1 7e10).2++[((takes 9e1 7e10).1.take x).2]):=by rw[Α8,ex,Α2,lP]
   generalize eS:(takes 9e1 7e10).1=S at *;left
   exists J.ra.ins
   refine⟨R,as,_,S,y,x,302 * i,rfl,J.ra,P.ft,by omega,P.hn,u0 hx (aC.nil J.kb),hf,fun UY Vt c uc G5 RA5 hc nc ec hC W5=>?_⟩;have P5:=P.take (Υ ex) hf 1e0 (fun j hj=>J.ra.tk.lt j hj);have Us:=P5.Us 1e0 zb l63;have nc1:=(J.ra.eE hc).1;have hcH:H c=none:=J.kb.bR hc;have ncG:=J.ne hc;replace J:=(J.take W5 RA5).1;clear W5 RA5 P hc;right;left
   exists ec,J.es
   refine fun lc YO=>?_;generalize hg:TH G5 lc 5e33=G6;have Nl:Kp [] G5 G6:=hg▸Kp.new YO;have X6:G6 lc=some 5e33:=hg▸aA;clear hg;have aa5:=J.ra.eE YO;have hlH:=J.kb.bR YO;have nlG:=J.ne YO;have nlc:c≠lc:=fun z=>by rw[z,YO] at ec;cases ec
   replace J:=J.kp Nl;replace ec:=Nl.at ec;replace hC:=hC.kt (aC.nil Nl);clear Nl YO
   exists J.ra.ins
   refine⟨R,UY,_,_,rfl,J.ra,P5.hn,Us.1,Us.2.1,Us.2.2.1,Us.2.2.2.1,Us.2.2.2.2,fun p lo G7 Ud Wk K7=>?_⟩;have aa6:=J.ra.eE Wk;have hoH:=J.kb.bR Wk;have noG:=J.ne Wk;have noc:c≠lo:=fun z=>by rw[z,Wk] at ec;cases ec
   replace J:=J.kp K7;replace ec:=K7.at ec;replace X6:=K7.at X6;replace hC:=hC.kt 8e55;clear K7 Wk;wp_walk;refine fun qq hq=>?_;generalize hg:TH G7 qq 7e45=G8;have Nq:Kp [] G7 G8:=hg▸Kp.new hq;have eq:G8 qq=some 7e45:=hg▸aA;clear hg;replace J:=J.kp Nq;replace ec:=Nq.at ec;replace X6:=Nq.at X6;replace hC:=hC.kt (aC.nil Nq);replace Ud:=Ud.kp Nq;clear Nq hq;have es:=J.es
   exists es
   refine⟨by omega,?_⟩;have hav:sW G8 (lc::lo::L) (.ref qq) ((takes 9e1 (hs.take vs.length)).1.take x):=by
    rw[lv,eS];exact⟨qq,lc,p,lo,uc,rfl,⟨by simp,by simp⟩,eq,X6,hC,Ud⟩
   obtain⟨olo,elo⟩:∃ o,G8 lo=some o:=by
    obtain⟨_,_,_,_,_,e⟩:=Ud;exact⟨_,e⟩
   have J9:=J.app (x:=x) (by rw[lv];exact ex) hav (fun a h=>by simp[h]) (fun a ha=>by
    simp only[Α] at ha;rcases ha with rfl|rfl|ha
    ·exact .inr ⟨aa5,hlH,⟨_,X6⟩,fun z=>nlG st 0e0 z.symm⟩
    ·exact .inr ⟨aa6,hoH,⟨_,elo⟩,fun z=>noG st 0e0 z.symm⟩
    ·exact .inl ha)
   have Z4:c≠st:=fun z=>ncG st 0e0 z.symm;have Ze:TH G8 st 7e46 c=some 5e33:=by rw[aD Z4];exact ec
   have lC:=hC.len;have ab1:=(xQ S x).2;have ncL:∀ a∈st::lc::lo::L,a≠c:=fun a ha z=>by
    simp only[Α] at ha;rcases ha with rfl|rfl|rfl|ha
    ·exact Z4 z.symm
    ·exact nlc z.symm
    ·exact noc z.symm
    ·exact ncG a (by simp[ha]) z
   generalize TH G8 st 7e46=G9 at *;clear J hav elo X6 hC Ud es eq ec;right
   exists Ze
   refine fun e1 h1=>?_;generalize hg:TH G9 e1 (.tup [.str "end",.int 5])=G10;have N1:Kp [] G9 G10:=hg▸Kp.new h1;clear hg;replace J9:=J9.kp N1;replace Ze:=N1.at Ze
   exists Ze
   refine⟨by omega,?_⟩;rw[Ua];refine⟨_,_,UY,Vt,vs++[.ref qq],lc::lo::L,rfl,?_,?_,by simp[lv]⟩
   ·rw[eT];exact J9.other Ze nc1 nc ncL hcH
   ·rw[eT];exact P5
  intro Z G h;rw[Ua] at h;obtain⟨v4,v5,as,sl,vs,L,rfl,J,P,lv⟩:=h;right;wp_walk;exact q st vs L G J.es 1e0 J.al (fun a ha=>(J.aL a ha).2.1) J.kb
theorem chk18{bs:Nat->List Stm}{G0:Hp}{R:Nat->Rn}{as:Nat->List Addr}{sl:Nat->V}{c:Nat->Nat}{rn rl sn s1:Addr}{TI TJ:TE}{I:Nat}{kk ii jj:Int}{v0 v1 v2 v6 v8 v9:Option V}{D:Ends}{hv sv vv:List V}{x:Hap}{LL:List Addr}{q':Addr}(L:We ⟨t.aO,t.aP,t.aG⟩ bs hs G0 G R as sl c rn)(hI:I < 3)(VB:c I=i)(ex:hs[i]?=some x)(hf:1e43/\dX x.w)(hx:lQ G0 y x)(l31:hs.length<=31)(zb:bZ (bs I)<=62)(rI:∀ H Q,TI [v0,v1,v2,some 0e6,some 9e10,some 0e11,v6,some 1e24,v8,v9] H Q=Q (.int ii) H)(rJ:∀ H Q,TJ [v0,v1,v2,some 0e6,some 9e10,some 0e11,v6,some 1e24,v8,v9] H Q=Q (.int jj) H)(ixr:fU [V.ref (R 0).x,V.ref (R 1).x,V.ref (R 2).x] ii=some (.ref (R I).x))(er:G0 rl=some (.lst hv))(YW:fU hv kk=some y)(en:G0 sn=some (.lst sv))(ixs:fU sv jj=some (.ref s1))(es:G0 s1=some (.lst vv))(ixv:fU vv kk=some 0e24)(al:sW G0 LL 0e24 ((takes (dM (bs I)) (hs.take (c I))).1.take x))(q:∀ G' Um Uk,We ⟨t.aO,t.aP,t.aG⟩ bs hs G0 G' R Um Uk (eR c I (c I+1)) rn->D.nx [v0,v1,v2,some 0e6,some 9e10,some 0e11,v6,some 1e24,v8,v9] G'):(AV (Bd (DA (MZ K 6) (Pn (jP (yO t.aO "take" 7e42 7e49 (jP (DA Mh (iM 3) (iM 7)) qN)) (jP (DO 5e44 (jP 7e49 qN)) qN))) (DA Mh (DA Mh (iM 4) TJ) (iM 7)))) (LZ (tC (V.bl false))) CA) D [v0,v1,v2,some 0e6,some 9e10,some 0e11,v6,some 1e24,v8,v9] G:=by
 have il:i < hs.length:=(Λ.mp ex).1
 exists rI,L.e,ixr,L.f.kb.at er,YW,(L.f.ra I hI).ins
 refine⟨R I,as I,_,_,y,x,302 * i,rfl,L.f.ra I hI,by rw[<- VB];exact(L.f.pu I hI).ft,by omega,(L.f.pu I hI).hn,u0 hx 1e51,hf,fun UY Vt co uc G11 Vy _ _ ec hC Y9=>?_⟩;obtain⟨X1,X2⟩:=L.step hI (x:=x) 1e48 hf 1e0 Y9 Vy;clear Y9
 exists rI,X1.e,ixr
 have Us:=X2.Us 1e0 zb 1e0;refine⟨R I,UY,_,_,rfl,Vy,X2.hn,Us.1,Us.2.1,Us.2.2.1,Us.2.2.2.1,Us.2.2.2.2,fun p lo G12 Ud Wk Y5=>?_⟩;clear Us X2 Vy Wk;wp_walk;refine fun qq hq=>?_;obtain⟨Wr,rc⟩:=X1.fin (K:=K) ec hC Y5 Ud hq al (xQ _ x).1;generalize TH G12 qq 8e45=G13 at *;clear ec hC Y5 Ud hq X1
 exists Wr.f.kb.at en,rJ,ixs,Wr.f.kb.at es,ixv
 refine⟨true,rc,?_⟩;wp_walk;exact q _ _ _ Wr
theorem OO:Ok T (T.r 69) 60 (EK K):=by
 nomatch T.r 69
 ·obtain⟨a,ns,rfl,_⟩:=h;rfl
 ·obtain⟨a,ns,rfl,hS,Zr,q⟩:=h
  nomatch (aI (pst 1 1e42) (aI (pst 2 1e42) (aI (pst 3 (pcl (Ge T) (T.r 66) (pa2 pv1 8e36))) (aI (pst 4 (aV (pa2 (pcl (sJ T) 8e33 (pa2 pv1 pv3)) (pcl (sJ T) 8e33 (pa2 pv2 pv3))))) (aI (pst 5 (aV (pa3 0e36 (qB T.y9 (lF T) (hr.mono 1e0) rfl T.Lj (T.r 28).bd .nil pass0 7e4) 0e36))) (aI (pst 6 (bG wG (bF cP rfl T.kX fG 0e13) aB)) (pss3 (o9 Β7 rfl (jE rfl T.nD (pa1 pv6)) (pgn 7) (aJ (pif (ptc 1e30 (aW (pa2 4e36 3e39)) 9e42) 2e22))) (o9 Β7 rfl (jE rfl T.nD (pa1 (bF cP rfl T.kX fG 0e13))) (pgn 7) (pss2 (o9 Β7 rfl (jE rfl T.nD 2e13) (pgn 8) (aJ (pif (ptc 1e30 (aW (pa2 (pmt 4e48 T.aR (lG T) 6e24 2e36) (pcl (j4 T) 5e24 (pa1 4e48)))) (pix aN (pix aN pv4 (pv 8)) pv7)) 2e22))) (pif (ptc Ms pv7 pv6) (pss2 (pst 9 4e36) (pif (ptc 1e30 (aW (pa2 (pv 9) 3e39)) 9e42) 2e22))))) (aK zE)))))))),0
  left;wp_walk;refine⟨a,_,2,1,63,rfl,hS,⟨rfl,rfl,rfl⟩,⟨by decide,by decide,by decide⟩,fun ys q1 hy ly m1=>?_⟩;obtain⟨ms,rfl,lm⟩:=Aj hy;rw[Γ,Γ] at ly;have N1:=q0D (o:=.lst 9e51) m1;replace hS:=N1.same.seq hS;refine⟨q1,ms,rfl,aA,by omega,fun p1 us b G1 ep UP gb db zb K1=>?_⟩;replace hS:=K1.same.seq hS;have zb2:bZ b<=62:=by omega
  clear N1 m1 hy K1 zb ly lm;wp_walk;right;left;wp_walk;refine⟨a,_,4,1,63,rfl,hS,⟨rfl,rfl,rfl⟩,⟨by decide,by decide,by decide⟩,fun ys q1 hy ly m1=>?_⟩;obtain⟨ms1,rfl,lm⟩:=Aj hy;rw[Γ,Γ] at ly;have N1:=q0D (o:=.lst (ms1.map V.int)) m1;replace hS:=N1.same.seq hS;replace ep:=N1.at ep;replace UP:=UP.kp (aC.nil N1);refine⟨q1,ms1,rfl,aA,by omega,fun p2 Vv b2 G2 Vb UJ gb2 db2 zb3 K1=>?_⟩;replace hS:=K1.same.seq hS;replace ep:=K1.at ep;replace UP:=UP.kp 3e3;have zb4:bZ b2<=62:=by omega
  clear N1 m1 hy K1 zb3 ly lm;wp_walk;right;left;wp_walk;refine⟨a,_,2,2,63,rfl,hS,⟨rfl,rfl,rfl⟩,⟨by decide,by decide,by decide⟩,fun ys q2 hy ly2 m2=>?_⟩;obtain⟨ms2,rfl,lm2⟩:=Aj hy;rw[Γ,Γ] at ly2;have N2:=q0D (o:=.lst (ms2.map V.int)) m2;refine⟨p1,q2,us,b,ms2,rfl,N2.at ep,UP.kp 7e31,gb,by omega,by omega,aA,by omega,fun rl hv hs G3 er hH ok lh K2=>?_⟩;replace K2:=N2.trans K2;replace ep:=K2.at ep;replace UP:=UP.kp 8e22;replace Vb:=K2.at Vb;replace UJ:=UJ.kp 8e22;have l31:hs.length<=31:=by omega
  have lh2:=hH.len;clear N2 m2 hy K2 ly2 lm2 lh hS;wp_walk;right;left;wp_walk;refine⟨p1,rl,us,hv,b,hs,rfl,ep,UP,gb,by omega,zb2,er,hH,ok,by omega,fun s0 XW L0 G4 es0 l0 hA0 f0 K4=>?_⟩;replace ep:=K4.at ep;replace UP:=UP.kp 9e31;replace Vb:=K4.at Vb;replace UJ:=UJ.kp 9e31;replace er:=K4.at er;replace hH:=hH.kt 9e31;clear f0 K4;wp_walk;refine⟨p2,rl,Vv,hv,b2,hs,rfl,Vb,UJ,gb2,by omega,zb4,er,hH,ok,by omega,fun s1 vs1 L1 G5 Ur l1 hA1 f1 K5=>?_⟩;wp_walk;refine fun sn m5=>?_;generalize hg:TH G5 sn 3e45=G6;have N5:Kp [] G5 G6:=hg▸Kp.new m5;have en:G6 sn=some 3e45:=hg▸aA;clear hg;replace K5:=K5.trans N5;replace Ur:=N5.at Ur;replace hA1:=hA1.keep 7e55 (fun _ _ _ e=>N5.at e) 3e54;replace ep:=K5.at ep;replace UP:=UP.kp 7e22;replace Vb:=K5.at Vb;replace UJ:=UJ.kp 7e22;replace er:=K5.at er;replace hH:=hH.kt 7e22;replace es0:=K5.at es0;replace hA0:=hA0.keep 7e22 (fun _ _ _ e=>K5.at e) 3e54;clear f1 K5 N5 m5;right;left;have lu:=UP.len;have lbz:=i5 b;have lu2:=UJ.len;have ab2:=i5 b2;obtain⟨bs,Xl⟩:∃ bs:Nat->List Stm,bs=fun i=>if i=1 then b2 else b:=⟨_,rfl⟩;obtain⟨sA,hsA⟩:∃ f:Nat->Addr,f=fun i=>if i=1 then s1 else s0:=⟨_,rfl⟩;obtain⟨vA,hvA⟩:∃ f:Nat->List V,f=fun i=>if i=1 then vs1 else XW:=⟨_,rfl⟩;obtain⟨LA,hLA⟩:∃ f:Nat->List Addr,f=fun i=>if i=1 then L1 else L0:=⟨_,rfl⟩;have hb2:bs 2=bs 0:=by rw[Xl];rfl
  have zbs:∀ j,bZ (bs j)<=62:=fun j=>by
   rw[Xl];show bZ (if j=1 then b2 else b)<=62;split<;>assumption
  have hAl:∀ j,j < 2->G6 (sA j)=some (.lst 5e18)/\(vA j).length=hs.length/\pB G6 (LA j) 5e18 (bs j) hs:=fun j hj=>by
   rw[hsA,hvA,hLA,Xl];rcases j with _|_|j
   ·exact⟨es0,l0,hA0⟩
   ·exact⟨Ur,l1,hA1⟩
   ·omega
  replace en:G6 sn=some (.lst [.ref (sA 0),.ref (sA 1)]):=by rw[hsA];exact en
  have ixs:∀ j:Nat,j < 2->fU [V.ref (sA 0),V.ref (sA 1)] (j:Int)=some (.ref (sA j)):=fun j hj=>by
   rcases j with _|_|j
   ·rfl
   ·rfl
   ·omega
  have hAt:∀ j,j < 2->∀(i:Nat) (x:Hap),hs[i]?=some x->∃ q',fU 5e18 (i:Int)=some 0e24/\sW G6 (LA j) 0e24 ((takes (dM (bs j)) 7e10).1.take x):=fun j hj i x ex=>by
   obtain⟨_,lv,ha⟩:=hAl j hj;have il:i < (vA j).length:=by rw[lv];exact(Λ.mp ex).1
   obtain⟨v,ev⟩:∃ v,5e18[i]?=some v:=⟨5e18[i],by simp⟩;obtain⟨x',ex',h⟩:=ha i v ev;rw[ex] at ex';cases ex';obtain⟨q',_,_,_,_,rfl,_⟩:=id h;exact⟨q',eI ev,h⟩
  clear hsA hvA hLA es0 Ur l0 l1 hA0 hA1;have P0:Pu13 b hs 9e1 0:=⟨tI gb 1e0,rfl,t7 b,vP,vK⟩;have P2:Pu13 b2 hs (dM b2) 0:=⟨tI gb2 1e0,rfl,t7 b2,vP,vK⟩
  exists ep
  refine Aq ep UP fun Ra sa G7 RA K7 NRa=>?_;have F0:Vw ⟨t.aO,t.aP,t.aG⟩ 0 bs hs G6 G6 4e55 3e55 2e54 4e32:=⟨fun i hi=>absurd hi 1e0,fun i hi=>absurd hi 1e0,fun i j hi=>absurd hi 1e0,Kp.refl,fun i hi=>absurd hi 1e0⟩;have F1:=F0.more (Q:=Ra) (s:=sa) (by rw[Xl];exact RA) K7 NRa 9e47;clear F0;replace Vb:=K7.at Vb;replace UJ:=UJ.kp 8e55
  exists Vb
  refine Aq Vb UJ fun Rb sb G8 RB K8 NRb=>?_;have F2:=F1.more (Q:=Rb) (s:=sb) (by rw[Xl];exact RB) K8 NRb (by rw[Xl];exact P2);replace ep:=(K7.trans K8).at ep;replace UP:=UP.kp (aC.nil (K7.trans K8))
  exists ep
  refine Aq ep UP fun Rc sc G9 RC K9 NRc=>?_;have F3:=F2.more (Q:=Rc) (s:=sc) (by rw[Xl];exact RC) K9 NRc 9e47;clear F1 F2 RA RB RC;wp_walk;refine fun rn m10=>?_;generalize hg:TH G9 rn 4e40=G10;have N10:Kp [] G9 G10:=hg▸Kp.new m10;have X8:G10 rn=some 4e40:=hg▸aA;clear hg;have VS:=F3.off m10;replace F3:=F3.kp N10;obtain⟨R,hR⟩:∃ R:Nat->Rn,R=eR (eR (eR 4e55 0 Ra) 1 Rb) 2 Rc:=⟨_,rfl⟩;obtain⟨as,hA⟩:∃ R:Nat->List Addr,R=eR (eR (eR 3e55 0 []) 1 []) 2 []:=⟨_,rfl⟩;obtain⟨sl,hL⟩:∃ R:Nat->V,R=eR (eR (eR 2e54 0 sa) 1 sb) 2 sc:=⟨_,rfl⟩;have hc0:eR (eR (eR 4e32 0 0) 1 0) 2 0=fun _=>(0:Nat):=funext fun i=>by simp[eR]
  have F:=F3;simp only[Γ4,Nat.reduceAdd] at F VS;rw[<- hR,<- hA,<- hL,hc0] at F;rw[<- hR,<- hA] at VS;have x0:Ra.x=(R 0).x:=by rw[hR];rfl
  have x1:Rb.x=(R 1).x:=by rw[hR];rfl
  have x2:Rc.x=(R 2).x:=by rw[hR];rfl
  rw[x0,x1,x2] at X8;clear F3 hc0 hR hA hL x0 x1 x2 N10 m10 K7 K8 K9 NRa NRb NRc ep Vb UP UJ P0 P2;right;left;have Zk:=F.kb.at er;have ixr:∀ j:Nat,j < 3->fU [V.ref (R 0).x,V.ref (R 1).x,V.ref (R 2).x] (j:Int)=some (.ref (R j).x):=fun j hj=>by
   rcases j with _|_|_|j
   ·rfl
   ·rfl
   ·rfl
   ·omega
  exists Zk
  refine⟨⟨by decide,by decide⟩,?_⟩;have L:We ⟨t.aO,t.aP,t.aG⟩ bs hs G6 G10 R as sl 4e32 rn:=⟨F,VS,X8⟩;have row:∀ i,i < hs.length->∃ y x,fU hv (i:Int)=some y/\hs[i]?=some x/\lQ G6 y x/\1e43/\dX x.w:=fun i il=>by
   obtain⟨y,ey⟩:∃ y,hv[i]?=some y:=⟨hv[i]' 1e0,by simp⟩;obtain⟨x,ex,hx⟩:=hH.fU ey;exact⟨y,x,eI ey,ex,hx,ok x (Υ ex)⟩
  have ZU:fU [V.ref (R 0).x,V.ref (R 1).x,V.ref (R 2).x] 2=some (.ref (R 2).x):=rfl;have aaX:fU [V.ref (sA 0),V.ref (sA 1)] 0=some (.ref (sA 0)):=rfl;obtain⟨cu,hcu⟩:∃ cu:Nat,cu=hv.length / 2:=⟨_,rfl⟩;rw[show((hv.length:Int) / 2)=(cu:Int) by omega];have lcu:cu<=hs.length:=by omega
  clear Zk F VS X8 hH ok;right;left;wp_walk;refine⟨⟨by omega,by omega⟩,?_⟩;rw[show((cu:Int)).toNat=cu by omega];obtain⟨Pv,Ua⟩:∃ Pv:Nat->St->Hp->Prop,∀ i Z G,Pv i Z G = ∃(v7:Option V) (as:Nat->List Addr) (sl:Nat->V) (c:Nat->Nat),Z=[some 0e2,some 1e11,some 1e3,some 0e6,some 9e10,some 0e11,some 0e31,v7,none,none]/\We ⟨t.aO,t.aP,t.aG⟩ bs hs G6 G R as sl c rn/\(c 0=0/\c 1=0/\c 2=i):=⟨_,fun _ _ _=>rfl⟩;refine kJ (lo:=0) Pv ?_ ?_ ?_
  ·rw[Ua];exact⟨_,as,sl,_,rfl,L,⟨rfl,rfl,rfl⟩⟩
  ·intro i Z G hi h;rw[Ua] at h;clear L;obtain⟨v7,as,sl,c,rfl,L,⟨c0,c1,VB⟩⟩:=h;obtain⟨y,x,YW,ex,hx,hf⟩:=row i 1e0;have hJ:2 < 3:=by decide
   have Xi:0 < 2:=by decide
   obtain⟨q',WT,al⟩:=hAt 0 Xi i x ex;rw[<- hb2,<- VB] at al;refine chk18 (ii:=2) (jj:=0) L hJ VB ex hf hx l31 (zbs 2) 3e10 3e10 rfl er (by rw[Γ5];exact YW) en rfl (hAl 0 Xi).1 (by rw[Γ5];exact WT) al fun G13 Um Uk Wr=>?_;show Pv 5e1 _ _;rw[Ua];exact⟨_,_,_,_,rfl,Wr,⟨c0,c1,by rw[bM,VB]⟩⟩
  intro Z G h;rw[Ua] at h;clear L Ua;obtain⟨v7,as,sl,c,rfl,L,⟨c0,c1,c2⟩⟩:=h;right;left
  exists L.f.kb.at er
  refine⟨⟨by omega,by omega⟩,?_⟩;obtain⟨Pv,Ua⟩:∃ Pv:Nat->St->Hp->Prop,∀ i Z G,Pv i Z G = ∃(v7 v8 v9:Option V) (as:Nat->List Addr) (sl:Nat->V) (c:Nat->Nat),Z=[some 0e2,some 1e11,some 1e3,some 0e6,some 9e10,some 0e11,some 0e31,v7,v8,v9]/\We ⟨t.aO,t.aP,t.aG⟩ bs hs G6 G R as sl c rn/\(c 0=i/\c 1=i/\c 2=max cu i):=⟨_,fun _ _ _=>rfl⟩;refine kJ (lo:=0) Pv ?_ ?_ ?_
  ·rw[Ua];exact⟨_,_,_,as,sl,_,rfl,L,⟨c0,c1,by omega⟩⟩
  ·intro i Z G hi h;rw[Ua] at h;clear L c0 c1 c2;obtain⟨v7,v8,v9,as,sl,c,rfl,L,⟨c0,c1,c2⟩⟩:=h;obtain⟨y,x,YW,ex,hx,hf⟩:=row i 1e0;left
   exists Γ5
   obtain⟨Pw,Uq⟩:∃ Pw:Nat->St->Hp->Prop,∀ j Z G,Pw j Z G = ∃(v8:Option V) (as:Nat->List Addr) (sl:Nat->V) (c:Nat->Nat),Z=[some 0e2,some 1e11,some 1e3,some 0e6,some 9e10,some 0e11,some 0e31,some 3e52,v8,v9]/\We ⟨t.aO,t.aP,t.aG⟩ bs hs G6 G R as sl c rn/\((∀ t,t < 2->c t=if t < j then i+1 else i)/\c 2=max cu i):=⟨_,fun _ _ _=>rfl⟩;refine kJ (lo:=0) (n:=2) Pw ?_ ?_ ?_
   ·rw[Uq];refine⟨_,as,sl,c,rfl,L,⟨fun t ht=>?_,c2⟩⟩;rcases t with _|_|t
    ·exact c0
    ·exact c1
    ·omega
   ·intro j Z G hj h;rw[Uq] at h;clear L c0 c1 c2;obtain⟨v8,as,sl,c,rfl,L,⟨ct,c2⟩⟩:=h;have Xi:j < 2:=hj;have hJ:j < 3:=by omega
    have VB:c j=i:=by rw[ct j hj];simp
    have aaW:=ixr j hJ;have aaY:=ixs j Xi;obtain⟨q',WT,al⟩:=hAt j Xi i x ex;rw[<- VB] at al;refine chk18 (ii:=0+(j:Int)) (jj:=0+(j:Int)) L hJ VB ex hf hx l31 (zbs j) 8e46 8e46 (by rw[Γ5];exact aaW) er YW en (by rw[Γ5];exact aaY) (hAl j Xi).1 WT al fun G13 Um Uk Wr=>?_;show Pw (j+1) _ _;rw[Uq];refine⟨_,_,_,_,rfl,Wr,⟨fun t ht=>?_,by rw[cD 1e0];exact c2⟩⟩;by_cases e:t=j
    ·rw[e,bM,VB];simp
    ·rw[cD e,ct t ht];by_cases h:t < j
     ·rw[if_pos h,if_pos 1e0]
     ·rw[if_neg h,if_neg 1e0]
   intro Z G h;rw[Uq] at h;clear L c0 c1 c2 Uq;obtain⟨v8,as,sl,c,rfl,L,⟨ct,c2⟩⟩:=h;have c0:c 0=i+1:=ct 0 1e0;have c1:c 1=i+1:=ct 1 1e0;clear ct;right;refine cR fun RI TZ=>?_;wp_walk;split
   ·next hge =>
    refine TZ _ _ ?_;clear TZ;have VB:c 2=i:=by rw[c2];omega
    have hJ:2 < 3:=by decide
    have Xi:0 < 2:=by decide
    obtain⟨q',WT,al⟩:=hAt 0 Xi i x ex;rw[<- hb2,<- VB] at al;left
    exists L.e,ZU,L.f.kb.at er,YW,(L.f.ra 2 hJ).ins
    refine⟨R 2,as 2,_,_,y,x,302 * i,rfl,L.f.ra 2 hJ,by rw[<- VB];exact(L.f.pu 2 hJ).ft,by omega,(L.f.pu 2 hJ).hn,u0 hx 1e51,hf,fun UY Vt co uc G11 Vy _ _ ec hC Y9=>?_⟩;obtain⟨X1,X2⟩:=L.step hJ (x:=x) 1e48 hf 1e0 Y9 Vy;clear Y9;right
    exists X1.e,ZU
    have Us:=X2.Us 1e0 (zbs 2) 1e0;refine⟨R 2,UY,_,_,rfl,Vy,X2.hn,Us.1,Us.2.1,Us.2.2.1,Us.2.2.2.1,Us.2.2.2.2,fun p lo G12 Ud Wk Y5=>?_⟩;clear Us X2 Vy Wk;wp_walk;refine fun qq hq=>?_;obtain⟨Wr,rc⟩:=X1.fin (K:=K) ec hC Y5 Ud hq al (xQ _ x).1;generalize TH G12 qq 8e45=G13 at *;clear ec hC Y5 Ud hq X1
    exists Wr.f.kb.at en,aaX,Wr.f.kb.at (hAl 0 Xi).1,WT
    refine⟨true,rc,?_⟩;wp_walk;rw[Ua];exact⟨_,_,_,_,_,_,rfl,Wr,⟨c0,c1,by rw[bM,VB];omega⟩⟩
   ·next hge =>
    rw[Ua];exact⟨_,_,_,_,_,_,rfl,L,⟨c0,c1,by rw[c2];omega⟩⟩
  intro Z G h;rw[Ua] at h;obtain⟨v7,v8,v9,as,sl,c,rfl,L,_⟩:=h;right;wp_walk;exact q _
end
end
def JM{q:Program}{K:Params->q0B}{t:Nat}{r:PySem.W.RowW}{d:DefRec}{kwd:List (Str×Expr)}{run:Value->List Value->Sem Value}(e:∀ P:Params,as=List.map (fun x=>x.fst) (K P))(H:PySem.W.WalkO q loose XP (PySem.W.kHook K as e).says r d kwd run):PySem.W.WalkX q loose XP (PySem.W.X.obsZ as) (PySem.W.X.valZ K n t) r d kwd run:=fun w s₀ s₁ mg mb G y a o pm cd doc dV kV h1 h2 h3 h4 h5 h6 args vals bs L=>by
 obtain⟨_,f,_,_⟩:=PySem.W.X.z_facts e y;exact H w s₀ s₁ mg mb G (show PySem.W.InK K w s₁.heap from fun p ob hp=>L.keeps _ _ (f p ob hp)) a o pm cd doc dV kV h1 h2 h3 h4 h5 h6 args vals bs
theorem cI{p:Prop}{l:List Prop}(h:p)(g:∀ i,l.getD i True):∀ i,(p::l).getD i True
 | 0=>h
 | i+1=>g i
section
open PySem.W
def MQ{l:OpenLaw}{w:World}{K:Frag}{h:Heap}{fa:Addr}(X:K.In h)(G:h.Ns mainGlobals mg)(hfa:mg "law"=some (.ref fa)){f0 f1 f2 f3 f4 f5 f6 f7 f8 f9 f10 f11 f12 f13 f14 f15 f16 f17 f18 f19 f20 f21 f22 f23 f24 f25 f26 f27 f28 f29 f30 f31 f32 f33 f34 f35 f36 f37 f38 f39 f40 f41 f42 f43 f44 f45 f46 f47 f48 f49 Xx f51 f52 f53 f54 f55 f56 f57 f58 f59 f60 f61 f62 f63 f64 f65 f66 f67 f68 f69:Addr}{d0 d1 d2 d3 d4 d5 d6 d7 d8 d9 d10 d11 d12 d13 d14 d15 d16 d17 d18 d19 d20 d21 d22 d23 d24 d25 d26 d27 d28 d29 d30 d31 d32 d33 d34 d35 d36 d37 d38 d39 d40 d41 d42 d43 d44 d45 d46 d47 d48 d49 d50 d51 d52 d53 d54 d55 d56 d57 d58 d59 d60 d61 d62 d63 d64 d65 d66 d67 d68 d69:FuncData}{aG:Addr}{aP:Addr}{aO:Addr}{tk0:Tok}{tk1:Tok}{tk2:Tok}{Wn:Addr}{te3:Array DictEntry}{tn3:Nat}(VY:nsIn K mainGlobals "Tickets"=some (some (.ref aG)))(V9:plainGet K aG Str.empty=true)(V3:hasDictIn K aG=true)(Wa:plainOver K aG=true)(Wb:findIn K (.ref aG) "__setattr__"=some (some (.builtin "object.__setattr__")))(rE:makesIn K aG=true)(V6:keepIn K (.ref aG)=true)(X4:nsIn K mainGlobals "Walk"=some (some (.ref aP)))(YC:plainGet K aP Str.empty=true)(Yd:hasDictIn K aP=true)(YD:plainOver K aP=true)(YF:findIn K (.ref aP) "__setattr__"=some (some (.builtin "object.__setattr__")))(Dc:makesIn K aP=true)(Ys:keepIn K (.ref aP)=true)(Za:nsIn K mainGlobals "Run"=some (some (.ref aO)))(Z8:plainGet K aO Str.empty=true)(Zz:hasDictIn K aO=true)(Z9:plainOver K aO=true)(aaA:findIn K (.ref aO) "__setattr__"=some (some (.builtin "object.__setattr__")))(y9:makesIn K aO=true)(ZV:keepIn K (.ref aO)=true)(F0:Gf0 K "kept" Jf f0 d0)(F1:Gf0 K "worth_of" zR f1 d1)(F2:Gf0 K "joined" Cg f2 d2)(F3:Gf0 K "number_of" xB f3 d3)(F4:Gf0 K "one_or_nought" oR f4 d4)(F5:Gm0 K aG "__init__" "Tickets.__init__" oO f5 d5)(F6:Gm0 K aG "make" "Tickets.make" oP f6 d6)(F7:Gm0 K aG "is_open" "Tickets.is_open" lZ f7 d7)(F8:Gm0 K aG "those_open" "Tickets.those_open" jO f8 d8)(F9:Gm0 K aG "finish" "Tickets.finish" lY f9 d9)(F10:Gm0 K aG "shut" "Tickets.shut" oQ f10 d10)(F11:Gm0 K aG "shut_all" "Tickets.shut_all" kT f11 d11)(F12:Gm0 K aG "first_done" "Tickets.first_done" jN f12 d12)(F13:Gm0 K aP "__init__" "Walk.__init__" wW f13 d13)(F14:Gm0 K aP "come_to" "Walk.come_to" qF f14 d14)(F15:Gm0 K aP "stands_at" "Walk.stands_at" mY f15 d15)(F16:Gm0 K aP "pass_by" "Walk.pass_by" qG f16 d16)(F17:Gm0 K aP "enter" "Walk.enter" sM f17 d17)(Vw:Gm0 K aP "leave" "Walk.leave" sN f18 d18)(F19:Gm0 K aP "place" "Walk.place" sO f19 d19)(F20:Gf0 K "do_set" ED f20 d20)(F21:Gf0 K "do_order" zK f21 d21)(F22:Gf0 K "do_timer" zL f22 d22)(F23:Gf0 K "do_send" Ce f23 d23)(F24:Gf0 K "do_drop" Cc f24 d24)(F25:Gf0 K "do_wait" Cf f25 d25)(F26:Gf0 K "do_hear" Cd f26 d26)(F27:Gf0 K "do_end" EC f27 d27)(F28:Gm0 K aO "__init__" "Run.__init__" zG f28 d28)(F29:Gm0 K aO "waits" "Run.waits" wU f29 d29)(F30:Gm0 K aO "open_tickets" "Run.open_tickets" kS f30 d30)(F31:Gm0 K aO "state" "Run.state" wR f31 d31)(F32:Gm0 K aO "take" "Run.take" zI f32 d32)(F33:Gm0 K aO "passes_over" "Run.passes_over" lW f33 d33)(F34:Gm0 K aO "take_done" "Run.take_done" oN f34 d34)(F35:Gm0 K aO "take_letter" "Run.take_letter" lX f35 d35)(F36:Gm0 K aO "wake" "Run.wake" zJ f36 d36)(F37:Gm0 K aO "go_on" "Run.go_on" zF f37 d37)(F38:Gm0 K aO "do_one" "Run.do_one" wQ f38 d38)(F39:Gm0 K aO "look" "Run.look" zH f39 d39)(F40:Gm0 K aO "end" "Run.end" Cb f40 d40)(F41:Gm0 K aO "wear_out" "Run.wear_out" qE f41 d41)(F42:Gm0 K aO "worth" "Run.worth" wV f42 d42)(F43:Gm0 K aO "new_ticket" "Run.new_ticket" mX f43 d43)(F44:Gf0 K "_law_deck" zM f44 d44)(F45:Gf0 K "_law_pick" zP f45 d45)(F46:Gf0 K "_law_name" zO f46 d46)(F47:Gf0 K "_law_worth" xA f47 d47)(F48:Gf0 K "_law_saying" sS f48 d48)(F49:Gf0 K "_law_plain" wZ f49 d49)(F50:Gf0 K "_law_simple" sU Xx d50)(F51:Gf0 K "_law_closed" sP f51 d51)(F52:Gf0 K "_law_program" qJ f52 d52)(F53:Gf0 K "_law_bounded" qH f53 d53)(F54:Gf0 K "_law_says" zQ f54 d54)(F55:Gf0 K "_law_flat" zN f55 d55)(F56:Gf0 K "_law_new" Ci f56 d56)(F57:Gf0 K "_law_ticket" sV f57 d57)(F58:Gf0 K "_law_ended" wY f58 d58)(F59:Gf0 K "_law_do_plain" qI f59 d59)(F60:Gf0 K "_law_do_wait" sR f60 d60)(F61:Gf0 K "_law_do_hear" sQ f61 d61)(F62:Gf0 K "_law_go" EE f62 d62)(F63:Gf0 K "_law_goes_behind" l6 f63 d63)(F64:Gf0 K "_law_takes" w9 f64 d64)(F65:Gf0 K "_law_happening" mZ f65 d65)(F66:Gf0 K "_law_row" Cj f66 d66)(F67:Gf0 K "_law_stand" w8 f67 d67)(F68:Gf0 K "_law_alone" wX f68 d68)(F69:Gf0 K "law" My f69 d69)(rF:findIn K (.ref aG) "made"=some none)(gY:findIn K (.ref aG) "pending"=some none)(gW:findIn K (.ref aG) "answers"=some none)(iP:findIn K (.ref aP) "blocks"=some none)(fE:findIn K (.ref aP) "numbers"=some none)(jG:findIn K (.ref aO) "walk"=some none)(dP:findIn K (.ref aO) "sleep"=some none)(zA:findIn K (.ref aO) "arg"=some none)(pP:findIn K (.ref aO) "now"=some none)(gJ:findIn K (.ref aO) "names"=some none)(cU:findIn K (.ref aO) "tickets"=some none)(gX:findIn K (.ref aO) "letters"=some none)(v0:nsIn K mainGlobals "GREATEST_WORTH"=some (some (.int 1000000000 tk0)))(v1:nsIn K mainGlobals "GREATEST_MOMENT"=some (some (.int 1000000000000 tk1)))(v2:nsIn K mainGlobals "MOST_AT_ONCE"=some (some (.int 300 tk2)))(v3:nsIn K mainGlobals "DEEDS"=some (some (.ref Wn)))(u3:K.lookup Wn=some {cls:=.type "dict",data:=.dict te3 tn3})(aa8:nsIn K Wn "set"=some (some (.ref f20)))(aa9:nsIn K Wn "order"=some (some (.ref f21)))(abA:nsIn K Wn "timer"=some (some (.ref f22)))(abB:nsIn K Wn "child"=some (some (.ref f21)))(abC:nsIn K Wn "send"=some (some (.ref f23)))(abD:nsIn K Wn "drop"=some (some (.ref f24)))(abE:nsIn K Wn "wait"=some (some (.ref f25)))(abF:nsIn K Wn "hear"=some (some (.ref f26)))(abG:nsIn K Wn "end"=some (some (.ref f27)))(JO:nsIn K mainGlobals "dict"=some none)(yI:nsIn K mainGlobals "int"=some none)(kX:nsIn K mainGlobals "len"=some none)(E4:nsIn K mainGlobals "list"=some none)(A8:nsIn K mainGlobals "max"=some none)(GN:nsIn K mainGlobals "min"=some none)(nD:nsIn K mainGlobals "range"=some none)(L9:nsIn K mainGlobals "set"=some none)(nY:nsIn K mainGlobals "sorted"=some none)(iB:nsIn K mainGlobals "tuple"=some none)(kl3:KeysLit w.params te3.toList) : ∃ fd:FuncData,(∀(s:Shared) (v:Value),BindsTo s fd ⟨[v],[]⟩ [("script",v)])/\∀ base:Heap,K.In base->base.Ns mainGlobals mg->gO l.prog w K mg base UR 60 fa fd ["script"] (EK K):=by
 have e:=hfa.symm.trans (mg_of X G F69.a);cases e;refine⟨d69,?_,fun base _ _=>OO (?_:Tx l.prog w base K mg ⟨fun i=>[f0,f1,f2,f3,f4,f5,f6,f7,f8,f9,f10,f11,f12,f13,f14,f15,f16,f17,f18,f19,f20,f21,f22,f23,f24,f25,f26,f27,f28,f29,f30,f31,f32,f33,f34,f35,f36,f37,f38,f39,f40,f41,f42,f43,f44,f45,f46,f47,f48,f49,Xx,f51,f52,f53,f54,f55,f56,f57,f58,f59,f60,f61,f62,f63,f64,f65,f66,f67,f68,fa].getD i fa,fun i=>[d0,d1,d2,d3,d4,d5,d6,d7,d8,d9,d10,d11,d12,d13,d14,d15,d16,d17,d18,d19,d20,d21,d22,d23,d24,d25,d26,d27,d28,d29,d30,d31,d32,d33,d34,d35,d36,d37,d38,d39,d40,d41,d42,d43,d44,d45,d46,d47,d48,d49,d50,d51,d52,d53,d54,d55,d56,d57,d58,d59,d60,d61,d62,d63,d64,d65,d66,d67,d68,d69].getD i d0,tk0,tk1,tk2,Wn,aG,aP,aO⟩)⟩
 ·obtain⟨_,_,_,_,_,_,_,_,_,rfl,_⟩:=F69.F.ex;exact fun s v=>.of_eq rfl
 ·exact⟨cI (F0.go X G) (cI (F1.go X G) (cI (F2.go X G) (cI (F3.go X G) (cI (F4.go X G) (cI F5.go (cI F6.go (cI F7.go (cI F8.go (cI F9.go (cI F10.go (cI F11.go (cI F12.go (cI F13.go (cI F14.go (cI F15.go (cI F16.go (cI F17.go (cI Vw.go (cI F19.go (cI (F20.go X G) (cI (F21.go X G) (cI (F22.go X G) (cI (F23.go X G) (cI (F24.go X G) (cI (F25.go X G) (cI (F26.go X G) (cI (F27.go X G) (cI F28.go (cI F29.go (cI F30.go (cI F31.go (cI F32.go (cI F33.go (cI F34.go (cI F35.go (cI F36.go (cI F37.go (cI F38.go (cI F39.go (cI F40.go (cI F41.go (cI F42.go (cI F43.go (cI (F44.go X G) (cI (F45.go X G) (cI (F46.go X G) (cI (F47.go X G) (cI (F48.go X G) (cI (F49.go X G) (cI (F50.go X G) (cI (F51.go X G) (cI (F52.go X G) (cI (F53.go X G) (cI (F54.go X G) (cI (F55.go X G) (cI (F56.go X G) (cI (F57.go X G) (cI (F58.go X G) (cI (F59.go X G) (cI (F60.go X G) (cI (F61.go X G) (cI (F62.go X G) (cI (F63.go X G) (cI (F64.go X G) (cI (F65.go X G) (cI (F66.go X G) (cI (F67.go X G) (cI (F68.go X G) (cI (F69.go X G) (fun _=>trivial)))))))))))))))))))))))))))))))))))))))))))))))))))))))))))))))))))))),⟨V9,V3,Wa,Wb⟩,(mg_of X G VY),⟨rE,F5.a,F5.i,V6⟩,⟨YC,Yd,YD,YF⟩,(mg_of X G X4),⟨Dc,F13.a,F13.i,Ys⟩,⟨Z8,Zz,Z9,aaA⟩,(mg_of X G Za),⟨y9,F28.a,F28.i,ZV⟩,rF,gY,gW,iP,fE,jG,dP,zA,pP,gJ,cU,gX,(mg_of X G v0),(mg_of X G v1),(mg_of X G v2),(mg_of X G v3),⟨_,_,u3,kl3⟩,aa8,aa9,abA,abB,abC,abD,abE,abF,abG,(mg_none_of X G JO),(mg_none_of X G yI),(mg_none_of X G kX),(mg_none_of X G E4),(mg_none_of X G A8),(mg_none_of X G GN),(mg_none_of X G nD),(mg_none_of X G L9),(mg_none_of X G nY),(mg_none_of X G iB)⟩
end
theorem walk{l:PySem.W.OpenLaw}{q:Program}{YP:World->Heap->Prop}{d:DefRec}{K:Params->q0B}(hn:l.most=some 63)(ZA:d.params.defaults=[])(hY:∀(w:World) (h:Heap),YP w h->(K w.params).In h)(F:∀(w:World) (mg:q0C) (fa:Addr) (h:Heap),(K w.params).In h->h.Ns mainGlobals mg->mg d.name=some (.ref fa) -> ∃ fd:FuncData,(∀(s:Shared) (u:Value),BindsTo s fd ⟨[u],[]⟩ [("script",u)])/\∀ base:Heap,(K w.params).In base->base.Ns mainGlobals mg->gO l.prog w (K w.params) mg base UR 60 fa fd ["script"] (EK (K w.params))) : PySem.W.WalkO q loose XP YP l.row.toRowW d [] (fun f vs=>PySem.call f vs) :=
 L2.L8 (n:=63) (k:=60) (x:="script") (CX:=fun _=>UR) (sp:=fun w=>EK (K w.params)) hn (by decide) ZA ⟨rfl,by decide,by decide⟩ hY F (fun _ _ a ns hl _ hS=>⟨a,ns,rfl,hS,hl,fun _=>rfl⟩) fun _ _ _ _ _ z=>z
end Own
open PySem PySem.W PyProof.Rows
set_option maxRecDepth 100000 in
set_option maxHeartbeats 0 in
theorem PySem.Challenge.cw_outlast_k18_whole_run_again_holds : PySem.Challenge.rw_outlast_k18_whole_run_again.Holds := by
 w_on;o_law;z_head;(case hw=>w_witness2)
 k_fill
 refine Own.JM (fun _=>rfl) ?_;refine Own.walk (l:=PySem.Challenge.rw_outlast_k18_whole_run_again) rfl rfl (fun w h Y=>PySem.W.kIn_of Y) ?F
 case F =>
  intro w mg fa h KX G ZH;apply Own.MQ KX G ZH
  iterate 127 (first|(apply Own.QP<;>k_is)|(apply Own.QQ<;>k_is)|k_is)
  exact⟨⟨_,_,rfl,rfl⟩,⟨_,_,rfl,rfl⟩,⟨_,_,rfl,rfl⟩,⟨_,_,rfl,rfl⟩,⟨_,_,rfl,rfl⟩,⟨_,_,rfl,rfl⟩,⟨_,_,rfl,rfl⟩,⟨_,_,rfl,rfl⟩,⟨_,_,rfl,rfl⟩,trivial⟩
