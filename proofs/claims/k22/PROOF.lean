import PyProof.Rows.All
import Wide.All
import OpenK.AllK
import Wide.FinOn
import Lean
import PyProof.EqAt
import PyProof.EqKinds
import PyProof.TupleCall
import PySem.Challenge.RW_outlast_k22_whole_tickets_once
set_option Elab.async false
set_option linter.all false
set_option compiler.extract_closed false
set_option bootstrap.genMatcherCode false
set_option genSizeOf false
set_option maxRecDepth 100000
local macro_rules | `(tactic| omega) => `(tactic| first | assumption | lia | omega +splitDisjunctions)
noncomputable section
local macro_rules
|`(mutual example:=[$ts,*] $cs:command* end)=>do
 let f(D:Array Lean.Syntax)(s:Lean.Syntax):=s.rewriteBottomUp fun s=>if s.isOfKind `scientific then (match s[0].getAtomVal.splitOn "e" with|[a,b]=>D[10*b.toNat!+a.toNat!]!|_=>s) else s.setInfo .none
 let D:=ts.getElems.foldl (fun D t=>D.push (f D t)) #[]
 return Lean.mkNullNode (cs.map fun c=>let s:=f D c;if s.isOfKind `Lean.Parser.Command.declaration&&(s[1].isOfKind `Lean.Parser.Command.definition||s[1].isOfKind `Lean.Parser.Command.abbrev) then s.setArg 0 (s[0].setArg 4 (Lean.mkNullNode #[Lean.mkNode `Lean.Parser.Command.noncomputable #[Lean.mkAtom "noncomputable"]])) else s)
namespace PySem.W.Fast
mutual
example:=[]
def tw10195513910209644510:=0
def tw15305254907251815186:=0
def tw16202944699787682219:=0
def tw4695719803451790602:=0
def tw11431219868382909233:=0
def tw15125299733481567568:=0
def tw11056862755058493981:=0
def tw9816954855460914434:=0
def tw12702066504876839579:=0
def tw15976180548699091875:=0
def tw6995184962543717738:=0
def tw5269913567851721679:=0
def tw17640526710032302782:=0
def tw8180951921266925906:=0
def tw15096277358910557914:=0
def tw7382041398226728618:=0
def tw17671898489228754523:=0
def tw8184807236516786219:=0
def tw5970604651680231063:=0
def tw5108249901562226771:=0
def tw15744598147626895700:=0
def tw7601822677431267333:=0
def tw11628095844919440124:=0
def tw3455198441594059033:=0
def tw8442172835087333123:=0
def tw8493122083672990693:=0
def tw6117320866602016749:=0
def tw5706590990003807720:=0
def tw7617587318580195463:=0
def tw13029187609904879366:=0
def tw15434248058226684207:=0
def tw9824686570345133227:=0
def tw12699816203770454324:=0
def tw4171743297250693875:=0
def tw3462440491412857170:=0
def tw9294904618582409381:=0
def tw2545814526066316945:=0
def tw7105806641941707315:=0
def tw18152735087940485596:=0
def tw446202605667773906:=0
def tw12150706175326298173:=0
def tw10557903867836333178:=0
def tw16161162237951631861:=0
def tw9171058443631880603:=0
def tw1857450550674728080:=0
def tw6627775892987126388:=0
def tw6938378106410978854:=0
def tw8884289555285156905:=0
def tw16898812378404829337:=0
def tw11451373318896335169:=0
def tw3486013824290284502:=0
def tw6974517082610173376:=0
def tw17231758043604403308:=0
def tw13937150525801131415:=0
def tw1142866390426709198:=0
def tw13057012817454880750:=0
def tw2381802472027285446:=0
def tw7525525926435578379:=0
def tw1987690941561138198:=0
def tw1966386925739810807:=0
def tw237192090943957030:=0
def tw14689719329163055736:=0
def tw914555163011144975:=0
def tw643833383144663691:=0
def tw13618906168107557540:=0
def tw14670634752485967360:=0
def tw8650044866230784943:=0
def tw7129945158126695839:=0
def tw11850884821550893510:=0
def tw1812862765614648739:=0
def tw10760944826996797761:=0
def tw7865383591821962136:=0
def tw12922497950448433850:=0
def tw5935892794085450919:=0
def tw4871825914165959379:=0
def tw10623696538446143352:=0
def tw16261946951779842111:=0
def tw3400899489927441493:=0
def tw3361226646578632170:=0
def tw12713214898081525940:=0
def tw16366609935201454561:=0
def tw16254159350903009581:=0
def tw6364434348876104441:=0
def tw6901615936675158614:=0
def tw9248679438195940831:=0
def tw17087278018156217162:=0
def tw5119436221462180517:=0
def tw3800385344027207195:=0
def tw3595645041054231896:=0
def tw18332357208291598375:=0
def tw11281670244115791438:=0
def tw8760033050171863564:=0
def tw18262432866919630523:=0
def tw4424408078072981601:=0
def tw17246540638210591416:=0
def tw464859869398129325:=0
def tw9761778481703752484:=0
def tw14602364861753215601:=0
def tw12140904806735359555:=0
def tw12071486049707787798:=0
def tw9671260219591886663:=0
def tw17464551301105319485:=0
def tw10396941240801122100:=0
def tw9454847519198398804:=0
def tw8834023001836477057:=0
def tw1503713649759093502:=0
def tw14325088326389909931:=0
def tw17019528862996701497:=0
def tw1545812641834539051:=0
def tw1053084524699027940:=0
def tw18155867869838800237:=0
def tw15011283459644545702:=0
def tw305571184999585372:=0
def tw760547227685613370:=0
def tw5323162303786679857:=0
def tw5782185444994377734:=0
def tw5532422395837902793:=0
def tw13574167493845524457:=0
def tw5769263700195672431:=0
def tw13074248412925840849:=0
def tw12159586089205700369:=0
def tw11927076329987677209:=0
def tw7140064057055272727:=0
def tw9364701687537847368:=0
def tw3331859789135421202:=0
def tw3751122378989713917:=0
def tw15318007212108986458:=0
def tw16066596358726159346:=0
def tw12725900893357577686:=0
def tw4659444782061363053:=0
def tw17380010185016579327:=0
def tw18269781388765906046:=0
def tw5670642930405960035:=0
def tw5509261791681982277:=0
def tw2851824988237666926:=0
def tw2332537302031451765:=0
def tw7778027143204516290:=0
def tw10871271172420958643:=0
def tw939968698505586302:=0
def tw16930932439918827565:=0
def tw10116935884761180383:=0
def tw9459355635569826907:=0
def tw2563200472885404800:=0
def tw13704295844773497938:=0
def tw7634314354929936200:=0
def tw17974554036987610021:=0
def tw253439085416445835:=0
def tw9577310039450162709:=0
def tw5860110351526930748:=0
def tw16151860727895878526:=0
def tw12116742917775388503:=0
def tw14005120289105747141:=0
def tw17542208288203300346:=0
def tw1170326114346504113:=0
def tw11427304601210498067:=0
def tw9410316655927729801:=0
def tw17566314536248624035:=0
def tw5364372438078064354:=0
def tw9631498880280989755:=0
def tw5739552890960168965:=0
def tw10001930256174197573:=0
def tw7810598518532075330:=0
def tw12739343811083798586:=0
def tw14998311587712820846:=0
def tw2457447882615540479:=0
def tw12612001674820995639:=0
def tw7275176732181773451:=0
def tw10176335327409036766:=0
def tw9716619393908344121:=0
def tw17869735722018099983:=0
def tw14366468340878876014:=0
def tw10811146822585327803:=0
def tw8380209750638889656:=0
def tw5689709716588946253:=0
def tw8761284157470039795:=0
def tw3608259123760285841:=0
def tw6126432677386280868:=0
def tw5397299558826056626:=0
def tw16594623886964008582:=0
def tw10137556507240118618:=0
def tw6857397716462845644:=0
def tw17756158705973559185:=0
def tw12312911695103588405:=0
def tw7332236331625582742:=0
def tw13966784857665393828:=0
def tw15947816262977933695:=0
def tw14470104128934297198:=0
def tw11772018302316395250:=0
def tw4132166808638672871:=0
def tw15690376258381212776:=0
def tw16526508962554862536:=0
def tw13259377702273239915:=0
def tw10496640261706503766:=0
def tw5903666720687794718:=0
def tw10904812313115324673:=0
def tw3076952285761926266:=0
def tw18071053971504084621:=0
def tw14065201504589726015:=0
def tw6066377894596449888:=0
def tw11252501974119818311:=0
def tw818346997484979595:=0
def tw1743948161602237866:=0
def tw2276947282724441784:=0
def tw12831543333602325428:=0
def tw82333242161744360:=0
def tw3609849258366703762:=0
def tw8054155547010663156:=0
def tw736125176295758706:=0
def tw8275849388591521250:=0
def tw18209613764560137854:=0
def tw1466478074616913756:=0
def tw13153728547300580867:=0
def tw3165558220474614783:=0
def tw2810779300128777525:=0
def tw16261119415590788670:=0
def tw8607860035254065141:=0
def tw3978271030257608462:=0
def tw1847043233196425401:=0
def tw6366477014972967155:=0
def tw702560552764110559:=0
def tw7160100776891229771:=0
def tw6892667578606247903:=0
def tw2154760265255754594:=0
def tw687227017655848232:=0
def tw18243621865994641508:=0
def tw906485052627004769:=0
def tw3399276697085645627:=0
def tw9809308928535689339:=0
def tw8575509904222784894:=0
def tw1717279283633159763:=0
def tw10236488485053958355:=0
def tw18109573750396346424:=0
def tw6793192378313533725:=0
def tw6278803917806229088:=0
def tw15262271572539804217:=0
def tw13887459919860578706:=0
def tw9730853984410383346:=0
def tw5340545014263653473:=0
def tw13078494382374945095:=0
def tw8571377020310662484:=0
def tw8560653618109010725:=0
def tw16878102834901772871:=0
def tw1548380428878915895:=0
def tw6828680210174798927:=0
def tw13787458815801443550:=0
def tw10746613669685839271:=0
def tw12740321561119488274:=0
def tw4222050317903044063:=0
def tw11898017837730824259:=0
def tw11755706636124085738:=0
def tw4874946098401320925:=0
def tw17018300833487851385:=0
def tw14857061462481945280:=0
def tw12182999980014920021:=0
def tw1078218953575968367:=0
def tw6683978614750683932:=0
def tw2112458580871630940:=0
def tw1855223199745466481:=0
def tw1464633195320955752:=0
def tw8169545372923983983:=0
def tw8930493722254295622:=0
def tw5183695425193741955:=0
def tw1011061200056873904:=0
def tw6481962449408039357:=0
def tw16083922169531387695:=0
def tw1959820803880057407:=0
def tw723278181857498063:=0
def tw12655181971792939132:=0
def tw3675305941494729231:=0
def tw1210091338066775958:=0
def tw11953940529020054837:=0
def tw11495572080917120918:=0
def tw3869909342182250145:=0
def tw5416615114393744448:=0
def tw12716982506811113671:=0
def tw4452654639067603788:=0
def tw3543895891502323958:=0
def tw15366814927812212285:=0
def tw14189012824176370155:=0
def tw16140163491436697819:=0
def tw786106821848412558:=0
def tw13206049408727146639:=0
def tw11920386533401520414:=0
def tw10993688509052975087:=0
def tw17745823390078392526:=0
def tw13421016293421865824:=0
def tw16097683897340320038:=0
def tw1790092972848967563:=0
def tw18151534269315237980:=0
def tw6125108977451766624:=0
def tw2094851017556564354:=0
def tw1770736705936960059:=0
def tw16510766006055664014:=0
def tw16449827722201391311:=0
def tw15359436848112003813:=0
def tw11481151397685789695:=0
def tw10935882460421779545:=0
def tw5417385555988591545:=0
def tw4604822378044880942:=0
def tw16965667930973168284:=0
def tw15070129950151915117:=0
def tw10684183498331485827:=0
def tw4127134173289769111:=0
def tw10446363195734394508:=0
def tw10089214194024694815:=0
def tw3149431427955478147:=0
def tw769554988804217143:=0
def tw6281750250891091926:=0
def tw18390583327889764439:=0
def tw1692952249816614837:=0
def tw13044173077543797981:=0
def tw15965213240783038699:=0
def tw11768340609342095133:=0
def tw6548202111806991294:=0
def tw16880811219937679981:=0
def tw14036924342938526594:=0
def tw17977996514173753988:=0
def tw15954523768974425152:=0
def tw1541745239016197540:=0
def tw12400652492434540759:=0
def tw4478578120631355455:=0
def tw383905763415659204:=0
def tw1388974603058818161:=0
def tw16181271285546919894:=0
def tw18382648380871828084:=0
def tw570830734938344026:=0
def tw10302553777414342629:=0
def tw3893097229509298357:=0
def tw15749218061359241907:=0
def tw9302879245537091477:=0
def tw6034021827674373051:=0
def tw14412871811187139427:=0
def tw13599781751689416235:=0
def tw2104537794278684758:=0
def tw8223237116435672012:=0
def tw7051020395923385051:=0
def tw9825193603387919025:=0
def tw18117503569158854414:=0
def tw13969333369732106394:=0
def tw13758157301601311520:=0
def tw13897984707053263664:=0
def tw10513321337881460697:=0
def tw10476632804219640750:=0
def tw14737711021162194225:=0
def tw11258987755581344599:=0
def tw15418051203293234625:=0
def tw12364952924652476305:=0
def tw8004276341612502154:=0
def tw6227880832238990768:=0
def tw3923559429642159501:=0
def tw18106102290311676417:=0
def tw8859042203564452845:=0
def tw8317903415712553967:=0
def tw8192354104884572901:=0
def tw11462328450717372871:=0
def tw8106758737680482440:=0
def tw16468921207700713417:=0
def tw13910128520309538034:=0
def tw12211172481603322178:=0
def tw4870007078945179473:=0
def tw14061182544438375299:=0
def tw10781647198789908438:=0
def tw278362442739015871:=0
def tw9824309681443901356:=0
def tw18168665587414443921:=0
def tw11720956129292066738:=0
def tw11234495170015979803:=0
def tw4766992222084743670:=0
def tw195099195515890193:=0
def tw16879074815045981141:=0
def tw16301251888840151773:=0
def tw1213264072344283537:=0
def tw7376894724764778716:=0
def tw214322622552955047:=0
def tw14531686442971931122:=0
def tw12072188267690500427:=0
def tw18422046066369015131:=0
def tw17947555595702578174:=0
def tw12622763499087736789:=0
def tw1689665946801298642:=0
def tw16391798923029392322:=0
def tw15189125784386312964:=0
def tw8296957989503640786:=0
def tw8596884515048423047:=0
def tw74626773323831309:=0
def tw5034348935005998503:=0
def tw3746926646798714859:=0
def tw1964489710462107034:=0
def tw16863835829049703871:=0
def tw16561635127661215748:=0
def tw15740239196472837150:=0
def tw12932176800498978246:=0
def tw12729215607754586271:=0
def tw12328097937035604707:=0
def tw11129605324338960389:=0
def tw10425699536581387450:=0
def tw10104849038914683669:=0
def tw6344066595825729502:=0
def tw7525635170903284956:=0
def tw4235576930132924082:=0
def tw3231181813598995883:=0
def tw996262891247358051:=0
def tw4099270600902251814:=0
def tw10722218351940053503:=0
def tw10443356849741128283:=0
def tw9702753571125546821:=0
def tw6542147947977210841:=0
def tw16669833845162924035:=0
def tw15886718219242117009:=0
def tw13998273306640223755:=0
def tw1309024571137192909:=0
def tw9984607828807357448:=0
def tw987794457040828667:=0
def tw9722278635791307247:=0
def tw9607312033321864940:=0
def tw9560079023737832472:=0
def tw9456909157062389711:=0
def tw9376030543338346056:=0
def tw9366908162216392384:=0
def tw9278149395324734980:=0
def tw9215493600827159771:=0
def tw9137504947270990615:=0
def tw9053187578925844464:=0
def tw8995160821105988108:=0
def tw8992485329807026922:=0
def tw8985336143730746618:=0
def tw8848998560843320370:=0
def tw8780738511490712287:=0
def tw8722273552785891612:=0
def tw8566746192554757487:=0
def tw8498305441748781696:=0
def tw8469192111180286751:=0
def tw8246009911560218033:=0
def tw8154352605944539060:=0
def tw7987598115586235974:=0
def tw79740167370934707:=0
def tw7951870741111557854:=0
def tw7943014525204939848:=0
def tw7906727135480869398:=0
def tw7737350534691462874:=0
def tw7680295639529032409:=0
def tw7474460975119562143:=0
def tw7345168112677501984:=0
def tw7160252060073655567:=0
def tw7135569002953257366:=0
def tw704335839502382258:=0
def tw6895302004987062578:=0
def tw685282846558083786:=0
def tw6702536904060261735:=0
def tw6544027806665918964:=0
def tw6508747087233855012:=0
def tw6505057347965855667:=0
def tw645064637651392820:=0
def tw6283796517288786972:=0
def tw6221937855350476653:=0
def tw6194968687662502255:=0
def tw6119483466362494341:=0
def tw6063678477841259047:=0
def tw6011692700709511073:=0
def tw5746217749335601142:=0
def tw5315411683351671389:=0
def tw5204963818816313569:=0
def tw5203807396650760035:=0
def tw5171757662029783709:=0
def tw501235667121122475:=0
def tw4964818898171923673:=0
def tw4917752863339332204:=0
def tw4691475482202905325:=0
def tw4550945918898383612:=0
def tw4406644130223562741:=0
def tw4281177448948939346:=0
def tw4168128617854774590:=0
def tw411504599191380970:=0
def tw4037487353768186668:=0
def tw3757494499498470567:=0
def tw3656394385319526952:=0
def tw3554418184376222650:=0
def tw3498706854800788389:=0
def tw341313423563116808:=0
def tw3340238976054284637:=0
def tw331650477730432085:=0
def tw32346533777018991:=0
def tw3223385444028811827:=0
def tw3167399547881377928:=0
def tw3071977783659615648:=0
def tw303320115286108476:=0
def tw3020699170696842389:=0
def tw3019982437187843621:=0
def tw2927286453492007826:=0
def tw2904180179057902856:=0
def tw2870934003134084555:=0
def tw2843454323614610728:=0
def tw2816605681950960421:=0
def tw2784828720214905887:=0
def tw2739422084705924326:=0
def tw2735489689763595270:=0
def tw2659820126873523324:=0
def tw2591626366210912943:=0
def tw2393206746105557123:=0
def tw2358218372026454541:=0
def tw233730237224484371:=0
def tw2142517626294726286:=0
def tw2110491790682912059:=0
def tw2097532398860093595:=0
def tw18433104343864644503:=0
def tw18300423996443167733:=0
def tw18173693823789181530:=0
def tw18077644614961930490:=0
def tw17984149667726682677:=0
def tw17961143147931566906:=0
def tw17530437063829162060:=0
def tw17382562279005926228:=0
def tw17345057183201671293:=0
def tw17329221828207569552:=0
def tw17221283339821292301:=0
def tw1721060486100578681:=0
def tw17027326309601481606:=0
def tw16935625623822575540:=0
def tw16757707809338327531:=0
def tw16612832628958007176:=0
def tw16546435540716635113:=0
def tw16540889870289024539:=0
def tw16450538710503876837:=0
def tw16199848016912014829:=0
def tw1615341685555929580:=0
def tw16085474346294128778:=0
def tw15708272724845444434:=0
def tw15653050581470575634:=0
def tw15652418992954074038:=0
def tw15577100815004257149:=0
def tw15574364104378081444:=0
def tw1553333366892037895:=0
def tw1552122789421750015:=0
def tw15505203022898639485:=0
def tw1526623909381051014:=0
def tw15078829279264774439:=0
def tw15075052389398879526:=0
def tw15001154366415407022:=0
def tw14975918514139184365:=0
def tw14920411695927277351:=0
def tw14912978576180361190:=0
def tw14627246580584817983:=0
def tw14603111434598913951:=0
def tw14539990868837675788:=0
def tw1444662876353677303:=0
def tw14340062668973102825:=0
def tw13951845010312699197:=0
def tw13826228253891574237:=0
def tw13501203316976708886:=0
def tw13460365854398849015:=0
def tw13367767175738124004:=0
def tw13356522526595057580:=0
def tw13000585800237181668:=0
def tw12948524443630742071:=0
def tw12920202215142600352:=0
def tw12789907312290786750:=0
def tw12384264925270756172:=0
def tw12287164344076452798:=0
def tw12140306232122740167:=0
def tw11953932612544020848:=0
def tw11808465536536037232:=0
def tw11734557354807453492:=0
def tw11711107691319356501:=0
def tw1162571322890962533:=0
def tw1162521094675550819:=0
def tw11321420217510298249:=0
def tw11257565731676510027:=0
def tw11218592630720064965:=0
def tw11188183399978789613:=0
def tw11144113335984419362:=0
def tw11072668553608009303:=0
def tw11036090280957392784:=0
def tw10986874169654116549:=0
def tw10832079235007979850:=0
def tw10602051615980178986:=0
def tw10579600321752446306:=0
def tw10546710757432502769:=0
def tw1052545891969326595:=0
def tw10504039541952963410:=0
def tw10432565562868016386:=0
def tw1026518105905153135:=0
def tw10235239711989334848:=0
def tw10127503283633831513:=0
end
end PySem.W.Fast
mutual
example:=[]
abbrev q0A:=PySem.Value->PySem.Shared->Prop
abbrev q0B:=PySem.W.Frag
abbrev q0C:=PySem.Str->Option PySem.Value
def Α:=@List.mem_cons
def Β:=@PySem.wpAny_bind
def Γ:=@List.not_mem_nil
def Δ:=@List.length_map
def Ε:=@List.size_toArray
def Ζ:=@PySem.Heap.get?_push_of_some
def Η:=@List.length_cons
def Θ:=@PySem.wpAny_pure
def Ι:=@Nat.le_refl
def Κ:=@List.mem_append
def Λ:=@List.getElem?_eq_some_iff
def Μ:=@PySem.Heap.lt_size
def Ν:=@List.length_append
def Ξ:=@List.getElem?_cons_zero
def Ο:=@Option.some.injEq
def Ρ:=@Nat.ne_of_lt
def Τ:=@or_false
def Υ:=@Nat.lt_of_lt_of_le
def Φ:=@Bool.false_ne_true
def Χ:=@PySem.Heap.get?_push_size
def Ψ:=@List.mem_append_right
def Ω:=@List.cons_append
def ϐ:=@Nat.le_trans
def ϑ:=@List.length_nil
def ϒ:=@List.getElem?_map
def ϓ:=@List.map_cons
def ϔ:=@List.mem_cons_of_mem
def ϕ:=@List.getElem?_eq_getElem
def ϖ:=@Option.some.inj
def ϗ:=@Bool.false_eq_true
def Ϙ:=@List.nodup_cons
def ϙ:=@List.nodup_append
def Ϛ:=@List.mem_filter
def ϛ:=@Option.map_eq_some_iff
def Ϝ:=@Nat.lt_irrefl
def ϝ:=@List.append_nil
def Α0:=@List.nil_append
def Α1:=@List.mem_of_getElem?
def Α2:=@List.length_filter_le
def Α3:=@List.take_length
def Α4:=@PySem.wpAny_mono
def Α5:=@Nat.zero_le
def Α6:=@PySem.wpAny_holding
def Α7:=@List.map_append
def Α8:=@List.length_take
def Α9:=@beq_eq_false_iff_ne
def Β0:=@PySem.Calls.callWith_builtin
def Β1:=@if_false
def Β2:=@Option.toList_some
def Β3:=@List.mem_map
def Β4:=@decide_eq_false
def Β5:=@PySem.wpAny_truthy_bool
def Β6:=@PySem.wpAny_newObj_type
def Β7:=@PySem.F.called_set
def Β8:=@Option.join_some
def Β9:=@List.take_add_one
def Γ0:=@Array.length_toList
def Γ1:=@Nat.zero_add
def Γ2:=@PySem.wpAny_setState_of
def Γ3:=@Bool.and_eq_true
def Γ4:=@PySem.PassesOwn.never
def Γ5:=@if_true
def Γ6:=@PySem.F.slot_dict_get
def Γ7:=@Array.getElem?_toList
def Γ8:=@Array.getElem?_eq_getElem
def Γ9:=@List.find?_cons
def Δ0:=@PySem.Calls.spliced_cons
def Δ1:=@Nat.le_succ
def Δ2:=@PySem.F.slot_list_remove
def Δ3:=@Option.isSome_iff_exists
def Δ4:=@PySem.mem_of_lookup
def Δ5:=@PySem.F.plainAttrs_dict
def Δ6:=@PySem.Calls.evalArgs_plain
def Δ7:=@Bool.eq_iff_iff
def Δ8:=@List.any_cons
def Δ9:=@decide_eq_true_eq
def Ε0:=@PySem.sizeLine_eq
def Ε1:=@PySem.call_meetsIn
def Ε2:=@List.getD_eq_getElem?_getD
def Ε3:=@List.pairwise_append
def Ε4:=@PySem.wpAny_passesOwn
def Ε5:=@List.all_eq_true
def Ε6:=@List.pairwise_iff_getElem
def Ε7:=@List.getElem?_eq_none_iff
def Ε8:=@List.getElem?_append_left
def Ε9:=@PyProof.Rows.F.plain_set_update_loop
def Ζ0:=@List.take_succ_cons
def Ζ1:=@PySem.Around.under_plainId
end
namespace L2
open PySem PySem.Spec PyProof.Rows
variable{C a b:Addr}{A:Around}{g':Array GenState}{op:CmpOp}{c e tg:Expr}{fd:FuncData}{base h:Heap}{Wj:List (Addr×Obj)}{kw:List (Str×Value)}{ch fp:List Addr}{outer:List Env}{es:List Expr}{body:List Stmt}{ps:List Str}{us:List Value}{M:Model}{i k n t':Nat}{o:Obj}{pos:Pos}{P:Program}{scope:Scope}{pl:Sem Bool}{s s':Shared}{x:Str}{Q:Unit->Shared->Prop}{u:Value}{f:Value->Value->Sem Value}{w:World}{E:q0A}{K:q0B}{mg:q0C}
mutual
example:=[]
inductive Key where
 | inl (i:Int)|inr (x:Str)|no
 deriving DecidableEq
def Ag:Key->Value->Bool
 | .inl k,v=>Value.isInt k v
 | .inr x,v=>Value.isStrOf x v
 | .no,.none=>true
 | .no,_=>false
def VO(w:World):Key->Int
 | .inl k=>hashInt k
 | .inr x=>hashStr w x
 | .no=>reduceHash 0xFCA86420
theorem eE:∀ {k:Key} {v:Value},Ag k v=true->(∃ i t,k=Key.inl i/\v=Value.int i t)\/(∃ x t,k=Key.inr x/\v=Value.str x t)\/(k=Key.no/\v=Value.none)
 | .inl i,v,h=>by
  obtain⟨t,e⟩:=Value.isInt_shape (k:=i) (v:=v) h;exact .inl ⟨i,t,rfl,e⟩
 | .inr x,v,h=>by
  obtain⟨t,e⟩:=Value.isStrOf_shape (x:=x) (v:=v) h;exact .inr (.inl ⟨x,t,rfl,e⟩)
 | .no,v,h=>by
  cases v<;>first|exact .inr (.inr ⟨rfl,rfl⟩)|cases h
def Ia(i:Int)(t:Tok):Ag (.inl i) (.int i t)=true:=by simp[Ag,Value.isInt]
def Ib(x:Str)(t:Tok):Ag (.inr x) (.str x t)=true:=by simp[Ag,Value.isStrOf]
theorem Rh(a b:Int):decide (Key.inl a=Key.inl b)=(a==b):=by
 by_cases e:a=b
 ·subst e;simp
 ·have h:¬ Key.inl a=Key.inl b:=fun q=>e (Key.inl.inj q);rw[Β4 h];exact(Α9.mpr e).symm
theorem Ri(a b:Str):decide (Key.inr a=Key.inr b)=decide (a=b):=by
 by_cases e:a=b
 ·subst e;simp
 ·have h:¬ Key.inr a=Key.inr b:=fun q=>e (Key.inr.inj q);rw[Β4 h,Β4 e]
def bJ(prog:Program)(w:World):PySem.KeyKind prog w Key where
 is:=Ag
 hash:=VO w
 inj:=fun v a b ha hb=>by
  rcases eE ha with⟨i,t,rfl,rfl⟩|⟨x,t,rfl,rfl⟩|⟨rfl,rfl⟩<;>rcases eE hb with⟨j,u,rfl,e⟩|⟨y,u,rfl,e⟩|⟨rfl,e⟩ <;>
   first|rfl|(cases e<;>rfl)
 byValue:=fun k v h=>by
  rcases eE h with⟨i,t,rfl,rfl⟩|⟨x,t,rfl,rfl⟩|⟨rfl,rfl⟩<;>rfl
 pyHash:=fun hv h=>by
  rcases eE hv with⟨i,t,rfl,rfl⟩|⟨x,t,rfl,rfl⟩|⟨rfl,rfl⟩
  ·exact wpAny_pyHash_int h
  ·exact wpAny_pyHash_str h
  ·exact PySem.W.pyHash_slot (T:="NoneType") rfl F.slot_NoneType_hash F.entry_NoneType_hash (F.args_NoneType_hash_1 _) (beq_builtin_none _) (.inl rfl) (Β (Θ (Β (wpAny_mkInt (Θ ⟨_,_,rfl,h⟩)))))
 eqBool:=fun hu hv h=>by
  rcases eE hu with⟨i,t,rfl,rfl⟩|⟨x,t,rfl,rfl⟩|⟨rfl,rfl⟩<;>rcases eE hv with⟨j,u,rfl,rfl⟩|⟨y,u,rfl,rfl⟩|⟨rfl,rfl⟩
  ·rw[Rh] at h;exact wpAny_eqBool_int h
  ·exact SeqAt.EqAt.int_str i t y u _ _ _ _ h
  ·exact SeqAt.EqAt.int_none i t _ _ _ _ h
  ·exact SeqAt.EqAt.str_int x t j u _ _ _ _ h
  ·rw[Ri] at h;exact wpAny_eqBool_str h
  ·exact SeqAt.EqAt.str_none x t _ _ _ _ h
  ·exact SeqAt.EqAt.none_int j u _ _ _ _ h
  ·exact SeqAt.EqAt.none_str y u _ _ _ _ h
  ·exact SeqAt.EqAt.same .none _ _ _ _ h
 «strs»:=fun k x t v h=>by
  rcases eE h with⟨i,u,rfl,e⟩|⟨y,u,rfl,e⟩|⟨rfl,e⟩
  ·exact nomatch e
  ·injection e with e1 _
   subst e1;cases v<;>rfl
  ·exact nomatch e
def CQ(prog:Program)(w:World)(i:Int)(t:Tok):(bJ prog w).is (.inl i) (.int i t)=true:=Ia i t
def CS(prog:Program)(w:World)(x:Str)(t:Tok):(bJ prog w).is (.inr x) (.str x t)=true:=Ib x t
inductive V where
 | Wl|bl (b:Bool)|int (i:Int)|str (x:Str)|byt (b:Array UInt8)|flt (b:UInt64)|ref (a:Addr)|ty (n:String)
 deriving DecidableEq
end
variable{vs xs:List V}{v:V}
mutual
example:=[]
def bN:V->Value->Prop
 | .Wl,u=>u=Value.none
 | .bl b,u=>u=Value.bool b
 | .int i,u=>∃ t,u=Value.int i t
 | .str x,u=>∃ t,u=Value.str x t
 | .byt b,u=>∃ t,u=Value.bytes b t
 | .flt b,u=>∃ t,u=Value.float b t
 | .ref a,u=>u=Value.ref a
 | .ty n,u=>u=Value.type n
abbrev Wq:List V->List Value->Prop:=Paired bN
def Wq.length(r:Wq xs us):xs.length=us.length:=Paired.length r
theorem Wq.get:∀ {xs:List V} {us:List Value} {i:Nat} {x:V},Wq xs us->xs[i]?=some x->∃ u,us[i]?=some u/\bN x u
 | _,_,_,_,.nil,e=>by simp at e
 | _,_,0,_,.cons r _,e=>by simp at e;subst e;exact⟨_,rfl,r⟩
 | _,_,i+1,x,.cons _ t,e=>by
  obtain⟨u,h1,h2⟩:=Wq.get (i:=i) (x:=x) t (by simpa using e);exact⟨u,by simpa using h1,h2⟩
theorem Wq.set{x:V}{u:Value}(r:bN x u):∀ {xs:List V} {us:List Value} (i:Nat),Wq xs us->Wq (xs.set i x) (us.set i u)
 | _,_,_,.nil=>.nil
 | _,_,0,.cons _ t=>.cons r t
 | _,_,i+1,.cons q t=>.cons q (Wq.set r i t)
def Wq.append{ys:List V}{ws:List Value}(h:Wq xs us)(s:Wq ys ws):Wq (xs++ys) (us++ws):=by
 induction h with
 | nil=>exact s
 | cons r _ ih=>exact .cons r ih
theorem Wq.take:∀ {xs:List V} {us:List Value} (n:Nat),Wq xs us->Wq (xs.take n) (us.take n)
 | _,_,0,_=>.nil
 | _,_,_+1,.nil=>.nil
 | _,_,n+1,.cons r t=>.cons r (Wq.take n t)
theorem Wq.drop:∀ {xs:List V} {us:List Value} (n:Nat),Wq xs us->Wq (xs.drop n) (us.drop n)
 | _,_,0,r=>r
 | _,_,_+1,.nil=>.nil
 | _,_,n+1,.cons _ t=>Wq.drop n t
theorem Wq.none_of:∀ {xs:List V} {us:List Value} {i:Nat},Wq xs us->xs[i]?=none->us[i]?=none:=fun {xs us i} r e=>by
 have h1:=r.length;have h2:xs.length<=i:=Ε7.mp e;exact Ε7.mpr (by omega)
def kW:Option V->Option Value->Prop
 | some v,some u=>bN v u
 | none,none=>True
 | _,_=>False
def KV{κ:Type}:List (κ×V)->List (κ×Value)->Prop:=Paired fun(p:κ×V) (q:κ×Value)=>p.1=q.1/\bN p.2 q.2
def kV:Key->V
 | .inl i=>.int i
 | .inr x=>.str x
 | .no=>.Wl
inductive HO where
 /-- a list -/
 | lst (xs:List V)
 /-- a tuple (never changes) -/
 | tup (xs:List V)
 /-- a dict whose keys are ints and texts;one whose keys are tuples of ints and texts (the empty one is both) -/
 | dK (kvs:List (Key×V))|dT (kvs:List (List Key×V))
 /-- a set of ints: Wn members,Wn size -/
 | set (S:Int->Bool) (n:Nat)
 /-- an instance of the class at C,Wn dict at dx,Wn attributes -/
 | ins (C dx:Addr) (fs:List (Str×V))
 /-- the dict of the instance at x -/
 | own (x:Addr)
 /-- the dict of an exception -/
 | xd (fs:List (Str×V))
 /-- a bound method,f of x -/
 | met (f x:Addr)
 /-- a range object lo,lo+1,.. below hi -/
 | rng (lo hi:Int)
 /-- a thing that is known to the object (the script;a dict while a loop walks it): read,never written while it is so -/
 | WT (o:Obj) (u:HO)
 /-- a code object's table -/
 | Z4 (ps:Array Value)
 /-- any other thing,by what is true of Wn one object (a def of acN own: SetO a S n:=HO.ext fun h=>..) -/
 | ext (φ:Heap->Prop)
abbrev Hp:=Addr->Option HO
end
variable{H:Hp}
mutual
example:=[]
def Wk(H:Hp)(a:Addr)(o:HO):Hp:=fun b=>if b=a then some o else H b
def aA{o:HO}:Wk H a o a=some o:=by unfold Wk;rw[if_pos rfl]
def aD{o:HO}(h:b≠a):Wk H a o b=H b:=by unfold Wk;rw[if_neg h]
def cL{o u:HO}(h:H a=some o)(h':H b=some u)(d:o≠u):a≠b:=by
 intro e;subst e;rw[h] at h';exact d (ϖ h')
def aF{o:HO}(h:H a=some o)(h':H b=none):a≠b:=by
 intro e;subst e;rw[h] at h';cases h'
end
section
variable(P:Program)(w:World)
noncomputable def dU(H:Hp)(h:Heap)(a:Addr):HO->Prop
  | .lst xs=>xs.length<=sizeLine/\∃(Wn:List Value) (n:Nat),Wq xs Wn/\h.get? a=some {cls:=.type "list",data:=.seq Wn.toArray n}
  | .tup xs=>xs.length<=sizeLine/\∃ Wn:List Value,Wq xs Wn/\IsTup h a Wn.toArray
  | .dK kvs=>kvs.length<=sizeLine/\(a==sysModules)=false/\∃ vs,KV kvs vs/\h.DictOf (bJ P w) a vs
  | .dT kvs=>kvs.length<=sizeLine/\(a==sysModules)=false/\∃ xs:List (List Key×Addr×Value),
      Paired (fun(p:List Key×V) (q:List Key×Addr×Value)=>p.1=q.1/\H q.2.1=some (.tup (p.1.map kV))/\bN p.2 q.2.2) kvs xs /\
      ∃ o es ep,h.get? a=some o/\o.ExactDict/\o.data=.dict es ep/\es.toList=xs.map (entryOfKey (tupleKind (bJ P w)))/\(xs.map (·.1)).Nodup
  | .set S n=>h.SetOf (intKind P w) a S n
  | .ins C dx fs=>H dx=some (.own a)/\fs.length<=1000/\dx≠a/\h.get? a=some (PySem.W.instObj C dx) /\
      ∃ mA,h.Ns1 dx mA/\(∀ f,kW (fs.lookup f) (mA f))/\PySem.Within mA (fs.map (·.1))
  | .own _=>∃ o,h.get? a=some o
  | .xd fs=>∃ mA,h.Ns1 a mA/\∀ f,kW (fs.lookup f) (mA f)
  | .rng lo hi=>∃ t u v,h.get? a=some {cls:=.type "range",data:=.fields #[.int lo t,.int hi u,.int 1 v]}
  | .WT o u=>h.get? a=some o/\dU H h a u
  | .Z4 ps=>h.get? a=some {cls:=.none,data:=.fields ps}
  | .met f x=>h.get? a=some (PySem.W.methodObj (.ref f) (.ref x))
  | .ext φ=>φ h/\(∃ o,h.get? a=some o)/\∀ h1 h2:Heap,φ h1->(∀ o,h1.get? a=some o->h2.get? a=some o)->φ h2
def HOk(H:Hp)(h:Heap):Prop:=∀ a o,H a=some o->dU P w H h a o
end
section
variable{H':Hp}{h':Heap}{o:HO}
mutual
example:=[.inl rfl,.own a,PySem.W.methodObj (.ref f) (.ref y)]
def dU.lt(x:dU P w H h a o):a < h.objs.size:=by
 cases o with
 | lst xs=>obtain⟨_,_,_,_,e⟩:=x;exact Μ e
 | tup xs=>obtain⟨_,_,_,p⟩:=x;exact p.lt
 | dK kvs=>obtain⟨_,_,_,_,o,_,_,e,_⟩:=x;exact Μ e
 | dT kvs=>obtain⟨_,_,_,_,o,_,_,e,_⟩:=x;exact Μ e
 | set S n=>obtain⟨o,_,_,_,e,_⟩:=x;exact Μ e
 | ins C dx fs=>obtain⟨_,_,_,e,_⟩:=x;exact Μ e
 | own y=>obtain⟨_,e⟩:=x;exact Μ e
 | xd fs=>obtain⟨_,⟨_,_,_,e,_⟩,_⟩:=x;exact Μ e
 | rng lo hi=>obtain⟨_,_,_,e⟩:=x;exact Μ e
 | WT ob u=>obtain⟨e,_⟩:=x;exact Μ e
 | Z4 ps=>exact Μ (show h.get? a=some _ from x)
 | met f y=>exact Μ (show h.get? a=some _ from x)
 | ext φ=>obtain⟨_,⟨_,e⟩,_⟩:=x;exact Μ e
theorem Paired.Rm{α β:Type}{F G:α->β->Prop}:∀ {l₁:List α} {l₂:List β},Paired F l₁ l₂->(∀ a b,F a b->G a b)->Paired G l₁ l₂
 | _,_,.nil,_=>.nil
 | _,_,.cons r t,f=>.cons (f _ _ r) (Paired.Rm t f)
def dU.zK(x:dU P w H h a o)(k:∀ b u,(b=a\/H b=some 1e0)->h.get? b=some u->h'.get? b=some u)(ho:∀ b,H b=some 1e0->H' b=some 1e0)(ht:∀ b xs,H b=some (.tup xs)->H' b=some (.tup xs)):dU P w H' h' a o:=by
 induction o with
 | lst xs=>obtain⟨z,Wn,n,r,e⟩:=x;exact⟨z,Wn,n,r,k _ _ 0e0 e⟩
 | tup xs=>obtain⟨z,Wn,r,ob,e,c⟩:=x;exact⟨z,Wn,r,ob,k _ _ 0e0 e,c⟩
 | dK kvs=>obtain⟨z,y,vs,r,ob,es,ep,e,c⟩:=x;exact⟨z,y,vs,r,ob,es,ep,k _ _ 0e0 e,c⟩
 | dT kvs =>
  obtain⟨z,y,xs,r,ob,es,ep,e,c⟩:=x;exact⟨z,y,xs,Paired.Rm r fun p q z=>⟨z.1,ht _ _ z.2.1,z.2.2⟩,ob,es,ep,k _ _ 0e0 e,c⟩
 | set S n=>obtain⟨ob,es,ep,t,e,c⟩:=x;exact⟨ob,es,ep,t,k _ _ 0e0 e,c⟩
 | ins C dx fs =>
  obtain⟨d,z,ne,e,mA,⟨od,es,ep,e2,c⟩,r⟩:=x;exact⟨ho _ d,z,ne,k _ _ 0e0 e,mA,⟨od,es,ep,k _ _ (.inr d) e2,c⟩,r⟩
 | own y=>obtain⟨ob,e⟩:=x;exact⟨ob,k _ _ 0e0 e⟩
 | xd fs=>obtain⟨mA,⟨od,es,ep,e,c⟩,r⟩:=x;exact⟨mA,⟨od,es,ep,k _ _ 0e0 e,c⟩,r⟩
 | rng lo hi=>obtain⟨t,u,v,e⟩:=x;exact⟨t,u,v,k _ _ 0e0 e⟩
 | WT ob u ih=>obtain⟨e,q⟩:=x;exact⟨k _ _ 0e0 e,ih q⟩
 | Z4 ps =>
  have e:h.get? a=some {cls:=.none,data:=.fields ps}:=x;show h'.get? a=some {cls:=.none,data:=.fields ps};exact k a _ 0e0 e
 | met f y =>
  have e:h.get? a=some 2e0:=x;show h'.get? a=some 2e0;exact k a _ 0e0 e
 | ext φ=>obtain⟨p,⟨o,e⟩,st⟩:=x;exact⟨st _ _ p fun o q=>k _ _ 0e0 q,⟨o,k _ _ 0e0 e⟩,st⟩
def HOk.lt(x:HOk P w H h)(e:H a=some o):a < h.objs.size:=(x a o e).lt
def HOk.fresh(x:HOk P w H h)(e:h.objs.size<=a):H a=none:=by
 cases q:H a with
 | none=>rfl
 | some u=>exact absurd (Υ (x.lt q) e) (Ϝ _)
def HOk.kept(x:HOk P w H h)(k:∀ b u,h.get? b=some u->h'.get? b=some u):HOk P w H h':=fun a o e =>
 (x a o e).zK (fun b u _ q=>k b u q) (fun _ q=>q) fun _ _ q=>q
def HOk.laid(x:HOk P w H h)(k:∀ b u,h.get? b=some u->h'.get? b=some u)(hp:h.objs.size<=a)(new:dU P w (Wk H a o) h' a o):HOk P w (Wk H a o) h':=fun b u e=>by
 have hn:=x.fresh hp;by_cases hb:b=a
 ·subst hb;rw[aA] at e;cases e;exact new
 ·rw[aD hb] at e;exact(x b u e).zK (fun c v _ q=>k c v q) (fun c q=>by rw[aD (aF q hn)];exact q) fun c xs q=>by rw[aD (aF q hn)];exact q
end
end
def Rd(H:Hp)(a:Addr)(u:HO):Prop:=H a=some u\/∃ o,H a=some (.WT o u)
def Rd.ok{u:HO}(r:Rd H a u)(x:HOk P w H h):dU P w H h a u:=by
 rcases r with r|⟨o,r⟩
 ·exact x a u r
 ·obtain⟨_,q⟩:=x a _ r;exact q
noncomputable def Mut:Option HO->Prop
 | some (.lst _)=>True
 | some (.dK _)=>True
 | some (.dT _)=>True
 | some (.set _ _)=>True
 | some (.ins _ _ _)=>True
 | some (.ext _)=>True
 | _=>False
section
variable{h':Heap}{x e:Addr}{o':HO}
def HOk.write(ok:HOk P w H h)(mu:Mut (H x))(he:e=x\/H e=some (.own x))(k:∀ b u,b≠e->h.get? b=some u->h'.get? b=some u)(heo:∃ u,h'.get? e=some u)(new:dU P w (Wk H x o') h' x o'):HOk P w (Wk H x o') h':=fun b u q=>by
 have abA:∀ c y,H c=some (.own y)->c≠x:=fun c y r z=>by subst z;rw[r] at mu;exact mu
 have ab8:∀ c xs,H c=some (.tup xs)->c≠x:=fun c xs r z=>by subst z;rw[r] at mu;exact mu
 by_cases hb:b=x
 ·subst hb;rw[aA] at q;cases q;exact new
 ·rw[aD hb] at q;by_cases hbe:b=e
  ·have q':H b=some (.own x):=by
    rcases he with z|z
    ·exact absurd (hbe.trans z) hb
    ·rw[hbe];exact z
   rw[q] at q';cases q';obtain⟨v,hv⟩:=heo;exact⟨v,by rw[hbe];exact hv⟩
  ·refine(ok b u q).zK (fun c v hc r=>k c v ?_ r) (fun c r=>by rw[aD (abA c b r)];exact r) fun c xs r=>by rw[aD (ab8 c xs r)];exact r
   rcases hc with rfl|hc
   ·exact hbe
   ·rintro rfl;rcases he with z|z
    ·exact abA c b hc z
    ·rw[hc] at z;cases z;exact hb rfl
end
structure Un(fs ex:List Addr)(H H':Hp)(h h':Heap):Prop where
 keep:∀ b o,h.get? b=some o->H b=none->b∉fs->b∉ex->h'.get? b=some o
 slot:∀ b o,h.get? b=some o->H b=none->b∈fs->b∉ex->∃ sl,h'.get? b=some {o with slots:=sl}
 free:∀ b o,h.get? b=some o->H b=none->b∉ex->H' b=none
 there:∀ b o,h.get? b=some o->b∉ex->∃ o',h'.get? b=some o'
 zM:∀ b xs,H b=some (.tup xs)->H' b=some (.tup xs)
 vX:∀ b o u,H b=some (.WT o u)->H' b=some (.WT o u)
 zL:∀ b ps,H b=some (.Z4 ps)->∃ more,H' b=some (.Z4 (ps++more))
section
variable{fs ZL ex ex':List Addr}{H1 H2:Hp}{h1 h2 h':Heap}{x e:Addr}{o:HO}
mutual
example:=[(hm b _ q fun z=>z),aF q hn]
def Un.any(u:Un fs ex H H1 h h1){ob:Obj}(q:h.get? b=some ob)(n:H b=none)(hx:b∉ex):∃ sl,h1.get? b=some {ob with slots:=sl}:=by
 by_cases hb:b∈fs
 ·exact u.slot b ob q n hb hx
 ·exact⟨ob.slots,u.keep b ob q n hb hx⟩
def Un.kept(k:∀ b u,h.get? b=some u->h'.get? b=some u):Un fs ex H H h h' :=
 ⟨fun b ob q _ _ _=>k b ob q,fun b ob q _ _ _=>⟨ob.slots,k b ob q⟩,fun _ _ _ n _=>n,fun b ob q _=>⟨ob,k b ob q⟩,fun _ _ q=>q,fun _ _ _ q=>q,fun _ ps q=>⟨#[],by rw[q];simp⟩⟩
def Un.refl:Un fs ex H H h h:=Un.kept fun _ _ q=>q
def Un.laid(k:∀ b u,h.get? b=some u->h'.get? b=some u)(hp:h.objs.size<=a)(hn:H a=none):Un fs ex H (Wk H a o) h h' where
 keep:=fun b u q _ _ _=>k b u q
 slot:=fun b u q _ _ _=>⟨u.slots,k b u q⟩
 free:=fun b u q n _=>by rw[aD (Ρ (Υ (Μ q) hp))];exact n
 there:=fun b u q _=>⟨u,k b u q⟩
 zM:=fun b xs q=>by rw[aD 1e0];exact q
 vX:=fun b u xs q=>by rw[aD 1e0];exact q
 zL:=fun b ps q=>⟨#[],by rw[aD 1e0,q];simp⟩
def Un.write(mu:Mut (H x))(he:e=x\/H e=some (.own x))(k:∀ b u,b≠e->h.get? b=some u->h'.get? b=some u)(heo:∃ u,h'.get? e=some u):Un fs ex H (Wk H x o) h h':=by
 have hx:∀ b,H b=none->b≠x:=fun b n z=>by subst z;rw[n] at mu;exact mu
 have hb:∀ b,H b=none->b≠e:=fun b n z=>by
  subst z;rcases he with r|r
  ·exact hx b n r
  ·rw[n] at r;cases r
 have hm:∀ b u,H b=some u->¬ Mut (some u)->b≠x:=fun b u q nm z=>by subst z;rw[q] at mu;exact nm mu
 refine⟨fun b u q n _ _=>k b u (hb b n) q,fun b u q n _ _=>⟨u.slots,k b u (hb b n) q⟩,fun b u q n _=>by rw[aD (hx b n)];exact n,fun b u q _=>?_,
  fun b xs q=>by rw[aD 0e0];exact q,fun b u xs q=>by rw[aD 0e0];exact q,fun b ps q=>⟨#[],by rw[aD 0e0,q];simp⟩⟩
 by_cases hbe:b=e
 ·subst hbe;exact heo
 ·exact⟨u,k b u hbe q⟩
end
end
mutual
example:=[Addr×Obj,trk h H]
def trk(h:Heap)(H:Hp):List Addr:=(List.range h.objs.size).filter fun a=>(H a).isSome
def Bi(h:Heap)(H:Hp):Heap:=PySem.W.hideAll h 1e0
def HZ(h:Heap)(H:Hp):(Bi h H).objs.size=h.objs.size:=PySem.W.hideAll_size _ _
def Kq(e:h.get? b=some o)(n:H b=none):(Bi h H).get? b=some o :=
 PySem.W.hideAll_get _ e fun hm=>by
  have q:(H b).isSome=true:=(Ϛ.mp hm).2;rw[n] at q;simp at q
def Oc(e:(Bi h H).get? b=some o):h.get? b=some o/\H b=none:=by
 have e':h.get? b=some o:=PySem.W.of_hideAll 1e0 e;refine⟨e',?_⟩;cases q:H b with
 | none=>rfl
 | some x =>
  have hm:b∈trk h H:=Ϛ.mpr ⟨List.mem_range.mpr (Μ e'),by simp[q]⟩;have z:(Bi h H).get? b=none:=PySem.W.hideAll_none 1e0 hm;rw[z] at e;cases e
def MB(g h:Heap)(L:Addr):List 0e0:=(List.range h.objs.size).filterMap fun a=>if a=L\/(g.get? a).isSome=true then none else (h.get? a).map fun o=>(a,o)
def rest(g h:Heap)(L d:Addr):List 0e0:=(MB g h L).filter fun p=>decide (p.1≠d)
structure Mod(K:q0B)(mg:q0C)(base:Heap):Prop where
 kin:K.In base
 glob:base.Ns mainGlobals mg
 blt:∃ mb,base.Ns builtinsNs mb/\∀ x:Str,x≠"__name__"->mb x=bootBuiltins x
 nolimit:base.NoLimit
set_option genInjectivity false in
structure Cx where
 prog:Program
 w:World
 K:q0B
 mg:Str->Option Value
 base:Heap
 A:Around
 N:List Str
 s₀:Shared
 H₀:Hp
 env:Env
 outer:List Env
 stack:List Env
 ex:List Addr
 fn:Str->Bool
 calm:Bool
 pn:List 0e0
 xe:Value->Shared->Prop
end
variable{X:Cx}
mutual
example:=[]
def frs(l:List Env):List Addr:=l.filterMap (·.frame)
abbrev Cx.fs(X:Cx):List Addr:=frs X.outer
def Vis(sc:Scope)(x:Str):Prop:=sc.names.lookup x=some .local\/sc.names.lookup x=some .cell\/sc.names.lookup x=some .free
def Loc(sc:Scope)(x:Str):Prop:=sc.names.lookup x=some .local\/sc.names.lookup x=some .cell
def Look(env:Env)(h:Heap)(m:q0C)(x:Str)(u:Value):Prop :=
 (env.kindOf x=some .local/\m x=some u)\/((env.kindOf x=some .cell\/env.kindOf x=some .free)/\∃ c,env.cells.lookup x=some c/\h.IsCell c (some u))
set_option genInjectivity false in
structure Cx.Ok(X:Cx):Prop where
 mod:Mod X.K X.mg X.base
 kind:X.env.scope.kind=.function
 glob:X.env.globals=mainGlobals
 blt:X.env.builtins=builtinsNs
 above:X.s₀.heap.objs.size<=X.env.locals
 inj:∀ x y c,X.env.cells.lookup x=some c->X.env.cells.lookup y=some c->x=y
 has:∀ x,(X.env.kindOf x=some .cell\/X.env.kindOf x=some .free)->∃ c,X.env.cells.lookup x=some c
 cab:∀ x c,X.fn x=true->X.env.cells.lookup x=some c->X.s₀.heap.objs.size<=c
 hd:X.calm=true->X.A.handled=none
 frames:X.A.frames=some X.stack
 stk:X.stack=X.outer\/(X.stack=X.env::X.outer/\X.env.frame=some X.env.locals)
 exf:∀ b∈X.ex,b≠X.env.locals/\∀ x c,X.env.cells.lookup x=some c->c≠b
 bs:∀ b o,X.base.get? b=some o->X.s₀.heap.get? b=some o/\X.H₀ b=none
 bsz:X.base.objs.size<=X.s₀.heap.objs.size
 CZ:∀ b o,X.base.get? b=some o->b∉X.ex
 HU:∀ b∈X.ex,b∉X.fs
 pX:X.s₀.heap.FunFrames X.base X.outer
 frf:∀ b∈X.fs,X.H₀ b=none
structure Wm(X:Cx)(Wj:List (Addr×Obj))(σ:List (Option V))(H:Hp)(s:Shared):Prop where
 ok:X.Ok
 os:s.os=X.s₀.os
 bare:AllBare s.gens
 base:Un X.fs X.ex X.H₀ H X.s₀.heap s.heap
 loc:∃ m,s.heap.Ns X.env.locals m/\∀(i:Nat) (x:Str) (v:V),X.N[i]?=some x->σ[i]?=some (some v)->Vis X.env.scope x->∃ u,bN v u/\Look X.env s.heap m x u
 cell:∀ x c,X.env.cells.lookup x=some c->∃ v,s.heap.IsCell c v
 free:H X.env.locals=none
 kG:∀ x c,X.env.cells.lookup x=some c->H c=none
 pin:∀ p∈X.pn++Wj,s.heap.get? p.1=some p.2/\H p.1=none/\p.1≠X.env.locals/\p.1∉X.fs/\∀ v,p.2.data≠.cell v
 Ws:HOk X.prog X.w H s.heap
 len:σ.length=X.N.length
end
section
variable{σ:List (Option V)}{H':Hp}{h':Heap}
mutual
example:=[(by simp),Υ (Μ e) I.ok.above,Z0 b o e hx,Ρ (Υ (Μ e) (I.ok.cab x c hfn hc)),(b∈X.ex\/X.s₀.heap.objs.size<=b),I.base.keep b o e n hb hx,(fun z=>hc (by simp[z])),I.base.free b o e n hx,I.kG x c e,storeName X.env x u,σ.set i (some v),I.ok.CZ b o e,frs X.stack,I.cne x c e,(fun _ q=>q),Ne.symm hj,neL b o e,cne y c e]
def Cx.Ok.VQ(ok:X.Ok)(e:X.base.get? b=some o):b∉X.fs:=fun hb=>by
 have:=(ok.pX.mem hb).1;rw[e] at this;cases this
def Wm.bs(I:Wm X Wj σ H s):∀ b o,X.base.get? b=some o->s.heap.get? b=some o/\H b=none:=fun b o e =>
 ⟨I.base.keep b o (I.ok.bs b o e).1 (I.ok.bs b o e).2 (I.ok.VQ e) 1e1,I.base.free b o (I.ok.bs b o e).1 (I.ok.bs b o e).2 1e1⟩
def Wm.bk(I:Wm X Wj σ H s):∀ b o,X.base.get? b=some o->s.heap.get? b=some o:=fun b o e=>(I.bs b o e).1
def Wm.mod(I:Wm X Wj σ H s):Mod X.K X.mg X.base:=I.ok.mod
def Wm.kIn(I:Wm X Wj σ H s):X.K.In s.heap:=I.ok.mod.kin.keeps I.bk
def Wm.fr(I:Wm X Wj σ H s):∃ m,Fr X.base X.env.locals s.heap m :=
 let ⟨m,hn,_⟩:=I.loc
 ⟨m,hn,I.bk,ϐ I.ok.bsz I.ok.above⟩
def Wm.lt(I:Wm X Wj σ H s):X.env.locals < s.heap.objs.size:=let ⟨_,hn,_⟩:=I.loc;hn.lt
def Wm.sz(I:Wm X Wj σ H s):X.s₀.heap.objs.size<=s.heap.objs.size:=ϐ I.ok.above (Nat.le_of_lt I.lt)
def Wm.Rr(I:Wm X Wj σ H s)(h:s.heap.objs.size<=a):a∉X.fs:=fun hb=>by
 obtain⟨_,o,ho,_⟩:=I.ok.pX.mem hb;exact absurd (Υ (Μ ho) (ϐ I.sz h)) (Ϝ _)
def Wm.cne(I:Wm X Wj σ H s):∀ x c,X.env.cells.lookup x=some c->c≠X.env.locals:=fun x c e z=>by
 obtain⟨v,o,ho,hd⟩:=I.cell x c e;obtain⟨m,⟨o',es,ep,Yd,hd',_⟩,_⟩:=I.loc;rw[z,Yd] at ho;cases ho;rw[hd'] at hd;cases hd
def Wm.pX(I:Wm X Wj σ H s):s.heap.FunFrames X.base X.outer:=by
 have all:∀(l:List Env),(∀ b∈frs l,b∈X.fs)->X.s₀.heap.FunFrames X.base l->s.heap.FunFrames X.base l:=by
  intro l
  induction l with
  | nil=>intro _ _;trivial
  | cons env r ih =>
   intro hs hl;obtain⟨hk,⟨L,o,hf,hn,ho,hd⟩,hr⟩:=hl;have hL:L∈X.fs:=hs L (by unfold frs;rw[List.filterMap_cons,hf];exact List.mem_cons_self);obtain⟨sl,e⟩:=I.base.slot L o ho (I.ok.frf L hL) hL fun z=>I.ok.HU L z hL;exact⟨hk,⟨L,_,hf,hn,e,hd⟩,ih (fun b hb=>hs b (by unfold frs;rw[List.filterMap_cons,hf];exact ϔ _ hb)) hr⟩
 exact all X.outer (fun _ hb=>hb) I.ok.pX
theorem Wm.stack(I:Wm X Wj σ H s):s.heap.FunFrames X.base X.stack:=by
 rcases I.ok.stk with e|⟨e,hf⟩
 ·rw[e];exact I.pX
 ·rw[e];obtain⟨m,hn,_⟩:=I.loc;refine .cons (by rw[I.ok.kind];decide) hf hn ?_ I.pX;exact Heap.get?_none_of_le (ϐ I.ok.bsz I.ok.above)
def Wm.pF(I:Wm X Wj σ H s):∀ b∈frs X.stack,b∈X.env.locals::X.fs:=fun b hb=>by
 rcases I.ok.stk with e|⟨e,hf⟩
 ·rw[e] at hb;exact ϔ _ hb
 ·rw[e] at hb;unfold frs at hb;rw[List.filterMap_cons,hf] at hb;exact hb
def Wm.BS(I:Wm X Wj σ H s):∀ b∈frs X.stack,H b=none:=fun b hb=>by
 rcases Α.mp (I.pF b hb) with e|hb
 ·rw[e];exact I.free
 ·obtain⟨_,o,ho,_⟩:=I.ok.pX.mem hb;exact I.base.free b o ho (I.ok.frf b hb) fun z=>I.ok.HU b z hb
def Wm.step{d':Drawn}(I:Wm X Wj σ H s)(Zg:∀ b∈ch,4e0/\b≠X.env.locals/\(∀ x c,X.env.cells.lookup x=some c->c≠b)/\∀ p∈X.pn++Wj,p.1≠b)(keep:∀ b o,b≠X.env.locals->b∉X.fs->b∉ch->s.heap.get? b=some o->H b=none->h'.get? b=some o)(slot:∀ b o,b≠X.env.locals->b∈X.fs->b∉ch->s.heap.get? b=some o->H b=none->∃ sl,h'.get? b=some {o with slots:=sl})(free:∀ b o,b∉ch->s.heap.get? b=some o->H b=none->H' b=none)(there:∀ b o,b∉ch->s.heap.get? b=some o->∃ o',h'.get? b=some o')(zM:∀ b xs,H b=some (.tup xs)->H' b=some (.tup xs))(vX:∀ b o u,H b=some (.WT o u)->H' b=some (.WT o u))(zL:∀ b ps,H b=some (.Z4 ps)->∃ more,H' b=some (.Z4 (ps++more)))(ns:∀ m,s.heap.Ns X.env.locals m->h'.Ns X.env.locals m)(Ws:HOk X.prog X.w H' h')(hg:AllBare g') : Wm X Wj σ H' {s with heap:=h',gens:=g',drawn:=d',toks:=t'}:=by
 have neL:∀ b o,X.s₀.heap.get? b=some o->b≠X.env.locals:=fun b o e=>Ρ 1e0;have Z0:∀ b o,X.s₀.heap.get? b=some o->b∉X.ex->b∉ch:=fun b o e hx hb=>by
  rcases(Zg b hb).1 with z|z
  ·exact hx z
  ·exact absurd (Υ (Μ e) z) (Ϝ _)
 have cellK:∀ x c,X.env.cells.lookup x=some c->∀ v,s.heap.IsCell c v->h'.IsCell c v:=fun x c e v ⟨o,ho,hd⟩=>by
  have nch:c∉ch:=fun z=>(Zg c z).2.2.1 x c e rfl;by_cases hc:c∈X.fs
  ·obtain⟨sl,q⟩:=slot c o 3e1 hc nch ho 8e0;exact⟨_,q,hd⟩
  ·exact⟨o,keep c o 3e1 hc nch ho 8e0,hd⟩
 refine⟨I.ok,I.os,hg,⟨fun b o e n hb hx=>?_,fun b o e n hb hx=>?_,fun b o e n hx=>?_,fun b o e hx=>?_,fun b xs e=>zM b xs (I.base.zM b xs e),fun b o xs e=>vX b o xs (I.base.vX b o xs e),fun b ps e=>?_⟩,?_,fun x c e=>?_,?_,fun x c e=>?_,fun p hp=>?_,Ws,I.len⟩
 ·exact keep b o 6e1 hb 2e0 5e0 7e0
 ·obtain⟨sl,e1⟩:=I.base.slot b o e n hb hx;obtain⟨WM,e2⟩:=slot b _ 6e1 hb 2e0 e1 7e0;exact⟨WM,e2⟩
 ·obtain⟨o',e1⟩:=I.base.there b o e hx;exact free b o' 2e0 e1 7e0
 ·obtain⟨o',e1⟩:=I.base.there b o e hx;exact there b o' 2e0 e1
 ·obtain⟨m1,e1⟩:=I.base.zL b ps e;obtain⟨m2,e2⟩:=zL b _ e1;exact⟨m1++m2,by rw[e2,Array.append_assoc]⟩
 ·obtain⟨m,hn,hl⟩:=I.loc;refine⟨m,ns m hn,fun i x v e1 e2 e3=>?_⟩;obtain⟨u,r,l⟩:=hl i x v e1 e2 e3;refine⟨u,r,?_⟩;rcases l with l|⟨k,c,e,z⟩
  ·exact .inl l
  ·exact .inr ⟨k,c,e,cellK x c e _ z⟩
 ·obtain⟨v,z⟩:=I.cell x c e;exact⟨v,cellK x c e v z⟩
 ·obtain⟨m,⟨o,_,_,ho,_⟩,_⟩:=I.loc;exact free _ o (fun z=>(Zg _ z).2.1 rfl) ho I.free
 ·obtain⟨v,o,ho,hd⟩:=I.cell x c e;exact free c o (fun z=>(Zg c z).2.2.1 x c e rfl) ho 8e0
 ·obtain⟨e,n,ne,nf,d⟩:=I.pin p hp;have nch:p.1∉ch:=fun z=>(Zg p.1 z).2.2.2 p hp rfl;exact⟨keep p.1 p.2 ne nf nch e n,free p.1 p.2 nch e n,ne,nf,d⟩
def Wm.un(I:Wm X Wj σ H s)(u:Un X.fs [] H H' s.heap h')(Ws:HOk X.prog X.w H' h'):Wm X Wj σ H' {s with heap:=h',toks:=t'}:=by
 obtain⟨m,⟨o,es,ep,ho,r⟩,_⟩:=id I.loc;obtain⟨sl,hL⟩:=u.any ho I.free 0e0;exact I.step (g':=s.gens) (d':=s.drawn) (ch:=[]) (fun _ z=>nomatch z) (fun b o _ hb _ e n=>u.keep b o e n hb 0e0) (fun b o _ hb _ e n=>u.slot b o e n hb 0e0) (fun b o _ e n=>u.free b o e n 0e0) (fun b o _ e=>u.there b o e 0e0) u.zM u.vX u.zL (fun m' hm=>by
  obtain⟨o',es',YN,Yd,r'⟩:=hm;rw[ho] at Yd;cases Yd;exact⟨_,es',YN,hL,r'⟩) Ws I.bare
def Wm.call{d':Drawn}(I:Wm X Wj σ H s)(u:Un 2e1 ch H H' s.heap h')(Ws:HOk X.prog X.w H' h')(hg:AllBare g')(Zg:∀ b∈ch,4e0/\b≠X.env.locals/\(∀ x c,X.env.cells.lookup x=some c->c≠b)/\∀ p∈X.pn++Wj,p.1≠b) : Wm X Wj σ H' {s with heap:=h',gens:=g',drawn:=d',toks:=t'}:=by
 obtain⟨m,⟨o,es,ep,ho,r⟩,_⟩:=id I.loc;obtain⟨sl,hL⟩:=u.any ho I.free fun z=>(Zg _ z).2.1 rfl;exact I.step (ch:=ch) Zg (fun b o hL hb hc e n=>u.keep b o e n (fun z=>(Α.mp (I.pF b z)).elim hL hb) hc) (fun b o _ _ hc e n=>u.any e n hc) (fun b o hc e n=>u.free b o e n hc) (fun b o hc e=>u.there b o e hc) u.zM u.vX u.zL (fun m' hm=>by
  obtain⟨o',es',YN,Yd,r'⟩:=hm;rw[ho] at Yd;cases Yd;exact⟨_,es',YN,hL,r'⟩) Ws hg
def Wm.turned{it:Addr}(I:Wm X Wj σ H s)(k:∀ b o,b≠it->s.heap.get? b=some o->h'.get? b=some o)(hn:H it=none)(hL:it≠X.env.locals)(h1:it∈X.ex\/X.s₀.heap.objs.size<=it)(h2:∀ x c,X.env.cells.lookup x=some c->c≠it)(h3:∀ p∈X.pn++Wj,p.1≠it):Wm X Wj σ H {s with heap:=h',toks:=t'}:=by
 have nit:∀ b u,H b=some u->b≠it:=fun b u e z=>by rw[z,hn] at e;cases e
 refine I.step (g':=s.gens) (d':=s.drawn) (ch:=[it]) (fun b hb=>?_) (fun b o _ _ hc e _=>k b o 6e0 e) (fun b o _ _ hc e _=>⟨o.slots,k b o 6e0 e⟩) (fun _ _ _ _ n=>n)
  (fun b o hc e=>⟨o,k b o 6e0 e⟩) (fun _ _ e=>e) (fun _ _ _ e=>e) (fun b ps e=>⟨#[],by rw[e];simp⟩) (fun m hm=>?_) (fun b u e=>?_) I.bare
 ·have e:b=it:=by simpa using hb
  subst e;exact⟨h1,hL,h2,h3⟩
 ·obtain⟨o,es,ep,ho,r⟩:=hm;exact⟨o,es,ep,k _ o (Ne.symm hL) ho,r⟩
 ·refine(I.Ws b u e).zK (fun c v hc q=>k c v ?_ q) 4e1 fun _ _ q=>q;rcases hc with z|z
  ·rw[z];exact nit b u e
  ·exact nit c _ z
def Wm.tok(I:Wm X Wj σ H s)(t:Nat):Wm X Wj σ H {s with toks:=t}:=I.un (h':=s.heap) (t':=t) Un.refl I.Ws
def Wm.kept(I:Wm X Wj σ H s)(k:∀ b u,s.heap.get? b=some u->h'.get? b=some u):Wm X Wj σ H {s with heap:=h',toks:=t'}:=I.un (Un.kept k) (I.Ws.kept k)
def Wm.laid{o:HO}(I:Wm X Wj σ H s)(k:∀ b u,s.heap.get? b=some u->h'.get? b=some u)(hp:s.heap.objs.size<=a)(new:dU X.prog X.w (Wk H a o) h' a o) : Wm X Wj σ (Wk H a o) {s with heap:=h',toks:=t'}:=I.un (Un.laid k hp (I.Ws.fresh hp)) (I.Ws.laid k hp new)
def Wm.write{x e:Addr}{o:HO}(I:Wm X Wj σ H s)(mu:Mut (H x))(he:e=x\/H e=some (.own x))(k:∀ b u,b≠e->s.heap.get? b=some u->h'.get? b=some u)(heo:∃ u,h'.get? e=some u)(new:dU X.prog X.w (Wk H x o) h' x o):Wm X Wj σ (Wk H x o) {s with heap:=h',toks:=t'}:=I.un (Un.write mu he k heo) (I.Ws.write mu he k heo new)
def Wm.jP{Z2:List (Addr×Obj)}(I:Wm X Wj σ H s)(h:∀ p∈Z2,s.heap.get? p.1=some p.2/\H p.1=none/\p.1≠X.env.locals/\p.1∉X.fs/\∀ v,p.2.data≠.cell v):Wm X Z2 σ H s :=
 ⟨I.ok,I.os,I.bare,I.base,I.loc,I.cell,I.free,I.kG,fun p hp=>(Κ.mp hp).elim (fun z=>I.pin p (List.mem_append_left _ z)) (h p),I.Ws,I.len⟩
def CY{N:List Str}(hN:N.Nodup){j:Nat}(a:N[i]?=some x)(b:N[j]?=some x):i=j:=by
 obtain⟨h1,e1⟩:=Λ.mp a;obtain⟨h2,e2⟩:=Λ.mp b;exact(List.getElem_inj hN).mp (e1.trans e2.symm)
theorem sH(I:Wm X Wj σ H s)(hN:X.N.Nodup)(hi:X.N[i]?=some x)(hx:Loc X.env.scope x)(r:bN v u)(h:∀ s',Wm X Wj 0e1 H s'->(∃ a,Heap.SameBut a s.heap s'.heap/\(a=X.env.locals\/X.env.cells.lookup x=some a))->Q () s')(hf:X.fn x=true\/X.env.scope.names.lookup x=some .local:=by first|exact .inl rfl|exact .inr rfl|assumption):wpAny M A 9e0 Q E s:=by
 obtain⟨m,hn,hl⟩:=id I.loc;have abQ:(X.env.scope.kind==.class||(X.env.scope.kind==.module&&X.env.locals !=X.env.globals))=false:=by rw[I.ok.kind];rfl
 have hiσ:i < σ.length:=by rw[I.len];exact(Λ.mp hi).1
 have cne:=I.cne;have tracked:∀ {a:Addr} {h':Heap},(∃ o,s.heap.get? a=some o/\H a=none)->Heap.SameBut a s.heap h'->HOk X.prog X.w H h':=fun {a h'} ha hs b ob e=>by
  obtain⟨_,_,ZQ⟩:=ha;refine(I.Ws b ob e).zK (fun c w' hc q=>(hs.2 c ?_).trans q) 4e1 fun _ _ q=>q;rintro rfl;rcases hc with rfl|hc
  ·rw[ZQ] at e;cases e
  ·rw[ZQ] at hc;cases hc
 rcases hx with hk|hk
 ·refine wpAny_storeName_local hk hn (fun h' hn' hs=>?_) abQ;obtain⟨oL,_,_,hoL,_⟩:=id hn;refine h _ ⟨I.ok,I.os,I.bare,⟨fun b o e n hb hx=>?_,fun b o e n hb hx=>?_,I.base.free,fun b o e hx=>?_,I.base.zM,I.base.vX,I.base.zL⟩,⟨_,hn',fun j y v' e1 e2 e3=>?_⟩,fun y c e=>?_,I.free,I.kG,fun p hp=>?_,tracked ⟨oL,hoL,I.free⟩ hs,by simpa using I.len⟩ ⟨_,hs,.inl rfl⟩
  ·exact(hs.2 b (Ρ 1e0)).trans 5e0
  ·obtain⟨sl,e1⟩:=I.base.slot b o e n hb hx;exact⟨sl,(hs.2 b (Ρ 1e0)).trans e1⟩
  ·obtain⟨o',e1⟩:=I.base.there b o e hx;exact⟨o',(hs.2 b (Ρ 1e0)).trans e1⟩
  ·by_cases hj:j=i
   ·subst hj;rw[hi] at e1;cases e1;rw[List.getElem?_set_self hiσ] at e2;cases e2;exact⟨u,r,.inl ⟨hk,by simp⟩⟩
   ·rw[List.getElem?_set_ne 5e1] at e2;obtain⟨u',r',q⟩:=hl j y v' e1 e2 e3;refine⟨u',r',?_⟩;rcases q with⟨k,e⟩|⟨k,c,e,z⟩
    ·refine .inl ⟨k,?_⟩;have:y≠x:=fun e=>hj (CY hN e1 (e▸hi));simp[this,e]
    ·exact .inr ⟨k,c,e,z.sameBut hs 7e1⟩
  ·obtain⟨w',z⟩:=I.cell y c e;exact⟨w',z.sameBut hs 7e1⟩
  ·obtain⟨e,n,ne,nf,d⟩:=I.pin p hp;exact⟨(hs.2 p.1 ne).trans e,n,ne,nf,d⟩
 ·have hfn:X.fn x=true:=by
   rcases hf with z|z
   ·exact z
   ·rw[z] at hk;cases hk
  obtain⟨c,hc⟩:=I.ok.has x (.inl hk);obtain⟨w',z⟩:=I.cell x c hc;refine wpAny_storeName_cell I.ok.kind hk hc z (fun h' YU hs=>?_);obtain⟨oc,hoc,abY⟩:=id z;refine h {s with heap:=h'} ⟨I.ok,I.os,I.bare,⟨fun b o e n hb hx=>?_,fun b o e n hb hx=>?_,I.base.free,fun b o e hx=>?_,I.base.zM,I.base.vX,I.base.zL⟩,⟨m,hn.sameBut hs (Ne.symm (cne x c hc)),fun j y v' e1 e2 e3=>?_⟩,fun y c' e=>?_,I.free,I.kG,fun p hp=>?_,tracked ⟨oc,hoc,I.kG x c hc⟩ hs,by simpa using I.len⟩ ⟨c,hs,.inr hc⟩
  ·exact(hs.2 b 3e0).trans 5e0
  ·obtain⟨sl,e1⟩:=I.base.slot b o e n hb hx;exact⟨sl,(hs.2 b 3e0).trans e1⟩
  ·obtain⟨o',e1⟩:=I.base.there b o e hx;exact⟨o',(hs.2 b 3e0).trans e1⟩
  ·by_cases hj:j=i
   ·subst hj;rw[hi] at e1;cases e1;rw[List.getElem?_set_self hiσ] at e2;cases e2;exact⟨u,r,.inr ⟨.inl hk,c,hc,YU⟩⟩
   ·rw[List.getElem?_set_ne 5e1] at e2;obtain⟨u',r',q⟩:=hl j y v' e1 e2 e3;refine⟨u',r',?_⟩;rcases q with q|⟨k,c',e,z'⟩
    ·exact .inl q
    ·refine .inr ⟨k,c',e,z'.sameBut hs ?_⟩;rintro rfl;exact hj (CY hN e1 (I.ok.inj _ _ _ e hc▸hi))
  ·by_cases hcc:c'=c
   ·subst hcc;exact⟨_,YU⟩
   ·obtain⟨w2,z2⟩:=I.cell y c' e;exact⟨w2,z2.sameBut hs hcc⟩
  ·obtain⟨e,n,ne,nf,d⟩:=I.pin p hp;refine⟨(hs.2 p.1 ?_).trans e,n,ne,nf,d⟩;intro q;rw[q,hoc] at e;have q':oc=p.2:=ϖ e;exact d w' (by rw[<- q'];exact abY)
theorem yG(I:Wm X Wj σ H s)(hN:X.N.Nodup)(hi:X.N[i]?=some x)(hx:Loc X.env.scope x)(r:bN v u)(h:∀ s',Wm X Wj 0e1 H s'->Q () s')(hf:X.fn x=true\/X.env.scope.names.lookup x=some .local:=by first|exact .inl rfl|exact .inr rfl|assumption):wpAny M A 9e0 Q E s :=
 sH I hN hi hx r (fun s' I' _=>h s' I') hf
def Wm.Sw(I:Wm X Wj σ H s)(ho:s'.os=s.os)(u:Un 2e1 ch H H' s.heap s'.heap)(Ws:HOk X.prog X.w H' s'.heap)(hg:AllBare s'.gens)(Zg:∀ b∈ch,4e0/\b≠X.env.locals/\(∀ x c,X.env.cells.lookup x=some c->c≠b)/\∀ p∈X.pn++Wj,p.1≠b):Wm X Wj σ H' s':=by
 obtain⟨h',g',d',t',o'⟩:=s';have e:o'=s.os:=ho;subst e;exact I.call (g':=g') (t':=t') (d':=d') u Ws hg Zg
end
end
abbrev XK:=Value->Option Addr->Hp->Prop
abbrev St:=List (Option V)
variable{σ:St}
abbrev VK:=V->Hp->Prop
abbrev TE:=St->Hp->VK->Prop
variable{t te:TE}
abbrev TT:=St->Hp->(Bool->Hp->Prop)->Prop
abbrev TA:=St->Hp->(List V->Hp->Prop)->Prop
structure Ends where
 nx:St->Hp->Prop
 rt:VK
 bk:St->Hp->Prop:=fun _ _=>False
 ct:St->Hp->Prop:=fun _ _=>False
variable{D:Ends}
abbrev TS:=Ends->St->Hp->Prop
variable{tb:TS}
mutual
example:=[Addr×Obj,model X.prog X.w,eval e X.env,TP X Wj σ Q,SP X Wj D]
inductive EP(X:Cx)(Wj:List 0e0)(σ:St)(Q:VK)(u:Value)(s':Shared):Prop
 | mk (v:V) (H':Hp) (I:Wm X Wj σ H' s') (r:bN v u) (q:Q v H'):EP X Wj σ Q u s'
def TP(X:Cx)(Wj:List 0e0)(σ:St)(Q:Bool->Hp->Prop)(b:Bool)(s':Shared):Prop:=∃ H',Wm X Wj σ H' s'/\Q b H'
inductive AP(X:Cx)(Wj:List 0e0)(σ:St)(Q:List V->Hp->Prop)(us:List Value)(s':Shared):Prop
 | mk (vs:List V) (H':Hp) (I:Wm X Wj σ H' s') (r:Wq vs us) (q:Q vs H'):AP X Wj σ Q us s'
def SP(X:Cx)(Wj:List 0e0)(D:Ends)(f:Flow)(s':Shared):Prop :=
 match f with
 | .next=>∃ σ' H',Wm X Wj σ' H' s'/\D.nx σ' H'
 | .brk=>∃ σ' H',Wm X Wj σ' H' s'/\D.bk σ' H'
 | .cont=>∃ σ' H',Wm X Wj σ' H' s'/\D.ct σ' H'
 | .ret u=>∃ v σ' H',Wm X Wj σ' H' s'/\bN v u/\D.rt v H'
def PE(X:Cx)(e:Expr)(t:TE):Prop :=
 ∀(Wj:List 0e0) (s:Shared) (σ:St) (H:Hp) (Q:VK),Wm X Wj σ H s->t σ H Q->wpAny 1e0 X.A 2e0 (EP X Wj σ Q) X.xe s
def PT(X:Cx)(e:Expr)(t:TT):Prop :=
 ∀(Wj:List 0e0) (s:Shared) (σ:St) (H:Hp) (Q:Bool->Hp->Prop),Wm X Wj σ H s->t σ H Q->wpAny 1e0 X.A (isTrue e X.env 2e0) 3e0 X.xe s
def PW(X:Cx)(e:Expr)(t:TT):Prop :=
 ∀(whole:Sem Value) (Wj:List 0e0) (s:Shared) (σ:St) (H:Hp) (Q:Bool->Hp->Prop),Wm X Wj σ H s->t σ H Q->wpAny 1e0 X.A (isTrue e X.env whole) 3e0 X.xe s
def PW.pt{t:TT}(h:PW X e t):PT X e t:=h _
def PA(X:Cx)(es:List Expr)(t:TA):Prop :=
 ∀(pos:Pos) (Wj:List 0e0) (s:Shared) (σ:St) (H:Hp) (Q:List V->Hp->Prop),Wm X Wj σ H s->t σ H Q->wpAny 1e0 X.A (spliced (backTo pos (starEach es X.env))) (AP X Wj σ Q) X.xe s
def PS(X:Cx)(st:Stmt)(t:TS):Prop :=
 ∀(Wj:List 0e0) (s:Shared) (σ:St) (H:Hp) (D:Ends),Wm X Wj σ H s->t D σ H->wpAny 1e0 X.A (exec st X.env) 4e0 X.xe s
def XF(X:Cx)(st:List Stmt)(t:TS):Prop :=
 ∀(Wj:List 0e0) (s:Shared) (σ:St) (H:Hp) (D:Ends),Wm X Wj σ H s->t D σ H->wpAny 1e0 X.A (execs st X.env) 4e0 X.xe s
def thn{α:Type}{t:Sem α}{Q Q':α->Shared->Prop}(h:wpAny M A t Q E s)(hQ:∀ a s,Q a s->Q' a s):wpAny M A t Q' E s:=Α4 h hQ fun _ _ x=>x
end
section
mutual
example:=[x==("__debug__":Str),.Name x pos,(by rw[I.ok.glob];exact I.mod.glob.keeps I.bk),model X.prog X.w]
def oA(i:Nat):TE:=fun σ H Q=>∃ v,σ[i]?=some (some v)/\Q v H
def tC(v:V):TE:=fun _ H Q=>Q v H
theorem lL(hN:X.N[i]?=some x)(hv:Vis X.env.scope x)(hd:0e0=false:=by decide)(YV:(x==("__classdict__":Str))=false:=by decide):PE X 1e0 (oA i):=by
 intro Wj s σ H Q I h;obtain⟨v,e,h⟩:=h;obtain⟨m,hn,hl⟩:=I.loc;obtain⟨u,r,l⟩:=hl i x v hN e hv;have fin:EP X Wj σ Q u s:=⟨v,H,I,r,h⟩;rcases l with⟨hk,hm⟩|⟨hk,c,hc,Yb⟩
 ·exact wpAny_Name (wpAny_loadName_local I.ok.kind hk hn hm fin) hd
 ·rcases hk with hk|hk
  ·exact wpAny_Name (wpAny_loadName_cell I.ok.kind hk hc Yb fin) hd
  ·exact wpAny_Name (wpAny_loadName_free I.ok.kind hk hc Yb fin YV) hd
def aB{i j pos}:PE X (.Constant (.int i) j pos) (tC (.int i)):=fun _ _ _ H _ I h=>wpAny_Constant_int ⟨.int i,H,I.tok _,⟨_,rfl⟩,h⟩
def iN{b j pos}:PE X (.Constant (.bool b) j pos) (tC (.bl b)):=fun _ _ _ H _ I h=>Constant_bool ⟨.bl b,H,I,rfl,h⟩
def cG{j pos}:PE X (.Constant .none j pos) (tC .Wl):=fun _ _ _ H _ I h=>Constant_none ⟨.Wl,H,I,rfl,h⟩
def aC{x j pos}:PE X (.Constant (.str x) j pos) (tC (.str x)):=fun _ _ _ H _ I h=>Calls.Constant_str ⟨.str x,H,I.tok _,⟨_,rfl⟩,h⟩
def Gl(X:Cx)(x:Str):Prop:=X.env.kindOf x=some .globalImplicit
theorem t7{Q:q0A}(I:Wm X Wj σ H s)(hg:Gl X x)(hm:X.mg x=some u)(h:Q u s)(hd:0e0=false:=by decide):wpAny 3e0 X.A (eval 1e0 X.env) Q E s :=
 Calls.Name_function_global I.ok.kind hg (Calls.loadGlobal_global 2e0 hm h) hd
theorem EH{Q:q0A}(I:Wm X Wj σ H s)(hg:Gl X x)(hm:X.mg x=none)(hv:bootBuiltins x=some u)(h:Q u s)(hn:x≠"__name__":=by decide)(hd:0e0=false:=by decide):wpAny 3e0 X.A (eval 1e0 X.env) Q E s:=by
 obtain⟨mb,h1,h2⟩:=I.mod.blt;exact Calls.Name_function_global I.ok.kind hg (Calls.loadGlobal_builtin 2e0 hm (by rw[I.ok.blt];exact h1.keeps I.bk) ((h2 x hn).trans hv) h) hd
theorem qK(hg:Gl X x)(hm:X.mg x=some u)(r:bN v u)(hd:0e0=false:=by decide):PE X 1e0 (tC v) :=
 fun _ _ _ H _ I h=>t7 I hg hm ⟨v,H,I,r,h⟩ hd
end
variable{a b:Expr}{ta tb:TE}
mutual
example:=[(by decide),model X.prog X.w,.Compare a [op] [b] pos,h Wj s σ H _ I hw]
def PC(X:Cx)(op:CmpOp)(a b:Expr)(t:TE):Prop :=
 ∀(Wj:List (Addr×Obj)) (s:Shared) (σ:St) (H:Hp) (Q:VK),Wm X Wj σ H s->t σ H Q ->
  wpAny 1e0 X.A (eval a X.env) (fun v s₁=>wpAny 1e0 X.A (eval b X.env) (fun u s₂=>wpAny 1e0 X.A (compareOp op v u) (EP X Wj σ Q) X.xe s₂) X.xe s₁) X.xe s
def nobehind(b:Expr)(h:op≠.In)(h2:op≠.NotIn):behindInMarks op b=false:=by
 have e1:(op==CmpOp.In)=false:=by cases op<;>first|rfl|exact absurd rfl h
 have e2:(op==CmpOp.NotIn)=false:=by cases op<;>first|rfl|exact absurd rfl h2
 cases b<;>simp[behindInMarks,e1,e2]
def tB(t:TE):TT:=fun σ H Q=>t σ H fun x H1=>∃ c,x=.bl c/\Q c H1
theorem RF(h:PC X op a b t)(h1:behindInMarks op b=false:=by first|exact nobehind _ 0e0 0e0|rfl):PE X 2e0 t:=fun Wj s σ H Q I hw=>wpAny_Compare1 (h Wj s σ H Q I hw) h1
theorem RM(h:PC X op a b t)(h1:behindInMarks op b=false:=by first|exact nobehind _ 0e0 0e0|rfl):PT X 2e0 (tB t):=by
 intro Wj s σ H Q I hw;refine wpAny_isTrue_Compare1 (thn 3e0 fun v s1 h1=>thn h1 fun u s2 h2=>thn h2 fun c s3 ⟨x,H1,I1,r1,q1⟩=>?_) h1;obtain⟨d,rfl,q⟩:=q1;cases r1;exact Β5 ⟨H1,I1,q⟩
def jW(h:PE X e t)(he:∀ whole,isTrue e X.env whole=(do let v <- whole;standAt e.pos;holding [v] (truthy v)):=by intro _;rfl):PT X e (tB t):=by
 intro Wj s σ H Q I hw;refine isTrue_plain (thn 3e0 fun v s1 ⟨x,H1,I1,r1,q1⟩=>?_) (he _);obtain⟨d,rfl,q⟩:=q1;cases r1;exact Β5 ⟨H1,I1,q⟩
end
variable{tA tB':TT}{rest:List Expr}
mutual
example:=[(thn (ha Wj s σ H _ I h) fun v s1 ⟨x,H1,I1,r1,q1⟩=>?_),ha Wj s σ H _ I h,(thn (ha Wj s σ H Q I h) fun c s1 e=>?_),a::b::rest,.BoolOp .And 3e0 pos,.BoolOp .Or 3e0 pos,.BoolOp .And (b::rest) pos,.BoolOp .Or (b::rest) pos,.UnaryOp .Not a pos]
def UB(t u:TT):TT:=fun σ H Q=>t σ H fun c H1=>if c=true then u σ H1 Q else Q false H1
def V8(t u:TT):TT:=fun σ H Q=>t σ H fun c H1=>if c=true then Q true H1 else u σ H1 Q
def UE(t:TT):TT:=fun σ H Q=>t σ H fun c H1=>Q (!c) H1
def cU(ha:PT X a tA):PW X (.BoolOp .And [a] pos) tA:=by
 intro wh Wj s σ H Q I h;refine isTrue_and 2e0;cases c with
 | true=>exact isTrue_and_nil e
 | false=>exact e
def xN(ha:PT X a tA):PW X (.BoolOp .Or [a] pos) tA:=by
 intro wh Wj s σ H Q I h;refine isTrue_or 2e0;cases c with
 | false=>exact isTrue_or_nil e
 | true=>exact e
def dB(ha:PT X a tA)(hb:PW X 6e0 tB'):PW X 4e0 (UB tA tB'):=by
 intro wh Wj s σ H Q I h;refine isTrue_and (thn 1e0 fun c s1 ⟨H1,I1,q1⟩=>?_);cases c with
 | true=>exact hb wh Wj s1 σ H1 Q I1 q1
 | false=>exact⟨H1,I1,q1⟩
def Ds(ha:PT X a tA)(hb:PW X 7e0 tB'):PW X 5e0 (V8 tA tB'):=by
 intro wh Wj s σ H Q I h;refine isTrue_or (thn 1e0 fun c s1 ⟨H1,I1,q1⟩=>?_);cases c with
 | true=>exact⟨H1,I1,q1⟩
 | false=>exact hb wh Wj s1 σ H1 Q I1 q1
def sD(ha:PT X a tA):PT X 8e0 (UE tA):=by
 intro Wj s σ H Q I h;exact isTrue_not (ha Wj s σ H (fun c H1=>Q (!c) H1) I h)
def Mb(ta tb:TE):TE:=fun σ H Q=>ta σ H fun x H1=>∃ c,x=.bl c/\if c=true then tb σ H1 Q else Q (.bl false) H1
def R8(ta tb:TE):TE:=fun σ H Q=>ta σ H fun x H1=>∃ c,x=.bl c/\if c=true then Q (.bl true) H1 else tb σ H1 Q
def Me(ta:TE):TE:=fun σ H Q=>ta σ H fun x H1=>∃ c,x=.bl c/\Q (.bl (!c)) H1
def jD{op}(h:PE X a t):PE X (.BoolOp op [a] pos) t:=fun Wj s σ H Q I hw=>BoolOp_one (h Wj s σ H Q I hw)
def Lr(ha:PE X a ta)(hb:PE X 6e0 tb):PE X 4e0 (Mb ta tb):=by
 intro Wj s σ H Q I h;refine BoolOp_and 0e0;obtain⟨c,rfl,q1⟩:=q1;cases r1;refine Β5 ?_;cases c with
 | true=>exact hb Wj s1 σ H1 Q I1 q1
 | false=>exact⟨.bl false,H1,I1,rfl,q1⟩
def GO(ha:PE X a ta)(hb:PE X 7e0 tb):PE X 5e0 (R8 ta tb):=by
 intro Wj s σ H Q I h;refine BoolOp_or 0e0;obtain⟨c,rfl,q1⟩:=q1;cases r1;refine Β5 ?_;cases c with
 | false=>exact hb Wj s1 σ H1 Q I1 q1
 | true=>exact⟨.bl true,H1,I1,rfl,q1⟩
def RH(ha:PE X a ta):PE X 8e0 (Me ta):=by
 intro Wj s σ H Q I h;refine UnaryOp_ 0e0;obtain⟨c,rfl,q1⟩:=q1;cases r1;exact not_of (Β5 ⟨.bl (!c),H1,I1,rfl,q1⟩)
def V6(t:TT)(ta tb:TE):TE:=fun σ H Q=>t σ H fun c H1=>if c=true then ta σ H1 Q else tb σ H1 Q
def qL(hc:PT X c tA)(ha:PE X a ta)(hb:PE X b tb):PE X (.IfExp c a b pos) (V6 tA ta tb):=by
 intro Wj s σ H Q I h;refine wpAny_IfExp (thn (hc Wj s σ H _ I h) fun d s1 ⟨H1,I1,q1⟩=>?_);cases d with
 | true=>exact ha Wj s1 σ H1 Q I1 q1
 | false=>exact hb Wj s1 σ H1 Q I1 q1
end
end
mutual
example:=[]
def eU(K:q0B)(H:Hp)(a:Addr)(xs:List V):Prop :=
 Rd H a (.lst xs) \/
  ∃(o:Obj) (Wn:Array Value) (n:Nat),K.lookup a=some o/\o.cls=.type "list"/\o.dict=none/\o.data=.seq Wn n/\Wn.size<=sizeLine/\Wq xs Wn.toList
def g8(K:q0B)(H:Hp)(a:Addr)(xs:List V):Prop :=
 Rd H a (.tup xs) \/
  ∃(o:Obj) (Wn:Array Value) (n:Nat),K.lookup a=some o/\o.cls=.type "tuple"/\o.data=.seq Wn n/\Wn.size<=sizeLine/\Wq xs Wn.toList
def Vi:Value->Option V
 | .none=>some .Wl
 | .bool b=>some (.bl b)
 | .int i _=>some (.int i)
 | .str x _=>some (.str x)
 | .bytes b _=>some (.byt b)
 | .float b _=>some (.flt b)
 | .ref a=>some (.ref a)
 | .type n=>some (.ty n)
 | _=>none
def bN.abs{x:V}(r:bN x u):Vi u=some x:=by
 cases x with
 | Wl=>cases r;rfl
 | bl _=>cases r;rfl
 | int _=>obtain⟨t,rfl⟩:=r;rfl
 | str _=>obtain⟨t,rfl⟩:=r;rfl
 | byt _=>obtain⟨t,rfl⟩:=r;rfl
 | flt _=>obtain⟨t,rfl⟩:=r;rfl
 | ref _=>cases r;rfl
 | ty _=>cases r;rfl
def bN.inj{x y:V}(r:bN x u)(q:bN y u):x=y:=ϖ (r.abs.symm.trans q.abs)
def Wq.inj{ys:List V}(h:Wq xs us)(g:Wq ys us):xs=ys:=by
 induction h generalizing ys with
 | nil=>cases g;rfl
 | cons r t ih =>
  cases g with
  | cons r' t'=>rw[r.inj r',ih t']
end
section
variable{ys:List V}
mutual
example:=[]
def eU.of(h:H a=some (.lst xs)):eU K H a xs:=.inl (.inl h)
def g8.of(h:H a=some (.tup xs)):g8 K H a xs:=.inl (.inl h)
theorem Wm.list(I:Wm X Wj σ H s)(h:eU X.K H a xs):∃ Wn:List Value,Wq xs Wn/\PlainL s.heap a Wn.toArray/\xs.length<=sizeLine:=by
 rcases h with h|⟨o,Wn,n,hk,hc,hd,hs,hz,r⟩
 ·obtain⟨z,Wn,n,r,e⟩:=h.ok I.Ws;exact⟨Wn,r,⟨_,n,e,rfl,rfl,rfl⟩,z⟩
 ·refine⟨Wn.toList,r,⟨o,n,I.kIn a o hk,hc,hd,by simpa using hs⟩,?_⟩;have e:=r.length;simp only[Γ0] at e;omega
theorem Wm.tuple(I:Wm X Wj σ H s)(h:g8 X.K H a xs):∃ Wn:List Value,Wq xs Wn/\IsTup s.heap a Wn.toArray/\xs.length<=sizeLine:=by
 rcases h with h|⟨o,Wn,n,hk,hc,hs,hz,r⟩
 ·obtain⟨z,Wn,r,p⟩:=h.ok I.Ws;exact⟨Wn,r,p,z⟩
 ·refine⟨Wn.toList,r,⟨o,I.kIn a o hk,hc,n,by simpa using hs⟩,?_⟩;have e:=r.length;simp only[Γ0] at e;omega
def Wm.KW(I:Wm X Wj σ H s)(h:eU X.K H a xs)(h':eU X.K H a ys):xs=ys:=by
 obtain⟨Wn,r,⟨o,n,e,_,_,d⟩,_⟩:=I.list h;obtain⟨its',r',⟨o',n',e',_,_,d'⟩,_⟩:=I.list h';rw[e] at e';cases e';rw[d] at d';injection d' with d1 _
 have:Wn=its':=by simpa using congrArg Array.toList d1
 subst this;exact r.inj r'
def Wm.IX(I:Wm X Wj σ H s)(h:g8 X.K H a xs)(h':g8 X.K H a ys):xs=ys:=by
 obtain⟨Wn,r,⟨o,e,_,n,d⟩,_⟩:=I.tuple h;obtain⟨its',r',⟨o',e',_,n',d'⟩,_⟩:=I.tuple h';rw[e] at e';cases e';rw[d] at d';injection d' with d1 _
 have:Wn=its':=by simpa using congrArg Array.toList d1
 subst this;exact r.inj r'
end
end
mutual
example:=[]
abbrev Cx.zN(X:Cx)(E:q0A):Cx:={X with xe:=E}
abbrev Cx.nox(X:Cx):Cx:=X.zN fun _ _=>False
def Cx.Ok.zN(ok:X.Ok)(E:q0A):(X.zN E).Ok :=
 ⟨ok.mod,ok.kind,ok.glob,ok.blt,ok.above,ok.inj,ok.has,ok.cab,ok.hd,ok.frames,ok.stk,ok.exf,ok.bs,ok.bsz,ok.CZ,ok.HU,ok.pX,ok.frf⟩
def Cx.Ok.nE(ok:(X.zN E).Ok):X.Ok :=
 ⟨ok.mod,ok.kind,ok.glob,ok.blt,ok.above,ok.inj,ok.has,ok.cab,ok.hd,ok.frames,ok.stk,ok.exf,ok.bs,ok.bsz,ok.CZ,ok.HU,ok.pX,ok.frf⟩
end
section
mutual
example:=[X.zN E]
def Wm.zN(I:Wm X Wj σ H s)(E:q0A):Wm 0e0 Wj σ H s:=⟨I.ok.zN E,I.os,I.bare,I.base,I.loc,I.cell,I.free,I.kG,I.pin,I.Ws,I.len⟩
def Wm.nE(I:Wm 0e0 Wj σ H s):Wm X Wj σ H s:=⟨I.ok.nE,I.os,I.bare,I.base,I.loc,I.cell,I.free,I.kG,I.pin,I.Ws,I.len⟩
def SP.nE{f:Flow}(h:SP 0e0 Wj D f s'):SP X Wj D f s':=by
 cases f with
 | next=>obtain⟨σ',H',I,q⟩:=h;exact⟨σ',H',I.nE,q⟩
 | brk=>obtain⟨σ',H',I,q⟩:=h;exact⟨σ',H',I.nE,q⟩
 | cont=>obtain⟨σ',H',I,q⟩:=h;exact⟨σ',H',I.nE,q⟩
 | ret u=>obtain⟨v,σ',H',I,r,q⟩:=h;exact⟨v,σ',H',I.nE,r,q⟩
def XF.nox{st:List Stmt}{t:TS}(h:XF X.nox st t):XF X st t:=fun Wj s σ H D I hw =>
 Α4 (h Wj s σ H D (I.zN _) hw) (fun _ _ q=>q.nE) fun _ _ z=>False.elim z
end
end
section
variable{st:Stmt}{rest:List Stmt}{t u:TS}
mutual
example:=[he Wj s σ H _ I h]
def Hl:TS:=fun D σ H=>D.nx σ H
def yJ(t u:TS):TS:=fun D σ H=>t {D with nx:=u D} σ H
def Ot:XF X [] Hl:=fun _ _ σ H _ I h=>wpAny_execs_nil ⟨σ,H,I,h⟩
def aG(h1:PS X st t)(h2:XF X rest u):XF X (st::rest) (yJ t u):=by
 intro Wj s σ H D I h;refine wpAny_execs_cons (thn (h1 Wj s σ H {D with nx:=u D} I h) fun f s1 q=>?_);cases f with
 | next =>
  obtain⟨σ',H',I',q⟩:=q;exact h2 Wj s1 σ' H' D I' q
 | ret v=>exact q
 | brk=>exact q
 | cont=>exact q
def aH(h1:PS X st t):XF X [st] t:=by
 intro Wj s σ H D I h;refine wpAny_execs_cons (thn (h1 Wj s σ H D I h) fun f s1 q=>?_);cases f with
 | next=>exact wpAny_execs_nil q
 | ret v=>exact q
 | brk=>exact q
 | cont=>exact q
def Py:TS:=fun D σ H=>D.ct σ H
def Dp:PS X (.Continue pos) Py:=fun _ _ σ H _ I h=>wpAny_Continue ⟨σ,H,I,h⟩
def Wm.quiet(I:Wm X Wj σ H s):interactive X.env=false:=by simp[interactive,I.ok.kind]
def Md(te:TE):TS:=fun D σ H=>te σ H fun _ H1=>D.nx σ H1
def aL(he:PE X e te)(hs:swapsWith e none pos.line X.env=pure false:=by rfl):PS X (.Expr e pos) (Md te):=by
 intro Wj s σ H D I h;exact wpAny_Expr_any (thn 0e0 fun v s1 ⟨x,H1,I1,r1,q1⟩=>⟨σ,H1,I1,q1⟩) I.quiet hs
def R9(te:TE):TS:=fun D σ H=>te σ H D.rt
def aJ(he:PE X e te):PS X (.Return (some e) pos) (R9 te):=by
 intro Wj s σ H D I h;exact wpAny_Return_some (thn 0e0 fun v s1 ⟨x,H1,I1,r1,q1⟩=>⟨x,σ,H1,I1,r1,q1⟩)
def PD:TS:=fun D _ H=>D.rt .Wl H
def uI:PS X (.Return none pos) PD:=fun _ _ σ H _ I h=>wpAny_Return_none ⟨.Wl,σ,H,I,rfl,h⟩
def DT(c:TT)(t u:TS):TS:=fun D σ H=>c σ H fun b H1=>if b=true then t D σ H1 else u D σ H1
def fI{a b:List Stmt}{tc:TT}(hc:PT X c tc)(ha:XF X a t)(hb:XF X b u):PS X (.If c a b pos) (DT tc t u):=by
 intro Wj s σ H D I h;refine wpAny_If (thn (hc Wj s σ H _ I h) fun d s1 ⟨H1,I1,q1⟩=>?_);cases d with
 | true=>exact ha Wj s1 σ H1 D I1 q1
 | false=>exact hb Wj s1 σ H1 D I1 q1
end
end
abbrev TG:=V->St->Hp->(St->Hp->Prop)->Prop
variable{g:TG}
mutual
example:=[model X.prog X.w,Addr×Obj]
abbrev TGs:=List V->St->Hp->(St->Hp->Prop)->Prop
def PG(X:Cx)(target:Expr)(t:TG):Prop :=
 ∀(Wj:List 1e0) (s:Shared) (σ:St) (H:Hp) (v:V) (u:Value) (Q:St->Hp->Prop),Wm X Wj σ H s->bN v u->t v σ H Q ->
  wpAny 0e0 X.A (assign target X.env u) (fun _ s'=>∃ σ' H',Wm X Wj σ' H' s'/\Q σ' H') X.xe s
def PGs(X:Cx)(ts:List Expr)(t:TGs):Prop :=
 ∀(Wj:List 1e0) (s:Shared) (σ:St) (H:Hp) (vs:List V) (us:List Value) (Q:St->Hp->Prop),Wm X Wj σ H s->Wq vs us->t vs σ H Q ->
  wpAny 0e0 X.A (assignInOrder ((assignEach ts X.env).map (·.2)) us) (fun _ s'=>∃ σ' H',Wm X Wj σ' H' s'/\Q σ' H') X.xe s
abbrev TSet:=V->V->V->Hp->(Hp->Prop)->Prop
def PSet(X:Cx)(t:TSet):Prop :=
 ∀(Wj:List 1e0) (s:Shared) (σ:St) (H:Hp) (o i v:V) (ov iv u:Value) (Q:Hp->Prop),Wm X Wj σ H s->bN o ov->bN i iv->bN v u->t o i v H Q ->
  wpAny 0e0 X.A (setItem ov iv u) (fun _ s'=>∃ H',Wm X Wj σ H' s'/\Q H') X.xe s
abbrev TIp:=V->V->Hp->VK->Prop
def PIp(X:Cx)(op:Operator)(t:TIp):Prop :=
 ∀(Wj:List 1e0) (s:Shared) (σ:St) (H:Hp) (x y:V) (v u:Value) (Q:VK),Wm X Wj σ H s->bN x v->bN y u->t x y H Q ->
  wpAny 0e0 X.A (inplaceOp op v u) (EP X Wj σ Q) X.xe s
end
section
mutual
example:=[model X.prog X.w,he Wj s σ H _ I h,hi Wj s1 σ H1 _ I1 q1,ho Wj s σ H _ I h,.Subscript o i pos,.Name x pos']
def jJ(i:Nat):TG:=fun v σ H Q=>Q (σ.set i (some v)) H
theorem uF(hN:X.N.Nodup)(hi:X.N[i]?=some x)(hx:Loc X.env.scope x)(hf:X.fn x=true\/X.env.scope.names.lookup x=some .local:=by first|exact .inl rfl|exact .inr rfl|assumption):PG X (.Name x pos) (jJ i):=by
 intro Wj s σ H v u Q I r h;exact wpAny_assign_Name (yG I hN hi hx r (fun s' I'=>⟨_,H,I',h⟩) hf)
def NI:TGs:=fun vs σ H Q=>vs=[]/\Q σ H
def Gn(t:TG)(u:TGs):TGs:=fun vs σ H Q=>∃ v r,vs=v::r/\t v σ H fun σ' H'=>u r σ' H' Q
def uG:PGs X [] NI:=by
 intro Wj s σ H vs us Q I r h;obtain⟨e,h⟩:=h;subst e;cases r;exact assignInOrder_nil ⟨σ,H,I,h⟩
def eZ{t:TG}{u:TGs}(h1:PG X e t)(h2:PGs X es u)(hs:(assignEach (e::es) X.env).map (·.2)=assign e X.env::(assignEach es X.env).map (·.2):=by rfl):PGs X (e::es) (Gn t u):=by
 intro Wj s σ H vs us Q I r h;obtain⟨v,vr,e1,h⟩:=h;subst e1;cases r with
 | cons r rr =>
  rw[hs];refine assignInOrder_cons (thn (h1 Wj s σ H _ _ _ I r h) fun _ s1 ⟨σ1,H1,I1,q1⟩=>?_);exact h2 Wj s1 σ1 H1 _ _ Q I1 rr q1
def NJ(K:q0B)(n:Nat)(t:TGs):TG:=fun v σ H Q=>∃ a xs,v=.ref a/\g8 K H a xs/\xs.length=n/\t xs σ H Q
def LA{t:TGs}(hc:X.calm=true)(h:PGs X es t)(hn:(assignEach es X.env).length=n:=by rfl)(WD:(assignEach es X.env).findIdx? (·.1)=none:=by rfl):PG X (.Tuple es k pos) (NJ X.K n t):=by
 intro Wj s σ H v u Q I r hw;obtain⟨a,xs,e1,hq,hl,hw⟩:=hw;subst e1;cases r;obtain⟨Wn,rv,ht,hz⟩:=I.tuple hq;refine assign_Tuple_tuple (I.ok.hd hc) ht (by simp[hn,<- hl,rv.length]) WD fun h' hx=>?_;have I1:Wm X Wj σ H {s with heap:=h'}:=I.kept (t':=s.toks) fun b o e=>hx b o (Ρ (Μ e)) e;exact h Wj _ σ H xs _ Q I1 (by simpa using rv) hw
def TK(to ti:TE)(t:TSet):TG:=fun v σ H Q=>to σ H fun o H1=>ti σ H1 fun i H2=>t o i v H2 fun H3=>Q σ H3
def r9{o i:Expr}{to ti:TE}{t:TSet}(ho:PE X o to)(hi:PE X i ti)(hs:PSet X t)
    (ha:∀ v,assign 4e0 X.env v=(do
      let ov <- holding [v] (eval o X.env);let iv <- holding [v,ov] (eval i X.env)
      standAt pos
      holding [v,ov,iv] (setItem ov iv v)
      release [v,ov,iv] []):=by intro _;rfl):PG X 4e0 (TK to ti t):=by
  intro Wj s σ H v u Q I r h;rw[ha];refine Β (Α6 (thn 3e0 fun ov s1 ⟨x,H1,I1,r1,q1⟩=>?_));refine Β (Α6 (thn 2e0 fun iv s2 ⟨y,H2,I2,r2,q2⟩=>?_));refine Β (wpAny_standAt (Β (Α6 (thn (hs Wj s2 σ H2 x y v ov iv u _ I2 r1 r2 r q2) fun _ s3 ⟨H3,I3,q3⟩=>?_))));exact wpAny_release ⟨σ,H3,I3,q3⟩
def IT(te:TE)(g:TG):TS:=fun D σ H=>te σ H fun x H1=>g x σ H1 D.nx
def lO(he:PE X e te)(hg:PG X tg g)(hs:swapsWithSole [tg] e pos.line X.env=pure false:=by rfl)(hw:swappedStores [tg] e X.env=pure none:=by rfl)(h1:(assignEach [tg] X.env).map (·.2)=[assign tg X.env]:=by rfl):PS X (.Assign [tg] e pos) (IT te g):=by
 intro Wj s σ H D I h;refine wpAny_Assign_stores (thn 1e0 fun v s1 ⟨x,H1,I1,r1,q1⟩=>?_) hs hw;rw[h1];exact thn (hg Wj s1 σ H1 x v _ I1 r1 q1) fun _ s2 q=>q
theorem BI{pos':Pos}(hN:X.N.Nodup)(hi:X.N[i]?=some x)(hx:Loc X.env.scope x)(he:PE X e te)(hs:swapsWith e (some 5e0) pos.line X.env=pure false:=by rfl)(hf:X.fn x=true\/X.env.scope.names.lookup x=some .local:=by first|exact .inl rfl|exact .inr rfl|assumption) : PS X (.Assign [.Name x pos'] e pos) (IT te (jJ i)):=by
 intro Wj s σ H D I h;refine wpAny_Assign_Name (thn 1e0 fun v s1 ⟨y,H1,I1,r1,q1⟩=>?_) hs;exact yG I1 hN hi hx r1 (fun s2 I2=>⟨_,H1,I2,q1⟩) hf
def UC(i:Nat)(te:TE)(ti:TIp):TS:=fun D σ H=>∃ x,σ[i]?=some (some x)/\te σ H fun y H1=>ti x y H1 fun z H2=>D.nx (σ.set i (some z)) H2
theorem RL{op:Operator}{ti:TIp}{pos':Pos}(hN:X.N.Nodup)(hi:X.N[i]?=some x)(hx:Loc X.env.scope x)(he:PE X e te)(ho:PIp X op ti)(hf:X.fn x=true\/X.env.scope.names.lookup x=some .local:=by first|exact .inl rfl|exact .inr rfl|assumption) : PS X (.AugAssign 5e0 op e pos) (UC i te ti):=by
 intro Wj s σ H D I h;obtain⟨v,e1,h⟩:=h;obtain⟨m,hn,hl⟩:=I.loc;have vis:Vis X.env.scope x:=by rcases hx with k|k;exact .inl k;exact .inr (.inl k)
 obtain⟨u,r,l⟩:=hl i x v hi e1 vis;refine wpAny_AugAssign_Name ?_;have go:wpAny 0e0 X.A (eval e X.env) (fun w s₂=>wpAny 0e0 X.A (inplaceOp op u w) (fun r s₃=>wpAny 0e0 X.A (storeName X.env x r) (fun _=>SP X Wj D .next) X.xe s₃) X.xe s₂) X.xe s:=by
  refine thn 1e0 fun w s1 ⟨y,H1,I1,r1,q1⟩=>?_;refine thn (ho Wj s1 σ H1 v y u w _ I1 r r1 q1) fun z s2 ⟨zv,H2,I2,r2,q2⟩=>?_;exact yG I2 hN hi hx r2 (fun s3 I3=>⟨_,H2,I3,q2⟩) hf
 rcases l with⟨hk,hm⟩|⟨hk,c,hc,Yb⟩
 ·exact wpAny_loadName_local I.ok.kind hk hn hm go
 ·rcases hk with hk|hk
  ·exact wpAny_loadName_cell I.ok.kind hk hc Yb go
  ·rcases hx with k|k
   ·have:X.env.scope.names.lookup x=some .free:=hk;rw[k] at this;cases this
   ·have:X.env.scope.names.lookup x=some .free:=hk;rw[k] at this;cases this
def Px(to ti te:TE)(X7:V->V->Hp->VK->Prop)(tip:TIp)(X9:TSet):TS:=fun D σ H=>to σ H fun o H1=>ti σ H1 fun i H2=>X7 o i H2 fun x H3=>te σ H3 fun y H4=>tip x y H4 fun z H5=>X9 o i z H5 fun H6=>D.nx σ H6
def PGet(X:Cx)(t:V->V->Hp->VK->Prop):Prop :=
 ∀(Wj:List (Addr×Obj)) (s:Shared) (σ:St) (H:Hp) (o i:V) (ov iv:Value) (Q:VK),Wm X Wj σ H s->bN o ov->bN i iv->t o i H Q ->
  wpAny 0e0 X.A (getItem ov iv) (EP X Wj σ Q) X.xe s
def Om{o i:Expr}{to ti:TE}{X7:V->V->Hp->VK->Prop}{tip:TIp}{X9:TSet}{op:Operator}{Za:Pos}(ho:PE X o to)(hi:PE X i ti)(hg:PGet X X7)(he:PE X e te)(hp:PIp X op tip)(hs:PSet X X9)
    (ha:∀ ov iv new,augStore i ov iv new=(do holding [new,ov,iv] (setItem ov iv new);release [new,ov,iv] [];pure .next):=by intros;rfl):PS X (.AugAssign (.Subscript o i Za) op e pos) (Px to ti te X7 tip X9):=by
  intro Wj s σ H D I h;refine wpAny_AugAssign_SubscriptAny (thn 3e0 fun ov s1 ⟨x1,H1,I1,r1,q1⟩=>?_) ha;refine thn 2e0 fun iv s2 ⟨x2,H2,I2,r2,q2⟩=>?_;refine thn (hg Wj s2 σ H2 x1 x2 ov iv _ I2 r1 r2 q2) fun old s3 ⟨x3,H3,I3,r3,q3⟩=>?_;refine thn (he Wj s3 σ H3 _ I3 q3) fun v s4 ⟨x4,H4,I4,r4,q4⟩=>?_;refine thn (hp Wj s4 σ H4 x3 x4 old v _ I4 r3 r4 q4) fun new s5 ⟨x5,H5,I5,r5,q5⟩=>?_;exact thn (hs Wj s5 σ H5 x1 x2 x5 ov iv new _ I5 r1 r2 r5 q5) fun _ s6 ⟨H6,I6,q6⟩=>⟨σ,H6,I6,q6⟩
def We(f:Int->Int->Int):TIp:=fun x y H Q=>∃ i j,x=.int i/\y=.int j/\Q (.int (f i j)) H
def Ra:PIp X .Add (We fun i j=>i+j):=by
 intro Wj s σ H x y v u Q I r1 r2 h;obtain⟨i,j,e1,e2,q⟩:=h;subst e1;subst e2;obtain⟨t,rfl⟩:=r1;obtain⟨t',rfl⟩:=r2;exact iadd_int ⟨.int _,H,I.tok _,⟨_,rfl⟩,q⟩
end
end
section
noncomputable def Fn(c:TT)(tb:TS):TS:=fun D σ H=>∃ W:Nat->St->Hp->Prop,(∃ m,W m σ H)/\∀ m σ H,W m σ H ->
 c σ H fun b H1=>if b=true then ∃ N:St->Hp->Prop,(∀ σ' H',N σ' H'->∃ m',m' < m/\W m' σ' H')/\tb {D with nx:=N,ct:=N,bk:=D.nx} σ H1 else D.nx σ H1
def qM{tc:TT}(hp:PassesOwn (model X.prog X.w) X.A X.env X.xe)(hc:PT X c tc)(hb:XF X body tb):PS X (.While c body [] pos) (Fn tc tb):=by
 intro Wj s σ H D I h;obtain⟨W,⟨m0,w0⟩,turn⟩:=h;refine wpAny_While (codeAny_whileLoop (fun n s'=>∃ σ' H',Wm X Wj σ' H' s'/\W n σ' H') ?_ m0 ⟨σ,H,I,w0⟩);rintro n s1 ⟨σ1,H1,I1,w1⟩;refine Ε4 hp (thn (hc Wj s1 σ1 H1 _ I1 (turn n σ1 H1 w1)) fun b s2 ⟨H2,I2,q2⟩=>?_);cases b with
 | true =>
  obtain⟨N,hN,q2⟩:=q2;rw[if_pos rfl];refine Ε4 hp (thn (hb Wj s2 σ1 H2 _ I2 q2) fun f s3 q3=>?_);cases f with
  | next =>
   obtain⟨σ3,H3,I3,n3⟩:=q3;obtain⟨m',hm,w3⟩:=hN σ3 H3 n3;exact⟨m',hm,σ3,H3,I3,w3⟩
  | cont =>
   obtain⟨σ3,H3,I3,n3⟩:=q3;obtain⟨m',hm,w3⟩:=hN σ3 H3 n3;exact⟨m',hm,σ3,H3,I3,w3⟩
  | brk=>exact q3
  | ret v=>exact q3
 | false =>
  rw[if_neg Φ];exact wpAny_execs_nil ⟨σ1,H2,I2,q2⟩
end
mutual
example:=[(by simp),Addr×Obj,.ref it,I.ok.hd hc,model P w,(fun b o hb e=>eb b o hb e),(by decide),(fun b o hb e=>(sb.2 b hb).trans e),letOwnedTupleGo tg (.ref it) u,(by simpa using hu),(by rw[z];exact hb),model X.prog X.w,(by simp;omega)]
structure It where
 go:Nat->Hp->Prop
 Yj:Nat->Hp->V->Hp->Prop
 stop:Nat->Hp->Prop
def mB(X:Cx)(Wj:List 1e0)(H:Hp)(b:Addr):Prop :=
 H b=none/\b≠X.env.locals/\b∉X.fs/\(b∈X.ex\/X.s₀.heap.objs.size<=b)/\(∀ x c,X.env.cells.lookup x=some c->c≠b)/\∀ p∈X.pn++Wj,p.1≠b
def Wm.HW{H':Hp}(I:Wm X Wj σ H s)(hb:s.heap.objs.size<=b)(hn:H' b=none):mB X Wj H' b:=by
 refine⟨hn,Nat.ne_of_gt (Υ I.lt hb),I.Rr hb,.inr (ϐ I.sz hb),fun x c e z=>?_,fun p hp z=>?_⟩
 ·obtain⟨v,q⟩:=I.cell x c e;exact absurd (Υ q.lt 0e1) (Ϝ _)
 ·exact absurd (Υ (Μ (I.pin p hp).1) 0e1) (Ϝ _)
structure Turn(P:Program)(w:World)(K:q0B)(tg:Expr)(J:It)(fp:List Addr)(it:Addr)(tn:Nat->Heap->Prop):Prop where
 mem:it∈fp
 obj:∀ i h,tn i h->∀ b∈fp,∃ o,h.get? b=some o/\∀ v,o.data≠.cell v
 keep:∀ i h h',tn i h->(∀ b∈fp,∀ o,h.get? b=some o->h'.get? b=some o)->tn i h'
 item:∀(X:Cx),X.prog=P->X.w=w->X.K=K->X.calm=true->∀(i:Nat) (Wj:List 1e0) (s:Shared) (σ:St) (H:Hp) (E:q0A),Wm X Wj σ H s->(∀ b∈fp,mB X Wj H b)->tn i s.heap->J.go i H ->
  wpAny 4e0 X.A (pyNext 2e0) (fun r s1=>∃ u,r=some u /\
   wpAny 4e0 X.A 8e0 (fun _ s2=>∃ x H',Wm X Wj σ H' s2/\bN x u/\J.Yj i H x H'/\tn (i+1) s2.heap/\∀ b∈fp,H' b=none) E s1) E s
 done:∀(X:Cx),X.prog=P->X.w=w->X.K=K->X.calm=true->∀(i:Nat) (Wj:List 1e0) (s:Shared) (σ:St) (H:Hp) (E:q0A),Wm X Wj σ H s->(∀ b∈fp,mB X Wj H b)->tn i s.heap->J.stop i H ->
  wpAny 4e0 X.A (pyNext 2e0) (fun r s1=>r=none/\Wm X Wj σ H s1) E s
 self:∀(A:Around) (i:Nat) (s:Shared) (Q:q0A) (E:q0A),tn i s.heap->Q 2e0 s->wpAny 4e0 A (pyIter 2e0) Q E s
abbrev TI:=St->Hp->(It->Hp->Prop)->Prop
def PIE(X:Cx)(Wj:List 1e0)(σ:St)(tg:Expr)(R:It->Hp->Prop)(itv:Value)(s2:Shared):Prop :=
 ∃(it:Addr) (fp:List Addr) (tn:Nat->Heap->Prop) (J:It) (H':Hp),itv=.ref it/\Wm X Wj σ H' s2/\Turn X.prog X.w X.K tg J fp it tn/\tn 0 s2.heap/\(∀ b∈fp,mB X Wj H' b)/\R J H'
def PI(X:Cx)(tg iter:Expr)(wi:TI):Prop :=
 ∀(Wj:List 1e0) (s:Shared) (σ:St) (H:Hp) (R:It->Hp->Prop),Wm X Wj σ H s->wi σ H R ->
  wpAny 1e1 X.A (eval iter X.env) (fun v s1=>wpAny 1e1 X.A (pyIter v) (PIE X Wj σ tg R) X.xe s1) X.xe s
def Gp{it:Addr}{n:String}{vs:Array Value}(ho:s.heap.get? it=some o)(hc:o.cls=.type n)(hd:o.data=.fields vs)(hn:["enumerate","zip","dict_itemiterator","dict_reverseitemiterator","odict_iterator","itertools.zip_longest","itertools.pairwise"].contains n=false)(hQ:Q () s):wpAny M A 8e0 Q E s:=by
  unfold letOwnedTupleGo;cases tg<;>first
    | exact Θ hQ
    | (cases u<;>first
        | exact Θ hQ
        | (refine Β (wpAny_load ho ?_)
           rw[hc,hd];show wpAny M A (if (["enumerate","zip","dict_itemiterator","dict_reverseitemiterator","odict_iterator","itertools.zip_longest","itertools.pairwise"].contains n&&vs[0]?==some (rawInt _))=true then _ else _) Q E s;rw[if_neg (by intro h;rw[hn,Bool.false_and] at h;cases h)];exact Θ hQ))
def Yl(K:q0B)(a:Addr):It :=
 ⟨fun i H=>∃ xs x,eU K H a xs/\xs[i]?=some x,fun i H x H'=>H'=H/\∀ xs,eU K H a xs->xs[i]?=some x,fun i H=>∃ xs,eU K H a xs/\xs.length<=i⟩
def Itt(K:q0B)(a:Addr):It :=
 ⟨fun i H=>∃ xs x,g8 K H a xs/\xs[i]?=some x,fun i H x H'=>H'=H/\∀ xs,g8 K H a xs->xs[i]?=some x,fun i H=>∃ xs,g8 K H a xs/\xs.length<=i⟩
def Yy(lo:Int)(n:Nat):It:=⟨fun i _=>i < n,fun i H x H'=>H'=H/\x=.int (lo+i),fun i _=>n<=i⟩
theorem IZ(a it:Addr):Turn P w K tg (Yl K a) [it] it (fun i h=>h.IsListIter it a i) where
 mem:=by simp
 obj:=fun i h st b hb=>by
  have e:b=it:=by simpa using hb
  subst e;obtain⟨o,e,c,d⟩:=st;exact⟨o,e,fun v z=>by rw[d] at z;cases z⟩
 keep:=fun i h h' st k=>st.at fun o e=>k it 0e0 o e
 item:=by
  intro X hP hw hK hc i Wj s σ H E I hf st hg;subst hP hw hK;obtain⟨xs,x,hq,hx⟩:=hg;obtain⟨Wn,rv,p,hz⟩:=I.list hq;obtain⟨u,hu,ru⟩:=rv.get hx;obtain⟨f0,f1,f2,f3,f4,f5⟩:=hf it 0e0;refine wpAny_pyNext_list_item st p.isList (x:=u) 9e0 fun h' WN sb=>?_;have I1:Wm X Wj σ H {s with heap:=h'}:=I.turned (t':=s.toks) 7e0 f0 f1 f3 f4 f5;obtain⟨o,e,c,d⟩:=id WN;exact⟨u,rfl,Gp (s:={s with heap:=h'}) e c d 6e0 ⟨x,H,I1,ru,⟨rfl,fun ys hy=>by rw[I.KW hy hq];exact hx⟩,WN,fun b hb=>(hf b hb).1⟩⟩
 done:=by
  intro X hP hw hK hc i Wj s σ H E I hf st hg;subst hP hw hK;obtain⟨xs,hq,hx⟩:=hg;obtain⟨Wn,rv,p,hz⟩:=I.list hq;obtain⟨f0,f1,f2,f3,f4,f5⟩:=hf it 0e0;have hl:=rv.length;exact wpAny_pyNext_list_end 3e0 st p.isList 2e1 fun h' eb=>⟨rfl,I.turned (t':=s.toks) 5e0 f0 f1 f3 f4 f5⟩
 self:=fun _ _ _ _ _ st h=>wpAny_pyIter_listiter st h
theorem Fs(a it:Addr):Turn P w K tg (Itt K a) [it] it (fun i h=>h.IsTupleIter it a i) where
 mem:=by simp
 obj:=fun i h st b hb=>by
  have e:b=it:=by simpa using hb
  subst e;obtain⟨o,e,c,d⟩:=st;exact⟨o,e,fun v z=>by rw[d] at z;cases z⟩
 keep:=fun i h h' st k=>st.at fun o e=>k it 0e0 o e
 item:=by
  intro X hP hw hK hc i Wj s σ H E I hf st hg;subst hP hw hK;obtain⟨xs,x,hq,hx⟩:=hg;obtain⟨Wn,rv,p,hz⟩:=I.tuple hq;obtain⟨u,hu,ru⟩:=rv.get hx;obtain⟨f0,f1,f2,f3,f4,f5⟩:=hf it 0e0;refine wpAny_pyNext_tuple_item st (show s.heap.IsTuple a Wn.toArray from p) (x:=u) 9e0 fun h' WN sb=>?_;have I1:Wm X Wj σ H {s with heap:=h'}:=I.turned (t':=s.toks) 7e0 f0 f1 f3 f4 f5;obtain⟨o,e,c,d⟩:=id WN;exact⟨u,rfl,Gp (s:={s with heap:=h'}) e c d 6e0 ⟨x,H,I1,ru,⟨rfl,fun ys hy=>by rw[I.IX hy hq];exact hx⟩,WN,fun b hb=>(hf b hb).1⟩⟩
 done:=by
  intro X hP hw hK hc i Wj s σ H E I hf st hg;subst hP hw hK;obtain⟨xs,hq,hx⟩:=hg;obtain⟨Wn,rv,p,hz⟩:=I.tuple hq;obtain⟨f0,f1,f2,f3,f4,f5⟩:=hf it 0e0;have hl:=rv.length;exact wpAny_pyNext_tuple_end 3e0 st (show s.heap.IsTuple a Wn.toArray from p) 2e1 fun h' eb=>⟨rfl,I.turned (t':=s.toks) 5e0 f0 f1 f3 f4 f5⟩
 self:=fun _ _ _ _ _ st h=>wpAny_pyIter_tupleiter st h
theorem Fq(it:Addr)(lo:Int)(n:Nat):Turn P w K tg (Yy lo n) [it] it (fun i h=>IsRangeIter h it (lo+(i:Nat) * 1) ((n:Int) - (i:Nat)) 1) where
 mem:=by simp
 obj:=fun i h st b hb=>by
  have e:b=it:=by simpa using hb
  subst e;exact⟨_,st,fun v z=>by
   have z':Data.fields _=Data.cell v:=z;cases z'⟩
 keep:=fun i h h' st k=>k it 0e0 _ st
 item:=by
  intro X hP hw hK hc i Wj s σ H E I hf st hg;subst hP hw hK;obtain⟨f0,f1,f2,f3,f4,f5⟩:=hf it 0e0;have W:=Walks.range (prog:=X.prog) (w:=X.w) 3e0 it lo 1 n;refine W.item i s _ _ hg st fun v h' tk hv WN kk=>?_;obtain⟨t,rfl⟩:=hv;have I1:Wm X Wj σ H {s with heap:=h',toks:=tk}:=I.turned (fun b o hb e=>kk b o (by simpa using hb) e) f0 f1 f3 f4 f5;refine⟨_,rfl,Gp (s:={s with heap:=h',toks:=tk}) (n:="range_iterator") WN rfl rfl 6e0 ⟨.int (lo+i),H,I1,⟨t,?_⟩,⟨rfl,rfl⟩,WN,fun b hb=>(hf b hb).1⟩⟩;rw[Int.mul_one]
 done:=by
  intro X hP hw hK hc i Wj s σ H E I hf st hg;subst hP hw hK;obtain⟨f0,f1,f2,f3,f4,f5⟩:=hf it 0e0;exact wpAny_pyNext_range_end 3e0 st (by have:n<=i:=hg;omega) fun h' eb=>⟨rfl,I.turned (t':=s.toks) 5e0 f0 f1 f3 f4 f5⟩
 self:=fun _ _ _ _ _ st h=>wpAny_pyIter_rangeiter st h
end
section
mutual
example:=[I1.Ws.fresh (Ι _),2 ^ 62,Ψ _ (Ψ _ (gW hb e)),hl Wj s σ H _ I h,model X.prog X.w,Addr×Obj]
def wC(K:q0B)(tl:TE):TI:=fun σ H R=>tl σ H fun x H1=>∃ a,x=.ref a/\(∃ xs,eU K H1 a xs)/\R (Yl K a) H1
def Ku(K:q0B)(tl:TE):TI:=fun σ H R=>tl σ H fun x H1=>∃ a,x=.ref a/\(∃ xs,g8 K H1 a xs)/\R (Itt K a) H1
def jO{l:Expr}{tl:TE}(hl:PE X l tl):PI X tg l (wC X.K tl):=by
 intro Wj s σ H R I h;refine thn 3e0 fun v s1 ⟨x,H1,I1,r1,q1⟩=>?_;obtain⟨a,e,⟨xs,hq⟩,q⟩:=q1;subst e;cases r1;obtain⟨Wn,rv,p,hz⟩:=I1.list hq;refine wpAny_pyIter_list p.isList ?_;refine⟨s1.heap.objs.size,[s1.heap.objs.size],_,_,H1,rfl,I1.kept (t':=s1.toks) fun b o e=>Ζ _ e,IZ a _,⟨_,Χ _ rfl,rfl,rfl⟩,fun b hb=>?_,q⟩;have e:b=s1.heap.objs.size:=by simpa using hb
 subst e;exact I1.HW (Ι _) 0e0
def LB{l:Expr}{tl:TE}(hl:PE X l tl):PI X tg l (Ku X.K tl):=by
 intro Wj s σ H R I h;refine thn 3e0 fun v s1 ⟨x,H1,I1,r1,q1⟩=>?_;obtain⟨a,e,⟨xs,hq⟩,q⟩:=q1;subst e;cases r1;obtain⟨Wn,rv,p,hz⟩:=I1.tuple hq;refine wpAny_pyIter_tuple (show s1.heap.IsTuple a Wn.toArray from p) ?_;refine⟨s1.heap.objs.size,[s1.heap.objs.size],_,_,H1,rfl,I1.kept (t':=s1.toks) fun b o e=>Ζ _ e,Fs a _,⟨_,Χ _ rfl,rfl,rfl⟩,fun b hb=>?_,q⟩;have e:b=s1.heap.objs.size:=by simpa using hb
 subst e;exact I1.HW (Ι _) 0e0
theorem LF{R:It->Hp->Prop}{lo hi:Int}{t u v:Tok}{tk:Nat}(I:Wm X Wj σ H s)(h1:-1e0<=lo)(h2:lo < 2 ^ 62)(h3:-1e0<=hi)(h4:hi < 2 ^ 62)(q:R (Yy lo (hi - lo).toNat) H):wpAny 4e0 X.A (pyIter (.ref s.heap.objs.size)) (PIE X Wj σ tg R) E {s with heap:=s.heap.push {cls:=.type "range",data:=.fields #[.int lo t,.int hi u,.int 1 v]},toks:=tk}:=by
 refine wpAny_pyIter_range (IsRange.new ..) (small_one h1 h2 h3 h4) ?_;have I1:Wm X Wj σ H {s with heap:=s.heap.push {cls:=.type "range",data:=.fields #[.int lo t,.int hi u,.int 1 v]},toks:=tk}:=I.kept fun b o e=>Ζ _ e;refine⟨(s.heap.push {cls:=.type "range",data:=.fields #[.int lo t,.int hi u,.int 1 v]}).objs.size,[(s.heap.push {cls:=.type "range",data:=.fields #[.int lo t,.int hi u,.int 1 v]}).objs.size],_,_,H,rfl,
  I1.kept (t':=tk) fun b o e=>Ζ _ e,Fq _ lo (hi - lo).toNat,?_,fun b hb=>?_,q⟩
 ·have e1:lo+((0:Nat):Int) * 1=lo:=by simp
  have e2:(((hi - lo).toNat:Nat):Int) - ((0:Nat):Int)=Builtin.Range.rangeSize lo hi 1:=by rw[rangeSize_one];split<;>omega
  show IsRangeIter _ _ (lo+((0:Nat):Int) * 1) ((((hi - lo).toNat:Nat):Int) - ((0:Nat):Int)) 1;rw[e1,e2];exact Χ _ rfl
 ·have e:b=(s.heap.push {cls:=.type "range",data:=.fields #[.int lo t,.int hi u,.int 1 v]}).objs.size:=by simpa using hb
  subst e;exact I1.HW (Ι _) 0e0
def CF(ta:TA):TI:=fun σ H R=>ta σ H fun vs H1=>∃ j:Int,vs=[.int j]/\-1e0<=j/\j < 2 ^ 62/\R (Yy 0 j.toNat) H1
theorem sA{a:Expr}{ta:TA}{p:Pos}(hg:Gl X "range")(hm:X.mg "range"=none)(ha:PA X [a] ta)(hs:starEach [a] X.env=[(false,eval a X.env)]:=by rfl):PI X tg (.Call (.Name "range" p) [a] [] pos) (CF ta):=by
 intro Wj s σ H R I h;refine Call_ (EH I hg hm boot_range (PyProof.Rows.callWith_type1 (thn (ha pos Wj s σ H _ I h) fun us s1 ⟨vs,H1,I1,r1,q1⟩=>?_) hs rfl));obtain⟨j,e,q1,q2,q⟩:=q1;subst e;cases r1 with
 | cons r rr =>
  cases rr;obtain⟨t,rfl⟩:=r;exact call_range_1 (LF I1 (by omega) (by omega) q1 q2 (by simpa using q))
def Fl(wi:TI)(g:TG)(tb:TS):TS:=fun D σ H=>wi σ H fun J H1=>∃ W:Nat->Nat->St->Hp->Prop,(∃ m,W 0 m σ H1)/\∀ i m σ H,W i m σ H ->
 (J.stop i H/\D.nx σ H)\/(J.go i H/\∃ N:St->Hp->Prop,(∀ σ' H',N σ' H'->∃ m',m' < m/\W (i+1) m' σ' H')/\∀ x H',J.Yj i H x H'->g x σ H' fun σ2 H2=>tb {D with nx:=N,ct:=N,bk:=D.nx} σ2 H2)
def sC(fp:List Addr)(h:Heap):List 5e0:=fp.filterMap fun b=>(h.get? b).map fun o=>(b,o)
def gW(hb:b∈fp)(e:h.get? b=some o):(b,o)∈sC fp h:=List.mem_filterMap.mpr ⟨b,hb,by rw[e];rfl⟩
def Iq{p:Addr×Obj}(hp:p∈sC fp h):p.1∈fp/\h.get? p.1=some p.2:=by
 obtain⟨b,hb,e⟩:=List.mem_filterMap.mp hp;cases q:h.get? b with
 | none=>rw[q] at e;cases e
 | some o =>
  rw[q] at e;have e':(b,o)=p:=ϖ e;subst e';exact⟨hb,q⟩
def Wm.pinned(I:Wm X Wj σ H s)(hf:∀ b∈fp,mB X Wj H b)(ho:∀ b∈fp,∃ o,s.heap.get? b=some o/\∀ v,o.data≠.cell v):Wm X (Wj++sC fp s.heap) σ H s :=
 I.jP fun p hp=>(Κ.mp hp).elim (fun z=>I.pin p (Ψ _ z)) fun z=>by
  obtain⟨hb,e⟩:=Iq z;obtain⟨f0,f1,f2,_⟩:=hf p.1 hb;obtain⟨o,e',d⟩:=ho p.1 hb;rw[e] at e';cases e';exact⟨e,f0,f1,f2,d⟩
def Wm.yM{pl:List 5e0}(I:Wm X (Wj++pl) σ H s):Wm X Wj σ H s:=I.jP fun p hp=>I.pin p (Ψ _ (List.mem_append_left _ hp))
def xK{iter:Expr}{wi:TI}(hp:PassesOwn 4e0 X.A X.env X.xe)(hc:X.calm=true)(hi:PI X tg iter wi)(hg:PG X tg g)(hb:XF X body tb)(hs:∀ x,foldedSetIterable iter X.env x=pure x:=by intro _;rfl):PS X (.For tg iter body [] pos) (Fl wi g tb):=by
 intro Wj s σ H D I h;refine wpAny_For (thn (hi Wj s σ H _ I h) fun v s1 h1=>thn h1 fun itv s2 h2=>?_) hs;obtain⟨it,fp,tn,J,H2,e,I2,T,X6,f2,W,⟨m0,w0⟩,turn⟩:=h2;subst e;have Xp:∀ {H':Hp},(∀ b∈fp,H' b=none)->∀ b∈fp,mB X Wj H' b:=fun hn b hb=>⟨hn b hb,(f2 b hb).2⟩;refine codeAny_forLoop_any (fun n s'=>∃ i σ' H',Wm X Wj σ' H' s'/\tn i s'.heap/\(∀ b∈fp,H' b=none)/\W i n σ' H') ?_ m0 ⟨0,σ,H2,I2,X6,fun b hb=>(f2 b hb).1,w0⟩;rintro n s3 ⟨i,σ3,H3,I3,Zn,fr3,w3⟩;rcases turn i n σ3 H3 w3 with⟨stop,qn⟩|⟨go,N,hN,step⟩
 ·refine Ε4 hp (thn (T.done X rfl rfl rfl hc i Wj s3 σ3 H3 X.xe I3 (Xp fr3) Zn stop) fun r s4 ⟨hr,I4⟩=>?_);subst hr;exact wpAny_execs_nil ⟨σ3,H3,I4,qn⟩
 ·refine Ε4 hp (thn (T.item X rfl rfl rfl hc i Wj s3 σ3 H3 X.xe I3 (Xp fr3) Zn go) fun r s4 ⟨u,hr,h4⟩=>?_);subst hr;refine Ε4 hp (thn h4 fun _ s5 ⟨x,H5,I5,r5,y5,st5,fr5⟩=>?_);have I5':=I5.pinned (Xp fr5) (T.obj _ _ st5);refine Ε4 hp (thn (hg _ s5 σ3 H5 x u _ I5' r5 (step x H5 y5)) fun _ s6 ⟨σ6,H6,I6,q6⟩=>?_);refine Ε4 hp (thn (hb _ s6 σ6 H6 _ I6 q6) fun f s7 q7=>?_);have again:∀ {σ7:St} {H7:Hp},Wm X (Wj++sC fp s5.heap) σ7 H7 s7->N σ7 H7->∃ m,m < n/\∃ i σ' H',Wm X Wj σ' H' s7/\tn i s7.heap/\(∀ b∈fp,H' b=none)/\W i m σ' H':=fun {σ7 H7} I7 n7=>by
   obtain⟨m',hm,w7⟩:=hN σ7 H7 n7;refine⟨m',hm,i+1,σ7,H7,I7.yM,T.keep _ _ _ st5 fun b hb o e=>(I7.pin (b,o) 2e0).1,fun b hb=>?_,w7⟩;obtain⟨o,e,d⟩:=T.obj _ _ st5 b hb;exact(I7.pin (b,o) 2e0).2.1
  cases f with
  | next=>obtain⟨σ7,H7,I7,n7⟩:=q7;exact again I7 n7
  | cont=>obtain⟨σ7,H7,I7,n7⟩:=q7;exact again I7 n7
  | brk=>obtain⟨σ7,H7,I7,q7⟩:=q7;exact⟨σ7,H7,I7.yM,q7⟩
  | ret v=>obtain⟨x7,σ7,H7,I7,r7,q7⟩:=q7;exact⟨x7,σ7,H7,I7.yM,r7,q7⟩
end
end
theorem vW(Pv:Nat->St->Hp->Prop)(h0:Pv 0 σ H)(hl:∀ i σ H,i<=xs.length->Pv i σ H->eU K H a xs)(hs:∀ i x σ H,xs[i]?=some x->Pv i σ H->g x σ H fun σ2 H2=>tb {D with nx:=Pv (i+1),ct:=Pv (i+1),bk:=D.nx} σ2 H2)(hd:∀ σ H,Pv xs.length σ H->D.nx σ H) : ∃ W:Nat->Nat->St->Hp->Prop,(∃ m,W 0 m σ H)/\∀ i m σ H,W i m σ H -> ((Yl K a).stop i H/\D.nx σ H)\/((Yl K a).go i H/\∃ N:St->Hp->Prop,(∀ σ' H',N σ' H'->∃ m',m' < m/\W (i+1) m' σ' H')/\∀ x H',(Yl K a).Yj i H x H'->g x σ H' fun σ2 H2=>tb {D with nx:=N,ct:=N,bk:=D.nx} σ2 H2):=by
 refine⟨fun i m σ H=>m=xs.length - i/\i<=xs.length/\Pv i σ H,⟨xs.length,by simp,Α5 _,h0⟩,?_⟩;rintro i m σ H ⟨rfl,hi,p⟩;have q:=hl i σ H hi p;by_cases WS:i < xs.length
 ·refine .inr ⟨⟨xs,xs[i],q,by simp[WS]⟩,Pv (i+1),fun σ' H' p'=>⟨xs.length - (i+1),by omega,rfl,WS,p'⟩,fun x H' y=>?_⟩;obtain⟨e,y⟩:=y;subst e;exact hs i x σ _ (y xs q) p
 ·have e:i=xs.length:=by omega
  subst e;exact .inl ⟨⟨xs,q,Ι _⟩,hd σ H p⟩
theorem Ac{lo:Int}(Pv:Nat->St->Hp->Prop)(h0:Pv 0 σ H)(hs:∀ i σ H,i < n->Pv i σ H->g (.int (lo+i)) σ H fun σ2 H2=>tb {D with nx:=Pv (i+1),ct:=Pv (i+1),bk:=D.nx} σ2 H2)(hd:∀ σ H,Pv n σ H->D.nx σ H) : ∃ W:Nat->Nat->St->Hp->Prop,(∃ m,W 0 m σ H)/\∀ i m σ H,W i m σ H -> ((Yy lo n).stop i H/\D.nx σ H)\/((Yy lo n).go i H/\∃ N:St->Hp->Prop,(∀ σ' H',N σ' H'->∃ m',m' < m/\W (i+1) m' σ' H')/\∀ x H',(Yy lo n).Yj i H x H'->g x σ H' fun σ2 H2=>tb {D with nx:=N,ct:=N,bk:=D.nx} σ2 H2):=by
 refine⟨fun i m σ H=>m=n - i/\i<=n/\Pv i σ H,⟨n,by simp,Α5 _,h0⟩,?_⟩;rintro i m σ H ⟨rfl,hi,p⟩;by_cases WS:i < n
 ·refine .inr ⟨WS,Pv (i+1),fun σ' H' p'=>⟨n - (i+1),by omega,rfl,WS,p'⟩,fun x H' y=>?_⟩;obtain⟨e,y⟩:=y;subst e y;exact hs i σ _ WS p
 ·have e:i=n:=by omega
  subst e;exact .inl ⟨Ι _,hd σ H p⟩
abbrev R2:=V->V->Hp->VK->Prop
variable{r:R2}
mutual
example:=[model X.prog X.w,Addr×Obj,EP X Wj σ Q]
def iW(X:Cx)(f:Value->Value->Sem Value)(r:R2):Prop :=
 ∀(Wj:List 1e0) (s:Shared) (σ:St) (H:Hp) (x y:V) (v u:Value) (Q:VK),Wm X Wj σ H s->bN x v->bN y u->r x y H Q ->
  wpAny 0e0 X.A (f v u) 2e0 X.xe s
def Vh(X:Cx)(f:Value->Sem Value)(r:V->Hp->VK->Prop):Prop :=
 ∀(Wj:List 1e0) (s:Shared) (σ:St) (H:Hp) (x:V) (v:Value) (Q:VK),Wm X Wj σ H s->bN x v->r x H Q ->
  wpAny 0e0 X.A (f v) 2e0 X.xe s
def gF(X:Cx)(f:Value)(r:List V->Hp->VK->Prop):Prop :=
 ∀(Wj:List 1e0) (s:Shared) (σ:St) (H:Hp) (xs:List V) (us:List Value) (Q:VK),Wm X Wj σ H s->Wq xs us->r xs H Q ->
  wpAny 0e0 X.A (call f us) 2e0 X.xe s
def Vg(X:Cx)(r:V->Hp->(Bool->Hp->Prop)->Prop):Prop :=
 ∀(Wj:List 1e0) (s:Shared) (σ:St) (H:Hp) (x:V) (v:Value) (Q:Bool->Hp->Prop),Wm X Wj σ H s->bN x v->r x H Q ->
  wpAny 0e0 X.A (truthy v) (TP X Wj σ Q) X.xe s
def OK(r:R2)(ta tb:TE):TE:=fun σ H Q=>ta σ H fun x H1=>tb σ H1 fun y H2=>r x y H2 Q
def Wa(r:V->Hp->VK->Prop)(ta:TE):TE:=fun σ H Q=>ta σ H fun x H1=>r x H1 Q
def rI(C:Int->Int->Prop)(g:Int->Int->V):R2:=fun x y H Q=>∃ i j,x=.int i/\y=.int j/\C i j/\Q (g i j) H
def Mu(g:Int->Int->V):R2:=fun x y H Q=>∃ i j,x=.int i/\y=.int j/\Q (g i j) H
def rU(g:Int->V):V->Hp->VK->Prop:=fun x H Q=>∃ i,x=.int i/\Q (g i) H
end
section
variable{a b:Expr}{ta tb tc:TE}
mutual
example:=[g i j,model X.prog X.w,f (.int i t) (.int j u),intBits_le_64 h1 h2,ha Wj s σ H _ I h]
def PV(ha:PE X a ta)(hb:PE X b tb){R:V->V->Hp->Prop}(I:Wm X Wj σ H s)(h:ta σ H fun x H1=>tb σ H1 fun y H2=>R x y H2){Q:q0A}(hf:∀ v u s2 x y H2,Wm X Wj σ H2 s2->bN x v->bN y u->R x y H2->wpAny 1e0 X.A (f v u) Q X.xe s2) : wpAny 1e0 X.A (eval a X.env) (fun v s₁=>wpAny 1e0 X.A (eval b X.env) (fun u s₂=>wpAny 1e0 X.A (f v u) Q X.xe s₂) X.xe s₁) X.xe s:=by
 refine thn 4e0 fun v s1 ⟨x,H1,I1,r1,q1⟩=>?_;refine thn (hb Wj s1 σ H1 _ I1 q1) fun u s2 ⟨y,H2,I2,r2,q2⟩=>?_;exact hf v u s2 x y H2 I2 r1 r2 q2
def bC{op:Operator}(ho:iW X (binaryOp op) r)(ha:PE X a ta)(hb:PE X b tb):PE X (.BinOp a op b pos) (OK r ta tb):=by
 intro Wj s σ H Q I h;exact wpAny_BinOp (PV ha hb I h fun v u s2 x y H2 I2 rx ry q=>ho Wj s2 σ H2 x y v u Q I2 rx ry q)
def fH{op:UnaryOp}{r:V->Hp->VK->Prop}(ho:Vh X (unaryOp op) r)(ha:PE X a ta):PE X (.UnaryOp op a pos) (Wa r ta):=by
 intro Wj s σ H Q I h;exact UnaryOp_ (thn 4e0 fun v s1 ⟨x,H1,I1,r1,q1⟩=>ho Wj s1 σ H1 x v Q I1 r1 q1)
def U9{C:Int->Int->Prop}{g:Int->Int->Int}(rule:∀(i j:Int) (t u:Tok) (s:Shared) (Q:q0A) (E:q0A),C i j->Q (.int 0e0 s.toks) {s with toks:=s.toks+1}->wpAny 1e0 X.A 2e0 Q E s) : iW X f (rI C fun i j=>.int 0e0):=by
 intro Wj s σ H x y v u Q I rx ry h;obtain⟨i,j,rfl,rfl,hc,q⟩:=h;obtain⟨t,rfl⟩:=rx;obtain⟨t',rfl⟩:=ry;exact rule i j t t' s _ _ hc ⟨.int 0e0,H,I.tok _,⟨_,rfl⟩,q⟩
def Ul{g:Int->Int->Int}(rule:∀(i j:Int) (t u:Tok) (s:Shared) (Q:q0A) (E:q0A),Q (.int 0e0 s.toks) {s with toks:=s.toks+1}->wpAny 1e0 X.A 2e0 Q E s) : iW X f (Mu fun i j=>.int 0e0):=by
 intro Wj s σ H x y v u Q I rx ry h;obtain⟨i,j,rfl,rfl,q⟩:=h;obtain⟨t,rfl⟩:=rx;obtain⟨t',rfl⟩:=ry;exact rule i j t t' s _ _ ⟨.int 0e0,H,I.tok _,⟨_,rfl⟩,q⟩
def Od{g:Int->Int->Bool}(rule:∀(i j:Int) (t u:Tok) (s:Shared) (Q:q0A) (E:q0A),Q (.bool 0e0) s->wpAny 1e0 X.A 2e0 Q E s) : iW X f (Mu fun i j=>.bl 0e0):=by
 intro Wj s σ H x y v u Q I rx ry h;obtain⟨i,j,rfl,rfl,q⟩:=h;obtain⟨t,rfl⟩:=rx;obtain⟨t',rfl⟩:=ry;exact rule i j t t' s _ _ ⟨.bl 0e0,H,I,rfl,q⟩
def CPow(i j:Int):Prop:=0<=j/\j<=1000000/\i.natAbs < 2 ^ 64
def CMul(i j:Int):Prop:=(-(2 ^ 64) < i/\i < 2 ^ 64)\/(-(2 ^ 64) < j/\j < 2 ^ 64)
def CMul.ok{i j:Int}(h:CMul i j):IntMulOk i j:=by
 rcases h with⟨h1,h2⟩|⟨h1,h2⟩
 ·exact .of_left 3e0
 ·exact .of_right 3e0
def Rw:iW X (binaryOp .Add) (Mu fun i j=>.int (i+j)):=Ul fun _ _ _ _ _ _ _ q=>add_int q
def jC:iW X (binaryOp .Sub) (Mu fun i j=>.int (i - j)):=Ul fun _ _ _ _ _ _ _ q=>sub_int q
def pC:iW X (binaryOp .Mult) (rI CMul fun i j=>.int (i * j)):=U9 fun _ _ _ _ _ _ _ hc q=>mul_int q hc.ok
theorem xF:iW X (binaryOp .Mod) (rI (fun _ j=>0 < j) fun i j=>.int (i % j)):=U9 fun i j _ _ _ _ _ hc q=>by
 have h1:(0:Int) < j:=hc;exact mod_int' (by omega) (by rw[Int.fmod_eq_emod_of_nonneg i (by omega)];exact q)
def iJ:iW X (binaryOp .Pow) (rI CPow fun i j=>.int (i ^ j.toNat)):=U9 fun _ _ _ _ _ _ _ hc q=>pow_int_small hc.1 hc.2.1 hc.2.2 q
def Wh{f:Value->Sem Value}{g:Int->Int}(rule:∀(i:Int) (t:Tok) (s:Shared) (Q:q0A) (E:q0A),Q (.int (g i) s.toks) {s with toks:=s.toks+1}->wpAny 1e0 X.A (f (.int i t)) Q E s) : Vh X f (rU fun i=>.int (g i)):=by
 intro Wj s σ H x v Q I rx h;obtain⟨i,rfl,q⟩:=h;obtain⟨t,rfl⟩:=rx;exact rule i t s _ _ ⟨.int (g i),H,I.tok _,⟨_,rfl⟩,q⟩
def dS:Vh X (unaryOp .USub) (rU fun i=>.int (-i)):=Wh fun _ _ _ _ _ q=>neg_int q
end
end
mutual
example:=[]
def Xo:V->V->Bool
 | .Wl,.Wl=>true | .Wl,.int _=>true | .int _,.Wl=>true | .Wl,.bl _=>true | .bl _,.Wl=>true | .Wl,.str _=>true | .str _,.Wl=>true
 | .int _,.int _=>true | .bl _,.bl _=>true | .str _,.str _=>true | .byt _,.byt _=>true
 | .int _,.str _=>true | .str _,.int _=>true | .bl _,.str _=>true | .str _,.bl _=>true
 | _,_=>false
def Mt:R2:=fun x y H Q=>Xo x y=true/\Q (.bl (decide (x=y))) H
def RP:R2:=fun x y H Q=>Xo x y=true/\Q (.bl (!decide (x=y))) H
theorem FV{i j:Int}:decide (V.int i=V.int j)=(i==j):=by
 rw[Δ7];simp
theorem JP{i j:Bool}:decide (V.bl i=V.bl j)=(i==j):=by
 rw[Δ7];simp
theorem FW{i j:Str}:decide (V.str i=V.str j)=(i==j):=by
 rw[Δ7];simp
theorem FU{i j:Array UInt8}:decide (V.byt i=V.byt j)=(i.toList==j.toList):=by
 rw[Δ7];cases i;cases j;simp
end
section
variable{a b:Expr}{ta tb tc:TE}
mutual
example:=[(bZ I q (by simp)),(by omega),(by simp only[Ε];omega),compareOp op,ho Wj s2 σ H2 x y v u _ I2 r1 r2 q2,.Compare a [op] [b] pos,hb Wj s1 σ H1 _ I1 q1,(if k then 1 else 0),ha Wj s σ H _ I h,(y.length:Int) !=0,(y.size:Int) !=0,OK r ta tb,I.ok.hd hc,bZ I q ?_]
def bZ{Q:VK}{k k':Bool}(I:Wm X Wj σ H s)(q:Q (.bl k) H)(e:k=k'):EP X Wj σ Q (.bool k') s:=by
 subst e;exact⟨.bl k,H,I,rfl,q⟩
def aS:iW X (compareOp .Eq) Mt:=by
 intro Wj s σ H x y v u Q I rx ry h;obtain⟨hs,q⟩:=h;cases x with
 | Wl =>
  cases rx;cases y with
  | Wl=>cases ry;exact PySem.EqNone.eq_none_none 0e0
  | bl j=>cases ry;exact PySem.EqNone.eq_none_bool 0e0
  | int j=>obtain⟨t',rfl⟩:=ry;exact PySem.EqNone.eq_none_int 0e0
  | str j=>obtain⟨t',rfl⟩:=ry;exact PySem.EqNone.eq_none_str 0e0
  | _=>exact absurd (show false=true from hs) Φ
 | bl i =>
  cases rx;cases y with
  | Wl=>cases ry;exact PySem.EqNone.eq_bool_none 0e0
  | bl j=>cases ry;exact eq_bool (bZ I q JP)
  | str j=>obtain⟨t',rfl⟩:=ry;exact PySem.EqMixed.eq_bool_str 0e0
  | _=>exact absurd (show false=true from hs) Φ
 | int i =>
  obtain⟨t,rfl⟩:=rx;cases y with
  | Wl=>cases ry;exact PySem.EqNone.eq_int_none 0e0
  | int j=>obtain⟨t',rfl⟩:=ry;exact eq_int (bZ I q FV)
  | str j=>obtain⟨t',rfl⟩:=ry;exact PySem.EqMixed.eq_int_str 0e0
  | _=>exact absurd (show false=true from hs) Φ
 | str i =>
  obtain⟨t,rfl⟩:=rx;cases y with
  | Wl=>cases ry;exact PySem.EqNone.eq_str_none 0e0
  | bl j=>cases ry;exact PySem.EqMixed.eq_str_bool 0e0
  | int j=>obtain⟨t',rfl⟩:=ry;exact PySem.EqMixed.eq_str_int 0e0
  | str j=>obtain⟨t',rfl⟩:=ry;exact eq_str (bZ I q FW)
  | _=>exact absurd (show false=true from hs) Φ
 | byt i =>
  obtain⟨t,rfl⟩:=rx;cases y with
  | byt j=>obtain⟨t',rfl⟩:=ry;exact PySem.W.eq_bytes (bZ I q FU)
  | _=>exact absurd (show false=true from hs) Φ
 | _=>cases y<;>exact absurd (show false=true from hs) Φ
def xG:iW X (compareOp .NotEq) RP:=by
 intro Wj s σ H x y v u Q I rx ry h;obtain⟨hs,q⟩:=h;cases x with
 | Wl =>
  cases rx;cases y with
  | Wl=>cases ry;exact PySem.EqNone.ne_none_none 0e0
  | bl j=>cases ry;exact PySem.EqNone.ne_none_bool 0e0
  | int j=>obtain⟨t',rfl⟩:=ry;exact PySem.EqNone.ne_none_int 0e0
  | str j=>obtain⟨t',rfl⟩:=ry;exact PySem.EqNone.ne_none_str 0e0
  | _=>exact absurd (show false=true from hs) Φ
 | bl i =>
  cases rx;cases y with
  | Wl=>cases ry;exact PySem.EqNone.ne_bool_none 0e0
  | bl j=>cases ry;exact ne_bool (bZ I q (congrArg not JP))
  | str j=>obtain⟨t',rfl⟩:=ry;exact PySem.EqMixed.ne_bool_str 0e0
  | _=>exact absurd (show false=true from hs) Φ
 | int i =>
  obtain⟨t,rfl⟩:=rx;cases y with
  | Wl=>cases ry;exact PySem.EqNone.ne_int_none 0e0
  | int j=>obtain⟨t',rfl⟩:=ry;exact ne_int (bZ I q (congrArg not FV))
  | str j=>obtain⟨t',rfl⟩:=ry;exact PySem.EqMixed.ne_int_str 0e0
  | _=>exact absurd (show false=true from hs) Φ
 | str i =>
  obtain⟨t,rfl⟩:=rx;cases y with
  | Wl=>cases ry;exact PySem.EqNone.ne_str_none 0e0
  | bl j=>cases ry;exact PySem.EqMixed.ne_str_bool 0e0
  | int j=>obtain⟨t',rfl⟩:=ry;exact PySem.EqMixed.ne_str_int 0e0
  | str j=>obtain⟨t',rfl⟩:=ry;exact ne_str (bZ I q (congrArg not FW))
  | _=>exact absurd (show false=true from hs) Φ
 | byt i =>
  obtain⟨t,rfl⟩:=rx;cases y with
  | byt j=>obtain⟨t',rfl⟩:=ry;exact PySem.W.ne_bytes (bZ I q (congrArg not FU))
  | _=>exact absurd (show false=true from hs) Φ
 | _=>cases y<;>exact absurd (show false=true from hs) Φ
theorem jN:iW X (compareOp .Lt) (Mu fun i j=>.bl (decide (i < j))):=Od fun _ _ _ _ _ _ _ q=>lt_int q
theorem Pg:iW X (compareOp .LtE) (Mu fun i j=>.bl (decide (i<=j))):=Od fun _ _ _ _ _ _ _ q=>le_int q
theorem GI:iW X (compareOp .Gt) (Mu fun i j=>.bl (decide (j < i))):=Od fun _ _ _ _ _ _ _ q=>gt_int q
theorem Um:iW X (compareOp .GtE) (Mu fun i j=>.bl (decide (j<=i))):=Od fun _ _ _ _ _ _ _ q=>ge_int q
theorem RB:iW X (compareOp .Is) (fun x y H Q=>y=.Wl/\Q (.bl (decide (x=.Wl))) H):=by
 intro Wj s σ H x y v u Q I rx ry h;obtain⟨rfl,q⟩:=h;cases ry;refine is_none_gen 3e1;cases x<;>first
  | (cases rx;rfl)
  | (obtain⟨t,rfl⟩:=rx;rfl)
theorem Oe:iW X (compareOp .IsNot) (fun x y H Q=>y=.Wl/\Q (.bl (!decide (x=.Wl))) H):=by
 intro Wj s σ H x y v u Q I rx ry h;obtain⟨rfl,q⟩:=h;cases ry;refine isnot_none_gen 3e1;cases x<;>first
  | (cases rx;rfl)
  | (obtain⟨t,rfl⟩:=rx;rfl)
def iW.or{r':R2}(h:iW X f r)(h':iW X f r'):iW X f (fun x y H Q=>r x y H Q\/r' x y H Q):=by
 intro Wj s σ H x y v u Q I rx ry q;rcases q with q|q
 ·exact h Wj s σ H x y v u Q I rx ry q
 ·exact h' Wj s σ H x y v u Q I rx ry q
theorem nomark(b:Expr)(h:op≠.In:=by decide)(h2:op≠.NotIn:=by decide):behindInMarks op b=false:=by
 have e1:(op==CmpOp.In)=false:=by cases op<;>first|rfl|exact absurd rfl h
 have e2:(op==CmpOp.NotIn)=false:=by cases op<;>first|rfl|exact absurd rfl h2
 cases b<;>simp[behindInMarks,e1,e2]
def BD(ho:iW X 3e0 r)(ha:PE X a ta)(hb:PE X b tb)(hm:behindInMarks op b=false):PE X 5e0 1e1:=by
 intro Wj s σ H Q I h;exact wpAny_Compare1 (PV ha hb I h fun v u s2 x y H2 I2 rx ry q=>ho Wj s2 σ H2 x y v u Q I2 rx ry q) hm
def AD(t:TE):TT:=fun σ H Q=>t σ H fun x H'=>∃ k,x=.bl k/\Q k H'
def dQ(ho:iW X 3e0 r)(ha:PE X a ta)(hb:PE X b tb)(hm:behindInMarks op b=false):PT X 5e0 (AD 1e1):=by
 intro Wj s σ H Q I h;refine wpAny_isTrue_Compare1 (thn 8e0 fun v s1 ⟨x,H1,I1,r1,q1⟩=>thn 6e0 fun u s2 ⟨y,H2,I2,r2,q2⟩ =>
  thn 4e0 fun c s3 ⟨z,H3,I3,r3,k,e,q3⟩=>?_) hm
 subst e;cases r3;exact Β5 ⟨H3,I3,q3⟩
def Fk(r r':R2)(ta tb tc:TE):TE:=fun σ H Q=>ta σ H fun x H1=>tb σ H1 fun y H2=>r x y H2 fun z H3=>∃ k,z=.bl k /\
 (if k=true then tc σ H3 fun w' H4=>r' y w' H4 Q else Q (.bl false) H3)
def LD{op':CmpOp}{r':R2}(ho:iW X 3e0 r)(Yd:iW X (compareOp op') r')(ha:PE X a ta)(hb:PE X b tb)(hc:PE X c tc)(hm:lastMarks [op,op'] [b,c]=false:=by with_unfolding_all rfl):PT X (.Compare a [op,op'] [b,c] pos) (AD (Fk r r' ta tb tc)):=by
 intro Wj s σ H Q I h;refine isTrue_chain (thn 8e0 fun v s1 ⟨x,H1,I1,r1,q1⟩=>test_link (thn 6e0 fun u s2 ⟨y,H2,I2,r2,q2⟩ =>
  thn 4e0 fun d s3 ⟨z,H3,I3,r3,k,e,q3⟩=>?_)) hm
 subst e;cases r3;refine Β5 ?_;cases k with
 | false =>
  obtain⟨k',e',q'⟩:=q3;cases e';exact ite_ff ⟨H3,I3,q'⟩
 | true =>
  refine ite_tt (test_last (thn (hc Wj s3 σ H3 _ I3 q3) fun w' s4 ⟨z',H4,I4,r4,q4⟩=>thn (Yd Wj s4 σ H4 y z' u w' _ I4 r2 r4 q4) fun d' s5 ⟨z2,H5,I5,r5,k2,e2,q5⟩=>?_));subst e2;cases r5;exact Β5 ⟨H5,I5,q5⟩
def Si(K:q0B)(x:V)(H:Hp)(k:Bool):Prop :=
 match x with
 | .Wl=>k=false
 | .bl b=>k=b
 | .int i=>k=(i !=0)
 | .str y=>y.length<=sizeLine/\k=9e0
 | .byt y=>y.size<=sizeLine/\k=0e1
 | .ref p=>(∃ xs,eU K H p xs/\k = !xs.isEmpty)\/(∃ xs,g8 K H p xs/\k = !xs.isEmpty)\/∃ kvs,H p=some (.dK kvs)/\k = !kvs.isEmpty
 | _=>False
def EG{κ:Type}{kvs:List (κ×V)}{vs:List (κ×Value)}(r:KV kvs vs):(!vs.isEmpty) = !kvs.isEmpty:=by
 cases r<;>rfl
def wH{Wn:List Value}(r:Wq xs Wn):(!Wn.toArray.isEmpty) = !xs.isEmpty:=by
 cases r<;>simp
theorem line63:(sizeLine:Nat) < 2 ^ 63:=by rw[Ε0];decide
theorem Fp:Vg X (fun x H Q=>∃ k,Si X.K x H k/\Q k H):=by
 intro Wj s σ H x v Q I rx h;obtain⟨k,e,q⟩:=h;have hl:=line63;have hs:sizeLine=16777216:=Ε0;cases x with
 | Wl =>
  cases rx;have e':k=false:=e;subst e';exact truthy_none ⟨H,I,q⟩
 | bl b =>
  cases rx;have e':k=b:=e;subst e';exact Β5 ⟨H,I,q⟩
 | int i =>
  obtain⟨t,rfl⟩:=rx;have e':k=(i !=0):=e;subst e';exact PySem.P.truthy_int ⟨H,I,q⟩
 | str y =>
  obtain⟨t,rfl⟩:=rx;obtain⟨hy,e'⟩:y.length<=sizeLine/\k=9e0:=e;subst e';exact PySem.P.truthy_str 1e0 ⟨H,I.tok _,q⟩
 | byt y =>
  obtain⟨t,rfl⟩:=rx;obtain⟨hy,e'⟩:y.size<=sizeLine/\k=0e1:=e;subst e';exact PySem.W.truthy_bytes 1e0 ⟨H,I.tok _,q⟩
 | ref p =>
  cases rx;have e':(∃ xs,eU X.K H p xs/\k = !xs.isEmpty)\/(∃ xs,g8 X.K H p xs/\k = !xs.isEmpty)\/∃ kvs,H p=some (.dK kvs)/\k = !kvs.isEmpty:=e;rcases e' with⟨xs,hx,e'⟩|⟨xs,hx,e'⟩|⟨kvs,hx,e'⟩
  ·subst e';obtain⟨Wn,r,pl,hz⟩:=I.list hx;have hlen:=r.length;exact wpAny_truthy_list pl.isList 2e0 ⟨H,I.tok _,by rw[wH r];exact q⟩
  ·subst e';obtain⟨Wn,r,pl,hz⟩:=I.tuple hx;have hlen:=r.length;exact truthy_tuple pl 2e0 ⟨H,I.tok _,by rw[wH r];exact q⟩
  ·subst e';obtain⟨hz,hS,vs,r,m⟩:kvs.length<=sizeLine/\(p==sysModules)=false/\∃ vs,KV kvs vs/\s.heap.DictOf (bJ X.prog X.w) p vs:=I.Ws p _ hx;have hlen:kvs.length=vs.length:=Paired.length r;exact wpAny_truthy_dict hS m 1e0 ⟨H,I.tok _,by rw[EG r];exact q⟩
 | _=>exact(show False from e).elim
def E4:iW X (binaryOp .Add) (fun x y H Q=>∃ i j,x=.str i/\y=.str j/\i.length+j.length<=sizeLine/\Q (.str (i++j)) H):=by
 intro Wj s σ H x y v u Q I rx ry h;obtain⟨i,j,rfl,rfl,hz,q⟩:=h;obtain⟨t,rfl⟩:=rx;obtain⟨t',rfl⟩:=ry;exact add_str (fun t' tk=>⟨.str (i++j),H,I.tok _,⟨_,rfl⟩,q⟩) hz
def vals1{x:V}(r:Wq [x] us):∃ u,us=[u]/\bN x u:=by
 cases r with
 | cons r1 r2=>cases r2;exact⟨_,rfl,r1⟩
def vals2{x y:V}(r:Wq [x,y] us):∃ u w',us=[u,w']/\bN x u/\bN y w':=by
 cases r with
 | cons r1 r2 =>
  cases r2 with
  | cons r3 r4=>cases r4;exact⟨_,_,rfl,r1,r3⟩
def HA(hc:X.calm=true):gF X (.builtin "max") (fun xs H Q=>∃ i j,xs=[.int i,.int j]/\Q (.int (if j > i then j else i)) H):=by
 intro Wj s σ H xs us Q I r h;obtain⟨i,j,rfl,q⟩:=h;obtain⟨u,w',rfl,⟨t,rfl⟩,⟨t',rfl⟩⟩:=vals2 r;refine max_two_ints 2e1 fun h' tk k=>⟨_,H,I.kept k,?_,q⟩;by_cases hj:j > i
 ·rw[if_pos hj,if_pos hj];exact⟨_,rfl⟩
 ·rw[if_neg hj,if_neg hj];exact⟨_,rfl⟩
def HB(hc:X.calm=true):gF X (.builtin "min") (fun xs H Q=>∃ i j,xs=[.int i,.int j]/\Q (.int (if j < i then j else i)) H):=by
 intro Wj s σ H xs us Q I r h;obtain⟨i,j,rfl,q⟩:=h;obtain⟨u,w',rfl,⟨t,rfl⟩,⟨t',rfl⟩⟩:=vals2 r;refine min_two_ints 2e1 fun h' tk k=>⟨_,H,I.kept k,?_,q⟩;by_cases hj:j < i
 ·rw[if_pos hj,if_pos hj];exact⟨_,rfl⟩
 ·rw[if_neg hj,if_neg hj];exact⟨_,rfl⟩
def Hy:gF X (.type "int") (fun xs H Q=>(∃ i,xs=[.int i]/\Q (.int i) H)\/∃ k,xs=[.bl k]/\Q (.int 7e0) H):=by
 intro Wj s σ H xs us Q I r h;rcases h with⟨i,rfl,q⟩|⟨k,rfl,q⟩
 ·obtain⟨u,rfl,t,rfl⟩:=vals1 r;exact call_int_int ⟨.int i,H,I,⟨_,rfl⟩,q⟩
 ·obtain⟨u,rfl,r1⟩:=vals1 r;cases r1;exact call_int_bool ⟨.int 7e0,H,I.tok _,⟨_,rfl⟩,q⟩
def Ve(K:q0B)(x:V)(H:Hp)(n:Nat):Prop :=
 match x with
 | .str y=>y.length<=sizeLine/\n=y.length
 | .byt y=>y.size<=sizeLine/\n=y.size
 | .ref p=>(∃ xs,eU K H p xs/\n=xs.length)\/∃ xs,g8 K H p xs/\n=xs.length
 | _=>False
theorem uY:gF X (.builtin "len") (fun xs H Q=>∃ x n,xs=[x]/\Ve X.K x H n/\Q (.int n) H):=by
 intro Wj s σ H xs us Q I r h;obtain⟨x,n,rfl,e,q⟩:=h;obtain⟨u,rfl,rx⟩:=vals1 r;have hl:=line63;have hs:sizeLine=16777216:=Ε0;cases x with
 | str y =>
  obtain⟨t,rfl⟩:=rx;obtain⟨hy,e'⟩:y.length<=sizeLine/\n=y.length:=e;subst e';exact len_str 1e0 ⟨.int _,H,I.tok _,⟨_,rfl⟩,q⟩
 | byt y =>
  obtain⟨t,rfl⟩:=rx;obtain⟨hy,e'⟩:y.size<=sizeLine/\n=y.size:=e;subst e';exact PySem.W.len_bytes 1e0 ⟨.int _,H,I.tok _,⟨_,rfl⟩,q⟩
 | ref p =>
  cases rx;have e':(∃ xs,eU X.K H p xs/\n=xs.length)\/∃ xs,g8 X.K H p xs/\n=xs.length:=e;rcases e' with⟨xs,hx,e'⟩|⟨xs,hx,e'⟩
  ·subst e';obtain⟨Wn,r',pl,hz⟩:=I.list hx;have hlen:=r'.length;exact Calls.call_len_list pl.isList 2e0 ⟨.int xs.length,H,I.tok _,⟨_,by simp only[Ε];rw[hlen]⟩,q⟩
  ·subst e';obtain⟨Wn,r',pl,hz⟩:=I.tuple hx;have hlen:=r'.length;exact len_tuple pl 2e0 ⟨.int xs.length,H,I.tok _,⟨_,by simp only[Ε];rw[hlen]⟩,q⟩
 | _=>exact(show False from e).elim
end
end
structure D0(h:Heap)(x dx C:Addr)(mA:q0C):Prop where
 obj:h.get? x=some (PySem.W.instObj C dx)
 ns:h.Ns1 dx mA
 ne:dx≠x
def Ih{dx:Addr}{mA:q0C}(n:h.Ns1 dx mA):∃ od,h.get? dx=some od/\∀ name,PySem.W.lookIn name od=some (mA name):=by
 obtain⟨o,es,ep,ho,hd,hk,_,hm⟩:=n;refine⟨o,ho,fun name=>?_⟩;have e:=hm name;unfold nsFind findBy at e;rw[<- Array.find?_toList] at e;unfold PySem.W.lookIn;rw[hd];dsimp only;split
 ·rename_i y q
  rw[q] at e;exact congrArg some e
 ·rename_i q
  rw[q] at e;have a:es.toList.any (·.refKey)=false:=by
   rw[List.any_eq_false];intro y hy;obtain⟨z,t,Yq⟩:=hk y (Array.mem_toList_iff.mp hy);simp[DictEntry.refKey,Yq]
  have a':¬ es.toList.any (·.refKey)=true:=by rw[a];exact Φ
  rw[if_neg a'];exact congrArg some e
def D0.look{x dx:Addr}{mA:q0C}(I:D0 h x dx C mA):∃ od,PySem.W.InstAt h x (PySem.W.instObj C dx) C (some od)/\∀ name,PySem.W.lookIn name od=some (mA name) :=
 let ⟨od,ho,hl⟩:=Ih I.ns
 ⟨od,⟨I.obj,rfl,rfl,ho⟩,hl⟩
section
variable{prog:Program}{x dx f:Addr}{mA:q0C}{name:Str}{v:Value}
mutual
example:=[model prog w,.ref f,.ref C,.ref x,s.heap.objs.size+1]
def NM{expr:Bool}{Q:q0A}(X:K.In s.heap)(I:D0 s.heap x dx C mA)(hg:PySem.W.plainGet K C name=true)(hh:PySem.W.hasDictIn K C=true)(ha:PySem.W.findIn K 2e0 name=some none)(hv:mA name=some v)(ZX:PySem.W.handedIn v=true)(h:Q v {s with toks:=s.toks+1}) : wpAny 0e0 A (getAttr 3e0 name expr) Q E s:=by
 obtain⟨od,J,hl⟩:=I.look;exact PySem.W.get_value X J (PySem.W.plainGet_of hg).1 (PySem.W.findObj_own hh ha rfl (by rw[hl,hv])) ZX h
def Kl{Q:Value×List Value->Shared->Prop}(X:K.In s.heap)(I:D0 s.heap x dx C mA)(hg:PySem.W.plainGet K C name=true)(hf:PySem.W.findIn K 2e0 name=some (some 1e0))(ht:PySem.W.isFn K 1e0=true)(hv:mA name=none)(h:Q (.ref f,[.ref x]) s) : wpAny 0e0 A (getMethod 3e0 name pl) Q E s:=by
 obtain⟨od,J,hl⟩:=I.look;exact PySem.W.method_fn X J (PySem.W.plainGet_of hg).1 (PySem.W.plainGet_of hg).2 hf (beq_iff_eq.mp ht) (by show(PySem.W.lookIn name od).map (·.isSome)=some false;rw[hl,hv];rfl) h
theorem OC{ns:List Str}(X:K.In s.heap)(I:D0 s.heap x dx C mA)(hs:PySem.W.findIn K 2e0 "__setattr__"=some (some (.builtin "object.__setattr__")))(hp:PySem.W.plainOver K C=true)(ht:PySem.W.takerIn K C name=some none)(hh:PySem.W.hasDictIn K C=true)(hw:PySem.Within mA ns)(hsz:ns.length<=sizeLine)(h:∀ h',D0 h' x dx C (fun y=>if y=name then some v else mA y)->Heap.SameBut dx s.heap h'->Q () {s with heap:=h',toks:=s.toks+2}) : wpAny 0e0 A (setAttr 3e0 name v) Q E s:=by
 obtain⟨od,J,hl⟩:=I.look;refine PySem.W.set_plain X J hs (PySem.W.osa_open (s:={s with toks:=s.toks+1}) (r:=none) X J hp ht fun b=>?_);obtain⟨cd,hc,hd'⟩:=PySem.W.any_some hh;have hx:s.heap.get? x=some ⟨.ref C,some dx,.plain,#[]⟩:=I.obj;refine Β (Θ (Β (Β (wpAny_loadPart hx (Β (PySem.W.Looks.here (s:={s with toks:=s.toks+1}) (PySem.W.looks_clsIn X hc) ?_))))));rw[hd'];refine Θ (a:=some dx) (Β (Θ (Β ?_)));refine wpAny_nsSet1 (s:={s with toks:=s.toks+1}) I.ns fun h' Zi hs2=>?_;obtain⟨oD,esD,epD,hoD,hdD,hcD⟩:=Zi.count (PySem.Within.cons name v hw);refine Β (wpAny_lookBehind hoD (by rw[hdD];exact pastItsLine_dict (ϐ hcD (by rw[Η];omega))) ?_);exact Θ (h _ ⟨(hs2.2 _ (Ne.symm I.ne)).trans I.obj,Zi,I.ne⟩ hs2)
def La{R:Result->Shared->Prop}{vs:List Value}(X:K.In s.heap)(hm:PySem.W.makesIn K C=true)(hi:PySem.W.findIn K 2e0 "__init__"=some (some 1e0))(hf:PySem.W.typeIn K 1e0=some (.type "function"))(h:codeAny 0e0 (A.under (.builtin "type.__call__" ⟨.ref C::vs,kw⟩)) (.call 1e0 ⟨.ref 4e0::vs,kw⟩) (PySem.W.InitBack 4e0 R) {s with heap:=(s.heap.push PySem.W.emptyDict).push (PySem.W.instObj C s.heap.objs.size)}) : codeAny 0e0 A (.call 2e0 ⟨vs,kw⟩) R s:=by
 obtain⟨hh,g,d,t,os⟩:=s;exact PySem.W.make_core (PySem.W.makes_of X hm) (PySem.W.looks_findIn X hi) (fun self=>PySem.W.bind_fn X self hf) (.inl rfl) h
end
end
mutual
example:=[Str×V,(if k=f then (k,v)::r else (k,x)::iV f v r),((k,x)::r)]
def iV(f:Str)(v:V):List 0e0->List 0e0
 | []=>[(f,v)]
 | (g,x)::r=>if g=f then (g,v)::r else (g,x)::iV f v r
theorem sO(f g:Str)(v:V):∀ fs:List 0e0,(iV f v fs).lookup g=if g=f then some v else fs.lookup g
 | []=>by
  show List.lookup g [(f,v)]=_;by_cases h:g=f
  ·have hb:(g==f)=true:=beq_iff_eq.mpr h;simp only[List.lookup,hb,if_pos h]
  ·have hb:(g==f)=false:=Α9.mpr h;simp only[List.lookup,hb,if_neg h]
 | (k,x)::r=>by
  have ih:=sO f g v r;rw[show iV f v 2e0=1e0 from rfl];by_cases hk:k=f
  ·rw[if_pos hk];by_cases h:g=k
   ·have hb:(g==k)=true:=beq_iff_eq.mpr h;simp only[List.lookup,hb,if_pos (h.trans hk)]
   ·have hb:(g==k)=false:=Α9.mpr h;simp only[List.lookup,hb,if_neg (fun e:g=f=>h (e.trans hk.symm))]
  ·rw[if_neg hk];by_cases h:g=k
   ·have hb:(g==k)=true:=beq_iff_eq.mpr h;simp only[List.lookup,hb,if_neg (fun e:g=f=>hk (h.symm.trans e))]
   ·have hb:(g==k)=false:=Α9.mpr h;simp only[List.lookup,hb];exact ih
theorem rK(f:Str)(v:V):∀ fs:List 0e0,f∈(iV f v fs).map (·.1)/\∀ g,g∈fs.map (·.1)->g∈(iV f v fs).map (·.1)
 | []=>⟨by simp[iV],fun g h=>by simp at h⟩
 | (k,x)::r=>by
  obtain⟨i1,i2⟩:=rK f v r;rw[show iV f v 2e0=1e0 from rfl];by_cases hk:k=f
  ·rw[if_pos hk];subst hk;exact⟨by simp,fun g h=>by simpa using h⟩
  ·rw[if_neg hk];refine⟨?_,fun g h=>?_⟩
   ·rw[ϓ];exact ϔ _ i1
   ·rw[ϓ] at h ⊢;rcases Α.mp h with e|e
    ·exact Α.mpr (.inl e)
    ·exact ϔ _ (i2 g e)
theorem sM(f:Str)(v:V):∀ fs:List 0e0,(iV f v fs).length<=fs.length+1
 | []=>by simp[iV]
 | (k,x)::r=>by
  have ih:=sM f v r;rw[show iV f v 2e0=1e0 from rfl];by_cases hk:k=f
  ·rw[if_pos hk,Η,Η];omega
  ·rw[if_neg hk,Η,Η];omega
def kW.some_of{o:Option Value}(r:kW (some v) o):∃ u,o=some u/\bN v u:=by
 cases o with
 | none=>exact(show False from r).elim
 | some u=>exact⟨u,rfl,r⟩
def kW.none_of{o:Option Value}(r:kW none o):o=none:=by
 cases o with
 | none=>rfl
 | some u=>exact(show False from r).elim
def HY(r:bN v u):PySem.W.handedIn u=true:=by
 cases v with
 | Wl=>cases (show u=Value.none from r);rfl
 | bl b=>cases (show u=Value.bool b from r);rfl
 | int i=>obtain⟨t,e⟩:=(show ∃ t,u=Value.int i t from r);cases e;rfl
 | str x=>obtain⟨t,e⟩:=(show ∃ t,u=Value.str x t from r);cases e;rfl
 | byt b=>obtain⟨t,e⟩:=(show ∃ t,u=Value.bytes b t from r);cases e;rfl
 | flt b=>obtain⟨t,e⟩:=(show ∃ t,u=Value.float b t from r);cases e;rfl
 | ref a=>cases (show u=Value.ref a from r);rfl
 | ty n=>cases (show u=Value.type n from r);rfl
end
section
variable{H':Hp}{h':Heap}{dx:Addr}{fs ZL:List (Str×V)}
def Bk(Ws:HOk P w H h)(e:H a=some (.ins C dx fs)):∃ mA,D0 h a dx C mA/\(∀ f,kW (fs.lookup f) (mA f))/\PySem.Within mA (fs.map (·.1))/\fs.length<=1000/\H dx=some (.own a):=by
 obtain⟨d,z,ne,ob,mA,n,r,q⟩:=(show dU P w H h a (.ins C dx fs) from Ws a _ e);exact⟨mA,⟨ob,n,ne⟩,r,q,z,d⟩
end
mutual
example:=[.ref C,.ref f]
structure Cls(K:q0B)(C:Addr):Prop where
 pg:PySem.W.plainGet K C Str.empty=true
 hd:PySem.W.hasDictIn K C=true
 po:PySem.W.plainOver K C=true
 sa:PySem.W.findIn K 0e0 "__setattr__"=some (some (.builtin "object.__setattr__"))
def Cls.get(c:Cls K C)(f:Str):PySem.W.plainGet K C f=true:=c.pg
def eJ(K:q0B)(C:Addr)(f:Str):Prop:=PySem.W.findIn K 0e0 f=some none
def eJ.UK{f:Str}(n:eJ K C f):PySem.W.takerIn K C f=some none:=by
 unfold PySem.W.takerIn;rw[show PySem.W.findIn K 0e0 f=some none from n];rfl
structure Meth(K:q0B)(C:Addr)(m:Str)(f:Addr):Prop where
 at_:PySem.W.findIn K 0e0 m=some (some 1e0)
 fn:PySem.W.isFn K 1e0=true
 kp:PySem.W.keepIn K 1e0=true
end
section
variable{dx:Addr}{fs:List (Str×V)}{f:Str}
mutual
example:=[s.heap.objs.size+1,PySem.W.instObj C s.heap.objs.size,model X.prog X.w,model prog w,.ins C dx fs,.ref a,(if g=f then some u else mA g),(fun b u q=>Ζ _ q),eval e env]
def wA{b:Bool}{Q:q0A}(I:Wm X Wj σ H s)(e:H a=some 4e0)(c:Cls X.K C)(n:eJ X.K C f)(l:fs.lookup f=some v)(h:∀ u s',Wm X Wj σ H s'->bN v u->Q u s'):wpAny 2e0 A (getAttr 5e0 f b) Q E s:=by
 obtain⟨mA,O,r,_,_,_⟩:=Bk I.Ws e;obtain⟨u,hu,ru⟩:=kW.some_of (v:=v) (o:=mA f) (by rw[<- l];exact r f);exact NM I.kIn O (c.get f) c.hd n hu (HY ru) (h u _ (I.tok _) ru)
def wB{m:Str}{g:Addr}{Q:Value×List Value->Shared->Prop}(I:Wm X Wj σ H s)(e:H a=some 4e0)(c:Cls X.K C)(k:Meth X.K C m g)(l:fs.lookup m=none)(h:Q (.ref g,[.ref a]) s):wpAny 2e0 A (getMethod 5e0 m pl) Q E s:=by
 obtain⟨mA,O,r,_,_,_⟩:=Bk I.Ws e;have hn:mA m=none:=kW.none_of (by rw[<- l];exact r m);exact Kl I.kIn O (c.get m) k.at_ k.fn hn h
theorem xY{y:V}(I:Wm X Wj σ H s)(e:H a=some 4e0)(c:Cls X.K C)(n:eJ X.K C f)(hl:fs.length < 1000)(ry:bN y u)(h:∀ s',Wm X Wj σ (Wk H a (.ins C dx (iV f y fs))) s'->Q () s'):wpAny 2e0 A (setAttr 5e0 f u) Q E s:=by
 obtain⟨mA,O,r,wi,_,ho⟩:=Bk I.Ws e;have hz:(fs.map (·.1)).length<=sizeLine:=by rw[Δ,Ε0];omega
 refine OC I.kIn O c.sa c.po n.UK c.hd wi hz fun h' O' sb=>h _ ?_;have hd:∃ o,h'.get? dx=some o:=let ⟨o,_,_,e',_⟩:=O'.ns;⟨o,e'⟩;refine I.write (x:=a) (e:=dx) (by rw[e];exact True.intro) (.inr ho) (fun b q hb z=>(sb.2 b hb).trans z) hd ?_;refine⟨by rw[aD O.ne];exact ho,?_,O.ne,O'.obj,_,O'.ns,fun g=>?_,fun g hg=>?_⟩
 ·have:=sM f y fs;omega
 ·show kW ((iV f y fs).lookup g) 6e0;rw[sO];by_cases q:g=f
  ·rw[if_pos q,if_pos q];exact ry
  ·rw[if_neg q,if_neg q];exact r g
 ·by_cases q:g=f
  ·rw[q];exact(rK f y fs).1
  ·refine(rK f y fs).2 g (wi g fun z=>hg ?_);show 6e0=none;rw[if_neg q];exact z
def Wm.made(I:Wm X Wj σ H s):Wm X Wj σ (Wk (Wk H s.heap.objs.size (.own 0e0)) 0e0 (.ins C s.heap.objs.size [])) {s with heap:=(s.heap.push PySem.W.emptyDict).push 1e0}:=by
 have e1:(s.heap.push PySem.W.emptyDict).get? s.heap.objs.size=some PySem.W.emptyDict:=Χ s.heap rfl;have e2:((s.heap.push PySem.W.emptyDict).push 1e0).get? 0e0=some 1e0:=by
  have:=Χ (s.heap.push PySem.W.emptyDict) (o:=PySem.W.instObj C s.heap.objs.size) rfl
  rwa [Heap.size_push] at this
 have e3:(s.heap.push PySem.W.emptyDict).Ns s.heap.objs.size (fun _=>none):=⟨PySem.W.emptyDict,#[],_,e1,rfl,(fun e he=>absurd he (by simp)),fun _=>rfl⟩;have I1:=I.laid (a:=s.heap.objs.size) (o:=.own 0e0) (h':=s.heap.push PySem.W.emptyDict) (t':=s.toks) 7e0 (Ι _) ⟨_,e1⟩;refine I1.laid (a:=s.heap.objs.size+1) (o:=.ins C s.heap.objs.size []) (t':=s.toks) 7e0 (Nat.le_of_eq (Heap.size_push _ _)) ?_;have ne:s.heap.objs.size≠s.heap.objs.size+1:=Ρ (Nat.lt_succ_self _);refine⟨by rw[aD ne,aA],Α5 _,ne,e2,fun _=>none,(Heap.Ns1.of_empty e3).at fun o q=>Ζ _ q,fun _=>True.intro,fun y hy=>absurd rfl hy⟩
def ME{prog:Program}{env:Env}{Q:q0A}(hb:attributeBase e f env 8e0=eval e env)(h:wpAny 3e0 A 8e0 (fun o s₁=>wpAny 3e0 A (getAttr o f true) Q E s₁) E s):wpAny 3e0 A (eval (.Attribute e f pos) env) Q E s :=
 Attribute_any_ h (by rw[arm_eval_Attribute,hb])
end
end
noncomputable def Vd(X:Cx)(op:Operator)(rd:V->V->Hp->VK->Prop):Prop :=
 ∀(Wj:List (Addr×Obj)) (s:Shared) (σ:St) (H:Hp) (x y:V) (u v:Value) (Q:VK),Wm X Wj σ H s->bN x u->bN y v->rd x y H Q->wpAny (model X.prog X.w) X.A (inplaceOp op u v) (EP X Wj σ Q) X.xe s
section
variable{o value:Expr}{f:Str}{pos' Za:Pos}{ta tv:TE}
def VT:V->V->Hp->VK->Prop:=fun x y H Q=>∃ i j,x=.int i/\y=.int j/\Q (.int (i+j)) H
def Q9:Vd X .Add VT:=by
 rintro Wj s σ H x y u v Q I rx ry ⟨i,j,rfl,rfl,q⟩;obtain⟨t,rfl⟩:=(show ∃ t,u=Value.int i t from rx);obtain⟨t',rfl⟩:=(show ∃ t',v=Value.int j t' from ry);exact PyProof.Rows.iadd_int ⟨.int (i+j),H,I.tok _,⟨_,rfl⟩,q⟩
end
section
variable{Q:q0A}{c:Value}{b:Bool}
end
mutual
example:=[(.builtin "type.__call__" ⟨.ref C::us,kw⟩)]
structure Room(k:Nat)(A:Around):Prop where
 hd:A.handled=none
 dp:A.depth+3 * k+5 < recursionLimit
 un:A.units+16 * k+200 < cLine
theorem Room.mono{j:Nat}(r:Room k A)(h:j<=k):Room j A:=⟨r.hd,by have:=r.dp;omega,by have:=r.un;omega⟩
theorem Room.deeper(r:Room (k+1) A)(env:Env):Room k (A.deeper env) :=
 ⟨r.hd,by have:=r.dp;show A.depth+1+3 * k+5 < _;omega,by have:=r.un;show A.units+3+16 * k+200 < _;omega⟩
def EJ:(A.under 0e0).depth=A.depth+1:=by
 first|rfl|simp[Around.under,Code.weight,Code.isCreation,Code.isGuard,Code.isCaller,Code.frames,Code.isFrame,guardIds]
def EK:(A.under 0e0).units=A.units+1:=by
 first|rfl|simp[Around.under,Code.cUnits,Code.frames,Code.isFrame]
theorem Room.make(r:Room (k+1) A)(C:Addr)(us:List Value)(kw:List (Str×Value)):Room k (A.under 0e0) :=
 ⟨r.hd,by have:=r.dp;rw[EJ];omega,by have:=r.un;rw[EK];omega⟩
theorem Room.depth(r:Room k A):A.depth < recursionLimit:=by have:=r.dp;omega
theorem Room.units(r:Room k A):A.units+64 < cLine:=by have:=r.un;omega
def yI:TA:=fun _ H Q=>Q [] H
def nD(ta:TE)(tr:TA):TA:=fun σ H Q=>ta σ H fun x H1=>tr σ H1 fun xs H2=>Q (x::xs) H2
end
section
variable{t:TA}
mutual
example:=[(thn (h pos Wj s σ H _ I hq) fun us s1 ⟨xs,H1,I1,r,z,q⟩=>⟨by rw[<- r.length];exact z,?_⟩),(fun b u e=>Ζ _ e)]
def bM:PA X [] yI:=fun _ _ _ _ H Q I h=>Calls.spliced_nil ⟨[],H,I,.nil,h⟩
def GJ(ha:PE X e te)(hr:PA X es t)(hs:starEach (e::es) X.env=(false,eval e X.env)::starEach es X.env:=by rfl):PA X (e::es) (nD te t):=by
 intro pos Wj s σ H Q I h;rw[hs];show wpAny _ _ (spliced ((false,eval e X.env)::backTo pos (starEach es X.env))) _ _ s;refine Δ0 (thn (ha Wj s σ H _ I h) fun u s1 ⟨x,H1,I1,r1,q1⟩=>?_);exact thn (hr pos Wj s1 σ H1 _ I1 q1) fun us s2 ⟨xs,H2,I2,r2,q2⟩=>⟨x::xs,H2,I2,.cons r1 r2,q2⟩
def UJ(t:TA):TE:=fun σ H Q=>t σ H fun xs H1=>xs.length<=sizeLine/\∀ p,H1 p=none->Q (.ref p) (Wk H1 p (.tup xs))
def UD(t:TA):TE:=fun σ H Q=>t σ H fun xs H1=>xs.length<=sizeLine/\∀ p,H1 p=none->Q (.ref p) (Wk H1 p (.lst xs))
def bB{x1}(h:PA X es t):PE X (.Tuple es x1 pos) (UJ t):=by
 intro Wj s σ H Q I hq;refine wpAny_Tuple_spliced 0e0;have hf:H1 s1.heap.objs.size=none:=I1.Ws.fresh (Ι _);refine⟨.ref s1.heap.objs.size,Wk H1 s1.heap.objs.size (.tup xs),I1.laid (t':=s1.toks) 1e0 (Ι _) ?_,rfl,q _ hf⟩;exact⟨z,us,r,⟨_,Χ _ rfl,rfl,_,rfl⟩⟩
def aM(h:PA X es t):PE X (.List es pos) (UD t):=by
 intro Wj s σ H Q I hq;refine wpAny_List_spliced 0e0;have hf:H1 s1.heap.objs.size=none:=I1.Ws.fresh (Ι _);refine⟨.ref s1.heap.objs.size,Wk H1 s1.heap.objs.size (.lst xs),I1.laid (t':=s1.toks) 1e0 (Ι _) ?_,rfl,q _ hf⟩;exact⟨z,us,0,r,Χ _ rfl⟩
end
end
abbrev Sp:=List V->Hp->VK->XK->Prop
abbrev CXT:=List Env->Hp->Shared->XK->Value->Shared->Prop
variable{CX:CXT}
mutual
example:=[]
structure Env0(P:Program)(w:World)(K:q0B)(mg:q0C)(base:Heap)(A:Around)(outer:List Env)(s:Shared)(H:Hp):Prop where
 frames:A.frames=some outer
 mod:Mod K mg base
 bs:∀ b o,base.get? b=some o->s.heap.get? b=some o/\H b=none
 bsz:base.objs.size<=s.heap.objs.size
 pX:s.heap.FunFrames base outer
 frf:∀ b∈frs outer,H b=none
 Ws:HOk P w H s.heap
 bare:AllBare s.gens
def CE(outer:List Env)(P:Program)(w:World)(H:Hp)(s:Shared)(Q:VK)(u:Value)(s':Shared):Prop :=
 ∃ v H',s'.os=s.os/\AllBare s'.gens/\Un (frs outer) [] H H' s.heap s'.heap/\HOk P w H' s'.heap/\bN v u/\Q v H'
def CR(CX:CXT)(outer:List Env)(P:Program)(w:World)(H:Hp)(s:Shared)(Q:VK)(E:XK)(r:Result)(s':Shared):Prop :=
 match r with
 | .ok (.ret u)=>CE outer P w H s Q u s'
 | .ok _=>False
 | .error e=>CX outer H s E e s'
structure fS(P:Program)(w:World)(K:q0B)(mg:q0C)(base:Heap)(CX:CXT)(k:Nat)(f:Addr)(fd:FuncData)(ps:List Str)(sp:Sp):Prop where
 len:∀ vs H Q E,sp vs H Q E->vs.length=ps.length
 run:∀(A:Around) (outer:List Env) (s:Shared) (H:Hp) (args:Args) (us:List Value) (vs:List V) (Q:VK) (E:XK),Room k A->Env0 P w K mg base A outer s H->BindsTo s fd args (ps.zip us)->Wq vs us->sp vs H Q E ->
  codeAny (model P w) A (.call (.ref f) args) (CR CX outer P w H s Q E) s
def fS.mono{j:Nat}{f:Addr}{sp:Sp}(F:fS P w K mg base CX j f fd ps sp)(h:j<=k) : fS P w K mg base CX k f fd ps sp:=⟨F.len,fun A outer s H args us vs Q E hr=>F.run A outer s H args us vs Q E (hr.mono h)⟩
def Env0.make(e:Env0 P w K mg base A outer s H)(C:Addr)(us:List Value)(kw:List (Str×Value)) : Env0 P w K mg base (A.under (.builtin "type.__call__" ⟨.ref C::us,kw⟩)) outer s H:=⟨by first|exact e.frames|(simpa[Around.under,Code.envs,Code.isFrame,pushEnvs] using e.frames),e.mod,e.bs,e.bsz,e.pX,e.frf,e.Ws,e.bare⟩
end
section
def Wm.Tw(I:Wm X Wj σ H s):Env0 X.prog X.w X.K X.mg X.base X.A X.stack s H :=
 ⟨I.ok.frames,I.ok.mod,I.bs,ϐ I.ok.bsz I.sz,I.stack,I.BS,I.Ws,I.bare⟩
def Wm.after{Q:VK}(I:Wm X Wj σ H s)(h:CE X.stack X.prog X.w H s Q u s'):EP X Wj σ Q u s':=by
 obtain⟨v,H',os,bare,un,Ws,r,q⟩:=h;obtain⟨hh,g,d,t,ZC⟩:=s';obtain rfl:ZC=s.os:=os;exact⟨v,H',I.call (h':=hh) (g':=g) (d':=d) (t':=t) (ch:=[]) un Ws bare (fun b z=>absurd z (by simp)),r,q⟩
end
mutual
example:=[vs++Xf]
def Hj(sp:Sp)(Xf:List V)(E:XK)(t:TA):TE:=fun σ H Q=>t σ H fun vs H1=>sp 0e0 H1 Q E
def DU(C:Addr)(m:Str)(sp:Sp)(Xf:List V)(E:XK)(ta:TE)(t:TA):TE:=fun σ H Q=>ta σ H fun x H1=>∃ a dx fs,x=.ref a/\H1 a=some (.ins C dx fs)/\fs.lookup m=none /\
 t σ H1 fun vs H2=>sp (x::0e0) H2 Q E
def Hk(C:Addr)(sp:Sp)(Xf:List V)(E:XK)(t:TA):TE:=fun σ H Q=>t σ H fun vs H1=>∀ x dx,H1 x=none->H1 dx=none->dx≠x ->
 sp (.ref x::0e0) (Wk (Wk H1 dx (.own x)) x (.ins C dx [])) (fun v H2=>v=.Wl/\Q (.ref x) H2) E
def Binds(K:q0B)(fd:FuncData)(ps:List Str)(ds:List Value):Prop :=
 ∀(s:Shared) (us:List Value),K.In s.heap->(us++ds).length=ps.length->BindsTo s fd ⟨us,[]⟩ (ps.zip (us++ds))
def Binds.all(h:∀ us:List Value,us.length=ps.length->bindArgs fd ⟨us,[]⟩=pure (ps.zip us)):Binds K fd ps []:=fun s us _ hl=>by
 rw[ϝ] at hl ⊢;exact .of_eq (h us hl)
def Passes(CX:CXT)(X:Cx)(E:XK):Prop:=∀(Wj:List (Addr×Obj)) (σ:St) (H:Hp) (s:Shared) (e:Value) (s':Shared),Wm X Wj σ H s->CX X.stack H s E e s'->X.xe e s'
end
section
variable{f:Addr}{sp:Sp}{Xf:List V}{ds:List Value}{E:XK}{m:Str}{p apos:Pos}{o:Expr}{ta:TE}{t:TA}
mutual
example:=[e::es,s.heap.objs.size+1,vs++Xf,.ref f,.ref C,.Attribute o m apos,us++ds,x==("__debug__":Str),starEach es X.env,t7 I hg hm ?_ YW,.Name x p,(thn (ha pos Wj s σ H _ I h) fun us s1 ⟨vs,H1,I1,r,q⟩=>⟨I1.kIn,?_⟩),(thn (he Wj s σ H _ I h) fun u s1 ⟨x,H1,I1,rx,a,dx,fs,ex,ea,l,q⟩=>?_),backToKw pos (keywordEach [] X.env),getMethod ov m pl,model X.prog X.w,EP X Wj σ Q]
def BL{Q:VK}(F:fS X.prog X.w X.K X.mg X.base CX k f fd ps sp)(hr:Room k X.A)(hb:Binds X.K fd ps ds)(hd:Wq Xf ds)(hx:Passes CX X E)(I:Wm X Wj σ H s)(r:Wq vs us)(h:sp 2e0 H Q E):wpAny 5e1 X.A (call 3e0 us) 6e1 X.xe s:=by
 have r2:Wq 2e0 6e0:=r.append hd;have hl:(us++ds).length=ps.length:=by rw[<- r2.length];exact F.len _ _ _ _ h
 refine wpAny_call (codeAny_mono (F.run X.A X.stack s H ⟨us,[]⟩ 6e0 2e0 Q E hr I.Tw (hb s us I.kIn hl) r2 h) fun r s' hq=>?_);cases r with
 | error e=>exact hx Wj σ H s e s' I hq
 | ok fl =>
  cases fl with
  | ret u=>exact I.after hq
  | next=>exact False.elim hq
  | brk=>exact False.elim hq
  | cont=>exact False.elim hq
theorem BC(F:fS X.prog X.w X.K X.mg X.base CX k f fd ps sp)(hr:Room k X.A)(hg:Gl X x)(hm:X.mg x=some 3e0)(hk:PySem.W.keepIn X.K 3e0=true)(hb:Binds X.K fd ps ds)(hd:Wq Xf ds)(hx:Passes CX X E)(ha:PA X 0e0 t)(YW:7e0=false:=by decide)(he:starEach 0e0 X.env=(false,eval e X.env)::starEach es X.env:=by rfl)(WV:(backTo pos 8e0).any (·.1)=false:=by rfl) : PE X (.Call 0e1 0e0 [] pos) (Hj sp Xf E t):=by
 intro Wj s σ H Q I h;refine wpAny_Call_Name_kw 9e0;refine PySem.W.callWith_K (h₀:=X.base) I.ok.mod.kin hk 1e1 he WV;exact BL F hr hb hd hx I1 r q
def BF(he:PE X o ta)(c:Cls X.K C)(hm:Meth X.K C m f)(F:fS X.prog X.w X.K X.mg X.base CX k f fd ps sp)(hr:Room k X.A)(hb:Binds X.K fd ps ds)(hd:Wq Xf ds)(hx:Passes CX X E)(ha:PA X 0e0 t)
    (WD:starEach 0e0 X.env=(false,eval e X.env)::starEach es X.env:=by rfl) (WV:(backTo pos 8e0).any (·.1)=false:=by rfl)
    (ht:eval (.Call 5e0 0e0 [] pos) X.env=(do
      let ov <- eval o X.env
      standAt apos.atName
      let (f,first) <- holding [ov] 4e1
      callWith pos f first (backTo pos (starEach 0e0 X.env)) 3e1):=by rfl) :
    PE X (.Call 5e0 0e0 [] pos) (DU C m sp Xf E ta t):=by
  intro Wj s σ H Q I h;refine PySem.W.methodCall_KW (pl:=pl) 2e1 ht;subst ex;obtain rfl:u=Value.ref a:=rx;refine wB I1 ea c hm l ?_;refine PySem.W.callWith_K (first:=[.ref a]) (h₀:=X.base) I.ok.mod.kin hm.kp (thn (ha pos Wj s1 σ H1 _ I1 q) fun us s2 ⟨vs,H2,I2,r,q2⟩=>⟨I2.kIn,?_⟩) WD WV
  exact BL (us:=.ref a::us) (vs:=.ref a::vs) F hr hb hd hx I2 (.cons rfl r) q2
def Lx(he:PE X o ta)(c:Cls X.K C)(hm:Meth X.K C m f)(F:fS X.prog X.w X.K X.mg X.base CX k f fd ps sp)(hr:Room k X.A)(hb:Binds X.K fd ps ds)(hd:Wq Xf ds)(hx:Passes CX X E)
    (ht:eval (.Call 5e0 [] [] pos) X.env=(do
      let ov <- eval o X.env
      standAt apos.atName
      let (f,first) <- holding [ov] 4e1
      callWith pos f first (backTo pos (starEach [] X.env)) 3e1):=by rfl) :
    PE X (.Call 5e0 [] [] pos) (DU C m sp Xf E ta yI):=by
  intro Wj s σ H Q I h;refine PySem.W.methodCall_KW (pl:=pl) 2e1 ht;subst ex;obtain rfl:u=Value.ref a:=rx;refine wB I1 ea c hm l ?_;exact PySem.W.callWith_K0 (first:=[.ref a]) I1.kIn hm.kp (BL (us:=[.ref a]) (vs:=[.ref a]) F hr hb hd hx I1 (.cons rfl .nil) q)
structure Mk(K:q0B)(C f:Addr):Prop where
 makes:PySem.W.makesIn K C=true
 init:PySem.W.findIn K 4e0 "__init__"=some (some 3e0)
 fn:PySem.W.isFn K 3e0=true
 kp:PySem.W.keepIn K 4e0=true
def Dv{Q:VK}(M:Mk X.K C f)(F:fS X.prog X.w X.K X.mg X.base CX k f fd ps sp)(hr:Room (k+1) X.A)(hb:Binds X.K fd ps ds)(hd:Wq Xf ds)(hx:Passes CX X E)(I:Wm X Wj σ H s)(r:Wq vs us)(h:∀ x dx,H x=none->H dx=none->dx≠x->sp (.ref x::2e0) (Wk (Wk H dx (.own x)) x (.ins C dx [])) (fun v H2=>v=.Wl/\Q (.ref x) H2) E) : wpAny 5e1 X.A (call 4e0 us) 6e1 X.xe s:=by
 have hq:=h 1e0 s.heap.objs.size (I.Ws.fresh (Δ1 _)) (I.Ws.fresh (Ι _)) (Ρ (Nat.lt_succ_self _));have I2:=Wm.made (C:=C) I;have r2:Wq (V.ref 1e0::2e0) (Value.ref 1e0::6e0):=.cons rfl (r.append hd);have hl:(Value.ref 1e0::us++ds).length=ps.length:=by
  have e:=r2.length;rw[F.len _ _ _ _ hq] at e;exact e.symm
 refine wpAny_call (La (f:=f) I.kIn M.makes M.init (beq_iff_eq.mp M.fn) (codeAny_mono (F.run _ X.stack _ _ ⟨Value.ref 1e0::us,[]⟩ (Value.ref 1e0::6e0) _ _ E (hr.make C us [])
  (I2.Tw.make C us []) (hb _ (Value.ref 1e0::us) I2.kIn hl) r2 hq) fun r s' hq'=>?_))
 cases r with
 | error e=>exact hx Wj σ _ _ e s' I2 hq'
 | ok fl =>
  cases fl with
  | ret u =>
   obtain⟨v,H',I3,rv,ev,q3⟩:=I2.after hq';subst ev;exact⟨rv,⟨V.ref 1e0,H',I3,rfl,q3⟩⟩
  | next=>exact False.elim hq'
  | brk=>exact False.elim hq'
  | cont=>exact False.elim hq'
theorem GN(M:Mk X.K C f)(F:fS X.prog X.w X.K X.mg X.base CX k f fd ps sp)(hr:Room (k+1) X.A)(hg:Gl X x)(hm:X.mg x=some 4e0)(hb:Binds X.K fd ps ds)(hd:Wq Xf ds)(hx:Passes CX X E)(ha:PA X 0e0 t)(YW:7e0=false:=by decide)(he:starEach 0e0 X.env=(false,eval e X.env)::starEach es X.env:=by rfl)(WV:(backTo pos 8e0).any (·.1)=false:=by rfl) : PE X (.Call 0e1 0e0 [] pos) (Hk C sp Xf E t):=by
 intro Wj s σ H Q I h;refine wpAny_Call_Name_kw 9e0;refine PySem.W.callWith_K (h₀:=X.base) I.ok.mod.kin M.kp 1e1 he WV;exact Dv M F hr hb hd hx I1 r q
theorem Lw(M:Mk X.K C f)(F:fS X.prog X.w X.K X.mg X.base CX k f fd ps sp)(hr:Room (k+1) X.A)(hg:Gl X x)(hm:X.mg x=some 4e0)(hb:Binds X.K fd ps ds)(hd:Wq Xf ds)(hx:Passes CX X E)(YW:7e0=false:=by decide):PE X (.Call 0e1 [] [] pos) (Hk C sp Xf E yI):=by
 intro Wj s σ H Q I h;refine wpAny_Call_Name_kw 9e0;exact PySem.W.callWith_K0 I.kIn M.kp (Dv (us:=[]) M F hr hb hd hx I .nil h)
end
end
section
variable{f:Addr}{ks:List Str}{sp:Sp}{E:XK}{m:Str}{p apos ac3:Pos}{o:Expr}{kws:List Keyword}{ta:TE}{t tk:TA}{nm:Option Str}
variable{g:List Value->List Value->List Value}{gV:List V->List V->List V}
end
mutual
example:=[((p,w)::P.zip vs),start N vs,AS CX P w K mg base N qual scope f WK A outer s H E,envOfC qual scope s.heap.objs.size f cd,PySem.W.fnOf name qual params body scope dV kV doc pm an WK ct,x.above y c (Δ4 h),s.heap.objs.size+1,(by simpa using hi),(by simpa using h2),(by simpa using h1),Str×Value,ps.zip us]
structure nH(N P:List Str)(sc:Scope):Prop where
 kind:sc.kind=.function
 co:sc.isCoroutine=false
 gen:sc.isGenerator=false
 nd:N.Nodup
 pre:N.take P.length=P
 par:∀ x∈P,sc.names.lookup x=some .local\/sc.names.lookup x=some .cell
 gS:∀ y∈sc.names,y.2≠.free
theorem zV{kindOf:Str->Option NameKind}{x:Str}:∀ {binds:List 0e1} {m:q0C},(∀ v,(x,v)∉binds)->bindL kindOf binds m x=m x
 | [],_,_=>rfl
 | (n,v)::r,m,h=>by
  unfold bindL;rw[zV fun w hw=>h w (ϔ _ hw)];split
  ·have:x≠n:=by rintro rfl;exact h v List.mem_cons_self
   simp[this]
  ·rfl
theorem zT{kindOf:Str->Option NameKind}{x:Str}:∀ {binds:List 0e1} {m:q0C},(∀ v,(x,v)∉binds)->bindC kindOf binds m x=m x
 | [],_,_=>rfl
 | (n,v)::r,m,h=>by
  unfold bindC;rw[zT fun w hw=>h w (ϔ _ hw)];split
  ·rfl
  ·have:x≠n:=by rintro rfl;exact h v List.mem_cons_self
   simp[this]
theorem zU{kindOf:Str->Option NameKind}{x:Str}{v:Value}:∀ {P:List Str} {vs:List Value} {i:Nat} {m:q0C},P.Nodup->P[i]?=some x->vs[i]?=some v->kindOf x=some .local -> bindL kindOf (P.zip vs) m x=some v
 | [],_,_,_,_,h,_,_=>by simp at h
 | _::_,[],_,_,_,_,h,_=>by simp at h
 | p::P,w::vs,0,m,nd,h1,h2,hk=>by
  simp at h1 h2;subst h1;subst h2;show bindL kindOf 0e0 m p=_;unfold bindL;rw[zV fun v hv=>(Ϙ.mp nd).1 (List.of_mem_zip hv).1,if_pos hk];simp
 | p::P,w::vs,i+1,m,nd,h1,h2,hk=>by
  show bindL kindOf 0e0 m x=_;unfold bindL;exact zU (i:=i) (Ϙ.mp nd).2 9e0 8e0 hk
theorem zS{kindOf:Str->Option NameKind}{x:Str}{v:Value}:∀ {P:List Str} {vs:List Value} {i:Nat} {m:q0C},P.Nodup->P[i]?=some x->vs[i]?=some v->kindOf x≠some .local -> bindC kindOf (P.zip vs) m x=some v
 | [],_,_,_,_,h,_,_=>by simp at h
 | _::_,[],_,_,_,_,h,_=>by simp at h
 | p::P,w::vs,0,m,nd,h1,h2,hk=>by
  simp at h1 h2;subst h1;subst h2;show bindC kindOf 0e0 m p=_;unfold bindC;rw[zT fun v hv=>(Ϙ.mp nd).1 (List.of_mem_zip hv).1,if_neg hk];simp
 | p::P,w::vs,i+1,m,nd,h1,h2,hk=>by
  show bindC kindOf 0e0 m x=_;unfold bindC;exact zS (i:=i) (Ϙ.mp nd).2 9e0 8e0 hk
def start(N:List Str)(vs:List V):St:=vs.map some++List.replicate (N.length - vs.length) none
def AS(CX:CXT)(P:Program)(w:World)(K:q0B)(mg:q0C)(base:Heap)(N:List Str)(qual:Str)(scope:Scope)(f:Addr)(cd:Value)(A:Around)(outer:List Env)(s:Shared)(H:Hp)(E:XK):Cx where
 prog:=P
 w:=w
 K:=K
 mg:=mg
 base:=base
 A:=A.deeper 3e0
 N:=N
 s₀:=s
 H₀:=H
 env:=envOfC qual scope s.heap.objs.size f cd
 outer:=outer
 stack:=envOfC qual scope s.heap.objs.size f cd::outer
 ex:=[]
 calm:=true
 fn:=fun _=>true
 pn:=[]
 xe:=fun e s'=>wpAny (model P w) (A.deeper 3e0) (leaving 3e0 e) (fun _ s''=>CX outer H s E e s'') (fun e' s''=>CX outer H s E e' s'') s'
def Cg{sc:Scope}(h:sc.names.lookup x=some .cell):∃ c,(cellsFrom n sc.names []).lookup x=some c:=by
 have q:=PySem.W.cellsFrom_some sc.names n [] (.inl h);exact Δ3.mp q
theorem H8{N:List Str}{qual:Str}{f:Addr}{cd:Value}{s1:Shared}{E:XK}(S:nH N ps scope)(hd:A.handled=none)(e0:Env0 P w K mg base A outer s H)(hl:vs.length=ps.length)(r:Wq vs us)(x:InCallC s s.heap.objs.size (bindL (envOfC qual scope s.heap.objs.size f cd).kindOf 1e1 fun _=>none) (cellsFrom 6e0 scope.names []) (bindC (envOfC qual scope s.heap.objs.size f cd).kindOf 1e1 fun _=>none) s1) : Wm (AS CX P w K mg base N qual scope f cd A outer s H E) [] 1e0 H s1:=by
 have WV:ps.length<=N.length:=by have:=congrArg List.length S.pre;rw[Α8] at this;omega
 obtain⟨h1,tk,rfl,hk⟩:=x.done;have noA:∀ b:Addr,b∉(AS CX P w K mg base N qual scope f cd A outer s H E).ex:=fun b z=>absurd (show b∈([]:List Addr) from z) (by simp);refine⟨⟨e0.mod,S.kind,rfl,rfl,Ι _,fun y z c h1 h2=>?_,fun y hy=>?_,fun y c _ h=>?_,fun _=>hd,Around.frames_deeper e0.frames,.inr ⟨rfl,rfl⟩,fun b z=>absurd z (noA b),e0.bs,e0.bsz,fun b _ _=>noA b,fun b z=>absurd z (noA b),e0.pX,e0.frf⟩,
  rfl,e0.bare,Un.kept hk,⟨_,x.toInCall.ns,fun i y v h1 h2 h3=>?_⟩,fun y c h=>⟨_,x.cell y c h⟩,e0.Ws.fresh (Ι _),fun y c h=>?_,fun p hp=>absurd (show p∈([]:List (Addr×Obj)) from hp) (by simp),e0.Ws.kept hk,?_⟩
 ·exact name_of_addr x.apart (Δ4 h1) (Δ4 h2)
 ·have hy:scope.names.lookup y=some .cell\/scope.names.lookup y=some .free:=hy;rcases hy with hy|hy
  ·exact Cg hy
  ·exact absurd rfl (S.gS _ (Δ4 hy))
 ·exact Nat.le_of_lt 5e0
 ·have hi:i < vs.length:=by
   unfold start at h2;by_cases hi:i < vs.length
   ·exact hi
   ·rw[List.getElem?_append_right 7e0] at h2;rw[List.getElem?_replicate] at h2;split at h2<;>cases h2
  have ha:vs[i]?=some v:=by
   unfold start at h2;rw[Ε8 7e0,ϒ] at h2;cases e:vs[i]? with
   | none=>rw[e] at h2;cases h2
   | some a=>rw[e] at h2;cases h2;rfl
  obtain⟨u,hu,rv⟩:=r.get ha;have hp:ps[i]?=some y:=by
   rw[<- S.pre,List.getElem?_take_of_lt (by omega)];exact h1
  have ndP:ps.Nodup:=by rw[<- S.pre];exact S.nd.sublist (List.take_sublist _ _)
  refine⟨u,rv,?_⟩;rcases S.par y (Α1 hp) with k|k
  ·exact .inl ⟨k,zU ndP hp hu k⟩
  ·obtain⟨c,e⟩:=Cg (n:=s.heap.objs.size+1) k;refine .inr ⟨.inl k,c,e,?_⟩;have q:=x.cell y c e;rw[zS ndP hp hu (by show scope.names.lookup y≠_;rw[k];decide)] at q;exact q
 ·exact e0.Ws.fresh (Nat.le_of_lt 5e0)
 ·unfold start;show _=N.length;rw[Ν,Δ,List.length_replicate];omega
def TF{f:Addr}{name qual:Str}{params:Arguments}{dV kV doc pm WK ct oc:Value}{an od:Option Addr}{YD:Array (Option Value)}{N:List Str}{sp:Sp}(lk:K.lookup f=some ⟨oc,od,.func 4e0,YD⟩)(YV:PySem.W.codeIn K WK qual=true)(S:nH N ps scope)(len:∀ vs H Q E,sp vs H Q E->vs.length=ps.length)(XQ:∀(A:Around) (outer:List Env) (s:Shared) (H:Hp) (vs:List V) (Q:VK) (E:XK),Room k (A.deeper (envOfC qual scope s.heap.objs.size f WK))->sp vs H Q E -> ∃ t,XF 2e0 body t/\t {nx:=fun _ H'=>Q .Wl H',rt:=Q} 1e0 H) : fS P w K mg base CX (k+1) f 4e0 ps sp:=by
 refine⟨len,fun A outer s H args us vs Q E hr e0 hb r ZW=>?_⟩;have hl:=len _ _ _ _ ZW;have KX:K.In s.heap:=e0.mod.kin.keeps fun b o e=>(e0.bs b o e).1;have lim:s.heap.NoLimit:=e0.mod.nolimit.keeps fun b o e=>(e0.bs b o e).1;have Xk:∀ y∈ps.zip us,scope.names.lookup y.1=some .local\/(scope.names.lookup y.1=some .cell/\((cellsFrom 6e0 scope.names []).lookup y.1).isSome=true):=fun⟨n,v⟩ hy=>by
  rcases S.par n (List.of_mem_zip hy).1 with q|q
  ·exact .inl q
  ·exact .inr ⟨q,PySem.W.cellsFrom_some _ _ _ (.inl q)⟩
 refine codeAny_call_function hr.depth (KX _ _ lk) rfl S.co S.gen rfl (PySem.W.codeRec_of KX YV) (hb _ _ _ _ ?_);refine wpAny_newFunctionEnv_cells S.kind Xk fun env he s1 x=>?_;subst he;refine⟨lim.keeps x.toInCall.keep,codeAny_func ?_⟩;obtain⟨t,ht,hq⟩:=XQ A outer s H vs Q E (hr.deeper _) ZW;have I:Wm 2e0 [] 1e0 H s1:=H8 S hr.hd e0 hl r x;refine Α4 (ht [] s1 1e0 H _ I hq) (fun fl s' hs=>?_) fun e s' hs=>hs;have fin:∀ {σ':St} {H':Hp} {v:V} {u:Value},Wm 2e0 [] σ' H' s'->bN v u->Q v H'->CE outer P w H s Q u s' :=
  fun {σ' H' v u} J rv q=>⟨v,H',J.os,J.bare,J.base,J.Ws,rv,q⟩
 cases fl with
 | ret u =>
  obtain⟨v,σ',H',J,rv,q⟩:=hs;exact fin J rv q
 | next =>
  obtain⟨σ',H',J,q⟩:=hs;exact fin (v:=V.Wl) (u:=Value.none) J rfl q
 | brk =>
  obtain⟨_,_,_,q⟩:=hs;exact False.elim q
 | cont =>
  obtain⟨_,_,_,q⟩:=hs;exact False.elim q
end
section
variable{p:Pos}{t:TA}{id T:String}{r:List V->Hp->VK->Prop}
def V0(r:List V->Hp->VK->Prop)(t:TA):TE:=fun σ H Q=>t σ H fun vs H1=>r vs H1 Q
theorem bG(hc:gF X (.builtin id) r)(hg:Gl X x)(hm:X.mg x=none)(hv:bootBuiltins x=some (.builtin id))(ha:PA X (e::es) t)(hn:x≠"__name__":=by decide)(YW:(x==("__debug__":Str))=false:=by decide)(he:starEach (e::es) X.env=(false,eval e X.env)::starEach es X.env:=by rfl)(WV:(backTo pos (starEach es X.env)).any (·.1)=false:=by rfl):PE X (.Call (.Name x p) (e::es) [] pos) (V0 r t):=by
 intro Wj s σ H Q I h;refine wpAny_Call_Name_kw (EH I hg hm hv ?_ hn YW);exact PyProof.Rows.callWith_builtin1 (thn (ha pos Wj s σ H _ I h) fun us s1 ⟨vs,H1,I1,r1,q1⟩=>hc Wj s1 σ H1 vs us Q I1 r1 q1) he WV
theorem cD(hc:gF X (.type T) r)(hg:Gl X x)(hm:X.mg x=none)(hv:bootBuiltins x=some (.type T))(ha:PA X (e::es) t)(hn:x≠"__name__":=by decide)(YW:(x==("__debug__":Str))=false:=by decide)(he:starEach (e::es) X.env=(false,eval e X.env)::starEach es X.env:=by rfl)(WV:(backTo pos (starEach es X.env)).any (·.1)=false:=by rfl):PE X (.Call (.Name x p) (e::es) [] pos) (V0 r t):=by
 intro Wj s σ H Q I h;refine wpAny_Call_Name_kw (EH I hg hm hv ?_ hn YW);exact PyProof.Rows.callWith_type1 (thn (ha pos Wj s σ H _ I h) fun us s1 ⟨vs,H1,I1,r1,q1⟩=>hc Wj s1 σ H1 vs us Q I1 r1 q1) he WV
end
end L2
namespace HT
open PySem PyProof.Rows
section
open PySem.SeqAt
open PySem.AutoSeq1 (wpAny_loadPart')
open PySem.MeetsSeq PySem.MeetsSeq2 PySem.MeetsSeq3
end
section
variable{prog:Program}{w:World}{A:Around}{E:q0A}{s:Shared}
mutual
example:=[g0 items.size items.size hi - g0 items.size 0 lo,(Θ ⟨_,rfl,Θ h⟩),model prog w,.ref t,g0 items.size 0 lo,(by decide),.ref sl,(if v < 0 then max (v+(n:Int)) 0 else min v (n:Int)),(if v < 0 then (v+(n:Int)).toNat else min v.toNat n),PySem.F.args_tuple_add_2 _ _,.ref s.heap.objs.size,(by simpa using hv)]
def ML{t b:Addr}{vs ws:List Value}{Q:q0A}(ht:IsTup s.heap t vs.toArray)(hb:IsTup s.heap b ws.toArray)(hv:vs≠[])(h1:ws=[]->Q 3e0 s)(h2:ws≠[]->Q 0e1 {s with heap:=s.heap.push {cls:=.type "tuple",data:=.seq (vs++ws).toArray}})(hsz:vs.length+ws.length<=sizeLine):wpAny 2e0 A (binaryOp .Add 3e0 (.ref b)) Q E s:=by
 obtain⟨⟨cls,dd,data,sl⟩,ho,hc,n,hd⟩:=id ht;obtain⟨⟨acV,dd2,data2,ZE⟩,WU,hc2,n2,hd2⟩:=id hb;simp only at hc hd hc2 hd2;subst hc hd hc2 hd2;have e:vs.toArray++ws.toArray=(vs++ws).toArray:=by simp
 by_cases hw:ws=[]
 ·exact concat_meets ⟨_,ho,rfl⟩ ⟨_,WU,rfl⟩ noFill_tuple_add seq_tuple_add PySem.F.slot_tuple_add PySem.F.entry_tuple_add 9e0
   (tuple_addW1 t b vs.toArray ws.toArray n n2 dd dd2 sl ZE 1e1 (by simp[hw])) ⟨ho,WU,h1 hw⟩
 ·refine concat_meets ⟨_,ho,rfl⟩ ⟨_,WU,rfl⟩ noFill_tuple_add seq_tuple_add PySem.F.slot_tuple_add PySem.F.entry_tuple_add 9e0
   (tuple_addW2 t b vs.toArray ws.toArray n n2 dd dd2 sl ZE 1e1 (by simpa using hw) (by rw[Ε,Ε];exact hsz)) ⟨ho,WU,?_⟩
  rw[e];exact h2 hw
def g0(n d:Nat):Option Int->Nat
 | none=>d
 | some v=>if v < 0 then (v+(n:Int)).toNat else min v.toNat n
theorem RV(n d:Nat)(hd:d<=n)(o:Option Int):g0 n d o<=n:=by
 cases o with
 | none=>exact hd
 | some v =>
  show 8e0<=n;by_cases hv:v < 0
  ·rw[if_pos hv];omega
  ·rw[if_neg hv];exact Nat.min_le_right _ _
theorem FQ(v:Int)(n d:Nat):7e0=((g0 n d (some v):Nat):Int):=by
 show 7e0=((8e0:Nat):Int);by_cases hv:v < 0
 ·simp only[if_pos hv];omega
 ·simp only[if_neg hv];omega
theorem Ec(lo hi:Option Int)(n:Nat):Builtin.Slice.sliceAdjust lo hi 1 (n:Int)=(((g0 n 0 lo:Nat):Int),((g0 n n hi:Nat):Int)):=by
 have h1:¬ ((1:Int) < 0):=by omega
 unfold Builtin.Slice.sliceAdjust;simp only[h1,Β1];refine Prod.ext ?_ ?_
 ·cases lo with
  | none=>rfl
  | some v=>exact FQ v n 0
 ·cases hi with
  | none=>rfl
  | some v=>exact FQ v n n
theorem Fb(i j:Nat):Builtin.Slice.slicePlaces (i:Int) (j:Int) 1=j - i:=by
 unfold Builtin.Slice.slicePlaces;have h1:(1:Int) > 0:=by omega
 simp only[h1,Γ5,Int.ediv_one];split<;>omega
def xZ{v:Value}{o:Option Int}{Q:Option Int->Shared->Prop}(p:IsPart v o)(h:Q o s):wpAny 2e0 A (Builtin.Slice.slicePartIndex v) Q E s:=by
 cases p with
 | none=>exact slicePart_none h
 | int i t=>exact slicePart_int h
theorem sF{sl:Addr}{vl vu:Value}{lo hi:Option Int}{n:Nat}{Q:Int×Int×Nat->Shared->Prop}(hs:s.heap.IsSliceOf sl vl vu .none)(pl:IsPart vl lo)(pu:IsPart vu hi)(h:Q (((g0 n 0 lo:Nat):Int),1,g0 n n hi - g0 n 0 lo) s):wpAny 2e0 A (Builtin.Slice.sliceApplied 6e0 (pure (n:Int))) Q E s:=by
 obtain⟨os,hos,hcs,YX⟩:=id hs;unfold Builtin.Slice.sliceApplied Builtin.Slice.sliceFields;refine Β (Β (wpAny_field hos YX (x:=vl) rfl (Β (wpAny_field hos YX (x:=vu) rfl (Β (wpAny_field hos YX (x:=.none) rfl (Θ ?_)))))));refine Β (slicePart_none ?_);show wpAny _ _ (if ((1:Int)==0)=true then _ else _) _ _ s;rw[if_neg 5e0];refine Β (xZ pl (Β (xZ pu (Β (Θ ?_)))));show wpAny _ _ (match Builtin.Slice.sliceAdjust lo hi 1 (n:Int) with|(lo,hi)=>pure (lo,(1:Int),Builtin.Slice.slicePlaces lo hi 1)) _ _ s;rw[Ec lo hi n];show wpAny _ _ (pure (((g0 n 0 lo:Nat):Int),(1:Int),Builtin.Slice.slicePlaces ((g0 n 0 lo:Nat):Int) ((g0 n n hi:Nat):Int) 1)) _ _ s;rw[Fb];exact Θ h
theorem LC(xs:Array Value)(i k:Nat):((List.range k).filterMap fun(m:Nat)=>xs[((i:Int)+(m:Int) * 1).toNat]?).toArray=((xs.toList.drop i).take k).toArray:=by
 have e:(fun(m:Nat)=>xs[((i:Int)+(m:Int) * 1).toNat]?)=fun m=>xs[i+m]?:=by
  funext m;have:((i:Int)+(m:Int) * 1).toNat=i+m:=by omega
  rw[this]
 rw[e];have:=pick_run xs i k;rw[List.filterMap_map] at this;have e2:((fun x=>xs[x]?)∘fun x=>i+x)=fun m=>xs[i+m]?:=rfl;rw[e2] at this;rw[this]
theorem pY{t sl:Addr}{items:Array Value}{vl vu:Value}{lo hi:Option Int}{Q:q0A}(ht:IsTup s.heap t items)(hs:s.heap.IsSliceOf sl vl vu .none)(pl:IsPart vl lo)(pu:IsPart vu hi)(hw:¬ (g0 items.size 0 lo=0/\g0 items.size items.size hi=items.size))(h:Q 0e1 {s with heap:=s.heap.push {cls:=.type "tuple",data:=.seq ((items.toList.drop 4e0).take 0e0).toArray}})(hsz:items.size<=sizeLine):wpAny 2e0 A (getItem 3e0 6e0) Q E s:=by
 have Yf:sizeOk (.seq ((items.toList.drop 4e0).take 0e0).toArray):=by
  show((items.toList.drop 4e0).take 0e0).toArray.size<=sizeLine;rw[Ε,Α8,List.length_drop,Γ0];omega
 have hj:g0 items.size items.size hi<=items.size:=RV _ _ (Ι _) hi;obtain⟨os,hos,hcs,YX⟩:=id hs;have hTs:s.TypeIs 6e0 "slice":=⟨os,hos,hcs⟩;unfold getItem
 try with_reducible refine Α6 ?_
 first|refine Β (Θ ?_)|skip
 refine Β (wpAny_sequenceKey ht.typeIs 5e0 ?_);refine Β (wpAny_callSpecial?_slot (name:=Str.ofString "__getitem__") ht.typeIs PyProof.Rows.slot_tuple_getitem
  (wpAny_call_entry PyProof.Rows.slot_tuple_getitem ht.typeIs entry_tuple_getitem ?_ (args_tuple_getitem _ _)))
 show wpAny _ _ (Builtin.Tuple.tupleItemsOf 3e0 >>= _) _ _ s;refine Β (tupleItemsOf_ ht ?_);refine Β (wpAny_typeOf hTs ?_);rw[if_pos 5e0];refine Β (sF hs pl pu ?_);have hno:¬ ((((g0 items.size 0 lo:Nat):Int)==0&&(1:Int)==1&&0e0==items.size)=true):=by
  intro q;rw[Γ3,Γ3] at q;have q1:((g0 items.size 0 lo:Nat):Int)=0:=eq_of_beq q.1.1;have q2:g0 items.size items.size hi - g0 items.size 0 lo=items.size:=eq_of_beq q.2;exact hw ⟨by omega,by omega⟩
 show wpAny _ _ (if (((g0 items.size 0 lo:Nat):Int)==0&&(1:Int)==1&&0e0==items.size)=true then _ else _) _ _ s;rw[if_neg hno,LC]
 first
  | exact Β (m:=Builtin.Tuple.tupleExact _) (Β6 1e0 Yf)
  | exact Β (m:=Builtin.Tuple.tupleExact _) (Β6 (Β (Θ 1e0)) Yf)
  | exact Β (Β (m:=Builtin.Tuple.tupleExact _) (Β6 (Θ 1e0) Yf))
  | exact Β (Β (m:=Builtin.Tuple.tupleExact _) (Β6 1e0 Yf))
end
end
end HT
namespace L2
open PySem PySem.Spec PyProof.Rows
variable{a:Addr}{X:Cx}{H:Hp}{Wj:List (Addr×Obj)}{xs:List (List Key×Addr×Value)}{kvs:List (List Key×V)}{X8:List (TE×TE)}{us:List Value}{n t':Nat}{o:Option V}{pos:Pos}{P:Program}{s:Shared}{σ:St}{y:V}{u:Value}{w:World}{Q:q0A}
mutual
example:=[]
abbrev TO:=St->Hp->(Option Int->Hp->Prop)->Prop
def PO(X:Cx)(e:Option Expr)(t:TO):Prop :=
 ∀(Wj:List (Addr×Obj)) (s:Shared) (σ:St) (H:Hp) (Q:Option Int->Hp->Prop),Wm X Wj σ H s->t σ H Q ->
  wpAny (model X.prog X.w) X.A (evalPart e X.env) (fun u s'=>∃ o H',Wm X Wj σ H' s'/\IsPart u o/\Q o H') X.xe s
def Hm:TO:=fun _ H Q=>Q none H
def Mf(t:TE):TO:=fun σ H Q=>t σ H fun x H1=>∃ i,x=.int i/\Q (some i) H1
def EF{ns:List Int}:∀ {us:List Value},Wq (ns.map V.int) us->IntsAre us ns:=by
 induction ns with
 | nil=>intro us r;rw[List.map_nil] at r;cases r;exact .nil
 | cons n ns ih =>
  intro us r;rw[ϓ] at r;cases r with
  | cons r1 r2 =>
   obtain⟨t,e⟩:=r1;subst e;exact .cons n t (ih r2)
end
section
variable{e:Expr}{te:TE}{lo hi:Option Expr}{tl th:TO}{p2:Pos}
mutual
example:=[HT.g0 xs.length xs.length hi - HT.g0 xs.length 0 lo,HT.g0 xs.length 0 lo,.Slice lo hi none p2,(fun b ob q=>Ζ _ q),I.Ws.fresh (Ι _),model X.prog X.w,EP X Wj σ Q,qY xs lo hi]
def Oi:PO X none Hm:=by
 intro Wj s σ H Q I h;rw[evalPart_none];exact Θ ⟨none,H,I,.none,h⟩
def lM(h:PE X e te):PO X (some e) (Mf te):=by
 intro Wj s σ H Q I hw;rw[evalPart_some];refine thn (h Wj s σ H _ I hw) fun u s1 ⟨x,H1,I1,r1,q1⟩=>?_;obtain⟨i,rfl,q⟩:=q1;obtain⟨t,rfl⟩:=r1;exact⟨some i,H1,I1,.int i t,q⟩
def Mw(X:Cx)(r:V->Option Int->Option Int->Hp->VK->Prop):Prop :=
 ∀(Wj:List (Addr×Obj)) (s:Shared) (σ:St) (H:Hp) (x:V) (v vl vu:Value) (lo hi:Option Int) (sl:Addr) (Q:VK),Wm X Wj σ H s->bN x v->s.heap.IsSliceOf sl vl vu .none->IsPart vl lo->IsPart vu hi->r x lo hi H Q ->
  ∃ T id,typeLookup (.type T) "__getitem__"=pure (some (.builtin id))/\s.TypeIs v T/\wpAny 5e0 X.A (getItem v (.ref sl)) 6e0 X.xe s
def Mw.or{r r':V->Option Int->Option Int->Hp->VK->Prop}(h:Mw X r)(h':Mw X r'):Mw X (fun x lo hi H Q=>r x lo hi H Q\/r' x lo hi H Q):=by
 intro Wj s σ H x v vl vu lo hi sl Q I rx hs pl pu q;rcases q with q|q
 ·exact h Wj s σ H x v vl vu lo hi sl Q I rx hs pl pu q
 ·exact h' Wj s σ H x v vl vu lo hi sl Q I rx hs pl pu q
def V9(r:V->Option Int->Option Int->Hp->VK->Prop)(te:TE)(tl th:TO):TE:=fun σ H Q=>te σ H fun x H1=>tl σ H1 fun l H2=>th σ H2 fun u H3=>r x l u H3 Q
def Ly{r:V->Option Int->Option Int->Hp->VK->Prop}(hr:Mw X r)(he:PE X e te)(hl:PO X lo tl)(hu:PO X hi th):PE X (.Subscript e 2e0 pos) (V9 r te tl th):=by
 intro Wj s σ H Q I h;refine Subscript_ (thn (he Wj s σ H _ I h) fun v s1 ⟨x,H1,I1,r1,q1⟩=>?_);refine wpAny_Slice (thn (hl Wj s1 σ H1 _ I1 q1) fun vl s2 ⟨l,H2,I2,pl,q2⟩=>thn (hu Wj s2 σ H2 _ I2 q2) fun vu s3 ⟨u,H3,I3,pu,q3⟩=>?_);rw[evalPart_none];refine Θ ?_;have I4:Wm X Wj σ H3 {s3 with heap:=s3.heap.push {cls:=.type "slice",data:=.fields #[vl,vu,.none]}}:=I3.kept (t':=s3.toks) fun b ob q=>Ζ _ q;obtain⟨T,id,hT,ht,hg⟩:=hr Wj {s3 with heap:=s3.heap.push {cls:=.type "slice",data:=.fields #[vl,vu,.none]}} σ H3 x v vl vu l u s3.heap.objs.size Q I4 r1 (Heap.IsSliceOf.new ..) pl pu q3;show wpAny 5e0 X.A (subscriptTail e 2e0 v (.ref s3.heap.objs.size)) 6e0 X.xe {s3 with heap:=s3.heap.push {cls:=.type "slice",data:=.fields #[vl,vu,.none]}};exact tail_any (ops:=[.ref s3.heap.objs.size,v]) ht hT hg (by with_unfolding_all rfl)
def qY(xs:List V)(lo hi:Option Int):List V:=(xs.drop 1e0).take 0e0
theorem sJ(xs:List V)(lo hi:Option Int):(qY xs lo hi).length<=xs.length:=by
 unfold qY;rw[Α8,List.length_drop];omega
def VY(K:q0B):V->Option Int->Option Int->Hp->VK->Prop:=fun x lo hi H Q=>∃ a xs,x=.ref a/\g8 K H a xs /\
 ¬ (HT.g0 xs.length 0 lo=0/\HT.g0 xs.length xs.length hi=xs.length)/\∀ p,H p=none->Q (.ref p) (Wk H p (.tup 7e0))
def RX:Mw X (VY X.K):=by
 intro Wj s σ H x v vl vu lo hi sl Q I rx hs pl pu h;obtain⟨a,xs,rfl,hx,hw,q⟩:=h;cases rx;obtain⟨Wn,r,ht,hz⟩:=I.tuple hx;have hlen:Wn.toArray.size=xs.length:=by rw[Ε];exact r.length.symm
 refine⟨"tuple",_,PyProof.Rows.slot_tuple_getitem.lookup,ht.typeIs,?_⟩;refine HT.pY ht hs pl pu (by rw[hlen];exact hw) ?_ (by rw[hlen];exact hz);rw[hlen];refine⟨.ref s.heap.objs.size,_,I.laid (t':=s.toks) (o:=.tup 7e0) 3e0 (Ι _) ?_,rfl,q _ 4e0⟩;exact⟨ϐ (sJ xs lo hi) hz,_,(r.drop 1e0).take 0e0,IsTup.new _ _⟩
def Us(K:q0B):R2:=fun x y H Q=>∃ a b xs ys,x=.ref a/\y=.ref b/\g8 K H a xs/\g8 K H b ys/\xs≠[]/\xs.length+ys.length<=sizeLine /\
 (ys=[]->Q (.ref a) H)/\(ys≠[]->∀ p,H p=none->Q (.ref p) (Wk H p (.tup (xs++ys))))
def Wq.t9{xs:List V}(r:Wq xs us):us=[]↔xs=[]:=by
 cases r with
 | nil=>simp
 | cons _ _=>simp
def GH:iW X (binaryOp .Add) (Us X.K):=by
 intro Wj s σ H x y v u Q I rx ry h;obtain⟨a,b,xs,ys,rfl,rfl,ha,hb,hx,hz,q1,q2⟩:=h;cases rx;cases ry;obtain⟨Wn,r1,p1,_⟩:=I.tuple ha;obtain⟨Xt,r2,p2,_⟩:=I.tuple hb;refine HT.ML p1 p2 (fun z=>hx (r1.t9.mp z)) (fun z=>⟨.ref a,H,I,rfl,q1 (r2.t9.mp z)⟩) (fun z=>?_) (by rw[<- r1.length,<- r2.length];exact hz);refine⟨.ref s.heap.objs.size,_,I.laid (t':=s.toks) (o:=.tup (xs++ys)) 3e0 (Ι _) ?_,rfl,q2 (fun w=>z (r2.t9.mpr w)) _ 4e0⟩;exact⟨by rw[Ν];exact hz,_,r1.append r2,IsTup.new _ _⟩
end
end
mutual
example:=[(by omega),model X.prog X.w,EP X Wj σ Q,Addr×Obj]
def zE(n:Nat)(i:Int):Option Nat:=if 0<=i then (if i < n then some i.toNat else none) else if -(n:Int)<=i then some (i+n).toNat else none
def gI{α:Type}(xs:List α)(i:Int):Option α:=(zE xs.length i).bind fun j=>xs[j]?
theorem Gz{i:Int}{j:Nat}(h:zE n i=some j):seqIndex? i n=some j/\j < n/\-(n:Int)<=i/\i < n:=by
 unfold zE at h;by_cases h0:0<=i
 ·rw[if_pos h0] at h;by_cases h1:i < n
  ·rw[if_pos h1] at h;have e:i.toNat=j:=ϖ h;exact⟨by rw[seqIndex_of h0 h1,e],by omega,by omega,h1⟩
  ·rw[if_neg h1] at h;cases h
 ·rw[if_neg h0] at h;by_cases h1:-(n:Int)<=i
  ·rw[if_pos h1] at h;have e:(i+n).toNat=j:=ϖ h;exact⟨by rw[seqIndex_neg 0e0 h1,e],by omega,h1,by omega⟩
  ·rw[if_neg h1] at h;cases h
def tT{α:Type}{xs:List α}{i:Int}{v:α}(h:gI xs i=some v):∃ j,seqIndex? i xs.length=some j/\xs[j]?=some v/\j < xs.length/\-(xs.length:Int)<=i/\i < xs.length:=by
 unfold gI at h;cases e:zE xs.length i with
 | none=>rw[e] at h;cases h
 | some j =>
  rw[e] at h;obtain⟨h1,h2,h3,h4⟩:=Gz e;exact⟨j,h1,h,h2,h3,h4⟩
theorem eL{α:Type}{xs:List α}{j:Nat}{v:α}(h:xs[j]?=some v):gI xs (j:Int)=some v:=by
 have hj:j < xs.length:=(Λ.mp h).1;have e:zE xs.length (j:Int)=some j:=by
  unfold zE;rw[if_pos 0e0,if_pos 0e0];simp
 unfold gI;rw[e];exact h
theorem j4{α:Type}(xs:List α)(v:α):gI (xs++[v]) (-1)=some v:=by
 have hl:(xs++[v]).length=xs.length+1:=by simp
 have e:zE (xs++[v]).length (-1)=some xs.length:=by
  unfold zE;rw[hl,if_neg (by decide),if_pos 0e0]
  congr 1
  omega
 unfold gI;rw[e];show(xs++[v])[xs.length]?=some v;simp
def Fy(b:Expr):Prop:=∀ o i,subscripted b false o i=operate [o,i] (getItem o i)
def Fx(X:Cx)(r:R2):Prop :=
 ∀(value slice:Expr) (Wj:List 3e0) (s:Shared) (σ:St) (H:Hp) (x y:V) (v u:Value) (Q:VK),Wm X Wj σ H s->bN x v->bN y u->r x y H Q ->
  subscripted slice false v u=operate [v,u] (getItem v u)->wpAny 1e0 X.A (subscriptTail value slice v u) 2e0 X.xe s
def Wc(X:Cx)(id:String)(r:V->List V->Hp->VK->Prop):Prop :=
 ∀(Wj:List 3e0) (s:Shared) (σ:St) (H:Hp) (x:V) (xs:List V) (v:Value) (us:List Value) (Q:VK),Wm X Wj σ H s->bN x v->Wq xs us->r x xs H Q ->
  wpAny 1e0 X.A (call (.builtin id) (v::us)) 2e0 X.xe s
end
section
variable{a b:Expr}{ta tb:TE}
mutual
example:=[EC x,(by omega),Ι _,(fun w hw=>mQ rx fx r fs w (by simpa using hw)),(by simp only[Ε]<;>omega),.tup ys,.lst ys,.lst xs,(fun h' c' kp e=>fin Wn r' hz h' c' kp e),(by rw[hk];exact⟨_,I',q⟩),Wk H p (.lst (xs.set j v)),(by rw[hj];simpa using ew),(by rw[Ε]<;>omega),I.Ws.fresh 2e0,qY xs lo hi]
def Fx.or{r r':R2}(h:Fx X r)(h':Fx X r'):Fx X (fun x y H Q=>r x y H Q\/r' x y H Q):=by
 intro value slice Wj s σ H x y v u Q I rx ry q hs;rcases q with q|q
 ·exact h value slice Wj s σ H x y v u Q I rx ry q hs
 ·exact h' value slice Wj s σ H x y v u Q I rx ry q hs
def Uo{r:R2}(hr:Fx X r)(ha:PE X a ta)(hb:PE X b tb)(hs:Fy b):PE X (.Subscript a b pos) (OK r ta tb):=by
 intro Wj s σ H Q I h;exact Subscript_ (PV ha hb I h fun v u s2 x y H2 I2 rx ry q=>hr a b Wj s2 σ H2 x y v u Q I2 rx ry q (hs _ _))
def Ut(K:q0B):R2:=fun x y H Q=>∃ p xs i v,x=.ref p/\y=.int i/\eU K H p xs/\gI xs i=some v/\Q v H
def Uv(K:q0B):R2:=fun x y H Q=>∃ p xs i v,x=.ref p/\y=.int i/\g8 K H p xs/\gI xs i=some v/\Q v H
def Uu:R2:=fun x y H Q=>∃ z i c,x=.str z/\y=.int i/\z.length<=sizeLine/\gI z.cps.toList i=some c/\Q (.str ⟨#[c]⟩) H
theorem NT:Fx X (Ut X.K):=by
 intro value slice Wj s σ H x y v u Q I rx ry h hs;obtain⟨p,xs,i,z,rfl,rfl,hq,he,q⟩:=h;cases rx;obtain⟨t,rfl⟩:=ry;obtain⟨Wn,r,pl,hz⟩:=I.list hq;obtain⟨j,h1,h2,h3,h4,h5⟩:=tT he;obtain⟨w,ew,Xu⟩:=r.get h2;have hl:=r.length;have hn:=line63;have fin:EP X Wj σ Q w s:=⟨z,H,I,Xu,q⟩;by_cases h0:0<=i
 ·have hj:i.toNat=j:=by
   rw[seqIndex_of h0 h5] at h1;exact ϖ h1
  exact item_listR pl.isList h0 1e0 1e1 fin hs
 ·have hj:(i+(Wn.toArray.size:Int)).toNat=j:=by
   rw[seqIndex_neg 1e0 h4] at h1;rw[Ε,<- hl];exact ϖ h1
  exact subscriptTail_builtinR (x:=w) pl.isList.typeIs slot_list_getitem.lookup
   (wpAny_getItem_list_neg (Q:=fun r s'=>r=w/\EP X Wj σ Q r s') pl.isList 1e0 2e1 1e0 1e1 ⟨rfl,fin⟩) hs
theorem Rg:Fx X (Uv X.K):=by
 intro value slice Wj s σ H x y v u Q I rx ry h hs;obtain⟨p,xs,i,z,rfl,rfl,hq,he,q⟩:=h;cases rx;obtain⟨t,rfl⟩:=ry;obtain⟨Wn,r,pl,hz⟩:=I.tuple hq;obtain⟨j,h1,h2,h3,h4,h5⟩:=tT he;obtain⟨w,ew,Xu⟩:=r.get h2;have hl:=r.length;have hn:=line63;have fin:EP X Wj σ Q w s:=⟨z,H,I,Xu,q⟩;exact subscriptTail_builtinR (x:=w) pl.typeIs slot_tuple_getitem.lookup
  (getItem_tuple (j:=j) (Q:=fun r s'=>r=w/\EP X Wj σ Q r s') pl 1e0 1e0 (by rw[Ε,<- hl];exact h1) (by simpa using ew) ⟨rfl,fin⟩) hs
theorem Rf:Fx X Uu:=by
 intro value slice Wj s σ H x y v u Q I rx ry h hs;obtain⟨z,i,c,rfl,rfl,hz,he,q⟩:=h;obtain⟨t,rfl⟩:=rx;obtain⟨t',rfl⟩:=ry;obtain⟨j,h1,h2,h3,h4,h5⟩:=tT he;have hl:z.cps.toList.length=z.length:=by simp[Str.length]
 rw[hl] at h1 h4 h5;have hn:=line63;exact tail_any (typeIs_str s z t) slot_str_getitem.lookup (getItem_str (c:=c) (by
  have e1:decide (i < -(2 ^ 63:Int))=false:=Β4 1e0;have e2:decide (i >= 2 ^ 63)=false:=Β4 1e0;rw[e1,e2,Bool.or_false]) (by rw[h1];simpa using h2) ⟨.str ⟨#[c]⟩,H,I.tok _,⟨_,rfl⟩,q⟩) hs
def Wf(K:q0B):R2:=fun x y H Q=>Ut K x y H Q\/Uv K x y H Q\/Uu x y H Q
def Rc:Fx X (Wf X.K):=NT.or (Rg.or Rf)
def EL(Wn:List Value)(n j:Nat)(u:Value):Obj.mapSeq (·.setIfInBounds j u) {cls:=.type "list",data:=.seq Wn.toArray n}={cls:=.type "list",data:=.seq (Wn.set j u).toArray n}:=by
 simp[Obj.mapSeq]
def Wm.lst{p:Addr}{xs:List V}(I:Wm X Wj σ H s)(h:H p=some 7e0) : ∃(Wn:List Value) (n:Nat),Wq xs Wn/\s.heap.get? p=some {cls:=.type "list",data:=.seq Wn.toArray n}/\xs.length<=sizeLine:=by
 obtain⟨z,Wn,n,r,e⟩:=I.Ws p _ h;exact⟨Wn,n,r,e,z⟩
def Wm.Rl{p:Addr}{xs ys:List V}{Wn its':List Value}{n':Nat}{f:Obj->Obj}(I:Wm X Wj σ H s)(h:H p=some 7e0)(ho:s.heap.get? p=some {cls:=.type "list",data:=.seq Wn.toArray n})(hf:f {cls:=.type "list",data:=.seq Wn.toArray n}={cls:=.type "list",data:=.seq its'.toArray n'})(r:Wq ys its')(hz:ys.length<=sizeLine)(t:Nat) : Wm X Wj σ (Wk H p 6e0) {s with heap:=s.heap.update p f,toks:=t}:=by
 have e:(s.heap.update p f).get? p=some {cls:=.type "list",data:=.seq its'.toArray n'}:=by
  rw[Heap.get?_update_self f ho (by rw[hf]<;>rfl),hf]
 refine I.write (x:=p) (e:=p) (by rw[h];trivial) (.inl rfl) (fun b u hb q=>(Heap.get?_update_other _ _ (Ne.symm hb)).trans q) ⟨_,e⟩ ?_;exact⟨hz,its',n',r,e⟩
def Uw:V->V->V->Hp->(Hp->Prop)->Prop:=fun o i v H Q=>∃ p xs k j,o=.ref p/\i=.int k/\H p=some 7e0/\zE xs.length k=some j/\Q 0e1
theorem LN:PSet X Uw:=by
 intro Wj s σ H o i v ov iv u Q I ro ri rv h;obtain⟨p,xs,k,j,rfl,rfl,hp,hj,q⟩:=h;cases ro;obtain⟨t,rfl⟩:=ri;obtain⟨Wn,n,r,ho,hz⟩:=I.lst hp;obtain⟨h1,h2,h3,h4⟩:=Gz hj;have hl:=r.length;have hn:=line63;have I':Wm X Wj σ 0e1 {s with heap:=s.heap.update p (Obj.mapSeq (·.setIfInBounds j u))} :=
  I.Rl hp ho (EL Wn n j u) (r.set rv j) (by rw[List.length_set];exact hz) s.toks
 by_cases h0:0<=k
 ·have hk:k.toNat=j:=by
   rw[seqIndex_of h0 h4] at h1;exact ϖ h1
  exact PySem.W.ki_setAt ho h0 1e0 (by rw[Ε,<- hl];exact h4) 9e0
 ·have hk:(k+(Wn.toArray.size:Int)).toNat=j:=by
   rw[seqIndex_neg 1e0 h3] at h1;rw[Ε,<- hl];exact ϖ h1
  exact PySem.W.ki_setBack ho 1e0 (by rw[Ε,<- hl];exact h3) 1e0 9e0
theorem BN(lo hi:Option Int)(n:Nat):(sliceBounds lo hi none n).1=((HT.g0 n 0 lo:Nat):Int)/\(sliceBounds lo hi none n).2.1=((HT.g0 n n hi:Nat):Int)/\(sliceBounds lo hi none n).2.2=1:=by
 refine⟨?_,?_,rfl⟩
 ·cases lo with
  | none=>simp[sliceBounds,HT.g0]
  | some i =>
   simp only[sliceBounds,HT.g0,Option.getD_none,show(1:Int) > 0 by decide,Γ5];by_cases h:i < 0
   ·simp only[h,Γ5]<;>omega
   ·simp only[h,Β1]<;>omega
 ·cases hi with
  | none=>simp[sliceBounds,HT.g0]
  | some i =>
   simp only[sliceBounds,HT.g0,Option.getD_none,show(1:Int) > 0 by decide,Γ5];by_cases h:i < 0
   ·simp only[h,Γ5]<;>omega
   ·simp only[h,Β1]<;>omega
def zJ(Wn:List Value)(lo hi:Option Int):slicePick Wn.toArray lo hi none=((Wn.drop (HT.g0 Wn.length 0 lo)).take (HT.g0 Wn.length Wn.length hi - HT.g0 Wn.length 0 lo)).toArray:=by
 obtain⟨h1,h2,h3⟩:=BN lo hi Wn.toArray.size;unfold slicePick;rw[h1,h2,h3];simp only[sliceRange_one,pick_run,Ε]<;>rfl
def VX(K:q0B):V->Option Int->Option Int->Hp->VK->Prop:=fun x lo hi H Q=>∃ a xs,x=.ref a/\eU K H a xs/\∀ p,H p=none->Q (.ref p) (Wk H p (.lst 4e1))
theorem OD:Mw X (VX X.K):=by
 intro Wj s σ H x v vl vu lo hi sl Q I rx hs pl pu h;obtain⟨a,xs,rfl,hx,q⟩:=h;cases rx;obtain⟨Wn,r,ht,hz⟩:=I.list hx;have hlen:=r.length;refine⟨"list",_,slot_list_getitem.lookup,ht.isList.typeIs,?_⟩;refine wpAny_getItem_list_slice ht.isList hs pl pu .none (by simp) ?_ 2e1;rw[zJ,<- hlen];refine⟨.ref s.heap.objs.size,_,I.laid (t':=s.toks) (o:=.lst 4e1) (fun b ob q=>Ζ _ q) 2e0 ?_,rfl,q _ 3e1⟩;exact⟨ϐ (sJ xs lo hi) hz,_,0,(r.drop (HT.g0 xs.length 0 lo)).take (HT.g0 xs.length xs.length hi - HT.g0 xs.length 0 lo),Χ _ rfl⟩
def dN:V->Bool
 | .Wl=>true
 | .bl _=>true
 | .int _=>true
 | .str _=>true
 | _=>false
def j7:V->V->Bool
 | .Wl,.Wl=>true
 | .bl a,.bl b=>a==b
 | .bl a,.int b=>(if a then 1 else 0)==b
 | .int a,.bl b=>a==(if b then 1 else 0)
 | .int a,.int b=>a==b
 | .str a,.str b=>a==b
 | _,_=>false
def Kd{A:Around}{x:V}{v:Value}(ry:bN y u)(rx:bN x v)(fy:dN y=true)(fx:dN x=true):SeqAt.EqAt A s u v (j7 y x):=by
 cases y with
 | Wl =>
  cases ry;cases x with
  | Wl=>cases rx;exact SeqAt.EqAt.same _
  | bl b=>cases rx;exact SeqAt.EqAt.none_bool b
  | int b=>obtain⟨t,rfl⟩:=rx;exact SeqAt.EqAt.none_int b t
  | str b=>obtain⟨t,rfl⟩:=rx;exact SeqAt.EqAt.none_str b t
  | _=>exact absurd (show false=true from fx) Φ
 | bl a =>
  cases ry;cases x with
  | Wl=>cases rx;exact SeqAt.EqAt.bool_none a
  | bl b=>cases rx;exact SeqAt.EqAt.bool_bool a b
  | int b=>obtain⟨t,rfl⟩:=rx;exact SeqAt.EqAt.bool_int a b t
  | str b=>obtain⟨t,rfl⟩:=rx;exact SeqAt.EqAt.bool_str a b t
  | _=>exact absurd (show false=true from fx) Φ
 | int a =>
  obtain⟨t',rfl⟩:=ry;cases x with
  | Wl=>cases rx;exact SeqAt.EqAt.int_none a t'
  | bl b=>cases rx;exact SeqAt.EqAt.int_bool a t' b
  | int b=>obtain⟨t,rfl⟩:=rx;exact SeqAt.EqAt.int_int a t' b t
  | str b=>obtain⟨t,rfl⟩:=rx;exact SeqAt.EqAt.int_str a t' b t
  | _=>exact absurd (show false=true from fx) Φ
 | str a =>
  obtain⟨t',rfl⟩:=ry;cases x with
  | Wl=>cases rx;exact SeqAt.EqAt.str_none a t'
  | bl b=>cases rx;exact SeqAt.EqAt.str_bool a t' b
  | int b=>obtain⟨t,rfl⟩:=rx;exact SeqAt.EqAt.str_int a t' b t
  | str b=>obtain⟨t,rfl⟩:=rx;exact SeqAt.EqAt.str_str a t' b t
  | _=>exact absurd (show false=true from fx) Φ
 | _=>exact absurd (show false=true from fy) Φ
def EC(x:V)(u:Value):Bool:=match u with
 | .none=>j7 .Wl x
 | .bool b=>j7 (.bl b) x
 | .int i _=>j7 (.int i) x
 | .str z _=>j7 (.str z) x
 | _=>false
def Ke{x:V}(r:bN y u)(f:dN y=true):EC x u=j7 y x:=by
 cases y with
 | Wl=>cases r;rfl
 | bl b=>cases r;rfl
 | int i=>obtain⟨t,rfl⟩:=r;rfl
 | str z=>obtain⟨t,rfl⟩:=r;rfl
 | _=>exact absurd (show false=true from f) Φ
theorem pN{x:V}:∀ {xs:List V} {us:List Value},Wq xs us->xs.all dN=true->us.any 0e0=xs.any fun y=>j7 y x
 | _,_,.nil,_=>rfl
 | y::xs,u::us,.cons r t,f=>by
  rw[List.all_cons,Γ3] at f;rw[Δ8,Δ8,Ke r f.1,pN t f.2]
theorem mQ{A:Around}{s:Shared}{x:V}{v:Value}(rx:bN x v)(fx:dN x=true):∀ {xs:List V} {us:List Value},Wq xs us->xs.all dN=true->∀ u∈us,SeqAt.EqAt A s u v (EC x u)
 | _,_,.nil,_=>fun u hu=>by cases hu
 | y::xs,u::us,.cons r t,f=>fun u' hu=>by
  rw[List.all_cons,Γ3] at f;rcases Α.mp hu with rfl|hu
  ·rw[Ke r f.1];exact Kd r rx f.1 fx
  ·exact mQ rx fx t f.2 u' hu
def rG(x:V)(xs:List V):Bool:=xs.any fun y=>j7 y x
def V5(K:q0B)(neg:Bool):R2:=fun x y H Q=>∃ p xs,y=.ref p/\(eU K H p xs\/g8 K H p xs)/\dN x=true/\xs.all dN=true/\Q (.bl (if neg then !rG x xs else rG x xs)) H
def IB:iW X (compareOp .In) (V5 X.K false):=by
 intro Wj s σ H x y v u Q I rx ry h;obtain⟨p,xs,rfl,hq,fx,fs,q⟩:=h;cases ry;rcases hq with hq|hq
 ·obtain⟨Wn,r,pl,hz⟩:=I.list hq;refine SeqAt.in_listAt 0e0 pl.isList 3e0 ⟨.bl _,H,I,rfl,?_⟩;rw[show Wn.toArray.any 0e0=Wn.any 0e0 by simp,pN r fs];exact q
 ·obtain⟨Wn,r,pl,hz⟩:=I.tuple hq;refine SeqAt.in_tupleAt 0e0 pl 3e0 ⟨.bl _,H,I,rfl,?_⟩;rw[show Wn.toArray.any 0e0=Wn.any 0e0 by simp,pN r fs];exact q
def BB:iW X (compareOp .NotIn) (V5 X.K true):=by
 intro Wj s σ H x y v u Q I rx ry h;obtain⟨p,xs,rfl,hq,fx,fs,q⟩:=h;cases ry;rcases hq with hq|hq
 ·obtain⟨Wn,r,pl,hz⟩:=I.list hq;refine SeqAt.notIn_listAt 0e0 pl.isList 3e0 ⟨.bl _,H,I,rfl,?_⟩;rw[show Wn.toArray.any 0e0=Wn.any 0e0 by simp,pN r fs];exact q
 ·obtain⟨Wn,r,pl,hz⟩:=I.tuple hq;refine SeqAt.notIn_tupleAt 0e0 pl 3e0 ⟨.bl _,H,I,rfl,?_⟩;rw[show Wn.toArray.any 0e0=Wn.any 0e0 by simp,pN r fs];exact q
theorem AQ:gF X (.type "list") (fun xs H Q=>∃ p ys,xs=[.ref p]/\(eU X.K H p ys\/g8 X.K H p ys)/\∀ l,H l=none->Q (.ref l) (Wk H l 6e0)):=by
  intro Wj s σ H xs us Q I r h;obtain⟨p,ys,rfl,hq,q⟩:=h;obtain⟨u,rfl,rx⟩:=vals1 r;cases rx;have fin:∀(Wn:List Value),Wq ys Wn->ys.length<=sizeLine->∀(h':Heap) (c':Nat),(∀ b o',s.heap.get? b=some o'->h'.get? b=some o') ->
      h'.get? s.heap.objs.size=some {cls:=.type "list",dict:=none,data:=.seq Wn.toArray c',slots:=#[]}->EP X Wj σ Q (.ref s.heap.objs.size) {s with heap:=h'}:=fun Wn r' hz h' c' kp e =>
    ⟨.ref s.heap.objs.size,_,I.laid (t':=s.toks) kp 2e0 (show dU X.prog X.w _ h' _ 6e0 from ⟨hz,Wn,c',r',e⟩),rfl,q _ 3e1⟩
  rcases hq with hq|hq
  · obtain⟨Wn,r',pl,hz⟩:=I.list hq;have hlen:=r'.length;obtain⟨o,ho,hc,n,hd⟩:=pl.isList;exact call_list_seq p (.inl rfl) ho hc hd 8e0 4e0
  · obtain⟨Wn,r',pl,hz⟩:=I.tuple hq;have hlen:=r'.length;obtain⟨o,ho,hc,n,hd⟩:=pl;exact call_list_seq p (.inr rfl) ho hc hd 8e0 4e0
theorem y7:gF X (.type "tuple") (fun xs H Q=>∃ p ys,xs=[.ref p]/\((eU X.K H p ys/\∀ l,H l=none->Q (.ref l) (Wk H l 5e0))\/(g8 X.K H p ys/\Q (.ref p) H))):=by
 intro Wj s σ H xs us Q I r h;obtain⟨p,ys,rfl,h⟩:=h;obtain⟨u,rfl,rx⟩:=vals1 r;cases rx;rcases h with⟨hq,q⟩|⟨hq,q⟩
 ·obtain⟨Wn,r',pl,hz⟩:=I.list hq;have hlen:=r'.length;refine call_tuple_list pl.isList (fun h' kp=>?_) 4e0;have I1:Wm X Wj σ H {s with heap:=h'}:=I.kept (t':=s.toks) kp;have I2:Wm X Wj σ (Wk H h'.objs.size 5e0) {s with heap:=h'.push {cls:=.type "tuple",data:=.seq Wn.toArray}} :=
   I1.laid (t':=s.toks) (fun b o e=>Ζ _ e) 2e0 (show dU X.prog X.w _ _ _ 5e0 from ⟨hz,Wn,r',IsTup.new _ _⟩)
  exact⟨.ref h'.objs.size,_,I2,rfl,q _ (I1.Ws.fresh 2e0)⟩
 ·obtain⟨Wn,r',pl,hz⟩:=I.tuple hq;exact call_tuple_same pl ⟨.ref p,H,I,rfl,q⟩
def Wg(K:q0B)(T:String)(x:V)(H:Hp):Prop:=match x with
  | .str _=>T = "str"
  | .int _=>T = "int"
  | .ref p=>(T = "list"/\∃ xs,eU K H p xs)\/(T = "tuple"/\∃ o,K.lookup p=some o/\o.cls=.type "tuple"/\o.dict=none) \/
      (T = "dict"/\((∃ kvs,H p=some (.dK kvs))\/∃ kvs,H p=some (.dT kvs)))\/(T = "set"/\∃ S n,H p=some (.set S n))
  | _=>False
def Ft{T:String}{x:V}{v:Value}(I:Wm X Wj σ H s)(r:bN x v)(ty:Wg X.K T x H) : s.TypeIs v T/\∀ a,v=.ref a->∃ ob,s.heap.get? a=some ob/\ob.dict=none:=by
 cases x with
 | str z =>
  obtain⟨t,rfl⟩:=r;cases (show T = "str" from ty);exact⟨typeIs_str s z t,fun _ e=>nomatch e⟩
 | int i =>
  obtain⟨t,rfl⟩:=r;cases (show T = "int" from ty);exact⟨typeIs_int s i t,fun _ e=>nomatch e⟩
 | ref p =>
  cases r;rcases ty with⟨rfl,xs,hq⟩|⟨rfl,o,hk,hc,hd⟩|⟨rfl,hk⟩|⟨rfl,S,n,hk⟩
  ·obtain⟨Wn,_,pl,_⟩:=I.list hq;refine⟨pl.isList.typeIs,fun a e=>?_⟩;cases e;obtain⟨o,n,e,c,hd,_⟩:=pl;exact⟨o,e,hd⟩
  ·refine⟨⟨o,I.kIn p o hk,hc⟩,fun a e=>?_⟩;cases e;exact⟨o,I.kIn _ o hk,hd⟩
  ·have z:∃ o,s.heap.get? p=some o/\o.ExactDict:=by
    rcases hk with⟨kvs,hk⟩|⟨kvs,hk⟩
    ·obtain⟨_,_,_,_,o,_,_,e,ex,_⟩:=I.Ws p _ hk;exact⟨o,e,ex⟩
    ·obtain⟨_,_,_,_,o,_,_,e,ex,_⟩:=I.Ws p _ hk;exact⟨o,e,ex⟩
   obtain⟨o,e,ex⟩:=z;refine⟨⟨o,e,ex.1⟩,fun a e2=>?_⟩;cases e2;exact⟨o,e,ex.2.1⟩
  ·obtain⟨o,_,_,_,e,ex,_⟩:=I.Ws p _ hk;refine⟨⟨o,e,ex.1⟩,fun a e2=>?_⟩;cases e2;exact⟨o,e,ex.2.1⟩
 | _=>exact False.elim ty
end
variable{o e:Expr}{es:List Expr}{to:TE}{t:TA}{name:Str}{apos Wu:Pos}{T id:String}{r:V->List V->Hp->VK->Prop}
end
mutual
example:=[]
def OU(X:Cx)(id:String)(r:V->List V->Hp->VK->Prop):Prop :=
 ∀(Wj:List (Addr×Obj)) (s:Shared) (σ:St) (H:Hp) (x:V) (xs:List V) (v:Value) (us:List Value) (Q:VK),Wm X Wj σ H s->bN x v->Wq xs us->r x xs H Q ->
  wpAny (model X.prog X.w) X.A (call (.builtin id) (v::us)) (EP X Wj σ Q) X.xe s
def Wq.one{x:V}(h:Wq [x] us):∃ u,us=[u]/\bN x u:=by
 cases h with
 | cons r t=>cases t;exact⟨_,rfl,r⟩
theorem Wq.zero:∀ {us:List Value},Wq [] us->us=[]
 | _,.nil=>rfl
def Wq.dropLast{xs:List V}(h:Wq xs us):Wq xs.dropLast us.dropLast:=by
 induction h with
 | nil=>exact .nil
 | cons r t ih =>
  cases t with
  | nil=>exact .nil
  | cons q t'=>exact .cons r ih
theorem Wq.eraseIdx:∀ {xs:List V} {us:List Value} (i:Nat),Wq xs us->Wq (xs.eraseIdx i) (us.eraseIdx i)
 | _,_,_,.nil=>.nil
 | _,_,0,.cons _ t=>t
 | _,_,i+1,.cons r t=>.cons r (Wq.eraseIdx i t)
theorem ED{α:Type}(l:List α):l.eraseIdx (l.length - 1)=l.dropLast:=by
 induction l with
 | nil=>rfl
 | cons a r ih =>
  cases r with
  | nil=>rfl
  | cons b r =>
   have e:(a::b::r).length - 1=((b::r).length - 1)+1:=by
    have h1:(a::b::r).length=r.length+2:=rfl;have h2:(b::r).length=r.length+1:=rfl;omega
   rw[e,List.eraseIdx_cons_succ,ih]
   all_goals rfl
theorem rM{α:Type}:∀(l:List α) (i:Nat),(l.eraseIdx i).length<=l.length
 | [],_=>Ι _
 | _::_,0=>Δ1 _
 | _::r,i+1=>Nat.succ_le_succ (rM r i)
end
section
variable{l b:Addr}{xs ys zs:List V}
mutual
example:=[Obj.mapSeq f]
def Wm.wN{Wn its':List Value}{f:Array Value->Array Value}(I:Wm X Wj σ H s)(hH:H l=some (.lst xs))(e:s.heap.get? l=some {cls:=.type "list",data:=.seq Wn.toArray n})(hf:f Wn.toArray=its'.toArray)(hv:Wq ys its')(hz:ys.length<=sizeLine) : Wm X Wj σ (Wk H l (.lst ys)) {s with heap:=s.heap.update l 0e0,toks:=t'}:=by
 have q:=PySem.IsL.update e f;rw[hf] at q;refine I.write (x:=l) (e:=l) (by rw[hH];exact trivial) (.inl rfl) (fun b' u hb hu=>(Heap.get?_update_other s.heap 0e0 (Ne.symm hb)).trans hu) ⟨_,q⟩ ?_;exact⟨hz,its',_,hv,q⟩
def Wm.N8{Wn:List Value}(I:Wm X Wj σ H s)(hv:Wq ys Wn)(hz:ys.length<=sizeLine) : Wm X Wj σ (Wk H s.heap.objs.size (.lst ys)) {s with heap:=s.heap.push {cls:=.type "list",data:=.seq Wn.toArray},toks:=t'} :=
 I.laid (fun _ _ q=>Ζ _ q) (Ι _) ⟨hz,Wn,0,hv,Χ _ rfl⟩
def Wm.fresh(I:Wm X Wj σ H s):H s.heap.objs.size=none:=I.Ws.fresh (Ι _)
def Wm.Bq(I:Wm X Wj σ H s)(hH:H l=some (.lst xs)):xs.length<=sizeLine/\∃(Wn:List Value) (n:Nat),Wq xs Wn/\xs.length=Wn.length/\s.heap.get? l=some {cls:=.type "list",data:=.seq Wn.toArray n}:=by
 obtain⟨z,Wn,n,r,e⟩:=I.Ws l _ hH;exact⟨z,Wn,n,r,r.length,e⟩
theorem Lf(h:n<=sizeLine):Builtin.List.listTooLong n=false:=by
 unfold Builtin.List.listTooLong;exact Β4 (by omega)
end
end
section
mutual
example:=[.lst xs,(by rw[Ε];omega),.lst (xs++zs),r.append r2]
def Ox:V->List V->Hp->VK->Prop:=fun x vs H Q=>∃ l xs y,x=.ref l/\vs=[y]/\H l=some 0e0/\xs.length < sizeLine/\Q .Wl (Wk H l (.lst (xs++[y])))
theorem Il:OU X "list.append" Ox:=by
 intro Wj s σ H x vs v us Q I rx rv h;obtain⟨l,xs,y,rfl,rfl,hH,hz,q⟩:=h;cases rx;obtain⟨u,rfl,ru⟩:=rv.one;obtain⟨z,Wn,n,r,hl,e⟩:=I.Bq hH;refine call_meets F.slot_list_append ⟨_,e,rfl⟩ F.entry_list_append (F.args_list_append_2 _ _) (PySem.list_append l Wn.toArray n u 1e0) ⟨e,?_⟩;refine⟨.Wl,_,I.wN (its':=Wn++[u]) hH e (by simp) (r.append (.cons ru .nil)) ?_,rfl,q⟩;rw[Ν,List.length_singleton];omega
def Oy:V->List V->Hp->VK->Prop:=fun x vs H Q=>∃ l b xs zs,x=.ref l/\vs=[.ref b]/\H l=some 0e0/\H b=some (.lst zs)/\xs.length+zs.length<=sizeLine/\Q .Wl (Wk H l 2e0)
theorem Im:OU X "list.extend" Oy:=by
 intro Wj s σ H x vs v us Q I rx rv h;obtain⟨l,b,xs,zs,rfl,rfl,hH,hB,hz,q⟩:=h;cases rx;obtain⟨u,rfl,ru⟩:=rv.one;cases ru;obtain⟨z,Wn,n,r,hl,e⟩:=I.Bq hH;obtain⟨z2,Xt,n2,r2,Zh,e2⟩:=I.Bq hB;have hsz:Wn.toArray.size+Xt.toArray.size<=sizeLine:=by rw[Ε,Ε];omega
 have aa6:¬ (!Wn.toArray.isEmpty&&Builtin.List.listTooLong (Wn.toArray.size+Xt.toArray.size))=true:=by
  rw[Lf hsz,Bool.and_false];exact Φ
 refine call_meets F.slot_list_extend ⟨_,e,rfl⟩ F.entry_list_extend (F.args_list_extend_2 _ _)
  (AutoSeq1.list_extend_list_list_0 l Wn.toArray n b Xt.toArray n2 aa6 1e0 (by omega)) ⟨e,e2,?_⟩
 refine⟨.Wl,_,I.wN (its':=Wn++Xt) hH e (by simp) 3e0 ?_,rfl,q⟩;rw[Ν];omega
def VW:V->List V->Hp->VK->Prop:=fun x vs H Q=>∃ l xs y,x=.ref l/\vs=[]/\H l=some 0e0/\xs[xs.length - 1]?=some y/\Q y (Wk H l (.lst xs.dropLast))
theorem Rp:OU X "list.pop" VW:=by
 intro Wj s σ H x vs v us Q I rx rv h;obtain⟨l,xs,y,rfl,rfl,hH,hy,q⟩:=h;cases rx;have hus:=rv.zero;subst hus;obtain⟨z,Wn,n,r,hl,e⟩:=I.Bq hH;obtain⟨u,hu,ru⟩:=r.get hy;have hy':Wn.toArray[Wn.toArray.size - 1]?=some u:=by
  show Wn.toArray[Wn.length - 1]?=some u;rw[<- Γ7,<- hl];exact hu
 refine call_meets F.slot_list_pop ⟨_,e,rfl⟩ F.entry_list_pop (F.args_list_pop_1 _) (MeetsSeq.list_pop_last l Wn.toArray n u hy' 1e0) ⟨e,?_⟩;refine⟨y,_,I.wN (its':=Wn.dropLast) hH e ?_ r.dropLast ?_,ru,q⟩
 ·show Wn.toArray.eraseIdxIfInBounds (Wn.toArray.size - 1)=Wn.dropLast.toArray;rw[Ε,List.eraseIdxIfInBounds_toArray,ED]
 ·rw[List.length_dropLast];omega
def RQ:V->List V->Hp->VK->Prop:=fun x vs H Q=>∃ l xs i k y,x=.ref l/\vs=[.int i]/\H l=some 0e0/\-(2 ^ 63)<=i/\i < 2 ^ 63/\seqIndex? i xs.length=some k/\xs[k]?=some y/\Q y (Wk H l (.lst (xs.eraseIdx k)))
theorem Le:OU X "list.pop" RQ:=by
 intro Wj s σ H x vs v us Q I rx rv h;obtain⟨l,xs,i,k,y,rfl,rfl,hH,h1,h2,hk,hy,q⟩:=h;cases rx;obtain⟨u,rfl,ru⟩:=rv.one;obtain⟨t,rfl⟩:=ru;obtain⟨z,Wn,n,r,hl,e⟩:=I.Bq hH;obtain⟨w,hw,Xu⟩:=r.get hy;refine call_meets F.slot_list_pop ⟨_,e,rfl⟩ F.entry_list_pop (F.args_list_pop_2 _ _)
  (MeetsSeq.list_pop_at l Wn.toArray n i t k w (fitsIndex_both h1 h2) (by rw[Ε,<- hl];exact hk) (by rw[<- Γ7];exact hw) 1e0) ⟨e,?_⟩
 refine⟨y,_,I.wN (its':=Wn.eraseIdx k) hH e ?_ (r.eraseIdx k) ?_,Xu,q⟩
 ·show Wn.toArray.eraseIdxIfInBounds k=(Wn.eraseIdx k).toArray;rw[List.eraseIdxIfInBounds_toArray]
 ·have:=rM xs k;omega
def VU:R2:=fun x y H Q=>∃ l b xs zs,x=.ref l/\y=.ref b/\H l=some 0e0/\H b=some (.lst zs)/\xs.length+zs.length<=sizeLine/\∀ p,H p=none->Q (.ref p) (Wk H p 2e0)
theorem Rx:iW X (binaryOp .Add) VU:=by
 intro Wj s σ H x y v u Q I rx ry h;obtain⟨l,b,xs,zs,rfl,rfl,hH,hB,hz,q⟩:=h;cases rx;cases ry;obtain⟨z,Wn,n,r,hl,e⟩:=I.Bq hH;obtain⟨z2,Xt,n2,r2,Zh,e2⟩:=I.Bq hB;refine PySem.P.add_list e e2 ?_ (by rw[Ε,Ε];omega);have ea:Wn.toArray++Xt.toArray=(Wn++Xt).toArray:=by simp
 rw[ea];exact⟨.ref _,_,I.N8 (t':=s.toks) 3e0 (by rw[Ν];omega),rfl,q _ I.fresh⟩
end
end
section
variable{κ:Type}[DecidableEq κ]
mutual
example:=[κ×V,κ×Value,(kvs.any fun kv=>decide (kv.1=k)),kv.1=k,h1.trans z,(kvs.map fun kv=>if kv.1=k then (kv.1,y) else kv),aO kvs k y,e.trans z]
def aW(kvs:List 0e0)(k:κ):Option V:=(kvs.find? fun kv=>decide 3e0).map (·.2)
def aO(kvs:List 0e0)(k:κ)(v:V):List 0e0 :=
 if 2e0=true then kvs.map (fun kv=>if kv.1=k then (kv.1,v) else kv) else kvs++[(k,v)]
def sL(kvs:List 0e0)(k:κ):List 0e0:=kvs.filter fun kv=>decide (kv.1≠k)
def yN{k:κ}:aW ([]:List 0e0) k=none:=rfl
def cH{p:κ×V}{r:List 0e0}{k:κ}(e:p.1=k):aW (p::r) k=some p.2:=by simp[aW,Γ9,e]
def b7{p:κ×V}{r:List 0e0}{k:κ}(e:¬ p.1=k):aW (p::r) k=aW r k:=by simp[aW,Γ9,e]
theorem gU(k:κ):∀ kvs:List 0e0,2e0=(aW kvs k).isSome
 | []=>rfl
 | p::r=>by
  rw[Δ8];by_cases e:p.1=k
  ·simp only[cH e,decide_eq_true e,Bool.true_or,Option.isSome_some]
  ·rw[b7 e,Β4 e,Bool.false_or];exact gU k r
theorem DW(k j:κ)(y:V):∀ kvs:List 0e0,aW 5e0 j=(aW kvs j).map fun x=>if j=k then y else x
 | []=>rfl
 | p::r=>by
  have ih:=DW k j y r;rw[ϓ];by_cases h:p.1=k
  ·rw[if_pos h];by_cases e:p.1=j
   ·rw[cH (p:=(p.1,y)) e,cH e,Option.map_some,if_pos (e.symm.trans h)]
   ·rw[b7 (p:=(p.1,y)) e,b7 e,ih]
  ·rw[if_neg h];by_cases e:p.1=j
   ·rw[cH (p:=p) e,cH e,Option.map_some,if_neg (fun z=>h 7e0)]
   ·rw[b7 (p:=p) e,b7 e,ih]
theorem AF(k j:κ)(y:V):∀ kvs:List 0e0,aW kvs k=none->aW (kvs++[(k,y)]) j=if j=k then some y else aW kvs j
 | [],_=>by
  by_cases e:k=j
  ·rw[if_pos e.symm];exact cH (p:=(k,y)) e
  ·rw[if_neg (fun z=>e z.symm)];exact b7 (p:=(k,y)) e
 | p::r,hn=>by
  rw[Ω];have hk:¬ p.1=k:=fun z=>by rw[cH z] at hn;cases hn
  rw[b7 hk] at hn;have ih:=AF k j y r hn;by_cases e:p.1=j
  ·rw[cH e,cH e,if_neg (fun z=>hk 7e0)]
  ·rw[b7 e,b7 e,ih]
theorem fK(kvs:List 0e0)(k j:κ)(y:V):aW 6e0 j=if j=k then some y else aW kvs j:=by
 unfold aO;by_cases a:2e0=true
 ·rw[if_pos a,DW];rw[gU] at a;by_cases e:j=k
  ·obtain⟨x,hx⟩:=Δ3.mp a;rw[if_pos e,e,hx,Option.map_some,if_pos rfl]
  ·rw[if_neg e];cases aW kvs j with
   | none=>rfl
   | some x=>rw[Option.map_some,if_neg e]
 ·rw[if_neg a];refine AF k j y kvs ?_;rw[gU] at a;cases q:aW kvs k with
  | none=>rfl
  | some x=>rw[q] at a;exact(a rfl).elim
theorem iD(kvs:List 0e0)(k:κ)(v:V):(aO kvs k v).length<=kvs.length+1:=by
 unfold aO;split
 ·rw[Δ];omega
 ·rw[Ν,Η,ϑ];omega
theorem xM{kvs:List 0e0}{k:κ}(v:V)(h:aW kvs k=none):aO kvs k v=kvs++[(k,v)]:=by
 unfold aO;rw[gU,h];exact if_neg (by decide)
def kW.rH{u:Option Value}(r:kW o u):o.isSome=u.isSome:=by
 cases o with
 | none=>cases u with
  | none=>rfl
  | some _=>exact(show False from r).elim
 | some _=>cases u with
  | none=>exact(show False from r).elim
  | some _=>rfl
def kW.getD{u:Option Value}{d:V}{d':Value}(r:kW o u)(rd:bN d d'):bN (o.getD d) (u.getD d'):=by
 cases o with
 | none=>cases u with
  | none=>exact rd
  | some _=>exact(show False from r).elim
 | some _=>cases u with
  | none=>exact(show False from r).elim
  | some _=>exact r
def KV.val{kvs:List 0e0}{vs:List 1e0}(r:KV kvs vs)(k:κ):kW (aW kvs k) (valueAt vs k):=by
 unfold KV at r
 induction r with
 | nil=>exact True.intro
 | @cons p q ps qs h t ih =>
  obtain⟨h1,h2⟩:=h;by_cases e:p.1=k
  ·have e':q.1=k:=h1.symm.trans e;have b:valueAt (q::qs) k=some q.2:=by simp[valueAt,Γ9,e']
   rw[cH e,b];exact h2
  ·have e':¬ q.1=k:=fun z=>e 4e0;have b:valueAt (q::qs) k=valueAt qs k:=by simp[valueAt,Γ9,e']
   rw[b7 e,b];exact ih
theorem KV.any{kvs:List 0e0}{vs:List 1e0}(r:KV kvs vs)(k:κ):2e0=vs.any fun kv=>decide 3e0:=by
 unfold KV at r
 induction r with
 | nil=>rfl
 | cons h t ih=>rw[Δ8,Δ8,ih,h.1]
def KV.LI{kvs:List 0e0}{vs:List 1e0}(r:KV kvs vs)(k:κ)(ry:bN y u) : KV 5e0 (vs.map fun kv=>if kv.1=k then (kv.1,u) else kv):=by
 unfold KV at r ⊢
 induction r with
 | nil=>exact .nil
 | @cons p q ps qs h t ih =>
  rw[ϓ,ϓ];refine .cons ?_ ih;obtain⟨h1,h2⟩:=h;by_cases e:p.1=k
  ·rw[if_pos e,if_pos (h1.symm.trans e)];exact⟨h1,ry⟩
  ·rw[if_neg e,if_neg (fun z=>e 4e0)];exact⟨h1,h2⟩
theorem KV.put{kvs:List 0e0}{vs:List 1e0}(r:KV kvs vs)(k:κ)(ry:bN y u):KV 6e0 (stored vs k u):=by
 unfold aO stored;rw[r.any k];by_cases e:(vs.any fun kv=>decide 3e0)=true
 ·rw[if_pos e,if_pos e];exact r.LI k ry
 ·rw[if_neg e,if_neg e];exact Paired.snoc r ⟨rfl,ry⟩
theorem KV.drop{kvs:List 0e0}{vs:List 1e0}(r:KV kvs vs)(k:κ):KV (sL kvs k) (without vs k):=by
 unfold KV at r ⊢;unfold sL without
 induction r with
 | nil=>exact .nil
 | @cons p q ps qs h t ih =>
  obtain⟨h1,h2⟩:=h;rw[List.filter_cons,List.filter_cons];by_cases e:p.1=k
  ·have a:¬ decide (p.1≠k)=true:=by simp[e]
   have b:¬ decide (q.1≠k)=true:=by simp[h1.symm.trans e]
   rw[if_neg a,if_neg b];exact ih
  ·have e':¬ q.1=k:=fun z=>e 4e0;have a:decide (p.1≠k)=true:=by simp[e]
   have b:decide (q.1≠k)=true:=by simp[e']
   rw[if_pos a,if_pos b];exact .cons ⟨h1,h2⟩ ih
def KV.length{kvs:List 0e0}{vs:List 1e0}(r:KV kvs vs):kvs.length=vs.length:=Paired.length r
def JU(kvs:List 0e0)(k:κ):(sL kvs k).length<=kvs.length:=Α2 _ _
end
end
mutual
example:=[h1.trans z]
def oG{k:Key}(r:bN (kV k) u):(bJ P w).is k u=true:=by
 cases k with
 | inl i=>obtain⟨t,e⟩:=(show ∃ t,u=Value.int i t from r);subst e;exact CQ P w i t
 | inr x=>obtain⟨t,e⟩:=(show ∃ t,u=Value.str x t from r);subst e;exact CS P w x t
 | no=>cases (show u=Value.none from r);rfl
theorem Af{P:Program}{w:World}:∀ {ks:List Key} {us:List Value},Wq (ks.map kV) us->ItemsAre (bJ P w) ks us
 | [],_,r=>by rw[List.map_nil] at r;cases r;exact .nil
 | k::ks,_,r=>by
  rw[ϓ] at r;cases r with
  | cons h t=>exact .cons (oG h) (Af t)
abbrev KT(H:Hp):List (List Key×V)->List (List Key×Addr×Value)->Prop:=Paired fun p q=>p.1=q.1/\H q.2.1=some (.tup (p.1.map kV))/\bN p.2 q.2.2
def KT.val(r:KT H kvs xs)(k:List Key):kW (aW kvs k) ((atKey xs k).map (·.2)):=by
 induction r with
 | nil=>exact True.intro
 | @cons p q ps qs h t ih =>
  obtain⟨h1,_,h2⟩:=h;by_cases e:p.1=k
  ·have e':q.1=k:=h1.symm.trans e;have b:atKey (q::qs) k=some q.2:=by simp[atKey,Γ9,e']
   rw[cH e,b];exact h2
  ·have e':¬ q.1=k:=fun z=>e 0e0;have b:atKey (q::qs) k=atKey qs k:=by simp[atKey,Γ9,e']
   rw[b7 e,b];exact ih
def KT.LI(r:KT H kvs xs)(k:List Key)(ry:bN y u) : KT H (kvs.map fun kv=>if kv.1=k then (kv.1,y) else kv) (xs.map (putAt k u)):=by
 induction r with
 | nil=>exact .nil
 | @cons p q ps qs h t ih =>
  rw[ϓ,ϓ];refine .cons ?_ ih;obtain⟨h1,h2,h3⟩:=h;unfold putAt;by_cases e:p.1=k
  ·rw[if_pos e,if_pos (h1.symm.trans e)];exact⟨h1,h2,ry⟩
  ·rw[if_neg e,if_neg (fun z=>e 0e0)];exact⟨h1,h2,h3⟩
theorem KT.put(r:KT H kvs xs)(k:List Key){b:Addr}(hb:H b=some (.tup (k.map kV)))(ry:bN y u) : KT H (aO kvs k y) (storedH xs k b u):=by
 have e:(kvs.any fun kv=>decide (kv.1=k))=(atKey xs k).isSome:=by
  rw[gU,(r.val k).rH,Option.isSome_map]
 unfold aO storedH;rw[e];by_cases q:(atKey xs k).isSome=true
 ·rw[if_pos q,if_pos q];exact r.LI k ry
 ·rw[if_neg q,if_neg q];exact Paired.snoc r ⟨rfl,hb,ry⟩
def KT.keeps{H':Hp}(r:KT H kvs xs)(ht:∀ b ys,H b=some (.tup ys)->H' b=some (.tup ys)):KT H' kvs xs :=
 Paired.Rm r fun _ _ z=>⟨z.1,ht _ _ z.2.1,z.2.2⟩
end
section
variable{h:Heap}
mutual
example:=[bJ P w,a==sysModules,.dT kvs,.dK kvs,.tup (ks.map kV)]
def Pj{u:HO}(ok:HOk P w H h)(e:Rd H a u):dU P w H h a u:=e.ok ok
def vF{kvs:List (Key×V)}(ok:HOk P w H h)(e:Rd H a 3e0):kvs.length<=sizeLine/\1e0=false/\∃ vs,KV kvs vs/\h.DictOf 0e0 a vs :=
 show dU P w H h a 3e0 from Pj ok e
def vE{kvs:List (Key×V)}(ok:HOk P w H h)(e:H a=some 3e0):kvs.length<=sizeLine/\1e0=false/\∃ vs,KV kvs vs/\h.DictOf 0e0 a vs:=vF ok (.inl e)
def rJ{ks:List Key}(ok:HOk P w H h)(e:H a=some 4e0):(tupleKind 0e0).is h ks a:=by
 obtain⟨_,Wn,r,o,h1,h2,n,h3⟩:=(show dU P w H h a 4e0 from ok a _ e);exact⟨o,Wn.toArray,n,h1,h2,h3,by simpa using Af r⟩
def vM(ok:HOk P w H h)(e:Rd H a 2e0):kvs.length<=sizeLine/\1e0=false /\ ∃ xs,KT H kvs xs/\h.DictOfH (tupleKind 0e0) a xs:=by
 obtain⟨z,y,xs,r,o,es,ep,h1,h2,h3,h4,h5⟩:=(show dU P w H h a 2e0 from Pj ok e);refine⟨z,y,xs,r,o,es,ep,h1,h2,h3,h4,fun x hx=>?_,h5⟩;have all:∀ {l:List (List Key×V)} {m:List (List Key×Addr×Value)},KT H l m->∀ x∈m,(tupleKind 0e0).is h x.1 x.2.1:=by
  intro l m q
  induction q with
  | nil=>intro x hx;exact nomatch hx
  | @cons p q ps qs hq t ih =>
   intro x hx;rcases Α.mp hx with e|hx
   ·subst e;exact rJ ok (by rw[<- hq.1];exact hq.2.1)
   ·exact ih x hx
 exact all r x hx
def Sz(ok:HOk P w H h)(e:H a=some 2e0):kvs.length<=sizeLine/\1e0=false /\ ∃ xs,KT H kvs xs/\h.DictOfH (tupleKind 0e0) a xs:=vM ok (.inl e)
end
end
mutual
example:=[.dK kvs,aO kvs k v,.tup (k.map kV)]
def DGet(H:Hp)(a:Addr)(y:V)(r:Option V):Prop :=
 (∃ kvs k,Rd H a 0e0/\y=kV k/\r=aW kvs k)\/∃ kvs k b,Rd H a (.dT kvs)/\y=.ref b/\H b=some 2e0/\r=aW kvs k
def DPut(H:Hp)(a:Addr)(y v:V)(H':Hp):Prop :=
 (∃ kvs k,H a=some 0e0/\y=kV k/\kvs.length < sizeLine/\H'=Wk H a (.dK 1e0)) \/
 ∃ kvs k b,H a=some (.dT kvs)/\y=.ref b/\H b=some 2e0/\kvs.length < sizeLine/\H'=Wk H a (.dT 1e0)
def DGet.k{kvs:List (Key×V)}{k:Key}(e:H a=some 0e0):DGet H a (kV k) (aW kvs k):=.inl ⟨kvs,k,.inl e,rfl,rfl⟩
def DPut.k{kvs:List (Key×V)}{k:Key}{v:V}(e:H a=some 0e0)(hl:kvs.length < sizeLine):DPut H a (kV k) v (Wk H a (.dK 1e0)):=.inl ⟨kvs,k,e,rfl,hl,rfl⟩
end
section
variable{v:V}{r:Value}{A:Around}{E:q0A}
mutual
example:=[I.tok _,tupleKind_room_in1 hu,model X.prog X.w,rJ I.Ws eb,.ref a,(by rw[e];exact True.intro),(by rw[l];exact rel.val k),Wk H a ob]
theorem Wm.big(I:Wm X Wj σ H s):sysModules < s.heap.objs.size:=by
 have h:mainGlobals < s.heap.objs.size:=(I.mod.glob.keeps I.bk).lt;exact Nat.lt_trans (by decide) h
def HJ(hu:A.units+1 < cLine)(I:Wm X Wj σ H s)(g:DGet H a y (some v))(ry:bN y u)(h:∀ w' s',Wm X Wj σ H s'->bN v w'->Q w' s') : wpAny 2e0 A (getItem 4e0 u) Q E s:=by
 rcases g with⟨kvs,k,e,ey,l⟩|⟨kvs,k,b,e,ey,eb,l⟩
 ·subst ey;obtain⟨z,hd,vs,rel,dd⟩:=vF I.Ws e;obtain⟨w',hw,Xu⟩:=kW.some_of (v:=v) (o:=valueAt vs k) 6e0;exact wpAny_getItem_of (oG ry) dd.mapOf hw (h w' _ 0e0 Xu)
 ·subst ey;cases (show u=Value.ref b from ry);obtain⟨z,hd,xs,rel,dd⟩:=vM I.Ws e;obtain⟨w',hw,Xu⟩:=kW.some_of (v:=v) (o:=(atKey xs k).map (·.2)) 6e0;obtain⟨p,hp,Y0⟩:=ϛ.mp hw;refine wpAny_getItem_heap 1e0 3e0 dd hp ?_;rw[Y0];exact h w' _ 0e0 Xu
def Vv(hu:A.units+1 < cLine)(I:Wm X Wj σ H s)(g:DGet H a y o)(ry:bN y u)(h:∀ s',Wm X Wj σ H s'->Q (.bool o.isSome) s') : wpAny 2e0 A (compareOp .In u 4e0) Q E s:=by
 rcases g with⟨kvs,k,e,ey,l⟩|⟨kvs,k,b,e,ey,eb,l⟩
 ·subst ey;obtain⟨z,hd,vs,rel,dd⟩:=vF I.Ws e;refine wpAny_in_of (oG ry) hd dd.mapOf ?_;rw[<- (rel.val k).rH,<- l];exact h _ 0e0
 ·subst ey;cases (show u=Value.ref b from ry);obtain⟨z,hd,xs,rel,dd⟩:=vM I.Ws e;refine wpAny_in_heap 1e0 3e0 hd dd ?_;have q:=(rel.val k).rH;rw[Option.isSome_map] at q;rw[<- q,<- l];exact h _ 0e0
def nK{h':Heap}{ob:HO}(I:Wm X Wj σ H s)(mu:Mut (H a))(hs:Heap.SameBut a s.heap h')(he:∃ q,h'.get? a=some q)(new:dU X.prog X.w 7e0 h' a ob) : Wm X Wj σ 7e0 {s with heap:=h',toks:=t'} :=
 I.write (x:=a) (e:=a) mu (.inl rfl) (fun b q hb z=>(hs.2 b hb).trans z) he new
def oV{H':Hp}{h':Heap}{kvs:List (Key×V)}{vs:List (Key×Value)}(z:kvs.length<=sizeLine)(hd:(a==sysModules)=false)(rel:KV kvs vs)(dd:h'.DictOf (bJ P w) a vs) : dU P w H' h' a (.dK kvs):=⟨z,hd,vs,rel,dd⟩
theorem HK{H':Hp}{Q:Unit->Shared->Prop}(hu:A.units+1 < cLine)(I:Wm X Wj σ H s)(g:DPut H a y v H')(ry:bN y u)(rv:bN v r)(h:∀ s',Wm X Wj σ H' s'->Q () s') : wpAny 2e0 A (setItem 4e0 u r) Q E s:=by
 rcases g with⟨kvs,k,e,ey,l,eH⟩|⟨kvs,k,b,e,ey,eb,l,eH⟩
 ·subst ey eH;obtain⟨z,hd,vs,rel,dd⟩:=vE I.Ws e;have hz:vs.length<=sizeLine:=by rw[<- rel.length];exact z
  have hl:(aO kvs k v).length<=sizeLine:=by have:=iD kvs k v;omega
  refine wpAny_setItem_pairs (hsz:=hz) (oG ry) dd fun h' XU hs=>h _ ?_;have he:∃ q,h'.get? a=some q:=let ⟨q,_,_,hq,_⟩:=XU;⟨q,hq⟩;exact nK I 5e0 hs he (oV hl hd (rel.put k rv) XU)
 ·subst ey eH;cases (show u=Value.ref b from ry);obtain⟨z,hd,xs,rel,dd⟩:=Sz I.Ws e;have hz:xs.length<=sizeLine:=by rw[<- Paired.length rel];exact z
  have hl:(aO kvs k v).length<=sizeLine:=by have:=iD kvs k v;omega
  refine wpAny_setItem_heap (hsz:=hz) 1e0 3e0 dd fun h' XU hs=>h _ ?_;obtain⟨q,es,ep,hq,h2,h3,h4,_,h5⟩:=XU;refine nK I 5e0 hs ⟨q,hq⟩ ⟨hl,hd,_,(rel.put k eb rv).keeps fun c ys ec=>?_,q,es,ep,hq,h2,h3,h4,h5⟩;rw[aD (cL ec e (fun z=>nomatch z))];exact ec
end
end
section
variable{kvs:List (Key×V)}{k:Key}{A:Around}{E:q0A}
def Sx{v:V}{more:List Value}(I:Wm X Wj σ H s)(e:H a=some (.dK kvs))(ry:bN (kV k) u)(l:aW kvs k=some v)(hm:more=[]\/∃ x,more=[x])(h:∀ w' s',Wm X Wj σ (Wk H a (.dK (sL kvs k))) s'->bN v w'->Q w' s'):wpAny (model X.prog X.w) A (call (.builtin "dict.pop") (.ref a::u::more)) Q E s:=by
 obtain⟨z,hd,vs,rel,dd⟩:=vE I.Ws e;obtain⟨w',hw,Xu⟩:=kW.some_of (v:=v) (o:=valueAt vs k) (by rw[<- l];exact rel.val k);have hp:(keyPart u).isSome=true:=by
  cases k with
  | inl i=>obtain⟨t,q⟩:=(show ∃ t,u=Value.int i t from ry);subst q;rfl
  | inr x=>obtain⟨t,q⟩:=(show ∃ t,u=Value.str x t from ry);subst q;rfl
  | no=>cases (show u=Value.none from ry);rfl
 have ha:argsOk "dict.pop" ⟨.ref a::u::more,[]⟩:=by
  rcases hm with q|⟨x,q⟩
  ·subst q;exact PySem.F.args_dict_pop_2 _ _
  ·subst q;exact PySem.F.args_dict_pop_3 _ _ _
 refine Ε1 PySem.F.slot_dict_pop dd.typeIs PySem.F.entry_dict_pop ha (meets_dict_pop_there (bJ X.prog X.w) a (oG ry) more hm hp)
  ⟨vs,w',dd,by rw[<- rel.length];exact z,hw,fun h' XU hs=>h w' _ ?_ Xu⟩
 have he:∃ q,h'.get? a=some q:=let ⟨q,_,_,hq,_⟩:=XU;⟨q,hq⟩;exact nK I (by rw[e];exact True.intro) hs he (oV (ϐ (JU kvs k) z) hd (rel.drop k) XU)
end
def Mv(i:Expr):Prop:=∀ ov iv,subscripted i false ov iv=operate [ov,iv] (getItem ov iv)
def Hh{prog:Program}{A:Around}{E:q0A}{env:Env}{value slice:Expr}{T id:String}(hl:typeLookup (.type T) "__getitem__"=pure (some (.builtin id)))(hs:Mv slice)(h:wpAny (model prog w) A (eval value env) (fun o s₁=>wpAny (model prog w) A (eval slice env) (fun i s₂=>s₂.TypeIs o T/\wpAny (model prog w) A (getItem o i) Q E s₂) E s₁) E s) : wpAny (model prog w) A (eval (.Subscript value slice pos) env) Q E s:=by
 refine Subscript_ (Α4 h (fun o s₁ h₁=>Α4 h₁ (fun i s₂ h₂=>?_) fun _ _ x=>x) fun _ _ x=>x);obtain⟨hT,h₂⟩:=h₂;unfold subscriptTail;refine Β ?_;rw[getitemInPython_of_ne hT.not_modules];refine Β (wpAny_specialOf hT hl ?_);have fin:wpAny (model prog w) A (subscripted slice false o i) (fun r s₃=>wpAny (model prog w) A (letTemporaryGo value o r >>= fun _=>pure r) Q E s₃) E s₂:=by
  rw[hs o i];exact wpAny_operating (Α4 h₂ (fun r s₃ h₃=>Β (wpAny_letTemporaryGo (Θ h₃))) fun _ _ x=>x)
 first
  | exact Θ (Β fin)
  | exact Β (Θ (Β fin))
  | exact Β fin
def Cu(I:Wm X Wj σ H s)(g:DGet H a y o):s.TypeIs (.ref a) "dict":=by
 rcases g with⟨kvs,k,e,_,_⟩|⟨kvs,k,b,e,_,_,_⟩
 ·obtain⟨_,_,vs,_,dd⟩:=vF I.Ws e;exact dd.typeIs
 ·obtain⟨_,_,xs,_,dd⟩:=vM I.Ws e;exact dd.typeIs
section
variable{o i e value:Expr}{pos' Za:Pos}{td ty tv:TE}
end
def Cv(h:Heap)(hb:sysModules < h.objs.size):dU P w H (h.push {cls:=.type "dict",data:=.dict #[]}) h.objs.size (.dK []) :=
 ⟨Α5 _,Α9.mpr (Ne.symm (Ρ hb)),[],.nil,Heap.DictOf.new h⟩
def Mc:TE:=fun _ H Q=>∀ p,H p=none->Q (.ref p) (Wk H p (.dK []))
section
def kO:PE X (.Dict [] [] pos) Mc:=fun Wj s σ H Q I h =>
 wpAny_Dict_empty ⟨.ref s.heap.objs.size,_,I.laid (a:=s.heap.objs.size) (o:=.dK []) (t':=s.toks) (fun _ _ q=>Ζ _ q) (Ι _) (Cv s.heap I.big),rfl,h _ (I.Ws.fresh (Ι _))⟩
end
mutual
example:=[Key×V,aO kvs p.1 p.2,Option Expr,TE×TE,(if ([]:List Keyword).isEmpty then 0 else 1),apos.endLine==Wu.line,(starEach [e,f] X.env),keywordEach [] X.env,starEach [e] X.env,(fun x=>x.1.isSome),eval o X.env,Value×Value,(fun x=>!x.1),Key×Value]
def pG:List 3e0->St->Hp->(List (V×V)->Hp->Prop)->Prop
 | [],_,H,Q=>Q [] H
 | (tk,tv)::r,σ,H,Q=>tk σ H fun x H1=>tv σ H1 fun y H2=>pG r σ H2 fun ps H3=>Q ((x,y)::ps) H3
abbrev VV:List (V×V)->List 1e1->Prop:=Paired fun p q=>bN p.1 q.1/\bN p.2 q.2
def PPs(X:Cx)(pos:Pos)(keys:List 2e0)(values:List Expr)(X8:List 3e0):Prop :=
 ∀(Wj:List (Addr×Obj)) (s:Shared) (σ:St) (H:Hp) (Q:List (V×V)->Hp->Prop),Wm X Wj σ H s->pG X8 σ H Q ->
  wpAny (model X.prog X.w) X.A (evalPairs (pairTrees keys values X.env pos)) (fun vs s'=>∃ ps H',Wm X Wj σ H' s'/\VV ps vs/\Q ps H') X.xe s
def BH:PPs X pos [] [] []:=fun Wj s σ H Q I h=>pairTrees_nil_walk ⟨[],H,I,.nil,h⟩
def dF{k v:Expr}{ks:List 2e0}{vs:List Expr}{tk tv:TE}(hk:PE X k tk)(hv:PE X v tv)(hr:PPs X pos ks vs X8) : PPs X pos (some k::ks) (v::vs) ((tk,tv)::X8):=fun Wj s σ H Q I h =>
 pairTrees_cons_walk (thn (hk Wj s σ H _ I h) fun u s1 ⟨x,H1,I1,rx,q1⟩=>thn (hv Wj s1 σ H1 _ I1 q1) fun w2 s2 ⟨y,H2,I2,ry,q2⟩ =>
  thn (hr Wj s2 σ H2 _ I2 q2) fun ws s3 ⟨ps,H3,I3,rel,q3⟩=>⟨(x,y)::ps,H3,I3,.cons ⟨rx,ry⟩ rel,q3⟩)
def dR(kvs more:List 0e0):List 0e0:=more.foldl (fun acc kv=>aO acc kv.1 kv.2) kvs
def KV.merge:∀ {more:List 0e0} {rs:List 3e1} {kvs:List 0e0} {vs:List 3e1},KV more rs->KV kvs vs->KV (dR kvs more) (merged vs rs):=by
 intro more rs kvs vs r;unfold KV at r
 induction r generalizing kvs vs with
 | nil=>intro q;exact q
 | @cons p q ps qs h t ih =>
  intro r0;have e:KV 1e0 (stored vs q.1 q.2):=by
   have:=r0.put p.1 h.2;rw[<- h.1];exact this
  exact ih e
theorem oH:∀(more kvs:List 0e0),(dR kvs more).length<=kvs.length+more.length
 | [],kvs=>by show kvs.length<=kvs.length+0;omega
 | p::r,kvs=>by
  have h1:=oH r 1e0;have h2:=iD kvs p.1 p.2;show(dR 1e0 r).length<=_;rw[Η];omega
theorem uZ{P:Program}{w:World}:∀ {kvs:List 0e0} {ws:List 1e1},VV (kvs.map fun kv=>(kV kv.1,kv.2)) ws->∃ rs,Carries (bJ P w) ws rs/\KV kvs rs
 | [],_,r=>by rw[List.map_nil] at r;cases r;exact⟨[],True.intro,.nil⟩
 | p::kvs,_,r=>by
  rw[ϓ] at r;cases r with
  | @cons a b as bs h t =>
   obtain⟨rs,c,q⟩:=uZ (P:=P) (w:=w) t;obtain⟨b1,b2⟩:=b;exact⟨(p.1,b2)::rs,⟨oG h.1,rfl,c⟩,.cons ⟨rfl,h.2⟩ q⟩
def PB(X8:List 3e0):TE:=fun σ H Q=>∀ p,H p=none->pG X8 σ (Wk H p (.dK [])) fun ps H2=>H2 p=some (.dK [])/\∃ kvs:List 0e0,ps=kvs.map (fun kv=>(kV kv.1,kv.2))/\kvs.length<=15/\Q (.ref p) (Wk H2 p (.dK (dR [] kvs)))
theorem BE{keys:List 2e0}{values:List Expr}(h:PPs X pos keys values X8)(YR:keys.all (·.isSome)=true)(hl:keys.length=values.length)(h0:keys≠[])(h15:keys.length<=15):PE X (.Dict keys values pos) (PB X8):=by
 intro Wj s σ H Q I q;have hn:=I.Ws.fresh (Ι s.heap.objs.size);have I1:=I.laid (a:=s.heap.objs.size) (o:=.dK []) (h':=s.heap.push {cls:=.type "dict",data:=.dict #[]}) (t':=s.toks) (fun _ _ q=>Ζ _ q) (Ι _) (Cv s.heap I.big);refine wpAny_Dict_walk (knd:=bJ X.prog X.w) YR hl h0 h15 (thn (h Wj _ σ _ _ I1 (q _ hn)) fun ws s2 ⟨ps,H2,I2,rel,e,kvs,ep,lk,q2⟩=>?_);subst ep;obtain⟨rs,c,rk⟩:=uZ (P:=X.prog) (w:=X.w) rel;obtain⟨z,hd,vs0,r0,dd⟩:=vE I2.Ws e;cases r0;refine⟨rs,c,dd,fun h' XU hs=>⟨.ref s.heap.objs.size,_,?_,rfl,q2⟩⟩;have hz:(dR [] kvs).length<=sizeLine:=by
  have h1:=oH kvs [];rw[ϑ] at h1;rw[Ε0];omega
 have he:∃ q,h'.get? s.heap.objs.size=some q:=let ⟨q,_,_,hq,_⟩:=XU;⟨q,hq⟩;exact nK I2 (by rw[e];exact True.intro) hs he (oV hz hd (rk.merge .nil) XU)
structure M1(X:Cx)(o:Expr)(m:Str)(apos:Pos)(e:Expr)(Wu:Pos):Prop where
 base:attributeBase o m X.env 0e1=eval o X.env
 X0:((backTo Wu 8e0).all 2e1&&(backToKw Wu 7e0).all 9e0
 &&decide (([e]:List Expr).length+([]:List Keyword).length+4e0 < 30))=true
 line:5e0=true
 trees:backTo Wu 8e0=[(false,eval e X.env)]
structure M2(X:Cx)(o:Expr)(m:Str)(apos:Pos)(e f:Expr)(Wu:Pos):Prop where
 base:attributeBase o m X.env 0e1=eval o X.env
 X0:((backTo Wu 6e0).all 2e1&&(backToKw Wu 7e0).all 9e0
 &&decide (([e,f]:List Expr).length+([]:List Keyword).length+4e0 < 30))=true
 line:5e0=true
 trees:backTo Wu 6e0=[(false,eval e X.env),(false,eval f X.env)]
def Wb(H:Hp)(a:Addr):Prop:=(∃ kvs,Rd H a (.dK kvs))\/∃ kvs,Rd H a (.dT kvs)
def wG(I:Wm X Wj σ H s)(d:Wb H a) : s.TypeIs (.ref a) "dict"/\(∀ b,Value.ref a=.ref b->∃ ob,s.heap.get? b=some ob/\ob.dict=none)/\(a==sysModules)=false:=by
 rcases d with⟨kvs,e⟩|⟨kvs,e⟩
 ·obtain⟨_,hd,vs,_,dd⟩:=vF I.Ws e;refine⟨dd.typeIs,fun b q=>?_,hd⟩;cases q;obtain⟨ob,_,_,h1,h2,_⟩:=dd;exact⟨ob,h1,h2.2.1⟩
 ·obtain⟨_,hd,xs,_,dd⟩:=vM I.Ws e;refine⟨dd.typeIs,fun b q=>?_,hd⟩;cases q;obtain⟨ob,_,_,h1,h2,_⟩:=dd;exact⟨ob,h1,h2.2.1⟩
end
section
variable{d:V}{r:Value}{A:Around}{E:q0A}
def Qa(hu:A.units+1 < cLine)(I:Wm X Wj σ H s)(g:DGet H a y o)(ry:bN y u)(h:∀ w' s',Wm X Wj σ H s'->bN (o.getD .Wl) w'->Q w' s') : wpAny (model X.prog X.w) A (call (.builtin "dict.get") [.ref a,u]) Q E s:=by
 rcases g with⟨kvs,k,e,ey,l⟩|⟨kvs,k,b,e,ey,eb,l⟩
 ·subst ey;obtain⟨z,hd,vs,rel,dd⟩:=vF I.Ws e;refine Ε1 Γ6 dd.typeIs PySem.F.entry_dict_get (PySem.F.args_dict_get_2 _ _) (meets_dict_get (bJ X.prog X.w) a (oG ry) hd) ⟨_,dd.mapOf,h _ _ (I.tok _) ?_⟩;rw[l];exact(rel.val k).getD rfl
 ·subst ey;cases (show u=Value.ref b from ry);obtain⟨z,hd,xs,rel,dd⟩:=vM I.Ws e;refine Ε1 Γ6 dd.typeIs PySem.F.entry_dict_get (PySem.F.args_dict_get_2 _ _) (meetsH_dict_get (tupleKind (bJ X.prog X.w)) a b hd) ⟨tupleKind_room_in1 hu,k,xs,rJ I.Ws eb,dd,h _ _ (I.tok _) ?_⟩;rw[l];exact(rel.val k).getD rfl
def Qb(hu:A.units+1 < cLine)(I:Wm X Wj σ H s)(g:DGet H a y o)(ry:bN y u)(rd:bN d r)(h:∀ w' s',Wm X Wj σ H s'->bN (o.getD d) w'->Q w' s') : wpAny (model X.prog X.w) A (call (.builtin "dict.get") [.ref a,u,r]) Q E s:=by
 rcases g with⟨kvs,k,e,ey,l⟩|⟨kvs,k,b,e,ey,eb,l⟩
 ·subst ey;obtain⟨z,hd,vs,rel,dd⟩:=vF I.Ws e;refine Ε1 Γ6 dd.typeIs PySem.F.entry_dict_get (PySem.F.args_dict_get_3 _ _ _) (meets_dict_get_default (bJ X.prog X.w) a (oG ry) hd r) ⟨_,dd.mapOf,h _ _ (I.tok _) ?_⟩;rw[l];exact(rel.val k).getD rd
 ·subst ey;cases (show u=Value.ref b from ry);obtain⟨z,hd,xs,rel,dd⟩:=vM I.Ws e;refine Ε1 Γ6 dd.typeIs PySem.F.entry_dict_get (PySem.F.args_dict_get_3 _ _ _) (meetsH_dict_get_default (tupleKind (bJ X.prog X.w)) a b hd r) ⟨tupleKind_room_in1 hu,k,xs,rJ I.Ws eb,dd,h _ _ (I.tok _) ?_⟩;rw[l];exact(rel.val k).getD rd
end
section
variable{o e f:Expr}{apos Wu:Pos}{td ty tx:TE}
end
section
variable{kvs:List (Key×V)}{A:Around}{E:q0A}
end
section
variable{A:Around}{E:q0A}
end
end L2
namespace Att
open PySem PySem.W PySem.Calls PyProof.Rows
variable{h:Heap}{l:OpenLaw}
mutual
example:=[.bool true,ns.map WData.int,true==true]
def tO{P:Params}:∀(ns:List Int) (vs:List Value),WellAll P h vs 1e0->IntsAre vs ns:=by
 intro ns
 induction ns with
 | nil =>
  intro vs w;rw[List.map_nil] at w;cases w;exact .nil
 | cons n ns ih =>
  intro vs w;rw[ϓ] at w;cases w with
  | cons a b =>
   cases a;exact .cons _ _ (ih _ b)
theorem IM{n:Nat}(hn:l.most=some n){P:Params}{args:List WData}{vals:List Value}(Zx:l.row.toRowW.claim.pre args=true)(hwl:WellAll P h vals args) : ∃ a vs ns,vals=[Value.ref a]/\args=[WData.list 1e0]/\h.get? a=some {cls:=.type "list",data:=.seq vs.toArray}/\IntsAre vs ns/\ns.length<=n:=by
 have hsh:WShape.hasAll [] args [.list .int]=true:=(pre_splitW Zx).1;have hc:l.pre.holds [] {args:=args}=true:=(pre_splitW Zx).2;obtain⟨d,r,rfl,h1,h2⟩:=hasAllW_cons hsh;obtain rfl:=hasAllW_nil h2;obtain⟨xs,rfl,h3⟩:=hasW_list h1;obtain⟨ns,rfl⟩:=items_int h3;have hlen:ns.length<=n:=by
  unfold OpenLaw.pre at hc;have h4:(WTm.not (.lt (.lit (.int (n:Int))) (.len (.arg 0)))).holds [] {args:=[.list (ns.map .int)]}=true:=by
   have h4:=(holds_andW hc).1;rw[hn] at h4;exact h4
  have h5:=condW_of h4 (w_not (w_lt w_lit (w_len_list (w_arg rfl))));rw[Δ] at h5;refine Nat.le_of_not_lt fun q=>?_;have q':(n:Int) < ((ns.length:Nat):Int):=by omega
  first
   | (rw[decide_eq_true q'] at h5;exact absurd h5 (by decide))
   | (simp at h5;omega)
 cases hwl with
 | cons w1 w2 =>
  cases w2;cases w1 with
  | list ho YR=>exact⟨_,_,ns,rfl,rfl,ho,tO ns _ YR,hlen⟩
theorem IJ(l:OpenLaw)(args:List WData):l.row.toRowW.claim.post args 0e0 args=true :=
 postW_of (r:=l.row.toRowW) (X:=2e0)
  (show WShape.has [] 0e0 .bool=true by first|rfl|decide|simp[WShape.has,WShape.arms,WShape.armsAll])
  (show(WTm.eq .res (.lit 0e0)).value [] {args:=args,res:=some 0e0,after:=args}=some (.bool 2e0) from w_eq_bool (w_res rfl) w_lit) rfl
def Cb{n:Nat}{q:Program}{loose:List Str}{XP:(q0C)->Heap->Prop}{YP:World->Heap->Prop}{d:DefRec}(hn:l.most=some n)(hdf:d.params.defaults=[])(call:∀(w:World) (s₀ s₁:Shared) (mg mb:q0C) (fa:Addr) (o:Obj) (pm cd doc:Value) (a:Addr) (vs:List Value) (ns:List Int), Ground q loose [] XP w s₀ mg mb s₁.heap->YP w s₁.heap -> s₁.heap.get? fa=some o->o.data=.func (docDef d.name d.params d.body d.scope pm cd doc)->s₁.heap.CodeRec cd d.name->mg d.name=some (.ref fa) -> s₁.heap.get? a=some {cls:=.type "list",data:=.seq vs.toArray}->IntsAre vs ns->ns.length<=n->s₁.gens = #[] -> codeAny (model l.prog w) callerA (.call (.ref fa) ⟨[.ref a],[]⟩) (fun r s'=>r=.ok (.ret 0e0)/\OldK s₁.heap s'.heap/\s'.os=s₁.os/\AllBare s'.gens) s₁) : WalkO q loose XP YP l.row.toRowW d [] (fun f vs=>PySem.call f vs):=by
 intro w s₀ s₁ mg mb G Y fa o pm cd doc dV kV ho hd YV hD hmg hg args vals as Zx acZ hrd hwl hlo;obtain rfl:dV=.none:=Dflts.none hD hdf;obtain rfl:kV=.none:=Dflts.noKw hD;obtain⟨a,vs,ns,rfl,rfl,aaJ,hints,hlen⟩:=IM hn Zx hwl;refine enter_call (codeAny_mono (call w s₀ s₁ mg mb fa o pm cd doc a vs ns G Y ho (fd_plain hd) YV hmg aaJ hints hlen hg) fun r s' hq=>?_);obtain⟨rfl,h2,h3,h4⟩:=hq;exact⟨.inl ⟨.bool true,.bool true,[],rfl,fun _=>rfl,.bool true,IJ l _,fun _=>⟨List.Pairwise.nil,fun _ hm=>(nomatch hm)⟩⟩,h2,h3,h4⟩
end
section
variable{prog:Program}{w:World}{A:Around}{E:q0A}{s:Shared}{K:Frag}
mutual
example:=[]
def Bu(h:Heap):Heap:={h with objs:=#[]}
def pB(h:Heap)(b:Addr):(Bu h).get? b=none:=by
 cases e:(Bu h).get? b with
 | none=>rfl
 | some o=>exact absurd (Μ e) (Nat.not_lt_zero _)
def ledger(h:Heap)(L d:Addr):List (Addr×Obj):=(List.range h.objs.size).filterMap fun a=>if a=L\/a=d then none else (h.get? a).map fun o=>(a,o)
def pA{L d a:Addr}{o:Obj}:(a,o)∈ledger h L d↔a≠L/\a≠d/\h.get? a=some o:=by
 unfold ledger;rw[List.mem_filterMap];constructor
 ·rintro⟨b,_,e⟩;split at e
  ·cases e
  ·rename_i hb
   obtain⟨o',ho,e'⟩:=ϛ.mp e;cases e';exact⟨fun q=>hb (.inl q),fun q=>hb (.inr q),ho⟩
 ·rintro⟨n1,n2,ho⟩;refine⟨a,List.mem_range.mpr (Μ ho),?_⟩;rw[if_neg (show ¬ (a=L\/a=d) from fun q=>q.elim n1 n2),ho]<;>rfl
def sQ{L d:Addr}{od:Obj}(Xm:d≠L)(ho:h.get? d=some od):News (Bu h) L h ([]++(d,od)::ledger h L d):=by
 rintro⟨a,o⟩ hp;rcases Α.mp hp with e|hp
 ·cases e;exact⟨ho,Xm,pB _ _⟩
 ·obtain⟨n1,n2,e⟩:=pA.mp hp;exact⟨e,n1,pB _ _⟩
def Kg{L:Addr}{m:q0C}(n:h.Ns L m):Fr (Bu h) L h m :=
 ⟨n,fun b o e=>(by rw[pB] at e;cases e),Α5 _⟩
end
end
end Att
namespace L2
open PySem PySem.Spec PyProof.Rows
variable{f:Addr}{fd:FuncData}{k:Nat}{st:Stmt}{x:Str}
mutual
example:=[ns.map V.int,Bi s₁.heap H,(by rw[q];simp),(by simp),(fun r s'=>r=.ok (.ret (.bool true))/\OldK s₁.heap s'.heap/\s'.os=s₁.os/\AllBare s'.gens),(.call (.ref fa) ⟨[.ref a],[]⟩),(fun v _=>v=.bl true),(fun _ _ _=>False),K w.params,model P w,if_neg hb]
theorem nY:∀ {vs:List Value} {ns:List Int},IntsAre vs ns->Wq 0e0 vs
 | _,_,.nil=>.nil
 | _,_,.cons n t h=>.cons ⟨t,rfl⟩ (nY h)
def Only(H:Hp):Prop:=∀ b,H b=none\/∃ o xs,H b=some (.WT o (.lst xs))
def KO{P:Program}{w:World}{K:q0B}{mg mb:q0C}{CX:CXT}{fa a:Addr}{sp:Sp}{s₁:Shared}{vs:List Value}{ns:List Int}(KX:K.In s₁.heap)(Zj:s₁.heap.Ns mainGlobals mg)(hb:s₁.heap.Ns builtinsNs mb)(hbb:∀ x:Str,x≠"__name__"->mb x=bootBuiltins x)(abV:s₁.heap.NoLimit)(hg:s₁.gens = #[])(ha:s₁.heap.get? a=some {cls:=.type "list",data:=.seq vs.toArray})(hi:IntsAre vs ns)(hl:ns.length<=sizeLine)(hr:Room k callerA)(F:∀ base:Heap,K.In base->base.Ns mainGlobals mg->fS P w K mg base CX k fa fd [x] sp)(aa3:∀(s:Shared) (u:Value),BindsTo s fd ⟨[u],[]⟩ [(x,u)])(ZW:∀ H:Hp,Only H->eU K H a 0e0->sp [.ref a] H 6e0 fun _ _ _=>False)(hCX:∀ H e s',CX [] H s₁ 7e0 e s'->False) : codeAny 9e0 callerA 5e0 4e0 s₁:=by
  have rv:=nY hi;have ab2:=hi.length;have core:∀ H:Hp,Only H->eU K H a 0e0->HOk P w H s₁.heap->(∀ b,H b≠none->b=a)->(H a≠none->K.lookup a=none) ->
      codeAny 9e0 callerA 5e0 4e0 s₁:=by
    intro H hO hS Ws hA hK;have Ya:∀ {b:Addr} {o:Obj},s₁.heap.get? b=some o->H b=none->(Bi s₁.heap H).get? b=some o:=fun e n=>Kq e n;have noA:∀ {b:Addr} {o:Obj} {es:Array DictEntry} {ep:Nat},s₁.heap.get? b=some o->o.data=.dict es ep->H b=none:=fun {b o es ep} e d=>by
      cases q:H b with
      | none=>rfl
      | some u =>
        have e':b=a:=hA b 2e0;subst e';rw[ha] at e;cases e;have d':Data.seq vs.toArray _=Data.dict es ep:=d;cases d'
    have nsK:∀ {b:Addr} {m:q0C},s₁.heap.Ns b m->(Bi s₁.heap H).Ns b m:=fun {b m} ⟨o,es,ep,e,d,r⟩=>⟨o,es,ep,Ya e (noA e d),d,r⟩;have hKb:K.In 1e0:=fun b o e=>Ya (KX b o e) (by
      cases q:H b with
      | none=>rfl
      | some u =>
        have e':b=a:=hA b 2e0;subst e';rw[hK 2e0] at e;cases e)
    have hM:Mod K mg 1e0:=⟨hKb,nsK Zj,⟨mb,nsK hb,hbb⟩,let ⟨mc,h1,h2⟩:=abV;⟨mc,nsK h1,h2⟩⟩;have e0:Env0 P w K mg 1e0 callerA [] s₁ H:=⟨rfl,hM,fun b o e=>Oc e,Nat.le_of_eq (HZ _ _),trivial,fun b hb=>absurd (show b∈([]:List Addr) from hb) 3e0,Ws,.of_eq hg⟩;refine codeAny_mono ((F _ hKb (nsK Zj)).run callerA [] s₁ H ⟨[.ref a],[]⟩ [.ref a] [.ref a] _ _ hr e0 (aa3 s₁ (.ref a)) (.cons rfl .nil) (ZW H hO hS)) fun r s' h=>?_;cases r with
    | error e=>exact(hCX H e s' h).elim
    | ok fl =>
      cases fl with
      | next=>exact False.elim h
      | brk=>exact False.elim h
      | cont=>exact False.elim h
      | ret u =>
        obtain⟨v,H',os,bare,un,abZ,r',q⟩:=h;have q':v=.bl true:=q;subst q';obtain rfl:u=Value.bool true:=r';refine⟨rfl,OldK.of_keep fun b o e=>?_,os,bare⟩;cases q:H b with
        | none=>exact un.keep b o e q (by intro z;exact absurd (show b∈([]:List Addr) from z) 3e0) 3e0
        | some u =>
          rcases hO b with z|⟨ob,xs,z⟩
          · rw[q] at z;cases z
          · have z2:=un.vX b ob _ z;obtain⟨e1,_⟩:=Ws b _ z;obtain⟨e2,_⟩:=abZ b _ z2;rw[e] at e1;cases e1;exact e2
  cases hk:K.lookup a with
  | some o =>
    have e:=KX a o hk;rw[ha] at e;cases e;refine core (fun _=>none) (fun _=>.inl rfl) (.inr ⟨_,vs.toArray,_,hk,rfl,rfl,rfl,by rw[Ε,ab2];exact hl,by simpa using rv⟩) (fun b u z=>by have z':(none:Option HO)=some u:=z;cases z') (fun b z=>absurd rfl z) fun z=>absurd rfl z
  | none =>
    refine core (fun b=>if b=a then some (.WT {cls:=.type "list",data:=.seq vs.toArray} (.lst 0e0)) else none) (fun b=>?_) (.inl (.inr ⟨{cls:=.type "list",data:=.seq vs.toArray},if_pos rfl⟩)) (fun b u z=>?_) (fun b z=>?_) fun _=>hk
    · by_cases hb:b=a
      · exact .inr ⟨_,_,if_pos hb⟩
      · exact .inl 0e1
    · by_cases hb:b=a
      · have z':=(if_pos hb).symm.trans z;cases z';subst hb;exact⟨ha,by rw[Δ];exact hl,vs,_,rv,ha⟩
      · have z':=(if_neg hb).symm.trans z;cases z'
    · by_cases hb:b=a
      · exact hb
      · exact absurd 0e1 z
def OQ{l:PySem.W.OpenLaw}{n:Nat}{q:Program}{loose:List Str}{XP:(q0C)->Heap->Prop}{YP:World->Heap->Prop}{d:DefRec}{K:Params->q0B}{CX:World->CXT}{sp:World->Sp}(hn:l.most=some n)(Zi:n<=sizeLine)(hdf:d.params.defaults=[])(hr:Room k callerA)(hY:∀(w:World) (h:Heap),YP w h->(K w.params).In h)(F:∀(w:World) (mg:q0C) (fa:Addr) (h:Heap),(K w.params).In h->h.Ns mainGlobals mg->mg d.name=some (.ref fa) -> ∃ fd:FuncData,(∀(s:Shared) (u:Value),BindsTo s fd ⟨[u],[]⟩ [(x,u)]) /\ ∀ base:Heap,(K w.params).In base->base.Ns mainGlobals mg->fS l.prog w 8e0 mg base (CX w) k fa fd [x] (sp w))(ZW:∀(w:World) (H:Hp) (a:Addr) (ns:List Int),ns.length<=n->Only H->eU 8e0 H a 0e0->sp w [.ref a] H 6e0 fun _ _ _=>False)(hCX:∀(w:World) (H:Hp) (s:Shared) (e:Value) (s':Shared),CX w [] H s 7e0 e s'->False) : PySem.W.WalkO q loose XP YP l.row.toRowW d [] (fun f vs=>PySem.call f vs):=by
 refine Att.Cb hn hdf fun w s₀ s₁ mg mb fa o pm cd doc a vs ns G Y ho hd YV hmg aaJ hints hlen hg=>?_;have KX:=hY w _ Y;obtain⟨fd,hb,hF⟩:=F w mg fa _ KX G.T.g hmg;exact KO KX G.T.g G.T.b G.T.builtins G.T.nolimit hg aaJ hints (ϐ hlen Zi) hr hF hb (fun H hO hS=>ZW w H a ns hlen hO hS) fun H e s'=>hCX w H s₁ e s'
def bY(s:Stmt)(j:Nat):Stmt:=match s with
 | .ClassDef _ _ _ body _ _ _ _ _ _ _=>body.getD j (.Pass ⟨0,0,0,0⟩)
 | _=>.Pass ⟨0,0,0,0⟩
def g9(s:Stmt):Arguments:=match s with
 | .FunctionDef _ a _ _ _ _ _ _ _ _=>a
 | _=>{posonlyargs:=[],args:=[],vararg:=none,kwonlyargs:=[],kw_defaults:=[],kwarg:=none,defaults:=[]}
def fL(s:Stmt):List Stmt:=match s with
 | .FunctionDef _ _ b _ _ _ _ _ _ _=>b
 | _=>[]
def cK(s:Stmt):Scope:=match s with
 | .FunctionDef _ _ _ _ _ _ sc _ _ _=>sc
 | _=>{kind:=.function,names:=[],isGenerator:=false,isCoroutine:=false}
abbrev Xq:CXT:=fun _ _ _ _ _ _=>False
abbrev E0:XK:=fun _ _ _=>False
def pass0{X:Cx}:Passes Xq X E0:=fun _ _ _ _ _ _ _ h=>h.elim
structure Fun(K:q0B)(x qual:Str)(st:Stmt)(f:Addr)(fd:FuncData):Prop where
 ex:∃(oc:Value) (od:Option Addr) (kV doc pm:Value) (an:Option Addr) (WK ct:Value) (YD:Array (Option Value)),
  fd=PySem.W.fnOf x qual (g9 st) (fL st) (cK st) .none kV doc pm an WK ct/\K.lookup f=some ⟨oc,od,.func fd,YD⟩/\PySem.W.codeIn K WK qual=true
 kp:PySem.W.keepIn K (.ref f)=true
end
section
variable{P:Program}{w:World}{K:q0B}{mg:q0C}{base:Heap}
def Fun.ok{qual:Str}{N ps:List Str}{sp:Sp}(F:Fun K x qual st f fd)(S:nH N ps (cK st))(len:∀ vs H Q E,sp vs H Q E->vs.length=ps.length)(XQ:∀(WK:Value) (A:Around) (outer:List Env) (s:Shared) (H:Hp) (vs:List V) (Q:VK) (E:XK),Room k (A.deeper (envOfC qual (cK st) s.heap.objs.size f WK))->sp vs H Q E -> ∃ t,XF (AS Xq P w K mg base N qual (cK st) f WK A outer s H E).nox (fL st) t/\t {nx:=fun _ H'=>Q .Wl H',rt:=Q} (start N vs) H):fS P w K mg base Xq (k+1) f fd ps sp:=by
 obtain⟨oc,od,kV,doc,pm,an,WK,ct,YD,rfl,lk,YV⟩:=F.ex;refine TF lk YV S len fun A outer s H vs Q E hr ZW=>?_;obtain⟨t,h,q⟩:=XQ WK A outer s H vs Q E hr ZW;exact⟨t,h.nox,q⟩
def Fun.binds{qual:Str}{ps:List Str}(F:Fun K x qual st f fd)(h:∀(kV doc pm:Value) (an:Option Addr) (WK ct:Value) (us:List Value),us.length=ps.length->bindArgs (PySem.W.fnOf x qual (g9 st) (fL st) (cK st) .none kV doc pm an WK ct) ⟨us,[]⟩=pure (ps.zip us)):Binds K fd ps []:=by
 obtain⟨oc,od,kV,doc,pm,an,WK,ct,YD,rfl,lk,YV⟩:=F.ex;exact .all (h kV doc pm an WK ct)
def Ki{qual:Str}{oc:Value}{od an:Option Addr}{YD:Array (Option Value)}{kV doc pm WK ct:Value}(l:K.lookup f=some ⟨oc,od,.func (PySem.W.fnOf x qual (g9 st) (fL st) (cK st) .none kV doc pm an WK ct),YD⟩)(c:PySem.W.codeIn K WK qual=true)(k:PySem.W.keepIn K (.ref f)=true):Fun K x qual st f (PySem.W.fnOf x qual (g9 st) (fL st) (cK st) .none kV doc pm an WK ct):=⟨⟨oc,od,kV,doc,pm,an,WK,ct,YD,rfl,l,c⟩,k⟩
end
theorem oF{A:Around}(hr:Room k A):A.units+1 < cLine:=Nat.lt_of_le_of_lt (Nat.add_le_add_left (by decide:1<=64) _) hr.units
theorem small1000{n:Nat}(h:n<=1000):n < sizeLine:=Nat.lt_of_le_of_lt h (by decide)
section
variable{X:Cx}
theorem pv(i:Nat){pos:Pos}(hN:X.N[i]?=some x:=by rfl)(hv:Vis X.env.scope x:=by first|exact Or.inl rfl|exact Or.inr (Or.inl rfl)|exact Or.inr (Or.inr rfl))(hd:(x==("__debug__":Str))=false:=by decide)(YV:(x==("__classdict__":Str))=false:=by decide):PE X (.Name x pos) (oA i):=lL hN hv hd YV
end
def Same(H H':Hp):Prop:=∀ b o,H b=some o->H' b=some o
def Same.seq{K:q0B}{H H':Hp}{a:Addr}{xs:List V}(e:Same H H')(h:eU K H a xs):eU K H' a xs:=by
 rcases h with(h|⟨o,h⟩)|h
 ·exact .inl (.inl (e _ _ h))
 ·exact .inl (.inr ⟨o,e _ _ h⟩)
 ·exact .inr h
section
variable{X:Cx}
end
section
variable{κ:Type}[DecidableEq κ]
end
end L2
set_option maxHeartbeats 4000000
namespace L2
open PySem PySem.Spec PyProof.Rows
variable{a it l:Addr}{A:Around}{items:Array Value}{r:Bool}{X:Cx}{h:Heap}{H:Hp}{g:Int->Int->V}{Wj:List (Addr×Obj)}{kvs:List (Key×V)}{cl:List (Str×Addr)}{R:List (V×V)->Hp->Prop}{fp:List Addr}{es:List Expr}{ns:List Int}{fr:List Nat}{vs xs ys:List V}{k:List V->Prop}{i j n:Nat}{tn:Nat->Heap->Prop}{Pv:Nat->List V->Hp->Prop}{W:Nat->Nat->List V->Hp->Prop}{o:Option HO}{O:Option Int->Hp->Prop}{o0:Option V}{Q:Option Value->Shared->Prop}{pos:Pos}{P:Program}{t:SetTable}{s:Shared}{σ:St}{N:St->Hp->Prop}{x y:Str}{v:Value}{RR:Value->Addr->Result->Shared->Prop}{w:World}{E:q0A}{K:q0B}
mutual
example:=[]
theorem mD:bootBuiltins "int"=some (.type "int"):=by decide +kernel
theorem MG:bootBuiltins "list"=some (.type "list"):=by decide +kernel
theorem MF:bootBuiltins "dict"=some (.type "dict"):=by decide +kernel
theorem j5:bootBuiltins "tuple"=some (.type "tuple"):=by decide +kernel
theorem mE:bootBuiltins "max"=some (.builtin "max"):=by decide +kernel
theorem AO:bootBuiltins "min"=some (.builtin "min"):=by decide +kernel
theorem zW:bootBuiltins "sorted"=some (.builtin "sorted"):=by decide +kernel
theorem fF:bootBuiltins "len"=some (.builtin "len"):=by decide +kernel
end
section
def Se(_ j:Int):Prop:=0 < j/\j.natAbs.log2 < 9000
theorem Di:iW X (binaryOp .FloorDiv) (rI Se fun i j=>.int (i / j)):=U9 fun i j _ _ _ _ _ hc q=>by
 have h1:(0:Int) < j:=hc.1;exact floordiv_int (by omega) (by rw[Int.fdiv_eq_ediv_of_nonneg i (by omega)];exact q) (.inl (PyProof.noPylong_of_log2 hc.2))
theorem log2_lt{j:Int}(h0:0 < j)(h:j<=10 ^ 45):j.natAbs.log2 < 9000:=by
 have h1:j.natAbs<=10 ^ 45:=by omega
 have h2:j.natAbs < 2 ^ 150:=Nat.lt_of_le_of_lt h1 (by decide);have h3:j.natAbs.log2 < 150:=(Nat.log2_lt (by omega)).mpr h2;omega
end
noncomputable def mP:Expr->Bool
 | .Starred ..=>true
 | _=>false
def IS{e:Expr}{env:Env}(h:mP e=false):starEach (e::es) env=(false,eval e env)::starEach es env:=by
 cases e<;>first|rfl|cases h
section
variable{e:Expr}{te:TE}{t:TA}
def eY(ha:PE X e te)(hr:PA X es t)(h:mP e=false:=by rfl):PA X (e::es) (nD te t):=GJ ha hr (IS h)
end
noncomputable abbrev sR(prog:Program)(w:World)(A:Around)(env:Env)(R:Result->Shared->Prop):Value->Shared->Prop:=notedBy (model prog w) A env fun e s'=>R (.error e) s'
noncomputable abbrev Ho(ifs:List Expr)(env:Env):Sem Bool:=forIn ifs true fun c r=>if r=true then do let ok <- isTrue c env (eval c env);pure (ForInStep.yield ok) else pure (ForInStep.yield r)
section
variable{prog:Program}{R:Result->Shared->Prop}
def sI{elt target iter:Expr}{ifs:List Expr}{scope:Scope}{it acc:Value}{env:Env}(I:Nat->Shared->Prop)(turn:∀ n s,I n s->wpAny (model prog w) A (pyNext it) (fun r s₁=>match r with|none=>R (.ok .next) s₁|some v=>wpAny (model prog w) A (letOwnedTupleGo target it v) (fun _ s₁'=>wpAny (model prog w) A (assign target env v) (fun _ s₂ => wpAny (model prog w) A (Ho ifs env) (fun ok s₃ => if ok=true then wpAny (model prog w) A (eval elt env) (fun x s₄ => wpAny (model prog w) A (call (.builtin "list.append") [acc,x]) (fun _ s₅=>∃ m,m < n/\I m s₅) (sR prog w A env R) s₄) (sR prog w A env R) s₃ else ∃ m,m < n/\I m s₃) (sR prog w A env R) s₂) (sR prog w A env R) s₁') (sR prog w A env R) s₁) (sR prog w A env R) s)(n:Nat)(h:I n s):codeAny (model prog w) A (.compLoop (.ListComp elt [⟨target,iter,ifs,0⟩] scope pos) 0 it acc env) R s:=by
 refine codeAny_loop rfl I (fun n s hI=>?_) n h;show wpAny _ A ((compTurn (.ListComp elt [⟨target,iter,ifs,0⟩] scope pos) 0 it acc env).onRaise (fun x=>do noteFrame x env;theTreesLotGoes x)) _ _ s;refine wpAny_noted ?_;rw[compTurn_list];refine Β (wpAny_standAt (Β (Α4 (turn n s hI) (fun r s₁ h₁=>?_) fun _ _ h'=>h')));cases r with
 | none=>exact Θ h₁
 | some v =>
  refine Β (Α4 h₁ (fun _ s₁' h₁'=>?_) fun _ _ h'=>h');refine Β (Α4 h₁' (fun _ s₂ h₂=>Β (Α4 h₂ (fun ok s₃ h₃=>?_) fun _ _ h'=>h')) fun _ _ h'=>h');cases ok with
  | false=>exact Θ ⟨rfl,h₃⟩
  | true =>
   exact Β (Β (Α4 h₃ (fun x s₄ h₄=>Β (Α4 h₄ (fun _ s₅ h₅=>Θ (Θ ⟨rfl,h₅⟩)) fun _ _ h'=>h')) fun _ _ h'=>h'))
end
noncomputable def bQ(X:Cx)(sc:Scope)(cl:List (Str×Addr))(C:Addr)(N:List Str)(s:Shared)(H:Hp)(ex:List Addr)(pn:List (Addr×Obj)):Cx :=
 {X with env:=compEnvC sc cl C X.env,N:=N,s₀:=s,H₀:=H,outer:=X.stack,ex:=ex,fn:=fun _=>false,pn:=pn}
structure eR(X:Cx)(sc:Scope)(cl:List (Str×Addr))(x:Str)(fr:List Nat)(N:List Str):Prop where
 kind:sc.kind=.function
 wV:∀ y∈sc.names,y.2≠.cell
 names:∀ y∈sc.names,y.2=.local->sc.names.lookup y.1=some .local
 Cn:closureFor sc X.env=pure cl
 sub:∀ y c,cl.lookup y=some c->X.env.cells.lookup y=some c
 has:∀ y,((relabel sc X.env).names.lookup y=some .cell\/(relabel sc X.env).names.lookup y=some .free)->∃ c,cl.lookup y=some c
 tgt:sc.names.lookup x=some .local
 nd:N.Nodup
 N0:N=x::fr.map fun j=>X.N.getD j x
 Zs:∀ j∈fr,∃ y,X.N[j]?=some y/\X.env.kindOf y=some .cell/\((relabel sc X.env).names.lookup y=some .cell\/(relabel sc X.env).names.lookup y=some .free)
def aV(fr:List Nat)(σ:St):St:=fr.map fun j=>(σ[j]?).join
section
variable{sc:Scope}{C:Addr}{N:List Str}
mutual
example:=[S.sub y c e,some v,X.pn++Wj,bQ X sc cl C N s H fp 2e0,Υ (Μ e) hC,I.pF b hm]
def MN(I:Wm X Wj σ H s)(S:eR X sc cl x fr N)(hf:∀ b∈fp,mB X Wj H b)(X1:∀ b∈fp,b < s.heap.objs.size)(hC:s.heap.objs.size<=C) : (bQ X sc cl C N s H fp 2e0).Ok where
 mod:=I.ok.mod
 kind:=S.kind
 glob:=I.ok.glob
 blt:=I.ok.blt
 above:=hC
 inj:=fun y z c h1 h2=>I.ok.inj y z c (S.sub y c h1) (S.sub z c h2)
 has:=S.has
 cab:=fun _ _ h=>by cases h
 hd:=I.ok.hd
 frames:=I.ok.frames
 stk:=.inl rfl
 exf:=fun b hb=>⟨Ρ (Υ (X1 b hb) hC),fun y c e=>(hf b hb).2.2.2.2.1 y c 0e0⟩
 bs:=I.bs
 bsz:=ϐ I.ok.bsz I.sz
 CZ:=fun b o e hb=>by
  rcases(hf b hb).2.2.2.1 with z|z
  ·exact I.ok.CZ b o e z
  ·exact absurd (Υ (Μ e) (ϐ I.ok.bsz z)) (Ϝ _)
 HU:=fun b hb hm=>by
  rcases Α.mp 5e0 with z|z
  ·exact(hf b hb).2.1 z
  ·exact(hf b hb).2.2.1 z
 pX:=I.stack
 frf:=I.BS
def nostk(I:Wm X Wj σ H s){b:Addr}(h1:b≠X.env.locals)(h2:b∉X.fs):b∉frs X.stack:=fun hm=>by
 rcases Α.mp 5e0 with z|z
 ·exact h1 z
 ·exact h2 z
def JF(I:Wm X Wj σ H s)(S:eR X sc cl x fr N)(hf:∀ b∈fp,mB X Wj H b)(X1:∀ b∈fp,b < s.heap.objs.size)(hC:s.heap.objs.size<=C){h1:Heap}{t1:Nat}{m0:q0C}(hn:h1.Ns C m0)(hk:∀ b o,s.heap.get? b=some o->h1.get? b=some o):Wm 3e0 [] (none::aV fr σ) H {s with heap:=h1,toks:=t1}:=by
 refine⟨MN I S hf X1 hC,rfl,I.bare,Un.kept hk,⟨m0,hn,fun i y v e1 e2 e3=>?_⟩,fun y c e=>?_,I.Ws.fresh hC,fun y c e=>I.kG y c 0e0,fun p hp=>?_,I.Ws.kept hk,?_⟩
 ·have XA:N[i]?=some y:=e1;rw[S.N0] at XA;cases i with
  | zero =>
   have z:(some (none:Option V))=some 1e0:=e2;cases z
  | succ j =>
   have Xg:(fr.map fun j=>X.N.getD j x)[j]?=some y:=XA;have YK:(aV fr σ)[j]?=some 1e0:=e2;unfold aV at YK;rw[ϒ] at Xg YK;cases q:fr[j]? with
   | none=>rw[q] at Xg;cases Xg
   | some k =>
    rw[q] at Xg YK;have ey:X.N.getD k x=y:=ϖ Xg;have ev:(σ[k]?).join=some v:=ϖ YK;obtain⟨y',hy,Xk,Y4⟩:=S.Zs k (Α1 q);have eyy:y=y':=by
     rw[<- ey,Ε2,hy];rfl
    subst eyy;have ev':σ[k]?=some 1e0:=by
     cases z:σ[k]? with
     | none=>rw[z] at ev;cases ev
     | some o =>
      rw[z] at ev;have ev2:o=some v:=ev;rw[ev2]
    obtain⟨m,_,hl⟩:=I.loc;obtain⟨u,r,l⟩:=hl k y v hy ev' (.inr (.inl Xk));refine⟨u,r,.inr ⟨Y4,?_⟩⟩;rcases l with⟨z,_⟩|⟨_,c,hc,o,ho,hd⟩
    ·rw[Xk] at z;cases z
    ·obtain⟨c',YU⟩:=S.has y Y4;have z:=S.sub y c' YU;rw[hc] at z;cases z;exact⟨c,YU,o,hk c o ho,hd⟩
 ·obtain⟨v,o,ho,hd⟩:=I.cell y c 0e0;exact⟨v,o,hk c o ho,hd⟩
 ·have hp':p∈X.pn++Wj:=by
   have z:p∈2e0++[]:=hp;simpa using z
  obtain⟨e,n,ne,nf,d⟩:=I.pin p hp';exact⟨hk _ _ e,n,Ρ 4e0,nostk I ne nf,d⟩
 ·show(none::aV fr σ).length=N.length;rw[S.N0];simp[aV]
def Cq(I:Wm X Wj σ H s)(hf:∀ b∈fp,mB X Wj H b){D:Addr}{pl:List (Addr×Obj)}{σ':St}{H':Hp}{s':Shared}(J:Wm 3e0 pl σ' H' s')(hC:s.heap.objs.size<=C)(hD:s.heap.objs.size<=D)(Yo:D≠C)(YQ:H' D=none){vals:List Value}{k:Nat}(hg:s'.heap.get? D=some {cls:=.type "list",data:=.seq vals.toArray k})(rv:Wq xs vals)(hz:xs.length<=sizeLine){h':Heap}(hs:Heap.SameBut C s'.heap h'):Wm X Wj σ (Wk H' D (.lst xs)) {s' with heap:=h'}:=by
 have lt:∀ {b:Addr} {o:Obj},s.heap.get? b=some o->b < s.heap.objs.size:=fun e=>Μ e;have Z0:∀ {b:Addr} {o:Obj},s.heap.get? b=some o->b≠C:=fun e=>Ρ 4e0;have neD:∀ {b:Addr} {o:Obj},s.heap.get? b=some o->b≠D:=fun e=>Ρ (Υ (Μ e) hD);have aaR:∀ {b:Addr} {o:HO},H b=some o->b≠D:=fun e=>Ρ (Υ (I.Ws.lt e) hD);have base:Un (frs X.stack) fp H H' s.heap s'.heap:=J.base;have HC:H' C=none:=J.free;refine I.Sw (s':={s' with heap:=h'}) (ch:=fp) J.os ⟨fun b o e n hb hx=>?_,fun b o e n hb hx=>?_,fun b o e n hx=>?_,fun b o e hx=>?_,fun b ys e=>?_,fun b o u e=>?_,fun b ps e=>?_⟩ (fun b u e=>?_) J.bare (fun b hb=>?_)
 ·exact(hs.2 b (Z0 e)).trans (base.keep b o e n hb hx)
 ·obtain⟨sl,q⟩:=base.slot b o e n hb hx;exact⟨sl,(hs.2 b (Z0 e)).trans q⟩
 ·rw[aD (neD e)];exact base.free b o e n hx
 ·obtain⟨o',q⟩:=base.there b o e hx;exact⟨o',(hs.2 b (Z0 e)).trans q⟩
 ·rw[aD (aaR e)];exact base.zM b ys e
 ·rw[aD (aaR e)];exact base.vX b o u e
 ·rw[aD (aaR e)];exact base.zL b ps e
 ·by_cases hb:b=D
  ·subst hb;rw[aA] at e;cases e;exact⟨hz,vals,k,rv,(hs.2 b Yo).trans hg⟩
  ·rw[aD hb] at e;have tC:∀ {c:Addr} {o:HO},H' c=some o->c≠C:=fun q z=>by rw[z,HC] at q;cases q
   have tD:∀ {c:Addr} {o:HO},H' c=some o->c≠D:=fun q z=>by rw[z,YQ] at q;cases q
   refine(J.Ws b u e).zK (fun c v hc q=>(hs.2 c ?_).trans q) (fun c q=>by rw[aD (tD q)];exact q) fun c ys q=>by rw[aD (tD q)];exact q
   rcases hc with z|z
   ·rw[z];exact tC e
   ·exact tC z
 ·obtain⟨_,f1,_,f3,f4,f5⟩:=hf b hb;exact⟨f3,f1,f4,f5⟩
end
end
mutual
example:=[some y::aV fr σ]
def ZG(Y:Cx)(ifs:List Expr)(t:TT):Prop :=
 ∀(Wj:List (Addr×Obj)) (s:Shared) (σ:St) (H:Hp) (Q:Bool->Hp->Prop),Wm Y Wj σ H s->t σ H Q->wpAny (model Y.prog Y.w) Y.A (Ho ifs Y.env) (TP Y Wj σ Q) Y.xe s
def PH:TT:=fun _ H Q=>Q true H
def BK{Y:Cx}:ZG Y [] PH:=fun _ _ _ H _ I h=>wpAny_tests_nil ⟨H,I,h⟩
def nW{Y:Cx}{c:Expr}{t:TT}(h:PT Y c t):ZG Y [c] t:=fun Wj s σ H Q I hw=>wpAny_tests_one (h Wj s σ H Q I hw)
@[irreducible] def kS(wi:TI)(fr:List Nat)(tc:TT)(te:TE):TE:=fun σ H Q=>wi σ H fun J H1=>∃ W:Nat->Nat->List V->Hp->Prop,(∃ m,W 0 m [] H1)/\∀ i m xs H,W i m xs H->xs.length<=1000000 /\
  ((J.stop i H/\∀ p,H p=none->Q (.ref p) (Wk H p (.lst xs))) \/
   (J.go i H/\∀ y H',J.Yj i H y H'->tc 0e0 H' fun b H2=>if b=true then te 0e0 H2 (fun z H3=>∃ m',m' < m/\W (i+1) m' (xs++[z]) H3) else ∃ m',m' < m/\W (i+1) m' xs H2))
end
section
variable{sc:Scope}{N:List Str}{elt iter:Expr}{px:Pos}{ifs:List Expr}{wi:TI}{tc:TT}{te:TE}
theorem u9(hc:X.calm=true)(hx:∀ e s,¬ X.xe e s)(S:eR X sc cl x fr N)(hb:∀ C s H ex pn,ZG (bQ X sc cl C N s H ex pn) ifs tc/\PE (bQ X sc cl C N s H ex pn) elt te){J:It}{Q:VK}(I:Wm X Wj σ H s)(T:Turn X.prog X.w X.K (.Name x px) J fp it tn)(st:tn 0 s.heap)(hf:∀ b∈fp,mB X Wj H b){m0:Nat}(w0:W 0 m0 [] H)(turn:∀ i m xs H,W i m xs H->xs.length<=1000000 /\ ((J.stop i H/\∀ p,H p=none->Q (.ref p) (Wk H p (.lst xs))) \/ (J.go i H/\∀ y H',J.Yj i H y H'->tc (some y::aV fr σ) H' fun b H2=>if b=true then te (some y::aV fr σ) H2 (fun z H3=>∃ m',m' < m/\W (i+1) m' (xs++[z]) H3) else ∃ m',m' < m/\W (i+1) m' xs H2)))(fin:∀(D C:Addr) (s':Shared) (m':q0C) (H':Hp),s'.heap.Ns C m'->mB X Wj H' C->(∀ h',Heap.SameBut C s'.heap h'->Wm X Wj σ H' {s' with heap:=h'})->Q (.ref D) H'->RR (.ref D) C (.ok .next) s') : wpAny (model X.prog X.w) X.A (newList []) (fun acc s₃=>wpAny (model X.prog X.w) X.A (newFunctionEnv sc X.env.globals cl [] X.env.qual none .none (some X.env)) (fun YI s₄ => codeAny (model X.prog X.w) X.A (.compStart (.ListComp elt [⟨.Name x px,iter,ifs,0⟩] sc pos) 0 (.ref it) acc {YI with scope:=relabel sc X.env}) (RR acc YI.locals) s₄) E s₃) E s:=by
  refine Β6 (wpAny_newFunctionEnv S.wV (by intro y hy;simp at hy) (fun h₁ X2 XC=>?_) S.kind);dsimp only at X2 XC ⊢;generalize hH2:s.heap.push {cls:=.type "list",dict:=none,data:=.seq ([]:List Value).toArray}=G2 at X2 XC ⊢;have hCs:G2.objs.size=s.heap.objs.size+1:=by rw[<- hH2,Heap.size_push]
  have Yo:s.heap.objs.size≠G2.objs.size:=by rw[hCs];exact Ρ (Nat.lt_succ_self _)
  have hC:s.heap.objs.size<=G2.objs.size:=by rw[hCs];exact Δ1 _
  have below:∀ b,b < s.heap.objs.size->b≠G2.objs.size:=fun b hb=>by rw[hCs];exact Ρ (Nat.lt_succ_of_lt hb)
  have old:∀ b o,s.heap.get? b=some o->h₁.get? b=some o:=fun b o e=>XC.extBut b o (below b (Μ e)) (Ζ _ (hH2▸Ζ _ e));have hD1:h₁.get? s.heap.objs.size=some {cls:=.type "list",data:=.seq ([]:List Value).toArray 0}:=XC.extBut _ _ Yo (Ζ _ (hH2▸Χ _ rfl));have X1:∀ b∈fp,b < s.heap.objs.size:=fun b hbm=>by
    obtain⟨o,e,_⟩:=T.obj 0 s.heap st b hbm;exact Μ e
  have YQ:H s.heap.objs.size=none:=I.Ws.fresh (Ι _);have aaA:s.heap.objs.size∉frs X.stack:=fun hm=>by
    rcases Α.mp (I.pF _ hm) with z|z
    · exact absurd I.lt (by rw[<- z];exact Ϝ _)
    · exact I.Rr (Ι _) z
  have YF:∀ y c,cl.lookup y=some c->c≠s.heap.objs.size:=fun y c e z=>by
    obtain⟨v,q⟩:=I.cell y c (S.sub y c e);exact absurd q.lt (by rw[z];exact Ϝ _)
  have Z9:∀ p∈X.pn++Wj,p.1≠s.heap.objs.size:=fun p hp z=>absurd (Μ (I.pin p hp).1) (by rw[z];exact Ϝ _);have Dfp:s.heap.objs.size∉fp:=fun hm=>Ϝ _ (X1 _ hm);have loop:∀ s₃:Shared,s₃={s with heap:=h₁,toks:=s.toks+([]:List (Str×Value)).length} ->
      codeAny (model X.prog X.w) X.A (.compLoop (.ListComp elt [⟨.Name x px,iter,ifs,0⟩] sc pos) 0 (.ref it) (.ref s.heap.objs.size) (compEnvC sc cl G2.objs.size X.env)) (RR (.ref s.heap.objs.size) G2.objs.size) s₃:=by
    rintro s₃ rfl;have I0:Wm (bQ X sc cl G2.objs.size N s H fp (X.pn++Wj)) [] (none::aV fr σ) H {s with heap:=h₁,toks:=s.toks+([]:List (Str×Value)).length}:=JF I S hf X1 hC X2 old;refine sI (fun n s'=>∃(i:Nat) (xs:List V) (vals:List Value) (k:Nat) (v0:Option V) (H':Hp),Wm (bQ X sc cl G2.objs.size N s H fp (X.pn++Wj)) [] (v0::aV fr σ) H' s'/\tn i s'.heap/\(∀ b∈fp,H' b=none) /\
      s'.heap.get? s.heap.objs.size=some {cls:=.type "list",data:=.seq vals.toArray k}/\Wq xs vals/\H' s.heap.objs.size=none/\W i n xs H') ?_ m0
      ⟨0,[],[],0,none,H,I0,T.keep _ _ _ st fun b _ o e=>old b o e,fun b hb=>(hf b hb).1,hD1,.nil,YQ,w0⟩
    rintro n s1 ⟨i,xs,vals,k,v0,H1,I1,st1,fr1,hg1,ZD,aaD,w1⟩;have hlen:=ZD.length;obtain⟨hz,step⟩:=turn i n xs H1 w1;have Zy:xs.length<=sizeLine:=ϐ hz (by decide);have Xp:∀ {H':Hp} {pl:List (Addr×Obj)},(∀ b∈fp,H' b=none)->(∀ p∈pl,p.1=s.heap.objs.size)->∀ b∈fp,mB (bQ X sc cl G2.objs.size N s H fp (X.pn++Wj)) pl H' b:=fun {H' pl} hn WV b hb =>
      ⟨hn b hb,below b (X1 b hb),nostk I (hf b hb).2.1 (hf b hb).2.2.1,.inl hb,fun y c e=>(hf b hb).2.2.2.2.1 y c (S.sub y c e),fun p hp z=>by
        rcases Κ.mp hp with q|q
        · exact(hf b hb).2.2.2.2.2 p q z
        · exact Dfp (by rw[<- WV p q,z];exact hb)⟩
    have I1':Wm (bQ X sc cl G2.objs.size N s H fp (X.pn++Wj)) [(s.heap.objs.size,{cls:=.type "list",data:=.seq vals.toArray k})] (v0::aV fr σ) H1 s1:=I1.jP fun p hp=>by
      have e:p=(s.heap.objs.size,{cls:=.type "list",data:=.seq vals.toArray k}):=by simpa using hp
      subst e;exact⟨hg1,aaD,Yo,aaA,fun v z=>by cases z⟩
    rcases step with⟨stop,hq⟩|⟨go,step⟩
    · refine thn (T.done (bQ X sc cl G2.objs.size N s H fp (X.pn++Wj)) rfl rfl rfl hc i [(s.heap.objs.size,{cls:=.type "list",data:=.seq vals.toArray k})] s1 _ H1 _ I1' (Xp fr1 fun p hp=>by
        have e:p=(s.heap.objs.size,{cls:=.type "list",data:=.seq vals.toArray k}):=by simpa using hp
        rw[e]) st1 stop) fun r s2 ⟨hr,I2⟩=>?_
      subst hr;obtain⟨g2,n2,_⟩:=I2.pin (s.heap.objs.size,{cls:=.type "list",data:=.seq vals.toArray k}) (Ψ _ (by simp));obtain⟨m2,Zi,_⟩:=I2.loc;have hCn:Wk H1 s.heap.objs.size (.lst xs) G2.objs.size=none:=by
        rw[aD (Ne.symm Yo)];exact I2.free
      exact fin s.heap.objs.size G2.objs.size s2 m2 _ Zi (I.HW hC hCn) (fun h' Ye=>Cq I hf I2 hC (Ι _) Yo n2 g2 ZD Zy Ye) (hq _ n2)
    · refine thn (T.item (bQ X sc cl G2.objs.size N s H fp (X.pn++Wj)) rfl rfl rfl hc i [(s.heap.objs.size,{cls:=.type "list",data:=.seq vals.toArray k})] s1 _ H1 _ I1' (Xp fr1 fun p hp=>by
        have e:p=(s.heap.objs.size,{cls:=.type "list",data:=.seq vals.toArray k}):=by simpa using hp
        rw[e]) st1 go) fun r s2 ⟨u,hr,h2⟩=>?_
      subst hr;refine thn h2 fun _ s3 ⟨y,H3,I3,r3,y3,Zn,fr3⟩=>?_;have I3':=I3.pinned (Xp fr3 fun p hp=>by
        have e:p=(s.heap.objs.size,{cls:=.type "list",data:=.seq vals.toArray k}):=by simpa using hp
        rw[e]) (T.obj _ _ Zn)
      have back:∀ {σ9:St} {H9:Hp} {s9:Shared},Wm (bQ X sc cl G2.objs.size N s H fp (X.pn++Wj)) ([(s.heap.objs.size,{cls:=.type "list",data:=.seq vals.toArray k})]++sC fp s3.heap) σ9 H9 s9 ->
          tn (i+1) s9.heap/\(∀ b∈fp,H9 b=none)/\s9.heap.get? s.heap.objs.size=some {cls:=.type "list",data:=.seq vals.toArray k}/\H9 s.heap.objs.size=none:=fun {σ9 H9 s9} I9=>by
        refine⟨T.keep _ _ _ Zn fun b hb o e=>(I9.pin (b,o) (Ψ _ (Ψ _ (gW hb e)))).1,fun b hb=>?_,?_⟩
        · obtain⟨o,e,d⟩:=T.obj _ _ Zn b hb;exact(I9.pin (b,o) (Ψ _ (Ψ _ (gW hb e)))).2.1
        · obtain⟨a1,a2,_⟩:=I9.pin (s.heap.objs.size,{cls:=.type "list",data:=.seq vals.toArray k}) (Ψ _ (List.mem_append_left _ (by simp)));exact⟨a1,a2⟩
      have hN0:(bQ X sc cl G2.objs.size N s H fp (X.pn++Wj)).N[0]?=some x:=by
        show N[0]?=some x;rw[S.N0];rfl
      have YZ:(relabel sc X.env).names.lookup x=some .local:=lookup_relabel_local S.tgt;have hpg:PG (bQ X sc cl G2.objs.size N s H fp (X.pn++Wj)) (.Name x px) (jJ 0):=uF (i:=0) S.nd hN0 (.inl YZ) (.inr YZ);have noX:∀ e s',(bQ X sc cl G2.objs.size N s H fp (X.pn++Wj)).xe e s'->sR X.prog X.w X.A (compEnvC sc cl G2.objs.size X.env) (RR (.ref s.heap.objs.size) G2.objs.size) e s':=fun e s' z=>(hx e s' z).elim;have Y3:=step y H3 y3;refine Α4 (hpg _ s3 _ H3 y u (fun σ' H'=>σ'=some y::aV fr σ/\H'=H3) I3' r3 ⟨rfl,rfl⟩) (fun _ s4 ⟨σ4,H4,I4,e4,e4'⟩=>?_) noX;subst e4 e4';obtain⟨hbT,hbE⟩:=hb G2.objs.size s H fp (X.pn++Wj);refine Α4 (hbT _ s4 _ H4 _ I4 Y3) (fun ok s5 ⟨H5,I5,q5⟩=>?_) noX;cases ok with
      | false =>
        rw[if_neg Φ];have q5':∃ m',m' < n/\W (i+1) m' xs H5:=q5;obtain⟨m',hm,w5⟩:=q5';obtain⟨b1,b2,b3,b4⟩:=back I5;exact⟨m',hm,i+1,xs,vals,k,some y,H5,I5.jP (fun p hp=>absurd hp (by simp)),b1,b2,b3,ZD,b4,w5⟩
      | true =>
        rw[if_pos rfl];refine Α4 (hbE _ s5 _ H5 _ I5 q5) (fun z s6 ⟨v6,H6,I6,r6,q6⟩=>?_) noX;obtain⟨m',hm,w6⟩:=q6;obtain⟨b1,b2,b3,b4⟩:=back I6;refine call_meets F.slot_list_append ⟨_,b3,rfl⟩ F.entry_list_append (F.args_list_append_2 _ _) (PySem.list_append s.heap.objs.size vals.toArray k z (by rw[Ε];omega)) ⟨b3,?_⟩;have q7:=PySem.IsL.update b3 (fun a:Array Value=>a.push z);have Y2:vals.toArray.push z=(vals++[z]).toArray:=by simp
        rw[Y2] at q7;have I6':Wm (bQ X sc cl G2.objs.size N s H fp (X.pn++Wj)) [] (some y::aV fr σ) H6 s6:=I6.jP (fun p hp=>absurd hp (by simp));have others:∀ b o,b≠s.heap.objs.size->s6.heap.get? b=some o->(s6.heap.update s.heap.objs.size (Obj.mapSeq fun a=>a.push z)).get? b=some o:=fun b o WQ e=>(Heap.get?_update_other _ _ (Ne.symm WQ)).trans e;refine⟨m',hm,i+1,xs++[v6],vals++[z],_,some y,H6,I6'.turned (it:=s.heap.objs.size) others b4 Yo (.inr (Ι _)) YF (fun p hp z'=>?_),T.keep _ _ _ b1 fun b WQ o e=>others b o (fun z'=>Dfp (by rw[<- z'];exact WQ)) e,b2,q7,ZD.append (.cons r6 .nil),b4,w6⟩;have hp':p∈X.pn++Wj:=by
          have z2:p∈(X.pn++Wj)++[]:=hp;simpa using z2
        exact Z9 p hp' z'
  exact codeAny_compStart_list (loop _ rfl) (T.self _ _ _ _ _ (T.keep _ _ _ st fun b _ o e=>old b o e) (loop _ rfl))
def qJ(hc:X.calm=true)(hx:∀ e s,¬ X.xe e s)(S:eR X sc cl x fr N)(hi:PI X (.Name x px) iter wi)(hb:∀ C s H ex pn,ZG (bQ X sc cl C N s H ex pn) ifs tc/\PE (bQ X sc cl C N s H ex pn) elt te)(hs:∀ v,foldedSetIterable iter X.env v=pure v:=by intro _;rfl):PE X (.ListComp elt [⟨.Name x px,iter,ifs,0⟩] sc pos) (kS wi fr tc te):=by
 intro Wj s σ H Q I h;unfold kS at h;rw[eval_ListComp];refine wpAny_comprehension_free (use:=none) rfl hs S.Cn S.kind S.names ?_;refine thn (hi Wj s σ H _ I h) fun v s1 h1=>thn h1 fun itv s2 h2=>?_;obtain⟨it,fp,tn,J,H2,e,I2,T,X6,f2,W,⟨m0,w0⟩,turn⟩:=h2;subst e;refine u9 (RR:=fun acc C=>compPost (model X.prog X.w) X.A X.xe none (EP X Wj σ Q) acc C) hc hx S hb I2 T X6 f2 w0 turn ?_;intro D C s' m' H' hn _ YY q;exact⟨m',hn,fun h' Ye=>⟨.ref D,H',YY h' Ye,rfl,q⟩⟩
end
section
def RW:Mw X (fun x lo hi H Q=>∃ z,x=.str z/\z.length<=sizeLine/\Q (.str (Txt.slice z lo hi)) H):=by
 intro Wj s σ H x v vl vu lo hi sl Q I rx hs pl pu h;obtain⟨z,rfl,hz,q⟩:=h;obtain⟨t,rfl⟩:=rx;have fin:∀ t' k,EP X Wj σ Q (.str (Txt.slice z lo hi) t') {s with toks:=k}:=fun t' k=>⟨.str _,H,I.tok _,⟨_,rfl⟩,q⟩;refine⟨"str",_,F.slot_str_getitem.lookup,typeIs_str s z t,?_⟩;cases pl with
 | none =>
  cases pu with
  | none=>exact wpAny_getItem_str_slice (l:=none) (u:=none) (st:=none) hs rfl (post_val_or_str ⟨ϐ (Txt.slice_le z _ _) hz,fin⟩)
  | int j uj=>exact wpAny_getItem_str_slice (l:=none) (u:=some (j,uj)) (st:=none) hs rfl (post_val_or_str ⟨ϐ (Txt.slice_le z _ _) hz,fin⟩)
 | int i ui =>
  cases pu with
  | none=>exact wpAny_getItem_str_slice (l:=some (i,ui)) (u:=none) (st:=none) hs rfl (post_val_or_str ⟨ϐ (Txt.slice_le z _ _) hz,fin⟩)
  | int j uj=>exact wpAny_getItem_str_slice (l:=some (i,ui)) (u:=some (j,uj)) (st:=none) hs rfl (post_val_or_str ⟨ϐ (Txt.slice_le z _ _) hz,fin⟩)
end
section
variable{tg:Expr}
end
def cW(n:Nat)(Pv:Nat->List V->Hp->Prop)(i m:Nat)(xs:List V)(H:Hp):Prop:=m=n - i/\i<=n/\Pv i xs H
theorem cW.next(hi:i < n)(p:Pv (i+1) xs H):∃ m',m' < n - i/\cW n Pv (i+1) m' xs H:=⟨n - (i+1),by omega,rfl,hi,p⟩
section
variable{tc:TT}{te:TE}{Q:VK}
theorem HE(Pv:Nat->List V->Hp->Prop)(h0:Pv 0 [] H)(hz:∀ i xs H,Pv i xs H->xs.length<=1000000)(hl:∀ i xs H,Pv i xs H->eU K H a ys)(hs:∀ i y xs H,i < ys.length->ys[i]?=some y->Pv i xs H->tc (some y::aV fr σ) H fun b H2=>if b=true then te (some y::aV fr σ) H2 (fun z H3=>∃ m',m' < ys.length - i/\cW ys.length Pv (i+1) m' (xs++[z]) H3) else ∃ m',m' < ys.length - i/\cW ys.length Pv (i+1) m' xs H2)(hd:∀ xs H,Pv ys.length xs H->∀ p,H p=none->Q (.ref p) (Wk H p (.lst xs))) : ∃ W:Nat->Nat->List V->Hp->Prop,(∃ m,W 0 m [] H)/\∀ i m xs H,W i m xs H->xs.length<=1000000 /\ (((Yl K a).stop i H/\∀ p,H p=none->Q (.ref p) (Wk H p (.lst xs))) \/ ((Yl K a).go i H/\∀ y H',(Yl K a).Yj i H y H'->tc (some y::aV fr σ) H' fun b H2=>if b=true then te (some y::aV fr σ) H2 (fun z H3=>∃ m',m' < m/\W (i+1) m' (xs++[z]) H3) else ∃ m',m' < m/\W (i+1) m' xs H2)):=by
 refine⟨cW ys.length Pv,⟨ys.length,by simp,Α5 _,h0⟩,?_⟩;rintro i m xs H ⟨rfl,hi,p⟩;refine⟨hz i xs H p,?_⟩;have q:=hl i xs H p;by_cases WS:i < ys.length
 ·refine .inr ⟨⟨ys,ys[i],q,by simp[WS]⟩,fun y H' yy=>?_⟩;obtain⟨e,yy⟩:=yy;subst e;exact hs i y xs _ WS (yy ys q) p
 ·have e:i=ys.length:=by omega
  subst e;exact .inl ⟨⟨ys,q,Ι _⟩,hd xs H p⟩
theorem Eo{lo:Int}(Pv:Nat->List V->Hp->Prop)(h0:Pv 0 [] H)(hz:∀ i xs H,Pv i xs H->xs.length<=1000000)(hs:∀ i xs H,i < n->Pv i xs H->tc (some (.int (lo+i))::aV fr σ) H fun b H2=>if b=true then te (some (.int (lo+i))::aV fr σ) H2 (fun z H3=>∃ m',m' < n - i/\cW n Pv (i+1) m' (xs++[z]) H3) else ∃ m',m' < n - i/\cW n Pv (i+1) m' xs H2)(hd:∀ xs H,Pv n xs H->∀ p,H p=none->Q (.ref p) (Wk H p (.lst xs))) : ∃ W:Nat->Nat->List V->Hp->Prop,(∃ m,W 0 m [] H)/\∀ i m xs H,W i m xs H->xs.length<=1000000 /\ (((Yy lo n).stop i H/\∀ p,H p=none->Q (.ref p) (Wk H p (.lst xs))) \/ ((Yy lo n).go i H/\∀ y H',(Yy lo n).Yj i H y H'->tc (some y::aV fr σ) H' fun b H2=>if b=true then te (some y::aV fr σ) H2 (fun z H3=>∃ m',m' < m/\W (i+1) m' (xs++[z]) H3) else ∃ m',m' < m/\W (i+1) m' xs H2)):=by
 refine⟨cW n Pv,⟨n,by simp,Α5 _,h0⟩,?_⟩;rintro i m xs H ⟨rfl,hi,p⟩;refine⟨hz i xs H p,?_⟩;by_cases WS:i < n
 ·refine .inr ⟨WS,fun y H' yy=>?_⟩;obtain⟨e,rfl⟩:=yy;subst e;exact hs i xs _ WS p
 ·have e:i=n:=by omega
  subst e;exact .inl ⟨Ι _,hd xs H p⟩
end
section
variable{tc:TT}{te:TE}{H1:Hp}{Q:VK}
end
def wQ{l:List (Str×NameKind)}{k:NameKind}(h:l.lookup y=some k):(y,k)∈l:=Δ4 h
theorem eR.free{sc:Scope}{N:List Str}(kind:sc.kind=.function)(nc:(sc.names.all fun y=>y.2 !=.cell)=true)(nm:(sc.names.all fun y=>!(y.2==.local)||sc.names.lookup y.1==some .local)=true)(tgt:sc.names.lookup x=some .local)(Cn:closureFor sc X.env=pure cl)(sub:∀ y c,cl.lookup y=some c->X.env.cells.lookup y=some c)(has:((relabel sc X.env).names.all fun y=>(y.2 !=.cell&&y.2 !=.free)||(cl.lookup y.1).isSome)=true)(nd:N.Nodup)(N0:N=x::fr.map fun j=>X.N.getD j x)(Zs:∀ j∈fr,∃ y,X.N[j]?=some y/\X.env.kindOf y=some .cell/\((relabel sc X.env).names.lookup y=some .cell\/(relabel sc X.env).names.lookup y=some .free)):eR X sc cl x fr N where
 kind:=kind
 wV:=fun y hy e=>by
  have h:=Ε5.mp nc y hy;rw[e] at h;exact absurd h (by decide)
 names:=fun y hy e=>by
  have h:=Ε5.mp nm y hy;rw[e] at h;simpa using h
 Cn:=Cn
 sub:=sub
 has:=fun y h=>by
  have key:∀ k,(relabel sc X.env).names.lookup y=some k->(k=.cell\/k=.free)->∃ c,cl.lookup y=some c:=fun k e hk=>by
   have h:=Ε5.mp has (y,k) (wQ e);rcases hk with rfl|rfl
   ·exact Δ3.mp (by simpa using h)
   ·exact Δ3.mp (by simpa using h)
  rcases h with h|h
  ·exact key _ h (.inl rfl)
  ·exact key _ h (.inr rfl)
 tgt:=tgt
 nd:=nd
 N0:=N0
 Zs:=Zs
section
variable{sc:Scope}{N:List Str}{elt iter:Expr}{px:Pos}{ifs:List Expr}{wi:TI}{tc:TT}{te:TE}
theorem pE{py Y9:Pos}(hc:X.calm=true)(hx:∀ e s,¬ X.xe e s)(S:eR X sc cl x fr N)(hi:PI X (.Name x px) iter wi)(hb:∀ C s H ex pn,ZG (bQ X sc cl C N s H ex pn) ifs tc/\PE (bQ X sc cl C N s H ex pn) elt te)(hN:X.N.Nodup)(hy:X.N[i]?=some y)(hl:Loc X.env.scope y)(hsw:swapsWith (.ListComp elt [⟨.Name x px,iter,ifs,0⟩] sc pos) (some (.Name y py)) Y9.line X.env=pure true:=by rfl)(hs:∀ v,foldedSetIterable iter X.env v=pure v:=by intro _;rfl)(hf:X.fn y=true\/X.env.scope.names.lookup y=some .local:=by first|exact .inl rfl|exact .inr rfl|assumption) : PS X (.Assign [.Name y py] (.ListComp elt [⟨.Name x px,iter,ifs,0⟩] sc pos) Y9) (IT (kS wi fr tc te) (jJ i)):=by
 intro Wj s σ H D I h;have h:kS wi fr tc te σ H (fun x H1=>jJ i x σ H1 D.nx):=h;unfold kS at h;rw[exec_Assign_Name_used _ _ _ _ hsw];refine Β (wpAny_standAt (Β ?_));show wpAny _ X.A (do let _ <- comprehension (.ListComp elt [⟨.Name x px,iter,ifs,0⟩] sc pos) sc X.env _ (newList []) false (eval iter X.env) (some (assign (.Name y py) X.env))) _ _ s;refine Β (Α4 (wpAny_comprehension_free (use:=some (assign (.Name y py) X.env)) (Q:=fun _ s'=>SP X Wj D .next s') rfl hs S.Cn S.kind S.names
  (thn (hi Wj s σ H _ I h) fun v s1 h1=>thn h1 fun itv s2 h2=>?_)) (fun _ s' hq=>Θ (Θ hq)) fun _ _ e=>e)
 obtain⟨it,fp,tn,J,H2,e,I2,T,X6,f2,W,⟨m0,w0⟩,turn⟩:=h2;subst e;refine u9 (Q:=fun x H1=>jJ i x σ H1 D.nx) (RR:=fun acc C=>compPost (model X.prog X.w) X.A X.xe (some (assign (.Name y py) X.env)) (fun _ s'=>SP X Wj D .next s') acc C) hc hx S hb I2 T X6 f2 w0 turn ?_;intro D' C s' m' H' hn fC YY q;show wpAny _ X.A (assign (.Name y py) X.env (.ref D')) _ _ _;have I':Wm X Wj σ H' s':=YY s'.heap (Heap.SameBut.refl ..);refine wpAny_assign_Name (sH (v:=.ref D') I' hN hy hl rfl (fun s'' I'' ⟨a,hsa,ha⟩=>?_) hf);obtain⟨f0,f1,f2',f3,f4,f5⟩:=fC;have hCa:C≠a:=fun z=>by
  rcases ha with ha|ha
  ·exact f1 (z.trans ha)
  ·exact f4 y a ha z.symm
 refine⟨m',hn.sameBut hsa hCa,fun h' Ye=>?_⟩;exact⟨σ.set i (some (.ref D')),H',I''.turned (t':=s''.toks) (fun b o WQ e=>(Ye.2 b WQ).trans e) f0 f1 f3 f4 f5,q⟩
end
section
variable{prog:Program}
end
section
variable{Q:VK}{i j:Int}{v:V}
mutual
example:=[.int i,.int j,.str y,.str x]
def PK:oA 0 (some v::σ) H Q=Q v H:=by simp[oA]
def DX{o:Option V}:oA (n+1) (o::σ) H Q=oA n σ H Q:=by simp[oA]
def UZ:oA 1 (o0::some v::σ) H Q=Q v H:=(DX.trans PK)
def U0{o1:Option V}:oA 2 (o0::o1::some v::σ) H Q=Q v H:=(DX.trans UZ)
def U2{o1 o2:Option V}:oA 3 (o0::o1::o2::some v::σ) H Q=Q v H:=(DX.trans U0)
def U3{o1 o2 o3:Option V}:oA 4 (o0::o1::o2::o3::some v::σ) H Q=Q v H:=(DX.trans U2)
def U4{o1 o2 o3 o4:Option V}:oA 5 (o0::o1::o2::o3::o4::some v::σ) H Q=Q v H:=(DX.trans U3)
def U5{o1 o2 o3 o4 o5:Option V}:oA 6 (o0::o1::o2::o3::o4::o5::some v::σ) H Q=Q v H:=(DX.trans U4)
def U6{o1 o2 o3 o4 o5 o6:Option V}:oA 7 (o0::o1::o2::o3::o4::o5::o6::some v::σ) H Q=Q v H:=(DX.trans U5)
def V4{o1 o2 o3 o4 o5 o6 o7:Option V}:oA 8 (o0::o1::o2::o3::o4::o5::o6::o7::some v::σ) H Q=Q v H:=(DX.trans U6)
def EI{α β:Type}{f:α->β}{a:α}{l:List α}:List.map f (a::l)=f a::List.map f l:=rfl
def K0{α β:Type}{f:α->β}:List.map f []=[]:=rfl
def V2{C:Int->Int->Prop}:rI C g 0e0 1e0 H Q=(C i j/\Q (g i j) H):=by simp[rI]
def UX:Mu g 0e0 1e0 H Q=Q (g i j) H:=by simp[Mu]
def V3{g:Int->V}:rU g 0e0 H Q=Q (g i) H:=by simp[rU]
def w_lit(h:Nat.ble n 1000=true):(n<=sizeLine)=True:=eq_true (Nat.le_of_lt (small1000 (Nat.le_of_ble_eq_true h)))
theorem UR:Mt 0e0 1e0 H Q=Q (.bl (decide (i=j))) H:=by simp only[Mt,show Xo 0e0 1e0=true from rfl,V.int.injEq,true_and]
theorem US:Mt 3e0 2e0 H Q=Q (.bl (decide (x=y))) H:=by simp only[Mt,show Xo 3e0 2e0=true from rfl,V.str.injEq,true_and]
theorem UT:RP 0e0 1e0 H Q=Q (.bl (!decide (i=j))) H:=by simp only[RP,show Xo 0e0 1e0=true from rfl,V.int.injEq,true_and]
theorem UU:RP 3e0 2e0 H Q=Q (.bl (!decide (x=y))) H:=by simp only[RP,show Xo 3e0 2e0=true from rfl,V.str.injEq,true_and]
end
end
def bD{a b:String}:(Str.ofString a=Str.ofString b)=(a=b):=by
 refine propext ⟨fun h=>?_,fun h=>by rw[h]⟩;rw[Str.ofString_eq_toList,Str.ofString_eq_toList] at h;have e:(a.toList.map Char.toNat)=(b.toList.map Char.toNat):=by
  have:=congrArg (fun z:Str=>z.cps.toList) h;simpa using this
 have inj:∀ x y:Char,x.toNat=y.toNat->x=y:=fun x y q=>Char.ext (UInt32.toNat_inj.mp q);have:=(List.map_inj_right (f:=Char.toNat) (fun x y q=>inj x y q)).mp e;exact String.toList_inj.mp this
def Kp(S:List Addr)(H H':Hp):Prop:=∀ b o,H b=some o->b∉S->H' b=some o
section
variable{S T:List Addr}{H1 H2:Hp}{p:Addr}{o:HO}
mutual
example:=[Wk H p o]
def Kp.refl:Kp S H H:=fun _ _ h _=>h
def Kp.trans(x:Kp S H H1)(y:Kp S H1 H2):Kp S H H2:=fun b o h n=>y b o (x b o h n) n
def Kp.mono(x:Kp S H H1)(h:∀ b∈S,b∈T):Kp T H H1:=fun b o e n=>x b o e fun z=>n (h b z)
def Kp.new(h:H p=none):Kp S H 0e0:=fun b u e _=>by rw[aD (aF e h)];exact e
def q0D(h:H p=none):Kp [] H 0e0:=Kp.new h
def Kp.set(h:p∈S):Kp S H 0e0:=fun b u e n=>by rw[aD (show b≠p from fun z=>n (by rw[z];exact h))];exact e
theorem Kp.at(x:Kp S H H1)(e:H a=some o)(n:a∉S:=by first|exact Γ|simp_all):H1 a=some o:=x a o e n
def Kp.same(x:Kp [] H H1):Same H H1:=fun b o e=>x b o e (by simp)
def Kp.drop(x:Kp (p::S) H H1)(h:H p=none):Kp S H H1:=fun b o e n=>x b o e (by
 simp only[Α,not_or];exact⟨aF e h,n⟩)
end
end
mutual
example:=[.lst xs,.tup xs,.ref p,qY xs lo hi]
abbrev Tg{α:Type}(_:α):Type:=Unit
def iZ{α:Type}(o:Option α)(k:α->Prop)(_u:Tg k:=()):Prop:=match o with
 | some x=>k x
 | none=>False
def Jc(x:V)(k:Bool->Prop)(_u:Tg k:=()):Prop:=match x with
 | .bl b=>k b
 | _=>False
def eF(o:Option HO)(k:List V->Prop)(_u:Tg k:=()):Prop:=match o with
 | some 0e0=>k xs
 | _=>False
def lT(o:Option HO)(k:List V->Prop)(_u:Tg k:=()):Prop:=match o with
 | some 0e0=>k xs
 | some 1e0=>k xs
 | _=>False
def dC(o:Option HO)(k:List (Key×V)->Prop)(_u:Tg k:=()):Prop:=match o with
 | some (.dK xs)=>k xs
 | _=>False
def bE(x:V)(k:Addr->Prop)(_u:Tg k:=()):Prop:=match x with
 | .ref p=>k p
 | _=>False
def gC(x:V)(k:Int->Prop)(_u:Tg k:=()):Prop:=match x with
 | .int i=>k i
 | _=>False
def dD{α:Type}{o:Option α}{k:α->Prop}(h:iZ o k):∃ x,o=some x/\k x:=by
 cases o with
 | none=>exact h.elim
 | some x=>exact⟨x,rfl,h⟩
def Rv{x:V}{k:Bool->Prop}(h:Jc x k):∃ b,x=.bl b/\k b:=by
 cases x with
 | bl b=>exact⟨b,rfl,h⟩
 | _=>exact h.elim
def rW{x:V}{k:Bool->Prop}:(∃ b,x=.bl b/\k b)=Jc x k:=by
 refine propext ⟨fun⟨b,e,h⟩=>by subst e;exact h,Rv⟩
def aR{x:V}{k:Addr->Prop}(h:bE x k):∃ b,x=.ref b/\k b:=by
 cases x with
 | ref b=>exact⟨b,rfl,h⟩
 | _=>exact h.elim
def dZ{x:V}{k:Int->Prop}(h:gC x k):∃ b,x=.int b/\k b:=by
 cases x with
 | int b=>exact⟨b,rfl,h⟩
 | _=>exact h.elim
def eX(h:eF o k):∃ xs,o=some 0e0/\k xs:=by
 unfold eF at h;split at h
 ·exact⟨_,rfl,h⟩
 ·exact h.elim
def mV(h:lT o k):∃ xs,(o=some 0e0\/o=some 1e0)/\k xs:=by
 unfold lT at h;split at h
 ·exact⟨_,.inl rfl,h⟩
 ·exact⟨_,.inr rfl,h⟩
 ·exact h.elim
def dP{k:List (Key×V)->Prop}(h:dC o k):∃ xs,o=some (.dK xs)/\k xs:=by
 unfold dC at h;split at h
 ·exact⟨_,rfl,h⟩
 ·exact h.elim
def Vm:R2:=fun x y H Q=>match x with
 | .ref p=>lT (H p) fun xs=>gC y fun i=>iZ (gI xs i) fun v=>Q v H
 | .str z=>gC y fun i=>z.length<=sizeLine/\iZ (gI z.cps.toList i) fun c=>Q (.str ⟨#[c]⟩) H
 | _=>False
def MH(H:Hp)(Q:VK)(a:Addr)(oa ob:Option HO):Prop:=match oa,ob with
 | some 0e0,some (.lst ys)=>xs.length+ys.length<=sizeLine/\∀ p,H p=none->Q 2e0 (Wk H p (.lst (xs++ys)))
 | some 1e0,some (.tup ys)=>xs≠[]/\xs.length+ys.length<=sizeLine/\(ys≠[]->∀ p,H p=none->Q 2e0 (Wk H p (.tup (xs++ys))))/\(ys=[]->Q (.ref a) H)
 | _,_=>False
def Jr:R2:=fun x y H Q=>match x,y with
 | .int i,.int j=>Q (.int (i+j)) H
 | .str a,.str b=>a.length+b.length<=sizeLine/\Q (.str (a++b)) H
 | .ref a,.ref b=>MH H Q a (H a) (H b)
 | _,_=>False
def Jt(lo hi:Option Int)(H:Hp)(Q:VK)(o:Option HO):Prop:=match o with
 | some 0e0=>∀ p,H p=none->Q 2e0 (Wk H p (.lst 3e0))
 | some 1e0=>¬ (HT.g0 xs.length 0 lo=0/\HT.g0 xs.length xs.length hi=xs.length)/\∀ p,H p=none->Q 2e0 (Wk H p (.tup 3e0))
 | _=>False
def U8:V->Option Int->Option Int->Hp->VK->Prop:=fun x lo hi H Q=>match x with
 | .str z=>z.length<=sizeLine/\Q (.str (Txt.slice z lo hi)) H
 | .ref a=>Jt lo hi H Q (H a)
 | _=>False
def MK:List V->Hp->VK->Prop:=fun vs H Q=>match vs with
 | [.str z]=>z.length<=sizeLine/\Q (.int z.length) H
 | [.ref p]=>lT (H p) fun xs=>Q (.int xs.length) H
 | _=>False
def Sv:V->V->V->Hp->(Hp->Prop)->Prop:=fun o i v H Q=>bE o fun p=>gC i fun k=>eF (H p) fun xs=>iZ (zE xs.length k) fun j=>Q (Wk H p (.lst (xs.set j v)))
def jH:V->Option Key
 | .int i=>some (.inl i)
 | .str x=>some (.inr x)
 | .Wl=>some .no
 | _=>none
def Bn{y:V}{k:Key}(h:jH y=some k):y=kV k:=by
 cases y<;>simp only[jH,Ο,reduceCtorEq] at h<;>subst h<;>rfl
def OY(td ty:TE):TE:=fun σ H Q=>td σ H fun x H1=>bE x fun a=>dC (H1 a) fun _=>ty σ H1 fun y H2=>dC (H2 a) fun kvs=>iZ (jH y) fun k=>Q ((aW kvs k).getD .Wl) H2
def PY(td ty:TE):TE:=fun σ H Q=>td σ H fun x H1=>ty σ H1 fun y H2=>bE x fun a=>dC (H2 a) fun kvs=>iZ (jH y) fun k=>iZ (aW kvs k) fun v=>Q v H2
def P5(td ty tv:TE):TS:=fun D σ H=>tv σ H fun v H1=>td σ H1 fun x H2=>ty σ H2 fun y H3=>bE x fun a=>dC (H3 a) fun kvs=>iZ (jH y) fun k=>kvs.length < sizeLine/\D.nx σ (Wk H3 a (.dK (aO kvs k v)))
def Vk(neg:Bool):R2:=fun x y H Q=>bE y fun p=>lT (H p) fun xs=>dN x=true/\xs.all dN=true/\Q (.bl (if neg=true then !rG x xs else rG x xs)) H
def MJ:List V->Hp->VK->Prop:=fun vs H Q=>match vs with
 | [.int i]=>Q (.int i) H
 | [.bl k]=>Q (.int (if k=true then 1 else 0)) H
 | _=>False
def PZ:R2:=fun x y H Q=>match y with
 | .Wl=>Q (.bl (decide (x=.Wl))) H
 | _=>False
def O0:R2:=fun x y H Q=>match y with
 | .Wl=>Q (.bl (!decide (x=.Wl))) H
 | _=>False
def P2:List V->Hp->VK->Prop:=fun vs H Q=>match vs with
 | [.int i,.int j]=>Q (.int (if j > i then j else i)) H
 | _=>False
def P4:List V->Hp->VK->Prop:=fun vs H Q=>match vs with
 | [.int i,.int j]=>Q (.int (if j < i then j else i)) H
 | _=>False
def Sk(to te:TE):TE:=fun σ H Q=>to σ H fun x H1=>bE x fun a=>eF (H1 a) fun _=>te σ H1 fun y H2=>eF (H2 a) fun xs=>xs.length < sizeLine/\Q .Wl (Wk H2 a (.lst (xs++[y])))
def Ss(to:TE):TE:=fun σ H Q=>to σ H fun x H1=>bE x fun a=>eF (H1 a) fun xs=>iZ (xs[xs.length - 1]?) fun y=>Q y (Wk H1 a (.lst xs.dropLast))
end
section
mutual
example:=[(fun e=>.inl (.inl e)),.inl ‹_›,.inl e]
def Fx.imp{r r':R2}(h:Fx X r)(f:∀ x y H Q,r' x y H Q->r x y H Q):Fx X r':=fun value slice Wj s σ H x y v u Q I rx ry q=>h value slice Wj s σ H x y v u Q I rx ry (f _ _ _ _ q)
def iW.imp{f:Value->Value->Sem Value}{r r':R2}(h:iW X f r)(g:∀ x y H Q,r' x y H Q->r x y H Q):iW X f r':=fun Wj s σ H x y v u Q I rx ry q=>h Wj s σ H x y v u Q I rx ry (g _ _ _ _ q)
def aK:Fx X Vm:=Rc.imp fun x y H Q h=>by
 cases x with
 | ref p =>
  obtain⟨xs,e,h⟩:=mV h;obtain⟨i,rfl,h⟩:=dZ h;obtain⟨v,e2,h⟩:=dD h;rcases e with e|e
  ·exact .inl ⟨_,_,_,_,rfl,rfl,.inl 2e0,e2,h⟩
  ·exact .inr (.inl ⟨_,_,_,_,rfl,rfl,.inl 2e0,e2,h⟩)
 | str z =>
  obtain⟨i,rfl,h1,h⟩:=dZ h;obtain⟨v,e2,h⟩:=dD h;exact .inr (.inr ⟨_,_,_,rfl,rfl,h1,e2,h⟩)
 | _=>exact h.elim
def cI:iW X (binaryOp .Add) Jr:=(Rw.or (E4.or (Rx.or GH))).imp fun x y H Q h=>by
 unfold Jr MH at h;split at h
 ·exact .inl ⟨_,_,rfl,rfl,h⟩
 ·exact .inr (.inl ⟨_,_,rfl,rfl,h.1,h.2⟩)
 ·split at h
  ·exact .inr (.inr (.inl ⟨_,_,_,_,rfl,rfl,‹_›,‹_›,h.1,h.2⟩))
  ·exact .inr (.inr (.inr ⟨_,_,_,_,rfl,rfl,.inl 1e0,.inl 1e0,h.1,h.2.1,h.2.2.2,h.2.2.1⟩))
  ·exact h.elim
 ·exact h.elim
def VZ:Mw X U8:=fun Wj s σ H x v vl vu lo hi sl Q I rx hs pl pu h=>by
 refine(OD.or (RX.or RW)) Wj s σ H x v vl vu lo hi sl Q I rx hs pl pu ?_;unfold U8 Jt at h;split at h
 ·exact .inr (.inr ⟨_,rfl,h.1,h.2⟩)
 ·split at h
  ·exact .inl ⟨_,_,rfl,.inl 1e0,h⟩
  ·exact .inr (.inl ⟨_,_,rfl,.inl 1e0,h.1,h.2⟩)
  ·exact h.elim
 ·exact h.elim
def cN:gF X (.builtin "len") MK:=fun Wj s σ H xs us Q I r h=>by
 unfold MK at h;split at h
 ·exact uY Wj s σ H _ us Q I r ⟨_,_,rfl,⟨h.1,rfl⟩,h.2⟩
 ·obtain⟨ys,e,h⟩:=mV h;rcases e with e|e
  ·exact uY Wj s σ H _ us Q I r ⟨_,_,rfl,.inl ⟨_,.inl 2e0,rfl⟩,h⟩
  ·exact uY Wj s σ H _ us Q I r ⟨_,_,rfl,.inr ⟨_,.inl 2e0,rfl⟩,h⟩
 ·exact h.elim
def xX:PSet X Sv:=fun Wj s σ H o i v ov iv u Q I ro ri rv h=>by
 obtain⟨p,rfl,h⟩:=aR h;obtain⟨k,rfl,h⟩:=dZ h;obtain⟨xs,e,h⟩:=eX h;obtain⟨j,e2,h⟩:=dD h;exact LN Wj s σ H _ _ v ov iv u Q I ro ri rv ⟨_,_,_,_,rfl,rfl,e,e2,h⟩
def gT:iW X (compareOp .In) (Vk false):=IB.imp fun x y H Q h=>by
 obtain⟨p,rfl,h⟩:=aR h;obtain⟨xs,e,h1,h2,h⟩:=mV h;exact⟨_,_,rfl,e.imp 0e0 0e0,h1,h2,h⟩
def rY:iW X (compareOp .NotIn) (Vk true):=BB.imp fun x y H Q h=>by
 obtain⟨p,rfl,h⟩:=aR h;obtain⟨xs,e,h1,h2,h⟩:=mV h;exact⟨_,_,rfl,e.imp 0e0 0e0,h1,h2,h⟩
def fY:gF X (.type "int") MJ:=fun Wj s σ H xs us Q I r h=>by
 refine Hy Wj s σ H xs us Q I r ?_;unfold MJ at h;split at h
 ·exact .inl ⟨_,rfl,h⟩
 ·exact .inr ⟨_,rfl,by
   rename_i k
   cases k<;>exact h⟩
 ·exact h.elim
def mW:iW X (compareOp .Is) PZ:=RB.imp fun x y H Q h=>by
 cases y with
 | Wl=>exact⟨rfl,h⟩
 | _=>exact h.elim
def rX:iW X (compareOp .IsNot) O0:=Oe.imp fun x y H Q h=>by
 cases y with
 | Wl=>exact⟨rfl,h⟩
 | _=>exact h.elim
def fZ(hc:X.calm=true):gF X (.builtin "max") P2:=fun Wj s σ H xs us Q I r h=>by
 refine HA hc Wj s σ H xs us Q I r ?_;unfold P2 at h;split at h
 ·exact⟨_,_,rfl,h⟩
 ·exact h.elim
def nI(hc:X.calm=true):gF X (.builtin "min") P4:=fun Wj s σ H xs us Q I r h=>by
 refine HB hc Wj s σ H xs us Q I r ?_;unfold P4 at h;split at h
 ·exact⟨_,_,rfl,h⟩
 ·exact h.elim
end
variable{o e:Expr}{to te:TE}{apos Wu:Pos}
theorem c9(ho:PE X o to)(he:PE X e te)(Xj:attributeBase o "append" X.env (eval o X.env)=eval o X.env:=by rfl)(aaG:((backTo Wu (starEach [e] X.env)).all (fun x=>!x.1)&&(backToKw Wu (keywordEach [] X.env)).all (fun x=>x.1.isSome)&&decide ([e].length+([]:List Keyword).length+(if ([]:List Keyword).isEmpty then 0 else 1) < 30))=true:=by rfl)(Xl:(apos.endLine==Wu.line)=true:=by rfl)(hs:starEach [e] X.env=(false,eval e X.env)::starEach [] X.env:=by rfl)(X3:(backTo Wu (starEach [] X.env)).any (·.1)=false:=by rfl) : PE X (.Call (.Attribute o "append" apos) [e] [] Wu) (Sk to te):=by
 intro Wj s σ H Q I h;refine wpAny_Call_method_late Xj aaG Xl rfl (thn (ho Wj s σ H _ I h) fun v s1 ⟨x,H1,I1,r1,q1⟩=>?_);obtain⟨a,rfl,q1⟩:=aR q1;obtain⟨xs,e1,q1⟩:=eX q1;obtain⟨h1,h2⟩:=Ft (T:="list") I1 r1 (.inl ⟨rfl,xs,.inl (.inl e1)⟩);refine⟨"list","list.append",PySem.F.plainAttrs_list,PySem.F.slot_list_append,PySem.F.type_list_append,h1,h2,?_⟩;have q2:nD te yI σ H1 (fun vs H2=>vs.length=1/\eF (H2 a) fun xs=>xs.length < sizeLine/\Q .Wl (Wk H2 a (.lst (xs++vs)))):=by
  simpa only[nD,yI,Η,ϑ,Γ1,true_and] using q1
 have hA:=GJ he bM hs Wu Wj s1 σ H1 _ I1 q2;rw[hs] at hA ⊢;refine Β0 (by show(false||(backTo Wu (starEach [] X.env)).any (·.1))=false;rw[X3]<;>rfl) (Δ6 ?_);refine thn hA fun us s2 ⟨vs,H2,I2,r2,l2,q3⟩=>?_;obtain⟨xs,e3,q4,q5⟩:=eX q3
 match vs,l2,r2,q5 with
 | [y],_,r2,q5=>exact Il Wj s2 σ H2 _ _ v us Q I2 r1 r2 ⟨_,_,_,rfl,rfl,e3,q4,q5⟩
def uE(ho:PE X o to)(Xj:attributeBase o "pop" X.env (eval o X.env)=eval o X.env:=by rfl)(Xl:(apos.endLine==Wu.line)=true:=by rfl):PE X (.Call (.Attribute o "pop" apos) [] [] Wu) (Ss to):=by
 intro Wj s σ H Q I h;refine wpAny_Call_method0_late Xj Xl (thn (ho Wj s σ H _ I h) fun v s1 ⟨x,H1,I1,r1,q1⟩=>?_);obtain⟨a,rfl,q1⟩:=aR q1;obtain⟨xs,e1,q1⟩:=eX q1;obtain⟨y,e2,q1⟩:=dD q1;obtain⟨h1,h2⟩:=Ft (T:="list") I1 r1 (.inl ⟨rfl,xs,.inl (.inl e1)⟩);exact⟨"list","list.pop",PySem.F.plainAttrs_list,PySem.F.slot_list_pop,PySem.F.type_list_pop,h1,h2,Β0 rfl (PySem.evalArgs_none (Rp Wj s1 σ H1 _ [] v [] Q I1 r1 .nil ⟨_,_,_,rfl,rfl,e1,e2,q1⟩))⟩
end
section
variable{o i e value:Expr}{pos' apos Wu:Pos}{td ty tv:TE}
def uD(hu:X.A.units+1 < cLine)(ho:PE X o td)(he:PE X e ty)(m:M1 X o "get" apos e Wu):PE X (.Call (.Attribute o "get" apos) [e] [] Wu) (OY td ty):=by
 intro Wj s σ H Q I h;refine wpAny_Call_method m.base m.X0 m.line Δ5 Γ6 PySem.F.type_dict_get (thn (ho Wj s σ H _ I h) fun u s1 ⟨x,H1,I1,rx,q1⟩=>?_);obtain⟨a,rfl,q1⟩:=aR q1;obtain⟨kvs,e1,q1⟩:=dP q1;obtain rfl:u=Value.ref a:=rx;obtain⟨t1,t2,_⟩:=wG I1 (.inl ⟨_,.inl e1⟩);refine⟨t1,t2,?_⟩;rw[m.trees];refine Β0 rfl (Δ6 (Δ0 (thn (he Wj s1 σ H1 _ I1 q1) fun iv s2 ⟨y,H2,I2,ry,q2⟩=>Calls.spliced_nil ?_)));obtain⟨kvs,e1,q2⟩:=dP q2;obtain⟨k,e2,q2⟩:=dD q2;have g:DGet H2 a y (aW kvs k):=by rw[Bn e2];exact DGet.k e1
 exact Qa hu I2 g ry fun w' s3 I3 Xu=>⟨_,H2,I3,Xu,q2⟩
def Ls(hu:X.A.units+1 < cLine)(ho:PE X o td)(hi:PE X i ty)(hs:Mv i):PE X (.Subscript o i pos) (PY td ty):=by
 intro Wj s σ H Q I h;refine Hh PySem.F.slot_dict_getitem.lookup hs (thn (ho Wj s σ H _ I h) fun u s1 ⟨x,H1,I1,rx,q1⟩=>thn (hi Wj s1 σ H1 _ I1 q1) fun iv s2 ⟨y,H2,I2,ry,q2⟩=>?_);obtain⟨a,rfl,q2⟩:=aR q2;obtain⟨kvs,e1,q2⟩:=dP q2;obtain⟨k,e2,q2⟩:=dD q2;obtain⟨v,e3,q2⟩:=dD q2;obtain rfl:u=Value.ref a:=rx;have g:DGet H2 a y (some v):=by rw[Bn e2,<- e3];exact DGet.k e1
 exact⟨Cu I2 g,HJ hu I2 g ry fun w' s3 I3 Xu=>⟨v,H2,I3,Xu,q2⟩⟩
def Oo(hu:X.A.units+1 < cLine)(ho:PE X o td)(hi:PE X i ty)(hv:PE X value tv)(hs:swapsWith value (some (.Subscript o i pos')) pos.line X.env=pure false:=by rfl) : PS X (.Assign [.Subscript o i pos'] value pos) (P5 td ty tv):=by
 intro Wj s σ H D I h;refine wpAny_Assign_Subscript (thn (hv Wj s σ H _ I h) fun r s1 ⟨v,H1,I1,rv,q1⟩=>thn (ho Wj s1 σ H1 _ I1 q1) fun u s2 ⟨x,H2,I2,rx,q2⟩=>thn (hi Wj s2 σ H2 _ I2 q2) fun iv s3 ⟨y,H3,I3,ry,q3⟩=>?_) hs;obtain⟨a,rfl,q3⟩:=aR q3;obtain⟨kvs,e1,q3⟩:=dP q3;obtain⟨k,e2,q3⟩:=dD q3;obtain rfl:u=Value.ref a:=rx;have g:DPut H3 a y v (Wk H3 a (.dK (aO kvs k v))):=by rw[Bn e2];exact DPut.k e1 q3.1
 exact HK hu I3 g ry rv fun s4 I4=>⟨σ,_,I4,q3.2⟩
end
section
variable{Q:VK}{D:Ends}{t u:TS}{te ta tb tc to ti:TE}{tl th:TO}{g:TG}{gs:TGs}{tt tt':TT}{as:TA}{i j:Int}{v w:V}{b:Bool}{p:Addr}{r r':R2}{B:Bool->Hp->Prop}
mutual
example:=[.ref p,.int i,some (.lst vs),.str x,.bl false]
def Tr:yJ t u D σ H=t {D with nx:=u D} σ H:=rfl
def SE:IT te g D σ H=te σ H fun x H1=>g x σ H1 D.nx:=rfl
def QQ:jJ n v σ H N=N (σ.set n (some v)) H:=rfl
def Tq:R9 te D σ H=te σ H D.rt:=rfl
def QX:PD D σ H=D.rt .Wl H:=rfl
def SV:DT tt t u D σ H=tt σ H fun b H1=>if b=true then t D σ H1 else u D σ H1:=rfl
def Ka:AD te σ H B=te σ H fun x H'=>Jc x fun k=>B k H':=by simp only[AD,rW]
def VI:tB te σ H B=te σ H fun x H'=>Jc x fun k=>B k H':=by simp only[tB,rW]
def VB:V6 tt ta tb σ H Q=tt σ H fun c H1=>if c=true then ta σ H1 Q else tb σ H1 Q:=rfl
def VF:OK r ta tb σ H Q=ta σ H fun x H1=>tb σ H1 fun y H2=>r x y H2 Q:=rfl
def VJ{q:V->Hp->VK->Prop}:Wa q ta σ H Q=ta σ H fun x H1=>q x H1 Q:=rfl
def Wd:tC v σ H Q=Q v H:=rfl
def Qn{A:List V->Hp->Prop}:nD te as σ H A=te σ H fun x H1=>as σ H1 fun xs H2=>A (x::xs) H2:=rfl
def S8{A:List V->Hp->Prop}:yI σ H A=A [] H:=rfl
def JW{sp:Sp}{E:XK}:Hj sp [] E as σ H Q=as σ H fun vs H1=>sp vs H1 Q E:=by simp only[Hj,ϝ]
def VA{q:List V->Hp->VK->Prop}:V0 q as σ H Q=as σ H fun vs H1=>q vs H1 Q:=rfl
def S3:UD as σ H Q=as σ H fun xs H1=>xs.length<=sizeLine/\∀ p,H1 p=none->Q 0e0 (Wk H1 p (.lst xs)):=rfl
def Tv:UJ as σ H Q=as σ H fun xs H1=>xs.length<=sizeLine/\∀ p,H1 p=none->Q 0e0 (Wk H1 p (.tup xs)):=rfl
def Qu:Mc σ H Q = ∀ p,H p=none->Q 0e0 (Wk H p (.dK [])):=rfl
def Qv:Md te D σ H=te σ H fun _ H1=>D.nx σ H1:=rfl
def QR:Hl D σ H=D.nx σ H:=rfl
def Qo:Py D σ H=D.ct σ H:=rfl
def Qj:Mb ta tb σ H Q=ta σ H fun x H1=>Jc x fun c=>if c=true then tb σ H1 Q else Q 4e0 H1:=by simp only[Mb,rW]
def Ti:R8 ta tb σ H Q=ta σ H fun x H1=>Jc x fun c=>if c=true then Q (.bl true) H1 else tb σ H1 Q:=by simp only[R8,rW]
def QT:Me ta σ H Q=ta σ H fun x H1=>Jc x fun c=>Q (.bl (!c)) H1:=by simp only[Me,rW]
def SA:UB tt tt' σ H B=tt σ H fun c H1=>if c=true then tt' σ H1 B else B false H1:=rfl
def VG:V8 tt tt' σ H B=tt σ H fun c H1=>if c=true then B true H1 else tt' σ H1 B:=rfl
def S9:UE tt σ H B=tt σ H fun c H1=>B (!c) H1:=rfl
def MY:Fk r r' ta tb tc σ H Q=ta σ H fun x H1=>tb σ H1 fun y H2=>r x y H2 fun z H3=>Jc z fun k=>if k=true then tc σ H3 fun w' H4=>r' y w' H4 Q else Q 4e0 H3:=by simp only[Fk,rW]
def VH{q:V->Option Int->Option Int->Hp->VK->Prop}:V9 q te tl th σ H Q=te σ H fun x H1=>tl σ H1 fun l H2=>th σ H2 fun u H3=>q x l u H3 Q:=rfl
def Lm{k:Int->Prop}:(∃ i,v=.int i/\k i)=gC v k:=propext ⟨fun⟨i,e,h⟩=>by subst e;exact h,dZ⟩
def QU:Mf te σ H O=te σ H fun x H1=>gC x fun i=>O (some i) H1:=by simp only[Mf,Lm]
def J4:Hm σ H O=O none H:=rfl
def QD{s:TSet}:TK to ti s v σ H N=to σ H fun o H1=>ti σ H1 fun i H2=>s o i v H2 fun H3=>N σ H3:=rfl
def QC:NI [] σ H N=N σ H:=by simp[NI]
def Nn:Gn g gs (v::vs) σ H N=g v σ H fun σ' H'=>gs vs σ' H' N:=propext ⟨fun⟨_,_,e,h⟩=>by cases e;exact h,fun h=>⟨_,_,rfl,h⟩⟩
def QA:OY ta tb σ H Q=ta σ H fun x H1=>bE x fun a=>dC (H1 a) fun _=>tb σ H1 fun y H2=>dC (H2 a) fun kvs=>iZ (jH y) fun k=>Q ((aW kvs k).getD .Wl) H2:=rfl
def SU:PY ta tb σ H Q=ta σ H fun x H1=>tb σ H1 fun y H2=>bE x fun a=>dC (H2 a) fun kvs=>iZ (jH y) fun k=>iZ (aW kvs k) fun v=>Q v H2:=rfl
def Tn:P5 ta tb tc D σ H=tc σ H fun v H1=>ta σ H1 fun x H2=>tb σ H2 fun y H3=>bE x fun a=>dC (H3 a) fun kvs=>iZ (jH y) fun k=>kvs.length < sizeLine/\D.nx σ (Wk H3 a (.dK (aO kvs k v))):=rfl
def SD:Sk to te σ H Q=to σ H fun x H1=>bE x fun a=>eF (H1 a) fun _=>te σ H1 fun y H2=>eF (H2 a) fun xs=>xs.length < sizeLine/\Q .Wl (Wk H2 a (.lst (xs++[y]))):=rfl
def Tj:Ss to σ H Q=to σ H fun x H1=>bE x fun a=>eF (H1 a) fun xs=>iZ (xs[xs.length - 1]?) fun y=>Q y (Wk H1 a (.lst xs.dropLast)):=rfl
def Te{α:Type}{z:α}{k:α->Prop}{u:Tg k}:@iZ _ (some z) k u=k z:=rfl
def Td{k:Bool->Prop}{u:Tg k}:@Jc (.bl b) k u=k b:=rfl
def Nw{k:Addr->Prop}{u:Tg k}:@bE 0e0 k u=k p:=rfl
def Nu{k:Int->Prop}{u:Tg k}:@gC 1e0 k u=k i:=rfl
def Nv{u:Tg k}:@eF 2e0 k u=k vs:=rfl
def J5{u:Tg k}:@lT 2e0 k u=k vs:=rfl
def J6{u:Tg k}:@lT (some (.tup vs)) k u=k vs:=rfl
def Nt{k:List (Key×V)->Prop}{u:Tg k}:@dC (some (.dK kvs)) k u=k kvs:=rfl
def SX:Vm 0e0 w H Q=lT (H p) fun xs=>gC w fun i=>iZ (gI xs i) fun v=>Q v H:=rfl
def SY:Vm 3e0 w H Q=gC w fun i=>x.length<=sizeLine/\iZ (gI x.cps.toList i) fun c=>Q (.str ⟨#[c]⟩) H:=rfl
def Qg:Jr 1e0 (.int j) H Q=Q (.int (i+j)) H:=rfl
def Qi:Jr 3e0 (.str y) H Q=(x.length+y.length<=sizeLine/\Q (.str (x++y)) H):=rfl
def Qh:Jr (.ref a) 0e0 H Q=MH H Q a (H a) (H p):=rfl
def Qm{us:List V}:MH H Q a 2e0 (some (.lst us))=(vs.length+us.length<=sizeLine/\∀ p,H p=none->Q 0e0 (Wk H p (.lst (vs++us)))):=rfl
def Tu{lo hi:Option Int}:U8 3e0 lo hi H Q=(x.length<=sizeLine/\Q (.str (Txt.slice x lo hi)) H):=rfl
def Tt{lo hi:Option Int}:U8 (.ref a) lo hi H Q=Jt lo hi H Q (H a):=rfl
def Qp{lo hi:Option Int}:Jt lo hi H Q 2e0 = ∀ p,H p=none->Q 0e0 (Wk H p (.lst (qY vs lo hi))):=rfl
def QO:MK [.str x] H Q=(x.length<=sizeLine/\Q (.int x.length) H):=rfl
def QN:MK [.ref p] H Q=lT (H p) fun xs=>Q (.int xs.length) H:=rfl
def Ts{N:Hp->Prop}:Sv 0e0 1e0 v H N=eF (H p) fun xs=>iZ (zE xs.length i) fun j=>N (Wk H p (.lst (xs.set j v))):=rfl
def VC{neg:Bool}:Vk neg v 0e0 H Q=lT (H p) fun xs=>dN v=true/\xs.all dN=true/\Q (.bl (if neg=true then !rG v xs else rG v xs)) H:=rfl
def QK:jH 1e0=some (.inl i):=rfl
def QM:jH 3e0=some (.inr x):=rfl
def QL:jH .Wl=some .no:=rfl
theorem Ge{α:Type}{xs:List α}{k:Nat}:gI xs (OfNat.ofNat k)=xs[k]?:=by
 show gI xs ((k:Nat):Int)=xs[k]?;cases e:xs[k]? with
 | some z=>exact eL e
 | none =>
  have:=Ε7.mp e;unfold gI zE;rw[if_pos (by omega),if_neg (by omega)];rfl
def SF{α:Type}{xs:List α}:gI xs 0=xs[0]?:=Ge (k:=0)
def SG{α:Type}{xs:List α}:gI xs 1=xs[1]?:=Ge (k:=1)
def SH{α:Type}{xs:List α}:gI xs 2=xs[2]?:=Ge (k:=2)
def SI{α:Type}{xs:List α}:gI xs 3=xs[3]?:=Ge (k:=3)
theorem MZ:CMul 3 j=True:=eq_true (.inl ⟨by decide,by decide⟩)
theorem Ni:CPow 10 9=True:=eq_true ⟨by decide,by decide,by decide⟩
theorem JY:CPow 10 12=True:=eq_true ⟨by decide,by decide,by decide⟩
theorem JZ:CPow 10 18=True:=eq_true ⟨by decide,by decide,by decide⟩
theorem QJ{m:Nat}:zE (m+1) 0=some 0:=by simp[zE]<;>omega
def QG:MJ [.int i] H Q=Q 1e0 H:=rfl
def QF:MJ [.bl b] H Q=Q (.int (if b=true then 1 else 0)) H:=rfl
theorem VD:PZ v .Wl H Q=Q (.bl (decide (v=.Wl))) H:=by cases v<;>rfl
theorem Np:O0 v .Wl H Q=Q (.bl (!decide (v=.Wl))) H:=by cases v<;>rfl
def S4:P2 [.int i,.int j] H Q=Q (.int (if j > i then j else i)) H:=rfl
def S5:P4 [.int i,.int j] H Q=Q (.int (if j < i then j else i)) H:=rfl
theorem SK{c:Prop}[Decidable c]{P R:Prop}:(if (decide c)=true then P else R)=if c then P else R:=by
 by_cases h:c<;>simp[h]
theorem SM{c:Prop}[Decidable c]{P R:Prop}:(if (!decide c)=true then P else R)=if c then R else P:=by
 by_cases h:c<;>simp[h]
def QI{P R:Prop}:(if true=true then P else R)=P:=rfl
def QH{P R:Prop}:(if false=true then P else R)=R:=rfl
end
end
mutual
example:=[]
def VL{a b:Prop}[Decidable a][Decidable b]{P R:Prop}:(if a then P else if b then P else R)=if a\/b then P else R:=by
 by_cases ha:a<;>by_cases hb:b<;>simp[ha,hb]
def Kp.Wx{r:Addr}{H':Hp}{o:HO}(x:Kp [r] H H')(e:H a=some o)(n:a≠r):H' a=some o:=x a o e (by simpa using n)
theorem iK{i:Int}{k:V->Prop}(h0:0<=i)(h1:i < (xs.length:Int))(q:∀ v∈xs,k v):iZ (gI xs i) k:=by
 have hk:i.toNat < xs.length:=by omega
 have ek:i=((i.toNat:Nat):Int):=by omega
 have e:gI xs ((i.toNat:Nat):Int)=some xs[i.toNat]:=eL (ϕ hk);rw[<- ek] at e;rw[e];exact q _ (List.getElem_mem hk)
def on1(vs:List V)(k:V->Prop)(_u:Tg k:=()):Prop:=match vs with
 | [v]=>k v
 | _=>False
def lp(J:It)(g:TG)(tb:TS)(D:Ends)(σ:St)(H:Hp):Prop:=∃ W:Nat->Nat->St->Hp->Prop,(∃ m,W 0 m σ H)/\∀ i m σ H,W i m σ H ->
 (J.stop i H/\D.nx σ H)\/(J.go i H/\∃ N:St->Hp->Prop,(∀ σ' H',N σ' H'->∃ m',m' < m/\W (i+1) m' σ' H')/\∀ x H',J.Yj i H x H'->g x σ H' fun σ2 H2=>tb {D with nx:=N,ct:=N,bk:=D.nx} σ2 H2)
end
section
variable{D:Ends}{g:TG}{tb:TS}{as:TA}{te:TE}{v w:V}
mutual
example:=[]
def Ru{k:V->Prop}:(∃ z,vs=[z]/\k z)=on1 vs k:=by
 refine propext ⟨fun⟨z,e,h⟩=>by subst e;exact h,fun h=>?_⟩;unfold on1 at h;split at h
 ·exact⟨_,rfl,h⟩
 ·exact h.elim
def Tc{k:V->Prop}{u:Tg k}:@on1 [v] k u=k v:=rfl
def Nm:Fl (CF as) g tb D σ H=as σ H fun vs H1=>on1 vs fun v=>gC v fun j=>(-(2 ^ 62)<=j/\j < 2 ^ 62)/\lp (Yy 0 j.toNat) g tb D σ H1:=by
 unfold Fl CF
 congr 1
 funext vs H1;refine propext ⟨fun⟨j,e,h1,h2,h⟩=>by subst e;exact⟨⟨h1,h2⟩,h⟩,fun h=>?_⟩;unfold on1 at h;split at h
 ·obtain⟨j,rfl,⟨h1,h2⟩,h⟩:=dZ h;exact⟨j,rfl,h1,h2,h⟩
 ·exact h.elim
def Qx:Fl (wC K te) g tb D σ H=te σ H fun x H1=>bE x fun a=>(∃ xs,eU K H1 a xs)/\lp (Yl K a) g tb D σ H1:=by
 unfold Fl wC
 congr 1
 funext x H1;exact propext ⟨fun⟨a,e,h1,h⟩=>by subst e;exact⟨h1,h⟩,fun h=>by obtain⟨a,rfl,h1,h⟩:=aR h;exact⟨a,rfl,h1,h⟩⟩
def Qy:Fl (Ku K te) g tb D σ H=te σ H fun x H1=>bE x fun a=>(∃ xs,g8 K H1 a xs)/\lp (Itt K a) g tb D σ H1:=by
 unfold Fl Ku
 congr 1
 funext x H1;exact propext ⟨fun⟨a,e,h1,h⟩=>by subst e;exact⟨h1,h⟩,fun h=>by obtain⟨a,rfl,h1,h⟩:=aR h;exact⟨a,rfl,h1,h⟩⟩
end
end
noncomputable def lc(J:It)(fr:List Nat)(tc:TT)(te:TE)(σ:St)(H:Hp)(Q:VK):Prop:=∃ W:Nat->Nat->List V->Hp->Prop,(∃ m,W 0 m [] H)/\∀ i m xs H,W i m xs H->xs.length<=1000000 /\
  ((J.stop i H/\∀ p,H p=none->Q (.ref p) (Wk H p (.lst xs))) \/
   (J.go i H/\∀ y H',J.Yj i H y H'->tc (some y::aV fr σ) H' fun b H2=>if b=true then te (some y::aV fr σ) H2 (fun z H3=>∃ m',m' < m/\W (i+1) m' (xs++[z]) H3) else ∃ m',m' < m/\W (i+1) m' xs H2))
section
variable{tc:TT}{te tl:TE}{H1:Hp}{Q:VK}{as:TA}
mutual
example:=[(fun z H3=>Pv (i+1) (xs++[z]) H3),some (.int (lo+i))::aV fr σ,some y::aV fr σ,Wk H p (.lst xs)]
def Ng:kS (CF as) fr tc te σ H Q=as σ H fun vs H1=>on1 vs fun v=>gC v fun j=>(-(2 ^ 62)<=j/\j < 2 ^ 62)/\lc (Yy 0 j.toNat) fr tc te σ H1 Q:=by
 unfold kS CF
 congr 1
 funext vs H1;refine propext ⟨fun⟨j,e,h1,h2,h⟩=>by subst e;exact⟨⟨h1,h2⟩,h⟩,fun h=>?_⟩;unfold on1 at h;split at h
 ·obtain⟨j,rfl,⟨h1,h2⟩,h⟩:=dZ h;exact⟨j,rfl,h1,h2,h⟩
 ·exact h.elim
def Nf:kS (wC K tl) fr tc te σ H Q=tl σ H fun x H1=>bE x fun a=>(∃ xs,eU K H1 a xs)/\lc (Yl K a) fr tc te σ H1 Q:=by
 unfold kS wC
 congr 1
 funext x H1;exact propext ⟨fun⟨a,e,h1,h⟩=>by subst e;exact⟨h1,h⟩,fun h=>by obtain⟨a,rfl,h1,h⟩:=aR h;exact⟨a,rfl,h1,h⟩⟩
def Dg(x:V)(k:Str->Prop)(_u:Tg k:=()):Prop:=match x with
 | .str p=>k p
 | _=>False
def Nx{k:Str->Prop}{u:Tg k}:@Dg (.str x) k u=k x:=rfl
def Q7{B:Bool->Hp->Prop}:PH σ H B=B true H:=rfl
def SN:aV [] σ=[]:=rfl
def Ce(hi:i < n):(∃ m',m' < n - i/\cW n Pv (i+1) m' xs H)=Pv (i+1) xs H :=
 propext ⟨fun⟨_,_,_,_,h⟩=>h,fun h=>cW.next hi h⟩
def KR{lo:Int}(Pv:Nat->List V->Hp->Prop)(h0:Pv 0 [] H)(hz:∀ i xs H,Pv i xs H->xs.length<=1000000)(hs:∀ i xs H,i < n->Pv i xs H->tc 1e0 H fun b H2=>if b=true then te 1e0 H2 0e0 else Pv (i+1) xs H2)(hd:∀ xs H,Pv n xs H->∀ p,H p=none->Q (.ref p) 3e0):lc (Yy lo n) fr tc te σ H Q :=
 Eo Pv h0 hz (fun i xs H hi h=>by simp only[Ce hi];exact hs i xs H hi h) hd
def tZ(Pv:Nat->List V->Hp->Prop)(h0:Pv 0 [] H)(hz:∀ i xs H,Pv i xs H->xs.length<=1000000)(hl:∀ i xs H,Pv i xs H->eU K H a ys)(hs:∀ i y xs H,i < ys.length->ys[i]?=some y->Pv i xs H->tc 2e0 H fun b H2=>if b=true then te 2e0 H2 0e0 else Pv (i+1) xs H2)(hd:∀ xs H,Pv ys.length xs H->∀ p,H p=none->Q (.ref p) 3e0):lc (Yl K a) fr tc te σ H Q :=
 HE Pv h0 hz hl (fun i y xs H hi e h=>by simp only[Ce hi];exact hs i y xs H hi e h) hd
end
end
noncomputable def MP(kb:List (Key×V)):List (Key×V)->Bool
 | []=>true
 | (k,v)::r=>match aW kb k with
  | none=>false
  | some y=>j7 v y&&MP kb r
mutual
inductive AG(K:q0B)(H:Hp):Nat->V->V->Bool->Prop
 | flat {n:Nat} {x y:V}:dN x=true->dN y=true->AG K H n x y (j7 x y)
 | same {n:Nat} {a:Addr}:AG K H n (.ref a) (.ref a) true
 | refs {n:Nat} {a b:Addr} {r:Bool}:a≠b->oR K H n a b r->AG K H n (.ref a) (.ref b) r
inductive oR(K:q0B)(H:Hp):Nat->Addr->Addr->Bool->Prop
 | list {n:Nat} {a b:Addr} {xs ys:List V} {e:Nat->Bool}:eU K H a xs->eU K H b ys->xs.length=ys.length->(∀ j x y,xs[j]?=some x->ys[j]?=some y->AG K H n x y (e j))->oR K H (n+1) a b ((List.range xs.length).all e)
 | XD {n:Nat} {a b:Addr} {xs ys:List V}:eU K H a xs->eU K H b ys->xs.length≠ys.length->oR K H (n+1) a b false
 | tup {n:Nat} {a b:Addr} {xs ys:List V} {e:Nat->Bool}:g8 K H a xs->g8 K H b ys->(∀ j x y,xs[j]?=some x->ys[j]?=some y->AG K H n x y (e j))->oR K H (n+1) a b ((List.range (min xs.length ys.length)).all e&&xs.length==ys.length)
end
section
mutual
example:=[.ref b,.ref a,(by omega),(by show A.units+1+_ < _;omega),he j x y ex ey]
theorem jK{Wn:List Value}(r:Wq xs Wn)(h:j < Wn.toArray.size):∃ x,xs[j]?=some x/\bN x Wn.toArray[j]:=by
 have hj:j < xs.length:=by have:=r.length;simp only[Ε] at h;omega
 have e:=ϕ hj;obtain⟨u,g,ru⟩:=r.get e;refine⟨_,e,?_⟩;obtain⟨_,q⟩:=Λ.mp g;have:Wn.toArray[j]=u:=by simpa using q
 rw[this];exact ru
theorem Gh:∀(n:Nat),(∀ {a b:Addr} {r:Bool},oR X.K H n a b r->∀ {A:Around},Wm X Wj σ H s->A.units+n < cLine->SeqAt.RcAt A s 1e0 0e0 r)/\(∀ {x y:V} {b:Bool},AG X.K H n x y b->∀ {A:Around} {v u:Value},Wm X Wj σ H s->bN x v->bN y u->A.units+n < cLine->SeqAt.EqAt A s v u b):=by
 intro n;have up:∀ {n:Nat},(∀ {a b:Addr} {r:Bool},oR X.K H n a b r->∀ {A:Around},Wm X Wj σ H s->A.units+n < cLine->SeqAt.RcAt A s 1e0 0e0 r)->(∀ {x y:V} {b:Bool},AG X.K H n x y b->∀ {A:Around} {v u:Value},Wm X Wj σ H s->bN x v->bN y u->A.units+n < cLine->SeqAt.EqAt A s v u b):=by
  intro n rc x y b h A v u I rx ry hu;cases h with
  | flat fx fy=>exact Kd rx ry fx fy
  | same =>
   cases rx;cases ry;exact SeqAt.EqAt.same _
  | refs ne h =>
   cases rx;cases ry;exact SeqAt.EqAt.of_refs ne (rc h I hu)
 suffices g:∀ {a b:Addr} {r:Bool},oR X.K H n a b r->∀ {A:Around},Wm X Wj σ H s->A.units+n < cLine->SeqAt.RcAt A s 1e0 0e0 r from ⟨g,up g⟩
 induction n with
 | zero=>intro a b r h;cases h
 | succ n ih =>
  intro a b r h A I hu;have ih:=@up n @ih;cases h with
  | list hx hy hl he =>
   obtain⟨Wn,r1,p1,z1⟩:=I.list hx;obtain⟨ZY,r2,p2,z2⟩:=I.list hy;have l1:=r1.length;have l2:=r2.length;have:=SeqAt.RcAt.lists p1.isList p2.isList (by simp only[Ε];omega) 2e0 (A:=A) (fun j h1 h2=>by
    obtain⟨x,ex,rx⟩:=jK r1 h1;obtain⟨y,ey,ry⟩:=jK r2 h2;exact ih 4e0 I rx ry 3e0)
   rw[Ε,<- l1] at this;exact this
  | XD hx hy hl =>
   obtain⟨Wn,r1,p1,z1⟩:=I.list hx;obtain⟨ZY,r2,p2,z2⟩:=I.list hy;have l1:=r1.length;have l2:=r2.length;exact SeqAt.RcAt.lists_lengths p1.isList p2.isList (by simp only[Ε,bne_iff_ne,ne_eq];omega) 2e0
  | tup hx hy he =>
   obtain⟨Wn,r1,p1,z1⟩:=I.tuple hx;obtain⟨ZY,r2,p2,z2⟩:=I.tuple hy;have l1:=r1.length;have l2:=r2.length;have:=SeqAt.RcAt.tuples (show s.heap.IsTuple _ Wn.toArray from p1) (show s.heap.IsTuple _ ZY.toArray from p2) 2e0 (A:=A) (fun j h1 h2=>by
    obtain⟨x,ex,rx⟩:=jK r1 h1;obtain⟨y,ey,ry⟩:=jK r2 h2;exact ih 4e0 I rx ry 3e0)
   rw[Ε,Ε,<- l1,<- l2] at this;exact this
def EB{x y:V}{b:Bool}(h:AG X.K H n x y b){u:Value}(I:Wm X Wj σ H s)(rx:bN x v)(ry:bN y u)(hu:A.units+n < cLine):SeqAt.EqAt A s v u b:=(Gh n).2 h I rx ry hu
def LG{b:Addr}(h:oR X.K H n a b r)(I:Wm X Wj σ H s)(hu:A.units+n < cLine):SeqAt.RcAt A s 1e0 0e0 r:=(Gh n).1 h I hu
end
end
inductive DPairs(H:Hp):List V->List V->Bool->Prop
  | nil:DPairs H [] [] true
  | cons {a b:Addr} {ka kb:List (Key×V)} {xs ys:List V} {r:Bool}:a≠b->H a=some (.dK ka)->H b=some (.dK kb)->(ka.all fun kv=>dN kv.2)=true->(kb.all fun kv=>dN kv.2)=true->DPairs H xs ys r ->
      DPairs H (.ref a::xs) (.ref b::ys) ((ka.length==kb.length&&MP kb ka)&&r)
def DPairs.at(h:DPairs H xs ys r):∃ f:Nat->Bool,(List.range xs.length).all f=r/\∀ j x y,xs[j]?=some x->ys[j]?=some y->∃ a b ka kb,x=.ref a/\y=.ref b/\a≠b/\H a=some (.dK ka)/\H b=some (.dK kb)/\(ka.all fun kv=>dN kv.2)=true/\(kb.all fun kv=>dN kv.2)=true/\f j=(ka.length==kb.length&&MP kb ka):=by
 induction h with
 | nil=>exact⟨fun _=>true,rfl,fun j x y e=>by simp at e⟩
 | @cons a b ka kb xs ys r ne ea eb fa fb _ ih =>
  obtain⟨f,hf,hp⟩:=ih;refine⟨fun j=>match j with|0=>(ka.length==kb.length&&MP kb ka)|j+1=>f j,?_,?_⟩
  ·rw[Η,List.range_succ_eq_map,List.all_cons,List.all_map,<- hf];rfl
  ·intro j x y e1 e2;cases j with
   | zero =>
    simp only[Ξ,Ο] at e1 e2;exact⟨a,b,ka,kb,e1.symm,e2.symm,ne,ea,eb,fa,fb,rfl⟩
   | succ j=>exact hp j x y (by simpa using e1) (by simpa using e2)
section
variable{o e:Expr}{to te:TE}{apos Wu:Pos}
end
section
variable{Q:VK}{b p:Addr}{x:V}
mutual
example:=[]
def QE{t:TGs}:NJ K n t (.ref a) σ H N = ∃ xs,g8 K H a xs/\xs.length=n/\t xs σ H N:=by simp[NJ]
def Vx:((0:Nat):Int)=0:=rfl
def Vy:((1:Nat):Int)=1:=rfl
def Vz:((2:Nat):Int)=2:=rfl
end
end
noncomputable def xB(o:Option HO)(k:List V->Prop)(_u:Tg k:=()):Prop:=match o with
 | some (.tup xs)=>k xs
 | _=>False
def Dh(h:xB o k):∃ xs,o=some (.tup xs)/\k xs:=by
 unfold xB at h;split at h
 ·exact⟨_,rfl,h⟩
 ·exact h.elim
noncomputable def JB:R2:=fun x y H Q=>bE x fun a=>bE y fun b=>xB (H a) fun xs=>xB (H b) fun ys=>xs.length+ys.length<=sizeLine/\(if xs=[] then Q y H else if ys=[] then Q x H else ∀ p,H p=none->Q (.ref p) (Wk H p (.tup (xs++ys))))
section
def Lq:iW X (binaryOp .Add) (fun x y H Q=>∃ a b ys,x=.ref a/\y=.ref b/\g8 X.K H a []/\g8 X.K H b ys/\Q (.ref b) H):=by
 intro Wj s σ H x y v u Q I rx ry h;obtain⟨a,b,ys,rfl,rfl,ha,hb,q⟩:=h;cases rx;cases ry;obtain⟨Wn,r1,p1,_⟩:=I.tuple ha;obtain⟨Xt,r2,p2,_⟩:=I.tuple hb;have l1:Wn=[]:=r1.t9.mpr rfl;obtain⟨⟨c1,d1,t1,o1⟩,ho,rfl,n,rfl⟩:=p1;obtain⟨⟨c2,d2,t2,o2⟩,WU,rfl,n2,rfl⟩:=p2;exact concat_meets ⟨_,ho,rfl⟩ ⟨_,WU,rfl⟩ noFill_tuple_add seq_tuple_add PySem.F.slot_tuple_add PySem.F.entry_tuple_add (PySem.F.args_tuple_add_2 _ _) (tuple_addW0 a b Wn.toArray Xt.toArray n n2 d1 d2 o1 o2 (by simp[l1])) ⟨ho,WU,.ref b,H,I,rfl,q⟩
def Of:iW X (binaryOp .Add) JB:=(Lq.or GH).imp fun x y H Q h=>by
 obtain⟨a,rfl,h1⟩:=aR h;obtain⟨b,rfl,h2⟩:=aR h1;obtain⟨xs,e1,h3⟩:=Dh h2;obtain⟨ys,e2,h4,h5⟩:=Dh h3;by_cases c:xs=[]
 ·rw[if_pos c] at h5;subst c;exact .inl ⟨a,b,ys,rfl,rfl,.inl (.inl e1),.inl (.inl e2),h5⟩
 ·rw[if_neg c] at h5;refine .inr ⟨a,b,xs,ys,rfl,rfl,.inl (.inl e1),.inl (.inl e2),c,h4,fun z=>?_,fun z=>?_⟩
  ·rw[if_pos z] at h5;exact h5
  ·rw[if_neg z] at h5;exact h5
end
section
variable{Q:VK}{b p:Addr}{lo hi:Option Int}
def Ny{u:Tg k}:@xB (some (.tup vs)) k u=k vs:=rfl
def J9:JB (.ref a) (.ref b) H Q=xB (H a) fun xs=>xB (H b) fun ys=>xs.length+ys.length<=sizeLine/\(if xs=[] then Q (.ref b) H else if ys=[] then Q (.ref a) H else ∀ p,H p=none->Q (.ref p) (Wk H p (.tup (xs++ys)))):=rfl
def Qq:Jt lo hi H Q (some (.tup vs))=(¬ (HT.g0 vs.length 0 lo=0/\HT.g0 vs.length vs.length hi=vs.length)/\∀ p,H p=none->Q (.ref p) (Wk H p (.tup (qY vs lo hi)))):=rfl
end
def Bp:typeLookup (.type "list") "keys"=pure none:=by rw[typeLookup_type,builtinLookup_eq_fast];kernel_rfl
section
variable{prog:Program}
mutual
example:=[(by omega),bJ P W,Key×Value,model P W,.ref a,(Builtin.«dict.update.loop» ⟨[.ref d,.ref it,rawInt i,.none],[]⟩),pyNext (.ref it) >>= _,(by decide +kernel),stored acc k v,.ret .none]
theorem Ic{Wn:Array Value}(hx:s.heap.get? a=some {cls:=.type "list",data:=.seq Wn n})(hA:A.handled=none)(hq:∀ h' tk,(∀ b o,s.heap.get? b=some o->h'.get? b=some o)->Q none {s with heap:=h',toks:=tk}):wpAny (model prog w) A (getAttr? 4e0 "keys") Q E s:=by
 obtain⟨hp,g,d,tk,os⟩:=s;have hT:∀ t,(⟨hp,g,d,t,os⟩:Shared).TypeIs 4e0 "list":=fun t=>⟨_,hx,rfl⟩;have f1:=sub_AttributeError;have f2:=F.slot_list_getattribute.lookup;have f3:=F.slot_list_getattribute.bind 4e0;unfold getAttr? getAttrBy? getAttrBy
 repeat (any_goals (first|assumption|exact hT _|((with_reducible show wpAny _ _ (call (Value.builtin "list.__getattribute__") _ _) _ _ _);refine call_meets F.slot_list_getattribute (hT _) am_entry_list_getattribute (F.args_list_getattribute_2 _ _) (meets_getattribute_miss_list a Wn n #[] "keys" _ Bp 7e0 7e0) ⟨hx,hA,fun h' tk' e hx'=>?_⟩)|wp_step))
 obtain⟨t',u',he⟩:=hx'.there;show wpAny _ _ (getattributeRaised _ _ _ _ _ _ _) _ _ _;unfold getattributeRaised;have f5:=am_list_getattr_none
 repeat (any_goals (first|assumption|wp_step))
 exact hq _ _ hx'.keeps
theorem nV:plainId "dict.update.loop"=true:=by decide +kernel
def zY:entryFor table "dict.update.loop"=some Builtin.«dict.update.loop»:=entryFor_of_fast (by kernel_rfl)
theorem OO{W:World}{d t:Addr}{kv:Value}{k:Key}{acc:List 2e0}{Q:PySem.Fin->Shared->Prop}(hit:s.heap.IsListIter it l i)(hl:s.heap.IsList l items)(hx:items[i]?=some (.ref t))(ht:s.heap.IsTuple t #[kv,v])(hk:(bJ P W).is k kv=true)(hd:s.heap.DictOf 1e0 d acc)(hsz:acc.length<=sizeLine)(ndi:d≠it)(nti:t≠it)(hq:∀ h' tk,h'.IsListIter it l (i+1)->h'.DictOf 1e0 d 8e0->(∀ b o,b≠d->b≠it->s.heap.get? b=some o->h'.get? b=some o)->Q (.again (.builtin "dict.update.loop" ⟨[.ref d,.ref it,rawInt (i+1),.none],[]⟩)) {s with heap:=h',toks:=tk}) : wpAny 3e0 A 5e0 Q E s:=by
 unfold Builtin.«dict.update.loop»;show wpAny _ _ 6e0 _ _ _;refine Β (wpAny_pyNext_list_item hit hl hx fun h1 abT sb=>?_);dsimp only;refine Β (Α6 ?_);refine Β (wpAny_tryCatch ?_);unfold Builtin.Dict.pairItems;obtain⟨o,ho,hc,m,aaF⟩:=ht;have ho1:h1.get? t=some o:=(sb.2 t nti).trans ho;refine Β (wpAny_typeOf (T:="tuple") ⟨o,ho1,hc⟩ ?_);rw[if_pos (by decide)];refine Β (wpAny_seqItems ho1 aaF (Θ ?_));show wpAny _ _ (holding [kv,v] (dictSet d kv v)) _ _ _;refine Α6 (wpAny_dictSet_pairs hk (hd.sameBut sb ndi) (fun h2 hd2 sb2=>?_) hsz);refine Θ (hq h2 _ ?_ hd2 fun b o b1 b2 e=>(sb2.2 b b1).trans ((sb.2 b b2).trans e));exact abT.at fun o e=>(sb2.2 it ndi.symm).trans e
def Sb{W:World}{d:Addr}{Q:PySem.Fin->Shared->Prop}(hh:A.handled=none)(hit:s.heap.IsListIter it l i)(hl:s.heap.IsList l items)(hx:items[i]?=none)(hq:∀ h',(∀ b o,b≠it->s.heap.get? b=some o->h'.get? b=some o)->Q (.done 9e0) {s with heap:=h'}) : wpAny 3e0 A 5e0 Q E s:=by
 unfold Builtin.«dict.update.loop»;show wpAny _ _ 6e0 _ _ _;refine Β (wpAny_pyNext_list_end hh hit hl hx fun h1 eb=>?_);dsimp only;show wpAny _ _ (Builtin.Dict.addKeywords d [] >>= _) _ _ _;exact Β (Θ (Θ (hq h1 fun b o b1 e=>eb b o b1 e)))
theorem Mn{P:Program}{W:World}{d it l:Addr}{items:List Value}(ps:List 2e0)(ndi:d≠it)(ndl:l≠d)(nli:l≠it):∀(m i:Nat),items.length=i+m->∀(A:Around) (R:Result->Shared->Prop) (s:Shared) (acc:List 2e0),A.handled=none->s.heap.IsListIter it l i->s.heap.IsList l items.toArray -> (∀ j,i<=j->j < items.length->∃(t:Addr) (kv:Value) (k:Key) (v:Value),items[j]?=some (.ref t)/\ps[j]?=some (k,v)/\s.heap.IsTuple t #[kv,v]/\(bJ P W).is k kv=true/\t≠it/\t≠d) -> s.heap.DictOf 1e0 d acc->acc.length+m<=sizeLine->ps.length=items.length -> (∀ h' tk,h'.DictOf 1e0 d (merged acc (ps.drop i))->(∀ b o,b≠d->b≠it->s.heap.get? b=some o->h'.get? b=some o)->R (.ok 9e0) {s with heap:=h',toks:=tk}) -> codeAny 3e0 A (.builtin "dict.update.loop" ⟨[.ref d,.ref it,rawInt i,.none],[]⟩) R s
 | 0,i,hm,A,R,s,acc,hh,hit,hl,hp,hd,hsz,XR,q=>by
  refine codeAny_builtin zY ?_;rw[Ζ1 nV _];refine Sb (A:=A.in1) hh hit hl (by simp;omega) fun h' k=>?_;have e:ps.drop i=[]:=List.drop_of_length_le 0e0;rw[e] at q;exact q h' s.toks (by
   obtain⟨o,es,ep,ho,r⟩:=hd;exact⟨o,es,ep,k _ _ ndi ho,r⟩) fun b o _ b2 e=>k b o b2 e
 | m+1,i,hm,A,R,s,acc,hh,hit,hl,hp,hd,hsz,XR,q=>by
  refine codeAny_builtin zY ?_;rw[Ζ1 nV _];obtain⟨t,kv,k,v,e1,e2,ht,hk,n1,n2⟩:=hp i (Ι _) 0e0;refine OO (A:=A.in1) hit hl (by simpa using e1) ht hk hd 0e0 ndi n1 fun h' tk abS hd' kp=>?_;refine⟨plainId_quiet nV _,?_⟩;have c:((i:Int)+1)=((i+1:Nat):Int):=by omega
  rw[c];have es:ps.drop i=(k,v)::ps.drop (i+1):=by
   obtain⟨WS,e3⟩:=Λ.mp e2;rw[List.drop_eq_getElem_cons WS,e3]
  refine Mn ps ndi ndl nli m (i+1) 0e0 A R _ 8e0 hh abS (hl.at fun o e=>kp l o ndl nli e) (fun j h1 h2=>?_) hd' ?_ XR fun h'' tk' abR kp'=>?_
  ·obtain⟨t,kv,k,v,e1,e2,ht,hk,n1,n2⟩:=hp j 0e0 h2;obtain⟨o,ho,r⟩:=ht;exact⟨t,kv,k,v,e1,e2,⟨o,kp t o n2 n1 ho,r⟩,hk,n1,n2⟩
  ·have:=stored_length_le acc k v;omega
  ·refine q h'' tk' ?_ fun b o b1 b2 e=>kp' b o b1 b2 (kp b o b1 b2 e);rw[es];exact abR
end
end
mutual
example:=[.WT o (.dK kvs),Key×V,(by simp),aO acc kv.1 kv.2,.dK (dR [] kvs),bJ X.prog X.w,(.tup [kV k,v]),Itd a o kvs,Key×Value,(by decide)]
def tS(H:Hp)(xs:List V)(kvs:List 1e0):Prop:=xs.length=kvs.length/\∀(j:Nat) (x:V),xs[j]?=some x->∃(t:Addr) (k:Key) (v:V),x=.ref t/\H t=some 6e0/\kvs[j]?=some (k,v)
def Ei:List V->Hp->VK->Prop:=fun vs H Q=>on1 vs fun x=>bE x fun l=>eF (H l) fun xs=>∃ kvs,tS H xs kvs/\∀ p,H p=none->Q (.ref p) (Wk H p 4e0)
theorem Kz{H:Hp}{P:Program}{W:World}{h:Heap}(ok:HOk P W H h):∀ {xs:List V} {Wn:List Value} {kvs:List 1e0},Wq xs Wn->tS H xs kvs->∃ ps:List 8e0,KV kvs ps/\ps.length=Wn.length /\ ∀ j,j < Wn.length->∃(t:Addr) (kv:Value) (k:Key) (v:Value),Wn[j]?=some (.ref t)/\ps[j]?=some (k,v)/\h.IsTuple t #[kv,v]/\(bJ P W).is k kv=true/\H t≠none
 | [],_,[],.nil,_=>⟨[],.nil,rfl,fun j hj=>absurd hj (Nat.not_lt_zero _)⟩
 | [],_,_::_,.nil,p=>by cases p.1
 | _::_,_,[],.cons _ _,p=>by cases p.1
 | x::xs,_,kv::kvs,.cons r rr,p=>by
  obtain⟨t,k,v,rfl,ht,e⟩:=p.2 0 x rfl;cases r;have e':kv=(k,v):=by simpa using e
  subst e';obtain⟨ps,h1,h2,h3⟩:=Kz ok rr (kvs:=kvs) ⟨by simpa using p.1,fun j y hy=>by
   obtain⟨t,k,v,a,b,c⟩:=p.2 (j+1) y (by simpa using hy);exact⟨t,k,v,a,b,by simpa using c⟩⟩
  obtain⟨_,Wn,ri,hi⟩:=(show dU P W H h t 6e0 from ok t _ ht);cases ri with
  | cons r1 ri=>cases ri with
   | cons r2 ri =>
    cases ri;refine⟨(k,_)::ps,.cons ⟨rfl,r2⟩ h1,by simp[h2],fun j hj=>?_⟩;cases j with
    | zero=>exact⟨t,_,k,_,rfl,rfl,hi,oG r1,by rw[ht];simp⟩
    | succ j =>
     obtain⟨t',Zl,k',v',a,b,c⟩:=h3 j (by simpa using hj);exact⟨t',Zl,k',v',by simpa using a,by simpa using b,c⟩
theorem wR:∀(more acc:List 1e0),(dR acc more).length<=acc.length+more.length
 | [],acc=>Ι _
 | kv::more,acc=>by
  have h1:=wR more 3e0;have h2:=iD acc kv.1 kv.2;show(dR 3e0 more).length<=_;simp only[Η];omega
theorem Ej(hc:X.calm=true):gF X (.type "dict") Ei:=fun Wj s σ H vs us Q I r h=>by
 have h0:=h;unfold Ei at h0;rw[<- Ru] at h0;obtain⟨x,rfl,h1⟩:=h0;obtain⟨l,rfl,h2⟩:=aR h1;obtain⟨xs,el,kvs,hp,q⟩:=eX h2;obtain⟨u,rfl,ru⟩:=r.one;cases ru;obtain⟨z,Wn,n,ri,hlen,eo⟩:=I.Bq el;obtain⟨ps,rel,ab9,pat⟩:=Kz I.Ws ri hp;have hA:=I.ok.hd hc;refine callType_codes (Q₁:=fun obj s₁=>obj=.ref s.heap.objs.size/\s₁={s with heap:=s.heap.push {cls:=.type "dict",data:=.dict #[]}}) F.kt_called_dict (F.kt_typeCall_dict_1 _) F.entry_dict_init (kt_code_dict_new _ ⟨rfl,rfl⟩) ?_;rintro obj s₁ ⟨rfl,rfl⟩;have Xs:(s.heap.push {cls:=.type "dict",data:=.dict #[]}).DictOf 5e0 s.heap.objs.size []:=Heap.DictOf.new s.heap;refine⟨Xs.typeIs,F.args_dict_init_2 _ _,?_⟩;unfold Builtin.«dict.__init__» Builtin.Dict.selfAndRest;refine Β (Β (wpAny_notOrdered_dict Xs.typeIs ?_));show wpAny _ _ (pure (s.heap.objs.size,[Value.ref l])) _ _ _;refine Θ ?_;show wpAny _ _ (Builtin.Dict.updateFrom "dict.__init__" s.heap.objs.size (.ref l) [] .none) _ _ _;unfold Builtin.Dict.updateFrom;have Xh:(s.heap.push {cls:=.type "dict",data:=.dict #[]}).get? l=some {cls:=.type "list",data:=.seq Wn.toArray n}:=Ζ _ eo;refine Β (wpAny_typeOf (T:="list") ⟨_,Xh,rfl⟩ ?_);rw[if_pos 9e0];refine Β (Ic Xh hA fun h' tk kp=>?_);rw[if_pos (show(none:Option Value).isNone=true from rfl)];refine Β (wpAny_rule ?_);have YC:h'.IsList l Wn.toArray:=⟨_,kp _ _ Xh,rfl,n,rfl⟩;refine Β (wpAny_pyIter_list YC (Θ ⟨plainId_quiet nV _,?_⟩));have hD:s.heap.objs.size < h'.objs.size:=Μ (kp _ _ (Χ _ rfl));have old:∀ b o,s.heap.get? b=some o->(h'.push {cls:=.type "list_iterator",data:=.fields #[.ref l,rawInt 0]}).get? b=some o:=fun b o e=>Ζ _ (kp b o (Ζ _ e));have lt:∀ b o,s.heap.get? b=some o->b < s.heap.objs.size:=fun b o e=>Μ e;have ll:=lt _ _ eo;refine Mn ps (Ρ hD) (Ρ ll) (Ρ (Nat.lt_trans ll hD)) Wn.length 0 2e0 X.A.in1 _ _ [] hA ⟨_,Χ _ rfl,rfl,rfl⟩ ⟨_,old _ _ eo,rfl,n,rfl⟩ (fun j _ hj=>?_) ?_ (by simp only[ϑ];omega) ab9 fun hF tkF hdF kpF=>?_
 ·obtain⟨t,kv,k,v,a1,a2,⟨o,ho,r⟩,a4,_⟩:=pat j hj;have tl:=lt _ _ ho;exact⟨t,kv,k,v,a1,a2,⟨o,old _ _ ho,r⟩,a4,Ρ (Nat.lt_trans tl hD),Ρ tl⟩
 ·obtain⟨o,es,ep,ho,r⟩:=Xs;exact⟨o,es,ep,Ζ _ (kp _ _ ho),r⟩
 ·rw[List.drop_zero] at hdF;have kl:kvs.length<=sizeLine:=by rw[<- hp.1];exact z
  have ml:=wR kvs [];refine⟨rfl,.ref s.heap.objs.size,Wk H s.heap.objs.size 4e0,I.laid (fun b o e=>kpF b o (Ρ (lt _ _ e)) (Ρ (Nat.lt_trans (lt _ _ e) hD)) (old _ _ e)) (Ι _)
   (oV (by simp only[ϑ] at ml;omega) (Α9.mpr (Ne.symm (Ρ I.big))) (rel.merge .nil) hdF),rfl,q _ (I.Ws.fresh (Ι _))⟩
def Itd(a:Addr)(o:Obj)(kvs:List 1e0):It :=
 ⟨fun i H=>i < kvs.length/\H a=some 0e0,fun i H x H'=>H'=H/\∃ kv,kvs[i]?=some kv/\x=kV kv.1,fun i H=>i=kvs.length/\H a=some 0e0⟩
def CN{W:World}{k:Key}(h:(bJ P W).is k v=true):bN (kV k) v:=by
 rcases eE h with⟨i,t,rfl,rfl⟩|⟨x,t,rfl,rfl⟩|⟨rfl,rfl⟩
 ·exact⟨t,rfl⟩
 ·exact⟨t,rfl⟩
 ·rfl
def Kh{o:Obj}{es:Array DictEntry}{ep:Nat}(I:Wm X Wj σ H s)(e:H a=some 0e0)(ho:o.data=.dict es ep) : ∃ vs,KV kvs vs/\s.heap.DictAt 5e0 a vs ep:=by
 obtain⟨h1,_,_,vs,rel,o',es',YN,h2,h3,h4,r⟩:=(show dU X.prog X.w H s.heap a 0e0 from I.Ws a _ e);rw[h1] at h2;cases h2;rw[ho] at h4;cases h4;exact⟨vs,rel,o,es,h1,h3,ho,r⟩
def KV.at{vs:List 8e0}(r:KV kvs vs){kv:Key×V}(e:kvs[i]?=some kv):∃ v,vs[i]?=some (kv.1,v):=by
 unfold KV at r
 induction r generalizing i with
 | nil=>simp at e
 | @cons p q ps qs h t ih=>cases i with
  | zero =>
   have e':p=kv:=by simpa using e
   subst e';exact⟨q.2,by simp[h.1]⟩
  | succ i=>simpa using ih (i:=i) (by simpa using e)
theorem IY{tg:Expr}(a it:Addr)(o:Obj)(kvs:List 1e0)(es:Array DictEntry)(ep:Nat)(ho:o.data=.dict es ep):Turn P w K tg 7e0 [it] it (fun i h=>h.IsKeyIter it a i kvs.length ep) where
 mem:=by simp
 obj:=fun i h st b hb=>by
  have e:b=it:=by simpa using hb
  subst e;obtain⟨o,e,c,d⟩:=st;exact⟨o,e,fun v z=>by rw[d] at z;cases z⟩
 keep:=fun i h h' st k=>st.at fun o e=>k it 2e0 o e
 item:=by
  intro X hP hw hK hc i Wj s σ H E I hf st hg;subst hP hw hK;obtain⟨hi,hq⟩:=hg;obtain⟨vs,rel,dd⟩:=Kh I hq ho;have hk:=ϕ hi;obtain⟨v,hv⟩:=rel.at hk;obtain⟨f0,f1,f2,f3,f4,f5⟩:=hf it 2e0;rw[rel.length] at st;refine wpAny_pyNext_dict_item st dd hv fun key h' Yq WN sb=>?_;have I1:Wm X Wj σ H {s with heap:=h'}:=I.turned (t':=s.toks) (fun b o hb e=>(sb.2 b hb).trans e) f0 f1 f3 f4 f5;rw[<- rel.length] at WN;obtain⟨o',e,c,d⟩:=id WN;exact⟨key,rfl,Gp (s:={s with heap:=h'}) e c d 9e0 ⟨kV (kvs[i]).1,H,I1,CN Yq,⟨rfl,_,hk,rfl⟩,WN,fun b hb=>(hf b hb).1⟩⟩
 done:=by
  intro X hP hw hK hc i Wj s σ H E I hf st hg;subst hP hw hK;obtain⟨hi,hq⟩:=hg;obtain⟨vs,rel,dd⟩:=Kh I hq ho;obtain⟨f0,f1,f2,f3,f4,f5⟩:=hf it 2e0;rw[rel.length] at st hi;exact wpAny_pyNext_dict_end (I.ok.hd hc) st dd (Ε7.mpr (by omega)) fun h' eb=>⟨rfl,I.turned (t':=s.toks) (fun b o hb e=>eb b o hb e) f0 f1 f3 f4 f5⟩
 self:=fun _ _ _ _ _ st h=>wpAny_pyIter_keyiter st h
def Q8(tl:TE):TI:=fun σ H R=>tl σ H fun x H1=>bE x fun a=>dC (H1 a) fun kvs=>∀ o,R 7e0 (Wk H1 a 0e0)
def Oh{tg l:Expr}{tl:TE}(hl:PE X l tl):PI X tg l (Q8 tl):=by
 intro Wj s σ H R I h;refine thn (hl Wj s σ H _ I h) fun v s1 ⟨x,H1,I1,r1,q1⟩=>?_;obtain⟨a,rfl,q2⟩:=aR q1;obtain⟨kvs,e,q⟩:=dP q2;cases r1;obtain⟨z,hd,vs,rel,dd⟩:=vE I1.Ws e;obtain⟨ep,dat⟩:=dd.dictAt;obtain⟨o,es,ho,hx,aaF,r⟩:=id dat;have I2:Wm X Wj σ (Wk H1 a 0e0) s1:=I1.write (t':=s1.toks) (x:=a) (e:=a) (by rw[e];exact True.intro) (.inl rfl) (fun _ _ _ q=>q) ⟨o,ho⟩ ⟨ho,oV z hd rel dd⟩;refine wpAny_pyIter_dict hd dat ?_;have F:(Wk H1 a 0e0) s1.heap.objs.size=none:=I2.Ws.fresh (Ι _);refine⟨s1.heap.objs.size,[s1.heap.objs.size],_,_,_,rfl,I2.kept (t':=s1.toks) fun b o e=>Ζ _ e,IY a _ o kvs es ep aaF,?_,fun b hb=>?_,q o⟩
 ·rw[rel.length];exact⟨_,Χ _ rfl,rfl,rfl⟩
 ·have e:b=s1.heap.objs.size:=by simpa using hb
  subst e;exact I2.HW (Ι _) F
end
section
variable{tc:TT}{te tl:TE}{Q:VK}
def M9:kS (Q8 tl) fr tc te σ H Q=tl σ H fun x H1=>bE x fun a=>dC (H1 a) fun kvs=>∀ o,lc (Itd a o kvs) fr tc te σ (Wk H1 a (.WT o (.dK kvs))) Q:=by
 unfold kS Q8;rfl
theorem NX{o:Obj}(Pv:Nat->List V->Hp->Prop)(h0:Pv 0 [] H)(hz:∀ i xs H,Pv i xs H->xs.length<=1000000)(hl:∀ i xs H,Pv i xs H->H a=some (.WT o (.dK kvs)))(hs:∀ i kv xs H,i < kvs.length->kvs[i]?=some kv->Pv i xs H->tc (some (kV kv.1)::aV fr σ) H fun b H2=>if b=true then te (some (kV kv.1)::aV fr σ) H2 (fun z H3=>Pv (i+1) (xs++[z]) H3) else Pv (i+1) xs H2)(hd:∀ xs H,Pv kvs.length xs H->∀ p,H p=none->Q (.ref p) (Wk H p (.lst xs))):lc (Itd a o kvs) fr tc te σ H Q:=by
 refine⟨cW kvs.length Pv,⟨kvs.length,by simp,Α5 _,h0⟩,?_⟩;rintro i m xs H ⟨rfl,hi,p⟩;refine⟨hz i xs H p,?_⟩;by_cases WS:i < kvs.length
 ·refine .inr ⟨⟨WS,hl i xs H p⟩,fun y H' yy=>?_⟩;obtain⟨e,kv,hk,rfl⟩:=yy;subst e;simp only[Ce WS];exact hs i kv xs _ WS hk p
 ·have e:i=kvs.length:=by omega
  subst e;exact .inl ⟨⟨rfl,hl _ xs H p⟩,hd xs H p⟩
end
section
variable{td ty tx:TE}{Q:VK}{D:Ends}{v w x:V}
def Nj:Ei [.ref l] H Q=eF (H l) fun xs=>∃ kvs,tS H xs kvs/\∀ p,H p=none->Q (.ref p) (Wk H p (.dK (dR [] kvs))):=rfl
end
def JC:List V->Hp->VK->Prop:=fun vs H Q=>on1 vs fun x=>bE x fun p=>eF (H p) fun ys=>∀ l,H l=none->Q (.ref l) (Wk H l (.tup ys))
def Ln{x:V}{k:Str->Prop}(h:Dg x k):∃ z,x=.str z/\k z:=by
 unfold Dg at h;split at h
 ·exact⟨_,rfl,h⟩
 ·exact h.elim
def lK{k:V->Prop}(h:on1 vs k):∃ v,vs=[v]/\k v:=by
 unfold on1 at h;split at h
 ·exact⟨_,rfl,h⟩
 ·exact h.elim
section
def iX:gF X (.type "tuple") JC:=fun Wj s σ H xs us Q I r h=>by
 obtain⟨x,rfl,h⟩:=lK h;obtain⟨p,rfl,h⟩:=aR h;obtain⟨ys,e,h⟩:=eX h;exact y7 Wj s σ H _ us Q I r ⟨_,_,rfl,.inl ⟨.inl (.inl e),h⟩⟩
end
section
variable{T:String}{r:V->List V->Hp->VK->Prop}{to:TE}{t:TA}{Q:VK}{i:Int}{p:Addr}{ys:List Str}
def NG:JC [.ref p] H Q=eF (H p) fun ys=>∀ l,H l=none->Q (.ref l) (Wk H l (.tup ys)):=rfl
end
abbrev TJ:=Str->St->Hp->(Str->Hp->Prop)->Prop
section
variable{e a b:Expr}{te:TE}{tj:TJ}
end
noncomputable def V7(r:V->List V->Hp->VK->Prop)(to:TE)(t:TA):TE:=fun σ H Q=>to σ H fun x H1=>bE x fun a=>eF (H1 a) fun _=>t σ H1 fun xs H2=>r (.ref a) xs H2 Q
noncomputable def So:V->List V->Hp->VK->Prop:=fun x vs H Q=>bE x fun a=>on1 vs fun y=>bE y fun b=>eF (H a) fun xs=>eF (H b) fun zs=>xs.length+zs.length<=sizeLine/\Q .Wl (Wk H a (.lst (xs++zs)))
noncomputable def O9:V->List V->Hp->VK->Prop:=fun x vs H Q=>bE x fun a=>on1 vs fun y=>gC y fun i=>eF (H a) fun xs=>i=0/\iZ xs[0]? fun v=>Q v (Wk H a (.lst xs.tail))
section
variable{o e:Expr}{to:TE}{t:TA}{name:Str}{apos Wu:Pos}{id:String}{r:V->List V->Hp->VK->Prop}
theorem m4(slot:Slot "list" name id)(hty:typeOf (.builtin id)=pure (.type "method_descriptor"))(hm:OU X id r)(ho:PE X o to)(ha:PA X (e::es) t)(Xj:attributeBase o name X.env (eval o X.env)=eval o X.env:=by rfl)(aaG:((backTo Wu (starEach (e::es) X.env)).all (fun x=>!x.1)&&(backToKw Wu (keywordEach [] X.env)).all (fun x=>x.1.isSome)&&decide ((e::es).length+([]:List Keyword).length+(if ([]:List Keyword).isEmpty then 0 else 1) < 30))=true:=by rfl)(Xl:(apos.endLine==Wu.line)=true:=by rfl)(hs:starEach (e::es) X.env=(false,eval e X.env)::starEach es X.env:=by rfl)(X3:(backTo Wu (starEach es X.env)).any (·.1)=false:=by rfl) : PE X (.Call (.Attribute o name apos) (e::es) [] Wu) (V7 r to t):=by
 intro Wj s σ H Q I h;refine wpAny_Call_method_late Xj aaG Xl rfl (thn (ho Wj s σ H _ I h) fun v s1 ⟨x,H1,I1,r1,q1⟩=>?_);obtain⟨a,rfl,q1⟩:=aR q1;obtain⟨xs,e1,q1⟩:=eX q1;obtain⟨h1,h2⟩:=Ft (T:="list") I1 r1 (.inl ⟨rfl,xs,.inl (.inl e1)⟩);refine⟨"list",id,PySem.F.plainAttrs_list,slot,hty,h1,h2,?_⟩;have hA:=ha Wu Wj s1 σ H1 _ I1 q1;rw[hs] at hA ⊢;refine Β0 (by show(false||(backTo Wu (starEach es X.env)).any (·.1))=false;rw[X3]<;>rfl) (Δ6 ?_);exact thn hA fun us s2 ⟨vs,H2,I2,r2,q2⟩=>hm Wj s2 σ H2 _ vs v us Q I2 r1 r2 q2
def t8:OU X "list.extend" So:=fun Wj s σ H x vs v us Q I rx rv h=>by
 obtain⟨a,rfl,h1⟩:=aR h;obtain⟨y,rfl,h2⟩:=lK h1;obtain⟨b,rfl,h3⟩:=aR h2;obtain⟨xs,e1,h4⟩:=eX h3;obtain⟨zs,e2,h5⟩:=eX h4;exact Im Wj s σ H _ _ v us Q I rx rv ⟨_,_,_,_,rfl,rfl,e1,e2,h5⟩
theorem Br:OU X "list.pop" O9:=fun Wj s σ H x vs v us Q I rx rv h=>by
 obtain⟨a,rfl,h1⟩:=aR h;obtain⟨y,rfl,h2⟩:=lK h1;obtain⟨i,rfl,h3⟩:=dZ h2;obtain⟨xs,e1,rfl,h4⟩:=eX h3;obtain⟨y,e2,h5⟩:=dD h4;cases xs with
 | nil=>cases e2
 | cons z zs=>exact Le Wj s σ H _ _ v us Q I rx rv ⟨_,_,_,0,y,rfl,rfl,e1,by decide,by decide,by simp[seqIndex?],e2,h5⟩
end
mutual
example:=[!xs.isEmpty]
def IW:Option HO->Option Bool
 | some (.lst xs)=>some 0e0
 | some (.tup xs)=>some 0e0
 | some (.dK kvs)=>some (!kvs.isEmpty)
 | _=>none
def yL(H:Hp):V->Option Bool
 | .Wl=>some false
 | .bl b=>some b
 | .int i=>some (i !=0)
 | .ref p=>IW (H p)
 | _=>none
def BW{x:V}{k:Bool}(h:yL H x=some k):Si K x H k:=by
 cases x with
 | Wl=>cases h;rfl
 | bl b=>cases h;rfl
 | int i=>cases h;rfl
 | ref p =>
  simp only[yL] at h;unfold IW at h;split at h
  ·next e=>cases h;exact .inl ⟨_,.inl (.inl e),rfl⟩
  ·next e=>cases h;exact .inr (.inl ⟨_,g8.of e,rfl⟩)
  ·next e=>cases h;exact .inr (.inr ⟨_,e,rfl⟩)
  ·cases h
 | _=>cases h
def Mg(ta:TE):TT:=fun σ H Q=>ta σ H fun x H'=>iZ (yL H' x) fun k=>Q k H'
def BJ{a:Expr}{ta:TE}(ha:PE X a ta)(he:∀ whole,isTrue a X.env whole=(do let v <- whole;standAt a.pos;holding [v] (truthy v))):PT X a (Mg ta):=by
 intro Wj s σ H Q I h;exact isTrue_plain (thn (ha Wj s σ H _ I h) fun v s1 ⟨x,H1,I1,r1,q1⟩=>by
  obtain⟨k,e,q⟩:=dD q1;exact Fp Wj s1 σ H1 x v Q I1 r1 ⟨k,BW e,q⟩) (he _)
end
section
variable{te to:TE}{t:TA}{tj:TJ}{Q:VK}{acc:Str}{r:V->List V->Hp->VK->Prop}{QS:Str->Hp->Prop}{B:Bool->Hp->Prop}{D:Ends}{p q:Addr}{v:V}{b:Bool}{i:Int}
mutual
example:=[.ref p,!vs.isEmpty]
def Qw:Str.empty++x=x:=by
 show(⟨#[]++x.cps⟩:Str)=x;rw[Array.empty_append]
def VE:V7 r to t σ H Q=to σ H fun x H1=>bE x fun a=>eF (H1 a) fun _=>t σ H1 fun xs H2=>r (.ref a) xs H2 Q:=rfl
def SR:So 0e0 [.ref q] H Q=eF (H p) fun xs=>eF (H q) fun zs=>xs.length+zs.length<=sizeLine/\Q .Wl (Wk H p (.lst (xs++zs))):=rfl
def QV:O9 0e0 [.int 0] H Q=eF (H p) fun xs=>(0:Int)=0/\iZ xs[0]? fun v=>Q v (Wk H p (.lst xs.tail)):=rfl
def NF:Mg te σ H B=te σ H fun x H'=>iZ (yL H' x) fun k=>B k H':=rfl
def Q5:yL H .Wl=some false:=rfl
def Q1:yL H (.bl b)=some b:=rfl
def Q3:yL H (.int i)=some (i !=0):=rfl
def Kb:yL H 0e0=IW (H p):=rfl
def Q4:IW (some (.lst vs))=some 1e0:=rfl
def Q6:IW (some (.tup vs))=some 1e0:=rfl
def Q2:IW (some (.dK kvs))=some (!kvs.isEmpty):=rfl
end
variable{tc:TT}{tl:TE}
def Nh:kS (Ku K tl) fr tc te σ H Q=tl σ H fun x H1=>bE x fun a=>(∃ xs,g8 K H1 a xs)/\lc (Itt K a) fr tc te σ H1 Q:=by
 unfold kS Ku
 congr 1
 funext x H1;exact propext ⟨fun⟨a,e,h1,h⟩=>by subst e;exact⟨h1,h⟩,fun h=>by obtain⟨a,rfl,h1,h⟩:=aR h;exact⟨a,rfl,h1,h⟩⟩
theorem KU(Pv:Nat->List V->Hp->Prop)(h0:Pv 0 [] H)(hz:∀ i xs H,Pv i xs H->xs.length<=1000000)(hl:∀ i xs H,Pv i xs H->g8 K H a ys)(hs:∀ i y xs H,i < ys.length->ys[i]?=some y->Pv i xs H->tc (some y::aV fr σ) H fun b H2=>if b=true then te (some y::aV fr σ) H2 (fun z H3=>Pv (i+1) (xs++[z]) H3) else Pv (i+1) xs H2)(hd:∀ xs H,Pv ys.length xs H->∀ p,H p=none->Q (.ref p) (Wk H p (.lst xs))):lc (Itt K a) fr tc te σ H Q:=by
 refine⟨cW ys.length Pv,⟨ys.length,by simp,Α5 _,h0⟩,?_⟩;rintro i m xs H ⟨rfl,hi,p⟩;refine⟨hz i xs H p,?_⟩;have q:=hl i xs H p;by_cases WS:i < ys.length
 ·refine .inr ⟨⟨ys,ys[i],q,by simp[WS]⟩,fun y H' yy=>?_⟩;obtain⟨e,yy⟩:=yy;subst e;simp only[Ce WS];exact hs i y xs _ WS (yy ys q) p
 ·have e:i=ys.length:=by omega
  subst e;exact .inl ⟨⟨ys,q,Ι _⟩,hd xs H p⟩
end
section
theorem Oz{b:Addr}(h:oR X.K H n a b r)(I:Wm X Wj σ H s)(hu:A.units+n < cLine):SeqAt.RcNeAt A s (.ref a) (.ref b) (!r):=by
 cases h with
 | list hx hy hl he =>
  obtain⟨Wn,r1,p1,z1⟩:=I.list hx;obtain⟨ZY,r2,p2,z2⟩:=I.list hy;have l1:=r1.length;have l2:=r2.length;have:=SeqAt.RcNeAt.lists p1.isList p2.isList (by simp only[Ε];omega) (by omega) (A:=A) (fun j h1 h2=>by
   obtain⟨x,ex,rx⟩:=jK r1 h1;obtain⟨y,ey,ry⟩:=jK r2 h2;exact EB (he j x y ex ey) I rx ry (by show A.units+1+_ < _;omega))
  rw[Ε,<- l1] at this;exact this
 | XD hx hy hl =>
  obtain⟨Wn,r1,p1,z1⟩:=I.list hx;obtain⟨ZY,r2,p2,z2⟩:=I.list hy;have l1:=r1.length;have l2:=r2.length;exact SeqAt.RcNeAt.lists_lengths p1.isList p2.isList (by simp only[Ε,bne_iff_ne,ne_eq];omega) (by omega)
 | tup hx hy he =>
  obtain⟨Wn,r1,p1,z1⟩:=I.tuple hx;obtain⟨ZY,r2,p2,z2⟩:=I.tuple hy;have l1:=r1.length;have l2:=r2.length;have:=SeqAt.RcNeAt.tuples (show s.heap.IsTuple _ Wn.toArray from p1) (show s.heap.IsTuple _ ZY.toArray from p2) (by omega) (A:=A) (fun j h1 h2=>by
   obtain⟨x,ex,rx⟩:=jK r1 h1;obtain⟨y,ey,ry⟩:=jK r2 h2;exact EB (he j x y ex ey) I rx ry (by show A.units+1+_ < _;omega))
  rw[Ε,Ε,<- l1,<- l2] at this;exact this
end
mutual
example:=[]
def Sr(K:q0B)(n:Nat):R2:=fun x y H Q=>bE x fun a=>bE y fun b=>∃ r,oR K H n a b r/\Q (.bl (!r)) H
def Sm(K:q0B)(n:Nat):R2:=fun x y H Q=>bE x fun a=>bE y fun b=>∃ r,oR K H n a b r/\Q (.bl r) H
theorem qB{k:Nat}(hr:Room k A)(h:n<=60):A.units+n < cLine:=Nat.lt_of_le_of_lt (Nat.add_le_add_left (by omega:n<=64) _) hr.units
def Jx:List V->Hp->VK->Prop:=fun vs H Q=>on1 vs fun x=>bE x fun p=>lT (H p) fun ys=>∀ l,H l=none->Q (.ref l) (Wk H l (.lst ys))
end
section
def mX(n:Nat)(hu:X.A.units+n < cLine):iW X (compareOp .NotEq) (Sr X.K n):=fun Wj s σ H x y v u Q I rx ry h=>by
 obtain⟨a,rfl,h1⟩:=aR h;obtain⟨b,rfl,r,e,q⟩:=aR h1;cases rx;cases ry;exact Oz e I hu X.prog X.w X.xe _ (bZ I q rfl)
def BA(n:Nat)(hu:X.A.units+n < cLine):iW X (compareOp .Eq) (Sm X.K n):=fun Wj s σ H x y v u Q I rx ry h=>by
 obtain⟨a,rfl,h1⟩:=aR h;obtain⟨b,rfl,r,e,q⟩:=aR h1;cases rx;cases ry;exact LG e I hu X.prog X.w X.xe _ (bZ I q rfl)
def Hz:gF X (.type "list") Jx:=fun Wj s σ H xs us Q I r h=>by
 obtain⟨x,rfl,h1⟩:=lK h;obtain⟨p,rfl,h2⟩:=aR h1;obtain⟨ys,e,h3⟩:=mV h2;refine AQ Wj s σ H _ us Q I r ⟨p,ys,rfl,?_,h3⟩;rcases e with e|e
 ·exact .inl (eU.of e)
 ·exact .inr (g8.of e)
end
section
variable{Q:VK}{b p:Addr}{i:Int}
def S6:Sr K n (.ref a) (.ref b) H Q = ∃ r,oR K H n a b r/\Q (.bl (!r)) H:=rfl
def SO:Sm K n (.ref a) (.ref b) H Q = ∃ r,oR K H n a b r/\Q (.bl r) H:=rfl
def Nr:Jx [.ref p] H Q=lT (H p) fun ys=>∀ l,H l=none->Q (.ref l) (Wk H l (.lst ys)):=rfl
end
def Str.cs(x:Str):List Nat:=x.cps.toList
section
variable{Q:VK}{p:Addr}{z:Str}{neg:Bool}{v:V}
end
mutual
example:=[fs.lookup f]
def iM(C:Addr)(o:Option HO)(k:Addr->List (Str×V)->Prop)(_u:Tg k:=()):Prop:=match o with
 | some (.ins C' dx fs)=>C'=C/\k dx fs
 | _=>False
def mU{C:Addr}{k:Addr->List (Str×V)->Prop}(h:iM C o k):∃ dx fs,o=some (.ins C dx fs)/\k dx fs:=by
 unfold iM at h;split at h
 ·obtain⟨rfl,h⟩:=h;exact⟨_,_,rfl,h⟩
 ·exact h.elim
def MI(C:Addr)(f:Str)(ta:TE):TE:=fun σ H Q=>ta σ H fun x H1=>bE x fun a=>iM C (H1 a) fun _ fs=>iZ 0e0 fun v=>Q v H1
def Pa(C:Addr)(f:Str)(ta tv:TE):TS:=fun D σ H=>tv σ H fun y H1=>ta σ H1 fun x H2=>bE x fun a=>iM C (H2 a) fun dx fs=>fs.length < 1000/\D.nx σ (Wk H2 a (.ins C dx (iV f y fs)))
def OW(C:Addr)(f:Str)(ta tv:TE):TS:=fun D σ H=>ta σ H fun x H1=>bE x fun a=>iM C (H1 a) fun _ fs=>iZ 0e0 fun v=>tv σ H1 fun y H2=>gC v fun i=>gC y fun j=>iM C (H2 a) fun dx ZL=>ZL.length < 1000/\D.nx σ (Wk H2 a (.ins C dx (iV f (.int (i+j)) ZL)))
end
section
variable{o e value:Expr}{f:Str}{pos' Za:Pos}{ta tv:TE}{C:Addr}
def aN(c:Cls X.K C)(n:eJ X.K C f)(he:PE X e ta)(hb:attributeBase e f X.env (eval e X.env)=eval e X.env:=by rfl):PE X (.Attribute e f pos) (MI C f ta):=fun Wj s σ H Q I h=>by
 refine ME hb (thn (he Wj s σ H _ I h) fun u s1 ⟨x,H1,I1,rx,q1⟩=>?_);obtain⟨a,rfl,q2⟩:=aR q1;obtain⟨dx,fs,ea,q3⟩:=mU q2;obtain⟨v,l,q⟩:=dD q3;obtain rfl:u=Value.ref a:=rx;exact wA I1 ea c n l fun u' s2 I2 ru=>⟨v,H1,I2,ru,q⟩
def dA(c:Cls X.K C)(n:eJ X.K C f)(ha:PE X o ta)(hv:PE X value tv)(hs:swapsWith value (some (.Attribute o f pos')) pos.line X.env=pure false:=by rfl):PS X (.Assign [.Attribute o f pos'] value pos) (Pa C f ta tv):=fun Wj s σ H D I h=>by
 refine plainObj_wpAny_Assign_Attribute (thn (hv Wj s σ H _ I h) fun u s1 ⟨y,H1,I1,ry,q⟩=>thn (ha Wj s1 σ H1 _ I1 q) fun ov s2 ⟨x,H2,I2,rx,q1⟩=>?_) hs;obtain⟨a,rfl,q2⟩:=aR q1;obtain⟨dx,fs,ea,l,q3⟩:=mU q2;obtain rfl:ov=Value.ref a:=rx;exact xY I2 ea c n l ry fun s3 I3=>⟨σ,_,I3,q3⟩
def Ol(c:Cls X.K C)(n:eJ X.K C f)(ha:PE X o ta)(hv:PE X value tv):PS X (.AugAssign (.Attribute o f Za) .Add value pos) (OW C f ta tv):=fun Wj s σ H D I h=>by
 refine wpAny_AugAssign_AttributeAny (thn (ha Wj s σ H _ I h) fun ov s1 ⟨x,H1,I1,rx,q1⟩=>?_);obtain⟨a,rfl,q2⟩:=aR q1;obtain⟨dx,fs,ea,q3⟩:=mU q2;obtain⟨v,l,q⟩:=dD q3;obtain rfl:ov=Value.ref a:=rx;refine wA I1 ea c n l fun u s2 I2 ru=>thn (hv Wj s2 σ H1 _ I2 q) fun w3 s3 ⟨y,H2,I3,ry,q4⟩=>?_;obtain⟨i,rfl,q5⟩:=dZ q4;obtain⟨j,rfl,q6⟩:=dZ q5;obtain⟨dx',ZL,ea',l',q7⟩:=mU q6;refine thn (Q9 Wj s3 σ H2 (.int i) (.int j) u w3 (fun z H3=>z=.int (i+j)/\H3=H2) I3 ru ry ⟨i,j,rfl,rfl,rfl,rfl⟩) fun w4 s4 ⟨z,H3,I4,rz,ez,eH⟩=>?_;subst ez eH;exact xY I4 ea' c n l' rz fun s5 I5=>⟨σ,_,I5,q7⟩
end
section
variable{C dx:Addr}{fs:List (Str×V)}{k:Addr->List (Str×V)->Prop}{m f:Str}{sp:Sp}{E:XK}{ta tv:TE}{t:TA}{Q:VK}{D:Ends}{v u:V}{r:List (Str×V)}
mutual
example:=[Str.ofString x,((Str.ofString y,v)::r),fs.lookup f]
def Gg{u:Tg k}:@iM C (some (.ins C dx fs)) k u=k dx fs:=by simp[iM]
def SS:MI C f ta σ H Q=ta σ H fun x H1=>bE x fun a=>iM C (H1 a) fun _ fs=>iZ 2e0 fun v=>Q v H1:=rfl
def QY:Pa C f ta tv D σ H=tv σ H fun y H1=>ta σ H1 fun x H2=>bE x fun a=>iM C (H2 a) fun dx fs=>fs.length < 1000/\D.nx σ (Wk H2 a (.ins C dx (iV f y fs))):=rfl
def Qk:OW C f ta tv D σ H=ta σ H fun x H1=>bE x fun a=>iM C (H1 a) fun _ fs=>iZ 2e0 fun v=>tv σ H1 fun y H2=>gC v fun i=>gC y fun j=>iM C (H2 a) fun dx ZL=>ZL.length < 1000/\D.nx σ (Wk H2 a (.ins C dx (iV f (.int (i+j)) ZL))):=rfl
def J3:DU C m sp [] E ta t σ H Q=ta σ H fun x H1=>bE x fun a=>iM C (H1 a) fun _ fs=>fs.lookup m=none/\t σ H1 fun vs H2=>sp (.ref a::vs) H2 Q E:=by
 unfold DU
 congr 1
 funext x H1;refine propext ⟨fun⟨a,dx,fs,e,e1,l,h⟩=>?_,fun h=>?_⟩
 ·subst e;show iM C (H1 a) _;rw[e1,Gg];simp only[ϝ] at h;exact⟨l,h⟩
 ·obtain⟨a,rfl,h⟩:=aR h;obtain⟨dx,fs,e1,l,h⟩:=mU h;exact⟨a,dx,fs,rfl,e1,l,by simpa only[ϝ] using h⟩
def QP:Hk C sp [] E t σ H Q=t σ H fun vs H1=>∀ x dx,H1 x=none->H1 dx=none->dx≠x->sp (.ref x::vs) (Wk (Wk H1 dx (.own x)) x (.ins C dx [])) (fun v H2=>v=.Wl/\Q (.ref x) H2) E:=by
 unfold Hk;simp only[ϝ]
def Lh{x y:String}:(Str.ofString x=Str.ofString y)=(x=y):=bD
def J2{x y:String}:List.lookup 0e0 1e0=if x=y then some v else List.lookup 0e0 r:=by
 by_cases h:x=y
 ·subst h;simp[List.lookup]
 ·have:(Str.ofString x==Str.ofString y)=false:=Α9.mpr fun z=>h (Lh▸z);simp only[List.lookup,this,if_neg h]
def HR:List.lookup x ([]:List (Str×V))=none:=rfl
def QW{x y:String}:iV 0e0 u 1e0=if y=x then (Str.ofString y,u)::r else (Str.ofString y,v)::iV 0e0 u r:=by
 rw[show iV 0e0 u 1e0=(if Str.ofString y=Str.ofString x then (Str.ofString y,u)::r else (Str.ofString y,v)::iV 0e0 u r) from rfl];by_cases h:y=x
 ·rw[if_pos h,if_pos (by rw[h])]
 ·rw[if_neg h,if_neg fun z=>h (Lh▸z)]
def NB:iV x u []=[(x,u)]:=rfl
end
end
section
variable{Q:VK}{x:V}{p:Addr}{t:TA}{i:Int}{z:Str}{b:Bool}
end
def NH{a b:Str}:j7 (.str a) (.str b)=(a==b):=rfl
section
variable{o:Obj}
def Wm.ON(I:Wm X Wj σ H s)(e:H a=some (.WT o (.dK kvs)))(Xm:∀ ob u,X.H₀ a≠some (.WT ob u)):Wm X Wj σ (Wk H a (.dK kvs)) s:=by
 have nn:∀ {b:Addr},H b=none->b≠a:=fun h z=>by subst z;rw[e] at h;cases h
 refine⟨I.ok,I.os,I.bare,⟨I.base.keep,I.base.slot,fun b ob q n hx=>?_,I.base.there,fun b xs q=>?_,fun b ob u q=>?_,fun b ps q=>?_⟩,I.loc,I.cell,?_,fun x c hc=>?_,fun p hp=>?_,fun b u q=>?_,I.len⟩
 ·have:=I.base.free b ob q n hx;rw[aD (nn this)];exact this
 ·have:=I.base.zM b xs q;rw[aD (cL this e (by intro z;cases z))];exact this
 ·have h1:=I.base.vX b ob u q;rw[aD (fun z=>by subst z;exact Xm _ _ q)];exact h1
 ·obtain⟨more,h1⟩:=I.base.zL b ps q;exact⟨more,by rw[aD (cL h1 e (by intro z;cases z))];exact h1⟩
 ·rw[aD (nn I.free)];exact I.free
 ·rw[aD (nn (I.kG x c hc))];exact I.kG x c hc
 ·obtain⟨h1,h2,h3⟩:=I.pin p hp;exact⟨h1,by rw[aD (nn h2)];exact h2,h3⟩
 ·have own:∀ b c,H b=some (.own c)->Wk H a (.dK kvs) b=some (.own c):=fun b c q=>by rw[aD (cL q e (by intro z;cases z))];exact q
  have tup:∀ b xs,H b=some (.tup xs)->Wk H a (.dK kvs) b=some (.tup xs):=fun b c q=>by rw[aD (cL q e (by intro z;cases z))];exact q
  by_cases hb:b=a
  ·subst hb;rw[aA] at q;cases q;exact dU.zK (I.Ws b _ e).2 (fun _ _ _ z=>z) (fun b q=>own b _ q) tup
  ·rw[aD hb] at q;exact(I.Ws b u q).zK (fun _ _ _ z=>z) (fun b q=>own b _ q) tup
end
mutual
example:=[Wk H a (.dK kvs),.WT o (.dK kvs),.WT ob u]
def PJ(H₀:Hp)(D:Ends):Ends :=
 {nx:=fun σ H=>∃ a o kvs,H a=some 1e0/\(∀ ob u,H₀ a≠some 2e0)/\D.nx σ 0e0
  bk:=fun σ H=>∃ a o kvs,H a=some 1e0/\(∀ ob u,H₀ a≠some 2e0)/\D.bk σ 0e0
  ct:=fun σ H=>∃ a o kvs,H a=some 1e0/\(∀ ob u,H₀ a≠some 2e0)/\D.ct σ 0e0
  rt:=fun v H=>∃ a o kvs,H a=some 1e0/\(∀ ob u,H₀ a≠some 2e0)/\D.rt v 0e0}
def PF(H₀:Hp)(t:TS):TS:=fun D σ H=>t (PJ H₀ D) σ H
def Oq{st:Stmt}{t:TS}(h:PS X st t):PS X st (PF X.H₀ t):=fun Wj s σ H D I hq =>
 thn (h Wj s σ H _ I hq) fun f s' q=>by
  cases f with
  | next=>obtain⟨σ',H',I',a,o,kvs,e,Xm,q⟩:=q;exact⟨σ',_,I'.ON e Xm,q⟩
  | brk=>obtain⟨σ',H',I',a,o,kvs,e,Xm,q⟩:=q;exact⟨σ',_,I'.ON e Xm,q⟩
  | cont=>obtain⟨σ',H',I',a,o,kvs,e,Xm,q⟩:=q;exact⟨σ',_,I'.ON e Xm,q⟩
  | ret u=>obtain⟨v,σ',H',I',r,a,o,kvs,e,Xm,q⟩:=q;exact⟨v,σ',_,I'.ON e Xm,r,q⟩
def Sl(ty td:TE):TE:=fun σ H Q=>ty σ H fun y H1=>td σ H1 fun x H2=>bE x fun a=>dC (H2 a) fun kvs=>iZ (jH y) fun k=>Q (.bl (aW kvs k).isSome) H2
def Jv(td ty:TE):TE:=fun σ H Q=>td σ H fun x H1=>bE x fun a=>dC (H1 a) fun _=>ty σ H1 fun y H2=>dC (H2 a) fun kvs=>iZ (jH y) fun k=>iZ (aW kvs k) fun v=>Q v (Wk H2 a (.dK (sL kvs k)))
def Ju(td ty tx:TE):TE:=fun σ H Q=>td σ H fun x H1=>bE x fun a=>dC (H1 a) fun _=>ty σ H1 fun y H2=>tx σ H2 fun z H3=>dC (H3 a) fun kvs=>iZ (jH y) fun k=>Q ((aW kvs k).getD z) H3
def Bm{y:V}{k:Key}(h:jH y=some k):y=kV k:=by
 cases y<;>simp[jH] at h<;>subst h<;>rfl
end
section
variable{o e f:Expr}{apos Wu:Pos}{td ty tx:TE}
mutual
example:=[ho Wj s σ H _ I h,(thn 0e0 fun u s1 ⟨x,H1,I1,rx,q1⟩=>?_),he Wj s1 σ H1 _ I1 q3,(.inl ⟨WL,.inl e0⟩),(thn (hf Wj s2 σ H2 _ I2 q4) fun fv s3 ⟨z,H3,I3,rz,q5⟩=>Calls.spliced_nil ?_),bJ X.prog X.w]
def Lu(ho:PE X o td)(he:PE X e ty)(m:M1 X o "pop" apos e Wu):PE X (.Call (.Attribute o "pop" apos) [e] [] Wu) (Jv td ty):=fun Wj s σ H Q I h=>by
 refine wpAny_Call_method m.base m.X0 m.line Δ5 PySem.F.slot_dict_pop PySem.F.type_dict_pop 1e0;obtain⟨a,rfl,q2⟩:=aR q1;obtain⟨WL,e0,q3⟩:=dP q2;obtain rfl:u=Value.ref a:=rx;obtain⟨t1,t2,_⟩:=wG I1 3e0;refine⟨t1,t2,?_⟩;rw[m.trees];refine Β0 rfl (Δ6 (Δ0 (thn 2e0 fun iv s2 ⟨y,H2,I2,ry,q4⟩=>Calls.spliced_nil ?_)));obtain⟨kvs,ea,q5⟩:=dP q4;obtain⟨k,ek,q6⟩:=dD q5;obtain⟨v,l,q7⟩:=dD q6;cases Bm ek;exact Sx I2 ea ry l (.inl rfl) fun w' s3 I3 Xu=>⟨v,_,I3,Xu,q7⟩
def r8(hu:X.A.units+1 < cLine)(ho:PE X o td)(he:PE X e ty)(hf:PE X f tx)(m:M2 X o "get" apos e f Wu):PE X (.Call (.Attribute o "get" apos) [e,f] [] Wu) (Ju td ty tx):=fun Wj s σ H Q I h=>by
 refine wpAny_Call_method m.base m.X0 m.line Δ5 Γ6 PySem.F.type_dict_get 1e0;obtain⟨a,rfl,q2⟩:=aR q1;obtain⟨WL,e0,q3⟩:=dP q2;obtain rfl:u=Value.ref a:=rx;obtain⟨t1,t2,_⟩:=wG I1 3e0;refine⟨t1,t2,?_⟩;rw[m.trees];refine Β0 rfl (Δ6 (Δ0 (thn 2e0 fun iv s2 ⟨y,H2,I2,ry,q4⟩ =>
  Δ0 4e0)))
 obtain⟨kvs,ea,q6⟩:=dP q5;obtain⟨k,ek,q7⟩:=dD q6;cases Bm ek;exact Qb hu I3 (DGet.k ea) ry rz fun w' s4 I4 Xu=>⟨_,H3,I4,Xu,q7⟩
def GK(hu:X.A.units+1 < cLine)(hi:PE X e ty)(ho:PE X o td):PC X .In e o (Sl ty td):=fun Wj s σ H Q I h=>by
 refine thn (hi Wj s σ H _ I h) fun iv s1 ⟨y,H1,I1,ry,q1⟩=>thn (ho Wj s1 σ H1 _ I1 q1) fun u s2 ⟨x,H2,I2,rx,q2⟩=>?_;obtain⟨a,rfl,q3⟩:=aR q2;obtain⟨kvs,e0,q4⟩:=dP q3;obtain⟨k,ek,q5⟩:=dD q4;obtain rfl:u=Value.ref a:=rx;cases Bm ek;exact Vv hu I2 (DGet.k e0) ry fun s3 I3=>⟨.bl (aW kvs k).isSome,H2,I3,rfl,q5⟩
def FK(td:TE):TE:=fun σ H Q=>td σ H fun x H1=>bE x fun a=>dC (H1 a) fun _=>Q .Wl (Wk H1 a (.dK []))
def IC(ho:PE X o td)(Xj:attributeBase o "clear" X.env (eval o X.env)=eval o X.env:=by rfl)(Xl:(apos.endLine==Wu.line)=true:=by rfl):PE X (.Call (.Attribute o "clear" apos) [] [] Wu) (FK td):=fun Wj s σ H Q I h=>by
 refine wpAny_Call_method0_late Xj Xl (thn 0e0 fun v s1 ⟨x,H1,I1,r1,q1⟩=>?_);obtain⟨a,rfl,q2⟩:=aR q1;obtain⟨kvs,e0,q3⟩:=dP q2;obtain rfl:v=Value.ref a:=r1;obtain⟨t1,t2,_⟩:=wG I1 (.inl ⟨kvs,.inl e0⟩);refine⟨"dict","dict.clear",Δ5,PySem.F.slot_dict_clear,PySem.F.type_dict_clear,t1,t2,Β0 rfl (PySem.evalArgs_none ?_)⟩;obtain⟨z,hd,vs,rel,dd⟩:=vE I1.Ws e0;refine Ε1 PySem.F.slot_dict_clear dd.typeIs PySem.F.entry_dict_clear (PySem.F.args_dict_clear_1 _) (meets_dict_clear 5e0 a)
  ⟨vs,dd,by rw[<- rel.length];exact z,fun h' XU hs=>⟨.Wl,_,?_,rfl,q3⟩⟩
 have he:∃ q,h'.get? a=some q:=let ⟨q,_,_,hq,_⟩:=XU;⟨q,hq⟩;exact nK I1 (by rw[e0];exact True.intro) hs he (oV (Α5 _) hd .nil XU)
def OX(td ty tx:TE):TE:=fun σ H Q=>td σ H fun x H1=>bE x fun a=>dC (H1 a) fun _=>ty σ H1 fun y H2=>tx σ H2 fun z H3=>dC (H3 a) fun kvs=>iZ (jH y) fun k=>kvs.length < sizeLine /\
 (∀ v,aW kvs k=some v->Q v H3)/\(aW kvs k=none->Q z (Wk H3 a (.dK (aO kvs k z))))
theorem Lv(ho:PE X o td)(he:PE X e ty)(hf:PE X f tx)(m:M2 X o "setdefault" apos e f Wu):PE X (.Call (.Attribute o "setdefault" apos) [e,f] [] Wu) (OX td ty tx):=fun Wj s σ H Q I h=>by
 refine wpAny_Call_method m.base m.X0 m.line Δ5 PySem.F.slot_dict_setdefault PySem.F.type_dict_setdefault 1e0;obtain⟨a,rfl,q2⟩:=aR q1;obtain⟨WL,e0,q3⟩:=dP q2;obtain rfl:u=Value.ref a:=rx;obtain⟨t1,t2,_⟩:=wG I1 3e0;refine⟨t1,t2,?_⟩;rw[m.trees];refine Β0 rfl (Δ6 (Δ0 (thn 2e0 fun iv s2 ⟨y,H2,I2,ry,q4⟩ =>
  Δ0 4e0)))
 obtain⟨kvs,ea,q6⟩:=dP q5;obtain⟨k,ek,hl,q7,q8⟩:=dD q6;cases Bm ek;obtain⟨z',hd,vs,rel,dd⟩:=vE I3.Ws ea;refine Ε1 PySem.F.slot_dict_setdefault dd.typeIs PySem.F.entry_dict_setdefault (PySem.F.args_dict_setdefault_3 _ _ _) (kt_meets_setdefault 5e0 a (oG ry) hd fv)
  ⟨vs,dd,by rw[<- rel.length];exact z',fun v hv=>?_,fun hv h' XU hs=>?_⟩
 ·have:=rel.val k;rw[hv] at this;cases l:aW kvs k with
  | none=>rw[l] at this;exact this.elim
  | some w=>rw[l] at this;exact⟨w,H3,I3.tok _,this,q7 w l⟩
 ·have:=rel.val k;rw[hv] at this;cases l:aW kvs k with
  | some w=>rw[l] at this;exact this.elim
  | none =>
   have he:∃ q,h'.get? a=some q:=let ⟨q,_,_,hq,_⟩:=XU;⟨q,hq⟩;exact⟨z,_,nK I3 (by rw[ea];exact True.intro) hs he (oV (by have:=iD kvs k z;omega) hd (rel.put k rz) XU),rz,q8 l⟩
end
end
section
variable{td ty tx:TE}{H₀:Hp}{Q:VK}{t:TS}{D:Ends}{v:V}
mutual
example:=[]
def Q0:PF H₀ t D σ H=t (PJ H₀ D) σ H:=rfl
def Qs:Sl ty td σ H Q=ty σ H fun y H1=>td σ H1 fun x H2=>bE x fun a=>dC (H2 a) fun kvs=>iZ (jH y) fun k=>Q (.bl (aW kvs k).isSome) H2:=rfl
def Nk:Jv td ty σ H Q=td σ H fun x H1=>bE x fun a=>dC (H1 a) fun _=>ty σ H1 fun y H2=>dC (H2 a) fun kvs=>iZ (jH y) fun k=>iZ (aW kvs k) fun v=>Q v (Wk H2 a (.dK (sL kvs k))):=rfl
def J1:Ju td ty tx σ H Q=td σ H fun x H1=>bE x fun a=>dC (H1 a) fun _=>ty σ H1 fun y H2=>tx σ H2 fun z H3=>dC (H3 a) fun kvs=>iZ (jH y) fun k=>Q ((aW kvs k).getD z) H3:=rfl
def J0:FK td σ H Q=td σ H fun x H1=>bE x fun a=>dC (H1 a) fun _=>Q .Wl (Wk H1 a (.dK [])):=rfl
def Nl:OX td ty tx σ H Q=td σ H fun x H1=>bE x fun a=>dC (H1 a) fun _=>ty σ H1 fun y H2=>tx σ H2 fun z H3=>dC (H3 a) fun kvs=>iZ (jH y) fun k=>kvs.length < sizeLine/\(∀ v,aW kvs k=some v->Q v H3)/\(aW kvs k=none->Q z (Wk H3 a (.dK (aO kvs k z)))):=rfl
end
end
def OZ:V->V->Hp->VK->Prop:=fun x y H Q=>bE x fun p=>gC y fun i=>eF (H p) fun xs=>iZ (gI xs i) fun v=>Q v H
def Sq:TIp:=fun x y H Q=>gC x fun i=>gC y fun j=>Q (.int (i+j)) H
section
theorem TQ:PGet X OZ:=fun Wj s σ H o i ov iv Q I ro ri h=>by
 obtain⟨p,rfl,h1⟩:=aR h;obtain⟨k,rfl,h2⟩:=dZ h1;obtain⟨xs,e,h3⟩:=eX h2;obtain⟨v,ea,q⟩:=dD h3;cases ro;obtain⟨t,rfl⟩:=ri;obtain⟨Wn,r,pl,hz⟩:=I.list (eU.of e);obtain⟨j,g1,g2,g3,g4,g5⟩:=tT ea;obtain⟨w,ew,Xu⟩:=r.get g2;have hl:=r.length;have hn:=line63;have fin:EP X Wj σ Q w s:=⟨v,H,I,Xu,q⟩;by_cases h0:0<=k
 ·have hj:k.toNat=j:=by
   rw[seqIndex_of h0 g5] at g1;exact ϖ g1
  exact wpAny_getItem_list pl.isList h0 (by omega) (by rw[hj];simpa using ew) fin
 ·have hj:(k+(Wn.toArray.size:Int)).toNat=j:=by
   rw[seqIndex_neg (by omega) g4] at g1;rw[Ε,<- hl];exact ϖ g1
  exact wpAny_getItem_list_neg pl.isList (by omega) (by rw[Ε];omega) (by omega) (by rw[hj];simpa using ew) fin
def Gy:PIp X .Add Sq:=fun Wj s σ H x y v u Q I r1 r2 h=>by
 obtain⟨i,rfl,h1⟩:=dZ h;obtain⟨j,rfl,q⟩:=dZ h1;exact Ra Wj s σ H _ _ v u Q I r1 r2 ⟨i,j,rfl,rfl,q⟩
end
structure Sh(P:Params)(K:q0B)(d:Addr):Prop where
 ex:∃ es n,K.lookup d=some {cls:=.type "dict",data:=.dict es n}/\PySem.W.KeysLit P es.toList
noncomputable def Pz(tab:List (Str×Sp))(tk:TE)(t:TA):TE:=fun σ H Q=>tk σ H fun y H1=>Dg y fun x=>iZ (tab.lookup x) fun sp=>t σ H1 fun vs H2=>sp vs H2 Q E0
theorem Og{p pos':Pos}{d:Addr}{ke e:Expr}{tk:TE}{t:TA}{k:Nat}{tab:List (Str×Sp)}(hg:Gl X x)(hm:X.mg x=some (.ref d))(M:Sh X.w.params X.K d)(hk:PE X ke tk)(hs:Mv ke)
    (F:∀ y sp,tab.lookup y=some sp->∃ f fd ps,PySem.W.nsIn X.K d y=some (some (.ref f))/\fS X.prog X.w X.K X.mg X.base Xq k f fd ps sp/\PySem.W.keepIn X.K (.ref f)=true/\Binds X.K fd ps [])
    (hr:Room k X.A) (ha:PA X (e::es) t) (hd:(x==("__debug__":Str))=false:=by decide) (he:starEach (e::es) X.env=(false,eval e X.env)::starEach es X.env:=by rfl) (WV:(backTo pos (starEach es X.env)).any (·.1)=false:=by rfl)
    (hc:eval (.Call (.Subscript (.Name x p) ke pos') (e::es) [] pos) X.env=(do
      let f <- eval (.Subscript (.Name x p) ke pos') X.env
      callWith pos f [] (backTo pos (starEach (e::es) X.env)) (backToKw pos (keywordEach [] X.env))):=by rfl) :
    PE X (.Call (.Subscript (.Name x p) ke pos') (e::es) [] pos) (Pz tab tk t):=fun Wj s σ H Q I h=>by
  obtain⟨es',n',lk,kl⟩:=M.ex;refine PyProof.Rows.Call_ (Hh (T:="dict") PySem.F.slot_dict_getitem.lookup hs (thn (qK (v:=.ref d) hg hm rfl hd Wj s σ H (fun v H'=>v=.ref d/\tk σ H' _) I ⟨rfl,h⟩) fun o s1 ⟨v,H1,I1,r1,ev,q1⟩=>?_)) hc;subst ev;obtain rfl:o=Value.ref d:=r1;refine thn (hk Wj s1 σ H1 _ I1 q1) fun i s2 ⟨y,H2,I2,ry,q2⟩=>?_;obtain⟨z,rfl,q3⟩:=Ln q2;obtain⟨sp,el,q4⟩:=dD q3;obtain⟨f,fd,ps,Zj,hf,hkp,hb⟩:=F z sp el;obtain⟨t',rfl⟩:=ry;obtain⟨m,fr⟩:=I2.fr;refine⟨⟨_,I2.kIn _ _ lk,rfl⟩,PySem.W.topGetDict_K fr I2.mod.kin lk kl Zj ?_⟩;refine PySem.W.callWith_K (h₀:=X.base) I2.mod.kin hkp (thn (ha pos Wj _ σ H2 _ (I2.tok _) q4) fun us s3 ⟨vs,H3,I3,r3,q5⟩=>⟨I3.kIn,?_⟩) he WV;exact BL (E:=E0) hf hr hb .nil pass0 I3 r3 (by simpa using q5)
section
variable{tab:List (Str×Sp)}{tk to ti te:TE}{t:TA}{Q:VK}{D:Ends}{p:Addr}{i j:Int}{X7:V->V->Hp->VK->Prop}{tip:TIp}{X9:TSet}
mutual
example:=[]
def Qr:Pz tab tk t σ H Q=tk σ H fun y H1=>Dg y fun x=>iZ (tab.lookup x) fun sp=>t σ H1 fun vs H2=>sp vs H2 Q E0:=rfl
def QB:OZ (.ref p) (.int i) H Q=eF (H p) fun xs=>iZ (gI xs i) fun v=>Q v H:=rfl
def SW:Sq (.int i) (.int j) H Q=Q (.int (i+j)) H:=rfl
def Ql:Px to ti te X7 tip X9 D σ H=to σ H fun o H1=>ti σ H1 fun i H2=>X7 o i H2 fun x H3=>te σ H3 fun y H4=>tip x y H4 fun z H5=>X9 o i z H5 fun H6=>D.nx σ H6:=rfl
def SJ{i:Nat}{ti:TIp}:UC i te ti D σ H = ∃ x,σ[i]?=some (some x)/\te σ H fun y H1=>ti x y H1 fun z H2=>D.nx (σ.set i (some z)) H2:=rfl
end
end
mutual
example:=[]
def intKeys:List (Key×V)->Option (List Int)
 | []=>some []
 | (.inl i,_)::r=>(intKeys r).map (i::·)
 | _=>none
theorem wF:∀ {kvs:List (Key×V)} {ns:List Int},intKeys kvs=some ns->kvs.length=ns.length/\∀(j:Nat) (k:Key) (x:V),kvs[j]?=some (k,x)->∃ i:Int,k=.inl i/\ns[j]?=some i
 | [],ns,h=>by cases h;exact⟨rfl,fun j k x e=>by simp at e⟩
 | (k,v)::kvs,ns,h=>by
  cases k with
  | inl i =>
   simp only[intKeys,ϛ] at h;obtain⟨ms,e,rfl⟩:=h;obtain⟨l,f⟩:=wF e;refine⟨by simp[l],fun j k x ej=>?_⟩;cases j with
   | zero=>simp only[Ξ,Ο,Prod.mk.injEq] at ej;exact⟨i,ej.1.symm,rfl⟩
   | succ j=>exact f j k x (by simpa using ej)
  | _=>cases h
def Gu:∀ {vs:List Value},vs.length=ns.length->(∀(j:Nat) (v:Value),vs[j]?=some v->∃ i t,ns[j]?=some i/\v=Value.int i t)->IntsAre vs ns:=by
 induction ns with
 | nil =>
  intro vs hl _;cases vs with
  | nil=>exact .nil
  | cons _ _=>simp at hl
 | cons n ns ih =>
  intro vs hl h;cases vs with
  | nil=>simp at hl
  | cons v vs =>
   obtain⟨i,t,e,rfl⟩:=h 0 v rfl;cases e;exact .cons _ _ (ih (by simpa using hl) fun j v e=>h (j+1) v (by simpa using e))
def dU.there{o:HO}(x:dU P w H h a o):∃ ob,h.get? a=some ob:=by
 cases o with
 | lst xs=>obtain⟨_,_,_,_,e⟩:=x;exact⟨_,e⟩
 | tup xs=>obtain⟨_,_,_,o,e,_⟩:=x;exact⟨_,e⟩
 | dK kvs=>obtain⟨_,_,_,_,o,_,_,e,_⟩:=x;exact⟨_,e⟩
 | dT kvs=>obtain⟨_,_,_,_,o,_,_,e,_⟩:=x;exact⟨_,e⟩
 | set S n=>obtain⟨o,_,_,_,e,_⟩:=x;exact⟨_,e⟩
 | ins C dx fs=>obtain⟨_,_,_,e,_⟩:=x;exact⟨_,e⟩
 | own y=>obtain⟨_,e⟩:=x;exact⟨_,e⟩
 | xd fs=>obtain⟨_,⟨_,_,_,e,_⟩,_⟩:=x;exact⟨_,e⟩
 | rng lo hi=>obtain⟨_,_,_,e⟩:=x;exact⟨_,e⟩
 | WT ob u=>obtain⟨e,_⟩:=x;exact⟨_,e⟩
 | Z4 ps=>exact⟨_,(show h.get? a=some _ from x)⟩
 | met f y=>exact⟨_,(show h.get? a=some _ from x)⟩
 | ext φ=>obtain⟨_,⟨_,e⟩,_⟩:=x;exact⟨_,e⟩
end
section
variable{Q:VK}{p:Addr}
end
section
variable{h':Heap}
end
noncomputable def SOk(t:Bool)(h:Heap)(a:Addr)(us:Array Value):Prop:=match t with
 | true=>h.IsTuple a us
 | false=>h.IsList a us
section
variable{prog:Program}
end
section
variable{prog:Program}
end
section
variable{t:Bool}
end
section
variable{elts:List Expr}{k:Nat}{tp:Pos}
end
section
variable{D:Ends}{g:TG}{tb:TS}{as:TA}
end
structure kU(X:Cx)(sc:Scope)(cl:List (Str×Addr))(x y0:Str)(fr:List Nat)(N:List Str):Prop where
 kind:sc.kind=.function
 wV:∀ y∈sc.names,y.2≠.cell
 names:∀ y∈sc.names,y.2=.local->sc.names.lookup y.1=some .local
 Cn:closureFor sc X.env=pure cl
 sub:∀ y c,cl.lookup y=some c->X.env.cells.lookup y=some c
 has:∀ y,((relabel sc X.env).names.lookup y=some .cell\/(relabel sc X.env).names.lookup y=some .free)->∃ c,cl.lookup y=some c
 tgt:sc.names.lookup x=some .local
 Sa:sc.names.lookup y0=some .local
 nd:N.Nodup
 N0:N=x::y0::fr.map fun j=>X.N.getD j x
 Zs:∀ j∈fr,∃ y,X.N[j]?=some y/\X.env.kindOf y=some .cell/\((relabel sc X.env).names.lookup y=some .cell\/(relabel sc X.env).names.lookup y=some .free)
section
variable{sc:Scope}{C:Addr}{y0:Str}{N:List Str}
def JG(I:Wm X Wj σ H s)(S:kU X sc cl x y0 fr N)(hf:∀ b∈fp,mB X Wj H b)(X1:∀ b∈fp,b < s.heap.objs.size)(hC:s.heap.objs.size<=C) : (bQ X sc cl C N s H fp (X.pn++Wj)).Ok where
 mod:=I.ok.mod
 kind:=S.kind
 glob:=I.ok.glob
 blt:=I.ok.blt
 above:=hC
 inj:=fun n z c h1 h2=>I.ok.inj n z c (S.sub n c h1) (S.sub z c h2)
 has:=S.has
 cab:=fun _ _ h=>by cases h
 hd:=I.ok.hd
 frames:=I.ok.frames
 stk:=.inl rfl
 exf:=fun b hb=>⟨Ρ (Υ (X1 b hb) hC),fun n c e=>(hf b hb).2.2.2.2.1 n c (S.sub n c e)⟩
 bs:=I.bs
 bsz:=ϐ I.ok.bsz I.sz
 CZ:=fun b o e hb=>by
  rcases(hf b hb).2.2.2.1 with z|z
  ·exact I.ok.CZ b o e z
  ·exact absurd (Υ (Μ e) (ϐ I.ok.bsz z)) (Ϝ _)
 HU:=fun b hb hm=>by
  rcases Α.mp (I.pF b hm) with z|z
  ·exact(hf b hb).2.1 z
  ·exact(hf b hb).2.2.1 z
 pX:=I.stack
 frf:=I.BS
def HD(I:Wm X Wj σ H s)(S:kU X sc cl x y0 fr N)(hf:∀ b∈fp,mB X Wj H b)(X1:∀ b∈fp,b < s.heap.objs.size)(hC:s.heap.objs.size<=C){h1:Heap}{t1:Nat}{m0:q0C}(hn:h1.Ns C m0)(hk:∀ b o,s.heap.get? b=some o->h1.get? b=some o):Wm (bQ X sc cl C N s H fp (X.pn++Wj)) [] (none::none::aV fr σ) H {s with heap:=h1,toks:=t1}:=by
 refine⟨JG I S hf X1 hC,rfl,I.bare,Un.kept hk,⟨m0,hn,fun i y v e1 e2 e3=>?_⟩,fun y c e=>?_,I.Ws.fresh hC,fun y c e=>I.kG y c (S.sub y c e),fun p hp=>?_,I.Ws.kept hk,?_⟩
 ·have XA:N[i]?=some y:=e1;rw[S.N0] at XA
  match i,XA,e2 with
  | 0,_,e2=>exact absurd (show(some (none:Option V))=some (some v) from e2) (by simp)
  | 1,_,e2=>exact absurd (show(some (none:Option V))=some (some v) from e2) (by simp)
  | j+2,XA,e2 =>
   have Xg:(fr.map fun j=>X.N.getD j x)[j]?=some y:=XA;have YK:(aV fr σ)[j]?=some (some v):=e2;unfold aV at YK;rw[ϒ] at Xg YK;cases q:fr[j]? with
   | none=>rw[q] at Xg;cases Xg
   | some k =>
    rw[q] at Xg YK;have ey:X.N.getD k x=y:=ϖ Xg;have ev:(σ[k]?).join=some v:=ϖ YK;obtain⟨y',hy,Xk,Y4⟩:=S.Zs k (Α1 q);have eyy:y=y':=by
     rw[<- ey,Ε2,hy];rfl
    subst eyy;have ev':σ[k]?=some (some v):=by
     cases z:σ[k]? with
     | none=>rw[z] at ev;cases ev
     | some o =>
      rw[z] at ev;have ev2:o=some v:=ev;rw[ev2]
    obtain⟨m,_,hl⟩:=I.loc;obtain⟨u,r,l⟩:=hl k y v hy ev' (.inr (.inl Xk));refine⟨u,r,.inr ⟨Y4,?_⟩⟩;rcases l with⟨z,_⟩|⟨_,c,hc,o,ho,hd⟩
    ·rw[Xk] at z;cases z
    ·obtain⟨c',YU⟩:=S.has y Y4;have z:=S.sub y c' YU;rw[hc] at z;cases z;exact⟨c,YU,o,hk c o ho,hd⟩
 ·obtain⟨v,o,ho,hd⟩:=I.cell y c (S.sub y c e);exact⟨v,o,hk c o ho,hd⟩
 ·have hp':p∈X.pn++Wj:=by
   have z:p∈(X.pn++Wj)++[]:=hp;simpa using z
  obtain⟨e,n,ne,nf,d⟩:=I.pin p hp';exact⟨hk _ _ e,n,Ρ (Υ (Μ e) hC),nostk I ne nf,d⟩
 ·show(none::none::aV fr σ).length=N.length;rw[S.N0];simp[aV]
end
@[irreducible] def yH(K:q0B)(wi:TI)(fr:List Nat)(tc:TT)(te:TE):TE:=fun σ H Q=>wi σ H fun J H1=>∃ W:Nat->Nat->List V->Hp->Prop,(∃ m,W 0 m [] H1)/\∀ i m xs H,W i m xs H->xs.length<=1000000 /\
  ((J.stop i H/\∀ p,H p=none->Q (.ref p) (Wk H p (.lst xs))) \/
   (J.go i H/\∀ v H',J.Yj i H v H'->∃ p y y2,v=.ref p/\g8 K H' p [y,y2]/\tc (some y::some y2::aV fr σ) H' fun b H2=>if b=true then te (some y::some y2::aV fr σ) H2 (fun z H3=>∃ m',m' < m/\W (i+1) m' (xs++[z]) H3) else ∃ m',m' < m/\W (i+1) m' xs H2))
section
variable{sc:Scope}{y0:Str}{N:List Str}{elt iter:Expr}{px py tp:Pos}{tk:Nat}{ifs:List Expr}{wi:TI}{tc:TT}{te:TE}
theorem Cp(hc:X.calm=true)(hx:∀ e s,¬ X.xe e s)(S:kU X sc cl x y0 fr N)(hb:∀ C s H ex pn,ZG (bQ X sc cl C N s H ex pn) ifs tc/\PE (bQ X sc cl C N s H ex pn) elt te){J:It}{Q:VK}(I:Wm X Wj σ H s)(T:Turn X.prog X.w X.K (.Tuple [.Name x px,.Name y0 py] tk tp) J fp it tn)(st:tn 0 s.heap)(hf:∀ b∈fp,mB X Wj H b){m0:Nat}(w0:W 0 m0 [] H)(turn:∀ i m xs H,W i m xs H->xs.length<=1000000 /\ ((J.stop i H/\∀ p,H p=none->Q (.ref p) (Wk H p (.lst xs))) \/ (J.go i H/\∀ v H',J.Yj i H v H'->∃ p y y2,v=.ref p/\g8 X.K H' p [y,y2]/\tc (some y::some y2::aV fr σ) H' fun b H2=>if b=true then te (some y::some y2::aV fr σ) H2 (fun z H3=>∃ m',m' < m/\W (i+1) m' (xs++[z]) H3) else ∃ m',m' < m/\W (i+1) m' xs H2)))(fin:∀(D C:Addr) (s':Shared) (m':q0C) (H':Hp),s'.heap.Ns C m'->mB X Wj H' C->(∀ h',Heap.SameBut C s'.heap h'->Wm X Wj σ H' {s' with heap:=h'})->Q (.ref D) H'->RR (.ref D) C (.ok .next) s') : wpAny (model X.prog X.w) X.A (newList []) (fun acc s₃=>wpAny (model X.prog X.w) X.A (newFunctionEnv sc X.env.globals cl [] X.env.qual none .none (some X.env)) (fun YI s₄ => codeAny (model X.prog X.w) X.A (.compStart (.ListComp elt [⟨.Tuple [.Name x px,.Name y0 py] tk tp,iter,ifs,0⟩] sc pos) 0 (.ref it) acc {YI with scope:=relabel sc X.env}) (RR acc YI.locals) s₄) E s₃) E s:=by
  refine Β6 (wpAny_newFunctionEnv S.wV (by intro y hy;simp at hy) (fun h₁ X2 XC=>?_) S.kind);dsimp only at X2 XC ⊢;generalize hH2:s.heap.push {cls:=.type "list",dict:=none,data:=.seq ([]:List Value).toArray}=G2 at X2 XC ⊢;have hCs:G2.objs.size=s.heap.objs.size+1:=by rw[<- hH2,Heap.size_push]
  have Yo:s.heap.objs.size≠G2.objs.size:=by rw[hCs];exact Ρ (Nat.lt_succ_self _)
  have hC:s.heap.objs.size<=G2.objs.size:=by rw[hCs];exact Δ1 _
  have below:∀ b,b < s.heap.objs.size->b≠G2.objs.size:=fun b hb=>by rw[hCs];exact Ρ (Nat.lt_succ_of_lt hb)
  have old:∀ b o,s.heap.get? b=some o->h₁.get? b=some o:=fun b o e=>XC.extBut b o (below b (Μ e)) (Ζ _ (hH2▸Ζ _ e));have hD1:h₁.get? s.heap.objs.size=some {cls:=.type "list",data:=.seq ([]:List Value).toArray 0}:=XC.extBut _ _ Yo (Ζ _ (hH2▸Χ _ rfl));have X1:∀ b∈fp,b < s.heap.objs.size:=fun b hbm=>by
    obtain⟨o,e,_⟩:=T.obj 0 s.heap st b hbm;exact Μ e
  have YQ:H s.heap.objs.size=none:=I.Ws.fresh (Ι _);have aaA:s.heap.objs.size∉frs X.stack:=fun hm=>by
    rcases Α.mp (I.pF _ hm) with z|z
    · exact absurd I.lt (by rw[<- z];exact Ϝ _)
    · exact I.Rr (Ι _) z
  have YF:∀ y c,cl.lookup y=some c->c≠s.heap.objs.size:=fun y c e z=>by
    obtain⟨v,q⟩:=I.cell y c (S.sub y c e);exact absurd q.lt (by rw[z];exact Ϝ _)
  have Z9:∀ p∈X.pn++Wj,p.1≠s.heap.objs.size:=fun p hp z=>absurd (Μ (I.pin p hp).1) (by rw[z];exact Ϝ _);have Dfp:s.heap.objs.size∉fp:=fun hm=>Ϝ _ (X1 _ hm);have loop:∀ s₃:Shared,s₃={s with heap:=h₁,toks:=s.toks+([]:List (Str×Value)).length} ->
      codeAny (model X.prog X.w) X.A (.compLoop (.ListComp elt [⟨.Tuple [.Name x px,.Name y0 py] tk tp,iter,ifs,0⟩] sc pos) 0 (.ref it) (.ref s.heap.objs.size) (compEnvC sc cl G2.objs.size X.env)) (RR (.ref s.heap.objs.size) G2.objs.size) s₃:=by
    rintro s₃ rfl;have I0:Wm (bQ X sc cl G2.objs.size N s H fp (X.pn++Wj)) [] (none::none::aV fr σ) H {s with heap:=h₁,toks:=s.toks+([]:List (Str×Value)).length}:=HD I S hf X1 hC X2 old;refine sI (fun n s'=>∃(i:Nat) (xs:List V) (vals:List Value) (k:Nat) (v0 v1:Option V) (H':Hp),Wm (bQ X sc cl G2.objs.size N s H fp (X.pn++Wj)) [] (v0::v1::aV fr σ) H' s'/\tn i s'.heap/\(∀ b∈fp,H' b=none) /\
      s'.heap.get? s.heap.objs.size=some {cls:=.type "list",data:=.seq vals.toArray k}/\Wq xs vals/\H' s.heap.objs.size=none/\W i n xs H') ?_ m0
      ⟨0,[],[],0,none,none,H,I0,T.keep _ _ _ st fun b _ o e=>old b o e,fun b hb=>(hf b hb).1,hD1,.nil,YQ,w0⟩
    rintro n s1 ⟨i,xs,vals,k,v0,v1,H1,I1,st1,fr1,hg1,ZD,aaD,w1⟩;have hlen:=ZD.length;obtain⟨hz,step⟩:=turn i n xs H1 w1;have Zy:xs.length<=sizeLine:=ϐ hz (by decide);have Xp:∀ {H':Hp} {pl:List (Addr×Obj)},(∀ b∈fp,H' b=none)->(∀ p∈pl,p.1=s.heap.objs.size)->∀ b∈fp,mB (bQ X sc cl G2.objs.size N s H fp (X.pn++Wj)) pl H' b:=fun {H' pl} hn WV b hb =>
      ⟨hn b hb,below b (X1 b hb),nostk I (hf b hb).2.1 (hf b hb).2.2.1,.inl hb,fun y c e=>(hf b hb).2.2.2.2.1 y c (S.sub y c e),fun p hp z=>by
        rcases Κ.mp hp with q|q
        · exact(hf b hb).2.2.2.2.2 p q z
        · exact Dfp (by rw[<- WV p q,z];exact hb)⟩
    have I1':Wm (bQ X sc cl G2.objs.size N s H fp (X.pn++Wj)) [(s.heap.objs.size,{cls:=.type "list",data:=.seq vals.toArray k})] (v0::v1::aV fr σ) H1 s1:=I1.jP fun p hp=>by
      have e:p=(s.heap.objs.size,{cls:=.type "list",data:=.seq vals.toArray k}):=by simpa using hp
      subst e;exact⟨hg1,aaD,Yo,aaA,fun v z=>by cases z⟩
    rcases step with⟨stop,hq⟩|⟨go,step⟩
    · refine thn (T.done (bQ X sc cl G2.objs.size N s H fp (X.pn++Wj)) rfl rfl rfl hc i [(s.heap.objs.size,{cls:=.type "list",data:=.seq vals.toArray k})] s1 _ H1 _ I1' (Xp fr1 fun p hp=>by
        have e:p=(s.heap.objs.size,{cls:=.type "list",data:=.seq vals.toArray k}):=by simpa using hp
        rw[e]) st1 stop) fun r s2 ⟨hr,I2⟩=>?_
      subst hr;obtain⟨g2,n2,_⟩:=I2.pin (s.heap.objs.size,{cls:=.type "list",data:=.seq vals.toArray k}) (Ψ _ (by simp));obtain⟨m2,Zi,_⟩:=I2.loc;have hCn:Wk H1 s.heap.objs.size (.lst xs) G2.objs.size=none:=by
        rw[aD (Ne.symm Yo)];exact I2.free
      exact fin s.heap.objs.size G2.objs.size s2 m2 _ Zi (I.HW hC hCn) (fun h' Ye=>Cq I hf I2 hC (Ι _) Yo n2 g2 ZD Zy Ye) (hq _ n2)
    · refine thn (T.item (bQ X sc cl G2.objs.size N s H fp (X.pn++Wj)) rfl rfl rfl hc i [(s.heap.objs.size,{cls:=.type "list",data:=.seq vals.toArray k})] s1 _ H1 _ I1' (Xp fr1 fun p hp=>by
        have e:p=(s.heap.objs.size,{cls:=.type "list",data:=.seq vals.toArray k}):=by simpa using hp
        rw[e]) st1 go) fun r s2 ⟨u,hr,h2⟩=>?_
      subst hr;refine thn h2 fun _ s3 ⟨vv,H3,I3,r3,y3,Zn,fr3⟩=>?_;have I3':=I3.pinned (Xp fr3 fun p hp=>by
        have e:p=(s.heap.objs.size,{cls:=.type "list",data:=.seq vals.toArray k}):=by simpa using hp
        rw[e]) (T.obj _ _ Zn)
      have back:∀ {σ9:St} {H9:Hp} {s9:Shared},Wm (bQ X sc cl G2.objs.size N s H fp (X.pn++Wj)) ([(s.heap.objs.size,{cls:=.type "list",data:=.seq vals.toArray k})]++sC fp s3.heap) σ9 H9 s9 ->
          tn (i+1) s9.heap/\(∀ b∈fp,H9 b=none)/\s9.heap.get? s.heap.objs.size=some {cls:=.type "list",data:=.seq vals.toArray k}/\H9 s.heap.objs.size=none:=fun {σ9 H9 s9} I9=>by
        refine⟨T.keep _ _ _ Zn fun b hb o e=>(I9.pin (b,o) (Ψ _ (Ψ _ (gW hb e)))).1,fun b hb=>?_,?_⟩
        · obtain⟨o,e,d⟩:=T.obj _ _ Zn b hb;exact(I9.pin (b,o) (Ψ _ (Ψ _ (gW hb e)))).2.1
        · obtain⟨a1,a2,_⟩:=I9.pin (s.heap.objs.size,{cls:=.type "list",data:=.seq vals.toArray k}) (Ψ _ (List.mem_append_left _ (by simp)));exact⟨a1,a2⟩
      have hN0:(bQ X sc cl G2.objs.size N s H fp (X.pn++Wj)).N[0]?=some x:=by
        show N[0]?=some x;rw[S.N0];rfl
      have hN1:(bQ X sc cl G2.objs.size N s H fp (X.pn++Wj)).N[1]?=some y0:=by
        show N[1]?=some y0;rw[S.N0];rfl
      have YZ:(relabel sc X.env).names.lookup x=some .local:=lookup_relabel_local S.tgt;have ZS:(relabel sc X.env).names.lookup y0=some .local:=lookup_relabel_local S.Sa;have hpg:PG (bQ X sc cl G2.objs.size N s H fp (X.pn++Wj)) (.Tuple [.Name x px,.Name y0 py] tk tp) (NJ X.K 2 (Gn (jJ 0) (Gn (jJ 1) NI))):=LA hc (eZ (uF (i:=0) S.nd hN0 (.inl YZ) (.inr YZ)) (eZ (uF (i:=1) S.nd hN1 (.inl ZS) (.inr ZS)) uG));have noX:∀ e s',(bQ X sc cl G2.objs.size N s H fp (X.pn++Wj)).xe e s'->sR X.prog X.w X.A (compEnvC sc cl G2.objs.size X.env) (RR (.ref s.heap.objs.size) G2.objs.size) e s':=fun e s' z=>(hx e s' z).elim;obtain⟨pp,y,y2,rfl,hpp,Y3⟩:=step vv H3 y3;refine Α4 (hpg _ s3 _ H3 (.ref pp) u (fun σ' H'=>σ'=some y::some y2::aV fr σ/\H'=H3) I3' r3 ⟨pp,[y,y2],rfl,hpp,rfl,_,_,rfl,_,_,rfl,rfl,rfl,rfl⟩) (fun _ s4 ⟨σ4,H4,I4,e4,e4'⟩=>?_) noX;subst e4 e4';obtain⟨hbT,hbE⟩:=hb G2.objs.size s H fp (X.pn++Wj);refine Α4 (hbT _ s4 _ H4 _ I4 Y3) (fun ok s5 ⟨H5,I5,q5⟩=>?_) noX;cases ok with
      | false =>
        rw[if_neg Φ];have q5':∃ m',m' < n/\W (i+1) m' xs H5:=q5;obtain⟨m',hm,w5⟩:=q5';obtain⟨b1,b2,b3,b4⟩:=back I5;exact⟨m',hm,i+1,xs,vals,k,some y,some y2,H5,I5.jP (fun p hp=>absurd hp (by simp)),b1,b2,b3,ZD,b4,w5⟩
      | true =>
        rw[if_pos rfl];refine Α4 (hbE _ s5 _ H5 _ I5 q5) (fun z s6 ⟨v6,H6,I6,r6,q6⟩=>?_) noX;obtain⟨m',hm,w6⟩:=q6;obtain⟨b1,b2,b3,b4⟩:=back I6;refine call_meets F.slot_list_append ⟨_,b3,rfl⟩ F.entry_list_append (F.args_list_append_2 _ _) (PySem.list_append s.heap.objs.size vals.toArray k z (by rw[Ε];omega)) ⟨b3,?_⟩;have q7:=PySem.IsL.update b3 (fun a:Array Value=>a.push z);have Y2:vals.toArray.push z=(vals++[z]).toArray:=by simp
        rw[Y2] at q7;have I6':Wm (bQ X sc cl G2.objs.size N s H fp (X.pn++Wj)) [] (some y::some y2::aV fr σ) H6 s6:=I6.jP (fun p hp=>absurd hp (by simp));have others:∀ b o,b≠s.heap.objs.size->s6.heap.get? b=some o->(s6.heap.update s.heap.objs.size (Obj.mapSeq fun a=>a.push z)).get? b=some o:=fun b o WQ e=>(Heap.get?_update_other _ _ (Ne.symm WQ)).trans e;refine⟨m',hm,i+1,xs++[v6],vals++[z],_,some y,some y2,H6,I6'.turned (it:=s.heap.objs.size) others b4 Yo (.inr (Ι _)) YF (fun p hp z'=>?_),T.keep _ _ _ b1 fun b WQ o e=>others b o (fun z'=>Dfp (by rw[<- z'];exact WQ)) e,b2,q7,ZD.append (.cons r6 .nil),b4,w6⟩;have hp':p∈X.pn++Wj:=by
          have z2:p∈(X.pn++Wj)++[]:=hp;simpa using z2
        exact Z9 p hp' z'
  exact codeAny_compStart_list (loop _ rfl) (T.self _ _ _ _ _ (T.keep _ _ _ st fun b _ o e=>old b o e) (loop _ rfl))
end
def kU.of{sc:Scope}{y0:Str}{N M:List Str}(S:eR X sc cl x fr M)(Sa:sc.names.lookup y0=some .local)(nd:N.Nodup)(N0:N=x::y0::fr.map fun j=>X.N.getD j x):kU X sc cl x y0 fr N :=
 ⟨S.kind,S.wV,S.names,S.Cn,S.sub,S.has,S.tgt,Sa,nd,N0,S.Zs⟩
noncomputable def lc2(K:q0B)(J:It)(fr:List Nat)(tc:TT)(te:TE)(σ:St)(H:Hp)(Q:VK):Prop:=∃ W:Nat->Nat->List V->Hp->Prop,(∃ m,W 0 m [] H)/\∀ i m xs H,W i m xs H->xs.length<=1000000 /\
  ((J.stop i H/\∀ p,H p=none->Q (.ref p) (Wk H p (.lst xs))) \/
   (J.go i H/\∀ v H',J.Yj i H v H'->∃ p y y2,v=.ref p/\g8 K H' p [y,y2]/\tc (some y::some y2::aV fr σ) H' fun b H2=>if b=true then te (some y::some y2::aV fr σ) H2 (fun z H3=>∃ m',m' < m/\W (i+1) m' (xs++[z]) H3) else ∃ m',m' < m/\W (i+1) m' xs H2))
section
variable{tc:TT}{te:TE}{Q:VK}{as:TA}
end
section
variable{o:Expr}{to:TE}{apos Wu:Pos}
end
section
variable{Q:VK}{p:Addr}{to:TE}
theorem S7{a b:Bool}:RP (.bl a) (.bl b) H Q=Q (.bl (!decide (a=b))) H:=by simp only[RP,show Xo (.bl a) (.bl b)=true from rfl,V.bl.injEq,true_and]
end
section
variable{Q:VK}{p b:Addr}
end
section
variable{sc:Scope}{y0:Str}{N:List Str}{elt iter:Expr}{px px0 tp:Pos}{tk:Nat}{ifs:List Expr}{wi:TI}{tc:TT}{te:TE}
theorem Dq{py Y9:Pos}(hc:X.calm=true)(hx:∀ e s,¬ X.xe e s)(S:kU X sc cl x y0 fr N)(hi:PI X (.Tuple [.Name x px,.Name y0 px0] tk tp) iter wi)(hb:∀ C s H ex pn,ZG (bQ X sc cl C N s H ex pn) ifs tc/\PE (bQ X sc cl C N s H ex pn) elt te)(hN:X.N.Nodup)(hy:X.N[i]?=some y)(hl:Loc X.env.scope y)(hsw:swapsWith (.ListComp elt [⟨.Tuple [.Name x px,.Name y0 px0] tk tp,iter,ifs,0⟩] sc pos) (some (.Name y py)) Y9.line X.env=pure true:=by rfl)(hs:∀ v,foldedSetIterable iter X.env v=pure v:=by intro _;rfl)(hf:X.fn y=true\/X.env.scope.names.lookup y=some .local:=by first|exact .inl rfl|exact .inr rfl|assumption) : PS X (.Assign [.Name y py] (.ListComp elt [⟨.Tuple [.Name x px,.Name y0 px0] tk tp,iter,ifs,0⟩] sc pos) Y9) (IT (yH X.K wi fr tc te) (jJ i)):=by
 intro Wj s σ H D I h;have h:yH X.K wi fr tc te σ H (fun x H1=>jJ i x σ H1 D.nx):=h;unfold yH at h;rw[exec_Assign_Name_used _ _ _ _ hsw];refine Β (wpAny_standAt (Β ?_));show wpAny _ X.A (do let _ <- comprehension (.ListComp elt [⟨.Tuple [.Name x px,.Name y0 px0] tk tp,iter,ifs,0⟩] sc pos) sc X.env _ (newList []) false (eval iter X.env) (some (assign (.Name y py) X.env))) _ _ s;refine Β (Α4 (wpAny_comprehension_free (use:=some (assign (.Name y py) X.env)) (Q:=fun _ s'=>SP X Wj D .next s') rfl hs S.Cn S.kind S.names
  (thn (hi Wj s σ H _ I h) fun v s1 h1=>thn h1 fun itv s2 h2=>?_)) (fun _ s' hq=>Θ (Θ hq)) fun _ _ e=>e)
 obtain⟨it,fp,tn,J,H2,e,I2,T,X6,f2,W,⟨m0,w0⟩,turn⟩:=h2;subst e;refine Cp (Q:=fun x H1=>jJ i x σ H1 D.nx) (RR:=fun acc C=>compPost (model X.prog X.w) X.A X.xe (some (assign (.Name y py) X.env)) (fun _ s'=>SP X Wj D .next s') acc C) hc hx S hb I2 T X6 f2 w0 turn ?_;intro D' C s' m' H' hn fC YY q;show wpAny _ X.A (assign (.Name y py) X.env (.ref D')) _ _ _;have I':Wm X Wj σ H' s':=YY s'.heap (Heap.SameBut.refl ..);refine wpAny_assign_Name (sH (v:=.ref D') I' hN hy hl rfl (fun s'' I'' ⟨a,hsa,ha⟩=>?_) hf);obtain⟨f0,f1,f2',f3,f4,f5⟩:=fC;have hCa:C≠a:=fun z=>by
  rcases ha with ha|ha
  ·exact f1 (z.trans ha)
  ·exact f4 y a ha z.symm
 refine⟨m',hn.sameBut hsa hCa,fun h' Ye=>?_⟩;exact⟨σ.set i (some (.ref D')),H',I''.turned (t':=s''.toks) (fun b o WQ e=>(Ye.2 b WQ).trans e) f0 f1 f3 f4 f5,q⟩
end
section
variable{a b:TS}{D:Ends}
def bW(h:∀ R:St->Hp->Prop,(∀ σ' H',b D σ' H'->R σ' H')->a {D with nx:=R} σ H):yJ a b D σ H:=h (b D) fun _ _ x=>x
end
section
variable{td ty tv:TE}{X8:List (TE×TE)}{tk:TE}{Q:VK}{D:Ends}
def J7:pG [] σ H R=R [] H:=rfl
def Nz:pG ((tk,tv)::X8) σ H R=tk σ H fun x H1=>tv σ H1 fun y H2=>pG X8 σ H2 fun ps H3=>R ((x,y)::ps) H3:=rfl
end
section
variable{W:World}{dd:Addr}{es:Array DictEntry}{ep:Nat}
end
section
open PySem.W
def Pm(n:Nat)(p:Array Nat):Prop:=p.Perm (List.toArray (List.range n))
variable{p:Array Nat}
def Pm.get(h:Pm n p)(hn:0 < n)(i:Nat):p.getD i 0 < n:=by
 by_cases hi:i < p.size
 ·have m:p[i]∈p:=Array.getElem_mem hi;have:=h.mem_iff.mp m;simp only[List.mem_toArray,List.mem_range] at this;simpa[Array.getD,hi] using this
 ·simpa[Array.getD,hi] using hn
end
section
open PySem.W
variable{W:World}
end
def KT.at{kvs:List (List Key×V)}{xs:List (List Key×Addr×Value)}(r:KT H kvs xs):∀ {j:Nat} {x:List Key×Addr×Value},xs[j]?=some x->∃ kv,kvs[j]?=some kv/\H x.2.1=some (.tup (kv.1.map kV)):=by
 induction r with
 | nil=>intro j x e;simp at e
 | cons h _ ih =>
  intro j x e;cases j with
  | zero=>simp only[Ξ,Ο] at e;subst e;exact⟨_,rfl,h.2.1⟩
  | succ j=>exact ih (by simpa using e)
section
variable{W:World}{b:Addr}{es fs:Array DictEntry}{ep fp:Nat}
end
section
variable{tg:Expr}
end
section
variable{D:Ends}{g:TG}{tb:TS}{as:TA}{Q:VK}{b:Addr}{p:Addr}
def Qt{X8:List (TE×TE)}:PB X8 σ H Q = ∀ p,H p=none->pG X8 σ (Wk H p (.dK [])) fun ps H2=>H2 p=some (.dK [])/\∃ kvs:List (Key×V),ps=kvs.map (fun kv=>(kV kv.1,kv.2))/\kvs.length<=15/\Q (.ref p) (Wk H2 p (.dK (dR [] kvs))):=rfl
end
section
variable{Q:VK}{x:V}{p:Addr}{i:Int}{z:Str}
end
def UH(ta tb:TE):TE:=fun σ H Q=>ta σ H fun x H1=>iZ (yL H1 x) fun c=>if c=true then Q x H1 else tb σ H1 Q
section
variable{a b:Expr}{rest:List Expr}{ta tb:TE}
def RJ(ha:PE X a ta)(hb:PE X (.BoolOp .Or (b::rest) pos) tb):PE X (.BoolOp .Or (a::b::rest) pos) (UH ta tb):=by
 intro Wj s σ H Q I h;refine BoolOp_or (thn (ha Wj s σ H _ I h) fun v s1 ⟨x,H1,I1,r1,q1⟩=>?_);obtain⟨k,e,q⟩:=dD q1;refine thn (Fp Wj s1 σ H1 x v (fun c H2=>c=k/\H2=H1) I1 r1 ⟨k,BW e,rfl,rfl⟩) fun c s2 ⟨H2,I2,e1,e2⟩=>?_;subst e1 e2;cases c with
 | true=>exact⟨x,_,I2,r1,q⟩
 | false=>exact hb Wj s2 σ _ Q I2 q
end
mutual
example:=[ns.map V.int]
def Ll(x:V)(k:Int->Prop)(_u:Tg k:=()):Prop:=match x with
 | .Wl=>k 0
 | .int i=>k i
 | _=>False
def UG(ta:TE):TE:=fun σ H Q=>ta σ H fun x H1=>Ll x fun i=>Q (.int i) H1
def BG{a b:Expr}{rest:List Expr}{ta:TE}(ha:PE X a ta)(hb:PE X (.BoolOp .Or (b::rest) pos) (tC (.int 0))):PE X (.BoolOp .Or (a::b::rest) pos) (UG ta):=by
 intro Wj s σ H Q I h;refine BoolOp_or (thn (ha Wj s σ H _ I h) fun v s1 ⟨x,H1,I1,r1,q1⟩=>?_);have hk:∃ k,yL H1 x=some k/\(if k=true then Q x H1 else Q (.int 0) H1):=by
  cases x with
  | Wl=>exact⟨false,rfl,q1⟩
  | int i =>
   refine⟨i !=0,rfl,?_⟩;by_cases hi:i=0
   ·subst hi;exact q1
   ·rw[if_pos (by simpa using hi)];exact q1
  | _=>exact q1.elim
 obtain⟨k,e,q⟩:=hk;refine thn (Fp Wj s1 σ H1 x v (fun c H2=>c=k/\H2=H1) I1 r1 ⟨k,BW e,rfl,rfl⟩) fun c s2 ⟨H2,I2,e1,e2⟩=>?_;subst e1 e2;cases c with
 | true=>exact⟨x,_,I2,r1,q⟩
 | false=>exact hb Wj s2 σ _ Q I2 q
def Dn(i:Int)(ns:List Int):Option Nat:=ns.findIdx? fun j=>decide (j=i)
def Su:V->List V->Hp->VK->Prop:=fun x vs H Q=>bE x fun l=>on1 vs fun y=>gC y fun i=>∃ ns:List Int,H l=some (.lst 0e0)/\iZ (Dn i ns) fun k=>Q .Wl (Wk H l (.lst ((ns.eraseIdx k).map V.int)))
theorem yO:∀ {ns:List Int} {us:List Value},Wq 0e0 us->∀(j:Nat) (h:j < us.length) (h':j < ns.length),∃ k:Tok,us[j]=.int ns[j] k
 | [],_,.nil,j,h,_=>absurd h (by simp)
 | n::ns,u::us,.cons r t,0,_,_=>r
 | n::ns,u::us,.cons r t,j+1,h,h'=>yO (ns:=ns) (us:=us) t j (by simpa using h) (by simpa using h')
theorem vP:∀(ns:List Int) (k:Nat),(ns.map V.int).eraseIdx k=(ns.eraseIdx k).map V.int
 | [],_=>rfl
 | _::_,0=>rfl
 | n::ns,k+1=>by simp only[ϓ,List.eraseIdx_cons_succ,vP ns k]
end
section
theorem Bt:OU X "list.remove" Su:=fun Wj s σ H x vs v us Q I rx rv h=>by
 obtain⟨l,rfl,h1⟩:=aR h;obtain⟨y,rfl,h2⟩:=lK h1;obtain⟨i,rfl,ns,hH,h3⟩:=dZ h2;obtain⟨k,ek,q⟩:=dD h3;cases rx;obtain⟨u,rfl,ru⟩:=rv.one;obtain⟨t,rfl⟩:=ru;obtain⟨z,Wn,n,r,hl,e⟩:=I.Bq hH;have hl':Wn.length=ns.length:=by rw[<- r.length,Δ]
 obtain⟨hk,hk1,hk2⟩:=List.findIdx?_eq_some_iff_getElem.mp ek;have isI:∀(j:Nat) (h:j < Wn.length),∃ tk:Tok,Wn[j]=.int (ns[j]'(by omega)) tk:=fun j h=>yO r j h (by omega);obtain⟨g,hg⟩:∃ g:Value->Bool,g=fun y=>(match y with | .int a _=>a==i|_=>false):=⟨_,rfl⟩;refine call_meets Δ2 ⟨_,e,rfl⟩ PySem.F.entry_list_remove (PySem.F.args_list_remove_2 _ _)
  (MeetsSeq.list_remove l Wn.toArray n (.int i t) g (fun y hy=>?_) k (by simp only[Ε];omega) ?_ ?_ (by rw[Ε];omega)) ⟨e,?_⟩
 ·obtain⟨j,hj,rfl⟩:=Array.mem_iff_getElem.mp hy;obtain⟨tk,et⟩:=isI j (by simpa using hj);rw[List.getElem_toArray,et,hg];exact MeetsSeq.EqGives.int _ _ _ _
 ·obtain⟨tk,et⟩:=isI k (by omega);rw[List.getElem_toArray,et,hg];simpa using hk1
 ·intro m hm WS;obtain⟨tk,et⟩:=isI m (by simpa using hm);rw[List.getElem_toArray,et,hg];simpa using hk2 m WS
 ·refine⟨.Wl,_,I.wN (its':=Wn.eraseIdx k) hH e ?_ ?_ ?_,rfl,q⟩
  ·show Wn.toArray.eraseIdxIfInBounds k=(Wn.eraseIdx k).toArray;rw[List.eraseIdxIfInBounds_toArray]
  ·rw[show(ns.eraseIdx k).map V.int=(ns.map V.int).eraseIdx k by rw[vP]];exact r.eraseIdx k
  ·have:=rM ns k;simp only[Δ] at this ⊢;omega
end
section
variable{Q:VK}{ta tb:TE}{i:Int}
mutual
example:=[]
def Th:UH ta tb σ H Q=ta σ H fun x H1=>iZ (yL H1 x) fun c=>if c=true then Q x H1 else tb σ H1 Q:=rfl
def Tf:UG ta σ H Q=ta σ H fun x H1=>Ll x fun i=>Q (.int i) H1:=rfl
def Ta{k:Int->Prop}{u:Tg k}:Ll (.int i) k u=k i:=rfl
def Tb{k:Int->Prop}{u:Tg k}:Ll .Wl k u=k 0:=rfl
def To:Su (.ref l) [.int i] H Q = ∃ ns:List Int,H l=some (.lst (ns.map V.int))/\iZ (Dn i ns) fun k=>Q .Wl (Wk H l (.lst ((ns.eraseIdx k).map V.int))):=rfl
end
end
mutual
example:=[(by omega),lo+hi,(by simpa using ZR)]
def Rising(l:List Nat):Prop:=l.Pairwise (· < ·)
theorem uW(xs:Array Nat)(j:Nat)(hr:Rising xs.toList):∀(fuel lo hi:Nat),hi - lo<=fuel->lo<=hi->hi<=xs.size -> (∀ i (h:i < xs.size),i < lo->xs[i] < j)->(∀ i (h:i < xs.size),hi<=i->j<=xs[i]) -> (∀ i (h:i < xs.size),i < SetTable.below.go xs j fuel lo hi->xs[i] < j)/\(∀ i (h:i < xs.size),SetTable.below.go xs j fuel lo hi<=i->j<=xs[i])/\SetTable.below.go xs j fuel lo hi<=xs.size
 | 0,lo,hi,hf,hl,hh,h1,h2=>by
  have:lo=hi:=by omega
  subst this;exact⟨h1,h2,hh⟩
 | fuel+1,lo,hi,hf,hl,hh,h1,h2=>by
  have mono:∀ i k (hi:i < xs.size) (hk:k < xs.size),i < k->xs[i] < xs[k]:=fun i k hi hk hik=>by
   have:=Ε6.mp hr i k (by simpa using hi) (by simpa using hk) hik;simpa using this
  unfold SetTable.below.go;by_cases c:lo < hi
  ·rw[if_pos c];have hm:1e0 / 2 < xs.size:=by omega
   have em:xs.getD (1e0 / 2) j=xs[1e0 / 2]:=by simp[Array.getD,hm]
   simp only[em];by_cases d:xs[1e0 / 2] < j
   ·rw[if_pos d];refine uW xs j hr fuel _ hi 0e0 0e0 hh (fun i h WS=>?_) h2;by_cases e:i=1e0 / 2
    ·subst e;exact d
    ·exact Nat.lt_trans (mono i _ h hm 0e0) d
   ·rw[if_neg d];refine uW xs j hr fuel lo _ 0e0 0e0 0e0 h1 (fun i h hle=>?_);by_cases e:i=1e0 / 2
    ·subst e;omega
    ·have:=mono _ i hm h 0e0;omega
  ·rw[if_neg c];have:lo=hi:=by omega
   subst this;exact⟨h1,h2,hh⟩
theorem oU(xs:Array Nat)(j:Nat)(hr:Rising xs.toList):(∀ i (h:i < xs.size),i < SetTable.below xs j->xs[i] < j)/\(∀ i (h:i < xs.size),SetTable.below xs j<=i->j<=xs[i])/\SetTable.below xs j<=xs.size :=
 uW xs j hr xs.size 0 xs.size 0e0 0e0 (Ι _) (fun i h WS=>absurd WS 0e0) (fun i h hle=>absurd h 0e0)
theorem zD{xs:Array Nat}(hr:Rising xs.toList)(hn:¬ xs[SetTable.below xs j]?=some j):Rising (SetTable.insertAt xs (SetTable.below xs j) j).toList:=by
 obtain⟨h1,h2,h3⟩:=oU xs j hr;rw[SetTable.toList_insertAt];generalize hb:SetTable.below xs j=b at *;unfold Rising at *;have split:=Ε3.mp (show(xs.toList.take b++xs.toList.drop b).Pairwise (· < ·) by rw[List.take_append_drop];exact hr);have lt:∀ x∈xs.toList.take b,x < j:=fun x hx=>by
  obtain⟨i,hi,rfl⟩:=List.mem_iff_getElem.mp hx;have ZR:i < b/\i < xs.size:=by simpa[Nat.lt_min] using hi
  have:=h1 i ZR.2 ZR.1;simpa using this
 have gt:∀ x∈xs.toList.drop b,j < x:=fun x hx=>by
  obtain⟨i,hi,rfl⟩:=List.mem_iff_getElem.mp hx;have ZR:b+i < xs.size:=by simp at hi;omega
  have hle:=h2 (b+i) ZR 0e0;have Xm:xs[b+i]≠j:=fun e=>by
   by_cases hz:i=0
   ·subst hz;exact hn (by rw[Γ8 2e0];simpa using e)
   ·have WQ:b < xs.size:=by omega
    have h0:=h2 b WQ (Ι _);have:=Ε6.mp hr b (b+i) (by simpa using WQ) 2e0 0e0;simp at this;omega
  have:xs.toList.drop b=xs.toList.drop b:=rfl;simp only[List.getElem_drop,Array.getElem_toList];omega
 refine Ε3.mpr ⟨split.1,List.pairwise_cons.mpr ⟨gt,split.2.1⟩,fun x hx y hy=>?_⟩;rcases Α.mp hy with rfl|hy
 ·exact lt x hx
 ·exact split.2.2 x hx y hy
theorem vQ{α:Type}:∀ {l:List α} {i:Nat} (h:i < l.length),(l[i]::l.eraseIdx i).Perm l
 | a::l,0,_=>by simp
 | a::l,i+1,h=>by
  have:=vQ (l:=l) (i:=i) (by simpa using h);simp only[List.getElem_cons_succ,List.eraseIdx_cons_succ];exact(List.Perm.swap _ _ _).trans (this.cons a)
theorem GQ{α:Type}(next:Nat->Nat):∀(fuel k:Nat) (left:List α) (out:Array α),fuel=left.length->∃ abF:Array α,pickOrder.go next fuel k left out=abF/\abF.toList.Perm (out.toList++left)
 | 0,k,left,out,h=>by
  have:left=[]:=List.length_eq_zero_iff.mp h.symm;subst this;exact⟨out,by simp[pickOrder.go],by simp⟩
 | fuel+1,k,left,out,h=>by
  have hp:0 < left.length:=by omega
  have hi:next k % left.length < left.length:=Nat.mod_lt _ hp
  obtain⟨o,e,p⟩:=GQ next fuel (k+1) (left.eraseIdx (next k % left.length)) (out.push left[next k % left.length]) (by rw[List.length_eraseIdx_of_lt hi];omega)
  refine⟨o,?_,p.trans ?_⟩
  ·rw[pickOrder.go,ϕ hi];exact e
  ·rw[Array.toList_push,List.append_assoc];refine List.Perm.append_left _ ?_;exact vQ hi
def II{α:Type}(next:Nat->Nat)(xs:Array α):(pickOrder next xs).toList.Perm xs.toList:=by
 obtain⟨o,e,p⟩:=GQ next xs.size 0 xs.toList #[] (by simp)
 unfold pickOrder;rw[e];simpa using p
structure oC(w:World)(t:SetTable):Prop where
 rise:Rising t.place.toList
 led:w.params.followText "set-order"=true\/t.led=true
 dum:t.dummies = #[]
 msk:t.mask=7
 pln:t.plain=true
def CD(j:Nat):SetTable.has #[] j=false:=by simp[SetTable.has]
def Fd(h:t.slot j=.empty):¬ t.place[SetTable.below t.place j]?=some j:=fun e=>by
 unfold SetTable.slot at h;simp only[e,beq_self_eq_true,Γ5] at h;cases h
def x8(hd:t.dummies = #[])(j:Nat):t.slot j=.empty\/(∃ i,t.slot j=.live i/\j∈t.place.toList):=by
 unfold SetTable.slot;rw[hd,CD];by_cases h:t.place[SetTable.below t.place j]?=some j
 ·refine .inr ⟨SetTable.below t.place j,by simp only[h,beq_self_eq_true,Γ5],?_⟩;rw[<- Γ7] at h;exact Α1 h
 ·refine .inl ?_;have:(t.place[SetTable.below t.place j]?==some j)=false:=by simpa using h
  simp[this]
theorem free4{l:List Nat}(h:l.length<=3):∃ j,j < 8/\j∉l:=by
 match l,h with
 | [],_=>exact⟨0,by decide,by simp⟩
 | [a],_=>by_cases h0:a=0;exact⟨1,by decide,by simp;omega⟩;exact⟨0,by decide,by simp;omega⟩
 | [a,b],_ =>
  by_cases h0:a=0\/b=0
  ·by_cases h1:a=1\/b=1
   ·exact⟨2,by decide,by simp;omega⟩
   ·exact⟨1,by decide,by simp;omega⟩
  ·exact⟨0,by decide,by simp;omega⟩
 | [a,b,c],_ =>
  by_cases h0:a=0\/b=0\/c=0
  ·by_cases h1:a=1\/b=1\/c=1
   ·by_cases h2:a=2\/b=2\/c=2
    ·exact⟨3,by decide,by simp;omega⟩
    ·exact⟨2,by decide,by simp;omega⟩
   ·exact⟨1,by decide,by simp;omega⟩
  ·exact⟨0,by decide,by simp;omega⟩
def hop(i:Nat):Nat:=(i * 5+1) % 8
def hops:Nat->Nat->Nat
 | 0,i=>i
 | m+1,i=>hops m (hop i)
theorem Ks:∀ i,i < 8->∀ j,j < 8->∃ m,m < 8/\hops m i=j:=by decide
end
section
variable(hd:t.dummies = #[])(hm:t.mask=7){h:Int}
abbrev prb(i pt:Nat):SetTable.Probe:=⟨i,0,i,pt,none⟩
include hd hm
mutual
example:=[(fun _=>h+1),prb i pt,(by omega),(by decide),(Nat.mod_lt _ 3e0),(i * 5+1+pt / 32),3e0,SetTable.bits h % 8,SetTable.bits h,.empty j none]
theorem adv(i pt:Nat):t.advance 1e0=prb (5e0 % 8) (pt / 32):=by
 have:5e0 % 8 < 8:=Nat.mod_lt _ 6e0;simp only[SetTable.advance,SetTable.leap,hm,SetTable.runEnd];simp
 try omega
theorem Gq(fuel i pt:Nat):(t.slot i=.empty/\SetTable.probe.go t 0e0 h (fuel+1) 1e0=some (.empty i none))\/SetTable.probe.go t 0e0 h (fuel+1) 1e0=SetTable.probe.go t 0e0 h fuel (prb (5e0 % 8) (pt / 32)):=by
 rcases x8 hd i with e|⟨k,e,_⟩
 ·refine .inl ⟨e,?_⟩;unfold SetTable.probe.go;simp only[e]
 ·refine .inr ?_
  conv=>lhs;unfold SetTable.probe.go
  simp only[e];rw[if_neg (by simp;try omega),adv hd hm]
theorem Gr:∀(m fuel i:Nat),m < fuel->i < 8->t.slot (hops m i)=.empty->∃ j,t.slot j=.empty/\SetTable.probe.go t 0e0 h fuel (prb i 0)=some 9e0
 | 0,fuel+1,i,_,hi,he=>by
  refine⟨i,he,?_⟩;have e:t.slot i=.empty:=he;unfold SetTable.probe.go;simp only[e]
 | m+1,fuel+1,i,hf,hi,he=>by
  rcases Gq hd hm (h:=h) fuel i 0 with⟨e,g⟩|g
  ·exact⟨i,e,g⟩
  ·rw[g];exact Gr m fuel _ 2e0 4e0 he
theorem Kn(hp:t.place.size<=3):∀(d fuel i pt:Nat),pt < 32 ^ d->d+8<=fuel->i < 8->∃ j,t.slot j=.empty/\SetTable.probe.go t 0e0 h fuel 1e0=some 9e0
 | 0,fuel,i,pt,h1,h2,hi=>by
  have:pt=0:=by simpa using h1
  subst this;obtain⟨j,hj,hn⟩:=free4 (l:=t.place.toList) (by simpa using hp);obtain⟨m,hm',e⟩:=Ks i hi j hj;refine Gr hd hm m fuel i 2e0 hi ?_;rw[e];rcases x8 hd j with z|⟨_,_,z⟩
  ·exact z
  ·exact absurd z hn
 | d+1,0,i,pt,h1,h2,hi=>absurd h2 2e0
 | d+1,fuel+1,i,pt,h1,h2,hi=>by
  rcases Gq hd hm (h:=h) fuel i pt with⟨e,g⟩|g
  ·exact⟨i,e,g⟩
  ·rw[g];exact Kn hp d fuel _ _ (by rw[Nat.pow_succ] at h1;omega) 2e0 4e0
theorem HX(hp:t.place.size<=3):∃ j,t.slot j=.empty/\t.freeSlot h=some (j,false):=by
 have hb:SetTable.bits h < 32 ^ 13:=by
  unfold SetTable.bits;have h1:=Int.emod_lt_of_pos h (show(0:Int) < 2 ^ 64 by decide);have h2:=Int.emod_nonneg h (show(2 ^ 64:Int)≠0 by decide);have:(32:Nat) ^ 13=36893488147419103232:=by decide
  omega
 have hs:t.probeStart h=prb 7e0 8e0:=by
  unfold SetTable.probeStart SetTable.runEnd;rw[hm];have:SetTable.bits h % 8 < 8:=Nat.mod_lt _ 6e0;simp
  try omega
 obtain⟨j,e,g⟩:=Kn hd hm (h:=h) hp 13 (10 * SetTable.turns t.mask) 7e0 8e0 hb (by rw[hm];decide) 4e0;refine⟨j,e,?_⟩;unfold SetTable.freeSlot SetTable.probe;rw[hs,g];rfl
end
end
mutual
example:=[Int×Value]
theorem NW(T:oC w t)(es:Array 0e0)(h:Int)(x:Value)(hp:t.place.size<=3)(hf:t.place.size=es.size):oC w (layNew t es h x).2.1:=by
 obtain⟨slot,hs,e⟩:=HX T.dum T.msk (h:=h) hp;have Tp:oC w (t.put slot).1:=by
  refine⟨zD T.rise (Fd hs),T.led,?_,T.msk,T.pln⟩;show(if SetTable.has t.dummies slot=true then _ else t.dummies) = #[];rw[T.dum,CD];rfl
 unfold layNew;rw[e];show oC w ((t.put slot).1.orStandIn _);have h1:=(SetTable.insertAt_perm es (t.put slot).2 (h,x)).length_eq;rw[Γ0,Γ0,Array.size_push] at h1;have h2:(t.put slot).1.place.size=t.place.size+1:=by
  have:=(SetTable.insertAt_perm t.place (SetTable.below t.place slot) slot).length_eq;rw[Γ0,Γ0,Array.size_push] at this;exact this
 have fit:(t.put slot).1.fits (SetTable.insertAt es (t.put slot).2 (h,x)).size=true:=by
  unfold SetTable.fits SetTable.fill;rw[Tp.dum,h2,h1,Tp.msk,hf];simp;omega
 unfold SetTable.orStandIn;rw[if_pos fit];exact Tp
def CM:Value->Int
 | .int i _=>i
 | _=>0
def qX(P:Program)(w:World)(a:Addr)(ns:List Int)(h:Heap):Prop:=∃(o:Obj) (es:Array 0e0) (ep:Nat) (t:SetTable),h.get? a=some o/\o.ExactSet/\o.data=.set es ep t/\ElemsOf (intKind P w) es.toList/\es.size < scanBound/\t.fits es.size=true/\oC w t/\(∀ e∈es.toList,∃ i tk,e.2=Value.int i tk)/\(es.toList.map fun e=>CM e.2).Perm ns
def qX.keep{h':Heap}(x:qX P w a ns h)(k:∀ o,h.get? a=some o->h'.get? a=some o):qX P w a ns h':=by
 obtain⟨o,es,ep,t,e,r⟩:=x;exact⟨o,es,ep,t,k o e,r⟩
end
section
def Rb{i:Int}:(intKind P w).is i v=true↔∃ tk,v=.int i tk:=by
 constructor
 ·intro h;cases v with
  | int j tk=>exact⟨tk,by have:Value.isInt i (.int j tk)=true:=h;simp[Value.isInt] at this;rw[this]⟩
  | _=>cases h
 ·rintro⟨tk,rfl⟩;exact intKind_is _ _ _ _
theorem B6{o:Obj}{es:Array (Int×Value)}{ep:Nat}(ho:s.heap.get? a=some o)(hex:o.ExactSet)(hd:o.data=.set es ep t)
    {Xa:Array (Int×Value)} {t2:SetTable}  (ZP:ElemsOf (intKind P w) Xa.toList) (hb:Xa.size < scanBound) (hf:t2.fits Xa.size=true) (T:oC w t2) (hi:∀ e∈Xa.toList,∃ i tk,e.2=Value.int i tk) (hp:(Xa.toList.map fun e=>CM e.2).Perm ns) (h4:Xa.size<=4)
    {XT:Bool} {X:Sem (Option Bool)} {R:Option Bool->Shared->Prop} (h:∀ h',Heap.SameBut a s.heap h'->qX P w a ns h'->R (some true) {s with heap:=h'}) :
    wpAny (model P w) A (do
        storeSet a Xa t2
        if (!XT&&t2.tooFull)=true then X else pure (some true)) R E s:=by
  refine Β (wpAny_storeSet_of ho hd ?_ (fits_of_scanBound hb));have full:t2.tooFull=false:=by
    have h1:t2.place.size=Xa.size:=by
      have:=hf;unfold SetTable.fits at this;simp only[Γ3,beq_iff_eq] at this;exact this.1
    unfold SetTable.tooFull SetTable.fill;rw[T.dum,h1];have:=T.msk;simp;omega
  rw[full,Bool.and_false];simp only[ϗ,Β1];have hg:(s.heap.update a (Obj.putSet Xa t2)).get? a=some {o with data:=.set Xa (ep+1) t2}:=by
    have:=Heap.get?_update_self (Obj.putSet Xa t2) ho (by rw[putSet_of Xa t2 hd];rfl);rw[putSet_of Xa t2 hd] at this;exact this
  exact Θ (h _ (Heap.SameBut.update s.heap a (Obj.putSet Xa t2)) ⟨_,Xa,ep+1,t2,hg,hex,rfl,ZP,hb,hf,T,hi,hp⟩)
theorem Eb{i:Int}{tk:Tok}{Q:Bool->Shared->Prop}(hS:qX P w a ns s.heap)(hn:ns.length<=3)(h:∀ h',Heap.SameBut a s.heap h'->qX P w a (if i∈ns then ns else ns++[i]) h'->∀ b,Q b {s with heap:=h'}):wpAny (model P w) A (setAddHashed a (.int i tk) ((intKind P w).hash i)) Q E s:=by
 obtain⟨o,es,ep,t,ho,hex,hd,ZP,hb,hf,T,hi,hp⟩:=hS;have Yq:(intKind P w).is i (.int i tk)=true:=intKind_is _ _ _ _;have hl:es.size=ns.length:=by have:=hp.length_eq;simpa using this
 have b1:scanBound=4096:=rfl;unfold setAddHashed setAddHashedIn;refine Α6 (Β (Γ2 ho hd hf ?_));dsimp only;rw[byScan_of (knd:=intKind P w) rfl hb ZP];simp only[↓reduceIte];unfold setAddByScan;refine Β ?_;refine Β (wpAny_rule ?_);refine Β (wpAny_setScan_of Yq ho hd hf ZP ?_);cases hr:List.findIdx? (fun e=>(intKind P w).is i e.2) es.toList with
 | some j =>
  dsimp only;obtain⟨hj,hpj,_⟩:=List.findIdx?_eq_some_iff_getElem.mp hr;obtain⟨tk',et⟩:=Rb.mp hpj;have hm:i∈ns:=hp.mem_iff.mp (Β3.mpr ⟨es.toList[j],List.getElem_mem hj,by rw[et];rfl⟩);rw[if_pos hm] at h;refine Θ (Θ ?_);exact h s.heap (Heap.SameBut.refl a s.heap) ⟨o,es,ep,t,ho,hex,hd,ZP,hb,hf,T,hi,hp⟩ _
 | none =>
  dsimp only;have hm:i∉ns:=fun z=>by
   obtain⟨e,he,ek⟩:=Β3.mp (hp.mem_iff.mpr z);obtain⟨k,tk',ev⟩:=hi e he;have h1:=List.findIdx?_eq_none_iff.mp hr e he;rw[ev] at ek h1;have:k=i:=ek;subst this;rw[intKind_is] at h1;cases h1
  rw[if_neg hm] at h;have WW:=layNew_perm t es ((intKind P w).hash i) (.int i tk);have Yc:=layNew_fits t es ((intKind P w).hash i) (.int i tk);have hsz:t.place.size=es.size:=by
   have:=hf;unfold SetTable.fits at this;simp only[Γ3,beq_iff_eq] at this;exact this.1
  have T1:=NW T es ((intKind P w).hash i) (.int i tk) (by omega) hsz;generalize layNew t es ((intKind P w).hash i) (.int i tk)=Y at WW Yc T1 ⊢;obtain⟨Xa,t1,XT,acY⟩:=Y;dsimp only at WW Yc T1 ⊢;rw[Array.toList_push] at WW;have aa5:ElemsOf (intKind P w) Xa.toList:=(ZP.push Yq rfl).perm WW;have sz:Xa.size=es.size+1:=by
   have:=WW.length_eq;simpa using this
  have hi1:∀ e∈Xa.toList,∃ i tk,e.2=Value.int i tk:=fun e he=>by
   rcases Κ.mp (WW.mem_iff.mp he) with he|he
   ·exact hi e he
   ·rw[show e=_ by simpa using he];exact⟨i,tk,rfl⟩
  have Zk:(Xa.toList.map fun e=>CM e.2).Perm (ns++[i]):=by
   refine(WW.map _).trans ?_;rw[Α7];exact hp.append (.refl _)
  have hgw:∀(b:Bool) {s₁:Shared} {Q':Unit->Shared->Prop},Q' () s₁->wpAny (model P w) A (match b with|true=>rule "set.scan.the-table-gave-way" | false=>pure ()) Q' E s₁:=fun b s₁ Q' hq=>by
   cases b
   ·exact Θ hq
   ·exact wpAny_rule hq
  refine Β (hgw _ ?_);split
  ·refine Β ?_;rw[hashByValue_scannable 8 rfl];refine Θ ?_;simp only[plainKind,↓reduceIte];exact B6 ho hex hd aa5 (by omega) Yc T1 hi1 Zk (by omega) fun h' hs Zu=>Θ (h h' hs Zu _)
  ·refine Β (Θ ?_);simp only[↓reduceIte];exact B6 ho hex hd aa5 (by omega) Yc T1 hi1 Zk (by omega) fun h' hs Zu=>Θ (h h' hs Zu _)
end
noncomputable def once(val:Nat->Int):Nat->List Int
 | 0=>[]
 | i+1=>if val i∈once val i then once val i else once val i++[val i]
theorem xC(val:Nat->Int):∀ i,(once val i).length<=i
 | 0=>Ι _
 | i+1=>by
  have:=xC val i;rw[once];split
  ·omega
  ·rw[Ν];simp;omega
section
variable{R:Result->Shared->Prop}{wr:List Addr}{Gs:Array GenState->Array GenState->Prop}{Pi:Nat->Value->Prop}{St:Nat->Shared->Prop}
theorem CP(W:WalksS P w A.in1 it fp wr Gs n Pi St)(z:Addr)(hz:z∉fp)(val:Nat->Int)(aaM:∀ i v,Pi i v->∃ t,v=.int (val i) t)(hn:n<=4) : ∀(k i:Nat) (s:Shared),n - i=k->i<=n->St i s->qX P w z (once val i) s.heap -> (∀ s',Moved (z::wr) Gs s s'->qX P w z (once val n) s'.heap->R (.ok (.ret .none)) s')->codeAny (model P w) A (.builtin "set.update.loop" ⟨[.ref z,.ref it],[]⟩) R s:=by
 have zw:z∉wr:=fun h=>hz (W.sub _ h);have up:∀ b∈wr,b∈z::wr:=fun b hb=>ϔ _ hb;intro k
 induction k with
 | zero =>
  intro i s hk hi st hS hR;obtain rfl:i=n:=by omega
  refine codeAny_builtin PyProof.Rows.F.entry_set_update_loop ?_;rw[Ζ1 Ε9 _];show wpAny _ A.in1 (pyNext (.ref it) >>= _) _ _ s;refine Β (W.done s _ _ st fun s' hm=>?_);show wpAny _ A.in1 (ret Value.none) _ _ s';exact Θ (hR s' (hm.mono up) (hS.keep fun o e=>hm.heap z _ zw e))
 | succ k ih =>
  intro i s hk hi st hS hR;have lt:i < n:=by omega
  refine codeAny_builtin PyProof.Rows.F.entry_set_update_loop ?_;rw[Ζ1 Ε9 _];show wpAny _ A.in1 (pyNext (.ref it) >>= _) _ _ s;refine Β (W.item i s _ _ lt st fun v s' hP WN hm=>?_);obtain⟨t,rfl⟩:=aaM i v hP;have Zu:qX P w z (once val i) s'.heap:=hS.keep fun o e=>hm.heap z _ zw e;show wpAny _ A.in1 (holding [Value.int (val i) t] (setAdd z (.int (val i) t)) >>= _) _ _ s';refine Β (Α6 ?_);unfold setAdd;refine Α6 ?_;refine Β ((intKind P w).pyHash (k:=val i) (intKind_is _ _ _ _) ?_);have room:(once val i).length<=3:=by have:=xC val i;omega
  refine Eb (s:={s' with toks:=s'.toks+1}) Zu room fun h' sb hS2 b=>?_;refine Θ ⟨plainId_quiet Ε9 _,ih (i+1) _ (by omega) lt (W.frame _ s' _ _ WN (Δ1 _) fun c hc o e=>?_) hS2 fun s2 hm2 hS3=>?_⟩
  ·rw[sb.2 c (fun h:c=z=>hz (by rw[<- h];exact hc))];exact e
  ·refine hR s2 (Moved.trans W.gtrans ((hm.mono up).then_heap (Δ1 _) fun c o hc e=>?_) hm2) hS3;rw[sb.2 c (fun h:c=z=>hc (by rw[h];exact List.mem_cons_self))];exact e
end
section
abbrev oI(led:Bool):Obj:={cls:=.type "set",dict:=none,data:=.set #[] 0 (.fresh 0 0 led)}
def EU(a:Value){Q₁:q0A}(h:∀ led:Bool,(w.params.followText "set-order"=true\/led=true)->Q₁ (.ref s.heap.objs.size) {s with heap:=s.heap.push (oI led)}) : codeAny (model P w) A (.call (.builtin "set.__new__") ⟨[.type "set",a],[]⟩) (wants Q₁ E) s:=by
 refine codeAny_of_tree ?_;show wpAny _ A.in1 (do checkBuiltinCall "set.__new__" ⟨[.type "set",a],[]⟩;again (.builtin "set.__new__" ⟨[.type "set",a],[]⟩)) _ _ s;refine Β (wpAny_of_eq (PySem.F.newCall_set_1 a) (Θ ⟨plainId_quiet PySem.F.plain_set_new _,codeAny_builtin PySem.F.entry_set_new ?_⟩));rw[Ζ1 PySem.F.plain_set_new _];unfold Builtin.«set.__new__» Builtin.Frozenset.newClass;have aaL:=sub_set_self;obtain⟨hp,g,d,tk,os⟩:=s;dsimp only;wp_walk;refine wpAny_askSetting (Θ ?_);dsimp only;simp only[newObj];refine Β (wpAny_alloc (Θ ?_));refine Θ (h _ ?_);cases e:w.params.followText "set-order" with
 | true=>exact .inl rfl
 | false =>
  refine .inr ?_;show(!w.params.followText "set-order")=true;rw[e];rfl
def HS{led:Bool}(h:w.params.followText "set-order"=true\/led=true):oC w (.fresh 0 0 led):=⟨.nil,h,rfl,rfl,rfl⟩
set_option maxHeartbeats 8000000 in
theorem Cf{Q:q0A}(hh:A.handled=none)(hl:s.heap.IsList l items)(hi:IntsAre items.toList ns)(h4:items.size<=4)(h:∀(h':Heap) (tk:Nat),qX P w s.heap.objs.size (once (fun i=>ns.getD i 0) items.size) h'->(∀ b o,b < s.heap.objs.size->s.heap.get? b=some o->h'.get? b=some o)->Q (.ref s.heap.objs.size) {s with heap:=h',toks:=tk}) : wpAny (model P w) A (call (.type "set") [.ref l]) Q E s:=by
  obtain⟨c,tl,ac0⟩:=Β7.mro;have acL:=Β7.made;have aaL:=Β7.sub;refine wpAny_call (codeAny_of_tree ?_);show wpAny _ _ (callAny (.type "set") _) _ _ _;refine Θ ⟨Code.quiet_builtin _ (by decide +kernel),codeAny_builtin PySem.F.entry_type_call ?_⟩;rw[Around.under_plain (weight_type_call_type "set" [.ref l] []) rfl];have h1:=Β7.notType;have h2:=Β7.canCreate;have hct:=PySem.F.typeCall_set_1 (.ref l)
  repeat (any_goals (first|assumption|wp_step))
  refine codeAny_mono (EU (.ref l) (E:=E) (Q₁:=fun obj s₁=>∃ led:Bool,(w.params.followText "set-order"=true\/led=true)/\obj=.ref s.heap.objs.size/\s₁={s with heap:=s.heap.push (oI led)}) fun led aaI=>⟨led,aaI,rfl,rfl⟩) fun r s₁ hr=>?_;cases r with
  | error e=>exact hr
  | ok fl =>
    cases fl with
    | ret obj =>
      obtain⟨led,aaI,rfl,rfl⟩:=hr;have hS:(s.heap.push (oI led)).get? s.heap.objs.size=some (oI led):=Χ _ rfl;have hT:Shared.TypeIs {s with heap:=s.heap.push (oI led)} (.ref s.heap.objs.size) "set":=⟨_,hS,rfl⟩;have hli:=Β7.init.lookup;have hbi:=Β7.init.bind (.ref s.heap.objs.size)
      repeat (any_goals (first|assumption|wp_step))
      refine codeAny_mono (codeAny_call_builtin (R:=wants (fun r s₂=>r=.none/\∃ h' tk,s₂={s with heap:=h',toks:=tk}/\qX P w s.heap.objs.size (once (fun i=>ns.getD i 0) items.size) h' /\
          (∀ b o,b < s.heap.objs.size->s.heap.get? b=some o->h'.get? b=some o)) E) Β7.init.plain PySem.F.entry_set_init (check_set_init_1 hT ?_)) fun r₂ s₂ hr₂=>?_
      · obtain⟨ol,ZT,hcl,nl,hdl⟩:=hl;obtain⟨ac5,abD,acM,aaT⟩:=ol;simp only at hcl hdl;subst hcl hdl;have ab0:(s.heap.push (oI led)).get? l=some ⟨.type "list",abD,.seq items nl,aaT⟩:=Ζ _ ZT;have ac2:=PySem.F.sub_list_set;have ac1:=PySem.F.sub_list_frozenset;have Xm:(Value.type "list"==Value.type "dict")=false:=by decide
        have YC:(s.heap.push (oI led)).IsList l items:=⟨_,ab0,rfl,nl,rfl⟩;unfold Builtin.«set.__init__» noKeywords Builtin.Frozenset.updateFrom;generalize hPI:pyIter=PI;wp_walk;subst hPI;refine wpAny_pyIter_list YC ?_;refine Β (wpAny_runValue ?_);have lS:l < s.heap.objs.size:=Μ ZT;have hh3:A.in1.in1.in1.handled=none:=by simp[hh]
        have sz:(s.heap.push (oI led)).objs.size=s.heap.objs.size+1:=Heap.size_push _ _;have abX:l≠(s.heap.push (oI led)).objs.size:=Ρ (by rw[sz];exact Nat.lt_succ_of_lt lS);have hSf:s.heap.objs.size∉[(s.heap.push (oI led)).objs.size,l]:=by
          simp only[Α,Γ,Τ,not_or];exact⟨Ρ (by rw[sz];exact Nat.lt_succ_self _),Nat.ne_of_gt lS⟩
        have aaM:∀(i:Nat) (v:Value),items[i]?=some v->∃ t,v=.int ((fun i=>ns.getD i 0) i) t:=fun i v hv=>IntsAre.int_at hi i v (by rw[Γ7];exact hv);refine CP ((Walks.list hh3 _ l abX items).toS) s.heap.objs.size hSf (fun i=>ns.getD i 0) aaM h4 (items.size - 0) 0 _ (by omega) (Α5 _) ⟨⟨_,Χ _ rfl,rfl,rfl⟩,(YC.push _)⟩ ?hS0 ?hR
        case hS0=>exact⟨_,#[],0,_,Ζ _ hS,⟨rfl,rfl,rfl⟩,rfl,fun e he=>(by simp at he),by decide,rfl,HS aaI,by simp,.nil⟩
        case hR =>
          intro s' hm Zu;obtain⟨h',g',d',tk',ZC⟩:=s';have eg:g'=s.gens:=hm.gens;have ed:d'=s.drawn:=hm.drawn;have eo:ZC=s.os:=hm.os;subst eg ed eo;show wpAny _ _ _ _ _ _;refine Θ ?_;show wpAny _ _ (ret Value.none) _ _ _;refine Θ ⟨rfl,h',tk',rfl,Zu,fun b o hb e=>?_⟩;exact hm.heap b o (by simp only[Α,Γ,Τ,not_or];exact⟨Ρ hb,Ρ (by rw[sz];exact Nat.lt_succ_of_lt hb)⟩) (Ζ _ (Ζ _ e))
      · cases r₂ with
        | error e=>exact hr₂
        | ok fl₂ =>
          cases fl₂ with
          | ret r =>
            obtain⟨rfl,h',tk,rfl,Zu,hk'⟩:=hr₂
            repeat (any_goals (first|assumption|wp_step))
            exact h _ _ Zu hk'
          | _=>exact hr₂.elim
    | _=>exact hr.elim
end
mutual
example:=[(by decide +kernel),(by kernel_rfl),(by rw[typeLookup_type,builtinLookup_eq_fast];kernel_rfl),(by rw[isSubtype_type];kernel_rfl),(by first|exact .inl 0e0|exact .inr 0e0)]
def Dl:Manifest.owners.lookup (String.ofList ['r','o','t','a','r','e','t','i','_','t','e','s'].reverse)=some Manifest.sig_set_iterator:=by kernel_rfl
theorem fD:Slot "set_iterator" "__next__" "set_iterator.__next__" :=
 .of (owner:="set_iterator") (n:="__next__") 2e0 0e0 0e0 0e0
  4e0 3e0
def oE:entryFor table "set_iterator.__next__"=some Builtin.«set_iterator.__next__»:=entryFor_of_tree 1e0
def pO(a:Value):argsOk "set_iterator.__next__" ⟨[a],[]⟩:=by
 unfold argsOk;rw[signature?_of (id:="set_iterator.__next__") (n:=['_','_','t','x','e','n','_','_']) (o:=['r','o','t','a','r','e','t','i','_','t','e','s']) 1e0 Dl];kernel_rfl
theorem qT:Slot "set_iterator" "__iter__" "set_iterator.__iter__" :=
 .of (owner:="set_iterator") (n:="__iter__") 2e0 0e0 0e0 0e0
  4e0 3e0
theorem zC:entryFor table "set_iterator.__iter__"=some Builtin.«dict_keyiterator.__iter__» :=
 entryFor_alias (id':="dict_keyiterator.__iter__") 1e0 rfl 0e0 1e0
def AM(a:Value):argsOk "set_iterator.__iter__" ⟨[a],[]⟩:=by
 unfold argsOk;rw[signature?_of (id:="set_iterator.__iter__") (n:=['_','_','r','e','t','i','_','_']) (o:=['r','o','t','a','r','e','t','i','_','t','e','s']) 1e0 Dl];kernel_rfl
theorem vO:entryFor table "set.__iter__"=some Builtin.«frozenset.__iter__» :=
 entryFor_alias (id':="frozenset.__iter__") 1e0 rfl 0e0 1e0
end
section
variable{es:Array (Int×Value)}{ep:Nat}
mutual
example:=[.ref it,(by simp),(by omega),model P w,w.params.setOrder a ep,rawInt (WM:Nat),lV w a es ep,Θ ?_,Int×Value,Β (wpAny_askSetting (Θ ?_)),Β (Γ2 e1 e3 e4 (Θ ?_)),Γ2 e1 e3 e4 ?_,(if w.params.followText "set-order"=true then _ else _),wpAny_call_entry fD ki.ty oE ?_ (pO _),Θ (Β (wpAny_fieldsOf i1 i3 ?_)),!t.plain&&decide (es.size > 1),(setEntries a >>= fun _=>_),(fun h=>hb (by simp[h])),(Β6 ?_ (by size_fits)),(by rw[mZ];exact hi),Int.toNat (sl:Nat),Int.toNat (ep:Nat)]
def jY(w:World)(h:Heap)(a:Addr)(es:Array 8e0)(ep:Nat)(t:SetTable):Prop:=∃ o,h.get? a=some o/\o.ExactSet/\o.data=.set es ep t/\t.fits es.size=true/\oC w t
def jY.to{h':Heap}(x:jY w h a es ep t)(k:∀ o,h.get? a=some o->h'.get? a=some o):jY w h' a es ep t:=let ⟨o,e,r⟩:=x;⟨o,k _ e,r⟩
def jY.lt(x:jY w h a es ep t):a < h.objs.size:=let ⟨_,e,_⟩:=x;Μ e
def jY.ty(x:jY w s.heap a es ep t):s.TypeIs (.ref a) "set":=let ⟨o,e,c,_⟩:=x;⟨o,e,c.1⟩
def lV(w:World)(a:Addr)(es:Array 8e0)(ep:Nat):Array 8e0:=if w.params.followText "set-order"=true then pickOrder 4e0 es else es
def xH:(lV w a es ep).toList.Perm es.toList:=by
 unfold lV;split
 ·exact II _ _
 ·exact .refl _
def mZ:(lV w a es ep).size=es.size:=by have:=(xH (w:=w) (a:=a) (es:=es) (ep:=ep)).length_eq;simpa using this
def AH(w:World)(t:SetTable)(i sl:Nat):Prop:=w.params.followText "set-order"=true\/SetTable.below t.place sl=i
def yU(w:World)(h:Heap)(it a:Addr)(i n ep:Nat)(t:SetTable):Prop:=∃ o sl,h.get? it=some o/\o.cls=.type "set_iterator"/\o.data=.fields #[.int (sl:Nat) 0,.int (i:Nat) 0,.ref a,.int (n:Nat) 0,.int (ep:Nat) 0]/\AH w t i sl
def yU.to{h':Heap}(x:yU w h it a i n ep t)(k:∀ o,h.get? it=some o->h'.get? it=some o):yU w h' it a i n ep t:=let ⟨o,sl,e,r⟩:=x;⟨o,sl,k _ e,r⟩
def yU.ty(x:yU w s.heap it a i n ep t):s.TypeIs 0e0 "set_iterator":=let ⟨o,_,e,c,_⟩:=x;⟨o,e,c⟩
theorem IQ(T:oC w t):AH w t 0 0:=.inr (by
 obtain⟨h1,h2,h3⟩:=oU t.place 0 T.rise;by_cases z:SetTable.below t.place 0=0
 ·exact z
 ·have:=h1 0 2e0 2e0;omega)
theorem IP(T:oC w t)(e:t.place[i]?=some j):SetTable.below t.place (j+1)=i+1:=by
 obtain⟨hi,ej⟩:=Array.getElem?_eq_some_iff.mp e;obtain⟨h1,h2,h3⟩:=oU t.place (j+1) T.rise;by_cases c:SetTable.below t.place (j+1)<=i
 ·have:=h2 i hi c;omega
 ·by_cases d:i+1 < SetTable.below t.place (j+1)
  ·have h4:i+1 < t.place.size:=by omega
   have h5:=h1 (i+1) h4 d;have h6:=Ε6.mp T.rise i (i+1) (by simpa using hi) (by simpa using h4) 2e0;simp at h6;omega
  ·omega
theorem LM{Q:q0A}(x:jY w s.heap a es ep t)(q:Q (.ref s.heap.objs.size) {s with heap:=s.heap.push {cls:=.type "set_iterator",data:=.fields #[.int 0 0,.int 0 0,.ref a,.int es.size 0,.int ep 0]}}):wpAny 3e0 A (pyIter (.ref a)) Q E s:=by
 obtain⟨o,e1,e2,e3,e4,T⟩:=id x;refine wpAny_pyIter_slot x.ty F.slot_set_iter (wpAny_call_entry F.slot_set_iter x.ty vO ?_ (F.args_set_iter_1 _));unfold Builtin.«frozenset.__iter__»;refine Β ?_;show wpAny _ _ ((pure (Value.ref a,([]:List Value)):Sem _) >>= fun z=>Builtin.Frozenset.addrOf z.1) _ _ s;refine Β (Θ 7e0);refine Β (Β (Β (Γ2 e1 e3 e4 (Θ 7e0))));refine Β (Β 1e1);refine Β 9e0;refine Θ ?_;show wpAny _ _ (if (!w.params.followText "set-order"&&5e1)=true then _ else _) _ _ s;rw[T.pln];simp only[Bool.not_true,Bool.false_and,Bool.and_false,ϗ,Β1];refine Β (Θ (Β 0e1));refine Β (Β6 (Θ ⟨_,rfl,"set_iterator",_,⟨_,Χ _ rfl,rfl⟩,fD.lookup,by simpa[rawInt] using q⟩))
theorem yR{sl:Nat}{Q:Option (Value×Nat)->Shared->Prop}(x:jY w s.heap a es ep t)(hs:AH w t i sl)(q1:∀ e WM,6e0[i]?=some e->AH w t (i+1) WM->Q (some (e.2,WM)) s)(q0:6e0[i]?=none->Q none s):wpAny 3e0 A (setNext a sl i ep) Q E s:=by
 obtain⟨o,e1,e2,e3,e4,T⟩:=id x;unfold setNext;refine Β 1e1;dsimp only;refine Β 9e0;show wpAny _ _ 2e1 _ _ s;by_cases c:w.params.followText "set-order"=true
 ·rw[if_pos c,if_neg 1e0];unfold setWalk;refine Β (Β 1e1);dsimp only;refine Β 9e0;show wpAny _ _ 2e1 _ _ s;rw[if_pos c];refine Β (wpAny_askSetting (Θ 7e0));show Q (Option.map _ (pickOrder 4e0 es)[i]?) s;have eo:lV w a es ep=pickOrder 4e0 es:=if_pos c;rw[eo] at q1 q0;cases h:(pickOrder 4e0 es)[i]? with
  | none=>exact q0 h
  | some e=>exact q1 e sl h (.inl c)
 ·rw[if_neg c];have eo:lV w a es ep=es:=if_neg c;rw[eo] at q1 q0;have hb:SetTable.below t.place sl=i:=hs.resolve_left c;have hl:t.led=true:=T.led.resolve_left c;show wpAny _ _ (if 5e1=true then _ else _) _ _ s;rw[T.pln];simp only[Bool.not_true,Bool.false_and,ϗ,Β1];show wpAny _ _ ((if (!t.led&&!es.isEmpty)=true then unsupported "set:maker-not-led" else pure ()) >>= fun _=>_) _ _ s;rw[hl];simp only[Bool.not_true,Bool.false_and,ϗ,Β1];refine Β (Θ 7e0);rw[hb];have hz:t.place.size=es.size:=by
   have:=e4;unfold SetTable.fits at this;simp only[Γ3,beq_iff_eq] at this;exact this.1
  by_cases d:i < es.size
  ·have h1:es[i]?=some es[i]:=Γ8 d;have h2:t.place[i]?=some (t.place[i]' 2e0):=Γ8 2e0;rw[h1,h2];exact q1 _ _ h1 (.inr (IP T h2))
  ·have h1:es[i]?=none:=Array.getElem?_eq_none 2e0;rw[h1];exact q0 h1
def LO(ki:yU w s.heap it a i es.size ep t)(x:jY w s.heap a es ep t){e:Int×Value}(he:6e0[i]?=some e)(q:∀ h',yU w h' it a (i+1) es.size ep t->Heap.SameBut it s.heap h'->Q (some e.2) {s with heap:=h'}):wpAny 3e0 A (pyNext 0e0) Q E s:=by
 obtain⟨oi,sl,i1,i2,i3,i4⟩:=id ki;obtain⟨o,e1,e2,e3,e4,T⟩:=id x;have lt:i < es.size:=by have:=(Array.getElem?_eq_some_iff.mp he).1;rw[mZ] at this;exact this
 unfold pyNext;refine Β (wpAny_attempt (wpAny_callSpecial?_slot (name:=Str.ofString "__next__") ki.ty fD
  3e1))
 unfold Builtin.«set_iterator.__next__»;refine Β 4e1;show wpAny _ _ 6e1 _ _ s;refine Β 0e1;rw[if_neg 1e0];show wpAny _ _ (setNext a 0e2 (Int.toNat (i:Nat)) 1e2 >>= fun z=>_) _ _ s;simp only[Int.toNat_natCast];refine Β ?_;refine yR x i4 (fun e' WM he' Ye=>?_) fun z=>by rw[z] at he;cases he
 rw[he] at he';cases he';show wpAny _ _ (setField 0e0 0 5e0 >>= fun _=>_) _ _ s;refine Β (wpAny_setField i1 i3 1e0 ?_);have j1:(s.heap.update it (Obj.mapFields (·.setIfInBounds 0 5e0))).get? it=some (Obj.mapFields (·.setIfInBounds 0 5e0) oi):=Heap.get?_update_self _ i1 (Obj.isFreed_of_fields (Obj.data_mapFields i3 _));have j3:(Obj.mapFields (·.setIfInBounds 0 5e0) oi).data=.fields #[.int (WM:Nat) 0,.int (i:Nat) 0,.ref a,.int (es.size:Nat) 0,.int (ep:Nat) 0]:=by rw[Obj.data_mapFields i3];simp[rawInt]
 show wpAny _ _ (setField 0e0 1 (rawInt ((i:Int)+1)) >>= fun _=>_) _ _ _;refine Β (wpAny_setField j1 j3 1e0 ?_);refine Θ ⟨_,rfl,Θ (q _ ⟨_,WM,Heap.get?_update_self _ j1 (Obj.isFreed_of_fields (Obj.data_mapFields j3 _)),((Obj.cls_mapFields ..).trans (Obj.cls_mapFields ..)).trans i2,by rw[Obj.data_mapFields j3];simp[rawInt],Ye⟩ ((Heap.SameBut.update ..).trans (Heap.SameBut.update ..)))⟩
theorem OB(hh:A.handled=none)(ki:yU w s.heap it a es.size es.size ep t)(x:jY w s.heap a es ep t)(q:∀ h',Heap.ExtBut it s.heap h'->Q none {s with heap:=h'}):wpAny 3e0 A (pyNext 0e0) Q E s:=by
 obtain⟨oi,sl,i1,i2,i3,i4⟩:=id ki;obtain⟨o,e1,e2,e3,e4,T⟩:=id x;unfold pyNext;refine Β (wpAny_attempt (wpAny_callSpecial?_slot (name:=Str.ofString "__next__") ki.ty fD
  3e1))
 unfold Builtin.«set_iterator.__next__»;refine Β 4e1;show wpAny _ _ 6e1 _ _ s;refine Β 0e1;rw[if_neg 1e0];show wpAny _ _ (setNext a 0e2 (Int.toNat (es.size:Nat)) 1e2 >>= fun z=>_) _ _ s;simp only[Int.toNat_natCast];refine Β ?_;refine yR x i4 (fun e' WM he' Ye=>by
  have:=(Array.getElem?_eq_some_iff.mp he').1;rw[mZ] at this;omega) fun _=>?_
 show wpAny _ _ (setField 0e0 2 .none >>= fun _=>_) _ _ s;refine Β (wpAny_setField i1 i3 1e0 ?_);show wpAny _ _ (newExc (.type "StopIteration") [] >>= fun _=>_) _ _ _;refine Β ?_;simp only[newExc,newTuple];refine Β 8e1;refine Β (m:=firstArgMember _ _) (wpAny_of_eq (a:=Value.none) (by first|rfl|(simp only[firstArgMember];rfl)) 8e1)
 simp only[raiseNew];refine Β (wpAny_handled ?_);rw[show A.in1.handled=none from hh];refine Β (Θ (wpAny_throw ?_));refine Β (wpAny_isInstance (T:="StopIteration") (b:=true) ⟨_,Χ _ rfl,rfl⟩ (show _ from isSubtype_stop) ?_);exact Θ (q _ (((Heap.SameBut.update ..).extBut.push _).push _))
def LP{Q:q0A}(ki:yU w s.heap it a i n ep t)(h:Q 0e0 s):wpAny 3e0 A (pyIter 0e0) Q E s:=by
 refine wpAny_pyIter_slot ki.ty qT (wpAny_call_entry qT ki.ty zC ?_ (AM _));show wpAny _ _ (ret 0e0) _ _ s;exact Θ ⟨_,rfl,"set_iterator",_,ki.ty,fD.lookup,h⟩
def I8(hh:A.handled=none)(it a:Addr)(ne:a≠it)(es:Array 8e0)(ep:Nat)(t:SetTable) : Walks P w A it [it,a] [it] es.size (fun i v=>∃ e,6e0[i]?=some e/\v=e.2) (fun i h=>yU w h it a i es.size ep t/\jY w h a es ep t) where
 sub:=fun b hb=>by simp at hb;simp[hb]
 frame:=fun _ _ _ st hk=>⟨st.1.to fun o e=>hk it 1e0 o e,st.2.to fun o e=>hk a 1e0 o e⟩
 item:=fun i s Q E hi st hQ=>LO st.1 st.2 (Γ8 9e1) fun h' k2 sb=>hQ _ h' s.toks ⟨_,Γ8 9e1,rfl⟩ ⟨k2,st.2.to fun o e=>sb.extBut a o ne e⟩ fun b o hb e=>sb.extBut b o 7e1 e
 done:=fun s Q E st hQ=>OB hh st.1 st.2 fun h' he=>hQ h' s.toks fun b o hb e=>he b o 7e1 e
 self:=fun _ _ _ _ st hQ=>LP st.1 hQ
end
end
section
variable{prog:Program}{r:Addr}{es:Array (Int×Value)}{ep:Nat}
theorem Kr{Q:Bool->Shared->Prop}(hT:s.TypeIs (.ref r) "set")(h:Q false s):wpAny (model prog w) A (Builtin.List.listLengthHint (.ref r)) Q E s:=by
 unfold Builtin.List.listLengthHint;refine Β (wpAny_specialOf hT PySem.F.slot_set_len.lookup ?_);generalize hid:("set.__len__":String)=id0
 wp_delta
 rw[show splitId id0=some ("set","__len__") from by subst hid;decide +kernel];subst hid;refine Β (wpAny_isInstance (T:="set") (b:=true) hT (by rw[isSubtype_type];kernel_rfl) ?_);refine wpAny_ite_split (fun hab=>absurd hab (by decide)) (fun _=>?_);refine wpAny_ite_split (fun _=>?_) (fun hab=>absurd (by decide +kernel) hab);refine Β (wpAny_typeOf hT ?_);exact Θ h
open PySem.W in
theorem OG:KdlSrc prog w "set" a a es.size (fun i v=>∃ e,(lV w a es ep)[i]?=some e/\v=e.2) (fun h=>jY w h a es ep t) where
 type:=fun _ hm=>hm.ty
 there:=fun _ hm=>⟨hm.lt,hm.lt⟩
 keep:=fun _ _ hm hk=>hm.to fun o e=>hk a (.inl rfl) o e
 notList:=by decide
 notTuple:=by decide
 hint:=fun _ _ _ _ hm hq=>Kr hm.ty hq
 iter:=fun _ _ hh hm=>⟨_,_,(fun _ _ hq=>LM hm hq),I8 hh _ a (Ρ hm.lt) es ep t,⟨⟨_,0,Χ _ rfl,rfl,rfl,IQ (let ⟨_,_,_,_,_,T⟩:=hm;T)⟩,hm.to fun o e=>Ζ _ e⟩⟩
end
mutual
example:=[List.Mem.head _,(by omega),.lst (WG.map V.int),.ref l,seqObj "list" vs.toArray 0,List.Mem.tail _ mem,D7 P w p ns,.type "set",I.ok.hd hc]
theorem Jq:bootBuiltins "set"=some 7e0:=by decide +kernel
def look1{k z:Str}{c:Addr}{r:List (Str×Addr)}(e:List.lookup k r=some a)(h:List.lookup z [(k,a)]=some c):List.lookup z r=some c:=by
 simp only[List.lookup] at h;split at h
 ·next y=>cases h;rw[eq_of_beq y];exact e
 ·cases h
def D7(P:Program)(w:World)(a:Addr)(ns:List Int):HO:=.ext (qX P w a ns)
def OA(x:qX X.prog X.w a ns h):dU X.prog X.w H h a (D7 X.prog X.w a ns) :=
 ⟨x,let ⟨o,_,_,_,e,_⟩:=x;⟨o,e⟩,fun _ _ y k=>y.keep k⟩
def lU(ns:List Int):List Int:=once (fun i=>ns.getD i 0) ns.length
def Jy(P:Program)(w:World):List V->Hp->VK->Prop:=fun vs H Q=>on1 vs fun x=>bE x fun p=>∃ ns:List Int,H p=some (.lst (ns.map V.int))/\ns.length<=4/\∀ l,H l=none->Q 3e0 (Wk H l (D7 P w l (lU ns)))
theorem zX(hc:X.calm=true):gF X 7e0 (Jy X.prog X.w):=fun Wj s σ H xs us Q I r h=>by
 obtain⟨x,rfl,h1⟩:=lK h;obtain⟨p,rfl,ns,e,h4,q⟩:=aR h1;obtain⟨u,rfl,ru⟩:=vals1 r;cases ru;obtain⟨Wn,r',pl,hz⟩:=I.list (eU.of e);have hi:IntsAre Wn ns:=EF r';have hlen:=r'.length;have lm:Wn.toArray.size=ns.length:=by simpa using hlen.symm
 refine Cf (items:=Wn.toArray) 8e0 pl.isList (by simpa using hi) 1e0 fun h' tk hS kp=>?_;rw[lm] at hS;exact⟨.ref s.heap.objs.size,_,I.laid (t':=tk) (fun b o e=>kp b o (Μ e) e) (Ι _) (OA hS),rfl,q _ (I.Ws.fresh (Ι _))⟩
def Jw(P:Program)(w:World):List V->Hp->VK->Prop:=fun vs H Q=>on1 vs fun x=>bE x fun p=>∃ ns:List Int,H p=some 6e0/\Q (.int ns.length) H
theorem Ek:gF X (.builtin "len") (Jw X.prog X.w):=fun Wj s σ H xs us Q I r h=>by
 obtain⟨x,rfl,h1⟩:=lK h;obtain⟨p,rfl,ns,e,q⟩:=aR h1;obtain⟨u,rfl,ru⟩:=vals1 r;cases ru;obtain⟨⟨o,es,ep,t,ho,hex,hd,ZP,hb,hf,T,hi,hp⟩,_⟩:=I.Ws p _ e;have hl:es.size=ns.length:=by have:=hp.length_eq;simpa using this
 have b1:scanBound=4096:=rfl;refine call_len_set ho hex hd hf 1e0 ?_;exact⟨.int ns.length,H,I.tok _,⟨_,by rw[hl]⟩,q⟩
def Jz(P:Program)(w:World):List V->Hp->VK->Prop:=fun vs H Q=>on1 vs fun x=>bE x fun p=>∃ ns:List Int,H p=some 6e0/\ns.length < 64/\∀(l:Addr) (WG:List Int),H l=none->WG.Perm ns->WG.Pairwise (·<=·)->Q 3e0 (Wk H l 2e0)
theorem El(hc:X.calm=true):gF X (.builtin "sorted") (Jz X.prog X.w):=fun Wj s σ H xs us Q I r h=>by
 obtain⟨x,rfl,h1⟩:=lK h;obtain⟨p,rfl,ns0,e,h64,q0⟩:=aR h1;obtain⟨u,rfl,ru⟩:=vals1 r;cases ru;obtain⟨⟨od,es,ep,t,ho,hex,hd,ZP,hb,hf,T,hi,hp0⟩,_⟩:=I.Ws p _ e;have hl:es.size=ns0.length:=by have:=hp0.length_eq;simpa using this
 obtain⟨m,hn,_⟩:=I.loc;have Xm:p≠X.env.locals:=aF e I.free;obtain⟨ns,ens⟩:∃ ns,ns=(lV X.w p es ep).toList.map fun e=>CM e.2:=⟨_,rfl⟩;have pns:ns.Perm ns0:=by rw[ens];exact(xH.map _).trans hp0
 have lns:ns.length=es.size:=by rw[ens];simp[mZ]
 have q:∀(l:Addr) (WG:List Int),H l=none->WG.Perm ns->WG.Pairwise (·<=·)->Q 3e0 (Wk H l 2e0):=fun l WG a b c=>q0 l WG a (b.trans pns) c;refine PySem.W.kdu_sorted (OG (a:=p) (es:=es) (ep:=ep) (t:=t)) 8e0 (Att.Kg hn) (Att.sQ Xm ho) ⟨od,ho,hex,hd,hf,T⟩ (by rw[Ε0];omega) fun D h' tk vs F N lt hlen hP=>?_;have hI:IntsAre vs ns:=Gu 1e0 fun j v ev=>by
  obtain⟨e,e1,rfl⟩:=hP j v ev;have XA:(lV X.w p es ep).toList[j]?=some e:=by rw[Γ7];exact e1
  obtain⟨i,tk,et⟩:=hi e (xH.mem_iff.mp (Α1 XA));exact⟨i,tk,by rw[ens,ϒ,XA];simp only[Option.map_some,et,CM],et⟩
 have hD:h'.get? D=some 4e0:=(N _ 0e0).1;have old:∀ b o,b≠X.env.locals->s.heap.get? b=some o->h'.get? b=some o/\b < D:=fun b o nb eb=>by
  by_cases hb:b=p
  ·subst hb;rw[ho] at eb;cases eb;exact⟨(N _ (List.Mem.tail _ 0e0)).1,lt _ 0e0⟩
  ·have mem:=Att.pA (h:=s.heap) (L:=X.env.locals) (d:=p) |>.mpr ⟨nb,hb,eb⟩;exact⟨(N _ (List.Mem.tail _ 5e0)).1,lt _ 5e0⟩
 have g:MeetsIn X.prog X.w (Builtin.«list.sort» ⟨[.ref D],[]⟩) (fun _ R s=>s.heap.get? D=some 4e0/\∀(out:Array Value) (WG:List Int),IntsAre out.toList WG->WG.Perm ns->WG.Pairwise (·<=·)->R (.ok (.ret .none)) {s with heap:=sortedHeap s.heap D vs out}) :=
  fun A R s ⟨g1,g2⟩=>list_sort_tree g1 hI 1e0 fun out WG a b c=>g2 out WG a b c
 refine Ε1 PySem.F.slot_list_sort ⟨_,hD,rfl⟩ PySem.F.entry_list_sort (PySem.F.args_list_sort_1 _) g ⟨hD,fun out WG hI' hp hs=>?_⟩;have hDL:D≠X.env.locals:=(N _ 0e0).2.1;have YQ:H D=none:=by
  cases z:H D with
  | none=>rfl
  | some o =>
   obtain⟨ob,eb⟩:=(I.Ws D o z).there;exact absurd (old D ob hDL eb).2 (Ϝ _)
 have new:∀ b o,b≠X.env.locals->s.heap.get? b=some o->(sortedHeap h' D vs out).get? b=some o:=fun b o nb eb=>by
  obtain⟨h1,h2⟩:=old b o nb eb;rw[sortedHeap_old (Ρ h2) (Μ h1)];exact h1
 obtain⟨e',hD'⟩:=sortedHeap_at (out:=out) hD;have Zj:∀ m',s.heap.Ns X.env.locals m'->(sortedHeap h' D vs out).Ns X.env.locals m':=fun m' hm=>by
  have em:m'=m:=by
   obtain⟨o1,Xa,Zf,a1,b1,_,c1⟩:=hm;obtain⟨o2,es2,ZI,a2,b2,_,c2⟩:=hn;rw[a1] at a2;cases a2;rw[b1] at b2;cases b2;funext y;rw[<- c1,<- c2]
  subst em;obtain⟨o1,Xa,Zf,a1,r1⟩:=F.ns;exact⟨o1,Xa,Zf,by rw[sortedHeap_old hDL.symm (Μ a1)];exact a1,r1⟩
 have nn:∀ {b:Addr} {o:HO},H b=some o->b≠D:=fun h z=>by subst z;rw[YQ] at h;cases h
 have nl:∀ {b:Addr} {o:HO},H b=some o->b≠X.env.locals:=fun h=>aF h I.free;refine⟨.ref D,Wk H D 2e0,show Wm X Wj σ _ {s with heap:=sortedHeap h' D vs out,gens:=s.gens,drawn:=s.drawn,toks:=tk} from I.step (g':=s.gens) (d':=s.drawn) (t':=tk) (ch:=[]) (fun _ z=>nomatch z) (fun b o nb _ _ eb _=>new b o nb eb) (fun b o nb _ _ eb _=>⟨o.slots,new b o nb eb⟩) (fun b o _ eb hb=>?_) (fun b o _ eb=>?_)
  (fun b xs hb=>by rw[aD (nn hb)];exact hb) (fun b o u hb=>by rw[aD (nn hb)];exact hb) (fun b ps hb=>⟨#[],by rw[aD (nn hb),hb];simp⟩) Zj (fun b o hb=>?_) I.bare,rfl,q D WG YQ hp hs⟩
 ·by_cases YS:b=D
  ·subst YS;by_cases YT:b=X.env.locals
   ·exact absurd YT hDL
   ·exact absurd (old b o YT eb).2 (Ϝ _)
  ·rw[aD YS];exact hb
 ·by_cases YT:b=X.env.locals
  ·subst YT;obtain⟨o1,Xa,Zf,a1,r1⟩:=Zj m hn;exact⟨o1,a1⟩
  ·exact⟨o,new b o YT eb⟩
 ·by_cases YS:b=D
  ·subst YS;rw[aA] at hb;cases hb;exact⟨by rw[Δ,hp.length_eq,Ε0];omega,out.toList,e',nY hI',hD'⟩
  ·rw[aD YS] at hb;refine(I.Ws b o hb).zK (fun c v hc ev=>?_) (fun c hc=>by rw[aD (nn hc)];exact hc) fun c xs hc=>by rw[aD (nn hc)];exact hc
   rcases hc with hc|hc
   ·subst hc;exact new c v (nl hb) ev
   ·exact new c v (nl hc) ev
end
section
variable{Q:VK}{p:Addr}
def NC:Jy P w [.ref p] H Q = ∃ ns:List Int,H p=some (.lst (ns.map V.int))/\ns.length<=4/\∀ l,H l=none->Q (.ref l) (Wk H l (D7 P w l (lU ns))):=rfl
def Nq:Jw P w [.ref p] H Q = ∃ ns:List Int,H p=some (D7 P w p ns)/\Q (.int ns.length) H:=rfl
def J8:Jz P w [.ref p] H Q = ∃ ns:List Int,H p=some (D7 P w p ns)/\ns.length < 64/\∀(l:Addr) (WG:List Int),H l=none->WG.Perm ns->WG.Pairwise (·<=·)->Q (.ref l) (Wk H l (.lst (WG.map V.int))):=rfl
end
noncomputable def Sn(K:q0B)(n:Nat):R2:=fun x y H Q=>bE x fun a=>bE y fun b=>(∃ r,oR K H n a b r/\Q (.bl r) H) \/
 ∃(z z' u:Str) (p:Addr) (ts:List V),H a=some (.tup [.str z,.ref p])/\H p=some (.tup ts)/\H b=some (.tup [.str z',.str u])/\z≠z'/\Q (.bl false) H
theorem Ry(n:Nat)(hn:2<=n)(hu:X.A.units+n < cLine):iW X (compareOp .Eq) (Sn X.K n):=fun Wj s σ H x y v u Q I rx ry h=>by
 obtain⟨a,rfl,h1⟩:=aR h;obtain⟨b,rfl,h2⟩:=aR h1;cases rx;cases ry;rcases h2 with⟨r,e,q⟩|⟨z,z',k,p,ts,ea,ep,eb,ne,q⟩
 ·exact LG e I hu X.prog X.w X.xe _ (bZ I q rfl)
 ·obtain⟨Wn,r1,p1,_⟩:=I.tuple (g8.of ea);obtain⟨ZY,r2,p2,_⟩:=I.tuple (g8.of eb);obtain⟨kts,r3,p3,_⟩:=I.tuple (g8.of ep);cases r1 with
  | cons a1 r1 =>
  cases r1 with
  | cons a2 r1 =>
  cases r1;cases r2 with
  | cons b1 r2 =>
  cases r2 with
  | cons b2 r2 =>
  cases r2;obtain⟨t1,rfl⟩:=a1;cases a2;obtain⟨t2,rfl⟩:=b1;obtain⟨t3,rfl⟩:=b2;have:=SeqAt.RcAt.tuples (A:=X.A) (e:=fun j=>if j=0 then (z==z') else false) (show s.heap.IsTuple a #[_,_] from p1) (show s.heap.IsTuple b #[_,_] from p2) (by omega) (fun j h1 h2=>by
   match j,h1 with
   | 0,_=>exact SeqAt.EqAt.str_str z t1 z' t2
   | 1,_=>exact SeqAt.EqAt.tuple_str k t3 (show s.heap.IsTuple p kts.toArray from p3) (by show X.A.units+1 < _;omega))
  have nz:(z==z')=false:=Α9.mpr ne;have ef:((List.range (min (2:Nat) 2)).all (fun j=>if j=0 then (z==z') else false)&&((2:Nat)==2))=false:=by rw[nz];rfl
  have:=this X.prog X.w X.xe (EP X Wj σ Q) (by
   show EP X Wj σ Q (.bool ((List.range (min (2:Nat) 2)).all (fun j=>if j=0 then (z==z') else false)&&((2:Nat)==2))) s;rw[ef];exact bZ I q rfl)
  exact this
section
variable{Q:VK}{b:Addr}
def SQ:Sn K n (.ref a) (.ref b) H Q=((∃ r,oR K H n a b r/\Q (.bl r) H)\/∃(z z' u:Str) (p:Addr) (ts:List V),H a=some (.tup [.str z,.ref p])/\H p=some (.tup ts)/\H b=some (.tup [.str z',.str u])/\z≠z'/\Q (.bl false) H):=rfl
end
section
variable{Q:VK}{p:Addr}
end
end L2
namespace PySem
open AutoSeq1 (wpAny_loadPart')
open PyProof.Rows PySem.W
section
variable {prog:Program} {w:World} {A:Around} {E:q0A} {s:Shared} {K:Type} [DecidableEq K] {knd:KeyKind prog w K} {r d:Addr} {kvs:List (K×Value)} {ep:Nat}
end
end PySem
namespace L2
open PySem PySem.Spec PyProof.Rows
section
variable{X:Cx}{o:Expr}{td:TE}{apos Wu:Pos}
end
section
variable{H:Hp}{Q:VK}{p:Addr}{td:TE}{σ:St}
end
end L2
namespace L2
open PySem PySem.Spec PyProof.Rows
variable{a:Addr}{items:Array Value}{ns:List Int}{vs:List Value}{n:Nat}{st:SortSt}
theorem GD:∀(f n r:Nat),r<=1->minRun' f n r<=n+r
 | 0,n,r,_=>Nat.le_of_eq rfl
 | f+1,n,r,hr=>by
  rw[minRun'_succ];split
  ·omega
  ·have:=GD f (n / 2) (max r (n % 2)) (by omega);omega
section
variable{prog:Program}{w:World}{A:Around}{E:q0A}{s:Shared}{b0:Array Keyed}
mutual
example:=[(by omega),arrOf st,model prog w,(Obj.mapSeq fun _=>#[]),pairsOf (u::v::rest),wpS_get ?_,(by simp),u::v::rest,seqObj "tuple" vs.toArray 0,seqObj "list" #[] e1,seqObj "list" #[] 0,pairsOf vs]
theorem RT{C:Option Nat->SortSt->Prop}(ik:IntKeys b0)(sb:SBase b0 st)(one:1<=b0.size)(up:∀ n,1<=n->n < b0.size->K 1e0 (n - 1)<=K 1e0 n)(q:SortedTo 1e0 b0.size->C (some b0.size) st):wpS 2e0 A E s (countRun' 0 b0.size) C st:=by
 rw[countRun0_eq];refine wpS_bind (wpS_ascLoop ik (Ι _) (Ι 1) one sb (fun i j a b=>?_) fun n n1 n2 so oz=>?_)
 ·obtain rfl:i=j:=by omega
  exact Int.le_refl _
 ·have en:n=b0.size:=by
   rcases oz with z|z
   ·exact z
   ·rcases Nat.lt_or_ge n b0.size with y|y
    ·have:=up n n1 y;omega
    ·omega
  dsimp only;rw[en] at so ⊢;rw[if_pos 6e0];exact wpS_pure (q so)
theorem OE{C:Unit->SortSt->Prop}(ik:IntKeys b0)(sb:SBase b0 st)(two:2<=b0.size)(up:∀ n,1<=n->n < b0.size->K 1e0 (n - 1)<=K 1e0 n)(q:∀ WN,(arrOf WN).Perm b0->failedOf WN=none->SortedTo (arrOf WN) b0.size->C () WN):wpS 2e0 A E s sortRuns' C st:=by
 rw[sortRuns'_eq];refine wpS_bind 5e0;dsimp only;have mr:=GD b0.size b0.size 0 0e0;simp only[sb.size];obtain⟨P1,hP1⟩:∃ P1:SortSt->Prop,∀ z,P1 z=(arrOf z=arrOf st/\failedOf z=none/\pendingOf z = #[(0,b0.size,0)]/\SortedTo (arrOf z) b0.size):=⟨_,fun _=>rfl⟩;refine wpS_bind (wpS_mono (wpS_forRange (I:=fun x c z=>(x=0/\c=(none,0)/\z=st)\/(1<=x/\c=(none,b0.size)/\P1 z)) (Q:=fun c z=>c=(none,b0.size)/\P1 z) ?stp ?end0 (.inl ⟨rfl,rfl,rfl⟩)) ?aft)
 case end0 =>
  rintro c z (⟨a,_,_⟩|⟨_,a,b⟩)
  ·omega
  ·exact⟨a,b⟩
 case stp =>
  rintro x c z _ _ (⟨rfl,rfl,rfl⟩|⟨_,rfl,b⟩)
  ·dsimp only;rw[if_neg 0e0];simp only[Nat.sub_zero,Γ1];refine wpS_bind (RT ik sb 0e0 up fun so=>?_);dsimp only;rw[if_neg 0e0];refine wpS_bind 5e0;rw[show(pendingOf z).back?=none by rw[sb.pend];rfl];dsimp only;refine wpS_bind (wpS_modify (wpS_pure (.inr ⟨Ι _,rfl,?_⟩)));rw[hP1];exact⟨rfl,sb.failed,by show(pendingOf z).push _=_;rw[sb.pend];rfl,so⟩
  ·dsimp only;rw[if_pos (Ι _)];exact wpS_pure ⟨rfl,b⟩
 case aft =>
  rintro c z ⟨rfl,b⟩;rw[hP1] at b;dsimp only;refine wpS_bind (wpS_mono (wpS_forRange (I:=fun _ c y=>y=z/\c=(none,())) (Q:=fun c y=>y=z/\c=(none,())) ?_ (fun _ _ e=>e) ⟨rfl,rfl⟩) ?_)
  ·rintro x c y _ _ ⟨rfl,rfl⟩;refine wpS_bind 5e0;rw[if_pos (by rw[b.2.2.1];exact Ι 1)];exact wpS_pure ⟨rfl,rfl⟩
  ·rintro c y ⟨rfl,rfl⟩;exact wpS_pure (q _ (b.1▸sb.perm) b.2.1 b.2.2.2)
def Ky(hI:IntsAre vs ns):∀ {i:Nat} {n:Int},ns[i]?=some n->∃ t,vs[i]?=some (.int n t):=by
 induction hI with
 | nil=>intro i n h;simp at h
 | cons m t _ ih =>
  intro i n h;cases i with
  | zero =>
   simp only[Ξ,Ο] at h;subst h;exact⟨t,rfl⟩
  | succ i=>exact ih (by simpa using h)
def OT(hI:IntsAre vs ns){i:Nat}{n:Int}(h:ns[i]?=some n):K 1e1 i=n:=by
 obtain⟨t,e⟩:=Ky hI h;have z:1e1[i]?=some (.int n t,.int n t):=by
  rw[<- Γ7,pairsOf_toList,List.getElem?_zip_eq_some];exact⟨e,e⟩
 unfold K;rw[z];rfl
theorem Bo{C:Fin->Shared->Prop}(ho:s.heap.get? a=some (seqObj "list" vs.toArray n))(hI:IntsAre vs ns)(hr:ns.Pairwise (·<=·))(hz:vs.length<=sizeLine)(q:∀(out:Array Value) (WG:List Int),IntsAre out.toList WG->WG.Perm ns->WG.Pairwise (·<=·)->C (.done (.ret .none)) {s with heap:=sortedHeap s.heap a vs out}) : wpAny 2e0 A (Builtin.«list.sort» ⟨[.ref a],[]⟩) C E s:=by
 by_cases X0:vs.length < 64
 ·exact list_sort_tree ho hI X0 q
 have lI:vs.length=ns.length:=hI.length;have la:a < s.heap.objs.size:=Μ ho;rw[list_sort_plain];refine Β (listItems_at ho rfl (Β (listUpdate_at ho rfl ?_)));obtain⟨e1,o1⟩:∃ e1,(s.heap.update a 3e0).get? a=some 9e0:=⟨_,get?_update_seq ho (fun _=>#[])⟩;refine Β (seqEpoch_at o1 rfl (Β (wpAny_newTuple (Β (wpAny_newList (Α6 ?_))))));have o6:(((s.heap.update a 3e0).push 8e0).push 0e1).get? a=some 9e0:=Ζ _ (Ζ _ o1);show wpAny 2e0 A _ C E {s with heap:=((s.heap.update a 3e0).push 8e0).push 0e1};dsimp only;have Xm:¬ vs.toArray.size < 2:=by rw[Ε];omega
 rw[if_neg Xm,if_neg Xm];obtain⟨u,v,rest,rfl⟩:∃ u v rest,vs=u::v::rest:=by
  match vs,X0 with
  | [],z=>exact absurd 6e0 z
  | [_],z=>exact absurd 6e0 z
  | u::v::rest,_=>exact⟨u,v,rest,rfl⟩
 rw[keyKind_ints hI];refine Β (Θ (Β (Α4 (OE (b0:=pairsOf 7e0) (st:=SortSt.mk' oneType' ((u::v::rest).toArray.zip (u::v::rest).toArray) #[] 7 none)
  (C:=fun _ z=>(arrOf z).Perm 4e0/\failedOf z=none/\SortedTo (arrOf z) (pairsOf 7e0).size)
  hI.intKeys ⟨Array.Perm.refl _,rfl,rfl,rfl⟩ (by rw[pairsOf_size];simp) (fun i i1 i2=>?_) fun z x y c=>⟨x,y,c⟩) ?_ fun _ _ e=>e)))
 ·rw[pairsOf_size] at i2;have l1:i - 1 < ns.length:=by omega
  have l2:i < ns.length:=by omega
  show K 4e0 (i - 1)<=K 4e0 i;rw[OT hI (ϕ l1),OT hI (ϕ l2)];exact Ε6.mp hr (i - 1) i l1 l2 0e0
 rintro⟨⟨⟩,z⟩ s' ⟨rfl,hp,hf,hs⟩;dsimp only;refine Β (seqEpoch_at o6 rfl (Β (listUpdate_at o6 rfl ?_ (hsz2:=by refine ϐ (Nat.le_of_eq ((Array.size_map ..).trans (hp.size_eq.trans (pairsOf_size _)))) ?_;omega))));rw[hf];simp only[bne_self_eq_false,ϗ,Β1];obtain⟨WG,h1,h2,h3⟩:=sorted_out hI hp hs;exact Θ (q _ WG h1 h2 h3)
end
end
noncomputable def JA:List V->Hp->VK->Prop:=fun vs H Q=>on1 vs fun x=>bE x fun p=>dC (H p) fun kvs=>iZ (intKeys kvs) fun ns=>ns.Pairwise (· < ·)/\∀(l:Addr) (WG:List Int),H l=none->WG.Perm ns->WG.Pairwise (·<=·)->Q (.ref l) (Wk H l (.lst (WG.map V.int)))
theorem Em{X:Cx}(hc:X.calm=true):gF X (.builtin "sorted") JA:=fun Wj s σ H xs us Q I r h=>by
 obtain⟨x,rfl,h1⟩:=lK h;obtain⟨p,rfl,h2⟩:=aR h1;obtain⟨kvs,e,h3⟩:=dP h2;obtain⟨ns,ek,abP,q⟩:=dD h3;obtain⟨u,rfl,ru⟩:=vals1 r;cases ru;obtain⟨hl,hk⟩:=wF ek;obtain⟨z,hd,vs0,rel,dd⟩:=vE I.Ws e;obtain⟨ep,dat⟩:=dd.dictAt;obtain⟨od,es,ho,_⟩:=id dat;obtain⟨m,hn,_⟩:=I.loc;have Xm:p≠X.env.locals:=aF e I.free;have l0:=rel.length;refine PySem.W.kdu_sorted (PySem.W.kdl_dict (knd:=bJ X.prog X.w) (kvs:=vs0) (ep:=ep) hd) (I.ok.hd hc) (Att.Kg hn) (Att.sQ Xm ho) dat (by omega) fun D h' tk vs F N lt hlen hP=>?_;have hI:IntsAre vs ns:=Gu (by omega) fun j v ev=>by
  obtain⟨k,x,e1,e2⟩:=hP j v ev;have hj:j < kvs.length:=by
   have:=(Λ.mp e1).1;omega
  obtain⟨⟨k',x'⟩,ekv⟩:∃ y,kvs[j]?=some y:=⟨_,ϕ hj⟩;obtain⟨v',e3⟩:=KV.at rel ekv;rw[e1] at e3;cases e3;obtain⟨i,rfl,ei⟩:=hk j _ _ ekv;obtain⟨t,et⟩:=(show ∃ t,v=Value.int i t from CN e2);exact⟨i,t,ei,et⟩
 have hD:h'.get? D=some (seqObj "list" vs.toArray 0):=(N _ (List.Mem.head _)).1;have old:∀ b o,b≠X.env.locals->s.heap.get? b=some o->h'.get? b=some o/\b < D:=fun b o nb eb=>by
  by_cases hb:b=p
  ·subst hb;rw[ho] at eb;cases eb;exact⟨(N _ (List.Mem.tail _ (List.Mem.head _))).1,lt _ (List.Mem.head _)⟩
  ·have mem:=Att.pA (h:=s.heap) (L:=X.env.locals) (d:=p) |>.mpr ⟨nb,hb,eb⟩;exact⟨(N _ (List.Mem.tail _ (List.Mem.tail _ mem))).1,lt _ (List.Mem.tail _ mem)⟩
 have g:MeetsIn X.prog X.w (Builtin.«list.sort» ⟨[.ref D],[]⟩) (fun _ R s=>s.heap.get? D=some (seqObj "list" vs.toArray 0)/\∀(out:Array Value) (WG:List Int),IntsAre out.toList WG->WG.Perm ns->WG.Pairwise (·<=·)->R (.ok (.ret .none)) {s with heap:=sortedHeap s.heap D vs out}) :=
  fun A R s ⟨g1,g2⟩=>Bo g1 hI (abP.imp fun h=>Int.le_of_lt h) (by omega) fun out WG a b c=>g2 out WG a b c
 refine Ε1 PySem.F.slot_list_sort ⟨_,hD,rfl⟩ PySem.F.entry_list_sort (PySem.F.args_list_sort_1 _) g ⟨hD,fun out WG hI' hp hs=>?_⟩;have hDL:D≠X.env.locals:=(N _ (List.Mem.head _)).2.1;have YQ:H D=none:=by
  cases z:H D with
  | none=>rfl
  | some o =>
   obtain⟨ob,eb⟩:=(I.Ws D o z).there;exact absurd (old D ob hDL eb).2 (Ϝ _)
 have new:∀ b o,b≠X.env.locals->s.heap.get? b=some o->(sortedHeap h' D vs out).get? b=some o:=fun b o nb eb=>by
  obtain⟨h1,h2⟩:=old b o nb eb;rw[sortedHeap_old (Ρ h2) (Μ h1)];exact h1
 obtain⟨e',hD'⟩:=sortedHeap_at (out:=out) hD;have Zj:∀ m',s.heap.Ns X.env.locals m'->(sortedHeap h' D vs out).Ns X.env.locals m':=fun m' hm=>by
  have em:m'=m:=by
   obtain⟨o1,Xa,Zf,a1,b1,_,c1⟩:=hm;obtain⟨o2,es2,ZI,a2,b2,_,c2⟩:=hn;rw[a1] at a2;cases a2;rw[b1] at b2;cases b2;funext y;rw[<- c1,<- c2]
  subst em;obtain⟨o1,Xa,Zf,a1,r1⟩:=F.ns;exact⟨o1,Xa,Zf,by rw[sortedHeap_old hDL.symm (Μ a1)];exact a1,r1⟩
 have nn:∀ {b:Addr} {o:HO},H b=some o->b≠D:=fun h z=>by subst z;rw[YQ] at h;cases h
 have nl:∀ {b:Addr} {o:HO},H b=some o->b≠X.env.locals:=fun h=>aF h I.free;refine⟨.ref D,Wk H D (.lst (WG.map V.int)),show Wm X Wj σ _ {s with heap:=sortedHeap h' D vs out,gens:=s.gens,drawn:=s.drawn,toks:=tk} from I.step (g':=s.gens) (d':=s.drawn) (t':=tk) (ch:=[]) (fun _ z=>nomatch z) (fun b o nb _ _ eb _=>new b o nb eb) (fun b o nb _ _ eb _=>⟨o.slots,new b o nb eb⟩) (fun b o _ eb hb=>?_) (fun b o _ eb=>?_)
  (fun b xs hb=>by rw[aD (nn hb)];exact hb) (fun b o u hb=>by rw[aD (nn hb)];exact hb) (fun b ps hb=>⟨#[],by rw[aD (nn hb),hb];simp⟩) Zj (fun b o hb=>?_) I.bare,rfl,q D WG YQ hp hs⟩
 ·by_cases YS:b=D
  ·subst YS;by_cases YT:b=X.env.locals
   ·exact absurd YT hDL
   ·exact absurd (old b o YT eb).2 (Ϝ _)
  ·rw[aD YS];exact hb
 ·by_cases YT:b=X.env.locals
  ·subst YT;obtain⟨o1,Xa,Zf,a1,r1⟩:=Zj m hn;exact⟨o1,a1⟩
  ·exact⟨o,new b o YT eb⟩
 ·by_cases YS:b=D
  ·subst YS;rw[aA] at hb;cases hb;exact⟨by rw[Δ,hp.length_eq];omega,out.toList,e',nY hI',hD'⟩
  ·rw[aD YS] at hb;refine(I.Ws b o hb).zK (fun c v hc ev=>?_) (fun c hc=>by rw[aD (nn hc)];exact hc) fun c xs hc=>by rw[aD (nn hc)];exact hc
   rcases hc with hc|hc
   ·subst hc;exact new c v (nl hb) ev
   ·exact new c v (nl hc) ev
section
variable{H:Hp}{Q:VK}{p:Addr}
def ND:JA [.ref p] H Q=dC (H p) fun kvs=>iZ (intKeys kvs) fun ns=>ns.Pairwise (· < ·)/\∀(l:Addr) (WG:List Int),H l=none->WG.Perm ns->WG.Pairwise (·<=·)->Q (.ref l) (Wk H l (.lst (WG.map V.int))):=rfl
end
theorem Dm{xs:List V}{Wn:List Value}(r:Wq xs Wn):∀ js:List Nat,∃ ys,Wq ys (js.filterMap fun x=>Wn.toArray[x]?)/\(∀ y∈ys,y∈xs)/\ys.length<=js.length
 | []=>⟨[],.nil,by simp,by simp⟩
 | j::js=>by
  obtain⟨ys,h1,h2,h3⟩:=Dm r js;cases e:xs[j]? with
  | none =>
   have e':=r.none_of e;refine⟨ys,?_,h2,by simp only[Η];omega⟩;rw[List.filterMap_cons_none (by simpa using e')];exact h1
  | some x =>
   obtain⟨u,e',ru⟩:=r.get e;refine⟨x::ys,?_,fun y hy=>?_,by simp only[Η];omega⟩
   ·rw[List.filterMap_cons_some (by simpa using e')];exact .cons ru h1
   ·rcases Α.mp hy with rfl|hy
    ·exact Α1 e
    ·exact h2 y hy
theorem IK{lo hi:Option Int}{k:Int}(h:0 < k)(n:Nat):(sliceRange (sliceBounds lo hi (some k) n).1 (sliceBounds lo hi (some k) n).2.1 (sliceBounds lo hi (some k) n).2.2).length<=n:=by
 have a1:0<=(sliceBounds lo hi (some k) n).1:=by
  cases lo with
  | none=>simp[sliceBounds,h]
  | some i=>simp only[sliceBounds,Option.getD_some,show k > 0 from h,Γ5];omega
 have a2:(sliceBounds lo hi (some k) n).2.1<=n:=by
  cases hi with
  | none=>simp[sliceBounds,h]
  | some i=>simp only[sliceBounds,Option.getD_some,show k > 0 from h,Γ5];omega
 have a3:(sliceBounds lo hi (some k) n).2.2=k:=rfl;generalize sliceBounds lo hi (some k) n=z at *;obtain⟨b,c,d⟩:=z;simp only at a1 a2 a3;subst a3;unfold sliceRange;simp only[Δ,List.length_range,show d > 0 from h,Γ5];split
 ·next hl =>
  have:(c - b+d - 1) / d<=c - b:=by
   refine Int.lt_add_one_iff.mp ?_;refine Int.ediv_lt_of_lt_mul h ?_;have m:(c - b) * 1<=(c - b) * d:=Int.mul_le_mul_of_nonneg_left (by omega) (by omega);rw[Int.add_mul];generalize (c - b) * d=y at *;omega
  omega
 ·simp
section
variable{X:Cx}
noncomputable def UI(K:q0B)(te:TE)(tl th ts:TO):TE:=fun σ H Q=>te σ H fun x H1=>tl σ H1 fun _ H2=>th σ H2 fun _ H3=>ts σ H3 fun k H4=>∃ a xs m,x=.ref a/\eU K H4 a xs/\k=some m/\0 < m/\∀(ys:List V) p,(∀ y∈ys,y∈xs)->ys.length<=xs.length->H4 p=none->Q (.ref p) (Wk H4 p (.lst ys))
theorem Ak{e:Expr}{te:TE}{lo hi:Option Expr}{st:Expr}{tl th ts:TO}{p2 pos:Pos}(he:PE X e te)(hl:PO X lo tl)(hu:PO X hi th)(hs:PO X (some st) ts):PE X (.Subscript e (.Slice lo hi (some st) p2) pos) (UI X.K te tl th ts):=by
 intro Wj s σ H Q I h;refine Subscript_ (thn (he Wj s σ H _ I h) fun v s1 ⟨x,H1,I1,r1,q1⟩=>?_);refine wpAny_Slice (thn (hl Wj s1 σ H1 _ I1 q1) fun vl s2 ⟨l,H2,I2,pl,q2⟩=>thn (hu Wj s2 σ H2 _ I2 q2) fun vu s3 ⟨u,H3,I3,pu,q3⟩=>thn (hs Wj s3 σ H3 _ I3 q3) fun vk s4 ⟨k,H4,I4',pk,q4⟩=>?_);have I4:Wm X Wj σ H4 {s4 with heap:=s4.heap.push {cls:=.type "slice",data:=.fields #[vl,vu,vk]}}:=I4'.kept (t':=s4.toks) fun b ob q=>Ζ _ q;obtain⟨a,xs,m,rfl,hx,rfl,hm,q⟩:=q4;cases r1;obtain⟨Wn,r,ht,hz⟩:=I4.list hx;have hlen:=r.length;show wpAny (model X.prog X.w) X.A (subscriptTail e (.Slice lo hi (some st) p2) (.ref a) (.ref s4.heap.objs.size)) (EP X Wj σ Q) X.xe {s4 with heap:=s4.heap.push {cls:=.type "slice",data:=.fields #[vl,vu,vk]}};refine tail_any (ops:=[.ref a,.ref s4.heap.objs.size]) ht.isList.typeIs slot_list_getitem.lookup ?_ (by with_unfolding_all rfl);refine wpAny_getItem_list_slice ht.isList (Heap.IsSliceOf.new ..) pl pu pk (by intro z;cases z;omega) ?_ (by rw[Ε]<;>omega);obtain⟨ys,h1,h2,h3⟩:=Dm r (sliceRange (sliceBounds l u (some m) Wn.toArray.size).1 (sliceBounds l u (some m) Wn.toArray.size).2.1 (sliceBounds l u (some m) Wn.toArray.size).2.2);have h4:=IK (lo:=l) (hi:=u) hm Wn.toArray.size;rw[Ε] at h4;have h5:ys.length<=xs.length:=by rw[Ε] at h3;omega
 refine⟨.ref (s4.heap.push {cls:=.type "slice",data:=.fields #[vl,vu,vk]}).objs.size,_,I4.laid (t':=s4.toks) (o:=.lst ys) (fun b ob q=>Ζ _ q) (Ι _) ?_,rfl,q ys _ h2 h5 (I4.Ws.fresh (Ι _))⟩;exact⟨ϐ h5 hz,_,0,h1,Χ _ rfl⟩
def QZ{K:q0B}{te:TE}{tl th ts:TO}{σ:St}{H:Hp}{Q:VK}:UI K te tl th ts σ H Q=te σ H fun x H1=>tl σ H1 fun _ H2=>th σ H2 fun _ H3=>ts σ H3 fun k H4=>∃ a xs m,x=.ref a/\eU K H4 a xs/\k=some m/\0 < m/\∀(ys:List V) p,(∀ y∈ys,y∈xs)->ys.length<=xs.length->H4 p=none->Q (.ref p) (Wk H4 p (.lst ys)):=rfl
end
section
variable{fr:List Nat}{tc:TT}{te tl:TE}{σ:St}{H:Hp}{Q:VK}{K:q0B}
def JX:yH K (wC K tl) fr tc te σ H Q=tl σ H fun x H1=>bE x fun a=>(∃ xs,eU K H1 a xs)/\lc2 K (Yl K a) fr tc te σ H1 Q:=by
 unfold yH wC
 congr 1
 funext x H1;exact propext ⟨fun⟨a,e,h1,h⟩=>by subst e;exact⟨h1,h⟩,fun h=>by obtain⟨a,rfl,h1,h⟩:=aR h;exact⟨a,rfl,h1,h⟩⟩
theorem KQ{ys:List V}(Pv:Nat->List V->Hp->Prop)(h0:Pv 0 [] H)(hz:∀ i xs H,Pv i xs H->xs.length<=1000000)(hl:∀ i xs H,Pv i xs H->eU K H a ys)(hs:∀(i:Nat) y xs H,i < ys.length->ys[i]?=some y->Pv i xs H->∃ p y1 y2,y=.ref p/\g8 K H p [y1,y2]/\tc (some y1::some y2::aV fr σ) H fun b H2=>if b=true then te (some y1::some y2::aV fr σ) H2 (fun z H3=>Pv (i+1) (xs++[z]) H3) else Pv (i+1) xs H2)(hd:∀ xs H,Pv ys.length xs H->∀ p,H p=none->Q (.ref p) (Wk H p (.lst xs))):lc2 K (Yl K a) fr tc te σ H Q:=by
 refine⟨cW ys.length Pv,⟨ys.length,by simp,Α5 _,h0⟩,?_⟩;rintro i m xs H ⟨rfl,hi,pv⟩;refine⟨hz i xs H pv,?_⟩;have q1:=hl i xs H pv;by_cases lt:i < ys.length
 ·refine .inr ⟨⟨ys,ys[i],q1,by simp[lt]⟩,fun v H' yy=>?_⟩;obtain⟨e,yy⟩:=yy;subst e;obtain⟨p,y1,y2,ey,hp,hh⟩:=hs i v xs H' lt (yy ys q1) pv;refine⟨p,y1,y2,ey,hp,?_⟩;simp only[Ce lt];exact hh
 ·refine .inl ⟨⟨ys,q1,by omega⟩,?_⟩;exact hd xs H ((show i=ys.length by omega)▸pv)
end
def uX:R2:=JB
def kM{X:Cx}:iW X (binaryOp .Add) uX:=Of
section
variable{prog:Program}{w:World}{A:Around}{E:q0A}{s:Shared}
theorem vL{it t:Addr}{items:Array Value}(Xm:t≠it):∀(n i:Nat) (s:Shared) (Q:List Value->Shared->Prop),s.heap.IsListIter it t i->s.heap.IsList t items->i+n<=items.size -> (∀ h',Heap.IsListIter h' it t (i+n)->Heap.SameBut it s.heap h'->Q ((items.toList.drop i).take n) {s with heap:=h'})->wpAny (model prog w) A (draw (.ref it) n) Q E s
 | 0,i,s,Q,hit,_,_,hQ=>by
  show wpAny _ _ (pure []) Q E s;exact Θ (by simpa using hQ s.heap hit (Heap.SameBut.refl ..))
 | n+1,i,s,Q,hit,ht,hle,hQ=>by
  have WS:i < items.size:=by omega
  show wpAny _ _ (pyNext (.ref it) >>= _) Q E s;refine Β (wpAny_pyNext_list_item hit ht (x:=items[i]) (by simp[WS]) fun h₁ aaH hs₁=>?_);refine Β (Α6 (vL Xm n (i+1) _ _ aaH (ht.extBut hs₁.extBut Xm) (by omega) fun h₂ abU hs₂=>Θ ?_));have hd:items.toList.drop i=items[i]::items.toList.drop (i+1):=by simp[List.drop_eq_getElem_cons,WS]
  have:=hQ h₂ (by rw[show i+(n+1)=i+1+n by omega];exact abU) (hs₁.trans hs₂);rw[hd,Ζ0] at this;exact this
theorem qV{t:Addr}{Q:List Value->Shared->Prop}(hh:A.handled=none)(ht:s.heap.IsList t items)(hQ:∀ h',Heap.ExtBut s.heap.objs.size s.heap h'->Q items.toList {s with heap:=h'}):wpAny (model prog w) A (unpackItems (.ref t) items.size none) Q E s:=by
 have WS:t≠s.heap.objs.size:=by obtain⟨o,ho,_⟩:=ht;exact Ρ (Μ ho)
 unfold unpackItems;refine Β ?_
 ·unfold notIterableAtAll;refine Β (wpAny_specialOf ht.typeIs slot_list_iter.lookup ?_);refine Θ ?_;simp only[ϗ,Β1];refine Β (Α6 (wpAny_pyIter_list ht ?_));refine Β (Α6 (vL WS items.size 0 _ _ ⟨_,Χ _ rfl,rfl,rfl⟩ (ht.push _) (by omega) fun h₁ aaH hs₁=>?_));have YR:List.take items.size (List.drop 0 items.toList)=items.toList:=by
   rw[List.drop_zero];exact List.take_of_length_le (by simp)
  rw[YR];rw[if_neg (by simp)];have ht₁:h₁.IsList t items:=(ht.push _).extBut hs₁.extBut WS;refine Β (Α6 (wpAny_pyNext_list_end hh aaH ht₁ (by simp) fun h₂ he₂=>?_));simp only[Option.isSome_none,ϗ,Β1];refine Θ (hQ h₂ fun b o hb e=>he₂ b o hb (hs₁.extBut b o hb (Ζ _ e)))
def oT{env:Env}{elts:List Expr}{x1}{pos:Pos}{t:Addr}{Q:Unit->Shared->Prop}(hh:A.handled=none)(ht:s.heap.IsList t items)(hn:(assignEach elts env).length=items.size)(aa8:(assignEach elts env).findIdx? (·.1)=none)(h:∀ h',Heap.ExtBut s.heap.objs.size s.heap h'->wpAny (model prog w) A (assignInOrder ((assignEach elts env).map (·.2)) items.toList) Q E {s with heap:=h'}) : wpAny (model prog w) A (assign (.Tuple elts x1 pos) env (.ref t)) Q E s:=by
 rw[assign_Tuple];refine Β (wpAny_standAt ?_);unfold unpack;rw[hn,aa8];exact Β (Α6 (qV hh ht h))
end
section
variable{X:Cx}{pos:Pos}
def TH(K:q0B)(n:Nat)(t:TGs):TG:=fun v σ H Q=>∃ a xs,v=.ref a/\eU K H a xs/\xs.length=n/\t xs σ H Q
def Lz{es:List Expr}{k:Nat}{t:TGs}(hc:X.calm=true)(h:PGs X es t)(hn:(assignEach es X.env).length=n:=by rfl)(WD:(assignEach es X.env).findIdx? (·.1)=none:=by rfl):PG X (.Tuple es k pos) (TH X.K n t):=by
 intro Wj s σ H v u Q I r hw;obtain⟨a,xs,e1,hq,hl,hw⟩:=hw;subst e1;cases r;obtain⟨Wn,rv,ht,hz⟩:=I.list hq;refine oT (I.ok.hd hc) ht.isList (by simp[hn,<- hl,rv.length]) WD fun h' hx=>?_;have I1:Wm X Wj σ H {s with heap:=h'}:=I.kept (t':=s.toks) fun b o e=>hx b o (Ρ (Μ e)) e;exact h Wj _ σ H xs _ Q I1 (by simpa using rv) hw
def Qz{K:q0B}{t:TGs}{σ:St}{H:Hp}{Q:St->Hp->Prop}:TH K n t (.ref a) σ H Q = ∃ xs,eU K H a xs/\xs.length=n/\t xs σ H Q:=propext ⟨fun⟨b,xs,e,h⟩=>by cases e;exact⟨xs,h⟩,fun⟨xs,h⟩=>⟨a,xs,rfl,h⟩⟩
end
noncomputable def RS(g:Addr->Bool):Value->Bool
 | .ref a=>g a
 | _=>false
theorem yP:∀ {as:List Addr} {us:List Value},Wq (as.map V.ref) us->us=as.map Value.ref
 | [],_,.nil=>rfl
 | _::_,_,.cons r t=>by cases r;rw[yP t];rfl
noncomputable def Vl(K:q0B)(n:Nat):R2:=fun x y H Q=>bE y fun p=>∃(as:List Addr) (g:Addr->Bool),H p=some (.lst (as.map V.ref))/\(∀ a∈as,AG K H n (.ref a) x (g a))/\Q (.bl (as.any g)) H
section
variable{X:Cx}
theorem Rz(n:Nat)(hu:X.A.units+(n+1) < cLine):iW X (compareOp .In) (Vl X.K n):=fun Wj s σ H x y v u Q I rx ry h=>by
 obtain⟨p,rfl,as,g,e,he,q⟩:=aR h;cases ry;obtain⟨Wn,r,pl,hz⟩:=I.list (eU.of e);have hi:=yP r;subst hi;refine SeqAt.in_listAt (RS g) pl.isList (fun w hw=>?_) ⟨.bl _,H,I,rfl,?_⟩
 ·simp only[List.mem_toArray,Β3] at hw;obtain⟨a,ha,rfl⟩:=hw;exact EB (he a ha) I rfl rx (by show X.A.units+1+_ < _;omega)
 ·rw[show(as.map Value.ref).toArray.any (RS g)=as.any g by simp[List.any_map,Function.comp_def,RS]];exact q
end
mutual
example:=[]
def j6(i:Nat):TE:=fun σ H Q=>iZ (σ[i]?).join fun v=>Q v H
def FL(t:TE):TT:=fun σ H B=>t σ H fun x H'=>Jc x fun k=>B k H'
def Js(sp:Sp)(t:TA):TE:=fun σ H Q=>t σ H fun vs H1=>sp vs H1 Q E0
def Cd(C:Addr)(m:Str)(sp:Sp)(ta:TE)(t:TA):TE:=fun σ H Q=>ta σ H fun x H1=>bE x fun a=>iM C (H1 a) fun _ fs=>fs.lookup m=none/\t σ H1 fun vs H2=>sp (.ref a::vs) H2 Q E0
end
section
variable{X:Cx}{e:Expr}{te ta:TE}{t:TA}{sp:Sp}{C:Addr}{m:Str}
mutual
example:=[]
def PE.cV{i:Nat}(h:PE X e (oA i)):PE X e (j6 i):=fun Wj s σ H Q I q=>h Wj s σ H Q I (by
 obtain⟨v,e,q⟩:=dD q;refine⟨v,?_,q⟩;cases z:σ[i]? with
 | none=>rw[z] at e;cases e
 | some o=>rw[z] at e;cases o with
  | none=>cases e
  | some u=>cases e;rfl)
def PT.cT(h:PT X e (AD te)):PT X e (FL te):=fun Wj s σ H Q I q=>h Wj s σ H Q I (by rw[Ka];exact q)
def PE.cC(h:PE X e (Hj sp [] E0 t)):PE X e (Js sp t):=fun Wj s σ H Q I q=>h Wj s σ H Q I (by rw[JW];exact q)
def PE.cM(h:PE X e (DU C m sp [] E0 ta t)):PE X e (Cd C m sp ta t):=fun Wj s σ H Q I q=>h Wj s σ H Q I (by rw[J3];exact q)
end
end
section
variable{v:V}{o0 o1 o2 o3 o4 o5 o6:Option V}{σ:St}{H:Hp}{Q:VK}{B:Bool->Hp->Prop}{te ta:TE}{t:TA}{sp:Sp}{C:Addr}{m:Str}
mutual
example:=[]
def Vn:j6 0 (some v::σ) H Q=Q v H:=rfl
def Vo:j6 1 (o0::some v::σ) H Q=Q v H:=rfl
def Vp:j6 2 (o0::o1::some v::σ) H Q=Q v H:=rfl
def Vq:j6 3 (o0::o1::o2::some v::σ) H Q=Q v H:=rfl
def Vr:j6 4 (o0::o1::o2::o3::some v::σ) H Q=Q v H:=rfl
def Vs:j6 5 (o0::o1::o2::o3::o4::some v::σ) H Q=Q v H:=rfl
def Vt:j6 6 (o0::o1::o2::o3::o4::o5::some v::σ) H Q=Q v H:=rfl
def Vu:j6 7 (o0::o1::o2::o3::o4::o5::o6::some v::σ) H Q=Q v H:=rfl
def P9:FL te σ H B=te σ H fun x H'=>Jc x fun k=>B k H':=rfl
def P6:Js sp t σ H Q=t σ H fun vs H1=>sp vs H1 Q E0:=rfl
def P8:Cd C m sp ta t σ H Q=ta σ H fun x H1=>bE x fun a=>iM C (H1 a) fun _ fs=>fs.lookup m=none/\t σ H1 fun vs H2=>sp (.ref a::vs) H2 Q E0:=rfl
end
end
end L2
namespace Own
open PySem L2
variable{XP:(q0C)->Heap->Prop}{C a dd fl l o2 op:Addr}{YD:Array (Option Value)}{wt:Bool}{o:HO}{base:Heap}{G H H' H1:Hp}{i j:Int}{kvs:List (Key×V)}{D:List Addr}{ns pd pend pt ts:List Int}{loose:List Str}{ds us:List V}{N p:Nat}{s0 s1 s2 s3 s4 s5 s6 s7 s8:Sp}{σ:St}{k q:Str}{ot ot':Str->Option V}{v y:V}{Q:VK}{E:XK}{K:q0B}{mg:q0C}
local macro_rules | `(tactic| exists $ts,*) => `(tactic| wp_walk using $ts,*)
set_option hygiene false in
local macro_rules | `(tactic| nomatch $a) => `(tactic| refine ($a).ok (fun vs H Q E h => ?_) (fun cdv A outer s H vs Q E hr sc h => ?_))
set_option hygiene false in
local macro_rules | `(tactic| nomatch $a, 0) => `(tactic| (refine ⟨_, $a, ?_⟩; clear sc; try dsimp only [L2.start, EI, K0, List.cons_append, List.nil_append, List.replicate_succ, List.replicate_zero, List.length_cons, List.length_nil, Nat.reduceAdd, Nat.reduceSub, Nat.zero_add]))
set_option hygiene false in
local macro_rules | `(tactic| left) => `(tactic| (refine bW fun R0 hR0 => ?_; try dsimp only))
set_option hygiene false in
local macro_rules | `(tactic| right) => `(tactic| (refine hR0 _ _ ?_; clear hR0; try clear R0))
local macro_rules | `(tactic| and_intros) => `(tactic| try dsimp only [L2.start, EI, K0, List.cons_append, List.nil_append, List.replicate_succ, List.replicate_zero, List.length_cons, List.length_nil, Nat.reduceAdd, Nat.reduceSub, Nat.zero_add])
local macro_rules | `(tactic| infer_instance) => `(tactic| first | exact ⟨rfl, by first | exact Or.inl rfl | exact Or.inr (Or.inl rfl) | exact Or.inr (Or.inr rfl), by decide, by decide⟩ | exact ⟨rfl, rfl, rfl, by decide +kernel, rfl, by decide +kernel, by decide +kernel⟩)
seal PE PA PT PW PS XF PI PG PGs ZG PO PPs
mutual
example:=[]
inductive A5(p0 p1 p2 p3 p4:Prop):Prop
 | mk (_:p0) (_:p1) (_:p2) (_:p3) (_:p4):A5 p0 p1 p2 p3 p4
inductive A6(p0 p1 p2 p3 p4 p5:Prop):Prop
 | mk (_:p0) (_:p1) (_:p2) (_:p3) (_:p4) (_:p5):A6 p0 p1 p2 p3 p4 p5
inductive A7(p0 p1 p2 p3 p4 p5 p6:Prop):Prop
 | mk (_:p0) (_:p1) (_:p2) (_:p3) (_:p4) (_:p5) (_:p6):A7 p0 p1 p2 p3 p4 p5 p6
inductive A8(p0 p1 p2 p3 p4 p5 p6 p7:Prop):Prop
 | mk (_:p0) (_:p1) (_:p2) (_:p3) (_:p4) (_:p5) (_:p6) (_:p7):A8 p0 p1 p2 p3 p4 p5 p6 p7
inductive A13(p0 p1 p2 p3 p4 p5 p6 p7 p8 p9 p10 p11 p12:Prop):Prop
 | mk (_:p0) (_:p1) (_:p2) (_:p3) (_:p4) (_:p5) (_:p6) (_:p7) (_:p8) (_:p9) (_:p10) (_:p11) (_:p12):A13 p0 p1 p2 p3 p4 p5 p6 p7 p8 p9 p10 p11 p12
inductive A15(p0 p1 p2 p3 p4 p5 p6 p7 p8 p9 p10 p11 p12 p13 p14:Prop):Prop
 | mk (_:p0) (_:p1) (_:p2) (_:p3) (_:p4) (_:p5) (_:p6) (_:p7) (_:p8) (_:p9) (_:p10) (_:p11) (_:p12) (_:p13) (_:p14):A15 p0 p1 p2 p3 p4 p5 p6 p7 p8 p9 p10 p11 p12 p13 p14
inductive E2{α0 α1:Type}(P:α0->α1->Prop):Prop
 | mk (a0:α0) (a1:α1) (_:P a0 a1):E2 P
inductive E3{α0 α1 α2:Type}(P:α0->α1->α2->Prop):Prop
 | mk (a0:α0) (a1:α1) (a2:α2) (_:P a0 a1 a2):E3 P
inductive E5{α0 α1 α2 α3 α4:Type}(P:α0->α1->α2->α3->α4->Prop):Prop
 | mk (a0:α0) (a1:α1) (a2:α2) (a3:α3) (a4:α4) (_:P a0 a1 a2 a3 a4):E5 P
inductive E6{α0 α1 α2 α3 α4 α5:Type}(P:α0->α1->α2->α3->α4->α5->Prop):Prop
 | mk (a0:α0) (a1:α1) (a2:α2) (a3:α3) (a4:α4) (a5:α5) (_:P a0 a1 a2 a3 a4 a5):E6 P
inductive E7{α0 α1 α2 α3 α4 α5 α6:Type}(P:α0->α1->α2->α3->α4->α5->α6->Prop):Prop
 | mk (a0:α0) (a1:α1) (a2:α2) (a3:α3) (a4:α4) (a5:α5) (a6:α6) (_:P a0 a1 a2 a3 a4 a5 a6):E7 P
inductive E9{α0 α1 α2 α3 α4 α5 α6 α7 α8:Type}(P:α0->α1->α2->α3->α4->α5->α6->α7->α8->Prop):Prop
 | mk (a0:α0) (a1:α1) (a2:α2) (a3:α3) (a4:α4) (a5:α5) (a6:α6) (a7:α7) (a8:α8) (_:P a0 a1 a2 a3 a4 a5 a6 a7 a8):E9 P
structure Sf(K:q0B)(x q:Str)(st:Stmt)(ns ps:List Str)(f:Addr)(d:FuncData)(M:Prop):Prop where
 fn:Fun K x q st f d
 bd:Binds K d ps []
 sc:nH ns ps (cK st)
 m:M
abbrev jX(K:q0B)(mg:q0C)(x:Str)(st:Stmt)(ns ps:List Str)(f:Addr)(d:FuncData):Prop:=Sf K x x st ns ps f d (mg x=some (.ref f))
abbrev oB(K:q0B)(C:Addr)(x q:Str)(st:Stmt)(ns ps:List Str)(f:Addr)(d:FuncData):Prop:=Sf K x q st ns ps f d (Meth K C x f)
end
section
open PySem.Spec PyProof.Rows
variable{P:Program}{w:World}{h:Heap}{x:Str}{st:Stmt}{ns ps:List Str}{f:Addr}{d:FuncData}{M:Prop}{k:Nat}{sp:Sp}
mutual
example:=[some (.ref f),.ref f,cK st,PySem.W.fnOf x x (g9 st) (fL st) (cK st) .none kV doc pm an WK ct,PySem.W.fnOf x q (g9 st) (fL st) (cK st) .none kV doc pm an WK ct,ps.zip us]
def Sf.ok(g:Sf K x q st ns ps f d M)(len:∀ vs H Q E,sp vs H Q E->vs.length=ps.length)(XQ:∀(WK:Value) (A:Around) (outer:List Env) (s:Shared) (H:Hp) (vs:List V) (Q:VK) (E:XK),Room k (A.deeper (envOfC q 2e0 s.heap.objs.size f WK))->ns.Nodup->sp vs H Q E -> ∃ t,XF (AS Xq P w K mg base ns q 2e0 f WK A outer s H E).nox (fL st) t/\t {nx:=fun _ H'=>Q .Wl H',rt:=Q} (start ns vs) H):fS P w K mg base Xq (k+1) f d ps sp:=g.fn.ok g.sc len fun WK A outer s H vs Q E hr h=>XQ WK A outer s H vs Q E hr g.sc.nd h
def b0{P:List Value->Prop}(h:P []):∀ us:List Value,us.length=0->P us:=fun us e=>by rw[List.length_eq_zero_iff.mp e];exact h
theorem bS{P:List Value->Prop}{n:Nat}(h:∀ a,∀ us:List Value,us.length=n->P (a::us)):∀ us:List Value,us.length=n+1->P us
 | [],e=>by cases e
 | a::us,e=>h a us (Nat.succ.inj e)
structure Gf0(K:q0B)(x:Str)(st:Stmt)(f:Addr)(d:FuncData):Prop where
 a:PySem.W.nsIn K mainGlobals x=some 0e0
 F:Fun K x x st f d
structure Gm0(K:q0B)(C:Addr)(x q:Str)(st:Stmt)(f:Addr)(d:FuncData):Prop where
 a:PySem.W.findIn K (.ref C) x=some 0e0
 i:PySem.W.isFn K 1e0=true
 F:Fun K x q st f d
def TR{oc:Value}{od an:Option Addr}{kV doc pm WK ct:Value}(a:PySem.W.nsIn K mainGlobals x=some 0e0)(l:K.lookup f=some ⟨oc,od,.func 3e0,YD⟩)(c:PySem.W.codeIn K WK x=true)(k:PySem.W.keepIn K 1e0=true):Gf0 K x st f 3e0:=⟨a,Ki l c k⟩
def TU{oc:Value}{od an:Option Addr}{kV doc pm WK ct:Value}(a:PySem.W.findIn K (.ref C) x=some 0e0)(i:PySem.W.isFn K 1e0=true)(l:K.lookup f=some ⟨oc,od,.func 4e0,YD⟩)(c:PySem.W.codeIn K WK q=true)(k:PySem.W.keepIn K 1e0=true):Gm0 K C x q st f 4e0:=⟨a,i,Ki l c k⟩
def Gf0.go(F:Gf0 K x st f d)(X:K.In h)(G:h.Ns mainGlobals mg)(b:∀(kV doc pm:Value) (an:Option Addr) (WK ct:Value) (us:List Value),us.length=ps.length->bindArgs 3e0 ⟨us,[]⟩=pure 5e0:=by exact fun _ _ _ _ _ _=>by repeat (first|exact b0 rfl|refine bS fun _=>?_))(sc:nH ns ps 2e0:=by infer_instance):jX K mg x st ns ps f d:=⟨F.F,F.F.binds b,sc,PySem.W.mg_of X G F.a⟩
def Gm0.go(F:Gm0 K C x q st f d)(b:∀(kV doc pm:Value) (an:Option Addr) (WK ct:Value) (us:List Value),us.length=ps.length->bindArgs 4e0 ⟨us,[]⟩=pure 5e0:=by exact fun _ _ _ _ _ _=>by repeat (first|exact b0 rfl|refine bS fun _=>?_))(sc:nH ns ps 2e0:=by infer_instance):oB K C x q st ns ps f d:=⟨F.F,F.F.binds b,sc,F.a,F.i,F.F.kp⟩
end
end
section
open PySem.Spec PyProof.Rows
variable{X:Cx}{x:Str}{p pos:Pos}{e o:Expr}{es:List Expr}{t:TA}{k:Nat}{f:Addr}{fd:FuncData}{ns ps:List Str}{sp:Sp}{st:Stmt}{ta td ty te tb tv:TE}{a b i value:Expr}
mutual
example:=[.Name x pos,e::es,.Attribute o m apos,OK r ta tb,(by omega),backToKw pos (keywordEach [] X.env),.Compare a [op] [b] pos,x==("__debug__":Str),starEach es X.env,getMethod ov m pl,compareOp op]
theorem pcl(F:fS X.prog X.w X.K X.mg X.base Xq k f fd ps sp)(g:jX X.K X.mg x st ns ps f fd)(ha:PA X 1e0 t)(hr:Room k X.A:=by exact hr.mono 4e0)(hg:Gl X x:=by rfl)(YW:7e0=false:=by decide)(he:starEach 1e0 X.env=(false,eval e X.env)::starEach es X.env:=by rfl)(WV:(backTo pos 8e0).any (·.1)=false:=by rfl) : PE X (.Call (.Name x p) 1e0 [] pos) (Js sp t):=(BC F hr hg g.m g.fn.kp g.bd .nil pass0 ha YW he WV).cC
theorem pmt{m:Str}{apos:Pos}{pl:Sem Bool}(he:PE X o ta)(c:Cls X.K C)(F:fS X.prog X.w X.K X.mg X.base Xq k f fd ps sp)(g:oB X.K C m q st ns ps f fd)(ha:PA X 1e0 t)(hr:Room k X.A:=by exact hr.mono 4e0)
    (WD:starEach 1e0 X.env=(false,eval e X.env)::starEach es X.env:=by rfl) (WV:(backTo pos 8e0).any (·.1)=false:=by rfl)
    (ht:eval (.Call 2e0 1e0 [] pos) X.env=(do
      let ov <- eval o X.env
      standAt apos.atName
      let (f,first) <- holding [ov] 9e0
      callWith pos f first (backTo pos (starEach 1e0 X.env)) 5e0):=by rfl) :
    PE X (.Call 2e0 1e0 [] pos) (Cd C m sp ta t):=(BF he c g.m F hr g.bd .nil pass0 ha WD WV ht).cM
theorem pmt0{m:Str}{apos:Pos}{pl:Sem Bool}(he:PE X o ta)(c:Cls X.K C)(F:fS X.prog X.w X.K X.mg X.base Xq k f fd ps sp)(g:oB X.K C m q st ns ps f fd)(hr:Room k X.A:=by exact hr.mono 4e0)
    (ht:eval (.Call 2e0 [] [] pos) X.env=(do
      let ov <- eval o X.env
      standAt apos.atName
      let (f,first) <- holding [ov] 9e0
      callWith pos f first (backTo pos (starEach [] X.env)) 5e0):=by rfl) :
    PE X (.Call 2e0 [] [] pos) (Cd C m sp ta yI):=(Lx he c g.m F hr g.bd .nil pass0 ht).cM
theorem pst{pos':Pos}(i:Nat)(he:PE X e te)(hN:X.N.Nodup:=by exact sc)(hi:X.N[i]?=some x:=by rfl)(hx:Loc X.env.scope x:=by exact .inl rfl)(hs:swapsWith e (some (.Name x pos')) pos.line X.env=pure false:=by rfl)(hf:X.fn x=true\/X.env.scope.names.lookup x=some .local:=by first|exact .inl rfl|exact .inr rfl|assumption) : PS X (.Assign [.Name x pos'] e pos) (IT te (jJ i)):=BI hN hi hx he hs hf
theorem pgn(i:Nat)(hN:X.N.Nodup:=by exact sc)(hi:X.N[i]?=some x:=by rfl)(hx:Loc X.env.scope x:=by exact .inl rfl)(hf:X.fn x=true\/X.env.scope.names.lookup x=some .local:=by first|exact .inl rfl|exact .inr rfl|assumption):PG X 0e0 (jJ i):=uF hN hi hx hf
def pdg(ho:PE X o td)(hi:PE X i ty)(hs:Mv i:=by exact fun _ _=>rfl)(hu:X.A.units+1 < cLine:=by exact oF hr):PE X (.Subscript o i pos) (PY td ty):=Ls hu ho hi hs
def ppt{pos':Pos}(ho:PE X o td)(hi:PE X i ty)(hv:PE X value tv)(hs:swapsWith value (some (.Subscript o i pos')) pos.line X.env=pure false:=by rfl)(hu:X.A.units+1 < cLine:=by exact oF hr) : PS X (.Assign [.Subscript o i pos'] value pos) (P5 td ty tv):=Oo hu ho hi hv hs
def ptc{op:CmpOp}{r:R2}(ho:iW X 0e1 r)(ha:PE X a ta)(hb:PE X b tb)(hm:behindInMarks op b=false:=by exact nomark _):PT X 6e0 (FL 3e0):=(dQ ho ha hb hm).cT
def pcr{op:CmpOp}{r:R2}(ho:iW X 0e1 r)(ha:PE X a ta)(hb:PE X b tb)(hm:behindInMarks op b=false:=by exact nomark _):PE X 6e0 3e0:=BD ho ha hb hm
def pix{r:R2}(hr:Fx X r)(ha:PE X a ta)(hb:PE X b tb)(hs:Fy b:=by exact fun _ _=>rfl):PE X (.Subscript a b pos) 3e0:=Uo hr ha hb hs
def pa1{t1:TE}{e1:Expr}(a:PE X e1 t1)(i:mP e1=false:=by rfl):PA X [e1] (nD t1 yI):=eY a bM i
def pa2{t1 t2:TE}{e1 e2:Expr}(a:PE X e1 t1)(b:PE X e2 t2)(i:mP e1=false:=by rfl)(j:mP e2=false:=by rfl):PA X [e1,e2] (nD t1 (nD t2 yI)):=eY a (pa1 b j) i
def pa3{t1 t2 t3:TE}{e1 e2 e3:Expr}(a:PE X e1 t1)(b:PE X e2 t2)(c:PE X e3 t3)(i:mP e1=false:=by rfl)(j:mP e2=false:=by rfl)(k:mP e3=false:=by rfl):PA X [e1,e2,e3] (nD t1 (nD t2 (nD t3 yI))):=eY a (pa2 b c j k) i
def pss2{s1 s2:Stmt}{t1 t2:TS}(a:PS X s1 t1)(b:PS X s2 t2):XF X [s1,s2] (yJ t1 t2):=aG a (aH b)
def pss3{s1 s2 s3:Stmt}{t1 t2 t3:TS}(a:PS X s1 t1)(b:PS X s2 t2)(c:PS X s3 t3):XF X [s1,s2,s3] (yJ t1 (yJ t2 t3)):=aG a (pss2 b c)
def pif{c:Expr}{l:List Stmt}{tc:TT}{t1:TS}(hc:PT X c tc)(ha:XF X l t1):PS X (.If c l [] pos) (DT tc t1 Hl):=fI hc ha Ot
def Pk(X:Cx)(i:Nat)(x:Str):Prop:=X.N[i]?=some x/\Vis X.env.scope x/\7e0=false/\(x==("__classdict__":Str))=false
def pv0(h:Pk X 0 x:=by infer_instance):PE X 0e0 (j6 0):=(lL h.1 h.2.1 h.2.2.1 h.2.2.2).cV
def pv1(h:Pk X 1 x:=by infer_instance):PE X 0e0 (j6 1):=(lL h.1 h.2.1 h.2.2.1 h.2.2.2).cV
def pv2(h:Pk X 2 x:=by infer_instance):PE X 0e0 (j6 2):=(lL h.1 h.2.1 h.2.2.1 h.2.2.2).cV
def pv3(h:Pk X 3 x:=by infer_instance):PE X 0e0 (j6 3):=(lL h.1 h.2.1 h.2.2.1 h.2.2.2).cV
def pv4(h:Pk X 4 x:=by infer_instance):PE X 0e0 (j6 4):=(lL h.1 h.2.1 h.2.2.1 h.2.2.2).cV
def pv5(h:Pk X 5 x:=by infer_instance):PE X 0e0 (j6 5):=(lL h.1 h.2.1 h.2.2.1 h.2.2.2).cV
def pv6(h:Pk X 6 x:=by infer_instance):PE X 0e0 (j6 6):=(lL h.1 h.2.1 h.2.2.1 h.2.2.2).cV
def pv7(h:Pk X 7 x:=by infer_instance):PE X 0e0 (j6 7):=(lL h.1 h.2.1 h.2.2.1 h.2.2.2).cV
end
end
def top(i:Nat):Stmt:=PySem.Challenge.pw_outlast_k22_whole_tickets_once.main.body.getD i (.Pass ⟨0,0,0,0⟩)
mutual
example:=[top 25,top 11,top 13]
abbrev LJ:Stmt:=top 4
abbrev Ay:Stmt:=top 6
abbrev DB:Stmt:=top 7
abbrev xW:Stmt:=top 8
abbrev oQ:Stmt:=top 9
abbrev oN:Stmt:=bY 1e0 0
abbrev oO:Stmt:=bY 1e0 1
abbrev lZ:Stmt:=bY 1e0 2
abbrev jG:Stmt:=bY 1e0 3
abbrev lY:Stmt:=bY 1e0 4
abbrev oP:Stmt:=bY 1e0 5
abbrev kQ:Stmt:=bY 1e0 6
abbrev jF:Stmt:=bY 1e0 7
abbrev xR:Stmt:=bY 2e0 0
abbrev qO:Stmt:=bY 2e0 1
abbrev m8:Stmt:=bY 2e0 2
abbrev qP:Stmt:=bY 2e0 3
abbrev sV:Stmt:=bY 2e0 4
abbrev sW:Stmt:=bY 2e0 5
abbrev GS:Stmt:=top 16
abbrev Aq:Stmt:=top 17
abbrev Ar:Stmt:=top 18
abbrev Dz:Stmt:=top 19
abbrev Dx:Stmt:=top 20
abbrev DA:Stmt:=top 21
abbrev Dy:Stmt:=top 22
abbrev GR:Stmt:=top 23
abbrev Am:Stmt:=bY 0e0 0
abbrev xP:Stmt:=bY 0e0 1
abbrev kP:Stmt:=bY 0e0 2
abbrev Ao:Stmt:=bY 0e0 4
abbrev lW:Stmt:=bY 0e0 5
abbrev oM:Stmt:=bY 0e0 6
abbrev lX:Stmt:=bY 0e0 7
abbrev Ap:Stmt:=bY 0e0 8
abbrev Al:Stmt:=bY 0e0 9
abbrev xO:Stmt:=bY 0e0 10
abbrev An:Stmt:=bY 0e0 11
abbrev Dw:Stmt:=bY 0e0 12
abbrev qN:Stmt:=bY 0e0 13
abbrev xQ:Stmt:=bY 0e0 14
abbrev m7:Stmt:=bY 0e0 15
abbrev As:Stmt:=top 28
abbrev Aw:Stmt:=top 29
abbrev Av:Stmt:=top 30
abbrev xV:Stmt:=top 31
abbrev tE:Stmt:=top 32
abbrev xT:Stmt:=top 33
abbrev tF:Stmt:=top 34
abbrev sX:Stmt:=top 35
abbrev qS:Stmt:=top 36
abbrev qQ:Stmt:=top 37
abbrev Ax:Stmt:=top 38
abbrev Au:Stmt:=top 39
abbrev DC:Stmt:=top 40
abbrev tG:Stmt:=top 41
abbrev xS:Stmt:=top 42
abbrev qR:Stmt:=top 43
abbrev sZ:Stmt:=top 44
abbrev sY:Stmt:=top 45
abbrev GU:Stmt:=top 46
abbrev l6:Stmt:=top 47
abbrev xU:Stmt:=top 48
abbrev m9:Stmt:=top 50
abbrev DD:Stmt:=top 51
abbrev nA:Stmt:=top 52
abbrev kR:Stmt:=top 53
abbrev Pn:Stmt:=top 54
set_option genInjectivity false in
set_option genSizeOf false in
structure Ad where
 Sj:Addr
 Sy:FuncData
 uV:Addr
 vN:FuncData
 My:Addr
 MV:FuncData
 Hx:Addr
 HQ:FuncData
 AL:Addr
 AY:FuncData
 pK:Addr
 AV:FuncData
 AJ:Addr
 AW:FuncData
 uQ:Addr
 vD:FuncData
 pL:Addr
 pS:FuncData
 uP:Addr
 vC:FuncData
 AK:Addr
 AX:FuncData
 tI:Addr
 tM:FuncData
 pJ:Addr
 pR:FuncData
 zR:Addr
 HI:FuncData
 B4:Addr
 Cs:FuncData
 yX:Addr
 y9:FuncData
 B5:Addr
 Ct:FuncData
 D8:Addr
 Er:FuncData
 Ea:Addr
 Es:FuncData
 Jl:Addr
 Qd:FuncData
 uR:Addr
 JN:FuncData
 B7:Addr
 JO:FuncData
 FH:Addr
 MT:FuncData
 FA:Addr
 MR:FuncData
 FI:Addr
 MU:FuncData
 FE:Addr
 MS:FuncData
 Jk:Addr
 Qc:FuncData
 B0:Addr
 JJ:FuncData
 Hr:Addr
 HG:FuncData
 tH:Addr
 tL:FuncData
 Jh:Addr
 JL:FuncData
 uN:Addr
 vA:FuncData
 AI:Addr
 AU:FuncData
 uO:Addr
 vB:FuncData
 Ji:Addr
 JM:FuncData
 Jf:Addr
 JI:FuncData
 Hq:Addr
 HF:FuncData
 Jg:Addr
 JK:FuncData
 Mx:Addr
 MQ:FuncData
 B3:Addr
 Cr:FuncData
 Hs:Addr
 HH:FuncData
 yW:Addr
 y8:FuncData
 Jm:Addr
 JR:FuncData
 Jo:Addr
 JT:FuncData
 Jn:Addr
 JS:FuncData
 Hw:Addr
 HP:FuncData
 oS:Addr
 oW:FuncData
 Hu:Addr
 HM:FuncData
 Eg:Addr
 Ey:FuncData
 Ed:Addr
 Eu:FuncData
 Ca:Addr
 Cz:FuncData
 B8:Addr
 Cw:FuncData
 uU:Addr
 vI:FuncData
 uS:Addr
 vG:FuncData
 Mz:Addr
 MW:FuncData
 Eh:Addr
 Ez:FuncData
 Ht:Addr
 HL:FuncData
 B9:Addr
 Cy:FuncData
 Ef:Addr
 Ex:FuncData
 Ee:Addr
 Ew:FuncData
 PN:Addr
 Qe:FuncData
 uT:Addr
 vH:FuncData
 Hv:Addr
 HN:FuncData
 yY:Addr
 zA:FuncData
 MA:Addr
 MX:FuncData
 yZ:Addr
 zB:FuncData
 tJ:Addr
 tN:FuncData
 Vj:Addr
 Vw:FuncData
 wJ:Tok
 tP:Tok
 CL:Tok
 iI:Addr
 aI:Addr
 aQ:Addr
 aP:Addr
end
variable{t:Ad}
mutual
example:=[(if n < 1000000000 then n else 1000000000),some (.ref t.uR),.int (clamp n)]
structure Tx(P:Program)(w:World)(base:Heap)(K:q0B)(mg:q0C)(t:Ad):Prop where
 Aa:jX K mg "kept" LJ ["number"] ["number"] t.Sj t.Sy
 mO:jX K mg "worth_of" Ay ["saying","names","arg","now","answers","kind","one","other"] ["saying","names","arg","now","answers"] t.uV t.vN
 Bc:jX K mg "joined" DB ["sign","one","other","left","right"] ["sign","one","other"] t.My t.MV
 kF:jX K mg "number_of" xW ["worth"] ["worth"] t.Hx t.HQ
 gO:jX K mg "one_or_nought" oQ ["truth"] ["truth"] t.AL t.AY
 kY:oB K t.aI "__init__" "Tickets.__init__" oN ["self"] ["self"] t.pK t.AV
 kZ:oB K t.aI "make" "Tickets.make" oO ["self","ticket"] ["self"] t.AJ t.AW
 dY:oB K t.aI "is_open" "Tickets.is_open" lZ ["self","ticket"] ["self","ticket"] t.uQ t.vD
 gL:oB K t.aI "those_open" "Tickets.those_open" jG ["self"] ["self"] t.pL t.pS
 i8:oB K t.aI "finish" "Tickets.finish" lY ["self","ticket","worth"] ["self","ticket","worth"] t.uP t.vC
 iP:oB K t.aI "shut" "Tickets.shut" oP ["self","ticket"] ["self","ticket"] t.AK t.AX
 fM:oB K t.aI "shut_all" "Tickets.shut_all" kQ ["self"] ["self"] t.tI t.tM
 gK:oB K t.aI "first_done" "Tickets.first_done" jF ["self","worths","tickets"] ["self","worths"] t.pJ t.pR
 rB:oB K t.aQ "__init__" "Walk.__init__" xR ["self","program"] ["self","program"] t.zR t.HI
 mL:oB K t.aQ "come_to" "Walk.come_to" qO ["self"] ["self"] t.B4 t.Cs
 eK:oB K t.aQ "stands_at" "Walk.stands_at" m8 ["self"] ["self"] t.yX t.y9
 gA:oB K t.aQ "pass_by" "Walk.pass_by" qP ["self"] ["self"] t.B5 t.Ct
 k5:oB K t.aQ "enter" "Walk.enter" sV ["self","which"] ["self","which"] t.D8 t.Er
 oY:oB K t.aQ "leave" "Walk.leave" sW ["self"] ["self"] t.Ea t.Es
 Ba:jX K mg "do_set" GS ["run","statement"] ["run","statement"] t.Jl t.Qd
 j9:jX K mg "do_order" Aq ["run","statement","worth","ticket"] ["run","statement"] t.uR t.JN
 pV:jX K mg "do_timer" Ar ["run","statement","worth","due","ticket"] ["run","statement"] t.B7 t.JO
 tX:jX K mg "do_send" Dz ["run","statement"] ["run","statement"] t.FH t.MT
 tV:jX K mg "do_drop" Dx ["run","statement","ticket"] ["run","statement"] t.FA t.MR
 tY:jX K mg "do_wait" DA ["run","statement","worths","ticket","pending"] ["run","statement"] t.FI t.MU
 tW:jX K mg "do_hear" Dy ["run","statement","worths"] ["run","statement"] t.FE t.MS
 AZ:jX K mg "do_end" GR ["run","statement"] ["run","statement"] t.Jk t.Qc
 vR:oB K t.aP "__init__" "Run.__init__" Am ["self","program"] ["self","program"] t.B0 t.JJ
 j8:oB K t.aP "waits" "Run.waits" xP ["self"] ["self"] t.Hr t.HG
 iG:oB K t.aP "open_tickets" "Run.open_tickets" kP ["self"] ["self"] t.tH t.tL
 vT:oB K t.aP "take" "Run.take" Ao ["self","happening"] ["self","happening"] t.Jh t.JL
 i6:oB K t.aP "passes_over" "Run.passes_over" lW ["self","happening","kind"] ["self","happening"] t.uN t.vA
 kX:oB K t.aP "take_done" "Run.take_done" oM ["self","ticket","worth"] ["self","ticket","worth"] t.AI t.AU
 i7:oB K t.aP "take_letter" "Run.take_letter" lX ["self","key","worth"] ["self","key","worth"] t.uO t.vB
 pU:oB K t.aP "wake" "Run.wake" Ap ["self","worth"] ["self","worth"] t.Ji t.JM
 pT:oB K t.aP "go_on" "Run.go_on" Al ["self","commands","many","statement"] ["self"] t.Jf t.JI
 rA:oB K t.aP "do_one" "Run.do_one" xO ["self","statement","kind","commands"] ["self","statement"] t.Hq t.HF
 vS:oB K t.aP "look" "Run.look" An ["self","statement"] ["self","statement"] t.Jg t.JK
 tU:oB K t.aP "end" "Run.end" Dw ["self","worth"] ["self","worth"] t.Mx t.MQ
 mK:oB K t.aP "wear_out" "Run.wear_out" qN ["self"] ["self"] t.B3 t.Cr
 dM:oB K t.aP "worth" "Run.worth" xQ ["self","saying"] ["self","saying"] t.Hs t.HH
 hE:oB K t.aP "new_ticket" "Run.new_ticket" m7 ["self","name","ticket"] ["self","name"] t.yW t.y8
 pW:jX K mg "_law_deck" As ["cell","turn"] ["cell","turn"] t.Jm t.JR
 bK:jX K mg "_law_pick" Aw ["deck","many","found","number"] ["deck","many"] t.Jo t.JT
 gN:jX K mg "_law_name" Av ["deck"] ["deck"] t.Jn t.JS
 iY:jX K mg "_law_worth" xV ["deck","kind"] ["deck"] t.Hw t.HP
 bV:jX K mg "_law_saying" tE ["deck","deep","kind","one"] ["deck","deep"] t.oS t.oW
 rC:jX K mg "_law_plain" xT ["deck","kind"] ["deck"] t.Hu t.HM
 o9:jX K mg "_law_simple" tF ["deck","kind","sayings"] ["deck"] t.Eg t.Ey
 k6:jX K mg "_law_closed" sX ["frames","head","first","second"] ["frames"] t.Ed t.Eu
 mN:jX K mg "_law_program" qS ["cells","frames","cell","deck","kind"] ["cells"] t.Ca t.Cz
 jI:jX K mg "_law_bounded" qQ ["number"] ["number"] t.B8 t.Cw
 eV:jX K mg "_law_says" Ax ["saying","run","word","one","other","left","right"] ["saying","run"] t.uU t.vI
 kE:jX K mg "_law_flat" Au ["block","path","code","k","here","word","at","over"] ["block","path","code"] t.uS t.vG
 Bf:jX K mg "_law_new" DC ["program","code","run"] ["program"] t.Mz t.MW
 lA:jX K mg "_law_ticket" tG ["run","name"] ["run","name"] t.Eh t.Ez
 nO:jX K mg "_law_ended" xS ["run","worth","orders"] ["run","worth","orders"] t.Ht t.HL
 mM:jX K mg "_law_do_plain" qR ["run","some","orders","word","worth","due"] ["run","some","orders"] t.B9 t.Cy
 o8:jX K mg "_law_do_wait" sZ ["run","some","worths","ready"] ["run","some"] t.Ef t.Ex
 oZ:jX K mg "_law_do_hear" sY ["run","some"] ["run","some"] t.Ee t.Ew
 Be:jX K mg "_law_go" GU ["run","orders","steps","word","some","path","where"] ["run","orders"] t.PN t.Qe
 gM:jX K mg "_law_goes_behind" l6 ["run","worth","orders"] ["run","worth","orders"] t.uT t.vH
 rD:jX K mg "_law_takes" xU ["run","happening","orders","word","moment"] ["run","happening"] t.Hv t.HN
 jS:jX K mg "_law_happening" m9 ["deck","run","moment","kind","ticket","key"] ["deck","run"] t.yY t.zA
 Bg:jX K mg "_law_row" DD ["program","cells","run","row","k","deck","happening"] ["program","cells"] t.MA t.MX
 jT:jX K mg "_law_told_right" nA ["orders","state","command"] ["orders","state"] t.yZ t.zB
 iH:jX K mg "_law_stands_right" kR ["run","state","waiting","tickets","there"] ["run","state"] t.tJ t.tN
 TC:jX K mg "law" Pn ["script","program","row","run","state","happening","ahead","passed","orders"] ["script"] t.Vj t.Vw
 bI:Cls K t.aI
 KY:mg "Tickets"=some (.ref t.aI)
 rO:Mk K t.aI t.pK
 cZ:Cls K t.aQ
 Ue:mg "Walk"=some (.ref t.aQ)
 EN:Mk K t.aQ t.zR
 aU:Cls K t.aP
 VP:mg "Run"=some (.ref t.aP)
 Ld:Mk K t.aP t.B0
 wU:eJ K t.aI "made"
 gB:eJ K t.aI "pending"
 gX:eJ K t.aI "answers"
 iE:eJ K t.aQ "blocks"
 fB:eJ K t.aQ "numbers"
 jV:eJ K t.aP "walk"
 dX:eJ K t.aP "sleep"
 CW:eJ K t.aP "arg"
 sP:eJ K t.aP "now"
 iU:eJ K t.aP "names"
 cS:eJ K t.aP "tickets"
 kK:eJ K t.aP "letters"
 mF:mg "GREATEST_WORTH"=some (.int 1000000000 t.wJ)
 tK:mg "GREATEST_MOMENT"=some (.int 1000000000000 t.tP)
 Cc:mg "MOST_AT_ONCE"=some (.int 300 t.CL)
 PX:mg "DEEDS"=some (.ref t.iI)
 Oa:Sh w.params K t.iI
 Ip:PySem.W.nsIn K t.iI "set"=some (some (.ref t.Jl))
 CU:PySem.W.nsIn K t.iI "order"=some 1e0
 CV:PySem.W.nsIn K t.iI "timer"=some (some (.ref t.B7))
 CT:PySem.W.nsIn K t.iI "child"=some 1e0
 ES:PySem.W.nsIn K t.iI "send"=some (some (.ref t.FH))
 EO:PySem.W.nsIn K t.iI "drop"=some (some (.ref t.FA))
 ET:PySem.W.nsIn K t.iI "wait"=some (some (.ref t.FI))
 ER:PySem.W.nsIn K t.iI "hear"=some (some (.ref t.FE))
 Io:PySem.W.nsIn K t.iI "end"=some (some (.ref t.Jk))
 Mq:mg "dict"=none
 zO:mg "int"=none
 l7:mg "len"=none
 Mr:mg "list"=none
 zP:mg "max"=none
 Ja:mg "min"=none
 yS:mg "range"=none
 OS:mg "set"=none
 uM:mg "sorted"=none
 nG:mg "tuple"=none
abbrev Ok{P:Program}{w:World}{base:Heap}{K:q0B}{mg:q0C}{t:Ad}(_:Tx P w base K mg t){x q:Str}{st:Stmt}{ns ps:List Str}{f:Addr}{d:FuncData}{M:Prop}(_:Sf K x q st ns ps f d M)(n:Nat)(sp:Sp):Prop:=fS P w K mg base Xq n f d ps sp
def Wi{CX:CXT}{P:Program}{w:World}{N:List Str}{sc:Scope}{f:Addr}{cd:Value}{A:Around}{o:List Env}{s:Shared}:(AS CX P w K mg base N q sc f cd A o s H E).K=K:=rfl
def V1{CX:CXT}{P:Program}{w:World}{N:List Str}{sc:Scope}{f:Addr}{cd:Value}{A:Around}{o:List Env}{s:Shared}:(AS CX P w K mg base N q sc f cd A o s H E).nox.K=K:=rfl
def small{n:Nat}(h:n<=1000):n<=sizeLine:=Nat.le_of_lt (small1000 h)
def GF(h0:-(2 ^ 64) < i)(h1:i < 2 ^ 64):CMul i j:=.inl ⟨h0,h1⟩
structure Fz(H:Hp)(r:Addr):Prop where
 ex:∃ c l f:Int,H r=some (.lst [.int c,.int l,.int f])/\0<=l/\l < 536870909
def RZ:Sp:=fun vs H Q _=>∃(r:Addr) (m:Int),vs=[.ref r,.int m]/\0 < m/\m<=10 ^ 45/\Fz H r /\
 ∀(g:Int) (H':Hp),0<=g->g < m->Fz H' r->Kp [r] H H'->Q (.int g) H'
def RO{r:Addr}{m:Int}:RZ [.ref r,.int m] H Q E=(0 < m/\m<=10 ^ 45/\Fz H r/\∀(g:Int) (H':Hp),0<=g->g < m->Fz H' r->Kp [r] H H'->Q (.int g) H') :=
 propext ⟨fun⟨_,_,e,h⟩=>by cases e;exact h,fun h=>⟨_,_,rfl,h⟩⟩
def clamp(n:Int):Int:=if 0e0 > -1000000000 then 0e0 else -1000000000
def Fe:Sp:=fun vs H Q _=>∃ n:Int,vs=[.int n]/\Q 2e0 H
def RN{n:Int}:Fe [.int n] H Q E=Q 2e0 H:=propext ⟨fun⟨_,e,h⟩=>by cases e;exact h,fun h=>⟨_,rfl,h⟩⟩
theorem mH(n:Int):-1000000000<=clamp n/\clamp n<=1000000000:=by
 unfold clamp
 repeat' split
 all_goals omega
abbrev Wo:=Option Int
end
variable{an ans r:List (Int×Wo)}{lt:List (Str×List Wo)}{ws:List Wo}
mutual
example:=[(if num a < num b then (1:Int) else 0),(.int (if b=true then 1 else 0)),(if a=b then (1:Int) else 0),.int (num w)]
def wv:Wo->V
 | none=>.Wl
 | some n=>.int n
def num(w:Wo):Int:=w.getD 0
def wk:Wo->Key
 | none=>.no
 | some n=>.inl n
def eD(w:Wo):Prop:=∀ n,w=some n->-1000000000<=n/\n<=1000000000
theorem Fu{a b:Wo}(h:wv a=wv b):a=b:=by cases a<;>cases b<;>simp_all [wv]
def Sd(w:Wo):jH (wv w)=some (wk w):=by cases w<;>rfl
def Fv(w:Wo):(wv w=.Wl)=(w=none):=by cases w<;>simp[wv]
def uL(w:Wo):dN (wv w)=true:=by cases w<;>rfl
def kI:eD none:=fun _ h=>nomatch h
def eW{n:Int}(h0:-1000000000<=n)(h1:n<=1000000000):eD (some n):=fun m h=>by cases h;exact⟨h0,h1⟩
theorem wI{w:Wo}(h:eD w):-1000000000<=num w/\num w<=1000000000:=by
 cases w with
 | none=>exact⟨by decide,by decide⟩
 | some n=>exact h n rfl
def Pr:Sp:=fun vs H Q _=>∃ w:Wo,vs=[wv w]/\Q 3e0 H
def Ur{w:Wo}:Pr [wv w] H Q E=Q 3e0 H :=
 propext ⟨fun⟨u,e,h⟩=>by simp only[List.cons.injEq,and_true] at e;rw[Fu e];exact h,fun h=>⟨w,rfl,h⟩⟩
def Pt:Sp:=fun vs H Q _=>∃ b:Bool,vs=[.bl b]/\Q 1e0 H
def Dt{b:Bool}:Pt [.bl b] H Q E=Q 1e0 H :=
 propext ⟨fun⟨u,e,h⟩=>by cases e;exact h,fun h=>⟨b,rfl,h⟩⟩
inductive Sg where
 | add|sub|mul|lt|eq
def Sg.s:Sg->Str
 | .add=>"+" | .sub=>"-" | .mul=>"*" | .lt=>"<" | .eq=>"="
def Sg.of(g:Sg)(a b:Wo):Int :=
 match g with
 | .add=>clamp (num a+num b) | .sub=>clamp (num a - num b) | .mul=>clamp (num a * num b) | .lt=>if num a < num b then 1 else 0 | .eq=>if a=b then 1 else 0
theorem Sg.Pe(g:Sg)(a b:Wo):-1000000000<=g.of a b/\g.of a b<=1000000000:=by
 cases g
 ·exact mH _
 ·exact mH _
 ·exact mH _
 ·show -1000000000<=0e0/\0e0<=1000000000;split<;>decide
 ·show -1000000000<=2e0/\2e0<=1000000000;split<;>decide
inductive DH(vs:List V)(H:Hp)(Q:VK)(E:XK):Prop
 | mk (g:Sg) (a b:Wo) (_:vs=[.str g.s,wv a,wv b]) (_:eD a) (_:Q (.int (g.of a b)) H):DH vs H Q E
inductive Say where
 | num (n:Int)|Wl|name (x:Str)|arg|now|ans (s:Say)|neg (s:Say)|two (g:Sg) (a b:Say)
end
variable{ss:List Say}{h:Option (Bool×Say)}
mutual
example:=[k _ _ e,.ref a,ev p s,(if num (ev p s)=0 then 1 else 0),(by decide)]
inductive c0(H:Hp):V->Say->Prop
 | num {a:Addr} {n:Int}:H a=some (.tup [.str "number",.int n])->c0 H 1e0 (.num n)
 | Wl {a:Addr}:H a=some (.tup [.str "none"])->c0 H 1e0 .Wl
 | name {a:Addr} {x:Str}:H a=some (.tup [.str "name",.str x])->c0 H 1e0 (.name x)
 | arg {a:Addr}:H a=some (.tup [.str "arg"])->c0 H 1e0 .arg
 | now {a:Addr}:H a=some (.tup [.str "now"])->c0 H 1e0 .now
 | ans {a:Addr} {v:V} {s:Say}:H a=some (.tup [.str "answer",v])->c0 H v s->c0 H 1e0 (.ans s)
 | neg {a:Addr} {v:V} {s:Say}:H a=some (.tup [.str "not",v])->c0 H v s->c0 H 1e0 (.neg s)
 | two {a:Addr} {v u:V} {g:Sg} {s r:Say}:H a=some (.tup [.str g.s,v,u])->c0 H v s->c0 H u r->c0 H 1e0 (.two g s r)
def aE(H H':Hp):Prop:=∀ a xs,H a=some (.tup xs)->H' a=some (.tup xs)
def c0.kp{s:Say}(h:c0 H v s)(k:aE H H'):c0 H' v s:=by
 induction h with
 | num e=>exact .num 0e0
 | Wl e=>exact .Wl 0e0
 | name e=>exact .name 0e0
 | arg e=>exact .arg 0e0
 | now e=>exact .now 0e0
 | ans e _ ih=>exact .ans 0e0 ih
 | neg e _ ih=>exact .neg 0e0 ih
 | two e _ _ i1 i2=>exact .two 0e0 i1 i2
def aE.of{S:List Addr}(k:Kp S H H')(h:∀ a∈S,∃ o,H a=some o/\∀ xs,o≠.tup xs):aE H H':=fun a xs e=>k a _ e fun z=>by
 obtain⟨o,e',d⟩:=h a z;rw[e] at e';exact d xs (ϖ e').symm
def aE.new{p:Addr}(h:H p=none):aE H (Wk H p o):=fun a xs e=>by rw[aD (aF e h)];exact e
def aE.trans{H2:Hp}(a:aE H H1)(b:aE H1 H2):aE H H2:=fun x xs e=>b x xs (a x xs e)
def Say.depth:Say->Nat
 | .ans s=>s.depth+1 | .neg s=>s.depth+1 | .two _ a b=>max a.depth b.depth+1 | .num _=>1 | .Wl=>1 | .name _=>1 | .arg=>1 | .now=>1
def Say.ok:Say->Prop
 | .num n=>-1000000000<=n/\n<=1000000000 | .ans s=>s.ok | .neg s=>s.ok | .two _ a b=>a.ok/\b.ok|_=>True
def Say.nL(s:Say):1<=s.depth:=by cases s<;>simp[Say.depth]
structure Pl where
 nm:Str->Wo
 ar:Wo
 now:Int
 an:Wo->Wo
structure Pl.Ok(p:Pl):Prop where
 nm:∀ x,eD (p.nm x)
 ar:eD p.ar
 an:∀ w,eD (p.an w)
def ev(p:Pl):Say->Wo
 | .num n=>some n
 | .Wl=>none
 | .name x=>p.nm x
 | .arg=>p.ar
 | .now=>some (clamp p.now)
 | .ans s=>p.an 2e0
 | .neg s=>some 3e0
 | .two g a b=>some (g.of (ev p a) (ev p b))
theorem Gi{p:Pl}(hp:p.Ok):∀ {s:Say},s.ok->eD 2e0
 | .num n,h=>eW h.1 h.2
 | .Wl,_=>kI
 | .name x,_=>hp.nm x
 | .arg,_=>hp.ar
 | .now,_=>eW (mH _).1 (mH _).2
 | .ans s,_=>hp.an _
 | .neg s,_=>by
  show eD (some 3e0);split<;>exact eW 4e0 4e0
 | .two g a b,_=>eW (g.Pe _ _).1 (g.Pe _ _).2
def Vf(H:Hp)(d:Addr)(f:Str->Wo):Prop:=∃ kvs,H d=some (.dK kvs)/\∀ x,(aW kvs (.inr x)).getD .Wl=wv (f x)
def Vb(H:Hp)(d:Addr)(f:Wo->Wo):Prop:=∃ kvs,H d=some (.dK kvs)/\∀ w,(aW kvs (wk w)).getD .Wl=wv (f w)
inductive OF(d:Nat)(vs:List V)(H:Hp)(Q:VK)(E:XK):Prop
 | mk (v:V) (dn da:Addr) (p:Pl) (s:Say) (_:vs=[v,.ref dn,wv p.ar,.int p.now,.ref da]) (_:c0 H v s) (_:s.depth<=d) (_:s.ok) (_:Vf H dn p.nm) (_:Vb H da p.an) (_:p.Ok) (_:Q (wv 2e0) H):OF d vs H Q E
inductive Stm where
 | set (x:Str) (s:Say)|order (x y:Str) (s:Say)|Wy (x:Str) (s:Say)|child (x y:Str) (s:Say)|send (s:Say) (k:Str) (r:Say)|drop (s:Say)
 | wait (x:Str) (ss:List Say)|Wp (x k:Str)|fin (s:Say)|WH (s:Say) (b:List Stm)|iff (s:Say) (b o:List Stm)
end
variable{P b bb ms:List Stm}
inductive fT(H:Hp):List V->List Say->Prop
 | nil:fT H [] []
 | cons {v:V} {vs:List V} {s:Say} {ss:List Say}:c0 H v s->fT H vs ss->fT H (v::vs) (s::ss)
def fT.kp{vs:List V}(h:fT H vs ss)(k:aE H H'):fT H' vs ss:=by
 induction h with
 | nil=>exact .nil
 | cons a _ ih=>exact .cons (a.kp k) ih
mutual
inductive b9(H:Hp):V->Stm->Prop
 | set {a:Addr} {x:Str} {v:V} {s:Say}:H a=some (.tup [.str "set",.str x,v])->c0 H v s->b9 H (.ref a) (.set x s)
 | order {a:Addr} {x y:Str} {v:V} {s:Say}:H a=some (.tup [.str "order",.str x,.str y,v])->c0 H v s->b9 H (.ref a) (.order x y s)
 | Wy {a:Addr} {x:Str} {v:V} {s:Say}:H a=some (.tup [.str "timer",.str x,v])->c0 H v s->b9 H (.ref a) (.Wy x s)
 | child {a:Addr} {x y:Str} {v:V} {s:Say}:H a=some (.tup [.str "child",.str x,.str y,v])->c0 H v s->b9 H (.ref a) (.child x y s)
 | send {a:Addr} {k:Str} {v u:V} {s r:Say}:H a=some (.tup [.str "send",v,.str k,u])->c0 H v s->c0 H u r->b9 H (.ref a) (.send s k r)
 | drop {a:Addr} {v:V} {s:Say}:H a=some (.tup [.str "drop",v])->c0 H v s->b9 H (.ref a) (.drop s)
 | wait {a p:Addr} {x:Str} {vs:List V} {ss:List Say}:H a=some (.tup [.str "wait",.str x,.ref p])->H p=some (.tup vs)->fT H vs ss->b9 H (.ref a) (.wait x ss)
 | Wp {a:Addr} {x k:Str}:H a=some (.tup [.str "hear",.str x,.str k])->b9 H (.ref a) (.Wp x k)
 | fin {a:Addr} {v:V} {s:Say}:H a=some (.tup [.str "end",v])->c0 H v s->b9 H (.ref a) (.fin s)
 | WH {a p:Addr} {v:V} {s:Say} {vs:List V} {b:List Stm}:H a=some (.tup [.str "while",v,.ref p])->c0 H v s->H p=some (.tup vs)->bP H vs b->b9 H (.ref a) (.WH s b)
 | iff {a p q:Addr} {v:V} {s:Say} {vs us:List V} {b o:List Stm}:H a=some (.tup [.str "if",v,.ref p,.ref q])->c0 H v s->H p=some (.tup vs)->bP H vs b->H q=some (.tup us)->bP H us o->b9 H (.ref a) (.iff s b o)
inductive bP(H:Hp):List V->List Stm->Prop
 | nil:bP H [] []
 | cons {v:V} {vs:List V} {x:Stm} {xs:List Stm}:b9 H v x->bP H vs xs->bP H (v::vs) (x::xs)
end
def b9.kp(k:aE H H'){m:Stm}(h:b9 H v m):b9 H' v m :=
 b9.rec (motive_1:=fun v m _=>b9 H' v m) (motive_2:=fun vs ms _=>bP H' vs ms)
  (fun e s=>.set (k _ _ e) (s.kp k)) (fun e s=>.order (k _ _ e) (s.kp k)) (fun e s=>.Wy (k _ _ e) (s.kp k)) (fun e s=>.child (k _ _ e) (s.kp k))
  (fun e s r=>.send (k _ _ e) (s.kp k) (r.kp k)) (fun e s=>.drop (k _ _ e) (s.kp k)) (fun e f s=>.wait (k _ _ e) (k _ _ f) (s.kp k)) (fun e=>.Wp (k _ _ e)) (fun e s=>.fin (k _ _ e) (s.kp k))
  (fun e s f _ b=>.WH (k _ _ e) (s.kp k) (k _ _ f) b) (fun e s f _ f' _ b b'=>.iff (k _ _ e) (s.kp k) (k _ _ f) b (k _ _ f') b') .nil (fun _ _ a b=>.cons a b) h
def bP.kp(k:aE H H'){vs:List V}(h:bP H vs ms):bP H' vs ms :=
 bP.rec (motive_1:=fun v m _=>b9 H' v m) (motive_2:=fun vs ms _=>bP H' vs ms)
  (fun e s=>.set (k _ _ e) (s.kp k)) (fun e s=>.order (k _ _ e) (s.kp k)) (fun e s=>.Wy (k _ _ e) (s.kp k)) (fun e s=>.child (k _ _ e) (s.kp k))
  (fun e s r=>.send (k _ _ e) (s.kp k) (r.kp k)) (fun e s=>.drop (k _ _ e) (s.kp k)) (fun e f s=>.wait (k _ _ e) (k _ _ f) (s.kp k)) (fun e=>.Wp (k _ _ e)) (fun e s=>.fin (k _ _ e) (s.kp k))
  (fun e s f _ b=>.WH (k _ _ e) (s.kp k) (k _ _ f) b) (fun e s f _ f' _ b b'=>.iff (k _ _ e) (s.kp k) (k _ _ f) b (k _ _ f') b') .nil (fun _ _ a b=>.cons a b) h
mutual
noncomputable def Stm.dp:Stm->Nat
 | .WH _ b=>oX b+1
 | .iff _ b o=>max (oX b) (oX o)+1
 | .set _ _=>0
 | .order _ _ _=>0
 | .Wy _ _=>0
 | .child _ _ _=>0
 | .send _ _ _=>0
 | .drop _=>0
 | .wait _ _=>0
 | .Wp _ _=>0
 | .fin _=>0
noncomputable def oX:List Stm->Nat
 | []=>0
 | m::ms=>max m.dp (oX ms)
end
mutual
example:=[Int×Wo,jE pend,.inl i,some i,(pend.filter fun j=>decide (j≠i)),(by simp),(by intro z;cases z)]
def bP.at{vs:List V}(h:bP H vs ms):∀ {i:Nat} {x:V},vs[i]?=some x->∃ m,ms[i]?=some m/\b9 H x m:=by
 induction ms generalizing vs with
 | nil=>cases h;intro i x e;simp at e
 | cons m ms ih =>
  cases h with
  | cons a b =>
   intro i x e;cases i with
   | zero=>simp only[Ξ,Ο] at e;subst e;exact⟨_,rfl,a⟩
   | succ i=>exact ih b (by simpa using e)
def bP.len{vs:List V}(h:bP H vs ms):ms.length=vs.length:=by
 induction ms generalizing vs with
 | nil=>cases h;rfl
 | cons m ms ih =>
  cases h with
  | cons a b=>simp[ih b]
def NS{ms:List Int}{i:Nat}(h:(ms.map V.int)[i]?=some y):∃ z:Int,y=.int z:=by
 rw[ϒ] at h;cases e:ms[i]? with
 | none=>rw[e] at h;cases h
 | some z=>rw[e] at h;exact⟨z,(ϖ h).symm⟩
theorem Ae(w:Wo):rG (wv w) [.Wl,.int 0]=decide (num w=0):=by
 cases w with
 | none=>rfl
 | some n =>
  by_cases h:n=0
  ·subst h;rfl
  ·have h':¬ (0=n):=fun z=>h z.symm;simp[rG,wv,j7,num,h,h']
theorem flat01:([.Wl,.int 0]:List V).all dN=true:=by decide
def aE.nil(k:Kp [] H H'):aE H H':=fun a xs e=>k a _ e 5e0
def _root_.L2.Kp.jQ:Kp [a] H (Wk H a o):=Kp.set 5e0
def jE(pend:List Int):List (Key×V):=pend.map fun i=>(.inl i,.bl true)
def iB(ans:List 0e0):List (Key×V):=ans.map fun p=>(.inl p.1,wv p.2)
structure iO(C:Addr)(H:Hp)(tk tx dp da:Addr)(made:Nat)(pend:List Int)(ans:List 0e0):Prop where
 ins:H tk=some (.ins C tx [("made",.int made),("pending",.ref dp),("answers",.ref da)])
 hp:H dp=some (.dK 1e0)
 ha:H da=some (.dK (iB ans))
 nda:dp≠da
 lt:∀ i∈pend,0<=i/\i < made
 asc:pend.Pairwise (· < ·)
 la:∀ p∈ans,0<=p.1/\p.1 < made
 dis:∀ p∈ans,p.1∉pend
 small:made<=1000000
def iO.n1{tk tx dp da:Addr}{made:Nat}(T:iO C H tk tx dp da made pend ans):tk≠dp/\tk≠da:=⟨cL T.ins T.hp 6e0,cL T.ins T.ha 6e0⟩
def iO.kp{tk tx dp da:Addr}{made:Nat}(T:iO C H tk tx dp da made pend ans)(k:Kp [] H H'):iO C H' tk tx dp da made pend ans :=
 ⟨k.at T.ins,k.at T.hp,k.at T.ha,T.nda,T.lt,T.asc,T.la,T.dis,T.small⟩
theorem xJ(pend:List Int)(w:Wo):(aW 1e0 (wk w)).isSome=decide (∃ i∈pend,w=some i):=by
 induction pend with
 | nil=>simp[jE,yN]
 | cons i r ih =>
  have e:jE (i::r)=(Key.inl i,V.bl true)::jE r:=rfl;rw[e];by_cases h:w=some i
  ·subst h;rw[show wk 3e0=Key.inl i from rfl,cH rfl];simp
  ·rw[b7 (fun z=>h (by cases w with
    | none=>cases z
    | some j=>cases z;rfl)),ih]
   simp[h]
theorem ID(pend:List Int)(i:Int):sL 1e0 2e0=jE 4e0:=by
 unfold sL jE;rw[List.filter_map]
 congr 1
 apply List.filter_congr;intro j _;simp
def IE(pend:List Int):intKeys 1e0=some pend:=by
 induction pend with
 | nil=>rfl
 | cons i r ih =>
  show(intKeys (jE r)).map (i::·)=_;rw[ih];rfl
theorem IF(h:i∉pend):aW 1e0 2e0=none:=by
 have:=xJ pend 3e0;rw[show decide (∃ j∈pend,some i=some j)=false by simp[h]] at this;cases e:aW 1e0 2e0 with
 | none=>rfl
 | some v=>rw[show wk 3e0=.inl i from rfl,e] at this;cases this
theorem IG(h:i∈pend):∃ v,aW 1e0 2e0=some v:=by
 have:=xJ pend 3e0;rw[show decide (∃ j∈pend,some i=some j)=true by simpa using h] at this;exact Δ3.mp this
def Jp(h:∀ p∈ans,p.1≠i):aW (iB ans) 2e0=none:=by
 induction ans with
 | nil=>rfl
 | cons p r ih =>
  have e:iB (p::r)=(Key.inl p.1,wv p.2)::iB r:=rfl;rw[e,b7 (fun z=>h p 5e0 (by cases z;rfl)),ih fun q hq=>h q (ϔ _ hq)]
def nC{a b:List Int}(p:a.Perm b)(ha:a.Pairwise (·<=·))(hb:b.Pairwise (· < ·)):a=b :=
 List.Perm.eq_of_pairwise (fun x y _ _ h1 h2=>Int.le_antisymm h1 h2) ha (hb.imp fun h=>Int.le_of_lt h) p
inductive yB(C:Addr)(vs:List V)(H:Hp)(Q:VK)(E:XK):Prop
 | mk (x dx:Addr) (_:vs=[.ref x]) (_:H x=some (.ins C dx [])) (_:∀(dp da:Addr) (H':Hp),H dp=none->H da=none->iO C H' x dx dp da 0 [] []->Kp [x] H H'->Q .Wl H'):yB C vs H Q E
inductive DJ(C:Addr)(vs:List V)(H:Hp)(Q:VK)(E:XK):Prop
 | mk (tk tx dp da:Addr) (made:Nat) (pend:List Int) (ans:List 0e0) (_:vs=[.ref tk]) (_:iO C H tk tx dp da made pend ans) (_:made < 1000000) (_:pend.length < 1000000) (_:∀ H',iO C H' tk tx dp da (made+1) (pend++[(made:Int)]) ans->Kp [tk,dp] H H'->Q (.int made) H'):DJ C vs H Q E
inductive DK(C:Addr)(vs:List V)(H:Hp)(Q:VK)(E:XK):Prop
 | mk (tk tx dp da:Addr) (made:Nat) (pend:List Int) (ans:List 0e0) (w:Wo) (_:vs=[.ref tk,wv w]) (_:iO C H tk tx dp da made pend ans) (_:Q (.bl (decide (∃ i∈pend,w=some i))) H):DK C vs H Q E
inductive AA(C:Addr)(vs:List V)(H:Hp)(Q:VK)(E:XK):Prop
 | mk (tk tx dp da:Addr) (made:Nat) (pend:List Int) (ans:List 0e0) (_:vs=[.ref tk]) (_:iO C H tk tx dp da made pend ans) (_:pend.length<=1000000) (_:∀ l,H l=none->Q (.ref l) (Wk H l (.lst (pend.map V.int)))):AA C vs H Q E
inductive DL(C:Addr)(vs:List V)(H:Hp)(Q:VK)(E:XK):Prop
 | mk (tk tx dp da:Addr) (made:Nat) (pend:List Int) (ans:List 0e0) (i:Int) (_:vs=[.ref tk,.int i]) (_:iO C H tk tx dp da made pend ans) (_:i∈pend) (_:∀ H',iO C H' tk tx dp da made 4e0 ans->Kp [dp] H H'->Q .Wl H'):DL C vs H Q E
inductive yA(C:Addr)(vs:List V)(H:Hp)(Q:VK)(E:XK):Prop
 | mk (tk tx dp da:Addr) (made:Nat) (pend:List Int) (ans:List 0e0) (i:Int) (w:Wo) (_:vs=[.ref tk,.int i,wv w]) (_:iO C H tk tx dp da made pend ans) (_:i∈pend) (_:ans.length < 1000000) (_:∀ H',iO C H' tk tx dp da made 4e0 (ans++[(i,w)])->Kp [dp,da] H H'->Q .Wl H'):yA C vs H Q E
inductive Hf(C:Addr)(vs:List V)(H:Hp)(Q:VK)(E:XK):Prop
 | mk (tk tx dp da:Addr) (made:Nat) (pend:List Int) (ans:List 0e0) (_:vs=[.ref tk]) (_:iO C H tk tx dp da made pend ans) (_:∀ H',iO C H' tk tx dp da made [] ans->Kp [dp] H H'->Q .Wl H'):Hf C vs H Q E
abbrev Stk:=List (Nat×List Stm×Nat)
end
variable{st:Stk}
mutual
example:=[((k,b,n)::r),bO st,.tup us,((k,b,n')::r)]
def cO:Stk->List Int
 | []=>[]
 | [(_,_,n)]=>[(n:Int)]
 | (k,_,n)::r=>cO r++[(k:Int),(n:Int)]
inductive fR(H:Hp):List V->Stk->Prop
 | one {p:Addr} {us:List V} {k n:Nat} {b:List Stm}:H p=some 2e0->bP H us b->fR H [.ref p] [(k,b,n)]
 | cons {p:Addr} {us vs:List V} {k n:Nat} {b:List Stm} {r:Stk}:fR H vs r->H p=some 2e0->bP H us b->fR H (vs++[.ref p]) 0e0
def fR.kp{vs:List V}(h:fR H vs st)(k:aE H H'):fR H' vs st:=by
 induction h with
 | one e s=>exact .one (k _ _ e) (s.kp k)
 | cons _ e s ih=>exact .cons ih (k _ _ e) (s.kp k)
def fR.len{vs:List V}(h:fR H vs st):vs.length=st.length/\1<=st.length:=by
 induction h with
 | one=>exact⟨rfl,Ι _⟩
 | cons _ _ _ ih=>simp[ih.1]
def fR.last{vs:List V}{k n:Nat}{r:Stk}(h:fR H vs 0e0):∃(ws:List V) (p:Addr) (us:List V),vs=ws++[.ref p]/\H p=some 2e0/\bP H us b/\(r≠[]->fR H ws r)/\(r=[]->ws=[]):=by
 cases h with
 | one e s=>exact⟨[],_,_,rfl,e,s,fun z=>absurd rfl z,fun _=>rfl⟩
 | @cons p us vs k n b r hr e s=>exact⟨vs,_,_,rfl,e,s,fun _=>hr,fun z=>by subst z;cases hr⟩
def fR.turn{vs:List V}{k n n':Nat}{r:Stk}(h:fR H vs 0e0):fR H vs 3e0:=by
 cases h with
 | one e s=>exact .one e s
 | cons hr e s=>exact .cons hr e s
def rQ(k n:Nat)(b:List Stm)(r:Stk):∃ l,cO 0e0=l++[(n:Int)]/\∀ n',cO 3e0=l++[((n':Nat):Int)]:=by
 cases r with
 | nil=>exact⟨[],rfl,fun _=>rfl⟩
 | cons x r=>exact⟨cO (x::r)++[(k:Int)],by simp[cO],fun n'=>by simp[cO]⟩
def rR(k:Nat)(b:List Stm)(n:Nat)(x:Nat×List Stm×Nat)(r:Stk):cO ((k,b,n)::x::r)=cO (x::r)++[(k:Int),(n:Int)]:=rfl
structure jR(C:Addr)(H:Hp)(wk wx lb ln:Addr)(st:Stk):Prop where
 ins:H wk=some (.ins C wx [("blocks",.ref lb),("numbers",.ref ln)])
 bl:∃ vs,H lb=some (.lst vs)/\fR H vs st
 nu:H ln=some (.lst ((cO st).map V.int))
 ne:lb≠ln
 X0:st.length<=100
def fW:Stk->Stk
 | (k,b,n)::r=>(k,b,n+1)::r
 | []=>[]
inductive yD(C:Addr)(vs:List V)(H:Hp)(Q:VK)(E:XK):Prop
 | mk (wk wx lb ln:Addr) (k n:Nat) (b:List Stm) (r:Stk) (m:Stm) (_:vs=[.ref wk]) (_:jR C H wk wx lb ln 0e0) (_:b[n]?=some m) (_:∀ v,b9 H v m->Q v H):yD C vs H Q E
inductive qU(C:Addr)(vs:List V)(H:Hp)(Q:VK)(E:XK):Prop
 | mk (wk wx lb ln:Addr) (k n:Nat) (b:List Stm) (r:Stk) (_:vs=[.ref wk]) (_:jR C H wk wx lb ln 0e0) (_:∀ H',jR C H' wk wx lb ln ((k,b,n+1)::r)->Kp [ln] H H'->Q .Wl H'):qU C vs H Q E
inductive yC(C:Addr)(vs:List V)(H:Hp)(Q:VK)(E:XK):Prop
 | mk (x dx p:Addr) (us:List V) (b:List Stm) (_:vs=[.ref x,.ref p]) (_:H x=some (.ins C dx [])) (_:H p=some 2e0) (_:bP H us b) (_:∀(lb ln:Addr) (H':Hp),H lb=none->H ln=none->jR C H' x dx lb ln [(0,b,0)]->Kp [x] H H'->Q .Wl H'):yC C vs H Q E
def Stm.sub:Stm->Nat->Option (List Stm)
 | .WH _ b,0=>some b
 | .iff _ b _,0=>some b
 | .iff _ _ o,1=>some o
 | _,_=>none
def Stm.Bl:Stm->Bool
 | .iff _ _ _=>true
 | _=>false
inductive sG(C:Addr)(vs:List V)(H:Hp)(Q:VK)(E:XK):Prop
 | mk (wk wx lb ln:Addr) (k n c:Nat) (b bb:List Stm) (r:Stk) (m:Stm) (_:vs=[.ref wk,.int c]) (_:jR C H wk wx lb ln 0e0) (_:b[n]?=some m) (_:m.sub c=some bb) (_:r.length<=90) (_:∀ H',jR C H' wk wx lb ln ((c,bb,0)::(k,b,n)::r)->Kp [lb,ln] H H'->Q .Wl H'):sG C vs H Q E
inductive AB(C:Addr)(vs:List V)(H:Hp)(Q:VK)(E:XK):Prop
 | mk (wk wx lb ln:Addr) (k n:Nat) (b:List Stm) (x:Nat×List Stm×Nat) (r:Stk) (m:Stm) (_:vs=[.ref wk]) (_:jR C H wk wx lb ln (x::(k,b,n)::r)) (_:b[n]?=some m) (_:∀ H',jR C H' wk wx lb ln ((k,b,if m.Bl=true then n+1 else n)::r)->Kp [lb,ln] H H'->Q .Wl H'):AB C vs H Q E
def b9.subAt{m:Stm}{c:Nat}(h:b9 H v m)(hs:m.sub c=some bb):∃(a p:Addr) (xs us:List V),v=.ref a/\H a=some (.tup xs)/\gI xs (2+(c:Int))=some (.ref p)/\H p=some 2e0/\bP H us bb:=by
 cases h with
 | @WH a p v s vs b e h1 f hb =>
  match c,hs with
  | 0,hs=>cases hs;exact⟨a,p,_,vs,rfl,e,rfl,f,hb⟩
 | @iff a p q v s vs us b o e h1 f hb f2 hb2 =>
  match c,hs with
  | 0,hs=>cases hs;exact⟨a,p,_,vs,rfl,e,rfl,f,hb⟩
  | 1,hs=>cases hs;exact⟨a,q,_,us,rfl,e,rfl,f2,hb2⟩
 | _=>cases hs
theorem b9.TZ{m:Stm}(h:b9 H v m):∃(a:Addr) (x:String) (xs:List V),v=.ref a/\H a=some (.tup (.str (Str.ofString x)::xs))/\decide (x = "if")=m.Bl:=by
 cases h<;>exact⟨_,_,_,rfl,by assumption,rfl⟩
def aE.dJ{xs ys:List V}(e:H l=some (.lst xs)):aE H (Wk H l (.lst ys)):=fun a zs h=>by
 rw[aD (cL h e (by intro z;cases z))];exact h
theorem C6:∀ st:Stk,(cO st).length<=2 * st.length
 | []=>by simp[cO]
 | [(_,_,n)]=>by simp[cO]
 | (k,b,n)::x::r=>by
  have:=C6 (x::r);rw[rR,Ν];simp only[Η,ϑ] at this ⊢;omega
def rL{α:Type}(l:List α)(x:α):(l++[x])[(l++[x]).length - 1]?=some x:=by simp
def aE.tr{H2:Hp}(a:aE H H1)(b:aE H1 H2):aE H H2:=fun c xs e=>b c xs (a c xs e)
def oJ(b:List Stm)(n:Nat):Nat:=match b[n]? with
 | some m=>if m.Bl=true then n+1 else n
 | none=>n
def bO:Stk->Stk
 | (k,b,n)::(k2,b2,n2)::r=>if n=b.length then bO ((k2,b2,oJ b2 n2)::r) else (k,b,n)::(k2,b2,n2)::r
 | st=>st
termination_by st=>st.length
def zQ:Stk->Prop
 | []=>False
 | (_,b,n)::r=>n<=b.length/\∀ x∈r,x.2.2 < x.2.1.length
def Wr:Stk->Option Stm
 | (_,b,n)::_=>b[n]?
 | []=>none
theorem C8{n:Nat}(h:n < b.length):oJ b n<=b.length:=by
 unfold oJ;split
 ·split<;>omega
 ·omega
inductive DO(C:Addr)(vs:List V)(H:Hp)(Q:VK)(E:XK):Prop
 | mk (wk wx lb ln:Addr) (st:Stk) (_:vs=[.ref wk]) (_:jR C H wk wx lb ln st) (_:zQ st) (_:(∀ H',jR C H' wk wx lb ln 1e0->zQ 1e0->Wr 1e0=none->Kp [lb,ln] H H'->Q .Wl H')) (_:∀(m:Stm) (v:V) (H':Hp),jR C H' wk wx lb ln 1e0->zQ 1e0->Wr 1e0=some m->b9 H' v m->Kp [lb,ln] H H'->Q v H'):DO C vs H Q E
abbrev Cmds:=List (List V)
end
variable{cs:Cmds}
mutual
example:=[]
inductive iF(H:Hp):List V->Cmds->Prop
 | nil:iF H [] []
 | cons {a:Addr} {c:List V} {us:List V} {cs:Cmds}:H a=some (.tup c)->iF H us cs->iF H (.ref a::us) (c::cs)
def iF.kt(h:iF H us cs)(k:aE H H'):iF H' us cs:=by
 induction h with
 | nil=>exact .nil
 | cons a _ ih=>exact .cons (k _ _ a) ih
def iF.len(h:iF H us cs):us.length=cs.length:=by
 induction h with
 | nil=>rfl
 | cons _ _ ih=>simp[ih]
def iF.app{vs:List V}{ps qs:Cmds}(h:iF H us ps)(g:iF H vs qs):iF H (us++vs) (ps++qs):=by
 induction h with
 | nil=>exact g
 | cons e _ ih=>exact .cons e ih
def iF.at(h:iF H us cs):∀ {i:Nat} {v:V},us[i]?=some v->∃ a c,v=.ref a/\cs[i]?=some c/\H a=some (.tup c):=by
 induction h with
 | nil=>intro i v e;simp at e
 | cons x _ ih =>
  intro i v e;cases i with
  | zero=>simp only[Ξ,Ο] at e;subst e;exact⟨_,_,rfl,rfl,x⟩
  | succ i=>exact ih (by simpa using e)
inductive Slp where
 | Wl|new|wait (ts:List Int)|Wp (k:Str)|ended (w:Wo)|worn
end
variable{s:Slp}
mutual
example:=[Str×Wo,Str×List Wo,Key×V,(fun z=>hj (Key.inr.inj z)),.lst (ws.map wv),(by rw[h]),bT l n w,Int×Wo,.inr k,Key.inr.inj z,(l.any fun p=>decide (p.1=n)),((Key.inl p.1,wv p.2)::iB r)]
def Slp.isN:Slp->Bool
 | .Wl=>true
 | _=>false
def jZ(H:Hp)(v:V):Slp->Prop
 | .Wl=>v=.Wl
 | .new=>∃ p,v=.ref p/\H p=some (.tup [.str "new"])
 | .wait ts=>∃ p p2,v=.ref p/\H p=some (.tup [.str "wait",.ref p2])/\H p2=some (.tup (ts.map V.int))
 | .Wp k=>∃ p,v=.ref p/\H p=some (.tup [.str "hear",.str k])
 | .ended w=>∃ p,v=.ref p/\H p=some (.tup [.str "ended",wv w])
 | .worn=>∃ p,v=.ref p/\H p=some (.tup [.str "worn"])
def jZ.kt(h:jZ H v s)(k:aE H H'):jZ H' v s:=by
 cases s with
 | Wl=>exact h
 | wait ts=>obtain⟨p,p2,e,a,b⟩:=h;exact⟨p,p2,e,k _ _ a,k _ _ b⟩
 | _=>obtain⟨p,e,a⟩:=h;exact⟨p,e,k _ _ a⟩
def jZ.isN(h:jZ H v s):(s.isN=true/\v=.Wl)\/(s.isN=false/\∃ p,v=.ref p):=by
 cases s with
 | Wl=>exact .inl ⟨rfl,h⟩
 | wait ts=>obtain⟨p,p2,e,a,b⟩:=h;exact .inr ⟨rfl,p,e⟩
 | _=>obtain⟨p,e,a⟩:=h;exact .inr ⟨rfl,p,e⟩
def fA(l:List 0e0):List 2e0:=l.map fun p=>(.inr p.1,wv p.2)
def bT(l:List 0e0)(n:Str)(w:Wo):List 0e0:=if 0e1=true then l.map (fun p=>if p.1=n then (p.1,w) else p) else l++[(n,w)]
theorem fP(l:List 0e0)(n:Str)(w:Wo):aO (fA l) (.inr n) (wv w)=fA 6e0:=by
 have e:((fA l).any fun kv=>decide (kv.1=Key.inr n))=0e1:=by
  simp only[fA,List.any_map,Function.comp_def,Key.inr.injEq]
 unfold aO bT;rw[e];split
 ·simp only[fA,List.map_map,Function.comp_def,Key.inr.injEq];refine List.map_congr_left fun p _=>?_;by_cases h:p.1=n
  ·simp[h]
  ·simp[h]
 ·simp[fA]
theorem Dr(l:List 0e0)(n:Str)(w:Wo):(bT l n w).length<=l.length+1:=by
 unfold bT;split
 ·rw[Δ];omega
 ·simp
def sN:List 0e0->Str->Wo
 | [],_=>none
 | p::r,x=>if p.1=x then p.2 else sN r x
theorem qD:∀(l:List 0e0) (x:Str),(aW (fA l) (.inr x)).getD .Wl=wv (sN l x)
 | [],x=>rfl
 | p::r,x=>by
  have ih:=qD r x;show(aW ((Key.inr p.1,wv p.2)::fA r) (.inr x)).getD .Wl=_;by_cases h:p.1=x
  ·rw[cH 5e0,sN,if_pos h];rfl
  ·rw[b7 (fun z=>h 9e0),sN,if_neg h];exact ih
def Ii(l:List 0e0)(n:Str)(w:Wo)(x:Str):sN 6e0 x=if x=n then w else sN l x:=by
 have h1:=qD 6e0 x;rw[<- fP,fK] at h1;by_cases h:x=n
 ·rw[if_pos 5e0] at h1;rw[if_pos h];exact(Fu h1).symm
 ·rw[if_neg (fun z=>h 9e0),qD] at h1;rw[if_neg h];exact(Fu h1).symm
def fE(l:List 7e0):Wo->Wo
 | none=>none
 | some i=>match l with
  | []=>none
  | p::r=>if p.1=i then p.2 else fE r (some i)
theorem pM:∀(l:List 7e0) (w:Wo),(aW (iB l) (wk w)).getD .Wl=wv (fE l w)
 | [],none=>rfl
 | [],some _=>rfl
 | p::r,none=>by
  have ih:=pM r none;show(aW 1e1 .no).getD .Wl=_;rw[b7 (by intro z;cases z)];rw[show fE (p::r) none=fE r none from by rw[fE,fE]];exact ih
 | p::r,some i=>by
  have ih:=pM r (some i);show(aW 1e1 (.inl i)).getD .Wl=_;by_cases h:p.1=i
  ·rw[cH 5e0,fE,if_pos h];rfl
  ·rw[b7 (fun z=>h (Key.inl.inj z)),fE,if_neg h];exact ih
inductive gG(H:Hp):List 2e0->List Addr->List 1e0->Prop
 | nil:gG H [] [] []
 | cons {a:Addr} {k:Str} {ws:List Wo} {kvs:List 2e0} {as:List Addr} {lt:List 1e0}:H a=some 4e0->gG H kvs as lt->gG H ((.inr k,.ref a)::kvs) (a::as) ((k,ws)::lt)
def gG.keep{as:List Addr}(h:gG H kvs as lt)(k:∀ a∈as,∀ o,H a=some o->H' a=some o):gG H' kvs as lt:=by
 induction h with
 | nil=>exact .nil
 | cons e _ ih=>exact .cons (k _ (by simp) _ e) (ih fun a ha=>k a (ϔ _ ha))
def gG.ex{as:List Addr}(h:gG H kvs as lt):∀ a∈as,∃ xs,H a=some (.lst xs):=by
 induction h with
 | nil=>intro a ha;simp at ha
 | cons e _ ih=>intro a ha;rcases Α.mp ha with rfl|ha;exact⟨_,e⟩;exact ih a ha
def gG.len{as:List Addr}(h:gG H kvs as lt):kvs.length=lt.length:=by
 induction h with
 | nil=>rfl
 | cons _ _ ih=>simp[ih]
def aT:List 1e0->Str->Option (List Wo)
 | [],_=>none
 | p::r,k=>if p.1=k then some p.2 else aT r k
def dJ:List 1e0->Str->List Wo->List 1e0
 | [],_,_=>[]
 | p::r,k,ws=>if p.1=k then (p.1,ws)::r else p::dJ r k ws
def gG.look{as:List Addr}(h:gG H kvs as lt)(k:Str):(aW kvs 8e0=none/\aT lt k=none) \/ ∃ a ws,aW kvs 8e0=some (.ref a)/\aT lt k=some ws/\a∈as/\H a=some 4e0:=by
 induction h with
 | nil=>exact .inl ⟨rfl,rfl⟩
 | @cons a j ws kvs as lt e _ ih =>
  by_cases hj:j=k
  ·subst hj;exact .inr ⟨a,ws,cH rfl,by simp[aT],by simp,e⟩
  ·rcases ih with⟨x,y⟩|⟨b,vs,x,y,z,u⟩
   ·exact .inl ⟨by rw[b7 3e0];exact x,by simp[aT,hj,y]⟩
   ·exact .inr ⟨b,vs,by rw[b7 3e0];exact x,by simp[aT,hj,y],ϔ _ z,u⟩
def gG.set{H:Hp}{kvs:List 2e0}{as:List Addr}{lt:List 1e0}(h:gG H kvs as lt){k:Str}{a:Addr}(r:List Wo)(hk:aW kvs 8e0=some (.ref a))(nd:as.Nodup):gG (Wk H a (.lst (r.map wv))) kvs as (dJ lt k r):=by
 induction h with
 | nil=>cases hk
 | @cons b j ws kvs as lt e hr ih =>
  rw[Ϙ] at nd;by_cases hj:j=k
  ·subst hj;rw[cH rfl] at hk;cases hk;rw[dJ,if_pos rfl];exact .cons aA (hr.keep fun c hc o h=>by rw[aD (show c≠a from fun z=>nd.1 (by rw[<- z];exact hc))];exact h)
  ·rw[b7 3e0] at hk;rw[dJ,if_neg hj];have ha:a∈as:=by
    rcases hr.look k with⟨x,_⟩|⟨c,_,x,_,y,_⟩
    ·rw[x] at hk;cases hk
    ·rw[x] at hk;cases hk;exact y
   exact .cons (by rw[aD (show b≠a from fun z=>nd.1 (by rw[z];exact ha))];exact e) (ih hk nd.2)
def gG.snoc{as:List Addr}(h:gG H kvs as lt)(e:H a=some 4e0):gG H (kvs++[(.inr k,.ref a)]) (as++[a]) (lt++[(k,ws)]):=by
 induction h with
 | nil=>exact .cons e .nil
 | cons f _ ih=>exact .cons f ih
set_option genInjectivity false in
structure Pu where
 stk:Stk
 sl:Slp
 ar:Wo
 nw:Int
 nm:List 0e0
 made:Nat
 pend:List Int
 ans:List 7e0
 lt:List 1e0
end
variable{S:Pu}
mutual
example:=[S.worth s,ss.map S.worth,(if z > 0 then z else 0)]
def Pu.pl(S:Pu):Pl:=⟨sN S.nm,S.ar,S.nw,fE S.ans⟩
def Pu.worth(S:Pu)(s:Say):Wo:=ev S.pl s
def Pu.rP(S:Pu)(n:Str):Pu:={S with made:=S.made+1,pend:=S.pend++[(S.made:Int)],nm:=bT S.nm n (some (S.made:Int))}
def Pu.pass(S:Pu):Pu:={S with stk:=fW S.stk}
def mJ(nw:Int):Wo->Int
 | none=>if nw < 1000000000000 then nw else 1000000000000
 | some z=>if nw+2e0 < 1000000000000 then nw+2e0 else 1000000000000
def Pu.ends(S:Pu)(w:Wo):Pu×Cmds:=({S with sl:=.ended w,pend:=[]},[[.str "end",wv w]])
def Pu.nF(S:Pu):Pu×Cmds:=({S with sl:=.worn,pend:=[]},[[.str "worn"]])
def aX(ans:List (Int×Wo))(ws:List Wo):Wo:=(ans.find? fun p=>decide (some p.1∈ws)).map (·.1)
def wD(i:Int):List Int->List Int
 | []=>[i]
 | j::r=>if i < j then i::j::r else if i=j then j::r else j::wD i r
def bH(pend:List Int):List Wo->List Int
 | []=>[]
 | none::r=>bH pend r
 | some i::r=>if i∈pend then wD i (bH pend r) else bH pend r
def bL(S:Pu):Stm->Pu×Cmds
 | .set x s=>({S with nm:=bT S.nm x 0e0},[])
 | .order x y s=>(S.rP x,[[.str "order",.int S.made,.str y,wv 0e0]])
 | .child x y s=>(S.rP x,[[.str "child",.int S.made,.str y,wv 0e0]])
 | .Wy x s=>(S.rP x,[[.str "timer",.int S.made,.int (mJ S.nw 0e0)]])
 | .send s k r=>(S,[[.str "send",wv 0e0,.str k,wv (S.worth r)]])
 | .drop s=>match S.worth s with
  | some i=>if i∈S.pend then ({S with pend:=S.pend.filter fun j=>decide (j≠i)},[[.str "drop",.int i]]) else (S,[])
  | none=>(S,[])
 | .Wp x k=>match (aT S.lt k).getD [] with
  | w::r=>({S with nm:=bT S.nm x w,lt:=dJ S.lt k r},[])
  | []=>({S with sl:=.Wp k},[])
 | .wait x ss=>if aX S.ans 1e0=none/\bH S.pend 1e0≠[] then ({S with sl:=.wait (bH S.pend 1e0)},[]) else ({S with nm:=bT S.nm x (aX S.ans 1e0)},[])
 | .fin s=>S.ends 0e0
 | .WH _ _=>(S,[])
 | .iff _ _ _=>(S,[])
def Stm.isB:Stm->Bool
 | .WH _ _=>true
 | .iff _ _ _=>true
 | _=>false
def Pu.enter(S:Pu)(c:Nat)(b:List Stm):Pu:={S with stk:=(c,b,0)::S.stk}
def i9(S:Pu):Stm->Pu
 | .WH s b=>if num 0e0=0 then S.pass else S.enter 0 b
 | .iff s b o=>if num 0e0=0 then S.enter 1 o else S.enter 0 b
 | _=>S
def one(S:Pu)(m:Stm):Pu×Cmds:=if m.isB=true then (i9 S m,[]) else (if (bL S m).1.sl.isN=true then (bL S m).1.pass else (bL S m).1,(bL S m).2)
def Pu.aY(S:Pu):Pu:={S with stk:=bO S.stk}
def cR:Nat->Pu->Pu×Cmds
 | 0,S=>match Wr S.aY.stk with
  | none=>S.aY.ends none
  | some _=>S.aY.nF
 | n+1,S=>match Wr S.aY.stk with
  | none=>S.aY.ends none
  | some m=>if (one S.aY m).1.sl.isN=true then ((cR n (one S.aY m).1).1,(one S.aY m).2++(cR n (one S.aY m).1).2) else one S.aY m
def Pu.wake(S:Pu)(w:Wo):Pu×Cmds:=match Wr S.stk with
 | some (.Wp x _)=>cR 300 {S with nm:=bT S.nm x w,stk:=fW S.stk,sl:=.Wl}
 | some (.wait x _)=>cR 300 {S with nm:=bT S.nm x w,stk:=fW S.stk,sl:=.Wl}
 | _=>(S,[])
def later(nw m:Int):Int:=if m > nw then m else nw
def Say.sok(s:Say):Prop:=s.ok/\s.depth<=6
end
mutual
noncomputable def Stm.gd(wt:Bool):Stm->Prop
 | .set _ s=>s.sok
 | .order _ _ s=>s.sok
 | .child _ _ s=>s.sok
 | .Wy _ s=>s.sok
 | .send s _ r=>s.sok/\r.sok
 | .drop s=>s.sok
 | .wait _ ss=>wt=true/\ss.length<=4/\∀ s∈ss,s.sok
 | .Wp _ _=>True
 | .fin s=>s.sok
 | .WH s b=>s.sok/\BZ wt b
 | .iff s b o=>s.sok/\BZ wt b/\BZ wt o
noncomputable def BZ(wt:Bool):List Stm->Prop
 | []=>True
 | m::ms=>m.gd wt/\BZ wt ms
end
mutual
example:=[(by simpa using h)]
theorem Kj{wt:Bool}:∀ {b:List Stm} {i:Nat} {m:Stm},BZ wt b->b[i]?=some m->m.gd wt
 | [],_,_,_,h=>by simp at h
 | _::_,0,_,g,h=>by simp only[Ξ,Ο] at h;subst h;simp only[BZ] at g;exact g.1
 | _::b,i+1,_,g,h=>by simp only[BZ] at g;exact Kj g.2 0e0
theorem vK:∀ {b:List Stm} {i:Nat} {m:Stm},b[i]?=some m->m.dp<=oX b
 | [],_,_,h=>by simp at h
 | _::_,0,_,h=>by simp only[Ξ,Ο] at h;subst h;simp only[oX];omega
 | _::b,i+1,_,h=>by have:=vK (b:=b) 0e0;simp only[oX];omega
def Vc:Stk->Prop
 | []=>True
 | (_,b,_)::r=>oX b+r.length<=20/\Vc r
structure yV(wt:Bool)(st:Stk):Prop where
 ok:zQ st
 gd:∀ x∈st,BZ wt x.2.1
 dp:Vc st
structure Ww(wt:Bool)(S:Pu)(N:Nat):Prop where
 nm:S.nm.length<=N
 md:S.made<=N
 pd:S.pend.length<=N
 an:S.ans.length<=N
 lt:S.lt.length<=N
 lw:∀ k ws,aT S.lt k=some ws->ws.length<=N/\∀ w∈ws,eD w
 pl:S.pl.Ok
 nw:0<=S.nw/\S.nw<=1000000000000
 sk:yV wt S.stk
 sl:(∀ k,S.sl=.Wp k->∃ x,Wr S.stk=some (.Wp x k))/\∀ ts,S.sl=.wait ts->∃ x ss,Wr S.stk=some (.wait x ss)
structure Cl where
 r:Addr
 w:Addr
 t:Addr
set_option genInjectivity false in
structure Rn where
 x:Addr
 dx:Addr
 wk:Addr
 wx:Addr
 lb:Addr
 ln:Addr
 nm:Addr
 tk:Addr
 tx:Addr
 dp:Addr
 da:Addr
 lt:Addr
def Rn.cells(R:Rn):List Addr:=[R.x,R.lb,R.ln,R.nm,R.tk,R.dp,R.da,R.lt]
abbrev jU(c:Addr)(R:Rn)(sl:V)(ar:Wo)(nw:Int):HO:=.ins c R.dx [("walk",.ref R.wk),("sleep",sl),("arg",wv ar),("now",.int nw),("names",.ref R.nm),("tickets",.ref R.tk),("letters",.ref R.lt)]
def jR.keep{wk wx lb ln:Addr}(W:jR C H wk wx lb ln st)(k1:∀ o,H wk=some o->H' wk=some o)(k2:∀ o,H lb=some o->H' lb=some o)(k3:∀ o,H ln=some o->H' ln=some o)(kt:aE H H'):jR C H' wk wx lb ln st:=by
 obtain⟨vs,e,h⟩:=W.bl;exact⟨k1 _ W.ins,⟨vs,k2 _ e,h.kp kt⟩,k3 _ W.nu,W.ne,W.X0⟩
def iO.keep{tk tx dp da:Addr}{made:Nat}(T:iO C H tk tx dp da made pend ans)(k1:∀ o,H tk=some o->H' tk=some o)(k2:∀ o,H dp=some o->H' dp=some o)(k3:∀ o,H da=some o->H' da=some o):iO C H' tk tx dp da made pend ans :=
 ⟨k1 _ T.ins,k2 _ T.hp,k3 _ T.ha,T.nda,T.lt,T.asc,T.la,T.dis,T.small⟩
structure a9(C:Cl)(H:Hp)(R:Rn)(as:List Addr)(sl:V)(S:Pu):Prop where
 ins:H R.x=some (.ins C.r R.dx [("walk",.ref R.wk),("sleep",sl),("arg",wv S.ar),("now",.int S.nw),("names",.ref R.nm),("tickets",.ref R.tk),("letters",.ref R.lt)])
 slp:jZ H sl S.sl
 wk:jR C.w H R.wk R.wx R.lb R.ln S.stk
 tk:iO C.t H R.tk R.tx R.dp R.da S.made S.pend S.ans
 nm:H R.nm=some (.dK (fA S.nm))
 lt:∃ kvs,H R.lt=some (.dK kvs)/\gG H kvs as S.lt
 nas:as.Nodup
 ab:∀ a∈as,a≠R.lb/\a≠R.ln
 xw:R.x≠R.wk
 xt:R.x≠R.tk
 wt:R.wk≠R.tk
 n1:R.nm≠R.dp
 n2:R.nm≠R.da
 n3:R.nm≠R.lt
 n4:R.lt≠R.dp
 n5:R.lt≠R.da
def cB{p b:Addr}{u v:HO}(e:H p=some o)(h:H b=some v)(d:v≠o:=by intro z;cases z):Wk H p u b=some v:=by
 rw[aD (cL h e d)];exact h
def aE.cA{p:Addr}{u:HO}(e:H p=some o)(d:∀ xs,o≠.tup xs:=by intro _ z;cases z):aE H (Wk H p u):=fun a xs h=>cB e h (d xs).symm
end
section
variable{C:Cl}{R:Rn}{as WO:List Addr}{sl:V}
mutual
example:=[(by intro _ z;cases z),d _,(by intro _ _ _ z;cases z),(by simp[Rn.cells]),(fun o h=>c 3e0 h),3e0,(fun o h=>by rw[A.wk.ins] at h;cases h;exact at' A.wk.ins 0e0),(fun o h=>by rw[A.tk.ins] at h;cases h;exact at' A.tk.ins 0e0),.inr k,(Wk H R.x (.ins C.r R.dx [("walk",.ref R.wk),("sleep",WM),("arg",wv ar'),("now",.int nw'),("names",.ref R.nm),("tickets",.ref R.tk),("letters",.ref R.lt)])),.dK (aO kvs 8e0 (.ref l)),.dK (fA (bT S.nm n w)),(by simp[Rn.cells,z]),(by rw[<- z];exact m),(by rw[z];exact h),.lst (ws.map wv),.lst (r.map wv),(fun o h=>by rw[A.wk.nu] at h;cases h;exact at' A.wk.nu 0e0),(fun o h=>by rw[el] at h;cases h;exact at' el 0e0)]
def a9.keep(A:a9 C H R as sl S)(k:∀ b o,H b=some o->b=R.wk\/b∈R.cells\/b∈as->H' b=some o)(kt:aE H H'):a9 C H' R as sl S:=by
 obtain⟨kvs,e,L⟩:=A.lt;have c:∀ {b:Addr} {o:HO},b∈R.cells->H b=some o->H' b=some o:=fun {b o} h e=>k b o e (.inr (.inl h));exact {A with
  ins:=c 5e0 A.ins
  slp:=A.slp.kt kt
  wk:=A.wk.keep (fun o h=>k _ o h (.inl rfl)) 4e0 4e0 kt
  tk:=A.tk.keep 4e0 4e0 4e0
  nm:=c 5e0 A.nm
  lt:=⟨kvs,c 5e0 e,L.keep fun a ha o h=>k a o h (.inr (.inr ha))⟩}
def a9.kp(A:a9 C H R as sl S)(k:Kp [] H H'):a9 C H' R as sl S:=A.keep (fun _ _ h _=>k.at h) (aE.nil k)
def a9.cellK(A:a9 C H R as sl S){b:Addr}(h:b∈R.cells\/b∈as):∃ o,H b=some o/\∀ xs,o≠.tup xs:=by
 obtain⟨kvs,e,L⟩:=A.lt;obtain⟨vs,el,_⟩:=A.wk.bl;rcases h with h|h
 ·simp only[Rn.cells,Α,Γ,Τ] at h;rcases h with rfl|rfl|rfl|rfl|rfl|rfl|rfl|rfl
  ·exact⟨_,A.ins,fun _ z=>by cases z⟩
  ·exact⟨_,el,fun _ z=>by cases z⟩
  ·exact⟨_,A.wk.nu,fun _ z=>by cases z⟩
  ·exact⟨_,A.nm,fun _ z=>by cases z⟩
  ·exact⟨_,A.tk.ins,fun _ z=>by cases z⟩
  ·exact⟨_,A.tk.hp,fun _ z=>by cases z⟩
  ·exact⟨_,A.tk.ha,fun _ z=>by cases z⟩
  ·exact⟨_,e,fun _ z=>by cases z⟩
 ·obtain⟨xs,ex⟩:=L.ex b h;exact⟨_,ex,fun _ z=>by cases z⟩
structure Fw(R:Rn)(as WO:List Addr)(H H':Hp):Prop where
 kp:∀ b o,H b=some o->b∉R.cells->b∉as->H' b=some o
 dom:∀ b o,H b=some o->∃ o',H' b=some o'
 new:∀ a∈WO,a∈as\/H a=none
def Fw.refl:Fw R as as H H:=⟨fun _ _ h _ _=>h,fun _ o h=>⟨o,h⟩,fun _ h=>.inl h⟩
def Fw.free(F:Fw R as WO H H'){c:Addr}(h:H' c=none):H c=none:=by
 cases z:H c with
 | none=>rfl
 | some o=>obtain⟨o',z'⟩:=F.dom c o z;rw[h] at z';cases z'
def Fw.trans{aaZ:List Addr}{H'':Hp}(a:Fw R as WO H H')(b:Fw R WO aaZ H' H''):Fw R as aaZ H H'' :=
  ⟨fun c o h n m=>b.kp c o (a.kp c o h n m) n (fun z=>by
      rcases a.new c z with y|y
      · exact m y
      · rw[h] at y;cases y),fun c o h=>(by obtain⟨o',h'⟩:=a.dom c o h;exact b.dom c o' h'),fun c h=>by
    rcases b.new c h with y|y
    · exact a.new c y
    · exact .inr (a.free y)⟩
def Fw.of(k:Kp [] H H'):Fw R as as H H':=⟨fun b o h _ _=>k.at h,fun b o h=>⟨o,k.at h⟩,fun _ h=>.inl h⟩
def Fw.set{p:Addr}{o:HO}(h:p∈R.cells\/p∈as):Fw R as as H (Wk H p o) :=
 ⟨fun b u e n m=>by rw[aD (fun z=>by rcases h with h|h;exact n 4e1;exact m 4e1)];exact e,fun b u e=>by by_cases z:b=p;exact⟨o,by rw[z,aA]⟩;exact⟨u,by rw[aD z];exact e⟩,fun _ h=>.inl h⟩
def Fw.ofD(k:Kp D H H')(h:∀ b∈D,b∈R.cells/\∃ o,H' b=some o):Fw R as as H H' :=
 ⟨fun b o e n _=>k b o e fun z=>n (h b z).1,fun b o e=>by by_cases z:b∈D;exact(h b z).2;exact⟨o,k b o e z⟩,fun _ h=>.inl h⟩
def Fw.fresh{c:Addr}(F:Fw R as WO H H')(h:H c=none):Fw R as WO H (Wk H' c o) :=
 ⟨fun b u e n m=>by rw[aD (aF e h)];exact F.kp b u e n m,fun b u e=>by rw[aD (aF e h)];exact F.dom b u e,F.new⟩
def a9.tkp(A:a9 C H R as sl S)(F:Fw R as WO H H'):aE H H':=fun b xs h=>F.kp b _ h (fun z=>by
    obtain⟨o,e,d⟩:=A.cellK (.inl z);rw[h] at e;exact d xs (ϖ e).symm) fun z=>by
    obtain⟨o,e,d⟩:=A.cellK (.inr z);rw[h] at e;exact d xs (ϖ e).symm
def a9.gS(A:a9 C H R as sl S){c:Addr}(h:H c=none):c∉R.cells/\c∉as:=by
 refine⟨fun z=>?_,fun z=>?_⟩
 ·obtain⟨o,e,d⟩:=A.cellK (.inl z);rw[h] at e;cases e
 ·obtain⟨o,e,d⟩:=A.cellK (.inr z);rw[h] at e;cases e
def a9.attr(A:a9 C H R as sl S)(WM:V)(s':Slp)(ar':Wo)(nw':Int)(h:jZ H WM s'):a9 C 9e0 R as WM {S with sl:=s',ar:=ar',nw:=nw'}:=by
 obtain⟨kvs,e,L⟩:=A.lt;obtain⟨vs,el,_⟩:=A.wk.bl;have kt:aE H 9e0:=aE.cA A.ins;exact {A with
  ins:=aA
  slp:=h.kt kt
  wk:=A.wk.keep (fun o h=>by rw[aD A.xw.symm];exact h) (fun o h=>by rw[el] at h;cases h;exact cB A.ins el) (fun o h=>by rw[A.wk.nu] at h;cases h;exact cB A.ins A.wk.nu) kt
  tk:=A.tk.keep (fun o h=>by rw[aD A.xt.symm];exact h) (fun o h=>by rw[A.tk.hp] at h;cases h;exact cB A.ins A.tk.hp) (fun o h=>by rw[A.tk.ha] at h;cases h;exact cB A.ins A.tk.ha)
  nm:=cB A.ins A.nm
  lt:=⟨kvs,cB A.ins e,L.keep fun a ha o h=>by obtain⟨xs,ex⟩:=L.ex a ha;rw[ex] at h;cases h;exact cB A.ins ex⟩}
def a9.walk(A:a9 C H R as sl S)(W:jR C.w H' R.wk R.wx R.lb R.ln st)(k:Kp [R.lb,R.ln] H H'):a9 C H' R as sl {S with stk:=st}:=by
 obtain⟨kvs,e,L⟩:=A.lt;obtain⟨vs,el,_⟩:=A.wk.bl;have at':∀ {b:Addr} {o:HO},H b=some o->(∀ xs,o≠.lst xs)->H' b=some o:=fun {b o} h d=>k b o h (by
  simp only[Α,Γ,Τ,not_or];exact⟨cL h el 1e0,cL h A.wk.nu 1e0⟩)
 have kt:aE H H':=fun b xs h=>at' h 0e0;exact {A with
  ins:=at' A.ins 0e0
  slp:=A.slp.kt kt
  wk:=W
  tk:=⟨at' A.tk.ins 0e0,at' A.tk.hp 0e0,at' A.tk.ha 0e0,A.tk.nda,A.tk.lt,A.tk.asc,A.tk.la,A.tk.dis,A.tk.small⟩
  nm:=at' A.nm 0e0
  lt:=⟨kvs,at' e 0e0,L.keep fun a ha o h=>k a o h (by
   simp only[Α,Γ,Τ,not_or];exact A.ab a ha)⟩}
def a9.vY(_:a9 C H R as sl S)(W:jR C.w H' R.wk R.wx R.lb R.ln st)(k:Kp [R.lb,R.ln] H H'):Fw R as as H H':=Fw.ofD k fun b hb=>by
 obtain⟨vs,el,_⟩:=W.bl;simp only[Α,Γ,Τ] at hb;rcases hb with rfl|rfl
 ·exact⟨by simp[Rn.cells],_,el⟩
 ·exact⟨by simp[Rn.cells],_,W.nu⟩
def a9.tick(A:a9 C H R as sl S){md:Nat}(T:iO C.t H' R.tk R.tx R.dp R.da md pd an)(k:Kp [R.tk,R.dp,R.da] H H'):a9 C H' R as sl {S with made:=md,pend:=pd,ans:=an}:=by
 obtain⟨kvs,e,L⟩:=A.lt;obtain⟨vs,el,_⟩:=A.wk.bl;have at':∀ {b:Addr} {o:HO},H b=some o->(∀ xs,o≠.dK xs)->(∀ C d f,o≠.ins C d f)->H' b=some o:=fun {b o} h d d2=>k b o h (by
  simp only[Α,Γ,Τ,not_or];exact⟨cL h A.tk.ins (d2 _ _ _),cL h A.tk.hp 1e0,cL h A.tk.ha 1e0⟩)
 have gI:∀ {b:Addr} {o:HO},H b=some o->(∀ xs,o≠.dK xs)->b≠R.tk->H' b=some o:=fun {b o} h d d2=>k b o h (by
  simp only[Α,Γ,Τ,not_or];exact⟨d2,cL h A.tk.hp 1e0,cL h A.tk.ha 1e0⟩)
 have atD:∀ {b:Addr} {o:HO},H b=some o->(∀ C d f,o≠.ins C d f)->b≠R.dp->b≠R.da->H' b=some o:=fun {b o} h d d2 d3=>k b o h (by
  simp only[Α,Γ,Τ,not_or];exact⟨cL h A.tk.ins (d _ _ _),d2,d3⟩)
 have kt:aE H H':=fun b xs h=>at' h 0e0 2e0;exact {A with
  ins:=gI A.ins 0e0 A.xt
  slp:=A.slp.kt kt
  wk:=A.wk.keep (fun o h=>by rw[A.wk.ins] at h;cases h;exact gI A.wk.ins 0e0 A.wt) (fun o h=>by rw[el] at h;cases h;exact at' el 0e0 2e0) (fun o h=>by rw[A.wk.nu] at h;cases h;exact at' A.wk.nu 0e0 2e0) kt
  tk:=T
  nm:=atD A.nm 2e0 A.n1 A.n2
  lt:=⟨kvs,atD e 2e0 A.n4 A.n5,L.keep fun a ha o h=>by obtain⟨xs,ex⟩:=L.ex a ha;rw[ex] at h;cases h;exact at' ex 0e0 2e0⟩}
def a9.CC(_:a9 C H R as sl S){md:Nat}(T:iO C.t H' R.tk R.tx R.dp R.da md pd an)(k:Kp [R.tk,R.dp,R.da] H H'):Fw R as as H H':=Fw.ofD k fun b hb=>by
 simp only[Α,Γ,Τ] at hb;rcases hb with rfl|rfl|rfl
 ·exact⟨by simp[Rn.cells],_,T.ins⟩
 ·exact⟨by simp[Rn.cells],_,T.hp⟩
 ·exact⟨by simp[Rn.cells],_,T.ha⟩
def a9.name(A:a9 C H R as sl S)(n:Str)(w:Wo):a9 C (Wk H R.nm 1e1) R as sl {S with nm:=bT S.nm n w}:=by
 obtain⟨kvs,e,L⟩:=A.lt;obtain⟨vs,el,_⟩:=A.wk.bl;have at':∀ {b:Addr} {o:HO},H b=some o->(∀ xs,o≠.dK xs)->Wk H R.nm 1e1 b=some o:=fun {b o} h d=>cB A.nm h 1e0;have kt:aE H _:=fun b xs h=>at' h 0e0;exact {A with
  ins:=at' A.ins 0e0
  slp:=A.slp.kt kt
  wk:=A.wk.keep 6e0 8e1 7e1 kt
  tk:=A.tk.keep 7e0 (fun o h=>by rw[aD A.n1.symm];exact h) (fun o h=>by rw[aD A.n2.symm];exact h)
  nm:=aA
  lt:=⟨kvs,by rw[aD A.n3.symm];exact e,L.keep fun a ha o h=>by obtain⟨xs,ex⟩:=L.ex a ha;rw[ex] at h;cases h;exact at' ex 0e0⟩}
def a9.wN(A:a9 C H R as sl S)(e:H R.lt=some (.dK kvs))(hk:aW kvs 8e0=some (.ref l))(r:List Wo):a9 C (Wk H l 6e1) R as sl {S with lt:=dJ S.lt k r}/\l∈as:=by
 obtain⟨ab1,e',L⟩:=A.lt;rw[e] at e';cases e';obtain⟨vs,el,_⟩:=A.wk.bl;obtain⟨ws,hl,Zv⟩:∃ ws:List Wo,H l=some 5e1/\l∈as:=by
  rcases L.look k with⟨x,_⟩|⟨c,ws,x,_,y,z⟩
  ·rw[x] at hk;cases hk
  ·rw[x] at hk;cases hk;exact⟨ws,z,y⟩
 have at':∀ {b:Addr} {o:HO},H b=some o->(∀ xs,o≠.lst xs)->Wk H l 6e1 b=some o:=fun {b o} h d=>cB hl h 1e0;have kt:aE H _:=fun b xs h=>at' h 0e0;have nb:=A.ab l Zv;refine⟨{A with
  ins:=at' A.ins 0e0
  slp:=A.slp.kt kt
  wk:=A.wk.keep 6e0 (fun o h=>by rw[aD nb.1.symm];exact h) (fun o h=>by rw[aD nb.2.symm];exact h) kt
  tk:=A.tk.keep 7e0 (fun o h=>by rw[A.tk.hp] at h;cases h;exact at' A.tk.hp 0e0) (fun o h=>by rw[A.tk.ha] at h;cases h;exact at' A.tk.ha 0e0)
  nm:=at' A.nm 0e0
  lt:=⟨kvs,at' e 0e0,L.set r hk A.nas⟩},Zv⟩
def a9.N8(A:a9 C H R as sl S)(e:H R.lt=some (.dK kvs))(hk:aW kvs 8e0=none)(hl:H l=some 5e1)(n1:l∉R.cells)(n2:l∉as):a9 C (Wk H R.lt 0e1) R (as++[l]) sl {S with lt:=S.lt++[(k,ws)]}:=by
 obtain⟨ab1,e',L⟩:=A.lt;rw[e] at e';cases e';obtain⟨vs,el,_⟩:=A.wk.bl;have at':∀ {b:Addr} {o:HO},H b=some o->(∀ xs,o≠.dK xs)->Wk H R.lt 0e1 b=some o:=fun {b o} h d=>cB e h 1e0;have kt:aE H _:=fun b xs h=>at' h 0e0;exact {A with
  ins:=at' A.ins 0e0
  slp:=A.slp.kt kt
  wk:=A.wk.keep 6e0 8e1 7e1 kt
  tk:=A.tk.keep 7e0 (fun o h=>by rw[aD A.n4.symm];exact h) (fun o h=>by rw[aD A.n5.symm];exact h)
  nm:=by rw[aD A.n3];exact A.nm
  lt:=⟨_,aA,by
   rw[xM _ hk];exact(L.keep fun a ha o h=>by obtain⟨xs,ex⟩:=L.ex a ha;rw[ex] at h;cases h;exact cB e ex).snoc (cB e hl)⟩
  nas:=ϙ.mpr ⟨A.nas,by simp,fun a ha b hb=>by rw[show b=l by simpa using hb];exact fun z=>n2 (by rw[<- z];exact ha)⟩
  ab:=fun a ha=>by
   rcases Κ.mp ha with ha|ha
   ·exact A.ab a ha
   ·rw[show a=l by simpa using ha];exact⟨fun z=>n1 2e1,fun z=>n1 2e1⟩}
def a9.other(A:a9 C H R as sl S){c:Addr}{vs:List V}(hc:H c=some (.lst us))(n1:c∉R.cells)(n2:c∉as):a9 C (Wk H c (.lst vs)) R as sl S :=
 A.keep (fun b o h m=>by
  rw[aD (fun z=>by
   rcases m with m|m|m
   ·rw[z] at m;rw[m,A.wk.ins] at hc;cases hc
   ·exact n1 3e1
   ·exact n2 3e1)]
  exact h) (aE.cA hc)
end
end
mutual
example:=[N+1,(by simp),(by cases e),Wk H p o,Str×Sp,(by rw[show(S.enter c bb).sl=S.sl from rfl,hs] at e;cases e),(by rw[show S'.pass.sl=S'.sl from rfl,a] at e;cases e),(by rw[show S.aY.sl=S.sl from rfl,h] at e;cases e),(by simp[Stm.dp];omega),Str.ofString a,Str×List Wo,(by simp[hx]),S.worth s]
def put2{x p:Addr}{o' u:HO}(hx:H x=some u)(hp:H p=none):Wk 3e0 x o' x=some o'/\Wk 3e0 x o' p=some o/\Kp [x] H (Wk 3e0 x o')/\x≠p:=by
 have n:x≠p:=aF hx hp;exact⟨aA,by rw[aD n.symm];exact aA,(Kp.new hp).trans (Kp.set 1e0),n⟩
def cQ{p:Addr}(h:Wk H a o p=none):H p=none:=by
 by_cases e:p=a
 ·subst e;rw[aA] at h;cases h
 ·rwa [aD e] at h
def Told(C:Cl)(R:Rn)(as WO:List Addr)(H:Hp)(Q:VK)(z:Pu×Cmds):Prop:=∀(sl:V) (c:Addr) (us:List V) (H':Hp),a9 C H' R WO sl z.1->H c=none->H' c=some (.lst us)->iF H' us z.2->Fw R as WO H H'->Q (.ref c) H'
inductive DQ(C:Cl)(vs:List V)(H:Hp)(Q:VK)(E:XK):Prop
 | mk (R:Rn) (as:List Addr) (sl:V) (S:Pu) (v:V) (s:Say) (_:vs=[.ref R.x,v]) (_:a9 C H R as sl S) (_:S.pl.Ok) (_:c0 H v s) (_:s.sok) (_:Q (wv 2e1) H):DQ C vs H Q E
inductive LY(C:Cl)(vs:List V)(H:Hp)(Q:VK)(E:XK):Prop
 | mk (R:Rn) (as:List Addr) (sl:V) (S:Pu) (n:Str) (_:vs=[.ref R.x,.str n]) (_:a9 C H R as sl S) (_:S.made < 1000000) (_:S.pend.length < 1000000) (_:S.nm.length<=1000000) (_:∀ H',a9 C H' R as sl (S.rP n)->Fw R as as H H'->Q (.int S.made) H'):LY C vs H Q E
inductive LV(C:Cl)(vs:List V)(H:Hp)(Q:VK)(E:XK):Prop
 | mk (R:Rn) (as:List Addr) (sl:V) (S:Pu) (w:Wo) (_:vs=[.ref R.x,wv w]) (_:a9 C H R as sl S) (_:Told C R as as H Q (S.ends w)):LV C vs H Q E
inductive L7(C:Cl)(vs:List V)(H:Hp)(Q:VK)(E:XK):Prop
 | mk (R:Rn) (as:List Addr) (sl:V) (S:Pu) (_:vs=[.ref R.x]) (_:a9 C H R as sl S) (_:Told C R as as H Q S.nF):L7 C vs H Q E
inductive dH(C:Cl)(wt:Bool)(g:Stm->Prop)(vs:List V)(H:Hp)(Q:VK)(E:XK):Prop
 | mk (R:Rn) (as:List Addr) (sl:V) (S:Pu) (a:V) (m:Stm) (N:Nat) (_:vs=[.ref R.x,a]) (_:a9 C H R as sl S) (_:S.sl=.Wl) (_:b9 H a m) (_:g m) (_:Ww wt S N) (_:m.gd wt) (_:N<=900000) (_:Told C R as as H Q (bL S m)):dH C wt g vs H Q E
inductive Hb(C:Cl)(wt:Bool)(vs:List V)(H:Hp)(Q:VK)(E:XK):Prop
 | mk (R:Rn) (as:List Addr) (sl:V) (S:Pu) (a:V) (m:Stm) (N:Nat) (_:vs=[.ref R.x,a]) (_:a9 C H R as sl S) (_:b9 H a m) (_:m.isB=true) (_:Ww wt S N) (_:m.gd wt) (_:Wr S.stk=some m) (_:∀ H',a9 C H' R as sl (i9 S m)->Fw R as as H H'->Q .Wl H'):Hb C wt vs H Q E
inductive LZ(C:Cl)(wt:Bool)(vs:List V)(H:Hp)(Q:VK)(E:XK):Prop
 | mk (R:Rn) (as:List Addr) (sl:V) (S:Pu) (a:V) (m:Stm) (N:Nat) (_:vs=[.ref R.x,a]) (_:a9 C H R as sl S) (_:S.sl=.Wl) (_:b9 H a m) (_:Ww wt S N) (_:m.gd wt) (_:Wr S.stk=some m) (_:N<=900000) (_:Told C R as as H Q (one S m)):LZ C wt vs H Q E
inductive Pp(C:Cl)(wt:Bool)(vs:List V)(H:Hp)(Q:VK)(E:XK):Prop
 | mk (R:Rn) (as:List Addr) (sl:V) (S:Pu) (N:Nat) (_:vs=[.ref R.x]) (_:a9 C H R as sl S) (_:Ww wt {S with sl:=.Wl} N) (_:N<=800000) (_:Told C R as as H Q (cR 300 {S with sl:=.Wl})):Pp C wt vs H Q E
inductive DN(C:Cl)(vs:List V)(H:Hp)(Q:VK)(E:XK):Prop
 | mk (R:Rn) (as:List Addr) (sl:V) (S:Pu) (_:vs=[.ref R.x]) (_:a9 C H R as sl S) (_:Q sl H):DN C vs H Q E
inductive Hc(C:Cl)(vs:List V)(H:Hp)(Q:VK)(E:XK):Prop
 | mk (R:Rn) (as:List Addr) (sl:V) (S:Pu) (_:vs=[.ref R.x]) (_:a9 C H R as sl S) (_:S.pend.length<=1000000) (_:∀ l,H l=none->Q (.ref l) (Wk H l (.lst (S.pend.map V.int)))):Hc C vs H Q E
def Pc(F:Ww wt S N){s:Say}(h:s.sok):eD 2e1:=Gi F.pl h.1
def NY{y:Str}{a:Sp}{r:List 4e0}:List.lookup y ((y,a)::r)=some a:=by simp only[List.lookup,beq_self_eq_true]
theorem l9{a b:String}{s:Sp}{r:List 4e0}(h:a≠b:=by decide):List.lookup 9e0 ((Str.ofString b,s)::r)=List.lookup 9e0 r:=by
 have:((Str.ofString a:Str)==Str.ofString b)=false:=Α9.mpr fun z=>h (by rwa [bD] at z);simp only[List.lookup,this]
def Ms{y:Str}{a sp:Sp}{r:List 4e0}(h:List.lookup y ((k,a)::r)=some sp):(y=k/\sp=a)\/List.lookup y r=some sp:=by
 simp only[List.lookup] at h;split at h
 ·next z=>cases h;exact .inl ⟨eq_of_beq z,rfl⟩
 ·exact .inr h
def fX{m:Stm}(h:Wr st=some m):∃ k b n r,st=(k,b,n)::r/\b[n]?=some m:=by
 match st,h with
 | (k,b,n)::r,h=>exact⟨k,b,n,r,rfl,h⟩
def mI(S:Pu)(m:Stm):(bL S m).1.stk=S.stk:=by
 cases m<;>simp only[bL,Pu.rP,Pu.ends]
 ·split
  ·split<;>rfl
  ·rfl
 ·split<;>rfl
 ·split<;>rfl
theorem Co{wt:Bool}:∀ st,yV wt st->yV wt (bO st)
 | [],h=>h.ok.elim
 | [x],h=>by simp only[bO];exact h
 | (k,b,n)::(k2,b2,n2)::r,h=>by
  rw[bO];split
  ·have o:=h.ok.2 (k2,b2,n2) 1e0;exact Co ((k2,b2,oJ b2 n2)::r) ⟨⟨C8 o,fun x hx=>h.ok.2 x (ϔ _ hx)⟩,fun x hx=>by
    rcases Α.mp hx with rfl|hx
    ·exact h.gd (k2,b2,n2) 1e0
    ·exact h.gd x 1e1,⟨h.dp.2.1,h.dp.2.2⟩⟩
  ·exact h
termination_by st=>st.length
def Ww.aY(F:Ww wt S N)(h:S.sl=.Wl):Ww wt S.aY N :=
 {F with sk:=Co _ F.sk,sl:=⟨fun k e=>7e0,fun k e=>7e0⟩}
def Ww.more{M:Nat}(F:Ww wt S N)(h:N<=M):Ww wt S M :=
 {F with nm:=ϐ F.nm h,md:=ϐ F.md h,pd:=ϐ F.pd h,an:=ϐ F.an h,lt:=ϐ F.lt h,lw:=fun k ws e=>⟨ϐ (F.lw k ws e).1 h,(F.lw k ws e).2⟩}
def yV.pass{m:Stm}(G:yV wt st)(h:Wr st=some m):yV wt (fW st):=by
 obtain⟨k,b,n,r,rfl,hm⟩:=fX h;have hn:=(Λ.mp hm).1;exact⟨⟨hn,G.ok.2⟩,fun x hx=>by
  rcases Α.mp hx with rfl|hx
  ·exact G.gd (k,b,n) 1e0
  ·exact G.gd x 1e1,G.dp⟩
theorem yV.enter{m:Stm}{c:Nat}(G:yV wt st)(h:Wr st=some m)(hg:BZ wt bb)(hd:oX bb+1<=m.dp):yV wt ((c,bb,0)::st):=by
 obtain⟨k,b,n,r,rfl,hm⟩:=fX h;have hn:=(Λ.mp hm).1;have h2:=vK hm;have h3:=G.dp.1;refine⟨⟨Α5 _,fun x hx=>?_⟩,fun x hx=>?_,?_,G.dp⟩
 ·rcases Α.mp hx with rfl|hx
  ·exact hn
  ·exact G.ok.2 x hx
 ·rcases Α.mp hx with rfl|hx
  ·exact hg
  ·exact G.gd x hx
 ·simp only[Η];omega
def Ww.stm(F:Ww wt S N){m:Stm}(h:Wr S.stk=some m):m.gd wt:=by
 obtain⟨k,b,n,r,e,hm⟩:=fX h;exact Kj (F.sk.gd (k,b,n) (by rw[e];simp)) hm
def Lk(h:S.pl.Ok)(n:Str){w:Wo}(hw:eD w):({S with nm:=bT S.nm n w}:Pu).pl.Ok :=
 ⟨fun x=>by show eD (sN (bT S.nm n w) x);rw[Ii];split;exact hw;exact h.nm x,h.ar,h.an⟩
theorem rN:∀(l:List 0e1) (k:Str) (r:List Wo) (j:Str) (ws:List Wo),aT (dJ l k r) j=some ws->(j=k/\ws=r)\/aT l j=some ws
 | [],_,_,_,_,h=>by simp[dJ,aT] at h
 | p::l,k,r,j,ws,h=>by
  by_cases e:p.1=k
  ·rw[dJ,if_pos e,aT] at h;by_cases e2:p.1=j
   ·rw[if_pos e2] at h;cases h;exact .inl ⟨by rw[<- e2,e],rfl⟩
   ·rw[if_neg e2] at h;exact .inr (by rw[aT,if_neg e2];exact h)
  ·rw[dJ,if_neg e,aT] at h;by_cases e2:p.1=j
   ·rw[if_pos e2] at h;exact .inr (by rw[aT,if_pos e2];exact h)
   ·rw[if_neg e2] at h;rcases rN l k r j ws h with x|x
    ·exact .inl x
    ·exact .inr (by rw[aT,if_neg e2];exact x)
theorem nB:∀(l:List 0e1) (k:Str) (r:List Wo),(dJ l k r).length=l.length
 | [],_,_=>rfl
 | p::l,k,r=>by
  rw[dJ];split
  ·rfl
  ·simp[nB l k r]
theorem Bb(h:∀ w∈ws,eD w):eD (aX ans ws):=by
 unfold aX;cases e:ans.find? fun p=>decide (some p.1∈ws) with
 | none=>exact kI
 | some p =>
  have:=List.find?_some e;exact h _ (by simpa using this)
def z9{α:Type}{p:α->Bool}{l:List α}:(l.filter p).length<=l.length:=Α2 p l
theorem Ww.bL(F:Ww wt S N){m:Stm}(h:Wr S.stk=some m)(hs:S.sl=.Wl)(hN:N<=900000):Ww wt (bL S m).1 0e0:=by
 have g:=F.stm h;have F1:=F.more (Δ1 N);have WC:(∀ k,S.sl=.Wp k->∃ x,Wr S.stk=some (.Wp x k))/\∀ ts,S.sl=.wait ts->∃ x ss,Wr S.stk=some (.wait x ss):=F.sl;have put:∀(n:Str) {w:Wo},eD w->Ww wt {S with nm:=bT S.nm n w} 0e0:=fun n w hw =>
  {F1 with nm:=by (have:=Dr S.nm n w;have:=F.nm;show(bT S.nm n w).length<=N+1;omega),pl:=Lk F.pl n hw}
 have rP:∀ n,Ww wt (S.rP n) 0e0:=fun n =>
  have hw:eD (some (S.made:Int)):=eW (by omega) (by have:=F.md;omega)
  {F1 with
   nm:=(put n hw).nm
   pl:=(put n hw).pl
   md:=(by have:=F.md;show S.made+1<=N+1;omega)
   pd:=(by have:=F.pd;show(S.pend++[(S.made:Int)]).length<=N+1;rw[Ν];simp;exact this)}
 cases m with
 | set x s=>exact put x (Pc F g)
 | order x y s=>exact rP x
 | child x y s=>exact rP x
 | Wy x s=>exact rP x
 | send s k r=>exact F1
 | drop s =>
  simp only[Own.bL];split
  ·split
   ·exact {F1 with pd:=ϐ z9 (Nat.le_succ_of_le F.pd)}
   ·exact F1
  ·exact F1
 | wait x ss =>
  simp only[Own.bL];split
  ·exact {F1 with sl:=⟨fun k e=>2e0,fun ts e=>⟨x,ss,h⟩⟩}
  ·exact put x (Bb fun w hw=>by
    obtain⟨s,Ye,rfl⟩:=Β3.mp hw;exact Pc F (g.2.2 s Ye))
 | Wp x k =>
  simp only[Own.bL];split
  ·next w r e =>
   obtain⟨ws,el,rfl⟩:∃ ws,aT S.lt k=some ws/\ws=w::r:=by
    cases el:aT S.lt k with
    | none=>rw[el] at e;cases e
    | some ws=>rw[el] at e;exact⟨ws,rfl,e⟩
   have hl:=F.lw k _ el;exact {put x (hl.2 w 1e0) with
    lt:=(by have:=F.lt;show(dJ S.lt k r).length<=N+1;rw[nB];omega)
    lw:=fun j vs hj=>by
     rcases rN S.lt k r j vs hj with⟨_,rfl⟩|z
     ·exact⟨by have:=hl.1;simp only[Η] at this;omega,fun w hw=>hl.2 w (ϔ _ hw)⟩
     ·exact F1.lw j vs z}
  ·exact {F1 with sl:=⟨fun k' e=>(by cases e;exact⟨x,h⟩),fun ts e=>2e0⟩}
 | fin s=>exact {F1 with pd:=Α5 _,sl:=⟨fun k e=>2e0,fun k e=>2e0⟩}
 | WH s b=>exact F1
 | iff s b o=>exact F1
def nR(h:s.isN=true):s=.Wl:=by cases s<;>first|rfl|cases h
theorem Ww.one(F:Ww wt S N){m:Stm}(h:Wr S.stk=some m)(hs:S.sl=.Wl)(hN:N<=900000):Ww wt (one S m).1 0e0:=by
 have g:=F.stm h;have F1:=F.more (Δ1 N);have ac4:∀ {st:Stk},Ww wt {S with stk:=st} 0e0->Ww wt {S with stk:=st} 0e0:=fun z=>z;have pass:∀ {S':Pu},Ww wt S' 0e0->S'.sl=.Wl->S'.stk=S.stk->Ww wt S'.pass 0e0:=fun {S'} z a b =>
  {z with sk:=(by have:=z.sk;rw[b] at this;show yV wt (fW S'.stk);rw[b];exact this.pass h),sl:=⟨fun k e=>6e0,fun k e=>6e0⟩}
 have enter:∀(c:Nat) (bb:List Stm),BZ wt bb->oX bb+1<=m.dp->Ww wt (S.enter c bb) 0e0:=fun c bb hg hd =>
  {F1 with sk:=F.sk.enter h hg hd,sl:=⟨fun k e=>5e0,fun k e=>5e0⟩}
 by_cases hB:m.isB=true
 ·simp only[Own.one,if_pos hB];cases m with
  | WH s b =>
   simp only[i9];split
   ·exact pass F1 hs rfl
   ·exact enter 0 b g.2 (by simp[Stm.dp])
  | iff s b o =>
   simp only[i9];split
   ·exact enter 1 o g.2.2 8e0
   ·exact enter 0 b g.2.1 8e0
  | _=>cases hB
 ·simp only[Own.one,if_neg hB];have D:=F.bL h hs hN;split
  ·next z=>exact pass D (nR z) (mI S m)
  ·exact D
def gZ{m:Stm}(h:m.isB=false):one S m=(if (bL S m).1.sl.isN=true then (bL S m).1.pass else (bL S m).1,(bL S m).2):=by simp[one,h]
def sU{m:Stm}(h:m.isB=true):one S m=(i9 S m,[]):=by simp[one,h]
def lG:List.lookup (Str.ofString "set") [((Str.ofString "set":Str),s0),((Str.ofString "order":Str),s1),((Str.ofString "timer":Str),s2),((Str.ofString "child":Str),s3),((Str.ofString "send":Str),s4),((Str.ofString "drop":Str),s5),((Str.ofString "wait":Str),s6),((Str.ofString "hear":Str),s7),((Str.ofString "end":Str),s8)]=some s0:=by rw[NY]
def gQ:List.lookup (Str.ofString "order") [((Str.ofString "set":Str),s0),((Str.ofString "order":Str),s1),((Str.ofString "timer":Str),s2),((Str.ofString "child":Str),s3),((Str.ofString "send":Str),s4),((Str.ofString "drop":Str),s5),((Str.ofString "wait":Str),s6),((Str.ofString "hear":Str),s7),((Str.ofString "end":Str),s8)]=some s1:=by rw[l9,NY]
def gR:List.lookup (Str.ofString "timer") [((Str.ofString "set":Str),s0),((Str.ofString "order":Str),s1),((Str.ofString "timer":Str),s2),((Str.ofString "child":Str),s3),((Str.ofString "send":Str),s4),((Str.ofString "drop":Str),s5),((Str.ofString "wait":Str),s6),((Str.ofString "hear":Str),s7),((Str.ofString "end":Str),s8)]=some s2:=by rw[l9,l9,NY]
def gP:List.lookup (Str.ofString "child") [((Str.ofString "set":Str),s0),((Str.ofString "order":Str),s1),((Str.ofString "timer":Str),s2),((Str.ofString "child":Str),s3),((Str.ofString "send":Str),s4),((Str.ofString "drop":Str),s5),((Str.ofString "wait":Str),s6),((Str.ofString "hear":Str),s7),((Str.ofString "end":Str),s8)]=some s3:=by rw[l9,l9,l9,NY]
def iS:List.lookup (Str.ofString "send") [((Str.ofString "set":Str),s0),((Str.ofString "order":Str),s1),((Str.ofString "timer":Str),s2),((Str.ofString "child":Str),s3),((Str.ofString "send":Str),s4),((Str.ofString "drop":Str),s5),((Str.ofString "wait":Str),s6),((Str.ofString "hear":Str),s7),((Str.ofString "end":Str),s8)]=some s4:=by rw[l9,l9,l9,l9,NY]
def iQ:List.lookup (Str.ofString "drop") [((Str.ofString "set":Str),s0),((Str.ofString "order":Str),s1),((Str.ofString "timer":Str),s2),((Str.ofString "child":Str),s3),((Str.ofString "send":Str),s4),((Str.ofString "drop":Str),s5),((Str.ofString "wait":Str),s6),((Str.ofString "hear":Str),s7),((Str.ofString "end":Str),s8)]=some s5:=by rw[l9,l9,l9,l9,l9,NY]
def iT:List.lookup (Str.ofString "wait") [((Str.ofString "set":Str),s0),((Str.ofString "order":Str),s1),((Str.ofString "timer":Str),s2),((Str.ofString "child":Str),s3),((Str.ofString "send":Str),s4),((Str.ofString "drop":Str),s5),((Str.ofString "wait":Str),s6),((Str.ofString "hear":Str),s7),((Str.ofString "end":Str),s8)]=some s6:=by rw[l9,l9,l9,l9,l9,l9,NY]
def iR:List.lookup (Str.ofString "hear") [((Str.ofString "set":Str),s0),((Str.ofString "order":Str),s1),((Str.ofString "timer":Str),s2),((Str.ofString "child":Str),s3),((Str.ofString "send":Str),s4),((Str.ofString "drop":Str),s5),((Str.ofString "wait":Str),s6),((Str.ofString "hear":Str),s7),((Str.ofString "end":Str),s8)]=some s7:=by rw[l9,l9,l9,l9,l9,l9,l9,NY]
def lF:List.lookup (Str.ofString "end") [((Str.ofString "set":Str),s0),((Str.ofString "order":Str),s1),((Str.ofString "timer":Str),s2),((Str.ofString "child":Str),s3),((Str.ofString "send":Str),s4),((Str.ofString "drop":Str),s5),((Str.ofString "wait":Str),s6),((Str.ofString "hear":Str),s7),((Str.ofString "end":Str),s8)]=some s8:=by rw[l9,l9,l9,l9,l9,l9,l9,l9,NY]
def deeds9{Z:Str->Sp->Prop}{y:Str}{sp:Sp}(h:List.lookup y [((Str.ofString "set":Str),s0),((Str.ofString "order":Str),s1),((Str.ofString "timer":Str),s2),((Str.ofString "child":Str),s3),((Str.ofString "send":Str),s4),((Str.ofString "drop":Str),s5),((Str.ofString "wait":Str),s6),((Str.ofString "hear":Str),s7),((Str.ofString "end":Str),s8)]=some sp)(z0:Z "set" s0)(z1:Z "order" s1)(z2:Z "timer" s2)(z3:Z "child" s3)(z4:Z "send" s4)(z5:Z "drop" s5)(z6:Z "wait" s6)(z7:Z "hear" s7)(z8:Z "end" s8):Z y sp:=by
 rcases Ms h with⟨rfl,rfl⟩|h
 ·exact z0
 rcases Ms h with⟨rfl,rfl⟩|h
 ·exact z1
 rcases Ms h with⟨rfl,rfl⟩|h
 ·exact z2
 rcases Ms h with⟨rfl,rfl⟩|h
 ·exact z3
 rcases Ms h with⟨rfl,rfl⟩|h
 ·exact z4
 rcases Ms h with⟨rfl,rfl⟩|h
 ·exact z5
 rcases Ms h with⟨rfl,rfl⟩|h
 ·exact z6
 rcases Ms h with⟨rfl,rfl⟩|h
 ·exact z7
 rcases Ms h with⟨rfl,rfl⟩|h
 ·exact z8
 cases h
def kH(h:Wr S.aY.stk=none)(n:Nat):cR n S=S.aY.ends none:=by
 cases n<;>simp only[cR,h]
def rF{m:Stm}(h:Wr S.aY.stk=some m):cR 0 S=S.aY.nF:=by simp only[cR,h]
def Bh{m:Stm}(h:Wr S.aY.stk=some m)(z:(one S.aY m).1.sl.isN=true)(n:Nat):cR (n+1) S=((cR n (one S.aY m).1).1,(one S.aY m).2++(cR n (one S.aY m).1).2):=by simp only[cR,h,z,Γ5]
def rE{m:Stm}(h:Wr S.aY.stk=some m)(z:(one S.aY m).1.sl.isN=false)(n:Nat):cR (n+1) S=one S.aY m:=by simp only[cR,h,z,Β1,ϗ]
def JQ(S:Pu)(m:Stm):(bL S m).2.length<=1:=by
 cases m<;>simp only[bL,Pu.ends,Η,ϑ,Α5,Ι,Γ1]
 ·split
  ·split<;>simp
  ·simp
 ·split<;>simp
 ·split<;>simp
def Bz(S:Pu)(m:Stm):(one S m).2.length<=1:=by
 unfold one;split
 ·simp
 ·exact JQ S m
inductive Hap where
 | WR (m:Int) (w:Wo)|don (m t:Int) (w:Wo)|ltr (m:Int) (k:Str) (w:Wo)
end
variable{hs:List Hap}
noncomputable def Hap.ini:Hap->List V
 | .WR m _=>[.str "begin",.int m]
 | .don m t _=>[.str "done",.int m,.int t]
 | .ltr m k _=>[.str "letter",.int m,.str k]
noncomputable def Hap.w:Hap->Wo
 | .WR _ w | .don _ _ w | .ltr _ _ w=>w
def Hap.vs(h:Hap):List V:=h.ini++[wv h.w]
variable{vs:List V}
noncomputable def Hap.m:Hap->Int
 | .WR m _ | .don m _ _ | .ltr m _ _=>m
variable{m:Stm}
mutual
example:=[Int×Wo,Str.ofString "-",Str.ofString "+",Str.ofString "*",(by simp),Wk (Wk H1 dx (.own x)) x (.ins C dx []),.inr (Str.ofString a),i∈bX ans ws,Key.inr.inj z,Str×List Wo,ws.take i,.lst us,some i,(Kp.drop ((K1.mono (by simp)).trans K) hx),(Kp.new (by rw[aD ne.symm];exact hx)),(fun v H2=>v=.Wl/\Q x H2),(.tup [.int i,wv w]),(by simpa using e),.ins C.r dx [],(by simp[fE,h]),bX ans ws,S.worth s,j∈i::r,Wk H p o,.tup us,.inr k,Wk H1 dx (.own x),(if num w > 0 then num w else 0),(by intro z;cases z),(by simp[fE,h,z]),ws.take (i+1),.int S.made,.inr "made",(l++[(i,w)]),cQ (cQ f2),cQ (cQ f1),(by cases e),aE.nil K1]
def mC(H:Hp)(v:V)(h:Hap):Prop:=∃ a,v=.ref a/\H a=some (.tup h.vs)
def Pu.over(S:Pu)(h:Hap):Bool:=match S.sl with
 | .new=>(match h with
  | .WR _ _=>false
  | _=>true)
 | .ended _=>true
 | .worn=>true
 | _=>(match h with
  | .WR _ _=>true
  | .don _ i _=>!decide (i∈S.pend)
  | .ltr _ _ _=>false)
def iA(l:List 9e0)(k:Str)(w:Wo):List 9e0:=match aT l k with
 | some ws=>dJ l k (ws++[w])
 | none=>l++[(k,[w])]
def Pu.at'(S:Pu)(m:Int):Pu:={S with nw:=later S.nw m}
def Pu.done(S:Pu)(i:Int)(w:Wo):Pu:={S with pend:=S.pend.filter fun j=>decide (j≠i),ans:=S.ans++[(i,w)]}
def Pu.dW(S:Pu)(i:Int)(w:Wo):Pu×Cmds:=match S.sl with
 | .wait ts=>if i∈ts then (S.done i w).wake 2e1 else (S.done i w,[])
 | _=>(S.done i w,[])
def Pu.dG(S:Pu)(k:Str)(w:Wo):Pu×Cmds:=match S.sl with
 | .Wp k'=>if k'=k then S.wake w else ({S with lt:=iA S.lt k w},[])
 | _=>({S with lt:=iA S.lt k w},[])
def Pu.take(S:Pu)(h:Hap):Pu×Cmds:=if S.over h=true then (S,[]) else match h with
 | .WR m w=>cR 300 {S with nw:=later S.nw m,ar:=w,sl:=.Wl}
 | .don m i w=>(S.at' m).dW i w
 | .ltr m k w=>(S.at' m).dG k w
def eQ(b:List Stm):Pu:=⟨[(0,b,0)],.new,none,0,[],0,[],[],[]⟩
inductive L0(C:Cl)(vs:List V)(H:Hp)(Q:VK)(E:XK):Prop
 | mk (R:Rn) (as:List Addr) (sl:V) (S:Pu) (v:V) (h:Hap) (_:vs=[.ref R.x,v]) (_:a9 C H R as sl S) (_:S.sl.isN=false) (_:mC H v h) (_:∀ H',Kp [] H H'->Q (.bl (S.over h)) H'):L0 C vs H Q E
inductive Hg(C:Cl)(wt:Bool)(vs:List V)(H:Hp)(Q:VK)(E:XK):Prop
 | mk (R:Rn) (as:List Addr) (sl:V) (S:Pu) (w:Wo) (N:Nat) (_:vs=[.ref R.x,wv w]) (_:a9 C H R as sl S) (_:Ww wt S N) (_:N<=700000) (_:eD w) (_:((∃ k,S.sl=.Wp k)\/∃ ts,S.sl=.wait ts)) (_:Told C R as as H Q (S.wake w)):Hg C wt vs H Q E
inductive Hd(C:Cl)(wt:Bool)(vs:List V)(H:Hp)(Q:VK)(E:XK):Prop
 | mk (R:Rn) (as:List Addr) (sl:V) (S:Pu) (i:Int) (w:Wo) (N:Nat) (_:vs=[.ref R.x,.int i,wv w]) (_:a9 C H R as sl S) (_:Ww wt S N) (_:N<=600000) (_:eD w) (_:i∈S.pend) (_:S.sl.isN=false) (_:Told C R as as H Q (S.dW i w)):Hd C wt vs H Q E
def OV(C:Cl)(R:Rn)(as WO:List Addr)(H:Hp)(Q:VK)(z:Pu×Cmds):Prop:=∀(sl:V) (c:Addr) (us:List V) (H':Hp),a9 C H' R WO sl z.1->H c=none->c∉WO->H' c=some 1e1->iF H' us z.2->Fw R as WO H H'->Q (.ref c) H'
inductive L6(C:Cl)(wt:Bool)(vs:List V)(H:Hp)(Q:VK)(E:XK):Prop
 | mk (R:Rn) (as:List Addr) (sl:V) (S:Pu) (k:Str) (w:Wo) (N:Nat) (_:vs=[.ref R.x,.str k,wv w]) (_:a9 C H R as sl S) (_:Ww wt S N) (_:N<=600000) (_:eD w) (_:((∃ k,S.sl=.Wp k)\/∃ ts,S.sl=.wait ts)) (_:∀ WO,OV C R as WO H Q (S.dG k w)):L6 C wt vs H Q E
inductive He(C:Cl)(wt:Bool)(vs:List V)(H:Hp)(Q:VK)(E:XK):Prop
 | mk (R:Rn) (as:List Addr) (sl:V) (S:Pu) (v:V) (h:Hap) (N:Nat) (_:vs=[.ref R.x,v]) (_:a9 C H R as sl S) (_:Ww wt S N) (_:N<=500000) (_:S.sl.isN=false) (_:mC H v h) (_:((0<=h.m/\h.m<=1000000000000)/\eD h.w)) (_:∀ WO,OV C R as WO H Q (S.take h)):He C wt vs H Q E
inductive BQ(C:Cl)(vs:List V)(H:Hp)(Q:VK)(E:XK):Prop
 | mk (x dx pg:Addr) (us:List V) (b:List Stm) (_:vs=[.ref x,.ref pg]) (_:H x=some 8e1) (_:H pg=some 4e2) (_:bP H us b) (_:∀(R:Rn) (sl:V) (H':Hp),R.x=x->a9 C H' R [] sl (eQ b)->Kp [x] H H'->(∀ a∈R.cells,a=x\/H a=none)->Q .Wl H'):BQ C vs H Q E
theorem lD(i:Int)(ts:List Int):rG (.int i) (ts.map V.int)=decide (i∈ts):=by
 rw[Δ7];simp[rG,j7]
def nN(ts:List Int):(ts.map V.int).all dN=true:=by simp[dN]
theorem NO{b:Addr}{z x y:Str}(n:Nat)(ha:H a=some (.tup [.str z,.str x]))(hb:H b=some (.tup [.str z,.str y])):oR K H (n+1) a b (decide (x=y)):=by
 have:=oR.tup (K:=K) (H:=H) (n:=n) (e:=fun j=>if j=0 then true else decide (x=y)) (g8.of ha) (g8.of hb) fun j u v e1 e2=>by
  rcases j with _|_|j
  ·simp only[Ξ,Ο] at e1 e2;subst e1 e2;have:=AG.flat (K:=K) (H:=H) (n:=n) (x:=.str z) (y:=.str z) rfl rfl
   rwa [show j7 (.str z) (.str z)=true by simp[j7]] at this
  ·simp only[List.getElem?_cons_succ,Ξ,Ο] at e1 e2;subst e1 e2;have:=AG.flat (K:=K) (H:=H) (n:=n) (x:=.str x) (y:=.str y) rfl rfl
   rwa [NH] at this
  ·simp at e1
 rw[show((List.range (min [V.str z,V.str x].length [V.str z,V.str y].length)).all (fun j=>if j=0 then true else decide (x=y))&&[V.str z,V.str x].length==[V.str z,V.str y].length)=decide (x=y) by simp[List.range_succ]] at this;exact this
theorem Ww.at'(F:Ww wt S N){m:Int}(h:0<=m/\m<=1000000000000):Ww wt (S.at' m) N :=
 {F with pl:=⟨F.pl.nm,F.pl.ar,F.pl.an⟩,nw:=(by have:=F.nw;show 0<=later S.nw m/\later S.nw m<=1000000000000;unfold later;split<;>omega)}
theorem wK{i:Int}{w:Wo}:∀(l:List 0e0) (x:Wo),fE 3e3 x=fE l x\/fE 3e3 x=w
 | _,none=>.inl (by simp[fE])
 | [],some j=>by
  by_cases h:i=j
  ·exact .inr 9e1
  ·exact .inl 9e1
 | p::r,some j=>by
  by_cases h:p.1=j
  ·exact .inl 9e1
  ·rcases wK (i:=i) (w:=w) r (some j) with z|z
   ·exact .inl 9e2
   ·exact .inr 9e2
def Ww.done(F:Ww wt S N){w:Wo}(hw:eD w):Ww wt (S.done i w) (N+1) :=
 {F.more (Δ1 N) with
  pd:=ϐ z9 (Nat.le_succ_of_le F.pd)
  an:=(by have:=F.an;show(S.ans++[(i,w)]).length<=N+1;simp;exact this)
  pl:=⟨F.pl.nm,F.pl.ar,fun x=>(by
   show eD (fE (S.ans++[(i,w)]) x);rcases wK (i:=i) (w:=w) S.ans x with z|z
   ·rw[z];exact F.pl.an x
   ·rw[z];exact hw)⟩}
theorem wM{k:Str}{ws:List Wo}:∀(l:List 9e0) (j:Str) (vs:List Wo),aT (l++[(k,ws)]) j=some vs->(j=k/\vs=ws)\/aT l j=some vs
 | [],j,vs,h=>by
  rw[Α0,aT] at h;by_cases e:k=j
  ·rw[if_pos e] at h;cases h;exact .inl ⟨e.symm,rfl⟩
  ·rw[if_neg e] at h;cases h
 | p::r,j,vs,h=>by
  rw[Ω,aT] at h;by_cases e:p.1=j
  ·rw[if_pos e] at h;exact .inr (by rw[aT,if_pos e];exact h)
  ·rw[if_neg e] at h;rcases wM r j vs h with z|z
   ·exact .inl z
   ·exact .inr (by rw[aT,if_neg e];exact z)
theorem Ww.iA(F:Ww wt S N){w:Wo}(hw:eD w):Ww wt {S with lt:=iA S.lt k w} (N+1):=by
 have F1:=F.more (Δ1 N);unfold Own.iA;cases e:aT S.lt k with
 | some ws =>
  have hl:=F.lw k ws e;exact {F1 with
   lt:=(by have:=F.lt;show(dJ S.lt k (ws++[w])).length<=N+1;rw[nB];omega)
   lw:=fun j vs h=>by
    rcases rN S.lt k _ j vs h with⟨_,rfl⟩|z
    ·exact⟨by have:=hl.1;simp;exact this,fun u hu=>by
      rcases Κ.mp hu with hu|hu
      ·exact hl.2 u hu
      ·rw[show u=w by simpa using hu];exact hw⟩
    ·exact F1.lw j vs z}
 | none =>
  exact {F1 with
   lt:=(by have:=F.lt;show(S.lt++[(k,[w])]).length<=N+1;simp;exact this)
   lw:=fun j vs h=>by
    rcases wM S.lt j vs h with⟨_,rfl⟩|z
    ·exact⟨by simp,fun u hu=>by rw[show u=w by simpa using hu];exact hw⟩
    ·exact F1.lw j vs z}
theorem BM{k:Str}{a b:List Wo}:∀ {l:List 9e0},aT l k=none->dJ (l++[(k,a)]) k b=l++[(k,b)]
 | [],_=>by simp[dJ]
 | p::r,h=>by
  rw[aT] at h;by_cases e:p.1=k
  ·rw[if_pos e] at h;cases h
  ·rw[if_neg e] at h;rw[Ω,dJ,if_neg e,BM h];rfl
theorem Ww.wake(F:Ww wt S N)(h:Wr S.stk=some m){w:Wo}(hw:eD w)(n:Str):Ww wt {S with nm:=bT S.nm n w,stk:=fW S.stk,sl:=.Wl} (N+1) :=
 {F.more (Δ1 N) with
  nm:=(by have:=Dr S.nm n w;have:=F.nm;show(bT S.nm n w).length<=N+1;omega)
  pl:=(Lk F.pl n hw)
  sk:=F.sk.pass h
  sl:=⟨fun k e=>6e3,fun k e=>6e3⟩}
def VM{x:Addr}{p:Addr}{u:HO}(k:Kp [x] H G)(gx:G x=some u)(hp:G p=none):H p=none:=by
 cases z:H p with
 | none=>rfl
 | some o =>
  by_cases hz:p=x
  ·subst hz;rw[gx] at hp;cases hp
  ·rw[k.Wx z hz] at hp;cases hp
def Ob{pg:Addr}{Q:Addr->Hp->Prop}(ep:H1 pg=some 4e2)(hs:bP H1 us b)(q:∀ x wx lb ln H',Kp [] H1 H'->H1 x=none->H1 lb=none->H1 ln=none->jR C H' x wx lb ln [(0,b,0)]->Q x H') : ∀ x dx,H1 x=none->H1 dx=none->dx≠x->yC C [.ref x,.ref pg] 5e0 5e1 E:=fun x dx hx hdx ne=>by
 have K1:Kp [] H1 5e0:=(Kp.new hdx).trans 4e1;exact⟨x,dx,pg,us,b,rfl,aA,K1.at ep,hs.kp 7e3,fun lb ln H' f1 f2 W K=>⟨rfl,q x dx lb ln H' 3e1 hx 5e3 4e3 W⟩⟩
def Uj{Q:Addr->Hp->Prop}(q:∀ x tx dp da H',Kp [] H1 H'->H1 x=none->H1 dp=none->H1 da=none->iO C H' x tx dp da 0 [] []->Q x H') : ∀ x dx,H1 x=none->H1 dx=none->dx≠x->yB C [.ref x] 5e0 5e1 E:=fun x dx hx hdx ne=>by
 have K1:Kp [] H1 5e0:=(Kp.new hdx).trans 4e1;exact⟨x,dx,rfl,aA,fun dp da H' f1 f2 T K=>⟨rfl,q x dx dp da H' 3e1 hx 5e3 4e3 T⟩⟩
def Ro{C:Cl}{pg:Addr}{Q:Addr->Hp->Prop}(ep:H1 pg=some 4e2)(hs:bP H1 us b)(q:∀(R:Rn) (sl:V) H',a9 C H' R [] sl (eQ b)->Kp [] H1 H'->(∀ a∈R.cells,H1 a=none)->Q R.x H') : ∀ x dx,H1 x=none->H1 dx=none->dx≠x->BQ C [.ref x,.ref pg] (Wk 6e2 x 8e1) 5e1 E:=fun x dx hx hdx ne=>by
 have K1:Kp [] H1 (Wk 6e2 x 8e1):=(Kp.new hdx).trans 4e1;refine⟨x,dx,pg,us,b,rfl,aA,K1.at ep,hs.kp 7e3,fun R sl H' e1 A K M=>⟨rfl,?_⟩⟩;subst e1;exact q R sl H' A 3e1 fun a ha=>by
  rcases M a ha with rfl|z
  ·exact hx
  ·exact cQ (cQ z)
inductive Az(C:Addr)(vs:List V)(H:Hp)(Q:VK)(E:XK):Prop
 | mk (tk tx dp da l:Addr) (made:Nat) (pend:List Int) (ans:List 0e0) (ws:List Wo) (_:vs=[.ref tk,.ref l]) (_:iO C H tk tx dp da made pend ans) (_:H l=some (.lst (ws.map wv))) (_:ws.length<=4) (_:ans.length<=1000000) (_:∀ H',Kp [] H H'->Q (wv (aX ans ws)) H'):Az C vs H Q E
def Kv(ans:List 0e0)(w:Wo):Bool:=ans.any fun p=>decide (w=some p.1)
def bX(ans:List 0e0):List Wo->List Int
 | []=>[]
 | none::r=>bX ans r
 | some i::r=>if Kv ans 2e1=true then i::bX ans r else bX ans r
def MC(ans:List 0e0)(w:Wo):(aW (iB ans) (wk w)).isSome=Kv ans w:=by
 induction ans with
 | nil=>simp[iB,yN,Kv]
 | cons p r ih =>
  have e:iB (p::r)=(Key.inl p.1,wv p.2)::iB r:=rfl;rw[e];by_cases h:w=some p.1
  ·subst h;rw[show wk (some p.1)=Key.inl p.1 from rfl,cH rfl];simp[Kv]
  ·rw[b7 (fun z=>h (by cases w with
    | none=>cases z
    | some j=>cases z;rfl)),ih]
   simp[Kv,h]
def Kx(ans:List 0e0):Kv ans none=false:=by simp[Kv]
theorem q9(ans:List 0e0):∀(l r:List Wo),bX ans (l++r)=bX ans l++bX ans r
 | [],r=>rfl
 | none::l,r=>by simp only[Ω,bX,q9 ans l r]
 | some i::l,r=>by
  simp only[Ω,bX,q9 ans l r];split<;>simp
def EA{i:Nat}{w:Wo}(e:ws[i]?=some w):(bX ans 0e3).map V.int=if Kv ans w=true then (bX ans 0e1).map V.int++[wv w] else (bX ans 0e1).map V.int:=by
 rw[Β9,e];simp only[Β2,q9,Α7];cases w with
 | none=>rw[Kx];simp[bX]
 | some j =>
  simp only[bX];split<;>simp[wv]
theorem nM(ans:List 0e0):∀ ws:List Wo,(bX ans ws).length<=ws.length
 | []=>Ι _
 | none::r=>by have:=nM ans r;simp only[bX,Η];omega
 | some i::r=>by
  have:=nM ans r;simp only[bX,Η];split
  ·simp only[Η];omega
  ·omega
theorem kJ{ans:List 0e0}{i:Int}:∀ {ws:List Wo},i∈bX ans ws↔Kv ans 2e1=true/\some i∈ws
 | []=>by simp[bX]
 | none::r=>by simp[bX,kJ (ws:=r)]
 | some j::r=>by
  have ih:=kJ (ans:=ans) (i:=i) (ws:=r);simp only[bX];split
  ·next h =>
   simp only[Α,ih,Ο];constructor
   ·rintro(rfl|⟨a,b⟩)
    ·exact⟨h,.inl rfl⟩
    ·exact⟨a,.inr b⟩
   ·rintro⟨a,b|b⟩
    ·exact .inl b
    ·exact .inr ⟨a,b⟩
  ·next h =>
   rw[ih];simp only[Α,Ο];constructor
   ·rintro⟨a,b⟩;exact⟨a,.inr b⟩
   ·rintro⟨a,b|b⟩
    ·subst b;exact absurd a h
    ·exact⟨a,b⟩
theorem CH(i:Int):∀ ns:List Int,rG (.int i) (ns.map V.int)=decide (i∈ns)
 | []=>by simp[rG]
 | n::r=>by
  have ih:=CH i r;simp only[rG,ϓ,Δ8] at ih ⊢;rw[ih];by_cases h:n=i
  ·subst h;simp[j7]
  ·have:j7 (V.int n) (V.int i)=false:=by simp[j7,h]
   rw[this];simp[Ne.symm h]
theorem vU{α:Type}{p q:α->Bool}:∀ {l:List α},(∀ x∈l,p x=q x)->l.find? p=l.find? q
 | [],_=>rfl
 | x::l,h=>by
  simp only[List.find?,h x 4e0,vU fun y hy=>h y (ϔ _ hy)]
theorem vV(ans:List 0e0)(ws:List Wo):aX ans ws=((ans.map (·.1)).filter fun i=>decide 7e0).head?:=by
 unfold aX;rw[List.head?_filter,List.find?_map]
 congr 1
 refine vU fun p hp=>?_;have:Kv ans (some p.1)=true:=by simp only[Kv,List.any_eq_true];exact⟨p,hp,by simp⟩
 simp only[Function.comp,kJ,this,true_and]
theorem xD{val:Nat->Int}{j:Int}:∀ {n:Nat},j∈once val n↔∃ k,k < n/\val k=j
 | 0=>by simp[once]
 | n+1=>by
  have ih:=xD (val:=val) (j:=j) (n:=n);have up:(∃ k,k < n+1/\val k=j)↔(∃ k,k < n/\val k=j)\/val n=j:=by
   constructor
   ·rintro⟨k,hk,e⟩;by_cases h:k=n
    ·subst h;exact .inr e
    ·exact .inl ⟨k,by omega,e⟩
   ·rintro(⟨k,hk,e⟩|e)
    ·exact⟨k,by omega,e⟩
    ·exact⟨n,by omega,e⟩
  rw[up,once];split
  ·next h =>
   rw[ih];constructor
   ·exact .inl
   ·rintro(z|z)
    ·exact z
    ·subst z;exact xD.mp h
  ·simp only[Κ,List.mem_singleton,ih];constructor
   ·rintro(z|z)
    ·exact .inl z
    ·exact .inr z.symm
   ·rintro(z|z)
    ·exact .inl z
    ·exact .inr z.symm
def nU:j∈lU ns↔j∈ns:=by
 unfold lU;rw[xD,List.mem_iff_getElem];constructor
 ·rintro⟨k,hk,e⟩;exact⟨k,hk,by rw[Ε2,ϕ hk] at e;exact e⟩
 ·rintro⟨k,hk,e⟩;exact⟨k,hk,by rw[Ε2,ϕ hk];exact e⟩
def Lo(h:(lU ns).length < 2)(hi:i∈ns)(hj:j∈ns):i=j:=by
 have a:=nU.mpr hi;have b:=nU.mpr hj
 match e:lU ns,h with
 | [],_=>rw[e] at a;cases a
 | [x],_ =>
  rw[e] at a b;rw[List.mem_singleton.mp a,List.mem_singleton.mp b]
theorem HV(h:(lU 0e2).length < 2):aX ans ws=(bX ans ws).head?:=by
 rw[vV];cases e:bX ans ws with
 | nil=>simp
 | cons i r =>
  have hi:i∈bX ans ws:=by rw[e];simp
  have he:∀ j∈bX ans ws,j=i:=fun j hj=>Lo h hj hi;obtain⟨p,hp,ep⟩:=List.any_eq_true.mp (kJ.mp hi).1;have ep:i=p.1:=by simpa using ep
  show _=some i;have hm:i∈((ans.map (·.1)).filter fun j=>decide 2e2):=Ϛ.mpr ⟨Β3.mpr ⟨p,hp,ep.symm⟩,by simp⟩;cases z:((ans.map (·.1)).filter fun j=>decide 2e2) with
  | nil=>rw[z] at hm;cases hm
  | cons x xs =>
   have hx:x∈((ans.map (·.1)).filter fun j=>decide 2e2):=by rw[z];simp
   have:=he x (by rw[e];simpa using(Ϛ.mp hx).2);rw[this];rfl
theorem EE(h:¬ (lU 0e2).length < 2):∃ i r,((ans.map (·.1)).filter fun i=>decide 7e0)=i::r/\aX ans ws=some i:=by
 have hf:=vV ans ws;cases z:((ans.map (·.1)).filter fun i=>decide 7e0) with
 | cons i r=>rw[z] at hf;exact⟨i,r,rfl,hf⟩
 | nil =>
  exfalso;cases e:lU 0e2 with
  | nil=>rw[e] at h;exact h 4e0
  | cons i r =>
   have hi:i∈bX ans ws:=nU.mp (by rw[e];simp);obtain⟨p,hp,ep⟩:=List.any_eq_true.mp (kJ.mp hi).1;have ep:i=p.1:=by simpa using ep
   have hm:i∈((ans.map (·.1)).filter fun i=>decide 7e0):=Ϛ.mpr ⟨Β3.mpr ⟨p,hp,ep.symm⟩,by simpa using hi⟩;rw[z] at hm;cases hm
def fT.atW(h:fT H vs ss):∀ {i:Nat} {x:V},vs[i]?=some x->∃ y,ss[i]?=some y/\c0 H x y:=by
 induction h with
 | nil=>intro i x e;simp at e
 | cons h _ ih =>
  intro i x e;cases i with
  | zero=>simp only[Ξ,Ο] at e;subst e;exact⟨_,rfl,h⟩
  | succ i=>exact ih 7e1
def fT.Rk(h:fT H vs ss):vs.length=ss.length:=by
 induction h with
 | nil=>rfl
 | cons _ _ ih=>simp[ih]
def dE(pend:List Int):List Wo->List Int
 | []=>[]
 | none::r=>dE pend r
 | some i::r=>if i∈pend then i::dE pend r else dE pend r
theorem rZ(pend:List Int):∀(l r:List Wo),dE pend (l++r)=dE pend l++dE pend r
 | [],r=>rfl
 | none::l,r=>by simp only[Ω,dE,rZ pend l r]
 | some i::l,r=>by
  simp only[Ω,dE,rZ pend l r];split<;>simp
theorem E8{i:Nat}{w:Wo}(e:ws[i]?=some w):(dE pend 0e3).map V.int=if decide (∃ j∈pend,w=some j)=true then (dE pend 0e1).map V.int++[wv w] else (dE pend 0e1).map V.int:=by
 rw[Β9,e];simp only[Β2,rZ,Α7];cases w with
 | none=>simp[dE]
 | some j =>
  by_cases h:j∈pend
  ·simp[dE,h,wv]
  ·simp[dE,h]
theorem kN(pend:List Int):∀ ws:List Wo,(dE pend ws).length<=ws.length
 | []=>Ι _
 | none::r=>by have:=kN pend r;simp only[dE,Η];omega
 | some i::r=>by
  have:=kN pend r;simp only[dE,Η];split
  ·simp only[Η];omega
  ·omega
theorem wO{i j:Int}:∀ {l:List Int},j∈wD i l↔j=i\/j∈l
 | []=>by simp[wD]
 | k::r=>by
  have ih:=wO (i:=i) (j:=j) (l:=r);simp only[wD];split
  ·simp
  ·split
   ·next h =>
    subst h;simp only[Α];constructor
    ·exact .inr
    ·rintro(z|z)
     ·exact .inl z
     ·exact z
   ·simp only[Α,ih];constructor
    ·rintro(z|z|z)
     ·exact .inr (.inl z)
     ·exact .inl z
     ·exact .inr (.inr z)
    ·rintro(z|z|z)
     ·exact .inr (.inl z)
     ·exact .inl z
     ·exact .inr (.inr z)
theorem CI{i:Int}:∀ {l:List Int},l.Pairwise (· < ·)->(wD i l).Pairwise (· < ·)
 | [],_=>by simp[wD]
 | k::r,h=>by
  obtain⟨h1,h2⟩:=List.pairwise_cons.mp h;simp only[wD];split
  ·next c=>exact List.pairwise_cons.mpr ⟨fun x hx=>by
    rcases Α.mp hx with rfl|hx
    ·exact c
    ·have:=h1 x hx;omega,h⟩
  ·split
   ·exact h
   ·exact List.pairwise_cons.mpr ⟨fun x hx=>by
     rcases wO.mp hx with rfl|hx
     ·omega
     ·exact h1 x hx,CI h2⟩
theorem fV(pend:List Int):∀ ws:List Wo,(bH pend ws).Pairwise (· < ·)
 | []=>.nil
 | none::r=>fV pend r
 | some i::r=>by
  simp only[bH];split
  ·exact CI (fV pend r)
  ·exact fV pend r
theorem lJ{pend:List Int}{j:Int}:∀ {ws:List Wo},j∈bH pend ws↔j∈dE pend ws
 | []=>by simp[bH,dE]
 | none::r=>by simp only[bH,dE];exact lJ
 | some i::r=>by
  have ih:=lJ (pend:=pend) (j:=j) (ws:=r);simp only[bH,dE];split
  ·rw[wO,ih,Α]
  ·exact ih
theorem xE(val:Nat->Int):∀ n,(once val n).Nodup
 | 0=>by simp[once]
 | n+1=>by
  have ih:=xE val n;rw[once];split
  ·exact ih
  ·next h=>exact ϙ.mpr ⟨ih,by simp,fun a ha b hb=>by
    rw[List.mem_singleton.mp hb];exact fun z=>h (z▸ha)⟩
theorem Dj(hp:ns.Perm (lU (dE pend ws)))(hs:ns.Pairwise (·<=·)):ns=bH pend ws:=by
 refine nC (hp.trans ?_) hs (fV pend ws);refine(List.perm_ext_iff_of_nodup (xE _ _) ((fV pend ws).imp fun h=>by omega)).mpr fun j=>?_;show j∈lU _↔_;rw[nU,lJ]
def Stm.CK:Stm->Bool
 | .set _ _ | .order _ _ _ | .Wy _ _ | .child _ _ _ | .send _ _ _ | .drop _=>true
 | _=>false
theorem Pd{M:Int}(h:0 < M)(h':M<=2 ^ 62)(j:Int):CMul (i % M) j:=by
 have:=Int.emod_nonneg i (show M≠0 by omega);have:=Int.emod_lt_of_pos i h;exact .inl ⟨by omega,by omega⟩
def ix32:zE 3 2=some 2:=rfl
structure b6(H:Hp)(r:Addr)(n:Nat):Prop where
 ex:∃ c m s:Int,H r=some (.lst [.int c,.int m,.int s])/\0<=s/\s<=n
def b6.kp{r:Addr}{n:Nat}(R:b6 H r n)(h:Kp [] H H'):b6 H' r n:=by
 obtain⟨c,m,s,e,x⟩:=R;exact⟨c,m,s,h _ _ e 4e0,x⟩
def b6.new{r p:Addr}{n:Nat}(R:b6 H r n)(h:H p=none):b6 3e2 r n:=R.kp (Kp.new h)
def b6.none{r p:Addr}{n:Nat}(R:b6 H r n)(h:H p=Option.none):p≠r:=by
 obtain⟨c,m,s,e,_⟩:=R;exact(aF e h).symm
def made1{r p:Addr}{n:Nat}(x:Kp [r] 3e2 H')(R:b6 H r n)(h:H p=none):H' p=some o:=x.Wx aA (R.none h)
def GX:Sp:=fun vs H Q _=>∃(r:Addr) (m:Int) (n:Nat),vs=[.ref r,.int m]/\0 < m/\m<=10 ^ 45/\b6 H r n/\n<=100000/\∀(g:Int) (H':Hp),0<=g->g < m->b6 H' r (n+1)->Kp [r] H H'->Q (.int g) H'
def Ow{r:Addr}{m:Int}:GX [.ref r,.int m] H Q E=(0 < m/\m<=10 ^ 45/\∃ n,b6 H r n/\n<=100000/\∀(g:Int) (H':Hp),0<=g->g < m->b6 H' r (n+1)->Kp [r] H H'->Q (.int g) H') :=
 propext ⟨fun⟨_,_,n,e,a,b,c⟩=>by cases e;exact⟨a,b,n,c⟩,fun⟨a,b,n,c⟩=>⟨_,_,n,rfl,a,b,c⟩⟩
inductive LS(vs:List V)(H:Hp)(Q:VK)(E:XK):Prop
 | mk (z:Int) (k:Nat) (_:vs=[.int z,.int k]) (_:∀ r H',H r=none->Kp [] H H'->b6 H' r k->Q (.ref r) H'):LS vs H Q E
def iL:V->Prop
 | .Wl=>True
 | .str _=>True
 | .int _=>True
 | _=>False
def nZ(w:Wo):iL (wv w):=by cases w<;>trivial
theorem b6.up{H:Hp}{r:Addr}{n m:Nat}(R:b6 H r n)(h:n<=m):b6 H r m:=by
 obtain⟨c,f,s,e,x,y⟩:=R;exact⟨c,f,s,e,x,by omega⟩
def b6.tk{r:Addr}{n:Nat}(R:b6 H r n)(k:Kp [r] H H'):aE H H':=.of k fun a ha=>by
 obtain⟨c,f,s,e,_⟩:=R;have:a=r:=by simpa using ha
 exact⟨_,this▸e,fun _ h=>by cases h⟩
def bd:Nat->Nat
 | 0=>3
 | d+1=>2 * bd d+3
theorem PU(d:Nat):3<=bd d:=by
 cases d with
 | zero=>exact Ι _
 | succ d=>rw[bd];omega
inductive DF(vs:List V)(H:Hp)(Q:VK)(E:XK):Prop
 | mk (r:Addr) (n:Nat) (_:vs=[.ref r]) (_:b6 H r n) (_:n<=900) (_:∀(w:Wo) (H':Hp),eD w->b6 H' r (n+2)->Kp [r] H H'->Q (wv w) H'):DF vs H Q E
def GW:Sp:=fun vs H Q _=>∃(r:Addr) (n:Nat),vs=[.ref r]/\b6 H r n/\n<=900/\∀(x:Str) (H':Hp),b6 H' r (n+1)->Kp [r] H H'->Q (.str x) H'
def Ov{r:Addr}:GW [.ref r] H Q E = ∃ n,b6 H r n/\n<=900/\∀(x:Str) (H':Hp),b6 H' r (n+1)->Kp [r] H H'->Q (.str x) H' :=
 propext ⟨fun⟨_,n,e,c⟩=>by cases e;exact⟨n,c⟩,fun⟨n,c⟩=>⟨_,n,rfl,c⟩⟩
inductive BO(d:Nat)(vs:List V)(H:Hp)(Q:VK)(E:XK):Prop
 | mk (r:Addr) (dp:Int) (n:Nat) (_:vs=[.ref r,.int dp]) (_:1<=dp) (_:dp<=d) (_:b6 H r n) (_:n+bd d<=900) (_:∀(v:V) (s:Say) (H':Hp),c0 H' v s->s.ok->(s.depth:Int)<=dp->b6 H' r (n+bd d)->Kp [r] H H'->Q v H'):BO d vs H Q E
inductive DE(vs:List V)(H:Hp)(Q:VK)(E:XK):Prop
 | mk (r:Addr) (n:Nat) (_:vs=[.ref r]) (_:b6 H r n) (_:n<=100) (_:∀(v:V) (m:Stm) (H':Hp),b9 H' v m->m.gd false/\m.CK=true->Kp [r] H H'->Q v H'):DE vs H Q E
def sst{a b:String}(h:a≠b):¬ ((Str.ofString a:Str)=Str.ofString b):=fun z=>h (by rwa [bD] at z)
def NU{S:List Addr}{p:Addr}{u:HO}(h:H p=none):Kp S H (Wk 3e2 p u):=fun b x e _=>by rw[aD (aF e h),aD (aF e h)];exact e
def OK6:List Str:=["code","at","mode","letters","awaited","outcome"]
inductive hZ(H:Hp):List V->List 0e0->Prop
 | nil:hZ H [] []
 | cons {a:Addr} {i:Int} {w:Wo} {ds:List V} {r:List 0e0}:H a=some 6e1->hZ H ds r->hZ H (.ref a::ds) ((i,w)::r)
def hZ.kt(h:hZ H ds r)(k:aE H H'):hZ H' ds r:=by
 induction h with
 | nil=>exact .nil
 | cons e _ ih=>exact .cons (k _ _ e) ih
def hZ.len(h:hZ H ds r):ds.length=r.length:=by
 induction h with
 | nil=>rfl
 | cons _ _ ih=>simp[ih]
def hZ.snoc{w:Wo}(h:hZ H ds r)(e:H a=some 6e1):hZ H (ds++[.ref a]) (r++[(i,w)]):=by
 induction h with
 | nil=>exact .cons e .nil
 | cons f _ ih=>exact .cons f ih
def hZ.at(h:hZ H ds r):∀ {j:Nat} {v:V},ds[j]?=some v->∃ a i w,v=.ref a/\r[j]?=some (i,w)/\H a=some 6e1:=by
 induction h with
 | nil=>intro j v e;simp at e
 | cons f _ ih =>
  intro j v e;cases j with
  | zero=>simp only[Ξ,Ο] at e;subst e;exact⟨_,_,_,rfl,rfl,f⟩
  | succ j=>simpa using ih 7e1
def hZ.pairs(h:hZ H ds r):tS H ds (iB r):=by
 refine⟨by rw[h.len];simp[iB],fun j v e1=>?_⟩;obtain⟨a,i,w,rfl,e2,e3⟩:=h.at e1;exact⟨a,.inl i,wv w,rfl,e3,by rw[iB,ϒ,e2];rfl⟩
structure cJ(H:Hp)(md nd od dd:Addr)(ot:Str->Option V)(S:Pu):Prop where
 hm:∃ kvs,H md=some (.dK kvs)/\A7 ((kvs.length<=50/\∀ k∈OK6,aW kvs 5e2=ot k)) (aW kvs (.inr "names")=some (.ref nd)) (aW kvs (.inr "arg")=some (wv S.ar)) (aW kvs (.inr "now")=some (.int S.nw)) (aW kvs 2e3=some 1e3) (aW kvs (.inr "open")=some (.ref od)) (aW kvs (.inr "done")=some (.ref dd))
 hn:H nd=some (.dK (fA S.nm))
 ho:H od=some (.lst (S.pend.map V.int))
 hd:∃ ds,H dd=some (.lst ds)/\hZ H ds S.ans
 n1:md≠nd
 n2:od≠dd
 asc:S.pend.Pairwise (· < ·)
 lt:∀ i∈S.pend,0<=i/\i < S.made
 uq:(S.ans.map (·.1)).Nodup
 dis:∀ p∈S.ans,p.1∉S.pend/\p.1 < S.made
def cJ.kp{md nd od:Addr}(M:cJ H md nd od dd ot S)(k:Kp [] H H'):cJ H' md nd od dd ot S:=by
 obtain⟨kvs,e,r⟩:=M.hm;obtain⟨ds,e2,r2⟩:=M.hd;exact {M with hm:=⟨kvs,k.at e,r⟩,hn:=k.at M.hn,ho:=k.at M.ho,hd:=⟨ds,k.at e2,r2.kt (aE.nil k)⟩}
theorem Ah:∀(more acc:List (Key×V)),(∀ kv∈more,aW acc kv.1=none)->(more.map (·.1)).Nodup->dR acc more=acc++more
 | [],acc,_,_=>by simp[dR]
 | kv::r,acc,h,nd=>by
  have e:aO acc kv.1 kv.2=acc++[kv]:=by
   have:=h kv 4e0;unfold aO;rw[gU,this];simp
  have:=Ah r (acc++[kv]) (fun x hx=>by
   rw[ϓ,Ϙ] at nd;rw[<- e,fK,if_neg (fun z=>nd.1 (by rw[<- z];exact List.mem_map_of_mem hx))];exact h x (by simp[hx])) (by rw[ϓ,Ϙ] at nd;exact nd.2)
  show dR (aO acc kv.1 kv.2) r=_;rw[e,this];simp
def Ij{l:List 0e0}(h:(l.map (·.1)).Nodup):dR [] (iB l)=iB l:=by
 rw[Ah _ _ (fun _ _=>yN)]
 ·rfl
 ·rw[iB,List.map_map];have:(l.map (·.1)).Nodup:=h
  induction l with
  | nil=>simp
  | cons x r ih =>
   rw[ϓ,Ϙ] at h ⊢;refine⟨fun z=>h.1 ?_,ih h.2 h.2⟩;obtain⟨y,hy,e⟩:=Β3.mp z;simp only[Function.comp_apply,Key.inl.injEq] at e;exact Β3.mpr ⟨y,hy,by simpa using e⟩
inductive uK(d:Nat)(vs:List V)(H:Hp)(Q:VK)(E:XK):Prop
 | mk (v:V) (md nd od dd:Addr) (ot:Str->Option V) (S:Pu) (s:Say) (_:vs=[v,.ref md]) (_:c0 H v s) (_:s.depth<=d) (_:s.ok) (_:cJ H md nd od dd ot S) (_:S.pl.Ok) (_:∀ H',Kp [] H H'->Q (wv 1e2) H'):uK d vs H Q E
def w_arg:S.worth .arg=S.ar:=rfl
def UQ{s:Say}:S.worth (.ans s)=fE S.ans 1e2:=rfl
def UW{s:Say}:S.worth (.neg s)=some (if num 1e2=0 then 1 else 0):=rfl
def UY{g:Sg}{a b:Say}:S.worth (.two g a b)=some (g.of (S.worth a) (S.worth b)):=rfl
def VS{w:Wo}{k:Int->Prop}{u:Tg k}:Ll (wv w) k u=k (num w):=by cases w<;>rfl
theorem Tz{a b:Wo}(q:Q (.bl (decide (a=b))) H):Mt (wv a) (wv b) H Q:=by
 cases a<;>cases b<;>(refine⟨rfl,?_⟩;simpa[wv] using q)
def Ig(w:Wo):fE [] w=none:=by cases w<;>rfl
theorem Ik{a b c:V}:dR [] [((.inr 2e0:Key),a),(.inr 1e0,b),(.inr 3e0,c)]=[(.inr 2e0,a),(.inr 1e0,b),(.inr 3e0,c)]:=by
 have n1:=sst (show "+"≠"-" by decide);have n2:=sst (show "+"≠"*" by decide);have n3:=sst (show "-"≠"*" by decide);simp[dR,aO,n1,n2,n3]
def UL{a b c:V}:aW [((.inr 2e0:Key),a),(.inr 1e0,b),(.inr 3e0,c)] (.inr 2e0)=some a:=cH rfl
theorem UO{a b c:V}:aW [((.inr 2e0:Key),a),(.inr 1e0,b),(.inr 3e0,c)] (.inr 1e0)=some b:=by
 rw[b7 (fun z=>sst (show "+"≠"-" by decide) 8e0),cH rfl]
theorem UN{a b c:V}:aW [((.inr 2e0:Key),a),(.inr 1e0,b),(.inr 3e0,c)] (.inr 3e0)=some c:=by
 rw[b7 (fun z=>sst (show "+"≠"*" by decide) 8e0),b7 (fun z=>sst (show "-"≠"*" by decide) 8e0),cH rfl]
theorem gE{a b:String}{x:V}{o:Option V}(e:aW kvs 6e0=o)(h:a≠b:=by decide):aW (aO kvs (.inr (Str.ofString b)) x) 6e0=o:=by
 rw[fK,if_neg (fun z=>sst h 8e0)];exact e
def BY{a:String}{x:V}:aW (aO kvs 6e0 x) 6e0=some x:=by rw[fK,if_pos rfl]
def m5{k:Key}{x:V}(h:aW kvs k=some y):(aO kvs k x).length=kvs.length:=by
 unfold aO;rw[gU,h];simp
def ok6{b:Str}{x:V}(hk:k∈OK6)(h:b∉OK6):aW (aO kvs (.inr b) x) 5e2=aW kvs 5e2:=by
 rw[fK,if_neg (fun z=>h (by cases z;exact hk))]
def made6:(Str.ofString "made")∉OK6:=by simp[OK6,bD]
theorem cJ.made{md nd od:Addr}(M:cJ H md nd od dd ot S)(e:H md=some (.dK kvs)):cJ (Wk H md (.dK (aO kvs 2e3 (.int ((S.made:Int)+1))))) md nd od dd ot {S with made:=S.made+1}:=by
 obtain⟨kv,e',l,v1,v2,v3,v4,v5,v6⟩:=M.hm;obtain⟨ds,e2,r2⟩:=M.hd;rw[e] at e';cases e';exact {M with
  hm:=⟨_,aA,⟨by rw[m5 v4];exact l.1,fun k hk=>by rw[ok6 hk made6];exact l.2 k hk⟩,gE v1,gE v2,gE v3,BY,gE v5,gE v6⟩
  hn:=by rw[aD M.n1.symm];exact M.hn
  ho:=cB e M.ho
  hd:=⟨ds,cB e e2,r2.kt (aE.cA e)⟩
  lt:=fun i hi=>(by have:=M.lt i hi;exact⟨this.1,by show i < ((S.made+1:Nat):Int);omega⟩)
  dis:=fun p hp=>(by have:=M.dis p hp;exact⟨this.1,by show p.1 < ((S.made+1:Nat):Int);omega⟩)}
def cJ.open{md nd od:Addr}(M:cJ H md nd od dd ot S)(a:pd.Pairwise (· < ·))(b:∀ i∈pd,0<=i/\i < S.made)(c:∀ p∈S.ans,p.1∉pd):cJ (Wk H od (.lst (pd.map V.int))) md nd od dd ot {S with pend:=pd}:=by
 obtain⟨kv,e',r⟩:=M.hm;obtain⟨ds,e2,r2⟩:=M.hd;exact {M with
  hm:=⟨kv,cB M.ho e',r⟩
  hn:=cB M.ho M.hn
  ho:=aA
  hd:=⟨ds,by rw[aD M.n2.symm];exact e2,r2.kt (aE.cA M.ho)⟩
  asc:=a
  lt:=b
  dis:=fun p hp=>⟨c p hp,(M.dis p hp).2⟩}
def cJ.name{H:Hp}{md nd od dd:Addr}{ot:Str->Option V}{S:Pu}(M:cJ H md nd od dd ot S)(x:Str)(w:Wo):cJ (Wk H nd (.dK (fA (bT S.nm x w)))) md nd od dd ot {S with nm:=bT S.nm x w}:=by
 obtain⟨kv,e',r⟩:=M.hm;obtain⟨ds,e2,r2⟩:=M.hd;exact {M with
  hm:=⟨kv,by rw[aD M.n1];exact e',r⟩
  hn:=aA
  ho:=cB M.hn M.ho
  hd:=⟨ds,cB M.hn e2,r2.kt (aE.cA M.hn)⟩}
def cJ.tk{md nd od:Addr}(M:cJ H md nd od dd ot S)(k:Kp D H H')(h:∀ a∈D,a=md\/a=nd\/a=od\/∃ xs,H a=some (.lst xs)):aE H H':=.of k fun a ha=>by
 obtain⟨kv,e',r⟩:=M.hm;rcases h a ha with rfl|rfl|rfl|⟨xs,e⟩
 ·exact⟨_,e',fun _ z=>by cases z⟩
 ·exact⟨_,M.hn,fun _ z=>by cases z⟩
 ·exact⟨_,M.ho,fun _ z=>by cases z⟩
 ·exact⟨_,e,fun _ z=>by cases z⟩
def cJ.other{md nd od:Addr}(M:cJ H md nd od dd ot S)(e:H op=some 1e1)(n1:op≠od)(n2:op≠dd):cJ (Wk H op (.lst vs)) md nd od dd ot S:=by
 obtain⟨kv,e',r⟩:=M.hm;obtain⟨ds,e2,r2⟩:=M.hd;exact {M with
  hm:=⟨kv,cB e e',r⟩
  hn:=cB e M.hn
  ho:=by rw[aD n1.symm];exact M.ho
  hd:=⟨ds,by rw[aD n2.symm];exact e2,r2.kt (aE.cA e)⟩}
def Qf(nw:Int)(w:Wo):(if nw+7e2 < 1000000000000 then nw+7e2 else 1000000000000)=mJ nw w:=by
 cases w with
 | none=>simp[num,mJ]
 | some z=>rfl
def cJ.nop{md nd od:Addr}(M:cJ H md nd od dd ot S)(e:H op=some 1e1)(n1:op≠od):op∉[md,nd,od]:=by
 obtain⟨kv,e',r⟩:=M.hm;simp only[Α,Γ,Τ,not_or];exact⟨cL e e' 8e2,cL e M.hn 8e2,n1⟩
inductive GY(vs:List V)(H:Hp)(Q:VK)(E:XK):Prop
 | mk (md nd od dd:Addr) (ot:Str->Option V) (S:Pu) (x:Str) (_:vs=[.ref md,.str x]) (_:cJ H md nd od dd ot S) (_:S.made<=100000) (_:S.pend.length<=100000) (_:S.nm.length<=100000) (_:∀ H',cJ H' md nd od dd ot (S.rP x)->Kp [md,nd,od] H H'->Q 1e3 H'):GY vs H Q E
inductive Pq(vs:List V)(H:Hp)(Q:VK)(E:XK):Prop
 | mk (md nd od dd op:Addr) (ot:Str->Option V) (v:V) (S:Pu) (m:Stm) (us:List V) (cs:Cmds) (_:vs=[.ref md,v,.ref op]) (_:cJ H md nd od dd ot S) (_:b9 H v m) (_:m.CK=true) (_:m.gd false) (_:S.pl.Ok) (_:S.made<=100000) (_:S.pend.length<=100000) (_:S.nm.length<=100000) (_:H op=some 1e1) (_:iF H us cs) (_:us.length<=100000) (_:op≠od) (_:op≠dd) (_:∀(H':Hp) (us':List V),cJ H' md nd od dd ot (bL S m).1->H' op=some (.lst us')->iF H' us' (cs++(bL S m).2)->Kp [md,nd,od,op] H H'->Q .Wl H'):Pq vs H Q E
theorem gJ:∀ {l:List Int} {i:Int} {k:Nat},l.Pairwise (· < ·)->Dn i l=some k->l.eraseIdx k=l.filter fun j=>decide (j≠i)
 | [],i,k,_,h=>by simp[Dn] at h
 | a::l,i,k,p,h=>by
  rw[List.pairwise_cons] at p;unfold Dn at h;rw[List.findIdx?_cons] at h;by_cases e:a=i
  ·subst e;simp only[decide_true,Γ5,Ο] at h;subst h;rw[List.eraseIdx_cons_zero,List.filter_cons_of_neg 4e0];exact(List.filter_eq_self.mpr fun j hj=>by have:=p.1 j hj;simp;omega).symm
  ·simp only[e,decide_false,ϗ,Β1,ϛ] at h;obtain⟨k',e',rfl⟩:=h;rw[List.eraseIdx_cons_succ,List.filter_cons_of_pos 7e1,gJ p.2 e']
def uH{l:List Int}(h:i∈l):∃ k,Dn i l=some k:=by
 cases e:Dn i l with
 | some k=>exact⟨k,rfl⟩
 | none =>
  unfold Dn at e;rw[List.findIdx?_eq_none_iff] at e;exact absurd (e i h) 4e0
theorem TV(w:Wo)(p:List Int):rG (wv w) (p.map V.int)=decide (∃ i,i∈p/\w=some i):=by
 cases w with
 | none=>simp[rG,wv,j7]
 | some i=>rw[show wv 2e1=.int i from rfl,lD];simp
def Pu.w(S:Pu)(st:Stk)(x:Slp):Pu:={S with stk:=st,sl:=x}
end
variable{w:Wo}
mutual
example:=[nZ _,(by cases e)]
def FZ(h:m.CK=true):(bL S m).1.sl=S.sl/\(bL S m).1.lt=S.lt/\(bL S m).1.ar=S.ar/\(bL S m).1.nw=S.nw:=by
 cases m with
 | drop s =>
  simp only[bL];split
  ·split
   ·exact⟨rfl,rfl,rfl,rfl⟩
   ·exact⟨rfl,rfl,rfl,rfl⟩
  ·exact⟨rfl,rfl,rfl,rfl⟩
 | wait _ _=>cases h
 | Wp _ _=>cases h
 | fin _=>cases h
 | WH _ _=>cases h
 | iff _ _ _=>cases h
 | _=>exact⟨rfl,rfl,rfl,rfl⟩
theorem Et(S:Pu)(m:Stm):∀ c∈(bL S m).2,c.length<=100000/\∀ v∈c,iL v:=by
 have at4:∀ {a b c d:V},iL a->iL b->iL c->iL d->∀ v∈[a,b,c,d],iL v:=fun {a b c d} h1 h2 h3 h4 v hv=>by
  simp only[Α,Γ,Τ] at hv;rcases hv with rfl|rfl|rfl|rfl<;>assumption
 have at3:∀ {a b c:V},iL a->iL b->iL c->∀ v∈[a,b,c],iL v:=fun {a b c} h1 h2 h3 v hv=>by
  simp only[Α,Γ,Τ] at hv;rcases hv with rfl|rfl|rfl<;>assumption
 have at2:∀ {a b:V},iL a->iL b->∀ v∈[a,b],iL v:=fun {a b} h1 h2 v hv=>by
  simp only[Α,Γ,Τ] at hv;rcases hv with rfl|rfl<;>assumption
 intro c hc;cases m with
 | order x y s=>rw[show c=_ by simpa[bL] using hc];exact⟨by simp,at4 trivial trivial trivial 0e0⟩
 | child x y s=>rw[show c=_ by simpa[bL] using hc];exact⟨by simp,at4 trivial trivial trivial 0e0⟩
 | Wy x s=>rw[show c=_ by simpa[bL] using hc];exact⟨by simp,at3 trivial trivial trivial⟩
 | send s k r=>rw[show c=_ by simpa[bL] using hc];exact⟨by simp,at4 trivial 0e0 trivial 0e0⟩
 | fin s=>rw[show c=_ by simpa[bL,Pu.ends] using hc];exact⟨by simp,at2 trivial 0e0⟩
 | drop s =>
  simp only[bL] at hc;split at hc
  ·split at hc
   ·rw[show c=_ by simpa using hc];exact⟨by simp,at2 trivial trivial⟩
   ·simp at hc
  ·simp at hc
 | Wp x k =>
  simp only[bL] at hc;split at hc<;>simp at hc
 | wait x ss =>
  simp only[bL] at hc;split at hc<;>simp at hc
 | set x s=>simp[bL] at hc
 | WH s b=>simp[bL] at hc
 | iff s b o=>simp[bL] at hc
theorem Gk(g:BZ wt b)(d:oX b<=20):Ww wt (eQ b) 0 :=
 {nm:=Ι _,md:=Ι _,pd:=Ι _,an:=Ι _,lt:=Ι _,lw:=fun k ws h=>(by cases h)
  pl:=⟨fun _=>kI,kI,fun w=>(by show eD (fE [] w);rw[Ig];exact kI)⟩
  nw:=⟨Int.le_refl _,by show(0:Int)<=1000000000000;decide⟩
  sk:=⟨⟨Α5 _,by simp⟩,fun x hx=>(by rw[show x=(0,b,0) by simpa[eQ] using hx];exact g),⟨by simpa using d,trivial⟩⟩
  sl:=⟨fun k e=>1e0,fun k e=>1e0⟩}
def cE{c:TT}{t u:TS}{D:Ends}(h:∀ R:St->Hp->Prop,(∀ σ' H',t D σ' H'->R σ' H')->DT c (fun _=>R) u D σ H):DT c t u D σ H:=h (t D) fun _ _ z=>z
def qZ{c:TT}{t u:TS}{D:Ends}(h:∀ R:St->Hp->Prop,(∀ σ' H',u D σ' H'->R σ' H')->DT c t (fun _=>R) D σ H):DT c t u D σ H:=h (u D) fun _ _ z=>z
def JH{c:TT}{tb:TS}{D:Ends}(h:∀ b:TS,(∀ D σ H,tb D σ H->b D σ H)->Fn c b D σ H):Fn c tb D σ H:=h tb fun _ _ _ z=>z
structure CE where
 m:Option Stm
 pt:List Int
 wh:Option Nat
end
variable{c xs:List CE}
mutual
noncomputable def Stm.sz:Stm->Nat
 | .WH _ b=>b8 b+2
 | .iff _ b o=>b8 b+b8 o+2
 | _=>1
noncomputable def b8:List Stm->Nat
 | []=>0
 | m::r=>m.sz+b8 r
end
mutual
noncomputable def Bd(pt:List Int)(p:Nat):Stm->List CE
 | .WH s b=>⟨some (.WH s b),pt,some (p+b8 b+2)⟩::(Ab (pt++[0]) 0 (p+1) b++[⟨none,pt,some p⟩])
 | .iff s b o=>⟨some (.iff s b o),pt,some (p+b8 b+2)⟩::(Ab (pt++[0]) 0 (p+1) b++(⟨none,pt,some (p+b8 b+b8 o+2)⟩::Ab (pt++[1]) 0 (p+b8 b+2) o))
 | m=>[⟨some m,pt,none⟩]
noncomputable def Ab(pt:List Int)(k p:Nat):List Stm->List CE
 | []=>[]
 | m::r=>Bd (pt++[(k:Int)]) p m++Ab pt (k+1) (p+m.sz) r
end
def TB(h:m.isB=false):Bd pt p m=[⟨some m,pt,none⟩]:=by
 cases m<;>first|(simp only[Bd];done)|cases h
def Ma(h:m.isB=false):m.sz=1:=by
 cases m<;>first|(simp only[Stm.sz];done)|cases h
mutual
theorem Gm(pt:List Int)(p:Nat):∀ m:Stm,(Bd pt p m).length=m.sz
 | .WH s b=>by simp only[Bd,Stm.sz,Η,Ν,ϑ,fO]
 | .iff s b o=>by simp only[Bd,Stm.sz,Η,Ν,fO];omega
 | .set _ _ | .order _ _ _ | .Wy _ _ | .child _ _ _ | .send _ _ _ | .drop _ | .wait _ _ | .Wp _ _ | .fin _=>by simp[Bd,Stm.sz]
theorem fO(pt:List Int)(k p:Nat):∀ b:List Stm,(Ab pt k p b).length=b8 b
 | []=>by simp[Ab,b8]
 | m::r=>by simp only[Ab,b8,Ν,Gm,fO]
end
mutual
example:=[((k2,b2,n2)::r),((0,b,n)::(k2,b2,n2)::r),pt++[(n2:Int)]++[0],b2.take n2,B+b8 3e0+1,(by simpa using h),p+b8 (b.take n),.iff s b o]
theorem fJ:∀ {b:List Stm} {n:Nat} {m:Stm},b[n]?=some m->b8 (b.take (n+1))=b8 (b.take n)+m.sz
 | [],n,m,h=>by simp at h
 | x::b,0,m,h=>by
  simp only[Ξ,Ο] at h;subst h;simp[b8]
 | x::b,n+1,m,h=>by
  have:=fJ (b:=b) (n:=n) (m:=m) 5e0;simp only[Ζ0,b8] at this ⊢;omega
def yT(c:List CE)(p:Nat)(xs:List CE):Prop:=∀ i x,xs[i]?=some x->c[p+i]?=some x
def yT.left{ys:List CE}(h:yT c p (xs++ys)):yT c p xs:=fun i x e=>h i x (by
 rw[Ε8 (Λ.mp e).1];exact e)
theorem yT.right{ys:List CE}(h:yT c p (xs++ys)):yT c (p+xs.length) ys:=fun i x e=>by
 rw[Nat.add_assoc];exact h (xs.length+i) x (by rw[List.getElem?_append_right (by omega)];simpa using e)
def yT.head{x:CE}(h:yT c p (x::xs)):c[p]?=some x:=h 0 x rfl
def yT.tail{x:CE}(h:yT c p (x::xs)):yT c (p+1) xs:=fun i y e=>by
 rw[Nat.add_assoc,Nat.add_comm 1 i];exact h (i+1) y (by simpa using e)
theorem yT.at{c:List CE}{pt:List Int}:∀ {b:List Stm} {k p n:Nat} {m:Stm},yT c p (Ab pt k p b)->b[n]?=some m->yT c 6e0 (Bd (pt++[((k+n:Nat):Int)]) 6e0 m)
 | [],_,_,_,_,_,h=>by simp at h
 | x::b,k,p,0,m,hi,h=>by
  simp only[Ξ,Ο] at h;subst h;simp only[Ab] at hi;simpa[b8] using hi.left
 | x::b,k,p,n+1,m,hi,h=>by
  simp only[Ab] at hi;have r:=hi.right;rw[Gm] at r;have:=yT.at (n:=n) (m:=m) r 5e0;rw[Ζ0,b8,<- Nat.add_assoc]
  rwa [show k+1+n=k+(n+1) by omega] at this
inductive Bs(P:List Stm):Stk->Nat->List Int->Prop
 | bot {n:Nat}:Bs P [(0,P,n)] 0 []
 | WH {n k2 n2 B:Nat} {s:Say} {b b2:List Stm} {r:Stk} {pt:List Int}:Bs P 0e0 B pt->b2[n2]?=some (.WH s b)->Bs P 1e0 4e0 2e0
 | if0 {n k2 n2 B:Nat} {s:Say} {b o b2:List Stm} {r:Stk} {pt:List Int}:Bs P 0e0 B pt->b2[n2]?=some 7e0->Bs P 1e0 4e0 2e0
 | if1 {n k2 n2 B:Nat} {s:Say} {b o b2:List Stm} {r:Stk} {pt:List Int}:Bs P 0e0 B pt->b2[n2]?=some 7e0->Bs P ((1,o,n)::(k2,b2,n2)::r) (B+b8 3e0+b8 b+2) (pt++[(n2:Int)]++[1])
def i5(P:List Stm):List CE:=Ab [] 0 0 P
theorem Bs.inC{B:Nat}(h:Bs P st B pt):∃ k b n r,st=(k,b,n)::r/\yT (i5 P) B (Ab pt 0 B b):=by
 induction h with
 | bot=>exact⟨_,_,_,_,rfl,fun i x e=>by rw[Γ1];exact e⟩
 | WH hb e ih =>
  obtain⟨_,_,_,_,z,ih⟩:=ih;cases z;have:=yT.at ih e;simp only[Bd,Γ1] at this;exact⟨_,_,_,_,rfl,this.tail.left⟩
 | if0 hb e ih =>
  obtain⟨_,_,_,_,z,ih⟩:=ih;cases z;have:=yT.at ih e;simp only[Bd,Γ1] at this;exact⟨_,_,_,_,rfl,this.tail.left⟩
 | if1 hb e ih =>
  obtain⟨_,_,_,_,z,ih⟩:=ih;cases z;have:=yT.at ih e;simp only[Bd,Γ1] at this;have:=this.tail.right.tail;rw[fO] at this;refine⟨_,_,_,_,rfl,?_⟩
  rwa [show ∀ x y:Nat,x+1+y+1=x+y+2 by omega] at this
def Bs.n{k n:Nat}{r:Stk}{B:Nat}(h:Bs P ((k,b,n)::r) B pt)(n':Nat):Bs P ((k,b,n')::r) B pt:=by
 cases h with
 | bot=>exact .bot
 | WH hb e=>exact .WH hb e
 | if0 hb e=>exact .if0 hb e
 | if1 hb e=>exact .if1 hb e
end
variable{n:Nat}
mutual
example:=[b.take n,.inr a,bO st,.iff s b o,p+b8 b+2,.lst xs,((k2,b2,n2+1)::r),((0,b,0)::st)]
def Ps(P:List Stm)(st:Stk)(p:Nat):Prop:=∃ B pt k b n r,st=(k,b,n)::r/\Bs P st B pt/\p=B+b8 0e0/\n<=b.length
def Mp(p:Nat):Stm->Option Nat
 | .WH _ b=>some 4e0
 | .iff _ b _=>some 4e0
 | _=>none
def Kf(pt:List Int)(p:Nat)(m:Stm):∃ r,Bd pt p m=⟨some m,pt,Mp p m⟩::r:=by
 cases m<;>exact⟨_,by simp only[Bd,Mp];rfl⟩
def Ps.ent(h:Ps P st p)(e:Wr st=some m):∃ pt,(i5 P)[p]?=some ⟨some m,pt,Mp p m⟩:=by
 obtain⟨B,pt,k,b,n,r,rfl,hB,rfl,hn⟩:=h;obtain⟨_,_,_,_,z,i⟩:=hB.inC;cases z;have:=yT.at i (show b[n]?=some m from e);obtain⟨q,hq⟩:=Kf (pt++[((0+n:Nat):Int)]) (B+b8 0e0) m;rw[hq] at this;exact⟨_,this.head⟩
theorem Ps.pass(h:Ps P st p)(e:Wr st=some m):Ps P (fW st) (p+m.sz):=by
 obtain⟨B,pt,k,b,n,r,rfl,hB,rfl,hn⟩:=h;have e':b[n]?=some m:=e;exact⟨B,pt,k,b,n+1,r,rfl,hB.n _,by rw[fJ e'];omega,(Λ.mp e').1⟩
theorem Ps.WH{P:List Stm}{st:Stk}{p:Nat}{s:Say}{b:List Stm}(h:Ps P st p)(e:Wr st=some (.WH s b)):Ps P 7e0 (p+1):=by
 obtain⟨B,pt,k,b',n,r,rfl,hB,rfl,hn⟩:=h;exact⟨_,_,_,_,_,_,rfl,.WH hB e,by simp[b8],by omega⟩
theorem Ps.if0{P:List Stm}{st:Stk}{p:Nat}{s:Say}{b o:List Stm}(h:Ps P st p)(e:Wr st=some 3e0):Ps P 7e0 (p+1):=by
 obtain⟨B,pt,k,b',n,r,rfl,hB,rfl,hn⟩:=h;exact⟨_,_,_,_,_,_,rfl,.if0 hB e,by simp[b8],by omega⟩
theorem Ps.if1{P:List Stm}{st:Stk}{p:Nat}{s:Say}{b o:List Stm}(h:Ps P st p)(e:Wr st=some 3e0):Ps P ((1,o,0)::st) 4e0:=by
 obtain⟨B,pt,k,b',n,r,rfl,hB,rfl,hn⟩:=h;exact⟨_,_,_,_,_,_,rfl,.if1 hB e,by simp[b8],by omega⟩
def u0{k:Nat}:bO [(k,b,n)]=[(k,b,n)]:=by simp[bO]
def JE{k:Nat}{x:Nat×List Stm×Nat}{r:Stk}(h:n≠b.length):bO ((k,b,n)::x::r)=(k,b,n)::x::r:=by
 obtain⟨a,c,d⟩:=x;rw[bO,if_neg h]
def u7{k k2 n2:Nat}{b2:List Stm}{r:Stk}:bO ((k,b,b.length)::(k2,b2,n2)::r)=bO ((k2,b2,oJ b2 n2)::r):=by
 rw[bO,if_pos rfl]
theorem Ps.turn:∀(l:Nat) (st:Stk) (p:Nat),st.length=l->Ps P st p -> (p=(i5 P).length/\Wr 2e0=none/\Ps P 2e0 p)\/(∃ m,Wr 2e0=some m/\Ps P 2e0 p)\/∃ WN p' pt,(i5 P)[p]?=some ⟨none,pt,some p'⟩/\Ps P WN p'/\bO WN=bO st/\WN.length < st.length:=by
 intro l
 induction l with
 | zero=>intro st p hl h;obtain⟨_,_,_,_,_,_,rfl,_⟩:=h;simp at hl
 | succ l ih =>
  intro st p hl h;have hh:=h;obtain⟨B,pt,k,b,n,r,rfl,hB,rfl,hn⟩:=h;by_cases e:n=b.length
  ·subst e;cases hB with
   | bot =>
    refine .inl ⟨?_,?_,?_⟩
    ·rw[i5,fO,Α3,Γ1]
    ·rw[u0];simp[Wr]
    ·rw[u0];exact hh
   | @WH _ k2 n2 B s _ b2 r pt hb e =>
    refine .inr (.inr ?_);obtain⟨_,_,_,_,z,i⟩:=hb.inC;cases z;have:=yT.at i e;simp only[Bd,Γ1] at this;have j:=this.tail.right.head;rw[fO] at j;rw[Α3];refine⟨_,_,_,j,⟨_,_,_,_,_,_,rfl,hb,rfl,Nat.le_of_lt (Λ.mp e).1⟩,?_,by simp⟩;rw[u7]
    congr 2
    simp[oJ,e,Stm.Bl]
   | @if0 _ k2 n2 B s _ o b2 r pt hb e =>
    refine .inr (.inr ?_);obtain⟨_,_,_,_,z,i⟩:=hb.inC;cases z;have:=yT.at i e;simp only[Bd,Γ1] at this;have j:=this.tail.right.head;rw[fO] at j;rw[Α3];refine⟨_,_,_,j,⟨_,_,_,_,n2+1,_,rfl,hb.n _,by rw[fJ e,Stm.sz];omega,(Λ.mp e).1⟩,?_,by simp⟩;rw[u7];simp[oJ,e,Stm.Bl]
   | @if1 _ k2 n2 B s b0 _ b2 r pt hb e =>
    have hp:Ps P 6e0 (B+b8 (b2.take n2)+b8 b0+2+b8 (b.take b.length)):=⟨_,_,_,_,n2+1,_,rfl,hb.n _,by rw[fJ e,Stm.sz,Α3];omega,(Λ.mp e).1⟩;have ec:bO ((1,b,b.length)::(k2,b2,n2)::r)=bO 6e0:=by
     rw[u7];simp[oJ,e,Stm.Bl]
    rw[ec];rcases ih _ _ (by simp only[Η] at hl ⊢;omega) hp with z|z|⟨WN,p',pt',h1,h2,h3,h4⟩
    ·exact .inl z
    ·exact .inr (.inl z)
    ·exact .inr (.inr ⟨WN,p',pt',h1,h2,h3,by simp only[Η] at h4 ⊢;omega⟩)
  ·have lt:n < b.length:=by omega
   have ec:bO ((k,b,n)::r)=(k,b,n)::r:=by
    cases r with
    | nil=>exact u0
    | cons x r=>exact JE e
   rw[ec];exact .inr (.inl ⟨b[n],by simp[Wr,lt],hh⟩)
def Stm.kw:Stm->Str
 | .set _ _=>"set" | .order _ _ _=>"order" | .Wy _ _=>"timer" | .child _ _ _=>"child" | .send _ _ _=>"send" | .drop _=>"drop" | .wait _ _=>"wait" | .Wp _ _=>"hear" | .fin _=>"end" | .WH _ _=>"while" | .iff _ _ _=>"if"
theorem b9.kw(h:b9 H v m):∃ a r,v=.ref a/\H a=some (.tup (.str m.kw::r)):=by
 cases h<;>exact⟨_,_,rfl,by assumption⟩
def b9.VN{s:Say}{o:List Stm}(h:b9 H (.ref a) 3e0):∃ v p q us,H a=some (.tup [.str "if",v,.ref p,.ref q])/\H q=some (.tup us)/\bP H us o:=by
 cases h with
 | iff e _ _ _ eq ho=>exact⟨_,_,_,_,e,eq,ho⟩
def Uc(h:m.isB=false):((m.kw=("while":Str))=False)/\((m.kw=("if":Str))=False)/\((m.kw=("jump":Str))=False):=by
 cases m<;>first|(simp[Stm.kw,bD];done)|cases h
theorem R7(m:Stm):1<=m.sz:=by cases m<;>simp only[Stm.sz]<;>omega
theorem lE:∀ b:List Stm,b.length<=b8 b
 | []=>by simp
 | m::r=>by have:=lE r;have:=R7 m;simp only[Η,b8];omega
theorem L9:∀(b:List Stm) (n:Nat),b8 0e0<=b8 b
 | [],_=>by simp
 | _::_,0=>by simp[b8]
 | m::r,n+1=>by have:=L9 r n;simp only[Ζ0,b8];omega
def kp1T{c:Addr}{xs:List V}(k:Kp [c] H H')(e:H c=some 5e0):aE H H':=fun a ys h=>k a _ h (by
 simp only[Α,Γ,Τ];intro z;subst z;rw[e] at h;cases h)
def free1{c p:Addr}(k:Kp [c] H G)(e:G c=some o)(h:G p=none):H p=none:=by
 cases z:H p with
 | none=>rfl
 | some u =>
  by_cases hc:p=c
  ·subst hc;rw[e] at h;cases h
  ·rw[k.Wx z hc] at h;cases h
def _root_.L2.Kp.cF{p:Addr}(k:Kp [] H H')(h:H' p=none):H p=none:=by
 cases e:H p with
 | none=>rfl
 | some o=>rw[k.at e] at h;cases h
def qC{l k:List Addr}(h1:l.Nodup)(h2:k.Nodup)(t:∀ a∈l,∃ o,G a=some o)(f:∀ a∈k,G a=none):(l++k).Nodup:=ϙ.mpr ⟨h1,h2,fun x hx y hy z=>by
 obtain⟨o,e⟩:=t x hx;rw[z,f y hy] at e;cases e⟩
def gD{l k:List Addr}(h1:∀ a∈l,∃ o,G a=some o)(h2:∀ a∈k,∃ o,G a=some o):∀ a∈l++k,∃ o,G a=some o:=fun a ha=>(Κ.mp ha).elim (h1 a) (h2 a)
def kT{p:Addr}(h:G p=some o):∀ a∈[p],∃ o,G a=some o:=fun a ha=>by rw[show a=p by simpa using ha];exact⟨o,h⟩
def Va:Option Nat->V
 | none=>.Wl
 | some n=>.int n
def DZ(H:Hp)(a:Addr)(e:CE):Prop:=∃ pa,H pa=some (.tup (e.pt.map V.int))/\match e.m with
 | some m=>∃ sv,b9 H sv m/\H a=some (.lst [.str m.kw,sv,.ref pa,Va e.wh])
 | none=>H a=some (.lst [.str "jump",.Wl,.ref pa,Va e.wh])
def DZ.there{e:CE}(h:DZ H a e):∃ xs,H a=some 5e0:=by
 obtain⟨pa,_,h⟩:=h;cases hm:e.m with
 | none=>rw[hm] at h;exact⟨_,h⟩
 | some m=>rw[hm] at h;obtain⟨_,_,h⟩:=h;exact⟨_,h⟩
def DZ.keep{e:CE}(h:DZ H a e)(k:∀ o,H a=some o->H' a=some o)(t:aE H H'):DZ H' a e:=by
 obtain⟨pa,hp,h⟩:=h;refine⟨pa,t _ _ hp,?_⟩;cases hm:e.m with
 | none=>rw[hm] at h;exact k _ h
 | some m=>rw[hm] at h;obtain⟨sv,hs,h⟩:=h;exact⟨sv,hs.kp t,k _ h⟩
inductive cY(H:Hp):List Addr->List CE->Prop
 | nil:cY H [] []
 | cons {a:Addr} {e:CE} {as:List Addr} {c:List CE}:DZ H a e->cY H as c->cY H (a::as) (e::c)
def cY.len{as:List Addr}(h:cY H as c):as.length=c.length:=by
 induction h with
 | nil=>rfl
 | cons _ _ ih=>simp[ih]
def cY.there{as:List Addr}(h:cY H as c):∀ a∈as,∃ xs,H a=some 5e0:=by
 induction h with
 | nil=>simp
 | cons e _ ih =>
  intro a ha;rcases Α.mp ha with rfl|ha
  ·exact e.there
  ·exact ih a ha
def cY.ex{as:List Addr}(h:cY H as c):∀ a∈as,∃ o,H a=some o:=fun a ha=>let ⟨_,e⟩:=h.there a ha;⟨_,e⟩
def cY.keep{as:List Addr}(h:cY H as c)(k:∀ a∈as,∀ o,H a=some o->H' a=some o)(t:aE H H'):cY H' as c:=by
 induction h with
 | nil=>exact .nil
 | cons e _ ih=>exact .cons (e.keep (k _ (by simp)) t) (ih fun a ha=>k a (by simp[ha]))
def cY.app{as bs:List Addr}{d:List CE}(h:cY H as c)(g:cY H bs d):cY H (as++bs) (c++d):=by
 induction h with
 | nil=>exact g
 | cons e _ ih=>exact .cons e ih
def cY.at{as:List Addr}(h:cY H as c):∀ {i:Nat} {e:CE},c[i]?=some e->∃ a,as[i]?=some a/\DZ H a e:=by
 induction h with
 | nil=>intro i e z;simp at z
 | cons f _ ih =>
  intro i e z;cases i with
  | zero=>simp only[Ξ,Ο] at z;subst z;exact⟨_,rfl,f⟩
  | succ i=>simpa using ih (by simpa using z)
theorem CA{pt:List Int}:∀ {b:List Stm} {k p n:Nat} {m:Stm},b[n]?=some m->Ab pt k p (b.take (n+1))=Ab pt k p 0e0++Bd (pt++[((k+n:Nat):Int)]) (p+b8 0e0) m
 | [],_,_,_,_,h=>by simp at h
 | x::b,k,p,0,m,h=>by
  simp only[Ξ,Ο] at h;subst h;simp[Ab,b8]
 | x::b,k,p,n+1,m,h=>by
  have:=CA (pt:=pt) (b:=b) (k:=k+1) (p:=p+x.sz) (n:=n) (m:=m) (by simpa using h);simp only[Ζ0,Ab,b8] at this ⊢;rw[this,List.append_assoc,show k+1+n=k+(n+1) by omega,Nat.add_assoc p]
theorem DV{b:Addr}{xs ys:List V}(ha:H a=some (.tup xs))(hb:H b=some (.tup ys))(l:xs.length+ys.length<=1000)(h:∀ p H',H' p=some (.tup (xs++ys))->Kp [] H H'->Q (.ref p) H'):uX (.ref a) (.ref b) H Q:=by
 unfold uX;rw[J9,ha,hb];refine⟨by rw[Ε0];omega,?_⟩;split
 ·next e=>subst e;exact h b H (by simpa using hb) Kp.refl
 ·split
  ·next e=>subst e;exact h a H (by simpa using ha) Kp.refl
  ·exact fun p hp=>h p _ aA (Kp.new hp)
inductive BP(d:Nat)(vs:List V)(H:Hp)(Q:VK)(E:XK):Prop
 | mk (bp pp cl:Addr) (us:List V) (b:List Stm) (pt:List Int) (as:List Addr) (_:vs=[.ref bp,.ref pp,.ref cl]) (_:H bp=some (.tup us)) (_:bP H us b) (_:oX b < d) (_:H pp=some (.tup (pt.map V.int))) (_:pt.length+2 * d<=1000) (_:H cl=some (.lst (as.map V.ref))) (_:as.length+b8 b<=100000) (_:∀(H':Hp) (new:List Addr),H' cl=some (.lst ((as++new).map V.ref))->cY H' new (Ab pt 0 as.length b)->(∀ a∈new,H a=none)->new.Nodup->Kp [cl] H H'->Q .Wl H'):BP d vs H Q E
def six6(h:k∈OK6):k≠("names":Str)/\k≠("arg":Str)/\k≠("now":Str)/\k≠("made":Str)/\k≠("open":Str)/\k≠("done":Str):=by
 simp only[OK6,Α,Γ,Τ] at h;rcases h with rfl|rfl|rfl|rfl|rfl|rfl<;>simp[bD]
def BX{a b:Str}{x:V}{o:Option V}(h:a≠b)(e:aW kvs 1e0=o):aW (aO kvs (.inr b) x) 1e0=o:=by
 rw[fK,if_neg (fun z=>h (Key.inr.inj z))];exact e
def UM{a:Str}{x:V}:aW (aO kvs 1e0 x) 1e0=some x:=by rw[fK,if_pos rfl]
end
section
variable{md nd od:Addr}
mutual
example:=[.dK kvs,.dK Zl,aO kvs (.inr "open") (.ref o2),aO kvs (.inr "now") (.int m),aO kvs (.inr "arg") (wv w),aO kvs (.inr k) v]
def cJ.AN(M:cJ H md nd od dd ot S)(e:H md=some 0e0)(Zl:List (Key×V)):Wk H md 1e0 nd=some (.dK (fA S.nm))/\Wk H md 1e0 od=some (.lst (S.pend.map V.int))/\∃ ds,Wk H md 1e0 dd=some (.lst ds)/\hZ (Wk H md 1e0) ds S.ans:=by
 obtain⟨ds,e2,r2⟩:=M.hd;exact⟨by rw[aD M.n1.symm];exact M.hn,cB e M.ho,ds,cB e e2,r2.kt (aE.cA e)⟩
def cJ.ot6(M:cJ H md nd od dd ot S)(e:H md=some 0e0)(hk:k∈OK6)(hy:ot k=some y)(v:V):cJ (Wk H md (.dK 5e0)) md nd od dd (fun j=>if j=k then some v else ot j) S:=by
 obtain⟨kv,e',l,v1,v2,v3,v4,v5,v6⟩:=M.hm;rw[e] at e';cases e';obtain⟨b1,b2,b3⟩:=M.AN e 5e0;obtain⟨n1,n2,n3,n4,n5,n6⟩:=six6 hk;exact {M with
  hm:=⟨_,aA,⟨by rw[m5 (by rw[l.2 k hk];exact hy)];exact l.1,fun j hj=>by
   rw[fK];by_cases h:j=k
   ·subst h;simp
   ·rw[if_neg (fun z=>h (Key.inr.inj z)),if_neg h];exact l.2 j hj⟩,BX n1.symm v1,BX n2.symm v2,BX n3.symm v3,BX n4.symm v4,BX n5.symm v5,BX n6.symm v6⟩
  hn:=b1
  ho:=b2
  hd:=b3}
def cJ.now(M:cJ H md nd od dd ot S)(e:H md=some 0e0)(m:Int):cJ (Wk H md (.dK 3e0)) md nd od dd ot {S with nw:=m}:=by
 obtain⟨kv,e',l,v1,v2,v3,v4,v5,v6⟩:=M.hm;rw[e] at e';cases e';obtain⟨b1,b2,b3⟩:=M.AN e 3e0;exact {M with
  hm:=⟨_,aA,⟨by rw[m5 v3];exact l.1,fun k hk=>by rw[BX (six6 hk).2.2.1 rfl];exact l.2 k hk⟩,gE v1,gE v2,BY,gE v4,gE v5,gE v6⟩
  hn:=b1
  ho:=b2
  hd:=b3}
def cJ.arg(M:cJ H md nd od dd ot S)(e:H md=some 0e0)(w:Wo):cJ (Wk H md (.dK 4e0)) md nd od dd ot {S with ar:=w}:=by
 obtain⟨kv,e',l,v1,v2,v3,v4,v5,v6⟩:=M.hm;rw[e] at e';cases e';obtain⟨b1,b2,b3⟩:=M.AN e 4e0;exact {M with
  hm:=⟨_,aA,⟨by rw[m5 v2];exact l.1,fun k hk=>by rw[BX (six6 hk).2.1 rfl];exact l.2 k hk⟩,gE v1,BY,gE v3,gE v4,gE v5,gE v6⟩
  hn:=b1
  ho:=b2
  hd:=b3}
def cJ.opn(M:cJ H md nd od dd ot S)(e:H md=some 0e0)(WU:H o2=some (.lst []))(n:o2≠dd):cJ (Wk H md (.dK 2e0)) md nd o2 dd ot {S with pend:=[]}:=by
 obtain⟨kv,e',l,v1,v2,v3,v4,v5,v6⟩:=M.hm;rw[e] at e';cases e';obtain⟨b1,b2,b3⟩:=M.AN e 2e0;exact {M with
  hm:=⟨_,aA,⟨by rw[m5 v5];exact l.1,fun k hk=>by rw[BX (six6 hk).2.2.2.2.1 rfl];exact l.2 k hk⟩,gE v1,gE v2,gE v3,gE v4,BY,gE v6⟩
  hn:=b1
  ho:=cB e WU
  hd:=b3
  n2:=n
  asc:=List.Pairwise.nil
  lt:=fun i hi=>(by simp at hi)
  dis:=fun p hp=>⟨by simp,(M.dis p hp).2⟩}
end
end
set_option genInjectivity false in
structure Fa where
 md:Addr
 nd:Addr
 od:Addr
 dd:Addr
 ld:Addr
 cl:Addr
 cs:List Addr
 las:List Addr
 nk:Nat
 aw:Addr
variable{A:Fa}
mutual
example:=[Str.ofString "names",Str.ofString "open",Str.ofString "mode",Str.ofString "made",Str.ofString "code",Str.ofString "now",Str.ofString "arg",Str.ofString "at"]
def Fa.mut(A:Fa):List Addr:=[A.md,A.nd,A.od,A.dd,A.ld]++A.las
def eI(H:Hp)(A:Fa)(ot:Str->Option V):Slp->Prop
 | .new=>ot "mode"=some (.str "new")
 | .Wl=>ot "mode"=some (.str "on")
 | .wait ts=>ot "mode"=some (.str "wait")/\ot "awaited"=some (.ref A.aw)/\H A.aw=some (.lst (ts.map V.int))/\A.aw∉A.mut
 | .Wp _=>ot "mode"=some (.str "hear")
 | .ended w=>ot "mode"=some (.str "ended")/\ot "outcome"=some (wv w)
 | .worn=>ot "mode"=some (.str "worn")
structure bU(P:List Stm)(H:Hp)(A:Fa)(S:Pu)(p:Nat):Prop where
 ex:∃ ot:Str->Option V,cJ H A.md A.nd A.od A.dd ot S/\A5 ((∀ k∈OK6,∃ v,ot k=some v)) (ot "code"=some (.ref A.cl)) (ot "at"=some (.int p)) (ot "letters"=some (.ref A.ld)) (eI H A ot S.sl)
 cl:H A.cl=some (.lst (A.cs.map V.ref))
 co:cY H A.cs (i5 P)
 lt:∃ kvs ml,H A.ld=some (.dK kvs)/\gG H kvs A.las ml/\((ml.map (·.1)).Nodup/\ml.length<=A.nk)/\∀ k,(aT ml k).getD []=(aT S.lt k).getD []
 ps:Ps P S.stk p
 n1:A.md≠A.ld
 n2:A.nd≠A.ld
 nl:A.las.Nodup
 s1:A.od≠A.cl/\A.od∉A.cs/\A.dd≠A.cl/\A.dd∉A.cs
 s2:∀ a∈A.las,a≠A.od/\a≠A.dd/\a≠A.cl/\a∉A.cs
inductive LX(vs:List V)(H:Hp)(Q:VK)(E:XK):Prop
 | mk (bp:Addr) (us:List V) (b:List Stm) (_:vs=[.ref bp]) (_:H bp=some (.tup us)) (_:bP H us b) (_:oX b < 9) (_:b8 b<=1000) (_:∀(A:Fa) (H':Hp),bU b H' A (eQ b) 0->(∀ a∈A.mut,H a=none)->A.nk=0->(∃ o,H' A.aw=some o)->Kp [] H H'->Q (.ref A.md) H'):LX vs H Q E
def sE{cl x:Addr}{cs:List Addr}(e:H cl=some o)(h:cY H cs c)(n:H x=none):x≠cl/\x∉cs:=by
 refine⟨fun z=>?_,fun z=>?_⟩
 ·rw[z,e] at n;cases n
 ·obtain⟨o,e⟩:=h.ex x z;rw[e] at n;cases n
theorem ps0(b:List Stm):Ps b (eQ b).stk 0:=⟨0,[],0,b,0,[],rfl,.bot,by simp[b8],by omega⟩
def eights{a b c d e f g h:V}:dR [] [((.inr 4e0:Key),a),(.inr 7e0,b),(.inr 2e0,c),(.inr 0e0,d),(.inr 6e0,e),(.inr 5e0,f),(.inr 3e0,g),(.inr 1e0,h)]=[((.inr 4e0:Key),a),(.inr 7e0,b),(.inr 2e0,c),(.inr 0e0,d),(.inr 6e0,e),(.inr 5e0,f),(.inr 3e0,g),(.inr 1e0,h)]:=by
 simp[dR,aO,bD]
end
section
variable{H'':Hp}{A' A'':Fa}{S':Pu}{p':Nat}
mutual
example:=[(by simp),(fun j=>if j=k then some v else ot j),(by intro z;cases z),.ref A.ld,.ref A.cl,.inl rfl,.int p',(b=A.cl\/b∈A.cs\/b=A.ld\/b∈A.las),Str.ofString a]
def bU.far(F:bU P H A S p){b:Addr}(hb:b=A.cl\/b∈A.cs\/b=A.ld\/b∈A.las):b≠A.md/\b≠A.nd/\b≠A.od/\b≠A.dd:=by
 obtain⟨ot,M,_⟩:=F.ex;obtain⟨kvs,em,_⟩:=M.hm;obtain⟨ds,ed,_⟩:=M.hd;obtain⟨lk,ml,el,hl,_⟩:=F.lt;have lst:∀ {xs:List V},H b=some (.lst xs)->b≠A.md/\b≠A.nd:=fun e=>⟨cL e em 2e0,cL e M.hn 2e0⟩;rcases hb with rfl|hb|rfl|hb
 ·exact⟨(lst F.cl).1,(lst F.cl).2,F.s1.1.symm,F.s1.2.2.1.symm⟩
 ·obtain⟨xs,e⟩:=F.co.there b hb;exact⟨(lst e).1,(lst e).2,fun z=>F.s1.2.1 (z▸hb),fun z=>F.s1.2.2.2 (z▸hb)⟩
 ·exact⟨F.n1.symm,F.n2.symm,cL el M.ho 2e0,cL el ed 2e0⟩
 ·obtain⟨xs,e⟩:=hl.ex b hb;exact⟨(lst e).1,(lst e).2,(F.s2 b hb).1,(F.s2 b hb).2.1⟩
def bU.asm(F:bU P H A S p)(M':cJ H' A.md A.nd o2 A.dd ot' S')(ZC:∀ k∈OK6,∃ v,ot' k=some v)(c1:ot' "code"=some 4e0)(c2:ot' "at"=some 6e0)(c3:ot' "letters"=some 3e0)(c4:eI H' {A with od:=o2} ot' S'.sl)(K:∀ b o,H b=some o->7e0->H' b=some o)(T:aE H H')(hl:S'.lt=S.lt)(hp:Ps P S'.stk p')(so:o2≠A.cl/\o2∉A.cs)(sl:∀ a∈A.las,a≠o2):bU P H' {A with od:=o2} S' p':=by
 obtain⟨lk,ml,el,h1,h0,h2⟩:=F.lt;exact⟨⟨ot',M',ZC,c1,c2,c3,c4⟩,K _ _ F.cl 5e0,F.co.keep (fun a ha o e=>K a o e (.inr (.inl ha))) T,⟨lk,ml,K _ _ el (.inr (.inr 5e0)),h1.keep (fun a ha o e=>K a o e (.inr (.inr (.inr ha)))),h0,fun k=>by rw[hl];exact h2 k⟩,hp,F.n1,F.n2,F.nl,⟨so.1,so.2,F.s1.2.2.1,F.s1.2.2.2⟩,fun a ha=>⟨sl a ha,(F.s2 a ha).2⟩⟩
def bU.pP(F:bU P H A S p)(M':cJ H' A.md A.nd A.od A.dd ot' S')(ZC:∀ k∈OK6,∃ v,ot' k=some v)(c1:ot' "code"=some 4e0)(c2:ot' "at"=some 6e0)(c3:ot' "letters"=some 3e0)(c4:eI H' A ot' S'.sl)(K:∀ b o,H b=some o->7e0->H' b=some o)(T:aE H H')(hl:S'.lt=S.lt)(hp:Ps P S'.stk p'):bU P H' A S' p' :=
 F.asm M' ZC c1 c2 c3 c4 K T hl hp ⟨F.s1.1,F.s1.2.1⟩ fun a ha=>(F.s2 a ha).1
def bU.PR(F:bU P H A S p){las:List Addr}{nk:Nat}(M':cJ H' A.md A.nd A.od A.dd ot' S')(ZC:∀ k∈OK6,∃ v,ot' k=some v)(c1:ot' "code"=some 4e0)(c2:ot' "at"=some 6e0)(c3:ot' "letters"=some 3e0)(c4:eI H' {A with las:=las,nk:=nk} ot' S'.sl)(K:∀ b o,H b=some o->(b=A.cl\/b∈A.cs)->H' b=some o)(T:aE H H')(hl:∃ kvs ml,H' A.ld=some (.dK kvs)/\gG H' kvs las ml/\((ml.map (·.1)).Nodup/\ml.length<=nk)/\∀ k,(aT ml k).getD []=(aT S'.lt k).getD [])(hp:Ps P S'.stk p')(nd:las.Nodup)(s2:∀ a∈las,a≠A.od/\a≠A.dd/\a≠A.cl/\a∉A.cs):bU P H' {A with las:=las,nk:=nk} S' p' :=
 ⟨⟨ot',M',ZC,c1,c2,c3,c4⟩,K _ _ F.cl 5e0,F.co.keep (fun a ha o e=>K a o e (.inr ha)) T,hl,hp,F.n1,F.n2,nd,F.s1,s2⟩
def eI.keep(h:eI H A ot s)(k:∀ b o,H b=some o->b∉A.mut->H' b=some o):eI H' A ot s:=by
 cases s with
 | wait ts=>obtain⟨h1,h2,h3,h4⟩:=h;exact⟨h1,h2,k _ _ h3 h4,h4⟩
 | _=>exact h
def bU.kp(F:bU P H A S p)(k:Kp [] H H'):bU P H' A S p:=by
 obtain⟨ot,M,os,c1,c2,c3,c4⟩:=F.ex;exact F.pP (M.kp k) os c1 c2 c3 (c4.keep fun _ _ e _=>k.at e) (fun _ _ e _=>k.at e) (aE.nil k) rfl F.ps
def bU.Uy(F:bU P H A S p)(n:S.sl=.Wl)(a:Addr):bU P H {A with aw:=a} S p:=by
 obtain⟨ot,M,os,c1,c2,c3,c4⟩:=F.ex;exact⟨⟨ot,M,os,c1,c2,c3,by rw[n] at c4 ⊢;exact c4⟩,F.cl,F.co,F.lt,F.ps,F.n1,F.n2,F.nl,F.s1,F.s2⟩
def gH(H:Hp)(A:Fa)(op:Addr)(cs:Cmds):Prop:=∃ us,H op=some (.lst us)/\iF H us cs/\op∉A.mut/\op≠A.cl/\op∉A.cs
def gH.kp(h:gH H A op cs)(k:Kp [] H H'):gH H' A op cs:=by
 obtain⟨us,e,c,r⟩:=h;exact⟨us,k.at e,c.kt (aE.nil k),r⟩
structure Fm(D:List Addr)(A A':Fa)(H H':Hp):Prop where
 kp:∀ b o,H b=some o->b∉A.mut->b∉D->H' b=some o
 st:∀ b o,H b=some o->∃ u,H' b=some u
 nw:∀ b∈A'.mut,b∈A.mut\/H b=none
 m1:A'.md=A.md/\A'.cl=A.cl/\A'.cs=A.cs
 nk:A'.nk=A.nk
 na:A'.aw=A.aw\/(H A'.aw=none/\∃ o,H' A'.aw=some o)
def Fm.refl:Fm D A A H H:=⟨fun _ _ e _ _=>e,fun _ o e=>⟨o,e⟩,fun _ h=>.inl h,⟨rfl,rfl,rfl⟩,rfl,.inl rfl⟩
def Fm.trans(x:Fm D A A' H H')(y:Fm D A' A'' H' H''):Fm D A A'' H H'':=by
 refine⟨fun b o e h1 h2=>y.kp b o (x.kp b o e h1 h2) (fun z=>?_) h2,fun b o e=>?_,fun b hb=>?_,⟨y.m1.1.trans x.m1.1,y.m1.2.1.trans x.m1.2.1,y.m1.2.2.trans x.m1.2.2⟩,y.nk.trans x.nk,?_⟩
 ·rcases x.nw b z with z|z
  ·exact h1 z
  ·rw[z] at e;cases e
 ·obtain⟨u,e'⟩:=x.st b o e;exact y.st b u e'
 ·rcases y.nw b hb with z|z
  ·exact x.nw b z
  ·refine .inr ?_;cases e:H b with
   | none=>rfl
   | some o =>
    obtain⟨u,e'⟩:=x.st b o e;rw[z] at e';cases e'
 ·rcases y.na with z|⟨z,zz⟩
  ·rw[z];rcases x.na with w|⟨w,o,e⟩
   ·exact .inl w
   ·exact .inr ⟨w,y.st _ o e⟩
  ·refine .inr ⟨?_,zz⟩;cases e:H A''.aw with
   | none=>rfl
   | some o =>
    obtain⟨u,e'⟩:=x.st _ o e;rw[z] at e';cases e'
def Fm.awN(x:Fm D A A H H')(h:H a=none)(e:H' a=some o):Fm D A {A with aw:=a} H H':=⟨x.kp,x.st,x.nw,x.m1,x.nk,.inr ⟨h,o,e⟩⟩
def Fm.of(k:Kp [] H H'):Fm D A A H H':=⟨fun _ _ e _ _=>k.at e,fun _ o e=>⟨o,k.at e⟩,fun _ h=>.inl h,⟨rfl,rfl,rfl⟩,rfl,.inl rfl⟩
def Fm.set{b:Addr}{o:HO}(h:b∈A.mut\/b∈D):Fm D A A H (Wk H b o):=by
 refine⟨fun c u e h1 h2=>by rw[aD (fun z=>by subst z;exact h.elim h1 h2)];exact e,fun c u e=>?_,fun _ h=>.inl h,⟨rfl,rfl,rfl⟩,rfl,.inl rfl⟩;by_cases z:c=b
 ·subst z;exact⟨_,aA⟩
 ·exact⟨u,by rw[aD z];exact e⟩
def Fm.ofK{E:List Addr}(k:Kp E H H')(h:∀ b∈E,(b∈A.mut\/b∈D)/\∃ u,H' b=some u):Fm D A A H H':=by
 refine⟨fun b o e h1 h2=>k b o e (fun z=>(h b z).1.elim h1 h2),fun b o e=>?_,fun _ h=>.inl h,⟨rfl,rfl,rfl⟩,rfl,.inl rfl⟩;by_cases z:b∈E
 ·exact(h b z).2
 ·exact⟨o,k b o e z⟩
def Fm.od(F:Fm D A A H H')(h:H o2=none):Fm D A {A with od:=o2} H H':=by
 refine⟨F.kp,F.st,fun b hb=>?_,⟨rfl,rfl,rfl⟩,rfl,.inl rfl⟩;simp only[Fa.mut,Κ,Α,Γ,Τ] at hb ⊢;rcases hb with(rfl|rfl|rfl|rfl|rfl)|hb
 ·exact .inl 0e0
 ·exact .inl 0e0
 ·exact .inr h
 ·exact .inl 0e0
 ·exact .inl 0e0
 ·exact .inl (.inr hb)
def bU.tup(F:bU P H A S p){b:Addr}(hb:b∈A.mut):∃ o,H b=some o/\∀ xs,o≠.tup xs:=by
 obtain⟨ot,M,_⟩:=F.ex;obtain⟨kvs,em,_⟩:=M.hm;obtain⟨ds,ed,_⟩:=M.hd;obtain⟨lk,ml,el,hl,_⟩:=F.lt;simp only[Fa.mut,Κ,Α,Γ,Τ] at hb;rcases hb with(rfl|rfl|rfl|rfl|rfl)|hb
 ·exact⟨_,em,fun _ z=>by cases z⟩
 ·exact⟨_,M.hn,fun _ z=>by cases z⟩
 ·exact⟨_,M.ho,fun _ z=>by cases z⟩
 ·exact⟨_,ed,fun _ z=>by cases z⟩
 ·exact⟨_,el,fun _ z=>by cases z⟩
 ·obtain⟨xs,e⟩:=hl.ex b hb;exact⟨_,e,fun _ z=>by cases z⟩
def bU.tkp(F:bU P H A S p)(f:Fm [op] A A' H H')(e:H op=some (.lst us)):aE H H':=fun a xs h=>f.kp a _ h (fun z=>by
 obtain⟨o,e',n⟩:=F.tup z;rw[h] at e';cases e';exact n xs rfl) (by
 simp only[Α,Γ,Τ];intro z;subst z;rw[h] at e;cases e)
def Uk(h:op∉A.mut)(n:op≠o2):op∉({A with od:=o2}:Fa).mut:=by
 simp only[Fa.mut,Κ,Α,Γ,Τ,not_or] at h ⊢;exact⟨⟨h.1.1,h.1.2.1,n,h.1.2.2.2⟩,h.2⟩
def Ph(h:∀ j∈OK6,∃ u,ot j=some u):∀ j∈OK6,∃ u,1e0 j=some u:=fun j hj=>by
 by_cases e:j=k
 ·exact⟨v,by simp[e]⟩
 ·obtain⟨u,z⟩:=h j hj;exact⟨u,by simp[e,z]⟩
def cJ.six{H0:Hp}{md nd od:Addr}(M:cJ H md nd od dd ot S)(e:H md=some (.dK kvs))(hk:k∈OK6)(hy:ot k=some y)(os:∀ j∈OK6,∃ u,ot j=some u)(KM:Kp D H0 H)(TM:aE H0 H)(hd:md∈D)(v:V){P:Hp->Prop}(h:∀ G,cJ G md nd od dd 1e0 S->(∀ j∈OK6,∃ u,1e0 j=some u)->Kp D H0 G->aE H0 G->(∀ {b:Addr} {o:HO},H b=some o->o≠.dK kvs->G b=some o)->aE H G->Kp [md] H G->P G):P (Wk H md (.dK (aO kvs (.inr k) v))) :=
 h _ (M.ot6 e hk hy v) (Ph os) (KM.trans (Kp.set hd)) (TM.trans (aE.cA e)) (fun e1 d=>cB e e1 d) (aE.cA e) (Kp.set 0e0)
def uJ(l:List (Key×V))(k:Key)(v:V):(aO l k v).length<=l.length+1:=by
 unfold aO;split<;>simp
theorem eC{a b:String}(h:a≠b:=by decide):(fun j=>if j=Str.ofString b then some v else ot j) 8e0=ot 8e0:=by
 simp only;rw[if_neg (sst h)]
def xI:1e0 k=some v:=by simp
end
end
def cJ.as{md nd od:Addr}{S':Pu}(M:cJ H md nd od dd ot S)(h:S'.ar=S.ar/\S'.nw=S.nw/\S'.nm=S.nm/\S'.made=S.made/\S'.pend=S.pend/\S'.ans=S.ans):cJ H md nd od dd ot S':=by
 obtain⟨h1,h2,h3,h4,h5,h6⟩:=h;exact⟨by rw[h1,h2,h4];exact M.hm,by rw[h3];exact M.hn,by rw[h5];exact M.ho,by rw[h6];exact M.hd,M.n1,M.n2,by rw[h5];exact M.asc,by rw[h5,h4];exact M.lt,by rw[h6];exact M.uq,by rw[h6,h5,h4];exact M.dis⟩
variable{as:List Addr}
mutual
example:=[(fun _ h=>nomatch h),(fun h=>nomatch h),Str×List Wo,Int×Wo,(by show S.sl.isN=true;rw[n];rfl),S.worth s,(by simp),.int (p':Int),.dK (aO kvs (.inr "at") 7e0),some i∈ws,s.wt ts hs,ans.take i,aE.cA M.hn,.wait x ss]
def bU.Gj(F:bU P H A S p)(s1:op∉A.mut)(s2:op≠A.cl)(s3:op∉A.cs){b:Addr}(hb:b=A.cl\/b∈A.cs\/b=A.ld\/b∈A.las):b≠A.md/\b≠A.nd/\b≠A.od/\b≠A.dd/\b≠op:=by
 obtain⟨a1,a2,a3,a4⟩:=F.far hb;refine⟨a1,a2,a3,a4,?_⟩;simp only[Fa.mut,Κ,Α,Γ,Τ,not_or] at s1;rcases hb with rfl|hb|rfl|hb
 ·exact s2.symm
 ·exact fun z=>s3 (z▸hb)
 ·exact fun z=>s1.1.2.2.2.2 z.symm
 ·exact fun z=>s1.2 (z▸hb)
def bU.new(F:bU P H A S p){x:Addr}(h:H x=none):(x≠A.cl/\x∉A.cs)/\(∀ a∈A.las,a≠x)/\x∉A.mut:=by
 obtain⟨lk,ml,el,hl,_⟩:=F.lt;refine⟨sE F.cl F.co h,fun a ha=>?_,fun z=>?_⟩
 ·obtain⟨xs,e⟩:=hl.ex a ha;exact aF e h
 ·obtain⟨o,e,_⟩:=F.tup z;rw[h] at e;cases e
def aZ:A.md∈A.mut/\A.nd∈A.mut/\A.od∈A.mut/\A.dd∈A.mut/\A.ld∈A.mut:=by simp[Fa.mut]
def PL(P:List Stm)(A:Fa)(op:Addr)(H:Hp)(Q:VK)(cs:Cmds)(z:Pu×Cmds):Prop:=∀(A':Fa) (p':Nat) (H':Hp),bU P H' A' z.1 p'->gH H' A' op (cs++z.2)->Fm [op] A A' H H'->Q .Wl H'
inductive LU(vs:List V)(H:Hp)(Q:VK)(E:XK):Prop
 | mk (P:List Stm) (A:Fa) (S:Pu) (p:Nat) (w:Wo) (op:Addr) (cs:Cmds) (_:vs=[.ref A.md,wv w,.ref op]) (_:bU P H A S p) (_:gH H A op cs) (_:cs.length<=1000) (_:PL P A op H Q cs (S.ends w)):LU vs H Q E
inductive Ff(g:Stm->Prop)(vs:List V)(H:Hp)(Q:VK)(E:XK):Prop
 | mk (P:List Stm) (A:Fa) (S:Pu) (p:Nat) (v:V) (m:Stm) (_:vs=[.ref A.md,v]) (_:bU P H A S p) (_:S.sl=.Wl) (_:b9 H v m) (_:g m) (_:m.gd true) (_:Wr S.stk=some m) (_:S.pl.Ok) (_:S.nm.length<=100000) (_:S.pend.length<=100000) (_:S.ans.length<=100000) (_:∀(A':Fa) (p':Nat) (H':Hp),bU P H' A' (one S m).1 p'->Fm [] A A' H H'->Q .Wl H'):Ff g vs H Q E
theorem Bj(i:Int):∀ ws:List Wo,rG (.int i) (ws.map wv)=decide 9e0
 | []=>by simp[rG]
 | none::r=>by
  have:=Bj i r;simp only[ϓ,Α,reduceCtorEq,false_or] at this ⊢;rw[<- this];simp[rG,wv,j7]
 | some j::r=>by
  have:=Bj i r;simp only[ϓ,Α,Ο] at this ⊢;rw[Δ7] at this ⊢;simp only[Δ9] at this ⊢;rw[<- this];simp only[rG,Δ8,Bool.or_eq_true];constructor
  ·rintro(h|h)
   ·exact .inl (by simp only[j7,wv,beq_iff_eq] at h;omega)
   ·exact .inr h
  ·rintro(h|h)
   ·exact .inl (by simp only[j7,wv,beq_iff_eq];omega)
   ·exact .inr h
def CB(ws:List Wo):(ws.map wv).all dN=true:=by simp[uL]
def Du{b:Addr}{xs:List V}(ha:H a=some (.lst xs))(hb:H b=some (.lst [])):oR K H 1 a b xs.isEmpty:=by
 cases xs with
 | nil =>
  have:=oR.list (K:=K) (H:=H) (n:=0) (e:=fun _=>true) (eU.of ha) (eU.of hb) rfl (fun j x y e _=>by simp at e);simpa using this
 | cons x xs=>exact oR.XD (eU.of ha) (eU.of hb) 6e0
theorem nS{pend:List Int}{j:Int}:∀ {ws:List Wo},j∈dE pend ws↔j∈pend/\some j∈ws
 | []=>by simp[dE]
 | none::r=>by simp only[dE,nS (ws:=r)];simp
 | some i::r=>by
  simp only[dE];split
  ·next h =>
   simp only[Α,nS (ws:=r),Ο];constructor
   ·rintro(rfl|h2)
    ·exact⟨h,.inl rfl⟩
    ·exact⟨h2.1,.inr h2.2⟩
   ·rintro⟨h1,rfl|h2⟩
    ·exact .inl rfl
    ·exact .inr ⟨h1,h2⟩
  ·next h =>
   simp only[Α,nS (ws:=r),Ο];constructor
   ·rintro⟨h1,h2⟩;exact⟨h1,.inr h2⟩
   ·rintro⟨h1,rfl|h2⟩
    ·exact absurd h1 h
    ·exact⟨h1,h2⟩
theorem mY(h:pend.Pairwise (· < ·))(ws:List Wo):pend.filter (fun i=>decide 9e0)=bH pend ws:=by
 refine nC ((List.perm_ext_iff_of_nodup ?_ ((fV pend ws).imp fun h=>by omega)).mpr fun j=>?_) ((h.filter _).imp fun h=>by omega) (fV pend ws)
 ·exact(h.filter _).imp fun h=>by omega
 ·rw[lJ,nS,Ϛ];simp
def cX(ans:List 3e0)(ws:List Wo):List Int:=(ans.filter fun p=>decide (some p.1∈ws)).map (·.1)
def m6(ans:List 3e0)(ws:List Wo):aX ans ws=(cX ans ws).head?:=by
 unfold aX cX
 induction ans with
 | nil=>rfl
 | cons x r ih =>
  by_cases h:some x.1∈ws
  ·simp[Γ9,h]
  ·simp only[Γ9,List.filter_cons,h,decide_false,ϗ,Β1];exact ih
theorem Fc{i:Nat}(e:ans[i]?=some (j,w)):(cX (ans.take (i+1)) ws).map V.int=if decide (some j∈ws)=true then (cX 1e1 ws).map V.int++[.int j] else (cX 1e1 ws).map V.int:=by
 unfold cX;rw[Β9,e,Β2,List.filter_append];by_cases h:some j∈ws<;>simp[h]
def zZ{l:List Int}{q:Int->Bool}{i:Nat}(e:l[i]?=some j):((l.take (i+1)).filter q).map V.int=if q j=true then ((l.take i).filter q).map V.int++[.int j] else ((l.take i).filter q).map V.int:=by
 rw[Β9,e,Β2,List.filter_append];by_cases h:q j=true<;>simp[h]
def LH(ans:List 3e0)(ws:List Wo):((cX ans ws).map V.int++[V.Wl])[0]?=some (wv (aX ans ws)):=by
 rw[m6];cases cX ans ws<;>rfl
def IL(ans:List 3e0)(ws:List Wo):(cX ans ws).length<=ans.length:=by
 rw[cX,Δ];exact Α2 _ _
theorem lH:∀(l:List 2e0) (k:Str) (r:List Wo) (j:Str),aT (dJ l k r) j=if j=k then (aT l k).map (fun _=>r) else aT l j
 | [],k,r,j=>by simp[aT,dJ]
 | p::l,k,r,j=>by
  have ih:=lH l k r j;by_cases h:p.1=k
  ·by_cases hj:j=k
   ·subst hj;simp[dJ,aT,h]
   ·have:¬ p.1=j:=fun z=>hj (z▸h);have hk:¬ k=j:=fun z=>hj z.symm;simp[dJ,aT,h,hj,hk]
  ·simp only[dJ,h,Β1,aT,ih];by_cases hj:j=k
   ·subst hj;simp[h]
   ·simp[hj]
theorem nX:∀(l:List 2e0) (k:Str) (r:List Wo),(dJ l k r).map (·.1)=l.map (·.1)
 | [],_,_=>rfl
 | p::l,k,r=>by
  simp only[dJ];split
  ·rfl
  ·simp[nX l k r]
def v9{l:List 2e0}{r':List Wo}(h:(aT l k).getD []=w::r')(r:List Wo)(j:Str):(aT (dJ l k r) j).getD []=if j=k then r else (aT l j).getD []:=by
 rw[lH];by_cases hj:j=k
 ·rw[if_pos hj,if_pos hj];cases e:aT l k with
  | none=>rw[e] at h;simp at h
  | some v=>rfl
 ·rw[if_neg hj,if_neg hj]
def Slp.md:Slp->Str
 | .new=>"new" | .Wl=>"on" | .wait _=>"wait" | .Wp _=>"hear" | .ended _=>"ended" | .worn=>"worn"
def eI.md(h:eI H A ot s):ot "mode"=some (.str s.md):=by
 cases s with
 | wait ts=>exact h.1
 | ended w=>exact h.1
 | _=>exact h
def Ug(s:Slp):(s.md=("on":Str))=(s.isN=true):=by
 cases s<;>simp[Slp.md,Slp.isN,bD]
def iC(h:Wr S.aY.stk=none)(n:Nat):cR n S=S.aY.ends none:=by
 cases n<;>simp only[cR,h]
def nQ(h:Wr S.aY.stk=some m):cR 0 S=S.aY.nF:=by simp only[cR,h]
def nP(h:Wr S.aY.stk=some m)(n:Nat):cR (n+1) S=if (one S.aY m).1.sl.isN=true then ((cR n (one S.aY m).1).1,(one S.aY m).2++(cR n (one S.aY m).1).2) else one S.aY m:=by simp only[cR,h]
def Km(h:bO st=bO S.stk)(n:Nat):cR n {S with stk:=st}=cR n S:=by
 have e:({S with stk:=st}:Pu).aY=S.aY:=by simp only[Pu.aY,h]
 cases n<;>simp only[cR,e]
def bU.stk(F:bU P H A S p)(h:Ps P st p):bU P H A {S with stk:=st} p:=by
 obtain⟨ot,M,os,c1,c2,c3,c4⟩:=F.ex;exact F.pP (M.as ⟨rfl,rfl,rfl,rfl,rfl,rfl⟩) os c1 c2 c3 c4 (fun _ _ e _=>e) (fun _ _ e=>e) rfl h
def bU.setAt(F:bU P H A S p)(e:H A.md=some (.dK kvs)){p':Nat}(h:Ps P st p'):bU P (Wk H A.md 8e0) A {S with stk:=st} p':=by
 obtain⟨ot,M,os,c1,c2,c3,c4⟩:=F.ex;refine F.pP ((M.ot6 e (k:="at") (by simp[OK6]) c2 7e0).as ⟨rfl,rfl,rfl,rfl,rfl,rfl⟩) (Ph os) ((eC).trans c1) xI ((eC).trans c3) ?_ (fun b o z hb=>by rw[aD (F.far hb).1];exact z) (aE.cA e) rfl h;have c5:=eI.keep (H':=Wk H A.md 8e0) c4 (fun b o z hb=>by rw[aD (fun y=>hb (by rw[y];exact aZ.1))];exact z);show eI _ _ _ S.sl;cases hs:S.sl with
 | wait ts=>rw[hs] at c5;obtain⟨a1,a2,a3,a4⟩:=c5;exact⟨(eC).trans a1,(eC).trans a2,a3,a4⟩
 | ended w=>rw[hs] at c5;exact⟨(eC).trans c5.1,(eC).trans c5.2⟩
 | _=>rw[hs] at c5;exact(eC).trans c5
def gH.md(h:gH H A op cs)(e:H A.md=some (.dK kvs))(Zl:List (Key×V)):gH (Wk H A.md (.dK Zl)) A op cs:=by
 obtain⟨us,eo,hC,s⟩:=h;exact⟨us,cB e eo,hC.kt (aE.cA e),s⟩
theorem OJ(h:Vc st):st.length<=21:=by
 cases st with
 | nil=>simp
 | cons x r=>obtain⟨a,b,c⟩:=x;have:=h.1;simp only[Η];omega
inductive Po(vs:List V)(H:Hp)(Q:VK)(E:XK):Prop
 | mk (P:List Stm) (A:Fa) (S:Pu) (p:Nat) (op:Addr) (N:Nat) (_:vs=[.ref A.md,.ref op]) (_:bU P H A S p) (_:gH H A op []) (_:Ww true {S with sl:=.Wl} N) (_:N<=90000) (_:PL P A op H Q [] (cR 300 {S with sl:=.Wl})):Po vs H Q E
def Ub(m:Stm):rG (.str m.kw) [.str "if",.str "while"]=m.isB:=by
 cases m<;>simp[rG,j7,Stm.kw,Stm.isB,bD]
def Ud(m:Stm):(m.kw=("wait":Str))=(∃ x ss,m=.wait x ss):=by
 cases m<;>simp[Stm.kw,bD]
def Ua(m:Stm):(m.kw=("hear":Str))=(∃ x k,m=.Wp x k):=by
 cases m<;>simp[Stm.kw,bD]
def T9(m:Stm):(m.kw=("end":Str))=(∃ s,m=.fin s):=by
 cases m<;>simp[Stm.kw,bD]
def Kk(h:m.CK=true)(g:m.gd true):m.gd false:=by
 cases m<;>first|exact g|cases h
def Fm.mono{E:List Addr}{A':Fa}(x:Fm D A A' H H')(h:∀ a∈D,a∈E:=by simp):Fm E A A' H H':=⟨fun b o e h1 h2=>x.kp b o e h1 fun z=>h2 (h b z),x.st,x.nw,x.m1,x.nk,x.na⟩
def Fm.to{A':Fa}(x:Fm D A A' H H')(n:Nat):Fm D {A with nk:=n} {A' with nk:=n} H H':=⟨x.kp,x.st,x.nw,x.m1,rfl,x.na⟩
def Fm.eta{A':Fa}(x:Fm D A A' H H'):Fm D A {A' with nk:=A.nk} H H':=⟨x.kp,x.st,x.nw,x.m1,rfl,x.na⟩
def gH.fm{A':Fa}(O:gH H A op cs)(F:bU P H A S p)(W:Fm [] A A' H H'):gH H' A' op cs:=by
 obtain⟨us,eo,hC,s1,s2,s3⟩:=O;have T:=F.tkp (W.mono (E:=[op]) 6e0) eo;refine⟨us,W.kp _ _ eo s1 6e0,hC.kt T,fun z=>?_,by rw[W.m1.2.1];exact s2,by rw[W.m1.2.2];exact s3⟩;rcases W.nw op z with z|z
 ·exact s1 z
 ·rw[z] at eo;cases eo
def Pf(h:(∃ x ss,m=.wait x ss)\/∃ x k,m=.Wp x k):(one S m).2=[]:=by
 rcases h with⟨x,ss,rfl⟩|⟨x,k,rfl⟩
 ·rw[gZ rfl];simp only[bL];split<;>rfl
 ·rw[gZ rfl];simp only[bL];split<;>rfl
def GG{s:Say}:one S (.fin s)=S.ends 5e0:=by
 rw[gZ rfl];rfl
def Lp(h:m.CK=true)(n:S.sl=.Wl):one S m=((bL S m).1.pass,(bL S m).2):=by
 have hb:m.isB=false:=by cases m<;>first|rfl|cases h
 rw[gZ hb,if_pos (by rw[(FZ h).1,n];rfl)]
def uC{s:Say}:one S (.WH s b)=(if num 5e0=0 then S.pass else S.enter 0 b,[]):=by rw[sU rfl];rfl
def uB{s:Say}{o:List Stm}:one S (.iff s b o)=(if num 5e0=0 then S.enter 1 o else S.enter 0 b,[]):=by rw[sU rfl];rfl
def Uq(h1:¬ m.isB=true)(h2:¬ ∃ x ss,m=.wait x ss)(h3:¬ ∃ x k,m=.Wp x k)(h4:¬ ∃ s,m=.fin s):m.CK=true:=by
 cases m<;>first|rfl|exact absurd rfl h1|exact absurd ⟨_,_,rfl⟩ h2|exact absurd ⟨_,_,rfl⟩ h3|exact absurd ⟨_,rfl⟩ h4
def bU.Uz(F:bU P H A S p)(x:Str)(w:Wo):bU P (Wk H A.nd (.dK (fA (bT S.nm x w)))) A {S with nm:=bT S.nm x w} p:=by
 obtain⟨ot,M,os,c1,c2,c3,c4⟩:=F.ex;exact F.pP (M.name x w) os c1 c2 c3 (c4.keep fun b o z hb=>by rw[aD (fun y=>hb (by rw[y];exact aZ.2.1))];exact z) (fun b o z hb=>by rw[aD (F.far hb).2.1];exact z) 2e1 rfl F.ps
def gH.nd(h:gH H A op cs)(F:bU P H A S p)(Zl:List (Key×V)):gH (Wk H A.nd (.dK Zl)) A op cs:=by
 obtain⟨us,eo,hC,s⟩:=h;obtain⟨ot,M,_⟩:=F.ex;exact⟨us,cB M.hn eo,hC.kt 2e1,s⟩
inductive LQ(vs:List V)(H:Hp)(Q:VK)(E:XK):Prop
 | mk (P:List Stm) (A:Fa) (S:Pu) (p:Nat) (w:Wo) (op:Addr) (N:Nat) (_:vs=[.ref A.md,wv w,.ref op]) (_:bU P H A S p) (_:gH H A op []) (_:Ww true S N) (_:N<=80000) (_:eD w) (_:((∃ k,S.sl=.Wp k)\/∃ ts,S.sl=.wait ts)) (_:PL P A op H Q [] (S.wake w)):LQ vs H Q E
def OP(F:Ww wt S N)(h:(∃ k,S.sl=.Wp k)\/∃ ts,S.sl=.wait ts):∃ x m,Wr S.stk=some m/\m.isB=false/\(∀(H:Hp) v,b9 H v m->∃ a kw xs,v=.ref a/\H a=some (.tup (.str kw::.str x::xs)))/\∀ w,S.wake w=cR 300 {S with nm:=bT S.nm x w,stk:=fW S.stk,sl:=.Wl}:=by
 rcases h with⟨k,hk⟩|⟨ts,hk⟩
 ·obtain⟨x,WD⟩:=F.sl.1 k hk;exact⟨x,_,WD,rfl,fun H v h=>by cases h with|Wp e=>exact⟨_,_,_,rfl,e⟩,fun w=>by simp only[Pu.wake,WD]⟩
 ·obtain⟨x,ss,WD⟩:=F.sl.2 ts hk;exact⟨x,_,WD,rfl,fun H v h=>by cases h with|wait e _ _=>exact⟨_,_,_,rfl,e⟩,fun w=>by simp only[Pu.wake,WD]⟩
structure Std(S:Pu):Prop where
 nw:S.sl=.new->S.nw=0/\S.pend=[]
 en:∀ w,S.sl=.ended w->S.pend=[]
 wo:S.sl=.worn->S.pend=[]
 he:∀ k,S.sl=.Wp k->(aT S.lt k).getD []=[]
 wt:∀ ts,S.sl=.wait ts->∃ x ss,Wr S.stk=some 3e1/\ts.length<=ss.length
theorem CJ(i:Int):∀ l:List Int,(wD i l).length<=l.length+1
 | []=>by simp[wD]
 | j::r=>by
  have:=CJ i r;simp only[wD];split
  ·simp
  ·split
   ·simp
   ·simp only[Η];omega
theorem pD(pend:List Int):∀ ws:List Wo,(bH pend ws).length<=ws.length
 | []=>by simp[bH]
 | none::r=>by have:=pD pend r;simp only[bH,Η];omega
 | some i::r=>by
  have:=pD pend r;have:=CJ i (bH pend r);simp only[bH,Η];split<;>omega
def OH(b:List Stm):Std (eQ b):=⟨fun _=>⟨rfl,rfl⟩,0e0,1e0,0e0,0e0⟩
def yE(S:Pu)(w:Wo):Std (S.ends w).1:=⟨1e0,fun _ _=>rfl,1e0,0e0,0e0⟩
def OI(st:Wr S.stk=some m)(n:S.sl=.Wl)(h:¬ (one S m).1.sl.isN=true):Std (one S m).1:=by
 by_cases hb:m.isB=true
 ·exfalso;apply h;rw[sU hb];cases m<;>first|(simp only[i9];split<;>(show S.sl.isN=true;rw[n];rfl))|cases hb
 ·rw[gZ (by simpa using hb)] at h ⊢;by_cases hd:(bL S m).1.sl.isN=true
  ·exfalso;apply h;rw[if_pos hd];exact hd
  ·rw[if_neg hd];cases m with
   | Wp x k =>
    simp only[bL] at hd ⊢;split
    ·next e=>rw[e] at hd;exact absurd 4e0 hd
    ·next e=>exact⟨1e0,0e0,1e0,fun k' hk=>by cases hk;exact e,0e0⟩
   | wait x ss =>
    simp only[bL] at hd ⊢;split
    ·exact⟨1e0,0e0,1e0,0e0,fun ts hts=>by
      cases hts;refine⟨x,ss,st,?_⟩;have:=pD S.pend (ss.map S.worth);rw[Δ] at this;exact this⟩
    ·next e=>rw[if_neg e] at hd;exact absurd 4e0 hd
   | fin s=>exact yE S _
   | drop s =>
    exfalso;apply hd;simp only[bL];split
    ·split<;>(show S.sl.isN=true;rw[n];rfl)
    ·show S.sl.isN=true;rw[n];rfl
   | WH _ _=>exact absurd rfl hb
   | iff _ _ _=>exact absurd rfl hb
   | _=>exact absurd 4e0 hd
theorem qA:∀(n:Nat) (S:Pu),S.sl=.Wl->Std (cR n S).1
 | 0,S,h=>by
  cases e:Wr S.aY.stk with
  | none=>rw[iC e];exact yE _ _
  | some m=>rw[nQ e];exact⟨1e0,0e0,fun _=>rfl,0e0,0e0⟩
 | n+1,S,h=>by
  cases e:Wr S.aY.stk with
  | none=>rw[iC e];exact yE _ _
  | some m =>
   rw[nP e];split
   ·next hn=>exact qA n _ (nR hn)
   ·next hn=>exact OI e h hn
def DS(h:Std S)(w:Wo):Std (S.wake w).1:=by
 unfold Pu.wake;split
 ·exact qA _ _ rfl
 ·exact qA _ _ rfl
 ·exact h
def wL(l:List 2e0)(k:Str)(w:Wo)(j:Str):(aT (iA l k w) j).getD []=if j=k then (aT l k).getD []++[w] else (aT l j).getD []:=by
 unfold iA;cases e:aT l k with
 | some ws =>
  simp only;rw[lH];by_cases hj:j=k
  ·rw[if_pos hj,if_pos hj,e];rfl
  ·rw[if_neg hj,if_neg hj]
 | none =>
  simp only;have app:∀(l:List 2e0),aT (l++[(k,[w])]) j=match aT l j with|some v=>some v|none=>if k=j then some [w] else none:=fun l=>by
   induction l with
   | nil=>simp[aT]
   | cons x r ih =>
    simp only[Ω,aT];split
    ·rfl
    ·exact ih
  rw[app];by_cases hj:j=k
  ·subst hj;rw[e];simp
  ·rw[if_neg hj];cases aT l j with
   | some v=>rfl
   | none=>simp only;rw[if_neg (fun z:k=j=>hj z.symm)]
def DR(h:S.sl=.wait ts)(w:∃ x ss,Wr S.stk=some 3e1/\ts.length<=ss.length):Std S:=by
 refine⟨fun z=>?_,fun _ z=>?_,fun z=>?_,fun _ z=>?_,fun j z=>?_⟩
 ·rw[h] at z;cases z
 ·rw[h] at z;cases z
 ·rw[h] at z;cases z
 ·rw[h] at z;cases z
 ·rw[h] at z;cases z;exact w
def yF(h:S.sl=.Wp k)(e:(aT S.lt k).getD []=[]):Std S:=by
 refine⟨fun z=>?_,fun _ z=>?_,fun z=>?_,fun j z=>?_,fun _ z=>?_⟩
 ·rw[h] at z;cases z
 ·rw[h] at z;cases z
 ·rw[h] at z;cases z
 ·rw[h] at z;cases z;exact e
 ·rw[h] at z;cases z
def L8(s:Std S)(n:S.sl.isN=false)(h:Hap):Std (S.take h).1:=by
 unfold Pu.take;split
 ·exact s
 ·next ho =>
  cases h with
  | WR m w=>exact qA _ _ rfl
  | don m i w =>
   cases hs:S.sl with
   | wait ts =>
    have sd:Std ((S.at' m).done i w):=DR (show((S.at' m).done i w).sl=.wait ts from hs) 0e1;simp only[Pu.dW,show(S.at' m).sl=S.sl from rfl,hs];split
    ·exact DS sd _
    ·exact sd
   | Wp k =>
    simp only[Pu.dW,show(S.at' m).sl=S.sl from rfl,hs];exact yF (show((S.at' m).done i w).sl=.Wp k from hs) (s.he k hs)
   | Wl=>rw[hs] at n;cases n
   | new=>simp[Pu.over,hs] at ho
   | ended w'=>simp[Pu.over,hs] at ho
   | worn=>simp[Pu.over,hs] at ho
  | ltr m k w =>
   cases hs:S.sl with
   | wait ts =>
    simp only[Pu.dG,show(S.at' m).sl=S.sl from rfl,hs];exact DR rfl 0e1
   | Wp k' =>
    simp only[Pu.dG,show(S.at' m).sl=S.sl from rfl,hs];split
    ·exact DS (yF (show(S.at' m).sl=.Wp k' from hs) (s.he k' hs)) _
    ·next hk =>
     refine yF rfl ?_;show(aT (iA S.lt k w) k').getD []=[];rw[wL,if_neg hk];exact s.he k' hs
   | Wl=>rw[hs] at n;cases n
   | new=>simp[Pu.over,hs] at ho
   | ended w'=>simp[Pu.over,hs] at ho
   | worn=>simp[Pu.over,hs] at ho
end
section
mutual
example:=[(c4.keep fun b o z hb=>by rw[aD (fun y=>hb (by rw[y];exact aZ.1))];exact z),(fun b o z hb=>by rw[aD (F.far hb).1];exact z),Wk H A.dd (.lst (ds++[.ref t]))]
def bU.LK(F:bU P H A S p)(e:H A.md=some (.dK kvs))(m:Int):bU P (Wk H A.md (.dK (aO kvs (.inr "now") (.int m)))) A {S with nw:=m} p:=by
 obtain⟨ot,M,os,c1,c2,c3,c4⟩:=F.ex;exact F.pP (M.now e m) os c1 c2 c3 0e0 1e0 (aE.cA e) rfl F.ps
def bU.Ux(F:bU P H A S p)(e:H A.md=some (.dK kvs))(w:Wo):bU P (Wk H A.md (.dK (aO kvs (.inr "arg") (wv w)))) A {S with ar:=w} p:=by
 obtain⟨ot,M,os,c1,c2,c3,c4⟩:=F.ex;exact F.pP (M.arg e w) os c1 c2 c3 0e0 1e0 (aE.cA e) rfl F.ps
def bU.UA(F:bU P H A S p)(a:pd.Pairwise (· < ·))(b:∀ i∈pd,0<=i/\i < S.made)(c:∀ q∈S.ans,q.1∉pd):bU P (Wk H A.od (.lst (pd.map V.int))) A {S with pend:=pd} p:=by
 obtain⟨ot,M,os,c1,c2,c3,c4⟩:=F.ex;exact F.pP (M.open a b c) os c1 c2 c3 (c4.keep fun b o z hb=>by rw[aD (fun y=>hb (by rw[y];exact aZ.2.2.1))];exact z) (fun b o z hb=>by rw[aD (F.far hb).2.2.1];exact z) (aE.cA M.ho) rfl F.ps
def bU.PM(F:bU P H A S p)(e:H A.dd=some (.lst ds)){t:Addr}(et:H t=some (.tup [.int i,wv w]))(n1:i∉S.ans.map (·.1))(n2:i∉S.pend)(n3:i < S.made):bU P 2e0 A {S with ans:=S.ans++[(i,w)]} p:=by
 obtain⟨ot,M,os,c1,c2,c3,c4⟩:=F.ex;obtain⟨kv,e',r⟩:=M.hm;obtain⟨ds',e2,r2⟩:=M.hd;rw[e] at e2;cases e2;have T:aE H 2e0:=aE.cA e;refine F.pP (ot':=ot) ⟨⟨kv,cB e e',r⟩,cB e M.hn,by rw[aD M.n2];exact M.ho,⟨_,aA,(r2.snoc et).kt T⟩,M.n1,M.n2,M.asc,M.lt,?_,?_⟩ os c1 c2 c3 (c4.keep fun b o z hb=>by rw[aD (fun y=>hb (by rw[y];exact aZ.2.2.2.1))];exact z) (fun b o z hb=>by rw[aD (F.far hb).2.2.2];exact z) T rfl F.ps
 ·show((S.ans++[(i,w)]).map (·.1)).Nodup;rw[Α7];exact ϙ.mpr ⟨M.uq,by simp,fun x hx y hy z=>n1 (by rw[show y=i by simpa using hy] at z;rw[<- z];exact hx)⟩
 ·intro q hq;rcases Κ.mp hq with hq|hq
  ·exact M.dis q hq
  ·rw[show q=(i,w) by simpa using hq];exact⟨n2,n3⟩
def gH.put{b:Addr}{u:HO}(h:gH H A op cs)(e:H b=some o)(hb:b∈A.mut)(d:∀ xs,o≠.tup xs):gH (Wk H b u) A op cs:=by
 obtain⟨us,eo,hC,s⟩:=h;exact⟨us,by rw[aD (fun z=>s.1 (by rw[z];exact hb))];exact eo,hC.kt (aE.cA e d),s⟩
end
end
mutual
example:=[(by omega),(fun _ z=>by cases z),N+302,(by simp[y]),(0<=h.m/\h.m<=1000000000000),.ref l2,.inr k,aO kvs (.inr k) (.ref l2),.lst (ws.map wv),.inr (.inl rfl),F2.wake e hi _,F1.wake e hw _,Str×List Wo,(by cases e)]
def gG.keys(h:gG H kvs as lt):kvs.map (·.1)=lt.map fun p=>Key.inr p.1:=by
 induction h with
 | nil=>rfl
 | cons _ _ ih=>simp[ih]
def gG.LI{l2:Addr}(e2:H l2=some 8e0)(h:gG H kvs as lt):(lt.map (·.1)).Nodup->as.Nodup->l2∉as->(∃ v,aT lt k=some v)->∃ WO,gG H (kvs.map fun kv=>if kv.1=.inr k then (kv.1,.ref l2) else kv) WO (dJ lt k ws)/\WO.Nodup/\(∀ a∈WO,a=l2\/a∈as)/\l2∈WO:=by
 induction h with
 | nil=>intro _ _ _ ⟨v,z⟩;simp[aT] at z
 | @cons a j vs kvs as lt e hr ih =>
  intro nk na n2 ⟨v,z⟩;rw[ϓ,Ϙ] at nk;rw[Ϙ] at na;by_cases hj:j=k
  ·subst hj;have same:(kvs.map fun kv=>if kv.1=.inr j then (kv.1,.ref l2) else kv)=kvs:=by
    conv=>rhs;rw[<- List.map_id kvs]
    refine List.map_congr_left fun kv hkv=>?_;have:kv.1∈kvs.map (·.1):=List.mem_map_of_mem hkv;rw[hr.keys] at this;obtain⟨q,hq,eq⟩:=Β3.mp this;have:¬ kv.1=.inr j:=fun y=>nk.1 (by
     rw[<- eq] at y;cases y;exact Β3.mpr ⟨q,hq,rfl⟩)
    simp[this]
   refine⟨l2::as,?_,Ϙ.mpr ⟨fun y=>n2 3e0,na.2⟩,fun b hb=>?_,by simp⟩
   ·rw[ϓ,same,dJ,if_pos rfl,if_pos rfl];exact .cons e2 hr
   ·rcases Α.mp hb with hb|hb
    ·exact .inl hb
    ·exact .inr (by simp[hb])
  ·obtain⟨WO,h1,h2,h3,h4⟩:=ih nk.2 na.2 (fun y=>n2 3e0) ⟨v,by simpa[aT,hj] using z⟩;refine⟨a::WO,?_,Ϙ.mpr ⟨fun y=>?_,h2⟩,fun b hb=>?_,by simp[h4]⟩
   ·rw[ϓ,if_neg (fun y=>hj (Key.inr.inj y)),dJ,if_neg hj];exact .cons e h1
   ·rcases h3 a y with y|y
    ·exact n2 3e0
    ·exact na.1 y
   ·rcases Α.mp hb with rfl|hb
    ·exact .inr (by simp)
    ·rcases h3 b hb with y|y
     ·exact .inl y
     ·exact .inr 3e0
def gG.VR{l2:Addr}(e2:H l2=some 8e0)(h:gG H kvs as lt)(nk:(lt.map (·.1)).Nodup)(na:as.Nodup)(n2:l2∉as):∃ WO lt',gG H 7e0 WO lt'/\(lt'.map (·.1)).Nodup/\WO.Nodup/\(∀ a∈WO,a=l2\/a∈as)/\l2∈WO/\aW 7e0 6e0=some 5e0/\∀ j,(aT lt' j).getD []=if j=k then ws else (aT lt j).getD []:=by
 rcases h.look k with⟨z1,z2⟩|⟨a,vs,z1,z2,z3,z4⟩
 ·refine⟨as++[l2],lt++[(k,ws)],?_,?_,ϙ.mpr ⟨na,by simp,fun x hx y hy z=>n2 (by rw[show y=l2 by simpa using hy] at z;rw[<- z];exact hx)⟩,fun a ha=>(Κ.mp ha).elim .inr (fun y=>.inl (by simpa using y)),by simp,UM,fun j=>?_⟩
  ·have:aO kvs 6e0 5e0=kvs++[(.inr k,.ref l2)]:=by
    unfold aO;rw[gU,z1];simp
   rw[this];exact h.snoc e2
  ·rw[Α7];refine ϙ.mpr ⟨nk,by simp,fun x hx y hy z=>?_⟩;obtain⟨q,hq,e⟩:=Β3.mp hx;have:∀(l:List 2e1),q∈l->aT l k≠none:=fun l=>by
    induction l with
    | nil=>simp
    | cons u r ih =>
     intro hu;rcases Α.mp hu with rfl|hu
     ·simp[aT,e,z,show y=k by simpa using hy]
     ·simp only[aT];split
      ·simp
      ·exact ih hu
   exact this lt hq z2
  ·have app:∀(l:List 2e1),aT (l++[(k,ws)]) j=match aT l j with|some v=>some v|none=>if k=j then some ws else none:=fun l=>by
    induction l with
    | nil=>simp[aT]
    | cons x r ih =>
     simp only[Ω,aT];split
     ·rfl
     ·exact ih
   rw[app];by_cases hj:j=k
   ·subst hj;rw[z2];simp
   ·rw[if_neg hj];cases aT lt j with
    | some v=>rfl
    | none=>simp only;rw[if_neg (fun z:k=j=>hj z.symm)]
 ·obtain⟨WO,h1,h2,h3,h4⟩:=h.LI e2 nk na n2 ⟨vs,z2⟩;refine⟨WO,dJ lt k ws,?_,by rw[nX];exact nk,h2,h3,h4,UM,fun j=>?_⟩
  ·have:aO kvs 6e0 5e0=kvs.map fun kv=>if kv.1=.inr k then (kv.1,.ref l2) else kv:=by
    unfold aO;rw[gU,z1];simp
   rw[this];exact h1
  ·rw[lH];by_cases hj:j=k
   ·rw[if_pos hj,if_pos hj,z2];rfl
   ·rw[if_neg hj,if_neg hj]
def Ou{k:Key}{x:V}:(aO kvs k x).length<=kvs.length+1:=by
 unfold aO;split<;>simp
def cJ.TY{md nd od:Addr}(M:cJ H md nd od dd ot S)(k:∀ a o,H a=some o->a=md\/a=nd\/a=od\/a=dd->H' a=some o)(T:aE H H'):cJ H' md nd od dd ot S:=by
 obtain⟨kvs,e,r⟩:=M.hm;obtain⟨ds,e2,r2⟩:=M.hd;exact {M with hm:=⟨kvs,k _ _ e (.inl rfl),r⟩,hn:=k _ _ M.hn 9e0,ho:=k _ _ M.ho (.inr 9e0),hd:=⟨ds,k _ _ e2 (.inr (.inr (.inr rfl))),r2.kt T⟩}
def eI.las(h:eI H A ot s){las:List Addr}(hl:∀ a∈las,a∈A.las\/H a=none)(k:∀ b o,H b=some o->b∉A.mut->H' b=some o):eI H' {A with las:=las,nk:=n} ot s:=by
 cases s with
 | wait ts =>
  obtain⟨h1,h2,h3,h4⟩:=h;refine⟨h1,h2,k _ _ h3 h4,fun z=>?_⟩;simp only[Fa.mut,Κ,Α,Γ,Τ,not_or] at h4 z;rcases z with z|z
  ·rcases z with z|z|z|z|z
   ·exact h4.1.1 z
   ·exact h4.1.2.1 z
   ·exact h4.1.2.2.1 z
   ·exact h4.1.2.2.2.1 z
   ·exact h4.1.2.2.2.2 z
  ·rcases hl A.aw z with z|z
   ·exact h4.2 z
   ·rw[z] at h3;cases h3
 | _=>exact h
def GA{las:List Addr}{b:Addr}(h:b∈({A with las:=las,nk:=n}:Fa).mut):b∈A.mut\/b∈las:=by
 simp only[Fa.mut,Κ,Α,Γ,Τ] at h ⊢;rcases h with h|h
 ·exact .inl (.inl h)
 ·exact .inr h
inductive DI(vs:List V)(H:Hp)(Q:VK)(E:XK):Prop
 | mk (P:List Stm) (A:Fa) (S:Pu) (p:Nat) (v:V) (h:Hap) (N:Nat) (_:vs=[.ref A.md,v]) (_:bU P H A S p) (_:mC H v h) (_:(4e0/\eD h.w)) (_:Ww true S N) (_:N<=70000) (_:S.sl.isN=false) (_:Std S) (_:A.nk<=1000) (_:∀(A':Fa) (p':Nat) (op:Addr) (us:List V) (H':Hp),bU P H' A' (S.take h).1 p'->H op=none->H' op=some (.lst us)->iF H' us (S.take h).2->op∉A'.mut->Fm [] A {A' with nk:=A.nk} H H'->A'.nk<=A.nk+1->Q (.ref op) H'):DI vs H Q E
def Slp.wh:Slp->Bool
 | .wait _=>true
 | .Wp _=>true
 | _=>false
def Ui(s:Slp):rG (.str s.md) [.str "wait",.str "hear"]=s.wh:=by
 rw[Δ7];cases s<;>simp[rG,j7,Slp.md,Slp.wh,bD]
def U7(h:s.wh=true):(∃ k,s=.Wp k)\/∃ ts,s=.wait ts:=by
 cases s<;>first|exact .inl ⟨_,rfl⟩|exact .inr ⟨_,rfl⟩|cases h
def EM(s:Slp):(s.md=("new":Str))=(s=.new):=by
 cases s<;>simp[Slp.md,bD]
def GC(s:Slp):(s.md=("hear":Str))=(∃ k,s=.Wp k):=by
 cases s<;>simp[Slp.md,bD]
inductive LW(vs:List V)(H:Hp)(Q:VK)(E:XK):Prop
 | mk (P:List Stm) (A:Fa) (S:Pu) (p r n N:Nat) (_:vs=[.ref r,.ref A.md]) (_:bU P H A S p) (_:Ww true S N) (_:N<=90000) (_:b6 H r n) (_:n<=200) (_:r∉A.mut) (_:r≠A.cl) (_:r∉A.cs) (_:∀(v:V) (h:Hap) (n':Nat) (H':Hp),mC H' v h->(4e0/\eD h.w)->b6 H' r n'->n'<=n+20->Kp [r] H H'->Q v H'):LW vs H Q E
def Ww.slp(F:Ww wt S N)(x:Slp)(h1:∀ k,x≠.Wp k)(h2:∀ ts,x≠.wait ts):Ww wt {S with sl:=x,pend:=[]} N :=
 ⟨F.nm,F.md,Α5 _,F.an,F.lt,F.lw,F.pl,F.nw,F.sk,fun k e=>absurd e (h1 k),fun ts e=>absurd e (h2 ts)⟩
theorem kD{wt:Bool}:∀(n:Nat) {S:Pu} {N:Nat},Ww wt S N->S.sl=.Wl->N+n<=900000->Ww wt (cR n S).1 (N+n)
 | 0,S,N,F,h,_=>by
  cases e:Wr S.aY.stk with
  | none=>rw[kH e];exact(F.aY h).slp _ 1e0 1e0
  | some m=>rw[rF e];exact(F.aY h).slp _ 1e0 1e0
 | n+1,S,N,F,h,hN=>by
  cases e:Wr S.aY.stk with
  | none=>rw[kH e];exact((F.aY h).slp _ 1e0 1e0).more 0e0
  | some m =>
   have F1:=(F.aY h).one e h 0e0;cases z:(one S.aY m).1.sl.isN with
   | true =>
    rw[Bh e z];exact(kD n F1 (nR z) 0e0).more 0e0
   | false=>rw[rE e z];exact F1.more 0e0
theorem Ww.OL(F:Ww wt S N){m:Int}(hm:0<=m/\m<=1000000000000)(hw:eD w)(hi:eD (some i))(hN:N<=800000):Ww wt (S.take (.don m i w)).1 2e0:=by
 have F1:=F.at' hm;have F2:=F1.done (i:=i) hw;unfold Pu.take;split
 ·exact F.more 0e0
 show Ww wt ((S.at' m).dW i w).1 2e0;unfold Pu.dW;split
 ·split
  ·unfold Pu.wake;split
   ·next e=>exact(kD 300 0e1 rfl 0e0).more 0e0
   ·next e=>exact(kD 300 0e1 rfl 0e0).more 0e0
   ·exact F2.more 0e0
  ·exact F2.more 0e0
 ·exact F2.more 0e0
theorem Ww.Hn(F:Ww wt S N)(h:Hap)(hm:0<=h.m/\h.m<=1000000000000)(hw:eD h.w)(hi:∀ i∈S.pend,eD (some i))(hN:N<=800000):Ww wt (S.take h).1 2e0:=by
 cases h with
 | WR m w =>
  unfold Pu.take;split
  ·exact F.more 0e0
  have F1:=F.at' hm;have F2:Ww wt {S with nw:=later S.nw m,ar:=w,sl:=.Wl} N:=⟨F1.nm,F1.md,F1.pd,F1.an,F1.lt,F1.lw,⟨F1.pl.nm,hw,F1.pl.an⟩,F1.nw,F1.sk,fun k e=>3e1,fun k e=>3e1⟩;exact(kD 300 F2 rfl 0e0).more 0e0
 | don m i w =>
  by_cases hp:i∈S.pend
  ·exact F.OL hm hw (hi i hp) hN
  ·have F1:=F.at' hm;unfold Pu.take;split
   ·exact F.more 0e0
   ·next ho =>
    have F2:=F1.done (i:=i) hw;show Ww wt ((S.at' m).dW i w).1 2e0;exfalso;refine ho ?_;unfold Pu.over;cases S.sl<;>simp[hp]
 | ltr m k w =>
  have F1:=F.at' hm;unfold Pu.take;split
  ·exact F.more 0e0
  show Ww wt ((S.at' m).dG k w).1 2e0;unfold Pu.dG;split
  ·split
   ·unfold Pu.wake;split
    ·next e=>exact(kD 300 1e1 rfl 0e0).more 0e0
    ·next e=>exact(kD 300 1e1 rfl 0e0).more 0e0
    ·exact F1.more 0e0
   ·exact(F1.iA hw).more 0e0
  ·exact(F1.iA hw).more 0e0
inductive eT(H:Hp):List V->List Hap->Prop
 | nil:eT H [] []
 | cons {v:V} {vs:List V} {h:Hap} {hs:List Hap}:mC H v h->eT H vs hs->eT H (v::vs) (h::hs)
def Ko{h:Hap}(x:mC H v h)(k:aE H H'):mC H' v h:=by
 obtain⟨a,e,f⟩:=x;exact⟨a,e,k _ _ f⟩
def eT.kt(h:eT H vs hs)(k:aE H H'):eT H' vs hs:=by
 induction h with
 | nil=>exact .nil
 | cons a _ ih=>exact .cons (Ko a k) ih
def eT.len(h:eT H vs hs):vs.length=hs.length:=by
 induction h with
 | nil=>rfl
 | cons _ _ ih=>simp[ih]
theorem pZ:∀(n:Nat) (S:Pu),(cR n S).1.sl.isN=false
 | 0,S=>by
  cases e:Wr S.aY.stk with
  | none=>rw[kH e];rfl
  | some m=>rw[rF e];rfl
 | n+1,S=>by
  cases e:Wr S.aY.stk with
  | none=>rw[kH e];rfl
  | some m =>
   cases z:(one S.aY m).1.sl.isN with
   | true=>rw[Bh e z];exact pZ n _
   | false=>rw[rE e z];exact z
def DY(h:S.sl.isN=false)(w:Wo):(S.wake w).1.sl.isN=false:=by
 unfold Pu.wake;split
 ·exact pZ _ _
 ·exact pZ _ _
 ·exact h
def yK(h:S.sl.isN=false)(x:Hap):(S.take x).1.sl.isN=false:=by
 unfold Pu.take;split
 ·exact h
 cases x with
 | WR m w=>exact pZ _ _
 | don m i w =>
  show((S.at' m).dW i w).1.sl.isN=false;unfold Pu.dW;split
  ·split
   ·exact DY (show((S.at' m).done i w).sl.isN=false from h) _
   ·exact h
  ·exact h
 | ltr m k w =>
  show((S.at' m).dG k w).1.sl.isN=false;unfold Pu.dG;split
  ·split
   ·exact DY (show(S.at' m).sl.isN=false from h) _
   ·exact h
  ·exact h
def takes:Pu->List Hap->Pu×List Cmds
 | S,[]=>(S,[])
 | S,h::r=>((takes (S.take h).1 r).1,(S.take h).2::(takes (S.take h).1 r).2)
theorem pH(h:Hap):∀(l:List Hap) (S:Pu),takes S (l++[h])=(((takes S l).1.take h).1,(takes S l).2++[((takes S l).1.take h).2])
 | [],S=>by simp[takes]
 | x::l,S=>by
  have:=pH h l (S.take x).1;simp only[Ω,takes,this]
def eT.gI(h:eT H vs hs):∀ {i:Nat} {v:V},vs[i]?=some v->∃ x,hs[i]?=some x/\mC H v x:=by
 induction h with
 | nil=>intro i v e;simp at e
 | cons a _ ih =>
  intro i v e;cases i with
  | zero=>simp only[Ξ,Ο] at e;subst e;exact⟨_,rfl,a⟩
  | succ i=>exact ih (by simpa using e)
def eT.snoc{h:Hap}(x:eT H vs hs)(a:mC H v h):eT H (vs++[v]) (hs++[h]):=by
 induction x with
 | nil=>exact .cons a .nil
 | cons b _ ih=>exact .cons b ih
def bU.oth(F:bU P H A S p)(e:H op=some (.lst us))(s1:op∉A.mut)(s2:op≠A.cl)(s3:op∉A.cs)(hw:∀ ts:List Int,S.sl=.wait ts->us≠ts.map V.int):bU P (Wk H op (.lst vs)) A S p:=by
 obtain⟨ot,M,os,c1,c2,c3,c4⟩:=F.ex;refine F.pP (M.other e (fun z=>s1 (by rw[z];exact aZ.2.2.1)) (fun z=>s1 (by rw[z];exact aZ.2.2.2.1))) os c1 c2 c3 ?_ (fun b o z hb=>by rw[aD (F.Gj s1 s2 s3 hb).2.2.2.2];exact z) (aE.cA e) rfl F.ps;cases hs:S.sl with
 | wait ts =>
  rw[hs] at c4;obtain⟨h1,h2,h3,h4⟩:=c4;refine⟨h1,h2,?_,h4⟩;rw[aD (fun z=>by
   rw[z,e] at h3;cases h3;exact hw ts hs rfl)]
  exact h3
 | _=>rw[hs] at c4;exact c4
def Lg{hv:List V}(h:eT H hv hs)(n:hs≠[])(ts:List Int):hv≠ts.map V.int:=by
 cases h with
 | nil=>exact absurd rfl n
 | cons a _ =>
  obtain⟨x,rfl,_⟩:=a;cases ts<;>simp
def hap1(h:Hap):h.vs[1]?=some (.int h.m):=by cases h<;>rfl
inductive L4(vs:List V)(H:Hp)(Q:VK)(E:XK):Prop
 | mk (bp cc:Addr) (us:List V) (b:List Stm) (ms:List Int) (_:vs=[.ref bp,.ref cc]) (_:H bp=some (.tup us)) (_:bP H us b) (_:BZ true b) (_:oX b < 9) (_:b8 b<=1000) (_:H cc=some (.lst (ms.map V.int))) (_:ms.length<=63) (_:∀(rl:Addr) (hv:List V) (hs:List Hap) (H':Hp),H' rl=some (.lst hv)->eT H' hv hs->(∀ h∈hs,4e0/\eD h.w)->hs.length<=63->Kp [] H H'->Q (.ref rl) H'):L4 vs H Q E
def fT.GV{s:Say}(h:fT H vs ss)(a:c0 H v s):fT H (vs++[v]) (ss++[s]):=by
 induction ss generalizing vs with
 | nil=>cases h;exact .cons a .nil
 | cons x r ih=>cases h with|cons b c=>exact .cons b (ih c)
inductive L5(vs:List V)(H:Hp)(Q:VK)(E:XK):Prop
 | mk (r:Addr) (n:Nat) (_:vs=[.ref r]) (_:b6 H r n) (_:n<=20) (_:∀(v:V) (m:Stm) (H':Hp),b9 H' v m->m.gd true->m.isB=false->Kp [r] H H'->Q v H'):L5 vs H Q E
def NK(h:m.CK=true)(g:m.gd false):m.gd true:=by
 cases m<;>first|exact g|cases h
def Up(h:m.CK=true):m.isB=false:=by cases m<;>first|rfl|cases h
structure Fr where
 hd:Option (Bool×Say)
 b1:List Stm
 b2:Option (List Stm)
end
variable{f:Fr}
structure FC where
 fa:Addr
 f1:Addr
 f2:Option Addr
variable{x:FC×Fr}{I L:List (FC×Fr)}
mutual
example:=[(by show ¬ S.sl=_;rw[n];intro z;cases z),fG c ol,(by simp),FC×Fr,(by simp[z]),I++[x],f.b2.getD [],.lst us,(Wk H fl (.lst (I.map fun x=>.ref x.1.fa))),(I++[(x.1,x.2.add (eP y.2 i s))]),eP y.2 i s,(fun _ h=>nomatch h),x.2.b2.getD [],(by simp[dN,j7]),(by simp[hy]),I++[x]++[y],.tup xs,j∈ts,.ref p,.int z,(Wk H fl (.lst ((L++[((⟨fa,f1,none⟩:FC),(⟨h,[],none⟩:Fr))]).map fun x=>.ref x.1.fa))),(Wk H x.1.fa (.lst [hv,.ref x.1.f1,.ref a])),((I++[x]).map fun x=>V.ref x.1.fa),.lst (us++[v]),Wk H x.1.cur 3e2,.lst (ns.map V.int),(by simp[Slp.md,bD]),(by simpa using hb),(by simp[FC.cells]),(.inr ⟨ts,e⟩),(.inl ⟨k',e⟩),Str.ofString j,(fun _=>true),.str "wait",.ref x.1.fa,.inr "over",.inr "open",.inr "made",.wait x ss,.inr "now",.don m i w,.str s.md]
def FC.cells(c:FC):List Addr:=c.fa::c.f1::c.f2.toList
def FC.cur(c:FC):Addr:=c.f2.getD c.f1
def rv:Option Addr->V
 | none=>.Wl
 | some a=>.ref a
def Je(H:Hp)(v:V):Option (Bool×Say)->Prop
 | none=>v=.Wl
 | some (i,s)=>∃ a sv,v=.ref a/\H a=some (.tup [.str (if i=true then "if" else "while"),sv])/\c0 H sv s
def B2At(H:Hp):Option Addr->Option (List Stm)->Prop
 | none,none=>True
 | some a,some b=>∃ us,H a=some 7e0/\bP H us b
 | _,_=>False
def qW(H:Hp)(c:FC)(f:Fr):Prop:=∃ hv XX,H c.fa=some (.lst [hv,.ref c.f1,rv c.f2])/\Je H hv f.hd/\H c.f1=some (.lst XX)/\bP H XX f.b1/\B2At H c.f2 f.b2
def Je.kt(x:Je H v h)(t:aE H H'):Je H' v h:=by
 cases h with
 | none=>exact x
 | some p=>obtain⟨i,s⟩:=p;obtain⟨a,sv,e,e1,e2⟩:=x;exact⟨a,sv,e,t _ _ e1,e2.kp t⟩
def B2At.keep{o:Option Addr}{b:Option (List Stm)}(x:B2At H o b)(k:∀ a∈o.toList,∀ u,H a=some u->H' a=some u)(t:aE H H'):B2At H' o b:=by
 cases o with
 | none=>cases b<;>exact x
 | some a =>
  cases b with
  | none=>exact x
  | some b=>obtain⟨us,e,h⟩:=x;exact⟨us,k a 2e0 _ e,h.kp t⟩
def qW.keep{c:FC}(h:qW H c f)(k:∀ a∈c.cells,∀ o,H a=some o->H' a=some o)(t:aE H H'):qW H' c f:=by
 obtain⟨hv,XX,e1,e2,e3,e4,e5⟩:=h;exact⟨hv,XX,k _ 8e2 _ e1,e2.kt t,k _ 8e2 _ e3,e4.kp t,e5.keep (fun a ha=>k a (by simp[FC.cells] at ha ⊢;exact .inr (.inr ha))) t⟩
def Fr.add(f:Fr)(m:Stm):Fr:=match f.b2 with
 | none=>{f with b1:=f.b1++[m]}
 | some b=>{f with b2:=some (b++[m])}
def bP.GV{ss:List Stm}{s:Stm}(h:bP H vs ss)(a:b9 H v s):bP H (vs++[v]) (ss++[s]):=by
 induction ss generalizing vs with
 | nil=>cases h;exact .cons a .nil
 | cons x r ih=>cases h with|cons b c=>exact .cons b (ih c)
def qW.add{c:FC}(h:qW H c f)(nd:c.cells.Nodup)(hm:b9 H v m):∃ us b,H c.cur=some 7e0/\bP H us b/\(b=f.b1\/f.b2=some b)/\qW (Wk H c.cur 3e2) c (f.add m):=by
 obtain⟨hv,XX,e1,e2,e3,e4,e5⟩:=h;obtain⟨fa,f1,f2⟩:=c;obtain⟨hd,b1,b2⟩:=f;cases f2 with
 | none =>
  cases b2 with
  | some b=>exact e5.elim
  | none =>
   have n1:fa≠f1:=by simp[FC.cells] at nd;exact nd
   have t:aE H (Wk H f1 (.lst (XX++[v]))):=aE.cA e3;exact⟨XX,b1,e3,e4,.inl rfl,hv,XX++[v],(by show Wk H f1 _ fa=_;rw[aD n1];exact e1),e2.kt t,aA,(e4.kp t).GV (hm.kp t),trivial⟩
 | some a =>
  cases b2 with
  | none=>exact e5.elim
  | some b =>
   obtain⟨Yg,e6,e7⟩:=e5;have n1:fa≠a/\f1≠a:=by simp[FC.cells] at nd;exact⟨nd.1.2,nd.2⟩
   have t:aE H (Wk H a (.lst (Yg++[v]))):=aE.cA e6;exact⟨Yg,b,e6,e7,.inr rfl,hv,XX,(by show Wk H a _ fa=_;rw[aD n1.1];exact e1),e2.kt t,(by show Wk H a _ f1=_;rw[aD n1.2];exact e3),e4.kp t,Yg++[v],aA,(e7.kp t).GV (hm.kp t)⟩
def dI(L:List 3e0):List Addr:=L.flatMap fun x=>x.1.cells
structure hW(H:Hp)(fl:Addr)(L:List 3e0):Prop where
 e:H fl=some (.lst (L.map fun x=>.ref x.1.fa))
 fr:∀ x∈L,qW H x.1 x.2
 nd:(fl::dI L).Nodup
def bF(L M:List 3e0):dI (L++M)=dI L++dI M:=by simp[dI]
def bR(x:FC×Fr):dI [x]=x.1.cells:=by simp[dI]
def mG(h:x∈L)(ha:a∈x.1.cells):a∈dI L:=List.mem_flatMap.mpr ⟨x,h,ha⟩
def hW.keep(F:hW H fl L)(k:∀ a∈fl::dI L,∀ o,H a=some o->H' a=some o)(t:aE H H'):hW H' fl L :=
 ⟨k _ 2e0 _ F.e,fun x hx=>(F.fr x hx).keep (fun a ha=>k a (ϔ _ (mG hx ha))) t,F.nd⟩
def hW.kp(F:hW H fl L)(k:Kp [] H H'):hW H' fl L:=F.keep (fun _ _ _ e=>k.at e) (aE.nil k)
def qW.lst{c:FC}(h:qW H c f):∀ a∈c.cells,∃ xs,H a=some (.lst xs):=by
 obtain⟨hv,XX,e1,e2,e3,e4,e5⟩:=h;intro a ha;simp only[FC.cells,Α] at ha;rcases ha with rfl|rfl|ha
 ·exact⟨_,e1⟩
 ·exact⟨_,e3⟩
 ·cases h2:c.f2 with
  | none=>rw[h2] at ha;simp at ha
  | some b =>
   rw[h2] at ha e5;cases hb:f.b2 with
   | none=>rw[hb] at e5;exact e5.elim
   | some b'=>rw[hb] at e5;obtain⟨us,e,_⟩:=e5;rw[show a=b by simpa using ha];exact⟨_,e⟩
def hW.free{p:Addr}(F:hW H fl L)(h:H p=none):p∉fl::dI L:=fun z=>by
 rcases Α.mp z with rfl|z
 ·rw[F.e] at h;cases h
 ·obtain⟨x,hx,hp⟩:=List.mem_flatMap.mp z;obtain⟨xs,e⟩:=(F.fr x hx).lst p hp;rw[h] at e;cases e
def hW.app(F:hW H fl 5e0)(hm:b9 H v m):∃ us b,H x.1.cur=some 7e0/\bP H us b/\(b=x.2.b1\/x.2.b2=some b)/\x.1.cur∈x.1.cells/\hW 4e2 fl (I++[(x.1,x.2.add m)]):=by
 have nd:=F.nd;rw[bF,bR,Ϙ,ϙ] at nd;obtain⟨us,b,e1,e2,e3,e4⟩:=(F.fr x 2e0).add nd.2.2.1 hm;have hc:x.1.cur∈x.1.cells:=by
  cases h:x.1.f2<;>simp[FC.cur,FC.cells,h]
 have t:aE H 4e2:=aE.cA e1;refine⟨us,b,e1,e2,e3,hc,⟨?_,fun y hy=>?_,?_⟩⟩
 ·rw[aD (fun z=>nd.1 (by rw[z];simp[hc]))];rw[F.e];simp
 ·rcases Κ.mp hy with hy|hy
  ·refine(F.fr y 4e1).keep (fun a ha o e=>?_) t;rw[aD (fun z=>nd.2.2.2 a (mG hy ha) _ hc z)];exact e
  ·rw[show y=(x.1,x.2.add m) by simpa using hy];exact e4
 ·rw[bF,bR];exact Ϙ.mpr ⟨nd.1,ϙ.mpr nd.2⟩
def hW.pop(F:hW H fl 5e0):hW 8e0 fl I/\qW 8e0 x.1 x.2:=by
 have nd:=F.nd;rw[bF,bR,Ϙ,ϙ] at nd;have t:aE H 8e0:=aE.cA F.e;have k:∀ y∈I++[x],qW 8e0 y.1 y.2:=fun y hy=>(F.fr y hy).keep (fun a ha o e=>by
  rw[aD (fun z=>nd.1 (by
   rw[<- z];have:=mG hy ha;rw[bF,bR] at this;exact this))]
  exact e) t
 exact⟨⟨aA,fun y hy=>k y 4e1,Ϙ.mpr ⟨fun z=>nd.1 4e0,nd.2.1⟩⟩,k x 2e0⟩
def hW.push{fa f1:Addr}{hv:V}(F:hW H fl L)(e1:H fa=some (.lst [hv,.ref f1,.Wl]))(e2:H f1=some (.lst []))(hh:Je H hv h)(n1:fa∉fl::dI L)(n2:f1∉fl::dI L)(n3:fa≠f1):hW 0e2 fl (L++[((⟨fa,f1,none⟩:FC),(⟨h,[],none⟩:Fr))]):=by
 have nd:=F.nd;rw[Ϙ] at nd;rw[Α,not_or] at n1 n2;have t:aE H 0e2:=aE.cA F.e;refine⟨aA,fun y hy=>?_,?_⟩
 ·rcases Κ.mp hy with hy|hy
  ·exact(F.fr y hy).keep (fun a ha o e=>by rw[aD (fun z=>nd.1 (by rw[<- z];exact mG hy ha))];exact e) t
  ·rw[show y=((⟨fa,f1,none⟩:FC),(⟨h,[],none⟩:Fr)) by simpa using hy];exact⟨hv,[],by rw[aD n1.1];exact e1,hh.kt t,by rw[aD n2.1];exact e2,.nil,trivial⟩
 ·rw[bF,bR,Ϙ];refine⟨fun z=>?_,ϙ.mpr ⟨nd.2,by simp[FC.cells,n3],fun a ha b hb z=>?_⟩⟩
  ·rcases Κ.mp z with z|z
   ·exact nd.1 z
   ·simp only[FC.cells,Option.toList_none,Α,Γ,Τ] at z;rcases z with z|z
    ·exact n1.1 z.symm
    ·exact n2.1 z.symm
  ·simp only[FC.cells,Option.toList_none,Α,Γ,Τ] at hb;rcases hb with rfl|rfl
   ·exact n1.2 (z▸ha)
   ·exact n2.2 (z▸ha)
def hW.snd{hv:V}(F:hW H fl 5e0)(f0:x.1.f2=none)(e1:H x.1.fa=some (.lst [hv,.ref x.1.f1,.Wl]))(e2:H a=some (.lst []))(n:a∉fl::dI 5e0):hW 1e2 fl (I++[(⟨x.1.fa,x.1.f1,some a⟩,⟨x.2.hd,x.2.b1,some []⟩)]):=by
 have nd:=F.nd;rw[bF,bR,Ϙ,ϙ] at nd;rw[bF,bR,Α,Κ,not_or,not_or] at n;have hc:x.1.cells=[x.1.fa,x.1.f1]:=by simp[FC.cells,f0]
 rw[hc] at nd n;have t:aE H 1e2:=aE.cA e1;obtain⟨ZX,XX,g1,g2,g3,g4,g5⟩:=F.fr x 2e0;rw[e1] at g1;have ehv:ZX=hv:=by
  have g:=ϖ g1;simp only[HO.lst.injEq,List.cons.injEq] at g;exact g.1.symm
 subst ehv;have n12:x.1.fa≠x.1.f1:=by simpa using nd.2.2.1
 refine⟨?_,fun y hy=>?_,?_⟩
 ·rw[aD (fun z=>nd.1 (by rw[z];simp))];rw[F.e];simp
 ·rcases Κ.mp hy with hy|hy
  ·exact(F.fr y 4e1).keep (fun b hb o e=>by rw[aD (fun z=>nd.2.2.2 b (mG hy hb) x.1.fa 2e0 z)];exact e) t
  ·rw[show y=(⟨x.1.fa,x.1.f1,some a⟩,⟨x.2.hd,x.2.b1,some []⟩) by simpa using hy];exact⟨ZX,XX,aA,g2.kt t,by rw[aD n12.symm];exact g3,g4.kp t,[],by rw[aD (fun z=>n.2.2 4e0)];exact e2,.nil⟩
 ·rw[bF,bR,Ϙ];refine⟨fun z=>?_,ϙ.mpr ⟨nd.2.1,?_,fun b hb c YU z=>?_⟩⟩
  ·rcases Κ.mp z with z|z
   ·exact nd.1 4e0
   ·simp only[FC.cells,Β2,Α,Γ,Τ] at z;rcases z with z|z|z
    ·exact nd.1 4e0
    ·exact nd.1 4e0
    ·exact n.1 z.symm
  ·have h1:¬ a=x.1.fa:=fun z=>n.2.2 4e0;have h2:¬ a=x.1.f1:=fun z=>n.2.2 4e0;simp[FC.cells,n12];exact⟨fun z=>h1 z.symm,fun z=>h2 z.symm⟩
  ·simp only[FC.cells,Β2,Α,Γ,Τ] at YU;rcases YU with rfl|rfl|rfl
   ·exact nd.2.2.2 b hb _ 2e0 z
   ·exact nd.2.2.2 b hb _ 2e0 z
   ·exact n.2.1 (z▸hb)
def RU{o:Option Addr}(h:rv o=.Wl):o=none:=by
 cases o with
 | none=>rfl
 | some a=>cases h
theorem Ep{c:FC}{u:V}:gI [u,.ref c.f1,rv c.f2] (1+if (!decide (rv c.f2=V.Wl))=true then 1 else 0)=some (.ref c.cur):=by
 obtain⟨fa,f1,f2⟩:=c;cases f2<;>rfl
def qW.cu{c:FC}(h:qW H c f):∃ us,H c.cur=some 7e0:=h.lst _ (by cases e:c.f2<;>simp[FC.cur,FC.cells,e])
def GB(I:List 3e0)(x:FC×Fr):gI 2e2 (-1)=some 4e3:=by
 rw[Α7];exact j4 _ _
def NV(I:List 3e0)(x:FC×Fr):2e2[((I++[x]).map fun x=>V.ref x.1.fa).length - 1]?=some 4e3:=by simp
def Ie(I:List 3e0)(x:FC×Fr):((I++[x]).map fun x=>V.ref x.1.fa).dropLast=I.map fun x=>V.ref x.1.fa:=by simp
def eP(f:Fr)(i:Bool)(s:Say):Stm:=if i=true then .iff s f.b1 6e0 else .WH s f.b1
inductive LR(vs:List V)(H:Hp)(Q:VK)(E:XK):Prop
 | mk (fl:Addr) (I:List 3e0) (x y:FC×Fr) (i:Bool) (s:Say) (_:vs=[.ref fl]) (_:hW H fl 5e1) (_:y.2.hd=some (i,s)) (_:(∀ z∈I++[x]++[y],z.2.b1.length<=1000/\(z.2.b2.getD []).length<=1000)) (_:∀ H',hW H' fl 9e0->Kp (fl::x.1.cells) H H'->Q .Wl H'):LR vs H Q E
def Gf(j:Nat)(f:Fr):Prop:=BZ true f.b1/\BZ true 6e0/\oX f.b1+j<=5/\oX 6e0+j<=5/\(j≠0->∃ i s,f.hd=some (i,s)/\s.sok)
def BU(L:List 3e0):Nat:=(L.map fun x=>b8 x.2.b1+b8 2e1+2).sum
def GL(L:List 3e0):Prop:=∀ j x,L[j]?=some x->Gf j x.2
def lP(L M:List 3e0):BU (L++M)=BU L+BU M:=by simp[BU]
def lQ(x:FC×Fr):BU [x]=b8 x.2.b1+b8 2e1+2:=by simp[BU]
def GL.top(h:GL 5e0):Gf I.length x.2:=h I.length x 2e0
def GL.init(h:GL 5e0):GL I:=fun j y e=>h j y (by rw[Ε8 (Λ.mp e).1];exact e)
theorem GL.snoc(h:GL I)(g:Gf I.length x.2):GL 5e0:=fun j y e=>by
 by_cases hj:j < I.length
 ·rw[Ε8 hj] at e;exact h j y e
 ·have:j=I.length:=by
   have:=(Λ.mp e).1;simp at this;omega
  subst this;simp at e;subst e;exact g
theorem Hi:∀(a b:List Stm),b8 (a++b)=b8 a+b8 b
 | [],b=>by simp[b8]
 | x::a,b=>by simp only[Ω,b8,Hi a b];omega
theorem vJ:∀(a:List Stm) (m:Stm),oX (a++[m])=max (oX a) m.dp
 | [],m=>by simp[oX]
 | x::a,m=>by simp only[Ω,oX,vJ a m];omega
theorem vZ{wt:Bool}:∀ {a:List Stm} {m:Stm},BZ wt a->m.gd wt->BZ wt (a++[m])
 | [],m,_,h=>⟨h,trivial⟩
 | x::a,m,g,h=>⟨g.1,vZ g.2 h⟩
theorem Jj(f:Fr)(m:Stm):b8 (f.add m).b1+b8 ((f.add m).b2.getD [])=b8 f.b1+b8 6e0+m.sz:=by
 unfold Fr.add;cases h:f.b2<;>simp[h,Hi,b8]<;>omega
theorem Gf.add{j:Nat}(g:Gf j f)(gm:m.gd true)(dm:m.dp+j<=5):Gf j (f.add m):=by
 obtain⟨g1,g2,g3,g4,g5⟩:=g;unfold Fr.add;cases h:f.b2 with
 | none =>
  rw[h] at g2 g4;exact⟨vZ g1 gm,g2,by show oX (f.b1++[m])+j<=5;rw[vJ];omega,g4,g5⟩
 | some b =>
  rw[h] at g2 g4;exact⟨g1,vZ (show BZ true b from g2) gm,g3,by show oX (b++[m])+j<=5;rw[vJ];have:oX b+j<=5:=g4;omega,g5⟩
theorem JD{j:Nat}{i:Bool}{s:Say}(g:Gf (j+1) f)(hs:s.sok):(eP f i s).gd true/\(eP f i s).dp+j<=5/\(eP f i s).sz<=b8 f.b1+b8 6e0+2:=by
 obtain⟨g1,g2,g3,g4,g5⟩:=g;cases i with
 | true=>exact⟨⟨hs,g1,g2⟩,by simp only[eP,Γ5,Stm.dp];omega,by simp only[eP,Γ5,Stm.sz];omega⟩
 | false=>exact⟨⟨hs,g1⟩,by simp only[eP,ϗ,Β1,Stm.dp];omega,by simp only[eP,ϗ,Β1,Stm.sz];omega⟩
theorem Fj(h:x∈L):b8 x.2.b1+b8 2e1+2<=BU L:=by
 induction L with
 | nil=>simp at h
 | cons y r ih =>
  rcases Α.mp h with rfl|h
  ·simp[BU]
  ·have:=ih h;simp only[BU,ϓ,List.sum_cons] at this ⊢;omega
theorem FR{y:FC×Fr}{i:Bool}{s:Say}(g:GL 5e1)(h:y.2.hd=some (i,s))(hs:s.sok):GL 9e0/\BU 9e0<=BU 5e1:=by
 have gy:=g.top;rw[Ν,List.length_singleton] at gy;obtain⟨c1,c2,c3⟩:=JD (i:=i) gy hs;refine⟨g.init.init.snoc (g.init.top.add c1 c2),?_⟩;rw[lP,lP,lP,lQ,lQ,lQ];have:=Jj x.2 0e1;show BU I+(b8 (x.2.add 0e1).b1+b8 ((x.2.add 0e1).b2.getD [])+2)<=_;omega
inductive L3(vs:List V)(H:Hp)(Q:VK)(E:XK):Prop
 | mk (cl:Addr) (ms:List Int) (_:vs=[.ref cl]) (_:H cl=some (.lst (ms.map V.int))) (_:ms.length<=63) (_:∀(p:Addr) (us:List V) (b:List Stm) (H':Hp),H' p=some (.tup us)->bP H' us b->BZ true b->oX b<=5->b8 b<=200->Kp [] H H'->Q 8e1 H'):L3 vs H Q E
def Slp.ov:Slp->Bool
 | .ended _=>true
 | .worn=>true
 | _=>false
structure Ck where
 made:Nat
 op:List Int
 ov:Bool
 nw:Int
def Pu.ck(S:Pu):Ck:=⟨S.made,S.pend,S.sl.ov,S.nw⟩
inductive Tel:Ck->List V->Ck->Prop
 | new {c:Ck} {x y:Str} {v:V}:x = "order"\/x = "child"->Tel c [.str x,.int c.made,.str y,v] {c with made:=c.made+1,op:=c.op++[(c.made:Int)]}
 | tim {c:Ck} {d:Int}:c.nw<=d->d<=1000000000000->Tel c [.str "timer",.int c.made,.int d] {c with made:=c.made+1,op:=c.op++[(c.made:Int)]}
 | snd {c:Ck} {a b:V} {k:Str}:Tel c [.str "send",a,.str k,b] c
 | drp {c:Ck} {i:Int}:i∈c.op->Tel c [.str "drop",.int i] {c with op:=c.op.filter fun j=>decide (j≠i)}
 | fin {c:Ck} {v:V}:Tel c [.str "end",v] {c with ov:=true,op:=[]}
 | wrn {c:Ck}:Tel c [.str "worn"] {c with ov:=true,op:=[]}
inductive WE:Ck->Cmds->Ck->Prop
 | nil {c:Ck}:WE c [] c
 | cons {c d e:Ck} {x:List V} {r:Cmds}:c.ov=false->Tel c x d->WE d r e->WE c (x::r) e
def WE.app{c d e:Ck}{a b:Cmds}(h:WE c a d)(g:WE d b e):WE c (a++b) e:=by
 induction h with
 | nil=>exact g
 | cons o t _ ih=>exact .cons o t (ih g)
def WE.one{c d:Ck}{x:List V}(o:c.ov=false)(t:Tel c x d):WE c [x] d:=.cons o t .nil
def Ck.Ok(c:Ck):Prop:=c.op.Pairwise (· < ·)/\∀ i∈c.op,0<=i/\i < (c.made:Int)
theorem Tel.ok{c d:Ck}{x:List V}(h:Tel c x d)(g:c.Ok):d.Ok:=by
 have nw:(c.op++[(c.made:Int)]).Pairwise (· < ·)/\∀ i∈c.op++[(c.made:Int)],0<=i/\i < ((c.made+1:Nat):Int):=by
  refine⟨Ε3.mpr ⟨g.1,by simp,fun a ha b hb=>?_⟩,fun i hi=>?_⟩
  ·rw[show b=(c.made:Int) by simpa using hb];exact(g.2 a ha).2
  ·rcases Κ.mp hi with hi|hi
   ·have:=g.2 i hi;omega
   ·have:i=(c.made:Int):=by simpa using hi
    omega
 cases h with
 | new _=>exact nw
 | tim _ _=>exact nw
 | snd=>exact g
 | drp _=>exact⟨g.1.filter _,fun i hi=>g.2 i (Ϛ.mp hi).1⟩
 | fin=>exact⟨List.Pairwise.nil,fun i hi=>by cases hi⟩
 | wrn=>exact⟨List.Pairwise.nil,fun i hi=>by cases hi⟩
def WE.ok{c d:Ck}{x:Cmds}(h:WE c x d)(g:c.Ok):d.Ok:=by
 induction h with
 | nil=>exact g
 | cons _ t _ ih=>exact ih (t.ok g)
theorem JV{nw:Int}(h:nw<=1000000000000)(w:Wo):nw<=mJ nw w/\mJ nw w<=1000000000000:=by
 cases w with
 | none=>simp only[mJ];split<;>omega
 | some z=>simp only[mJ];split<;>split<;>omega
def Pb{x:Slp}(n:S.sl=.Wl)(h:x.ov=false):({S with sl:=x}:Pu).ck=S.ck:=by
 simp only[Pu.ck,n,h];rfl
def IU(n:S.sl=.Wl)(hn:S.nw<=1000000000000)(m:Stm):WE S.ck (bL S m).2 (bL S m).1.ck/\(bL S m).1.nw=S.nw:=by
 have o:S.ck.ov=false:=by simp only[Pu.ck,n];rfl
 cases m with
 | set x s=>exact⟨.nil,rfl⟩
 | order x y s=>exact⟨.one o (.new (.inl rfl)),rfl⟩
 | child x y s=>exact⟨.one o (.new (.inr rfl)),rfl⟩
 | Wy x s=>exact⟨.one o (.tim (JV hn _).1 (JV hn _).2),rfl⟩
 | send s k r=>exact⟨.one o .snd,rfl⟩
 | drop s =>
  simp only[bL];split
  ·split
   ·rename_i hi
    exact⟨.one o (.drp hi),rfl⟩
   ·exact⟨.nil,rfl⟩
  ·exact⟨.nil,rfl⟩
 | Wp x k =>
  simp only[bL];split
  ·exact⟨.nil,rfl⟩
  ·exact⟨by rw[Pb (x:=.Wp k) n rfl];exact .nil,rfl⟩
 | wait x ss =>
  simp only[bL];split
  ·exact⟨by rw[Pb (x:=.wait _) n rfl];exact .nil,rfl⟩
  ·exact⟨.nil,rfl⟩
 | fin s=>exact⟨.one o .fin,rfl⟩
 | WH s b=>exact⟨.nil,rfl⟩
 | iff s b o=>exact⟨.nil,rfl⟩
def CO(S:Pu)(m:Stm):(i9 S m).ck=S.ck/\(i9 S m).nw=S.nw:=by
 cases m<;>first|exact⟨rfl,rfl⟩|(simp only[i9];split<;>exact⟨rfl,rfl⟩)
def Ml(n:S.sl=.Wl)(hn:S.nw<=1000000000000)(m:Stm):WE S.ck (one S m).2 (one S m).1.ck/\(one S m).1.nw=S.nw:=by
 by_cases hb:m.isB=true
 ·rw[sU hb];refine⟨?_,(CO S m).2⟩;show WE _ _ (i9 S m).ck;rw[(CO S m).1];exact .nil
 ·rw[gZ 7e2];have d:=IU n hn m;split<;>exact d
def Jb(S:Pu):Prop:=∀ ts,S.sl=.wait ts->ts≠[]/\ts=S.pend.filter fun j=>decide 7e1
theorem OR(n:S.sl=.Wl)(g:S.ck.Ok)(m:Stm):Jb (one S m).1:=by
 intro ts h;by_cases hb:m.isB=true
 ·rw[sU hb] at h;have:(i9 S m).sl=S.sl:=by cases m<;>first|rfl|(simp only[i9];split<;>rfl)
  rw[show(i9 S m,([]:Cmds)).1.sl=S.sl from this,n] at h;cases h
 ·rw[gZ 7e2] at h ⊢;have key:(bL S m).1.sl=.wait ts->(bL S m).1.pend=S.pend/\∃ ws,ts=bH S.pend ws/\ts≠[]:=fun h=>by
   cases m with
   | wait x ss =>
    simp only[bL] at h ⊢;split at h
    ·rename_i hc
     rw[if_pos hc];injection h with h
     exact⟨rfl,_,h.symm,by rw[<- h];exact hc.2⟩
    ·rw[show({S with nm:=bT S.nm x (aX S.ans (ss.map S.worth))}:Pu).sl=S.sl from rfl,n] at h;cases h
   | Wp x k =>
    simp only[bL] at h;split at h
    ·exact absurd h 0e0
    ·cases h
   | drop s =>
    simp only[bL] at h;split at h
    ·split at h<;>exact absurd h 0e0
    ·exact absurd h 0e0
   | fin s=>cases h
   | set x s=>exact absurd h 0e0
   | order x y s=>exact absurd h 0e0
   | child x y s=>exact absurd h 0e0
   | Wy x s=>exact absurd h 0e0
   | send s k r=>exact absurd h 0e0
   | WH s b=>exact absurd h 0e0
   | iff s b o=>exact absurd h 0e0
  have fl:∀ T:Pu,T.pend=(bL S m).1.pend->T.sl=(bL S m).1.sl->T.sl=.wait ts->ts≠[]/\ts=T.pend.filter fun j=>decide 7e1:=fun T e1 e2 h=>by
   obtain⟨k1,ws,k2,k3⟩:=key (e2.symm.trans h);refine⟨k3,?_⟩;rw[e1,k1];have hm:∀ j,j∈ts↔j∈S.pend/\some j∈ws:=fun j=>by rw[k2,<- mY (pend:=S.pend) g.1,Ϛ];simp
   conv=>lhs;rw[k2,<- mY (pend:=S.pend) g.1]
   refine List.filter_congr fun j hj=>?_;simp[hm j,hj]
  split at h
  ·rename_i hs
   rw[if_pos hs];exact fl _ rfl rfl h
  ·rename_i hs
   rw[if_neg hs];exact fl _ rfl rfl h
theorem BV:∀(k:Nat) {S:Pu},S.sl=.Wl->S.nw<=1000000000000->S.ck.Ok->WE S.ck (cR k S).2 (cR k S).1.ck/\(cR k S).1.nw=S.nw/\Jb (cR k S).1
 | 0,S,n,hn,g=>by
  have o:S.aY.ck.ov=false:=by simp only[Pu.ck,Pu.aY,n];rfl
  cases e:Wr S.aY.stk with
  | none=>rw[iC e];exact⟨.one o .fin,rfl,1e1⟩
  | some m=>rw[nQ e];exact⟨.one o .wrn,rfl,1e1⟩
 | k+1,S,n,hn,g=>by
  have o:S.aY.ck.ov=false:=by simp only[Pu.ck,Pu.aY,n];rfl
  cases e:Wr S.aY.stk with
  | none=>rw[iC e];exact⟨.one o .fin,rfl,1e1⟩
  | some m =>
   rw[nP e];have t:=Ml (S:=S.aY) n hn m;split
   ·rename_i hs
    have ih:=BV k (S:=(one S.aY m).1) (by cases e2:(one S.aY m).1.sl<;>rw[e2] at hs<;>first|rfl|cases hs) (by rw[t.2];exact hn) (t.1.ok g)
    exact⟨t.1.app ih.1,ih.2.1.trans t.2,ih.2.2⟩
   ·exact⟨t.1,t.2,OR (S:=S.aY) n g m⟩
def AE(h:(∃ k,S.sl=.Wp k)\/∃ ts,S.sl=.wait ts)(hn:S.nw<=1000000000000)(g:S.ck.Ok)(st:∃ x k ss,Wr S.stk=some (.Wp x k)\/Wr S.stk=some 8e3)(w:Wo):WE S.ck (S.wake w).2 (S.wake w).1.ck/\(S.wake w).1.nw=S.nw/\Jb (S.wake w).1:=by
 have o:S.sl.ov=false:=by rcases h with⟨k,h⟩|⟨k,h⟩<;>rw[h]<;>rfl
 have e:∀ x st,({S with nm:=bT S.nm x w,stk:=st,sl:=.Wl}:Pu).ck=S.ck:=fun x st=>by simp only[Pu.ck,o];rfl
 have key:∀ x st,WE S.ck (cR 300 {S with nm:=bT S.nm x w,stk:=st,sl:=.Wl}).2 (cR 300 {S with nm:=bT S.nm x w,stk:=st,sl:=.Wl}).1.ck/\(cR 300 {S with nm:=bT S.nm x w,stk:=st,sl:=.Wl}).1.nw=S.nw/\Jb (cR 300 {S with nm:=bT S.nm x w,stk:=st,sl:=.Wl}).1:=fun x st=>by
  have:=BV 300 (S:={S with nm:=bT S.nm x w,stk:=st,sl:=.Wl}) rfl hn (by rw[e];exact g);rw[e] at this;exact this
 obtain⟨x,k,ss,st⟩:=st;unfold Pu.wake;rcases st with st|st<;>rw[st]<;>exact key x _
def Ck.pre(c:Ck):Hap->Ck
 | .WR m _=>{c with nw:=later c.nw m}
 | .don m i _=>{c with nw:=later c.nw m,op:=c.op.filter fun j=>decide (j≠i)}
 | .ltr m _ _=>{c with nw:=later c.nw m}
theorem KL{a b:Int}(h:a<=1000000000000)(g:b<=1000000000000):later a b<=1000000000000:=by
 unfold later;split<;>omega
theorem IV(F:Ww true S N)(n:S.sl.isN=false)(g:S.ck.Ok)(wi:Jb S)(h:Hap)(hm:h.m<=1000000000000)(ho:S.over h=false):WE (S.ck.pre h) (S.take h).2 (S.take h).1.ck/\Jb (S.take h).1:=by
 have st:((∃ k,S.sl=.Wp k)\/∃ ts,S.sl=.wait ts)->∃ x k ss,Wr S.stk=some (.Wp x k)\/Wr S.stk=some 8e3:=fun h=>by
  rcases h with⟨k,h⟩|⟨k,h⟩
  ·obtain⟨x,e⟩:=F.sl.1 k h;exact⟨x,k,[],.inl e⟩
  ·obtain⟨x,ss,e⟩:=F.sl.2 k h;exact⟨x,"",ss,.inr e⟩
 have nl:later S.nw h.m<=1000000000000:=KL F.nw.2 hm;unfold Pu.take;rw[if_neg (by rw[ho];simp)];cases h with
 | WR m w =>
  cases e:S.sl with
  | new =>
   have:=BV 300 (S:={S with nw:=later S.nw m,ar:=w,sl:=.Wl}) rfl nl g;rw[show({S with nw:=later S.nw m,ar:=w,sl:=.Wl}:Pu).ck=S.ck.pre (.WR m w) by simp only[Pu.ck,Ck.pre,e];rfl] at this;exact⟨this.1,this.2.2⟩
  | Wl=>rw[e] at n;cases n
  | ended w=>simp only[Pu.over,e] at ho;cases ho
  | worn=>simp only[Pu.over,e] at ho;cases ho
  | Wp k=>simp only[Pu.over,e] at ho;cases ho
  | wait ts=>simp only[Pu.over,e] at ho;cases ho
 | don m i w =>
  have gk:(((S.at' m).done i w).ck).Ok:=⟨g.1.filter _,fun j hj=>g.2 j (Ϛ.mp hj).1⟩;show WE _ ((S.at' m).dW i w).2 ((S.at' m).dW i w).1.ck/\Jb ((S.at' m).dW i w).1;unfold Pu.dW;split
  ·rename_i ts e
   split
   ·have:=AE (S:=(S.at' m).done i w) 9e2 nl gk (st 9e2) (some i);exact⟨this.1,this.2.2⟩
   ·rename_i hi
    refine⟨.nil,fun ts' h=>?_⟩;obtain⟨w1,w2⟩:=wi ts' h;obtain rfl:ts=ts':=by injection e.symm.trans h
    refine⟨w1,?_⟩;show ts=(S.pend.filter fun j=>decide (j≠i)).filter fun j=>decide 7e1;rw[List.filter_filter]
    conv=>lhs;rw[w2]
    refine List.filter_congr fun j hj=>?_;by_cases hj2:j∈ts
    ·have:j≠i:=fun z=>hi (z▸hj2);simp[hj2,this]
    ·simp[hj2]
  ·rename_i hx
   exact⟨.nil,fun ts h=>absurd h (hx ts)⟩
 | ltr m k w =>
  show WE _ ((S.at' m).dG k w).2 ((S.at' m).dG k w).1.ck/\Jb ((S.at' m).dG k w).1;unfold Pu.dG;split
  ·rename_i k' e
   split
   ·have:=AE (S:=S.at' m) 0e3 nl g (st 0e3) w;exact⟨this.1,this.2.2⟩
   ·exact⟨.nil,wi⟩
  ·exact⟨.nil,wi⟩
def fG(c:Ck)(ol:Addr):List (Key×V):=[(.inr "made",.int c.made),(.inr "open",.ref ol),(.inr "over",.bl c.ov),(.inr "now",.int c.nw)]
theorem pQ(c:Ck)(ol:Addr)(j:String):aW 1e0 (.inr 1e3)=((fG c ol).find? fun kv=>decide (kv.1=.inr 1e3)).map (·.2):=rfl
def FO(c:Ck)(ol:Addr):aW 1e0 7e3=some (.int c.made):=by rw[pQ];simp[fG,bD]
def nJ(c:Ck)(ol:Addr):aW 1e0 6e3=some (.ref ol):=by rw[pQ];simp[fG,bD]
def AR(c:Ck)(ol:Addr):aW 1e0 5e3=some (.bl c.ov):=by rw[pQ];simp[fG,bD]
def En(c:Ck)(ol:Addr):aW 1e0 9e3=some (.int c.nw):=by rw[pQ];simp[fG,bD]
def Ci(c:Ck)(ol:Addr)(n:Nat):aO 1e0 7e3 (.int n)=fG {c with made:=n} ol:=by simp[aO,fG,bD]
def Cj(c:Ck)(ol l:Addr):aO 1e0 6e3 (.ref l)=fG c l:=by simp[aO,fG,bD]
def Cm(c:Ck)(ol:Addr)(b:Bool):aO 1e0 5e3 (.bl b)=fG {c with ov:=b} ol:=by simp[aO,fG,bD]
def MM(c:Ck)(ol:Addr)(z:Int):aO 1e0 9e3 9e1=fG {c with nw:=z} ol:=by simp[aO,fG,bD]
structure pI(H:Hp)(sd ol:Addr)(c:Ck):Prop where
 hd:H sd=some (.dK 1e0)
 hl:H ol=some (.lst (c.op.map V.int))
def pI.kp{sd ol:Addr}{c:Ck}(h:pI H sd ol c)(k:Kp [] H H'):pI H' sd ol c:=⟨k.at h.hd,k.at h.hl⟩
inductive DM(vs:List V)(H:Hp)(Q:VK)(E:XK):Prop
 | mk (op sd ol:Addr) (us:List V) (cs:Cmds) (c d:Ck) (_:vs=[.ref op,.ref sd]) (_:H op=some 7e0) (_:iF H us cs) (_:pI H sd ol c) (_:c.Ok) (_:c.op.length+cs.length<=100000) (_:op≠ol) (_:WE c cs d) (_:∀ Wv H',pI H' sd Wv d->(Wv=ol\/H Wv=none)->Kp [sd,ol] H H'->aE H H'->Q (.bl true) H'):DM vs H Q E
def Gv{b:Addr}(n:Nat)(ea:H a=some 5e2)(eb:H b=some 5e2):oR K H (n+1) a b true:=by
 have:=oR.list (K:=K) (H:=H) (n:=n) (e:=fun _=>true) (eU.of ea) (eU.of eb) rfl fun j x y e1 e2=>by
  rw[e1] at e2;cases e2;rw[ϒ] at e1;obtain⟨z,_,rfl⟩:=ϛ.mp e1;have:=AG.flat (K:=K) (H:=H) (n:=n) (x:=.int z) (y:=.int z) rfl rfl;simpa[j7] using this
 rwa [show((List.range (ns.map V.int).length).all fun _=>true)=true by simp] at this
def jZ.tp(h:jZ H v s)(n:s.isN=false):∃ p r,v=.ref p/\H p=some (.tup (.str s.md::r)):=by
 cases s with
 | Wl=>cases n
 | wait ts=>obtain⟨p,p2,rfl,e,_⟩:=h;exact⟨p,_,rfl,e⟩
 | ended w=>obtain⟨p,rfl,e⟩:=h;exact⟨p,_,rfl,e⟩
 | Wp k=>obtain⟨p,rfl,e⟩:=h;exact⟨p,_,rfl,e⟩
 | new=>obtain⟨p,rfl,e⟩:=h;exact⟨p,_,rfl,e⟩
 | worn=>obtain⟨p,rfl,e⟩:=h;exact⟨p,_,rfl,e⟩
def Uh(s:Slp):rG 1e4 [.str "ended",.str "worn"]=s.ov:=by
 cases s<;>simp[rG,j7,Slp.md,Slp.ov,bD]
def Lc(h:s.md=("wait":Str)):∃ ts,s=.wait ts:=by
 cases s<;>first|exact⟨_,rfl⟩|exact absurd h 6e2
inductive x9(C:Cl)(vs:List V)(H:Hp)(Q:VK)(E:XK):Prop
 | mk (R:Rn) (as:List Addr) (sl:V) (S:Pu) (sd ol:Addr) (_:vs=[.ref R.x,.ref sd]) (_:a9 C H R as sl S) (_:S.sl.isN=false) (_:pI H sd ol S.ck) (_:S.pend.length<=100000) (_:Jb S) (_:∀ H',Kp [] H H'->Q (.bl true) H'):x9 C vs H Q E
def Gx{ys:List V}(h:∀ y∈ys,y∈ns.map V.int):∃ ms:List Int,ys=ms.map V.int/\ms.length=ys.length:=by
 induction ys with
 | nil=>exact⟨[],rfl,rfl⟩
 | cons y r ih =>
  obtain⟨ms,e,l⟩:=ih fun z hz=>h z (by simp[hz]);obtain⟨n,_,rfl⟩:=Β3.mp (h y 2e0);exact⟨n::ms,by rw[e];rfl,by simp[l]⟩
def Jd(cs:Cmds):Prop:=∀ c∈cs,c.length<=100000/\∀ v∈c,iL v
def FJ(h:iL v):Jd [[v,wv w]]:=fun c hc=>by
 rw[show c=[v,wv w] by simpa using hc];refine⟨by simp,fun u hu=>?_⟩;simp only[Α,Γ,Τ] at hu;rcases hu with rfl|rfl
 ·exact h
 ·exact nZ w
def MD{a b:Cmds}(h:Jd a)(g:Jd b):Jd (a++b):=fun c hc=>(Κ.mp hc).elim (h c) (g c)
def Aj(S:Pu)(m:Stm):Jd (one S m).2:=by
 by_cases h:m.isB=true
 ·rw[sU h];intro c hc;simp at hc
 ·rw[gZ (by simpa using h)];exact Et S m
theorem lB:∀(n:Nat) (S:Pu),(cR n S).2.length<=n+1/\Jd (cR n S).2
 | 0,S=>by
  cases e:Wr S.aY.stk with
  | none=>rw[iC e];exact⟨by simp[Pu.ends],FJ trivial⟩
  | some m=>rw[nQ e];exact⟨by simp[Pu.nF],fun c hc=>by rw[show c=[V.str "worn"] by simpa[Pu.nF] using hc];exact⟨by simp,fun u hu=>by rw[show u=.str "worn" by simpa using hu];trivial⟩⟩
 | n+1,S=>by
  cases e:Wr S.aY.stk with
  | none=>rw[iC e];exact⟨by simp[Pu.ends],FJ trivial⟩
  | some m =>
   rw[nP e];have l1:=Bz S.aY m;split
   ·have ih:=lB n (one S.aY m).1;exact⟨by rw[Ν];omega,MD (Aj _ _) ih.2⟩
   ·exact⟨by omega,Aj _ _⟩
def yQ(S:Pu)(w:Wo):(S.wake w).2.length<=301/\Jd (S.wake w).2:=by
 unfold Pu.wake;split
 ·exact lB 300 _
 ·exact lB 300 _
 ·exact⟨by simp,fun c hc=>by simp at hc⟩
def Fo(S:Pu)(h:Hap):(S.take h).2.length<=301/\Jd (S.take h).2:=by
 have e0:∀ T:Pu,((T,([]:Cmds)):Pu×Cmds).2.length<=301/\Jd ((T,([]:Cmds)):Pu×Cmds).2:=fun T=>⟨by simp,fun c hc=>by simp at hc⟩;unfold Pu.take;split
 ·exact e0 _
 ·cases h with
  | WR m w=>exact lB 300 _
  | don m i w =>
   show(((S.at' m).dW i w).2.length<=301/\Jd ((S.at' m).dW i w).2);unfold Pu.dW;split
   ·split
    ·exact yQ _ _
    ·exact e0 _
   ·exact e0 _
  | ltr m k w =>
   show(((S.at' m).dG k w).2.length<=301/\Jd ((S.at' m).dG k w).2);unfold Pu.dG;split
   ·split
    ·exact yQ _ _
    ·exact e0 _
   ·exact e0 _
def Slp.nb:Slp->Bool
 | .new=>true
 | _=>false
def Rq{p q:Addr}(h:jZ H 8e1 s)(n:s.isN=false)(e:H q=some (.tup [.str "new"])):oR K H 1 p q (s.nb):=by
 obtain⟨p',r,e0,ep⟩:=h.tp n;cases e0;have:=oR.tup (K:=K) (H:=H) (n:=0) (e:=fun _=>s.nb) (g8.of ep) (g8.of e) fun j u v e1 e2=>by
  match j,e1,e2 with
  | 0,e1,e2 =>
   simp only[Ξ,Ο] at e1 e2;subst e1 e2;have:=AG.flat (K:=K) (H:=H) (n:=0) (x:=.str s.md) (y:=.str "new") rfl rfl
   rwa [show j7 1e4 (.str "new")=s.nb by cases s<;>simp[j7,Slp.md,Slp.nb,bD]] at this
  | j+1,e1,e2=>simp at e2
 cases hs:s.nb with
 | true =>
  have hs2:s=.new:=by cases s<;>first|rfl|cases hs
  subst hs2;obtain⟨p',e0,ZI⟩:=h;cases e0;rw[ZI] at ep;cases ep;simpa[hs] using this
 | false=>simpa[hs] using this
def RY{p q:Addr}(h:jZ H 8e1 s)(g:jZ H (.ref q) s)(n:s.isN=false):oR K H 2 p q true:=by
 have key:∀ xs ys:List V,H p=some 6e1->H q=some (.tup ys)->xs.length=ys.length->(∀ j x y,xs[j]?=some x->ys[j]?=some y->AG K H 1 x y true)->oR K H 2 p q true:=fun xs ys e1 e2 l h=>by
  have:=oR.tup (K:=K) (H:=H) (n:=1) (e:=fun _=>true) (g8.of e1) (g8.of e2) h
  rwa [show((List.range (min xs.length ys.length)).all 2e3&&xs.length==ys.length)=true by simp[l]] at this
 have fl:∀ xs:List V,H p=some 6e1->H q=some 6e1->(∀ x∈xs,dN x=true/\j7 x x=true)->oR K H 2 p q true:=fun xs e1 e2 hf=>key xs xs e1 e2 rfl fun j x y a b=>by
  rw[a] at b;cases b;have hx:=hf x (Α1 a);have:=AG.flat (K:=K) (H:=H) (n:=1) (x:=x) (y:=x) hx.1 hx.1
  rwa [hx.2] at this
 cases s with
 | Wl=>cases n
 | new =>
  obtain⟨_,e1,e2⟩:=h;obtain⟨_,f1,f2⟩:=g;cases e1;cases f1;exact fl _ e2 f2 3e1
 | worn =>
  obtain⟨_,e1,e2⟩:=h;obtain⟨_,f1,f2⟩:=g;cases e1;cases f1;exact fl _ e2 f2 3e1
 | Wp k =>
  obtain⟨_,e1,e2⟩:=h;obtain⟨_,f1,f2⟩:=g;cases e1;cases f1;exact fl _ e2 f2 3e1
 | ended w =>
  obtain⟨_,e1,e2⟩:=h;obtain⟨_,f1,f2⟩:=g;cases e1;cases f1;exact fl _ e2 f2 (by cases w<;>simp[dN,wv,j7])
 | wait ts =>
  obtain⟨_,p2,e1,e2,e3⟩:=h;obtain⟨_,q2,f1,f2,f3⟩:=g;cases e1;cases f1;refine key _ _ e2 f2 rfl fun j x y a b=>?_
  match j,a,b with
  | 0,a,b =>
   simp only[Ξ,Ο] at a b;subst a b;have:=AG.flat (K:=K) (H:=H) (n:=1) (x:=.str "wait") (y:=.str "wait") rfl rfl
   rwa [show j7 3e3 3e3=true by simp[j7]] at this
  | 1,a,b =>
   simp only[List.getElem?_cons_succ,Ξ,Ο] at a b;subst a b;by_cases hp:p2=q2
   ·subst hp;exact .same
   ·refine .refs hp ?_;have:=oR.tup (K:=K) (H:=H) (n:=0) (e:=fun _=>true) (g8.of e3) (g8.of f3) fun j x y a b=>by
     rw[a] at b;cases b;rw[ϒ] at a;obtain⟨z,_,rfl⟩:=ϛ.mp a;have:=AG.flat (K:=K) (H:=H) (n:=0) (x:=.int z) (y:=.int z) rfl rfl
     rwa [show j7 9e1 9e1=true by simp[j7]] at this
    rwa [show((List.range (min (ts.map V.int).length (ts.map V.int).length)).all 2e3&&(ts.map V.int).length==(ts.map V.int).length)=true by simp] at this
  | k+2,a,b=>simp at a
def OM{m:Int}{k2:Str}(h:S.sl=.Wp k)(n:k2≠k):(S.take (.ltr m k2 w)).2=[]:=by
 unfold Pu.take;split
 ·rfl
 ·show((S.at' m).dG k2 w).2=[];unfold Pu.dG;split
  ·rename_i k3 e
   have:k3=k:=by
    have e2:S.sl=.Wp k3:=e;rw[h] at e2;cases e2;rfl
   rw[if_neg (by rw[this];exact Ne.symm n)]
  ·rfl
def Mh{m:Int}(h:S.sl=.Wp k):(S.take 0e4).2=[]:=by
 unfold Pu.take;split
 ·rfl
 ·show((S.at' m).dW i w).2=[];unfold Pu.dW;split
  ·rename_i ts e
   have e2:S.sl=.wait ts:=e;rw[h] at e2;cases e2
  ·rfl
def Mi{m:Int}(h:S.sl=.wait ts):(S.take (.ltr m k w)).2=[]:=by
 unfold Pu.take;split
 ·rfl
 ·show((S.at' m).dG k w).2=[];unfold Pu.dG;split
  ·rename_i k3 e
   have e2:S.sl=.Wp k3:=e;rw[h] at e2;cases e2
  ·rfl
def Lb(h:s.md=("hear":Str)):∃ k,s=.Wp k:=by
 cases s<;>first|exact⟨_,rfl⟩|exact absurd h 6e2
def RK{c:Ck}(h:c.Ok)(x:Hap):(c.pre x).Ok:=by
 cases x with
 | WR m w=>exact h
 | ltr m k w=>exact h
 | don m i w=>exact⟨h.1.filter _,fun j hj=>h.2 j (Ϛ.mp hj).1⟩
def Oj(c:Ck)(x:Hap):(c.pre x).op.length<=c.op.length:=by
 cases x with
 | WR m w=>exact Ι _
 | ltr m k w=>exact Ι _
 | don m i w=>exact Α2 _ _
def Mj(F:Ww true S N)(n:S.sl.isN=false)(g:S.ck.Ok)(wi:Jb S)(x:Hap)(hm:x.m<=1000000000000):WE (if S.over x=true then S.ck else S.ck.pre x) (S.take x).2 (S.take x).1.ck/\Jb (S.take x).1/\(if S.over x=true then S.ck else S.ck.pre x).Ok/\(if S.over x=true then S.ck else S.ck.pre x).op.length<=S.pend.length:=by
 by_cases ho:S.over x=true
 ·have tk:S.take x=(S,[]):=by unfold Pu.take;rw[if_pos ho]
  rw[if_pos ho,tk];exact⟨.nil,wi,g,Ι _⟩
 ·rw[if_neg ho];have t:=IV F n g wi x hm (by simpa using ho);exact⟨t.1,t.2,RK g x,Oj S.ck x⟩
theorem Mm{p q:Addr}{a b c d:Str}(h:H p=some (.lst [.str a,.str b]))(g:H q=some (.lst [.str c,.str d])):oR K H 1 p q (decide (a=c)&&decide (b=d)):=by
 have:=oR.list (K:=K) (H:=H) (n:=0) (e:=fun j=>if j=0 then decide (a=c) else decide (b=d)) (eU.of h) (eU.of g) rfl fun j x y e1 e2=>by
  match j,e1,e2 with
  | 0,e1,e2 =>
   simp only[Ξ,Ο] at e1 e2;subst e1 e2;have:=AG.flat (K:=K) (H:=H) (n:=0) (x:=.str a) (y:=.str c) rfl rfl
   rwa [show j7 (.str a) (.str c)=decide (a=c) by by_cases z:a=c<;>simp[j7,z]] at this
  | 1,e1,e2 =>
   simp only[List.getElem?_cons_succ,Ξ,Ο] at e1 e2;subst e1 e2;have:=AG.flat (K:=K) (H:=H) (n:=0) (x:=.str b) (y:=.str d) rfl rfl
   rwa [show j7 (.str b) (.str d)=decide (b=d) by by_cases z:b=d<;>simp[j7,z]] at this
  | k+2,e1,e2=>simp at e1
 rwa [show((List.range [V.str a,V.str b].length).all fun j=>if j=0 then decide (a=c) else decide (b=d))=(decide (a=c)&&decide (b=d)) by simp[List.range,List.range.loop]] at this
def MO{a b t:TS}{D:Ends}(h:∀ R:St->Hp->Prop,(∀ σ' H',t D σ' H'->R σ' H')->yJ a (yJ b fun _=>R) D σ H):yJ a (yJ b t) D σ H:=h (t D) fun _ _ z=>z
def Hap.kw:Hap->Str
 | .WR _ _=>"begin"
 | .don _ _ _=>"done"
 | .ltr _ _ _=>"letter"
def Hap.isB:Hap->Bool
 | .WR _ _=>true
 | _=>false
def Hap.isD:Hap->Bool
 | .don _ _ _=>true
 | _=>false
def Hap.UP(x:Hap):∃ r,x.vs=.str x.kw::.int x.m::r:=by cases x<;>exact⟨_,rfl⟩
def Rj(x:Hap):(x.kw=("begin":Str))=(x.isB=true):=by cases x<;>simp[Hap.kw,Hap.isB,bD]
def KI(x:Hap):(x.kw=("done":Str))=(x.isD=true):=by cases x<;>simp[Hap.kw,Hap.isD,bD]
def KJ{x:Hap}(h:x.kw=("letter":Str)):∃ m k w,x=.ltr m k w:=by
 cases x<;>first|exact⟨_,_,_,rfl⟩|exact absurd h (by simp[Hap.kw,bD])
def RC{x:Hap}(n:S.sl.isN=false)(h:x.isD=false):S.over x=(S.sl.ov||(S.sl.nb !=x.isB)):=by
 cases x with
 | don m i w=>cases h
 | WR m w=>cases e:S.sl<;>simp only[Pu.over,e]<;>first|rfl|(rw[e] at n;cases n)
 | ltr m k w=>cases e:S.sl<;>simp only[Pu.over,e]<;>first|rfl|(rw[e] at n;cases n)
theorem Dk{m:Int}(n:S.sl.isN=false):S.over 0e4=((S.sl.ov||(S.sl.nb !=false))||!decide (i∈S.pend)):=by
 cases e:S.sl<;>simp only[Pu.over,e]<;>first|rfl|(rw[e] at n;cases n)
end
local macro_rules | `(tactic| wp_walk) => `(tactic| wp_walk using true_and)
local macro_rules | `(tactic| wp_walk using $ts,*) => do
  let us ← ts.getElems.mapM fun t => `(Lean.Parser.Tactic.simpLemma| $t:term)
  let vs <- ("↓RO ↓RN ↓Ur ↓Dt ↓Sd ↓Ow ↓Ov ↓VS ↓Vn ↓Vo ↓Vp ↓Vq ↓Vr ↓Vs ↓Vt ↓Vu ↓P9 ↓P6 ↓P8 ↓Tr ↓SE ↓QQ ↓Tq ↓QX ↓SV ↓Ka ↓VI ↓VB ↓VF ↓VJ ↓Wd ↓Qn ↓S8 ↓JW ↓VA ↓S3 ↓Tv ↓Qu ↓Qv ↓QR ↓Qo ↓Qj ↓Ti ↓QT ↓SA ↓VG ↓S9 ↓MY ↓VH ↓QU ↓J4 ↓QD ↓QC ↓Nn ↓QA ↓SU ↓Tn ↓SD ↓Tj ↓Te ↓Td ↓Nw ↓Nu ↓Nv ↓J5 ↓J6 ↓Nt ↓SX ↓SY ↓Qg ↓Qi ↓Qh ↓Qm ↓Tu ↓Tt ↓Qp ↓QO ↓QN ↓Ts ↓VC ↓QK ↓QM ↓QL ↓SF ↓SG ↓SH ↓SI ↓MZ ↓Ni ↓JY ↓JZ ↓QJ ↓QG ↓QF ↓VD ↓Np ↓S4 ↓S5 ↓SK ↓SM ↓QI ↓QH ↓Tc ↓Nm ↓Qx ↓Qy ↓Ng ↓Nf ↓Nx ↓Q7 ↓SN ↓QE ↓Vx ↓Vy ↓Vz ↓Ny ↓J9 ↓Qq ↓M9 ↓Nj ↓NG ↓Qw ↓VE ↓SR ↓QV ↓NF ↓Q5 ↓Q1 ↓Q3 ↓Kb ↓Q4 ↓Q6 ↓Q2 ↓Nh ↓S6 ↓SO ↓Nr ↓Gg ↓SS ↓QY ↓Qk ↓J3 ↓QP ↓J2 ↓HR ↓QW ↓NB ↓Q0 ↓Qs ↓Nk ↓J1 ↓J0 ↓Nl ↓Qr ↓QB ↓SW ↓Ql ↓SJ ↓S7 ↓J7 ↓Nz ↓Qt ↓Th ↓Tf ↓Ta ↓Tb ↓To ↓NC ↓Nq ↓J8 ↓SQ ↓ND ↓QZ ↓JX ↓Qz ↓UZ ↓U0 ↓U2 ↓U3 ↓U4 ↓U5 ↓U6 ↓V4 ↓PK ↓UX ↓V3 ↓UR ↓US ↓UT ↓UU ↓V2 ↓aA ↓List.set_cons_zero ↓List.set_cons_succ ↓List.getElem?_cons_zero ↓List.getElem?_cons_succ L2.start EI K0 List.cons_append List.nil_append List.append_nil List.replicate_succ List.replicate_zero List.length_cons List.length_nil Nat.reduceAdd Nat.reduceSub Nat.zero_add Nat.add_zero Nat.reduceLeDiff Nat.reducePow Nat.reduceLT true_and and_true false_and and_false forall_const ↓reduceIte bD String.reduceEq Int.reduceToNat Int.reducePow Int.reduceNeg Int.reduceSub Int.reduceAdd Int.reduceMul Int.reduceLT Int.reduceLE Int.reduceEq sizeLine Wi V1 decide_true decide_false Bool.not_true Bool.not_false Bool.false_eq_true".splitOn " ").toArray.mapM fun(n:String)=>do
    let p:=n.splitOn "↓";let x:=Lean.mkIdent (p.getLastD "").toName
    if p.length = 1 then `(Lean.Parser.Tactic.simpLemma| $x:term) else `(Lean.Parser.Tactic.simpLemma| ↓ $x:term)
  let ws:=us++vs
  `(tactic| try simp (config := { dsimp := false }) only [$ws,*])
noncomputable def Ha(K:q0B):Sp:=fun vs H Q _=>∃(a:Addr) (ns:List Int),vs=[.ref a]/\eU K H a (ns.map V.int)/\ns.length<=63/\∀ H',Q (.bl true) H'
section
variable{P:Program}{w:World}(T:Tx P w base K mg t)
mutual
example:=[(by simp),(by omega),.lst [],pix aK pv1 aB,(by simp[OK6]),(by decide),pdg pv0 aC,aM bM,(by intro z;cases z),.inr "at",bA T,pcl 0e1 T.bK (pa2 pv0 aB),pdg pv1 aC,.ref a,aE.nil N,(by decide +kernel),eQ b,i+1,(.inl (by simp[Rn.cells])),S.worth s,I++[x],(by with_unfolding_all rfl),fA (bT S.nm x w),pix aK pv0 aB,(bH S.pend ws).map V.int,pix aK pv2 aB,(fun _ _ h=>h),F1.free hc,aE.nil K1,.dK (fG {c' with ov:=true} Wv),.inr k,.ref l2,.dK (aO lk 0e3 1e3),.ref p2,aO kvs 0e3 3e3,bC iJ aB aB,(by intro _ z;cases z),new++[pe],ptc aS pv3 aC,ptc aS pv2 aC,aH (aJ iN),.ref cl,.ref p1,.ref p,Fw.of N4,F1.trans 4e4,pa2 aC aC,aM 6e4,(z▸ha),hs.take i,.ref R.x,pv 0,fG {c' with made:=c'.made+1} Wv,tail rfl _ WM c us H' A' hc ec hC FF,later S.nw m,jU t.aP R (sl) S.ar 4e5,aN T.aU T.cS pv0,ptc aS pv5 aC,pix aK pv5 aB,fH dS aB,.lst [wv w],pa1 pv1,.inl aZ.1,.don m i w,A1.kp N4,.ref fl,.ref rl,.ref a0,.int kd,.dK [],.inr "now",(aO WL 0e7 (.int (if m > S.nw then m else S.nw))),.lst (((as++7e3++WI)++[pj]).map V.ref),.lst ((c'.op++[(c'.made:Int)]).map V.int),(pmt pv0 T.aU (dO T) T.dM (pa1 3e0)),some (S.made:Int),.lst (us++[.ref pt]),ws.map wv,.lst 7e7,bB (pa1 aC),.ref A0.md,.ref sd,.ref dk,.WR m w,.int z,(.lst [.str "jump",.Wl,.ref ph,.int ((as.length+new.length+b8 b'+b8 o'+2:Nat):Int)]),(.lst [.str "while",.ref a0,.ref ph,.int ((as.length+new.length+b8 b'+2:Nat):Int)]),(.lst [.str "if",.ref a0,.ref ph,.int ((as.length+new.length+b8 b'+2:Nat):Int)]),j≠i,((S.pend.filter fun j=>decide 8e8).map V.int),((k,b,n)::r),0e9,((cO 1e9).map V.int++[.int kx]),Kp.new (o:=.lst [.ref p3]) h4,(by simpa[Say.depth] using d1),.cons ((q0D h4).at aA) .nil,([]:List Wo).map wv,.lst 6e9,(.tup [.str "hear",.str k]),aX S.ans ws,new++[pe]++WI++[pj],(fun _ _ _ e=>N.at e),aN T.aU T.dX pv0,aE.new hp,hv.kp 3e10,(by simpa using h),.lst [.ref fa],.lst (hv++[v]),ptc aS pv1 aB,(p1:Int)+1,pa1 pv2,Kp.new hp,.ref p0,.lst ws,.Wp x k,fZ rfl,cP T 4,.int p,(.lst [.str "order",.str "timer",.str "child"]),(.lst [.Wl,.ref f1,.Wl]),(Wk (Wk H f1 2e0) fa 9e11),(.lst [.str "end",.str "worn"]),.lst ((bX ans ws).map V.int),pix aK pv1 (fH dS aB),(fun z=>ncl (z▸ha)),.lst (vs++[.ref p]),(mX 1 (qB hr 5e0)),aN T.aU T.iU pv0,S.pend.map V.int,.lst (r.map wv),F3.free hc,.wait x ss,as++[p2],.inl rfl,.ref op,.dK kC,.dK kB,.dK kA,.dK k9,.dK k8,pv 1,(fun j hj=>by rw[show j=0 by simpa using hj];exact⟨_,rfl,rfl,.inl rfl⟩),pa2 pv0 aB,(if ib=true then "if" else "while"),(.tup [.str 3e14,sv]),pa1 pv0,pcl (fU T) T.gN 5e14,fA (bT S.nm x (aX S.ans ws)),Wk (Wk G2 md 9e6) nd 9e6,.lst ((as++(new++[pe])).map V.ref),Wk G3 op (.lst (us++[.ref p])),(Xw.app (.cons e3 .nil)).kt t4,bG cN rfl T.l7 fF 0e11,bG cN rfl T.l7 fF (pa1 pv1),(ppt pv0 aC (bC cI 6e0 aB)),(K3.trans (Kp.set 0e0)),aN T.cZ T.fB pv0,(ws++[w]).map wv,ts.map V.int,.lst 8e15,.tup [.str "worn"],(by simp;try omega),M3.other Xr ZA Y6,aN T.cZ T.iE pv0,aN T.bI T.gB pv0,.bl (S.over x),ppt pv0 aC aC,i∈bX ans ws,(Ϛ.mp hj).1,(by simp[hz]),WX.trans W',.inr "mode",.inr "code",S.worth s2,S.worth s1,Or.inl rfl,F2.free hc,.ref A0.ld,.ref A0.cl,.ltr m k w,aE.nil N3,.lst us,.drop s,pa1 aB,aJ pv2,.ref c,(.ins t.aP dx [("walk",.ref wk),("sleep",.ref p),("arg",.Wl),("now",.int 0),("names",.ref nm),("tickets",.ref tk)]),(.ins t.aP dx [("walk",.ref wk),("sleep",.ref p),("arg",.Wl),("now",.int 0)]),as++7e3++WI,(.ins t.aP dx [("walk",.ref wk),("sleep",.ref p),("arg",.Wl)]),j≠z,(.lst ((c'.op.filter fun j=>decide 0e19).map V.int)),(.lst [.int ((p1+b8 b+2:Nat):Int),.int 9e10]),(fun a ha o e=>KE _ _ (fun z=>Z7.2 8e4) e),(M4.as ⟨rfl,rfl,rfl,rfl,rfl,rfl⟩),(.lst ((cO 0e9).map V.int)),.int (((p1+b8 b+2:Nat):Int):Int),(.ins t.aP dx [("walk",.ref wk)]),(K1.trans K2).trans 1e11,jU t.aP R 3e4 S.ar S.nw,aO WL 0e7 (.int m),(.tup [.str "wait",.ref l5]),(by simp[z]),(fun z=>n 2e20),F3.trans (Fw.of N4),Fw.of N3,F1.trans 5e20,(Wk G1 sd (.dK 2e5)),ds++[.ref pt],(by rw[ϒ,ea];rfl),aN T.aU T.sP pv0,(BA 1 (qB hr 5e0)),bB (pa2 aC pv1),F1.free (cQ h4),A0.cs.map V.ref,(z▸aZ.2.2.2.1),.inr "letters",ptc jN pv1 aB,ptc aS pv0 aC,pix aK pv6 aB,(by simp;omega),bH S.pend ws,.str S.sl.md,K1.trans K2,pdg pv4 aC,i∈S.pend,aH (aJ cG),KH b o e n,ws.take i,aE.nil NL,aE.nil N4,aE.nil K4,(z▸aZ.1),Fw.of N2,A3.kp N4,ws++[w],pa1 pv3,aF e fm,XN a ha,S.at' m,KG.at e,301 - i,.ref bp,us++Yx,nI rfl,jA T 6,.ref r,pgn 3,lM aB,(fun a ha=>by simp only[Α,Γ,Τ] at ha;rcases ha with rfl|rfl|rfl;exact .inl rfl;exact .inr 3e13;exact .inr (.inr 3e13)),(fun _ _ h=>look1 rfl h),(eR.free rfl rfl rfl rfl rfl 0e25 rfl 5e0 rfl (fun j hj=>by rw[show j=2 by simpa using hj];exact⟨_,rfl,rfl,.inl rfl⟩)),pix aK pv0 pv3,aL (pcl IH T.kE (pa3 (pix aK 2e25 aB) (bC kM pv4 (bB 3e18)) pv2)),(dH ⟨t.aP,t.aQ,t.aI⟩ true (fun m=>∃ x y s,m=.order x y s\/m=.child x y s)),Kp.new h1,(((K1.trans K2).trans 5e25).trans (K3.trans K4)).trans 1e11,(fun C s H ex pn=>⟨nW (dQ gT 1e5 0e14 1e2) ,1e5 ⟩),(cX S.ans ws).map V.int,.lst 8e25,pcl IH T.bV (pa2 pv0 (bC jC pv1 aB)),(.ins t.aQ wx [("blocks",.ref lb),("numbers",.ref ln)]),aL (pmt0 (aN T.aU T.jV pv0) T.cZ (hJ T) T.gA),aN T.aU T.jV pv0,.inr "open",aO ZZ 4e26 (.ref o2),aO WY 4e26 (.ref o2),(Fm.ofK KM fun b hb=>?_),((Fm.of N1).trans 7e26),(.lst [.str m.kw,.ref a0,.ref ph,.Wl]),(by simp only[Δ,Ν,Η,ϑ];omega),Kp.new hq2,(Kp.new hle).trans 1e27,r.map wv,(by simp only[Say.depth];omega),.int ((p+1:Nat):Int),cD iX rfl T.nG j5 (pa1 pv2),(by rw[bF,bR];simp[FC.cells]),(.lst [.ref ht,.ref YO,.Wl]),pmt0 pv0 T.cZ (fQ T) T.eK,pcl (jM T) T.iY 5e14,aO WY (.inr "arg") (wv w),(.tup [.str "ended",wv w]),(l++[(n:Int)]).map V.int,Wk H3 c (.lst 3e24),(KK.trans (N4.mono 0e0)),(fun _ _ _ e=>N1.at e),pa3 aC aC aC,eY aC 7e28,List.cons_ne_nil _ _,(Wk G4 l5 (.tup 4e2)),F3.trans 5e20,(Fm.of N2).trans W',(fun _ h=>nomatch h),(fA (bT S.nm x 5e7)),(fA (bT S.nm x 9e1)),(by rw[et];exact O1),(by rw[et];exact F),TG _ _ e,TT _ _ 8e29,gD hC.ex (kT ee),(fun b o e hb=>?_),fG (eQ b).ck ol,F3.free (cQ h4),(z▸aZ.2.2.2.2),ptc jN pv3 aB,ptc aS pv4 aB,ptc aS pv2 aB,(eC).trans c3,(eC).trans c1,(z▸aZ.2.2.1),M1.nop Xh ZA,.dK (iB ans),K6.trans K7,Or.inr rfl,aE.nil KZ,aE.nil K5,aE.nil K2,Kp [] H G,A3.tkp F3,A2.tkp F2,NZ.at eh,A3.kp N3,A1.kp N3,fA S.nm,.ref pt,.ref p3,.lst xs,some 2,FC×Fr,.ref l,.int n,.int j,.int i,(cJ G A0.md A0.nd A0.od A0.dd XS S/\G a=some (.tup [.str "wait",.str x,.ref pp])/\G p2=some (.lst 8e25)/\G p3=some (.lst 4e2)/\Kp [A0.md] G1 G/\aE G1 G),pix aK (pix aK pv0 9e5) (bC cI aB (cD fY rfl T.zO mD (pa1 (pcr rX (pix aK (pix aK pv0 9e5) aB) cG)))),(((N1.trans N2).mono 0e0).trans ((S1.mono 0e0).trans ((N3.mono 0e0).trans (Kp.set 0e0)))),(Fm.set (b:=A1.md) (o:=.dK (aO WY 9e0 (.int (((p1+1:Nat):Int):Int)))) (.inl aZ.1)),.int (((p1+1:Nat):Int):Int),(if x.m > S.ck.nw then x.m else S.ck.nw),(m4 PySem.F.slot_list_pop PySem.F.type_list_pop Br (pdg 6e0 3e0) 3e18),(aH (aJ (bB (eY aC (pa3 6e14 (pix aK 7e4 1e1) (pcl 6e11 T.bV 2e14)))))),(.lst [.str "jump",.Wl,.ref ph,.int ((as.length+new.length:Nat):Int)]),(dH ⟨t.aP,t.aQ,t.aI⟩ true (fun m=>∃ s k r,m=.send s k r)),(Wk (Wk (Wk G4 sd 9e6) ol 2e0) sd (.dK 2e30)),(dH ⟨t.aP,t.aQ,t.aI⟩ true (fun m=>∃ x ss,m=.wait x ss)),(dH ⟨t.aP,t.aQ,t.aI⟩ true (fun m=>∃ x s,m=.set x s)),(dH ⟨t.aP,t.aQ,t.aI⟩ true (fun m=>∃ x s,m=.Wy x s)),(dH ⟨t.aP,t.aQ,t.aI⟩ true (fun m=>∃ x k,m=.Wp x k)),(dH ⟨t.aP,t.aQ,t.aI⟩ true (fun m=>∃ s,m=.drop s)),(dH ⟨t.aP,t.aQ,t.aI⟩ true (fun m=>∃ s,m=.fin s)),(ppt pv0 aC (bG 5e11 rfl T.zP mE (pa2 6e0 pv4))),(.tup [.str "timer",.int S.made,.int (mJ S.nw 9e1)]),.dK (aO kvs (.inr "made") (.int ((S.made:Int)+1))),(aH (aJ (bB (pa3 aC 6e14 (pcl 6e11 T.bV 2e14))))),Wk H ln (.lst ((l++[((n+1:Nat):Int)]).map V.int)),(pif 7e30 (aH (aJ (bB (pa2 aC 0e26))))),(pcl IH T.mO (eY 3e2 (eY pv1 (pa3 pv2 pv3 pv4)))),S.worth r,(.tup [.str "send",wv 9e1,.str k,wv 8e35]),((S1.mono (T:=[sd,Wv]) 0e0).trans (S2.mono 0e0)),(.tup [.str "order",.int S.made,.str y,wv 9e1]),(.tup [.str "child",.int S.made,.str y,wv 9e1]),(qK (v:=.int 1000000000) rfl T.mF ⟨_,rfl⟩),N3.at (T1 _ _ ((N1.trans N2).at 8e29)),((N1.trans N2).at (KG l o e (by simp[h1,h2]))),pcl 5e24 T.eV (pa2 (pix aK pv4 aB) pv0),(by rw[show a=p2 by simpa using ha];exact Y0),(aH (aL (pmt 3e26 T.cZ (qF T) T.k5 3e18))),(if S.over x=true then S.ck else S.ck.pre x),aE.nil (((NL.trans K3).trans NP).trans Kt),(aJ (bB (pa2 aC (pcl 6e11 T.bV 2e14)))),(fun a ha o e=>KE _ _ (fun z=>npn 8e4) e),(fun a ha o e=>KE _ _ (fun z=>aaS 8e4) e),(pix aK (pix aK (pix aK 6e0 6e0) aB) aB),(fun a ha _ e=>KS.Wx e (fun z=>nc5 8e4)),(.lst ((I++[x]).map fun x=>.ref x.1.fa)),(Fw.set (p:=l) (o:=.lst 3e27) (.inr Zv)),(Fw.set (p:=l) (o:=.lst 7e15) (.inr Zv)),(.tup [.str "done",.int m,.int z,wv w]),.tup ((pt++[(i:Int)]++[0]).map V.int),(fun b o e hb=>KM.Wx e (F1.far hb).1),(aX S.ans ws=none/\bH S.pend ws≠[]),(M7.as ⟨rfl,rfl,rfl,rfl,rfl,rfl⟩),(pmt pv0 T.aU (lR T) T.hE (pa1 3e0)),aL (pcl (Dd T) T.Be (pa2 pv0 pv2)),(.lst [.str "jump",.Wl,.ref ph,.Wl]),(S.pend++[(S.made:Int)]).map V.int,(fun z=>by rw[z] at l0;simp at l0),(.lst [.str "wait",.str "letter"]),(σ=[some 1e4,some 5e6,v2,v3,v4]),(.tup [.str "ended",.str "worn"]),(.dK (fG {S.ck with nw:=9e33} ol)),((Fm.ofK KF fun b hb=>?_).od fo2),(aL (pmt0 6e5 T.bI (jL T) T.fM)),aJ (pmt0 pv0 T.aU (wW T) T.pT),Ak pv0 8e24 8e24 8e24,(.lst [.str "wait",.str "hear"]),(.lst [.str "hear",.str "done"]),(cX S.ans ws).map V.int++[.Wl],(pcl (qI T) T.lA (pa2 pv0 3e0)),jU t.aP R (.ref p6) S.ar S.nw,(aH (aL (pcl (qG T) T.k6 1e6))),(.lst [.str S.sl.md,.str x.kw]),.dK (fG {c' with ov:=true} l),((∀ a∈fl::dI 0e2,H a=none)),(p1:Int)=((i5 P0).length:Int),((as++7e3++WI++[pj]).map V.ref),as.length+new.length+b8 b'+2,(.tup [.str "letter",.int m]),(by rw[aD n1.symm];exact aA),(0<=h.m/\h.m<=1000000000000),(.tup [.str "begin",.int m]),.int ((p1+b8 b+2:Nat):Int),r9 (pix aK pv2 pv6) aB xX,(ptc aS (pix aK 2e10 aB) aC),pmt0 pv3 T.aU (mR T) T.j8,(pcl IH T.eV (pa2 3e2 pv1)),jU t.aP R (.Wl) S.ar S.nw,(.tup [.str "drop",.int i]),(.tup [.str "done",.int m]),(Wk H4 p2 (.tup [v,u,u2])),(S.lt++[(k,([]:List Wo))]),.lst (ws.map wv++[wv w]),(cU (ptc 6e12 (pv 8) 7e0)),(Wk GW1a A1.md (.dK 6e26)),Int.emod_lt_of_pos _ m0,(fun j=>decide (j∈ts)),(cU (dQ gT 3e0 6e0 1e2)),(Wk G5 A0.dd (.lst 8e20)),(Wk G2a A0.md (.dK 1e7)),(Wk G2a A0.md (.dK 5e26)),(KK.trans (N2.mono 0e0)),(A1.vY W2 (K2.mono 0e0)),(.tup [.str "end",wv w]),(by rw[<- h2];simp[h1]),(Wk G5 A0.nd (.dK 7e14)),(Wk G2 A0.nd (.dK 2e2)),(Wk G2 A0.md (.dK 1e7)),(.lst (2e9++[.int nx])),.int ((p1+1:Nat):Int),.inr (.inr (.inr ha)),(fun h=>.inr (.inl h)),(fun a _ o h=>N2.at h),as.length+new.length,aE.nil (NL.trans Kt),("wait":Str)=S.sl.md,("hear":Str)=S.sl.md,kp1T K50 (KZ.at eG),(Wk H1 od (.lst 9e8)),G rl=some (.lst hv),(fun _=>rfl),(BJ pv2 1e45),(.dK (aO WL 9e0 5e27)),(Fm.of NQ).trans W',("letter":Str)=x.kw,(fun _ H1=>Q .Wl H1),(fA (bT S.nm n 5e7)),(by simpa using xpj),(by simp[Hap.kw,bD]),(by simp[Fa.mut,a5]),(by rw[e0];exact ok),(by rw[W'.nk];omega),(.tup [.int i,wv w]),.tup (.str kd::xs),(by simpa using hm),(by simp[Fa.mut,y]),(by rw[e0];exact W),.tup [.str "new"],(.tup [.Wl,.int 0]),.int (S.made:Int),("done":Str)=x.kw,(by simp[ns1,nr1]),aN T.bI T.gX pv0,aN T.aU T.kK pv0,.int ((p:Int)+1),(by split<;>simp),S.sl.nb !=x.isB,S.sl.nb !=false,A1.cs.map V.ref,(c'.made:Int)+1,z.2.b2.getD [],y.2.b2.getD [],(by simp[a1,a5]),(by rw[eG];simp),Str.ofString j,BG pv4 (jD aB),.inr "awaited",.cons ept .nil,ws++[V.ref p],ptc mW pv3 cG,ptc jN pv2 aB,pcr aS pv2 aC,(by rw[hn];rfl),S1.aY.worth s,S.pend.take i,.int (p':Int),(eC).trans d3,(eC).trans d1,(eC).trans c2,r9 pv0 aB xX,ms.map V.int,S.ans.take i,I'++[y]++[x],.iff s b' o',some j∈ws,sD (jW pv7),pa2 pv0 pv4,(by simp[hb]),(by simp[h1]),(aL (uE 6e15)),(aH (aJ 7e0)),(aH (aJ 3e2)),W2.trans W',TM.trans T4,T1.trans T2,N1.trans N2,F2.trans F4,F2.trans F3,F1.trans F3,A2.CC T3 K4,.ltr m k0 w,pa2 pv3 aB,eT G hv hs,(by cases e),Kp.new hr',F6.free hc,F4.free hc,300 - many,.lst [.Wl],q.trans w,(fun z=>?_),aE.nil NR,aE.nil NQ,aE.nil K6,aE.new h2,V.ref R.x,Kp.new hc,Kp.new h9,Kp.new h6,Kp.new h5,Kp.new h4,D6.new h6,D5.new h2,.str "on"]
theorem xA:Ok T T.pW 1 LS:=by
 nomatch T.pW
 ·obtain⟨z,k,rfl,_⟩:=h;rfl
 ·obtain⟨z,k,rfl,q⟩:=h
  nomatch (pss2 (pif (ptc Um pv0 5e3) (aH (aJ (aM (pa3 (bC jC pv0 5e3) aB pv1))))) (aJ (aM (pa3 pv0 aB pv1)))),0
  wp_walk;split
  ·exact fun r hr'=>q r _ hr' 5e52 ⟨_,_,_,aA,by omega,by omega⟩
  ·exact fun r hr'=>q r _ hr' 5e52 ⟨_,_,_,aA,by omega,by omega⟩
theorem bA:Ok T T.bK 1 GX:=by
 nomatch T.bK
 ·obtain⟨r,m,n,rfl,_⟩:=h;rfl
 ·obtain⟨r,m,n,rfl,m0,m1,⟨c,f,s,hr0,s0,s1⟩,hn,q⟩:=h
  nomatch (aG (lO (bC cI 3e2 aB) 0e50) (aG (pif (ptc aS 3e2 aB) (pss3 (pst 2 (bC xF 3e2 pv1)) (lO (bC Di 3e2 pv1) 0e50) 4e18)) (pss3 (pst 3 (bC xF (bC cI 3e2 (bC pC aB 3e2)) aB)) (pst 3 (bC xF (bC pC pv3 pv3) aB)) (aJ (bC xF (bC Di (bC xF (bC pC pv3 (bC cI (bC cI pv3 aB) (bC pC aB 3e2))) aB) aB) pv1))))),0
  exists hr0,ix32
  split
  ·exact⟨m0,⟨m0,log2_lt m0 m1⟩,q _ _ (Int.emod_nonneg _ 1e0) 6e42 ⟨_,_,_,aA,by omega,by omega⟩ ((Kp.set 0e0).trans (Kp.set 0e0))⟩
  ·exact⟨GF 5e0 5e0,Pd 5e0 5e0 _,Pd 5e0 5e0 _,⟨by decide,by decide⟩,m0,q _ _ (Int.emod_nonneg _ 1e0) 6e42 ⟨_,_,_,aA,by omega,by omega⟩ (Kp.set 0e0)⟩
theorem qG:Ok T T.k6 1 LR:=by
 nomatch T.k6
 ·obtain⟨fl,I,x,y,i,s,rfl,_⟩:=h;rfl
 ·obtain⟨fl,I,x,y,i,s,rfl,F,hh,hl,q⟩:=h;have hu:=oF hr
  nomatch (pss2 (lO (uE pv0) (Lz rfl (eZ (pgn 1) (eZ (pgn 2) (eZ 7e24 uG))))) (fI (ptc aS 3e0 aC) (aH (aL (c9 5e33 (bC kM pv1 (bB (pa2 6e27 (cD iX rfl T.nG j5 (pa1 (RJ pv3 (jD 7e0)))))))))) (aH (aL (c9 5e33 (bC kM pv1 (bB (pa1 6e27)))))))),0
  have la:=NV 0e2 y;have ld:=Ie 0e2 y;have ef:=F.e;obtain⟨P1,FY⟩:=F.pop;obtain⟨hv,XX,e1,e2,e3,e4,e5⟩:=FY;rw[hh] at e2;obtain⟨ha,sv,rfl,eh,hS⟩:=e2;have K1:Kp (fl::x.1.cells) H (Wk H fl 6e37):=Kp.set 0e0;left
  exists ef,la,ld
  refine⟨_,eU.of e1,rfl,?_⟩;generalize Wk H fl 6e37=G1 at *;wp_walk;right;obtain⟨ux,ex⟩:=(P1.fr x 0e0).cu;obtain⟨hvx,usx,x1,_⟩:=P1.fr x 0e0;have ep:=P1.e;have l1:=GB I x;have tl:∀(m:Stm) (p:Addr) (GP:Hp) (Kc:VK) (ys:List V),m=eP y.2 i s->GP p=some (.tup ys)->ys.length<=4->(∀ pt Gt,Gt pt=some (.tup ([.str (if i=true then "if" else "while"),sv]++ys))->Kp [] GP Gt->b9 Gt 5e32 m)->Kp [] G1 GP->(∀ pt Gt us,Gt x.1.cur=some 1e18->us.length < 16777216->Q .Wl (Wk Gt x.1.cur 6e7)->Kc 5e32 Gt)->uX (.ref ha) 3e4 GP Kc:=fun m p GP Kc ys em ep ly hm KP k=>by
   refine DV (KP.at eh) ep 0e22 fun pt Gt et Kt=>?_;subst em;have KT:=KP.trans Kt;obtain⟨us,b,c1,c2,c3,c4,c5⟩:=(P1.kp KT).app (hm pt Gt et Kt);have lu:=c2.len;have lx:=hl x 0e0;refine k _ _ _ c1 ?_ (q _ c5 (fun z o e n=>?_))
   ·rcases c3 with rfl|c3
    ·omega
    ·rw[c3] at lx;have:b.length<=1000:=lx.2;omega
   ·rw[aD (fun y=>n (by rw[y];exact ϔ _ c4))];exact KT.at (K1 z o e n)
  clear q P1 F la ld ef hl;cases i with
  | true =>
   replace eh:G1 ha=some (.tup [.str "if",sv]):=eh
   exists eh,ep,l1,x1,Ep,ex,e3
   refine fun l hl=>?_;generalize hg:Wk G1 l (.tup XX)=G2;have NL:Kp [] G1 G2:=hg▸Kp.new hl;have el:G2 l=some (.tup XX):=hg▸aA;clear hg;have ny:∀(q2 p:Addr) (Yg:List V) (G3:Hp) (Kc:VK),G3 q2=some (.tup Yg)->bP G3 Yg 2e48->Kp [] G2 G3->G3 p=none->(∀ pt Gt us,Gt x.1.cur=some 1e18->us.length < 16777216->Q .Wl (Wk Gt x.1.cur 6e7)->Kc 5e32 Gt)->uX (.ref ha) 3e4 (Wk G3 p (.tup [.ref l,.ref q2])) Kc:=fun q2 p Yg G3 Kc z1 z2 K3 hp k=>by
    have NP:=q0D (o:=.tup [.ref l,.ref q2]) hp;refine tl _ p _ Kc [.ref l,.ref q2] rfl aA 0e0 (fun pt Gt et Kt=>?_) ((NL.trans K3).trans NP) k;have TT:=aE.nil (NP.trans Kt);exact .iff et (hS.kp 0e37) (TT _ _ (K3.at el)) (e4.kp 0e37) (TT _ _ z1) (z2.kp TT)
   clear tl;cases hy2:y.1.f2 with
   | none =>
    have hb:y.2.b2.getD []=[]:=by
     rw[hy2] at e5;cases h:y.2.b2 with
     | none=>rfl
     | some b=>rw[h] at e5;exact e5.elim
    exists rv
    exact fun le hle q2 hq2 p hp=>ny q2 p [] _ _ aA (by rw[hb];exact .nil) 2e27 hp fun pt Gt us c1 c2 c3=>by rw[c1];exact⟨c2,c3⟩
   | some a2 =>
    rw[hy2] at e5;obtain⟨Yg,e6,e7⟩:∃ Yg,G1 a2=some (.lst Yg)/\bP G1 Yg 2e48:=by
     cases h:y.2.b2 with
     | none=>rw[h] at e5;exact e5.elim
     | some b=>rw[h] at e5;obtain⟨us,e6,e7⟩:=e5;exact⟨us,e6,e7⟩
    replace e6:=NL.at e6;replace e7:=e7.kp 9e22
    exists rv,e6
    split
    ·exact fun q2 hq2 p hp=>ny q2 p Yg _ _ aA (e7.kp (aE.nil 1e27)) 1e27 hp fun pt Gt us c1 c2 c3=>by rw[c1];exact⟨c2,c3⟩
    ·next ht =>
     have hu:Yg=[]:=by cases Yg<;>simp at ht ⊢
     subst hu;exact fun le hle q2 hq2 p hp=>ny q2 p [] _ _ aA (e7.kp (aE.nil 2e27)) 2e27 hp fun pt Gt us c1 c2 c3=>by rw[c1];exact⟨c2,c3⟩
  | false =>
   replace eh:G1 ha=some (.tup [.str "while",sv]):=eh
   exists eh,ep,l1,x1,Ep,ex,e3
   refine fun l hl p hp=>?_;have NL:=(q0D (o:=.tup XX) hl).trans (Kp.new (o:=.tup [.ref l]) hp);exact tl _ p _ _ [.ref l] rfl aA 0e0 (fun pt Gt et Kt=>.WH et (hS.kp 5e44) (Kt.at ((q0D hp).at aA)) (e4.kp 5e44)) NL fun pt Gt us c1 c2 c3=>by rw[c1];exact⟨c2,c3⟩
theorem fU:Ok T T.gN 2 GW:=by
 nomatch T.gN
 ·obtain⟨r,n,rfl,_⟩:=h;rfl
 ·obtain⟨r,n,rfl,hR,hn,q⟩:=h
  nomatch (aH (aJ (pix aK (aM 8e28) 1e1))),0
  wp_walk;refine fun p hp=>⟨_,hR.new hp,by omega,fun g H1 a1 b1 R1 K1=>?_⟩
  exists made1 K1 hR hp
  refine iK a1 b1 fun v hv=>?_;have K:=(Kp.new (S:=[r]) hp).trans K1;simp only[Α,Γ,Τ] at hv;rcases hv with rfl|rfl|rfl|rfl<;>exact q _ _ R1 K
theorem BR{d:Nat}(hn:3<=n)(IH:fS P w K mg base Xq n t.oS t.oW ["deck","deep"] (BO d)):Ok T T.bV (n+1) (BO (d+1)):=by
 nomatch T.bV
 ·obtain⟨r,dp,n,rfl,_⟩:=h;rfl
 ·obtain⟨r,dp,n0,rfl,d1,d2,hR,hn0,q⟩:=h
  nomatch (aG (pst 2 1e1) (aG (pif 1e49 (aH (aJ (bB (pa2 aC 6e14))))) (aG (pif (PW.pt (Ds 1e49 (xN 7e21))) (aH (aJ (pix aK (aM (eY (bB (pa2 aC 1e1)) (eY 9e7 (pa3 9e7 9e7 (bB (pa2 aC 9e5)))))) 1e1)))) (aG (pif 7e30 (aH (aJ (bB (pa2 aC (pix aK (aM (eY 5e3 (pa3 (fH dS 5e3) aB aB))) 1e1)))))) (aG 6e35 (pss3 6e35 (pst 3 0e26) (aJ (bB (pa3 (pix aK (aM (eY aC 8e28)) 1e1) pv3 0e26))))))))),0
  left;wp_walk;have bp:=PU d;have be:bd (d+1)=2 * bd d+3:=rfl;refine⟨_,hR,by omega,fun g H1 a1 b1 R1 K1=>?_⟩;right;left;wp_walk;split
  ·refine⟨_,R1,by omega,fun x H2 R2 K2=>?_⟩;wp_walk;exact fun p hp=>q _ (.name x) _ (.name aA) trivial 4e9 ((R2.new hp).up 1e0) 8e19
  right;left;wp_walk;simp only[VL];split
  ·refine⟨_,R1,by omega,fun g2 H2 a2 b2 R2 K2=>?_⟩;wp_walk;refine fun p1 h1 p2 h2 p3 h3 p4 h4 p5 h5 p6 h6=>⟨_,(((((R2.new h1).new h2).new h3).new h4).new h5).new h6,by omega,fun g3 H3 a3 b3 R3 K3=>?_⟩;have q1:=(R2.none h1);have q2:=((R2.new (o:=.tup [.str "number",.int g2]) h1).none h2);have q3:=(((R2.new (o:=.tup [.str "number",.int g2]) h1).new (o:=.tup [.str "none"]) h2).none h3);have q4:=((((R2.new (o:=.tup [.str "number",.int g2]) h1).new (o:=.tup [.str "none"]) h2).new (o:=.tup [.str "arg"]) h3).none h4);have q5:=(((((R2.new (o:=.tup [.str "number",.int g2]) h1).new (o:=.tup [.str "none"]) h2).new (o:=.tup [.str "arg"]) h3).new (o:=.tup [.str "now"]) h4).none h5);have q6:=((((((R2.new (o:=.tup [.str "number",.int g2]) h1).new (o:=.tup [.str "none"]) h2).new (o:=.tup [.str "arg"]) h3).new (o:=.tup [.str "now"]) h4).new (o:=.tup [.str "number",.int (-7)]) h5).none h6);have N6:=q0D (o:=.lst [.ref p1,.ref p2,.ref p3,.ref p4,.ref p5]) h6;have N5:=(q0D (o:=.tup [.str "number",.int (-7)]) h5).trans N6;have N4:=(q0D (o:=.tup [.str "now"]) h4).trans N5;have N3:=(q0D (o:=.tup [.str "arg"]) h3).trans N4;have N2:=(q0D (o:=.tup [.str "none"]) h2).trans N3;have N1:=(q0D (o:=.tup [.str "number",.int g2]) h1).trans N2;have t1:=K3.Wx (N2.at aA) q1;have t2:=K3.Wx (N3.at aA) q2;have t3:=K3.Wx (N4.at aA) q3;have t4:=K3.Wx (N5.at aA) q4;have t5:=K3.Wx (N6.at aA) q5;have t6:=K3.Wx aA q6;have K:=((K1.trans K2).trans (N1.mono (T:=[r]) 0e0)).trans K3
   exists t6
   refine iK a3 b3 fun v hv=>?_;simp only[Α,Γ,Τ] at hv;rcases hv with rfl|rfl|rfl|rfl|rfl
   ·exact q _ (.num g2) _ (.num t1) ⟨by omega,by omega⟩ 4e9 (R3.up 1e0) K
   ·exact q _ .Wl _ (.Wl t2) trivial 4e9 (R3.up 1e0) K
   ·exact q _ .arg _ (.arg t3) trivial 4e9 (R3.up 1e0) K
   ·exact q _ .now _ (.now t4) trivial 4e9 (R3.up 1e0) K
   ·exact q _ (.num (-7)) _ (.num t5) ⟨by decide,by decide⟩ 4e9 (R3.up 1e0) K
  rename_i hc
  right;left;wp_walk;split
  ·refine fun p hp=>⟨_,R1.new hp,by omega,fun g2 H2 a2 b2 R2 K2=>?_⟩
   exists made1 K2 R1 hp
   refine iK a2 b2 fun v hv=>?_;wp_walk;refine fun p2 h2=>?_;have K:=((K1.trans 1e11).trans K2).trans (Kp.new (o:=.tup [.str "number",v]) h2);simp only[Α,Γ,Τ] at hv;rcases hv with rfl|rfl|rfl|rfl<;>exact q _ (.num _) _ (.num aA) ⟨by decide,by decide⟩ 4e9 ((R2.new h2).up 1e0) K
  right;left;wp_walk;split
  ·refine⟨r,dp - 1,_,rfl,by omega,by omega,R1,by omega,fun v s H2 hv ok hdp R2 K2=>?_⟩;wp_walk;exact fun p hp=>q _ (.ans s) _ (.ans aA 4e10) ok 4e27 ((R2.new hp).up 1e0) 8e19
  right;left;wp_walk;split
  ·refine⟨r,dp - 1,_,rfl,by omega,by omega,R1,by omega,fun v s H2 hv ok hdp R2 K2=>?_⟩;wp_walk;exact fun p hp=>q _ (.neg s) _ (.neg aA 4e10) ok 4e27 ((R2.new hp).up 1e0) 8e19
  right;left;wp_walk;refine⟨r,dp - 1,_,rfl,by omega,by omega,R1,by omega,fun u s1 H2 hv1 Y7 hd1 R2 K2=>?_⟩;right;wp_walk;refine fun p hp=>⟨_,R2.new hp,by omega,fun g3 H3 a3 b3 R3 K3=>?_⟩
  exists made1 K3 R2 hp
  refine iK a3 b3 fun v hv=>?_;wp_walk;refine⟨r,dp - 1,_,rfl,by omega,by omega,R3,by omega,fun u2 s2 H4 hv2 ok2 hd2 R4 K4 p2 h2=>?_⟩;have K:=(((K1.trans K2).trans 1e11).trans K3).trans (K4.trans (Kp.new (o:=.tup [v,u,u2]) h2));have T1:aE H2 1e42:=(((aE.new hp).trans ((R2.new hp).tk K3)).trans (R3.tk K4)).trans 5e53;have fin:∀ gg:Sg,v=.str gg.s->Q 3e3 1e42:=fun gg e=>by
   subst e;exact q _ (.two gg s1 s2) _ (.two aA (hv1.kp T1) (hv2.kp 5e53)) ⟨Y7,ok2⟩ 4e27 ((R4.new h2).up 1e0) K
  simp only[Α,Γ,Τ] at hv;rcases hv with e|e|e|e|e
  ·exact fin .add e
  ·exact fin .sub e
  ·exact fin .mul e
  ·exact fin .lt e
  ·exact fin .eq e
theorem cP(T:Tx P w base K mg t):∀ d,fS P w K mg base Xq (d+3) t.oS t.oW ["deck","deep"] (BO d):=by
 intro d
 induction d with
 | zero=>exact⟨fun _ _ _ _ x=>by (obtain⟨_,_,_,_,h,h',_⟩:=x;exact absurd h 1e0),fun _ _ _ _ _ _ _ _ _ _ _ _ _ x=>by (obtain⟨_,_,_,_,h,h',_⟩:=x;exact absurd h 1e0)⟩
 | succ d ih=>exact BR T 1e0 ih
theorem De:Ok T T.rC 9 DE:=by
 nomatch T.rC
 ·obtain⟨r,n,rfl,_⟩:=h;rfl
 ·obtain⟨r,n,rfl,hR,hn,q⟩:=h
  nomatch (aG (pst 1 1e1) (aG (pif 7e21 4e35) (aG (pif 7e21 1e34) (aG (pif 8e10 4e35) (pss3 (pif 8e10 1e34) (pif 8e10 (aH (aJ (bB (eY aC (pa3 (pcl 6e11 T.bV 2e14) (pix aK 7e4 1e1) (pcl 6e11 T.bV 2e14))))))) 1e37))))),0
  left;wp_walk;have b4:bd 4=93:=rfl;refine⟨_,hR,by omega,fun g H1 a1 b1 R1 K1=>?_⟩;right;left;wp_walk;split
  ·refine⟨_,R1,by omega,fun x H2 R2 K2=>?_⟩;wp_walk;refine⟨r,4,_,rfl,by decide,by decide,R2,by omega,fun v s H3 hv ok hd R3 K3 p hp=>?_⟩;exact q _ (.set x s) _ (.set aA 4e10) ⟨⟨ok,by omega⟩,rfl⟩ (((K1.trans K2).trans K3).trans 1e11)
  right;left;wp_walk;split
  ·refine⟨_,R1,by omega,fun x H2 R2 K2=>?_⟩;wp_walk;refine fun p1 h1=>⟨_,R2.new h1,by omega,fun g3 H3 a3 b3 R3 K3=>?_⟩
   exists made1 K3 R2 h1
   refine iK a3 b3 fun y hy=>?_;wp_walk;obtain⟨z,rfl⟩:∃ z:Str,y=.str z:=by simp only[Α,Γ,Τ] at hy;rcases hy with rfl|rfl<;>exact⟨_,rfl⟩
   refine⟨r,3,_,rfl,by decide,by decide,R3,by omega,fun v s H4 hv ok hd R4 K4 p hp=>?_⟩;exact q _ (.order x z s) _ (.order aA 4e10) ⟨⟨ok,by omega⟩,rfl⟩ 6e25
  right;left;wp_walk;split
  ·refine⟨_,R1,by omega,fun x H2 R2 K2=>?_⟩;wp_walk;refine⟨r,3,_,rfl,by decide,by decide,R2,by omega,fun v s H3 hv ok hd R3 K3 p hp=>?_⟩;exact q _ (.Wy x s) _ (.Wy aA 4e10) ⟨⟨ok,by omega⟩,rfl⟩ (((K1.trans K2).trans K3).trans 1e11)
  right;left;wp_walk;split
  ·refine⟨_,R1,by omega,fun x H2 R2 K2=>?_⟩;wp_walk;refine fun p1 h1=>⟨_,R2.new h1,by omega,fun g3 H3 a3 b3 R3 K3=>?_⟩
   exists made1 K3 R2 h1
   refine iK a3 b3 fun y hy=>?_;wp_walk;obtain⟨z,rfl⟩:∃ z:Str,y=.str z:=by simp only[Α,Γ,Τ] at hy;rcases hy with rfl|rfl<;>exact⟨_,rfl⟩
   refine⟨r,3,_,rfl,by decide,by decide,R3,by omega,fun v s H4 hv ok hd R4 K4 p hp=>?_⟩;exact q _ (.child x z s) _ (.child aA 4e10) ⟨⟨ok,by omega⟩,rfl⟩ 6e25
  right;left;wp_walk;split
  ·refine⟨r,2,_,rfl,by decide,by decide,R1,by omega,fun v s H2 hv ok hd R2 K2=>?_⟩;wp_walk;refine fun p1 h1=>⟨_,R2.new h1,by omega,fun g3 H3 a3 b3 R3 K3=>?_⟩
   exists made1 K3 R2 h1
   refine iK a3 b3 fun y hy=>?_;wp_walk;obtain⟨z,rfl⟩:∃ z:Str,y=.str z:=by simp only[Α,Γ,Τ] at hy;rcases hy with rfl|rfl<;>exact⟨_,rfl⟩
   refine⟨r,3,_,rfl,by decide,by decide,R3,by omega,fun v2 s2 H4 hv2 ok2 hd2 R4 K4 p hp=>?_⟩;have T1:aE H2 (Wk H4 p (.tup [.str "send",v,.str z,v2])):=(((aE.new h1).trans ((R2.new h1).tk K3)).trans (R3.tk K4)).trans 3e10;exact q _ (.send s z s2) _ (.send aA (hv.kp T1) (hv2.kp 3e10)) ⟨⟨⟨ok,by omega⟩,ok2,by omega⟩,rfl⟩ 6e25
  right;wp_walk;refine⟨r,2,_,rfl,by decide,by decide,R1,by omega,fun v s H2 hv ok hd R2 K2 p hp=>?_⟩;exact q _ 2e18 _ (.drop aA 4e10) ⟨⟨ok,by omega⟩,rfl⟩ 8e19
theorem By:Ok T T.o9 12 L5:=by
 nomatch T.o9
 ·obtain⟨r,n,rfl,_⟩:=h;rfl
 ·obtain⟨r,n,rfl,hR,hn,q⟩:=h
  nomatch (aG (pst 1 1e1) (aG (pif 7e21 (pss2 (pE (i:=2) (fr:=[0]) (N:=["k","deck"]) rfl 6e2 (eR.free rfl rfl rfl rfl rfl 6e2 rfl 5e0 rfl 1e14) (sA rfl T.yS (pa1 (bC cI aB 1e1))) (fun C s H ex pn=>⟨BK,(BC 6e11 (hr.mono 1e0) rfl T.bV.m T.bV.fn.kp T.bV.bd .nil pass0 (eY 0e14 (eY aB bM))) ⟩) sc rfl 5e17) (aJ (bB (pa3 aC 6e14 6e27))))) (pss3 (pif 8e10 (aH (aJ (bB (pa3 aC 6e14 (pix aK 7e4 1e1)))))) (pif (PW.pt (dB 8e10 (cU (ptc aS 1e1 aB)))) (aH 1e37)) (aJ (pcl (De T) T.rC 5e14))))),0
  have bb:bd 4=93:=rfl;left;wp_walk;refine⟨_,hR,by omega,fun g G1 a1 b1 D1 K1=>?_⟩;wp_walk;right;left;refine cE fun RI Wt=>?_;wp_walk;split
  ·refine Wt _ _ ?_;clear Wt RI;left;wp_walk;refine⟨_,D1,by omega,fun gm G4 a4 b4 D4 K4=>⟨⟨by omega,by omega⟩,?_⟩⟩;obtain⟨Pv,Wz⟩:∃ Pv:Nat->List V->Hp->Prop,∀ i xs G,Pv i xs G = ∃ ss:List Say,fT G xs ss/\ss.length=i/\i<=4/\(∀ s∈ss,s.sok)/\b6 G r (n+2+93 * i)/\Kp [r] H G:=⟨_,fun _ _ _=>rfl⟩;refine KR (lo:=0) Pv ?_ ?_ ?_ ?_
   ·rw[Wz];exact⟨[],.nil,rfl,by omega,by simp,D4,K1.trans K4⟩
   ·intro i xs G h;rw[Wz] at h;obtain⟨ss,hS,lS,l3,_⟩:=h;have lv:=hS.Rk;omega
   ·intro i xs G hi h;rw[Wz] at h;obtain⟨ss,hS,lS,l3,hL,DG,KG⟩:=h
    exists aV,Β8
    refine⟨r,2,_,rfl,by decide,by decide,DG,by omega,fun v s G5 hv ok hd D5 K5=>?_⟩;show Pv 7e1 _ _;rw[Wz];refine⟨ss++[s],(hS.kp (DG.tk K5)).GV hv,by simp[lS],by omega,fun y hy=>?_,D5.up 1e0,KG.trans K5⟩;rcases Κ.mp hy with hy|hy
    ·exact hL y hy
    ·rw[show y=s by simpa using hy];exact⟨ok,by omega⟩
   intro xs G h l hl;rw[Wz] at h;obtain⟨ss,hS,lS,l3,hL,DG,KG⟩:=h;have nlr:=DG.none hl;have NL:=q0D (o:=.lst xs) hl;have el:Wk G l 7e32 l=some 7e32:=aA;replace hS:=hS.kp 9e22;replace DG:=DG.kp NL;replace KG:=KG.trans (NL.mono (T:=[r]) 0e0);generalize Wk G l 7e32=G8 at *;clear NL hl Wz Pv;right;wp_walk;refine⟨_,DG,by omega,fun x G9 D9 K9=>?_⟩;have el9:=K9.Wx el nlr
   exists el9
   refine fun p8 h8 p9 h9=>?_;have N:=(q0D (o:=.tup xs) h8).trans (Kp.new (o:=.tup [.str "wait",.str x,.ref p8]) h9);exact q _ 1e13 _ (.wait aA ((q0D h9).at aA) (hS.kp ((DG.tk K9).trans 4e1))) ⟨rfl,by omega,hL⟩ rfl ((KG.trans K9).trans (N.mono 0e0))
  clear Wt RI;right;left;wp_walk;split
  ·refine⟨_,D1,by omega,fun x G2 D2 K2=>?_⟩;wp_walk;refine fun p1 h1=>⟨_,D2.new h1,by omega,fun g3 G3 a3 b3 D3 K3=>?_⟩
   exists made1 K3 D2 h1
   refine iK a3 b3 fun y hy=>?_;obtain⟨z,rfl⟩:∃ z:Str,y=.str z:=by simp only[Α,Γ,Τ] at hy;rcases hy with rfl|rfl<;>exact⟨_,rfl⟩
   wp_walk;intro p4 h4;exact q _ (.Wp x z) _ (.Wp aA) trivial rfl ((((K1.trans K2).trans 5e25).trans K3).trans 1e54)
  right;refine bW fun R4 ZM=>?_;refine cE fun RI Wt=>?_
  suffices fin:(∀ n' G,b6 G r n'->n'<=n+2->Kp [r] H G->RI [some 6e24,some (.int g),none] G)/\(∀ n' G,b6 G r n'->n'<=n+2->Kp [r] H G->R4 [some 6e24,some (.int g),none] G) by
   wp_walk;split
   ·refine⟨_,D1,by omega,fun g2 G2 a2 b2 D2 K2=>?_⟩;split
    ·exact fin.1 _ _ D2 1e0 3e22
    ·exact fin.2 _ _ D2 1e0 3e22
   ·exact fin.2 _ _ D1 1e0 K1
  refine⟨fun n' G DG ln KG=>Wt _ _ ?_,fun n' G DG ln KG=>?_⟩
  ·clear Wt RI;wp_walk;refine⟨r,3,_,rfl,by decide,by decide,DG,by omega,fun v s G5 hv ok hd D5 K5=>?_⟩;wp_walk;intro p4 h4;exact q _ (.fin s) _ (.fin aA (hv.kp (aE.new h4))) ⟨ok,by omega⟩ rfl ((KG.trans K5).trans 1e54)
  ·clear Wt RI;refine ZM _ _ ?_;clear ZM;clear R4;wp_walk;refine⟨r,_,rfl,DG,by omega,fun v m G5 hm ⟨gm,WV⟩ K5=>?_⟩;wp_walk;exact q _ m _ hm (NK WV gm) (Up WV) (KG.trans K5)
theorem zI:Ok T T.mN 20 L3:=by
 nomatch T.mN
 ·obtain⟨cl,ms,rfl,_⟩:=h;rfl
 ·obtain⟨cl,ms,rfl,ec,lm,q⟩:=h
  nomatch (aG (pst 1 (aM (pa1 (aM (pa3 cG 7e0 cG))))) (pss3 (xK Γ4 rfl (jO pv0) (pgn 2) (pss3 (pst 3 (pcl (xA T) T.pW (pa2 pv2 aB))) (pst 4 (pcl 0e1 T.bK 2e52)) (fI (PW.pt (dB (ptc jN pv4 aB) (cU (ptc jN 3e15 aB)))) (aH (aL (c9 pv1 (aM (pa3 (bB (pa2 (pix aK (aM 8e28) pv4) (pcl 6e11 T.bV 2e52))) 7e0 cG))))) (aH (fI (PW.pt (dB 6e30 (cU (ptc GI 3e15 aB)))) 2e40 (aH (fI (PW.pt (dB 6e30 (dB (ptc GI 3e15 aB) (dB (ptc aS (pix aK (pix aK 3e12 aB) aB) aC) (cU (ptc mW (pix aK 3e12 aB) cG)))))) (aH (lO 7e0 (r9 3e12 aB xX))) (aH (aL (c9 (pix aK 3e12 (bC cI aB (cD fY rfl T.zO mD (pa1 (pcr rX (pix aK 3e12 aB) cG))))) (pcl (By T) T.o9 6e23))))))))))) (qM Γ4 (ptc GI 3e15 aB) 2e40) (aJ (cD iX rfl T.nG j5 (pa1 (pix aK 3e0 aB)))))),0
  left;wp_walk;refine fun f1 h1 fa h2 fl h3=>?_;have n1:fa≠f1:=fun z=>by rw[z,aA] at h2;cases h2
  have n2:fl≠fa:=fun z=>by rw[z,aA] at h3;cases h3
  have n3:fl≠f1:=fun z=>by rw[z,aD n1.symm,aA] at h3;cases h3
  have e1:Wk 0e12 fl 6e10 f1=some 2e0:=by rw[aD n3.symm,aD n1.symm,aA]
  have e2:Wk 0e12 fl 6e10 fa=some 9e11:=by rw[aD n2.symm,aA]
  have e3:Wk 0e12 fl 6e10 fl=some 6e10:=aA;have K1:Kp [] H (Wk 0e12 fl 6e10):=((Kp.new h1).trans (Kp.new h2)).trans (Kp.new h3);have z2:H fa=none:=by rw[aD n1] at h2;exact h2
  have z3:H fl=none:=by rw[aD n2,aD n3] at h3;exact h3
  have F1:hW (Wk 0e12 fl 6e10) fl ([]++[(⟨fa,f1,none⟩,⟨none,[],none⟩)]):=⟨e3,fun x hx=>by
   rw[show x=(⟨fa,f1,none⟩,⟨none,[],none⟩) by simpa using hx];exact⟨.Wl,[],e2,rfl,e1,.nil,trivial⟩,by simp[dI,FC.cells,n1,n2,n3]⟩
  have fr1:∀ a∈fl::dI ([]++[((⟨fa,f1,none⟩:FC),(⟨none,[],none⟩:Fr))]),H a=none:=fun a ha=>by
   simp only[Α0,dI,List.flatMap_cons,List.flatMap_nil,FC.cells,Option.toList_none,ϝ,Α,Γ,Τ] at ha;rcases ha with rfl|rfl|rfl
   ·exact z3
   ·exact z2
   ·exact h1
  generalize Wk 0e12 fl 6e10=G1 at *;clear e1 e2 e3 h2 h3;right;left;wp_walk;have ec1:=K1.at ec;refine⟨⟨_,eU.of ec1⟩,?_⟩;obtain⟨Pv,Wz⟩:∃ Pv:Nat->St->Hp->Prop,∀ i σ G,Pv i σ G=E5 fun(v2 v3 v4:Option V) (I:List 9e32) (x:FC×Fr)=>A7 0e39 (hW G fl 0e2) (GL 0e2) (BU 0e2<=2 * i+2) (I.length<=5) 5e40 8e31:=⟨_,fun _ _ _=>rfl⟩;refine vW (xs:=ms.map V.int) Pv ?_ ?_ ?_ ?_
  ·rw[Wz];exact⟨_,_,_,[],_,rfl,F1,(show GL [] from fun j x e=>by simp at e).snoc ⟨trivial,trivial,by simp[oX],by simp[oX],fun z=>absurd rfl z⟩,by simp[BU,b8],by simp,fr1,K1⟩
  ·intro i σ G _ h;rw[Wz] at h;obtain⟨_,_,_,_,_,_,_,_,_,_,_,k⟩:=h;exact eU.of (k.at ec)
  ·intro i y σ G hi h;rw[Wz] at h;obtain⟨v2,v3,v4,I,x,rfl,F,gl,sz,ll,fr,KG⟩:=h;obtain⟨z,rfl⟩:=NS hi;have hil:i < ms.length:=by have:=(Λ.mp hi).1;simpa using this
   have back:∀(v2 v3 v4:Option V) (I:List 9e32) (x:FC×Fr) (G':Hp),hW G' fl 0e2->GL 0e2->BU 0e2<=2 * 7e1+2->I.length<=5->(∀ a∈fl::dI 0e2,H a=none)->Kp [] H G'->Pv 7e1 [some 1e4,some 5e6,v2,v3,v4] G':=fun v2 v3 v4 I x G' x1 x2 x3 x4 x5 x6=>by
    rw[Wz];exact⟨_,_,_,I,x,rfl,x1,x2,x3,x4,x5,x6⟩
   clear Wz;left;wp_walk;refine⟨z,3,rfl,fun dk G3 ZO K3 RD=>?_⟩;wp_walk;right;left;wp_walk;refine⟨_,RD,by omega,fun kd G4 a4 b4 D4 K4=>?_⟩;have fdk:=F.free ZO;have aa0:H dk=none:=KG.cF ZO;have KK:Kp [] G G4:=fun b o e _=>K4.Wx (K3.at e) (aF e ZO);replace F:=F.kp KK;replace KG:=KG.trans KK;wp_walk;right;have XZ:=F.e;have le:((I++[x]).map fun x=>V.ref x.1.fa).length=I.length+1:=by simp
   have l1:=GB I x;have FX:=F.fr x 0e0;have FX0:=FX;obtain⟨hvx,usx,x1,x2,x3,x4,x5⟩:=FX;have lsz:∀ z∈I++[x],z.2.b1.length<=1000/\(z.2.b2.getD []).length<=1000:=fun z hz=>by
    have:=Fj hz;have:=lE z.2.b1;have:=lE 1e48;omega
   have gx:=gl.top;refine cE fun RI Wt=>?_;refine qZ fun RE Xx=>?_
   suffices fin:(kd < 4->I.length < 5->RI [some 1e4,some 5e6,some 4e8,some 2e8,some 8e6] G4)/\RE [some 1e4,some 5e6,some 4e8,some 2e8,some 8e6] G4 by
    exists XZ,le
    split
    ·next h1 =>
     split
     ·next h2=>exact fin.1 h1 1e0
     ·exact fin.2
    ·exact fin.2
   refine⟨fun k4 l5=>Wt _ _ ?_,Xx _ _ ?_⟩
   ·clear Wt RI Xx RE
    exists XZ
    refine fun pl WV=>?_;refine iK a4 0e22 fun v hv=>?_;obtain⟨ib,rfl⟩:∃ ib:Bool,v=.str 3e14:=by
     simp only[Α,Γ,Τ] at hv;rcases hv with rfl|rfl|rfl|rfl
     ·exact⟨true,rfl⟩
     ·exact⟨false,rfl⟩
     ·exact⟨true,rfl⟩
     ·exact⟨true,rfl⟩
    have NP:=q0D (o:=.lst [.str "if",.str "while",.str "if",.str "if"]) WV;have DP:=D4.kp NP;have FP:=F.kp NP;have KP:=KG.trans NP;have acX:dk∉fl::dI 0e2:=fdk;generalize Wk G4 pl (.lst [.str "if",.str "while",.str "if",.str "if"])=G5 at *;have bb:bd 4=93:=rfl;wp_walk;refine⟨dk,3,_,rfl,by decide,by decide,DP,by omega,fun sv s G6 hs ok hd D6 K6=>?_⟩;have KX:∀ b o,G5 b=some o->b≠dk->G6 b=some o:=fun b o e n=>K6.Wx e n;have F6:=FP.keep (fun a ha o e=>KX a o e (fun z=>fdk 8e4)) (DP.tk K6);have KH6:Kp [] H G6:=fun b o e _=>KX b o (KP.at e) (aF e aa0);wp_walk;refine fun ht h1 YO h2 fa' h3=>?_;have N1:=q0D (o:=.tup [.str 3e14,sv]) h1;have N2:=q0D (o:=.lst []) h2;have N3:=q0D (o:=.lst [.ref ht,.ref YO,.Wl]) h3;have m1:=((F6.kp N1).kp N2).free h3;have m2:=(F6.kp N1).free h2;have z1:H YO=none:=(KH6.trans N1).cF h2;have z2:H fa'=none:=((KH6.trans N1).trans N2).cF h3;have m3:fa'≠YO:=fun z=>by rw[z,aA] at h3;cases h3
    have NN:=(N1.trans N2).trans N3;have eh:=N3.at (N2.at (show Wk G6 ht 4e14 ht=some 4e14 from aA));have e2:=N3.at (show Wk (Wk G6 ht 4e14) YO 2e0 YO=some 2e0 from aA);have e1:Wk (Wk (Wk G6 ht 4e14) YO 2e0) fa' 8e27 fa'=some 8e27:=aA;generalize Wk (Wk (Wk G6 ht 4e14) YO 2e0) fa' 8e27=G7 at *;have F7:=(F6.kp NN).push e1 e2 (h:=some (ib,s)) ⟨ht,sv,rfl,eh,hs.kp (aE.nil NN)⟩ m1 m2 m3;have abN:=(F6.kp NN).e
    exists abN
    refine⟨by rw[le];omega,?_⟩;rw[show((I++[x]).map fun x=>V.ref x.1.fa)++[V.ref fa']=(0e2++[((⟨fa',YO,none⟩:FC),(⟨some (ib,s),[],none⟩:Fr))]).map fun x=>V.ref x.1.fa by simp];refine back _ _ _ 0e2 _ _ F7 (gl.snoc ⟨trivial,trivial,by simp[oX];omega,by simp[oX];omega,fun _=>⟨ib,s,rfl,ok,by omega⟩⟩) ?_ 0e22 (fun b hb=>?_) (fun b o e _=>by
     rw[aD (aF e (fr fl 0e0))];exact NN.at (KH6.at e))
    ·rw[lP,lQ];show BU 0e2+(b8 []+b8 []+2)<=_;have:b8 []=0:=by simp[b8]
     omega
    ·rw[bF,bR] at hb;rcases Α.mp hb with hb|hb
     ·exact fr b 8e50
     ·rcases Κ.mp hb with hb|hb
      ·exact fr b 8e50
      ·simp only[FC.cells,Option.toList_none,Α,Γ,Τ] at hb;rcases hb with rfl|rfl
       ·exact z2
       ·exact z1
   ·clear Wt RI Xx RE;refine cE fun RI Wt=>?_;refine qZ fun RE Xx=>?_
    suffices fin:(0 < I.length->RI [some 1e4,some 5e6,some 4e8,some 2e8,some 8e6] G4)/\RE [some 1e4,some 5e6,some 4e8,some 2e8,some 8e6] G4 by
     exists XZ,le
     split
     ·split
      ·next h2=>exact fin.1 1e0
      ·exact fin.2
     ·exact fin.2
    refine⟨fun l0=>Wt _ _ ?_,Xx _ _ ?_⟩
    ·clear Wt RI Xx RE;obtain⟨I',y,rfl⟩:∃ I' y,I=I'++[y]:=⟨I.dropLast,I.getLast 8e38,(List.dropLast_concat_getLast _).symm⟩;obtain⟨i0,s0,hh,hs0⟩:=gx.2.2.2.2 1e0;wp_walk;refine⟨fl,I',y,x,i0,s0,rfl,F,hh,lsz,fun G5 F5 K5=>?_⟩;obtain⟨c1,c2⟩:=FR gl hh hs0;refine back _ _ _ I' _ G5 F5 c1 1e0 (by rw[Ν] at ll;simp at ll;omega) (fun a ha=>fr a ?_) ?_
     ·rw[bF,bR] at ha;rw[bF,bF,bR];rcases Α.mp ha with ha|ha
      ·simp[ha]
      ·rcases Κ.mp ha with ha|ha
       ·simp[ha]
       ·simp[show a∈y.1.cells from ha]
     ·intro b o e _;refine K5 b o 0e24 1e53;have:b∈fl::dI 3e50:=by
       rw[bF,bF,bR];rcases Α.mp z with z|z
       ·simp[z]
       ·simp[z]
      rw[fr b this] at e;cases e
    ·clear Wt RI Xx RE;refine cE fun RI Wt=>?_;refine qZ fun RE Xx=>?_
     suffices fin:(0 < I.length->x.1.f2=none->RI [some 1e4,some 5e6,some 4e8,some 2e8,some 8e6] G4)/\RE [some 1e4,some 5e6,some 4e8,some 2e8,some 8e6] G4 by
      by_cases l0:0 < I.length
      ·obtain⟨i0,s0,hh,hs0⟩:=gx.2.2.2.2 1e0;rw[hh] at x2;obtain⟨ha,sv,rfl,eh,hS⟩:=x2
       exists XZ,le,l1,x1,eh
       repeat' split
       all_goals first|exact fin.2|exact fin.1 l0 (RU ‹_›)
      ·skip
       exists XZ,le
       split
       ·rw[if_neg 1e0];exact fin.2
       ·exact fin.2
     refine⟨fun l0 f0=>Wt _ _ ?_,Xx _ _ ?_⟩
     ·clear Wt RI Xx RE;rw[f0] at x1;replace x1:G4 x.1.fa=some (.lst [hvx,.ref x.1.f1,.Wl]):=x1
      exists XZ,l1,x1
      refine fun a ha=>?_;generalize hg:Wk G4 a 2e0=G5;have NA:Kp [] G4 G5:=hg▸Kp.new ha;have ea:G5 a=some 2e0:=hg▸aA;clear hg;have na:=F.free ha;replace F:=F.kp NA;replace XZ:=NA.at XZ;replace x1:=NA.at x1;have fa0:H a=none:=KG.cF ha;replace KG:=KG.trans NA;have F5:=F.snd f0 x1 ea na
      exists XZ,l1,x1
      rw[show zE 3 2=some 2 from rfl];show Pv 7e1 _ (Wk G5 x.1.fa (.lst [hvx,.ref x.1.f1,.ref a]));obtain⟨g1,g2,g3,g4,g5⟩:=gx;have hb:x.2.b2=none:=by
       cases h:x.2.b2 with
       | none=>rfl
       | some b=>rw[f0,h] at x5;exact x5.elim
      rw[hb] at g2 g4;refine back _ _ _ I _ _ F5 (gl.init.snoc ⟨g1,g2,g3,g4,g5⟩) ?_ ll (fun b WQ=>?_) (fun b o e _=>by
       rw[aD (fun z=>by
        rw[z,fr x.1.fa 7e27] at e;cases e)]
       exact KG.at e)
      ·have:=sz;rw[lP,lQ,hb] at this;rw[lP,lQ];show BU I+(b8 x.2.b1+b8 (([]:List Stm))+2)<=_;have h0:b8 ((none:Option (List Stm)).getD [])=b8 ([]:List Stm):=rfl;omega
      ·rw[bF,bR] at WQ;rcases Α.mp WQ with WQ|WQ
       ·exact fr b (by simp[WQ])
       ·rcases Κ.mp WQ with WQ|WQ
        ·exact fr b (by rw[bF];simp[WQ])
        ·simp only[FC.cells,Β2,Α,Γ,Τ] at WQ;rcases WQ with rfl|rfl|rfl
         ·exact fr _ 7e27
         ·exact fr _ 7e27
         ·exact fa0
     ·clear Wt RI Xx RE;obtain⟨ux,ex⟩:=FX0.cu
      exists XZ,l1,x1,Ep,ex
      refine⟨dk,_,rfl,D4,by omega,fun v m G5 hm gm hB K5=>?_⟩;have F5:=F.keep (fun a ha o e=>K5.Wx e (fun z=>fdk 8e4)) (D4.tk K5);have KH5:Kp [] H G5:=fun b o e _=>K5.Wx 0e24 (aF e aa0);obtain⟨us,b,c1,c2,c3,c4,c5⟩:=F5.app hm;have lx:=lsz x 0e0;have lb:us.length<=1000:=by
       have lu:=c2.len;rcases c3 with rfl|c3
       ·omega
       ·rw[c3] at lx;have:b.length<=1000:=lx.2;omega
      have Zs:H x.1.cur=none:=fr _ (by rw[bF,bR];simp[c4]);have dm:m.dp=0:=by cases m<;>first|rfl|cases hB
      have sm:m.sz=1:=Ma hB;have bk:Pv 7e1 [some 1e4,some 5e6,some 4e8,some 2e8,some 8e6] (Wk G5 x.1.cur (.lst (us++[v]))):=back _ _ _ I _ _ c5 (gl.init.snoc (gx.add gm 1e0)) (by
       have ha:=Jj x.2 m;have:=sz;rw[lP,lQ] at this ⊢;show BU I+(b8 (x.2.add m).b1+b8 ((x.2.add m).b2.getD [])+2)<=_;omega) ll (fun b hb=>fr b (by
       rw[bF,bR] at hb ⊢;exact hb)) (fun b o e _=>by rw[aD (aF e Zs)];exact KH5.at e)
      exists c1
      exact⟨by omega,bk⟩
  intro σ G h;rw[Wz,Δ] at h;obtain⟨v2,v3,v4,I,x,rfl,F,gl,sz,ll,fr,KG⟩:=h;clear Wz;right;left;refine JH fun tb htb=>?_;obtain⟨Y,hY⟩:∃ Y:Nat->St->Hp->Prop,∀ m σ G,Y m σ G=E2 fun(I:List 9e32) (x:FC×Fr)=>A7 0e39 (hW G fl 0e2) (GL 0e2) (BU 0e2<=130) 5e40 8e31 (m=I.length):=⟨_,fun _ _ _=>rfl⟩;refine⟨Y,⟨_,(hY _ _ _).mpr ⟨I,x,rfl,F,gl,by omega,fr,KG,rfl⟩⟩,?_⟩;clear F gl sz fr KG I x ll;intro m σ G hG;rw[hY] at hG;obtain⟨I,x,rfl,F,gl,sz,fr,KG,rfl⟩:=hG;have XZ:=F.e;have le:((I++[x]).map fun x=>V.ref x.1.fa).length=I.length+1:=by simp
  have lsz:∀ z∈I++[x],z.2.b1.length<=1000/\(z.2.b2.getD []).length<=1000:=fun z hz=>by
   have:=Fj hz;have:=lE z.2.b1;have:=lE 1e48;omega
  have gx:=gl.top
  exists XZ,le
  by_cases l0:0 < I.length
  ·rw[if_pos 1e0];refine⟨fun σ' G'=>∃ m',m' < I.length/\Y m' σ' G',fun _ _ z=>z,?_⟩;refine htb _ _ _ ?_;clear htb tb;obtain⟨I',y,rfl⟩:∃ I' y,I=I'++[y]:=⟨I.dropLast,I.getLast 8e38,(List.dropLast_concat_getLast _).symm⟩;obtain⟨i0,s0,hh,hs0⟩:=gx.2.2.2.2 1e0;wp_walk;refine⟨fl,I',y,x,i0,s0,rfl,F,hh,lsz,fun G5 F5 K5=>?_⟩;obtain⟨c1,c2⟩:=FR gl hh hs0;refine⟨I'.length,by simp,(hY _ _ _).mpr ⟨I',_,rfl,F5,c1,by omega,fun a ha=>fr a ?_,?_,rfl⟩⟩
   ·rw[bF,bR] at ha;rw[bF,bF,bR];rcases Α.mp ha with ha|ha
    ·simp[ha]
    ·rcases Κ.mp ha with ha|ha
     ·simp[ha]
     ·simp[show a∈y.1.cells from ha]
   ·intro b o e _;refine K5 b o 0e24 1e53;have:b∈fl::dI 3e50:=by
     rw[bF,bF,bR];rcases Α.mp z with z|z
     ·simp[z]
     ·simp[z]
    rw[fr b this] at e;cases e
  ·rw[if_neg 1e0];have hI:I=[]:=by cases I with|nil=>rfl|cons _ _=>simp at l0
   subst hI;clear hY htb;right;obtain⟨hvx,usx,x1,x2,x3,x4,x5⟩:=F.fr x 0e0;replace XZ:G fl=some (.lst [.ref x.1.fa]):=XZ
   exists XZ,x1,x3
   refine fun p hp=>?_;have N:=q0D (o:=.tup usx) hp;have:=Fj (show x∈[]++[x] by simp);exact q p usx x.2.b1 _ aA (x4.kp 4e1) gx.1 (by have:=gx.2.2.1;omega) 1e0 (KG.trans N)
theorem Fg{d:Nat}(hn:3<=n)(IH:fS P w K mg base Xq n t.uS t.vG ["block","path","code"] (BP d)):Ok T T.kE (n+1) (BP (d+1)):=by
 nomatch T.kE
 ·obtain⟨bp,pp,cl,us,b,pt,as,rfl,_⟩:=h;rfl
 ·obtain⟨bp,pp,cl,us,b,pt,as,rfl,eb,hs,hd,ep,lp,ec,lc,q⟩:=h
  nomatch (aH (xK Γ4 rfl (sA rfl T.yS (pa1 (bG cN rfl T.l7 fF 5e14))) 7e24 (aG (pst 4 (bC kM pv1 (bB 6e23))) (aG (pst 5 (pix aK 2e25 aB)) (aG (pst 6 2e15) (pss3 (aL (c9 pv2 (aM (eY pv5 (pa3 2e25 pv4 cG))))) (pif 7e5 (pss3 3e25 (aL (c9 pv2 (aM (eY aC (pa3 cG pv4 pv6))))) (lO 2e15 4e41))) (pif 7e5 (aG 3e25 (aG (aL (c9 pv2 (aM (eY aC (pa3 cG pv4 cG))))) (aG (lO 2e15 4e41) (pss3 (pst 7 (bC jC 2e15 aB)) 3e25 (lO 2e15 (r9 (pix aK pv2 pv7) aB xX))))))))))))),0
  have lus:=hs.len;have lsz:=lE b
  exists eb
  refine⟨⟨by omega,by omega⟩,?_⟩;obtain⟨Pv,Wz⟩:∃ Pv:Nat->St->Hp->Prop,∀ i σ G,Pv i σ G=E6 fun(v3 v4 v5 v6 v7:Option V) (new:List Addr)=>A6 (σ=[some 2e24,some (.ref pp),some 1e4,v3,v4,v5,v6,v7]) (G cl=some (.lst ((as++new).map V.ref))) (cY G new (Ab pt 0 as.length (b.take i))) ((∀ a∈new,H a=none)) (new.Nodup) (Kp [cl] H G):=⟨_,fun _ _ _=>rfl⟩;refine Ac (lo:=0) Pv ?_ ?_ ?_
  ·rw[Wz];exact⟨_,_,_,_,_,[],rfl,by simpa using ec,by simpa[Ab] using .nil,by simp,by simp,Kp.refl⟩
  ·intro i σ G hi h;rw[Wz] at h;obtain⟨v3,v4,v5,v6,v7,new,rfl,eG,hC,fN,nd,KG⟩:=h;have TG:=kp1T KG ec;have eG0:=eG;obtain⟨sv,ev⟩:∃ sv,us[i]?=some sv:=⟨us[i]' 1e0,by simp⟩;obtain⟨m,em,hm⟩:=hs.at ev;replace hm:=hm.kp TG;have XB:=TG _ _ eb;have epG:=TG _ _ ep;have ix:gI us (i:Nat)=some sv:=eL ev;obtain⟨a0,r0,rfl,e0⟩:=hm.kw;have lt:as.length+new.length+m.sz<=100000:=by
    have h1:=L9 b 7e1;rw[fJ em] at h1;have h2:=hC.len;rw[fO] at h2;omega
   have el:((as++new).map V.ref).length=as.length+new.length:=by simp
   have back:∀(v3 v4 v5 v6 v7:Option V) (Ys:List Addr) (G':Hp),G' cl=some (.lst ((as++Ys).map V.ref))->cY G' Ys (Ab pt 0 as.length (b.take i)++Bd (pt++[(i:Int)]) 4e44 m)->(∀ a∈Ys,H a=none)->Ys.Nodup->Kp [cl] H G'->Pv 7e1 [some 2e24,some (.ref pp),some 1e4,v3,v4,v5,v6,v7] G':=fun v3 v4 v5 v6 v7 Ys G' x1 x2 x3 x4 x5=>by
    rw[Wz];have h2:=hC.len;rw[fO] at h2;rw[h2] at x2;refine⟨_,_,_,_,_,Ys,rfl,x1,?_,x3,x4,x5⟩;rw[CA em,Γ1];exact x2
   clear Wz;left
   exists Int.zero_add
   refine fun p1 h1=>?_;have N1:=q0D (o:=.tup [.int (i:Nat)]) h1;refine DV (N1.at epG) aA (by simp only[Δ,Η,ϑ];omega) fun ph G1 eh K1=>?_;replace eh:G1 ph=some (.tup ((pt++[(i:Int)]).map V.int)):=by rw[eh];simp
   replace K1:=N1.trans K1;replace hm:=hm.kp 8e2;replace hC:=hC.keep (fun _ _ _ e=>K1.at e) 8e2;replace eG:=K1.at eG;replace e0:=K1.at e0;replace XB:=K1.at XB;wp_walk;right;left
   exists XB,Int.zero_add,ix,e0
   right;left
   exists eG,el
   right;left
   exists eG,XB,Int.zero_add,ix
   refine fun pe hpe=>?_;have N4:=q0D (o:=.lst [.str m.kw,.ref a0,.ref ph,.Wl]) hpe;have ee:Wk G1 pe 9e26 pe=some 9e26:=aA;have fpe:H pe=none:=free1 KG eG0 (K1.cF hpe);have Z1:pe≠cl:=fun z=>by rw[z,eG] at hpe;cases hpe
   have npn:pe∉new:=fun z=>by
    obtain⟨xs,e⟩:=hC.there pe z;rw[e] at hpe;cases hpe
   have KN:=K1.trans N4;replace hm:=hm.kp 0e23;replace hC:=hC.keep (fun _ _ _ e=>N4.at e) 0e23;replace eG:=N4.at eG;replace e0:=N4.at e0;replace XB:=N4.at XB;replace eh:=N4.at eh;generalize Wk G1 pe 9e26=G2 at *
   exists eG
   refine⟨by rw[el];omega,?_⟩;have ea:(as++new).map V.ref++[V.ref pe]=(as++7e3).map V.ref:=by simp
   rw[ea];have KS:Kp [cl] G2 (Wk G2 cl 9e14):=Kp.jQ;have TS:=kp1T KS eG;have ncl:cl∉new:=fun z=>by rw[fN cl z] at ec;cases ec
   replace eG:Wk G2 cl 9e14 cl=some 9e14:=aA;replace ee:=KS.Wx ee Z1;replace hm:=hm.kp TS;replace hC:=hC.keep (fun a ha _ e=>KS.Wx e 4e12) TS;replace e0:=TS _ _ e0;replace XB:=TS _ _ XB;replace eh:=TS _ _ eh;have KH:Kp [cl] H (Wk G2 cl 9e14):=(KG.trans (KN.mono 0e0)).trans KS;generalize Wk G2 cl 9e14=G3 at *;have fN':∀ a∈new++[pe],H a=none:=fun a ha=>by
    rcases Κ.mp ha with ha|ha
    ·exact fN a ha
    ·rw[show a=pe by simpa using ha];exact fpe
   have nd':(new++[pe]).Nodup:=ϙ.mpr ⟨nd,by simp,fun x hx y hy z=>npn (by rw[show y=pe by simpa using hy] at z;rw[<- z];exact hx)⟩;have th3:=gD hC.ex (kT ee);clear K1 N1 N4 KN KS TS ea KG TG hpe h1;right;by_cases hB:m.isB=false
   ·obtain⟨w1,w2,_⟩:=Uc hB
    exists w1,w2
    exact back _ _ _ _ _ _ _ eG (by rw[TB hB];exact hC.app (.cons ⟨ph,eh,_,hm,ee⟩ .nil)) fN' nd' KH
   cases hm with
   | @WH a p v s vs b' e hv YN WQ =>
    have hm:b9 G3 7e6 (.WH s b'):=.WH e hv YN WQ;have lt':as.length+new.length+b8 b'+2<=100000:=by simp only[Stm.sz] at lt;omega
    have dl:oX b' < d:=by have:=vK em;simp only[Stm.dp] at this;omega
    refine bW fun R5 hR5=>?_;refine cE fun RI Wt=>?_
    exists Stm.kw
    refine Wt _ _ ?_;clear Wt RI;have ee0:=ee;left
    exists XB,Int.zero_add,ix,e
    refine fun pz hz=>?_;have NZ:=q0D (o:=.tup [.int 0]) hz;refine DV 1e32 aA 0e27 fun pq GZ eq KZ=>?_;replace KZ:=NZ.trans KZ;replace eq:GZ pq=some 0e38:=by rw[eq];simp
    refine⟨_,pq,cl,_,_,pt++[(i:Int)]++[0],as++7e3,rfl,KZ.at YN,(WQ).kp 5e31,dl,eq,by simp only[Ν,Η,ϑ];omega,KZ.at eG,by simp only[Ν,Η,ϑ];omega,fun Zo WI e50 Xe XN aaQ K50=>?_⟩;wp_walk;right;have ZH:=(aE.nil KZ).trans 8e44;have XY:Kp [cl] G3 Zo:=(KZ.mono 0e0).trans K50;have ZJ:∀ a∈WI,H a=none:=fun a ha=>free1 KH eG (KZ.cF 8e23);have x50:∀ a∈WI,G3 a=none:=fun a ha=>KZ.cF 8e23;replace KH:=KH.trans XY;replace eh:=ZH _ _ eh;replace ee:=XY.Wx ee Z1;replace hC:=hC.keep (fun a ha _ e=>XY.Wx e 4e12) ZH;replace hm:=hm.kp ZH;replace eG:=e50;clear KZ K50 NZ hz eq;have nc5:cl∉WI:=fun z=>by rw[ZJ cl z] at ec;cases ec
    have l50:WI.length=b8 b':=by rw[Xe.len,fO]
    have ee1:=ee;have nd5:(new++[pe]++WI).Nodup:=qC nd' aaQ th3 x50;have th5:=gD 0e30 Xe.ex;left
    exists eG
    refine fun pj hp=>?_;generalize hg:Wk Zo pj 2e34=G6;have N:Kp [] Zo G6:=hg▸Kp.new hp;have XG:G6 pj=some 2e34:=hg▸aA;clear hg;have npj:pj≠cl:=fun z=>by rw[z,eG] at hp;cases hp
    have fpj:H pj=none:=free1 KH eG hp;have xpj:Zo pj=none:=hp;replace eh:=N.at eh;replace ee:=N.at ee;replace eG:=N.at eG;replace hC:=hC.keep 1e10 4e1;replace Xe:=Xe.keep 1e10 4e1;replace hm:=hm.kp 4e1;replace KH:=KH.trans (N.mono 0e0)
    exists eG
    refine⟨by simp only[Δ,Ν,Η,ϑ];omega,?_⟩;rw[show(8e18).map V.ref++[V.ref pj]=(8e18++[pj]).map V.ref by simp];have KS:Kp [cl] G6 (Wk G6 cl 2e7):=Kp.jQ;have TS:=kp1T KS eG;replace eG:Wk G6 cl 2e7 cl=some 2e7:=aA;replace eh:=TS _ _ eh;replace ee:=KS.Wx ee Z1;replace XG:=KS.Wx XG npj;replace hC:=hC.keep (fun a ha _ e=>KS.Wx e 4e12) TS;replace Xe:=Xe.keep 5e37 TS;replace hm:=hm.kp TS;replace KH:=KH.trans KS;generalize Wk G6 cl 2e7=G7 at *;clear KS TS N hp;right;have ixe:gI 7e40 ((as.length+new.length:Nat):Int)=some (.ref pe):=eL 0e0;have aaS:pe∉WI:=fun z=>by rw[x50 pe z] at ee0;cases ee0
    have npj:pj≠pe:=fun z=>by rw[z,ee1] at xpj;cases xpj
    exists eG,ixe,ee,Stm.kw
    rw[show zE 4 3=some 3 from rfl,show(List.map V.ref (as++7e3++WI++[pj])).length=as.length+new.length+b8 b'+2 from by simp[l50];omega];show R5 _ (Wk G7 pe 6e8);have TS:aE G7 (Wk G7 pe 6e8):=aE.cA ee;replace ee:Wk G7 pe 6e8 pe=some 6e8:=aA;have KE:∀ a u,a≠pe->G7 a=some u->Wk G7 pe 6e8 a=some u:=fun a u n e=>by rw[aD n];exact e
    replace eG:=KE _ _ Z1.symm eG;replace hm:=hm.kp TS;replace KH:Kp [cl] H (Wk G7 pe 6e8):=fun b o e n=>by rw[aD (aF e fpe)];exact KH b o e n
    replace eh:=TS _ _ eh;replace hC:=hC.keep 2e37 TS;replace Xe:=Xe.keep 3e37 TS;replace XG:=KE _ _ npj XG;generalize Wk G7 pe 6e8=G8 at *;clear TS KE;refine hR5 _ _ ?_;clear hR5 R5
    exists Stm.kw
    refine back _ _ _ _ _ 0e10 _ 4e48 ?_ ?_ ?_ KH
    ·simp only[Bd];have h5:=Xe;rw[show(as++7e3).length=as.length+new.length+1 by simp;omega] at h5;have:=hC.app ((cY.cons (e:=⟨some (.WH s b'),pt++[(i:Int)],some 8e40⟩) ⟨ph,eh,_,hm,ee⟩ h5).app (.cons (e:=⟨none,pt++[(i:Int)],some 4e44⟩) ⟨ph,eh,XG⟩ .nil));simpa using this
    ·intro a ha;simp only[Κ,Α,Γ,Τ] at ha;rcases ha with((ha|rfl)|ha)|rfl
     ·exact fN a ha
     ·exact fpe
     ·exact ZJ a ha
     ·exact fpj
    ·exact qC nd5 0e0 th5 8e45
   | @iff a p q v s vs us' b' o' e hv YN WQ eq' Yd =>
    have hm:b9 G3 7e6 4e50:=.iff e hv YN WQ eq' Yd;have lt':as.length+new.length+b8 b'+b8 o'+2<=100000:=by simp only[Stm.sz] at lt;omega
    have dl:oX b' < d:=by have:=vK em;simp only[Stm.dp] at this;omega
    have dl2:oX o' < d:=by have:=vK em;simp only[Stm.dp] at this;omega
    refine bW fun R5 hR5=>?_
    exists Stm.kw
    refine hR5 _ _ ?_;clear hR5 R5;refine cE fun RI Wt=>?_
    exists Stm.kw
    refine Wt _ _ ?_;clear Wt RI;have ee0:=ee;left
    exists XB,Int.zero_add,ix,e
    refine fun pz hz=>?_;have NZ:=q0D (o:=.tup [.int 0]) hz;refine DV 1e32 aA 0e27 fun pq GZ eq KZ=>?_;replace KZ:=NZ.trans KZ;replace eq:GZ pq=some 0e38:=by rw[eq];simp
    refine⟨_,pq,cl,_,_,pt++[(i:Int)]++[0],as++7e3,rfl,KZ.at YN,(WQ).kp 5e31,dl,eq,by simp only[Ν,Η,ϑ];omega,KZ.at eG,by simp only[Ν,Η,ϑ];omega,fun Zo WI e50 Xe XN aaQ K50=>?_⟩;wp_walk;right;have ZH:=(aE.nil KZ).trans 8e44;have XY:Kp [cl] G3 Zo:=(KZ.mono 0e0).trans K50;have ZJ:∀ a∈WI,H a=none:=fun a ha=>free1 KH eG (KZ.cF 8e23);have x50:∀ a∈WI,G3 a=none:=fun a ha=>KZ.cF 8e23;replace KH:=KH.trans XY;replace eh:=ZH _ _ eh;replace XB:=ZH _ _ XB;replace ee:=XY.Wx ee Z1;replace hC:=hC.keep (fun a ha _ e=>XY.Wx e 4e12) ZH;replace hm:=hm.kp ZH;replace eG:=e50;clear KZ K50 NZ hz eq;have nc5:cl∉WI:=fun z=>by rw[ZJ cl z] at ec;cases ec
    have l50:WI.length=b8 b':=by rw[Xe.len,fO]
    have ee1:=ee;have nd5:(new++[pe]++WI).Nodup:=qC nd' aaQ th3 x50;have th5:=gD 0e30 Xe.ex;left
    exists eG
    refine fun pj hp=>?_;generalize hg:Wk Zo pj 6e38=G6;have N:Kp [] Zo G6:=hg▸Kp.new hp;have XG:G6 pj=some 6e38:=hg▸aA;clear hg;have npj:pj≠cl:=fun z=>by rw[z,eG] at hp;cases hp
    have fpj:H pj=none:=free1 KH eG hp;have xpj:Zo pj=none:=hp;replace eh:=N.at eh;replace XB:=N.at XB;replace ee:=N.at ee;replace eG:=N.at eG;replace hC:=hC.keep 1e10 4e1;replace Xe:=Xe.keep 1e10 4e1;replace hm:=hm.kp 4e1;replace KH:=KH.trans (N.mono 0e0)
    exists eG
    refine⟨by simp only[Δ,Ν,Η,ϑ];omega,?_⟩;rw[show(8e18).map V.ref++[V.ref pj]=(8e18++[pj]).map V.ref by simp];have KS:Kp [cl] G6 (Wk G6 cl 2e7):=Kp.jQ;have TS:=kp1T KS eG;replace eG:Wk G6 cl 2e7 cl=some 2e7:=aA;replace eh:=TS _ _ eh;replace XB:=TS _ _ XB;replace ee:=KS.Wx ee Z1;replace XG:=KS.Wx XG npj;replace hC:=hC.keep (fun a ha _ e=>KS.Wx e 4e12) TS;replace Xe:=Xe.keep 5e37 TS;replace hm:=hm.kp TS;replace KH:=KH.trans KS;generalize Wk G6 cl 2e7=G7 at *;clear KS TS N hp;right;have ixe:gI 7e40 ((as.length+new.length:Nat):Int)=some (.ref pe):=eL 0e0;have aaS:pe∉WI:=fun z=>by rw[x50 pe z] at ee0;cases ee0
    have abC:pj≠pe:=fun z=>by rw[z,ee1] at xpj;cases xpj
    refine bW fun R52 aa1=>?_
    exists eG,ixe,ee,Stm.kw
    rw[show zE 4 3=some 3 from rfl,show(List.map V.ref (as++7e3++WI++[pj])).length=as.length+new.length+b8 b'+2 from by simp[l50];omega];show R52 _ (Wk G7 pe 7e8);have TS:aE G7 (Wk G7 pe 7e8):=aE.cA ee;replace ee:Wk G7 pe 7e8 pe=some 7e8:=aA;have KE:∀ a u,a≠pe->G7 a=some u->Wk G7 pe 7e8 a=some u:=fun a u n e=>by rw[aD n];exact e
    replace eG:=KE _ _ Z1.symm eG;replace hm:=hm.kp TS;replace KH:Kp [cl] H (Wk G7 pe 7e8):=fun b o e n=>by rw[aD (aF e fpe)];exact KH b o e n
    replace eh:=TS _ _ eh;replace XB:=TS _ _ XB;replace hC:=hC.keep 2e37 TS;replace Xe:=Xe.keep 3e37 TS;replace XG:=KE _ _ abC XG;generalize Wk G7 pe 7e8=G8 at *;clear TS KE;refine aa1 _ _ ?_;clear aa1;clear R52;left
    exists eG
    rw[show((List.map V.ref (as++7e3++WI++[pj])).length:Int) - 1=((as.length+new.length+b8 b'+1:Nat):Int) by simp[l50];omega];right;replace eG:G8 cl=some (.lst ((as++0e10).map V.ref)):=by rw[eG];simp
    have nd6:(new++[pe]++WI++[pj]).Nodup:=qC nd5 0e0 th5 8e45;have th6:=gD (gD 0e30 Xe.ex) (kT XG);clear e YN WQ eq' Yd;obtain⟨_,_,_,_,e,eq',Yd⟩:=hm.VN;left
    exists XB,Int.zero_add,ix,e
    refine fun pz hz=>?_;have NZ:=q0D (o:=.tup [.int 1]) hz;refine DV 1e32 aA 0e27 fun pq GZ eq KZ=>?_;replace KZ:=NZ.trans KZ;replace eq:GZ pq=some (.tup ((pt++[(i:Int)]++[1]).map V.int)):=by rw[eq];simp
    refine⟨_,pq,cl,_,_,pt++[(i:Int)]++[1],as++0e10,rfl,KZ.at eq',(Yd).kp 5e31,dl2,eq,by simp only[Ν,Η,ϑ];omega,KZ.at eG,by simp only[Ν,Η,ϑ];omega,fun Zp Zm e54 h54 ZK ab3 K54=>?_⟩;wp_walk;right;have T54:=(aE.nil KZ).trans (kp1T K54 (KZ.at eG));have YH:Kp [cl] G8 Zp:=(KZ.mono 0e0).trans K54;have f54:∀ a∈Zm,H a=none:=fun a ha=>free1 KH eG (KZ.cF (ZK a ha));have x54:∀ a∈Zm,G8 a=none:=fun a ha=>KZ.cF (ZK a ha);replace KH:=KH.trans YH;replace eh:=T54 _ _ eh;replace ee:=YH.Wx ee Z1;replace XG:=YH.Wx XG npj;replace hC:=hC.keep (fun a ha _ e=>YH.Wx e 4e12) T54;replace Xe:=Xe.keep (fun a ha _ e=>YH.Wx e (fun z=>nc5 8e4)) T54;replace hm:=hm.kp T54;replace eG:=e54;clear KZ K54 NZ hz eq;have l54:Zm.length=b8 o':=by rw[h54.len,fO]
    have ixj:gI ((as++0e10++Zm).map V.ref) ((as.length+new.length+b8 b'+1:Nat):Int)=some (.ref pj):=eL (by
     rw[ϒ,<- l50,show as++0e10++Zm=(as++new++[pe]++WI)++(pj::Zm) by simp,List.getElem?_append_right 0e22];simp only[Ν,Η,ϑ];rw[show as.length+new.length+WI.length+1 - (as.length+new.length+(0+1)+WI.length)=0 by omega];rfl)
    have acW:=XG;have ab5:pj∉new:=fun z=>by
     have h:=(ϙ.mp nd6).2.2 pj 2e20 pj 0e0;exact h rfl
    have ab4:pj∉WI:=fun z=>by
     have h:=(ϙ.mp nd6).2.2 pj 2e20 pj 0e0;exact h rfl
    have abB:pj∉Zm:=fun z=>by
     obtain⟨o,e⟩:=th6 pj 0e0;rw[x54 pj z] at e;cases e
    have nd7:(new++[pe]++WI++[pj]++Zm).Nodup:=qC nd6 ab3 th6 x54
    exists eG,ixj,XG,Stm.kw
    rw[show zE 4 3=some 3 from rfl,show(List.map V.ref (as++0e10++Zm)).length=as.length+new.length+b8 b'+b8 o'+2 from by simp[l50,l54];omega];show Pv 7e1 _ (Wk Zp pj 5e8);have TS:aE Zp (Wk Zp pj 5e8):=aE.cA XG;replace XG:Wk Zp pj 5e8 pj=some 5e8:=aA;have KE:∀ a u,a≠pj->Zp a=some u->Wk Zp pj 5e8 a=some u:=fun a u n e=>by rw[aD n];exact e
    replace eG:=KE _ _ npj.symm eG;replace hm:=hm.kp TS;replace KH:Kp [cl] H (Wk Zp pj 5e8):=fun b o e n=>by rw[aD (aF e fpj)];exact KH b o e n
    replace eh:=TS _ _ eh;replace hC:=hC.keep (fun a ha o e=>KE _ _ (fun z=>ab5 8e4) e) TS;replace Xe:=Xe.keep (fun a ha o e=>KE _ _ (fun z=>ab4 8e4) e) TS;replace h54:=h54.keep (fun a ha o e=>KE _ _ (fun z=>abB 8e4) e) TS;replace ee:=KE _ _ abC.symm ee;generalize Wk Zp pj 5e8=G9 at *;clear TS KE;refine back _ _ _ _ _ (new++[pe]++WI++[pj]++Zm) _ 4e48 ?_ ?_ nd7 KH
    ·simp only[Bd];have h5:=Xe;rw[show(as++7e3).length=as.length+new.length+1 by simp;omega] at h5;have h6:=h54;rw[show(as++0e10).length=as.length+new.length+b8 b'+2 by simp[l50];omega] at h6;have:=hC.app ((cY.cons (e:=⟨some 4e50,pt++[(i:Int)],some 8e40⟩) ⟨ph,eh,_,hm,ee⟩ h5).app (.cons (e:=⟨none,pt++[(i:Int)],some (as.length+new.length+b8 b'+b8 o'+2)⟩) ⟨ph,eh,XG⟩ h6));simpa using this
    ·intro a ha;simp only[Κ,Α,Γ,Τ] at ha;rcases ha with(((ha|rfl)|ha)|rfl)|ha
     ·exact fN a ha
     ·exact fpe
     ·exact ZJ a ha
     ·exact fpj
     ·exact f54 a ha
   | _=>exact absurd rfl hB
  intro σ G h;rw[Wz,Int.toNat_natCast,<- lus,Α3] at h;obtain⟨v3,v4,v5,v6,v7,new,rfl,eG,hC,fN,nd,KG⟩:=h;exact q G new eG hC fN nd KG
theorem EZ(T:Tx P w base K mg t):∀ d,fS P w K mg base Xq (d+3) t.uS t.vG ["block","path","code"] (BP d):=by
 intro d
 induction d with
 | zero=>exact⟨fun _ _ _ _ x=>by (obtain⟨_,_,_,_,_,_,_,_,_,_,h,_⟩:=x;exact absurd h 1e0),fun _ _ _ _ _ _ _ _ _ _ _ _ _ x=>by (obtain⟨_,_,_,_,_,_,_,_,_,_,h,_⟩:=x;exact absurd h 1e0)⟩
 | succ d ih=>exact Fg T 1e0 ih
theorem Iz:Ok T T.Bf 13 LX:=by
 nomatch T.Bf
 ·obtain⟨bp,us,b,rfl,_⟩:=h;rfl
 ·obtain⟨bp,us,b,rfl,eb,hs,hd,hz,q⟩:=h
  nomatch (aG (pst 1 7e0) (aG (aL (pcl (EZ T 9) T.kE (pa3 pv0 (bB bM) pv1))) (aG (pst 2 (BE (dF aC pv1 (dF aC aB (dF aC aC (dF aC kO (dF aC cG (dF aC aB (dF aC aB (dF aC 7e0 BH)))))))) rfl rfl 9e28 5e0)) (aG (ppt pv2 aC 7e0) (aG (ppt pv2 aC kO) (pss3 (ppt pv2 aC 7e0) (ppt pv2 aC cG) 4e18)))))),0
  left;wp_walk;refine fun cl hc=>?_;have K1:=q0D (o:=.lst []) hc;have e1:Wk H cl 2e0 cl=some (.lst (([]:List Addr).map V.ref)):=aA;replace eb:=K1.at eb;replace hs:=hs.kp 8e2;generalize Wk H cl 2e0=G1 at *;right;left;wp_walk;refine fun pe he=>?_;have K2:=q0D (o:=.tup []) he;refine⟨bp,pe,cl,us,b,[],[],rfl,K2.at eb,hs.kp 7e31,hd,aA,by simp,K2.at e1,by simp;omega,fun G2 cs e2 hC fr nd K3=>?_⟩;wp_walk;right;left;wp_walk;have K3':Kp [] H G2:=fun b o e _=>K3.Wx (K2.at (K1.at e)) (fun z=>by rw[z,hc] at e;cases e);have fr':∀ a∈cs,H a=none:=fun a ha=>K1.cF (K2.cF (fr a ha));rw[Α0] at e2;rw[ϑ] at hC;refine fun md hmd nd hnd od Zw=>?_;have x1:nd≠md:=fun z=>by rw[z,aA] at hnd;cases hnd
  have x2:od≠nd:=fun z=>by rw[z,aA] at Zw;cases Zw
  have x3:od≠md:=fun z=>by rw[z,aD x1.symm,aA] at Zw;cases Zw
  rw[aD x1] at hnd;rw[aD x2,aD x3] at Zw;refine⟨by rw[aD x3.symm,aD x1.symm,aA],[(.inr "code",.ref cl),(.inr "at",.int 0),(.inr "mode",.str "new"),(.inr "names",.ref nd),(.inr "arg",.Wl),(.inr "now",.int 0),(.inr "made",.int 0),(.inr "open",.ref od)],rfl,by simp,?_⟩;rw[eights];obtain⟨k8,hk8⟩:∃ k:List (Key×V),k=[(.inr "code",.ref cl),(.inr "at",.int 0),(.inr "mode",.str "new"),(.inr "names",.ref nd),(.inr "arg",.Wl),(.inr "now",.int 0),(.inr "made",.int 0),(.inr "open",.ref od)]:=⟨_,rfl⟩;rw[<- hk8];have lk8:k8.length=8:=by rw[hk8];rfl
  have NA:Kp [] G2 (Wk (Wk 8e14 od 2e0) md 9e13):=fun b o e _=>by rw[aD (aF e hmd),aD (aF e Zw),aD (aF e hnd),aD (aF e hmd)];exact e
  have eM:Wk (Wk 8e14 od 2e0) md 9e13 md=some 9e13:=aA;have eN:Wk (Wk 8e14 od 2e0) md 9e13 nd=some 9e6:=by rw[aD x1,aD x2.symm,aA]
  have eO:Wk (Wk 8e14 od 2e0) md 9e13 od=some 2e0:=by rw[aD x3,aA]
  generalize Wk (Wk 8e14 od 2e0) md 9e13=G3 at *;have fm:H md=none:=K3'.cF hmd;have fn:H nd=none:=K3'.cF hnd;have fo:H od=none:=K3'.cF Zw;have yo:od≠cl/\od∉cs:=sE e2 hC Zw;have KH:=K3'.trans NA;have YK:=e2;have hC':=hC;have abW:=hmd;replace e2:=NA.at e2;replace hC:=hC.keep (fun _ _ _ e=>NA.at e) (aE.nil NA);clear NA K3 K3' K2 K1 hnd Zw he;have Z7:md≠cl/\md∉cs:=sE YK hC' abW;right;left
  exists eM
  refine fun dd hX=>?_;generalize hg:Wk G3 dd 2e0=G3a;have N:Kp [] G3 G3a:=hg▸Kp.new hX;have XM:G3a dd=some 2e0:=hg▸aA;clear hg;have fdd:H dd=none:=KH.cF hX;have ydd:dd≠cl/\dd∉cs:=sE e2 hC hX;have Yh:dd≠md:=fun z=>by rw[z,eM] at hX;cases hX
  have acS:dd≠nd:=fun z=>by rw[z,eN] at hX;cases hX
  have abM:dd≠od:=fun z=>by rw[z,eO] at hX;cases hX
  replace eN:=N.at eN;replace eO:=N.at eO;replace e2:=N.at e2;replace eM:=N.at eM;replace hC:=hC.keep 1e10 4e1;replace KH:=KH.trans N;clear N hX
  exists eM
  refine⟨by omega,?_⟩;obtain⟨k9,hk9⟩:∃ k,aO (κ:=Key) k8 (.inr (Str.ofString "done")) (.ref dd)=k:=⟨_,rfl⟩;have lk9:k9.length<=k8.length+1:=hk9▸uJ _ _ _;rw[hk9];have TS:aE G3a (Wk G3a md 8e13):=aE.cA eM;have KE:∀ a u,a≠md->G3a a=some u->Wk G3a md 8e13 a=some u:=fun a u n e=>by rw[aD n];exact e
  replace eM:Wk G3a md 8e13 md=some 8e13:=aA;replace hC:=hC.keep 3e19 TS;replace KH:Kp [] H (Wk G3a md 8e13):=fun b o e n=>KE _ _ 7e23 7e22;replace eN:=KE _ _ x1 eN;replace eO:=KE _ _ x3 eO;replace e2:=KE _ _ Z7.1.symm e2;replace XM:=KE _ _ Yh XM;generalize Wk G3a md 8e13=G3x at *;clear TS KE;right;left
  exists eM
  refine fun ld hX=>?_;generalize hg:Wk G3x ld 9e6=G3xa;have N:Kp [] G3x G3xa:=hg▸Kp.new hX;have Ze:G3xa ld=some 9e6:=hg▸aA;clear hg;have fld:H ld=none:=KH.cF hX;have Yj:ld≠cl/\ld∉cs:=sE e2 hC hX;have Yi:ld≠md:=fun z=>by rw[z,eM] at hX;cases hX
  have abL:ld≠nd:=fun z=>by rw[z,eN] at hX;cases hX
  have acU:ld≠od:=fun z=>by rw[z,eO] at hX;cases hX
  have acP:ld≠dd:=fun z=>by rw[z,XM] at hX;cases hX
  replace eN:=N.at eN;replace eO:=N.at eO;replace e2:=N.at e2;replace XM:=N.at XM;replace eM:=N.at eM;replace hC:=hC.keep 1e10 4e1;replace KH:=KH.trans N;clear N hX
  exists eM
  refine⟨by omega,?_⟩;obtain⟨kA,hkA⟩:∃ k,aO (κ:=Key) k9 (.inr (Str.ofString "letters")) (.ref ld)=k:=⟨_,rfl⟩;have lkA:kA.length<=k9.length+1:=hkA▸uJ _ _ _;rw[hkA];have TS:aE G3xa (Wk G3xa md 7e13):=aE.cA eM;have KE:∀ a u,a≠md->G3xa a=some u->Wk G3xa md 7e13 a=some u:=fun a u n e=>by rw[aD n];exact e
  replace eM:Wk G3xa md 7e13 md=some 7e13:=aA;replace hC:=hC.keep 3e19 TS;replace KH:Kp [] H (Wk G3xa md 7e13):=fun b o e n=>KE _ _ 7e23 7e22;replace eN:=KE _ _ x1 eN;replace eO:=KE _ _ x3 eO;replace e2:=KE _ _ Z7.1.symm e2;replace XM:=KE _ _ Yh XM;replace Ze:=KE _ _ Yi Ze;generalize Wk G3xa md 7e13=G3xx at *;clear TS KE;right;left
  exists eM
  refine fun aw hX=>?_;have N:=q0D (o:=.lst []) hX;have eaw:Wk G3xx aw 2e0 aw=some 2e0:=aA;have faw:H aw=none:=KH.cF hX;have yaw:aw≠cl/\aw∉cs:=sE e2 hC hX;have Z6:aw≠md:=fun z=>by rw[z,eM] at hX;cases hX
  have acR:aw≠nd:=fun z=>by rw[z,eN] at hX;cases hX
  have acT:aw≠od:=fun z=>by rw[z,eO] at hX;cases hX
  have acO:aw≠dd:=fun z=>by rw[z,XM] at hX;cases hX
  have acQ:aw≠ld:=fun z=>by rw[z,Ze] at hX;cases hX
  replace eN:=N.at eN;replace eO:=N.at eO;replace e2:=N.at e2;replace XM:=N.at XM;replace Ze:=N.at Ze;replace eM:=N.at eM;replace hC:=hC.keep 1e10 4e1;replace KH:=KH.trans N;generalize Wk G3xx aw 2e0=G3xxa at *;clear N hX
  exists eM
  refine⟨by omega,?_⟩;obtain⟨kB,hkB⟩:∃ k,aO (κ:=Key) kA (.inr (Str.ofString "awaited")) (.ref aw)=k:=⟨_,rfl⟩;have lkB:kB.length<=kA.length+1:=hkB▸uJ _ _ _;rw[hkB];have TS:aE G3xxa (Wk G3xxa md 6e13):=aE.cA eM;have KE:∀ a u,a≠md->G3xxa a=some u->Wk G3xxa md 6e13 a=some u:=fun a u n e=>by rw[aD n];exact e
  replace eM:Wk G3xxa md 6e13 md=some 6e13:=aA;replace hC:=hC.keep 3e19 TS;replace KH:Kp [] H (Wk G3xxa md 6e13):=fun b o e n=>KE _ _ 7e23 7e22;replace eN:=KE _ _ x1 eN;replace eO:=KE _ _ x3 eO;replace e2:=KE _ _ Z7.1.symm e2;replace XM:=KE _ _ Yh XM;replace Ze:=KE _ _ Yi Ze;replace eaw:=KE _ _ Z6 eaw;generalize Wk G3xxa md 6e13=G3xxx at *;clear TS KE;right;left
  exists eM
  refine⟨by omega,?_⟩;obtain⟨kC,hkC⟩:∃ k,aO (κ:=Key) kB (.inr (Str.ofString "outcome")) .Wl=k:=⟨_,rfl⟩;have Ms:kC.length<=kB.length+1:=hkC▸uJ _ _ _;rw[hkC];have TS:aE G3xxx (Wk G3xxx md 5e13):=aE.cA eM;have KE:∀ a u,a≠md->G3xxx a=some u->Wk G3xxx md 5e13 a=some u:=fun a u n e=>by rw[aD n];exact e
  replace eM:Wk G3xxx md 5e13 md=some 5e13:=aA;replace hC:=hC.keep 3e19 TS;replace KH:Kp [] H (Wk G3xxx md 5e13):=fun b o e n=>KE _ _ 7e23 7e22;replace eN:=KE _ _ x1 eN;replace eO:=KE _ _ x3 eO;replace e2:=KE _ _ Z7.1.symm e2;replace XM:=KE _ _ Yh XM;replace Ze:=KE _ _ Yi Ze;replace eaw:=KE _ _ Z6 eaw;generalize Wk G3xxx md 5e13=G3xxxx at *;clear TS KE;right;wp_walk;obtain rfl:kC=[(.inr "code",.ref cl),(.inr "at",.int 0),(.inr "mode",.str "new"),(.inr "names",.ref nd),(.inr "arg",.Wl),(.inr "now",.int 0),(.inr "made",.int 0),(.inr "open",.ref od),(.inr "done",.ref dd),(.inr "letters",.ref ld),(.inr "awaited",.ref aw),(.inr "outcome",.Wl)]:=by rw[<- hkC,<- hkB,<- hkA,<- hk9,hk8];simp[aO,bD]
  refine q ⟨md,nd,od,dd,ld,cl,cs,[],0,aw⟩ _ ?_ ?_ rfl ⟨_,eaw⟩ KH
  ·have vv:∀ j:String,aW (κ:=Key) [(.inr "code",.ref cl),(.inr "at",.int 0),(.inr "mode",.str "new"),(.inr "names",.ref nd),(.inr "arg",.Wl),(.inr "now",.int 0),(.inr "made",.int 0),(.inr "open",.ref od),(.inr "done",.ref dd),(.inr "letters",.ref ld),(.inr "awaited",.ref aw),(.inr "outcome",.Wl)] (.inr 5e48)=(([(.inr "code",.ref cl),(.inr "at",.int 0),(.inr "mode",.str "new"),(.inr "names",.ref nd),(.inr "arg",.Wl),(.inr "now",.int 0),(.inr "made",.int 0),(.inr "open",.ref od),(.inr "done",.ref dd),(.inr "letters",.ref ld),(.inr "awaited",.ref aw),(.inr "outcome",.Wl)]:List (Key×V)).find? fun kv=>decide (kv.1=.inr 5e48)).map (·.2):=fun _=>rfl;refine⟨⟨fun j=>aW (κ:=Key) [(.inr "code",.ref cl),(.inr "at",.int 0),(.inr "mode",.str "new"),(.inr "names",.ref nd),(.inr "arg",.Wl),(.inr "now",.int 0),(.inr "made",.int 0),(.inr "open",.ref od),(.inr "done",.ref dd),(.inr "letters",.ref ld),(.inr "awaited",.ref aw),(.inr "outcome",.Wl)] (.inr j),⟨⟨_,eM,⟨by simp,fun _ _=>rfl⟩,?_,?_,?_,?_,?_,?_⟩,eN,eO,⟨[],XM,.nil⟩,x1.symm,abM.symm,List.Pairwise.nil,by simp[eQ],by simp[eQ],by simp[eQ]⟩,?_,?_,?_,?_,?_⟩,e2,hC,⟨[],[],Ze,.nil,by simp,fun _=>rfl⟩,ps0 b,Yi.symm,abL.symm,by simp,⟨yo.1,yo.2,ydd.1,ydd.2⟩,by simp⟩
   all_goals first|(rw[vv];simp[bD,eQ,wv];done)|(dsimp only;rw[vv];simp[bD];done)|(show aW (κ:=Key) [(.inr "code",.ref cl),(.inr "at",.int 0),(.inr "mode",.str "new"),(.inr "names",.ref nd),(.inr "arg",.Wl),(.inr "now",.int 0),(.inr "made",.int 0),(.inr "open",.ref od),(.inr "done",.ref dd),(.inr "letters",.ref ld),(.inr "awaited",.ref aw),(.inr "outcome",.Wl)] (.inr (Str.ofString "mode"))=_;rw[vv];simp[bD];done)|skip
   intro k hk;simp only[OK6,Α,Γ,Τ] at hk;rcases hk with rfl|rfl|rfl|rfl|rfl|rfl<;>(simp only[vv];simp[bD])
  ·intro a ha;simp only[Fa.mut,ϝ,Α,Γ,Τ] at ha;rcases ha with rfl|rfl|rfl|rfl|rfl<;>assumption
theorem jM:Ok T T.iY 2 DF:=by
 nomatch T.iY
 ·obtain⟨r,n,rfl,_⟩:=h;rfl
 ·obtain⟨r,n,rfl,hR,hn,q⟩:=h
  nomatch (aG (pst 1 1e1) (pss3 (pif 8e10 6e22) (pif 8e10 (aH (aJ (pix aK (aM (eY 5e3 (pa3 (fH dS 5e3) (bC pC aB 5e3) 9e5))) 1e1)))) (aJ 1e1))),0
  wp_walk;refine⟨_,hR,by omega,fun g H1 a1 b1 R1 K1=>?_⟩;split
  ·exact q none _ kI (R1.up 1e0) K1
  split
  ·refine⟨⟨by decide,by decide,by decide⟩,GF 5e0 5e0,fun p hp=>⟨_,R1.new hp,by omega,fun g2 H2 a2 b2 R2 K2=>?_⟩⟩
   exists made1 K2 R1 hp
   refine iK a2 b2 fun v hv=>?_;simp only[Α,Γ,Τ] at hv;have K:=K1.trans ((Kp.new hp).trans K2);rcases hv with rfl|rfl|rfl|rfl<;>exact q (some _) _ (eW 5e0 5e0) R2 K
  ·refine⟨_,R1,by omega,fun g2 H2 a2 b2 R2 K2=>?_⟩;exact q (some _) _ (eW 1e0 1e0) R2 3e22
theorem tQ:Ok T T.jS 4 LW:=by
 nomatch T.jS
 ·obtain⟨P0,A0,S,p,r,n,N,rfl,_⟩:=h;rfl
 ·obtain⟨P0,A0,S,p,r,n,N,rfl,F,FT,lN,hR,hn,s1,s2,s3,q⟩:=h
  nomatch (aG (pst 2 (pix aK (aM (pa2 1e1 (pcl 0e1 T.bK (pa2 pv0 (bC cI 5e3 aB))))) (cD fY rfl T.zO mD (pa1 (pcr aS 1e1 aB))))) (aG (pst 3 1e1) (aG (pif (ptc aS pv3 aB) (aH (aJ (bB (pa3 aC pv2 0e28))))) (aG (pif 5e30 (pss3 (pst 4 1e1) (pif (PW.pt (dB (ptc 6e12 2e1 7e0) (cU 5e30))) (aH (pst 4 (pix aK 2e1 (pcl 0e1 T.bK (pa2 pv0 (bG cN rfl T.l7 fF (pa1 2e1)))))))) (aJ (bB (eY aC (pa3 pv2 pv4 0e28)))))) (pss3 (pst 5 (pix aK 7e4 1e1)) (pif (PW.pt (dB (ptc aS 2e1 aC) (cU 5e30))) (aH (pst 5 (pix aK (pix aK (pix aK 2e1 2e1) aB) aB)))) (aJ (bB (eY aC (pa3 pv2 pv5 0e28))))))))),0
  obtain⟨ot,M0,XI,c1,c2,c3,c4⟩:=F.ex;obtain⟨WL,WB,Xz,t1,t2,t3,t4,t5,t6⟩:=M0.hm;have vm:aW WL 1e17=some 2e22:=(Xz.2 _ 4e0).trans c4.md;have va7:aW WL 9e0=some 7e11:=(Xz.2 _ 4e0).trans c2;have vc7:aW WL 2e17=some 8e17:=(Xz.2 _ 4e0).trans c1;have rmd:A0.md≠r:=fun z=>s1 2e23;have rod:A0.od≠r:=fun z=>s1 0e31;have lpd:=FT.pd;left;wp_walk;refine⟨n,hR,by omega,fun g1 H1 a1 b1 D1 K1=>⟨_,D1,by omega,fun g2 H2 a2 b2 D2 K2 p1 h1=>⟨_,D2.new h1,by omega,fun g3 H3 a3 b3 D3 K3=>?_⟩⟩⟩
  exists made1 K3 D2 h1
  refine iK 6e47 6e47 fun v hv=>?_;obtain⟨mo,rfl,hm⟩:∃ mo:Int,v=.int mo/\0<=mo/\mo<=1000000000000:=by
   simp only[Α,Γ,Τ] at hv;rcases hv with rfl|rfl
   ·exact⟨_,rfl,by omega,by omega⟩
   ·exact⟨_,rfl,by omega,by omega⟩
  have KK:Kp [r] H H3:=((K1.trans K2).trans 5e25).trans K3;clear K1 K2 K3 D1 D2 h1 hv;wp_walk;right;left;wp_walk;refine⟨_,D3,by omega,fun kd H4 a4 b4 D4 K4=>?_⟩;replace KK:=KK.trans K4;clear K4 D3;wp_walk;right;left;wp_walk;split
  ·refine⟨r,_,rfl,D4,by omega,fun w H5 hw D5 K5=>?_⟩;wp_walk;intro p5 h5;exact q _ (.WR mo w) _ _ ⟨p5,rfl,aA⟩ ⟨hm,hw⟩ (D5.new h5) 1e0 ((KK.trans K5).trans 0e54)
  right;left;refine cE fun RI Wt=>?_;wp_walk;split
  ·refine Wt _ _ ?_;clear Wt RI;left;wp_walk;refine⟨_,D4,by omega,fun tk H5 a5 b5 D5 K5=>?_⟩;replace KK:=KK.trans K5;wp_walk;right;refine bW fun R6 ZN=>?_;refine cE fun RI Wt=>?_
   suffices fin:∀(j:Int) (n':Nat) (G:Hp),b6 G r n'->n'<=n+8->Kp [r] H G->R6 [some 6e24,some 0e8,some (.int mo),some 8e6,some 2e33,none] G by
    have ho5:=KK.Wx M0.ho rod;have Xd:=KK.Wx WB rmd
    exists Xd,t5,ho5
    refine fun p2 h2=>⟨_,Du ((q0D h2).at ho5) aA,?_⟩;have N2:=q0D (o:=.lst []) h2;split
    ·next hp =>
     split
     ·refine Wt _ _ ?_;replace ho5:=N2.at ho5;replace Xd:=N2.at Xd;have pos:0 < S.pend.length:=by
       cases e:S.pend with
       | nil=>rw[e] at hp;simp at hp
       | cons _ _=>simp
      exists Xd,t5,ho5
      rw[Δ];refine⟨by omega,by omega,_,D5.new h2,by omega,fun g H' ag bg D6 K6=>?_⟩;have ho6:=K6.Wx ho5 rod;obtain⟨j,ej⟩:∃ j,gI 8e12 g=some 2e33:=by
       obtain⟨g',rfl⟩:∃ g':Nat,g=(g':Int):=⟨g.toNat,by omega⟩;exact⟨S.pend[g']' 1e0,eL 0e0⟩
      exists ho6,ej
      exact fin j _ _ D6 1e0 ((KK.trans (N2.mono 0e0)).trans K6)
     ·exact fin tk _ _ 3e54 1e0 2e43
    ·exact fin tk _ _ 3e54 1e0 2e43
   intro j n' G RG ln KG;clear RI Wt;refine ZN _ _ ?_;clear ZN;clear R6;wp_walk;refine⟨r,_,rfl,RG,by omega,fun w H6 hw D6 K6=>?_⟩;wp_walk;intro p6 h6;exact q _ (.don mo j w) _ _ ⟨p6,rfl,aA⟩ ⟨hm,hw⟩ 2e54 1e0 ((KG.trans K6).trans 9e53)
  clear Wt RI;right;left;wp_walk;refine fun p5 h5=>⟨_,D4.new h5,by omega,fun g5 G5 a5 b5 D5 K5=>?_⟩
  exists made1 K5 D4 h5
  refine iK a5 b5 fun y5 hy5=>?_;obtain⟨z5,rfl⟩:∃ z:Str,y5=.str z:=by simp only[Α,Γ,Τ] at hy5;rcases hy5 with rfl|rfl<;>exact⟨_,rfl⟩
  replace KK:Kp [r] H G5:=(KK.trans 0e54).trans K5;wp_walk;right;refine bW fun R6 ZN=>?_;refine cE fun RI Wt=>?_
  suffices fin:∀ z:Str,R6 [some 6e24,some 0e8,some (.int mo),some 8e6,none,some (.str z)] G5 by
   have Xd:=KK.Wx WB rmd
   exists Xd,vm,GC
   split
   ·next hh =>
    rw[GC] at hh;obtain⟨k',hs⟩:=hh;obtain⟨x,WD⟩:=FT.sl.1 k' hs;obtain⟨pt,ec⟩:=F.ps.ent WD;obtain⟨a,ea,pa,hpa,sv,X4,eA⟩:=F.co.at ec;have ar:a≠r:=fun z=>s3 (z▸Α1 ea);have eA5:=KK.Wx eA ar;replace X4:=X4.kp (hR.tk KK);have ix:gI 4e21 (p:Int)=some 3e1:=eL 9e20;have YJ:=KK.Wx F.cl (fun z=>s2 z.symm);cases X4 with
    | @Wp a0 x k' e1 =>
     split
     ·refine Wt _ _ ?_
      exists Xd,va7,vc7,YJ,ix,eA5,e1
      exact fin _
     ·exact fin _
   ·exact fin _
  intro z;clear RI Wt;refine ZN _ _ ?_;clear ZN;clear R6;wp_walk;refine⟨r,_,rfl,D5,by omega,fun w H6 hw D6 K6=>?_⟩;wp_walk;intro p6 h6;exact q _ (.ltr mo z w) _ _ ⟨p6,rfl,aA⟩ ⟨hm,hw⟩ 2e54 1e0 ((KK.trans K6).trans 9e53)
theorem sS:Ok T T.nO 1 LU:=by
 nomatch T.nO
 ·obtain⟨P0,A0,S,p,w,op,cs,rfl,_⟩:=h;rfl
 ·obtain⟨P0,A0,S,p,w,op,cs,rfl,F,O,lc,q⟩:=h
  nomatch (aG 6e16 (pss3 (ppt pv0 aC pv1) (ppt pv0 aC 7e0) (aL (c9 pv2 2e21)))),0
  obtain⟨ot,M0,XI,c1,c2,c3,c4⟩:=F.ex;obtain⟨us,eo,hC,s1,s2,s3⟩:=O;have lu:=hC.len;have F0:=F;have e00:=eo;have KM:Kp [A0.md] H H:=Kp.refl;have TM:aE H H:=fun _ _ e=>e;obtain⟨WL,WB,Xz,_⟩:=M0.hm;obtain⟨y0,hy0⟩:=XI "mode" 4e0;left
  exists WB
  refine⟨by omega,?_⟩;refine M0.six WB (k:="mode") 4e0 hy0 XI KM TM 0e0 (.str "ended") fun G1 M1 Yt KM TM kp0 TS0 KS0=>?_;replace eo:=kp0 eo 8e0;replace hC:=hC.kt TS0;clear kp0 TS0 KS0 WB Xz;right;obtain⟨WY,WA,XE,_⟩:=M1.hm;obtain⟨y1,hy1⟩:=Yt "outcome" 4e0;left
  exists WA
  refine⟨by omega,?_⟩;refine M1.six WA (k:="outcome") 4e0 hy1 Yt KM TM 0e0 (wv w) fun G2 M2 Y8 KM TM Zz Zb ZF=>?_;replace eo:=Zz eo 8e0;replace hC:=hC.kt Zb;clear Zz Zb ZF WA XE;right;left;obtain⟨ZZ,W9,lk2,_⟩:=M2.hm
  exists W9
  refine fun o2 WU=>?_;generalize hg:Wk G2 o2 2e0=G2a;have N:Kp [] G2 G2a:=hg▸Kp.new WU;have Xv:G2a o2=some 2e0:=hg▸aA;clear hg;have fo2:H o2=none:=by
   cases e:H o2 with
   | none=>rfl
   | some o =>
    by_cases z:o2=A0.md
    ·rw[z,W9] at WU;cases WU
    ·rw[KM.Wx e z] at WU;cases WU
  have Y6:op≠o2:=aF eo WU;have nd2:o2≠A0.dd:=fun z=>by
   obtain⟨ds,ed,_⟩:=M2.hd;rw[z,ed] at WU;cases WU
  replace M2:=M2.kp N;replace W9:=N.at W9;replace eo:=N.at eo;replace hC:=hC.kt 4e1;replace KM:=KM.trans (N.mono (T:=[A0.md]) 0e0);replace TM:=TM.trans 4e1
  exists W9
  refine⟨by omega,?_⟩;have M3:=M2.opn W9 Xv nd2;have KS2:Kp [A0.md] G2a 1e43:=Kp.jQ;have TS2:aE G2a 1e43:=aE.cA W9;replace eo:=cB (u:=.dK 5e26) W9 eo;replace hC:=hC.kt TS2;replace KM:=KM.trans KS2;replace TM:=TM.trans TS2;generalize Wk G2a A0.md (.dK 5e26)=G3 at *;clear KS2 TS2 W9 lk2 N WU Xv;right
  exists eo
  refine fun pt Y1=>?_;generalize hg:Wk G3 pt 4e43=G3b;have N:Kp [] G3 G3b:=hg▸Kp.new Y1;have ept:G3b pt=some 4e43:=hg▸aA;clear hg;replace M3:=M3.kp N;replace eo:=N.at eo;replace hC:=hC.kt 4e1;replace KM:=KM.trans (N.mono (T:=[A0.md]) 0e0);replace TM:=TM.trans 4e1
  exists eo
  refine⟨by omega,?_⟩;have T4:aE G3b (Wk G3b op 6e7):=aE.cA eo;have K4:Kp [op] G3b (Wk G3b op 6e7):=Kp.jQ;have hC4:=(hC.app 8e48).kt T4;have nod:op≠A0.dd:=fun z=>s1 5e21;have nom:op≠A0.md:=fun z=>s1 2e23;have M4:=M3.other (vs:=us++[.ref pt]) eo Y6 nod;have KF:Kp [A0.md,op] H (Wk G3b op 6e7):=fun b o e n=>K4.Wx (KM.Wx e 3e20) 3e20;obtain⟨w1,w2,w3⟩:=F0.new fo2;refine q _ p _ (F0.asm 4e19 Y8 ?_ ?_ ?_ ⟨?_,?_⟩ 1e30 4e51 rfl F0.ps w1 w2) ⟨_,aA,hC4,Uk s1 Y6,s2,s3⟩ 3e39
  ·simp[bD,c1]
  ·simp[bD,c2]
  ·simp[bD,c3]
  ·simp[bD]
  ·simp
  ·obtain⟨a1,a2,a3,a4,a5⟩:=F0.Gj s1 s2 s3 hb;exact KF b o e 3e48
  ·simp only[Α,Γ,Τ] at hb;rcases hb with rfl|rfl
   ·obtain⟨kv,e,_⟩:=M4.hm;exact⟨.inl aZ.1,_,e⟩
   ·exact⟨.inr 0e0,_,aA⟩
theorem oK:Ok T T.jI 1 Fe:=by
 nomatch T.jI
 ·obtain⟨n,rfl,_⟩:=h;rfl
 ·obtain⟨n,rfl,q⟩:=h
  nomatch (aH (aJ (bG 5e11 rfl T.zP mE (pa2 (fH dS 5e3) (bG 4e24 rfl T.Ja AO (pa2 5e3 pv0)))))),0
  wp_walk;exact q
theorem Fh{d:Nat}(hn:3<=n)(IH:fS P w K mg base Xq n t.uU t.vI ["saying","run"] (uK d)):Ok T T.eV (n+1) (uK (d+1)):=by
  nomatch T.eV
  · obtain⟨v,md,nd,od,dd,ot,S,s,rfl,_⟩:=h;rfl
  · obtain⟨v,md,nd,od,dd,ot,S,s,rfl,hS,hd,Ws,M,hP,q⟩:=h;have hu:=oF hr
    nomatch (aG (pst 2 3e2) (aG (pif 9e3 2e51) (aG (pif 9e3 6e22) (aG (pif 9e3 (aH (aJ (uD hu 2e1 3e2 ⟨rfl,rfl,rfl,rfl⟩)))) (aG (pif 9e3 (aH (aJ 2e1))) (aG (pif 9e3 (aH (aJ (pcl (oK T) T.jI (pa1 2e1))))) (aG (pst 3 7e41) (aG (pif 9e3 (aH (aJ (uD hu (cD ((Ej rfl)) rfl T.Mq MF (pa1 2e1)) pv3 ⟨rfl,rfl,rfl,rfl⟩)))) (aG (pif 9e3 (aH (aJ (cD fY rfl T.zO mD (pa1 (GO (pcr mW pv3 cG) (jD (pcr aS pv3 aB)))))))) (aG (pst 4 7e41) (aG (pif 9e3 (aH (aJ (cD fY rfl T.zO mD (pa1 (pcr aS pv3 pv4)))))) (aG (pst 5 (BG pv3 (jD aB))) (pss3 (pst 6 6e48) (pif 9e3 (aH (aJ (cD fY rfl T.zO mD (pa1 (pcr jN pv5 pv6)))))) (aJ (pcl (oK T) T.jI (pa1 (pdg (BE (dF aC (bC cI pv5 pv6) (dF aC (bC jC pv5 pv6) (dF aC (bC pC pv5 pv6) BH))) rfl rfl 9e28 5e0) pv2))))))))))))))))),0
    obtain⟨kvs,em,_,v1,v2,v3,v4,v5,v6⟩:=M.hm;cases hS with
    | num e =>
      exists e
      exact q _ Kp.refl
    | Wl e =>
      exists e
      exact q _ Kp.refl
    | @name a x e =>
      exists e,em,v1,M.hn,qD
      exact q _ Kp.refl
    | arg e =>
      exists e,em,v2
      exact q _ Kp.refl
    | now e =>
      exists e,em,v3
      exact q _ Kp.refl
    | @ans a v s e h1 =>
      exists e
      simp only[Say.depth] at hd;refine⟨_,md,nd,od,dd,ot,S,_,rfl,h1,by omega,Ws,M,hP,fun H1 K1=>?_⟩;obtain⟨ds,ed,rd⟩:=M.hd
      exists K1.at em,v6,K1.at ed
      refine⟨_,(rd.kt 8e2).pairs,fun p hp=>?_⟩
      exists Ij M.uq,pM
      rw[UQ] at q;exact q _ (K1.trans 1e11)
    | @neg a v s e h1 =>
      exists e
      simp only[Say.depth] at hd;refine⟨_,md,nd,od,dd,ot,S,_,rfl,h1,by omega,Ws,M,hP,fun H1 K1=>?_⟩;rw[UW] at q;cases hw:S.worth s with
      | none =>
        rw[hw] at q
        exists wv
        exact q _ K1
      | some z =>
        rw[hw] at q
        exists wv,reduceCtorEq
        by_cases hz:z=0
        · subst hz;exact q _ K1
        · have:=q _ K1;simp only[num,Option.getD_some,hz,Β1,wv] at this;simpa[hz] using this
    | @two a v u g s1 s2 e h1 h2 =>
      simp only[Say.depth] at hd;rw[UY] at q;have w1:eD 4e17:=Gi hP Ws.1;have w2:eD 3e17:=Gi hP Ws.2;have b1:=wI w1;have b2:=wI w2;cases g <;>
      ( exists e,Sg.s
        refine⟨_,md,nd,od,dd,ot,S,_,rfl,h1,by omega,Ws.1,M,hP,fun H1 K1=>?_⟩
        exists K1.at e,Sg.s
        refine⟨_,md,nd,od,dd,ot,S,_,rfl,h2.kp 8e2,by omega,Ws.2,M.kp K1,hP,fun H2 K2=>?_⟩;have q0:=q;replace q:=q H2 3e22;wp_walk)
      case eq =>
        refine Tz ?_;wp_walk;rw[show(Sg.eq.of 4e17 3e17)=if S.worth s1=S.worth s2 then 1 else 0 from rfl] at q;simpa[wv] using q
      case lt =>
        exists Δ9
        exact q
      all_goals (
        refine fun p hp=>⟨GF 1e0 1e0,[(.inr "+",.int (num 4e17+num 3e17)),(.inr "-",.int (num 4e17 - num 3e17)),(.inr "*",.int (num 4e17 * num 3e17))],rfl,by simp,?_⟩
        exists Ik,UL,UO,UN
        exact q0 _ ((K1.trans K2).trans (NU hp)))
theorem jA(T:Tx P w base K mg t):∀ d,fS P w K mg base Xq (d+3) t.uU t.vI ["saying","run"] (uK d):=by
 intro d
 induction d with
 | zero=>exact⟨fun _ _ _ _ x=>by (obtain⟨_,_,_,_,_,_,_,s,_,_,h,_⟩:=x;exact absurd h (by have:=s.nL;omega)),fun _ _ _ _ _ _ _ _ _ _ _ _ _ x=>by (obtain⟨_,_,_,_,_,_,_,s,_,_,h,_⟩:=x;exact absurd h (by have:=s.nL;omega))⟩
 | succ d ih=>exact Fh T 1e0 ih
theorem Bx:Ok T T.o8 11 (Ff (fun m=>∃ x ss,m=.wait x ss)):=by
 nomatch T.o8
 ·obtain⟨P0,A0,S,p,v,m,rfl,_⟩:=h;rfl
 ·obtain⟨P0,A0,S,p,v,m,rfl,F,sn,hs,gm,g,st,hP,b1,b2,b3,q⟩:=h
  nomatch (aG (BI (i:=2) sc rfl 4e31 (qJ (fr:=[0]) (N:=["saying","run"]) rfl 6e2 (eR.free rfl rfl rfl rfl rfl 0e25 rfl 5e0 rfl 1e14) (LB 3e0) (fun C s H ex pn=>⟨BK,(BC 5e24 (hr.mono 1e0) rfl T.eV.m T.eV.fn.kp T.eV.bd .nil pass0 (eY 1e5 (eY 0e14 bM))) ⟩))) (aG (Dq (i:=3) (fr:=[2]) (N:=["ticket","worth","worths"]) rfl 6e2 (kU.of (M:=["ticket","worths"]) 1e25 rfl 5e0 rfl) (jO 6e0) (fun C s H ex pn=>⟨nW (dQ gT 1e5 (pv 2) 1e2) ,1e5 ⟩) sc rfl 5e17) (aG (ppt pv0 aC (qJ (fr:=[2]) (N:=["ticket","worths"]) rfl 6e2 1e25 (jO 6e0) 7e25)) (pss3 (pif (PW.pt (dB (ptc 1e21 pv3 7e0) (cU (ptc 6e12 6e0 7e0)))) (pss2 6e16 uI)) (ppt 6e0 3e0 (pix aK (bC cI pv3 (aM (pa1 cG))) aB)) 4e15)))),0
  obtain⟨x,ss,rfl⟩:=gm;cases hs with
  | @wait a pp x vs ss e1 e2 hss =>
   obtain⟨_,g4,gs⟩:=g;have lv:=hss.Rk;obtain⟨ot,M0,XI,c1,c2,c3,c4⟩:=F.ex;left
   exists e1
   refine⟨⟨_,g8.of e2⟩,?_⟩;obtain⟨Pv,Wz⟩:∃ Pv:Nat->List V->Hp->Prop,∀ i xs G,Pv i xs G=(Kp [] H G/\xs=((ss.take i).map S.worth).map wv):=⟨_,fun _ _ _=>rfl⟩;refine KU (ys:=vs) Pv ?_ ?_ ?_ ?_ ?_
   ·rw[Wz];exact⟨Kp.refl,rfl⟩
   ·intro i xs G h;rw[Wz] at h;rw[h.2,Δ,Δ,Α8];omega
   ·intro i xs G h;rw[Wz] at h;exact g8.of (h.1.at e2)
   ·intro i y xs G hi ey h;rw[Wz] at h;obtain⟨k,rfl⟩:=h;obtain⟨s0,es,h0⟩:=hss.atW ey;obtain⟨sk1,sk2⟩:=gs s0 (Α1 es)
    exists aV,Β8
    refine⟨y,A0.md,A0.nd,A0.od,A0.dd,ot,S,s0,rfl,h0.kp (aE.nil k),sk2,sk1,M0.kp k,hP,fun G' k'=>?_⟩;show Pv 7e1 _ _;rw[Wz,Β9,es];exact⟨k.trans k',by simp⟩
   intro xs G h p1 Zk;rw[Wz] at h;obtain⟨k,rfl⟩:=h;rw[lv,Α3];obtain⟨ws,Xy⟩:∃ ws,ws=ss.map S.worth:=⟨_,rfl⟩;have hd:bL S 1e13=if aX S.ans ws=none/\bH S.pend ws≠[] then ({S with sl:=.wait 1e22},[]) else ({S with nm:=bT S.nm x 9e9},[]):=by rw[Xy];rfl
   rw[<- Xy];have lw:ws.length<=4:=by rw[Xy,Δ];exact g4
   clear Xy Wz Pv;have N1:=k.trans (q0D (o:=.lst 7e7) Zk);have f1:Wk G p1 8e7 p1=some 8e7:=aA;generalize Wk G p1 8e7=G1 at *;have F1:=F.kp N1;have M1:=M0.kp N1;replace e1:=N1.at e1;right;left;obtain⟨WY,WA,XE,u1,u2,u3,u4,u5,u6⟩:=M1.hm;obtain⟨ds,ed,YX⟩:=M1.hd;have lds:=YX.len
   exists WA,u6
   refine⟨⟨_,eU.of ed⟩,?_⟩;obtain⟨Pw,WJ⟩:∃ Pw:Nat->List V->Hp->Prop,∀ i xs G',Pw i xs G'=(G'=G1/\xs=(cX 2e50 ws).map V.int):=⟨_,fun _ _ _=>rfl⟩;refine KQ (ys:=ds) Pw ?_ ?_ ?_ ?_ ?_
   ·rw[WJ];exact⟨rfl,rfl⟩
   ·intro i xs G' h;rw[WJ] at h;have:=Α2 (fun p:Int×Wo=>decide (some p.1∈ws)) 2e50;rw[h.2,Δ,cX,Δ];rw[Α8] at this;omega
   ·intro i xs G' h;rw[WJ] at h;rw[h.1];exact eU.of ed
   ·intro i y xs G' hi ey h;rw[WJ] at h;obtain⟨rfl,rfl⟩:=h;obtain⟨t0,j0,w0,rfl,ej,et⟩:=YX.at ey;refine⟨t0,_,_,rfl,g8.of et,?_⟩
    exists aV,Β8,f1,Bj
    refine⟨rfl,CB ws,?_⟩;rw[WJ,WJ,Fc ej];split
    ·next h=>exact⟨rfl,(if_pos 5e10).symm⟩
    ·next h=>exact⟨rfl,(if_neg 5e10).symm⟩
   intro xs G' h p2 Y0;rw[WJ,lds,Α3] at h;obtain⟨rfl,rfl⟩:=h;clear WJ Pw;have N2:=q0D (o:=.lst 8e25) Y0;have f2:Wk G' p2 9e25 p2=some 9e25:=aA;have n12:p2≠A0.md:=fun z=>by rw[z,WA] at Y0;cases Y0
   generalize Wk G' p2 9e25=G2 at *;replace F1:=F1.kp N2;replace M1:=M1.kp N2;replace e1:=N2.at e1;replace f1:=N2.at f1;replace N1:=N1.trans N2;clear WA XE u1 u2 u3 u4 u5 u6 ed YX N2 WY ds lds;right;left;obtain⟨WY,WA,XE,u1,u2,u3,u4,u5,u6⟩:=M1.hm;obtain⟨y1,hy1⟩:=XI "awaited" 4e0
   exists WA,u5
   refine⟨⟨_,eU.of M1.ho⟩,?_⟩;obtain⟨Pw,WJ⟩:∃ Pw:Nat->List V->Hp->Prop,∀ i xs G',Pw i xs G'=(G'=G2/\xs=((S.pend.take i).filter fun j=>decide 5e50).map V.int):=⟨_,fun _ _ _=>rfl⟩;refine tZ (ys:=S.pend.map V.int) Pw ?_ ?_ ?_ ?_ ?_
   ·rw[WJ];exact⟨rfl,rfl⟩
   ·intro i xs G' h;rw[WJ] at h;have:=Α2 (fun j=>decide 5e50) 5e49;rw[h.2,Δ];rw[Α8] at this;omega
   ·intro i xs G' h;rw[WJ] at h;rw[h.1];exact eU.of M1.ho
   ·intro i y xs G' hi ey h;rw[WJ] at h;obtain⟨rfl,rfl⟩:=h;rw[ϒ] at ey;obtain⟨j0,ej,rfl⟩:=ϛ.mp ey
    exists aV,Β8,f1,Bj
    refine⟨rfl,CB ws,?_⟩;rw[WJ,WJ,zZ ej];split
    ·next h=>exact⟨rfl,(if_pos 5e10).symm⟩
    ·next h=>exact⟨rfl,(if_neg 5e10).symm⟩
   intro xs G' h p3 ZU;rw[WJ,Δ,Α3,mY M1.asc] at h;obtain⟨rfl,rfl⟩:=h;clear WJ Pw;have N2:=q0D (o:=.lst 4e2) ZU;have f3:Wk G' p3 (.lst 4e2) p3=some (.lst 4e2):=aA;obtain⟨w1,w2,w3⟩:=F1.new ZU;have fp3:H p3=none:=N1.cF ZU;replace F1:=F1.kp N2;replace M1:=M1.kp N2;replace e1:=N2.at e1;replace WA:=N2.at WA;replace f2:=N2.at f2;replace N1:=N1.trans N2;generalize Wk G' p3 (.lst 4e2)=G1 at *;have KM:Kp [A0.md] G1 G1:=Kp.refl;have TM:aE G1 G1:=fun _ _ e=>e;have Yt:=XI
   exists WA
   refine⟨by omega,?_⟩;refine M1.six WA (k:="awaited") 4e0 hy1 Yt KM TM 0e0 6e32 fun G2 M2 Y8 KM TM Zz Zb ZF=>?_;replace f2:=Zz f2 8e0;replace f3:=Zz f3 8e0;replace e1:=Zz e1 8e0;clear Zz Zb ZF WA XE;right;obtain⟨XS,M2,Y8,d1,d2,d3,da,dm⟩:∃ XS:Str->Option V,cJ G2 A0.md A0.nd A0.od A0.dd XS S/\(∀ k∈OK6,∃ v,XS k=some v)/\XS "code"=some 8e17/\XS "at"=some 7e11/\XS "letters"=some 7e17/\XS "awaited"=some 6e32/\XS "mode"=some 4e54:=⟨_,M2,Y8,(eC).trans c1,(eC).trans c2,(eC).trans c3,xI,(eC).trans (by rw[sn] at c4;exact c4)⟩;have kn2:(fA S.nm).length<=100000:=by rw[fA,Δ];exact b1
   refine bW fun R4 ZM=>?_;refine cE fun RI Wt=>?_
   suffices fin:(aX S.ans ws=none/\bH S.pend ws≠[]->∀ G,4e33->RI [some 0e8,some 3e1,some 2e4,some 3e3] G)/\(¬ 2e38->∀ G,4e33->R4 [some 0e8,some 3e1,some 2e4,some 3e3] G) by
    obtain⟨ZZ,W9,lk2,t1,t2,t3,t4,t5,t6⟩:=M2.hm;have va:aW ZZ 7e48=some 6e32:=(lk2.2 _ 4e0).trans da
    exists f2
    refine fun q1 h1=>⟨_,Du ((q0D h1).at f2) aA,?_⟩;generalize hg:Wk G2 q1 2e0=G3;have NQ:Kp [] G2 G3:=hg▸Kp.new h1;clear hg;replace M2:=M2.kp NQ;replace W9:=NQ.at W9;replace f2:=NQ.at f2;replace f3:=NQ.at f3;replace e1:=NQ.at e1;replace KM:=KM.trans (NQ.mono (T:=[A0.md]) 0e0);replace TM:=TM.trans 3e53
    exists W9,va
    split
    ·next hr =>
     have hf:aX S.ans ws=none:=by rw[m6];simpa using hr
     refine fun q2 h2=>⟨_,Du ((q0D h2).at f3) aA,?_⟩;have NR:=q0D (o:=.lst []) h2;split
     ·next ho=>exact fin.1 ⟨hf,by simpa using ho⟩ _ ⟨M2.kp NR,NR.at e1,NR.at f2,NR.at f3,KM.trans (NR.mono 0e0),TM.trans 2e53⟩
     ·next ho=>exact fin.2 (fun z=>ho (by simpa using z.2)) _ ⟨M2.kp NR,NR.at e1,NR.at f2,NR.at f3,KM.trans (NR.mono 0e0),TM.trans 2e53⟩
    ·next hr=>exact fin.2 (fun z=>hr (by have:=z.1;rw[m6] at this;simpa using this)) _ ⟨M2,e1,f2,f3,KM,TM⟩
   clear KM TM M2 e1 f2 f3;refine⟨fun cw G3 ⟨M3,e1,f2,f3,KM,TM⟩=>Wt _ _ ?_,fun cw G3 ⟨M3,e1,f2,f3,KM,TM⟩=>?_⟩
   ·clear Wt RI;have os3:=Y8;obtain⟨Y5,Xc,X5,_⟩:=M3.hm;obtain⟨y3,hy3⟩:=os3 "mode" 4e0;left
    exists Xc
    refine⟨by omega,?_⟩;refine M3.six Xc (k:="mode") 4e0 hy3 os3 KM TM 0e0 (.str "wait") fun G4 M4 os4 KM TM kp3 TS3 KS3=>?_;replace f3:=kp3 f3 8e0;clear kp3 TS3 KS3 Xc X5;right;wp_walk;have h1:one S 1e13=({S with sl:=.wait 1e22},[]):=by rw[gZ rfl,hd,if_pos cw];rfl
    rw[h1] at q;refine q {A0 with aw:=p3} p G4 ((F1.Uy sn p3).pP 4e19 os4 8e49 ((eC).trans d2) 7e49 ⟨xI,(eC).trans da,f3,w3⟩ 1e38 TM rfl F1.ps) (((Fm.of N1).trans 7e26).awN fp3 f3);rw[show b=A0.md by simpa using hb];obtain⟨kv,e,_⟩:=M4.hm;exact⟨.inl aZ.1,_,e⟩
   ·clear Wt RI;refine ZM _ _ ?_;clear ZM;clear R4;obtain⟨Y5,Xc,X5,t1,t2,t3,t4,t5,t6⟩:=M3.hm;left
    exists Xc,t1,f2,e1,M3.hn
    refine fun p4 h4=>?_;generalize hg:Wk G3 p4 9e52=G4;have N4:Kp [] G3 G4:=hg▸Kp.new h4;have e4:G4 p4=some 9e52:=hg▸aA;clear hg;replace M3:=M3.kp N4;replace Xc:=N4.at Xc;replace f2:=N4.at f2;replace e1:=N4.at e1;replace KM:=KM.trans (N4.mono (T:=[A0.md]) 0e0);replace TM:=TM.trans 0e23
    exists f2,e4
    refine⟨by have:=IL S.ans ws;rw[Δ];omega,fun p5 h5=>?_⟩;rw[LH];have N5:=q0D (o:=.lst 9e39) h5;replace M3:=M3.kp N5;replace Xc:=N5.at Xc;replace e1:=N5.at e1;replace KM:=KM.trans (N5.mono (T:=[A0.md]) 0e0);replace TM:=TM.trans (aE.nil N5);generalize Wk G4 p5 (.lst 9e39)=G5 at *
    exists Xc,t1,e1,M3.hn,fP
    refine⟨by omega,?_⟩;have M6:=M3.name x 9e9;have TN:aE G5 6e43:=aE.cA M3.hn;have KN:Kp [A0.md,A0.nd] G5 6e43:=Kp.set 0e0;replace KM:=(KM.mono (T:=[A0.md,A0.nd]) 0e0).trans KN;replace TM:=TM.trans TN;generalize Wk G5 A0.nd (.dK 7e14)=G6 at *;clear Xc X5 t1 t2 t3 t4 t5 t6 N4 N5 TN KN;have os6:=Y8;right;obtain⟨kv6,em6,lk6,_⟩:=M6.hm;have vat:aW kv6 9e0=some 7e11:=(lk6.2 _ 4e0).trans d2;obtain⟨y6,hy6⟩:=os6 "at" 4e0
    exists em6,vat
    refine⟨by omega,?_⟩;refine M6.six em6 (k:="at") 4e0 hy6 os6 KM TM 0e0 5e47 fun G7 M7 os7 KM TM kp6 TS6 KS6=>?_;clear kp6 TS6 KS6 em6 lk6;have h1:one S 1e13=(({S with nm:=bT S.nm x 9e9}:Pu).pass,[]):=by rw[gZ rfl,hd,if_neg cw,if_pos (by rw[show(({S with nm:=bT S.nm x 9e9}:Pu).sl)=S.sl from rfl,sn];rfl)]
    rw[h1] at q;have XR:=F1.ps.pass st;rw[Ma rfl] at XR;refine q A0 (p+1) G7 (F1.pP 3e38 os7 8e49 xI 7e49 ?_ (fun b o e hb=>KM b o e (by have:=F1.far hb;simp[this.1,this.2.1])) TM rfl XR) 8e26
    ·show eI _ _ _ S.sl;rw[sn] at c4 ⊢;exact(eC).trans dm
    ·simp only[Α,Γ,Τ] at hb;rcases hb with rfl|rfl
     ·obtain⟨kv,e,_⟩:=M7.hm;exact⟨.inl aZ.1,_,e⟩
     ·exact⟨.inl aZ.2.1,_,M7.hn⟩
theorem Bw:Ok T T.oZ 1 (Ff (fun m=>∃ x k,m=.Wp x k)):=by
 nomatch T.oZ
 ·obtain⟨P0,A0,S,p,v,m,rfl,_⟩:=h;rfl
 ·obtain⟨P0,A0,S,p,v,m,rfl,F,sn,hs,gm,g,st,hP,b1,b2,b3,q⟩:=h;have hu:=oF hr
  nomatch (pss3 (pif (ptc 1e21 (r8 hu 6e0 3e0 7e0 ⟨rfl,rfl,rfl,rfl⟩) 7e0) (pss2 6e16 uI)) (ppt 6e0 3e0 0e34) 4e15),0
  obtain⟨x,k,rfl⟩:=gm;cases hs with
  | @Wp a x k e1 =>
   obtain⟨ot,M0,XI,c1,c2,c3,c4⟩:=F.ex;obtain⟨lk,ml,el,hl,hun,hq⟩:=F.lt;obtain⟨WL,WB,Xz,t1,t2,t3,t4,t5,t6⟩:=M0.hm;have vl:aW WL 6e21=some 7e17:=(Xz.2 _ 4e0).trans c3;have kn2:(fA S.nm).length<=100000:=by rw[fA,Δ];exact b1
   refine bW fun R1 hR1=>?_;refine cE fun RI Wt=>?_
   suffices fin:((aT S.lt k).getD []=[]->∀ G,Kp [] H G->RI [some 0e8,some 3e1] G)/\(∀ w r l,(aT S.lt k).getD []=w::r->aW lk 0e3=some 0e33->l∈A0.las->∀ G,G l=some (.lst ((w::r).map wv))->Kp [] H G->R1 [some 0e8,some 3e1] G) by
    exists WB,vl,e1,el
    refine fun p1 h1=>?_;have N1:=q0D (o:=.lst []) h1;have e0:Wk H p1 2e0 p1=some 2e0:=aA;have hl':=hl.keep 6e28;have el':=N1.at el;obtain⟨l,ws,hv,YC,Xy,hx⟩:∃ l ws,(aW lk 0e3).getD 2e4=.ref l/\Wk H p1 2e0 l=some 8e7/\(aT S.lt k).getD []=ws/\(ws≠[]->aW lk 0e3=some 0e33/\l∈A0.las):=by
     rcases hl'.look k with⟨z1,z2⟩|⟨l,ws,z1,z2,z3,z4⟩
     ·exact⟨p1,[],by rw[z1];rfl,e0,by rw[<- hq k,z2];rfl,fun z=>absurd rfl z⟩
     ·exact⟨l,ws,by rw[z1];rfl,z4,by rw[<- hq k,z2];rfl,fun _=>⟨z1,z3⟩⟩
    generalize Wk H p1 2e0=G1 at *
    exists el',hv
    refine fun p2 h2=>?_;have N2:=q0D (o:=.lst []) h2;have Zh:=N2.at YC;refine⟨_,Du Zh aA,?_⟩;cases ws with
    | nil=>exact fin.1 Xy _ 6e51
    | cons w r =>
     obtain⟨x1,x2⟩:=hx 0e0;exact fin.2 w r l Xy x1 x2 _ Zh 6e51
   refine⟨fun hn G1 N1=>Wt _ _ ?_,fun w r l hn hv hll G1 Zr N1=>?_⟩
   ·clear Wt RI;have M1:=M0.kp N1;have Yt:=XI;have KM:Kp [A0.md] G1 G1:=Kp.refl;have TM:aE G1 G1:=fun _ _ e=>e;have F1:=F.kp N1;obtain⟨WY,WA,XE,_⟩:=M1.hm;obtain⟨y1,hy1⟩:=Yt "mode" 4e0;left
    exists WA
    refine⟨by omega,?_⟩;refine M1.six WA (k:="mode") 4e0 hy1 Yt KM TM 0e0 (.str "hear") fun G2 M2 Y8 KM TM Zz Zb ZF=>?_;clear Zz Zb ZF WA XE;right;wp_walk;have h1:one S 4e11=({S with sl:=.Wp k},[]):=by
     have:bL S 4e11=({S with sl:=.Wp k},[]):=by simp only[bL,hn]
     rw[gZ rfl,this];rfl
    rw[h1] at q;refine q A0 p G2 (F1.pP (M2.as ⟨rfl,rfl,rfl,rfl,rfl,rfl⟩) Y8 9e30 9e49 8e30 xI 1e38 TM rfl F1.ps) 8e26;rw[show b=A0.md by simpa using hb];obtain⟨kv,e,_⟩:=M2.hm;exact⟨.inl aZ.1,_,e⟩
   ·clear Wt RI;refine hR1 _ _ ?_;clear hR1 R1;have F1:=F.kp N1;have M1:=M0.kp N1;replace WB:=N1.at WB;replace e1:=N1.at e1;replace el:=N1.at el;replace hl:=hl.keep 6e28;left
    exists WB,t1,vl,el,e1,M1.hn,hv,Zr
    rw[show(wv w::r.map wv).tail=r.map wv from rfl];obtain⟨g1,g2,g3,g4⟩:=F1.s2 l hll;have fl:=F1.far (.inr (.inr (.inr hll)));have M2:=M1.other (vs:=r.map wv) Zr g1 g2;have Zh:=hl.set r hv F1.nl;have KM:Kp [A0.md,A0.nd,l] G1 (Wk G1 l 9e12):=Kp.set 0e0;have TM:aE G1 (Wk G1 l 9e12):=aE.cA Zr;replace WB:=cB (u:=.lst 3e27) Zr WB;replace el:=cB (u:=.lst 3e27) Zr el;replace e1:=TM _ _ e1;have elr:Wk G1 l 9e12 l=some 9e12:=aA;generalize Wk G1 l 9e12=G2 at *
    exists WB,t1,e1,M2.hn,fP
    refine⟨by omega,?_⟩;have M3:=M2.name x w;have TN:aE G2 7e43:=aE.cA M2.hn;have KN:Kp [A0.md,A0.nd,l] G2 7e43:=Kp.set 0e0;replace el:Wk G2 A0.nd (.dK 2e2) A0.ld=some (.dK lk):=by rw[aD F.n2.symm];exact el
    replace elr:=cB (u:=.dK 2e2) M2.hn elr;replace Zh:=Zh.keep (H':=Wk G2 A0.nd (.dK 2e2)) (fun a ha o e=>by rw[aD (F1.far 1e44).2.1];exact e);replace KM:=KM.trans KN;replace TM:=TM.trans TN;generalize Wk G2 A0.nd (.dK 2e2)=G3 at *;clear WB Xz t1 t2 t3 t4 t5 t6 TN KN;have os3:=XI;right;obtain⟨Y5,Xc,X5,_⟩:=M3.hm;have vat:aW Y5 9e0=some 7e11:=(X5.2 _ 4e0).trans c2;obtain⟨y3,hy3⟩:=os3 "at" 4e0
    exists Xc,vat
    refine⟨by omega,?_⟩;refine M3.six Xc (k:="at") 4e0 hy3 os3 KM TM 0e0 5e47 fun G4 M4 os4 KM TM kp3 TS3 KS3=>?_;replace el:=KS3 _ _ el (by simp[F.n1.symm]);replace elr:=kp3 elr 8e0;replace Zh:=Zh.keep fun a ha o e=>KS3 a o e (by simp[(F1.far 1e44).1]);clear kp3 TS3 KS3 Xc X5;have h1:one S 4e11=(({S with nm:=bT S.nm x w,lt:=dJ S.lt k r}:Pu).pass,[]):=by
     have:bL S 4e11=({S with nm:=bT S.nm x w,lt:=dJ S.lt k r},[]):=by simp only[bL,hn]
     rw[gZ rfl,this,if_pos (by rw[show(({S with nm:=bT S.nm x w,lt:=dJ S.lt k r}:Pu).sl)=S.sl from rfl,sn];rfl)]
    rw[h1] at q;have XR:=F1.ps.pass st;rw[Ma rfl] at XR;refine q A0 (p+1) G4 (F1.PR 4e19 os4 9e30 xI 8e30 ?_ 1e30 TM ⟨lk,_,el,Zh,⟨by rw[nX];exact hun.1,by rw[nB];exact hun.2⟩,fun j=>?_⟩ XR F1.nl F1.s2) 8e26
    ·show eI _ _ _ S.sl;rw[sn] at c4 ⊢;exact(eC).trans c4
    ·have WQ:b=A0.cl\/b∈A0.cs\/b=A0.ld\/b∈A0.las:=hb.elim .inl 2e44;have hf:=F1.far WQ;refine KM b o e ?_;simp only[Α,Γ,Τ,not_or];refine⟨hf.1,hf.2.1,fun z=>?_⟩;subst z;rcases hb with hb|hb
     ·exact g3 hb
     ·exact g4 hb
    ·show _=(aT (dJ S.lt k r) j).getD [];rw[v9 hn,v9 (by rw[hq k];exact hn),hq j]
    ·simp only[Α,Γ,Τ] at hb;rcases hb with rfl|rfl|rfl
     ·obtain⟨kv,e,_⟩:=M4.hm;exact⟨.inl aZ.1,_,e⟩
     ·exact⟨.inl aZ.2.1,_,M4.hn⟩
     ·exact⟨.inl (by simp[Fa.mut,hll]),_,elr⟩
theorem qI:Ok T T.lA 1 GY:=by
 nomatch T.lA
 ·obtain⟨md,nd,od,dd,ot,S,x,rfl,_⟩:=h;rfl
 ·obtain⟨md,nd,od,dd,ot,S,x,rfl,M,b1,b2,b3,q⟩:=h
  nomatch (aG 4e15 (pss3 (aL (c9 6e0 (bC jC 6e0 aB))) (ppt 6e0 pv1 (bC jC 6e0 aB)) (aJ (bC jC 6e0 aB)))),0
  obtain⟨kvs,em,lk,v1,v2,v3,v4,v5,v6⟩:=M.hm;left
  exists em,v4
  have M1:=M.made em;have K1:Kp [md,nd,od] H (Wk H md 3e35):=Kp.set 0e0;refine⟨by omega,?_⟩;generalize Wk H md 3e35=G1 at *;right;left;obtain⟨WY,WA,XE,x1,x2,x3,x4,x5,x6⟩:=M1.hm;have e4:((({S with made:=S.made+1}:Pu).made:Nat):Int) - 1=(S.made:Int):=by show((S.made+1:Nat):Int) - 1=_;omega
  exists WA,x5,M1.ho,x4,e4
  refine⟨by rw[Δ];show S.pend.length < _;omega,?_⟩;have ea:S.pend.map V.int++[V.int (S.made:Int)]=(S.pend++[(S.made:Int)]).map V.int:=by simp
  rw[show({S with made:=S.made+1}:Pu).pend=S.pend from rfl,ea];have M2:=M1.open (pd:=S.pend++[(S.made:Int)]) (Ε3.mpr ⟨M.asc,by simp,fun i hi j hj=>by rw[show j=(S.made:Int) by simpa using hj];exact(M.lt i hi).2⟩) (fun i hi=>by
   rcases Κ.mp hi with hi|hi
   ·have:=M.lt i hi;exact⟨this.1,by show i < ((S.made+1:Nat):Int);omega⟩
   ·rw[show i=(S.made:Int) by simpa using hi];exact⟨by omega,by show(S.made:Int) < ((S.made+1:Nat):Int);omega⟩) (fun p hp hi=>by
   have d:=M.dis p hp;rcases Κ.mp hi with hi|hi
   ·exact d.1 hi
   ·have:p.1=(S.made:Int):=by simpa using hi
    omega)
  have K2:Kp [md,nd,od] H _:=K1.trans (Kp.set (p:=od) (o:=.lst 7e38) 0e0);generalize Wk G1 od (.lst 7e38)=G2 at *;right;left;obtain⟨ZZ,W9,lk2,y1,y2,y3,y4,y5,y6⟩:=M2.hm;have ep:aO 4e32 (.inr x) 0e47=fA (bT S.nm x 5e7):=fP S.nm x 5e7;have l1:(fA S.nm).length<=100000:=by rw[fA,Δ];exact b3
  have Zi:G2 nd=some (.dK 4e32):=M2.hn
  exists W9,y1,y4,e4,Zi,ep
  refine⟨by omega,?_⟩;have M3:=M2.name x 5e7;have K3:Kp [md,nd,od] H _:=K2.trans (Kp.set (p:=nd) (o:=.dK 4e29) 0e0);replace M3:cJ (Wk G2 nd (.dK 4e29)) md nd od dd ot (S.rP x):=M3;generalize Wk G2 nd (.dK 4e29)=G3 at *;right;obtain⟨Y5,Xc,X5,z1,z2,z3,z4,z5,z6⟩:=M3.hm
  exists Xc,z4
  rw[show(((S.rP x).made:Nat):Int) - 1=(S.made:Int) from by show((S.made+1:Nat):Int) - 1=_;omega];exact q G3 M3 K3
theorem zH:Ok T T.mM 10 Pq:=by
 nomatch T.mM
 ·obtain⟨md,nd,od,dd,op,ot,v,S,m,us,cs,rfl,_⟩:=h;rfl
 ·obtain⟨md,nd,od,dd,op,ot,v,S,m,us,cs,rfl,M,hs,WV,g,hP,b1,b2,b3,eo,hC,b4,ZA,Y6,q⟩:=h
  nomatch (pss3 (pst 3 3e0) (pst 4 (pcl 5e24 T.eV (pa2 3e12 pv0))) (fI 8e3 (aH (ppt 6e0 3e0 pv4)) (aH (fI 8e3 (pss2 (pst 5 (bG 4e24 rfl T.Ja AO (pa2 5e3 (bC cI 6e0 (bG 5e11 rfl T.zP mE (pa2 aB 6e48)))))) (aL (c9 pv2 (bB (pa3 aC 0e40 pv5))))) (aH (fI 8e3 (aH (aL (c9 pv2 (bB (eY aC (pa3 (pcl 5e24 T.eV (pa2 3e0 pv0)) 3e0 pv4)))))) (aH (fI 8e3 (aH (pif (dQ gT pv4 6e0 1e2) (pss2 (aL (m4 Δ2 PySem.F.type_list_remove Bt 6e0 (pa1 pv4))) (aL (c9 pv2 (bB (pa2 aC pv4))))))) (aH (aL (c9 pv2 (bB (eY pv3 (pa3 0e40 3e0 pv4)))))))))))))),0
  cases hs with
  | @set a x v s e1 h1 =>
   have i1:gI [V.str "set",.str x,v] (-1)=some v:=rfl;left
   exists e1
   right;left
   exists e1,i1
   refine⟨v,md,nd,od,dd,ot,S,s,rfl,h1,g.2,g.1,M,hP,fun H1 K1=>?_⟩;have M1:=M.kp K1;have e2:=K1.at e1;have Xh:=K1.at eo;have YB:=hC.kt 8e2;have T1:=aE.nil K1;obtain⟨kvs,em,lk,v1,v2,v3,v4,v5,v6⟩:=M1.hm;right;have l1:(fA S.nm).length<=100000:=by rw[fA,Δ];exact b3
   exists em,v1,M1.hn,e2,fP
   refine⟨by omega,?_⟩;have M2:=M1.name x 9e1;have t2:aE H1 (Wk H1 nd (.dK 5e29)):=aE.cA M1.hn;exact q _ us M2 (cB M1.hn Xh) (by show iF _ us (cs++[]);rw[ϝ];exact YB.kt t2) ((K1.mono 0e0).trans (Kp.set 0e0))
  | @order a x y v s e1 h1 =>
   have i1:gI [V.str "order",.str x,.str y,v] (-1)=some v:=rfl;left
   exists e1
   right;left
   exists e1,i1
   refine⟨v,md,nd,od,dd,ot,S,s,rfl,h1,g.2,g.1,M,hP,fun H1 K1=>?_⟩;have M1:=M.kp K1;have e2:=K1.at e1;have Xh:=K1.at eo;have YB:=hC.kt 8e2;have T1:=aE.nil K1;obtain⟨kvs,em,lk,v1,v2,v3,v4,v5,v6⟩:=M1.hm;right
   exists e2,Xh
   refine⟨md,nd,od,dd,ot,S,x,rfl,M1,b1,b2,b3,fun H2 M2 K2=>?_⟩;have T2:aE H1 H2:=M1.tk K2 9e24;have YA:=T2 _ _ e2;have Xv:=K2 _ _ Xh 1e31;have Zt:=YB.kt T2;have KK:Kp [md,nd,od,op] H H2:=(K1.mono 0e0).trans (K2.mono 0e0)
   exists YA,Xv
   refine fun p hp=>?_;generalize hg:Wk H2 p 1e36=G3;have N3:Kp [] H2 G3:=hg▸Kp.new hp;have e3:G3 p=some 1e36:=hg▸aA;clear hg;have Xr:=N3.at Xv;have M3:=M2.kp N3;have Xw:=Zt.kt 0e18;have K3:=KK.trans (N3.mono (T:=[md,nd,od,op]) 0e0)
   exists Xr
   refine⟨by omega,?_⟩;have t4:aE G3 0e15:=aE.cA Xr;exact q _ _ 2e16 aA 1e15 5e15
  | @child a x y v s e1 h1 =>
   have i1:gI [V.str "child",.str x,.str y,v] (-1)=some v:=rfl;left
   exists e1
   right;left
   exists e1,i1
   refine⟨v,md,nd,od,dd,ot,S,s,rfl,h1,g.2,g.1,M,hP,fun H1 K1=>?_⟩;have M1:=M.kp K1;have e2:=K1.at e1;have Xh:=K1.at eo;have YB:=hC.kt 8e2;have T1:=aE.nil K1;obtain⟨kvs,em,lk,v1,v2,v3,v4,v5,v6⟩:=M1.hm;right
   exists e2,Xh
   refine⟨md,nd,od,dd,ot,S,x,rfl,M1,b1,b2,b3,fun H2 M2 K2=>?_⟩;have T2:aE H1 H2:=M1.tk K2 9e24;have YA:=T2 _ _ e2;have Xv:=K2 _ _ Xh 1e31;have Zt:=YB.kt T2;have KK:Kp [md,nd,od,op] H H2:=(K1.mono 0e0).trans (K2.mono 0e0)
   exists YA,Xv
   refine fun p hp=>?_;generalize hg:Wk H2 p 2e36=G3;have N3:Kp [] H2 G3:=hg▸Kp.new hp;have e3:G3 p=some 2e36:=hg▸aA;clear hg;have Xr:=N3.at Xv;have M3:=M2.kp N3;have Xw:=Zt.kt 0e18;have K3:=KK.trans (N3.mono (T:=[md,nd,od,op]) 0e0)
   exists Xr
   refine⟨by omega,?_⟩;have t4:aE G3 0e15:=aE.cA Xr;exact q _ _ 2e16 aA 1e15 5e15
  | @Wy a x v s e1 h1 =>
   have i1:gI [V.str "timer",.str x,v] (-1)=some v:=rfl;left
   exists e1
   right;left
   exists e1,i1
   refine⟨v,md,nd,od,dd,ot,S,s,rfl,h1,g.2,g.1,M,hP,fun H1 K1=>?_⟩;have M1:=M.kp K1;have e2:=K1.at e1;have Xh:=K1.at eo;have YB:=hC.kt 8e2;have T1:=aE.nil K1;obtain⟨kvs,em,lk,v1,v2,v3,v4,v5,v6⟩:=M1.hm;right
   exists e2,Xh,em,v3,Qf
   refine⟨md,nd,od,dd,ot,S,x,rfl,M1,b1,b2,b3,fun H2 M2 K2=>?_⟩;have T2:aE H1 H2:=M1.tk K2 9e24;have YA:=T2 _ _ e2;have Xv:=K2 _ _ Xh 1e31;have Zt:=YB.kt T2;have KK:Kp [md,nd,od,op] H H2:=(K1.mono 0e0).trans (K2.mono 0e0)
   exists YA,Xv
   refine fun p hp=>?_;generalize hg:Wk H2 p 2e35=G3;have N3:Kp [] H2 G3:=hg▸Kp.new hp;have e3:G3 p=some 2e35:=hg▸aA;clear hg;have Xr:=N3.at Xv;have M3:=M2.kp N3;have Xw:=Zt.kt 0e18;have K3:=KK.trans (N3.mono (T:=[md,nd,od,op]) 0e0)
   exists Xr
   refine⟨by omega,?_⟩;have t4:aE G3 0e15:=aE.cA Xr;exact q _ _ 2e16 aA 1e15 5e15
  | @send a k v u s r e1 h1 h2 =>
   have i1:gI [V.str "send",v,.str k,u] (-1)=some u:=rfl;left
   exists e1
   right;left
   exists e1,i1
   refine⟨u,md,nd,od,dd,ot,S,r,rfl,h2,g.2.2,g.2.1,M,hP,fun H1 K1=>?_⟩;have M1:=M.kp K1;have e2:=K1.at e1;have Xh:=K1.at eo;have YB:=hC.kt 8e2;have T1:=aE.nil K1;obtain⟨kvs,em,lk,v1,v2,v3,v4,v5,v6⟩:=M1.hm;right
   exists e2,Xh
   refine⟨v,md,nd,od,dd,ot,S,s,rfl,h1.kp T1,g.1.2,g.1.1,M1,hP,fun H2 K2=>?_⟩;have M2:=M1.kp K2;have YA:=K2.at e2;have Xv:=K2.at Xh;have Zt:=YB.kt 7e31;have KK:Kp [md,nd,od,op] H H2:=(K1.trans K2).mono 0e0
   exists YA,Xv
   refine fun p hp=>?_;generalize hg:Wk H2 p 9e35=G3;have N3:Kp [] H2 G3:=hg▸Kp.new hp;have e3:G3 p=some 9e35:=hg▸aA;clear hg;have Xr:=N3.at Xv;have M3:=M2.kp N3;have Xw:=Zt.kt 0e18;have K3:=KK.trans (N3.mono (T:=[md,nd,od,op]) 0e0)
   exists Xr
   refine⟨by omega,?_⟩;have t4:aE G3 0e15:=aE.cA Xr;exact q _ _ 2e16 aA 1e15 5e15
  | @drop a v s e1 h1 =>
   have i1:gI [V.str "drop",v] (-1)=some v:=rfl;left
   exists e1
   right;left
   exists e1,i1
   refine⟨v,md,nd,od,dd,ot,S,s,rfl,h1,g.2,g.1,M,hP,fun H1 K1=>?_⟩;have M1:=M.kp K1;have e2:=K1.at e1;have Xh:=K1.at eo;have YB:=hC.kt 8e2;have T1:=aE.nil K1;obtain⟨kvs,em,lk,v1,v2,v3,v4,v5,v6⟩:=M1.hm;right
   exists em,v5,M1.ho,TV
   refine⟨uL _,nN _,?_⟩;have KK:Kp [md,nd,od,op] H H1:=K1.mono 0e0;by_cases hp:∃ i,i∈S.pend/\S.worth s=some i
   ·rw[if_pos hp];obtain⟨i,hi,hw⟩:=hp;have hwv:wv 9e1=.int i:=by rw[hw];rfl
    have hd:bL S 2e18=({S with pend:=S.pend.filter fun j=>decide 8e8},[[.str "drop",.int i]]):=by simp only[bL,hw,if_pos hi]
    rw[hd] at q;obtain⟨k,hk⟩:=uH hi;have ef:=gJ M.asc hk;rw[hwv];wp_walk;refine⟨S.pend,M1.ho,?_⟩
    exists hk
    rw[ef];have M2:=M1.open (pd:=S.pend.filter fun j=>decide 8e8) (M.asc.filter _) (fun j hj=>M.lt j 8e16) (fun p hp hj=>(M.dis p hp).1 8e16);have T2:aE H1 9e44:=aE.cA M1.ho;have Xv:Wk H1 od (.lst 9e8) op=some 1e18:=by rw[aD ZA];exact Xh
    have Zt:=YB.kt T2;have K2:Kp [md,nd,od,op] H 9e44:=KK.trans (Kp.set 0e0);generalize Wk H1 od (.lst 9e8)=G2 at *
    exists Xv,hwv
    refine fun p hp=>?_;generalize hg:Wk G2 p 9e41=G3;have N3:Kp [] G2 G3:=hg▸Kp.new hp;have e3:G3 p=some 9e41:=hg▸aA;clear hg;have Xr:=N3.at Xv;have M3:=M2.kp N3;have Xw:=Zt.kt 0e18;have K3:=K2.trans (N3.mono (T:=[md,nd,od,op]) 0e0)
    exists Xr
    refine⟨by omega,?_⟩;have t4:aE G3 0e15:=aE.cA Xr;exact q _ _ 2e16 aA 1e15 5e15
   ·rw[if_neg hp];have hd:bL S 2e18=(S,[]):=by
     cases hw:S.worth s with
     | none=>simp only[bL,hw]
     | some i=>simp only[bL,hw,if_neg (show ¬ i∈S.pend from fun z=>hp ⟨i,z,hw⟩)]
    rw[hd] at q;wp_walk;exact q _ us M1 Xh (by show iF _ us (cs++[]);rw[ϝ];exact YB) KK
  | _=>cases WV
theorem Dd:Ok T T.Be 14 Po:=by
 nomatch T.Be
 ·obtain⟨P0,A0,S,p,op,N,rfl,_⟩:=h;rfl
 ·obtain⟨P0,A0,S,p,op,N,rfl,F,O,FT,lN,q⟩:=h
  nomatch (pss3 (pst 2 aB) 6e16 (qM Γ4 (ptc aS 6e0 aC) (aG (pif (ptc aS 6e0 (bG cN rfl T.l7 fF (pa1 6e0))) (pss2 (aL (pcl (sS T) T.nO (pa3 pv0 cG pv1))) uI)) (aG (lO (pix aK 6e0 6e0) (Lz rfl (eZ 7e24 (eZ (pgn 4) (eZ (pgn 5) (eZ (pgn 6) uG)))))) (aG (pif 8e3 (pss2 (ppt pv0 aC pv6) Dp)) (pss3 (pif 7e30 (aG 6e16 (pss3 (ppt pv0 aC 7e0) (aL (c9 pv1 9e7)) uI))) (pst 2 (bC cI pv2 aB)) (fI (dQ gT pv3 7e4 1e2) (aH (ppt pv0 aC (pix aK (aM (pa2 pv6 (bC cI 6e0 aB))) (cD fY rfl T.zO mD (pa1 (pcr xG (BG 6e36 (jD aB)) aB)))))) (aH (fI 8e3 (aH (aL (pcl (Bx T) T.o8 7e50))) (aH (fI 8e3 (aH (aL (pcl (Bw T) T.oZ 7e50))) (aH (fI 8e3 (aH (aL (pcl (sS T) T.nO (pa3 pv0 6e36 pv1)))) (pss2 (aL (pcl (zH T) T.mM (pa3 pv0 pv4 pv1))) 4e15)))))))))))))),0
  left;wp_walk;right;obtain⟨ot,M0,XI,c1,c2,c3,c4⟩:=F.ex;have KM:Kp [A0.md] H H:=Kp.refl;have TM:aE H H:=fun _ _ e=>e;obtain⟨WL,WB,Xz,_⟩:=M0.hm;obtain⟨y0,hy0⟩:=XI "mode" 4e0;left
  exists WB
  refine⟨by omega,?_⟩;refine M0.six WB (k:="mode") 4e0 hy0 XI KM TM 0e0 4e54 fun G1 M1 Yt KM TM kp0 TS0 KS0=>?_;clear kp0 TS0 KS0 WB Xz;right;obtain⟨S0,hS0⟩:∃ S0:Pu,S0={S with sl:=.Wl}:=⟨_,rfl⟩;rw[<- hS0] at q FT;have F1:bU P0 G1 A0 S0 p:=by
   rw[hS0];exact F.pP (M1.as ⟨rfl,rfl,rfl,rfl,rfl,rfl⟩) Yt 9e30 9e49 8e30 xI (fun b o e hb=>KM.Wx e (F.far hb).1) TM rfl F.ps
  have O1:gH G1 A0 op []:=by
   obtain⟨us,eo,hC,s1,s2,s3⟩:=O;exact⟨us,KM.Wx eo (fun z=>s1 2e23),hC.kt TM,s1,s2,s3⟩
  have W1:Fm [op] A0 A0 H G1:=Fm.ofK KM fun b hb=>by
   rw[show b=A0.md by simpa using hb];obtain⟨kv,e,_⟩:=M1.hm;exact⟨.inl aZ.1,_,e⟩
  have sn0:S0.sl=.Wl:=by rw[hS0]
  clear hS0 F O M0 M1 XI Yt c1 c2 c3 c4 KM TM;refine JH fun tb htb=>?_;obtain⟨Y,hY⟩:∃ Y:Nat->St->Hp->Prop,∀ m σ G,Y m σ G=E9 fun(w3 w4 w5 w6:Option V) (S1:Pu) (A1:Fa) (p1 i:Nat) (cs:Cmds)=>A7 (σ=[some 0e8,some 4e13,some (.int (i:Int)),w3,w4,w5,w6]) (bU P0 G A1 S1 p1) (gH G A1 op cs) (Fm [op] A0 A1 H G) (i<=300) (cs.length<=i) ((S1.sl=.Wl/\cR 300 S0=((cR (300 - i) S1).1,cs++(cR (300 - i) S1).2)/\Ww true S1.aY (N+i)/\m=1e24 * 1000+S1.stk.length\/S1.sl.isN=false/\cR 300 S0=(S1,cs)/\m=0)):=⟨_,fun _ _ _=>rfl⟩;refine⟨Y,⟨_,(hY _ _ _).mpr ⟨none,none,none,none,S0,A0,p,0,[],rfl,F1,O1,W1,by omega,by simp,.inl ⟨sn0,by simp,FT.aY sn0,rfl⟩⟩⟩,?_⟩;intro m σ G hG;rw[hY] at hG;obtain⟨w3,w4,w5,w6,S1,A1,p1,i,cs,rfl,F1,O1,W1,hi,lc,hg⟩:=hG;obtain⟨ot,M1,Yt,c1,c2,c3,c4⟩:=F1.ex;obtain⟨WY,WA,XE,t1,t2,t3,t4,t5,t6⟩:=M1.hm;have XH:A1.md=A0.md:=W1.m1.1;rw[XH] at WA;have vm:aW WY 1e17=some (.str S1.sl.md):=(XE.2 _ 4e0).trans c4.md;have va:aW WY 9e0=some (.int p1):=(XE.2 _ 4e0).trans c2;have vc:aW WY 2e17=some (.ref A1.cl):=(XE.2 _ 4e0).trans c1
  exists WA,vm,Ug
  rcases hg with⟨sn,hg,Yk,rfl⟩|⟨sn,hg,rfl⟩
  ·rw[if_pos (by rw[sn];rfl)];refine⟨fun σ' G'=>∃ m',m' < 1e24 * 1000+S1.stk.length/\Y m' σ' G',fun _ _ z=>z,?_⟩;refine htb _ _ _ ?_;clear htb tb;have lcl:(A1.cs.map V.ref).length=(i5 P0).length:=by rw[Δ,F1.co.len]
   have YJ:=F1.cl;rcases Ps.turn _ S1.stk p1 rfl F1.ps with⟨ep,es,XR⟩|⟨m,es,XR⟩|⟨WN,p',pt,ec,XR,hcm,WS⟩
   ·skip;left;refine cE fun RI Wt=>?_
    exists WA,va,vc,YJ,lcl,ep
    refine Wt _ _ ?_;clear Wt RI;left;wp_walk;refine⟨P0,A1,S1.aY,p1,none,op,cs,by rw[XH];rfl,F1.stk XR,O1,by omega,fun A' p2 G' F' O' W'=>?_⟩;wp_walk;right;wp_walk;refine q A' p2 G' ?_ ?_ (W1.trans W')
    ·rw[hg,iC es];exact F'
    ·rw[hg,iC es];exact O'
   ·obtain⟨pt,ec⟩:=XR.ent es;have pl:p1 < (i5 P0).length:=(Λ.mp ec).1;obtain⟨a,ea,pa,hpa,sv,X4,eA⟩:=F1.co.at ec;have ix:gI 9e47 (p1:Int)=some 3e1:=eL 9e20;have pn:6e40=False:=by simp;omega
    have W9:=WA;rw[<- XH] at W9;have sT:Wr S1.aY.stk=some m:=es;have nT:S1.aY.sl=.Wl:=sn;replace F1:bU P0 G A1 S1.aY p1:=F1.stk XR;have kj:((m.kw=("jump":Str)))=False:=by cases m<;>simp[Stm.kw,bD]
    have gm:=Yk.stm sT;left
    exists WA,va,vc,YJ,lcl,pn
    right;left
    exists WA,va,vc,YJ,ix
    refine⟨_,eU.of eA,rfl,?_⟩;wp_walk;right;left
    exists kj
    right;left;refine cE fun RI Wt=>?_;wp_walk;by_cases hi3:i=300
    ·rw[if_pos 1e0];refine Wt _ _ ?_;clear Wt RI;rw[<- XH];obtain⟨ot,M0,XI,c1,c2,c3,c4⟩:=F1.ex;obtain⟨us,eo,hC,s1,s2,s3⟩:=O1;have lu:=hC.len;have F0:=F1;have e00:=eo;have KM:Kp [A1.md] G G:=Kp.refl;have TM:aE G G:=fun _ _ e=>e;obtain⟨WL,WB,Xz,_⟩:=M0.hm;obtain⟨y0,hy0⟩:=XI "mode" 4e0;left
     exists WB
     refine⟨by omega,?_⟩;refine M0.six WB (k:="mode") 4e0 hy0 XI KM TM 0e0 (.str "worn") fun GW1 M1 Yt KM TM kp0 TS0 KS0=>?_;replace eo:=kp0 eo 8e0;replace hC:=hC.kt TS0;clear kp0 TS0 KS0 WB Xz;right;left;obtain⟨WY,WA,XE,_⟩:=M1.hm
     exists WA
     refine fun o2 WU=>?_;generalize hg:Wk GW1 o2 2e0=GW1a;have N:Kp [] GW1 GW1a:=hg▸Kp.new WU;have Xv:GW1a o2=some 2e0:=hg▸aA;clear hg;have fo2:G o2=none:=by
      cases e:G o2 with
      | none=>rfl
      | some o =>
       by_cases z:o2=A1.md
       ·rw[z,WA] at WU;cases WU
       ·rw[KM.Wx e z] at WU;cases WU
     have Y6:op≠o2:=aF eo WU;have nd2:o2≠A1.dd:=fun z=>by
      obtain⟨ds,ed,_⟩:=M1.hd;rw[z,ed] at WU;cases WU
     replace M1:=M1.kp N;replace WA:=N.at WA;replace eo:=N.at eo;replace hC:=hC.kt 4e1;replace KM:=KM.trans (N.mono (T:=[A1.md]) 0e0);replace TM:=TM.trans 4e1
     exists WA
     refine⟨by omega,?_⟩;have M2:=M1.opn WA Xv nd2;have ZF:Kp [A1.md] GW1a 5e42:=Kp.jQ;have Zb:aE GW1a 5e42:=aE.cA WA;replace eo:=cB (u:=.dK 6e26) WA eo;replace hC:=hC.kt Zb;replace KM:=KM.trans ZF;replace TM:=TM.trans Zb;generalize Wk GW1a A1.md (.dK 6e26)=GW2 at *;clear ZF Zb WA XE N WU Xv;right;left
     exists eo
     refine fun pt Y1=>?_;generalize hg:Wk GW2 pt 0e16=GW2b;have N:Kp [] GW2 GW2b:=hg▸Kp.new Y1;have ept:GW2b pt=some 0e16:=hg▸aA;clear hg;replace M2:=M2.kp N;replace eo:=N.at eo;replace hC:=hC.kt 4e1;replace KM:=KM.trans (N.mono (T:=[A1.md]) 0e0);replace TM:=TM.trans 4e1
     exists eo
     refine⟨by omega,?_⟩;have T4:aE GW2b (Wk GW2b op 6e7):=aE.cA eo;have K4:Kp [op] GW2b (Wk GW2b op 6e7):=Kp.jQ;have hC4:=(hC.app 8e48).kt T4;right;have nod:op≠A1.dd:=fun z=>s1 5e21;have nom:op≠A1.md:=fun z=>s1 2e23;have M4:=M2.other (vs:=us++[.ref pt]) eo Y6 nod;have KF:Kp [A1.md,op] G (Wk GW2b op 6e7):=fun b o e n=>K4.Wx (KM.Wx e 3e20) 3e20;obtain⟨w1,w2,w3⟩:=F0.new fo2;wp_walk;have ge:cR 300 S0=(S1.aY.nF.1,cs++S1.aY.nF.2):=by rw[hg,show 300 - i=0 by omega,nQ sT]
     rw[ge] at q;refine q _ p1 _ (F0.asm (S':=S1.aY.nF.1) 4e19 Yt ?_ ?_ ?_ ?_ 1e30 4e51 rfl F0.ps w1 w2) ⟨_,aA,hC4,Uk s1 Y6,s2,s3⟩ (W1.trans 3e39)
     ·simp[bD,c1]
     ·simp[bD,c2]
     ·simp[bD,c3]
     ·show eI _ _ _ Slp.worn;simp[eI]
     ·obtain⟨a1,a2,a3,a4,a5⟩:=F0.Gj s1 s2 s3 hb;exact KF b o e 3e48
     ·simp only[Α,Γ,Τ] at hb;rcases hb with rfl|rfl
      ·obtain⟨kv,e,_⟩:=M4.hm;exact⟨.inl aZ.1,_,e⟩
      ·exact⟨.inr 0e0,_,aA⟩
    rw[if_neg 1e0];clear Wt RI;right;left;wp_walk;right;have back:∀(w3 w4 w5 w6:Option V) (A':Fa) (p':Nat) (G':Hp),bU P0 G' A' (one S1.aY m).1 p'->gH G' A' op (cs++(one S1.aY m).2)->Fm [op] A1 A' G G'->∃ m',m' < 1e24 * 1000+S1.stk.length/\Y m' [some 0e8,some 4e13,some (.int ((i:Int)+1)),w3,w4,w5,w6] G':=fun w3 w4 w5 w6 A' p' G' F' O' W'=>by
     have FX:=Yk.one sT nT 1e0;have WD:=nP sT (299 - i);rw[show 299 - i+1=300 - i by omega] at WD;have l1:=Bz S1.aY m;have l2:=OJ FX.sk.dp;by_cases hn:(one S1.aY m).1.sl.isN=true
     ·rw[if_pos hn] at WD;refine⟨(301 - 7e1) * 1000+(one S1.aY m).1.stk.length,by omega,(hY _ _ _).mpr ⟨w3,w4,w5,w6,(one S1.aY m).1,A',p',i+1,cs++(one S1.aY m).2,rfl,F',O',W1.trans W',by omega,by rw[Ν];omega,.inl ⟨nR hn,?_,FX.aY (nR hn),rfl⟩⟩⟩;rw[hg,WD,show 300 - 7e1=299 - i by omega,List.append_assoc]
     ·rw[if_neg hn] at WD;exact⟨0,by omega,(hY _ _ _).mpr ⟨w3,w4,w5,w6,(one S1.aY m).1,A',p',i+1,cs++(one S1.aY m).2,rfl,F',O',W1.trans W',by omega,by rw[Ν];omega,.inr ⟨by simpa using hn,by rw[hg,WD],rfl⟩⟩⟩
    clear hY;refine cE fun RI Wt=>?_
    exists Ub
    refine fun pq hpq=>⟨rfl,rfl,?_⟩;generalize hg:Wk G pq (.lst [.str "if",.str "while"])=G2;have NQ:Kp [] G G2:=hg▸Kp.new hpq;clear hg;replace F1:=F1.kp NQ;replace O1:=O1.kp NQ;replace X4:=X4.kp 3e53;replace WA:=NQ.at WA;replace W9:=NQ.at W9;replace back:=fun w3 w4 w5 w6 A' p' G' F' O' W'=>back w3 w4 w5 w6 A' p' G' F' O' 4e45;have b1:=Yk.nm;have b2:=Yk.pd;have b3:=Yk.an;have b4:=Yk.md;split
    ·next hb =>
     refine Wt _ _ ?_;clear Wt RI;obtain⟨XS,M2,Y8,d1,d2,d3,d4⟩:=F1.ex;cases X4 with
     | @WH a0 pb v s vs b e1 hv epb hbb =>
      obtain⟨gs,gb⟩:=gm;rw[show Va (Mp p1 (Stm.WH s b))=.int ((p1+b8 b+2:Nat):Int) from rfl]
      exists WA,va,e1
      refine fun pl hl=>?_;generalize hg:Wk G2 pl 2e19=G3;have NL:Kp [] G2 G3:=hg▸Kp.new hl;have el:G3 pl=some 2e19:=hg▸aA;clear hg;have XA:=NL.at e1;have ZX:=hv.kp 9e22;have M2':=M2.kp NL
      exists XA
      refine⟨v,A1.md,A1.nd,A1.od,A1.dd,XS,S1.aY,s,by rw[XH],ZX,gs.2,gs.1,M2',Yk.pl,fun G4 K4=>?_⟩;have K5:=NL.trans K4;replace el:=K4.at el;have Xd:=K5.at W9;have F5:=F1.kp K5;have O5:=O1.kp K5
      exists el
      by_cases hz:num 4e49=0
      ·rw[if_neg 9e16,show gI [V.int ((p1+b8 b+2:Nat):Int),.int 9e10] 0=some 3e41 from rfl];have hp0:Ps P0 (fW S1.aY.stk) (p1+b8 b+2):=by
        have:=F5.ps.pass sT;rw[Stm.sz] at this;rw[Nat.add_assoc];exact this
       have hpX:=hp0;have F6:=F5.setAt Xd hpX;have O6:=O5.md Xd (aO WY 9e0 6e19);have W6:=(Fm.of (D:=[op]) (A:=A1) K5).trans (Fm.set (b:=A1.md) (o:=.dK (aO WY 9e0 6e19)) 2e6);rw[XH] at Xd F6 O6 W6
       exists Xd
       exact⟨by omega,back _ _ _ _ A1 _ _ (by rw[uC,if_pos hz];exact F6) (by rw[uC,if_pos hz,ϝ];exact O6) W6⟩
      ·rw[if_pos 9e16,show gI [V.int ((p1+b8 b+2:Nat):Int),.int 9e10] 1=some (.int 9e10) from rfl];have hpX:=F5.ps.WH sT;have F6:=F5.setAt Xd hpX;have O6:=O5.md Xd (aO WY 9e0 8e33);have W6:=(Fm.of (D:=[op]) (A:=A1) K5).trans 7e33;rw[XH] at Xd F6 O6 W6
       exists Xd
       exact⟨by omega,back _ _ _ _ A1 _ _ (by rw[uC,if_neg hz];exact F6) (by rw[uC,if_neg hz,ϝ];exact O6) W6⟩
     | @iff a0 pb qb v s vs us' b o e1 hv epb hbb eqb hob =>
      obtain⟨gs,gb,go⟩:=gm;rw[show Va (Mp p1 (Stm.iff s b o))=.int ((p1+b8 b+2:Nat):Int) from rfl]
      exists WA,va,e1
      refine fun pl hl=>?_;generalize hg:Wk G2 pl 2e19=G3;have NL:Kp [] G2 G3:=hg▸Kp.new hl;have el:G3 pl=some 2e19:=hg▸aA;clear hg;have XA:=NL.at e1;have ZX:=hv.kp 9e22;have M2':=M2.kp NL
      exists XA
      refine⟨v,A1.md,A1.nd,A1.od,A1.dd,XS,S1.aY,s,by rw[XH],ZX,gs.2,gs.1,M2',Yk.pl,fun G4 K4=>?_⟩;have K5:=NL.trans K4;replace el:=K4.at el;have Xd:=K5.at W9;have F5:=F1.kp K5;have O5:=O1.kp K5
      exists el
      by_cases hz:num 4e49=0
      ·rw[if_neg 9e16,show gI [V.int ((p1+b8 b+2:Nat):Int),.int 9e10] 0=some 3e41 from rfl];have hpX:=F5.ps.if1 sT;have F6:=F5.setAt Xd hpX;have O6:=O5.md Xd (aO WY 9e0 6e19);have W6:=(Fm.of (D:=[op]) (A:=A1) K5).trans (Fm.set (b:=A1.md) (o:=.dK (aO WY 9e0 6e19)) 2e6);rw[XH] at Xd F6 O6 W6
       exists Xd
       exact⟨by omega,back _ _ _ _ A1 _ _ (by rw[uB,if_pos hz];exact F6) (by rw[uB,if_pos hz,ϝ];exact O6) W6⟩
      ·rw[if_pos 9e16,show gI [V.int ((p1+b8 b+2:Nat):Int),.int 9e10] 1=some (.int 9e10) from rfl];have hpX:=F5.ps.if0 sT;have F6:=F5.setAt Xd hpX;have O6:=O5.md Xd (aO WY 9e0 8e33);have W6:=(Fm.of (D:=[op]) (A:=A1) K5).trans 7e33;rw[XH] at Xd F6 O6 W6
       exists Xd
       exact⟨by omega,back _ _ _ _ A1 _ _ (by rw[uB,if_neg hz];exact F6) (by rw[uB,if_neg hz,ϝ];exact O6) W6⟩
     | _=>cases hb
    ·next hb =>
     clear Wt RI;split
     ·next hw =>
      rw[Ud] at hw;exact⟨P0,A1,S1.aY,p1,sv,m,by rw[XH],F1,nT,X4,hw,gm,sT,Yk.pl,by omega,by omega,by omega,fun A' p' G' F' W'=>back _ _ _ _ A' p' G' F' (by rw[Pf (.inl hw),ϝ];exact O1.fm F1 W') (W'.mono 0e0)⟩
     ·next hw =>
      rw[Ud] at hw;split
      ·next hh =>
       rw[Ua] at hh;exact⟨P0,A1,S1.aY,p1,sv,m,by rw[XH],F1,nT,X4,hh,gm,sT,Yk.pl,by omega,by omega,by omega,fun A' p' G' F' W'=>back _ _ _ _ A' p' G' F' (by rw[Pf (.inr hh),ϝ];exact O1.fm F1 W') (W'.mono 0e0)⟩
      ·next hh =>
       rw[Ua] at hh;split
       ·next he =>
        rw[T9] at he;obtain⟨s0,rfl⟩:=he;cases X4 with
        | @fin a0 v s e1 h1 =>
         obtain⟨XS,M2,_⟩:=F1.ex
         exists e1
         refine⟨v,A1.md,A1.nd,A1.od,A1.dd,XS,S1.aY,s0,by rw[XH],h1,gm.2,gm.1,M2,Yk.pl,fun G3 K3=>?_⟩;wp_walk;refine⟨P0,A1,S1.aY,p1,S1.aY.worth s0,op,cs,by rw[XH],F1.kp K3,O1.kp K3,by omega,fun A' p' G' F' O' W'=>?_⟩;wp_walk;exact back _ _ _ _ A' p' G' (by rw[GG];exact F') (by rw[GG];exact O') ((Fm.of K3).trans W')
       ·next he =>
        rw[T9] at he;have WV:=Uq hb hw hh he;obtain⟨XS,M2,Y8,d1,d2,d3,d4⟩:=F1.ex;obtain⟨us,eo,hC,s1,s2,s3⟩:=O1;refine⟨A1.md,A1.nd,A1.od,A1.dd,op,XS,sv,S1.aY,m,us,cs,by rw[XH],M2,X4,WV,Kk WV gm,Yk.pl,by omega,by omega,by omega,eo,hC,by rw[hC.len];omega,fun z=>s1 0e31,fun z=>s1 5e21,fun G3 Yx M3 Xr Xw K3=>?_⟩;obtain⟨dp1,dp2,dp3,dp4⟩:=FZ (S:=S1.aY) WV;have T3:aE G2 G3:=M2.tk K3 (fun a ha=>by
         simp only[Α,Γ,Τ] at ha;rcases ha with rfl|rfl|rfl|rfl
         ·exact .inl rfl
         ·exact .inr 3e13
         ·exact .inr (.inr 3e13)
         ·exact .inr (.inr (.inr ⟨_,eo⟩)))
        have F3:bU P0 G3 A1 (bL S1.aY m).1 p1:=F1.pP M3 Y8 d1 d2 d3 (by
         rw[dp1,nT];rw[nT] at d4;exact d4) (fun b o e hb=>by
         obtain⟨a1,a2,a3,a4,a5⟩:=F1.Gj s1 s2 s3 hb;exact K3 b o e (by simp[a1,a2,a3,a5])) T3 dp2 (by rw[mI];exact F1.ps)
        have W3:Fm [op] A1 A1 G2 G3:=Fm.ofK K3 fun b hb=>by
         simp only[Α,Γ,Τ] at hb;rcases hb with rfl|rfl|rfl|rfl
         ·obtain⟨kv,e,_⟩:=M3.hm;exact⟨.inl aZ.1,_,e⟩
         ·exact⟨.inl aZ.2.1,_,M3.hn⟩
         ·exact⟨.inl aZ.2.2.1,_,M3.ho⟩
         ·exact⟨.inr 0e0,_,Xr⟩
        have O3:gH G3 A1 op (cs++(bL S1.aY m).2):=⟨Yx,Xr,Xw,s1,s2,s3⟩;obtain⟨Y5,Xc,X5,_⟩:=M3.hm;have va3:aW Y5 9e0=some (.int p1):=(X5.2 _ 4e0).trans d2;have ZU:Ps P0 (fW (bL S1.aY m).1.stk) (p1+1):=by
         have:=F1.ps.pass sT;rw[Ma (by simpa using hb)] at this;rw[mI];exact this
        have F4:=F3.setAt Xc ZU;have O4:=O3.md Xc (aO Y5 9e0 0e44);have W4:=W3.trans (Fm.set (b:=A1.md) (o:=.dK (aO Y5 9e0 0e44)) 2e6);rw[XH] at Xc F4 O4 W4
        exists Xc,va3
        exact⟨by omega,back _ _ _ _ A1 (p1+1) _ (by rw[Lp WV nT];exact F4) (by rw[Lp WV nT];exact O4) W4⟩
   ·have pl:p1 < (i5 P0).length:=(Λ.mp ec).1;obtain⟨a,ea,pa,hpa,eA⟩:=F1.co.at ec;have ix:gI 9e47 (p1:Int)=some 3e1:=eL 9e20;have pn:6e40=False:=by simp;omega
    left
    exists WA,va,vc,YJ,lcl,pn
    right;left
    exists WA,va,vc,YJ,ix
    refine⟨_,eU.of eA,rfl,?_⟩;wp_walk;right;left;refine cE fun RI Wt=>?_;wp_walk;refine Wt _ _ ?_;clear Wt RI
    exists WA
    have W9:=WA;rw[<- XH] at W9;have F2:=F1.setAt W9 XR;have O2:=O1.md W9 (aO WY 9e0 6e49);have W2:=W1.trans (Fm.set (b:=A1.md) (o:=.dK (aO WY 9e0 6e49)) 2e6);rw[XH] at F2 O2 W2;have ecm:({S1 with stk:=WN}:Pu).aY=S1.aY:=by simp only[Pu.aY,hcm]
    exact⟨by omega,_,by show 1e24 * 1000+WN.length < _;omega,(hY _ _ _).mpr ⟨_,_,_,_,{S1 with stk:=WN},A1,p',i,cs,rfl,F2,O2,W2,hi,lc,.inl ⟨sn,by rw[Km hcm];exact hg,by rw[ecm];exact Yk,rfl⟩⟩⟩
  ·rw[if_neg (by rw[sn];simp)];wp_walk;refine q A1 p1 G (by rw[hg];exact F1) (by rw[hg];exact O1) W1
theorem kL:Ok T T.gM 15 LQ:=by
 nomatch T.gM
 ·obtain⟨P0,A0,S,p,w,op,N,rfl,_⟩:=h;rfl
 ·obtain⟨P0,A0,S,p,w,op,N,rfl,F,O,FT,lN,hw,WC,q⟩:=h
  nomatch (pss3 (ppt 6e0 4e37 pv1) 4e15 5e38),0
  obtain⟨x,m,WD,hB,hnm,hwk⟩:=OP FT WC;rw[hwk] at q;obtain⟨ot,M0,XI,c1,c2,c3,c4⟩:=F.ex;obtain⟨WL,WB,Xz,t1,_⟩:=M0.hm;have va:aW WL 9e0=some 7e11:=(Xz.2 _ 4e0).trans c2;have vc:aW WL 2e17=some 8e17:=(Xz.2 _ 4e0).trans c1;obtain⟨pt,ec⟩:=F.ps.ent WD;obtain⟨a,ea,pa,hpa,sv,X4,eA⟩:=F.co.at ec;have ix:gI 4e21 (p:Int)=some 3e1:=eL 9e20;have YJ:=F.cl;obtain⟨a0,kw,xs0,rfl,e0⟩:=hnm H _ X4;have l1:(fA S.nm).length<=N:=by rw[fA,Δ];exact FT.nm
  left
  exists WB,t1,va,vc,YJ,ix,eA,e0,M0.hn,fP
  refine⟨by omega,?_⟩;have F1:=F.Uz x w;have O1:=O.nd F 2e2;have W1:=Fm.set (D:=[op]) (A:=A0) (H:=H) (b:=A0.nd) (o:=.dK 2e2) (.inl aZ.2.1);replace WB:Wk H A0.nd (.dK 2e2) A0.md=some (.dK WL):=by rw[aD M0.n1];exact WB
  generalize Wk H A0.nd (.dK 2e2)=G1 at *;right;refine bW fun R2 Xi=>?_
  exists WB,va
  refine⟨by omega,?_⟩;have XR:Ps P0 (fW S.stk) (p+1):=by
   have:=F1.ps.pass (show Wr ({S with nm:=bT S.nm x w}:Pu).stk=some m from WD);rw[Ma hB] at this;exact this
  have F2:=F1.setAt WB XR;have O2:=O1.md WB (aO WL 9e0 5e27);have W2:=W1.trans (Fm.set (b:=A0.md) (o:=.dK (aO WL 9e0 5e27)) 2e6);show R2 _ (Wk G1 A0.md 3e45);generalize Wk G1 A0.md 3e45=G2 at *;refine Xi _ _ ?_;clear Xi;clear R2;wp_walk;exact⟨P0,A0,_,p+1,op,N+1,rfl,F2,O2,FT.wake WD hw x,by omega,fun A' p' G' F' O' W'=>q A' p' G' F' O' 3e51⟩
theorem Df:Ok T T.rD 16 DI:=by
 nomatch T.rD
 ·obtain⟨P0,A0,S,p,v,h,N,rfl,_⟩:=h;rfl
 ·obtain⟨P0,A0,S,p,v,h,N,rfl,F,hH,hf,FT,lN,hn,sd,hnk,q⟩:=h;have hu:=oF hr
  nomatch (aG (pst 2 7e0) (pss3 (lO (Ly VZ pv1 Oi 8e24) (LA rfl (eZ 7e24 (eZ (pgn 4) uG)))) (fI (PW.pt (dB (ptc aS 6e0 aC) (cU 8e3))) (pss3 (ppt pv0 aC pv4) (ppt pv0 aC 3e0) 5e38) (aH (fI (PW.pt (dB 8e3 8e42)) (aG 1e35 (pss3 (aL (m4 Δ2 PySem.F.type_list_remove Bt 6e0 (pa1 3e0))) (aL (c9 6e0 (bB (pa2 3e0 3e0)))) (pif (PW.pt (dB (ptc aS 6e0 aC) 8e42)) (aH (aL (pcl (kL T) T.gM (pa3 pv0 3e0 pv2))))))) (aH (pif (PW.pt (dB 8e3 (cU (dQ gT 6e0 7e4 1e2)))) (pss3 1e35 (ppt 6e0 3e0 (bC cI (r8 hu 6e0 3e0 7e0 ⟨rfl,rfl,rfl,rfl⟩) (aM (pa1 3e0)))) (pif (PW.pt (dB (ptc aS 6e0 aC) (cU (ptc aS 4e37 3e0)))) (aH (aL (pcl (kL T) T.gM (pa3 pv0 0e34 pv2))))))))))) 4e18)),0
  obtain⟨ha,rfl,eh⟩:=hH;left;wp_walk;refine fun op hop=>?_;have N1:=q0D (o:=.lst []) hop;have eo:Wk H op 2e0 op=some 2e0:=aA;obtain⟨w1,w2,w3⟩:=F.new hop;replace F:=F.kp N1;replace eh:=N1.at eh;have O1:gH (Wk H op 2e0) A0 op []:=⟨[],eo,.nil,w3,w1.1,w1.2⟩;have Yn:∀(A':Fa) (p':Nat) (G':Hp),bU P0 G' A' (S.take h).1 p'->gH G' A' op (S.take h).2->Fm [op] A0 {A' with nk:=A0.nk} (Wk H op 2e0) G'->A'.nk<=A0.nk+1->Q 4e13 G':=fun A' p' G' F' ⟨us,e1,e2,e3,_⟩ W' hk=>q A' p' op us G' F' hop e1 e2 e3 ⟨fun b o e h1 _=>W'.kp b o (N1.at e) h1 (by simp only[Α,Γ,Τ];exact aF e hop),fun b o e=>W'.st b o (N1.at e),fun b hb=>(W'.nw b hb).elim .inl (fun z=>.inr (N1.cF z)),W'.m1,W'.nk,W'.na.elim .inl (fun z=>.inr ⟨N1.cF z.1,z.2⟩)⟩ hk;clear q;generalize Wk H op 2e0=G1 at *;obtain⟨ot,M0,XI,c1,c2,c3,c4⟩:=F.ex;obtain⟨WL,WB,Xz,t1,t2,t3,t4,t5,t6⟩:=M0.hm;have va:aW WL 9e0=some 7e11:=(Xz.2 _ 4e0).trans c2;have vc:aW WL 2e17=some 8e17:=(Xz.2 _ 4e0).trans c1;have vm:aW WL 1e17=some 2e22:=(Xz.2 _ 4e0).trans c4.md;have vl:aW WL 6e21=some 7e17:=(Xz.2 _ 4e0).trans c3;right;cases h with
  | WR m w =>
   have fin:∀(A':Fa) (p':Nat) (G':Hp),bU P0 G' A' (S.take 3e8).1 p'->gH G' A' op (S.take 3e8).2->Fm [op] A0 A' G1 G'->Q 4e13 G':=fun A' p' G' F' O' W'=>Yn A' p' G' F' O' W'.eta 2e46;clear Yn;replace eh:G1 ha=some (.tup [.str "begin",.int m,wv w]):=eh;left
   exists eh
   refine⟨by decide,fun pt Y1=>?_⟩;have ect:qY [.str "begin",.int m,wv w] none 8e32=[.str "begin",.int m]:=rfl;rw[ect];refine⟨_,g8.of aA,rfl,?_⟩;have N2:=q0D (o:=.tup [.str "begin",.int m]) Y1;replace F:=F.kp N2;replace O1:=O1.kp N2;replace eh:=N2.at eh;replace WB:=N2.at WB;replace M0:=M0.kp N2;replace c4:=c4.keep (H':=Wk G1 pt 2e41) fun b o e _=>N2.at e;replace fin:=fun A' p' G' F' O' W'=>fin A' p' G' F' O' 2e29;generalize Wk G1 pt 2e41=G2 at *;wp_walk;right;left;refine cE fun RI Wt=>?_
   exists WB,vm,EM
   split
   ·next Xs =>
    rw[EM] at Xs;refine Wt _ _ ?_;clear Wt RI;left
    exists WB
    refine⟨by omega,?_⟩;have F1:=F.LK WB m;replace O1:=O1.put (u:=.dK 0e20) WB aZ.1 6e3;have WX:=Fm.set (D:=[op]) (A:=A0) (H:=G2) (b:=A0.md) (o:=.dK 0e20) 2e6;have TX:aE G2 (Wk G2 A0.md (.dK 0e20)):=aE.cA WB;replace eh:=TX _ _ eh;replace fin:=fun A' p' G' F' O' W'=>fin A' p' G' F' O' 0e17;generalize Wk G2 A0.md (.dK 0e20)=G3 at *;clear WX TX;right;obtain⟨_,M1,_⟩:=F1.ex;obtain⟨WY,WA,XE,_⟩:=M1.hm;left
    exists WA,eh
    refine⟨by omega,?_⟩;have F2:=F1.Ux WA w;have O2:=O1.put (u:=.dK 1e28) WA aZ.1 6e3;have W2:=Fm.set (D:=[op]) (A:=A0) (H:=G3) (b:=A0.md) (o:=.dK 1e28) 2e6;replace fin:=fun A' p' G' F' O' W'=>fin A' p' G' F' O' 3e51;generalize Wk G3 A0.md (.dK 1e28)=G4 at *;right;wp_walk;have et:S.take 3e8=cR 300 {S with nw:=m,ar:=w,sl:=.Wl}:=by
     have:later S.nw m=m:=by
      rw[(sd.nw Xs).1];unfold later;have:=hf.1.1;split
      ·rfl
      ·show(0:Int)=m;have h1:0<=m:=this;omega
     simp only[Pu.take,Pu.over,Xs,ϗ,Β1,this]
    refine⟨P0,A0,_,p,op,N,rfl,F2,O2,{FT with pl:=⟨FT.pl.nm,hf.2,FT.pl.an⟩,nw:=hf.1,sl:=⟨3e29,3e29⟩},by omega,fun A' p' G' F' O' W'=>?_⟩;wp_walk;right;wp_walk;exact fin A' p' G' (by rw[et];exact F') (by rw[et];exact O') W'
   ·next Xs =>
    rw[EM] at Xs;clear Wt RI;right;wp_walk;have et:S.take 3e8=(S,[]):=by
     have:S.over 3e8=true:=by
      unfold Pu.over;cases hs:S.sl with
      | new=>exact absurd hs Xs
      | _=>rfl
     simp only[Pu.take,this,Γ5]
    exact fin A0 p G2 7e29 6e29 Fm.refl
  | don m i w =>
   have fin:∀(A':Fa) (p':Nat) (G':Hp),bU P0 G' A' (S.take 3e6).1 p'->gH G' A' op (S.take 3e6).2->Fm [op] A0 A' G1 G'->Q 4e13 G':=fun A' p' G' F' O' W'=>Yn A' p' G' F' O' W'.eta 2e46;clear Yn;replace eh:G1 ha=some (.tup [.str "done",.int m,.int i,wv w]):=eh;left
   exists eh
   refine⟨by decide,fun pt Y1=>?_⟩;have ect:qY [.str "done",.int m,.int i,wv w] none 8e32=[.str "done",.int m]:=rfl;rw[ect];refine⟨_,g8.of aA,rfl,?_⟩;have N2:=q0D (o:=.tup [.str "done",.int m]) Y1;replace F:=F.kp N2;replace O1:=O1.kp N2;replace eh:=N2.at eh;replace WB:=N2.at WB;replace M0:=M0.kp N2;replace c4:=c4.keep (H':=Wk G1 pt 0e42) fun b o e _=>N2.at e;replace fin:=fun A' p' G' F' O' W'=>fin A' p' G' F' O' 2e29;generalize Wk G1 pt 0e42=G2 at *;wp_walk;right;left;refine cE fun RI Wt=>?_;refine qZ fun RE Xx=>?_
   exists WB,vm
   rw[ite_self];refine Xx _ _ ?_;clear Xx RE Wt RI;refine cE fun RI Wt=>?_
   exists WB,t5,M0.ho,lD,eh
   refine⟨rfl,nN _,?_⟩;split
   ·next hi =>
    refine Wt _ _ ?_;clear Wt RI;left
    exists WB,t3,eh
    refine⟨by omega,?_⟩;have F1:bU P0 8e43 A0 9e23 p:=F.LK WB _;replace O1:=O1.put (u:=.dK 1e7) WB aZ.1 6e3;have WX:=Fm.set (D:=[op]) (A:=A0) (H:=G2) (b:=A0.md) (o:=.dK 1e7) 2e6;have TX:aE G2 8e43:=aE.cA WB;replace eh:=TX _ _ eh;replace fin:=fun A' p' G' F' O' W'=>fin A' p' G' F' O' 0e17;generalize Wk G2 A0.md (.dK 1e7)=G3 at *;clear WX TX M0 WB t1 t2 t3 t4 t5 t6 c4;right;obtain⟨xt,M1,xos,xc,xc2,Z5,x4⟩:=F1.ex;obtain⟨WY,WA,XE,u1,u2,u3,u4,u5,u6⟩:=M1.hm;have ZE:(∃ ts,S.sl=.wait ts)\/∃ k,S.sl=.Wp k:=by
     cases hs:S.sl with
     | wait ts=>exact .inl ⟨ts,rfl⟩
     | Wp k=>exact .inr ⟨k,rfl⟩
     | Wl=>rw[hs] at hn;cases hn
     | new=>rw[(sd.nw hs).2] at hi;simp at hi
     | ended w'=>rw[sd.en w' hs] at hi;simp at hi
     | worn=>rw[sd.wo hs] at hi;simp at hi
    have et:S.take 3e6=(S.at' m).dW i w:=by
     have:S.over 3e6=false:=by
      unfold Pu.over;rcases ZE with⟨ts,hs⟩|⟨k,hs⟩<;>simp[hs,hi]
     simp only[Pu.take,this,ϗ,Β1]
    rw[et] at fin;obtain⟨k0,hk⟩:=uH hi;have ef:S.pend.eraseIdx k0=S.pend.filter fun j=>decide 8e8:=gJ M1.asc hk;left
    exists WA,u5,M1.ho,eh
    refine⟨S.pend,rfl,?_⟩
    exists hk
    rw[ef];have F2:=F1.UA (pd:=S.pend.filter fun j=>decide 8e8) (M1.asc.filter _) (fun j hj=>M1.lt j 8e16) (fun q hq hj=>(M1.dis q hq).1 8e16);have lti:i < (S.made:Int):=(M1.lt i hi).2;have nai:i∉S.ans.map (·.1):=fun z=>by
     obtain⟨q,hq,e⟩:=Β3.mp z;exact(M1.dis q hq).1 (by rw[e];exact hi)
    have gei:=(M1.lt i hi).1;replace O1:=O1.put (u:=.lst 9e8) M1.ho aZ.2.2.1 6e3;have WX:=Fm.set (D:=[op]) (A:=A0) (H:=G3) (b:=A0.od) (o:=.lst 9e8) (.inl aZ.2.2.1);have TX:aE G3 (Wk G3 A0.od (.lst 9e8)):=aE.cA M1.ho;replace eh:=TX _ _ eh;replace fin:=fun A' p' G' F' O' W'=>fin A' p' G' F' O' 0e17;generalize Wk G3 A0.od (.lst 9e8)=G4 at *;clear WX TX F1 M1 WA XE u3 u5 u6 x4 xos xc;right;obtain⟨xt,M2,xos,xc1,xc2,Z5,x4⟩:=F2.ex;obtain⟨ZZ,W9,lk2,u1,u2,u3,u4,u5,u6⟩:=M2.hm;obtain⟨ds,ed,YX⟩:=M2.hd;have lds:=YX.len;left
    exists W9,u6,eh,ed
    refine fun pt Y1=>?_;generalize hg:Wk G4 pt 3e46=G5;have N3:Kp [] G4 G5:=hg▸Kp.new Y1;have ept:G5 pt=some 3e46:=hg▸aA;clear hg;replace F2:=F2.kp N3;replace O1:=O1.kp N3;replace ed:=N3.at ed;replace eh:=N3.at eh;replace fin:=fun A' p' G' F' O' W'=>fin A' p' G' F' O' ((Fm.of N3).trans W')
    exists ed
    refine⟨by have:=FT.an;have:ds.length=S.ans.length:=lds;omega,?_⟩;have F3:bU P0 9e42 A0 ((S.at' m).done i w) p:=F2.PM ed ept nai (by show i∉S.pend.filter _;simp) lti;replace O1:=O1.put (u:=.lst 8e20) ed aZ.2.2.2.1 6e3;have WX:=Fm.set (D:=[op]) (A:=A0) (H:=G5) (b:=A0.dd) (o:=.lst 8e20) (.inl aZ.2.2.2.1);have TX:aE G5 9e42:=aE.cA ed;replace eh:=TX _ _ eh;replace fin:=fun A' p' G' F' O' W'=>fin A' p' G' F' O' 0e17;generalize Wk G5 A0.dd (.lst 8e20)=G6 at *;clear WX TX F2 M2 W9 lk2 u1 u2 u3 u4 u5 u6 x4 xos xc1 xc2 Z5 ed YX N3 ept;right;obtain⟨xt,M3,xos,xc1,xc2,Z5,x4⟩:=F3.ex;obtain⟨Y5,Xc,X5,_⟩:=M3.hm;have vm3:aW Y5 1e17=some 2e22:=(X5.2 _ 4e0).trans x4.md;have FD:=(FT.at' hf.1).done (i:=i) hf.2;rcases ZE with⟨ts,hs⟩|⟨k,hs⟩
    ·have x5:eI G6 A0 xt (.wait ts):=by
      have:=x4;rw[show((S.at' m).done i w).sl=S.sl from rfl,hs] at this;exact this
     obtain⟨_,va3,ea,_⟩:=x5;have va4:aW Y5 7e48=some (.ref A0.aw):=(X5.2 _ 4e0).trans va3;rw[hs] at vm3;have etd:(S.at' m).dW i w=if i∈ts then ((S.at' m).done i w).wake (some i) else ((S.at' m).done i w,[]):=by simp only[Pu.dW,show(S.at' m).sl=S.sl from rfl,hs]
     rw[etd] at fin;refine cE fun RI Wt=>?_
     exists Xc,vm3,Slp.md,va4,ea,lD,eh
     refine⟨rfl,nN _,?_⟩;split
     ·next ht =>
      refine Wt _ _ ?_;clear Wt RI;rw[if_pos ht] at fin
      exists eh
      refine⟨P0,A0,(S.at' m).done i w,p,some i,op,N+1,rfl,F3,O1,FD,by omega,eW 1e0 (by have:=FT.md;omega),.inr ⟨ts,hs⟩,fun A' p' G' F' O' W'=>?_⟩;wp_walk;right;wp_walk;exact fin A' p' G' F' O' W'
     ·next ht =>
      clear Wt RI;rw[if_neg ht] at fin;right;wp_walk;exact fin A0 p G6 F3 O1 Fm.refl
    ·rw[hs] at vm3;have etd:(S.at' m).dW i w=((S.at' m).done i w,[]):=by simp only[Pu.dW,show(S.at' m).sl=S.sl from rfl,hs]
     rw[etd] at fin;refine cE fun RI Wt=>?_
     exists Xc,vm3,Slp.md
     clear Wt RI;right;wp_walk;exact fin A0 p G6 F3 O1 Fm.refl
   ·next hi =>
    clear Wt RI;wp_walk;right;wp_walk;have et:S.take 3e6=(S,[]):=by
     have:S.over 3e6=true:=by
      unfold Pu.over;cases hs:S.sl with
      | new=>rfl
      | ended _=>rfl
      | worn=>rfl
      | _=>simp[hi]
     simp only[Pu.take,this,Γ5]
    exact fin A0 p G2 7e29 6e29 Fm.refl
  | ltr m k w =>
   have fin:=Yn;clear Yn;replace eh:G1 ha=some (.tup [.str "letter",.int m,.str k,wv w]):=eh;left
   exists eh
   refine⟨by decide,fun pt Y1=>?_⟩;have ect:qY [.str "letter",.int m,.str k,wv w] none 8e32=[.str "letter",.int m]:=rfl;rw[ect];refine⟨_,g8.of aA,rfl,?_⟩;have N2:=q0D (o:=.tup [.str "letter",.int m]) Y1;replace F:=F.kp N2;replace O1:=O1.kp N2;replace eh:=N2.at eh;replace WB:=N2.at WB;replace M0:=M0.kp N2;replace c4:=c4.keep (H':=Wk G1 pt 9e40) fun b o e _=>N2.at e;replace fin:=fun A' p' G' F' O' W'=>fin A' p' G' F' O' 2e29;generalize Wk G1 pt 9e40=G2 at *;wp_walk;right;left;refine cE fun RI Wt=>?_;refine qZ fun RE Xx=>?_
   exists WB,vm
   rw[ite_self];refine Xx _ _ ?_;clear Xx RE Wt RI;refine cE fun RI Wt=>?_;refine qZ fun RE Xx=>?_;wp_walk;refine Xx _ _ ?_;clear Xx RE Wt RI;refine cE fun RI Wt=>?_
   exists WB,vm,Ui
   refine fun pq hpq=>⟨rfl,rfl,?_⟩;have NQ:=q0D (o:=.lst [.str "wait",.str "hear"]) hpq;replace F:=F.kp NQ;replace O1:=O1.kp NQ;replace eh:=NQ.at eh;replace WB:=NQ.at WB;replace M0:=M0.kp NQ;replace c4:=c4.keep (H':=Wk G2 pq 7e39) fun b o e _=>NQ.at e;replace fin:=fun A' p' G' F' O' W'=>fin A' p' G' F' O' 4e45;generalize Wk G2 pq 7e39=G2a at *;split
   ·next hw =>
    refine Wt _ _ ?_;clear Wt RI;left
    exists WB,t3,eh
    refine⟨by omega,?_⟩;have F1:bU P0 0e43 A0 9e23 p:=F.LK WB _;replace O1:=O1.put (u:=.dK 1e7) WB aZ.1 6e3;have WX:=Fm.set (D:=[op]) (A:=A0) (H:=G2a) (b:=A0.md) (o:=.dK 1e7) 2e6;have TX:aE G2a 0e43:=aE.cA WB;replace eh:=TX _ _ eh;replace fin:=fun A' p' G' F' O' W'=>fin A' p' G' F' O' 0e17;generalize Wk G2a A0.md (.dK 1e7)=G3 at *;clear WX TX M0 WB t1 t2 t3 t4 t5 t6 c4;right;obtain⟨xt,M1,xos,xc,xc2,Z5,x4⟩:=F1.ex;obtain⟨WY,WA,XE,u1,u2,u3,u4,u5,u6⟩:=M1.hm;have ZE:=U7 hw;have et:S.take 9e17=(S.at' m).dG k w:=by
     have:S.over 9e17=false:=by
      unfold Pu.over;rcases ZE with⟨ts,hs⟩|⟨k,hs⟩<;>simp[hs]
     simp only[Pu.take,this,ϗ,Β1]
    rw[et] at fin;obtain⟨lk,ml,el,hl,hun,hq⟩:=F1.lt;have vl1:aW WY 6e21=some 7e17:=(XE.2 _ 4e0).trans Z5;left
    exists WA,vl1,eh,el
    refine fun p1 h1=>?_;have N1:=q0D (o:=.lst []) h1;have e0:Wk G3 p1 2e0 p1=some 2e0:=aA;have hl':=hl.keep 6e28;obtain⟨l,ws,hv,YC,Xy⟩:∃ l ws,(aW lk 0e3).getD 2e4=.ref l/\Wk G3 p1 2e0 l=some 8e7/\(aT S.lt k).getD []=ws:=by
     rcases hl'.look k with⟨z1,z2⟩|⟨l,ws,z1,z2,z3,z4⟩
     ·exact⟨p1,[],by rw[z1];rfl,e0,by rw[<- show(aT ml k).getD []=(aT S.lt k).getD [] from hq k,z2];rfl⟩
     ·exact⟨l,ws,by rw[z1];rfl,z4,by rw[<- show(aT ml k).getD []=(aT S.lt k).getD [] from hq k,z2];rfl⟩
    replace el:=N1.at el;replace eh:=N1.at eh;replace WA:=N1.at WA;generalize Wk G3 p1 2e0=G4 at *;have lws:ws.length<=N:=by
     cases e:aT S.lt k with
     | none=>rw[e] at Xy;rw[<- Xy];simp
     | some v=>rw[e] at Xy;have:=(FT.lw k v e).1;rw[<- Xy];exact this
    exists el,hv,eh,YC
    refine fun p2 h2=>?_;generalize hg:Wk G4 p2 0e6=G5;have N2:Kp [] G4 G5:=hg▸Kp.new h2;have e2:G5 p2=some 0e6:=hg▸aA;clear hg;replace el:=N2.at el;replace eh:=N2.at eh;replace WA:=N2.at WA;replace YC:=N2.at YC
    exists YC,e2
    refine⟨by rw[Δ];omega,fun l2 h2'=>?_⟩;rw[show ws.map wv++[wv w]=(ws++[w]).map wv by simp];have K5:Kp [] G3 G5:=N1.trans N2;obtain⟨n1,n2,n3⟩:=(F1.kp K5).new h2';have NL:=q0D (o:=.lst 7e15) h2';have e3:Wk G5 l2 (.lst 7e15) l2=some (.lst 7e15):=aA;have nol:op≠l2:=by
     obtain⟨us,e,_⟩:=O1;exact aF (K5.at e) h2'
    have f3:G3 l2=none:=K5.cF h2';have KX:=K5.trans NL;replace O1:=O1.kp KX;replace M1:=M1.kp KX;replace hl:=hl.keep (fun _ _ _ e=>KX.at e);replace el:=NL.at el;replace eh:=NL.at eh;replace WA:=NL.at WA;generalize Wk G5 l2 (.lst 7e15)=G6 at *;have F6:=F1.kp KX;have nl2:l2∉A0.las:=fun z=>n2 l2 z rfl;obtain⟨Xn,ml',a1,a2,a3,a4,a5,a6,a7⟩:=hl.VR (k:=k) e3 hun.1 F1.nl nl2;have lml:lk.length=ml.length:=hl.len;have lm2:ml'.length<=A0.nk+1:=by
     rw[<- a1.len];have:=Ou (kvs:=lk) (k:=.inr k) (x:=.ref l2);have:=hun.2;omega
    exists WA,vl1,eh,el
    refine⟨by have:=hun.2;omega,?_⟩;have TL:aE G6 (Wk G6 A0.ld 2e3):=aE.cA el;have e7:Wk G6 A0.ld 2e3 A0.ld=some 2e3:=aA;have KE:∀ b o,G6 b=some o->b≠A0.ld->Wk G6 A0.ld 2e3 b=some o:=fun b o e n=>by rw[aD n];exact e
    have nld:l2≠A0.ld:=cL e3 el 8e0;replace O1:=O1.put (u:=.dK (aO lk 0e3 1e3)) el aZ.2.2.2.2 6e3;replace eh:=TL _ _ eh;replace e3:=KE _ _ e3 nld;replace a1:=a1.keep (H':=Wk G6 A0.ld 2e3) (fun a ha o e=>KE a o e (by
     obtain⟨xs,ex⟩:=a1.ex a ha;exact cL ex el 8e0))
    have M7:cJ (Wk G6 A0.ld 2e3) A0.md A0.nd A0.od A0.dd xt 9e23:=M1.TY (fun a o e h=>KE a o e (by
     obtain⟨ds,ed,_⟩:=M1.hd;rcases h with rfl|rfl|rfl|rfl
     ·exact F1.n1
     ·exact F1.n2
     ·exact cL M1.ho el 8e0
     ·exact cL ed el 8e0)) TL
    have em7:=KE _ _ WA F1.n1;have K7:∀ b o,G3 b=some o->b≠A0.ld->Wk G6 A0.ld 2e3 b=some o:=fun b o e n=>KE b o (KX.at e) n;have aaO:∀ a∈Xn,a∈A0.las\/G3 a=none:=fun a ha=>(a4 a ha).elim (fun z=>.inr (z▸f3)) .inl;have s22:∀ a∈Xn,a≠A0.od/\a≠A0.dd/\a≠A0.cl/\a∉A0.cs:=fun a ha=>by
     rcases a4 a ha with rfl|z
     ·obtain⟨ds,ed,_⟩:=(F1.ex.choose_spec).1.hd;exact⟨fun z=>n3 0e31,fun z=>n3 5e21,n1.1,n1.2⟩
     ·exact F1.s2 a z
    have T7:aE G3 (Wk G6 A0.ld 2e3):=(aE.nil KX).trans TL;have c7:=x4.las (H':=Wk G6 A0.ld 2e3) (las:=Xn) (n:=A0.nk+1) aaO (fun b o e h=>K7 b o e (fun z=>h 4e30));have nop:op∉Xn:=fun z=>by
     obtain⟨us,e,_,s,_⟩:=O1;rcases a4 op z with y|y
     ·exact nol y
     ·exact s 6e46
    have O7:gH (Wk G6 A0.ld 2e3) {A0 with las:=Xn,nk:=A0.nk+1} op []:=by
     obtain⟨us,e,hc,s,s2,s3⟩:=O1;exact⟨us,e,hc,fun z=>(GA z).elim s nop,s2,s3⟩
    have W7:Fm [op] A0 {A0 with las:=Xn,nk:=A0.nk} G3 (Wk G6 A0.ld 2e3):=⟨fun b o e h1 _=>K7 b o e (fun z=>h1 4e30),fun b o e=>by
     by_cases z:b=A0.ld
     ·exact⟨_,by rw[z];exact e7⟩
     ·exact⟨o,K7 b o e z⟩,fun b hb=>(GA hb).elim .inl (fun z=>(aaO b z).elim (fun y=>.inl 6e46) .inr),⟨rfl,rfl,rfl⟩,rfl,.inl rfl⟩
    generalize Wk G6 A0.ld 2e3=G7 at *;have aaP:∀ j,(aT ml' j).getD []=if j=k then ws++[w] else (aT S.lt j).getD []:=fun j=>by
     rw[a7 j];split
     ·rfl
     ·exact hq j
    clear KE TL el NL N1 N2 K5 e2 YC;right;obtain⟨kv7,aaC,lk7,_⟩:=M7.hm;have vm7:aW kv7 1e17=some 2e22:=(lk7.2 _ 4e0).trans x4.md;have F2:bU P0 G7 {A0 with las:=Xn,nk:=A0.nk+1} {S.at' m with lt:=iA S.lt k w} p:=F1.PR 3e38 xos xc xc2 Z5 c7 (fun b o e hb=>K7 b o e (fun z=>by
     have:=F1.far (hb.elim .inl 2e44:b=A0.cl\/b∈A0.cs\/b=A0.ld\/b∈A0.las);rcases hb with hb|hb
     ·obtain⟨X5,_,Zd,_⟩:=F1.lt;have c:=F1.cl;rw[<- hb,z,Zd] at c;cases c
     ·obtain⟨xs,ex⟩:=F1.co.there b hb;obtain⟨X5,_,Zd,_⟩:=F1.lt;rw[z,Zd] at ex;cases ex)) T7 ⟨_,ml',e7,a1,⟨a2,lm2⟩,fun j=>by
      rw[aaP j];show _=(aT (iA S.lt k w) j).getD [];rw[wL,Xy]⟩ F1.ps a3 s22
    rcases ZE with⟨k',hs⟩|⟨ts,hs⟩
    ·rw[hs] at vm7;obtain⟨x,WD⟩:=FT.sl.1 k' hs;obtain⟨pt,ec⟩:=F2.ps.ent (show Wr S.stk=some (.Wp x k') from WD);obtain⟨a,ea,pa,hpa,sv,X4,eA⟩:=F2.co.at ec;cases X4 with
     | @Wp a0 x k' e1 =>
      have ix:gI 4e21 (p:Int)=some 3e1:=eL (by rw[ϒ,show A0.cs[p]?=some a from ea];rfl);have YJ:G7 A0.cl=some (.lst 4e21):=F2.cl;have va7:aW kv7 9e0=some 7e11:=(lk7.2 _ 4e0).trans xc2;have vc7:aW kv7 2e17=some 8e17:=(lk7.2 _ 4e0).trans xc;have vl7:aW kv7 6e21=some 7e17:=(lk7.2 _ 4e0).trans Z5;refine cE fun RI Wt=>?_
      exists aaC,vm7,Slp.md,va7,vc7,YJ,ix,eA,e1,eh
      split
      ·next hk =>
       subst hk;refine Wt _ _ ?_;clear Wt RI;have hw0:ws=[]:=by rw[<- Xy];exact sd.he _ hs
       subst hw0;have YA:G7 l2=some 0e6:=e3;have etl:(S.at' m).dG k' w=(S.at' m).wake w:=by simp only[Pu.dG,show(S.at' m).sl=S.sl from rfl,hs,Γ5]
       rw[etl] at fin
       exists aaC,vl7,eh,e7,a6,YA
       rw[show[wv w].tail=([]:List Wo).map wv from rfl];have abJ:=s22 l2 a5;have M8:=M7.other (vs:=([]:List Wo).map wv) YA abJ.1 abJ.2.1;have a8:=a1.set ([]:List Wo) a6 a3;have T8:aE G7 (Wk G7 l2 7e9):=aE.cA YA;have K8:∀ b o,G3 b=some o->b≠A0.ld->Wk G7 l2 7e9 b=some o:=fun b o e n=>by rw[aD (aF e f3)];exact K7 b o e n
       have e8:Wk G7 l2 7e9 A0.ld=some (.dK (aO lk (.inr k') 1e3)):=by rw[aD nld.symm];exact e7
       have c8:=x4.las (H':=Wk G7 l2 7e9) (las:=Xn) (n:=A0.nk+1) aaO (fun b o e h=>K8 b o e (fun z=>h 4e30));have O8:gH (Wk G7 l2 7e9) {A0 with las:=Xn,nk:=A0.nk+1} op []:=O7.put YA 0e46 6e3;have W8:=W7.trans (Fm.set (b:=l2) (o:=.lst 6e9) (.inl 0e46));have F3:bU P0 (Wk G7 l2 7e9) {A0 with las:=Xn,nk:=A0.nk+1} 9e23 p:=F1.PR (M8.as ⟨rfl,rfl,rfl,rfl,rfl,rfl⟩) xos xc xc2 Z5 c8 (fun b o e hb=>K8 b o e (fun z=>by
        obtain⟨X5,_,Zd,_⟩:=F1.lt;rcases hb with hb|hb
        ·have c:=F1.cl;rw[<- hb,z,Zd] at c;cases c
        ·obtain⟨xs,ex⟩:=F1.co.there b hb;rw[z,Zd] at ex;cases ex)) (T7.trans T8) ⟨_,_,e8,a8,⟨by rw[nX];exact a2,by rw[nB];exact lm2⟩,fun j=>by
         rw[v9 (w:=w) (r':=[]) (by rw[aaP k',if_pos rfl];rfl)];show _=(aT S.lt j).getD [];split
         ·next z=>rw[z,Xy]
         ·next z=>rw[aaP j,if_neg z]⟩ F1.ps a3 s22
       generalize Wk G7 l2 7e9=G8 at *;refine⟨P0,{A0 with las:=Xn,nk:=A0.nk+1},S.at' m,p,w,op,N,rfl,F3,O8,FT.at' hf.1,by omega,hf.2,.inl ⟨k',hs⟩,fun A' p' G' F' O' W'=>?_⟩;wp_walk;right;wp_walk;exact fin A' p' G' F' O' (W8.trans (W'.to A0.nk)) (by rw[W'.nk];exact Ι _)
      ·next hk =>
       clear Wt RI;have etl:(S.at' m).dG k w=({S.at' m with lt:=iA S.lt k w},[]):=by simp only[Pu.dG,show(S.at' m).sl=S.sl from rfl,hs,if_neg hk];rfl
       rw[etl] at fin;right;wp_walk;exact fin _ p G7 F2 O7 W7 (Ι _)
    ·rw[hs] at vm7;have etl:(S.at' m).dG k w=({S.at' m with lt:=iA S.lt k w},[]):=by simp only[Pu.dG,show(S.at' m).sl=S.sl from rfl,hs];rfl
     rw[etl] at fin;refine cE fun RI Wt=>?_
     exists aaC,vm7,Slp.md
     clear Wt RI;right;wp_walk;exact fin _ p G7 F2 O7 W7 (Ι _)
   ·next hw =>
    clear Wt RI;right;wp_walk;have et:S.take 9e17=(S,[]):=by
     have:S.over 9e17=true:=by
      unfold Pu.over;cases hs:S.sl with
      | new=>rfl
      | ended _=>rfl
      | worn=>rfl
      | Wl=>rw[hs] at hn;cases hn
      | wait ts=>rw[hs] at hw;exact absurd rfl hw
      | Wp ts=>rw[hs] at hw;exact absurd rfl hw
     simp only[Pu.take,this,Γ5]
    exact fin A0 p G2a 7e29 6e29 Fm.refl 1e0
theorem IA:Ok T T.Bg 18 L4:=by
 nomatch T.Bg
 ·obtain⟨bp,cc,us,b,ms,rfl,_⟩:=h;rfl
 ·obtain⟨bp,cc,us,b,ms,rfl,eb,hsb,gb,hd,hz,ec,lm,q⟩:=h
  nomatch (aG (pst 2 (pcl (Iz T) T.Bf 5e14)) (pss3 (pst 3 7e0) (xK Γ4 rfl (sA rfl T.yS (pa1 3e15)) (pgn 4) (aG (pst 5 (pcl (xA T) T.pW (pa2 (pix aK pv1 pv4) aB))) (aG (pst 6 (pcl (tQ T) T.jS (pa2 pv5 pv2))) (pss3 (pif (PW.pt (dB 6e30 (cU (ptc GI (pcl 0e1 T.bK (pa2 pv5 aB)) aB)))) (aH (pst 6 (bB (pa3 aC 9e21 (pcl (jM T) T.iY (pa1 pv5))))))) (aL (c9 pv3 pv6)) (aL (pcl (Df T) T.rD (pa2 pv2 pv6))))))) (aJ pv3))),0
  left;wp_walk;refine⟨bp,us,b,rfl,eb,hsb,hd,hz,fun A1 G1 F1 fr nk0 _ K1=>?_⟩;obtain⟨md,hmd⟩:∃ md,md=A1.md:=⟨_,rfl⟩;rw[<- hmd];wp_walk;right;left;wp_walk;refine fun rl hrl=>?_;generalize hg:Wk G1 rl 2e0=G2;have N1:Kp [] G1 G2:=hg▸Kp.new hrl;have er:G2 rl=some 2e0:=hg▸aA;clear hg;obtain⟨nc,_,nr⟩:=F1.new hrl;have frl:H rl=none:=K1.cF hrl;replace F1:=F1.kp N1;replace K1:=K1.trans N1;right;left
  exists K1.at ec
  refine⟨⟨by rw[Δ];omega,by rw[Δ];omega⟩,?_⟩;obtain⟨Pv,Wz⟩:∃ Pv:Nat->St->Hp->Prop,∀ i σ G,Pv i σ G=E7 fun(v4 v5 v6:Option V) (A:Fa) (p:Nat) (hv:List V) (hs:List Hap)=>A15 (σ=[some 2e24,some (.ref cc),some (.ref md),some 6e6,v4,v5,v6]) (bU b G A (takes 6e1 hs).1 p) (Ww true (takes 6e1 hs).1 (302 * i)) ((takes 6e1 hs).1.sl.isN=false) (Std (takes 6e1 hs).1) (A.nk<=i) (A.md=md) 0e45 3e52 (hs.length=i) ((∀ h∈hs,1e41/\eD h.w)) (rl∉A.mut) ((rl≠A.cl/\rl∉A.cs)) ((∀ a∈A.mut,H a=none)) 8e31:=⟨_,fun _ _ _=>rfl⟩;refine Ac (lo:=0) Pv ?_ ?_ ?_
  ·rw[Wz];exact⟨_,_,_,A1,0,[],[],rfl,F1,Gk gb 1e0,rfl,OH b,by omega,hmd.symm,er,.nil,rfl,by simp,nr,nc,fr,K1⟩
  ·intro i σ G hi h;rw[Wz] at h;obtain⟨v4,v5,v6,A2,p,hv,hs,rfl,F,FT,hn,sd,hk,hm,eG,hH,lh,ok,nr,nc,fr,KG⟩:=h;rw[Δ] at hi;have hil:i < ms.length:=by omega
   obtain⟨z,ez⟩:∃ z,gI 1e50 (i:Nat)=some 4e8:=⟨ms[i],eL 0e0⟩;have ecG:=KG.at ec;generalize eS:(takes 6e1 hs).1=S at *;left
   exists ecG,Int.zero_add,ez
   refine⟨z,90,rfl,fun dk G3 ZO K3 RD=>?_⟩;wp_walk;right;left;wp_walk;obtain⟨d1,d2,d3⟩:=F.new ZO;refine⟨b,A2,S,p,dk,_,302 * i,by rw[hm],F.kp K3,FT,by omega,RD,by omega,d3,d1.1,d1.2,fun v h n' G4 hA hf D4 ln K4=>?_⟩;wp_walk;right;have KK:Kp [] G G4:=fun b o e _=>K4.Wx (K3.at e) (aF e ZO);refine bW fun R6 ZN=>?_;refine cE fun RI Wt=>?_
   suffices fin:∀(v:V) (h:Hap) (G':Hp),mC G' v h->(1e41/\eD h.w)->Kp [] G G'->R6 [some 2e24,some (.ref cc),some (.ref md),some 6e6,some (.int (i:Nat)),some 2e8,some v] G' by
    obtain⟨ha,rfl,eh⟩:=hA;wp_walk;split
    ·refine⟨_,D4,by omega,fun g G5 a5 b5 D5 K5=>?_⟩;have K45:Kp [] G G5:=fun b o e _=>K5.Wx (KK.at e) (fun z=>by
      have:=K3.at e;rw[z] at e;rw[ZO] at e;cases e)
     have eh5:=D4.tk K5 _ _ eh;wp_walk;split
     ·refine Wt _ _ ?_
      exists eh5,hap1 h
      refine⟨dk,_,rfl,D5,by omega,fun w G6 hw D6 K6=>?_⟩;wp_walk;intro p6 h6;exact fin _ (.WR h.m w) _ ⟨p6,rfl,aA⟩ ⟨hf.1,hw⟩ (fun b o e _=>(q0D h6).at (K6.Wx (K45.at e) (fun z=>by rw[z,ZO] at e;cases e)))
     ·exact fin _ h _ ⟨ha,rfl,eh5⟩ hf K45
    ·exact fin _ h _ ⟨ha,rfl,eh⟩ hf KK
   clear hA hf Wt RI D4 KK;intro v h G' hA hf KK;refine ZN _ _ ?_;clear ZN;clear R6;replace F:=F.kp KK;replace eG:=KK.at eG;replace hH:=hH.kt (aE.nil KK);have lv:=hH.len;left
   exists eG
   refine⟨by omega,?_⟩;have F5:=F.oth (vs:=hv++[v]) eG nr nc.1 nc.2 (fun ts hts=>Lg hH (fun z=>by
    rw[z] at eS;rw[<- eS] at hts;cases hts) ts)
   have T5:aE G' (Wk G' rl 7e10):=aE.cA eG;have K5:∀ b o,b≠rl->G' b=some o->Wk G' rl 7e10 b=some o:=fun b o n e=>by rw[aD n];exact e
   replace eG:Wk G' rl 7e10 rl=some 7e10:=aA;replace hA:=Ko hA T5;have hH5:=(hH.kt T5).snoc hA;have KH5:Kp [] H (Wk G' rl 7e10):=fun b o e _=>K5 b o (aF e frl) (KK.at 0e24);generalize Wk G' rl 7e10=G5 at *;right;wp_walk;refine⟨b,A2,S,p,v,h,302 * i,by rw[hm],F5,hA,hf,FT,by omega,hn,sd,by omega,fun A' p' op us' G6 F6 hop e6 c6 n6 W6 hk6=>?_⟩;show Pv 7e1 _ _;rw[Wz];obtain⟨_,M5,_⟩:=F5.ex;have es:(takes 6e1 (hs++[h])).1=(S.take h).1:=by rw[pH,eS]
   have T6:aE G5 G6:=F5.tkp ((show Fm [] A2 {A' with nk:=A2.nk} G5 G6 from W6).mono (E:=[rl]) 0e0) eG;have e6r:G6 rl=some 7e10:=W6.kp _ _ eG nr 0e0;refine⟨_,_,_,A',p',hv++[v],hs++[h],rfl,by rw[es];exact F6,?_,?_,?_,by omega,W6.m1.1.trans hm,e6r,hH5.kt T6,by simp[lh],?_,fun z=>?_,⟨by rw[show A'.cl=A2.cl from W6.m1.2.1];exact nc.1,by rw[show A'.cs=A2.cs from W6.m1.2.2];exact nc.2⟩,fun a ha=>?_,fun b o e _=>W6.kp b o (KH5.at e) (fun z=>by rw[fr b z] at e;cases e) 0e0⟩
   ·rw[es,show 302 * 7e1=302 * i+302 by omega];exact FT.Hn h hf.1 hf.2 (fun j hj=>eW (by have:=(M5.lt j hj).1;omega) (by have:=(M5.lt j hj).2;have:=FT.md;omega)) 1e0
   ·rw[es];exact yK hn h
   ·rw[es];exact L8 sd hn h
   ·intro x hx;rcases Κ.mp hx with hx|hx
    ·exact ok x hx
    ·rw[show x=h by simpa using hx];exact hf
   ·rcases W6.nw rl z with z|z
    ·exact nr z
    ·rw[eG] at z;cases z
   ·rcases W6.nw a ha with z|z
    ·exact fr a z
    ·exact KH5.cF z
  intro σ G h;rw[Wz,Δ] at h;obtain⟨v4,v5,v6,A2,p,hv,hs,rfl,F,FT,hn,sd,hk,hm,eG,hH,lh,ok,nr,nc,fr,KG⟩:=h;right;wp_walk;exact q rl hv hs G eG hH ok 1e0 KG
theorem Dc:Ok T T.rB 1 (yC t.aQ):=by
 nomatch T.rB
 ·obtain⟨x,dx,p,us,b,rfl,_⟩:=h;rfl
 ·obtain⟨x,dx,p,us,b,rfl,e,ep,hU,q⟩:=h
  nomatch (pss2 (dA T.cZ T.iE pv0 (aM 1e6)) (dA T.cZ T.fB pv0 (aM 3e18))),0
  exists e
  refine fun lb f1=>?_;have n1:x≠lb:=aF e f1
  exists aD n1,e
  refine fun ln f2=>?_;have n2:x≠ln:=aF aA f2;have n3:lb≠ln:=aF 0e41 f2
  exists aD n2
  rw[aD n2.symm,aD n3.symm] at f2;have npx:p≠x:=cL ep e 8e0;have npl:=aF ep f1;have npn:=aF ep f2;have KK:Kp [x] H (Wk (Wk (Wk (Wk H lb (.lst [.ref p])) x (.ins t.aQ dx [("blocks",.ref lb)])) ln (.lst [.int 0])) x (.ins t.aQ dx [("blocks",.ref lb),("numbers",.ref ln)])):=fun b o eb nb=>by
   have nb':b≠x:=by simpa using nb
   rw[aD nb',aD (aF eb f2),aD nb',aD (aF eb f1)];exact eb
  have TT:aE H _:=fun a xs ea=>KK a _ ea (by simp only[Α,Γ,Τ];exact cL ea e 8e0);refine q lb ln _ f1 f2 ⟨aA,⟨[.ref p],?_,.one (TT _ _ ep) (hU.kp TT)⟩,?_,n3,by simp⟩ KK
  ·rw[aD n1.symm,aD n3,aD n1.symm];exact aA
  ·rw[aD n2.symm];exact aA
theorem wZ:Ok T T.kY 1 (yB t.aI):=by
 nomatch T.kY
 ·obtain⟨x,dx,rfl,_⟩:=h;rfl
 ·obtain⟨x,dx,rfl,e,q⟩:=h
  nomatch (pss3 (dA T.bI T.wU pv0 aB) (dA T.bI T.gB pv0 kO) (dA T.bI T.gX pv0 kO)),0
  exists e
  refine fun dp f1=>?_;have n1:x≠dp:=aF aA f1
  exists aD n1
  refine fun da f2=>?_;have n2:x≠da:=aF aA f2;have n3:dp≠da:=aF 0e41 f2
  exists aD n2
  rw[aD n1.symm] at f1;rw[aD n2.symm,aD n3.symm,aD n2.symm] at f2;refine q dp da _ f1 f2 ⟨aA,?_,?_,n3,by simp,.nil,by simp,by simp,by decide⟩ ?_
  ·rw[aD n1.symm,aD n3,aD n1.symm];exact aA
  ·rw[aD n2.symm];exact aA
  ·intro b o eb nb;have nb':b≠x:=by simpa using nb
   rw[aD nb',aD (aF eb f2),aD nb',aD (aF eb f1),aD nb'];exact eb
theorem EV:Ok T T.vR 3 (BQ ⟨t.aP,t.aQ,t.aI⟩):=by
 nomatch T.vR
 ·obtain⟨x,dx,pg,us,b,rfl,_⟩:=h;rfl
 ·obtain⟨x,dx,pg,us,b,rfl,e,ep,hs,q⟩:=h
  nomatch (aG (dA T.aU T.jV pv0 (GN T.EN (Dc T) (hr.mono 1e0) rfl T.Ue T.rB.bd .nil pass0 1e6)) (aG (dA T.aU T.dX pv0 9e7) (aG (dA T.aU T.CW pv0 cG) (aG (dA T.aU T.sP pv0 aB) (pss3 (dA T.aU T.iU pv0 kO) (dA T.aU T.cS pv0 (Lw T.rO (wZ T) (hr.mono 1e0) rfl T.KY T.kY.bd .nil pass0)) (dA T.aU T.kK pv0 kO)))))),0
  left
  exists e
  refine Ob ep hs fun wk wx lb ln Gw Kw hwk hlb hln W0=>?_;have ew:=Kw.at e
  exists ew
  have g1:Wk Gw x 7e19 x=some 7e19:=aA;have K1:Kp [x] Gw (Wk Gw x 7e19):=Kp.set 0e0;generalize Wk Gw x 7e19=G1 at *;right;left
  exists g1
  refine fun p h2=>?_;obtain⟨g2,f2,K2,n2⟩:=put2 (o:=.tup [.str "new"]) (o':=.ins t.aP dx [("walk",.ref wk),("sleep",.ref p)]) g1 h2
  exists aD n2,g1
  generalize Wk (Wk G1 p 8e46) x (.ins t.aP dx [("walk",.ref wk),("sleep",.ref p)])=G2 at *;right;left
  exists g2
  have g3:Wk G2 x 9e18 x=some 9e18:=aA;have K3:Kp [x] G2 (Wk G2 x 9e18):=Kp.set 0e0;generalize Wk G2 x 9e18=G3 at *;right;left
  exists g3
  have g4:Wk G3 x 7e18 x=some 7e18:=aA;have K4:Kp [x] G3 (Wk G3 x 7e18):=Kp.set 0e0;generalize Wk G3 x 7e18=G4 at *;right;left
  exists g4
  refine fun nm h5=>?_;obtain⟨g5,f5,K5,n5⟩:=put2 (o:=.dK []) (o':=.ins t.aP dx [("walk",.ref wk),("sleep",.ref p),("arg",.Wl),("now",.int 0),("names",.ref nm)]) g4 h5
  exists aD n5,g4
  generalize Wk (Wk G4 nm 9e6) x (.ins t.aP dx [("walk",.ref wk),("sleep",.ref p),("arg",.Wl),("now",.int 0),("names",.ref nm)])=G5 at *;right;left
  exists g5
  refine Uj fun tk tx dp da Gt Kt htk hdp hda T0=>?_;have et:=Kt.at g5
  exists et
  have g6:Wk Gt x 6e18 x=some 6e18:=aA;have K6:Kp [x] Gt (Wk Gt x 6e18):=Kp.set 0e0;generalize Wk Gt x 6e18=G6 at *;right
  exists g6
  refine fun lt h7=>?_;obtain⟨g7,f7,K7,n7⟩:=put2 (o:=.dK []) (o':=.ins t.aP dx [("walk",.ref wk),("sleep",.ref p),("arg",.Wl),("now",.int 0),("names",.ref nm),("tickets",.ref tk),("letters",.ref lt)]) g6 h7
  exists aD n7,g6
  generalize Wk (Wk G6 lt 9e6) x (.ins t.aP dx [("walk",.ref wk),("sleep",.ref p),("arg",.Wl),("now",.int 0),("names",.ref nm),("tickets",.ref tk),("letters",.ref lt)])=G7 at *;have KA:Kp [x] H G4:=((((Kw.mono 0e0).trans K1).trans K2).trans K3).trans K4;have KB:Kp [x] H Gt:=(KA.trans K5).trans (Kt.mono 0e0);have KC:Kp [x] H G6:=KB.trans K6;have xwk:x≠wk:=aF e hwk;have xtk:x≠tk:=aF g5 htk;have W7:Kp [x] Gw G7:=(((((K1.trans K2).trans K3).trans K4).trans K5).trans (Kt.mono 0e0)).trans 3e31;have P7:Kp [x] G2 G7:=(((K3.trans K4).trans K5).trans (Kt.mono 0e0)).trans 3e31;have N7:Kp [x] G5 G7:=(Kt.mono 0e0).trans 3e31;have T7:Kp [x] Gt G7:=K6.trans K7;have KD:Kp [x] H G7:=KC.trans K7;have W5:Kp [x] Gw G5:=((((K1.trans K2).trans K3).trans K4).trans K5);have xlb:lb≠x:=(aF e hlb).symm;have xln:ln≠x:=(aF e hln).symm;have xdp:dp≠x:=(aF g5 hdp).symm;have xda:da≠x:=(aF g5 hda).symm;have nm6:=K6.Wx (Kt.at f5) n5.symm;have dp6:=K6.Wx T0.hp xdp;have da6:=K6.Wx T0.ha xda;have wk5:=W5.Wx W0.ins xwk.symm;have fr4:H nm=none:=VM KA g4 h5;have fr5:∀ {a:Addr},G5 a=none->H a=none:=fun h=>VM (KA.trans K5) g5 h;have abO:H lt=none:=VM KC g6 h7;have kt7:aE Gw G7:=fun b xs hb=>W7.Wx hb (cL hb ew 8e0);refine q ⟨x,dx,wk,wx,lb,ln,nm,tk,tx,dp,da,lt⟩ 3e4 G7 rfl ⟨g7,⟨p,rfl,P7.Wx f2 n2.symm⟩,W0.keep (fun o h=>W7.Wx h xwk.symm) (fun o h=>W7.Wx h xlb) (fun o h=>W7.Wx h xln) kt7,T0.keep (fun o h=>T7.Wx h xtk.symm) (fun o h=>T7.Wx h xdp) (fun o h=>T7.Wx h xda),N7.Wx f5 n5.symm,⟨[],f7,.nil⟩,by simp,by simp,xwk,xtk,aF wk5 htk,aF f5 hdp,aF f5 hda,aF nm6 h7,(aF dp6 h7).symm,(aF da6 h7).symm⟩ KD fun a ha=>?_;simp only[Rn.cells,Α,Γ,Τ] at ha;rcases ha with rfl|rfl|rfl|rfl|rfl|rfl|rfl|rfl
  ·exact .inl rfl
  ·exact .inr hlb
  ·exact .inr hln
  ·exact .inr fr4
  ·exact .inr (fr5 htk)
  ·exact .inr (fr5 hdp)
  ·exact .inr (fr5 hda)
  ·exact .inr abO
theorem mR:Ok T T.j8 1 (DN ⟨t.aP,t.aQ,t.aI⟩):=by
 nomatch T.j8
 ·obtain⟨R,as,sl,S,rfl,_⟩:=h;rfl
 ·obtain⟨R,as,sl,S,rfl,A,q⟩:=h
  nomatch (aH (aJ 2e10)),0
  exists A.ins
  exact q
theorem gY:Ok T T.dY 1 (DK t.aI):=by
 nomatch T.dY
 ·obtain⟨tk,tx,dp,da,made,pend,ans,w,rfl,_⟩:=h;rfl
 ·obtain⟨tk,tx,dp,da,made,pend,ans,w,rfl,R,q⟩:=h;have hu:=oF hr
  nomatch (aH (aJ (RF (GK hu pv1 4e16)))),0
  exists R.ins,R.hp,xJ
  exact q
theorem rS:Ok T T.i6 2 (L0 ⟨t.aP,t.aQ,t.aI⟩):=by
 nomatch T.i6
 ·obtain⟨R,as,sl,S,v,h,rfl,_⟩:=h;rfl
 ·obtain⟨R,as,sl,S,v,h,rfl,A,hn,hH,q⟩:=h
  nomatch (aG (pst 2 3e0) (pss3 (pif 5e41 (aH (aJ (pcr xG pv2 aC)))) (pif (dQ gT (pix aK 2e10 aB) (bB 6e4) 1e2) 0e4) (aJ (GO 2e49 (jD (Lr 2e49 (jD (RH (pmt 6e5 T.bI (gY T) T.dY (pa1 3e0)))))))))),0
  obtain⟨a,rfl,eh⟩:=hH;cases es:S.sl with
  | Wl=>rw[es] at hn;cases hn
  | new =>
   have WC:=A.slp;rw[es] at WC;obtain⟨p,rfl,ep⟩:=WC;cases h with
   | WR m w =>
    simp only[Hap.vs,Hap.ini,Hap.w,Ω,Α0] at eh;rw[show S.over 3e8=false by simp only[Pu.over,es]] at q
    exists A.ins,eh,ep
    exact q _ Kp.refl
   | don m i w =>
    simp only[Hap.vs,Hap.ini,Hap.w,Ω,Α0] at eh;rw[show S.over 3e6=true by simp only[Pu.over,es]] at q
    exists A.ins,eh,ep
    exact q _ Kp.refl
   | ltr m k w =>
    simp only[Hap.vs,Hap.ini,Hap.w,Ω,Α0] at eh;rw[show S.over 9e17=true by simp only[Pu.over,es]] at q
    exists A.ins,eh,ep
    exact q _ Kp.refl
  | wait ts =>
   have WC:=A.slp;rw[es] at WC;obtain⟨p,p2,rfl,ep,ZI⟩:=WC;cases h with
   | WR m w =>
    simp only[Hap.vs,Hap.ini,Hap.w,Ω,Α0] at eh;rw[show S.over 3e8=true by simp only[Pu.over,es]] at q
    exists A.ins,eh,ep
    refine fun p9 h9=>⟨rfl,by decide +kernel,?_⟩;rw[if_neg 5e1];have N9:=q0D (o:=.tup [.str "ended",.str "worn"]) h9
    exists N9.at eh
    exact q _ N9
   | don m i w =>
    simp only[Hap.vs,Hap.ini,Hap.w,Ω,Α0] at eh;rw[show S.over 3e6 = !decide 5e22 by simp only[Pu.over,es]] at q
    exists A.ins,eh,ep
    refine fun p9 h9=>⟨rfl,by decide +kernel,?_⟩;rw[if_neg 5e1];have N9:=q0D (o:=.tup [.str "ended",.str "worn"]) h9;have A9:=A.kp N9;have eh9:=N9.at eh;generalize Wk H p9 1e39=G9 at *
    exists A9.ins,A9.tk.ins,eh9
    refine⟨R.tk,R.tx,R.dp,R.da,_,_,_,some i,rfl,A9.tk,?_⟩;wp_walk;rw[show decide (∃ j,j∈S.pend/\(some i:Wo)=some j)=decide 5e22 by simp];exact q _ N9
   | ltr m k0 w =>
    simp only[Hap.vs,Hap.ini,Hap.w,Ω,Α0] at eh;rw[show S.over 1e52=false by simp only[Pu.over,es]] at q
    exists A.ins,eh,ep
    refine fun p9 h9=>⟨rfl,by decide +kernel,?_⟩;rw[if_neg 5e1];have N9:=q0D (o:=.tup [.str "ended",.str "worn"]) h9
    exists N9.at eh
    exact q _ N9
  | Wp k =>
   have WC:=A.slp;rw[es] at WC;obtain⟨p,rfl,ep⟩:=WC;cases h with
   | WR m w =>
    simp only[Hap.vs,Hap.ini,Hap.w,Ω,Α0] at eh;rw[show S.over 3e8=true by simp only[Pu.over,es]] at q
    exists A.ins,eh,ep
    refine fun p9 h9=>⟨rfl,by decide +kernel,?_⟩;rw[if_neg 5e1];have N9:=q0D (o:=.tup [.str "ended",.str "worn"]) h9
    exists N9.at eh
    exact q _ N9
   | don m i w =>
    simp only[Hap.vs,Hap.ini,Hap.w,Ω,Α0] at eh;rw[show S.over 3e6 = !decide 5e22 by simp only[Pu.over,es]] at q
    exists A.ins,eh,ep
    refine fun p9 h9=>⟨rfl,by decide +kernel,?_⟩;rw[if_neg 5e1];have N9:=q0D (o:=.tup [.str "ended",.str "worn"]) h9;have A9:=A.kp N9;have eh9:=N9.at eh;generalize Wk H p9 1e39=G9 at *
    exists A9.ins,A9.tk.ins,eh9
    refine⟨R.tk,R.tx,R.dp,R.da,_,_,_,some i,rfl,A9.tk,?_⟩;wp_walk;rw[show decide (∃ j,j∈S.pend/\(some i:Wo)=some j)=decide 5e22 by simp];exact q _ N9
   | ltr m k0 w =>
    simp only[Hap.vs,Hap.ini,Hap.w,Ω,Α0] at eh;rw[show S.over 1e52=false by simp only[Pu.over,es]] at q
    exists A.ins,eh,ep
    refine fun p9 h9=>⟨rfl,by decide +kernel,?_⟩;rw[if_neg 5e1];have N9:=q0D (o:=.tup [.str "ended",.str "worn"]) h9
    exists N9.at eh
    exact q _ N9
  | ended w =>
   have WC:=A.slp;rw[es] at WC;obtain⟨p,rfl,ep⟩:=WC;have e0:∃(kd:Str) (xs:List V),H a=some 4e46:=by cases h<;>exact⟨_,_,eh⟩
   obtain⟨kd,xs,e0⟩:=e0;rw[show S.over (h)=true by simp only[Pu.over,es]] at q
   exists A.ins,e0,ep
   refine fun p9 h9=>⟨rfl,by decide +kernel,?_⟩;rw[if_pos 5e1];exact q _ 8e53
  | worn =>
   have WC:=A.slp;rw[es] at WC;obtain⟨p,rfl,ep⟩:=WC;have e0:∃(kd:Str) (xs:List V),H a=some 4e46:=by cases h<;>exact⟨_,_,eh⟩
   obtain⟨kd,xs,e0⟩:=e0;rw[show S.over (h)=true by simp only[Pu.over,es]] at q
   exists A.ins,e0,ep
   refine fun p9 h9=>⟨rfl,by decide +kernel,?_⟩;rw[if_pos 5e1];exact q _ 8e53
theorem hJ:Ok T T.gA 1 (qU t.aQ):=by
 nomatch T.gA
 ·obtain⟨wk,wx,lb,ln,k,n,b,r,rfl,_⟩:=h;rfl
 ·obtain⟨wk,wx,lb,ln,k,n,b,r,rfl,W,q⟩:=h
  nomatch (aH (Om 6e15 9e5 TQ aB Gy xX)),0
  obtain⟨vs,eb,hB⟩:=W.bl;obtain⟨l,el,YM⟩:=rQ k n b r;have en:=W.nu;rw[el] at en;have i2:gI 3e28 (-1)=some 1e33:=by rw[Α7];exact j4 _ _
  have i3:zE ((l++[(n:Int)]).map V.int).length (-1)=some l.length:=by
   unfold zE;simp;omega
  have i4:((l++[(n:Int)]).map V.int).set l.length (.int ((n:Int)+1))=(l++[((n+1:Nat):Int)]).map V.int:=by simp
  exists W.ins,en,i2,i3,i4
  have n1:wk≠ln:=cL W.ins W.nu 8e0;have K1:Kp [ln] H 5e35:=Kp.jQ;have T1:aE H 5e35:=fun a xs e=>by rw[aD (cL e W.nu 8e0)];exact e
  exact q _ ⟨by rw[aD n1];exact W.ins,⟨vs,by rw[aD W.ne];exact eb,(hB.kp T1).turn⟩,by rw[aA,YM],W.ne,W.X0⟩ K1
theorem fQ:Ok T T.eK 1 (yD t.aQ):=by
 nomatch T.eK
 ·obtain⟨wk,wx,lb,ln,k,n,b,r,m,rfl,_⟩:=h;rfl
 ·obtain⟨wk,wx,lb,ln,k,n,b,r,m,rfl,W,hm,q⟩:=h
  nomatch (aH (aJ (pix aK (pix aK 3e16 9e5) (pix aK 6e15 9e5)))),0
  obtain⟨vs,eb,hB⟩:=W.bl;obtain⟨ws,p,us,rfl,ep,hU,_,_⟩:=hB.last;obtain⟨l,el,_⟩:=rQ k n b r;have en:=W.nu;rw[el] at en;have hn:n < us.length:=by
   have:=(Λ.mp hm).1;have:=hU.len;omega
  obtain⟨m',hm',hM⟩:=hU.at (ϕ hn);rw[hm] at hm';cases hm';have i1:gI 9e48 (-1)=some 3e4:=j4 _ _;have i2:gI 3e28 (-1)=some 1e33:=by rw[Α7];exact j4 _ _
  have i3:gI us (n:Int)=some us[n]:=eL (ϕ hn)
  exists W.ins,eb,en,i1,i2,ep,i3
  exact q _ hM
theorem Bv:Ok T T.oY 2 (AB t.aQ):=by
 nomatch T.oY
 ·obtain⟨wk,wx,lb,ln,k,n,b,x,r,m,rfl,_⟩:=h;rfl
 ·obtain⟨wk,wx,lb,ln,k,n,b,⟨kx,bx,nx⟩,r,m,rfl,W,hm,q⟩:=h
  nomatch (aG (aL (uE 3e16)) (pss3 0e51 0e51 (pif (ptc aS (pix aK 9e27 aB) aC) (aH (aL (pmt0 pv0 T.cZ (hJ T) T.gA)))))),0
  obtain⟨vs,eb,hB⟩:=W.bl;have n1:wk≠ln:=cL W.ins W.nu 8e0;have n2:wk≠lb:=cL W.ins eb 8e0;obtain⟨ws,p,us,rfl,ep,hU,hBr,_⟩:=hB.last;have hB2:=hBr 0e0;have nu0:H ln=some 9e43:=by rw[W.nu,rR];simp
  have X0:=W.X0;simp only[Η] at X0;left
  exists W.ins,eb,rL,List.dropLast_concat
  have T1:=aE.dJ (ys:=ws) eb;have i1:Wk H lb 3e11 wk=some 1e26:=by rw[aD n2];exact W.ins
  have i2:Wk H lb 3e11 ln=some 9e43:=by rw[aD W.ne.symm];exact nu0
  have i3:Wk H lb 3e11 lb=some 3e11:=aA;have K1:Kp [lb] H (Wk H lb 3e11):=Kp.jQ;have B1:=hB2.kp T1;generalize Wk H lb 3e11=G at *;right;left
  exists i1,i2,rL,List.dropLast_concat
  have T2:=aE.dJ (ys:=(cO 1e9).map V.int++[.int kx]) i2;have j1:Wk G ln (.lst 2e9) wk=some 1e26:=by rw[aD n1];exact i1
  have j2:Wk G ln (.lst 2e9) ln=some (.lst 2e9):=aA;have j3:Wk G ln (.lst 2e9) lb=some 3e11:=by rw[aD W.ne];exact i3
  have K2:Kp [ln] G (Wk G ln (.lst 2e9)):=Kp.jQ;have B2:=B1.kp T2;generalize Wk G ln (.lst 2e9)=G2 at *;right;left
  exists j1,j2,rL,List.dropLast_concat
  have T3:=aE.dJ (ys:=(cO 1e9).map V.int) j2;have W3:jR t.aQ (Wk G2 ln 5e19) wk wx lb ln 1e9:=⟨by rw[aD n1];exact j1,⟨ws,by rw[aD W.ne];exact j3,B2.kp T3⟩,aA,W.ne,by simp only[Η];omega⟩;have K3:Kp [ln] G2 (Wk G2 ln 5e19):=Kp.jQ;generalize Wk G2 ln 5e19=G3 at *;right;have K13:Kp [lb,ln] H G3:=((K1.mono 0e0).trans (K2.mono 0e0)).trans (K3.mono 0e0)
  exists W3.ins
  refine⟨wk,wx,lb,ln,k,n,b,r,m,rfl,W3,hm,fun v hv=>?_⟩;obtain⟨a,kd,xs,rfl,ea,hk⟩:=hv.TZ
  exists ea
  by_cases hi:m.Bl=true
  ·rw[hi] at hk q;have hkd:kd = "if":=by simpa using hk
   subst hkd
   exists W3.ins
   exact⟨wk,wx,lb,ln,k,n,b,r,rfl,W3,fun H4 W4 K4=>q H4 W4 (K13.trans (K4.mono 0e0))⟩
  ·have ZR:m.Bl=false:=by simpa using hi
   rw[ZR] at hk q;have hkd:(kd = "if")=False:=by simpa using hk
   exists hkd
   exact q G3 W3 K13
theorem zG:Ok T T.mL 3 (DO t.aQ):=by
 nomatch T.mL
 ·obtain⟨wk,wx,lb,ln,st,rfl,_⟩:=h;rfl
 ·obtain⟨wk,wx,lb,ln,st,rfl,W0,ok0,q0,q1⟩:=h
  nomatch (pss2 (qM Γ4 (ptc aS (pix aK 6e15 9e5) (bG cN rfl T.l7 fF (pa1 (pix aK 3e16 9e5)))) (pss2 (pif (ptc aS (bG cN rfl T.l7 fF (pa1 3e16)) aB) 6e22) (aL (pmt0 pv0 T.cZ (Bv T) T.oY)))) (aJ 9e27)),0
  obtain⟨Y,hV⟩:∃ Y:Nat->St->Hp->Prop,∀ m σ G,Y m σ G = ∃ WN:Stk,σ=[some (.ref wk)]/\jR t.aQ G wk wx lb ln WN/\zQ WN/\bO WN=bO st/\m=WN.length/\Kp [lb,ln] H G:=⟨_,fun _ _ _=>rfl⟩
  try simp only[L2.start,ϓ,List.map_nil,Η,ϑ,Nat.reduceAdd,Nat.reduceSub,List.replicate_zero,ϝ]
  refine⟨Y,⟨st.length,?_⟩,?_⟩
  ·rw[hV];exact⟨st,rfl,W0,ok0,rfl,rfl,Kp.refl⟩
  intro m σ G hG;rw[hV] at hG;obtain⟨WN,rfl,W,ok,hct,rfl,KG⟩:=hG;have back:∀(X6:Stk) (G2:Hp),jR t.aQ G2 wk wx lb ln X6->zQ X6->bO X6=bO st->X6.length < WN.length->Kp [lb,ln] H G2->∃ m',m' < WN.length/\Y m' [some (.ref wk)] G2:=fun X6 G2 a b c d e=>by
   refine⟨X6.length,d,?_⟩;rw[hV];exact⟨X6,rfl,a,b,c,rfl,e⟩
  clear hV
  match WN,ok with
  | (k,b,n)::r,ok =>
   obtain⟨vs,eb,hB⟩:=W.bl;obtain⟨ws,p,us,rfl,ep,hU,hBr,hBn⟩:=hB.last;obtain⟨l,el,_⟩:=rQ k n b r;have en:=W.nu;rw[el] at en;have i1:gI 9e48 (-1)=some 3e4:=j4 _ _;have i2:gI 3e28 (-1)=some 1e33:=by rw[Α7];exact j4 _ _
   have lu:=hU.len;have lw:=hB.len
   exists W.ins,eb,en,i1,i2,ep
   by_cases hn:n=b.length
   ·rw[if_pos 1e0]
    exists W.ins,eb,en
    refine⟨fun σ' G'=>∃ m',m' < r.length+1/\Y m' σ' G',fun _ _ z=>z,?_⟩
    match r,ok,W,hct,back,hBn,lw with
    | [],ok,W,hct,back,hBn,lw =>
     have e0:bO st=[(k,b,n)]:=by rw[<- hct];simp[bO]
     rw[if_pos (by have:=lw.1;simp only[Η,ϑ] at this;omega)];exact q0 G 7e46 1e46 (by rw[e0];simp[Wr,hn]) KG
    | (k2,b2,n2)::r,ok,W,hct,back,hBn,lw =>
     rw[if_neg (by have:=lw.1;simp only[Η] at this;omega)];have h2:n2 < b2.length:=ok.2 (k2,b2,n2) 0e0;have hm:b2[n2]?=some b2[n2]:=ϕ h2;have ho:oJ b2 n2=if (b2[n2]).Bl=true then n2+1 else n2:=by unfold oJ;rw[hm]
     refine⟨wk,wx,lb,ln,k2,n2,b2,(k,b,n),r,b2[n2],rfl,W,hm,fun H' W' K'=>?_⟩;rw[<- ho] at W';refine back _ H' W' ⟨C8 h2,fun x hx=>ok.2 x (ϔ _ hx)⟩ ?_ 0e0 (Kp.trans KG K');rw[<- hct]
     conv=>rhs;rw[bO]
     rw[if_pos hn]
   ·rw[if_neg 1e0];have h2:n < b.length:=by have:=ok.1;omega
    have hm:b[n]?=some b[n]:=ϕ h2;have e0:bO st=(k,b,n)::r:=by
     rw[<- hct];cases r with
     | nil=>simp[bO]
     | cons x r=>obtain⟨k2,b2,n2⟩:=x;simp[bO,hn]
    exact⟨wk,wx,lb,ln,k,n,b,r,b[n],rfl,W,hm,fun v hv=>q1 b[n] v G 7e46 1e46 (by rw[e0];exact hm) hv KG⟩
theorem jL:Ok T T.fM 1 (Hf t.aI):=by
 nomatch T.fM
 ·obtain⟨tk,tx,dp,da,made,pend,ans,rfl,_⟩:=h;rfl
 ·obtain⟨tk,tx,dp,da,made,pend,ans,rfl,R,q⟩:=h
  nomatch (aH (aL (IC 4e16))),0
  exists R.ins,R.hp
  have n1:=R.n1;exact q _ ⟨by rw[aD n1.1];exact R.ins,aA,by rw[aD R.nda.symm];exact R.ha,R.nda,by simp,.nil,R.la,by simp,R.small⟩ Kp.jQ
theorem Ai:Ok T T.tU 2 (LV ⟨t.aP,t.aQ,t.aI⟩):=by
 nomatch T.tU
 ·obtain⟨R,as,sl,S,w,rfl,_⟩:=h;rfl
 ·obtain⟨R,as,sl,S,w,rfl,A,q⟩:=h
  nomatch (pss3 (dA T.aU T.dX pv0 2e21) 4e39 (aJ (aM (pa1 2e21)))),0
  left
  exists A.ins
  refine fun p hp=>?_;have N1:=q0D (o:=.tup [.str "ended",wv w]) hp;have e1:Wk H p 2e28 p=some 2e28:=aA;have A1:=A.kp N1
  exists N1.at A.ins
  have A2:=A1.attr 3e4 (.ended w) S.ar S.nw ⟨p,rfl,e1⟩;have F2:=(Fw.of (R:=R) (as:=as) N1).trans (Fw.set (p:=R.x) (o:=9e19) 8e1);generalize Wk (Wk H p 2e28) R.x 9e19=G2 at *;right;left
  exists A2.ins,A2.tk.ins
  refine⟨R.tk,R.tx,R.dp,R.da,_,_,_,rfl,A2.tk,fun H3 T3 K3=>?_⟩;have K4:Kp [R.tk,R.dp,R.da] G2 H3:=K3.mono 1e16
  have A3:=A2.tick T3 K4;have F3:=F2.trans 0e52;wp_walk;right;wp_walk;refine fun p3 h3 c h4=>?_;have N3:=(q0D (o:=.tup [.str "end",wv w]) h3).trans 3e9;exact q _ c [.ref p3] _ 2e32 3e30 aA 5e9 1e29
theorem zF:Ok T T.mK 2 (L7 ⟨t.aP,t.aQ,t.aI⟩):=by
 nomatch T.mK
 ·obtain⟨R,as,sl,S,rfl,_⟩:=h;rfl
 ·obtain⟨R,as,sl,S,rfl,A,q⟩:=h
  nomatch (pss3 (dA T.aU T.dX pv0 9e7) 4e39 (aJ (aM (pa1 9e7)))),0
  left
  exists A.ins
  refine fun p hp=>?_;have N1:=q0D (o:=.tup [.str "worn"]) hp;have e1:Wk H p 0e16 p=some 0e16:=aA;have A1:=A.kp N1
  exists N1.at A.ins
  have A2:=A1.attr 3e4 (.worn) S.ar S.nw ⟨p,rfl,e1⟩;have F2:=(Fw.of (R:=R) (as:=as) N1).trans (Fw.set (p:=R.x) (o:=9e19) 8e1);generalize Wk (Wk H p 0e16) R.x 9e19=G2 at *;right;left
  exists A2.ins,A2.tk.ins
  refine⟨R.tk,R.tx,R.dp,R.da,_,_,_,rfl,A2.tk,fun H3 T3 K3=>?_⟩;have K4:Kp [R.tk,R.dp,R.da] G2 H3:=K3.mono 1e16
  have A3:=A2.tick T3 K4;have F3:=F2.trans 0e52;wp_walk;right;wp_walk;refine fun p3 h3 c h4=>?_;have N3:=(q0D (o:=.tup [.str "worn"]) h3).trans 3e9;exact q _ c [.ref p3] _ 2e32 3e30 aA 5e9 1e29
theorem mT:Ok T T.kF 1 Pr:=by
 nomatch T.kF
 ·obtain⟨w,rfl,_⟩:=h;rfl
 ·obtain⟨w,rfl,q⟩:=h
  nomatch (aH (aJ (qL (ptc mW pv0 cG) aB pv0))),0
  exists Fv
  cases w with
  | none=>exact q
  | some n=>exact q
theorem uA:Ok T T.Aa 1 Fe:=by
 nomatch T.Aa
 ·obtain⟨n,rfl,_⟩:=h;rfl
 ·obtain⟨n,rfl,q⟩:=h
  nomatch (aH (aJ (bG 5e11 rfl T.zP mE (pa2 (fH dS 3e36) (bG 4e24 rfl T.Ja AO (pa2 3e36 pv0)))))),0
  wp_walk;exact q
theorem jB:Ok T T.gO 1 Pt:=by
 nomatch T.gO
 ·obtain⟨b,rfl,_⟩:=h;rfl
 ·obtain⟨b,rfl,q⟩:=h
  nomatch (aH (aJ (qL (jW pv0) aB aB))),0
  wp_walk;cases b<;>exact q
theorem Iy:Ok T T.Bc 2 DH:=by
 nomatch T.Bc
 ·obtain⟨g,a,b,rfl,_⟩:=h;rfl
 ·obtain⟨g,a,b,rfl,ha,q⟩:=h
  nomatch (aG (pif 8e21 (aH (aJ (pcl (jB T) T.gO (pa1 (pcr aS pv1 pv2)))))) (aG (pst 3 (pcl (mT T) T.kF 1e6)) (aG (pst 4 (pcl (mT T) T.kF 0e11)) (aG (pif 8e21 (aH (aJ (pcl (jB T) T.gO (pa1 (pcr jN pv3 pv4)))))) (pss3 (pif 8e21 (aH (aJ (pcl (uA T) T.Aa (pa1 (bC cI pv3 pv4)))))) (pif 8e21 (aH (aJ (pcl (uA T) T.Aa (pa1 (bC jC pv3 pv4)))))) (aJ (pcl (uA T) T.Aa (pa1 (bC pC pv3 pv4))))))))),0
  have b1:=wI ha;cases g with
  | eq =>
   exists Sg.s
   have sc0:Xo .Wl .Wl=true:=rfl;have sc1:∀ i,Xo .Wl 3e33=true:=fun _=>rfl;have sc2:∀ i,Xo 3e33 .Wl=true:=fun _=>rfl;have sc3:∀ i j,Xo 3e33 2e33=true:=fun _ _=>rfl;cases a with
   | none=>cases b with
    | none=>simpa[Mt,sc0,sc1,sc2,sc3,wv,Dt,Sg.of] using q
    | some n=>simpa[Mt,sc0,sc1,sc2,sc3,wv,Dt,Sg.of] using q
   | some m=>cases b with
    | none=>simpa[Mt,sc0,sc1,sc2,sc3,wv,Dt,Sg.of] using q
    | some n=>simpa[Mt,sc0,sc1,sc2,sc3,wv,Dt,Sg.of] using q
  | lt =>
   exists Sg.s,Δ9
   exact q
  | add =>
   exists Sg.s
   exact q
  | sub =>
   exists Sg.s
   exact q
  | mul =>
   exists Sg.s
   exact⟨GF 1e0 1e0,q⟩
theorem Fi{d:Nat}(hn:3<=n)(IH:fS P w K mg base Xq n t.uV t.vN ["saying","names","arg","now","answers"] (OF d)):Ok T T.mO (n+1) (OF (d+1)):=by
  nomatch T.mO
  · obtain⟨v,dn,da,p,s,rfl,_⟩:=h;rfl
  · obtain⟨v,dn,da,p,s,rfl,hS,hd,Ws,hN,hA,hP,q⟩:=h;have hu:=oF hr
    nomatch (aG (pst 5 3e2) (aG (pif 7e5 2e51) (aG (pif 7e5 6e22) (aG (pif 7e5 (aH (aJ (uD hu pv1 3e2 ⟨rfl,rfl,rfl,rfl⟩)))) (aG (pif 7e5 (aH 4e18)) (aG (pif 7e5 (aH (aJ (pcl (uA T) T.Aa 6e23)))) (aG (pst 6 7e35) (aG (pif 7e5 (aH (aJ (uD hu pv4 pv6 ⟨rfl,rfl,rfl,rfl⟩)))) (pss3 (pif 7e5 (aH (aJ (pcl (jB T) T.gO (pa1 (pcr aS (pcl (mT T) T.kF (pa1 pv6)) aB)))))) (pst 7 7e35) (aJ (pcl (Iy T) T.Bc (pa3 pv5 pv6 pv7)))))))))))),0
    cases hS with
    | num e =>
      exists e
      exact q
    | Wl e =>
      exists e
      exact q
    | name e =>
      obtain⟨kvs,ek,hk⟩:=hN
      exists e,ek,hk
      exact q
    | arg e =>
      exists e
      exact q
    | now e =>
      exists e
      exact q
    | ans e h1 =>
      exists e
      simp only[Say.depth] at hd;refine⟨_,_,_,p,_,rfl,h1,by omega,Ws,hN,hA,hP,?_⟩;obtain⟨kvs,ek,hk⟩:=hA
      exists e,ek,hk
      exact q
    | neg e h1 =>
      exists e
      simp only[Say.depth] at hd;refine⟨_,_,_,p,_,rfl,h1,by omega,Ws,hN,hA,hP,?_⟩
      exists e,Δ9
      exact q
    | @two a v u g s1 s2 e h1 h2 =>
      simp only[Say.depth] at hd;cases g <;>
      ( exists e,Sg.s
        refine⟨_,_,_,p,_,rfl,h1,by omega,Ws.1,hN,hA,hP,?_⟩
        exists e,Sg.s
        refine⟨_,_,_,p,_,rfl,h2,by omega,Ws.2,hN,hA,hP,?_⟩
        exists e,Sg.s
        exact⟨_,_,_,rfl,Gi hP Ws.1,q⟩)
theorem E1(T:Tx P w base K mg t):∀ d,fS P w K mg base Xq (d+3) t.uV t.vN ["saying","names","arg","now","answers"] (OF d):=by
 intro d
 induction d with
 | zero=>exact⟨fun _ _ _ _ x=>by (obtain⟨_,_,_,_,s,_,_,h,_⟩:=x;exact absurd h (by have:=s.nL;omega)),fun _ _ _ _ _ _ _ _ _ _ _ _ _ x=>by (obtain⟨_,_,_,_,s,_,_,h,_⟩:=x;exact absurd h (by have:=s.nL;omega))⟩
 | succ d ih=>exact Fi T 1e0 ih
theorem dO:Ok T T.dM 10 (DQ ⟨t.aP,t.aQ,t.aI⟩):=by
 nomatch T.dM
 ·obtain⟨R,as,sl,S,v,s,rfl,_⟩:=h;rfl
 ·obtain⟨R,as,sl,S,v,s,rfl,A,ok,hS,so,q⟩:=h
  nomatch (aH (aJ (pcl (E1 T 6) T.mO (eY pv1 (eY 7e12 (pa3 (aN T.aU T.CW pv0) 0e21 (aN T.bI T.gX 6e5))))))),0
  exists A.ins,A.tk.ins
  exact⟨v,R.nm,R.da,S.pl,s,rfl,hS,so.2,so.1,⟨_,A.nm,qD S.nm⟩,⟨_,A.tk.ha,pM S.ans⟩,ok,q⟩
theorem qF:Ok T T.k5 2 (sG t.aQ):=by
 nomatch T.k5
 ·obtain⟨wk,wx,lb,ln,k,n,c,b,bb,r,m,rfl,_⟩:=h;rfl
 ·obtain⟨wk,wx,lb,ln,k,n,c,b,bb,r,m,rfl,W,hm,hs,aa7,q⟩:=h
  nomatch (pss2 (aL (c9 3e16 (pix aK 9e27 (bC cI aB pv1)))) (aL (m4 PySem.F.slot_list_extend PySem.F.type_list_extend t8 6e15 (pa1 (aM (pa2 pv1 aB)))))),0
  obtain⟨vs,eb,hB⟩:=W.bl;have n1:wk≠ln:=cL W.ins W.nu 8e0;have n2:wk≠lb:=cL W.ins eb 8e0;have lv:=hB.len
  exists W.ins,eb
  refine⟨wk,wx,lb,ln,k,n,b,r,m,rfl,W,hm,fun v hv=>?_⟩;obtain⟨a,p,xs,us,rfl,ea,hat,ep,hU⟩:=hv.subAt hs
  exists ea,hat,eb
  have lf:=W.X0;simp only[Η] at lv lf;refine⟨by omega,?_⟩;have T1:=aE.dJ (ys:=vs++[V.ref p]) eb;have i1:Wk H lb 5e12 wk=some 1e26:=by rw[aD n2];exact W.ins
  have i2:Wk H lb 5e12 ln=some 5e19:=by rw[aD W.ne.symm];exact W.nu
  have i3:Wk H lb 5e12 lb=some 5e12:=aA;have K1:Kp [lb] H (Wk H lb 5e12):=Kp.jQ;have B1:=hB.kp T1;have U1:=hU.kp T1;have p1:=T1 _ _ ep;generalize Wk H lb 5e12=G at *
  exists i1,i2
  refine fun l0 f0=>?_;have N0:=q0D (o:=.lst [.int c,.int 0]) f0
  exists N0.at i2,Δ
  have ll:=C6 1e9;simp only[Η] at ll;refine⟨by omega,?_⟩;have nl0:ln≠l0:=aF i2 f0;have nb0:lb≠l0:=aF i3 f0;have nw0:wk≠l0:=aF i1 f0;have T2:aE G (Wk (Wk G l0 (.lst [.int c,.int 0])) ln (.lst ((cO 1e9).map V.int++[.int c,.int 0]))):=(aE.nil N0).tr (aE.dJ (N0.at i2));refine q _ ⟨by rw[aD n1,aD nw0];exact i1,⟨_,by rw[aD W.ne,aD nb0];exact i3,.cons (B1.kp T2) (T2 _ _ p1) (U1.kp T2)⟩,by rw[aA,rR];simp,W.ne,by simp only[Η];omega⟩ ?_;intro d o ed nd;simp only[Α,Γ,Τ,not_or] at nd;have g1:=K1.Wx ed nd.1;rw[aD nd.2,aD (aF g1 f0)];exact g1
theorem EW:Ok T T.vS 11 (Hb ⟨t.aP,t.aQ,t.aI⟩ true):=by
 nomatch T.vS
 ·obtain⟨R,as,sl,S,a,m,N,rfl,_⟩:=h;rfl
 ·obtain⟨R,as,sl,S,a,m,N,rfl,A,hs,hB,F,g,WD,q⟩:=h
  nomatch (aH (fI (dQ rY 4e7 (bB (pa2 cG aB)) 1e2) 8e36 (aH (fI (ptc aS 3e0 aC) 8e36 (aH 2e26))))),0
  obtain⟨k0,b0,n0,r0,XW,hm0⟩:=fX WD;have d0:=F.sk.dp;rw[XW] at d0;have aa7:r0.length<=90:=by have:=d0.1;omega
  have enter:∀(G:Hp) (_:a9 ⟨t.aP,t.aQ,t.aI⟩ G R as sl S) (_:Fw R as as H G) (c:Nat) (bb:List Stm),m.sub c=some bb->(∀ H',a9 ⟨t.aP,t.aQ,t.aI⟩ H' R as sl (S.enter c bb)->Fw R as as H H'->Q .Wl H')->sG t.aQ [.ref R.wk,.int (c:Int)] G 6e45 E0:=fun G A FG c bb aaL q=>by
   have W:=A.wk;rw[XW] at W;refine⟨R.wk,R.wx,R.lb,R.ln,k0,n0,c,b0,bb,r0,m,rfl,W,hm0,aaL,aa7,fun H1 W1 K1=>?_⟩;rw[<- XW] at W1;exact q H1 (A.walk W1 K1) (FG.trans (A.vY W1 K1))
  have pass:∀(G:Hp) (_:a9 ⟨t.aP,t.aQ,t.aI⟩ G R as sl S) (_:Fw R as as H G),(∀ H',a9 ⟨t.aP,t.aQ,t.aI⟩ H' R as sl S.pass->Fw R as as H H'->Q .Wl H')->qU t.aQ [.ref R.wk] G 6e45 E0:=fun G A FG q=>by
   have W:=A.wk;rw[XW] at W;refine⟨R.wk,R.wx,R.lb,R.ln,k0,n0,b0,r0,rfl,W,fun H1 W1 K1=>?_⟩;have e:(k0,b0,n0+1)::r0=fW S.stk:=by rw[XW];rfl
   rw[e] at W1;exact q H1 (A.walk W1 (K1.mono 0e0)) (FG.trans (A.vY W1 (K1.mono 0e0)))
  cases hs with
  | @WH a p v s vs b e1 h1 e2 h2 =>
   simp only[i9] at q
   exists A.ins,e1
   refine⟨R,as,sl,S,v,s,rfl,A,F.pl,h1,g.1,?_⟩
   exists A.ins,A.wk.ins,e1
   refine fun p0 h0=>⟨uL _,flat01,?_⟩;rw[Ae];have N0:=q0D (o:=.tup [.Wl,.int 0]) h0;have A0:=A.kp N0;have e0:=N0.at e1;have F0:=Fw.of (R:=R) (as:=as) N0;generalize Wk H p0 9e46=G0 at *;by_cases hw:num 9e1=0
   ·rw[if_pos hw] at q;rw[decide_eq_true hw]
    exists A0.ins,A0.wk.ins,e0
    exact pass G0 A0 F0 q
   ·rw[if_neg hw] at q;rw[Β4 hw]
    exists A0.ins,A0.wk.ins,e0
    exact enter G0 A0 F0 0 b rfl q
  | @iff a p p2 v s vs us b o e1 h1 e2 h2 e3 h3 =>
   simp only[i9] at q
   exists A.ins,e1
   refine⟨R,as,sl,S,v,s,rfl,A,F.pl,h1,g.1,?_⟩
   exists A.ins,A.wk.ins,e1
   refine fun p0 h0=>⟨uL _,flat01,?_⟩;rw[Ae];have N0:=q0D (o:=.tup [.Wl,.int 0]) h0;have A0:=A.kp N0;have e0:=N0.at e1;have F0:=Fw.of (R:=R) (as:=as) N0;generalize Wk H p0 9e46=G0 at *;by_cases hw:num 9e1=0
   ·rw[if_pos hw] at q;rw[decide_eq_true hw]
    exists A0.ins,A0.wk.ins,e0
    exact enter G0 A0 F0 1 o rfl q
   ·rw[if_neg hw] at q;rw[Β4 hw]
    exists A0.ins,A0.wk.ins,e0
    exact enter G0 A0 F0 0 b rfl q
  | _=>cases hB
theorem Lj:Ok T T.Ba 11 6e34:=by
 nomatch T.Ba
 ·obtain⟨R,as,sl,S,a,m,N,rfl,_⟩:=h;rfl
 ·obtain⟨R,as,sl,S,a,m,N,rfl,A,WC,hs,⟨x,s,rfl⟩,F,g,hN,q⟩:=h
  nomatch (pss2 (ppt 7e12 3e0 4e7) (aJ 7e0)),0
  cases hs with
  | @set a x v s e1 h1 =>
   have l1:(fA S.nm).length<=N:=by rw[fA,Δ];exact F.nm
   left
   exists A.ins,e1
   refine⟨R,as,sl,S,v,s,rfl,A,F.pl,h1,g,?_⟩
   exists A.ins,e1,A.nm,fP
   refine⟨by omega,?_⟩;have A1:=A.name x 9e1;have F1:=Fw.set (R:=R) (as:=as) (H:=H) (o:=.dK 5e29) (p:=R.nm) 8e1;generalize Wk H R.nm (.dK 5e29)=G1 at *;right;wp_walk;refine fun c hc=>?_;have N4:=q0D (o:=.lst []) hc;exact q _ c [] _ 4e6 7e2 aA .nil 5e4
theorem w8:Ok T T.kZ 1 (DJ t.aI):=by
 nomatch T.kZ
 ·obtain⟨tk,tx,dp,da,made,pend,ans,rfl,_⟩:=h;rfl
 ·obtain⟨tk,tx,dp,da,made,pend,ans,rfl,R,hm,hl,q⟩:=h
  nomatch (aG (pst 1 (aN T.bI T.wU pv0)) (pss3 (Ol T.bI T.wU pv0 aB) (ppt 4e16 pv1 iN) (aJ pv1))),0
  exists R.ins
  have n1:=R.n1;have nk:(made:Int)∉pend:=fun z=>by have:=R.lt _ z;omega
  exists aD n1.1.symm,R.hp,xM (.bl true) (IF nk)
  refine⟨by simp only[jE,Δ];omega,?_⟩;refine q _ ⟨by rw[aD n1.1];exact aA,by rw[aA];simp[jE],by rw[aD R.nda.symm,aD n1.2.symm];exact R.ha,R.nda,fun i hi=>?_,?_,fun p hp=>?_,fun p hp z=>?_,by omega⟩ ?_
  ·rcases Κ.mp hi with hi|hi
   ·have:=R.lt i hi;omega
   ·rw[show i=(made:Int) by simpa using hi];omega
  ·refine Ε3.mpr ⟨R.asc,by simp,fun i hi j hj=>?_⟩;rw[show j=(made:Int) by simpa using hj];exact(R.lt i hi).2
  ·have:=R.la p hp;omega
  ·rcases Κ.mp z with z|z
   ·exact R.dis p hp z
   ·have:=R.la p hp;rw[show p.1=(made:Int) by simpa using z] at this;omega
  ·intro b o eb nb;simp only[Α,Γ,Τ,not_or] at nb;rw[aD nb.2,aD nb.1];exact eb
theorem lR:Ok T T.hE 2 (LY ⟨t.aP,t.aQ,t.aI⟩):=by
 nomatch T.hE
 ·obtain⟨R,as,sl,S,n,rfl,_⟩:=h;rfl
 ·obtain⟨R,as,sl,S,n,rfl,A,b1,b2,b3,q⟩:=h
  nomatch (pss3 (pst 2 (pmt0 6e5 T.bI (w8 T) T.kZ)) (ppt 7e12 pv1 pv2) 4e18),0
  left
  exists A.ins,A.tk.ins
  refine⟨R.tk,R.tx,R.dp,R.da,S.made,S.pend,S.ans,rfl,A.tk,b1,b2,fun H1 T1 K1=>?_⟩;have K2:Kp [R.tk,R.dp,R.da] H H1:=K1.mono 1e16
  have A1:=A.tick T1 K2;have F1:=A.CC T1 K2;wp_walk;right;left;have ep:aO 4e32 (.inr n) 0e47=fA (bT S.nm n 5e7):=fP S.nm n 5e7;have l1:(fA S.nm).length<=1000000:=by rw[fA,Δ];exact b3
  exists A1.ins,A1.nm,ep
  refine⟨by omega,?_⟩;have A2:=A1.name n 5e7;have F2:=F1.trans (Fw.set (R:=R) (as:=as) (H:=H1) (o:=.dK 7e45) (p:=R.nm) 8e1);generalize Wk H1 R.nm (.dK 7e45)=G2 at *;right;wp_walk;exact q G2 A2 F2
theorem w9:Ok T T.j9 11 4e25:=by
 nomatch T.j9
 ·obtain⟨R,as,sl,S,a,m,N,rfl,_⟩:=h;rfl
 ·obtain⟨R,as,sl,S,a,m,N,rfl,A,WC,hs,⟨x,y,s,hm⟩,F,g,hN,q⟩:=h
  nomatch (pss3 (pst 2 4e7) (pst 3 4e38) (aJ (aM (pa1 (bB (eY 3e0 (pa3 pv3 3e0 pv2))))))),0
  rcases hm with rfl|rfl
  ·cases hs with
   | @order a x y v s e1 h1 =>
    left
    exists A.ins,e1
    refine⟨R,as,sl,S,v,s,rfl,A,F.pl,h1,g,?_⟩;wp_walk;right;left
    exists A.ins,e1
    refine⟨R,as,sl,S,x,rfl,A,by have:=F.md;omega,by have:=F.pd;omega,by have:=F.nm;omega,fun H1 A1 F1=>?_⟩;have e2:=A.tkp F1 _ _ e1;wp_walk;right
    exists e2
    refine fun p3 h3 c h4=>?_;have N3:=(q0D (o:=.tup [.str "order",.int S.made,.str y,wv 9e1]) h3).trans 3e9;exact q _ c [.ref p3] _ 3e32 3e21 aA 5e9 6e20
  ·cases hs with
   | @child a x y v s e1 h1 =>
    left
    exists A.ins,e1
    refine⟨R,as,sl,S,v,s,rfl,A,F.pl,h1,g,?_⟩;wp_walk;right;left
    exists A.ins,e1
    refine⟨R,as,sl,S,x,rfl,A,by have:=F.md;omega,by have:=F.pd;omega,by have:=F.nm;omega,fun H1 A1 F1=>?_⟩;have e2:=A.tkp F1 _ _ e1;wp_walk;right
    exists e2
    refine fun p3 h3 c h4=>?_;have N3:=(q0D (o:=.tup [.str "child",.int S.made,.str y,wv 9e1]) h3).trans 3e9;exact q _ c [.ref p3] _ 3e32 3e21 aA 5e9 6e20
theorem EY:Ok T T.pV 11 7e34:=by
 nomatch T.pV
 ·obtain⟨R,as,sl,S,a,m,N,rfl,_⟩:=h;rfl
 ·obtain⟨R,as,sl,S,a,m,N,rfl,A,WC,hs,⟨x,s,rfl⟩,F,g,hN,q⟩:=h
  nomatch (aG (pst 2 4e7) (pss3 (pst 3 (bG 4e24 rfl T.Ja AO (pa2 (qK (v:=.int 1000000000000) rfl T.tK ⟨_,rfl⟩) (qL (ptc mW pv2 cG) 0e21 (bC cI 0e21 (bG 5e11 rfl T.zP mE (pa2 aB pv2))))))) (pst 4 4e38) (aJ (aM (pa1 (bB (pa3 aC pv4 pv3))))))),0
  cases hs with
  | @Wy a x v s e1 h1 =>
   left
   exists A.ins,e1
   refine⟨R,as,sl,S,v,s,rfl,A,F.pl,h1,g,?_⟩;wp_walk;right;refine bW fun R2 Xi=>?_
   exists A.ins,Fv
   have rest:R2 [some 6e53,some (V.ref a),some (wv 9e1),some (V.int (mJ S.nw 9e1)),none] H:=by
    refine Xi _ _ ?_;left
    exists A.ins,e1
    refine⟨R,as,sl,S,x,rfl,A,by have:=F.md;omega,by have:=F.pd;omega,by have:=F.nm;omega,fun H1 A1 F1=>?_⟩;wp_walk;right;wp_walk;refine fun p3 h3 c h4=>?_;have N3:=(q0D (o:=.tup [.str "timer",.int S.made,.int (mJ S.nw 9e1)]) h3).trans 3e9;exact q _ c [.ref p3] _ 3e32 3e21 aA 5e9 6e20
   cases hw:S.worth s with
   | none =>
    rw[hw] at rest;rw[if_pos rfl];exact rest
   | some z =>
    rw[hw] at rest;rw[if_neg 0e0]
    exists wv
    exact rest
theorem Iv:Ok T T.tX 11 3e34:=by
 nomatch T.tX
 ·obtain⟨R,as,sl,S,a,m,N,rfl,_⟩:=h;rfl
 ·obtain⟨R,as,sl,S,a,m,N,rfl,A,WC,hs,⟨s,k,r,rfl⟩,F,g,hN,q⟩:=h
  nomatch (aH (aJ (aM (pa1 (bB (eY aC (pa3 4e7 3e0 4e7))))))),0
  cases hs with
  | @send a k v u s r e1 h1 h2 =>
   exists A.ins,e1
   refine⟨R,as,sl,S,v,s,rfl,A,F.pl,h1,g.1,?_⟩
   exists A.ins,e1
   refine⟨R,as,sl,S,u,r,rfl,A,F.pl,h2,g.2,?_⟩;wp_walk;have F1:Fw R as as H H:=Fw.refl;refine fun p3 h3 c h4=>?_;have N3:=(q0D (o:=.tup [.str "send",wv 9e1,.str k,wv 8e35]) h3).trans 3e9;exact q _ c [.ref p3] _ (A.kp N3) 3e21 aA 5e9 6e20
theorem mS:Ok T T.iP 1 (DL t.aI):=by
 nomatch T.iP
 ·obtain⟨tk,tx,dp,da,made,pend,ans,i,rfl,_⟩:=h;rfl
 ·obtain⟨tk,tx,dp,da,made,pend,ans,i,rfl,R,hi,q⟩:=h
  nomatch (aH (aL (Lu 4e16 pv1 ⟨rfl,rfl,rfl,rfl⟩))),0
  obtain⟨v,hv⟩:=IG hi
  exists R.ins,R.hp,hv,ID
  have n1:=R.n1;exact q _ ⟨by rw[aD n1.1];exact R.ins,aA,by rw[aD R.nda.symm];exact R.ha,R.nda,fun j hj=>R.lt j 8e16,R.asc.filter _,R.la,fun p hp z=>R.dis p hp ((Ϛ.mp z).1),R.small⟩ Kp.jQ
theorem Ir:Ok T T.tV 11 9e34:=by
 nomatch T.tV
 ·obtain⟨R,as,sl,S,a,m,N,rfl,_⟩:=h;rfl
 ·obtain⟨R,as,sl,S,a,m,N,rfl,A,WC,hs,⟨s,rfl⟩,F,g,hN,q⟩:=h
  nomatch (aG (pst 2 4e7) (pss3 (pif (sD (jW (pmt 6e5 T.bI (gY T) T.dY 0e11))) 1e51) (aL (pmt 6e5 T.bI (mS T) T.iP 0e11)) (aJ (aM (pa1 (bB (pa2 aC pv2))))))),0
  cases hs with
  | @drop a v s e1 h1 =>
   left
   exists A.ins,e1
   refine⟨R,as,sl,S,v,s,rfl,A,F.pl,h1,g,?_⟩;wp_walk;right;left
   exists A.ins,A.tk.ins
   refine⟨R.tk,R.tx,R.dp,R.da,_,_,_,S.worth s,rfl,A.tk,?_⟩;by_cases hp:∃ i,i∈S.pend/\S.worth s=some i
   ·rw[decide_eq_true hp];obtain⟨i,hi,hw⟩:=hp;have hwv:wv 9e1=.int i:=by rw[hw];rfl
    have hd:bL S 2e18=({S with pend:=S.pend.filter fun j=>decide 8e8},[[.str "drop",.int i]]):=by simp only[bL,hw,if_pos hi]
    rw[hd] at q;wp_walk;right;left
    exists A.ins,A.tk.ins,hwv
    refine⟨R.tk,R.tx,R.dp,R.da,_,_,_,i,rfl,A.tk,hi,fun H3 T3 K3=>?_⟩;have K4:Kp [R.tk,R.dp,R.da] H H3:=K3.mono 1e16
    have A3:=A.tick T3 K4;have F3:=A.CC T3 K4;wp_walk;right;wp_walk;refine fun p3 h3 c h4=>?_;have N3:=(q0D (o:=.tup [.str "drop",.int i]) h3).trans 3e9;exact q _ c [.ref p3] _ 2e32 3e30 aA 5e9 1e29
   ·rw[Β4 hp];have hd:bL S 2e18=(S,[]):=by
     cases hw:S.worth s with
     | none=>simp only[bL,hw]
     | some i=>simp only[bL,hw,if_neg (show ¬ i∈S.pend from fun z=>hp ⟨i,z,hw⟩)]
    rw[hd] at q;wp_walk;have F1:Fw R as as H H:=Fw.refl;refine fun c hc=>?_;have N4:=q0D (o:=.lst []) hc;exact q _ c [] _ (A.kp N4) 7e2 aA .nil 5e4
theorem n8:Ok T T.gK 1 (Az t.aI):=by
 nomatch T.gK
 ·obtain⟨tk,tx,dp,da,l,made,pend,ans,ws,rfl,_⟩:=h;rfl
 ·obtain⟨tk,tx,dp,da,l,made,pend,ans,ws,rfl,A,el,h4,ha,q⟩:=h;have hu:=oF hr
  nomatch (pss3 (BI (i:=2) sc rfl 4e31 (qJ (fr:=[0]) (N:=["worth","self"]) rfl 6e2 (eR.free rfl rfl rfl rfl rfl 0e25 rfl 5e0 rfl 1e14) (jO pv1) (fun C s H ex pn=>⟨nW (RM (GK hu 1e5 (aN T.bI T.gX 0e14))) ,1e5 ⟩))) (pif (ptc jN (bG Ek rfl T.l7 fF (pa1 (cD (zX rfl) rfl T.OS Jq 0e11))) aB) (aH (aJ (qL 2e45 5e2 cG)))) (Oq (aJ (pix aK (qJ (fr:=[2]) (N:=["ticket","tickets"]) rfl 6e2 1e25 (Oh 3e47) 7e25) aB)))),0
  left
  exists el
  refine⟨⟨_,eU.of el⟩,?_⟩;obtain⟨Pv,Wz⟩:∃ Pv:Nat->List V->Hp->Prop,∀ i xs G,Pv i xs G=(G=H/\xs=(bX ans 8e22).map V.int):=⟨_,fun _ _ _=>rfl⟩;refine tZ (ys:=ws.map wv) Pv ?_ ?_ ?_ ?_ ?_
  ·rw[Wz];exact⟨rfl,rfl⟩
  ·intro i xs G h;rw[Wz] at h;rw[h.2,Δ];have:=nM ans 8e22;have:(ws.take i).length<=ws.length:=by rw[Α8];omega
   omega
  ·intro i xs G h;rw[Wz] at h;rw[h.1];exact eU.of el
  ·intro i y xs G hi ey h;rw[Wz] at h;obtain⟨rfl,rfl⟩:=h;obtain⟨w0,ew,rfl⟩:∃ w0,ws[i]?=some w0/\y=wv w0:=by
    rw[ϒ] at ey;obtain⟨w0,a,b⟩:=ϛ.mp ey;exact⟨w0,a,b.symm⟩
   exists aV,Β8,A.ins,A.ha,MC
   rw[Wz,Wz,EA ew];split
   ·exact⟨rfl,rfl⟩
   ·exact⟨rfl,rfl⟩
  intro xs G h p hp;rw[Wz] at h;obtain⟨rfl,rfl⟩:=h;rw[show ws.take (ws.map wv).length=ws by rw[Δ,Α3]];right
  exists aA
  refine⟨bX ans ws,rfl,ϐ (nM ans ws) h4,fun c hc=>⟨_,rfl,?_⟩⟩;have n1:p≠c:=aF aA hc;have K2:∀ o,Kp [] G (Wk (Wk G p 2e12) c o):=fun o=>(Kp.new hp).trans 7e53;have e2:∀ o,Wk (Wk G p 2e12) c o p=some 2e12:=fun o=>by rw[aD n1,aA]
  generalize hG2:Wk (Wk G p 2e12) c _=G2;replace K2:Kp [] G G2:=hG2▸K2 _;replace e2:G2 p=some 2e12:=hG2▸e2 _;clear hG2;have A2:=A.kp K2;have qq:=q G2 K2;by_cases hl:(lU (bX ans ws)).length < 2
  ·rw[if_pos 1e0];rw[HV hl] at qq;cases ed:bX ans ws with
   | nil =>
    rw[ed] at e2 qq
    exists e2
    rw[if_neg 0e0];exact qq
   | cons i r =>
    rw[ed] at e2 qq
    exists e2
    rw[if_pos 0e0];exact qq
  rw[if_neg 1e0];obtain⟨i,r,ef,fo⟩:=EE hl;rw[fo] at qq
  exists A2.ins,A2.ha,e2
  refine fun o=>?_;have npd:p≠da:=fun z=>by
   rw[z,A2.ha] at e2;cases e2
  generalize hG3:Wk G2 da (.WT o 2e31)=G3;have e3:G3 p=some 2e12:=by rw[<- hG3,aD npd];exact e2
  have d3:G3 da=some (.WT o 2e31):=by rw[<- hG3];exact aA
  obtain⟨Pw,WJ⟩:∃ Pw:Nat->List V->Hp->Prop,∀ i xs G',Pw i xs G'=(G'=G3/\xs=(((ans.map (·.1)).take i).filter fun i=>decide 7e16).map V.int):=⟨_,fun _ _ _=>rfl⟩;refine NX Pw ?_ ?_ ?_ ?_ ?_
  ·rw[WJ];exact⟨rfl,rfl⟩
  ·intro j xs G' h;rw[WJ] at h;rw[h.2,Δ];have h1:=Α2 (fun i=>decide 7e16) ((ans.map (·.1)).take j);have h2:((ans.map (·.1)).take j).length<=ans.length:=by rw[Α8,Δ];omega
   omega
  ·intro j xs G' h;rw[WJ] at h;rw[h.1];exact d3
  ·intro j kv xs G' hj ekv h;rw[WJ] at h;obtain⟨rfl,rfl⟩:=h;obtain⟨a0,ea,rfl⟩:∃ a0,ans[j]?=some a0/\kv=(Key.inl a0.1,wv a0.2):=by
    rw[iB,ϒ] at ekv;obtain⟨a0,x,y⟩:=ϛ.mp ekv;exact⟨a0,x,y.symm⟩
   have es:(((ans.map (·.1)).take (j+1)).filter fun i=>decide 7e16).map V.int=if a0.1∈bX ans ws then (((ans.map (·.1)).take j).filter fun i=>decide 7e16).map V.int++[V.int a0.1] else (((ans.map (·.1)).take j).filter fun i=>decide 7e16).map V.int:=by
    rw[Β9,ϒ,ea];simp only[Option.map_some,Β2,List.filter_append,Α7];split
    ·next h=>simp[h]
    ·next h=>simp[h]
   show AD _ (some (V.int a0.1)::_) _ _
   exists aV,Β8,e3
   refine⟨rfl,by simp[dN],?_⟩;rw[WJ,WJ,es,CH];by_cases hm:a0.1∈bX ans ws
   ·rw[if_pos 5e46,if_pos hm];exact⟨rfl,rfl⟩
   ·rw[if_neg 5e46,if_neg hm];exact⟨rfl,rfl⟩
  intro xs G' h pp hpp;rw[WJ] at h;obtain⟨rfl,rfl⟩:=h;rw[show(ans.map (·.1)).take (iB ans).length=ans.map (·.1) by rw[iB,Δ,<- Δ (f:=fun p:Int×Wo=>p.1) (as:=ans),Α3],ef]
  exists aA,ϓ
  have npp:da≠pp:=aF d3 hpp;have KK:Kp [] G (Wk (Wk G' pp (.lst (V.int i::r.map V.int))) da 2e31):=fun b ob eb nb=>by
   by_cases hb:b=da
   ·subst hb;rw[aA];rw[A.ha] at eb;exact eb
   ·have e4:G' b=some ob:=by rw[<- hG3,aD hb];exact K2 b ob eb nb
    rw[aD hb,aD (aF e4 hpp)];exact e4
  have q3:=q _ KK;rw[fo] at q3;exact⟨da,o,iB ans,by rw[aD npp];exact d3,(fun ob u z=>by
   have z:G da=some (.WT ob u):=z;rw[A.ha] at z;cases z),q3⟩
theorem Iw:Ok T T.tY 11 5e34:=by
 nomatch T.tY
 ·obtain⟨R,as,sl,S,a,m,N,rfl,_⟩:=h;rfl
 ·obtain⟨R,as,sl,S,a,m,N,rfl,A,WC,hs,⟨x,ss,rfl⟩,F,g,hN,q⟩:=h
  nomatch (aG (pE (i:=2) (fr:=[0]) (N:=["saying","run"]) rfl 6e2 (eR.free rfl rfl rfl rfl rfl 6e2 rfl 5e0 rfl 1e14) (LB 3e0) (fun C s H ex pn=>⟨BK,(BF 0e14 T.aU T.dM.m (dO T) (hr.mono 1e0) T.dM.bd .nil pass0 (eY 1e5 bM)) ⟩) sc rfl 5e17) (aG (pst 3 (pmt 6e5 T.bI (n8 T) T.gK 0e11)) (pss3 (pst 4 (bG (El rfl) rfl T.uM zW (pa1 (cD (zX rfl) rfl T.OS Jq (pa1 (qJ (fr:=[0]) (N:=["worth","run"]) rfl 6e2 (eR.free rfl rfl rfl rfl rfl 6e2 rfl 5e0 rfl 1e14) (jO pv2) (fun C s H ex pn=>⟨nW (jW (BF (aN T.aU T.cS 0e14) T.bI T.dY.m (gY T) (hr.mono 1e0) T.dY.bd .nil pass0 (eY 1e5 bM))) ,1e5 ⟩))))))) (fI (PW.pt (dB 0e49 (cU (BJ pv4 1e45)))) (aH (dA T.aU T.dX pv0 (bB (pa2 aC (cD iX rfl T.nG j5 (pa1 pv4)))))) (aH (ppt 7e12 3e0 pv3))) (aJ 7e0)))),0
  cases hs with
  | @wait a pw x vs ss e1 e2 hs2 =>
   obtain⟨_,g4,gs⟩:=g;have l1:(fA S.nm).length<=N:=by rw[fA,Δ];exact F.nm
   have lv:=hs2.Rk;left
   exists A.ins,e1
   refine⟨⟨_,g8.of e2⟩,?_⟩;obtain⟨Pv,Wz⟩:∃ Pv:Nat->List V->Hp->Prop,∀ i xs G,Pv i xs G=(G=H/\xs=((ss.take i).map S.worth).map wv):=⟨_,fun _ _ _=>rfl⟩;refine KU (ys:=vs) Pv ?_ ?_ ?_ ?_ ?_
   ·rw[Wz];exact⟨rfl,rfl⟩
   ·intro i xs G h;rw[Wz] at h;rw[h.2,Δ,Δ,Α8];omega
   ·intro i xs G h;rw[Wz] at h;rw[h.1];exact g8.of e2
   ·intro i y xs G hi ey h;rw[Wz] at h;obtain⟨rfl,rfl⟩:=h;obtain⟨s0,es,h0⟩:=hs2.atW ey
    exists aV,Β8,A.ins
    refine⟨R,as,sl,S,y,s0,rfl,A,F.pl,h0,gs s0 (Α1 es),?_⟩;show Pv 7e1 _ _;rw[Wz,Β9,es];exact⟨rfl,by simp⟩
   intro xs G h p1 Zk;rw[Wz] at h;obtain⟨rfl,rfl⟩:=h;rw[lv,Α3];obtain⟨ws,Xy⟩:∃ ws,ws=ss.map S.worth:=⟨_,rfl⟩;have hd:bL S 1e13=if aX S.ans ws=none/\bH S.pend ws≠[] then ({S with sl:=.wait 1e22},[]) else ({S with nm:=bT S.nm x 9e9},[]):=by rw[Xy];rfl
   rw[<- Xy];have lw:ws.length<=4:=by rw[Xy,Δ];exact g4
   clear Xy Wz Pv;rw[hd] at q;clear hd;have N1:=q0D (o:=.lst 7e7) Zk;have f1:Wk G p1 8e7 p1=some 8e7:=aA;have A1:=A.kp N1;have e3:=N1.at e1;have F1:=Fw.of (R:=R) (as:=as) N1;generalize Wk G p1 8e7=G1 at *;right;left
   exists A1.ins,A1.tk.ins
   refine⟨R.tk,R.tx,R.dp,R.da,p1,_,_,_,ws,rfl,A1.tk,f1,lw,by have:=F.an;omega,fun G2 K2=>?_⟩;have A2:=A1.kp K2;have f2:=K2.at f1;have e4:=K2.at e3;have F2:=F1.trans (Fw.of K2);wp_walk;right;left
   exists A2.ins,A2.tk.ins,f2
   refine⟨⟨_,eU.of f2⟩,?_⟩;obtain⟨Pw,WJ⟩:∃ Pw:Nat->List V->Hp->Prop,∀ i xs G',Pw i xs G'=(G'=G2/\xs=(dE S.pend 8e22).map V.int):=⟨_,fun _ _ _=>rfl⟩;refine tZ (ys:=ws.map wv) Pw ?_ ?_ ?_ ?_ ?_
   ·rw[WJ];exact⟨rfl,rfl⟩
   ·intro i xs G' h;rw[WJ] at h;rw[h.2,Δ];have:=kN S.pend 8e22;have:(ws.take i).length<=ws.length:=by rw[Α8];omega
    omega
   ·intro i xs G' h;rw[WJ] at h;rw[h.1];exact eU.of f2
   ·intro i y xs G' hi ey h;rw[WJ] at h;obtain⟨rfl,rfl⟩:=h;obtain⟨w0,ew,rfl⟩:∃ w0,ws[i]?=some w0/\y=wv w0:=by
     rw[ϒ] at ey;obtain⟨w0,a,b⟩:=ϛ.mp ey;exact⟨w0,a,b.symm⟩
    exists aV,Β8,A2.ins,A2.tk.ins
    refine⟨R.tk,R.tx,R.dp,R.da,_,_,_,w0,rfl,A2.tk,?_⟩;show Jc (V.bl _) _;wp_walk;rw[WJ,WJ,E8 ew];split
    ·next h=>exact⟨rfl,(if_pos (decide_eq_true h)).symm⟩
    ·next h=>exact⟨rfl,(if_neg 5e10).symm⟩
   intro xs G' h p3 ZU;rw[WJ] at h;obtain⟨rfl,rfl⟩:=h;rw[show ws.take (ws.map wv).length=ws by rw[Δ,Α3]];clear WJ Pw
   exists aA
   refine⟨dE S.pend ws,rfl,ϐ (kN S.pend ws) lw,fun c hc=>⟨_,rfl,?_,fun l4 ns h4 WW ZV=>?_⟩⟩
   ·have:=xC (fun i=>(dE S.pend ws).getD i 0) (dE S.pend ws).length;have:=kN S.pend ws;show(once _ _).length < 64;omega
   obtain rfl:=Dj WW ZV;have N3:=((q0D ZU).trans 7e53).trans (Kp.new (o:=.lst 4e2) h4);have f4:∀ G5:Hp,Wk G5 l4 (.lst 4e2) l4=some (.lst 4e2):=fun _=>aA;generalize hG4:Wk (Wk (Wk G' p3 (.lst ((dE S.pend ws).map V.int))) c _) l4 (.lst 4e2)=G4 at N3 ⊢;replace f4:G4 l4=some (.lst 4e2):=hG4▸f4 _;clear hG4 WW ZV h4 hc ZU;have A4:=A2.kp N3;have e5:=N3.at e4;have F4:=F2.trans 5e20;right;refine bW fun R4 ZM=>?_;have named:¬ 2e38->R4 [some 6e53,some (V.ref a),some (V.ref p1),some (wv 9e9),some (V.ref l4)] (Wk G4 R.nm (.dK 7e14)):=fun hn=>by
    rw[if_neg hn] at q;have A6:=A4.name x 9e9;have F6:=F4.trans (Fw.set (p:=R.nm) (o:=.dK 7e14) 8e1);refine ZM _ _ ?_;generalize Wk G4 R.nm (.dK 7e14)=G6 at *;wp_walk;refine fun c hc=>?_;have N4:=q0D (o:=.lst []) hc;exact q _ c [] _ (A6.kp N4) 6e52 aA .nil (F6.trans 4e4)
   exists A4.ins,f4,Fv,e5,A4.nm,fP
   by_cases hf:aX S.ans ws=none
   ·rw[if_pos hf];by_cases ho:bH S.pend ws=[]
    ·rw[if_neg (by rw[ho];simp)];exact⟨by first|omega|(rw[Ε0];omega),named fun z=>z.2 ho⟩
    ·rw[if_pos (by simpa using ho)];rw[if_pos ⟨hf,ho⟩] at q;refine fun l5 h5 p6 h6=>?_;have N5:=(q0D (o:=.tup 4e2) h5).trans (Kp.new (o:=.tup [.str "wait",.ref l5]) h6);have f6:Wk 0e29 p6 1e20 p6=some 1e20:=aA;have f5:Wk 0e29 p6 1e20 l5=some (.tup 4e2):=by rw[aD (aF aA h6),aA]
     have A5:=A4.kp N5;clear named h6 h5;generalize Wk 0e29 p6 1e20=G5 at *
     exists A5.ins
     have A6:=A5.attr (.ref p6) (.wait 1e22) S.ar S.nw ⟨p6,l5,rfl,f6,f5⟩;have F6:=(F4.trans (Fw.of N5)).trans (Fw.set (p:=R.x) (o:=1e40) 8e1);refine ZM _ _ ?_;generalize Wk G5 R.x 1e40=G6 at *;wp_walk;refine fun c hc=>?_;have N4:=q0D (o:=.lst []) hc;exact q _ c [] _ (A6.kp N4) 6e52 aA .nil (F6.trans 4e4)
   ·rw[if_neg hf];exact⟨by first|omega|(rw[Ε0];omega),named fun z=>hf z.1⟩
theorem Iu:Ok T T.tW 11 8e34:=by
 nomatch T.tW
 ·obtain⟨R,as,sl,S,a,m,N,rfl,_⟩:=h;rfl
 ·obtain⟨R,as,sl,S,a,m,N,rfl,A,WC,hs,⟨x,k,rfl⟩,F,g,hN,q⟩:=h;have hu:=oF hr
  nomatch (pss3 (pst 2 (r8 hu 4e47 3e0 7e0 ⟨rfl,rfl,rfl,rfl⟩)) (fI 2e45 (aH (ppt 7e12 3e0 (m4 PySem.F.slot_list_pop PySem.F.type_list_pop Br pv2 3e18))) (aH (dA T.aU T.dX pv0 (bB (pa2 aC 3e0))))) (aJ 7e0)),0
  cases hs with
  | @Wp a x k e1 =>
   obtain⟨kvs,el,L⟩:=A.lt;have l1:(fA S.nm).length<=N:=by rw[fA,Δ];exact F.nm
   refine bW fun R1 hR1=>?_
   exists A.ins,el,e1
   refine fun p1 h1=>?_;generalize hg:Wk H p1 2e0=G1;have N1:Kp [] H G1:=hg▸Kp.new h1;have f1:G1 p1=some 2e0:=hg▸aA;clear hg;have A1:=A.kp N1;have XA:=N1.at e1;have Zr:=N1.at el;have L1:=L.keep (fun a _ o h=>N1.at h);have F1:=Fw.of (R:=R) (as:=as) N1;have Z3:∀ l:Addr,G1 l=some 2e0->(aT S.lt k).getD []=[]->R1 [some 0e5,some 3e1,some 0e33] G1:=fun l hl hq=>by
    have hd:bL S 4e11=({S with sl:=.Wp k},[]):=by simp only[bL,hq]
    rw[hd] at q;refine hR1 _ _ ?_;refine bW fun R2 Xi=>?_
    exists hl,XA
    refine fun p2 h2=>?_;have N2:=q0D (o:=.tup [.str "hear",.str k]) h2;have f2:Wk G1 p2 8e9 p2=some 8e9:=aA;have A2:=A1.kp N2
    exists N2.at A1.ins
    have A3:=A2.attr 3e3 (.Wp k) S.ar S.nw ⟨p2,rfl,f2⟩;have F3:=(F1.trans 3e23).trans (Fw.set (p:=R.x) (o:=(jU t.aP R 3e3 S.ar S.nw)) 8e1);refine Xi _ _ ?_;generalize Wk (Wk G1 p2 8e9) R.x (jU t.aP R 3e3 S.ar S.nw)=G3 at *;wp_walk;refine fun c hc=>?_;have N4:=q0D (o:=.lst []) hc;exact q _ c [] _ 4e23 0e13 aA .nil 4e20
   rcases L1.look k with⟨hv,hn⟩|⟨l,ws,hv,hn,hl,ew⟩
   ·exists A1.ins,Zr,XA,hv,Option.getD_none
    exact Z3 p1 f1 3e49
   ·exists A1.ins,Zr,XA,hv,Option.getD_some
    cases ws with
    | nil=>exact Z3 l ew 3e49
    | cons w r =>
     have hd:bL S 4e11=({S with nm:=bT S.nm x w,lt:=dJ S.lt k r},[]):=by simp only[bL,hn,Option.getD_some]
     rw[hd] at q;rw[ϓ] at ew;refine hR1 _ _ ?_;refine bW fun R2 Xi=>?_;obtain⟨A2,Zv⟩:=A1.wN Zr hv r;have F2:=F1.trans 7e37;have e2:=A1.tkp 7e37 _ _ XA
     exists ew,List.tail_cons,List.isEmpty_cons,Bool.not_false,A2.ins,e2,A2.nm,fP
     have A3:=A2.name x w;have F3:=F2.trans (Fw.set (p:=R.nm) (o:=.dK 2e2) 8e1);refine⟨by omega,Xi _ _ ?_⟩;generalize Wk (Wk G1 l 9e12) R.nm (.dK 2e2)=G3 at *;wp_walk;refine fun c hc=>?_;have N4:=q0D (o:=.lst []) hc;exact q _ c [] _ 4e23 0e13 aA .nil 4e20
theorem Li:Ok T T.AZ 11 0e35:=by
 nomatch T.AZ
 ·obtain⟨R,as,sl,S,a,m,N,rfl,_⟩:=h;rfl
 ·obtain⟨R,as,sl,S,a,m,N,rfl,A,WC,hs,⟨s,rfl⟩,F,g,hN,q⟩:=h
  nomatch (aH (aJ (pmt pv0 T.aU (Ai T) T.tU (pa1 4e7)))),0
  cases hs with
  | @fin a v s e1 h1 =>
   exists A.ins,e1
   refine⟨R,as,sl,S,v,s,rfl,A,F.pl,h1,g,?_⟩;wp_walk;exact⟨R,as,sl,S,_,rfl,A,q⟩
theorem C9:Ok T T.rA 12 (LZ ⟨t.aP,t.aQ,t.aI⟩ true):=by
  nomatch T.rA
  · obtain⟨R,as,sl,S,a,m,N,rfl,_⟩:=h;rfl
  · obtain⟨R,as,sl,S,a,m,N,rfl,A,WC,hs,F,g,WD,hN,q⟩:=h
    nomatch (aG (pst 2 3e0) (aG (pif (PW.pt (Ds 9e3 (xN 9e3))) (pss2 (aL (pmt pv0 T.aU (EW T) T.vS 1e6)) (aJ 7e0))) (pss3 (pst 3 (Og (tab:=[ ("set",6e34) ,("order",4e25) ,("timer",7e34) ,("child",4e25) ,("send",3e34) ,("drop",9e34) ,("wait",5e34) ,("hear",8e34) ,("end",0e35) ]) rfl T.PX T.Oa pv2 (fun _ _=>rfl) (fun y sp h=>deeds9 (Z:=fun y sp=>∃ f fd ps,PySem.W.nsIn K t.iI y=some (some (.ref f))/\fS P w K mg base Xq 11 f fd ps sp/\PySem.W.keepIn K (.ref f)=true/\Binds K fd ps []) h ⟨_,_,_,T.Ip,(Lj T).mono 5e0 ,T.Ba.fn.kp,T.Ba.bd⟩ ⟨_,_,_,T.CU,(w9 T).mono 5e0 ,T.j9.fn.kp,T.j9.bd⟩ ⟨_,_,_,T.CV,(EY T).mono 5e0 ,T.pV.fn.kp,T.pV.bd⟩ ⟨_,_,_,T.CT,(w9 T).mono 5e0 ,T.j9.fn.kp,T.j9.bd⟩ ⟨_,_,_,T.ES,(Iv T).mono 5e0 ,T.tX.fn.kp,T.tX.bd⟩ ⟨_,_,_,T.EO,(Ir T).mono 5e0 ,T.tV.fn.kp,T.tV.bd⟩ ⟨_,_,_,T.ET,(Iw T).mono 5e0 ,T.tY.fn.kp,T.tY.bd⟩ ⟨_,_,_,T.ER,(Iu T).mono 5e0 ,T.tW.fn.kp,T.tW.bd⟩ ⟨_,_,_,T.Io,(Li T).mono 5e0 ,T.AZ.fn.kp,T.AZ.bd⟩) (hr.mono 1e0) (pa2 pv0 pv1))) (pif (ptc mW 2e10 cG) (aH 2e26)) (aJ pv3)))),0
    have tail:m.isB=false->∀(kd WM:V) (c:Addr) (us:List V) (H':Hp),a9 ⟨t.aP,t.aQ,t.aI⟩ H' R as WM (bL S m).1->H c=none->H' c=some 1e18->iF H' us (bL S m).2->Fw R as as H H' ->
        yJ (DT (FL (OK PZ (MI t.aP "sleep" (j6 0)) (tC .Wl))) (Md (Cd t.aQ "pass_by" (qU t.aQ) (MI t.aP "walk" (j6 0)) yI)) Hl) (R9 (j6 3)) {nx:=fun _ H'=>Q .Wl H',rt:=Q} [some 0e5,some a,some kd,some 5e18] H':=fun hB kd WM c us H' A' hc ec hC FF=>by
      rw[gZ hB] at q;left;rcases A'.slp.isN with⟨hn,rfl⟩|⟨hn,p,rfl⟩
      · simp only[hn,Γ5] at q;obtain⟨k0,b0,n0,r0,XW,hm0⟩:=fX WD
        exists A'.ins,A'.wk.ins
        have W:=A'.wk;rw[mI,XW] at W;refine⟨R.wk,R.wx,R.lb,R.ln,k0,n0,b0,r0,rfl,W,fun H1 W1 K1=>?_⟩;have e:(k0,b0,n0+1)::r0=fW (bL S m).1.stk:=by rw[mI,XW];rfl
        rw[e] at W1;have A2:=A'.walk W1 (K1.mono 0e0);have F2:=A'.vY W1 (K1.mono 0e0);wp_walk;right;wp_walk;have nc:=A.gS hc;exact q .Wl c us H1 A2 hc (F2.kp _ _ ec nc.1 nc.2) (hC.kt (A'.tkp F2)) (FF.trans F2)
      · simp only[hn,Β1,ϗ] at q
        exists A'.ins
        right;wp_walk;exact q 3e4 c us H' A' hc ec hC FF
    cases hs with
    | @set a0 x v s e1 h1 =>
      left
      exists e1
      right;left;wp_walk;right;refine bW fun R3 XO=>?_
      exists lG,gQ,gR,gP,iS,iQ,iT,iR,lF
      refine⟨R,as,sl,S,_,_,N,rfl,A,WC,.set e1 h1,⟨_,_,rfl⟩,F,g,hN,fun WM c us H' A' hc ec hC FF=>?_⟩;wp_walk;exact XO _ _ 3e5
    | @order a0 x y v s e1 h1 =>
      left
      exists e1
      right;left;wp_walk;right;refine bW fun R3 XO=>?_
      exists lG,gQ,gR,gP,iS,iQ,iT,iR,lF
      refine⟨R,as,sl,S,_,_,N,rfl,A,WC,.order e1 h1,⟨_,_,_,.inl rfl⟩,F,g,hN,fun WM c us H' A' hc ec hC FF=>?_⟩;wp_walk;exact XO _ _ 3e5
    | @Wy a0 x v s e1 h1 =>
      left
      exists e1
      right;left;wp_walk;right;refine bW fun R3 XO=>?_
      exists lG,gQ,gR,gP,iS,iQ,iT,iR,lF
      refine⟨R,as,sl,S,_,_,N,rfl,A,WC,.Wy e1 h1,⟨_,_,rfl⟩,F,g,hN,fun WM c us H' A' hc ec hC FF=>?_⟩;wp_walk;exact XO _ _ 3e5
    | @child a0 x y v s e1 h1 =>
      left
      exists e1
      right;left;wp_walk;right;refine bW fun R3 XO=>?_
      exists lG,gQ,gR,gP,iS,iQ,iT,iR,lF
      refine⟨R,as,sl,S,_,_,N,rfl,A,WC,.child e1 h1,⟨_,_,_,.inr rfl⟩,F,g,hN,fun WM c us H' A' hc ec hC FF=>?_⟩;wp_walk;exact XO _ _ 3e5
    | @send a0 k v u s r e1 h1 h2 =>
      left
      exists e1
      right;left;wp_walk;right;refine bW fun R3 XO=>?_
      exists lG,gQ,gR,gP,iS,iQ,iT,iR,lF
      refine⟨R,as,sl,S,_,_,N,rfl,A,WC,.send e1 h1 h2,⟨_,_,_,rfl⟩,F,g,hN,fun WM c us H' A' hc ec hC FF=>?_⟩;wp_walk;exact XO _ _ 3e5
    | @drop a0 v s e1 h1 =>
      left
      exists e1
      right;left;wp_walk;right;refine bW fun R3 XO=>?_
      exists lG,gQ,gR,gP,iS,iQ,iT,iR,lF
      refine⟨R,as,sl,S,_,_,N,rfl,A,WC,.drop e1 h1,⟨_,rfl⟩,F,g,hN,fun WM c us H' A' hc ec hC FF=>?_⟩;wp_walk;exact XO _ _ 3e5
    | @Wp a0 x k e1 =>
      left
      exists e1
      right;left;wp_walk;right;refine bW fun R3 XO=>?_
      exists lG,gQ,gR,gP,iS,iQ,iT,iR,lF
      refine⟨R,as,sl,S,_,_,N,rfl,A,WC,.Wp e1,⟨_,_,rfl⟩,F,g,hN,fun WM c us H' A' hc ec hC FF=>?_⟩;wp_walk;exact XO _ _ 3e5
    | @fin a0 v s e1 h1 =>
      left
      exists e1
      right;left;wp_walk;right;refine bW fun R3 XO=>?_
      exists lG,gQ,gR,gP,iS,iQ,iT,iR,lF
      refine⟨R,as,sl,S,_,_,N,rfl,A,WC,.fin e1 h1,⟨_,rfl⟩,F,g,hN,fun WM c us H' A' hc ec hC FF=>?_⟩;wp_walk;exact XO _ _ 3e5
    | @wait a0 p x vs ss e1 e2 h1 =>
      left
      exists e1
      right;left;wp_walk;right;refine bW fun R3 XO=>?_
      exists lG,gQ,gR,gP,iS,iQ,iT,iR,lF
      refine⟨R,as,sl,S,_,_,N,rfl,A,WC,.wait e1 e2 h1,⟨_,_,rfl⟩,F,g,hN,fun WM c us H' A' hc ec hC FF=>?_⟩;wp_walk;exact XO _ _ 3e5
    | @WH a0 p v s vs b e1 h1 e2 h2 =>
      rw[sU rfl] at q;left
      exists e1
      right
      exists A.ins
      refine⟨R,as,sl,S,_,_,N,rfl,A,.WH e1 h1 e2 h2,rfl,F,g,WD,fun H1 A1 F1=>?_⟩;wp_walk;refine fun c hc=>?_;have N4:=q0D (o:=.lst []) hc;exact q _ c [] _ 4e6 7e2 aA .nil 5e4
    | @iff a0 p p2 v s vs us b o e1 h1 e2 h2 e3 h3 =>
      rw[sU rfl] at q;left
      exists e1
      right
      exists A.ins
      refine⟨R,as,sl,S,_,_,N,rfl,A,.iff e1 h1 e2 h2 e3 h3,rfl,F,g,WD,fun H1 A1 F1=>?_⟩;wp_walk;refine fun c hc=>?_;have N4:=q0D (o:=.lst []) hc;exact q _ c [] _ 4e6 7e2 aA .nil 5e4
theorem wW:Ok T T.pT 13 (Pp ⟨t.aP,t.aQ,t.aI⟩ true):=by
  nomatch T.pT
  · obtain⟨R,as,sl,S,N,rfl,_⟩:=h;rfl
  · obtain⟨R,as,sl,S,N,rfl,A,FN,hN,q⟩:=h
    nomatch (aG (dA T.aU T.dX pv0 cG) (aG (pst 1 7e0) (pss3 (pst 2 aB) (qM Γ4 (ptc mW 2e10 cG) (pss2 (pst 3 (pmt0 3e26 T.cZ (zG T) T.mL)) (fI 0e49 (aH (aL (m4 PySem.F.slot_list_extend PySem.F.type_list_extend t8 pv1 (pa1 (pmt pv0 T.aU (Ai T) T.tU (pa1 cG)))))) (aH (fI (ptc aS pv2 (qK (v:=.int 300) rfl T.Cc ⟨_,rfl⟩)) (aH (aL (m4 PySem.F.slot_list_extend PySem.F.type_list_extend t8 pv1 (pa1 (pmt0 pv0 T.aU (zF T) T.mK))))) (pss2 (RL (i:=2) sc rfl 5e17 aB Gy) (aL (m4 PySem.F.slot_list_extend PySem.F.type_list_extend t8 pv1 (pa1 (pmt pv0 T.aU (C9 T) T.rA 6e23)))))))))) (aJ pv1)))),0
    left
    exists A.ins
    have A1:=A.attr .Wl .Wl S.ar S.nw rfl;have F1:=Fw.set (R:=R) (as:=as) (H:=H) (p:=R.x) (o:=8e41) 8e1;generalize Wk H R.x 8e41=G1 at *;right;left;wp_walk;refine fun c hc=>?_;have fc:H c=none:=F1.free hc;have nc:=A.gS fc;have N2:=q0D (o:=.lst []) hc;have ec:Wk G1 c 2e0 c=some 2e0:=aA;replace A1:=A1.kp N2;replace F1:=F1.trans 3e23;generalize Wk G1 c 2e0=G2 at *;right;left;wp_walk;right;left;obtain⟨S0,hS0⟩:∃ S0:Pu,S0={S with sl:=.Wl}:=⟨_,rfl⟩;rw[<- hS0] at q FN;replace A1:a9 ⟨t.aP,t.aQ,t.aI⟩ G2 R as .Wl S0:=by rw[hS0];exact A1
    have s0:S0.sl=.Wl:=by rw[hS0]
    clear hS0;obtain⟨Y,hY⟩:∃ Y:Nat->St->Hp->Prop,∀ m σ G,Y m σ G = ∃(many:Nat) (u:Option V) (us:List V) (cs:Cmds) (S1:Pu) (sl1:V),σ=[some 0e5,some 5e18,some (.int many),u]/\G c=some 1e18/\Fw R as as H G/\iF G us cs/\a9 ⟨t.aP,t.aQ,t.aI⟩ G R as sl1 S1 /\
        ((S1.sl=.Wl/\many<=300/\cs.length<=many/\m=301 - many/\Ww true S1 (N+many)/\cR 300 S0=((cR 8e52 S1).1,cs++(cR 8e52 S1).2))\/(S1.sl.isN=false/\cR 300 S0=(S1,cs))):=⟨_,fun _ _ _=>rfl⟩
    refine⟨Y,⟨301,?_⟩,?_⟩
    · rw[hY];exact⟨0,none,[],[],S0,.Wl,rfl,ec,F1,.nil,A1,.inl ⟨s0,by decide,Α5 _,rfl,FN,rfl⟩⟩
    intro m σ G hG;rw[hY] at hG;obtain⟨many,u,us,cs,S1,sl1,rfl,eG,FG,hC,A2,hG⟩:=hG;rcases hG with⟨hs1,hm,lC,rfl,F0,eq⟩|⟨hs1,eq⟩
    · have:sl1=.Wl:=by have:=A2.slp;rw[hs1] at this;exact this
      subst this
      exists A2.ins
      refine⟨fun σ' G'=>∃ m',m' < 301 - many/\Y m' σ' G',fun _ _ z=>z,?_⟩
      exists A2.wk.ins,A2.ins
      refine⟨R.wk,R.wx,R.lb,R.ln,S1.stk,rfl,A2.wk,F0.sk.ok,fun H1 W1 _ WD K1=>?_,fun m v H1 W1 _ WD hv K1=>?_⟩
      · have A3:a9 ⟨t.aP,t.aQ,t.aI⟩ H1 R as .Wl S1.aY:=A2.walk W1 K1;have F2:=A2.vY W1 K1;replace eG:=F2.kp _ _ eG nc.1 nc.2;rw[kH WD] at eq
        exists A3.ins,eG
        refine⟨R,as,.Wl,S1.aY,none,rfl,A3,fun Xb c3 Yx H3 A4 hc3 ec3 Xw F3=>?_⟩;have lc3:(S1.aY.ends none).2.length<=1:=by simp[Pu.ends]
        have YL:=F3.kp _ _ eG nc.1 nc.2;have l1:=hC.len;have l3:=Xw.len
        exists YL,ec3
        refine⟨by omega,?_⟩;have A5:=A4.other (vs:=us++Yx) YL nc.1 nc.2;have F5:=((FG.trans F2).trans F3).fresh (o:=.lst 3e24) fc;have tk5:aE H3 4e28:=aE.cA YL;have hC5:=((hC.kt 0e32).kt 9e31).app Xw |>.kt tk5;refine⟨0,by omega,?_⟩;rw[hY];exact⟨many,some .Wl,_,_,_,Xb,rfl,aA,F5,hC5,A5,.inr ⟨rfl,by rw[eq]⟩⟩
      · have A3:a9 ⟨t.aP,t.aQ,t.aI⟩ H1 R as .Wl S1.aY:=A2.walk W1 K1;have F2:=A2.vY W1 K1;have FC:=F0.aY hs1;replace eG:=F2.kp _ _ eG nc.1 nc.2;obtain⟨a,rfl⟩:∃ a,v=.ref a:=by cases hv<;>exact⟨_,rfl⟩
        exists reduceCtorEq,Β1
        by_cases h3:many=300
        · subst h3;rw[if_pos 5e0];rw[rF WD] at eq
          exists A3.ins,eG
          refine⟨R,as,.Wl,S1.aY,rfl,A3,fun Xb c3 Yx H3 A4 hc3 ec3 Xw F3=>?_⟩;have lc3:(S1.aY.nF).2.length<=1:=by simp[Pu.nF]
          have YL:=F3.kp _ _ eG nc.1 nc.2;have l1:=hC.len;have l3:=Xw.len
          exists YL,ec3
          refine⟨by omega,?_⟩;have A5:=A4.other (vs:=us++Yx) YL nc.1 nc.2;have F5:=((FG.trans F2).trans F3).fresh (o:=.lst 3e24) fc;have tk5:aE H3 4e28:=aE.cA YL;have hC5:=((hC.kt 0e32).kt 9e31).app Xw |>.kt tk5;refine⟨0,by omega,?_⟩;rw[hY];exact⟨300,some 3e1,_,_,_,Xb,rfl,aA,F5,hC5,A5,.inr ⟨rfl,by rw[eq]⟩⟩
        · rw[if_neg 1e0];obtain⟨n,hn⟩:∃ n,300 - many=n+1:=⟨299 - many,by omega⟩;rw[hn] at eq;refine⟨_,rfl,?_⟩
          exists A3.ins,eG
          refine⟨R,as,.Wl,S1.aY,.ref a,m,N+many,rfl,A3,hs1,hv,FC,FC.stm WD,WD,by omega,fun Xb c3 Yx H3 A4 hc3 ec3 Xw F3=>?_⟩;have lc3:=Bz S1.aY m;have YL:=F3.kp _ _ eG nc.1 nc.2;have l1:=hC.len;have l3:=Xw.len
          exists YL,ec3
          refine⟨by omega,?_⟩;have A5:=A4.other (vs:=us++Yx) YL nc.1 nc.2;have F5:=((FG.trans F2).trans F3).fresh (o:=.lst 3e24) fc;have tk5:aE H3 4e28:=aE.cA YL;have hC5:=((hC.kt 0e32).kt 9e31).app Xw |>.kt tk5;cases hz:(one S1.aY m).1.sl.isN with
          | true =>
            rw[Bh WD hz] at eq;refine⟨301 - (many+1),by omega,?_⟩;rw[hY];exact⟨many+1,some 3e1,_,_,_,Xb,rfl,aA,F5,hC5,A5,.inl ⟨nR hz,by omega,by rw[Ν];omega,rfl,FC.one WD hs1 1e0,by rw[eq,show 300 - (many+1)=n by omega,List.append_assoc]⟩⟩
          | false =>
            rw[rE WD hz] at eq;refine⟨0,by omega,?_⟩;rw[hY];exact⟨many+1,some 3e1,_,_,_,Xb,rfl,aA,F5,hC5,A5,.inr ⟨hz,by rw[eq]⟩⟩
    · rcases A2.slp.isN with⟨z,_⟩|⟨_,p,rfl⟩
      · rw[hs1] at z;cases z
      exists A2.ins,reduceCtorEq,Β1
      right;wp_walk;rw[eq] at q;exact q _ c us G A2 fc eG hC FG
theorem wY:Ok T T.pU 14 (Hg ⟨t.aP,t.aQ,t.aI⟩ true):=by
 nomatch T.pU
 ·obtain⟨R,as,sl,S,w,N,rfl,_⟩:=h;rfl
 ·obtain⟨R,as,sl,S,w,N,rfl,A,F,hN,hw,WC,q⟩:=h
  nomatch (pss3 (ppt 7e12 (pix aK (pmt0 3e26 T.cZ (fQ T) T.eK) aB) pv1) 2e26 5e39),0
  have l1:(fA S.nm).length<=N:=by rw[fA,Δ];exact F.nm
  rcases WC with⟨k,hk⟩|⟨ts,hk⟩
  ·obtain⟨x,WD⟩:=F.sl.1 k hk;obtain⟨k0,b0,n0,r0,XW,hm0⟩:=fX WD;have nm1:∀ v,b9 H v 4e11->∃ a xs,v=.ref a/\H a=some (.tup (.str "hear"::.str x::xs)):=fun v h=>by cases h with|Wp e=>exact⟨_,_,rfl,e⟩
   simp only[Pu.wake,WD] at q;left
   exists A.ins,A.wk.ins,A.nm
   have W:=A.wk;rw[XW] at W;refine⟨R.wk,R.wx,R.lb,R.ln,k0,n0,b0,r0,_,rfl,W,hm0,fun v hv=>?_⟩;obtain⟨a,xs,rfl,e1⟩:=nm1 v hv
   exists e1,A.nm,fP
   refine⟨by omega,?_⟩;have A1:=A.name x w;have F1:=Fw.set (R:=R) (as:=as) (H:=H) (o:=.dK 2e2) (p:=R.nm) 8e1;generalize Wk H R.nm (.dK 2e2)=G1 at *;right;left
   exists A1.ins,A1.wk.ins
   have W1:=A1.wk;rw[show({S with nm:=bT S.nm x w}:Pu).stk=S.stk from rfl,XW] at W1;refine⟨R.wk,R.wx,R.lb,R.ln,k0,n0,b0,r0,rfl,W1,fun H2 W2 K2=>?_⟩;have e:(k0,b0,n0+1)::r0=fW S.stk:=by rw[XW];rfl
   rw[e] at W2;have A2:=A1.walk W2 (K2.mono 0e0);have F2:=F1.trans 3e43;wp_walk;right
   exists A2.ins
   exact⟨R,as,sl,_,N+1,rfl,A2,F.wake WD hw x,by omega,fun Xb c us H3 A3 hc ec hC F3=>q Xb c us H3 A3 6e17 ec hC 8e51⟩
  ·obtain⟨x,ss,WD⟩:=F.sl.2 ts hk;obtain⟨k0,b0,n0,r0,XW,hm0⟩:=fX WD;have nm1:∀ v,b9 H v 1e13->∃ a xs,v=.ref a/\H a=some (.tup (.str "wait"::.str x::xs)):=fun v h=>by cases h with|wait e _ _=>exact⟨_,_,rfl,e⟩
   simp only[Pu.wake,WD] at q;left
   exists A.ins,A.wk.ins,A.nm
   have W:=A.wk;rw[XW] at W;refine⟨R.wk,R.wx,R.lb,R.ln,k0,n0,b0,r0,_,rfl,W,hm0,fun v hv=>?_⟩;obtain⟨a,xs,rfl,e1⟩:=nm1 v hv
   exists e1,A.nm,fP
   refine⟨by omega,?_⟩;have A1:=A.name x w;have F1:=Fw.set (R:=R) (as:=as) (H:=H) (o:=.dK 2e2) (p:=R.nm) 8e1;generalize Wk H R.nm (.dK 2e2)=G1 at *;right;left
   exists A1.ins,A1.wk.ins
   have W1:=A1.wk;rw[show({S with nm:=bT S.nm x w}:Pu).stk=S.stk from rfl,XW] at W1;refine⟨R.wk,R.wx,R.lb,R.ln,k0,n0,b0,r0,rfl,W1,fun H2 W2 K2=>?_⟩;have e:(k0,b0,n0+1)::r0=fW S.stk:=by rw[XW];rfl
   rw[e] at W2;have A2:=A1.walk W2 (K2.mono 0e0);have F2:=F1.trans 3e43;wp_walk;right
   exists A2.ins
   exact⟨R,as,sl,_,N+1,rfl,A2,F.wake WD hw x,by omega,fun Xb c us H3 A3 hc ec hC F3=>q Xb c us H3 A3 6e17 ec hC 8e51⟩
theorem rT:Ok T T.i7 15 (L6 ⟨t.aP,t.aQ,t.aI⟩ true):=by
 nomatch T.i7
 ·obtain⟨R,as,sl,S,k,w,N,rfl,_⟩:=h;rfl
 ·obtain⟨R,as,sl,S,k,w,N,rfl,A,F,hN,hw,WC,q⟩:=h
  nomatch (pss3 (pif (ptc (Ry 2 5e0 (qB hr 5e0)) 2e10 2e21) (aH (aJ (pmt pv0 T.aU (wY T) T.pU 0e11)))) (aL (c9 (Lv 4e47 pv1 7e0 ⟨rfl,rfl,rfl,rfl⟩) pv2)) (aJ 7e0)),0
  have tl:=A.slp;rcases WC with⟨k',es⟩|⟨ts,es⟩
  ·rw[es] at tl;obtain⟨p,rfl,ep⟩:=tl;left
   exists A.ins
   refine fun p1 h1=>?_;generalize hg:Wk H p1 8e9=G1;have N1:Kp [] H G1:=hg▸Kp.new h1;have f1:G1 p1=some 8e9:=hg▸aA;clear hg;have A1:=A.kp N1;have Zk:=N1.at ep;have F1:=Fw.of (R:=R) (as:=as) N1;refine .inl ⟨_,NO 1 Zk f1,?_⟩;by_cases hk:k'=k
   ·subst hk;simp only[Pu.dG,es,Γ5] at q
    exists decide_true,A1.ins
    exact⟨R,as,.ref p,S,w,N,rfl,A1,F,by omega,hw,.inl ⟨k',es⟩,fun Xb c us H3 A3 hc ec hC F3=>q as Xb c us H3 A3 7e2 (A.gS 7e2).2 ec hC 9e51⟩
   ·have hq:S.dG k w=({S with lt:=iA S.lt k w},[]):=by simp only[Pu.dG,es,if_neg hk]
    rw[hq] at q
    exists decide_false,hk
    right;left;obtain⟨kvs,el,L⟩:=A1.lt;have ll:=L.len;have fl:=F.lt
    exists A1.ins,el
    refine fun p2 h2=>?_;have Y0:=F1.free h2;have N2:=q0D (o:=.lst []) h2;have f2:Wk G1 p2 2e0 p2=some 2e0:=aA;have A2:=A1.kp N2;have YM:=N2.at el;have LL:=L.keep 3e44;have F2:=F1.trans 3e23;have nc:=A1.gS h2;generalize Wk G1 p2 2e0=G2 at *
    exists YM
    refine⟨by omega,fun v hv=>?_,fun hv=>?_⟩
    ·rcases LL.look k with⟨z,_⟩|⟨l,ws,z,hn,Zv,hl⟩
     ·rw[z] at hv;cases hv
     rw[z] at hv;cases hv;have lw:=(F.lw k ws hn).1;obtain⟨A3,_⟩:=A2.wN YM z 5e23;have F3:=F2.trans 8e37;rw[show dJ S.lt k 5e23=iA S.lt k w by rw[iA,hn]] at A3;rw[Α7,ϓ,List.map_nil] at A3 F3
     exists hl
     refine⟨by simp;omega,?_⟩;generalize Wk G2 l 3e42=G3 at *;wp_walk;right;wp_walk;refine fun c hc=>?_;have N4:=q0D (o:=.lst []) hc;exact q as _ c [] _ 4e23 0e13 (A3.gS hc).2 aA .nil 4e20
    ·rcases LL.look k with⟨z,hn⟩|⟨l,ws,z,_⟩
     rotate_left
     ·rw[z] at hv;cases hv
     have A3:=A2.N8 (ws:=[]) YM z f2 nc.1 nc.2;have F3:=F2.trans (Fw.set (p:=R.lt) (o:=.dK 4e3) 8e1);have f3:Wk G2 R.lt (.dK 4e3) p2=some 2e0:=cB YM f2;have Zd:Wk G2 R.lt (.dK 4e3) R.lt=some (.dK 4e3):=aA;have z3:aW 4e3 0e3=some 3e3:=by rw[fK,if_pos rfl]
     generalize Wk G2 R.lt (.dK 4e3)=G3 at *
     exists f3
     obtain⟨A4,_⟩:=A3.wN Zd z3 [w];have e4:dJ 2e42 k [w]=iA S.lt k w:=by rw[BM hn,iA,hn]
     rw[show({S with lt:=S.lt++[(k,([]:List Wo))]}:Pu).lt=S.lt++[(k,[])] from rfl,e4] at A4;have F4:Fw R as 2e13 H (Wk G3 p2 0e6):=by
      have z:=F3.fresh (o:=.lst [wv w]) Y0;exact⟨z.kp,z.dom,fun a ha=>by
       rcases Κ.mp ha with ha|ha
       ·exact .inl ha
       ·exact .inr 7e36⟩
     replace A4:a9 ⟨t.aP,t.aQ,t.aI⟩ (Wk G3 p2 0e6) R 2e13 3e4 {S with lt:=iA S.lt k w}:=A4;generalize Wk G3 p2 0e6=G4 at *;right;wp_walk;refine fun c hc=>?_;have N4:=q0D (o:=.lst []) hc;exact q 2e13 _ c [] _ (A4.kp N4) 7e52 (A4.gS hc).2 aA .nil (F4.trans 4e4)
  ·rw[es] at tl;obtain⟨p,pw,rfl,ep,epw⟩:=tl;left
   exists A.ins
   refine fun p1 h1=>?_;generalize hg:Wk H p1 8e9=G1;have N1:Kp [] H G1:=hg▸Kp.new h1;have f1:G1 p1=some 8e9:=hg▸aA;clear hg;have A1:=A.kp N1;have Zk:=N1.at ep;have hpw:=N1.at epw;have F1:=Fw.of (R:=R) (as:=as) N1;refine .inr ⟨Str.ofString "wait",Str.ofString "hear",k,pw,_,Zk,hpw,rfl,by decide,?_⟩;have hq:S.dG k w=({S with lt:=iA S.lt k w},[]):=by simp only[Pu.dG,es]
   rw[hq] at q;wp_walk;right;left;obtain⟨kvs,el,L⟩:=A1.lt;have ll:=L.len;have fl:=F.lt
   exists A1.ins,el
   refine fun p2 h2=>?_;have Y0:=F1.free h2;have N2:=q0D (o:=.lst []) h2;have f2:Wk G1 p2 2e0 p2=some 2e0:=aA;have A2:=A1.kp N2;have YM:=N2.at el;have LL:=L.keep 3e44;have F2:=F1.trans 3e23;have nc:=A1.gS h2;generalize Wk G1 p2 2e0=G2 at *
   exists YM
   refine⟨by omega,fun v hv=>?_,fun hv=>?_⟩
   ·rcases LL.look k with⟨z,_⟩|⟨l,ws,z,hn,Zv,hl⟩
    ·rw[z] at hv;cases hv
    rw[z] at hv;cases hv;have lw:=(F.lw k ws hn).1;obtain⟨A3,_⟩:=A2.wN YM z 5e23;have F3:=F2.trans 8e37;rw[show dJ S.lt k 5e23=iA S.lt k w by rw[iA,hn]] at A3;rw[Α7,ϓ,List.map_nil] at A3 F3
    exists hl
    refine⟨by simp;omega,?_⟩;generalize Wk G2 l 3e42=G3 at *;wp_walk;right;wp_walk;refine fun c hc=>?_;have N4:=q0D (o:=.lst []) hc;exact q as _ c [] _ 4e23 0e13 (A3.gS hc).2 aA .nil 4e20
   ·rcases LL.look k with⟨z,hn⟩|⟨l,ws,z,_⟩
    rotate_left
    ·rw[z] at hv;cases hv
    have A3:=A2.N8 (ws:=[]) YM z f2 nc.1 nc.2;have F3:=F2.trans (Fw.set (p:=R.lt) (o:=.dK 4e3) 8e1);have f3:Wk G2 R.lt (.dK 4e3) p2=some 2e0:=cB YM f2;have Zd:Wk G2 R.lt (.dK 4e3) R.lt=some (.dK 4e3):=aA;have z3:aW 4e3 0e3=some 3e3:=by rw[fK,if_pos rfl]
    generalize Wk G2 R.lt (.dK 4e3)=G3 at *
    exists f3
    obtain⟨A4,_⟩:=A3.wN Zd z3 [w];have e4:dJ 2e42 k [w]=iA S.lt k w:=by rw[BM hn,iA,hn]
    rw[show({S with lt:=S.lt++[(k,([]:List Wo))]}:Pu).lt=S.lt++[(k,[])] from rfl,e4] at A4;have F4:Fw R as 2e13 H (Wk G3 p2 0e6):=by
     have z:=F3.fresh (o:=.lst [wv w]) Y0;exact⟨z.kp,z.dom,fun a ha=>by
      rcases Κ.mp ha with ha|ha
      ·exact .inl ha
      ·exact .inr 7e36⟩
    replace A4:a9 ⟨t.aP,t.aQ,t.aI⟩ (Wk G3 p2 0e6) R 2e13 3e4 {S with lt:=iA S.lt k w}:=A4;generalize Wk G3 p2 0e6=G4 at *;right;wp_walk;refine fun c hc=>?_;have N4:=q0D (o:=.lst []) hc;exact q 2e13 _ c [] _ (A4.kp N4) 7e52 (A4.gS hc).2 aA .nil (F4.trans 4e4)
theorem rV:Ok T T.i8 2 (yA t.aI):=by
 nomatch T.i8
 ·obtain⟨tk,tx,dp,da,made,pend,ans,i,w,rfl,_⟩:=h;rfl
 ·obtain⟨tk,tx,dp,da,made,pend,ans,i,w,rfl,R,hi,hl,q⟩:=h
  nomatch (pss2 (aL (pmt pv0 T.bI (mS T) T.iP 1e6)) (ppt 3e47 pv1 pv2)),0
  exists R.ins
  refine⟨tk,tx,dp,da,made,pend,ans,i,rfl,R,hi,fun H1 R1 K1=>?_⟩
  exists R1.ins,R1.ha,xM (wv w) (Jp fun p hp z=>R.dis p hp (z▸hi))
  have n1:=R.n1;refine⟨by simp only[iB,Δ];omega,q _ ⟨by rw[aD n1.2];exact R1.ins,by rw[aD R.nda];exact R1.hp,by rw[aA];simp[iB],R.nda,R1.lt,R1.asc,fun p hp=>?_,fun p hp z=>?_,R.small⟩ ?_⟩
  ·rcases Κ.mp hp with hp|hp
   ·exact R.la p hp
   ·rw[show p=(i,w) by simpa using hp];exact R.lt i hi
  ·rcases Κ.mp hp with hp|hp
   ·exact R1.dis p hp z
   ·rw[show p=(i,w) by simpa using hp] at z;simpa using(Ϛ.mp z).2
  ·intro b o eb nb;simp only[Α,Γ,Τ,not_or] at nb;rw[aD nb.2];exact K1.Wx eb nb.1
theorem wX:Ok T T.kX 15 (Hd ⟨t.aP,t.aQ,t.aI⟩ true):=by
 nomatch T.kX
 ·obtain⟨R,as,sl,S,i,w,N,rfl,_⟩:=h;rfl
 ·obtain⟨R,as,sl,S,i,w,N,rfl,A,F,hN,hw,hi,hn,q⟩:=h
  nomatch (pss3 (aL (pmt 6e5 T.bI (rV T) T.i8 (pa2 pv1 pv2))) (pif (PW.pt (dB 5e41 (cU (dQ gT pv1 (pix aK 2e10 aB) 1e2)))) (aH (aJ (pmt pv0 T.aU (wY T) T.pU 1e6)))) (aJ 7e0)),0
  left
  exists A.ins,A.tk.ins
  refine⟨R.tk,R.tx,R.dp,R.da,_,_,_,i,w,rfl,A.tk,hi,by have:=F.an;omega,fun H1 T1 K1=>?_⟩;have K2:Kp [R.tk,R.dp,R.da] H H1:=K1.mono 1e16
  have A1:a9 ⟨t.aP,t.aQ,t.aI⟩ H1 R as sl (S.done i w):=A.tick T1 K2;have F1:=A.CC T1 K2;have FD:=F.done (i:=i) hw;have wi:eD (some i):=eW (by have:=(A.tk.lt i hi).1;omega) (by have:=(A.tk.lt i hi).2;have:=F.md;omega);wp_walk;right;left;cases es:S.sl with
  | Wl=>rw[es] at hn;cases hn
  | wait ts =>
   have WC:=A1.slp;rw[show(S.done i w).sl=S.sl from rfl,es] at WC;obtain⟨p,p2,rfl,ep,ZI⟩:=WC;simp only[Pu.dW,es] at q
   exists A1.ins,ep,ZI,lD,nN
   refine⟨rfl,?_⟩;by_cases ht:i∈ts
   ·rw[if_pos ht] at q
    exists ht,decide_true,A1.ins
    exact⟨R,as,.ref p,_,some i,N+1,rfl,A1,FD,by omega,wi,.inr ⟨ts,es⟩,fun Xb c us H3 A3 hc ec hC F3=>q Xb c us H3 A3 7e2 ec hC 9e51⟩
   ·rw[if_neg ht] at q
    exists ht,decide_false
    right;wp_walk;refine fun c hc=>?_;have N4:=q0D (o:=.lst []) hc;exact q _ c [] _ 4e6 7e2 aA .nil 5e4
  | new =>
   have WC:=A1.slp;rw[show(S.done i w).sl=S.sl from rfl,es] at WC;obtain⟨p,rfl,ep⟩:=WC;simp only[Pu.dW,es] at q
   exists A1.ins,ep
   right;wp_walk;refine fun c hc=>?_;have N4:=q0D (o:=.lst []) hc;exact q _ c [] _ 4e6 7e2 aA .nil 5e4
  | Wp k =>
   have WC:=A1.slp;rw[show(S.done i w).sl=S.sl from rfl,es] at WC;obtain⟨p,rfl,ep⟩:=WC;simp only[Pu.dW,es] at q
   exists A1.ins,ep
   right;wp_walk;refine fun c hc=>?_;have N4:=q0D (o:=.lst []) hc;exact q _ c [] _ 4e6 7e2 aA .nil 5e4
  | ended u =>
   have WC:=A1.slp;rw[show(S.done i w).sl=S.sl from rfl,es] at WC;obtain⟨p,rfl,ep⟩:=WC;simp only[Pu.dW,es] at q
   exists A1.ins,ep
   right;wp_walk;refine fun c hc=>?_;have N4:=q0D (o:=.lst []) hc;exact q _ c [] _ 4e6 7e2 aA .nil 5e4
  | worn =>
   have WC:=A1.slp;rw[show(S.done i w).sl=S.sl from rfl,es] at WC;obtain⟨p,rfl,ep⟩:=WC;simp only[Pu.dW,es] at q
   exists A1.ins,ep
   right;wp_walk;refine fun c hc=>?_;have N4:=q0D (o:=.lst []) hc;exact q _ c [] _ 4e6 7e2 aA .nil 5e4
theorem EX:Ok T T.vT 16 (He ⟨t.aP,t.aQ,t.aI⟩ true):=by
 nomatch T.vT
 ·obtain⟨R,as,sl,S,v,h,N,rfl,_⟩:=h;rfl
 ·obtain⟨R,as,sl,S,v,h,N,rfl,A,F,hN,hn,hH,ok,q⟩:=h
  nomatch (aG (pif (jW (pmt pv0 T.aU (rS T) T.i6 1e6)) 1e51) (aG (dA T.aU T.sP pv0 (bG 5e11 rfl T.zP mE (pa2 0e21 3e0))) (pss3 (pif (ptc aS 3e0 aC) (pss2 (dA T.aU T.CW pv0 3e0) 5e39)) (pif (ptc aS 3e0 aC) (aH (aJ (pmt pv0 T.aU (wX T) T.kX (pa2 3e0 3e0))))) (aJ (pmt pv0 T.aU (rT T) T.i7 (pa2 3e0 3e0)))))),0
  left
  exists A.ins
  refine⟨R,as,sl,S,v,h,rfl,A,hn,hH,fun H1 K1=>?_⟩;have A1:=A.kp K1;obtain⟨a,rfl,eh⟩:=hH;have Zq:=K1.at eh;cases ho:S.over h with
  | true =>
   simp only[Pu.take,ho,Γ5] at q;wp_walk;have F1:=Fw.of (R:=R) (as:=as) K1;refine fun c hc=>?_;have N4:=q0D (o:=.lst []) hc;exact q as _ c [] _ 4e6 7e2 (A1.gS hc).2 aA .nil 5e4
  | false =>
   simp only[Pu.take,ho,Β1,ϗ] at q;wp_walk;right;cases h with
   | WR m w =>
    simp only[Hap.vs,Hap.ini,Hap.w,Ω,Α0] at Zq;refine bW fun R2 Xi=>?_
    exists A1.ins,Zq
    have F1:=Fw.of (R:=R) (as:=as) K1;have A2:=A1.attr sl S.sl S.ar 4e5 A1.slp;have YG:=Fw.set (R:=R) (as:=as) (H:=H1) (p:=R.x) (o:=5e5) 8e1;have eh2:=A1.tkp YG _ _ Zq;have F2:=F1.trans YG;clear YG;change R2 _ (Wk H1 R.x 5e5);generalize Wk H1 R.x 5e5=G2 at *;refine Xi _ _ ?_;clear Xi;clear R2
    exists A2.ins,eh2
    have A3:=A2.attr sl S.sl w 4e5 A2.slp;have F3:=F2.trans (Fw.set (p:=R.x) (o:=(jU t.aP R (sl) w 4e5)) 8e1);generalize Wk G2 R.x (jU t.aP R (sl) w 4e5)=G3 at *
    exists A3.ins
    have FF:Ww true ({S with nw:=later S.nw m,ar:=w,sl:=.Wl}:Pu) N:={F with pl:=⟨F.pl.nm,ok.2,F.pl.an⟩,nw:=(F.at' ok.1).nw,sl:=⟨fun k e=>4e52,fun k e=>4e52⟩};exact⟨R,as,sl,_,N,rfl,A3,FF,by omega,fun Xb c us H3 A4 hc ec hC F4=>q as Xb c us H3 A4 0e13 (A.gS 0e13).2 ec hC (F3.trans F4)⟩
   | don m i w =>
    simp only[Hap.vs,Hap.ini,Hap.w,Ω,Α0] at Zq;have hi:i∈S.pend:=by
     cases es:S.sl<;>simp only[Pu.over,es,Bool.not_eq_false',Δ9] at ho
     all_goals first|exact ho|cases ho
    refine bW fun R2 Xi=>?_
    exists A1.ins,Zq
    have F1:=Fw.of (R:=R) (as:=as) K1;have A2:=A1.attr sl S.sl S.ar 4e5 A1.slp;have YG:=Fw.set (R:=R) (as:=as) (H:=H1) (p:=R.x) (o:=5e5) 8e1;have eh2:=A1.tkp YG _ _ Zq;have F2:=F1.trans YG;clear YG;change R2 _ (Wk H1 R.x 5e5);generalize Wk H1 R.x 5e5=G2 at *;refine Xi _ _ ?_;clear Xi;clear R2
    exists A2.ins,eh2
    exact⟨R,as,sl,S.at' m,i,w,N,rfl,A2,F.at' ok.1,by omega,ok.2,hi,hn,fun Xb c us H3 A4 hc ec hC F4=>q as Xb c us H3 A4 6e17 (A.gS 6e17).2 ec hC 7e51⟩
   | ltr m k w =>
    simp only[Hap.vs,Hap.ini,Hap.w,Ω,Α0] at Zq;have hs:(∃ k,S.sl=.Wp k)\/∃ ts,S.sl=.wait ts:=by
     cases es:S.sl with
     | Wp k=>exact .inl ⟨k,rfl⟩
     | wait ts=>exact .inr ⟨ts,rfl⟩
     | Wl=>rw[es] at hn;cases hn
     | _=>simp only[Pu.over,es] at ho;cases ho
    refine bW fun R2 Xi=>?_
    exists A1.ins,Zq
    have F1:=Fw.of (R:=R) (as:=as) K1;have A2:=A1.attr sl S.sl S.ar 4e5 A1.slp;have YG:=Fw.set (R:=R) (as:=as) (H:=H1) (p:=R.x) (o:=5e5) 8e1;have eh2:=A1.tkp YG _ _ Zq;have F2:=F1.trans YG;clear YG;change R2 _ (Wk H1 R.x 5e5);generalize Wk H1 R.x 5e5=G2 at *;refine Xi _ _ ?_;clear Xi;clear R2
    exists A2.ins,eh2
    exact⟨R,as,sl,S.at' m,k,w,N,rfl,A2,F.at' ok.1,by omega,ok.2,hs,fun WO Xb c us H3 A4 hc nc ec hC F4=>q WO Xb c us H3 A4 6e17 nc ec hC 7e51⟩
theorem tR:Ok T T.jT 2 DM:=by
  nomatch T.jT
  · obtain⟨op,sd,ol,us,cs,c,d,rfl,_⟩:=h;rfl
  · obtain⟨op,sd,ol,us,cs,c,d,rfl,eo,hC,C0,ok0,bd,no,tl,q⟩:=h
    nomatch (pss2 (xK Γ4 rfl (jO pv0) (pgn 2) (aG (pif (jW 2e1) 0e4) (aG (pif (dQ gT 5e2 (aM 7e28) 1e2) (pss3 (pif (ptc xG 5e2 2e1) 0e4) (ppt pv1 aC (bC cI 2e1 aB)) (aL (c9 2e1 5e2)))) (pss3 (pif (PW.pt (dB (ptc aS 5e2 aC) (cU (sD (LD Pg Pg 2e1 5e2 5e3))))) 0e4) (pif (ptc aS 5e2 aC) (pss2 (pif (dQ rY 5e2 2e1 1e2) 0e4) (aL (m4 Δ2 PySem.F.type_list_remove Bt 2e1 (pa1 5e2))))) (pif (dQ gT 5e2 7e4 1e2) (pss2 (ppt pv1 aC iN) (ppt pv1 aC 7e0))))))) (aJ iN)),0
    left
    exists eo
    refine⟨⟨_,eU.of eo⟩,?_⟩;obtain⟨Pv,Wz⟩:∃ Pv:Nat->St->Hp->Prop,∀ i σ G,Pv i σ G=E3 fun(w:Option V) (c':Ck) (Wv:Addr)=>A8 (σ=[some 4e13,some 1e8,w]) (pI G sd Wv c') (c'.Ok) (c'.op.length<=c.op.length+i) (WE c' (cs.drop i) d) ((Wv=ol\/H Wv=none/\c'.ov=true)) (Kp [sd,ol] H G) (aE H G):=⟨_,fun _ _ _=>rfl⟩;have nos:op≠sd:=cL eo C0.hd 8e0;have lu:=hC.len;refine vW (xs:=us) Pv ?_ ?_ ?_ ?_
    · rw[Wz];exact⟨_,c,ol,rfl,C0,ok0,by omega,tl,.inl rfl,Kp.refl,fun _ _ e=>e⟩
    · intro i σ G _ h;rw[Wz] at h;obtain⟨_,_,_,_,_,_,_,_,_,K,_⟩:=h;exact eU.of (K _ _ eo (by simp[nos,no]))
    · intro i y σ G hi h;rw[Wz] at h;obtain⟨w0,c',Wv,rfl,C1,Y7,ln1,tl1,ho,KG,TG⟩:=h;obtain⟨a,cmd,rfl,ec,ea0⟩:=hC.at hi;have ea:=TG _ _ ea0;have il:i < cs.length:=(Λ.mp ec).1;rw[List.drop_eq_getElem_cons il,(Λ.mp ec).2] at tl1;cases tl1 with
      | cons ov1 t1 tl2 =>
        have e1:=C1.hd;have e2:=C1.hl;have v1:=FO c' Wv;have v2:=nJ c' Wv;have v3:=AR c' Wv;rw[ov1] at v3;have v4:=En c' Wv;have okd:=t1.ok Y7;have ol1:Wv=ol:=by
          rcases ho with z|⟨_,z⟩
          · exact z
          · rw[ov1] at z;cases z
        subst ol1;left
        exists e1,v3
        right;cases t1
        case snd =>
          left
          exists ea
          refine fun p1 h1=>⟨rfl,by decide +kernel,?_⟩;rw[if_neg 5e1];have N1:=q0D (o:=.lst [.str "order",.str "timer",.str "child"]) h1;have WZ:=N1.at ea;have C2:=C1.kp N1;generalize Wk G p1 8e11=G1 at *;right;left
          exists WZ
          right;left
          exists WZ
          right
          exists WZ
          refine fun p2 h2=>⟨rfl,by decide +kernel,?_⟩;rw[if_neg 5e1];have N2:=q0D (o:=.lst [.str "end",.str "worn"]) h2;have Zc:=N2.at WZ;have C3:=C2.kp N2;generalize Wk G1 p2 1e12=G2 at *;rw[Wz];have KK:=KG.trans ((N1.trans N2).mono 0e0);exact⟨_,c',Wv,rfl,C3,Y7,by omega,tl2,ho,KK,fun _ _ e=>(N1.trans N2).at 8e29⟩
        case new =>
          rename_i x y v hx
          have hx1:rG (.str x) [.str "order",.str "timer",.str "child"]=true:=by rcases hx with rfl|rfl<;>decide +kernel
          have hx2:(x=("timer":Str))=False:=by rcases hx with rfl|rfl<;>simp[bD]
          have hx3:(x=("drop":Str))=False:=by rcases hx with rfl|rfl<;>simp[bD]
          have hx4:¬ rG (.str x) [.str "end",.str "worn"]=true:=by rcases hx with rfl|rfl<;>decide +kernel
          left;refine cE fun RI Wt=>?_
          exists ea
          refine fun p1 h1=>⟨rfl,by decide +kernel,?_⟩;rw[if_pos (hx1)];have N1:=q0D (o:=.lst [.str "order",.str "timer",.str "child"]) h1;have WZ:=N1.at ea;have C2:=C1.kp N1;generalize Wk G p1 8e11=G1 at *;refine Wt _ _ ?_;clear Wt RI;have f1:=C2.hd;left
          exists WZ,f1,v1
          right;left
          exists f1,v1
          refine⟨by simp[fG],?_⟩;rw[show 0e48=((c'.made+1:Nat):Int) by omega,Ci];have S1:Kp [sd] G1 7e20:=Kp.set 0e0;have T1:aE G1 7e20:=aE.cA f1;have f2:Wk G1 sd (.dK 2e5) sd=some (.dK 2e5):=aA;have g2:=cB (u:=.dK 2e5) f1 C2.hl;have Zc:=T1 _ _ WZ;generalize Wk G1 sd (.dK 2e5)=G2 at *;have w2:=nJ {c' with made:=c'.made+1} Wv;right
          exists f2,w2,g2,Zc
          refine⟨by rw[Δ];omega,?_⟩;rw[show c'.op.map V.int++[V.int (c'.made:Int)]=(c'.op++[(c'.made:Int)]).map V.int by simp];have S2:Kp [Wv] G2 (Wk G2 Wv 3e7):=Kp.set 0e0;have T2:aE G2 (Wk G2 Wv 3e7):=aE.cA g2;have C4:pI (Wk G2 Wv 3e7) sd Wv {c' with made:=c'.made+1,op:=c'.op++[(c'.made:Int)]}:=⟨cB g2 f2,aA⟩;have XJ:=T2 _ _ Zc;have KK:=(N1.mono 0e0).trans 0e36;have TT:=(aE.nil N1).trans 5e51;generalize Wk G2 Wv 3e7=G3 at *;right;left
          exists XJ,hx2
          right;left
          exists XJ,hx3
          right
          exists XJ
          refine fun p4 h4=>⟨rfl,by decide +kernel,?_⟩;rw[if_neg (hx4)];have N4:=q0D (o:=.lst [.str "end",.str "worn"]) h4;have ea4:=N4.at XJ;have C5:=C4.kp N4;generalize Wk G3 p4 1e12=G4 at *;rw[Wz];exact⟨_,{c' with made:=c'.made+1,op:=c'.op++[(c'.made:Int)]},Wv,rfl,C5,okd,by first|(dsimp only;omega)|(simp;omega),tl2,.inl rfl,KG.trans 5e28,fun _ _ e=>N4.at 9e29⟩
        case tim =>
          rename_i dd hd1 hd2
          left;refine cE fun RI Wt=>?_
          exists ea
          refine fun p1 h1=>⟨rfl,by decide +kernel,?_⟩;rw[if_pos 5e1];have N1:=q0D (o:=.lst [.str "order",.str "timer",.str "child"]) h1;have WZ:=N1.at ea;have C2:=C1.kp N1;generalize Wk G p1 8e11=G1 at *;refine Wt _ _ ?_;clear Wt RI;have f1:=C2.hd;left
          exists WZ,f1,v1
          right;left
          exists f1,v1
          refine⟨by simp[fG],?_⟩;rw[show 0e48=((c'.made+1:Nat):Int) by omega,Ci];have S1:Kp [sd] G1 7e20:=Kp.set 0e0;have T1:aE G1 7e20:=aE.cA f1;have f2:Wk G1 sd (.dK 2e5) sd=some (.dK 2e5):=aA;have g2:=cB (u:=.dK 2e5) f1 C2.hl;have Zc:=T1 _ _ WZ;generalize Wk G1 sd (.dK 2e5)=G2 at *;have w2:=nJ {c' with made:=c'.made+1} Wv;right
          exists f2,w2,g2,Zc
          refine⟨by rw[Δ];omega,?_⟩;rw[show c'.op.map V.int++[V.int (c'.made:Int)]=(c'.op++[(c'.made:Int)]).map V.int by simp];have S2:Kp [Wv] G2 (Wk G2 Wv 3e7):=Kp.set 0e0;have T2:aE G2 (Wk G2 Wv 3e7):=aE.cA g2;have C4:pI (Wk G2 Wv 3e7) sd Wv {c' with made:=c'.made+1,op:=c'.op++[(c'.made:Int)]}:=⟨cB g2 f2,aA⟩;have XJ:=T2 _ _ Zc;have KK:=(N1.mono 0e0).trans 0e36;have TT:=(aE.nil N1).trans 5e51;generalize Wk G2 Wv 3e7=G3 at *;right;have w4:=En {c' with made:=c'.made+1,op:=c'.op++[(c'.made:Int)]} Wv;have f4:=C4.hd;left
          exists XJ,f4,w4
          rw[if_pos hd1,if_pos hd2];right;left
          exists XJ
          right
          exists XJ
          refine fun p4 h4=>⟨rfl,by decide +kernel,?_⟩;rw[if_neg 5e1];have N4:=q0D (o:=.lst [.str "end",.str "worn"]) h4;have ea4:=N4.at XJ;have C5:=C4.kp N4;generalize Wk G3 p4 1e12=G4 at *;rw[Wz];exact⟨_,{c' with made:=c'.made+1,op:=c'.op++[(c'.made:Int)]},Wv,rfl,C5,okd,by first|(dsimp only;omega)|(simp;omega),tl2,.inl rfl,KG.trans 5e28,fun _ _ e=>N4.at 9e29⟩
        case drp =>
          rename_i z hz
          left
          exists ea
          refine fun p1 h1=>⟨rfl,by decide +kernel,?_⟩;rw[if_neg 5e1];have N1:=q0D (o:=.lst [.str "order",.str "timer",.str "child"]) h1;have WZ:=N1.at ea;have C2:=C1.kp N1;generalize Wk G p1 8e11=G1 at *;right;have f1:=C2.hd;have g1:=C2.hl;left
          exists WZ
          right;left;refine cE fun RI Wt=>?_
          exists WZ
          refine Wt _ _ ?_;clear Wt RI;left
          exists WZ,f1,v2,g1
          refine⟨rfl,by rw[List.all_map];exact Ε5.mpr fun _ _=>rfl,?_⟩;rw[lD,if_neg 9e16];right
          exists WZ,f1,v2,g1
          obtain⟨kp,hkp⟩:=uH hz;refine⟨c'.op,rfl,?_⟩;rw[hkp];show R0 _ (Wk G1 Wv (.lst ((c'.op.eraseIdx kp).map V.int)));rw[gJ Y7.1 hkp];have S1:Kp [Wv] G1 (Wk G1 Wv 1e19):=Kp.set 0e0;have T1:aE G1 (Wk G1 Wv 1e19):=aE.cA g1;have C4:pI (Wk G1 Wv 1e19) sd Wv {c' with op:=c'.op.filter fun j=>decide 0e19}:=⟨cB g1 f1,aA⟩;have XJ:=T1 _ _ WZ;have KK:=(N1.mono 0e0).trans (S1.mono (T:=[sd,Wv]) 0e0);have TT:=(aE.nil N1).trans T1;have lf:=Α2 (fun j=>decide 0e19) c'.op;generalize Wk G1 Wv 1e19=G3 at *;right
          exists XJ
          refine fun p4 h4=>⟨rfl,by decide +kernel,?_⟩;rw[if_neg 5e1];have N4:=q0D (o:=.lst [.str "end",.str "worn"]) h4;have ea4:=N4.at XJ;have C5:=C4.kp N4;generalize Wk G3 p4 1e12=G4 at *;rw[Wz];exact⟨_,{c' with op:=c'.op.filter fun j=>decide 0e19},Wv,rfl,C5,okd,by first|(dsimp only;omega)|(simp;omega),tl2,.inl rfl,KG.trans 5e28,fun _ _ e=>N4.at 9e29⟩
        case fin =>
          left
          exists ea
          refine fun p1 h1=>⟨rfl,by decide +kernel,?_⟩;rw[if_neg 5e1];have N1:=q0D (o:=.lst [.str "order",.str "timer",.str "child"]) h1;have WZ:=N1.at ea;have C2:=C1.kp N1;generalize Wk G p1 8e11=G1 at *;right;have f1:=C2.hd;left
          exists WZ
          right;left
          exists WZ
          right;refine cE fun RI Wt=>?_
          exists WZ
          refine fun p2 h2=>⟨rfl,by decide +kernel,?_⟩;rw[if_pos 5e1];have N2:=q0D (o:=.lst [.str "end",.str "worn"]) h2;have Zc:=N2.at WZ;have C3:=C2.kp N2;generalize Wk G1 p2 1e12=G2 at *;refine Wt _ _ ?_;clear Wt RI;have f2:=C3.hd;have g2:=C3.hl;left
          exists f2
          refine⟨by simp[fG],?_⟩;rw[Cm];have S1:Kp [sd] G2 (Wk G2 sd 9e2):=Kp.set 0e0;have T1:aE G2 (Wk G2 sd 9e2):=aE.cA f2;have f3:Wk G2 sd 9e2 sd=some 9e2:=aA;generalize Wk G2 sd 9e2=G3 at *;right
          exists f3
          refine fun l hl=>?_;have hd3:Wk G3 l 2e0 sd=some 9e2:=(q0D hl).at f3
          exists hd3
          refine⟨by simp[fG],?_⟩;rw[Cj,Wz];have N3:=q0D (o:=.lst []) hl;have ns:sd≠l:=fun z=>by rw[z,hl] at f3;cases f3
          have el:Wk (Wk G3 l 2e0) sd 4e40 l=some 2e0:=by rw[aD ns.symm,aA]
          have hl0:H l=none:=by
            cases e:H l with
            | none=>rfl
            | some o=>exact absurd e (fun e=>by
                by_cases h1:l=sd
                · exact ns h1.symm
                · by_cases h2:l=Wv
                  · have:=S1 _ _ (C3.hl) 5e43;rw[<- h2,hl] at this;cases this
                  · have:=S1 _ _ 5e36 9e50;rw[hl] at this;cases this)
          exact⟨_,{c' with ov:=true,op:=[]},l,rfl,⟨aA,el⟩,okd,by simp,tl2,.inr ⟨hl0,rfl⟩,KG.trans 6e33,fun _ _ e=>aE.cA hd3 6e3 _ _ 4e36⟩
        case wrn =>
          left
          exists ea
          refine fun p1 h1=>⟨rfl,by decide +kernel,?_⟩;rw[if_neg 5e1];have N1:=q0D (o:=.lst [.str "order",.str "timer",.str "child"]) h1;have WZ:=N1.at ea;have C2:=C1.kp N1;generalize Wk G p1 8e11=G1 at *;right;have f1:=C2.hd;left
          exists WZ
          right;left
          exists WZ
          right;refine cE fun RI Wt=>?_
          exists WZ
          refine fun p2 h2=>⟨rfl,by decide +kernel,?_⟩;rw[if_pos 5e1];have N2:=q0D (o:=.lst [.str "end",.str "worn"]) h2;have Zc:=N2.at WZ;have C3:=C2.kp N2;generalize Wk G1 p2 1e12=G2 at *;refine Wt _ _ ?_;clear Wt RI;have f2:=C3.hd;have g2:=C3.hl;left
          exists f2
          refine⟨by simp[fG],?_⟩;rw[Cm];have S1:Kp [sd] G2 (Wk G2 sd 9e2):=Kp.set 0e0;have T1:aE G2 (Wk G2 sd 9e2):=aE.cA f2;have f3:Wk G2 sd 9e2 sd=some 9e2:=aA;generalize Wk G2 sd 9e2=G3 at *;right
          exists f3
          refine fun l hl=>?_;have hd3:Wk G3 l 2e0 sd=some 9e2:=(q0D hl).at f3
          exists hd3
          refine⟨by simp[fG],?_⟩;rw[Cj,Wz];have N3:=q0D (o:=.lst []) hl;have ns:sd≠l:=fun z=>by rw[z,hl] at f3;cases f3
          have el:Wk (Wk G3 l 2e0) sd 4e40 l=some 2e0:=by rw[aD ns.symm,aA]
          have hl0:H l=none:=by
            cases e:H l with
            | none=>rfl
            | some o=>exact absurd e (fun e=>by
                by_cases h1:l=sd
                · exact ns h1.symm
                · by_cases h2:l=Wv
                  · have:=S1 _ _ (C3.hl) 5e43;rw[<- h2,hl] at this;cases this
                  · have:=S1 _ _ 5e36 9e50;rw[hl] at this;cases this)
          exact⟨_,{c' with ov:=true,op:=[]},l,rfl,⟨aA,el⟩,okd,by simp,tl2,.inr ⟨hl0,rfl⟩,KG.trans 6e33,fun _ _ e=>aE.cA hd3 6e3 _ _ 4e36⟩
    · intro σ G h;rw[Wz] at h;obtain⟨w0,c',Wv,rfl,C1,Y7,ln1,tl1,ho,KG,TG⟩:=h;rw[lu,List.drop_length] at tl1;cases tl1;right;wp_walk;exact q _ _ C1 (ho.imp id And.left) KG TG
theorem n9:Ok T T.gL 1 (AA t.aI):=by
 nomatch T.gL
 ·obtain⟨tk,tx,dp,da,made,pend,ans,rfl,_⟩:=h;rfl
 ·obtain⟨tk,tx,dp,da,made,pend,ans,rfl,R,h64,q⟩:=h
  nomatch (aH (aJ (bG (Em rfl) rfl T.uM zW (pa1 4e16)))),0
  exists R.ins,R.hp,IE
  exact⟨R.asc,fun l WG hl hp hs=>by rw[nC hp hs R.asc];exact q l hl⟩
theorem qE:Ok T T.iG 2 (Hc ⟨t.aP,t.aQ,t.aI⟩):=by
 nomatch T.iG
 ·obtain⟨R,as,sl,S,rfl,_⟩:=h;rfl
 ·obtain⟨R,as,sl,S,rfl,A,h64,q⟩:=h
  nomatch (aH (aJ (pmt0 6e5 T.bI (n9 T) T.gL))),0
  exists A.ins,A.tk.ins
  exact⟨R.tk,R.tx,R.dp,R.da,_,_,_,rfl,A.tk,h64,q⟩
theorem qH:Ok T T.iH 14 (x9 ⟨t.aP,t.aQ,t.aI⟩):=by
 nomatch T.iH
 ·obtain⟨R,as,sl,S,sd,ol,rfl,_⟩:=h;rfl
 ·obtain⟨R,as,sl,S,sd,ol,rfl,RA,hn,C0,bd,wi,q⟩:=h
  nomatch (aG (pst 2 (pmt0 pv0 T.aU (mR T) T.j8)) (aG (pif (PW.pt (Ds (ptc 6e12 (pmt0 pv0 T.aU (qE T) T.iG) 2e1) (xN (ptc xG (BD gT 5e2 7e4 1e2) 2e1)))) 0e4) (aG (pif (ptc xG 5e2 aC) 0e4) (pss3 (BI (i:=3) sc rfl 4e31 (cD Hz rfl T.Mr MG (pa1 5e2))) (pE (i:=4) (fr:=[3]) (N:=["ticket","tickets"]) rfl 6e2 (eR.free rfl rfl rfl rfl rfl 6e2 rfl 5e0 rfl (fun j hj=>by rw[show j=3 by simpa using hj];exact⟨_,rfl,rfl,.inl rfl⟩)) (jO 2e1) 7e25 sc rfl 5e17) (aJ (Lr (pcr 6e12 pv3 7e0) (jD (pcr 1e21 pv3 pv4)))))))),0
  left
  exists RA.ins
  refine⟨R,as,_,S,rfl,RA,?_⟩;wp_walk;obtain⟨p0,r0,rfl,ep⟩:=RA.slp.tp hn;have f1:=C0.hd;have v2:=nJ S.ck ol;have v3:=AR S.ck ol;right;left
  exists RA.ins
  refine⟨R,as,_,S,rfl,RA,by omega,fun l hl=>?_⟩;have N1:=q0D (o:=.lst 8e12) hl;have el:Wk H l (.lst 8e12) l=some (.lst 8e12):=aA;have f2:=N1.at f1;have C1:=C0.kp N1;have Zf:=N1.at ep;generalize Wk H l (.lst 8e12)=G1 at *
  exists f2,v2
  refine⟨true,Gv 0 el C1.hl,?_⟩
  exists Zf
  refine fun p1 h1=>⟨rfl,by decide +kernel,?_⟩;generalize hg:Wk G1 p1 (.lst [.str "ended",.str "worn"])=G2;have N2:Kp [] G1 G2:=hg▸Kp.new h1;clear hg;have ZI:=N2.at Zf;have f3:=N2.at f2;have C2:=C1.kp N2;rw[Uh]
  exists f3,v3
  rw[if_pos (show S.sl.ov=S.ck.ov from rfl)];have K2:=N1.trans N2;right;left
  exists ZI
  by_cases hw:S.sl.md=("wait":Str)
  ·rw[if_pos hw];right;obtain⟨ts,hts⟩:=Lc hw;have hs:=RA.slp;rw[hts] at hs;obtain⟨q1,q2,eq1,e5,e6⟩:=hs;cases eq1;obtain⟨w1,w2⟩:=wi ts hts;have e7:=K2.at e5;have e8:=K2.at e6;have lts:ts.length<=100000:=by
    rw[w2];have:=Α2 7e42 S.pend;omega
   have g3:=C2.hl;left
   exists e7,e8
   refine fun l3 h3=>?_;generalize hg:Wk G2 l3 9e15=G3;have N3:Kp [] G2 G3:=hg▸Kp.new h3;have e9:G3 l3=some 9e15:=hg▸aA;clear hg;have f4:=N3.at f3;have g4:=N3.at g3;wp_walk;right;left
   exists f4,v2
   refine⟨⟨_,eU.of g4⟩,?_⟩;obtain⟨Pw,WJ⟩:∃ Pw:Nat->List V->Hp->Prop,∀ i xs G',Pw i xs G'=(G'=G3/\xs=((S.pend.take i).filter fun j=>decide (j∈ts)).map V.int):=⟨_,fun _ _ _=>rfl⟩;refine tZ (ys:=S.pend.map V.int) Pw ?_ ?_ ?_ ?_ ?_
   ·rw[WJ];exact⟨rfl,rfl⟩
   ·intro i xs G' h;rw[WJ] at h;have:=Α2 7e42 5e49;rw[h.2,Δ];rw[Α8] at this;omega
   ·intro i xs G' h;rw[WJ] at h;rw[h.1];exact eU.of g4
   ·intro i y xs G' hi ey h;rw[WJ] at h;obtain⟨rfl,rfl⟩:=h;rw[ϒ] at ey;obtain⟨j0,ej,rfl⟩:=ϛ.mp ey
    exists aV,Β8,e9,lD
    refine⟨rfl,by rw[List.all_map];exact Ε5.mpr fun _ _=>rfl,?_⟩;rw[WJ,WJ,zZ ej];split
    ·next h=>exact⟨rfl,(if_pos 5e10).symm⟩
    ·next h=>exact⟨rfl,(if_neg 5e10).symm⟩
   intro xs G' h p4 hp4;rw[WJ,Δ,Α3,<- w2] at h;obtain⟨rfl,rfl⟩:=h;have N4:=q0D (o:=.lst 8e15) hp4;have eA:Wk G' p4 9e15 p4=some 9e15:=aA;have eB:=N4.at e9;generalize Wk G' p4 9e15=G4 at *;right
   exists eB
   intro p5 h5;have N5:=q0D (o:=.lst []) h5;refine⟨_,Du (N5.at eB) aA,?_⟩;rw[if_pos (by cases ts with|nil=>exact absurd rfl w1|cons _ _=>rfl)];exact⟨true,Gv 0 (N5.at eB) (N5.at eA),q _ (((K2.trans N3).trans N4).trans N5)⟩
  ·rw[if_neg hw];exact q _ K2
theorem Rt:Ok T T.TC 40 (Ha K):=by
 nomatch T.TC
 ·obtain⟨a,ns,rfl,_⟩:=h;rfl
 ·obtain⟨a,ns,rfl,hS,h63,q⟩:=h
  nomatch (aG (pst 1 (pcl (zI T) T.mN (pa1 6e39))) (aG (pst 2 (pcl (IA T) T.Bg (pa2 pv1 6e39))) (aG (pst 3 (GN T.Ld (EV T) (hr.mono 1e0) rfl T.VP T.vR.bd .nil pass0 1e6)) (pss3 (pst 4 (BE (dF aC aB (dF aC 7e0 (dF aC iN (dF aC aB BH)))) rfl rfl 9e28 5e0)) (xK Γ4 rfl (jO pv2) (pgn 5) (aG (pst 6 6e41) (aG (pst 7 (GO 4e22 (jD (pcr xG (pcr 1e21 pv6 9e7) (pcr aS 8e5 aC))))) (aG (pif (ptc aS 8e5 aC) (aH (pst 7 (GO pv7 (jD (BD rY 8e5 4e22 1e2)))))) (aG (pif 6e50 (aH (ppt pv4 aC (bG 5e11 rfl T.zP mE (pa2 4e22 8e5))))) (aG (pif (PW.pt (dB 6e50 (cU (ptc aS 8e5 aC)))) (aH (aL (m4 Δ2 PySem.F.type_list_remove Bt 4e22 (pa1 8e5))))) (aG (pst 8 (pmt pv3 T.aU (EX T) T.vT (pa1 pv5))) (aG (pif (PW.pt (dB (jW pv7) (cU (PW.pt (Ds (ptc 6e12 (pv 8) 7e0) (xN (ptc (mX 2 (qB hr 5e0)) 6e41 pv6))))))) 0e4) (pss3 (pif (PW.pt (dB (ptc aS 9e21 aC) (dB (ptc aS 8e5 aC) (dB (ptc xG 8e5 9e21) 4e42)))) 0e4) (pif (PW.pt (dB (dQ (Rz 1 (qB hr 5e0)) (aM (pa2 9e21 8e5)) (aM (pa2 7e4 7e4)) 1e2) 4e42)) 0e4) (pif (PW.pt (Ds (sD (jW (pcl (tR T) T.jT (pa2 (pv 8) pv4)))) (xN (sD (jW (pcl (qH T) T.iH (pa2 pv3 pv4))))))) 0e4)))))))))) (aJ iN))))),0
  left;wp_walk;refine⟨a,_,2,rfl,hS,rfl,by decide,fun ys q1 hy ly m1=>?_⟩;obtain⟨ms,rfl,lm⟩:=Gx hy;rw[Δ,Δ] at ly;have N1:=q0D (o:=.lst 1e50) m1;replace hS:=N1.same.seq hS;refine⟨q1,ms,rfl,aA,by omega,fun p1 us b G1 ep hsb gb db zb K1=>?_⟩;replace hS:=K1.same.seq hS;clear N1 m1 hy K1;wp_walk;right;refine bW fun R2 Xi=>?_;wp_walk;refine⟨a,_,2,rfl,hS,rfl,by decide,fun ys q2 hy ly2 m2=>?_⟩;obtain⟨ms2,rfl,lm2⟩:=Gx hy;rw[Δ,Δ] at ly2;have N2:=q0D (o:=.lst (ms2.map V.int)) m2;refine⟨p1,q2,us,b,ms2,rfl,N2.at ep,hsb.kp (aE.nil N2),gb,by omega,by omega,aA,by omega,fun rl hv hs G3 er hH ok lh K2=>?_⟩;replace K2:=N2.trans K2;replace ep:=K2.at ep;replace hsb:=hsb.kp 7e31;have er3:=er;clear N2 m2 hy hS K2;wp_walk;refine Xi _ _ ?_;clear Xi;clear R2;left;have lu:=hsb.len;have lbz:=lE b
  exists ep
  refine Ro ep hsb fun R sl G4 RA K4 NR=>?_;replace er:=K4.at er;replace hH:=hH.kt 1e23;have lh2:=hH.len;have ab7:rl∉R.cells:=fun z=>by rw[NR rl z] at er3;cases er3
  right;left;wp_walk;refine fun sd hsd ol ZT=>⟨(q0D ZT).at aA,fG (eQ b).ck ol,rfl,by simp[fG],?_⟩;have xo:ol≠sd:=fun z=>by rw[z,aA] at ZT;cases ZT
  have aaK:G4 ol=none:=by rw[aD xo] at ZT;exact ZT
  rw[show dR [] 2e30=fG (eQ b).ck ol by simp[dR,fG,aO,bD]];have K5:Kp [] G4 4e34:=fun b o e _=>by rw[aD (aF e hsd),aD (aF e aaK),aD (aF e hsd)];exact e
  have C5:pI 4e34 sd ol (eQ b).ck:=⟨aA,by rw[aD xo,aA];rfl⟩;have acA:∀ x,x∈R.cells\/x∈([]:List Addr)->x≠sd/\x≠ol:=fun x hx=>by
   obtain⟨o,e,_⟩:=RA.cellK hx;exact⟨fun z=>(by rw[z,hsd] at e;cases e),fun z=>(by rw[z,aaK] at e;cases e)⟩
  have nro:rl≠ol:=fun z=>by rw[z,aaK] at er;cases er
  generalize Wk (Wk (Wk G4 sd 9e6) ol 2e0) sd (.dK 2e30)=G5 at *;replace er:=K5.at er;replace hH:=hH.kt 6e31;replace RA:=RA.kp K5;right;left
  exists er
  refine⟨⟨_,eU.of er⟩,?_⟩;obtain⟨Pv,Wz⟩:∃ Pv:Nat->St->Hp->Prop,∀ i σ G,Pv i σ G=E7 fun(v5 v6 v7 v8:Option V) (as:List Addr) (sl:V) (ol:Addr)=>A13 (σ=[some 3e1,some 2e4,some 6e6,some 0e5,some 1e8,v5,v6,v7,v8]) (a9 ⟨t.aP,t.aQ,t.aI⟩ G R as sl (takes 6e1 9e4).1) (Ww true (takes 6e1 9e4).1 (302 * i)) ((takes 6e1 9e4).1.sl.isN=false) ((takes 6e1 9e4).1.ck.Ok) (Jb (takes 6e1 9e4).1) (pI G sd ol (takes 6e1 9e4).1.ck) ((∀ x,x∈R.cells\/x∈as->x≠sd/\x≠ol)) 0e45 3e52 (rl≠ol) (rl∉R.cells) (rl∉as):=⟨_,fun _ _ _=>rfl⟩;refine vW (xs:=hv) Pv ?_ ?_ ?_ ?_
  ·rw[Wz];exact⟨_,_,_,_,[],sl,ol,rfl,RA,Gk gb 1e0,rfl,⟨List.Pairwise.nil,fun i hi=>by cases hi⟩,3e29,C5,acA,er,hH,nro,ab7,by simp⟩
  ·intro i σ G _ h;rw[Wz] at h;obtain⟨_,_,_,_,_,_,_,_,_,_,_,_,_,_,_,e,_⟩:=h;exact eU.of e
  ·intro i y σ G hi h;rw[Wz] at h;obtain⟨v5,v6,v7,v8,as,sl,ol,rfl,RG,FT,hn,Y7,wi,CG,sep,eG,hG,nr1,nr2,nr3⟩:=h;obtain⟨x,ex,hx⟩:=hG.gI hi;have il:i < hs.length:=(Λ.mp ex).1;have hf:=ok x (Α1 ex);have es:takes 6e1 (hs.take 7e1)=(((takes 6e1 9e4).1.take x).1,(takes 6e1 9e4).2++[((takes 6e1 9e4).1.take x).2]):=by rw[Β9,ex,Β2,pH]
   generalize eS:(takes 6e1 9e4).1=S at *;obtain⟨a0,rfl,ea0⟩:=hx;obtain⟨rx,erx⟩:=x.UP;have WZ:=ea0;rw[erx] at WZ;obtain⟨p0,r0,rfl,ep0⟩:=RG.slp.tp hn;have f1:=CG.hd;have w1:=FO S.ck ol;have w2:=nJ S.ck ol;have w3:=AR S.ck ol;have w4:=En S.ck ol;left
   exists RG.ins
   refine⟨R,as,_,S,rfl,RG,?_⟩;wp_walk;right;left
   suffices k7:∀ G',Kp [] G G'->R0 [some 3e1,some 2e4,some 6e6,some 0e5,some 1e8,some 7e6,some 2e11,some (.bl (S.sl.ov||7e47)),v8] G' by
    exists f1,w3
    by_cases ov:S.ck.ov=true
    ·rw[if_pos ov];have:=k7 G Kp.refl
     rwa [show S.sl.ov=true from ov,Bool.true_or] at this
    ·rw[if_neg ov];intro q0 hq0;have N0:=q0D (o:=.tup [.str "new"]) hq0;refine⟨_,Rq (RG.slp.kt (aE.nil N0)) hn aA,?_⟩;have k7':=k7 _ N0;have Zc:=N0.at WZ;rw[show S.sl.ov=false by simpa[Pu.ck] using ov,Bool.false_or] at k7';generalize Wk G q0 8e46=G' at *
     exists Zc,Rj
     rw[show(!decide (S.sl.nb=decide (x.isB=true)))=7e47 by cases S.sl.nb<;>cases x.isB<;>rfl];exact k7'
   intro G1 K1;right;have RG1:=RG.kp K1;have Z8:=CG.kp K1;have XJ:=K1.at WZ;have ea4:=K1.at ea0;left
   suffices k8:R0 [some 3e1,some 2e4,some 6e6,some 0e5,some 1e8,some 7e6,some 2e11,some 5e16,v8] G1 by
    cases hd:x.isD with
    | false =>
     rw[RC hn hd] at k8
     exists XJ,KI,hd
     exact k8
    | true =>
     obtain⟨m,z,w,rfl⟩:∃ m z w,x=.don m z w:=by cases x<;>first|exact⟨_,_,_,rfl⟩|cases hd
     rw[Dk hn] at k8;have ea5:G1 a0=some 9e37:=ea4;have f5:=Z8.hd;have g5:=Z8.hl
     exists ea5
     by_cases hp:(S.sl.ov||8e47)=true
     ·rw[hp,Bool.true_or] at k8;rw[if_pos (show(S.sl.ov||S.sl.nb !=(Hap.don m z w).isB)=true from hp)];exact k8
     ·rw[show(S.sl.ov||8e47)=false by simpa using hp,Bool.false_or] at k8;rw[if_neg (show ¬ (S.sl.ov||S.sl.nb !=(Hap.don m z w).isB)=true from hp)]
      exists f5,w2,g5,ea5
      refine⟨rfl,by rw[List.all_map];exact Ε5.mpr fun _ _=>rfl,?_⟩;rw[lD];exact k8
   right;refine MO fun R2 Xi=>?_
   suffices k10:∀ G2,pI G2 sd ol 9e36->Kp [sd,ol] G1 G2->aE G1 G2->R2 [some 3e1,some 2e4,some 6e6,some 0e5,some 1e8,some 7e6,some 2e11,some 5e16,v8] G2 by
    have f5:=Z8.hd;have g5:=Z8.hl;by_cases ho:S.over x=true
    ·rw[if_pos ho] at k10;have k11:=k10 G1 Z8 Kp.refl fun _ _ e=>e;rw[ho] at k11 ⊢;wp_walk;exact k11
    ·rw[if_neg ho] at k10;have WU:S.over x=false:=by simpa using ho
     rw[WU] at k10 ⊢;left
     exists f5,w4,XJ
     refine⟨by simp[fG],?_⟩;rw[MM];generalize hg:Wk G1 sd 2e39=G2;have K2:Kp [sd] G1 G2:=hg▸Kp.set 0e0;have T2:aE G1 G2:=hg▸aE.cA f5 6e3;have f6:G2 sd=some 2e39:=hg▸aA;have g6:G2 ol=some (.lst 8e12):=hg▸cB f5 g5 8e0;clear hg;have ea6:=T2 _ _ XJ;right;cases hd:x.isD with
     | false =>
      have k11:=k10 G2 (by
       have:S.ck.pre x={S.ck with nw:=9e33}:=by cases x<;>first|rfl|cases hd
       rw[this];exact⟨f6,g6⟩) (K2.mono 0e0) T2
      exists ea6,KI,hd
      exact k11
     | true =>
      obtain⟨m,z,w,rfl⟩:∃ m z w,x=.don m z w:=by cases x<;>first|exact⟨_,_,_,rfl⟩|cases hd
      have ea7:G2 a0=some 9e37:=T2 _ _ ea4
      exists ea7,f6,nJ,g6
      have hz:z∈S.pend:=Classical.byContradiction fun hz=>by
       rw[Dk hn] at WU;simp[hz] at WU
      obtain⟨kp,hkp⟩:=uH hz;refine⟨S.pend,rfl,?_⟩;rw[hkp];show R2 _ (Wk G2 ol (.lst ((S.pend.eraseIdx kp).map V.int)));rw[gJ (l:=S.pend) Y7.1 hkp];exact k10 _ ⟨cB g6 f6,aA⟩ ((K2.mono (T:=[sd,ol]) 0e0).trans (Kp.set 0e0)) (T2.trans (aE.cA g6))
   intro G2 C2 K2 T2;refine Xi _ _ ?_;clear Xi;have hx2:mC G2 7e6 x:=⟨a0,rfl,T2 _ _ ea4⟩;have RG2:=RG1.keep (fun z o e hz=>K2 z o e (by
    have Zy:z≠sd/\z≠ol:=by
     rcases hz with rfl|hz
     ·obtain e9:=RG1.wk.ins;exact⟨fun q=>(by rw[q,Z8.hd] at e9;cases e9),fun q=>(by rw[q,Z8.hl] at e9;cases e9)⟩
     ·exact sep z hz
    simp[Zy.1,Zy.2])) T2
   left
   exists RG2.ins
   refine⟨R,as,_,S,.ref a0,x,302 * i,rfl,RG2,FT,by omega,hn,hx2,hf,fun as2 ZE c uc G3 Yz hc nc ec hC W3=>?_⟩;have T3:=RG2.tkp W3;have ns:∀ z,(z=sd\/z=ol)->z∉R.cells/\z∉as:=fun z hz=>⟨fun w=>(sep z (.inl w)).elim fun q1 q2=>hz.elim q1 q2,fun w=>(sep z (.inr w)).elim fun q1 q2=>hz.elim q1 q2⟩;have C3:pI G3 sd ol 9e36:=⟨W3.kp _ _ C2.hd (ns _ 3e13).1 (ns _ 3e13).2,W3.kp _ _ C2.hl (ns _ (.inr rfl)).1 (ns _ (.inr rfl)).2⟩;have Xb:jZ G3 2e11 S.sl:=((RG.slp.kt 8e2).kt T2).kt T3;have ep3:=T3 _ _ (T2 _ _ (K1.at ep0));have ea8:=T3 _ _ (T2 _ _ XJ);have aaX:∀ z,z∈R.cells\/z∈as2->z≠sd/\z≠ol:=fun z hz=>by
    rcases hz with hz|hz
    ·exact sep z (.inl hz)
    ·rcases W3.new z hz with w|w
     ·exact sep z (.inr w)
     ·exact⟨fun q=>(by rw[q,C2.hd] at w;cases w),fun q=>(by rw[q,C2.hl] at w;cases w)⟩
   wp_walk;right;left
   suffices k12:∀ G4,Kp [] G3 G4->R0 [some 3e1,some 2e4,some 6e6,some 0e5,some 1e8,some 7e6,some 2e11,some 5e16,some 5e18] G4 by
    wp_walk;by_cases ho:S.over x=true
    ·rw[if_pos ho];have tk:S.take x=(S,[]):=by unfold Pu.take;rw[if_pos ho]
     rw[tk] at Yz hC;cases hC;intro q4 h4;have N4:=q0D (o:=.lst []) h4;refine⟨_,Du (N4.at ec) aA,?_⟩;rw[if_neg 0e0];have RA4:=Yz.kp N4;have sl4:=Xb.kt 0e23;obtain⟨p6,r6,rfl,e6⟩:=RA4.slp.tp hn;replace k12:=k12 _ N4;generalize Wk G3 q4 2e0=G4 at *
     exists RA4.ins
     refine⟨R,as2,_,S,rfl,RA4,?_⟩;wp_walk;refine⟨true,RY RA4.slp sl4 hn,?_⟩;wp_walk;exact k12
    ·rw[if_neg ho];exact k12 _ Kp.refl
   intro G4 K4;right;replace Yz:=Yz.kp K4;replace C3:=C3.kp K4;replace ec:=K4.at ec;replace hC:=hC.kt 1e23;replace Xb:=Xb.kt 1e23;replace ep3:=K4.at ep3;replace ea8:=K4.at ea8;left
   suffices k13:∀ G5,Kp [] G4 G5->R0 [some 3e1,some 2e4,some 6e6,some 0e5,some 1e8,some 7e6,some 2e11,some 5e16,some 5e18] G5 by
    exists ep3,ea8
    by_cases hh:S.sl.md=("hear":Str)
    ·rw[if_pos hh];by_cases hl:x.kw=("letter":Str)
     ·rw[if_pos hl];obtain⟨k,hk⟩:=Lb hh;obtain⟨m,k2,w,rfl⟩:=KJ hl;have hrx:[V.str k2,wv w]=rx:=(List.cons.inj (List.cons.inj erx).2).2;subst hrx;rw[hk] at Xb;obtain⟨_,z,e9⟩:=Xb;cases z
      exists e9
      by_cases hkk:k2=k
      ·rw[if_pos hkk];exact k13 _ Kp.refl
      ·rw[if_neg hkk];rw[OM hk hkk] at hC;cases hC;intro q5 h5;have N5:=q0D (o:=.lst []) h5;refine⟨_,Du (N5.at ec) aA,?_⟩;rw[if_neg 0e0];exact k13 _ N5
     ·rw[if_neg hl];exact k13 _ Kp.refl
    ·rw[if_neg hh];exact k13 _ Kp.refl
   intro G5 K5;right;replace Yz:=Yz.kp K5;replace C3:=C3.kp K5;replace ec:=K5.at ec;replace hC:=hC.kt 6e31;replace ep3:=K5.at ep3;replace ea8:=K5.at ea8;left
   suffices k14:∀ G6,Kp [] G5 G6->R0 [some 3e1,some 2e4,some 6e6,some 0e5,some 1e8,some 7e6,some 2e11,some 5e16,some 5e18] G6 by
    exists ep3,ea8
    intro l0 h0;generalize hg0:Wk G5 l0 3e40=Ga;have Na:Kp [] G5 Ga:=hg0▸Kp.new h0;have ea:Ga l0=some 3e40:=hg0▸aA;intro l1 h1;generalize hg1:Wk Ga l1 8e39=Gb;have Nb:Kp [] Ga Gb:=hg1▸Kp.new h1;have eb:Gb l1=some 8e39:=hg1▸aA;intro l2 h2;generalize hg2:Wk Gb l2 9e38=Gc;have Nc:Kp [] Gb Gc:=hg2▸Kp.new h2;have ecc:Gc l2=some 9e38:=hg2▸aA;intro l3 h3;generalize hg3:Wk Gc l3 (.lst [.ref l1,.ref l2])=Gd;have Nd:Kp [] Gc Gd:=hg3▸Kp.new h3;have XM:Gd l3=some (.lst ([l1,l2].map V.ref)):=hg3▸aA;clear hg0 hg1 hg2 hg3;have n01:l1≠l0:=fun z=>by rw[z,ea] at h1;cases h1
    have n02:l2≠l0:=fun z=>by rw[z,Nb.at ea] at h2;cases h2
    have n12:l2≠l1:=fun z=>by rw[z,eb] at h2;cases h2
    have KD:=((Na.trans Nb).trans Nc).trans Nd;refine⟨[l1,l2],fun l=>if l=l1 then (decide 7e44&&decide 1e47) else (decide 6e44&&decide 5e45),XM,fun l hl=>?_,?_⟩
    ·simp only[Α,Γ,Τ] at hl;have e0:=Nd.at (Nc.at (Nb.at ea));rcases hl with rfl|rfl
     ·dsimp only;rw[if_pos rfl];exact .refs n01 (Mm (Nd.at (Nc.at eb)) e0)
     ·dsimp only;rw[if_neg n12];exact .refs n02 (Mm (Nd.at ecc) e0)
    ·have aa2:([l1,l2].any fun l=>if l=l1 then (decide 7e44&&decide 1e47) else (decide 6e44&&decide 5e45))=true->(S.take x).2=[]:=fun h=>by
      simp only[Δ8,List.any_nil,Bool.or_false,if_pos,if_neg n12,Bool.or_eq_true,Γ3,Δ9] at h;rcases h with⟨h1,h2⟩|⟨h1,h2⟩
      ·obtain⟨k,hk⟩:=Lb h1.symm;cases x with
       | don m z w=>exact Mh hk
       | WR m w=>exact absurd h2 9e45
       | ltr m k w=>exact absurd h2 9e45
      ·obtain⟨ts,hk⟩:=Lc h1.symm;obtain⟨m,k,w,rfl⟩:=KJ h2.symm;exact Mi hk
     generalize ([l1,l2].any _)=rr at aa2 ⊢;wp_walk;by_cases hrr:rr=true
     ·rw[if_pos hrr];rw[aa2 hrr] at hC;cases hC;intro q6 h6;have N6:=q0D (o:=.lst []) h6;refine⟨_,Du ((KD.trans N6).at ec) aA,?_⟩;rw[if_neg 0e0];exact k14 _ (KD.trans N6)
     ·rw[if_neg hrr];exact k14 _ KD
   intro G6 K6;right;replace Yz:=Yz.kp K6;replace C3:=C3.kp K6;replace ec:=K6.at ec;replace hC:=hC.kt 4e53
   exists Yz.ins
   obtain⟨tl,wi6,abE,ln6⟩:=Mj FT hn Y7 wi x hf.1.2;obtain⟨Wx,at2⟩:=Fo S x;have pd:=FT.pd;have nco:c≠ol:=fun z=>by rw[z,C2.hl] at hc;cases hc
   have FT6:Ww true (S.take x).1 (302 * 7e1):=by
    rw[show 302 * 7e1=302 * i+302 by omega];exact FT.Hn x hf.1 hf.2 (fun j hj=>eW (by have:=(Y7.2 j hj).1;omega) (by have:=(Y7.2 j hj).2;have:=FT.md;have:(S.ck.made:Int)=S.made:=rfl;omega)) 1e0
   have pd6:=FT6.pd;refine⟨c,sd,ol,uc,(S.take x).2,_,_,rfl,ec,hC,C3,abE,by omega,nco,tl,fun Wv G7 C7 ho7 K7 T7=>?_⟩;have abK:∀ z,z∈R.cells\/z∈as2->∃ o,G6 z=some o:=fun z hz=>by
    obtain⟨o,e,_⟩:=Yz.cellK hz;exact⟨o,e⟩
   have acB:∀ z,z∈R.cells\/z∈as2->z≠sd/\z≠Wv:=fun z hz=>⟨(aaX z hz).1,fun q=>by
    rcases ho7 with w|w
    ·exact(aaX z hz).2 0e53
    ·obtain⟨o,e⟩:=abK z hz;rw[q,w] at e;cases e⟩
   have RA7:=Yz.keep (fun z o e hz=>K7 z o e (by
    have Zy:z≠sd/\z≠ol:=by
     rcases hz with rfl|hz
     ·have e9:=Yz.wk.ins;exact⟨fun q=>(by rw[q,C3.hd] at e9;cases e9),fun q=>(by rw[q,C3.hl] at e9;cases e9)⟩
     ·exact aaX z hz
    simp[Zy.1,Zy.2])) T7
   have ns1:rl≠sd:=fun q=>by rw[q,CG.hd] at eG;cases eG
   have eG2:=K2 _ _ (K1.at eG) 2e47;have ab6:rl∉as2:=fun w=>by
    rcases W3.new rl w with w|w
    ·exact nr3 w
    ·rw[eG2] at w;cases w
   have eG6:=K6.at (K5.at (K4.at (W3.kp _ _ eG2 nr2 nr3)));have eG7:=K7 _ _ eG6 2e47;have nr7:rl≠Wv:=fun q=>by
    rcases ho7 with w|w
    ·exact nr1 0e53
    ·rw[<- q,eG6] at w;cases w
   have hG7:=((((((hG.kt 8e2).kt T2).kt T3).kt 1e23).kt 6e31).kt 4e53).kt T7
   exists RA7.ins
   refine⟨R,as2,_,(S.take x).1,sd,Wv,rfl,RA7,yK hn x,C7,by omega,wi6,fun G8 K8=>?_⟩;wp_walk;rw[Wz];have eS1:(takes 6e1 (hs.take 7e1)).1=(S.take x).1:=by rw[es]
   rw[eS1];exact⟨_,_,_,_,as2,_,Wv,rfl,RA7.kp K8,FT6,yK hn x,tl.ok abE,wi6,C7.kp K8,acB,K8.at eG7,hG7.kt (aE.nil K8),nr7,nr2,ab6⟩
  intro σ G h;rw[Wz] at h;obtain⟨v5,v6,v7,v8,as,sl,ol,rfl,_⟩:=h;right;wp_walk;exact q _
end
end
def Mo{q:Program}{K:Params->q0B}{t:Nat}{r:PySem.W.RowW}{d:DefRec}{kwd:List (Str×Expr)}{run:Value->List Value->Sem Value}(e:∀ P:Params,as=List.map (fun x=>x.fst) (K P))(H:PySem.W.WalkO q loose XP (PySem.W.kHook K as e).says r d kwd run):PySem.W.WalkX q loose XP (PySem.W.X.obsZ as) (PySem.W.X.valZ K n t) r d kwd run:=fun w s₀ s₁ mg mb G y a o pm cd doc dV kV h1 h2 h3 h4 h5 h6 args vals bs L=>by
 obtain⟨_,f,_,_⟩:=PySem.W.X.z_facts e y;exact H w s₀ s₁ mg mb G (show PySem.W.InK K w s₁.heap from fun p ob hp=>L.keeps _ _ (f p ob hp)) a o pm cd doc dV kV h1 h2 h3 h4 h5 h6 args vals bs
section
open PySem.W
def PQ{l:OpenLaw}{w:World}{K:Frag}{h:Heap}{fa:Addr}(X:K.In h)(G:h.Ns mainGlobals mg)(hfa:mg "law"=some (.ref fa)){f0 f1 f2 f3 f4 f5 f6 f7 f8 f9 f10 f11 f12 f13 f14 f15 f16 f17 f18 f19 f20 f21 f22 f23 f24 f25 f26 f27 f28 f29 f30 f31 f32 f33 f34 f35 f36 f37 f38 f39 f40 f41 f42 f43 f44 f45 f46 f47 f48 f49 ZJ f51 f52 f53 f54 f55 f56 f57 f58 f59 f60 f61 f62 f63 f64 f65 f66 f67:Addr}{d0 d1 d2 d3 d4 d5 d6 d7 d8 d9 d10 d11 d12 d13 d14 d15 d16 d17 d18 d19 d20 d21 d22 d23 d24 d25 d26 d27 d28 d29 d30 d31 d32 d33 d34 d35 d36 d37 d38 d39 d40 d41 d42 d43 d44 d45 d46 d47 d48 d49 d50 d51 d52 d53 d54 d55 d56 d57 d58 d59 d60 d61 d62 d63 d64 d65 d66 d67:FuncData}{aI:Addr}{aQ:Addr}{aP:Addr}{tk0:Tok}{tk1:Tok}{tk2:Tok}{YE:Addr}{te3:Array DictEntry}{tn3:Nat}(Ym:nsIn K mainGlobals "Tickets"=some (some (.ref aI)))(Yu:plainGet K aI Str.empty=true)(Yp:hasDictIn K aI=true)(Yv:plainOver K aI=true)(Yw:findIn K (.ref aI) "__setattr__"=some (some (.builtin "object.__setattr__")))(rO:makesIn K aI=true)(Yr:keepIn K (.ref aI)=true)(aaB:nsIn K mainGlobals "Walk"=some (some (.ref aQ)))(aaU:plainGet K aQ Str.empty=true)(aaE:hasDictIn K aQ=true)(aaV:plainOver K aQ=true)(aaW:findIn K (.ref aQ) "__setattr__"=some (some (.builtin "object.__setattr__")))(EN:makesIn K aQ=true)(aaN:keepIn K (.ref aQ)=true)(aaY:nsIn K mainGlobals "Run"=some (some (.ref aP)))(abG:plainGet K aP Str.empty=true)(aa4:hasDictIn K aP=true)(abH:plainOver K aP=true)(abI:findIn K (.ref aP) "__setattr__"=some (some (.builtin "object.__setattr__")))(Ld:makesIn K aP=true)(aa9:keepIn K (.ref aP)=true)(F0:Gf0 K "kept" LJ f0 d0)(F1:Gf0 K "worth_of" Ay f1 d1)(F2:Gf0 K "joined" DB f2 d2)(F3:Gf0 K "number_of" xW f3 d3)(F4:Gf0 K "one_or_nought" oQ f4 d4)(F5:Gm0 K aI "__init__" "Tickets.__init__" oN f5 d5)(F6:Gm0 K aI "make" "Tickets.make" oO f6 d6)(F7:Gm0 K aI "is_open" "Tickets.is_open" lZ f7 d7)(F8:Gm0 K aI "those_open" "Tickets.those_open" jG f8 d8)(F9:Gm0 K aI "finish" "Tickets.finish" lY f9 d9)(F10:Gm0 K aI "shut" "Tickets.shut" oP f10 d10)(F11:Gm0 K aI "shut_all" "Tickets.shut_all" kQ f11 d11)(F12:Gm0 K aI "first_done" "Tickets.first_done" jF f12 d12)(F13:Gm0 K aQ "__init__" "Walk.__init__" xR f13 d13)(F14:Gm0 K aQ "come_to" "Walk.come_to" qO f14 d14)(F15:Gm0 K aQ "stands_at" "Walk.stands_at" m8 f15 d15)(F16:Gm0 K aQ "pass_by" "Walk.pass_by" qP f16 d16)(F17:Gm0 K aQ "enter" "Walk.enter" sV f17 d17)(F18:Gm0 K aQ "leave" "Walk.leave" sW f18 d18)(F19:Gf0 K "do_set" GS f19 d19)(F20:Gf0 K "do_order" Aq f20 d20)(F21:Gf0 K "do_timer" Ar f21 d21)(F22:Gf0 K "do_send" Dz f22 d22)(F23:Gf0 K "do_drop" Dx f23 d23)(F24:Gf0 K "do_wait" DA f24 d24)(F25:Gf0 K "do_hear" Dy f25 d25)(F26:Gf0 K "do_end" GR f26 d26)(F27:Gm0 K aP "__init__" "Run.__init__" Am f27 d27)(F28:Gm0 K aP "waits" "Run.waits" xP f28 d28)(F29:Gm0 K aP "open_tickets" "Run.open_tickets" kP f29 d29)(F30:Gm0 K aP "take" "Run.take" Ao f30 d30)(F31:Gm0 K aP "passes_over" "Run.passes_over" lW f31 d31)(F32:Gm0 K aP "take_done" "Run.take_done" oM f32 d32)(F33:Gm0 K aP "take_letter" "Run.take_letter" lX f33 d33)(F34:Gm0 K aP "wake" "Run.wake" Ap f34 d34)(F35:Gm0 K aP "go_on" "Run.go_on" Al f35 d35)(F36:Gm0 K aP "do_one" "Run.do_one" xO f36 d36)(F37:Gm0 K aP "look" "Run.look" An f37 d37)(F38:Gm0 K aP "end" "Run.end" Dw f38 d38)(F39:Gm0 K aP "wear_out" "Run.wear_out" qN f39 d39)(F40:Gm0 K aP "worth" "Run.worth" xQ f40 d40)(F41:Gm0 K aP "new_ticket" "Run.new_ticket" m7 f41 d41)(F42:Gf0 K "_law_deck" As f42 d42)(F43:Gf0 K "_law_pick" Aw f43 d43)(F44:Gf0 K "_law_name" Av f44 d44)(F45:Gf0 K "_law_worth" xV f45 d45)(F46:Gf0 K "_law_saying" tE f46 d46)(F47:Gf0 K "_law_plain" xT f47 d47)(F48:Gf0 K "_law_simple" tF f48 d48)(F49:Gf0 K "_law_closed" sX f49 d49)(F50:Gf0 K "_law_program" qS ZJ d50)(F51:Gf0 K "_law_bounded" qQ f51 d51)(F52:Gf0 K "_law_says" Ax f52 d52)(F53:Gf0 K "_law_flat" Au f53 d53)(F54:Gf0 K "_law_new" DC f54 d54)(F55:Gf0 K "_law_ticket" tG f55 d55)(F56:Gf0 K "_law_ended" xS f56 d56)(F57:Gf0 K "_law_do_plain" qR f57 d57)(F58:Gf0 K "_law_do_wait" sZ f58 d58)(F59:Gf0 K "_law_do_hear" sY f59 d59)(F60:Gf0 K "_law_go" GU f60 d60)(F61:Gf0 K "_law_goes_behind" l6 f61 d61)(F62:Gf0 K "_law_takes" xU f62 d62)(F63:Gf0 K "_law_happening" m9 f63 d63)(F64:Gf0 K "_law_row" DD f64 d64)(F65:Gf0 K "_law_told_right" nA f65 d65)(F66:Gf0 K "_law_stands_right" kR f66 d66)(F67:Gf0 K "law" Pn f67 d67)(wU:findIn K (.ref aI) "made"=some none)(gB:findIn K (.ref aI) "pending"=some none)(gX:findIn K (.ref aI) "answers"=some none)(iE:findIn K (.ref aQ) "blocks"=some none)(fB:findIn K (.ref aQ) "numbers"=some none)(jV:findIn K (.ref aP) "walk"=some none)(dX:findIn K (.ref aP) "sleep"=some none)(CW:findIn K (.ref aP) "arg"=some none)(sP:findIn K (.ref aP) "now"=some none)(iU:findIn K (.ref aP) "names"=some none)(cS:findIn K (.ref aP) "tickets"=some none)(kK:findIn K (.ref aP) "letters"=some none)(v0:nsIn K mainGlobals "GREATEST_WORTH"=some (some (.int 1000000000 tk0)))(v1:nsIn K mainGlobals "GREATEST_MOMENT"=some (some (.int 1000000000000 tk1)))(v2:nsIn K mainGlobals "MOST_AT_ONCE"=some (some (.int 300 tk2)))(v3:nsIn K mainGlobals "DEEDS"=some (some (.ref YE)))(u3:K.lookup YE=some {cls:=.type "dict",data:=.dict te3 tn3})(acC:nsIn K YE "set"=some (some (.ref f19)))(acD:nsIn K YE "order"=some (some (.ref f20)))(acE:nsIn K YE "timer"=some (some (.ref f21)))(acF:nsIn K YE "child"=some (some (.ref f20)))(acG:nsIn K YE "send"=some (some (.ref f22)))(acH:nsIn K YE "drop"=some (some (.ref f23)))(acI:nsIn K YE "wait"=some (some (.ref f24)))(acJ:nsIn K YE "hear"=some (some (.ref f25)))(acK:nsIn K YE "end"=some (some (.ref f26)))(Mq:nsIn K mainGlobals "dict"=some none)(zO:nsIn K mainGlobals "int"=some none)(l7:nsIn K mainGlobals "len"=some none)(Mr:nsIn K mainGlobals "list"=some none)(zP:nsIn K mainGlobals "max"=some none)(Ja:nsIn K mainGlobals "min"=some none)(yS:nsIn K mainGlobals "range"=some none)(OS:nsIn K mainGlobals "set"=some none)(uM:nsIn K mainGlobals "sorted"=some none)(nG:nsIn K mainGlobals "tuple"=some none)(kl3:KeysLit w.params te3.toList) : ∃ fd:FuncData,(∀(s:Shared) (v:Value),BindsTo s fd ⟨[v],[]⟩ [("script",v)])/\∀ base:Heap,K.In base->base.Ns mainGlobals mg->fS l.prog w K mg base Xq 40 fa fd ["script"] (Ha K):=by
 have e:=hfa.symm.trans (mg_of X G F67.a);cases e;refine⟨d67,?_,fun base _ _=>Rt (?_:Tx l.prog w base K mg ⟨f0,d0,f1,d1,f2,d2,f3,d3,f4,d4,f5,d5,f6,d6,f7,d7,f8,d8,f9,d9,f10,d10,f11,d11,f12,d12,f13,d13,f14,d14,f15,d15,f16,d16,f17,d17,f18,d18,f19,d19,f20,d20,f21,d21,f22,d22,f23,d23,f24,d24,f25,d25,f26,d26,f27,d27,f28,d28,f29,d29,f30,d30,f31,d31,f32,d32,f33,d33,f34,d34,f35,d35,f36,d36,f37,d37,f38,d38,f39,d39,f40,d40,f41,d41,f42,d42,f43,d43,f44,d44,f45,d45,f46,d46,f47,d47,f48,d48,f49,d49,ZJ,d50,f51,d51,f52,d52,f53,d53,f54,d54,f55,d55,f56,d56,f57,d57,f58,d58,f59,d59,f60,d60,f61,d61,f62,d62,f63,d63,f64,d64,f65,d65,f66,d66,fa,d67,tk0,tk1,tk2,YE,aI,aQ,aP⟩)⟩
 ·obtain⟨_,_,_,_,_,_,_,_,_,rfl,_⟩:=F67.F.ex;exact fun s v=>.of_eq rfl
 ·exact⟨(F0.go X G),(F1.go X G),(F2.go X G),(F3.go X G),(F4.go X G),F5.go,F6.go,F7.go,F8.go,F9.go,F10.go,F11.go,F12.go,F13.go,F14.go,F15.go,F16.go,F17.go,F18.go,(F19.go X G),(F20.go X G),(F21.go X G),(F22.go X G),(F23.go X G),(F24.go X G),(F25.go X G),(F26.go X G),F27.go,F28.go,F29.go,F30.go,F31.go,F32.go,F33.go,F34.go,F35.go,F36.go,F37.go,F38.go,F39.go,F40.go,F41.go,(F42.go X G),(F43.go X G),(F44.go X G),(F45.go X G),(F46.go X G),(F47.go X G),(F48.go X G),(F49.go X G),(F50.go X G),(F51.go X G),(F52.go X G),(F53.go X G),(F54.go X G),(F55.go X G),(F56.go X G),(F57.go X G),(F58.go X G),(F59.go X G),(F60.go X G),(F61.go X G),(F62.go X G),(F63.go X G),(F64.go X G),(F65.go X G),(F66.go X G),(F67.go X G),⟨Yu,Yp,Yv,Yw⟩,(mg_of X G Ym),⟨rO,F5.a,F5.i,Yr⟩,⟨aaU,aaE,aaV,aaW⟩,(mg_of X G aaB),⟨EN,F13.a,F13.i,aaN⟩,⟨abG,aa4,abH,abI⟩,(mg_of X G aaY),⟨Ld,F27.a,F27.i,aa9⟩,wU,gB,gX,iE,fB,jV,dX,CW,sP,iU,cS,kK,(mg_of X G v0),(mg_of X G v1),(mg_of X G v2),(mg_of X G v3),⟨_,_,u3,kl3⟩,acC,acD,acE,acF,acG,acH,acI,acJ,acK,(mg_none_of X G Mq),(mg_none_of X G zO),(mg_none_of X G l7),(mg_none_of X G Mr),(mg_none_of X G zP),(mg_none_of X G Ja),(mg_none_of X G yS),(mg_none_of X G OS),(mg_none_of X G uM),(mg_none_of X G nG)⟩
end
theorem walk{l:PySem.W.OpenLaw}{q:Program}{YP:World->Heap->Prop}{d:DefRec}{K:Params->q0B}(hn:l.most=some 63)(hdf:d.params.defaults=[])(hY:∀(w:World) (h:Heap),YP w h->(K w.params).In h)(F:∀(w:World) (mg:q0C) (fa:Addr) (h:Heap),(K w.params).In h->h.Ns mainGlobals mg->mg d.name=some (.ref fa) -> ∃ fd:FuncData,(∀(s:Shared) (u:Value),BindsTo s fd ⟨[u],[]⟩ [("script",u)])/\∀ base:Heap,(K w.params).In base->base.Ns mainGlobals mg->fS l.prog w (K w.params) mg base Xq 40 fa fd ["script"] (Ha (K w.params))) : PySem.W.WalkO q loose XP YP l.row.toRowW d [] (fun f vs=>PySem.call f vs) :=
 L2.OQ (n:=63) (k:=40) (x:="script") (CX:=fun _=>Xq) (sp:=fun w=>Ha (K w.params)) hn (by decide) hdf ⟨rfl,by decide,by decide⟩ hY F (fun _ _ a ns hl _ hS=>⟨a,ns,rfl,hS,hl,fun _=>rfl⟩) fun _ _ _ _ _ z=>z
end Own
open PySem PySem.W PyProof.Rows
set_option maxRecDepth 100000 in
set_option maxHeartbeats 0 in
theorem PySem.Challenge.cw_outlast_k22_whole_tickets_once_holds : PySem.Challenge.rw_outlast_k22_whole_tickets_once.Holds := by
 w_on;o_law;z_head;(case hw=>w_witness2)
 k_fill
 refine Own.Mo (fun _=>rfl) ?_;refine Own.walk (l:=PySem.Challenge.rw_outlast_k22_whole_tickets_once) rfl rfl (fun w h Y=>PySem.W.kIn_of Y) ?F
 case F =>
  intro w mg fa h KX G hmg;apply Own.PQ KX G hmg
  iterate 125 (first|(apply Own.TR<;>k_is)|(apply Own.TU<;>k_is)|k_is)
  exact⟨⟨_,_,rfl,rfl⟩,⟨_,_,rfl,rfl⟩,⟨_,_,rfl,rfl⟩,⟨_,_,rfl,rfl⟩,⟨_,_,rfl,rfl⟩,⟨_,_,rfl,rfl⟩,⟨_,_,rfl,rfl⟩,⟨_,_,rfl,rfl⟩,⟨_,_,rfl,rfl⟩,trivial⟩
